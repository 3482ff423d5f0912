/- Texts of Xe Xr Xf Vo Xt Wr Dg Rd Re Rc Rm, joined. -/
import Derived.Test.YtknodedhcdpbiaaGreatDoorP9GuardOnce
set_option maxRecDepth 20000
set_option maxHeartbeats 64000000
namespace Go.Proofs.YtknodedhcdpbiaaGreatDoor
open Go.RowKit
def NonceOK:Prop:=∀ (p:Pkt) (bp:Option Addr) (bc:Nat) (w:World),PG w→PV w p bp bc→Calls Tryz.prog 25 #[.agg (pcs p bp bc).toArray] w fun e w'=>e=.returned (.agg (row .u8 12 (bl (pno p))).toArray)∧Below w.heap.size w w'
theorem pno_rec {p:Pkt} (hk:p.kind=3∧pok p=true):pno p=p.path::(flst p.epo.toNat 2++(0::0::0::flst p.ctr.toNat 6)):=by unfold pno; rw [if_pos hk]
theorem pno_none {p:Pkt} (hk:¬ (p.kind=3∧pok p=true)):pno p=List.replicate 12 0:=by unfold pno; rw [if_neg hk]
theorem run_copy_at {P:Program} {o:Oper} {a:Act} {w:World} (d s:Operand) (dT sT elem:TypeId) (ho:o.op=.call { callee:=.builtin .copy,args:=#[d,s],argTypes:=#[dT,sT] }) (hu:P.underlying dT=some (.slice elem)) (hsz:(P.info? elem).map (·.size)=some 1)
 (b o' dLen dCap sLen sCap m:Nat) (z:Nat→Int) (ad:Addr) (hd:a.eval d=.slice (some ⟨b,o',none⟩) dLen dCap) (hs:a.eval s=.slice (some ad) sLen sCap) (hmin:m=Nat.min sLen dLen) (hb:w.there b o' m) (hc:Src w (some ad) m z) :
 (execOp a.eval o).run P w=.ok (.value (.int .i64 (m:Int))) (w.setCells b o' (row .u8 m z)):=by
 have hrun:=run_copy_cells (P:=P) w dT sT o.type elem b o' dLen dCap ad sLen sCap (row .u8 m z) hu hsz (by rw [row_length]; exact hmin) (fun j v hv=>by
  obtain ⟨hj,rfl⟩:=row_get_some hv
  obtain ⟨ad',he,hc'⟩:=hc j hj
  injection he with he
  subst he
  exact hc') (fun j hj=>by rw [row_length] at hj; exact (hb j hj).1) (fun j hj=>by rw [row_length] at hj; exact (hb j hj).2) (row_one .u8 m z)
 rw [row_length] at hrun
 simp [execOp,ho,resolve,invoke,builtin,hd,hs,hrun,Result.andThen,goInt]
theorem vnonce_any:NonceOK:=by
 intro p bp bc w hg hp; have M:=Mm.init w
 have fold:(.agg #[.int .i64 p.kind,.int .i64 p.role,.int .i64 p.path,.int .i64 p.epo,.int .i64 p.ctr,.slice bp p.body.length bc]:Value)=.agg (pcs p bp bc).toArray:=rfl
 rw [← fold]
 go_enter Tryz.func25,Tryz.ntmps25
 go_upto_region 0 with fail; refine wp_region_list ?_; refine actL (w':=w.alloc (.cells #[.int .i64 p.kind,.int .i64 p.role,.int .i64 p.path,.int .i64 p.epo,.int .i64 p.ctr,.slice bp p.body.length bc] 70)) (.pointer (some ⟨w.heap.size,0,none⟩)) rfl (by kernel_rfl) ?_; simp only [aP,lI,l0,lS]
 have hB_B1:w.heap.size≤w.heap.size:=M.below.size
 replace M:=M.box #[.int .i64 p.kind,.int .i64 p.role,.int .i64 p.path,.int .i64 p.epo,.int .i64 p.ctr,.slice bp p.body.length bc] 70 w.heap.size rfl; generalize w.alloc (.cells #[.int .i64 p.kind,.int .i64 p.role,.int .i64 p.path,.int .i64 p.epo,.int .i64 p.ctr,.slice bp p.body.length bc] 70)=w1 at M  ⊢; generalize eB:w.heap.size=B1 at M hB_B1  ⊢
 have hE_B1:w.heap.size≤B1:=Nat.le_of_eq eB
 have hF_B1:B1≤w.heap.size:=Nat.le_of_eq eB.symm
 clear eB
 replace M:Mm w ([(B1,[.int .i64 p.kind,.int .i64 p.role,.int .i64 p.path,.int .i64 p.epo,.int .i64 p.ctr,.slice bp p.body.length bc])]) w1:=M
 refine actL (w':=w1.alloc (.cells zu8_12 75)) (.pointer (some ⟨w1.heap.size,0,none⟩)) rfl (by kernel_rfl) ?_; simp only [aP,lI,l0,lS]
 have hB_B2:w.heap.size≤w1.heap.size:=M.below.size
 replace M:=M.box zu8_12 75 w1.heap.size rfl; generalize w1.alloc (.cells zu8_12 75)=w2 at M  ⊢; generalize eB:w1.heap.size=B2 at M hB_B2  ⊢
 have hE_B2:w1.heap.size≤B2:=Nat.le_of_eq eB
 have hF_B2:B2≤w1.heap.size:=Nat.le_of_eq eB.symm
 clear eB
 replace M:Mm w ([(B2,[.int .u8 0,.int .u8 0,.int .u8 0,.int .u8 0,.int .u8 0,.int .u8 0,.int .u8 0,.int .u8 0,.int .u8 0,.int .u8 0,.int .u8 0,.int .u8 0]),(B1,[.int .i64 p.kind,.int .i64 p.role,.int .i64 p.path,.int .i64 p.epo,.int .i64 p.ctr,.slice bp p.body.length bc])]) w2:=M
 refine xT ?_; go_upto_region 1 with fail; refine wp_region_list ?_; refine actL (w':=w2.alloc (.cells zu8_12 75)) (.pointer (some ⟨w2.heap.size,0,none⟩)) rfl (by kernel_rfl) ?_; simp only [aP,lI,l0,lS]
 have hB_B3:w.heap.size≤w2.heap.size:=M.below.size
 replace M:=M.box zu8_12 75 w2.heap.size rfl; generalize w2.alloc (.cells zu8_12 75)=w3 at M  ⊢; generalize eB:w2.heap.size=B3 at M hB_B3  ⊢
 have hE_B3:w2.heap.size≤B3:=Nat.le_of_eq eB
 have hF_B3:B3≤w2.heap.size:=Nat.le_of_eq eB.symm
 clear eB
 replace M:Mm w ([(B3,[.int .u8 0,.int .u8 0,.int .u8 0,.int .u8 0,.int .u8 0,.int .u8 0,.int .u8 0,.int .u8 0,.int .u8 0,.int .u8 0,.int .u8 0,.int .u8 0]),(B2,[.int .u8 0,.int .u8 0,.int .u8 0,.int .u8 0,.int .u8 0,.int .u8 0,.int .u8 0,.int .u8 0,.int .u8 0,.int .u8 0,.int .u8 0,.int .u8 0]),(B1,[.int .i64 p.kind,.int .i64 p.role,.int .i64 p.path,.int .i64 p.epo,.int .i64 p.ctr,.slice bp p.body.length bc])]) w3:=M
 refine xT ?_; go_upto_region 2 with fail; refine wp_region_list ?_
 refine xaL (.agg #[.int .i64 p.kind,.int .i64 p.role,.int .i64 p.path,.int .i64 p.epo,.int .i64 p.ctr,.slice bp p.body.length bc]) (loadN 70 _ ⟨B1,0,none⟩ [.int .i64 p.kind,.int .i64 p.role,.int .i64 p.path,.int .i64 p.epo,.int .i64 p.ctr,.slice bp p.body.length bc] rfl rfl (fun _=>by kernel_rfl) (fun _=>by kernel_rfl) (M.rangeAt (mI 2 rfl))) ?_
 obtain ⟨b1,hb1⟩:∃ y_,y_=(prc p):=⟨_,rfl⟩
 have hC:Calls Tryz.prog 38 #[.agg #[.int .i64 p.kind,.int .i64 p.role,.int .i64 p.path,.int .i64 p.epo,.int .i64 p.ctr,.slice bp p.body.length bc]] w3 (fun e w'=>e=.returned (.bool b1)∧Below w3.heap.size w3 w'):=(by rw [hb1]; exact prec_any p bp bc _)
 refine xcL (hC) ?_; rintro e w4 ⟨rfl,l⟩; replace M:=M.call l
 refine ⟨_,rfl,?_⟩
 clear l hC; simp only [aP,lI,l0,lS]; refine xT ?_
 have hb:b1=prc p:=by rw [hb1]
 try clear hb1
 cases b1 with
 | true =>
   have hk:p.kind=3∧pok p=true:=of_decide_eq_true (show prc p=true by simpa using hb)
   have hR:Rec p:=of_decide_eq_true ((pok_rec hk.1).symm.trans hk.2)
   clear hb; go_upto_region 3 with fail; refine wp_region_list ?_
   refine xaL (.agg #[.int .i64 p.kind,.int .i64 p.role,.int .i64 p.path,.int .i64 p.epo,.int .i64 p.ctr,.slice bp p.body.length bc]) (loadN 70 _ ⟨B1,0,none⟩ [.int .i64 p.kind,.int .i64 p.role,.int .i64 p.path,.int .i64 p.epo,.int .i64 p.ctr,.slice bp p.body.length bc] rfl rfl (fun _=>by kernel_rfl) (fun _=>by kernel_rfl) (M.rangeAt (mI 2 rfl))) ?_
   have hC:Calls Tryz.prog 39 #[.agg #[.int .i64 p.kind,.int .i64 p.role,.int .i64 p.path,.int .i64 p.epo,.int .i64 p.ctr,.slice bp p.body.length bc]] w4 (fun e w'=>e=.returned (.agg #[.int .u8 (bl (hdr p) 0),.int .u8 (bl (hdr p) 1),.int .u8 (bl (hdr p) 2),.int .u8 (bl (hdr p) 3),.int .u8 (bl (hdr p) 4),.int .u8 (bl (hdr p) 5),.int .u8 (bl (hdr p) 6),.int .u8 (bl (hdr p) 7),.int .u8 (bl (hdr p) 8),.int .u8 (bl (hdr p) 9),.int .u8 (bl (hdr p) 10)])∧Below w4.heap.size w4 w'):=(phead_any p bp bc _ (hg.mm M) hk.1 hR)
   refine xcL (hC) ?_; rintro e w5 ⟨rfl,l⟩; replace M:=M.call l
   refine ⟨_,rfl,?_⟩
   clear l hC; simp only [aP,lI,l0,lS]; refine actL (w':=w5.alloc (.cells zu8_11 92)) (.pointer (some ⟨w5.heap.size,0,none⟩)) rfl (by kernel_rfl) ?_; simp only [aP,lI,l0,lS]
   have hB_B6:w.heap.size≤w5.heap.size:=M.below.size
   replace M:=M.box zu8_11 92 w5.heap.size rfl; generalize w5.alloc (.cells zu8_11 92)=w6 at M  ⊢; generalize eB:w5.heap.size=B6 at M hB_B6  ⊢
   have hE_B6:w5.heap.size≤B6:=Nat.le_of_eq eB
   have hF_B6:B6≤w5.heap.size:=Nat.le_of_eq eB.symm
   clear eB
   replace M:Mm w ([(B6,[.int .u8 0,.int .u8 0,.int .u8 0,.int .u8 0,.int .u8 0,.int .u8 0,.int .u8 0,.int .u8 0,.int .u8 0,.int .u8 0,.int .u8 0]),(B3,[.int .u8 0,.int .u8 0,.int .u8 0,.int .u8 0,.int .u8 0,.int .u8 0,.int .u8 0,.int .u8 0,.int .u8 0,.int .u8 0,.int .u8 0,.int .u8 0]),(B2,[.int .u8 0,.int .u8 0,.int .u8 0,.int .u8 0,.int .u8 0,.int .u8 0,.int .u8 0,.int .u8 0,.int .u8 0,.int .u8 0,.int .u8 0,.int .u8 0]),(B1,[.int .i64 p.kind,.int .i64 p.role,.int .i64 p.path,.int .i64 p.epo,.int .i64 p.ctr,.slice bp p.body.length bc])]) w6:=M
   refine skipOpL rfl (storeP [.int .u8 (bl (hdr p) 0),.int .u8 (bl (hdr p) 1),.int .u8 (bl (hdr p) 2),.int .u8 (bl (hdr p) 3),.int .u8 (bl (hdr p) 4),.int .u8 (bl (hdr p) 5),.int .u8 (bl (hdr p) 6),.int .u8 (bl (hdr p) 7),.int .u8 (bl (hdr p) 8),.int .u8 (bl (hdr p) 9),.int .u8 (bl (hdr p) 10)] B6 0 92 _ _ rfl rfl rfl (M.thereP mS 0 11 (Nat.le_of_ble_eq_true rfl)) (by kernel_rfl) (List.all_eq_true.1 (rfl:([.int .u8 (bl (hdr p) 0),.int .u8 (bl (hdr p) 1),.int .u8 (bl (hdr p) 2),.int .u8 (bl (hdr p) 3),.int .u8 (bl (hdr p) 4),.int .u8 (bl (hdr p) 5),.int .u8 (bl (hdr p) 6),.int .u8 (bl (hdr p) 7),.int .u8 (bl (hdr p) 8),.int .u8 (bl (hdr p) 9),.int .u8 (bl (hdr p) 10)]:List Value).all (fun u=>u.oneCell')=true))) ?_
   simp only [Act.put]; replace M:=M.setPart [.int .u8 (bl (hdr p) 0),.int .u8 (bl (hdr p) 1),.int .u8 (bl (hdr p) 2),.int .u8 (bl (hdr p) 3),.int .u8 (bl (hdr p) 4),.int .u8 (bl (hdr p) 5),.int .u8 (bl (hdr p) 6),.int .u8 (bl (hdr p) 7),.int .u8 (bl (hdr p) 8),.int .u8 (bl (hdr p) 9),.int .u8 (bl (hdr p) 10)] 0 (Nat.le_of_ble_eq_true rfl)
   generalize w6.setCells B6 0 [.int .u8 (bl (hdr p) 0),.int .u8 (bl (hdr p) 1),.int .u8 (bl (hdr p) 2),.int .u8 (bl (hdr p) 3),.int .u8 (bl (hdr p) 4),.int .u8 (bl (hdr p) 5),.int .u8 (bl (hdr p) 6),.int .u8 (bl (hdr p) 7),.int .u8 (bl (hdr p) 8),.int .u8 (bl (hdr p) 9),.int .u8 (bl (hdr p) 10)]=w7 at M  ⊢
   replace M:Mm w ([(B6,[.int .u8 (bl (hdr p) 0),.int .u8 (bl (hdr p) 1),.int .u8 (bl (hdr p) 2),.int .u8 (bl (hdr p) 3),.int .u8 (bl (hdr p) 4),.int .u8 (bl (hdr p) 5),.int .u8 (bl (hdr p) 6),.int .u8 (bl (hdr p) 7),.int .u8 (bl (hdr p) 8),.int .u8 (bl (hdr p) 9),.int .u8 (bl (hdr p) 10)]),(B3,[.int .u8 0,.int .u8 0,.int .u8 0,.int .u8 0,.int .u8 0,.int .u8 0,.int .u8 0,.int .u8 0,.int .u8 0,.int .u8 0,.int .u8 0,.int .u8 0]),(B2,[.int .u8 0,.int .u8 0,.int .u8 0,.int .u8 0,.int .u8 0,.int .u8 0,.int .u8 0,.int .u8 0,.int .u8 0,.int .u8 0,.int .u8 0,.int .u8 0]),(B1,[.int .i64 p.kind,.int .i64 p.role,.int .i64 p.path,.int .i64 p.epo,.int .i64 p.ctr,.slice bp p.body.length bc])]) w7:=M
   refine xT ?_; go_upto_region 4 with fail; refine wp_region_list ?_; refine xpL (.slice (some ⟨B6,5,none⟩) 6 6) ?_; refine xpL (.slice (some ⟨B6,5,none⟩) 6 6) ?_; refine xT ?_; replace M:=M.swap; go_upto_region 5 with fail
   refine wp_region_held_drew (S:=fun w'=>∃ cs,Mm w ((B3,cs)::(B6,[.int .u8 (bl (hdr p) 0),.int .u8 (bl (hdr p) 1),.int .u8 (bl (hdr p) 2),.int .u8 (bl (hdr p) 3),.int .u8 (bl (hdr p) 4),.int .u8 (bl (hdr p) 5),.int .u8 (bl (hdr p) 6),.int .u8 (bl (hdr p) 7),.int .u8 (bl (hdr p) 8),.int .u8 (bl (hdr p) 9),.int .u8 (bl (hdr p) 10)])::(B2,[.int .u8 0,.int .u8 0,.int .u8 0,.int .u8 0,.int .u8 0,.int .u8 0,.int .u8 0,.int .u8 0,.int .u8 0,.int .u8 0,.int .u8 0,.int .u8 0])::(B1,[.int .i64 p.kind,.int .i64 p.role,.int .i64 p.path,.int .i64 p.epo,.int .i64 p.ctr,.slice bp p.body.length bc])::[]) w') (by kernel_rfl) ⟨_,M.drew⟩ ?_
   intro _; replace M:=M.drew; generalize w7.drew=wd at M ⊢; refine xrH 0 11 rfl (.slice (some ⟨B3,0,none⟩) 12 12) (fun _ _=>by kernel_rfl) ⟨_,M⟩ ?_; refine xrH 1 12 rfl (.slice (some ⟨B6,2,none⟩) 3 9) (fun _ _=>by kernel_rfl) ⟨_,M⟩ ?_
   have M2:Mm w [(B3,[.int .u8 (bl (hdr p) (2+0)),.int .u8 (bl (hdr p) (2+1)),.int .u8 (bl (hdr p) (2+2)),.int .u8 0,.int .u8 0,.int .u8 0,.int .u8 0,.int .u8 0,.int .u8 0,.int .u8 0,.int .u8 0,.int .u8 0]),(B6,[.int .u8 (bl (hdr p) 0),.int .u8 (bl (hdr p) 1),.int .u8 (bl (hdr p) 2),.int .u8 (bl (hdr p) 3),.int .u8 (bl (hdr p) 4),.int .u8 (bl (hdr p) 5),.int .u8 (bl (hdr p) 6),.int .u8 (bl (hdr p) 7),.int .u8 (bl (hdr p) 8),.int .u8 (bl (hdr p) 9),.int .u8 (bl (hdr p) 10)]),(B2,[.int .u8 0,.int .u8 0,.int .u8 0,.int .u8 0,.int .u8 0,.int .u8 0,.int .u8 0,.int .u8 0,.int .u8 0,.int .u8 0,.int .u8 0,.int .u8 0]),(B1,[.int .i64 p.kind,.int .i64 p.role,.int .i64 p.path,.int .i64 p.epo,.int .i64 p.ctr,.slice bp p.body.length bc])] (wd.setCells B3 0 (row .u8 3 (fun j=>bl (hdr p) (2+j)))):=Mm.setPart M (row .u8 3 (fun j=>bl (hdr p) (2+j))) 0 (Nat.le_of_ble_eq_true rfl)
   refine onlyH (i:=2) (some 13) rfl (.int .i64 3) (by kernel_rfl) rfl rfl (run_copy_at _ _ 29 29 5 rfl Tryz.underlying29 (by kernel_rfl) B3 0 12 12 3 9 3 (fun j=>bl (hdr p) (2+j)) ⟨B6,2,none⟩ rfl rfl rfl (M.thereP mS 0 3 (Nat.le_of_ble_eq_true rfl)) (M.srcRow (mT _ mS) 2 3 _ rfl)) ⟨_,M2⟩ ?_; simp only [aP,lI,l0,lS]; clear M
   generalize wd.setCells B3 0 (row .u8 3 (fun j=>bl (hdr p) (2+j)))=we at M2 ⊢; have M:=M2; clear M2
   refine wpAnyH_done (by kernel_rfl) ?_ _
   first | show Exit.then _ _ _ _ _ | show Exit.inBlock _ _ _ _ _
   go_upto_region 6 with fail; refine wp_region_list ?_; refine xpL (.slice (some ⟨B6,5,none⟩) 6 6) ?_; refine xaL (.int .i64 ((6:Nat):Int)) (lenS _ 29 5 (some ⟨B6,5,none⟩) 6 6 rfl Tryz.underlying29 rfl _) ?_; refine xaL (.int .i64 6) (subI .i64 _ _ _ _ _ _ _ rfl rfl rfl (by decide) _) ?_; refine xpL (.slice (some ⟨B3,6,none⟩) 6 6) ?_; refine xpL (.slice (some ⟨B6,5,none⟩) 6 6) ?_
   refine actL (w':=we.setCells B3 6 (row .u8 6 (fun j=>bl (hdr p) (5+j)))) (.int .i64 6) rfl (run_copy_at _ _ 29 29 5 rfl Tryz.underlying29 (by kernel_rfl) B3 6 6 6 6 6 6 (fun j=>bl (hdr p) (5+j)) ⟨B6,5,none⟩ rfl rfl rfl (M.thereP mS 6 6 (Nat.le_of_ble_eq_true rfl)) (M.srcRow (mT _ mS) 5 6 _ rfl)) ?_; simp only [aP,lI,l0,lS]
   replace M:Mm w ([(B3,[.int .u8 (bl (hdr p) (2+0)),.int .u8 (bl (hdr p) (2+1)),.int .u8 (bl (hdr p) (2+2)),.int .u8 0,.int .u8 0,.int .u8 0,.int .u8 (bl (hdr p) (5+0)),.int .u8 (bl (hdr p) (5+1)),.int .u8 (bl (hdr p) (5+2)),.int .u8 (bl (hdr p) (5+3)),.int .u8 (bl (hdr p) (5+4)),.int .u8 (bl (hdr p) (5+5))]),(B6,[.int .u8 (bl (hdr p) 0),.int .u8 (bl (hdr p) 1),.int .u8 (bl (hdr p) 2),.int .u8 (bl (hdr p) 3),.int .u8 (bl (hdr p) 4),.int .u8 (bl (hdr p) 5),.int .u8 (bl (hdr p) 6),.int .u8 (bl (hdr p) 7),.int .u8 (bl (hdr p) 8),.int .u8 (bl (hdr p) 9),.int .u8 (bl (hdr p) 10)]),(B2,[.int .u8 0,.int .u8 0,.int .u8 0,.int .u8 0,.int .u8 0,.int .u8 0,.int .u8 0,.int .u8 0,.int .u8 0,.int .u8 0,.int .u8 0,.int .u8 0]),(B1,[.int .i64 p.kind,.int .i64 p.role,.int .i64 p.path,.int .i64 p.epo,.int .i64 p.ctr,.slice bp p.body.length bc])]) _:=M.setPart (row .u8 6 (fun j=>bl (hdr p) (5+j))) 6 (Nat.le_of_ble_eq_true rfl)
   generalize we.setCells B3 6 (row .u8 6 (fun j=>bl (hdr p) (5+j)))=w8 at M ⊢; refine xT ?_; go_upto_region 7 with fail; refine wp_region_list ?_
   refine xaL (.agg #[.int .u8 (bl (hdr p) (2+0)),.int .u8 (bl (hdr p) (2+1)),.int .u8 (bl (hdr p) (2+2)),.int .u8 0,.int .u8 0,.int .u8 0,.int .u8 (bl (hdr p) (5+0)),.int .u8 (bl (hdr p) (5+1)),.int .u8 (bl (hdr p) (5+2)),.int .u8 (bl (hdr p) (5+3)),.int .u8 (bl (hdr p) (5+4)),.int .u8 (bl (hdr p) (5+5))]) (loadN 75 _ ⟨B3,0,none⟩ [.int .u8 (bl (hdr p) (2+0)),.int .u8 (bl (hdr p) (2+1)),.int .u8 (bl (hdr p) (2+2)),.int .u8 0,.int .u8 0,.int .u8 0,.int .u8 (bl (hdr p) (5+0)),.int .u8 (bl (hdr p) (5+1)),.int .u8 (bl (hdr p) (5+2)),.int .u8 (bl (hdr p) (5+3)),.int .u8 (bl (hdr p) (5+4)),.int .u8 (bl (hdr p) (5+5))] rfl rfl (fun _=>by kernel_rfl) (fun _=>by kernel_rfl) (M.rangeAt mS)) ?_
   replace M:=M.rot3
   refine skipOpL rfl (storeP [.int .u8 (bl (hdr p) (2+0)),.int .u8 (bl (hdr p) (2+1)),.int .u8 (bl (hdr p) (2+2)),.int .u8 0,.int .u8 0,.int .u8 0,.int .u8 (bl (hdr p) (5+0)),.int .u8 (bl (hdr p) (5+1)),.int .u8 (bl (hdr p) (5+2)),.int .u8 (bl (hdr p) (5+3)),.int .u8 (bl (hdr p) (5+4)),.int .u8 (bl (hdr p) (5+5))] B2 0 75 _ _ rfl rfl rfl (M.thereP mS 0 12 (Nat.le_of_ble_eq_true rfl)) (by kernel_rfl) (List.all_eq_true.1 (rfl:([.int .u8 (bl (hdr p) (2+0)),.int .u8 (bl (hdr p) (2+1)),.int .u8 (bl (hdr p) (2+2)),.int .u8 0,.int .u8 0,.int .u8 0,.int .u8 (bl (hdr p) (5+0)),.int .u8 (bl (hdr p) (5+1)),.int .u8 (bl (hdr p) (5+2)),.int .u8 (bl (hdr p) (5+3)),.int .u8 (bl (hdr p) (5+4)),.int .u8 (bl (hdr p) (5+5))]:List Value).all (fun u=>u.oneCell')=true))) ?_
   simp only [Act.put]; replace M:=M.setPart [.int .u8 (bl (hdr p) (2+0)),.int .u8 (bl (hdr p) (2+1)),.int .u8 (bl (hdr p) (2+2)),.int .u8 0,.int .u8 0,.int .u8 0,.int .u8 (bl (hdr p) (5+0)),.int .u8 (bl (hdr p) (5+1)),.int .u8 (bl (hdr p) (5+2)),.int .u8 (bl (hdr p) (5+3)),.int .u8 (bl (hdr p) (5+4)),.int .u8 (bl (hdr p) (5+5))] 0 (Nat.le_of_ble_eq_true rfl)
   generalize w8.setCells B2 0 [.int .u8 (bl (hdr p) (2+0)),.int .u8 (bl (hdr p) (2+1)),.int .u8 (bl (hdr p) (2+2)),.int .u8 0,.int .u8 0,.int .u8 0,.int .u8 (bl (hdr p) (5+0)),.int .u8 (bl (hdr p) (5+1)),.int .u8 (bl (hdr p) (5+2)),.int .u8 (bl (hdr p) (5+3)),.int .u8 (bl (hdr p) (5+4)),.int .u8 (bl (hdr p) (5+5))]=w9 at M  ⊢
   replace M:Mm w ([(B2,[.int .u8 (bl (hdr p) (2+0)),.int .u8 (bl (hdr p) (2+1)),.int .u8 (bl (hdr p) (2+2)),.int .u8 0,.int .u8 0,.int .u8 0,.int .u8 (bl (hdr p) (5+0)),.int .u8 (bl (hdr p) (5+1)),.int .u8 (bl (hdr p) (5+2)),.int .u8 (bl (hdr p) (5+3)),.int .u8 (bl (hdr p) (5+4)),.int .u8 (bl (hdr p) (5+5))]),(B3,[.int .u8 (bl (hdr p) (2+0)),.int .u8 (bl (hdr p) (2+1)),.int .u8 (bl (hdr p) (2+2)),.int .u8 0,.int .u8 0,.int .u8 0,.int .u8 (bl (hdr p) (5+0)),.int .u8 (bl (hdr p) (5+1)),.int .u8 (bl (hdr p) (5+2)),.int .u8 (bl (hdr p) (5+3)),.int .u8 (bl (hdr p) (5+4)),.int .u8 (bl (hdr p) (5+5))]),(B6,[.int .u8 (bl (hdr p) 0),.int .u8 (bl (hdr p) 1),.int .u8 (bl (hdr p) 2),.int .u8 (bl (hdr p) 3),.int .u8 (bl (hdr p) 4),.int .u8 (bl (hdr p) 5),.int .u8 (bl (hdr p) 6),.int .u8 (bl (hdr p) 7),.int .u8 (bl (hdr p) 8),.int .u8 (bl (hdr p) 9),.int .u8 (bl (hdr p) 10)]),(B1,[.int .i64 p.kind,.int .i64 p.role,.int .i64 p.path,.int .i64 p.epo,.int .i64 p.ctr,.slice bp p.body.length bc])]) w9:=M
   refine xT ?_
   have hA:[.int .u8 (bl (hdr p) (2+0)),.int .u8 (bl (hdr p) (2+1)),.int .u8 (bl (hdr p) (2+2)),.int .u8 0,.int .u8 0,.int .u8 0,.int .u8 (bl (hdr p) (5+0)),.int .u8 (bl (hdr p) (5+1)),.int .u8 (bl (hdr p) (5+2)),.int .u8 (bl (hdr p) (5+3)),.int .u8 (bl (hdr p) (5+4)),.int .u8 (bl (hdr p) (5+5))]=row .u8 12 (bl (pno p)):=by rw [pno_rec hk]; rfl
   have c1_:=M.part mS 0 [.int .u8 (bl (hdr p) (2+0)),.int .u8 (bl (hdr p) (2+1)),.int .u8 (bl (hdr p) (2+2)),.int .u8 0,.int .u8 0,.int .u8 0,.int .u8 (bl (hdr p) (5+0)),.int .u8 (bl (hdr p) (5+1)),.int .u8 (bl (hdr p) (5+2)),.int .u8 (bl (hdr p) (5+3)),.int .u8 (bl (hdr p) (5+4)),.int .u8 (bl (hdr p) (5+5))] rfl; have hM:=M.below; clear M
   replace hA:=show Hid _ from hA
   try clear hk
   try clear hR
   go_wp2
   refine bodyPost_ret (v:=.agg (row .u8 12 (bl (pno p))).toArray) (by rw [← hA.out]; exact retCell 2 75 ⟨B2,0,none⟩ [.int .u8 (bl (hdr p) (2+0)),.int .u8 (bl (hdr p) (2+1)),.int .u8 (bl (hdr p) (2+2)),.int .u8 0,.int .u8 0,.int .u8 0,.int .u8 (bl (hdr p) (5+0)),.int .u8 (bl (hdr p) (5+1)),.int .u8 (bl (hdr p) (5+2)),.int .u8 (bl (hdr p) (5+3)),.int .u8 (bl (hdr p) (5+4)),.int .u8 (bl (hdr p) (5+5))] rfl rfl (fun _=>by kernel_rfl) (fun _=>by kernel_rfl) c1_) rfl ?_
   exact ⟨rfl,hM⟩
 | false =>
   have hk:¬ (p.kind=3∧pok p=true):=of_decide_eq_false (show prc p=false by simpa using hb)
   clear hb; go_upto_region 7 with fail; refine wp_region_list ?_; refine xaL (.agg zu8_12) (loadN 75 _ ⟨B3,0,none⟩ [.int .u8 0,.int .u8 0,.int .u8 0,.int .u8 0,.int .u8 0,.int .u8 0,.int .u8 0,.int .u8 0,.int .u8 0,.int .u8 0,.int .u8 0,.int .u8 0] rfl rfl (fun _=>by kernel_rfl) (fun _=>by kernel_rfl) (M.rangeAt mS)) ?_; replace M:=M.swap
   refine skipOpL rfl (storeP [.int .u8 0,.int .u8 0,.int .u8 0,.int .u8 0,.int .u8 0,.int .u8 0,.int .u8 0,.int .u8 0,.int .u8 0,.int .u8 0,.int .u8 0,.int .u8 0] B2 0 75 _ _ rfl rfl rfl (M.thereP mS 0 12 (Nat.le_of_ble_eq_true rfl)) (by kernel_rfl) (List.all_eq_true.1 (rfl:([.int .u8 0,.int .u8 0,.int .u8 0,.int .u8 0,.int .u8 0,.int .u8 0,.int .u8 0,.int .u8 0,.int .u8 0,.int .u8 0,.int .u8 0,.int .u8 0]:List Value).all (fun u=>u.oneCell')=true))) ?_
   simp only [Act.put]; replace M:=M.setPart [.int .u8 0,.int .u8 0,.int .u8 0,.int .u8 0,.int .u8 0,.int .u8 0,.int .u8 0,.int .u8 0,.int .u8 0,.int .u8 0,.int .u8 0,.int .u8 0] 0 (Nat.le_of_ble_eq_true rfl)
   generalize w4.setCells B2 0 [.int .u8 0,.int .u8 0,.int .u8 0,.int .u8 0,.int .u8 0,.int .u8 0,.int .u8 0,.int .u8 0,.int .u8 0,.int .u8 0,.int .u8 0,.int .u8 0]=w10 at M  ⊢
   replace M:Mm w ([(B2,[.int .u8 0,.int .u8 0,.int .u8 0,.int .u8 0,.int .u8 0,.int .u8 0,.int .u8 0,.int .u8 0,.int .u8 0,.int .u8 0,.int .u8 0,.int .u8 0]),(B3,[.int .u8 0,.int .u8 0,.int .u8 0,.int .u8 0,.int .u8 0,.int .u8 0,.int .u8 0,.int .u8 0,.int .u8 0,.int .u8 0,.int .u8 0,.int .u8 0]),(B1,[.int .i64 p.kind,.int .i64 p.role,.int .i64 p.path,.int .i64 p.epo,.int .i64 p.ctr,.slice bp p.body.length bc])]) w10:=M
   refine xT ?_
   have hA:[.int .u8 0,.int .u8 0,.int .u8 0,.int .u8 0,.int .u8 0,.int .u8 0,.int .u8 0,.int .u8 0,.int .u8 0,.int .u8 0,.int .u8 0,.int .u8 0]=row .u8 12 (bl (pno p)):=by rw [pno_none hk]; rfl
   have c1_:=M.part mS 0 [.int .u8 0,.int .u8 0,.int .u8 0,.int .u8 0,.int .u8 0,.int .u8 0,.int .u8 0,.int .u8 0,.int .u8 0,.int .u8 0,.int .u8 0,.int .u8 0] rfl; have hM:=M.below; clear M; replace hA:=show Hid _ from hA
   try clear hk
   try clear hR
   go_wp2
   refine bodyPost_ret (v:=.agg (row .u8 12 (bl (pno p))).toArray) (by rw [← hA.out]; exact retCell 2 75 ⟨B2,0,none⟩ [.int .u8 0,.int .u8 0,.int .u8 0,.int .u8 0,.int .u8 0,.int .u8 0,.int .u8 0,.int .u8 0,.int .u8 0,.int .u8 0,.int .u8 0,.int .u8 0] rfl rfl (fun _=>by kernel_rfl) (fun _=>by kernel_rfl) c1_) rfl ?_
   exact ⟨rfl,hM⟩
theorem vprint_any:PrintOK:=by
 intro p bp bc w hg hp; have M:=Mm.init w
 have fold:(.agg #[.int .i64 p.kind,.int .i64 p.role,.int .i64 p.path,.int .i64 p.epo,.int .i64 p.ctr,.slice bp p.body.length bc]:Value)=.agg (pcs p bp bc).toArray:=rfl
 rw [← fold]
 go_enter Tryz.func27,Tryz.ntmps27
 go_upto_region 0 with fail; refine wp_region_list ?_; refine actL (w':=w.alloc (.cells #[.int .i64 p.kind,.int .i64 p.role,.int .i64 p.path,.int .i64 p.epo,.int .i64 p.ctr,.slice bp p.body.length bc] 70)) (.pointer (some ⟨w.heap.size,0,none⟩)) rfl (by kernel_rfl) ?_; simp only [aP,lI,l0,lS]
 have hB_B1:w.heap.size≤w.heap.size:=M.below.size
 replace M:=M.box #[.int .i64 p.kind,.int .i64 p.role,.int .i64 p.path,.int .i64 p.epo,.int .i64 p.ctr,.slice bp p.body.length bc] 70 w.heap.size rfl; generalize w.alloc (.cells #[.int .i64 p.kind,.int .i64 p.role,.int .i64 p.path,.int .i64 p.epo,.int .i64 p.ctr,.slice bp p.body.length bc] 70)=w1 at M  ⊢; generalize eB:w.heap.size=B1 at M hB_B1  ⊢
 have hE_B1:w.heap.size≤B1:=Nat.le_of_eq eB
 have hF_B1:B1≤w.heap.size:=Nat.le_of_eq eB.symm
 clear eB
 replace M:Mm w ([(B1,[.int .i64 p.kind,.int .i64 p.role,.int .i64 p.path,.int .i64 p.epo,.int .i64 p.ctr,.slice bp p.body.length bc])]) w1:=M
 refine xpL (.slice none 0 0) ?_; refine xpL (.int .i64 0) ?_; refine xT ?_; go_upto_region 1 with fail; refine wp_region_list ?_
 refine xaL (.agg #[.int .i64 p.kind,.int .i64 p.role,.int .i64 p.path,.int .i64 p.epo,.int .i64 p.ctr,.slice bp p.body.length bc]) (loadN 70 _ ⟨B1,0,none⟩ [.int .i64 p.kind,.int .i64 p.role,.int .i64 p.path,.int .i64 p.epo,.int .i64 p.ctr,.slice bp p.body.length bc] rfl rfl (fun _=>by kernel_rfl) (fun _=>by kernel_rfl) (M.rangeAt mS)) ?_
 obtain ⟨b1,hb1⟩:∃ y_,y_=(pok p):=⟨_,rfl⟩
 have hC:Calls Tryz.prog 40 #[.agg #[.int .i64 p.kind,.int .i64 p.role,.int .i64 p.path,.int .i64 p.epo,.int .i64 p.ctr,.slice bp p.body.length bc]] w1 (fun e w'=>e=.returned (.bool b1)∧Below w1.heap.size w1 w'):=(by rw [hb1]; exact pmay_any p bp bc _)
 refine xcL (hC) ?_; rintro e w2 ⟨rfl,l⟩; replace M:=M.call l
 refine ⟨_,rfl,?_⟩
 clear l hC; simp only [aP,lI,l0,lS]
 obtain ⟨b2,hb2⟩:∃ y_,y_=(!b1):=⟨_,rfl⟩
 refine xaL (.bool b2) (by subst hb2; cases b1 <;> rfl) ?_; refine xpL (.bool b2) ?_; refine xT ?_
 have hb:b2=!pok p:=by rw [hb2,hb1]
 try clear hb1
 try clear hb2
 cases b2 with
 | true =>
   go_upto_region 2 with fail; refine wp_region_list ?_; refine xpL (.slice none 0 0) ?_; refine xpL (.int .i64 110) ?_; refine xT ?_
   have hok:pok p=false:=by simpa using hb
   have hA:pE p=110∧pL p=[]:=by unfold pE pL; rw [hok]; exact ⟨rfl,rfl⟩
   replace hA:=show Hid _ from hA; clear hb hok; go_wp2; go_ret2
   exact ⟨⟨_,by rw [hA.out.1]; rfl,by rw [hA.out.2]; exact World.ownsRow_nil _ _ _ 1⟩,M.below⟩
 | false =>
   have hok:pok p=true:=by simpa using hb
   have hlen:p.body.length≤300:=by rcases (pok_iff p).1 hok with h | h; exact h.2.1.2; have:=h.2.2.2.2.2; omega
   have hA:pE p=0∧pL p=pby p:=by unfold pE pL; rw [if_pos hok,if_pos hok]; exact ⟨rfl,rfl⟩
   clear hb
   by_cases h3:p.kind=3
   · have hh:phd p=hdr p:=phd_rec h3 hok
     have hhl:=hdr_length p; go_upto_region 3 with fail; refine wp_region_list ?_; refine xpL (.pointer (some ⟨B1,0,none⟩)) ?_; refine xaL (.int .i64 p.kind) (load1 3 _ ⟨B1,0,none⟩ _ rfl rfl (fun _=>by kernel_rfl) (M.get mS 0 _ rfl)) ?_; refine xaL (.bool true) (eqlI .i64 _ _ _ _ _ _ rfl rfl rfl true (by rw [h3]; rfl) _) ?_; refine xpL (.bool true) ?_; refine xT ?_
     go_upto_region 4 with fail; refine wp_region_held_drew (S:=fun w'=>Mm w [(B1,[.int .i64 p.kind,.int .i64 p.role,.int .i64 p.path,.int .i64 p.epo,.int .i64 p.ctr,.slice bp p.body.length bc])] w') (by kernel_rfl) M.drew ?_; clear M; intro M; generalize w2.drew=w3 at M  ⊢
     refine xrH 0 12 rfl (.agg #[.int .i64 p.kind,.int .i64 p.role,.int .i64 p.path,.int .i64 p.epo,.int .i64 p.ctr,.slice bp p.body.length bc]) (fun _ M=>loadN 70 _ ⟨B1,0,none⟩ [.int .i64 p.kind,.int .i64 p.role,.int .i64 p.path,.int .i64 p.epo,.int .i64 p.ctr,.slice bp p.body.length bc] rfl rfl (fun _=>by kernel_rfl) (fun _=>by kernel_rfl) (M.rangeAt mS)) M ?_
     refine xrH 2 14 rfl (.pointer (some ⟨B1,5,none⟩)) (fun _ M=>(by kernel_rfl)) M ?_; refine xrH 3 15 rfl (.slice bp p.body.length bc) (fun _ M=>load1 29 _ ⟨B1,5,none⟩ _ rfl rfl (fun _=>by kernel_rfl) (M.get mS 5 _ rfl)) M ?_; refine callH (i:=1) (some 13) rfl (by kernel_rfl) rfl rfl (fun _=>by kernel_rfl) (vhead_any p bp bc _ (hg.mm M) (hp.below M.below (xnR _))) ?_
     rintro e w4 ⟨⟨v,rfl,O_1⟩,l⟩; replace M:=M.call l; clear l
     rw [hh] at O_1
     obtain ⟨p1,c1,rfl,_,_⟩:=O_1.bytes
     refine ⟨_,rfl,M,?_⟩
     simp only [aP,lI,l0,lS]; have HC:=catIn2 w4.heap.size p1 bp ((hdr p).length) p.body.length c1 bc (bl (hdr p)) (bl p.body) 29 rfl O_1.src (hp.src.below M.below (xnR _)) O_1.nilCap hp.nil; have hlb:=(Below.refl w4.heap.size w4).alloc (xnR _) (.cells #[.slice p1 ((hdr p).length) c1,.slice bp p.body.length bc] 29)
     refine onlyH (i:=4) (some 16) rfl (.slice (some ⟨w4.heap.size,0,none⟩) 2 2) (by kernel_rfl) rfl rfl (by kernel_rfl) (M.call hlb) ?_; simp only [aP,lI,l0,lS]; replace M:=M.call hlb; clear hlb O_1; generalize hC:w4.heap.size=C at HC ⊢; clear hC; generalize (w4.alloc (.cells #[.slice p1 ((hdr p).length) c1,.slice bp p.body.length bc] 29))=w5 at M HC ⊢
     refine callH (i:=5) (some 17) rfl (by kernel_rfl) rfl rfl (fun _=>by kernel_rfl) (concat_any ⟨C,0,none⟩ 2 2 _ _ _ _ (by decide) (by rw [tot2]; omega) _ HC) ?_; rintro e w6 ⟨v,rfl,hO,l⟩
     rw [tot2] at hO
     have O_9:OwnL w6 w.heap.size (hdr p++p.body) v:=OwnL.app ((hO.congr fun j _=>catz2 _ _ _ _ j).lower M.below.size)
     replace M:=M.call l; clear l hO HC
     refine ⟨_,rfl,M,?_⟩
     simp only [aP,lI,l0,lS]; refine xrH 6 2 rfl (v) (fun _ M=>(by kernel_rfl)) M ?_; refine xrH 7 3 rfl (.int .i64 0) (fun _ M=>(by kernel_rfl)) M ?_
     refine wpAnyH_done (by kernel_rfl) ?_ _
     first | show Exit.then _ _ _ _ _ | show Exit.inBlock _ _ _ _ _
     have hB:(hdr p++p.body)=pby p:=by unfold pby; rw [if_pos h3]
     replace hA:=show Hid _ from hA; replace hB:=show Hid _ from hB; clear hok hlen hh hhl h3; go_wp2; go_ret2
     exact ⟨⟨_,by rw [hA.out.1]; rfl,by rw [hA.out.2,← hB.out]; exact O_9⟩,M.below⟩
   · have hk:1≤p.kind∧p.kind≤2:=by rcases (pok_iff p).1 hok with h | h; have:=h.1; omega; exact absurd h.1 h3
     go_upto_region 3 with fail; refine wp_region_list ?_; refine xpL (.pointer (some ⟨B1,0,none⟩)) ?_; refine xaL (.int .i64 p.kind) (load1 3 _ ⟨B1,0,none⟩ _ rfl rfl (fun _=>by kernel_rfl) (M.get mS 0 _ rfl)) ?_; refine xaL (.bool false) (eqlI .i64 _ _ _ _ _ _ rfl rfl rfl false (by simpa using h3) _) ?_; refine xpL (.bool false) ?_; refine xT ?_; go_upto_region 5 with fail
     refine wp_region_list ?_; refine xpL (.pointer (some ⟨B1,0,none⟩)) ?_; refine xaL (.int .i64 p.kind) (load1 3 _ ⟨B1,0,none⟩ _ rfl rfl (fun _=>by kernel_rfl) (M.get mS 0 _ rfl)) ?_; refine xaL (.int .u8 p.kind) (convI .i64 .u8 _ _ _ _ _ rfl (by kernel_rfl) Tryz.underlying5 (by kernel_rfl) rfl (by rw [IntKind.wrap_u8]; omega) _) ?_
     refine actL (w':=w2.alloc (.cells #[.int .u8 p.kind] 5)) (.slice (some ⟨w2.heap.size,0,none⟩) 1 1) rfl (by kernel_rfl) ?_; simp only [aP,lI,l0,lS]
     have O_1:OwnL (w2.alloc (.cells #[.int .u8 p.kind] 5)) w.heap.size [p.kind] (.slice (some ⟨w2.heap.size,0,none⟩) 1 1):=Own.lit w2 w.heap.size 5 .u8 1 (bl [p.kind]) M.below.size (by unfold maxLen; omega)
     replace M:=M.call ((Below.refl w2.heap.size w2).alloc (xnR _) (.cells #[.int .u8 p.kind] 5)); generalize w2.alloc (.cells #[.int .u8 p.kind] 5)=w7 at M O_1 ⊢; generalize (some ⟨w2.heap.size,0,none⟩:Option Addr)=p1 at O_1 ⊢; refine xpL (.pointer (some ⟨B1,5,none⟩)) ?_
     refine xaL (.slice bp p.body.length bc) (load1 29 _ ⟨B1,5,none⟩ _ rfl rfl (fun _=>by kernel_rfl) (M.get mS 5 _ rfl)) ?_; have HC:=catIn2 w7.heap.size p1 bp 1 p.body.length 1 bc (bl ([p.kind])) (bl p.body) 29 rfl O_1.src (hp.src.below M.below (xnR _)) O_1.nilCap hp.nil; have hlb:=(Below.refl w7.heap.size w7).alloc (xnR _) (.cells #[.slice p1 1 1,.slice bp p.body.length bc] 29)
     refine actL (w':=(w7.alloc (.cells #[.slice p1 1 1,.slice bp p.body.length bc] 29))) (.slice (some ⟨w7.heap.size,0,none⟩) 2 2) rfl (by kernel_rfl) ?_; simp only [aP,lI,l0,lS]; replace M:=M.call hlb; clear hlb O_1; generalize hC:w7.heap.size=C at HC ⊢; clear hC; generalize (w7.alloc (.cells #[.slice p1 1 1,.slice bp p.body.length bc] 29))=w8 at M HC ⊢
     refine xcL (concat_any ⟨C,0,none⟩ 2 2 _ _ _ _ (by decide) (by rw [tot2]; omega) _ HC) ?_; rintro e w9 ⟨v,rfl,hO,l⟩
     rw [tot2] at hO
     have O_9:OwnL w9 w.heap.size ([p.kind]++p.body) v:=OwnL.app ((hO.congr fun j _=>catz2 _ _ _ _ j).lower M.below.size)
     replace M:=M.call l; clear l hO HC; refine xeL ?_; refine xpL (v) ?_; refine xpL (.int .i64 0) ?_; refine xT ?_
     have hB:([p.kind]++p.body)=pby p:=by unfold pby; rw [if_neg h3]; rfl
     replace hA:=show Hid _ from hA; replace hB:=show Hid _ from hB; clear hok hlen hk h3; go_wp2; go_ret2
     exact ⟨⟨_,by rw [hA.out.1]; rfl,by rw [hA.out.2,← hB.out]; exact O_9⟩,M.below⟩
def pk0:Pkt:=⟨0,0,0,0,0,[]⟩
def psP (b:List Int):Pkt:=match pps b with
 | .ok p=>p
 | .error _=>pk0
def psE (b:List Int):Int:=match pps b with
 | .ok _=>0
 | .error e=>e
def ParseOK:Prop:=∀ (sp:Option Addr) (cap:Nat) (b:List Int) (w:World),PG w→b.length≤140737488351232→b.length≤cap→(sp=none→cap=0)→Byts b→Src w sp b.length (bl b)→Calls Tryz.prog 29 #[.slice sp b.length cap] w fun e w'=>(∃ bp bc,e=.returned (.tuple #[.agg (pcs (psP b) bp bc).toArray,.int .i64 (psE b)])∧PV w' (psP b) bp bc)∧Below w.heap.size w w'
theorem pv0 (w:World):PV w pk0 none 0:=⟨fun j hj=>absurd hj (xnZ j),xnR _,fun _=>rfl,Nat.zero_le _,fun x hx=>(by cases hx),show i64 0 by unfold i64; decide,show i64 0 by unfold i64; decide,show i64 0 by unfold i64; decide,show i64 0 by unfold i64; decide,show i64 0 by unfold i64; decide⟩
theorem ps_err {b:List Int} {e:Int} (h:pps b=.error e):psP b=pk0∧psE b=e:=by unfold psP psE; rw [h]; exact ⟨rfl,rfl⟩
theorem ps_ok {b:List Int} {p:Pkt} (h:pps b=.ok p):psP b=p∧psE b=0:=by unfold psP psE; rw [h]; exact ⟨rfl,rfl⟩
theorem pps_short {b:List Int} (h:b.length=0∨(bl b 0=3∧b.length<27)):pps b=.error 3:=by unfold pps; rw [if_pos h]
theorem pps_bad {b:List Int} (h:¬ (b.length=0∨(bl b 0=3∧b.length<27))) (ho:pok (prs b)=false):pps b=.error 110:=by unfold pps; rw [if_neg h,ho]; rfl
theorem pps_good {b:List Int} (h:¬ (b.length=0∨(bl b 0=3∧b.length<27))) (ho:pok (prs b)=true):pps b=.ok (prs b):=by unfold pps; rw [if_neg h,if_pos ho]
theorem i64_byte {x:Int} (h:0≤x∧x<256):i64 x:=by unfold i64; omega
theorem fV_i64 (z:Nat→Int) (s:Nat) (hs:s≤6) (hz:In 256 s z):i64 (fV z s):=by
 have h1:=fV_nonneg z s hz s (xnR s)
 have h2:(256:Int)^s≤281474976710656:=by
  have:s=0∨s=1∨s=2∨s=3∨s=4∨s=5∨s=6:=by omega
  rcases this with rfl | rfl | rfl | rfl | rfl | rfl | rfl <;> decide
 unfold i64
 omega
def TakeFO (len:Nat) (z:Nat→Int) (s:Int) (B:Nat) (e:Ending) (w':World):Prop:=∃ v,e=.returned (.tuple #[.int .i64 (gN len z s),v,.int .i64 (gE len s)])∧Own w' B 5 .u8 (gL len s) (fun j=>z (s.toNat+j)) v
def TakeFixedOw:Prop:=∀ (sp:Option Addr) (len cap:Nat),len≤140737488351240→len≤cap→(sp=none→cap=0)→∀ z:Nat→Int,In 256 len z→∀ s:Int,(-9223372036854775808≤s∧s<9223372036854775808)→∀ w:World,Src w sp len z→Calls Tryz.prog 62 #[.slice sp len cap,.int .i64 s] w fun e w'=>TakeFO len z s w.heap.size e w'∧Below w.heap.size w w'
theorem vtakefixed_own:TakeFixedOw:=by
 intro sp len cap hlen hcap hnil z hz s hs2 w hs
 go_enter Tryz.func62,Tryz.ntmps62
 by_cases hsz':1≤s∧s≤7
 · have hsz:decide (1≤s∧s≤7)=true:=decide_eq_true hsz'
   have hgE:gE len s=if (len:Int)<s then 3 else 0:=by unfold gE; rw [if_neg (by omega)]
   go_upto_region 1 with fail; refine wp_region_list ?_; refine xpL (.int .i64 s) ?_; refine xcL (isSize_any s _) ?_; rintro e w1 ⟨rfl,hB⟩
   rw [hsz]
   refine xeL ?_; refine xpL (.bool false) ?_; show Exit.then _ _ _ _ _; clear hsz
   obtain ⟨s,rfl⟩:=xiN (show 0≤s by omega)
   go_upto_region 3 with fail; refine wp_region_list ?_; refine xpL (.slice sp len cap) ?_; refine xcL (along_any sp len cap hcap hnil z _ (hs.below hB (xnR _))) ?_; rintro e w2 ⟨B,rfl,T⟩; refine xeL ?_; refine xpL (.tuple #[(.func (.func 96) #[] #[.pointer (some ⟨B,0,none⟩)]),(.func (.func 97) #[] #[.pointer (some ⟨B,0,none⟩)])]) ?_
   refine xpL (.func (.func 96) #[] #[.pointer (some ⟨B,0,none⟩)]) ?_; refine xpL (.func (.func 97) #[] #[.pointer (some ⟨B,0,none⟩)]) ?_; refine xpL (.func (.func 96) #[] #[.pointer (some ⟨B,0,none⟩)]) ?_; refine xpL (.func (.func 97) #[] #[.pointer (some ⟨B,0,none⟩)]) ?_; show Exit.then _ _ _ _ _; go_upto_region 4 with fail; refine wp_region_list ?_
   refine xpL (.func (.func 96) #[] #[.pointer (some ⟨B,0,none⟩)]) ?_; refine xpL (.int .i64 (s:Int)) ?_; refine xcL (next_any w1 B len z s _ T) ?_; intro e w3 h; clear T
   rcases h with ⟨h1,rfl,T⟩ | ⟨h1,dp,dc,rfl,hdc,hdn,hds,T⟩
   · have hE:gE len (s:Int)=3:=by rw [hgE,if_pos (by omega)]
     have hN:gN len z (s:Int)=0:=by unfold gN; rw [hE]; rfl
     have hL:gL len (s:Int)=0:=by unfold gL; rw [hE]; rfl
     replace hB:=hB.trans (T.below.mono hB.size); refine xeL ?_; refine xpL (.tuple #[(.slice none 0 0),.bool false]) ?_; refine xpL (.slice none 0 0) ?_; refine xpL (.bool false) ?_; refine xpL (.slice none 0 0) ?_; refine xpL (.bool false) ?_; show Exit.then _ _ _ _ _; go_upto_region 5 with fail; refine wp_region_list ?_; refine xpL (.bool false) ?_; refine xpL (.bool true) ?_
     show Exit.then _ _ _ _ _; have hA:=show Hid _ from (And.intro hN (And.intro hL hE)); clear hN hL hE; go_wp2; refine bodyPost_ret (results_tmp3 Tryz.results62 _ _ _) rfl ?_
     exact ⟨⟨.slice none 0 0,by rw [hA.out.1,hA.out.2.2]; rfl,by rw [hA.out.2.1]; exact World.ownsRow_nil _ _ _ 1⟩,hB⟩
   · have hE:gE len (s:Int)=0:=by rw [hgE,if_neg (by omega)]
     have hN:gN len z (s:Int)=fV z s:=by unfold gN; rw [if_pos hE,Int.toNat_natCast]
     have hL:gL len (s:Int)=len-s:=by unfold gL; rw [if_pos hE,Int.toNat_natCast]
     refine xeL ?_; refine xpL (.tuple #[(.slice dp s dc),.bool true]) ?_; refine xpL (.slice dp s dc) ?_; refine xpL (.bool true) ?_; refine xpL (.slice dp s dc) ?_; refine xpL (.bool true) ?_; show Exit.then _ _ _ _ _; go_upto_region 5 with fail; refine wp_region_list ?_; refine xpL (.bool true) ?_; refine xpL (.bool false) ?_; show Exit.then _ _ _ _ _; go_upto_region 7 with fail
     refine wp_region_list ?_; refine xpL (.slice dp s dc) ?_; refine xcL (vjoin_any 0 (by decide) dp s dc (by omega) z (fun j hj=>hz j (by omega)) _ (hds.below T.below (xnR _))) ?_; rintro e w4 ⟨rfl,l⟩
     rw [jV_zero z s]
     replace T:=T.call l; clear l; refine xeL ?_; refine xpL (.func (.func 97) #[] #[.pointer (some ⟨B,0,none⟩)]) ?_; replace hB:=hB.trans (T.below.mono hB.size); refine xcL (left_any w1 B _ (by omega) _ _ T) ?_; rintro e w5 ⟨v,rfl,hO,l⟩
     obtain ⟨rp,rc,rfl,_,_⟩:=hO.bytes
     replace hO:=hO.lower hB.size; replace hB:=hB.trans (l.mono hB.size); clear T l; refine xeL ?_; refine xpL (.int .i64 (fV z s)) ?_; refine xpL (.slice rp (len-s) rc) ?_; refine xpL (.int .i64 0) ?_; show Exit.then _ _ _ _ _; have hA:=show Hid _ from (And.intro hN (And.intro hL hE)); clear hN hL hE hgE; go_wp2; refine bodyPost_ret (results_tmp3 Tryz.results62 _ _ _) rfl ?_
     exact ⟨⟨_,by rw [hA.out.1,hA.out.2.2]; rfl,by rw [hA.out.2.1]; exact hO⟩,hB⟩
 · have hsz:decide (1≤s∧s≤7)=false:=decide_eq_false hsz'
   have hE:gE len s=1:=by unfold gE; rw [if_pos (by omega)]
   have hN:gN len z s=0:=by unfold gN; rw [hE]; rfl
   have hL:gL len s=0:=by unfold gL; rw [hE]; rfl
   go_upto_region 1 with fail; refine wp_region_list ?_; refine xpL (.int .i64 s) ?_; refine xcL (isSize_any s _) ?_; rintro e w1 ⟨rfl,hB⟩
   rw [hsz]
   refine xeL ?_; refine xpL (.bool true) ?_; show Exit.then _ _ _ _ _; have hA:=show Hid _ from (And.intro hN (And.intro hL hE)); clear hN hL hE; go_wp2; refine bodyPost_ret (results_tmp3 Tryz.results62 _ _ _) rfl ?_
   exact ⟨⟨.slice none 0 0,by rw [hA.out.1,hA.out.2.2]; rfl,by rw [hA.out.2.1]; exact World.ownsRow_nil _ _ _ 1⟩,hB⟩
def qszn:Nat→Nat
 | 3=>2
 | 4=>6
 | _=>1
def rof:Nat→Nat
 | 0=>0
 | k+1=>rof k+qszn k
def rnum (b:List Int) (k:Nat):Int:=fV (fun i=>bl b (rof k+i)) (qszn k)
def rnz (b:List Int) (j k:Nat):Int:=if k<j then rnum b k else 0
def ncs (b:List Int) (j:Nat):List Value:=[.int .i64 (rnz b j 0),.int .i64 (rnz b j 1),.int .i64 (rnz b j 2),.int .i64 (rnz b j 3),.int .i64 (rnz b j 4)]
theorem rnum_byte (b:List Int) (k:Nat) (hk:k<3):rnum b k=bl b k:=by
 have:k=0∨k=1∨k=2:=by omega
 rcases this with rfl | rfl | rfl
 · show 0*256+bl b 0=bl b 0; omega
 · show 0*256+bl b 1=bl b 1; omega
 · show 0*256+bl b 2=bl b 2; omega
theorem PG.row {w:World} (h:PG w):∀ (j:Nat) (v:Value),([.int .i64 1,.int .i64 1,.int .i64 1,.int .i64 2,.int .i64 6]:List Value)[j]?=some v→w.cell? ((⟨0,0,none⟩:Addr).add j)=some v:=fun j v hv=>by
 rw [Addr.add_mid,Nat.zero_add]
 match j,hv with
 | 0,hv=>cases hv; exact h.sz 0 (by decide)
 | 1,hv=>cases hv; exact h.sz 1 (by decide)
 | 2,hv=>cases hv; exact h.sz 2 (by decide)
 | 3,hv=>cases hv; exact h.sz 3 (by decide)
 | 4,hv=>cases hv; exact h.sz 4 (by decide)
 | _+5,hv=>cases hv
theorem prs_rec {b:List Int} (h:bl b 0=3):prs b=⟨rnum b 0,rnum b 1,rnum b 2,rnum b 3,rnum b 4,b.drop 11⟩:=by
 unfold prs
 rw [if_pos h,rnum_byte b 0 (by decide),rnum_byte b 1 (by decide),rnum_byte b 2 (by decide),h]
 rfl
theorem prs_other {b:List Int} (h:¬ bl b 0=3):prs b=⟨bl b 0,0,0,0,0,b.drop 1⟩:=by unfold prs; rw [if_neg h]
abbrev OwnN (w:World) (base n:Nat) (f:Nat→Int) (v:Value):Prop:=Own w base 5 .u8 n f v
theorem i64_0:i64 0:=by unfold i64; decide
theorem pread_any (sp:Option Addr) (cap:Nat) (b:List Int) (w0 w:World) (hl0:Below w0.heap.size w0 w) (hg:PG w) (hlen:b.length≤140737488351232) (hcap:b.length≤cap) (hnil:sp=none→cap=0) (hb:Byts b) (hs0:Src w0 sp b.length (bl b)) (h1:0<b.length) (h27:bl b 0=3→27≤b.length) :
 Calls Tryz.prog 44 #[.slice sp b.length cap] w fun e w'=>(∃ bp bc,e=.returned (.agg (pcs (prs b) bp bc).toArray)∧PV w0 (prs b) bp bc)∧Below w.heap.size w w':=by
 have M:=Mm.init w
 obtain ⟨ad,rfl,_⟩:=hs0 0 h1
 have hs:=hs0.below hl0 (xnR _); have hx0:=hb.bl 0 h1
 go_enter Tryz.func44,Tryz.ntmps44
 go_upto_region 0 with fail; refine wp_region_list ?_; refine actL (w':=w.alloc (.cells #[.int .i64 0,.int .i64 0,.int .i64 0,.int .i64 0,.int .i64 0,.slice none 0 0] 70)) (.pointer (some ⟨w.heap.size,0,none⟩)) rfl (by kernel_rfl) ?_; simp only [aP,lI,l0,lS]
 have hB_B1:w.heap.size≤w.heap.size:=M.below.size
 replace M:=M.box #[.int .i64 0,.int .i64 0,.int .i64 0,.int .i64 0,.int .i64 0,.slice none 0 0] 70 w.heap.size rfl; generalize w.alloc (.cells #[.int .i64 0,.int .i64 0,.int .i64 0,.int .i64 0,.int .i64 0,.slice none 0 0] 70)=w1 at M  ⊢; generalize eB:w.heap.size=B1 at M hB_B1  ⊢
 have hE_B1:w.heap.size≤B1:=Nat.le_of_eq eB
 have hF_B1:B1≤w.heap.size:=Nat.le_of_eq eB.symm
 clear eB
 replace M:Mm w ([(B1,[.int .i64 0,.int .i64 0,.int .i64 0,.int .i64 0,.int .i64 0,.slice none 0 0])]) w1:=M
 refine xT ?_
 by_cases h3:bl b 0=3
 · have hl27:=h27 h3
   go_upto_region 1 with fail; refine wp_region_list ?_; refine xpL (.slice (some ad) b.length cap) ?_; refine xaL (.pointer (some (ad.add 0))) (idxSl 29 5 b.length cap .i64 ad 0 _ _ Tryz.underlying29 (fun _=>by kernel_rfl) (by omega) rfl rfl rfl _) ?_; refine xaL (.int .u8 (bl b 0)) (load1 5 _ (ad.add 0) _ rfl rfl (fun _=>by kernel_rfl) ((hs.below M.below (xnR _)).at 0 (by omega))) ?_
   refine xaL (.bool false) (neqI .u8 _ _ _ _ _ _ rfl rfl rfl false (by rw [h3]; rfl) _) ?_; refine xT ?_; go_upto_region 3 with fail; refine wp_region_list ?_; refine actL (w':=w1.alloc (.cells zi64_5 110)) (.pointer (some ⟨w1.heap.size,0,none⟩)) rfl (by kernel_rfl) ?_; simp only [aP,lI,l0,lS]
   have hB_B2:w.heap.size≤w1.heap.size:=M.below.size
   replace M:=M.box zi64_5 110 w1.heap.size rfl; generalize w1.alloc (.cells zi64_5 110)=w2 at M  ⊢; generalize eB:w1.heap.size=B2 at M hB_B2  ⊢
   have hE_B2:w1.heap.size≤B2:=Nat.le_of_eq eB
   have hF_B2:B2≤w1.heap.size:=Nat.le_of_eq eB.symm
   clear eB
   replace M:Mm w ([(B2,[.int .i64 0,.int .i64 0,.int .i64 0,.int .i64 0,.int .i64 0]),(B1,[.int .i64 0,.int .i64 0,.int .i64 0,.int .i64 0,.int .i64 0,.slice none 0 0])]) w2:=M
   refine xT ?_; go_upto_region 4 with fail; refine wp_region_list ?_; refine xpL (.slice (some ad) b.length cap) ?_
   obtain ⟨q19,hq19,hqs19⟩:=cut_hi (P:=Tryz.prog) (t:=29) (by kernel_rfl) (fun _=>by kernel_rfl) (some ad) b.length cap 11 (by omega) hcap
   refine xaL (.slice q19 11 cap) (cutHi _ _ _ _ _ _ rfl rfl rfl (hq19 _)) ?_; refine xpL (.slice q19 11 cap) ?_; refine xT ?_; go_upto_region 5 with fail; refine wp_region_list ?_
   refine xaL (.agg #[.int .i64 1,.int .i64 1,.int .i64 1,.int .i64 2,.int .i64 6]) (loadN 110 _ ⟨0,0,none⟩ [.int .i64 1,.int .i64 1,.int .i64 1,.int .i64 2,.int .i64 6] rfl rfl (fun _=>by kernel_rfl) (fun _=>by kernel_rfl) (hg.mm M).row) ?_; refine xpL (.int .i64 0) ?_; refine xT ?_
   have hS0:Src w2 q19 11 (fun k=>bl b (rof 0+k)):=(hqs19 _ _ (hs.below M.below (xnR _))).congr fun k _=>congrArg (bl b) (Nat.zero_add k).symm
   have hN0:q19=none→cap=0:=fun e=>by obtain ⟨_,e',_⟩:=hS0 0 (by decide); rw [e] at e'; cases e'
   have HI:=show Hid _ from (And.intro (show Mm w [(B2,ncs b 0),(B1,[.int .i64 0,.int .i64 0,.int .i64 0,.int .i64 0,.int .i64 0,.slice none 0 0])] w2 from M) (And.intro hS0 hN0)); clear M hS0 hN0
   have hc11:11≤cap:=by omega
   go_wp2
   go_loopw [4,21] (fun v i w'=>∃ (j:Nat) (rp:Option Addr) (rc:Nat),j≤5∧i=.int .i64 (j:Int)∧v=.slice rp (11-rof j) rc∧11-rof j≤rc∧(rp=none→rc=0)∧Src w' rp (11-rof j) (fun k=>bl b (rof j+k))∧Mm w [(B2,ncs b j),(B1,[.int .i64 0,.int .i64 0,.int .i64 0,.int .i64 0,.int .i64 0,.slice none 0 0])] w') (fun _ i _=>5-(intOf i).toNat)
   case atStart=>exact ⟨0,_,_,Nat.zero_le _,rfl,rfl,hc11,HI.out.2.2,HI.out.2.1,HI.out.1⟩
   case round =>
    clear HI
    obtain ⟨j,rp,rc,hj,rfl,rfl,hrc,hrn,hrs,M⟩:=hrel
    have hj6:j=0∨j=1∨j=2∨j=3∨j=4∨j=5:=by omega
    clear hj
    rcases hj6 with rfl | rfl | rfl | rfl | rfl | rfl
    · replace hrc:11≤rc:=hrc
      replace hrs:Src wr rp 11 (fun k=>bl b (rof 0+k)):=hrs
      replace M:Mm w [(B2,[.int .i64 0,.int .i64 0,.int .i64 0,.int .i64 0,.int .i64 0]),(B1,[.int .i64 0,.int .i64 0,.int .i64 0,.int .i64 0,.int .i64 0,.slice none 0 0])] wr:=M
      have er:11-rof 0=11:=rfl
      rw [er]
      clear er; go_upto_region 6 with fail; refine wp_region_list ?_; refine xaL (.bool true) (lssI .i64 _ _ _ _ _ _ rfl rfl rfl true (by decide) _) ?_; refine xT ?_; go_upto_region 7 with fail; refine wp_region_list ?_; refine xpL (.int .i64 ((0:Nat):Int)) ?_; refine xpL (.int .i64 1) ?_; refine xpL (.int .i64 ((0:Nat):Int)) ?_; refine xpL (.int .i64 1) ?_; refine xT ?_
      go_upto_region 8 with fail; refine wp_region_list ?_; refine xpL (.int .i64 ((0:Nat):Int)) ?_; refine xpL (.slice rp 11 rc) ?_; refine xpL (.int .i64 1) ?_
      have hzz:In 256 11 (fun k=>bl b (rof 0+k)):=fun k hk=>hb.bl (rof 0+k) (by show 0+k<b.length; omega)
      have hBt:=M.lt mS; refine xcL (vtakefixed_own rp 11 rc (by decide) hrc hrn (fun k=>bl b (rof 0+k)) hzz 1 (by decide) _ hrs) ?_; rintro e w3 ⟨⟨v,rfl,O_0⟩,l⟩
      have O_2:OwnN w3 wr.heap.size 10 (fun k=>bl b (rof 1+k)) v:=(show Own w3 wr.heap.size 5 .u8 10 _ v from O_0).congr fun k _=>congrArg (bl b) (by show 0+(1+k)=1+k; omega)
      replace M:=M.call l
      obtain ⟨p2,c2,rfl,_,_⟩:=O_2.bytes
      have eg:gN 11 (fun k=>bl b (rof 0+k)) 1=rnum b 0:=rfl
      have ee:gE 11 1=0:=rfl
      rw [eg,ee]
      clear l O_0 hzz hrs hrc hrn eg ee; refine xeL ?_; refine xpL (.tuple #[.int .i64 (rnum b 0),.slice p2 10 c2,.int .i64 0]) ?_; refine xpL (.int .i64 (rnum b 0)) ?_; refine xpL (.slice p2 10 c2) ?_; refine xpL (.int .i64 0) ?_; refine xpL (.pointer (some ⟨B2,0,none⟩)) ?_
      refine skipOpL rfl (storeAny (.int .i64 (rnum b 0)) B2 0 3 _ _ rfl rfl rfl rfl rfl (M.isSome mS 0 (by simp)) (M.free mS 0 (by simp)) (by kernel_rfl)) ?_; simp only [Act.put]; replace M:=M.set 0 (by simp) (.int .i64 (rnum b 0)); replace O_2:=Own.off1 O_2 ((Off.refl [B2] _).set (b:=B2) mS 0 (.int .i64 (rnum b 0))) (by omega)
      generalize w3.setCell ⟨B2,0,none⟩ (.int .i64 (rnum b 0))=w4 at M O_2 ⊢
      replace M:Mm w ([(B2,[.int .i64 (rnum b 0),.int .i64 0,.int .i64 0,.int .i64 0,.int .i64 0]),(B1,[.int .i64 0,.int .i64 0,.int .i64 0,.int .i64 0,.int .i64 0,.slice none 0 0])]) w4:=M
      refine xpL (.slice p2 10 c2) ?_; refine xT ?_; have HS:=show Hid _ from (And.intro M O_2); clear M O_2; go_wp2
      go_roundw
      case rel=>first | exact ⟨1,_,_,by decide,by go_num,rfl,HS.out.2.le,HS.out.2.nilCap,HS.out.2.src,HS.out.1⟩ | ((repeat apply Exists.intro); refine ⟨⟨1,_,_,by decide,?_,rfl,HS.out.2.le,HS.out.2.nilCap,HS.out.2.src,HS.out.1⟩,rfl⟩ <;> first | rfl | go_num)
      case measure=>simp [intOf]
    · replace hrc:10≤rc:=hrc
      replace hrs:Src wr rp 10 (fun k=>bl b (rof 1+k)):=hrs
      replace M:Mm w [(B2,[.int .i64 (rnum b 0),.int .i64 0,.int .i64 0,.int .i64 0,.int .i64 0]),(B1,[.int .i64 0,.int .i64 0,.int .i64 0,.int .i64 0,.int .i64 0,.slice none 0 0])] wr:=M
      have er:11-rof 1=10:=rfl
      rw [er]
      clear er; go_upto_region 6 with fail; refine wp_region_list ?_; refine xaL (.bool true) (lssI .i64 _ _ _ _ _ _ rfl rfl rfl true (by decide) _) ?_; refine xT ?_; go_upto_region 7 with fail; refine wp_region_list ?_; refine xpL (.int .i64 ((1:Nat):Int)) ?_; refine xpL (.int .i64 1) ?_; refine xpL (.int .i64 ((1:Nat):Int)) ?_; refine xpL (.int .i64 1) ?_; refine xT ?_
      go_upto_region 8 with fail; refine wp_region_list ?_; refine xpL (.int .i64 ((1:Nat):Int)) ?_; refine xpL (.slice rp 10 rc) ?_; refine xpL (.int .i64 1) ?_
      have hzz:In 256 10 (fun k=>bl b (rof 1+k)):=fun k hk=>hb.bl (rof 1+k) (by show 1+k<b.length; omega)
      have hBt:=M.lt mS; refine xcL (vtakefixed_own rp 10 rc (by decide) hrc hrn (fun k=>bl b (rof 1+k)) hzz 1 (by decide) _ hrs) ?_; rintro e w5 ⟨⟨v,rfl,O_0⟩,l⟩
      have O_2:OwnN w5 wr.heap.size 9 (fun k=>bl b (rof 2+k)) v:=(show Own w5 wr.heap.size 5 .u8 9 _ v from O_0).congr fun k _=>congrArg (bl b) (by show 1+(1+k)=2+k; omega)
      replace M:=M.call l
      obtain ⟨p2,c2,rfl,_,_⟩:=O_2.bytes
      have eg:gN 10 (fun k=>bl b (rof 1+k)) 1=rnum b 1:=rfl
      have ee:gE 10 1=0:=rfl
      rw [eg,ee]
      clear l O_0 hzz hrs hrc hrn eg ee; refine xeL ?_; refine xpL (.tuple #[.int .i64 (rnum b 1),.slice p2 9 c2,.int .i64 0]) ?_; refine xpL (.int .i64 (rnum b 1)) ?_; refine xpL (.slice p2 9 c2) ?_; refine xpL (.int .i64 0) ?_; refine xpL (.pointer (some ⟨B2,1,none⟩)) ?_
      refine skipOpL rfl (storeAny (.int .i64 (rnum b 1)) B2 1 3 _ _ rfl rfl rfl rfl rfl (M.isSome mS 1 (by simp)) (M.free mS 1 (by simp)) (by kernel_rfl)) ?_; simp only [Act.put]; replace M:=M.set 1 (by simp) (.int .i64 (rnum b 1)); replace O_2:=Own.off1 O_2 ((Off.refl [B2] _).set (b:=B2) mS 1 (.int .i64 (rnum b 1))) (by omega)
      generalize w5.setCell ⟨B2,1,none⟩ (.int .i64 (rnum b 1))=w6 at M O_2 ⊢
      replace M:Mm w ([(B2,[.int .i64 (rnum b 0),.int .i64 (rnum b 1),.int .i64 0,.int .i64 0,.int .i64 0]),(B1,[.int .i64 0,.int .i64 0,.int .i64 0,.int .i64 0,.int .i64 0,.slice none 0 0])]) w6:=M
      refine xpL (.slice p2 9 c2) ?_; refine xT ?_; have HS:=show Hid _ from (And.intro M O_2); clear M O_2; go_wp2
      go_roundw
      case rel=>first | exact ⟨2,_,_,by decide,by go_num,rfl,HS.out.2.le,HS.out.2.nilCap,HS.out.2.src,HS.out.1⟩ | ((repeat apply Exists.intro); refine ⟨⟨2,_,_,by decide,?_,rfl,HS.out.2.le,HS.out.2.nilCap,HS.out.2.src,HS.out.1⟩,rfl⟩ <;> first | rfl | go_num)
      case measure=>simp [intOf]
    · replace hrc:9≤rc:=hrc
      replace hrs:Src wr rp 9 (fun k=>bl b (rof 2+k)):=hrs
      replace M:Mm w [(B2,[.int .i64 (rnum b 0),.int .i64 (rnum b 1),.int .i64 0,.int .i64 0,.int .i64 0]),(B1,[.int .i64 0,.int .i64 0,.int .i64 0,.int .i64 0,.int .i64 0,.slice none 0 0])] wr:=M
      have er:11-rof 2=9:=rfl
      rw [er]
      clear er; go_upto_region 6 with fail; refine wp_region_list ?_; refine xaL (.bool true) (lssI .i64 _ _ _ _ _ _ rfl rfl rfl true (by decide) _) ?_; refine xT ?_; go_upto_region 7 with fail; refine wp_region_list ?_; refine xpL (.int .i64 ((2:Nat):Int)) ?_; refine xpL (.int .i64 1) ?_; refine xpL (.int .i64 ((2:Nat):Int)) ?_; refine xpL (.int .i64 1) ?_; refine xT ?_
      go_upto_region 8 with fail; refine wp_region_list ?_; refine xpL (.int .i64 ((2:Nat):Int)) ?_; refine xpL (.slice rp 9 rc) ?_; refine xpL (.int .i64 1) ?_
      have hzz:In 256 9 (fun k=>bl b (rof 2+k)):=fun k hk=>hb.bl (rof 2+k) (by show 2+k<b.length; omega)
      have hBt:=M.lt mS; refine xcL (vtakefixed_own rp 9 rc (by decide) hrc hrn (fun k=>bl b (rof 2+k)) hzz 1 (by decide) _ hrs) ?_; rintro e w7 ⟨⟨v,rfl,O_0⟩,l⟩
      have O_2:OwnN w7 wr.heap.size 8 (fun k=>bl b (rof 3+k)) v:=(show Own w7 wr.heap.size 5 .u8 8 _ v from O_0).congr fun k _=>congrArg (bl b) (by show 2+(1+k)=3+k; omega)
      replace M:=M.call l
      obtain ⟨p2,c2,rfl,_,_⟩:=O_2.bytes
      have eg:gN 9 (fun k=>bl b (rof 2+k)) 1=rnum b 2:=rfl
      have ee:gE 9 1=0:=rfl
      rw [eg,ee]
      clear l O_0 hzz hrs hrc hrn eg ee; refine xeL ?_; refine xpL (.tuple #[.int .i64 (rnum b 2),.slice p2 8 c2,.int .i64 0]) ?_; refine xpL (.int .i64 (rnum b 2)) ?_; refine xpL (.slice p2 8 c2) ?_; refine xpL (.int .i64 0) ?_; refine xpL (.pointer (some ⟨B2,2,none⟩)) ?_
      refine skipOpL rfl (storeAny (.int .i64 (rnum b 2)) B2 2 3 _ _ rfl rfl rfl rfl rfl (M.isSome mS 2 (by simp)) (M.free mS 2 (by simp)) (by kernel_rfl)) ?_; simp only [Act.put]; replace M:=M.set 2 (by simp) (.int .i64 (rnum b 2)); replace O_2:=Own.off1 O_2 ((Off.refl [B2] _).set (b:=B2) mS 2 (.int .i64 (rnum b 2))) (by omega)
      generalize w7.setCell ⟨B2,2,none⟩ (.int .i64 (rnum b 2))=w8 at M O_2 ⊢
      replace M:Mm w ([(B2,[.int .i64 (rnum b 0),.int .i64 (rnum b 1),.int .i64 (rnum b 2),.int .i64 0,.int .i64 0]),(B1,[.int .i64 0,.int .i64 0,.int .i64 0,.int .i64 0,.int .i64 0,.slice none 0 0])]) w8:=M
      refine xpL (.slice p2 8 c2) ?_; refine xT ?_; have HS:=show Hid _ from (And.intro M O_2); clear M O_2; go_wp2
      go_roundw
      case rel=>first | exact ⟨3,_,_,by decide,by go_num,rfl,HS.out.2.le,HS.out.2.nilCap,HS.out.2.src,HS.out.1⟩ | ((repeat apply Exists.intro); refine ⟨⟨3,_,_,by decide,?_,rfl,HS.out.2.le,HS.out.2.nilCap,HS.out.2.src,HS.out.1⟩,rfl⟩ <;> first | rfl | go_num)
      case measure=>simp [intOf]
    · replace hrc:8≤rc:=hrc
      replace hrs:Src wr rp 8 (fun k=>bl b (rof 3+k)):=hrs
      replace M:Mm w [(B2,[.int .i64 (rnum b 0),.int .i64 (rnum b 1),.int .i64 (rnum b 2),.int .i64 0,.int .i64 0]),(B1,[.int .i64 0,.int .i64 0,.int .i64 0,.int .i64 0,.int .i64 0,.slice none 0 0])] wr:=M
      have er:11-rof 3=8:=rfl
      rw [er]
      clear er; go_upto_region 6 with fail; refine wp_region_list ?_; refine xaL (.bool true) (lssI .i64 _ _ _ _ _ _ rfl rfl rfl true (by decide) _) ?_; refine xT ?_; go_upto_region 7 with fail; refine wp_region_list ?_; refine xpL (.int .i64 ((3:Nat):Int)) ?_; refine xpL (.int .i64 2) ?_; refine xpL (.int .i64 ((3:Nat):Int)) ?_; refine xpL (.int .i64 2) ?_; refine xT ?_
      go_upto_region 8 with fail; refine wp_region_list ?_; refine xpL (.int .i64 ((3:Nat):Int)) ?_; refine xpL (.slice rp 8 rc) ?_; refine xpL (.int .i64 2) ?_
      have hzz:In 256 8 (fun k=>bl b (rof 3+k)):=fun k hk=>hb.bl (rof 3+k) (by show 3+k<b.length; omega)
      have hBt:=M.lt mS; refine xcL (vtakefixed_own rp 8 rc (by decide) hrc hrn (fun k=>bl b (rof 3+k)) hzz 2 (by decide) _ hrs) ?_; rintro e w9 ⟨⟨v,rfl,O_0⟩,l⟩
      have O_2:OwnN w9 wr.heap.size 6 (fun k=>bl b (rof 4+k)) v:=(show Own w9 wr.heap.size 5 .u8 6 _ v from O_0).congr fun k _=>congrArg (bl b) (by show 3+(2+k)=5+k; omega)
      replace M:=M.call l
      obtain ⟨p2,c2,rfl,_,_⟩:=O_2.bytes
      have eg:gN 8 (fun k=>bl b (rof 3+k)) 2=rnum b 3:=rfl
      have ee:gE 8 2=0:=rfl
      rw [eg,ee]
      clear l O_0 hzz hrs hrc hrn eg ee; refine xeL ?_; refine xpL (.tuple #[.int .i64 (rnum b 3),.slice p2 6 c2,.int .i64 0]) ?_; refine xpL (.int .i64 (rnum b 3)) ?_; refine xpL (.slice p2 6 c2) ?_; refine xpL (.int .i64 0) ?_; refine xpL (.pointer (some ⟨B2,3,none⟩)) ?_
      refine skipOpL rfl (storeAny (.int .i64 (rnum b 3)) B2 3 3 _ _ rfl rfl rfl rfl rfl (M.isSome mS 3 (by simp)) (M.free mS 3 (by simp)) (by kernel_rfl)) ?_; simp only [Act.put]; replace M:=M.set 3 (by simp) (.int .i64 (rnum b 3)); replace O_2:=Own.off1 O_2 ((Off.refl [B2] _).set (b:=B2) mS 3 (.int .i64 (rnum b 3))) (by omega)
      generalize w9.setCell ⟨B2,3,none⟩ (.int .i64 (rnum b 3))=w10 at M O_2 ⊢
      replace M:Mm w ([(B2,[.int .i64 (rnum b 0),.int .i64 (rnum b 1),.int .i64 (rnum b 2),.int .i64 (rnum b 3),.int .i64 0]),(B1,[.int .i64 0,.int .i64 0,.int .i64 0,.int .i64 0,.int .i64 0,.slice none 0 0])]) w10:=M
      refine xpL (.slice p2 6 c2) ?_; refine xT ?_; have HS:=show Hid _ from (And.intro M O_2); clear M O_2; go_wp2
      go_roundw
      case rel=>first | exact ⟨4,_,_,by decide,by go_num,rfl,HS.out.2.le,HS.out.2.nilCap,HS.out.2.src,HS.out.1⟩ | ((repeat apply Exists.intro); refine ⟨⟨4,_,_,by decide,?_,rfl,HS.out.2.le,HS.out.2.nilCap,HS.out.2.src,HS.out.1⟩,rfl⟩ <;> first | rfl | go_num)
      case measure=>simp [intOf]
    · replace hrc:6≤rc:=hrc
      replace hrs:Src wr rp 6 (fun k=>bl b (rof 4+k)):=hrs
      replace M:Mm w [(B2,[.int .i64 (rnum b 0),.int .i64 (rnum b 1),.int .i64 (rnum b 2),.int .i64 (rnum b 3),.int .i64 0]),(B1,[.int .i64 0,.int .i64 0,.int .i64 0,.int .i64 0,.int .i64 0,.slice none 0 0])] wr:=M
      have er:11-rof 4=6:=rfl
      rw [er]
      clear er; go_upto_region 6 with fail; refine wp_region_list ?_; refine xaL (.bool true) (lssI .i64 _ _ _ _ _ _ rfl rfl rfl true (by decide) _) ?_; refine xT ?_; go_upto_region 7 with fail; refine wp_region_list ?_; refine xpL (.int .i64 ((4:Nat):Int)) ?_; refine xpL (.int .i64 6) ?_; refine xpL (.int .i64 ((4:Nat):Int)) ?_; refine xpL (.int .i64 6) ?_; refine xT ?_
      go_upto_region 8 with fail; refine wp_region_list ?_; refine xpL (.int .i64 ((4:Nat):Int)) ?_; refine xpL (.slice rp 6 rc) ?_; refine xpL (.int .i64 6) ?_
      have hzz:In 256 6 (fun k=>bl b (rof 4+k)):=fun k hk=>hb.bl (rof 4+k) (by show 5+k<b.length; omega)
      have hBt:=M.lt mS; refine xcL (vtakefixed_own rp 6 rc (by decide) hrc hrn (fun k=>bl b (rof 4+k)) hzz 6 (by decide) _ hrs) ?_; rintro e w11 ⟨⟨v,rfl,O_0⟩,l⟩
      have O_2:OwnN w11 wr.heap.size 0 (fun k=>bl b (rof 5+k)) v:=(show Own w11 wr.heap.size 5 .u8 0 _ v from O_0).congr fun k _=>congrArg (bl b) (by show 5+(6+k)=11+k; omega)
      replace M:=M.call l
      obtain ⟨p2,c2,rfl,_,_⟩:=O_2.bytes
      have eg:gN 6 (fun k=>bl b (rof 4+k)) 6=rnum b 4:=rfl
      have ee:gE 6 6=0:=rfl
      rw [eg,ee]
      clear l O_0 hzz hrs hrc hrn eg ee; refine xeL ?_; refine xpL (.tuple #[.int .i64 (rnum b 4),.slice p2 0 c2,.int .i64 0]) ?_; refine xpL (.int .i64 (rnum b 4)) ?_; refine xpL (.slice p2 0 c2) ?_; refine xpL (.int .i64 0) ?_; refine xpL (.pointer (some ⟨B2,4,none⟩)) ?_
      refine skipOpL rfl (storeAny (.int .i64 (rnum b 4)) B2 4 3 _ _ rfl rfl rfl rfl rfl (M.isSome mS 4 (by simp)) (M.free mS 4 (by simp)) (by kernel_rfl)) ?_; simp only [Act.put]; replace M:=M.set 4 (by simp) (.int .i64 (rnum b 4)); replace O_2:=Own.off1 O_2 ((Off.refl [B2] _).set (b:=B2) mS 4 (.int .i64 (rnum b 4))) (by omega)
      generalize w11.setCell ⟨B2,4,none⟩ (.int .i64 (rnum b 4))=w12 at M O_2 ⊢
      replace M:Mm w ([(B2,[.int .i64 (rnum b 0),.int .i64 (rnum b 1),.int .i64 (rnum b 2),.int .i64 (rnum b 3),.int .i64 (rnum b 4)]),(B1,[.int .i64 0,.int .i64 0,.int .i64 0,.int .i64 0,.int .i64 0,.slice none 0 0])]) w12:=M
      refine xpL (.slice p2 0 c2) ?_; refine xT ?_; have HS:=show Hid _ from (And.intro M O_2); clear M O_2; go_wp2
      go_roundw
      case rel=>first | exact ⟨5,_,_,by decide,by go_num,rfl,HS.out.2.le,HS.out.2.nilCap,HS.out.2.src,HS.out.1⟩ | ((repeat apply Exists.intro); refine ⟨⟨5,_,_,by decide,?_,rfl,HS.out.2.le,HS.out.2.nilCap,HS.out.2.src,HS.out.1⟩,rfl⟩ <;> first | rfl | go_num)
      case measure=>simp [intOf]
    · clear hrs hrc hrn
      replace M:Mm w [(B2,[.int .i64 (rnum b 0),.int .i64 (rnum b 1),.int .i64 (rnum b 2),.int .i64 (rnum b 3),.int .i64 (rnum b 4)]),(B1,[.int .i64 0,.int .i64 0,.int .i64 0,.int .i64 0,.int .i64 0,.slice none 0 0])] wr:=M
      go_upto_region 6 with fail; refine wp_region_list ?_; refine xaL (.bool false) (lssI .i64 _ _ _ _ _ _ rfl rfl rfl false (by decide) _) ?_; refine xT ?_
      obtain ⟨qb,hqb,hqs,hqn⟩:=cut_loA (P:=Tryz.prog) (t:=29) (by kernel_rfl) (fun _=>by kernel_rfl) (some ad) b.length cap 11 (by omega) hcap (fun e=>by cases e)
      have hdl:b.length-11=(b.drop 11).length:=by rw [List.length_drop]
      have hsb:Src w0 qb (b.drop 11).length (bl (b.drop 11)):=by
       have h:=(hqs [] _ _ ⟨hs0,fun _ _ _ h=>by cases h⟩).1
       rw [hdl] at h
       exact h.congr fun j _=>(bl_drop b 11 j).symm
      rw [hdl] at hqb
      have hcb:(b.drop 11).length≤cap-11:=by omega
      have hmb:(b.drop 11).length≤140737488351232:=by omega
      clear hqs hdl; replace M:=M.swap
      have hI2:∀ k,k<5→i64 (rnum b k):=fun k hk=>by
       have:k=0∨k=1∨k=2∨k=3∨k=4:=by omega
       rcases this with rfl | rfl | rfl | rfl | rfl <;> exact fV_i64 _ _ (by decide) (fun i hi=>hb.bl _ (by have:i<6:=xnL hi (by decide); show _+i<b.length; first | (show 0+i<_; omega) | (show 1+i<_; omega) | (show 2+i<_; omega) | (show 3+i<_; omega) | (show 5+i<_; omega)))
      have hpv:PV w0 (prs b) qb (cap-11):=by rw [prs_rec h3]; exact ⟨hsb,hcb,hqn,hmb,hb.drop 11,hI2 0 (by decide),hI2 1 (by decide),hI2 2 (by decide),hI2 3 (by decide),hI2 4 (by decide)⟩
      have hpe:pcs (prs b) qb (cap-11)=[.int .i64 (rnum b 0),.int .i64 (rnum b 1),.int .i64 (rnum b 2),.int .i64 (rnum b 3),.int .i64 (rnum b 4),.slice qb (b.drop 11).length (cap-11)]:=by rw [prs_rec h3]; rfl
      clear hI2; go_upto_region 10 with fail; refine wp_region_held_drew (S:=fun w'=>∃ cs,Mm w ((B1,cs)::[(B2,[.int .i64 (rnum b 0),.int .i64 (rnum b 1),.int .i64 (rnum b 2),.int .i64 (rnum b 3),.int .i64 (rnum b 4)])]) w') (by kernel_rfl) ⟨_,M.drew⟩ ?_; intro _; replace M:=M.drew; generalize wr.drew=wd at M ⊢
      refine xrH 0 35 rfl (.pointer (some ⟨B2,0,none⟩)) (fun _ _=>by kernel_rfl) ⟨_,M⟩ ?_
      refine xrH 1 36 rfl (.int .i64 (rnum b 0)) (fun _ hS=>by obtain ⟨cs,M⟩:=hS; exact load1 3 _ ⟨B2,0,none⟩ _ rfl rfl (fun _=>by kernel_rfl) (M.get (mT _ mS) 0 _ rfl)) ⟨_,M⟩ ?_
      refine xrH 2 37 rfl (.pointer (some ⟨B2,1,none⟩)) (fun _ _=>by kernel_rfl) ⟨_,M⟩ ?_
      refine xrH 3 38 rfl (.int .i64 (rnum b 1)) (fun _ hS=>by obtain ⟨cs,M⟩:=hS; exact load1 3 _ ⟨B2,1,none⟩ _ rfl rfl (fun _=>by kernel_rfl) (M.get (mT _ mS) 1 _ rfl)) ⟨_,M⟩ ?_
      refine xrH 4 39 rfl (.pointer (some ⟨B2,2,none⟩)) (fun _ _=>by kernel_rfl) ⟨_,M⟩ ?_
      refine xrH 5 40 rfl (.int .i64 (rnum b 2)) (fun _ hS=>by obtain ⟨cs,M⟩:=hS; exact load1 3 _ ⟨B2,2,none⟩ _ rfl rfl (fun _=>by kernel_rfl) (M.get (mT _ mS) 2 _ rfl)) ⟨_,M⟩ ?_
      refine xrH 6 41 rfl (.pointer (some ⟨B2,3,none⟩)) (fun _ _=>by kernel_rfl) ⟨_,M⟩ ?_
      refine xrH 7 42 rfl (.int .i64 (rnum b 3)) (fun _ hS=>by obtain ⟨cs,M⟩:=hS; exact load1 3 _ ⟨B2,3,none⟩ _ rfl rfl (fun _=>by kernel_rfl) (M.get (mT _ mS) 3 _ rfl)) ⟨_,M⟩ ?_
      refine xrH 8 43 rfl (.pointer (some ⟨B2,4,none⟩)) (fun _ _=>by kernel_rfl) ⟨_,M⟩ ?_
      refine xrH 9 44 rfl (.int .i64 (rnum b 4)) (fun _ hS=>by obtain ⟨cs,M⟩:=hS; exact load1 3 _ ⟨B2,4,none⟩ _ rfl rfl (fun _=>by kernel_rfl) (M.get (mT _ mS) 4 _ rfl)) ⟨_,M⟩ ?_
      refine xrH 10 45 rfl (.slice (some ad) b.length cap) (fun _ _=>by kernel_rfl) ⟨_,M⟩ ?_; refine xrH 11 46 rfl (.slice qb (b.drop 11).length (cap-11)) (fun _ _=>cutOp _ _ _ _ _ _ rfl rfl rfl (hqb _)) ⟨_,M⟩ ?_
      refine xrH 12 47 rfl (.agg #[.int .i64 (rnum b 0),.int .i64 (rnum b 1),.int .i64 (rnum b 2),.int .i64 (rnum b 3),.int .i64 (rnum b 4),.slice qb ((b.drop 11).length) (cap-11)]) (fun _ _=>by kernel_rfl) ⟨_,M⟩ ?_
      have M2:=M.setPart [.int .i64 (rnum b 0),.int .i64 (rnum b 1),.int .i64 (rnum b 2),.int .i64 (rnum b 3),.int .i64 (rnum b 4),.slice qb ((b.drop 11).length) (cap-11)] 0 (Nat.le_of_ble_eq_true rfl)
      refine doesH (i:=13) none rfl (by kernel_rfl) rfl rfl (storeP [.int .i64 (rnum b 0),.int .i64 (rnum b 1),.int .i64 (rnum b 2),.int .i64 (rnum b 3),.int .i64 (rnum b 4),.slice qb ((b.drop 11).length) (cap-11)] B1 0 70 _ _ rfl rfl rfl (M.thereP mS 0 6 (Nat.le_of_ble_eq_true rfl)) (by kernel_rfl) (List.all_eq_true.1 (rfl:([.int .i64 (rnum b 0),.int .i64 (rnum b 1),.int .i64 (rnum b 2),.int .i64 (rnum b 3),.int .i64 (rnum b 4),.slice qb ((b.drop 11).length) (cap-11)]:List Value).all (fun u=>u.oneCell')=true))) ⟨_,M2⟩ ?_
      simp only [Act.put]; clear M; generalize wd.setCells B1 0 [.int .i64 (rnum b 0),.int .i64 (rnum b 1),.int .i64 (rnum b 2),.int .i64 (rnum b 3),.int .i64 (rnum b 4),.slice qb ((b.drop 11).length) (cap-11)]=we at M2 ⊢
      refine wpAnyH_done (by kernel_rfl) ?_ _
      first | show Exit.then _ _ _ _ _ | show Exit.inBlock _ _ _ _ _
      have c1_:=M2.part mS 0 [.int .i64 (rnum b 0),.int .i64 (rnum b 1),.int .i64 (rnum b 2),.int .i64 (rnum b 3),.int .i64 (rnum b 4),.slice qb ((b.drop 11).length) (cap-11)] rfl; have hM:=M2.below; clear M2; have hS:=show Hid _ from (And.intro hpv hpe); clear hpv hpe hsb hcb hmb; go_wp2
      refine bodyPost_ret (v:=.agg (pcs (prs b) qb (cap-11)).toArray) (by rw [hS.out.2]; exact retCell 2 70 ⟨B1,0,none⟩ [.int .i64 (rnum b 0),.int .i64 (rnum b 1),.int .i64 (rnum b 2),.int .i64 (rnum b 3),.int .i64 (rnum b 4),.slice qb ((b.drop 11).length) (cap-11)] rfl rfl (fun _=>by kernel_rfl) (fun _=>by kernel_rfl) c1_) rfl ?_
      exact ⟨⟨qb,cap-11,rfl,hS.out.1⟩,hM⟩
 · go_upto_region 1 with fail
   refine wp_region_list ?_; refine xpL (.slice (some ad) b.length cap) ?_; refine xaL (.pointer (some (ad.add 0))) (idxSl 29 5 b.length cap .i64 ad 0 _ _ Tryz.underlying29 (fun _=>by kernel_rfl) (by omega) rfl rfl rfl _) ?_; refine xaL (.int .u8 (bl b 0)) (load1 5 _ (ad.add 0) _ rfl rfl (fun _=>by kernel_rfl) ((hs.below M.below (xnR _)).at 0 (by omega))) ?_
   refine xaL (.bool true) (neqI .u8 _ _ _ _ _ _ rfl rfl rfl true (by simpa using h3) _) ?_; refine xT ?_
   obtain ⟨qb,hqb,hqs,hqn⟩:=cut_loA (P:=Tryz.prog) (t:=29) (by kernel_rfl) (fun _=>by kernel_rfl) (some ad) b.length cap 1 (by omega) hcap (fun e=>by cases e)
   have hdl:b.length-1=(b.drop 1).length:=by rw [List.length_drop]
   have hsb:Src w0 qb (b.drop 1).length (bl (b.drop 1)):=by
    have h:=(hqs [] _ _ ⟨hs0,fun _ _ _ h=>by cases h⟩).1
    rw [hdl] at h
    exact h.congr fun j _=>(bl_drop b 1 j).symm
   rw [hdl] at hqb
   have hcb:(b.drop 1).length≤cap-1:=by omega
   have hmb:(b.drop 1).length≤140737488351232:=by omega
   clear hqs hdl
   have hpv:PV w0 (prs b) qb (cap-1):=by rw [prs_other h3]; exact ⟨hsb,hcb,hqn,hmb,hb.drop 1,i64_byte hx0,i64_0,i64_0,i64_0,i64_0⟩
   have hpe:pcs (prs b) qb (cap-1)=[.int .i64 (bl b 0),.int .i64 0,.int .i64 0,.int .i64 0,.int .i64 0,.slice qb (b.drop 1).length (cap-1)]:=by rw [prs_other h3]; rfl
   go_upto_region 2 with fail; refine wp_region_held_drew (S:=fun w'=>∃ cs,Mm w ((B1,cs)::[]) w') (by kernel_rfl) ⟨_,M.drew⟩ ?_; intro _; replace M:=M.drew; generalize w1.drew=wd at M ⊢; refine xrH 0 11 rfl (.slice (some ad) b.length cap) (fun _ _=>by kernel_rfl) ⟨_,M⟩ ?_
   refine xrH 1 12 rfl (.pointer (some (ad.add 0))) (fun w _=>idxSl 29 5 b.length cap .i64 ad 0 _ _ Tryz.underlying29 (fun _=>by kernel_rfl) (by omega) rfl rfl rfl w) ⟨_,M⟩ ?_
   refine xrH 2 13 rfl (.int .u8 (bl b 0)) (fun _ hS=>by obtain ⟨cs,M⟩:=hS; exact load1 5 _ (ad.add 0) _ rfl rfl (fun _=>by kernel_rfl) ((hs.below M.below (xnR _)).at 0 (by omega))) ⟨_,M⟩ ?_
   refine xrH 3 14 rfl (.int .i64 (bl b 0)) (fun w _=>convI .u8 .i64 _ _ _ _ _ rfl (by kernel_rfl) Tryz.underlying3 (by kernel_rfl) rfl (by rw [xw6]; omega) w) ⟨_,M⟩ ?_; refine xrH 4 15 rfl (.slice (some ad) b.length cap) (fun _ _=>by kernel_rfl) ⟨_,M⟩ ?_; refine xrH 5 16 rfl (.slice qb (b.drop 1).length (cap-1)) (fun _ _=>cutOp _ _ _ _ _ _ rfl rfl rfl (hqb _)) ⟨_,M⟩ ?_
   refine xrH 6 17 rfl (.agg #[.int .i64 (bl b 0),.int .i64 0,.int .i64 0,.int .i64 0,.int .i64 0,.slice qb ((b.drop 1).length) (cap-1)]) (fun _ _=>by kernel_rfl) ⟨_,M⟩ ?_; have M2:=M.setPart [.int .i64 (bl b 0),.int .i64 0,.int .i64 0,.int .i64 0,.int .i64 0,.slice qb ((b.drop 1).length) (cap-1)] 0 (Nat.le_of_ble_eq_true rfl)
   refine doesH (i:=7) none rfl (by kernel_rfl) rfl rfl (storeP [.int .i64 (bl b 0),.int .i64 0,.int .i64 0,.int .i64 0,.int .i64 0,.slice qb ((b.drop 1).length) (cap-1)] B1 0 70 _ _ rfl rfl rfl (M.thereP mS 0 6 (Nat.le_of_ble_eq_true rfl)) (by kernel_rfl) (List.all_eq_true.1 (rfl:([.int .i64 (bl b 0),.int .i64 0,.int .i64 0,.int .i64 0,.int .i64 0,.slice qb ((b.drop 1).length) (cap-1)]:List Value).all (fun u=>u.oneCell')=true))) ⟨_,M2⟩ ?_
   simp only [Act.put]; clear M; generalize wd.setCells B1 0 [.int .i64 (bl b 0),.int .i64 0,.int .i64 0,.int .i64 0,.int .i64 0,.slice qb ((b.drop 1).length) (cap-1)]=we at M2 ⊢
   refine wpAnyH_done (by kernel_rfl) ?_ _
   first | show Exit.then _ _ _ _ _ | show Exit.inBlock _ _ _ _ _
   have c1_:=M2.part mS 0 [.int .i64 (bl b 0),.int .i64 0,.int .i64 0,.int .i64 0,.int .i64 0,.slice qb ((b.drop 1).length) (cap-1)] rfl; have hM:=M2.below; clear M2; have hS:=show Hid _ from (And.intro hpv hpe); clear hpv hpe hsb hcb hmb; go_wp2
   refine bodyPost_ret (v:=.agg (pcs (prs b) qb (cap-1)).toArray) (by rw [hS.out.2]; exact retCell 2 70 ⟨B1,0,none⟩ [.int .i64 (bl b 0),.int .i64 0,.int .i64 0,.int .i64 0,.int .i64 0,.slice qb ((b.drop 1).length) (cap-1)] rfl rfl (fun _=>by kernel_rfl) (fun _=>by kernel_rfl) c1_) rfl ?_
   exact ⟨⟨qb,cap-1,rfl,hS.out.1⟩,hM⟩
theorem vparse_any:ParseOK:=by
 intro sp cap b w hg hlen hcap hnil hb hs; have M:=Mm.init w
 go_enter Tryz.func29,Tryz.ntmps29
 go_upto_region 0 with fail; refine wp_region_list ?_; refine actL (w':=w.alloc (.cells #[.int .i64 0,.int .i64 0,.int .i64 0,.int .i64 0,.int .i64 0,.slice none 0 0] 70)) (.pointer (some ⟨w.heap.size,0,none⟩)) rfl (by kernel_rfl) ?_; simp only [aP,lI,l0,lS]
 have hB_B1:w.heap.size≤w.heap.size:=M.below.size
 replace M:=M.box #[.int .i64 0,.int .i64 0,.int .i64 0,.int .i64 0,.int .i64 0,.slice none 0 0] 70 w.heap.size rfl; generalize w.alloc (.cells #[.int .i64 0,.int .i64 0,.int .i64 0,.int .i64 0,.int .i64 0,.slice none 0 0] 70)=w1 at M  ⊢; generalize eB:w.heap.size=B1 at M hB_B1  ⊢
 have hE_B1:w.heap.size≤B1:=Nat.le_of_eq eB
 have hF_B1:B1≤w.heap.size:=Nat.le_of_eq eB.symm
 clear eB
 replace M:Mm w ([(B1,[.int .i64 0,.int .i64 0,.int .i64 0,.int .i64 0,.int .i64 0,.slice none 0 0])]) w1:=M
 refine xpL (.int .i64 0) ?_; refine xT ?_
 by_cases h0:b.length=0
 · have hQ:=show Hid _ from ps_err (pps_short (b:=b) (.inl h0))
   go_upto_region 1 with fail; refine wp_region_list ?_; refine xpL (.slice sp b.length cap) ?_; refine xaL (.int .i64 ((b.length:Nat):Int)) (lenS _ 29 5 sp b.length cap rfl Tryz.underlying29 rfl _) ?_; refine xaL (.bool true) (eqlI .i64 _ _ _ _ _ _ rfl rfl rfl true (by rw [h0]; rfl) _) ?_; refine xpL (.bool true) ?_
   with_reducible refine skipL ?_ ?_
   · rfl
   simp only [aP,lI,l0,lS]
   with_reducible refine skipL ?_ ?_
   · rfl
   simp only [aP,lI,l0,lS]
   with_reducible refine skipL ?_ ?_
   · rfl
   simp only [aP,lI,l0,lS]
   with_reducible refine skipL ?_ ?_
   · rfl
   simp only [aP,lI,l0,lS]
   with_reducible refine skipL ?_ ?_
   · rfl
   simp only [aP,lI,l0,lS]
   with_reducible refine skipL ?_ ?_
   · rfl
   simp only [aP,lI,l0,lS]
   with_reducible refine skipL ?_ ?_
   · rfl
   simp only [aP,lI,l0,lS]
   with_reducible refine skipL ?_ ?_
   · rfl
   simp only [aP,lI,l0,lS]
   with_reducible refine skipL ?_ ?_
   · rfl
   simp only [aP,lI,l0,lS]; refine xpL (.bool true) ?_; refine xT ?_; go_upto_region 2 with fail; refine wp_region_list ?_; refine xpL (.agg #[.int .i64 0,.int .i64 0,.int .i64 0,.int .i64 0,.int .i64 0,.slice none 0 0]) ?_
   refine skipOpL rfl (storeP [.int .i64 0,.int .i64 0,.int .i64 0,.int .i64 0,.int .i64 0,.slice none 0 0] B1 0 70 _ _ rfl rfl rfl (M.thereP mS 0 6 (Nat.le_of_ble_eq_true rfl)) (by kernel_rfl) (List.all_eq_true.1 (rfl:([.int .i64 0,.int .i64 0,.int .i64 0,.int .i64 0,.int .i64 0,.slice none 0 0]:List Value).all (fun u=>u.oneCell')=true))) ?_; simp only [Act.put]
   replace M:=M.setPart [.int .i64 0,.int .i64 0,.int .i64 0,.int .i64 0,.int .i64 0,.slice none 0 0] 0 (Nat.le_of_ble_eq_true rfl); generalize w1.setCells B1 0 [.int .i64 0,.int .i64 0,.int .i64 0,.int .i64 0,.int .i64 0,.slice none 0 0]=w2 at M  ⊢
   replace M:Mm w ([(B1,[.int .i64 0,.int .i64 0,.int .i64 0,.int .i64 0,.int .i64 0,.slice none 0 0])]) w2:=M
   refine xpL (.int .i64 3) ?_; refine xT ?_; have hpv:=show Hid _ from (pv0 w2); have c1_:=M.part mS 0 (pcs pk0 none 0) rfl; have hM:=M.below; clear M; go_wp2; refine bodyPost_ret (v:=.tuple #[.agg (pcs pk0 none 0).toArray,.int .i64 3]) (retCellTmp 2 3 70 ⟨B1,0,none⟩ (pcs pk0 none 0) _ rfl rfl rfl (fun _=>by kernel_rfl) (fun _=>by kernel_rfl) c1_) rfl ?_
   exact ⟨⟨_,_,by rw [hQ.out.1,hQ.out.2],by rw [hQ.out.1]; exact hpv.out⟩,hM⟩
 · have hpos:0<b.length:=by omega
   obtain ⟨ad,rfl,_⟩:=hs 0 hpos
   by_cases h3:bl b 0=3∧b.length<27
   · have hQ:=show Hid _ from ps_err (pps_short (b:=b) (.inr h3))
     go_upto_region 1 with fail; refine wp_region_list ?_; refine xpL (.slice (some ad) b.length cap) ?_; refine xaL (.int .i64 ((b.length:Nat):Int)) (lenS _ 29 5 (some ad) b.length cap rfl Tryz.underlying29 rfl _) ?_; refine xaL (.bool false) (eqlI .i64 _ _ _ _ _ _ rfl rfl rfl false (beq_eq_false_iff_ne.2 (by omega)) _) ?_; refine xpL (.bool false) ?_
     refine xpL (.slice (some ad) b.length cap) ?_; refine xaL (.pointer (some (ad.add 0))) (idxSl 29 5 b.length cap .i64 ad 0 _ _ Tryz.underlying29 (fun _=>by kernel_rfl) (by omega) rfl rfl rfl _) ?_; refine xaL (.int .u8 (bl b 0)) (load1 5 _ (ad.add 0) _ rfl rfl (fun _=>by kernel_rfl) ((hs.below M.below (xnR _)).at 0 (by omega))) ?_
     refine xaL (.bool true) (eqlI .u8 _ _ _ _ _ _ rfl rfl rfl true (by rw [h3.1]; rfl) _) ?_; refine xpL (.bool true) ?_; refine xpL (.slice (some ad) b.length cap) ?_; refine xaL (.int .i64 ((b.length:Nat):Int)) (lenS _ 29 5 (some ad) b.length cap rfl Tryz.underlying29 rfl _) ?_; refine xaL (.bool true) (lssI .i64 _ _ _ _ _ _ rfl rfl rfl true (decide_eq_true (by omega)) _) ?_
     refine xpL (.bool true) ?_; refine xpL (.bool true) ?_; refine xT ?_; go_upto_region 2 with fail; refine wp_region_list ?_; refine xpL (.agg #[.int .i64 0,.int .i64 0,.int .i64 0,.int .i64 0,.int .i64 0,.slice none 0 0]) ?_
     refine skipOpL rfl (storeP [.int .i64 0,.int .i64 0,.int .i64 0,.int .i64 0,.int .i64 0,.slice none 0 0] B1 0 70 _ _ rfl rfl rfl (M.thereP mS 0 6 (Nat.le_of_ble_eq_true rfl)) (by kernel_rfl) (List.all_eq_true.1 (rfl:([.int .i64 0,.int .i64 0,.int .i64 0,.int .i64 0,.int .i64 0,.slice none 0 0]:List Value).all (fun u=>u.oneCell')=true))) ?_; simp only [Act.put]
     replace M:=M.setPart [.int .i64 0,.int .i64 0,.int .i64 0,.int .i64 0,.int .i64 0,.slice none 0 0] 0 (Nat.le_of_ble_eq_true rfl); generalize w1.setCells B1 0 [.int .i64 0,.int .i64 0,.int .i64 0,.int .i64 0,.int .i64 0,.slice none 0 0]=w3 at M  ⊢
     replace M:Mm w ([(B1,[.int .i64 0,.int .i64 0,.int .i64 0,.int .i64 0,.int .i64 0,.slice none 0 0])]) w3:=M
     refine xpL (.int .i64 3) ?_; refine xT ?_; have hpv:=show Hid _ from (pv0 w3); have c1_:=M.part mS 0 (pcs pk0 none 0) rfl; have hM:=M.below; clear M; go_wp2; refine bodyPost_ret (v:=.tuple #[.agg (pcs pk0 none 0).toArray,.int .i64 3]) (retCellTmp 2 3 70 ⟨B1,0,none⟩ (pcs pk0 none 0) _ rfl rfl rfl (fun _=>by kernel_rfl) (fun _=>by kernel_rfl) c1_) rfl ?_
     exact ⟨⟨_,_,by rw [hQ.out.1,hQ.out.2],by rw [hQ.out.1]; exact hpv.out⟩,hM⟩
   · have h27:bl b 0=3→27≤b.length:=fun h=>by omega
     have hno:¬ (b.length=0∨(bl b 0=3∧b.length<27)):=by omega
     by_cases h3':bl b 0=3
     · go_upto_region 1 with fail
       refine wp_region_list ?_; refine xpL (.slice (some ad) b.length cap) ?_; refine xaL (.int .i64 ((b.length:Nat):Int)) (lenS _ 29 5 (some ad) b.length cap rfl Tryz.underlying29 rfl _) ?_; refine xaL (.bool false) (eqlI .i64 _ _ _ _ _ _ rfl rfl rfl false (beq_eq_false_iff_ne.2 (by omega)) _) ?_; refine xpL (.bool false) ?_; refine xpL (.slice (some ad) b.length cap) ?_
       refine xaL (.pointer (some (ad.add 0))) (idxSl 29 5 b.length cap .i64 ad 0 _ _ Tryz.underlying29 (fun _=>by kernel_rfl) (by omega) rfl rfl rfl _) ?_; refine xaL (.int .u8 (bl b 0)) (load1 5 _ (ad.add 0) _ rfl rfl (fun _=>by kernel_rfl) ((hs.below M.below (xnR _)).at 0 (by omega))) ?_; refine xaL (.bool true) (eqlI .u8 _ _ _ _ _ _ rfl rfl rfl true (by rw [h3']; rfl) _) ?_
       refine xpL (.bool true) ?_; refine xpL (.slice (some ad) b.length cap) ?_; refine xaL (.int .i64 ((b.length:Nat):Int)) (lenS _ 29 5 (some ad) b.length cap rfl Tryz.underlying29 rfl _) ?_; refine xaL (.bool false) (lssI .i64 _ _ _ _ _ _ rfl rfl rfl false (decide_eq_false (by omega)) _) ?_; refine xpL (.bool false) ?_; refine xpL (.bool false) ?_; refine xT ?_; go_upto_region 3 with fail
       refine wp_region_list ?_; refine xpL (.slice (some ad) b.length cap) ?_; refine xcL (pread_any (some ad) cap b w _ M.below (hg.mm M) hlen hcap hnil hb hs hpos h27) ?_; rintro e w4 ⟨⟨bp,bc,rfl,F_1⟩,l⟩; replace M:=M.call l; clear l
       refine ⟨_,rfl,?_⟩
       rw [show (.agg (pcs (prs b) bp bc).toArray:Value)=.agg #[.int .i64 ((prs b).kind),.int .i64 ((prs b).role),.int .i64 ((prs b).path),.int .i64 ((prs b).epo),.int .i64 ((prs b).ctr),.slice bp ((prs b).body.length) bc] from rfl]
       simp only [aP,lI,l0,lS]; refine actL (w':=w4.alloc (.cells #[.int .i64 0,.int .i64 0,.int .i64 0,.int .i64 0,.int .i64 0,.slice none 0 0] 70)) (.pointer (some ⟨w4.heap.size,0,none⟩)) rfl (by kernel_rfl) ?_; simp only [aP,lI,l0,lS]
       have hB_B5:w.heap.size≤w4.heap.size:=M.below.size
       replace M:=M.box #[.int .i64 0,.int .i64 0,.int .i64 0,.int .i64 0,.int .i64 0,.slice none 0 0] 70 w4.heap.size rfl; generalize w4.alloc (.cells #[.int .i64 0,.int .i64 0,.int .i64 0,.int .i64 0,.int .i64 0,.slice none 0 0] 70)=w5 at M  ⊢; generalize eB:w4.heap.size=B5 at M hB_B5  ⊢
       have hE_B5:w4.heap.size≤B5:=Nat.le_of_eq eB
       have hF_B5:B5≤w4.heap.size:=Nat.le_of_eq eB.symm
       clear eB
       replace M:Mm w ([(B5,[.int .i64 0,.int .i64 0,.int .i64 0,.int .i64 0,.int .i64 0,.slice none 0 0]),(B1,[.int .i64 0,.int .i64 0,.int .i64 0,.int .i64 0,.int .i64 0,.slice none 0 0])]) w5:=M
       refine skipOpL rfl (storeP [.int .i64 ((prs b).kind),.int .i64 ((prs b).role),.int .i64 ((prs b).path),.int .i64 ((prs b).epo),.int .i64 ((prs b).ctr),.slice bp ((prs b).body.length) bc] B5 0 70 _ _ rfl rfl rfl (M.thereP mS 0 6 (Nat.le_of_ble_eq_true rfl)) (by kernel_rfl) (List.all_eq_true.1 (rfl:([.int .i64 ((prs b).kind),.int .i64 ((prs b).role),.int .i64 ((prs b).path),.int .i64 ((prs b).epo),.int .i64 ((prs b).ctr),.slice bp ((prs b).body.length) bc]:List Value).all (fun u=>u.oneCell')=true))) ?_
       simp only [Act.put]; replace M:=M.setPart [.int .i64 ((prs b).kind),.int .i64 ((prs b).role),.int .i64 ((prs b).path),.int .i64 ((prs b).epo),.int .i64 ((prs b).ctr),.slice bp ((prs b).body.length) bc] 0 (Nat.le_of_ble_eq_true rfl)
       generalize w5.setCells B5 0 [.int .i64 ((prs b).kind),.int .i64 ((prs b).role),.int .i64 ((prs b).path),.int .i64 ((prs b).epo),.int .i64 ((prs b).ctr),.slice bp ((prs b).body.length) bc]=w6 at M  ⊢
       replace M:Mm w ([(B5,[.int .i64 ((prs b).kind),.int .i64 ((prs b).role),.int .i64 ((prs b).path),.int .i64 ((prs b).epo),.int .i64 ((prs b).ctr),.slice bp ((prs b).body.length) bc]),(B1,[.int .i64 0,.int .i64 0,.int .i64 0,.int .i64 0,.int .i64 0,.slice none 0 0])]) w6:=M
       refine xT ?_; go_upto_region 4 with fail; refine wp_region_list ?_
       refine xaL (.agg #[.int .i64 ((prs b).kind),.int .i64 ((prs b).role),.int .i64 ((prs b).path),.int .i64 ((prs b).epo),.int .i64 ((prs b).ctr),.slice bp ((prs b).body.length) bc]) (loadN 70 _ ⟨B5,0,none⟩ [.int .i64 ((prs b).kind),.int .i64 ((prs b).role),.int .i64 ((prs b).path),.int .i64 ((prs b).epo),.int .i64 ((prs b).ctr),.slice bp ((prs b).body.length) bc] rfl rfl (fun _=>by kernel_rfl) (fun _=>by kernel_rfl) (M.rangeAt mS)) ?_
       obtain ⟨b1,hb1⟩:∃ y_,y_=(pok (prs b)):=⟨_,rfl⟩
       have hC:Calls Tryz.prog 40 #[.agg #[.int .i64 ((prs b).kind),.int .i64 ((prs b).role),.int .i64 ((prs b).path),.int .i64 ((prs b).epo),.int .i64 ((prs b).ctr),.slice bp ((prs b).body.length) bc]] w6 (fun e w'=>e=.returned (.bool b1)∧Below w6.heap.size w6 w'):=(by rw [hb1]; exact pmay_any (prs b) bp bc _)
       refine xcL (hC) ?_; rintro e w7 ⟨rfl,l⟩; replace M:=M.call l
       refine ⟨_,rfl,?_⟩
       clear l hC; simp only [aP,lI,l0,lS]
       obtain ⟨b2,hb2⟩:∃ y_,y_=(!b1):=⟨_,rfl⟩
       refine xaL (.bool b2) (by subst hb2; cases b1 <;> rfl) ?_; refine xT ?_
       have hbb:b2=!pok (prs b):=by rw [hb2,hb1]
       try clear hb1
       try clear hb2
       cases b2 with
       | true =>
         have hQ:=show Hid _ from ps_err (pps_bad hno (show pok (prs b)=false by simpa using hbb)); clear hbb; go_upto_region 5 with fail; refine wp_region_list ?_; refine xpL (.agg #[.int .i64 0,.int .i64 0,.int .i64 0,.int .i64 0,.int .i64 0,.slice none 0 0]) ?_; replace M:=M.swap
         refine skipOpL rfl (storeP [.int .i64 0,.int .i64 0,.int .i64 0,.int .i64 0,.int .i64 0,.slice none 0 0] B1 0 70 _ _ rfl rfl rfl (M.thereP mS 0 6 (Nat.le_of_ble_eq_true rfl)) (by kernel_rfl) (List.all_eq_true.1 (rfl:([.int .i64 0,.int .i64 0,.int .i64 0,.int .i64 0,.int .i64 0,.slice none 0 0]:List Value).all (fun u=>u.oneCell')=true))) ?_; simp only [Act.put]
         replace M:=M.setPart [.int .i64 0,.int .i64 0,.int .i64 0,.int .i64 0,.int .i64 0,.slice none 0 0] 0 (Nat.le_of_ble_eq_true rfl); generalize w7.setCells B1 0 [.int .i64 0,.int .i64 0,.int .i64 0,.int .i64 0,.int .i64 0,.slice none 0 0]=w8 at M  ⊢
         replace M:Mm w ([(B1,[.int .i64 0,.int .i64 0,.int .i64 0,.int .i64 0,.int .i64 0,.slice none 0 0]),(B5,[.int .i64 ((prs b).kind),.int .i64 ((prs b).role),.int .i64 ((prs b).path),.int .i64 ((prs b).epo),.int .i64 ((prs b).ctr),.slice bp ((prs b).body.length) bc])]) w8:=M
         refine xpL (.int .i64 110) ?_; refine xT ?_; have hpv:=show Hid _ from (pv0 w8); have c1_:=M.part mS 0 (pcs pk0 none 0) rfl; have hM:=M.below; clear M; go_wp2; refine bodyPost_ret (v:=.tuple #[.agg (pcs pk0 none 0).toArray,.int .i64 110]) (retCellTmp 2 3 70 ⟨B1,0,none⟩ (pcs pk0 none 0) _ rfl rfl rfl (fun _=>by kernel_rfl) (fun _=>by kernel_rfl) c1_) rfl ?_
         exact ⟨⟨_,_,by rw [hQ.out.1,hQ.out.2],by rw [hQ.out.1]; exact hpv.out⟩,hM⟩
       | false =>
         have hQ:=show Hid _ from ps_ok (pps_good hno (show pok (prs b)=true by simpa using hbb)); clear hbb; go_upto_region 6 with fail; refine wp_region_list ?_; refine xpL (.pointer (some ⟨B5,5,none⟩)) ?_; refine xaL (.slice bp ((prs b).body.length) bc) (load1 29 _ ⟨B5,5,none⟩ _ rfl rfl (fun _=>by kernel_rfl) (M.get mS 5 _ rfl)) ?_; have hB4:=M.lt mS; have hB1:=M.lt (mT _ mS)
         refine xcL (clone_any bp _ bc (xnT F_1.max (by decide)) F_1.le F_1.nil (bl (prs b).body) _ (F_1.src.below M.below (xnR _))) ?_; rintro e w9 ⟨v,rfl,O_2,l⟩; replace M:=M.call l; clear l
         obtain ⟨p5,c5,rfl,_,_⟩:=O_2.bytes
         refine xeL ?_; refine xpL (.pointer (some ⟨B5,5,none⟩)) ?_; refine skipOpL rfl (storeAny (.slice p5 ((prs b).body.length) c5) B5 5 29 _ _ rfl rfl rfl rfl rfl (M.isSome mS 5 (by simp)) (M.free mS 5 (by simp)) (by kernel_rfl)) ?_; simp only [Act.put]; replace M:=M.set 5 (by simp) (.slice p5 ((prs b).body.length) c5)
         replace O_2:=Own.off1 O_2 ((Off.refl [B5] _).set (b:=B5) mS 5 (.slice p5 ((prs b).body.length) c5)) (by omega); generalize w9.setCell ⟨B5,5,none⟩ (.slice p5 ((prs b).body.length) c5)=w10 at M O_2 ⊢
         replace M:Mm w ([(B5,[.int .i64 ((prs b).kind),.int .i64 ((prs b).role),.int .i64 ((prs b).path),.int .i64 ((prs b).epo),.int .i64 ((prs b).ctr),.slice p5 ((prs b).body.length) c5]),(B1,[.int .i64 0,.int .i64 0,.int .i64 0,.int .i64 0,.int .i64 0,.slice none 0 0])]) w10:=M
         refine xT ?_; go_upto_region 7 with fail; refine wp_region_list ?_
         refine xaL (.agg #[.int .i64 ((prs b).kind),.int .i64 ((prs b).role),.int .i64 ((prs b).path),.int .i64 ((prs b).epo),.int .i64 ((prs b).ctr),.slice p5 ((prs b).body.length) c5]) (loadN 70 _ ⟨B5,0,none⟩ [.int .i64 ((prs b).kind),.int .i64 ((prs b).role),.int .i64 ((prs b).path),.int .i64 ((prs b).epo),.int .i64 ((prs b).ctr),.slice p5 ((prs b).body.length) c5] rfl rfl (fun _=>by kernel_rfl) (fun _=>by kernel_rfl) (M.rangeAt mS)) ?_
         replace M:=M.swap
         refine skipOpL rfl (storeP [.int .i64 ((prs b).kind),.int .i64 ((prs b).role),.int .i64 ((prs b).path),.int .i64 ((prs b).epo),.int .i64 ((prs b).ctr),.slice p5 ((prs b).body.length) c5] B1 0 70 _ _ rfl rfl rfl (M.thereP mS 0 6 (Nat.le_of_ble_eq_true rfl)) (by kernel_rfl) (List.all_eq_true.1 (rfl:([.int .i64 ((prs b).kind),.int .i64 ((prs b).role),.int .i64 ((prs b).path),.int .i64 ((prs b).epo),.int .i64 ((prs b).ctr),.slice p5 ((prs b).body.length) c5]:List Value).all (fun u=>u.oneCell')=true))) ?_
         simp only [Act.put]; replace M:=M.setPart [.int .i64 ((prs b).kind),.int .i64 ((prs b).role),.int .i64 ((prs b).path),.int .i64 ((prs b).epo),.int .i64 ((prs b).ctr),.slice p5 ((prs b).body.length) c5] 0 (Nat.le_of_ble_eq_true rfl)
         replace O_2:=Own.off1 O_2 ((Off.refl [B1] _).setAll (b:=B1) mS 0 [.int .i64 ((prs b).kind),.int .i64 ((prs b).role),.int .i64 ((prs b).path),.int .i64 ((prs b).epo),.int .i64 ((prs b).ctr),.slice p5 ((prs b).body.length) c5]) (by omega)
         generalize w10.setCells B1 0 [.int .i64 ((prs b).kind),.int .i64 ((prs b).role),.int .i64 ((prs b).path),.int .i64 ((prs b).epo),.int .i64 ((prs b).ctr),.slice p5 ((prs b).body.length) c5]=w11 at M O_2 ⊢
         replace M:Mm w ([(B1,[.int .i64 ((prs b).kind),.int .i64 ((prs b).role),.int .i64 ((prs b).path),.int .i64 ((prs b).epo),.int .i64 ((prs b).ctr),.slice p5 ((prs b).body.length) c5]),(B5,[.int .i64 ((prs b).kind),.int .i64 ((prs b).role),.int .i64 ((prs b).path),.int .i64 ((prs b).epo),.int .i64 ((prs b).ctr),.slice p5 ((prs b).body.length) c5])]) w11:=M
         refine xpL (.int .i64 0) ?_; refine xT ?_; have hpv:=show Hid _ from ((⟨O_2.src,O_2.le,O_2.nilCap,F_1.max,F_1.byts,F_1.kind,F_1.role,F_1.path,F_1.epo,F_1.ctr⟩:PV _ (prs b) p5 c5)); have c1_:=M.part mS 0 (pcs (prs b) p5 c5) rfl; have hM:=M.below; clear M; go_wp2
         refine bodyPost_ret (v:=.tuple #[.agg (pcs (prs b) p5 c5).toArray,.int .i64 0]) (retCellTmp 2 3 70 ⟨B1,0,none⟩ (pcs (prs b) p5 c5) _ rfl rfl rfl (fun _=>by kernel_rfl) (fun _=>by kernel_rfl) c1_) rfl ?_
         exact ⟨⟨_,_,by rw [hQ.out.1,hQ.out.2],by rw [hQ.out.1]; exact hpv.out⟩,hM⟩
     · go_upto_region 1 with fail
       refine wp_region_list ?_; refine xpL (.slice (some ad) b.length cap) ?_; refine xaL (.int .i64 ((b.length:Nat):Int)) (lenS _ 29 5 (some ad) b.length cap rfl Tryz.underlying29 rfl _) ?_; refine xaL (.bool false) (eqlI .i64 _ _ _ _ _ _ rfl rfl rfl false (beq_eq_false_iff_ne.2 (by omega)) _) ?_; refine xpL (.bool false) ?_; refine xpL (.slice (some ad) b.length cap) ?_
       refine xaL (.pointer (some (ad.add 0))) (idxSl 29 5 b.length cap .i64 ad 0 _ _ Tryz.underlying29 (fun _=>by kernel_rfl) (by omega) rfl rfl rfl _) ?_; refine xaL (.int .u8 (bl b 0)) (load1 5 _ (ad.add 0) _ rfl rfl (fun _=>by kernel_rfl) ((hs.below M.below (xnR _)).at 0 (by omega))) ?_; refine xaL (.bool false) (eqlI .u8 _ _ _ _ _ _ rfl rfl rfl false (by simpa using h3') _) ?_
       refine xpL (.bool false) ?_
       with_reducible refine skipL ?_ ?_
       · rfl
       simp only [aP,lI,l0,lS]
       with_reducible refine skipL ?_ ?_
       · rfl
       simp only [aP,lI,l0,lS]
       with_reducible refine skipL ?_ ?_
       · rfl
       simp only [aP,lI,l0,lS]; refine xpL (.bool false) ?_; refine xpL (.bool false) ?_; refine xT ?_; go_upto_region 3 with fail; refine wp_region_list ?_; refine xpL (.slice (some ad) b.length cap) ?_; refine xcL (pread_any (some ad) cap b w _ M.below (hg.mm M) hlen hcap hnil hb hs hpos h27) ?_; rintro e w12 ⟨⟨bp,bc,rfl,F_1⟩,l⟩; replace M:=M.call l; clear l
       refine ⟨_,rfl,?_⟩
       rw [show (.agg (pcs (prs b) bp bc).toArray:Value)=.agg #[.int .i64 ((prs b).kind),.int .i64 ((prs b).role),.int .i64 ((prs b).path),.int .i64 ((prs b).epo),.int .i64 ((prs b).ctr),.slice bp ((prs b).body.length) bc] from rfl]
       simp only [aP,lI,l0,lS]; refine actL (w':=w12.alloc (.cells #[.int .i64 0,.int .i64 0,.int .i64 0,.int .i64 0,.int .i64 0,.slice none 0 0] 70)) (.pointer (some ⟨w12.heap.size,0,none⟩)) rfl (by kernel_rfl) ?_; simp only [aP,lI,l0,lS]
       have hB_B13:w.heap.size≤w12.heap.size:=M.below.size
       replace M:=M.box #[.int .i64 0,.int .i64 0,.int .i64 0,.int .i64 0,.int .i64 0,.slice none 0 0] 70 w12.heap.size rfl; generalize w12.alloc (.cells #[.int .i64 0,.int .i64 0,.int .i64 0,.int .i64 0,.int .i64 0,.slice none 0 0] 70)=w13 at M  ⊢; generalize eB:w12.heap.size=B13 at M hB_B13  ⊢
       have hE_B13:w12.heap.size≤B13:=Nat.le_of_eq eB
       have hF_B13:B13≤w12.heap.size:=Nat.le_of_eq eB.symm
       clear eB
       replace M:Mm w ([(B13,[.int .i64 0,.int .i64 0,.int .i64 0,.int .i64 0,.int .i64 0,.slice none 0 0]),(B1,[.int .i64 0,.int .i64 0,.int .i64 0,.int .i64 0,.int .i64 0,.slice none 0 0])]) w13:=M
       refine skipOpL rfl (storeP [.int .i64 ((prs b).kind),.int .i64 ((prs b).role),.int .i64 ((prs b).path),.int .i64 ((prs b).epo),.int .i64 ((prs b).ctr),.slice bp ((prs b).body.length) bc] B13 0 70 _ _ rfl rfl rfl (M.thereP mS 0 6 (Nat.le_of_ble_eq_true rfl)) (by kernel_rfl) (List.all_eq_true.1 (rfl:([.int .i64 ((prs b).kind),.int .i64 ((prs b).role),.int .i64 ((prs b).path),.int .i64 ((prs b).epo),.int .i64 ((prs b).ctr),.slice bp ((prs b).body.length) bc]:List Value).all (fun u=>u.oneCell')=true))) ?_
       simp only [Act.put]; replace M:=M.setPart [.int .i64 ((prs b).kind),.int .i64 ((prs b).role),.int .i64 ((prs b).path),.int .i64 ((prs b).epo),.int .i64 ((prs b).ctr),.slice bp ((prs b).body.length) bc] 0 (Nat.le_of_ble_eq_true rfl)
       generalize w13.setCells B13 0 [.int .i64 ((prs b).kind),.int .i64 ((prs b).role),.int .i64 ((prs b).path),.int .i64 ((prs b).epo),.int .i64 ((prs b).ctr),.slice bp ((prs b).body.length) bc]=w14 at M  ⊢
       replace M:Mm w ([(B13,[.int .i64 ((prs b).kind),.int .i64 ((prs b).role),.int .i64 ((prs b).path),.int .i64 ((prs b).epo),.int .i64 ((prs b).ctr),.slice bp ((prs b).body.length) bc]),(B1,[.int .i64 0,.int .i64 0,.int .i64 0,.int .i64 0,.int .i64 0,.slice none 0 0])]) w14:=M
       refine xT ?_; go_upto_region 4 with fail; refine wp_region_list ?_
       refine xaL (.agg #[.int .i64 ((prs b).kind),.int .i64 ((prs b).role),.int .i64 ((prs b).path),.int .i64 ((prs b).epo),.int .i64 ((prs b).ctr),.slice bp ((prs b).body.length) bc]) (loadN 70 _ ⟨B13,0,none⟩ [.int .i64 ((prs b).kind),.int .i64 ((prs b).role),.int .i64 ((prs b).path),.int .i64 ((prs b).epo),.int .i64 ((prs b).ctr),.slice bp ((prs b).body.length) bc] rfl rfl (fun _=>by kernel_rfl) (fun _=>by kernel_rfl) (M.rangeAt mS)) ?_
       obtain ⟨b3,hb3⟩:∃ y_,y_=(pok (prs b)):=⟨_,rfl⟩
       have hC:Calls Tryz.prog 40 #[.agg #[.int .i64 ((prs b).kind),.int .i64 ((prs b).role),.int .i64 ((prs b).path),.int .i64 ((prs b).epo),.int .i64 ((prs b).ctr),.slice bp ((prs b).body.length) bc]] w14 (fun e w'=>e=.returned (.bool b3)∧Below w14.heap.size w14 w'):=(by rw [hb3]; exact pmay_any (prs b) bp bc _)
       refine xcL (hC) ?_; rintro e w15 ⟨rfl,l⟩; replace M:=M.call l
       refine ⟨_,rfl,?_⟩
       clear l hC; simp only [aP,lI,l0,lS]
       obtain ⟨b4,hb4⟩:∃ y_,y_=(!b3):=⟨_,rfl⟩
       refine xaL (.bool b4) (by subst hb4; cases b3 <;> rfl) ?_; refine xT ?_
       have hbb:b4=!pok (prs b):=by rw [hb4,hb3]
       try clear hb3
       try clear hb4
       cases b4 with
       | true =>
         have hQ:=show Hid _ from ps_err (pps_bad hno (show pok (prs b)=false by simpa using hbb)); clear hbb; go_upto_region 5 with fail; refine wp_region_list ?_; refine xpL (.agg #[.int .i64 0,.int .i64 0,.int .i64 0,.int .i64 0,.int .i64 0,.slice none 0 0]) ?_; replace M:=M.swap
         refine skipOpL rfl (storeP [.int .i64 0,.int .i64 0,.int .i64 0,.int .i64 0,.int .i64 0,.slice none 0 0] B1 0 70 _ _ rfl rfl rfl (M.thereP mS 0 6 (Nat.le_of_ble_eq_true rfl)) (by kernel_rfl) (List.all_eq_true.1 (rfl:([.int .i64 0,.int .i64 0,.int .i64 0,.int .i64 0,.int .i64 0,.slice none 0 0]:List Value).all (fun u=>u.oneCell')=true))) ?_; simp only [Act.put]
         replace M:=M.setPart [.int .i64 0,.int .i64 0,.int .i64 0,.int .i64 0,.int .i64 0,.slice none 0 0] 0 (Nat.le_of_ble_eq_true rfl); generalize w15.setCells B1 0 [.int .i64 0,.int .i64 0,.int .i64 0,.int .i64 0,.int .i64 0,.slice none 0 0]=w16 at M  ⊢
         replace M:Mm w ([(B1,[.int .i64 0,.int .i64 0,.int .i64 0,.int .i64 0,.int .i64 0,.slice none 0 0]),(B13,[.int .i64 ((prs b).kind),.int .i64 ((prs b).role),.int .i64 ((prs b).path),.int .i64 ((prs b).epo),.int .i64 ((prs b).ctr),.slice bp ((prs b).body.length) bc])]) w16:=M
         refine xpL (.int .i64 110) ?_; refine xT ?_; have hpv:=show Hid _ from (pv0 w16); have c1_:=M.part mS 0 (pcs pk0 none 0) rfl; have hM:=M.below; clear M; go_wp2; refine bodyPost_ret (v:=.tuple #[.agg (pcs pk0 none 0).toArray,.int .i64 110]) (retCellTmp 2 3 70 ⟨B1,0,none⟩ (pcs pk0 none 0) _ rfl rfl rfl (fun _=>by kernel_rfl) (fun _=>by kernel_rfl) c1_) rfl ?_
         exact ⟨⟨_,_,by rw [hQ.out.1,hQ.out.2],by rw [hQ.out.1]; exact hpv.out⟩,hM⟩
       | false =>
         have hQ:=show Hid _ from ps_ok (pps_good hno (show pok (prs b)=true by simpa using hbb)); clear hbb; go_upto_region 6 with fail; refine wp_region_list ?_; refine xpL (.pointer (some ⟨B13,5,none⟩)) ?_; refine xaL (.slice bp ((prs b).body.length) bc) (load1 29 _ ⟨B13,5,none⟩ _ rfl rfl (fun _=>by kernel_rfl) (M.get mS 5 _ rfl)) ?_; have hB4:=M.lt mS; have hB1:=M.lt (mT _ mS)
         refine xcL (clone_any bp _ bc (xnT F_1.max (by decide)) F_1.le F_1.nil (bl (prs b).body) _ (F_1.src.below M.below (xnR _))) ?_; rintro e w17 ⟨v,rfl,O_2,l⟩; replace M:=M.call l; clear l
         obtain ⟨p5,c5,rfl,_,_⟩:=O_2.bytes
         refine xeL ?_; refine xpL (.pointer (some ⟨B13,5,none⟩)) ?_; refine skipOpL rfl (storeAny (.slice p5 ((prs b).body.length) c5) B13 5 29 _ _ rfl rfl rfl rfl rfl (M.isSome mS 5 (by simp)) (M.free mS 5 (by simp)) (by kernel_rfl)) ?_; simp only [Act.put]; replace M:=M.set 5 (by simp) (.slice p5 ((prs b).body.length) c5)
         replace O_2:=Own.off1 O_2 ((Off.refl [B13] _).set (b:=B13) mS 5 (.slice p5 ((prs b).body.length) c5)) (by omega); generalize w17.setCell ⟨B13,5,none⟩ (.slice p5 ((prs b).body.length) c5)=w18 at M O_2 ⊢
         replace M:Mm w ([(B13,[.int .i64 ((prs b).kind),.int .i64 ((prs b).role),.int .i64 ((prs b).path),.int .i64 ((prs b).epo),.int .i64 ((prs b).ctr),.slice p5 ((prs b).body.length) c5]),(B1,[.int .i64 0,.int .i64 0,.int .i64 0,.int .i64 0,.int .i64 0,.slice none 0 0])]) w18:=M
         refine xT ?_; go_upto_region 7 with fail; refine wp_region_list ?_
         refine xaL (.agg #[.int .i64 ((prs b).kind),.int .i64 ((prs b).role),.int .i64 ((prs b).path),.int .i64 ((prs b).epo),.int .i64 ((prs b).ctr),.slice p5 ((prs b).body.length) c5]) (loadN 70 _ ⟨B13,0,none⟩ [.int .i64 ((prs b).kind),.int .i64 ((prs b).role),.int .i64 ((prs b).path),.int .i64 ((prs b).epo),.int .i64 ((prs b).ctr),.slice p5 ((prs b).body.length) c5] rfl rfl (fun _=>by kernel_rfl) (fun _=>by kernel_rfl) (M.rangeAt mS)) ?_
         replace M:=M.swap
         refine skipOpL rfl (storeP [.int .i64 ((prs b).kind),.int .i64 ((prs b).role),.int .i64 ((prs b).path),.int .i64 ((prs b).epo),.int .i64 ((prs b).ctr),.slice p5 ((prs b).body.length) c5] B1 0 70 _ _ rfl rfl rfl (M.thereP mS 0 6 (Nat.le_of_ble_eq_true rfl)) (by kernel_rfl) (List.all_eq_true.1 (rfl:([.int .i64 ((prs b).kind),.int .i64 ((prs b).role),.int .i64 ((prs b).path),.int .i64 ((prs b).epo),.int .i64 ((prs b).ctr),.slice p5 ((prs b).body.length) c5]:List Value).all (fun u=>u.oneCell')=true))) ?_
         simp only [Act.put]; replace M:=M.setPart [.int .i64 ((prs b).kind),.int .i64 ((prs b).role),.int .i64 ((prs b).path),.int .i64 ((prs b).epo),.int .i64 ((prs b).ctr),.slice p5 ((prs b).body.length) c5] 0 (Nat.le_of_ble_eq_true rfl)
         replace O_2:=Own.off1 O_2 ((Off.refl [B1] _).setAll (b:=B1) mS 0 [.int .i64 ((prs b).kind),.int .i64 ((prs b).role),.int .i64 ((prs b).path),.int .i64 ((prs b).epo),.int .i64 ((prs b).ctr),.slice p5 ((prs b).body.length) c5]) (by omega)
         generalize w18.setCells B1 0 [.int .i64 ((prs b).kind),.int .i64 ((prs b).role),.int .i64 ((prs b).path),.int .i64 ((prs b).epo),.int .i64 ((prs b).ctr),.slice p5 ((prs b).body.length) c5]=w19 at M O_2 ⊢
         replace M:Mm w ([(B1,[.int .i64 ((prs b).kind),.int .i64 ((prs b).role),.int .i64 ((prs b).path),.int .i64 ((prs b).epo),.int .i64 ((prs b).ctr),.slice p5 ((prs b).body.length) c5]),(B13,[.int .i64 ((prs b).kind),.int .i64 ((prs b).role),.int .i64 ((prs b).path),.int .i64 ((prs b).epo),.int .i64 ((prs b).ctr),.slice p5 ((prs b).body.length) c5])]) w19:=M
         refine xpL (.int .i64 0) ?_; refine xT ?_; have hpv:=show Hid _ from ((⟨O_2.src,O_2.le,O_2.nilCap,F_1.max,F_1.byts,F_1.kind,F_1.role,F_1.path,F_1.epo,F_1.ctr⟩:PV _ (prs b) p5 c5)); have c1_:=M.part mS 0 (pcs (prs b) p5 c5) rfl; have hM:=M.below; clear M; go_wp2
         refine bodyPost_ret (v:=.tuple #[.agg (pcs (prs b) p5 c5).toArray,.int .i64 0]) (retCellTmp 2 3 70 ⟨B1,0,none⟩ (pcs (prs b) p5 c5) _ rfl rfl rfl (fun _=>by kernel_rfl) (fun _=>by kernel_rfl) c1_) rfl ?_
         exact ⟨⟨_,_,by rw [hQ.out.1,hQ.out.2],by rw [hQ.out.1]; exact hpv.out⟩,hM⟩
theorem put_raw16 (B o c:Nat) (x:Int) (y0 y1 y2 y3 y4 y5 y6 y7:Int) (w:World) (c0:w.cell? ⟨B,o,none⟩=some (.int .u8 y0)) (f0:w.frozen? ⟨B,o,none⟩=false) (c1:w.cell? ⟨B,o+1,none⟩=some (.int .u8 y1)) (f1:w.frozen? ⟨B,o+1,none⟩=false) (c2:w.cell? ⟨B,o+2,none⟩=some (.int .u8 y2)) (f2:w.frozen? ⟨B,o+2,none⟩=false) (c3:w.cell? ⟨B,o+3,none⟩=some (.int .u8 y3)) (f3:w.frozen? ⟨B,o+3,none⟩=false) (c4:w.cell? ⟨B,o+4,none⟩=some (.int .u8 y4)) (f4:w.frozen? ⟨B,o+4,none⟩=false) (c5:w.cell? ⟨B,o+5,none⟩=some (.int .u8 y5)) (f5:w.frozen? ⟨B,o+5,none⟩=false) (c6:w.cell? ⟨B,o+6,none⟩=some (.int .u8 y6)) (f6:w.frozen? ⟨B,o+6,none⟩=false) (c7:w.cell? ⟨B,o+7,none⟩=some (.int .u8 y7)) (f7:w.frozen? ⟨B,o+7,none⟩=false) :
 Calls Tryz.prog 55 #[.slice (some ⟨B,o,none⟩) 16 c,.int .u64 x] w fun e w'=>e=.returned (.tuple #[])∧w'=((((((((w.setCell ⟨B,o,none⟩ (.int .u8 (x%256))).setCell ⟨B,o+1,none⟩ (.int .u8 (x/256%256))).setCell ⟨B,o+2,none⟩ (.int .u8 (x/65536%256))).setCell ⟨B,o+3,none⟩ (.int .u8 (x/16777216%256))).setCell ⟨B,o+4,none⟩ (.int .u8 (x/4294967296%256))).setCell ⟨B,o+5,none⟩ (.int .u8 (x/1099511627776%256))).setCell ⟨B,o+6,none⟩ (.int .u8 (x/281474976710656%256))).setCell ⟨B,o+7,none⟩ (.int .u8 (x/72057594037927936%256))):=by
 go_enter Tryz.func55,Tryz.ntmps55
 go_wp2
 go_end0
 exact ⟨rfl,rfl⟩
theorem put16_any (B o n c:Nat) (g:Nat→Int) (x:Int) (ho:o+8≤n) (w:World) (h:Has w B .u8 n g) :
 Calls Tryz.prog 55 #[.slice (some ⟨B,o,none⟩) 16 c,.int .u64 x] w fun e w'=>e=.returned (.tuple #[])∧w'=w.setCells B o (row .u8 8 (byt x)) :=
 put_raw16 B o c x _ _ _ _ _ _ _ _ w (h.cell o (by omega)) (h.free o (by omega)) (h.cell (o+1) (by omega)) (h.free (o+1) (by omega)) (h.cell (o+2) (by omega)) (h.free (o+2) (by omega)) (h.cell (o+3) (by omega)) (h.free (o+3) (by omega)) (h.cell (o+4) (by omega)) (h.free (o+4) (by omega)) (h.cell (o+5) (by omega)) (h.free (o+5) (by omega)) (h.cell (o+6) (by omega)) (h.free (o+6) (by omega)) (h.cell (o+7) (by omega)) (h.free (o+7) (by omega))
def dgN (s A j:Nat):Nat:=A/2^(s*j)%2^s
def dg (s A:Nat):Nat→Int:=fun j=>((dgN s A j:Nat):Int)
def nb (a:Nat→Int):Nat:=(val 256 a 17).toNat
abbrev D:Int:=67108864
structure RS (f:Nat→Int) (w w':World):Prop where
 hd:Has w' (w.heap.size+1) .i64 5 f
 hr:Has w' w.heap.size .u8 17 (fun _=>0)
 fr:Fr w 2 w'
structure RA (v:Int) (n B:Nat) (f:Nat→Int) (w w':World):Prop where
 cs:n=5∨n=6∨n=11
 big:∀ j,j<n→0≤f j∧f j≤(if n=11 then 72057594037927936 else if n=6 then 432345564227567616 else 2594073385365405696)
 eq:val D f n%Q=v%Q
 ht:Has w' B .i64 n f
 hB:B<w'.heap.size
 ne:B≠w.heap.size∧B≠w.heap.size+1
 rs:RS (fun _=>0) w w'
structure R2 (v:Int) (r:Int) (f:Nat→Int) (w w':World):Prop where
 r0:0≤r
 big:∀ j,j<5→0≤f j∧f j≤2594073385365405696
 eq:val D f 5%Q=v%Q
 inn:r=0→In D 5 f
 rs:RS f w w'
structure R3 (f:Nat→Int) (k:Nat) (r:Int) (g:Nat→Int) (w w':World):Prop where
 r0:0≤r
 r1:r≤137438953472
 done:∀ j,j<k→0≤g j∧g j<67108864
 rest:∀ j,k≤j→g j=f j
 eq:val D g k+D^k*r=val D f k
 rs:RS g w w'
structure Two (a b:Nat→Int) (w w':World):Prop where
 ha:Has w' w.heap.size .u8 17 a
 hb:Has w' (w.heap.size+1) .u8 17 b
 hr:w'.there (w.heap.size+1+1) 0 17
 fr:Fr w 3 w'
structure MU (a b:Nat→Int) (i k:Nat) (f:Nat→Int) (B1 B2 B3:Nat) (w w':World):Prop where
 eq:val D f 11=val D (dg 26 (nb a)) i*val D (dg 26 (nb b)) 6+D^i*dg 26 (nb a) i*val D (dg 26 (nb b)) k
 big:∀ j,j<11→0≤f j∧f j≤(i:Int)*4503599627370496+(if i≤j∧j<i+k then 4503599627370496 else 0)
 h1:Has w' B1 .i64 6 (dg 26 (nb a))
 h2:Has w' B2 .i64 6 (dg 26 (nb b))
 h3:Has w' B3 .i64 11 f
 hr:w'.there (w.heap.size+1+1) 0 17
 fr:Fr w 3 w'
 hi:B3<w'.heap.size
end Go.Proofs.YtknodedhcdpbiaaGreatDoor
