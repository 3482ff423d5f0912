/- Texts of Ux Uz Opn Open20, joined. -/
import Derived.Test.YtdengjdfmhcbiaaP6PathsPlays
import Derived.ProofKit
import Derived.LaidMore
import Derived.OpenShut
import Derived.Deep.Strs
import Derived.Stop.Joined
import Derived.Test.YtdengjdfmhcbiaaRows
set_option maxRecDepth 20000
set_option maxHeartbeats 64000000
namespace Go.Proofs.Ytdengjdfmhcbiaa
open Go.RowKit
theorem vliv20_any (w:World) (R:Nat) (t:Ptb) (hT:Tat w R t) :
 Calls Try.prog 26 #[.pointer (some ⟨R,0,none⟩)] w fun e w'=>∃ sq cq,e=.returned (.slice sq (prow t 2).length cq)∧NewI w' w.heap.size (prow t 2) (.slice sq (prow t 2).length cq)∧Below w.heap.size w w':=by
 have M:=Mm.init w; have hwz:=xnR w.heap.size
 go_enter Try.func26,Try.ntmps26
 go_upto_region 0 with fail; refine wp_region_list ?_; refine xpL (.slice none 0 0) ?_; refine xT ?_; go_upto_region 1 with fail; refine wp_region_list ?_; refine xpL (.slice none 0 0) ?_; refine xT ?_; go_upto_region 2 with fail; refine wp_region_list ?_; refine xpL (.int .i64 0) ?_; refine xT ?_
 have HI:=show Hid _ from (show OwnI w w.heap.size (prowP t 2 0) (.slice none (prowP t 2 0).length 0)∧Below w.heap.size w w from ⟨⟨rfl,.inl ⟨rfl,rfl⟩⟩,M.below⟩); clear M hwz; go_wp2
 go_loopw [3,5] (fun l_ v_ w'=>∃ (j:Nat) (sq:Option Addr) (cq:Nat),j≤256∧l_=.slice sq (prowP t 2 j).length cq∧v_=.int .i64 ((j:Nat):Int)∧OwnI w' w.heap.size (prowP t 2 j) (.slice sq (prowP t 2 j).length cq)∧Below w.heap.size w w') (fun _ v_ _=>256-(intOf v_).toNat)
 case atStart=>exact ⟨0,none,0,by omega,rfl,rfl,HI.out⟩
 case round =>
  clear HI
  obtain ⟨j,sq,cq,hj,rfl,rfl,V_l,hB⟩:=hrel
  have M:=(Mm.init w).call hB; have hwz:=hB.size; clear hB; have hpl:=prowP_le t 2 j
  by_cases hj2:j<256
  · go_upto_region 3 with fail
    refine wp_region_list ?_; refine xaL (.bool true) (lssI .i64 _ _ _ _ _ _ rfl rfl rfl true (decide_eq_true (by omega)) _) ?_; refine xT ?_; go_upto_region 4 with fail; refine wp_region_list ?_; refine xpL (.int .i64 ((j:Nat):Int)) ?_; refine xpL (.int .i64 ((j:Nat):Int)) ?_; refine xT ?_
    by_cases he:(t j).st=2
    · go_upto_region 5 with fail
      refine wp_region_list ?_; refine xpL (.pointer (some ⟨R,0,none⟩)) ?_; refine xpL (.int .i64 ((j:Nat):Int)) ?_; refine xpL (.pointer (some ⟨R,0,none⟩)) ?_; refine xpL (.pointer (some ⟨R,0,none⟩)) ?_; refine xaL (.pointer (some ⟨R,j*12,none⟩)) (idxP12 R j hj2 _ _ rfl rfl rfl _) ?_; refine xpL (.pointer (some ⟨R,j*12+0,none⟩)) ?_
      refine readL (.int .i64 (((t j).st:Nat):Int)) rfl (load1 3 _ ⟨R,j*12+0,none⟩ _ rfl rfl (fun _=>by kernel_rfl) (((hT j hj2).below M.below) 0 _ rfl)) ?_; simp only [aP,lI,l0,lS]; refine xaL (.bool true) (eqlI .i64 _ _ _ _ _ _ rfl rfl rfl true (beq_iff_eq.2 (by omega)) _) ?_; refine xT ?_; go_upto_region 6 with fail; refine wp_region_list ?_
      refine xpL (.slice sq ((prowP t 2 j).length) cq) ?_; refine xpL (.int .i64 ((j:Nat):Int)) ?_; have hlb:=(Below.refl wr.heap.size wr).alloc (xnR _) (.cells (row .i64 [((j:Nat):Int)].length (bl [((j:Nat):Int)])).toArray 3); have S_n:=SrcI.lit wr [((j:Nat):Int)] (show 1≤16 by decide)
      refine actL (w':=wr.alloc (.cells (row .i64 [((j:Nat):Int)].length (bl [((j:Nat):Int)])).toArray 3)) (.slice (some ⟨wr.heap.size,0,none⟩) 1 1) rfl (by kernel_rfl) ?_; simp only [aP,lI,l0,lS]; replace M:=M.call hlb; replace hwz:=xnT hwz hlb.size; replace V_l:=Own.below V_l hlb; clear hlb
      generalize wr.alloc (.cells (row .i64 [((j:Nat):Int)].length (bl [((j:Nat):Int)])).toArray 3)=w1 at M S_n hwz V_l ⊢; generalize (some ⟨wr.heap.size,0,none⟩:Option Addr)=pn at S_n ⊢
      obtain ⟨v_,w2,hr,O2,hgr,_⟩:=run_append_Own (P:=Try.prog) (ty:=38) Try.underlying38 one64 V_l pn 1 1 (bl [((j:Nat):Int)]) S_n (fun e=>by obtain ⟨_,h,_⟩:=S_n 0 Nat.zero_lt_one; rw [e] at h; cases h) (by unfold maxLen; omega) (by omega) hwz
      have hzb:=fun b hb=>(World.ownsRow.lt V_l b hb).1; replace M:=M.grownN hgr (fun b hb=>⟨by have:=hzb b hb; omega,fun _ h_=>by cases h_⟩); replace hwz:=xnT hwz hgr.size; refine xaL v_ (appendOp _ _ 38 _ _ _ rfl rfl rfl hr) ?_
      replace O2:OwnI w2 w.heap.size ((prowP t 2 j)++[((j:Nat):Int)]) v_:=OwnI.app O2
      clear hr hgr V_l S_n hzb; have V_l:=O2; clear O2
      obtain ⟨sq2,cq2,rfl,_⟩:=V_l.isSlice
      refine xpL (.slice sq2 (((prowP t 2 j)++[((j:Nat):Int)]).length) cq2) ?_; refine xT ?_
      rw [← prowP_yes (t:=t) (s:=2) (n:=j) he] at V_l ⊢
      have HS:=show Hid _ from (show OwnI w2 w.heap.size (prowP t 2 (j+1)) (.slice sq2 (prowP t 2 (j+1)).length cq2)∧Below w.heap.size w w2 from ⟨V_l,M.below⟩); clear M V_l hwz; go_wp2
      go_roundw
      case rel=>exact ⟨j+1,sq2,cq2,by omega,rfl,by go_num,HS.out⟩
      case measure=>simp [intOf]; omega
    · go_upto_region 5 with fail
      refine wp_region_list ?_; refine xpL (.pointer (some ⟨R,0,none⟩)) ?_; refine xpL (.int .i64 ((j:Nat):Int)) ?_; refine xpL (.pointer (some ⟨R,0,none⟩)) ?_; refine xpL (.pointer (some ⟨R,0,none⟩)) ?_; refine xaL (.pointer (some ⟨R,j*12,none⟩)) (idxP12 R j hj2 _ _ rfl rfl rfl _) ?_; refine xpL (.pointer (some ⟨R,j*12+0,none⟩)) ?_
      refine readL (.int .i64 (((t j).st:Nat):Int)) rfl (load1 3 _ ⟨R,j*12+0,none⟩ _ rfl rfl (fun _=>by kernel_rfl) (((hT j hj2).below M.below) 0 _ rfl)) ?_; simp only [aP,lI,l0,lS]; refine xaL (.bool false) (eqlI .i64 _ _ _ _ _ _ rfl rfl rfl false (beq_eq_false_iff_ne.2 (by omega)) _) ?_; refine xT ?_
      rw [← prowP_no (t:=t) (s:=2) (n:=j) he] at V_l ⊢
      have HS:=show Hid _ from (show OwnI wr w.heap.size (prowP t 2 (j+1)) (.slice sq (prowP t 2 (j+1)).length cq)∧Below w.heap.size w wr from ⟨V_l,M.below⟩); clear M V_l hwz; go_wp2
      go_roundw
      case rel=>exact ⟨j+1,sq,cq,by omega,rfl,by go_num,HS.out⟩
      case measure=>simp [intOf]; omega
  · obtain rfl:j=256:=by omega
    rw [prowP_all] at V_l ⊢
    go_upto_region 3 with fail; refine wp_region_list ?_; refine xaL (.bool false) (lssI .i64 _ _ _ _ _ _ rfl rfl rfl false (decide_eq_false (by omega)) _) ?_; refine xT ?_; go_upto_region 8 with fail; refine wp_region_list ?_; refine xpL (.slice sq ((prow t 2).length) cq) ?_; refine xpL (.slice sq ((prow t 2).length) cq) ?_; refine xT ?_
    have HS:=show Hid _ from (And.intro (NewI.of_own V_l) M.below); clear M V_l; go_wp2; go_ret
    first | exact ⟨sq,cq,rfl,HS.out⟩ | exact ⟨rfl,sq,cq,HS.out⟩
theorem vans20_any (w0 w:World) (R:Nat) (l:List (Nat × List Value)) (t:Ptb) (hW:PtbW t) (M:Mm w0 ((R,tcs t)::l) w) (id:Int) (tk:Nat→Int) :
 Calls Try.prog 17 #[.pointer (some ⟨R,0,none⟩),.int .i64 id,.agg #[.int .u8 (tk 0),.int .u8 (tk 1),.int .u8 (tk 2),.int .u8 (tk 3),.int .u8 (tk 4),.int .u8 (tk 5),.int .u8 (tk 6),.int .u8 (tk 7)]] w fun e w'=>e=.returned (.bool (pans t id tk))∧Mm w0 ((R,tcs (pant t id tk))::l) w'∧Off [R] w w':=by
 have OF:=Off.refl [R] w; have hwz:=xnR w.heap.size; have hRw:=M.lt mS
 go_enter Try.func17,Try.ntmps17
 go_upto_region 0 with fail; refine wp_region_list ?_; have hlb:=(Below.refl w.heap.size w).alloc (xnR _) (.cells #[.int .u8 (tk 0),.int .u8 (tk 1),.int .u8 (tk 2),.int .u8 (tk 3),.int .u8 (tk 4),.int .u8 (tk 5),.int .u8 (tk 6),.int .u8 (tk 7)] 30)
 refine actL (w':=w.alloc (.cells #[.int .u8 (tk 0),.int .u8 (tk 1),.int .u8 (tk 2),.int .u8 (tk 3),.int .u8 (tk 4),.int .u8 (tk 5),.int .u8 (tk 6),.int .u8 (tk 7)] 30)) (.pointer (some ⟨w.heap.size,0,none⟩)) rfl (by kernel_rfl) ?_; simp only [aP,lI,l0,lS]; replace OF:=OF.below hlb; have hB_:=M.below.size; have hW_:=hwz; replace hwz:=xnT hwz hlb.size
 replace M:=M.box #[.int .u8 (tk 0),.int .u8 (tk 1),.int .u8 (tk 2),.int .u8 (tk 3),.int .u8 (tk 4),.int .u8 (tk 5),.int .u8 (tk 6),.int .u8 (tk 7)] 30 w.heap.size rfl; clear hlb; generalize w.alloc (.cells #[.int .u8 (tk 0),.int .u8 (tk 1),.int .u8 (tk 2),.int .u8 (tk 3),.int .u8 (tk 4),.int .u8 (tk 5),.int .u8 (tk 6),.int .u8 (tk 7)] 30)=w1 at M hwz OF ⊢
 generalize eB_:w.heap.size=B1 at M ⊢
 have hB_B1:w0.heap.size≤B1:=by rw [← eB_]; exact hB_
 have hW_B1:w.heap.size≤B1:=by rw [← eB_]; exact hW_
 have hF_B1:w.heap.size=B1:=eB_
 clear hB_ hW_ eB_
 replace M:Mm w0 ((B1,[.int .u8 (tk 0),.int .u8 (tk 1),.int .u8 (tk 2),.int .u8 (tk 3),.int .u8 (tk 4),.int .u8 (tk 5),.int .u8 (tk 6),.int .u8 (tk 7)])::(R,tcs t)::l) w1:=M
 refine xpL (.bool false) ?_; refine xT ?_; go_upto_region 1 with fail; refine wp_region_list ?_; refine xpL (.pointer (some ⟨R,0,none⟩)) ?_; refine xpL (.int .i64 id) ?_; have key:=vat20_any w1 R t hW (Tat.of M (mT _ mS)) id; refine xcL key ?_; clear key; rintro e w2 ⟨Ba,oa,rfl,P_a,hRa,l_⟩; replace M:=M.call l_; replace OF:=OF.below l_; replace hwz:=xnT hwz l_.size; clear l_
 refine xeL ?_; refine xpL (.pointer (some ⟨Ba,oa,none⟩)) ?_; refine xT ?_
 by_cases hs:(t (pix id)).st=1
 · by_cases hpe:peq (pzk (t (pix id))) tk=true
   · go_upto_region 2 with fail
     have hdr:=(Below.refl w2.heap.size w2).drew; replace M:=M.drew; replace hwz:=xnT hwz hdr.size; replace OF:=OF.below hdr; replace P_a:=P_a.below hdr; clear hdr
     refine wp_region_held_drew (S:=fun w'=>Mm w0 ((B1,[.int .u8 (tk 0),.int .u8 (tk 1),.int .u8 (tk 2),.int .u8 (tk 3),.int .u8 (tk 4),.int .u8 (tk 5),.int .u8 (tk 6),.int .u8 (tk 7)])::(R,tcs t)::l) w'∧Pat w' Ba oa (t (pix id))) (by kernel_rfl) ⟨M,P_a⟩ ?_; intro _; generalize w2.drew=w5 at M hwz OF P_a ⊢
     refine xrH 0 11 rfl (.pointer (some ⟨Ba,oa,none⟩)) (fun _ ⟨M,P_a⟩=>(by kernel_rfl)) ⟨M,P_a⟩ ?_; refine xrH 1 12 rfl (.pointer (some ⟨Ba,oa,none⟩)) (fun _ ⟨M,P_a⟩=>(by kernel_rfl)) ⟨M,P_a⟩ ?_; refine xrH 2 13 rfl (.pointer (some ⟨Ba,oa+0,none⟩)) (fun _ ⟨M,P_a⟩=>(by kernel_rfl)) ⟨M,P_a⟩ ?_
     refine xrH 3 14 rfl (.int .i64 (((t (pix id)).st:Nat):Int)) (fun _ ⟨M,P_a⟩=>load1 3 _ ⟨Ba,oa+0,none⟩ _ rfl rfl (fun _=>by kernel_rfl) (P_a 0 _ rfl)) ⟨M,P_a⟩ ?_; refine xrH 4 15 rfl (.bool false) (fun _ ⟨M,P_a⟩=>neqI .i64 _ _ _ _ _ _ rfl rfl rfl false (by rw [bne_eq_false_iff_eq]; omega) _) ⟨M,P_a⟩ ?_
     refine xrH 5 16 rfl (.bool false) (fun _ ⟨M,P_a⟩=>(by kernel_rfl)) ⟨M,P_a⟩ ?_; refine xrH 6 17 rfl (.pointer (some ⟨Ba,oa,none⟩)) (fun _ ⟨M,P_a⟩=>(by kernel_rfl)) ⟨M,P_a⟩ ?_; refine xrH 7 18 rfl (.pointer (some ⟨Ba,oa,none⟩)) (fun _ ⟨M,P_a⟩=>(by kernel_rfl)) ⟨M,P_a⟩ ?_; refine xrH 8 19 rfl (.pointer (some ⟨Ba,oa+2,none⟩)) (fun _ ⟨M,P_a⟩=>(by kernel_rfl)) ⟨M,P_a⟩ ?_
     refine xrH 9 20 rfl (.agg #[.int .u8 ((pzk (t (pix id))) 0),.int .u8 ((pzk (t (pix id))) 1),.int .u8 ((pzk (t (pix id))) 2),.int .u8 ((pzk (t (pix id))) 3),.int .u8 ((pzk (t (pix id))) 4),.int .u8 ((pzk (t (pix id))) 5),.int .u8 ((pzk (t (pix id))) 6),.int .u8 ((pzk (t (pix id))) 7)]) (fun _ ⟨M,P_a⟩=>loadN 30 _ ⟨Ba,oa+2,none⟩ [.int .u8 ((pzk (t (pix id))) 0),.int .u8 ((pzk (t (pix id))) 1),.int .u8 ((pzk (t (pix id))) 2),.int .u8 ((pzk (t (pix id))) 3),.int .u8 ((pzk (t (pix id))) 4),.int .u8 ((pzk (t (pix id))) 5),.int .u8 ((pzk (t (pix id))) 6),.int .u8 ((pzk (t (pix id))) 7)] rfl rfl (fun _=>by kernel_rfl) (fun _=>by kernel_rfl) P_a.tok) ⟨M,P_a⟩ ?_
     refine xrH 10 21 rfl (.agg #[.int .u8 (tk 0),.int .u8 (tk 1),.int .u8 (tk 2),.int .u8 (tk 3),.int .u8 (tk 4),.int .u8 (tk 5),.int .u8 (tk 6),.int .u8 (tk 7)]) (fun _ ⟨M,P_a⟩=>loadN 30 _ ⟨B1,0,none⟩ [.int .u8 (tk 0),.int .u8 (tk 1),.int .u8 (tk 2),.int .u8 (tk 3),.int .u8 (tk 4),.int .u8 (tk 5),.int .u8 (tk 6),.int .u8 (tk 7)] rfl rfl (fun _=>by kernel_rfl) (fun _=>by kernel_rfl) (M.rangeAt mS)) ⟨M,P_a⟩ ?_
     refine xrH 11 22 rfl (.bool false) (fun _ ⟨M,P_a⟩=>(by rw [show (Value.bool false)=.bool (!peq (pzk (t (pix id))) tk) by rw [hpe]; rfl]; exact neqT8 (pzk (t (pix id))) tk _ _ rfl rfl rfl _)) ⟨M,P_a⟩ ?_
     refine xrH 12 23 rfl (.bool false) (fun _ ⟨M,P_a⟩=>(by kernel_rfl)) ⟨M,P_a⟩ ?_
     refine wpAnyH_done (by kernel_rfl) ?_ _
     first | show Exit.then _ _ _ _ _ | show Exit.inBlock _ _ _ _ _
     obtain ⟨hb_,ho_,hk⟩:Ba=R∧oa=pix id*12∧pix id<256:=by
      rcases hRa with h_ | h_
      · exact h_
      · rw [h_.2,hW.z 256 (by omega)] at hs
        exact absurd hs (by decide)
     replace hb_:=hb_.symm; subst hb_; subst ho_; go_upto_region 4 with fail; refine wp_region_list ?_; refine xpL (.pointer (some ⟨R,pix id*12,none⟩)) ?_; replace M:=M.swap; have key:=vbec20_any w0 w5 R ((B1,[.int .u8 (tk 0),.int .u8 (tk 1),.int .u8 (tk 2),.int .u8 (tk 3),.int .u8 (tk 4),.int .u8 (tk 5),.int .u8 (tk 6),.int .u8 (tk 7)])::l) t M (pix id) hk 2 (by decide)
     refine xcL key ?_; clear key; rintro e w6 ⟨rfl,M',o1⟩; clear M P_a; have M:=M'; replace OF:=OF.trans o1; clear M' o1 hwz; refine xeL ?_; refine xT ?_; go_upto_region 5 with fail; refine wp_region_list ?_; refine xpL (.bool true) ?_; refine xT ?_
     have hpz:pzk (t (pix id))=(t (pix id)).tk:=if_pos hs
     have hE:=show Hid _ from (show pans t id tk=true from (by unfold pans; rw [← hpz,hpe,decide_eq_true hs]; rfl))
     have HS:=show Hid _ from (show Mm w0 ((R,tcs (pant t id tk))::l) w6∧Off [R] w w6 from by
      rw [show pant t id tk=pput t (pix id) { (t (pix id)) with st:=2 } from if_pos hE.out]
      exact ⟨M.drop2,OF⟩)
     clear M OF; go_wp2; go_ret
     exact ⟨by rw [hE.out]; try rfl,HS.out⟩
   · rw [Bool.not_eq_true] at hpe
     go_upto_region 2 with fail; have hdr:=(Below.refl w2.heap.size w2).drew; replace M:=M.drew; replace hwz:=xnT hwz hdr.size; replace OF:=OF.below hdr; replace P_a:=P_a.below hdr; clear hdr
     refine wp_region_held_drew (S:=fun w'=>Mm w0 ((B1,[.int .u8 (tk 0),.int .u8 (tk 1),.int .u8 (tk 2),.int .u8 (tk 3),.int .u8 (tk 4),.int .u8 (tk 5),.int .u8 (tk 6),.int .u8 (tk 7)])::(R,tcs t)::l) w'∧Pat w' Ba oa (t (pix id))) (by kernel_rfl) ⟨M,P_a⟩ ?_; intro _; generalize w2.drew=w4 at M hwz OF P_a ⊢
     refine xrH 0 11 rfl (.pointer (some ⟨Ba,oa,none⟩)) (fun _ ⟨M,P_a⟩=>(by kernel_rfl)) ⟨M,P_a⟩ ?_; refine xrH 1 12 rfl (.pointer (some ⟨Ba,oa,none⟩)) (fun _ ⟨M,P_a⟩=>(by kernel_rfl)) ⟨M,P_a⟩ ?_; refine xrH 2 13 rfl (.pointer (some ⟨Ba,oa+0,none⟩)) (fun _ ⟨M,P_a⟩=>(by kernel_rfl)) ⟨M,P_a⟩ ?_
     refine xrH 3 14 rfl (.int .i64 (((t (pix id)).st:Nat):Int)) (fun _ ⟨M,P_a⟩=>load1 3 _ ⟨Ba,oa+0,none⟩ _ rfl rfl (fun _=>by kernel_rfl) (P_a 0 _ rfl)) ⟨M,P_a⟩ ?_; refine xrH 4 15 rfl (.bool false) (fun _ ⟨M,P_a⟩=>neqI .i64 _ _ _ _ _ _ rfl rfl rfl false (by rw [bne_eq_false_iff_eq]; omega) _) ⟨M,P_a⟩ ?_
     refine xrH 5 16 rfl (.bool false) (fun _ ⟨M,P_a⟩=>(by kernel_rfl)) ⟨M,P_a⟩ ?_; refine xrH 6 17 rfl (.pointer (some ⟨Ba,oa,none⟩)) (fun _ ⟨M,P_a⟩=>(by kernel_rfl)) ⟨M,P_a⟩ ?_; refine xrH 7 18 rfl (.pointer (some ⟨Ba,oa,none⟩)) (fun _ ⟨M,P_a⟩=>(by kernel_rfl)) ⟨M,P_a⟩ ?_; refine xrH 8 19 rfl (.pointer (some ⟨Ba,oa+2,none⟩)) (fun _ ⟨M,P_a⟩=>(by kernel_rfl)) ⟨M,P_a⟩ ?_
     refine xrH 9 20 rfl (.agg #[.int .u8 ((pzk (t (pix id))) 0),.int .u8 ((pzk (t (pix id))) 1),.int .u8 ((pzk (t (pix id))) 2),.int .u8 ((pzk (t (pix id))) 3),.int .u8 ((pzk (t (pix id))) 4),.int .u8 ((pzk (t (pix id))) 5),.int .u8 ((pzk (t (pix id))) 6),.int .u8 ((pzk (t (pix id))) 7)]) (fun _ ⟨M,P_a⟩=>loadN 30 _ ⟨Ba,oa+2,none⟩ [.int .u8 ((pzk (t (pix id))) 0),.int .u8 ((pzk (t (pix id))) 1),.int .u8 ((pzk (t (pix id))) 2),.int .u8 ((pzk (t (pix id))) 3),.int .u8 ((pzk (t (pix id))) 4),.int .u8 ((pzk (t (pix id))) 5),.int .u8 ((pzk (t (pix id))) 6),.int .u8 ((pzk (t (pix id))) 7)] rfl rfl (fun _=>by kernel_rfl) (fun _=>by kernel_rfl) P_a.tok) ⟨M,P_a⟩ ?_
     refine xrH 10 21 rfl (.agg #[.int .u8 (tk 0),.int .u8 (tk 1),.int .u8 (tk 2),.int .u8 (tk 3),.int .u8 (tk 4),.int .u8 (tk 5),.int .u8 (tk 6),.int .u8 (tk 7)]) (fun _ ⟨M,P_a⟩=>loadN 30 _ ⟨B1,0,none⟩ [.int .u8 (tk 0),.int .u8 (tk 1),.int .u8 (tk 2),.int .u8 (tk 3),.int .u8 (tk 4),.int .u8 (tk 5),.int .u8 (tk 6),.int .u8 (tk 7)] rfl rfl (fun _=>by kernel_rfl) (fun _=>by kernel_rfl) (M.rangeAt mS)) ⟨M,P_a⟩ ?_
     refine xrH 11 22 rfl (.bool true) (fun _ ⟨M,P_a⟩=>(by rw [show (Value.bool true)=.bool (!peq (pzk (t (pix id))) tk) by rw [hpe]; rfl]; exact neqT8 (pzk (t (pix id))) tk _ _ rfl rfl rfl _)) ⟨M,P_a⟩ ?_
     refine xrH 12 23 rfl (.bool true) (fun _ ⟨M,P_a⟩=>(by kernel_rfl)) ⟨M,P_a⟩ ?_
     refine wpAnyH_done (by kernel_rfl) ?_ _
     first | show Exit.then _ _ _ _ _ | show Exit.inBlock _ _ _ _ _
     go_upto_region 3 with fail; refine wp_region_list ?_; refine xpL (.bool false) ?_; refine xT ?_
     have hpz:pzk (t (pix id))=(t (pix id)).tk:=if_pos hs
     have hE:=show Hid _ from (show pans t id tk=false from (by unfold pans; rw [← hpz,hpe,Bool.and_false]))
     have HS:=show Hid _ from (show Mm w0 ((R,tcs (pant t id tk))::l) w4∧Off [R] w w4 from by
      rw [show pant t id tk=t from if_neg (by rw [hE.out]; decide)]
      exact ⟨M.tail,OF⟩)
     clear M OF P_a; go_wp2; go_ret
     exact ⟨by rw [hE.out]; try rfl,HS.out⟩
 · go_upto_region 2 with fail
   have hdr:=(Below.refl w2.heap.size w2).drew; replace M:=M.drew; replace hwz:=xnT hwz hdr.size; replace OF:=OF.below hdr; replace P_a:=P_a.below hdr; clear hdr
   refine wp_region_held_drew (S:=fun w'=>Mm w0 ((B1,[.int .u8 (tk 0),.int .u8 (tk 1),.int .u8 (tk 2),.int .u8 (tk 3),.int .u8 (tk 4),.int .u8 (tk 5),.int .u8 (tk 6),.int .u8 (tk 7)])::(R,tcs t)::l) w'∧Pat w' Ba oa (t (pix id))) (by kernel_rfl) ⟨M,P_a⟩ ?_; intro _; generalize w2.drew=w3 at M hwz OF P_a ⊢
   refine xrH 0 11 rfl (.pointer (some ⟨Ba,oa,none⟩)) (fun _ ⟨M,P_a⟩=>(by kernel_rfl)) ⟨M,P_a⟩ ?_; refine xrH 1 12 rfl (.pointer (some ⟨Ba,oa,none⟩)) (fun _ ⟨M,P_a⟩=>(by kernel_rfl)) ⟨M,P_a⟩ ?_; refine xrH 2 13 rfl (.pointer (some ⟨Ba,oa+0,none⟩)) (fun _ ⟨M,P_a⟩=>(by kernel_rfl)) ⟨M,P_a⟩ ?_
   refine xrH 3 14 rfl (.int .i64 (((t (pix id)).st:Nat):Int)) (fun _ ⟨M,P_a⟩=>load1 3 _ ⟨Ba,oa+0,none⟩ _ rfl rfl (fun _=>by kernel_rfl) (P_a 0 _ rfl)) ⟨M,P_a⟩ ?_; refine xrH 4 15 rfl (.bool true) (fun _ ⟨M,P_a⟩=>neqI .i64 _ _ _ _ _ _ rfl rfl rfl true (bne_iff_ne.2 (by omega)) _) ⟨M,P_a⟩ ?_; refine xrH 5 16 rfl (.bool true) (fun _ ⟨M,P_a⟩=>(by kernel_rfl)) ⟨M,P_a⟩ ?_
   refine mayH (i:=6) (some 17) rfl false undef undef rfl rfl rfl (fun hc=>by cases hc) (by kernel_rfl) (by kernel_rfl) (by kernel_rfl) (fun _ _ _ h=>h) ⟨M,P_a⟩ ?_; simp only [aP,lI,l0,lS]; refine mayH (i:=7) (some 18) rfl false undef undef rfl rfl rfl (fun hc=>by cases hc) (by kernel_rfl) (by kernel_rfl) (by kernel_rfl) (fun _ _ _ h=>h) ⟨M,P_a⟩ ?_; simp only [aP,lI,l0,lS]
   refine mayH (i:=8) (some 19) rfl false undef undef rfl rfl rfl (fun hc=>by cases hc) (by kernel_rfl) (by kernel_rfl) (by kernel_rfl) (fun _ _ _ h=>h) ⟨M,P_a⟩ ?_; simp only [aP,lI,l0,lS]; refine mayH (i:=9) (some 20) rfl false undef undef rfl rfl rfl (fun hc=>by cases hc) (by kernel_rfl) (by kernel_rfl) (by kernel_rfl) (fun _ _ _ h=>h) ⟨M,P_a⟩ ?_; simp only [aP,lI,l0,lS]
   refine mayH (i:=10) (some 21) rfl false undef undef rfl rfl rfl (fun hc=>by cases hc) (by kernel_rfl) (by kernel_rfl) (by kernel_rfl) (fun _ _ _ h=>h) ⟨M,P_a⟩ ?_; simp only [aP,lI,l0,lS]; refine mayH (i:=11) (some 22) rfl false undef undef rfl rfl rfl (fun hc=>by cases hc) (by kernel_rfl) (by kernel_rfl) (by kernel_rfl) (fun _ _ _ h=>h) ⟨M,P_a⟩ ?_; simp only [aP,lI,l0,lS]
   refine xrH 12 23 rfl (.bool true) (fun _ ⟨M,P_a⟩=>(by kernel_rfl)) ⟨M,P_a⟩ ?_
   refine wpAnyH_done (by kernel_rfl) ?_ _
   first | show Exit.then _ _ _ _ _ | show Exit.inBlock _ _ _ _ _
   go_upto_region 3 with fail; refine wp_region_list ?_; refine xpL (.bool false) ?_; refine xT ?_; have hE:=show Hid _ from (show pans t id tk=false from (by unfold pans; rw [decide_eq_false hs]; rfl))
   have HS:=show Hid _ from (show Mm w0 ((R,tcs (pant t id tk))::l) w3∧Off [R] w w3 from by
    rw [show pant t id tk=t from if_neg (by rw [hE.out]; decide)]
    exact ⟨M.tail,OF⟩)
   clear M OF P_a; go_wp2; go_ret
   exact ⟨by rw [hE.out]; try rfl,HS.out⟩
theorem vrem20_any (w0 w:World) (R:Nat) (l:List (Nat × List Value)) (t:Ptb) (hW:PtbW t) (M:Mm w0 ((R,tcs t)::l) w) (id:Int) :
 Calls Try.prog 19 #[.pointer (some ⟨R,0,none⟩),.int .i64 id] w fun e w'=>e=.returned (.int .i64 ((prE t id:Nat):Int))∧Mm w0 ((R,tcs (prm t id))::l) w'∧Off [R] w w':=by
 have OF:=Off.refl [R] w; have hwz:=xnR w.heap.size; have hRw:=M.lt mS
 go_enter Try.func19,Try.ntmps19
 go_upto_region 0 with fail; refine wp_region_list ?_; refine xpL (.int .i64 0) ?_; refine xT ?_; go_upto_region 1 with fail; refine wp_region_list ?_; refine xpL (.pointer (some ⟨R,0,none⟩)) ?_; refine xpL (.int .i64 id) ?_; have key:=vat20_any w R t hW (Tat.of M mS) id; refine xcL key ?_; clear key; rintro e w1 ⟨Ba,oa,rfl,P_a,hRa,l_⟩; replace M:=M.call l_; replace OF:=OF.below l_
 replace hwz:=xnT hwz l_.size; clear l_; refine xeL ?_; refine xpL (.pointer (some ⟨Ba,oa,none⟩)) ?_; refine xT ?_
 by_cases hs:(t (pix id)).st=1∨(t (pix id)).st=2
 · go_upto_region 2 with fail
   refine wp_region_list ?_; refine xpL (.pointer (some ⟨Ba,oa,none⟩)) ?_; have key_:=vop20_any w1 Ba oa (t (pix id)) P_a
   rw [show pis (t (pix id))=true from decide_eq_true hs] at key_
   have key:=key_; refine xcL key ?_; clear key; rintro e w3 ⟨rfl,l_⟩; replace M:=M.call l_; replace OF:=OF.below l_; replace P_a:=P_a.below l_; replace hwz:=xnT hwz l_.size; clear l_; refine xeL ?_; clear key_; refine xpL (.bool false) ?_; refine xT ?_
   obtain ⟨hb_,ho_,hk⟩:Ba=R∧oa=pix id*12∧pix id<256:=by
    rcases hRa with h_ | h_
    · exact h_
    · rw [h_.2,hW.z 256 (by omega)] at hs
      exact absurd hs (by decide)
   replace hb_:=hb_.symm; subst hb_; subst ho_; go_upto_region 4 with fail; refine wp_region_list ?_; refine xpL (.pointer (some ⟨R,pix id*12,none⟩)) ?_; have key:=vbec20_any w0 w3 R (l) t M (pix id) hk 3 (by decide); refine xcL key ?_; clear key; rintro e w4 ⟨rfl,M',o1⟩; clear M P_a; have M:=M'; replace OF:=OF.trans o1; clear M' o1 hwz; refine xeL ?_; refine xT ?_
   go_upto_region 5 with fail; refine wp_region_list ?_; refine xpL (.int .i64 0) ?_; refine xT ?_; have hE:=show Hid _ from (show prE t id=0 from if_pos hs)
   have HS:=show Hid _ from (show Mm w0 ((R,tcs (prm t id))::l) w4∧Off [R] w w4 from by
    rw [show prm t id=pput t (pix id) { (t (pix id)) with st:=3 } from if_pos hs]
    exact ⟨M,OF⟩)
   clear M OF; go_wp2; go_ret
   exact ⟨by rw [hE.out]; try rfl,HS.out⟩
 · go_upto_region 2 with fail
   refine wp_region_list ?_; refine xpL (.pointer (some ⟨Ba,oa,none⟩)) ?_; have key_:=vop20_any w1 Ba oa (t (pix id)) P_a
   rw [show pis (t (pix id))=false from decide_eq_false hs] at key_
   have key:=key_; refine xcL key ?_; clear key; rintro e w2 ⟨rfl,l_⟩; replace M:=M.call l_; replace OF:=OF.below l_; replace P_a:=P_a.below l_; replace hwz:=xnT hwz l_.size; clear l_; refine xeL ?_; clear key_; refine xpL (.bool true) ?_; refine xT ?_; go_upto_region 3 with fail; refine wp_region_list ?_; refine xpL (.int .i64 200) ?_; refine xT ?_
   have hE:=show Hid _ from (show prE t id=200 from if_neg hs)
   have HS:=show Hid _ from (show Mm w0 ((R,tcs (prm t id))::l) w2∧Off [R] w w2 from by
    rw [show prm t id=t from if_neg hs]
    exact ⟨M,OF⟩)
   clear M OF P_a; go_wp2; go_ret
   exact ⟨by rw [hE.out]; try rfl,HS.out⟩
theorem vsam20_any (w0 w:World) (R:Nat) (l:List (Nat × List Value)) (t:Ptb) (hW:PtbW t) (M:Mm w0 ((R,tcs t)::l) w) (id n:Int) (hn:i64 n) :
 Calls Try.prog 21 #[.pointer (some ⟨R,0,none⟩),.int .i64 id,.int .i64 n] w fun e w'=>e=.returned (.tuple #[])∧Mm w0 ((R,tcs (psm t id n))::l) w'∧Off [R] w w':=by
 unfold i64 at hn
 have hpw:=(hW.w (pix id)).r; have OF:=Off.refl [R] w; have hwz:=xnR w.heap.size; have hRw:=M.lt mS
 go_enter Try.func21,Try.ntmps21
 go_upto_region 0 with fail; refine wp_region_list ?_; refine xpL (.pointer (some ⟨R,0,none⟩)) ?_; refine xpL (.int .i64 id) ?_; have key:=vat20_any w R t hW (Tat.of M mS) id; refine xcL key ?_; clear key; rintro e w1 ⟨Ba,oa,rfl,P_a,hRa,l_⟩; replace M:=M.call l_; replace OF:=OF.below l_; replace hwz:=xnT hwz l_.size; clear l_; refine xeL ?_
 refine xpL (.pointer (some ⟨Ba,oa,none⟩)) ?_; refine xT ?_
 by_cases hs:(t (pix id)).st=2
 · by_cases hn0:n<0
   · go_upto_region 1 with fail
     refine wp_region_list ?_; refine xpL (.pointer (some ⟨Ba,oa,none⟩)) ?_; refine xpL (.pointer (some ⟨Ba,oa,none⟩)) ?_; refine xpL (.pointer (some ⟨Ba,oa+0,none⟩)) ?_; refine readL (.int .i64 (((t (pix id)).st:Nat):Int)) rfl (load1 3 _ ⟨Ba,oa+0,none⟩ _ rfl rfl (fun _=>by kernel_rfl) (P_a 0 _ rfl)) ?_; simp only [aP,lI,l0,lS]
     refine xaL (.bool true) (eqlI .i64 _ _ _ _ _ _ rfl rfl rfl true (beq_iff_eq.2 (by omega)) _) ?_; refine xpL (.bool true) ?_; refine xpL (.int .i64 n) ?_; refine xaL (.bool false) (geqI .i64 _ _ _ _ _ _ rfl rfl rfl false (decide_eq_false (by omega)) _) ?_; refine xpL (.bool false) ?_; refine xT ?_
     have HS:=show Hid _ from (show Mm w0 ((R,tcs (psm t id n))::l) w1∧Off [R] w w1 from by
      rw [show psm t id n=t from if_neg (fun h_=>by omega)]
      exact ⟨M,OF⟩)
     clear M OF P_a; go_wp2
     first | exact ⟨rfl,.tuple #[],by kernel_rfl,rfl,HS.out⟩ | (go_ret; exact ⟨rfl,HS.out⟩)
   · go_upto_region 1 with fail
     refine wp_region_list ?_; refine xpL (.pointer (some ⟨Ba,oa,none⟩)) ?_; refine xpL (.pointer (some ⟨Ba,oa,none⟩)) ?_; refine xpL (.pointer (some ⟨Ba,oa+0,none⟩)) ?_; refine readL (.int .i64 (((t (pix id)).st:Nat):Int)) rfl (load1 3 _ ⟨Ba,oa+0,none⟩ _ rfl rfl (fun _=>by kernel_rfl) (P_a 0 _ rfl)) ?_; simp only [aP,lI,l0,lS]
     refine xaL (.bool true) (eqlI .i64 _ _ _ _ _ _ rfl rfl rfl true (beq_iff_eq.2 (by omega)) _) ?_; refine xpL (.bool true) ?_; refine xpL (.int .i64 n) ?_; refine xaL (.bool true) (geqI .i64 _ _ _ _ _ _ rfl rfl rfl true (decide_eq_true (by omega)) _) ?_; refine xpL (.bool true) ?_; refine xT ?_
     obtain ⟨hb_,ho_,hk⟩:Ba=R∧oa=pix id*12∧pix id<256:=by
      rcases hRa with h_ | h_
      · exact h_
      · rw [h_.2,hW.z 256 (by omega)] at hs
        exact absurd hs (by decide)
     replace hb_:=hb_.symm; subst hb_; subst ho_; go_upto_region 2 with fail; refine wp_region_list ?_; refine xpL (.pointer (some ⟨R,pix id*12,none⟩)) ?_; refine xpL (.pointer (some ⟨R,pix id*12,none⟩)) ?_; refine xpL (.pointer (some ⟨R,pix id*12,none⟩)) ?_; refine xpL (.pointer (some ⟨R,pix id*12+1,none⟩)) ?_
     refine readL (.int .i64 (((t (pix id)).rt:Nat):Int)) rfl (load1 3 _ ⟨R,pix id*12+1,none⟩ _ rfl rfl (fun _=>by kernel_rfl) (P_a 1 _ rfl)) ?_; simp only [aP,lI,l0,lS]; refine readL (.int .i64 (7*(((t (pix id)).rt:Nat):Int))) rfl (mulI .i64 _ _ _ _ _ _ _ rfl rfl rfl (by rw [xw6]; omega) _) ?_; simp only [aP,lI,l0,lS]; refine xpL (.int .i64 n) ?_
     refine xaL (.int .i64 (min n 1099511627776)) (minI .i64 .i64 _ _ _ _ _ _ _ rfl rfl rfl (by split <;> omega) _) ?_; refine readL (.int .i64 (7*(((t (pix id)).rt:Nat):Int)+min n 1099511627776)) rfl (addI .i64 _ _ _ _ _ _ _ rfl rfl rfl (by rw [xw6]; omega) _) ?_; simp only [aP,lI,l0,lS]
     refine readL (.int .i64 ((7*(((t (pix id)).rt:Nat):Int)+min n 1099511627776)/8)) rfl (quoI .i64 _ 8 _ _ _ _ _ rfl rfl rfl (by decide) (quo8 _ (by omega) (by omega)) _) ?_; simp only [aP,lI,l0,lS]; refine readL (.int .i64 ((psR (t (pix id)).rt n:Nat):Int)) rfl (maxI .i64 .i64 _ _ _ _ _ _ _ rfl rfl rfl (by unfold psR; split <;> omega) _) ?_; simp only [aP,lI,l0,lS]
     refine xpL (.pointer (some ⟨R,pix id*12,none⟩)) ?_; refine xpL (.pointer (some ⟨R,pix id*12+1,none⟩)) ?_; have hM2:=M.set ((pix id)*12+1) (by rw [tcs_len]; omega) (.int .i64 ((psR (t (pix id)).rt n:Nat):Int))
     rw [tcs_set t hk 1 (by decide) ({ (t (pix id)) with rt:=psR (t (pix id)).rt n }) (.int .i64 ((psR (t (pix id)).rt n:Nat):Int)) (rfl)] at hM2
     refine skipOpL rfl (storeAny (.int .i64 ((psR (t (pix id)).rt n:Nat):Int)) R ((pix id)*12+1) 3 _ _ rfl rfl rfl rfl rfl (M.isSome mS ((pix id)*12+1) (by rw [tcs_len]; omega)) (M.free mS ((pix id)*12+1) (by rw [tcs_len]; omega)) (by kernel_rfl)) ?_; simp only [Act.put]; clear M; have M:=hM2; clear hM2; clear P_a
     replace hwz:=xnT hwz (Off.size ((Off.refl [R] _).set (b:=R) mS ((pix id)*12+1) (.int .i64 ((psR (t (pix id)).rt n:Nat):Int)))); replace OF:=OF.trans ((Off.refl [R] _).set (b:=R) mS ((pix id)*12+1) (.int .i64 ((psR (t (pix id)).rt n:Nat):Int))); generalize w1.setCell ⟨R,(pix id)*12+1,none⟩ (.int .i64 ((psR (t (pix id)).rt n:Nat):Int))=w2 at M hwz OF ⊢
     replace M:Mm w0 ((R,tcs (pput t (pix id) ({ (t (pix id)) with rt:=psR (t (pix id)).rt n })))::l) w2:=M
     have HS:=show Hid _ from (show Mm w0 ((R,tcs (psm t id n))::l) w2∧Off [R] w w2 from by
      rw [show psm t id n=pput t (pix id) { (t (pix id)) with rt:=psR (t (pix id)).rt n } from if_pos ⟨hs,by omega⟩]
      exact ⟨M,OF⟩)
     clear M OF
     first | exact ⟨rfl,.tuple #[],by kernel_rfl,rfl,HS.out⟩ | (go_ret; exact ⟨rfl,HS.out⟩)
 · go_upto_region 1 with fail
   refine wp_region_list ?_; refine xpL (.pointer (some ⟨Ba,oa,none⟩)) ?_; refine xpL (.pointer (some ⟨Ba,oa,none⟩)) ?_; refine xpL (.pointer (some ⟨Ba,oa+0,none⟩)) ?_; refine readL (.int .i64 (((t (pix id)).st:Nat):Int)) rfl (load1 3 _ ⟨Ba,oa+0,none⟩ _ rfl rfl (fun _=>by kernel_rfl) (P_a 0 _ rfl)) ?_; simp only [aP,lI,l0,lS]
   refine xaL (.bool false) (eqlI .i64 _ _ _ _ _ _ rfl rfl rfl false (beq_eq_false_iff_ne.2 (by omega)) _) ?_; refine xpL (.bool false) ?_
   with_reducible refine skipL ?_ ?_
   · rfl
   simp only [aP,lI,l0,lS]
   with_reducible refine skipL ?_ ?_
   · rfl
   simp only [aP,lI,l0,lS]; refine xpL (.bool false) ?_; refine xT ?_
   have HS:=show Hid _ from (show Mm w0 ((R,tcs (psm t id n))::l) w1∧Off [R] w w1 from by
    rw [show psm t id n=t from if_neg (fun h_=>hs h_.1)]
    exact ⟨M,OF⟩)
   clear M OF P_a; go_wp2
   first | exact ⟨rfl,.tuple #[],by kernel_rfl,rfl,HS.out⟩ | (go_ret; exact ⟨rfl,HS.out⟩)
def PT20:TabI:=fun _ v t bs=>∃ R,v=.pointer (some ⟨R,0,none⟩)∧bs=[(R,tcs t)]
theorem vtab_any:TabOK PT20 where
 ptr:=fun _ _ _ _ h=>let ⟨R,e,_⟩:=h; ⟨R,e⟩
 off:=fun _ _ _ _ _ _ h _ _=>h
 new:=fun w0 w l M=>(vnew20_any w0 w l M).mono fun _ _ ⟨R,h1,h2,h3⟩=>⟨_,[(R,tcs pnew)],h1,⟨R,rfl,rfl⟩,h2,h3⟩
 beg:=fun w0 w v t bs l id hW _ hI M=>by
  obtain ⟨R,rfl,rfl⟩:=hI
  exact (vbeg20_any w0 w R l t hW M id).mono fun _ _ ⟨h1,h2,h3⟩=>⟨[(R,tcs (pbeg t id))],h1,⟨R,rfl,rfl⟩,h2,h3⟩
 add:=fun w0 w v t bs l id tk now hW _ _ _ hI M=>by
  obtain ⟨R,rfl,rfl⟩:=hI
  exact (vadd20_any w0 w R l t hW id tk now M).mono fun _ _ ⟨h1,h2,h3⟩=>⟨[(R,tcs (padd t id tk now))],h1,⟨R,rfl,rfl⟩,h2,h3⟩
 due:=fun w0 w v t bs l now hW _ hI M=>by
  obtain ⟨R,rfl,rfl⟩:=hI
  exact (vdue20_any w0 w R l t hW M now).mono fun _ _ ⟨sq,cq,h1,h2,h3,h4⟩=>⟨sq,cq,[(R,tcs (pdt t (pmom now)))],h1,h2,⟨R,rfl,rfl⟩,h3,h4⟩
 ans:=fun w0 w v t bs l id tk hW _ _ hI M=>by
  obtain ⟨R,rfl,rfl⟩:=hI
  exact (vans20_any w0 w R l t hW M id tk).mono fun _ _ ⟨h1,h2,h3⟩=>⟨[(R,tcs (pant t id tk))],h1,⟨R,rfl,rfl⟩,h2,h3⟩
 tok:=fun w0 w v t bs l id hW _ hI M=>by
  obtain ⟨R,rfl,rfl⟩:=hI
  exact vtok20_any w R t hW (Tat.of M mS) id (M.lt mS)
 rem:=fun w0 w v t bs l id hW _ hI M=>by
  obtain ⟨R,rfl,rfl⟩:=hI
  exact (vrem20_any w0 w R l t hW M id).mono fun _ _ ⟨h1,h2,h3⟩=>⟨[(R,tcs (prm t id))],h1,⟨R,rfl,rfl⟩,h2,h3⟩
 sam:=fun w0 w v t bs l id n hW _ hn hI M=>by
  obtain ⟨R,rfl,rfl⟩:=hI
  exact (vsam20_any w0 w R l t hW M id n hn).mono fun _ _ ⟨h1,h2,h3⟩=>⟨[(R,tcs (psm t id n))],h1,⟨R,rfl,rfl⟩,h2,h3⟩
 rtt:=fun w0 w v t bs l id hW _ hI M=>by
  obtain ⟨R,rfl,rfl⟩:=hI
  exact vrtt20_any w R t hW (Tat.of M mS) id
 sta:=fun w0 w v t bs l id hW _ hI M=>by
  obtain ⟨R,rfl,rfl⟩:=hI
  exact vsta20_any w R t hW (Tat.of M mS) id
 liv:=fun w0 w v t bs l _ hI M=>by
  obtain ⟨R,rfl,rfl⟩:=hI
  exact vliv20_any w R t (Tat.of M mS)
theorem vtcl_any:TabCl PT20:=fun w0 w v t bs l _ hI M=>by
 obtain ⟨R,rfl,rfl⟩:=hI
 exact (vcln20_any w0 w R l t M).mono fun _ _ ⟨B,h1,h2,h3⟩=>⟨_,[(B,tcs t)],h1,⟨B,rfl,rfl⟩,h2,h3⟩
section
open Go.ChangeShapes Go.WideShapes Go.ChangeAt Go.WideMaps Go.WideElems Go.RowKit
def intAt:Option Value→Int
 | some (.int _ n)=>n
 | _=>0
def litR {H:Type} (k:IntKind) (n:Nat) (f:Nat→Int):DataW H:=.agg ((List.range n).map fun j=>.lit (.int k (f j)))
section
variable {H:Type} {enc:TypeId × Value→H} {P:Program} {w:World} {base:Nat} {sp:Nat→Bool} {held:Bool}
theorem open_row {t e:TypeId} {n:Nat} {k:IntKind} (hu:P.underlying t=some (.array n e)) (he:P.underlying e=some (.int k)) (hct:P.cellsOf t=n) (hce:P.cellsOf e=1) {fuel:Nat} {cs:List Value} {x:DataW H × List MemPlace}
 (h:DataW.trod enc P w base sp held fuel t cs=some x):∃ f:Nat→Int,(∀ j,j<n→(Lit.int k (f j)).wf=true)∧cs=row k n f∧x=(litR k n f,[]):=by
 obtain ⟨xs,m,_,hx,hl,hn,hel⟩:=DataW.trod_array hu h
 rw [hct] at hl
 have hcell:∀ i,i<n→∃ v,cs[i]?=some (.int k v)∧xs[i]?=some (.lit (.int k v),[])∧(Lit.int k v).wf=true:=by
  intro i hi; have e1:=hel i hi
  rw [hce,Nat.mul_one] at e1
  have hxi:i<xs.length:=by omega
  rw [List.getElem?_eq_getElem hxi] at e1
  obtain ⟨v,e2,e3,e4⟩:=DataW.trod_int he e1
  refine ⟨v,?_,by rw [List.getElem?_eq_getElem hxi,e3],e4⟩
  have hci:i<cs.length:=by omega
  have e5:(cs.drop i).take 1=[cs[i]]:=by rw [List.drop_eq_getElem_cons hci,List.take_succ_cons,List.take_zero]
  rw [e5] at e2
  rw [List.getElem?_eq_getElem hci]
  simpa using e2
 refine ⟨fun i=>intAt cs[i]?,fun i hi=>?_,?_,?_⟩
 · obtain ⟨v,e1,_,e3⟩:=hcell i hi
   dsimp only
   rw [e1]; exact e3
 · refine List.ext_getElem? fun i=>?_
   by_cases hi:i<n
   · obtain ⟨v,e1,_,_⟩:=hcell i hi
     rw [row_get k n _ i hi,e1]; rfl
   · rw [List.getElem?_eq_none (by omega),List.getElem?_eq_none (by rw [row_length]; omega)]
 · rw [hx]
   congr 1
   · unfold litR
     congr 1
     refine List.ext_getElem? fun i=>?_
     by_cases hi:i<n
     · obtain ⟨v,e1,e2,_⟩:=hcell i hi
       rw [List.getElem?_map,e2,List.getElem?_map,List.getElem?_range hi]
       simp only [Option.map_some]
       rw [e1]
       rfl
     · rw [List.getElem?_eq_none (by simp [hn]; omega),List.getElem?_eq_none (by simp; omega)]
   · refine List.flatMap_eq_nil_iff.2 fun y hy=>?_
     obtain ⟨i,hi⟩:=List.mem_iff_getElem?.1 hy
     have hin:i<n:=by have:=(List.getElem?_eq_some_iff.1 hi).1; omega
     obtain ⟨v,_,e2,_⟩:=hcell i hin
     rw [e2] at hi
     rw [← Option.some.inj hi]
end
theorem wf_u8 {n:Int}:(Lit.int .u8 n).wf=true↔0≤n∧n<256:=by
 simp [Lit.wf,IntKind.min,IntKind.max,IntKind.signed,IntKind.bits]
 omega
theorem wf_i64 {n:Int}:(Lit.int .i64 n).wf=true↔-9223372036854775808≤n∧n≤9223372036854775807:=by
 simp [Lit.wf,IntKind.min,IntKind.max,IntKind.signed,IntKind.bits]
end
section
open Go.ChangeShapes Go.WideShapes Go.ChangeAt Go.WideMaps Go.WideElems Go.RowKit
theorem own:ownKnob Try.prog.godebug=none:=by kernel_rfl
theorem cellsByte:Try.prog.cellsOf 5=1:=by kernel_rfl
theorem laidOut:laidOutB Try.prog=true:=by kernel_rfl
structure Fit (H:Type) (Q:TypeId→DataW H→Prop) (m:Nat):Prop where
 ints:∀ a b,Q 38 (.slice a b)→a.length≤m
 rowOp:∀ a b,Q 22 (.slice a b)→a.length≤m∧∀ d∈a,Q 32 d
theorem i64_of {n:Int} (h:(Lit.int .i64 n).wf=true):i64 n:=by have:=wf_i64.1 h; unfold i64; omega
def Wok {H:Type} (t:TypeId) (d:DataW H):Prop:=∀ n∈d.weights Try.prog t,n≤reachBytes
theorem weights_all {H:Type} {P:Program} {e:TypeId} {d:DataW H} {n:Nat} (hn:n∈d.weights P e):∀ {l:List (DataW H)},d∈l→n∈DataW.weightsAll P e l
 | x::l,h=>by
   simp only [DataW.weightsAll,List.mem_append]
   rcases xc1 h with rfl | h
   · exact .inl hn
   · exact .inr (weights_all hn h)
theorem fitWok (H:Type):Fit H Wok 140737488351232 where
 ints a b h:=by
  have h1:=h ((a.length+b.length)*Try.prog.bytesOf 3) (by simp only [DataW.weights,Try.underlying38]; exact mS)
  rw [show Try.prog.bytesOf 3=8 by kernel_rfl] at h1
  simp only [reachBytes] at h1
  omega
 rowOp a b h:=by
  have h1:=h ((a.length+b.length)*Try.prog.bytesOf 32) (by simp only [DataW.weights,Try.underlying22]; exact mS)
  rw [show Try.prog.bytesOf 32=32 by kernel_rfl] at h1
  simp only [reachBytes] at h1
  refine ⟨by omega,fun d hd n hn=>h n ?_⟩
  simp only [DataW.weights,Try.underlying22]
  exact mT _ (List.mem_append_left _ (weights_all hn hd))
section
variable {H:Type} {enc:TypeId × Value→H} {W:World} {Q:TypeId→DataW H→Prop} {m:Nat}
theorem again {t:TypeId} (hr:Try.prog.readableRec t=true) (hrow:t<Try.prog.types.size) {v:Value} {d:DataW H} {p:List MemPlace} (h:DataW.Trod enc Try.prog W 0 (fun _=>true) true t v d p) (W':World) (hb:Below W.heap.size W W'):DataW.Trod enc Try.prog W' 0 (fun b=>decide (b<W.heap.size)) true t v d p :=
 hb.trod laidOut hr hrow h (by obtain ⟨fuel,hf⟩:=h; exact fun x hx=>DataW.trod_lt _ _ _ _ hf x hx)
theorem field_of {fs:Array Field} {l:List (TypeId × Nat)} (h:fs.toList.map (fun f=>(f.type,f.offset))=l) (i:Nat) (t:TypeId) (o:Nat) (hi:l[i]?=some (t,o)):∃ f,fs[i]?=some f∧f.type=t∧f.offset=o:=by
 rw [← h,List.getElem?_map] at hi
 obtain ⟨f,h1,h2⟩:=Option.map_eq_some_iff.1 hi
 injection h2 with h2 h3
 exact ⟨f,by simpa using h1,h2,h3⟩
theorem fieldsOp:(Try.prog.fieldsOf 32).toList.map (fun f=>(f.type,f.offset))=[(3,0),(3,1),(3,2),(30,3)]:=by kernel_rfl
theorem open_Op {fuel:Nat} {cs:List Value} {x:DataW H × List MemPlace} (h:DataW.trod enc Try.prog W 0 (fun _=>true) true fuel 32 cs=some x) :
 ∃ (v:Opv),cs=Opc v∧OpV W m v:=by
 obtain ⟨xs,n,_,hx,hl,hlen,hf⟩:=DataW.trod_struct (fs:=Try.prog.fieldsOf 32) (by kernel_rfl) h
 have hn:Try.prog.cellsOf 32=11:=by kernel_rfl
 have hc0:Try.prog.cellsOf 30=8:=by kernel_rfl
 have hc1:Try.prog.cellsOf 3=1:=by kernel_rfl
 have hs:xs.length=4:=by rw [hlen]; kernel_rfl
 rw [hn] at hl
 match cs,hl with
 | [c0,c1,c2,c3,c4,c5,c6,c7,c8,c9,c10],_ =>
   obtain ⟨f0,e0,t0,o0⟩:=field_of fieldsOp 0 3 0 rfl
   have g0:=hf 0 f0 e0
   rw [t0,o0,hc1,List.getElem?_eq_getElem (by omega)] at g0
   obtain ⟨f1,e1,t1,o1⟩:=field_of fieldsOp 1 3 1 rfl
   have g1:=hf 1 f1 e1
   rw [t1,o1,hc1,List.getElem?_eq_getElem (by omega)] at g1
   obtain ⟨f2,e2,t2,o2⟩:=field_of fieldsOp 2 3 2 rfl
   have g2:=hf 2 f2 e2
   rw [t2,o2,hc1,List.getElem?_eq_getElem (by omega)] at g2
   obtain ⟨f3,e3,t3,o3⟩:=field_of fieldsOp 3 30 3 rfl
   have g3:=hf 3 f3 e3
   rw [t3,o3,hc0,List.getElem?_eq_getElem (by omega)] at g3
   obtain ⟨x_k,q0,_,w0⟩:=DataW.trod_int Try.underlying3 g0
   obtain ⟨x_d,q1,_,w1⟩:=DataW.trod_int Try.underlying3 g1
   obtain ⟨x_n,q2,_,w2⟩:=DataW.trod_int Try.underlying3 g2
   obtain ⟨x_t,w3,q3,_⟩:=open_row Try.underlying30 Try.underlying5 hc0 cellsByte g3
   have r3:[c3,c4,c5,c6,c7,c8,c9,c10]=[.int .u8 (x_t 0),.int .u8 (x_t 1),.int .u8 (x_t 2),.int .u8 (x_t 3),.int .u8 (x_t 4),.int .u8 (x_t 5),.int .u8 (x_t 6),.int .u8 (x_t 7)]:=q3
   simp only [List.cons.injEq,and_true] at r3
   obtain ⟨s3_0,s3_1,s3_2,s3_3,s3_4,s3_5,s3_6,s3_7⟩:=r3
   simp at q0 q1 q2
   exact ⟨⟨x_k,x_d,x_n,x_t⟩,by rw [q0,q1,q2,s3_0,s3_1,s3_2,s3_3,s3_4,s3_5,s3_6,s3_7]; rfl,⟨i64_of w0,i64_of w1,i64_of w2,fun j hj=>wf_u8.1 (w3 j hj)⟩⟩
theorem open_Ops (F:Fit H Q m) {fuel:Nat} {cs:List Value} {x:DataW H × List MemPlace} (h:DataW.trod enc Try.prog W 0 (fun _=>true) true fuel 22 cs=some x) (hq:Q 22 x.1) :
 ∃ (sp:Option Addr) (cap:Nat) (l:List Opv),cs=[.slice sp l.length cap]∧OpsIn W m sp l∧l.length≤cap∧(sp=none→cap=0)∧l.length≤m:=by
 rcases DataW.trod_slice Try.underlying22 h with ⟨rfl,rfl⟩ | ⟨a,len,cap,elems,rest,n,_,rfl,rfl,hb,hl,hm,hlen,hel,_,_⟩
 · exact ⟨none,0,[],rfl,fun j v hv=>(by simp at hv),xnR _,fun _=>rfl,Nat.zero_le _⟩
 · have hc:Try.prog.cellsOf 32=11:=by kernel_rfl
   have hq2:=F.rowOp _ _ hq
   rw [List.length_map] at hq2
   have key:∀ k,k≤len→∃ l:List Opv,l.length=k∧∀ j v,l[j]?=some v→∃ ad,(some a:Option Addr)=some ad∧(∀ k x,(Opc v)[k]?=some x→W.cell? ((ad.add (j*11)).add k)=some x)∧OpV W m v:=by
    intro k
    induction k with
    | zero=>exact fun _=>⟨[],rfl,fun j f hj=>by simp at hj⟩
    | succ k ih =>
      intro hk
      obtain ⟨l,h1,h2⟩:=ih (by omega)
      have h3:=hel k (by omega)
      rw [hc,List.getElem?_eq_getElem (by omega)] at h3
      obtain ⟨cs,h4,h5⟩:=Option.bind_eq_some_iff.1 h3
      obtain ⟨v,rfl,hv⟩:=open_Op h5
      obtain ⟨_,_,h6⟩:=World.cells?_some h4
      refine ⟨l++[v],by rw [List.length_append,h1]; rfl,fun j g hj=>?_⟩
      by_cases hjk:j<l.length
      · rw [List.getElem?_append_left hjk] at hj
        exact h2 j g hj
      · rw [List.getElem?_append_right (by omega)] at hj
        have hj0:j=k:=by
         rcases Nat.lt_or_ge (j-l.length) 1 with h' | h'
         · omega
         · rw [List.getElem?_eq_none (by simpa using h')] at hj; cases hj
        subst hj0
        rw [h1,Nat.sub_self] at hj
        injection hj with hj
        subst hj
        refine ⟨a,rfl,fun i v hiv=>?_,hv⟩
        have hi:i<11:=by
         rcases Nat.lt_or_ge i 11 with h' | h'
         · exact h'
         · rw [List.getElem?_eq_none (by exact h')] at hiv; cases hiv
        rw [h6 i hi]
        exact hiv
   obtain ⟨l,h1,h2⟩:=key len (xnR _)
   exact ⟨some a,cap,l,by rw [h1],h2,by omega,fun e=>(by cases e),by omega⟩
theorem arg_Ops (F:Fit H Q m) {r:Reach} {b0:Nat} {v:Value} {d:DataW H} {p:List MemPlace} (hv:Value.okWide Try.prog W r b0 22 v) (h:DataW.Trod enc Try.prog W 0 (fun _=>true) true 22 v d p) (hq:Q 22 d) :
 ∃ (sp:Option Addr) (cap:Nat) (l:List Opv),v=.slice sp l.length cap∧OpsIn W m sp l∧l.length≤cap∧(sp=none→cap=0)∧l.length≤m:=by
 obtain ⟨sp,len,cap,rfl⟩:=okWide_slice Try.underlying22 hv
 obtain ⟨fuel,hf⟩:=h
 obtain ⟨sp',cap',l,h1,h2⟩:=open_Ops F hf hq
 simp [Value.cells] at h1
 obtain ⟨rfl,rfl,rfl⟩:=h1
 exact ⟨_,_,l,rfl,h2⟩
end
end
end Go.Proofs.Ytdengjdfmhcbiaa
