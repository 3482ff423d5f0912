/- Texts of Uw Hz Uk Uq Ur Uy Ux Uz Opn Open20, joined. -/
import Derived.Test.YtdengjdfmhcbiaaP2PathsEstimates
import Derived.ProofKit
import Derived.LaidMore
import Derived.OpenShut
import Derived.Deep.Strs
import Derived.Stop.Joined
import Derived.Test.YtdengjdfmhcbiaaRows
set_option maxRecDepth 20000
set_option maxHeartbeats 64000000
namespace Go.Proofs.Ytdengjdfmhcbiaa
open Go.RowKit
theorem vopd20_any (w:World) (R:Nat) (t:Ptb) (hT:Tat w R t) :
 Calls Try.prog 42 #[.pointer (some ⟨R,0,none⟩)] w fun e w'=>e=.returned (.int .i64 ((pcn t:Nat):Int))∧Below w.heap.size w w':=by
 have M:=Mm.init w; have hwz:=xnR w.heap.size
 go_enter Try.func42,Try.ntmps42
 go_upto_region 0 with fail; refine wp_region_list ?_; refine xpL (.int .i64 0) ?_; refine xT ?_; go_upto_region 1 with fail; refine wp_region_list ?_; refine xpL (.int .i64 0) ?_; refine xT ?_; go_upto_region 2 with fail; refine wp_region_list ?_; refine xpL (.int .i64 0) ?_; refine xT ?_; have HI:=show Hid _ from M.below; clear M hwz; go_wp2
 go_loopw [3,5] (fun c_ v_ w'=>∃ j:Nat,j≤256∧c_=.int .i64 ((pnum (pup t) j:Nat):Int)∧v_=.int .i64 ((j:Nat):Int)∧Below w.heap.size w w') (fun _ v_ _=>256-(intOf v_).toNat)
 case atStart=>exact ⟨0,by omega,rfl,rfl,HI.out⟩
 case round =>
  clear HI
  obtain ⟨j,hj,rfl,rfl,hB⟩:=hrel
  have M:=(Mm.init w).call hB; have hwz:=hB.size; clear hB; have hpl:=pnum_le (pup t) j
  by_cases hj2:j<256
  · go_upto_region 3 with fail
    refine wp_region_list ?_; refine xaL (.bool true) (lssI .i64 _ _ _ _ _ _ rfl rfl rfl true (decide_eq_true (by omega)) _) ?_; refine xT ?_; go_upto_region 4 with fail; refine wp_region_list ?_; refine xpL (.int .i64 ((j:Nat):Int)) ?_; refine xpL (.int .i64 ((j:Nat):Int)) ?_; refine xT ?_
    cases he:pup t j with
    | true =>
      go_upto_region 5 with fail; refine wp_region_list ?_; refine xpL (.pointer (some ⟨R,0,none⟩)) ?_; refine xpL (.int .i64 ((j:Nat):Int)) ?_; refine xpL (.pointer (some ⟨R,0,none⟩)) ?_; refine xpL (.pointer (some ⟨R,0,none⟩)) ?_; refine xaL (.pointer (some ⟨R,j*12,none⟩)) (idxP12 R j hj2 _ _ rfl rfl rfl _) ?_; have key_:=vop20_any wr R (j*12) (t j) ((hT j hj2).below M.below)
      rw [show pis (t j)=true from he] at key_
      have key:=key_; refine xcL key ?_; clear key; rintro e w1 ⟨rfl,l_⟩; replace M:=M.call l_; replace hwz:=xnT hwz l_.size; clear l_; refine xeL ?_; clear key_; refine xT ?_; go_upto_region 6 with fail; refine wp_region_list ?_; refine xpL (.int .i64 ((pnum (pup t) j:Nat):Int)) ?_
      refine readL (.int .i64 ((pnum (pup t) j+1:Nat):Int)) rfl (addI .i64 _ _ _ _ _ _ _ rfl rfl rfl (by rw [xw6]; omega) _) ?_; simp only [aP,lI,l0,lS]; refine xpL (.int .i64 ((pnum (pup t) j+1:Nat):Int)) ?_; refine xT ?_; have HS:=show Hid _ from M.below; have hN:=show Hid _ from (show pnum (pup t) (j+1)=pnum (pup t) j+1 from pnum_yes he); clear M hwz; go_wp2
      go_roundw
      case rel=>exact ⟨j+1,by omega,by first | (rw [hN.out]; done) | (rw [hN.out]; go_num),by go_num,HS.out⟩
      case measure=>simp [intOf]; omega
    | false =>
      go_upto_region 5 with fail; refine wp_region_list ?_; refine xpL (.pointer (some ⟨R,0,none⟩)) ?_; refine xpL (.int .i64 ((j:Nat):Int)) ?_; refine xpL (.pointer (some ⟨R,0,none⟩)) ?_; refine xpL (.pointer (some ⟨R,0,none⟩)) ?_; refine xaL (.pointer (some ⟨R,j*12,none⟩)) (idxP12 R j hj2 _ _ rfl rfl rfl _) ?_; have key_:=vop20_any wr R (j*12) (t j) ((hT j hj2).below M.below)
      rw [show pis (t j)=false from he] at key_
      have key:=key_; refine xcL key ?_; clear key; rintro e w2 ⟨rfl,l_⟩; replace M:=M.call l_; replace hwz:=xnT hwz l_.size; clear l_; refine xeL ?_; clear key_; refine xT ?_; have HS:=show Hid _ from M.below; have hN:=show Hid _ from (show pnum (pup t) (j+1)=pnum (pup t) j from pnum_no he); clear M hwz; go_wp2
      go_roundw
      case rel=>exact ⟨j+1,by omega,by first | (rw [hN.out]; done) | (rw [hN.out]; go_num),by go_num,HS.out⟩
      case measure=>simp [intOf]; omega
  · obtain rfl:j=256:=by omega
    go_upto_region 3 with fail; refine wp_region_list ?_; refine xaL (.bool false) (lssI .i64 _ _ _ _ _ _ rfl rfl rfl false (decide_eq_false (by omega)) _) ?_; refine xT ?_; go_upto_region 8 with fail; refine wp_region_list ?_; refine xpL (.int .i64 ((pnum (pup t) 256:Nat):Int)) ?_; refine xpL (.int .i64 ((pnum (pup t) 256:Nat):Int)) ?_; refine xT ?_; have hbel:=M.below; clear M; go_wp2
    go_ret
    exact ⟨rfl,hbel⟩
theorem vuse20_any (w0 w:World) (R:Nat) (l:List (Nat × List Value)) (t:Ptb) (hW:PtbW t) (M:Mm w0 ((R,tcs t)::l) w) (id:Int) (s:Nat) (kf:Nat→Int) (n:Nat) (q:Pth) (hq:pcz q=pc12 s 100 kf 0 n) :
 Calls Try.prog 32 #[.pointer (some ⟨R,0,none⟩),.int .i64 id,.agg #[.int .i64 ((s:Nat):Int),.int .i64 0,.int .u8 (kf 0),.int .u8 (kf 1),.int .u8 (kf 2),.int .u8 (kf 3),.int .u8 (kf 4),.int .u8 (kf 5),.int .u8 (kf 6),.int .u8 (kf 7),.int .i64 0,.int .i64 ((n:Nat):Int)]] w fun e w'=>e=.returned (.int .i64 ((pmay t id:Nat):Int))∧Mm w0 ((R,tcs (puse t id q))::l) w'∧Off [R] w w':=by
 have OF:=Off.refl [R] w; have hwz:=xnR w.heap.size; have hRw:=M.lt mS
 go_enter Try.func32,Try.ntmps32
 have hpc:=hW.c; go_upto_region 0 with fail; refine wp_region_list ?_; have hlb:=(Below.refl w.heap.size w).alloc (xnR _) (.cells #[.int .i64 ((s:Nat):Int),.int .i64 0,.int .u8 (kf 0),.int .u8 (kf 1),.int .u8 (kf 2),.int .u8 (kf 3),.int .u8 (kf 4),.int .u8 (kf 5),.int .u8 (kf 6),.int .u8 (kf 7),.int .i64 0,.int .i64 ((n:Nat):Int)] 51)
 refine actL (w':=w.alloc (.cells #[.int .i64 ((s:Nat):Int),.int .i64 0,.int .u8 (kf 0),.int .u8 (kf 1),.int .u8 (kf 2),.int .u8 (kf 3),.int .u8 (kf 4),.int .u8 (kf 5),.int .u8 (kf 6),.int .u8 (kf 7),.int .i64 0,.int .i64 ((n:Nat):Int)] 51)) (.pointer (some ⟨w.heap.size,0,none⟩)) rfl (by kernel_rfl) ?_; simp only [aP,lI,l0,lS]; replace OF:=OF.below hlb
 have hB_:=M.below.size; have hW_:=hwz; replace hwz:=xnT hwz hlb.size; replace M:=M.box #[.int .i64 ((s:Nat):Int),.int .i64 0,.int .u8 (kf 0),.int .u8 (kf 1),.int .u8 (kf 2),.int .u8 (kf 3),.int .u8 (kf 4),.int .u8 (kf 5),.int .u8 (kf 6),.int .u8 (kf 7),.int .i64 0,.int .i64 ((n:Nat):Int)] 51 w.heap.size rfl; clear hlb
 generalize w.alloc (.cells #[.int .i64 ((s:Nat):Int),.int .i64 0,.int .u8 (kf 0),.int .u8 (kf 1),.int .u8 (kf 2),.int .u8 (kf 3),.int .u8 (kf 4),.int .u8 (kf 5),.int .u8 (kf 6),.int .u8 (kf 7),.int .i64 0,.int .i64 ((n:Nat):Int)] 51)=w1 at M hwz OF ⊢; generalize eB_:w.heap.size=B1 at M ⊢
 have hB_B1:w0.heap.size≤B1:=by rw [← eB_]; exact hB_
 have hW_B1:w.heap.size≤B1:=by rw [← eB_]; exact hW_
 have hF_B1:w.heap.size=B1:=eB_
 clear hB_ hW_ eB_
 replace M:Mm w0 ((B1,[.int .i64 ((s:Nat):Int),.int .i64 0,.int .u8 (kf 0),.int .u8 (kf 1),.int .u8 (kf 2),.int .u8 (kf 3),.int .u8 (kf 4),.int .u8 (kf 5),.int .u8 (kf 6),.int .u8 (kf 7),.int .i64 0,.int .i64 ((n:Nat):Int)])::(R,tcs t)::l) w1:=M
 refine xpL (.int .i64 0) ?_; refine xT ?_
 by_cases hr:0≤id∧id≤255
 · obtain ⟨k,hid,hk⟩:∃ k:Nat,id=((k:Nat):Int)∧k<256:=⟨id.toNat,by omega,by omega⟩
   have hpx:pix id=k:=by rw [hid]; exact pix_nat9 hk
   go_upto_region 1 with fail; refine wp_region_list ?_; refine xpL (.int .i64 id) ?_; have key_:=vkn20_any w1 id
   rw [show pkn id=true from decide_eq_true (by omega)] at key_
   have key:=key_; refine xcL key ?_; clear key; rintro e w3 ⟨rfl,l_⟩; replace M:=M.call l_; replace OF:=OF.below l_; replace hwz:=xnT hwz l_.size; clear l_; refine xeL ?_; clear key_; refine xpL (.bool false) ?_; refine xpL (.bool false) ?_; refine xT ?_
   by_cases hs:(t k).st≠0
   · go_upto_region 3 with fail
     refine wp_region_list ?_; refine xpL (.pointer (some ⟨R,0,none⟩)) ?_; refine xpL (.int .i64 id) ?_; refine xpL (.pointer (some ⟨R,0,none⟩)) ?_; refine xpL (.pointer (some ⟨R,0,none⟩)) ?_
     refine xaL (.pointer (some ⟨R,k*12,none⟩)) (idxP12 R k hk _ _ rfl rfl (by exact congrArg (Value.int .i64) hid) _) ?_
     refine xpL (.pointer (some ⟨R,k*12+0,none⟩)) ?_; refine readL (.int .i64 (((t k).st:Nat):Int)) rfl (load1 3 _ ⟨R,k*12+0,none⟩ _ rfl rfl (fun _=>by kernel_rfl) ((Tat.of M (mT _ mS) k hk) 0 _ rfl)) ?_; simp only [aP,lI,l0,lS]; refine xaL (.bool true) (neqI .i64 _ _ _ _ _ _ rfl rfl rfl true (bne_iff_ne.2 (by omega)) _) ?_; refine xpL (.bool true) ?_; refine xT ?_
     go_upto_region 4 with fail; refine wp_region_list ?_; refine xpL (.int .i64 201) ?_; refine xT ?_; have hE:=show Hid _ from (show pmay t id=201 from (if_neg (by omega)).trans (if_pos (by rw [hpx]; exact hs)))
     have HS:=show Hid _ from (show Mm w0 ((R,tcs (puse t id q))::l) w3∧Off [R] w w3 from by
      rw [show puse t id q=t from if_neg (by rw [hE.out]; decide)]
      exact ⟨M.tail,OF⟩)
     clear M OF; go_wp2; go_ret
     exact ⟨by rw [hE.out]; try rfl,HS.out⟩
   · go_upto_region 3 with fail
     refine wp_region_list ?_; refine xpL (.pointer (some ⟨R,0,none⟩)) ?_; refine xpL (.int .i64 id) ?_; refine xpL (.pointer (some ⟨R,0,none⟩)) ?_; refine xpL (.pointer (some ⟨R,0,none⟩)) ?_
     refine xaL (.pointer (some ⟨R,k*12,none⟩)) (idxP12 R k hk _ _ rfl rfl (by exact congrArg (Value.int .i64) hid) _) ?_
     refine xpL (.pointer (some ⟨R,k*12+0,none⟩)) ?_; refine readL (.int .i64 (((t k).st:Nat):Int)) rfl (load1 3 _ ⟨R,k*12+0,none⟩ _ rfl rfl (fun _=>by kernel_rfl) ((Tat.of M (mT _ mS) k hk) 0 _ rfl)) ?_; simp only [aP,lI,l0,lS]; refine xaL (.bool false) (neqI .i64 _ _ _ _ _ _ rfl rfl rfl false (by rw [bne_eq_false_iff_eq]; omega) _) ?_; refine xpL (.bool false) ?_
     refine xT ?_
     by_cases hc:16≤pcn t
     · go_upto_region 5 with fail
       refine wp_region_list ?_; refine xpL (.pointer (some ⟨R,0,none⟩)) ?_; have key:=vopd20_any w3 R t (Tat.of M (mT _ mS)); refine xcL key ?_; clear key; rintro e w4 ⟨rfl,l_⟩; replace M:=M.call l_; replace OF:=OF.below l_; replace hwz:=xnT hwz l_.size; clear l_; refine xeL ?_; refine xaL (.bool true) (geqI .i64 _ _ _ _ _ _ rfl rfl rfl true (decide_eq_true (by omega)) _) ?_
       refine xpL (.bool true) ?_; refine xT ?_; go_upto_region 6 with fail; refine wp_region_list ?_; refine xpL (.int .i64 2) ?_; refine xT ?_; have hE:=show Hid _ from (show pmay t id=2 from (if_neg (by omega)).trans ((if_neg (by rw [hpx]; exact hs)).trans (if_pos hc)))
       have HS:=show Hid _ from (show Mm w0 ((R,tcs (puse t id q))::l) w4∧Off [R] w w4 from by
        rw [show puse t id q=t from if_neg (by rw [hE.out]; decide)]
        exact ⟨M.tail,OF⟩)
       clear M OF; go_wp2; go_ret
       exact ⟨by rw [hE.out]; try rfl,HS.out⟩
     · go_upto_region 5 with fail
       refine wp_region_list ?_; refine xpL (.pointer (some ⟨R,0,none⟩)) ?_; have key:=vopd20_any w3 R t (Tat.of M (mT _ mS)); refine xcL key ?_; clear key; rintro e w5 ⟨rfl,l_⟩; replace M:=M.call l_; replace OF:=OF.below l_; replace hwz:=xnT hwz l_.size; clear l_; refine xeL ?_; refine xaL (.bool false) (geqI .i64 _ _ _ _ _ _ rfl rfl rfl false (decide_eq_false (by omega)) _) ?_
       refine xpL (.bool false) ?_; refine xT ?_; go_upto_region 7 with fail; refine wp_region_list ?_; refine xpL (.pointer (some ⟨B1,1,none⟩)) ?_; refine skipOpL rfl (storeAny (.int .i64 100) B1 1 3 _ _ rfl rfl rfl rfl rfl (M.isSome mS 1 (by simp)) (M.free mS 1 (by simp)) (by kernel_rfl)) ?_; simp only [Act.put]; replace M:=M.set 1 (by simp) (.int .i64 100)
       replace hwz:=xnT hwz (Off.size ((Off.refl [B1] _).set (b:=B1) mS 1 (.int .i64 100))); replace OF:=OF.and1 ((Off.refl [B1] _).set (b:=B1) mS 1 (.int .i64 100)) (.inr hW_B1); generalize w5.setCell ⟨B1,1,none⟩ (.int .i64 100)=w6 at M hwz OF ⊢
       replace M:Mm w0 ((B1,[.int .i64 ((s:Nat):Int),.int .i64 100,.int .u8 (kf 0),.int .u8 (kf 1),.int .u8 (kf 2),.int .u8 (kf 3),.int .u8 (kf 4),.int .u8 (kf 5),.int .u8 (kf 6),.int .u8 (kf 7),.int .i64 0,.int .i64 ((n:Nat):Int)])::(R,tcs t)::l) w6:=M
       refine xT ?_; replace M:=M.swap; go_upto_region 8 with fail; have hdr:=(Below.refl w6.heap.size w6).drew; replace M:=M.drew; replace hwz:=xnT hwz hdr.size; replace OF:=OF.below hdr; clear hdr
       refine wp_region_held_drew (S:=fun w'=>(∃ cs_,Mm w0 ((R,cs_)::(B1,[.int .i64 ((s:Nat):Int),.int .i64 100,.int .u8 (kf 0),.int .u8 (kf 1),.int .u8 (kf 2),.int .u8 (kf 3),.int .u8 (kf 4),.int .u8 (kf 5),.int .u8 (kf 6),.int .u8 (kf 7),.int .i64 0,.int .i64 ((n:Nat):Int)])::l) w')) (by kernel_rfl) ⟨_,M⟩ ?_; intro _; generalize w6.drew=w7 at M hwz OF ⊢
       refine xrH 0 25 rfl (.pointer (some ⟨R,0,none⟩)) (fun _ ⟨_,M⟩=>(by kernel_rfl)) ⟨_,M⟩ ?_; refine xrH 1 26 rfl (.int .i64 id) (fun _ ⟨_,M⟩=>(by kernel_rfl)) ⟨_,M⟩ ?_
       refine xrH 2 27 rfl (.agg #[.int .i64 ((s:Nat):Int),.int .i64 100,.int .u8 (kf 0),.int .u8 (kf 1),.int .u8 (kf 2),.int .u8 (kf 3),.int .u8 (kf 4),.int .u8 (kf 5),.int .u8 (kf 6),.int .u8 (kf 7),.int .i64 0,.int .i64 ((n:Nat):Int)]) (fun _ ⟨_,M⟩=>loadN 51 _ ⟨B1,0,none⟩ [.int .i64 ((s:Nat):Int),.int .i64 100,.int .u8 (kf 0),.int .u8 (kf 1),.int .u8 (kf 2),.int .u8 (kf 3),.int .u8 (kf 4),.int .u8 (kf 5),.int .u8 (kf 6),.int .u8 (kf 7),.int .i64 0,.int .i64 ((n:Nat):Int)] rfl rfl (fun _=>by kernel_rfl) (fun _=>by kernel_rfl) (M.rangeAt (mT _ mS))) ⟨_,M⟩ ?_
       refine xrH 3 28 rfl (.pointer (some ⟨R,0,none⟩)) (fun _ ⟨_,M⟩=>(by kernel_rfl)) ⟨_,M⟩ ?_; refine xrH 4 29 rfl (.pointer (some ⟨R,0,none⟩)) (fun _ ⟨_,M⟩=>(by kernel_rfl)) ⟨_,M⟩ ?_
       refine xrH 5 30 rfl (.pointer (some ⟨R,k*12,none⟩)) (fun _ ⟨_,M⟩=>idxP12 R k hk _ _ rfl rfl (by exact congrArg (Value.int .i64) hid) _) ⟨_,M⟩ ?_
       have hM2:=M.setPart [.int .i64 ((s:Nat):Int),.int .i64 100,.int .u8 (kf 0),.int .u8 (kf 1),.int .u8 (kf 2),.int .u8 (kf 3),.int .u8 (kf 4),.int .u8 (kf 5),.int .u8 (kf 6),.int .u8 (kf 7),.int .i64 0,.int .i64 ((n:Nat):Int)] (k*12) (by rw [tcs_len]; show k*12+12≤3072; omega)
       rw [tcs_put t hk q [.int .i64 ((s:Nat):Int),.int .i64 100,.int .u8 (kf 0),.int .u8 (kf 1),.int .u8 (kf 2),.int .u8 (kf 3),.int .u8 (kf 4),.int .u8 (kf 5),.int .u8 (kf 6),.int .u8 (kf 7),.int .i64 0,.int .i64 ((n:Nat):Int)] (hq)] at hM2
       refine doesH (i:=6) none rfl (by kernel_rfl) rfl rfl (storeP [.int .i64 ((s:Nat):Int),.int .i64 100,.int .u8 (kf 0),.int .u8 (kf 1),.int .u8 (kf 2),.int .u8 (kf 3),.int .u8 (kf 4),.int .u8 (kf 5),.int .u8 (kf 6),.int .u8 (kf 7),.int .i64 0,.int .i64 ((n:Nat):Int)] R (k*12) 51 _ _ rfl rfl rfl (M.thereP mS (k*12) 12 (by rw [tcs_len]; omega)) (by kernel_rfl) (List.all_eq_true.1 (rfl:([.int .i64 ((s:Nat):Int),.int .i64 100,.int .u8 (kf 0),.int .u8 (kf 1),.int .u8 (kf 2),.int .u8 (kf 3),.int .u8 (kf 4),.int .u8 (kf 5),.int .u8 (kf 6),.int .u8 (kf 7),.int .i64 0,.int .i64 ((n:Nat):Int)]:List Value).all (fun u=>u.oneCell')=true))) ⟨_,hM2⟩ ?_
       simp only [Act.put]; clear M; have M:=hM2; clear hM2; replace hwz:=xnT hwz (Off.size ((Off.refl [R] _).setAll (b:=R) mS (k*12) [.int .i64 ((s:Nat):Int),.int .i64 100,.int .u8 (kf 0),.int .u8 (kf 1),.int .u8 (kf 2),.int .u8 (kf 3),.int .u8 (kf 4),.int .u8 (kf 5),.int .u8 (kf 6),.int .u8 (kf 7),.int .i64 0,.int .i64 ((n:Nat):Int)]))
       replace OF:=OF.trans ((Off.refl [R] _).setAll (b:=R) mS (k*12) [.int .i64 ((s:Nat):Int),.int .i64 100,.int .u8 (kf 0),.int .u8 (kf 1),.int .u8 (kf 2),.int .u8 (kf 3),.int .u8 (kf 4),.int .u8 (kf 5),.int .u8 (kf 6),.int .u8 (kf 7),.int .i64 0,.int .i64 ((n:Nat):Int)])
       generalize w7.setCells R (k*12) [.int .i64 ((s:Nat):Int),.int .i64 100,.int .u8 (kf 0),.int .u8 (kf 1),.int .u8 (kf 2),.int .u8 (kf 3),.int .u8 (kf 4),.int .u8 (kf 5),.int .u8 (kf 6),.int .u8 (kf 7),.int .i64 0,.int .i64 ((n:Nat):Int)]=w8 at M hwz OF ⊢
       replace M:Mm w0 ((R,tcs (pput t k q))::(B1,[.int .i64 ((s:Nat):Int),.int .i64 100,.int .u8 (kf 0),.int .u8 (kf 1),.int .u8 (kf 2),.int .u8 (kf 3),.int .u8 (kf 4),.int .u8 (kf 5),.int .u8 (kf 6),.int .u8 (kf 7),.int .i64 0,.int .i64 ((n:Nat):Int)])::l) w8:=M
       refine wpAnyH_done (by kernel_rfl) ?_ _
       first | show Exit.then _ _ _ _ _ | show Exit.inBlock _ _ _ _ _
       go_upto_region 9 with fail; refine wp_region_list ?_; refine xpL (.int .i64 0) ?_; refine xT ?_; have hE:=show Hid _ from (show pmay t id=0 from (if_neg (by omega)).trans ((if_neg (by rw [hpx]; exact hs)).trans (if_neg hc)))
       have HS:=show Hid _ from (show Mm w0 ((R,tcs (puse t id q))::l) w8∧Off [R] w w8 from by
        rw [show puse t id q=pput t k q from (if_pos hE.out).trans (by rw [hpx])]
        exact ⟨M.drop2,OF⟩)
       clear M OF; go_wp2; go_ret
       exact ⟨by rw [hE.out]; try rfl,HS.out⟩
 · go_upto_region 1 with fail
   refine wp_region_list ?_; refine xpL (.int .i64 id) ?_; have key_:=vkn20_any w1 id
   rw [show pkn id=false from decide_eq_false (by omega)] at key_
   have key:=key_; refine xcL key ?_; clear key; rintro e w2 ⟨rfl,l_⟩; replace M:=M.call l_; replace OF:=OF.below l_; replace hwz:=xnT hwz l_.size; clear l_; refine xeL ?_; clear key_; refine xpL (.bool true) ?_; refine xpL (.bool true) ?_; refine xT ?_; go_upto_region 2 with fail; refine wp_region_list ?_; refine xpL (.int .i64 1) ?_; refine xT ?_
   have hE:=show Hid _ from (show pmay t id=1 from if_pos (by omega))
   have HS:=show Hid _ from (show Mm w0 ((R,tcs (puse t id q))::l) w2∧Off [R] w w2 from by
    rw [show puse t id q=t from if_neg (by rw [hE.out]; decide)]
    exact ⟨M.tail,OF⟩)
   clear M OF; go_wp2; go_ret
   exact ⟨by rw [hE.out]; try rfl,HS.out⟩
theorem vbeg20_any (w0 w:World) (R:Nat) (l:List (Nat × List Value)) (t:Ptb) (hW:PtbW t) (M:Mm w0 ((R,tcs t)::l) w) (id:Int) :
 Calls Try.prog 10 #[.pointer (some ⟨R,0,none⟩),.int .i64 id] w fun e w'=>e=.returned (.int .i64 ((pmay t id:Nat):Int))∧Mm w0 ((R,tcs (pbeg t id))::l) w'∧Off [R] w w':=by
 have OF:=Off.refl [R] w; have hwz:=xnR w.heap.size; have hRw:=M.lt mS
 go_enter Try.func10,Try.ntmps10
 go_upto_region 0 with fail; refine wp_region_list ?_; refine xpL (.int .i64 0) ?_; refine xT ?_; go_upto_region 1 with fail; refine wp_region_list ?_; refine xpL (.pointer (some ⟨R,0,none⟩)) ?_; refine xpL (.int .i64 id) ?_; refine xpL (.agg #[.int .i64 2,.int .i64 0,.int .u8 0,.int .u8 0,.int .u8 0,.int .u8 0,.int .u8 0,.int .u8 0,.int .u8 0,.int .u8 0,.int .i64 0,.int .i64 0]) ?_
 have key:=vuse20_any w0 w R (l) t hW M id 2 (fun _=>0) 0 ⟨2,100,0,0,fun _=>0⟩ rfl; refine xcL key ?_; clear key; rintro e w1 ⟨rfl,M',o1⟩; clear M; have M:=M'; replace OF:=OF.trans o1; clear M' o1 hwz; refine xeL ?_; refine xpL (.int .i64 ((pmay t id:Nat):Int)) ?_; refine xT ?_; have HS:=show Hid _ from (And.intro M OF); clear M OF; go_wp2; go_ret
 exact ⟨rfl,HS.out⟩
theorem vadd20_any (w0 w:World) (R:Nat) (l:List (Nat × List Value)) (t:Ptb) (hW:PtbW t) (id:Int) (tk:Nat→Int) (now:Int) (M:Mm w0 ((R,tcs t)::l) w) :
 Calls Try.prog 12 #[.pointer (some ⟨R,0,none⟩),.int .i64 id,.agg #[.int .u8 (tk 0),.int .u8 (tk 1),.int .u8 (tk 2),.int .u8 (tk 3),.int .u8 (tk 4),.int .u8 (tk 5),.int .u8 (tk 6),.int .u8 (tk 7)],.int .i64 now] w fun e w'=>e=.returned (.int .i64 ((pmay t id:Nat):Int))∧Mm w0 ((R,tcs (padd t id tk now))::l) w'∧Off [R] w w':=by
 have OF:=Off.refl [R] w; have hwz:=xnR w.heap.size; have hRw:=M.lt mS
 go_enter Try.func12,Try.ntmps12
 go_upto_region 0 with fail; refine wp_region_list ?_; have hlb:=(Below.refl w.heap.size w).alloc (xnR _) (.cells #[.int .u8 (tk 0),.int .u8 (tk 1),.int .u8 (tk 2),.int .u8 (tk 3),.int .u8 (tk 4),.int .u8 (tk 5),.int .u8 (tk 6),.int .u8 (tk 7)] 30)
 refine actL (w':=w.alloc (.cells #[.int .u8 (tk 0),.int .u8 (tk 1),.int .u8 (tk 2),.int .u8 (tk 3),.int .u8 (tk 4),.int .u8 (tk 5),.int .u8 (tk 6),.int .u8 (tk 7)] 30)) (.pointer (some ⟨w.heap.size,0,none⟩)) rfl (by kernel_rfl) ?_; simp only [aP,lI,l0,lS]; replace OF:=OF.below hlb; have hB_:=M.below.size; have hW_:=hwz; replace hwz:=xnT hwz hlb.size
 replace M:=M.box #[.int .u8 (tk 0),.int .u8 (tk 1),.int .u8 (tk 2),.int .u8 (tk 3),.int .u8 (tk 4),.int .u8 (tk 5),.int .u8 (tk 6),.int .u8 (tk 7)] 30 w.heap.size rfl; clear hlb; generalize w.alloc (.cells #[.int .u8 (tk 0),.int .u8 (tk 1),.int .u8 (tk 2),.int .u8 (tk 3),.int .u8 (tk 4),.int .u8 (tk 5),.int .u8 (tk 6),.int .u8 (tk 7)] 30)=w1 at M hwz OF ⊢
 generalize eB_:w.heap.size=B1 at M ⊢
 have hB_B1:w0.heap.size≤B1:=by rw [← eB_]; exact hB_
 have hW_B1:w.heap.size≤B1:=by rw [← eB_]; exact hW_
 have hF_B1:w.heap.size=B1:=eB_
 clear hB_ hW_ eB_
 replace M:Mm w0 ((B1,[.int .u8 (tk 0),.int .u8 (tk 1),.int .u8 (tk 2),.int .u8 (tk 3),.int .u8 (tk 4),.int .u8 (tk 5),.int .u8 (tk 6),.int .u8 (tk 7)])::(R,tcs t)::l) w1:=M
 refine xpL (.int .i64 0) ?_; refine xT ?_; replace M:=M.swap; go_upto_region 1 with fail; have hdr:=(Below.refl w1.heap.size w1).drew; replace M:=M.drew; replace hwz:=xnT hwz hdr.size; replace OF:=OF.below hdr; clear hdr
 refine wp_region_held_drew (S:=fun w'=>(∃ cs_,Mm w0 ((R,cs_)::(B1,[.int .u8 (tk 0),.int .u8 (tk 1),.int .u8 (tk 2),.int .u8 (tk 3),.int .u8 (tk 4),.int .u8 (tk 5),.int .u8 (tk 6),.int .u8 (tk 7)])::l) w')) (by kernel_rfl) ⟨_,M⟩ ?_; intro _; generalize w1.drew=w2 at M hwz OF ⊢; refine xrH 0 9 rfl (.pointer (some ⟨R,0,none⟩)) (fun _ ⟨_,M⟩=>(by kernel_rfl)) ⟨_,M⟩ ?_
 refine xrH 1 10 rfl (.int .i64 id) (fun _ ⟨_,M⟩=>(by kernel_rfl)) ⟨_,M⟩ ?_
 refine xrH 2 11 rfl (.agg #[.int .u8 (tk 0),.int .u8 (tk 1),.int .u8 (tk 2),.int .u8 (tk 3),.int .u8 (tk 4),.int .u8 (tk 5),.int .u8 (tk 6),.int .u8 (tk 7)]) (fun _ ⟨_,M⟩=>loadN 30 _ ⟨B1,0,none⟩ [.int .u8 (tk 0),.int .u8 (tk 1),.int .u8 (tk 2),.int .u8 (tk 3),.int .u8 (tk 4),.int .u8 (tk 5),.int .u8 (tk 6),.int .u8 (tk 7)] rfl rfl (fun _=>by kernel_rfl) (fun _=>by kernel_rfl) (M.rangeAt (mT _ mS))) ⟨_,M⟩ ?_
 refine xrH 3 12 rfl (.int .i64 now) (fun _ ⟨_,M⟩=>(by kernel_rfl)) ⟨_,M⟩ ?_; have key:=vmom20_any w2 now; refine callH (i:=4) (some 13) rfl (by kernel_rfl) rfl rfl (fun _=>by kernel_rfl) key ?_; clear key; rintro e w3 ⟨rfl,l_⟩; replace M:=M.call l_; replace OF:=OF.below l_; replace hwz:=xnT hwz l_.size; clear l_
 refine ⟨_,rfl,⟨_,M⟩,?_⟩
 simp only [aP,lI,l0,lS]; refine xrH 5 14 rfl (.agg #[.int .i64 1,.int .i64 0,.int .u8 (tk 0),.int .u8 (tk 1),.int .u8 (tk 2),.int .u8 (tk 3),.int .u8 (tk 4),.int .u8 (tk 5),.int .u8 (tk 6),.int .u8 (tk 7),.int .i64 0,.int .i64 ((pmom now:Nat):Int)]) (fun _ ⟨_,M⟩=>(by kernel_rfl)) ⟨_,M⟩ ?_
 have key:=vuse20_any w0 w3 R ((B1,[.int .u8 (tk 0),.int .u8 (tk 1),.int .u8 (tk 2),.int .u8 (tk 3),.int .u8 (tk 4),.int .u8 (tk 5),.int .u8 (tk 6),.int .u8 (tk 7)])::l) t hW M id 1 tk (pmom now) ⟨1,100,0,pmom now,tk⟩ rfl; refine callH (i:=6) (some 15) rfl (by kernel_rfl) rfl rfl (fun _=>by kernel_rfl) key ?_; clear key; rintro e w4 ⟨rfl,M',o1⟩; clear M; have M:=M'
 replace OF:=OF.trans o1; clear M' o1 hwz
 refine ⟨_,rfl,⟨_,M⟩,?_⟩
 simp only [aP,lI,l0,lS]; refine xrH 7 8 rfl (.int .i64 ((pmay t id:Nat):Int)) (fun _ ⟨_,M⟩=>(by kernel_rfl)) ⟨_,M⟩ ?_
 refine wpAnyH_done (by kernel_rfl) ?_ _
 first | show Exit.then _ _ _ _ _ | show Exit.inBlock _ _ _ _ _
 have HS:=show Hid _ from (And.intro M.drop2 OF); clear M OF; go_wp2; go_ret
 exact ⟨rfl,HS.out⟩
theorem vnew20_any (w0 w:World) (l:List (Nat × List Value)) (M:Mm w0 l w) :
 Calls Try.prog 8 #[] w fun e w'=>∃ R,e=.returned (.pointer (some ⟨R,0,none⟩))∧Mm w0 ((R,tcs pnew)::l) w'∧Below w.heap.size w w':=by
 have hb0:=M.below; have OF:=Off.refl [] w; have hwz:=xnR w.heap.size
 go_enter Try.func8,Try.ntmps8
 go_upto_region 0 with fail; refine wp_region_list ?_; refine xpL (.pointer none) ?_; refine xT ?_; go_upto_region 1 with fail; refine wp_region_list ?_; refine xpL (.agg tz12.toArray) ?_; have hlb:=(Below.refl w.heap.size w).alloc (xnR _) (.cells (tz12).toArray 54); refine actL (w':=w.alloc (.cells (tz12).toArray 54)) (.pointer (some ⟨w.heap.size,0,none⟩)) rfl (by kernel_rfl) ?_
 simp only [aP,lI,l0,lS]; replace OF:=OF.below hlb; have hB_:=M.below.size; have hW_:=hwz; replace hwz:=xnT hwz hlb.size; replace M:=M.box (tz12).toArray 54 w.heap.size rfl; clear hlb; generalize w.alloc (.cells (tz12).toArray 54)=w1 at M hwz OF ⊢; generalize eB_:w.heap.size=B1 at M ⊢
 have hB_B1:w0.heap.size≤B1:=by rw [← eB_]; exact hB_
 have hW_B1:w.heap.size≤B1:=by rw [← eB_]; exact hW_
 have hF_B1:w.heap.size=B1:=eB_
 clear hB_ hW_ eB_
 replace M:Mm w0 ((B1,tz12)::l) w1:=M
 refine xpL (.pointer (some ⟨B1,0,none⟩)) ?_; refine xT ?_
 have hbel:Below w.heap.size w w1:=⟨M.below.os.trans hb0.os.symm,M.below.tape.trans hb0.tape.symm,M.below.output.trans hb0.output.symm,OF.size,fun b_ hb_=>OF.blk b_ hb_ (fun h_=>by cases h_)⟩
 have HS:=show Hid _ from (show Mm w0 ((B1,tcs pnew)::l) w1∧Below w.heap.size w w1 from ⟨by rw [tcs_new]; exact M,hbel⟩); clear M OF hbel; go_wp2; go_ret
 exact ⟨B1,rfl,HS.out⟩
section
section
variable {P:Program} {ops:Array Oper} {Q:Exit→Act→World→Prop} {md:Region.Mode} {S S2:World→Prop} {c:Nat}
theorem readC {i:Nat} {oi oc:Oper} (dst:Option Tmp) (hdst:oi.dst=dst) {n:Nat} {l:Array Bool} {a:Act} {w:World} (v:Value) (hi:ops[i]?=some oi) (hc:ops[c]?=some oc) (hwait:(oc.after.any fun e=>Region.binds md e&&e.on == i)=true)
 (hw:Region.wanted oi (yielded ops a.tmps)=true) (hv:∀ w,S w→(execOp a.eval oi).run P w=.ok (.value v) w)
 (hs:Region.noSelect ops=true) (hf:Region.free md ops l i=true) (hl:l.getD c true=false) (hr:(Region.ready md ops l).contains i=true)
 (hQ:∀ p a w,Q (.panic p) (a.put dst v) w→Q (.panic p) a w) (hS:S w)
 (h:wpAnyC P md ops Q S c n (l.setIfInBounds i true) (a.put dst v) w):wpAnyC P md ops Q S c (n+1) l a w:=by
 subst hdst
 exact wpAnyC_take hi hc hwait hs hf hl hr hQ (.inl ⟨hw,hv⟩) hS h
theorem skipC (dst:Option Tmp) {oc:Oper} (hdst:oc.dst=dst) {n:Nat} {l:Array Bool} {a:Act} {w w':World} (hr:Region.ready md ops l=[c]) (hi:ops[c]?=some oc)
 (hw:Region.wanted oc (yielded ops a.tmps)=true) (he:(execOp a.eval oc).run P w=.ok .skip w') (hl:(l.setIfInBounds c true).getD c true=true)
 (h:wpAnyH P md ops Q S2 n (l.setIfInBounds c true) (a.put dst undef) w'):wpAnyC P md ops Q S c (n+1) l a w :=
 ⟨fun h0=>(by rw [h0] at hr; cases hr),fun j hj=>by
  rw [hr] at hj
  obtain rfl:=xm1 hj
  unfold wpOp
  simp only [hi,hw,if_true]; refine .inl ?_
  unfold Oper.wp
  rw [he]
  subst hdst
  exact ⟨fun hf=>(by rw [hl] at hf; cases hf),wpAnyC_rest n _ _ _ hl (wpAny_of_held n _ _ _ h)⟩⟩
end
end
theorem quo8 (x:Int) (h0:0≤x) (h1:x≤1000000000000000000):IntKind.i64.wrap (x.tdiv 8)=x/8:=by
 rw [Int.tdiv_eq_ediv_of_nonneg h0,xw6]
 omega
def pdP (t:Ptb) (m b:Nat):Ptb:=fun k=>if k<b then pdt t m k else t k
def plP (t:Ptb) (m b:Nat):List Int:=((List.range b).filter fun k=>pdw t m k&&(t k).tr != 4).map fun k:Nat=>(k:Int)
theorem pdt_not {t:Ptb} {m k:Nat} (h:(t k).st≠1):pdt t m k=t k:=by
 unfold pdt
 rw [if_neg]
 unfold pdw
 rw [decide_eq_false fun e=>h e.1]
 decide
theorem pdP_zero (t:Ptb) (m:Nat):pdP t m 0=t:=funext fun _=>if_neg (xnZ _)
theorem pdP_all {t:Ptb} (h:PtbW t) (m:Nat):pdP t m 256=pdt t m:=funext fun k=>by
 unfold pdP
 split
 · rfl
 · next c=>rw [pdt_not (by rw [h.z k (by omega)]; decide)]
theorem pdP_skip {t:Ptb} {m b:Nat} (h:(t b).st≠1):pdP t m (b+1)=pdP t m b:=funext fun k=>by
 unfold pdP
 by_cases c:k<b
 · rw [if_pos c,if_pos (by omega)]
 · by_cases d:k=b
   · subst d
     rw [if_pos (by omega),if_neg c,pdt_not h]
   · rw [if_neg c,if_neg (by omega)]
theorem pdP_next (t:Ptb) (m b:Nat):pdP t m (b+1)=pput (pdP t m b) b (pdt t m b):=funext fun k=>by
 by_cases d:k=b
 · subst d
   rw [pput_same]
   exact if_pos (by omega)
 · rw [pput_other d]
   unfold pdP
   by_cases c:k<b
   · rw [if_pos c,if_pos (by omega)]
   · rw [if_neg c,if_neg (by omega)]
theorem pdP_at (t:Ptb) (m b:Nat):pdP t m b b=t b:=if_neg (Nat.lt_irrefl b)
theorem plP_yes {t:Ptb} {m b:Nat} (h:pdw t m b=true) (h4:(t b).tr≠4):plP t m (b+1)=plP t m b++[((b:Nat):Int)]:=by
 unfold plP
 rw [List.range_succ,List.filter_append,List.map_append,List.filter_cons_of_pos (by rw [h,Bool.true_and,bne_iff_ne]; exact h4)]
 rfl
theorem plP_no {t:Ptb} {m b:Nat} (h:¬ (pdw t m b=true∧(t b).tr≠4)):plP t m (b+1)=plP t m b:=by
 unfold plP
 rw [List.range_succ,List.filter_append,List.map_append,List.filter_cons_of_neg (by rw [xbA,bne_iff_ne]; exact h)]
 simp
theorem plP_all (t:Ptb) (m:Nat):plP t m 256=pdl t m:=rfl
theorem plP_le (t:Ptb) (m b:Nat):(plP t m b).length≤b:=by
 unfold plP
 rw [List.length_map]
 exact xnT (List.length_filter_le _ _) (Nat.le_of_eq List.length_range)
theorem pdP_keep {t:Ptb} {m b:Nat} (h:pdt t m b=t b):pdP t m (b+1)=pdP t m b:=by
 rw [pdP_next,h]
 funext k
 by_cases c:k=b
 · subst c
   rw [pput_same,pdP_at]
 · rw [pput_other c]
theorem pput_pput (t:Ptb) (k:Nat) (p q:Pth):pput (pput t k p) k q=pput t k q:=by
 funext j
 by_cases c:j=k
 · subst c
   rw [pput_same,pput_same]
 · rw [pput_other c,pput_other c,pput_other c]
theorem shl20 {r t:Nat} (hr:r≤1099511627776) (ht:t≤4):IntKind.i64.wrap (((r:Nat):Int)*2^min ((t:Nat):Int).toNat IntKind.i64.bits)=((r*2^t:Nat):Int):=by
 have h2:2^t≤16:=Nat.pow_le_pow_right (n:=2) (by decide) (show t≤4 from ht)
 have h3:=Nat.mul_le_mul hr h2
 rw [show min ((t:Nat):Int).toNat IntKind.i64.bits=t by show min ((t:Nat):Int).toNat 64=t; omega,xw6]
 have e:((r:Nat):Int)*2^t=((r*2^t:Nat):Int):=by norm_cast
 rw [e]
 omega
theorem Tat.atP {w:World} {R:Nat} {t:Ptb} {m j:Nat} (h:Tat w R (pdP t m j)) (hj:j<256):Pat w R (j*12) (t j):=by
 have h1:=h j hj
 rw [pdP_at] at h1
 exact h1
theorem Tat.atQ {w:World} {R:Nat} {t:Ptb} {j:Nat} {q:Pth} (h:Tat w R (pput t j q)) (hj:j<256):Pat w R (j*12) q:=by
 have h1:=h j hj
 rw [pput_same] at h1
 exact h1
theorem vdue20_any (w0 w:World) (R:Nat) (l:List (Nat × List Value)) (t:Ptb) (hW:PtbW t) (M:Mm w0 ((R,tcs t)::l) w) (now:Int) :
 Calls Try.prog 15 #[.pointer (some ⟨R,0,none⟩),.int .i64 now] w fun e w'=>∃ sq cq,e=.returned (.slice sq (pdl t (pmom now)).length cq)∧NewI w' w.heap.size (pdl t (pmom now)) (.slice sq (pdl t (pmom now)).length cq)∧Mm w0 ((R,tcs (pdt t (pmom now)))::(obs sq++l)) w'∧Off [R] w w':=by
 have hlt0:∀ (c_:List Value),∀ p_∈((R,c_)::l),p_.1<w.heap.size:=fun c_ p_ hp_=>by
  rcases xc1 hp_ with rfl | hp_
  · exact (M.rows _ mS).2.2
  · exact (M.rows p_ (mT _ hp_)).2.2
 have h00:=M.below.size; have hmm:=pmom_le now; have OF:=Off.refl [R] w; have hwz:=xnR w.heap.size; have hRw:=M.lt mS
 go_enter Try.func15,Try.ntmps15
 go_upto_region 0 with fail; refine wp_region_list ?_; refine xpL (.slice none 0 0) ?_; refine xT ?_; go_upto_region 1 with fail; refine wp_region_list ?_; refine xpL (.int .i64 now) ?_; have key:=vmom20_any w now; refine xcL key ?_; clear key; rintro e w1 ⟨rfl,l_⟩; replace M:=M.call l_; replace OF:=OF.below l_; replace hwz:=xnT hwz l_.size; clear l_; refine xeL ?_
 refine xpL (.int .i64 ((pmom now:Nat):Int)) ?_; refine xT ?_; go_upto_region 2 with fail; refine wp_region_list ?_; refine xpL (.slice none 0 0) ?_; refine xT ?_; go_upto_region 3 with fail; refine wp_region_list ?_; refine xpL (.int .i64 0) ?_; refine xT ?_
 have HI:=show Hid _ from (show Mm w0 ((R,tcs (pdP t (pmom now) 0))::l) w1∧Off [R] w w1∧OwnI w1 w.heap.size (plP t (pmom now) 0) (.slice none (plP t (pmom now) 0).length 0)∧w.heap.size≤w1.heap.size from ⟨by rw [pdP_zero]; exact M,OF,⟨rfl,.inl ⟨rfl,rfl⟩⟩,hwz⟩); clear M OF hwz; go_wp2
 go_loopw [5,10] (fun l_ v_ w'=>∃ (j:Nat) (sq:Option Addr) (cq:Nat),j≤256∧l_=.slice sq (plP t (pmom now) j).length cq∧v_=.int .i64 ((j:Nat):Int)∧Mm w0 ((R,tcs (pdP t (pmom now) j))::l) w'∧Off [R] w w'∧OwnI w' w.heap.size (plP t (pmom now) j) (.slice sq (plP t (pmom now) j).length cq)∧w.heap.size≤w'.heap.size) (fun _ v_ _=>256-(intOf v_).toNat)
 case atStart=>exact ⟨0,none,0,by omega,rfl,rfl,HI.out⟩
 case round =>
  clear HI
  obtain ⟨j,sq,cq,hj,rfl,rfl,M,OF,V_l,hwz⟩:=hrel
  have hpl:=plP_le t (pmom now) j
  by_cases hj2:j<256
  · go_upto_region 4 with fail
    refine wp_region_list ?_; refine xaL (.bool true) (lssI .i64 _ _ _ _ _ _ rfl rfl rfl true (decide_eq_true (by omega)) _) ?_; refine xT ?_; go_upto_region 5 with fail; refine wp_region_list ?_; refine xpL (.int .i64 ((j:Nat):Int)) ?_; refine xpL (.int .i64 ((j:Nat):Int)) ?_; refine xT ?_; go_upto_region 6 with fail; refine wp_region_list ?_; refine xpL (.pointer (some ⟨R,0,none⟩)) ?_
    refine xpL (.int .i64 ((j:Nat):Int)) ?_; refine xpL (.pointer (some ⟨R,0,none⟩)) ?_; refine xpL (.pointer (some ⟨R,0,none⟩)) ?_; refine xaL (.pointer (some ⟨R,j*12,none⟩)) (idxP12 R j hj2 _ _ rfl rfl rfl _) ?_; refine xpL (.pointer (some ⟨R,j*12,none⟩)) ?_; refine xT ?_
    by_cases hs:(t j).st=1
    · have hpr:=(hW.w j).r
      have hpt:=(hW.w j).t
      by_cases hnx:(t j).nx>(pmom now)
      · go_upto_region 10 with fail
        refine wp_region_list ?_; refine xpL (.pointer (some ⟨R,j*12,none⟩)) ?_; refine xpL (.pointer (some ⟨R,j*12,none⟩)) ?_; refine xpL (.pointer (some ⟨R,j*12+0,none⟩)) ?_
        refine xaL (.int .i64 ((1:Nat):Int)) (load1 3 _ ⟨R,j*12+0,none⟩ _ rfl rfl (fun _=>by kernel_rfl) ((Tat.atP (Tat.of M mS) hj2) 0 _ (by rw [pcz_new (p:=(t j)) hs]; rfl))) ?_
        refine xaL (.bool false) (neqI .i64 _ _ _ _ _ _ rfl rfl rfl false (by rw [bne_eq_false_iff_eq]; omega) _) ?_; refine xpL (.bool false) ?_; refine xpL (.pointer (some ⟨R,j*12,none⟩)) ?_; refine xpL (.pointer (some ⟨R,j*12,none⟩)) ?_; refine xpL (.pointer (some ⟨R,j*12+11,none⟩)) ?_
        refine readL (.int .i64 (((t j).nx:Nat):Int)) rfl (load1 3 _ ⟨R,j*12+11,none⟩ _ rfl rfl (fun _=>by kernel_rfl) ((Tat.atP (Tat.of M mS) hj2) 11 _ (by rw [pcz_new (p:=(t j)) hs]; rfl))) ?_
        simp only [aP,lI,l0,lS]; refine xpL (.int .i64 ((pmom now:Nat):Int)) ?_; refine xaL (.bool true) (gtrI .i64 _ _ _ _ _ _ rfl rfl rfl true (decide_eq_true (by omega)) _) ?_; refine xpL (.bool true) ?_; refine xpL (.bool true) ?_; refine xT ?_
        have hdw:pdw t (pmom now) j=false:=decide_eq_false (fun h_=>by omega)
        have hdt:pdt t (pmom now) j=t j:=if_neg (by rw [hdw]; decide)
        have hT9:(pdP t (pmom now) (j+1))=(pdP t (pmom now) j):=pdP_keep hdt
        have hL9:(plP t (pmom now) (j+1))=(plP t (pmom now) j):=plP_no fun g_=>by rw [hdw] at g_; cases g_.1
        rw [← hT9] at M
        rw [← hL9] at V_l ⊢
        have HS:=show Hid _ from (show Mm w0 ((R,tcs (pdP t (pmom now) (j+1)))::l) wr∧Off [R] w wr∧OwnI wr w.heap.size (plP t (pmom now) (j+1)) (.slice sq (plP t (pmom now) (j+1)).length cq)∧w.heap.size≤wr.heap.size from ⟨M,OF,V_l,hwz⟩); clear M OF V_l hwz hT9 hL9 hdw hdt; go_wp2
        go_roundw
        case rel=>exact ⟨j+1,sq,cq,by omega,rfl,by go_num,HS.out⟩
        case measure=>simp [intOf]; omega
      · by_cases htr:(t j).tr=4
        · go_upto_region 10 with fail
          refine wp_region_list ?_; refine xpL (.pointer (some ⟨R,j*12,none⟩)) ?_; refine xpL (.pointer (some ⟨R,j*12,none⟩)) ?_; refine xpL (.pointer (some ⟨R,j*12+0,none⟩)) ?_
          refine xaL (.int .i64 ((1:Nat):Int)) (load1 3 _ ⟨R,j*12+0,none⟩ _ rfl rfl (fun _=>by kernel_rfl) ((Tat.atP (Tat.of M mS) hj2) 0 _ (by rw [pcz_new (p:=(t j)) hs]; rfl))) ?_
          refine xaL (.bool false) (neqI .i64 _ _ _ _ _ _ rfl rfl rfl false (by rw [bne_eq_false_iff_eq]; omega) _) ?_; refine xpL (.bool false) ?_; refine xpL (.pointer (some ⟨R,j*12,none⟩)) ?_; refine xpL (.pointer (some ⟨R,j*12,none⟩)) ?_; refine xpL (.pointer (some ⟨R,j*12+11,none⟩)) ?_
          refine readL (.int .i64 (((t j).nx:Nat):Int)) rfl (load1 3 _ ⟨R,j*12+11,none⟩ _ rfl rfl (fun _=>by kernel_rfl) ((Tat.atP (Tat.of M mS) hj2) 11 _ (by rw [pcz_new (p:=(t j)) hs]; rfl))) ?_
          simp only [aP,lI,l0,lS]; refine xpL (.int .i64 ((pmom now:Nat):Int)) ?_; refine xaL (.bool false) (gtrI .i64 _ _ _ _ _ _ rfl rfl rfl false (decide_eq_false (by omega)) _) ?_; refine xpL (.bool false) ?_; refine xpL (.bool false) ?_; refine xT ?_; go_upto_region 11 with fail; refine wp_region_list ?_; refine xpL (.pointer (some ⟨R,j*12,none⟩)) ?_
          refine xpL (.pointer (some ⟨R,j*12,none⟩)) ?_; refine xpL (.pointer (some ⟨R,j*12+10,none⟩)) ?_
          refine readL (.int .i64 (((t j).tr:Nat):Int)) rfl (load1 3 _ ⟨R,j*12+10,none⟩ _ rfl rfl (fun _=>by kernel_rfl) ((Tat.atP (Tat.of M mS) hj2) 10 _ (by rw [pcz_new (p:=(t j)) hs]; rfl))) ?_
          simp only [aP,lI,l0,lS]; refine xaL (.bool true) (eqlI .i64 _ _ _ _ _ _ rfl rfl rfl true (beq_iff_eq.2 (by omega)) _) ?_; refine xpL (.bool true) ?_; refine xT ?_; go_upto_region 12 with fail; refine wp_region_list ?_; refine xpL (.pointer (some ⟨R,j*12,none⟩)) ?_; have key:=vbec20_any w0 wr R l (pdP t (pmom now) j) M j hj2 4 (by decide)
          rw [pdP_at] at key
          refine xcL key ?_; clear key; rintro e w2 ⟨rfl,M',o1⟩; clear M; have M:=M'; replace OF:=OF.trans o1; replace V_l:=ownsRow_off V_l o1 (fun x_ hx_ e_=>by have h1_:=xm1 hx_; have h2_:=(World.ownsRow.lt V_l _ e_).1; omega); replace hwz:=xnT hwz o1.size; clear M' o1; refine xeL ?_; refine xT ?_
          have hdw:pdw t (pmom now) j=true:=decide_eq_true ⟨hs,by omega⟩
          have hdt:pdt t (pmom now) j={ t j with st:=4 }:=by unfold pdt; rw [if_pos hdw,if_pos htr]
          have hT9:(pdP t (pmom now) (j+1))=pput (pdP t (pmom now) j) j { t j with st:=4 }:=by rw [pdP_next,hdt]
          have hL9:(plP t (pmom now) (j+1))=(plP t (pmom now) j):=plP_no fun g_=>g_.2 htr
          rw [← hT9] at M
          rw [← hL9] at V_l ⊢
          have HS:=show Hid _ from (show Mm w0 ((R,tcs (pdP t (pmom now) (j+1)))::l) w2∧Off [R] w w2∧OwnI w2 w.heap.size (plP t (pmom now) (j+1)) (.slice sq (plP t (pmom now) (j+1)).length cq)∧w.heap.size≤w2.heap.size from ⟨M,OF,V_l,hwz⟩); clear M OF V_l hwz hT9 hL9 hdw hdt; go_wp2
          go_roundw
          case rel=>exact ⟨j+1,sq,cq,by omega,rfl,by go_num,HS.out⟩
          case measure=>simp [intOf]; omega
        · go_upto_region 10 with fail
          refine wp_region_list ?_; refine xpL (.pointer (some ⟨R,j*12,none⟩)) ?_; refine xpL (.pointer (some ⟨R,j*12,none⟩)) ?_; refine xpL (.pointer (some ⟨R,j*12+0,none⟩)) ?_
          refine xaL (.int .i64 ((1:Nat):Int)) (load1 3 _ ⟨R,j*12+0,none⟩ _ rfl rfl (fun _=>by kernel_rfl) ((Tat.atP (Tat.of M mS) hj2) 0 _ (by rw [pcz_new (p:=(t j)) hs]; rfl))) ?_
          refine xaL (.bool false) (neqI .i64 _ _ _ _ _ _ rfl rfl rfl false (by rw [bne_eq_false_iff_eq]; omega) _) ?_; refine xpL (.bool false) ?_; refine xpL (.pointer (some ⟨R,j*12,none⟩)) ?_; refine xpL (.pointer (some ⟨R,j*12,none⟩)) ?_; refine xpL (.pointer (some ⟨R,j*12+11,none⟩)) ?_
          refine readL (.int .i64 (((t j).nx:Nat):Int)) rfl (load1 3 _ ⟨R,j*12+11,none⟩ _ rfl rfl (fun _=>by kernel_rfl) ((Tat.atP (Tat.of M mS) hj2) 11 _ (by rw [pcz_new (p:=(t j)) hs]; rfl))) ?_
          simp only [aP,lI,l0,lS]; refine xpL (.int .i64 ((pmom now:Nat):Int)) ?_; refine xaL (.bool false) (gtrI .i64 _ _ _ _ _ _ rfl rfl rfl false (decide_eq_false (by omega)) _) ?_; refine xpL (.bool false) ?_; refine xpL (.bool false) ?_; refine xT ?_; go_upto_region 11 with fail; refine wp_region_list ?_; refine xpL (.pointer (some ⟨R,j*12,none⟩)) ?_
          refine xpL (.pointer (some ⟨R,j*12,none⟩)) ?_; refine xpL (.pointer (some ⟨R,j*12+10,none⟩)) ?_
          refine readL (.int .i64 (((t j).tr:Nat):Int)) rfl (load1 3 _ ⟨R,j*12+10,none⟩ _ rfl rfl (fun _=>by kernel_rfl) ((Tat.atP (Tat.of M mS) hj2) 10 _ (by rw [pcz_new (p:=(t j)) hs]; rfl))) ?_
          simp only [aP,lI,l0,lS]; refine xaL (.bool false) (eqlI .i64 _ _ _ _ _ _ rfl rfl rfl false (beq_eq_false_iff_ne.2 (by omega)) _) ?_; refine xpL (.bool false) ?_; refine xT ?_
          have hpow:(t j).rt*2^((t j).tr+1)≤1099511627776*16:=Nat.mul_le_mul hpr (show 2^((t j).tr+1)≤16 from Nat.pow_le_pow_right (n:=2) (by decide) (show (t j).tr+1≤4 by omega))
          go_upto_region 7 with fail; refine wp_region_list ?_; refine xpL (.pointer (some ⟨R,j*12,none⟩)) ?_; refine xpL (.pointer (some ⟨R,j*12,none⟩)) ?_; refine xpL (.pointer (some ⟨R,j*12+10,none⟩)) ?_
          refine readL (.int .i64 (((t j).tr:Nat):Int)) rfl (load1 3 _ ⟨R,j*12+10,none⟩ _ rfl rfl (fun _=>by kernel_rfl) ((Tat.atP (Tat.of M mS) hj2) 10 _ (by rw [pcz_new (p:=(t j)) hs]; rfl))) ?_
          simp only [aP,lI,l0,lS]; refine readL (.int .i64 (((t j).tr+1:Nat):Int)) rfl (addI .i64 _ _ _ _ _ _ _ rfl rfl rfl (by rw [xw6]; omega) _) ?_; simp only [aP,lI,l0,lS]; refine xpL (.pointer (some ⟨R,j*12,none⟩)) ?_; refine xpL (.pointer (some ⟨R,j*12+10,none⟩)) ?_; have hM2:=M.set (j*12+10) (by rw [tcs_len]; omega) (.int .i64 (((t j).tr+1:Nat):Int))
          rw [tcs_set (pdP t (pmom now) j) hj2 10 (by decide) ({ t j with tr:=(t j).tr+1 }) (.int .i64 (((t j).tr+1:Nat):Int)) (by rw [pdP_at,pcz_new hs,pcz_new (p:={ t j with tr:=(t j).tr+1 }) hs]; rfl)] at hM2
          refine skipOpL rfl (storeAny (.int .i64 (((t j).tr+1:Nat):Int)) R (j*12+10) 3 _ _ rfl rfl rfl rfl rfl (M.isSome mS (j*12+10) (by rw [tcs_len]; omega)) (M.free mS (j*12+10) (by rw [tcs_len]; omega)) (by kernel_rfl)) ?_; simp only [Act.put]; clear M; have M:=hM2; clear hM2
          replace hwz:=xnT hwz (Off.size ((Off.refl [R] _).set (b:=R) mS (j*12+10) (.int .i64 (((t j).tr+1:Nat):Int)))); replace OF:=OF.trans ((Off.refl [R] _).set (b:=R) mS (j*12+10) (.int .i64 (((t j).tr+1:Nat):Int)))
          replace V_l:=ownsRow_off V_l ((Off.refl [R] _).set (b:=R) mS (j*12+10) (.int .i64 (((t j).tr+1:Nat):Int))) (fun x_ hx_ e_=>by have h1_:=xm1 hx_; have h2_:=(World.ownsRow.lt V_l _ e_).1; omega); generalize wr.setCell ⟨R,j*12+10,none⟩ (.int .i64 (((t j).tr+1:Nat):Int))=w3 at M hwz OF V_l ⊢
          replace M:Mm w0 ((R,tcs (pput (pdP t (pmom now) j) j ({ t j with tr:=(t j).tr+1 })))::l) w3:=M
          refine xT ?_; go_upto_region 8 with fail; have hdr:=(Below.refl w3.heap.size w3).drew; replace M:=M.drew; replace hwz:=xnT hwz hdr.size; replace OF:=OF.below hdr; replace V_l:=Own.below V_l hdr; clear hdr; refine wp_region_C (S:=fun w'=>Mm w0 ((R,tcs (pput (pdP t (pmom now) j) j ({ t j with tr:=(t j).tr+1 })))::l) w') 14 (by kernel_rfl) M ?_; intro _
          generalize w3.drew=w4 at M hwz OF V_l ⊢; refine readC (i:=0) (some 25) rfl (.pointer (some ⟨R,j*12,none⟩)) rfl rfl (by kernel_rfl) rfl (fun _ M=>(by kernel_rfl)) (by kernel_rfl) (by kernel_rfl) (by kernel_rfl) (by kernel_rfl) (fun _ _ _ h=>h) M ?_; simp only [aP,lI,l0,lS]
          refine readC (i:=1) (some 26) rfl (.int .i64 ((pmom now:Nat):Int)) rfl rfl (by kernel_rfl) rfl (fun _ M=>(by kernel_rfl)) (by kernel_rfl) (by kernel_rfl) (by kernel_rfl) (by kernel_rfl) (fun _ _ _ h=>h) M ?_; simp only [aP,lI,l0,lS]
          refine readC (i:=2) (some 27) rfl (.pointer (some ⟨R,j*12,none⟩)) rfl rfl (by kernel_rfl) rfl (fun _ M=>(by kernel_rfl)) (by kernel_rfl) (by kernel_rfl) (by kernel_rfl) (by kernel_rfl) (fun _ _ _ h=>h) M ?_; simp only [aP,lI,l0,lS]
          refine readC (i:=3) (some 28) rfl (.pointer (some ⟨R,j*12,none⟩)) rfl rfl (by kernel_rfl) rfl (fun _ M=>(by kernel_rfl)) (by kernel_rfl) (by kernel_rfl) (by kernel_rfl) (by kernel_rfl) (fun _ _ _ h=>h) M ?_; simp only [aP,lI,l0,lS]
          refine readC (i:=4) (some 29) rfl (.pointer (some ⟨R,j*12+1,none⟩)) rfl rfl (by kernel_rfl) rfl (fun _ M=>(by kernel_rfl)) (by kernel_rfl) (by kernel_rfl) (by kernel_rfl) (by kernel_rfl) (fun _ _ _ h=>h) M ?_; simp only [aP,lI,l0,lS]
          refine readC (i:=5) (some 30) rfl (.int .i64 ((({ t j with tr:=(t j).tr+1 }:Pth).rt:Nat):Int)) rfl rfl (by kernel_rfl) rfl (fun _ M=>load1 3 _ ⟨R,j*12+1,none⟩ _ rfl rfl (fun _=>by kernel_rfl) ((Tat.atQ (Tat.of M mS) hj2) 1 _ (by rw [pcz_new (p:=({ t j with tr:=(t j).tr+1 }:Pth)) hs]; rfl))) (by kernel_rfl) (by kernel_rfl) (by kernel_rfl) (by kernel_rfl) (fun _ _ _ h=>h) M ?_
          simp only [aP,lI,l0,lS]; refine readC (i:=6) (some 31) rfl (.pointer (some ⟨R,j*12,none⟩)) rfl rfl (by kernel_rfl) rfl (fun _ M=>(by kernel_rfl)) (by kernel_rfl) (by kernel_rfl) (by kernel_rfl) (by kernel_rfl) (fun _ _ _ h=>h) M ?_; simp only [aP,lI,l0,lS]
          refine readC (i:=7) (some 32) rfl (.pointer (some ⟨R,j*12,none⟩)) rfl rfl (by kernel_rfl) rfl (fun _ M=>(by kernel_rfl)) (by kernel_rfl) (by kernel_rfl) (by kernel_rfl) (by kernel_rfl) (fun _ _ _ h=>h) M ?_; simp only [aP,lI,l0,lS]
          refine readC (i:=8) (some 33) rfl (.pointer (some ⟨R,j*12+10,none⟩)) rfl rfl (by kernel_rfl) rfl (fun _ M=>(by kernel_rfl)) (by kernel_rfl) (by kernel_rfl) (by kernel_rfl) (by kernel_rfl) (fun _ _ _ h=>h) M ?_; simp only [aP,lI,l0,lS]
          refine readC (i:=9) (some 34) rfl (.int .i64 ((({ t j with tr:=(t j).tr+1 }:Pth).tr:Nat):Int)) rfl rfl (by kernel_rfl) rfl (fun _ M=>load1 3 _ ⟨R,j*12+10,none⟩ _ rfl rfl (fun _=>by kernel_rfl) ((Tat.atQ (Tat.of M mS) hj2) 10 _ (by rw [pcz_new (p:=({ t j with tr:=(t j).tr+1 }:Pth)) hs]; rfl))) (by kernel_rfl) (by kernel_rfl) (by kernel_rfl) (by kernel_rfl) (fun _ _ _ h=>h) M ?_
          simp only [aP,lI,l0,lS]; refine readC (i:=10) (some 35) rfl (.int .i64 (((t j).rt*2^((t j).tr+1):Nat):Int)) rfl rfl (by kernel_rfl) rfl (fun _ M=>shlI .i64 .i64 _ _ _ _ _ _ _ rfl rfl rfl (by omega) (shl20 hpr (by omega)) _) (by kernel_rfl) (by kernel_rfl) (by kernel_rfl) (by kernel_rfl) (fun _ _ _ h=>h) M ?_; simp only [aP,lI,l0,lS]
          refine readC (i:=11) (some 36) rfl (.int .i64 (((pmom now)+(t j).rt*2^((t j).tr+1):Nat):Int)) rfl rfl (by kernel_rfl) rfl (fun _ M=>addI .i64 _ _ _ _ _ _ _ rfl rfl rfl (by rw [xw6]; omega) _) (by kernel_rfl) (by kernel_rfl) (by kernel_rfl) (by kernel_rfl) (fun _ _ _ h=>h) M ?_; simp only [aP,lI,l0,lS]
          refine xqC 12 37 rfl (.pointer (some ⟨R,j*12,none⟩)) (fun _=>(by kernel_rfl)) M ?_; refine readC (i:=13) (some 38) rfl (.pointer (some ⟨R,j*12+11,none⟩)) rfl rfl (by kernel_rfl) rfl (fun _ M=>(by kernel_rfl)) (by kernel_rfl) (by kernel_rfl) (by kernel_rfl) (by kernel_rfl) (fun _ _ _ h=>h) M ?_; simp only [aP,lI,l0,lS]
          have hM2:=M.set (j*12+11) (by rw [tcs_len]; omega) (.int .i64 (((pmom now)+(t j).rt*2^((t j).tr+1):Nat):Int))
          rw [tcs_set (pput (pdP t (pmom now) j) j ({ t j with tr:=(t j).tr+1 })) hj2 11 (by decide) ({ t j with tr:=(t j).tr+1,nx:=((pmom now)+(t j).rt*2^((t j).tr+1)) }) (.int .i64 (((pmom now)+(t j).rt*2^((t j).tr+1):Nat):Int)) (by rw [pput_same,pcz_new (p:={ t j with tr:=(t j).tr+1 }) hs,pcz_new (p:={ t j with tr:=(t j).tr+1,nx:=((pmom now)+(t j).rt*2^((t j).tr+1)) }) hs]; rfl)] at hM2
          refine skipC (S2:=fun _=>True) none rfl (by kernel_rfl) rfl rfl (storeAny (.int .i64 (((pmom now)+(t j).rt*2^((t j).tr+1):Nat):Int)) R (j*12+11) 3 _ _ rfl rfl rfl rfl rfl (M.isSome mS (j*12+11) (by rw [tcs_len]; omega)) (M.free mS (j*12+11) (by rw [tcs_len]; omega)) (by kernel_rfl)) (by kernel_rfl) ?_; simp only [Act.put]; clear M; have M:=hM2; clear hM2
          replace hwz:=xnT hwz (Off.size ((Off.refl [R] _).set (b:=R) mS (j*12+11) (.int .i64 (((pmom now)+(t j).rt*2^((t j).tr+1):Nat):Int)))); replace OF:=OF.trans ((Off.refl [R] _).set (b:=R) mS (j*12+11) (.int .i64 (((pmom now)+(t j).rt*2^((t j).tr+1):Nat):Int)))
          replace V_l:=ownsRow_off V_l ((Off.refl [R] _).set (b:=R) mS (j*12+11) (.int .i64 (((pmom now)+(t j).rt*2^((t j).tr+1):Nat):Int))) (fun x_ hx_ e_=>by have h1_:=xm1 hx_; have h2_:=(World.ownsRow.lt V_l _ e_).1; omega); generalize w4.setCell ⟨R,j*12+11,none⟩ (.int .i64 (((pmom now)+(t j).rt*2^((t j).tr+1):Nat):Int))=w5 at M hwz OF V_l ⊢
          replace M:Mm w0 ((R,tcs (pput (pput (pdP t (pmom now) j) j ({ t j with tr:=(t j).tr+1 })) j ({ t j with tr:=(t j).tr+1,nx:=((pmom now)+(t j).rt*2^((t j).tr+1)) })))::l) w5:=M
          refine wpAnyH_done (by kernel_rfl) ?_ _
          first | show Exit.then _ _ _ _ _ | show Exit.inBlock _ _ _ _ _
          go_upto_region 9 with fail; refine wp_region_list ?_; refine xpL (.slice sq ((plP t (pmom now) j).length) cq) ?_; refine xpL (.int .i64 ((j:Nat):Int)) ?_; have hlb:=(Below.refl w5.heap.size w5).alloc (xnR _) (.cells (row .i64 [((j:Nat):Int)].length (bl [((j:Nat):Int)])).toArray 3); have S_n:=SrcI.lit w5 [((j:Nat):Int)] (show 1≤16 by decide)
          refine actL (w':=w5.alloc (.cells (row .i64 [((j:Nat):Int)].length (bl [((j:Nat):Int)])).toArray 3)) (.slice (some ⟨w5.heap.size,0,none⟩) 1 1) rfl (by kernel_rfl) ?_; simp only [aP,lI,l0,lS]; replace M:=M.call hlb; replace hwz:=xnT hwz hlb.size; replace OF:=OF.below hlb; replace V_l:=Own.below V_l hlb; clear hlb
          generalize w5.alloc (.cells (row .i64 [((j:Nat):Int)].length (bl [((j:Nat):Int)])).toArray 3)=w6 at M S_n hwz OF V_l ⊢; generalize (some ⟨w5.heap.size,0,none⟩:Option Addr)=pn at S_n ⊢
          obtain ⟨v_,w7,hr,O2,hgr,_⟩:=run_append_Own (P:=Try.prog) (ty:=38) Try.underlying38 one64 V_l pn 1 1 (bl [((j:Nat):Int)]) S_n (fun e=>by obtain ⟨_,h,_⟩:=S_n 0 Nat.zero_lt_one; rw [e] at h; cases h) (by unfold maxLen; omega) (by omega) hwz
          have hzb:=fun b hb=>(World.ownsRow.lt V_l b hb).1; replace M:=M.grownN hgr (fun b hb=>⟨by have:=hzb b hb; omega,fun p_ hp_=>by have h1_:=hlt0 _ p_ hp_; have h2_:=hzb b hb; omega⟩); replace OF:=OF.grown hgr (fun b_ hb_=>.inr (hzb b_ hb_)); replace hwz:=xnT hwz hgr.size; refine xaL v_ (appendOp _ _ 38 _ _ _ rfl rfl rfl hr) ?_
          replace O2:OwnI w7 w.heap.size ((plP t (pmom now) j)++[((j:Nat):Int)]) v_:=OwnI.app O2
          clear hr hgr V_l S_n hzb; have V_l:=O2; clear O2
          obtain ⟨sq2,cq2,rfl,_⟩:=V_l.isSlice
          refine xpL (.slice sq2 (((plP t (pmom now) j)++[((j:Nat):Int)]).length) cq2) ?_; refine xT ?_
          rw [pput_pput] at M
          have hdw:pdw t (pmom now) j=true:=decide_eq_true ⟨hs,by omega⟩
          have hdt:pdt t (pmom now) j={ t j with tr:=(t j).tr+1,nx:=((pmom now)+(t j).rt*2^((t j).tr+1)) }:=by unfold pdt; rw [if_pos hdw,if_neg htr]
          have hT9:(pdP t (pmom now) (j+1))=pput (pdP t (pmom now) j) j { t j with tr:=(t j).tr+1,nx:=((pmom now)+(t j).rt*2^((t j).tr+1)) }:=by rw [pdP_next,hdt]
          have hL9:(plP t (pmom now) (j+1))=((plP t (pmom now) j)++[((j:Nat):Int)]):=plP_yes hdw htr
          rw [← hT9] at M
          rw [← hL9] at V_l ⊢
          have HS:=show Hid _ from (show Mm w0 ((R,tcs (pdP t (pmom now) (j+1)))::l) w7∧Off [R] w w7∧OwnI w7 w.heap.size (plP t (pmom now) (j+1)) (.slice sq2 (plP t (pmom now) (j+1)).length cq2)∧w.heap.size≤w7.heap.size from ⟨M,OF,V_l,hwz⟩); clear M OF V_l hwz hT9 hL9 hdw hdt; go_wp2
          go_roundw
          case rel=>exact ⟨j+1,sq2,cq2,by omega,rfl,by go_num,HS.out⟩
          case measure=>simp [intOf]; omega
    · go_upto_region 10 with fail
      refine wp_region_list ?_; refine xpL (.pointer (some ⟨R,j*12,none⟩)) ?_; refine xpL (.pointer (some ⟨R,j*12,none⟩)) ?_; refine xpL (.pointer (some ⟨R,j*12+0,none⟩)) ?_; refine readL (.int .i64 (((t j).st:Nat):Int)) rfl (load1 3 _ ⟨R,j*12+0,none⟩ _ rfl rfl (fun _=>by kernel_rfl) ((Tat.atP (Tat.of M mS) hj2) 0 _ rfl)) ?_; simp only [aP,lI,l0,lS]
      refine xaL (.bool true) (neqI .i64 _ _ _ _ _ _ rfl rfl rfl true (bne_iff_ne.2 (by omega)) _) ?_; refine xpL (.bool true) ?_
      with_reducible refine skipL ?_ ?_
      · rfl
      simp only [aP,lI,l0,lS]
      with_reducible refine skipL ?_ ?_
      · rfl
      simp only [aP,lI,l0,lS]
      with_reducible refine skipL ?_ ?_
      · rfl
      simp only [aP,lI,l0,lS]
      with_reducible refine skipL ?_ ?_
      · rfl
      simp only [aP,lI,l0,lS]
      with_reducible refine skipL ?_ ?_
      · rfl
      simp only [aP,lI,l0,lS]
      with_reducible refine skipL ?_ ?_
      · rfl
      simp only [aP,lI,l0,lS]; refine xpL (.bool true) ?_; refine xpL (.bool true) ?_; refine xT ?_
      have hT9:(pdP t (pmom now) (j+1))=(pdP t (pmom now) j):=pdP_skip hs
      have hL9:(plP t (pmom now) (j+1))=(plP t (pmom now) j):=plP_no fun g_=>hs (of_decide_eq_true g_.1).1
      rw [← hT9] at M
      rw [← hL9] at V_l ⊢
      have HS:=show Hid _ from (show Mm w0 ((R,tcs (pdP t (pmom now) (j+1)))::l) wr∧Off [R] w wr∧OwnI wr w.heap.size (plP t (pmom now) (j+1)) (.slice sq (plP t (pmom now) (j+1)).length cq)∧w.heap.size≤wr.heap.size from ⟨M,OF,V_l,hwz⟩); clear M OF V_l hwz hT9 hL9; go_wp2
      go_roundw
      case rel=>exact ⟨j+1,sq,cq,by omega,rfl,by go_num,HS.out⟩
      case measure=>simp [intOf]; omega
  · obtain rfl:j=256:=by omega
    rw [pdP_all hW] at M
    rw [plP_all] at V_l ⊢
    go_upto_region 4 with fail; refine wp_region_list ?_; refine xaL (.bool false) (lssI .i64 _ _ _ _ _ _ rfl rfl rfl false (decide_eq_false (by omega)) _) ?_; refine xT ?_; go_upto_region 14 with fail; refine wp_region_list ?_; refine xpL (.slice sq ((pdl t (pmom now)).length) cq) ?_; refine xpL (.slice sq ((pdl t (pmom now)).length) cq) ?_; refine xT ?_; have hNI:=NewI.of_own V_l
    have hoq:∀ b_∈ob sq,w.heap.size≤b_∧b_<wr.heap.size:=fun b_ hb_=>World.ownsRow.lt V_l b_ ((ob_own _ _ _ b_).2 hb_)
    have M2:Mm w0 (obs sq++((R,tcs (pdt t (pmom now)))::l)) wr:=by
     rcases sq with _ | a_
     · exact M
     · have h1_:=hoq a_.block mS
       exact M.addB (by omega) h1_.2 (fun p_ hp_ e_=>by
        have h2_:p_.1<w.heap.size:=hlt0 _ p_ hp_
        omega)
    have M3:=M2.perm (pull0 [(R,tcs (pdt t (pmom now)))] (obs sq) l).symm; have HS:=show Hid _ from (And.intro hNI (And.intro M3 OF)); clear M M2 M3 OF V_l hNI hoq; go_wp2; go_ret
    first | exact ⟨sq,cq,rfl,HS.out⟩ | exact ⟨_,_,rfl,HS.out⟩
theorem vliv20_any (w:World) (R:Nat) (t:Ptb) (hT:Tat w R t) :
 Calls Try.prog 26 #[.pointer (some ⟨R,0,none⟩)] w fun e w'=>∃ sq cq,e=.returned (.slice sq (prow t 2).length cq)∧NewI w' w.heap.size (prow t 2) (.slice sq (prow t 2).length cq)∧Below w.heap.size w w':=by
 have M:=Mm.init w; have hwz:=xnR w.heap.size
 go_enter Try.func26,Try.ntmps26
 go_upto_region 0 with fail; refine wp_region_list ?_; refine xpL (.slice none 0 0) ?_; refine xT ?_; go_upto_region 1 with fail; refine wp_region_list ?_; refine xpL (.slice none 0 0) ?_; refine xT ?_; go_upto_region 2 with fail; refine wp_region_list ?_; refine xpL (.int .i64 0) ?_; refine xT ?_
 have HI:=show Hid _ from (show OwnI w w.heap.size (prowP t 2 0) (.slice none (prowP t 2 0).length 0)∧Below w.heap.size w w from ⟨⟨rfl,.inl ⟨rfl,rfl⟩⟩,M.below⟩); clear M hwz; go_wp2
 go_loopw [3,5] (fun l_ v_ w'=>∃ (j:Nat) (sq:Option Addr) (cq:Nat),j≤256∧l_=.slice sq (prowP t 2 j).length cq∧v_=.int .i64 ((j:Nat):Int)∧OwnI w' w.heap.size (prowP t 2 j) (.slice sq (prowP t 2 j).length cq)∧Below w.heap.size w w') (fun _ v_ _=>256-(intOf v_).toNat)
 case atStart=>exact ⟨0,none,0,by omega,rfl,rfl,HI.out⟩
 case round =>
  clear HI
  obtain ⟨j,sq,cq,hj,rfl,rfl,V_l,hB⟩:=hrel
  have M:=(Mm.init w).call hB; have hwz:=hB.size; clear hB; have hpl:=prowP_le t 2 j
  by_cases hj2:j<256
  · go_upto_region 3 with fail
    refine wp_region_list ?_; refine xaL (.bool true) (lssI .i64 _ _ _ _ _ _ rfl rfl rfl true (decide_eq_true (by omega)) _) ?_; refine xT ?_; go_upto_region 4 with fail; refine wp_region_list ?_; refine xpL (.int .i64 ((j:Nat):Int)) ?_; refine xpL (.int .i64 ((j:Nat):Int)) ?_; refine xT ?_
    by_cases he:(t j).st=2
    · go_upto_region 5 with fail
      refine wp_region_list ?_; refine xpL (.pointer (some ⟨R,0,none⟩)) ?_; refine xpL (.int .i64 ((j:Nat):Int)) ?_; refine xpL (.pointer (some ⟨R,0,none⟩)) ?_; refine xpL (.pointer (some ⟨R,0,none⟩)) ?_; refine xaL (.pointer (some ⟨R,j*12,none⟩)) (idxP12 R j hj2 _ _ rfl rfl rfl _) ?_; refine xpL (.pointer (some ⟨R,j*12+0,none⟩)) ?_
      refine readL (.int .i64 (((t j).st:Nat):Int)) rfl (load1 3 _ ⟨R,j*12+0,none⟩ _ rfl rfl (fun _=>by kernel_rfl) (((hT j hj2).below M.below) 0 _ rfl)) ?_; simp only [aP,lI,l0,lS]; refine xaL (.bool true) (eqlI .i64 _ _ _ _ _ _ rfl rfl rfl true (beq_iff_eq.2 (by omega)) _) ?_; refine xT ?_; go_upto_region 6 with fail; refine wp_region_list ?_
      refine xpL (.slice sq ((prowP t 2 j).length) cq) ?_; refine xpL (.int .i64 ((j:Nat):Int)) ?_; have hlb:=(Below.refl wr.heap.size wr).alloc (xnR _) (.cells (row .i64 [((j:Nat):Int)].length (bl [((j:Nat):Int)])).toArray 3); have S_n:=SrcI.lit wr [((j:Nat):Int)] (show 1≤16 by decide)
      refine actL (w':=wr.alloc (.cells (row .i64 [((j:Nat):Int)].length (bl [((j:Nat):Int)])).toArray 3)) (.slice (some ⟨wr.heap.size,0,none⟩) 1 1) rfl (by kernel_rfl) ?_; simp only [aP,lI,l0,lS]; replace M:=M.call hlb; replace hwz:=xnT hwz hlb.size; replace V_l:=Own.below V_l hlb; clear hlb
      generalize wr.alloc (.cells (row .i64 [((j:Nat):Int)].length (bl [((j:Nat):Int)])).toArray 3)=w1 at M S_n hwz V_l ⊢; generalize (some ⟨wr.heap.size,0,none⟩:Option Addr)=pn at S_n ⊢
      obtain ⟨v_,w2,hr,O2,hgr,_⟩:=run_append_Own (P:=Try.prog) (ty:=38) Try.underlying38 one64 V_l pn 1 1 (bl [((j:Nat):Int)]) S_n (fun e=>by obtain ⟨_,h,_⟩:=S_n 0 Nat.zero_lt_one; rw [e] at h; cases h) (by unfold maxLen; omega) (by omega) hwz
      have hzb:=fun b hb=>(World.ownsRow.lt V_l b hb).1; replace M:=M.grownN hgr (fun b hb=>⟨by have:=hzb b hb; omega,fun _ h_=>by cases h_⟩); replace hwz:=xnT hwz hgr.size; refine xaL v_ (appendOp _ _ 38 _ _ _ rfl rfl rfl hr) ?_
      replace O2:OwnI w2 w.heap.size ((prowP t 2 j)++[((j:Nat):Int)]) v_:=OwnI.app O2
      clear hr hgr V_l S_n hzb; have V_l:=O2; clear O2
      obtain ⟨sq2,cq2,rfl,_⟩:=V_l.isSlice
      refine xpL (.slice sq2 (((prowP t 2 j)++[((j:Nat):Int)]).length) cq2) ?_; refine xT ?_
      rw [← prowP_yes (t:=t) (s:=2) (n:=j) he] at V_l ⊢
      have HS:=show Hid _ from (show OwnI w2 w.heap.size (prowP t 2 (j+1)) (.slice sq2 (prowP t 2 (j+1)).length cq2)∧Below w.heap.size w w2 from ⟨V_l,M.below⟩); clear M V_l hwz; go_wp2
      go_roundw
      case rel=>exact ⟨j+1,sq2,cq2,by omega,rfl,by go_num,HS.out⟩
      case measure=>simp [intOf]; omega
    · go_upto_region 5 with fail
      refine wp_region_list ?_; refine xpL (.pointer (some ⟨R,0,none⟩)) ?_; refine xpL (.int .i64 ((j:Nat):Int)) ?_; refine xpL (.pointer (some ⟨R,0,none⟩)) ?_; refine xpL (.pointer (some ⟨R,0,none⟩)) ?_; refine xaL (.pointer (some ⟨R,j*12,none⟩)) (idxP12 R j hj2 _ _ rfl rfl rfl _) ?_; refine xpL (.pointer (some ⟨R,j*12+0,none⟩)) ?_
      refine readL (.int .i64 (((t j).st:Nat):Int)) rfl (load1 3 _ ⟨R,j*12+0,none⟩ _ rfl rfl (fun _=>by kernel_rfl) (((hT j hj2).below M.below) 0 _ rfl)) ?_; simp only [aP,lI,l0,lS]; refine xaL (.bool false) (eqlI .i64 _ _ _ _ _ _ rfl rfl rfl false (beq_eq_false_iff_ne.2 (by omega)) _) ?_; refine xT ?_
      rw [← prowP_no (t:=t) (s:=2) (n:=j) he] at V_l ⊢
      have HS:=show Hid _ from (show OwnI wr w.heap.size (prowP t 2 (j+1)) (.slice sq (prowP t 2 (j+1)).length cq)∧Below w.heap.size w wr from ⟨V_l,M.below⟩); clear M V_l hwz; go_wp2
      go_roundw
      case rel=>exact ⟨j+1,sq,cq,by omega,rfl,by go_num,HS.out⟩
      case measure=>simp [intOf]; omega
  · obtain rfl:j=256:=by omega
    rw [prowP_all] at V_l ⊢
    go_upto_region 3 with fail; refine wp_region_list ?_; refine xaL (.bool false) (lssI .i64 _ _ _ _ _ _ rfl rfl rfl false (decide_eq_false (by omega)) _) ?_; refine xT ?_; go_upto_region 8 with fail; refine wp_region_list ?_; refine xpL (.slice sq ((prow t 2).length) cq) ?_; refine xpL (.slice sq ((prow t 2).length) cq) ?_; refine xT ?_
    have HS:=show Hid _ from (And.intro (NewI.of_own V_l) M.below); clear M V_l; go_wp2; go_ret
    first | exact ⟨sq,cq,rfl,HS.out⟩ | exact ⟨rfl,sq,cq,HS.out⟩
theorem vans20_any (w0 w:World) (R:Nat) (l:List (Nat × List Value)) (t:Ptb) (hW:PtbW t) (M:Mm w0 ((R,tcs t)::l) w) (id:Int) (tk:Nat→Int) :
 Calls Try.prog 17 #[.pointer (some ⟨R,0,none⟩),.int .i64 id,.agg #[.int .u8 (tk 0),.int .u8 (tk 1),.int .u8 (tk 2),.int .u8 (tk 3),.int .u8 (tk 4),.int .u8 (tk 5),.int .u8 (tk 6),.int .u8 (tk 7)]] w fun e w'=>e=.returned (.bool (pans t id tk))∧Mm w0 ((R,tcs (pant t id tk))::l) w'∧Off [R] w w':=by
 have OF:=Off.refl [R] w; have hwz:=xnR w.heap.size; have hRw:=M.lt mS
 go_enter Try.func17,Try.ntmps17
 go_upto_region 0 with fail; refine wp_region_list ?_; have hlb:=(Below.refl w.heap.size w).alloc (xnR _) (.cells #[.int .u8 (tk 0),.int .u8 (tk 1),.int .u8 (tk 2),.int .u8 (tk 3),.int .u8 (tk 4),.int .u8 (tk 5),.int .u8 (tk 6),.int .u8 (tk 7)] 30)
 refine actL (w':=w.alloc (.cells #[.int .u8 (tk 0),.int .u8 (tk 1),.int .u8 (tk 2),.int .u8 (tk 3),.int .u8 (tk 4),.int .u8 (tk 5),.int .u8 (tk 6),.int .u8 (tk 7)] 30)) (.pointer (some ⟨w.heap.size,0,none⟩)) rfl (by kernel_rfl) ?_; simp only [aP,lI,l0,lS]; replace OF:=OF.below hlb; have hB_:=M.below.size; have hW_:=hwz; replace hwz:=xnT hwz hlb.size
 replace M:=M.box #[.int .u8 (tk 0),.int .u8 (tk 1),.int .u8 (tk 2),.int .u8 (tk 3),.int .u8 (tk 4),.int .u8 (tk 5),.int .u8 (tk 6),.int .u8 (tk 7)] 30 w.heap.size rfl; clear hlb; generalize w.alloc (.cells #[.int .u8 (tk 0),.int .u8 (tk 1),.int .u8 (tk 2),.int .u8 (tk 3),.int .u8 (tk 4),.int .u8 (tk 5),.int .u8 (tk 6),.int .u8 (tk 7)] 30)=w1 at M hwz OF ⊢
 generalize eB_:w.heap.size=B1 at M ⊢
 have hB_B1:w0.heap.size≤B1:=by rw [← eB_]; exact hB_
 have hW_B1:w.heap.size≤B1:=by rw [← eB_]; exact hW_
 have hF_B1:w.heap.size=B1:=eB_
 clear hB_ hW_ eB_
 replace M:Mm w0 ((B1,[.int .u8 (tk 0),.int .u8 (tk 1),.int .u8 (tk 2),.int .u8 (tk 3),.int .u8 (tk 4),.int .u8 (tk 5),.int .u8 (tk 6),.int .u8 (tk 7)])::(R,tcs t)::l) w1:=M
 refine xpL (.bool false) ?_; refine xT ?_; go_upto_region 1 with fail; refine wp_region_list ?_; refine xpL (.pointer (some ⟨R,0,none⟩)) ?_; refine xpL (.int .i64 id) ?_; have key:=vat20_any w1 R t hW (Tat.of M (mT _ mS)) id; refine xcL key ?_; clear key; rintro e w2 ⟨Ba,oa,rfl,P_a,hRa,l_⟩; replace M:=M.call l_; replace OF:=OF.below l_; replace hwz:=xnT hwz l_.size; clear l_
 refine xeL ?_; refine xpL (.pointer (some ⟨Ba,oa,none⟩)) ?_; refine xT ?_
 by_cases hs:(t (pix id)).st=1
 · by_cases hpe:peq (pzk (t (pix id))) tk=true
   · go_upto_region 2 with fail
     have hdr:=(Below.refl w2.heap.size w2).drew; replace M:=M.drew; replace hwz:=xnT hwz hdr.size; replace OF:=OF.below hdr; replace P_a:=P_a.below hdr; clear hdr
     refine wp_region_held_drew (S:=fun w'=>Mm w0 ((B1,[.int .u8 (tk 0),.int .u8 (tk 1),.int .u8 (tk 2),.int .u8 (tk 3),.int .u8 (tk 4),.int .u8 (tk 5),.int .u8 (tk 6),.int .u8 (tk 7)])::(R,tcs t)::l) w'∧Pat w' Ba oa (t (pix id))) (by kernel_rfl) ⟨M,P_a⟩ ?_; intro _; generalize w2.drew=w5 at M hwz OF P_a ⊢
     refine xrH 0 11 rfl (.pointer (some ⟨Ba,oa,none⟩)) (fun _ ⟨M,P_a⟩=>(by kernel_rfl)) ⟨M,P_a⟩ ?_; refine xrH 1 12 rfl (.pointer (some ⟨Ba,oa,none⟩)) (fun _ ⟨M,P_a⟩=>(by kernel_rfl)) ⟨M,P_a⟩ ?_; refine xrH 2 13 rfl (.pointer (some ⟨Ba,oa+0,none⟩)) (fun _ ⟨M,P_a⟩=>(by kernel_rfl)) ⟨M,P_a⟩ ?_
     refine xrH 3 14 rfl (.int .i64 (((t (pix id)).st:Nat):Int)) (fun _ ⟨M,P_a⟩=>load1 3 _ ⟨Ba,oa+0,none⟩ _ rfl rfl (fun _=>by kernel_rfl) (P_a 0 _ rfl)) ⟨M,P_a⟩ ?_; refine xrH 4 15 rfl (.bool false) (fun _ ⟨M,P_a⟩=>neqI .i64 _ _ _ _ _ _ rfl rfl rfl false (by rw [bne_eq_false_iff_eq]; omega) _) ⟨M,P_a⟩ ?_
     refine xrH 5 16 rfl (.bool false) (fun _ ⟨M,P_a⟩=>(by kernel_rfl)) ⟨M,P_a⟩ ?_; refine xrH 6 17 rfl (.pointer (some ⟨Ba,oa,none⟩)) (fun _ ⟨M,P_a⟩=>(by kernel_rfl)) ⟨M,P_a⟩ ?_; refine xrH 7 18 rfl (.pointer (some ⟨Ba,oa,none⟩)) (fun _ ⟨M,P_a⟩=>(by kernel_rfl)) ⟨M,P_a⟩ ?_; refine xrH 8 19 rfl (.pointer (some ⟨Ba,oa+2,none⟩)) (fun _ ⟨M,P_a⟩=>(by kernel_rfl)) ⟨M,P_a⟩ ?_
     refine xrH 9 20 rfl (.agg #[.int .u8 ((pzk (t (pix id))) 0),.int .u8 ((pzk (t (pix id))) 1),.int .u8 ((pzk (t (pix id))) 2),.int .u8 ((pzk (t (pix id))) 3),.int .u8 ((pzk (t (pix id))) 4),.int .u8 ((pzk (t (pix id))) 5),.int .u8 ((pzk (t (pix id))) 6),.int .u8 ((pzk (t (pix id))) 7)]) (fun _ ⟨M,P_a⟩=>loadN 30 _ ⟨Ba,oa+2,none⟩ [.int .u8 ((pzk (t (pix id))) 0),.int .u8 ((pzk (t (pix id))) 1),.int .u8 ((pzk (t (pix id))) 2),.int .u8 ((pzk (t (pix id))) 3),.int .u8 ((pzk (t (pix id))) 4),.int .u8 ((pzk (t (pix id))) 5),.int .u8 ((pzk (t (pix id))) 6),.int .u8 ((pzk (t (pix id))) 7)] rfl rfl (fun _=>by kernel_rfl) (fun _=>by kernel_rfl) P_a.tok) ⟨M,P_a⟩ ?_
     refine xrH 10 21 rfl (.agg #[.int .u8 (tk 0),.int .u8 (tk 1),.int .u8 (tk 2),.int .u8 (tk 3),.int .u8 (tk 4),.int .u8 (tk 5),.int .u8 (tk 6),.int .u8 (tk 7)]) (fun _ ⟨M,P_a⟩=>loadN 30 _ ⟨B1,0,none⟩ [.int .u8 (tk 0),.int .u8 (tk 1),.int .u8 (tk 2),.int .u8 (tk 3),.int .u8 (tk 4),.int .u8 (tk 5),.int .u8 (tk 6),.int .u8 (tk 7)] rfl rfl (fun _=>by kernel_rfl) (fun _=>by kernel_rfl) (M.rangeAt mS)) ⟨M,P_a⟩ ?_
     refine xrH 11 22 rfl (.bool false) (fun _ ⟨M,P_a⟩=>(by rw [show (Value.bool false)=.bool (!peq (pzk (t (pix id))) tk) by rw [hpe]; rfl]; exact neqT8 (pzk (t (pix id))) tk _ _ rfl rfl rfl _)) ⟨M,P_a⟩ ?_
     refine xrH 12 23 rfl (.bool false) (fun _ ⟨M,P_a⟩=>(by kernel_rfl)) ⟨M,P_a⟩ ?_
     refine wpAnyH_done (by kernel_rfl) ?_ _
     first | show Exit.then _ _ _ _ _ | show Exit.inBlock _ _ _ _ _
     obtain ⟨hb_,ho_,hk⟩:Ba=R∧oa=pix id*12∧pix id<256:=by
      rcases hRa with h_ | h_
      · exact h_
      · rw [h_.2,hW.z 256 (by omega)] at hs
        exact absurd hs (by decide)
     replace hb_:=hb_.symm; subst hb_; subst ho_; go_upto_region 4 with fail; refine wp_region_list ?_; refine xpL (.pointer (some ⟨R,pix id*12,none⟩)) ?_; replace M:=M.swap; have key:=vbec20_any w0 w5 R ((B1,[.int .u8 (tk 0),.int .u8 (tk 1),.int .u8 (tk 2),.int .u8 (tk 3),.int .u8 (tk 4),.int .u8 (tk 5),.int .u8 (tk 6),.int .u8 (tk 7)])::l) t M (pix id) hk 2 (by decide)
     refine xcL key ?_; clear key; rintro e w6 ⟨rfl,M',o1⟩; clear M P_a; have M:=M'; replace OF:=OF.trans o1; clear M' o1 hwz; refine xeL ?_; refine xT ?_; go_upto_region 5 with fail; refine wp_region_list ?_; refine xpL (.bool true) ?_; refine xT ?_
     have hpz:pzk (t (pix id))=(t (pix id)).tk:=if_pos hs
     have hE:=show Hid _ from (show pans t id tk=true from (by unfold pans; rw [← hpz,hpe,decide_eq_true hs]; rfl))
     have HS:=show Hid _ from (show Mm w0 ((R,tcs (pant t id tk))::l) w6∧Off [R] w w6 from by
      rw [show pant t id tk=pput t (pix id) { (t (pix id)) with st:=2 } from if_pos hE.out]
      exact ⟨M.drop2,OF⟩)
     clear M OF; go_wp2; go_ret
     exact ⟨by rw [hE.out]; try rfl,HS.out⟩
   · rw [Bool.not_eq_true] at hpe
     go_upto_region 2 with fail; have hdr:=(Below.refl w2.heap.size w2).drew; replace M:=M.drew; replace hwz:=xnT hwz hdr.size; replace OF:=OF.below hdr; replace P_a:=P_a.below hdr; clear hdr
     refine wp_region_held_drew (S:=fun w'=>Mm w0 ((B1,[.int .u8 (tk 0),.int .u8 (tk 1),.int .u8 (tk 2),.int .u8 (tk 3),.int .u8 (tk 4),.int .u8 (tk 5),.int .u8 (tk 6),.int .u8 (tk 7)])::(R,tcs t)::l) w'∧Pat w' Ba oa (t (pix id))) (by kernel_rfl) ⟨M,P_a⟩ ?_; intro _; generalize w2.drew=w4 at M hwz OF P_a ⊢
     refine xrH 0 11 rfl (.pointer (some ⟨Ba,oa,none⟩)) (fun _ ⟨M,P_a⟩=>(by kernel_rfl)) ⟨M,P_a⟩ ?_; refine xrH 1 12 rfl (.pointer (some ⟨Ba,oa,none⟩)) (fun _ ⟨M,P_a⟩=>(by kernel_rfl)) ⟨M,P_a⟩ ?_; refine xrH 2 13 rfl (.pointer (some ⟨Ba,oa+0,none⟩)) (fun _ ⟨M,P_a⟩=>(by kernel_rfl)) ⟨M,P_a⟩ ?_
     refine xrH 3 14 rfl (.int .i64 (((t (pix id)).st:Nat):Int)) (fun _ ⟨M,P_a⟩=>load1 3 _ ⟨Ba,oa+0,none⟩ _ rfl rfl (fun _=>by kernel_rfl) (P_a 0 _ rfl)) ⟨M,P_a⟩ ?_; refine xrH 4 15 rfl (.bool false) (fun _ ⟨M,P_a⟩=>neqI .i64 _ _ _ _ _ _ rfl rfl rfl false (by rw [bne_eq_false_iff_eq]; omega) _) ⟨M,P_a⟩ ?_
     refine xrH 5 16 rfl (.bool false) (fun _ ⟨M,P_a⟩=>(by kernel_rfl)) ⟨M,P_a⟩ ?_; refine xrH 6 17 rfl (.pointer (some ⟨Ba,oa,none⟩)) (fun _ ⟨M,P_a⟩=>(by kernel_rfl)) ⟨M,P_a⟩ ?_; refine xrH 7 18 rfl (.pointer (some ⟨Ba,oa,none⟩)) (fun _ ⟨M,P_a⟩=>(by kernel_rfl)) ⟨M,P_a⟩ ?_; refine xrH 8 19 rfl (.pointer (some ⟨Ba,oa+2,none⟩)) (fun _ ⟨M,P_a⟩=>(by kernel_rfl)) ⟨M,P_a⟩ ?_
     refine xrH 9 20 rfl (.agg #[.int .u8 ((pzk (t (pix id))) 0),.int .u8 ((pzk (t (pix id))) 1),.int .u8 ((pzk (t (pix id))) 2),.int .u8 ((pzk (t (pix id))) 3),.int .u8 ((pzk (t (pix id))) 4),.int .u8 ((pzk (t (pix id))) 5),.int .u8 ((pzk (t (pix id))) 6),.int .u8 ((pzk (t (pix id))) 7)]) (fun _ ⟨M,P_a⟩=>loadN 30 _ ⟨Ba,oa+2,none⟩ [.int .u8 ((pzk (t (pix id))) 0),.int .u8 ((pzk (t (pix id))) 1),.int .u8 ((pzk (t (pix id))) 2),.int .u8 ((pzk (t (pix id))) 3),.int .u8 ((pzk (t (pix id))) 4),.int .u8 ((pzk (t (pix id))) 5),.int .u8 ((pzk (t (pix id))) 6),.int .u8 ((pzk (t (pix id))) 7)] rfl rfl (fun _=>by kernel_rfl) (fun _=>by kernel_rfl) P_a.tok) ⟨M,P_a⟩ ?_
     refine xrH 10 21 rfl (.agg #[.int .u8 (tk 0),.int .u8 (tk 1),.int .u8 (tk 2),.int .u8 (tk 3),.int .u8 (tk 4),.int .u8 (tk 5),.int .u8 (tk 6),.int .u8 (tk 7)]) (fun _ ⟨M,P_a⟩=>loadN 30 _ ⟨B1,0,none⟩ [.int .u8 (tk 0),.int .u8 (tk 1),.int .u8 (tk 2),.int .u8 (tk 3),.int .u8 (tk 4),.int .u8 (tk 5),.int .u8 (tk 6),.int .u8 (tk 7)] rfl rfl (fun _=>by kernel_rfl) (fun _=>by kernel_rfl) (M.rangeAt mS)) ⟨M,P_a⟩ ?_
     refine xrH 11 22 rfl (.bool true) (fun _ ⟨M,P_a⟩=>(by rw [show (Value.bool true)=.bool (!peq (pzk (t (pix id))) tk) by rw [hpe]; rfl]; exact neqT8 (pzk (t (pix id))) tk _ _ rfl rfl rfl _)) ⟨M,P_a⟩ ?_
     refine xrH 12 23 rfl (.bool true) (fun _ ⟨M,P_a⟩=>(by kernel_rfl)) ⟨M,P_a⟩ ?_
     refine wpAnyH_done (by kernel_rfl) ?_ _
     first | show Exit.then _ _ _ _ _ | show Exit.inBlock _ _ _ _ _
     go_upto_region 3 with fail; refine wp_region_list ?_; refine xpL (.bool false) ?_; refine xT ?_
     have hpz:pzk (t (pix id))=(t (pix id)).tk:=if_pos hs
     have hE:=show Hid _ from (show pans t id tk=false from (by unfold pans; rw [← hpz,hpe,Bool.and_false]))
     have HS:=show Hid _ from (show Mm w0 ((R,tcs (pant t id tk))::l) w4∧Off [R] w w4 from by
      rw [show pant t id tk=t from if_neg (by rw [hE.out]; decide)]
      exact ⟨M.tail,OF⟩)
     clear M OF P_a; go_wp2; go_ret
     exact ⟨by rw [hE.out]; try rfl,HS.out⟩
 · go_upto_region 2 with fail
   have hdr:=(Below.refl w2.heap.size w2).drew; replace M:=M.drew; replace hwz:=xnT hwz hdr.size; replace OF:=OF.below hdr; replace P_a:=P_a.below hdr; clear hdr
   refine wp_region_held_drew (S:=fun w'=>Mm w0 ((B1,[.int .u8 (tk 0),.int .u8 (tk 1),.int .u8 (tk 2),.int .u8 (tk 3),.int .u8 (tk 4),.int .u8 (tk 5),.int .u8 (tk 6),.int .u8 (tk 7)])::(R,tcs t)::l) w'∧Pat w' Ba oa (t (pix id))) (by kernel_rfl) ⟨M,P_a⟩ ?_; intro _; generalize w2.drew=w3 at M hwz OF P_a ⊢
   refine xrH 0 11 rfl (.pointer (some ⟨Ba,oa,none⟩)) (fun _ ⟨M,P_a⟩=>(by kernel_rfl)) ⟨M,P_a⟩ ?_; refine xrH 1 12 rfl (.pointer (some ⟨Ba,oa,none⟩)) (fun _ ⟨M,P_a⟩=>(by kernel_rfl)) ⟨M,P_a⟩ ?_; refine xrH 2 13 rfl (.pointer (some ⟨Ba,oa+0,none⟩)) (fun _ ⟨M,P_a⟩=>(by kernel_rfl)) ⟨M,P_a⟩ ?_
   refine xrH 3 14 rfl (.int .i64 (((t (pix id)).st:Nat):Int)) (fun _ ⟨M,P_a⟩=>load1 3 _ ⟨Ba,oa+0,none⟩ _ rfl rfl (fun _=>by kernel_rfl) (P_a 0 _ rfl)) ⟨M,P_a⟩ ?_; refine xrH 4 15 rfl (.bool true) (fun _ ⟨M,P_a⟩=>neqI .i64 _ _ _ _ _ _ rfl rfl rfl true (bne_iff_ne.2 (by omega)) _) ⟨M,P_a⟩ ?_; refine xrH 5 16 rfl (.bool true) (fun _ ⟨M,P_a⟩=>(by kernel_rfl)) ⟨M,P_a⟩ ?_
   refine mayH (i:=6) (some 17) rfl false undef undef rfl rfl rfl (fun hc=>by cases hc) (by kernel_rfl) (by kernel_rfl) (by kernel_rfl) (fun _ _ _ h=>h) ⟨M,P_a⟩ ?_; simp only [aP,lI,l0,lS]; refine mayH (i:=7) (some 18) rfl false undef undef rfl rfl rfl (fun hc=>by cases hc) (by kernel_rfl) (by kernel_rfl) (by kernel_rfl) (fun _ _ _ h=>h) ⟨M,P_a⟩ ?_; simp only [aP,lI,l0,lS]
   refine mayH (i:=8) (some 19) rfl false undef undef rfl rfl rfl (fun hc=>by cases hc) (by kernel_rfl) (by kernel_rfl) (by kernel_rfl) (fun _ _ _ h=>h) ⟨M,P_a⟩ ?_; simp only [aP,lI,l0,lS]; refine mayH (i:=9) (some 20) rfl false undef undef rfl rfl rfl (fun hc=>by cases hc) (by kernel_rfl) (by kernel_rfl) (by kernel_rfl) (fun _ _ _ h=>h) ⟨M,P_a⟩ ?_; simp only [aP,lI,l0,lS]
   refine mayH (i:=10) (some 21) rfl false undef undef rfl rfl rfl (fun hc=>by cases hc) (by kernel_rfl) (by kernel_rfl) (by kernel_rfl) (fun _ _ _ h=>h) ⟨M,P_a⟩ ?_; simp only [aP,lI,l0,lS]; refine mayH (i:=11) (some 22) rfl false undef undef rfl rfl rfl (fun hc=>by cases hc) (by kernel_rfl) (by kernel_rfl) (by kernel_rfl) (fun _ _ _ h=>h) ⟨M,P_a⟩ ?_; simp only [aP,lI,l0,lS]
   refine xrH 12 23 rfl (.bool true) (fun _ ⟨M,P_a⟩=>(by kernel_rfl)) ⟨M,P_a⟩ ?_
   refine wpAnyH_done (by kernel_rfl) ?_ _
   first | show Exit.then _ _ _ _ _ | show Exit.inBlock _ _ _ _ _
   go_upto_region 3 with fail; refine wp_region_list ?_; refine xpL (.bool false) ?_; refine xT ?_; have hE:=show Hid _ from (show pans t id tk=false from (by unfold pans; rw [decide_eq_false hs]; rfl))
   have HS:=show Hid _ from (show Mm w0 ((R,tcs (pant t id tk))::l) w3∧Off [R] w w3 from by
    rw [show pant t id tk=t from if_neg (by rw [hE.out]; decide)]
    exact ⟨M.tail,OF⟩)
   clear M OF P_a; go_wp2; go_ret
   exact ⟨by rw [hE.out]; try rfl,HS.out⟩
theorem vrem20_any (w0 w:World) (R:Nat) (l:List (Nat × List Value)) (t:Ptb) (hW:PtbW t) (M:Mm w0 ((R,tcs t)::l) w) (id:Int) :
 Calls Try.prog 19 #[.pointer (some ⟨R,0,none⟩),.int .i64 id] w fun e w'=>e=.returned (.int .i64 ((prE t id:Nat):Int))∧Mm w0 ((R,tcs (prm t id))::l) w'∧Off [R] w w':=by
 have OF:=Off.refl [R] w; have hwz:=xnR w.heap.size; have hRw:=M.lt mS
 go_enter Try.func19,Try.ntmps19
 go_upto_region 0 with fail; refine wp_region_list ?_; refine xpL (.int .i64 0) ?_; refine xT ?_; go_upto_region 1 with fail; refine wp_region_list ?_; refine xpL (.pointer (some ⟨R,0,none⟩)) ?_; refine xpL (.int .i64 id) ?_; have key:=vat20_any w R t hW (Tat.of M mS) id; refine xcL key ?_; clear key; rintro e w1 ⟨Ba,oa,rfl,P_a,hRa,l_⟩; replace M:=M.call l_; replace OF:=OF.below l_
 replace hwz:=xnT hwz l_.size; clear l_; refine xeL ?_; refine xpL (.pointer (some ⟨Ba,oa,none⟩)) ?_; refine xT ?_
 by_cases hs:(t (pix id)).st=1∨(t (pix id)).st=2
 · go_upto_region 2 with fail
   refine wp_region_list ?_; refine xpL (.pointer (some ⟨Ba,oa,none⟩)) ?_; have key_:=vop20_any w1 Ba oa (t (pix id)) P_a
   rw [show pis (t (pix id))=true from decide_eq_true hs] at key_
   have key:=key_; refine xcL key ?_; clear key; rintro e w3 ⟨rfl,l_⟩; replace M:=M.call l_; replace OF:=OF.below l_; replace P_a:=P_a.below l_; replace hwz:=xnT hwz l_.size; clear l_; refine xeL ?_; clear key_; refine xpL (.bool false) ?_; refine xT ?_
   obtain ⟨hb_,ho_,hk⟩:Ba=R∧oa=pix id*12∧pix id<256:=by
    rcases hRa with h_ | h_
    · exact h_
    · rw [h_.2,hW.z 256 (by omega)] at hs
      exact absurd hs (by decide)
   replace hb_:=hb_.symm; subst hb_; subst ho_; go_upto_region 4 with fail; refine wp_region_list ?_; refine xpL (.pointer (some ⟨R,pix id*12,none⟩)) ?_; have key:=vbec20_any w0 w3 R (l) t M (pix id) hk 3 (by decide); refine xcL key ?_; clear key; rintro e w4 ⟨rfl,M',o1⟩; clear M P_a; have M:=M'; replace OF:=OF.trans o1; clear M' o1 hwz; refine xeL ?_; refine xT ?_
   go_upto_region 5 with fail; refine wp_region_list ?_; refine xpL (.int .i64 0) ?_; refine xT ?_; have hE:=show Hid _ from (show prE t id=0 from if_pos hs)
   have HS:=show Hid _ from (show Mm w0 ((R,tcs (prm t id))::l) w4∧Off [R] w w4 from by
    rw [show prm t id=pput t (pix id) { (t (pix id)) with st:=3 } from if_pos hs]
    exact ⟨M,OF⟩)
   clear M OF; go_wp2; go_ret
   exact ⟨by rw [hE.out]; try rfl,HS.out⟩
 · go_upto_region 2 with fail
   refine wp_region_list ?_; refine xpL (.pointer (some ⟨Ba,oa,none⟩)) ?_; have key_:=vop20_any w1 Ba oa (t (pix id)) P_a
   rw [show pis (t (pix id))=false from decide_eq_false hs] at key_
   have key:=key_; refine xcL key ?_; clear key; rintro e w2 ⟨rfl,l_⟩; replace M:=M.call l_; replace OF:=OF.below l_; replace P_a:=P_a.below l_; replace hwz:=xnT hwz l_.size; clear l_; refine xeL ?_; clear key_; refine xpL (.bool true) ?_; refine xT ?_; go_upto_region 3 with fail; refine wp_region_list ?_; refine xpL (.int .i64 200) ?_; refine xT ?_
   have hE:=show Hid _ from (show prE t id=200 from if_neg hs)
   have HS:=show Hid _ from (show Mm w0 ((R,tcs (prm t id))::l) w2∧Off [R] w w2 from by
    rw [show prm t id=t from if_neg hs]
    exact ⟨M,OF⟩)
   clear M OF P_a; go_wp2; go_ret
   exact ⟨by rw [hE.out]; try rfl,HS.out⟩
theorem vsam20_any (w0 w:World) (R:Nat) (l:List (Nat × List Value)) (t:Ptb) (hW:PtbW t) (M:Mm w0 ((R,tcs t)::l) w) (id n:Int) (hn:i64 n) :
 Calls Try.prog 21 #[.pointer (some ⟨R,0,none⟩),.int .i64 id,.int .i64 n] w fun e w'=>e=.returned (.tuple #[])∧Mm w0 ((R,tcs (psm t id n))::l) w'∧Off [R] w w':=by
 unfold i64 at hn
 have hpw:=(hW.w (pix id)).r; have OF:=Off.refl [R] w; have hwz:=xnR w.heap.size; have hRw:=M.lt mS
 go_enter Try.func21,Try.ntmps21
 go_upto_region 0 with fail; refine wp_region_list ?_; refine xpL (.pointer (some ⟨R,0,none⟩)) ?_; refine xpL (.int .i64 id) ?_; have key:=vat20_any w R t hW (Tat.of M mS) id; refine xcL key ?_; clear key; rintro e w1 ⟨Ba,oa,rfl,P_a,hRa,l_⟩; replace M:=M.call l_; replace OF:=OF.below l_; replace hwz:=xnT hwz l_.size; clear l_; refine xeL ?_
 refine xpL (.pointer (some ⟨Ba,oa,none⟩)) ?_; refine xT ?_
 by_cases hs:(t (pix id)).st=2
 · by_cases hn0:n<0
   · go_upto_region 1 with fail
     refine wp_region_list ?_; refine xpL (.pointer (some ⟨Ba,oa,none⟩)) ?_; refine xpL (.pointer (some ⟨Ba,oa,none⟩)) ?_; refine xpL (.pointer (some ⟨Ba,oa+0,none⟩)) ?_; refine readL (.int .i64 (((t (pix id)).st:Nat):Int)) rfl (load1 3 _ ⟨Ba,oa+0,none⟩ _ rfl rfl (fun _=>by kernel_rfl) (P_a 0 _ rfl)) ?_; simp only [aP,lI,l0,lS]
     refine xaL (.bool true) (eqlI .i64 _ _ _ _ _ _ rfl rfl rfl true (beq_iff_eq.2 (by omega)) _) ?_; refine xpL (.bool true) ?_; refine xpL (.int .i64 n) ?_; refine xaL (.bool false) (geqI .i64 _ _ _ _ _ _ rfl rfl rfl false (decide_eq_false (by omega)) _) ?_; refine xpL (.bool false) ?_; refine xT ?_
     have HS:=show Hid _ from (show Mm w0 ((R,tcs (psm t id n))::l) w1∧Off [R] w w1 from by
      rw [show psm t id n=t from if_neg (fun h_=>by omega)]
      exact ⟨M,OF⟩)
     clear M OF P_a; go_wp2
     first | exact ⟨rfl,.tuple #[],by kernel_rfl,rfl,HS.out⟩ | (go_ret; exact ⟨rfl,HS.out⟩)
   · go_upto_region 1 with fail
     refine wp_region_list ?_; refine xpL (.pointer (some ⟨Ba,oa,none⟩)) ?_; refine xpL (.pointer (some ⟨Ba,oa,none⟩)) ?_; refine xpL (.pointer (some ⟨Ba,oa+0,none⟩)) ?_; refine readL (.int .i64 (((t (pix id)).st:Nat):Int)) rfl (load1 3 _ ⟨Ba,oa+0,none⟩ _ rfl rfl (fun _=>by kernel_rfl) (P_a 0 _ rfl)) ?_; simp only [aP,lI,l0,lS]
     refine xaL (.bool true) (eqlI .i64 _ _ _ _ _ _ rfl rfl rfl true (beq_iff_eq.2 (by omega)) _) ?_; refine xpL (.bool true) ?_; refine xpL (.int .i64 n) ?_; refine xaL (.bool true) (geqI .i64 _ _ _ _ _ _ rfl rfl rfl true (decide_eq_true (by omega)) _) ?_; refine xpL (.bool true) ?_; refine xT ?_
     obtain ⟨hb_,ho_,hk⟩:Ba=R∧oa=pix id*12∧pix id<256:=by
      rcases hRa with h_ | h_
      · exact h_
      · rw [h_.2,hW.z 256 (by omega)] at hs
        exact absurd hs (by decide)
     replace hb_:=hb_.symm; subst hb_; subst ho_; go_upto_region 2 with fail; refine wp_region_list ?_; refine xpL (.pointer (some ⟨R,pix id*12,none⟩)) ?_; refine xpL (.pointer (some ⟨R,pix id*12,none⟩)) ?_; refine xpL (.pointer (some ⟨R,pix id*12,none⟩)) ?_; refine xpL (.pointer (some ⟨R,pix id*12+1,none⟩)) ?_
     refine readL (.int .i64 (((t (pix id)).rt:Nat):Int)) rfl (load1 3 _ ⟨R,pix id*12+1,none⟩ _ rfl rfl (fun _=>by kernel_rfl) (P_a 1 _ rfl)) ?_; simp only [aP,lI,l0,lS]; refine readL (.int .i64 (7*(((t (pix id)).rt:Nat):Int))) rfl (mulI .i64 _ _ _ _ _ _ _ rfl rfl rfl (by rw [xw6]; omega) _) ?_; simp only [aP,lI,l0,lS]; refine xpL (.int .i64 n) ?_
     refine xaL (.int .i64 (min n 1099511627776)) (minI .i64 .i64 _ _ _ _ _ _ _ rfl rfl rfl (by split <;> omega) _) ?_; refine readL (.int .i64 (7*(((t (pix id)).rt:Nat):Int)+min n 1099511627776)) rfl (addI .i64 _ _ _ _ _ _ _ rfl rfl rfl (by rw [xw6]; omega) _) ?_; simp only [aP,lI,l0,lS]
     refine readL (.int .i64 ((7*(((t (pix id)).rt:Nat):Int)+min n 1099511627776)/8)) rfl (quoI .i64 _ 8 _ _ _ _ _ rfl rfl rfl (by decide) (quo8 _ (by omega) (by omega)) _) ?_; simp only [aP,lI,l0,lS]; refine readL (.int .i64 ((psR (t (pix id)).rt n:Nat):Int)) rfl (maxI .i64 .i64 _ _ _ _ _ _ _ rfl rfl rfl (by unfold psR; split <;> omega) _) ?_; simp only [aP,lI,l0,lS]
     refine xpL (.pointer (some ⟨R,pix id*12,none⟩)) ?_; refine xpL (.pointer (some ⟨R,pix id*12+1,none⟩)) ?_; have hM2:=M.set ((pix id)*12+1) (by rw [tcs_len]; omega) (.int .i64 ((psR (t (pix id)).rt n:Nat):Int))
     rw [tcs_set t hk 1 (by decide) ({ (t (pix id)) with rt:=psR (t (pix id)).rt n }) (.int .i64 ((psR (t (pix id)).rt n:Nat):Int)) (rfl)] at hM2
     refine skipOpL rfl (storeAny (.int .i64 ((psR (t (pix id)).rt n:Nat):Int)) R ((pix id)*12+1) 3 _ _ rfl rfl rfl rfl rfl (M.isSome mS ((pix id)*12+1) (by rw [tcs_len]; omega)) (M.free mS ((pix id)*12+1) (by rw [tcs_len]; omega)) (by kernel_rfl)) ?_; simp only [Act.put]; clear M; have M:=hM2; clear hM2; clear P_a
     replace hwz:=xnT hwz (Off.size ((Off.refl [R] _).set (b:=R) mS ((pix id)*12+1) (.int .i64 ((psR (t (pix id)).rt n:Nat):Int)))); replace OF:=OF.trans ((Off.refl [R] _).set (b:=R) mS ((pix id)*12+1) (.int .i64 ((psR (t (pix id)).rt n:Nat):Int))); generalize w1.setCell ⟨R,(pix id)*12+1,none⟩ (.int .i64 ((psR (t (pix id)).rt n:Nat):Int))=w2 at M hwz OF ⊢
     replace M:Mm w0 ((R,tcs (pput t (pix id) ({ (t (pix id)) with rt:=psR (t (pix id)).rt n })))::l) w2:=M
     have HS:=show Hid _ from (show Mm w0 ((R,tcs (psm t id n))::l) w2∧Off [R] w w2 from by
      rw [show psm t id n=pput t (pix id) { (t (pix id)) with rt:=psR (t (pix id)).rt n } from if_pos ⟨hs,by omega⟩]
      exact ⟨M,OF⟩)
     clear M OF
     first | exact ⟨rfl,.tuple #[],by kernel_rfl,rfl,HS.out⟩ | (go_ret; exact ⟨rfl,HS.out⟩)
 · go_upto_region 1 with fail
   refine wp_region_list ?_; refine xpL (.pointer (some ⟨Ba,oa,none⟩)) ?_; refine xpL (.pointer (some ⟨Ba,oa,none⟩)) ?_; refine xpL (.pointer (some ⟨Ba,oa+0,none⟩)) ?_; refine readL (.int .i64 (((t (pix id)).st:Nat):Int)) rfl (load1 3 _ ⟨Ba,oa+0,none⟩ _ rfl rfl (fun _=>by kernel_rfl) (P_a 0 _ rfl)) ?_; simp only [aP,lI,l0,lS]
   refine xaL (.bool false) (eqlI .i64 _ _ _ _ _ _ rfl rfl rfl false (beq_eq_false_iff_ne.2 (by omega)) _) ?_; refine xpL (.bool false) ?_
   with_reducible refine skipL ?_ ?_
   · rfl
   simp only [aP,lI,l0,lS]
   with_reducible refine skipL ?_ ?_
   · rfl
   simp only [aP,lI,l0,lS]; refine xpL (.bool false) ?_; refine xT ?_
   have HS:=show Hid _ from (show Mm w0 ((R,tcs (psm t id n))::l) w1∧Off [R] w w1 from by
    rw [show psm t id n=t from if_neg (fun h_=>hs h_.1)]
    exact ⟨M,OF⟩)
   clear M OF P_a; go_wp2
   first | exact ⟨rfl,.tuple #[],by kernel_rfl,rfl,HS.out⟩ | (go_ret; exact ⟨rfl,HS.out⟩)
def PT20:TabI:=fun _ v t bs=>∃ R,v=.pointer (some ⟨R,0,none⟩)∧bs=[(R,tcs t)]
theorem vtab_any:TabOK PT20 where
 ptr:=fun _ _ _ _ h=>let ⟨R,e,_⟩:=h; ⟨R,e⟩
 off:=fun _ _ _ _ _ _ h _ _=>h
 new:=fun w0 w l M=>(vnew20_any w0 w l M).mono fun _ _ ⟨R,h1,h2,h3⟩=>⟨_,[(R,tcs pnew)],h1,⟨R,rfl,rfl⟩,h2,h3⟩
 beg:=fun w0 w v t bs l id hW _ hI M=>by
  obtain ⟨R,rfl,rfl⟩:=hI
  exact (vbeg20_any w0 w R l t hW M id).mono fun _ _ ⟨h1,h2,h3⟩=>⟨[(R,tcs (pbeg t id))],h1,⟨R,rfl,rfl⟩,h2,h3⟩
 add:=fun w0 w v t bs l id tk now hW _ _ _ hI M=>by
  obtain ⟨R,rfl,rfl⟩:=hI
  exact (vadd20_any w0 w R l t hW id tk now M).mono fun _ _ ⟨h1,h2,h3⟩=>⟨[(R,tcs (padd t id tk now))],h1,⟨R,rfl,rfl⟩,h2,h3⟩
 due:=fun w0 w v t bs l now hW _ hI M=>by
  obtain ⟨R,rfl,rfl⟩:=hI
  exact (vdue20_any w0 w R l t hW M now).mono fun _ _ ⟨sq,cq,h1,h2,h3,h4⟩=>⟨sq,cq,[(R,tcs (pdt t (pmom now)))],h1,h2,⟨R,rfl,rfl⟩,h3,h4⟩
 ans:=fun w0 w v t bs l id tk hW _ _ hI M=>by
  obtain ⟨R,rfl,rfl⟩:=hI
  exact (vans20_any w0 w R l t hW M id tk).mono fun _ _ ⟨h1,h2,h3⟩=>⟨[(R,tcs (pant t id tk))],h1,⟨R,rfl,rfl⟩,h2,h3⟩
 tok:=fun w0 w v t bs l id hW _ hI M=>by
  obtain ⟨R,rfl,rfl⟩:=hI
  exact vtok20_any w R t hW (Tat.of M mS) id (M.lt mS)
 rem:=fun w0 w v t bs l id hW _ hI M=>by
  obtain ⟨R,rfl,rfl⟩:=hI
  exact (vrem20_any w0 w R l t hW M id).mono fun _ _ ⟨h1,h2,h3⟩=>⟨[(R,tcs (prm t id))],h1,⟨R,rfl,rfl⟩,h2,h3⟩
 sam:=fun w0 w v t bs l id n hW _ hn hI M=>by
  obtain ⟨R,rfl,rfl⟩:=hI
  exact (vsam20_any w0 w R l t hW M id n hn).mono fun _ _ ⟨h1,h2,h3⟩=>⟨[(R,tcs (psm t id n))],h1,⟨R,rfl,rfl⟩,h2,h3⟩
 rtt:=fun w0 w v t bs l id hW _ hI M=>by
  obtain ⟨R,rfl,rfl⟩:=hI
  exact vrtt20_any w R t hW (Tat.of M mS) id
 sta:=fun w0 w v t bs l id hW _ hI M=>by
  obtain ⟨R,rfl,rfl⟩:=hI
  exact vsta20_any w R t hW (Tat.of M mS) id
 liv:=fun w0 w v t bs l _ hI M=>by
  obtain ⟨R,rfl,rfl⟩:=hI
  exact vliv20_any w R t (Tat.of M mS)
section
open Go.ChangeShapes Go.WideShapes Go.ChangeAt Go.WideMaps Go.WideElems Go.RowKit
section
variable {H:Type} {enc:TypeId × Value→H} {P:Program} {w:World} {base:Nat} {sp:Nat→Bool} {held:Bool}
end
theorem wf_i64 {n:Int}:(Lit.int .i64 n).wf=true↔-9223372036854775808≤n∧n≤9223372036854775807:=by
 simp [Lit.wf,IntKind.min,IntKind.max,IntKind.signed,IntKind.bits]
end
section
open Go.ChangeShapes Go.WideShapes Go.ChangeAt Go.WideMaps Go.WideElems Go.RowKit
theorem own:ownKnob Try.prog.godebug=none:=by kernel_rfl
theorem i64_of {n:Int} (h:(Lit.int .i64 n).wf=true):i64 n:=by have:=wf_i64.1 h; unfold i64; omega
section
variable {H:Type} {enc:TypeId × Value→H} {W:World} {Q:TypeId→DataW H→Prop} {m:Nat}
end
end
end Go.Proofs.Ytdengjdfmhcbiaa
