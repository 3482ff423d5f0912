/- Texts of Uo Un Up Uq Ur Us Ue Nq, joined. -/
import Derived.Test.YtdengjdfmhcbiaaP2PathsPlays
set_option maxRecDepth 20000
set_option maxHeartbeats 64000000
namespace Go.Proofs.Ytdengjdfmhcbiaa
open Go.RowKit
theorem dtok20_any (w:World) (base R:Nat) (L:Prs) (sp:Option Addr) (cap:Nat) (hl:L.length≤256) (CR:w.cell? ⟨R,0,none⟩=some (.slice sp L.length cap)) (V:w.ownsRow base 57 13 (.slice sp L.length cap) L.length (prc L)) (hw:PrsW L) (id:Int) :
 Calls Try.prog 25 #[.pointer (some ⟨R,0,none⟩),.int .i64 id] w fun e w'=>e=.returned (.tuple #[tok8 (ptk (tof L) id),.bool (ptB (tof L) id)])∧Below w.heap.size w w':=by
 have M:=Mm.init w
 go_enter Try.func25,Try.ntmps25
 go_upto_region 0 with fail; refine wp_region_list ?_; refine actL (w':=w.alloc (.cells zu8_8 30)) (.pointer (some ⟨w.heap.size,0,none⟩)) rfl (by kernel_rfl) ?_; simp only [aP,lI,l0,lS]
 have hB_B1:w.heap.size≤w.heap.size:=M.below.size
 replace M:=M.box zu8_8 30 w.heap.size rfl; generalize w.alloc (.cells zu8_8 30)=w1 at M  ⊢; generalize eB:w.heap.size=B1 at M hB_B1  ⊢
 have hE_B1:w.heap.size≤B1:=Nat.le_of_eq eB
 have hF_B1:B1≤w.heap.size:=Nat.le_of_eq eB.symm
 clear eB
 replace M:Mm w ((B1,[.int .u8 0,.int .u8 0,.int .u8 0,.int .u8 0,.int .u8 0,.int .u8 0,.int .u8 0,.int .u8 0])::([]:List (Nat × List Value))) w1:=M
 refine xpL (.bool false) ?_; refine xT ?_
 rcases plI_cases hw id with ⟨h1,h2⟩ | ⟨i,p,h1,h2,h3,h4,h5,h6,h7⟩
 · go_upto_region 1 with fail
   refine wp_region_list ?_; refine xpL (.pointer (some ⟨R,0,none⟩)) ?_; refine xpL (.int .i64 id) ?_; have key:=dat20_any w1 base R L sp cap hl (cellP M.below CR) (ownsRow_bel V M.below) id
   rw [h1] at key
   refine xcL key ?_; clear key; rintro e w2 ⟨rfl,l_⟩; replace M:=M.call l_; clear l_; refine xeL ?_; refine xpL (.int .i64 (-1)) ?_; refine xT ?_; go_upto_region 2 with fail; refine wp_region_list ?_; refine xpL (.int .i64 (-1)) ?_; refine xaL (.bool true) (lssI .i64 _ _ _ _ _ _ rfl rfl rfl true (by decide) _) ?_; refine xpL (.bool true) ?_
   with_reducible refine skipL ?_ ?_
   · rfl
   simp only [aP,lI,l0,lS]
   with_reducible refine skipL ?_ ?_
   · rfl
   simp only [aP,lI,l0,lS]
   with_reducible refine skipL ?_ ?_
   · rfl
   simp only [aP,lI,l0,lS]
   with_reducible refine skipL ?_ ?_
   · rfl
   simp only [aP,lI,l0,lS]
   with_reducible refine skipL ?_ ?_
   · rfl
   simp only [aP,lI,l0,lS]
   with_reducible refine skipL ?_ ?_
   · rfl
   simp only [aP,lI,l0,lS]
   with_reducible refine skipL ?_ ?_
   · rfl
   simp only [aP,lI,l0,lS]
   with_reducible refine skipL ?_ ?_
   · rfl
   simp only [aP,lI,l0,lS]
   with_reducible refine skipL ?_ ?_
   · rfl
   simp only [aP,lI,l0,lS]; refine xpL (.bool true) ?_; refine xT ?_; go_upto_region 3 with fail; refine wp_region_list ?_; refine xpL (.agg zu8_8) ?_
   refine skipOpL rfl (storeP [.int .u8 0,.int .u8 0,.int .u8 0,.int .u8 0,.int .u8 0,.int .u8 0,.int .u8 0,.int .u8 0] B1 0 30 _ _ rfl rfl rfl (M.thereP mS 0 8 (Nat.le_of_ble_eq_true rfl)) (by kernel_rfl) (List.all_eq_true.1 (rfl:([.int .u8 0,.int .u8 0,.int .u8 0,.int .u8 0,.int .u8 0,.int .u8 0,.int .u8 0,.int .u8 0]:List Value).all (fun u=>u.oneCell')=true))) ?_
   simp only [Act.put]; replace M:=M.setPart [.int .u8 0,.int .u8 0,.int .u8 0,.int .u8 0,.int .u8 0,.int .u8 0,.int .u8 0,.int .u8 0] 0 (Nat.le_of_ble_eq_true rfl); generalize w2.setCells B1 0 [.int .u8 0,.int .u8 0,.int .u8 0,.int .u8 0,.int .u8 0,.int .u8 0,.int .u8 0,.int .u8 0]=w3 at M  ⊢
   replace M:Mm w ((B1,[.int .u8 0,.int .u8 0,.int .u8 0,.int .u8 0,.int .u8 0,.int .u8 0,.int .u8 0,.int .u8 0])::([]:List (Nat × List Value))) w3:=M
   refine xpL (.bool false) ?_; refine xT ?_; have hK:=show Hid _ from (show ptk (tof L) id=fun _=>0 from if_neg (by rw [h2]; decide)); have hE:=show Hid _ from (show ptB (tof L) id=false from decide_eq_false (by rw [h2]; decide)); have c1_:=M.part mS 0 [.int .u8 0,.int .u8 0,.int .u8 0,.int .u8 0,.int .u8 0,.int .u8 0,.int .u8 0,.int .u8 0] rfl; have hbel:=M.below; clear M
   go_wp2; refine bodyPost_ret (v:=.tuple #[.agg zu8_8,.bool false]) (retCellTmp 4 5 30 ⟨B1,0,none⟩ [.int .u8 0,.int .u8 0,.int .u8 0,.int .u8 0,.int .u8 0,.int .u8 0,.int .u8 0,.int .u8 0] _ rfl rfl rfl (fun _=>by kernel_rfl) (fun _=>by kernel_rfl) c1_) rfl ?_
   exact ⟨by rw [hK.out,hE.out]; rfl,hbel⟩
 · go_upto_region 1 with fail
   refine wp_region_list ?_; refine xpL (.pointer (some ⟨R,0,none⟩)) ?_; refine xpL (.int .i64 id) ?_; have key:=dat20_any w1 base R L sp cap hl (cellP M.below CR) (ownsRow_bel V M.below) id
   rw [h1] at key
   refine xcL key ?_; clear key; rintro e w4 ⟨rfl,l_⟩; replace M:=M.call l_; clear l_; refine xeL ?_; refine xpL (.int .i64 ((i:Nat):Int)) ?_; refine xT ?_
   obtain ⟨g,hg⟩:∃ g,sp=some ⟨g,0,none⟩:=by
    rcases V.2 with ⟨_,h0_⟩ | ⟨g,c_,cur_,hv_,_⟩
    · omega
    · injection hv_ with hv_ _ _
      exact ⟨g,hv_⟩
   by_cases hs:p.st=1
   · go_upto_region 2 with fail
     refine wp_region_list ?_; refine xpL (.int .i64 ((i:Nat):Int)) ?_; refine xaL (.bool false) (lssI .i64 _ _ _ _ _ _ rfl rfl rfl false (decide_eq_false (by omega)) _) ?_; refine xpL (.bool false) ?_; refine xpL (.pointer (some ⟨R,0,none⟩)) ?_; refine xpL (.pointer (some ⟨R,0,none⟩)) ?_; refine xpL (.pointer (some ⟨R,0,none⟩)) ?_
     refine xaL (.slice sp L.length cap) (load1 27 _ ⟨R,0,none⟩ _ rfl rfl (fun _=>by kernel_rfl) (cellP M.below CR)) ?_; refine xpL (.int .i64 ((i:Nat):Int)) ?_; refine xaL (.pointer (some ⟨g,i*13,none⟩)) (idxP13 g _ _ i sp hg (List.getElem?_eq_some_iff.1 h3).1 _ _ rfl rfl rfl _) ?_; refine xpL (.pointer (some ⟨g,i*13+1,none⟩)) ?_
     refine readL (.int .i64 (((pix id,p).2.st:Nat):Int)) rfl (load1 3 _ ⟨g,i*13+1,none⟩ _ rfl rfl (fun _=>by kernel_rfl) (rowCellP (ownsRow_bel V M.below) hg ((prc_get h3 (by decide)).trans rfl))) ?_; simp only [aP,lI,l0,lS]; refine xaL (.bool false) (neqI .i64 _ _ _ _ _ _ rfl rfl rfl false (by rw [bne_eq_false_iff_eq]; omega) _) ?_; refine xpL (.bool false) ?_; refine xT ?_
     go_upto_region 4 with fail; refine wp_region_list ?_; refine xpL (.pointer (some ⟨R,0,none⟩)) ?_; refine xpL (.pointer (some ⟨R,0,none⟩)) ?_; refine xpL (.pointer (some ⟨R,0,none⟩)) ?_; refine xaL (.slice sp L.length cap) (load1 27 _ ⟨R,0,none⟩ _ rfl rfl (fun _=>by kernel_rfl) (cellP M.below CR)) ?_; refine xpL (.int .i64 ((i:Nat):Int)) ?_
     refine xaL (.pointer (some ⟨g,i*13,none⟩)) (idxP13 g _ _ i sp hg (List.getElem?_eq_some_iff.1 h3).1 _ _ rfl rfl rfl _) ?_; refine xpL (.pointer (some ⟨g,i*13+5,none⟩)) ?_
     refine xaL (.agg #[.int .u8 (p.tk 0),.int .u8 (p.tk 1),.int .u8 (p.tk 2),.int .u8 (p.tk 3),.int .u8 (p.tk 4),.int .u8 (p.tk 5),.int .u8 (p.tk 6),.int .u8 (p.tk 7)]) (loadN 30 _ ⟨g,i*13+5,none⟩ [.int .u8 (p.tk 0),.int .u8 (p.tk 1),.int .u8 (p.tk 2),.int .u8 (p.tk 3),.int .u8 (p.tk 4),.int .u8 (p.tk 5),.int .u8 (p.tk 6),.int .u8 (p.tk 7)] rfl rfl (fun _=>by kernel_rfl) (fun _=>by kernel_rfl) (rowTok (ownsRow_bel V M.below) hg h3)) ?_
     refine skipOpL rfl (storeP [.int .u8 (p.tk 0),.int .u8 (p.tk 1),.int .u8 (p.tk 2),.int .u8 (p.tk 3),.int .u8 (p.tk 4),.int .u8 (p.tk 5),.int .u8 (p.tk 6),.int .u8 (p.tk 7)] B1 0 30 _ _ rfl rfl rfl (M.thereP mS 0 8 (Nat.le_of_ble_eq_true rfl)) (by kernel_rfl) (List.all_eq_true.1 (rfl:([.int .u8 (p.tk 0),.int .u8 (p.tk 1),.int .u8 (p.tk 2),.int .u8 (p.tk 3),.int .u8 (p.tk 4),.int .u8 (p.tk 5),.int .u8 (p.tk 6),.int .u8 (p.tk 7)]:List Value).all (fun u=>u.oneCell')=true))) ?_
     simp only [Act.put]; replace M:=M.setPart [.int .u8 (p.tk 0),.int .u8 (p.tk 1),.int .u8 (p.tk 2),.int .u8 (p.tk 3),.int .u8 (p.tk 4),.int .u8 (p.tk 5),.int .u8 (p.tk 6),.int .u8 (p.tk 7)] 0 (Nat.le_of_ble_eq_true rfl)
     generalize w4.setCells B1 0 [.int .u8 (p.tk 0),.int .u8 (p.tk 1),.int .u8 (p.tk 2),.int .u8 (p.tk 3),.int .u8 (p.tk 4),.int .u8 (p.tk 5),.int .u8 (p.tk 6),.int .u8 (p.tk 7)]=w5 at M  ⊢
     replace M:Mm w ((B1,[.int .u8 (p.tk 0),.int .u8 (p.tk 1),.int .u8 (p.tk 2),.int .u8 (p.tk 3),.int .u8 (p.tk 4),.int .u8 (p.tk 5),.int .u8 (p.tk 6),.int .u8 (p.tk 7)])::([]:List (Nat × List Value))) w5:=M
     refine xpL (.bool true) ?_; refine xT ?_; have hK:=show Hid _ from (show ptk (tof L) id=p.tk from (if_pos (by rw [h5]; exact hs)).trans (by rw [h5])); have hE:=show Hid _ from (show ptB (tof L) id=true from decide_eq_true (by rw [h5]; exact hs))
     have c1_:=M.part mS 0 [.int .u8 (p.tk 0),.int .u8 (p.tk 1),.int .u8 (p.tk 2),.int .u8 (p.tk 3),.int .u8 (p.tk 4),.int .u8 (p.tk 5),.int .u8 (p.tk 6),.int .u8 (p.tk 7)] rfl; have hbel:=M.below; clear M; go_wp2
     refine bodyPost_ret (v:=.tuple #[.agg #[.int .u8 (p.tk 0),.int .u8 (p.tk 1),.int .u8 (p.tk 2),.int .u8 (p.tk 3),.int .u8 (p.tk 4),.int .u8 (p.tk 5),.int .u8 (p.tk 6),.int .u8 (p.tk 7)],.bool true]) (retCellTmp 4 5 30 ⟨B1,0,none⟩ [.int .u8 (p.tk 0),.int .u8 (p.tk 1),.int .u8 (p.tk 2),.int .u8 (p.tk 3),.int .u8 (p.tk 4),.int .u8 (p.tk 5),.int .u8 (p.tk 6),.int .u8 (p.tk 7)] _ rfl rfl rfl (fun _=>by kernel_rfl) (fun _=>by kernel_rfl) c1_) rfl ?_
     exact ⟨by rw [hK.out,hE.out]; rfl,hbel⟩
   · go_upto_region 2 with fail
     refine wp_region_list ?_; refine xpL (.int .i64 ((i:Nat):Int)) ?_; refine xaL (.bool false) (lssI .i64 _ _ _ _ _ _ rfl rfl rfl false (decide_eq_false (by omega)) _) ?_; refine xpL (.bool false) ?_; refine xpL (.pointer (some ⟨R,0,none⟩)) ?_; refine xpL (.pointer (some ⟨R,0,none⟩)) ?_; refine xpL (.pointer (some ⟨R,0,none⟩)) ?_
     refine xaL (.slice sp L.length cap) (load1 27 _ ⟨R,0,none⟩ _ rfl rfl (fun _=>by kernel_rfl) (cellP M.below CR)) ?_; refine xpL (.int .i64 ((i:Nat):Int)) ?_; refine xaL (.pointer (some ⟨g,i*13,none⟩)) (idxP13 g _ _ i sp hg (List.getElem?_eq_some_iff.1 h3).1 _ _ rfl rfl rfl _) ?_; refine xpL (.pointer (some ⟨g,i*13+1,none⟩)) ?_
     refine readL (.int .i64 (((pix id,p).2.st:Nat):Int)) rfl (load1 3 _ ⟨g,i*13+1,none⟩ _ rfl rfl (fun _=>by kernel_rfl) (rowCellP (ownsRow_bel V M.below) hg ((prc_get h3 (by decide)).trans rfl))) ?_; simp only [aP,lI,l0,lS]; refine xaL (.bool true) (neqI .i64 _ _ _ _ _ _ rfl rfl rfl true (bne_iff_ne.2 (by omega)) _) ?_; refine xpL (.bool true) ?_; refine xT ?_
     go_upto_region 3 with fail; refine wp_region_list ?_; refine xpL (.agg zu8_8) ?_
     refine skipOpL rfl (storeP [.int .u8 0,.int .u8 0,.int .u8 0,.int .u8 0,.int .u8 0,.int .u8 0,.int .u8 0,.int .u8 0] B1 0 30 _ _ rfl rfl rfl (M.thereP mS 0 8 (Nat.le_of_ble_eq_true rfl)) (by kernel_rfl) (List.all_eq_true.1 (rfl:([.int .u8 0,.int .u8 0,.int .u8 0,.int .u8 0,.int .u8 0,.int .u8 0,.int .u8 0,.int .u8 0]:List Value).all (fun u=>u.oneCell')=true))) ?_
     simp only [Act.put]; replace M:=M.setPart [.int .u8 0,.int .u8 0,.int .u8 0,.int .u8 0,.int .u8 0,.int .u8 0,.int .u8 0,.int .u8 0] 0 (Nat.le_of_ble_eq_true rfl); generalize w4.setCells B1 0 [.int .u8 0,.int .u8 0,.int .u8 0,.int .u8 0,.int .u8 0,.int .u8 0,.int .u8 0,.int .u8 0]=w6 at M  ⊢
     replace M:Mm w ((B1,[.int .u8 0,.int .u8 0,.int .u8 0,.int .u8 0,.int .u8 0,.int .u8 0,.int .u8 0,.int .u8 0])::([]:List (Nat × List Value))) w6:=M
     refine xpL (.bool false) ?_; refine xT ?_; have hK:=show Hid _ from (show ptk (tof L) id=fun _=>0 from if_neg (by rw [h5]; exact hs)); have hE:=show Hid _ from (show ptB (tof L) id=false from decide_eq_false (by rw [h5]; exact hs)); have c1_:=M.part mS 0 [.int .u8 0,.int .u8 0,.int .u8 0,.int .u8 0,.int .u8 0,.int .u8 0,.int .u8 0,.int .u8 0] rfl; have hbel:=M.below
     clear M; go_wp2; refine bodyPost_ret (v:=.tuple #[.agg zu8_8,.bool false]) (retCellTmp 4 5 30 ⟨B1,0,none⟩ [.int .u8 0,.int .u8 0,.int .u8 0,.int .u8 0,.int .u8 0,.int .u8 0,.int .u8 0,.int .u8 0] _ rfl rfl rfl (fun _=>by kernel_rfl) (fun _=>by kernel_rfl) c1_) rfl ?_
     exact ⟨by rw [hK.out,hE.out]; rfl,hbel⟩
theorem manyP13:Many Try.prog 57 (.agg #[.int .i64 0,.int .i64 0,.int .i64 0,.int .i64 0,.int .i64 0,.int .u8 0,.int .u8 0,.int .u8 0,.int .u8 0,.int .u8 0,.int .u8 0,.int .u8 0,.int .u8 0]) 48 13:=⟨by kernel_rfl⟩
theorem dmom20_any (n:Int) (w:World) :
 Calls Try.prog 35 #[.int .i64 n] w fun e w'=>e=.returned (.int .i64 ((pmom n:Nat):Int))∧Below w.heap.size w w':=by
 have M:=Mm.init w
 go_enter Try.func35,Try.ntmps35
 go_upto_region 0 with fail; refine wp_region_list ?_; refine xpL (.int .i64 0) ?_; refine xT ?_; go_upto_region 1 with fail; refine wp_region_list ?_; refine xpL (.int .i64 n) ?_; refine xaL (.int .i64 (min n 1099511627776)) (minI .i64 .i64 _ _ _ _ _ _ _ rfl rfl rfl (by split <;> omega) _) ?_
 refine xaL (.int .i64 ((pmom n:Nat):Int)) (maxI .i64 .i64 _ _ _ _ _ _ _ rfl rfl rfl (by unfold pmom; split <;> omega) _) ?_; refine xpL (.int .i64 ((pmom n:Nat):Int)) ?_; refine xT ?_; have hbel:=M.below; clear M; go_wp2; go_ret
 exact ⟨rfl,hbel⟩
theorem dbeg20_any (w0 w:World) (R:Nat) (l:List (Nat × List Value)) (L:Prs) (sp:Option Addr) (cap:Nat) (hw:PrsW L) (M:Mm w0 ((R,[.slice sp L.length cap])::(obs sp++l)) w) (V:w.ownsRow w0.heap.size 57 13 (.slice sp L.length cap) L.length (prc L)) (id:Int) :
 Calls Try.prog 11 #[.pointer (some ⟨R,0,none⟩),.int .i64 id] w fun e w'=>e=.returned (.int .i64 ((pmay (tof L) id:Nat):Int))∧DSt w0 w w' R l sp (pbeg (tof L) id):=by
 have hl:=hw.len; have OF:=Off.refl (R::ob sp) w
 go_enter Try.func11,Try.ntmps11
 go_upto_region 0 with fail; refine wp_region_list ?_; refine xpL (.int .i64 0) ?_; refine xT ?_
 by_cases hm:pmay (tof L) id=0
 · obtain ⟨hd0,hd1,hs0,_,hk⟩:=pmay_ok hm
   obtain ⟨k,rfl⟩:∃ k:Nat,id=(k:Int):=⟨id.toNat,by omega⟩
   rw [pix_nat9 (show k<256 by omega)] at hs0 hk
   go_upto_region 1 with fail; refine wp_region_list ?_; refine xpL (.pointer (some ⟨R,0,none⟩)) ?_; refine xpL (.int .i64 ((k:Nat):Int)) ?_; have key:=dmay20_any w w0.heap.size R L sp cap hl (M.get mS 0 _ rfl) V hw ((k:Nat):Int)
   rw [hm] at key
   refine xcL key ?_; clear key; rintro e w1 ⟨rfl,l_⟩; replace M:=M.call l_; replace V:=ownsRow_bel V l_; replace OF:=OF.below l_; clear l_; refine xeL ?_; refine xpL (.int .i64 ((0:Nat):Int)) ?_; refine xT ?_; go_upto_region 2 with fail; refine wp_region_list ?_; refine xpL (.int .i64 ((0:Nat):Int)) ?_; refine xaL (.bool true) (eqlI .i64 _ _ _ _ _ _ rfl rfl rfl true rfl _) ?_
   refine xT ?_; go_upto_region 3 with fail; refine wp_region_list ?_; refine xpL (.pointer (some ⟨R,0,none⟩)) ?_; refine xpL (.pointer (some ⟨R,0,none⟩)) ?_; refine xpL (.pointer (some ⟨R,0,none⟩)) ?_; refine xpL (.pointer (some ⟨R,0,none⟩)) ?_; refine xaL (.slice sp L.length cap) (load1 27 _ ⟨R,0,none⟩ _ rfl rfl (fun _=>by kernel_rfl) (M.get mS 0 _ rfl)) ?_
   refine xpL (.int .i64 ((k:Nat):Int)) ?_; refine xpL (.agg #[.int .i64 ((k:Nat):Int),.int .i64 2,.int .i64 100,.int .i64 0,.int .i64 0,.int .u8 0,.int .u8 0,.int .u8 0,.int .u8 0,.int .u8 0,.int .u8 0,.int .u8 0,.int .u8 0]) ?_
   have hlb:=(Below.refl w1.heap.size w1).alloc (xnR _) (.cells #[.int .i64 ((k:Nat):Int),.int .i64 2,.int .i64 100,.int .i64 0,.int .i64 0,.int .u8 0,.int .u8 0,.int .u8 0,.int .u8 0,.int .u8 0,.int .u8 0,.int .u8 0,.int .u8 0] 57)
   have T_n:=World.ownsRow.cells (World.ownsRow_lit (base:=w1.heap.size) (e:=57) (size:=13) w1 #[.int .i64 ((k:Nat):Int),.int .i64 2,.int .i64 100,.int .i64 0,.int .i64 0,.int .u8 0,.int .u8 0,.int .u8 0,.int .u8 0,.int .u8 0,.int .u8 0,.int .u8 0,.int .u8 0] 1 (xnR _) (by unfold maxLen; omega) rfl) (g:=w1.heap.size) rfl; replace V:=ownsRow_bel V hlb
   replace OF:=OF.below hlb; replace M:=M.call hlb; clear hlb; refine actL (w':=w1.alloc (.cells #[.int .i64 ((k:Nat):Int),.int .i64 2,.int .i64 100,.int .i64 0,.int .i64 0,.int .u8 0,.int .u8 0,.int .u8 0,.int .u8 0,.int .u8 0,.int .u8 0,.int .u8 0,.int .u8 0] 57)) (.slice (some ⟨w1.heap.size,0,none⟩) 1 1) rfl (by kernel_rfl) ?_; simp only [aP,lI,l0,lS]
   generalize w1.alloc (.cells #[.int .i64 ((k:Nat):Int),.int .i64 2,.int .i64 100,.int .i64 0,.int .i64 0,.int .u8 0,.int .u8 0,.int .u8 0,.int .u8 0,.int .u8 0,.int .u8 0,.int .u8 0,.int .u8 0] 57)=w2 at M T_n V OF ⊢; generalize w1.heap.size=bz at T_n ⊢
   obtain ⟨v2,w3,hr,V2,hgr,hg2⟩:=run_append_OwnV (P:=Try.prog) (ty:=27) Try.underlying27 manyP13 rfl (by decide) V ⟨bz,0,none⟩ 1 1 [.int .i64 ((k:Nat):Int),.int .i64 2,.int .i64 100,.int .i64 0,.int .i64 0,.int .u8 0,.int .u8 0,.int .u8 0,.int .u8 0,.int .u8 0,.int .u8 0,.int .u8 0,.int .u8 0] rfl T_n (List.all_eq_true.1 (rfl:([.int .i64 ((k:Nat):Int),.int .i64 2,.int .i64 100,.int .i64 0,.int .i64 0,.int .u8 0,.int .u8 0,.int .u8 0,.int .u8 0,.int .u8 0,.int .u8 0,.int .u8 0,.int .u8 0]:List Value).all (fun u=>u.oneCell')=true)) (by unfold maxLen; omega) (by omega) M.below.size
   have Mp:=M.perm (pull0 ([(R,[.slice sp L.length cap])]:List (Nat × List Value)) (obs sp) l)
   obtain ⟨sv,cv,rfl,_,_⟩:=row_form16 V2
   have M':=Mp.rowApp V hgr V2 hg2 (xnR _)
   replace OF:=OF.grown hgr (fun b_ hb_=>.inl (mT _ ((ob_own _ _ _ b_).1 hb_))); refine xaL (_) (appendOp _ _ 27 _ _ _ rfl rfl rfl hr) ?_; clear hr hgr hg2 M Mp V T_n
   rw [show L.length+1=(L++[(k,(⟨2,100,0,0,fun _=>0⟩:Pth))]).length by rw [List.length_append]; rfl] at V2 ⊢
   rw [show prc L++[.int .i64 ((k:Nat):Int),.int .i64 2,.int .i64 100,.int .i64 0,.int .i64 0,.int .u8 0,.int .u8 0,.int .u8 0,.int .u8 0,.int .u8 0,.int .u8 0,.int .u8 0,.int .u8 0]=prc (L++[(k,(⟨2,100,0,0,fun _=>0⟩:Pth))]) from (prc_app L [(k,(⟨2,100,0,0,fun _=>0⟩:Pth))]).symm] at V2
   have V:=V2; clear V2; have M:=M'.perm (pull0 ([(R,[.slice sp L.length cap])]:List (Nat × List Value)) (obs sv) l).symm; clear M'; refine xpL (.pointer (some ⟨R,0,none⟩)) ?_; refine xpL (.pointer (some ⟨R,0,none⟩)) ?_
   refine skipOpL rfl (storeAny (.slice sv ((L++[(k,(⟨2,100,0,0,fun _=>0⟩:Pth))]).length) cv) R 0 27 _ _ rfl rfl rfl rfl rfl (M.isSome mS 0 (by simp)) (M.free mS 0 (by simp)) (by kernel_rfl)) ?_; simp only [Act.put]; have ho:=(Off.refl [R] w3).set (b:=R) mS 0 (.slice sv ((L++[(k,(⟨2,100,0,0,fun _=>0⟩:Pth))]).length) cv)
   replace V:=ownsRow_away V ho (fun b_ hb_=>by obtain rfl:=xm1 hb_; exact M.awayB (fun p_ hp_=>by simp [hp_])); replace OF:=OF.and1 ho (.inl mS); replace M:=M.set 0 (by simp) (.slice sv ((L++[(k,(⟨2,100,0,0,fun _=>0⟩:Pth))]).length) cv); clear ho; generalize w3.setCell ⟨R,0,none⟩ (.slice sv ((L++[(k,(⟨2,100,0,0,fun _=>0⟩:Pth))]).length) cv)=w4 at M V OF ⊢
   replace M:Mm w0 ((R,[.slice sv ((L++[(k,(⟨2,100,0,0,fun _=>0⟩:Pth))]).length) cv])::(obs sv++l)) w4:=M
   refine xT ?_; go_upto_region 4 with fail; refine wp_region_list ?_; refine xpL (.int .i64 ((0:Nat):Int)) ?_; refine xpL (.int .i64 ((0:Nat):Int)) ?_; refine xT ?_
   have hpl:plc L k=L.length:=(tof_st hw k).1 hs0
   have hT:tof (L++[(k,(⟨2,100,0,0,fun _=>0⟩:Pth))])=pbeg (tof L) ((k:Nat):Int):=by
    rw [tof_app hpl]
    unfold pbeg
    rw [if_pos hm,pix_nat9 hk]
   have HS:=show Hid _ from (show DSt w0 w w4 R l sp (pbeg (tof L) ((k:Nat):Int)) from ⟨(L++[(k,(⟨2,100,0,0,fun _=>0⟩:Pth))]),sv,cv,hT,hw.app hpl hk (show (2:Nat)≠0 by decide),M,V,OF⟩); have hE:=show Hid _ from hm; clear M V OF; go_wp2; go_ret
   exact ⟨by rw [hE.out]; try rfl,HS.out⟩
 · go_upto_region 1 with fail
   refine wp_region_list ?_; refine xpL (.pointer (some ⟨R,0,none⟩)) ?_; refine xpL (.int .i64 id) ?_; have key:=dmay20_any w w0.heap.size R L sp cap hl (M.get mS 0 _ rfl) V hw id; refine xcL key ?_; clear key; rintro e w5 ⟨rfl,l_⟩; replace M:=M.call l_; replace V:=ownsRow_bel V l_; replace OF:=OF.below l_; clear l_; refine xeL ?_
   refine xpL (.int .i64 ((pmay (tof L) id:Nat):Int)) ?_; refine xT ?_; go_upto_region 2 with fail; refine wp_region_list ?_; refine xpL (.int .i64 ((pmay (tof L) id:Nat):Int)) ?_; refine xaL (.bool false) (eqlI .i64 _ _ _ _ _ _ rfl rfl rfl false (beq_eq_false_iff_ne.2 (by omega)) _) ?_; refine xT ?_; go_upto_region 4 with fail; refine wp_region_list ?_
   refine xpL (.int .i64 ((pmay (tof L) id:Nat):Int)) ?_; refine xpL (.int .i64 ((pmay (tof L) id:Nat):Int)) ?_; refine xT ?_; have HS:=show Hid _ from (show DSt w0 w w5 R l sp (pbeg (tof L) id) from ⟨L,sp,cap,(if_neg hm).symm,hw,M,V,OF⟩); clear M V OF; go_wp2; go_ret
   exact ⟨rfl,HS.out⟩
theorem dadd20_any (w0 w:World) (R:Nat) (l:List (Nat × List Value)) (L:Prs) (sp:Option Addr) (cap:Nat) (hw:PrsW L) (M:Mm w0 ((R,[.slice sp L.length cap])::(obs sp++l)) w) (V:w.ownsRow w0.heap.size 57 13 (.slice sp L.length cap) L.length (prc L)) (id:Int) (tk:Nat→Int) (now:Int) :
 Calls Try.prog 13 #[.pointer (some ⟨R,0,none⟩),.int .i64 id,.agg #[.int .u8 (tk 0),.int .u8 (tk 1),.int .u8 (tk 2),.int .u8 (tk 3),.int .u8 (tk 4),.int .u8 (tk 5),.int .u8 (tk 6),.int .u8 (tk 7)],.int .i64 now] w fun e w'=>e=.returned (.int .i64 ((pmay (tof L) id:Nat):Int))∧DSt w0 w w' R l sp (padd (tof L) id tk now):=by
 have hl:=hw.len; have OF:=Off.refl (R::ob sp) w
 go_enter Try.func13,Try.ntmps13
 go_upto_region 0 with fail; refine wp_region_list ?_; have hlb:=(Below.refl w.heap.size w).alloc (xnR _) (.cells #[.int .u8 (tk 0),.int .u8 (tk 1),.int .u8 (tk 2),.int .u8 (tk 3),.int .u8 (tk 4),.int .u8 (tk 5),.int .u8 (tk 6),.int .u8 (tk 7)] 30)
 refine actL (w':=w.alloc (.cells #[.int .u8 (tk 0),.int .u8 (tk 1),.int .u8 (tk 2),.int .u8 (tk 3),.int .u8 (tk 4),.int .u8 (tk 5),.int .u8 (tk 6),.int .u8 (tk 7)] 30)) (.pointer (some ⟨w.heap.size,0,none⟩)) rfl (by kernel_rfl) ?_; simp only [aP,lI,l0,lS]; replace V:=ownsRow_bel V hlb; replace OF:=OF.below hlb
 replace M:=M.box #[.int .u8 (tk 0),.int .u8 (tk 1),.int .u8 (tk 2),.int .u8 (tk 3),.int .u8 (tk 4),.int .u8 (tk 5),.int .u8 (tk 6),.int .u8 (tk 7)] 30 w.heap.size rfl; clear hlb; generalize w.alloc (.cells #[.int .u8 (tk 0),.int .u8 (tk 1),.int .u8 (tk 2),.int .u8 (tk 3),.int .u8 (tk 4),.int .u8 (tk 5),.int .u8 (tk 6),.int .u8 (tk 7)] 30)=w1 at M V OF ⊢
 generalize w.heap.size=B1 at M ⊢
 replace M:Mm w0 ((B1,[.int .u8 (tk 0),.int .u8 (tk 1),.int .u8 (tk 2),.int .u8 (tk 3),.int .u8 (tk 4),.int .u8 (tk 5),.int .u8 (tk 6),.int .u8 (tk 7)])::(R,[.slice sp L.length cap])::(obs sp++l)) w1:=M
 refine xpL (.int .i64 0) ?_; refine xT ?_
 by_cases hm:pmay (tof L) id=0
 · obtain ⟨hd0,hd1,hs0,_,hk⟩:=pmay_ok hm
   obtain ⟨k,rfl⟩:∃ k:Nat,id=(k:Int):=⟨id.toNat,by omega⟩
   rw [pix_nat9 (show k<256 by omega)] at hs0 hk
   go_upto_region 1 with fail; refine wp_region_list ?_; refine xpL (.pointer (some ⟨R,0,none⟩)) ?_; refine xpL (.int .i64 ((k:Nat):Int)) ?_; have key:=dmay20_any w1 w0.heap.size R L sp cap hl (M.get (mT _ mS) 0 _ rfl) V hw ((k:Nat):Int)
   rw [hm] at key
   refine xcL key ?_; clear key; rintro e w2 ⟨rfl,l_⟩; replace M:=M.call l_; replace V:=ownsRow_bel V l_; replace OF:=OF.below l_; clear l_; refine xeL ?_; refine xpL (.int .i64 ((0:Nat):Int)) ?_; refine xT ?_; go_upto_region 2 with fail; refine wp_region_list ?_; refine xpL (.int .i64 ((0:Nat):Int)) ?_; refine xaL (.bool true) (eqlI .i64 _ _ _ _ _ _ rfl rfl rfl true rfl _) ?_
   refine xT ?_; go_upto_region 3 with fail; have hdr:=(Below.refl w2.heap.size w2).drew; replace M:=M.drew; replace V:=ownsRow_bel V hdr; replace OF:=OF.below hdr; clear hdr
   refine wp_region_C (S:=fun w'=>Mm w0 [(B1,[.int .u8 (tk 0),.int .u8 (tk 1),.int .u8 (tk 2),.int .u8 (tk 3),.int .u8 (tk 4),.int .u8 (tk 5),.int .u8 (tk 6),.int .u8 (tk 7)]),(R,[.slice sp L.length cap])] w') 14 (by kernel_rfl) (M.sub _ (List.cons_sublist_cons.2 (List.cons_sublist_cons.2 (List.nil_sublist _)))) ?_; intro _; generalize w2.drew=w3 at M V OF ⊢
   refine readC (i:=0) (some 15) rfl (.pointer (some ⟨R,0,none⟩)) rfl rfl (by kernel_rfl) rfl (fun _ M=>(by kernel_rfl)) (by kernel_rfl) (by kernel_rfl) (by kernel_rfl) (by kernel_rfl) (fun _ _ _ h=>h) (M.sub _ (List.cons_sublist_cons.2 (List.cons_sublist_cons.2 (List.nil_sublist _)))) ?_; simp only [aP,lI,l0,lS]
   refine readC (i:=1) (some 16) rfl (.pointer (some ⟨R,0,none⟩)) rfl rfl (by kernel_rfl) rfl (fun _ M=>(by kernel_rfl)) (by kernel_rfl) (by kernel_rfl) (by kernel_rfl) (by kernel_rfl) (fun _ _ _ h=>h) (M.sub _ (List.cons_sublist_cons.2 (List.cons_sublist_cons.2 (List.nil_sublist _)))) ?_; simp only [aP,lI,l0,lS]
   refine readC (i:=2) (some 17) rfl (.pointer (some ⟨R,0,none⟩)) rfl rfl (by kernel_rfl) rfl (fun _ M=>(by kernel_rfl)) (by kernel_rfl) (by kernel_rfl) (by kernel_rfl) (by kernel_rfl) (fun _ _ _ h=>h) (M.sub _ (List.cons_sublist_cons.2 (List.cons_sublist_cons.2 (List.nil_sublist _)))) ?_; simp only [aP,lI,l0,lS]
   refine readC (i:=3) (some 18) rfl (.pointer (some ⟨R,0,none⟩)) rfl rfl (by kernel_rfl) rfl (fun _ M=>(by kernel_rfl)) (by kernel_rfl) (by kernel_rfl) (by kernel_rfl) (by kernel_rfl) (fun _ _ _ h=>h) (M.sub _ (List.cons_sublist_cons.2 (List.cons_sublist_cons.2 (List.nil_sublist _)))) ?_; simp only [aP,lI,l0,lS]
   refine readC (i:=4) (some 19) rfl (.slice sp L.length cap) rfl rfl (by kernel_rfl) rfl (fun _ M=>load1 27 _ ⟨R,0,none⟩ _ rfl rfl (fun _=>by kernel_rfl) (M.get (mT _ mS) 0 _ rfl)) (by kernel_rfl) (by kernel_rfl) (by kernel_rfl) (by kernel_rfl) (fun _ _ _ h=>h) (M.sub _ (List.cons_sublist_cons.2 (List.cons_sublist_cons.2 (List.nil_sublist _)))) ?_; simp only [aP,lI,l0,lS]
   refine readC (i:=5) (some 20) rfl (.int .i64 ((k:Nat):Int)) rfl rfl (by kernel_rfl) rfl (fun _ M=>(by kernel_rfl)) (by kernel_rfl) (by kernel_rfl) (by kernel_rfl) (by kernel_rfl) (fun _ _ _ h=>h) (M.sub _ (List.cons_sublist_cons.2 (List.cons_sublist_cons.2 (List.nil_sublist _)))) ?_; simp only [aP,lI,l0,lS]
   refine readC (i:=6) (some 21) rfl (.int .i64 now) rfl rfl (by kernel_rfl) rfl (fun _ M=>(by kernel_rfl)) (by kernel_rfl) (by kernel_rfl) (by kernel_rfl) (by kernel_rfl) (fun _ _ _ h=>h) (M.sub _ (List.cons_sublist_cons.2 (List.cons_sublist_cons.2 (List.nil_sublist _)))) ?_; simp only [aP,lI,l0,lS]
   refine readC (i:=8) (some 23) rfl (.agg #[.int .u8 (tk 0),.int .u8 (tk 1),.int .u8 (tk 2),.int .u8 (tk 3),.int .u8 (tk 4),.int .u8 (tk 5),.int .u8 (tk 6),.int .u8 (tk 7)]) rfl rfl (by kernel_rfl) rfl (fun _ M=>loadN 30 _ ⟨B1,0,none⟩ [.int .u8 (tk 0),.int .u8 (tk 1),.int .u8 (tk 2),.int .u8 (tk 3),.int .u8 (tk 4),.int .u8 (tk 5),.int .u8 (tk 6),.int .u8 (tk 7)] rfl rfl (fun _=>by kernel_rfl) (fun _=>by kernel_rfl) (M.rangeAt mS)) (by kernel_rfl) (by kernel_rfl) (by kernel_rfl) (by kernel_rfl) (fun _ _ _ h=>h) (M.sub _ (List.cons_sublist_cons.2 (List.cons_sublist_cons.2 (List.nil_sublist _)))) ?_
   simp only [aP,lI,l0,lS]; have key:=dmom20_any now w3; refine callMC (i:=7) (some 22) rfl (by kernel_rfl) rfl rfl (fun _=>by kernel_rfl) key ?_; clear key; rintro e w4 ⟨rfl,l_⟩; replace M:=M.call l_; replace V:=ownsRow_bel V l_; replace OF:=OF.below l_; clear l_
   refine ⟨_,rfl,(M.sub _ (List.cons_sublist_cons.2 (List.cons_sublist_cons.2 (List.nil_sublist _)))),?_⟩
   simp only [aP,lI,l0,lS]
   refine readC (i:=9) (some 24) rfl (.agg #[.int .i64 ((k:Nat):Int),.int .i64 1,.int .i64 100,.int .i64 0,.int .i64 ((pmom now:Nat):Int),.int .u8 (tk 0),.int .u8 (tk 1),.int .u8 (tk 2),.int .u8 (tk 3),.int .u8 (tk 4),.int .u8 (tk 5),.int .u8 (tk 6),.int .u8 (tk 7)]) rfl rfl (by kernel_rfl) rfl (fun _ M=>(by kernel_rfl)) (by kernel_rfl) (by kernel_rfl) (by kernel_rfl) (by kernel_rfl) (fun _ _ _ h=>h) (M.sub _ (List.cons_sublist_cons.2 (List.cons_sublist_cons.2 (List.nil_sublist _)))) ?_
   simp only [aP,lI,l0,lS]; have hlb:=(Below.refl w4.heap.size w4).alloc (xnR _) (.cells #[.int .i64 ((k:Nat):Int),.int .i64 1,.int .i64 100,.int .i64 0,.int .i64 ((pmom now:Nat):Int),.int .u8 (tk 0),.int .u8 (tk 1),.int .u8 (tk 2),.int .u8 (tk 3),.int .u8 (tk 4),.int .u8 (tk 5),.int .u8 (tk 6),.int .u8 (tk 7)] 57)
   have T_n:=World.ownsRow.cells (World.ownsRow_lit (base:=w4.heap.size) (e:=57) (size:=13) w4 #[.int .i64 ((k:Nat):Int),.int .i64 1,.int .i64 100,.int .i64 0,.int .i64 ((pmom now:Nat):Int),.int .u8 (tk 0),.int .u8 (tk 1),.int .u8 (tk 2),.int .u8 (tk 3),.int .u8 (tk 4),.int .u8 (tk 5),.int .u8 (tk 6),.int .u8 (tk 7)] 1 (xnR _) (by unfold maxLen; omega) rfl) (g:=w4.heap.size) rfl
   replace V:=ownsRow_bel V hlb; replace OF:=OF.below hlb; replace M:=M.call hlb; clear hlb
   refine onlyC (i:=10) (w':=w4.alloc (.cells #[.int .i64 ((k:Nat):Int),.int .i64 1,.int .i64 100,.int .i64 0,.int .i64 ((pmom now:Nat):Int),.int .u8 (tk 0),.int .u8 (tk 1),.int .u8 (tk 2),.int .u8 (tk 3),.int .u8 (tk 4),.int .u8 (tk 5),.int .u8 (tk 6),.int .u8 (tk 7)] 57)) (some 25) rfl (.slice (some ⟨w4.heap.size,0,none⟩) 1 1) (by kernel_rfl) rfl rfl (by kernel_rfl) (M.sub _ (List.cons_sublist_cons.2 (List.cons_sublist_cons.2 (List.nil_sublist _)))) ?_
   simp only [aP,lI,l0,lS]; generalize w4.alloc (.cells #[.int .i64 ((k:Nat):Int),.int .i64 1,.int .i64 100,.int .i64 0,.int .i64 ((pmom now:Nat):Int),.int .u8 (tk 0),.int .u8 (tk 1),.int .u8 (tk 2),.int .u8 (tk 3),.int .u8 (tk 4),.int .u8 (tk 5),.int .u8 (tk 6),.int .u8 (tk 7)] 57)=w5 at M T_n V OF ⊢; generalize w4.heap.size=bz at T_n ⊢
   obtain ⟨v2,w6,hr,V2,hgr,hg2⟩:=run_append_OwnV (P:=Try.prog) (ty:=27) Try.underlying27 manyP13 rfl (by decide) V ⟨bz,0,none⟩ 1 1 [.int .i64 ((k:Nat):Int),.int .i64 1,.int .i64 100,.int .i64 0,.int .i64 ((pmom now:Nat):Int),.int .u8 (tk 0),.int .u8 (tk 1),.int .u8 (tk 2),.int .u8 (tk 3),.int .u8 (tk 4),.int .u8 (tk 5),.int .u8 (tk 6),.int .u8 (tk 7)] rfl T_n (List.all_eq_true.1 (rfl:([.int .i64 ((k:Nat):Int),.int .i64 1,.int .i64 100,.int .i64 0,.int .i64 ((pmom now:Nat):Int),.int .u8 (tk 0),.int .u8 (tk 1),.int .u8 (tk 2),.int .u8 (tk 3),.int .u8 (tk 4),.int .u8 (tk 5),.int .u8 (tk 6),.int .u8 (tk 7)]:List Value).all (fun u=>u.oneCell')=true)) (by unfold maxLen; omega) (by omega) M.below.size
   have Mp:=M.perm (pull0 ([(B1,[.int .u8 (tk 0),.int .u8 (tk 1),.int .u8 (tk 2),.int .u8 (tk 3),.int .u8 (tk 4),.int .u8 (tk 5),.int .u8 (tk 6),.int .u8 (tk 7)]),(R,[.slice sp L.length cap])]:List (Nat × List Value)) (obs sp) l)
   obtain ⟨sv,cv,rfl,_,_⟩:=row_form16 V2
   have M':=Mp.rowApp V hgr V2 hg2 (xnR _)
   replace OF:=OF.grown hgr (fun b_ hb_=>.inl (mT _ ((ob_own _ _ _ b_).1 hb_))); have M2:=M'.perm (pull0 ([(B1,[.int .u8 (tk 0),.int .u8 (tk 1),.int .u8 (tk 2),.int .u8 (tk 3),.int .u8 (tk 4),.int .u8 (tk 5),.int .u8 (tk 6),.int .u8 (tk 7)]),(R,[.slice sp L.length cap])]:List (Nat × List Value)) (obs sv) l).symm
   refine onlyC (i:=11) (some 26) rfl (_) (by kernel_rfl) rfl rfl (appendOp _ _ 27 _ _ _ rfl rfl rfl hr) (M2.sub _ (List.cons_sublist_cons.2 (List.cons_sublist_cons.2 (List.nil_sublist _)))) ?_; simp only [aP,lI,l0,lS]; clear M2; clear hr hgr hg2 M Mp V T_n
   rw [show L.length+1=(L++[(k,(⟨1,100,0,pmom now,tk⟩:Pth))]).length by rw [List.length_append]; rfl] at V2 ⊢
   rw [show prc L++[.int .i64 ((k:Nat):Int),.int .i64 1,.int .i64 100,.int .i64 0,.int .i64 ((pmom now:Nat):Int),.int .u8 (tk 0),.int .u8 (tk 1),.int .u8 (tk 2),.int .u8 (tk 3),.int .u8 (tk 4),.int .u8 (tk 5),.int .u8 (tk 6),.int .u8 (tk 7)]=prc (L++[(k,(⟨1,100,0,pmom now,tk⟩:Pth))]) from (prc_app L [(k,(⟨1,100,0,pmom now,tk⟩:Pth))]).symm] at V2
   have V:=V2; clear V2; have M:=M'.perm (pull0 ([(B1,[.int .u8 (tk 0),.int .u8 (tk 1),.int .u8 (tk 2),.int .u8 (tk 3),.int .u8 (tk 4),.int .u8 (tk 5),.int .u8 (tk 6),.int .u8 (tk 7)]),(R,[.slice sp L.length cap])]:List (Nat × List Value)) (obs sv) l).symm; clear M'
   refine xqC 12 27 rfl (.pointer (some ⟨R,0,none⟩)) (fun _=>(by kernel_rfl)) (M.sub _ (List.cons_sublist_cons.2 (List.cons_sublist_cons.2 (List.nil_sublist _)))) ?_
   refine readC (i:=13) (some 28) rfl (.pointer (some ⟨R,0,none⟩)) rfl rfl (by kernel_rfl) rfl (fun _ M=>(by kernel_rfl)) (by kernel_rfl) (by kernel_rfl) (by kernel_rfl) (by kernel_rfl) (fun _ _ _ h=>h) (M.sub _ (List.cons_sublist_cons.2 (List.cons_sublist_cons.2 (List.nil_sublist _)))) ?_; simp only [aP,lI,l0,lS]; replace M:=M.swap
   refine skipC (S2:=fun _=>True) none rfl (by kernel_rfl) rfl rfl (storeAny (.slice sv ((L++[(k,(⟨1,100,0,pmom now,tk⟩:Pth))]).length) cv) R 0 27 _ _ rfl rfl rfl rfl rfl (M.isSome mS 0 (by simp)) (M.free mS 0 (by simp)) (by kernel_rfl)) (by kernel_rfl) ?_; simp only [Act.put]
   have ho:=(Off.refl [R] w6).set (b:=R) mS 0 (.slice sv ((L++[(k,(⟨1,100,0,pmom now,tk⟩:Pth))]).length) cv); replace V:=ownsRow_away V ho (fun b_ hb_=>by obtain rfl:=xm1 hb_; exact M.awayB (fun p_ hp_=>by simp [hp_])); replace OF:=OF.and1 ho (.inl mS); replace M:=M.set 0 (by simp) (.slice sv ((L++[(k,(⟨1,100,0,pmom now,tk⟩:Pth))]).length) cv); clear ho
   generalize w6.setCell ⟨R,0,none⟩ (.slice sv ((L++[(k,(⟨1,100,0,pmom now,tk⟩:Pth))]).length) cv)=w7 at M V OF ⊢
   replace M:Mm w0 ((R,[.slice sv ((L++[(k,(⟨1,100,0,pmom now,tk⟩:Pth))]).length) cv])::(B1,[.int .u8 (tk 0),.int .u8 (tk 1),.int .u8 (tk 2),.int .u8 (tk 3),.int .u8 (tk 4),.int .u8 (tk 5),.int .u8 (tk 6),.int .u8 (tk 7)])::(obs sv++l)) w7:=M
   refine wpAnyH_done (by kernel_rfl) ?_ _
   first | show Exit.then _ _ _ _ _ | show Exit.inBlock _ _ _ _ _
   go_upto_region 4 with fail; refine wp_region_list ?_; refine xpL (.int .i64 ((0:Nat):Int)) ?_; refine xpL (.int .i64 ((0:Nat):Int)) ?_; refine xT ?_
   have hpl:plc L k=L.length:=(tof_st hw k).1 hs0
   have hT:tof (L++[(k,(⟨1,100,0,pmom now,tk⟩:Pth))])=padd (tof L) ((k:Nat):Int) tk now:=by
    rw [tof_app hpl]
    unfold padd
    rw [if_pos hm,pix_nat9 hk]
   have HS:=show Hid _ from (show DSt w0 w w7 R l sp (padd (tof L) ((k:Nat):Int) tk now) from ⟨(L++[(k,(⟨1,100,0,pmom now,tk⟩:Pth))]),sv,cv,hT,hw.app hpl hk (show (1:Nat)≠0 by decide),M.sub _ (List.cons_sublist_cons.2 (List.sublist_cons_self _ _)),V,OF⟩); have hE:=show Hid _ from hm; clear M V OF; go_wp2; go_ret
   exact ⟨by rw [hE.out]; try rfl,HS.out⟩
 · go_upto_region 1 with fail
   refine wp_region_list ?_; refine xpL (.pointer (some ⟨R,0,none⟩)) ?_; refine xpL (.int .i64 id) ?_; have key:=dmay20_any w1 w0.heap.size R L sp cap hl (M.get (mT _ mS) 0 _ rfl) V hw id; refine xcL key ?_; clear key; rintro e w8 ⟨rfl,l_⟩; replace M:=M.call l_; replace V:=ownsRow_bel V l_; replace OF:=OF.below l_; clear l_; refine xeL ?_
   refine xpL (.int .i64 ((pmay (tof L) id:Nat):Int)) ?_; refine xT ?_; go_upto_region 2 with fail; refine wp_region_list ?_; refine xpL (.int .i64 ((pmay (tof L) id:Nat):Int)) ?_; refine xaL (.bool false) (eqlI .i64 _ _ _ _ _ _ rfl rfl rfl false (beq_eq_false_iff_ne.2 (by omega)) _) ?_; refine xT ?_; go_upto_region 4 with fail; refine wp_region_list ?_
   refine xpL (.int .i64 ((pmay (tof L) id:Nat):Int)) ?_; refine xpL (.int .i64 ((pmay (tof L) id:Nat):Int)) ?_; refine xT ?_; have HS:=show Hid _ from (show DSt w0 w w8 R l sp (padd (tof L) id tk now) from ⟨L,sp,cap,(if_neg hm).symm,hw,M.tail,V,OF⟩); clear M V OF; go_wp2; go_ret
   exact ⟨rfl,HS.out⟩
def pdP (t:Ptb) (m b:Nat):Ptb:=fun k=>if k<b then pdt t m k else t k
def plP (t:Ptb) (m b:Nat):List Int:=((List.range b).filter fun k=>pdw t m k&&(t k).tr != 4).map fun k:Nat=>(k:Int)
theorem pdt_not {t:Ptb} {m k:Nat} (h:(t k).st≠1):pdt t m k=t k:=by
 unfold pdt
 rw [if_neg]
 unfold pdw
 rw [decide_eq_false fun e=>h e.1]
 decide
theorem pdP_zero (t:Ptb) (m:Nat):pdP t m 0=t:=funext fun _=>if_neg (xnZ _)
theorem pdP_all {t:Ptb} (h:PtbW t) (m:Nat):pdP t m 256=pdt t m:=funext fun k=>by
 unfold pdP
 split
 · rfl
 · next c=>rw [pdt_not (by rw [h.z k (by omega)]; decide)]
theorem pdP_skip {t:Ptb} {m b:Nat} (h:(t b).st≠1):pdP t m (b+1)=pdP t m b:=funext fun k=>by
 unfold pdP
 by_cases c:k<b
 · rw [if_pos c,if_pos (by omega)]
 · by_cases d:k=b
   · subst d
     rw [if_pos (by omega),if_neg c,pdt_not h]
   · rw [if_neg c,if_neg (by omega)]
theorem pdP_next (t:Ptb) (m b:Nat):pdP t m (b+1)=pput (pdP t m b) b (pdt t m b):=funext fun k=>by
 by_cases d:k=b
 · subst d
   rw [pput_same]
   exact if_pos (by omega)
 · rw [pput_other d]
   unfold pdP
   by_cases c:k<b
   · rw [if_pos c,if_pos (by omega)]
   · rw [if_neg c,if_neg (by omega)]
theorem pdP_at (t:Ptb) (m b:Nat):pdP t m b b=t b:=if_neg (Nat.lt_irrefl b)
theorem plP_yes {t:Ptb} {m b:Nat} (h:pdw t m b=true) (h4:(t b).tr≠4):plP t m (b+1)=plP t m b++[((b:Nat):Int)]:=by
 unfold plP
 rw [List.range_succ,List.filter_append,List.map_append,List.filter_cons_of_pos (by rw [h,Bool.true_and,bne_iff_ne]; exact h4)]
 rfl
theorem plP_no {t:Ptb} {m b:Nat} (h:¬ (pdw t m b=true∧(t b).tr≠4)):plP t m (b+1)=plP t m b:=by
 unfold plP
 rw [List.range_succ,List.filter_append,List.map_append,List.filter_cons_of_neg (by rw [xbA,bne_iff_ne]; exact h)]
 simp
theorem plP_all (t:Ptb) (m:Nat):plP t m 256=pdl t m:=rfl
theorem plP_le (t:Ptb) (m b:Nat):(plP t m b).length≤b:=by
 unfold plP
 rw [List.length_map]
 exact xnT (List.length_filter_le _ _) (Nat.le_of_eq List.length_range)
theorem prowP_mono (t:Ptb) (s:Nat) {a b:Nat} (h:a≤b):∃ r,prowP t s b=prowP t s a++r:=by
 obtain ⟨d,rfl⟩:=Nat.exists_eq_add_of_le h
 induction d with
 | zero=>exact ⟨[],(List.append_nil _).symm⟩
 | succ d ih =>
   obtain ⟨r,hr⟩:=ih (by omega)
   by_cases c:(t (a+d)).st=s
   · exact ⟨r++[((a+d:Nat):Int)],by rw [show a+(d+1)=(a+d)+1 by omega,prowP_yes c,hr,List.append_assoc]⟩
   · exact ⟨r,by rw [show a+(d+1)=(a+d)+1 by omega,prowP_no c,hr]⟩
theorem next_new (t:Ptb) (m:Nat):∀ d b,b+d=256→(prowP t 1 b).length<(prow t 1).length→∃ k,b≤k∧k<256∧(t k).st=1∧(prow t 1)[(prowP t 1 b).length]?=some ((k:Nat):Int)∧(prowP t 1 (k+1)).length=(prowP t 1 b).length+1∧pdP t m k=pdP t m b∧plP t m k=plP t m b
 | 0,b,hb,h=>by
   obtain rfl:b=256:=by omega
   exact absurd h (Nat.lt_irrefl _)
 | d+1,b,hb,h=>by
   by_cases c:(t b).st=1
   · refine ⟨b,xnR _,by omega,c,?_,by rw [prowP_yes c,List.length_append]; rfl,rfl,rfl⟩
     obtain ⟨r,hr⟩:=prowP_mono t 1 (a:=b+1) (b:=256) (by omega)
     rw [prowP_yes c] at hr
     rw [← prowP_all t 1,hr,List.append_assoc,List.getElem?_append_right (xnR _),Nat.sub_self]
     rfl
   · have e:=prowP_no (t:=t) (s:=1) (n:=b) c
     obtain ⟨k,h1,h2,h3,h4,h5,h6,h7⟩:=next_new t m d (b+1) (by omega) (by rw [e]; exact h)
     rw [e] at h4 h5
     exact ⟨k,by omega,h2,h3,h4,h5,h6.trans (pdP_skip c),h7.trans (plP_no fun g=>c (of_decide_eq_true g.1).1)⟩
theorem last_new (t:Ptb) (m:Nat):∀ d b,b+d=256→¬ (prowP t 1 b).length<(prow t 1).length→pdP t m b=pdP t m 256∧plP t m b=plP t m 256
 | 0,b,hb,_=>by
   obtain rfl:b=256:=by omega
   exact ⟨rfl,rfl⟩
 | d+1,b,hb,h=>by
   by_cases c:(t b).st=1
   · obtain ⟨r,hr⟩:=prowP_mono t 1 (a:=b+1) (b:=256) (by omega)
     rw [prowP_yes c,prowP_all] at hr
     rw [hr,List.length_append,List.length_append,List.length_singleton] at h
     omega
   · have e:=prowP_no (t:=t) (s:=1) (n:=b) c
     obtain ⟨h1,h2⟩:=last_new t m d (b+1) (by omega) (by rw [e]; exact h)
     exact ⟨(pdP_skip c).symm.trans h1,(plP_no (t:=t) (m:=m) fun g=>c (of_decide_eq_true g.1).1).symm.trans h2⟩
theorem bl_get20 {l:List Int} {k:Nat} {x:Int} (h:l[k]?=some x):bl l k=x:=by
 unfold bl
 rw [List.getD_eq_getElem?_getD,h]
 rfl
theorem pdP_keep {t:Ptb} {m b:Nat} (h:pdt t m b=t b):pdP t m (b+1)=pdP t m b:=by
 rw [pdP_next,h]
 funext k
 by_cases c:k=b
 · subst c
   rw [pput_same,pdP_at]
 · rw [pput_other c]
theorem pput_pput (t:Ptb) (k:Nat) (p q:Pth):pput (pput t k p) k q=pput t k q:=by
 funext j
 by_cases c:j=k
 · subst c
   rw [pput_same,pput_same]
 · rw [pput_other c,pput_other c,pput_other c]
theorem shl20 {r t:Nat} (hr:r≤1099511627776) (ht:t≤4):IntKind.i64.wrap (((r:Nat):Int)*2^min ((t:Nat):Int).toNat IntKind.i64.bits)=((r*2^t:Nat):Int):=by
 have h2:2^t≤16:=Nat.pow_le_pow_right (n:=2) (by decide) (show t≤4 from ht)
 have h3:=Nat.mul_le_mul hr h2
 rw [show min ((t:Nat):Int).toNat IntKind.i64.bits=t by show min ((t:Nat):Int).toNat 64=t; omega,xw6]
 have e:((r:Nat):Int)*2^t=((r*2^t:Nat):Int):=by norm_cast
 rw [e]
 omega
theorem ddue20_any (w0 w:World) (R:Nat) (l:List (Nat × List Value)) (L:Prs) (sp:Option Addr) (cap:Nat) (hw:PrsW L) (M:Mm w0 ((R,[.slice sp L.length cap])::(obs sp++l)) w) (V:w.ownsRow w0.heap.size 57 13 (.slice sp L.length cap) L.length (prc L)) (hW:PtbW (tof L)) (now:Int) :
 Calls Try.prog 16 #[.pointer (some ⟨R,0,none⟩),.int .i64 now] w fun e w'=>∃ sq cq,e=.returned (.slice sq (pdl (tof L) (pmom now)).length cq)∧NewI w' w.heap.size (pdl (tof L) (pmom now)) (.slice sq (pdl (tof L) (pmom now)).length cq)∧∃ L',tof L'=pdt (tof L) (pmom now)∧PrsW L'∧Mm w0 ((R,[.slice sp L'.length cap])::(obs sp++(obs sq++l))) w'∧w'.ownsRow w0.heap.size 57 13 (.slice sp L'.length cap) L'.length (prc L')∧Off (R::ob sp) w w':=by
 have hlt0:∀ (c_:List Value),∀ p_∈((R,c_)::(obs sp++l)),p_.1<w.heap.size:=fun c_ p_ hp_=>by
  rcases xc1 hp_ with rfl | hp_
  · exact (M.rows _ mS).2.2
  · exact (M.rows p_ (mT _ hp_)).2.2
 have h00:=M.below.size
 have hsp:∀ b_∈ob sp,b_<w.heap.size:=fun b_ hb_=>(World.ownsRow.lt V b_ ((ob_own _ _ _ b_).2 hb_)).2
 have hl:=hw.len; have OF:=Off.refl (R::ob sp) w
 go_enter Try.func16,Try.ntmps16
 go_upto_region 0 with fail; refine wp_region_list ?_; refine xpL (.slice none 0 0) ?_; refine xT ?_; go_upto_region 1 with fail; refine wp_region_list ?_; refine xpL (.int .i64 now) ?_; have key:=dmom20_any now w; refine xcL key ?_; clear key; rintro e w1 ⟨rfl,l_⟩; replace M:=M.call l_; replace V:=ownsRow_bel V l_; replace OF:=OF.below l_; clear l_; refine xeL ?_
 refine xpL (.int .i64 ((pmom now:Nat):Int)) ?_; refine xT ?_; go_upto_region 2 with fail; refine wp_region_list ?_; refine xpL (.slice none 0 0) ?_; refine xT ?_; go_upto_region 3 with fail; refine wp_region_list ?_; refine xpL (.pointer (some ⟨R,0,none⟩)) ?_; have hz0:=OF.size; have key:=drow20_any w1 w0.heap.size R L sp cap hl (M.get mS 0 _ rfl) V hw 1; refine xcL key ?_; clear key
 rintro e w2 ⟨sa,ca,rfl,N_a,l_⟩; replace M:=M.call l_; replace V:=ownsRow_bel V l_; replace OF:=OF.below l_; clear l_; refine xeL ?_; refine xpL (.slice sa ((prow (tof L) 1).length) ca) ?_; refine xT ?_; go_upto_region 4 with fail; refine wp_region_list ?_; refine xpL (.int .i64 0) ?_; refine xT ?_
 replace N_a:NewI w2 w.heap.size (prow (tof L) 1) (.slice sa (prow (tof L) 1).length ca):=by
  obtain ⟨h1_,h2_,h3_,h4_⟩:=N_a.parts
  exact ⟨sa,ca,rfl,h1_,h2_,h3_,fun a_ e_=>⟨xnT hz0 (h4_ a_ e_).1,(h4_ a_ e_).2⟩⟩
 have hsa0:∀ b_∈ob sa,b_<w2.heap.size:=fun b_ hb_=>by
  rcases sa with _ | a_
  · cases hb_
  · obtain rfl:=xm1 hb_
    exact (N_a.parts.2.2.2 a_ rfl).2
 have V_l:OwnI w2 w2.heap.size (plP (tof L) (pmom now) 0) (.slice none 0 0):=⟨rfl,.inl ⟨rfl,rfl⟩⟩
 obtain ⟨zb,hzb_⟩:∃ z_,z_=w2.heap.size:=⟨_,rfl⟩
 have hz1:w.heap.size≤zb:=by rw [hzb_]; exact OF.size
 have hsa:∀ b_∈ob sa,b_<zb:=by rw [hzb_]; exact hsa0
 have hsb:∀ b_∈ob sa,w.heap.size≤b_:=fun b_ hb_=>by
  rcases sa with _ | a_
  · cases hb_
  · obtain rfl:=xm1 hb_
    exact (N_a.parts.2.2.2 a_ rfl).1
 have hz2:zb≤w2.heap.size:=by rw [hzb_]; exact xnR _
 rw [← hzb_] at V_l
 clear hzb_ hsa0
 obtain ⟨t0,ht0⟩:∃ t_,t_=tof L:=⟨_,rfl⟩
 have hW0:=hW
 rw [← ht0] at hW0 V_l N_a ⊢
 have HI:=show Hid _ from (show Mm w0 ((R,[.slice sp L.length cap])::(obs sp++l)) w2∧w2.ownsRow w0.heap.size 57 13 (.slice sp L.length cap) L.length (prc L)∧Off (R::ob sp) w w2∧OwnI w2 zb (plP t0 (pmom now) 0) (.slice none (plP t0 (pmom now) 0).length 0)∧NewI w2 w.heap.size (prow t0 1) (.slice sa (prow t0 1).length ca)∧zb≤w2.heap.size from ⟨M,V,OF,V_l,N_a,hz2⟩)
 have hT0:=show Hid _ from (show tof L=pdP t0 (pmom now) 0 from by rw [pdP_zero,ht0]); replace ht0:=show Hid _ from ht0; clear M V OF V_l N_a hz2; go_wp2
 go_loopw [5,7] (fun l_ v_ w'=>∃ (b:Nat) (L':Prs) (sq:Option Addr) (cq:Nat),b≤256∧l_=.slice sq (plP t0 (pmom now) b).length cq∧v_=.int .i64 (((prowP t0 1 b).length:Nat):Int)∧Hid (tof L'=pdP t0 (pmom now) b)∧PrsW L'∧Mm w0 ((R,[.slice sp L'.length cap])::(obs sp++l)) w'∧w'.ownsRow w0.heap.size 57 13 (.slice sp L'.length cap) L'.length (prc L')∧Off (R::ob sp) w w'∧OwnI w' zb (plP t0 (pmom now) b) (.slice sq (plP t0 (pmom now) b).length cq)∧NewI w' w.heap.size (prow t0 1) (.slice sa (prow t0 1).length ca)∧zb≤w'.heap.size) (fun _ v_ _=>257-(intOf v_).toNat)
 case atStart=>exact ⟨0,L,none,0,by omega,rfl,rfl,hT0,hw,HI.out⟩
 case round =>
  clear HI hT0 hl
  obtain ⟨b,L,sq,cq,hb,rfl,rfl,hTh,hw,M,V,OF,V_l,N_a,hz2⟩:=hrel
  have hT:=hTh.out; clear hTh; have hl:=hw.len; have hpl:=plP_le t0 (pmom now) b
  obtain ⟨k,hkd⟩:∃ k_,k_=(prowP t0 1 b).length:=⟨_,rfl⟩
  have hpk:=prowP_le t0 1 b
  rw [← hkd]
  rw [← hkd] at hpk
  by_cases hk:k<(prow t0 1).length
  · obtain ⟨kk,hbk,hk2,hs1,hget,hlen1,hp1,hp2⟩:=next_new t0 (pmom now) (256-b) b (by omega) (by rw [← hkd]; exact hk)
    rw [← hkd] at hget hlen1
    obtain ⟨id,hid⟩:∃ id_:Int,id_=((kk:Nat):Int):=⟨_,rfl⟩
    have hpx:pix id=kk:=by rw [hid]; exact pix_nat9 hk2
    have hbl:bl (prow t0 1) k=id:=by rw [bl_get20 hget,hid]
    obtain ⟨ada,hada⟩:=N_a.someE hk
    have htk:tof L kk=t0 kk:=by rw [hT,← hp1,pdP_at]
    rcases plI_cases hw id with ⟨h1,h2⟩ | ⟨i,p,h1,h2,h3,h4,h5,h6,h7⟩
    · rw [hpx,htk] at h2
      rw [h2] at hs1
      cases hs1
    have hlt:=h2
    have hp:p=t0 kk:=by rw [← h5,hpx,htk]
    have hps:p.st=1:=by rw [hp]; exact hs1
    have hpw:=hW0.w kk
    rw [← hp] at hpw
    have hpr:=hpw.r; have hpt:=hpw.t; have hmm:=pmom_le now; go_upto_region 5 with fail; refine wp_region_list ?_; refine xpL (.int .i64 ((k:Nat):Int)) ?_; refine xpL (.slice sa ((prow t0 1).length) ca) ?_; refine readL (.int .i64 (((prow t0 1).length:Nat):Int)) rfl (lenS _ 38 3 sa ((prow t0 1).length) ca rfl Try.underlying38 rfl _) ?_; simp only [aP,lI,l0,lS]
    refine xaL (.bool true) (lssI .i64 _ _ _ _ _ _ rfl rfl rfl true (decide_eq_true (by omega)) _) ?_; refine xT ?_
    obtain ⟨g,hg⟩:∃ g,sp=some ⟨g,0,none⟩:=by
     rcases V.2 with ⟨_,h0_⟩ | ⟨g,c_,cur_,hv_,_⟩
     · omega
     · injection hv_ with hv_ _ _
       exact ⟨g,hv_⟩
    go_upto_region 7 with fail; have hdr:=(Below.refl wr.heap.size wr).drew; replace M:=M.drew; replace V:=ownsRow_bel V hdr; replace OF:=OF.below hdr; replace V_l:=Own.below V_l hdr; replace N_a:=NewI.below N_a hdr; replace hz2:=xnT hz2 hdr.size; clear hdr
    refine wp_region_held_drew (S:=fun w'=>Mm w0 ((R,[.slice sp L.length cap])::(obs sp++l)) w'∧w'.ownsRow w0.heap.size 57 13 (.slice sp L.length cap) L.length (prc L)∧NewI w' w.heap.size (prow t0 1) (.slice sa (prow t0 1).length ca)) (by kernel_rfl) ⟨M,V,N_a⟩ ?_; intro _; generalize wr.drew=w3 at M V OF V_l N_a hz2 ⊢
    refine xrH 0 19 rfl (.pointer (some ⟨R,0,none⟩)) (fun _ hS=>(by kernel_rfl)) ⟨M,V,N_a⟩ ?_; refine xrH 1 20 rfl (.pointer (some ⟨R,0,none⟩)) (fun _ hS=>(by kernel_rfl)) ⟨M,V,N_a⟩ ?_; refine xrH 2 21 rfl (.pointer (some ⟨R,0,none⟩)) (fun _ hS=>(by kernel_rfl)) ⟨M,V,N_a⟩ ?_
    refine xrH 3 22 rfl (.slice sp L.length cap) (fun _ hS=>load1 27 _ ⟨R,0,none⟩ _ rfl rfl (fun _=>by kernel_rfl) (hS.1.get mS 0 _ rfl)) ⟨M,V,N_a⟩ ?_; refine xrH 4 23 rfl (.pointer (some ⟨R,0,none⟩)) (fun _ hS=>(by kernel_rfl)) ⟨M,V,N_a⟩ ?_; refine xrH 5 24 rfl (.slice sa ((prow t0 1).length) ca) (fun _ hS=>(by kernel_rfl)) ⟨M,V,N_a⟩ ?_
    refine xrH 6 25 rfl (.int .i64 ((k:Nat):Int)) (fun _ hS=>(by kernel_rfl)) ⟨M,V,N_a⟩ ?_; refine xrH 7 26 rfl (.pointer (some (ada.add k))) (fun _ hS=>idxSlE 38 3 _ _ .i64 sa ada hada k _ _ Try.underlying38 (fun _=>by kernel_rfl) hk rfl rfl rfl _) ⟨M,V,N_a⟩ ?_
    refine xrH 8 27 rfl (.int .i64 id) (fun _ hS=>load1 3 _ (ada.add k) _ rfl rfl (fun _=>by kernel_rfl) ((SrcI.atE hS.2.2.src hada hk).trans (by rw [hbl]))) ⟨M,V,N_a⟩ ?_; have key:=dat20_any w3 w0.heap.size R L sp cap hl (M.get mS 0 _ rfl) V id
    rw [h1] at key
    refine callH (i:=9) (some 28) rfl (by kernel_rfl) rfl rfl (fun _=>by kernel_rfl) key ?_; clear key; rintro e w4 ⟨rfl,l_⟩; replace M:=M.call l_; replace V:=ownsRow_bel V l_; replace OF:=OF.below l_; replace V_l:=Own.below V_l l_; replace N_a:=NewI.below N_a l_; replace hz2:=xnT hz2 l_.size; clear l_
    refine ⟨_,rfl,⟨M,V,N_a⟩,?_⟩
    simp only [aP,lI,l0,lS]; refine xrH 10 29 rfl (.pointer (some ⟨g,i*13,none⟩)) (fun _ hS=>idxP13 g _ _ i sp hg (List.getElem?_eq_some_iff.1 h3).1 _ _ rfl rfl rfl _) ⟨M,V,N_a⟩ ?_; refine xrH 11 8 rfl (.pointer (some ⟨g,i*13,none⟩)) (fun _ hS=>(by kernel_rfl)) ⟨M,V,N_a⟩ ?_
    refine wpAnyH_done (by kernel_rfl) ?_ _
    first | show Exit.then _ _ _ _ _ | show Exit.inBlock _ _ _ _ _
    by_cases hnx:p.nx>pmom now
    · go_upto_region 8 with fail
      refine wp_region_list ?_; refine xpL (.pointer (some ⟨g,i*13,none⟩)) ?_; refine xpL (.pointer (some ⟨g,i*13,none⟩)) ?_; refine xpL (.pointer (some ⟨g,i*13+4,none⟩)) ?_; refine readL (.int .i64 (((pix id,p).2.nx:Nat):Int)) rfl (load1 3 _ ⟨g,i*13+4,none⟩ _ rfl rfl (fun _=>by kernel_rfl) (rowCellP V hg ((prc_get h3 (by decide)).trans rfl))) ?_
      simp only [aP,lI,l0,lS]; refine xpL (.int .i64 ((pmom now:Nat):Int)) ?_; refine xaL (.bool true) (gtrI .i64 _ _ _ _ _ _ rfl rfl rfl true (decide_eq_true (by omega)) _) ?_; refine xT ?_
      have hdw:pdw t0 (pmom now) kk=false:=decide_eq_false (fun h_=>by rw [← hp] at h_; omega)
      have hdt:pdt t0 (pmom now) kk=t0 kk:=if_neg (by rw [hdw]; decide)
      have hT9:=show Hid _ from (show tof L=pdP t0 (pmom now) (kk+1) from by rw [pdP_keep hdt,hp1,hT])
      have hL9:(plP t0 (pmom now) (kk+1))=(plP t0 (pmom now) b):=(plP_no (t:=t0) (m:=pmom now) (b:=kk) (fun h_=>by rw [hdw] at h_; cases h_.1)).trans hp2
      rw [← hL9] at V_l ⊢
      have HS:=show Hid _ from (show Mm w0 ((R,[.slice sp L.length cap])::(obs sp++l)) w4∧w4.ownsRow w0.heap.size 57 13 (.slice sp L.length cap) L.length (prc L)∧Off (R::ob sp) w w4∧OwnI w4 zb (plP t0 (pmom now) (kk+1)) (.slice sq (plP t0 (pmom now) (kk+1)).length cq)∧NewI w4 w.heap.size (prow t0 1) (.slice sa (prow t0 1).length ca)∧zb≤w4.heap.size from ⟨M,V,OF,V_l,N_a,hz2⟩)
      have hk9:=show Hid _ from hlen1; clear M V OF V_l N_a hz2 hL9 hT hlen1 hkd hbl hget hp1 hp2 htk hid
      try clear hpx
      try clear hp
      try clear hdt
      try clear hdw
      go_wp2
      go_roundw
      case rel=>exact ⟨kk+1,L,sq,cq,by omega,rfl,by rw [hk9.out]; go_num,hT9,hw,HS.out⟩
      case measure=>simp [intOf]; omega
    · by_cases htr:p.tr=4
      · go_upto_region 8 with fail
        refine wp_region_list ?_; refine xpL (.pointer (some ⟨g,i*13,none⟩)) ?_; refine xpL (.pointer (some ⟨g,i*13,none⟩)) ?_; refine xpL (.pointer (some ⟨g,i*13+4,none⟩)) ?_; refine readL (.int .i64 (((pix id,p).2.nx:Nat):Int)) rfl (load1 3 _ ⟨g,i*13+4,none⟩ _ rfl rfl (fun _=>by kernel_rfl) (rowCellP V hg ((prc_get h3 (by decide)).trans rfl))) ?_
        simp only [aP,lI,l0,lS]; refine xpL (.int .i64 ((pmom now:Nat):Int)) ?_; refine xaL (.bool false) (gtrI .i64 _ _ _ _ _ _ rfl rfl rfl false (decide_eq_false (by omega)) _) ?_; refine xT ?_; go_upto_region 9 with fail; refine wp_region_list ?_; refine xpL (.pointer (some ⟨g,i*13,none⟩)) ?_; refine xpL (.pointer (some ⟨g,i*13,none⟩)) ?_
        refine xpL (.pointer (some ⟨g,i*13+3,none⟩)) ?_; refine readL (.int .i64 (((pix id,p).2.tr:Nat):Int)) rfl (load1 3 _ ⟨g,i*13+3,none⟩ _ rfl rfl (fun _=>by kernel_rfl) (rowCellP V hg ((prc_get h3 (by decide)).trans rfl))) ?_; simp only [aP,lI,l0,lS]; refine xaL (.bool true) (eqlI .i64 _ _ _ _ _ _ rfl rfl rfl true (beq_iff_eq.2 (by omega)) _) ?_; refine xT ?_
        go_upto_region 10 with fail; refine wp_region_list ?_; refine xpL (.pointer (some ⟨g,i*13,none⟩)) ?_; refine xpL (.pointer (some ⟨g,i*13,none⟩)) ?_; refine xpL (.pointer (some ⟨g,i*13+1,none⟩)) ?_
        obtain ⟨hsf,M',V2,oS⟩:=(M.perm (pull0 [(R,[Value.slice sp L.length cap])] (obs sp) l)).putRow V hg (xnR _) (i*13+1) (by rw [prc_len]; omega) (.int .i64 4)
        refine skipOpL rfl (storeAny (.int .i64 4) g (i*13+1) 3 _ _ rfl rfl rfl rfl rfl hsf.1 hsf.2 (by kernel_rfl)) ?_; simp only [Act.put]; replace OF:=OF.trans (oS.mono (fun x_ hx_=>mT _ hx_)); replace hz2:=xnT hz2 oS.size; replace V_l:=ownsRow_low V_l oS (fun b_ hb_=>xnL (hsp _ hb_) hz1)
        replace N_a:=N_a.offB oS (fun b_ hb_ hm_=>by have h1_:=hsp _ hb_; have h2_:=hsb _ hm_; omega); clear M hsf oS V
        rw [prc_set h3 _ (pix id,{ p with st:=4 }) (by decide) rfl] at V2
        have V:=V2; clear V2; generalize w4.setCell ⟨g,i*13+1,none⟩ (.int .i64 4)=w5 at M' V OF V_l N_a hz2 ⊢; have M:=M'.perm (pull0 [(R,[Value.slice sp L.length cap])] (obs sp) l).symm; clear M'
        have hlen:(L.set i (pix id,{ p with st:=4 })).length=L.length:=List.length_set
        have hw_:=hw.set h3 (show ({ p with st:=4 }:Pth).st≠0 from (show (4:Nat)≠0 by decide))
        have hT_:tof (L.set i (pix id,{ p with st:=4 }))=pput (tof L) kk ({ p with st:=4 }):=by
         have h_:=tof_set (L:=L) (k:=pix id) (by rw [h4]; exact h3) ({ p with st:=4 })
         rw [h4] at h_
         rw [h_,hpx]
        have h3_:(L.set i (pix id,{ p with st:=4 }))[i]?=some (pix id,{ p with st:=4 }):=List.getElem?_set_self hlt
        have h4_:plc (L.set i (pix id,{ p with st:=4 })) (pix id)=i:=(plc_set _ h3 _).trans h4
        rw [← hlen] at M V hlt
        obtain ⟨L,hL1⟩:∃ L_,L_=L.set i (pix id,{ p with st:=4 }):=⟨_,rfl⟩
        rw [← hL1] at M V hlt hw_ hT_ h3_ h4_
        clear hlen h3 h4 hw; have hw:=hw_; have h3:=h3_; have h4:=h4_; clear hw_ h3_ h4_ hL1
        rw [hT] at hT_
        clear hT; have hT:=hT_; clear hT_; have hl:=hw.len; refine xT ?_
        have hdw:pdw t0 (pmom now) kk=true:=decide_eq_true (by rw [← hp]; exact ⟨hps,by omega⟩)
        have hdt:pdt t0 (pmom now) kk={ p with st:=4 }:=by unfold pdt; rw [if_pos hdw,if_pos (by rw [← hp]; omega),← hp]
        have hT9:=show Hid _ from (show tof L=pdP t0 (pmom now) (kk+1) from by rw [hT,pdP_next,hdt,hp1])
        have hL9:(plP t0 (pmom now) (kk+1))=(plP t0 (pmom now) b):=(plP_no (t:=t0) (m:=pmom now) (b:=kk) (fun h_=>by exact h_.2 (by rw [← hp]; omega))).trans hp2
        rw [← hL9] at V_l ⊢
        have HS:=show Hid _ from (show Mm w0 ((R,[.slice sp L.length cap])::(obs sp++l)) w5∧w5.ownsRow w0.heap.size 57 13 (.slice sp L.length cap) L.length (prc L)∧Off (R::ob sp) w w5∧OwnI w5 zb (plP t0 (pmom now) (kk+1)) (.slice sq (plP t0 (pmom now) (kk+1)).length cq)∧NewI w5 w.heap.size (prow t0 1) (.slice sa (prow t0 1).length ca)∧zb≤w5.heap.size from ⟨M,V,OF,V_l,N_a,hz2⟩)
        have hk9:=show Hid _ from hlen1; clear M V OF V_l N_a hz2 hL9 hT hlen1 hkd hbl hget hp1 hp2 htk hid
        try clear hpx
        try clear hp
        try clear hdt
        try clear hdw
        go_wp2
        go_roundw
        case rel=>exact ⟨kk+1,L,sq,cq,by omega,rfl,by rw [hk9.out]; go_num,hT9,hw,HS.out⟩
        case measure=>simp [intOf]; omega
      · go_upto_region 8 with fail
        refine wp_region_list ?_; refine xpL (.pointer (some ⟨g,i*13,none⟩)) ?_; refine xpL (.pointer (some ⟨g,i*13,none⟩)) ?_; refine xpL (.pointer (some ⟨g,i*13+4,none⟩)) ?_; refine readL (.int .i64 (((pix id,p).2.nx:Nat):Int)) rfl (load1 3 _ ⟨g,i*13+4,none⟩ _ rfl rfl (fun _=>by kernel_rfl) (rowCellP V hg ((prc_get h3 (by decide)).trans rfl))) ?_
        simp only [aP,lI,l0,lS]; refine xpL (.int .i64 ((pmom now:Nat):Int)) ?_; refine xaL (.bool false) (gtrI .i64 _ _ _ _ _ _ rfl rfl rfl false (decide_eq_false (by omega)) _) ?_; refine xT ?_; go_upto_region 9 with fail; refine wp_region_list ?_; refine xpL (.pointer (some ⟨g,i*13,none⟩)) ?_; refine xpL (.pointer (some ⟨g,i*13,none⟩)) ?_
        refine xpL (.pointer (some ⟨g,i*13+3,none⟩)) ?_; refine readL (.int .i64 (((pix id,p).2.tr:Nat):Int)) rfl (load1 3 _ ⟨g,i*13+3,none⟩ _ rfl rfl (fun _=>by kernel_rfl) (rowCellP V hg ((prc_get h3 (by decide)).trans rfl))) ?_; simp only [aP,lI,l0,lS]; refine xaL (.bool false) (eqlI .i64 _ _ _ _ _ _ rfl rfl rfl false (beq_eq_false_iff_ne.2 (by omega)) _) ?_; refine xT ?_
        have hpow:p.rt*2^(p.tr+1)≤1099511627776*16:=Nat.mul_le_mul hpr (show 2^(p.tr+1)≤16 from Nat.pow_le_pow_right (n:=2) (by decide) (show p.tr+1≤4 by omega))
        go_upto_region 11 with fail; refine wp_region_list ?_; refine xpL (.pointer (some ⟨g,i*13,none⟩)) ?_; refine xpL (.pointer (some ⟨g,i*13,none⟩)) ?_; refine xpL (.pointer (some ⟨g,i*13+3,none⟩)) ?_
        refine readL (.int .i64 (((pix id,p).2.tr:Nat):Int)) rfl (load1 3 _ ⟨g,i*13+3,none⟩ _ rfl rfl (fun _=>by kernel_rfl) (rowCellP V hg ((prc_get h3 (by decide)).trans rfl))) ?_; simp only [aP,lI,l0,lS]; refine xaL (.int .i64 ((p.tr+1:Nat):Int)) (addI .i64 _ _ _ _ _ _ _ rfl rfl rfl (by rw [xw6]; omega) _) ?_; refine xpL (.pointer (some ⟨g,i*13,none⟩)) ?_
        refine xpL (.pointer (some ⟨g,i*13+3,none⟩)) ?_
        obtain ⟨hsf,M',V2,oS⟩:=(M.perm (pull0 [(R,[Value.slice sp L.length cap])] (obs sp) l)).putRow V hg (xnR _) (i*13+3) (by rw [prc_len]; omega) (.int .i64 ((p.tr+1:Nat):Int))
        refine skipOpL rfl (storeAny (.int .i64 ((p.tr+1:Nat):Int)) g (i*13+3) 3 _ _ rfl rfl rfl rfl rfl hsf.1 hsf.2 (by kernel_rfl)) ?_; simp only [Act.put]; replace OF:=OF.trans (oS.mono (fun x_ hx_=>mT _ hx_)); replace hz2:=xnT hz2 oS.size; replace V_l:=ownsRow_low V_l oS (fun b_ hb_=>xnL (hsp _ hb_) hz1)
        replace N_a:=N_a.offB oS (fun b_ hb_ hm_=>by have h1_:=hsp _ hb_; have h2_:=hsb _ hm_; omega); clear M hsf oS V
        rw [prc_set h3 _ (pix id,{ p with tr:=p.tr+1 }) (by decide) rfl] at V2
        have V:=V2; clear V2; generalize w4.setCell ⟨g,i*13+3,none⟩ (.int .i64 ((p.tr+1:Nat):Int))=w6 at M' V OF V_l N_a hz2 ⊢; have M:=M'.perm (pull0 [(R,[Value.slice sp L.length cap])] (obs sp) l).symm; clear M'
        have hlen:(L.set i (pix id,{ p with tr:=p.tr+1 })).length=L.length:=List.length_set
        have hw_:=hw.set h3 (show ({ p with tr:=p.tr+1 }:Pth).st≠0 from (show p.st≠0 by omega))
        have hT_:tof (L.set i (pix id,{ p with tr:=p.tr+1 }))=pput (tof L) kk ({ p with tr:=p.tr+1 }):=by
         have h_:=tof_set (L:=L) (k:=pix id) (by rw [h4]; exact h3) ({ p with tr:=p.tr+1 })
         rw [h4] at h_
         rw [h_,hpx]
        have h3_:(L.set i (pix id,{ p with tr:=p.tr+1 }))[i]?=some (pix id,{ p with tr:=p.tr+1 }):=List.getElem?_set_self hlt
        have h4_:plc (L.set i (pix id,{ p with tr:=p.tr+1 })) (pix id)=i:=(plc_set _ h3 _).trans h4
        rw [← hlen] at M V hlt
        obtain ⟨L,hL1⟩:∃ L_,L_=L.set i (pix id,{ p with tr:=p.tr+1 }):=⟨_,rfl⟩
        rw [← hL1] at M V hlt hw_ hT_ h3_ h4_
        clear hlen h3 h4 hw; have hw:=hw_; have h3:=h3_; have h4:=h4_; clear hw_ h3_ h4_ hL1
        rw [hT] at hT_
        clear hT; have hT:=hT_; clear hT_; have hl:=hw.len; refine xT ?_; go_upto_region 12 with fail; have hdr:=(Below.refl w6.heap.size w6).drew; replace M:=M.drew; replace V:=ownsRow_bel V hdr; replace OF:=OF.below hdr; replace V_l:=Own.below V_l hdr; replace N_a:=NewI.below N_a hdr; replace hz2:=xnT hz2 hdr.size; clear hdr
        refine wp_region_C (S:=fun w'=>Mm w0 ((R,[.slice sp L.length cap])::(obs sp++l)) w'∧w'.ownsRow w0.heap.size 57 13 (.slice sp L.length cap) L.length (prc L)∧NewI w' w.heap.size (prow t0 1) (.slice sa (prow t0 1).length ca)) 14 (by kernel_rfl) ⟨M,V,N_a⟩ ?_; intro _; generalize w6.drew=w7 at M V OF V_l N_a hz2 ⊢
        refine readC (i:=0) (some 51) rfl (.pointer (some ⟨g,i*13,none⟩)) rfl rfl (by kernel_rfl) rfl (fun _ hS=>(by kernel_rfl)) (by kernel_rfl) (by kernel_rfl) (by kernel_rfl) (by kernel_rfl) (fun _ _ _ h=>h) ⟨M,V,N_a⟩ ?_; simp only [aP,lI,l0,lS]
        refine readC (i:=1) (some 52) rfl (.int .i64 ((pmom now:Nat):Int)) rfl rfl (by kernel_rfl) rfl (fun _ hS=>(by kernel_rfl)) (by kernel_rfl) (by kernel_rfl) (by kernel_rfl) (by kernel_rfl) (fun _ _ _ h=>h) ⟨M,V,N_a⟩ ?_; simp only [aP,lI,l0,lS]
        refine readC (i:=2) (some 53) rfl (.pointer (some ⟨g,i*13,none⟩)) rfl rfl (by kernel_rfl) rfl (fun _ hS=>(by kernel_rfl)) (by kernel_rfl) (by kernel_rfl) (by kernel_rfl) (by kernel_rfl) (fun _ _ _ h=>h) ⟨M,V,N_a⟩ ?_; simp only [aP,lI,l0,lS]
        refine readC (i:=3) (some 54) rfl (.pointer (some ⟨g,i*13,none⟩)) rfl rfl (by kernel_rfl) rfl (fun _ hS=>(by kernel_rfl)) (by kernel_rfl) (by kernel_rfl) (by kernel_rfl) (by kernel_rfl) (fun _ _ _ h=>h) ⟨M,V,N_a⟩ ?_; simp only [aP,lI,l0,lS]
        refine readC (i:=4) (some 55) rfl (.pointer (some ⟨g,i*13+2,none⟩)) rfl rfl (by kernel_rfl) rfl (fun _ hS=>(by kernel_rfl)) (by kernel_rfl) (by kernel_rfl) (by kernel_rfl) (by kernel_rfl) (fun _ _ _ h=>h) ⟨M,V,N_a⟩ ?_; simp only [aP,lI,l0,lS]
        refine readC (i:=5) (some 56) rfl (.int .i64 (((pix id,({ p with tr:=p.tr+1 }:Pth)).2.rt:Nat):Int)) rfl rfl (by kernel_rfl) rfl (fun _ hS=>load1 3 _ ⟨g,i*13+2,none⟩ _ rfl rfl (fun _=>by kernel_rfl) (rowCellP hS.2.1 hg ((prc_get h3 (by decide)).trans rfl))) (by kernel_rfl) (by kernel_rfl) (by kernel_rfl) (by kernel_rfl) (fun _ _ _ h=>h) ⟨M,V,N_a⟩ ?_
        simp only [aP,lI,l0,lS]; refine readC (i:=6) (some 57) rfl (.pointer (some ⟨g,i*13,none⟩)) rfl rfl (by kernel_rfl) rfl (fun _ hS=>(by kernel_rfl)) (by kernel_rfl) (by kernel_rfl) (by kernel_rfl) (by kernel_rfl) (fun _ _ _ h=>h) ⟨M,V,N_a⟩ ?_; simp only [aP,lI,l0,lS]
        refine readC (i:=7) (some 58) rfl (.pointer (some ⟨g,i*13,none⟩)) rfl rfl (by kernel_rfl) rfl (fun _ hS=>(by kernel_rfl)) (by kernel_rfl) (by kernel_rfl) (by kernel_rfl) (by kernel_rfl) (fun _ _ _ h=>h) ⟨M,V,N_a⟩ ?_; simp only [aP,lI,l0,lS]
        refine readC (i:=8) (some 59) rfl (.pointer (some ⟨g,i*13+3,none⟩)) rfl rfl (by kernel_rfl) rfl (fun _ hS=>(by kernel_rfl)) (by kernel_rfl) (by kernel_rfl) (by kernel_rfl) (by kernel_rfl) (fun _ _ _ h=>h) ⟨M,V,N_a⟩ ?_; simp only [aP,lI,l0,lS]
        refine readC (i:=9) (some 60) rfl (.int .i64 (((pix id,({ p with tr:=p.tr+1 }:Pth)).2.tr:Nat):Int)) rfl rfl (by kernel_rfl) rfl (fun _ hS=>load1 3 _ ⟨g,i*13+3,none⟩ _ rfl rfl (fun _=>by kernel_rfl) (rowCellP hS.2.1 hg ((prc_get h3 (by decide)).trans rfl))) (by kernel_rfl) (by kernel_rfl) (by kernel_rfl) (by kernel_rfl) (fun _ _ _ h=>h) ⟨M,V,N_a⟩ ?_
        simp only [aP,lI,l0,lS]; refine readC (i:=10) (some 61) rfl (.int .i64 ((p.rt*2^(p.tr+1):Nat):Int)) rfl rfl (by kernel_rfl) rfl (fun _ hS=>shlI .i64 .i64 _ _ _ _ _ _ _ rfl rfl rfl (by omega) (shl20 hpr (by omega)) _) (by kernel_rfl) (by kernel_rfl) (by kernel_rfl) (by kernel_rfl) (fun _ _ _ h=>h) ⟨M,V,N_a⟩ ?_; simp only [aP,lI,l0,lS]
        refine readC (i:=11) (some 62) rfl (.int .i64 (((pmom now)+p.rt*2^(p.tr+1):Nat):Int)) rfl rfl (by kernel_rfl) rfl (fun _ hS=>addI .i64 _ _ _ _ _ _ _ rfl rfl rfl (by rw [xw6]; omega) _) (by kernel_rfl) (by kernel_rfl) (by kernel_rfl) (by kernel_rfl) (fun _ _ _ h=>h) ⟨M,V,N_a⟩ ?_; simp only [aP,lI,l0,lS]
        refine xqC 12 63 rfl (.pointer (some ⟨g,i*13,none⟩)) (fun _=>(by kernel_rfl)) ⟨M,V,N_a⟩ ?_; refine readC (i:=13) (some 64) rfl (.pointer (some ⟨g,i*13+4,none⟩)) rfl rfl (by kernel_rfl) rfl (fun _ hS=>(by kernel_rfl)) (by kernel_rfl) (by kernel_rfl) (by kernel_rfl) (by kernel_rfl) (fun _ _ _ h=>h) ⟨M,V,N_a⟩ ?_; simp only [aP,lI,l0,lS]
        obtain ⟨hsf,M',V2,oS⟩:=(M.perm (pull0 [(R,[Value.slice sp L.length cap])] (obs sp) l)).putRow V hg (xnR _) (i*13+4) (by rw [prc_len]; omega) (.int .i64 (((pmom now)+p.rt*2^(p.tr+1):Nat):Int))
        refine skipC (S2:=fun _=>True) none rfl (by kernel_rfl) rfl rfl (storeAny (.int .i64 (((pmom now)+p.rt*2^(p.tr+1):Nat):Int)) g (i*13+4) 3 _ _ rfl rfl rfl rfl rfl hsf.1 hsf.2 (by kernel_rfl)) (by kernel_rfl) ?_; simp only [Act.put]; replace OF:=OF.trans (oS.mono (fun x_ hx_=>mT _ hx_)); replace hz2:=xnT hz2 oS.size
        replace V_l:=ownsRow_low V_l oS (fun b_ hb_=>xnL (hsp _ hb_) hz1); replace N_a:=N_a.offB oS (fun b_ hb_ hm_=>by have h1_:=hsp _ hb_; have h2_:=hsb _ hm_; omega); clear M hsf oS V
        rw [prc_set h3 _ (pix id,{ p with tr:=p.tr+1,nx:=((pmom now)+p.rt*2^(p.tr+1)) }) (by decide) rfl] at V2
        have V:=V2; clear V2; generalize w7.setCell ⟨g,i*13+4,none⟩ (.int .i64 (((pmom now)+p.rt*2^(p.tr+1):Nat):Int))=w8 at M' V OF V_l N_a hz2 ⊢; have M:=M'.perm (pull0 [(R,[Value.slice sp L.length cap])] (obs sp) l).symm; clear M'
        have hlen:(L.set i (pix id,{ p with tr:=p.tr+1,nx:=((pmom now)+p.rt*2^(p.tr+1)) })).length=L.length:=List.length_set
        have hw_:=hw.set h3 (show ({ p with tr:=p.tr+1,nx:=((pmom now)+p.rt*2^(p.tr+1)) }:Pth).st≠0 from (show p.st≠0 by omega))
        have hT_:tof (L.set i (pix id,{ p with tr:=p.tr+1,nx:=((pmom now)+p.rt*2^(p.tr+1)) }))=pput (tof L) kk ({ p with tr:=p.tr+1,nx:=((pmom now)+p.rt*2^(p.tr+1)) }):=by
         have h_:=tof_set (L:=L) (k:=pix id) (by rw [h4]; exact h3) ({ p with tr:=p.tr+1,nx:=((pmom now)+p.rt*2^(p.tr+1)) })
         rw [h4] at h_
         rw [h_,hpx]
        have h3_:(L.set i (pix id,{ p with tr:=p.tr+1,nx:=((pmom now)+p.rt*2^(p.tr+1)) }))[i]?=some (pix id,{ p with tr:=p.tr+1,nx:=((pmom now)+p.rt*2^(p.tr+1)) }):=List.getElem?_set_self hlt
        have h4_:plc (L.set i (pix id,{ p with tr:=p.tr+1,nx:=((pmom now)+p.rt*2^(p.tr+1)) })) (pix id)=i:=(plc_set _ h3 _).trans h4
        rw [← hlen] at M V hlt
        obtain ⟨L,hL1⟩:∃ L_,L_=L.set i (pix id,{ p with tr:=p.tr+1,nx:=((pmom now)+p.rt*2^(p.tr+1)) }):=⟨_,rfl⟩
        rw [← hL1] at M V hlt hw_ hT_ h3_ h4_
        clear hlen h3 h4 hw; have hw:=hw_; have h3:=h3_; have h4:=h4_; clear hw_ h3_ h4_ hL1
        rw [hT] at hT_
        clear hT; have hT:=hT_; clear hT_; have hl:=hw.len
        refine wpAnyH_done (by kernel_rfl) ?_ _
        first | show Exit.then _ _ _ _ _ | show Exit.inBlock _ _ _ _ _
        go_upto_region 13 with fail; refine wp_region_list ?_; refine xpL (.slice sq ((plP t0 (pmom now) b).length) cq) ?_; refine xpL (.pointer (some ⟨g,i*13,none⟩)) ?_; refine xpL (.pointer (some ⟨g,i*13,none⟩)) ?_; refine xpL (.pointer (some ⟨g,i*13+0,none⟩)) ?_
        refine readL (.int .i64 (((pix id,({ p with tr:=p.tr+1,nx:=((pmom now)+p.rt*2^(p.tr+1)) }:Pth)).1:Nat):Int)) rfl (load1 3 _ ⟨g,i*13+0,none⟩ _ rfl rfl (fun _=>by kernel_rfl) (rowCellP V hg ((prc_get h3 (by decide)).trans rfl))) ?_; simp only [aP,lI,l0,lS]
        have hlb:=(Below.refl w8.heap.size w8).alloc (xnR _) (.cells (row .i64 [((pix id:Nat):Int)].length (bl [((pix id:Nat):Int)])).toArray 3); have S_n:=SrcI.lit w8 [((pix id:Nat):Int)] (show 1≤16 by decide)
        refine actL (w':=w8.alloc (.cells (row .i64 [((pix id:Nat):Int)].length (bl [((pix id:Nat):Int)])).toArray 3)) (.slice (some ⟨w8.heap.size,0,none⟩) 1 1) rfl (by kernel_rfl) ?_; simp only [aP,lI,l0,lS]; replace M:=M.call hlb; replace V:=ownsRow_bel V hlb; replace OF:=OF.below hlb; replace V_l:=Own.below V_l hlb; replace N_a:=NewI.below N_a hlb
        replace hz2:=xnT hz2 hlb.size; clear hlb; generalize w8.alloc (.cells (row .i64 [((pix id:Nat):Int)].length (bl [((pix id:Nat):Int)])).toArray 3)=w9 at M S_n V OF V_l N_a hz2 ⊢; generalize (some ⟨w8.heap.size,0,none⟩:Option Addr)=pn at S_n ⊢
        obtain ⟨v_,w10,hr,O2,hgr,_⟩:=run_append_Own (P:=Try.prog) (ty:=38) Try.underlying38 one64 V_l pn 1 1 (bl [((pix id:Nat):Int)]) S_n (fun e=>by obtain ⟨_,h,_⟩:=S_n 0 Nat.zero_lt_one; rw [e] at h; cases h) (by unfold maxLen; omega) (by omega) hz2
        have hzb:=fun b hb=>(World.ownsRow.lt V_l b hb).1; have ho:=Off.grown (Off.refl (ob sq) w9) hgr (fun b_ hb_=>.inl ((ob_own _ _ _ b_).1 hb_))
        have hoq:∀ b_∈ob sq,zb≤b_:=fun b_ hb_=>hzb b_ ((ob_own _ _ _ b_).2 hb_)
        replace M:=M.grownN hgr (fun b hb=>⟨by have:=hzb b hb; omega,fun p_ hp_=>by have h1_:=hlt0 _ p_ hp_; have h2_:=hzb b hb; omega⟩); replace V:=ownsRow_away V ho (fun b_ hb_ hm_=>by have h1_:=hoq b_ hb_; have h2_:=hsp b_ hm_; omega); replace N_a:=N_a.offB ho (fun b_ hb_ hm_=>by have h1_:=hoq b_ hb_; have h2_:=hsa b_ hm_; omega)
        replace OF:=OF.grown hgr (fun b_ hb_=>.inr (by have:=hzb b_ hb_; omega)); replace hz2:=xnT hz2 hgr.size; refine xaL v_ (appendOp _ _ 38 _ _ _ rfl rfl rfl hr) ?_
        replace O2:OwnI w10 zb ((plP t0 (pmom now) b)++[((pix id:Nat):Int)]) v_:=OwnI.app O2
        clear hr hgr V_l S_n hzb ho hoq; have V_l:=O2; clear O2
        obtain ⟨sq2,cq2,rfl,_⟩:=V_l.isSlice
        refine xpL (.slice sq2 (((plP t0 (pmom now) b)++[((pix id:Nat):Int)]).length) cq2) ?_; refine xT ?_
        have hdw:pdw t0 (pmom now) kk=true:=decide_eq_true (by rw [← hp]; exact ⟨hps,by omega⟩)
        have hdt:pdt t0 (pmom now) kk={ p with tr:=p.tr+1,nx:=((pmom now)+p.rt*2^(p.tr+1)) }:=by unfold pdt; rw [if_pos hdw,if_neg (by rw [← hp]; omega),← hp]
        have hT9:=show Hid _ from (show tof L=pdP t0 (pmom now) (kk+1) from by rw [hT,pput_pput,pdP_next,hdt,hp1])
        have hL9:(plP t0 (pmom now) (kk+1))=((plP t0 (pmom now) b)++[((pix id:Nat):Int)]):=by rw [plP_yes hdw (by rw [← hp]; omega),hp2,hpx]
        rw [← hL9] at V_l ⊢
        have HS:=show Hid _ from (show Mm w0 ((R,[.slice sp L.length cap])::(obs sp++l)) w10∧w10.ownsRow w0.heap.size 57 13 (.slice sp L.length cap) L.length (prc L)∧Off (R::ob sp) w w10∧OwnI w10 zb (plP t0 (pmom now) (kk+1)) (.slice sq2 (plP t0 (pmom now) (kk+1)).length cq2)∧NewI w10 w.heap.size (prow t0 1) (.slice sa (prow t0 1).length ca)∧zb≤w10.heap.size from ⟨M,V,OF,V_l,N_a,hz2⟩)
        have hk9:=show Hid _ from hlen1; clear M V OF V_l N_a hz2 hL9 hT hlen1 hkd hbl hget hp1 hp2 htk hid
        try clear hpx
        try clear hp
        try clear hdt
        try clear hdw
        go_wp2
        go_roundw
        case rel=>exact ⟨kk+1,L,sq2,cq2,by omega,rfl,by rw [hk9.out]; go_num,hT9,hw,HS.out⟩
        case measure=>simp [intOf]; omega
  · go_upto_region 5 with fail
    refine wp_region_list ?_; refine xpL (.int .i64 ((k:Nat):Int)) ?_; refine xpL (.slice sa ((prow t0 1).length) ca) ?_; refine readL (.int .i64 (((prow t0 1).length:Nat):Int)) rfl (lenS _ 38 3 sa ((prow t0 1).length) ca rfl Try.underlying38 rfl _) ?_; simp only [aP,lI,l0,lS]; refine xaL (.bool false) (lssI .i64 _ _ _ _ _ _ rfl rfl rfl false (decide_eq_false (by omega)) _) ?_
    refine xT ?_; go_upto_region 14 with fail; refine wp_region_list ?_; refine xpL (.slice sq ((plP t0 (pmom now) b).length) cq) ?_; refine xpL (.slice sq ((plP t0 (pmom now) b).length) cq) ?_; refine xT ?_; have ht_:=ht0.out
    obtain ⟨e1_,e2_⟩:=last_new t0 (pmom now) (256-b) b (by omega) (by rw [← hkd]; exact hk)
    rw [e2_,plP_all] at V_l ⊢
    have hTT:tof L=pdt t0 (pmom now):=by rw [hT,e1_,pdP_all hW0]
    have hNI:=NewI.of_own V_l
    have hoq:∀ b_∈ob sq,zb≤b_∧b_<wr.heap.size:=fun b_ hb_=>World.ownsRow.lt V_l b_ ((ob_own _ _ _ b_).2 hb_)
    replace hNI:NewI wr w.heap.size (pdl t0 (pmom now)) (.slice sq (pdl t0 (pmom now)).length cq):=by
     obtain ⟨h1_,h2_,h3_,h4_⟩:=hNI.parts
     exact ⟨sq,cq,rfl,h1_,h2_,h3_,fun a_ e_=>⟨by have:=(h4_ a_ e_).1; omega,(h4_ a_ e_).2⟩⟩
    have M2:Mm w0 (obs sq++((R,[.slice sp L.length cap])::(obs sp++l))) wr:=by
     rcases sq with _ | a_
     · exact M
     · have h1_:=hoq a_.block mS
       exact M.addB (by omega) h1_.2 (fun p_ hp_ e_=>by
        have h2_:p_.1<w.heap.size:=hlt0 _ p_ hp_
        omega)
    have M3:=M2.perm (pull1 [(R,[Value.slice sp L.length cap])] (obs sp) (obs sq) l).symm; have HS:=show Hid _ from (And.intro hTT (And.intro hw (And.intro M3 (And.intro V OF)))); have HN:=show Hid _ from (show NewI _ _ _ _ from hNI); clear M M2 M3 V OF V_l N_a hNI hoq hTT hT e1_ e2_ hkd; replace ht_:=show Hid _ from ht_; go_wp2; go_ret; replace ht_:=ht_.out
    rw [← ht_]
    exact ⟨sq,cq,rfl,HN.out,L,HS.out⟩
def DI20 (w0:World):TabI:=fun w v t bs=>∃ R L sp cap,v=.pointer (some ⟨R,0,none⟩)∧bs=(R,[.slice sp L.length cap])::obs sp∧tof L=t∧PrsW L∧w.cell? ⟨R,0,none⟩=some (.slice sp L.length cap)∧w.ownsRow w0.heap.size 57 13 (.slice sp L.length cap) L.length (prc L)
theorem DI20.off {w0 w w':World} {v:Value} {t:Ptb} {bs:List (Nat × List Value)} {X:List Nat} (h:DI20 w0 w v t bs) (f:Off X w w') (hX:∀ b∈X,b∉bs.map Prod.fst):DI20 w0 w' v t bs:=by
 obtain ⟨R,L,sp,cap,e1,e2,e3,hw,CR,V⟩:=h
 subst e2
 rw [List.map_cons,obs_fst] at hX
 exact ⟨R,L,sp,cap,e1,rfl,e3,hw,f.cell CR fun hm=>hX _ hm mS,ownsRow_away V f fun b hb hm=>hX b hb (mT _ hm)⟩
structure DocT20 (w0:World) (I:TabI):Prop where
 ptr:∀ w v t bs,I w v t bs→∃ R,v=.pointer (some ⟨R,0,none⟩)
 off:∀ w w' v t bs X,I w v t bs→Off X w w'→(∀ b∈X,b∉bs.map Prod.fst)→I w' v t bs
 beg:∀ (_ w:World) (v:Value) (t:Ptb) (bs l:List (Nat × List Value)) (id:Int),PtbW t→i64 id→I w v t bs→Mm w0 (bs++l) w →
  Calls Try.prog 11 #[v,.int .i64 id] w fun e w'=>∃ bs',e=.returned (.int .i64 ((pmay t id:Nat):Int))∧I w' v (pbeg t id) bs'∧Mm w0 (bs'++l) w'∧Off (bs.map Prod.fst) w w'
 add:∀ (_ w:World) (v:Value) (t:Ptb) (bs l:List (Nat × List Value)) (id:Int) (tk:Nat→Int) (now:Int),PtbW t→i64 id→In 256 8 tk→i64 now→I w v t bs→Mm w0 (bs++l) w →
  Calls Try.prog 13 #[v,.int .i64 id,tok8 tk,.int .i64 now] w fun e w'=>∃ bs',e=.returned (.int .i64 ((pmay t id:Nat):Int))∧I w' v (padd t id tk now) bs'∧Mm w0 (bs'++l) w'∧Off (bs.map Prod.fst) w w'
 due:∀ (_ w:World) (v:Value) (t:Ptb) (bs l:List (Nat × List Value)) (now:Int),PtbW t→i64 now→I w v t bs→Mm w0 (bs++l) w →
  Calls Try.prog 16 #[v,.int .i64 now] w fun e w'=>∃ sq cq bs',e=.returned (.slice sq (pdl t (pmom now)).length cq)∧NewI w' w.heap.size (pdl t (pmom now)) (.slice sq (pdl t (pmom now)).length cq)∧I w' v (pdt t (pmom now)) bs'∧Mm w0 (bs'++(obs sq++l)) w'∧Off (bs.map Prod.fst) w w'
 ans:∀ (_ w:World) (v:Value) (t:Ptb) (bs l:List (Nat × List Value)) (id:Int) (tk:Nat→Int),PtbW t→i64 id→In 256 8 tk→I w v t bs→Mm w0 (bs++l) w →
  Calls Try.prog 18 #[v,.int .i64 id,tok8 tk] w fun e w'=>∃ bs',e=.returned (.bool (pans t id tk))∧I w' v (pant t id tk) bs'∧Mm w0 (bs'++l) w'∧Off (bs.map Prod.fst) w w'
 tok:∀ (_ w:World) (v:Value) (t:Ptb) (bs l:List (Nat × List Value)) (id:Int),PtbW t→i64 id→I w v t bs→Mm w0 (bs++l) w →
  Calls Try.prog 25 #[v,.int .i64 id] w fun e w'=>e=.returned (.tuple #[tok8 (ptk t id),.bool (ptB t id)])∧Below w.heap.size w w'
 rem:∀ (_ w:World) (v:Value) (t:Ptb) (bs l:List (Nat × List Value)) (id:Int),PtbW t→i64 id→I w v t bs→Mm w0 (bs++l) w →
  Calls Try.prog 20 #[v,.int .i64 id] w fun e w'=>∃ bs',e=.returned (.int .i64 ((prE t id:Nat):Int))∧I w' v (prm t id) bs'∧Mm w0 (bs'++l) w'∧Off (bs.map Prod.fst) w w'
 sam:∀ (_ w:World) (v:Value) (t:Ptb) (bs l:List (Nat × List Value)) (id n:Int),PtbW t→i64 id→i64 n→I w v t bs→Mm w0 (bs++l) w →
  Calls Try.prog 22 #[v,.int .i64 id,.int .i64 n] w fun e w'=>∃ bs',e=.returned (.tuple #[])∧I w' v (psm t id n) bs'∧Mm w0 (bs'++l) w'∧Off (bs.map Prod.fst) w w'
 rtt:∀ (_ w:World) (v:Value) (t:Ptb) (bs l:List (Nat × List Value)) (id:Int),PtbW t→i64 id→I w v t bs→Mm w0 (bs++l) w →
  Calls Try.prog 31 #[v,.int .i64 id] w fun e w'=>e=.returned (.int .i64 ((prt t id:Nat):Int))∧Below w.heap.size w w'
 sta:∀ (_ w:World) (v:Value) (t:Ptb) (bs l:List (Nat × List Value)) (id:Int),PtbW t→i64 id→I w v t bs→Mm w0 (bs++l) w →
  Calls Try.prog 29 #[v,.int .i64 id] w fun e w'=>e=.returned (.int .i64 ((pst t id:Nat):Int))∧Below w.heap.size w w'
 liv:∀ (_ w:World) (v:Value) (t:Ptb) (bs l:List (Nat × List Value)),PtbW t→I w v t bs→Mm w0 (bs++l) w →
  Calls Try.prog 27 #[v] w fun e w'=>∃ sq cq,e=.returned (.slice sq (prow t 2).length cq)∧NewI w' w.heap.size (prow t 2) (.slice sq (prow t 2).length cq)∧Below w.heap.size w w'
theorem DocT20.bel {w0:World} {I:TabI} (h:DocT20 w0 I) {w w':World} {v:Value} {t:Ptb} {bs:List (Nat × List Value)} (hI:I w v t bs) (l:Below w.heap.size w w'):I w' v t bs:=h.off w w' v t bs [] hI (Off.of_below l) (fun _ hb=>by cases hb)
theorem di20_new {w0 w:World} {R:Nat} {l:List (Nat × List Value)} (M:Mm w0 ((R,[.slice none 0 0])::l) w):DI20 w0 w (.pointer (some ⟨R,0,none⟩)) pnew [(R,[.slice none 0 0])] :=
 ⟨R,[],none,0,rfl,rfl,rfl,PrsW.nil,M.get mS 0 _ rfl,World.ownsRow_nil ..⟩
theorem dok20 (w0:World):DocT20 w0 (DI20 w0) where
 ptr:=fun _ _ _ _ h=>let ⟨R,_,_,_,e,_⟩:=h; ⟨R,e⟩
 off:=fun _ _ _ _ _ _ h f hX=>h.off f hX
 beg:=fun _ w v t bs l id hW _ hI M=>by
  obtain ⟨R,L,sp,cap,rfl,rfl,rfl,hw,CR,V⟩:=hI
  rw [List.cons_append] at M
  refine (dbeg20_any w0 w R l L sp cap hw M V id).mono ?_; rintro e w' ⟨rfl,hD⟩
  obtain ⟨L',sp',cap',e1,hw',M',V',f⟩:=hD
  exact ⟨_,rfl,⟨R,L',sp',cap',rfl,rfl,e1,hw',M'.get mS 0 _ rfl,V'⟩,by rw [List.cons_append]; exact M',by rw [List.map_cons,obs_fst]; exact f⟩
 add:=fun _ w v t bs l id tk now hW _ _ _ hI M=>by
  obtain ⟨R,L,sp,cap,rfl,rfl,rfl,hw,CR,V⟩:=hI
  rw [List.cons_append] at M
  refine (dadd20_any w0 w R l L sp cap hw M V id tk now).mono ?_; rintro e w' ⟨rfl,hD⟩
  obtain ⟨L',sp',cap',e1,hw',M',V',f⟩:=hD
  exact ⟨_,rfl,⟨R,L',sp',cap',rfl,rfl,e1,hw',M'.get mS 0 _ rfl,V'⟩,by rw [List.cons_append]; exact M',by rw [List.map_cons,obs_fst]; exact f⟩
 due:=fun _ w v t bs l now hW _ hI M=>by
  obtain ⟨R,L,sp,cap,rfl,rfl,rfl,hw,CR,V⟩:=hI
  rw [List.cons_append] at M
  refine (ddue20_any w0 w R l L sp cap hw M V hW now).mono ?_; rintro e w' ⟨sq,cq,rfl,hN,L',e1,hw',M',V',f⟩
  exact ⟨sq,cq,(R,[.slice sp L'.length cap])::obs sp,rfl,hN,⟨R,L',sp,cap,rfl,rfl,e1,hw',M'.get mS 0 _ rfl,V'⟩,by rw [List.cons_append]; exact M',by rw [List.map_cons,obs_fst]; exact f⟩
 ans:=fun _ w v t bs l id tk hW _ _ hI M=>by
  obtain ⟨R,L,sp,cap,rfl,rfl,rfl,hw,CR,V⟩:=hI
  rw [List.cons_append] at M
  refine (dans20_any w0 w R l L sp cap hw M V id tk).mono ?_; rintro e w' ⟨rfl,hD⟩
  obtain ⟨L',sp',cap',e1,hw',M',V',f⟩:=hD
  exact ⟨_,rfl,⟨R,L',sp',cap',rfl,rfl,e1,hw',M'.get mS 0 _ rfl,V'⟩,by rw [List.cons_append]; exact M',by rw [List.map_cons,obs_fst]; exact f⟩
 tok:=fun _ w v t bs l id hW _ hI M=>by
  obtain ⟨R,L,sp,cap,rfl,rfl,rfl,hw,CR,V⟩:=hI
  rw [List.cons_append] at M
  exact dtok20_any w w0.heap.size R L sp cap hw.len CR V hw id
 rem:=fun _ w v t bs l id hW _ hI M=>by
  obtain ⟨R,L,sp,cap,rfl,rfl,rfl,hw,CR,V⟩:=hI
  rw [List.cons_append] at M
  refine (drem20_any w0 w R l L sp cap hw M V id).mono ?_; rintro e w' ⟨rfl,hD⟩
  obtain ⟨L',sp',cap',e1,hw',M',V',f⟩:=hD
  exact ⟨_,rfl,⟨R,L',sp',cap',rfl,rfl,e1,hw',M'.get mS 0 _ rfl,V'⟩,by rw [List.cons_append]; exact M',by rw [List.map_cons,obs_fst]; exact f⟩
 sam:=fun _ w v t bs l id n hW _ hn hI M=>by
  obtain ⟨R,L,sp,cap,rfl,rfl,rfl,hw,CR,V⟩:=hI
  rw [List.cons_append] at M
  refine (dsam20_any w0 w R l L sp cap hw M V hW id n hn).mono ?_; rintro e w' ⟨rfl,hD⟩
  obtain ⟨L',sp',cap',e1,hw',M',V',f⟩:=hD
  exact ⟨_,rfl,⟨R,L',sp',cap',rfl,rfl,e1,hw',M'.get mS 0 _ rfl,V'⟩,by rw [List.cons_append]; exact M',by rw [List.map_cons,obs_fst]; exact f⟩
 rtt:=fun _ w v t bs l id hW _ hI M=>by
  obtain ⟨R,L,sp,cap,rfl,rfl,rfl,hw,CR,V⟩:=hI
  rw [List.cons_append] at M
  exact drtt20_any w w0.heap.size R L sp cap hw.len CR V hw id
 sta:=fun _ w v t bs l id hW _ hI M=>by
  obtain ⟨R,L,sp,cap,rfl,rfl,rfl,hw,CR,V⟩:=hI
  rw [List.cons_append] at M
  exact dsta20_any w w0.heap.size R L sp cap hw.len CR V hw id
 liv:=fun _ w v t bs l hW hI M=>by
  obtain ⟨R,L,sp,cap,rfl,rfl,rfl,hw,CR,V⟩:=hI
  rw [List.cons_append] at M
  exact dliv20_any w w0.heap.size R L sp cap hw.len CR V hw
theorem idxIE {P:Program} {o:Oper} {a:Act} (t e:TypeId) (len cap:Nat) (sp:Option Addr) (ad:Addr) (hsp:sp=some ad) (i:Nat) (x y:Operand) (hu:P.underlying t=some (.slice e)) (hsz:∀ w,(sizeOf e).run P w=.ok 1 w) (hi:i<len) (ho:o.op=.indexAddr t x y) (hx:a.eval x=.slice sp len cap) (hy:a.eval y=.int .i64 (i:Int)) (w:World) :
 (execOp a.eval o).run P w=.ok (.value (.pointer (some (ad.add i)))) w:=by
 subst hsp
 exact idxSl t e len cap .i64 ad i x y hu hsz hi ho hx hy w
theorem ints20_any (l:List Int) (hln:l.length<1000000) (p1 p2:Option Addr) (c1 c2:Nat) (w:World) (s1:SrcI w p1 l.length (bl l)) (s2:SrcI w p2 l.length (bl l)) :
 Calls Try.prog 14 #[.slice p1 l.length c1,.slice p2 l.length c2] w fun e w'=>e=.returned (.bool true)∧Below w.heap.size w w':=by
 have M:=Mm.init w
 go_enter Try.func14,Try.ntmps14
 go_upto_region 0 with fail; refine wp_region_list ?_; refine xpL (.bool false) ?_; refine xT ?_; go_upto_region 1 with fail; refine wp_region_list ?_; refine xpL (.slice p1 l.length c1) ?_; refine xaL (.int .i64 ((l.length:Nat):Int)) (lenS _ 38 3 p1 l.length c1 rfl Try.underlying38 rfl _) ?_; refine xpL (.slice p2 l.length c2) ?_
 refine xaL (.int .i64 ((l.length:Nat):Int)) (lenS _ 38 3 p2 l.length c2 rfl Try.underlying38 rfl _) ?_; refine xaL (.bool false) (neqI .i64 _ _ _ _ _ _ rfl rfl rfl false (bne_self_eq_false _) _) ?_; refine xT ?_; go_upto_region 3 with fail; refine wp_region_list ?_; refine xpL (.int .i64 0) ?_; refine xT ?_
 have HI:=show Hid _ from (show SrcI w p1 l.length (bl l)∧SrcI w p2 l.length (bl l)∧Below w.heap.size w w from ⟨s1,s2,M.below⟩); clear M s1 s2; go_wp2
 go_loopw [5] (fun i w'=>∃ i':Nat,i'≤l.length∧i=.int .i64 (i':Int)∧SrcI w' p1 l.length (bl l)∧SrcI w' p2 l.length (bl l)∧Below w.heap.size w w') (fun i _=>l.length-(intOf i).toNat)
 case atStart=>exact ⟨0,Nat.zero_le _,rfl,HI.out⟩
 case round =>
  clear HI
  obtain ⟨i,hi,rfl,s1,s2,hB⟩:=hrel
  have M:=(Mm.init w).call hB
  by_cases hil:i<l.length
  · obtain ⟨ad1,had1,_⟩:=s1 i hil
    obtain ⟨ad2,had2,_⟩:=s2 i hil
    go_upto_region 4 with fail; refine wp_region_list ?_; refine xpL (.int .i64 (i:Int)) ?_; refine xpL (.slice p1 l.length c1) ?_; refine xaL (.int .i64 ((l.length:Nat):Int)) (lenS _ 38 3 p1 l.length c1 rfl Try.underlying38 rfl _) ?_; refine xaL (.bool true) (lssI .i64 _ _ _ _ _ _ rfl rfl rfl true (decide_eq_true (by omega)) _) ?_; refine xT ?_; go_upto_region 6 with fail
    have hdr:=(Below.refl wr.heap.size wr).drew; replace M:=M.drew; replace s1:=SrcI.below s1 hdr (xnR _); replace s2:=SrcI.below s2 hdr (xnR _); clear hdr; refine wp_region_held_drew (S:=fun w'=>SrcI w' p1 l.length (bl l)∧SrcI w' p2 l.length (bl l)) (by kernel_rfl) ⟨s1,s2⟩ ?_; intro _; generalize wr.drew=w1 at M s1 s2 ⊢
    refine xrH 0 17 rfl (.slice p1 l.length c1) (fun _ hS=>(by kernel_rfl)) ⟨s1,s2⟩ ?_; refine xrH 1 18 rfl (.int .i64 (i:Int)) (fun _ hS=>(by kernel_rfl)) ⟨s1,s2⟩ ?_; refine xrH 2 19 rfl (.pointer (some (ad1.add i))) (fun _ hS=>idxIE 38 3 _ _ p1 ad1 had1 i _ _ Try.underlying38 (fun _=>by kernel_rfl) hil rfl rfl rfl _) ⟨s1,s2⟩ ?_
    refine xrH 3 20 rfl (.int .i64 (bl l i)) (fun _ hS=>load1 3 _ (ad1.add i) _ rfl rfl (fun _=>by kernel_rfl) (SrcI.atE hS.1 had1 hil)) ⟨s1,s2⟩ ?_; refine xrH 4 21 rfl (.slice p2 l.length c2) (fun _ hS=>(by kernel_rfl)) ⟨s1,s2⟩ ?_; refine xrH 5 22 rfl (.int .i64 (i:Int)) (fun _ hS=>(by kernel_rfl)) ⟨s1,s2⟩ ?_
    refine xrH 6 23 rfl (.pointer (some (ad2.add i))) (fun _ hS=>idxIE 38 3 _ _ p2 ad2 had2 i _ _ Try.underlying38 (fun _=>by kernel_rfl) hil rfl rfl rfl _) ⟨s1,s2⟩ ?_; refine xrH 7 24 rfl (.int .i64 (bl l i)) (fun _ hS=>load1 3 _ (ad2.add i) _ rfl rfl (fun _=>by kernel_rfl) (SrcI.atE hS.2 had2 hil)) ⟨s1,s2⟩ ?_
    refine xrH 8 25 rfl (.bool false) (fun _ hS=>neqI .i64 _ _ _ _ _ _ rfl rfl rfl false (bne_self_eq_false _) _) ⟨s1,s2⟩ ?_
    refine wpAnyH_done (by kernel_rfl) ?_ _
    first | show Exit.then _ _ _ _ _ | show Exit.inBlock _ _ _ _ _
    have HS:=show Hid _ from (show SrcI w1 p1 l.length (bl l)∧SrcI w1 p2 l.length (bl l)∧Below w.heap.size w w1 from ⟨s1,s2,M.below⟩); clear M s1 s2; go_wp2
    go_roundw
    case rel=>exact ⟨i+1,by omega,by go_num,HS.out⟩
    case measure=>simp [intOf]; omega
  · clear s1 s2
    go_upto_region 4 with fail; refine wp_region_list ?_; refine xpL (.int .i64 (i:Int)) ?_; refine xpL (.slice p1 l.length c1) ?_; refine xaL (.int .i64 ((l.length:Nat):Int)) (lenS _ 38 3 p1 l.length c1 rfl Try.underlying38 rfl _) ?_; refine xaL (.bool false) (lssI .i64 _ _ _ _ _ _ rfl rfl rfl false (decide_eq_false (by omega)) _) ?_; refine xT ?_; go_upto_region 8 with fail
    refine wp_region_list ?_; refine xpL (.bool true) ?_; refine xT ?_; have hbel:=M.below; clear M; go_wp2; go_ret
    exact ⟨rfl,hbel⟩
theorem neqBo {P:Program} {o:Oper} {a:Act} (p q:Bool) (t t':TypeId) (x y:Operand) (ho:o.op=.binOp .neq t x y t') (hx:a.eval x=.bool p) (hy:a.eval y=.bool q) (ht:P.underlying t=some .bool) (r:Bool) (hr:(!(p == q))=r) (w:World):(execOp a.eval o).run P w=.ok (.value (.bool r)) w:=by
 unfold execOp
 simp only [ho,hx,hy,Sem.run_bind,eqGuard_at_bool,run_neq_bool w t p q ht,Sem.run_pure,Result.andThen_ok,hr]
end Go.Proofs.Ytdengjdfmhcbiaa
