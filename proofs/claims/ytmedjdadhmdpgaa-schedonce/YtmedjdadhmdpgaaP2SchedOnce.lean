/- Texts of Ad Ah Dj Ai Nv, joined. -/
import Derived.Test.YtmedjdadhmdpgaaP1SchedOnce
set_option maxRecDepth 20000
set_option maxHeartbeats 64000000
namespace Go.Proofs.Ytmedjdadhmdpgaa
open Go.RowKit
theorem Mm.srcI {w0 w:World} {l:List (Nat × List Value)} (h:Mm w0 l w) {b:Nat} {cs:List Value} (hp:(b,cs)∈l) (bs:List Int) (hc:cs=bs.map (Value.int .i64)):SrcI w (some ⟨b,0,none⟩) bs.length (bl bs):=fun j hj=>⟨_,rfl,by
 rw [Addr.add_mid,Nat.zero_add]
 refine h.get hp j _ ?_
 rw [hc,List.getElem?_map,List.getElem?_eq_getElem hj]
 unfold bl
 rw [List.getD_eq_getElem?_getD,List.getElem?_eq_getElem hj]
 rfl⟩
def zsc (k:Int) (f:Flg):Sch:=⟨true,k,[(1,f),(2,flg0)]⟩
theorem zsc_w {k:Int} {f:Flg} (h1:-1≤k) (h2:k<9223372036854775808) (hf:FlgW f):SchW (zsc k f) :=
 ⟨(show ([1,2]:List Nat).Nodup by decide),fun q hq=>by
  rcases xc1 hq with rfl | hq
  · exact hf
  · obtain rfl:=xm1 hq; exact flg0_w,fun q hq=>by
  rcases xc1 hq with rfl | hq
  · show 1<9223372036854775808; decide
  · obtain rfl:=xm1 hq; show 2<9223372036854775808; decide,h1,h2⟩
def zr (i:Nat):Rcd:=⟨i,10,[((i:Int),(i:Int)+1)]⟩
def zf:Nat→Flg
 | 0=>flg0
 | j+1=>{ zf j with top:=some j,rs:=(zf j).rs++[zr j] }
theorem zf_top:∀ j,(zf j).top=(match j with | 0=>none | k+1=>some k)
 | 0=>rfl
 | _+1=>rfl
theorem zf_may (j:Nat) (hj:j<5):smay (zf j) (j:Int)=true:=by
 unfold smay
 rw [decide_eq_true (by omega),zf_top]
 cases j with
 | zero=>rfl
 | succ k=>simp; omega
theorem zr_in (j:Nat) (hj:j<5):∀ p∈[((j:Int),(j:Int)+1)],i64 p.1∧i64 p.2:=fun p hp=>by
 obtain rfl:=xm1 hp
 unfold i64
 simp only
 omega
theorem zf_w:∀ j,j≤5→FlgW (zf j)
 | 0,_=>flg0_w
 | j+1,h=>sent_w (zf_w j (by omega)) (zf_may j (by omega)) 10 (zr_in j (by omega))
theorem zsc_sent (j:Nat) (hj:j<5):ssn (zsc 1 (zf j)) 1 (j:Int) 10 [((j:Int),(j:Int)+1)]=zsc 1 (zf (j+1)):=by
 show (if smay (zf j) (j:Int)=true then _ else _)=_
 rw [if_pos (zf_may j hj)]
 rfl
theorem zf_sz:∀ j,fsz (zf j)=2*j
 | 0=>rfl
 | j+1=>by
   have h1:=fsz_app (zf j) (some j) (zr j); have h2:=zf_sz j
   show fsz { zf j with top:=some j,rs:=(zf j).rs++[zr j] }=_
   rw [h1,h2]
   show 2*j+1+1=_
   omega
def zg:Flg:=⟨3,some 4,[zr 2]⟩
def zl:Flg:=⟨2,some 4,[]⟩
theorem zg_w:FlgW zg:=⟨by decide,by decide,fun r hr=>by obtain rfl:=xm1 hr; exact ⟨by decide,by decide,zr_in 2 (by decide)⟩,List.pairwise_singleton _ _,fun r hr=>by obtain rfl:=xm1 hr; exact ⟨4,rfl,by decide⟩,fun t ht=>by obtain rfl:=Option.some.inj ht; decide⟩
theorem zl_w:FlgW zl:=⟨by decide,by decide,fun r hr=>(by cases hr),List.Pairwise.nil,fun r hr=>(by cases hr),fun t ht=>by obtain rfl:=Option.some.inj ht; decide⟩
theorem shown21_any {I:SchI} (hK:SchOK I) (w0:World) :
 Calls Try.prog 8 #[] w0 fun e w'=>e=.returned (.bool true)∧Below w0.heap.size w0 w':=by
 have M:=Mm.init w0
 go_enter Try.func8,Try.ntmps8
 go_upto_region 0 with fail; refine wp_region_list ?_; refine xpL (.bool false) ?_; refine xT ?_; go_upto_region 1 with fail; refine wp_region_list ?_; have key:=hK.new w0 _ _ 1 (by unfold i64; decide) M; refine xcL key ?_; clear key; rintro e w1 ⟨v_,ba0,rfl,hIa,M',l_⟩
 obtain ⟨Ra,rfl⟩:=hK.ptr _ _ _ _ hIa
 clear M; have M:=M'.perm (pull0 ([]:List (Nat × List Value)) ba0 ([]:List (Nat × List Value))).symm; clear M'; clear l_
 replace M:Mm w0 ((ba0++([]:List (Nat × List Value)))) w1:=M
 refine xeL ?_; refine xpL (.pointer (some ⟨Ra,0,none⟩)) ?_; refine xT ?_; go_upto_region 2 with fail; refine wp_region_list ?_; refine xpL (.pointer (some ⟨Ra,0,none⟩)) ?_; refine xpL (.bool false) ?_; refine xT ?_; go_upto_region 4 with fail; refine wp_region_list ?_; refine xpL (.pointer (some ⟨Ra,0,none⟩)) ?_
 have Mp:=M.perm (pull0 ([]:List (Nat × List Value)) ba0 ([]:List (Nat × List Value))); have key:=hK.opn w0 _ _ (snew 1) ba0 _ 1 (snew_w _) (show 0<1000000000 by decide) (by unfold i64; decide) hIa Mp
 rw [show sop (snew 1) 1=⟨true,-1,[(1,flg0)]⟩ from rfl] at key
 refine xcL key ?_; clear key; rintro e w2 ⟨ba1,rfl,hI_,M',o1⟩; clear o1 Mp M hIa; have hIa:=hI_; clear hI_
 have M:Mm w0 ((ba1++([]:List (Nat × List Value)))) w2:=M'.perm (pull0 ([]:List (Nat × List Value)) ba1 ([]:List (Nat × List Value))).symm
 clear M'; refine xeL ?_; refine xT ?_; go_upto_region 5 with fail; refine wp_region_list ?_; refine xpL (.pointer (some ⟨Ra,0,none⟩)) ?_; have Mp:=M.perm (pull0 ([]:List (Nat × List Value)) ba1 ([]:List (Nat × List Value)))
 have key:=hK.opn w0 _ _ ⟨true,-1,[(1,flg0)]⟩ ba1 _ 2 (show SchW ⟨true,-1,[(1,flg0)]⟩ from sop_w (snew_w 1) (id:=1) (by unfold i64; decide)) (show 1+(0+0)<1000000000 by decide) (by unfold i64; decide) hIa Mp
 rw [show sop ⟨true,-1,[(1,flg0)]⟩ 2=zsc (-1) flg0 from rfl] at key
 refine xcL key ?_; clear key; rintro e w3 ⟨ba2,rfl,hI_,M',o1⟩; clear o1 Mp M hIa; have hIa:=hI_; clear hI_
 have M:Mm w0 ((ba2++([]:List (Nat × List Value)))) w3:=M'.perm (pull0 ([]:List (Nat × List Value)) ba2 ([]:List (Nat × List Value))).symm
 clear M'; refine xeL ?_; refine xT ?_; go_upto_region 6 with fail; refine wp_region_list ?_; refine xpL (.pointer (some ⟨Ra,0,none⟩)) ?_; have hlb:=(Below.refl w3.heap.size w3).alloc (xnR _) (.cells #[.int .i64 1,.int .i64 2] 3); refine actL (w':=w3.alloc (.cells #[.int .i64 1,.int .i64 2] 3)) (.slice (some ⟨w3.heap.size,0,none⟩) 2 2) rfl (by kernel_rfl) ?_; simp only [aP,lI,l0,lS]
 replace hIa:=hK.bel hIa hlb; replace M:=M.box #[.int .i64 1,.int .i64 2] 3 w3.heap.size rfl; clear hlb; generalize w3.alloc (.cells #[.int .i64 1,.int .i64 2] 3)=w4 at M hIa ⊢; generalize w3.heap.size=B4 at M ⊢
 replace M:Mm w0 ((B4,[.int .i64 1,.int .i64 2])::(ba2++([]:List (Nat × List Value)))) w4:=M
 have Mp:=M.perm (pull0 ([(B4,[.int .i64 1,.int .i64 2])]:List (Nat × List Value)) ba2 ([]:List (Nat × List Value)))
 have key:=hK.pck w0 _ _ (zsc (-1) flg0) ba2 _ [1,2] (some ⟨B4,0,none⟩) 2 [] none 0 (zsc_w (by decide) (by decide) flg0_w) (show 2+(0+0)<1000000000 by decide) (by decide) (by decide) (fun e=>by cases e) (by unfold i64; decide) (M.srcI mS [1,2] rfl) (fun b_ hb_ _ h_=>by obtain rfl:=xm1 h_; exact Mp.beside mS hb_) (by decide) (by decide) (fun _=>rfl) (fun _ h_=>by cases h_) (fun j hj=>absurd hj (xnZ j)) (fun _ _ h_=>absurd rfl h_) hIa Mp
 rw [show spA (zsc (-1) flg0) [1,2] []=1 from rfl] at key
 rw [show spB (zsc (-1) flg0) [1,2] []=true from rfl] at key
 rw [show spc (zsc (-1) flg0) [1,2] []=zsc 1 flg0 from rfl] at key
 refine xcL key ?_; clear key; rintro e w5 ⟨ba3,rfl,hI_,M',o1⟩; clear o1 Mp M hIa; have hIa:=hI_; clear hI_
 have M:Mm w0 ((B4,[.int .i64 1,.int .i64 2])::(ba3++([]:List (Nat × List Value)))) w5:=M'.perm (pull0 ([(B4,[.int .i64 1,.int .i64 2])]:List (Nat × List Value)) ba3 ([]:List (Nat × List Value))).symm
 clear M'; refine xeL ?_; refine xpL (.tuple #[.int .i64 1,.bool true]) ?_; refine xpL (.int .i64 1) ?_; refine xpL (.bool true) ?_; refine xpL (.int .i64 1) ?_; refine xpL (.bool true) ?_; refine xT ?_; go_upto_region 7 with fail; refine wp_region_list ?_; refine xpL (.pointer (some ⟨Ra,0,none⟩)) ?_; have hlb:=(Below.refl w5.heap.size w5).alloc (xnR _) (.cells #[.int .i64 1,.int .i64 2] 3)
 refine actL (w':=w5.alloc (.cells #[.int .i64 1,.int .i64 2] 3)) (.slice (some ⟨w5.heap.size,0,none⟩) 2 2) rfl (by kernel_rfl) ?_; simp only [aP,lI,l0,lS]; replace hIa:=hK.bel hIa hlb; replace M:=M.box #[.int .i64 1,.int .i64 2] 3 w5.heap.size rfl; clear hlb; generalize w5.alloc (.cells #[.int .i64 1,.int .i64 2] 3)=w6 at M hIa ⊢; generalize w5.heap.size=B6 at M ⊢
 replace M:Mm w0 ((B6,[.int .i64 1,.int .i64 2])::(B4,[.int .i64 1,.int .i64 2])::(ba3++([]:List (Nat × List Value)))) w6:=M
 have Mp:=M.perm (pull0 ([(B6,[.int .i64 1,.int .i64 2]),(B4,[.int .i64 1,.int .i64 2])]:List (Nat × List Value)) ba3 ([]:List (Nat × List Value)))
 have key:=hK.pck w0 _ _ (zsc 1 flg0) ba3 _ [1,2] (some ⟨B6,0,none⟩) 2 [] none 0 (zsc_w (by decide) (by decide) flg0_w) (show 2+(0+0)<1000000000 by decide) (by decide) (by decide) (fun e=>by cases e) (by unfold i64; decide) (M.srcI mS [1,2] rfl) (fun b_ hb_ _ h_=>by obtain rfl:=xm1 h_; exact Mp.beside mS hb_) (by decide) (by decide) (fun _=>rfl) (fun _ h_=>by cases h_) (fun j hj=>absurd hj (xnZ j)) (fun _ _ h_=>absurd rfl h_) hIa Mp
 rw [show spA (zsc 1 flg0) [1,2] []=2 from rfl] at key
 rw [show spB (zsc 1 flg0) [1,2] []=true from rfl] at key
 rw [show spc (zsc 1 flg0) [1,2] []=zsc 2 flg0 from rfl] at key
 refine xcL key ?_; clear key; rintro e w7 ⟨ba4,rfl,hI_,M',o1⟩; clear o1 Mp M hIa; have hIa:=hI_; clear hI_
 have M:Mm w0 ((B6,[.int .i64 1,.int .i64 2])::(B4,[.int .i64 1,.int .i64 2])::(ba4++([]:List (Nat × List Value)))) w7:=M'.perm (pull0 ([(B6,[.int .i64 1,.int .i64 2]),(B4,[.int .i64 1,.int .i64 2])]:List (Nat × List Value)) ba4 ([]:List (Nat × List Value))).symm
 clear M'; refine xeL ?_; refine xpL (.tuple #[.int .i64 2,.bool true]) ?_; refine xpL (.int .i64 2) ?_; refine xpL (.bool true) ?_; refine xpL (.int .i64 2) ?_; refine xpL (.bool true) ?_; refine xT ?_; go_upto_region 8 with fail; refine wp_region_list ?_; refine xpL (.pointer (some ⟨Ra,0,none⟩)) ?_; have hlb:=(Below.refl w7.heap.size w7).alloc (xnR _) (.cells #[.int .i64 1,.int .i64 2] 3)
 refine actL (w':=w7.alloc (.cells #[.int .i64 1,.int .i64 2] 3)) (.slice (some ⟨w7.heap.size,0,none⟩) 2 2) rfl (by kernel_rfl) ?_; simp only [aP,lI,l0,lS]; replace hIa:=hK.bel hIa hlb; replace M:=M.box #[.int .i64 1,.int .i64 2] 3 w7.heap.size rfl; clear hlb; generalize w7.alloc (.cells #[.int .i64 1,.int .i64 2] 3)=w8 at M hIa ⊢; generalize w7.heap.size=B8 at M ⊢
 replace M:Mm w0 ((B8,[.int .i64 1,.int .i64 2])::(B6,[.int .i64 1,.int .i64 2])::(B4,[.int .i64 1,.int .i64 2])::(ba4++([]:List (Nat × List Value)))) w8:=M
 have Mp:=M.perm (pull0 ([(B8,[.int .i64 1,.int .i64 2]),(B6,[.int .i64 1,.int .i64 2]),(B4,[.int .i64 1,.int .i64 2])]:List (Nat × List Value)) ba4 ([]:List (Nat × List Value)))
 have key:=hK.pck w0 _ _ (zsc 2 flg0) ba4 _ [1,2] (some ⟨B8,0,none⟩) 2 [] none 0 (zsc_w (by decide) (by decide) flg0_w) (show 2+(0+0)<1000000000 by decide) (by decide) (by decide) (fun e=>by cases e) (by unfold i64; decide) (M.srcI mS [1,2] rfl) (fun b_ hb_ _ h_=>by obtain rfl:=xm1 h_; exact Mp.beside mS hb_) (by decide) (by decide) (fun _=>rfl) (fun _ h_=>by cases h_) (fun j hj=>absurd hj (xnZ j)) (fun _ _ h_=>absurd rfl h_) hIa Mp
 rw [show spA (zsc 2 flg0) [1,2] []=1 from rfl] at key
 rw [show spB (zsc 2 flg0) [1,2] []=true from rfl] at key
 rw [show spc (zsc 2 flg0) [1,2] []=zsc 1 flg0 from rfl] at key
 refine xcL key ?_; clear key; rintro e w9 ⟨ba5,rfl,hI_,M',o1⟩; clear o1 Mp M hIa; have hIa:=hI_; clear hI_
 have M:Mm w0 ((B8,[.int .i64 1,.int .i64 2])::(B6,[.int .i64 1,.int .i64 2])::(B4,[.int .i64 1,.int .i64 2])::(ba5++([]:List (Nat × List Value)))) w9:=M'.perm (pull0 ([(B8,[.int .i64 1,.int .i64 2]),(B6,[.int .i64 1,.int .i64 2]),(B4,[.int .i64 1,.int .i64 2])]:List (Nat × List Value)) ba5 ([]:List (Nat × List Value))).symm
 clear M'; refine xeL ?_; refine xpL (.tuple #[.int .i64 1,.bool true]) ?_; refine xpL (.int .i64 1) ?_; refine xpL (.bool true) ?_; refine xpL (.int .i64 1) ?_; refine xpL (.bool true) ?_; refine xT ?_; go_upto_region 9 with fail; refine wp_region_list ?_; refine xpL (.int .i64 0) ?_; refine xT ?_
 have M2:Mm w0 (ba5++([]:List (Nat × List Value))) w9:=M.tail.tail.tail
 have HI:=show Hid _ from (show I w9 (.pointer (some ⟨Ra,0,none⟩)) (zsc 1 (zf 0)) ba5∧Mm w0 (ba5++([]:List (Nat × List Value))) w9 from ⟨hIa,M2⟩); clear M M2 hIa; go_wp2
 go_loopw [8] (fun i w'=>∃ (j:Nat) (ga:List (Nat × List Value)),j≤5∧i=.int .i64 (j:Int)∧I w' (.pointer (some ⟨Ra,0,none⟩)) (zsc 1 (zf j)) ga∧Mm w0 (ga++([]:List (Nat × List Value))) w') (fun i _=>5-(intOf i).toNat)
 case atStart=>exact ⟨0,_,by omega,rfl,HI.out⟩
 case round =>
  clear HI
  obtain ⟨j,ga,hj,rfl,hIa,M⟩:=hrel
  by_cases hj5:j<5
  · go_upto_region 10 with fail
    refine wp_region_list ?_; refine xpL (.int .i64 ((j:Nat):Int)) ?_; refine xaL (.bool true) (lssI .i64 _ _ _ _ _ _ rfl rfl rfl true (decide_eq_true (by omega)) _) ?_; refine xT ?_; go_upto_region 12 with fail; refine wp_region_list ?_; refine xpL (.pointer (some ⟨Ra,0,none⟩)) ?_; refine xpL (.int .i64 ((j:Nat):Int)) ?_; refine xpL (.int .i64 ((j:Nat):Int)) ?_
    refine xpL (.int .i64 ((j:Nat):Int)) ?_; refine readL (.int .i64 (((j:Nat):Int)+1)) rfl (addI .i64 _ _ _ _ _ _ _ rfl rfl rfl (by rw [xw6]; omega) _) ?_; simp only [aP,lI,l0,lS]; refine xpL (.agg #[.int .i64 ((j:Nat):Int),.int .i64 (((j:Nat):Int)+1)]) ?_
    have hlb:=(Below.refl wr.heap.size wr).alloc (xnR _) (.cells #[.int .i64 ((j:Nat):Int),.int .i64 (((j:Nat):Int)+1)] 38); refine actL (w':=wr.alloc (.cells #[.int .i64 ((j:Nat):Int),.int .i64 (((j:Nat):Int)+1)] 38)) (.slice (some ⟨wr.heap.size,0,none⟩) 1 1) rfl (by kernel_rfl) ?_; simp only [aP,lI,l0,lS]; replace hIa:=hK.bel hIa hlb
    replace M:=M.box #[.int .i64 ((j:Nat):Int),.int .i64 (((j:Nat):Int)+1)] 38 wr.heap.size rfl; clear hlb; generalize wr.alloc (.cells #[.int .i64 ((j:Nat):Int),.int .i64 (((j:Nat):Int)+1)] 38)=w10 at M hIa ⊢; generalize wr.heap.size=B10 at M ⊢
    replace M:Mm w0 ((B10,[.int .i64 ((j:Nat):Int),.int .i64 (((j:Nat):Int)+1)])::(ga++([]:List (Nat × List Value)))) w10:=M
    have Mp:=M.perm (pull0 ([(B10,[.int .i64 ((j:Nat):Int),.int .i64 (((j:Nat):Int)+1)])]:List (Nat × List Value)) ga ([]:List (Nat × List Value)))
    have key:=hK.snt w0 _ _ (zsc 1 (zf j)) ga _ 1 ((j:Nat):Int) 10 [(((j:Nat):Int),((j:Nat):Int)+1)] (some ⟨B10,0,none⟩) 1 (zsc_w (by decide) (by decide) (zf_w j hj)) (show 2+(fsz (zf j)+0)<1000000000 by rw [zf_sz]; omega) (by unfold i64; decide) (by unfold i64; omega) (by unfold i64; decide) (show (1:Nat)<2000000 by decide) (zr_in j hj5) (RgW.ofW (M.newWt mS [(((j:Nat):Int),((j:Nat):Int)+1)] rfl (xnR _))) (fun b_ hb_ _ h_=>by obtain rfl:=xm1 h_; exact Mp.beside mS hb_) hIa Mp
    rw [zsc_sent j hj5] at key
    refine xcL key ?_; clear key; rintro e w11 ⟨ba1,rfl,hI_,M',o1⟩; clear o1 Mp M hIa; have hIa:=hI_; clear hI_
    have M:Mm w0 ((B10,[.int .i64 ((j:Nat):Int),.int .i64 (((j:Nat):Int)+1)])::(ba1++([]:List (Nat × List Value)))) w11:=M'.perm (pull0 ([(B10,[.int .i64 ((j:Nat):Int),.int .i64 (((j:Nat):Int)+1)])]:List (Nat × List Value)) ba1 ([]:List (Nat × List Value))).symm
    clear M'; refine xeL ?_; refine xT ?_
    have M2:Mm w0 (ba1++([]:List (Nat × List Value))) w11:=M.tail
    have HS:=show Hid _ from (show I w11 (.pointer (some ⟨Ra,0,none⟩)) (zsc 1 (zf (j+1))) ba1∧Mm w0 (ba1++([]:List (Nat × List Value))) w11 from ⟨hIa,M2⟩); clear M M2 hIa; go_wp2
    go_roundw
    case rel=>exact ⟨j+1,_,by omega,by go_num,HS.out⟩
    case measure=>simp [intOf]; omega
  · obtain rfl:j=5:=by omega
    go_upto_region 10 with fail; refine wp_region_list ?_; refine xpL (.int .i64 ((5:Nat):Int)) ?_; refine xaL (.bool false) (lssI .i64 _ _ _ _ _ _ rfl rfl rfl false (decide_eq_false (by omega)) _) ?_; refine xT ?_; go_upto_region 13 with fail; refine wp_region_list ?_; refine xpL (.pointer (some ⟨Ra,0,none⟩)) ?_
    have Mp:=M.perm (pull0 ([]:List (Nat × List Value)) ga ([]:List (Nat × List Value))); have key:=hK.und w0 _ _ (zsc 1 (zf 5)) ga _ 1 (zsc_w (by decide) (by decide) (zf_w 5 (by decide))) (show 2+(10+0)<1000000000 by decide) (by unfold i64; decide) hIa Mp; clear Mp
    rw [show sun (zsc 1 (zf 5)) 1=5 from rfl] at key
    refine xcL key ?_; clear key; rintro e w12 ⟨rfl,l_⟩; replace M:=M.call l_; replace hIa:=hK.bel hIa l_; clear l_; refine xeL ?_; refine xpL (.int .i64 5) ?_; refine xT ?_; go_upto_region 14 with fail; refine wp_region_list ?_; refine xpL (.pointer (some ⟨Ra,0,none⟩)) ?_; have hlb:=(Below.refl w12.heap.size w12).alloc (xnR _) (.cells #[.int .i64 1] 3)
    refine actL (w':=w12.alloc (.cells #[.int .i64 1] 3)) (.slice (some ⟨w12.heap.size,0,none⟩) 1 1) rfl (by kernel_rfl) ?_; simp only [aP,lI,l0,lS]; replace hIa:=hK.bel hIa hlb; replace M:=M.box #[.int .i64 1] 3 w12.heap.size rfl; clear hlb; generalize w12.alloc (.cells #[.int .i64 1] 3)=w13 at M hIa ⊢; generalize w12.heap.size=B13 at M ⊢
    replace M:Mm w0 ((B13,[.int .i64 1])::(ga++([]:List (Nat × List Value)))) w13:=M
    have Mp:=M.perm (pull0 ([(B13,[.int .i64 1])]:List (Nat × List Value)) ga ([]:List (Nat × List Value)))
    have key:=hK.pck w0 _ _ (zsc 1 (zf 5)) ga _ [1] (some ⟨B13,0,none⟩) 1 [] none 0 (zsc_w (by decide) (by decide) (zf_w 5 (by decide))) (show 2+(10+0)<1000000000 by decide) (by decide) (by decide) (fun e=>by cases e) (by unfold i64; decide) (M.srcI mS [1] rfl) (fun b_ hb_ _ h_=>by obtain rfl:=xm1 h_; exact Mp.beside mS hb_) (by decide) (by decide) (fun _=>rfl) (fun _ h_=>by cases h_) (fun j hj=>absurd hj (xnZ j)) (fun _ _ h_=>absurd rfl h_) hIa Mp
    rw [show spA (zsc 1 (zf 5)) [1] []=0 from rfl] at key
    rw [show spB (zsc 1 (zf 5)) [1] []=false from rfl] at key
    rw [show spc (zsc 1 (zf 5)) [1] []=zsc 1 (zf 5) from rfl] at key
    refine xcL key ?_; clear key; rintro e w14 ⟨ba1,rfl,hI_,M',o1⟩; clear o1 Mp M hIa; have hIa:=hI_; clear hI_
    have M:Mm w0 ((B13,[.int .i64 1])::(ba1++([]:List (Nat × List Value)))) w14:=M'.perm (pull0 ([(B13,[.int .i64 1])]:List (Nat × List Value)) ba1 ([]:List (Nat × List Value))).symm
    clear M'; refine xeL ?_; refine xpL (.tuple #[.int .i64 0,.bool false]) ?_; refine xpL (.int .i64 0) ?_; refine xpL (.bool false) ?_; refine xpL (.int .i64 0) ?_; refine xpL (.bool false) ?_; refine xT ?_; go_upto_region 15 with fail; refine wp_region_list ?_; refine xpL (.pointer (some ⟨Ra,0,none⟩)) ?_; refine xpL (.agg #[.int .i64 3,.int .i64 4]) ?_
    have hlb:=(Below.refl w14.heap.size w14).alloc (xnR _) (.cells #[.int .i64 3,.int .i64 4] 38); refine actL (w':=w14.alloc (.cells #[.int .i64 3,.int .i64 4] 38)) (.slice (some ⟨w14.heap.size,0,none⟩) 1 1) rfl (by kernel_rfl) ?_; simp only [aP,lI,l0,lS]; replace hIa:=hK.bel hIa hlb; replace M:=M.box #[.int .i64 3,.int .i64 4] 38 w14.heap.size rfl; clear hlb
    generalize w14.alloc (.cells #[.int .i64 3,.int .i64 4] 38)=w15 at M hIa ⊢; generalize w14.heap.size=B15 at M ⊢
    replace M:Mm w0 ((B15,[.int .i64 3,.int .i64 4])::(B13,[.int .i64 1])::(ba1++([]:List (Nat × List Value)))) w15:=M
    have Mp:=M.perm (pull0 ([(B15,[.int .i64 3,.int .i64 4]),(B13,[.int .i64 1])]:List (Nat × List Value)) ba1 ([]:List (Nat × List Value)))
    have key:=hK.got w0 _ _ (zsc 1 (zf 5)) ba1 _ 1 4 [(3,4)] (some ⟨B15,0,none⟩) 1 25 (zsc_w (by decide) (by decide) (zf_w 5 (by decide))) (show 2+(10+0)<1000000000 by decide) (by unfold i64; decide) (by unfold i64; decide) (by unfold i64; decide) (show (1:Nat)<140737488355328 by decide) (by unfold i64; decide) (RgW.ofW (M.newWt mS [(3,4)] rfl (xnR _))) (fun b_ hb_ _ h_=>by obtain rfl:=xm1 h_; exact Mp.beside mS hb_) hIa Mp
    rw [show sgO (zsc 1 (zf 5)) 1 4 [(3,4)]=[(0,1),(1,2)] from rfl] at key
    rw [show sgT (zsc 1 (zf 5)) 1 4 25=15 from rfl] at key
    rw [show sgt (zsc 1 (zf 5)) 1 4 [(3,4)]=zsc 1 zg from rfl] at key
    refine xcL key ?_; clear key; rintro e w16 ⟨p16,c16,ba2,rfl,W_16,hI_,M',o1⟩; clear o1 Mp M hIa; have hIa:=hI_; clear hI_
    have M:Mm w0 ((B15,[.int .i64 3,.int .i64 4])::(B13,[.int .i64 1])::(ba2++((obs p16)++([]:List (Nat × List Value))))) w16:=M'.perm (pullY ([(B15,[.int .i64 3,.int .i64 4]),(B13,[.int .i64 1])]:List (Nat × List Value)) ba2 (obs p16) ([]:List (Nat × List Value)))
    clear M'; refine xeL ?_; refine xpL (.tuple #[.slice p16 (([(0,1),(1,2)]:List (Int × Int)).length) c16,.int .i64 15]) ?_; refine xpL (.slice p16 (([(0,1),(1,2)]:List (Int × Int)).length) c16) ?_; refine xpL (.int .i64 15) ?_; refine xpL (.slice p16 (([(0,1),(1,2)]:List (Int × Int)).length) c16) ?_; refine xpL (.int .i64 15) ?_; refine xT ?_; go_upto_region 16 with fail
    refine wp_region_list ?_; refine xpL (.slice p16 (([(0,1),(1,2)]:List (Int × Int)).length) c16) ?_; refine xpL (.agg #[.int .i64 0,.int .i64 1]) ?_; refine xpL (.agg #[.int .i64 1,.int .i64 2]) ?_; have hlb:=(Below.refl w16.heap.size w16).alloc (xnR _) (.cells #[.int .i64 0,.int .i64 1,.int .i64 1,.int .i64 2] 38)
    refine actL (w':=w16.alloc (.cells #[.int .i64 0,.int .i64 1,.int .i64 1,.int .i64 2] 38)) (.slice (some ⟨w16.heap.size,0,none⟩) 2 2) rfl (by kernel_rfl) ?_; simp only [aP,lI,l0,lS]; replace hIa:=hK.bel hIa hlb; replace W_16:=NewW.below W_16 hlb; replace M:=M.box #[.int .i64 0,.int .i64 1,.int .i64 1,.int .i64 2] 38 w16.heap.size rfl; clear hlb
    generalize w16.alloc (.cells #[.int .i64 0,.int .i64 1,.int .i64 1,.int .i64 2] 38)=w17 at M hIa W_16 ⊢; generalize w16.heap.size=B17 at M ⊢
    replace M:Mm w0 ((B17,[.int .i64 0,.int .i64 1,.int .i64 1,.int .i64 2])::(B15,[.int .i64 3,.int .i64 4])::(B13,[.int .i64 1])::(ba2++((obs p16)++([]:List (Nat × List Value))))) w17:=M
    have key:=same21_any ([(0,1),(1,2)]) (by decide) _ _ p16 (some ⟨B17,0,none⟩) c16 2 w17 W_16 (M.newWt mS [(0,1),(1,2)] rfl (by decide)); refine xcL key ?_; clear key; rintro e w18 ⟨rfl,l_⟩; replace M:=M.call l_; replace hIa:=hK.bel hIa l_; replace W_16:=NewW.below W_16 l_; clear l_; refine xeL ?_; refine xpL (.bool true) ?_; refine xT ?_; go_upto_region 17 with fail
    refine wp_region_list ?_; refine xpL (.pointer (some ⟨Ra,0,none⟩)) ?_; have Mp:=M.perm (pull0 ([(B17,[.int .i64 0,.int .i64 1,.int .i64 1,.int .i64 2]),(B15,[.int .i64 3,.int .i64 4]),(B13,[.int .i64 1])]:List (Nat × List Value)) ba2 ((obs p16)++([]:List (Nat × List Value))))
    have key:=hK.und w0 _ _ (zsc 1 zg) ba2 _ 1 (zsc_w (by decide) (by decide) zg_w) (show 2+(2+0)<1000000000 by decide) (by unfold i64; decide) hIa Mp; clear Mp
    rw [show sun (zsc 1 zg) 1=1 from rfl] at key
    refine xcL key ?_; clear key; rintro e w19 ⟨rfl,l_⟩; replace M:=M.call l_; replace hIa:=hK.bel hIa l_; replace W_16:=NewW.below W_16 l_; clear l_; refine xeL ?_; refine xpL (.int .i64 1) ?_; refine xT ?_; go_upto_region 18 with fail; refine wp_region_list ?_; refine xpL (.pointer (some ⟨Ra,0,none⟩)) ?_
    have Mp:=M.perm (pull0 ([(B17,[.int .i64 0,.int .i64 1,.int .i64 1,.int .i64 2]),(B15,[.int .i64 3,.int .i64 4]),(B13,[.int .i64 1])]:List (Nat × List Value)) ba2 ((obs p16)++([]:List (Nat × List Value)))); have key:=hK.win w0 _ _ (zsc 1 zg) ba2 _ 1 (zsc_w (by decide) (by decide) zg_w) (show 2+(2+0)<1000000000 by decide) (by unfold i64; decide) hIa Mp; clear Mp
    rw [show swn (zsc 1 zg) 1=3 from rfl] at key
    refine xcL key ?_; clear key; rintro e w20 ⟨rfl,l_⟩; replace M:=M.call l_; replace hIa:=hK.bel hIa l_; replace W_16:=NewW.below W_16 l_; clear l_; refine xeL ?_; refine xpL (.int .i64 3) ?_; refine xT ?_; go_upto_region 19 with fail; refine wp_region_list ?_; refine xpL (.pointer (some ⟨Ra,0,none⟩)) ?_
    have Mp:=M.perm (pull0 ([(B17,[.int .i64 0,.int .i64 1,.int .i64 1,.int .i64 2]),(B15,[.int .i64 3,.int .i64 4]),(B13,[.int .i64 1])]:List (Nat × List Value)) ba2 ((obs p16)++([]:List (Nat × List Value))))
    have key:=hK.lat w0 _ _ (zsc 1 zg) ba2 _ 1 20 11 (zsc_w (by decide) (by decide) zg_w) (show 2+(2+0)<1000000000 by decide) (by unfold i64; decide) (by unfold i64; decide) (by unfold i64; decide) hIa Mp
    rw [show slO (zsc 1 zg) 1 20 11=[] from rfl] at key
    rw [show sla (zsc 1 zg) 1 20 11=zsc 1 zg from rfl] at key
    refine xcL key ?_; clear key; rintro e w21 ⟨p21,c21,ba3,rfl,W_21,hI_,M',o1⟩; replace W_16:=NewW.offB W_16 o1 (Mp.awayS (fun p_ hp_=>by simp [hp_])); clear o1 Mp M hIa; have hIa:=hI_; clear hI_
    have M:Mm w0 ((B17,[.int .i64 0,.int .i64 1,.int .i64 1,.int .i64 2])::(B15,[.int .i64 3,.int .i64 4])::(B13,[.int .i64 1])::(ba3++((obs p21)++((obs p16)++([]:List (Nat × List Value)))))) w21:=M'.perm (pullY ([(B17,[.int .i64 0,.int .i64 1,.int .i64 1,.int .i64 2]),(B15,[.int .i64 3,.int .i64 4]),(B13,[.int .i64 1])]:List (Nat × List Value)) ba3 (obs p21) ((obs p16)++([]:List (Nat × List Value))))
    clear M'; refine xeL ?_; refine xpL (.slice p21 (([]:List (Int × Int)).length) c21) ?_; refine xT ?_; go_upto_region 20 with fail; refine wp_region_list ?_; refine xpL (.pointer (some ⟨Ra,0,none⟩)) ?_
    have Mp:=M.perm (pull0 ([(B17,[.int .i64 0,.int .i64 1,.int .i64 1,.int .i64 2]),(B15,[.int .i64 3,.int .i64 4]),(B13,[.int .i64 1])]:List (Nat × List Value)) ba3 ((obs p21)++((obs p16)++([]:List (Nat × List Value)))))
    have key:=hK.lat w0 _ _ (zsc 1 zg) ba3 _ 1 20 10 (zsc_w (by decide) (by decide) zg_w) (show 2+(2+0)<1000000000 by decide) (by unfold i64; decide) (by unfold i64; decide) (by unfold i64; decide) hIa Mp
    rw [show slO (zsc 1 zg) 1 20 10=[(2,3)] from rfl] at key
    rw [show sla (zsc 1 zg) 1 20 10=zsc 1 zl from rfl] at key
    refine xcL key ?_; clear key; rintro e w22 ⟨p22,c22,ba4,rfl,W_22,hI_,M',o1⟩; replace W_16:=NewW.offB W_16 o1 (Mp.awayS (fun p_ hp_=>by simp [hp_])); replace W_21:=NewW.offB W_21 o1 (Mp.awayS (fun p_ hp_=>by simp [hp_])); clear o1 Mp M hIa; have hIa:=hI_; clear hI_
    have M:Mm w0 ((B17,[.int .i64 0,.int .i64 1,.int .i64 1,.int .i64 2])::(B15,[.int .i64 3,.int .i64 4])::(B13,[.int .i64 1])::(ba4++((obs p22)++((obs p21)++((obs p16)++([]:List (Nat × List Value))))))) w22:=M'.perm (pullY ([(B17,[.int .i64 0,.int .i64 1,.int .i64 1,.int .i64 2]),(B15,[.int .i64 3,.int .i64 4]),(B13,[.int .i64 1])]:List (Nat × List Value)) ba4 (obs p22) ((obs p21)++((obs p16)++([]:List (Nat × List Value)))))
    clear M'; refine xeL ?_; refine xpL (.agg #[.int .i64 2,.int .i64 3]) ?_; have hlb:=(Below.refl w22.heap.size w22).alloc (xnR _) (.cells #[.int .i64 2,.int .i64 3] 38); refine actL (w':=w22.alloc (.cells #[.int .i64 2,.int .i64 3] 38)) (.slice (some ⟨w22.heap.size,0,none⟩) 1 1) rfl (by kernel_rfl) ?_; simp only [aP,lI,l0,lS]; replace hIa:=hK.bel hIa hlb
    replace W_16:=NewW.below W_16 hlb; replace W_21:=NewW.below W_21 hlb; replace W_22:=NewW.below W_22 hlb; replace M:=M.box #[.int .i64 2,.int .i64 3] 38 w22.heap.size rfl; clear hlb; generalize w22.alloc (.cells #[.int .i64 2,.int .i64 3] 38)=w23 at M hIa W_16 W_21 W_22 ⊢; generalize w22.heap.size=B23 at M ⊢
    replace M:Mm w0 ((B23,[.int .i64 2,.int .i64 3])::(B17,[.int .i64 0,.int .i64 1,.int .i64 1,.int .i64 2])::(B15,[.int .i64 3,.int .i64 4])::(B13,[.int .i64 1])::(ba4++((obs p22)++((obs p21)++((obs p16)++([]:List (Nat × List Value))))))) w23:=M
    have key:=same21_any ([(2,3)]) (by decide) _ _ p22 (some ⟨B23,0,none⟩) c22 1 w23 W_22 (M.newWt mS [(2,3)] rfl (by decide)); refine xcL key ?_; clear key; rintro e w24 ⟨rfl,l_⟩; replace M:=M.call l_; replace hIa:=hK.bel hIa l_; replace W_16:=NewW.below W_16 l_; replace W_21:=NewW.below W_21 l_; replace W_22:=NewW.below W_22 l_; clear l_; refine xeL ?_
    refine xpL (.bool true) ?_; refine xT ?_; go_upto_region 21 with fail; refine wp_region_list ?_; refine xpL (.int .i64 1) ?_; refine xaL (.bool true) (eqlI .i64 _ _ _ _ _ _ rfl rfl rfl true (by decide) _) ?_; refine xpL (.bool true) ?_; refine xpL (.int .i64 2) ?_; refine xaL (.bool true) (eqlI .i64 _ _ _ _ _ _ rfl rfl rfl true (by decide) _) ?_; refine xpL (.bool true) ?_
    refine xpL (.bool true) ?_; refine xpL (.int .i64 1) ?_; refine xaL (.bool true) (eqlI .i64 _ _ _ _ _ _ rfl rfl rfl true (by decide) _) ?_; refine xpL (.bool true) ?_; refine xpL (.bool true) ?_; refine xpL (.int .i64 5) ?_; refine xaL (.bool true) (eqlI .i64 _ _ _ _ _ _ rfl rfl rfl true (by decide) _) ?_; refine xpL (.bool true) ?_; refine xpL (.bool true) ?_; refine xpL (.bool false) ?_
    refine xpL (.bool true) ?_; refine xpL (.bool true) ?_; refine xpL (.bool true) ?_; refine xpL (.bool true) ?_; refine xpL (.bool true) ?_; refine xpL (.bool true) ?_; refine xpL (.int .i64 15) ?_; refine xaL (.bool true) (eqlI .i64 _ _ _ _ _ _ rfl rfl rfl true (by decide) _) ?_; refine xpL (.bool true) ?_; refine xpL (.bool true) ?_; refine xpL (.int .i64 1) ?_
    refine xaL (.bool true) (eqlI .i64 _ _ _ _ _ _ rfl rfl rfl true (by decide) _) ?_; refine xpL (.bool true) ?_; refine xpL (.bool true) ?_; refine xpL (.int .i64 3) ?_; refine xaL (.bool true) (eqlI .i64 _ _ _ _ _ _ rfl rfl rfl true (by decide) _) ?_; refine xpL (.bool true) ?_; refine xpL (.bool true) ?_; refine xpL (.slice p21 (([]:List (Int × Int)).length) c21) ?_
    refine readL (.int .i64 ((([]:List (Int × Int)).length:Nat):Int)) rfl (lenS _ 28 38 p21 (([]:List (Int × Int)).length) c21 rfl Try.underlying28 rfl _) ?_; simp only [aP,lI,l0,lS]; refine xaL (.bool true) (eqlI .i64 _ _ _ _ _ _ rfl rfl rfl true rfl _) ?_; refine xpL (.bool true) ?_; refine xpL (.bool true) ?_; refine xpL (.bool true) ?_; refine xpL (.bool true) ?_
    refine xpL (.bool true) ?_; refine xpL (.pointer (some ⟨Ra,0,none⟩)) ?_; have Mp:=M.perm (pull0 ([(B23,[.int .i64 2,.int .i64 3]),(B17,[.int .i64 0,.int .i64 1,.int .i64 1,.int .i64 2]),(B15,[.int .i64 3,.int .i64 4]),(B13,[.int .i64 1])]:List (Nat × List Value)) ba4 ((obs p22)++((obs p21)++((obs p16)++([]:List (Nat × List Value))))))
    have key:=hK.und w0 _ _ (zsc 1 zl) ba4 _ 1 (zsc_w (by decide) (by decide) zl_w) (show 2+(0+0)<1000000000 by decide) (by unfold i64; decide) hIa Mp; clear Mp
    rw [show sun (zsc 1 zl) 1=0 from rfl] at key
    refine xcL key ?_; clear key; rintro e w25 ⟨rfl,l_⟩; replace M:=M.call l_; replace hIa:=hK.bel hIa l_; replace W_16:=NewW.below W_16 l_; replace W_21:=NewW.below W_21 l_; replace W_22:=NewW.below W_22 l_; clear l_; refine xeL ?_; refine xaL (.bool true) (eqlI .i64 _ _ _ _ _ _ rfl rfl rfl true (by decide) _) ?_; refine xpL (.bool true) ?_; refine xpL (.bool true) ?_
    refine xpL (.pointer (some ⟨Ra,0,none⟩)) ?_; have Mp:=M.perm (pull0 ([(B23,[.int .i64 2,.int .i64 3]),(B17,[.int .i64 0,.int .i64 1,.int .i64 1,.int .i64 2]),(B15,[.int .i64 3,.int .i64 4]),(B13,[.int .i64 1])]:List (Nat × List Value)) ba4 ((obs p22)++((obs p21)++((obs p16)++([]:List (Nat × List Value))))))
    have key:=hK.win w0 _ _ (zsc 1 zl) ba4 _ 1 (zsc_w (by decide) (by decide) zl_w) (show 2+(0+0)<1000000000 by decide) (by unfold i64; decide) hIa Mp; clear Mp
    rw [show swn (zsc 1 zl) 1=2 from rfl] at key
    refine xcL key ?_; clear key; rintro e w26 ⟨rfl,l_⟩; replace M:=M.call l_; replace hIa:=hK.bel hIa l_; replace W_16:=NewW.below W_16 l_; replace W_21:=NewW.below W_21 l_; replace W_22:=NewW.below W_22 l_; clear l_; refine xeL ?_; refine xaL (.bool true) (eqlI .i64 _ _ _ _ _ _ rfl rfl rfl true (by decide) _) ?_; refine xpL (.bool true) ?_; refine xpL (.bool true) ?_; refine xT ?_
    have hbel:=M.below; clear M hIa W_16 W_21 W_22; go_wp2; go_ret
    exact ⟨rfl,hbel⟩
def o1 (f:Flg):Sch:=⟨false,-1,[(5,f)]⟩
def o0:Sch:=⟨false,-1,[]⟩
theorem o1_w {f:Flg} (hf:FlgW f):SchW (o1 f) :=
 ⟨List.nodup_cons.2 ⟨List.not_mem_nil,List.nodup_nil⟩,fun q hq=>by obtain rfl:=xm1 hq; exact hf,fun q hq=>by obtain rfl:=xm1 hq; show 5<9223372036854775808; decide,Int.le_refl _,show (-1:Int)<9223372036854775808 by decide⟩
theorem o0_w:SchW o0:=⟨List.nodup_nil,fun _ h=>(by cases h),fun _ h=>(by cases h),Int.le_refl _,show (-1:Int)<9223372036854775808 by decide⟩
theorem o1_sz (f:Flg):ssz (o1 f)=1+fsz f:=rfl
def lp1 (c:Nat):Int × Int:=(((c:Nat):Int),((c:Nat):Int)+1)
structure OnI (f:Flg) (n:Nat) (he:Nat→Bool):Prop where
 w:FlgW f
 c:∀ r∈f.rs,r.cs=[lp1 r.c]∧r.c<n∧he r.c=false
 t:∀ x,f.top=some x→x<n
 l:f.rs.length≤n
 h:∀ i,n≤i→he i=false
theorem onI0 (n:Nat) {he:Nat→Bool} (h:∀ i,n≤i→he i=false):OnI flg0 n he:=⟨flg0_w,fun _ h=>(by cases h),fun _ h=>(by cases h),Nat.zero_le _,h⟩
theorem sall_one1 {G:List Rcd} (h:∀ r∈G,r.cs=[lp1 r.c]):sall G=(G.map Rcd.c).map lp1:=by
 induction G with
 | nil=>rfl
 | cons r G ih =>
   rw [sall_cons,h r mS,ih fun x hx=>h x (mT _ hx)]
   rfl
theorem OnI.sz {f:Flg} {n:Nat} {he:Nat→Bool} (h:OnI f n he) (hn:n≤1000):ssz (o1 f)<1000000000:=by
 have h1:=sall_one1 fun r hr=>(h.c r hr).1; have h2:=h.l
 rw [o1_sz]
 unfold fsz
 rw [h1,List.length_map,List.length_map]
 omega
def fsnt (f:Flg) (n:Nat) (m:Int):Flg:={ f with top:=some n,rs:=f.rs++[⟨n,smom m,[lp1 n]⟩] }
theorem OnI.may {f:Flg} {n:Nat} {he:Nat→Bool} (h:OnI f n he) (hn:n≤1000):smay f ((n:Nat):Int)=true:=by
 unfold smay
 rw [decide_eq_true (by omega),Bool.true_and]
 cases e:f.top with
 | none=>rfl
 | some x=>have:=h.t x e; exact decide_eq_true (by omega)
theorem lp1_in {n:Nat} (hn:n≤1000):∀ p∈[lp1 n],i64 p.1∧i64 p.2:=fun p hp=>by
 obtain rfl:=xm1 hp
 unfold i64 lp1
 simp only
 omega
theorem OnI.sent {f:Flg} {n:Nat} {he:Nat→Bool} (h:OnI f n he) (hn:n≤1000) (m:Int):OnI (fsnt f n m) (n+1) he:=by
 have hw:=sent_w h.w (h.may hn) m (lp1_in hn)
 rw [Int.toNat_natCast] at hw
 refine ⟨hw,fun r hr=>?_,fun x hx=>?_,?_,fun i hi=>h.h i (by omega)⟩
 · rcases List.mem_append.1 hr with hr | hr
   · have:=h.c r hr
     exact ⟨this.1,by omega,this.2.2⟩
   · obtain rfl:=xm1 hr
     exact ⟨rfl,Nat.lt_succ_self n,h.h n (xnR n)⟩
 · obtain rfl:=Option.some.inj hx
   exact Nat.lt_succ_self n
 · have:=h.l
   show (f.rs++[_]).length≤n+1
   rw [List.length_append]
   show _+1≤_
   omega
theorem OnI.ssn {f:Flg} {n:Nat} {he:Nat→Bool} (h:OnI f n he) (hn:n≤1000) (m:Int):ssn (o1 f) 5 ((n:Nat):Int) m [lp1 n]=o1 (fsnt f n m):=by
 show (if smay f ((n:Nat):Int)=true then _ else _)=_
 rw [if_pos (h.may hn)]
 show o1 _=_
 rw [Int.toNat_natCast]
 rfl
theorem fsnt_len (f:Flg) (n:Nat) (m:Int):(fsnt f n m).rs.length=f.rs.length+1:=by
 show (f.rs++[_]).length=_
 rw [List.length_append]
 rfl
structure Lst1 (cs:List Nat) (n:Nat) (he:Nat→Bool):Prop where
 u:cs.Pairwise (· < ·)
 c:∀ x∈cs,x<n∧he x=false
theorem lst0 (n:Nat) (he:Nat→Bool):Lst1 [] n he:=⟨List.Pairwise.nil,fun _ h=>by cases h⟩
theorem up_len {n:Nat}:∀ {cs:List Nat} {lo:Nat},cs.Pairwise (· < ·)→(∀ x∈cs,lo≤x∧x<n)→cs.length≤n-lo
 | [],_,_,_=>Nat.zero_le _
 | x::cs,lo,h,hc=>by
   obtain ⟨h1,h2⟩:=List.pairwise_cons.1 h
   have h3:=up_len (lo:=x+1) h2 fun y hy=>⟨h1 y hy,(hc y (mT _ hy)).2⟩; have h4:=hc x mS
   show cs.length+1≤_
   omega
theorem Lst1.len {cs:List Nat} {n:Nat} {he:Nat→Bool} (h:Lst1 cs n he):cs.length≤n:=up_len (lo:=0) h.u fun x hx=>⟨Nat.zero_le _,(h.c x hx).1⟩
def mrs (he:Nat→Bool) (cs:List Nat) (k:Nat) (i:Nat):Bool:=he i || decide (i∈cs.take k)
def cn (cs:List Nat) (k:Nat):Nat:=cs.getD k 0
theorem cn_get {cs:List Nat} {k:Nat} (hk:k<cs.length):cs[k]?=some (cn cs k):=by
 unfold cn
 rw [List.getD_eq_getElem?_getD,List.getElem?_eq_getElem hk]
 rfl
theorem cn_mem {cs:List Nat} {k:Nat} (hk:k<cs.length):cn cs k∈cs:=List.mem_of_getElem? (cn_get hk)
theorem cn_take {cs:List Nat} {k:Nat} (hk:k<cs.length):cs.take (k+1)=cs.take k++[cn cs k]:=by
 rw [List.take_add_one,cn_get hk]
 rfl
theorem mrs_zero (he:Nat→Bool) (cs:List Nat) (i:Nat):mrs he cs 0 i=he i:=by
 unfold mrs
 rw [List.take_zero,decide_eq_false List.not_mem_nil,Bool.or_false]
theorem mrs_at {cs:List Nat} {n:Nat} {he:Nat→Bool} (h:Lst1 cs n he) {k:Nat} (hk:k<cs.length):mrs he cs k (cn cs k)=false:=by
 unfold mrs
 rw [(h.c _ (cn_mem hk)).2,Bool.false_or]
 refine decide_eq_false fun hm=>?_; have h1:=h.u.sublist (List.take_sublist (k+1) cs)
 rw [cn_take hk,List.pairwise_append] at h1
 exact Nat.lt_irrefl _ (h1.2.2 _ hm _ (List.mem_singleton.2 rfl))
theorem mrs_next {cs:List Nat} (he:Nat→Bool) {k:Nat} (hk:k<cs.length) (i:Nat):bput (mrs he cs k) (cn cs k) true i=mrs he cs (k+1) i:=by
 by_cases c:i=cn cs k
 · rw [c,bput_same]
   unfold mrs
   rw [cn_take hk,decide_eq_true (List.mem_append.2 (.inr (List.mem_singleton.2 rfl))),Bool.or_true]
 · rw [bput_other c]
   unfold mrs
   congr 1
   rw [cn_take hk,decide_eq_decide,List.mem_append,List.mem_singleton]
   exact ⟨.inl,fun e=>e.elim id (fun e=>absurd e c)⟩
theorem OnI.marked {f:Flg} {n:Nat} {he:Nat→Bool} (h:OnI f n he) {cs:List Nat} (hc:Lst1 cs n he) (hd:∀ r∈f.rs,r.c∉cs):OnI f n (mrs he cs cs.length):=by
 refine ⟨h.w,fun r hr=>?_,h.t,h.l,fun i hi=>?_⟩
 · have:=h.c r hr
   refine ⟨this.1,this.2.1,?_⟩
   unfold mrs
   rw [this.2.2,List.take_length,decide_eq_false (hd r hr)]
   rfl
 · unfold mrs
   rw [h.h i hi,List.take_length,decide_eq_false (fun hm=>by have:=(hc.c i hm).1; omega)]
   rfl
theorem bput_no {f:Nat→Bool} {n:Nat} (h:f n=false) (j:Nat):bput f n false j=f j:=by
 unfold bput
 split
 · next c=>rw [c,h]
 · rfl
theorem lp1_at {cs:List Nat} {k:Nat} (hk:k<cs.length):(cs.map lp1)[k]?=some (lp1 (cn cs k)):=by rw [List.getElem?_map,cn_get hk]; rfl
theorem rcd_one {rs:List Rcd} (h:rs.Pairwise fun a b=>a.c<b.c) {a b:Rcd} (ha:a∈rs) (hb:b∈rs) (e:a.c=b.c):a=b:=by
 induction rs with
 | nil=>cases ha
 | cons x rs ih =>
   obtain ⟨h1,h2⟩:=List.pairwise_cons.1 h
   rcases xc1 ha with rfl | ha' <;> rcases xc1 hb with rfl | hb'
   · rfl
   · have:=h1 b hb'; omega
   · have:=h1 a ha'; omega
   · exact ih h2 ha' hb'
theorem OnI.part {f:Flg} {n:Nat} {he:Nat→Bool} (h:OnI f n he) {win:Nat} (h1:2≤win) (h2:win≤32) {L:List Rcd} (hL:L.Sublist f.rs) (p:Rcd→Bool) :
 OnI (flose f win (L.filter p) (L.filter fun r=>!p r)) n he∧Lst1 ((L.filter p).map Rcd.c) n he∧(∀ r∈L.filter (fun r=>!p r),r.c∉(L.filter p).map Rcd.c)∧sall (L.filter p)=((L.filter p).map Rcd.c).map lp1:=by
 have hG:(L.filter p).Sublist f.rs:=List.filter_sublist.trans hL
 have hS:(L.filter fun r=>!p r).Sublist f.rs:=List.filter_sublist.trans hL
 refine ⟨⟨flose_w h.w h1 h2 hS,fun r hr=>h.c r (hS.subset hr),h.t,xnT hS.length_le h.l,h.h⟩,⟨List.pairwise_map.2 (h.w.up.sublist hG),fun x hx=>?_⟩,fun r hr hm=>?_,sall_one1 fun r hr=>(h.c r (hG.subset hr)).1⟩
 · obtain ⟨r,hr,rfl⟩:=List.mem_map.1 hx
   exact (h.c r (hG.subset hr)).2
 · obtain ⟨r',hr',e⟩:=List.mem_map.1 hm
   have e2:=rcd_one h.w.up (hG.subset hr') (hS.subset hr) e; subst e2; have a1:=(List.mem_filter.1 hr').2; have a2:=(List.mem_filter.1 hr).2
   rw [a1] at a2
   cases a2
theorem OnI.got {f:Flg} {n:Nat} {he:Nat→Bool} (h:OnI f n he) (top:Int) (l:List (Int × Int)):∃ (f':Flg) (cs:List Nat),sgt (o1 f) 5 top l=o1 f'∧sgO (o1 f) 5 top l=cs.map lp1∧OnI f' n he∧Lst1 cs n he∧∀ r∈f'.rs,r.c∉cs:=by
 have hi:=sgW_in h.w top l
 obtain ⟨a1,a2,a3,a4⟩:=h.part hi.1 hi.2 (sgL_sub f top l) (sold top)
 exact ⟨_,_,rfl,a4,a1,a2,a3⟩
theorem OnI.late {f:Flg} {n:Nat} {he:Nat→Bool} (h:OnI f n he) (now age:Int):∃ (f':Flg) (cs:List Nat),sla (o1 f) 5 now age=o1 f'∧slO (o1 f) 5 now age=cs.map lp1∧OnI f' n he∧Lst1 cs n he∧∀ r∈f'.rs,r.c∉cs:=by
 obtain ⟨a1,a2,a3,a4⟩:=h.part h.w.w1 h.w.w2 (List.Sublist.refl f.rs) (slt now age)
 exact ⟨_,_,rfl,a4,a1,a2,a3⟩
theorem OnI.close {f:Flg} {n:Nat} {he:Nat→Bool} (h:OnI f n he):∃ cs:List Nat,scl (o1 f) 5=o0∧sclO (o1 f) 5=cs.map lp1∧sop o0 5=o1 flg0∧OnI flg0 n he∧Lst1 cs n he∧∀ r∈flg0.rs,r.c∉cs :=
 ⟨f.rs.map Rcd.c,rfl,sall_one1 fun r hr=>(h.c r hr).1,rfl,onI0 n h.h,⟨List.pairwise_map.2 h.w.up,fun x hx=>by obtain ⟨r,hr,rfl⟩:=List.mem_map.1 hx; exact (h.c r hr).2⟩,fun _ hr=>by cases hr⟩
theorem o1_seen (f:Flg):sun (o1 f) 5=f.rs.length∧swn (o1 f) 5=f.win:=⟨rfl,rfl⟩
theorem NewW.rngE {w:World} {base:Nat} {l:List (Int × Int)} {sp:Option Addr} {ad:Addr} {cap:Nat} (h:NewW w base l (.slice sp l.length cap)) (hsp:sp=some ad) {i:Nat} {p:Int × Int} (hi:l[i]?=some p):∀ j u,[Value.int .i64 p.1,Value.int .i64 p.2][j]?=some u→w.cell? ((ad.add (i*2)).add j)=some u:=by
 subst hsp
 exact NewW.rng h hi
theorem NewW.someE {w:World} {base:Nat} {l:List (Int × Int)} {sp:Option Addr} {cap:Nat} (h:NewW w base l (.slice sp l.length cap)) {i:Nat} (hi:i<l.length):∃ ad,sp=some ad:=by
 obtain ⟨ad,e,_⟩:=h.at (List.getElem?_eq_getElem hi)
 exact ⟨ad,e⟩
theorem idxR2E (ad:Addr) (len cap i:Nat) (sp:Option Addr) (hsp:sp=some ad) (hi:i<len) {o:Oper} {a:Act} (x y:Operand) (ho:o.op=.indexAddr 28 x y) (hx:a.eval x=.slice sp len cap) (hy:a.eval y=.int .i64 (i:Int)) (w:World):(execOp a.eval o).run Try.prog w=.ok (.value (.pointer (some (ad.add (i*2))))) w:=by
 subst hsp
 exact idxR2 ad len cap i hi x y ho hx hy w
structure Opv where
 k:Int
 d:Int
 n:Int
 m:Int
 r:List (Int × Int)
 a:List Int
 t:List Int
def Opc (v:Opv) (rp:Option Addr) (rc:Nat) (ap:Option Addr) (ac:Nat) (tp:Option Addr) (tc:Nat):List Value:=[.int .i64 v.k,.int .i64 v.d,.int .i64 v.n,.int .i64 v.m,.slice rp v.r.length rc,.slice ap v.a.length ac,.slice tp v.t.length tc]
structure OpV (w:World) (m:Nat) (v:Opv) (rp:Option Addr) (rc:Nat) (ap:Option Addr) (ac:Nat) (tp:Option Addr) (tc:Nat):Prop where
 k_i:i64 v.k
 d_i:i64 v.d
 n_i:i64 v.n
 m_i:i64 v.m
 r_in:RgW w v.r (.slice rp v.r.length rc)
 r_i:∀ x∈v.r,i64 x.1∧i64 x.2
 r_max:v.r.length≤m
 a_src:SrcI w ap v.a.length (bl v.a)
 a_le:v.a.length≤ac
 a_nil:ap=none→ac=0
 a_max:v.a.length≤m
 a_i:∀ x∈v.a,i64 x
 t_src:SrcI w tp v.t.length (bl v.t)
 t_le:v.t.length≤tc
 t_nil:tp=none→tc=0
 t_max:v.t.length≤m
 t_i:∀ x∈v.t,i64 x
def OpsIn (w:World) (m:Nat) (sp:Option Addr) (l:List Opv):Prop:=∀ j v,l[j]?=some v→∃ ad rp rc ap ac tp tc,sp=some ad∧(∀ k x,(Opc v rp rc ap ac tp tc)[k]?=some x→w.cell? ((ad.add (j*7)).add k)=some x)∧OpV w m v rp rc ap ac tp tc
theorem wrc_app21:∀ a b:List (Int × Int),wrc (a++b)=wrc a++wrc b
 | [],_=>rfl
 | (x,y)::a,b=>by
   show Value.int .i64 x::Value.int .i64 y::wrc (a++b)=_
   rw [wrc_app21 a b]
   rfl
theorem cellS21 {w w':World} (l:Below w.heap.size w w') {p:Addr} {u:Value} (h:w.cell? p=some u):w'.cell? p=some u:=by
 rw [l.cell (World.block_lt_of_cell? w _ h)]
 exact h
theorem idxO21 (ad:Addr) (len cap i:Nat) (hi:i<len) {o:Oper} {a:Act} (x y:Operand) (ho:o.op=.indexAddr 22 x y) (hx:a.eval x=.slice (some ad) len cap) (hy:a.eval y=.int .i64 (i:Int)) (w:World):(execOp a.eval o).run Try.prog w=.ok (.value (.pointer (some (ad.add (i*7))))) w :=
 idxSm 22 31 len cap 7 .i64 ad i x y Try.underlying22 (fun _=>by kernel_rfl) hi ho hx hy w
section
section
variable {P:Program}
theorem idxRowE {o:Oper} {a:Act} (t e:TypeId) (sp:Option Addr) (g len cap i:Nat) (hsp:sp=some ⟨g,0,none⟩) (x y:Operand) (hu:P.underlying t=some (.slice e)) (hsz:∀ w,(sizeOf e).run P w=.ok 1 w) (hi:i<len) (ho:o.op=.indexAddr t x y) (hx:a.eval x=.slice sp len cap) (hy:a.eval y=.int .i64 (i:Int)) (w:World) :
 (execOp a.eval o).run P w=.ok (.value (.pointer (some ⟨g,i,none⟩))) w:=by
 subst hsp
 exact idxRow t e g len cap i x y hu hsz hi ho hx hy w
end
theorem rowCellE {w:World} {base:Nat} {e:TypeId} {size n g cap:Nat} {sp:Option Addr} {xs:List Value} (V:w.ownsRow base e size (.slice sp n cap) n xs) (hsp:sp=some ⟨g,0,none⟩) {j:Nat} {u:Value} (hu:xs[j]?=some u):w.cell? ⟨g,j,none⟩=some u:=by
 subst hsp
 exact rowCell V hu
theorem Mm.putRow {w0 w:World} {l:List (Nat × List Value)} {g:Nat} {base:Nat} {e:TypeId} {size n cap:Nat} {xs:List Value} {sp:Option Addr} (M:Mm w0 (obs sp++l) w) (V:w.ownsRow base e size (.slice sp n cap) n xs) (hsp:sp=some ⟨g,0,none⟩) (h0:w0.heap.size≤base) (j:Nat) (hj:j<xs.length) (u:Value) :
 ((w.cell? ⟨g,j,none⟩).isSome=true∧w.frozen? ⟨g,j,none⟩=false)∧Mm w0 (obs sp++l) (w.setCell ⟨g,j,none⟩ u)∧(w.setCell ⟨g,j,none⟩ u).ownsRow base e size (.slice sp n cap) n (xs.set j u)∧Off (ob sp) w (w.setCell ⟨g,j,none⟩ u):=by
 subst hsp
 obtain ⟨h1,h2⟩:=M.setObs V h0 j hj u
 exact ⟨h1,h2,ownsRow_put V j u,(Off.refl _ w).set (b:=g) mS j u⟩
end
end Go.Proofs.Ytmedjdadhmdpgaa
