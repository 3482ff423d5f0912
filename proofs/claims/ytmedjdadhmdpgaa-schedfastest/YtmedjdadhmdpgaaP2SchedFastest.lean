/- Texts of Ad Ae Nv Ag, joined. -/
import Derived.Test.YtmedjdadhmdpgaaP1SchedFastest
set_option maxRecDepth 20000
set_option maxHeartbeats 64000000
namespace Go.Proofs.Ytmedjdadhmdpgaa
open Go.RowKit
theorem Mm.srcI {w0 w:World} {l:List (Nat × List Value)} (h:Mm w0 l w) {b:Nat} {cs:List Value} (hp:(b,cs)∈l) (bs:List Int) (hc:cs=bs.map (Value.int .i64)):SrcI w (some ⟨b,0,none⟩) bs.length (bl bs):=fun j hj=>⟨_,rfl,by
 rw [Addr.add_mid,Nat.zero_add]
 refine h.get hp j _ ?_
 rw [hc,List.getElem?_map,List.getElem?_eq_getElem hj]
 unfold bl
 rw [List.getD_eq_getElem?_getD,List.getElem?_eq_getElem hj]
 rfl⟩
def zsc (k:Int) (f:Flg):Sch:=⟨true,k,[(1,f),(2,flg0)]⟩
theorem zsc_w {k:Int} {f:Flg} (h1:-1≤k) (h2:k<9223372036854775808) (hf:FlgW f):SchW (zsc k f) :=
 ⟨(show ([1,2]:List Nat).Nodup by decide),fun q hq=>by
  rcases xc1 hq with rfl | hq
  · exact hf
  · obtain rfl:=xm1 hq; exact flg0_w,fun q hq=>by
  rcases xc1 hq with rfl | hq
  · show 1<9223372036854775808; decide
  · obtain rfl:=xm1 hq; show 2<9223372036854775808; decide,h1,h2⟩
def zr (i:Nat):Rcd:=⟨i,10,[((i:Int),(i:Int)+1)]⟩
def zf:Nat→Flg
 | 0=>flg0
 | j+1=>{ zf j with top:=some j,rs:=(zf j).rs++[zr j] }
theorem zf_top:∀ j,(zf j).top=(match j with | 0=>none | k+1=>some k)
 | 0=>rfl
 | _+1=>rfl
theorem zf_may (j:Nat) (hj:j<5):smay (zf j) (j:Int)=true:=by
 unfold smay
 rw [decide_eq_true (by omega),zf_top]
 cases j with
 | zero=>rfl
 | succ k=>simp; omega
theorem zr_in (j:Nat) (hj:j<5):∀ p∈[((j:Int),(j:Int)+1)],i64 p.1∧i64 p.2:=fun p hp=>by
 obtain rfl:=xm1 hp
 unfold i64
 simp only
 omega
theorem zf_w:∀ j,j≤5→FlgW (zf j)
 | 0,_=>flg0_w
 | j+1,h=>sent_w (zf_w j (by omega)) (zf_may j (by omega)) 10 (zr_in j (by omega))
theorem zsc_sent (j:Nat) (hj:j<5):ssn (zsc 1 (zf j)) 1 (j:Int) 10 [((j:Int),(j:Int)+1)]=zsc 1 (zf (j+1)):=by
 show (if smay (zf j) (j:Int)=true then _ else _)=_
 rw [if_pos (zf_may j hj)]
 rfl
theorem zf_sz:∀ j,fsz (zf j)=2*j
 | 0=>rfl
 | j+1=>by
   have h1:=fsz_app (zf j) (some j) (zr j); have h2:=zf_sz j
   show fsz { zf j with top:=some j,rs:=(zf j).rs++[zr j] }=_
   rw [h1,h2]
   show 2*j+1+1=_
   omega
def zg:Flg:=⟨3,some 4,[zr 2]⟩
def zl:Flg:=⟨2,some 4,[]⟩
theorem zg_w:FlgW zg:=⟨by decide,by decide,fun r hr=>by obtain rfl:=xm1 hr; exact ⟨by decide,by decide,zr_in 2 (by decide)⟩,List.pairwise_singleton _ _,fun r hr=>by obtain rfl:=xm1 hr; exact ⟨4,rfl,by decide⟩,fun t ht=>by obtain rfl:=Option.some.inj ht; decide⟩
theorem zl_w:FlgW zl:=⟨by decide,by decide,fun r hr=>(by cases hr),List.Pairwise.nil,fun r hr=>(by cases hr),fun t ht=>by obtain rfl:=Option.some.inj ht; decide⟩
theorem shown21_any {I:SchI} (hK:SchOK I) (w0:World) :
 Calls Try.prog 8 #[] w0 fun e w'=>e=.returned (.bool true)∧Below w0.heap.size w0 w':=by
 have M:=Mm.init w0
 go_enter Try.func8,Try.ntmps8
 go_upto_region 0 with fail; refine wp_region_list ?_; refine xpL (.bool false) ?_; refine xT ?_; go_upto_region 1 with fail; refine wp_region_list ?_; have key:=hK.new w0 _ _ 1 (by unfold i64; decide) M; refine xcL key ?_; clear key; rintro e w1 ⟨v_,ba0,rfl,hIa,M',l_⟩
 obtain ⟨Ra,rfl⟩:=hK.ptr _ _ _ _ hIa
 clear M; have M:=M'.perm (pull0 ([]:List (Nat × List Value)) ba0 ([]:List (Nat × List Value))).symm; clear M'; clear l_
 replace M:Mm w0 ((ba0++([]:List (Nat × List Value)))) w1:=M
 refine xeL ?_; refine xpL (.pointer (some ⟨Ra,0,none⟩)) ?_; refine xT ?_; go_upto_region 2 with fail; refine wp_region_list ?_; refine xpL (.pointer (some ⟨Ra,0,none⟩)) ?_; refine xpL (.bool false) ?_; refine xT ?_; go_upto_region 4 with fail; refine wp_region_list ?_; refine xpL (.pointer (some ⟨Ra,0,none⟩)) ?_
 have Mp:=M.perm (pull0 ([]:List (Nat × List Value)) ba0 ([]:List (Nat × List Value))); have key:=hK.opn w0 _ _ (snew 1) ba0 _ 1 (snew_w _) (show 0<1000000000 by decide) (by unfold i64; decide) hIa Mp
 rw [show sop (snew 1) 1=⟨true,-1,[(1,flg0)]⟩ from rfl] at key
 refine xcL key ?_; clear key; rintro e w2 ⟨ba1,rfl,hI_,M',o1⟩; clear o1 Mp M hIa; have hIa:=hI_; clear hI_
 have M:Mm w0 ((ba1++([]:List (Nat × List Value)))) w2:=M'.perm (pull0 ([]:List (Nat × List Value)) ba1 ([]:List (Nat × List Value))).symm
 clear M'; refine xeL ?_; refine xT ?_; go_upto_region 5 with fail; refine wp_region_list ?_; refine xpL (.pointer (some ⟨Ra,0,none⟩)) ?_; have Mp:=M.perm (pull0 ([]:List (Nat × List Value)) ba1 ([]:List (Nat × List Value)))
 have key:=hK.opn w0 _ _ ⟨true,-1,[(1,flg0)]⟩ ba1 _ 2 (show SchW ⟨true,-1,[(1,flg0)]⟩ from sop_w (snew_w 1) (id:=1) (by unfold i64; decide)) (show 1+(0+0)<1000000000 by decide) (by unfold i64; decide) hIa Mp
 rw [show sop ⟨true,-1,[(1,flg0)]⟩ 2=zsc (-1) flg0 from rfl] at key
 refine xcL key ?_; clear key; rintro e w3 ⟨ba2,rfl,hI_,M',o1⟩; clear o1 Mp M hIa; have hIa:=hI_; clear hI_
 have M:Mm w0 ((ba2++([]:List (Nat × List Value)))) w3:=M'.perm (pull0 ([]:List (Nat × List Value)) ba2 ([]:List (Nat × List Value))).symm
 clear M'; refine xeL ?_; refine xT ?_; go_upto_region 6 with fail; refine wp_region_list ?_; refine xpL (.pointer (some ⟨Ra,0,none⟩)) ?_; have hlb:=(Below.refl w3.heap.size w3).alloc (xnR _) (.cells #[.int .i64 1,.int .i64 2] 3); refine actL (w':=w3.alloc (.cells #[.int .i64 1,.int .i64 2] 3)) (.slice (some ⟨w3.heap.size,0,none⟩) 2 2) rfl (by kernel_rfl) ?_; simp only [aP,lI,l0,lS]
 replace hIa:=hK.bel hIa hlb; replace M:=M.box #[.int .i64 1,.int .i64 2] 3 w3.heap.size rfl; clear hlb; generalize w3.alloc (.cells #[.int .i64 1,.int .i64 2] 3)=w4 at M hIa ⊢; generalize w3.heap.size=B4 at M ⊢
 replace M:Mm w0 ((B4,[.int .i64 1,.int .i64 2])::(ba2++([]:List (Nat × List Value)))) w4:=M
 have Mp:=M.perm (pull0 ([(B4,[.int .i64 1,.int .i64 2])]:List (Nat × List Value)) ba2 ([]:List (Nat × List Value)))
 have key:=hK.pck w0 _ _ (zsc (-1) flg0) ba2 _ [1,2] (some ⟨B4,0,none⟩) 2 [] none 0 (zsc_w (by decide) (by decide) flg0_w) (show 2+(0+0)<1000000000 by decide) (by decide) (by decide) (fun e=>by cases e) (by unfold i64; decide) (M.srcI mS [1,2] rfl) (fun b_ hb_ _ h_=>by obtain rfl:=xm1 h_; exact Mp.beside mS hb_) (by decide) (by decide) (fun _=>rfl) (fun _ h_=>by cases h_) (fun j hj=>absurd hj (xnZ j)) (fun _ _ h_=>absurd rfl h_) hIa Mp
 rw [show spA (zsc (-1) flg0) [1,2] []=1 from rfl] at key
 rw [show spB (zsc (-1) flg0) [1,2] []=true from rfl] at key
 rw [show spc (zsc (-1) flg0) [1,2] []=zsc 1 flg0 from rfl] at key
 refine xcL key ?_; clear key; rintro e w5 ⟨ba3,rfl,hI_,M',o1⟩; clear o1 Mp M hIa; have hIa:=hI_; clear hI_
 have M:Mm w0 ((B4,[.int .i64 1,.int .i64 2])::(ba3++([]:List (Nat × List Value)))) w5:=M'.perm (pull0 ([(B4,[.int .i64 1,.int .i64 2])]:List (Nat × List Value)) ba3 ([]:List (Nat × List Value))).symm
 clear M'; refine xeL ?_; refine xpL (.tuple #[.int .i64 1,.bool true]) ?_; refine xpL (.int .i64 1) ?_; refine xpL (.bool true) ?_; refine xpL (.int .i64 1) ?_; refine xpL (.bool true) ?_; refine xT ?_; go_upto_region 7 with fail; refine wp_region_list ?_; refine xpL (.pointer (some ⟨Ra,0,none⟩)) ?_; have hlb:=(Below.refl w5.heap.size w5).alloc (xnR _) (.cells #[.int .i64 1,.int .i64 2] 3)
 refine actL (w':=w5.alloc (.cells #[.int .i64 1,.int .i64 2] 3)) (.slice (some ⟨w5.heap.size,0,none⟩) 2 2) rfl (by kernel_rfl) ?_; simp only [aP,lI,l0,lS]; replace hIa:=hK.bel hIa hlb; replace M:=M.box #[.int .i64 1,.int .i64 2] 3 w5.heap.size rfl; clear hlb; generalize w5.alloc (.cells #[.int .i64 1,.int .i64 2] 3)=w6 at M hIa ⊢; generalize w5.heap.size=B6 at M ⊢
 replace M:Mm w0 ((B6,[.int .i64 1,.int .i64 2])::(B4,[.int .i64 1,.int .i64 2])::(ba3++([]:List (Nat × List Value)))) w6:=M
 have Mp:=M.perm (pull0 ([(B6,[.int .i64 1,.int .i64 2]),(B4,[.int .i64 1,.int .i64 2])]:List (Nat × List Value)) ba3 ([]:List (Nat × List Value)))
 have key:=hK.pck w0 _ _ (zsc 1 flg0) ba3 _ [1,2] (some ⟨B6,0,none⟩) 2 [] none 0 (zsc_w (by decide) (by decide) flg0_w) (show 2+(0+0)<1000000000 by decide) (by decide) (by decide) (fun e=>by cases e) (by unfold i64; decide) (M.srcI mS [1,2] rfl) (fun b_ hb_ _ h_=>by obtain rfl:=xm1 h_; exact Mp.beside mS hb_) (by decide) (by decide) (fun _=>rfl) (fun _ h_=>by cases h_) (fun j hj=>absurd hj (xnZ j)) (fun _ _ h_=>absurd rfl h_) hIa Mp
 rw [show spA (zsc 1 flg0) [1,2] []=2 from rfl] at key
 rw [show spB (zsc 1 flg0) [1,2] []=true from rfl] at key
 rw [show spc (zsc 1 flg0) [1,2] []=zsc 2 flg0 from rfl] at key
 refine xcL key ?_; clear key; rintro e w7 ⟨ba4,rfl,hI_,M',o1⟩; clear o1 Mp M hIa; have hIa:=hI_; clear hI_
 have M:Mm w0 ((B6,[.int .i64 1,.int .i64 2])::(B4,[.int .i64 1,.int .i64 2])::(ba4++([]:List (Nat × List Value)))) w7:=M'.perm (pull0 ([(B6,[.int .i64 1,.int .i64 2]),(B4,[.int .i64 1,.int .i64 2])]:List (Nat × List Value)) ba4 ([]:List (Nat × List Value))).symm
 clear M'; refine xeL ?_; refine xpL (.tuple #[.int .i64 2,.bool true]) ?_; refine xpL (.int .i64 2) ?_; refine xpL (.bool true) ?_; refine xpL (.int .i64 2) ?_; refine xpL (.bool true) ?_; refine xT ?_; go_upto_region 8 with fail; refine wp_region_list ?_; refine xpL (.pointer (some ⟨Ra,0,none⟩)) ?_; have hlb:=(Below.refl w7.heap.size w7).alloc (xnR _) (.cells #[.int .i64 1,.int .i64 2] 3)
 refine actL (w':=w7.alloc (.cells #[.int .i64 1,.int .i64 2] 3)) (.slice (some ⟨w7.heap.size,0,none⟩) 2 2) rfl (by kernel_rfl) ?_; simp only [aP,lI,l0,lS]; replace hIa:=hK.bel hIa hlb; replace M:=M.box #[.int .i64 1,.int .i64 2] 3 w7.heap.size rfl; clear hlb; generalize w7.alloc (.cells #[.int .i64 1,.int .i64 2] 3)=w8 at M hIa ⊢; generalize w7.heap.size=B8 at M ⊢
 replace M:Mm w0 ((B8,[.int .i64 1,.int .i64 2])::(B6,[.int .i64 1,.int .i64 2])::(B4,[.int .i64 1,.int .i64 2])::(ba4++([]:List (Nat × List Value)))) w8:=M
 have Mp:=M.perm (pull0 ([(B8,[.int .i64 1,.int .i64 2]),(B6,[.int .i64 1,.int .i64 2]),(B4,[.int .i64 1,.int .i64 2])]:List (Nat × List Value)) ba4 ([]:List (Nat × List Value)))
 have key:=hK.pck w0 _ _ (zsc 2 flg0) ba4 _ [1,2] (some ⟨B8,0,none⟩) 2 [] none 0 (zsc_w (by decide) (by decide) flg0_w) (show 2+(0+0)<1000000000 by decide) (by decide) (by decide) (fun e=>by cases e) (by unfold i64; decide) (M.srcI mS [1,2] rfl) (fun b_ hb_ _ h_=>by obtain rfl:=xm1 h_; exact Mp.beside mS hb_) (by decide) (by decide) (fun _=>rfl) (fun _ h_=>by cases h_) (fun j hj=>absurd hj (xnZ j)) (fun _ _ h_=>absurd rfl h_) hIa Mp
 rw [show spA (zsc 2 flg0) [1,2] []=1 from rfl] at key
 rw [show spB (zsc 2 flg0) [1,2] []=true from rfl] at key
 rw [show spc (zsc 2 flg0) [1,2] []=zsc 1 flg0 from rfl] at key
 refine xcL key ?_; clear key; rintro e w9 ⟨ba5,rfl,hI_,M',o1⟩; clear o1 Mp M hIa; have hIa:=hI_; clear hI_
 have M:Mm w0 ((B8,[.int .i64 1,.int .i64 2])::(B6,[.int .i64 1,.int .i64 2])::(B4,[.int .i64 1,.int .i64 2])::(ba5++([]:List (Nat × List Value)))) w9:=M'.perm (pull0 ([(B8,[.int .i64 1,.int .i64 2]),(B6,[.int .i64 1,.int .i64 2]),(B4,[.int .i64 1,.int .i64 2])]:List (Nat × List Value)) ba5 ([]:List (Nat × List Value))).symm
 clear M'; refine xeL ?_; refine xpL (.tuple #[.int .i64 1,.bool true]) ?_; refine xpL (.int .i64 1) ?_; refine xpL (.bool true) ?_; refine xpL (.int .i64 1) ?_; refine xpL (.bool true) ?_; refine xT ?_; go_upto_region 9 with fail; refine wp_region_list ?_; refine xpL (.int .i64 0) ?_; refine xT ?_
 have M2:Mm w0 (ba5++([]:List (Nat × List Value))) w9:=M.tail.tail.tail
 have HI:=show Hid _ from (show I w9 (.pointer (some ⟨Ra,0,none⟩)) (zsc 1 (zf 0)) ba5∧Mm w0 (ba5++([]:List (Nat × List Value))) w9 from ⟨hIa,M2⟩); clear M M2 hIa; go_wp2
 go_loopw [8] (fun i w'=>∃ (j:Nat) (ga:List (Nat × List Value)),j≤5∧i=.int .i64 (j:Int)∧I w' (.pointer (some ⟨Ra,0,none⟩)) (zsc 1 (zf j)) ga∧Mm w0 (ga++([]:List (Nat × List Value))) w') (fun i _=>5-(intOf i).toNat)
 case atStart=>exact ⟨0,_,by omega,rfl,HI.out⟩
 case round =>
  clear HI
  obtain ⟨j,ga,hj,rfl,hIa,M⟩:=hrel
  by_cases hj5:j<5
  · go_upto_region 10 with fail
    refine wp_region_list ?_; refine xpL (.int .i64 ((j:Nat):Int)) ?_; refine xaL (.bool true) (lssI .i64 _ _ _ _ _ _ rfl rfl rfl true (decide_eq_true (by omega)) _) ?_; refine xT ?_; go_upto_region 12 with fail; refine wp_region_list ?_; refine xpL (.pointer (some ⟨Ra,0,none⟩)) ?_; refine xpL (.int .i64 ((j:Nat):Int)) ?_; refine xpL (.int .i64 ((j:Nat):Int)) ?_
    refine xpL (.int .i64 ((j:Nat):Int)) ?_; refine readL (.int .i64 (((j:Nat):Int)+1)) rfl (addI .i64 _ _ _ _ _ _ _ rfl rfl rfl (by rw [xw6]; omega) _) ?_; simp only [aP,lI,l0,lS]; refine xpL (.agg #[.int .i64 ((j:Nat):Int),.int .i64 (((j:Nat):Int)+1)]) ?_
    have hlb:=(Below.refl wr.heap.size wr).alloc (xnR _) (.cells #[.int .i64 ((j:Nat):Int),.int .i64 (((j:Nat):Int)+1)] 38); refine actL (w':=wr.alloc (.cells #[.int .i64 ((j:Nat):Int),.int .i64 (((j:Nat):Int)+1)] 38)) (.slice (some ⟨wr.heap.size,0,none⟩) 1 1) rfl (by kernel_rfl) ?_; simp only [aP,lI,l0,lS]; replace hIa:=hK.bel hIa hlb
    replace M:=M.box #[.int .i64 ((j:Nat):Int),.int .i64 (((j:Nat):Int)+1)] 38 wr.heap.size rfl; clear hlb; generalize wr.alloc (.cells #[.int .i64 ((j:Nat):Int),.int .i64 (((j:Nat):Int)+1)] 38)=w10 at M hIa ⊢; generalize wr.heap.size=B10 at M ⊢
    replace M:Mm w0 ((B10,[.int .i64 ((j:Nat):Int),.int .i64 (((j:Nat):Int)+1)])::(ga++([]:List (Nat × List Value)))) w10:=M
    have Mp:=M.perm (pull0 ([(B10,[.int .i64 ((j:Nat):Int),.int .i64 (((j:Nat):Int)+1)])]:List (Nat × List Value)) ga ([]:List (Nat × List Value)))
    have key:=hK.snt w0 _ _ (zsc 1 (zf j)) ga _ 1 ((j:Nat):Int) 10 [(((j:Nat):Int),((j:Nat):Int)+1)] (some ⟨B10,0,none⟩) 1 (zsc_w (by decide) (by decide) (zf_w j hj)) (show 2+(fsz (zf j)+0)<1000000000 by rw [zf_sz]; omega) (by unfold i64; decide) (by unfold i64; omega) (by unfold i64; decide) (show (1:Nat)<2000000 by decide) (zr_in j hj5) (RgW.ofW (M.newWt mS [(((j:Nat):Int),((j:Nat):Int)+1)] rfl (xnR _))) (fun b_ hb_ _ h_=>by obtain rfl:=xm1 h_; exact Mp.beside mS hb_) hIa Mp
    rw [zsc_sent j hj5] at key
    refine xcL key ?_; clear key; rintro e w11 ⟨ba1,rfl,hI_,M',o1⟩; clear o1 Mp M hIa; have hIa:=hI_; clear hI_
    have M:Mm w0 ((B10,[.int .i64 ((j:Nat):Int),.int .i64 (((j:Nat):Int)+1)])::(ba1++([]:List (Nat × List Value)))) w11:=M'.perm (pull0 ([(B10,[.int .i64 ((j:Nat):Int),.int .i64 (((j:Nat):Int)+1)])]:List (Nat × List Value)) ba1 ([]:List (Nat × List Value))).symm
    clear M'; refine xeL ?_; refine xT ?_
    have M2:Mm w0 (ba1++([]:List (Nat × List Value))) w11:=M.tail
    have HS:=show Hid _ from (show I w11 (.pointer (some ⟨Ra,0,none⟩)) (zsc 1 (zf (j+1))) ba1∧Mm w0 (ba1++([]:List (Nat × List Value))) w11 from ⟨hIa,M2⟩); clear M M2 hIa; go_wp2
    go_roundw
    case rel=>exact ⟨j+1,_,by omega,by go_num,HS.out⟩
    case measure=>simp [intOf]; omega
  · obtain rfl:j=5:=by omega
    go_upto_region 10 with fail; refine wp_region_list ?_; refine xpL (.int .i64 ((5:Nat):Int)) ?_; refine xaL (.bool false) (lssI .i64 _ _ _ _ _ _ rfl rfl rfl false (decide_eq_false (by omega)) _) ?_; refine xT ?_; go_upto_region 13 with fail; refine wp_region_list ?_; refine xpL (.pointer (some ⟨Ra,0,none⟩)) ?_
    have Mp:=M.perm (pull0 ([]:List (Nat × List Value)) ga ([]:List (Nat × List Value))); have key:=hK.und w0 _ _ (zsc 1 (zf 5)) ga _ 1 (zsc_w (by decide) (by decide) (zf_w 5 (by decide))) (show 2+(10+0)<1000000000 by decide) (by unfold i64; decide) hIa Mp; clear Mp
    rw [show sun (zsc 1 (zf 5)) 1=5 from rfl] at key
    refine xcL key ?_; clear key; rintro e w12 ⟨rfl,l_⟩; replace M:=M.call l_; replace hIa:=hK.bel hIa l_; clear l_; refine xeL ?_; refine xpL (.int .i64 5) ?_; refine xT ?_; go_upto_region 14 with fail; refine wp_region_list ?_; refine xpL (.pointer (some ⟨Ra,0,none⟩)) ?_; have hlb:=(Below.refl w12.heap.size w12).alloc (xnR _) (.cells #[.int .i64 1] 3)
    refine actL (w':=w12.alloc (.cells #[.int .i64 1] 3)) (.slice (some ⟨w12.heap.size,0,none⟩) 1 1) rfl (by kernel_rfl) ?_; simp only [aP,lI,l0,lS]; replace hIa:=hK.bel hIa hlb; replace M:=M.box #[.int .i64 1] 3 w12.heap.size rfl; clear hlb; generalize w12.alloc (.cells #[.int .i64 1] 3)=w13 at M hIa ⊢; generalize w12.heap.size=B13 at M ⊢
    replace M:Mm w0 ((B13,[.int .i64 1])::(ga++([]:List (Nat × List Value)))) w13:=M
    have Mp:=M.perm (pull0 ([(B13,[.int .i64 1])]:List (Nat × List Value)) ga ([]:List (Nat × List Value)))
    have key:=hK.pck w0 _ _ (zsc 1 (zf 5)) ga _ [1] (some ⟨B13,0,none⟩) 1 [] none 0 (zsc_w (by decide) (by decide) (zf_w 5 (by decide))) (show 2+(10+0)<1000000000 by decide) (by decide) (by decide) (fun e=>by cases e) (by unfold i64; decide) (M.srcI mS [1] rfl) (fun b_ hb_ _ h_=>by obtain rfl:=xm1 h_; exact Mp.beside mS hb_) (by decide) (by decide) (fun _=>rfl) (fun _ h_=>by cases h_) (fun j hj=>absurd hj (xnZ j)) (fun _ _ h_=>absurd rfl h_) hIa Mp
    rw [show spA (zsc 1 (zf 5)) [1] []=0 from rfl] at key
    rw [show spB (zsc 1 (zf 5)) [1] []=false from rfl] at key
    rw [show spc (zsc 1 (zf 5)) [1] []=zsc 1 (zf 5) from rfl] at key
    refine xcL key ?_; clear key; rintro e w14 ⟨ba1,rfl,hI_,M',o1⟩; clear o1 Mp M hIa; have hIa:=hI_; clear hI_
    have M:Mm w0 ((B13,[.int .i64 1])::(ba1++([]:List (Nat × List Value)))) w14:=M'.perm (pull0 ([(B13,[.int .i64 1])]:List (Nat × List Value)) ba1 ([]:List (Nat × List Value))).symm
    clear M'; refine xeL ?_; refine xpL (.tuple #[.int .i64 0,.bool false]) ?_; refine xpL (.int .i64 0) ?_; refine xpL (.bool false) ?_; refine xpL (.int .i64 0) ?_; refine xpL (.bool false) ?_; refine xT ?_; go_upto_region 15 with fail; refine wp_region_list ?_; refine xpL (.pointer (some ⟨Ra,0,none⟩)) ?_; refine xpL (.agg #[.int .i64 3,.int .i64 4]) ?_
    have hlb:=(Below.refl w14.heap.size w14).alloc (xnR _) (.cells #[.int .i64 3,.int .i64 4] 38); refine actL (w':=w14.alloc (.cells #[.int .i64 3,.int .i64 4] 38)) (.slice (some ⟨w14.heap.size,0,none⟩) 1 1) rfl (by kernel_rfl) ?_; simp only [aP,lI,l0,lS]; replace hIa:=hK.bel hIa hlb; replace M:=M.box #[.int .i64 3,.int .i64 4] 38 w14.heap.size rfl; clear hlb
    generalize w14.alloc (.cells #[.int .i64 3,.int .i64 4] 38)=w15 at M hIa ⊢; generalize w14.heap.size=B15 at M ⊢
    replace M:Mm w0 ((B15,[.int .i64 3,.int .i64 4])::(B13,[.int .i64 1])::(ba1++([]:List (Nat × List Value)))) w15:=M
    have Mp:=M.perm (pull0 ([(B15,[.int .i64 3,.int .i64 4]),(B13,[.int .i64 1])]:List (Nat × List Value)) ba1 ([]:List (Nat × List Value)))
    have key:=hK.got w0 _ _ (zsc 1 (zf 5)) ba1 _ 1 4 [(3,4)] (some ⟨B15,0,none⟩) 1 25 (zsc_w (by decide) (by decide) (zf_w 5 (by decide))) (show 2+(10+0)<1000000000 by decide) (by unfold i64; decide) (by unfold i64; decide) (by unfold i64; decide) (show (1:Nat)<140737488355328 by decide) (by unfold i64; decide) (RgW.ofW (M.newWt mS [(3,4)] rfl (xnR _))) (fun b_ hb_ _ h_=>by obtain rfl:=xm1 h_; exact Mp.beside mS hb_) hIa Mp
    rw [show sgO (zsc 1 (zf 5)) 1 4 [(3,4)]=[(0,1),(1,2)] from rfl] at key
    rw [show sgT (zsc 1 (zf 5)) 1 4 25=15 from rfl] at key
    rw [show sgt (zsc 1 (zf 5)) 1 4 [(3,4)]=zsc 1 zg from rfl] at key
    refine xcL key ?_; clear key; rintro e w16 ⟨p16,c16,ba2,rfl,W_16,hI_,M',o1⟩; clear o1 Mp M hIa; have hIa:=hI_; clear hI_
    have M:Mm w0 ((B15,[.int .i64 3,.int .i64 4])::(B13,[.int .i64 1])::(ba2++((obs p16)++([]:List (Nat × List Value))))) w16:=M'.perm (pullY ([(B15,[.int .i64 3,.int .i64 4]),(B13,[.int .i64 1])]:List (Nat × List Value)) ba2 (obs p16) ([]:List (Nat × List Value)))
    clear M'; refine xeL ?_; refine xpL (.tuple #[.slice p16 (([(0,1),(1,2)]:List (Int × Int)).length) c16,.int .i64 15]) ?_; refine xpL (.slice p16 (([(0,1),(1,2)]:List (Int × Int)).length) c16) ?_; refine xpL (.int .i64 15) ?_; refine xpL (.slice p16 (([(0,1),(1,2)]:List (Int × Int)).length) c16) ?_; refine xpL (.int .i64 15) ?_; refine xT ?_; go_upto_region 16 with fail
    refine wp_region_list ?_; refine xpL (.slice p16 (([(0,1),(1,2)]:List (Int × Int)).length) c16) ?_; refine xpL (.agg #[.int .i64 0,.int .i64 1]) ?_; refine xpL (.agg #[.int .i64 1,.int .i64 2]) ?_; have hlb:=(Below.refl w16.heap.size w16).alloc (xnR _) (.cells #[.int .i64 0,.int .i64 1,.int .i64 1,.int .i64 2] 38)
    refine actL (w':=w16.alloc (.cells #[.int .i64 0,.int .i64 1,.int .i64 1,.int .i64 2] 38)) (.slice (some ⟨w16.heap.size,0,none⟩) 2 2) rfl (by kernel_rfl) ?_; simp only [aP,lI,l0,lS]; replace hIa:=hK.bel hIa hlb; replace W_16:=NewW.below W_16 hlb; replace M:=M.box #[.int .i64 0,.int .i64 1,.int .i64 1,.int .i64 2] 38 w16.heap.size rfl; clear hlb
    generalize w16.alloc (.cells #[.int .i64 0,.int .i64 1,.int .i64 1,.int .i64 2] 38)=w17 at M hIa W_16 ⊢; generalize w16.heap.size=B17 at M ⊢
    replace M:Mm w0 ((B17,[.int .i64 0,.int .i64 1,.int .i64 1,.int .i64 2])::(B15,[.int .i64 3,.int .i64 4])::(B13,[.int .i64 1])::(ba2++((obs p16)++([]:List (Nat × List Value))))) w17:=M
    have key:=same21_any ([(0,1),(1,2)]) (by decide) _ _ p16 (some ⟨B17,0,none⟩) c16 2 w17 W_16 (M.newWt mS [(0,1),(1,2)] rfl (by decide)); refine xcL key ?_; clear key; rintro e w18 ⟨rfl,l_⟩; replace M:=M.call l_; replace hIa:=hK.bel hIa l_; replace W_16:=NewW.below W_16 l_; clear l_; refine xeL ?_; refine xpL (.bool true) ?_; refine xT ?_; go_upto_region 17 with fail
    refine wp_region_list ?_; refine xpL (.pointer (some ⟨Ra,0,none⟩)) ?_; have Mp:=M.perm (pull0 ([(B17,[.int .i64 0,.int .i64 1,.int .i64 1,.int .i64 2]),(B15,[.int .i64 3,.int .i64 4]),(B13,[.int .i64 1])]:List (Nat × List Value)) ba2 ((obs p16)++([]:List (Nat × List Value))))
    have key:=hK.und w0 _ _ (zsc 1 zg) ba2 _ 1 (zsc_w (by decide) (by decide) zg_w) (show 2+(2+0)<1000000000 by decide) (by unfold i64; decide) hIa Mp; clear Mp
    rw [show sun (zsc 1 zg) 1=1 from rfl] at key
    refine xcL key ?_; clear key; rintro e w19 ⟨rfl,l_⟩; replace M:=M.call l_; replace hIa:=hK.bel hIa l_; replace W_16:=NewW.below W_16 l_; clear l_; refine xeL ?_; refine xpL (.int .i64 1) ?_; refine xT ?_; go_upto_region 18 with fail; refine wp_region_list ?_; refine xpL (.pointer (some ⟨Ra,0,none⟩)) ?_
    have Mp:=M.perm (pull0 ([(B17,[.int .i64 0,.int .i64 1,.int .i64 1,.int .i64 2]),(B15,[.int .i64 3,.int .i64 4]),(B13,[.int .i64 1])]:List (Nat × List Value)) ba2 ((obs p16)++([]:List (Nat × List Value)))); have key:=hK.win w0 _ _ (zsc 1 zg) ba2 _ 1 (zsc_w (by decide) (by decide) zg_w) (show 2+(2+0)<1000000000 by decide) (by unfold i64; decide) hIa Mp; clear Mp
    rw [show swn (zsc 1 zg) 1=3 from rfl] at key
    refine xcL key ?_; clear key; rintro e w20 ⟨rfl,l_⟩; replace M:=M.call l_; replace hIa:=hK.bel hIa l_; replace W_16:=NewW.below W_16 l_; clear l_; refine xeL ?_; refine xpL (.int .i64 3) ?_; refine xT ?_; go_upto_region 19 with fail; refine wp_region_list ?_; refine xpL (.pointer (some ⟨Ra,0,none⟩)) ?_
    have Mp:=M.perm (pull0 ([(B17,[.int .i64 0,.int .i64 1,.int .i64 1,.int .i64 2]),(B15,[.int .i64 3,.int .i64 4]),(B13,[.int .i64 1])]:List (Nat × List Value)) ba2 ((obs p16)++([]:List (Nat × List Value))))
    have key:=hK.lat w0 _ _ (zsc 1 zg) ba2 _ 1 20 11 (zsc_w (by decide) (by decide) zg_w) (show 2+(2+0)<1000000000 by decide) (by unfold i64; decide) (by unfold i64; decide) (by unfold i64; decide) hIa Mp
    rw [show slO (zsc 1 zg) 1 20 11=[] from rfl] at key
    rw [show sla (zsc 1 zg) 1 20 11=zsc 1 zg from rfl] at key
    refine xcL key ?_; clear key; rintro e w21 ⟨p21,c21,ba3,rfl,W_21,hI_,M',o1⟩; replace W_16:=NewW.offB W_16 o1 (Mp.awayS (fun p_ hp_=>by simp [hp_])); clear o1 Mp M hIa; have hIa:=hI_; clear hI_
    have M:Mm w0 ((B17,[.int .i64 0,.int .i64 1,.int .i64 1,.int .i64 2])::(B15,[.int .i64 3,.int .i64 4])::(B13,[.int .i64 1])::(ba3++((obs p21)++((obs p16)++([]:List (Nat × List Value)))))) w21:=M'.perm (pullY ([(B17,[.int .i64 0,.int .i64 1,.int .i64 1,.int .i64 2]),(B15,[.int .i64 3,.int .i64 4]),(B13,[.int .i64 1])]:List (Nat × List Value)) ba3 (obs p21) ((obs p16)++([]:List (Nat × List Value))))
    clear M'; refine xeL ?_; refine xpL (.slice p21 (([]:List (Int × Int)).length) c21) ?_; refine xT ?_; go_upto_region 20 with fail; refine wp_region_list ?_; refine xpL (.pointer (some ⟨Ra,0,none⟩)) ?_
    have Mp:=M.perm (pull0 ([(B17,[.int .i64 0,.int .i64 1,.int .i64 1,.int .i64 2]),(B15,[.int .i64 3,.int .i64 4]),(B13,[.int .i64 1])]:List (Nat × List Value)) ba3 ((obs p21)++((obs p16)++([]:List (Nat × List Value)))))
    have key:=hK.lat w0 _ _ (zsc 1 zg) ba3 _ 1 20 10 (zsc_w (by decide) (by decide) zg_w) (show 2+(2+0)<1000000000 by decide) (by unfold i64; decide) (by unfold i64; decide) (by unfold i64; decide) hIa Mp
    rw [show slO (zsc 1 zg) 1 20 10=[(2,3)] from rfl] at key
    rw [show sla (zsc 1 zg) 1 20 10=zsc 1 zl from rfl] at key
    refine xcL key ?_; clear key; rintro e w22 ⟨p22,c22,ba4,rfl,W_22,hI_,M',o1⟩; replace W_16:=NewW.offB W_16 o1 (Mp.awayS (fun p_ hp_=>by simp [hp_])); replace W_21:=NewW.offB W_21 o1 (Mp.awayS (fun p_ hp_=>by simp [hp_])); clear o1 Mp M hIa; have hIa:=hI_; clear hI_
    have M:Mm w0 ((B17,[.int .i64 0,.int .i64 1,.int .i64 1,.int .i64 2])::(B15,[.int .i64 3,.int .i64 4])::(B13,[.int .i64 1])::(ba4++((obs p22)++((obs p21)++((obs p16)++([]:List (Nat × List Value))))))) w22:=M'.perm (pullY ([(B17,[.int .i64 0,.int .i64 1,.int .i64 1,.int .i64 2]),(B15,[.int .i64 3,.int .i64 4]),(B13,[.int .i64 1])]:List (Nat × List Value)) ba4 (obs p22) ((obs p21)++((obs p16)++([]:List (Nat × List Value)))))
    clear M'; refine xeL ?_; refine xpL (.agg #[.int .i64 2,.int .i64 3]) ?_; have hlb:=(Below.refl w22.heap.size w22).alloc (xnR _) (.cells #[.int .i64 2,.int .i64 3] 38); refine actL (w':=w22.alloc (.cells #[.int .i64 2,.int .i64 3] 38)) (.slice (some ⟨w22.heap.size,0,none⟩) 1 1) rfl (by kernel_rfl) ?_; simp only [aP,lI,l0,lS]; replace hIa:=hK.bel hIa hlb
    replace W_16:=NewW.below W_16 hlb; replace W_21:=NewW.below W_21 hlb; replace W_22:=NewW.below W_22 hlb; replace M:=M.box #[.int .i64 2,.int .i64 3] 38 w22.heap.size rfl; clear hlb; generalize w22.alloc (.cells #[.int .i64 2,.int .i64 3] 38)=w23 at M hIa W_16 W_21 W_22 ⊢; generalize w22.heap.size=B23 at M ⊢
    replace M:Mm w0 ((B23,[.int .i64 2,.int .i64 3])::(B17,[.int .i64 0,.int .i64 1,.int .i64 1,.int .i64 2])::(B15,[.int .i64 3,.int .i64 4])::(B13,[.int .i64 1])::(ba4++((obs p22)++((obs p21)++((obs p16)++([]:List (Nat × List Value))))))) w23:=M
    have key:=same21_any ([(2,3)]) (by decide) _ _ p22 (some ⟨B23,0,none⟩) c22 1 w23 W_22 (M.newWt mS [(2,3)] rfl (by decide)); refine xcL key ?_; clear key; rintro e w24 ⟨rfl,l_⟩; replace M:=M.call l_; replace hIa:=hK.bel hIa l_; replace W_16:=NewW.below W_16 l_; replace W_21:=NewW.below W_21 l_; replace W_22:=NewW.below W_22 l_; clear l_; refine xeL ?_
    refine xpL (.bool true) ?_; refine xT ?_; go_upto_region 21 with fail; refine wp_region_list ?_; refine xpL (.int .i64 1) ?_; refine xaL (.bool true) (eqlI .i64 _ _ _ _ _ _ rfl rfl rfl true (by decide) _) ?_; refine xpL (.bool true) ?_; refine xpL (.int .i64 2) ?_; refine xaL (.bool true) (eqlI .i64 _ _ _ _ _ _ rfl rfl rfl true (by decide) _) ?_; refine xpL (.bool true) ?_
    refine xpL (.bool true) ?_; refine xpL (.int .i64 1) ?_; refine xaL (.bool true) (eqlI .i64 _ _ _ _ _ _ rfl rfl rfl true (by decide) _) ?_; refine xpL (.bool true) ?_; refine xpL (.bool true) ?_; refine xpL (.int .i64 5) ?_; refine xaL (.bool true) (eqlI .i64 _ _ _ _ _ _ rfl rfl rfl true (by decide) _) ?_; refine xpL (.bool true) ?_; refine xpL (.bool true) ?_; refine xpL (.bool false) ?_
    refine xpL (.bool true) ?_; refine xpL (.bool true) ?_; refine xpL (.bool true) ?_; refine xpL (.bool true) ?_; refine xpL (.bool true) ?_; refine xpL (.bool true) ?_; refine xpL (.int .i64 15) ?_; refine xaL (.bool true) (eqlI .i64 _ _ _ _ _ _ rfl rfl rfl true (by decide) _) ?_; refine xpL (.bool true) ?_; refine xpL (.bool true) ?_; refine xpL (.int .i64 1) ?_
    refine xaL (.bool true) (eqlI .i64 _ _ _ _ _ _ rfl rfl rfl true (by decide) _) ?_; refine xpL (.bool true) ?_; refine xpL (.bool true) ?_; refine xpL (.int .i64 3) ?_; refine xaL (.bool true) (eqlI .i64 _ _ _ _ _ _ rfl rfl rfl true (by decide) _) ?_; refine xpL (.bool true) ?_; refine xpL (.bool true) ?_; refine xpL (.slice p21 (([]:List (Int × Int)).length) c21) ?_
    refine readL (.int .i64 ((([]:List (Int × Int)).length:Nat):Int)) rfl (lenS _ 28 38 p21 (([]:List (Int × Int)).length) c21 rfl Try.underlying28 rfl _) ?_; simp only [aP,lI,l0,lS]; refine xaL (.bool true) (eqlI .i64 _ _ _ _ _ _ rfl rfl rfl true rfl _) ?_; refine xpL (.bool true) ?_; refine xpL (.bool true) ?_; refine xpL (.bool true) ?_; refine xpL (.bool true) ?_
    refine xpL (.bool true) ?_; refine xpL (.pointer (some ⟨Ra,0,none⟩)) ?_; have Mp:=M.perm (pull0 ([(B23,[.int .i64 2,.int .i64 3]),(B17,[.int .i64 0,.int .i64 1,.int .i64 1,.int .i64 2]),(B15,[.int .i64 3,.int .i64 4]),(B13,[.int .i64 1])]:List (Nat × List Value)) ba4 ((obs p22)++((obs p21)++((obs p16)++([]:List (Nat × List Value))))))
    have key:=hK.und w0 _ _ (zsc 1 zl) ba4 _ 1 (zsc_w (by decide) (by decide) zl_w) (show 2+(0+0)<1000000000 by decide) (by unfold i64; decide) hIa Mp; clear Mp
    rw [show sun (zsc 1 zl) 1=0 from rfl] at key
    refine xcL key ?_; clear key; rintro e w25 ⟨rfl,l_⟩; replace M:=M.call l_; replace hIa:=hK.bel hIa l_; replace W_16:=NewW.below W_16 l_; replace W_21:=NewW.below W_21 l_; replace W_22:=NewW.below W_22 l_; clear l_; refine xeL ?_; refine xaL (.bool true) (eqlI .i64 _ _ _ _ _ _ rfl rfl rfl true (by decide) _) ?_; refine xpL (.bool true) ?_; refine xpL (.bool true) ?_
    refine xpL (.pointer (some ⟨Ra,0,none⟩)) ?_; have Mp:=M.perm (pull0 ([(B23,[.int .i64 2,.int .i64 3]),(B17,[.int .i64 0,.int .i64 1,.int .i64 1,.int .i64 2]),(B15,[.int .i64 3,.int .i64 4]),(B13,[.int .i64 1])]:List (Nat × List Value)) ba4 ((obs p22)++((obs p21)++((obs p16)++([]:List (Nat × List Value))))))
    have key:=hK.win w0 _ _ (zsc 1 zl) ba4 _ 1 (zsc_w (by decide) (by decide) zl_w) (show 2+(0+0)<1000000000 by decide) (by unfold i64; decide) hIa Mp; clear Mp
    rw [show swn (zsc 1 zl) 1=2 from rfl] at key
    refine xcL key ?_; clear key; rintro e w26 ⟨rfl,l_⟩; replace M:=M.call l_; replace hIa:=hK.bel hIa l_; replace W_16:=NewW.below W_16 l_; replace W_21:=NewW.below W_21 l_; replace W_22:=NewW.below W_22 l_; clear l_; refine xeL ?_; refine xaL (.bool true) (eqlI .i64 _ _ _ _ _ _ rfl rfl rfl true (by decide) _) ?_; refine xpL (.bool true) ?_; refine xpL (.bool true) ?_; refine xT ?_
    have hbel:=M.below; clear M hIa W_16 W_21 W_22; go_wp2; go_ret
    exact ⟨rfl,hbel⟩
def lv5 (n:Nat):List Int:=(List.range n).map fun k=>((5*k:Nat):Int)
theorem lv5_len (n:Nat):(lv5 n).length=n:=by unfold lv5; rw [List.length_map,List.length_range]
theorem lv5_succ (n:Nat):lv5 (n+1)=lv5 n++[((5*n:Nat):Int)]:=by unfold lv5; rw [List.range_succ,List.map_append]; rfl
theorem lv5_bl {n k:Nat} (h:k<n):bl (lv5 n) k=((5*k:Nat):Int):=by
 unfold bl lv5
 rw [List.getD_eq_getElem?_getD,List.getElem?_map,List.getElem?_range h]
 rfl
theorem lv5_in {n:Nat} (hn:n≤16):∀ x∈lv5 n,i64 x:=fun x hx=>by
 obtain ⟨k,hk,rfl⟩:=List.mem_map.1 hx
 have:=List.mem_range.1 hk
 unfold i64
 omega
def fl5 (m:Nat) (F:Nat→Flg):List (Nat × Flg):=(List.range m).map fun i=>(5*i,F i)
def fs5 (last:Int) (m:Nat) (F:Nat→Flg):Sch:=⟨false,last,fl5 m F⟩
theorem fl5_succ (m:Nat) (F:Nat→Flg):fl5 (m+1) F=fl5 m F++[(5*m,F m)]:=by unfold fl5; rw [List.range_succ,List.map_append]; rfl
theorem fl5_congr {m:Nat} {F G:Nat→Flg} (h:∀ i,i<m→F i=G i):fl5 m F=fl5 m G:=by
 unfold fl5
 refine List.map_congr_left fun i hi=>?_
 rw [h i (List.mem_range.1 hi)]
theorem sfd_cons (q:Nat × Flg) (L:List (Nat × Flg)) (id:Int):sfd (q::L) id=if ((q.1:Nat):Int)=id then some q.2 else sfd L id:=rfl
theorem sput_cons (q:Nat × Flg) (L:List (Nat × Flg)) (id:Int) (f:Flg):sput (q::L) id f=if ((q.1:Nat):Int)=id then (q.1,f)::L else q::sput L id f:=rfl
theorem sfd_app:∀ (A B:List (Nat × Flg)) (id:Int),sfd (A++B) id=(match sfd A id with | some f=>some f | none=>sfd B id)
 | [],_,_=>rfl
 | q::A,B,id=>by
   rw [List.cons_append,sfd_cons,sfd_cons]
   by_cases c:((q.1:Nat):Int)=id
   · rw [if_pos c,if_pos c]
   · rw [if_neg c,if_neg c,sfd_app A B id]
theorem sput_app:∀ (A B:List (Nat × Flg)) (id:Int) (f:Flg),sput (A++B) id f=(match sfd A id with | some _=>sput A id f++B | none=>A++sput B id f)
 | [],_,_,_=>rfl
 | q::A,B,id,f=>by
   rw [List.cons_append,sput_cons,sput_cons,sfd_cons]
   by_cases c:((q.1:Nat):Int)=id
   · rw [if_pos c,if_pos c,if_pos c]; rfl
   · rw [if_neg c,if_neg c,if_neg c,sput_app A B id f]
     cases sfd A id <;> rfl
theorem sfd_fl5 (F:Nat→Flg):∀ (m b:Nat),sfd (fl5 m F) ((5*b:Nat):Int)=if b<m then some (F b) else none
 | 0,b=>by rw [if_neg (xnZ b)]; rfl
 | m+1,b=>by
   rw [fl5_succ,sfd_app,sfd_fl5 F m b]
   by_cases c:b<m
   · rw [if_pos c,if_pos (by omega)]
   · rw [if_neg c]
     show sfd [(5*m,F m)] ((5*b:Nat):Int)=_
     unfold sfd
     by_cases d:b=m
     · subst d
       rw [if_pos rfl,if_pos (by omega)]
     · rw [if_neg (by simp only; omega),if_neg (by omega)]
       rfl
theorem sput_fl5 (F:Nat→Flg) (f:Flg) (b:Nat):∀ m:Nat,b<m→sput (fl5 m F) ((5*b:Nat):Int) f=fl5 m (fun i=>if i=b then f else F i)
 | 0,h=>absurd h (xnZ b)
 | m+1,h=>by
   rw [fl5_succ,fl5_succ,sput_app,sfd_fl5 F m b]
   by_cases c:b<m
   · rw [if_pos c]
     show sput (fl5 m F) _ f++[(5*m,F m)]=_
     rw [sput_fl5 F f b m c,if_neg (show ¬ m=b by omega)]
   · obtain rfl:b=m:=by omega
     rw [if_neg c]
     show fl5 b F++sput [(5*b,F b)] ((5*b:Nat):Int) f=_
     unfold sput
     rw [if_pos rfl,if_pos rfl]
     congr 1
     exact fl5_congr fun i hi=>(if_neg (by omega)).symm
theorem sop_fl5 (last:Int) (m:Nat) (F:Nat→Flg) (hF:F m=flg0):sop (fs5 last m F) ((5*m:Nat):Int)=fs5 last (m+1) F:=by
 unfold sop
 rw [if_pos ⟨by omega,by show sfd (fl5 m F) _=none; rw [sfd_fl5,if_neg (Nat.lt_irrefl m)]⟩]
 show (⟨false,last,fl5 m F++[(((5*m:Nat):Int).toNat,flg0)]⟩:Sch)=⟨false,last,fl5 (m+1) F⟩
 rw [fl5_succ,hF,Int.toNat_natCast]
theorem fs5_w {last:Int} {m:Nat} {F:Nat→Flg} (h1:-1≤last) (h2:last<9223372036854775808) (hm:m≤16) (hF:∀ i,FlgW (F i)):SchW (fs5 last m F):=by
 refine ⟨?_,fun q hq=>?_,fun q hq=>?_,h1,h2⟩
 · show ((fl5 m F).map Prod.fst).Nodup
   unfold fl5
   rw [List.map_map]
   refine List.Pairwise.map _ (fun a b (hne:a≠b) e=>hne ?_) List.nodup_range
   have e':5*a=5*b:=e
   omega
 · obtain ⟨i,_,rfl⟩:=List.mem_map.1 hq
   exact hF i
 · obtain ⟨i,hi,rfl⟩:=List.mem_map.1 hq
   have:=List.mem_range.1 hi
   show 5*i<9223372036854775808
   omega
theorem fs5_sz (last:Int) {F:Nat→Flg} (hF:∀ i,fsz (F i)≤8):∀ m,ssz (fs5 last m F)≤9*m
 | 0=>xnR 0
 | m+1=>by
   have h1:=fs5_sz last hF m; have h2:=hF m
   have e:ssz (fs5 last (m+1) F)=ssz (fs5 last m F)+1+fsz (F m):=by
    unfold ssz fs5
    simp only [fl5_succ,List.length_append,List.map_append,List.sum_append,List.length_singleton,List.map_cons,List.map_nil,List.sum_cons,List.sum_nil]
    omega
   omega
def pf5:Nat→Flg
 | 0=>flg0
 | i+1=>{ pf5 i with top:=some i,rs:=(pf5 i).rs++[⟨i,0,[]⟩] }
theorem pf5_sz:∀ i,fsz (pf5 i)=i
 | 0=>rfl
 | i+1=>by
   have h1:=fsz_app (pf5 i) (some i) ⟨i,0,[]⟩
   show fsz { pf5 i with top:=some i,rs:=(pf5 i).rs++[⟨i,0,[]⟩] }=_
   rw [h1,pf5_sz i]
   rfl
theorem pf5_may (i:Nat) (hi:i<4):smay (pf5 i) ((i:Nat):Int)=true:=by
 unfold smay
 rw [decide_eq_true (by omega)]
 cases i with
 | zero=>rfl
 | succ k=>show (true&&decide (((k:Nat):Int)<((k+1:Nat):Int)))=true; rw [decide_eq_true (by omega)]; rfl
theorem pf5_w:∀ i,i≤4→FlgW (pf5 i)
 | 0,_=>flg0_w
 | i+1,h=>sent_w (pf5_w i (by omega)) (pf5_may i (by omega)) 0 (fun _ h_=>by cases h_)
def uf5 (u:Nat→Bool):Nat→Flg:=fun i=>if u i=true then pf5 4 else flg0
theorem uf5_w (u:Nat→Bool) (i:Nat):FlgW (uf5 u i):=by unfold uf5; split; exact pf5_w 4 (xnR _); exact flg0_w
theorem uf5_sz (u:Nat→Bool) (i:Nat):fsz (uf5 u i)≤8:=by
 unfold uf5
 split
 · show fsz (pf5 4)≤8; decide
 · show fsz flg0≤8; decide
def up5 (u:Nat→Bool) (b i:Nat):Nat→Flg:=fun k=>if k=b then pf5 i else uf5 u k
theorem up5_w (u:Nat→Bool) (b:Nat) {i:Nat} (hi:i≤4) (k:Nat):FlgW (up5 u b i k):=by unfold up5; split; exact pf5_w i hi; exact uf5_w u k
theorem up5_sz (u:Nat→Bool) (b:Nat) {i:Nat} (hi:i≤4) (k:Nat):fsz (up5 u b i k)≤8:=by unfold up5; split; rw [pf5_sz]; omega; exact uf5_sz u k
theorem up5_zero {u:Nat→Bool} {b:Nat} (h:u b=false):up5 u b 0=uf5 u:=funext fun k=>by
 unfold up5
 split
 · next c=>subst c; unfold uf5; rw [h]; rfl
 · rfl
def uput (u:Nat→Bool) (b:Nat):Nat→Bool:=fun k=>if k=b then true else u k
theorem up5_four (u:Nat→Bool) (b:Nat):up5 u b 4=uf5 (uput u b):=funext fun k=>by
 unfold up5 uf5 uput
 split
 · rfl
 · rfl
theorem sent_fl5 (last:Int) (m:Nat) (u:Nat→Bool) (b i:Nat) (hb:b<m) (hi:i<4):ssn (fs5 last m (up5 u b i)) ((5*b:Nat):Int) ((i:Nat):Int) 0 []=fs5 last m (up5 u b (i+1)):=by
 have e1:sfd (fs5 last m (up5 u b i)).L ((5*b:Nat):Int)=some (pf5 i):=by
  show sfd (fl5 m _) _=_
  rw [sfd_fl5,if_pos hb]
  unfold up5
  rw [if_pos rfl]
 unfold ssn
 rw [e1]
 simp only
 rw [if_pos (pf5_may i hi)]
 show (⟨false,last,sput (fl5 m (up5 u b i)) _ _⟩:Sch)=⟨false,last,fl5 m _⟩
 rw [sput_fl5 _ _ _ _ hb]
 congr 1
 refine fl5_congr fun k _=>?_
 unfold up5
 by_cases c:k=b
 · rw [if_pos c,if_pos c]; rfl
 · rw [if_neg c,if_neg c,if_neg c]
theorem seen_fl5 (last:Int) (m:Nat) (u:Nat→Bool) (b:Nat) (hb:b<m):sun (fs5 last m (uf5 u)) ((5*b:Nat):Int)=(if u b=true then 4 else 0)∧swn (fs5 last m (uf5 u)) ((5*b:Nat):Int)=4:=by
 have e1:sfd (fs5 last m (uf5 u)).L ((5*b:Nat):Int)=some (uf5 u b):=by
  show sfd (fl5 m _) _=_
  rw [sfd_fl5,if_pos hb]
 unfold sun swn
 rw [e1]
 simp only
 unfold uf5
 cases u b <;> exact ⟨rfl,rfl⟩
def bst (u:Nat→Bool) (r:Nat→Int):Nat→Option Nat
 | 0=>none
 | k+1=>if u k=false∧(∀ b,bst u r k=some b→r k<r b) then some k else bst u r k
theorem bst_succ (u:Nat→Bool) (r:Nat→Int) (k:Nat):bst u r (k+1)=if u k=false∧(∀ b,bst u r k=some b→r k<r b) then some k else bst u r k:=rfl
theorem bst_lt (u:Nat→Bool) (r:Nat→Int):∀ k b,bst u r k=some b→b<k∧u b=false
 | 0,b,h=>by cases h
 | k+1,b,h=>by
   unfold bst at h
   split at h
   · next c =>
     obtain rfl:=Option.some.inj h
     exact ⟨by omega,c.1⟩
   · have:=bst_lt u r k b h
     exact ⟨by omega,this.2⟩
theorem bst_some {u:Nat→Bool} (r:Nat→Int) {i:Nat} (hu:u i=false):∀ k,i<k→∃ b,bst u r k=some b
 | 0,h=>absurd h (xnZ i)
 | k+1,h=>by
   unfold bst
   split
   · exact ⟨k,rfl⟩
   · next c =>
     by_cases d:i<k
     · exact bst_some r hu k d
     · obtain rfl:i=k:=by omega
       refine Classical.byContradiction fun hn=>c ⟨hu,fun b hb=>absurd ⟨b,hb⟩ hn⟩
theorem bst_none {u:Nat→Bool} (r:Nat→Int):∀ {k},(∀ i,i<k→u i=true)→bst u r k=none
 | 0,_=>rfl
 | k+1,h=>by
   unfold bst
   rw [if_neg (fun c=>by rw [h k (by omega)] at c; cases c.1)]
   exact bst_none r fun i hi=>h i (by omega)
def bpr (r:Nat→Int):Option Nat→Int × Int
 | none=>(-1,0)
 | some b=>(((5*b:Nat):Int),r b)
theorem spk_fl5 (last:Int) {m:Nat} (u:Nat→Bool) (rtt:List Int):∀ k,k≤m→spk (fs5 last m (uf5 u)) (lv5 m) rtt k=bpr (bl rtt) (bst u (bl rtt) k)
 | 0,_=>rfl
 | k+1,h=>by
   show spb _ (spk _ _ _ k) (bl (lv5 m) k) (bl rtt k)=_
   rw [spk_fl5 last u rtt k (by omega),lv5_bl (by omega)]
   have hav:sav (fs5 last m (uf5 u)) ((5*k:Nat):Int)=!u k:=by
    unfold sav
    rw [show sfd (fs5 last m (uf5 u)).L ((5*k:Nat):Int)=some (uf5 u k) by show sfd (fl5 m _) _=_; rw [sfd_fl5,if_pos (by omega)]]
    simp only
    unfold uf5
    cases u k <;> rfl
   unfold spb
   rw [hav,bst_succ]
   cases hu:u k with
   | true=>rw [if_neg (by decide),if_neg (fun c=>by cases c.1)]
   | false =>
     rw [if_pos (show (!false)=true from rfl),if_neg (show ¬ (fs5 last m (uf5 u)).tu=true from fun e=>by cases e)]
     cases hb:bst u (bl rtt) k with
     | none=>rw [if_pos (.inl (show (-1:Int)<0 by decide)),if_pos ⟨rfl,fun b e=>by cases e⟩]; rfl
     | some b =>
       by_cases c:bl rtt k<bl rtt b
       · rw [if_pos (.inr c),if_pos ⟨rfl,fun b' e=>by rw [← Option.some.inj e]; exact c⟩]; rfl
       · rw [if_neg (fun d=>d.elim (fun e=>by have e':((5*b:Nat):Int)<0:=e; omega) c),if_neg (fun d=>c (d.2 b rfl))]
theorem pick_fl5 (last:Int) {m:Nat} (u:Nat→Bool) (rtt:List Int):spN (fs5 last m (uf5 u)) (lv5 m) rtt=(bpr (bl rtt) (bst u (bl rtt) m)).1:=by
 unfold spN
 rw [lv5_len,spk_fl5 last u rtt m (xnR _)]
def ucn (u:Nat→Bool):Nat→Nat
 | 0=>0
 | k+1=>ucn u k+if u k=true then 1 else 0
theorem ucn_le (u:Nat→Bool):∀ k,ucn u k≤k
 | 0=>xnR _
 | k+1=>by have:=ucn_le u k; unfold ucn; split <;> omega
theorem ucn_free (u:Nat→Bool):∀ k,ucn u k<k→∃ i,i<k∧u i=false
 | 0,h=>absurd h (xnZ _)
 | k+1,h=>by
   cases hu:u k with
   | false=>exact ⟨k,by omega,hu⟩
   | true =>
     unfold ucn at h
     rw [hu,if_pos rfl] at h
     obtain ⟨i,h1,h2⟩:=ucn_free u k (by omega)
     exact ⟨i,by omega,h2⟩
theorem ucn_full (u:Nat→Bool):∀ k,ucn u k=k→∀ i,i<k→u i=true
 | 0,_,i,hi=>absurd hi (xnZ i)
 | k+1,h,i,hi=>by
   have h1:=ucn_le u k
   cases hu:u k with
   | false=>unfold ucn at h; rw [hu,if_neg (by decide)] at h; omega
   | true =>
     unfold ucn at h
     rw [hu,if_pos rfl] at h
     by_cases c:i=k
     · rw [c]; exact hu
     · exact ucn_full u k (by omega) i (by omega)
theorem ucn_none:∀ k,ucn (fun _=>false) k=0
 | 0=>rfl
 | k+1=>by unfold ucn; rw [ucn_none k]; rfl
theorem ucn_put {u:Nat→Bool} {b:Nat} (hb:u b=false):∀ k,ucn (uput u b) k=ucn u k+if b<k then 1 else 0
 | 0=>rfl
 | k+1=>by
   have ih:=ucn_put hb k
   show ucn (uput u b) k+(if uput u b k=true then 1 else 0)=ucn u k+(if u k=true then 1 else 0)+(if b<k+1 then 1 else 0)
   rw [ih]
   rcases Nat.lt_trichotomy b k with d | d | d
   · have e:uput u b k=u k:=if_neg (by omega)
     rw [e,if_pos d,if_pos (show b<k+1 by omega)]
     omega
   · subst d
     have e:uput u b b=true:=if_pos rfl
     rw [e,hb,if_neg (Nat.lt_irrefl b),if_pos rfl,if_neg (show ¬ (false=true) by decide),if_pos (show b<b+1 by omega)]
   · have e:uput u b k=u k:=if_neg (by omega)
     rw [e,if_neg (show ¬ b<k by omega),if_neg (show ¬ b<k+1 by omega)]
     omega
section
section
variable {P:Program}
theorem idxSlE {o:Oper} {a:Act} (t e:TypeId) (len cap:Nat) (k:IntKind) (sp:Option Addr) (ad:Addr) (hsp:sp=some ad) (i:Nat) (x y:Operand) (hu:P.underlying t=some (.slice e)) (hsz:∀ w,(sizeOf e).run P w=.ok 1 w) (hi:i<len) (ho:o.op=.indexAddr t x y) (hx:a.eval x=.slice sp len cap) (hy:a.eval y=.int k (i:Int)) (w:World) :
 (execOp a.eval o).run P w=.ok (.value (.pointer (some (ad.add i)))) w:=by
 subst hsp
 exact idxSl t e len cap k ad i x y hu hsz hi ho hx hy w
end
end
theorem OwnI.src21 {w:World} {base:Nat} {l:List Int} {sp:Option Addr} {cap:Nat} (h:OwnI w base l (.slice sp l.length cap)):SrcI w sp l.length (bl l):=by
 obtain ⟨sp',c',hv,hs⟩:=OwnI.slice h
 injection hv with h1 _ _
 subst h1
 exact hs
theorem SrcI.atE21 {w:World} {sp:Option Addr} {n:Nat} {f:Nat→Int} (h:SrcI w sp n f) {ad:Addr} (hsp:sp=some ad) {j:Nat} (hj:j<n):w.cell? (ad.add j)=some (.int .i64 (f j)):=by
 subst hsp
 exact h.at j hj
theorem SrcI.some21 {w:World} {sp:Option Addr} {n:Nat} {f:Nat→Int} (h:SrcI w sp n f) (hn:0<n):∃ ad,sp=some ad:=by
 obtain ⟨ad,e,_⟩:=h 0 hn
 exact ⟨ad,e⟩
theorem SrcI.old21 {w:World} {sp:Option Addr} {n:Nat} {f:Nat→Int} (h:SrcI w sp n f) (hn:0<n):∀ b∈ob sp,b<w.heap.size:=fun b hb=>by
 obtain ⟨ad,rfl,hc⟩:=h 0 hn
 have h1:=World.block_lt_of_cell? w _ hc
 rw [add_block] at h1
 obtain rfl:=xm1 hb
 exact h1
theorem bl_i64 {l:List Int} (h:∀ x∈l,i64 x) (j:Nat):i64 (bl l j):=by
 unfold bl
 rw [List.getD_eq_getElem?_getD]
 cases e:l[j]? with
 | none=>show i64 0; unfold i64; decide
 | some x=>exact h x (List.mem_of_getElem? e)
end Go.Proofs.Ytmedjdadhmdpgaa
