/- Texts of Ad Dj Ai Aj Ak Mi Ap, joined. -/
import Derived.Test.YtmedjdadhmdpgaaP1SchedPlays
import Derived.Maps.Range
set_option maxRecDepth 20000
set_option maxHeartbeats 64000000
namespace Go.Proofs.Ytmedjdadhmdpgaa
open Go.RowKit
theorem Mm.srcI {w0 w:World} {l:List (Nat × List Value)} (h:Mm w0 l w) {b:Nat} {cs:List Value} (hp:(b,cs)∈l) (bs:List Int) (hc:cs=bs.map (Value.int .i64)):SrcI w (some ⟨b,0,none⟩) bs.length (bl bs):=fun j hj=>⟨_,rfl,by
 rw [Addr.add_mid,Nat.zero_add]
 refine h.get hp j _ ?_
 rw [hc,List.getElem?_map,List.getElem?_eq_getElem hj]
 unfold bl
 rw [List.getD_eq_getElem?_getD,List.getElem?_eq_getElem hj]
 rfl⟩
def zsc (k:Int) (f:Flg):Sch:=⟨true,k,[(1,f),(2,flg0)]⟩
theorem zsc_w {k:Int} {f:Flg} (h1:-1≤k) (h2:k<9223372036854775808) (hf:FlgW f):SchW (zsc k f) :=
 ⟨(show ([1,2]:List Nat).Nodup by decide),fun q hq=>by
  rcases xc1 hq with rfl | hq
  · exact hf
  · obtain rfl:=xm1 hq; exact flg0_w,fun q hq=>by
  rcases xc1 hq with rfl | hq
  · show 1<9223372036854775808; decide
  · obtain rfl:=xm1 hq; show 2<9223372036854775808; decide,h1,h2⟩
def zr (i:Nat):Rcd:=⟨i,10,[((i:Int),(i:Int)+1)]⟩
def zf:Nat→Flg
 | 0=>flg0
 | j+1=>{ zf j with top:=some j,rs:=(zf j).rs++[zr j] }
theorem zf_top:∀ j,(zf j).top=(match j with | 0=>none | k+1=>some k)
 | 0=>rfl
 | _+1=>rfl
theorem zf_may (j:Nat) (hj:j<5):smay (zf j) (j:Int)=true:=by
 unfold smay
 rw [decide_eq_true (by omega),zf_top]
 cases j with
 | zero=>rfl
 | succ k=>simp; omega
theorem zr_in (j:Nat) (hj:j<5):∀ p∈[((j:Int),(j:Int)+1)],i64 p.1∧i64 p.2:=fun p hp=>by
 obtain rfl:=xm1 hp
 unfold i64
 simp only
 omega
theorem zf_w:∀ j,j≤5→FlgW (zf j)
 | 0,_=>flg0_w
 | j+1,h=>sent_w (zf_w j (by omega)) (zf_may j (by omega)) 10 (zr_in j (by omega))
theorem zsc_sent (j:Nat) (hj:j<5):ssn (zsc 1 (zf j)) 1 (j:Int) 10 [((j:Int),(j:Int)+1)]=zsc 1 (zf (j+1)):=by
 show (if smay (zf j) (j:Int)=true then _ else _)=_
 rw [if_pos (zf_may j hj)]
 rfl
theorem zf_sz:∀ j,fsz (zf j)=2*j
 | 0=>rfl
 | j+1=>by
   have h1:=fsz_app (zf j) (some j) (zr j); have h2:=zf_sz j
   show fsz { zf j with top:=some j,rs:=(zf j).rs++[zr j] }=_
   rw [h1,h2]
   show 2*j+1+1=_
   omega
def zg:Flg:=⟨3,some 4,[zr 2]⟩
def zl:Flg:=⟨2,some 4,[]⟩
theorem zg_w:FlgW zg:=⟨by decide,by decide,fun r hr=>by obtain rfl:=xm1 hr; exact ⟨by decide,by decide,zr_in 2 (by decide)⟩,List.pairwise_singleton _ _,fun r hr=>by obtain rfl:=xm1 hr; exact ⟨4,rfl,by decide⟩,fun t ht=>by obtain rfl:=Option.some.inj ht; decide⟩
theorem zl_w:FlgW zl:=⟨by decide,by decide,fun r hr=>(by cases hr),List.Pairwise.nil,fun r hr=>(by cases hr),fun t ht=>by obtain rfl:=Option.some.inj ht; decide⟩
theorem shown21_any {I:SchI} (hK:SchOK I) (w0:World) :
 Calls Try.prog 8 #[] w0 fun e w'=>e=.returned (.bool true)∧Below w0.heap.size w0 w':=by
 have M:=Mm.init w0
 go_enter Try.func8,Try.ntmps8
 go_upto_region 0 with fail; refine wp_region_list ?_; refine xpL (.bool false) ?_; refine xT ?_; go_upto_region 1 with fail; refine wp_region_list ?_; have key:=hK.new w0 _ _ 1 (by unfold i64; decide) M; refine xcL key ?_; clear key; rintro e w1 ⟨v_,ba0,rfl,hIa,M',l_⟩
 obtain ⟨Ra,rfl⟩:=hK.ptr _ _ _ _ hIa
 clear M; have M:=M'.perm (pull0 ([]:List (Nat × List Value)) ba0 ([]:List (Nat × List Value))).symm; clear M'; clear l_
 replace M:Mm w0 ((ba0++([]:List (Nat × List Value)))) w1:=M
 refine xeL ?_; refine xpL (.pointer (some ⟨Ra,0,none⟩)) ?_; refine xT ?_; go_upto_region 2 with fail; refine wp_region_list ?_; refine xpL (.pointer (some ⟨Ra,0,none⟩)) ?_; refine xpL (.bool false) ?_; refine xT ?_; go_upto_region 4 with fail; refine wp_region_list ?_; refine xpL (.pointer (some ⟨Ra,0,none⟩)) ?_
 have Mp:=M.perm (pull0 ([]:List (Nat × List Value)) ba0 ([]:List (Nat × List Value))); have key:=hK.opn w0 _ _ (snew 1) ba0 _ 1 (snew_w _) (show 0<1000000000 by decide) (by unfold i64; decide) hIa Mp
 rw [show sop (snew 1) 1=⟨true,-1,[(1,flg0)]⟩ from rfl] at key
 refine xcL key ?_; clear key; rintro e w2 ⟨ba1,rfl,hI_,M',o1⟩; clear o1 Mp M hIa; have hIa:=hI_; clear hI_
 have M:Mm w0 ((ba1++([]:List (Nat × List Value)))) w2:=M'.perm (pull0 ([]:List (Nat × List Value)) ba1 ([]:List (Nat × List Value))).symm
 clear M'; refine xeL ?_; refine xT ?_; go_upto_region 5 with fail; refine wp_region_list ?_; refine xpL (.pointer (some ⟨Ra,0,none⟩)) ?_; have Mp:=M.perm (pull0 ([]:List (Nat × List Value)) ba1 ([]:List (Nat × List Value)))
 have key:=hK.opn w0 _ _ ⟨true,-1,[(1,flg0)]⟩ ba1 _ 2 (show SchW ⟨true,-1,[(1,flg0)]⟩ from sop_w (snew_w 1) (id:=1) (by unfold i64; decide)) (show 1+(0+0)<1000000000 by decide) (by unfold i64; decide) hIa Mp
 rw [show sop ⟨true,-1,[(1,flg0)]⟩ 2=zsc (-1) flg0 from rfl] at key
 refine xcL key ?_; clear key; rintro e w3 ⟨ba2,rfl,hI_,M',o1⟩; clear o1 Mp M hIa; have hIa:=hI_; clear hI_
 have M:Mm w0 ((ba2++([]:List (Nat × List Value)))) w3:=M'.perm (pull0 ([]:List (Nat × List Value)) ba2 ([]:List (Nat × List Value))).symm
 clear M'; refine xeL ?_; refine xT ?_; go_upto_region 6 with fail; refine wp_region_list ?_; refine xpL (.pointer (some ⟨Ra,0,none⟩)) ?_; have hlb:=(Below.refl w3.heap.size w3).alloc (xnR _) (.cells #[.int .i64 1,.int .i64 2] 3); refine actL (w':=w3.alloc (.cells #[.int .i64 1,.int .i64 2] 3)) (.slice (some ⟨w3.heap.size,0,none⟩) 2 2) rfl (by kernel_rfl) ?_; simp only [aP,lI,l0,lS]
 replace hIa:=hK.bel hIa hlb; replace M:=M.box #[.int .i64 1,.int .i64 2] 3 w3.heap.size rfl; clear hlb; generalize w3.alloc (.cells #[.int .i64 1,.int .i64 2] 3)=w4 at M hIa ⊢; generalize w3.heap.size=B4 at M ⊢
 replace M:Mm w0 ((B4,[.int .i64 1,.int .i64 2])::(ba2++([]:List (Nat × List Value)))) w4:=M
 have Mp:=M.perm (pull0 ([(B4,[.int .i64 1,.int .i64 2])]:List (Nat × List Value)) ba2 ([]:List (Nat × List Value)))
 have key:=hK.pck w0 _ _ (zsc (-1) flg0) ba2 _ [1,2] (some ⟨B4,0,none⟩) 2 [] none 0 (zsc_w (by decide) (by decide) flg0_w) (show 2+(0+0)<1000000000 by decide) (by decide) (by decide) (fun e=>by cases e) (by unfold i64; decide) (M.srcI mS [1,2] rfl) (fun b_ hb_ _ h_=>by obtain rfl:=xm1 h_; exact Mp.beside mS hb_) (by decide) (by decide) (fun _=>rfl) (fun _ h_=>by cases h_) (fun j hj=>absurd hj (xnZ j)) (fun _ _ h_=>absurd rfl h_) hIa Mp
 rw [show spA (zsc (-1) flg0) [1,2] []=1 from rfl] at key
 rw [show spB (zsc (-1) flg0) [1,2] []=true from rfl] at key
 rw [show spc (zsc (-1) flg0) [1,2] []=zsc 1 flg0 from rfl] at key
 refine xcL key ?_; clear key; rintro e w5 ⟨ba3,rfl,hI_,M',o1⟩; clear o1 Mp M hIa; have hIa:=hI_; clear hI_
 have M:Mm w0 ((B4,[.int .i64 1,.int .i64 2])::(ba3++([]:List (Nat × List Value)))) w5:=M'.perm (pull0 ([(B4,[.int .i64 1,.int .i64 2])]:List (Nat × List Value)) ba3 ([]:List (Nat × List Value))).symm
 clear M'; refine xeL ?_; refine xpL (.tuple #[.int .i64 1,.bool true]) ?_; refine xpL (.int .i64 1) ?_; refine xpL (.bool true) ?_; refine xpL (.int .i64 1) ?_; refine xpL (.bool true) ?_; refine xT ?_; go_upto_region 7 with fail; refine wp_region_list ?_; refine xpL (.pointer (some ⟨Ra,0,none⟩)) ?_; have hlb:=(Below.refl w5.heap.size w5).alloc (xnR _) (.cells #[.int .i64 1,.int .i64 2] 3)
 refine actL (w':=w5.alloc (.cells #[.int .i64 1,.int .i64 2] 3)) (.slice (some ⟨w5.heap.size,0,none⟩) 2 2) rfl (by kernel_rfl) ?_; simp only [aP,lI,l0,lS]; replace hIa:=hK.bel hIa hlb; replace M:=M.box #[.int .i64 1,.int .i64 2] 3 w5.heap.size rfl; clear hlb; generalize w5.alloc (.cells #[.int .i64 1,.int .i64 2] 3)=w6 at M hIa ⊢; generalize w5.heap.size=B6 at M ⊢
 replace M:Mm w0 ((B6,[.int .i64 1,.int .i64 2])::(B4,[.int .i64 1,.int .i64 2])::(ba3++([]:List (Nat × List Value)))) w6:=M
 have Mp:=M.perm (pull0 ([(B6,[.int .i64 1,.int .i64 2]),(B4,[.int .i64 1,.int .i64 2])]:List (Nat × List Value)) ba3 ([]:List (Nat × List Value)))
 have key:=hK.pck w0 _ _ (zsc 1 flg0) ba3 _ [1,2] (some ⟨B6,0,none⟩) 2 [] none 0 (zsc_w (by decide) (by decide) flg0_w) (show 2+(0+0)<1000000000 by decide) (by decide) (by decide) (fun e=>by cases e) (by unfold i64; decide) (M.srcI mS [1,2] rfl) (fun b_ hb_ _ h_=>by obtain rfl:=xm1 h_; exact Mp.beside mS hb_) (by decide) (by decide) (fun _=>rfl) (fun _ h_=>by cases h_) (fun j hj=>absurd hj (xnZ j)) (fun _ _ h_=>absurd rfl h_) hIa Mp
 rw [show spA (zsc 1 flg0) [1,2] []=2 from rfl] at key
 rw [show spB (zsc 1 flg0) [1,2] []=true from rfl] at key
 rw [show spc (zsc 1 flg0) [1,2] []=zsc 2 flg0 from rfl] at key
 refine xcL key ?_; clear key; rintro e w7 ⟨ba4,rfl,hI_,M',o1⟩; clear o1 Mp M hIa; have hIa:=hI_; clear hI_
 have M:Mm w0 ((B6,[.int .i64 1,.int .i64 2])::(B4,[.int .i64 1,.int .i64 2])::(ba4++([]:List (Nat × List Value)))) w7:=M'.perm (pull0 ([(B6,[.int .i64 1,.int .i64 2]),(B4,[.int .i64 1,.int .i64 2])]:List (Nat × List Value)) ba4 ([]:List (Nat × List Value))).symm
 clear M'; refine xeL ?_; refine xpL (.tuple #[.int .i64 2,.bool true]) ?_; refine xpL (.int .i64 2) ?_; refine xpL (.bool true) ?_; refine xpL (.int .i64 2) ?_; refine xpL (.bool true) ?_; refine xT ?_; go_upto_region 8 with fail; refine wp_region_list ?_; refine xpL (.pointer (some ⟨Ra,0,none⟩)) ?_; have hlb:=(Below.refl w7.heap.size w7).alloc (xnR _) (.cells #[.int .i64 1,.int .i64 2] 3)
 refine actL (w':=w7.alloc (.cells #[.int .i64 1,.int .i64 2] 3)) (.slice (some ⟨w7.heap.size,0,none⟩) 2 2) rfl (by kernel_rfl) ?_; simp only [aP,lI,l0,lS]; replace hIa:=hK.bel hIa hlb; replace M:=M.box #[.int .i64 1,.int .i64 2] 3 w7.heap.size rfl; clear hlb; generalize w7.alloc (.cells #[.int .i64 1,.int .i64 2] 3)=w8 at M hIa ⊢; generalize w7.heap.size=B8 at M ⊢
 replace M:Mm w0 ((B8,[.int .i64 1,.int .i64 2])::(B6,[.int .i64 1,.int .i64 2])::(B4,[.int .i64 1,.int .i64 2])::(ba4++([]:List (Nat × List Value)))) w8:=M
 have Mp:=M.perm (pull0 ([(B8,[.int .i64 1,.int .i64 2]),(B6,[.int .i64 1,.int .i64 2]),(B4,[.int .i64 1,.int .i64 2])]:List (Nat × List Value)) ba4 ([]:List (Nat × List Value)))
 have key:=hK.pck w0 _ _ (zsc 2 flg0) ba4 _ [1,2] (some ⟨B8,0,none⟩) 2 [] none 0 (zsc_w (by decide) (by decide) flg0_w) (show 2+(0+0)<1000000000 by decide) (by decide) (by decide) (fun e=>by cases e) (by unfold i64; decide) (M.srcI mS [1,2] rfl) (fun b_ hb_ _ h_=>by obtain rfl:=xm1 h_; exact Mp.beside mS hb_) (by decide) (by decide) (fun _=>rfl) (fun _ h_=>by cases h_) (fun j hj=>absurd hj (xnZ j)) (fun _ _ h_=>absurd rfl h_) hIa Mp
 rw [show spA (zsc 2 flg0) [1,2] []=1 from rfl] at key
 rw [show spB (zsc 2 flg0) [1,2] []=true from rfl] at key
 rw [show spc (zsc 2 flg0) [1,2] []=zsc 1 flg0 from rfl] at key
 refine xcL key ?_; clear key; rintro e w9 ⟨ba5,rfl,hI_,M',o1⟩; clear o1 Mp M hIa; have hIa:=hI_; clear hI_
 have M:Mm w0 ((B8,[.int .i64 1,.int .i64 2])::(B6,[.int .i64 1,.int .i64 2])::(B4,[.int .i64 1,.int .i64 2])::(ba5++([]:List (Nat × List Value)))) w9:=M'.perm (pull0 ([(B8,[.int .i64 1,.int .i64 2]),(B6,[.int .i64 1,.int .i64 2]),(B4,[.int .i64 1,.int .i64 2])]:List (Nat × List Value)) ba5 ([]:List (Nat × List Value))).symm
 clear M'; refine xeL ?_; refine xpL (.tuple #[.int .i64 1,.bool true]) ?_; refine xpL (.int .i64 1) ?_; refine xpL (.bool true) ?_; refine xpL (.int .i64 1) ?_; refine xpL (.bool true) ?_; refine xT ?_; go_upto_region 9 with fail; refine wp_region_list ?_; refine xpL (.int .i64 0) ?_; refine xT ?_
 have M2:Mm w0 (ba5++([]:List (Nat × List Value))) w9:=M.tail.tail.tail
 have HI:=show Hid _ from (show I w9 (.pointer (some ⟨Ra,0,none⟩)) (zsc 1 (zf 0)) ba5∧Mm w0 (ba5++([]:List (Nat × List Value))) w9 from ⟨hIa,M2⟩); clear M M2 hIa; go_wp2
 go_loopw [8] (fun i w'=>∃ (j:Nat) (ga:List (Nat × List Value)),j≤5∧i=.int .i64 (j:Int)∧I w' (.pointer (some ⟨Ra,0,none⟩)) (zsc 1 (zf j)) ga∧Mm w0 (ga++([]:List (Nat × List Value))) w') (fun i _=>5-(intOf i).toNat)
 case atStart=>exact ⟨0,_,by omega,rfl,HI.out⟩
 case round =>
  clear HI
  obtain ⟨j,ga,hj,rfl,hIa,M⟩:=hrel
  by_cases hj5:j<5
  · go_upto_region 10 with fail
    refine wp_region_list ?_; refine xpL (.int .i64 ((j:Nat):Int)) ?_; refine xaL (.bool true) (lssI .i64 _ _ _ _ _ _ rfl rfl rfl true (decide_eq_true (by omega)) _) ?_; refine xT ?_; go_upto_region 12 with fail; refine wp_region_list ?_; refine xpL (.pointer (some ⟨Ra,0,none⟩)) ?_; refine xpL (.int .i64 ((j:Nat):Int)) ?_; refine xpL (.int .i64 ((j:Nat):Int)) ?_
    refine xpL (.int .i64 ((j:Nat):Int)) ?_; refine readL (.int .i64 (((j:Nat):Int)+1)) rfl (addI .i64 _ _ _ _ _ _ _ rfl rfl rfl (by rw [xw6]; omega) _) ?_; simp only [aP,lI,l0,lS]; refine xpL (.agg #[.int .i64 ((j:Nat):Int),.int .i64 (((j:Nat):Int)+1)]) ?_
    have hlb:=(Below.refl wr.heap.size wr).alloc (xnR _) (.cells #[.int .i64 ((j:Nat):Int),.int .i64 (((j:Nat):Int)+1)] 38); refine actL (w':=wr.alloc (.cells #[.int .i64 ((j:Nat):Int),.int .i64 (((j:Nat):Int)+1)] 38)) (.slice (some ⟨wr.heap.size,0,none⟩) 1 1) rfl (by kernel_rfl) ?_; simp only [aP,lI,l0,lS]; replace hIa:=hK.bel hIa hlb
    replace M:=M.box #[.int .i64 ((j:Nat):Int),.int .i64 (((j:Nat):Int)+1)] 38 wr.heap.size rfl; clear hlb; generalize wr.alloc (.cells #[.int .i64 ((j:Nat):Int),.int .i64 (((j:Nat):Int)+1)] 38)=w10 at M hIa ⊢; generalize wr.heap.size=B10 at M ⊢
    replace M:Mm w0 ((B10,[.int .i64 ((j:Nat):Int),.int .i64 (((j:Nat):Int)+1)])::(ga++([]:List (Nat × List Value)))) w10:=M
    have Mp:=M.perm (pull0 ([(B10,[.int .i64 ((j:Nat):Int),.int .i64 (((j:Nat):Int)+1)])]:List (Nat × List Value)) ga ([]:List (Nat × List Value)))
    have key:=hK.snt w0 _ _ (zsc 1 (zf j)) ga _ 1 ((j:Nat):Int) 10 [(((j:Nat):Int),((j:Nat):Int)+1)] (some ⟨B10,0,none⟩) 1 (zsc_w (by decide) (by decide) (zf_w j hj)) (show 2+(fsz (zf j)+0)<1000000000 by rw [zf_sz]; omega) (by unfold i64; decide) (by unfold i64; omega) (by unfold i64; decide) (show (1:Nat)<2000000 by decide) (zr_in j hj5) (RgW.ofW (M.newWt mS [(((j:Nat):Int),((j:Nat):Int)+1)] rfl (xnR _))) (fun b_ hb_ _ h_=>by obtain rfl:=xm1 h_; exact Mp.beside mS hb_) hIa Mp
    rw [zsc_sent j hj5] at key
    refine xcL key ?_; clear key; rintro e w11 ⟨ba1,rfl,hI_,M',o1⟩; clear o1 Mp M hIa; have hIa:=hI_; clear hI_
    have M:Mm w0 ((B10,[.int .i64 ((j:Nat):Int),.int .i64 (((j:Nat):Int)+1)])::(ba1++([]:List (Nat × List Value)))) w11:=M'.perm (pull0 ([(B10,[.int .i64 ((j:Nat):Int),.int .i64 (((j:Nat):Int)+1)])]:List (Nat × List Value)) ba1 ([]:List (Nat × List Value))).symm
    clear M'; refine xeL ?_; refine xT ?_
    have M2:Mm w0 (ba1++([]:List (Nat × List Value))) w11:=M.tail
    have HS:=show Hid _ from (show I w11 (.pointer (some ⟨Ra,0,none⟩)) (zsc 1 (zf (j+1))) ba1∧Mm w0 (ba1++([]:List (Nat × List Value))) w11 from ⟨hIa,M2⟩); clear M M2 hIa; go_wp2
    go_roundw
    case rel=>exact ⟨j+1,_,by omega,by go_num,HS.out⟩
    case measure=>simp [intOf]; omega
  · obtain rfl:j=5:=by omega
    go_upto_region 10 with fail; refine wp_region_list ?_; refine xpL (.int .i64 ((5:Nat):Int)) ?_; refine xaL (.bool false) (lssI .i64 _ _ _ _ _ _ rfl rfl rfl false (decide_eq_false (by omega)) _) ?_; refine xT ?_; go_upto_region 13 with fail; refine wp_region_list ?_; refine xpL (.pointer (some ⟨Ra,0,none⟩)) ?_
    have Mp:=M.perm (pull0 ([]:List (Nat × List Value)) ga ([]:List (Nat × List Value))); have key:=hK.und w0 _ _ (zsc 1 (zf 5)) ga _ 1 (zsc_w (by decide) (by decide) (zf_w 5 (by decide))) (show 2+(10+0)<1000000000 by decide) (by unfold i64; decide) hIa Mp; clear Mp
    rw [show sun (zsc 1 (zf 5)) 1=5 from rfl] at key
    refine xcL key ?_; clear key; rintro e w12 ⟨rfl,l_⟩; replace M:=M.call l_; replace hIa:=hK.bel hIa l_; clear l_; refine xeL ?_; refine xpL (.int .i64 5) ?_; refine xT ?_; go_upto_region 14 with fail; refine wp_region_list ?_; refine xpL (.pointer (some ⟨Ra,0,none⟩)) ?_; have hlb:=(Below.refl w12.heap.size w12).alloc (xnR _) (.cells #[.int .i64 1] 3)
    refine actL (w':=w12.alloc (.cells #[.int .i64 1] 3)) (.slice (some ⟨w12.heap.size,0,none⟩) 1 1) rfl (by kernel_rfl) ?_; simp only [aP,lI,l0,lS]; replace hIa:=hK.bel hIa hlb; replace M:=M.box #[.int .i64 1] 3 w12.heap.size rfl; clear hlb; generalize w12.alloc (.cells #[.int .i64 1] 3)=w13 at M hIa ⊢; generalize w12.heap.size=B13 at M ⊢
    replace M:Mm w0 ((B13,[.int .i64 1])::(ga++([]:List (Nat × List Value)))) w13:=M
    have Mp:=M.perm (pull0 ([(B13,[.int .i64 1])]:List (Nat × List Value)) ga ([]:List (Nat × List Value)))
    have key:=hK.pck w0 _ _ (zsc 1 (zf 5)) ga _ [1] (some ⟨B13,0,none⟩) 1 [] none 0 (zsc_w (by decide) (by decide) (zf_w 5 (by decide))) (show 2+(10+0)<1000000000 by decide) (by decide) (by decide) (fun e=>by cases e) (by unfold i64; decide) (M.srcI mS [1] rfl) (fun b_ hb_ _ h_=>by obtain rfl:=xm1 h_; exact Mp.beside mS hb_) (by decide) (by decide) (fun _=>rfl) (fun _ h_=>by cases h_) (fun j hj=>absurd hj (xnZ j)) (fun _ _ h_=>absurd rfl h_) hIa Mp
    rw [show spA (zsc 1 (zf 5)) [1] []=0 from rfl] at key
    rw [show spB (zsc 1 (zf 5)) [1] []=false from rfl] at key
    rw [show spc (zsc 1 (zf 5)) [1] []=zsc 1 (zf 5) from rfl] at key
    refine xcL key ?_; clear key; rintro e w14 ⟨ba1,rfl,hI_,M',o1⟩; clear o1 Mp M hIa; have hIa:=hI_; clear hI_
    have M:Mm w0 ((B13,[.int .i64 1])::(ba1++([]:List (Nat × List Value)))) w14:=M'.perm (pull0 ([(B13,[.int .i64 1])]:List (Nat × List Value)) ba1 ([]:List (Nat × List Value))).symm
    clear M'; refine xeL ?_; refine xpL (.tuple #[.int .i64 0,.bool false]) ?_; refine xpL (.int .i64 0) ?_; refine xpL (.bool false) ?_; refine xpL (.int .i64 0) ?_; refine xpL (.bool false) ?_; refine xT ?_; go_upto_region 15 with fail; refine wp_region_list ?_; refine xpL (.pointer (some ⟨Ra,0,none⟩)) ?_; refine xpL (.agg #[.int .i64 3,.int .i64 4]) ?_
    have hlb:=(Below.refl w14.heap.size w14).alloc (xnR _) (.cells #[.int .i64 3,.int .i64 4] 38); refine actL (w':=w14.alloc (.cells #[.int .i64 3,.int .i64 4] 38)) (.slice (some ⟨w14.heap.size,0,none⟩) 1 1) rfl (by kernel_rfl) ?_; simp only [aP,lI,l0,lS]; replace hIa:=hK.bel hIa hlb; replace M:=M.box #[.int .i64 3,.int .i64 4] 38 w14.heap.size rfl; clear hlb
    generalize w14.alloc (.cells #[.int .i64 3,.int .i64 4] 38)=w15 at M hIa ⊢; generalize w14.heap.size=B15 at M ⊢
    replace M:Mm w0 ((B15,[.int .i64 3,.int .i64 4])::(B13,[.int .i64 1])::(ba1++([]:List (Nat × List Value)))) w15:=M
    have Mp:=M.perm (pull0 ([(B15,[.int .i64 3,.int .i64 4]),(B13,[.int .i64 1])]:List (Nat × List Value)) ba1 ([]:List (Nat × List Value)))
    have key:=hK.got w0 _ _ (zsc 1 (zf 5)) ba1 _ 1 4 [(3,4)] (some ⟨B15,0,none⟩) 1 25 (zsc_w (by decide) (by decide) (zf_w 5 (by decide))) (show 2+(10+0)<1000000000 by decide) (by unfold i64; decide) (by unfold i64; decide) (by unfold i64; decide) (show (1:Nat)<140737488355328 by decide) (by unfold i64; decide) (RgW.ofW (M.newWt mS [(3,4)] rfl (xnR _))) (fun b_ hb_ _ h_=>by obtain rfl:=xm1 h_; exact Mp.beside mS hb_) hIa Mp
    rw [show sgO (zsc 1 (zf 5)) 1 4 [(3,4)]=[(0,1),(1,2)] from rfl] at key
    rw [show sgT (zsc 1 (zf 5)) 1 4 25=15 from rfl] at key
    rw [show sgt (zsc 1 (zf 5)) 1 4 [(3,4)]=zsc 1 zg from rfl] at key
    refine xcL key ?_; clear key; rintro e w16 ⟨p16,c16,ba2,rfl,W_16,hI_,M',o1⟩; clear o1 Mp M hIa; have hIa:=hI_; clear hI_
    have M:Mm w0 ((B15,[.int .i64 3,.int .i64 4])::(B13,[.int .i64 1])::(ba2++((obs p16)++([]:List (Nat × List Value))))) w16:=M'.perm (pullY ([(B15,[.int .i64 3,.int .i64 4]),(B13,[.int .i64 1])]:List (Nat × List Value)) ba2 (obs p16) ([]:List (Nat × List Value)))
    clear M'; refine xeL ?_; refine xpL (.tuple #[.slice p16 (([(0,1),(1,2)]:List (Int × Int)).length) c16,.int .i64 15]) ?_; refine xpL (.slice p16 (([(0,1),(1,2)]:List (Int × Int)).length) c16) ?_; refine xpL (.int .i64 15) ?_; refine xpL (.slice p16 (([(0,1),(1,2)]:List (Int × Int)).length) c16) ?_; refine xpL (.int .i64 15) ?_; refine xT ?_; go_upto_region 16 with fail
    refine wp_region_list ?_; refine xpL (.slice p16 (([(0,1),(1,2)]:List (Int × Int)).length) c16) ?_; refine xpL (.agg #[.int .i64 0,.int .i64 1]) ?_; refine xpL (.agg #[.int .i64 1,.int .i64 2]) ?_; have hlb:=(Below.refl w16.heap.size w16).alloc (xnR _) (.cells #[.int .i64 0,.int .i64 1,.int .i64 1,.int .i64 2] 38)
    refine actL (w':=w16.alloc (.cells #[.int .i64 0,.int .i64 1,.int .i64 1,.int .i64 2] 38)) (.slice (some ⟨w16.heap.size,0,none⟩) 2 2) rfl (by kernel_rfl) ?_; simp only [aP,lI,l0,lS]; replace hIa:=hK.bel hIa hlb; replace W_16:=NewW.below W_16 hlb; replace M:=M.box #[.int .i64 0,.int .i64 1,.int .i64 1,.int .i64 2] 38 w16.heap.size rfl; clear hlb
    generalize w16.alloc (.cells #[.int .i64 0,.int .i64 1,.int .i64 1,.int .i64 2] 38)=w17 at M hIa W_16 ⊢; generalize w16.heap.size=B17 at M ⊢
    replace M:Mm w0 ((B17,[.int .i64 0,.int .i64 1,.int .i64 1,.int .i64 2])::(B15,[.int .i64 3,.int .i64 4])::(B13,[.int .i64 1])::(ba2++((obs p16)++([]:List (Nat × List Value))))) w17:=M
    have key:=same21_any ([(0,1),(1,2)]) (by decide) _ _ p16 (some ⟨B17,0,none⟩) c16 2 w17 W_16 (M.newWt mS [(0,1),(1,2)] rfl (by decide)); refine xcL key ?_; clear key; rintro e w18 ⟨rfl,l_⟩; replace M:=M.call l_; replace hIa:=hK.bel hIa l_; replace W_16:=NewW.below W_16 l_; clear l_; refine xeL ?_; refine xpL (.bool true) ?_; refine xT ?_; go_upto_region 17 with fail
    refine wp_region_list ?_; refine xpL (.pointer (some ⟨Ra,0,none⟩)) ?_; have Mp:=M.perm (pull0 ([(B17,[.int .i64 0,.int .i64 1,.int .i64 1,.int .i64 2]),(B15,[.int .i64 3,.int .i64 4]),(B13,[.int .i64 1])]:List (Nat × List Value)) ba2 ((obs p16)++([]:List (Nat × List Value))))
    have key:=hK.und w0 _ _ (zsc 1 zg) ba2 _ 1 (zsc_w (by decide) (by decide) zg_w) (show 2+(2+0)<1000000000 by decide) (by unfold i64; decide) hIa Mp; clear Mp
    rw [show sun (zsc 1 zg) 1=1 from rfl] at key
    refine xcL key ?_; clear key; rintro e w19 ⟨rfl,l_⟩; replace M:=M.call l_; replace hIa:=hK.bel hIa l_; replace W_16:=NewW.below W_16 l_; clear l_; refine xeL ?_; refine xpL (.int .i64 1) ?_; refine xT ?_; go_upto_region 18 with fail; refine wp_region_list ?_; refine xpL (.pointer (some ⟨Ra,0,none⟩)) ?_
    have Mp:=M.perm (pull0 ([(B17,[.int .i64 0,.int .i64 1,.int .i64 1,.int .i64 2]),(B15,[.int .i64 3,.int .i64 4]),(B13,[.int .i64 1])]:List (Nat × List Value)) ba2 ((obs p16)++([]:List (Nat × List Value)))); have key:=hK.win w0 _ _ (zsc 1 zg) ba2 _ 1 (zsc_w (by decide) (by decide) zg_w) (show 2+(2+0)<1000000000 by decide) (by unfold i64; decide) hIa Mp; clear Mp
    rw [show swn (zsc 1 zg) 1=3 from rfl] at key
    refine xcL key ?_; clear key; rintro e w20 ⟨rfl,l_⟩; replace M:=M.call l_; replace hIa:=hK.bel hIa l_; replace W_16:=NewW.below W_16 l_; clear l_; refine xeL ?_; refine xpL (.int .i64 3) ?_; refine xT ?_; go_upto_region 19 with fail; refine wp_region_list ?_; refine xpL (.pointer (some ⟨Ra,0,none⟩)) ?_
    have Mp:=M.perm (pull0 ([(B17,[.int .i64 0,.int .i64 1,.int .i64 1,.int .i64 2]),(B15,[.int .i64 3,.int .i64 4]),(B13,[.int .i64 1])]:List (Nat × List Value)) ba2 ((obs p16)++([]:List (Nat × List Value))))
    have key:=hK.lat w0 _ _ (zsc 1 zg) ba2 _ 1 20 11 (zsc_w (by decide) (by decide) zg_w) (show 2+(2+0)<1000000000 by decide) (by unfold i64; decide) (by unfold i64; decide) (by unfold i64; decide) hIa Mp
    rw [show slO (zsc 1 zg) 1 20 11=[] from rfl] at key
    rw [show sla (zsc 1 zg) 1 20 11=zsc 1 zg from rfl] at key
    refine xcL key ?_; clear key; rintro e w21 ⟨p21,c21,ba3,rfl,W_21,hI_,M',o1⟩; replace W_16:=NewW.offB W_16 o1 (Mp.awayS (fun p_ hp_=>by simp [hp_])); clear o1 Mp M hIa; have hIa:=hI_; clear hI_
    have M:Mm w0 ((B17,[.int .i64 0,.int .i64 1,.int .i64 1,.int .i64 2])::(B15,[.int .i64 3,.int .i64 4])::(B13,[.int .i64 1])::(ba3++((obs p21)++((obs p16)++([]:List (Nat × List Value)))))) w21:=M'.perm (pullY ([(B17,[.int .i64 0,.int .i64 1,.int .i64 1,.int .i64 2]),(B15,[.int .i64 3,.int .i64 4]),(B13,[.int .i64 1])]:List (Nat × List Value)) ba3 (obs p21) ((obs p16)++([]:List (Nat × List Value))))
    clear M'; refine xeL ?_; refine xpL (.slice p21 (([]:List (Int × Int)).length) c21) ?_; refine xT ?_; go_upto_region 20 with fail; refine wp_region_list ?_; refine xpL (.pointer (some ⟨Ra,0,none⟩)) ?_
    have Mp:=M.perm (pull0 ([(B17,[.int .i64 0,.int .i64 1,.int .i64 1,.int .i64 2]),(B15,[.int .i64 3,.int .i64 4]),(B13,[.int .i64 1])]:List (Nat × List Value)) ba3 ((obs p21)++((obs p16)++([]:List (Nat × List Value)))))
    have key:=hK.lat w0 _ _ (zsc 1 zg) ba3 _ 1 20 10 (zsc_w (by decide) (by decide) zg_w) (show 2+(2+0)<1000000000 by decide) (by unfold i64; decide) (by unfold i64; decide) (by unfold i64; decide) hIa Mp
    rw [show slO (zsc 1 zg) 1 20 10=[(2,3)] from rfl] at key
    rw [show sla (zsc 1 zg) 1 20 10=zsc 1 zl from rfl] at key
    refine xcL key ?_; clear key; rintro e w22 ⟨p22,c22,ba4,rfl,W_22,hI_,M',o1⟩; replace W_16:=NewW.offB W_16 o1 (Mp.awayS (fun p_ hp_=>by simp [hp_])); replace W_21:=NewW.offB W_21 o1 (Mp.awayS (fun p_ hp_=>by simp [hp_])); clear o1 Mp M hIa; have hIa:=hI_; clear hI_
    have M:Mm w0 ((B17,[.int .i64 0,.int .i64 1,.int .i64 1,.int .i64 2])::(B15,[.int .i64 3,.int .i64 4])::(B13,[.int .i64 1])::(ba4++((obs p22)++((obs p21)++((obs p16)++([]:List (Nat × List Value))))))) w22:=M'.perm (pullY ([(B17,[.int .i64 0,.int .i64 1,.int .i64 1,.int .i64 2]),(B15,[.int .i64 3,.int .i64 4]),(B13,[.int .i64 1])]:List (Nat × List Value)) ba4 (obs p22) ((obs p21)++((obs p16)++([]:List (Nat × List Value)))))
    clear M'; refine xeL ?_; refine xpL (.agg #[.int .i64 2,.int .i64 3]) ?_; have hlb:=(Below.refl w22.heap.size w22).alloc (xnR _) (.cells #[.int .i64 2,.int .i64 3] 38); refine actL (w':=w22.alloc (.cells #[.int .i64 2,.int .i64 3] 38)) (.slice (some ⟨w22.heap.size,0,none⟩) 1 1) rfl (by kernel_rfl) ?_; simp only [aP,lI,l0,lS]; replace hIa:=hK.bel hIa hlb
    replace W_16:=NewW.below W_16 hlb; replace W_21:=NewW.below W_21 hlb; replace W_22:=NewW.below W_22 hlb; replace M:=M.box #[.int .i64 2,.int .i64 3] 38 w22.heap.size rfl; clear hlb; generalize w22.alloc (.cells #[.int .i64 2,.int .i64 3] 38)=w23 at M hIa W_16 W_21 W_22 ⊢; generalize w22.heap.size=B23 at M ⊢
    replace M:Mm w0 ((B23,[.int .i64 2,.int .i64 3])::(B17,[.int .i64 0,.int .i64 1,.int .i64 1,.int .i64 2])::(B15,[.int .i64 3,.int .i64 4])::(B13,[.int .i64 1])::(ba4++((obs p22)++((obs p21)++((obs p16)++([]:List (Nat × List Value))))))) w23:=M
    have key:=same21_any ([(2,3)]) (by decide) _ _ p22 (some ⟨B23,0,none⟩) c22 1 w23 W_22 (M.newWt mS [(2,3)] rfl (by decide)); refine xcL key ?_; clear key; rintro e w24 ⟨rfl,l_⟩; replace M:=M.call l_; replace hIa:=hK.bel hIa l_; replace W_16:=NewW.below W_16 l_; replace W_21:=NewW.below W_21 l_; replace W_22:=NewW.below W_22 l_; clear l_; refine xeL ?_
    refine xpL (.bool true) ?_; refine xT ?_; go_upto_region 21 with fail; refine wp_region_list ?_; refine xpL (.int .i64 1) ?_; refine xaL (.bool true) (eqlI .i64 _ _ _ _ _ _ rfl rfl rfl true (by decide) _) ?_; refine xpL (.bool true) ?_; refine xpL (.int .i64 2) ?_; refine xaL (.bool true) (eqlI .i64 _ _ _ _ _ _ rfl rfl rfl true (by decide) _) ?_; refine xpL (.bool true) ?_
    refine xpL (.bool true) ?_; refine xpL (.int .i64 1) ?_; refine xaL (.bool true) (eqlI .i64 _ _ _ _ _ _ rfl rfl rfl true (by decide) _) ?_; refine xpL (.bool true) ?_; refine xpL (.bool true) ?_; refine xpL (.int .i64 5) ?_; refine xaL (.bool true) (eqlI .i64 _ _ _ _ _ _ rfl rfl rfl true (by decide) _) ?_; refine xpL (.bool true) ?_; refine xpL (.bool true) ?_; refine xpL (.bool false) ?_
    refine xpL (.bool true) ?_; refine xpL (.bool true) ?_; refine xpL (.bool true) ?_; refine xpL (.bool true) ?_; refine xpL (.bool true) ?_; refine xpL (.bool true) ?_; refine xpL (.int .i64 15) ?_; refine xaL (.bool true) (eqlI .i64 _ _ _ _ _ _ rfl rfl rfl true (by decide) _) ?_; refine xpL (.bool true) ?_; refine xpL (.bool true) ?_; refine xpL (.int .i64 1) ?_
    refine xaL (.bool true) (eqlI .i64 _ _ _ _ _ _ rfl rfl rfl true (by decide) _) ?_; refine xpL (.bool true) ?_; refine xpL (.bool true) ?_; refine xpL (.int .i64 3) ?_; refine xaL (.bool true) (eqlI .i64 _ _ _ _ _ _ rfl rfl rfl true (by decide) _) ?_; refine xpL (.bool true) ?_; refine xpL (.bool true) ?_; refine xpL (.slice p21 (([]:List (Int × Int)).length) c21) ?_
    refine readL (.int .i64 ((([]:List (Int × Int)).length:Nat):Int)) rfl (lenS _ 28 38 p21 (([]:List (Int × Int)).length) c21 rfl Try.underlying28 rfl _) ?_; simp only [aP,lI,l0,lS]; refine xaL (.bool true) (eqlI .i64 _ _ _ _ _ _ rfl rfl rfl true rfl _) ?_; refine xpL (.bool true) ?_; refine xpL (.bool true) ?_; refine xpL (.bool true) ?_; refine xpL (.bool true) ?_
    refine xpL (.bool true) ?_; refine xpL (.pointer (some ⟨Ra,0,none⟩)) ?_; have Mp:=M.perm (pull0 ([(B23,[.int .i64 2,.int .i64 3]),(B17,[.int .i64 0,.int .i64 1,.int .i64 1,.int .i64 2]),(B15,[.int .i64 3,.int .i64 4]),(B13,[.int .i64 1])]:List (Nat × List Value)) ba4 ((obs p22)++((obs p21)++((obs p16)++([]:List (Nat × List Value))))))
    have key:=hK.und w0 _ _ (zsc 1 zl) ba4 _ 1 (zsc_w (by decide) (by decide) zl_w) (show 2+(0+0)<1000000000 by decide) (by unfold i64; decide) hIa Mp; clear Mp
    rw [show sun (zsc 1 zl) 1=0 from rfl] at key
    refine xcL key ?_; clear key; rintro e w25 ⟨rfl,l_⟩; replace M:=M.call l_; replace hIa:=hK.bel hIa l_; replace W_16:=NewW.below W_16 l_; replace W_21:=NewW.below W_21 l_; replace W_22:=NewW.below W_22 l_; clear l_; refine xeL ?_; refine xaL (.bool true) (eqlI .i64 _ _ _ _ _ _ rfl rfl rfl true (by decide) _) ?_; refine xpL (.bool true) ?_; refine xpL (.bool true) ?_
    refine xpL (.pointer (some ⟨Ra,0,none⟩)) ?_; have Mp:=M.perm (pull0 ([(B23,[.int .i64 2,.int .i64 3]),(B17,[.int .i64 0,.int .i64 1,.int .i64 1,.int .i64 2]),(B15,[.int .i64 3,.int .i64 4]),(B13,[.int .i64 1])]:List (Nat × List Value)) ba4 ((obs p22)++((obs p21)++((obs p16)++([]:List (Nat × List Value))))))
    have key:=hK.win w0 _ _ (zsc 1 zl) ba4 _ 1 (zsc_w (by decide) (by decide) zl_w) (show 2+(0+0)<1000000000 by decide) (by unfold i64; decide) hIa Mp; clear Mp
    rw [show swn (zsc 1 zl) 1=2 from rfl] at key
    refine xcL key ?_; clear key; rintro e w26 ⟨rfl,l_⟩; replace M:=M.call l_; replace hIa:=hK.bel hIa l_; replace W_16:=NewW.below W_16 l_; replace W_21:=NewW.below W_21 l_; replace W_22:=NewW.below W_22 l_; clear l_; refine xeL ?_; refine xaL (.bool true) (eqlI .i64 _ _ _ _ _ _ rfl rfl rfl true (by decide) _) ?_; refine xpL (.bool true) ?_; refine xpL (.bool true) ?_; refine xT ?_
    have hbel:=M.below; clear M hIa W_16 W_21 W_22; go_wp2; go_ret
    exact ⟨rfl,hbel⟩
theorem idxR2E (ad:Addr) (len cap i:Nat) (sp:Option Addr) (hsp:sp=some ad) (hi:i<len) {o:Oper} {a:Act} (x y:Operand) (ho:o.op=.indexAddr 28 x y) (hx:a.eval x=.slice sp len cap) (hy:a.eval y=.int .i64 (i:Int)) (w:World):(execOp a.eval o).run Try.prog w=.ok (.value (.pointer (some (ad.add (i*2))))) w:=by
 subst hsp
 exact idxR2 ad len cap i hi x y ho hx hy w
structure Opv where
 k:Int
 d:Int
 n:Int
 m:Int
 r:List (Int × Int)
 a:List Int
 t:List Int
def Opc (v:Opv) (rp:Option Addr) (rc:Nat) (ap:Option Addr) (ac:Nat) (tp:Option Addr) (tc:Nat):List Value:=[.int .i64 v.k,.int .i64 v.d,.int .i64 v.n,.int .i64 v.m,.slice rp v.r.length rc,.slice ap v.a.length ac,.slice tp v.t.length tc]
structure OpV (w:World) (m:Nat) (v:Opv) (rp:Option Addr) (rc:Nat) (ap:Option Addr) (ac:Nat) (tp:Option Addr) (tc:Nat):Prop where
 k_i:i64 v.k
 d_i:i64 v.d
 n_i:i64 v.n
 m_i:i64 v.m
 r_in:RgW w v.r (.slice rp v.r.length rc)
 r_i:∀ x∈v.r,i64 x.1∧i64 x.2
 r_max:v.r.length≤m
 a_src:SrcI w ap v.a.length (bl v.a)
 a_le:v.a.length≤ac
 a_nil:ap=none→ac=0
 a_max:v.a.length≤m
 a_i:∀ x∈v.a,i64 x
 t_src:SrcI w tp v.t.length (bl v.t)
 t_le:v.t.length≤tc
 t_nil:tp=none→tc=0
 t_max:v.t.length≤m
 t_i:∀ x∈v.t,i64 x
def OpsIn (w:World) (m:Nat) (sp:Option Addr) (l:List Opv):Prop:=∀ j v,l[j]?=some v→∃ ad rp rc ap ac tp tc,sp=some ad∧(∀ k x,(Opc v rp rc ap ac tp tc)[k]?=some x→w.cell? ((ad.add (j*7)).add k)=some x)∧OpV w m v rp rc ap ac tp tc
theorem wrc_app21:∀ a b:List (Int × Int),wrc (a++b)=wrc a++wrc b
 | [],_=>rfl
 | (x,y)::a,b=>by
   show Value.int .i64 x::Value.int .i64 y::wrc (a++b)=_
   rw [wrc_app21 a b]
   rfl
theorem cellS21 {w w':World} (l:Below w.heap.size w w') {p:Addr} {u:Value} (h:w.cell? p=some u):w'.cell? p=some u:=by
 rw [l.cell (World.block_lt_of_cell? w _ h)]
 exact h
theorem idxO21 (ad:Addr) (len cap i:Nat) (hi:i<len) {o:Oper} {a:Act} (x y:Operand) (ho:o.op=.indexAddr 22 x y) (hx:a.eval x=.slice (some ad) len cap) (hy:a.eval y=.int .i64 (i:Int)) (w:World):(execOp a.eval o).run Try.prog w=.ok (.value (.pointer (some (ad.add (i*7))))) w :=
 idxSm 22 31 len cap 7 .i64 ad i x y Try.underlying22 (fun _=>by kernel_rfl) hi ho hx hy w
structure Dfl where
 n:Nat
 win:Nat
 top:Option Nat
 Z:List (Rcd × Option Addr × Nat)
 sr:Option Addr
 cr:Nat
def Dfl.f (d:Dfl):Flg:=⟨d.win,d.top,d.Z.map Prod.fst⟩
def dpl (L:List Dfl):List (Nat × Flg):=L.map fun d=>(d.n,d.f)
theorem dpl_len (L:List Dfl):(dpl L).length=L.length:=List.length_map ..
theorem dpl_app (A B:List Dfl):dpl (A++B)=dpl A++dpl B:=List.map_append
theorem dpl_cons (d:Dfl) (B:List Dfl):dpl (d::B)=(d.n,d.f)::dpl B:=rfl
def fc5 (n w t:Int) (b:Bool) (sr:Option Addr) (m cr:Nat):List Value:=[.int .i64 n,.int .i64 w,.int .i64 t,.bool b,.slice sr m cr]
def fc1 (d:Dfl):List Value:=fc5 (d.n:Int) (d.win:Int) ((d.top.getD 0:Nat):Int) d.top.isSome d.sr d.Z.length d.cr
def fcs (L:List Dfl):List Value:=L.flatMap fc1
theorem fcs_app (A B:List Dfl):fcs (A++B)=fcs A++fcs B:=List.flatMap_append
theorem fcs_cons (d:Dfl) (B:List Dfl):fcs (d::B)=fc1 d++fcs B:=List.flatMap_cons ..
theorem fcs_len:∀ L:List Dfl,(fcs L).length=L.length*5
 | []=>rfl
 | d::L=>by
   rw [fcs_cons,List.length_append,fcs_len L,List.length_cons]
   show 5+L.length*5=_
   omega
theorem mid_get {A B:List Dfl} {X:List Value} {j:Nat} {u:Value} (h:X[j]?=some u):(fcs A++(X++fcs B))[A.length*5+j]?=some u:=by
 have hj:=(List.getElem?_eq_some_iff.1 h).1
 rw [List.getElem?_append_right (by rw [fcs_len]; omega),fcs_len,show A.length*5+j-A.length*5=j by omega,List.getElem?_append_left hj,h]
theorem mid_set {A B:List Dfl} {X:List Value} {j:Nat} (hj:j<X.length) (u:Value):(fcs A++(X++fcs B)).set (A.length*5+j) u=fcs A++(X.set j u++fcs B):=by
 rw [List.set_append_right _ _ (by rw [fcs_len]; omega),fcs_len,show A.length*5+j-A.length*5=j by omega,List.set_append_left _ _ hj]
theorem fcs_split {L:List Dfl} {i:Nat} {d:Dfl} (h:L[i]?=some d):∃ A B,L=A++d::B∧A.length=i:=by
 obtain ⟨hi,he⟩:=List.getElem?_eq_some_iff.1 h
 refine ⟨L.take i,L.drop (i+1),?_,by rw [List.length_take]; omega⟩
 rw [← he,List.getElem_cons_drop,List.take_append_drop]
theorem fcs_get {L:List Dfl} {i:Nat} {d:Dfl} (h:L[i]?=some d) {j:Nat} {u:Value} (hu:(fc1 d)[j]?=some u):(fcs L)[i*5+j]?=some u:=by
 obtain ⟨A,B,rfl,rfl⟩:=fcs_split h
 rw [fcs_app,fcs_cons]
 exact mid_get hu
theorem fcs_one (L:List Dfl):∀ u∈fcs L,u.oneCell'=true:=fun u hu=>by
 obtain ⟨d,_,hd⟩:=List.mem_flatMap.1 hu
 unfold fc1 fc5 at hd
 simp only [List.mem_cons,List.not_mem_nil,or_false] at hd
 rcases hd with rfl | rfl | rfl | rfl | rfl <;> rfl
def rc1 (q:Rcd × Option Addr × Nat):List Value:=[.int .i64 ((q.1.c:Nat):Int),.int .i64 ((q.1.m:Nat):Int),.slice q.2.1 q.1.cs.length q.2.2]
def rcs (Z:List (Rcd × Option Addr × Nat)):List Value:=Z.flatMap rc1
theorem rcs_app (A B:List (Rcd × Option Addr × Nat)):rcs (A++B)=rcs A++rcs B:=List.flatMap_append
theorem rcs_cons (q:Rcd × Option Addr × Nat) (B:List (Rcd × Option Addr × Nat)):rcs (q::B)=rc1 q++rcs B:=List.flatMap_cons ..
theorem rcs_one1 (q:Rcd × Option Addr × Nat):rcs [q]=rc1 q:=by rw [rcs_cons]; exact List.append_nil _
theorem rcs_len:∀ Z:List (Rcd × Option Addr × Nat),(rcs Z).length=Z.length*3
 | []=>rfl
 | q::Z=>by
   rw [rcs_cons,List.length_append,rcs_len Z,List.length_cons]
   show 3+Z.length*3=_
   omega
theorem rcs_get:∀ {Z:List (Rcd × Option Addr × Nat)} {i:Nat} {q:Rcd × Option Addr × Nat},Z[i]?=some q→∀ {j:Nat} {u:Value},(rc1 q)[j]?=some u→(rcs Z)[i*3+j]?=some u
 | [],_,_,h,_,_,_=>by cases h
 | p::Z,0,q,h,j,u,hu=>by
   obtain rfl:p=q:=Option.some.inj h
   rw [rcs_cons,Nat.zero_mul,Nat.zero_add,List.getElem?_append_left (List.getElem?_eq_some_iff.1 hu).1]
   exact hu
 | p::Z,i+1,q,h,j,u,hu=>by
   rw [rcs_cons,List.getElem?_append_right (by show 3≤_; omega)]
   show (rcs Z)[(i+1)*3+j-3]?=_
   rw [show (i+1)*3+j-3=i*3+j by omega]
   exact rcs_get (Z:=Z) h hu
theorem rcs_one (Z:List (Rcd × Option Addr × Nat)):∀ u∈rcs Z,u.oneCell'=true:=fun u hu=>by
 obtain ⟨d,_,hd⟩:=List.mem_flatMap.1 hu
 unfold rc1 at hd
 simp only [List.mem_cons,List.not_mem_nil,or_false] at hd
 rcases hd with rfl | rfl | rfl <;> rfl
def Rks (w:World) (Z:List (Rcd × Option Addr × Nat)):Prop:=∀ q∈Z,RgW w q.1.cs (.slice q.2.1 q.1.cs.length q.2.2)
def gks (Z:List (Rcd × Option Addr × Nat)):List (Nat × List Value):=Z.flatMap fun q=>obs q.2.1
theorem gks_app (A B:List (Rcd × Option Addr × Nat)):gks (A++B)=gks A++gks B:=List.flatMap_append
theorem gks_cons (q:Rcd × Option Addr × Nat) (B:List (Rcd × Option Addr × Nat)):gks (q::B)=obs q.2.1++gks B:=List.flatMap_cons ..
theorem gks_mem {Z:List (Rcd × Option Addr × Nat)} {q:Rcd × Option Addr × Nat} (h:q∈Z) {b:Nat} (hb:b∈ob q.2.1):b∈(gks Z).map Prod.fst:=by
 refine List.mem_map.2 ⟨(b,[]),List.mem_flatMap.2 ⟨q,h,List.mem_map.2 ⟨b,hb,rfl⟩⟩,rfl⟩
theorem gks_sub {A B:List (Rcd × Option Addr × Nat)} (h:A.Sublist B):(gks A).Sublist (gks B):=by
 induction h with
 | slnil=>exact List.Sublist.refl _
 | cons a _ ih=>rw [gks_cons]; exact ih.trans (List.sublist_append_right _ _)
 | cons_cons a _ ih=>rw [gks_cons,gks_cons]; exact (List.Sublist.refl _).append ih
theorem Rks.off {w w':World} {Z:List (Rcd × Option Addr × Nat)} {X:List Nat} (h:Rks w Z) (o:Off X w w') (hX:∀ b∈X,b∉(gks Z).map Prod.fst):Rks w' Z:=fun q hq=>(h q hq).offB o fun b hb _ hm=>hX b hb (gks_mem hq hm)
theorem Rks.below {w w':World} {Z:List (Rcd × Option Addr × Nat)} (h:Rks w Z) (l:Below w.heap.size w w'):Rks w' Z:=fun q hq=>(h q hq).below l
theorem Rks.sub {w:World} {A B:List (Rcd × Option Addr × Nat)} (h:Rks w B) (hs:∀ q∈A,q∈B):Rks w A:=fun q hq=>h q (hs q hq)
def gd (d:Dfl):List (Nat × List Value):=obs d.sr++gks d.Z
def gf (L:List Dfl):List (Nat × List Value):=L.flatMap gd
theorem gf_app (A B:List Dfl):gf (A++B)=gf A++gf B:=List.flatMap_append
theorem gf_cons (d:Dfl) (B:List Dfl):gf (d::B)=gd d++gf B:=List.flatMap_cons ..
theorem gf_mem {L:List Dfl} {d:Dfl} (h:d∈L) {p:Nat × List Value} (hp:p∈gd d):p∈gf L:=List.mem_flatMap.2 ⟨d,h,hp⟩
structure DOK (w:World) (d:Dfl):Prop where
 V:w.ownsRow 0 74 3 (.slice d.sr d.Z.length d.cr) d.Z.length (rcs d.Z)
 K:Rks w d.Z
def AOK (w:World) (L:List Dfl):Prop:=∀ d∈L,DOK w d
theorem DOK.off {w w':World} {d:Dfl} {X:List Nat} (h:DOK w d) (o:Off X w w') (hX:∀ b∈X,b∉(gd d).map Prod.fst):DOK w' d:=by
 have e:(gd d).map Prod.fst=ob d.sr++(gks d.Z).map Prod.fst:=by unfold gd; rw [List.map_append,obs_fst]
 rw [e] at hX
 exact ⟨ownsRow_away h.V o fun b hb hm=>hX b hb (List.mem_append_left _ hm),h.K.off o fun b hb hm=>hX b hb (List.mem_append_right _ hm)⟩
theorem AOK.off {w w':World} {L:List Dfl} {X:List Nat} (h:AOK w L) (o:Off X w w') (hX:∀ b∈X,b∉(gf L).map Prod.fst):AOK w' L:=fun d hd=>(h d hd).off o fun b hb hm=>by
 obtain ⟨p,hp,e⟩:=List.mem_map.1 hm
 exact hX b hb (List.mem_map.2 ⟨p,gf_mem hd hp,e⟩)
theorem AOK.below {w w':World} {L:List Dfl} (h:AOK w L) (l:Below w.heap.size w w'):AOK w' L:=h.off (X:=[]) (Off.of_below l) fun _ hb=>by cases hb
theorem AOK.nil (w:World):AOK w []:=fun _ h=>by cases h
theorem AOK.mid {w:World} {A B:List Dfl} {d:Dfl} (h:AOK w (A++d::B)):DOK w d∧AOK w (A++B):=⟨h d (by simp),fun e he=>h e (by rcases List.mem_append.1 he with c | c <;> simp [c])⟩
theorem AOK.join {w:World} {A B:List Dfl} {d:Dfl} (h:DOK w d) (g:AOK w (A++B)):AOK w (A++d::B):=fun e he=>by
 rcases List.mem_append.1 he with c | c
 · exact g e (List.mem_append_left _ c)
 · rcases xc1 c with rfl | c
   · exact h
   · exact g e (List.mem_append_right _ c)
theorem row_some5 {w:World} {base n cap size:Nat} {e:TypeId} {sp:Option Addr} {xs:List Value} (V:w.ownsRow base e size (.slice sp n cap) n xs) (h:0<n):∃ g,sp=some ⟨g,0,none⟩:=by
 rcases V.2 with ⟨_,h0⟩ | ⟨g,c,cur,hv,_⟩
 · omega
 · injection hv with hv _ _
   exact ⟨g,hv⟩
theorem row_cell5 {w:World} {base:Nat} {e:TypeId} {size n g cap:Nat} {sp:Option Addr} {xs:List Value} (V:w.ownsRow base e size (.slice sp n cap) n xs) (hsp:sp=some ⟨g,0,none⟩) {j:Nat} {u:Value} (hu:xs[j]?=some u):w.cell? ⟨g,j,none⟩=some u:=by
 subst hsp
 have:=World.ownsRow.cells V (g:=g) rfl j u hu
 rw [Addr.add_mid,Nat.zero_add] at this
 exact this
theorem wrc_ap:∀ a b:List (Int × Int),wrc (a++b)=wrc a++wrc b
 | [],_=>rfl
 | q::a,b=>by show _::_::wrc (a++b)=_; rw [wrc_ap a b]; rfl
def sat:List Dfl→Int→Int
 | [],_=>-1
 | d::L,id=>if ((d.n:Nat):Int)=id then 0 else if sat L id<0 then -1 else sat L id+1
theorem sat_hit {A B:List Dfl} {d:Dfl} {id:Int} (hd:((d.n:Nat):Int)=id) (hA:∀ e∈A,((e.n:Nat):Int)≠id):sat (A++d::B) id=((A.length:Nat):Int):=by
 induction A with
 | nil=>show (if _ then _ else _)=_; rw [if_pos hd]; rfl
 | cons e A ih =>
   have:=ih fun x hx=>hA x (mT _ hx)
   show (if ((e.n:Nat):Int)=id then 0 else if sat (A++d::B) id<0 then -1 else sat (A++d::B) id+1)=_
   rw [if_neg (hA e mS),this,if_neg (by omega),List.length_cons]
   omega
theorem sat_miss {L:List Dfl} {id:Int} (h:∀ e∈L,((e.n:Nat):Int)≠id):sat L id=-1:=by
 induction L with
 | nil=>rfl
 | cons e A ih =>
   show (if ((e.n:Nat):Int)=id then 0 else _)=_
   rw [if_neg (h e mS),ih fun x hx=>h x (mT _ hx)]
   rfl
theorem sat_cases (L:List Dfl) (id:Int):(sat L id=-1∧sfd (dpl L) id=none∧∀ e∈L,((e.n:Nat):Int)≠id)∨∃ A d B,L=A++d::B∧((d.n:Nat):Int)=id∧(∀ e∈A,((e.n:Nat):Int)≠id)∧sat L id=((A.length:Nat):Int)∧sfd (dpl L) id=some d.f:=by
 induction L with
 | nil=>exact .inl ⟨rfl,rfl,fun _ h=>by cases h⟩
 | cons e L ih =>
   by_cases c:((e.n:Nat):Int)=id
   · refine .inr ⟨[],e,L,rfl,c,fun _ h=>(by cases h),sat_hit (A:=[]) c (fun _ h=>by cases h),?_⟩
     show (if ((e.n:Nat):Int)=id then some e.f else _)=_
     rw [if_pos c]
   · rcases ih with ⟨h1,h2,h3⟩ | ⟨A,d,B,h1,h2,h3,h4,h5⟩
     · refine .inl ⟨sat_miss fun x hx=>?_,?_,fun x hx=>?_⟩
       · rcases xc1 hx with rfl | hx
         · exact c
         · exact h3 x hx
       · show (if ((e.n:Nat):Int)=id then some e.f else sfd (dpl L) id)=_
         rw [if_neg c,h2]
       · rcases xc1 hx with rfl | hx
         · exact c
         · exact h3 x hx
     · have hA:∀ x∈e::A,((x.n:Nat):Int)≠id:=fun x hx=>by
        rcases xc1 hx with rfl | hx
        · exact c
        · exact h3 x hx
       refine .inr ⟨e::A,d,B,by rw [h1]; rfl,h2,hA,by rw [h1]; exact sat_hit (A:=e::A) h2 hA,?_⟩
       show (if ((e.n:Nat):Int)=id then some e.f else sfd (dpl L) id)=_
       rw [if_neg c,h5]
theorem sat_at {L:List Dfl} {i:Nat} {d:Dfl} {id:Int} (h:L[i]?=some d) (hd:((d.n:Nat):Int)=id) (hb:∀ j e,j<i→L[j]?=some e→((e.n:Nat):Int)≠id):sat L id=((i:Nat):Int):=by
 obtain ⟨A,B,rfl,rfl⟩:=fcs_split h
 refine sat_hit hd fun e he=>?_
 obtain ⟨j,hj,hje⟩:=List.mem_iff_getElem.1 he
 exact hb j e hj (by rw [List.getElem?_append_left hj,List.getElem?_eq_getElem hj,hje])
theorem sat_end {L:List Dfl} {id:Int} (hb:∀ j e,j<L.length→L[j]?=some e→((e.n:Nat):Int)≠id):sat L id=-1:=sat_miss fun e he=>by
 obtain ⟨j,hj,hje⟩:=List.mem_iff_getElem.1 he
 exact hb j e hj (by rw [List.getElem?_eq_getElem hj,hje])
theorem sput_mid {A B:List Dfl} {d d':Dfl} {id:Int} (hd:((d.n:Nat):Int)=id) (hn:d'.n=d.n) (hA:∀ e∈A,((e.n:Nat):Int)≠id):sput (dpl (A++d::B)) id d'.f=dpl (A++d'::B):=by
 induction A with
 | nil =>
   show (if ((d.n:Nat):Int)=id then (d.n,d'.f)::dpl B else _)=(d'.n,d'.f)::dpl B
   rw [if_pos hd,hn]
 | cons e A ih =>
   show (if ((e.n:Nat):Int)=id then _ else (e.n,e.f)::sput (dpl (A++d::B)) id d'.f)=(e.n,e.f)::dpl (A++d'::B)
   rw [if_neg (hA e mS),ih fun x hx=>hA x (mT _ hx)]
theorem sdel_mid {A B:List Dfl} {d:Dfl} {id:Int} (hd:((d.n:Nat):Int)=id) (hA:∀ e∈A,((e.n:Nat):Int)≠id):sdel (dpl (A++d::B)) id=dpl (A++B):=by
 induction A with
 | nil =>
   show (if ((d.n:Nat):Int)=id then dpl B else _)=dpl B
   rw [if_pos hd]
 | cons e A ih =>
   show (if ((e.n:Nat):Int)=id then _ else (e.n,e.f)::sdel (dpl (A++d::B)) id)=(e.n,e.f)::dpl (A++B)
   rw [if_neg (hA e mS),ih fun x hx=>hA x (mT _ hx)]
theorem run_append_opt {P:Program} {w:World} {base:Nat} {t ty e:TypeId} {z:Value} {bytes size n cap:Nat} {xs:List Value} {sp:Option Addr} (ht:P.underlying t=some (.slice e)) (he:Many P e z bytes size) (hzs:z.cells.size=size) (hs0:0<size) (h:w.ownsRow base e size (.slice sp n cap) n xs)
 (so:Option Addr) (m c:Nat) (news:List Value) (hl:news.length=m*size) (hnews:∀ j u,news[j]?=some u→∃ ad,so=some ad∧w.cell? (ad.add j)=some u) (h1c:∀ u∈news,u.oneCell'=true) (h63:n+m≤maxLen) (hb:(n+m)*bytes≤140737488355328) (hbase:base≤w.heap.size) :
 ∃ v' w',(Builtin.append_ #[t,t] ty #[.slice sp n cap,.slice so m c]).run P w=.ok v' w'∧w'.ownsRow base e size v' (n+m) (xs++news)∧w.grownBy w' (Value.slice sp n cap).ownBlock∧(∀ g,v'.ownBlock=some g→(Value.slice sp n cap).ownBlock=some g∨g=w.heap.size):=by
 cases so with
 | some ad=>exact run_append_OwnV ht he hzs hs0 h ad m c news hl (fun j u hu=>by obtain ⟨a,e1,e2⟩:=hnews j u hu; cases e1; exact e2) h1c h63 hb hbase
 | none =>
   have hn:news=[]:=by
    cases news with
    | nil=>rfl
    | cons u us=>obtain ⟨a,e1,_⟩:=hnews 0 u rfl; cases e1
   subst hn
   have hm:m=0:=by
    rcases Nat.eq_zero_or_pos m with h | h
    · exact h
    · have:=Nat.mul_pos h hs0
      rw [← hl] at this
      exact absurd this (Nat.lt_irrefl 0)
   subst hm
   obtain ⟨i,hi,hq⟩:=Option.map_eq_some_iff.1 he.info
   obtain ⟨sp',cap',hv,hle,_⟩:=row_form16 h
   injection hv with e1 _ e3
   subst e1; subst e3
   refine ⟨.slice sp n cap,w,?_,by rw [List.append_nil,Nat.add_zero]; exact h,World.grownBy.refl _ _,fun g hg=>.inl hg⟩
   cases sp <;> simp [Builtin.append_,run_underlying ht,sizeOf,typeInfo,hi,Builtin.lenOf,Builtin.firstCells,loadCells,hle,storeCells]
theorem cell21 {w w':World} (l:Below w.heap.size w w') {p:Addr} {u:Value} (h:w.cell? p=some u):w'.cell? p=some u:=by
 rw [l.cell (World.block_lt_of_cell? w _ h)]
 exact h
theorem idxF5 (g len cap i:Nat) (sp:Option Addr) (hsp:sp=some ⟨g,0,none⟩) (hi:i<len) {o:Oper} {a:Act} (x y:Operand) (ho:o.op=.indexAddr 56 x y) (hx:a.eval x=.slice sp len cap) (hy:a.eval y=.int .i64 (i:Int)) (w:World):(execOp a.eval o).run Try.prog w=.ok (.value (.pointer (some ⟨g,i*5,none⟩))) w:=by
 subst hsp; have h:=idxSm 56 66 len cap 5 .i64 ⟨g,0,none⟩ i x y Try.underlying56 (fun _=>by kernel_rfl) hi ho hx hy w
 rw [Addr.add_mid,Nat.zero_add] at h
 exact h
theorem idxR3d (g len cap i:Nat) (sp:Option Addr) (hsp:sp=some ⟨g,0,none⟩) (hi:i<len) {o:Oper} {a:Act} (x y:Operand) (ho:o.op=.indexAddr 64 x y) (hx:a.eval x=.slice sp len cap) (hy:a.eval y=.int .i64 (i:Int)) (w:World):(execOp a.eval o).run Try.prog w=.ok (.value (.pointer (some ⟨g,i*3,none⟩))) w:=by
 subst hsp; have h:=idxSm 64 74 len cap 3 .i64 ⟨g,0,none⟩ i x y Try.underlying64 (fun _=>by kernel_rfl) hi ho hx hy w
 rw [Addr.add_mid,Nat.zero_add] at h
 exact h
theorem dmom21_any (n:Int) (w:World) :
 Calls Try.prog 36 #[.int .i64 n] w fun e w'=>e=.returned (.int .i64 ((smom n:Nat):Int))∧Below w.heap.size w w':=by
 have M:=Mm.init w
 go_enter Try.func36,Try.ntmps36
 have hsm:=show Hid _ from (show ((smom n:Nat):Int)=max 0 (min n 1099511627776) by unfold smom; omega); go_upto_region 0 with fail; refine wp_region_list ?_; refine xpL (.int .i64 0) ?_; refine xT ?_; go_upto_region 1 with fail; refine wp_region_list ?_; refine xpL (.int .i64 n) ?_
 refine xaL (.int .i64 (min n 1099511627776)) (minI .i64 .i64 _ _ _ _ _ _ _ rfl rfl rfl (by split <;> omega) _) ?_; refine xaL (.int .i64 ((smom n:Nat):Int)) (maxI .i64 .i64 _ _ _ _ _ _ _ rfl rfl rfl (by have h_:=hsm.out; split <;> omega) _) ?_; refine xpL (.int .i64 ((smom n:Nat):Int)) ?_; refine xT ?_; have hbel:=M.below; clear M; go_wp2; go_ret
 exact ⟨rfl,hbel⟩
theorem dat21_any (w:World) (base R:Nat) (L:List Dfl) (sf:Option Addr) (cf:Nat) (hl:L.length<1000000000) (CR:w.cell? ⟨R,2,none⟩=some (.slice sf L.length cf)) (V:w.ownsRow base 66 5 (.slice sf L.length cf) L.length (fcs L)) (id:Int) :
 Calls Try.prog 30 #[.pointer (some ⟨R,0,none⟩),.int .i64 id] w fun e w'=>e=.returned (.int .i64 (sat L id))∧Below w.heap.size w w':=by
 have M:=Mm.init w
 go_enter Try.func30,Try.ntmps30
 go_upto_region 0 with fail; refine wp_region_list ?_; refine xpL (.int .i64 0) ?_; refine xT ?_; go_upto_region 1 with fail; refine wp_region_list ?_; refine xpL (.int .i64 0) ?_; refine xT ?_; clear M; go_wp2
 go_loopw [5] (fun v_ w'=>∃ i:Nat,i≤L.length∧v_=.int .i64 (i:Int)∧(∀ j e,j<i→L[j]?=some e→((e.n:Nat):Int)≠id)∧w=w') (fun v_ _=>L.length-(intOf v_).toNat)
 case atStart=>exact ⟨0,Nat.zero_le _,rfl,fun _ _ h=>absurd h (xnZ _),rfl⟩
 case round =>
  obtain ⟨i,hi,rfl,hb,rfl⟩:=hrel
  have M:=Mm.init w
  by_cases hil:i<L.length
  · obtain ⟨d,hd⟩:∃ d,L[i]?=some d:=⟨_,List.getElem?_eq_getElem hil⟩
    obtain ⟨g,hg⟩:=row_some5 V (by omega)
    go_upto_region 2 with fail; refine wp_region_list ?_; refine xpL (.int .i64 (i:Int)) ?_; refine xpL (.pointer (some ⟨R,0,none⟩)) ?_; refine xpL (.pointer (some ⟨R,0,none⟩)) ?_; refine xpL (.pointer (some ⟨R,2,none⟩)) ?_; refine xaL (.slice sf L.length cf) (load1 56 _ ⟨R,2,none⟩ _ rfl rfl (fun _=>by kernel_rfl) (CR)) ?_
    refine xaL (.int .i64 ((L.length:Nat):Int)) (lenS _ 56 66 sf L.length cf rfl Try.underlying56 rfl _) ?_; refine xaL (.bool true) (lssI .i64 _ _ _ _ _ _ rfl rfl rfl true (decide_eq_true (by omega)) _) ?_; refine xT ?_
    by_cases he:((d.n:Nat):Int)=id
    · go_upto_region 4 with fail
      refine wp_region_list ?_; refine xpL (.pointer (some ⟨R,0,none⟩)) ?_; refine xpL (.pointer (some ⟨R,0,none⟩)) ?_; refine xpL (.pointer (some ⟨R,2,none⟩)) ?_; refine xaL (.slice sf L.length cf) (load1 56 _ ⟨R,2,none⟩ _ rfl rfl (fun _=>by kernel_rfl) (CR)) ?_; refine xpL (.int .i64 (i:Int)) ?_
      refine xaL (.pointer (some ⟨g,i*5,none⟩)) (idxF5 g _ _ i sf hg (List.getElem?_eq_some_iff.1 hd).1 _ _ rfl rfl rfl _) ?_; refine xpL (.pointer (some ⟨g,i*5+0,none⟩)) ?_; refine xaL (.int .i64 ((d.n:Nat):Int)) (load1 3 _ ⟨g,i*5+0,none⟩ _ rfl rfl (fun _=>by kernel_rfl) (row_cell5 V hg (fcs_get hd rfl))) ?_; refine xpL (.int .i64 id) ?_
      refine xaL (.bool true) (eqlI .i64 _ _ _ _ _ _ rfl rfl rfl true (beq_iff_eq.2 he) _) ?_; refine xT ?_; go_upto_region 5 with fail; refine wp_region_list ?_; refine xpL (.int .i64 (i:Int)) ?_; refine xpL (.int .i64 (i:Int)) ?_; refine xT ?_; have hE:=show Hid _ from sat_at hd he hb; have hbel:=M.below; clear M; go_wp2; go_ret
      exact ⟨by rw [hE.out]; try rfl,hbel⟩
    · go_upto_region 4 with fail
      refine wp_region_list ?_; refine xpL (.pointer (some ⟨R,0,none⟩)) ?_; refine xpL (.pointer (some ⟨R,0,none⟩)) ?_; refine xpL (.pointer (some ⟨R,2,none⟩)) ?_; refine xaL (.slice sf L.length cf) (load1 56 _ ⟨R,2,none⟩ _ rfl rfl (fun _=>by kernel_rfl) (CR)) ?_; refine xpL (.int .i64 (i:Int)) ?_
      refine xaL (.pointer (some ⟨g,i*5,none⟩)) (idxF5 g _ _ i sf hg (List.getElem?_eq_some_iff.1 hd).1 _ _ rfl rfl rfl _) ?_; refine xpL (.pointer (some ⟨g,i*5+0,none⟩)) ?_; refine xaL (.int .i64 ((d.n:Nat):Int)) (load1 3 _ ⟨g,i*5+0,none⟩ _ rfl rfl (fun _=>by kernel_rfl) (row_cell5 V hg (fcs_get hd rfl))) ?_; refine xpL (.int .i64 id) ?_
      refine xaL (.bool false) (eqlI .i64 _ _ _ _ _ _ rfl rfl rfl false (beq_eq_false_iff_ne.2 he) _) ?_; refine xT ?_; clear M; go_wp2
      go_roundw
      case rel=>exact ⟨i+1,by omega,by go_num,fun j r hj hr=>by
       rcases Nat.lt_or_ge j i with h_ | h_
       · exact hb j r h_ hr
       · obtain rfl:j=i:=by omega
         rw [hd] at hr
         obtain rfl:=Option.some.inj hr
         exact he,by first | trivial | rfl⟩
      case measure=>simp [intOf]; omega
  · go_upto_region 2 with fail
    refine wp_region_list ?_; refine xpL (.int .i64 (i:Int)) ?_; refine xpL (.pointer (some ⟨R,0,none⟩)) ?_; refine xpL (.pointer (some ⟨R,0,none⟩)) ?_; refine xpL (.pointer (some ⟨R,2,none⟩)) ?_; refine xaL (.slice sf L.length cf) (load1 56 _ ⟨R,2,none⟩ _ rfl rfl (fun _=>by kernel_rfl) (CR)) ?_
    refine xaL (.int .i64 ((L.length:Nat):Int)) (lenS _ 56 66 sf L.length cf rfl Try.underlying56 rfl _) ?_; refine xaL (.bool false) (lssI .i64 _ _ _ _ _ _ rfl rfl rfl false (decide_eq_false (by omega)) _) ?_; refine xT ?_; go_upto_region 6 with fail; refine wp_region_list ?_; refine xpL (.int .i64 (-1)) ?_; refine xT ?_
    have hE:=show Hid _ from sat_end (id:=id) fun j r hj hr=>hb j r (by omega) hr; have hbel:=M.below; clear M; go_wp2; go_ret
    exact ⟨by rw [hE.out]; try rfl,hbel⟩
theorem dwin21_any (w:World) (base R:Nat) (L:List Dfl) (sf:Option Addr) (cf:Nat) (hl:L.length<1000000000) (CR:w.cell? ⟨R,2,none⟩=some (.slice sf L.length cf)) (V:w.ownsRow base 66 5 (.slice sf L.length cf) L.length (fcs L)) (s:Sch) (hs:s.L=dpl L) (id:Int) :
 Calls Try.prog 27 #[.pointer (some ⟨R,0,none⟩),.int .i64 id] w fun e w'=>e=.returned (.int .i64 ((swn s id:Nat):Int))∧Below w.heap.size w w':=by
 have M:=Mm.init w
 go_enter Try.func27,Try.ntmps27
 go_upto_region 0 with fail; refine wp_region_list ?_; refine xpL (.int .i64 0) ?_; refine xT ?_; go_upto_region 1 with fail; refine wp_region_list ?_; refine xpL (.pointer (some ⟨R,0,none⟩)) ?_; refine xpL (.int .i64 id) ?_; have key:=dat21_any w base R L sf cf hl CR V id; refine xcL key ?_; clear key; rintro e w1 ⟨rfl,l_⟩; replace M:=M.call l_; replace CR:=cell21 l_ CR
 replace V:=ownsRow_bel V l_; clear l_; refine xeL ?_; refine xpL (.int .i64 (sat L id)) ?_; refine xT ?_
 rcases sat_cases L id with ⟨h1,h2,h3⟩ | ⟨A,d,B,h1,h2,h3,h4,h5⟩
 · rw [h1]
   go_upto_region 2 with fail; refine wp_region_list ?_; refine xpL (.int .i64 (-1)) ?_; refine xaL (.bool true) (lssI .i64 _ _ _ _ _ _ rfl rfl rfl true (by decide) _) ?_; refine xT ?_; go_upto_region 3 with fail; refine wp_region_list ?_; refine xpL (.int .i64 0) ?_; refine xT ?_; have hE:=show Hid _ from (show swn s id=0 by unfold swn; rw [hs,h2]); have hbel:=M.below; clear M; go_wp2
   go_ret
   exact ⟨by rw [hE.out]; try rfl,hbel⟩
 · rw [h4]
   have h6:L[A.length]?=some d:=by rw [h1,List.getElem?_append_right (xnR _),Nat.sub_self]; rfl
   have h7:=(List.getElem?_eq_some_iff.1 h6).1
   obtain ⟨g,hg⟩:=row_some5 V (by omega)
   clear h1; go_upto_region 2 with fail; refine wp_region_list ?_; refine xpL (.int .i64 ((A.length:Nat):Int)) ?_; refine xaL (.bool false) (lssI .i64 _ _ _ _ _ _ rfl rfl rfl false (decide_eq_false (by omega)) _) ?_; refine xT ?_; go_upto_region 4 with fail; refine wp_region_list ?_; refine xpL (.pointer (some ⟨R,0,none⟩)) ?_; refine xpL (.pointer (some ⟨R,0,none⟩)) ?_
   refine xpL (.pointer (some ⟨R,2,none⟩)) ?_; refine xaL (.slice sf L.length cf) (load1 56 _ ⟨R,2,none⟩ _ rfl rfl (fun _=>by kernel_rfl) (CR)) ?_; refine xpL (.int .i64 ((A.length:Nat):Int)) ?_; refine xaL (.pointer (some ⟨g,A.length*5,none⟩)) (idxF5 g _ _ A.length sf hg (List.getElem?_eq_some_iff.1 h6).1 _ _ rfl rfl rfl _) ?_
   refine xpL (.pointer (some ⟨g,A.length*5+1,none⟩)) ?_; refine xaL (.int .i64 ((d.win:Nat):Int)) (load1 3 _ ⟨g,A.length*5+1,none⟩ _ rfl rfl (fun _=>by kernel_rfl) (row_cell5 V hg (fcs_get h6 rfl))) ?_; refine xpL (.int .i64 ((d.win:Nat):Int)) ?_; refine xT ?_
   have hE:=show Hid _ from (show swn s id=d.win by unfold swn; rw [hs,h5]; first | rfl | exact List.length_map ..); have hbel:=M.below; clear M; go_wp2; go_ret
   exact ⟨by rw [hE.out]; try rfl,hbel⟩
theorem dund21_any (w:World) (base R:Nat) (L:List Dfl) (sf:Option Addr) (cf:Nat) (hl:L.length<1000000000) (CR:w.cell? ⟨R,2,none⟩=some (.slice sf L.length cf)) (V:w.ownsRow base 66 5 (.slice sf L.length cf) L.length (fcs L)) (s:Sch) (hs:s.L=dpl L) (id:Int) :
 Calls Try.prog 29 #[.pointer (some ⟨R,0,none⟩),.int .i64 id] w fun e w'=>e=.returned (.int .i64 ((sun s id:Nat):Int))∧Below w.heap.size w w':=by
 have M:=Mm.init w
 go_enter Try.func29,Try.ntmps29
 go_upto_region 0 with fail; refine wp_region_list ?_; refine xpL (.int .i64 0) ?_; refine xT ?_; go_upto_region 1 with fail; refine wp_region_list ?_; refine xpL (.pointer (some ⟨R,0,none⟩)) ?_; refine xpL (.int .i64 id) ?_; have key:=dat21_any w base R L sf cf hl CR V id; refine xcL key ?_; clear key; rintro e w1 ⟨rfl,l_⟩; replace M:=M.call l_; replace CR:=cell21 l_ CR
 replace V:=ownsRow_bel V l_; clear l_; refine xeL ?_; refine xpL (.int .i64 (sat L id)) ?_; refine xT ?_
 rcases sat_cases L id with ⟨h1,h2,h3⟩ | ⟨A,d,B,h1,h2,h3,h4,h5⟩
 · rw [h1]
   go_upto_region 2 with fail; refine wp_region_list ?_; refine xpL (.int .i64 (-1)) ?_; refine xaL (.bool true) (lssI .i64 _ _ _ _ _ _ rfl rfl rfl true (by decide) _) ?_; refine xT ?_; go_upto_region 3 with fail; refine wp_region_list ?_; refine xpL (.int .i64 0) ?_; refine xT ?_; have hE:=show Hid _ from (show sun s id=0 by unfold sun; rw [hs,h2]); have hbel:=M.below; clear M; go_wp2
   go_ret
   exact ⟨by rw [hE.out]; try rfl,hbel⟩
 · rw [h4]
   have h6:L[A.length]?=some d:=by rw [h1,List.getElem?_append_right (xnR _),Nat.sub_self]; rfl
   have h7:=(List.getElem?_eq_some_iff.1 h6).1
   obtain ⟨g,hg⟩:=row_some5 V (by omega)
   clear h1; go_upto_region 2 with fail; refine wp_region_list ?_; refine xpL (.int .i64 ((A.length:Nat):Int)) ?_; refine xaL (.bool false) (lssI .i64 _ _ _ _ _ _ rfl rfl rfl false (decide_eq_false (by omega)) _) ?_; refine xT ?_; go_upto_region 4 with fail; refine wp_region_list ?_; refine xpL (.pointer (some ⟨R,0,none⟩)) ?_; refine xpL (.pointer (some ⟨R,0,none⟩)) ?_
   refine xpL (.pointer (some ⟨R,2,none⟩)) ?_; refine xaL (.slice sf L.length cf) (load1 56 _ ⟨R,2,none⟩ _ rfl rfl (fun _=>by kernel_rfl) (CR)) ?_; refine xpL (.int .i64 ((A.length:Nat):Int)) ?_; refine xaL (.pointer (some ⟨g,A.length*5,none⟩)) (idxF5 g _ _ A.length sf hg (List.getElem?_eq_some_iff.1 h6).1 _ _ rfl rfl rfl _) ?_
   refine xpL (.pointer (some ⟨g,A.length*5+4,none⟩)) ?_; refine xaL (.slice d.sr d.Z.length d.cr) (load1 64 _ ⟨g,A.length*5+4,none⟩ _ rfl rfl (fun _=>by kernel_rfl) (row_cell5 V hg (fcs_get h6 rfl))) ?_; refine xaL (.int .i64 ((d.Z.length:Nat):Int)) (lenS _ 64 74 d.sr d.Z.length d.cr rfl Try.underlying64 rfl _) ?_; refine xpL (.int .i64 ((d.Z.length:Nat):Int)) ?_
   refine xT ?_; have hE:=show Hid _ from (show sun s id=d.Z.length by unfold sun; rw [hs,h5]; first | rfl | exact List.length_map ..); have hbel:=M.below; clear M; go_wp2; go_ret
   exact ⟨by rw [hE.out]; try rfl,hbel⟩
theorem stl_more {n:Nat} {top:Int} {k:List (Int × Int)} {i:Nat} {p:Int × Int} (h:k[i]?=some p) (hp:p.1≤(n:Int)∧(n:Int)<p.2):stl n top k=true:=by
 unfold stl
 rw [Bool.or_eq_true]
 exact .inl (List.any_eq_true.2 ⟨p,List.mem_of_getElem? h,decide_eq_true hp⟩)
theorem stl_none {n:Nat} {top:Int} {k:List (Int × Int)} (h:∀ j p,j<k.length→k[j]?=some p→¬ (p.1≤(n:Int)∧(n:Int)<p.2)):stl n top k=((n:Int) == top):=by
 have e:(k.any fun r=>decide (r.1≤(n:Int)∧(n:Int)<r.2))=false:=by
  rw [Bool.eq_false_iff]
  intro c
  obtain ⟨p,hp,hq⟩:=List.any_eq_true.1 c
  obtain ⟨j,hj,hje⟩:=List.mem_iff_getElem.1 hp
  exact h j p hj (by rw [List.getElem?_eq_getElem hj,hje]) (of_decide_eq_true hq)
 unfold stl
 rw [e,Bool.false_or]
theorem dtold21_any (n:Nat) (top:Int) (k:List (Int × Int)) (sk:Option Addr) (ck:Nat) (hk:k.length<140737488355328) (w:World) (N:RgW w k (.slice sk k.length ck)) :
 Calls Try.prog 43 #[.int .i64 (n:Int),.int .i64 top,.slice sk k.length ck] w fun e w'=>e=.returned (.bool (stl n top k))∧Below w.heap.size w w':=by
 have M:=Mm.init w
 go_enter Try.func43,Try.ntmps43
 go_upto_region 0 with fail; refine wp_region_list ?_; refine xpL (.bool false) ?_; refine xT ?_; go_upto_region 1 with fail; refine wp_region_list ?_; refine xpL (.int .i64 0) ?_; refine xT ?_; clear M; go_wp2
 go_loopw [7] (fun v_ w'=>∃ i:Nat,i≤k.length∧v_=.int .i64 (i:Int)∧(∀ j p,j<i→k[j]?=some p→¬ (p.1≤(n:Int)∧(n:Int)<p.2))∧w=w') (fun v_ _=>k.length-(intOf v_).toNat)
 case atStart=>exact ⟨0,Nat.zero_le _,rfl,fun _ _ h=>absurd h (xnZ _),rfl⟩
 case round =>
  obtain ⟨i,hi,rfl,hb,rfl⟩:=hrel
  have M:=Mm.init w
  by_cases hil:i<k.length
  · go_upto_region 2 with fail
    refine wp_region_list ?_; refine xpL (.int .i64 (i:Int)) ?_; refine xpL (.slice sk k.length ck) ?_; refine xaL (.int .i64 ((k.length:Nat):Int)) (lenS _ 28 38 sk k.length ck rfl Try.underlying28 rfl _) ?_; refine xaL (.bool true) (lssI .i64 _ _ _ _ _ _ rfl rfl rfl true (decide_eq_true (by omega)) _) ?_; refine xT ?_
    obtain ⟨p,hp⟩:∃ p,k[i]?=some p:=⟨_,List.getElem?_eq_getElem hil⟩
    obtain ⟨adr,hadr,hc0,hc1⟩:=RgW.at N hp
    subst hadr
    by_cases h1:p.1≤(n:Int)
    · by_cases h2:(n:Int)<p.2
      · go_upto_region 4 with fail
        refine wp_region_list ?_; refine xpL (.int .i64 (n:Int)) ?_; refine xpL (.slice (some adr) k.length ck) ?_; refine xpL (.int .i64 (i:Int)) ?_; refine readL (.pointer (some (adr.add (i*2)))) rfl (idxR2 adr _ _ i hil _ _ rfl rfl rfl _) ?_; simp only [aP,lI,l0,lS]; refine xpL (.pointer (some ((adr.add (i*2)).add 0))) ?_
        refine xaL (.int .i64 p.1) (load1 3 _ ((adr.add (i*2)).add 0) _ rfl rfl (fun _=>by kernel_rfl) (hc0)) ?_; refine xaL (.bool true) (geqI .i64 _ _ _ _ _ _ rfl rfl rfl true (decide_eq_true (by omega)) _) ?_; refine xpL (.bool true) ?_; refine xpL (.int .i64 (n:Int)) ?_; refine xpL (.slice (some adr) k.length ck) ?_; refine xpL (.int .i64 (i:Int)) ?_
        refine readL (.pointer (some (adr.add (i*2)))) rfl (idxR2 adr _ _ i hil _ _ rfl rfl rfl _) ?_; simp only [aP,lI,l0,lS]; refine xpL (.pointer (some ((adr.add (i*2)).add 1))) ?_; refine xaL (.int .i64 p.2) (load1 3 _ ((adr.add (i*2)).add 1) _ rfl rfl (fun _=>by kernel_rfl) (hc1)) ?_; refine xaL (.bool true) (lssI .i64 _ _ _ _ _ _ rfl rfl rfl true (decide_eq_true (by omega)) _) ?_
        refine xpL (.bool true) ?_; refine xT ?_; go_upto_region 5 with fail; refine wp_region_list ?_; refine xpL (.bool true) ?_; refine xT ?_; have hE:=show Hid _ from stl_more (n:=n) (top:=top) hp (by omega); have hbel:=M.below; clear M; go_wp2; go_ret
        exact ⟨by rw [hE.out]; try rfl,hbel⟩
      · go_upto_region 4 with fail
        refine wp_region_list ?_; refine xpL (.int .i64 (n:Int)) ?_; refine xpL (.slice (some adr) k.length ck) ?_; refine xpL (.int .i64 (i:Int)) ?_; refine readL (.pointer (some (adr.add (i*2)))) rfl (idxR2 adr _ _ i hil _ _ rfl rfl rfl _) ?_; simp only [aP,lI,l0,lS]; refine xpL (.pointer (some ((adr.add (i*2)).add 0))) ?_
        refine xaL (.int .i64 p.1) (load1 3 _ ((adr.add (i*2)).add 0) _ rfl rfl (fun _=>by kernel_rfl) (hc0)) ?_; refine xaL (.bool true) (geqI .i64 _ _ _ _ _ _ rfl rfl rfl true (decide_eq_true (by omega)) _) ?_; refine xpL (.bool true) ?_; refine xpL (.int .i64 (n:Int)) ?_; refine xpL (.slice (some adr) k.length ck) ?_; refine xpL (.int .i64 (i:Int)) ?_
        refine readL (.pointer (some (adr.add (i*2)))) rfl (idxR2 adr _ _ i hil _ _ rfl rfl rfl _) ?_; simp only [aP,lI,l0,lS]; refine xpL (.pointer (some ((adr.add (i*2)).add 1))) ?_; refine xaL (.int .i64 p.2) (load1 3 _ ((adr.add (i*2)).add 1) _ rfl rfl (fun _=>by kernel_rfl) (hc1)) ?_
        refine xaL (.bool false) (lssI .i64 _ _ _ _ _ _ rfl rfl rfl false (decide_eq_false (by omega)) _) ?_; refine xpL (.bool false) ?_; refine xT ?_; clear M; go_wp2
        go_roundw
        case rel=>exact ⟨i+1,by omega,by go_num,fun j r hj hr=>by
         rcases Nat.lt_or_ge j i with h_ | h_
         · exact hb j r h_ hr
         · obtain rfl:j=i:=by omega
           rw [hp] at hr
           obtain rfl:=Option.some.inj hr
           omega,by first | trivial | rfl⟩
        case measure=>simp [intOf]; omega
    · go_upto_region 4 with fail
      refine wp_region_list ?_; refine xpL (.int .i64 (n:Int)) ?_; refine xpL (.slice (some adr) k.length ck) ?_; refine xpL (.int .i64 (i:Int)) ?_; refine readL (.pointer (some (adr.add (i*2)))) rfl (idxR2 adr _ _ i hil _ _ rfl rfl rfl _) ?_; simp only [aP,lI,l0,lS]; refine xpL (.pointer (some ((adr.add (i*2)).add 0))) ?_
      refine xaL (.int .i64 p.1) (load1 3 _ ((adr.add (i*2)).add 0) _ rfl rfl (fun _=>by kernel_rfl) (hc0)) ?_; refine xaL (.bool false) (geqI .i64 _ _ _ _ _ _ rfl rfl rfl false (decide_eq_false (by omega)) _) ?_; refine xpL (.bool false) ?_
      with_reducible refine skipL ?_ ?_
      · rfl
      simp only [aP,lI,l0,lS]
      with_reducible refine skipL ?_ ?_
      · rfl
      simp only [aP,lI,l0,lS]
      with_reducible refine skipL ?_ ?_
      · rfl
      simp only [aP,lI,l0,lS]
      with_reducible refine skipL ?_ ?_
      · rfl
      simp only [aP,lI,l0,lS]
      with_reducible refine skipL ?_ ?_
      · rfl
      simp only [aP,lI,l0,lS]
      with_reducible refine skipL ?_ ?_
      · rfl
      simp only [aP,lI,l0,lS]
      with_reducible refine skipL ?_ ?_
      · rfl
      simp only [aP,lI,l0,lS]; refine xpL (.bool false) ?_; refine xT ?_; clear M; go_wp2
      go_roundw
      case rel=>exact ⟨i+1,by omega,by go_num,fun j r hj hr=>by
       rcases Nat.lt_or_ge j i with h_ | h_
       · exact hb j r h_ hr
       · obtain rfl:j=i:=by omega
         rw [hp] at hr
         obtain rfl:=Option.some.inj hr
         omega,by first | trivial | rfl⟩
      case measure=>simp [intOf]; omega
  · go_upto_region 2 with fail
    refine wp_region_list ?_; refine xpL (.int .i64 (i:Int)) ?_; refine xpL (.slice sk k.length ck) ?_; refine xaL (.int .i64 ((k.length:Nat):Int)) (lenS _ 28 38 sk k.length ck rfl Try.underlying28 rfl _) ?_; refine xaL (.bool false) (lssI .i64 _ _ _ _ _ _ rfl rfl rfl false (decide_eq_false (by omega)) _) ?_; refine xT ?_; go_upto_region 6 with fail; refine wp_region_list ?_
    refine xpL (.int .i64 (n:Int)) ?_; refine xpL (.int .i64 top) ?_; refine xaL (.bool ((n:Int) == top)) (eqlI .i64 _ _ _ _ _ _ rfl rfl rfl ((n:Int) == top) rfl _) ?_; refine xpL (.bool ((n:Int) == top)) ?_; refine xT ?_; have hE:=show Hid _ from stl_none (top:=top) fun j r hj hr=>hb j r (by omega) hr; have hbel:=M.below; clear M; go_wp2; go_ret
    exact ⟨by rw [hE.out]; try rfl,hbel⟩
theorem sall_take {Z:List (Rcd × Option Addr × Nat)} {i:Nat} {q:Rcd × Option Addr × Nat} (h:Z[i]?=some q):sall ((Z.take (i+1)).map Prod.fst)=sall ((Z.take i).map Prod.fst)++q.1.cs:=by
 rw [List.take_add_one,h,List.map_append,sall_app]
 show _++sall [q.1]=_
 rw [sall_one]
theorem sall_part (Z:List (Rcd × Option Addr × Nat)) (i:Nat):(sall ((Z.take i).map Prod.fst)).length≤(sall (Z.map Prod.fst)).length:=sall_sub ((List.take_sublist i Z).map Prod.fst)
theorem dall21_any (base:Nat) (Z:List (Rcd × Option Addr × Nat)) (sr:Option Addr) (cr:Nat) (hz:Z.length<1000000000) (hs:(sall (Z.map Prod.fst)).length<1000000000) (w:World) (V:w.ownsRow base 74 3 (.slice sr Z.length cr) Z.length (rcs Z)) (K:Rks w Z) :
 Calls Try.prog 33 #[.slice sr Z.length cr] w fun e w'=>∃ sq cq,e=.returned (.slice sq (sall (Z.map Prod.fst)).length cq)∧w'.ownsRow w.heap.size 38 2 (.slice sq (sall (Z.map Prod.fst)).length cq) (sall (Z.map Prod.fst)).length (wrc (sall (Z.map Prod.fst)))∧Below w.heap.size w w':=by
 have M:=Mm.init w
 go_enter Try.func33,Try.ntmps33
 go_upto_region 0 with fail; refine wp_region_list ?_; refine xpL (.slice none 0 0) ?_; refine xT ?_; go_upto_region 1 with fail; refine wp_region_list ?_; refine xpL (.slice none 0 0) ?_; refine xT ?_; go_upto_region 2 with fail; refine wp_region_list ?_; refine xpL (.int .i64 0) ?_; refine xT ?_; clear M; go_wp2
 go_loopw [3,4] (fun o_ v_ w'=>∃ (i':Nat) (so:Option Addr) (co:Nat),i'≤Z.length∧o_=.slice so (sall ((Z.take i').map Prod.fst)).length co∧v_=.int .i64 (i':Int)∧w'.ownsRow w.heap.size 38 2 (.slice so (sall ((Z.take i').map Prod.fst)).length co) (sall ((Z.take i').map Prod.fst)).length (wrc (sall ((Z.take i').map Prod.fst)))∧Below w.heap.size w w') (fun _ v_ _=>Z.length-(intOf v_).toNat)
 case atStart=>exact ⟨0,none,0,Nat.zero_le _,rfl,rfl,World.ownsRow_nil w w.heap.size 38 2,Below.refl _ _⟩
 case round =>
  obtain ⟨i,so,co,hi,rfl,rfl,VO,hB⟩:=hrel
  replace V:=ownsRow_bel V hB; replace K:=K.below hB; have M:=(Mm.init w).call hB; have hpt:=sall_part Z i
  by_cases hil:i<Z.length
  · go_upto_region 3 with fail
    refine wp_region_list ?_; refine xpL (.int .i64 (i:Int)) ?_; refine xpL (.slice sr Z.length cr) ?_; refine xaL (.int .i64 ((Z.length:Nat):Int)) (lenS _ 64 74 sr Z.length cr rfl Try.underlying64 rfl _) ?_; refine xaL (.bool true) (lssI .i64 _ _ _ _ _ _ rfl rfl rfl true (decide_eq_true (by omega)) _) ?_; refine xT ?_
    obtain ⟨q,hq⟩:∃ q,Z[i]?=some q:=⟨_,List.getElem?_eq_getElem hil⟩
    obtain ⟨g,hg⟩:=row_some5 V (by omega)
    have hk:=K q (List.mem_of_getElem? hq); have hpt2:=sall_part Z (i+1)
    rw [sall_take hq,List.length_append] at hpt2
    go_upto_region 5 with fail; refine wp_region_list ?_; refine xpL (.slice so ((sall ((Z.take i).map Prod.fst)).length) co) ?_; refine xpL (.slice sr Z.length cr) ?_; refine xpL (.int .i64 (i:Int)) ?_; refine xaL (.pointer (some ⟨g,i*3,none⟩)) (idxR3d g _ _ i sr hg (List.getElem?_eq_some_iff.1 hq).1 _ _ rfl rfl rfl _) ?_; refine xpL (.pointer (some ⟨g,i*3+2,none⟩)) ?_
    refine xaL (.slice q.2.1 q.1.cs.length q.2.2) (load1 28 _ ⟨g,i*3+2,none⟩ _ rfl rfl (fun _=>by kernel_rfl) (row_cell5 V hg (rcs_get hq rfl))) ?_
    have hcl:∀ j u,(wrc q.1.cs)[j]?=some u→∃ ad,q.2.1=some ad∧wr.cell? (ad.add j)=some u:=fun j u hu=>by
     obtain ⟨_,_,e_,_,_,h_⟩:=hk
     injection e_ with e1_
     subst e1_
     exact h_ j u hu
    obtain ⟨v2,w9,hr,V2,hgr,hg2⟩:=run_append_opt (P:=Try.prog) (ty:=28) Try.underlying28 manyW rfl (by decide) VO q.2.1 q.1.cs.length q.2.2 (wrc q.1.cs) (wrc_len q.1.cs) hcl (wrc_one q.1.cs) (by unfold maxLen; omega) (by omega) hB.size
    have hB2:=hB.grown hgr hB.size (fun b_ hb_=>(World.ownsRow.lt VO b_ hb_).1)
    obtain ⟨sv,cv,rfl,_,_⟩:=row_form16 V2
    refine xaL _ (appendOp _ _ 28 _ _ _ rfl rfl rfl hr) ?_; clear hr hgr hg2 M VO V K hcl
    rw [← wrc_ap] at V2
    rw [← List.length_append] at V2 ⊢
    rw [← sall_take hq] at V2 ⊢
    refine xpL (.slice sv ((sall ((Z.take (i+1)).map Prod.fst)).length) cv) ?_; refine xT ?_; have HS:=show Hid _ from (And.intro V2 hB2); clear V2 hB2 hB; go_wp2
    go_roundw
    case rel=>exact ⟨i+1,sv,cv,by omega,rfl,by go_num,HS.out⟩
    case measure=>simp [intOf]; omega
  · go_upto_region 3 with fail
    refine wp_region_list ?_; refine xpL (.int .i64 (i:Int)) ?_; refine xpL (.slice sr Z.length cr) ?_; refine xaL (.int .i64 ((Z.length:Nat):Int)) (lenS _ 64 74 sr Z.length cr rfl Try.underlying64 rfl _) ?_; refine xaL (.bool false) (lssI .i64 _ _ _ _ _ _ rfl rfl rfl false (decide_eq_false (by omega)) _) ?_; refine xT ?_; go_upto_region 6 with fail; refine wp_region_list ?_
    refine xpL (.slice so ((sall ((Z.take i).map Prod.fst)).length) co) ?_; refine xpL (.slice so ((sall ((Z.take i).map Prod.fst)).length) co) ?_; refine xT ?_
    obtain rfl:i=Z.length:=by omega
    rw [List.take_length] at VO ⊢
    have HS:=show Hid _ from (And.intro VO hB); clear M VO hB V K; go_wp2; go_ret
    exact ⟨so,co,rfl,HS.out⟩
section
open Go.RowKit Go.MapKept Go.ChangeMaps Go.WideShapes
def heldR (v:Value):Option (DataW Value × List MemPlace):=some (.held v,[])
def IM (P:Program) (k:TypeId) (w:World) (b n:Nat) (f:Int→Option Value):Prop :=
 ∃ D:DataW Value,w.ownsMap P k heldR b n D∧∀ x,i64 x→Maps.has D (.int .i64 x)=(f x).isSome∧∀ d,D.atKey (.int .i64 x) d=((f x).map DataW.held).getD d
theorem wfI {x:Int} (h:i64 x):(Lit.int .i64 x).wf=true:=WalkArith.wf_i64 (by unfold i64 at h; omega)
theorem litNe {x y:Int} (h:y≠x):(Lit.int .i64 y)≠.int .i64 x:=fun e=>by injection e with _ e; exact h e
def iput (f:Int→Option Value) (x:Int) (v:Value):Int→Option Value:=fun y=>if y=x then some v else f y
theorem iput_same (f:Int→Option Value) (x:Int) (v:Value):iput f x v x=some v:=if_pos rfl
theorem iput_other {f:Int→Option Value} {x y:Int} {v:Value} (h:¬ y=x):iput f x v y=f y:=if_neg h
section
variable {P:Program} {k t e:TypeId} {w:World} {b n:Nat} {f:Int→Option Value}
theorem IM.made (P:Program) (k:TypeId) (w:World):IM P k (w.alloc (.map #[] 0)) w.heap.size 0 (fun _=>none) :=
 ⟨_,World.ownsMap_made w P k heldR,fun _ _=>⟨rfl,fun _=>rfl⟩⟩
theorem IM.mono (h:IM P k w b n f) {m:Nat} (hm:n≤m):IM P k w b m f:=let ⟨D,h,h2⟩:=h; ⟨D,h.mono hm,h2⟩
theorem IM.off {w':World} {X:List Nat} (h:IM P k w b n f) (o:Off X w w') (hb:b∉X):IM P k w' b n f:=by
 obtain ⟨D,⟨es,clock,h1,h2⟩,h3⟩:=h
 exact ⟨D,⟨es,clock,(o.blk b (Array.getElem?_eq_some_iff.1 h1).1 hb).trans h1,h2⟩,h3⟩
theorem IM.bel {w':World} (h:IM P k w b n f) (l:Below w.heap.size w w'):IM P k w' b n f:=h.off (X:=[]) (Off.of_below l) (fun hb=>by cases hb)
theorem IM.congr {g:Int→Option Value} (h:IM P k w b n f) (hg:∀ x,i64 x→f x=g x):IM P k w b n g:=by
 obtain ⟨D,h1,h2⟩:=h
 exact ⟨D,h1,fun x hx=>by rw [← hg x hx]; exact h2 x hx⟩
theorem IM.lookOk (h:IM P k w b n f) (hk:P.underlying k=some (.int .i64)) (ht:P.underlying t=some (.map k e)) {z:Value} (hz:(zeroValue e).run P w=.ok z w) {x:Int} (hx:i64 x):(Instr.lookup t (.map (some b)) (.int .i64 x) true).run P w=.ok (.tuple #[(f x).getD z,.bool (f x).isSome]) w:=by
 obtain ⟨D,h1,h2⟩:=h
 obtain ⟨v,ps,hr,hv⟩:=h1.look_ok (Maps.int_keyed hk) ht hz (show heldR z=some (.held z,[]) from rfl) (Maps.keyOf_int_mk hk (wfI hx))
 rw [hr,(h2 x hx).1]
 have e:=(h2 x hx).2 (.held z)
 unfold heldR at hv
 injection hv with hv
 injection hv with hv _
 rw [e] at hv
 cases hf:f x with
 | none=>rw [hf] at hv; injection hv with hv; rw [hv]; rfl
 | some u=>rw [hf] at hv; injection hv with hv; rw [hv]; rfl
theorem IM.put (h:IM P k w b n f) (hk:P.underlying k=some (.int .i64)) (ht:P.underlying t=some (.map k e)) (hn:n<maxLen) {x:Int} (hx:i64 x) (v:Value) :
 ∃ w',(Instr.mapUpdate t (.map (some b)) (.int .i64 x) v).run P w=.ok () w'∧IM P k w' b (n+1) (iput f x v)∧w.grownBy w' (some b):=by
 obtain ⟨D,h1,h2⟩:=h
 obtain ⟨w',hr,ho,hg⟩:=h1.update (Maps.int_keyed hk) ht hn (Maps.keyOf_int_mk hk (wfI hx)) (show heldR v=some (.held v,[]) from rfl)
 refine ⟨w',hr,⟨_,ho,fun y hy=>?_⟩,hg⟩
 by_cases c:y=x
 · subst c
   rw [iput_same]
   exact ⟨Maps.has_put_same h1.isMap (show WideAt.IsKeyLit (.int .i64 y) from trivial) _,fun d=>Maps.atKey_put_same h1.isMap (show WideAt.IsKeyLit (.int .i64 y) from trivial) _ d⟩
 · rw [iput_other c]
   exact ⟨(Maps.has_put_other (litNe c) _).trans (h2 y hy).1,fun d=>(Maps.atKey_put_other (litNe c) _ d).trans ((h2 y hy).2 d)⟩
def idel (f:Int→Option Value) (x:Int):Int→Option Value:=fun y=>if y=x then none else f y
theorem idel_same (f:Int→Option Value) (x:Int):idel f x x=none:=if_pos rfl
theorem idel_other {f:Int→Option Value} {x y:Int} (h:¬ y=x):idel f x y=f y:=if_neg h
theorem IM.del (h:IM P k w b n f) (hk:P.underlying k=some (.int .i64)) (ht:P.underlying t=some (.map k e)) {x:Int} (hx:i64 x) (ty:TypeId) :
 ∃ w',(Builtin.delete_ #[t,k] ty #[.map (some b),.int .i64 x]).run P w=.ok (.tuple #[]) w'∧IM P k w' b n (idel f x)∧w.grownBy w' (some b):=by
 obtain ⟨D,h1,h2⟩:=h
 obtain ⟨w',hr,ho,hg⟩:=h1.drop (Maps.int_keyed hk) ht (Maps.keyOf_int_mk hk (wfI hx)) ty
 refine ⟨w',hr,⟨_,ho,fun y hy=>?_⟩,hg.grown⟩
 by_cases c:y=x
 · subst c
   rw [idel_same]
   exact ⟨Maps.has_del_same,fun d=>Maps.atKey_del_same d⟩
 · rw [idel_other c]
   exact ⟨(Maps.has_del_other (litNe c)).trans (h2 y hy).1,fun d=>(Maps.atKey_del_other (litNe c) d).trans ((h2 y hy).2 d)⟩
end
section
variable {P:Program} {k t e:TypeId} {w:World} {b n:Nat} {f:Int→Option Value} {o:Oper} {a:Act}
end
theorem Mm.touch {w0 w w':World} {l:List (Nat × List Value)} {b:Nat} (M:Mm w0 ((b,[])::l) w) (g:w.grownBy w' (some b)):Mm w0 ((b,[])::l) w':=by
 have h:=M.tail.grownN g fun b' e=>by
  injection e with e
  subst e
  exact ⟨M.lo mS,fun p hp e=>(List.pairwise_cons.1 M.apart).1 p hp e.symm⟩
 exact h.addB (M.lo mS) (xnL (M.lt mS) g.size) fun p hp e=>(List.pairwise_cons.1 M.apart).1 p hp e.symm
theorem Off.touched {w w':World} {b:Nat} (g:w.grownBy w' (some b)):Off [b] w w':=(Off.refl [b] w).grown g fun b' e=>by
 injection e with e
 subst e
 exact .inl mS
end
section
open Go.RowKit Go.MapKept Go.ChangeMaps Go.WideShapes
def NS (w:World) (m:Option Nat) (n:Nat) (f:Int→Option Value):Prop:=match m with
 | none=>∀ x,f x=none
 | some b=>IM Try.prog 3 w b n f
def mbk (m:Option Nat):List (Nat × List Value):=match m with
 | none=>[]
 | some b=>[(b,[])]
theorem uk21:Try.prog.underlying 3=some (.int .i64):=Try.underlying3
theorem IM.boundL {P:Program} {k:TypeId} {w:World} {b n:Nat} {f:Int→Option Value} (h:IM P k w b n f) (hk:P.underlying k=some (.int .i64)) (K:List Int) (hf:∀ x,(f x).isSome=true→x∈K):IM P k w b K.length f:=by
 obtain ⟨D,ho,h2⟩:=h
 obtain ⟨L,hD,hp⟩:=ho.tidy (Maps.int_keyed hk)
 have h3:=fun x hx=>(h2 x hx).1
 obtain ⟨es,clock,hb,F,hs,hD'⟩:=ho
 refine ⟨D,⟨es,clock,hb,F,?_,hD'⟩,h2⟩
 have e1:L=(es.toList.map (WideElems.rg P k heldR)).foldr DataW.insert []:=by rw [hD] at hD'; injection hD'
 have e2:es.size=L.length:=by rw [e1,length_read]
 have hle:(L.map Prod.fst).length≤(K.map fun i:Int=>Lit.int .i64 i).length:=?_
 · rw [List.length_map,List.length_map] at hle
   omega
 refine List.Nodup.length_le_of_subset (List.pairwise_map.2 hp) fun l hl=>?_
 obtain ⟨p,hpm,rfl⟩:=List.mem_map.1 hl
 rw [e1] at hpm
 obtain ⟨x,hx,hpx⟩:=List.mem_map.1 (mem_sorted.1 hpm)
 obtain ⟨y,hy⟩:=F.reads x hx
 rw [WideElems.rg_of hy] at hpx
 subst hpx; have hkey:=WideElems.rd_key hy
 have hkm:mapKey P k x.key=some y.1:=by
  unfold keyOf at hkey
  rw [hk] at hkey
  exact hkey
 unfold mapKey at hkm
 rw [hk] at hkm
 cases hxk:x.key with
 | int q a =>
   rw [hxk] at hkm
   simp only [Option.ite_none_right_eq_some,Option.some.injEq] at hkm
   obtain ⟨⟨rfl,hw⟩,hy1⟩:=hkm
   have hi:i64 a:=by
    unfold i64
    simp [Lit.wf,IntKind.min,IntKind.max,IntKind.signed,IntKind.bits] at hw
    omega
   have hh:Maps.has D (.int .i64 a)=true:=by
    rw [hD,Maps.has_eq,List.any_eq_true]
    exact ⟨y,by rw [e1]; exact hpm,by rw [← hy1]; exact WideAt.sameKey_self (show WideAt.IsKeyLit (.int .i64 a) from trivial)⟩
   rw [h3 a hi] at hh
   exact List.mem_map.2 ⟨a,hf a hh,hy1⟩
 | _=>rw [hxk] at hkm; simp at hkm
section
variable {w:World} {m:Option Nat} {n:Nat} {f:Int→Option Value} {t e:TypeId}
theorem NS.off {w':World} {X:List Nat} (h:NS w m n f) (o:Off X w w') (hX:∀ p∈mbk m,p.1∉X):NS w' m n f:=by
 cases m with
 | none=>exact h
 | some b=>exact IM.off h o (hX (b,[]) mS)
theorem NS.below {w':World} (h:NS w m n f) (l:Below w.heap.size w w'):NS w' m n f:=h.off (X:=[]) (Off.of_below l) (fun _ _ hb=>by cases hb)
theorem NS.congr {g:Int→Option Value} (h:NS w m n f) (hg:∀ x,f x=g x):NS w m n g:=by
 obtain rfl:f=g:=funext hg
 exact h
theorem run_look_nil21 (ht:Try.prog.underlying t=some (.map 3 e)) {z:Value} (hz:(zeroValue e).run Try.prog w=.ok z w) (x:Int) :
 (Instr.lookup t (.map none) (.int .i64 x) true).run Try.prog w=.ok (.tuple #[z,.bool false]) w:=by
 unfold Instr.lookup
 have h1:∀ e,(Instr.checkKey e 10000 3 (.int .i64 x)).run Try.prog w=.ok () w:=fun e=>run_checkKey uk21 (show IsKey (.int .i64) (.int .i64 x) from rfl) e 9999
 have h2:(Instr.findKey 3 (.int .i64 x) []).run Try.prog w=.ok none w:=run_findKey uk21 rfl
 simp [run_underlying ht,h1,h2,hz,Result.andThen]
theorem NS.lookOk (h:NS w m n f) (ht:Try.prog.underlying t=some (.map 3 e)) {z:Value} (hz:(zeroValue e).run Try.prog w=.ok z w) {x:Int} (hx:i64 x):(Instr.lookup t (.map m) (.int .i64 x) true).run Try.prog w=.ok (.tuple #[(f x).getD z,.bool (f x).isSome]) w:=by
 cases m with
 | none=>rw [run_look_nil21 ht hz x,h x]; rfl
 | some b=>exact IM.lookOk h uk21 ht hz hx
variable {o:Oper} {a:Act}
theorem lookOk21 (h:NS w m n f) (ht:Try.prog.underlying t=some (.map 3 e)) (z:Value) (hz:∀ w,(zeroValue e).run Try.prog w=.ok z w) (x:Int) (hx:i64 x) (u:Value) (hu:(f x).getD z=u) (b:Bool) (hb:(f x).isSome=b) (m' y:Operand) (ho:o.op=.lookup t m' y true) (hm:a.eval m'=.map m) (hy:a.eval y=.int .i64 x) :
 (execOp a.eval o).run Try.prog w=.ok (.value (.tuple #[u,.bool b])) w:=by
 subst hu hb
 unfold execOp
 simp only [ho,hm,hy,Sem.run_bind,h.lookOk ht (hz w) hx,Result.andThen_ok,Sem.run_pure]
theorem eqlM21 (m:Option Nat) (t t' k e:TypeId) (x y:Operand) (b:Bool) (hb:m.isNone=b) (ho:o.op=.binOp .eql t x y t') (hx:a.eval x=.map m) (hy:a.eval y=.map none) (h:Try.prog.underlying t=some (.map k e)) (w:World):(execOp a.eval o).run Try.prog w=.ok (.value (.bool b)) w:=by
 subst hb
 unfold execOp
 simp only [ho,hx,hy,Sem.run_bind,eqGuard_at_map,run_eql_map_nil w t k e m h,Sem.run_pure,Result.andThen_ok]
theorem run_del_nil21 (ht:Try.prog.underlying t=some (.map 3 e)) (x:Int) (ty:TypeId):(Builtin.delete_ #[t,3] ty #[.map none,.int .i64 x]).run Try.prog w=.ok (.tuple #[]) w:=by
 have h1:∀ e,(Instr.checkKey e 10000 3 (.int .i64 x)).run Try.prog w=.ok () w:=fun e=>run_checkKey uk21 (show IsKey (.int .i64) (.int .i64 x) from rfl) e 9999
 simp [Builtin.delete_,run_underlying ht,h1,Result.andThen]
theorem NS.del (h:NS w m n f) (ht:Try.prog.underlying t=some (.map 3 e)) {x:Int} (hx:i64 x) (ty:TypeId):∃ w',(Builtin.delete_ #[t,3] ty #[.map m,.int .i64 x]).run Try.prog w=.ok (.tuple #[]) w'∧NS w' m n (idel f x)∧w.grownBy w' m:=by
 cases m with
 | none=>exact ⟨w,run_del_nil21 ht x ty,fun y=>by unfold idel; split; rfl; exact h y,World.grownBy.refl _ _⟩
 | some b =>
   obtain ⟨w',h1,h2,h3⟩:=IM.del h uk21 ht hx ty
   exact ⟨w',h1,h2,h3⟩
theorem delOp21 {w':World} {t k:TypeId} {p q x:Value} (m' y:Operand) (ho:o.op=.call { callee:=.builtin .delete,args:=#[m',y],argTypes:=#[t,k] }) (hm:a.eval m'=p) (hy:a.eval y=q) (hr:(Builtin.delete_ #[t,k] o.type #[p,q]).run Try.prog w=.ok x w'):(execOp a.eval o).run Try.prog w=.ok (.value x) w':=by
 simp [execOp,ho,resolve,invoke,builtin,hm,hy,hr]
theorem putOp21 {w':World} {t:TypeId} {p q v:Value} (m' y u:Operand) (ho:o.op=.mapUpdate t m' y u) (hm:a.eval m'=p) (hy:a.eval y=q) (hu:a.eval u=v) (hr:(Instr.mapUpdate t p q v).run Try.prog w=.ok () w'):(execOp a.eval o).run Try.prog w=.ok .skip w':=by
 unfold execOp
 simp only [ho,hm,hy,hu,Sem.run_bind,hr,Result.andThen_ok,Sem.run_pure]
end
theorem Mm.touch21 {w0 w w':World} {l:List (Nat × List Value)} {m:Option Nat} (M:Mm w0 (mbk m++l) w) (g:w.grownBy w' m):Mm w0 (mbk m++l) w':=by
 cases m with
 | none=>exact M.grownN g (fun b e=>by cases e)
 | some b=>exact Mm.touch M g
theorem Off.touched21 {w w':World} {m:Option Nat} (g:w.grownBy w' m):Off ((mbk m).map Prod.fst) w w':=by
 cases m with
 | none=>exact (Off.refl [] w).grown g fun b e=>by cases e
 | some b=>exact Off.touched g
theorem Mm.boxM21 {w0 w:World} {l:List (Nat × List Value)} (M:Mm w0 l w):Mm w0 ((w.heap.size,[])::l) (w.alloc (.map #[] 0)) :=
 (M.call ((Below.refl w.heap.size w).alloc (xnR _) _)).addB M.below.size (by simp) fun p hp e=>by
  have:=(M.rows p hp).2.2
  omega
def Pks (w:World) (Z:List (Rcd × Option Addr × Nat)):Prop:=∀ q∈Z,RgW w q.1.cs (.slice q.2.1 q.1.cs.length q.2.2)
theorem Pks.off {w w':World} {Z:List (Rcd × Option Addr × Nat)} {X:List Nat} (h:Pks w Z) (o:Off X w w') (hX:∀ b∈X,b∉(gks Z).map Prod.fst):Pks w' Z:=fun q hq=>(h q hq).offB o fun b hb _ hm=>hX b hb (gks_mem hq hm)
theorem Pks.below {w w':World} {Z:List (Rcd × Option Addr × Nat)} (h:Pks w Z) (l:Below w.heap.size w w'):Pks w' Z:=fun q hq=>(h q hq).below l
theorem Pks.sub {w:World} {A B:List (Rcd × Option Addr × Nat)} (h:Pks w B) (hs:∀ q∈A,q∈B):Pks w A:=fun q hq=>h q (hs q hq)
def pnx:Option Nat→Int
 | some t=>(t:Int)+1
 | none=>0
def ppc (d:Dfl):List Value:=[.int .i64 ((d.win:Nat):Int),.int .i64 (pnx d.top),.slice d.sr d.Z.length d.cr]
structure POK (w:World) (d:Dfl):Prop where
 V:w.ownsRow 0 72 3 (.slice d.sr d.Z.length d.cr) d.Z.length (rcs d.Z)
 K:Pks w d.Z
theorem POK.off {w w':World} {d:Dfl} {X:List Nat} (h:POK w d) (o:Off X w w') (h1:∀ b∈X,b∉ob d.sr) (h2:∀ b∈X,b∉(gks d.Z).map Prod.fst):POK w' d:=⟨ownsRow_away h.V o h1,h.K.off o h2⟩
theorem POK.below {w w':World} {d:Dfl} (h:POK w d) (l:Below w.heap.size w w'):POK w' d:=⟨ownsRow_bel h.V l,h.K.below l⟩
def dno:Dfl:=⟨0,0,none,[],none,0⟩
theorem dno_ok (w:World):POK w dno:=⟨World.ownsRow_nil w 0 72 3,fun _ h=>by cases h⟩
abbrev Pes:=List (Nat × Dfl)
def pfl (E:Pes):List Dfl:=E.map Prod.snd
def plk:Pes→Int→Option Nat
 | [],_=>none
 | e::E,x=>if ((e.2.n:Nat):Int)=x then some e.1 else plk E x
def pmf (E:Pes) (x:Int):Option Value:=(plk E x).map fun B=>.pointer (some ⟨B,0,none⟩)
def gpe (e:Nat × Dfl):List (Nat × List Value):=(e.1,ppc e.2)::obs e.2.sr
def gp (E:Pes):List (Nat × List Value):=E.flatMap gpe
theorem gp_app (A B:Pes):gp (A++B)=gp A++gp B:=List.flatMap_append
theorem gp_cons (e:Nat × Dfl) (B:Pes):gp (e::B)=gpe e++gp B:=List.flatMap_cons ..
theorem gp_mem {E:Pes} {e:Nat × Dfl} (h:e∈E) {p:Nat × List Value} (hp:p∈gpe e):p∈gp E:=List.mem_flatMap.2 ⟨e,h,hp⟩
theorem gp_mid (A B:Pes) (e:Nat × Dfl) (T:List (Nat × List Value)):(gp (A++e::B)++T).Perm (gpe e++(gp (A++B)++T)):=by
 rw [gp_app,gp_cons,gp_app]
 rw [List.append_assoc,List.append_assoc,List.append_assoc,← List.append_assoc,← List.append_assoc (gpe e)]
 exact List.perm_append_comm.append_right _
structure PIn (w:World) (s:Sch) (p:Int) (m:Option Nat) (E:Pes) (C:List (Nat × List Value)):Prop where
 pol:s.tu=decide (p=1)
 map:NS w m E.length (pmf E)
 lst:dpl (pfl E)=s.L
 ok:∀ e∈E,POK w e.2
 ck:∀ e∈E,∀ q∈gks e.2.Z,q∈C
def prc (s:Sch) (p:Int) (m:Option Nat):List Value:=[.int .i64 p,.int .u64 (s.last+1),.map m]
def pow (R:Nat) (s:Sch) (p:Int) (m:Option Nat) (E:Pes):List (Nat × List Value):=(R,prc s p m)::(mbk m++gp E)
theorem PIn.off {w w':World} {s:Sch} {p:Int} {m:Option Nat} {E:Pes} {C:List (Nat × List Value)} {X:List Nat} (h:PIn w s p m E C) (o:Off X w w') (h1:∀ q∈mbk m,q.1∉X) (h2:∀ b∈X,b∉(gp E).map Prod.fst) (h3:∀ b∈X,b∉C.map Prod.fst):PIn w' s p m E C :=
 ⟨h.pol,h.map.off o h1,h.lst,fun e he=>(h.ok e he).off o (fun b hb hm=>h2 b hb (List.mem_map.2 ⟨(b,[]),gp_mem he (mT _ (List.mem_map.2 ⟨b,hm,rfl⟩)),rfl⟩)) (fun b hb hm=>by
  obtain ⟨q,hq,e1⟩:=List.mem_map.1 hm
  exact h3 b hb (List.mem_map.2 ⟨q,h.ck e he q hq,e1⟩)),h.ck⟩
theorem PIn.below {w w':World} {s:Sch} {p:Int} {m:Option Nat} {E:Pes} {C:List (Nat × List Value)} (h:PIn w s p m E C) (l:Below w.heap.size w w'):PIn w' s p m E C:=h.off (X:=[]) (Off.of_below l) (fun _ _ hb=>by cases hb) (fun _ hb=>by cases hb) (fun _ hb=>by cases hb)
theorem PIn.more {w:World} {s:Sch} {p:Int} {m:Option Nat} {E:Pes} {C D:List (Nat × List Value)} (h:PIn w s p m E C) (hD:∀ q∈C,q∈D):PIn w s p m E D:=⟨h.pol,h.map,h.lst,h.ok,fun e he q hq=>hD q (h.ck e he q hq)⟩
def sgf (s:Sch) (id:Int):Flg:=(sfd s.L id).getD dno.f
def spx (s:Sch) (id:Int) (f:Flg):Sch:=match sfd s.L id with | some _=>{ s with L:=sput s.L id f } | none=>s
theorem sput_self:∀ {L:List (Nat × Flg)} {id:Int} {f:Flg},sfd L id=some f→sput L id f=L
 | [],_,_,h=>by cases h
 | q::L,id,f,h=>by
   unfold sfd at h
   unfold sput
   by_cases c:((q.1:Nat):Int)=id
   · rw [if_pos c] at h ⊢
     rw [← Option.some.inj h]
   · rw [if_neg c] at h ⊢
     rw [sput_self h]
theorem spx_self (s:Sch) (id:Int):spx s id (sgf s id)=s:=by
 unfold spx sgf
 split
 · next f hf=>rw [hf]; show { s with L:=sput s.L id f }=s; rw [sput_self hf]
 · rfl
theorem plk_cases (E:Pes) (id:Int):(plk E id=none∧sfd (dpl (pfl E)) id=none)∨∃ A B d F,E=A++(B,d)::F∧((d.n:Nat):Int)=id∧(∀ e∈pfl A,((e.n:Nat):Int)≠id)∧plk E id=some B∧sfd (dpl (pfl E)) id=some d.f:=by
 induction E with
 | nil=>exact .inl ⟨rfl,rfl⟩
 | cons e E ih =>
   by_cases c:((e.2.n:Nat):Int)=id
   · refine .inr ⟨[],e.1,e.2,E,rfl,c,fun _ h=>(by cases h),?_,?_⟩
     · show (if _ then _ else _)=_; rw [if_pos c]
     · show (if ((e.2.n:Nat):Int)=id then some e.2.f else _)=_; rw [if_pos c]
   · rcases ih with ⟨h1,h2⟩ | ⟨A,B,d,F,h1,h2,h3,h4,h5⟩
     · refine .inl ⟨?_,?_⟩
       · show (if ((e.2.n:Nat):Int)=id then some e.1 else plk E id)=_; rw [if_neg c,h1]
       · show (if ((e.2.n:Nat):Int)=id then some e.2.f else sfd (dpl (pfl E)) id)=_; rw [if_neg c,h2]
     · refine .inr ⟨e::A,B,d,F,by rw [h1]; rfl,h2,fun x hx=>?_,?_,?_⟩
       · rcases xc1 hx with rfl | hx
         · exact c
         · exact h3 x hx
       · show (if ((e.2.n:Nat):Int)=id then some e.1 else plk E id)=_; rw [if_neg c,h4]
       · show (if ((e.2.n:Nat):Int)=id then some e.2.f else sfd (dpl (pfl E)) id)=_; rw [if_neg c,h5]
theorem plk_mid {A F:Pes} {B:Nat} {d d':Dfl} (hn:d'.n=d.n) (x:Int):plk (A++(B,d')::F) x=plk (A++(B,d)::F) x:=by
 induction A with
 | nil =>
   show (if ((d'.n:Nat):Int)=x then _ else _)=if ((d.n:Nat):Int)=x then _ else _
   rw [hn]
 | cons e A ih =>
   show (if _ then _ else plk (A++(B,d')::F) x)=if _ then _ else plk (A++(B,d)::F) x
   rw [ih]
theorem sw21 {α:Type} (a b t:List α):(a++(b++t)).Perm (b++(a++t)):=by
 rw [← List.append_assoc,← List.append_assoc]
 exact List.perm_append_comm.append_right t
theorem perm21 {α:Type} (P D k g Y:List α) (r:α):(P++(D++(r::(k++(g++Y))))).Perm (r::(k++(P++(g++(D++Y))))):=by
 have h1:(D++((r::(k++g))++Y)).Perm ((r::(k++g))++(D++Y)):=sw21 D _ Y
 have h2:(P++((r::k)++(g++(D++Y)))).Perm ((r::k)++(P++(g++(D++Y)))):=sw21 P _ _
 have h3:(P++(D++(r::(k++(g++Y))))).Perm (P++((r::k)++(g++(D++Y)))):=by
  have:=h1.append_left P
  simpa [List.append_assoc] using this
 exact h3.trans h2
def Back (w:World) (s:Sch) (R:Nat) (p:Int) (m:Option Nat) (E:Pes) (T:List (Nat × List Value)) (id:Int) (B:Nat) (d:Dfl) (X:List (Nat × List Value)):Prop :=
 (∃ A F,E=A++(B,d)::F∧((d.n:Nat):Int)=id∧(∀ e∈pfl A,((e.n:Nat):Int)≠id)∧X=(R,prc s p m)::(mbk m++(gp (A++F)++T))) ∨
 (sfd s.L id=none∧d=dno∧w.heap.size≤B∧X=(R,prc s p m)::(mbk m++(gp E++T)))
theorem mem_bl {l:List (Nat × List Value)} {q:Nat × List Value} (h:q∈l):q.1∈l.map Prod.fst:=List.mem_map.2 ⟨q,h,rfl⟩
theorem Mm.apart2 {w0 w:World} {a b:List (Nat × List Value)} (M:Mm w0 (a++b) w):∀ x∈a.map Prod.fst,x∉b.map Prod.fst:=fun x hx hy=>by
 obtain ⟨p,hp,rfl⟩:=List.mem_map.1 hx
 obtain ⟨q,hq,e⟩:=List.mem_map.1 hy
 exact (List.pairwise_append.1 M.apart).2.2 p hp q hq e.symm
theorem Off.and21 {X Y:List Nat} {w w1 w2:World} (h:Off X w w1) (g:Off Y w1 w2) (hY:∀ b∈Y,b∈X∨w.heap.size≤b):Off X w w2 :=
 ⟨xnT h.size g.size,fun b hb hX=>(g.blk b (xnL hb h.size) fun e=>(hY b e).elim hX fun h'=>by omega).trans (h.blk b hb hX)⟩
theorem Back.close {w0 w w' w2:World} {s:Sch} {R:Nat} {p:Int} {m:Option Nat} {E:Pes} {C l X:List (Nat × List Value)} {id:Int} {B:Nat} {d d':Dfl} (hI:PIn w s p m E C) (h:Back w s R p m E (C++l) id B d X) (hM:Mm w0 ((B,ppc d)::(obs d.sr++X)) w') (lb:Below w.heap.size w w') (o:Off (B::ob d.sr) w' w2)
 (hn:d'.n=d.n) (hP:POK w2 d') {C' D:List (Nat × List Value)} (M:Mm w0 ((B,ppc d')::(obs d'.sr++(D++X))) w2) (hc:∀ q∈gks d'.Z,q∈C') (hcc:∀ q∈C,q∈C') :
 ∃ E',PIn w2 (spx s id d'.f) p m E' C'∧Mm w0 (pow R s p m E'++(D++(C++l))) w2∧Off ((pow R s p m E).map Prod.fst) w w2:=by
 have hI':=hI.below lb
 have ha:∀ x∈B::ob d.sr,x∉X.map Prod.fst:=fun x hx=>by
  refine Mm.apart2 (a:=(B,ppc d)::obs d.sr) hM x ?_
  rw [List.map_cons,obs_fst]
  exact hx
 rcases h with ⟨A,F,rfl,hid,hA,rfl⟩ | ⟨hs,rfl,hB,rfl⟩
 · have hsd:sfd s.L id=some d.f:=by
    rw [← hI.lst]
    have e:pfl (A++(B,d)::F)=pfl A++d::pfl F:=by unfold pfl; rw [List.map_append,List.map_cons]
    rw [e]
    rcases sat_cases (pfl A++d::pfl F) id with ⟨_,_,h3⟩ | ⟨A2,d2,B2,h1,h2,h3,h4,h5⟩
    · exact absurd hid (h3 d (by simp))
    · have h6:=sat_hit (B:=pfl F) hid hA
      rw [h4] at h6
      have h7:A2.length=(pfl A).length:=by omega
      obtain ⟨_,h8⟩:=List.append_inj h1 h7.symm
      injection h8 with h8 _
      rw [h5,h8]
   have ho:∀ e∈A++F,POK w2 e.2:=fun e he=>by
    have he':e∈A++(B,d)::F:=by
     rcases List.mem_append.1 he with h | h
     · exact List.mem_append_left _ h
     · exact List.mem_append_right _ (mT _ h)
    refine (hI'.ok e he').off o (fun b hb hm=>ha b hb ?_) (fun b hb hm=>ha b hb ?_)
    · exact mem_bl (q:=(b,[])) (mT _ (List.mem_append_right _ (List.mem_append_left _ (gp_mem he (mT _ (List.mem_map.2 ⟨b,hm,rfl⟩))))))
    · obtain ⟨q,hq,rfl⟩:=List.mem_map.1 hm
      exact mem_bl (mT _ (List.mem_append_right _ (List.mem_append_right _ (List.mem_append_left _ (hI.ck e he' q hq)))))
   refine ⟨A++(B,d')::F,⟨?_,?_,?_,fun e he=>?_,fun e he q hq=>?_⟩,?_,?_⟩
   · show (spx s id d'.f).tu=_
     unfold spx
     rw [hsd]
     exact hI.pol
   · have e1:(A++(B,d')::F).length=(A++(B,d)::F).length:=by simp
     rw [e1]
     refine (hI'.map.off o fun q hq hm=>ha q.1 hm (mem_bl (mT _ (List.mem_append_left _ hq)))).congr fun x=>?_
     unfold pmf
     rw [plk_mid hn]
   · unfold spx
     rw [hsd]
     show dpl (pfl (A++(B,d')::F))=sput s.L id d'.f
     rw [← hI.lst]
     have e1:∀ x:Dfl,pfl (A++(B,x)::F)=pfl A++x::pfl F:=fun x=>by unfold pfl; rw [List.map_append,List.map_cons]
     rw [e1,e1,sput_mid hid hn hA]
   · rcases List.mem_append.1 he with h | h
     · exact ho e (List.mem_append_left _ h)
     · rcases xc1 h with rfl | h
       · exact hP
       · exact ho e (List.mem_append_right _ h)
   · rcases List.mem_append.1 he with h | h
     · exact hcc q (hI.ck e (List.mem_append_left _ h) q hq)
     · rcases xc1 h with rfl | h
       · exact hc q hq
       · exact hcc q (hI.ck e (List.mem_append_right _ (mT _ h)) q hq)
   · refine M.perm ?_
     have h1:=perm21 ((B,ppc d')::obs d'.sr) D (mbk m) (gp (A++F)) (C++l) (R,prc s p m); have h2:=(gp_mid A F (B,d') (D++(C++l))).symm; have h3:=(h2.append_left (mbk m)).cons (R,prc s p m); have h4:=h1.trans h3
     unfold pow
     simpa [List.append_assoc] using h4
   · refine (Off.of_below lb).trans (o.mono fun b hb=>?_)
     have hm:(B,d)∈A++(B,d)::F:=by simp
     rcases xc1 hb with rfl | hb
     · exact mem_bl (q:=(b,ppc d)) (mT _ (List.mem_append_right _ (gp_mem hm mS)))
     · exact mem_bl (q:=(b,[])) (mT _ (List.mem_append_right _ (gp_mem hm (mT _ (List.mem_map.2 ⟨b,hb,rfl⟩)))))
 · have e0:spx s id d'.f=s:=by unfold spx; rw [hs]
   rw [e0]
   refine ⟨E,?_,?_,?_⟩
   · refine PIn.more (hI'.off o (fun q hq hm=>ha q.1 hm (mem_bl (mT _ (List.mem_append_left _ hq)))) (fun b hb hm=>?_) (fun b hb hm=>?_)) hcc
     · obtain ⟨q,hq,rfl⟩:=List.mem_map.1 hm
       exact ha q.1 hb (mem_bl (mT _ (List.mem_append_right _ (List.mem_append_left _ hq))))
     · obtain ⟨q,hq,rfl⟩:=List.mem_map.1 hm
       exact ha q.1 hb (mem_bl (mT _ (List.mem_append_right _ (List.mem_append_right _ (List.mem_append_left _ hq)))))
   · have h1:=(M.sub _ (List.sublist_append_right ((B,ppc d')::obs d'.sr) _)).perm (perm21 [] D (mbk m) (gp E) (C++l) (R,prc s p m))
     unfold pow
     simpa [List.append_assoc] using h1
   · refine Off.and21 (Off.of_below lb) o fun b hb=>?_
     rcases xc1 hb with rfl | hb
     · exact .inr hB
     · cases hb
theorem single_le_sum21 {l:List Nat} {x:Nat} (h:x∈l):x≤l.sum:=by
 induction l with
 | nil=>cases h
 | cons a l ih =>
   rw [List.sum_cons]
   rcases xc1 h with rfl | h
   · omega
   · have:=ih h; omega
theorem Back.mem {w:World} {s:Sch} {R:Nat} {p:Int} {m:Option Nat} {E:Pes} {T X:List (Nat × List Value)} {id:Int} {B:Nat} {d:Dfl} (h:Back w s R p m E T id B d X) {q:Nat × List Value} (hq:q∈T):q∈X:=by
 rcases h with ⟨A,F,_,_,_,rfl⟩ | ⟨_,_,_,rfl⟩
 · exact mT _ (List.mem_append_right _ (List.mem_append_right _ hq))
 · exact mT _ (List.mem_append_right _ (List.mem_append_right _ hq))
theorem Mm.fetch21 {w0 w:World} {s:Sch} {R:Nat} {p:Int} {m:Option Nat} {A F:Pes} {B:Nat} {d:Dfl} {T:List (Nat × List Value)} (M:Mm w0 (pow R s p m (A++(B,d)::F)++T) w):Mm w0 ((B,ppc d)::(obs d.sr++((R,prc s p m)::(mbk m++(gp (A++F)++T))))) w:=by
 refine M.perm ?_; have h1:=perm21 ((B,ppc d)::obs d.sr) [] (mbk m) (gp (A++F)) T (R,prc s p m); have h2:=(gp_mid A F (B,d) T).symm; have h3:=(h2.append_left (mbk m)).cons (R,prc s p m); have h4:=(h1.trans h3).symm
 unfold pow
 simpa [List.append_assoc] using h4
theorem sgf_len {s:Sch} (id:Int):(sgf s id).rs.length+(sall (sgf s id).rs).length≤ssz s:=by
 unfold sgf
 cases h:sfd s.L id with
 | none=>exact Nat.zero_le _
 | some f =>
   obtain ⟨k,_,hk⟩:=sfd_mem h
   have h1:fsz f≤(s.L.map fun q=>fsz q.2).sum:=by
    have:=single_le_sum21 (l:=s.L.map fun q=>fsz q.2) (List.mem_map.2 ⟨(k,f),hk,rfl⟩)
    exact this
   show fsz f≤_
   unfold ssz
   omega
structure FlgW0 (f:Flg):Prop where
 w2:f.win≤32
 rc:∀ r∈f.rs,r.c≤281474976710655∧r.m≤1099511627776∧∀ p∈r.cs,i64 p.1∧i64 p.2
 up:f.rs.Pairwise fun a b=>a.c<b.c
 t1:∀ t,f.top=some t→t≤281474976710655
theorem sgf_w {s:Sch} (h:SchW s) (id:Int):FlgW0 (sgf s id):=by
 unfold sgf
 cases e:sfd s.L id with
 | none=>exact ⟨Nat.zero_le _,(fun _ h=>by cases h),List.Pairwise.nil,(fun _ h=>by cases h)⟩
 | some f=>have:=sfd_w h e; exact ⟨this.w2,this.rc,this.up,this.t1⟩
theorem swn_is (s:Sch) (id:Int):swn s id=(sgf s id).win:=by unfold swn sgf; cases sfd s.L id <;> rfl
theorem sun_is (s:Sch) (id:Int):sun s id=(sgf s id).rs.length:=by unfold sun sgf; cases sfd s.L id <;> rfl
theorem prc_spx (s:Sch) (id:Int) (f:Flg) (p:Int) (m:Option Nat):prc (spx s id f) p m=prc s p m:=by unfold spx; cases sfd s.L id <;> rfl
theorem pow_spx (R:Nat) (s:Sch) (id:Int) (f:Flg) (p:Int) (m:Option Nat) (E:Pes):pow R (spx s id f) p m E=pow R s p m E:=by unfold pow; rw [prc_spx]
theorem PIn.len {w:World} {s:Sch} {p:Int} {m:Option Nat} {E:Pes} {C:List (Nat × List Value)} (h:PIn w s p m E C):E.length≤ssz s:=by
 have h1:=congrArg List.length h.lst
 rw [dpl_len] at h1
 unfold pfl at h1
 rw [List.length_map] at h1
 unfold ssz
 omega
end
end Go.Proofs.Ytmedjdadhmdpgaa
