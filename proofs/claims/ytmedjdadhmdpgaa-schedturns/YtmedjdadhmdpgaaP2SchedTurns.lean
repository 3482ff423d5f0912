/- Texts of Ad Af Nv Ag LawSchedTurns Aj Ak Mi, joined. -/
import Derived.Test.YtmedjdadhmdpgaaP1SchedTurns
import Derived.Maps.Range
set_option maxRecDepth 20000
set_option maxHeartbeats 64000000
namespace Go.Proofs.Ytmedjdadhmdpgaa
open Go.RowKit
theorem Mm.srcI {w0 w:World} {l:List (Nat × List Value)} (h:Mm w0 l w) {b:Nat} {cs:List Value} (hp:(b,cs)∈l) (bs:List Int) (hc:cs=bs.map (Value.int .i64)):SrcI w (some ⟨b,0,none⟩) bs.length (bl bs):=fun j hj=>⟨_,rfl,by
 rw [Addr.add_mid,Nat.zero_add]
 refine h.get hp j _ ?_
 rw [hc,List.getElem?_map,List.getElem?_eq_getElem hj]
 unfold bl
 rw [List.getD_eq_getElem?_getD,List.getElem?_eq_getElem hj]
 rfl⟩
def zsc (k:Int) (f:Flg):Sch:=⟨true,k,[(1,f),(2,flg0)]⟩
theorem zsc_w {k:Int} {f:Flg} (h1:-1≤k) (h2:k<9223372036854775808) (hf:FlgW f):SchW (zsc k f) :=
 ⟨(show ([1,2]:List Nat).Nodup by decide),fun q hq=>by
  rcases xc1 hq with rfl | hq
  · exact hf
  · obtain rfl:=xm1 hq; exact flg0_w,fun q hq=>by
  rcases xc1 hq with rfl | hq
  · show 1<9223372036854775808; decide
  · obtain rfl:=xm1 hq; show 2<9223372036854775808; decide,h1,h2⟩
def zr (i:Nat):Rcd:=⟨i,10,[((i:Int),(i:Int)+1)]⟩
def zf:Nat→Flg
 | 0=>flg0
 | j+1=>{ zf j with top:=some j,rs:=(zf j).rs++[zr j] }
theorem zf_top:∀ j,(zf j).top=(match j with | 0=>none | k+1=>some k)
 | 0=>rfl
 | _+1=>rfl
theorem zf_may (j:Nat) (hj:j<5):smay (zf j) (j:Int)=true:=by
 unfold smay
 rw [decide_eq_true (by omega),zf_top]
 cases j with
 | zero=>rfl
 | succ k=>simp; omega
theorem zr_in (j:Nat) (hj:j<5):∀ p∈[((j:Int),(j:Int)+1)],i64 p.1∧i64 p.2:=fun p hp=>by
 obtain rfl:=xm1 hp
 unfold i64
 simp only
 omega
theorem zf_w:∀ j,j≤5→FlgW (zf j)
 | 0,_=>flg0_w
 | j+1,h=>sent_w (zf_w j (by omega)) (zf_may j (by omega)) 10 (zr_in j (by omega))
theorem zsc_sent (j:Nat) (hj:j<5):ssn (zsc 1 (zf j)) 1 (j:Int) 10 [((j:Int),(j:Int)+1)]=zsc 1 (zf (j+1)):=by
 show (if smay (zf j) (j:Int)=true then _ else _)=_
 rw [if_pos (zf_may j hj)]
 rfl
theorem zf_sz:∀ j,fsz (zf j)=2*j
 | 0=>rfl
 | j+1=>by
   have h1:=fsz_app (zf j) (some j) (zr j); have h2:=zf_sz j
   show fsz { zf j with top:=some j,rs:=(zf j).rs++[zr j] }=_
   rw [h1,h2]
   show 2*j+1+1=_
   omega
def zg:Flg:=⟨3,some 4,[zr 2]⟩
def zl:Flg:=⟨2,some 4,[]⟩
theorem zg_w:FlgW zg:=⟨by decide,by decide,fun r hr=>by obtain rfl:=xm1 hr; exact ⟨by decide,by decide,zr_in 2 (by decide)⟩,List.pairwise_singleton _ _,fun r hr=>by obtain rfl:=xm1 hr; exact ⟨4,rfl,by decide⟩,fun t ht=>by obtain rfl:=Option.some.inj ht; decide⟩
theorem zl_w:FlgW zl:=⟨by decide,by decide,fun r hr=>(by cases hr),List.Pairwise.nil,fun r hr=>(by cases hr),fun t ht=>by obtain rfl:=Option.some.inj ht; decide⟩
theorem shown21_any {I:SchI} (hK:SchOK I) (w0:World) :
 Calls Try.prog 8 #[] w0 fun e w'=>e=.returned (.bool true)∧Below w0.heap.size w0 w':=by
 have M:=Mm.init w0
 go_enter Try.func8,Try.ntmps8
 go_upto_region 0 with fail; refine wp_region_list ?_; refine xpL (.bool false) ?_; refine xT ?_; go_upto_region 1 with fail; refine wp_region_list ?_; have key:=hK.new w0 _ _ 1 (by unfold i64; decide) M; refine xcL key ?_; clear key; rintro e w1 ⟨v_,ba0,rfl,hIa,M',l_⟩
 obtain ⟨Ra,rfl⟩:=hK.ptr _ _ _ _ hIa
 clear M; have M:=M'.perm (pull0 ([]:List (Nat × List Value)) ba0 ([]:List (Nat × List Value))).symm; clear M'; clear l_
 replace M:Mm w0 ((ba0++([]:List (Nat × List Value)))) w1:=M
 refine xeL ?_; refine xpL (.pointer (some ⟨Ra,0,none⟩)) ?_; refine xT ?_; go_upto_region 2 with fail; refine wp_region_list ?_; refine xpL (.pointer (some ⟨Ra,0,none⟩)) ?_; refine xpL (.bool false) ?_; refine xT ?_; go_upto_region 4 with fail; refine wp_region_list ?_; refine xpL (.pointer (some ⟨Ra,0,none⟩)) ?_
 have Mp:=M.perm (pull0 ([]:List (Nat × List Value)) ba0 ([]:List (Nat × List Value))); have key:=hK.opn w0 _ _ (snew 1) ba0 _ 1 (snew_w _) (show 0<1000000000 by decide) (by unfold i64; decide) hIa Mp
 rw [show sop (snew 1) 1=⟨true,-1,[(1,flg0)]⟩ from rfl] at key
 refine xcL key ?_; clear key; rintro e w2 ⟨ba1,rfl,hI_,M',o1⟩; clear o1 Mp M hIa; have hIa:=hI_; clear hI_
 have M:Mm w0 ((ba1++([]:List (Nat × List Value)))) w2:=M'.perm (pull0 ([]:List (Nat × List Value)) ba1 ([]:List (Nat × List Value))).symm
 clear M'; refine xeL ?_; refine xT ?_; go_upto_region 5 with fail; refine wp_region_list ?_; refine xpL (.pointer (some ⟨Ra,0,none⟩)) ?_; have Mp:=M.perm (pull0 ([]:List (Nat × List Value)) ba1 ([]:List (Nat × List Value)))
 have key:=hK.opn w0 _ _ ⟨true,-1,[(1,flg0)]⟩ ba1 _ 2 (show SchW ⟨true,-1,[(1,flg0)]⟩ from sop_w (snew_w 1) (id:=1) (by unfold i64; decide)) (show 1+(0+0)<1000000000 by decide) (by unfold i64; decide) hIa Mp
 rw [show sop ⟨true,-1,[(1,flg0)]⟩ 2=zsc (-1) flg0 from rfl] at key
 refine xcL key ?_; clear key; rintro e w3 ⟨ba2,rfl,hI_,M',o1⟩; clear o1 Mp M hIa; have hIa:=hI_; clear hI_
 have M:Mm w0 ((ba2++([]:List (Nat × List Value)))) w3:=M'.perm (pull0 ([]:List (Nat × List Value)) ba2 ([]:List (Nat × List Value))).symm
 clear M'; refine xeL ?_; refine xT ?_; go_upto_region 6 with fail; refine wp_region_list ?_; refine xpL (.pointer (some ⟨Ra,0,none⟩)) ?_; have hlb:=(Below.refl w3.heap.size w3).alloc (xnR _) (.cells #[.int .i64 1,.int .i64 2] 3); refine actL (w':=w3.alloc (.cells #[.int .i64 1,.int .i64 2] 3)) (.slice (some ⟨w3.heap.size,0,none⟩) 2 2) rfl (by kernel_rfl) ?_; simp only [aP,lI,l0,lS]
 replace hIa:=hK.bel hIa hlb; replace M:=M.box #[.int .i64 1,.int .i64 2] 3 w3.heap.size rfl; clear hlb; generalize w3.alloc (.cells #[.int .i64 1,.int .i64 2] 3)=w4 at M hIa ⊢; generalize w3.heap.size=B4 at M ⊢
 replace M:Mm w0 ((B4,[.int .i64 1,.int .i64 2])::(ba2++([]:List (Nat × List Value)))) w4:=M
 have Mp:=M.perm (pull0 ([(B4,[.int .i64 1,.int .i64 2])]:List (Nat × List Value)) ba2 ([]:List (Nat × List Value)))
 have key:=hK.pck w0 _ _ (zsc (-1) flg0) ba2 _ [1,2] (some ⟨B4,0,none⟩) 2 [] none 0 (zsc_w (by decide) (by decide) flg0_w) (show 2+(0+0)<1000000000 by decide) (by decide) (by decide) (fun e=>by cases e) (by unfold i64; decide) (M.srcI mS [1,2] rfl) (fun b_ hb_ _ h_=>by obtain rfl:=xm1 h_; exact Mp.beside mS hb_) (by decide) (by decide) (fun _=>rfl) (fun _ h_=>by cases h_) (fun j hj=>absurd hj (xnZ j)) (fun _ _ h_=>absurd rfl h_) hIa Mp
 rw [show spA (zsc (-1) flg0) [1,2] []=1 from rfl] at key
 rw [show spB (zsc (-1) flg0) [1,2] []=true from rfl] at key
 rw [show spc (zsc (-1) flg0) [1,2] []=zsc 1 flg0 from rfl] at key
 refine xcL key ?_; clear key; rintro e w5 ⟨ba3,rfl,hI_,M',o1⟩; clear o1 Mp M hIa; have hIa:=hI_; clear hI_
 have M:Mm w0 ((B4,[.int .i64 1,.int .i64 2])::(ba3++([]:List (Nat × List Value)))) w5:=M'.perm (pull0 ([(B4,[.int .i64 1,.int .i64 2])]:List (Nat × List Value)) ba3 ([]:List (Nat × List Value))).symm
 clear M'; refine xeL ?_; refine xpL (.tuple #[.int .i64 1,.bool true]) ?_; refine xpL (.int .i64 1) ?_; refine xpL (.bool true) ?_; refine xpL (.int .i64 1) ?_; refine xpL (.bool true) ?_; refine xT ?_; go_upto_region 7 with fail; refine wp_region_list ?_; refine xpL (.pointer (some ⟨Ra,0,none⟩)) ?_; have hlb:=(Below.refl w5.heap.size w5).alloc (xnR _) (.cells #[.int .i64 1,.int .i64 2] 3)
 refine actL (w':=w5.alloc (.cells #[.int .i64 1,.int .i64 2] 3)) (.slice (some ⟨w5.heap.size,0,none⟩) 2 2) rfl (by kernel_rfl) ?_; simp only [aP,lI,l0,lS]; replace hIa:=hK.bel hIa hlb; replace M:=M.box #[.int .i64 1,.int .i64 2] 3 w5.heap.size rfl; clear hlb; generalize w5.alloc (.cells #[.int .i64 1,.int .i64 2] 3)=w6 at M hIa ⊢; generalize w5.heap.size=B6 at M ⊢
 replace M:Mm w0 ((B6,[.int .i64 1,.int .i64 2])::(B4,[.int .i64 1,.int .i64 2])::(ba3++([]:List (Nat × List Value)))) w6:=M
 have Mp:=M.perm (pull0 ([(B6,[.int .i64 1,.int .i64 2]),(B4,[.int .i64 1,.int .i64 2])]:List (Nat × List Value)) ba3 ([]:List (Nat × List Value)))
 have key:=hK.pck w0 _ _ (zsc 1 flg0) ba3 _ [1,2] (some ⟨B6,0,none⟩) 2 [] none 0 (zsc_w (by decide) (by decide) flg0_w) (show 2+(0+0)<1000000000 by decide) (by decide) (by decide) (fun e=>by cases e) (by unfold i64; decide) (M.srcI mS [1,2] rfl) (fun b_ hb_ _ h_=>by obtain rfl:=xm1 h_; exact Mp.beside mS hb_) (by decide) (by decide) (fun _=>rfl) (fun _ h_=>by cases h_) (fun j hj=>absurd hj (xnZ j)) (fun _ _ h_=>absurd rfl h_) hIa Mp
 rw [show spA (zsc 1 flg0) [1,2] []=2 from rfl] at key
 rw [show spB (zsc 1 flg0) [1,2] []=true from rfl] at key
 rw [show spc (zsc 1 flg0) [1,2] []=zsc 2 flg0 from rfl] at key
 refine xcL key ?_; clear key; rintro e w7 ⟨ba4,rfl,hI_,M',o1⟩; clear o1 Mp M hIa; have hIa:=hI_; clear hI_
 have M:Mm w0 ((B6,[.int .i64 1,.int .i64 2])::(B4,[.int .i64 1,.int .i64 2])::(ba4++([]:List (Nat × List Value)))) w7:=M'.perm (pull0 ([(B6,[.int .i64 1,.int .i64 2]),(B4,[.int .i64 1,.int .i64 2])]:List (Nat × List Value)) ba4 ([]:List (Nat × List Value))).symm
 clear M'; refine xeL ?_; refine xpL (.tuple #[.int .i64 2,.bool true]) ?_; refine xpL (.int .i64 2) ?_; refine xpL (.bool true) ?_; refine xpL (.int .i64 2) ?_; refine xpL (.bool true) ?_; refine xT ?_; go_upto_region 8 with fail; refine wp_region_list ?_; refine xpL (.pointer (some ⟨Ra,0,none⟩)) ?_; have hlb:=(Below.refl w7.heap.size w7).alloc (xnR _) (.cells #[.int .i64 1,.int .i64 2] 3)
 refine actL (w':=w7.alloc (.cells #[.int .i64 1,.int .i64 2] 3)) (.slice (some ⟨w7.heap.size,0,none⟩) 2 2) rfl (by kernel_rfl) ?_; simp only [aP,lI,l0,lS]; replace hIa:=hK.bel hIa hlb; replace M:=M.box #[.int .i64 1,.int .i64 2] 3 w7.heap.size rfl; clear hlb; generalize w7.alloc (.cells #[.int .i64 1,.int .i64 2] 3)=w8 at M hIa ⊢; generalize w7.heap.size=B8 at M ⊢
 replace M:Mm w0 ((B8,[.int .i64 1,.int .i64 2])::(B6,[.int .i64 1,.int .i64 2])::(B4,[.int .i64 1,.int .i64 2])::(ba4++([]:List (Nat × List Value)))) w8:=M
 have Mp:=M.perm (pull0 ([(B8,[.int .i64 1,.int .i64 2]),(B6,[.int .i64 1,.int .i64 2]),(B4,[.int .i64 1,.int .i64 2])]:List (Nat × List Value)) ba4 ([]:List (Nat × List Value)))
 have key:=hK.pck w0 _ _ (zsc 2 flg0) ba4 _ [1,2] (some ⟨B8,0,none⟩) 2 [] none 0 (zsc_w (by decide) (by decide) flg0_w) (show 2+(0+0)<1000000000 by decide) (by decide) (by decide) (fun e=>by cases e) (by unfold i64; decide) (M.srcI mS [1,2] rfl) (fun b_ hb_ _ h_=>by obtain rfl:=xm1 h_; exact Mp.beside mS hb_) (by decide) (by decide) (fun _=>rfl) (fun _ h_=>by cases h_) (fun j hj=>absurd hj (xnZ j)) (fun _ _ h_=>absurd rfl h_) hIa Mp
 rw [show spA (zsc 2 flg0) [1,2] []=1 from rfl] at key
 rw [show spB (zsc 2 flg0) [1,2] []=true from rfl] at key
 rw [show spc (zsc 2 flg0) [1,2] []=zsc 1 flg0 from rfl] at key
 refine xcL key ?_; clear key; rintro e w9 ⟨ba5,rfl,hI_,M',o1⟩; clear o1 Mp M hIa; have hIa:=hI_; clear hI_
 have M:Mm w0 ((B8,[.int .i64 1,.int .i64 2])::(B6,[.int .i64 1,.int .i64 2])::(B4,[.int .i64 1,.int .i64 2])::(ba5++([]:List (Nat × List Value)))) w9:=M'.perm (pull0 ([(B8,[.int .i64 1,.int .i64 2]),(B6,[.int .i64 1,.int .i64 2]),(B4,[.int .i64 1,.int .i64 2])]:List (Nat × List Value)) ba5 ([]:List (Nat × List Value))).symm
 clear M'; refine xeL ?_; refine xpL (.tuple #[.int .i64 1,.bool true]) ?_; refine xpL (.int .i64 1) ?_; refine xpL (.bool true) ?_; refine xpL (.int .i64 1) ?_; refine xpL (.bool true) ?_; refine xT ?_; go_upto_region 9 with fail; refine wp_region_list ?_; refine xpL (.int .i64 0) ?_; refine xT ?_
 have M2:Mm w0 (ba5++([]:List (Nat × List Value))) w9:=M.tail.tail.tail
 have HI:=show Hid _ from (show I w9 (.pointer (some ⟨Ra,0,none⟩)) (zsc 1 (zf 0)) ba5∧Mm w0 (ba5++([]:List (Nat × List Value))) w9 from ⟨hIa,M2⟩); clear M M2 hIa; go_wp2
 go_loopw [8] (fun i w'=>∃ (j:Nat) (ga:List (Nat × List Value)),j≤5∧i=.int .i64 (j:Int)∧I w' (.pointer (some ⟨Ra,0,none⟩)) (zsc 1 (zf j)) ga∧Mm w0 (ga++([]:List (Nat × List Value))) w') (fun i _=>5-(intOf i).toNat)
 case atStart=>exact ⟨0,_,by omega,rfl,HI.out⟩
 case round =>
  clear HI
  obtain ⟨j,ga,hj,rfl,hIa,M⟩:=hrel
  by_cases hj5:j<5
  · go_upto_region 10 with fail
    refine wp_region_list ?_; refine xpL (.int .i64 ((j:Nat):Int)) ?_; refine xaL (.bool true) (lssI .i64 _ _ _ _ _ _ rfl rfl rfl true (decide_eq_true (by omega)) _) ?_; refine xT ?_; go_upto_region 12 with fail; refine wp_region_list ?_; refine xpL (.pointer (some ⟨Ra,0,none⟩)) ?_; refine xpL (.int .i64 ((j:Nat):Int)) ?_; refine xpL (.int .i64 ((j:Nat):Int)) ?_
    refine xpL (.int .i64 ((j:Nat):Int)) ?_; refine readL (.int .i64 (((j:Nat):Int)+1)) rfl (addI .i64 _ _ _ _ _ _ _ rfl rfl rfl (by rw [xw6]; omega) _) ?_; simp only [aP,lI,l0,lS]; refine xpL (.agg #[.int .i64 ((j:Nat):Int),.int .i64 (((j:Nat):Int)+1)]) ?_
    have hlb:=(Below.refl wr.heap.size wr).alloc (xnR _) (.cells #[.int .i64 ((j:Nat):Int),.int .i64 (((j:Nat):Int)+1)] 38); refine actL (w':=wr.alloc (.cells #[.int .i64 ((j:Nat):Int),.int .i64 (((j:Nat):Int)+1)] 38)) (.slice (some ⟨wr.heap.size,0,none⟩) 1 1) rfl (by kernel_rfl) ?_; simp only [aP,lI,l0,lS]; replace hIa:=hK.bel hIa hlb
    replace M:=M.box #[.int .i64 ((j:Nat):Int),.int .i64 (((j:Nat):Int)+1)] 38 wr.heap.size rfl; clear hlb; generalize wr.alloc (.cells #[.int .i64 ((j:Nat):Int),.int .i64 (((j:Nat):Int)+1)] 38)=w10 at M hIa ⊢; generalize wr.heap.size=B10 at M ⊢
    replace M:Mm w0 ((B10,[.int .i64 ((j:Nat):Int),.int .i64 (((j:Nat):Int)+1)])::(ga++([]:List (Nat × List Value)))) w10:=M
    have Mp:=M.perm (pull0 ([(B10,[.int .i64 ((j:Nat):Int),.int .i64 (((j:Nat):Int)+1)])]:List (Nat × List Value)) ga ([]:List (Nat × List Value)))
    have key:=hK.snt w0 _ _ (zsc 1 (zf j)) ga _ 1 ((j:Nat):Int) 10 [(((j:Nat):Int),((j:Nat):Int)+1)] (some ⟨B10,0,none⟩) 1 (zsc_w (by decide) (by decide) (zf_w j hj)) (show 2+(fsz (zf j)+0)<1000000000 by rw [zf_sz]; omega) (by unfold i64; decide) (by unfold i64; omega) (by unfold i64; decide) (show (1:Nat)<2000000 by decide) (zr_in j hj5) (RgW.ofW (M.newWt mS [(((j:Nat):Int),((j:Nat):Int)+1)] rfl (xnR _))) (fun b_ hb_ _ h_=>by obtain rfl:=xm1 h_; exact Mp.beside mS hb_) hIa Mp
    rw [zsc_sent j hj5] at key
    refine xcL key ?_; clear key; rintro e w11 ⟨ba1,rfl,hI_,M',o1⟩; clear o1 Mp M hIa; have hIa:=hI_; clear hI_
    have M:Mm w0 ((B10,[.int .i64 ((j:Nat):Int),.int .i64 (((j:Nat):Int)+1)])::(ba1++([]:List (Nat × List Value)))) w11:=M'.perm (pull0 ([(B10,[.int .i64 ((j:Nat):Int),.int .i64 (((j:Nat):Int)+1)])]:List (Nat × List Value)) ba1 ([]:List (Nat × List Value))).symm
    clear M'; refine xeL ?_; refine xT ?_
    have M2:Mm w0 (ba1++([]:List (Nat × List Value))) w11:=M.tail
    have HS:=show Hid _ from (show I w11 (.pointer (some ⟨Ra,0,none⟩)) (zsc 1 (zf (j+1))) ba1∧Mm w0 (ba1++([]:List (Nat × List Value))) w11 from ⟨hIa,M2⟩); clear M M2 hIa; go_wp2
    go_roundw
    case rel=>exact ⟨j+1,_,by omega,by go_num,HS.out⟩
    case measure=>simp [intOf]; omega
  · obtain rfl:j=5:=by omega
    go_upto_region 10 with fail; refine wp_region_list ?_; refine xpL (.int .i64 ((5:Nat):Int)) ?_; refine xaL (.bool false) (lssI .i64 _ _ _ _ _ _ rfl rfl rfl false (decide_eq_false (by omega)) _) ?_; refine xT ?_; go_upto_region 13 with fail; refine wp_region_list ?_; refine xpL (.pointer (some ⟨Ra,0,none⟩)) ?_
    have Mp:=M.perm (pull0 ([]:List (Nat × List Value)) ga ([]:List (Nat × List Value))); have key:=hK.und w0 _ _ (zsc 1 (zf 5)) ga _ 1 (zsc_w (by decide) (by decide) (zf_w 5 (by decide))) (show 2+(10+0)<1000000000 by decide) (by unfold i64; decide) hIa Mp; clear Mp
    rw [show sun (zsc 1 (zf 5)) 1=5 from rfl] at key
    refine xcL key ?_; clear key; rintro e w12 ⟨rfl,l_⟩; replace M:=M.call l_; replace hIa:=hK.bel hIa l_; clear l_; refine xeL ?_; refine xpL (.int .i64 5) ?_; refine xT ?_; go_upto_region 14 with fail; refine wp_region_list ?_; refine xpL (.pointer (some ⟨Ra,0,none⟩)) ?_; have hlb:=(Below.refl w12.heap.size w12).alloc (xnR _) (.cells #[.int .i64 1] 3)
    refine actL (w':=w12.alloc (.cells #[.int .i64 1] 3)) (.slice (some ⟨w12.heap.size,0,none⟩) 1 1) rfl (by kernel_rfl) ?_; simp only [aP,lI,l0,lS]; replace hIa:=hK.bel hIa hlb; replace M:=M.box #[.int .i64 1] 3 w12.heap.size rfl; clear hlb; generalize w12.alloc (.cells #[.int .i64 1] 3)=w13 at M hIa ⊢; generalize w12.heap.size=B13 at M ⊢
    replace M:Mm w0 ((B13,[.int .i64 1])::(ga++([]:List (Nat × List Value)))) w13:=M
    have Mp:=M.perm (pull0 ([(B13,[.int .i64 1])]:List (Nat × List Value)) ga ([]:List (Nat × List Value)))
    have key:=hK.pck w0 _ _ (zsc 1 (zf 5)) ga _ [1] (some ⟨B13,0,none⟩) 1 [] none 0 (zsc_w (by decide) (by decide) (zf_w 5 (by decide))) (show 2+(10+0)<1000000000 by decide) (by decide) (by decide) (fun e=>by cases e) (by unfold i64; decide) (M.srcI mS [1] rfl) (fun b_ hb_ _ h_=>by obtain rfl:=xm1 h_; exact Mp.beside mS hb_) (by decide) (by decide) (fun _=>rfl) (fun _ h_=>by cases h_) (fun j hj=>absurd hj (xnZ j)) (fun _ _ h_=>absurd rfl h_) hIa Mp
    rw [show spA (zsc 1 (zf 5)) [1] []=0 from rfl] at key
    rw [show spB (zsc 1 (zf 5)) [1] []=false from rfl] at key
    rw [show spc (zsc 1 (zf 5)) [1] []=zsc 1 (zf 5) from rfl] at key
    refine xcL key ?_; clear key; rintro e w14 ⟨ba1,rfl,hI_,M',o1⟩; clear o1 Mp M hIa; have hIa:=hI_; clear hI_
    have M:Mm w0 ((B13,[.int .i64 1])::(ba1++([]:List (Nat × List Value)))) w14:=M'.perm (pull0 ([(B13,[.int .i64 1])]:List (Nat × List Value)) ba1 ([]:List (Nat × List Value))).symm
    clear M'; refine xeL ?_; refine xpL (.tuple #[.int .i64 0,.bool false]) ?_; refine xpL (.int .i64 0) ?_; refine xpL (.bool false) ?_; refine xpL (.int .i64 0) ?_; refine xpL (.bool false) ?_; refine xT ?_; go_upto_region 15 with fail; refine wp_region_list ?_; refine xpL (.pointer (some ⟨Ra,0,none⟩)) ?_; refine xpL (.agg #[.int .i64 3,.int .i64 4]) ?_
    have hlb:=(Below.refl w14.heap.size w14).alloc (xnR _) (.cells #[.int .i64 3,.int .i64 4] 38); refine actL (w':=w14.alloc (.cells #[.int .i64 3,.int .i64 4] 38)) (.slice (some ⟨w14.heap.size,0,none⟩) 1 1) rfl (by kernel_rfl) ?_; simp only [aP,lI,l0,lS]; replace hIa:=hK.bel hIa hlb; replace M:=M.box #[.int .i64 3,.int .i64 4] 38 w14.heap.size rfl; clear hlb
    generalize w14.alloc (.cells #[.int .i64 3,.int .i64 4] 38)=w15 at M hIa ⊢; generalize w14.heap.size=B15 at M ⊢
    replace M:Mm w0 ((B15,[.int .i64 3,.int .i64 4])::(B13,[.int .i64 1])::(ba1++([]:List (Nat × List Value)))) w15:=M
    have Mp:=M.perm (pull0 ([(B15,[.int .i64 3,.int .i64 4]),(B13,[.int .i64 1])]:List (Nat × List Value)) ba1 ([]:List (Nat × List Value)))
    have key:=hK.got w0 _ _ (zsc 1 (zf 5)) ba1 _ 1 4 [(3,4)] (some ⟨B15,0,none⟩) 1 25 (zsc_w (by decide) (by decide) (zf_w 5 (by decide))) (show 2+(10+0)<1000000000 by decide) (by unfold i64; decide) (by unfold i64; decide) (by unfold i64; decide) (show (1:Nat)<140737488355328 by decide) (by unfold i64; decide) (RgW.ofW (M.newWt mS [(3,4)] rfl (xnR _))) (fun b_ hb_ _ h_=>by obtain rfl:=xm1 h_; exact Mp.beside mS hb_) hIa Mp
    rw [show sgO (zsc 1 (zf 5)) 1 4 [(3,4)]=[(0,1),(1,2)] from rfl] at key
    rw [show sgT (zsc 1 (zf 5)) 1 4 25=15 from rfl] at key
    rw [show sgt (zsc 1 (zf 5)) 1 4 [(3,4)]=zsc 1 zg from rfl] at key
    refine xcL key ?_; clear key; rintro e w16 ⟨p16,c16,ba2,rfl,W_16,hI_,M',o1⟩; clear o1 Mp M hIa; have hIa:=hI_; clear hI_
    have M:Mm w0 ((B15,[.int .i64 3,.int .i64 4])::(B13,[.int .i64 1])::(ba2++((obs p16)++([]:List (Nat × List Value))))) w16:=M'.perm (pullY ([(B15,[.int .i64 3,.int .i64 4]),(B13,[.int .i64 1])]:List (Nat × List Value)) ba2 (obs p16) ([]:List (Nat × List Value)))
    clear M'; refine xeL ?_; refine xpL (.tuple #[.slice p16 (([(0,1),(1,2)]:List (Int × Int)).length) c16,.int .i64 15]) ?_; refine xpL (.slice p16 (([(0,1),(1,2)]:List (Int × Int)).length) c16) ?_; refine xpL (.int .i64 15) ?_; refine xpL (.slice p16 (([(0,1),(1,2)]:List (Int × Int)).length) c16) ?_; refine xpL (.int .i64 15) ?_; refine xT ?_; go_upto_region 16 with fail
    refine wp_region_list ?_; refine xpL (.slice p16 (([(0,1),(1,2)]:List (Int × Int)).length) c16) ?_; refine xpL (.agg #[.int .i64 0,.int .i64 1]) ?_; refine xpL (.agg #[.int .i64 1,.int .i64 2]) ?_; have hlb:=(Below.refl w16.heap.size w16).alloc (xnR _) (.cells #[.int .i64 0,.int .i64 1,.int .i64 1,.int .i64 2] 38)
    refine actL (w':=w16.alloc (.cells #[.int .i64 0,.int .i64 1,.int .i64 1,.int .i64 2] 38)) (.slice (some ⟨w16.heap.size,0,none⟩) 2 2) rfl (by kernel_rfl) ?_; simp only [aP,lI,l0,lS]; replace hIa:=hK.bel hIa hlb; replace W_16:=NewW.below W_16 hlb; replace M:=M.box #[.int .i64 0,.int .i64 1,.int .i64 1,.int .i64 2] 38 w16.heap.size rfl; clear hlb
    generalize w16.alloc (.cells #[.int .i64 0,.int .i64 1,.int .i64 1,.int .i64 2] 38)=w17 at M hIa W_16 ⊢; generalize w16.heap.size=B17 at M ⊢
    replace M:Mm w0 ((B17,[.int .i64 0,.int .i64 1,.int .i64 1,.int .i64 2])::(B15,[.int .i64 3,.int .i64 4])::(B13,[.int .i64 1])::(ba2++((obs p16)++([]:List (Nat × List Value))))) w17:=M
    have key:=same21_any ([(0,1),(1,2)]) (by decide) _ _ p16 (some ⟨B17,0,none⟩) c16 2 w17 W_16 (M.newWt mS [(0,1),(1,2)] rfl (by decide)); refine xcL key ?_; clear key; rintro e w18 ⟨rfl,l_⟩; replace M:=M.call l_; replace hIa:=hK.bel hIa l_; replace W_16:=NewW.below W_16 l_; clear l_; refine xeL ?_; refine xpL (.bool true) ?_; refine xT ?_; go_upto_region 17 with fail
    refine wp_region_list ?_; refine xpL (.pointer (some ⟨Ra,0,none⟩)) ?_; have Mp:=M.perm (pull0 ([(B17,[.int .i64 0,.int .i64 1,.int .i64 1,.int .i64 2]),(B15,[.int .i64 3,.int .i64 4]),(B13,[.int .i64 1])]:List (Nat × List Value)) ba2 ((obs p16)++([]:List (Nat × List Value))))
    have key:=hK.und w0 _ _ (zsc 1 zg) ba2 _ 1 (zsc_w (by decide) (by decide) zg_w) (show 2+(2+0)<1000000000 by decide) (by unfold i64; decide) hIa Mp; clear Mp
    rw [show sun (zsc 1 zg) 1=1 from rfl] at key
    refine xcL key ?_; clear key; rintro e w19 ⟨rfl,l_⟩; replace M:=M.call l_; replace hIa:=hK.bel hIa l_; replace W_16:=NewW.below W_16 l_; clear l_; refine xeL ?_; refine xpL (.int .i64 1) ?_; refine xT ?_; go_upto_region 18 with fail; refine wp_region_list ?_; refine xpL (.pointer (some ⟨Ra,0,none⟩)) ?_
    have Mp:=M.perm (pull0 ([(B17,[.int .i64 0,.int .i64 1,.int .i64 1,.int .i64 2]),(B15,[.int .i64 3,.int .i64 4]),(B13,[.int .i64 1])]:List (Nat × List Value)) ba2 ((obs p16)++([]:List (Nat × List Value)))); have key:=hK.win w0 _ _ (zsc 1 zg) ba2 _ 1 (zsc_w (by decide) (by decide) zg_w) (show 2+(2+0)<1000000000 by decide) (by unfold i64; decide) hIa Mp; clear Mp
    rw [show swn (zsc 1 zg) 1=3 from rfl] at key
    refine xcL key ?_; clear key; rintro e w20 ⟨rfl,l_⟩; replace M:=M.call l_; replace hIa:=hK.bel hIa l_; replace W_16:=NewW.below W_16 l_; clear l_; refine xeL ?_; refine xpL (.int .i64 3) ?_; refine xT ?_; go_upto_region 19 with fail; refine wp_region_list ?_; refine xpL (.pointer (some ⟨Ra,0,none⟩)) ?_
    have Mp:=M.perm (pull0 ([(B17,[.int .i64 0,.int .i64 1,.int .i64 1,.int .i64 2]),(B15,[.int .i64 3,.int .i64 4]),(B13,[.int .i64 1])]:List (Nat × List Value)) ba2 ((obs p16)++([]:List (Nat × List Value))))
    have key:=hK.lat w0 _ _ (zsc 1 zg) ba2 _ 1 20 11 (zsc_w (by decide) (by decide) zg_w) (show 2+(2+0)<1000000000 by decide) (by unfold i64; decide) (by unfold i64; decide) (by unfold i64; decide) hIa Mp
    rw [show slO (zsc 1 zg) 1 20 11=[] from rfl] at key
    rw [show sla (zsc 1 zg) 1 20 11=zsc 1 zg from rfl] at key
    refine xcL key ?_; clear key; rintro e w21 ⟨p21,c21,ba3,rfl,W_21,hI_,M',o1⟩; replace W_16:=NewW.offB W_16 o1 (Mp.awayS (fun p_ hp_=>by simp [hp_])); clear o1 Mp M hIa; have hIa:=hI_; clear hI_
    have M:Mm w0 ((B17,[.int .i64 0,.int .i64 1,.int .i64 1,.int .i64 2])::(B15,[.int .i64 3,.int .i64 4])::(B13,[.int .i64 1])::(ba3++((obs p21)++((obs p16)++([]:List (Nat × List Value)))))) w21:=M'.perm (pullY ([(B17,[.int .i64 0,.int .i64 1,.int .i64 1,.int .i64 2]),(B15,[.int .i64 3,.int .i64 4]),(B13,[.int .i64 1])]:List (Nat × List Value)) ba3 (obs p21) ((obs p16)++([]:List (Nat × List Value))))
    clear M'; refine xeL ?_; refine xpL (.slice p21 (([]:List (Int × Int)).length) c21) ?_; refine xT ?_; go_upto_region 20 with fail; refine wp_region_list ?_; refine xpL (.pointer (some ⟨Ra,0,none⟩)) ?_
    have Mp:=M.perm (pull0 ([(B17,[.int .i64 0,.int .i64 1,.int .i64 1,.int .i64 2]),(B15,[.int .i64 3,.int .i64 4]),(B13,[.int .i64 1])]:List (Nat × List Value)) ba3 ((obs p21)++((obs p16)++([]:List (Nat × List Value)))))
    have key:=hK.lat w0 _ _ (zsc 1 zg) ba3 _ 1 20 10 (zsc_w (by decide) (by decide) zg_w) (show 2+(2+0)<1000000000 by decide) (by unfold i64; decide) (by unfold i64; decide) (by unfold i64; decide) hIa Mp
    rw [show slO (zsc 1 zg) 1 20 10=[(2,3)] from rfl] at key
    rw [show sla (zsc 1 zg) 1 20 10=zsc 1 zl from rfl] at key
    refine xcL key ?_; clear key; rintro e w22 ⟨p22,c22,ba4,rfl,W_22,hI_,M',o1⟩; replace W_16:=NewW.offB W_16 o1 (Mp.awayS (fun p_ hp_=>by simp [hp_])); replace W_21:=NewW.offB W_21 o1 (Mp.awayS (fun p_ hp_=>by simp [hp_])); clear o1 Mp M hIa; have hIa:=hI_; clear hI_
    have M:Mm w0 ((B17,[.int .i64 0,.int .i64 1,.int .i64 1,.int .i64 2])::(B15,[.int .i64 3,.int .i64 4])::(B13,[.int .i64 1])::(ba4++((obs p22)++((obs p21)++((obs p16)++([]:List (Nat × List Value))))))) w22:=M'.perm (pullY ([(B17,[.int .i64 0,.int .i64 1,.int .i64 1,.int .i64 2]),(B15,[.int .i64 3,.int .i64 4]),(B13,[.int .i64 1])]:List (Nat × List Value)) ba4 (obs p22) ((obs p21)++((obs p16)++([]:List (Nat × List Value)))))
    clear M'; refine xeL ?_; refine xpL (.agg #[.int .i64 2,.int .i64 3]) ?_; have hlb:=(Below.refl w22.heap.size w22).alloc (xnR _) (.cells #[.int .i64 2,.int .i64 3] 38); refine actL (w':=w22.alloc (.cells #[.int .i64 2,.int .i64 3] 38)) (.slice (some ⟨w22.heap.size,0,none⟩) 1 1) rfl (by kernel_rfl) ?_; simp only [aP,lI,l0,lS]; replace hIa:=hK.bel hIa hlb
    replace W_16:=NewW.below W_16 hlb; replace W_21:=NewW.below W_21 hlb; replace W_22:=NewW.below W_22 hlb; replace M:=M.box #[.int .i64 2,.int .i64 3] 38 w22.heap.size rfl; clear hlb; generalize w22.alloc (.cells #[.int .i64 2,.int .i64 3] 38)=w23 at M hIa W_16 W_21 W_22 ⊢; generalize w22.heap.size=B23 at M ⊢
    replace M:Mm w0 ((B23,[.int .i64 2,.int .i64 3])::(B17,[.int .i64 0,.int .i64 1,.int .i64 1,.int .i64 2])::(B15,[.int .i64 3,.int .i64 4])::(B13,[.int .i64 1])::(ba4++((obs p22)++((obs p21)++((obs p16)++([]:List (Nat × List Value))))))) w23:=M
    have key:=same21_any ([(2,3)]) (by decide) _ _ p22 (some ⟨B23,0,none⟩) c22 1 w23 W_22 (M.newWt mS [(2,3)] rfl (by decide)); refine xcL key ?_; clear key; rintro e w24 ⟨rfl,l_⟩; replace M:=M.call l_; replace hIa:=hK.bel hIa l_; replace W_16:=NewW.below W_16 l_; replace W_21:=NewW.below W_21 l_; replace W_22:=NewW.below W_22 l_; clear l_; refine xeL ?_
    refine xpL (.bool true) ?_; refine xT ?_; go_upto_region 21 with fail; refine wp_region_list ?_; refine xpL (.int .i64 1) ?_; refine xaL (.bool true) (eqlI .i64 _ _ _ _ _ _ rfl rfl rfl true (by decide) _) ?_; refine xpL (.bool true) ?_; refine xpL (.int .i64 2) ?_; refine xaL (.bool true) (eqlI .i64 _ _ _ _ _ _ rfl rfl rfl true (by decide) _) ?_; refine xpL (.bool true) ?_
    refine xpL (.bool true) ?_; refine xpL (.int .i64 1) ?_; refine xaL (.bool true) (eqlI .i64 _ _ _ _ _ _ rfl rfl rfl true (by decide) _) ?_; refine xpL (.bool true) ?_; refine xpL (.bool true) ?_; refine xpL (.int .i64 5) ?_; refine xaL (.bool true) (eqlI .i64 _ _ _ _ _ _ rfl rfl rfl true (by decide) _) ?_; refine xpL (.bool true) ?_; refine xpL (.bool true) ?_; refine xpL (.bool false) ?_
    refine xpL (.bool true) ?_; refine xpL (.bool true) ?_; refine xpL (.bool true) ?_; refine xpL (.bool true) ?_; refine xpL (.bool true) ?_; refine xpL (.bool true) ?_; refine xpL (.int .i64 15) ?_; refine xaL (.bool true) (eqlI .i64 _ _ _ _ _ _ rfl rfl rfl true (by decide) _) ?_; refine xpL (.bool true) ?_; refine xpL (.bool true) ?_; refine xpL (.int .i64 1) ?_
    refine xaL (.bool true) (eqlI .i64 _ _ _ _ _ _ rfl rfl rfl true (by decide) _) ?_; refine xpL (.bool true) ?_; refine xpL (.bool true) ?_; refine xpL (.int .i64 3) ?_; refine xaL (.bool true) (eqlI .i64 _ _ _ _ _ _ rfl rfl rfl true (by decide) _) ?_; refine xpL (.bool true) ?_; refine xpL (.bool true) ?_; refine xpL (.slice p21 (([]:List (Int × Int)).length) c21) ?_
    refine readL (.int .i64 ((([]:List (Int × Int)).length:Nat):Int)) rfl (lenS _ 28 38 p21 (([]:List (Int × Int)).length) c21 rfl Try.underlying28 rfl _) ?_; simp only [aP,lI,l0,lS]; refine xaL (.bool true) (eqlI .i64 _ _ _ _ _ _ rfl rfl rfl true rfl _) ?_; refine xpL (.bool true) ?_; refine xpL (.bool true) ?_; refine xpL (.bool true) ?_; refine xpL (.bool true) ?_
    refine xpL (.bool true) ?_; refine xpL (.pointer (some ⟨Ra,0,none⟩)) ?_; have Mp:=M.perm (pull0 ([(B23,[.int .i64 2,.int .i64 3]),(B17,[.int .i64 0,.int .i64 1,.int .i64 1,.int .i64 2]),(B15,[.int .i64 3,.int .i64 4]),(B13,[.int .i64 1])]:List (Nat × List Value)) ba4 ((obs p22)++((obs p21)++((obs p16)++([]:List (Nat × List Value))))))
    have key:=hK.und w0 _ _ (zsc 1 zl) ba4 _ 1 (zsc_w (by decide) (by decide) zl_w) (show 2+(0+0)<1000000000 by decide) (by unfold i64; decide) hIa Mp; clear Mp
    rw [show sun (zsc 1 zl) 1=0 from rfl] at key
    refine xcL key ?_; clear key; rintro e w25 ⟨rfl,l_⟩; replace M:=M.call l_; replace hIa:=hK.bel hIa l_; replace W_16:=NewW.below W_16 l_; replace W_21:=NewW.below W_21 l_; replace W_22:=NewW.below W_22 l_; clear l_; refine xeL ?_; refine xaL (.bool true) (eqlI .i64 _ _ _ _ _ _ rfl rfl rfl true (by decide) _) ?_; refine xpL (.bool true) ?_; refine xpL (.bool true) ?_
    refine xpL (.pointer (some ⟨Ra,0,none⟩)) ?_; have Mp:=M.perm (pull0 ([(B23,[.int .i64 2,.int .i64 3]),(B17,[.int .i64 0,.int .i64 1,.int .i64 1,.int .i64 2]),(B15,[.int .i64 3,.int .i64 4]),(B13,[.int .i64 1])]:List (Nat × List Value)) ba4 ((obs p22)++((obs p21)++((obs p16)++([]:List (Nat × List Value))))))
    have key:=hK.win w0 _ _ (zsc 1 zl) ba4 _ 1 (zsc_w (by decide) (by decide) zl_w) (show 2+(0+0)<1000000000 by decide) (by unfold i64; decide) hIa Mp; clear Mp
    rw [show swn (zsc 1 zl) 1=2 from rfl] at key
    refine xcL key ?_; clear key; rintro e w26 ⟨rfl,l_⟩; replace M:=M.call l_; replace hIa:=hK.bel hIa l_; replace W_16:=NewW.below W_16 l_; replace W_21:=NewW.below W_21 l_; replace W_22:=NewW.below W_22 l_; clear l_; refine xeL ?_; refine xaL (.bool true) (eqlI .i64 _ _ _ _ _ _ rfl rfl rfl true (by decide) _) ?_; refine xpL (.bool true) ?_; refine xpL (.bool true) ?_; refine xT ?_
    have hbel:=M.below; clear M hIa W_16 W_21 W_22; go_wp2; go_ret
    exact ⟨rfl,hbel⟩
def ts (last:Int) (a:List Int):Sch:=⟨true,last,a.map fun x=>(x.toNat,flg0)⟩
structure TuW (a:List Int):Prop where
 n:a.length≤16
 d:a.Nodup
 p:∀ x∈a,0≤x∧x<9223372036854775808
theorem TuW.i {a:List Int} (h:TuW a):∀ x∈a,i64 x:=fun x hx=>by have:=h.p x hx; unfold i64; omega
theorem tuW0:TuW []:=⟨by decide,List.nodup_nil,fun _ h=>by cases h⟩
theorem TuW.add {a:List Int} (h:TuW a) (hl:a.length<16) {x:Int} (h0:0≤x) (h1:x<9223372036854775808) (hn:x∉a):TuW (a++[x]):=by
 refine ⟨by rw [List.length_append]; show _+1≤16; omega,?_,fun y hy=>?_⟩
 · rw [List.nodup_append]
   refine ⟨h.d,List.nodup_cons.2 ⟨List.not_mem_nil,List.nodup_nil⟩,fun y hy z hz e=>?_⟩
   obtain rfl:=xm1 hz
   subst e
   exact hn hy
 · rcases List.mem_append.1 hy with hy | hy
   · exact h.p y hy
   · obtain rfl:=xm1 hy; exact ⟨h0,h1⟩
theorem sfd_ts:∀ (a:List Int) (x:Int),(∀ y∈a,0≤y)→sfd (a.map fun y=>(y.toNat,flg0)) x=if x∈a then some flg0 else none
 | [],x,_=>by rw [if_neg List.not_mem_nil]; rfl
 | y::a,x,h=>by
   have hy:=h y mS; have ih:=sfd_ts a x fun z hz=>h z (mT _ hz)
   show (if ((y.toNat:Nat):Int)=x then some flg0 else sfd (a.map fun y=>(y.toNat,flg0)) x)=_
   rw [ih,Int.toNat_of_nonneg hy]
   by_cases c:y=x
   · rw [if_pos c,if_pos (by rw [c]; exact mS)]
   · rw [if_neg c]
     by_cases d:x∈a
     · rw [if_pos d,if_pos (mT _ d)]
     · rw [if_neg d,if_neg (fun e=>(xc1 e).elim (fun e=>c e.symm) d)]
theorem sop_ts {a:List Int} (h:TuW a) (last:Int) {x:Int} (h0:0≤x) (hn:x∉a):sop (ts last a) x=ts last (a++[x]):=by
 unfold sop
 rw [if_pos ⟨h0,by show sfd (a.map fun y=>(y.toNat,flg0)) x=none; rw [sfd_ts a x (fun y hy=>(h.p y hy).1),if_neg hn]⟩]
 show (⟨true,last,(a.map fun y=>(y.toNat,flg0))++[(x.toNat,flg0)]⟩:Sch)=⟨true,last,(a++[x]).map fun y=>(y.toNat,flg0)⟩
 rw [List.map_append]
 rfl
theorem ts_w {a:List Int} (h:TuW a) {last:Int} (h1:-1≤last) (h2:last<9223372036854775808):SchW (ts last a):=by
 refine ⟨?_,fun q hq=>?_,fun q hq=>?_,h1,h2⟩
 · show ((a.map fun x=>(x.toNat,flg0)).map Prod.fst).Nodup
   rw [List.map_map]
   refine List.pairwise_map.2 (List.Pairwise.imp_of_mem (fun {x y} hx hy hne e=>hne ?_) h.d)
   have e':x.toNat=y.toNat:=e
   have:=h.p x hx
   have:=h.p y hy
   omega
 · obtain ⟨x,_,rfl⟩:=List.mem_map.1 hq
   exact flg0_w
 · obtain ⟨x,hx,rfl⟩:=List.mem_map.1 hq
   have:=h.p x hx
   show x.toNat<9223372036854775808
   omega
theorem ts_sum:∀ a:List Int,((a.map fun x=>(x.toNat,flg0)).map fun q:Nat × Flg=>fsz q.2).sum=0
 | []=>rfl
 | x::a=>by
   rw [List.map_cons,List.map_cons,List.sum_cons,ts_sum a]
   rfl
theorem ts_sz {a:List Int} (h:TuW a) (last:Int):ssz (ts last a)<1000000000:=by
 have:=h.n
 show (a.map fun x=>(x.toNat,flg0)).length+((a.map fun x=>(x.toNat,flg0)).map fun q:Nat × Flg=>fsz q.2).sum<_
 rw [ts_sum,List.length_map]
 omega
def thr (a:List Int) (x:Int):Nat→Bool
 | 0=>decide (x<0)
 | k+1=>thr a x k || bl a k == x
theorem thr_1 {a:List Int} {x:Int} {k:Nat} (h:thr a x k=true):thr a x (k+1)=true:=by show (thr a x k || _)=true; rw [h]; rfl
theorem thr_2 {a:List Int} {x:Int} {k:Nat} (e:bl a k=x):thr a x (k+1)=true:=by show (thr a x k || (bl a k == x))=true; rw [e,beq_self_eq_true,Bool.or_true]
theorem thr_3 {a:List Int} {x:Int} {k:Nat} (h:thr a x k=false) (e:¬ bl a k=x):thr a x (k+1)=false:=by show (thr a x k || (bl a k == x))=false; rw [h,beq_eq_false_iff_ne.2 e]; rfl
theorem thr_no {a:List Int} {x:Int}:∀ k,thr a x k=false→0≤x∧∀ j,j<k→bl a j≠x
 | 0,h=>⟨by have:=of_decide_eq_false h; omega,fun j hj=>absurd hj (xnZ j)⟩
 | k+1,h=>by
   have h':(thr a x k || (bl a k == x))=false:=h
   rw [Bool.or_eq_false_iff] at h'
   obtain ⟨h1,h2⟩:=thr_no k h'.1
   refine ⟨h1,fun j hj e=>?_⟩
   by_cases c:j=k
   · subst c
     exact beq_eq_false_iff_ne.1 h'.2 e
   · exact h2 j (by omega) e
theorem bl_get {a:List Int} {x:Int} (h:x∈a):∃ j,j<a.length∧bl a j=x:=by
 obtain ⟨j,hj,e⟩:=List.getElem_of_mem h
 exact ⟨j,hj,by unfold bl; rw [List.getD_eq_getElem?_getD,List.getElem?_eq_getElem hj,e]; rfl⟩
theorem bl_mem {a:List Int} {j:Nat} (h:j<a.length):bl a j∈a:=by
 unfold bl
 rw [List.getD_eq_getElem?_getD,List.getElem?_eq_getElem h]
 exact List.getElem_mem h
theorem thr_out {a:List Int} {x:Int} (h:thr a x a.length=false):0≤x∧x∉a:=by
 obtain ⟨h1,h2⟩:=thr_no _ h
 refine ⟨h1,fun hm=>?_⟩
 obtain ⟨j,hj,e⟩:=bl_get hm
 exact h2 j hj e
abbrev btr (L x b:Int):Prop:=(L<x∧¬ L<b)∨((L<x↔L<b)∧x<b)
theorem spk_ts {a:List Int} (h:TuW a) (L:Int) (r:List Int):∀ k,k≤a.length→0<k→∃ j,j<k∧(spk (ts L a) a r k).1=bl a j∧∀ i,i<k→¬ btr L (bl a i) (bl a j)
 | 0,_,h0=>absurd h0 (Nat.lt_irrefl 0)
 | k+1,hk,_=>by
   have hav:sav (ts L a) (bl a k)=true:=by
    unfold sav
    rw [show sfd (ts L a).L (bl a k)=some flg0 from (sfd_ts a _ (fun y hy=>(h.p y hy).1)).trans (if_pos (bl_mem (by omega)))]
    rfl
   have hself:∀ x,¬ btr L x x:=fun x=>by unfold btr; omega
   have key:∀ b:Int × Int,spb (ts L a) b (bl a k) (bl r k)=if b.1<0∨btr L (bl a k) b.1 then (bl a k,b.2) else b:=fun b=>by
    unfold spb
    rw [if_pos hav,if_pos (show (ts L a).tu=true from rfl)]
    rfl
   show ∃ j,j<k+1∧(spb (ts L a) (spk (ts L a) a r k) (bl a k) (bl r k)).1=bl a j∧_
   rw [key]
   by_cases k0:k=0
   · subst k0
     refine ⟨0,by omega,?_,fun i hi=>?_⟩
     · rw [if_pos (.inl (show (-1:Int)<0 by decide))]
     · obtain rfl:i=0:=by omega
       exact hself _
   · obtain ⟨j,hj,e,hb⟩:=spk_ts h L r k (by omega) (by omega)
     have hp:=(h.p _ (bl_mem (show j<a.length by omega))).1
     by_cases c:btr L (bl a k) (bl a j)
     · refine ⟨k,by omega,?_,fun i hi=>?_⟩
       · rw [if_pos (.inr (by rw [e]; exact c))]
       · by_cases d:i=k
         · subst d; exact hself _
         · have h1:=hb i (by omega)
           intro h2
           unfold btr at *
           omega
     · refine ⟨j,by omega,?_,fun i hi=>?_⟩
       · rw [if_neg (by rw [e]; exact fun d=>d.elim (by omega) c)]
         exact e
       · by_cases d:i=k
         · subst d; exact c
         · exact hb i (by omega)
theorem pick_ts {a:List Int} (h:TuW a) (L:Int) (hn:0<a.length) (r:List Int):∃ x,x∈a∧spN (ts L a) a r=x∧∀ y∈a,¬ btr L y x:=by
 obtain ⟨j,hj,e,hb⟩:=spk_ts h L r a.length (xnR _) hn
 refine ⟨bl a j,bl_mem hj,e,fun y hy=>?_⟩
 obtain ⟨i,hi,rfl⟩:=bl_get hy
 exact hb i hi
def tcn (t:Int):List Int→Nat
 | []=>0
 | x::a=>(if t<x then 1 else 0)+tcn t a
theorem tcn_all:∀ {a:List Int},(∀ x∈a,0≤x)→tcn (-1) a=a.length
 | [],_=>rfl
 | x::a,h=>by
   have h1:=tcn_all fun y hy=>h y (mT _ hy); have h2:=h x mS
   show (if -1<x then 1 else 0)+tcn (-1) a=a.length+1
   rw [if_pos (by omega),h1]
   omega
theorem tcn_zero {t:Int}:∀ {a:List Int},tcn t a=0→∀ x∈a,x≤t
 | [],_,_,h=>by cases h
 | y::a,h,x,hx=>by
   have h':(if t<y then 1 else 0)+tcn t a=0:=h
   rcases xc1 hx with rfl | hx
   · split at h' <;> omega
   · exact tcn_zero (by omega) x hx
theorem tcn_pos {t:Int}:∀ {a:List Int},0<tcn t a→∃ x∈a,t<x
 | [],h=>absurd h (Nat.lt_irrefl 0)
 | y::a,h=>by
   by_cases c:t<y
   · exact ⟨y,mS,c⟩
   · have h':0<(if t<y then 1 else 0)+tcn t a:=h
     rw [if_neg c] at h'
     obtain ⟨x,hx,e⟩:=tcn_pos (t:=t) (a:=a) (by omega)
     exact ⟨x,mT _ hx,e⟩
theorem tcn_out {t x:Int} (htx:t<x):∀ {a:List Int},x∉a→(∀ y∈a,t<y→x≤y)→tcn t a=tcn x a
 | [],_,_=>rfl
 | y::a,hn,h=>by
   have h1:=tcn_out htx (a:=a) (fun e=>hn (mT _ e)) fun z hz=>h z (mT _ hz); have h2:=h y mS
   have h3:y≠x:=fun e=>hn (by rw [e]; exact mS)
   show (if t<y then 1 else 0)+tcn t a=(if x<y then 1 else 0)+tcn x a
   rw [h1]
   split <;> split <;> omega
theorem tcn_in {t x:Int} (htx:t<x):∀ {a:List Int},a.Nodup→x∈a→(∀ y∈a,t<y→x≤y)→tcn t a=tcn x a+1
 | [],_,hm,_=>by cases hm
 | y::a,hd,hm,h=>by
   obtain ⟨hd1,hd2⟩:=List.nodup_cons.1 hd
   have h':∀ z∈a,t<z→x≤z:=fun z hz=>h z (mT _ hz)
   show (if t<y then 1 else 0)+tcn t a=(if x<y then 1 else 0)+tcn x a+1
   rcases xc1 hm with rfl | hm
   · rw [tcn_out htx hd1 h',if_pos htx,if_neg (Int.lt_irrefl x)]
     omega
   · have h1:=tcn_in htx hd2 hm h'
     have h2:=h y mS
     have h3:y≠x:=fun e=>hd1 (by rw [e]; exact hm)
     rw [h1]
     split <;> split <;> omega
theorem turn_ts {a:List Int} (h:TuW a) {L lst:Int} (hl:-1≤lst) (hi:L=lst∨(lst=-1∧∀ x∈a,x≤L)) (hc:0<tcn lst a) (r:List Int):∃ x:Int,x∈a∧spN (ts L a) a r=x∧lst<x∧tcn lst a=tcn x a+1:=by
 obtain ⟨z,hz,hlz⟩:=tcn_pos hc
 obtain ⟨x,hx,e,hb⟩:=pick_ts h L (List.length_pos_of_mem hz) r
 have h1:=hb z hz; have h2:=h.p x hx; have h3:=h.p z hz
 have hlx:lst<x:=by
  rcases hi with rfl | ⟨rfl,_⟩
  · unfold btr at h1; omega
  · omega
 refine ⟨x,hx,e,hlx,tcn_in hlx h.d hx fun y hy hly=>?_⟩
 have h4:=hb y hy
 rcases hi with rfl | ⟨rfl,hall⟩
 · unfold btr at h4; omega
 · have h5:=hall x hx
   have h6:=hall y hy
   unfold btr at h4
   omega
theorem told_ts {a:List Int} (h:TuW a) {L x:Int} {r:List Int} (hx:x∈a) (e:spN (ts L a) a r=x):spA (ts L a) a r=x∧spB (ts L a) a r=true∧spc (ts L a) a r=ts x a:=by
 have:=h.p x hx
 refine ⟨?_,?_,?_⟩
 · unfold spA; rw [e,if_neg (by omega)]
 · unfold spB; rw [e]; exact decide_eq_true (by omega)
 · unfold spc; rw [e,if_neg (by omega)]; rfl
theorem none_ts (L:Int) (r:List Int):spA (ts L []) [] r=0∧spB (ts L []) [] r=false∧spc (ts L []) [] r=ts L []:=⟨rfl,rfl,rfl⟩
section
section
variable {P:Program}
theorem idxSlE {o:Oper} {a:Act} (t e:TypeId) (len cap:Nat) (k:IntKind) (sp:Option Addr) (ad:Addr) (hsp:sp=some ad) (i:Nat) (x y:Operand) (hu:P.underlying t=some (.slice e)) (hsz:∀ w,(sizeOf e).run P w=.ok 1 w) (hi:i<len) (ho:o.op=.indexAddr t x y) (hx:a.eval x=.slice sp len cap) (hy:a.eval y=.int k (i:Int)) (w:World) :
 (execOp a.eval o).run P w=.ok (.value (.pointer (some (ad.add i)))) w:=by
 subst hsp
 exact idxSl t e len cap k ad i x y hu hsz hi ho hx hy w
end
end
theorem OwnI.src21 {w:World} {base:Nat} {l:List Int} {sp:Option Addr} {cap:Nat} (h:OwnI w base l (.slice sp l.length cap)):SrcI w sp l.length (bl l):=by
 obtain ⟨sp',c',hv,hs⟩:=OwnI.slice h
 injection hv with h1 _ _
 subst h1
 exact hs
theorem SrcI.atE21 {w:World} {sp:Option Addr} {n:Nat} {f:Nat→Int} (h:SrcI w sp n f) {ad:Addr} (hsp:sp=some ad) {j:Nat} (hj:j<n):w.cell? (ad.add j)=some (.int .i64 (f j)):=by
 subst hsp
 exact h.at j hj
theorem SrcI.some21 {w:World} {sp:Option Addr} {n:Nat} {f:Nat→Int} (h:SrcI w sp n f) (hn:0<n):∃ ad,sp=some ad:=by
 obtain ⟨ad,e,_⟩:=h 0 hn
 exact ⟨ad,e⟩
theorem bl_i64 {l:List Int} (h:∀ x∈l,i64 x) (j:Nat):i64 (bl l j):=by
 unfold bl
 rw [List.getD_eq_getElem?_getD]
 cases e:l[j]? with
 | none=>show i64 0; unfold i64; decide
 | some x=>exact h x (List.mem_of_getElem? e)
theorem none_ts2 {a:List Int} (h:¬ 0<a.length) (L:Int) (r:List Int):spA (ts L a) a r=0∧spB (ts L a) a r=false∧spc (ts L a) a r=ts L a:=by
 obtain rfl:a=[]:=List.length_eq_zero_iff.1 (by omega)
 exact none_ts L r
theorem tu_x {a:List Int} (h:TuW a) {x:Int} (hx:x∈a):-1≤x∧x<9223372036854775808:=by have:=h.p x hx; omega
theorem law_SchedTurns {I:SchI} (hK:SchOK I) (sp:Option Addr) (cap:Nat) (ids:List Int) (_maxl:ids.length≤140737488351232) (hri:∀ x∈ids,i64 x) (n:Int) (hn:i64 n) (w0:World) (hsrc:SrcI w0 sp ids.length (bl ids)) :
 Calls Try.prog 5 #[.slice sp ids.length cap,.int .i64 n] w0 fun e w'=>e=.returned (.bool true)∧Below w0.heap.size w0 w':=by
 have M:=Mm.init w0
 go_enter Try.func5,Try.ntmps5
 obtain ⟨kz,hkz⟩:∃ kz,kz=kdn n 4:=⟨_,rfl⟩
 have hkd:kz<4:=by rw [hkz]; exact kdn_lt n 4 (by decide)
 go_upto_region 0 with fail; refine wp_region_list ?_; refine xpL (.bool false) ?_; refine xT ?_; go_upto_region 1 with fail; refine wp_region_list ?_; have key:=shown21_any hK w0; refine xcL key ?_; clear key; rintro e w1 ⟨rfl,l_⟩; replace M:=M.call l_; clear l_; refine xeL ?_; refine xpL (.bool true) ?_; refine xT ?_; go_upto_region 2 with fail; refine wp_region_list ?_
 have key:=hK.new w0 _ _ 1 (by unfold i64; decide) M; refine xcL key ?_; clear key; rintro e w2 ⟨v_,ba0,rfl,hIa,M',l_⟩
 obtain ⟨Ra,rfl⟩:=hK.ptr _ _ _ _ hIa
 clear M; have M:=M'.perm (pull0 ([]:List (Nat × List Value)) ba0 ([]:List (Nat × List Value))).symm; clear M'; clear l_
 replace M:Mm w0 ((ba0++([]:List (Nat × List Value)))) w2:=M
 refine xeL ?_; refine xpL (.pointer (some ⟨Ra,0,none⟩)) ?_; refine xT ?_; go_upto_region 3 with fail; refine wp_region_list ?_; refine xpL (.bool true) ?_; refine xpL (.bool false) ?_; refine xpL (.bool false) ?_; refine xpL (.pointer (some ⟨Ra,0,none⟩)) ?_; refine xpL (.bool false) ?_; refine xpL (.bool false) ?_; refine xT ?_; go_upto_region 5 with fail; refine wp_region_list ?_
 have V_A:OwnI (w2.alloc (.cells #[] 3)) w0.heap.size [] (.slice (some ⟨w2.heap.size,0,none⟩) 0 0):=World.ownsRow_lit (base:=w0.heap.size) (e:=3) (size:=1) w2 #[] 0 M.below.size (Nat.zero_le _) rfl
 have hlb:=(Below.refl w2.heap.size w2).alloc (xnR _) (.cells #[] 3); refine actL (w':=w2.alloc (.cells #[] 3)) (.slice (some ⟨w2.heap.size,0,none⟩) 0 0) rfl (by kernel_rfl) ?_; simp only [aP,lI,l0,lS]; replace hIa:=hK.bel hIa hlb
 have M':=M.rowNil #[] 3
 clear M hlb
 obtain ⟨sA0,hsu⟩:∃ su,su=(some ⟨w2.heap.size,0,none⟩:Option Addr):=⟨_,rfl⟩
 rw [← hsu] at M' V_A ⊢
 generalize w2.alloc (.cells #[] 3)=w3 at M' V_A hIa ⊢; have M:=M'.perm (pull0 ([]:List (Nat × List Value)) (obs sA0) (ba0++([]:List (Nat × List Value)))).symm; clear M' hsu
 replace M:Mm w0 (((obs sA0)++(ba0++([]:List (Nat × List Value))))) w3:=M
 refine xpL (.slice sA0 0 0) ?_; refine xT ?_; go_upto_region 6 with fail; refine wp_region_list ?_; refine xpL (.int .i64 0) ?_; refine xT ?_; have HI:=show Hid _ from (show I w3 (.pointer (some ⟨Ra,0,none⟩)) (ts (-1) []) ba0∧OwnI w3 w0.heap.size ([]:List Int) (.slice sA0 ([]:List Int).length 0)∧Mm w0 ((obs sA0)++(ba0++([]:List (Nat × List Value)))) w3 from ⟨hIa,V_A,M⟩)
 clear M hIa V_A; go_wp2
 go_loopw [7,8] (fun l_ i_ w'=>∃ (i:Nat) (lv:List Int) (sA:Option Addr) (cA:Nat) (ga:List (Nat × List Value)),i≤ids.length∧TuW lv∧l_=.slice sA lv.length cA∧i_=.int .i64 (i:Int)∧I w' (.pointer (some ⟨Ra,0,none⟩)) (ts (-1) lv) ga∧OwnI w' w0.heap.size (lv) (.slice sA (lv).length cA)∧Mm w0 ((obs sA)++(ga++([]:List (Nat × List Value)))) w') (fun _ i_ _=>ids.length-(intOf i_).toNat)
 case atStart=>exact ⟨0,[],sA0,0,_,Nat.zero_le _,tuW0,rfl,rfl,HI.out⟩
 case round =>
  clear HI
  obtain ⟨i,lv,sA,cA,ga,hi,hT,rfl,rfl,hIa,V_A,M⟩:=hrel
  by_cases hir:i<ids.length
  · by_cases hi16:lv.length<16
    · obtain ⟨adR,hgR⟩:=SrcI.some21 hsrc (by omega)
      go_upto_region 7 with fail; refine wp_region_list ?_; refine xpL (.int .i64 ((i:Nat):Int)) ?_; refine xpL (.slice sp ids.length cap) ?_; refine xaL (.int .i64 ((ids.length:Nat):Int)) (lenS _ 29 3 sp ids.length cap rfl Try.underlying29 rfl _) ?_; refine xaL (.bool true) (lssI .i64 _ _ _ _ _ _ rfl rfl rfl true (decide_eq_true (by omega)) _) ?_; refine xpL (.bool true) ?_
      refine xpL (.slice sA lv.length cA) ?_; refine xaL (.int .i64 ((lv.length:Nat):Int)) (lenS _ 29 3 sA lv.length cA rfl Try.underlying29 rfl _) ?_; refine xaL (.bool true) (lssI .i64 _ _ _ _ _ _ rfl rfl rfl true (decide_eq_true (by omega)) _) ?_; refine xpL (.bool true) ?_; refine xT ?_; go_upto_region 9 with fail; refine wp_region_list ?_; refine xpL (.slice sp ids.length cap) ?_
      refine xpL (.int .i64 ((i:Nat):Int)) ?_; refine xaL (.pointer (some (adR.add i))) (idxSlE 29 3 _ _ .i64 _ adR hgR i _ _ Try.underlying29 (fun _=>by kernel_rfl) hir rfl rfl rfl _) ?_; refine xaL (.int .i64 (bl ids i)) (load1 3 _ (adR.add i) _ rfl rfl (fun _=>by kernel_rfl) (SrcI.atE21 (SrcI.below hsrc M.below (xnR _)) hgR hir)) ?_
      refine xaL (.bool (thr lv (bl ids i) 0)) (lssI .i64 _ _ _ _ _ _ rfl rfl rfl (thr lv (bl ids i) 0) rfl _) ?_; refine xpL (.bool (thr lv (bl ids i) 0)) ?_; refine xT ?_; go_upto_region 10 with fail; refine wp_region_list ?_; refine xpL (.int .i64 0) ?_; refine xT ?_
      have HI:=show Hid _ from (show I wr (.pointer (some ⟨Ra,0,none⟩)) (ts (-1) lv) ga∧OwnI wr w0.heap.size (lv) (.slice sA (lv).length cA)∧Mm w0 ((obs sA)++(ga++([]:List (Nat × List Value)))) wr from ⟨hIa,V_A,M⟩); clear M hIa V_A; go_wp2
      go_loopw [9,10] (fun t_ k_ w'=>∃ (k:Nat),k≤lv.length∧t_=.bool (thr lv (bl ids i) k)∧k_=.int .i64 (k:Int)∧I w' (.pointer (some ⟨Ra,0,none⟩)) (ts (-1) lv) ga∧OwnI w' w0.heap.size (lv) (.slice sA (lv).length cA)∧Mm w0 ((obs sA)++(ga++([]:List (Nat × List Value)))) w') (fun _ k_ _=>lv.length-(intOf k_).toNat)
      case atStart=>exact ⟨0,Nat.zero_le _,rfl,rfl,HI.out⟩
      case round =>
       clear HI
       obtain ⟨k,hk,rfl,rfl,hIa,V_A,M⟩:=hrel
       by_cases hk2:k<lv.length
       · have hkl:k<lv.length:=hk2
         obtain ⟨adA,hgA⟩:=SrcI.some21 (OwnI.src21 V_A) (by omega)
         cases htk:thr lv (bl ids i) k with
         | true =>
           go_upto_region 11 with fail; refine wp_region_list ?_; refine xpL (.int .i64 ((k:Nat):Int)) ?_; refine xpL (.slice sA lv.length cA) ?_; refine xaL (.int .i64 ((lv.length:Nat):Int)) (lenS _ 29 3 sA lv.length cA rfl Try.underlying29 rfl _) ?_; refine xaL (.bool true) (lssI .i64 _ _ _ _ _ _ rfl rfl rfl true (decide_eq_true (by omega)) _) ?_; refine xT ?_
           go_upto_region 13 with fail; have hdr:=(Below.refl wr.heap.size wr).drew; replace M:=M.drew; replace hIa:=hK.bel hIa hdr; replace V_A:=Own.below V_A hdr; clear hdr; refine wp_region_held_drew (S:=fun w'=>OwnI w' w0.heap.size lv (.slice sA lv.length cA)∧Below w0.heap.size w0 w') (by kernel_rfl) ⟨V_A,M.below⟩ ?_; intro _; generalize wr.drew=w4 at M hIa V_A ⊢
           refine xrH 0 49 rfl (.bool true) (fun _ hS=>(by kernel_rfl)) ⟨V_A,M.below⟩ ?_; refine xrH 1 50 rfl (.bool true) (fun _ hS=>(by kernel_rfl)) ⟨V_A,M.below⟩ ?_; refine mayH (i:=2) (some 51) rfl false undef undef rfl rfl rfl (fun hc=>by cases hc) (by kernel_rfl) (by kernel_rfl) (by kernel_rfl) (fun _ _ _ h=>h) ⟨V_A,M.below⟩ ?_; simp only [aP,lI,l0,lS]
           refine mayH (i:=3) (some 52) rfl false undef undef rfl rfl rfl (fun hc=>by cases hc) (by kernel_rfl) (by kernel_rfl) (by kernel_rfl) (fun _ _ _ h=>h) ⟨V_A,M.below⟩ ?_; simp only [aP,lI,l0,lS]; refine mayH (i:=4) (some 53) rfl false undef undef rfl rfl rfl (fun hc=>by cases hc) (by kernel_rfl) (by kernel_rfl) (by kernel_rfl) (fun _ _ _ h=>h) ⟨V_A,M.below⟩ ?_
           simp only [aP,lI,l0,lS]; refine mayH (i:=5) (some 54) rfl false undef undef rfl rfl rfl (fun hc=>by cases hc) (by kernel_rfl) (by kernel_rfl) (by kernel_rfl) (fun _ _ _ h=>h) ⟨V_A,M.below⟩ ?_; simp only [aP,lI,l0,lS]
           refine mayH (i:=6) (some 55) rfl false undef undef rfl rfl rfl (fun hc=>by cases hc) (by kernel_rfl) (by kernel_rfl) (by kernel_rfl) (fun _ _ _ h=>h) ⟨V_A,M.below⟩ ?_; simp only [aP,lI,l0,lS]; refine mayH (i:=7) (some 56) rfl false undef undef rfl rfl rfl (fun hc=>by cases hc) (by kernel_rfl) (by kernel_rfl) (by kernel_rfl) (fun _ _ _ h=>h) ⟨V_A,M.below⟩ ?_
           simp only [aP,lI,l0,lS]; refine mayH (i:=8) (some 57) rfl false undef undef rfl rfl rfl (fun hc=>by cases hc) (by kernel_rfl) (by kernel_rfl) (by kernel_rfl) (fun _ _ _ h=>h) ⟨V_A,M.below⟩ ?_; simp only [aP,lI,l0,lS]
           refine mayH (i:=9) (some 58) rfl false undef undef rfl rfl rfl (fun hc=>by cases hc) (by kernel_rfl) (by kernel_rfl) (by kernel_rfl) (fun _ _ _ h=>h) ⟨V_A,M.below⟩ ?_; simp only [aP,lI,l0,lS]; refine mayH (i:=10) (some 59) rfl false undef undef rfl rfl rfl (fun hc=>by cases hc) (by kernel_rfl) (by kernel_rfl) (by kernel_rfl) (fun _ _ _ h=>h) ⟨V_A,M.below⟩ ?_
           simp only [aP,lI,l0,lS]; refine xrH 11 60 rfl (.bool true) (fun _ hS=>(by kernel_rfl)) ⟨V_A,M.below⟩ ?_; refine xrH 12 9 rfl (.bool true) (fun _ hS=>(by kernel_rfl)) ⟨V_A,M.below⟩ ?_
           refine wpAnyH_done (by kernel_rfl) ?_ _
           first | show Exit.then _ _ _ _ _ | show Exit.inBlock _ _ _ _ _
           have ht9:=show Hid _ from (show thr lv (bl ids i) (k+1)=true from thr_1 htk); have HS:=show Hid _ from (show I w4 (.pointer (some ⟨Ra,0,none⟩)) (ts (-1) lv) ga∧OwnI w4 w0.heap.size (lv) (.slice sA (lv).length cA)∧Mm w0 ((obs sA)++(ga++([]:List (Nat × List Value)))) w4 from ⟨hIa,V_A,M⟩); clear M hIa V_A; go_wp2
           go_roundw
           case rel=>exact ⟨k+1,by omega,by rw [ht9.out] <;> rfl,by go_num,HS.out⟩
           case measure=>simp [intOf]; omega
         | false =>
           by_cases hxe:bl lv k=bl ids i
           · go_upto_region 11 with fail
             refine wp_region_list ?_; refine xpL (.int .i64 ((k:Nat):Int)) ?_; refine xpL (.slice sA lv.length cA) ?_; refine xaL (.int .i64 ((lv.length:Nat):Int)) (lenS _ 29 3 sA lv.length cA rfl Try.underlying29 rfl _) ?_; refine xaL (.bool true) (lssI .i64 _ _ _ _ _ _ rfl rfl rfl true (decide_eq_true (by omega)) _) ?_; refine xT ?_; go_upto_region 13 with fail
             have hdr:=(Below.refl wr.heap.size wr).drew; replace M:=M.drew; replace hIa:=hK.bel hIa hdr; replace V_A:=Own.below V_A hdr; clear hdr; refine wp_region_held_drew (S:=fun w'=>OwnI w' w0.heap.size lv (.slice sA lv.length cA)∧Below w0.heap.size w0 w') (by kernel_rfl) ⟨V_A,M.below⟩ ?_; intro _; generalize wr.drew=w5 at M hIa V_A ⊢
             refine xrH 0 49 rfl (.bool false) (fun _ hS=>(by kernel_rfl)) ⟨V_A,M.below⟩ ?_; refine xrH 1 50 rfl (.bool false) (fun _ hS=>(by kernel_rfl)) ⟨V_A,M.below⟩ ?_; refine xrH 2 51 rfl (.slice sA lv.length cA) (fun _ hS=>(by kernel_rfl)) ⟨V_A,M.below⟩ ?_; refine xrH 3 52 rfl (.int .i64 ((k:Nat):Int)) (fun _ hS=>(by kernel_rfl)) ⟨V_A,M.below⟩ ?_
             refine xrH 4 53 rfl (.pointer (some (adA.add k))) (fun _ hS=>idxSlE 29 3 _ _ .i64 _ adA hgA k _ _ Try.underlying29 (fun _=>by kernel_rfl) hkl rfl rfl rfl _) ⟨V_A,M.below⟩ ?_
             refine xrH 5 54 rfl (.int .i64 (bl lv k)) (fun _ hS=>load1 3 _ (adA.add k) _ rfl rfl (fun _=>by kernel_rfl) ((SrcI.atE21 (OwnI.src21 hS.1) hgA hkl).trans (by rw [show bl lv k=bl lv k from rfl]))) ⟨V_A,M.below⟩ ?_; refine xrH 6 55 rfl (.slice sp ids.length cap) (fun _ hS=>(by kernel_rfl)) ⟨V_A,M.below⟩ ?_
             refine xrH 7 56 rfl (.int .i64 ((i:Nat):Int)) (fun _ hS=>(by kernel_rfl)) ⟨V_A,M.below⟩ ?_; refine xrH 8 57 rfl (.pointer (some (adR.add i))) (fun _ hS=>idxSlE 29 3 _ _ .i64 _ adR hgR i _ _ Try.underlying29 (fun _=>by kernel_rfl) hir rfl rfl rfl _) ⟨V_A,M.below⟩ ?_
             refine xrH 9 58 rfl (.int .i64 (bl ids i)) (fun _ hS=>load1 3 _ (adR.add i) _ rfl rfl (fun _=>by kernel_rfl) (SrcI.atE21 (SrcI.below hsrc hS.2 (xnR _)) hgR hir)) ⟨V_A,M.below⟩ ?_; refine xrH 10 59 rfl (.bool true) (fun _ hS=>eqlI .i64 _ _ _ _ _ _ rfl rfl rfl true (by rw [beq_iff_eq]; exact hxe) _) ⟨V_A,M.below⟩ ?_
             refine xrH 11 60 rfl (.bool true) (fun _ hS=>(by kernel_rfl)) ⟨V_A,M.below⟩ ?_; refine xrH 12 9 rfl (.bool true) (fun _ hS=>(by kernel_rfl)) ⟨V_A,M.below⟩ ?_
             refine wpAnyH_done (by kernel_rfl) ?_ _
             first | show Exit.then _ _ _ _ _ | show Exit.inBlock _ _ _ _ _
             have ht9:=show Hid _ from (show thr lv (bl ids i) (k+1)=true from thr_2 hxe); have HS:=show Hid _ from (show I w5 (.pointer (some ⟨Ra,0,none⟩)) (ts (-1) lv) ga∧OwnI w5 w0.heap.size (lv) (.slice sA (lv).length cA)∧Mm w0 ((obs sA)++(ga++([]:List (Nat × List Value)))) w5 from ⟨hIa,V_A,M⟩); clear M hIa V_A; go_wp2
             go_roundw
             case rel=>exact ⟨k+1,by omega,by rw [ht9.out] <;> rfl,by go_num,HS.out⟩
             case measure=>simp [intOf]; omega
           · go_upto_region 11 with fail
             refine wp_region_list ?_; refine xpL (.int .i64 ((k:Nat):Int)) ?_; refine xpL (.slice sA lv.length cA) ?_; refine xaL (.int .i64 ((lv.length:Nat):Int)) (lenS _ 29 3 sA lv.length cA rfl Try.underlying29 rfl _) ?_; refine xaL (.bool true) (lssI .i64 _ _ _ _ _ _ rfl rfl rfl true (decide_eq_true (by omega)) _) ?_; refine xT ?_; go_upto_region 13 with fail
             have hdr:=(Below.refl wr.heap.size wr).drew; replace M:=M.drew; replace hIa:=hK.bel hIa hdr; replace V_A:=Own.below V_A hdr; clear hdr; refine wp_region_held_drew (S:=fun w'=>OwnI w' w0.heap.size lv (.slice sA lv.length cA)∧Below w0.heap.size w0 w') (by kernel_rfl) ⟨V_A,M.below⟩ ?_; intro _; generalize wr.drew=w6 at M hIa V_A ⊢
             refine xrH 0 49 rfl (.bool false) (fun _ hS=>(by kernel_rfl)) ⟨V_A,M.below⟩ ?_; refine xrH 1 50 rfl (.bool false) (fun _ hS=>(by kernel_rfl)) ⟨V_A,M.below⟩ ?_; refine xrH 2 51 rfl (.slice sA lv.length cA) (fun _ hS=>(by kernel_rfl)) ⟨V_A,M.below⟩ ?_; refine xrH 3 52 rfl (.int .i64 ((k:Nat):Int)) (fun _ hS=>(by kernel_rfl)) ⟨V_A,M.below⟩ ?_
             refine xrH 4 53 rfl (.pointer (some (adA.add k))) (fun _ hS=>idxSlE 29 3 _ _ .i64 _ adA hgA k _ _ Try.underlying29 (fun _=>by kernel_rfl) hkl rfl rfl rfl _) ⟨V_A,M.below⟩ ?_
             refine xrH 5 54 rfl (.int .i64 (bl lv k)) (fun _ hS=>load1 3 _ (adA.add k) _ rfl rfl (fun _=>by kernel_rfl) ((SrcI.atE21 (OwnI.src21 hS.1) hgA hkl).trans (by rw [show bl lv k=bl lv k from rfl]))) ⟨V_A,M.below⟩ ?_; refine xrH 6 55 rfl (.slice sp ids.length cap) (fun _ hS=>(by kernel_rfl)) ⟨V_A,M.below⟩ ?_
             refine xrH 7 56 rfl (.int .i64 ((i:Nat):Int)) (fun _ hS=>(by kernel_rfl)) ⟨V_A,M.below⟩ ?_; refine xrH 8 57 rfl (.pointer (some (adR.add i))) (fun _ hS=>idxSlE 29 3 _ _ .i64 _ adR hgR i _ _ Try.underlying29 (fun _=>by kernel_rfl) hir rfl rfl rfl _) ⟨V_A,M.below⟩ ?_
             refine xrH 9 58 rfl (.int .i64 (bl ids i)) (fun _ hS=>load1 3 _ (adR.add i) _ rfl rfl (fun _=>by kernel_rfl) (SrcI.atE21 (SrcI.below hsrc hS.2 (xnR _)) hgR hir)) ⟨V_A,M.below⟩ ?_; refine xrH 10 59 rfl (.bool false) (fun _ hS=>eqlI .i64 _ _ _ _ _ _ rfl rfl rfl false (beq_eq_false_iff_ne.2 hxe) _) ⟨V_A,M.below⟩ ?_
             refine xrH 11 60 rfl (.bool false) (fun _ hS=>(by kernel_rfl)) ⟨V_A,M.below⟩ ?_; refine xrH 12 9 rfl (.bool false) (fun _ hS=>(by kernel_rfl)) ⟨V_A,M.below⟩ ?_
             refine wpAnyH_done (by kernel_rfl) ?_ _
             first | show Exit.then _ _ _ _ _ | show Exit.inBlock _ _ _ _ _
             have ht9:=show Hid _ from (show thr lv (bl ids i) (k+1)=false from thr_3 htk hxe); have HS:=show Hid _ from (show I w6 (.pointer (some ⟨Ra,0,none⟩)) (ts (-1) lv) ga∧OwnI w6 w0.heap.size (lv) (.slice sA (lv).length cA)∧Mm w0 ((obs sA)++(ga++([]:List (Nat × List Value)))) w6 from ⟨hIa,V_A,M⟩); clear M hIa V_A; go_wp2
             go_roundw
             case rel=>exact ⟨k+1,by omega,by rw [ht9.out] <;> rfl,by go_num,HS.out⟩
             case measure=>simp [intOf]; omega
       · have hkn:k=lv.length:=by omega
         subst hkn
         cases htk:thr lv (bl ids i) lv.length with
         | true =>
           go_upto_region 11 with fail; refine wp_region_list ?_; refine xpL (.int .i64 ((lv.length:Nat):Int)) ?_; refine xpL (.slice sA lv.length cA) ?_; refine xaL (.int .i64 ((lv.length:Nat):Int)) (lenS _ 29 3 sA lv.length cA rfl Try.underlying29 rfl _) ?_; refine xaL (.bool false) (lssI .i64 _ _ _ _ _ _ rfl rfl rfl false (decide_eq_false (by omega)) _) ?_; refine xT ?_
           go_upto_region 14 with fail; refine wp_region_list ?_; refine xpL (.bool true) ?_; refine xpL (.bool false) ?_; refine xT ?_; have HS:=show Hid _ from (show I wr (.pointer (some ⟨Ra,0,none⟩)) (ts (-1) lv) ga∧OwnI wr w0.heap.size (lv) (.slice sA (lv).length cA)∧Mm w0 ((obs sA)++(ga++([]:List (Nat × List Value)))) wr from ⟨hIa,V_A,M⟩); clear M hIa V_A; go_wp2
           go_roundw
           case rel=>exact ⟨i+1,_,_,_,_,by omega,hT,rfl,by go_num,HS.out⟩
           case measure=>simp [intOf]; omega
         | false =>
           go_upto_region 11 with fail; refine wp_region_list ?_; refine xpL (.int .i64 ((lv.length:Nat):Int)) ?_; refine xpL (.slice sA lv.length cA) ?_; refine xaL (.int .i64 ((lv.length:Nat):Int)) (lenS _ 29 3 sA lv.length cA rfl Try.underlying29 rfl _) ?_; refine xaL (.bool false) (lssI .i64 _ _ _ _ _ _ rfl rfl rfl false (decide_eq_false (by omega)) _) ?_; refine xT ?_
           go_upto_region 14 with fail; refine wp_region_list ?_; refine xpL (.bool false) ?_; refine xpL (.bool true) ?_; refine xT ?_; have hout:=thr_out htk
           have hT2:TuW (lv++[bl ids i]):=hT.add hi16 hout.1 (by have:=bl_i64 hri i; unfold i64 at this; omega) hout.2
           go_upto_region 15 with fail; refine wp_region_list ?_; refine xpL (.slice sA lv.length cA) ?_; refine xpL (.slice sp ids.length cap) ?_; refine xpL (.int .i64 ((i:Nat):Int)) ?_; refine xaL (.pointer (some (adR.add i))) (idxSlE 29 3 _ _ .i64 _ adR hgR i _ _ Try.underlying29 (fun _=>by kernel_rfl) hir rfl rfl rfl _) ?_
           refine xaL (.int .i64 (bl ids i)) (load1 3 _ (adR.add i) _ rfl rfl (fun _=>by kernel_rfl) (SrcI.atE21 (SrcI.below hsrc M.below (xnR _)) hgR hir)) ?_; have hlb:=(Below.refl wr.heap.size wr).alloc (xnR _) (.cells #[.int .i64 (bl ids i)] 3); refine actL (w':=wr.alloc (.cells #[.int .i64 (bl ids i)] 3)) (.slice (some ⟨wr.heap.size,0,none⟩) 1 1) rfl (by kernel_rfl) ?_
           simp only [aP,lI,l0,lS]; replace hIa:=hK.bel hIa hlb; replace V_A:=Own.below V_A hlb; replace M:=M.box #[.int .i64 (bl ids i)] 3 wr.heap.size rfl; clear hlb; generalize wr.alloc (.cells #[.int .i64 (bl ids i)] 3)=w7 at M hIa V_A ⊢; generalize wr.heap.size=B7 at M ⊢
           replace M:Mm w0 ((B7,[.int .i64 (bl ids i)])::((obs sA)++(ga++([]:List (Nat × List Value))))) w7:=M
           obtain ⟨v2,w8,hr,V2,hgr,hg2⟩:=run_append_Own (P:=Try.prog) (ty:=29) Try.underlying29 one64 V_A (some ⟨B7,0,none⟩) 1 1 (bl [bl ids i]) (M.srcI mS [bl ids i] rfl) (fun e=>by cases e) (by unfold maxLen; have:=hT.n; omega) (by have:=hT.n; omega) M.below.size
           have Mp:=M.perm (pull0 ([(B7,[.int .i64 (bl ids i)])]:List (Nat × List Value)) (obs sA) (ga++([]:List (Nat × List Value))))
           have V3:OwnI w8 w0.heap.size (lv++[bl ids i]) v2:=OwnI.app V2
           obtain ⟨sA8,cA8,rfl,_,_⟩:=row_form16 V2
           have M':=Mp.rowApp V_A hgr V2 hg2 (xnR _)
           have oS:Off (ob sA) w7 w8:=(Off.refl (ob sA) w7).grown hgr (fun b_ hb_=>.inl ((ob_own _ _ _ _).1 hb_))
           replace hIa:=hK.off _ _ _ _ _ _ hIa oS (fun b_ hb_=>Mp.awayG (fun p_ hp_=>by simp [hp_]) b_ (by rw [obs_fst]; exact hb_)); refine xaL _ (appendOp _ _ 29 _ _ _ rfl rfl rfl hr) ?_; clear hr hgr hg2 V_A oS Mp M V2
           have hlA:lv.length+1=(lv++[bl ids i]).length:=by rw [List.length_append]; rfl
           rw [hlA] at ⊢
           rw [← (show lv++[bl ids i]=lv++[bl ids i] from rfl)] at V3
           have V_A:OwnI w8 w0.heap.size (lv++[bl ids i]) (.slice sA8 (lv++[bl ids i]).length cA8):=by rw [← hlA]; exact V3
           clear V3
           have M:Mm w0 ((B7,[.int .i64 (bl ids i)])::((obs sA8)++(ga++([]:List (Nat × List Value))))) w8:=M'.perm (pull0 ([(B7,[.int .i64 (bl ids i)])]:List (Nat × List Value)) (obs sA8) (ga++([]:List (Nat × List Value)))).symm
           clear M' hlA; refine xpL (.slice sA8 ((lv++[bl ids i]).length) cA8) ?_; refine xT ?_; go_upto_region 16 with fail; refine wp_region_list ?_; refine xpL (.pointer (some ⟨Ra,0,none⟩)) ?_; refine xpL (.slice sp ids.length cap) ?_; refine xpL (.int .i64 ((i:Nat):Int)) ?_
           refine xaL (.pointer (some (adR.add i))) (idxSlE 29 3 _ _ .i64 _ adR hgR i _ _ Try.underlying29 (fun _=>by kernel_rfl) hir rfl rfl rfl _) ?_; refine xaL (.int .i64 (bl ids i)) (load1 3 _ (adR.add i) _ rfl rfl (fun _=>by kernel_rfl) (SrcI.atE21 (SrcI.below hsrc M.below (xnR _)) hgR hir)) ?_
           have Mp:=M.perm (pull1 ([(B7,[.int .i64 (bl ids i)])]:List (Nat × List Value)) (obs sA8) ga ([]:List (Nat × List Value))); have key:=hK.opn w0 _ _ (ts (-1) lv) ga _ (bl ids i) (ts_w hT (by decide) (by decide)) (ts_sz hT _) (bl_i64 hri i) hIa Mp
           rw [sop_ts hT (-1) hout.1 hout.2] at key
           refine xcL key ?_; clear key; rintro e w9 ⟨ba1,rfl,hI_,M',o1⟩; replace V_A:=ownsRow_away V_A o1 (Mp.awayS (fun p_ hp_=>by simp [hp_])); clear o1 Mp M hIa; have hIa:=hI_; clear hI_
           have M:Mm w0 ((B7,[.int .i64 (bl ids i)])::(ba1++((obs sA8)++([]:List (Nat × List Value))))) w9:=M'.perm (pull0 ([(B7,[.int .i64 (bl ids i)])]:List (Nat × List Value)) ba1 ((obs sA8)++([]:List (Nat × List Value)))).symm
           clear M'; refine xeL ?_; refine xT ?_; replace M:=(M.perm (pull1 ([(B7,[.int .i64 (bl ids i)])]:List (Nat × List Value)) ba1 (obs sA8) ([]:List (Nat × List Value)))).perm (pull0 ([(B7,[.int .i64 (bl ids i)])]:List (Nat × List Value)) (obs sA8) (ba1++([]:List (Nat × List Value)))).symm
           replace M:Mm w0 ((B7,[.int .i64 (bl ids i)])::((obs sA8)++(ba1++([]:List (Nat × List Value))))) w9:=M
           have M2:Mm w0 ((obs sA8)++(ba1++([]:List (Nat × List Value)))) w9:=M.tail
           have HS:=show Hid _ from (show I w9 (.pointer (some ⟨Ra,0,none⟩)) (ts (-1) (lv++[bl ids i])) ba1∧OwnI w9 w0.heap.size (lv++[bl ids i]) (.slice sA8 (lv++[bl ids i]).length cA8)∧Mm w0 ((obs sA8)++(ba1++([]:List (Nat × List Value)))) w9 from ⟨hIa,V_A,M2⟩); clear M hIa V_A; go_wp2
           go_roundw
           case rel=>exact ⟨i+1,_,_,_,_,by omega,hT2,rfl,by go_num,HS.out⟩
           case measure=>simp [intOf]; omega
    · as_aux_lemma =>
       go_upto_region 7 with fail; refine wp_region_list ?_; refine xpL (.int .i64 ((i:Nat):Int)) ?_; refine xpL (.slice sp ids.length cap) ?_; refine xaL (.int .i64 ((ids.length:Nat):Int)) (lenS _ 29 3 sp ids.length cap rfl Try.underlying29 rfl _) ?_; refine xaL (.bool true) (lssI .i64 _ _ _ _ _ _ rfl rfl rfl true (decide_eq_true (by omega)) _) ?_; refine xpL (.bool true) ?_
       refine xpL (.slice sA lv.length cA) ?_; refine xaL (.int .i64 ((lv.length:Nat):Int)) (lenS _ 29 3 sA lv.length cA rfl Try.underlying29 rfl _) ?_; refine xaL (.bool false) (lssI .i64 _ _ _ _ _ _ rfl rfl rfl false (decide_eq_false (by omega)) _) ?_; refine xpL (.bool false) ?_; refine xT ?_; clear hi; go_upto_region 17 with fail; refine wp_region_list ?_; refine xpL (.int .i64 0) ?_
       refine xT ?_; have HI:=show Hid _ from (show I wr (.pointer (some ⟨Ra,0,none⟩)) (ts (-1) lv) ga∧OwnI wr w0.heap.size (lv) (.slice sA (lv).length cA)∧Mm w0 ((obs sA)++(ga++([]:List (Nat × List Value)))) wr from ⟨hIa,V_A,M⟩); clear M hIa V_A; go_wp2
       go_loopw [11] (fun r_ w'=>∃ (r:Nat) (L:Int) (ga:List (Nat × List Value)),r≤kz+1∧-1≤L∧L<9223372036854775808∧(L=-1∨∀ x∈lv,x≤L)∧r_=.int .i64 (r:Int)∧I w' (.pointer (some ⟨Ra,0,none⟩)) (ts L lv) ga∧OwnI w' w0.heap.size (lv) (.slice sA (lv).length cA)∧Mm w0 ((obs sA)++(ga++([]:List (Nat × List Value)))) w') (fun r_ _=>kz+1-(intOf r_).toNat)
       case atStart=>exact ⟨0,-1,_,Nat.zero_le _,by decide,by decide,.inl rfl,rfl,HI.out⟩
       case round =>
        clear HI
        obtain ⟨r,L,ga,hr,hL1,hL2,hLL,rfl,hIa,V_A,M⟩:=hrel
        by_cases hrk:r<kz+1
        · go_upto_region 18 with fail
          refine wp_region_list ?_; refine xpL (.int .i64 ((r:Nat):Int)) ?_; refine xpL (.int .i64 n) ?_; have key:=kind21_any n 4 (by decide) hn wr; refine xcL key ?_; clear key; rintro e w15 ⟨rfl,l_⟩; replace M:=M.call l_; replace hIa:=hK.bel hIa l_; replace V_A:=Own.below V_A l_; clear l_; refine xeL ?_
          rw [← hkz]
          refine xaL (.int .i64 ((kz+1:Nat):Int)) (addI .i64 _ _ _ _ _ _ _ rfl rfl rfl (by rw [xw6]; omega) _) ?_; refine xaL (.bool true) (lssI .i64 _ _ _ _ _ _ rfl rfl rfl true (decide_eq_true (by omega)) _) ?_; refine xT ?_; go_upto_region 20 with fail; refine wp_region_list ?_; refine xpL (.int .i64 (-1)) ?_; refine xT ?_; go_upto_region 21 with fail; refine wp_region_list ?_
          refine xpL (.int .i64 0) ?_; refine xT ?_; have HI:=show Hid _ from (show I w15 (.pointer (some ⟨Ra,0,none⟩)) (ts L lv) ga∧OwnI w15 w0.heap.size (lv) (.slice sA (lv).length cA)∧Mm w0 ((obs sA)++(ga++([]:List (Nat × List Value)))) w15 from ⟨hIa,V_A,M⟩); clear M hIa V_A; go_wp2
          go_loopw [12,13] (fun l_ j_ w'=>∃ (j:Nat) (lst L:Int) (ga:List (Nat × List Value)),tcn lst lv+j=lv.length∧-1≤lst∧-1≤L∧L<9223372036854775808∧(L=lst∨(lst=-1∧∀ x∈lv,x≤L))∧l_=.int .i64 lst∧j_=.int .i64 (j:Int)∧I w' (.pointer (some ⟨Ra,0,none⟩)) (ts L lv) ga∧OwnI w' w0.heap.size (lv) (.slice sA (lv).length cA)∧Mm w0 ((obs sA)++(ga++([]:List (Nat × List Value)))) w') (fun _ j_ _=>lv.length-(intOf j_).toNat)
          case atStart=>exact ⟨0,-1,L,_,tcn_all (fun x_ h_=>(hT.p x_ h_).1),by decide,hL1,hL2,hLL.elim .inl (fun h_=>.inr ⟨rfl,h_⟩),rfl,rfl,HI.out⟩
          case round =>
           clear HI hL1 hL2 hLL
           obtain ⟨j,lst,L,ga,hc,hl1,hL1,hL2,hLL,rfl,rfl,hIa,V_A,M⟩:=hrel
           by_cases hjl:j<lv.length
           · obtain ⟨x,hx,hxe,hlx,hcx⟩:=turn_ts hT hl1 hLL (by omega) []
             have hj16:j<16:=by have:=hT.n; omega
             go_upto_region 22 with fail; refine wp_region_list ?_; refine xpL (.int .i64 ((j:Nat):Int)) ?_; refine xpL (.slice sA lv.length cA) ?_; refine xaL (.int .i64 ((lv.length:Nat):Int)) (lenS _ 29 3 sA lv.length cA rfl Try.underlying29 rfl _) ?_; refine xaL (.bool true) (lssI .i64 _ _ _ _ _ _ rfl rfl rfl true (decide_eq_true (by omega)) _) ?_; refine xT ?_
             go_upto_region 24 with fail; refine wp_region_list ?_; refine xpL (.pointer (some ⟨Ra,0,none⟩)) ?_; refine xpL (.slice sA lv.length cA) ?_; have Mp:=M.perm (pull1 ([]:List (Nat × List Value)) (obs sA) ga ([]:List (Nat × List Value)))
             have key:=hK.pck w0 _ _ (ts L lv) ga _ lv sA cA [] none 0 (ts_w hT hL1 hL2) (ts_sz hT _) (by have:=hT.n; omega) (Own.le V_A) (Own.nilCap V_A) hT.i (OwnI.src21 V_A) (fun b_ hb_ _=>Mp.awayS (fun p_ hp_=>by simp [hp_]) b_ hb_) (by decide) (by decide) (fun _=>rfl) (fun _ h_=>by cases h_) (fun j hj=>absurd hj (xnZ j)) (fun _ _ h_=>absurd rfl h_) hIa Mp
             rw [(told_ts hT hx hxe).1] at key
             rw [(told_ts hT hx hxe).2.1] at key
             rw [(told_ts hT hx hxe).2.2] at key
             refine xcL key ?_; clear key; rintro e w16 ⟨ba1,rfl,hI_,M',o1⟩; replace V_A:=ownsRow_away V_A o1 (Mp.awayS (fun p_ hp_=>by simp [hp_])); clear o1 Mp M hIa; have hIa:=hI_; clear hI_
             have M:Mm w0 ((ba1++((obs sA)++([]:List (Nat × List Value))))) w16:=M'.perm (pull0 ([]:List (Nat × List Value)) ba1 ((obs sA)++([]:List (Nat × List Value)))).symm
             clear M'; refine xeL ?_; refine xpL (.tuple #[.int .i64 x,.bool true]) ?_; refine xpL (.int .i64 x) ?_; refine xpL (.bool true) ?_; refine xpL (.int .i64 x) ?_; refine xpL (.bool true) ?_; refine xT ?_; go_upto_region 25 with fail; refine wp_region_list ?_; refine xpL (.bool true) ?_; refine xpL (.bool false) ?_; refine xpL (.bool false) ?_; refine xpL (.int .i64 x) ?_
             refine xpL (.int .i64 lst) ?_; refine xaL (.bool false) (leqI .i64 _ _ _ _ _ _ rfl rfl rfl false (decide_eq_false (by omega)) _) ?_; refine xpL (.bool false) ?_; refine xT ?_; go_upto_region 27 with fail; refine wp_region_list ?_; refine xpL (.int .i64 x) ?_; refine xpL (.int .i64 x) ?_; refine xT ?_
             replace M:=(M.perm (pull1 ([]:List (Nat × List Value)) ba1 (obs sA) ([]:List (Nat × List Value)))).perm (pull0 ([]:List (Nat × List Value)) (obs sA) (ba1++([]:List (Nat × List Value)))).symm
             replace M:Mm w0 (((obs sA)++(ba1++([]:List (Nat × List Value))))) w16:=M
             have HS:=show Hid _ from (show I w16 (.pointer (some ⟨Ra,0,none⟩)) (ts x lv) ba1∧OwnI w16 w0.heap.size (lv) (.slice sA (lv).length cA)∧Mm w0 ((obs sA)++(ba1++([]:List (Nat × List Value)))) w16 from ⟨hIa,V_A,M⟩); clear M hIa V_A; go_wp2
             go_roundw
             case rel=>exact ⟨j+1,x,x,_,by omega,(tu_x hT hx).1,(tu_x hT hx).1,(tu_x hT hx).2,.inl rfl,rfl,by go_num,HS.out⟩
             case measure=>simp [intOf]; omega
           · go_upto_region 22 with fail
             refine wp_region_list ?_; refine xpL (.int .i64 ((j:Nat):Int)) ?_; refine xpL (.slice sA lv.length cA) ?_; refine xaL (.int .i64 ((lv.length:Nat):Int)) (lenS _ 29 3 sA lv.length cA rfl Try.underlying29 rfl _) ?_; refine xaL (.bool false) (lssI .i64 _ _ _ _ _ _ rfl rfl rfl false (decide_eq_false (by omega)) _) ?_; refine xT ?_
             have hz:=tcn_zero (t:=lst) (a:=lv) (by omega)
             have h1:∀ x∈lv,x≤L:=hLL.elim (fun e_=>by rw [e_]; exact hz) (fun e_=>e_.2)
             have HS:=show Hid _ from (show I wr (.pointer (some ⟨Ra,0,none⟩)) (ts L lv) ga∧OwnI wr w0.heap.size (lv) (.slice sA (lv).length cA)∧Mm w0 ((obs sA)++(ga++([]:List (Nat × List Value)))) wr from ⟨hIa,V_A,M⟩); clear M hIa V_A hz; go_wp2
             go_roundw
             case rel=>exact ⟨r+1,L,_,by omega,hL1,hL2,.inr h1,by go_num,HS.out⟩
             case measure=>simp [intOf]; omega
        · go_upto_region 18 with fail
          refine wp_region_list ?_; refine xpL (.int .i64 ((r:Nat):Int)) ?_; refine xpL (.int .i64 n) ?_; have key:=kind21_any n 4 (by decide) hn wr; refine xcL key ?_; clear key; rintro e w17 ⟨rfl,l_⟩; replace M:=M.call l_; replace hIa:=hK.bel hIa l_; replace V_A:=Own.below V_A l_; clear l_; refine xeL ?_
          rw [← hkz]
          refine xaL (.int .i64 ((kz+1:Nat):Int)) (addI .i64 _ _ _ _ _ _ _ rfl rfl rfl (by rw [xw6]; omega) _) ?_; refine xaL (.bool false) (lssI .i64 _ _ _ _ _ _ rfl rfl rfl false (decide_eq_false (by omega)) _) ?_; refine xT ?_
          by_cases hne:0<lv.length
          · obtain ⟨x,hx,hxe,_⟩:=pick_ts hT L hne []
            go_upto_region 28 with fail; refine wp_region_list ?_; refine xpL (.pointer (some ⟨Ra,0,none⟩)) ?_; refine xpL (.slice sA lv.length cA) ?_; have Mp:=M.perm (pull1 ([]:List (Nat × List Value)) (obs sA) ga ([]:List (Nat × List Value)))
            have key:=hK.pck w0 _ _ (ts L lv) ga _ lv sA cA [] none 0 (ts_w hT hL1 hL2) (ts_sz hT _) (by have:=hT.n; omega) (Own.le V_A) (Own.nilCap V_A) hT.i (OwnI.src21 V_A) (fun b_ hb_ _=>Mp.awayS (fun p_ hp_=>by simp [hp_]) b_ hb_) (by decide) (by decide) (fun _=>rfl) (fun _ h_=>by cases h_) (fun j hj=>absurd hj (xnZ j)) (fun _ _ h_=>absurd rfl h_) hIa Mp
            rw [(told_ts hT hx hxe).1] at key
            rw [(told_ts hT hx hxe).2.1] at key
            rw [(told_ts hT hx hxe).2.2] at key
            refine xcL key ?_; clear key; rintro e w18 ⟨ba1,rfl,hI_,M',o1⟩; replace V_A:=ownsRow_away V_A o1 (Mp.awayS (fun p_ hp_=>by simp [hp_])); clear o1 Mp M hIa; have hIa:=hI_; clear hI_
            have M:Mm w0 ((ba1++((obs sA)++([]:List (Nat × List Value))))) w18:=M'.perm (pull0 ([]:List (Nat × List Value)) ba1 ((obs sA)++([]:List (Nat × List Value)))).symm
            clear M'; refine xeL ?_; refine xpL (.tuple #[.int .i64 x,.bool true]) ?_; refine xpL (.int .i64 x) ?_; refine xpL (.bool true) ?_; refine xpL (.int .i64 x) ?_; refine xpL (.bool true) ?_; refine xT ?_; go_upto_region 29 with fail; refine wp_region_list ?_; refine xpL (.bool true) ?_; refine xpL (.slice sA lv.length cA) ?_
            refine xaL (.int .i64 ((lv.length:Nat):Int)) (lenS _ 29 3 sA lv.length cA rfl Try.underlying29 rfl _) ?_; refine xaL (.bool true) (gtrI .i64 _ _ _ _ _ _ rfl rfl rfl true (decide_eq_true (by omega)) _) ?_; refine xaL (.bool true) (eqlB _ _ _ _ _ _ rfl rfl rfl (by kernel_rfl) true (by decide) _) ?_; refine xpL (.bool true) ?_; refine xT ?_; have hbel:=M.below; clear M hIa V_A
            go_wp2; go_ret
            exact ⟨rfl,hbel⟩
          · go_upto_region 28 with fail
            refine wp_region_list ?_; refine xpL (.pointer (some ⟨Ra,0,none⟩)) ?_; refine xpL (.slice sA lv.length cA) ?_; have Mp:=M.perm (pull1 ([]:List (Nat × List Value)) (obs sA) ga ([]:List (Nat × List Value)))
            have key:=hK.pck w0 _ _ (ts L lv) ga _ lv sA cA [] none 0 (ts_w hT hL1 hL2) (ts_sz hT _) (by have:=hT.n; omega) (Own.le V_A) (Own.nilCap V_A) hT.i (OwnI.src21 V_A) (fun b_ hb_ _=>Mp.awayS (fun p_ hp_=>by simp [hp_]) b_ hb_) (by decide) (by decide) (fun _=>rfl) (fun _ h_=>by cases h_) (fun j hj=>absurd hj (xnZ j)) (fun _ _ h_=>absurd rfl h_) hIa Mp
            rw [(none_ts2 hne L []).1] at key
            rw [(none_ts2 hne L []).2.1] at key
            rw [(none_ts2 hne L []).2.2] at key
            refine xcL key ?_; clear key; rintro e w19 ⟨ba1,rfl,hI_,M',o1⟩; replace V_A:=ownsRow_away V_A o1 (Mp.awayS (fun p_ hp_=>by simp [hp_])); clear o1 Mp M hIa; have hIa:=hI_; clear hI_
            have M:Mm w0 ((ba1++((obs sA)++([]:List (Nat × List Value))))) w19:=M'.perm (pull0 ([]:List (Nat × List Value)) ba1 ((obs sA)++([]:List (Nat × List Value)))).symm
            clear M'; refine xeL ?_; refine xpL (.tuple #[.int .i64 0,.bool false]) ?_; refine xpL (.int .i64 0) ?_; refine xpL (.bool false) ?_; refine xpL (.int .i64 0) ?_; refine xpL (.bool false) ?_; refine xT ?_; go_upto_region 29 with fail; refine wp_region_list ?_; refine xpL (.bool false) ?_; refine xpL (.slice sA lv.length cA) ?_
            refine xaL (.int .i64 ((lv.length:Nat):Int)) (lenS _ 29 3 sA lv.length cA rfl Try.underlying29 rfl _) ?_; refine xaL (.bool false) (gtrI .i64 _ _ _ _ _ _ rfl rfl rfl false (decide_eq_false (by omega)) _) ?_; refine xaL (.bool true) (eqlB _ _ _ _ _ _ rfl rfl rfl (by kernel_rfl) true (by decide) _) ?_; refine xpL (.bool true) ?_; refine xT ?_; have hbel:=M.below; clear M hIa V_A
            go_wp2; go_ret
            exact ⟨rfl,hbel⟩
  · as_aux_lemma =>
     go_upto_region 7 with fail; refine wp_region_list ?_; refine xpL (.int .i64 ((i:Nat):Int)) ?_; refine xpL (.slice sp ids.length cap) ?_; refine xaL (.int .i64 ((ids.length:Nat):Int)) (lenS _ 29 3 sp ids.length cap rfl Try.underlying29 rfl _) ?_; refine xaL (.bool false) (lssI .i64 _ _ _ _ _ _ rfl rfl rfl false (decide_eq_false (by omega)) _) ?_; refine xpL (.bool false) ?_
     with_reducible refine skipL ?_ ?_
     · rfl
     simp only [aP,lI,l0,lS]
     with_reducible refine skipL ?_ ?_
     · rfl
     simp only [aP,lI,l0,lS]
     with_reducible refine skipL ?_ ?_
     · rfl
     simp only [aP,lI,l0,lS]; refine xpL (.bool false) ?_; refine xT ?_; clear hi; go_upto_region 17 with fail; refine wp_region_list ?_; refine xpL (.int .i64 0) ?_; refine xT ?_
     have HI:=show Hid _ from (show I wr (.pointer (some ⟨Ra,0,none⟩)) (ts (-1) lv) ga∧OwnI wr w0.heap.size (lv) (.slice sA (lv).length cA)∧Mm w0 ((obs sA)++(ga++([]:List (Nat × List Value)))) wr from ⟨hIa,V_A,M⟩); clear M hIa V_A; go_wp2
     go_loopw [11] (fun r_ w'=>∃ (r:Nat) (L:Int) (ga:List (Nat × List Value)),r≤kz+1∧-1≤L∧L<9223372036854775808∧(L=-1∨∀ x∈lv,x≤L)∧r_=.int .i64 (r:Int)∧I w' (.pointer (some ⟨Ra,0,none⟩)) (ts L lv) ga∧OwnI w' w0.heap.size (lv) (.slice sA (lv).length cA)∧Mm w0 ((obs sA)++(ga++([]:List (Nat × List Value)))) w') (fun r_ _=>kz+1-(intOf r_).toNat)
     case atStart=>exact ⟨0,-1,_,Nat.zero_le _,by decide,by decide,.inl rfl,rfl,HI.out⟩
     case round =>
      clear HI
      obtain ⟨r,L,ga,hr,hL1,hL2,hLL,rfl,hIa,V_A,M⟩:=hrel
      by_cases hrk:r<kz+1
      · go_upto_region 18 with fail
        refine wp_region_list ?_; refine xpL (.int .i64 ((r:Nat):Int)) ?_; refine xpL (.int .i64 n) ?_; have key:=kind21_any n 4 (by decide) hn wr; refine xcL key ?_; clear key; rintro e w10 ⟨rfl,l_⟩; replace M:=M.call l_; replace hIa:=hK.bel hIa l_; replace V_A:=Own.below V_A l_; clear l_; refine xeL ?_
        rw [← hkz]
        refine xaL (.int .i64 ((kz+1:Nat):Int)) (addI .i64 _ _ _ _ _ _ _ rfl rfl rfl (by rw [xw6]; omega) _) ?_; refine xaL (.bool true) (lssI .i64 _ _ _ _ _ _ rfl rfl rfl true (decide_eq_true (by omega)) _) ?_; refine xT ?_; go_upto_region 20 with fail; refine wp_region_list ?_; refine xpL (.int .i64 (-1)) ?_; refine xT ?_; go_upto_region 21 with fail; refine wp_region_list ?_
        refine xpL (.int .i64 0) ?_; refine xT ?_; have HI:=show Hid _ from (show I w10 (.pointer (some ⟨Ra,0,none⟩)) (ts L lv) ga∧OwnI w10 w0.heap.size (lv) (.slice sA (lv).length cA)∧Mm w0 ((obs sA)++(ga++([]:List (Nat × List Value)))) w10 from ⟨hIa,V_A,M⟩); clear M hIa V_A; go_wp2
        go_loopw [12,13] (fun l_ j_ w'=>∃ (j:Nat) (lst L:Int) (ga:List (Nat × List Value)),tcn lst lv+j=lv.length∧-1≤lst∧-1≤L∧L<9223372036854775808∧(L=lst∨(lst=-1∧∀ x∈lv,x≤L))∧l_=.int .i64 lst∧j_=.int .i64 (j:Int)∧I w' (.pointer (some ⟨Ra,0,none⟩)) (ts L lv) ga∧OwnI w' w0.heap.size (lv) (.slice sA (lv).length cA)∧Mm w0 ((obs sA)++(ga++([]:List (Nat × List Value)))) w') (fun _ j_ _=>lv.length-(intOf j_).toNat)
        case atStart=>exact ⟨0,-1,L,_,tcn_all (fun x_ h_=>(hT.p x_ h_).1),by decide,hL1,hL2,hLL.elim .inl (fun h_=>.inr ⟨rfl,h_⟩),rfl,rfl,HI.out⟩
        case round =>
         clear HI hL1 hL2 hLL
         obtain ⟨j,lst,L,ga,hc,hl1,hL1,hL2,hLL,rfl,rfl,hIa,V_A,M⟩:=hrel
         by_cases hjl:j<lv.length
         · obtain ⟨x,hx,hxe,hlx,hcx⟩:=turn_ts hT hl1 hLL (by omega) []
           have hj16:j<16:=by have:=hT.n; omega
           go_upto_region 22 with fail; refine wp_region_list ?_; refine xpL (.int .i64 ((j:Nat):Int)) ?_; refine xpL (.slice sA lv.length cA) ?_; refine xaL (.int .i64 ((lv.length:Nat):Int)) (lenS _ 29 3 sA lv.length cA rfl Try.underlying29 rfl _) ?_; refine xaL (.bool true) (lssI .i64 _ _ _ _ _ _ rfl rfl rfl true (decide_eq_true (by omega)) _) ?_; refine xT ?_
           go_upto_region 24 with fail; refine wp_region_list ?_; refine xpL (.pointer (some ⟨Ra,0,none⟩)) ?_; refine xpL (.slice sA lv.length cA) ?_; have Mp:=M.perm (pull1 ([]:List (Nat × List Value)) (obs sA) ga ([]:List (Nat × List Value)))
           have key:=hK.pck w0 _ _ (ts L lv) ga _ lv sA cA [] none 0 (ts_w hT hL1 hL2) (ts_sz hT _) (by have:=hT.n; omega) (Own.le V_A) (Own.nilCap V_A) hT.i (OwnI.src21 V_A) (fun b_ hb_ _=>Mp.awayS (fun p_ hp_=>by simp [hp_]) b_ hb_) (by decide) (by decide) (fun _=>rfl) (fun _ h_=>by cases h_) (fun j hj=>absurd hj (xnZ j)) (fun _ _ h_=>absurd rfl h_) hIa Mp
           rw [(told_ts hT hx hxe).1] at key
           rw [(told_ts hT hx hxe).2.1] at key
           rw [(told_ts hT hx hxe).2.2] at key
           refine xcL key ?_; clear key; rintro e w11 ⟨ba1,rfl,hI_,M',o1⟩; replace V_A:=ownsRow_away V_A o1 (Mp.awayS (fun p_ hp_=>by simp [hp_])); clear o1 Mp M hIa; have hIa:=hI_; clear hI_
           have M:Mm w0 ((ba1++((obs sA)++([]:List (Nat × List Value))))) w11:=M'.perm (pull0 ([]:List (Nat × List Value)) ba1 ((obs sA)++([]:List (Nat × List Value)))).symm
           clear M'; refine xeL ?_; refine xpL (.tuple #[.int .i64 x,.bool true]) ?_; refine xpL (.int .i64 x) ?_; refine xpL (.bool true) ?_; refine xpL (.int .i64 x) ?_; refine xpL (.bool true) ?_; refine xT ?_; go_upto_region 25 with fail; refine wp_region_list ?_; refine xpL (.bool true) ?_; refine xpL (.bool false) ?_; refine xpL (.bool false) ?_; refine xpL (.int .i64 x) ?_
           refine xpL (.int .i64 lst) ?_; refine xaL (.bool false) (leqI .i64 _ _ _ _ _ _ rfl rfl rfl false (decide_eq_false (by omega)) _) ?_; refine xpL (.bool false) ?_; refine xT ?_; go_upto_region 27 with fail; refine wp_region_list ?_; refine xpL (.int .i64 x) ?_; refine xpL (.int .i64 x) ?_; refine xT ?_
           replace M:=(M.perm (pull1 ([]:List (Nat × List Value)) ba1 (obs sA) ([]:List (Nat × List Value)))).perm (pull0 ([]:List (Nat × List Value)) (obs sA) (ba1++([]:List (Nat × List Value)))).symm
           replace M:Mm w0 (((obs sA)++(ba1++([]:List (Nat × List Value))))) w11:=M
           have HS:=show Hid _ from (show I w11 (.pointer (some ⟨Ra,0,none⟩)) (ts x lv) ba1∧OwnI w11 w0.heap.size (lv) (.slice sA (lv).length cA)∧Mm w0 ((obs sA)++(ba1++([]:List (Nat × List Value)))) w11 from ⟨hIa,V_A,M⟩); clear M hIa V_A; go_wp2
           go_roundw
           case rel=>exact ⟨j+1,x,x,_,by omega,(tu_x hT hx).1,(tu_x hT hx).1,(tu_x hT hx).2,.inl rfl,rfl,by go_num,HS.out⟩
           case measure=>simp [intOf]; omega
         · go_upto_region 22 with fail
           refine wp_region_list ?_; refine xpL (.int .i64 ((j:Nat):Int)) ?_; refine xpL (.slice sA lv.length cA) ?_; refine xaL (.int .i64 ((lv.length:Nat):Int)) (lenS _ 29 3 sA lv.length cA rfl Try.underlying29 rfl _) ?_; refine xaL (.bool false) (lssI .i64 _ _ _ _ _ _ rfl rfl rfl false (decide_eq_false (by omega)) _) ?_; refine xT ?_
           have hz:=tcn_zero (t:=lst) (a:=lv) (by omega)
           have h1:∀ x∈lv,x≤L:=hLL.elim (fun e_=>by rw [e_]; exact hz) (fun e_=>e_.2)
           have HS:=show Hid _ from (show I wr (.pointer (some ⟨Ra,0,none⟩)) (ts L lv) ga∧OwnI wr w0.heap.size (lv) (.slice sA (lv).length cA)∧Mm w0 ((obs sA)++(ga++([]:List (Nat × List Value)))) wr from ⟨hIa,V_A,M⟩); clear M hIa V_A hz; go_wp2
           go_roundw
           case rel=>exact ⟨r+1,L,_,by omega,hL1,hL2,.inr h1,by go_num,HS.out⟩
           case measure=>simp [intOf]; omega
      · go_upto_region 18 with fail
        refine wp_region_list ?_; refine xpL (.int .i64 ((r:Nat):Int)) ?_; refine xpL (.int .i64 n) ?_; have key:=kind21_any n 4 (by decide) hn wr; refine xcL key ?_; clear key; rintro e w12 ⟨rfl,l_⟩; replace M:=M.call l_; replace hIa:=hK.bel hIa l_; replace V_A:=Own.below V_A l_; clear l_; refine xeL ?_
        rw [← hkz]
        refine xaL (.int .i64 ((kz+1:Nat):Int)) (addI .i64 _ _ _ _ _ _ _ rfl rfl rfl (by rw [xw6]; omega) _) ?_; refine xaL (.bool false) (lssI .i64 _ _ _ _ _ _ rfl rfl rfl false (decide_eq_false (by omega)) _) ?_; refine xT ?_
        by_cases hne:0<lv.length
        · obtain ⟨x,hx,hxe,_⟩:=pick_ts hT L hne []
          go_upto_region 28 with fail; refine wp_region_list ?_; refine xpL (.pointer (some ⟨Ra,0,none⟩)) ?_; refine xpL (.slice sA lv.length cA) ?_; have Mp:=M.perm (pull1 ([]:List (Nat × List Value)) (obs sA) ga ([]:List (Nat × List Value)))
          have key:=hK.pck w0 _ _ (ts L lv) ga _ lv sA cA [] none 0 (ts_w hT hL1 hL2) (ts_sz hT _) (by have:=hT.n; omega) (Own.le V_A) (Own.nilCap V_A) hT.i (OwnI.src21 V_A) (fun b_ hb_ _=>Mp.awayS (fun p_ hp_=>by simp [hp_]) b_ hb_) (by decide) (by decide) (fun _=>rfl) (fun _ h_=>by cases h_) (fun j hj=>absurd hj (xnZ j)) (fun _ _ h_=>absurd rfl h_) hIa Mp
          rw [(told_ts hT hx hxe).1] at key
          rw [(told_ts hT hx hxe).2.1] at key
          rw [(told_ts hT hx hxe).2.2] at key
          refine xcL key ?_; clear key; rintro e w13 ⟨ba1,rfl,hI_,M',o1⟩; replace V_A:=ownsRow_away V_A o1 (Mp.awayS (fun p_ hp_=>by simp [hp_])); clear o1 Mp M hIa; have hIa:=hI_; clear hI_
          have M:Mm w0 ((ba1++((obs sA)++([]:List (Nat × List Value))))) w13:=M'.perm (pull0 ([]:List (Nat × List Value)) ba1 ((obs sA)++([]:List (Nat × List Value)))).symm
          clear M'; refine xeL ?_; refine xpL (.tuple #[.int .i64 x,.bool true]) ?_; refine xpL (.int .i64 x) ?_; refine xpL (.bool true) ?_; refine xpL (.int .i64 x) ?_; refine xpL (.bool true) ?_; refine xT ?_; go_upto_region 29 with fail; refine wp_region_list ?_; refine xpL (.bool true) ?_; refine xpL (.slice sA lv.length cA) ?_
          refine xaL (.int .i64 ((lv.length:Nat):Int)) (lenS _ 29 3 sA lv.length cA rfl Try.underlying29 rfl _) ?_; refine xaL (.bool true) (gtrI .i64 _ _ _ _ _ _ rfl rfl rfl true (decide_eq_true (by omega)) _) ?_; refine xaL (.bool true) (eqlB _ _ _ _ _ _ rfl rfl rfl (by kernel_rfl) true (by decide) _) ?_; refine xpL (.bool true) ?_; refine xT ?_; have hbel:=M.below; clear M hIa V_A
          go_wp2; go_ret
          exact ⟨rfl,hbel⟩
        · go_upto_region 28 with fail
          refine wp_region_list ?_; refine xpL (.pointer (some ⟨Ra,0,none⟩)) ?_; refine xpL (.slice sA lv.length cA) ?_; have Mp:=M.perm (pull1 ([]:List (Nat × List Value)) (obs sA) ga ([]:List (Nat × List Value)))
          have key:=hK.pck w0 _ _ (ts L lv) ga _ lv sA cA [] none 0 (ts_w hT hL1 hL2) (ts_sz hT _) (by have:=hT.n; omega) (Own.le V_A) (Own.nilCap V_A) hT.i (OwnI.src21 V_A) (fun b_ hb_ _=>Mp.awayS (fun p_ hp_=>by simp [hp_]) b_ hb_) (by decide) (by decide) (fun _=>rfl) (fun _ h_=>by cases h_) (fun j hj=>absurd hj (xnZ j)) (fun _ _ h_=>absurd rfl h_) hIa Mp
          rw [(none_ts2 hne L []).1] at key
          rw [(none_ts2 hne L []).2.1] at key
          rw [(none_ts2 hne L []).2.2] at key
          refine xcL key ?_; clear key; rintro e w14 ⟨ba1,rfl,hI_,M',o1⟩; replace V_A:=ownsRow_away V_A o1 (Mp.awayS (fun p_ hp_=>by simp [hp_])); clear o1 Mp M hIa; have hIa:=hI_; clear hI_
          have M:Mm w0 ((ba1++((obs sA)++([]:List (Nat × List Value))))) w14:=M'.perm (pull0 ([]:List (Nat × List Value)) ba1 ((obs sA)++([]:List (Nat × List Value)))).symm
          clear M'; refine xeL ?_; refine xpL (.tuple #[.int .i64 0,.bool false]) ?_; refine xpL (.int .i64 0) ?_; refine xpL (.bool false) ?_; refine xpL (.int .i64 0) ?_; refine xpL (.bool false) ?_; refine xT ?_; go_upto_region 29 with fail; refine wp_region_list ?_; refine xpL (.bool false) ?_; refine xpL (.slice sA lv.length cA) ?_
          refine xaL (.int .i64 ((lv.length:Nat):Int)) (lenS _ 29 3 sA lv.length cA rfl Try.underlying29 rfl _) ?_; refine xaL (.bool false) (gtrI .i64 _ _ _ _ _ _ rfl rfl rfl false (decide_eq_false (by omega)) _) ?_; refine xaL (.bool true) (eqlB _ _ _ _ _ _ rfl rfl rfl (by kernel_rfl) true (by decide) _) ?_; refine xpL (.bool true) ?_; refine xT ?_; have hbel:=M.below; clear M hIa V_A
          go_wp2; go_ret
          exact ⟨rfl,hbel⟩
structure Dfl where
 n:Nat
 win:Nat
 top:Option Nat
 Z:List (Rcd × Option Addr × Nat)
 sr:Option Addr
 cr:Nat
def Dfl.f (d:Dfl):Flg:=⟨d.win,d.top,d.Z.map Prod.fst⟩
def dpl (L:List Dfl):List (Nat × Flg):=L.map fun d=>(d.n,d.f)
theorem dpl_len (L:List Dfl):(dpl L).length=L.length:=List.length_map ..
theorem dpl_app (A B:List Dfl):dpl (A++B)=dpl A++dpl B:=List.map_append
theorem dpl_cons (d:Dfl) (B:List Dfl):dpl (d::B)=(d.n,d.f)::dpl B:=rfl
def rc1 (q:Rcd × Option Addr × Nat):List Value:=[.int .i64 ((q.1.c:Nat):Int),.int .i64 ((q.1.m:Nat):Int),.slice q.2.1 q.1.cs.length q.2.2]
def rcs (Z:List (Rcd × Option Addr × Nat)):List Value:=Z.flatMap rc1
theorem rcs_app (A B:List (Rcd × Option Addr × Nat)):rcs (A++B)=rcs A++rcs B:=List.flatMap_append
theorem rcs_cons (q:Rcd × Option Addr × Nat) (B:List (Rcd × Option Addr × Nat)):rcs (q::B)=rc1 q++rcs B:=List.flatMap_cons ..
theorem rcs_one1 (q:Rcd × Option Addr × Nat):rcs [q]=rc1 q:=by rw [rcs_cons]; exact List.append_nil _
theorem rcs_get:∀ {Z:List (Rcd × Option Addr × Nat)} {i:Nat} {q:Rcd × Option Addr × Nat},Z[i]?=some q→∀ {j:Nat} {u:Value},(rc1 q)[j]?=some u→(rcs Z)[i*3+j]?=some u
 | [],_,_,h,_,_,_=>by cases h
 | p::Z,0,q,h,j,u,hu=>by
   obtain rfl:p=q:=Option.some.inj h
   rw [rcs_cons,Nat.zero_mul,Nat.zero_add,List.getElem?_append_left (List.getElem?_eq_some_iff.1 hu).1]
   exact hu
 | p::Z,i+1,q,h,j,u,hu=>by
   rw [rcs_cons,List.getElem?_append_right (by show 3≤_; omega)]
   show (rcs Z)[(i+1)*3+j-3]?=_
   rw [show (i+1)*3+j-3=i*3+j by omega]
   exact rcs_get (Z:=Z) h hu
theorem rcs_one (Z:List (Rcd × Option Addr × Nat)):∀ u∈rcs Z,u.oneCell'=true:=fun u hu=>by
 obtain ⟨d,_,hd⟩:=List.mem_flatMap.1 hu
 unfold rc1 at hd
 simp only [List.mem_cons,List.not_mem_nil,or_false] at hd
 rcases hd with rfl | rfl | rfl <;> rfl
def gks (Z:List (Rcd × Option Addr × Nat)):List (Nat × List Value):=Z.flatMap fun q=>obs q.2.1
theorem gks_app (A B:List (Rcd × Option Addr × Nat)):gks (A++B)=gks A++gks B:=List.flatMap_append
theorem gks_cons (q:Rcd × Option Addr × Nat) (B:List (Rcd × Option Addr × Nat)):gks (q::B)=obs q.2.1++gks B:=List.flatMap_cons ..
theorem gks_mem {Z:List (Rcd × Option Addr × Nat)} {q:Rcd × Option Addr × Nat} (h:q∈Z) {b:Nat} (hb:b∈ob q.2.1):b∈(gks Z).map Prod.fst:=by
 refine List.mem_map.2 ⟨(b,[]),List.mem_flatMap.2 ⟨q,h,List.mem_map.2 ⟨b,hb,rfl⟩⟩,rfl⟩
theorem gks_sub {A B:List (Rcd × Option Addr × Nat)} (h:A.Sublist B):(gks A).Sublist (gks B):=by
 induction h with
 | slnil=>exact List.Sublist.refl _
 | cons a _ ih=>rw [gks_cons]; exact ih.trans (List.sublist_append_right _ _)
 | cons_cons a _ ih=>rw [gks_cons,gks_cons]; exact (List.Sublist.refl _).append ih
theorem row_some5 {w:World} {base n cap size:Nat} {e:TypeId} {sp:Option Addr} {xs:List Value} (V:w.ownsRow base e size (.slice sp n cap) n xs) (h:0<n):∃ g,sp=some ⟨g,0,none⟩:=by
 rcases V.2 with ⟨_,h0⟩ | ⟨g,c,cur,hv,_⟩
 · omega
 · injection hv with hv _ _
   exact ⟨g,hv⟩
theorem row_cell5 {w:World} {base:Nat} {e:TypeId} {size n g cap:Nat} {sp:Option Addr} {xs:List Value} (V:w.ownsRow base e size (.slice sp n cap) n xs) (hsp:sp=some ⟨g,0,none⟩) {j:Nat} {u:Value} (hu:xs[j]?=some u):w.cell? ⟨g,j,none⟩=some u:=by
 subst hsp
 have:=World.ownsRow.cells V (g:=g) rfl j u hu
 rw [Addr.add_mid,Nat.zero_add] at this
 exact this
theorem wrc_ap:∀ a b:List (Int × Int),wrc (a++b)=wrc a++wrc b
 | [],_=>rfl
 | q::a,b=>by show _::_::wrc (a++b)=_; rw [wrc_ap a b]; rfl
def sat:List Dfl→Int→Int
 | [],_=>-1
 | d::L,id=>if ((d.n:Nat):Int)=id then 0 else if sat L id<0 then -1 else sat L id+1
theorem sat_hit {A B:List Dfl} {d:Dfl} {id:Int} (hd:((d.n:Nat):Int)=id) (hA:∀ e∈A,((e.n:Nat):Int)≠id):sat (A++d::B) id=((A.length:Nat):Int):=by
 induction A with
 | nil=>show (if _ then _ else _)=_; rw [if_pos hd]; rfl
 | cons e A ih =>
   have:=ih fun x hx=>hA x (mT _ hx)
   show (if ((e.n:Nat):Int)=id then 0 else if sat (A++d::B) id<0 then -1 else sat (A++d::B) id+1)=_
   rw [if_neg (hA e mS),this,if_neg (by omega),List.length_cons]
   omega
theorem sat_miss {L:List Dfl} {id:Int} (h:∀ e∈L,((e.n:Nat):Int)≠id):sat L id=-1:=by
 induction L with
 | nil=>rfl
 | cons e A ih =>
   show (if ((e.n:Nat):Int)=id then 0 else _)=_
   rw [if_neg (h e mS),ih fun x hx=>h x (mT _ hx)]
   rfl
theorem sat_cases (L:List Dfl) (id:Int):(sat L id=-1∧sfd (dpl L) id=none∧∀ e∈L,((e.n:Nat):Int)≠id)∨∃ A d B,L=A++d::B∧((d.n:Nat):Int)=id∧(∀ e∈A,((e.n:Nat):Int)≠id)∧sat L id=((A.length:Nat):Int)∧sfd (dpl L) id=some d.f:=by
 induction L with
 | nil=>exact .inl ⟨rfl,rfl,fun _ h=>by cases h⟩
 | cons e L ih =>
   by_cases c:((e.n:Nat):Int)=id
   · refine .inr ⟨[],e,L,rfl,c,fun _ h=>(by cases h),sat_hit (A:=[]) c (fun _ h=>by cases h),?_⟩
     show (if ((e.n:Nat):Int)=id then some e.f else _)=_
     rw [if_pos c]
   · rcases ih with ⟨h1,h2,h3⟩ | ⟨A,d,B,h1,h2,h3,h4,h5⟩
     · refine .inl ⟨sat_miss fun x hx=>?_,?_,fun x hx=>?_⟩
       · rcases xc1 hx with rfl | hx
         · exact c
         · exact h3 x hx
       · show (if ((e.n:Nat):Int)=id then some e.f else sfd (dpl L) id)=_
         rw [if_neg c,h2]
       · rcases xc1 hx with rfl | hx
         · exact c
         · exact h3 x hx
     · have hA:∀ x∈e::A,((x.n:Nat):Int)≠id:=fun x hx=>by
        rcases xc1 hx with rfl | hx
        · exact c
        · exact h3 x hx
       refine .inr ⟨e::A,d,B,by rw [h1]; rfl,h2,hA,by rw [h1]; exact sat_hit (A:=e::A) h2 hA,?_⟩
       show (if ((e.n:Nat):Int)=id then some e.f else sfd (dpl L) id)=_
       rw [if_neg c,h5]
theorem sput_mid {A B:List Dfl} {d d':Dfl} {id:Int} (hd:((d.n:Nat):Int)=id) (hn:d'.n=d.n) (hA:∀ e∈A,((e.n:Nat):Int)≠id):sput (dpl (A++d::B)) id d'.f=dpl (A++d'::B):=by
 induction A with
 | nil =>
   show (if ((d.n:Nat):Int)=id then (d.n,d'.f)::dpl B else _)=(d'.n,d'.f)::dpl B
   rw [if_pos hd,hn]
 | cons e A ih =>
   show (if ((e.n:Nat):Int)=id then _ else (e.n,e.f)::sput (dpl (A++d::B)) id d'.f)=(e.n,e.f)::dpl (A++d'::B)
   rw [if_neg (hA e mS),ih fun x hx=>hA x (mT _ hx)]
theorem sdel_mid {A B:List Dfl} {d:Dfl} {id:Int} (hd:((d.n:Nat):Int)=id) (hA:∀ e∈A,((e.n:Nat):Int)≠id):sdel (dpl (A++d::B)) id=dpl (A++B):=by
 induction A with
 | nil =>
   show (if ((d.n:Nat):Int)=id then dpl B else _)=dpl B
   rw [if_pos hd]
 | cons e A ih =>
   show (if ((e.n:Nat):Int)=id then _ else (e.n,e.f)::sdel (dpl (A++d::B)) id)=(e.n,e.f)::dpl (A++B)
   rw [if_neg (hA e mS),ih fun x hx=>hA x (mT _ hx)]
theorem cell21 {w w':World} (l:Below w.heap.size w w') {p:Addr} {u:Value} (h:w.cell? p=some u):w'.cell? p=some u:=by
 rw [l.cell (World.block_lt_of_cell? w _ h)]
 exact h
theorem sall_take {Z:List (Rcd × Option Addr × Nat)} {i:Nat} {q:Rcd × Option Addr × Nat} (h:Z[i]?=some q):sall ((Z.take (i+1)).map Prod.fst)=sall ((Z.take i).map Prod.fst)++q.1.cs:=by
 rw [List.take_add_one,h,List.map_append,sall_app]
 show _++sall [q.1]=_
 rw [sall_one]
theorem sall_part (Z:List (Rcd × Option Addr × Nat)) (i:Nat):(sall ((Z.take i).map Prod.fst)).length≤(sall (Z.map Prod.fst)).length:=sall_sub ((List.take_sublist i Z).map Prod.fst)
section
open Go.RowKit Go.MapKept Go.ChangeMaps Go.WideShapes
def heldR (v:Value):Option (DataW Value × List MemPlace):=some (.held v,[])
def IM (P:Program) (k:TypeId) (w:World) (b n:Nat) (f:Int→Option Value):Prop :=
 ∃ D:DataW Value,w.ownsMap P k heldR b n D∧∀ x,i64 x→Maps.has D (.int .i64 x)=(f x).isSome∧∀ d,D.atKey (.int .i64 x) d=((f x).map DataW.held).getD d
theorem wfI {x:Int} (h:i64 x):(Lit.int .i64 x).wf=true:=WalkArith.wf_i64 (by unfold i64 at h; omega)
theorem litNe {x y:Int} (h:y≠x):(Lit.int .i64 y)≠.int .i64 x:=fun e=>by injection e with _ e; exact h e
def iput (f:Int→Option Value) (x:Int) (v:Value):Int→Option Value:=fun y=>if y=x then some v else f y
theorem iput_same (f:Int→Option Value) (x:Int) (v:Value):iput f x v x=some v:=if_pos rfl
theorem iput_other {f:Int→Option Value} {x y:Int} {v:Value} (h:¬ y=x):iput f x v y=f y:=if_neg h
section
variable {P:Program} {k t e:TypeId} {w:World} {b n:Nat} {f:Int→Option Value}
theorem IM.made (P:Program) (k:TypeId) (w:World):IM P k (w.alloc (.map #[] 0)) w.heap.size 0 (fun _=>none) :=
 ⟨_,World.ownsMap_made w P k heldR,fun _ _=>⟨rfl,fun _=>rfl⟩⟩
theorem IM.mono (h:IM P k w b n f) {m:Nat} (hm:n≤m):IM P k w b m f:=let ⟨D,h,h2⟩:=h; ⟨D,h.mono hm,h2⟩
theorem IM.off {w':World} {X:List Nat} (h:IM P k w b n f) (o:Off X w w') (hb:b∉X):IM P k w' b n f:=by
 obtain ⟨D,⟨es,clock,h1,h2⟩,h3⟩:=h
 exact ⟨D,⟨es,clock,(o.blk b (Array.getElem?_eq_some_iff.1 h1).1 hb).trans h1,h2⟩,h3⟩
theorem IM.bel {w':World} (h:IM P k w b n f) (l:Below w.heap.size w w'):IM P k w' b n f:=h.off (X:=[]) (Off.of_below l) (fun hb=>by cases hb)
theorem IM.congr {g:Int→Option Value} (h:IM P k w b n f) (hg:∀ x,i64 x→f x=g x):IM P k w b n g:=by
 obtain ⟨D,h1,h2⟩:=h
 exact ⟨D,h1,fun x hx=>by rw [← hg x hx]; exact h2 x hx⟩
theorem IM.lookOk (h:IM P k w b n f) (hk:P.underlying k=some (.int .i64)) (ht:P.underlying t=some (.map k e)) {z:Value} (hz:(zeroValue e).run P w=.ok z w) {x:Int} (hx:i64 x):(Instr.lookup t (.map (some b)) (.int .i64 x) true).run P w=.ok (.tuple #[(f x).getD z,.bool (f x).isSome]) w:=by
 obtain ⟨D,h1,h2⟩:=h
 obtain ⟨v,ps,hr,hv⟩:=h1.look_ok (Maps.int_keyed hk) ht hz (show heldR z=some (.held z,[]) from rfl) (Maps.keyOf_int_mk hk (wfI hx))
 rw [hr,(h2 x hx).1]
 have e:=(h2 x hx).2 (.held z)
 unfold heldR at hv
 injection hv with hv
 injection hv with hv _
 rw [e] at hv
 cases hf:f x with
 | none=>rw [hf] at hv; injection hv with hv; rw [hv]; rfl
 | some u=>rw [hf] at hv; injection hv with hv; rw [hv]; rfl
theorem IM.put (h:IM P k w b n f) (hk:P.underlying k=some (.int .i64)) (ht:P.underlying t=some (.map k e)) (hn:n<maxLen) {x:Int} (hx:i64 x) (v:Value) :
 ∃ w',(Instr.mapUpdate t (.map (some b)) (.int .i64 x) v).run P w=.ok () w'∧IM P k w' b (n+1) (iput f x v)∧w.grownBy w' (some b):=by
 obtain ⟨D,h1,h2⟩:=h
 obtain ⟨w',hr,ho,hg⟩:=h1.update (Maps.int_keyed hk) ht hn (Maps.keyOf_int_mk hk (wfI hx)) (show heldR v=some (.held v,[]) from rfl)
 refine ⟨w',hr,⟨_,ho,fun y hy=>?_⟩,hg⟩
 by_cases c:y=x
 · subst c
   rw [iput_same]
   exact ⟨Maps.has_put_same h1.isMap (show WideAt.IsKeyLit (.int .i64 y) from trivial) _,fun d=>Maps.atKey_put_same h1.isMap (show WideAt.IsKeyLit (.int .i64 y) from trivial) _ d⟩
 · rw [iput_other c]
   exact ⟨(Maps.has_put_other (litNe c) _).trans (h2 y hy).1,fun d=>(Maps.atKey_put_other (litNe c) _ d).trans ((h2 y hy).2 d)⟩
def idel (f:Int→Option Value) (x:Int):Int→Option Value:=fun y=>if y=x then none else f y
theorem idel_same (f:Int→Option Value) (x:Int):idel f x x=none:=if_pos rfl
theorem idel_other {f:Int→Option Value} {x y:Int} (h:¬ y=x):idel f x y=f y:=if_neg h
theorem IM.del (h:IM P k w b n f) (hk:P.underlying k=some (.int .i64)) (ht:P.underlying t=some (.map k e)) {x:Int} (hx:i64 x) (ty:TypeId) :
 ∃ w',(Builtin.delete_ #[t,k] ty #[.map (some b),.int .i64 x]).run P w=.ok (.tuple #[]) w'∧IM P k w' b n (idel f x)∧w.grownBy w' (some b):=by
 obtain ⟨D,h1,h2⟩:=h
 obtain ⟨w',hr,ho,hg⟩:=h1.drop (Maps.int_keyed hk) ht (Maps.keyOf_int_mk hk (wfI hx)) ty
 refine ⟨w',hr,⟨_,ho,fun y hy=>?_⟩,hg.grown⟩
 by_cases c:y=x
 · subst c
   rw [idel_same]
   exact ⟨Maps.has_del_same,fun d=>Maps.atKey_del_same d⟩
 · rw [idel_other c]
   exact ⟨(Maps.has_del_other (litNe c)).trans (h2 y hy).1,fun d=>(Maps.atKey_del_other (litNe c) d).trans ((h2 y hy).2 d)⟩
end
section
variable {P:Program} {k t e:TypeId} {w:World} {b n:Nat} {f:Int→Option Value} {o:Oper} {a:Act}
end
theorem Mm.touch {w0 w w':World} {l:List (Nat × List Value)} {b:Nat} (M:Mm w0 ((b,[])::l) w) (g:w.grownBy w' (some b)):Mm w0 ((b,[])::l) w':=by
 have h:=M.tail.grownN g fun b' e=>by
  injection e with e
  subst e
  exact ⟨M.lo mS,fun p hp e=>(List.pairwise_cons.1 M.apart).1 p hp e.symm⟩
 exact h.addB (M.lo mS) (xnL (M.lt mS) g.size) fun p hp e=>(List.pairwise_cons.1 M.apart).1 p hp e.symm
theorem Off.touched {w w':World} {b:Nat} (g:w.grownBy w' (some b)):Off [b] w w':=(Off.refl [b] w).grown g fun b' e=>by
 injection e with e
 subst e
 exact .inl mS
end
end Go.Proofs.Ytmedjdadhmdpgaa
