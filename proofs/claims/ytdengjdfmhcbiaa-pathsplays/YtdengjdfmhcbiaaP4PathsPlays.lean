/- Texts of Uf Kn Ud, joined. -/
import Derived.Test.YtdengjdfmhcbiaaP3PathsPlays
set_option maxRecDepth 20000
set_option maxHeartbeats 64000000
namespace Go.Proofs.Ytdengjdfmhcbiaa
open Go.RowKit
theorem Mm.srcI {w0 w:World} {l:List (Nat × List Value)} (h:Mm w0 l w) {b:Nat} {cs:List Value} (hp:(b,cs)∈l) (bs:List Int) (hc:cs=bs.map (Value.int .i64)):SrcI w (some ⟨b,0,none⟩) bs.length (bl bs):=fun j hj=>⟨_,rfl,by
 rw [Addr.add_mid,Nat.zero_add]
 refine h.get hp j _ ?_
 rw [hc,List.getElem?_map,List.getElem?_eq_getElem hj]
 unfold bl
 rw [List.getD_eq_getElem?_getD,List.getElem?_eq_getElem hj]
 rfl⟩
def tk1 (c:Int):Nat→Int:=fun j=>if j=0 then c else 0
theorem tk1_in {c:Int} (h:0≤c∧c<256):In 256 8 (tk1 c):=fun j _=>by
 unfold tk1
 split
 · exact h
 · decide
theorem tk1_7:tok8 (tk1 7)=.agg #[.int .u8 7,.int .u8 0,.int .u8 0,.int .u8 0,.int .u8 0,.int .u8 0,.int .u8 0,.int .u8 0]:=by kernel_rfl
theorem tk1_8:tok8 (tk1 8)=.agg #[.int .u8 8,.int .u8 0,.int .u8 0,.int .u8 0,.int .u8 0,.int .u8 0,.int .u8 0,.int .u8 0]:=by kernel_rfl
def tz1:Ptb:=pput pnew 0 ⟨2,100,0,0,fun _=>0⟩
def tz (p:Pth):Ptb:=pput tz1 3 p
def pz0:Pth:=⟨1,100,0,10,tk1 7⟩
def pz1:Pth:=⟨1,100,1,210,tk1 7⟩
def pz2:Pth:=⟨1,100,2,610,tk1 7⟩
def pz3:Pth:=⟨2,100,2,610,tk1 7⟩
def pz4:Pth:=⟨2,110,2,610,tk1 7⟩
def pz5:Pth:=⟨3,110,2,610,tk1 7⟩
theorem pput_put (t:Ptb) (k:Nat) (p q:Pth):pput (pput t k p) k q=pput t k q:=by
 funext j
 unfold pput
 split <;> rfl
theorem tz_pdt (p:Pth) (m:Nat):pdt (tz p) m=tz (if p.st=1∧p.nx≤m then (if p.tr=4 then { p with st:=4 } else { p with tr:=p.tr+1,nx:=m+p.rt*2^(p.tr+1) }) else p):=by
 funext k
 by_cases c:k=3
 · subst c
   unfold pdt pdw tz
   rw [pput_same,pput_same]
   by_cases d:p.st=1∧p.nx≤m
   · rw [if_pos d,if_pos (decide_eq_true d)]
   · rw [if_neg d,if_neg (by rw [decide_eq_false d]; decide)]
 · have h:∀ q,tz q k=tz1 k:=fun q=>pput_other c q
   unfold pdt pdw
   rw [h,h]
   by_cases d:k=0
   · subst d
     rfl
   · have:tz1 k=pnone:=pput_other d _
     rw [this]
     rfl
theorem tz_b0:pmay pnew 0=0:=by decide +kernel
theorem tz_s0:pbeg pnew 0=tz1:=by
 unfold pbeg
 rw [if_pos tz_b0]
 rfl
theorem tz_b1:pmay tz1 0=201:=by decide +kernel
theorem tz_s1:pbeg tz1 0=tz1:=if_neg (by rw [tz_b1]; decide)
theorem tz_b2:pmay tz1 256=1:=by decide +kernel
theorem tz_s2:pbeg tz1 256=tz1:=if_neg (by rw [tz_b2]; decide)
theorem tz_b3:pmay tz1 3=0:=by decide +kernel
theorem tz_s3:padd tz1 3 (tk1 7) 10=tz pz0:=by
 unfold padd
 rw [if_pos tz_b3]
 rfl
theorem tz_l:prow (tz pz0) 2=[0]:=by decide +kernel
theorem tz_d9:pdl (tz pz0) (pmom 9)=[]∧pdt (tz pz0) (pmom 9)=tz pz0:=⟨by decide +kernel,by rw [tz_pdt]; exact congrArg tz (if_neg (by decide +kernel))⟩
theorem tz_d10:pdl (tz pz0) (pmom 10)=[3]∧pdt (tz pz0) (pmom 10)=tz pz1:=⟨by decide +kernel,by rw [tz_pdt]; exact congrArg tz ((if_pos (by decide +kernel)).trans (if_neg (by decide)))⟩
theorem tz_d209:pdl (tz pz1) (pmom 209)=[]∧pdt (tz pz1) (pmom 209)=tz pz1:=⟨by decide +kernel,by rw [tz_pdt]; exact congrArg tz (if_neg (by decide +kernel))⟩
theorem tz_d210:pdl (tz pz1) (pmom 210)=[3]∧pdt (tz pz1) (pmom 210)=tz pz2:=⟨by decide +kernel,by rw [tz_pdt]; exact congrArg tz ((if_pos (by decide +kernel)).trans (if_neg (by decide)))⟩
theorem tz_a8:pans (tz pz2) 3 (tk1 8)=false:=by decide +kernel
theorem tz_sa8:pant (tz pz2) 3 (tk1 8)=tz pz2:=if_neg (by rw [tz_a8]; decide)
theorem tz_a7:pans (tz pz2) 3 (tk1 7)=true:=by decide +kernel
theorem tz_sa7:pant (tz pz2) 3 (tk1 7)=tz pz3:=(if_pos tz_a7).trans (pput_put tz1 3 pz2 pz3)
theorem tz_st:pst (tz pz3) 3=2:=by decide +kernel
theorem tz_a7b:pans (tz pz3) 3 (tk1 7)=false:=by decide +kernel
theorem tz_sa7b:pant (tz pz3) 3 (tk1 7)=tz pz3:=if_neg (by rw [tz_a7b]; decide)
theorem tz_sm:psm (tz pz3) 3 180=tz pz4:=(if_pos (by decide +kernel)).trans (pput_put tz1 3 pz3 pz4)
theorem tz_rt:prt (tz pz4) 3=110:=by decide +kernel
theorem tz_r1:prE (tz pz4) 3=0:=by decide +kernel
theorem tz_sr1:prm (tz pz4) 3=tz pz5:=(if_pos (by decide +kernel)).trans (pput_put tz1 3 pz4 pz5)
theorem tz_r2:prE (tz pz5) 3=200:=by decide +kernel
theorem tz_sr2:prm (tz pz5) 3=tz pz5:=if_neg (by decide +kernel)
theorem tz_b4:pmay (tz pz5) 3=201:=by decide +kernel
theorem tz_s4:padd (tz pz5) 3 (tk1 7) 0=tz pz5:=if_neg (by rw [tz_b4]; decide)
theorem tz1_w:PtbW tz1:=tz_s0 ▸ pbeg_w pnew_w 0
theorem tz_w0:PtbW (tz pz0):=tz_s3 ▸ padd_w tz1_w 3 (tk1_in (by decide)) 10
theorem tz_w1:PtbW (tz pz1):=tz_d10.2 ▸ pdt_w tz_w0 (pmom_le 10)
theorem tz_w2:PtbW (tz pz2):=tz_d210.2 ▸ pdt_w tz_w1 (pmom_le 210)
theorem tz_w3:PtbW (tz pz3):=tz_sa7 ▸ pant_w tz_w2 3 (tk1 7)
theorem tz_w4:PtbW (tz pz4):=tz_sm ▸ psm_w tz_w3 3 180
theorem tz_w5:PtbW (tz pz5):=tz_sr1 ▸ prm_w tz_w4 3
theorem shown20_any {I:TabI} (hK:TabOK I) (w0:World) :
 Calls Try.prog 7 #[] w0 fun e w'=>e=.returned (.bool true)∧Below w0.heap.size w0 w':=by
 have M:=Mm.init w0
 go_enter Try.func7,Try.ntmps7
 go_upto_region 0 with fail; refine wp_region_list ?_; refine xpL (.bool false) ?_; refine xT ?_; go_upto_region 1 with fail; refine wp_region_list ?_; have key:=hK.new w0 _ _ M; refine xcL key ?_; clear key; rintro e w1 ⟨v_,ba0,rfl,hIa,M',l_⟩
 obtain ⟨Ra,rfl⟩:=hK.ptr _ _ _ _ hIa
 clear M; have M:=M'.perm (pull0 ([]:List (Nat × List Value)) ba0 ([]:List (Nat × List Value))).symm; clear M'; clear l_
 replace M:Mm w0 ((ba0++([]:List (Nat × List Value)))) w1:=M
 refine xeL ?_; refine xpL (.pointer (some ⟨Ra,0,none⟩)) ?_; refine xT ?_; go_upto_region 2 with fail; refine wp_region_list ?_; refine xpL (.pointer (some ⟨Ra,0,none⟩)) ?_; refine xpL (.bool false) ?_; refine xT ?_; go_upto_region 4 with fail; refine wp_region_list ?_; refine xpL (.agg #[.int .u8 7,.int .u8 0,.int .u8 0,.int .u8 0,.int .u8 0,.int .u8 0,.int .u8 0,.int .u8 0]) ?_
 have hlb:=(Below.refl w1.heap.size w1).alloc (xnR _) (.cells zu8_8 30); refine actL (w':=w1.alloc (.cells zu8_8 30)) (.pointer (some ⟨w1.heap.size,0,none⟩)) rfl (by kernel_rfl) ?_; simp only [aP,lI,l0,lS]; replace hIa:=hK.bel hIa hlb; replace M:=M.box zu8_8 30 w1.heap.size rfl; clear hlb; generalize w1.alloc (.cells zu8_8 30)=w2 at M hIa ⊢; generalize w1.heap.size=B2 at M ⊢
 replace M:Mm w0 ((B2,[.int .u8 0,.int .u8 0,.int .u8 0,.int .u8 0,.int .u8 0,.int .u8 0,.int .u8 0,.int .u8 0])::(ba0++([]:List (Nat × List Value)))) w2:=M
 refine skipOpL rfl (storeP [.int .u8 7,.int .u8 0,.int .u8 0,.int .u8 0,.int .u8 0,.int .u8 0,.int .u8 0,.int .u8 0] B2 0 30 _ _ rfl rfl rfl (M.thereP mS 0 8 (Nat.le_of_ble_eq_true rfl)) (by kernel_rfl) (List.all_eq_true.1 (rfl:([.int .u8 7,.int .u8 0,.int .u8 0,.int .u8 0,.int .u8 0,.int .u8 0,.int .u8 0,.int .u8 0]:List Value).all (fun u=>u.oneCell')=true))) ?_
 simp only [Act.put]; replace M:=M.setPart [.int .u8 7,.int .u8 0,.int .u8 0,.int .u8 0,.int .u8 0,.int .u8 0,.int .u8 0,.int .u8 0] 0 (Nat.le_of_ble_eq_true rfl)
 replace hIa:=hK.off _ _ _ _ _ _ hIa ((Off.refl [B2] _).setAll (b:=B2) mS 0 [.int .u8 7,.int .u8 0,.int .u8 0,.int .u8 0,.int .u8 0,.int .u8 0,.int .u8 0,.int .u8 0]) (fun b_ hb_=>by obtain rfl:=xm1 hb_; exact M.awayC (fun p_ hp_=>by simp [hp_]))
 generalize w2.setCells B2 0 [.int .u8 7,.int .u8 0,.int .u8 0,.int .u8 0,.int .u8 0,.int .u8 0,.int .u8 0,.int .u8 0]=w3 at M hIa ⊢
 replace M:Mm w0 ((B2,[.int .u8 7,.int .u8 0,.int .u8 0,.int .u8 0,.int .u8 0,.int .u8 0,.int .u8 0,.int .u8 0])::(ba0++([]:List (Nat × List Value)))) w3:=M
 refine xT ?_; go_upto_region 5 with fail; refine wp_region_list ?_; refine xpL (.pointer (some ⟨Ra,0,none⟩)) ?_; have Mp:=M.perm (pull0 ([(B2,[.int .u8 7,.int .u8 0,.int .u8 0,.int .u8 0,.int .u8 0,.int .u8 0,.int .u8 0,.int .u8 0])]:List (Nat × List Value)) ba0 ([]:List (Nat × List Value))); have key:=hK.beg w0 _ _ pnew ba0 _ 0 pnew_w (by unfold i64; decide) hIa Mp
 rw [tz_b0] at key
 rw [tz_s0] at key
 refine xcL key ?_; clear key; rintro e w4 ⟨ba1,rfl,hI_,M',o1⟩; clear o1 Mp M hIa; have hIa:=hI_; clear hI_
 have M:Mm w0 ((B2,[.int .u8 7,.int .u8 0,.int .u8 0,.int .u8 0,.int .u8 0,.int .u8 0,.int .u8 0,.int .u8 0])::(ba1++([]:List (Nat × List Value)))) w4:=M'.perm (pull0 ([(B2,[.int .u8 7,.int .u8 0,.int .u8 0,.int .u8 0,.int .u8 0,.int .u8 0,.int .u8 0,.int .u8 0])]:List (Nat × List Value)) ba1 ([]:List (Nat × List Value))).symm
 clear M'; refine xeL ?_; refine xpL (.int .i64 ((0:Nat):Int)) ?_; refine xT ?_; go_upto_region 6 with fail; refine wp_region_list ?_; refine xpL (.pointer (some ⟨Ra,0,none⟩)) ?_; have Mp:=M.perm (pull0 ([(B2,[.int .u8 7,.int .u8 0,.int .u8 0,.int .u8 0,.int .u8 0,.int .u8 0,.int .u8 0,.int .u8 0])]:List (Nat × List Value)) ba1 ([]:List (Nat × List Value)))
 have key:=hK.beg w0 _ _ tz1 ba1 _ 0 tz1_w (by unfold i64; decide) hIa Mp
 rw [tz_b1] at key
 rw [tz_s1] at key
 refine xcL key ?_; clear key; rintro e w5 ⟨ba2,rfl,hI_,M',o1⟩; clear o1 Mp M hIa; have hIa:=hI_; clear hI_
 have M:Mm w0 ((B2,[.int .u8 7,.int .u8 0,.int .u8 0,.int .u8 0,.int .u8 0,.int .u8 0,.int .u8 0,.int .u8 0])::(ba2++([]:List (Nat × List Value)))) w5:=M'.perm (pull0 ([(B2,[.int .u8 7,.int .u8 0,.int .u8 0,.int .u8 0,.int .u8 0,.int .u8 0,.int .u8 0,.int .u8 0])]:List (Nat × List Value)) ba2 ([]:List (Nat × List Value))).symm
 clear M'; refine xeL ?_; refine xpL (.int .i64 ((201:Nat):Int)) ?_; refine xT ?_; go_upto_region 7 with fail; refine wp_region_list ?_; refine xpL (.pointer (some ⟨Ra,0,none⟩)) ?_; have Mp:=M.perm (pull0 ([(B2,[.int .u8 7,.int .u8 0,.int .u8 0,.int .u8 0,.int .u8 0,.int .u8 0,.int .u8 0,.int .u8 0])]:List (Nat × List Value)) ba2 ([]:List (Nat × List Value)))
 have key:=hK.beg w0 _ _ tz1 ba2 _ 256 tz1_w (by unfold i64; decide) hIa Mp
 rw [tz_b2] at key
 rw [tz_s2] at key
 refine xcL key ?_; clear key; rintro e w6 ⟨ba3,rfl,hI_,M',o1⟩; clear o1 Mp M hIa; have hIa:=hI_; clear hI_
 have M:Mm w0 ((B2,[.int .u8 7,.int .u8 0,.int .u8 0,.int .u8 0,.int .u8 0,.int .u8 0,.int .u8 0,.int .u8 0])::(ba3++([]:List (Nat × List Value)))) w6:=M'.perm (pull0 ([(B2,[.int .u8 7,.int .u8 0,.int .u8 0,.int .u8 0,.int .u8 0,.int .u8 0,.int .u8 0,.int .u8 0])]:List (Nat × List Value)) ba3 ([]:List (Nat × List Value))).symm
 clear M'; refine xeL ?_; refine xpL (.int .i64 ((1:Nat):Int)) ?_; refine xT ?_; go_upto_region 8 with fail; refine wp_region_list ?_; refine xpL (.pointer (some ⟨Ra,0,none⟩)) ?_
 refine xaL (.agg #[.int .u8 7,.int .u8 0,.int .u8 0,.int .u8 0,.int .u8 0,.int .u8 0,.int .u8 0,.int .u8 0]) (loadN 30 _ ⟨B2,0,none⟩ [.int .u8 7,.int .u8 0,.int .u8 0,.int .u8 0,.int .u8 0,.int .u8 0,.int .u8 0,.int .u8 0] rfl rfl (fun _=>by kernel_rfl) (fun _=>by kernel_rfl) (M.rangeAt mS)) ?_
 have Mp:=M.perm (pull0 ([(B2,[.int .u8 7,.int .u8 0,.int .u8 0,.int .u8 0,.int .u8 0,.int .u8 0,.int .u8 0,.int .u8 0])]:List (Nat × List Value)) ba3 ([]:List (Nat × List Value))); have key:=hK.add w0 _ _ tz1 ba3 _ 3 (tk1 7) 10 tz1_w (by unfold i64; decide) (tk1_in (by decide)) (by unfold i64; decide) hIa Mp
 rw [tz_b3] at key
 rw [tz_s3] at key
 rw [tk1_7] at key
 refine xcL key ?_; clear key; rintro e w7 ⟨ba4,rfl,hI_,M',o1⟩; clear o1 Mp M hIa; have hIa:=hI_; clear hI_
 have M:Mm w0 ((B2,[.int .u8 7,.int .u8 0,.int .u8 0,.int .u8 0,.int .u8 0,.int .u8 0,.int .u8 0,.int .u8 0])::(ba4++([]:List (Nat × List Value)))) w7:=M'.perm (pull0 ([(B2,[.int .u8 7,.int .u8 0,.int .u8 0,.int .u8 0,.int .u8 0,.int .u8 0,.int .u8 0,.int .u8 0])]:List (Nat × List Value)) ba4 ([]:List (Nat × List Value))).symm
 clear M'; refine xeL ?_; refine xpL (.int .i64 ((0:Nat):Int)) ?_; refine xT ?_; go_upto_region 9 with fail; refine wp_region_list ?_; refine xpL (.pointer (some ⟨Ra,0,none⟩)) ?_; have Mp:=M.perm (pull0 ([(B2,[.int .u8 7,.int .u8 0,.int .u8 0,.int .u8 0,.int .u8 0,.int .u8 0,.int .u8 0,.int .u8 0])]:List (Nat × List Value)) ba4 ([]:List (Nat × List Value)))
 have key:=hK.liv w0 _ _ (tz pz0) ba4 _ tz_w0 hIa Mp; clear Mp
 rw [tz_l] at key
 refine xcL key ?_; clear key; rintro e w8 ⟨p8,c8,rfl,L_8,l_⟩; replace M:=M.newI l_ L_8; replace hIa:=hK.bel hIa l_; clear l_
 replace M:Mm w0 ((B2,[.int .u8 7,.int .u8 0,.int .u8 0,.int .u8 0,.int .u8 0,.int .u8 0,.int .u8 0,.int .u8 0])::((obs p8)++(ba4++([]:List (Nat × List Value))))) w8:=M.perm (pull0 ([(B2,[.int .u8 7,.int .u8 0,.int .u8 0,.int .u8 0,.int .u8 0,.int .u8 0,.int .u8 0,.int .u8 0])]:List (Nat × List Value)) (obs p8) (ba4++([]:List (Nat × List Value)))).symm
 refine xeL ?_; have hlb:=(Below.refl w8.heap.size w8).alloc (xnR _) (.cells #[.int .i64 0] 3); refine actL (w':=w8.alloc (.cells #[.int .i64 0] 3)) (.slice (some ⟨w8.heap.size,0,none⟩) 1 1) rfl (by kernel_rfl) ?_; simp only [aP,lI,l0,lS]; replace hIa:=hK.bel hIa hlb; replace L_8:=NewI.below L_8 hlb; replace M:=M.box #[.int .i64 0] 3 w8.heap.size rfl; clear hlb
 generalize w8.alloc (.cells #[.int .i64 0] 3)=w9 at M hIa L_8 ⊢; generalize w8.heap.size=B9 at M ⊢
 replace M:Mm w0 ((B9,[.int .i64 0])::(B2,[.int .u8 7,.int .u8 0,.int .u8 0,.int .u8 0,.int .u8 0,.int .u8 0,.int .u8 0,.int .u8 0])::((obs p8)++(ba4++([]:List (Nat × List Value))))) w9:=M
 have key:=ints20_any ([0]) (by decide) p8 (some ⟨B9,0,none⟩) c8 1 w9 (NewI.src L_8) (M.srcI mS [0] rfl); refine xcL key ?_; clear key; rintro e w10 ⟨rfl,l_⟩; replace M:=M.call l_; replace hIa:=hK.bel hIa l_; replace L_8:=NewI.below L_8 l_; clear l_; refine xeL ?_; refine xpL (.bool true) ?_; refine xT ?_
 replace M:Mm w0 ((B9,[.int .i64 0])::(B2,[.int .u8 7,.int .u8 0,.int .u8 0,.int .u8 0,.int .u8 0,.int .u8 0,.int .u8 0,.int .u8 0])::(ba4++([]:List (Nat × List Value)))) w10:=M.sub _ (List.cons_sublist_cons.2 (List.cons_sublist_cons.2 (List.sublist_append_right _ _)))
 clear L_8; go_upto_region 10 with fail; refine wp_region_list ?_; refine xpL (.pointer (some ⟨Ra,0,none⟩)) ?_; have Mp:=M.perm (pull0 ([(B9,[.int .i64 0]),(B2,[.int .u8 7,.int .u8 0,.int .u8 0,.int .u8 0,.int .u8 0,.int .u8 0,.int .u8 0,.int .u8 0])]:List (Nat × List Value)) ba4 ([]:List (Nat × List Value)))
 have key:=hK.due w0 _ _ (tz pz0) ba4 _ 9 tz_w0 (by unfold i64; decide) hIa Mp
 rw [tz_d9.1] at key
 rw [tz_d9.2] at key
 refine xcL key ?_; clear key; rintro e w11 ⟨p11,c11,ba5,rfl,L_11,hI_,M',o1⟩; clear o1 Mp M hIa; have hIa:=hI_; clear hI_
 have M:Mm w0 ((B9,[.int .i64 0])::(B2,[.int .u8 7,.int .u8 0,.int .u8 0,.int .u8 0,.int .u8 0,.int .u8 0,.int .u8 0,.int .u8 0])::(ba5++((obs p11)++([]:List (Nat × List Value))))) w11:=M'.perm (pullY ([(B9,[.int .i64 0]),(B2,[.int .u8 7,.int .u8 0,.int .u8 0,.int .u8 0,.int .u8 0,.int .u8 0,.int .u8 0,.int .u8 0])]:List (Nat × List Value)) ba5 (obs p11) ([]:List (Nat × List Value)))
 clear M'; refine xeL ?_; have key:=ints20_any ([]) (by decide) p11 none c11 0 w11 (NewI.src L_11) (fun j hj=>absurd hj (xnZ j)); refine xcL key ?_; clear key; rintro e w12 ⟨rfl,l_⟩; replace M:=M.call l_; replace hIa:=hK.bel hIa l_; replace L_11:=NewI.below L_11 l_; clear l_; refine xeL ?_; refine xpL (.bool true) ?_; refine xT ?_
 replace M:Mm w0 ((B9,[.int .i64 0])::(B2,[.int .u8 7,.int .u8 0,.int .u8 0,.int .u8 0,.int .u8 0,.int .u8 0,.int .u8 0,.int .u8 0])::(ba5++([]:List (Nat × List Value)))) w12:=M.sub _ (List.cons_sublist_cons.2 (List.cons_sublist_cons.2 ((List.Sublist.refl _).append (List.sublist_append_right _ _))))
 clear L_11; go_upto_region 11 with fail; refine wp_region_list ?_; refine xpL (.pointer (some ⟨Ra,0,none⟩)) ?_; have Mp:=M.perm (pull0 ([(B9,[.int .i64 0]),(B2,[.int .u8 7,.int .u8 0,.int .u8 0,.int .u8 0,.int .u8 0,.int .u8 0,.int .u8 0,.int .u8 0])]:List (Nat × List Value)) ba5 ([]:List (Nat × List Value)))
 have key:=hK.due w0 _ _ (tz pz0) ba5 _ 10 tz_w0 (by unfold i64; decide) hIa Mp
 rw [tz_d10.1] at key
 rw [tz_d10.2] at key
 refine xcL key ?_; clear key; rintro e w13 ⟨p13,c13,ba6,rfl,L_13,hI_,M',o1⟩; clear o1 Mp M hIa; have hIa:=hI_; clear hI_
 have M:Mm w0 ((B9,[.int .i64 0])::(B2,[.int .u8 7,.int .u8 0,.int .u8 0,.int .u8 0,.int .u8 0,.int .u8 0,.int .u8 0,.int .u8 0])::(ba6++((obs p13)++([]:List (Nat × List Value))))) w13:=M'.perm (pullY ([(B9,[.int .i64 0]),(B2,[.int .u8 7,.int .u8 0,.int .u8 0,.int .u8 0,.int .u8 0,.int .u8 0,.int .u8 0,.int .u8 0])]:List (Nat × List Value)) ba6 (obs p13) ([]:List (Nat × List Value)))
 clear M'; refine xeL ?_; have hlb:=(Below.refl w13.heap.size w13).alloc (xnR _) (.cells #[.int .i64 3] 3); refine actL (w':=w13.alloc (.cells #[.int .i64 3] 3)) (.slice (some ⟨w13.heap.size,0,none⟩) 1 1) rfl (by kernel_rfl) ?_; simp only [aP,lI,l0,lS]; replace hIa:=hK.bel hIa hlb; replace L_13:=NewI.below L_13 hlb; replace M:=M.box #[.int .i64 3] 3 w13.heap.size rfl; clear hlb
 generalize w13.alloc (.cells #[.int .i64 3] 3)=w14 at M hIa L_13 ⊢; generalize w13.heap.size=B14 at M ⊢
 replace M:Mm w0 ((B14,[.int .i64 3])::(B9,[.int .i64 0])::(B2,[.int .u8 7,.int .u8 0,.int .u8 0,.int .u8 0,.int .u8 0,.int .u8 0,.int .u8 0,.int .u8 0])::(ba6++((obs p13)++([]:List (Nat × List Value))))) w14:=M
 have key:=ints20_any ([3]) (by decide) p13 (some ⟨B14,0,none⟩) c13 1 w14 (NewI.src L_13) (M.srcI mS [3] rfl); refine xcL key ?_; clear key; rintro e w15 ⟨rfl,l_⟩; replace M:=M.call l_; replace hIa:=hK.bel hIa l_; replace L_13:=NewI.below L_13 l_; clear l_; refine xeL ?_; refine xpL (.bool true) ?_; refine xT ?_
 replace M:Mm w0 ((B14,[.int .i64 3])::(B9,[.int .i64 0])::(B2,[.int .u8 7,.int .u8 0,.int .u8 0,.int .u8 0,.int .u8 0,.int .u8 0,.int .u8 0,.int .u8 0])::(ba6++([]:List (Nat × List Value)))) w15:=M.sub _ (List.cons_sublist_cons.2 (List.cons_sublist_cons.2 (List.cons_sublist_cons.2 ((List.Sublist.refl _).append (List.sublist_append_right _ _)))))
 clear L_13; go_upto_region 12 with fail; refine wp_region_list ?_; refine xpL (.pointer (some ⟨Ra,0,none⟩)) ?_; have Mp:=M.perm (pull0 ([(B14,[.int .i64 3]),(B9,[.int .i64 0]),(B2,[.int .u8 7,.int .u8 0,.int .u8 0,.int .u8 0,.int .u8 0,.int .u8 0,.int .u8 0,.int .u8 0])]:List (Nat × List Value)) ba6 ([]:List (Nat × List Value)))
 have key:=hK.due w0 _ _ (tz pz1) ba6 _ 209 tz_w1 (by unfold i64; decide) hIa Mp
 rw [tz_d209.1] at key
 rw [tz_d209.2] at key
 refine xcL key ?_; clear key; rintro e w16 ⟨p16,c16,ba7,rfl,L_16,hI_,M',o1⟩; clear o1 Mp M hIa; have hIa:=hI_; clear hI_
 have M:Mm w0 ((B14,[.int .i64 3])::(B9,[.int .i64 0])::(B2,[.int .u8 7,.int .u8 0,.int .u8 0,.int .u8 0,.int .u8 0,.int .u8 0,.int .u8 0,.int .u8 0])::(ba7++((obs p16)++([]:List (Nat × List Value))))) w16:=M'.perm (pullY ([(B14,[.int .i64 3]),(B9,[.int .i64 0]),(B2,[.int .u8 7,.int .u8 0,.int .u8 0,.int .u8 0,.int .u8 0,.int .u8 0,.int .u8 0,.int .u8 0])]:List (Nat × List Value)) ba7 (obs p16) ([]:List (Nat × List Value)))
 clear M'; refine xeL ?_; have key:=ints20_any ([]) (by decide) p16 none c16 0 w16 (NewI.src L_16) (fun j hj=>absurd hj (xnZ j)); refine xcL key ?_; clear key; rintro e w17 ⟨rfl,l_⟩; replace M:=M.call l_; replace hIa:=hK.bel hIa l_; replace L_16:=NewI.below L_16 l_; clear l_; refine xeL ?_; refine xpL (.bool true) ?_; refine xT ?_
 replace M:Mm w0 ((B14,[.int .i64 3])::(B9,[.int .i64 0])::(B2,[.int .u8 7,.int .u8 0,.int .u8 0,.int .u8 0,.int .u8 0,.int .u8 0,.int .u8 0,.int .u8 0])::(ba7++([]:List (Nat × List Value)))) w17:=M.sub _ (List.cons_sublist_cons.2 (List.cons_sublist_cons.2 (List.cons_sublist_cons.2 ((List.Sublist.refl _).append (List.sublist_append_right _ _)))))
 clear L_16; go_upto_region 13 with fail; refine wp_region_list ?_; refine xpL (.pointer (some ⟨Ra,0,none⟩)) ?_; have Mp:=M.perm (pull0 ([(B14,[.int .i64 3]),(B9,[.int .i64 0]),(B2,[.int .u8 7,.int .u8 0,.int .u8 0,.int .u8 0,.int .u8 0,.int .u8 0,.int .u8 0,.int .u8 0])]:List (Nat × List Value)) ba7 ([]:List (Nat × List Value)))
 have key:=hK.due w0 _ _ (tz pz1) ba7 _ 210 tz_w1 (by unfold i64; decide) hIa Mp
 rw [tz_d210.1] at key
 rw [tz_d210.2] at key
 refine xcL key ?_; clear key; rintro e w18 ⟨p18,c18,ba8,rfl,L_18,hI_,M',o1⟩; clear o1 Mp M hIa; have hIa:=hI_; clear hI_
 have M:Mm w0 ((B14,[.int .i64 3])::(B9,[.int .i64 0])::(B2,[.int .u8 7,.int .u8 0,.int .u8 0,.int .u8 0,.int .u8 0,.int .u8 0,.int .u8 0,.int .u8 0])::(ba8++((obs p18)++([]:List (Nat × List Value))))) w18:=M'.perm (pullY ([(B14,[.int .i64 3]),(B9,[.int .i64 0]),(B2,[.int .u8 7,.int .u8 0,.int .u8 0,.int .u8 0,.int .u8 0,.int .u8 0,.int .u8 0,.int .u8 0])]:List (Nat × List Value)) ba8 (obs p18) ([]:List (Nat × List Value)))
 clear M'; refine xeL ?_; have hlb:=(Below.refl w18.heap.size w18).alloc (xnR _) (.cells #[.int .i64 3] 3); refine actL (w':=w18.alloc (.cells #[.int .i64 3] 3)) (.slice (some ⟨w18.heap.size,0,none⟩) 1 1) rfl (by kernel_rfl) ?_; simp only [aP,lI,l0,lS]; replace hIa:=hK.bel hIa hlb; replace L_18:=NewI.below L_18 hlb; replace M:=M.box #[.int .i64 3] 3 w18.heap.size rfl; clear hlb
 generalize w18.alloc (.cells #[.int .i64 3] 3)=w19 at M hIa L_18 ⊢; generalize w18.heap.size=B19 at M ⊢
 replace M:Mm w0 ((B19,[.int .i64 3])::(B14,[.int .i64 3])::(B9,[.int .i64 0])::(B2,[.int .u8 7,.int .u8 0,.int .u8 0,.int .u8 0,.int .u8 0,.int .u8 0,.int .u8 0,.int .u8 0])::(ba8++((obs p18)++([]:List (Nat × List Value))))) w19:=M
 have key:=ints20_any ([3]) (by decide) p18 (some ⟨B19,0,none⟩) c18 1 w19 (NewI.src L_18) (M.srcI mS [3] rfl); refine xcL key ?_; clear key; rintro e w20 ⟨rfl,l_⟩; replace M:=M.call l_; replace hIa:=hK.bel hIa l_; replace L_18:=NewI.below L_18 l_; clear l_; refine xeL ?_; refine xpL (.bool true) ?_; refine xT ?_
 replace M:Mm w0 ((B19,[.int .i64 3])::(B14,[.int .i64 3])::(B9,[.int .i64 0])::(B2,[.int .u8 7,.int .u8 0,.int .u8 0,.int .u8 0,.int .u8 0,.int .u8 0,.int .u8 0,.int .u8 0])::(ba8++([]:List (Nat × List Value)))) w20:=M.sub _ (List.cons_sublist_cons.2 (List.cons_sublist_cons.2 (List.cons_sublist_cons.2 (List.cons_sublist_cons.2 ((List.Sublist.refl _).append (List.sublist_append_right _ _))))))
 clear L_18; go_upto_region 14 with fail; refine wp_region_list ?_; refine xpL (.pointer (some ⟨Ra,0,none⟩)) ?_; refine xpL (.agg #[.int .u8 8,.int .u8 0,.int .u8 0,.int .u8 0,.int .u8 0,.int .u8 0,.int .u8 0,.int .u8 0]) ?_
 have Mp:=M.perm (pull0 ([(B19,[.int .i64 3]),(B14,[.int .i64 3]),(B9,[.int .i64 0]),(B2,[.int .u8 7,.int .u8 0,.int .u8 0,.int .u8 0,.int .u8 0,.int .u8 0,.int .u8 0,.int .u8 0])]:List (Nat × List Value)) ba8 ([]:List (Nat × List Value))); have key:=hK.ans w0 _ _ (tz pz2) ba8 _ 3 (tk1 8) tz_w2 (by unfold i64; decide) (tk1_in (by decide)) hIa Mp
 rw [tz_a8] at key
 rw [tz_sa8] at key
 rw [tk1_8] at key
 refine xcL key ?_; clear key; rintro e w21 ⟨ba9,rfl,hI_,M',o1⟩; clear o1 Mp M hIa; have hIa:=hI_; clear hI_
 have M:Mm w0 ((B19,[.int .i64 3])::(B14,[.int .i64 3])::(B9,[.int .i64 0])::(B2,[.int .u8 7,.int .u8 0,.int .u8 0,.int .u8 0,.int .u8 0,.int .u8 0,.int .u8 0,.int .u8 0])::(ba9++([]:List (Nat × List Value)))) w21:=M'.perm (pull0 ([(B19,[.int .i64 3]),(B14,[.int .i64 3]),(B9,[.int .i64 0]),(B2,[.int .u8 7,.int .u8 0,.int .u8 0,.int .u8 0,.int .u8 0,.int .u8 0,.int .u8 0,.int .u8 0])]:List (Nat × List Value)) ba9 ([]:List (Nat × List Value))).symm
 clear M'; refine xeL ?_; refine xpL (.bool false) ?_; refine xT ?_; go_upto_region 15 with fail; refine wp_region_list ?_; refine xpL (.pointer (some ⟨Ra,0,none⟩)) ?_
 refine xaL (.agg #[.int .u8 7,.int .u8 0,.int .u8 0,.int .u8 0,.int .u8 0,.int .u8 0,.int .u8 0,.int .u8 0]) (loadN 30 _ ⟨B2,0,none⟩ [.int .u8 7,.int .u8 0,.int .u8 0,.int .u8 0,.int .u8 0,.int .u8 0,.int .u8 0,.int .u8 0] rfl rfl (fun _=>by kernel_rfl) (fun _=>by kernel_rfl) (M.rangeAt (mI 3 rfl))) ?_
 have Mp:=M.perm (pull0 ([(B19,[.int .i64 3]),(B14,[.int .i64 3]),(B9,[.int .i64 0]),(B2,[.int .u8 7,.int .u8 0,.int .u8 0,.int .u8 0,.int .u8 0,.int .u8 0,.int .u8 0,.int .u8 0])]:List (Nat × List Value)) ba9 ([]:List (Nat × List Value))); have key:=hK.ans w0 _ _ (tz pz2) ba9 _ 3 (tk1 7) tz_w2 (by unfold i64; decide) (tk1_in (by decide)) hIa Mp
 rw [tz_a7] at key
 rw [tz_sa7] at key
 rw [tk1_7] at key
 refine xcL key ?_; clear key; rintro e w22 ⟨ba10,rfl,hI_,M',o1⟩; clear o1 Mp M hIa; have hIa:=hI_; clear hI_
 have M:Mm w0 ((B19,[.int .i64 3])::(B14,[.int .i64 3])::(B9,[.int .i64 0])::(B2,[.int .u8 7,.int .u8 0,.int .u8 0,.int .u8 0,.int .u8 0,.int .u8 0,.int .u8 0,.int .u8 0])::(ba10++([]:List (Nat × List Value)))) w22:=M'.perm (pull0 ([(B19,[.int .i64 3]),(B14,[.int .i64 3]),(B9,[.int .i64 0]),(B2,[.int .u8 7,.int .u8 0,.int .u8 0,.int .u8 0,.int .u8 0,.int .u8 0,.int .u8 0,.int .u8 0])]:List (Nat × List Value)) ba10 ([]:List (Nat × List Value))).symm
 clear M'; refine xeL ?_; refine xpL (.bool true) ?_; refine xT ?_; go_upto_region 16 with fail; refine wp_region_list ?_; refine xpL (.pointer (some ⟨Ra,0,none⟩)) ?_
 have Mp:=M.perm (pull0 ([(B19,[.int .i64 3]),(B14,[.int .i64 3]),(B9,[.int .i64 0]),(B2,[.int .u8 7,.int .u8 0,.int .u8 0,.int .u8 0,.int .u8 0,.int .u8 0,.int .u8 0,.int .u8 0])]:List (Nat × List Value)) ba10 ([]:List (Nat × List Value))); have key:=hK.sta w0 _ _ (tz pz3) ba10 _ 3 tz_w3 (by unfold i64; decide) hIa Mp; clear Mp
 rw [tz_st] at key
 refine xcL key ?_; clear key; rintro e w23 ⟨rfl,l_⟩; replace M:=M.call l_; replace hIa:=hK.bel hIa l_; clear l_; refine xeL ?_; refine xpL (.int .i64 ((2:Nat):Int)) ?_; refine xT ?_; go_upto_region 17 with fail; refine wp_region_list ?_; refine xpL (.pointer (some ⟨Ra,0,none⟩)) ?_
 refine xaL (.agg #[.int .u8 7,.int .u8 0,.int .u8 0,.int .u8 0,.int .u8 0,.int .u8 0,.int .u8 0,.int .u8 0]) (loadN 30 _ ⟨B2,0,none⟩ [.int .u8 7,.int .u8 0,.int .u8 0,.int .u8 0,.int .u8 0,.int .u8 0,.int .u8 0,.int .u8 0] rfl rfl (fun _=>by kernel_rfl) (fun _=>by kernel_rfl) (M.rangeAt (mI 3 rfl))) ?_
 have Mp:=M.perm (pull0 ([(B19,[.int .i64 3]),(B14,[.int .i64 3]),(B9,[.int .i64 0]),(B2,[.int .u8 7,.int .u8 0,.int .u8 0,.int .u8 0,.int .u8 0,.int .u8 0,.int .u8 0,.int .u8 0])]:List (Nat × List Value)) ba10 ([]:List (Nat × List Value))); have key:=hK.ans w0 _ _ (tz pz3) ba10 _ 3 (tk1 7) tz_w3 (by unfold i64; decide) (tk1_in (by decide)) hIa Mp
 rw [tz_a7b] at key
 rw [tz_sa7b] at key
 rw [tk1_7] at key
 refine xcL key ?_; clear key; rintro e w24 ⟨ba11,rfl,hI_,M',o1⟩; clear o1 Mp M hIa; have hIa:=hI_; clear hI_
 have M:Mm w0 ((B19,[.int .i64 3])::(B14,[.int .i64 3])::(B9,[.int .i64 0])::(B2,[.int .u8 7,.int .u8 0,.int .u8 0,.int .u8 0,.int .u8 0,.int .u8 0,.int .u8 0,.int .u8 0])::(ba11++([]:List (Nat × List Value)))) w24:=M'.perm (pull0 ([(B19,[.int .i64 3]),(B14,[.int .i64 3]),(B9,[.int .i64 0]),(B2,[.int .u8 7,.int .u8 0,.int .u8 0,.int .u8 0,.int .u8 0,.int .u8 0,.int .u8 0,.int .u8 0])]:List (Nat × List Value)) ba11 ([]:List (Nat × List Value))).symm
 clear M'; refine xeL ?_; refine xpL (.bool false) ?_; refine xT ?_; go_upto_region 18 with fail; refine wp_region_list ?_; refine xpL (.pointer (some ⟨Ra,0,none⟩)) ?_
 have Mp:=M.perm (pull0 ([(B19,[.int .i64 3]),(B14,[.int .i64 3]),(B9,[.int .i64 0]),(B2,[.int .u8 7,.int .u8 0,.int .u8 0,.int .u8 0,.int .u8 0,.int .u8 0,.int .u8 0,.int .u8 0])]:List (Nat × List Value)) ba11 ([]:List (Nat × List Value))); have key:=hK.sam w0 _ _ (tz pz3) ba11 _ 3 180 tz_w3 (by unfold i64; decide) (by unfold i64; decide) hIa Mp
 rw [tz_sm] at key
 refine xcL key ?_; clear key; rintro e w25 ⟨ba12,rfl,hI_,M',o1⟩; clear o1 Mp M hIa; have hIa:=hI_; clear hI_
 have M:Mm w0 ((B19,[.int .i64 3])::(B14,[.int .i64 3])::(B9,[.int .i64 0])::(B2,[.int .u8 7,.int .u8 0,.int .u8 0,.int .u8 0,.int .u8 0,.int .u8 0,.int .u8 0,.int .u8 0])::(ba12++([]:List (Nat × List Value)))) w25:=M'.perm (pull0 ([(B19,[.int .i64 3]),(B14,[.int .i64 3]),(B9,[.int .i64 0]),(B2,[.int .u8 7,.int .u8 0,.int .u8 0,.int .u8 0,.int .u8 0,.int .u8 0,.int .u8 0,.int .u8 0])]:List (Nat × List Value)) ba12 ([]:List (Nat × List Value))).symm
 clear M'; refine xeL ?_; refine xT ?_; go_upto_region 19 with fail; refine wp_region_list ?_; refine xpL (.pointer (some ⟨Ra,0,none⟩)) ?_
 have Mp:=M.perm (pull0 ([(B19,[.int .i64 3]),(B14,[.int .i64 3]),(B9,[.int .i64 0]),(B2,[.int .u8 7,.int .u8 0,.int .u8 0,.int .u8 0,.int .u8 0,.int .u8 0,.int .u8 0,.int .u8 0])]:List (Nat × List Value)) ba12 ([]:List (Nat × List Value))); have key:=hK.rtt w0 _ _ (tz pz4) ba12 _ 3 tz_w4 (by unfold i64; decide) hIa Mp; clear Mp
 rw [tz_rt] at key
 refine xcL key ?_; clear key; rintro e w26 ⟨rfl,l_⟩; replace M:=M.call l_; replace hIa:=hK.bel hIa l_; clear l_; refine xeL ?_; refine xpL (.int .i64 ((110:Nat):Int)) ?_; refine xT ?_; go_upto_region 20 with fail; refine wp_region_list ?_; refine xpL (.pointer (some ⟨Ra,0,none⟩)) ?_
 have Mp:=M.perm (pull0 ([(B19,[.int .i64 3]),(B14,[.int .i64 3]),(B9,[.int .i64 0]),(B2,[.int .u8 7,.int .u8 0,.int .u8 0,.int .u8 0,.int .u8 0,.int .u8 0,.int .u8 0,.int .u8 0])]:List (Nat × List Value)) ba12 ([]:List (Nat × List Value))); have key:=hK.rem w0 _ _ (tz pz4) ba12 _ 3 tz_w4 (by unfold i64; decide) hIa Mp
 rw [tz_r1] at key
 rw [tz_sr1] at key
 refine xcL key ?_; clear key; rintro e w27 ⟨ba13,rfl,hI_,M',o1⟩; clear o1 Mp M hIa; have hIa:=hI_; clear hI_
 have M:Mm w0 ((B19,[.int .i64 3])::(B14,[.int .i64 3])::(B9,[.int .i64 0])::(B2,[.int .u8 7,.int .u8 0,.int .u8 0,.int .u8 0,.int .u8 0,.int .u8 0,.int .u8 0,.int .u8 0])::(ba13++([]:List (Nat × List Value)))) w27:=M'.perm (pull0 ([(B19,[.int .i64 3]),(B14,[.int .i64 3]),(B9,[.int .i64 0]),(B2,[.int .u8 7,.int .u8 0,.int .u8 0,.int .u8 0,.int .u8 0,.int .u8 0,.int .u8 0,.int .u8 0])]:List (Nat × List Value)) ba13 ([]:List (Nat × List Value))).symm
 clear M'; refine xeL ?_; refine xpL (.int .i64 ((0:Nat):Int)) ?_; refine xT ?_; go_upto_region 21 with fail; refine wp_region_list ?_; refine xpL (.pointer (some ⟨Ra,0,none⟩)) ?_
 have Mp:=M.perm (pull0 ([(B19,[.int .i64 3]),(B14,[.int .i64 3]),(B9,[.int .i64 0]),(B2,[.int .u8 7,.int .u8 0,.int .u8 0,.int .u8 0,.int .u8 0,.int .u8 0,.int .u8 0,.int .u8 0])]:List (Nat × List Value)) ba13 ([]:List (Nat × List Value))); have key:=hK.rem w0 _ _ (tz pz5) ba13 _ 3 tz_w5 (by unfold i64; decide) hIa Mp
 rw [tz_r2] at key
 rw [tz_sr2] at key
 refine xcL key ?_; clear key; rintro e w28 ⟨ba14,rfl,hI_,M',o1⟩; clear o1 Mp M hIa; have hIa:=hI_; clear hI_
 have M:Mm w0 ((B19,[.int .i64 3])::(B14,[.int .i64 3])::(B9,[.int .i64 0])::(B2,[.int .u8 7,.int .u8 0,.int .u8 0,.int .u8 0,.int .u8 0,.int .u8 0,.int .u8 0,.int .u8 0])::(ba14++([]:List (Nat × List Value)))) w28:=M'.perm (pull0 ([(B19,[.int .i64 3]),(B14,[.int .i64 3]),(B9,[.int .i64 0]),(B2,[.int .u8 7,.int .u8 0,.int .u8 0,.int .u8 0,.int .u8 0,.int .u8 0,.int .u8 0,.int .u8 0])]:List (Nat × List Value)) ba14 ([]:List (Nat × List Value))).symm
 clear M'; refine xeL ?_; refine xpL (.int .i64 ((200:Nat):Int)) ?_; refine xT ?_; go_upto_region 22 with fail; refine wp_region_list ?_; refine xpL (.pointer (some ⟨Ra,0,none⟩)) ?_
 refine xaL (.agg #[.int .u8 7,.int .u8 0,.int .u8 0,.int .u8 0,.int .u8 0,.int .u8 0,.int .u8 0,.int .u8 0]) (loadN 30 _ ⟨B2,0,none⟩ [.int .u8 7,.int .u8 0,.int .u8 0,.int .u8 0,.int .u8 0,.int .u8 0,.int .u8 0,.int .u8 0] rfl rfl (fun _=>by kernel_rfl) (fun _=>by kernel_rfl) (M.rangeAt (mI 3 rfl))) ?_
 have Mp:=M.perm (pull0 ([(B19,[.int .i64 3]),(B14,[.int .i64 3]),(B9,[.int .i64 0]),(B2,[.int .u8 7,.int .u8 0,.int .u8 0,.int .u8 0,.int .u8 0,.int .u8 0,.int .u8 0,.int .u8 0])]:List (Nat × List Value)) ba14 ([]:List (Nat × List Value))); have key:=hK.add w0 _ _ (tz pz5) ba14 _ 3 (tk1 7) 0 tz_w5 (by unfold i64; decide) (tk1_in (by decide)) (by unfold i64; decide) hIa Mp
 rw [tz_b4] at key
 rw [tz_s4] at key
 rw [tk1_7] at key
 refine xcL key ?_; clear key; rintro e w29 ⟨ba15,rfl,hI_,M',o1⟩; clear o1 Mp M hIa; have hIa:=hI_; clear hI_
 have M:Mm w0 ((B19,[.int .i64 3])::(B14,[.int .i64 3])::(B9,[.int .i64 0])::(B2,[.int .u8 7,.int .u8 0,.int .u8 0,.int .u8 0,.int .u8 0,.int .u8 0,.int .u8 0,.int .u8 0])::(ba15++([]:List (Nat × List Value)))) w29:=M'.perm (pull0 ([(B19,[.int .i64 3]),(B14,[.int .i64 3]),(B9,[.int .i64 0]),(B2,[.int .u8 7,.int .u8 0,.int .u8 0,.int .u8 0,.int .u8 0,.int .u8 0,.int .u8 0,.int .u8 0])]:List (Nat × List Value)) ba15 ([]:List (Nat × List Value))).symm
 clear M'; refine xeL ?_; refine xpL (.int .i64 ((201:Nat):Int)) ?_; refine xT ?_; go_upto_region 23 with fail; refine wp_region_list ?_; refine xpL (.int .i64 ((0:Nat):Int)) ?_; refine xaL (.bool true) (eqlI .i64 _ _ _ _ _ _ rfl rfl rfl true rfl _) ?_; refine xpL (.bool true) ?_; refine xpL (.int .i64 ((201:Nat):Int)) ?_
 refine xaL (.bool true) (eqlI .i64 _ _ _ _ _ _ rfl rfl rfl true rfl _) ?_; refine xpL (.bool true) ?_; refine xpL (.bool true) ?_; refine xpL (.int .i64 ((1:Nat):Int)) ?_; refine xaL (.bool true) (eqlI .i64 _ _ _ _ _ _ rfl rfl rfl true rfl _) ?_; refine xpL (.bool true) ?_; refine xpL (.bool true) ?_; refine xpL (.int .i64 ((0:Nat):Int)) ?_
 refine xaL (.bool true) (eqlI .i64 _ _ _ _ _ _ rfl rfl rfl true rfl _) ?_; refine xpL (.bool true) ?_; refine xpL (.bool true) ?_; refine xpL (.bool true) ?_; refine xpL (.bool true) ?_; refine xpL (.bool true) ?_; refine xpL (.bool true) ?_; refine xpL (.bool true) ?_; refine xpL (.bool true) ?_; refine xpL (.bool true) ?_; refine xpL (.bool true) ?_; refine xpL (.bool true) ?_
 refine xpL (.bool true) ?_; refine xpL (.bool true) ?_; refine xpL (.bool true) ?_; refine xpL (.bool true) ?_; refine xpL (.bool true) ?_; refine xpL (.bool true) ?_; refine xpL (.bool false) ?_; refine xpL (.bool true) ?_; refine xpL (.bool true) ?_; refine xpL (.bool true) ?_; refine xpL (.bool true) ?_; refine xpL (.bool true) ?_; refine xpL (.bool true) ?_
 refine xpL (.int .i64 ((2:Nat):Int)) ?_; refine xaL (.bool true) (eqlI .i64 _ _ _ _ _ _ rfl rfl rfl true rfl _) ?_; refine xpL (.bool true) ?_; refine xpL (.bool true) ?_; refine xpL (.bool false) ?_; refine xpL (.bool true) ?_; refine xpL (.bool true) ?_; refine xpL (.bool true) ?_; refine xpL (.int .i64 ((110:Nat):Int)) ?_
 refine xaL (.bool true) (eqlI .i64 _ _ _ _ _ _ rfl rfl rfl true rfl _) ?_; refine xpL (.bool true) ?_; refine xpL (.bool true) ?_; refine xpL (.int .i64 ((0:Nat):Int)) ?_; refine xaL (.bool true) (eqlI .i64 _ _ _ _ _ _ rfl rfl rfl true rfl _) ?_; refine xpL (.bool true) ?_; refine xpL (.bool true) ?_; refine xpL (.int .i64 ((200:Nat):Int)) ?_
 refine xaL (.bool true) (eqlI .i64 _ _ _ _ _ _ rfl rfl rfl true rfl _) ?_; refine xpL (.bool true) ?_; refine xpL (.bool true) ?_; refine xpL (.int .i64 ((201:Nat):Int)) ?_; refine xaL (.bool true) (eqlI .i64 _ _ _ _ _ _ rfl rfl rfl true rfl _) ?_; refine xpL (.bool true) ?_; refine xpL (.bool true) ?_; refine xT ?_; have hbel:=M.below; clear M hIa; go_wp2; go_ret
 exact ⟨rfl,hbel⟩
def kdn (c:Int) (n:Nat):Nat:=(if c<0 then -(c+1) else c).toNat%n
theorem kdn_lt (c:Int) (n:Nat) (h:0<n):kdn c n<n:=Nat.mod_lt _ h
theorem kind20_any (c:Int) (n:Nat) (hn:0<n) (h1:i64 c) (w:World) :
 Calls Try.prog 9 #[.int .i64 c,.int .i64 (n:Int)] w fun e w'=>e=.returned (.int .i64 (kdn c n:Int))∧Below w.heap.size w w':=by
 unfold i64 at h1
 have M:=Mm.init w
 go_enter Try.func9,Try.ntmps9
 go_upto_region 0 with fail; refine wp_region_list ?_; refine xpL (.int .i64 0) ?_; refine xT ?_
 by_cases hc:c<0
 · go_upto_region 1 with fail
   refine wp_region_list ?_; refine xpL (.int .i64 c) ?_; refine xaL (.bool true) (lssI .i64 _ _ _ _ _ _ rfl rfl rfl true (decide_eq_true hc) _) ?_; refine xT ?_; go_upto_region 2 with fail; refine wp_region_list ?_; refine xpL (.int .i64 c) ?_; refine xaL (.int .i64 (c+1)) (addI .i64 _ _ _ _ _ _ _ rfl rfl rfl (by rw [xw6]; omega) _) ?_
   refine xaL (.int .i64 (-(c+1))) (negI .i64 _ _ _ _ rfl rfl (by rw [xw6]; omega) _) ?_; refine xpL (.int .i64 (-(c+1))) ?_; refine xT ?_
   have hrem:(-(c+1)).tmod (n:Int)=((kdn c n:Nat):Int):=by
    unfold kdn
    rw [if_pos hc]
    obtain ⟨m,hm⟩:∃ m:Nat,-(c+1)=(m:Int):=⟨(-(c+1)).toNat,by omega⟩
    rw [hm,Int.toNat_natCast]
    rfl
   go_upto_region 3 with fail; refine wp_region_list ?_; refine xpL (.int .i64 (-(c+1))) ?_; refine xpL (.int .i64 (n:Int)) ?_; refine xaL (.int .i64 ((kdn c n:Nat):Int)) (remI .i64 _ _ _ _ _ _ _ rfl rfl rfl (by omega) hrem _) ?_; refine xpL (.int .i64 ((kdn c n:Nat):Int)) ?_; refine xT ?_; have hB:=M.below; clear M; go_wp2; go_ret
   exact ⟨rfl,hB⟩
 · go_upto_region 1 with fail
   refine wp_region_list ?_; refine xpL (.int .i64 c) ?_; refine xaL (.bool false) (lssI .i64 _ _ _ _ _ _ rfl rfl rfl false (decide_eq_false hc) _) ?_; refine xT ?_
   have hrem:(c).tmod (n:Int)=((kdn c n:Nat):Int):=by
    unfold kdn
    rw [if_neg hc]
    obtain ⟨m,hm⟩:∃ m:Nat,c=(m:Int):=⟨(c).toNat,by omega⟩
    rw [hm,Int.toNat_natCast]
    rfl
   go_upto_region 3 with fail; refine wp_region_list ?_; refine xpL (.int .i64 c) ?_; refine xpL (.int .i64 (n:Int)) ?_; refine xaL (.int .i64 ((kdn c n:Nat):Int)) (remI .i64 _ _ _ _ _ _ _ rfl rfl rfl (by omega) hrem _) ?_; refine xpL (.int .i64 ((kdn c n:Nat):Int)) ?_; refine xT ?_; have hB:=M.below; clear M; go_wp2; go_ret
   exact ⟨rfl,hB⟩
end Go.Proofs.Ytdengjdfmhcbiaa
