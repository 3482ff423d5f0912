/- Texts of Uf Kn Ud LawPathsTries Gv Ui Uj Ul Fq Ut, joined. -/
import Derived.Test.YtdengjdfmhcbiaaP1PathsTries
set_option maxRecDepth 20000
set_option maxHeartbeats 64000000
namespace Go.Proofs.Ytdengjdfmhcbiaa
open Go.RowKit
theorem Mm.srcI {w0 w:World} {l:List (Nat × List Value)} (h:Mm w0 l w) {b:Nat} {cs:List Value} (hp:(b,cs)∈l) (bs:List Int) (hc:cs=bs.map (Value.int .i64)):SrcI w (some ⟨b,0,none⟩) bs.length (bl bs):=fun j hj=>⟨_,rfl,by
 rw [Addr.add_mid,Nat.zero_add]
 refine h.get hp j _ ?_
 rw [hc,List.getElem?_map,List.getElem?_eq_getElem hj]
 unfold bl
 rw [List.getD_eq_getElem?_getD,List.getElem?_eq_getElem hj]
 rfl⟩
def tk1 (c:Int):Nat→Int:=fun j=>if j=0 then c else 0
theorem tk1_in {c:Int} (h:0≤c∧c<256):In 256 8 (tk1 c):=fun j _=>by
 unfold tk1
 split
 · exact h
 · decide
theorem tk1_7:tok8 (tk1 7)=.agg #[.int .u8 7,.int .u8 0,.int .u8 0,.int .u8 0,.int .u8 0,.int .u8 0,.int .u8 0,.int .u8 0]:=by kernel_rfl
theorem tk1_8:tok8 (tk1 8)=.agg #[.int .u8 8,.int .u8 0,.int .u8 0,.int .u8 0,.int .u8 0,.int .u8 0,.int .u8 0,.int .u8 0]:=by kernel_rfl
def tz1:Ptb:=pput pnew 0 ⟨2,100,0,0,fun _=>0⟩
def tz (p:Pth):Ptb:=pput tz1 3 p
def pz0:Pth:=⟨1,100,0,10,tk1 7⟩
def pz1:Pth:=⟨1,100,1,210,tk1 7⟩
def pz2:Pth:=⟨1,100,2,610,tk1 7⟩
def pz3:Pth:=⟨2,100,2,610,tk1 7⟩
def pz4:Pth:=⟨2,110,2,610,tk1 7⟩
def pz5:Pth:=⟨3,110,2,610,tk1 7⟩
theorem pput_put (t:Ptb) (k:Nat) (p q:Pth):pput (pput t k p) k q=pput t k q:=by
 funext j
 unfold pput
 split <;> rfl
theorem tz_pdt (p:Pth) (m:Nat):pdt (tz p) m=tz (if p.st=1∧p.nx≤m then (if p.tr=4 then { p with st:=4 } else { p with tr:=p.tr+1,nx:=m+p.rt*2^(p.tr+1) }) else p):=by
 funext k
 by_cases c:k=3
 · subst c
   unfold pdt pdw tz
   rw [pput_same,pput_same]
   by_cases d:p.st=1∧p.nx≤m
   · rw [if_pos d,if_pos (decide_eq_true d)]
   · rw [if_neg d,if_neg (by rw [decide_eq_false d]; decide)]
 · have h:∀ q,tz q k=tz1 k:=fun q=>pput_other c q
   unfold pdt pdw
   rw [h,h]
   by_cases d:k=0
   · subst d
     rfl
   · have:tz1 k=pnone:=pput_other d _
     rw [this]
     rfl
theorem tz_b0:pmay pnew 0=0:=by decide +kernel
theorem tz_s0:pbeg pnew 0=tz1:=by
 unfold pbeg
 rw [if_pos tz_b0]
 rfl
theorem tz_b1:pmay tz1 0=201:=by decide +kernel
theorem tz_s1:pbeg tz1 0=tz1:=if_neg (by rw [tz_b1]; decide)
theorem tz_b2:pmay tz1 256=1:=by decide +kernel
theorem tz_s2:pbeg tz1 256=tz1:=if_neg (by rw [tz_b2]; decide)
theorem tz_b3:pmay tz1 3=0:=by decide +kernel
theorem tz_s3:padd tz1 3 (tk1 7) 10=tz pz0:=by
 unfold padd
 rw [if_pos tz_b3]
 rfl
theorem tz_l:prow (tz pz0) 2=[0]:=by decide +kernel
theorem tz_d9:pdl (tz pz0) (pmom 9)=[]∧pdt (tz pz0) (pmom 9)=tz pz0:=⟨by decide +kernel,by rw [tz_pdt]; exact congrArg tz (if_neg (by decide +kernel))⟩
theorem tz_d10:pdl (tz pz0) (pmom 10)=[3]∧pdt (tz pz0) (pmom 10)=tz pz1:=⟨by decide +kernel,by rw [tz_pdt]; exact congrArg tz ((if_pos (by decide +kernel)).trans (if_neg (by decide)))⟩
theorem tz_d209:pdl (tz pz1) (pmom 209)=[]∧pdt (tz pz1) (pmom 209)=tz pz1:=⟨by decide +kernel,by rw [tz_pdt]; exact congrArg tz (if_neg (by decide +kernel))⟩
theorem tz_d210:pdl (tz pz1) (pmom 210)=[3]∧pdt (tz pz1) (pmom 210)=tz pz2:=⟨by decide +kernel,by rw [tz_pdt]; exact congrArg tz ((if_pos (by decide +kernel)).trans (if_neg (by decide)))⟩
theorem tz_a8:pans (tz pz2) 3 (tk1 8)=false:=by decide +kernel
theorem tz_sa8:pant (tz pz2) 3 (tk1 8)=tz pz2:=if_neg (by rw [tz_a8]; decide)
theorem tz_a7:pans (tz pz2) 3 (tk1 7)=true:=by decide +kernel
theorem tz_sa7:pant (tz pz2) 3 (tk1 7)=tz pz3:=(if_pos tz_a7).trans (pput_put tz1 3 pz2 pz3)
theorem tz_st:pst (tz pz3) 3=2:=by decide +kernel
theorem tz_a7b:pans (tz pz3) 3 (tk1 7)=false:=by decide +kernel
theorem tz_sa7b:pant (tz pz3) 3 (tk1 7)=tz pz3:=if_neg (by rw [tz_a7b]; decide)
theorem tz_sm:psm (tz pz3) 3 180=tz pz4:=(if_pos (by decide +kernel)).trans (pput_put tz1 3 pz3 pz4)
theorem tz_rt:prt (tz pz4) 3=110:=by decide +kernel
theorem tz_r1:prE (tz pz4) 3=0:=by decide +kernel
theorem tz_sr1:prm (tz pz4) 3=tz pz5:=(if_pos (by decide +kernel)).trans (pput_put tz1 3 pz4 pz5)
theorem tz_r2:prE (tz pz5) 3=200:=by decide +kernel
theorem tz_sr2:prm (tz pz5) 3=tz pz5:=if_neg (by decide +kernel)
theorem tz_b4:pmay (tz pz5) 3=201:=by decide +kernel
theorem tz_s4:padd (tz pz5) 3 (tk1 7) 0=tz pz5:=if_neg (by rw [tz_b4]; decide)
theorem tz1_w:PtbW tz1:=tz_s0 ▸ pbeg_w pnew_w 0
theorem tz_w0:PtbW (tz pz0):=tz_s3 ▸ padd_w tz1_w 3 (tk1_in (by decide)) 10
theorem tz_w1:PtbW (tz pz1):=tz_d10.2 ▸ pdt_w tz_w0 (pmom_le 10)
theorem tz_w2:PtbW (tz pz2):=tz_d210.2 ▸ pdt_w tz_w1 (pmom_le 210)
theorem tz_w3:PtbW (tz pz3):=tz_sa7 ▸ pant_w tz_w2 3 (tk1 7)
theorem tz_w4:PtbW (tz pz4):=tz_sm ▸ psm_w tz_w3 3 180
theorem tz_w5:PtbW (tz pz5):=tz_sr1 ▸ prm_w tz_w4 3
theorem shown20_any {I:TabI} (hK:TabOK I) (w0:World) :
 Calls Try.prog 7 #[] w0 fun e w'=>e=.returned (.bool true)∧Below w0.heap.size w0 w':=by
 have M:=Mm.init w0
 go_enter Try.func7,Try.ntmps7
 go_upto_region 0 with fail; refine wp_region_list ?_; refine xpL (.bool false) ?_; refine xT ?_; go_upto_region 1 with fail; refine wp_region_list ?_; have key:=hK.new w0 _ _ M; refine xcL key ?_; clear key; rintro e w1 ⟨v_,ba0,rfl,hIa,M',l_⟩
 obtain ⟨Ra,rfl⟩:=hK.ptr _ _ _ _ hIa
 clear M; have M:=M'.perm (pull0 ([]:List (Nat × List Value)) ba0 ([]:List (Nat × List Value))).symm; clear M'; clear l_
 replace M:Mm w0 ((ba0++([]:List (Nat × List Value)))) w1:=M
 refine xeL ?_; refine xpL (.pointer (some ⟨Ra,0,none⟩)) ?_; refine xT ?_; go_upto_region 2 with fail; refine wp_region_list ?_; refine xpL (.pointer (some ⟨Ra,0,none⟩)) ?_; refine xpL (.bool false) ?_; refine xT ?_; go_upto_region 4 with fail; refine wp_region_list ?_; refine xpL (.agg #[.int .u8 7,.int .u8 0,.int .u8 0,.int .u8 0,.int .u8 0,.int .u8 0,.int .u8 0,.int .u8 0]) ?_
 have hlb:=(Below.refl w1.heap.size w1).alloc (xnR _) (.cells zu8_8 30); refine actL (w':=w1.alloc (.cells zu8_8 30)) (.pointer (some ⟨w1.heap.size,0,none⟩)) rfl (by kernel_rfl) ?_; simp only [aP,lI,l0,lS]; replace hIa:=hK.bel hIa hlb; replace M:=M.box zu8_8 30 w1.heap.size rfl; clear hlb; generalize w1.alloc (.cells zu8_8 30)=w2 at M hIa ⊢; generalize w1.heap.size=B2 at M ⊢
 replace M:Mm w0 ((B2,[.int .u8 0,.int .u8 0,.int .u8 0,.int .u8 0,.int .u8 0,.int .u8 0,.int .u8 0,.int .u8 0])::(ba0++([]:List (Nat × List Value)))) w2:=M
 refine skipOpL rfl (storeP [.int .u8 7,.int .u8 0,.int .u8 0,.int .u8 0,.int .u8 0,.int .u8 0,.int .u8 0,.int .u8 0] B2 0 30 _ _ rfl rfl rfl (M.thereP mS 0 8 (Nat.le_of_ble_eq_true rfl)) (by kernel_rfl) (List.all_eq_true.1 (rfl:([.int .u8 7,.int .u8 0,.int .u8 0,.int .u8 0,.int .u8 0,.int .u8 0,.int .u8 0,.int .u8 0]:List Value).all (fun u=>u.oneCell')=true))) ?_
 simp only [Act.put]; replace M:=M.setPart [.int .u8 7,.int .u8 0,.int .u8 0,.int .u8 0,.int .u8 0,.int .u8 0,.int .u8 0,.int .u8 0] 0 (Nat.le_of_ble_eq_true rfl)
 replace hIa:=hK.off _ _ _ _ _ _ hIa ((Off.refl [B2] _).setAll (b:=B2) mS 0 [.int .u8 7,.int .u8 0,.int .u8 0,.int .u8 0,.int .u8 0,.int .u8 0,.int .u8 0,.int .u8 0]) (fun b_ hb_=>by obtain rfl:=xm1 hb_; exact M.awayC (fun p_ hp_=>by simp [hp_]))
 generalize w2.setCells B2 0 [.int .u8 7,.int .u8 0,.int .u8 0,.int .u8 0,.int .u8 0,.int .u8 0,.int .u8 0,.int .u8 0]=w3 at M hIa ⊢
 replace M:Mm w0 ((B2,[.int .u8 7,.int .u8 0,.int .u8 0,.int .u8 0,.int .u8 0,.int .u8 0,.int .u8 0,.int .u8 0])::(ba0++([]:List (Nat × List Value)))) w3:=M
 refine xT ?_; go_upto_region 5 with fail; refine wp_region_list ?_; refine xpL (.pointer (some ⟨Ra,0,none⟩)) ?_; have Mp:=M.perm (pull0 ([(B2,[.int .u8 7,.int .u8 0,.int .u8 0,.int .u8 0,.int .u8 0,.int .u8 0,.int .u8 0,.int .u8 0])]:List (Nat × List Value)) ba0 ([]:List (Nat × List Value))); have key:=hK.beg w0 _ _ pnew ba0 _ 0 pnew_w (by unfold i64; decide) hIa Mp
 rw [tz_b0] at key
 rw [tz_s0] at key
 refine xcL key ?_; clear key; rintro e w4 ⟨ba1,rfl,hI_,M',o1⟩; clear o1 Mp M hIa; have hIa:=hI_; clear hI_
 have M:Mm w0 ((B2,[.int .u8 7,.int .u8 0,.int .u8 0,.int .u8 0,.int .u8 0,.int .u8 0,.int .u8 0,.int .u8 0])::(ba1++([]:List (Nat × List Value)))) w4:=M'.perm (pull0 ([(B2,[.int .u8 7,.int .u8 0,.int .u8 0,.int .u8 0,.int .u8 0,.int .u8 0,.int .u8 0,.int .u8 0])]:List (Nat × List Value)) ba1 ([]:List (Nat × List Value))).symm
 clear M'; refine xeL ?_; refine xpL (.int .i64 ((0:Nat):Int)) ?_; refine xT ?_; go_upto_region 6 with fail; refine wp_region_list ?_; refine xpL (.pointer (some ⟨Ra,0,none⟩)) ?_; have Mp:=M.perm (pull0 ([(B2,[.int .u8 7,.int .u8 0,.int .u8 0,.int .u8 0,.int .u8 0,.int .u8 0,.int .u8 0,.int .u8 0])]:List (Nat × List Value)) ba1 ([]:List (Nat × List Value)))
 have key:=hK.beg w0 _ _ tz1 ba1 _ 0 tz1_w (by unfold i64; decide) hIa Mp
 rw [tz_b1] at key
 rw [tz_s1] at key
 refine xcL key ?_; clear key; rintro e w5 ⟨ba2,rfl,hI_,M',o1⟩; clear o1 Mp M hIa; have hIa:=hI_; clear hI_
 have M:Mm w0 ((B2,[.int .u8 7,.int .u8 0,.int .u8 0,.int .u8 0,.int .u8 0,.int .u8 0,.int .u8 0,.int .u8 0])::(ba2++([]:List (Nat × List Value)))) w5:=M'.perm (pull0 ([(B2,[.int .u8 7,.int .u8 0,.int .u8 0,.int .u8 0,.int .u8 0,.int .u8 0,.int .u8 0,.int .u8 0])]:List (Nat × List Value)) ba2 ([]:List (Nat × List Value))).symm
 clear M'; refine xeL ?_; refine xpL (.int .i64 ((201:Nat):Int)) ?_; refine xT ?_; go_upto_region 7 with fail; refine wp_region_list ?_; refine xpL (.pointer (some ⟨Ra,0,none⟩)) ?_; have Mp:=M.perm (pull0 ([(B2,[.int .u8 7,.int .u8 0,.int .u8 0,.int .u8 0,.int .u8 0,.int .u8 0,.int .u8 0,.int .u8 0])]:List (Nat × List Value)) ba2 ([]:List (Nat × List Value)))
 have key:=hK.beg w0 _ _ tz1 ba2 _ 256 tz1_w (by unfold i64; decide) hIa Mp
 rw [tz_b2] at key
 rw [tz_s2] at key
 refine xcL key ?_; clear key; rintro e w6 ⟨ba3,rfl,hI_,M',o1⟩; clear o1 Mp M hIa; have hIa:=hI_; clear hI_
 have M:Mm w0 ((B2,[.int .u8 7,.int .u8 0,.int .u8 0,.int .u8 0,.int .u8 0,.int .u8 0,.int .u8 0,.int .u8 0])::(ba3++([]:List (Nat × List Value)))) w6:=M'.perm (pull0 ([(B2,[.int .u8 7,.int .u8 0,.int .u8 0,.int .u8 0,.int .u8 0,.int .u8 0,.int .u8 0,.int .u8 0])]:List (Nat × List Value)) ba3 ([]:List (Nat × List Value))).symm
 clear M'; refine xeL ?_; refine xpL (.int .i64 ((1:Nat):Int)) ?_; refine xT ?_; go_upto_region 8 with fail; refine wp_region_list ?_; refine xpL (.pointer (some ⟨Ra,0,none⟩)) ?_
 refine xaL (.agg #[.int .u8 7,.int .u8 0,.int .u8 0,.int .u8 0,.int .u8 0,.int .u8 0,.int .u8 0,.int .u8 0]) (loadN 30 _ ⟨B2,0,none⟩ [.int .u8 7,.int .u8 0,.int .u8 0,.int .u8 0,.int .u8 0,.int .u8 0,.int .u8 0,.int .u8 0] rfl rfl (fun _=>by kernel_rfl) (fun _=>by kernel_rfl) (M.rangeAt mS)) ?_
 have Mp:=M.perm (pull0 ([(B2,[.int .u8 7,.int .u8 0,.int .u8 0,.int .u8 0,.int .u8 0,.int .u8 0,.int .u8 0,.int .u8 0])]:List (Nat × List Value)) ba3 ([]:List (Nat × List Value))); have key:=hK.add w0 _ _ tz1 ba3 _ 3 (tk1 7) 10 tz1_w (by unfold i64; decide) (tk1_in (by decide)) (by unfold i64; decide) hIa Mp
 rw [tz_b3] at key
 rw [tz_s3] at key
 rw [tk1_7] at key
 refine xcL key ?_; clear key; rintro e w7 ⟨ba4,rfl,hI_,M',o1⟩; clear o1 Mp M hIa; have hIa:=hI_; clear hI_
 have M:Mm w0 ((B2,[.int .u8 7,.int .u8 0,.int .u8 0,.int .u8 0,.int .u8 0,.int .u8 0,.int .u8 0,.int .u8 0])::(ba4++([]:List (Nat × List Value)))) w7:=M'.perm (pull0 ([(B2,[.int .u8 7,.int .u8 0,.int .u8 0,.int .u8 0,.int .u8 0,.int .u8 0,.int .u8 0,.int .u8 0])]:List (Nat × List Value)) ba4 ([]:List (Nat × List Value))).symm
 clear M'; refine xeL ?_; refine xpL (.int .i64 ((0:Nat):Int)) ?_; refine xT ?_; go_upto_region 9 with fail; refine wp_region_list ?_; refine xpL (.pointer (some ⟨Ra,0,none⟩)) ?_; have Mp:=M.perm (pull0 ([(B2,[.int .u8 7,.int .u8 0,.int .u8 0,.int .u8 0,.int .u8 0,.int .u8 0,.int .u8 0,.int .u8 0])]:List (Nat × List Value)) ba4 ([]:List (Nat × List Value)))
 have key:=hK.liv w0 _ _ (tz pz0) ba4 _ tz_w0 hIa Mp; clear Mp
 rw [tz_l] at key
 refine xcL key ?_; clear key; rintro e w8 ⟨p8,c8,rfl,L_8,l_⟩; replace M:=M.newI l_ L_8; replace hIa:=hK.bel hIa l_; clear l_
 replace M:Mm w0 ((B2,[.int .u8 7,.int .u8 0,.int .u8 0,.int .u8 0,.int .u8 0,.int .u8 0,.int .u8 0,.int .u8 0])::((obs p8)++(ba4++([]:List (Nat × List Value))))) w8:=M.perm (pull0 ([(B2,[.int .u8 7,.int .u8 0,.int .u8 0,.int .u8 0,.int .u8 0,.int .u8 0,.int .u8 0,.int .u8 0])]:List (Nat × List Value)) (obs p8) (ba4++([]:List (Nat × List Value)))).symm
 refine xeL ?_; have hlb:=(Below.refl w8.heap.size w8).alloc (xnR _) (.cells #[.int .i64 0] 3); refine actL (w':=w8.alloc (.cells #[.int .i64 0] 3)) (.slice (some ⟨w8.heap.size,0,none⟩) 1 1) rfl (by kernel_rfl) ?_; simp only [aP,lI,l0,lS]; replace hIa:=hK.bel hIa hlb; replace L_8:=NewI.below L_8 hlb; replace M:=M.box #[.int .i64 0] 3 w8.heap.size rfl; clear hlb
 generalize w8.alloc (.cells #[.int .i64 0] 3)=w9 at M hIa L_8 ⊢; generalize w8.heap.size=B9 at M ⊢
 replace M:Mm w0 ((B9,[.int .i64 0])::(B2,[.int .u8 7,.int .u8 0,.int .u8 0,.int .u8 0,.int .u8 0,.int .u8 0,.int .u8 0,.int .u8 0])::((obs p8)++(ba4++([]:List (Nat × List Value))))) w9:=M
 have key:=ints20_any ([0]) (by decide) p8 (some ⟨B9,0,none⟩) c8 1 w9 (NewI.src L_8) (M.srcI mS [0] rfl); refine xcL key ?_; clear key; rintro e w10 ⟨rfl,l_⟩; replace M:=M.call l_; replace hIa:=hK.bel hIa l_; replace L_8:=NewI.below L_8 l_; clear l_; refine xeL ?_; refine xpL (.bool true) ?_; refine xT ?_
 replace M:Mm w0 ((B9,[.int .i64 0])::(B2,[.int .u8 7,.int .u8 0,.int .u8 0,.int .u8 0,.int .u8 0,.int .u8 0,.int .u8 0,.int .u8 0])::(ba4++([]:List (Nat × List Value)))) w10:=M.sub _ (List.cons_sublist_cons.2 (List.cons_sublist_cons.2 (List.sublist_append_right _ _)))
 clear L_8; go_upto_region 10 with fail; refine wp_region_list ?_; refine xpL (.pointer (some ⟨Ra,0,none⟩)) ?_; have Mp:=M.perm (pull0 ([(B9,[.int .i64 0]),(B2,[.int .u8 7,.int .u8 0,.int .u8 0,.int .u8 0,.int .u8 0,.int .u8 0,.int .u8 0,.int .u8 0])]:List (Nat × List Value)) ba4 ([]:List (Nat × List Value)))
 have key:=hK.due w0 _ _ (tz pz0) ba4 _ 9 tz_w0 (by unfold i64; decide) hIa Mp
 rw [tz_d9.1] at key
 rw [tz_d9.2] at key
 refine xcL key ?_; clear key; rintro e w11 ⟨p11,c11,ba5,rfl,L_11,hI_,M',o1⟩; clear o1 Mp M hIa; have hIa:=hI_; clear hI_
 have M:Mm w0 ((B9,[.int .i64 0])::(B2,[.int .u8 7,.int .u8 0,.int .u8 0,.int .u8 0,.int .u8 0,.int .u8 0,.int .u8 0,.int .u8 0])::(ba5++((obs p11)++([]:List (Nat × List Value))))) w11:=M'.perm (pullY ([(B9,[.int .i64 0]),(B2,[.int .u8 7,.int .u8 0,.int .u8 0,.int .u8 0,.int .u8 0,.int .u8 0,.int .u8 0,.int .u8 0])]:List (Nat × List Value)) ba5 (obs p11) ([]:List (Nat × List Value)))
 clear M'; refine xeL ?_; have key:=ints20_any ([]) (by decide) p11 none c11 0 w11 (NewI.src L_11) (fun j hj=>absurd hj (xnZ j)); refine xcL key ?_; clear key; rintro e w12 ⟨rfl,l_⟩; replace M:=M.call l_; replace hIa:=hK.bel hIa l_; replace L_11:=NewI.below L_11 l_; clear l_; refine xeL ?_; refine xpL (.bool true) ?_; refine xT ?_
 replace M:Mm w0 ((B9,[.int .i64 0])::(B2,[.int .u8 7,.int .u8 0,.int .u8 0,.int .u8 0,.int .u8 0,.int .u8 0,.int .u8 0,.int .u8 0])::(ba5++([]:List (Nat × List Value)))) w12:=M.sub _ (List.cons_sublist_cons.2 (List.cons_sublist_cons.2 ((List.Sublist.refl _).append (List.sublist_append_right _ _))))
 clear L_11; go_upto_region 11 with fail; refine wp_region_list ?_; refine xpL (.pointer (some ⟨Ra,0,none⟩)) ?_; have Mp:=M.perm (pull0 ([(B9,[.int .i64 0]),(B2,[.int .u8 7,.int .u8 0,.int .u8 0,.int .u8 0,.int .u8 0,.int .u8 0,.int .u8 0,.int .u8 0])]:List (Nat × List Value)) ba5 ([]:List (Nat × List Value)))
 have key:=hK.due w0 _ _ (tz pz0) ba5 _ 10 tz_w0 (by unfold i64; decide) hIa Mp
 rw [tz_d10.1] at key
 rw [tz_d10.2] at key
 refine xcL key ?_; clear key; rintro e w13 ⟨p13,c13,ba6,rfl,L_13,hI_,M',o1⟩; clear o1 Mp M hIa; have hIa:=hI_; clear hI_
 have M:Mm w0 ((B9,[.int .i64 0])::(B2,[.int .u8 7,.int .u8 0,.int .u8 0,.int .u8 0,.int .u8 0,.int .u8 0,.int .u8 0,.int .u8 0])::(ba6++((obs p13)++([]:List (Nat × List Value))))) w13:=M'.perm (pullY ([(B9,[.int .i64 0]),(B2,[.int .u8 7,.int .u8 0,.int .u8 0,.int .u8 0,.int .u8 0,.int .u8 0,.int .u8 0,.int .u8 0])]:List (Nat × List Value)) ba6 (obs p13) ([]:List (Nat × List Value)))
 clear M'; refine xeL ?_; have hlb:=(Below.refl w13.heap.size w13).alloc (xnR _) (.cells #[.int .i64 3] 3); refine actL (w':=w13.alloc (.cells #[.int .i64 3] 3)) (.slice (some ⟨w13.heap.size,0,none⟩) 1 1) rfl (by kernel_rfl) ?_; simp only [aP,lI,l0,lS]; replace hIa:=hK.bel hIa hlb; replace L_13:=NewI.below L_13 hlb; replace M:=M.box #[.int .i64 3] 3 w13.heap.size rfl; clear hlb
 generalize w13.alloc (.cells #[.int .i64 3] 3)=w14 at M hIa L_13 ⊢; generalize w13.heap.size=B14 at M ⊢
 replace M:Mm w0 ((B14,[.int .i64 3])::(B9,[.int .i64 0])::(B2,[.int .u8 7,.int .u8 0,.int .u8 0,.int .u8 0,.int .u8 0,.int .u8 0,.int .u8 0,.int .u8 0])::(ba6++((obs p13)++([]:List (Nat × List Value))))) w14:=M
 have key:=ints20_any ([3]) (by decide) p13 (some ⟨B14,0,none⟩) c13 1 w14 (NewI.src L_13) (M.srcI mS [3] rfl); refine xcL key ?_; clear key; rintro e w15 ⟨rfl,l_⟩; replace M:=M.call l_; replace hIa:=hK.bel hIa l_; replace L_13:=NewI.below L_13 l_; clear l_; refine xeL ?_; refine xpL (.bool true) ?_; refine xT ?_
 replace M:Mm w0 ((B14,[.int .i64 3])::(B9,[.int .i64 0])::(B2,[.int .u8 7,.int .u8 0,.int .u8 0,.int .u8 0,.int .u8 0,.int .u8 0,.int .u8 0,.int .u8 0])::(ba6++([]:List (Nat × List Value)))) w15:=M.sub _ (List.cons_sublist_cons.2 (List.cons_sublist_cons.2 (List.cons_sublist_cons.2 ((List.Sublist.refl _).append (List.sublist_append_right _ _)))))
 clear L_13; go_upto_region 12 with fail; refine wp_region_list ?_; refine xpL (.pointer (some ⟨Ra,0,none⟩)) ?_; have Mp:=M.perm (pull0 ([(B14,[.int .i64 3]),(B9,[.int .i64 0]),(B2,[.int .u8 7,.int .u8 0,.int .u8 0,.int .u8 0,.int .u8 0,.int .u8 0,.int .u8 0,.int .u8 0])]:List (Nat × List Value)) ba6 ([]:List (Nat × List Value)))
 have key:=hK.due w0 _ _ (tz pz1) ba6 _ 209 tz_w1 (by unfold i64; decide) hIa Mp
 rw [tz_d209.1] at key
 rw [tz_d209.2] at key
 refine xcL key ?_; clear key; rintro e w16 ⟨p16,c16,ba7,rfl,L_16,hI_,M',o1⟩; clear o1 Mp M hIa; have hIa:=hI_; clear hI_
 have M:Mm w0 ((B14,[.int .i64 3])::(B9,[.int .i64 0])::(B2,[.int .u8 7,.int .u8 0,.int .u8 0,.int .u8 0,.int .u8 0,.int .u8 0,.int .u8 0,.int .u8 0])::(ba7++((obs p16)++([]:List (Nat × List Value))))) w16:=M'.perm (pullY ([(B14,[.int .i64 3]),(B9,[.int .i64 0]),(B2,[.int .u8 7,.int .u8 0,.int .u8 0,.int .u8 0,.int .u8 0,.int .u8 0,.int .u8 0,.int .u8 0])]:List (Nat × List Value)) ba7 (obs p16) ([]:List (Nat × List Value)))
 clear M'; refine xeL ?_; have key:=ints20_any ([]) (by decide) p16 none c16 0 w16 (NewI.src L_16) (fun j hj=>absurd hj (xnZ j)); refine xcL key ?_; clear key; rintro e w17 ⟨rfl,l_⟩; replace M:=M.call l_; replace hIa:=hK.bel hIa l_; replace L_16:=NewI.below L_16 l_; clear l_; refine xeL ?_; refine xpL (.bool true) ?_; refine xT ?_
 replace M:Mm w0 ((B14,[.int .i64 3])::(B9,[.int .i64 0])::(B2,[.int .u8 7,.int .u8 0,.int .u8 0,.int .u8 0,.int .u8 0,.int .u8 0,.int .u8 0,.int .u8 0])::(ba7++([]:List (Nat × List Value)))) w17:=M.sub _ (List.cons_sublist_cons.2 (List.cons_sublist_cons.2 (List.cons_sublist_cons.2 ((List.Sublist.refl _).append (List.sublist_append_right _ _)))))
 clear L_16; go_upto_region 13 with fail; refine wp_region_list ?_; refine xpL (.pointer (some ⟨Ra,0,none⟩)) ?_; have Mp:=M.perm (pull0 ([(B14,[.int .i64 3]),(B9,[.int .i64 0]),(B2,[.int .u8 7,.int .u8 0,.int .u8 0,.int .u8 0,.int .u8 0,.int .u8 0,.int .u8 0,.int .u8 0])]:List (Nat × List Value)) ba7 ([]:List (Nat × List Value)))
 have key:=hK.due w0 _ _ (tz pz1) ba7 _ 210 tz_w1 (by unfold i64; decide) hIa Mp
 rw [tz_d210.1] at key
 rw [tz_d210.2] at key
 refine xcL key ?_; clear key; rintro e w18 ⟨p18,c18,ba8,rfl,L_18,hI_,M',o1⟩; clear o1 Mp M hIa; have hIa:=hI_; clear hI_
 have M:Mm w0 ((B14,[.int .i64 3])::(B9,[.int .i64 0])::(B2,[.int .u8 7,.int .u8 0,.int .u8 0,.int .u8 0,.int .u8 0,.int .u8 0,.int .u8 0,.int .u8 0])::(ba8++((obs p18)++([]:List (Nat × List Value))))) w18:=M'.perm (pullY ([(B14,[.int .i64 3]),(B9,[.int .i64 0]),(B2,[.int .u8 7,.int .u8 0,.int .u8 0,.int .u8 0,.int .u8 0,.int .u8 0,.int .u8 0,.int .u8 0])]:List (Nat × List Value)) ba8 (obs p18) ([]:List (Nat × List Value)))
 clear M'; refine xeL ?_; have hlb:=(Below.refl w18.heap.size w18).alloc (xnR _) (.cells #[.int .i64 3] 3); refine actL (w':=w18.alloc (.cells #[.int .i64 3] 3)) (.slice (some ⟨w18.heap.size,0,none⟩) 1 1) rfl (by kernel_rfl) ?_; simp only [aP,lI,l0,lS]; replace hIa:=hK.bel hIa hlb; replace L_18:=NewI.below L_18 hlb; replace M:=M.box #[.int .i64 3] 3 w18.heap.size rfl; clear hlb
 generalize w18.alloc (.cells #[.int .i64 3] 3)=w19 at M hIa L_18 ⊢; generalize w18.heap.size=B19 at M ⊢
 replace M:Mm w0 ((B19,[.int .i64 3])::(B14,[.int .i64 3])::(B9,[.int .i64 0])::(B2,[.int .u8 7,.int .u8 0,.int .u8 0,.int .u8 0,.int .u8 0,.int .u8 0,.int .u8 0,.int .u8 0])::(ba8++((obs p18)++([]:List (Nat × List Value))))) w19:=M
 have key:=ints20_any ([3]) (by decide) p18 (some ⟨B19,0,none⟩) c18 1 w19 (NewI.src L_18) (M.srcI mS [3] rfl); refine xcL key ?_; clear key; rintro e w20 ⟨rfl,l_⟩; replace M:=M.call l_; replace hIa:=hK.bel hIa l_; replace L_18:=NewI.below L_18 l_; clear l_; refine xeL ?_; refine xpL (.bool true) ?_; refine xT ?_
 replace M:Mm w0 ((B19,[.int .i64 3])::(B14,[.int .i64 3])::(B9,[.int .i64 0])::(B2,[.int .u8 7,.int .u8 0,.int .u8 0,.int .u8 0,.int .u8 0,.int .u8 0,.int .u8 0,.int .u8 0])::(ba8++([]:List (Nat × List Value)))) w20:=M.sub _ (List.cons_sublist_cons.2 (List.cons_sublist_cons.2 (List.cons_sublist_cons.2 (List.cons_sublist_cons.2 ((List.Sublist.refl _).append (List.sublist_append_right _ _))))))
 clear L_18; go_upto_region 14 with fail; refine wp_region_list ?_; refine xpL (.pointer (some ⟨Ra,0,none⟩)) ?_; refine xpL (.agg #[.int .u8 8,.int .u8 0,.int .u8 0,.int .u8 0,.int .u8 0,.int .u8 0,.int .u8 0,.int .u8 0]) ?_
 have Mp:=M.perm (pull0 ([(B19,[.int .i64 3]),(B14,[.int .i64 3]),(B9,[.int .i64 0]),(B2,[.int .u8 7,.int .u8 0,.int .u8 0,.int .u8 0,.int .u8 0,.int .u8 0,.int .u8 0,.int .u8 0])]:List (Nat × List Value)) ba8 ([]:List (Nat × List Value))); have key:=hK.ans w0 _ _ (tz pz2) ba8 _ 3 (tk1 8) tz_w2 (by unfold i64; decide) (tk1_in (by decide)) hIa Mp
 rw [tz_a8] at key
 rw [tz_sa8] at key
 rw [tk1_8] at key
 refine xcL key ?_; clear key; rintro e w21 ⟨ba9,rfl,hI_,M',o1⟩; clear o1 Mp M hIa; have hIa:=hI_; clear hI_
 have M:Mm w0 ((B19,[.int .i64 3])::(B14,[.int .i64 3])::(B9,[.int .i64 0])::(B2,[.int .u8 7,.int .u8 0,.int .u8 0,.int .u8 0,.int .u8 0,.int .u8 0,.int .u8 0,.int .u8 0])::(ba9++([]:List (Nat × List Value)))) w21:=M'.perm (pull0 ([(B19,[.int .i64 3]),(B14,[.int .i64 3]),(B9,[.int .i64 0]),(B2,[.int .u8 7,.int .u8 0,.int .u8 0,.int .u8 0,.int .u8 0,.int .u8 0,.int .u8 0,.int .u8 0])]:List (Nat × List Value)) ba9 ([]:List (Nat × List Value))).symm
 clear M'; refine xeL ?_; refine xpL (.bool false) ?_; refine xT ?_; go_upto_region 15 with fail; refine wp_region_list ?_; refine xpL (.pointer (some ⟨Ra,0,none⟩)) ?_
 refine xaL (.agg #[.int .u8 7,.int .u8 0,.int .u8 0,.int .u8 0,.int .u8 0,.int .u8 0,.int .u8 0,.int .u8 0]) (loadN 30 _ ⟨B2,0,none⟩ [.int .u8 7,.int .u8 0,.int .u8 0,.int .u8 0,.int .u8 0,.int .u8 0,.int .u8 0,.int .u8 0] rfl rfl (fun _=>by kernel_rfl) (fun _=>by kernel_rfl) (M.rangeAt (mI 3 rfl))) ?_
 have Mp:=M.perm (pull0 ([(B19,[.int .i64 3]),(B14,[.int .i64 3]),(B9,[.int .i64 0]),(B2,[.int .u8 7,.int .u8 0,.int .u8 0,.int .u8 0,.int .u8 0,.int .u8 0,.int .u8 0,.int .u8 0])]:List (Nat × List Value)) ba9 ([]:List (Nat × List Value))); have key:=hK.ans w0 _ _ (tz pz2) ba9 _ 3 (tk1 7) tz_w2 (by unfold i64; decide) (tk1_in (by decide)) hIa Mp
 rw [tz_a7] at key
 rw [tz_sa7] at key
 rw [tk1_7] at key
 refine xcL key ?_; clear key; rintro e w22 ⟨ba10,rfl,hI_,M',o1⟩; clear o1 Mp M hIa; have hIa:=hI_; clear hI_
 have M:Mm w0 ((B19,[.int .i64 3])::(B14,[.int .i64 3])::(B9,[.int .i64 0])::(B2,[.int .u8 7,.int .u8 0,.int .u8 0,.int .u8 0,.int .u8 0,.int .u8 0,.int .u8 0,.int .u8 0])::(ba10++([]:List (Nat × List Value)))) w22:=M'.perm (pull0 ([(B19,[.int .i64 3]),(B14,[.int .i64 3]),(B9,[.int .i64 0]),(B2,[.int .u8 7,.int .u8 0,.int .u8 0,.int .u8 0,.int .u8 0,.int .u8 0,.int .u8 0,.int .u8 0])]:List (Nat × List Value)) ba10 ([]:List (Nat × List Value))).symm
 clear M'; refine xeL ?_; refine xpL (.bool true) ?_; refine xT ?_; go_upto_region 16 with fail; refine wp_region_list ?_; refine xpL (.pointer (some ⟨Ra,0,none⟩)) ?_
 have Mp:=M.perm (pull0 ([(B19,[.int .i64 3]),(B14,[.int .i64 3]),(B9,[.int .i64 0]),(B2,[.int .u8 7,.int .u8 0,.int .u8 0,.int .u8 0,.int .u8 0,.int .u8 0,.int .u8 0,.int .u8 0])]:List (Nat × List Value)) ba10 ([]:List (Nat × List Value))); have key:=hK.sta w0 _ _ (tz pz3) ba10 _ 3 tz_w3 (by unfold i64; decide) hIa Mp; clear Mp
 rw [tz_st] at key
 refine xcL key ?_; clear key; rintro e w23 ⟨rfl,l_⟩; replace M:=M.call l_; replace hIa:=hK.bel hIa l_; clear l_; refine xeL ?_; refine xpL (.int .i64 ((2:Nat):Int)) ?_; refine xT ?_; go_upto_region 17 with fail; refine wp_region_list ?_; refine xpL (.pointer (some ⟨Ra,0,none⟩)) ?_
 refine xaL (.agg #[.int .u8 7,.int .u8 0,.int .u8 0,.int .u8 0,.int .u8 0,.int .u8 0,.int .u8 0,.int .u8 0]) (loadN 30 _ ⟨B2,0,none⟩ [.int .u8 7,.int .u8 0,.int .u8 0,.int .u8 0,.int .u8 0,.int .u8 0,.int .u8 0,.int .u8 0] rfl rfl (fun _=>by kernel_rfl) (fun _=>by kernel_rfl) (M.rangeAt (mI 3 rfl))) ?_
 have Mp:=M.perm (pull0 ([(B19,[.int .i64 3]),(B14,[.int .i64 3]),(B9,[.int .i64 0]),(B2,[.int .u8 7,.int .u8 0,.int .u8 0,.int .u8 0,.int .u8 0,.int .u8 0,.int .u8 0,.int .u8 0])]:List (Nat × List Value)) ba10 ([]:List (Nat × List Value))); have key:=hK.ans w0 _ _ (tz pz3) ba10 _ 3 (tk1 7) tz_w3 (by unfold i64; decide) (tk1_in (by decide)) hIa Mp
 rw [tz_a7b] at key
 rw [tz_sa7b] at key
 rw [tk1_7] at key
 refine xcL key ?_; clear key; rintro e w24 ⟨ba11,rfl,hI_,M',o1⟩; clear o1 Mp M hIa; have hIa:=hI_; clear hI_
 have M:Mm w0 ((B19,[.int .i64 3])::(B14,[.int .i64 3])::(B9,[.int .i64 0])::(B2,[.int .u8 7,.int .u8 0,.int .u8 0,.int .u8 0,.int .u8 0,.int .u8 0,.int .u8 0,.int .u8 0])::(ba11++([]:List (Nat × List Value)))) w24:=M'.perm (pull0 ([(B19,[.int .i64 3]),(B14,[.int .i64 3]),(B9,[.int .i64 0]),(B2,[.int .u8 7,.int .u8 0,.int .u8 0,.int .u8 0,.int .u8 0,.int .u8 0,.int .u8 0,.int .u8 0])]:List (Nat × List Value)) ba11 ([]:List (Nat × List Value))).symm
 clear M'; refine xeL ?_; refine xpL (.bool false) ?_; refine xT ?_; go_upto_region 18 with fail; refine wp_region_list ?_; refine xpL (.pointer (some ⟨Ra,0,none⟩)) ?_
 have Mp:=M.perm (pull0 ([(B19,[.int .i64 3]),(B14,[.int .i64 3]),(B9,[.int .i64 0]),(B2,[.int .u8 7,.int .u8 0,.int .u8 0,.int .u8 0,.int .u8 0,.int .u8 0,.int .u8 0,.int .u8 0])]:List (Nat × List Value)) ba11 ([]:List (Nat × List Value))); have key:=hK.sam w0 _ _ (tz pz3) ba11 _ 3 180 tz_w3 (by unfold i64; decide) (by unfold i64; decide) hIa Mp
 rw [tz_sm] at key
 refine xcL key ?_; clear key; rintro e w25 ⟨ba12,rfl,hI_,M',o1⟩; clear o1 Mp M hIa; have hIa:=hI_; clear hI_
 have M:Mm w0 ((B19,[.int .i64 3])::(B14,[.int .i64 3])::(B9,[.int .i64 0])::(B2,[.int .u8 7,.int .u8 0,.int .u8 0,.int .u8 0,.int .u8 0,.int .u8 0,.int .u8 0,.int .u8 0])::(ba12++([]:List (Nat × List Value)))) w25:=M'.perm (pull0 ([(B19,[.int .i64 3]),(B14,[.int .i64 3]),(B9,[.int .i64 0]),(B2,[.int .u8 7,.int .u8 0,.int .u8 0,.int .u8 0,.int .u8 0,.int .u8 0,.int .u8 0,.int .u8 0])]:List (Nat × List Value)) ba12 ([]:List (Nat × List Value))).symm
 clear M'; refine xeL ?_; refine xT ?_; go_upto_region 19 with fail; refine wp_region_list ?_; refine xpL (.pointer (some ⟨Ra,0,none⟩)) ?_
 have Mp:=M.perm (pull0 ([(B19,[.int .i64 3]),(B14,[.int .i64 3]),(B9,[.int .i64 0]),(B2,[.int .u8 7,.int .u8 0,.int .u8 0,.int .u8 0,.int .u8 0,.int .u8 0,.int .u8 0,.int .u8 0])]:List (Nat × List Value)) ba12 ([]:List (Nat × List Value))); have key:=hK.rtt w0 _ _ (tz pz4) ba12 _ 3 tz_w4 (by unfold i64; decide) hIa Mp; clear Mp
 rw [tz_rt] at key
 refine xcL key ?_; clear key; rintro e w26 ⟨rfl,l_⟩; replace M:=M.call l_; replace hIa:=hK.bel hIa l_; clear l_; refine xeL ?_; refine xpL (.int .i64 ((110:Nat):Int)) ?_; refine xT ?_; go_upto_region 20 with fail; refine wp_region_list ?_; refine xpL (.pointer (some ⟨Ra,0,none⟩)) ?_
 have Mp:=M.perm (pull0 ([(B19,[.int .i64 3]),(B14,[.int .i64 3]),(B9,[.int .i64 0]),(B2,[.int .u8 7,.int .u8 0,.int .u8 0,.int .u8 0,.int .u8 0,.int .u8 0,.int .u8 0,.int .u8 0])]:List (Nat × List Value)) ba12 ([]:List (Nat × List Value))); have key:=hK.rem w0 _ _ (tz pz4) ba12 _ 3 tz_w4 (by unfold i64; decide) hIa Mp
 rw [tz_r1] at key
 rw [tz_sr1] at key
 refine xcL key ?_; clear key; rintro e w27 ⟨ba13,rfl,hI_,M',o1⟩; clear o1 Mp M hIa; have hIa:=hI_; clear hI_
 have M:Mm w0 ((B19,[.int .i64 3])::(B14,[.int .i64 3])::(B9,[.int .i64 0])::(B2,[.int .u8 7,.int .u8 0,.int .u8 0,.int .u8 0,.int .u8 0,.int .u8 0,.int .u8 0,.int .u8 0])::(ba13++([]:List (Nat × List Value)))) w27:=M'.perm (pull0 ([(B19,[.int .i64 3]),(B14,[.int .i64 3]),(B9,[.int .i64 0]),(B2,[.int .u8 7,.int .u8 0,.int .u8 0,.int .u8 0,.int .u8 0,.int .u8 0,.int .u8 0,.int .u8 0])]:List (Nat × List Value)) ba13 ([]:List (Nat × List Value))).symm
 clear M'; refine xeL ?_; refine xpL (.int .i64 ((0:Nat):Int)) ?_; refine xT ?_; go_upto_region 21 with fail; refine wp_region_list ?_; refine xpL (.pointer (some ⟨Ra,0,none⟩)) ?_
 have Mp:=M.perm (pull0 ([(B19,[.int .i64 3]),(B14,[.int .i64 3]),(B9,[.int .i64 0]),(B2,[.int .u8 7,.int .u8 0,.int .u8 0,.int .u8 0,.int .u8 0,.int .u8 0,.int .u8 0,.int .u8 0])]:List (Nat × List Value)) ba13 ([]:List (Nat × List Value))); have key:=hK.rem w0 _ _ (tz pz5) ba13 _ 3 tz_w5 (by unfold i64; decide) hIa Mp
 rw [tz_r2] at key
 rw [tz_sr2] at key
 refine xcL key ?_; clear key; rintro e w28 ⟨ba14,rfl,hI_,M',o1⟩; clear o1 Mp M hIa; have hIa:=hI_; clear hI_
 have M:Mm w0 ((B19,[.int .i64 3])::(B14,[.int .i64 3])::(B9,[.int .i64 0])::(B2,[.int .u8 7,.int .u8 0,.int .u8 0,.int .u8 0,.int .u8 0,.int .u8 0,.int .u8 0,.int .u8 0])::(ba14++([]:List (Nat × List Value)))) w28:=M'.perm (pull0 ([(B19,[.int .i64 3]),(B14,[.int .i64 3]),(B9,[.int .i64 0]),(B2,[.int .u8 7,.int .u8 0,.int .u8 0,.int .u8 0,.int .u8 0,.int .u8 0,.int .u8 0,.int .u8 0])]:List (Nat × List Value)) ba14 ([]:List (Nat × List Value))).symm
 clear M'; refine xeL ?_; refine xpL (.int .i64 ((200:Nat):Int)) ?_; refine xT ?_; go_upto_region 22 with fail; refine wp_region_list ?_; refine xpL (.pointer (some ⟨Ra,0,none⟩)) ?_
 refine xaL (.agg #[.int .u8 7,.int .u8 0,.int .u8 0,.int .u8 0,.int .u8 0,.int .u8 0,.int .u8 0,.int .u8 0]) (loadN 30 _ ⟨B2,0,none⟩ [.int .u8 7,.int .u8 0,.int .u8 0,.int .u8 0,.int .u8 0,.int .u8 0,.int .u8 0,.int .u8 0] rfl rfl (fun _=>by kernel_rfl) (fun _=>by kernel_rfl) (M.rangeAt (mI 3 rfl))) ?_
 have Mp:=M.perm (pull0 ([(B19,[.int .i64 3]),(B14,[.int .i64 3]),(B9,[.int .i64 0]),(B2,[.int .u8 7,.int .u8 0,.int .u8 0,.int .u8 0,.int .u8 0,.int .u8 0,.int .u8 0,.int .u8 0])]:List (Nat × List Value)) ba14 ([]:List (Nat × List Value))); have key:=hK.add w0 _ _ (tz pz5) ba14 _ 3 (tk1 7) 0 tz_w5 (by unfold i64; decide) (tk1_in (by decide)) (by unfold i64; decide) hIa Mp
 rw [tz_b4] at key
 rw [tz_s4] at key
 rw [tk1_7] at key
 refine xcL key ?_; clear key; rintro e w29 ⟨ba15,rfl,hI_,M',o1⟩; clear o1 Mp M hIa; have hIa:=hI_; clear hI_
 have M:Mm w0 ((B19,[.int .i64 3])::(B14,[.int .i64 3])::(B9,[.int .i64 0])::(B2,[.int .u8 7,.int .u8 0,.int .u8 0,.int .u8 0,.int .u8 0,.int .u8 0,.int .u8 0,.int .u8 0])::(ba15++([]:List (Nat × List Value)))) w29:=M'.perm (pull0 ([(B19,[.int .i64 3]),(B14,[.int .i64 3]),(B9,[.int .i64 0]),(B2,[.int .u8 7,.int .u8 0,.int .u8 0,.int .u8 0,.int .u8 0,.int .u8 0,.int .u8 0,.int .u8 0])]:List (Nat × List Value)) ba15 ([]:List (Nat × List Value))).symm
 clear M'; refine xeL ?_; refine xpL (.int .i64 ((201:Nat):Int)) ?_; refine xT ?_; go_upto_region 23 with fail; refine wp_region_list ?_; refine xpL (.int .i64 ((0:Nat):Int)) ?_; refine xaL (.bool true) (eqlI .i64 _ _ _ _ _ _ rfl rfl rfl true rfl _) ?_; refine xpL (.bool true) ?_; refine xpL (.int .i64 ((201:Nat):Int)) ?_
 refine xaL (.bool true) (eqlI .i64 _ _ _ _ _ _ rfl rfl rfl true rfl _) ?_; refine xpL (.bool true) ?_; refine xpL (.bool true) ?_; refine xpL (.int .i64 ((1:Nat):Int)) ?_; refine xaL (.bool true) (eqlI .i64 _ _ _ _ _ _ rfl rfl rfl true rfl _) ?_; refine xpL (.bool true) ?_; refine xpL (.bool true) ?_; refine xpL (.int .i64 ((0:Nat):Int)) ?_
 refine xaL (.bool true) (eqlI .i64 _ _ _ _ _ _ rfl rfl rfl true rfl _) ?_; refine xpL (.bool true) ?_; refine xpL (.bool true) ?_; refine xpL (.bool true) ?_; refine xpL (.bool true) ?_; refine xpL (.bool true) ?_; refine xpL (.bool true) ?_; refine xpL (.bool true) ?_; refine xpL (.bool true) ?_; refine xpL (.bool true) ?_; refine xpL (.bool true) ?_; refine xpL (.bool true) ?_
 refine xpL (.bool true) ?_; refine xpL (.bool true) ?_; refine xpL (.bool true) ?_; refine xpL (.bool true) ?_; refine xpL (.bool true) ?_; refine xpL (.bool true) ?_; refine xpL (.bool false) ?_; refine xpL (.bool true) ?_; refine xpL (.bool true) ?_; refine xpL (.bool true) ?_; refine xpL (.bool true) ?_; refine xpL (.bool true) ?_; refine xpL (.bool true) ?_
 refine xpL (.int .i64 ((2:Nat):Int)) ?_; refine xaL (.bool true) (eqlI .i64 _ _ _ _ _ _ rfl rfl rfl true rfl _) ?_; refine xpL (.bool true) ?_; refine xpL (.bool true) ?_; refine xpL (.bool false) ?_; refine xpL (.bool true) ?_; refine xpL (.bool true) ?_; refine xpL (.bool true) ?_; refine xpL (.int .i64 ((110:Nat):Int)) ?_
 refine xaL (.bool true) (eqlI .i64 _ _ _ _ _ _ rfl rfl rfl true rfl _) ?_; refine xpL (.bool true) ?_; refine xpL (.bool true) ?_; refine xpL (.int .i64 ((0:Nat):Int)) ?_; refine xaL (.bool true) (eqlI .i64 _ _ _ _ _ _ rfl rfl rfl true rfl _) ?_; refine xpL (.bool true) ?_; refine xpL (.bool true) ?_; refine xpL (.int .i64 ((200:Nat):Int)) ?_
 refine xaL (.bool true) (eqlI .i64 _ _ _ _ _ _ rfl rfl rfl true rfl _) ?_; refine xpL (.bool true) ?_; refine xpL (.bool true) ?_; refine xpL (.int .i64 ((201:Nat):Int)) ?_; refine xaL (.bool true) (eqlI .i64 _ _ _ _ _ _ rfl rfl rfl true rfl _) ?_; refine xpL (.bool true) ?_; refine xpL (.bool true) ?_; refine xT ?_; have hbel:=M.below; clear M hIa; go_wp2; go_ret
 exact ⟨rfl,hbel⟩
def kdn (c:Int) (n:Nat):Nat:=(if c<0 then -(c+1) else c).toNat%n
theorem kdn_lt (c:Int) (n:Nat) (h:0<n):kdn c n<n:=Nat.mod_lt _ h
theorem kind20_any (c:Int) (n:Nat) (hn:0<n) (h1:i64 c) (w:World) :
 Calls Try.prog 9 #[.int .i64 c,.int .i64 (n:Int)] w fun e w'=>e=.returned (.int .i64 (kdn c n:Int))∧Below w.heap.size w w':=by
 unfold i64 at h1
 have M:=Mm.init w
 go_enter Try.func9,Try.ntmps9
 go_upto_region 0 with fail; refine wp_region_list ?_; refine xpL (.int .i64 0) ?_; refine xT ?_
 by_cases hc:c<0
 · go_upto_region 1 with fail
   refine wp_region_list ?_; refine xpL (.int .i64 c) ?_; refine xaL (.bool true) (lssI .i64 _ _ _ _ _ _ rfl rfl rfl true (decide_eq_true hc) _) ?_; refine xT ?_; go_upto_region 2 with fail; refine wp_region_list ?_; refine xpL (.int .i64 c) ?_; refine xaL (.int .i64 (c+1)) (addI .i64 _ _ _ _ _ _ _ rfl rfl rfl (by rw [xw6]; omega) _) ?_
   refine xaL (.int .i64 (-(c+1))) (negI .i64 _ _ _ _ rfl rfl (by rw [xw6]; omega) _) ?_; refine xpL (.int .i64 (-(c+1))) ?_; refine xT ?_
   have hrem:(-(c+1)).tmod (n:Int)=((kdn c n:Nat):Int):=by
    unfold kdn
    rw [if_pos hc]
    obtain ⟨m,hm⟩:∃ m:Nat,-(c+1)=(m:Int):=⟨(-(c+1)).toNat,by omega⟩
    rw [hm,Int.toNat_natCast]
    rfl
   go_upto_region 3 with fail; refine wp_region_list ?_; refine xpL (.int .i64 (-(c+1))) ?_; refine xpL (.int .i64 (n:Int)) ?_; refine xaL (.int .i64 ((kdn c n:Nat):Int)) (remI .i64 _ _ _ _ _ _ _ rfl rfl rfl (by omega) hrem _) ?_; refine xpL (.int .i64 ((kdn c n:Nat):Int)) ?_; refine xT ?_; have hB:=M.below; clear M; go_wp2; go_ret
   exact ⟨rfl,hB⟩
 · go_upto_region 1 with fail
   refine wp_region_list ?_; refine xpL (.int .i64 c) ?_; refine xaL (.bool false) (lssI .i64 _ _ _ _ _ _ rfl rfl rfl false (decide_eq_false hc) _) ?_; refine xT ?_
   have hrem:(c).tmod (n:Int)=((kdn c n:Nat):Int):=by
    unfold kdn
    rw [if_neg hc]
    obtain ⟨m,hm⟩:∃ m:Nat,c=(m:Int):=⟨(c).toNat,by omega⟩
    rw [hm,Int.toNat_natCast]
    rfl
   go_upto_region 3 with fail; refine wp_region_list ?_; refine xpL (.int .i64 c) ?_; refine xpL (.int .i64 (n:Int)) ?_; refine xaL (.int .i64 ((kdn c n:Nat):Int)) (remI .i64 _ _ _ _ _ _ _ rfl rfl rfl (by omega) hrem _) ?_; refine xpL (.int .i64 ((kdn c n:Nat):Int)) ?_; refine xT ?_; have hB:=M.below; clear M; go_wp2; go_ret
   exact ⟨rfl,hB⟩
theorem tok8_eq (tk:Nat→Int):tok8 tk=.agg #[.int .u8 (tk 0),.int .u8 (tk 1),.int .u8 (tk 2),.int .u8 (tk 3),.int .u8 (tk 4),.int .u8 (tk 5),.int .u8 (tk 6),.int .u8 (tk 7)]:=rfl
def tw (n:Nat) (p:Pth):Ptb:=pput pnew n p
theorem pix_nat {n:Nat} (h:n<256):pix (n:Int)=n:=by
 unfold pix
 rw [if_pos (by omega),Int.toNat_natCast]
theorem pmay_new {n:Nat} (h:n<256):pmay pnew (n:Int)=0:=by
 unfold pmay
 rw [if_neg (by omega),if_neg (fun e=>e rfl),if_neg]
 have:pcn pnew=0:=pnum_none fun _ _=>rfl
 omega
theorem tw_add {n:Nat} (h:n<256) (tk:Nat→Int):padd pnew (n:Int) tk 5=tw n ⟨1,100,0,5,tk⟩:=by
 unfold padd
 rw [if_pos (pmay_new h),pix_nat h]
 rfl
theorem tw_st {n:Nat} (h:n<256) (p:Pth):pst (tw n p) (n:Int)=p.st:=by
 unfold pst tw
 rw [pix_nat h,pput_same]
theorem tw_pdt (n:Nat) (p:Pth) (m:Nat):pdt (tw n p) m=tw n (if p.st=1∧p.nx≤m then (if p.tr=4 then { p with st:=4 } else { p with tr:=p.tr+1,nx:=m+p.rt*2^(p.tr+1) }) else p):=by
 funext k
 by_cases c:k=n
 · subst c
   unfold pdt pdw tw
   rw [pput_same,pput_same]
   by_cases d:p.st=1∧p.nx≤m
   · rw [if_pos d,if_pos (decide_eq_true d)]
   · rw [if_neg d,if_neg (by rw [decide_eq_false d]; decide)]
 · have h:∀ q,tw n q k=pnone:=fun q=>pput_other c q
   unfold pdt pdw
   rw [h,h]
   rfl
theorem tw_len {n:Nat} (h:n<256) (p:Pth) (m:Nat):(pdl (tw n p) m).length=if p.st=1∧p.nx≤m∧p.tr≠4 then 1 else 0:=by
 unfold pdl
 rw [List.length_map,filter_num]
 have hn:∀ i,i≠n→(pdw (tw n p) m i&&(tw n p i).tr != 4)=false:=fun i hi=>by
  have:tw n p i=pnone:=pput_other hi p
  unfold pdw
  rw [this]
  rfl
 have hs:tw n p n=p:=pput_same _ _ _
 by_cases c:p.st=1∧p.nx≤m∧p.tr≠4
 · rw [if_pos c,pnum_one (f:=fun _=>false) (k:=n) rfl (by unfold pdw; rw [hs,decide_eq_true ⟨c.1,c.2.1⟩,Bool.true_and,bne_iff_ne]; exact c.2.2) (fun i hi=>(hn i hi).symm) h,pnum_none fun _ _=>rfl]
 · rw [if_neg c]
   refine pnum_none fun i _=>?_
   by_cases d:i=n
   · subst d
     unfold pdw
     rw [hs]
     rcases Nat.decEq p.tr 4 with e | e
     · rw [decide_eq_false (fun g=>c ⟨g.1,g.2,e⟩),Bool.false_and]
     · rw [e,Bool.and_comm]; rfl
   · exact hn i d
theorem peq_refl (f:Nat→Int):peq f f=true:=List.all_eq_true.2 fun _ _=>beq_self_eq_true _
theorem tw_ans {n:Nat} (h:n<256) {p:Pth} (hs:p.st=1):pans (tw n p) (n:Int) p.tk=true:=by
 unfold pans tw
 rw [pix_nat h,pput_same,peq_refl,decide_eq_true hs]
 rfl
theorem tw_ant {n:Nat} (h:n<256) {p:Pth} (hs:p.st=1):pant (tw n p) (n:Int) p.tk=tw n { p with st:=2 }:=by
 unfold pant
 rw [if_pos (tw_ans h hs),pix_nat h]
 show pput (pput pnew n p) n { pput pnew n p n with st:=2 }=_
 rw [pput_put,pput_same]
 rfl
def plt:Nat→Nat
 | 1=>5
 | 2=>205
 | 3=>605
 | 4=>1405
 | 5=>3005
 | _=>0
theorem plt_facts (a:Nat) (h:a≤4):plt (a+1)≤3005∧5≤plt (a+1)∧plt a<plt (a+1)∧(0<a→plt (a+1)=plt a+100*2^a)∧(a<4→plt (a+2)=plt (a+1)+100*2^(a+1))∧100*2^a≤1600:=by
 obtain rfl | rfl | rfl | rfl | rfl:a=0∨a=1∨a=2∨a=3∨a=4:=by omega
 all_goals decide
def ppw (tk:Nat→Int) (a:Nat):Pth:=⟨1,100,a,plt (a+1),tk⟩
def ppf (tk:Nat→Int):Pth:=⟨4,100,4,3005,tk⟩
theorem ppw_go {n:Nat} (tk:Nat→Int) (a m:Nat) (hm:m=plt (a+1)) (ha:a<4):pdt (tw n (ppw tk a)) m=tw n (ppw tk (a+1)):=by
 have h:=(plt_facts a (by omega)).2.2.2.2.1 ha
 rw [tw_pdt]
 refine congrArg (tw n) ?_
 unfold ppw
 rw [if_pos ⟨rfl,Nat.le_of_eq hm.symm⟩,if_neg (show a≠4 by omega)]
 show (⟨1,100,a+1,m+100*2^(a+1),tk⟩:Pth)=_
 rw [hm,← h]
theorem ppw_no {n:Nat} (tk:Nat→Int) (a m:Nat) (hm:m<plt (a+1)):pdt (tw n (ppw tk a)) m=tw n (ppw tk a):=by
 rw [tw_pdt]
 exact congrArg (tw n) (if_neg fun h=>Nat.lt_irrefl _ (xnL hm h.2))
theorem ppw_end {n:Nat} (tk:Nat→Int) (m:Nat) (hm:m=plt 5):pdt (tw n (ppw tk 4)) m=tw n (ppf tk):=by
 rw [tw_pdt]
 exact congrArg (tw n) ((if_pos ⟨rfl,Nat.le_of_eq hm.symm⟩).trans (if_pos rfl))
theorem ppw_w {n:Nat} (h:n<256) {tk:Nat→Int} (hk:In 256 8 tk) {a:Nat} (ha:a≤4):PtbW (tw n (ppw tk a)):=pput_new pnew_w h rfl (by
 have:pcn pnew=0:=pnum_none fun _ _=>rfl
 omega) ⟨show 1≤4 by decide,show 100≤1099511627776 by decide,ha,xnT (plt_facts a ha).1 (by decide),hk⟩ (.inl rfl)
theorem shl100 (a:Nat) (h:a≤4):IntKind.i64.wrap (100*2^min ((a:Nat):Int).toNat IntKind.i64.bits)=((100*2^a:Nat):Int):=by
 obtain rfl | rfl | rfl | rfl | rfl:a=0∨a=1∨a=2∨a=3∨a=4:=by omega
 all_goals decide
theorem pmom_nat {m:Nat} (h:m≤10000):pmom (m:Int)=m:=by unfold pmom; omega
theorem law_PathsTries {I:TabI} (hK:TabOK I) (z:Int) (hz:i64 z) (tk:Nat→Int) (htk:In 256 8 tk) (y:Int) (hy:i64 y) (w0:World) :
 Calls Try.prog 5 #[.int .i64 z,.agg #[.int .u8 (tk 0),.int .u8 (tk 1),.int .u8 (tk 2),.int .u8 (tk 3),.int .u8 (tk 4),.int .u8 (tk 5),.int .u8 (tk 6),.int .u8 (tk 7)],.int .i64 y] w0 fun e w'=>e=.returned (.bool true)∧Below w0.heap.size w0 w':=by
 have M:=Mm.init w0
 go_enter Try.func5,Try.ntmps5
 go_upto_region 0 with fail; refine wp_region_list ?_; have hlb:=(Below.refl w0.heap.size w0).alloc (xnR _) (.cells #[.int .u8 (tk 0),.int .u8 (tk 1),.int .u8 (tk 2),.int .u8 (tk 3),.int .u8 (tk 4),.int .u8 (tk 5),.int .u8 (tk 6),.int .u8 (tk 7)] 30)
 refine actL (w':=w0.alloc (.cells #[.int .u8 (tk 0),.int .u8 (tk 1),.int .u8 (tk 2),.int .u8 (tk 3),.int .u8 (tk 4),.int .u8 (tk 5),.int .u8 (tk 6),.int .u8 (tk 7)] 30)) (.pointer (some ⟨w0.heap.size,0,none⟩)) rfl (by kernel_rfl) ?_; simp only [aP,lI,l0,lS]
 replace M:=M.box #[.int .u8 (tk 0),.int .u8 (tk 1),.int .u8 (tk 2),.int .u8 (tk 3),.int .u8 (tk 4),.int .u8 (tk 5),.int .u8 (tk 6),.int .u8 (tk 7)] 30 w0.heap.size rfl; clear hlb; generalize w0.alloc (.cells #[.int .u8 (tk 0),.int .u8 (tk 1),.int .u8 (tk 2),.int .u8 (tk 3),.int .u8 (tk 4),.int .u8 (tk 5),.int .u8 (tk 6),.int .u8 (tk 7)] 30)=w1 at M  ⊢
 generalize w0.heap.size=B1 at M ⊢
 replace M:Mm w0 ((B1,[.int .u8 (tk 0),.int .u8 (tk 1),.int .u8 (tk 2),.int .u8 (tk 3),.int .u8 (tk 4),.int .u8 (tk 5),.int .u8 (tk 6),.int .u8 (tk 7)])::([]:List (Nat × List Value))) w1:=M
 refine xpL (.bool false) ?_; refine xT ?_; go_upto_region 1 with fail; refine wp_region_list ?_; have key:=shown20_any hK w1; refine xcL key ?_; clear key; rintro e w2 ⟨rfl,l_⟩; replace M:=M.call l_; clear l_; refine xeL ?_; refine xpL (.bool true) ?_; refine xT ?_; go_upto_region 2 with fail; refine wp_region_list ?_; have key:=hK.new w0 _ _ M; refine xcL key ?_; clear key
 rintro e w3 ⟨v_,ba0,rfl,hIa,M',l_⟩
 obtain ⟨Ra,rfl⟩:=hK.ptr _ _ _ _ hIa
 clear M; have M:=M'.perm (pull0 ([(B1,[.int .u8 (tk 0),.int .u8 (tk 1),.int .u8 (tk 2),.int .u8 (tk 3),.int .u8 (tk 4),.int .u8 (tk 5),.int .u8 (tk 6),.int .u8 (tk 7)])]:List (Nat × List Value)) ba0 ([]:List (Nat × List Value))).symm; clear M'; clear l_
 replace M:Mm w0 ((B1,[.int .u8 (tk 0),.int .u8 (tk 1),.int .u8 (tk 2),.int .u8 (tk 3),.int .u8 (tk 4),.int .u8 (tk 5),.int .u8 (tk 6),.int .u8 (tk 7)])::(ba0++([]:List (Nat × List Value)))) w3:=M
 refine xeL ?_; refine xpL (.pointer (some ⟨Ra,0,none⟩)) ?_; refine xT ?_; go_upto_region 3 with fail; refine wp_region_list ?_; refine xpL (.bool true) ?_; refine xpL (.bool false) ?_; refine xpL (.bool false) ?_; refine xpL (.pointer (some ⟨Ra,0,none⟩)) ?_; refine xpL (.bool false) ?_; refine xpL (.bool false) ?_; refine xT ?_; go_upto_region 5 with fail; refine wp_region_list ?_
 refine xpL (.int .i64 z) ?_; have key:=kind20_any z 256 (by decide) hz w3; refine xcL key ?_; clear key; rintro e w4 ⟨rfl,l_⟩; replace M:=M.call l_; replace hIa:=hK.bel hIa l_; clear l_; refine xeL ?_; have hnn:=kdn_lt z 256 (by decide); generalize kdn z 256=n at hnn ⊢; refine xpL (.int .i64 ((n:Nat):Int)) ?_; refine xT ?_; go_upto_region 6 with fail; refine wp_region_list ?_
 refine xpL (.int .i64 y) ?_; have key:=kind20_any y 6 (by decide) hy w4; refine xcL key ?_; clear key; rintro e w5 ⟨rfl,l_⟩; replace M:=M.call l_; replace hIa:=hK.bel hIa l_; clear l_; refine xeL ?_; have hnk:=kdn_lt y 6 (by decide); generalize kdn y 6=k at hnk ⊢; refine xpL (.int .i64 ((k:Nat):Int)) ?_; refine xT ?_; go_upto_region 7 with fail; refine wp_region_list ?_
 refine xpL (.pointer (some ⟨Ra,0,none⟩)) ?_; refine xpL (.int .i64 ((n:Nat):Int)) ?_
 refine xaL (.agg #[.int .u8 (tk 0),.int .u8 (tk 1),.int .u8 (tk 2),.int .u8 (tk 3),.int .u8 (tk 4),.int .u8 (tk 5),.int .u8 (tk 6),.int .u8 (tk 7)]) (loadN 30 _ ⟨B1,0,none⟩ [.int .u8 (tk 0),.int .u8 (tk 1),.int .u8 (tk 2),.int .u8 (tk 3),.int .u8 (tk 4),.int .u8 (tk 5),.int .u8 (tk 6),.int .u8 (tk 7)] rfl rfl (fun _=>by kernel_rfl) (fun _=>by kernel_rfl) (M.rangeAt mS)) ?_
 have Mp:=M.perm (pull0 ([(B1,[.int .u8 (tk 0),.int .u8 (tk 1),.int .u8 (tk 2),.int .u8 (tk 3),.int .u8 (tk 4),.int .u8 (tk 5),.int .u8 (tk 6),.int .u8 (tk 7)])]:List (Nat × List Value)) ba0 ([]:List (Nat × List Value))); have key:=hK.add w0 _ _ pnew ba0 _ ((n:Nat):Int) tk 5 pnew_w (by unfold i64; omega) htk (by unfold i64; decide) hIa Mp
 rw [pmay_new hnn] at key
 rw [tw_add hnn tk] at key
 rw [tok8_eq] at key
 refine xcL key ?_; clear key; rintro e w6 ⟨ba1,rfl,hI_,M',o1⟩; clear o1 Mp M hIa; have hIa:=hI_; clear hI_
 have M:Mm w0 ((B1,[.int .u8 (tk 0),.int .u8 (tk 1),.int .u8 (tk 2),.int .u8 (tk 3),.int .u8 (tk 4),.int .u8 (tk 5),.int .u8 (tk 6),.int .u8 (tk 7)])::(ba1++([]:List (Nat × List Value)))) w6:=M'.perm (pull0 ([(B1,[.int .u8 (tk 0),.int .u8 (tk 1),.int .u8 (tk 2),.int .u8 (tk 3),.int .u8 (tk 4),.int .u8 (tk 5),.int .u8 (tk 6),.int .u8 (tk 7)])]:List (Nat × List Value)) ba1 ([]:List (Nat × List Value))).symm
 clear M'; refine xeL ?_; refine xaL (.bool false) (neqI .i64 _ _ _ _ _ _ rfl rfl rfl false rfl _) ?_; refine xT ?_; go_upto_region 9 with fail; refine wp_region_list ?_; refine xpL (.int .i64 5) ?_; refine xT ?_; go_upto_region 10 with fail; refine wp_region_list ?_; refine xpL (.int .i64 0) ?_; refine xT ?_; go_upto_region 11 with fail; refine wp_region_list ?_; refine xpL (.int .i64 0) ?_
 refine xT ?_; go_upto_region 12 with fail; refine wp_region_list ?_; refine xpL (.int .i64 0) ?_; refine xT ?_
 have HI:=show Hid _ from (show I w6 (.pointer (some ⟨Ra,0,none⟩)) (tw n (ppw tk 0)) ba1∧Mm w0 ((B1,[.int .u8 (tk 0),.int .u8 (tk 1),.int .u8 (tk 2),.int .u8 (tk 3),.int .u8 (tk 4),.int .u8 (tk 5),.int .u8 (tk 6),.int .u8 (tk 7)])::(ba1++([]:List (Nat × List Value)))) w6 from ⟨hIa,M⟩); clear M hIa; go_wp2
 go_loopw [11,12,13,14] (fun n_ a_ l_ i w'=>∃ (q a la:Nat) (p:Pth) (ga:List (Nat × List Value)),q≤3001∧n_=.int .i64 ((5+q:Nat):Int)∧a_=.int .i64 (a:Int)∧l_=.int .i64 (la:Int)∧i=.int .i64 (q:Int)∧a≤4∧la≤5+q∧((p=ppw tk a∧5+q≤plt (a+1)∧(0<a→la=plt a∧plt a<5+q)∧(a=0→q=0)∧(0<k→a≤k))∨(p=ppf tk∧a=4∧¬ (0<k∧k≤4)))∧I w' (.pointer (some ⟨Ra,0,none⟩)) (tw n p) ga∧Mm w0 ((B1,[.int .u8 (tk 0),.int .u8 (tk 1),.int .u8 (tk 2),.int .u8 (tk 3),.int .u8 (tk 4),.int .u8 (tk 5),.int .u8 (tk 6),.int .u8 (tk 7)])::(ga++([]:List (Nat × List Value)))) w') (fun _ _ _ i _=>4000-(intOf i).toNat)
 case atStart=>exact ⟨0,0,0,ppw tk 0,_,by omega,rfl,rfl,rfl,rfl,by omega,by omega,.inl ⟨rfl,by decide,fun h=>absurd h (by decide),fun _=>rfl,fun _=>Nat.zero_le _⟩,HI.out⟩
 case round =>
  clear HI
  obtain ⟨q,a,la,p,ga,hq,rfl,rfl,rfl,rfl,ha,hla,hrl,hIa,M⟩:=hrel
  rcases hrl with hrl | hrl
  · obtain ⟨rfl,hle,hl1,h0,hak⟩:=hrl
    obtain ⟨f1,f2,f3,f4,f5,f6⟩:=plt_facts a ha
    go_upto_region 13 with fail; refine wp_region_list ?_; refine xpL (.int .i64 (q:Int)) ?_; refine xaL (.bool true) (lssI .i64 _ _ _ _ _ _ rfl rfl rfl true (decide_eq_true (by omega)) _) ?_; refine xpL (.bool true) ?_; refine xpL (.pointer (some ⟨Ra,0,none⟩)) ?_; refine xpL (.int .i64 ((n:Nat):Int)) ?_
    have Mp:=M.perm (pull0 ([(B1,[.int .u8 (tk 0),.int .u8 (tk 1),.int .u8 (tk 2),.int .u8 (tk 3),.int .u8 (tk 4),.int .u8 (tk 5),.int .u8 (tk 6),.int .u8 (tk 7)])]:List (Nat × List Value)) ga ([]:List (Nat × List Value))); have key:=hK.sta w0 _ _ (tw n (ppw tk a)) ga _ ((n:Nat):Int) (ppw_w hnn htk ha) (by unfold i64; omega) hIa Mp; clear Mp
    rw [show pst (tw n (ppw tk a)) ((n:Nat):Int)=1 from tw_st hnn _] at key
    refine xcL key ?_; clear key; rintro e w10 ⟨rfl,l_⟩; replace M:=M.call l_; replace hIa:=hK.bel hIa l_; clear l_; refine xeL ?_; refine xaL (.bool true) (eqlI .i64 _ _ _ _ _ _ rfl rfl rfl true rfl _) ?_; refine xpL (.bool true) ?_; refine xT ?_
    by_cases hak2:a=k
    · by_cases hk0:0<k
      · obtain rfl:=hak2
        have hWl:PtbW (tw n { ppw tk a with st:=2 }):=(tw_ant hnn (p:=ppw tk a) rfl) ▸ pant_w (ppw_w hnn htk ha) ((n:Nat):Int) tk
        go_upto_region 15 with fail; refine wp_region_list ?_; refine xpL (.int .i64 ((a:Nat):Int)) ?_; refine xpL (.int .i64 ((a:Nat):Int)) ?_; refine xaL (.bool true) (eqlI .i64 _ _ _ _ _ _ rfl rfl rfl true (beq_self_eq_true _) _) ?_; refine xpL (.bool true) ?_; refine xpL (.int .i64 ((a:Nat):Int)) ?_
        refine xaL (.bool true) (gtrI .i64 _ _ _ _ _ _ rfl rfl rfl true (decide_eq_true (by omega)) _) ?_; refine xpL (.bool true) ?_; refine xpL (.bool true) ?_; refine xpL (.pointer (some ⟨Ra,0,none⟩)) ?_; refine xpL (.int .i64 ((n:Nat):Int)) ?_
        refine xaL (.agg #[.int .u8 (tk 0),.int .u8 (tk 1),.int .u8 (tk 2),.int .u8 (tk 3),.int .u8 (tk 4),.int .u8 (tk 5),.int .u8 (tk 6),.int .u8 (tk 7)]) (loadN 30 _ ⟨B1,0,none⟩ [.int .u8 (tk 0),.int .u8 (tk 1),.int .u8 (tk 2),.int .u8 (tk 3),.int .u8 (tk 4),.int .u8 (tk 5),.int .u8 (tk 6),.int .u8 (tk 7)] rfl rfl (fun _=>by kernel_rfl) (fun _=>by kernel_rfl) (M.rangeAt mS)) ?_
        have Mp:=M.perm (pull0 ([(B1,[.int .u8 (tk 0),.int .u8 (tk 1),.int .u8 (tk 2),.int .u8 (tk 3),.int .u8 (tk 4),.int .u8 (tk 5),.int .u8 (tk 6),.int .u8 (tk 7)])]:List (Nat × List Value)) ga ([]:List (Nat × List Value))); have key:=hK.ans w0 _ _ (tw n (ppw tk a)) ga _ ((n:Nat):Int) tk (ppw_w hnn htk ha) (by unfold i64; omega) htk hIa Mp
        rw [show pans (tw n (ppw tk a)) ((n:Nat):Int) tk=true from tw_ans hnn rfl] at key
        rw [show pant (tw n (ppw tk a)) ((n:Nat):Int) tk=tw n { ppw tk a with st:=2 } from tw_ant hnn rfl] at key
        rw [tok8_eq] at key
        refine xcL key ?_; clear key; rintro e w11 ⟨ba1,rfl,hI_,M',o1⟩; clear o1 Mp M hIa; have hIa:=hI_; clear hI_
        have M:Mm w0 ((B1,[.int .u8 (tk 0),.int .u8 (tk 1),.int .u8 (tk 2),.int .u8 (tk 3),.int .u8 (tk 4),.int .u8 (tk 5),.int .u8 (tk 6),.int .u8 (tk 7)])::(ba1++([]:List (Nat × List Value)))) w11:=M'.perm (pull0 ([(B1,[.int .u8 (tk 0),.int .u8 (tk 1),.int .u8 (tk 2),.int .u8 (tk 3),.int .u8 (tk 4),.int .u8 (tk 5),.int .u8 (tk 6),.int .u8 (tk 7)])]:List (Nat × List Value)) ba1 ([]:List (Nat × List Value))).symm
        clear M'; refine xeL ?_; refine xpL (.bool true) ?_; refine xT ?_; go_upto_region 22 with fail; refine wp_region_list ?_; refine xpL (.int .i64 ((a:Nat):Int)) ?_; refine xaL (.bool true) (gtrI .i64 _ _ _ _ _ _ rfl rfl rfl true (decide_eq_true (by omega)) _) ?_; refine xpL (.bool true) ?_; refine xpL (.int .i64 ((a:Nat):Int)) ?_
        refine xaL (.bool true) (leqI .i64 _ _ _ _ _ _ rfl rfl rfl true (decide_eq_true (by omega)) _) ?_; refine xpL (.bool true) ?_; refine xT ?_; go_upto_region 23 with fail; refine wp_region_list ?_; refine xpL (.int .i64 ((a:Nat):Int)) ?_; refine xpL (.int .i64 ((a:Nat):Int)) ?_; refine xaL (.bool true) (eqlI .i64 _ _ _ _ _ _ rfl rfl rfl true (beq_iff_eq.2 (by omega)) _) ?_
        refine xpL (.bool true) ?_; refine xpL (.pointer (some ⟨Ra,0,none⟩)) ?_; refine xpL (.int .i64 ((n:Nat):Int)) ?_; have Mp:=M.perm (pull0 ([(B1,[.int .u8 (tk 0),.int .u8 (tk 1),.int .u8 (tk 2),.int .u8 (tk 3),.int .u8 (tk 4),.int .u8 (tk 5),.int .u8 (tk 6),.int .u8 (tk 7)])]:List (Nat × List Value)) ba1 ([]:List (Nat × List Value)))
        have key:=hK.sta w0 _ _ (tw n { ppw tk a with st:=2 }) ba1 _ ((n:Nat):Int) hWl (by unfold i64; omega) hIa Mp; clear Mp
        rw [show pst (tw n { ppw tk a with st:=2 }) ((n:Nat):Int)=2 from tw_st hnn _] at key
        refine xcL key ?_; clear key; rintro e w12 ⟨rfl,l_⟩; replace M:=M.call l_; replace hIa:=hK.bel hIa l_; clear l_; refine xeL ?_; refine xaL (.bool true) (eqlI .i64 _ _ _ _ _ _ rfl rfl rfl true rfl _) ?_; refine xpL (.bool true) ?_; refine xpL (.bool true) ?_; refine xT ?_; have hbel:=M.below; clear M hIa; go_wp2; go_ret
        exact ⟨rfl,hbel⟩
      · have hnk2:0<k→a≠k:=fun h_=>absurd h_ hk0
        go_upto_region 15 with fail; refine wp_region_list ?_; refine xpL (.int .i64 ((a:Nat):Int)) ?_; refine xpL (.int .i64 ((k:Nat):Int)) ?_; refine xaL (.bool true) (eqlI .i64 _ _ _ _ _ _ rfl rfl rfl true (beq_iff_eq.2 (by omega)) _) ?_; refine xpL (.bool true) ?_; refine xpL (.int .i64 ((k:Nat):Int)) ?_
        refine xaL (.bool false) (gtrI .i64 _ _ _ _ _ _ rfl rfl rfl false (decide_eq_false (by omega)) _) ?_; refine xpL (.bool false) ?_; refine xpL (.bool false) ?_
        with_reducible refine skipL ?_ ?_
        · rfl
        simp only [aP,lI,l0,lS]
        with_reducible refine skipL ?_ ?_
        · rfl
        simp only [aP,lI,l0,lS]
        with_reducible refine skipL ?_ ?_
        · rfl
        simp only [aP,lI,l0,lS]
        with_reducible refine skipL ?_ ?_
        · rfl
        simp only [aP,lI,l0,lS]; refine xpL (.bool false) ?_; refine xT ?_
        by_cases hlt:5+q<plt (a+1)
        · go_upto_region 16 with fail
          refine wp_region_list ?_; refine xpL (.pointer (some ⟨Ra,0,none⟩)) ?_; refine xpL (.int .i64 ((5+q:Nat):Int)) ?_; have Mp:=M.perm (pull0 ([(B1,[.int .u8 (tk 0),.int .u8 (tk 1),.int .u8 (tk 2),.int .u8 (tk 3),.int .u8 (tk 4),.int .u8 (tk 5),.int .u8 (tk 6),.int .u8 (tk 7)])]:List (Nat × List Value)) ga ([]:List (Nat × List Value)))
          have key:=hK.due w0 _ _ (tw n (ppw tk a)) ga _ ((5+q:Nat):Int) (ppw_w hnn htk ha) (by unfold i64; omega) hIa Mp
          rw [pmom_nat (show 5+q≤10000 by omega)] at key
          rw [ppw_no tk a (5+q) hlt] at key
          refine xcL key ?_; clear key; rintro e w16 ⟨p16,c16,ba1,rfl,L_16,hI_,M',o1⟩; clear o1 Mp M hIa; have hIa:=hI_; clear hI_
          have M:Mm w0 ((B1,[.int .u8 (tk 0),.int .u8 (tk 1),.int .u8 (tk 2),.int .u8 (tk 3),.int .u8 (tk 4),.int .u8 (tk 5),.int .u8 (tk 6),.int .u8 (tk 7)])::(ba1++((obs p16)++([]:List (Nat × List Value))))) w16:=M'.perm (pullY ([(B1,[.int .u8 (tk 0),.int .u8 (tk 1),.int .u8 (tk 2),.int .u8 (tk 3),.int .u8 (tk 4),.int .u8 (tk 5),.int .u8 (tk 6),.int .u8 (tk 7)])]:List (Nat × List Value)) ba1 (obs p16) ([]:List (Nat × List Value)))
          clear M'; refine xeL ?_; have hdl:=tw_len hnn (ppw tk a) (5+q)
          rw [if_neg (fun h_=>Nat.lt_irrefl _ (xnL hlt h_.2.1))] at hdl
          refine readL (.int .i64 ((((pdl (tw n (ppw tk a)) (5+q)):List Int).length:Nat):Int)) rfl (lenS _ 38 3 p16 (((pdl (tw n (ppw tk a)) (5+q)):List Int).length) c16 rfl Try.underlying38 rfl _) ?_; simp only [aP,lI,l0,lS]; refine xaL (.bool false) (gtrI .i64 _ _ _ _ _ _ rfl rfl rfl false (decide_eq_false (by omega)) _) ?_; refine xT ?_
          replace M:Mm w0 ((B1,[.int .u8 (tk 0),.int .u8 (tk 1),.int .u8 (tk 2),.int .u8 (tk 3),.int .u8 (tk 4),.int .u8 (tk 5),.int .u8 (tk 6),.int .u8 (tk 7)])::(ba1++([]:List (Nat × List Value)))) w16:=M.sub _ (List.cons_sublist_cons.2 ((List.Sublist.refl _).append (List.sublist_append_right _ _)))
          clear L_16; go_upto_region 21 with fail; refine wp_region_list ?_; refine xpL (.int .i64 ((5+q:Nat):Int)) ?_; refine readL (.int .i64 ((5+(q+1):Nat):Int)) rfl (addI .i64 _ _ _ _ _ _ _ rfl rfl rfl (by rw [xw6]; omega) _) ?_; simp only [aP,lI,l0,lS]; refine xpL (.int .i64 ((5+(q+1):Nat):Int)) ?_; refine xT ?_
          have HS:=show Hid _ from (show I w16 (.pointer (some ⟨Ra,0,none⟩)) (tw n (ppw tk a)) ba1∧Mm w0 ((B1,[.int .u8 (tk 0),.int .u8 (tk 1),.int .u8 (tk 2),.int .u8 (tk 3),.int .u8 (tk 4),.int .u8 (tk 5),.int .u8 (tk 6),.int .u8 (tk 7)])::(ba1++([]:List (Nat × List Value)))) w16 from ⟨hIa,M⟩)
          have HR:=show Hid _ from (show (((ppw tk a)=ppw tk a∧5+(q+1)≤plt (a+1)∧(0<a→la=plt a∧plt a<5+(q+1))∧(a=0→(q+1)=0)∧(0<k→a≤k))∨((ppw tk a)=ppf tk∧a=4∧¬ (0<k∧k≤4))) from (.inl ⟨rfl,by omega,fun h_=>⟨(hl1 h_).1,by have:=(hl1 h_).2; omega⟩,fun h_=>by have:=h0 h_; subst h_; subst this; exact absurd hlt (by decide),hak⟩))
          clear M hIa; go_wp2
          go_roundw
          case rel=>exact ⟨q+1,a,la,(ppw tk a),_,by omega,rfl,rfl,rfl,by go_num,by omega,by omega,HR.out,HS.out⟩
          case measure=>simp [intOf]; omega
        · have hee:5+q=plt (a+1):=by omega
          by_cases ha4:a<4
          · go_upto_region 16 with fail
            refine wp_region_list ?_; refine xpL (.pointer (some ⟨Ra,0,none⟩)) ?_; refine xpL (.int .i64 ((5+q:Nat):Int)) ?_; have Mp:=M.perm (pull0 ([(B1,[.int .u8 (tk 0),.int .u8 (tk 1),.int .u8 (tk 2),.int .u8 (tk 3),.int .u8 (tk 4),.int .u8 (tk 5),.int .u8 (tk 6),.int .u8 (tk 7)])]:List (Nat × List Value)) ga ([]:List (Nat × List Value)))
            have key:=hK.due w0 _ _ (tw n (ppw tk a)) ga _ ((5+q:Nat):Int) (ppw_w hnn htk ha) (by unfold i64; omega) hIa Mp
            rw [pmom_nat (show 5+q≤10000 by omega)] at key
            rw [ppw_go tk a (5+q) hee ha4] at key
            refine xcL key ?_; clear key; rintro e w17 ⟨p17,c17,ba1,rfl,L_17,hI_,M',o1⟩; clear o1 Mp M hIa; have hIa:=hI_; clear hI_
            have M:Mm w0 ((B1,[.int .u8 (tk 0),.int .u8 (tk 1),.int .u8 (tk 2),.int .u8 (tk 3),.int .u8 (tk 4),.int .u8 (tk 5),.int .u8 (tk 6),.int .u8 (tk 7)])::(ba1++((obs p17)++([]:List (Nat × List Value))))) w17:=M'.perm (pullY ([(B1,[.int .u8 (tk 0),.int .u8 (tk 1),.int .u8 (tk 2),.int .u8 (tk 3),.int .u8 (tk 4),.int .u8 (tk 5),.int .u8 (tk 6),.int .u8 (tk 7)])]:List (Nat × List Value)) ba1 (obs p17) ([]:List (Nat × List Value)))
            clear M'; refine xeL ?_; have hdl:=tw_len hnn (ppw tk a) (5+q)
            rw [if_pos ⟨rfl,Nat.le_of_eq hee.symm,show a≠4 by omega⟩] at hdl
            refine readL (.int .i64 ((((pdl (tw n (ppw tk a)) (5+q)):List Int).length:Nat):Int)) rfl (lenS _ 38 3 p17 (((pdl (tw n (ppw tk a)) (5+q)):List Int).length) c17 rfl Try.underlying38 rfl _) ?_; simp only [aP,lI,l0,lS]; refine xaL (.bool true) (gtrI .i64 _ _ _ _ _ _ rfl rfl rfl true (decide_eq_true (by omega)) _) ?_; refine xT ?_
            by_cases ha0:0<a
            · go_upto_region 17 with fail
              refine wp_region_list ?_; refine xpL (.int .i64 ((a:Nat):Int)) ?_; refine xaL (.bool true) (gtrI .i64 _ _ _ _ _ _ rfl rfl rfl true (decide_eq_true (by omega)) _) ?_; refine xpL (.bool true) ?_; refine xpL (.int .i64 ((5+q:Nat):Int)) ?_; refine xpL (.int .i64 ((la:Nat):Int)) ?_
              refine readL (.int .i64 (((5+q:Nat):Int)-((la:Nat):Int))) rfl (subI .i64 _ _ _ _ _ _ _ rfl rfl rfl (by rw [xw6]; omega) _) ?_; simp only [aP,lI,l0,lS]; refine xpL (.int .i64 ((a:Nat):Int)) ?_; refine xaL (.int .i64 ((100*2^a:Nat):Int)) (shlI .i64 .i64 _ _ _ _ _ _ _ rfl rfl rfl (by omega) (shl100 a ha) _) ?_
              refine xaL (.bool false) (lssI .i64 _ _ _ _ _ _ rfl rfl rfl false (decide_eq_false (by have e1_:=(hl1 ha0).1; have e2_:=f4 ha0; omega)) _) ?_
              refine xpL (.bool false) ?_; refine xT ?_; go_upto_region 19 with fail; refine wp_region_list ?_; refine xpL (.int .i64 ((a:Nat):Int)) ?_; refine xaL (.int .i64 ((a+1:Nat):Int)) (addI .i64 _ _ _ _ _ _ _ rfl rfl rfl (by rw [xw6]; omega) _) ?_; refine xpL (.int .i64 ((a+1:Nat):Int)) ?_; refine xT ?_; go_upto_region 20 with fail; refine wp_region_list ?_
              refine xpL (.int .i64 ((5+q:Nat):Int)) ?_; refine xpL (.int .i64 ((5+q:Nat):Int)) ?_; refine xT ?_
              replace M:Mm w0 ((B1,[.int .u8 (tk 0),.int .u8 (tk 1),.int .u8 (tk 2),.int .u8 (tk 3),.int .u8 (tk 4),.int .u8 (tk 5),.int .u8 (tk 6),.int .u8 (tk 7)])::(ba1++([]:List (Nat × List Value)))) w17:=M.sub _ (List.cons_sublist_cons.2 ((List.Sublist.refl _).append (List.sublist_append_right _ _)))
              clear L_17; go_upto_region 21 with fail; refine wp_region_list ?_; refine xpL (.int .i64 ((5+q:Nat):Int)) ?_; refine readL (.int .i64 ((5+(q+1):Nat):Int)) rfl (addI .i64 _ _ _ _ _ _ _ rfl rfl rfl (by rw [xw6]; omega) _) ?_; simp only [aP,lI,l0,lS]; refine xpL (.int .i64 ((5+(q+1):Nat):Int)) ?_; refine xT ?_
              have HS:=show Hid _ from (show I w17 (.pointer (some ⟨Ra,0,none⟩)) (tw n (ppw tk (a+1))) ba1∧Mm w0 ((B1,[.int .u8 (tk 0),.int .u8 (tk 1),.int .u8 (tk 2),.int .u8 (tk 3),.int .u8 (tk 4),.int .u8 (tk 5),.int .u8 (tk 6),.int .u8 (tk 7)])::(ba1++([]:List (Nat × List Value)))) w17 from ⟨hIa,M⟩)
              have HR:=show Hid _ from (show (((ppw tk (a+1))=ppw tk (a+1)∧5+(q+1)≤plt ((a+1)+1)∧(0<(a+1)→(5+q)=plt (a+1)∧plt (a+1)<5+(q+1))∧((a+1)=0→(q+1)=0)∧(0<k→(a+1)≤k))∨((ppw tk (a+1))=ppf tk∧(a+1)=4∧¬ (0<k∧k≤4))) from (.inl ⟨rfl,by have:=(plt_facts (a+1) ha4).2.2.1; omega,fun _=>⟨hee,by omega⟩,fun h_=>absurd h_ (by omega),fun h_=>by have:=hak h_; have:=hnk2; omega⟩))
              clear M hIa; go_wp2
              go_roundw
              case rel=>exact ⟨q+1,(a+1),(5+q),(ppw tk (a+1)),_,by omega,rfl,rfl,rfl,by go_num,by omega,by omega,HR.out,HS.out⟩
              case measure=>simp [intOf]; omega
            · go_upto_region 17 with fail
              refine wp_region_list ?_; refine xpL (.int .i64 ((a:Nat):Int)) ?_; refine xaL (.bool false) (gtrI .i64 _ _ _ _ _ _ rfl rfl rfl false (decide_eq_false (by omega)) _) ?_; refine xpL (.bool false) ?_
              with_reducible refine skipL ?_ ?_
              · rfl
              simp only [aP,lI,l0,lS]
              with_reducible refine skipL ?_ ?_
              · rfl
              simp only [aP,lI,l0,lS]
              with_reducible refine skipL ?_ ?_
              · rfl
              simp only [aP,lI,l0,lS]
              with_reducible refine skipL ?_ ?_
              · rfl
              simp only [aP,lI,l0,lS]
              with_reducible refine skipL ?_ ?_
              · rfl
              simp only [aP,lI,l0,lS]
              with_reducible refine skipL ?_ ?_
              · rfl
              simp only [aP,lI,l0,lS]; refine xpL (.bool false) ?_; refine xT ?_; go_upto_region 19 with fail; refine wp_region_list ?_; refine xpL (.int .i64 ((a:Nat):Int)) ?_; refine xaL (.int .i64 ((a+1:Nat):Int)) (addI .i64 _ _ _ _ _ _ _ rfl rfl rfl (by rw [xw6]; omega) _) ?_; refine xpL (.int .i64 ((a+1:Nat):Int)) ?_; refine xT ?_; go_upto_region 20 with fail
              refine wp_region_list ?_; refine xpL (.int .i64 ((5+q:Nat):Int)) ?_; refine xpL (.int .i64 ((5+q:Nat):Int)) ?_; refine xT ?_
              replace M:Mm w0 ((B1,[.int .u8 (tk 0),.int .u8 (tk 1),.int .u8 (tk 2),.int .u8 (tk 3),.int .u8 (tk 4),.int .u8 (tk 5),.int .u8 (tk 6),.int .u8 (tk 7)])::(ba1++([]:List (Nat × List Value)))) w17:=M.sub _ (List.cons_sublist_cons.2 ((List.Sublist.refl _).append (List.sublist_append_right _ _)))
              clear L_17; go_upto_region 21 with fail; refine wp_region_list ?_; refine xpL (.int .i64 ((5+q:Nat):Int)) ?_; refine readL (.int .i64 ((5+(q+1):Nat):Int)) rfl (addI .i64 _ _ _ _ _ _ _ rfl rfl rfl (by rw [xw6]; omega) _) ?_; simp only [aP,lI,l0,lS]; refine xpL (.int .i64 ((5+(q+1):Nat):Int)) ?_; refine xT ?_
              have HS:=show Hid _ from (show I w17 (.pointer (some ⟨Ra,0,none⟩)) (tw n (ppw tk (a+1))) ba1∧Mm w0 ((B1,[.int .u8 (tk 0),.int .u8 (tk 1),.int .u8 (tk 2),.int .u8 (tk 3),.int .u8 (tk 4),.int .u8 (tk 5),.int .u8 (tk 6),.int .u8 (tk 7)])::(ba1++([]:List (Nat × List Value)))) w17 from ⟨hIa,M⟩)
              have HR:=show Hid _ from (show (((ppw tk (a+1))=ppw tk (a+1)∧5+(q+1)≤plt ((a+1)+1)∧(0<(a+1)→(5+q)=plt (a+1)∧plt (a+1)<5+(q+1))∧((a+1)=0→(q+1)=0)∧(0<k→(a+1)≤k))∨((ppw tk (a+1))=ppf tk∧(a+1)=4∧¬ (0<k∧k≤4))) from (.inl ⟨rfl,by have:=(plt_facts (a+1) ha4).2.2.1; omega,fun _=>⟨hee,by omega⟩,fun h_=>absurd h_ (by omega),fun h_=>by have:=hak h_; have:=hnk2; omega⟩))
              clear M hIa; go_wp2
              go_roundw
              case rel=>exact ⟨q+1,(a+1),(5+q),(ppw tk (a+1)),_,by omega,rfl,rfl,rfl,by go_num,by omega,by omega,HR.out,HS.out⟩
              case measure=>simp [intOf]; omega
          · obtain rfl:a=4:=by omega
            have hWf:PtbW (tw n (ppf tk)):=ppw_end (n:=n) tk 3005 rfl ▸ pdt_w (ppw_w hnn htk (xnR 4)) (by decide)
            have hq3:5+q=3005:=hee
            go_upto_region 16 with fail; refine wp_region_list ?_; refine xpL (.pointer (some ⟨Ra,0,none⟩)) ?_; refine xpL (.int .i64 ((5+q:Nat):Int)) ?_; have Mp:=M.perm (pull0 ([(B1,[.int .u8 (tk 0),.int .u8 (tk 1),.int .u8 (tk 2),.int .u8 (tk 3),.int .u8 (tk 4),.int .u8 (tk 5),.int .u8 (tk 6),.int .u8 (tk 7)])]:List (Nat × List Value)) ga ([]:List (Nat × List Value)))
            have key:=hK.due w0 _ _ (tw n (ppw tk 4)) ga _ ((5+q:Nat):Int) (ppw_w hnn htk ha) (by unfold i64; omega) hIa Mp
            rw [pmom_nat (show 5+q≤10000 by omega)] at key
            rw [ppw_end tk (5+q) hee] at key
            refine xcL key ?_; clear key; rintro e w18 ⟨p18,c18,ba1,rfl,L_18,hI_,M',o1⟩; clear o1 Mp M hIa; have hIa:=hI_; clear hI_
            have M:Mm w0 ((B1,[.int .u8 (tk 0),.int .u8 (tk 1),.int .u8 (tk 2),.int .u8 (tk 3),.int .u8 (tk 4),.int .u8 (tk 5),.int .u8 (tk 6),.int .u8 (tk 7)])::(ba1++((obs p18)++([]:List (Nat × List Value))))) w18:=M'.perm (pullY ([(B1,[.int .u8 (tk 0),.int .u8 (tk 1),.int .u8 (tk 2),.int .u8 (tk 3),.int .u8 (tk 4),.int .u8 (tk 5),.int .u8 (tk 6),.int .u8 (tk 7)])]:List (Nat × List Value)) ba1 (obs p18) ([]:List (Nat × List Value)))
            clear M'; refine xeL ?_; have hdl:=tw_len hnn (ppw tk 4) (5+q)
            rw [if_neg (fun h_=>h_.2.2 rfl)] at hdl
            refine readL (.int .i64 ((((pdl (tw n (ppw tk 4)) (5+q)):List Int).length:Nat):Int)) rfl (lenS _ 38 3 p18 (((pdl (tw n (ppw tk 4)) (5+q)):List Int).length) c18 rfl Try.underlying38 rfl _) ?_; simp only [aP,lI,l0,lS]; refine xaL (.bool false) (gtrI .i64 _ _ _ _ _ _ rfl rfl rfl false (decide_eq_false (by omega)) _) ?_; refine xT ?_
            replace M:Mm w0 ((B1,[.int .u8 (tk 0),.int .u8 (tk 1),.int .u8 (tk 2),.int .u8 (tk 3),.int .u8 (tk 4),.int .u8 (tk 5),.int .u8 (tk 6),.int .u8 (tk 7)])::(ba1++([]:List (Nat × List Value)))) w18:=M.sub _ (List.cons_sublist_cons.2 ((List.Sublist.refl _).append (List.sublist_append_right _ _)))
            clear L_18; go_upto_region 21 with fail; refine wp_region_list ?_; refine xpL (.int .i64 ((5+q:Nat):Int)) ?_; refine readL (.int .i64 ((5+(q+1):Nat):Int)) rfl (addI .i64 _ _ _ _ _ _ _ rfl rfl rfl (by rw [xw6]; omega) _) ?_; simp only [aP,lI,l0,lS]; refine xpL (.int .i64 ((5+(q+1):Nat):Int)) ?_; refine xT ?_
            have HS:=show Hid _ from (show I w18 (.pointer (some ⟨Ra,0,none⟩)) (tw n (ppf tk)) ba1∧Mm w0 ((B1,[.int .u8 (tk 0),.int .u8 (tk 1),.int .u8 (tk 2),.int .u8 (tk 3),.int .u8 (tk 4),.int .u8 (tk 5),.int .u8 (tk 6),.int .u8 (tk 7)])::(ba1++([]:List (Nat × List Value)))) w18 from ⟨hIa,M⟩)
            have HR:=show Hid _ from (show (((ppf tk)=ppw tk 4∧5+(q+1)≤plt (4+1)∧(0<4→la=plt 4∧plt 4<5+(q+1))∧(4=0→(q+1)=0)∧(0<k→4≤k))∨((ppf tk)=ppf tk∧4=4∧¬ (0<k∧k≤4))) from (.inr ⟨rfl,rfl,by have:=hnk2; omega⟩)); clear M hIa; go_wp2
            go_roundw
            case rel=>exact ⟨q+1,4,la,(ppf tk),_,by omega,rfl,rfl,rfl,by go_num,by omega,by omega,HR.out,HS.out⟩
            case measure=>simp [intOf]; omega
    · have hnk2:0<k→a≠k:=fun h_ e_=>hak2 e_
      go_upto_region 15 with fail; refine wp_region_list ?_; refine xpL (.int .i64 ((a:Nat):Int)) ?_; refine xpL (.int .i64 ((k:Nat):Int)) ?_; refine xaL (.bool false) (eqlI .i64 _ _ _ _ _ _ rfl rfl rfl false (beq_eq_false_iff_ne.2 (by omega)) _) ?_; refine xpL (.bool false) ?_
      with_reducible refine skipL ?_ ?_
      · rfl
      simp only [aP,lI,l0,lS]
      with_reducible refine skipL ?_ ?_
      · rfl
      simp only [aP,lI,l0,lS]; refine xpL (.bool false) ?_; refine xpL (.bool false) ?_
      with_reducible refine skipL ?_ ?_
      · rfl
      simp only [aP,lI,l0,lS]
      with_reducible refine skipL ?_ ?_
      · rfl
      simp only [aP,lI,l0,lS]
      with_reducible refine skipL ?_ ?_
      · rfl
      simp only [aP,lI,l0,lS]
      with_reducible refine skipL ?_ ?_
      · rfl
      simp only [aP,lI,l0,lS]; refine xpL (.bool false) ?_; refine xT ?_
      by_cases hlt:5+q<plt (a+1)
      · go_upto_region 16 with fail
        refine wp_region_list ?_; refine xpL (.pointer (some ⟨Ra,0,none⟩)) ?_; refine xpL (.int .i64 ((5+q:Nat):Int)) ?_; have Mp:=M.perm (pull0 ([(B1,[.int .u8 (tk 0),.int .u8 (tk 1),.int .u8 (tk 2),.int .u8 (tk 3),.int .u8 (tk 4),.int .u8 (tk 5),.int .u8 (tk 6),.int .u8 (tk 7)])]:List (Nat × List Value)) ga ([]:List (Nat × List Value)))
        have key:=hK.due w0 _ _ (tw n (ppw tk a)) ga _ ((5+q:Nat):Int) (ppw_w hnn htk ha) (by unfold i64; omega) hIa Mp
        rw [pmom_nat (show 5+q≤10000 by omega)] at key
        rw [ppw_no tk a (5+q) hlt] at key
        refine xcL key ?_; clear key; rintro e w13 ⟨p13,c13,ba1,rfl,L_13,hI_,M',o1⟩; clear o1 Mp M hIa; have hIa:=hI_; clear hI_
        have M:Mm w0 ((B1,[.int .u8 (tk 0),.int .u8 (tk 1),.int .u8 (tk 2),.int .u8 (tk 3),.int .u8 (tk 4),.int .u8 (tk 5),.int .u8 (tk 6),.int .u8 (tk 7)])::(ba1++((obs p13)++([]:List (Nat × List Value))))) w13:=M'.perm (pullY ([(B1,[.int .u8 (tk 0),.int .u8 (tk 1),.int .u8 (tk 2),.int .u8 (tk 3),.int .u8 (tk 4),.int .u8 (tk 5),.int .u8 (tk 6),.int .u8 (tk 7)])]:List (Nat × List Value)) ba1 (obs p13) ([]:List (Nat × List Value)))
        clear M'; refine xeL ?_; have hdl:=tw_len hnn (ppw tk a) (5+q)
        rw [if_neg (fun h_=>Nat.lt_irrefl _ (xnL hlt h_.2.1))] at hdl
        refine readL (.int .i64 ((((pdl (tw n (ppw tk a)) (5+q)):List Int).length:Nat):Int)) rfl (lenS _ 38 3 p13 (((pdl (tw n (ppw tk a)) (5+q)):List Int).length) c13 rfl Try.underlying38 rfl _) ?_; simp only [aP,lI,l0,lS]; refine xaL (.bool false) (gtrI .i64 _ _ _ _ _ _ rfl rfl rfl false (decide_eq_false (by omega)) _) ?_; refine xT ?_
        replace M:Mm w0 ((B1,[.int .u8 (tk 0),.int .u8 (tk 1),.int .u8 (tk 2),.int .u8 (tk 3),.int .u8 (tk 4),.int .u8 (tk 5),.int .u8 (tk 6),.int .u8 (tk 7)])::(ba1++([]:List (Nat × List Value)))) w13:=M.sub _ (List.cons_sublist_cons.2 ((List.Sublist.refl _).append (List.sublist_append_right _ _)))
        clear L_13; go_upto_region 21 with fail; refine wp_region_list ?_; refine xpL (.int .i64 ((5+q:Nat):Int)) ?_; refine readL (.int .i64 ((5+(q+1):Nat):Int)) rfl (addI .i64 _ _ _ _ _ _ _ rfl rfl rfl (by rw [xw6]; omega) _) ?_; simp only [aP,lI,l0,lS]; refine xpL (.int .i64 ((5+(q+1):Nat):Int)) ?_; refine xT ?_
        have HS:=show Hid _ from (show I w13 (.pointer (some ⟨Ra,0,none⟩)) (tw n (ppw tk a)) ba1∧Mm w0 ((B1,[.int .u8 (tk 0),.int .u8 (tk 1),.int .u8 (tk 2),.int .u8 (tk 3),.int .u8 (tk 4),.int .u8 (tk 5),.int .u8 (tk 6),.int .u8 (tk 7)])::(ba1++([]:List (Nat × List Value)))) w13 from ⟨hIa,M⟩)
        have HR:=show Hid _ from (show (((ppw tk a)=ppw tk a∧5+(q+1)≤plt (a+1)∧(0<a→la=plt a∧plt a<5+(q+1))∧(a=0→(q+1)=0)∧(0<k→a≤k))∨((ppw tk a)=ppf tk∧a=4∧¬ (0<k∧k≤4))) from (.inl ⟨rfl,by omega,fun h_=>⟨(hl1 h_).1,by have:=(hl1 h_).2; omega⟩,fun h_=>by have:=h0 h_; subst h_; subst this; exact absurd hlt (by decide),hak⟩))
        clear M hIa; go_wp2
        go_roundw
        case rel=>exact ⟨q+1,a,la,(ppw tk a),_,by omega,rfl,rfl,rfl,by go_num,by omega,by omega,HR.out,HS.out⟩
        case measure=>simp [intOf]; omega
      · have hee:5+q=plt (a+1):=by omega
        by_cases ha4:a<4
        · go_upto_region 16 with fail
          refine wp_region_list ?_; refine xpL (.pointer (some ⟨Ra,0,none⟩)) ?_; refine xpL (.int .i64 ((5+q:Nat):Int)) ?_; have Mp:=M.perm (pull0 ([(B1,[.int .u8 (tk 0),.int .u8 (tk 1),.int .u8 (tk 2),.int .u8 (tk 3),.int .u8 (tk 4),.int .u8 (tk 5),.int .u8 (tk 6),.int .u8 (tk 7)])]:List (Nat × List Value)) ga ([]:List (Nat × List Value)))
          have key:=hK.due w0 _ _ (tw n (ppw tk a)) ga _ ((5+q:Nat):Int) (ppw_w hnn htk ha) (by unfold i64; omega) hIa Mp
          rw [pmom_nat (show 5+q≤10000 by omega)] at key
          rw [ppw_go tk a (5+q) hee ha4] at key
          refine xcL key ?_; clear key; rintro e w14 ⟨p14,c14,ba1,rfl,L_14,hI_,M',o1⟩; clear o1 Mp M hIa; have hIa:=hI_; clear hI_
          have M:Mm w0 ((B1,[.int .u8 (tk 0),.int .u8 (tk 1),.int .u8 (tk 2),.int .u8 (tk 3),.int .u8 (tk 4),.int .u8 (tk 5),.int .u8 (tk 6),.int .u8 (tk 7)])::(ba1++((obs p14)++([]:List (Nat × List Value))))) w14:=M'.perm (pullY ([(B1,[.int .u8 (tk 0),.int .u8 (tk 1),.int .u8 (tk 2),.int .u8 (tk 3),.int .u8 (tk 4),.int .u8 (tk 5),.int .u8 (tk 6),.int .u8 (tk 7)])]:List (Nat × List Value)) ba1 (obs p14) ([]:List (Nat × List Value)))
          clear M'; refine xeL ?_; have hdl:=tw_len hnn (ppw tk a) (5+q)
          rw [if_pos ⟨rfl,Nat.le_of_eq hee.symm,show a≠4 by omega⟩] at hdl
          refine readL (.int .i64 ((((pdl (tw n (ppw tk a)) (5+q)):List Int).length:Nat):Int)) rfl (lenS _ 38 3 p14 (((pdl (tw n (ppw tk a)) (5+q)):List Int).length) c14 rfl Try.underlying38 rfl _) ?_; simp only [aP,lI,l0,lS]; refine xaL (.bool true) (gtrI .i64 _ _ _ _ _ _ rfl rfl rfl true (decide_eq_true (by omega)) _) ?_; refine xT ?_
          by_cases ha0:0<a
          · go_upto_region 17 with fail
            refine wp_region_list ?_; refine xpL (.int .i64 ((a:Nat):Int)) ?_; refine xaL (.bool true) (gtrI .i64 _ _ _ _ _ _ rfl rfl rfl true (decide_eq_true (by omega)) _) ?_; refine xpL (.bool true) ?_; refine xpL (.int .i64 ((5+q:Nat):Int)) ?_; refine xpL (.int .i64 ((la:Nat):Int)) ?_
            refine readL (.int .i64 (((5+q:Nat):Int)-((la:Nat):Int))) rfl (subI .i64 _ _ _ _ _ _ _ rfl rfl rfl (by rw [xw6]; omega) _) ?_; simp only [aP,lI,l0,lS]; refine xpL (.int .i64 ((a:Nat):Int)) ?_; refine xaL (.int .i64 ((100*2^a:Nat):Int)) (shlI .i64 .i64 _ _ _ _ _ _ _ rfl rfl rfl (by omega) (shl100 a ha) _) ?_
            refine xaL (.bool false) (lssI .i64 _ _ _ _ _ _ rfl rfl rfl false (decide_eq_false (by have e1_:=(hl1 ha0).1; have e2_:=f4 ha0; omega)) _) ?_
            refine xpL (.bool false) ?_; refine xT ?_; go_upto_region 19 with fail; refine wp_region_list ?_; refine xpL (.int .i64 ((a:Nat):Int)) ?_; refine xaL (.int .i64 ((a+1:Nat):Int)) (addI .i64 _ _ _ _ _ _ _ rfl rfl rfl (by rw [xw6]; omega) _) ?_; refine xpL (.int .i64 ((a+1:Nat):Int)) ?_; refine xT ?_; go_upto_region 20 with fail; refine wp_region_list ?_
            refine xpL (.int .i64 ((5+q:Nat):Int)) ?_; refine xpL (.int .i64 ((5+q:Nat):Int)) ?_; refine xT ?_
            replace M:Mm w0 ((B1,[.int .u8 (tk 0),.int .u8 (tk 1),.int .u8 (tk 2),.int .u8 (tk 3),.int .u8 (tk 4),.int .u8 (tk 5),.int .u8 (tk 6),.int .u8 (tk 7)])::(ba1++([]:List (Nat × List Value)))) w14:=M.sub _ (List.cons_sublist_cons.2 ((List.Sublist.refl _).append (List.sublist_append_right _ _)))
            clear L_14; go_upto_region 21 with fail; refine wp_region_list ?_; refine xpL (.int .i64 ((5+q:Nat):Int)) ?_; refine readL (.int .i64 ((5+(q+1):Nat):Int)) rfl (addI .i64 _ _ _ _ _ _ _ rfl rfl rfl (by rw [xw6]; omega) _) ?_; simp only [aP,lI,l0,lS]; refine xpL (.int .i64 ((5+(q+1):Nat):Int)) ?_; refine xT ?_
            have HS:=show Hid _ from (show I w14 (.pointer (some ⟨Ra,0,none⟩)) (tw n (ppw tk (a+1))) ba1∧Mm w0 ((B1,[.int .u8 (tk 0),.int .u8 (tk 1),.int .u8 (tk 2),.int .u8 (tk 3),.int .u8 (tk 4),.int .u8 (tk 5),.int .u8 (tk 6),.int .u8 (tk 7)])::(ba1++([]:List (Nat × List Value)))) w14 from ⟨hIa,M⟩)
            have HR:=show Hid _ from (show (((ppw tk (a+1))=ppw tk (a+1)∧5+(q+1)≤plt ((a+1)+1)∧(0<(a+1)→(5+q)=plt (a+1)∧plt (a+1)<5+(q+1))∧((a+1)=0→(q+1)=0)∧(0<k→(a+1)≤k))∨((ppw tk (a+1))=ppf tk∧(a+1)=4∧¬ (0<k∧k≤4))) from (.inl ⟨rfl,by have:=(plt_facts (a+1) ha4).2.2.1; omega,fun _=>⟨hee,by omega⟩,fun h_=>absurd h_ (by omega),fun h_=>by have:=hak h_; have:=hnk2; omega⟩))
            clear M hIa; go_wp2
            go_roundw
            case rel=>exact ⟨q+1,(a+1),(5+q),(ppw tk (a+1)),_,by omega,rfl,rfl,rfl,by go_num,by omega,by omega,HR.out,HS.out⟩
            case measure=>simp [intOf]; omega
          · go_upto_region 17 with fail
            refine wp_region_list ?_; refine xpL (.int .i64 ((a:Nat):Int)) ?_; refine xaL (.bool false) (gtrI .i64 _ _ _ _ _ _ rfl rfl rfl false (decide_eq_false (by omega)) _) ?_; refine xpL (.bool false) ?_
            with_reducible refine skipL ?_ ?_
            · rfl
            simp only [aP,lI,l0,lS]
            with_reducible refine skipL ?_ ?_
            · rfl
            simp only [aP,lI,l0,lS]
            with_reducible refine skipL ?_ ?_
            · rfl
            simp only [aP,lI,l0,lS]
            with_reducible refine skipL ?_ ?_
            · rfl
            simp only [aP,lI,l0,lS]
            with_reducible refine skipL ?_ ?_
            · rfl
            simp only [aP,lI,l0,lS]
            with_reducible refine skipL ?_ ?_
            · rfl
            simp only [aP,lI,l0,lS]; refine xpL (.bool false) ?_; refine xT ?_; go_upto_region 19 with fail; refine wp_region_list ?_; refine xpL (.int .i64 ((a:Nat):Int)) ?_; refine xaL (.int .i64 ((a+1:Nat):Int)) (addI .i64 _ _ _ _ _ _ _ rfl rfl rfl (by rw [xw6]; omega) _) ?_; refine xpL (.int .i64 ((a+1:Nat):Int)) ?_; refine xT ?_; go_upto_region 20 with fail
            refine wp_region_list ?_; refine xpL (.int .i64 ((5+q:Nat):Int)) ?_; refine xpL (.int .i64 ((5+q:Nat):Int)) ?_; refine xT ?_
            replace M:Mm w0 ((B1,[.int .u8 (tk 0),.int .u8 (tk 1),.int .u8 (tk 2),.int .u8 (tk 3),.int .u8 (tk 4),.int .u8 (tk 5),.int .u8 (tk 6),.int .u8 (tk 7)])::(ba1++([]:List (Nat × List Value)))) w14:=M.sub _ (List.cons_sublist_cons.2 ((List.Sublist.refl _).append (List.sublist_append_right _ _)))
            clear L_14; go_upto_region 21 with fail; refine wp_region_list ?_; refine xpL (.int .i64 ((5+q:Nat):Int)) ?_; refine readL (.int .i64 ((5+(q+1):Nat):Int)) rfl (addI .i64 _ _ _ _ _ _ _ rfl rfl rfl (by rw [xw6]; omega) _) ?_; simp only [aP,lI,l0,lS]; refine xpL (.int .i64 ((5+(q+1):Nat):Int)) ?_; refine xT ?_
            have HS:=show Hid _ from (show I w14 (.pointer (some ⟨Ra,0,none⟩)) (tw n (ppw tk (a+1))) ba1∧Mm w0 ((B1,[.int .u8 (tk 0),.int .u8 (tk 1),.int .u8 (tk 2),.int .u8 (tk 3),.int .u8 (tk 4),.int .u8 (tk 5),.int .u8 (tk 6),.int .u8 (tk 7)])::(ba1++([]:List (Nat × List Value)))) w14 from ⟨hIa,M⟩)
            have HR:=show Hid _ from (show (((ppw tk (a+1))=ppw tk (a+1)∧5+(q+1)≤plt ((a+1)+1)∧(0<(a+1)→(5+q)=plt (a+1)∧plt (a+1)<5+(q+1))∧((a+1)=0→(q+1)=0)∧(0<k→(a+1)≤k))∨((ppw tk (a+1))=ppf tk∧(a+1)=4∧¬ (0<k∧k≤4))) from (.inl ⟨rfl,by have:=(plt_facts (a+1) ha4).2.2.1; omega,fun _=>⟨hee,by omega⟩,fun h_=>absurd h_ (by omega),fun h_=>by have:=hak h_; have:=hnk2; omega⟩))
            clear M hIa; go_wp2
            go_roundw
            case rel=>exact ⟨q+1,(a+1),(5+q),(ppw tk (a+1)),_,by omega,rfl,rfl,rfl,by go_num,by omega,by omega,HR.out,HS.out⟩
            case measure=>simp [intOf]; omega
        · obtain rfl:a=4:=by omega
          have hWf:PtbW (tw n (ppf tk)):=ppw_end (n:=n) tk 3005 rfl ▸ pdt_w (ppw_w hnn htk (xnR 4)) (by decide)
          have hq3:5+q=3005:=hee
          go_upto_region 16 with fail; refine wp_region_list ?_; refine xpL (.pointer (some ⟨Ra,0,none⟩)) ?_; refine xpL (.int .i64 ((5+q:Nat):Int)) ?_; have Mp:=M.perm (pull0 ([(B1,[.int .u8 (tk 0),.int .u8 (tk 1),.int .u8 (tk 2),.int .u8 (tk 3),.int .u8 (tk 4),.int .u8 (tk 5),.int .u8 (tk 6),.int .u8 (tk 7)])]:List (Nat × List Value)) ga ([]:List (Nat × List Value)))
          have key:=hK.due w0 _ _ (tw n (ppw tk 4)) ga _ ((5+q:Nat):Int) (ppw_w hnn htk ha) (by unfold i64; omega) hIa Mp
          rw [pmom_nat (show 5+q≤10000 by omega)] at key
          rw [ppw_end tk (5+q) hee] at key
          refine xcL key ?_; clear key; rintro e w15 ⟨p15,c15,ba1,rfl,L_15,hI_,M',o1⟩; clear o1 Mp M hIa; have hIa:=hI_; clear hI_
          have M:Mm w0 ((B1,[.int .u8 (tk 0),.int .u8 (tk 1),.int .u8 (tk 2),.int .u8 (tk 3),.int .u8 (tk 4),.int .u8 (tk 5),.int .u8 (tk 6),.int .u8 (tk 7)])::(ba1++((obs p15)++([]:List (Nat × List Value))))) w15:=M'.perm (pullY ([(B1,[.int .u8 (tk 0),.int .u8 (tk 1),.int .u8 (tk 2),.int .u8 (tk 3),.int .u8 (tk 4),.int .u8 (tk 5),.int .u8 (tk 6),.int .u8 (tk 7)])]:List (Nat × List Value)) ba1 (obs p15) ([]:List (Nat × List Value)))
          clear M'; refine xeL ?_; have hdl:=tw_len hnn (ppw tk 4) (5+q)
          rw [if_neg (fun h_=>h_.2.2 rfl)] at hdl
          refine readL (.int .i64 ((((pdl (tw n (ppw tk 4)) (5+q)):List Int).length:Nat):Int)) rfl (lenS _ 38 3 p15 (((pdl (tw n (ppw tk 4)) (5+q)):List Int).length) c15 rfl Try.underlying38 rfl _) ?_; simp only [aP,lI,l0,lS]; refine xaL (.bool false) (gtrI .i64 _ _ _ _ _ _ rfl rfl rfl false (decide_eq_false (by omega)) _) ?_; refine xT ?_
          replace M:Mm w0 ((B1,[.int .u8 (tk 0),.int .u8 (tk 1),.int .u8 (tk 2),.int .u8 (tk 3),.int .u8 (tk 4),.int .u8 (tk 5),.int .u8 (tk 6),.int .u8 (tk 7)])::(ba1++([]:List (Nat × List Value)))) w15:=M.sub _ (List.cons_sublist_cons.2 ((List.Sublist.refl _).append (List.sublist_append_right _ _)))
          clear L_15; go_upto_region 21 with fail; refine wp_region_list ?_; refine xpL (.int .i64 ((5+q:Nat):Int)) ?_; refine readL (.int .i64 ((5+(q+1):Nat):Int)) rfl (addI .i64 _ _ _ _ _ _ _ rfl rfl rfl (by rw [xw6]; omega) _) ?_; simp only [aP,lI,l0,lS]; refine xpL (.int .i64 ((5+(q+1):Nat):Int)) ?_; refine xT ?_
          have HS:=show Hid _ from (show I w15 (.pointer (some ⟨Ra,0,none⟩)) (tw n (ppf tk)) ba1∧Mm w0 ((B1,[.int .u8 (tk 0),.int .u8 (tk 1),.int .u8 (tk 2),.int .u8 (tk 3),.int .u8 (tk 4),.int .u8 (tk 5),.int .u8 (tk 6),.int .u8 (tk 7)])::(ba1++([]:List (Nat × List Value)))) w15 from ⟨hIa,M⟩)
          have HR:=show Hid _ from (show (((ppf tk)=ppw tk 4∧5+(q+1)≤plt (4+1)∧(0<4→la=plt 4∧plt 4<5+(q+1))∧(4=0→(q+1)=0)∧(0<k→4≤k))∨((ppf tk)=ppf tk∧4=4∧¬ (0<k∧k≤4))) from (.inr ⟨rfl,rfl,by have:=hnk2; omega⟩)); clear M hIa; go_wp2
          go_roundw
          case rel=>exact ⟨q+1,4,la,(ppf tk),_,by omega,rfl,rfl,rfl,by go_num,by omega,by omega,HR.out,HS.out⟩
          case measure=>simp [intOf]; omega
  · obtain ⟨rfl,rfl,hk4⟩:=hrl
    have hWf:PtbW (tw n (ppf tk)):=ppw_end (n:=n) tk 3005 rfl ▸ pdt_w (ppw_w hnn htk (xnR 4)) (by decide)
    go_upto_region 13 with fail; refine wp_region_list ?_; refine xpL (.int .i64 (q:Int)) ?_; refine xaL (.bool true) (lssI .i64 _ _ _ _ _ _ rfl rfl rfl true (decide_eq_true (by omega)) _) ?_; refine xpL (.bool true) ?_; refine xpL (.pointer (some ⟨Ra,0,none⟩)) ?_; refine xpL (.int .i64 ((n:Nat):Int)) ?_
    have Mp:=M.perm (pull0 ([(B1,[.int .u8 (tk 0),.int .u8 (tk 1),.int .u8 (tk 2),.int .u8 (tk 3),.int .u8 (tk 4),.int .u8 (tk 5),.int .u8 (tk 6),.int .u8 (tk 7)])]:List (Nat × List Value)) ga ([]:List (Nat × List Value))); have key:=hK.sta w0 _ _ (tw n (ppf tk)) ga _ ((n:Nat):Int) hWf (by unfold i64; omega) hIa Mp; clear Mp
    rw [show pst (tw n (ppf tk)) ((n:Nat):Int)=4 from tw_st hnn _] at key
    refine xcL key ?_; clear key; rintro e w7 ⟨rfl,l_⟩; replace M:=M.call l_; replace hIa:=hK.bel hIa l_; clear l_; refine xeL ?_; refine xaL (.bool false) (eqlI .i64 _ _ _ _ _ _ rfl rfl rfl false rfl _) ?_; refine xpL (.bool false) ?_; refine xT ?_
    by_cases hk0:0<k
    · go_upto_region 22 with fail
      refine wp_region_list ?_; refine xpL (.int .i64 ((k:Nat):Int)) ?_; refine xaL (.bool true) (gtrI .i64 _ _ _ _ _ _ rfl rfl rfl true (decide_eq_true (by omega)) _) ?_; refine xpL (.bool true) ?_; refine xpL (.int .i64 ((k:Nat):Int)) ?_; refine xaL (.bool false) (leqI .i64 _ _ _ _ _ _ rfl rfl rfl false (decide_eq_false (by omega)) _) ?_; refine xpL (.bool false) ?_; refine xT ?_
      go_upto_region 24 with fail; refine wp_region_list ?_; refine xpL (.int .i64 ((4:Nat):Int)) ?_; refine xaL (.bool true) (eqlI .i64 _ _ _ _ _ _ rfl rfl rfl true (beq_iff_eq.2 (by omega)) _) ?_; refine xpL (.bool true) ?_; refine xpL (.pointer (some ⟨Ra,0,none⟩)) ?_; refine xpL (.int .i64 ((n:Nat):Int)) ?_
      have Mp:=M.perm (pull0 ([(B1,[.int .u8 (tk 0),.int .u8 (tk 1),.int .u8 (tk 2),.int .u8 (tk 3),.int .u8 (tk 4),.int .u8 (tk 5),.int .u8 (tk 6),.int .u8 (tk 7)])]:List (Nat × List Value)) ga ([]:List (Nat × List Value))); have key:=hK.sta w0 _ _ (tw n (ppf tk)) ga _ ((n:Nat):Int) hWf (by unfold i64; omega) hIa Mp; clear Mp
      rw [show pst (tw n (ppf tk)) ((n:Nat):Int)=4 from tw_st hnn _] at key
      refine xcL key ?_; clear key; rintro e w8 ⟨rfl,l_⟩; replace M:=M.call l_; replace hIa:=hK.bel hIa l_; clear l_; refine xeL ?_; refine xaL (.bool true) (eqlI .i64 _ _ _ _ _ _ rfl rfl rfl true rfl _) ?_; refine xpL (.bool true) ?_; refine xpL (.bool true) ?_; refine xT ?_; have hbel:=M.below; clear M hIa; go_wp2; go_ret
      exact ⟨rfl,hbel⟩
    · go_upto_region 22 with fail
      refine wp_region_list ?_; refine xpL (.int .i64 ((k:Nat):Int)) ?_; refine xaL (.bool false) (gtrI .i64 _ _ _ _ _ _ rfl rfl rfl false (decide_eq_false (by omega)) _) ?_; refine xpL (.bool false) ?_
      with_reducible refine skipL ?_ ?_
      · rfl
      simp only [aP,lI,l0,lS]
      with_reducible refine skipL ?_ ?_
      · rfl
      simp only [aP,lI,l0,lS]; refine xpL (.bool false) ?_; refine xT ?_; go_upto_region 24 with fail; refine wp_region_list ?_; refine xpL (.int .i64 ((4:Nat):Int)) ?_; refine xaL (.bool true) (eqlI .i64 _ _ _ _ _ _ rfl rfl rfl true (beq_iff_eq.2 (by omega)) _) ?_; refine xpL (.bool true) ?_; refine xpL (.pointer (some ⟨Ra,0,none⟩)) ?_; refine xpL (.int .i64 ((n:Nat):Int)) ?_
      have Mp:=M.perm (pull0 ([(B1,[.int .u8 (tk 0),.int .u8 (tk 1),.int .u8 (tk 2),.int .u8 (tk 3),.int .u8 (tk 4),.int .u8 (tk 5),.int .u8 (tk 6),.int .u8 (tk 7)])]:List (Nat × List Value)) ga ([]:List (Nat × List Value))); have key:=hK.sta w0 _ _ (tw n (ppf tk)) ga _ ((n:Nat):Int) hWf (by unfold i64; omega) hIa Mp; clear Mp
      rw [show pst (tw n (ppf tk)) ((n:Nat):Int)=4 from tw_st hnn _] at key
      refine xcL key ?_; clear key; rintro e w9 ⟨rfl,l_⟩; replace M:=M.call l_; replace hIa:=hK.bel hIa l_; clear l_; refine xeL ?_; refine xaL (.bool true) (eqlI .i64 _ _ _ _ _ _ rfl rfl rfl true rfl _) ?_; refine xpL (.bool true) ?_; refine xpL (.bool true) ?_; refine xT ?_; have hbel:=M.below; clear M hIa; go_wp2; go_ret
      exact ⟨rfl,hbel⟩
theorem Mm.addB {w0 w:World} {l:List (Nat × List Value)} (h:Mm w0 l w) {b:Nat} (lo:w0.heap.size≤b) (lt:b<w.heap.size) (hne:∀ p∈l,p.1≠b):Mm w0 ((b,[])::l) w :=
 ⟨fun p hp=>by
  rcases xc1 hp with rfl | hp
  · exact ⟨fun j hj=>absurd hj (xnZ j),lo,lt⟩
  · exact h.rows p hp,List.pairwise_cons.2 ⟨fun p hp=>(hne p hp).symm,h.apart⟩,h.below⟩
theorem cellP {w w':World} (l:Below w.heap.size w w') {p:Addr} {u:Value} (h:w.cell? p=some u):w'.cell? p=some u:=by
 rw [l.cell (World.block_lt_of_cell? w _ h)]
 exact h
theorem pix_nat9 {n:Nat} (h:n<256):pix ((n:Nat):Int)=n:=by
 unfold pix
 rw [if_pos (by omega),Int.toNat_natCast]
def prowP (t:Ptb) (s n:Nat):List Int:=((List.range n).filter fun k=>(t k).st == s).map fun k:Nat=>(k:Int)
theorem prowP_all (t:Ptb) (s:Nat):prowP t s 256=prow t s:=rfl
theorem prowP_yes {t:Ptb} {s n:Nat} (h:(t n).st=s):prowP t s (n+1)=prowP t s n++[((n:Nat):Int)]:=by
 unfold prowP
 rw [List.range_succ,List.filter_append,List.map_append,List.filter_cons_of_pos (by rw [h]; exact beq_self_eq_true s)]
 rfl
theorem prowP_no {t:Ptb} {s n:Nat} (h:(t n).st≠s):prowP t s (n+1)=prowP t s n:=by
 unfold prowP
 rw [List.range_succ,List.filter_append,List.map_append,List.filter_cons_of_neg (by simpa using h)]
 simp
theorem prowP_le (t:Ptb) (s n:Nat):(prowP t s n).length≤n:=by
 unfold prowP
 rw [List.length_map]
 exact xnT (List.length_filter_le _ _) (Nat.le_of_eq List.length_range)
theorem run_equalIn_rowD {P:Program} (w:World) (d:Nat) (t e:TypeId) (n:Nat) (k:IntKind) (ht:P.underlying t=some (.array n e)) (he:P.underlying e=some (.int k)) (hsz:∀ w,(sizeOf e).run P w=.ok 1 w) (f g:Nat→Int) :
 (Op.equalIn (d+2) t (.agg (row k n f).toArray) (.agg (row k n g).toArray)).run P w=.ok ((List.range' 0 n 1).all fun i=>f i == g i) w:=by
 rw [Op.equalIn]
 simp only [Sem.run_bind,run_underlying ht,Result.andThen_ok,hsz,Std.Legacy.Range.forIn_eq_forIn_range',Std.Legacy.Range.size,Nat.sub_zero,Nat.add_sub_cancel,Nat.div_one]
 have hl:∀ i∈List.range' 0 n 1,i<n:=fun i hi=>by simpa using (List.mem_range'_1.1 hi).2
 generalize List.range' 0 n 1=l at hl ⊢
 induction l with
 | nil=>simp
 | cons i l ih =>
   have hi:i<n:=hl i (by simp)
   have px:(part e (row k n f).toArray (i*1)).run P w=.ok (.int k (f i)) w:=by
    simp [part,isAgg,run_underlying he,row_get k n f i hi]
   have py:(part e (row k n g).toArray (i*1)).run P w=.ok (.int k (g i)) w:=by
    simp [part,isAgg,run_underlying he,row_get k n g i hi]
   have pe:(Op.equalIn (d+1) e (.int k (f i)) (.int k (g i))).run P w=.ok (f i == g i) w:=by
    rw [run_equalIn_int w d e k k _ _ he]
   rw [List.all_cons]
   cases hb:(f i == g i)
   · simp only [List.forIn_cons,Sem.run_bind,px,py,pe,hb,Result.andThen_ok,Bool.not_false,if_true,Sem.run_pure,Bool.false_and]
   · simp only [List.forIn_cons,Sem.run_bind,px,py,pe,hb,Result.andThen_ok,Bool.not_true,Bool.false_eq_true,if_false,Sem.run_pure,Bool.true_and]
     exact ih fun j hj=>hl j (by simp [hj])
theorem peq_range (f g:Nat→Int):((List.range' 0 8 1).all fun i=>f i == g i)=peq f g:=rfl
theorem neqT8 {o:Oper} {a:Act} (f g:Nat→Int) (x y:Operand) (ho:o.op=.binOp .neq 30 x y 30) (hx:a.eval x=tok8 f) (hy:a.eval y=tok8 g) (w:World) :
 (execOp a.eval o).run Try.prog w=.ok (.value (.bool (!peq f g))) w:=by
 have e1:(binOp .neq 30 (tok8 f) (tok8 g)).run Try.prog w=.ok (.bool (!peq f g)) w:=by
  unfold tok8
  rw [run_neq_struct,run_equalIn_rowD w 9998 30 5 8 .u8 Try.underlying30 Try.underlying5 (fun _=>by kernel_rfl) f g,peq_range]
  rfl
 unfold execOp
 simp only [ho,hx,hy,Sem.run_bind,show ∀ w,(eqGuard .neq 30 x y (tok8 f) (tok8 g)).run Try.prog w=.ok () w from fun w=>run_eqGuard_agg w .neq 30 x y _ _ (by kernel_rfl),Result.andThen_ok,e1,Sem.run_pure]
theorem setL_left:∀ (ds a rest:List Value),ds.length=a.length→setL (a++rest) 0 ds=ds++rest:=by
 have key:∀ (ds pre a rest:List Value),ds.length=a.length→setL (pre++(a++rest)) pre.length ds=pre++(ds++rest):=by
  intro ds
  induction ds with
  | nil =>
    intro pre a rest h
    have:a=[]:=List.eq_nil_of_length_eq_zero (by simpa using h.symm)
    subst this
    rfl
  | cons d ds ih =>
    intro pre a rest h
    cases a with
    | nil=>cases h
    | cons x a =>
      have h2:ds.length=a.length:=by simpa using h
      have e:(pre++(x::a++rest)).set pre.length d=(pre++[d])++(a++rest):=by simp
      show setL ((pre++(x::a++rest)).set pre.length d) (pre.length+1) ds=_
      rw [e]
      have:=ih (pre++[d]) a rest h2
      rw [List.length_append] at this
      rw [show pre.length+1=pre.length+[d].length from rfl,this]
      simp
 intro ds a rest h
 have:=key ds [] a rest h
 simpa using this
def pc12 (s r:Nat) (k:Nat→Int) (a n:Nat):List Value:=[.int .i64 (s:Int),.int .i64 (r:Int),.int .u8 (k 0),.int .u8 (k 1),.int .u8 (k 2),.int .u8 (k 3),.int .u8 (k 4),.int .u8 (k 5),.int .u8 (k 6),.int .u8 (k 7),.int .i64 (a:Int),.int .i64 (n:Int)]
def pzk (p:Pth):Nat→Int:=if p.st=1 then p.tk else fun _=>0
def pza (p:Pth):Nat:=if p.st=1 then p.tr else 0
def pzn (p:Pth):Nat:=if p.st=1 then p.nx else 0
def pcz (p:Pth):List Value:=pc12 p.st p.rt (pzk p) (pza p) (pzn p)
theorem pcz_new {p:Pth} (h:p.st=1):pcz p=pc12 1 p.rt p.tk p.tr p.nx:=by unfold pcz pzk pza pzn; rw [if_pos h,if_pos h,if_pos h,h]
theorem pcz_old {p:Pth} (h:p.st≠1):pcz p=pc12 p.st p.rt (fun _=>0) 0 0:=by unfold pcz pzk pza pzn; rw [if_neg h,if_neg h,if_neg h]
def fl12 (f:Nat→List Value):Nat→List Value
 | 0=>[]
 | n+1=>fl12 f n++f n
theorem fl12_len {f:Nat→List Value} (h:∀ k,(f k).length=12):∀ n,(fl12 f n).length=n*12
 | 0=>by show 0=0*12; rfl
 | n+1=>by
   show (fl12 f n++f n).length=_
   rw [List.length_append,fl12_len h n,h]
   omega
theorem fl12_congr {f g:Nat→List Value}:∀ {n:Nat},(∀ i,i<n→f i=g i)→fl12 f n=fl12 g n
 | 0,_=>rfl
 | n+1,h=>by
   show fl12 f n++f n=fl12 g n++g n
   rw [fl12_congr fun i hi=>h i (by omega),h n (by omega)]
theorem fl12_get {f:Nat→List Value} (h:∀ k,(f k).length=12):∀ {n k j:Nat},k<n→j<12→(fl12 f n)[k*12+j]?=(f k)[j]?
 | 0,_,_,hk,_=>absurd hk (xnZ _)
 | n+1,k,j,hk,hj=>by
   show (fl12 f n++f n)[k*12+j]?=_
   have hl:=fl12_len h n
   by_cases c:k=n
   · subst c
     rw [List.getElem?_append_right (by omega),hl,Nat.add_sub_cancel_left]
   · rw [List.getElem?_append_left (by omega),fl12_get h (by omega) hj]
def put12 (f:Nat→List Value) (k:Nat) (ds:List Value):Nat→List Value:=fun i=>if i=k then ds else f i
theorem put12_len {f:Nat→List Value} (h:∀ k,(f k).length=12) (k:Nat) {ds:List Value} (hd:ds.length=12):∀ i,(put12 f k ds i).length=12:=fun i=>by unfold put12; split; exact hd; exact h i
theorem fl12_set {f:Nat→List Value} (h:∀ k,(f k).length=12):∀ {n k j:Nat},k<n→j<12→∀ v,(fl12 f n).set (k*12+j) v=fl12 (put12 f k ((f k).set j v)) n
 | 0,_,_,hk,_,_=>absurd hk (xnZ _)
 | n+1,k,j,hk,hj,v=>by
   show (fl12 f n++f n).set (k*12+j) v=fl12 (put12 f k ((f k).set j v)) n++put12 f k ((f k).set j v) n
   have hl:=fl12_len h n
   by_cases c:k=n
   · subst c
     rw [List.set_append_right _ _ (by omega),hl,Nat.add_sub_cancel_left,show put12 f k ((f k).set j v) k=(f k).set j v from if_pos rfl,fl12_congr (f:=put12 f k ((f k).set j v)) (g:=f) fun i hi=>if_neg (by omega)]
   · rw [List.set_append_left _ _ (by omega),fl12_set h (by omega) hj,show put12 f k ((f k).set j v) n=f n from if_neg fun e=>c e.symm]
theorem fl12_setL:∀ (ds:List Value) {f:Nat→List Value} (_:∀ k,(f k).length=12) {n k o:Nat},k<n→o+ds.length≤12→setL (fl12 f n) (k*12+o) ds=fl12 (put12 f k (setL (f k) o ds)) n
 | [],f,_,n,k,o,_,_=>fl12_congr fun i _=>by
   unfold put12
   split
   · next e=>subst e; rfl
   · rfl
 | v::vs,f,h,n,k,o,hk,ho=>by
   rw [List.length_cons] at ho
   show setL ((fl12 f n).set (k*12+o) v) (k*12+o+1) vs=_
   rw [fl12_set h hk (by omega),Nat.add_assoc,fl12_setL vs (put12_len h k (by rw [List.length_set]; exact h k)) hk (by omega),show put12 f k ((f k).set o v) k=(f k).set o v from if_pos rfl]
   refine fl12_congr fun i _=>?_
   unfold put12
   split
   · rfl
   · rfl
theorem setL_full (a ds:List Value) (h:ds.length=a.length):setL a 0 ds=ds:=by
 have:=setL_left ds a [] h
 rw [List.append_nil,List.append_nil] at this
 exact this
def tcs (t:Ptb):List Value:=fl12 (fun k=>pcz (t k)) 256
theorem tcs_len (t:Ptb):(tcs t).length=3072:=fl12_len (fun _=>rfl) 256
theorem tcs_get (t:Ptb) {k j:Nat} (hk:k<256) (hj:j<12):(tcs t)[k*12+j]?=(pcz (t k))[j]?:=fl12_get (fun _=>rfl) hk hj
theorem tcs_put (t:Ptb) {k:Nat} (hk:k<256) (q:Pth) (ds:List Value) (h:pcz q=ds):setL (tcs t) (k*12) ds=tcs (pput t k q):=by
 subst h
 have:=fl12_setL (pcz q) (f:=fun k=>pcz (t k)) (fun _=>rfl) (n:=256) (k:=k) (o:=0) hk (xnR 12)
 refine this.trans (fl12_congr fun i _=>?_)
 unfold put12 pput
 by_cases c:i=k
 · rw [if_pos c,if_pos c]; exact setL_full _ _ rfl
 · rw [if_neg c,if_neg c]
theorem tcs_set (t:Ptb) {k:Nat} (hk:k<256) (j:Nat) (hj:j<12) (q:Pth) (v:Value) (h:(pcz (t k)).set j v=pcz q):(tcs t).set (k*12+j) v=tcs (pput t k q):=by
 refine (fl12_set (f:=fun k=>pcz (t k)) (fun _=>rfl) hk hj v).trans (fl12_congr fun i _=>?_)
 unfold put12 pput
 by_cases c:i=k
 · rw [if_pos c,if_pos c]; exact h
 · rw [if_neg c,if_neg c]
def tz12:List Value:=fl12 (fun _=>pc12 0 0 (fun _=>0) 0 0) 256
theorem tcs_new:tcs pnew=tz12:=congrArg (fun f=>fl12 f 256) (funext fun _=>rfl)
theorem pnum_yes {f:Nat→Bool} {n:Nat} (h:f n=true):pnum f (n+1)=pnum f n+1:=by
 show pnum f n+(if f n=true then 1 else 0)=_
 rw [if_pos h]
theorem pnum_no {f:Nat→Bool} {n:Nat} (h:f n=false):pnum f (n+1)=pnum f n:=by
 show pnum f n+(if f n=true then 1 else 0)=_
 rw [h]
 rfl
def puse (t:Ptb) (id:Int) (q:Pth):Ptb:=if pmay t id=0 then pput t (pix id) q else t
def Pat (w:World) (B o:Nat) (p:Pth):Prop:=∀ j u,(pcz p)[j]?=some u→w.cell? ⟨B,o+j,none⟩=some u
theorem Pat.below {w w':World} {B o:Nat} {p:Pth} (h:Pat w B o p) (l:Below w.heap.size w w'):Pat w' B o p:=fun j u hu=>cellP l (h j u hu)
theorem Pat.off1 {w w':World} {B o b:Nat} {p:Pth} (h:Pat w B o p) (f:Off [b] w w') (hb:B≠b):Pat w' B o p:=fun j u hu=>f.cell (h j u hu) fun hm=>hb (xm1 hm)
theorem Pat.one {w0 w:World} {l:List (Nat × List Value)} {B:Nat} {p:Pth} (M:Mm w0 l w) (hm:(B,pcz p)∈l):Pat w B 0 p:=fun j u hu=>by rw [Nat.zero_add]; exact M.get hm j u hu
theorem Pat.tok {w:World} {B o:Nat} {p:Pth} (h:Pat w B o p):∀ j u,[Value.int .u8 (pzk p 0),.int .u8 (pzk p 1),.int .u8 (pzk p 2),.int .u8 (pzk p 3),.int .u8 (pzk p 4),.int .u8 (pzk p 5),.int .u8 (pzk p 6),.int .u8 (pzk p 7)][j]?=some u→w.cell? ((⟨B,o+2,none⟩:Addr).add j)=some u:=by
 intro j u hu
 have hj:j<8:=(List.getElem?_eq_some_iff.1 hu).1
 rw [Addr.add_mid,Nat.add_assoc]
 refine h (2+j) u ?_
 rw [← hu]
 obtain rfl | rfl | rfl | rfl | rfl | rfl | rfl | rfl:j=0∨j=1∨j=2∨j=3∨j=4∨j=5∨j=6∨j=7:=by omega
 all_goals rfl
def Tat (w:World) (R:Nat) (t:Ptb):Prop:=∀ k,k<256→Pat w R (k*12) (t k)
theorem Tat.below {w w':World} {R:Nat} {t:Ptb} (h:Tat w R t) (l:Below w.heap.size w w'):Tat w' R t:=fun k hk=>(h k hk).below l
theorem Tat.of {w0 w:World} {l:List (Nat × List Value)} {R:Nat} {t:Ptb} (M:Mm w0 l w) (hm:(R,tcs t)∈l):Tat w R t:=fun k hk j u hu=>M.get hm _ u (by rw [tcs_get t hk (List.getElem?_eq_some_iff.1 hu).1]; exact hu)
theorem idxP12 (R i:Nat) (hi:i<256) {o:Oper} {a:Act} (x y:Operand) (ho:o.op=.indexAddr 52 x y) (hx:a.eval x=.pointer (some ⟨R,0,none⟩)) (hy:a.eval y=.int .i64 (i:Int)) (w:World):(execOp a.eval o).run Try.prog w=.ok (.value (.pointer (some ⟨R,i*12,none⟩))) w:=by
 have hu:=Try.underlying52
 have hsz:∀ w,(sizeOf 51).run Try.prog w=.ok 12 w:=fun _=>by kernel_rfl
 have e1:(Instr.indexAt 52 (.pointer (some ⟨R,0,none⟩)) (.int .i64 (i:Int))).run Try.prog w=.ok (.pointer (some ⟨R,i*12,none⟩)) w:=by
  simp [Instr.indexAt,run_underlying hu,Instr.sureAddr,asIntOf,hsz,Addr.add_mid]
  intro hf
  omega
 unfold execOp
 simp only [ho,hx,hy,Sem.run_bind,e1,Result.andThen_ok,Sem.run_pure]
end Go.Proofs.Ytdengjdfmhcbiaa
