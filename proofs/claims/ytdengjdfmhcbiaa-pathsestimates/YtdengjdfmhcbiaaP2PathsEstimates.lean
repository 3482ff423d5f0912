/- Texts of Uf Kn Ud LawPathsEstimates Gv Ui Uj Ul Fq Ut Uv, joined. -/
import Derived.Test.YtdengjdfmhcbiaaP1PathsEstimates
set_option maxRecDepth 20000
set_option maxHeartbeats 64000000
namespace Go.Proofs.Ytdengjdfmhcbiaa
open Go.RowKit
theorem Mm.srcI {w0 w:World} {l:List (Nat × List Value)} (h:Mm w0 l w) {b:Nat} {cs:List Value} (hp:(b,cs)∈l) (bs:List Int) (hc:cs=bs.map (Value.int .i64)):SrcI w (some ⟨b,0,none⟩) bs.length (bl bs):=fun j hj=>⟨_,rfl,by
 rw [Addr.add_mid,Nat.zero_add]
 refine h.get hp j _ ?_
 rw [hc,List.getElem?_map,List.getElem?_eq_getElem hj]
 unfold bl
 rw [List.getD_eq_getElem?_getD,List.getElem?_eq_getElem hj]
 rfl⟩
def tk1 (c:Int):Nat→Int:=fun j=>if j=0 then c else 0
theorem tk1_in {c:Int} (h:0≤c∧c<256):In 256 8 (tk1 c):=fun j _=>by
 unfold tk1
 split
 · exact h
 · decide
theorem tk1_7:tok8 (tk1 7)=.agg #[.int .u8 7,.int .u8 0,.int .u8 0,.int .u8 0,.int .u8 0,.int .u8 0,.int .u8 0,.int .u8 0]:=by kernel_rfl
theorem tk1_8:tok8 (tk1 8)=.agg #[.int .u8 8,.int .u8 0,.int .u8 0,.int .u8 0,.int .u8 0,.int .u8 0,.int .u8 0,.int .u8 0]:=by kernel_rfl
def tz1:Ptb:=pput pnew 0 ⟨2,100,0,0,fun _=>0⟩
def tz (p:Pth):Ptb:=pput tz1 3 p
def pz0:Pth:=⟨1,100,0,10,tk1 7⟩
def pz1:Pth:=⟨1,100,1,210,tk1 7⟩
def pz2:Pth:=⟨1,100,2,610,tk1 7⟩
def pz3:Pth:=⟨2,100,2,610,tk1 7⟩
def pz4:Pth:=⟨2,110,2,610,tk1 7⟩
def pz5:Pth:=⟨3,110,2,610,tk1 7⟩
theorem pput_put (t:Ptb) (k:Nat) (p q:Pth):pput (pput t k p) k q=pput t k q:=by
 funext j
 unfold pput
 split <;> rfl
theorem tz_pdt (p:Pth) (m:Nat):pdt (tz p) m=tz (if p.st=1∧p.nx≤m then (if p.tr=4 then { p with st:=4 } else { p with tr:=p.tr+1,nx:=m+p.rt*2^(p.tr+1) }) else p):=by
 funext k
 by_cases c:k=3
 · subst c
   unfold pdt pdw tz
   rw [pput_same,pput_same]
   by_cases d:p.st=1∧p.nx≤m
   · rw [if_pos d,if_pos (decide_eq_true d)]
   · rw [if_neg d,if_neg (by rw [decide_eq_false d]; decide)]
 · have h:∀ q,tz q k=tz1 k:=fun q=>pput_other c q
   unfold pdt pdw
   rw [h,h]
   by_cases d:k=0
   · subst d
     rfl
   · have:tz1 k=pnone:=pput_other d _
     rw [this]
     rfl
theorem tz_b0:pmay pnew 0=0:=by decide +kernel
theorem tz_s0:pbeg pnew 0=tz1:=by
 unfold pbeg
 rw [if_pos tz_b0]
 rfl
theorem tz_b1:pmay tz1 0=201:=by decide +kernel
theorem tz_s1:pbeg tz1 0=tz1:=if_neg (by rw [tz_b1]; decide)
theorem tz_b2:pmay tz1 256=1:=by decide +kernel
theorem tz_s2:pbeg tz1 256=tz1:=if_neg (by rw [tz_b2]; decide)
theorem tz_b3:pmay tz1 3=0:=by decide +kernel
theorem tz_s3:padd tz1 3 (tk1 7) 10=tz pz0:=by
 unfold padd
 rw [if_pos tz_b3]
 rfl
theorem tz_l:prow (tz pz0) 2=[0]:=by decide +kernel
theorem tz_d9:pdl (tz pz0) (pmom 9)=[]∧pdt (tz pz0) (pmom 9)=tz pz0:=⟨by decide +kernel,by rw [tz_pdt]; exact congrArg tz (if_neg (by decide +kernel))⟩
theorem tz_d10:pdl (tz pz0) (pmom 10)=[3]∧pdt (tz pz0) (pmom 10)=tz pz1:=⟨by decide +kernel,by rw [tz_pdt]; exact congrArg tz ((if_pos (by decide +kernel)).trans (if_neg (by decide)))⟩
theorem tz_d209:pdl (tz pz1) (pmom 209)=[]∧pdt (tz pz1) (pmom 209)=tz pz1:=⟨by decide +kernel,by rw [tz_pdt]; exact congrArg tz (if_neg (by decide +kernel))⟩
theorem tz_d210:pdl (tz pz1) (pmom 210)=[3]∧pdt (tz pz1) (pmom 210)=tz pz2:=⟨by decide +kernel,by rw [tz_pdt]; exact congrArg tz ((if_pos (by decide +kernel)).trans (if_neg (by decide)))⟩
theorem tz_a8:pans (tz pz2) 3 (tk1 8)=false:=by decide +kernel
theorem tz_sa8:pant (tz pz2) 3 (tk1 8)=tz pz2:=if_neg (by rw [tz_a8]; decide)
theorem tz_a7:pans (tz pz2) 3 (tk1 7)=true:=by decide +kernel
theorem tz_sa7:pant (tz pz2) 3 (tk1 7)=tz pz3:=(if_pos tz_a7).trans (pput_put tz1 3 pz2 pz3)
theorem tz_st:pst (tz pz3) 3=2:=by decide +kernel
theorem tz_a7b:pans (tz pz3) 3 (tk1 7)=false:=by decide +kernel
theorem tz_sa7b:pant (tz pz3) 3 (tk1 7)=tz pz3:=if_neg (by rw [tz_a7b]; decide)
theorem tz_sm:psm (tz pz3) 3 180=tz pz4:=(if_pos (by decide +kernel)).trans (pput_put tz1 3 pz3 pz4)
theorem tz_rt:prt (tz pz4) 3=110:=by decide +kernel
theorem tz_r1:prE (tz pz4) 3=0:=by decide +kernel
theorem tz_sr1:prm (tz pz4) 3=tz pz5:=(if_pos (by decide +kernel)).trans (pput_put tz1 3 pz4 pz5)
theorem tz_r2:prE (tz pz5) 3=200:=by decide +kernel
theorem tz_sr2:prm (tz pz5) 3=tz pz5:=if_neg (by decide +kernel)
theorem tz_b4:pmay (tz pz5) 3=201:=by decide +kernel
theorem tz_s4:padd (tz pz5) 3 (tk1 7) 0=tz pz5:=if_neg (by rw [tz_b4]; decide)
theorem tz1_w:PtbW tz1:=tz_s0 ▸ pbeg_w pnew_w 0
theorem tz_w0:PtbW (tz pz0):=tz_s3 ▸ padd_w tz1_w 3 (tk1_in (by decide)) 10
theorem tz_w1:PtbW (tz pz1):=tz_d10.2 ▸ pdt_w tz_w0 (pmom_le 10)
theorem tz_w2:PtbW (tz pz2):=tz_d210.2 ▸ pdt_w tz_w1 (pmom_le 210)
theorem tz_w3:PtbW (tz pz3):=tz_sa7 ▸ pant_w tz_w2 3 (tk1 7)
theorem tz_w4:PtbW (tz pz4):=tz_sm ▸ psm_w tz_w3 3 180
theorem tz_w5:PtbW (tz pz5):=tz_sr1 ▸ prm_w tz_w4 3
theorem shown20_any {I:TabI} (hK:TabOK I) (w0:World) :
 Calls Try.prog 7 #[] w0 fun e w'=>e=.returned (.bool true)∧Below w0.heap.size w0 w':=by
 have M:=Mm.init w0
 go_enter Try.func7,Try.ntmps7
 go_upto_region 0 with fail; refine wp_region_list ?_; refine xpL (.bool false) ?_; refine xT ?_; go_upto_region 1 with fail; refine wp_region_list ?_; have key:=hK.new w0 _ _ M; refine xcL key ?_; clear key; rintro e w1 ⟨v_,ba0,rfl,hIa,M',l_⟩
 obtain ⟨Ra,rfl⟩:=hK.ptr _ _ _ _ hIa
 clear M; have M:=M'.perm (pull0 ([]:List (Nat × List Value)) ba0 ([]:List (Nat × List Value))).symm; clear M'; clear l_
 replace M:Mm w0 ((ba0++([]:List (Nat × List Value)))) w1:=M
 refine xeL ?_; refine xpL (.pointer (some ⟨Ra,0,none⟩)) ?_; refine xT ?_; go_upto_region 2 with fail; refine wp_region_list ?_; refine xpL (.pointer (some ⟨Ra,0,none⟩)) ?_; refine xpL (.bool false) ?_; refine xT ?_; go_upto_region 4 with fail; refine wp_region_list ?_; refine xpL (.agg #[.int .u8 7,.int .u8 0,.int .u8 0,.int .u8 0,.int .u8 0,.int .u8 0,.int .u8 0,.int .u8 0]) ?_
 have hlb:=(Below.refl w1.heap.size w1).alloc (xnR _) (.cells zu8_8 30); refine actL (w':=w1.alloc (.cells zu8_8 30)) (.pointer (some ⟨w1.heap.size,0,none⟩)) rfl (by kernel_rfl) ?_; simp only [aP,lI,l0,lS]; replace hIa:=hK.bel hIa hlb; replace M:=M.box zu8_8 30 w1.heap.size rfl; clear hlb; generalize w1.alloc (.cells zu8_8 30)=w2 at M hIa ⊢; generalize w1.heap.size=B2 at M ⊢
 replace M:Mm w0 ((B2,[.int .u8 0,.int .u8 0,.int .u8 0,.int .u8 0,.int .u8 0,.int .u8 0,.int .u8 0,.int .u8 0])::(ba0++([]:List (Nat × List Value)))) w2:=M
 refine skipOpL rfl (storeP [.int .u8 7,.int .u8 0,.int .u8 0,.int .u8 0,.int .u8 0,.int .u8 0,.int .u8 0,.int .u8 0] B2 0 30 _ _ rfl rfl rfl (M.thereP mS 0 8 (Nat.le_of_ble_eq_true rfl)) (by kernel_rfl) (List.all_eq_true.1 (rfl:([.int .u8 7,.int .u8 0,.int .u8 0,.int .u8 0,.int .u8 0,.int .u8 0,.int .u8 0,.int .u8 0]:List Value).all (fun u=>u.oneCell')=true))) ?_
 simp only [Act.put]; replace M:=M.setPart [.int .u8 7,.int .u8 0,.int .u8 0,.int .u8 0,.int .u8 0,.int .u8 0,.int .u8 0,.int .u8 0] 0 (Nat.le_of_ble_eq_true rfl)
 replace hIa:=hK.off _ _ _ _ _ _ hIa ((Off.refl [B2] _).setAll (b:=B2) mS 0 [.int .u8 7,.int .u8 0,.int .u8 0,.int .u8 0,.int .u8 0,.int .u8 0,.int .u8 0,.int .u8 0]) (fun b_ hb_=>by obtain rfl:=xm1 hb_; exact M.awayC (fun p_ hp_=>by simp [hp_]))
 generalize w2.setCells B2 0 [.int .u8 7,.int .u8 0,.int .u8 0,.int .u8 0,.int .u8 0,.int .u8 0,.int .u8 0,.int .u8 0]=w3 at M hIa ⊢
 replace M:Mm w0 ((B2,[.int .u8 7,.int .u8 0,.int .u8 0,.int .u8 0,.int .u8 0,.int .u8 0,.int .u8 0,.int .u8 0])::(ba0++([]:List (Nat × List Value)))) w3:=M
 refine xT ?_; go_upto_region 5 with fail; refine wp_region_list ?_; refine xpL (.pointer (some ⟨Ra,0,none⟩)) ?_; have Mp:=M.perm (pull0 ([(B2,[.int .u8 7,.int .u8 0,.int .u8 0,.int .u8 0,.int .u8 0,.int .u8 0,.int .u8 0,.int .u8 0])]:List (Nat × List Value)) ba0 ([]:List (Nat × List Value))); have key:=hK.beg w0 _ _ pnew ba0 _ 0 pnew_w (by unfold i64; decide) hIa Mp
 rw [tz_b0] at key
 rw [tz_s0] at key
 refine xcL key ?_; clear key; rintro e w4 ⟨ba1,rfl,hI_,M',o1⟩; clear o1 Mp M hIa; have hIa:=hI_; clear hI_
 have M:Mm w0 ((B2,[.int .u8 7,.int .u8 0,.int .u8 0,.int .u8 0,.int .u8 0,.int .u8 0,.int .u8 0,.int .u8 0])::(ba1++([]:List (Nat × List Value)))) w4:=M'.perm (pull0 ([(B2,[.int .u8 7,.int .u8 0,.int .u8 0,.int .u8 0,.int .u8 0,.int .u8 0,.int .u8 0,.int .u8 0])]:List (Nat × List Value)) ba1 ([]:List (Nat × List Value))).symm
 clear M'; refine xeL ?_; refine xpL (.int .i64 ((0:Nat):Int)) ?_; refine xT ?_; go_upto_region 6 with fail; refine wp_region_list ?_; refine xpL (.pointer (some ⟨Ra,0,none⟩)) ?_; have Mp:=M.perm (pull0 ([(B2,[.int .u8 7,.int .u8 0,.int .u8 0,.int .u8 0,.int .u8 0,.int .u8 0,.int .u8 0,.int .u8 0])]:List (Nat × List Value)) ba1 ([]:List (Nat × List Value)))
 have key:=hK.beg w0 _ _ tz1 ba1 _ 0 tz1_w (by unfold i64; decide) hIa Mp
 rw [tz_b1] at key
 rw [tz_s1] at key
 refine xcL key ?_; clear key; rintro e w5 ⟨ba2,rfl,hI_,M',o1⟩; clear o1 Mp M hIa; have hIa:=hI_; clear hI_
 have M:Mm w0 ((B2,[.int .u8 7,.int .u8 0,.int .u8 0,.int .u8 0,.int .u8 0,.int .u8 0,.int .u8 0,.int .u8 0])::(ba2++([]:List (Nat × List Value)))) w5:=M'.perm (pull0 ([(B2,[.int .u8 7,.int .u8 0,.int .u8 0,.int .u8 0,.int .u8 0,.int .u8 0,.int .u8 0,.int .u8 0])]:List (Nat × List Value)) ba2 ([]:List (Nat × List Value))).symm
 clear M'; refine xeL ?_; refine xpL (.int .i64 ((201:Nat):Int)) ?_; refine xT ?_; go_upto_region 7 with fail; refine wp_region_list ?_; refine xpL (.pointer (some ⟨Ra,0,none⟩)) ?_; have Mp:=M.perm (pull0 ([(B2,[.int .u8 7,.int .u8 0,.int .u8 0,.int .u8 0,.int .u8 0,.int .u8 0,.int .u8 0,.int .u8 0])]:List (Nat × List Value)) ba2 ([]:List (Nat × List Value)))
 have key:=hK.beg w0 _ _ tz1 ba2 _ 256 tz1_w (by unfold i64; decide) hIa Mp
 rw [tz_b2] at key
 rw [tz_s2] at key
 refine xcL key ?_; clear key; rintro e w6 ⟨ba3,rfl,hI_,M',o1⟩; clear o1 Mp M hIa; have hIa:=hI_; clear hI_
 have M:Mm w0 ((B2,[.int .u8 7,.int .u8 0,.int .u8 0,.int .u8 0,.int .u8 0,.int .u8 0,.int .u8 0,.int .u8 0])::(ba3++([]:List (Nat × List Value)))) w6:=M'.perm (pull0 ([(B2,[.int .u8 7,.int .u8 0,.int .u8 0,.int .u8 0,.int .u8 0,.int .u8 0,.int .u8 0,.int .u8 0])]:List (Nat × List Value)) ba3 ([]:List (Nat × List Value))).symm
 clear M'; refine xeL ?_; refine xpL (.int .i64 ((1:Nat):Int)) ?_; refine xT ?_; go_upto_region 8 with fail; refine wp_region_list ?_; refine xpL (.pointer (some ⟨Ra,0,none⟩)) ?_
 refine xaL (.agg #[.int .u8 7,.int .u8 0,.int .u8 0,.int .u8 0,.int .u8 0,.int .u8 0,.int .u8 0,.int .u8 0]) (loadN 30 _ ⟨B2,0,none⟩ [.int .u8 7,.int .u8 0,.int .u8 0,.int .u8 0,.int .u8 0,.int .u8 0,.int .u8 0,.int .u8 0] rfl rfl (fun _=>by kernel_rfl) (fun _=>by kernel_rfl) (M.rangeAt mS)) ?_
 have Mp:=M.perm (pull0 ([(B2,[.int .u8 7,.int .u8 0,.int .u8 0,.int .u8 0,.int .u8 0,.int .u8 0,.int .u8 0,.int .u8 0])]:List (Nat × List Value)) ba3 ([]:List (Nat × List Value))); have key:=hK.add w0 _ _ tz1 ba3 _ 3 (tk1 7) 10 tz1_w (by unfold i64; decide) (tk1_in (by decide)) (by unfold i64; decide) hIa Mp
 rw [tz_b3] at key
 rw [tz_s3] at key
 rw [tk1_7] at key
 refine xcL key ?_; clear key; rintro e w7 ⟨ba4,rfl,hI_,M',o1⟩; clear o1 Mp M hIa; have hIa:=hI_; clear hI_
 have M:Mm w0 ((B2,[.int .u8 7,.int .u8 0,.int .u8 0,.int .u8 0,.int .u8 0,.int .u8 0,.int .u8 0,.int .u8 0])::(ba4++([]:List (Nat × List Value)))) w7:=M'.perm (pull0 ([(B2,[.int .u8 7,.int .u8 0,.int .u8 0,.int .u8 0,.int .u8 0,.int .u8 0,.int .u8 0,.int .u8 0])]:List (Nat × List Value)) ba4 ([]:List (Nat × List Value))).symm
 clear M'; refine xeL ?_; refine xpL (.int .i64 ((0:Nat):Int)) ?_; refine xT ?_; go_upto_region 9 with fail; refine wp_region_list ?_; refine xpL (.pointer (some ⟨Ra,0,none⟩)) ?_; have Mp:=M.perm (pull0 ([(B2,[.int .u8 7,.int .u8 0,.int .u8 0,.int .u8 0,.int .u8 0,.int .u8 0,.int .u8 0,.int .u8 0])]:List (Nat × List Value)) ba4 ([]:List (Nat × List Value)))
 have key:=hK.liv w0 _ _ (tz pz0) ba4 _ tz_w0 hIa Mp; clear Mp
 rw [tz_l] at key
 refine xcL key ?_; clear key; rintro e w8 ⟨p8,c8,rfl,L_8,l_⟩; replace M:=M.newI l_ L_8; replace hIa:=hK.bel hIa l_; clear l_
 replace M:Mm w0 ((B2,[.int .u8 7,.int .u8 0,.int .u8 0,.int .u8 0,.int .u8 0,.int .u8 0,.int .u8 0,.int .u8 0])::((obs p8)++(ba4++([]:List (Nat × List Value))))) w8:=M.perm (pull0 ([(B2,[.int .u8 7,.int .u8 0,.int .u8 0,.int .u8 0,.int .u8 0,.int .u8 0,.int .u8 0,.int .u8 0])]:List (Nat × List Value)) (obs p8) (ba4++([]:List (Nat × List Value)))).symm
 refine xeL ?_; have hlb:=(Below.refl w8.heap.size w8).alloc (xnR _) (.cells #[.int .i64 0] 3); refine actL (w':=w8.alloc (.cells #[.int .i64 0] 3)) (.slice (some ⟨w8.heap.size,0,none⟩) 1 1) rfl (by kernel_rfl) ?_; simp only [aP,lI,l0,lS]; replace hIa:=hK.bel hIa hlb; replace L_8:=NewI.below L_8 hlb; replace M:=M.box #[.int .i64 0] 3 w8.heap.size rfl; clear hlb
 generalize w8.alloc (.cells #[.int .i64 0] 3)=w9 at M hIa L_8 ⊢; generalize w8.heap.size=B9 at M ⊢
 replace M:Mm w0 ((B9,[.int .i64 0])::(B2,[.int .u8 7,.int .u8 0,.int .u8 0,.int .u8 0,.int .u8 0,.int .u8 0,.int .u8 0,.int .u8 0])::((obs p8)++(ba4++([]:List (Nat × List Value))))) w9:=M
 have key:=ints20_any ([0]) (by decide) p8 (some ⟨B9,0,none⟩) c8 1 w9 (NewI.src L_8) (M.srcI mS [0] rfl); refine xcL key ?_; clear key; rintro e w10 ⟨rfl,l_⟩; replace M:=M.call l_; replace hIa:=hK.bel hIa l_; replace L_8:=NewI.below L_8 l_; clear l_; refine xeL ?_; refine xpL (.bool true) ?_; refine xT ?_
 replace M:Mm w0 ((B9,[.int .i64 0])::(B2,[.int .u8 7,.int .u8 0,.int .u8 0,.int .u8 0,.int .u8 0,.int .u8 0,.int .u8 0,.int .u8 0])::(ba4++([]:List (Nat × List Value)))) w10:=M.sub _ (List.cons_sublist_cons.2 (List.cons_sublist_cons.2 (List.sublist_append_right _ _)))
 clear L_8; go_upto_region 10 with fail; refine wp_region_list ?_; refine xpL (.pointer (some ⟨Ra,0,none⟩)) ?_; have Mp:=M.perm (pull0 ([(B9,[.int .i64 0]),(B2,[.int .u8 7,.int .u8 0,.int .u8 0,.int .u8 0,.int .u8 0,.int .u8 0,.int .u8 0,.int .u8 0])]:List (Nat × List Value)) ba4 ([]:List (Nat × List Value)))
 have key:=hK.due w0 _ _ (tz pz0) ba4 _ 9 tz_w0 (by unfold i64; decide) hIa Mp
 rw [tz_d9.1] at key
 rw [tz_d9.2] at key
 refine xcL key ?_; clear key; rintro e w11 ⟨p11,c11,ba5,rfl,L_11,hI_,M',o1⟩; clear o1 Mp M hIa; have hIa:=hI_; clear hI_
 have M:Mm w0 ((B9,[.int .i64 0])::(B2,[.int .u8 7,.int .u8 0,.int .u8 0,.int .u8 0,.int .u8 0,.int .u8 0,.int .u8 0,.int .u8 0])::(ba5++((obs p11)++([]:List (Nat × List Value))))) w11:=M'.perm (pullY ([(B9,[.int .i64 0]),(B2,[.int .u8 7,.int .u8 0,.int .u8 0,.int .u8 0,.int .u8 0,.int .u8 0,.int .u8 0,.int .u8 0])]:List (Nat × List Value)) ba5 (obs p11) ([]:List (Nat × List Value)))
 clear M'; refine xeL ?_; have key:=ints20_any ([]) (by decide) p11 none c11 0 w11 (NewI.src L_11) (fun j hj=>absurd hj (xnZ j)); refine xcL key ?_; clear key; rintro e w12 ⟨rfl,l_⟩; replace M:=M.call l_; replace hIa:=hK.bel hIa l_; replace L_11:=NewI.below L_11 l_; clear l_; refine xeL ?_; refine xpL (.bool true) ?_; refine xT ?_
 replace M:Mm w0 ((B9,[.int .i64 0])::(B2,[.int .u8 7,.int .u8 0,.int .u8 0,.int .u8 0,.int .u8 0,.int .u8 0,.int .u8 0,.int .u8 0])::(ba5++([]:List (Nat × List Value)))) w12:=M.sub _ (List.cons_sublist_cons.2 (List.cons_sublist_cons.2 ((List.Sublist.refl _).append (List.sublist_append_right _ _))))
 clear L_11; go_upto_region 11 with fail; refine wp_region_list ?_; refine xpL (.pointer (some ⟨Ra,0,none⟩)) ?_; have Mp:=M.perm (pull0 ([(B9,[.int .i64 0]),(B2,[.int .u8 7,.int .u8 0,.int .u8 0,.int .u8 0,.int .u8 0,.int .u8 0,.int .u8 0,.int .u8 0])]:List (Nat × List Value)) ba5 ([]:List (Nat × List Value)))
 have key:=hK.due w0 _ _ (tz pz0) ba5 _ 10 tz_w0 (by unfold i64; decide) hIa Mp
 rw [tz_d10.1] at key
 rw [tz_d10.2] at key
 refine xcL key ?_; clear key; rintro e w13 ⟨p13,c13,ba6,rfl,L_13,hI_,M',o1⟩; clear o1 Mp M hIa; have hIa:=hI_; clear hI_
 have M:Mm w0 ((B9,[.int .i64 0])::(B2,[.int .u8 7,.int .u8 0,.int .u8 0,.int .u8 0,.int .u8 0,.int .u8 0,.int .u8 0,.int .u8 0])::(ba6++((obs p13)++([]:List (Nat × List Value))))) w13:=M'.perm (pullY ([(B9,[.int .i64 0]),(B2,[.int .u8 7,.int .u8 0,.int .u8 0,.int .u8 0,.int .u8 0,.int .u8 0,.int .u8 0,.int .u8 0])]:List (Nat × List Value)) ba6 (obs p13) ([]:List (Nat × List Value)))
 clear M'; refine xeL ?_; have hlb:=(Below.refl w13.heap.size w13).alloc (xnR _) (.cells #[.int .i64 3] 3); refine actL (w':=w13.alloc (.cells #[.int .i64 3] 3)) (.slice (some ⟨w13.heap.size,0,none⟩) 1 1) rfl (by kernel_rfl) ?_; simp only [aP,lI,l0,lS]; replace hIa:=hK.bel hIa hlb; replace L_13:=NewI.below L_13 hlb; replace M:=M.box #[.int .i64 3] 3 w13.heap.size rfl; clear hlb
 generalize w13.alloc (.cells #[.int .i64 3] 3)=w14 at M hIa L_13 ⊢; generalize w13.heap.size=B14 at M ⊢
 replace M:Mm w0 ((B14,[.int .i64 3])::(B9,[.int .i64 0])::(B2,[.int .u8 7,.int .u8 0,.int .u8 0,.int .u8 0,.int .u8 0,.int .u8 0,.int .u8 0,.int .u8 0])::(ba6++((obs p13)++([]:List (Nat × List Value))))) w14:=M
 have key:=ints20_any ([3]) (by decide) p13 (some ⟨B14,0,none⟩) c13 1 w14 (NewI.src L_13) (M.srcI mS [3] rfl); refine xcL key ?_; clear key; rintro e w15 ⟨rfl,l_⟩; replace M:=M.call l_; replace hIa:=hK.bel hIa l_; replace L_13:=NewI.below L_13 l_; clear l_; refine xeL ?_; refine xpL (.bool true) ?_; refine xT ?_
 replace M:Mm w0 ((B14,[.int .i64 3])::(B9,[.int .i64 0])::(B2,[.int .u8 7,.int .u8 0,.int .u8 0,.int .u8 0,.int .u8 0,.int .u8 0,.int .u8 0,.int .u8 0])::(ba6++([]:List (Nat × List Value)))) w15:=M.sub _ (List.cons_sublist_cons.2 (List.cons_sublist_cons.2 (List.cons_sublist_cons.2 ((List.Sublist.refl _).append (List.sublist_append_right _ _)))))
 clear L_13; go_upto_region 12 with fail; refine wp_region_list ?_; refine xpL (.pointer (some ⟨Ra,0,none⟩)) ?_; have Mp:=M.perm (pull0 ([(B14,[.int .i64 3]),(B9,[.int .i64 0]),(B2,[.int .u8 7,.int .u8 0,.int .u8 0,.int .u8 0,.int .u8 0,.int .u8 0,.int .u8 0,.int .u8 0])]:List (Nat × List Value)) ba6 ([]:List (Nat × List Value)))
 have key:=hK.due w0 _ _ (tz pz1) ba6 _ 209 tz_w1 (by unfold i64; decide) hIa Mp
 rw [tz_d209.1] at key
 rw [tz_d209.2] at key
 refine xcL key ?_; clear key; rintro e w16 ⟨p16,c16,ba7,rfl,L_16,hI_,M',o1⟩; clear o1 Mp M hIa; have hIa:=hI_; clear hI_
 have M:Mm w0 ((B14,[.int .i64 3])::(B9,[.int .i64 0])::(B2,[.int .u8 7,.int .u8 0,.int .u8 0,.int .u8 0,.int .u8 0,.int .u8 0,.int .u8 0,.int .u8 0])::(ba7++((obs p16)++([]:List (Nat × List Value))))) w16:=M'.perm (pullY ([(B14,[.int .i64 3]),(B9,[.int .i64 0]),(B2,[.int .u8 7,.int .u8 0,.int .u8 0,.int .u8 0,.int .u8 0,.int .u8 0,.int .u8 0,.int .u8 0])]:List (Nat × List Value)) ba7 (obs p16) ([]:List (Nat × List Value)))
 clear M'; refine xeL ?_; have key:=ints20_any ([]) (by decide) p16 none c16 0 w16 (NewI.src L_16) (fun j hj=>absurd hj (xnZ j)); refine xcL key ?_; clear key; rintro e w17 ⟨rfl,l_⟩; replace M:=M.call l_; replace hIa:=hK.bel hIa l_; replace L_16:=NewI.below L_16 l_; clear l_; refine xeL ?_; refine xpL (.bool true) ?_; refine xT ?_
 replace M:Mm w0 ((B14,[.int .i64 3])::(B9,[.int .i64 0])::(B2,[.int .u8 7,.int .u8 0,.int .u8 0,.int .u8 0,.int .u8 0,.int .u8 0,.int .u8 0,.int .u8 0])::(ba7++([]:List (Nat × List Value)))) w17:=M.sub _ (List.cons_sublist_cons.2 (List.cons_sublist_cons.2 (List.cons_sublist_cons.2 ((List.Sublist.refl _).append (List.sublist_append_right _ _)))))
 clear L_16; go_upto_region 13 with fail; refine wp_region_list ?_; refine xpL (.pointer (some ⟨Ra,0,none⟩)) ?_; have Mp:=M.perm (pull0 ([(B14,[.int .i64 3]),(B9,[.int .i64 0]),(B2,[.int .u8 7,.int .u8 0,.int .u8 0,.int .u8 0,.int .u8 0,.int .u8 0,.int .u8 0,.int .u8 0])]:List (Nat × List Value)) ba7 ([]:List (Nat × List Value)))
 have key:=hK.due w0 _ _ (tz pz1) ba7 _ 210 tz_w1 (by unfold i64; decide) hIa Mp
 rw [tz_d210.1] at key
 rw [tz_d210.2] at key
 refine xcL key ?_; clear key; rintro e w18 ⟨p18,c18,ba8,rfl,L_18,hI_,M',o1⟩; clear o1 Mp M hIa; have hIa:=hI_; clear hI_
 have M:Mm w0 ((B14,[.int .i64 3])::(B9,[.int .i64 0])::(B2,[.int .u8 7,.int .u8 0,.int .u8 0,.int .u8 0,.int .u8 0,.int .u8 0,.int .u8 0,.int .u8 0])::(ba8++((obs p18)++([]:List (Nat × List Value))))) w18:=M'.perm (pullY ([(B14,[.int .i64 3]),(B9,[.int .i64 0]),(B2,[.int .u8 7,.int .u8 0,.int .u8 0,.int .u8 0,.int .u8 0,.int .u8 0,.int .u8 0,.int .u8 0])]:List (Nat × List Value)) ba8 (obs p18) ([]:List (Nat × List Value)))
 clear M'; refine xeL ?_; have hlb:=(Below.refl w18.heap.size w18).alloc (xnR _) (.cells #[.int .i64 3] 3); refine actL (w':=w18.alloc (.cells #[.int .i64 3] 3)) (.slice (some ⟨w18.heap.size,0,none⟩) 1 1) rfl (by kernel_rfl) ?_; simp only [aP,lI,l0,lS]; replace hIa:=hK.bel hIa hlb; replace L_18:=NewI.below L_18 hlb; replace M:=M.box #[.int .i64 3] 3 w18.heap.size rfl; clear hlb
 generalize w18.alloc (.cells #[.int .i64 3] 3)=w19 at M hIa L_18 ⊢; generalize w18.heap.size=B19 at M ⊢
 replace M:Mm w0 ((B19,[.int .i64 3])::(B14,[.int .i64 3])::(B9,[.int .i64 0])::(B2,[.int .u8 7,.int .u8 0,.int .u8 0,.int .u8 0,.int .u8 0,.int .u8 0,.int .u8 0,.int .u8 0])::(ba8++((obs p18)++([]:List (Nat × List Value))))) w19:=M
 have key:=ints20_any ([3]) (by decide) p18 (some ⟨B19,0,none⟩) c18 1 w19 (NewI.src L_18) (M.srcI mS [3] rfl); refine xcL key ?_; clear key; rintro e w20 ⟨rfl,l_⟩; replace M:=M.call l_; replace hIa:=hK.bel hIa l_; replace L_18:=NewI.below L_18 l_; clear l_; refine xeL ?_; refine xpL (.bool true) ?_; refine xT ?_
 replace M:Mm w0 ((B19,[.int .i64 3])::(B14,[.int .i64 3])::(B9,[.int .i64 0])::(B2,[.int .u8 7,.int .u8 0,.int .u8 0,.int .u8 0,.int .u8 0,.int .u8 0,.int .u8 0,.int .u8 0])::(ba8++([]:List (Nat × List Value)))) w20:=M.sub _ (List.cons_sublist_cons.2 (List.cons_sublist_cons.2 (List.cons_sublist_cons.2 (List.cons_sublist_cons.2 ((List.Sublist.refl _).append (List.sublist_append_right _ _))))))
 clear L_18; go_upto_region 14 with fail; refine wp_region_list ?_; refine xpL (.pointer (some ⟨Ra,0,none⟩)) ?_; refine xpL (.agg #[.int .u8 8,.int .u8 0,.int .u8 0,.int .u8 0,.int .u8 0,.int .u8 0,.int .u8 0,.int .u8 0]) ?_
 have Mp:=M.perm (pull0 ([(B19,[.int .i64 3]),(B14,[.int .i64 3]),(B9,[.int .i64 0]),(B2,[.int .u8 7,.int .u8 0,.int .u8 0,.int .u8 0,.int .u8 0,.int .u8 0,.int .u8 0,.int .u8 0])]:List (Nat × List Value)) ba8 ([]:List (Nat × List Value))); have key:=hK.ans w0 _ _ (tz pz2) ba8 _ 3 (tk1 8) tz_w2 (by unfold i64; decide) (tk1_in (by decide)) hIa Mp
 rw [tz_a8] at key
 rw [tz_sa8] at key
 rw [tk1_8] at key
 refine xcL key ?_; clear key; rintro e w21 ⟨ba9,rfl,hI_,M',o1⟩; clear o1 Mp M hIa; have hIa:=hI_; clear hI_
 have M:Mm w0 ((B19,[.int .i64 3])::(B14,[.int .i64 3])::(B9,[.int .i64 0])::(B2,[.int .u8 7,.int .u8 0,.int .u8 0,.int .u8 0,.int .u8 0,.int .u8 0,.int .u8 0,.int .u8 0])::(ba9++([]:List (Nat × List Value)))) w21:=M'.perm (pull0 ([(B19,[.int .i64 3]),(B14,[.int .i64 3]),(B9,[.int .i64 0]),(B2,[.int .u8 7,.int .u8 0,.int .u8 0,.int .u8 0,.int .u8 0,.int .u8 0,.int .u8 0,.int .u8 0])]:List (Nat × List Value)) ba9 ([]:List (Nat × List Value))).symm
 clear M'; refine xeL ?_; refine xpL (.bool false) ?_; refine xT ?_; go_upto_region 15 with fail; refine wp_region_list ?_; refine xpL (.pointer (some ⟨Ra,0,none⟩)) ?_
 refine xaL (.agg #[.int .u8 7,.int .u8 0,.int .u8 0,.int .u8 0,.int .u8 0,.int .u8 0,.int .u8 0,.int .u8 0]) (loadN 30 _ ⟨B2,0,none⟩ [.int .u8 7,.int .u8 0,.int .u8 0,.int .u8 0,.int .u8 0,.int .u8 0,.int .u8 0,.int .u8 0] rfl rfl (fun _=>by kernel_rfl) (fun _=>by kernel_rfl) (M.rangeAt (mI 3 rfl))) ?_
 have Mp:=M.perm (pull0 ([(B19,[.int .i64 3]),(B14,[.int .i64 3]),(B9,[.int .i64 0]),(B2,[.int .u8 7,.int .u8 0,.int .u8 0,.int .u8 0,.int .u8 0,.int .u8 0,.int .u8 0,.int .u8 0])]:List (Nat × List Value)) ba9 ([]:List (Nat × List Value))); have key:=hK.ans w0 _ _ (tz pz2) ba9 _ 3 (tk1 7) tz_w2 (by unfold i64; decide) (tk1_in (by decide)) hIa Mp
 rw [tz_a7] at key
 rw [tz_sa7] at key
 rw [tk1_7] at key
 refine xcL key ?_; clear key; rintro e w22 ⟨ba10,rfl,hI_,M',o1⟩; clear o1 Mp M hIa; have hIa:=hI_; clear hI_
 have M:Mm w0 ((B19,[.int .i64 3])::(B14,[.int .i64 3])::(B9,[.int .i64 0])::(B2,[.int .u8 7,.int .u8 0,.int .u8 0,.int .u8 0,.int .u8 0,.int .u8 0,.int .u8 0,.int .u8 0])::(ba10++([]:List (Nat × List Value)))) w22:=M'.perm (pull0 ([(B19,[.int .i64 3]),(B14,[.int .i64 3]),(B9,[.int .i64 0]),(B2,[.int .u8 7,.int .u8 0,.int .u8 0,.int .u8 0,.int .u8 0,.int .u8 0,.int .u8 0,.int .u8 0])]:List (Nat × List Value)) ba10 ([]:List (Nat × List Value))).symm
 clear M'; refine xeL ?_; refine xpL (.bool true) ?_; refine xT ?_; go_upto_region 16 with fail; refine wp_region_list ?_; refine xpL (.pointer (some ⟨Ra,0,none⟩)) ?_
 have Mp:=M.perm (pull0 ([(B19,[.int .i64 3]),(B14,[.int .i64 3]),(B9,[.int .i64 0]),(B2,[.int .u8 7,.int .u8 0,.int .u8 0,.int .u8 0,.int .u8 0,.int .u8 0,.int .u8 0,.int .u8 0])]:List (Nat × List Value)) ba10 ([]:List (Nat × List Value))); have key:=hK.sta w0 _ _ (tz pz3) ba10 _ 3 tz_w3 (by unfold i64; decide) hIa Mp; clear Mp
 rw [tz_st] at key
 refine xcL key ?_; clear key; rintro e w23 ⟨rfl,l_⟩; replace M:=M.call l_; replace hIa:=hK.bel hIa l_; clear l_; refine xeL ?_; refine xpL (.int .i64 ((2:Nat):Int)) ?_; refine xT ?_; go_upto_region 17 with fail; refine wp_region_list ?_; refine xpL (.pointer (some ⟨Ra,0,none⟩)) ?_
 refine xaL (.agg #[.int .u8 7,.int .u8 0,.int .u8 0,.int .u8 0,.int .u8 0,.int .u8 0,.int .u8 0,.int .u8 0]) (loadN 30 _ ⟨B2,0,none⟩ [.int .u8 7,.int .u8 0,.int .u8 0,.int .u8 0,.int .u8 0,.int .u8 0,.int .u8 0,.int .u8 0] rfl rfl (fun _=>by kernel_rfl) (fun _=>by kernel_rfl) (M.rangeAt (mI 3 rfl))) ?_
 have Mp:=M.perm (pull0 ([(B19,[.int .i64 3]),(B14,[.int .i64 3]),(B9,[.int .i64 0]),(B2,[.int .u8 7,.int .u8 0,.int .u8 0,.int .u8 0,.int .u8 0,.int .u8 0,.int .u8 0,.int .u8 0])]:List (Nat × List Value)) ba10 ([]:List (Nat × List Value))); have key:=hK.ans w0 _ _ (tz pz3) ba10 _ 3 (tk1 7) tz_w3 (by unfold i64; decide) (tk1_in (by decide)) hIa Mp
 rw [tz_a7b] at key
 rw [tz_sa7b] at key
 rw [tk1_7] at key
 refine xcL key ?_; clear key; rintro e w24 ⟨ba11,rfl,hI_,M',o1⟩; clear o1 Mp M hIa; have hIa:=hI_; clear hI_
 have M:Mm w0 ((B19,[.int .i64 3])::(B14,[.int .i64 3])::(B9,[.int .i64 0])::(B2,[.int .u8 7,.int .u8 0,.int .u8 0,.int .u8 0,.int .u8 0,.int .u8 0,.int .u8 0,.int .u8 0])::(ba11++([]:List (Nat × List Value)))) w24:=M'.perm (pull0 ([(B19,[.int .i64 3]),(B14,[.int .i64 3]),(B9,[.int .i64 0]),(B2,[.int .u8 7,.int .u8 0,.int .u8 0,.int .u8 0,.int .u8 0,.int .u8 0,.int .u8 0,.int .u8 0])]:List (Nat × List Value)) ba11 ([]:List (Nat × List Value))).symm
 clear M'; refine xeL ?_; refine xpL (.bool false) ?_; refine xT ?_; go_upto_region 18 with fail; refine wp_region_list ?_; refine xpL (.pointer (some ⟨Ra,0,none⟩)) ?_
 have Mp:=M.perm (pull0 ([(B19,[.int .i64 3]),(B14,[.int .i64 3]),(B9,[.int .i64 0]),(B2,[.int .u8 7,.int .u8 0,.int .u8 0,.int .u8 0,.int .u8 0,.int .u8 0,.int .u8 0,.int .u8 0])]:List (Nat × List Value)) ba11 ([]:List (Nat × List Value))); have key:=hK.sam w0 _ _ (tz pz3) ba11 _ 3 180 tz_w3 (by unfold i64; decide) (by unfold i64; decide) hIa Mp
 rw [tz_sm] at key
 refine xcL key ?_; clear key; rintro e w25 ⟨ba12,rfl,hI_,M',o1⟩; clear o1 Mp M hIa; have hIa:=hI_; clear hI_
 have M:Mm w0 ((B19,[.int .i64 3])::(B14,[.int .i64 3])::(B9,[.int .i64 0])::(B2,[.int .u8 7,.int .u8 0,.int .u8 0,.int .u8 0,.int .u8 0,.int .u8 0,.int .u8 0,.int .u8 0])::(ba12++([]:List (Nat × List Value)))) w25:=M'.perm (pull0 ([(B19,[.int .i64 3]),(B14,[.int .i64 3]),(B9,[.int .i64 0]),(B2,[.int .u8 7,.int .u8 0,.int .u8 0,.int .u8 0,.int .u8 0,.int .u8 0,.int .u8 0,.int .u8 0])]:List (Nat × List Value)) ba12 ([]:List (Nat × List Value))).symm
 clear M'; refine xeL ?_; refine xT ?_; go_upto_region 19 with fail; refine wp_region_list ?_; refine xpL (.pointer (some ⟨Ra,0,none⟩)) ?_
 have Mp:=M.perm (pull0 ([(B19,[.int .i64 3]),(B14,[.int .i64 3]),(B9,[.int .i64 0]),(B2,[.int .u8 7,.int .u8 0,.int .u8 0,.int .u8 0,.int .u8 0,.int .u8 0,.int .u8 0,.int .u8 0])]:List (Nat × List Value)) ba12 ([]:List (Nat × List Value))); have key:=hK.rtt w0 _ _ (tz pz4) ba12 _ 3 tz_w4 (by unfold i64; decide) hIa Mp; clear Mp
 rw [tz_rt] at key
 refine xcL key ?_; clear key; rintro e w26 ⟨rfl,l_⟩; replace M:=M.call l_; replace hIa:=hK.bel hIa l_; clear l_; refine xeL ?_; refine xpL (.int .i64 ((110:Nat):Int)) ?_; refine xT ?_; go_upto_region 20 with fail; refine wp_region_list ?_; refine xpL (.pointer (some ⟨Ra,0,none⟩)) ?_
 have Mp:=M.perm (pull0 ([(B19,[.int .i64 3]),(B14,[.int .i64 3]),(B9,[.int .i64 0]),(B2,[.int .u8 7,.int .u8 0,.int .u8 0,.int .u8 0,.int .u8 0,.int .u8 0,.int .u8 0,.int .u8 0])]:List (Nat × List Value)) ba12 ([]:List (Nat × List Value))); have key:=hK.rem w0 _ _ (tz pz4) ba12 _ 3 tz_w4 (by unfold i64; decide) hIa Mp
 rw [tz_r1] at key
 rw [tz_sr1] at key
 refine xcL key ?_; clear key; rintro e w27 ⟨ba13,rfl,hI_,M',o1⟩; clear o1 Mp M hIa; have hIa:=hI_; clear hI_
 have M:Mm w0 ((B19,[.int .i64 3])::(B14,[.int .i64 3])::(B9,[.int .i64 0])::(B2,[.int .u8 7,.int .u8 0,.int .u8 0,.int .u8 0,.int .u8 0,.int .u8 0,.int .u8 0,.int .u8 0])::(ba13++([]:List (Nat × List Value)))) w27:=M'.perm (pull0 ([(B19,[.int .i64 3]),(B14,[.int .i64 3]),(B9,[.int .i64 0]),(B2,[.int .u8 7,.int .u8 0,.int .u8 0,.int .u8 0,.int .u8 0,.int .u8 0,.int .u8 0,.int .u8 0])]:List (Nat × List Value)) ba13 ([]:List (Nat × List Value))).symm
 clear M'; refine xeL ?_; refine xpL (.int .i64 ((0:Nat):Int)) ?_; refine xT ?_; go_upto_region 21 with fail; refine wp_region_list ?_; refine xpL (.pointer (some ⟨Ra,0,none⟩)) ?_
 have Mp:=M.perm (pull0 ([(B19,[.int .i64 3]),(B14,[.int .i64 3]),(B9,[.int .i64 0]),(B2,[.int .u8 7,.int .u8 0,.int .u8 0,.int .u8 0,.int .u8 0,.int .u8 0,.int .u8 0,.int .u8 0])]:List (Nat × List Value)) ba13 ([]:List (Nat × List Value))); have key:=hK.rem w0 _ _ (tz pz5) ba13 _ 3 tz_w5 (by unfold i64; decide) hIa Mp
 rw [tz_r2] at key
 rw [tz_sr2] at key
 refine xcL key ?_; clear key; rintro e w28 ⟨ba14,rfl,hI_,M',o1⟩; clear o1 Mp M hIa; have hIa:=hI_; clear hI_
 have M:Mm w0 ((B19,[.int .i64 3])::(B14,[.int .i64 3])::(B9,[.int .i64 0])::(B2,[.int .u8 7,.int .u8 0,.int .u8 0,.int .u8 0,.int .u8 0,.int .u8 0,.int .u8 0,.int .u8 0])::(ba14++([]:List (Nat × List Value)))) w28:=M'.perm (pull0 ([(B19,[.int .i64 3]),(B14,[.int .i64 3]),(B9,[.int .i64 0]),(B2,[.int .u8 7,.int .u8 0,.int .u8 0,.int .u8 0,.int .u8 0,.int .u8 0,.int .u8 0,.int .u8 0])]:List (Nat × List Value)) ba14 ([]:List (Nat × List Value))).symm
 clear M'; refine xeL ?_; refine xpL (.int .i64 ((200:Nat):Int)) ?_; refine xT ?_; go_upto_region 22 with fail; refine wp_region_list ?_; refine xpL (.pointer (some ⟨Ra,0,none⟩)) ?_
 refine xaL (.agg #[.int .u8 7,.int .u8 0,.int .u8 0,.int .u8 0,.int .u8 0,.int .u8 0,.int .u8 0,.int .u8 0]) (loadN 30 _ ⟨B2,0,none⟩ [.int .u8 7,.int .u8 0,.int .u8 0,.int .u8 0,.int .u8 0,.int .u8 0,.int .u8 0,.int .u8 0] rfl rfl (fun _=>by kernel_rfl) (fun _=>by kernel_rfl) (M.rangeAt (mI 3 rfl))) ?_
 have Mp:=M.perm (pull0 ([(B19,[.int .i64 3]),(B14,[.int .i64 3]),(B9,[.int .i64 0]),(B2,[.int .u8 7,.int .u8 0,.int .u8 0,.int .u8 0,.int .u8 0,.int .u8 0,.int .u8 0,.int .u8 0])]:List (Nat × List Value)) ba14 ([]:List (Nat × List Value))); have key:=hK.add w0 _ _ (tz pz5) ba14 _ 3 (tk1 7) 0 tz_w5 (by unfold i64; decide) (tk1_in (by decide)) (by unfold i64; decide) hIa Mp
 rw [tz_b4] at key
 rw [tz_s4] at key
 rw [tk1_7] at key
 refine xcL key ?_; clear key; rintro e w29 ⟨ba15,rfl,hI_,M',o1⟩; clear o1 Mp M hIa; have hIa:=hI_; clear hI_
 have M:Mm w0 ((B19,[.int .i64 3])::(B14,[.int .i64 3])::(B9,[.int .i64 0])::(B2,[.int .u8 7,.int .u8 0,.int .u8 0,.int .u8 0,.int .u8 0,.int .u8 0,.int .u8 0,.int .u8 0])::(ba15++([]:List (Nat × List Value)))) w29:=M'.perm (pull0 ([(B19,[.int .i64 3]),(B14,[.int .i64 3]),(B9,[.int .i64 0]),(B2,[.int .u8 7,.int .u8 0,.int .u8 0,.int .u8 0,.int .u8 0,.int .u8 0,.int .u8 0,.int .u8 0])]:List (Nat × List Value)) ba15 ([]:List (Nat × List Value))).symm
 clear M'; refine xeL ?_; refine xpL (.int .i64 ((201:Nat):Int)) ?_; refine xT ?_; go_upto_region 23 with fail; refine wp_region_list ?_; refine xpL (.int .i64 ((0:Nat):Int)) ?_; refine xaL (.bool true) (eqlI .i64 _ _ _ _ _ _ rfl rfl rfl true rfl _) ?_; refine xpL (.bool true) ?_; refine xpL (.int .i64 ((201:Nat):Int)) ?_
 refine xaL (.bool true) (eqlI .i64 _ _ _ _ _ _ rfl rfl rfl true rfl _) ?_; refine xpL (.bool true) ?_; refine xpL (.bool true) ?_; refine xpL (.int .i64 ((1:Nat):Int)) ?_; refine xaL (.bool true) (eqlI .i64 _ _ _ _ _ _ rfl rfl rfl true rfl _) ?_; refine xpL (.bool true) ?_; refine xpL (.bool true) ?_; refine xpL (.int .i64 ((0:Nat):Int)) ?_
 refine xaL (.bool true) (eqlI .i64 _ _ _ _ _ _ rfl rfl rfl true rfl _) ?_; refine xpL (.bool true) ?_; refine xpL (.bool true) ?_; refine xpL (.bool true) ?_; refine xpL (.bool true) ?_; refine xpL (.bool true) ?_; refine xpL (.bool true) ?_; refine xpL (.bool true) ?_; refine xpL (.bool true) ?_; refine xpL (.bool true) ?_; refine xpL (.bool true) ?_; refine xpL (.bool true) ?_
 refine xpL (.bool true) ?_; refine xpL (.bool true) ?_; refine xpL (.bool true) ?_; refine xpL (.bool true) ?_; refine xpL (.bool true) ?_; refine xpL (.bool true) ?_; refine xpL (.bool false) ?_; refine xpL (.bool true) ?_; refine xpL (.bool true) ?_; refine xpL (.bool true) ?_; refine xpL (.bool true) ?_; refine xpL (.bool true) ?_; refine xpL (.bool true) ?_
 refine xpL (.int .i64 ((2:Nat):Int)) ?_; refine xaL (.bool true) (eqlI .i64 _ _ _ _ _ _ rfl rfl rfl true rfl _) ?_; refine xpL (.bool true) ?_; refine xpL (.bool true) ?_; refine xpL (.bool false) ?_; refine xpL (.bool true) ?_; refine xpL (.bool true) ?_; refine xpL (.bool true) ?_; refine xpL (.int .i64 ((110:Nat):Int)) ?_
 refine xaL (.bool true) (eqlI .i64 _ _ _ _ _ _ rfl rfl rfl true rfl _) ?_; refine xpL (.bool true) ?_; refine xpL (.bool true) ?_; refine xpL (.int .i64 ((0:Nat):Int)) ?_; refine xaL (.bool true) (eqlI .i64 _ _ _ _ _ _ rfl rfl rfl true rfl _) ?_; refine xpL (.bool true) ?_; refine xpL (.bool true) ?_; refine xpL (.int .i64 ((200:Nat):Int)) ?_
 refine xaL (.bool true) (eqlI .i64 _ _ _ _ _ _ rfl rfl rfl true rfl _) ?_; refine xpL (.bool true) ?_; refine xpL (.bool true) ?_; refine xpL (.int .i64 ((201:Nat):Int)) ?_; refine xaL (.bool true) (eqlI .i64 _ _ _ _ _ _ rfl rfl rfl true rfl _) ?_; refine xpL (.bool true) ?_; refine xpL (.bool true) ?_; refine xT ?_; have hbel:=M.below; clear M hIa; go_wp2; go_ret
 exact ⟨rfl,hbel⟩
def kdn (c:Int) (n:Nat):Nat:=(if c<0 then -(c+1) else c).toNat%n
theorem kdn_lt (c:Int) (n:Nat) (h:0<n):kdn c n<n:=Nat.mod_lt _ h
theorem kind20_any (c:Int) (n:Nat) (hn:0<n) (h1:i64 c) (w:World) :
 Calls Try.prog 9 #[.int .i64 c,.int .i64 (n:Int)] w fun e w'=>e=.returned (.int .i64 (kdn c n:Int))∧Below w.heap.size w w':=by
 unfold i64 at h1
 have M:=Mm.init w
 go_enter Try.func9,Try.ntmps9
 go_upto_region 0 with fail; refine wp_region_list ?_; refine xpL (.int .i64 0) ?_; refine xT ?_
 by_cases hc:c<0
 · go_upto_region 1 with fail
   refine wp_region_list ?_; refine xpL (.int .i64 c) ?_; refine xaL (.bool true) (lssI .i64 _ _ _ _ _ _ rfl rfl rfl true (decide_eq_true hc) _) ?_; refine xT ?_; go_upto_region 2 with fail; refine wp_region_list ?_; refine xpL (.int .i64 c) ?_; refine xaL (.int .i64 (c+1)) (addI .i64 _ _ _ _ _ _ _ rfl rfl rfl (by rw [xw6]; omega) _) ?_
   refine xaL (.int .i64 (-(c+1))) (negI .i64 _ _ _ _ rfl rfl (by rw [xw6]; omega) _) ?_; refine xpL (.int .i64 (-(c+1))) ?_; refine xT ?_
   have hrem:(-(c+1)).tmod (n:Int)=((kdn c n:Nat):Int):=by
    unfold kdn
    rw [if_pos hc]
    obtain ⟨m,hm⟩:∃ m:Nat,-(c+1)=(m:Int):=⟨(-(c+1)).toNat,by omega⟩
    rw [hm,Int.toNat_natCast]
    rfl
   go_upto_region 3 with fail; refine wp_region_list ?_; refine xpL (.int .i64 (-(c+1))) ?_; refine xpL (.int .i64 (n:Int)) ?_; refine xaL (.int .i64 ((kdn c n:Nat):Int)) (remI .i64 _ _ _ _ _ _ _ rfl rfl rfl (by omega) hrem _) ?_; refine xpL (.int .i64 ((kdn c n:Nat):Int)) ?_; refine xT ?_; have hB:=M.below; clear M; go_wp2; go_ret
   exact ⟨rfl,hB⟩
 · go_upto_region 1 with fail
   refine wp_region_list ?_; refine xpL (.int .i64 c) ?_; refine xaL (.bool false) (lssI .i64 _ _ _ _ _ _ rfl rfl rfl false (decide_eq_false hc) _) ?_; refine xT ?_
   have hrem:(c).tmod (n:Int)=((kdn c n:Nat):Int):=by
    unfold kdn
    rw [if_neg hc]
    obtain ⟨m,hm⟩:∃ m:Nat,c=(m:Int):=⟨(c).toNat,by omega⟩
    rw [hm,Int.toNat_natCast]
    rfl
   go_upto_region 3 with fail; refine wp_region_list ?_; refine xpL (.int .i64 c) ?_; refine xpL (.int .i64 (n:Int)) ?_; refine xaL (.int .i64 ((kdn c n:Nat):Int)) (remI .i64 _ _ _ _ _ _ _ rfl rfl rfl (by omega) hrem _) ?_; refine xpL (.int .i64 ((kdn c n:Nat):Int)) ?_; refine xT ?_; have hB:=M.below; clear M; go_wp2; go_ret
   exact ⟨rfl,hB⟩
def tq (r:Nat):Ptb:=pput pnew 7 ⟨2,r,0,0,fun _=>0⟩
theorem tq_w {r:Nat} (h:r≤1099511627776):PtbW (tq r):=pput_new pnew_w (by decide) rfl (by decide +kernel) ⟨show 2≤4 by decide,h,Nat.zero_le _,Nat.zero_le _,fun _ _=>by show (0:Int)≤0∧(0:Int)<256; decide⟩ (.inr rfl)
theorem tq_b:pmay pnew 7=0:=by decide +kernel
theorem tq_s:pbeg pnew 7=tq 100:=by
 unfold pbeg
 rw [if_pos tq_b]
 rfl
theorem tq_r (r:Nat):prt (tq r) 7=r:=rfl
theorem tq_m (r n:Nat):psm (tq r) 7 (n:Int)=tq (psR r (n:Int)):=(if_pos ⟨rfl,Int.natCast_nonneg n⟩).trans (pput_put pnew 7 _ _)
theorem psR_nat {r n:Nat} (h:n≤1000000):psR r (n:Int)=max 1 ((7*r+n)/8):=by
 unfold psR
 have:(min (n:Int) 1099511627776).toNat=n:=by omega
 rw [this]
def eit:Nat→Nat
 | 0=>1000000
 | k+1=>(7*eit k+7)/8
def uit:Nat→Nat
 | 0=>100
 | k+1=>7*uit k/8
theorem eit_end:eit 200≤8:=by decide +kernel
theorem uit_end:uit 200=0:=by decide +kernel
theorem est_lo {n r E:Nat} (h:n≤r+E):n≤max 1 ((7*r+n)/8)+(7*E+7)/8:=by omega
theorem est_hi {n r D:Nat} (h:r≤max 1 n+D):max 1 ((7*r+n)/8)≤max 1 n+7*D/8:=by omega
theorem law_PathsEstimates {I:TabI} (hK:TabOK I) (z:Int) (hz:i64 z) (w0:World) :
 Calls Try.prog 6 #[.int .i64 z] w0 fun e w'=>e=.returned (.bool true)∧Below w0.heap.size w0 w':=by
 have M:=Mm.init w0
 go_enter Try.func6,Try.ntmps6
 go_upto_region 0 with fail; refine wp_region_list ?_; refine xpL (.bool false) ?_; refine xT ?_; go_upto_region 1 with fail; refine wp_region_list ?_; have key:=shown20_any hK w0; refine xcL key ?_; clear key; rintro e w1 ⟨rfl,l_⟩; replace M:=M.call l_; clear l_; refine xeL ?_; refine xpL (.bool true) ?_; refine xT ?_; go_upto_region 2 with fail; refine wp_region_list ?_
 have key:=hK.new w0 _ _ M; refine xcL key ?_; clear key; rintro e w2 ⟨v_,ba0,rfl,hIa,M',l_⟩
 obtain ⟨Ra,rfl⟩:=hK.ptr _ _ _ _ hIa
 clear M; have M:=M'.perm (pull0 ([]:List (Nat × List Value)) ba0 ([]:List (Nat × List Value))).symm; clear M'; clear l_
 replace M:Mm w0 ((ba0++([]:List (Nat × List Value)))) w2:=M
 refine xeL ?_; refine xpL (.pointer (some ⟨Ra,0,none⟩)) ?_; refine xT ?_; go_upto_region 3 with fail; refine wp_region_list ?_; refine xpL (.bool true) ?_; refine xpL (.bool false) ?_; refine xpL (.bool false) ?_; refine xpL (.pointer (some ⟨Ra,0,none⟩)) ?_; refine xpL (.bool false) ?_; refine xpL (.bool false) ?_; refine xpL (.bool false) ?_; refine xpL (.pointer (some ⟨Ra,0,none⟩)) ?_
 have Mp:=M.perm (pull0 ([]:List (Nat × List Value)) ba0 ([]:List (Nat × List Value))); have key:=hK.beg w0 _ _ pnew ba0 _ 7 pnew_w (by unfold i64; decide) hIa Mp
 rw [tq_b] at key
 rw [tq_s] at key
 refine xcL key ?_; clear key; rintro e w3 ⟨ba1,rfl,hI_,M',o1⟩; clear o1 Mp M hIa; have hIa:=hI_; clear hI_
 have M:Mm w0 ((ba1++([]:List (Nat × List Value)))) w3:=M'.perm (pull0 ([]:List (Nat × List Value)) ba1 ([]:List (Nat × List Value))).symm
 clear M'; refine xeL ?_; refine xaL (.bool false) (neqI .i64 _ _ _ _ _ _ rfl rfl rfl false rfl _) ?_; refine xpL (.bool false) ?_; refine xT ?_; go_upto_region 5 with fail; refine wp_region_list ?_; refine xpL (.int .i64 z) ?_; have key:=kind20_any z 1000001 (by decide) hz w3; refine xcL key ?_; clear key; rintro e w4 ⟨rfl,l_⟩; replace M:=M.call l_; replace hIa:=hK.bel hIa l_; clear l_
 refine xeL ?_; have hkd:=kdn_lt z 1000001 (by decide); generalize kdn z 1000001=n at hkd ⊢; refine xpL (.int .i64 ((n:Nat):Int)) ?_; refine xT ?_; go_upto_region 6 with fail; refine wp_region_list ?_; refine xpL (.pointer (some ⟨Ra,0,none⟩)) ?_; have Mp:=M.perm (pull0 ([]:List (Nat × List Value)) ba1 ([]:List (Nat × List Value)))
 have key:=hK.rtt w0 _ _ (tq 100) ba1 _ 7 (tq_w (by decide)) (by unfold i64; decide) hIa Mp; clear Mp
 rw [tq_r 100] at key
 refine xcL key ?_; clear key; rintro e w5 ⟨rfl,l_⟩; replace M:=M.call l_; replace hIa:=hK.bel hIa l_; clear l_; refine xeL ?_; refine xpL (.int .i64 ((100:Nat):Int)) ?_; refine xT ?_; go_upto_region 7 with fail; refine wp_region_list ?_; refine xpL (.int .i64 0) ?_; refine xT ?_
 have HI:=show Hid _ from (show I w5 (.pointer (some ⟨Ra,0,none⟩)) (tq 100) ba1∧Mm w0 (ba1++([]:List (Nat × List Value))) w5 from ⟨hIa,M⟩); clear M hIa; go_wp2
 go_loopw [6,7] (fun l_ i w'=>∃ (q r:Nat) (ga:List (Nat × List Value)),q≤200∧l_=.int .i64 (r:Int)∧i=.int .i64 (q:Int)∧r≤1000000∧n≤r+eit q∧r≤max 1 n+uit q∧I w' (.pointer (some ⟨Ra,0,none⟩)) (tq r) ga∧Mm w0 (ga++([]:List (Nat × List Value))) w') (fun _ i _=>200-(intOf i).toNat)
 case atStart=>exact ⟨0,100,_,by omega,rfl,rfl,by decide,by show n≤100+1000000; omega,by show 100≤max 1 n+100; omega,HI.out⟩
 case round =>
  clear HI
  obtain ⟨q,r,ga,hq,rfl,rfl,hr,hlo,hhi,hIa,M⟩:=hrel
  obtain ⟨R,hRe⟩:∃ R,R=psR r (n:Int):=⟨_,rfl⟩
  have hRn:R=max 1 ((7*r+n)/8):=by rw [hRe]; exact psR_nat (by omega)
  have hlo2:=est_lo hlo; have hhi2:=est_hi hhi
  rw [← hRn] at hlo2 hhi2
  by_cases hq2:q<200
  · go_upto_region 8 with fail
    refine wp_region_list ?_; refine xpL (.int .i64 (q:Int)) ?_; refine xaL (.bool true) (lssI .i64 _ _ _ _ _ _ rfl rfl rfl true (decide_eq_true (by omega)) _) ?_; refine xT ?_; go_upto_region 10 with fail; refine wp_region_list ?_; refine xpL (.pointer (some ⟨Ra,0,none⟩)) ?_; refine xpL (.int .i64 ((n:Nat):Int)) ?_
    have Mp:=M.perm (pull0 ([]:List (Nat × List Value)) ga ([]:List (Nat × List Value))); have key:=hK.sam w0 _ _ (tq r) ga _ 7 ((n:Nat):Int) (tq_w (by omega)) (by unfold i64; decide) (by unfold i64; omega) hIa Mp
    rw [tq_m r n] at key
    rw [← hRe] at key
    refine xcL key ?_; clear key; rintro e w6 ⟨ba1,rfl,hI_,M',o1⟩; clear o1 Mp M hIa; have hIa:=hI_; clear hI_
    have M:Mm w0 ((ba1++([]:List (Nat × List Value)))) w6:=M'.perm (pull0 ([]:List (Nat × List Value)) ba1 ([]:List (Nat × List Value))).symm
    clear M'; refine xeL ?_; refine xT ?_; go_upto_region 11 with fail; refine wp_region_list ?_; refine xpL (.pointer (some ⟨Ra,0,none⟩)) ?_; have Mp:=M.perm (pull0 ([]:List (Nat × List Value)) ba1 ([]:List (Nat × List Value))); have key:=hK.rtt w0 _ _ (tq R) ba1 _ 7 (tq_w (by omega)) (by unfold i64; decide) hIa Mp; clear Mp
    rw [tq_r R] at key
    refine xcL key ?_; clear key; rintro e w7 ⟨rfl,l_⟩; replace M:=M.call l_; replace hIa:=hK.bel hIa l_; clear l_; refine xeL ?_; refine xpL (.int .i64 ((R:Nat):Int)) ?_; refine xT ?_; go_upto_region 12 with fail; refine wp_region_list ?_; refine xpL (.int .i64 ((R:Nat):Int)) ?_; refine xpL (.int .i64 ((r:Nat):Int)) ?_; refine xpL (.int .i64 ((n:Nat):Int)) ?_
    refine readL (.int .i64 (min ((r:Nat):Int) ((n:Nat):Int))) rfl (minI .i64 .i64 _ _ _ _ _ _ _ rfl rfl rfl (by split <;> omega) _) ?_; simp only [aP,lI,l0,lS]; refine readL (.int .i64 (min ((r:Nat):Int) ((n:Nat):Int)-1)) rfl (subI .i64 _ _ _ _ _ _ _ rfl rfl rfl (by rw [xw6]; omega) _) ?_; simp only [aP,lI,l0,lS]
    refine xaL (.bool false) (lssI .i64 _ _ _ _ _ _ rfl rfl rfl false (decide_eq_false (by omega)) _) ?_; refine xpL (.bool false) ?_; refine xpL (.int .i64 ((R:Nat):Int)) ?_; refine xpL (.int .i64 ((r:Nat):Int)) ?_; refine xpL (.int .i64 ((n:Nat):Int)) ?_; refine readL (.int .i64 (max ((n:Nat):Int) 1)) rfl (maxI .i64 .i64 _ _ _ _ _ _ _ rfl rfl rfl (by split <;> omega) _) ?_
    simp only [aP,lI,l0,lS]; refine readL (.int .i64 (max ((r:Nat):Int) (max ((n:Nat):Int) 1))) rfl (maxI .i64 .i64 _ _ _ _ _ _ _ rfl rfl rfl (by split <;> omega) _) ?_; simp only [aP,lI,l0,lS]; refine xaL (.bool false) (gtrI .i64 _ _ _ _ _ _ rfl rfl rfl false (decide_eq_false (by omega)) _) ?_; refine xpL (.bool false) ?_; refine xT ?_; go_upto_region 14 with fail
    refine wp_region_list ?_; refine xpL (.int .i64 ((R:Nat):Int)) ?_; refine xpL (.int .i64 ((R:Nat):Int)) ?_; refine xT ?_; have HS:=show Hid _ from (show I w7 (.pointer (some ⟨Ra,0,none⟩)) (tq R) ba1∧Mm w0 (ba1++([]:List (Nat × List Value))) w7 from ⟨hIa,M⟩); clear M hIa; go_wp2
    go_roundw
    case rel=>exact ⟨q+1,R,_,by omega,rfl,by go_num,by omega,hlo2,hhi2,HS.out⟩
    case measure=>simp [intOf]; omega
  · go_upto_region 8 with fail
    refine wp_region_list ?_; refine xpL (.int .i64 (q:Int)) ?_; refine xaL (.bool false) (lssI .i64 _ _ _ _ _ _ rfl rfl rfl false (decide_eq_false (by omega)) _) ?_; refine xT ?_
    obtain rfl:q=200:=by omega
    have he:=eit_end
    rw [uit_end] at hhi
    go_upto_region 15 with fail; refine wp_region_list ?_; refine xpL (.int .i64 ((r:Nat):Int)) ?_; refine xpL (.int .i64 ((n:Nat):Int)) ?_; refine readL (.int .i64 (max 1 ((n:Nat):Int))) rfl (maxI .i64 .i64 _ _ _ _ _ _ _ rfl rfl rfl (by split <;> omega) _) ?_; simp only [aP,lI,l0,lS]; refine xaL (.bool true) (leqI .i64 _ _ _ _ _ _ rfl rfl rfl true (decide_eq_true (by omega)) _) ?_
    refine xpL (.bool true) ?_; refine xpL (.int .i64 ((r:Nat):Int)) ?_; refine xpL (.int .i64 ((n:Nat):Int)) ?_; refine readL (.int .i64 (((n:Nat):Int)-8)) rfl (subI .i64 _ _ _ _ _ _ _ rfl rfl rfl (by rw [xw6]; omega) _) ?_; simp only [aP,lI,l0,lS]; refine xaL (.bool true) (geqI .i64 _ _ _ _ _ _ rfl rfl rfl true (decide_eq_true (by omega)) _) ?_; refine xpL (.bool true) ?_
    refine xpL (.bool true) ?_; refine xT ?_; have hbel:=M.below; clear M hIa; go_wp2; go_ret
    exact ⟨rfl,hbel⟩
theorem Mm.addB {w0 w:World} {l:List (Nat × List Value)} (h:Mm w0 l w) {b:Nat} (lo:w0.heap.size≤b) (lt:b<w.heap.size) (hne:∀ p∈l,p.1≠b):Mm w0 ((b,[])::l) w :=
 ⟨fun p hp=>by
  rcases xc1 hp with rfl | hp
  · exact ⟨fun j hj=>absurd hj (xnZ j),lo,lt⟩
  · exact h.rows p hp,List.pairwise_cons.2 ⟨fun p hp=>(hne p hp).symm,h.apart⟩,h.below⟩
theorem cellP {w w':World} (l:Below w.heap.size w w') {p:Addr} {u:Value} (h:w.cell? p=some u):w'.cell? p=some u:=by
 rw [l.cell (World.block_lt_of_cell? w _ h)]
 exact h
theorem pix_nat9 {n:Nat} (h:n<256):pix ((n:Nat):Int)=n:=by
 unfold pix
 rw [if_pos (by omega),Int.toNat_natCast]
def prowP (t:Ptb) (s n:Nat):List Int:=((List.range n).filter fun k=>(t k).st == s).map fun k:Nat=>(k:Int)
theorem prowP_all (t:Ptb) (s:Nat):prowP t s 256=prow t s:=rfl
theorem prowP_yes {t:Ptb} {s n:Nat} (h:(t n).st=s):prowP t s (n+1)=prowP t s n++[((n:Nat):Int)]:=by
 unfold prowP
 rw [List.range_succ,List.filter_append,List.map_append,List.filter_cons_of_pos (by rw [h]; exact beq_self_eq_true s)]
 rfl
theorem prowP_no {t:Ptb} {s n:Nat} (h:(t n).st≠s):prowP t s (n+1)=prowP t s n:=by
 unfold prowP
 rw [List.range_succ,List.filter_append,List.map_append,List.filter_cons_of_neg (by simpa using h)]
 simp
theorem prowP_le (t:Ptb) (s n:Nat):(prowP t s n).length≤n:=by
 unfold prowP
 rw [List.length_map]
 exact xnT (List.length_filter_le _ _) (Nat.le_of_eq List.length_range)
theorem run_equalIn_rowD {P:Program} (w:World) (d:Nat) (t e:TypeId) (n:Nat) (k:IntKind) (ht:P.underlying t=some (.array n e)) (he:P.underlying e=some (.int k)) (hsz:∀ w,(sizeOf e).run P w=.ok 1 w) (f g:Nat→Int) :
 (Op.equalIn (d+2) t (.agg (row k n f).toArray) (.agg (row k n g).toArray)).run P w=.ok ((List.range' 0 n 1).all fun i=>f i == g i) w:=by
 rw [Op.equalIn]
 simp only [Sem.run_bind,run_underlying ht,Result.andThen_ok,hsz,Std.Legacy.Range.forIn_eq_forIn_range',Std.Legacy.Range.size,Nat.sub_zero,Nat.add_sub_cancel,Nat.div_one]
 have hl:∀ i∈List.range' 0 n 1,i<n:=fun i hi=>by simpa using (List.mem_range'_1.1 hi).2
 generalize List.range' 0 n 1=l at hl ⊢
 induction l with
 | nil=>simp
 | cons i l ih =>
   have hi:i<n:=hl i (by simp)
   have px:(part e (row k n f).toArray (i*1)).run P w=.ok (.int k (f i)) w:=by
    simp [part,isAgg,run_underlying he,row_get k n f i hi]
   have py:(part e (row k n g).toArray (i*1)).run P w=.ok (.int k (g i)) w:=by
    simp [part,isAgg,run_underlying he,row_get k n g i hi]
   have pe:(Op.equalIn (d+1) e (.int k (f i)) (.int k (g i))).run P w=.ok (f i == g i) w:=by
    rw [run_equalIn_int w d e k k _ _ he]
   rw [List.all_cons]
   cases hb:(f i == g i)
   · simp only [List.forIn_cons,Sem.run_bind,px,py,pe,hb,Result.andThen_ok,Bool.not_false,if_true,Sem.run_pure,Bool.false_and]
   · simp only [List.forIn_cons,Sem.run_bind,px,py,pe,hb,Result.andThen_ok,Bool.not_true,Bool.false_eq_true,if_false,Sem.run_pure,Bool.true_and]
     exact ih fun j hj=>hl j (by simp [hj])
theorem peq_range (f g:Nat→Int):((List.range' 0 8 1).all fun i=>f i == g i)=peq f g:=rfl
theorem neqT8 {o:Oper} {a:Act} (f g:Nat→Int) (x y:Operand) (ho:o.op=.binOp .neq 30 x y 30) (hx:a.eval x=tok8 f) (hy:a.eval y=tok8 g) (w:World) :
 (execOp a.eval o).run Try.prog w=.ok (.value (.bool (!peq f g))) w:=by
 have e1:(binOp .neq 30 (tok8 f) (tok8 g)).run Try.prog w=.ok (.bool (!peq f g)) w:=by
  unfold tok8
  rw [run_neq_struct,run_equalIn_rowD w 9998 30 5 8 .u8 Try.underlying30 Try.underlying5 (fun _=>by kernel_rfl) f g,peq_range]
  rfl
 unfold execOp
 simp only [ho,hx,hy,Sem.run_bind,show ∀ w,(eqGuard .neq 30 x y (tok8 f) (tok8 g)).run Try.prog w=.ok () w from fun w=>run_eqGuard_agg w .neq 30 x y _ _ (by kernel_rfl),Result.andThen_ok,e1,Sem.run_pure]
theorem setL_left:∀ (ds a rest:List Value),ds.length=a.length→setL (a++rest) 0 ds=ds++rest:=by
 have key:∀ (ds pre a rest:List Value),ds.length=a.length→setL (pre++(a++rest)) pre.length ds=pre++(ds++rest):=by
  intro ds
  induction ds with
  | nil =>
    intro pre a rest h
    have:a=[]:=List.eq_nil_of_length_eq_zero (by simpa using h.symm)
    subst this
    rfl
  | cons d ds ih =>
    intro pre a rest h
    cases a with
    | nil=>cases h
    | cons x a =>
      have h2:ds.length=a.length:=by simpa using h
      have e:(pre++(x::a++rest)).set pre.length d=(pre++[d])++(a++rest):=by simp
      show setL ((pre++(x::a++rest)).set pre.length d) (pre.length+1) ds=_
      rw [e]
      have:=ih (pre++[d]) a rest h2
      rw [List.length_append] at this
      rw [show pre.length+1=pre.length+[d].length from rfl,this]
      simp
 intro ds a rest h
 have:=key ds [] a rest h
 simpa using this
def pc12 (s r:Nat) (k:Nat→Int) (a n:Nat):List Value:=[.int .i64 (s:Int),.int .i64 (r:Int),.int .u8 (k 0),.int .u8 (k 1),.int .u8 (k 2),.int .u8 (k 3),.int .u8 (k 4),.int .u8 (k 5),.int .u8 (k 6),.int .u8 (k 7),.int .i64 (a:Int),.int .i64 (n:Int)]
def pzk (p:Pth):Nat→Int:=if p.st=1 then p.tk else fun _=>0
def pza (p:Pth):Nat:=if p.st=1 then p.tr else 0
def pzn (p:Pth):Nat:=if p.st=1 then p.nx else 0
def pcz (p:Pth):List Value:=pc12 p.st p.rt (pzk p) (pza p) (pzn p)
theorem pcz_new {p:Pth} (h:p.st=1):pcz p=pc12 1 p.rt p.tk p.tr p.nx:=by unfold pcz pzk pza pzn; rw [if_pos h,if_pos h,if_pos h,h]
theorem pcz_old {p:Pth} (h:p.st≠1):pcz p=pc12 p.st p.rt (fun _=>0) 0 0:=by unfold pcz pzk pza pzn; rw [if_neg h,if_neg h,if_neg h]
def fl12 (f:Nat→List Value):Nat→List Value
 | 0=>[]
 | n+1=>fl12 f n++f n
theorem fl12_len {f:Nat→List Value} (h:∀ k,(f k).length=12):∀ n,(fl12 f n).length=n*12
 | 0=>by show 0=0*12; rfl
 | n+1=>by
   show (fl12 f n++f n).length=_
   rw [List.length_append,fl12_len h n,h]
   omega
theorem fl12_congr {f g:Nat→List Value}:∀ {n:Nat},(∀ i,i<n→f i=g i)→fl12 f n=fl12 g n
 | 0,_=>rfl
 | n+1,h=>by
   show fl12 f n++f n=fl12 g n++g n
   rw [fl12_congr fun i hi=>h i (by omega),h n (by omega)]
theorem fl12_get {f:Nat→List Value} (h:∀ k,(f k).length=12):∀ {n k j:Nat},k<n→j<12→(fl12 f n)[k*12+j]?=(f k)[j]?
 | 0,_,_,hk,_=>absurd hk (xnZ _)
 | n+1,k,j,hk,hj=>by
   show (fl12 f n++f n)[k*12+j]?=_
   have hl:=fl12_len h n
   by_cases c:k=n
   · subst c
     rw [List.getElem?_append_right (by omega),hl,Nat.add_sub_cancel_left]
   · rw [List.getElem?_append_left (by omega),fl12_get h (by omega) hj]
def put12 (f:Nat→List Value) (k:Nat) (ds:List Value):Nat→List Value:=fun i=>if i=k then ds else f i
theorem put12_len {f:Nat→List Value} (h:∀ k,(f k).length=12) (k:Nat) {ds:List Value} (hd:ds.length=12):∀ i,(put12 f k ds i).length=12:=fun i=>by unfold put12; split; exact hd; exact h i
theorem fl12_set {f:Nat→List Value} (h:∀ k,(f k).length=12):∀ {n k j:Nat},k<n→j<12→∀ v,(fl12 f n).set (k*12+j) v=fl12 (put12 f k ((f k).set j v)) n
 | 0,_,_,hk,_,_=>absurd hk (xnZ _)
 | n+1,k,j,hk,hj,v=>by
   show (fl12 f n++f n).set (k*12+j) v=fl12 (put12 f k ((f k).set j v)) n++put12 f k ((f k).set j v) n
   have hl:=fl12_len h n
   by_cases c:k=n
   · subst c
     rw [List.set_append_right _ _ (by omega),hl,Nat.add_sub_cancel_left,show put12 f k ((f k).set j v) k=(f k).set j v from if_pos rfl,fl12_congr (f:=put12 f k ((f k).set j v)) (g:=f) fun i hi=>if_neg (by omega)]
   · rw [List.set_append_left _ _ (by omega),fl12_set h (by omega) hj,show put12 f k ((f k).set j v) n=f n from if_neg fun e=>c e.symm]
theorem fl12_setL:∀ (ds:List Value) {f:Nat→List Value} (_:∀ k,(f k).length=12) {n k o:Nat},k<n→o+ds.length≤12→setL (fl12 f n) (k*12+o) ds=fl12 (put12 f k (setL (f k) o ds)) n
 | [],f,_,n,k,o,_,_=>fl12_congr fun i _=>by
   unfold put12
   split
   · next e=>subst e; rfl
   · rfl
 | v::vs,f,h,n,k,o,hk,ho=>by
   rw [List.length_cons] at ho
   show setL ((fl12 f n).set (k*12+o) v) (k*12+o+1) vs=_
   rw [fl12_set h hk (by omega),Nat.add_assoc,fl12_setL vs (put12_len h k (by rw [List.length_set]; exact h k)) hk (by omega),show put12 f k ((f k).set o v) k=(f k).set o v from if_pos rfl]
   refine fl12_congr fun i _=>?_
   unfold put12
   split
   · rfl
   · rfl
theorem setL_full (a ds:List Value) (h:ds.length=a.length):setL a 0 ds=ds:=by
 have:=setL_left ds a [] h
 rw [List.append_nil,List.append_nil] at this
 exact this
def tcs (t:Ptb):List Value:=fl12 (fun k=>pcz (t k)) 256
theorem tcs_len (t:Ptb):(tcs t).length=3072:=fl12_len (fun _=>rfl) 256
theorem tcs_get (t:Ptb) {k j:Nat} (hk:k<256) (hj:j<12):(tcs t)[k*12+j]?=(pcz (t k))[j]?:=fl12_get (fun _=>rfl) hk hj
theorem tcs_put (t:Ptb) {k:Nat} (hk:k<256) (q:Pth) (ds:List Value) (h:pcz q=ds):setL (tcs t) (k*12) ds=tcs (pput t k q):=by
 subst h
 have:=fl12_setL (pcz q) (f:=fun k=>pcz (t k)) (fun _=>rfl) (n:=256) (k:=k) (o:=0) hk (xnR 12)
 refine this.trans (fl12_congr fun i _=>?_)
 unfold put12 pput
 by_cases c:i=k
 · rw [if_pos c,if_pos c]; exact setL_full _ _ rfl
 · rw [if_neg c,if_neg c]
theorem tcs_set (t:Ptb) {k:Nat} (hk:k<256) (j:Nat) (hj:j<12) (q:Pth) (v:Value) (h:(pcz (t k)).set j v=pcz q):(tcs t).set (k*12+j) v=tcs (pput t k q):=by
 refine (fl12_set (f:=fun k=>pcz (t k)) (fun _=>rfl) hk hj v).trans (fl12_congr fun i _=>?_)
 unfold put12 pput
 by_cases c:i=k
 · rw [if_pos c,if_pos c]; exact h
 · rw [if_neg c,if_neg c]
def tz12:List Value:=fl12 (fun _=>pc12 0 0 (fun _=>0) 0 0) 256
theorem tcs_new:tcs pnew=tz12:=congrArg (fun f=>fl12 f 256) (funext fun _=>rfl)
theorem pnum_yes {f:Nat→Bool} {n:Nat} (h:f n=true):pnum f (n+1)=pnum f n+1:=by
 show pnum f n+(if f n=true then 1 else 0)=_
 rw [if_pos h]
theorem pnum_no {f:Nat→Bool} {n:Nat} (h:f n=false):pnum f (n+1)=pnum f n:=by
 show pnum f n+(if f n=true then 1 else 0)=_
 rw [h]
 rfl
def puse (t:Ptb) (id:Int) (q:Pth):Ptb:=if pmay t id=0 then pput t (pix id) q else t
def Pat (w:World) (B o:Nat) (p:Pth):Prop:=∀ j u,(pcz p)[j]?=some u→w.cell? ⟨B,o+j,none⟩=some u
theorem Pat.below {w w':World} {B o:Nat} {p:Pth} (h:Pat w B o p) (l:Below w.heap.size w w'):Pat w' B o p:=fun j u hu=>cellP l (h j u hu)
theorem Pat.off1 {w w':World} {B o b:Nat} {p:Pth} (h:Pat w B o p) (f:Off [b] w w') (hb:B≠b):Pat w' B o p:=fun j u hu=>f.cell (h j u hu) fun hm=>hb (xm1 hm)
theorem Pat.one {w0 w:World} {l:List (Nat × List Value)} {B:Nat} {p:Pth} (M:Mm w0 l w) (hm:(B,pcz p)∈l):Pat w B 0 p:=fun j u hu=>by rw [Nat.zero_add]; exact M.get hm j u hu
theorem Pat.tok {w:World} {B o:Nat} {p:Pth} (h:Pat w B o p):∀ j u,[Value.int .u8 (pzk p 0),.int .u8 (pzk p 1),.int .u8 (pzk p 2),.int .u8 (pzk p 3),.int .u8 (pzk p 4),.int .u8 (pzk p 5),.int .u8 (pzk p 6),.int .u8 (pzk p 7)][j]?=some u→w.cell? ((⟨B,o+2,none⟩:Addr).add j)=some u:=by
 intro j u hu
 have hj:j<8:=(List.getElem?_eq_some_iff.1 hu).1
 rw [Addr.add_mid,Nat.add_assoc]
 refine h (2+j) u ?_
 rw [← hu]
 obtain rfl | rfl | rfl | rfl | rfl | rfl | rfl | rfl:j=0∨j=1∨j=2∨j=3∨j=4∨j=5∨j=6∨j=7:=by omega
 all_goals rfl
def Tat (w:World) (R:Nat) (t:Ptb):Prop:=∀ k,k<256→Pat w R (k*12) (t k)
theorem Tat.below {w w':World} {R:Nat} {t:Ptb} (h:Tat w R t) (l:Below w.heap.size w w'):Tat w' R t:=fun k hk=>(h k hk).below l
theorem Tat.of {w0 w:World} {l:List (Nat × List Value)} {R:Nat} {t:Ptb} (M:Mm w0 l w) (hm:(R,tcs t)∈l):Tat w R t:=fun k hk j u hu=>M.get hm _ u (by rw [tcs_get t hk (List.getElem?_eq_some_iff.1 hu).1]; exact hu)
theorem idxP12 (R i:Nat) (hi:i<256) {o:Oper} {a:Act} (x y:Operand) (ho:o.op=.indexAddr 52 x y) (hx:a.eval x=.pointer (some ⟨R,0,none⟩)) (hy:a.eval y=.int .i64 (i:Int)) (w:World):(execOp a.eval o).run Try.prog w=.ok (.value (.pointer (some ⟨R,i*12,none⟩))) w:=by
 have hu:=Try.underlying52
 have hsz:∀ w,(sizeOf 51).run Try.prog w=.ok 12 w:=fun _=>by kernel_rfl
 have e1:(Instr.indexAt 52 (.pointer (some ⟨R,0,none⟩)) (.int .i64 (i:Int))).run Try.prog w=.ok (.pointer (some ⟨R,i*12,none⟩)) w:=by
  simp [Instr.indexAt,run_underlying hu,Instr.sureAddr,asIntOf,hsz,Addr.add_mid]
  intro hf
  omega
 unfold execOp
 simp only [ho,hx,hy,Sem.run_bind,e1,Result.andThen_ok,Sem.run_pure]
def pkn (id:Int):Bool:=decide (0≤id∧id≤255)
def pis (p:Pth):Bool:=decide (p.st=1∨p.st=2)
theorem vkn20_any (w:World) (id:Int) :
 Calls Try.prog 41 #[.int .i64 id] w fun e w'=>e=.returned (.bool (pkn id))∧Below w.heap.size w w':=by
 have M:=Mm.init w; have hwz:=xnR w.heap.size
 go_enter Try.func41,Try.ntmps41
 go_upto_region 0 with fail; refine wp_region_list ?_; refine xpL (.bool false) ?_; refine xT ?_
 by_cases h1:0≤id
 · by_cases h2:id<256
   · go_upto_region 1 with fail
     refine wp_region_list ?_; refine xpL (.int .i64 id) ?_; refine xaL (.bool true) (geqI .i64 _ _ _ _ _ _ rfl rfl rfl true (decide_eq_true (by omega)) _) ?_; refine xpL (.bool true) ?_; refine xpL (.int .i64 id) ?_; refine xaL (.bool true) (lssI .i64 _ _ _ _ _ _ rfl rfl rfl true (decide_eq_true (by omega)) _) ?_; refine xpL (.bool true) ?_; refine xpL (.bool true) ?_; refine xT ?_
     have hE:=show Hid _ from (show pkn id=true from decide_eq_true (by omega)); have hbel:=M.below; clear M; go_wp2; go_ret
     exact ⟨by rw [hE.out]; try rfl,hbel⟩
   · go_upto_region 1 with fail
     refine wp_region_list ?_; refine xpL (.int .i64 id) ?_; refine xaL (.bool true) (geqI .i64 _ _ _ _ _ _ rfl rfl rfl true (decide_eq_true (by omega)) _) ?_; refine xpL (.bool true) ?_; refine xpL (.int .i64 id) ?_; refine xaL (.bool false) (lssI .i64 _ _ _ _ _ _ rfl rfl rfl false (decide_eq_false (by omega)) _) ?_; refine xpL (.bool false) ?_; refine xpL (.bool false) ?_; refine xT ?_
     have hE:=show Hid _ from (show pkn id=false from decide_eq_false (by omega)); have hbel:=M.below; clear M; go_wp2; go_ret
     exact ⟨by rw [hE.out]; try rfl,hbel⟩
 · go_upto_region 1 with fail
   refine wp_region_list ?_; refine xpL (.int .i64 id) ?_; refine xaL (.bool false) (geqI .i64 _ _ _ _ _ _ rfl rfl rfl false (decide_eq_false (by omega)) _) ?_; refine xpL (.bool false) ?_
   with_reducible refine skipL ?_ ?_
   · rfl
   simp only [aP,lI,l0,lS]
   with_reducible refine skipL ?_ ?_
   · rfl
   simp only [aP,lI,l0,lS]; refine xpL (.bool false) ?_; refine xpL (.bool false) ?_; refine xT ?_; have hE:=show Hid _ from (show pkn id=false from decide_eq_false (by omega)); have hbel:=M.below; clear M; go_wp2; go_ret
   exact ⟨by rw [hE.out]; try rfl,hbel⟩
theorem vmom20_any (w:World) (n:Int) :
 Calls Try.prog 34 #[.int .i64 n] w fun e w'=>e=.returned (.int .i64 ((pmom n:Nat):Int))∧Below w.heap.size w w':=by
 have M:=Mm.init w; have hwz:=xnR w.heap.size
 go_enter Try.func34,Try.ntmps34
 go_upto_region 0 with fail; refine wp_region_list ?_; refine xpL (.int .i64 0) ?_; refine xT ?_; go_upto_region 1 with fail; refine wp_region_list ?_; refine xpL (.int .i64 n) ?_; refine xaL (.int .i64 (max n 0)) (maxI .i64 .i64 _ _ _ _ _ _ _ rfl rfl rfl (by split <;> omega) _) ?_
 refine xaL (.int .i64 ((pmom n:Nat):Int)) (minI .i64 .i64 _ _ _ _ _ _ _ rfl rfl rfl (by unfold pmom; split <;> omega) _) ?_; refine xpL (.int .i64 ((pmom n:Nat):Int)) ?_; refine xT ?_; have hbel:=M.below; clear M; go_wp2; go_ret
 exact ⟨rfl,hbel⟩
theorem vop20_any (w:World) (B o:Nat) (p:Pth) (P_a:Pat w B o p) :
 Calls Try.prog 40 #[.pointer (some ⟨B,o,none⟩)] w fun e w'=>e=.returned (.bool (pis p))∧Below w.heap.size w w':=by
 have M:=Mm.init w; have hwz:=xnR w.heap.size
 go_enter Try.func40,Try.ntmps40
 go_upto_region 0 with fail; refine wp_region_list ?_; refine xpL (.bool false) ?_; refine xT ?_
 by_cases h1:p.st=1
 · go_upto_region 1 with fail
   refine wp_region_list ?_; refine xpL (.pointer (some ⟨B,o,none⟩)) ?_; refine xpL (.pointer (some ⟨B,o,none⟩)) ?_; refine xpL (.pointer (some ⟨B,o+0,none⟩)) ?_; refine xaL (.int .i64 ((p.st:Nat):Int)) (load1 3 _ ⟨B,o+0,none⟩ _ rfl rfl (fun _=>by kernel_rfl) (P_a 0 _ rfl)) ?_; refine xaL (.bool true) (eqlI .i64 _ _ _ _ _ _ rfl rfl rfl true (beq_iff_eq.2 (by omega)) _) ?_
   refine xpL (.bool true) ?_
   with_reducible refine skipL ?_ ?_
   · rfl
   simp only [aP,lI,l0,lS]
   with_reducible refine skipL ?_ ?_
   · rfl
   simp only [aP,lI,l0,lS]
   with_reducible refine skipL ?_ ?_
   · rfl
   simp only [aP,lI,l0,lS]
   with_reducible refine skipL ?_ ?_
   · rfl
   simp only [aP,lI,l0,lS]
   with_reducible refine skipL ?_ ?_
   · rfl
   simp only [aP,lI,l0,lS]; refine xpL (.bool true) ?_; refine xpL (.bool true) ?_; refine xT ?_; have hE:=show Hid _ from (show pis p=true from decide_eq_true (by omega)); have hbel:=M.below; clear M; go_wp2; go_ret
   exact ⟨by rw [hE.out]; try rfl,hbel⟩
 · by_cases h2:p.st=2
   · go_upto_region 1 with fail
     refine wp_region_list ?_; refine xpL (.pointer (some ⟨B,o,none⟩)) ?_; refine xpL (.pointer (some ⟨B,o,none⟩)) ?_; refine xpL (.pointer (some ⟨B,o+0,none⟩)) ?_; refine xaL (.int .i64 ((p.st:Nat):Int)) (load1 3 _ ⟨B,o+0,none⟩ _ rfl rfl (fun _=>by kernel_rfl) (P_a 0 _ rfl)) ?_
     refine xaL (.bool false) (eqlI .i64 _ _ _ _ _ _ rfl rfl rfl false (beq_eq_false_iff_ne.2 (by omega)) _) ?_; refine xpL (.bool false) ?_; refine xpL (.pointer (some ⟨B,o,none⟩)) ?_; refine xpL (.pointer (some ⟨B,o,none⟩)) ?_; refine xpL (.pointer (some ⟨B,o+0,none⟩)) ?_
     refine xaL (.int .i64 ((p.st:Nat):Int)) (load1 3 _ ⟨B,o+0,none⟩ _ rfl rfl (fun _=>by kernel_rfl) (P_a 0 _ rfl)) ?_; refine xaL (.bool true) (eqlI .i64 _ _ _ _ _ _ rfl rfl rfl true (beq_iff_eq.2 (by omega)) _) ?_; refine xpL (.bool true) ?_; refine xpL (.bool true) ?_; refine xT ?_; have hE:=show Hid _ from (show pis p=true from decide_eq_true (by omega)); have hbel:=M.below
     clear M; go_wp2; go_ret
     exact ⟨by rw [hE.out]; try rfl,hbel⟩
   · go_upto_region 1 with fail
     refine wp_region_list ?_; refine xpL (.pointer (some ⟨B,o,none⟩)) ?_; refine xpL (.pointer (some ⟨B,o,none⟩)) ?_; refine xpL (.pointer (some ⟨B,o+0,none⟩)) ?_; refine xaL (.int .i64 ((p.st:Nat):Int)) (load1 3 _ ⟨B,o+0,none⟩ _ rfl rfl (fun _=>by kernel_rfl) (P_a 0 _ rfl)) ?_
     refine xaL (.bool false) (eqlI .i64 _ _ _ _ _ _ rfl rfl rfl false (beq_eq_false_iff_ne.2 (by omega)) _) ?_; refine xpL (.bool false) ?_; refine xpL (.pointer (some ⟨B,o,none⟩)) ?_; refine xpL (.pointer (some ⟨B,o,none⟩)) ?_; refine xpL (.pointer (some ⟨B,o+0,none⟩)) ?_
     refine xaL (.int .i64 ((p.st:Nat):Int)) (load1 3 _ ⟨B,o+0,none⟩ _ rfl rfl (fun _=>by kernel_rfl) (P_a 0 _ rfl)) ?_; refine xaL (.bool false) (eqlI .i64 _ _ _ _ _ _ rfl rfl rfl false (beq_eq_false_iff_ne.2 (by omega)) _) ?_; refine xpL (.bool false) ?_; refine xpL (.bool false) ?_; refine xT ?_; have hE:=show Hid _ from (show pis p=false from decide_eq_false (by omega))
     have hbel:=M.below; clear M; go_wp2; go_ret
     exact ⟨by rw [hE.out]; try rfl,hbel⟩
theorem vat20_any (w:World) (R:Nat) (t:Ptb) (hW:PtbW t) (hT:Tat w R t) (id:Int) :
 Calls Try.prog 39 #[.pointer (some ⟨R,0,none⟩),.int .i64 id] w fun e w'=>∃ B o,e=.returned (.pointer (some ⟨B,o,none⟩))∧Pat w' B o (t (pix id))∧(B=R∧o=pix id*12∧pix id<256∨w.heap.size≤B∧pix id=256)∧Below w.heap.size w w':=by
 have M:=Mm.init w; have hwz:=xnR w.heap.size
 go_enter Try.func39,Try.ntmps39
 go_upto_region 0 with fail; refine wp_region_list ?_; refine xpL (.pointer none) ?_; refine xT ?_
 by_cases hr:0≤id∧id≤255
 · obtain ⟨k,rfl,hk⟩:∃ k:Nat,id=((k:Nat):Int)∧k<256:=⟨id.toNat,by omega,by omega⟩
   have hpx:=show Hid _ from pix_nat9 hk; go_upto_region 1 with fail; refine wp_region_list ?_; refine xpL (.int .i64 ((k:Nat):Int)) ?_; have key_:=vkn20_any w ((k:Nat):Int)
   rw [show pkn ((k:Nat):Int)=true from decide_eq_true (by omega)] at key_
   have key:=key_; refine xcL key ?_; clear key; rintro e w1 ⟨rfl,l_⟩; replace M:=M.call l_; replace hwz:=xnT hwz l_.size; clear l_; refine xeL ?_; clear key_; refine xpL (.bool false) ?_; refine xT ?_; go_upto_region 3 with fail; refine wp_region_list ?_; refine xpL (.pointer (some ⟨R,0,none⟩)) ?_; refine xpL (.int .i64 ((k:Nat):Int)) ?_; refine xpL (.pointer (some ⟨R,0,none⟩)) ?_
   refine xpL (.pointer (some ⟨R,0,none⟩)) ?_; refine xaL (.pointer (some ⟨R,k*12,none⟩)) (idxP12 R k hk _ _ rfl rfl rfl _) ?_; refine xpL (.pointer (some ⟨R,k*12,none⟩)) ?_; refine xT ?_; have HS:=show Hid _ from (show Pat w1 R (k*12) (t k) from (hT k hk).below M.below); have hbel:=M.below; clear M; go_wp2; go_ret
   rw [hpx.out]
   first | exact ⟨R,k*12,rfl,HS.out,.inl ⟨rfl,rfl,hk⟩,hbel⟩ | exact ⟨_,_,rfl,HS.out,.inl ⟨rfl,rfl,hk⟩,hbel⟩
 · go_upto_region 1 with fail
   refine wp_region_list ?_; refine xpL (.int .i64 id) ?_; have key_:=vkn20_any w id
   rw [show pkn id=false from decide_eq_false (by omega)] at key_
   have key:=key_; refine xcL key ?_; clear key; rintro e w2 ⟨rfl,l_⟩; replace M:=M.call l_; replace hwz:=xnT hwz l_.size; clear l_; refine xeL ?_; clear key_; refine xpL (.bool true) ?_; refine xT ?_; go_upto_region 2 with fail; refine wp_region_list ?_
   refine xpL (.agg #[.int .i64 0,.int .i64 0,.int .u8 0,.int .u8 0,.int .u8 0,.int .u8 0,.int .u8 0,.int .u8 0,.int .u8 0,.int .u8 0,.int .i64 0,.int .i64 0]) ?_; have hlb:=(Below.refl w2.heap.size w2).alloc (xnR _) (.cells #[.int .i64 0,.int .i64 0,.int .u8 0,.int .u8 0,.int .u8 0,.int .u8 0,.int .u8 0,.int .u8 0,.int .u8 0,.int .u8 0,.int .i64 0,.int .i64 0] 51)
   refine actL (w':=w2.alloc (.cells #[.int .i64 0,.int .i64 0,.int .u8 0,.int .u8 0,.int .u8 0,.int .u8 0,.int .u8 0,.int .u8 0,.int .u8 0,.int .u8 0,.int .i64 0,.int .i64 0] 51)) (.pointer (some ⟨w2.heap.size,0,none⟩)) rfl (by kernel_rfl) ?_; simp only [aP,lI,l0,lS]; have hB_:=M.below.size; have hW_:=hwz; replace hwz:=xnT hwz hlb.size
   replace M:=M.box #[.int .i64 0,.int .i64 0,.int .u8 0,.int .u8 0,.int .u8 0,.int .u8 0,.int .u8 0,.int .u8 0,.int .u8 0,.int .u8 0,.int .i64 0,.int .i64 0] 51 w2.heap.size rfl; clear hlb
   generalize w2.alloc (.cells #[.int .i64 0,.int .i64 0,.int .u8 0,.int .u8 0,.int .u8 0,.int .u8 0,.int .u8 0,.int .u8 0,.int .u8 0,.int .u8 0,.int .i64 0,.int .i64 0] 51)=w3 at M hwz  ⊢; generalize eB_:w2.heap.size=B3 at M ⊢
   have hB_B3:w.heap.size≤B3:=by rw [← eB_]; exact hB_
   have hW_B3:w.heap.size≤B3:=by rw [← eB_]; exact hW_
   have hF_B3:w2.heap.size=B3:=eB_
   clear hB_ hW_ eB_
   replace M:Mm w ((B3,[.int .i64 0,.int .i64 0,.int .u8 0,.int .u8 0,.int .u8 0,.int .u8 0,.int .u8 0,.int .u8 0,.int .u8 0,.int .u8 0,.int .i64 0,.int .i64 0])::([]:List (Nat × List Value))) w3:=M
   refine xpL (.pointer (some ⟨B3,0,none⟩)) ?_; refine xT ?_; have hx:=show Hid _ from (show pix id=256 from if_neg hr); have hz:=show Hid _ from hW.z 256 (by omega); have HS:=show Hid _ from (show Pat w3 B3 0 pnone from Pat.one M mS); have hbel:=M.below; clear M; go_wp2; go_ret
   rw [hx.out,hz.out]
   exact ⟨B3,0,rfl,HS.out,.inr ⟨hB_B3,rfl⟩,hbel⟩
theorem vsta20_any (w:World) (R:Nat) (t:Ptb) (hW:PtbW t) (hT:Tat w R t) (id:Int) :
 Calls Try.prog 28 #[.pointer (some ⟨R,0,none⟩),.int .i64 id] w fun e w'=>e=.returned (.int .i64 ((pst t id:Nat):Int))∧Below w.heap.size w w':=by
 have M:=Mm.init w; have hwz:=xnR w.heap.size
 go_enter Try.func28,Try.ntmps28
 go_upto_region 0 with fail; refine wp_region_list ?_; refine xpL (.int .i64 0) ?_; refine xT ?_; go_upto_region 1 with fail; refine wp_region_list ?_; refine xpL (.pointer (some ⟨R,0,none⟩)) ?_; refine xpL (.int .i64 id) ?_; have key:=vat20_any w R t hW (hT.below M.below) id; refine xcL key ?_; clear key; rintro e w1 ⟨Ba,oa,rfl,P_a,hRa,l_⟩; replace M:=M.call l_
 replace hwz:=xnT hwz l_.size; clear l_; refine xeL ?_; refine xpL (.pointer (some ⟨Ba,oa,none⟩)) ?_; refine xpL (.pointer (some ⟨Ba,oa+0,none⟩)) ?_; refine readL (.int .i64 (((t (pix id)).st:Nat):Int)) rfl (load1 3 _ ⟨Ba,oa+0,none⟩ _ rfl rfl (fun _=>by kernel_rfl) (P_a 0 _ rfl)) ?_; simp only [aP,lI,l0,lS]; refine xpL (.int .i64 (((t (pix id)).st:Nat):Int)) ?_
 refine xT ?_; clear P_a; have hbel:=M.below; clear M; go_wp2; go_ret
 exact ⟨rfl,hbel⟩
theorem vrtt20_any (w:World) (R:Nat) (t:Ptb) (hW:PtbW t) (hT:Tat w R t) (id:Int) :
 Calls Try.prog 30 #[.pointer (some ⟨R,0,none⟩),.int .i64 id] w fun e w'=>e=.returned (.int .i64 ((prt t id:Nat):Int))∧Below w.heap.size w w':=by
 have M:=Mm.init w; have hwz:=xnR w.heap.size
 go_enter Try.func30,Try.ntmps30
 go_upto_region 0 with fail; refine wp_region_list ?_; refine xpL (.int .i64 0) ?_; refine xT ?_; go_upto_region 1 with fail; refine wp_region_list ?_; refine xpL (.pointer (some ⟨R,0,none⟩)) ?_; refine xpL (.int .i64 id) ?_; have key:=vat20_any w R t hW (hT.below M.below) id; refine xcL key ?_; clear key; rintro e w1 ⟨Ba,oa,rfl,P_a,hRa,l_⟩; replace M:=M.call l_
 replace hwz:=xnT hwz l_.size; clear l_; refine xeL ?_; refine xpL (.pointer (some ⟨Ba,oa,none⟩)) ?_; refine xpL (.pointer (some ⟨Ba,oa+1,none⟩)) ?_; refine readL (.int .i64 (((t (pix id)).rt:Nat):Int)) rfl (load1 3 _ ⟨Ba,oa+1,none⟩ _ rfl rfl (fun _=>by kernel_rfl) (P_a 1 _ rfl)) ?_; simp only [aP,lI,l0,lS]; refine xpL (.int .i64 (((t (pix id)).rt:Nat):Int)) ?_
 refine xT ?_; clear P_a; have hbel:=M.below; clear M; go_wp2; go_ret
 exact ⟨rfl,hbel⟩
theorem vtok20_any (w:World) (R:Nat) (t:Ptb) (hW:PtbW t) (hT:Tat w R t) (id:Int) (hRw:R<w.heap.size) :
 Calls Try.prog 24 #[.pointer (some ⟨R,0,none⟩),.int .i64 id] w fun e w'=>e=.returned (.tuple #[tok8 (ptk t id),.bool (ptB t id)])∧Below w.heap.size w w':=by
 have M:=Mm.init w; have hwz:=xnR w.heap.size
 go_enter Try.func24,Try.ntmps24
 go_upto_region 0 with fail; refine wp_region_list ?_; have hlb:=(Below.refl w.heap.size w).alloc (xnR _) (.cells zu8_8 30); refine actL (w':=w.alloc (.cells zu8_8 30)) (.pointer (some ⟨w.heap.size,0,none⟩)) rfl (by kernel_rfl) ?_; simp only [aP,lI,l0,lS]; have hB_:=M.below.size; have hW_:=hwz; replace hwz:=xnT hwz hlb.size; replace M:=M.box zu8_8 30 w.heap.size rfl; clear hlb
 generalize w.alloc (.cells zu8_8 30)=w1 at M hwz  ⊢; generalize eB_:w.heap.size=B1 at M ⊢
 have hB_B1:w.heap.size≤B1:=by rw [← eB_]; exact hB_
 have hW_B1:w.heap.size≤B1:=by rw [← eB_]; exact hW_
 have hF_B1:w.heap.size=B1:=eB_
 clear hB_ hW_ eB_
 replace M:Mm w ((B1,[.int .u8 0,.int .u8 0,.int .u8 0,.int .u8 0,.int .u8 0,.int .u8 0,.int .u8 0,.int .u8 0])::([]:List (Nat × List Value))) w1:=M
 refine xpL (.bool false) ?_; refine xT ?_; have hlt_:=M.lt mS; go_upto_region 1 with fail; refine wp_region_list ?_; refine xpL (.pointer (some ⟨R,0,none⟩)) ?_; refine xpL (.int .i64 id) ?_; have key:=vat20_any w1 R t hW (hT.below M.below) id; refine xcL key ?_; clear key; rintro e w2 ⟨Ba,oa,rfl,P_a,hRa,l_⟩; replace M:=M.call l_; replace hwz:=xnT hwz l_.size; clear l_
 refine xeL ?_; refine xpL (.pointer (some ⟨Ba,oa,none⟩)) ?_; refine xT ?_
 have hne:Ba≠B1:=by omega
 by_cases hs:(t (pix id)).st=1
 · go_upto_region 2 with fail
   have hdr:=(Below.refl w2.heap.size w2).drew; replace M:=M.drew; replace hwz:=xnT hwz hdr.size; replace P_a:=P_a.below hdr; clear hdr; refine wp_region_held_drew (S:=fun w'=>(∃ cs_,Mm w ((B1,cs_)::([]:List (Nat × List Value))) w')∧Pat w' Ba oa (t (pix id))) (by kernel_rfl) ⟨⟨_,M⟩,P_a⟩ ?_; intro _; generalize w2.drew=w3 at M hwz P_a ⊢
   refine xrH 0 10 rfl (.pointer (some ⟨Ba,oa,none⟩)) (fun _ ⟨⟨_,M⟩,P_a⟩=>(by kernel_rfl)) ⟨⟨_,M⟩,P_a⟩ ?_; refine xrH 1 11 rfl (.pointer (some ⟨Ba,oa,none⟩)) (fun _ ⟨⟨_,M⟩,P_a⟩=>(by kernel_rfl)) ⟨⟨_,M⟩,P_a⟩ ?_; refine xrH 2 12 rfl (.pointer (some ⟨Ba,oa+2,none⟩)) (fun _ ⟨⟨_,M⟩,P_a⟩=>(by kernel_rfl)) ⟨⟨_,M⟩,P_a⟩ ?_
   refine xrH 3 13 rfl (.agg #[.int .u8 ((pzk (t (pix id))) 0),.int .u8 ((pzk (t (pix id))) 1),.int .u8 ((pzk (t (pix id))) 2),.int .u8 ((pzk (t (pix id))) 3),.int .u8 ((pzk (t (pix id))) 4),.int .u8 ((pzk (t (pix id))) 5),.int .u8 ((pzk (t (pix id))) 6),.int .u8 ((pzk (t (pix id))) 7)]) (fun _ ⟨⟨_,M⟩,P_a⟩=>loadN 30 _ ⟨Ba,oa+2,none⟩ [.int .u8 ((pzk (t (pix id))) 0),.int .u8 ((pzk (t (pix id))) 1),.int .u8 ((pzk (t (pix id))) 2),.int .u8 ((pzk (t (pix id))) 3),.int .u8 ((pzk (t (pix id))) 4),.int .u8 ((pzk (t (pix id))) 5),.int .u8 ((pzk (t (pix id))) 6),.int .u8 ((pzk (t (pix id))) 7)] rfl rfl (fun _=>by kernel_rfl) (fun _=>by kernel_rfl) P_a.tok) ⟨⟨_,M⟩,P_a⟩ ?_
   refine xrH 4 14 rfl (.pointer (some ⟨Ba,oa,none⟩)) (fun _ ⟨⟨_,M⟩,P_a⟩=>(by kernel_rfl)) ⟨⟨_,M⟩,P_a⟩ ?_; refine xrH 5 15 rfl (.pointer (some ⟨Ba,oa,none⟩)) (fun _ ⟨⟨_,M⟩,P_a⟩=>(by kernel_rfl)) ⟨⟨_,M⟩,P_a⟩ ?_; refine xrH 6 16 rfl (.pointer (some ⟨Ba,oa+0,none⟩)) (fun _ ⟨⟨_,M⟩,P_a⟩=>(by kernel_rfl)) ⟨⟨_,M⟩,P_a⟩ ?_
   refine xrH 7 17 rfl (.int .i64 (((t (pix id)).st:Nat):Int)) (fun _ ⟨⟨_,M⟩,P_a⟩=>load1 3 _ ⟨Ba,oa+0,none⟩ _ rfl rfl (fun _=>by kernel_rfl) (P_a 0 _ rfl)) ⟨⟨_,M⟩,P_a⟩ ?_; refine xrH 8 18 rfl (.bool true) (fun _ ⟨⟨_,M⟩,P_a⟩=>eqlI .i64 _ _ _ _ _ _ rfl rfl rfl true (beq_iff_eq.2 (by omega)) _) ⟨⟨_,M⟩,P_a⟩ ?_
   have hM2:=M.setPart [.int .u8 ((pzk (t (pix id))) 0),.int .u8 ((pzk (t (pix id))) 1),.int .u8 ((pzk (t (pix id))) 2),.int .u8 ((pzk (t (pix id))) 3),.int .u8 ((pzk (t (pix id))) 4),.int .u8 ((pzk (t (pix id))) 5),.int .u8 ((pzk (t (pix id))) 6),.int .u8 ((pzk (t (pix id))) 7)] 0 (Nat.le_of_ble_eq_true rfl)
   have P_a2:=P_a.off1 ((Off.refl [B1] _).setAll (b:=B1) mS 0 [.int .u8 ((pzk (t (pix id))) 0),.int .u8 ((pzk (t (pix id))) 1),.int .u8 ((pzk (t (pix id))) 2),.int .u8 ((pzk (t (pix id))) 3),.int .u8 ((pzk (t (pix id))) 4),.int .u8 ((pzk (t (pix id))) 5),.int .u8 ((pzk (t (pix id))) 6),.int .u8 ((pzk (t (pix id))) 7)]) hne
   refine doesH (i:=9) none rfl (by kernel_rfl) rfl rfl (storeP [.int .u8 ((pzk (t (pix id))) 0),.int .u8 ((pzk (t (pix id))) 1),.int .u8 ((pzk (t (pix id))) 2),.int .u8 ((pzk (t (pix id))) 3),.int .u8 ((pzk (t (pix id))) 4),.int .u8 ((pzk (t (pix id))) 5),.int .u8 ((pzk (t (pix id))) 6),.int .u8 ((pzk (t (pix id))) 7)] B1 0 30 _ _ rfl rfl rfl (M.thereP mS 0 8 (Nat.le_of_ble_eq_true rfl)) (by kernel_rfl) (List.all_eq_true.1 (rfl:([.int .u8 ((pzk (t (pix id))) 0),.int .u8 ((pzk (t (pix id))) 1),.int .u8 ((pzk (t (pix id))) 2),.int .u8 ((pzk (t (pix id))) 3),.int .u8 ((pzk (t (pix id))) 4),.int .u8 ((pzk (t (pix id))) 5),.int .u8 ((pzk (t (pix id))) 6),.int .u8 ((pzk (t (pix id))) 7)]:List Value).all (fun u=>u.oneCell')=true))) ⟨⟨_,hM2⟩,P_a2⟩ ?_
   simp only [Act.put]; clear M; have M:=hM2; clear hM2; clear P_a; have P_a:=P_a2; clear P_a2
   replace hwz:=xnT hwz (Off.size ((Off.refl [B1] _).setAll (b:=B1) mS 0 [.int .u8 ((pzk (t (pix id))) 0),.int .u8 ((pzk (t (pix id))) 1),.int .u8 ((pzk (t (pix id))) 2),.int .u8 ((pzk (t (pix id))) 3),.int .u8 ((pzk (t (pix id))) 4),.int .u8 ((pzk (t (pix id))) 5),.int .u8 ((pzk (t (pix id))) 6),.int .u8 ((pzk (t (pix id))) 7)]))
   generalize w3.setCells B1 0 [.int .u8 ((pzk (t (pix id))) 0),.int .u8 ((pzk (t (pix id))) 1),.int .u8 ((pzk (t (pix id))) 2),.int .u8 ((pzk (t (pix id))) 3),.int .u8 ((pzk (t (pix id))) 4),.int .u8 ((pzk (t (pix id))) 5),.int .u8 ((pzk (t (pix id))) 6),.int .u8 ((pzk (t (pix id))) 7)]=w4 at M hwz P_a ⊢
   replace M:Mm w ((B1,[.int .u8 ((pzk (t (pix id))) 0),.int .u8 ((pzk (t (pix id))) 1),.int .u8 ((pzk (t (pix id))) 2),.int .u8 ((pzk (t (pix id))) 3),.int .u8 ((pzk (t (pix id))) 4),.int .u8 ((pzk (t (pix id))) 5),.int .u8 ((pzk (t (pix id))) 6),.int .u8 ((pzk (t (pix id))) 7)])::([]:List (Nat × List Value))) w4:=M
   refine xrH 10 5 rfl (.bool true) (fun _ ⟨⟨_,M⟩,P_a⟩=>(by kernel_rfl)) ⟨⟨_,M⟩,P_a⟩ ?_
   refine wpAnyH_done (by kernel_rfl) ?_ _
   first | show Exit.then _ _ _ _ _ | show Exit.inBlock _ _ _ _ _
   have hK:=show Hid _ from (show ptk t id=pzk (t (pix id)) from rfl); have hE:=show Hid _ from (show ptB t id=true from decide_eq_true hs)
   have c1_:=M.part mS 0 [.int .u8 ((pzk (t (pix id))) 0),.int .u8 ((pzk (t (pix id))) 1),.int .u8 ((pzk (t (pix id))) 2),.int .u8 ((pzk (t (pix id))) 3),.int .u8 ((pzk (t (pix id))) 4),.int .u8 ((pzk (t (pix id))) 5),.int .u8 ((pzk (t (pix id))) 6),.int .u8 ((pzk (t (pix id))) 7)] rfl; have hbel:=M.below; clear M P_a; go_wp2
   refine bodyPost_ret (v:=.tuple #[.agg #[.int .u8 ((pzk (t (pix id))) 0),.int .u8 ((pzk (t (pix id))) 1),.int .u8 ((pzk (t (pix id))) 2),.int .u8 ((pzk (t (pix id))) 3),.int .u8 ((pzk (t (pix id))) 4),.int .u8 ((pzk (t (pix id))) 5),.int .u8 ((pzk (t (pix id))) 6),.int .u8 ((pzk (t (pix id))) 7)],.bool true]) (retCellTmp 4 5 30 ⟨B1,0,none⟩ [.int .u8 ((pzk (t (pix id))) 0),.int .u8 ((pzk (t (pix id))) 1),.int .u8 ((pzk (t (pix id))) 2),.int .u8 ((pzk (t (pix id))) 3),.int .u8 ((pzk (t (pix id))) 4),.int .u8 ((pzk (t (pix id))) 5),.int .u8 ((pzk (t (pix id))) 6),.int .u8 ((pzk (t (pix id))) 7)] _ rfl rfl rfl (fun _=>by kernel_rfl) (fun _=>by kernel_rfl) c1_) rfl ?_
   exact ⟨by rw [hK.out,hE.out]; rfl,hbel⟩
 · go_upto_region 2 with fail
   have hdr:=(Below.refl w2.heap.size w2).drew; replace M:=M.drew; replace hwz:=xnT hwz hdr.size; replace P_a:=P_a.below hdr; clear hdr; refine wp_region_held_drew (S:=fun w'=>(∃ cs_,Mm w ((B1,cs_)::([]:List (Nat × List Value))) w')∧Pat w' Ba oa (t (pix id))) (by kernel_rfl) ⟨⟨_,M⟩,P_a⟩ ?_; intro _; generalize w2.drew=w5 at M hwz P_a ⊢
   refine xrH 0 10 rfl (.pointer (some ⟨Ba,oa,none⟩)) (fun _ ⟨⟨_,M⟩,P_a⟩=>(by kernel_rfl)) ⟨⟨_,M⟩,P_a⟩ ?_; refine xrH 1 11 rfl (.pointer (some ⟨Ba,oa,none⟩)) (fun _ ⟨⟨_,M⟩,P_a⟩=>(by kernel_rfl)) ⟨⟨_,M⟩,P_a⟩ ?_; refine xrH 2 12 rfl (.pointer (some ⟨Ba,oa+2,none⟩)) (fun _ ⟨⟨_,M⟩,P_a⟩=>(by kernel_rfl)) ⟨⟨_,M⟩,P_a⟩ ?_
   refine xrH 3 13 rfl (.agg #[.int .u8 ((pzk (t (pix id))) 0),.int .u8 ((pzk (t (pix id))) 1),.int .u8 ((pzk (t (pix id))) 2),.int .u8 ((pzk (t (pix id))) 3),.int .u8 ((pzk (t (pix id))) 4),.int .u8 ((pzk (t (pix id))) 5),.int .u8 ((pzk (t (pix id))) 6),.int .u8 ((pzk (t (pix id))) 7)]) (fun _ ⟨⟨_,M⟩,P_a⟩=>loadN 30 _ ⟨Ba,oa+2,none⟩ [.int .u8 ((pzk (t (pix id))) 0),.int .u8 ((pzk (t (pix id))) 1),.int .u8 ((pzk (t (pix id))) 2),.int .u8 ((pzk (t (pix id))) 3),.int .u8 ((pzk (t (pix id))) 4),.int .u8 ((pzk (t (pix id))) 5),.int .u8 ((pzk (t (pix id))) 6),.int .u8 ((pzk (t (pix id))) 7)] rfl rfl (fun _=>by kernel_rfl) (fun _=>by kernel_rfl) P_a.tok) ⟨⟨_,M⟩,P_a⟩ ?_
   refine xrH 4 14 rfl (.pointer (some ⟨Ba,oa,none⟩)) (fun _ ⟨⟨_,M⟩,P_a⟩=>(by kernel_rfl)) ⟨⟨_,M⟩,P_a⟩ ?_; refine xrH 5 15 rfl (.pointer (some ⟨Ba,oa,none⟩)) (fun _ ⟨⟨_,M⟩,P_a⟩=>(by kernel_rfl)) ⟨⟨_,M⟩,P_a⟩ ?_; refine xrH 6 16 rfl (.pointer (some ⟨Ba,oa+0,none⟩)) (fun _ ⟨⟨_,M⟩,P_a⟩=>(by kernel_rfl)) ⟨⟨_,M⟩,P_a⟩ ?_
   refine xrH 7 17 rfl (.int .i64 (((t (pix id)).st:Nat):Int)) (fun _ ⟨⟨_,M⟩,P_a⟩=>load1 3 _ ⟨Ba,oa+0,none⟩ _ rfl rfl (fun _=>by kernel_rfl) (P_a 0 _ rfl)) ⟨⟨_,M⟩,P_a⟩ ?_; refine xrH 8 18 rfl (.bool false) (fun _ ⟨⟨_,M⟩,P_a⟩=>eqlI .i64 _ _ _ _ _ _ rfl rfl rfl false (beq_eq_false_iff_ne.2 (by omega)) _) ⟨⟨_,M⟩,P_a⟩ ?_
   have hM2:=M.setPart [.int .u8 ((pzk (t (pix id))) 0),.int .u8 ((pzk (t (pix id))) 1),.int .u8 ((pzk (t (pix id))) 2),.int .u8 ((pzk (t (pix id))) 3),.int .u8 ((pzk (t (pix id))) 4),.int .u8 ((pzk (t (pix id))) 5),.int .u8 ((pzk (t (pix id))) 6),.int .u8 ((pzk (t (pix id))) 7)] 0 (Nat.le_of_ble_eq_true rfl)
   have P_a2:=P_a.off1 ((Off.refl [B1] _).setAll (b:=B1) mS 0 [.int .u8 ((pzk (t (pix id))) 0),.int .u8 ((pzk (t (pix id))) 1),.int .u8 ((pzk (t (pix id))) 2),.int .u8 ((pzk (t (pix id))) 3),.int .u8 ((pzk (t (pix id))) 4),.int .u8 ((pzk (t (pix id))) 5),.int .u8 ((pzk (t (pix id))) 6),.int .u8 ((pzk (t (pix id))) 7)]) hne
   refine doesH (i:=9) none rfl (by kernel_rfl) rfl rfl (storeP [.int .u8 ((pzk (t (pix id))) 0),.int .u8 ((pzk (t (pix id))) 1),.int .u8 ((pzk (t (pix id))) 2),.int .u8 ((pzk (t (pix id))) 3),.int .u8 ((pzk (t (pix id))) 4),.int .u8 ((pzk (t (pix id))) 5),.int .u8 ((pzk (t (pix id))) 6),.int .u8 ((pzk (t (pix id))) 7)] B1 0 30 _ _ rfl rfl rfl (M.thereP mS 0 8 (Nat.le_of_ble_eq_true rfl)) (by kernel_rfl) (List.all_eq_true.1 (rfl:([.int .u8 ((pzk (t (pix id))) 0),.int .u8 ((pzk (t (pix id))) 1),.int .u8 ((pzk (t (pix id))) 2),.int .u8 ((pzk (t (pix id))) 3),.int .u8 ((pzk (t (pix id))) 4),.int .u8 ((pzk (t (pix id))) 5),.int .u8 ((pzk (t (pix id))) 6),.int .u8 ((pzk (t (pix id))) 7)]:List Value).all (fun u=>u.oneCell')=true))) ⟨⟨_,hM2⟩,P_a2⟩ ?_
   simp only [Act.put]; clear M; have M:=hM2; clear hM2; clear P_a; have P_a:=P_a2; clear P_a2
   replace hwz:=xnT hwz (Off.size ((Off.refl [B1] _).setAll (b:=B1) mS 0 [.int .u8 ((pzk (t (pix id))) 0),.int .u8 ((pzk (t (pix id))) 1),.int .u8 ((pzk (t (pix id))) 2),.int .u8 ((pzk (t (pix id))) 3),.int .u8 ((pzk (t (pix id))) 4),.int .u8 ((pzk (t (pix id))) 5),.int .u8 ((pzk (t (pix id))) 6),.int .u8 ((pzk (t (pix id))) 7)]))
   generalize w5.setCells B1 0 [.int .u8 ((pzk (t (pix id))) 0),.int .u8 ((pzk (t (pix id))) 1),.int .u8 ((pzk (t (pix id))) 2),.int .u8 ((pzk (t (pix id))) 3),.int .u8 ((pzk (t (pix id))) 4),.int .u8 ((pzk (t (pix id))) 5),.int .u8 ((pzk (t (pix id))) 6),.int .u8 ((pzk (t (pix id))) 7)]=w6 at M hwz P_a ⊢
   replace M:Mm w ((B1,[.int .u8 ((pzk (t (pix id))) 0),.int .u8 ((pzk (t (pix id))) 1),.int .u8 ((pzk (t (pix id))) 2),.int .u8 ((pzk (t (pix id))) 3),.int .u8 ((pzk (t (pix id))) 4),.int .u8 ((pzk (t (pix id))) 5),.int .u8 ((pzk (t (pix id))) 6),.int .u8 ((pzk (t (pix id))) 7)])::([]:List (Nat × List Value))) w6:=M
   refine xrH 10 5 rfl (.bool false) (fun _ ⟨⟨_,M⟩,P_a⟩=>(by kernel_rfl)) ⟨⟨_,M⟩,P_a⟩ ?_
   refine wpAnyH_done (by kernel_rfl) ?_ _
   first | show Exit.then _ _ _ _ _ | show Exit.inBlock _ _ _ _ _
   have hK:=show Hid _ from (show ptk t id=pzk (t (pix id)) from rfl); have hE:=show Hid _ from (show ptB t id=false from decide_eq_false hs)
   have c1_:=M.part mS 0 [.int .u8 ((pzk (t (pix id))) 0),.int .u8 ((pzk (t (pix id))) 1),.int .u8 ((pzk (t (pix id))) 2),.int .u8 ((pzk (t (pix id))) 3),.int .u8 ((pzk (t (pix id))) 4),.int .u8 ((pzk (t (pix id))) 5),.int .u8 ((pzk (t (pix id))) 6),.int .u8 ((pzk (t (pix id))) 7)] rfl; have hbel:=M.below; clear M P_a; go_wp2
   refine bodyPost_ret (v:=.tuple #[.agg #[.int .u8 ((pzk (t (pix id))) 0),.int .u8 ((pzk (t (pix id))) 1),.int .u8 ((pzk (t (pix id))) 2),.int .u8 ((pzk (t (pix id))) 3),.int .u8 ((pzk (t (pix id))) 4),.int .u8 ((pzk (t (pix id))) 5),.int .u8 ((pzk (t (pix id))) 6),.int .u8 ((pzk (t (pix id))) 7)],.bool false]) (retCellTmp 4 5 30 ⟨B1,0,none⟩ [.int .u8 ((pzk (t (pix id))) 0),.int .u8 ((pzk (t (pix id))) 1),.int .u8 ((pzk (t (pix id))) 2),.int .u8 ((pzk (t (pix id))) 3),.int .u8 ((pzk (t (pix id))) 4),.int .u8 ((pzk (t (pix id))) 5),.int .u8 ((pzk (t (pix id))) 6),.int .u8 ((pzk (t (pix id))) 7)] _ rfl rfl rfl (fun _=>by kernel_rfl) (fun _=>by kernel_rfl) c1_) rfl ?_
   exact ⟨by rw [hK.out,hE.out]; rfl,hbel⟩
theorem vbec20_any (w0 w:World) (R:Nat) (l:List (Nat × List Value)) (t:Ptb) (M:Mm w0 ((R,tcs t)::l) w) (k:Nat) (hk:k<256) (s:Nat) (hs:s≠1) :
 Calls Try.prog 36 #[.pointer (some ⟨R,k*12,none⟩),.int .i64 ((s:Nat):Int)] w fun e w'=>e=.returned (.tuple #[])∧Mm w0 ((R,tcs (pput t k { t k with st:=s }))::l) w'∧Off [R] w w':=by
 have OF:=Off.refl [R] w; have hwz:=xnR w.heap.size
 go_enter Try.func36,Try.ntmps36
 go_upto_region 0 with fail; refine wp_region_list ?_; refine xpL (.pointer (some ⟨R,k*12,none⟩)) ?_; refine xpL (.int .i64 ((s:Nat):Int)) ?_; refine xpL (.pointer (some ⟨R,k*12,none⟩)) ?_; refine xpL (.pointer (some ⟨R,k*12,none⟩)) ?_; refine xpL (.pointer (some ⟨R,k*12+1,none⟩)) ?_
 refine readL (.int .i64 (((t k).rt:Nat):Int)) rfl (load1 3 _ ⟨R,k*12+1,none⟩ _ rfl rfl (fun _=>by kernel_rfl) ((Tat.of M mS k hk) 1 _ rfl)) ?_; simp only [aP,lI,l0,lS]; refine xpL (.agg #[.int .i64 ((s:Nat):Int),.int .i64 (((t k).rt:Nat):Int),.int .u8 0,.int .u8 0,.int .u8 0,.int .u8 0,.int .u8 0,.int .u8 0,.int .u8 0,.int .u8 0,.int .i64 0,.int .i64 0]) ?_
 refine xpL (.pointer (some ⟨R,k*12,none⟩)) ?_; have hM2:=M.setPart [.int .i64 ((s:Nat):Int),.int .i64 (((t k).rt:Nat):Int),.int .u8 0,.int .u8 0,.int .u8 0,.int .u8 0,.int .u8 0,.int .u8 0,.int .u8 0,.int .u8 0,.int .i64 0,.int .i64 0] (k*12) (by rw [tcs_len]; show k*12+12≤3072; omega)
 rw [tcs_put t hk ({ t k with st:=s }) [.int .i64 ((s:Nat):Int),.int .i64 (((t k).rt:Nat):Int),.int .u8 0,.int .u8 0,.int .u8 0,.int .u8 0,.int .u8 0,.int .u8 0,.int .u8 0,.int .u8 0,.int .i64 0,.int .i64 0] (pcz_old (p:={ t k with st:=s }) hs)] at hM2
 refine skipOpL rfl (storeP [.int .i64 ((s:Nat):Int),.int .i64 (((t k).rt:Nat):Int),.int .u8 0,.int .u8 0,.int .u8 0,.int .u8 0,.int .u8 0,.int .u8 0,.int .u8 0,.int .u8 0,.int .i64 0,.int .i64 0] R (k*12) 51 _ _ rfl rfl rfl (M.thereP mS (k*12) 12 (by rw [tcs_len]; omega)) (by kernel_rfl) (List.all_eq_true.1 (rfl:([.int .i64 ((s:Nat):Int),.int .i64 (((t k).rt:Nat):Int),.int .u8 0,.int .u8 0,.int .u8 0,.int .u8 0,.int .u8 0,.int .u8 0,.int .u8 0,.int .u8 0,.int .i64 0,.int .i64 0]:List Value).all (fun u=>u.oneCell')=true))) ?_
 simp only [Act.put]; clear M; have M:=hM2; clear hM2; replace hwz:=xnT hwz (Off.size ((Off.refl [R] _).setAll (b:=R) mS (k*12) [.int .i64 ((s:Nat):Int),.int .i64 (((t k).rt:Nat):Int),.int .u8 0,.int .u8 0,.int .u8 0,.int .u8 0,.int .u8 0,.int .u8 0,.int .u8 0,.int .u8 0,.int .i64 0,.int .i64 0]))
 replace OF:=OF.trans ((Off.refl [R] _).setAll (b:=R) mS (k*12) [.int .i64 ((s:Nat):Int),.int .i64 (((t k).rt:Nat):Int),.int .u8 0,.int .u8 0,.int .u8 0,.int .u8 0,.int .u8 0,.int .u8 0,.int .u8 0,.int .u8 0,.int .i64 0,.int .i64 0])
 generalize w.setCells R (k*12) [.int .i64 ((s:Nat):Int),.int .i64 (((t k).rt:Nat):Int),.int .u8 0,.int .u8 0,.int .u8 0,.int .u8 0,.int .u8 0,.int .u8 0,.int .u8 0,.int .u8 0,.int .i64 0,.int .i64 0]=w1 at M hwz OF ⊢
 replace M:Mm w0 ((R,tcs (pput t k ({ t k with st:=s })))::l) w1:=M
 have HS:=show Hid _ from (And.intro M OF); clear M OF
 first | exact ⟨rfl,.tuple #[],by kernel_rfl,rfl,HS.out⟩ | (go_wp2; go_ret; exact ⟨rfl,HS.out⟩)
end Go.Proofs.Ytdengjdfmhcbiaa
