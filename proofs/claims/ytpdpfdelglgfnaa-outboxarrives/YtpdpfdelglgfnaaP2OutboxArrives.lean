/- Texts of Nh Kn Ni LawOutboxLimits, joined. -/
import Derived.Test.YtpdpfdelglgfnaaP1OutboxArrives
import Derived.Deep.Cut
set_option maxRecDepth 20000
set_option maxHeartbeats 64000000
namespace Go.Proofs.Ytpdpfdelglgfnaa
open Go.RowKit
def os0:Obx:=onew 4
theorem os0_w:ObxW os0:=onew_w 4
def os1:Obx:=oal os0 9
theorem os1_w:ObxW os1:=oal_w os0_w (by unfold i64; decide)
def os2:Obx:=owr os1 [97,98,99,100,101,102]
theorem os2_w:ObxW os2:=owr_w os1_w (by unfold Byts; decide)
def os3:Obx:=onx os2 3
theorem os3_w:ObxW os3:=onx_w os2_w 3
def os4:Obx:=onx os3 9
theorem os4_w:ObxW os4:=onx_w os3_w 9
def os5:Obx:=onx os4 9
theorem os5_w:ObxW os5:=onx_w os4_w 9
def os6:Obx:=olo os5 1 2
theorem os6_w:ObxW os6:=olo_w os5_w 1 2
def os7:Obx:=onx os6 9
theorem os7_w:ObxW os7:=onx_w os6_w 9
def os8:Obx:=olo os7 0 9
theorem os8_w:ObxW os8:=olo_w os7_w 0 9
def os9:Obx:=oac os8 2 [(3,4)]
theorem os9_w:ObxW os9:=oac_w os8_w 2 _
def os10:Obx:=onx os9 9
theorem os10_w:ObxW os10:=onx_w os9_w 9
def os11:Obx:=owr os10 [120,121,122]
theorem os11_w:ObxW os11:=owr_w os10_w (by unfold Byts; decide)
def os12:Obx:=oac os11 3 []
theorem os12_w:ObxW os12:=oac_w os11_w 3 _
theorem os2F:onF os2 3=0:=by decide +kernel
theorem os2B:onB os2 3=[97,98,99]:=by decide +kernel
theorem os2N:decide (0<onN os2 3)=true:=by decide +kernel
theorem os3F:onF os3 9=3:=by decide +kernel
theorem os3B:onB os3 9=[100]:=by decide +kernel
theorem os3N:decide (0<onN os3 9)=true:=by decide +kernel
theorem os4F:onF os4 9=0:=by decide +kernel
theorem os4B:onB os4 9=[]:=by decide +kernel
theorem os4N:decide (0<onN os4 9)=false:=by decide +kernel
theorem os6F:onF os6 9=1:=by decide +kernel
theorem os6B:onB os6 9=[98,99]:=by decide +kernel
theorem os6N:decide (0<onN os6 9)=true:=by decide +kernel
theorem os9F:onF os9 9=2:=by decide +kernel
theorem os9B:onB os9 9=[99]:=by decide +kernel
theorem os9N:decide (0<onN os9 9)=true:=by decide +kernel
theorem osw1:owN os1 6=4:=by decide +kernel
theorem osw2:owN os10 3=2:=by decide +kernel
theorem osb1:obase os10=2:=by decide +kernel
theorem osb2:obase os12=4:=by decide +kernel
theorem ose:os11.b.length=6:=by decide +kernel
theorem osi:oid os12=false:=by decide +kernel
theorem os0_l:os0.b.length<1000000:=by decide +kernel
theorem os1_l:os1.b.length<1000000:=by decide +kernel
theorem os2_l:os2.b.length<1000000:=by decide +kernel
theorem os3_l:os3.b.length<1000000:=by decide +kernel
theorem os4_l:os4.b.length<1000000:=by decide +kernel
theorem os5_l:os5.b.length<1000000:=by decide +kernel
theorem os6_l:os6.b.length<1000000:=by decide +kernel
theorem os7_l:os7.b.length<1000000:=by decide +kernel
theorem os8_l:os8.b.length<1000000:=by decide +kernel
theorem os9_l:os9.b.length<1000000:=by decide +kernel
theorem os10_l:os10.b.length<1000000:=by decide +kernel
theorem os11_l:os11.b.length<1000000:=by decide +kernel
theorem os12_l:os12.b.length<1000000:=by decide +kernel
theorem shown18_any {I:OutI} (hK:OutOK I) (w0:World) :
 Calls Try.prog 7 #[] w0 fun e w'=>e=.returned (.bool true)∧Below w0.heap.size w0 w':=by
 have M:=Mm.init w0
 go_enter Try.func7,Try.ntmps7
 go_upto_region 0 with fail; refine wp_region_list ?_; refine xpL (.bool false) ?_; refine xT ?_; go_upto_region 1 with fail; refine wp_region_list ?_; have key:=hK.new w0 _ _ 4 (by unfold i64; decide) M; refine xcL key ?_; clear key; rintro e w1 ⟨v_,ba0,rfl,hIa,M',l_⟩
 obtain ⟨Ra,rfl⟩:=hK.ptr _ _ _ _ hIa
 clear M; have M:=M'.perm (pull0 ([]:List (Nat × List Value)) ba0 ([]:List (Nat × List Value))).symm; clear M'; clear l_
 replace M:Mm w0 ((ba0++([]:List (Nat × List Value)))) w1:=M
 refine xeL ?_; refine xpL (.pointer (some ⟨Ra,0,none⟩)) ?_; refine xT ?_; go_upto_region 2 with fail; refine wp_region_list ?_; refine xpL (.pointer (some ⟨Ra,0,none⟩)) ?_; refine xpL (.bool false) ?_; refine xT ?_; go_upto_region 4 with fail; refine wp_region_list ?_; refine xpL (.pointer (some ⟨Ra,0,none⟩)) ?_
 have Mp:=M.perm (pull0 ([]:List (Nat × List Value)) ba0 ([]:List (Nat × List Value))); have key:=hK.alw w0 _ _ os0 ba0 _ 9 os0_w os0_l (by unfold i64; decide) hIa Mp
 rw [show oal os0 9=os1 from rfl] at key
 refine xcL key ?_; clear key; rintro e w2 ⟨ba1,rfl,hI_,M',o1⟩; clear o1 Mp M hIa; have hIa:=hI_; clear hI_
 have M:Mm w0 ((ba1++([]:List (Nat × List Value)))) w2:=M'.perm (pull0 ([]:List (Nat × List Value)) ba1 ([]:List (Nat × List Value))).symm
 clear M'; refine xeL ?_; refine xT ?_; go_upto_region 5 with fail; refine wp_region_list ?_; refine xpL (.pointer (some ⟨Ra,0,none⟩)) ?_; refine actL (w':=w2.alloc (.cells #[.int .u8 97,.int .u8 98,.int .u8 99,.int .u8 100,.int .u8 101,.int .u8 102] 5)) (.slice (some ⟨w2.heap.size,0,none⟩) 6 6) rfl (by kernel_rfl) ?_; simp only [aP,lI,l0,lS]
 refine actL (w':=w2.alloc (.cells #[.int .u8 97,.int .u8 98,.int .u8 99,.int .u8 100,.int .u8 101,.int .u8 102] 5 ((#[.int .u8 97,.int .u8 98,.int .u8 99,.int .u8 100,.int .u8 101,.int .u8 102]:Array Value).size,(#[.int .u8 97,.int .u8 98,.int .u8 99,.int .u8 100,.int .u8 101,.int .u8 102]:Array Value).size+1))) (.slice (some ⟨w2.heap.size,0,none⟩) 6 6) rfl (conv_const 28 5 #[.int .u8 97,.int .u8 98,.int .u8 99,.int .u8 100,.int .u8 101,.int .u8 102] 6 6 _ rfl rfl Try.underlying28 Try.underlying5) ?_
 simp only [aP,lI,l0,lS]; have hlb:=(Below.refl w2.heap.size w2).alloc (xnR _) (.cells #[.int .u8 97,.int .u8 98,.int .u8 99,.int .u8 100,.int .u8 101,.int .u8 102] 5 ((#[.int .u8 97,.int .u8 98,.int .u8 99,.int .u8 100,.int .u8 101,.int .u8 102]:Array Value).size,(#[.int .u8 97,.int .u8 98,.int .u8 99,.int .u8 100,.int .u8 101,.int .u8 102]:Array Value).size+1))
 replace hIa:=hK.bel hIa hlb; replace M:=M.boxC #[.int .u8 97,.int .u8 98,.int .u8 99,.int .u8 100,.int .u8 101,.int .u8 102] 5 (((#[.int .u8 97,.int .u8 98,.int .u8 99,.int .u8 100,.int .u8 101,.int .u8 102]:Array Value)).size,((#[.int .u8 97,.int .u8 98,.int .u8 99,.int .u8 100,.int .u8 101,.int .u8 102]:Array Value)).size+1) w2.heap.size rfl (xnR _); clear hlb
 generalize w2.alloc (.cells #[.int .u8 97,.int .u8 98,.int .u8 99,.int .u8 100,.int .u8 101,.int .u8 102] 5 ((#[.int .u8 97,.int .u8 98,.int .u8 99,.int .u8 100,.int .u8 101,.int .u8 102]:Array Value).size,(#[.int .u8 97,.int .u8 98,.int .u8 99,.int .u8 100,.int .u8 101,.int .u8 102]:Array Value).size+1))=w3 at M hIa ⊢; generalize w2.heap.size=B3 at M ⊢
 replace M:Mm w0 ((B3,[.int .u8 97,.int .u8 98,.int .u8 99,.int .u8 100,.int .u8 101,.int .u8 102])::(ba1++([]:List (Nat × List Value)))) w3:=M
 have Mp:=M.perm (pull0 ([(B3,[.int .u8 97,.int .u8 98,.int .u8 99,.int .u8 100,.int .u8 101,.int .u8 102])]:List (Nat × List Value)) ba1 ([]:List (Nat × List Value)))
 have key:=hK.wrt w0 _ _ os1 ba1 _ (some ⟨B3,0,none⟩) 6 [97,98,99,100,101,102] os1_w os1_l (by decide) (by decide) (fun e=>by cases e) (by unfold Byts; decide) hIa Mp (show SrcA _ _ _ _ _ from ⟨(M.src mS [97,98,99,100,101,102] rfl),fun ad e _=>by cases e; exact Mp.beside mS⟩)
 rw [show owN os1 ([97,98,99,100,101,102]:List Int).length=4 from osw1] at key
 rw [show owr os1 [97,98,99,100,101,102]=os2 from rfl] at key
 refine xcL key ?_; clear key; rintro e w4 ⟨ba2,rfl,hI_,M',o1⟩; clear o1 Mp M hIa; have hIa:=hI_; clear hI_
 have M:Mm w0 ((B3,[.int .u8 97,.int .u8 98,.int .u8 99,.int .u8 100,.int .u8 101,.int .u8 102])::(ba2++([]:List (Nat × List Value)))) w4:=M'.perm (pull0 ([(B3,[.int .u8 97,.int .u8 98,.int .u8 99,.int .u8 100,.int .u8 101,.int .u8 102])]:List (Nat × List Value)) ba2 ([]:List (Nat × List Value))).symm
 clear M'; refine xeL ?_; refine xpL (.int .i64 ((4:Nat):Int)) ?_; refine xT ?_; go_upto_region 6 with fail; refine wp_region_list ?_; refine xpL (.pointer (some ⟨Ra,0,none⟩)) ?_; have Mp:=M.perm (pull0 ([(B3,[.int .u8 97,.int .u8 98,.int .u8 99,.int .u8 100,.int .u8 101,.int .u8 102])]:List (Nat × List Value)) ba2 ([]:List (Nat × List Value)))
 have key:=hK.nxt w0 _ _ os2 ba2 _ 3 os2_w os2_l (by unfold i64; decide) hIa Mp
 rw [os2F] at key
 rw [os2B] at key
 rw [os2N] at key
 rw [show onx os2 3=os3 from rfl] at key
 refine xcL key ?_; clear key; rintro e w5 ⟨p5,c5,ba3,rfl,N_5,T_5,hI_,M',o1⟩; clear o1 Mp M hIa; have hIa:=hI_; clear hI_
 have M:Mm w0 ((B3,[.int .u8 97,.int .u8 98,.int .u8 99,.int .u8 100,.int .u8 101,.int .u8 102])::(ba3++((obs p5)++([]:List (Nat × List Value))))) w5:=M'.perm (pullY ([(B3,[.int .u8 97,.int .u8 98,.int .u8 99,.int .u8 100,.int .u8 101,.int .u8 102])]:List (Nat × List Value)) ba3 (obs p5) ([]:List (Nat × List Value)))
 clear M'; refine xeL ?_
 obtain ⟨bs5,N_5⟩:∃ b_,NewF w5 b_ ([97,98,99]:List Int).length (bl ([97,98,99])) (.slice p5 ([97,98,99]:List Int).length c5):=⟨_,N_5⟩
 refine xpL (.tuple #[.agg #[.int .i64 ((0:Nat):Int),.slice p5 (([97,98,99]:List Int).length) c5],.bool true]) ?_; refine xpL (.agg #[.int .i64 ((0:Nat):Int),.slice p5 (([97,98,99]:List Int).length) c5]) ?_; refine xpL (.bool true) ?_; have hlb:=(Below.refl w5.heap.size w5).alloc (xnR _) (.cells #[.int .i64 0,.slice none 0 0] 35)
 refine actL (w':=w5.alloc (.cells #[.int .i64 0,.slice none 0 0] 35)) (.pointer (some ⟨w5.heap.size,0,none⟩)) rfl (by kernel_rfl) ?_; simp only [aP,lI,l0,lS]; replace hIa:=hK.bel hIa hlb; replace N_5:=NewF.below N_5 hlb; replace T_5:=Wrt.below T_5 hlb; replace M:=M.box #[.int .i64 0,.slice none 0 0] 35 w5.heap.size rfl; clear hlb
 generalize w5.alloc (.cells #[.int .i64 0,.slice none 0 0] 35)=w6 at M hIa N_5 T_5 ⊢; generalize w5.heap.size=B6 at M ⊢
 replace M:Mm w0 ((B6,[.int .i64 0,.slice none 0 0])::(B3,[.int .u8 97,.int .u8 98,.int .u8 99,.int .u8 100,.int .u8 101,.int .u8 102])::(ba3++((obs p5)++([]:List (Nat × List Value))))) w6:=M
 refine skipOpL rfl (storeP [.int .i64 ((0:Nat):Int),.slice p5 (([97,98,99]:List Int).length) c5] B6 0 35 _ _ rfl rfl rfl (M.thereP mS 0 2 (Nat.le_of_ble_eq_true rfl)) (by kernel_rfl) (List.all_eq_true.1 (rfl:([.int .i64 ((0:Nat):Int),.slice p5 (([97,98,99]:List Int).length) c5]:List Value).all (fun u=>u.oneCell')=true))) ?_; simp only [Act.put]
 replace M:=M.setPart [.int .i64 ((0:Nat):Int),.slice p5 (([97,98,99]:List Int).length) c5] 0 (Nat.le_of_ble_eq_true rfl); replace hIa:=hK.off _ _ _ _ _ _ hIa ((Off.refl [B6] _).setAll (b:=B6) mS 0 [.int .i64 ((0:Nat):Int),.slice p5 (([97,98,99]:List Int).length) c5]) (fun b_ hb_=>by obtain rfl:=xm1 hb_; exact M.awayC (fun p_ hp_=>by simp [hp_]))
 replace N_5:=NewF.offB N_5 ((Off.refl [B6] _).setAll (b:=B6) mS 0 [.int .i64 ((0:Nat):Int),.slice p5 (([97,98,99]:List Int).length) c5]) (fun b_ hb_=>by obtain rfl:=xm1 hb_; exact M.awayB (fun p_ hp_=>by simp [hp_]))
 replace T_5:=Wrt.offB T_5 ((Off.refl [B6] _).setAll (b:=B6) mS 0 [.int .i64 ((0:Nat):Int),.slice p5 (([97,98,99]:List Int).length) c5]) (fun b_ hb_=>by obtain rfl:=xm1 hb_; exact M.awayB (fun p_ hp_=>by simp [hp_])); generalize w6.setCells B6 0 [.int .i64 ((0:Nat):Int),.slice p5 (([97,98,99]:List Int).length) c5]=w7 at M hIa N_5 T_5 ⊢
 replace M:Mm w0 ((B6,[.int .i64 ((0:Nat):Int),.slice p5 (([97,98,99]:List Int).length) c5])::(B3,[.int .u8 97,.int .u8 98,.int .u8 99,.int .u8 100,.int .u8 101,.int .u8 102])::(ba3++((obs p5)++([]:List (Nat × List Value))))) w7:=M
 refine xpL (.bool true) ?_; refine xT ?_; go_upto_region 7 with fail; refine wp_region_list ?_; refine xpL (.pointer (some ⟨Ra,0,none⟩)) ?_
 have Mp:=M.perm (pull0 ([(B6,[.int .i64 ((0:Nat):Int),.slice p5 (([97,98,99]:List Int).length) c5]),(B3,[.int .u8 97,.int .u8 98,.int .u8 99,.int .u8 100,.int .u8 101,.int .u8 102])]:List (Nat × List Value)) ba3 ((obs p5)++([]:List (Nat × List Value)))); have key:=hK.nxt w0 _ _ os3 ba3 _ 9 os3_w os3_l (by unfold i64; decide) hIa Mp
 rw [os3F] at key
 rw [os3B] at key
 rw [os3N] at key
 rw [show onx os3 9=os4 from rfl] at key
 refine xcL key ?_; clear key; rintro e w8 ⟨p8,c8,ba4,rfl,N_8,T_8,hI_,M',o1⟩; replace N_5:=NewF.offB N_5 o1 (Mp.awayS (fun p_ hp_=>by simp [hp_])); replace T_5:=Wrt.offB T_5 o1 (Mp.awayS (fun p_ hp_=>by simp [hp_])); clear o1 Mp M hIa; have hIa:=hI_; clear hI_
 have M:Mm w0 ((B6,[.int .i64 ((0:Nat):Int),.slice p5 (([97,98,99]:List Int).length) c5])::(B3,[.int .u8 97,.int .u8 98,.int .u8 99,.int .u8 100,.int .u8 101,.int .u8 102])::(ba4++((obs p8)++((obs p5)++([]:List (Nat × List Value)))))) w8:=M'.perm (pullY ([(B6,[.int .i64 ((0:Nat):Int),.slice p5 (([97,98,99]:List Int).length) c5]),(B3,[.int .u8 97,.int .u8 98,.int .u8 99,.int .u8 100,.int .u8 101,.int .u8 102])]:List (Nat × List Value)) ba4 (obs p8) ((obs p5)++([]:List (Nat × List Value))))
 clear M'; refine xeL ?_
 obtain ⟨bs8,N_8⟩:∃ b_,NewF w8 b_ ([100]:List Int).length (bl ([100])) (.slice p8 ([100]:List Int).length c8):=⟨_,N_8⟩
 refine xpL (.tuple #[.agg #[.int .i64 ((3:Nat):Int),.slice p8 (([100]:List Int).length) c8],.bool true]) ?_; refine xpL (.agg #[.int .i64 ((3:Nat):Int),.slice p8 (([100]:List Int).length) c8]) ?_; refine xpL (.bool true) ?_; have hlb:=(Below.refl w8.heap.size w8).alloc (xnR _) (.cells #[.int .i64 0,.slice none 0 0] 35)
 refine actL (w':=w8.alloc (.cells #[.int .i64 0,.slice none 0 0] 35)) (.pointer (some ⟨w8.heap.size,0,none⟩)) rfl (by kernel_rfl) ?_; simp only [aP,lI,l0,lS]; replace hIa:=hK.bel hIa hlb; replace N_5:=NewF.below N_5 hlb; replace T_5:=Wrt.below T_5 hlb; replace N_8:=NewF.below N_8 hlb; replace T_8:=Wrt.below T_8 hlb
 replace M:=M.box #[.int .i64 0,.slice none 0 0] 35 w8.heap.size rfl; clear hlb; generalize w8.alloc (.cells #[.int .i64 0,.slice none 0 0] 35)=w9 at M hIa N_5 T_5 N_8 T_8 ⊢; generalize w8.heap.size=B9 at M ⊢
 replace M:Mm w0 ((B9,[.int .i64 0,.slice none 0 0])::(B6,[.int .i64 ((0:Nat):Int),.slice p5 (([97,98,99]:List Int).length) c5])::(B3,[.int .u8 97,.int .u8 98,.int .u8 99,.int .u8 100,.int .u8 101,.int .u8 102])::(ba4++((obs p8)++((obs p5)++([]:List (Nat × List Value)))))) w9:=M
 refine skipOpL rfl (storeP [.int .i64 ((3:Nat):Int),.slice p8 (([100]:List Int).length) c8] B9 0 35 _ _ rfl rfl rfl (M.thereP mS 0 2 (Nat.le_of_ble_eq_true rfl)) (by kernel_rfl) (List.all_eq_true.1 (rfl:([.int .i64 ((3:Nat):Int),.slice p8 (([100]:List Int).length) c8]:List Value).all (fun u=>u.oneCell')=true))) ?_; simp only [Act.put]
 replace M:=M.setPart [.int .i64 ((3:Nat):Int),.slice p8 (([100]:List Int).length) c8] 0 (Nat.le_of_ble_eq_true rfl); replace hIa:=hK.off _ _ _ _ _ _ hIa ((Off.refl [B9] _).setAll (b:=B9) mS 0 [.int .i64 ((3:Nat):Int),.slice p8 (([100]:List Int).length) c8]) (fun b_ hb_=>by obtain rfl:=xm1 hb_; exact M.awayC (fun p_ hp_=>by simp [hp_]))
 replace N_5:=NewF.offB N_5 ((Off.refl [B9] _).setAll (b:=B9) mS 0 [.int .i64 ((3:Nat):Int),.slice p8 (([100]:List Int).length) c8]) (fun b_ hb_=>by obtain rfl:=xm1 hb_; exact M.awayB (fun p_ hp_=>by simp [hp_]))
 replace T_5:=Wrt.offB T_5 ((Off.refl [B9] _).setAll (b:=B9) mS 0 [.int .i64 ((3:Nat):Int),.slice p8 (([100]:List Int).length) c8]) (fun b_ hb_=>by obtain rfl:=xm1 hb_; exact M.awayB (fun p_ hp_=>by simp [hp_]))
 replace N_8:=NewF.offB N_8 ((Off.refl [B9] _).setAll (b:=B9) mS 0 [.int .i64 ((3:Nat):Int),.slice p8 (([100]:List Int).length) c8]) (fun b_ hb_=>by obtain rfl:=xm1 hb_; exact M.awayB (fun p_ hp_=>by simp [hp_]))
 replace T_8:=Wrt.offB T_8 ((Off.refl [B9] _).setAll (b:=B9) mS 0 [.int .i64 ((3:Nat):Int),.slice p8 (([100]:List Int).length) c8]) (fun b_ hb_=>by obtain rfl:=xm1 hb_; exact M.awayB (fun p_ hp_=>by simp [hp_])); generalize w9.setCells B9 0 [.int .i64 ((3:Nat):Int),.slice p8 (([100]:List Int).length) c8]=w10 at M hIa N_5 T_5 N_8 T_8 ⊢
 replace M:Mm w0 ((B9,[.int .i64 ((3:Nat):Int),.slice p8 (([100]:List Int).length) c8])::(B6,[.int .i64 ((0:Nat):Int),.slice p5 (([97,98,99]:List Int).length) c5])::(B3,[.int .u8 97,.int .u8 98,.int .u8 99,.int .u8 100,.int .u8 101,.int .u8 102])::(ba4++((obs p8)++((obs p5)++([]:List (Nat × List Value)))))) w10:=M
 refine xpL (.bool true) ?_; refine xT ?_; go_upto_region 8 with fail; refine wp_region_list ?_; refine xpL (.pointer (some ⟨Ra,0,none⟩)) ?_
 have Mp:=M.perm (pull0 ([(B9,[.int .i64 ((3:Nat):Int),.slice p8 (([100]:List Int).length) c8]),(B6,[.int .i64 ((0:Nat):Int),.slice p5 (([97,98,99]:List Int).length) c5]),(B3,[.int .u8 97,.int .u8 98,.int .u8 99,.int .u8 100,.int .u8 101,.int .u8 102])]:List (Nat × List Value)) ba4 ((obs p8)++((obs p5)++([]:List (Nat × List Value)))))
 have key:=hK.nxt w0 _ _ os4 ba4 _ 9 os4_w os4_l (by unfold i64; decide) hIa Mp
 rw [os4F] at key
 rw [os4B] at key
 rw [os4N] at key
 rw [show onx os4 9=os5 from rfl] at key
 refine xcL key ?_; clear key; rintro e w11 ⟨p11,c11,ba5,rfl,N_11,T_11,hI_,M',o1⟩; replace N_5:=NewF.offB N_5 o1 (Mp.awayS (fun p_ hp_=>by simp [hp_])); replace T_5:=Wrt.offB T_5 o1 (Mp.awayS (fun p_ hp_=>by simp [hp_])); replace N_8:=NewF.offB N_8 o1 (Mp.awayS (fun p_ hp_=>by simp [hp_])); replace T_8:=Wrt.offB T_8 o1 (Mp.awayS (fun p_ hp_=>by simp [hp_]))
 clear o1 Mp M hIa; have hIa:=hI_; clear hI_
 have M:Mm w0 ((B9,[.int .i64 ((3:Nat):Int),.slice p8 (([100]:List Int).length) c8])::(B6,[.int .i64 ((0:Nat):Int),.slice p5 (([97,98,99]:List Int).length) c5])::(B3,[.int .u8 97,.int .u8 98,.int .u8 99,.int .u8 100,.int .u8 101,.int .u8 102])::(ba5++((obs p11)++((obs p8)++((obs p5)++([]:List (Nat × List Value))))))) w11:=M'.perm (pullY ([(B9,[.int .i64 ((3:Nat):Int),.slice p8 (([100]:List Int).length) c8]),(B6,[.int .i64 ((0:Nat):Int),.slice p5 (([97,98,99]:List Int).length) c5]),(B3,[.int .u8 97,.int .u8 98,.int .u8 99,.int .u8 100,.int .u8 101,.int .u8 102])]:List (Nat × List Value)) ba5 (obs p11) ((obs p8)++((obs p5)++([]:List (Nat × List Value)))))
 clear M'; refine xeL ?_
 obtain ⟨bs11,N_11⟩:∃ b_,NewF w11 b_ ([]:List Int).length (bl ([])) (.slice p11 ([]:List Int).length c11):=⟨_,N_11⟩
 refine xpL (.tuple #[.agg #[.int .i64 ((0:Nat):Int),.slice p11 (([]:List Int).length) c11],.bool false]) ?_; refine xpL (.agg #[.int .i64 ((0:Nat):Int),.slice p11 (([]:List Int).length) c11]) ?_; refine xpL (.bool false) ?_; have hlb:=(Below.refl w11.heap.size w11).alloc (xnR _) (.cells #[.int .i64 0,.slice none 0 0] 35)
 refine actL (w':=w11.alloc (.cells #[.int .i64 0,.slice none 0 0] 35)) (.pointer (some ⟨w11.heap.size,0,none⟩)) rfl (by kernel_rfl) ?_; simp only [aP,lI,l0,lS]; replace hIa:=hK.bel hIa hlb; replace N_5:=NewF.below N_5 hlb; replace T_5:=Wrt.below T_5 hlb; replace N_8:=NewF.below N_8 hlb; replace T_8:=Wrt.below T_8 hlb; replace N_11:=NewF.below N_11 hlb
 replace T_11:=Wrt.below T_11 hlb; replace M:=M.box #[.int .i64 0,.slice none 0 0] 35 w11.heap.size rfl; clear hlb; generalize w11.alloc (.cells #[.int .i64 0,.slice none 0 0] 35)=w12 at M hIa N_5 T_5 N_8 T_8 N_11 T_11 ⊢; generalize w11.heap.size=B12 at M ⊢
 replace M:Mm w0 ((B12,[.int .i64 0,.slice none 0 0])::(B9,[.int .i64 ((3:Nat):Int),.slice p8 (([100]:List Int).length) c8])::(B6,[.int .i64 ((0:Nat):Int),.slice p5 (([97,98,99]:List Int).length) c5])::(B3,[.int .u8 97,.int .u8 98,.int .u8 99,.int .u8 100,.int .u8 101,.int .u8 102])::(ba5++((obs p11)++((obs p8)++((obs p5)++([]:List (Nat × List Value))))))) w12:=M
 refine skipOpL rfl (storeP [.int .i64 ((0:Nat):Int),.slice p11 (([]:List Int).length) c11] B12 0 35 _ _ rfl rfl rfl (M.thereP mS 0 2 (Nat.le_of_ble_eq_true rfl)) (by kernel_rfl) (List.all_eq_true.1 (rfl:([.int .i64 ((0:Nat):Int),.slice p11 (([]:List Int).length) c11]:List Value).all (fun u=>u.oneCell')=true))) ?_; simp only [Act.put]
 replace M:=M.setPart [.int .i64 ((0:Nat):Int),.slice p11 (([]:List Int).length) c11] 0 (Nat.le_of_ble_eq_true rfl); replace hIa:=hK.off _ _ _ _ _ _ hIa ((Off.refl [B12] _).setAll (b:=B12) mS 0 [.int .i64 ((0:Nat):Int),.slice p11 (([]:List Int).length) c11]) (fun b_ hb_=>by obtain rfl:=xm1 hb_; exact M.awayC (fun p_ hp_=>by simp [hp_]))
 replace N_5:=NewF.offB N_5 ((Off.refl [B12] _).setAll (b:=B12) mS 0 [.int .i64 ((0:Nat):Int),.slice p11 (([]:List Int).length) c11]) (fun b_ hb_=>by obtain rfl:=xm1 hb_; exact M.awayB (fun p_ hp_=>by simp [hp_]))
 replace T_5:=Wrt.offB T_5 ((Off.refl [B12] _).setAll (b:=B12) mS 0 [.int .i64 ((0:Nat):Int),.slice p11 (([]:List Int).length) c11]) (fun b_ hb_=>by obtain rfl:=xm1 hb_; exact M.awayB (fun p_ hp_=>by simp [hp_]))
 replace N_8:=NewF.offB N_8 ((Off.refl [B12] _).setAll (b:=B12) mS 0 [.int .i64 ((0:Nat):Int),.slice p11 (([]:List Int).length) c11]) (fun b_ hb_=>by obtain rfl:=xm1 hb_; exact M.awayB (fun p_ hp_=>by simp [hp_]))
 replace T_8:=Wrt.offB T_8 ((Off.refl [B12] _).setAll (b:=B12) mS 0 [.int .i64 ((0:Nat):Int),.slice p11 (([]:List Int).length) c11]) (fun b_ hb_=>by obtain rfl:=xm1 hb_; exact M.awayB (fun p_ hp_=>by simp [hp_]))
 replace N_11:=NewF.offB N_11 ((Off.refl [B12] _).setAll (b:=B12) mS 0 [.int .i64 ((0:Nat):Int),.slice p11 (([]:List Int).length) c11]) (fun b_ hb_=>by obtain rfl:=xm1 hb_; exact M.awayB (fun p_ hp_=>by simp [hp_]))
 replace T_11:=Wrt.offB T_11 ((Off.refl [B12] _).setAll (b:=B12) mS 0 [.int .i64 ((0:Nat):Int),.slice p11 (([]:List Int).length) c11]) (fun b_ hb_=>by obtain rfl:=xm1 hb_; exact M.awayB (fun p_ hp_=>by simp [hp_])); generalize w12.setCells B12 0 [.int .i64 ((0:Nat):Int),.slice p11 (([]:List Int).length) c11]=w13 at M hIa N_5 T_5 N_8 T_8 N_11 T_11 ⊢
 replace M:Mm w0 ((B12,[.int .i64 ((0:Nat):Int),.slice p11 (([]:List Int).length) c11])::(B9,[.int .i64 ((3:Nat):Int),.slice p8 (([100]:List Int).length) c8])::(B6,[.int .i64 ((0:Nat):Int),.slice p5 (([97,98,99]:List Int).length) c5])::(B3,[.int .u8 97,.int .u8 98,.int .u8 99,.int .u8 100,.int .u8 101,.int .u8 102])::(ba5++((obs p11)++((obs p8)++((obs p5)++([]:List (Nat × List Value))))))) w13:=M
 refine xpL (.bool false) ?_; refine xT ?_; go_upto_region 9 with fail; refine wp_region_list ?_; refine xpL (.pointer (some ⟨Ra,0,none⟩)) ?_
 have Mp:=M.perm (pull0 ([(B12,[.int .i64 ((0:Nat):Int),.slice p11 (([]:List Int).length) c11]),(B9,[.int .i64 ((3:Nat):Int),.slice p8 (([100]:List Int).length) c8]),(B6,[.int .i64 ((0:Nat):Int),.slice p5 (([97,98,99]:List Int).length) c5]),(B3,[.int .u8 97,.int .u8 98,.int .u8 99,.int .u8 100,.int .u8 101,.int .u8 102])]:List (Nat × List Value)) ba5 ((obs p11)++((obs p8)++((obs p5)++([]:List (Nat × List Value))))))
 have key:=hK.lst w0 _ _ os5 ba5 _ 1 2 os5_w os5_l (by unfold i64; decide) (by unfold i64; decide) hIa Mp
 rw [show olo os5 1 2=os6 from rfl] at key
 refine xcL key ?_; clear key; rintro e w14 ⟨ba6,rfl,hI_,M',o1⟩; replace N_5:=NewF.offB N_5 o1 (Mp.awayS (fun p_ hp_=>by simp [hp_])); replace T_5:=Wrt.offB T_5 o1 (Mp.awayS (fun p_ hp_=>by simp [hp_])); replace N_8:=NewF.offB N_8 o1 (Mp.awayS (fun p_ hp_=>by simp [hp_])); replace T_8:=Wrt.offB T_8 o1 (Mp.awayS (fun p_ hp_=>by simp [hp_]))
 replace N_11:=NewF.offB N_11 o1 (Mp.awayS (fun p_ hp_=>by simp [hp_])); replace T_11:=Wrt.offB T_11 o1 (Mp.awayS (fun p_ hp_=>by simp [hp_])); clear o1 Mp M hIa; have hIa:=hI_; clear hI_
 have M:Mm w0 ((B12,[.int .i64 ((0:Nat):Int),.slice p11 (([]:List Int).length) c11])::(B9,[.int .i64 ((3:Nat):Int),.slice p8 (([100]:List Int).length) c8])::(B6,[.int .i64 ((0:Nat):Int),.slice p5 (([97,98,99]:List Int).length) c5])::(B3,[.int .u8 97,.int .u8 98,.int .u8 99,.int .u8 100,.int .u8 101,.int .u8 102])::(ba6++((obs p11)++((obs p8)++((obs p5)++([]:List (Nat × List Value))))))) w14:=M'.perm (pull0 ([(B12,[.int .i64 ((0:Nat):Int),.slice p11 (([]:List Int).length) c11]),(B9,[.int .i64 ((3:Nat):Int),.slice p8 (([100]:List Int).length) c8]),(B6,[.int .i64 ((0:Nat):Int),.slice p5 (([97,98,99]:List Int).length) c5]),(B3,[.int .u8 97,.int .u8 98,.int .u8 99,.int .u8 100,.int .u8 101,.int .u8 102])]:List (Nat × List Value)) ba6 ((obs p11)++((obs p8)++((obs p5)++([]:List (Nat × List Value)))))).symm
 clear M'; refine xeL ?_; refine xT ?_; go_upto_region 10 with fail; refine wp_region_list ?_; refine xpL (.pointer (some ⟨Ra,0,none⟩)) ?_
 have Mp:=M.perm (pull0 ([(B12,[.int .i64 ((0:Nat):Int),.slice p11 (([]:List Int).length) c11]),(B9,[.int .i64 ((3:Nat):Int),.slice p8 (([100]:List Int).length) c8]),(B6,[.int .i64 ((0:Nat):Int),.slice p5 (([97,98,99]:List Int).length) c5]),(B3,[.int .u8 97,.int .u8 98,.int .u8 99,.int .u8 100,.int .u8 101,.int .u8 102])]:List (Nat × List Value)) ba6 ((obs p11)++((obs p8)++((obs p5)++([]:List (Nat × List Value))))))
 have key:=hK.nxt w0 _ _ os6 ba6 _ 9 os6_w os6_l (by unfold i64; decide) hIa Mp
 rw [os6F] at key
 rw [os6B] at key
 rw [os6N] at key
 rw [show onx os6 9=os7 from rfl] at key
 refine xcL key ?_; clear key; rintro e w15 ⟨p15,c15,ba7,rfl,N_15,T_15,hI_,M',o1⟩; replace N_5:=NewF.offB N_5 o1 (Mp.awayS (fun p_ hp_=>by simp [hp_])); replace T_5:=Wrt.offB T_5 o1 (Mp.awayS (fun p_ hp_=>by simp [hp_])); replace N_8:=NewF.offB N_8 o1 (Mp.awayS (fun p_ hp_=>by simp [hp_])); replace T_8:=Wrt.offB T_8 o1 (Mp.awayS (fun p_ hp_=>by simp [hp_]))
 replace N_11:=NewF.offB N_11 o1 (Mp.awayS (fun p_ hp_=>by simp [hp_])); replace T_11:=Wrt.offB T_11 o1 (Mp.awayS (fun p_ hp_=>by simp [hp_])); clear o1 Mp M hIa; have hIa:=hI_; clear hI_
 have M:Mm w0 ((B12,[.int .i64 ((0:Nat):Int),.slice p11 (([]:List Int).length) c11])::(B9,[.int .i64 ((3:Nat):Int),.slice p8 (([100]:List Int).length) c8])::(B6,[.int .i64 ((0:Nat):Int),.slice p5 (([97,98,99]:List Int).length) c5])::(B3,[.int .u8 97,.int .u8 98,.int .u8 99,.int .u8 100,.int .u8 101,.int .u8 102])::(ba7++((obs p15)++((obs p11)++((obs p8)++((obs p5)++([]:List (Nat × List Value)))))))) w15:=M'.perm (pullY ([(B12,[.int .i64 ((0:Nat):Int),.slice p11 (([]:List Int).length) c11]),(B9,[.int .i64 ((3:Nat):Int),.slice p8 (([100]:List Int).length) c8]),(B6,[.int .i64 ((0:Nat):Int),.slice p5 (([97,98,99]:List Int).length) c5]),(B3,[.int .u8 97,.int .u8 98,.int .u8 99,.int .u8 100,.int .u8 101,.int .u8 102])]:List (Nat × List Value)) ba7 (obs p15) ((obs p11)++((obs p8)++((obs p5)++([]:List (Nat × List Value))))))
 clear M'; refine xeL ?_
 obtain ⟨bs15,N_15⟩:∃ b_,NewF w15 b_ ([98,99]:List Int).length (bl ([98,99])) (.slice p15 ([98,99]:List Int).length c15):=⟨_,N_15⟩
 refine xpL (.tuple #[.agg #[.int .i64 ((1:Nat):Int),.slice p15 (([98,99]:List Int).length) c15],.bool true]) ?_; refine xpL (.agg #[.int .i64 ((1:Nat):Int),.slice p15 (([98,99]:List Int).length) c15]) ?_; refine xpL (.bool true) ?_; have hlb:=(Below.refl w15.heap.size w15).alloc (xnR _) (.cells #[.int .i64 0,.slice none 0 0] 35)
 refine actL (w':=w15.alloc (.cells #[.int .i64 0,.slice none 0 0] 35)) (.pointer (some ⟨w15.heap.size,0,none⟩)) rfl (by kernel_rfl) ?_; simp only [aP,lI,l0,lS]; replace hIa:=hK.bel hIa hlb; replace N_5:=NewF.below N_5 hlb; replace T_5:=Wrt.below T_5 hlb; replace N_8:=NewF.below N_8 hlb; replace T_8:=Wrt.below T_8 hlb; replace N_11:=NewF.below N_11 hlb
 replace T_11:=Wrt.below T_11 hlb; replace N_15:=NewF.below N_15 hlb; replace T_15:=Wrt.below T_15 hlb; replace M:=M.box #[.int .i64 0,.slice none 0 0] 35 w15.heap.size rfl; clear hlb; generalize w15.alloc (.cells #[.int .i64 0,.slice none 0 0] 35)=w16 at M hIa N_5 T_5 N_8 T_8 N_11 T_11 N_15 T_15 ⊢; generalize w15.heap.size=B16 at M ⊢
 replace M:Mm w0 ((B16,[.int .i64 0,.slice none 0 0])::(B12,[.int .i64 ((0:Nat):Int),.slice p11 (([]:List Int).length) c11])::(B9,[.int .i64 ((3:Nat):Int),.slice p8 (([100]:List Int).length) c8])::(B6,[.int .i64 ((0:Nat):Int),.slice p5 (([97,98,99]:List Int).length) c5])::(B3,[.int .u8 97,.int .u8 98,.int .u8 99,.int .u8 100,.int .u8 101,.int .u8 102])::(ba7++((obs p15)++((obs p11)++((obs p8)++((obs p5)++([]:List (Nat × List Value)))))))) w16:=M
 refine skipOpL rfl (storeP [.int .i64 ((1:Nat):Int),.slice p15 (([98,99]:List Int).length) c15] B16 0 35 _ _ rfl rfl rfl (M.thereP mS 0 2 (Nat.le_of_ble_eq_true rfl)) (by kernel_rfl) (List.all_eq_true.1 (rfl:([.int .i64 ((1:Nat):Int),.slice p15 (([98,99]:List Int).length) c15]:List Value).all (fun u=>u.oneCell')=true))) ?_; simp only [Act.put]
 replace M:=M.setPart [.int .i64 ((1:Nat):Int),.slice p15 (([98,99]:List Int).length) c15] 0 (Nat.le_of_ble_eq_true rfl); replace hIa:=hK.off _ _ _ _ _ _ hIa ((Off.refl [B16] _).setAll (b:=B16) mS 0 [.int .i64 ((1:Nat):Int),.slice p15 (([98,99]:List Int).length) c15]) (fun b_ hb_=>by obtain rfl:=xm1 hb_; exact M.awayC (fun p_ hp_=>by simp [hp_]))
 replace N_5:=NewF.offB N_5 ((Off.refl [B16] _).setAll (b:=B16) mS 0 [.int .i64 ((1:Nat):Int),.slice p15 (([98,99]:List Int).length) c15]) (fun b_ hb_=>by obtain rfl:=xm1 hb_; exact M.awayB (fun p_ hp_=>by simp [hp_]))
 replace T_5:=Wrt.offB T_5 ((Off.refl [B16] _).setAll (b:=B16) mS 0 [.int .i64 ((1:Nat):Int),.slice p15 (([98,99]:List Int).length) c15]) (fun b_ hb_=>by obtain rfl:=xm1 hb_; exact M.awayB (fun p_ hp_=>by simp [hp_]))
 replace N_8:=NewF.offB N_8 ((Off.refl [B16] _).setAll (b:=B16) mS 0 [.int .i64 ((1:Nat):Int),.slice p15 (([98,99]:List Int).length) c15]) (fun b_ hb_=>by obtain rfl:=xm1 hb_; exact M.awayB (fun p_ hp_=>by simp [hp_]))
 replace T_8:=Wrt.offB T_8 ((Off.refl [B16] _).setAll (b:=B16) mS 0 [.int .i64 ((1:Nat):Int),.slice p15 (([98,99]:List Int).length) c15]) (fun b_ hb_=>by obtain rfl:=xm1 hb_; exact M.awayB (fun p_ hp_=>by simp [hp_]))
 replace N_11:=NewF.offB N_11 ((Off.refl [B16] _).setAll (b:=B16) mS 0 [.int .i64 ((1:Nat):Int),.slice p15 (([98,99]:List Int).length) c15]) (fun b_ hb_=>by obtain rfl:=xm1 hb_; exact M.awayB (fun p_ hp_=>by simp [hp_]))
 replace T_11:=Wrt.offB T_11 ((Off.refl [B16] _).setAll (b:=B16) mS 0 [.int .i64 ((1:Nat):Int),.slice p15 (([98,99]:List Int).length) c15]) (fun b_ hb_=>by obtain rfl:=xm1 hb_; exact M.awayB (fun p_ hp_=>by simp [hp_]))
 replace N_15:=NewF.offB N_15 ((Off.refl [B16] _).setAll (b:=B16) mS 0 [.int .i64 ((1:Nat):Int),.slice p15 (([98,99]:List Int).length) c15]) (fun b_ hb_=>by obtain rfl:=xm1 hb_; exact M.awayB (fun p_ hp_=>by simp [hp_]))
 replace T_15:=Wrt.offB T_15 ((Off.refl [B16] _).setAll (b:=B16) mS 0 [.int .i64 ((1:Nat):Int),.slice p15 (([98,99]:List Int).length) c15]) (fun b_ hb_=>by obtain rfl:=xm1 hb_; exact M.awayB (fun p_ hp_=>by simp [hp_])); generalize w16.setCells B16 0 [.int .i64 ((1:Nat):Int),.slice p15 (([98,99]:List Int).length) c15]=w17 at M hIa N_5 T_5 N_8 T_8 N_11 T_11 N_15 T_15 ⊢
 replace M:Mm w0 ((B16,[.int .i64 ((1:Nat):Int),.slice p15 (([98,99]:List Int).length) c15])::(B12,[.int .i64 ((0:Nat):Int),.slice p11 (([]:List Int).length) c11])::(B9,[.int .i64 ((3:Nat):Int),.slice p8 (([100]:List Int).length) c8])::(B6,[.int .i64 ((0:Nat):Int),.slice p5 (([97,98,99]:List Int).length) c5])::(B3,[.int .u8 97,.int .u8 98,.int .u8 99,.int .u8 100,.int .u8 101,.int .u8 102])::(ba7++((obs p15)++((obs p11)++((obs p8)++((obs p5)++([]:List (Nat × List Value)))))))) w17:=M
 refine xpL (.bool true) ?_; refine xT ?_; go_upto_region 11 with fail; refine wp_region_list ?_; refine xpL (.pointer (some ⟨Ra,0,none⟩)) ?_
 have Mp:=M.perm (pull0 ([(B16,[.int .i64 ((1:Nat):Int),.slice p15 (([98,99]:List Int).length) c15]),(B12,[.int .i64 ((0:Nat):Int),.slice p11 (([]:List Int).length) c11]),(B9,[.int .i64 ((3:Nat):Int),.slice p8 (([100]:List Int).length) c8]),(B6,[.int .i64 ((0:Nat):Int),.slice p5 (([97,98,99]:List Int).length) c5]),(B3,[.int .u8 97,.int .u8 98,.int .u8 99,.int .u8 100,.int .u8 101,.int .u8 102])]:List (Nat × List Value)) ba7 ((obs p15)++((obs p11)++((obs p8)++((obs p5)++([]:List (Nat × List Value)))))))
 have key:=hK.lst w0 _ _ os7 ba7 _ 0 9 os7_w os7_l (by unfold i64; decide) (by unfold i64; decide) hIa Mp
 rw [show olo os7 0 9=os8 from rfl] at key
 refine xcL key ?_; clear key; rintro e w18 ⟨ba8,rfl,hI_,M',o1⟩; replace N_5:=NewF.offB N_5 o1 (Mp.awayS (fun p_ hp_=>by simp [hp_])); replace T_5:=Wrt.offB T_5 o1 (Mp.awayS (fun p_ hp_=>by simp [hp_])); replace N_8:=NewF.offB N_8 o1 (Mp.awayS (fun p_ hp_=>by simp [hp_])); replace T_8:=Wrt.offB T_8 o1 (Mp.awayS (fun p_ hp_=>by simp [hp_]))
 replace N_11:=NewF.offB N_11 o1 (Mp.awayS (fun p_ hp_=>by simp [hp_])); replace T_11:=Wrt.offB T_11 o1 (Mp.awayS (fun p_ hp_=>by simp [hp_])); replace N_15:=NewF.offB N_15 o1 (Mp.awayS (fun p_ hp_=>by simp [hp_])); replace T_15:=Wrt.offB T_15 o1 (Mp.awayS (fun p_ hp_=>by simp [hp_])); clear o1 Mp M hIa; have hIa:=hI_; clear hI_
 have M:Mm w0 ((B16,[.int .i64 ((1:Nat):Int),.slice p15 (([98,99]:List Int).length) c15])::(B12,[.int .i64 ((0:Nat):Int),.slice p11 (([]:List Int).length) c11])::(B9,[.int .i64 ((3:Nat):Int),.slice p8 (([100]:List Int).length) c8])::(B6,[.int .i64 ((0:Nat):Int),.slice p5 (([97,98,99]:List Int).length) c5])::(B3,[.int .u8 97,.int .u8 98,.int .u8 99,.int .u8 100,.int .u8 101,.int .u8 102])::(ba8++((obs p15)++((obs p11)++((obs p8)++((obs p5)++([]:List (Nat × List Value)))))))) w18:=M'.perm (pull0 ([(B16,[.int .i64 ((1:Nat):Int),.slice p15 (([98,99]:List Int).length) c15]),(B12,[.int .i64 ((0:Nat):Int),.slice p11 (([]:List Int).length) c11]),(B9,[.int .i64 ((3:Nat):Int),.slice p8 (([100]:List Int).length) c8]),(B6,[.int .i64 ((0:Nat):Int),.slice p5 (([97,98,99]:List Int).length) c5]),(B3,[.int .u8 97,.int .u8 98,.int .u8 99,.int .u8 100,.int .u8 101,.int .u8 102])]:List (Nat × List Value)) ba8 ((obs p15)++((obs p11)++((obs p8)++((obs p5)++([]:List (Nat × List Value))))))).symm
 clear M'; refine xeL ?_; refine xT ?_; go_upto_region 12 with fail; refine wp_region_list ?_; refine xpL (.pointer (some ⟨Ra,0,none⟩)) ?_; refine xpL (.agg #[.int .i64 3,.int .i64 4]) ?_; have hlb:=(Below.refl w18.heap.size w18).alloc (xnR _) (.cells #[.int .i64 3,.int .i64 4] 49)
 refine actL (w':=w18.alloc (.cells #[.int .i64 3,.int .i64 4] 49)) (.slice (some ⟨w18.heap.size,0,none⟩) 1 1) rfl (by kernel_rfl) ?_; simp only [aP,lI,l0,lS]; replace hIa:=hK.bel hIa hlb; replace N_5:=NewF.below N_5 hlb; replace T_5:=Wrt.below T_5 hlb; replace N_8:=NewF.below N_8 hlb; replace T_8:=Wrt.below T_8 hlb; replace N_11:=NewF.below N_11 hlb
 replace T_11:=Wrt.below T_11 hlb; replace N_15:=NewF.below N_15 hlb; replace T_15:=Wrt.below T_15 hlb; replace M:=M.box #[.int .i64 3,.int .i64 4] 49 w18.heap.size rfl; clear hlb; generalize w18.alloc (.cells #[.int .i64 3,.int .i64 4] 49)=w19 at M hIa N_5 T_5 N_8 T_8 N_11 T_11 N_15 T_15 ⊢; generalize w18.heap.size=B19 at M ⊢
 replace M:Mm w0 ((B19,[.int .i64 3,.int .i64 4])::(B16,[.int .i64 ((1:Nat):Int),.slice p15 (([98,99]:List Int).length) c15])::(B12,[.int .i64 ((0:Nat):Int),.slice p11 (([]:List Int).length) c11])::(B9,[.int .i64 ((3:Nat):Int),.slice p8 (([100]:List Int).length) c8])::(B6,[.int .i64 ((0:Nat):Int),.slice p5 (([97,98,99]:List Int).length) c5])::(B3,[.int .u8 97,.int .u8 98,.int .u8 99,.int .u8 100,.int .u8 101,.int .u8 102])::(ba8++((obs p15)++((obs p11)++((obs p8)++((obs p5)++([]:List (Nat × List Value)))))))) w19:=M
 have Mp:=M.perm (pull0 ([(B19,[.int .i64 3,.int .i64 4]),(B16,[.int .i64 ((1:Nat):Int),.slice p15 (([98,99]:List Int).length) c15]),(B12,[.int .i64 ((0:Nat):Int),.slice p11 (([]:List Int).length) c11]),(B9,[.int .i64 ((3:Nat):Int),.slice p8 (([100]:List Int).length) c8]),(B6,[.int .i64 ((0:Nat):Int),.slice p5 (([97,98,99]:List Int).length) c5]),(B3,[.int .u8 97,.int .u8 98,.int .u8 99,.int .u8 100,.int .u8 101,.int .u8 102])]:List (Nat × List Value)) ba8 ((obs p15)++((obs p11)++((obs p8)++((obs p5)++([]:List (Nat × List Value)))))))
 have key:=hK.ack w0 _ _ os8 ba8 _ 2 ([(3,4)]) (some ⟨B19,0,none⟩) 1 os8_w os8_l (by unfold i64; decide) (by decide) (by unfold i64; decide) (RgW.ofW (M.newWt mS [(3,4)] rfl (by decide))) (fun b_ hb_ _ h_=>by obtain rfl:=xm1 h_; exact Mp.beside mS hb_) hIa Mp
 rw [show oac os8 2 [(3,4)]=os9 from rfl] at key
 refine xcL key ?_; clear key; rintro e w20 ⟨ba9,rfl,hI_,M',o1⟩; replace N_5:=NewF.offB N_5 o1 (Mp.awayS (fun p_ hp_=>by simp [hp_])); replace T_5:=Wrt.offB T_5 o1 (Mp.awayS (fun p_ hp_=>by simp [hp_])); replace N_8:=NewF.offB N_8 o1 (Mp.awayS (fun p_ hp_=>by simp [hp_])); replace T_8:=Wrt.offB T_8 o1 (Mp.awayS (fun p_ hp_=>by simp [hp_]))
 replace N_11:=NewF.offB N_11 o1 (Mp.awayS (fun p_ hp_=>by simp [hp_])); replace T_11:=Wrt.offB T_11 o1 (Mp.awayS (fun p_ hp_=>by simp [hp_])); replace N_15:=NewF.offB N_15 o1 (Mp.awayS (fun p_ hp_=>by simp [hp_])); replace T_15:=Wrt.offB T_15 o1 (Mp.awayS (fun p_ hp_=>by simp [hp_])); clear o1 Mp M hIa; have hIa:=hI_; clear hI_
 have M:Mm w0 ((B19,[.int .i64 3,.int .i64 4])::(B16,[.int .i64 ((1:Nat):Int),.slice p15 (([98,99]:List Int).length) c15])::(B12,[.int .i64 ((0:Nat):Int),.slice p11 (([]:List Int).length) c11])::(B9,[.int .i64 ((3:Nat):Int),.slice p8 (([100]:List Int).length) c8])::(B6,[.int .i64 ((0:Nat):Int),.slice p5 (([97,98,99]:List Int).length) c5])::(B3,[.int .u8 97,.int .u8 98,.int .u8 99,.int .u8 100,.int .u8 101,.int .u8 102])::(ba9++((obs p15)++((obs p11)++((obs p8)++((obs p5)++([]:List (Nat × List Value)))))))) w20:=M'.perm (pull0 ([(B19,[.int .i64 3,.int .i64 4]),(B16,[.int .i64 ((1:Nat):Int),.slice p15 (([98,99]:List Int).length) c15]),(B12,[.int .i64 ((0:Nat):Int),.slice p11 (([]:List Int).length) c11]),(B9,[.int .i64 ((3:Nat):Int),.slice p8 (([100]:List Int).length) c8]),(B6,[.int .i64 ((0:Nat):Int),.slice p5 (([97,98,99]:List Int).length) c5]),(B3,[.int .u8 97,.int .u8 98,.int .u8 99,.int .u8 100,.int .u8 101,.int .u8 102])]:List (Nat × List Value)) ba9 ((obs p15)++((obs p11)++((obs p8)++((obs p5)++([]:List (Nat × List Value))))))).symm
 clear M'; refine xeL ?_; refine xT ?_; go_upto_region 13 with fail; refine wp_region_list ?_; refine xpL (.pointer (some ⟨Ra,0,none⟩)) ?_
 have Mp:=M.perm (pull0 ([(B19,[.int .i64 3,.int .i64 4]),(B16,[.int .i64 ((1:Nat):Int),.slice p15 (([98,99]:List Int).length) c15]),(B12,[.int .i64 ((0:Nat):Int),.slice p11 (([]:List Int).length) c11]),(B9,[.int .i64 ((3:Nat):Int),.slice p8 (([100]:List Int).length) c8]),(B6,[.int .i64 ((0:Nat):Int),.slice p5 (([97,98,99]:List Int).length) c5]),(B3,[.int .u8 97,.int .u8 98,.int .u8 99,.int .u8 100,.int .u8 101,.int .u8 102])]:List (Nat × List Value)) ba9 ((obs p15)++((obs p11)++((obs p8)++((obs p5)++([]:List (Nat × List Value)))))))
 have key:=hK.nxt w0 _ _ os9 ba9 _ 9 os9_w os9_l (by unfold i64; decide) hIa Mp
 rw [os9F] at key
 rw [os9B] at key
 rw [os9N] at key
 rw [show onx os9 9=os10 from rfl] at key
 refine xcL key ?_; clear key; rintro e w21 ⟨p21,c21,ba10,rfl,N_21,T_21,hI_,M',o1⟩; replace N_5:=NewF.offB N_5 o1 (Mp.awayS (fun p_ hp_=>by simp [hp_])); replace T_5:=Wrt.offB T_5 o1 (Mp.awayS (fun p_ hp_=>by simp [hp_])); replace N_8:=NewF.offB N_8 o1 (Mp.awayS (fun p_ hp_=>by simp [hp_])); replace T_8:=Wrt.offB T_8 o1 (Mp.awayS (fun p_ hp_=>by simp [hp_]))
 replace N_11:=NewF.offB N_11 o1 (Mp.awayS (fun p_ hp_=>by simp [hp_])); replace T_11:=Wrt.offB T_11 o1 (Mp.awayS (fun p_ hp_=>by simp [hp_])); replace N_15:=NewF.offB N_15 o1 (Mp.awayS (fun p_ hp_=>by simp [hp_])); replace T_15:=Wrt.offB T_15 o1 (Mp.awayS (fun p_ hp_=>by simp [hp_])); clear o1 Mp M hIa; have hIa:=hI_; clear hI_
 have M:Mm w0 ((B19,[.int .i64 3,.int .i64 4])::(B16,[.int .i64 ((1:Nat):Int),.slice p15 (([98,99]:List Int).length) c15])::(B12,[.int .i64 ((0:Nat):Int),.slice p11 (([]:List Int).length) c11])::(B9,[.int .i64 ((3:Nat):Int),.slice p8 (([100]:List Int).length) c8])::(B6,[.int .i64 ((0:Nat):Int),.slice p5 (([97,98,99]:List Int).length) c5])::(B3,[.int .u8 97,.int .u8 98,.int .u8 99,.int .u8 100,.int .u8 101,.int .u8 102])::(ba10++((obs p21)++((obs p15)++((obs p11)++((obs p8)++((obs p5)++([]:List (Nat × List Value))))))))) w21:=M'.perm (pullY ([(B19,[.int .i64 3,.int .i64 4]),(B16,[.int .i64 ((1:Nat):Int),.slice p15 (([98,99]:List Int).length) c15]),(B12,[.int .i64 ((0:Nat):Int),.slice p11 (([]:List Int).length) c11]),(B9,[.int .i64 ((3:Nat):Int),.slice p8 (([100]:List Int).length) c8]),(B6,[.int .i64 ((0:Nat):Int),.slice p5 (([97,98,99]:List Int).length) c5]),(B3,[.int .u8 97,.int .u8 98,.int .u8 99,.int .u8 100,.int .u8 101,.int .u8 102])]:List (Nat × List Value)) ba10 (obs p21) ((obs p15)++((obs p11)++((obs p8)++((obs p5)++([]:List (Nat × List Value)))))))
 clear M'; refine xeL ?_
 obtain ⟨bs21,N_21⟩:∃ b_,NewF w21 b_ ([99]:List Int).length (bl ([99])) (.slice p21 ([99]:List Int).length c21):=⟨_,N_21⟩
 refine xpL (.tuple #[.agg #[.int .i64 ((2:Nat):Int),.slice p21 (([99]:List Int).length) c21],.bool true]) ?_; refine xpL (.agg #[.int .i64 ((2:Nat):Int),.slice p21 (([99]:List Int).length) c21]) ?_; refine xpL (.bool true) ?_; have hlb:=(Below.refl w21.heap.size w21).alloc (xnR _) (.cells #[.int .i64 0,.slice none 0 0] 35)
 refine actL (w':=w21.alloc (.cells #[.int .i64 0,.slice none 0 0] 35)) (.pointer (some ⟨w21.heap.size,0,none⟩)) rfl (by kernel_rfl) ?_; simp only [aP,lI,l0,lS]; replace hIa:=hK.bel hIa hlb; replace N_5:=NewF.below N_5 hlb; replace T_5:=Wrt.below T_5 hlb; replace N_8:=NewF.below N_8 hlb; replace T_8:=Wrt.below T_8 hlb; replace N_11:=NewF.below N_11 hlb
 replace T_11:=Wrt.below T_11 hlb; replace N_15:=NewF.below N_15 hlb; replace T_15:=Wrt.below T_15 hlb; replace N_21:=NewF.below N_21 hlb; replace T_21:=Wrt.below T_21 hlb; replace M:=M.box #[.int .i64 0,.slice none 0 0] 35 w21.heap.size rfl; clear hlb; generalize w21.alloc (.cells #[.int .i64 0,.slice none 0 0] 35)=w22 at M hIa N_5 T_5 N_8 T_8 N_11 T_11 N_15 T_15 N_21 T_21 ⊢
 generalize w21.heap.size=B22 at M ⊢
 replace M:Mm w0 ((B22,[.int .i64 0,.slice none 0 0])::(B19,[.int .i64 3,.int .i64 4])::(B16,[.int .i64 ((1:Nat):Int),.slice p15 (([98,99]:List Int).length) c15])::(B12,[.int .i64 ((0:Nat):Int),.slice p11 (([]:List Int).length) c11])::(B9,[.int .i64 ((3:Nat):Int),.slice p8 (([100]:List Int).length) c8])::(B6,[.int .i64 ((0:Nat):Int),.slice p5 (([97,98,99]:List Int).length) c5])::(B3,[.int .u8 97,.int .u8 98,.int .u8 99,.int .u8 100,.int .u8 101,.int .u8 102])::(ba10++((obs p21)++((obs p15)++((obs p11)++((obs p8)++((obs p5)++([]:List (Nat × List Value))))))))) w22:=M
 refine skipOpL rfl (storeP [.int .i64 ((2:Nat):Int),.slice p21 (([99]:List Int).length) c21] B22 0 35 _ _ rfl rfl rfl (M.thereP mS 0 2 (Nat.le_of_ble_eq_true rfl)) (by kernel_rfl) (List.all_eq_true.1 (rfl:([.int .i64 ((2:Nat):Int),.slice p21 (([99]:List Int).length) c21]:List Value).all (fun u=>u.oneCell')=true))) ?_; simp only [Act.put]
 replace M:=M.setPart [.int .i64 ((2:Nat):Int),.slice p21 (([99]:List Int).length) c21] 0 (Nat.le_of_ble_eq_true rfl); replace hIa:=hK.off _ _ _ _ _ _ hIa ((Off.refl [B22] _).setAll (b:=B22) mS 0 [.int .i64 ((2:Nat):Int),.slice p21 (([99]:List Int).length) c21]) (fun b_ hb_=>by obtain rfl:=xm1 hb_; exact M.awayC (fun p_ hp_=>by simp [hp_]))
 replace N_5:=NewF.offB N_5 ((Off.refl [B22] _).setAll (b:=B22) mS 0 [.int .i64 ((2:Nat):Int),.slice p21 (([99]:List Int).length) c21]) (fun b_ hb_=>by obtain rfl:=xm1 hb_; exact M.awayB (fun p_ hp_=>by simp [hp_]))
 replace T_5:=Wrt.offB T_5 ((Off.refl [B22] _).setAll (b:=B22) mS 0 [.int .i64 ((2:Nat):Int),.slice p21 (([99]:List Int).length) c21]) (fun b_ hb_=>by obtain rfl:=xm1 hb_; exact M.awayB (fun p_ hp_=>by simp [hp_]))
 replace N_8:=NewF.offB N_8 ((Off.refl [B22] _).setAll (b:=B22) mS 0 [.int .i64 ((2:Nat):Int),.slice p21 (([99]:List Int).length) c21]) (fun b_ hb_=>by obtain rfl:=xm1 hb_; exact M.awayB (fun p_ hp_=>by simp [hp_]))
 replace T_8:=Wrt.offB T_8 ((Off.refl [B22] _).setAll (b:=B22) mS 0 [.int .i64 ((2:Nat):Int),.slice p21 (([99]:List Int).length) c21]) (fun b_ hb_=>by obtain rfl:=xm1 hb_; exact M.awayB (fun p_ hp_=>by simp [hp_]))
 replace N_11:=NewF.offB N_11 ((Off.refl [B22] _).setAll (b:=B22) mS 0 [.int .i64 ((2:Nat):Int),.slice p21 (([99]:List Int).length) c21]) (fun b_ hb_=>by obtain rfl:=xm1 hb_; exact M.awayB (fun p_ hp_=>by simp [hp_]))
 replace T_11:=Wrt.offB T_11 ((Off.refl [B22] _).setAll (b:=B22) mS 0 [.int .i64 ((2:Nat):Int),.slice p21 (([99]:List Int).length) c21]) (fun b_ hb_=>by obtain rfl:=xm1 hb_; exact M.awayB (fun p_ hp_=>by simp [hp_]))
 replace N_15:=NewF.offB N_15 ((Off.refl [B22] _).setAll (b:=B22) mS 0 [.int .i64 ((2:Nat):Int),.slice p21 (([99]:List Int).length) c21]) (fun b_ hb_=>by obtain rfl:=xm1 hb_; exact M.awayB (fun p_ hp_=>by simp [hp_]))
 replace T_15:=Wrt.offB T_15 ((Off.refl [B22] _).setAll (b:=B22) mS 0 [.int .i64 ((2:Nat):Int),.slice p21 (([99]:List Int).length) c21]) (fun b_ hb_=>by obtain rfl:=xm1 hb_; exact M.awayB (fun p_ hp_=>by simp [hp_]))
 replace N_21:=NewF.offB N_21 ((Off.refl [B22] _).setAll (b:=B22) mS 0 [.int .i64 ((2:Nat):Int),.slice p21 (([99]:List Int).length) c21]) (fun b_ hb_=>by obtain rfl:=xm1 hb_; exact M.awayB (fun p_ hp_=>by simp [hp_]))
 replace T_21:=Wrt.offB T_21 ((Off.refl [B22] _).setAll (b:=B22) mS 0 [.int .i64 ((2:Nat):Int),.slice p21 (([99]:List Int).length) c21]) (fun b_ hb_=>by obtain rfl:=xm1 hb_; exact M.awayB (fun p_ hp_=>by simp [hp_])); generalize w22.setCells B22 0 [.int .i64 ((2:Nat):Int),.slice p21 (([99]:List Int).length) c21]=w23 at M hIa N_5 T_5 N_8 T_8 N_11 T_11 N_15 T_15 N_21 T_21 ⊢
 replace M:Mm w0 ((B22,[.int .i64 ((2:Nat):Int),.slice p21 (([99]:List Int).length) c21])::(B19,[.int .i64 3,.int .i64 4])::(B16,[.int .i64 ((1:Nat):Int),.slice p15 (([98,99]:List Int).length) c15])::(B12,[.int .i64 ((0:Nat):Int),.slice p11 (([]:List Int).length) c11])::(B9,[.int .i64 ((3:Nat):Int),.slice p8 (([100]:List Int).length) c8])::(B6,[.int .i64 ((0:Nat):Int),.slice p5 (([97,98,99]:List Int).length) c5])::(B3,[.int .u8 97,.int .u8 98,.int .u8 99,.int .u8 100,.int .u8 101,.int .u8 102])::(ba10++((obs p21)++((obs p15)++((obs p11)++((obs p8)++((obs p5)++([]:List (Nat × List Value))))))))) w23:=M
 refine xpL (.bool true) ?_; refine xT ?_; go_upto_region 14 with fail; refine wp_region_list ?_; refine xpL (.pointer (some ⟨Ra,0,none⟩)) ?_
 have Mp:=M.perm (pull0 ([(B22,[.int .i64 ((2:Nat):Int),.slice p21 (([99]:List Int).length) c21]),(B19,[.int .i64 3,.int .i64 4]),(B16,[.int .i64 ((1:Nat):Int),.slice p15 (([98,99]:List Int).length) c15]),(B12,[.int .i64 ((0:Nat):Int),.slice p11 (([]:List Int).length) c11]),(B9,[.int .i64 ((3:Nat):Int),.slice p8 (([100]:List Int).length) c8]),(B6,[.int .i64 ((0:Nat):Int),.slice p5 (([97,98,99]:List Int).length) c5]),(B3,[.int .u8 97,.int .u8 98,.int .u8 99,.int .u8 100,.int .u8 101,.int .u8 102])]:List (Nat × List Value)) ba10 ((obs p21)++((obs p15)++((obs p11)++((obs p8)++((obs p5)++([]:List (Nat × List Value))))))))
 have key:=hK.bas w0 _ _ os10 ba10 _ os10_w os10_l hIa Mp; clear Mp
 rw [osb1] at key
 refine xcL key ?_; clear key; rintro e w24 ⟨rfl,l_⟩; replace M:=M.call l_; replace hIa:=hK.bel hIa l_; replace N_5:=NewF.below N_5 l_; replace T_5:=Wrt.below T_5 l_; replace N_8:=NewF.below N_8 l_; replace T_8:=Wrt.below T_8 l_; replace N_11:=NewF.below N_11 l_; replace T_11:=Wrt.below T_11 l_; replace N_15:=NewF.below N_15 l_; replace T_15:=Wrt.below T_15 l_
 replace N_21:=NewF.below N_21 l_; replace T_21:=Wrt.below T_21 l_; clear l_; refine xeL ?_; refine xpL (.int .i64 ((2:Nat):Int)) ?_; refine xT ?_; go_upto_region 15 with fail; refine wp_region_list ?_; refine xpL (.pointer (some ⟨Ra,0,none⟩)) ?_
 refine actL (w':=w24.alloc (.cells #[.int .u8 120,.int .u8 121,.int .u8 122] 5)) (.slice (some ⟨w24.heap.size,0,none⟩) 3 3) rfl (by kernel_rfl) ?_; simp only [aP,lI,l0,lS]
 refine actL (w':=w24.alloc (.cells #[.int .u8 120,.int .u8 121,.int .u8 122] 5 ((#[.int .u8 120,.int .u8 121,.int .u8 122]:Array Value).size,(#[.int .u8 120,.int .u8 121,.int .u8 122]:Array Value).size+1))) (.slice (some ⟨w24.heap.size,0,none⟩) 3 3) rfl (conv_const 28 5 #[.int .u8 120,.int .u8 121,.int .u8 122] 3 3 _ rfl rfl Try.underlying28 Try.underlying5) ?_
 simp only [aP,lI,l0,lS]; have hlb:=(Below.refl w24.heap.size w24).alloc (xnR _) (.cells #[.int .u8 120,.int .u8 121,.int .u8 122] 5 ((#[.int .u8 120,.int .u8 121,.int .u8 122]:Array Value).size,(#[.int .u8 120,.int .u8 121,.int .u8 122]:Array Value).size+1)); replace hIa:=hK.bel hIa hlb; replace N_5:=NewF.below N_5 hlb; replace T_5:=Wrt.below T_5 hlb
 replace N_8:=NewF.below N_8 hlb; replace T_8:=Wrt.below T_8 hlb; replace N_11:=NewF.below N_11 hlb; replace T_11:=Wrt.below T_11 hlb; replace N_15:=NewF.below N_15 hlb; replace T_15:=Wrt.below T_15 hlb; replace N_21:=NewF.below N_21 hlb; replace T_21:=Wrt.below T_21 hlb
 replace M:=M.boxC #[.int .u8 120,.int .u8 121,.int .u8 122] 5 (((#[.int .u8 120,.int .u8 121,.int .u8 122]:Array Value)).size,((#[.int .u8 120,.int .u8 121,.int .u8 122]:Array Value)).size+1) w24.heap.size rfl (xnR _); clear hlb
 generalize w24.alloc (.cells #[.int .u8 120,.int .u8 121,.int .u8 122] 5 ((#[.int .u8 120,.int .u8 121,.int .u8 122]:Array Value).size,(#[.int .u8 120,.int .u8 121,.int .u8 122]:Array Value).size+1))=w25 at M hIa N_5 T_5 N_8 T_8 N_11 T_11 N_15 T_15 N_21 T_21 ⊢; generalize w24.heap.size=B25 at M ⊢
 replace M:Mm w0 ((B25,[.int .u8 120,.int .u8 121,.int .u8 122])::(B22,[.int .i64 ((2:Nat):Int),.slice p21 (([99]:List Int).length) c21])::(B19,[.int .i64 3,.int .i64 4])::(B16,[.int .i64 ((1:Nat):Int),.slice p15 (([98,99]:List Int).length) c15])::(B12,[.int .i64 ((0:Nat):Int),.slice p11 (([]:List Int).length) c11])::(B9,[.int .i64 ((3:Nat):Int),.slice p8 (([100]:List Int).length) c8])::(B6,[.int .i64 ((0:Nat):Int),.slice p5 (([97,98,99]:List Int).length) c5])::(B3,[.int .u8 97,.int .u8 98,.int .u8 99,.int .u8 100,.int .u8 101,.int .u8 102])::(ba10++((obs p21)++((obs p15)++((obs p11)++((obs p8)++((obs p5)++([]:List (Nat × List Value))))))))) w25:=M
 have Mp:=M.perm (pull0 ([(B25,[.int .u8 120,.int .u8 121,.int .u8 122]),(B22,[.int .i64 ((2:Nat):Int),.slice p21 (([99]:List Int).length) c21]),(B19,[.int .i64 3,.int .i64 4]),(B16,[.int .i64 ((1:Nat):Int),.slice p15 (([98,99]:List Int).length) c15]),(B12,[.int .i64 ((0:Nat):Int),.slice p11 (([]:List Int).length) c11]),(B9,[.int .i64 ((3:Nat):Int),.slice p8 (([100]:List Int).length) c8]),(B6,[.int .i64 ((0:Nat):Int),.slice p5 (([97,98,99]:List Int).length) c5]),(B3,[.int .u8 97,.int .u8 98,.int .u8 99,.int .u8 100,.int .u8 101,.int .u8 102])]:List (Nat × List Value)) ba10 ((obs p21)++((obs p15)++((obs p11)++((obs p8)++((obs p5)++([]:List (Nat × List Value))))))))
 have key:=hK.wrt w0 _ _ os10 ba10 _ (some ⟨B25,0,none⟩) 3 [120,121,122] os10_w os10_l (by decide) (by decide) (fun e=>by cases e) (by unfold Byts; decide) hIa Mp (show SrcA _ _ _ _ _ from ⟨(M.src mS [120,121,122] rfl),fun ad e _=>by cases e; exact Mp.beside mS⟩)
 rw [show owN os10 ([120,121,122]:List Int).length=2 from osw2] at key
 rw [show owr os10 [120,121,122]=os11 from rfl] at key
 refine xcL key ?_; clear key; rintro e w26 ⟨ba11,rfl,hI_,M',o1⟩; replace N_5:=NewF.offB N_5 o1 (Mp.awayS (fun p_ hp_=>by simp [hp_])); replace T_5:=Wrt.offB T_5 o1 (Mp.awayS (fun p_ hp_=>by simp [hp_])); replace N_8:=NewF.offB N_8 o1 (Mp.awayS (fun p_ hp_=>by simp [hp_])); replace T_8:=Wrt.offB T_8 o1 (Mp.awayS (fun p_ hp_=>by simp [hp_]))
 replace N_11:=NewF.offB N_11 o1 (Mp.awayS (fun p_ hp_=>by simp [hp_])); replace T_11:=Wrt.offB T_11 o1 (Mp.awayS (fun p_ hp_=>by simp [hp_])); replace N_15:=NewF.offB N_15 o1 (Mp.awayS (fun p_ hp_=>by simp [hp_])); replace T_15:=Wrt.offB T_15 o1 (Mp.awayS (fun p_ hp_=>by simp [hp_])); replace N_21:=NewF.offB N_21 o1 (Mp.awayS (fun p_ hp_=>by simp [hp_]))
 replace T_21:=Wrt.offB T_21 o1 (Mp.awayS (fun p_ hp_=>by simp [hp_])); clear o1 Mp M hIa; have hIa:=hI_; clear hI_
 have M:Mm w0 ((B25,[.int .u8 120,.int .u8 121,.int .u8 122])::(B22,[.int .i64 ((2:Nat):Int),.slice p21 (([99]:List Int).length) c21])::(B19,[.int .i64 3,.int .i64 4])::(B16,[.int .i64 ((1:Nat):Int),.slice p15 (([98,99]:List Int).length) c15])::(B12,[.int .i64 ((0:Nat):Int),.slice p11 (([]:List Int).length) c11])::(B9,[.int .i64 ((3:Nat):Int),.slice p8 (([100]:List Int).length) c8])::(B6,[.int .i64 ((0:Nat):Int),.slice p5 (([97,98,99]:List Int).length) c5])::(B3,[.int .u8 97,.int .u8 98,.int .u8 99,.int .u8 100,.int .u8 101,.int .u8 102])::(ba11++((obs p21)++((obs p15)++((obs p11)++((obs p8)++((obs p5)++([]:List (Nat × List Value))))))))) w26:=M'.perm (pull0 ([(B25,[.int .u8 120,.int .u8 121,.int .u8 122]),(B22,[.int .i64 ((2:Nat):Int),.slice p21 (([99]:List Int).length) c21]),(B19,[.int .i64 3,.int .i64 4]),(B16,[.int .i64 ((1:Nat):Int),.slice p15 (([98,99]:List Int).length) c15]),(B12,[.int .i64 ((0:Nat):Int),.slice p11 (([]:List Int).length) c11]),(B9,[.int .i64 ((3:Nat):Int),.slice p8 (([100]:List Int).length) c8]),(B6,[.int .i64 ((0:Nat):Int),.slice p5 (([97,98,99]:List Int).length) c5]),(B3,[.int .u8 97,.int .u8 98,.int .u8 99,.int .u8 100,.int .u8 101,.int .u8 102])]:List (Nat × List Value)) ba11 ((obs p21)++((obs p15)++((obs p11)++((obs p8)++((obs p5)++([]:List (Nat × List Value)))))))).symm
 clear M'; refine xeL ?_; refine xpL (.int .i64 ((2:Nat):Int)) ?_; refine xT ?_; go_upto_region 16 with fail; refine wp_region_list ?_; refine xpL (.pointer (some ⟨Ra,0,none⟩)) ?_
 have Mp:=M.perm (pull0 ([(B25,[.int .u8 120,.int .u8 121,.int .u8 122]),(B22,[.int .i64 ((2:Nat):Int),.slice p21 (([99]:List Int).length) c21]),(B19,[.int .i64 3,.int .i64 4]),(B16,[.int .i64 ((1:Nat):Int),.slice p15 (([98,99]:List Int).length) c15]),(B12,[.int .i64 ((0:Nat):Int),.slice p11 (([]:List Int).length) c11]),(B9,[.int .i64 ((3:Nat):Int),.slice p8 (([100]:List Int).length) c8]),(B6,[.int .i64 ((0:Nat):Int),.slice p5 (([97,98,99]:List Int).length) c5]),(B3,[.int .u8 97,.int .u8 98,.int .u8 99,.int .u8 100,.int .u8 101,.int .u8 102])]:List (Nat × List Value)) ba11 ((obs p21)++((obs p15)++((obs p11)++((obs p8)++((obs p5)++([]:List (Nat × List Value))))))))
 have key:=hK.end_ w0 _ _ os11 ba11 _ os11_w os11_l hIa Mp; clear Mp
 rw [ose] at key
 refine xcL key ?_; clear key; rintro e w27 ⟨rfl,l_⟩; replace M:=M.call l_; replace hIa:=hK.bel hIa l_; replace N_5:=NewF.below N_5 l_; replace T_5:=Wrt.below T_5 l_; replace N_8:=NewF.below N_8 l_; replace T_8:=Wrt.below T_8 l_; replace N_11:=NewF.below N_11 l_; replace T_11:=Wrt.below T_11 l_; replace N_15:=NewF.below N_15 l_; replace T_15:=Wrt.below T_15 l_
 replace N_21:=NewF.below N_21 l_; replace T_21:=Wrt.below T_21 l_; clear l_; refine xeL ?_; refine xpL (.int .i64 ((6:Nat):Int)) ?_; refine xT ?_; go_upto_region 17 with fail; refine wp_region_list ?_; refine xpL (.pointer (some ⟨Ra,0,none⟩)) ?_
 have Mp:=M.perm (pull0 ([(B25,[.int .u8 120,.int .u8 121,.int .u8 122]),(B22,[.int .i64 ((2:Nat):Int),.slice p21 (([99]:List Int).length) c21]),(B19,[.int .i64 3,.int .i64 4]),(B16,[.int .i64 ((1:Nat):Int),.slice p15 (([98,99]:List Int).length) c15]),(B12,[.int .i64 ((0:Nat):Int),.slice p11 (([]:List Int).length) c11]),(B9,[.int .i64 ((3:Nat):Int),.slice p8 (([100]:List Int).length) c8]),(B6,[.int .i64 ((0:Nat):Int),.slice p5 (([97,98,99]:List Int).length) c5]),(B3,[.int .u8 97,.int .u8 98,.int .u8 99,.int .u8 100,.int .u8 101,.int .u8 102])]:List (Nat × List Value)) ba11 ((obs p21)++((obs p15)++((obs p11)++((obs p8)++((obs p5)++([]:List (Nat × List Value))))))))
 have key:=hK.ack w0 _ _ os11 ba11 _ 3 ([]) none 0 os11_w os11_l (by unfold i64; decide) (by decide) (fun _ h_=>by cases h_) (RgW.nil0 _) (fun _ _ h_=>absurd rfl h_) hIa Mp
 rw [show oac os11 3 []=os12 from rfl] at key
 refine xcL key ?_; clear key; rintro e w28 ⟨ba12,rfl,hI_,M',o1⟩; replace N_5:=NewF.offB N_5 o1 (Mp.awayS (fun p_ hp_=>by simp [hp_])); replace T_5:=Wrt.offB T_5 o1 (Mp.awayS (fun p_ hp_=>by simp [hp_])); replace N_8:=NewF.offB N_8 o1 (Mp.awayS (fun p_ hp_=>by simp [hp_])); replace T_8:=Wrt.offB T_8 o1 (Mp.awayS (fun p_ hp_=>by simp [hp_]))
 replace N_11:=NewF.offB N_11 o1 (Mp.awayS (fun p_ hp_=>by simp [hp_])); replace T_11:=Wrt.offB T_11 o1 (Mp.awayS (fun p_ hp_=>by simp [hp_])); replace N_15:=NewF.offB N_15 o1 (Mp.awayS (fun p_ hp_=>by simp [hp_])); replace T_15:=Wrt.offB T_15 o1 (Mp.awayS (fun p_ hp_=>by simp [hp_])); replace N_21:=NewF.offB N_21 o1 (Mp.awayS (fun p_ hp_=>by simp [hp_]))
 replace T_21:=Wrt.offB T_21 o1 (Mp.awayS (fun p_ hp_=>by simp [hp_])); clear o1 Mp M hIa; have hIa:=hI_; clear hI_
 have M:Mm w0 ((B25,[.int .u8 120,.int .u8 121,.int .u8 122])::(B22,[.int .i64 ((2:Nat):Int),.slice p21 (([99]:List Int).length) c21])::(B19,[.int .i64 3,.int .i64 4])::(B16,[.int .i64 ((1:Nat):Int),.slice p15 (([98,99]:List Int).length) c15])::(B12,[.int .i64 ((0:Nat):Int),.slice p11 (([]:List Int).length) c11])::(B9,[.int .i64 ((3:Nat):Int),.slice p8 (([100]:List Int).length) c8])::(B6,[.int .i64 ((0:Nat):Int),.slice p5 (([97,98,99]:List Int).length) c5])::(B3,[.int .u8 97,.int .u8 98,.int .u8 99,.int .u8 100,.int .u8 101,.int .u8 102])::(ba12++((obs p21)++((obs p15)++((obs p11)++((obs p8)++((obs p5)++([]:List (Nat × List Value))))))))) w28:=M'.perm (pull0 ([(B25,[.int .u8 120,.int .u8 121,.int .u8 122]),(B22,[.int .i64 ((2:Nat):Int),.slice p21 (([99]:List Int).length) c21]),(B19,[.int .i64 3,.int .i64 4]),(B16,[.int .i64 ((1:Nat):Int),.slice p15 (([98,99]:List Int).length) c15]),(B12,[.int .i64 ((0:Nat):Int),.slice p11 (([]:List Int).length) c11]),(B9,[.int .i64 ((3:Nat):Int),.slice p8 (([100]:List Int).length) c8]),(B6,[.int .i64 ((0:Nat):Int),.slice p5 (([97,98,99]:List Int).length) c5]),(B3,[.int .u8 97,.int .u8 98,.int .u8 99,.int .u8 100,.int .u8 101,.int .u8 102])]:List (Nat × List Value)) ba12 ((obs p21)++((obs p15)++((obs p11)++((obs p8)++((obs p5)++([]:List (Nat × List Value)))))))).symm
 clear M'; refine xeL ?_; refine xT ?_; go_upto_region 18 with fail; refine wp_region_list ?_; refine xpL (.int .i64 ((4:Nat):Int)) ?_; refine xaL (.bool true) (eqlI .i64 _ _ _ _ _ _ rfl rfl rfl true rfl _) ?_; refine xpL (.bool true) ?_; refine xpL (.pointer (some ⟨B6,0,none⟩)) ?_
 refine xaL (.int .i64 ((0:Nat):Int)) (load1 3 _ ⟨B6,0,none⟩ _ rfl rfl (fun _=>by kernel_rfl) (M.get (mI 6 rfl) 0 _ rfl)) ?_; refine xaL (.bool true) (eqlI .i64 _ _ _ _ _ _ rfl rfl rfl true rfl _) ?_; refine xpL (.bool true) ?_; refine xpL (.bool true) ?_; refine xpL (.pointer (some ⟨B6,1,none⟩)) ?_
 refine xaL (.slice p5 (([97,98,99]:List Int).length) c5) (load1 28 _ ⟨B6,1,none⟩ _ rfl rfl (fun _=>by kernel_rfl) (M.get (mI 6 rfl) 1 _ rfl)) ?_
 refine readL (.string (txt (([97,98,99]:List Int).length) (bl ([97,98,99])))) rfl (conv_txt 28 5 9 _ rfl Try.underlying28 Try.underlying5 Try.underlying9 p5 (([97,98,99]:List Int).length) c5 (bl ([97,98,99])) rfl _ (NewF.src N_5) (fun e=>by have h1:=(NewF.nilCap N_5) e; have h2:=(NewF.le N_5); omega)) ?_
 simp only [aP,lI,l0,lS]; refine xaL (.bool true) (eqlS _ _ _ _ _ _ rfl rfl rfl rfl _) ?_; refine xpL (.bool true) ?_; refine xpL (.bool true) ?_; refine xpL (.pointer (some ⟨B9,0,none⟩)) ?_; refine xaL (.int .i64 ((3:Nat):Int)) (load1 3 _ ⟨B9,0,none⟩ _ rfl rfl (fun _=>by kernel_rfl) (M.get (mI 5 rfl) 0 _ rfl)) ?_
 refine xaL (.bool true) (eqlI .i64 _ _ _ _ _ _ rfl rfl rfl true rfl _) ?_; refine xpL (.bool true) ?_; refine xpL (.bool true) ?_; refine xpL (.pointer (some ⟨B9,1,none⟩)) ?_; refine xaL (.slice p8 (([100]:List Int).length) c8) (load1 28 _ ⟨B9,1,none⟩ _ rfl rfl (fun _=>by kernel_rfl) (M.get (mI 5 rfl) 1 _ rfl)) ?_
 refine readL (.string (txt (([100]:List Int).length) (bl ([100])))) rfl (conv_txt 28 5 9 _ rfl Try.underlying28 Try.underlying5 Try.underlying9 p8 (([100]:List Int).length) c8 (bl ([100])) rfl _ (NewF.src N_8) (fun e=>by have h1:=(NewF.nilCap N_8) e; have h2:=(NewF.le N_8); omega)) ?_
 simp only [aP,lI,l0,lS]; refine xaL (.bool true) (eqlS _ _ _ _ _ _ rfl rfl rfl rfl _) ?_; refine xpL (.bool true) ?_; refine xpL (.bool true) ?_; refine xpL (.bool false) ?_; refine xpL (.bool true) ?_; refine xpL (.bool true) ?_; refine xpL (.bool true) ?_; refine xpL (.pointer (some ⟨B16,0,none⟩)) ?_
 refine xaL (.int .i64 ((1:Nat):Int)) (load1 3 _ ⟨B16,0,none⟩ _ rfl rfl (fun _=>by kernel_rfl) (M.get (mI 3 rfl) 0 _ rfl)) ?_; refine xaL (.bool true) (eqlI .i64 _ _ _ _ _ _ rfl rfl rfl true rfl _) ?_; refine xpL (.bool true) ?_; refine xpL (.bool true) ?_; refine xpL (.pointer (some ⟨B16,1,none⟩)) ?_
 refine xaL (.slice p15 (([98,99]:List Int).length) c15) (load1 28 _ ⟨B16,1,none⟩ _ rfl rfl (fun _=>by kernel_rfl) (M.get (mI 3 rfl) 1 _ rfl)) ?_
 refine readL (.string (txt (([98,99]:List Int).length) (bl ([98,99])))) rfl (conv_txt 28 5 9 _ rfl Try.underlying28 Try.underlying5 Try.underlying9 p15 (([98,99]:List Int).length) c15 (bl ([98,99])) rfl _ (NewF.src N_15) (fun e=>by have h1:=(NewF.nilCap N_15) e; have h2:=(NewF.le N_15); omega)) ?_
 simp only [aP,lI,l0,lS]; refine xaL (.bool true) (eqlS _ _ _ _ _ _ rfl rfl rfl rfl _) ?_; refine xpL (.bool true) ?_; refine xpL (.bool true) ?_; refine xpL (.pointer (some ⟨B22,0,none⟩)) ?_; refine xaL (.int .i64 ((2:Nat):Int)) (load1 3 _ ⟨B22,0,none⟩ _ rfl rfl (fun _=>by kernel_rfl) (M.get (mT _ mS) 0 _ rfl)) ?_
 refine xaL (.bool true) (eqlI .i64 _ _ _ _ _ _ rfl rfl rfl true rfl _) ?_; refine xpL (.bool true) ?_; refine xpL (.bool true) ?_; refine xpL (.pointer (some ⟨B22,1,none⟩)) ?_; refine xaL (.slice p21 (([99]:List Int).length) c21) (load1 28 _ ⟨B22,1,none⟩ _ rfl rfl (fun _=>by kernel_rfl) (M.get (mT _ mS) 1 _ rfl)) ?_
 refine readL (.string (txt (([99]:List Int).length) (bl ([99])))) rfl (conv_txt 28 5 9 _ rfl Try.underlying28 Try.underlying5 Try.underlying9 p21 (([99]:List Int).length) c21 (bl ([99])) rfl _ (NewF.src N_21) (fun e=>by have h1:=(NewF.nilCap N_21) e; have h2:=(NewF.le N_21); omega)) ?_
 simp only [aP,lI,l0,lS]; refine xaL (.bool true) (eqlS _ _ _ _ _ _ rfl rfl rfl rfl _) ?_; refine xpL (.bool true) ?_; refine xpL (.bool true) ?_; refine xpL (.bool true) ?_; refine xpL (.bool true) ?_; refine xpL (.bool true) ?_; refine xpL (.int .i64 ((2:Nat):Int)) ?_; refine xaL (.bool true) (eqlI .i64 _ _ _ _ _ _ rfl rfl rfl true rfl _) ?_; refine xpL (.bool true) ?_
 refine xpL (.bool true) ?_; refine xpL (.int .i64 ((2:Nat):Int)) ?_; refine xaL (.bool true) (eqlI .i64 _ _ _ _ _ _ rfl rfl rfl true rfl _) ?_; refine xpL (.bool true) ?_; refine xpL (.bool true) ?_; refine xpL (.int .i64 ((6:Nat):Int)) ?_; refine xaL (.bool true) (eqlI .i64 _ _ _ _ _ _ rfl rfl rfl true rfl _) ?_; refine xpL (.bool true) ?_; refine xpL (.bool true) ?_
 refine xpL (.pointer (some ⟨Ra,0,none⟩)) ?_
 have Mp:=M.perm (pull0 ([(B25,[.int .u8 120,.int .u8 121,.int .u8 122]),(B22,[.int .i64 ((2:Nat):Int),.slice p21 (([99]:List Int).length) c21]),(B19,[.int .i64 3,.int .i64 4]),(B16,[.int .i64 ((1:Nat):Int),.slice p15 (([98,99]:List Int).length) c15]),(B12,[.int .i64 ((0:Nat):Int),.slice p11 (([]:List Int).length) c11]),(B9,[.int .i64 ((3:Nat):Int),.slice p8 (([100]:List Int).length) c8]),(B6,[.int .i64 ((0:Nat):Int),.slice p5 (([97,98,99]:List Int).length) c5]),(B3,[.int .u8 97,.int .u8 98,.int .u8 99,.int .u8 100,.int .u8 101,.int .u8 102])]:List (Nat × List Value)) ba12 ((obs p21)++((obs p15)++((obs p11)++((obs p8)++((obs p5)++([]:List (Nat × List Value))))))))
 have key:=hK.bas w0 _ _ os12 ba12 _ os12_w os12_l hIa Mp; clear Mp
 rw [osb2] at key
 refine xcL key ?_; clear key; rintro e w29 ⟨rfl,l_⟩; replace M:=M.call l_; replace hIa:=hK.bel hIa l_; replace N_5:=NewF.below N_5 l_; replace T_5:=Wrt.below T_5 l_; replace N_8:=NewF.below N_8 l_; replace T_8:=Wrt.below T_8 l_; replace N_11:=NewF.below N_11 l_; replace T_11:=Wrt.below T_11 l_; replace N_15:=NewF.below N_15 l_; replace T_15:=Wrt.below T_15 l_
 replace N_21:=NewF.below N_21 l_; replace T_21:=Wrt.below T_21 l_; clear l_; refine xeL ?_; refine xaL (.bool true) (eqlI .i64 _ _ _ _ _ _ rfl rfl rfl true rfl _) ?_; refine xpL (.bool true) ?_; refine xpL (.bool true) ?_; refine xpL (.pointer (some ⟨Ra,0,none⟩)) ?_
 have Mp:=M.perm (pull0 ([(B25,[.int .u8 120,.int .u8 121,.int .u8 122]),(B22,[.int .i64 ((2:Nat):Int),.slice p21 (([99]:List Int).length) c21]),(B19,[.int .i64 3,.int .i64 4]),(B16,[.int .i64 ((1:Nat):Int),.slice p15 (([98,99]:List Int).length) c15]),(B12,[.int .i64 ((0:Nat):Int),.slice p11 (([]:List Int).length) c11]),(B9,[.int .i64 ((3:Nat):Int),.slice p8 (([100]:List Int).length) c8]),(B6,[.int .i64 ((0:Nat):Int),.slice p5 (([97,98,99]:List Int).length) c5]),(B3,[.int .u8 97,.int .u8 98,.int .u8 99,.int .u8 100,.int .u8 101,.int .u8 102])]:List (Nat × List Value)) ba12 ((obs p21)++((obs p15)++((obs p11)++((obs p8)++((obs p5)++([]:List (Nat × List Value))))))))
 have key:=hK.idl w0 _ _ os12 ba12 _ os12_w os12_l hIa Mp; clear Mp
 rw [osi] at key
 refine xcL key ?_; clear key; rintro e w30 ⟨rfl,l_⟩; replace M:=M.call l_; replace hIa:=hK.bel hIa l_; replace N_5:=NewF.below N_5 l_; replace T_5:=Wrt.below T_5 l_; replace N_8:=NewF.below N_8 l_; replace T_8:=Wrt.below T_8 l_; replace N_11:=NewF.below N_11 l_; replace T_11:=Wrt.below T_11 l_; replace N_15:=NewF.below N_15 l_; replace T_15:=Wrt.below T_15 l_
 replace N_21:=NewF.below N_21 l_; replace T_21:=Wrt.below T_21 l_; clear l_; refine xeL ?_; refine xpL (.bool true) ?_; refine xpL (.bool true) ?_; refine xpL (.bool true) ?_; refine xT ?_; have hbel:=M.below; clear M hIa N_5 T_5 N_8 T_8 N_11 T_11 N_15 T_15 N_21 T_21; go_wp2; go_ret
 exact ⟨rfl,hbel⟩
def kdn (c:Int) (n:Nat):Nat:=(if c<0 then -(c+1) else c).toNat%n
theorem kdn_lt (c:Int) (n:Nat) (h:0<n):kdn c n<n:=Nat.mod_lt _ h
theorem kind18_any (c:Int) (n:Nat) (hn:0<n) (h1:i64 c) (w:World) :
 Calls Try.prog 10 #[.int .i64 c,.int .i64 (n:Int)] w fun e w'=>e=.returned (.int .i64 (kdn c n:Int))∧Below w.heap.size w w':=by
 unfold i64 at h1
 have M:=Mm.init w
 go_enter Try.func10,Try.ntmps10
 go_upto_region 0 with fail; refine wp_region_list ?_; refine xpL (.int .i64 0) ?_; refine xT ?_
 by_cases hc:c<0
 · go_upto_region 1 with fail
   refine wp_region_list ?_; refine xpL (.int .i64 c) ?_; refine xaL (.bool true) (lssI .i64 _ _ _ _ _ _ rfl rfl rfl true (decide_eq_true hc) _) ?_; refine xT ?_; go_upto_region 2 with fail; refine wp_region_list ?_; refine xpL (.int .i64 c) ?_; refine xaL (.int .i64 (c+1)) (addI .i64 _ _ _ _ _ _ _ rfl rfl rfl (by rw [xw6]; omega) _) ?_
   refine xaL (.int .i64 (-(c+1))) (negI .i64 _ _ _ _ rfl rfl (by rw [xw6]; omega) _) ?_; refine xpL (.int .i64 (-(c+1))) ?_; refine xT ?_
   have hrem:(-(c+1)).tmod (n:Int)=((kdn c n:Nat):Int):=by
    unfold kdn
    rw [if_pos hc]
    obtain ⟨m,hm⟩:∃ m:Nat,-(c+1)=(m:Int):=⟨(-(c+1)).toNat,by omega⟩
    rw [hm,Int.toNat_natCast]
    rfl
   go_upto_region 3 with fail; refine wp_region_list ?_; refine xpL (.int .i64 (-(c+1))) ?_; refine xpL (.int .i64 (n:Int)) ?_; refine xaL (.int .i64 ((kdn c n:Nat):Int)) (remI .i64 _ _ _ _ _ _ _ rfl rfl rfl (by omega) hrem _) ?_; refine xpL (.int .i64 ((kdn c n:Nat):Int)) ?_; refine xT ?_; have hB:=M.below; clear M; go_wp2; go_ret
   exact ⟨rfl,hB⟩
 · go_upto_region 1 with fail
   refine wp_region_list ?_; refine xpL (.int .i64 c) ?_; refine xaL (.bool false) (lssI .i64 _ _ _ _ _ _ rfl rfl rfl false (decide_eq_false hc) _) ?_; refine xT ?_
   have hrem:(c).tmod (n:Int)=((kdn c n:Nat):Int):=by
    unfold kdn
    rw [if_neg hc]
    obtain ⟨m,hm⟩:∃ m:Nat,c=(m:Int):=⟨(c).toNat,by omega⟩
    rw [hm,Int.toNat_natCast]
    rfl
   go_upto_region 3 with fail; refine wp_region_list ?_; refine xpL (.int .i64 c) ?_; refine xpL (.int .i64 (n:Int)) ?_; refine xaL (.int .i64 ((kdn c n:Nat):Int)) (remI .i64 _ _ _ _ _ _ _ rfl rfl rfl (by omega) hrem _) ?_; refine xpL (.int .i64 ((kdn c n:Nat):Int)) ?_; refine xT ?_; have hB:=M.below; clear M; go_wp2; go_ret
   exact ⟨rfl,hB⟩
theorem bl_takeK {b:List Int} {k j:Nat} (h:j<k):bl (b.take k) j=bl b j:=by
 unfold bl
 rw [List.getD_eq_getElem?_getD,List.getD_eq_getElem?_getD,List.getElem?_take_of_lt h]
theorem take_byts {b:List Int} (h:Byts b) (n:Nat):Byts (b.take n):=fun x hx=>h x (List.mem_of_mem_take hx)
end Go.Proofs.Ytpdpfdelglgfnaa
