/- Texts of Dh Kn Di Nv Az LawInboxPlays Sl Ln Nk, joined. -/
import Derived.Test.YtcjahbdlaojnoaaP3InboxPlays
import Derived.Lib.AppendZerosOnto
import Derived.Deep.DeepAppendWide
import Derived.Deep.CutBlock
import Derived.Deep.DeepCutAuto
import Derived.Deep.Upon
set_option maxRecDepth 20000
set_option maxHeartbeats 64000000
namespace Go.Proofs.Ytcjahbdlaojnoaa
open Go.RowKit
def xs0:Ibx:=inew 6
theorem xs0_w:IbxW xs0:=inew_w 6
theorem xs0_l:xs0.dn<10000000:=by decide +kernel
def xs1:Ibx:=itk xs0 2 [99,100]
theorem xs1_w:IbxW xs1:=itk_w xs0_w 2 (by unfold Byts; decide)
theorem xs1_l:xs1.dn<10000000:=by decide +kernel
def xs2:Ibx:=irx xs1 9
theorem xs2_w:IbxW xs2:=irx_w xs1_w 9
theorem xs2_l:xs2.dn<10000000:=by decide +kernel
def xs3:Ibx:=itk xs2 0 [97,98,88,89,101]
theorem xs3_w:IbxW xs3:=itk_w xs2_w 0 (by unfold Byts; decide)
theorem xs3_l:xs3.dn<10000000:=by decide +kernel
def xs4:Ibx:=irx xs3 3
theorem xs4_w:IbxW xs4:=irx_w xs3_w 3
theorem xs4_l:xs4.dn<10000000:=by decide +kernel
def xs5:Ibx:=itk xs4 8 [122,122]
theorem xs5_w:IbxW xs5:=itk_w xs4_w 8 (by unfold Byts; decide)
theorem xs5_l:xs5.dn<10000000:=by decide +kernel
def xs6:Ibx:=itk xs5 0 [97,98,99]
theorem xs6_w:IbxW xs6:=itk_w xs5_w 0 (by unfold Byts; decide)
theorem xs6_l:xs6.dn<10000000:=by decide +kernel
theorem xs0N:itN xs0 2 ([99,100]:List Int).length=2:=by decide +kernel
theorem xs2N:itN xs2 0 ([97,98,88,89,101]:List Int).length=3:=by decide +kernel
theorem xs4N:itN xs4 8 ([122,122]:List Int).length=1:=by decide +kernel
theorem xs5N:itN xs5 0 ([97,98,99]:List Int).length=0:=by decide +kernel
theorem xs1B:irB xs1 9=[]:=by decide +kernel
theorem xs3B:irB xs3 3=[97,98,99]:=by decide +kernel
theorem xs1H:ihr xs1=0:=by decide +kernel
theorem xs1E:ibe xs1=[(2,4)]:=by decide +kernel
theorem xs4L:ilim xs4=9:=by decide +kernel
theorem xs6D:ihd xs6=3:=by decide +kernel
theorem shown19_any {I:InI} (hK:InOK I) (w0:World) :
 Calls Try.prog 7 #[] w0 fun e w'=>e=.returned (.bool true)∧Below w0.heap.size w0 w':=by
 have M:=Mm.init w0
 go_enter Try.func7,Try.ntmps7
 go_upto_region 0 with fail; refine wp_region_list ?_; refine xpL (.bool false) ?_; refine xT ?_; go_upto_region 1 with fail; refine wp_region_list ?_; have key:=hK.new w0 _ _ 6 (by unfold i64; decide) M; refine xcL key ?_; clear key; rintro e w1 ⟨v_,ba0,rfl,hIa,M',l_⟩
 obtain ⟨Ra,rfl⟩:=hK.ptr _ _ _ _ hIa
 clear M; have M:=M'.perm (pull0 ([]:List (Nat × List Value)) ba0 ([]:List (Nat × List Value))).symm; clear M'; clear l_
 replace M:Mm w0 ((ba0++([]:List (Nat × List Value)))) w1:=M
 refine xeL ?_; refine xpL (.pointer (some ⟨Ra,0,none⟩)) ?_; refine xT ?_; go_upto_region 2 with fail; refine wp_region_list ?_; refine xpL (.pointer (some ⟨Ra,0,none⟩)) ?_; refine xpL (.bool false) ?_; refine xT ?_; go_upto_region 4 with fail; refine wp_region_list ?_; refine xpL (.pointer (some ⟨Ra,0,none⟩)) ?_
 refine actL (w':=w1.alloc (.cells #[.int .u8 99,.int .u8 100] 5)) (.slice (some ⟨w1.heap.size,0,none⟩) 2 2) rfl (by kernel_rfl) ?_; simp only [aP,lI,l0,lS]
 refine actL (w':=w1.alloc (.cells #[.int .u8 99,.int .u8 100] 5 ((#[.int .u8 99,.int .u8 100]:Array Value).size,(#[.int .u8 99,.int .u8 100]:Array Value).size+1))) (.slice (some ⟨w1.heap.size,0,none⟩) 2 2) rfl (conv_const 28 5 #[.int .u8 99,.int .u8 100] 2 2 _ rfl rfl Try.underlying28 Try.underlying5) ?_; simp only [aP,lI,l0,lS]
 have hlb:=(Below.refl w1.heap.size w1).alloc (xnR _) (.cells #[.int .u8 99,.int .u8 100] 5 ((#[.int .u8 99,.int .u8 100]:Array Value).size,(#[.int .u8 99,.int .u8 100]:Array Value).size+1)); replace hIa:=hK.bel hIa hlb
 replace M:=M.boxC #[.int .u8 99,.int .u8 100] 5 (((#[.int .u8 99,.int .u8 100]:Array Value)).size,((#[.int .u8 99,.int .u8 100]:Array Value)).size+1) w1.heap.size rfl (xnR _); clear hlb; generalize w1.alloc (.cells #[.int .u8 99,.int .u8 100] 5 ((#[.int .u8 99,.int .u8 100]:Array Value).size,(#[.int .u8 99,.int .u8 100]:Array Value).size+1))=w2 at M hIa ⊢
 generalize w1.heap.size=B2 at M ⊢
 replace M:Mm w0 ((B2,[.int .u8 99,.int .u8 100])::(ba0++([]:List (Nat × List Value)))) w2:=M
 have Mp:=M.perm (pull0 ([(B2,[.int .u8 99,.int .u8 100])]:List (Nat × List Value)) ba0 ([]:List (Nat × List Value)))
 have key:=hK.tak w0 _ _ xs0 ba0 _ 2 (some ⟨B2,0,none⟩) 2 [99,100] xs0_w xs0_l (by unfold i64; decide) (by decide) (by decide) (fun e=>by cases e) (by unfold Byts; decide) hIa Mp (show SrcA _ _ _ _ _ from ⟨(M.src mS [99,100] rfl),fun ad e _=>by cases e; exact Mp.beside mS⟩)
 rw [xs0N] at key
 rw [show itk xs0 2 [99,100]=xs1 from rfl] at key
 refine xcL key ?_; clear key; rintro e w3 ⟨ba1,rfl,hI_,M',o1⟩; clear o1 Mp M hIa; have hIa:=hI_; clear hI_
 have M:Mm w0 ((B2,[.int .u8 99,.int .u8 100])::(ba1++([]:List (Nat × List Value)))) w3:=M'.perm (pull0 ([(B2,[.int .u8 99,.int .u8 100])]:List (Nat × List Value)) ba1 ([]:List (Nat × List Value))).symm
 clear M'; refine xeL ?_; refine xpL (.int .i64 ((2:Nat):Int)) ?_; refine xT ?_; go_upto_region 5 with fail; refine wp_region_list ?_; refine xpL (.pointer (some ⟨Ra,0,none⟩)) ?_; have Mp:=M.perm (pull0 ([(B2,[.int .u8 99,.int .u8 100])]:List (Nat × List Value)) ba1 ([]:List (Nat × List Value))); have key:=hK.her w0 _ _ xs1 ba1 _ xs1_w xs1_l hIa Mp; clear Mp
 rw [xs1H] at key
 refine xcL key ?_; clear key; rintro e w4 ⟨rfl,l_⟩; replace M:=M.call l_; replace hIa:=hK.bel hIa l_; clear l_; refine xeL ?_; refine xpL (.int .i64 ((0:Nat):Int)) ?_; refine xT ?_; go_upto_region 6 with fail; refine wp_region_list ?_; refine xpL (.pointer (some ⟨Ra,0,none⟩)) ?_
 have Mp:=M.perm (pull0 ([(B2,[.int .u8 99,.int .u8 100])]:List (Nat × List Value)) ba1 ([]:List (Nat × List Value))); have key:=hK.bey w0 _ _ xs1 ba1 _ xs1_w xs1_l hIa Mp; clear Mp
 rw [xs1E] at key
 refine xcL key ?_; clear key; rintro e w5 ⟨p5,c5,rfl,W_5,l_⟩; replace M:=M.newW l_ W_5; replace hIa:=hK.bel hIa l_; clear l_
 replace M:Mm w0 ((B2,[.int .u8 99,.int .u8 100])::((obs p5)++(ba1++([]:List (Nat × List Value))))) w5:=M.perm (pull0 ([(B2,[.int .u8 99,.int .u8 100])]:List (Nat × List Value)) (obs p5) (ba1++([]:List (Nat × List Value)))).symm
 refine xeL ?_; refine xpL (.slice p5 (([(2,4)]:List (Int × Int)).length) c5) ?_; refine xT ?_; go_upto_region 7 with fail; refine wp_region_list ?_; refine xpL (.pointer (some ⟨Ra,0,none⟩)) ?_; have Mp:=M.perm (pull1 ([(B2,[.int .u8 99,.int .u8 100])]:List (Nat × List Value)) (obs p5) ba1 ([]:List (Nat × List Value)))
 have key:=hK.red w0 _ _ xs1 ba1 _ 9 xs1_w xs1_l (by unfold i64; decide) hIa Mp
 rw [xs1B] at key
 rw [show irx xs1 9=xs2 from rfl] at key
 refine xcL key ?_; clear key; rintro e w6 ⟨p6,c6,ba2,rfl,N_6,T_6,hI_,M',o1⟩; replace W_5:=NewW.offB W_5 o1 (Mp.awayS (fun p_ hp_=>by simp [hp_])); clear o1 Mp M hIa; have hIa:=hI_; clear hI_
 have M:Mm w0 ((B2,[.int .u8 99,.int .u8 100])::(ba2++((obs p6)++((obs p5)++([]:List (Nat × List Value)))))) w6:=M'.perm (pullY ([(B2,[.int .u8 99,.int .u8 100])]:List (Nat × List Value)) ba2 (obs p6) ((obs p5)++([]:List (Nat × List Value))))
 clear M'; refine xeL ?_
 obtain ⟨bs6,N_6⟩:∃ b_,NewF w6 b_ ([]:List Int).length (bl ([])) (.slice p6 ([]:List Int).length c6):=⟨_,N_6⟩
 refine xpL (.slice p6 (([]:List Int).length) c6) ?_; refine xT ?_; go_upto_region 8 with fail; refine wp_region_list ?_; refine xpL (.pointer (some ⟨Ra,0,none⟩)) ?_; refine actL (w':=w6.alloc (.cells #[.int .u8 97,.int .u8 98,.int .u8 88,.int .u8 89,.int .u8 101] 5)) (.slice (some ⟨w6.heap.size,0,none⟩) 5 5) rfl (by kernel_rfl) ?_; simp only [aP,lI,l0,lS]
 refine actL (w':=w6.alloc (.cells #[.int .u8 97,.int .u8 98,.int .u8 88,.int .u8 89,.int .u8 101] 5 ((#[.int .u8 97,.int .u8 98,.int .u8 88,.int .u8 89,.int .u8 101]:Array Value).size,(#[.int .u8 97,.int .u8 98,.int .u8 88,.int .u8 89,.int .u8 101]:Array Value).size+1))) (.slice (some ⟨w6.heap.size,0,none⟩) 5 5) rfl (conv_const 28 5 #[.int .u8 97,.int .u8 98,.int .u8 88,.int .u8 89,.int .u8 101] 5 5 _ rfl rfl Try.underlying28 Try.underlying5) ?_
 simp only [aP,lI,l0,lS]; have hlb:=(Below.refl w6.heap.size w6).alloc (xnR _) (.cells #[.int .u8 97,.int .u8 98,.int .u8 88,.int .u8 89,.int .u8 101] 5 ((#[.int .u8 97,.int .u8 98,.int .u8 88,.int .u8 89,.int .u8 101]:Array Value).size,(#[.int .u8 97,.int .u8 98,.int .u8 88,.int .u8 89,.int .u8 101]:Array Value).size+1)); replace hIa:=hK.bel hIa hlb
 replace W_5:=NewW.below W_5 hlb; replace N_6:=NewF.below N_6 hlb; replace T_6:=Wrt.below T_6 hlb
 replace M:=M.boxC #[.int .u8 97,.int .u8 98,.int .u8 88,.int .u8 89,.int .u8 101] 5 (((#[.int .u8 97,.int .u8 98,.int .u8 88,.int .u8 89,.int .u8 101]:Array Value)).size,((#[.int .u8 97,.int .u8 98,.int .u8 88,.int .u8 89,.int .u8 101]:Array Value)).size+1) w6.heap.size rfl (xnR _); clear hlb
 generalize w6.alloc (.cells #[.int .u8 97,.int .u8 98,.int .u8 88,.int .u8 89,.int .u8 101] 5 ((#[.int .u8 97,.int .u8 98,.int .u8 88,.int .u8 89,.int .u8 101]:Array Value).size,(#[.int .u8 97,.int .u8 98,.int .u8 88,.int .u8 89,.int .u8 101]:Array Value).size+1))=w7 at M hIa W_5 N_6 T_6 ⊢; generalize w6.heap.size=B7 at M ⊢
 replace M:Mm w0 ((B7,[.int .u8 97,.int .u8 98,.int .u8 88,.int .u8 89,.int .u8 101])::(B2,[.int .u8 99,.int .u8 100])::(ba2++((obs p6)++((obs p5)++([]:List (Nat × List Value)))))) w7:=M
 have Mp:=M.perm (pull0 ([(B7,[.int .u8 97,.int .u8 98,.int .u8 88,.int .u8 89,.int .u8 101]),(B2,[.int .u8 99,.int .u8 100])]:List (Nat × List Value)) ba2 ((obs p6)++((obs p5)++([]:List (Nat × List Value)))))
 have key:=hK.tak w0 _ _ xs2 ba2 _ 0 (some ⟨B7,0,none⟩) 5 [97,98,88,89,101] xs2_w xs2_l (by unfold i64; decide) (by decide) (by decide) (fun e=>by cases e) (by unfold Byts; decide) hIa Mp (show SrcA _ _ _ _ _ from ⟨(M.src mS [97,98,88,89,101] rfl),fun ad e _=>by cases e; exact Mp.beside mS⟩)
 rw [xs2N] at key
 rw [show itk xs2 0 [97,98,88,89,101]=xs3 from rfl] at key
 refine xcL key ?_; clear key; rintro e w8 ⟨ba3,rfl,hI_,M',o1⟩; replace W_5:=NewW.offB W_5 o1 (Mp.awayS (fun p_ hp_=>by simp [hp_])); replace N_6:=NewF.offB N_6 o1 (Mp.awayS (fun p_ hp_=>by simp [hp_])); replace T_6:=Wrt.offB T_6 o1 (Mp.awayS (fun p_ hp_=>by simp [hp_])); clear o1 Mp M hIa; have hIa:=hI_; clear hI_
 have M:Mm w0 ((B7,[.int .u8 97,.int .u8 98,.int .u8 88,.int .u8 89,.int .u8 101])::(B2,[.int .u8 99,.int .u8 100])::(ba3++((obs p6)++((obs p5)++([]:List (Nat × List Value)))))) w8:=M'.perm (pull0 ([(B7,[.int .u8 97,.int .u8 98,.int .u8 88,.int .u8 89,.int .u8 101]),(B2,[.int .u8 99,.int .u8 100])]:List (Nat × List Value)) ba3 ((obs p6)++((obs p5)++([]:List (Nat × List Value))))).symm
 clear M'; refine xeL ?_; refine xpL (.int .i64 ((3:Nat):Int)) ?_; refine xT ?_; go_upto_region 9 with fail; refine wp_region_list ?_; refine xpL (.pointer (some ⟨Ra,0,none⟩)) ?_
 have Mp:=M.perm (pull0 ([(B7,[.int .u8 97,.int .u8 98,.int .u8 88,.int .u8 89,.int .u8 101]),(B2,[.int .u8 99,.int .u8 100])]:List (Nat × List Value)) ba3 ((obs p6)++((obs p5)++([]:List (Nat × List Value))))); have key:=hK.red w0 _ _ xs3 ba3 _ 3 xs3_w xs3_l (by unfold i64; decide) hIa Mp
 rw [xs3B] at key
 rw [show irx xs3 3=xs4 from rfl] at key
 refine xcL key ?_; clear key; rintro e w9 ⟨p9,c9,ba4,rfl,N_9,T_9,hI_,M',o1⟩; replace W_5:=NewW.offB W_5 o1 (Mp.awayS (fun p_ hp_=>by simp [hp_])); replace N_6:=NewF.offB N_6 o1 (Mp.awayS (fun p_ hp_=>by simp [hp_])); replace T_6:=Wrt.offB T_6 o1 (Mp.awayS (fun p_ hp_=>by simp [hp_])); clear o1 Mp M hIa; have hIa:=hI_; clear hI_
 have M:Mm w0 ((B7,[.int .u8 97,.int .u8 98,.int .u8 88,.int .u8 89,.int .u8 101])::(B2,[.int .u8 99,.int .u8 100])::(ba4++((obs p9)++((obs p6)++((obs p5)++([]:List (Nat × List Value))))))) w9:=M'.perm (pullY ([(B7,[.int .u8 97,.int .u8 98,.int .u8 88,.int .u8 89,.int .u8 101]),(B2,[.int .u8 99,.int .u8 100])]:List (Nat × List Value)) ba4 (obs p9) ((obs p6)++((obs p5)++([]:List (Nat × List Value)))))
 clear M'; refine xeL ?_
 obtain ⟨bs9,N_9⟩:∃ b_,NewF w9 b_ ([97,98,99]:List Int).length (bl ([97,98,99])) (.slice p9 ([97,98,99]:List Int).length c9):=⟨_,N_9⟩
 refine xpL (.slice p9 (([97,98,99]:List Int).length) c9) ?_; refine xT ?_; go_upto_region 10 with fail; refine wp_region_list ?_; refine xpL (.pointer (some ⟨Ra,0,none⟩)) ?_
 have Mp:=M.perm (pull0 ([(B7,[.int .u8 97,.int .u8 98,.int .u8 88,.int .u8 89,.int .u8 101]),(B2,[.int .u8 99,.int .u8 100])]:List (Nat × List Value)) ba4 ((obs p9)++((obs p6)++((obs p5)++([]:List (Nat × List Value)))))); have key:=hK.lim w0 _ _ xs4 ba4 _ xs4_w xs4_l hIa Mp; clear Mp
 rw [xs4L] at key
 refine xcL key ?_; clear key; rintro e w10 ⟨rfl,l_⟩; replace M:=M.call l_; replace hIa:=hK.bel hIa l_; replace W_5:=NewW.below W_5 l_; replace N_6:=NewF.below N_6 l_; replace T_6:=Wrt.below T_6 l_; replace N_9:=NewF.below N_9 l_; replace T_9:=Wrt.below T_9 l_; clear l_; refine xeL ?_; refine xpL (.int .i64 ((9:Nat):Int)) ?_; refine xT ?_; go_upto_region 11 with fail
 refine wp_region_list ?_; refine xpL (.pointer (some ⟨Ra,0,none⟩)) ?_; refine actL (w':=w10.alloc (.cells #[.int .u8 122,.int .u8 122] 5)) (.slice (some ⟨w10.heap.size,0,none⟩) 2 2) rfl (by kernel_rfl) ?_; simp only [aP,lI,l0,lS]
 refine actL (w':=w10.alloc (.cells #[.int .u8 122,.int .u8 122] 5 ((#[.int .u8 122,.int .u8 122]:Array Value).size,(#[.int .u8 122,.int .u8 122]:Array Value).size+1))) (.slice (some ⟨w10.heap.size,0,none⟩) 2 2) rfl (conv_const 28 5 #[.int .u8 122,.int .u8 122] 2 2 _ rfl rfl Try.underlying28 Try.underlying5) ?_; simp only [aP,lI,l0,lS]
 have hlb:=(Below.refl w10.heap.size w10).alloc (xnR _) (.cells #[.int .u8 122,.int .u8 122] 5 ((#[.int .u8 122,.int .u8 122]:Array Value).size,(#[.int .u8 122,.int .u8 122]:Array Value).size+1)); replace hIa:=hK.bel hIa hlb; replace W_5:=NewW.below W_5 hlb; replace N_6:=NewF.below N_6 hlb; replace T_6:=Wrt.below T_6 hlb; replace N_9:=NewF.below N_9 hlb
 replace T_9:=Wrt.below T_9 hlb; replace M:=M.boxC #[.int .u8 122,.int .u8 122] 5 (((#[.int .u8 122,.int .u8 122]:Array Value)).size,((#[.int .u8 122,.int .u8 122]:Array Value)).size+1) w10.heap.size rfl (xnR _); clear hlb
 generalize w10.alloc (.cells #[.int .u8 122,.int .u8 122] 5 ((#[.int .u8 122,.int .u8 122]:Array Value).size,(#[.int .u8 122,.int .u8 122]:Array Value).size+1))=w11 at M hIa W_5 N_6 T_6 N_9 T_9 ⊢; generalize w10.heap.size=B11 at M ⊢
 replace M:Mm w0 ((B11,[.int .u8 122,.int .u8 122])::(B7,[.int .u8 97,.int .u8 98,.int .u8 88,.int .u8 89,.int .u8 101])::(B2,[.int .u8 99,.int .u8 100])::(ba4++((obs p9)++((obs p6)++((obs p5)++([]:List (Nat × List Value))))))) w11:=M
 have Mp:=M.perm (pull0 ([(B11,[.int .u8 122,.int .u8 122]),(B7,[.int .u8 97,.int .u8 98,.int .u8 88,.int .u8 89,.int .u8 101]),(B2,[.int .u8 99,.int .u8 100])]:List (Nat × List Value)) ba4 ((obs p9)++((obs p6)++((obs p5)++([]:List (Nat × List Value))))))
 have key:=hK.tak w0 _ _ xs4 ba4 _ 8 (some ⟨B11,0,none⟩) 2 [122,122] xs4_w xs4_l (by unfold i64; decide) (by decide) (by decide) (fun e=>by cases e) (by unfold Byts; decide) hIa Mp (show SrcA _ _ _ _ _ from ⟨(M.src mS [122,122] rfl),fun ad e _=>by cases e; exact Mp.beside mS⟩)
 rw [xs4N] at key
 rw [show itk xs4 8 [122,122]=xs5 from rfl] at key
 refine xcL key ?_; clear key; rintro e w12 ⟨ba5,rfl,hI_,M',o1⟩; replace W_5:=NewW.offB W_5 o1 (Mp.awayS (fun p_ hp_=>by simp [hp_])); replace N_6:=NewF.offB N_6 o1 (Mp.awayS (fun p_ hp_=>by simp [hp_])); replace T_6:=Wrt.offB T_6 o1 (Mp.awayS (fun p_ hp_=>by simp [hp_])); replace N_9:=NewF.offB N_9 o1 (Mp.awayS (fun p_ hp_=>by simp [hp_]))
 replace T_9:=Wrt.offB T_9 o1 (Mp.awayS (fun p_ hp_=>by simp [hp_])); clear o1 Mp M hIa; have hIa:=hI_; clear hI_
 have M:Mm w0 ((B11,[.int .u8 122,.int .u8 122])::(B7,[.int .u8 97,.int .u8 98,.int .u8 88,.int .u8 89,.int .u8 101])::(B2,[.int .u8 99,.int .u8 100])::(ba5++((obs p9)++((obs p6)++((obs p5)++([]:List (Nat × List Value))))))) w12:=M'.perm (pull0 ([(B11,[.int .u8 122,.int .u8 122]),(B7,[.int .u8 97,.int .u8 98,.int .u8 88,.int .u8 89,.int .u8 101]),(B2,[.int .u8 99,.int .u8 100])]:List (Nat × List Value)) ba5 ((obs p9)++((obs p6)++((obs p5)++([]:List (Nat × List Value)))))).symm
 clear M'; refine xeL ?_; refine xpL (.int .i64 ((1:Nat):Int)) ?_; refine xT ?_; go_upto_region 12 with fail; refine wp_region_list ?_; refine xpL (.pointer (some ⟨Ra,0,none⟩)) ?_; refine actL (w':=w12.alloc (.cells #[.int .u8 97,.int .u8 98,.int .u8 99] 5)) (.slice (some ⟨w12.heap.size,0,none⟩) 3 3) rfl (by kernel_rfl) ?_; simp only [aP,lI,l0,lS]
 refine actL (w':=w12.alloc (.cells #[.int .u8 97,.int .u8 98,.int .u8 99] 5 ((#[.int .u8 97,.int .u8 98,.int .u8 99]:Array Value).size,(#[.int .u8 97,.int .u8 98,.int .u8 99]:Array Value).size+1))) (.slice (some ⟨w12.heap.size,0,none⟩) 3 3) rfl (conv_const 28 5 #[.int .u8 97,.int .u8 98,.int .u8 99] 3 3 _ rfl rfl Try.underlying28 Try.underlying5) ?_; simp only [aP,lI,l0,lS]
 have hlb:=(Below.refl w12.heap.size w12).alloc (xnR _) (.cells #[.int .u8 97,.int .u8 98,.int .u8 99] 5 ((#[.int .u8 97,.int .u8 98,.int .u8 99]:Array Value).size,(#[.int .u8 97,.int .u8 98,.int .u8 99]:Array Value).size+1)); replace hIa:=hK.bel hIa hlb; replace W_5:=NewW.below W_5 hlb; replace N_6:=NewF.below N_6 hlb; replace T_6:=Wrt.below T_6 hlb
 replace N_9:=NewF.below N_9 hlb; replace T_9:=Wrt.below T_9 hlb; replace M:=M.boxC #[.int .u8 97,.int .u8 98,.int .u8 99] 5 (((#[.int .u8 97,.int .u8 98,.int .u8 99]:Array Value)).size,((#[.int .u8 97,.int .u8 98,.int .u8 99]:Array Value)).size+1) w12.heap.size rfl (xnR _); clear hlb
 generalize w12.alloc (.cells #[.int .u8 97,.int .u8 98,.int .u8 99] 5 ((#[.int .u8 97,.int .u8 98,.int .u8 99]:Array Value).size,(#[.int .u8 97,.int .u8 98,.int .u8 99]:Array Value).size+1))=w13 at M hIa W_5 N_6 T_6 N_9 T_9 ⊢; generalize w12.heap.size=B13 at M ⊢
 replace M:Mm w0 ((B13,[.int .u8 97,.int .u8 98,.int .u8 99])::(B11,[.int .u8 122,.int .u8 122])::(B7,[.int .u8 97,.int .u8 98,.int .u8 88,.int .u8 89,.int .u8 101])::(B2,[.int .u8 99,.int .u8 100])::(ba5++((obs p9)++((obs p6)++((obs p5)++([]:List (Nat × List Value))))))) w13:=M
 have Mp:=M.perm (pull0 ([(B13,[.int .u8 97,.int .u8 98,.int .u8 99]),(B11,[.int .u8 122,.int .u8 122]),(B7,[.int .u8 97,.int .u8 98,.int .u8 88,.int .u8 89,.int .u8 101]),(B2,[.int .u8 99,.int .u8 100])]:List (Nat × List Value)) ba5 ((obs p9)++((obs p6)++((obs p5)++([]:List (Nat × List Value))))))
 have key:=hK.tak w0 _ _ xs5 ba5 _ 0 (some ⟨B13,0,none⟩) 3 [97,98,99] xs5_w xs5_l (by unfold i64; decide) (by decide) (by decide) (fun e=>by cases e) (by unfold Byts; decide) hIa Mp (show SrcA _ _ _ _ _ from ⟨(M.src mS [97,98,99] rfl),fun ad e _=>by cases e; exact Mp.beside mS⟩)
 rw [xs5N] at key
 rw [show itk xs5 0 [97,98,99]=xs6 from rfl] at key
 refine xcL key ?_; clear key; rintro e w14 ⟨ba6,rfl,hI_,M',o1⟩; replace W_5:=NewW.offB W_5 o1 (Mp.awayS (fun p_ hp_=>by simp [hp_])); replace N_6:=NewF.offB N_6 o1 (Mp.awayS (fun p_ hp_=>by simp [hp_])); replace T_6:=Wrt.offB T_6 o1 (Mp.awayS (fun p_ hp_=>by simp [hp_])); replace N_9:=NewF.offB N_9 o1 (Mp.awayS (fun p_ hp_=>by simp [hp_]))
 replace T_9:=Wrt.offB T_9 o1 (Mp.awayS (fun p_ hp_=>by simp [hp_])); clear o1 Mp M hIa; have hIa:=hI_; clear hI_
 have M:Mm w0 ((B13,[.int .u8 97,.int .u8 98,.int .u8 99])::(B11,[.int .u8 122,.int .u8 122])::(B7,[.int .u8 97,.int .u8 98,.int .u8 88,.int .u8 89,.int .u8 101])::(B2,[.int .u8 99,.int .u8 100])::(ba6++((obs p9)++((obs p6)++((obs p5)++([]:List (Nat × List Value))))))) w14:=M'.perm (pull0 ([(B13,[.int .u8 97,.int .u8 98,.int .u8 99]),(B11,[.int .u8 122,.int .u8 122]),(B7,[.int .u8 97,.int .u8 98,.int .u8 88,.int .u8 89,.int .u8 101]),(B2,[.int .u8 99,.int .u8 100])]:List (Nat × List Value)) ba6 ((obs p9)++((obs p6)++((obs p5)++([]:List (Nat × List Value)))))).symm
 clear M'; refine xeL ?_; refine xpL (.int .i64 ((0:Nat):Int)) ?_; refine xT ?_
 obtain ⟨ad_5,had_5⟩:=NewW.someE (i:=0) W_5 (by decide)
 go_upto_region 13 with fail; refine wp_region_list ?_; refine xpL (.int .i64 ((2:Nat):Int)) ?_; refine xaL (.bool true) (eqlI .i64 _ _ _ _ _ _ rfl rfl rfl true rfl _) ?_; refine xpL (.bool true) ?_; refine xpL (.int .i64 ((0:Nat):Int)) ?_; refine xaL (.bool true) (eqlI .i64 _ _ _ _ _ _ rfl rfl rfl true rfl _) ?_; refine xpL (.bool true) ?_; refine xpL (.bool true) ?_
 refine xpL (.slice p5 (([(2,4)]:List (Int × Int)).length) c5) ?_; refine readL (.int .i64 ((([(2,4)]:List (Int × Int)).length:Nat):Int)) rfl (lenS _ 39 44 p5 (([(2,4)]:List (Int × Int)).length) c5 rfl Try.underlying39 rfl _) ?_; simp only [aP,lI,l0,lS]; refine xaL (.bool true) (eqlI .i64 _ _ _ _ _ _ rfl rfl rfl true rfl _) ?_; refine xpL (.bool true) ?_; refine xpL (.bool true) ?_
 refine xpL (.slice p5 (([(2,4)]:List (Int × Int)).length) c5) ?_; refine readL (.pointer (some (ad_5.add (0*2)))) rfl (idxR2E ad_5 _ _ 0 _ had_5 (show 0<([(2,4)]:List (Int × Int)).length by decide) _ _ rfl rfl rfl _) ?_; simp only [aP,lI,l0,lS]
 refine xaL (.agg #[.int .i64 2,.int .i64 4]) (loadN 44 _ (ad_5.add (0*2)) [.int .i64 2,.int .i64 4] rfl rfl (fun _=>by kernel_rfl) (fun _=>by kernel_rfl) (NewW.rngE W_5 had_5 (show ([(2,4)]:List (Int × Int))[0]?=some (2,4) from rfl))) ?_; refine xpL (.agg #[.int .i64 2,.int .i64 4]) ?_; refine xaL (.bool true) (eqlRg _ _ _ _ _ _ rfl rfl rfl rfl rfl _) ?_; refine xpL (.bool true) ?_
 refine xpL (.bool true) ?_; refine xpL (.slice p6 (([]:List Int).length) c6) ?_; refine readL (.int .i64 ((([]:List Int).length:Nat):Int)) rfl (lenS _ 28 5 p6 (([]:List Int).length) c6 rfl Try.underlying28 rfl _) ?_; simp only [aP,lI,l0,lS]; refine xaL (.bool true) (eqlI .i64 _ _ _ _ _ _ rfl rfl rfl true rfl _) ?_; refine xpL (.bool true) ?_; refine xpL (.bool true) ?_
 refine xpL (.int .i64 ((3:Nat):Int)) ?_; refine xaL (.bool true) (eqlI .i64 _ _ _ _ _ _ rfl rfl rfl true rfl _) ?_; refine xpL (.bool true) ?_; refine xpL (.bool true) ?_; refine xpL (.slice p9 (([97,98,99]:List Int).length) c9) ?_
 refine readL (.string (txt (([97,98,99]:List Int).length) (bl ([97,98,99])))) rfl (conv_txt 28 5 9 _ rfl Try.underlying28 Try.underlying5 Try.underlying9 p9 (([97,98,99]:List Int).length) c9 (bl ([97,98,99])) rfl _ (NewF.src N_9) (fun e=>by have h1:=(NewF.nilCap N_9) e; have h2:=(NewF.le N_9); omega)) ?_
 simp only [aP,lI,l0,lS]; refine xaL (.bool true) (eqlS _ _ _ _ _ _ rfl rfl rfl rfl _) ?_; refine xpL (.bool true) ?_; refine xpL (.bool true) ?_; refine xpL (.int .i64 ((9:Nat):Int)) ?_; refine xaL (.bool true) (eqlI .i64 _ _ _ _ _ _ rfl rfl rfl true rfl _) ?_; refine xpL (.bool true) ?_; refine xpL (.bool true) ?_; refine xpL (.int .i64 ((1:Nat):Int)) ?_
 refine xaL (.bool true) (eqlI .i64 _ _ _ _ _ _ rfl rfl rfl true rfl _) ?_; refine xpL (.bool true) ?_; refine xpL (.bool true) ?_; refine xpL (.int .i64 ((0:Nat):Int)) ?_; refine xaL (.bool true) (eqlI .i64 _ _ _ _ _ _ rfl rfl rfl true rfl _) ?_; refine xpL (.bool true) ?_; refine xpL (.bool true) ?_; refine xpL (.pointer (some ⟨Ra,0,none⟩)) ?_
 have Mp:=M.perm (pull0 ([(B13,[.int .u8 97,.int .u8 98,.int .u8 99]),(B11,[.int .u8 122,.int .u8 122]),(B7,[.int .u8 97,.int .u8 98,.int .u8 88,.int .u8 89,.int .u8 101]),(B2,[.int .u8 99,.int .u8 100])]:List (Nat × List Value)) ba6 ((obs p9)++((obs p6)++((obs p5)++([]:List (Nat × List Value)))))); have key:=hK.hld w0 _ _ xs6 ba6 _ xs6_w xs6_l hIa Mp; clear Mp
 rw [xs6D] at key
 refine xcL key ?_; clear key; rintro e w15 ⟨rfl,l_⟩; replace M:=M.call l_; replace hIa:=hK.bel hIa l_; replace W_5:=NewW.below W_5 l_; replace N_6:=NewF.below N_6 l_; replace T_6:=Wrt.below T_6 l_; replace N_9:=NewF.below N_9 l_; replace T_9:=Wrt.below T_9 l_; clear l_; refine xeL ?_; refine xaL (.bool true) (eqlI .i64 _ _ _ _ _ _ rfl rfl rfl true rfl _) ?_
 refine xpL (.bool true) ?_; refine xpL (.bool true) ?_; refine xT ?_; have hbel:=M.below; clear M hIa W_5 N_6 T_6 N_9 T_9; go_wp2; go_ret
 exact ⟨rfl,hbel⟩
def kdn (c:Int) (n:Nat):Nat:=(if c<0 then -(c+1) else c).toNat%n
theorem kdn_lt (c:Int) (n:Nat) (h:0<n):kdn c n<n:=Nat.mod_lt _ h
theorem kind19_any (c:Int) (n:Nat) (hn:0<n) (h1:i64 c) (w:World) :
 Calls Try.prog 10 #[.int .i64 c,.int .i64 (n:Int)] w fun e w'=>e=.returned (.int .i64 (kdn c n:Int))∧Below w.heap.size w w':=by
 unfold i64 at h1
 have M:=Mm.init w
 go_enter Try.func10,Try.ntmps10
 go_upto_region 0 with fail; refine wp_region_list ?_; refine xpL (.int .i64 0) ?_; refine xT ?_
 by_cases hc:c<0
 · go_upto_region 1 with fail
   refine wp_region_list ?_; refine xpL (.int .i64 c) ?_; refine xaL (.bool true) (lssI .i64 _ _ _ _ _ _ rfl rfl rfl true (decide_eq_true hc) _) ?_; refine xT ?_; go_upto_region 2 with fail; refine wp_region_list ?_; refine xpL (.int .i64 c) ?_; refine xaL (.int .i64 (c+1)) (addI .i64 _ _ _ _ _ _ _ rfl rfl rfl (by rw [xw6]; omega) _) ?_
   refine xaL (.int .i64 (-(c+1))) (negI .i64 _ _ _ _ rfl rfl (by rw [xw6]; omega) _) ?_; refine xpL (.int .i64 (-(c+1))) ?_; refine xT ?_
   have hrem:(-(c+1)).tmod (n:Int)=((kdn c n:Nat):Int):=by
    unfold kdn
    rw [if_pos hc]
    obtain ⟨m,hm⟩:∃ m:Nat,-(c+1)=(m:Int):=⟨(-(c+1)).toNat,by omega⟩
    rw [hm,Int.toNat_natCast]
    rfl
   go_upto_region 3 with fail; refine wp_region_list ?_; refine xpL (.int .i64 (-(c+1))) ?_; refine xpL (.int .i64 (n:Int)) ?_; refine xaL (.int .i64 ((kdn c n:Nat):Int)) (remI .i64 _ _ _ _ _ _ _ rfl rfl rfl (by omega) hrem _) ?_; refine xpL (.int .i64 ((kdn c n:Nat):Int)) ?_; refine xT ?_; have hB:=M.below; clear M; go_wp2; go_ret
   exact ⟨rfl,hB⟩
 · go_upto_region 1 with fail
   refine wp_region_list ?_; refine xpL (.int .i64 c) ?_; refine xaL (.bool false) (lssI .i64 _ _ _ _ _ _ rfl rfl rfl false (decide_eq_false hc) _) ?_; refine xT ?_
   have hrem:(c).tmod (n:Int)=((kdn c n:Nat):Int):=by
    unfold kdn
    rw [if_neg hc]
    obtain ⟨m,hm⟩:∃ m:Nat,c=(m:Int):=⟨(c).toNat,by omega⟩
    rw [hm,Int.toNat_natCast]
    rfl
   go_upto_region 3 with fail; refine wp_region_list ?_; refine xpL (.int .i64 c) ?_; refine xpL (.int .i64 (n:Int)) ?_; refine xaL (.int .i64 ((kdn c n:Nat):Int)) (remI .i64 _ _ _ _ _ _ _ rfl rfl rfl (by omega) hrem _) ?_; refine xpL (.int .i64 ((kdn c n:Nat):Int)) ?_; refine xT ?_; have hB:=M.below; clear M; go_wp2; go_ret
   exact ⟨rfl,hB⟩
section
section
variable {P:Program}
theorem idxSlE {o:Oper} {a:Act} (t e:TypeId) (len cap:Nat) (k:IntKind) (sp:Option Addr) (ad:Addr) (hsp:sp=some ad) (i:Nat) (x y:Operand) (hu:P.underlying t=some (.slice e)) (hsz:∀ w,(sizeOf e).run P w=.ok 1 w) (hi:i<len) (ho:o.op=.indexAddr t x y) (hx:a.eval x=.slice sp len cap) (hy:a.eval y=.int k (i:Int)) (w:World) :
 (execOp a.eval o).run P w=.ok (.value (.pointer (some (ad.add i)))) w:=by
 subst hsp
 exact idxSl t e len cap k ad i x y hu hsz hi ho hx hy w
theorem idxRowE {o:Oper} {a:Act} (t e:TypeId) (sp:Option Addr) (g len cap i:Nat) (hsp:sp=some ⟨g,0,none⟩) (x y:Operand) (hu:P.underlying t=some (.slice e)) (hsz:∀ w,(sizeOf e).run P w=.ok 1 w) (hi:i<len) (ho:o.op=.indexAddr t x y) (hx:a.eval x=.slice sp len cap) (hy:a.eval y=.int .i64 (i:Int)) (w:World) :
 (execOp a.eval o).run P w=.ok (.value (.pointer (some ⟨g,i,none⟩))) w:=by
 subst hsp
 exact idxRow t e g len cap i x y hu hsz hi ho hx hy w
end
theorem Mm.putRow {w0 w:World} {l:List (Nat × List Value)} {g:Nat} {base:Nat} {e:TypeId} {size n cap:Nat} {xs:List Value} {sp:Option Addr} (M:Mm w0 (obs sp++l) w) (V:w.ownsRow base e size (.slice sp n cap) n xs) (hsp:sp=some ⟨g,0,none⟩) (h0:w0.heap.size≤base) (j:Nat) (hj:j<xs.length) (u:Value) :
 ((w.cell? ⟨g,j,none⟩).isSome=true∧w.frozen? ⟨g,j,none⟩=false)∧Mm w0 (obs sp++l) (w.setCell ⟨g,j,none⟩ u)∧(w.setCell ⟨g,j,none⟩ u).ownsRow base e size (.slice sp n cap) n (xs.set j u)∧Off (ob sp) w (w.setCell ⟨g,j,none⟩ u):=by
 subst hsp
 obtain ⟨h1,h2⟩:=M.setObs V h0 j hj u
 exact ⟨h1,h2,ownsRow_put V j u,(Off.refl _ w).set (b:=g) mS j u⟩
theorem cell_form {w:World} {a:Addr} (h:(w.cell? a).isSome=true):a=⟨a.block,a.off,none⟩:=by
 obtain ⟨b,o,s⟩:=a
 cases s with
 | none=>rfl
 | some _ =>
   unfold World.cell? at h
   simp only at h
   split at h <;> simp at h
theorem Wrt.put {w:World} {sp:Option Addr} {n:Nat} (h:Wrt w sp n) (g j:Nat) (v:Value):Wrt (w.setCell ⟨g,j,none⟩ v) sp n:=fun i hi=>by
 obtain ⟨ad,e,h1,h2⟩:=h i hi
 refine ⟨ad,e,?_,by rw [World.frozen?_setCell]; exact h2⟩
 by_cases c:ad.add i=⟨g,j,none⟩
 · rw [← c,World.cell?_setCell_same' w _ v h1]; rfl
 · rw [World.cell?_setCell_other _ _ _ _ (fun e=>c e.symm)]; exact h1
theorem Mm.putObs {w0 w:World} {l:List (Nat × List Value)} {sp:Option Addr} (M:Mm w0 (obs sp++l) w) {ad:Addr} (hsp:sp=some ad) (j:Nat) (v:Value):Mm w0 (obs sp++l) (w.setCell ⟨ad.block,j,none⟩ v)∧Off (ob sp) w (w.setCell ⟨ad.block,j,none⟩ v):=by
 subst hsp
 have o1:Off [ad.block] w (w.setCell ⟨ad.block,j,none⟩ v):=(Off.refl _ w).set (b:=ad.block) mS j v
 have hlo:=M.lo (b:=ad.block) (cs:=[]) mS; have hlt:=M.lt (b:=ad.block) (cs:=[]) mS
 refine ⟨?_,o1⟩
 have Ml:Mm w0 l (w.setCell ⟨ad.block,j,none⟩ v):=(M.sub l (List.sublist_cons_self _ l)).off o1 (fun b hb=>by rw [List.mem_singleton] at hb; subst hb; exact hlo) (fun p hp hm=>by
  rw [List.mem_singleton] at hm
  exact (List.pairwise_cons.1 M.apart).1 p hp hm.symm) ⟨rfl,rfl,rfl⟩
 exact Ml.addB hlo (xnL hlt o1.size) fun p hp e=>(List.pairwise_cons.1 M.apart).1 p hp e.symm
theorem Own.srcB {w:World} {base:Nat} {e:TypeId} {n:Nat} {f:Nat→Int} {sp:Option Addr} {c:Nat} {X:List Nat} (h:Own w base e .u8 n f (.slice sp n c)) (hX:∀ b∈X,b∉ob sp):SrcA X w sp n f:=⟨h.src,fun a e _ hm=>hX _ hm (by rw [e]; exact mS)⟩
theorem app_zero (f g:Nat→Int) (j:Nat):app f 0 g j=g j:=by
 unfold app
 rw [if_neg (xnZ j),Nat.sub_zero]
theorem pullZ18 {α:Type} (a b x t:List α):(x++(a++(b++t))).Perm (a++(b++(x++t))):=by
 have h:=pull0 x (a++b) t
 rw [List.append_assoc,List.append_assoc] at h
 exact h
end
section
theorem zeros_row (k:IntKind) (m:Nat):Builtin.zeroCells (Value.int k 0).cells m=(row k m (fun _=>0)).toArray:=by
 refine Array.toList_inj.1 ?_
 unfold Builtin.zeroCells row
 simp [Value.cells,Nat.mod_one]
section
variable {P:Program}
end
end
theorem make2000:∃ Z:List Int,Z.length=2000∧Byts Z∧∀ w,(Instr.makeSlice 28 (.int .i64 2000) (.int .i64 2000)).run Try.prog w=.ok (.slice (some ⟨w.heap.size,0,none⟩) Z.length Z.length) (w.alloc (.cells (Z.map (Value.int .u8)).toArray 5)):=by
 refine ⟨List.replicate 2000 0,List.length_replicate,fun x hx=>?_,fun w=>?_⟩
 · rw [List.eq_of_mem_replicate hx]
   decide
 · have e:(List.replicate 2000 (0:Int)).map (Value.int .u8)=row .u8 2000 (fun _=>0):=by
    unfold row
    rw [List.map_replicate]
    refine List.ext_getElem? fun j=>?_
    rw [List.getElem?_replicate,List.getElem?_map]
    by_cases h:j<2000
    · rw [if_pos h,List.getElem?_range h]
      rfl
    · rw [if_neg h,List.getElem?_eq_none (by rw [List.length_range]; omega)]
      rfl
   rw [List.length_replicate,e]
   exact made8 2000 (by decide) w
theorem law_InboxPlays {I:InI} (hK:InOK I) (hC:InCl I) (z:Int) (hz:i64 z) (sp:Option Addr) (cap:Nat) (l:List Opv) (_maxl:l.length≤140737488351232) (w0:World) (hin:OpsIn w0 140737488351232 sp l) :
 Calls Try.prog 3 #[.int .i64 z,.slice sp l.length cap] w0 fun e w'=>e=.returned (.bool true)∧Below w0.heap.size w0 w':=by
 have hmn:i64 (min z 3000):=by unfold i64 at hz ⊢; omega
 unfold i64 at hz
 obtain ⟨mz,hmz⟩:∃ mz:Nat,mz=(max 1 (min (min z 3000) 1048576)).toNat:=⟨_,rfl⟩
 have M:=Mm.init w0
 go_enter Try.func3,Try.ntmps3
 go_upto_region 0 with fail; refine wp_region_list ?_; refine xpL (.bool false) ?_; refine xT ?_; go_upto_region 1 with fail; refine wp_region_list ?_; have key:=shown19_any hK w0; refine xcL key ?_; clear key; rintro e w1 ⟨rfl,l_⟩; replace M:=M.call l_; clear l_; refine xeL ?_; refine xpL (.bool true) ?_; refine xT ?_; go_upto_region 2 with fail; refine wp_region_list ?_
 refine xpL (.int .i64 z) ?_; refine xaL (.int .i64 (min z 3000)) (minI .i64 .i64 _ _ _ _ _ _ _ rfl rfl rfl (by split <;> omega) _) ?_; refine xpL (.int .i64 (min z 3000)) ?_; refine xT ?_; go_upto_region 3 with fail; refine wp_region_list ?_; refine xpL (.int .i64 (min z 3000)) ?_; have key:=hK.new w0 _ _ (min z 3000) hmn M; refine xcL key ?_; clear key; rintro e w2 ⟨v_,ba0,rfl,hIa,M',l_⟩
 obtain ⟨Ra,rfl⟩:=hK.ptr _ _ _ _ hIa
 clear M; have M:=M'.perm (pull0 ([]:List (Nat × List Value)) ba0 ([]:List (Nat × List Value))).symm; clear M'; clear l_
 replace M:Mm w0 ((ba0++([]:List (Nat × List Value)))) w2:=M
 refine xeL ?_; refine xpL (.pointer (some ⟨Ra,0,none⟩)) ?_; refine xT ?_; go_upto_region 4 with fail; refine wp_region_list ?_; refine xpL (.int .i64 (min z 3000)) ?_; have key:=dnew19_any w0 _ _ (min z 3000) M; refine xcL key ?_; clear key; rintro e w3 ⟨Ry,rfl,M',l_⟩
 obtain ⟨by0,hby,hIy⟩:∃ b_,b_=[(Ry,dcs19 (inew (min z 3000)) 0 none none 0 0)]∧DI19 w0 w3 (.pointer (some ⟨Ry,0,none⟩)) (inew (min z 3000)) b_:=⟨_,rfl,di19_new (min z 3000) M'⟩
 have M2:Mm w0 (by0++((ba0++([]:List (Nat × List Value))))) w3:=by rw [hby]; exact M'
 clear M M' hby; have M:=M2.perm (pull0 ([]:List (Nat × List Value)) by0 (ba0++([]:List (Nat × List Value)))).symm; clear M2; replace hIa:=hK.bel hIa l_; clear l_
 replace M:Mm w0 ((by0++(ba0++([]:List (Nat × List Value))))) w3:=M
 refine xeL ?_; refine xpL (.pointer (some ⟨Ry,0,none⟩)) ?_; refine xT ?_; go_upto_region 5 with fail; refine wp_region_list ?_; refine xpL (.bool true) ?_; refine xpL (.bool false) ?_; refine xpL (.bool false) ?_; refine xpL (.pointer (some ⟨Ra,0,none⟩)) ?_; refine xpL (.bool false) ?_; refine xpL (.bool false) ?_; refine xT ?_; go_upto_region 7 with fail; refine wp_region_list ?_
 refine xpL (.int .i64 0) ?_; refine xT ?_; have HI:=show Hid _ from (show Inv19 mz (inew (min z 3000)) 0∧I w3 (.pointer (some ⟨Ra,0,none⟩)) (inew (min z 3000)) ba0∧DI19 w0 w3 (.pointer (some ⟨Ry,0,none⟩)) (inew (min z 3000)) by0∧Mm w0 (by0++(ba0++([]:List (Nat × List Value)))) w3 from ⟨Inv19.start hmz,hIa,hIy,M⟩); clear M hIa hIy; go_wp2
 go_loopw [7,9] (fun r_ i w'=>∃ (q:Nat) (x:Ibx) (gy ga:List (Nat × List Value)),q≤60∧q≤l.length∧i=.int .i64 (q:Int)∧Inv19 mz x q∧I w' r_ x ga∧DI19 w0 w' (.pointer (some ⟨Ry,0,none⟩)) x gy∧Mm w0 (gy++(ga++([]:List (Nat × List Value)))) w') (fun _ i _=>l.length-(intOf i).toNat)
 case atStart=>exact ⟨0,_,_,_,by omega,by omega,rfl,HI.out⟩
 case round =>
  clear HI
  obtain ⟨q,x,gy,ga,hq,hq2,rfl,hJ,hIa,hIy,M⟩:=hrel
  obtain ⟨Ra,rfl⟩:=hK.ptr _ _ _ _ hIa
  go_upto_region 8 with fail; refine wp_region_list ?_; refine xpL (.int .i64 (q:Int)) ?_; refine xpL (.slice sp l.length cap) ?_; refine xaL (.int .i64 ((l.length:Nat):Int)) (lenS _ 22 30 sp l.length cap rfl Try.underlying22 rfl _) ?_
  obtain ⟨b1,hb1⟩:∃ y_,y_=(decide ((q:Int)<((l.length:Nat):Int))):=⟨_,rfl⟩
  refine xaL (.bool b1) (lssI .i64 _ _ _ _ _ _ rfl rfl rfl b1 hb1.symm _) ?_; refine xpL (.bool b1) ?_
  refine mayL (b1) (.int .i64 (q:Int)) ((bif b1 then (.int .i64 (q:Int)) else undef)) (by cases b1 <;> rfl) (by cases b1 <;> rfl) (fun hc=>by cases b1 <;> first | (cases hc; done) | kernel_rfl) ?_
  simp only [aP,lI,l0,lS]
  obtain ⟨b2,hb2⟩:∃ y_,y_=(decide ((q:Int)<60)):=⟨_,rfl⟩
  refine mayL (b1) (.bool b2) ((bif b1 then (.bool b2) else undef)) (by cases b1 <;> rfl) (by cases b1 <;> rfl) (fun hc=>by cases b1 <;> first | (cases hc; done) | exact (lssI .i64 _ _ _ _ _ _ rfl rfl rfl b2 hb2.symm _)) ?_
  simp only [aP,lI,l0,lS]
  obtain ⟨b3,hb3⟩:∃ y_,y_=(b1&&b2):=⟨_,rfl⟩
  refine xaL (.bool b3) (by subst hb3; cases b1 <;> rfl) ?_; refine xT ?_
  cases b3 with
  | true =>
    have hlt_l:q<l.length∧q<60:=by
     simp only [hb1,hb2] at hb3
     simp at hb3
     omega
    try clear hb1
    try clear hb2
    try clear hb3
    obtain ⟨hlt_l,hlt2⟩:=hlt_l
    obtain ⟨v,hv⟩:∃ v,l[q]?=some v:=⟨_,List.getElem?_eq_getElem hlt_l⟩
    obtain ⟨ad,bp,bc,rfl,hoc,hov⟩:=hin q v hv
    go_upto_region 10 with fail; refine wp_region_list ?_; refine xpL (.slice (some ad) l.length cap) ?_; refine xpL (.int .i64 (q:Int)) ?_; refine readL (.pointer (some (ad.add (q*3)))) rfl (idxO19 ad _ _ q hlt_l _ _ rfl rfl rfl _) ?_; simp only [aP,lI,l0,lS]
    refine xaL (.agg #[.int .i64 v.k,.int .i64 v.n,.slice bp v.b.length bc]) (loadN 30 _ (ad.add (q*3)) [.int .i64 v.k,.int .i64 v.n,.slice bp v.b.length bc] rfl rfl (fun _=>by kernel_rfl) (fun _=>by kernel_rfl) (fun k_ x_ hx_=>cellS19 M.below (hoc k_ x_ hx_))) ?_; have hlb:=(Below.refl wr.heap.size wr).alloc (xnR _) (.cells #[.int .i64 0,.int .i64 0,.slice none 0 0] 30)
    refine actL (w':=wr.alloc (.cells #[.int .i64 0,.int .i64 0,.slice none 0 0] 30)) (.pointer (some ⟨wr.heap.size,0,none⟩)) rfl (by kernel_rfl) ?_; simp only [aP,lI,l0,lS]; replace hIa:=hK.bel hIa hlb; replace hIy:=(dok19 w0).bel hIy hlb; replace M:=M.box #[.int .i64 0,.int .i64 0,.slice none 0 0] 30 wr.heap.size rfl; clear hlb
    generalize wr.alloc (.cells #[.int .i64 0,.int .i64 0,.slice none 0 0] 30)=w4 at M hIa hIy ⊢; generalize wr.heap.size=B4 at M ⊢
    replace M:Mm w0 ((B4,[.int .i64 0,.int .i64 0,.slice none 0 0])::(gy++(ga++([]:List (Nat × List Value))))) w4:=M
    refine skipOpL rfl (storeP [.int .i64 v.k,.int .i64 v.n,.slice bp v.b.length bc] B4 0 30 _ _ rfl rfl rfl (M.thereP mS 0 3 (Nat.le_of_ble_eq_true rfl)) (by kernel_rfl) (List.all_eq_true.1 (rfl:([.int .i64 v.k,.int .i64 v.n,.slice bp v.b.length bc]:List Value).all (fun u=>u.oneCell')=true))) ?_; simp only [Act.put]
    replace M:=M.setPart [.int .i64 v.k,.int .i64 v.n,.slice bp v.b.length bc] 0 (Nat.le_of_ble_eq_true rfl); replace hIa:=hK.off _ _ _ _ _ _ hIa ((Off.refl [B4] _).setAll (b:=B4) mS 0 [.int .i64 v.k,.int .i64 v.n,.slice bp v.b.length bc]) (fun b_ hb_=>by obtain rfl:=xm1 hb_; exact M.awayC (fun p_ hp_=>by simp [hp_]))
    replace hIy:=(dok19 w0).off _ _ _ _ _ _ hIy ((Off.refl [B4] _).setAll (b:=B4) mS 0 [.int .i64 v.k,.int .i64 v.n,.slice bp v.b.length bc]) (fun b_ hb_=>by obtain rfl:=xm1 hb_; exact M.awayC (fun p_ hp_=>by simp [hp_])); generalize w4.setCells B4 0 [.int .i64 v.k,.int .i64 v.n,.slice bp v.b.length bc]=w5 at M hIa hIy ⊢
    replace M:Mm w0 ((B4,[.int .i64 v.k,.int .i64 v.n,.slice bp v.b.length bc])::(gy++(ga++([]:List (Nat × List Value))))) w5:=M
    refine xT ?_; go_upto_region 11 with fail; refine wp_region_list ?_; refine xpL (.pointer (some ⟨B4,0,none⟩)) ?_; refine xaL (.int .i64 v.k) (load1 3 _ ⟨B4,0,none⟩ _ rfl rfl (fun _=>by kernel_rfl) (M.get mS 0 _ rfl)) ?_; have key:=kind19_any v.k 4 (by decide) hov.k_i w5; refine xcL key ?_; clear key; rintro e w6 ⟨rfl,l_⟩; replace M:=M.call l_; replace hIa:=hK.bel hIa l_
    replace hIy:=(dok19 w0).bel hIy l_; clear l_; refine xeL ?_; have hkd:=kdn_lt v.k 4 (by decide); generalize kdn v.k 4=kz at hkd ⊢; refine xT ?_
    go_upto_block 2 with fail
    go_cut [7] (fun r_ wx=>∃ (x2:Ibx) (gy2 ga2:List (Nat × List Value)),(∃ Rx_,r_=.pointer (some ⟨Rx_,0,none⟩))∧Inv19 mz x2 (q+1)∧I wx r_ x2 ga2∧DI19 w0 wx (.pointer (some ⟨Ry,0,none⟩)) x2 gy2∧Mm w0 (gy2++(ga2++([]:List (Nat × List Value)))) wx)
    case first =>
     go_upto_region 12 with fail; refine wp_region_list ?_; refine xaL (.bool (decide (kz=0))) (eqlI .i64 _ _ _ _ _ _ rfl rfl rfl (decide (kz=0)) (by rw [Bool.eq_iff_iff,beq_iff_eq,decide_eq_true_iff]; omega) _) ?_; refine xpL (.bool (decide (kz=0))) ?_; refine xT ?_
     go_upto_if 49 with fail
     go_cut [49] (fun b_ wx=>b_=.bool (decide (kz<2))∧w6=wx)
     case first =>
      by_cases c_:kz=0
      · rw [decide_eq_true c_]
        go_wp2
        go_meet
        exact ⟨by rw [decide_eq_true (show kz<2 by omega)],rfl⟩
      · rw [decide_eq_false c_]
        go_upto_region 13 with fail; refine wp_region_list ?_; refine xaL (.bool (decide (kz<2))) (eqlI .i64 _ _ _ _ _ _ rfl rfl rfl (decide (kz<2)) (by rw [Bool.eq_iff_iff,beq_iff_eq,decide_eq_true_iff]; omega) _) ?_; refine xpL (.bool (decide (kz<2))) ?_; refine xT ?_; go_wp2
        go_meet
        exact ⟨rfl,rfl⟩
     case rest =>
      obtain ⟨rfl,rfl⟩:=hcut
      by_cases c49:kz<2
      · rw [decide_eq_true c49]
        as_aux_lemma =>
         clear c49 hkd; go_upto_region 14 with fail; refine wp_region_list ?_; refine xpL (.pointer (some ⟨B4,2,none⟩)) ?_; refine xaL (.slice bp v.b.length bc) (load1 28 _ ⟨B4,2,none⟩ _ rfl rfl (fun _=>by kernel_rfl) (M.get mS 2 _ rfl)) ?_; refine xpL (.slice bp v.b.length bc) ?_; refine xT ?_; go_upto_region 15 with fail; refine wp_region_list ?_
         refine xpL (.slice bp v.b.length bc) ?_; refine xaL (.int .i64 ((v.b.length:Nat):Int)) (lenS _ 28 5 bp v.b.length bc rfl Try.underlying28 rfl _) ?_; refine xaL (.bool (decide (1000<v.b.length))) (gtrI .i64 _ _ _ _ _ _ rfl rfl rfl (decide (1000<v.b.length)) (by rw [Bool.eq_iff_iff,decide_eq_true_iff,decide_eq_true_iff]; omega) _) ?_; refine xT ?_
         go_upto_if 56 with fail
         go_cut [11] (fun v_ wx=>∃ (spB:Option Addr) (B:List Int) (capB:Nat),v_=.slice spB B.length capB∧B.length≤1000∧Byts B∧Src w0 spB B.length (bl B)∧B.length≤capB∧(spB=none→capB=0)∧w6=wx)
         case first =>
          by_cases hlong:1000<v.b.length
          · rw [decide_eq_true hlong]
            have hBl0:(v.b.take 1000).length=1000:=by rw [List.length_take]; omega
            have hble:=hov.b_le
            obtain ⟨spc,hcut,hsrc,hnil2⟩:=cut_hiN (P:=Try.prog) (t:=28) Try.underlying28 (fun w=>by kernel_rfl) bp v.b.length bc 1000 (by omega) hov.b_le hov.b_nil
            have srcB:Src w0 spc (v.b.take 1000).length (bl (v.b.take 1000)):=fun j hj=>by
             have h_:=hsrc _ _ hov.b_src j (by omega)
             rw [bl_take9 (show j<1000 by omega)]
             exact h_
            go_upto_region 16 with fail; refine wp_region_list ?_; refine xpL (.slice bp v.b.length bc) ?_; refine xaL (.slice spc 1000 bc) (cutHi 28 _ _ _ _ _ rfl rfl rfl (hcut _)) ?_; refine xpL (.slice spc 1000 bc) ?_; refine xT ?_; have HS:=show Hid _ from (And.intro hBl0 (And.intro srcB hnil2)); clear hcut hsrc hBl0 srcB hnil2; go_wp2
            go_meet
            exact ⟨spc,v.b.take 1000,bc,by rw [HS.out.1],by rw [HS.out.1]; exact xnR _,take_byts9 hov.b_byts _,HS.out.2.1,by rw [HS.out.1]; omega,HS.out.2.2,rfl⟩
          · rw [decide_eq_false hlong]
            go_wp2
            go_meet
            exact ⟨bp,v.b,bc,rfl,by omega,hov.b_byts,hov.b_src,hov.b_le,hov.b_nil,rfl⟩
         case rest =>
          obtain ⟨spB,B,capB,rfl,hBl,hB,srcB,hble,hnilB,rfl⟩:=hcut
          have hJ2:=hJ.tk v.n hB hBl; go_upto_region 17 with fail; refine wp_region_list ?_; have V_A:=World.ownsRow_lit (base:=w0.heap.size) (e:=5) (size:=1) w6 #[] 0 M.below.size (Nat.zero_le _) rfl; have hlb:=(Below.refl w6.heap.size w6).alloc (xnR _) (.cells #[] 5); refine actL (w':=w6.alloc (.cells #[] 5)) (.slice (some ⟨w6.heap.size,0,none⟩) 0 0) rfl (by kernel_rfl) ?_
          simp only [aP,lI,l0,lS]; replace hIa:=hK.bel hIa hlb; replace hIy:=(dok19 w0).bel hIy hlb
          have M':=M.rowNil #[] 5
          clear M hlb
          obtain ⟨sA0,hsu⟩:∃ su,su=(some ⟨w6.heap.size,0,none⟩:Option Addr):=⟨_,rfl⟩
          rw [← hsu] at M' V_A ⊢
          generalize w6.alloc (.cells #[] 5)=w7 at M' V_A hIa hIy ⊢; have M:=M'.perm (pull0 ([(B4,[.int .i64 v.k,.int .i64 v.n,.slice bp v.b.length bc])]:List (Nat × List Value)) (obs sA0) (gy++(ga++([]:List (Nat × List Value))))).symm; clear M' hsu
          replace M:Mm w0 ((B4,[.int .i64 v.k,.int .i64 v.n,.slice bp v.b.length bc])::((obs sA0)++(gy++(ga++([]:List (Nat × List Value)))))) w7:=M
          refine xpL (.slice spB B.length capB) ?_
          obtain ⟨v2,w8,hr,V2,hgr,hg2⟩:=run_append_Own (P:=Try.prog) (ty:=28) Try.underlying28 one8 (show Own _ w0.heap.size 5 .u8 0 (fun _=>0) _ from V_A) spB B.length capB (bl B) (srcB.below M.below (xnR _)) hnilB (by unfold maxLen; omega) (by omega) M.below.size
          have Mp:=M.perm (pull0 ([(B4,[.int .i64 v.k,.int .i64 v.n,.slice bp v.b.length bc])]:List (Nat × List Value)) (obs sA0) (gy++(ga++([]:List (Nat × List Value)))))
          obtain ⟨sA8,cA8,rfl,_,_⟩:=row_form16 V2
          have M':=Mp.rowApp V_A hgr V2 hg2 (xnR _)
          have oS:Off (ob sA0) w7 w8:=(Off.refl (ob sA0) w7).grown hgr (fun b_ hb_=>.inl ((ob_own _ _ _ _).1 hb_))
          replace hIa:=hK.off _ _ _ _ _ _ hIa oS (fun b_ hb_=>Mp.awayG (fun p_ hp_=>by simp [hp_]) b_ (by rw [obs_fst]; exact hb_)); replace hIy:=(dok19 w0).off _ _ _ _ _ _ hIy oS (fun b_ hb_=>Mp.awayG (fun p_ hp_=>by simp [hp_]) b_ (by rw [obs_fst]; exact hb_)); refine xaL _ (appendOp _ _ 28 _ _ _ rfl rfl rfl hr) ?_; clear hr hgr hg2 V_A oS Mp M
          rw [Nat.zero_add] at V2 ⊢
          replace V2:=Own.congr V2 (fun j _=>app_zero _ (bl B) j)
          have V_A:w8.ownsRow w0.heap.size 5 1 (.slice sA8 B.length cA8) B.length (row .u8 B.length (bl B)):=V2
          clear V2
          have M:Mm w0 ((B4,[.int .i64 v.k,.int .i64 v.n,.slice bp v.b.length bc])::((obs sA8)++(gy++(ga++([]:List (Nat × List Value)))))) w8:=M'.perm (pull0 ([(B4,[.int .i64 v.k,.int .i64 v.n,.slice bp v.b.length bc])]:List (Nat × List Value)) (obs sA8) (gy++(ga++([]:List (Nat × List Value))))).symm
          clear M'; refine xpL (.slice sA8 B.length cA8) ?_; refine xT ?_; go_upto_region 18 with fail; have hdr:=(Below.refl w8.heap.size w8).drew; replace M:=M.drew; replace hIa:=hK.bel hIa hdr; replace hIy:=(dok19 w0).bel hIy hdr; replace V_A:=ownsRow_bel V_A hdr; clear hdr
          refine wp_region_held_drew (S:=fun w'=>Mm w0 [(B4,[.int .i64 v.k,.int .i64 v.n,.slice bp v.b.length bc])] w') (by kernel_rfl) (M.sub _ (List.cons_sublist_cons.2 (List.nil_sublist _))) ?_; intro _; generalize w8.drew=w9 at M hIa hIy V_A ⊢
          refine xrH 0 62 rfl (.pointer (some ⟨Ra,0,none⟩)) (fun _ hS=>(by kernel_rfl)) (M.sub _ (List.cons_sublist_cons.2 (List.nil_sublist _))) ?_; refine xrH 1 63 rfl (.pointer (some ⟨B4,1,none⟩)) (fun _ hS=>(by kernel_rfl)) (M.sub _ (List.cons_sublist_cons.2 (List.nil_sublist _))) ?_
          refine xrH 2 64 rfl (.int .i64 v.n) (fun _ hS=>load1 3 _ ⟨B4,1,none⟩ _ rfl rfl (fun _=>by kernel_rfl) (hS.get mS 1 _ rfl)) (M.sub _ (List.cons_sublist_cons.2 (List.nil_sublist _))) ?_; refine xrH 3 65 rfl (.slice sA8 B.length cA8) (fun _ hS=>(by kernel_rfl)) (M.sub _ (List.cons_sublist_cons.2 (List.nil_sublist _))) ?_
          refine xrH 5 67 rfl (.pointer (some ⟨Ry,0,none⟩)) (fun _ hS=>(by kernel_rfl)) (M.sub _ (List.cons_sublist_cons.2 (List.nil_sublist _))) ?_; refine xrH 6 68 rfl (.pointer (some ⟨B4,1,none⟩)) (fun _ hS=>(by kernel_rfl)) (M.sub _ (List.cons_sublist_cons.2 (List.nil_sublist _))) ?_
          refine xrH 7 69 rfl (.int .i64 v.n) (fun _ hS=>load1 3 _ ⟨B4,1,none⟩ _ rfl rfl (fun _=>by kernel_rfl) (hS.get mS 1 _ rfl)) (M.sub _ (List.cons_sublist_cons.2 (List.nil_sublist _))) ?_; refine xrH 8 70 rfl (.slice spB B.length capB) (fun _ hS=>(by kernel_rfl)) (M.sub _ (List.cons_sublist_cons.2 (List.nil_sublist _))) ?_
          have Mp:=M.perm (pull2 ([(B4,[.int .i64 v.k,.int .i64 v.n,.slice bp v.b.length bc])]:List (Nat × List Value)) (obs sA8) gy ga ([]:List (Nat × List Value)))
          have key:=hK.tak w0 _ _ x ga _ v.n sA8 cA8 B hJ.w (hJ.lt (by omega)) hov.n_i (by omega) (Own.le (show Own _ w0.heap.size 5 .u8 B.length (bl B) _ from V_A)) (Own.nilCap (show Own _ w0.heap.size 5 .u8 B.length (bl B) _ from V_A)) hB hIa Mp (Own.srcB (show Own _ w0.heap.size 5 .u8 B.length (bl B) _ from V_A) (Mp.awayS (fun p_ hp_=>by simp [hp_])))
          refine callH (i:=4) (some 66) rfl (by kernel_rfl) rfl rfl (fun _=>by kernel_rfl) key ?_; clear key; rintro e w10 ⟨ba1,rfl,hI_,M',o1⟩; replace hIy:=(dok19 w0).off _ _ _ _ _ _ hIy o1 (Mp.awayG (fun p_ hp_=>by simp [hp_])); replace V_A:=ownsRow_away V_A o1 (Mp.awayS (fun p_ hp_=>by simp [hp_])); clear o1 Mp M hIa; have hIa:=hI_; clear hI_
          have M:Mm w0 ((B4,[.int .i64 v.k,.int .i64 v.n,.slice bp v.b.length bc])::(ba1++((obs sA8)++(gy++([]:List (Nat × List Value)))))) w10:=M'.perm (pull0 ([(B4,[.int .i64 v.k,.int .i64 v.n,.slice bp v.b.length bc])]:List (Nat × List Value)) ba1 ((obs sA8)++(gy++([]:List (Nat × List Value))))).symm
          clear M'
          refine ⟨_,rfl,(M.sub _ (List.cons_sublist_cons.2 (List.nil_sublist _))),?_⟩
          simp only [aP,lI,l0,lS]; have Mp:=M.perm (pull2 ([(B4,[.int .i64 v.k,.int .i64 v.n,.slice bp v.b.length bc])]:List (Nat × List Value)) ba1 (obs sA8) gy ([]:List (Nat × List Value))); have key:=(dok19 w0).tak w0 _ _ x gy _ v.n spB capB B hJ.w (hJ.lt (by omega)) hov.n_i (by omega) hble hnilB hB hIy Mp ((SrcA.of_old srcB Mp.los).off (Off.of_below Mp.below))
          refine callH (i:=9) (some 71) rfl (by kernel_rfl) rfl rfl (fun _=>by kernel_rfl) key ?_; clear key; rintro e w11 ⟨by1,rfl,hI_,M',o1⟩; replace hIa:=hK.off _ _ _ _ _ _ hIa o1 (Mp.awayG (fun p_ hp_=>by simp [hp_])); replace V_A:=ownsRow_away V_A o1 (Mp.awayS (fun p_ hp_=>by simp [hp_])); clear o1 Mp M hIy; have hIy:=hI_; clear hI_
          have M:Mm w0 ((B4,[.int .i64 v.k,.int .i64 v.n,.slice bp v.b.length bc])::(by1++(ba1++((obs sA8)++([]:List (Nat × List Value)))))) w11:=M'.perm (pull0 ([(B4,[.int .i64 v.k,.int .i64 v.n,.slice bp v.b.length bc])]:List (Nat × List Value)) by1 (ba1++((obs sA8)++([]:List (Nat × List Value))))).symm
          clear M'
          refine ⟨_,rfl,(M.sub _ (List.cons_sublist_cons.2 (List.nil_sublist _))),?_⟩
          simp only [aP,lI,l0,lS]; refine xrH 10 72 rfl (.bool false) (fun _ hS=>neqI .i64 _ _ _ _ _ _ rfl rfl rfl false (bne_self_eq_false _) _) (M.sub _ (List.cons_sublist_cons.2 (List.nil_sublist _))) ?_
          refine wpAnyH_done (by kernel_rfl) ?_ _
          first | show Exit.then _ _ _ _ _ | show Exit.inBlock _ _ _ _ _
          go_upto_region 20 with fail; refine wp_region_list ?_; refine xpL (.int .i64 0) ?_; refine xT ?_
          have HI:=show Hid _ from (show Mm w0 ((B4,[.int .i64 v.k,.int .i64 v.n,.slice bp v.b.length bc])::(by1++(ba1++((obs sA8)++([]:List (Nat × List Value)))))) w11∧I w11 (.pointer (some ⟨Ra,0,none⟩)) (itk x v.n B) ba1∧DI19 w0 w11 (.pointer (some ⟨Ry,0,none⟩)) (itk x v.n B) by1∧w11.ownsRow w0.heap.size 5 1 (.slice sA8 B.length cA8) B.length (row .u8 B.length (bl B)) from ⟨M,hIa,hIy,V_A⟩)
          clear M hIa hIy V_A; go_wp2
          go_loopw [13] (fun i w'=>∃ (k:Nat) (xs:List Value),k≤B.length∧i=.int .i64 (k:Int)∧xs.length=B.length∧Mm w0 ((B4,[.int .i64 v.k,.int .i64 v.n,.slice bp v.b.length bc])::(by1++(ba1++((obs sA8)++([]:List (Nat × List Value)))))) w'∧I w' (.pointer (some ⟨Ra,0,none⟩)) (itk x v.n B) ba1∧DI19 w0 w' (.pointer (some ⟨Ry,0,none⟩)) (itk x v.n B) by1∧w'.ownsRow w0.heap.size 5 1 (.slice sA8 B.length cA8) B.length xs) (fun i _=>B.length-(intOf i).toNat)
          case atStart=>exact ⟨0,_,Nat.zero_le _,rfl,row_length _ _ _,HI.out⟩
          case round =>
           clear HI
           obtain ⟨k,xs,hk,rfl,hxl,M,hIa,hIy,V_A⟩:=hrel
           by_cases hkl:k<B.length
           · go_upto_region 21 with fail
             refine wp_region_list ?_; refine xpL (.int .i64 (k:Int)) ?_; refine xpL (.slice sA8 B.length cA8) ?_; refine xaL (.int .i64 ((B.length:Nat):Int)) (lenS _ 28 5 sA8 B.length cA8 rfl Try.underlying28 rfl _) ?_; refine xaL (.bool true) (lssI .i64 _ _ _ _ _ _ rfl rfl rfl true (decide_eq_true (by omega)) _) ?_; refine xT ?_
             have hjx:k<B.length:=hkl
             obtain ⟨gA,hg_A⟩:=row_some16 V_A (by omega)
             go_upto_region 23 with fail; refine wp_region_list ?_; refine xpL (.slice sA8 B.length cA8) ?_; refine xpL (.int .i64 (k:Int)) ?_; refine xaL (.pointer (some ⟨gA,k,none⟩)) (idxRowE 28 5 sA8 gA _ _ k hg_A _ _ Try.underlying28 (fun _=>by kernel_rfl) hjx rfl rfl rfl _) ?_
             have Mp:=M.perm (pull2 ([(B4,[.int .i64 v.k,.int .i64 v.n,.slice bp v.b.length bc])]:List (Nat × List Value)) by1 ba1 (obs sA8) ([]:List (Nat × List Value)))
             obtain ⟨hsf,M',V2,oS⟩:=Mp.putRow V_A hg_A (xnR _) k (by rw [hxl]; exact hjx) (.int .u8 99)
             refine skipOpL rfl (storeAny (.int .u8 99) gA k 5 _ _ rfl rfl rfl rfl rfl hsf.1 hsf.2 (by kernel_rfl)) ?_; simp only [Act.put]; replace hIa:=hK.off _ _ _ _ _ _ hIa oS (fun b_ hb_=>Mp.awayG (fun p_ hp_=>by simp [hp_]) b_ (by rw [obs_fst]; exact hb_))
             replace hIy:=(dok19 w0).off _ _ _ _ _ _ hIy oS (fun b_ hb_=>Mp.awayG (fun p_ hp_=>by simp [hp_]) b_ (by rw [obs_fst]; exact hb_)); clear M Mp oS hsf V_A; have V_A:=V2; clear V2; generalize wr.setCell ⟨gA,k,none⟩ (.int .u8 99)=w12 at M' hIa hIy V_A ⊢
             have M:Mm w0 ((B4,[.int .i64 v.k,.int .i64 v.n,.slice bp v.b.length bc])::((obs sA8)++(by1++(ba1++([]:List (Nat × List Value)))))) w12:=M'.perm (pull0 ([(B4,[.int .i64 v.k,.int .i64 v.n,.slice bp v.b.length bc])]:List (Nat × List Value)) (obs sA8) (by1++(ba1++([]:List (Nat × List Value))))).symm
             clear M'; refine xT ?_
             replace M:Mm w0 ((B4,[.int .i64 v.k,.int .i64 v.n,.slice bp v.b.length bc])::(ba1++((obs sA8)++(by1++([]:List (Nat × List Value)))))) w12:=(M.perm (pull2 ([(B4,[.int .i64 v.k,.int .i64 v.n,.slice bp v.b.length bc])]:List (Nat × List Value)) (obs sA8) by1 ba1 ([]:List (Nat × List Value)))).perm (pull0 ([(B4,[.int .i64 v.k,.int .i64 v.n,.slice bp v.b.length bc])]:List (Nat × List Value)) ba1 ((obs sA8)++(by1++([]:List (Nat × List Value))))).symm
             replace M:Mm w0 ((B4,[.int .i64 v.k,.int .i64 v.n,.slice bp v.b.length bc])::(by1++(ba1++((obs sA8)++([]:List (Nat × List Value)))))) w12:=(M.perm (pull2 ([(B4,[.int .i64 v.k,.int .i64 v.n,.slice bp v.b.length bc])]:List (Nat × List Value)) ba1 (obs sA8) by1 ([]:List (Nat × List Value)))).perm (pull0 ([(B4,[.int .i64 v.k,.int .i64 v.n,.slice bp v.b.length bc])]:List (Nat × List Value)) by1 (ba1++((obs sA8)++([]:List (Nat × List Value))))).symm
             have HS:=show Hid _ from (show Mm w0 ((B4,[.int .i64 v.k,.int .i64 v.n,.slice bp v.b.length bc])::(by1++(ba1++((obs sA8)++([]:List (Nat × List Value)))))) w12∧I w12 (.pointer (some ⟨Ra,0,none⟩)) (itk x v.n B) ba1∧DI19 w0 w12 (.pointer (some ⟨Ry,0,none⟩)) (itk x v.n B) by1∧w12.ownsRow w0.heap.size 5 1 (.slice sA8 B.length cA8) B.length (xs.set k (.int .u8 99)) from ⟨M,hIa,hIy,V_A⟩)
             clear M hIa hIy V_A; go_wp2
             go_roundw
             case rel=>first | exact ⟨k+1,_,by omega,by go_num,by rw [List.length_set]; exact hxl,HS.out⟩ | ((repeat apply Exists.intro); exact ⟨⟨k+1,_,by omega,by go_num,by rw [List.length_set]; exact hxl,HS.out⟩,rfl⟩)
             case measure=>simp [intOf]; omega
           · go_upto_region 21 with fail
             refine wp_region_list ?_; refine xpL (.int .i64 (k:Int)) ?_; refine xpL (.slice sA8 B.length cA8) ?_; refine xaL (.int .i64 ((B.length:Nat):Int)) (lenS _ 28 5 sA8 B.length cA8 rfl Try.underlying28 rfl _) ?_; refine xaL (.bool false) (lssI .i64 _ _ _ _ _ _ rfl rfl rfl false (decide_eq_false (by omega)) _) ?_; refine xT ?_
             replace M:Mm w0 ((B4,[.int .i64 v.k,.int .i64 v.n,.slice bp v.b.length bc])::(ba1++(by1++((obs sA8)++([]:List (Nat × List Value)))))) wr:=(M.perm (pull1 ([(B4,[.int .i64 v.k,.int .i64 v.n,.slice bp v.b.length bc])]:List (Nat × List Value)) by1 ba1 ((obs sA8)++([]:List (Nat × List Value))))).perm (pull0 ([(B4,[.int .i64 v.k,.int .i64 v.n,.slice bp v.b.length bc])]:List (Nat × List Value)) ba1 (by1++((obs sA8)++([]:List (Nat × List Value))))).symm
             replace M:Mm w0 ((B4,[.int .i64 v.k,.int .i64 v.n,.slice bp v.b.length bc])::(by1++(ba1++((obs sA8)++([]:List (Nat × List Value)))))) wr:=(M.perm (pull1 ([(B4,[.int .i64 v.k,.int .i64 v.n,.slice bp v.b.length bc])]:List (Nat × List Value)) ba1 by1 ((obs sA8)++([]:List (Nat × List Value))))).perm (pull0 ([(B4,[.int .i64 v.k,.int .i64 v.n,.slice bp v.b.length bc])]:List (Nat × List Value)) by1 (ba1++((obs sA8)++([]:List (Nat × List Value))))).symm
             have M2:Mm w0 (by1++(ba1++([]:List (Nat × List Value)))) wr:=(M.tail).sub _ ((List.Sublist.refl _).append ((List.Sublist.refl _).append (List.nil_sublist _)))
             have HS:=show Hid _ from (show (∃ Rx_,(.pointer (some ⟨Ra,0,none⟩):Value)=.pointer (some ⟨Rx_,0,none⟩))∧Inv19 mz (itk x v.n B) (q+1)∧I wr (.pointer (some ⟨Ra,0,none⟩)) (itk x v.n B) ba1∧DI19 w0 wr (.pointer (some ⟨Ry,0,none⟩)) (itk x v.n B) by1∧Mm w0 (by1++(ba1++([]:List (Nat × List Value)))) wr from ⟨⟨_,rfl⟩,hJ2,hIa,hIy,M2⟩)
             clear M M2 hIa hIy V_A; go_wp2
             go_meet
             exact ⟨itk x v.n B,_,_,HS.out⟩
      · rw [decide_eq_false c49]
        by_cases c_2:kz=2
        · go_upto_region 24 with fail
          refine wp_region_list ?_; refine xaL (.bool true) (eqlI .i64 _ _ _ _ _ _ rfl rfl rfl true (beq_iff_eq.2 (by omega)) _) ?_; refine xpL (.bool true) ?_; refine xT ?_
          as_aux_lemma =>
           clear c49 c_2 hkd; have hJ2:=hJ.rd v.n; go_upto_region 25 with fail; refine wp_region_list ?_; refine xpL (.pointer (some ⟨Ra,0,none⟩)) ?_; refine xpL (.pointer (some ⟨B4,1,none⟩)) ?_; refine xaL (.int .i64 v.n) (load1 3 _ ⟨B4,1,none⟩ _ rfl rfl (fun _=>by kernel_rfl) (M.get mS 1 _ rfl)) ?_
           have Mp:=M.perm (pull1 ([(B4,[.int .i64 v.k,.int .i64 v.n,.slice bp v.b.length bc])]:List (Nat × List Value)) gy ga ([]:List (Nat × List Value))); have key:=hK.red w0 _ _ x ga _ v.n hJ.w (hJ.lt (by omega)) hov.n_i hIa Mp; refine xcL key ?_; clear key; rintro e w13 ⟨p13,c13,ba1,rfl,N_13,T_13,hI_,M',o1⟩
           replace hIy:=(dok19 w0).off _ _ _ _ _ _ hIy o1 (Mp.awayG (fun p_ hp_=>by simp [hp_])); clear o1 Mp M hIa; have hIa:=hI_; clear hI_
           have M:Mm w0 ((B4,[.int .i64 v.k,.int .i64 v.n,.slice bp v.b.length bc])::(ba1++((obs p13)++(gy++([]:List (Nat × List Value)))))) w13:=M'.perm (pullY ([(B4,[.int .i64 v.k,.int .i64 v.n,.slice bp v.b.length bc])]:List (Nat × List Value)) ba1 (obs p13) (gy++([]:List (Nat × List Value))))
           clear M'; refine xeL ?_
           obtain ⟨bs13,N_13⟩:∃ b_,NewF w13 b_ (irB x v.n:List Int).length (bl (irB x v.n)) (.slice p13 (irB x v.n:List Int).length c13):=⟨_,N_13⟩
           refine xpL (.slice p13 ((irB x v.n:List Int).length) c13) ?_; refine xT ?_; go_upto_region 26 with fail; refine wp_region_list ?_; refine xpL (.pointer (some ⟨Ry,0,none⟩)) ?_; refine xpL (.pointer (some ⟨B4,1,none⟩)) ?_; refine xaL (.int .i64 v.n) (load1 3 _ ⟨B4,1,none⟩ _ rfl rfl (fun _=>by kernel_rfl) (M.get mS 1 _ rfl)) ?_
           have Mp:=M.perm (pull2 ([(B4,[.int .i64 v.k,.int .i64 v.n,.slice bp v.b.length bc])]:List (Nat × List Value)) ba1 (obs p13) gy ([]:List (Nat × List Value))); have key:=(dok19 w0).red w0 _ _ x gy _ v.n hJ.w (hJ.lt (by omega)) hov.n_i hIy Mp; refine xcL key ?_; clear key; rintro e w14 ⟨p14,c14,by1,rfl,N_14,T_14,hI_,M',o1⟩
           replace hIa:=hK.off _ _ _ _ _ _ hIa o1 (Mp.awayG (fun p_ hp_=>by simp [hp_])); replace N_13:=NewF.offB N_13 o1 (Mp.awayS (fun p_ hp_=>by simp [hp_])); replace T_13:=Wrt.offB T_13 o1 (Mp.awayS (fun p_ hp_=>by simp [hp_])); clear o1 Mp M hIy; have hIy:=hI_; clear hI_
           have M:Mm w0 ((B4,[.int .i64 v.k,.int .i64 v.n,.slice bp v.b.length bc])::(by1++((obs p14)++(ba1++((obs p13)++([]:List (Nat × List Value))))))) w14:=M'.perm (pullY ([(B4,[.int .i64 v.k,.int .i64 v.n,.slice bp v.b.length bc])]:List (Nat × List Value)) by1 (obs p14) (ba1++((obs p13)++([]:List (Nat × List Value)))))
           clear M'; refine xeL ?_
           obtain ⟨bs14,N_14⟩:∃ b_,NewF w14 b_ (irB x v.n:List Int).length (bl (irB x v.n)) (.slice p14 (irB x v.n:List Int).length c14):=⟨_,N_14⟩
           refine xpL (.slice p14 ((irB x v.n:List Int).length) c14) ?_; refine xT ?_; go_upto_region 27 with fail; refine wp_region_list ?_; refine xpL (.slice p13 ((irB x v.n:List Int).length) c13) ?_
           refine readL (.string (txt ((irB x v.n:List Int).length) (bl (irB x v.n)))) rfl (conv_txt 28 5 9 _ rfl Try.underlying28 Try.underlying5 Try.underlying9 p13 ((irB x v.n:List Int).length) c13 (bl (irB x v.n)) rfl _ (NewF.src N_13) (fun e=>by have h1:=(NewF.nilCap N_13) e; have h2:=(NewF.le N_13); omega)) ?_
           simp only [aP,lI,l0,lS]; refine xpL (.slice p14 ((irB x v.n:List Int).length) c14) ?_
           refine readL (.string (txt ((irB x v.n:List Int).length) (bl (irB x v.n)))) rfl (conv_txt 28 5 9 _ rfl Try.underlying28 Try.underlying5 Try.underlying9 p14 ((irB x v.n:List Int).length) c14 (bl (irB x v.n)) rfl _ (NewF.src N_14) (fun e=>by have h1:=(NewF.nilCap N_14) e; have h2:=(NewF.le N_14); omega)) ?_
           simp only [aP,lI,l0,lS]; refine xaL (.bool false) (neqS _ _ _ _ _ _ rfl rfl rfl rfl _) ?_; refine xT ?_; go_upto_region 29 with fail; refine wp_region_list ?_; refine xpL (.int .i64 0) ?_; refine xT ?_; clear N_13 N_14 T_14
           have hBm:(irB x v.n).length≤2000000:=by
            rw [irB_len]
            have h1_:=irN_le hJ.w v.n; have h2_:=ihr_le x
            have h3_:ilim x=x.dn+x.size:=rfl
            have h4_:=hJ.w.s2
            omega
           generalize irB x v.n=LB at hBm M T_13 ⊢
           have HI:=show Hid _ from (show Mm w0 ((B4,[.int .i64 v.k,.int .i64 v.n,.slice bp v.b.length bc])::(by1++((obs p14)++(ba1++((obs p13)++([]:List (Nat × List Value))))))) w14∧I w14 (.pointer (some ⟨Ra,0,none⟩)) (irx x v.n) ba1∧DI19 w0 w14 (.pointer (some ⟨Ry,0,none⟩)) (irx x v.n) by1∧Wrt w14 p13 (LB).length from ⟨M,hIa,hIy,T_13⟩); clear M hIa hIy T_13
           go_wp2
           go_loopw [16] (fun i w'=>∃ (k:Nat),k≤(LB).length∧i=.int .i64 (k:Int)∧Mm w0 ((B4,[.int .i64 v.k,.int .i64 v.n,.slice bp v.b.length bc])::(by1++((obs p14)++(ba1++((obs p13)++([]:List (Nat × List Value))))))) w'∧I w' (.pointer (some ⟨Ra,0,none⟩)) (irx x v.n) ba1∧DI19 w0 w' (.pointer (some ⟨Ry,0,none⟩)) (irx x v.n) by1∧Wrt w' p13 (LB).length) (fun i _=>(LB).length-(intOf i).toNat)
           case atStart=>exact ⟨0,Nat.zero_le _,rfl,HI.out⟩
           case round =>
            clear HI
            obtain ⟨k,hk,rfl,M,hIa,hIy,T_13⟩:=hrel
            by_cases hkl:k<(LB).length
            · go_upto_region 30 with fail
              refine wp_region_list ?_; refine xpL (.int .i64 (k:Int)) ?_; refine xpL (.slice p13 ((LB:List Int).length) c13) ?_; refine readL (.int .i64 (((LB:List Int).length:Nat):Int)) rfl (lenS _ 28 5 p13 ((LB:List Int).length) c13 rfl Try.underlying28 rfl _) ?_; simp only [aP,lI,l0,lS]
              refine xaL (.bool true) (lssI .i64 _ _ _ _ _ _ rfl rfl rfl true (decide_eq_true (by omega)) _) ?_; refine xT ?_
              obtain ⟨adq,hadq,hs1_,hs2_⟩:=T_13 k hkl
              obtain ⟨oq,hoq⟩:∃ oq,adq.add k=⟨adq.block,oq,none⟩:=⟨_,by have h_:=cell_form hs1_; rw [add_block] at h_; exact h_⟩
              go_upto_region 32 with fail; refine wp_region_list ?_; refine xpL (.slice p13 ((LB:List Int).length) c13) ?_; refine xpL (.int .i64 (k:Int)) ?_
              refine xaL (.pointer (some ⟨adq.block,oq,none⟩)) (by rw [← hoq]; exact idxSlE 28 5 _ _ .i64 p13 adq hadq k _ _ Try.underlying28 (fun _=>by kernel_rfl) hkl rfl rfl rfl _) ?_
              have Mp:=M.perm (pull3 ([(B4,[.int .i64 v.k,.int .i64 v.n,.slice bp v.b.length bc])]:List (Nat × List Value)) by1 (obs p14) ba1 (obs p13) ([]:List (Nat × List Value)))
              obtain ⟨M',oS⟩:=Mp.putObs hadq oq (.int .u8 98)
              refine skipOpL rfl (storeAny (.int .u8 98) adq.block oq 5 _ _ rfl rfl rfl rfl rfl (by rw [← hoq]; exact hs1_) (by rw [← hoq]; exact hs2_) (by kernel_rfl)) ?_; simp only [Act.put]; replace hIa:=hK.off _ _ _ _ _ _ hIa oS (fun b_ hb_=>Mp.awayG (fun p_ hp_=>by simp [hp_]) b_ (by rw [obs_fst]; exact hb_))
              replace hIy:=(dok19 w0).off _ _ _ _ _ _ hIy oS (fun b_ hb_=>Mp.awayG (fun p_ hp_=>by simp [hp_]) b_ (by rw [obs_fst]; exact hb_)); replace T_13:=Wrt.put T_13 adq.block oq (.int .u8 98); clear M Mp oS; generalize wr.setCell ⟨adq.block,oq,none⟩ (.int .u8 98)=w15 at M' hIa hIy T_13 ⊢
              have M:Mm w0 ((B4,[.int .i64 v.k,.int .i64 v.n,.slice bp v.b.length bc])::((obs p13)++(by1++((obs p14)++(ba1++([]:List (Nat × List Value))))))) w15:=M'.perm (pull0 ([(B4,[.int .i64 v.k,.int .i64 v.n,.slice bp v.b.length bc])]:List (Nat × List Value)) (obs p13) (by1++((obs p14)++(ba1++([]:List (Nat × List Value)))))).symm
              clear M'; refine xT ?_
              replace M:Mm w0 ((B4,[.int .i64 v.k,.int .i64 v.n,.slice bp v.b.length bc])::(ba1++((obs p13)++(by1++((obs p14)++([]:List (Nat × List Value))))))) w15:=(M.perm (pull3 ([(B4,[.int .i64 v.k,.int .i64 v.n,.slice bp v.b.length bc])]:List (Nat × List Value)) (obs p13) by1 (obs p14) ba1 ([]:List (Nat × List Value)))).perm (pull0 ([(B4,[.int .i64 v.k,.int .i64 v.n,.slice bp v.b.length bc])]:List (Nat × List Value)) ba1 ((obs p13)++(by1++((obs p14)++([]:List (Nat × List Value)))))).symm
              replace M:Mm w0 ((B4,[.int .i64 v.k,.int .i64 v.n,.slice bp v.b.length bc])::((obs p14)++(ba1++((obs p13)++(by1++([]:List (Nat × List Value))))))) w15:=(M.perm (pull3 ([(B4,[.int .i64 v.k,.int .i64 v.n,.slice bp v.b.length bc])]:List (Nat × List Value)) ba1 (obs p13) by1 (obs p14) ([]:List (Nat × List Value)))).perm (pull0 ([(B4,[.int .i64 v.k,.int .i64 v.n,.slice bp v.b.length bc])]:List (Nat × List Value)) (obs p14) (ba1++((obs p13)++(by1++([]:List (Nat × List Value)))))).symm
              replace M:Mm w0 ((B4,[.int .i64 v.k,.int .i64 v.n,.slice bp v.b.length bc])::(by1++((obs p14)++(ba1++((obs p13)++([]:List (Nat × List Value))))))) w15:=(M.perm (pull3 ([(B4,[.int .i64 v.k,.int .i64 v.n,.slice bp v.b.length bc])]:List (Nat × List Value)) (obs p14) ba1 (obs p13) by1 ([]:List (Nat × List Value)))).perm (pull0 ([(B4,[.int .i64 v.k,.int .i64 v.n,.slice bp v.b.length bc])]:List (Nat × List Value)) by1 ((obs p14)++(ba1++((obs p13)++([]:List (Nat × List Value)))))).symm
              have HS:=show Hid _ from (show Mm w0 ((B4,[.int .i64 v.k,.int .i64 v.n,.slice bp v.b.length bc])::(by1++((obs p14)++(ba1++((obs p13)++([]:List (Nat × List Value))))))) w15∧I w15 (.pointer (some ⟨Ra,0,none⟩)) (irx x v.n) ba1∧DI19 w0 w15 (.pointer (some ⟨Ry,0,none⟩)) (irx x v.n) by1∧Wrt w15 p13 (LB).length from ⟨M,hIa,hIy,T_13⟩); clear M hIa hIy T_13
              go_wp2
              go_roundw
              case rel=>first | exact ⟨k+1,by omega,by go_num,HS.out⟩ | ((repeat apply Exists.intro); exact ⟨⟨k+1,by omega,by go_num,HS.out⟩,rfl⟩)
              case measure=>simp [intOf]; omega
            · go_upto_region 30 with fail
              refine wp_region_list ?_; refine xpL (.int .i64 (k:Int)) ?_; refine xpL (.slice p13 ((LB:List Int).length) c13) ?_; refine readL (.int .i64 (((LB:List Int).length:Nat):Int)) rfl (lenS _ 28 5 p13 ((LB:List Int).length) c13 rfl Try.underlying28 rfl _) ?_; simp only [aP,lI,l0,lS]
              refine xaL (.bool false) (lssI .i64 _ _ _ _ _ _ rfl rfl rfl false (decide_eq_false (by omega)) _) ?_; refine xT ?_
              replace M:Mm w0 ((B4,[.int .i64 v.k,.int .i64 v.n,.slice bp v.b.length bc])::(ba1++(by1++((obs p14)++((obs p13)++([]:List (Nat × List Value))))))) wr:=(M.perm (pull2 ([(B4,[.int .i64 v.k,.int .i64 v.n,.slice bp v.b.length bc])]:List (Nat × List Value)) by1 (obs p14) ba1 ((obs p13)++([]:List (Nat × List Value))))).perm (pull0 ([(B4,[.int .i64 v.k,.int .i64 v.n,.slice bp v.b.length bc])]:List (Nat × List Value)) ba1 (by1++((obs p14)++((obs p13)++([]:List (Nat × List Value)))))).symm
              replace M:Mm w0 ((B4,[.int .i64 v.k,.int .i64 v.n,.slice bp v.b.length bc])::(by1++(ba1++((obs p14)++((obs p13)++([]:List (Nat × List Value))))))) wr:=(M.perm (pull1 ([(B4,[.int .i64 v.k,.int .i64 v.n,.slice bp v.b.length bc])]:List (Nat × List Value)) ba1 by1 ((obs p14)++((obs p13)++([]:List (Nat × List Value)))))).perm (pull0 ([(B4,[.int .i64 v.k,.int .i64 v.n,.slice bp v.b.length bc])]:List (Nat × List Value)) by1 (ba1++((obs p14)++((obs p13)++([]:List (Nat × List Value)))))).symm
              have M2:Mm w0 (by1++(ba1++([]:List (Nat × List Value)))) wr:=(M.tail).sub _ ((List.Sublist.refl _).append ((List.Sublist.refl _).append (List.nil_sublist _)))
              have HS:=show Hid _ from (show (∃ Rx_,(.pointer (some ⟨Ra,0,none⟩):Value)=.pointer (some ⟨Rx_,0,none⟩))∧Inv19 mz (irx x v.n) (q+1)∧I wr (.pointer (some ⟨Ra,0,none⟩)) (irx x v.n) ba1∧DI19 w0 wr (.pointer (some ⟨Ry,0,none⟩)) (irx x v.n) by1∧Mm w0 (by1++(ba1++([]:List (Nat × List Value)))) wr from ⟨⟨_,rfl⟩,hJ2,hIa,hIy,M2⟩)
              clear M M2 hIa hIy T_13; go_wp2
              go_meet
              exact ⟨irx x v.n,_,_,HS.out⟩
        · go_upto_region 24 with fail
          refine wp_region_list ?_; refine xaL (.bool false) (eqlI .i64 _ _ _ _ _ _ rfl rfl rfl false (beq_eq_false_iff_ne.2 (by omega)) _) ?_; refine xpL (.bool false) ?_; refine xT ?_
          as_aux_lemma =>
           go_upto_region 33 with fail; refine wp_region_list ?_; refine xaL (.bool true) (eqlI .i64 _ _ _ _ _ _ rfl rfl rfl true (beq_iff_eq.2 (by omega)) _) ?_; refine xpL (.bool true) ?_; refine xT ?_; clear c49 c_2 hkd; go_upto_region 34 with fail; refine wp_region_list ?_; refine xpL (.pointer (some ⟨Ra,0,none⟩)) ?_; refine xpL (.pointer (some ⟨Ra,0,none⟩)) ?_; refine xT ?_
           go_upto_region 35 with fail; refine wp_region_list ?_; refine xpL (.pointer (some ⟨Ra,0,none⟩)) ?_; have Mp:=M.perm (pull1 ([(B4,[.int .i64 v.k,.int .i64 v.n,.slice bp v.b.length bc])]:List (Nat × List Value)) gy ga ([]:List (Nat × List Value))); have key:=hC w0 _ _ x ga _ hJ.w (hJ.lt (by omega)) hIa Mp; clear Mp; refine xcL key ?_; clear key
           rintro e w16 ⟨v_,bc0,rfl,hIc,M',l_⟩
           obtain ⟨Rc,rfl⟩:=hK.ptr _ _ _ _ hIc
           replace hIa:=hK.bel hIa l_; replace hIy:=(dok19 w0).bel hIy l_; clear l_ M
           have M:Mm w0 ((B4,[.int .i64 v.k,.int .i64 v.n,.slice bp v.b.length bc])::(bc0++(ga++(gy++([]:List (Nat × List Value)))))) w16:=M'.perm (pullZ18 bc0 ga ([(B4,[.int .i64 v.k,.int .i64 v.n,.slice bp v.b.length bc])]:List (Nat × List Value)) (gy++([]:List (Nat × List Value)))).symm
           clear M'; refine xeL ?_; refine xpL (.pointer (some ⟨Rc,0,none⟩)) ?_; refine xT ?_; go_upto_region 36 with fail; refine wp_region_list ?_; refine xpL (.pointer (some ⟨Rc,0,none⟩)) ?_; refine xpL (.bool false) ?_; refine xT ?_; go_upto_region 38 with fail; refine wp_region_list ?_; refine xpL (.pointer (some ⟨Ra,0,none⟩)) ?_
           obtain ⟨Z,hZl,hZb,hZm⟩:=make2000
           have hlb:=(Below.refl w16.heap.size w16).alloc (xnR _) (.cells (Z.map (Value.int .u8)).toArray 5); refine actL (w':=w16.alloc (.cells (Z.map (Value.int .u8)).toArray 5)) (.slice (some ⟨w16.heap.size,0,none⟩) Z.length Z.length) rfl (makeOp _ _ _ _ _ _ rfl rfl rfl (hZm _)) ?_; simp only [aP,lI,l0,lS]; replace hIa:=hK.bel hIa hlb; replace hIy:=(dok19 w0).bel hIy hlb
           replace hIc:=hK.bel hIc hlb; replace M:=M.box (Z.map (Value.int .u8)).toArray 5 w16.heap.size rfl; clear hlb hZm; generalize w16.alloc (.cells (Z.map (Value.int .u8)).toArray 5)=w17 at M hIa hIy hIc ⊢; generalize w16.heap.size=B17 at M ⊢
           replace M:Mm w0 ((B17,Z.map (Value.int .u8))::(B4,[.int .i64 v.k,.int .i64 v.n,.slice bp v.b.length bc])::(bc0++(ga++(gy++([]:List (Nat × List Value)))))) w17:=M
           have Mp:=M.perm (pull1 ([(B17,Z.map (Value.int .u8)),(B4,[.int .i64 v.k,.int .i64 v.n,.slice bp v.b.length bc])]:List (Nat × List Value)) bc0 ga (gy++([]:List (Nat × List Value))))
           have key:=hK.tak w0 _ _ x ga _ 0 (some ⟨B17,0,none⟩) Z.length Z hJ.w (hJ.lt (by omega)) (by unfold i64; decide) (by omega) (xnR _) (fun e=>by cases e) hZb hIa Mp (show SrcA _ _ _ _ _ from ⟨(M.src mS Z rfl),fun ad e _=>by cases e; exact Mp.beside mS⟩); refine xcL key ?_; clear key; rintro e w18 ⟨ba1,rfl,hI_,M',o1⟩
           replace hIy:=(dok19 w0).off _ _ _ _ _ _ hIy o1 (Mp.awayG (fun p_ hp_=>by simp [hp_])); replace hIc:=hK.off _ _ _ _ _ _ hIc o1 (Mp.awayG (fun p_ hp_=>by simp [hp_])); clear o1 Mp M hIa; have hIa:=hI_; clear hI_
           have M:Mm w0 ((B17,Z.map (Value.int .u8))::(B4,[.int .i64 v.k,.int .i64 v.n,.slice bp v.b.length bc])::(ba1++(bc0++(gy++([]:List (Nat × List Value)))))) w18:=M'.perm (pull0 ([(B17,Z.map (Value.int .u8)),(B4,[.int .i64 v.k,.int .i64 v.n,.slice bp v.b.length bc])]:List (Nat × List Value)) ba1 (bc0++(gy++([]:List (Nat × List Value))))).symm
           clear M'; refine xeL ?_; refine xT ?_; go_upto_region 39 with fail; refine wp_region_list ?_; refine xpL (.pointer (some ⟨Ra,0,none⟩)) ?_; have Mp:=M.perm (pull0 ([(B17,Z.map (Value.int .u8)),(B4,[.int .i64 v.k,.int .i64 v.n,.slice bp v.b.length bc])]:List (Nat × List Value)) ba1 (bc0++(gy++([]:List (Nat × List Value)))))
           have key:=hK.red w0 _ _ (itk x 0 Z) ba1 _ 5 (itk_w hJ.w 0 hZb) (show x.dn<10000000 from hJ.lt (by omega)) (by unfold i64; decide) hIa Mp; refine xcL key ?_; clear key; rintro e w19 ⟨p19,c19,ba2,rfl,N_19,T_19,hI_,M',o1⟩; replace hIy:=(dok19 w0).off _ _ _ _ _ _ hIy o1 (Mp.awayG (fun p_ hp_=>by simp [hp_]))
           replace hIc:=hK.off _ _ _ _ _ _ hIc o1 (Mp.awayG (fun p_ hp_=>by simp [hp_])); clear o1 Mp M hIa; have hIa:=hI_; clear hI_
           have M:Mm w0 ((B17,Z.map (Value.int .u8))::(B4,[.int .i64 v.k,.int .i64 v.n,.slice bp v.b.length bc])::(ba2++((obs p19)++(bc0++(gy++([]:List (Nat × List Value))))))) w19:=M'.perm (pullY ([(B17,Z.map (Value.int .u8)),(B4,[.int .i64 v.k,.int .i64 v.n,.slice bp v.b.length bc])]:List (Nat × List Value)) ba2 (obs p19) (bc0++(gy++([]:List (Nat × List Value)))))
           clear M'; refine xeL ?_
           obtain ⟨bs19,N_19⟩:∃ b_,NewF w19 b_ (irB (itk x 0 Z) 5:List Int).length (bl (irB (itk x 0 Z) 5)) (.slice p19 (irB (itk x 0 Z) 5:List Int).length c19):=⟨_,N_19⟩
           refine xT ?_
           replace M:Mm w0 ((B17,Z.map (Value.int .u8))::(B4,[.int .i64 v.k,.int .i64 v.n,.slice bp v.b.length bc])::(bc0++(ba2++((obs p19)++(gy++([]:List (Nat × List Value))))))) w19:=(M.perm (pull2 ([(B17,Z.map (Value.int .u8)),(B4,[.int .i64 v.k,.int .i64 v.n,.slice bp v.b.length bc])]:List (Nat × List Value)) ba2 (obs p19) bc0 (gy++([]:List (Nat × List Value))))).perm (pull0 ([(B17,Z.map (Value.int .u8)),(B4,[.int .i64 v.k,.int .i64 v.n,.slice bp v.b.length bc])]:List (Nat × List Value)) bc0 (ba2++((obs p19)++(gy++([]:List (Nat × List Value)))))).symm
           replace M:Mm w0 ((B17,Z.map (Value.int .u8))::(B4,[.int .i64 v.k,.int .i64 v.n,.slice bp v.b.length bc])::(gy++(bc0++(ba2++((obs p19)++([]:List (Nat × List Value))))))) w19:=(M.perm (pull3 ([(B17,Z.map (Value.int .u8)),(B4,[.int .i64 v.k,.int .i64 v.n,.slice bp v.b.length bc])]:List (Nat × List Value)) bc0 ba2 (obs p19) gy ([]:List (Nat × List Value)))).perm (pull0 ([(B17,Z.map (Value.int .u8)),(B4,[.int .i64 v.k,.int .i64 v.n,.slice bp v.b.length bc])]:List (Nat × List Value)) gy (bc0++(ba2++((obs p19)++([]:List (Nat × List Value)))))).symm
           have M2:Mm w0 (gy++(bc0++([]:List (Nat × List Value)))) w19:=(M.tail.tail).sub _ ((List.Sublist.refl _).append ((List.Sublist.refl _).append (List.nil_sublist _)))
           have HS:=show Hid _ from (show (∃ Rx_,(.pointer (some ⟨Rc,0,none⟩):Value)=.pointer (some ⟨Rx_,0,none⟩))∧Inv19 mz x (q+1)∧I w19 (.pointer (some ⟨Rc,0,none⟩)) x bc0∧DI19 w0 w19 (.pointer (some ⟨Ry,0,none⟩)) x gy∧Mm w0 (gy++(bc0++([]:List (Nat × List Value)))) w19 from ⟨⟨_,rfl⟩,hJ.more,hIc,hIy,M2⟩); clear M M2 hIa hIy hIc N_19 T_19; go_wp2
           go_meet
           exact ⟨x,_,_,HS.out⟩
    case rest =>
     as_aux_lemma =>
      clear hJ hIa hIy M
      obtain ⟨x2,gy2,ga2,⟨Rc,rfl⟩,hJ2,hIa,hIy,M⟩:=hcut
      go_upto_region 40 with fail; refine wp_region_list ?_; refine xpL (.pointer (some ⟨Rc,0,none⟩)) ?_; refine xpL (.pointer (some ⟨Ry,0,none⟩)) ?_; have key:=like19_any hK w0 wc Rc Ry x2 ga2 gy2 hJ2.w (hJ2.lt (by omega)) hIa hIy M; refine xcL key ?_; clear key M hIa hIy; rintro e w20 ⟨rfl,hIa,hIy,M⟩; refine xeL ?_; refine xpL (.bool true) ?_; refine xT ?_
      go_upto_region 41 with fail; refine wp_region_list ?_; refine xpL (.bool true) ?_; refine xpL (.bool false) ?_; refine xT ?_; have HS:=show Hid _ from (show Inv19 mz x2 (q+1)∧I w20 (.pointer (some ⟨Rc,0,none⟩)) x2 ga2∧DI19 w0 w20 (.pointer (some ⟨Ry,0,none⟩)) x2 gy2∧Mm w0 (gy2++(ga2++([]:List (Nat × List Value)))) w20 from ⟨hJ2,hIa,hIy,M⟩); clear M hIa hIy hJ2
      go_wp2
      go_roundw
      case rel=>first | exact ⟨q+1,_,_,_,by omega,by omega,by go_num,HS.out⟩ | ((repeat apply Exists.intro); exact ⟨⟨q+1,_,_,_,by omega,by omega,by go_num,HS.out⟩,rfl⟩)
      case measure=>simp [intOf]; omega
  | false =>
    try clear hb1
    try clear hb2
    try clear hb3
    go_upto_region 43 with fail; refine wp_region_list ?_; refine xpL (.bool true) ?_; refine xT ?_; have hbel:=M.below; clear M hIa hIy; go_wp2; go_ret
    exact ⟨rfl,hbel⟩
section
section
variable {P:Program} {ops:Array Oper} {Q:Exit→Act→World→Prop} {md:Region.Mode} {S:World→Prop}
def Flt (P:Program) (ops:Array Oper) (Q:Exit→Act→World→Prop) (md:Region.Mode) (S:World→Prop) (z:Nat) (t:Tmp) (n w0 fuel:Nat):Nat→Array Bool→Act→Prop
 | 0,L,a=>Region.ready md ops L=[z]∧∀ B w,S w→Fb n w0 B w→wpAnyH P md ops Q S fuel (L.setIfInBounds z true) (a.put (some t) (.pointer (some ⟨B,0,none⟩))) w
 | k+1,L,a=>(∃ (c:Nat) (r:Tmp) (x:Oper) (f:FuncId) (g:Array Value) (V:Value→Prop),Region.ready md ops L=[c,z]∧Region.ready md ops (L.setIfInBounds z true)=[c]∧ops[c]?=some x∧x.guard=none∧x.dst=some r∧z≠c∧t≠r∧(∀ cs b,x.op≠.select cs b)∧t∉x.looksAt ops∧(∀ w,(execOp a.eval x).run P w=.ok (.enter f g) w) ∧
    (∀ w,S w→Calls P f g w fun e w'=>∃ v,e=.returned v∧V v∧Below w.heap.size w w')∧∀ v,V v→Flt P ops Q md S z t n w0 fuel k (L.setIfInBounds c true) (a.put (some r) v)) ∨
   ∃ (q:Nat) (r:Tmp) (x:Oper) (v:Value),ops[q]?=some x∧x.guard=none∧x.dst=some r∧z≠q∧t≠r∧(∀ cs b,x.op≠.select cs b)∧t∉x.looksAt ops∧(∀ w,(execOp a.eval x).run P w=.ok (.value v) w)∧Region.noSelect ops=true∧(Region.free md ops L q=true∧(Region.ready md ops L).contains q=true)∧(Region.free md ops (L.setIfInBounds z true) q=true∧(Region.ready md ops (L.setIfInBounds z true)).contains q=true) ∧
    (∀ c a w,Q (.panic c) (a.put (some r) v) w→Q (.panic c) a w)∧Flt P ops Q md S z t n w0 fuel k (L.setIfInBounds q true) (a.put (some r) v)
theorem Flt.last {z:Nat} {t:Tmp} {n w0 fuel:Nat} {L:Array Bool} {a:Act} (hr:Region.ready md ops L=[z]) (h:∀ B w,S w→Fb n w0 B w→wpAnyH P md ops Q S fuel (L.setIfInBounds z true) (a.put (some t) (.pointer (some ⟨B,0,none⟩))) w):Flt P ops Q md S z t n w0 fuel 0 L a:=⟨hr,h⟩
theorem Flt.call {z:Nat} {t:Tmp} {n w0 fuel k:Nat} {L:Array Bool} {a:Act} (c:Nat) (r:Tmp) {x:Oper} {f:FuncId} {g:Array Value} (V:Value→Prop) (hr:Region.ready md ops L=[c,z]) (hr':Region.ready md ops (L.setIfInBounds z true)=[c]) (hx:ops[c]?=some x) (hg:x.guard=none) (hd:x.dst=some r)
 (hz:z≠c) (ht:t≠r) (hs:∀ cs b,x.op≠.select cs b) (hl:t∉x.looksAt ops) (he:∀ w,(execOp a.eval x).run P w=.ok (.enter f g) w)
 (hc:∀ w,S w→Calls P f g w fun e w'=>∃ v,e=.returned v∧V v∧Below w.heap.size w w') (h:∀ v,V v→Flt P ops Q md S z t n w0 fuel k (L.setIfInBounds c true) (a.put (some r) v)):Flt P ops Q md S z t n w0 fuel (k+1) L a :=
 .inl ⟨c,r,x,f,g,V,hr,hr',hx,hg,hd,hz,ht,hs,hl,he,hc,h⟩
theorem Flt.read {z:Nat} {t:Tmp} {n w0 fuel k:Nat} {L:Array Bool} {a:Act} (q:Nat) (r:Tmp) {x:Oper} (v:Value) (hx:ops[q]?=some x) (hg:x.guard=none) (hd:x.dst=some r) (hz:z≠q) (ht:t≠r) (hs:∀ cs b,x.op≠.select cs b) (hl:t∉x.looksAt ops) (he:∀ w,(execOp a.eval x).run P w=.ok (.value v) w)
 (hn:Region.noSelect ops=true) (h1:Region.free md ops L q=true) (h2:(Region.ready md ops L).contains q=true) (h3:Region.free md ops (L.setIfInBounds z true) q=true) (h4:(Region.ready md ops (L.setIfInBounds z true)).contains q=true)
 (hQ:∀ c a w,Q (.panic c) (a.put (some r) v) w→Q (.panic c) a w) (h:Flt P ops Q md S z t n w0 fuel k (L.setIfInBounds q true) (a.put (some r) v)):Flt P ops Q md S z t n w0 fuel (k+1) L a :=
 .inr ⟨q,r,x,v,hx,hg,hd,hz,ht,hs,hl,he,hn,⟨h1,h2⟩,⟨h3,h4⟩,hQ,h⟩
theorem Flt.made {z:Nat} {t:Tmp} {n w0 fuel k:Nat} {L:Array Bool} {a:Act} (h:Flt P ops Q md S z t n w0 fuel k L a) (hSc:∀ w w',S w→Below w.heap.size w w'→S w') :
 ∀ B w,S w→Fb n w0 B w→wpAnyH P md ops Q S (fuel+k) (L.setIfInBounds z true) (a.put (some t) (.pointer (some ⟨B,0,none⟩))) w:=by
 induction k generalizing L a with
 | zero=>exact fun B w hS hB=>h.2 B w hS hB
 | succ k ih =>
   rcases h with ⟨c,r,x,f,g,V,_,hr',hx,hg,hd,hz,ht,hs,hl,he,hc,h'⟩ | ⟨q,r,x,v,hx,hg,hd,hz,ht,hs,hl,he,hn,_,⟨h3,h4⟩,hQ,h'⟩
   · intro B w hS hB
     refine wpAnyH_all hr' (by simp) fun j hj=>?_
     obtain rfl:=xm1 hj
     refine callOp hx hg (by rw [eval_one (ops:=ops) t _ hs hl]; exact he w) (hc w hS) fun e w' hR=>?_
     obtain ⟨v,rfl,hv,l⟩:=hR
     have hs1:=hSc _ _ hS l
     refine ⟨v,rfl,hs1,?_⟩
     rw [hd]
     refine wpAnyH_cast (ih (h' v hv) B w' hs1 (hB.call l)) ?_ ?_
     · rw [Array.setIfInBounds_comm _ _ hz]
     · rw [put_comm' _ _ _ ht]
   · intro B w hS hB
     refine readH (i:=q) (some r) hd v hx (by unfold Region.wanted; rw [hg]) (fun w' _=>by rw [eval_one (ops:=ops) t _ hs hl]; exact he w') hn h3 h4 hQ hS ?_
     refine wpAnyH_cast (ih h' B w hS hB) ?_ ?_
     · rw [Array.setIfInBounds_comm _ _ hz]
     · rw [put_comm' _ _ _ ht]
theorem Flt.go {z:Nat} {t:Tmp} {n w0 fuel k:Nat} {L:Array Bool} {a:Act} (h:Flt P ops Q md S z t n w0 fuel k L a) {xz:Oper} (cs:Array Value) (ty:TypeId) (iz:ops[z]?=some xz) (gz:xz.guard=none) (dz:xz.dst=some t)
 (ez:∀ (b:Act) (w:World),(execOp b.eval xz).run P w=.ok (.value (.pointer (some ⟨w.heap.size,0,none⟩))) (w.alloc (.cells cs ty)))
 (hn:∀ w:World,(w.alloc (.cells cs ty)).there w.heap.size 0 n) (hS0:∀ w,S w→w0≤w.heap.size) (hSc:∀ w w',S w→Below w.heap.size w w'→S w') :
 ∀ w,S w→wpAnyH P md ops Q S (fuel+k+1) L a w:=by
 have hSa:∀ w:World,S w→S (w.alloc (.cells cs ty)):=fun w h=>hSc w _ h ((Below.refl w.heap.size w).alloc (xnR _) _)
 have hNew:∀ w:World,S w→Fb n w0 w.heap.size (w.alloc (.cells cs ty)):=fun w h=>⟨hS0 w h,by simp,hn w⟩
 induction k generalizing L a with
 | zero =>
   intro w hS; refine wpAnyH_all h.1 (by simp) fun j hj=>?_
   obtain rfl:=xm1 hj
   refine allocOp iz gz (ez _ w) ?_
   rw [dz]
   exact ⟨hSa _ hS,h.2 _ _ (hSa _ hS) (hNew _ hS)⟩
 | succ k ih =>
   rcases h with ⟨c,r,x,f,g,V,hr,hr',hx,hg,hd,hz,ht,hs,hl,he,hc,h'⟩ | ⟨q,r,x,v,hx,hg,hd,hz,ht,hs,hl,he,hn',⟨h1,h2⟩,_,hQ,h'⟩
   · intro w hS
     refine wpAnyH_all hr (by simp) fun j hj=>?_
     simp only [List.mem_cons,List.not_mem_nil,or_false] at hj
     rcases hj with rfl | rfl
     · refine callOp hx hg (he w) (hc w hS) fun e w' hR=>?_
       obtain ⟨v,rfl,hv,l⟩:=hR
       have hs1:=hSc _ _ hS l
       refine ⟨v,rfl,hs1,?_⟩
       rw [hd]
       exact ih (h' v hv) w' hs1
     · refine allocOp iz gz (ez _ w) ?_
       rw [dz]
       exact ⟨hSa _ hS,Flt.made (Flt.call c r V hr hr' hx hg hd hz ht hs hl he hc h') hSc _ _ (hSa _ hS) (hNew _ hS)⟩
   · intro w hS
     exact readH (i:=q) (some r) hd v hx (by unfold Region.wanted; rw [hg]) (fun w' _=>he w') hn' h1 h2 hQ hS (ih h' w hS)
end
end
theorem Mm.land {w0 w:World} {l:List (Nat × List Value)} (M:Mm w0 l w) {n m B:Nat} (b:Fb n m B w) (hm:∀ p∈l,p.1<m) (h0:w0.heap.size≤m) (cs:List Value) (hc:cs.length=n):Mm w0 ((B,cs)::l) (w.setCells B 0 cs):=by
 have hlo:=b.lo
 have hM:Mm w0 ((B,(List.range n).map fun j=>(w.cell? ⟨B,j,none⟩).getD undef)::l) w:=by
  refine ⟨fun p hp=>?_,List.pairwise_cons.2 ⟨fun p hp e=>?_,M.apart⟩,M.below⟩
  · rcases xc1 hp with rfl | hp
    · refine ⟨fun j hj=>?_,by omega,b.hi⟩
      rw [List.length_map,List.length_range] at hj
      have h1:=b.th j hj
      rw [Nat.zero_add] at h1
      refine ⟨?_,h1.2⟩
      rw [List.getElem?_map,List.getElem?_range hj]
      obtain ⟨v,hv⟩:=Option.isSome_iff_exists.1 h1.1
      show w.cell? ⟨B,j,none⟩=some ((w.cell? ⟨B,j,none⟩).getD undef)
      rw [hv]
      rfl
    · exact M.rows p hp
  · have:=hm p hp
    have e':B=p.1:=e
    omega
 exact hM.setAll cs (by rw [List.length_map,List.length_range]; exact hc)
section
structure Wnd (w:World) (sp:Option Addr) (n cap:Nat) (f:Nat→Int):Prop where
 le:n≤cap
 mx:cap≤maxLen
 nl:sp=none→cap=0
 at_:∀ a,sp=some a→∃ g o,a=⟨g,o,none⟩∧g<w.heap.size∧(∀ j,j<n→w.cell? ⟨g,o+j,none⟩=some (.int .u8 (f j)))∧∀ j,j<cap→(w.cell? ⟨g,o+j,none⟩).isSome=true∧w.frozen? ⟨g,o+j,none⟩=false
section
variable {w w':World} {sp:Option Addr} {n cap:Nat} {f:Nat→Int}
theorem Wnd.nil (w:World) (f:Nat→Int):Wnd w none 0 0 f:=⟨xnR _,Nat.zero_le _,fun _=>rfl,fun _ h=>by cases h⟩
theorem Wnd.src (h:Wnd w sp n cap f):Src w sp n f:=fun j hj=>by
 cases sp with
 | none=>have:=h.nl rfl; have:=h.le; omega
 | some a =>
   obtain ⟨g,o,rfl,_,hc,_⟩:=h.at_ a rfl
   exact ⟨_,rfl,by rw [Addr.add_mid]; exact hc j hj⟩
theorem Wnd.lt (h:Wnd w sp n cap f):∀ b∈ob sp,b<w.heap.size:=fun b hb=>by
 cases sp with
 | none=>cases hb
 | some a =>
   obtain ⟨g,o,rfl,hl,_⟩:=h.at_ a rfl
   obtain rfl:=xm1 hb
   exact hl
theorem Wnd.off (h:Wnd w sp n cap f) {X:List Nat} (o:Off X w w') (hX:∀ b∈X,b∉ob sp):Wnd w' sp n cap f:=by
 refine ⟨h.le,h.mx,h.nl,fun a e=>?_⟩
 obtain ⟨g,k,e1,hl,hc,ht⟩:=h.at_ a e
 subst e; subst e1; have hb:=o.blk g hl fun hm=>hX _ hm mS
 have e1:∀ j,w'.cell? ⟨g,j,none⟩=w.cell? ⟨g,j,none⟩:=fun j=>World.cell?_of_block (a:=⟨g,j,none⟩) hb
 have e2:∀ j,w'.frozen? ⟨g,j,none⟩=w.frozen? ⟨g,j,none⟩:=fun j=>World.frozen?_of_block (a:=⟨g,j,none⟩) hb
 exact ⟨g,k,rfl,xnL hl o.size,fun j hj=>by rw [e1]; exact hc j hj,fun j hj=>by rw [e1,e2]; exact ht j hj⟩
theorem Wnd.bel (h:Wnd w sp n cap f) (l:Below w.heap.size w w'):Wnd w' sp n cap f:=h.off (X:=[]) (Off.of_below l) (fun _ hb=>by cases hb)
theorem Wnd.congr (h:Wnd w sp n cap f) {z:Nat→Int} (hz:∀ j,j<n→f j=z j):Wnd w sp n cap z:=by
 refine ⟨h.le,h.mx,h.nl,fun a e=>?_⟩
 obtain ⟨g,k,e1,hl,hc,ht⟩:=h.at_ a e
 exact ⟨g,k,e1,hl,fun j hj=>by rw [← hz j hj]; exact hc j hj,ht⟩
theorem Wnd.ofOwn {e:TypeId} {base:Nat} (h:Own w base e .u8 n f (.slice sp n cap)):Wnd w sp n cap f:=by
 rcases h.2 with ⟨hv,hn⟩ | ⟨g,c,cur,hv,_,hg,hc,hm,hs,ht⟩
 · injection hv with h1 h2 h3
   subst h1; subst h3; subst hn
   exact Wnd.nil w f
 · injection hv with h1 _ h3
   subst h1; subst h3
   refine ⟨hc,hm,fun e=>(by cases e),fun a e=>?_⟩
   injection e with e
   subst e
   refine ⟨g,0,rfl,(Array.getElem?_eq_some_iff.1 hg).1,fun j hj=>?_,fun j hj=>⟨?_,?_⟩⟩
   · have:=World.ownsRow.cells h (g:=g) rfl j (.int .u8 (f j)) (row_get .u8 n f j hj)
     rw [Addr.add_mid] at this
     exact this
   · unfold World.cell?
     rw [hg]
     simp
     omega
   · unfold World.frozen?
     rw [hg]
     simp
def slc (sp:Option Addr) (cap m:Nat):Option Addr:=if cap=m then sp else sp.map (·.add (m*1))
theorem slc_run {P:Program} {t:TypeId} (ht:P.underlying t=some (.slice (P.elem t))) (hsz:∀ w,(sizeOf (P.elem t)).run P w=.ok 1 w) (sp:Option Addr) (n cap m:Nat) (hm:m≤n) (w:World):(Instr.sliceAt t (.slice sp n cap) (some (.int .i64 (m:Int))) none none).run P w=.ok (.slice (slc sp cap m) (n-m) (cap-m)) w:=by
 rw [run_sliceAt_slice w t _ _ _ _ ht,run_slice_l w t sp n cap ht .i64 (m:Int) (by omega) (by omega),hsz]
 simp only [Result.andThen,sliced,Int.toNat_natCast,slc]
theorem slc_ob (sp:Option Addr) (cap m:Nat):ob (slc sp cap m)=ob sp:=by
 unfold slc
 split
 · rfl
 · cases sp with
   | none=>rfl
   | some a=>show [(a.add (m*1)).block]=[a.block]; rw [add_block]
theorem slc_obs (sp:Option Addr) (cap m:Nat):obs (slc sp cap m)=obs sp:=by unfold obs; rw [slc_ob]
theorem Wnd.cut (h:Wnd w sp n cap f) {m:Nat} (hm:m≤n):Wnd w (slc sp cap m) (n-m) (cap-m) (fun j=>f (m+j)):=by
 have hle:=h.le; have hmx:=h.mx
 refine ⟨by omega,by omega,fun e=>?_,fun a e=>?_⟩
 · unfold slc at e
   split at e
   · omega
   · cases sp with
     | none=>have:=h.nl rfl; omega
     | some ad=>cases e
 · unfold slc at e
   split at e
   · obtain ⟨g,k,e1,hl,_,_⟩:=h.at_ a e
     exact ⟨g,k,e1,hl,fun j hj=>by omega,fun j hj=>by omega⟩
   · cases sp with
     | none=>cases e
     | some ad =>
       obtain ⟨g,k,e1,hl,hc,ht⟩:=h.at_ ad rfl
       subst e1
       injection e with e
       replace e:(⟨g,k,none⟩:Addr).add (m*1)=a:=e
       rw [Addr.add_mid,Nat.mul_one] at e
       subst e
       exact ⟨g,k+m,rfl,hl,fun j hj=>by rw [Nat.add_assoc]; exact hc _ (by omega),fun j hj=>by rw [Nat.add_assoc]; exact ht _ (by omega)⟩
end
section
variable {P:Program}
theorem run_append_Wnd {w:World} {t ty e:TypeId} {n cap:Nat} {f:Nat→Int} {sp:Option Addr} (ht:P.underlying t=some (.slice e)) (he:One P e .u8 1) (h:Wnd w sp n cap f)
 (sq:Option Addr) (m c:Nat) (z:Nat→Int) (hs:Src w sq m z) (hz:sq=none→c=0) (hb:n+m≤100000000) :
 ∃ sp' cap' w',(Builtin.append_ #[t,t] ty #[.slice sp n cap,.slice sq m c]).run P w=.ok (.slice sp' (n+m) cap') w'∧Wnd w' sp' (n+m) cap' (app f n z)∧w.grownBy w' (sp.map (·.block))∧∀ b∈ob sp',b∈ob sp∨w.heap.size≤b:=by
 obtain ⟨i,hi,hq⟩:=Option.map_eq_some_iff.1 he.info
 simp only [Prod.mk.injEq] at hq
 obtain ⟨h1,h2,h3⟩:=hq
 have hle:=h.le
 have hnew:Go.Src P i.size t (.slice sq m c) m (row .u8 m z) w:=by
  cases sq with
  | none =>
    have hm:m=0:=by
     rcases Nat.eq_zero_or_pos m with h0 | h0
     · exact h0
     · obtain ⟨ad,e,_⟩:=hs 0 h0; cases e
    subst hm
    exact Go.Src.ofNil w ht c
  | some ad =>
    exact Go.Src.ofSlice w ht ad m c (row .u8 m z) (by rw [row_length,h3,Nat.mul_one]) (fun j u hu=>by
     obtain ⟨hj,rfl⟩:=row_get_some hu
     obtain ⟨ad',e',hc⟩:=hs j hj
     injection e' with e'
     subst e'
     exact hc) (row_one .u8 m z)
 by_cases hm:m=0
 · subst hm
   refine ⟨sp,cap,w,?_,?_,⟨rfl,rfl,rfl,xnR _,fun _ _ _=>rfl⟩,fun b hb=>.inl hb⟩
   · exact run_append_nothing w t t ty e i ht hi sp n cap hle _ hnew
   · exact h.congr fun j hj=>by unfold app; rw [if_pos hj]
 · by_cases hr:n+m≤cap
   · cases sp with
     | none=>have:=h.nl rfl; omega
     | some a =>
       obtain ⟨g,o,rfl,hl,hc,hth⟩:=h.at_ a rfl
       have hrun:=run_append_room_src (P:=P) w t t ty e i ht hi g o n cap _ m _ hnew hr (fun j hj=>by rw [row_length] at hj; rw [h3,Nat.mul_one,Nat.add_assoc]; exact (hth (n+j) (by omega)).1) (fun j hj=>by rw [row_length] at hj; rw [h3,Nat.mul_one,Nat.add_assoc]; exact (hth (n+j) (by omega)).2)
       rw [h3,Nat.mul_one] at hrun
       have hlb:=below_setAll (Below.refl 0 w) g (Nat.zero_le _) (o+n) (row .u8 m z)
       refine ⟨_,cap,_,hrun,⟨hr,h.mx,fun e=>(by cases e),fun a e=>?_⟩,⟨hlb.os,hlb.tape,hlb.output,hlb.size,fun k hk hne=>?_⟩,fun b hb=>.inl hb⟩
       · injection e with e
         subst e
         refine ⟨g,o,rfl,by rw [size_setAll]; exact hl,fun j hj=>?_,fun j hj=>⟨World.isSome_setCells g _ _ _ _ (hth j hj).1,by rw [World.frozen?_setCells]; exact (hth j hj).2⟩⟩
         by_cases hjn:j<n
         · rw [World.cell?_setCells_out g _ _ _ _ (fun _ _=>.inl (by simp only; omega)),hc j hjn]
           unfold app
           rw [if_pos hjn]
         · have:=World.cell?_setCells_in g (row .u8 m z) (o+n) w (fun j hj=>by rw [row_length] at hj; rw [Nat.add_assoc]; exact (hth (n+j) (by omega)).1) (j-n) (by rw [row_length]; omega)
           rw [show o+n+(j-n)=o+j by omega] at this
           rw [this]
           have e2:=row_get .u8 m z (j-n) (by omega)
           rw [List.getElem?_eq_getElem (by rw [row_length]; omega)] at e2
           rw [e2]
           unfold app
           rw [if_neg hjn]
       · exact ((Off.refl [g] w).setAll mS (o+n) (row .u8 m z)).blk k hk fun hm=>hne (by rw [xm1 hm]; rfl)
   · have hold:(Builtin.firstCells i.size n (.slice sp n cap)).run P w.drew=.ok (row .u8 n f).toArray w.drew:=by
      cases sp with
      | none =>
        have:=h.nl rfl
        obtain rfl:n=0:=by omega
        exact run_firstCells_none w.drew i.size 0 0 cap
      | some a =>
        exact run_firstCells_some w.drew i.size n a n cap (row .u8 n f) (by rw [row_length,h3,Nat.mul_one]) (fun j u hu=>by
         obtain ⟨hj,rfl⟩:=row_get_some hu
         obtain ⟨ad,e,hc⟩:=h.src j hj
         injection e with e
         subst e
         exact hc)
     have hrun:=run_append_grow_src (P:=P) w t t ty e i (.int .u8 0) ht hi h1 sp n cap (row .u8 n f) hold _ m _ hnew (by omega) (by omega) (growslice_fits (by omega) (by rw [h2]; omega)); have hge:=grownCap_ge w (n+m) cap e; have hcm:=grownCap_le_maxLen w (n+m) cap e (by unfold maxLen; omega)
     have hown:Own (w.drew.alloc (.cells ((row .u8 n f++row .u8 m z).toArray++Builtin.zeroCells (Value.int .u8 0).cells (grownCap w (n+m) cap e-(n+m))) e)) 0 e .u8 (n+m) (app f n z) (.slice (some ⟨w.heap.size,0,none⟩) (n+m) (grownCap w (n+m) cap e)):=by
      have hL:(row .u8 n f++row .u8 m z).length=n+m:=by rw [List.length_append,row_length,row_length]
      unfold Own
      rw [← row_app]
      refine ⟨by rw [hL,Nat.mul_one],.inr ⟨w.heap.size,_,_,rfl,Nat.zero_le _,heap_alloc_new w.drew _,hge,hcm,?_,?_⟩⟩
      · rw [Array.size_append,List.size_toArray,hL,size_zeroCells]
        show n+m+(_-(n+m))*1=_
        omega
      · rw [Array.toList_append,Nat.mul_one]
        have e2:∀ (A B:List Value) (k:Nat),A.length=k→(A++B).take k=A:=fun A B k hk=>by subst hk; exact List.take_left
        exact e2 _ _ _ hL
     refine ⟨_,_,_,hrun,Wnd.ofOwn hown,⟨rfl,rfl,rfl,by simp,fun k hk _=>Below.heap_alloc w.drew _ k hk⟩,fun b hb=>.inr ?_⟩
     rw [xm1 hb]
     exact xnR _
end
theorem Mm.rep18 {w0 w w2:World} {l:List (Nat × List Value)} {sp sq:Option Addr} (M:Mm w0 (obs sp++l) w) (hg:w.grownBy w2 (sp.map (·.block))) (hl:∀ b∈ob sq,b<w2.heap.size) (hq:∀ b∈ob sq,b∈ob sp∨w.heap.size≤b):Mm w0 (obs sq++l) w2:=by
 have Ml:Mm w0 l w:=M.sub _ (List.sublist_append_right _ _)
 have hap:∀ b∈ob sp,w0.heap.size≤b∧∀ p∈l,p.1≠b:=fun b hb=>by
  have hm:(b,[])∈obs sp:=List.mem_map.2 ⟨b,hb,rfl⟩
  refine ⟨(M.rows _ (List.mem_append_left _ hm)).2.1,fun p hp e=>?_⟩
  exact (List.pairwise_append.1 M.apart).2.2 (b,[]) hm p hp e.symm
 have Ml2:=Ml.grownN hg (fun b hb=>hap b (by
  cases sp with
  | none=>cases hb
  | some a=>injection hb with hb; subst hb; exact mS))
 cases sq with
 | none=>exact Ml2
 | some a =>
   have h1:=hq a.block mS
   exact Ml2.addB (by
    rcases h1 with h | h
    · exact (hap _ h).1
    · exact xnT Ml.below.size h) (hl _ mS) fun p hp e=>by
      rcases h1 with h | h
      · exact (hap _ h).2 p hp e
      · have:=(Ml.rows p hp).2.2
        omega
theorem Off.rep18 {w w1 w2:World} {X:List Nat} {sp:Option Addr} (h:Off X w w1) (g:w1.grownBy w2 (sp.map (·.block))) (hX:∀ b∈ob sp,b∈X∨w.heap.size≤b):Off X w w2:=h.grown g fun b hb=>hX b (by
 cases sp with
 | none=>cases hb
 | some a=>injection hb with hb; subst hb; exact mS)
theorem Wnd.wrt {w:World} {sp:Option Addr} {n cap:Nat} {f:Nat→Int} (h:Wnd w sp n cap f):Wrt w sp n:=fun j hj=>by
 have hle:=h.le
 cases sp with
 | none=>have:=h.nl rfl; omega
 | some a =>
   obtain ⟨g,o,rfl,_,_,ht⟩:=h.at_ a rfl
   exact ⟨_,rfl,by rw [Addr.add_mid]; exact ht j (by omega)⟩
theorem Wnd.newF {w:World} {base:Nat} {sp:Option Addr} {n cap:Nat} {f:Nat→Int} (h:Wnd w sp n cap f) (hb:∀ b∈ob sp,base≤b):NewF w base n f (.slice sp n cap):=⟨sp,cap,rfl,h.le,h.nl,h.src,fun a e=>by
 subst e
 exact ⟨hb _ mS,h.lt _ mS⟩⟩
theorem Mm.wnd {w0 w:World} {l:List (Nat × List Value)} {B n:Nat} {f:Nat→Int} (M:Mm w0 ((B,row .u8 n f)::l) w) (hn:n≤maxLen):Wnd w (some ⟨B,0,none⟩) n n f:=by
 have h:=M.rows _ mS
 refine ⟨xnR _,hn,fun e=>(by cases e),fun a e=>?_⟩
 injection e with e
 subst e
 have hc:∀ j,j<n→w.cell? ⟨B,0+j,none⟩=some (.int .u8 (f j)):=fun j hj=>by
  rw [Nat.zero_add,(h.1 j (by rw [row_length]; exact hj)).1]
  exact row_get .u8 n f j hj
 exact ⟨B,0,rfl,h.2.2,hc,fun j hj=>⟨by rw [hc j hj]; rfl,by rw [Nat.zero_add]; exact (h.1 j (by rw [row_length]; exact hj)).2⟩⟩
theorem Mm.newO {w0 w w':World} {l:List (Nat × List Value)} {sp:Option Addr} (M:Mm w0 l w) (b:Below w.heap.size w w') (h:∀ x∈ob sp,w.heap.size≤x∧x<w'.heap.size):Mm w0 (obs sp++l) w':=by
 cases sp with
 | none=>exact M.call b
 | some a =>
   have h1:=h a.block mS
   exact (M.call b).addB (xnT M.below.size h1.1) h1.2 fun p hp e=>by
    have:=(M.rows p hp).2.2
    omega
theorem Off.andR {X:List Nat} {w w1 w2:World} {R:Nat} {sp:Option Addr} (h:Off X w w1) (g:Off (R::ob sp) w1 w2) (hR:R∈X) (hL:Lies X w sp):Off X w w2 :=
 ⟨xnT h.size g.size,fun b hb hX=>(g.blk b (xnL hb h.size) (fun hm=>by
  rcases xc1 hm with rfl | hm
  · exact hX hR
  · rcases hL b hm with c | c
    · exact hX c
    · omega)).trans (h.blk b hb hX)⟩
theorem Lies.rep {X:List Nat} {w w1:World} {sp sq:Option Addr} (h:Lies X w sp) (g:∀ b,b∈ob sq→b∈ob sp∨w1.heap.size≤b) (hs:w.heap.size≤w1.heap.size):Lies X w sq:=fun b hb=>(g b hb).elim (h b) fun c=>.inr (xnT hs c)
theorem Mm.awayRO {w0 w:World} {R:Nat} {cs:List Value} {t:List (Nat × List Value)} {so sp:Option Addr} (h:Mm w0 ((R,cs)::(obs so++t)) w) (hs:∀ p∈obs sp,p∈t):∀ b∈R::ob so,b∉ob sp:=fun b hb=>by
 rcases xc1 hb with rfl | hb
 · exact h.awayB fun p hp=>List.mem_append_right _ (hs p hp)
 · exact (h.sub _ (List.sublist_cons_self _ _)).awayO hs b hb
theorem run_copy_wnd {P:Program} {o:Oper} {a:Act} {w:World} (d s:Operand) (dT sT elem:TypeId) (ho:o.op=.call { callee:=.builtin .copy,args:=#[d,s],argTypes:=#[dT,sT] }) (hu:P.underlying dT=some (.slice elem)) (hsz:(P.info? elem).map (·.size)=some 1)
 (b dLen dCap sLen sCap m:Nat) (z:Nat→Int) (sp:Option Addr) (hd:a.eval d=.slice (some ⟨b,0,none⟩) dLen dCap) (hs:a.eval s=.slice sp sLen sCap) (hmin:m=Nat.min sLen dLen) (hb:w.there b 0 m) (hc:Src w sp m z) :
 (execOp a.eval o).run P w=.ok (.value (.int .i64 (m:Int))) (w.setCells b 0 (row .u8 m z)):=by
 cases sp with
 | none =>
   have h0:m=0:=by
    rcases Nat.eq_zero_or_pos m with c | c
    · exact c
    · obtain ⟨ad,e,_⟩:=hc 0 c; cases e
   subst h0; have hrun:=run_copy_none (P:=P) w dT sT o.type elem (some ⟨b,0,none⟩) none dLen dCap sLen sCap hu hsz hmin.symm
   simp [execOp,ho,resolve,invoke,builtin,hd,hs,hrun,Result.andThen,goInt,row,World.setCells]
 | some ad=>exact run_copy_part d s dT sT elem ho hu hsz b dLen dCap sLen sCap m z ad hd hs hmin hb hc
end
end Go.Proofs.Ytcjahbdlaojnoaa
