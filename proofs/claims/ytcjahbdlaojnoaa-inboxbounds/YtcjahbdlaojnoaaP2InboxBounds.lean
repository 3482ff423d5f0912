/- Texts of Dj Pc Oi Dh Kn Di Dk LawInboxBounds Gv Hz Nb Sl Ln Nk Az Dw Tc Dl, joined. -/
import Derived.Test.YtcjahbdlaojnoaaP1InboxBounds
import Derived.Deep.CutBlock
import Derived.Deep.DeepCutAuto
import Derived.Deep.Upon
import Derived.Lib.AppendZerosOnto
set_option maxRecDepth 20000
set_option maxHeartbeats 64000000
namespace Go.Proofs.Ytcjahbdlaojnoaa
open Go.RowKit
theorem NewW.rngE {w:World} {base:Nat} {l:List (Int × Int)} {sp:Option Addr} {ad:Addr} {cap:Nat} (h:NewW w base l (.slice sp l.length cap)) (hsp:sp=some ad) {i:Nat} {p:Int × Int} (hi:l[i]?=some p):∀ j u,[Value.int .i64 p.1,Value.int .i64 p.2][j]?=some u→w.cell? ((ad.add (i*2)).add j)=some u:=by
 subst hsp
 exact NewW.rng h hi
theorem NewW.someE {w:World} {base:Nat} {l:List (Int × Int)} {sp:Option Addr} {cap:Nat} (h:NewW w base l (.slice sp l.length cap)) {i:Nat} (hi:i<l.length):∃ ad,sp=some ad:=by
 obtain ⟨ad,e,_⟩:=h.at (List.getElem?_eq_getElem hi)
 exact ⟨ad,e⟩
theorem idxR2E (ad:Addr) (len cap i:Nat) (sp:Option Addr) (hsp:sp=some ad) (hi:i<len) {o:Oper} {a:Act} (x y:Operand) (ho:o.op=.indexAddr 39 x y) (hx:a.eval x=.slice sp len cap) (hy:a.eval y=.int .i64 (i:Int)) (w:World):(execOp a.eval o).run Try.prog w=.ok (.value (.pointer (some (ad.add (i*2))))) w:=by
 subst hsp
 exact idxR2 ad len cap i hi x y ho hx hy w
section
section
variable {P:Program} {md:Region.Mode} {ops:Array Oper} {Q:Exit→Act→World→Prop} {S:World→Prop}
theorem actO {i:Nat} {oi:Oper} (dst:Option Tmp) (hdst:oi.dst=dst) {K:Act→World→Prop} {a:Act} {w w':World} (v:Value) (hi:ops[i]?=some oi) (hw:Region.wanted oi (yielded ops a.tmps)=true)
 (he:(execOp a.eval oi).run P w=.ok (.value v) w') (h:K (a.put dst v) w'):wpOp P ops Q i K a w:=by
 unfold wpOp
 simp only [hi,hw,if_true]; refine .inl ?_
 unfold Oper.wp
 rw [he]
 subst hdst
 exact h
theorem onlyH {i:Nat} {oi:Oper} (dst:Option Tmp) (hdst:oi.dst=dst) {fuel:Nat} {listed:Array Bool} {a:Act} {w w':World} (v:Value) (hr:Region.ready md ops listed=[i]) (hi:ops[i]?=some oi) (hw:Region.wanted oi (yielded ops a.tmps)=true)
 (he:(execOp a.eval oi).run P w=.ok (.value v) w') (hS:S w') (h:wpAnyH P md ops Q S fuel (listed.setIfInBounds i true) (a.put dst v) w'):wpAnyH P md ops Q S (fuel+1) listed a w :=
 ⟨fun h0=>(by rw [h0] at hr; cases hr),fun j hj=>by
  rw [hr] at hj
  obtain rfl:=xm1 hj
  exact actO dst hdst v hi hw he ⟨hS,h⟩⟩
end
end
section
section
variable {P:Program} {o:Oper} {a:Act}
theorem maxI (k k':IntKind) (n n' r:Int) (x y:Operand) (t t':TypeId) (ho:o.op=.call { callee:=.builtin .max,args:=#[x,y],argTypes:=#[t,t'] }) (hx:a.eval x=.int k n) (hy:a.eval y=.int k' n') (hr:(if n<n' then n' else n)=r) (w:World):(execOp a.eval o).run P w=.ok (.value (.int k r)) w:=by
 simp [execOp,ho,resolve,invoke,builtin,hx,hy,run_max_int2,hr]
end
theorem Mm.grownN {w0 w w':World} {l:List (Nat × List Value)} (h:Mm w0 l w) {r:Option Nat} (g:w.grownBy w' r) (hr:∀ b,r=some b→w0.heap.size≤b∧∀ p∈l,p.1≠b):Mm w0 l w' :=
 ⟨fun p hp=>⟨fun j hj=>by
  have e:w'.heap[p.1]?=w.heap[p.1]?:=g.block p.1 (h.rows p hp).2.2 (fun e=>(hr p.1 e.symm).2 p hp rfl)
  rw [World.cell?_of_block (a:=⟨p.1,j,none⟩) e,World.frozen?_of_block (a:=⟨p.1,j,none⟩) e]
  exact (h.rows p hp).1 j hj,(h.rows p hp).2.1,xnL (h.rows p hp).2.2 g.size⟩,h.apart,
  ⟨g.os.trans h.below.os,g.tape.trans h.below.tape,g.output.trans h.below.output,xnT h.below.size g.size,fun b hb=>(g.block b (xnL hb h.below.size) (fun e=>by have:=(hr b e.symm).1; omega)).trans (h.below.block b hb)⟩⟩
end
def xs0:Ibx:=inew 6
theorem xs0_w:IbxW xs0:=inew_w 6
theorem xs0_l:xs0.dn<10000000:=by decide +kernel
def xs1:Ibx:=itk xs0 2 [99,100]
theorem xs1_w:IbxW xs1:=itk_w xs0_w 2 (by unfold Byts; decide)
theorem xs1_l:xs1.dn<10000000:=by decide +kernel
def xs2:Ibx:=irx xs1 9
theorem xs2_w:IbxW xs2:=irx_w xs1_w 9
theorem xs2_l:xs2.dn<10000000:=by decide +kernel
def xs3:Ibx:=itk xs2 0 [97,98,88,89,101]
theorem xs3_w:IbxW xs3:=itk_w xs2_w 0 (by unfold Byts; decide)
theorem xs3_l:xs3.dn<10000000:=by decide +kernel
def xs4:Ibx:=irx xs3 3
theorem xs4_w:IbxW xs4:=irx_w xs3_w 3
theorem xs4_l:xs4.dn<10000000:=by decide +kernel
def xs5:Ibx:=itk xs4 8 [122,122]
theorem xs5_w:IbxW xs5:=itk_w xs4_w 8 (by unfold Byts; decide)
theorem xs5_l:xs5.dn<10000000:=by decide +kernel
def xs6:Ibx:=itk xs5 0 [97,98,99]
theorem xs6_w:IbxW xs6:=itk_w xs5_w 0 (by unfold Byts; decide)
theorem xs6_l:xs6.dn<10000000:=by decide +kernel
theorem xs0N:itN xs0 2 ([99,100]:List Int).length=2:=by decide +kernel
theorem xs2N:itN xs2 0 ([97,98,88,89,101]:List Int).length=3:=by decide +kernel
theorem xs4N:itN xs4 8 ([122,122]:List Int).length=1:=by decide +kernel
theorem xs5N:itN xs5 0 ([97,98,99]:List Int).length=0:=by decide +kernel
theorem xs1B:irB xs1 9=[]:=by decide +kernel
theorem xs3B:irB xs3 3=[97,98,99]:=by decide +kernel
theorem xs1H:ihr xs1=0:=by decide +kernel
theorem xs1E:ibe xs1=[(2,4)]:=by decide +kernel
theorem xs4L:ilim xs4=9:=by decide +kernel
theorem xs6D:ihd xs6=3:=by decide +kernel
theorem shown19_any {I:InI} (hK:InOK I) (w0:World) :
 Calls Try.prog 7 #[] w0 fun e w'=>e=.returned (.bool true)∧Below w0.heap.size w0 w':=by
 have M:=Mm.init w0
 go_enter Try.func7,Try.ntmps7
 go_upto_region 0 with fail; refine wp_region_list ?_; refine xpL (.bool false) ?_; refine xT ?_; go_upto_region 1 with fail; refine wp_region_list ?_; have key:=hK.new w0 _ _ 6 (by unfold i64; decide) M; refine xcL key ?_; clear key; rintro e w1 ⟨v_,ba0,rfl,hIa,M',l_⟩
 obtain ⟨Ra,rfl⟩:=hK.ptr _ _ _ _ hIa
 clear M; have M:=M'.perm (pull0 ([]:List (Nat × List Value)) ba0 ([]:List (Nat × List Value))).symm; clear M'; clear l_
 replace M:Mm w0 ((ba0++([]:List (Nat × List Value)))) w1:=M
 refine xeL ?_; refine xpL (.pointer (some ⟨Ra,0,none⟩)) ?_; refine xT ?_; go_upto_region 2 with fail; refine wp_region_list ?_; refine xpL (.pointer (some ⟨Ra,0,none⟩)) ?_; refine xpL (.bool false) ?_; refine xT ?_; go_upto_region 4 with fail; refine wp_region_list ?_; refine xpL (.pointer (some ⟨Ra,0,none⟩)) ?_
 refine actL (w':=w1.alloc (.cells #[.int .u8 99,.int .u8 100] 5)) (.slice (some ⟨w1.heap.size,0,none⟩) 2 2) rfl (by kernel_rfl) ?_; simp only [aP,lI,l0,lS]
 refine actL (w':=w1.alloc (.cells #[.int .u8 99,.int .u8 100] 5 ((#[.int .u8 99,.int .u8 100]:Array Value).size,(#[.int .u8 99,.int .u8 100]:Array Value).size+1))) (.slice (some ⟨w1.heap.size,0,none⟩) 2 2) rfl (conv_const 28 5 #[.int .u8 99,.int .u8 100] 2 2 _ rfl rfl Try.underlying28 Try.underlying5) ?_; simp only [aP,lI,l0,lS]
 have hlb:=(Below.refl w1.heap.size w1).alloc (xnR _) (.cells #[.int .u8 99,.int .u8 100] 5 ((#[.int .u8 99,.int .u8 100]:Array Value).size,(#[.int .u8 99,.int .u8 100]:Array Value).size+1)); replace hIa:=hK.bel hIa hlb
 replace M:=M.boxC #[.int .u8 99,.int .u8 100] 5 (((#[.int .u8 99,.int .u8 100]:Array Value)).size,((#[.int .u8 99,.int .u8 100]:Array Value)).size+1) w1.heap.size rfl (xnR _); clear hlb; generalize w1.alloc (.cells #[.int .u8 99,.int .u8 100] 5 ((#[.int .u8 99,.int .u8 100]:Array Value).size,(#[.int .u8 99,.int .u8 100]:Array Value).size+1))=w2 at M hIa ⊢
 generalize w1.heap.size=B2 at M ⊢
 replace M:Mm w0 ((B2,[.int .u8 99,.int .u8 100])::(ba0++([]:List (Nat × List Value)))) w2:=M
 have Mp:=M.perm (pull0 ([(B2,[.int .u8 99,.int .u8 100])]:List (Nat × List Value)) ba0 ([]:List (Nat × List Value)))
 have key:=hK.tak w0 _ _ xs0 ba0 _ 2 (some ⟨B2,0,none⟩) 2 [99,100] xs0_w xs0_l (by unfold i64; decide) (by decide) (by decide) (fun e=>by cases e) (by unfold Byts; decide) hIa Mp (show SrcA _ _ _ _ _ from ⟨(M.src mS [99,100] rfl),fun ad e _=>by cases e; exact Mp.beside mS⟩)
 rw [xs0N] at key
 rw [show itk xs0 2 [99,100]=xs1 from rfl] at key
 refine xcL key ?_; clear key; rintro e w3 ⟨ba1,rfl,hI_,M',o1⟩; clear o1 Mp M hIa; have hIa:=hI_; clear hI_
 have M:Mm w0 ((B2,[.int .u8 99,.int .u8 100])::(ba1++([]:List (Nat × List Value)))) w3:=M'.perm (pull0 ([(B2,[.int .u8 99,.int .u8 100])]:List (Nat × List Value)) ba1 ([]:List (Nat × List Value))).symm
 clear M'; refine xeL ?_; refine xpL (.int .i64 ((2:Nat):Int)) ?_; refine xT ?_; go_upto_region 5 with fail; refine wp_region_list ?_; refine xpL (.pointer (some ⟨Ra,0,none⟩)) ?_; have Mp:=M.perm (pull0 ([(B2,[.int .u8 99,.int .u8 100])]:List (Nat × List Value)) ba1 ([]:List (Nat × List Value))); have key:=hK.her w0 _ _ xs1 ba1 _ xs1_w xs1_l hIa Mp; clear Mp
 rw [xs1H] at key
 refine xcL key ?_; clear key; rintro e w4 ⟨rfl,l_⟩; replace M:=M.call l_; replace hIa:=hK.bel hIa l_; clear l_; refine xeL ?_; refine xpL (.int .i64 ((0:Nat):Int)) ?_; refine xT ?_; go_upto_region 6 with fail; refine wp_region_list ?_; refine xpL (.pointer (some ⟨Ra,0,none⟩)) ?_
 have Mp:=M.perm (pull0 ([(B2,[.int .u8 99,.int .u8 100])]:List (Nat × List Value)) ba1 ([]:List (Nat × List Value))); have key:=hK.bey w0 _ _ xs1 ba1 _ xs1_w xs1_l hIa Mp; clear Mp
 rw [xs1E] at key
 refine xcL key ?_; clear key; rintro e w5 ⟨p5,c5,rfl,W_5,l_⟩; replace M:=M.newW l_ W_5; replace hIa:=hK.bel hIa l_; clear l_
 replace M:Mm w0 ((B2,[.int .u8 99,.int .u8 100])::((obs p5)++(ba1++([]:List (Nat × List Value))))) w5:=M.perm (pull0 ([(B2,[.int .u8 99,.int .u8 100])]:List (Nat × List Value)) (obs p5) (ba1++([]:List (Nat × List Value)))).symm
 refine xeL ?_; refine xpL (.slice p5 (([(2,4)]:List (Int × Int)).length) c5) ?_; refine xT ?_; go_upto_region 7 with fail; refine wp_region_list ?_; refine xpL (.pointer (some ⟨Ra,0,none⟩)) ?_; have Mp:=M.perm (pull1 ([(B2,[.int .u8 99,.int .u8 100])]:List (Nat × List Value)) (obs p5) ba1 ([]:List (Nat × List Value)))
 have key:=hK.red w0 _ _ xs1 ba1 _ 9 xs1_w xs1_l (by unfold i64; decide) hIa Mp
 rw [xs1B] at key
 rw [show irx xs1 9=xs2 from rfl] at key
 refine xcL key ?_; clear key; rintro e w6 ⟨p6,c6,ba2,rfl,N_6,T_6,hI_,M',o1⟩; replace W_5:=NewW.offB W_5 o1 (Mp.awayS (fun p_ hp_=>by simp [hp_])); clear o1 Mp M hIa; have hIa:=hI_; clear hI_
 have M:Mm w0 ((B2,[.int .u8 99,.int .u8 100])::(ba2++((obs p6)++((obs p5)++([]:List (Nat × List Value)))))) w6:=M'.perm (pullY ([(B2,[.int .u8 99,.int .u8 100])]:List (Nat × List Value)) ba2 (obs p6) ((obs p5)++([]:List (Nat × List Value))))
 clear M'; refine xeL ?_
 obtain ⟨bs6,N_6⟩:∃ b_,NewF w6 b_ ([]:List Int).length (bl ([])) (.slice p6 ([]:List Int).length c6):=⟨_,N_6⟩
 refine xpL (.slice p6 (([]:List Int).length) c6) ?_; refine xT ?_; go_upto_region 8 with fail; refine wp_region_list ?_; refine xpL (.pointer (some ⟨Ra,0,none⟩)) ?_; refine actL (w':=w6.alloc (.cells #[.int .u8 97,.int .u8 98,.int .u8 88,.int .u8 89,.int .u8 101] 5)) (.slice (some ⟨w6.heap.size,0,none⟩) 5 5) rfl (by kernel_rfl) ?_; simp only [aP,lI,l0,lS]
 refine actL (w':=w6.alloc (.cells #[.int .u8 97,.int .u8 98,.int .u8 88,.int .u8 89,.int .u8 101] 5 ((#[.int .u8 97,.int .u8 98,.int .u8 88,.int .u8 89,.int .u8 101]:Array Value).size,(#[.int .u8 97,.int .u8 98,.int .u8 88,.int .u8 89,.int .u8 101]:Array Value).size+1))) (.slice (some ⟨w6.heap.size,0,none⟩) 5 5) rfl (conv_const 28 5 #[.int .u8 97,.int .u8 98,.int .u8 88,.int .u8 89,.int .u8 101] 5 5 _ rfl rfl Try.underlying28 Try.underlying5) ?_
 simp only [aP,lI,l0,lS]; have hlb:=(Below.refl w6.heap.size w6).alloc (xnR _) (.cells #[.int .u8 97,.int .u8 98,.int .u8 88,.int .u8 89,.int .u8 101] 5 ((#[.int .u8 97,.int .u8 98,.int .u8 88,.int .u8 89,.int .u8 101]:Array Value).size,(#[.int .u8 97,.int .u8 98,.int .u8 88,.int .u8 89,.int .u8 101]:Array Value).size+1)); replace hIa:=hK.bel hIa hlb
 replace W_5:=NewW.below W_5 hlb; replace N_6:=NewF.below N_6 hlb; replace T_6:=Wrt.below T_6 hlb
 replace M:=M.boxC #[.int .u8 97,.int .u8 98,.int .u8 88,.int .u8 89,.int .u8 101] 5 (((#[.int .u8 97,.int .u8 98,.int .u8 88,.int .u8 89,.int .u8 101]:Array Value)).size,((#[.int .u8 97,.int .u8 98,.int .u8 88,.int .u8 89,.int .u8 101]:Array Value)).size+1) w6.heap.size rfl (xnR _); clear hlb
 generalize w6.alloc (.cells #[.int .u8 97,.int .u8 98,.int .u8 88,.int .u8 89,.int .u8 101] 5 ((#[.int .u8 97,.int .u8 98,.int .u8 88,.int .u8 89,.int .u8 101]:Array Value).size,(#[.int .u8 97,.int .u8 98,.int .u8 88,.int .u8 89,.int .u8 101]:Array Value).size+1))=w7 at M hIa W_5 N_6 T_6 ⊢; generalize w6.heap.size=B7 at M ⊢
 replace M:Mm w0 ((B7,[.int .u8 97,.int .u8 98,.int .u8 88,.int .u8 89,.int .u8 101])::(B2,[.int .u8 99,.int .u8 100])::(ba2++((obs p6)++((obs p5)++([]:List (Nat × List Value)))))) w7:=M
 have Mp:=M.perm (pull0 ([(B7,[.int .u8 97,.int .u8 98,.int .u8 88,.int .u8 89,.int .u8 101]),(B2,[.int .u8 99,.int .u8 100])]:List (Nat × List Value)) ba2 ((obs p6)++((obs p5)++([]:List (Nat × List Value)))))
 have key:=hK.tak w0 _ _ xs2 ba2 _ 0 (some ⟨B7,0,none⟩) 5 [97,98,88,89,101] xs2_w xs2_l (by unfold i64; decide) (by decide) (by decide) (fun e=>by cases e) (by unfold Byts; decide) hIa Mp (show SrcA _ _ _ _ _ from ⟨(M.src mS [97,98,88,89,101] rfl),fun ad e _=>by cases e; exact Mp.beside mS⟩)
 rw [xs2N] at key
 rw [show itk xs2 0 [97,98,88,89,101]=xs3 from rfl] at key
 refine xcL key ?_; clear key; rintro e w8 ⟨ba3,rfl,hI_,M',o1⟩; replace W_5:=NewW.offB W_5 o1 (Mp.awayS (fun p_ hp_=>by simp [hp_])); replace N_6:=NewF.offB N_6 o1 (Mp.awayS (fun p_ hp_=>by simp [hp_])); replace T_6:=Wrt.offB T_6 o1 (Mp.awayS (fun p_ hp_=>by simp [hp_])); clear o1 Mp M hIa; have hIa:=hI_; clear hI_
 have M:Mm w0 ((B7,[.int .u8 97,.int .u8 98,.int .u8 88,.int .u8 89,.int .u8 101])::(B2,[.int .u8 99,.int .u8 100])::(ba3++((obs p6)++((obs p5)++([]:List (Nat × List Value)))))) w8:=M'.perm (pull0 ([(B7,[.int .u8 97,.int .u8 98,.int .u8 88,.int .u8 89,.int .u8 101]),(B2,[.int .u8 99,.int .u8 100])]:List (Nat × List Value)) ba3 ((obs p6)++((obs p5)++([]:List (Nat × List Value))))).symm
 clear M'; refine xeL ?_; refine xpL (.int .i64 ((3:Nat):Int)) ?_; refine xT ?_; go_upto_region 9 with fail; refine wp_region_list ?_; refine xpL (.pointer (some ⟨Ra,0,none⟩)) ?_
 have Mp:=M.perm (pull0 ([(B7,[.int .u8 97,.int .u8 98,.int .u8 88,.int .u8 89,.int .u8 101]),(B2,[.int .u8 99,.int .u8 100])]:List (Nat × List Value)) ba3 ((obs p6)++((obs p5)++([]:List (Nat × List Value))))); have key:=hK.red w0 _ _ xs3 ba3 _ 3 xs3_w xs3_l (by unfold i64; decide) hIa Mp
 rw [xs3B] at key
 rw [show irx xs3 3=xs4 from rfl] at key
 refine xcL key ?_; clear key; rintro e w9 ⟨p9,c9,ba4,rfl,N_9,T_9,hI_,M',o1⟩; replace W_5:=NewW.offB W_5 o1 (Mp.awayS (fun p_ hp_=>by simp [hp_])); replace N_6:=NewF.offB N_6 o1 (Mp.awayS (fun p_ hp_=>by simp [hp_])); replace T_6:=Wrt.offB T_6 o1 (Mp.awayS (fun p_ hp_=>by simp [hp_])); clear o1 Mp M hIa; have hIa:=hI_; clear hI_
 have M:Mm w0 ((B7,[.int .u8 97,.int .u8 98,.int .u8 88,.int .u8 89,.int .u8 101])::(B2,[.int .u8 99,.int .u8 100])::(ba4++((obs p9)++((obs p6)++((obs p5)++([]:List (Nat × List Value))))))) w9:=M'.perm (pullY ([(B7,[.int .u8 97,.int .u8 98,.int .u8 88,.int .u8 89,.int .u8 101]),(B2,[.int .u8 99,.int .u8 100])]:List (Nat × List Value)) ba4 (obs p9) ((obs p6)++((obs p5)++([]:List (Nat × List Value)))))
 clear M'; refine xeL ?_
 obtain ⟨bs9,N_9⟩:∃ b_,NewF w9 b_ ([97,98,99]:List Int).length (bl ([97,98,99])) (.slice p9 ([97,98,99]:List Int).length c9):=⟨_,N_9⟩
 refine xpL (.slice p9 (([97,98,99]:List Int).length) c9) ?_; refine xT ?_; go_upto_region 10 with fail; refine wp_region_list ?_; refine xpL (.pointer (some ⟨Ra,0,none⟩)) ?_
 have Mp:=M.perm (pull0 ([(B7,[.int .u8 97,.int .u8 98,.int .u8 88,.int .u8 89,.int .u8 101]),(B2,[.int .u8 99,.int .u8 100])]:List (Nat × List Value)) ba4 ((obs p9)++((obs p6)++((obs p5)++([]:List (Nat × List Value)))))); have key:=hK.lim w0 _ _ xs4 ba4 _ xs4_w xs4_l hIa Mp; clear Mp
 rw [xs4L] at key
 refine xcL key ?_; clear key; rintro e w10 ⟨rfl,l_⟩; replace M:=M.call l_; replace hIa:=hK.bel hIa l_; replace W_5:=NewW.below W_5 l_; replace N_6:=NewF.below N_6 l_; replace T_6:=Wrt.below T_6 l_; replace N_9:=NewF.below N_9 l_; replace T_9:=Wrt.below T_9 l_; clear l_; refine xeL ?_; refine xpL (.int .i64 ((9:Nat):Int)) ?_; refine xT ?_; go_upto_region 11 with fail
 refine wp_region_list ?_; refine xpL (.pointer (some ⟨Ra,0,none⟩)) ?_; refine actL (w':=w10.alloc (.cells #[.int .u8 122,.int .u8 122] 5)) (.slice (some ⟨w10.heap.size,0,none⟩) 2 2) rfl (by kernel_rfl) ?_; simp only [aP,lI,l0,lS]
 refine actL (w':=w10.alloc (.cells #[.int .u8 122,.int .u8 122] 5 ((#[.int .u8 122,.int .u8 122]:Array Value).size,(#[.int .u8 122,.int .u8 122]:Array Value).size+1))) (.slice (some ⟨w10.heap.size,0,none⟩) 2 2) rfl (conv_const 28 5 #[.int .u8 122,.int .u8 122] 2 2 _ rfl rfl Try.underlying28 Try.underlying5) ?_; simp only [aP,lI,l0,lS]
 have hlb:=(Below.refl w10.heap.size w10).alloc (xnR _) (.cells #[.int .u8 122,.int .u8 122] 5 ((#[.int .u8 122,.int .u8 122]:Array Value).size,(#[.int .u8 122,.int .u8 122]:Array Value).size+1)); replace hIa:=hK.bel hIa hlb; replace W_5:=NewW.below W_5 hlb; replace N_6:=NewF.below N_6 hlb; replace T_6:=Wrt.below T_6 hlb; replace N_9:=NewF.below N_9 hlb
 replace T_9:=Wrt.below T_9 hlb; replace M:=M.boxC #[.int .u8 122,.int .u8 122] 5 (((#[.int .u8 122,.int .u8 122]:Array Value)).size,((#[.int .u8 122,.int .u8 122]:Array Value)).size+1) w10.heap.size rfl (xnR _); clear hlb
 generalize w10.alloc (.cells #[.int .u8 122,.int .u8 122] 5 ((#[.int .u8 122,.int .u8 122]:Array Value).size,(#[.int .u8 122,.int .u8 122]:Array Value).size+1))=w11 at M hIa W_5 N_6 T_6 N_9 T_9 ⊢; generalize w10.heap.size=B11 at M ⊢
 replace M:Mm w0 ((B11,[.int .u8 122,.int .u8 122])::(B7,[.int .u8 97,.int .u8 98,.int .u8 88,.int .u8 89,.int .u8 101])::(B2,[.int .u8 99,.int .u8 100])::(ba4++((obs p9)++((obs p6)++((obs p5)++([]:List (Nat × List Value))))))) w11:=M
 have Mp:=M.perm (pull0 ([(B11,[.int .u8 122,.int .u8 122]),(B7,[.int .u8 97,.int .u8 98,.int .u8 88,.int .u8 89,.int .u8 101]),(B2,[.int .u8 99,.int .u8 100])]:List (Nat × List Value)) ba4 ((obs p9)++((obs p6)++((obs p5)++([]:List (Nat × List Value))))))
 have key:=hK.tak w0 _ _ xs4 ba4 _ 8 (some ⟨B11,0,none⟩) 2 [122,122] xs4_w xs4_l (by unfold i64; decide) (by decide) (by decide) (fun e=>by cases e) (by unfold Byts; decide) hIa Mp (show SrcA _ _ _ _ _ from ⟨(M.src mS [122,122] rfl),fun ad e _=>by cases e; exact Mp.beside mS⟩)
 rw [xs4N] at key
 rw [show itk xs4 8 [122,122]=xs5 from rfl] at key
 refine xcL key ?_; clear key; rintro e w12 ⟨ba5,rfl,hI_,M',o1⟩; replace W_5:=NewW.offB W_5 o1 (Mp.awayS (fun p_ hp_=>by simp [hp_])); replace N_6:=NewF.offB N_6 o1 (Mp.awayS (fun p_ hp_=>by simp [hp_])); replace T_6:=Wrt.offB T_6 o1 (Mp.awayS (fun p_ hp_=>by simp [hp_])); replace N_9:=NewF.offB N_9 o1 (Mp.awayS (fun p_ hp_=>by simp [hp_]))
 replace T_9:=Wrt.offB T_9 o1 (Mp.awayS (fun p_ hp_=>by simp [hp_])); clear o1 Mp M hIa; have hIa:=hI_; clear hI_
 have M:Mm w0 ((B11,[.int .u8 122,.int .u8 122])::(B7,[.int .u8 97,.int .u8 98,.int .u8 88,.int .u8 89,.int .u8 101])::(B2,[.int .u8 99,.int .u8 100])::(ba5++((obs p9)++((obs p6)++((obs p5)++([]:List (Nat × List Value))))))) w12:=M'.perm (pull0 ([(B11,[.int .u8 122,.int .u8 122]),(B7,[.int .u8 97,.int .u8 98,.int .u8 88,.int .u8 89,.int .u8 101]),(B2,[.int .u8 99,.int .u8 100])]:List (Nat × List Value)) ba5 ((obs p9)++((obs p6)++((obs p5)++([]:List (Nat × List Value)))))).symm
 clear M'; refine xeL ?_; refine xpL (.int .i64 ((1:Nat):Int)) ?_; refine xT ?_; go_upto_region 12 with fail; refine wp_region_list ?_; refine xpL (.pointer (some ⟨Ra,0,none⟩)) ?_; refine actL (w':=w12.alloc (.cells #[.int .u8 97,.int .u8 98,.int .u8 99] 5)) (.slice (some ⟨w12.heap.size,0,none⟩) 3 3) rfl (by kernel_rfl) ?_; simp only [aP,lI,l0,lS]
 refine actL (w':=w12.alloc (.cells #[.int .u8 97,.int .u8 98,.int .u8 99] 5 ((#[.int .u8 97,.int .u8 98,.int .u8 99]:Array Value).size,(#[.int .u8 97,.int .u8 98,.int .u8 99]:Array Value).size+1))) (.slice (some ⟨w12.heap.size,0,none⟩) 3 3) rfl (conv_const 28 5 #[.int .u8 97,.int .u8 98,.int .u8 99] 3 3 _ rfl rfl Try.underlying28 Try.underlying5) ?_; simp only [aP,lI,l0,lS]
 have hlb:=(Below.refl w12.heap.size w12).alloc (xnR _) (.cells #[.int .u8 97,.int .u8 98,.int .u8 99] 5 ((#[.int .u8 97,.int .u8 98,.int .u8 99]:Array Value).size,(#[.int .u8 97,.int .u8 98,.int .u8 99]:Array Value).size+1)); replace hIa:=hK.bel hIa hlb; replace W_5:=NewW.below W_5 hlb; replace N_6:=NewF.below N_6 hlb; replace T_6:=Wrt.below T_6 hlb
 replace N_9:=NewF.below N_9 hlb; replace T_9:=Wrt.below T_9 hlb; replace M:=M.boxC #[.int .u8 97,.int .u8 98,.int .u8 99] 5 (((#[.int .u8 97,.int .u8 98,.int .u8 99]:Array Value)).size,((#[.int .u8 97,.int .u8 98,.int .u8 99]:Array Value)).size+1) w12.heap.size rfl (xnR _); clear hlb
 generalize w12.alloc (.cells #[.int .u8 97,.int .u8 98,.int .u8 99] 5 ((#[.int .u8 97,.int .u8 98,.int .u8 99]:Array Value).size,(#[.int .u8 97,.int .u8 98,.int .u8 99]:Array Value).size+1))=w13 at M hIa W_5 N_6 T_6 N_9 T_9 ⊢; generalize w12.heap.size=B13 at M ⊢
 replace M:Mm w0 ((B13,[.int .u8 97,.int .u8 98,.int .u8 99])::(B11,[.int .u8 122,.int .u8 122])::(B7,[.int .u8 97,.int .u8 98,.int .u8 88,.int .u8 89,.int .u8 101])::(B2,[.int .u8 99,.int .u8 100])::(ba5++((obs p9)++((obs p6)++((obs p5)++([]:List (Nat × List Value))))))) w13:=M
 have Mp:=M.perm (pull0 ([(B13,[.int .u8 97,.int .u8 98,.int .u8 99]),(B11,[.int .u8 122,.int .u8 122]),(B7,[.int .u8 97,.int .u8 98,.int .u8 88,.int .u8 89,.int .u8 101]),(B2,[.int .u8 99,.int .u8 100])]:List (Nat × List Value)) ba5 ((obs p9)++((obs p6)++((obs p5)++([]:List (Nat × List Value))))))
 have key:=hK.tak w0 _ _ xs5 ba5 _ 0 (some ⟨B13,0,none⟩) 3 [97,98,99] xs5_w xs5_l (by unfold i64; decide) (by decide) (by decide) (fun e=>by cases e) (by unfold Byts; decide) hIa Mp (show SrcA _ _ _ _ _ from ⟨(M.src mS [97,98,99] rfl),fun ad e _=>by cases e; exact Mp.beside mS⟩)
 rw [xs5N] at key
 rw [show itk xs5 0 [97,98,99]=xs6 from rfl] at key
 refine xcL key ?_; clear key; rintro e w14 ⟨ba6,rfl,hI_,M',o1⟩; replace W_5:=NewW.offB W_5 o1 (Mp.awayS (fun p_ hp_=>by simp [hp_])); replace N_6:=NewF.offB N_6 o1 (Mp.awayS (fun p_ hp_=>by simp [hp_])); replace T_6:=Wrt.offB T_6 o1 (Mp.awayS (fun p_ hp_=>by simp [hp_])); replace N_9:=NewF.offB N_9 o1 (Mp.awayS (fun p_ hp_=>by simp [hp_]))
 replace T_9:=Wrt.offB T_9 o1 (Mp.awayS (fun p_ hp_=>by simp [hp_])); clear o1 Mp M hIa; have hIa:=hI_; clear hI_
 have M:Mm w0 ((B13,[.int .u8 97,.int .u8 98,.int .u8 99])::(B11,[.int .u8 122,.int .u8 122])::(B7,[.int .u8 97,.int .u8 98,.int .u8 88,.int .u8 89,.int .u8 101])::(B2,[.int .u8 99,.int .u8 100])::(ba6++((obs p9)++((obs p6)++((obs p5)++([]:List (Nat × List Value))))))) w14:=M'.perm (pull0 ([(B13,[.int .u8 97,.int .u8 98,.int .u8 99]),(B11,[.int .u8 122,.int .u8 122]),(B7,[.int .u8 97,.int .u8 98,.int .u8 88,.int .u8 89,.int .u8 101]),(B2,[.int .u8 99,.int .u8 100])]:List (Nat × List Value)) ba6 ((obs p9)++((obs p6)++((obs p5)++([]:List (Nat × List Value)))))).symm
 clear M'; refine xeL ?_; refine xpL (.int .i64 ((0:Nat):Int)) ?_; refine xT ?_
 obtain ⟨ad_5,had_5⟩:=NewW.someE (i:=0) W_5 (by decide)
 go_upto_region 13 with fail; refine wp_region_list ?_; refine xpL (.int .i64 ((2:Nat):Int)) ?_; refine xaL (.bool true) (eqlI .i64 _ _ _ _ _ _ rfl rfl rfl true rfl _) ?_; refine xpL (.bool true) ?_; refine xpL (.int .i64 ((0:Nat):Int)) ?_; refine xaL (.bool true) (eqlI .i64 _ _ _ _ _ _ rfl rfl rfl true rfl _) ?_; refine xpL (.bool true) ?_; refine xpL (.bool true) ?_
 refine xpL (.slice p5 (([(2,4)]:List (Int × Int)).length) c5) ?_; refine readL (.int .i64 ((([(2,4)]:List (Int × Int)).length:Nat):Int)) rfl (lenS _ 39 44 p5 (([(2,4)]:List (Int × Int)).length) c5 rfl Try.underlying39 rfl _) ?_; simp only [aP,lI,l0,lS]; refine xaL (.bool true) (eqlI .i64 _ _ _ _ _ _ rfl rfl rfl true rfl _) ?_; refine xpL (.bool true) ?_; refine xpL (.bool true) ?_
 refine xpL (.slice p5 (([(2,4)]:List (Int × Int)).length) c5) ?_; refine readL (.pointer (some (ad_5.add (0*2)))) rfl (idxR2E ad_5 _ _ 0 _ had_5 (show 0<([(2,4)]:List (Int × Int)).length by decide) _ _ rfl rfl rfl _) ?_; simp only [aP,lI,l0,lS]
 refine xaL (.agg #[.int .i64 2,.int .i64 4]) (loadN 44 _ (ad_5.add (0*2)) [.int .i64 2,.int .i64 4] rfl rfl (fun _=>by kernel_rfl) (fun _=>by kernel_rfl) (NewW.rngE W_5 had_5 (show ([(2,4)]:List (Int × Int))[0]?=some (2,4) from rfl))) ?_; refine xpL (.agg #[.int .i64 2,.int .i64 4]) ?_; refine xaL (.bool true) (eqlRg _ _ _ _ _ _ rfl rfl rfl rfl rfl _) ?_; refine xpL (.bool true) ?_
 refine xpL (.bool true) ?_; refine xpL (.slice p6 (([]:List Int).length) c6) ?_; refine readL (.int .i64 ((([]:List Int).length:Nat):Int)) rfl (lenS _ 28 5 p6 (([]:List Int).length) c6 rfl Try.underlying28 rfl _) ?_; simp only [aP,lI,l0,lS]; refine xaL (.bool true) (eqlI .i64 _ _ _ _ _ _ rfl rfl rfl true rfl _) ?_; refine xpL (.bool true) ?_; refine xpL (.bool true) ?_
 refine xpL (.int .i64 ((3:Nat):Int)) ?_; refine xaL (.bool true) (eqlI .i64 _ _ _ _ _ _ rfl rfl rfl true rfl _) ?_; refine xpL (.bool true) ?_; refine xpL (.bool true) ?_; refine xpL (.slice p9 (([97,98,99]:List Int).length) c9) ?_
 refine readL (.string (txt (([97,98,99]:List Int).length) (bl ([97,98,99])))) rfl (conv_txt 28 5 9 _ rfl Try.underlying28 Try.underlying5 Try.underlying9 p9 (([97,98,99]:List Int).length) c9 (bl ([97,98,99])) rfl _ (NewF.src N_9) (fun e=>by have h1:=(NewF.nilCap N_9) e; have h2:=(NewF.le N_9); omega)) ?_
 simp only [aP,lI,l0,lS]; refine xaL (.bool true) (eqlS _ _ _ _ _ _ rfl rfl rfl rfl _) ?_; refine xpL (.bool true) ?_; refine xpL (.bool true) ?_; refine xpL (.int .i64 ((9:Nat):Int)) ?_; refine xaL (.bool true) (eqlI .i64 _ _ _ _ _ _ rfl rfl rfl true rfl _) ?_; refine xpL (.bool true) ?_; refine xpL (.bool true) ?_; refine xpL (.int .i64 ((1:Nat):Int)) ?_
 refine xaL (.bool true) (eqlI .i64 _ _ _ _ _ _ rfl rfl rfl true rfl _) ?_; refine xpL (.bool true) ?_; refine xpL (.bool true) ?_; refine xpL (.int .i64 ((0:Nat):Int)) ?_; refine xaL (.bool true) (eqlI .i64 _ _ _ _ _ _ rfl rfl rfl true rfl _) ?_; refine xpL (.bool true) ?_; refine xpL (.bool true) ?_; refine xpL (.pointer (some ⟨Ra,0,none⟩)) ?_
 have Mp:=M.perm (pull0 ([(B13,[.int .u8 97,.int .u8 98,.int .u8 99]),(B11,[.int .u8 122,.int .u8 122]),(B7,[.int .u8 97,.int .u8 98,.int .u8 88,.int .u8 89,.int .u8 101]),(B2,[.int .u8 99,.int .u8 100])]:List (Nat × List Value)) ba6 ((obs p9)++((obs p6)++((obs p5)++([]:List (Nat × List Value)))))); have key:=hK.hld w0 _ _ xs6 ba6 _ xs6_w xs6_l hIa Mp; clear Mp
 rw [xs6D] at key
 refine xcL key ?_; clear key; rintro e w15 ⟨rfl,l_⟩; replace M:=M.call l_; replace hIa:=hK.bel hIa l_; replace W_5:=NewW.below W_5 l_; replace N_6:=NewF.below N_6 l_; replace T_6:=Wrt.below T_6 l_; replace N_9:=NewF.below N_9 l_; replace T_9:=Wrt.below T_9 l_; clear l_; refine xeL ?_; refine xaL (.bool true) (eqlI .i64 _ _ _ _ _ _ rfl rfl rfl true rfl _) ?_
 refine xpL (.bool true) ?_; refine xpL (.bool true) ?_; refine xT ?_; have hbel:=M.below; clear M hIa W_5 N_6 T_6 N_9 T_9; go_wp2; go_ret
 exact ⟨rfl,hbel⟩
def kdn (c:Int) (n:Nat):Nat:=(if c<0 then -(c+1) else c).toNat%n
theorem kdn_lt (c:Int) (n:Nat) (h:0<n):kdn c n<n:=Nat.mod_lt _ h
theorem kind19_any (c:Int) (n:Nat) (hn:0<n) (h1:i64 c) (w:World) :
 Calls Try.prog 10 #[.int .i64 c,.int .i64 (n:Int)] w fun e w'=>e=.returned (.int .i64 (kdn c n:Int))∧Below w.heap.size w w':=by
 unfold i64 at h1
 have M:=Mm.init w
 go_enter Try.func10,Try.ntmps10
 go_upto_region 0 with fail; refine wp_region_list ?_; refine xpL (.int .i64 0) ?_; refine xT ?_
 by_cases hc:c<0
 · go_upto_region 1 with fail
   refine wp_region_list ?_; refine xpL (.int .i64 c) ?_; refine xaL (.bool true) (lssI .i64 _ _ _ _ _ _ rfl rfl rfl true (decide_eq_true hc) _) ?_; refine xT ?_; go_upto_region 2 with fail; refine wp_region_list ?_; refine xpL (.int .i64 c) ?_; refine xaL (.int .i64 (c+1)) (addI .i64 _ _ _ _ _ _ _ rfl rfl rfl (by rw [xw6]; omega) _) ?_
   refine xaL (.int .i64 (-(c+1))) (negI .i64 _ _ _ _ rfl rfl (by rw [xw6]; omega) _) ?_; refine xpL (.int .i64 (-(c+1))) ?_; refine xT ?_
   have hrem:(-(c+1)).tmod (n:Int)=((kdn c n:Nat):Int):=by
    unfold kdn
    rw [if_pos hc]
    obtain ⟨m,hm⟩:∃ m:Nat,-(c+1)=(m:Int):=⟨(-(c+1)).toNat,by omega⟩
    rw [hm,Int.toNat_natCast]
    rfl
   go_upto_region 3 with fail; refine wp_region_list ?_; refine xpL (.int .i64 (-(c+1))) ?_; refine xpL (.int .i64 (n:Int)) ?_; refine xaL (.int .i64 ((kdn c n:Nat):Int)) (remI .i64 _ _ _ _ _ _ _ rfl rfl rfl (by omega) hrem _) ?_; refine xpL (.int .i64 ((kdn c n:Nat):Int)) ?_; refine xT ?_; have hB:=M.below; clear M; go_wp2; go_ret
   exact ⟨rfl,hB⟩
 · go_upto_region 1 with fail
   refine wp_region_list ?_; refine xpL (.int .i64 c) ?_; refine xaL (.bool false) (lssI .i64 _ _ _ _ _ _ rfl rfl rfl false (decide_eq_false hc) _) ?_; refine xT ?_
   have hrem:(c).tmod (n:Int)=((kdn c n:Nat):Int):=by
    unfold kdn
    rw [if_neg hc]
    obtain ⟨m,hm⟩:∃ m:Nat,c=(m:Int):=⟨(c).toNat,by omega⟩
    rw [hm,Int.toNat_natCast]
    rfl
   go_upto_region 3 with fail; refine wp_region_list ?_; refine xpL (.int .i64 c) ?_; refine xpL (.int .i64 (n:Int)) ?_; refine xaL (.int .i64 ((kdn c n:Nat):Int)) (remI .i64 _ _ _ _ _ _ _ rfl rfl rfl (by omega) hrem _) ?_; refine xpL (.int .i64 ((kdn c n:Nat):Int)) ?_; refine xT ?_; have hB:=M.below; clear M; go_wp2; go_ret
   exact ⟨rfl,hB⟩
structure Opv where
 k:Int
 n:Int
 b:List Int
def Opc (v:Opv) (bp:Option Addr) (bc:Nat):List Value:=[.int .i64 v.k,.int .i64 v.n,.slice bp v.b.length bc]
structure OpV (w:World) (m:Nat) (v:Opv) (bp:Option Addr) (bc:Nat):Prop where
 k_i:i64 v.k
 n_i:i64 v.n
 b_src:Src w bp v.b.length (bl v.b)
 b_le:v.b.length≤bc
 b_nil:bp=none→bc=0
 b_max:v.b.length≤m
 b_byts:Byts v.b
def OpsIn (w:World) (m:Nat) (sp:Option Addr) (l:List Opv):Prop:=∀ j v,l[j]?=some v→∃ ad bp bc,sp=some ad∧(∀ k x,(Opc v bp bc)[k]?=some x→w.cell? ((ad.add (j*3)).add k)=some x)∧OpV w m v bp bc
theorem cellS19 {w w':World} (l:Below w.heap.size w w') {p:Addr} {u:Value} (h:w.cell? p=some u):w'.cell? p=some u:=by
 rw [l.cell (World.block_lt_of_cell? w _ h)]
 exact h
theorem idxO19 (ad:Addr) (len cap i:Nat) (hi:i<len) {o:Oper} {a:Act} (x y:Operand) (ho:o.op=.indexAddr 22 x y) (hx:a.eval x=.slice (some ad) len cap) (hy:a.eval y=.int .i64 (i:Int)) (w:World):(execOp a.eval o).run Try.prog w=.ok (.value (.pointer (some (ad.add (i*3))))) w :=
 idxSm 22 30 len cap 3 .i64 ad i x y Try.underlying22 (fun _=>by kernel_rfl) hi ho hx hy w
theorem bl_take9 {b:List Int} {k j:Nat} (h:j<k):bl (b.take k) j=bl b j:=by
 unfold bl
 rw [List.getD_eq_getElem?_getD,List.getD_eq_getElem?_getD,List.getElem?_take_of_lt h]
theorem take_byts9 {b:List Int} (h:Byts b) (n:Nat):Byts (b.take n):=fun x hx=>h x (List.mem_of_mem_take hx)
structure Inv19 (m:Nat) (x:Ibx) (q:Nat):Prop where
 w:IbxW x
 sz:x.size=m
 ln:x.dn+ihd x≤1000*q
theorem Inv19.lt {m:Nat} {x:Ibx} {q:Nat} (h:Inv19 m x q) (hq:q≤100):x.dn<10000000:=by have:=h.ln; omega
theorem Inv19.start {z:Int} {m:Nat} (hm:m=(max 1 (min z 1048576)).toNat):Inv19 m (inew z) 0:=⟨inew_w z,hm.symm,by
 have h1:ihd (inew z)=0:=by
  unfold ihd
  have:icnt (inew z).is (ilim (inew z))=0:=icnt_none fun _ _=>rfl
  rw [this]
  exact Nat.zero_sub _
 rw [h1]
 exact xnR 0⟩
theorem Inv19.tk {m:Nat} {x:Ibx} {q:Nat} (h:Inv19 m x q) (p:Int) {b:List Int} (hb:Byts b) (hl:b.length≤1000):Inv19 m (itk x p b) (q+1) :=
 ⟨itk_w h.w p hb,h.sz,by
  have h1:=ihd_take h.w p b; have h2:=itN_le x p b.length; have h3:=h.ln
  show x.dn+ihd (itk x p b)≤_
  omega⟩
theorem Inv19.rd {m:Nat} {x:Ibx} {q:Nat} (h:Inv19 m x q) (n:Int):Inv19 m (irx x n) (q+1) :=
 ⟨irx_w h.w n,h.sz,by
  have h1:=ihd_read h.w n; have h3:=h.ln
  show x.dn+irN x n+ihd (irx x n)≤_
  omega⟩
theorem law_InboxBounds {I:InI} (hK:InOK I) (z:Int) (hz:i64 z) (sp:Option Addr) (cap:Nat) (l:List Opv) (_maxl:l.length≤140737488351232) (w0:World) (hin:OpsIn w0 140737488351232 sp l) :
 Calls Try.prog 5 #[.int .i64 z,.slice sp l.length cap] w0 fun e w'=>e=.returned (.bool true)∧Below w0.heap.size w0 w':=by
 obtain ⟨mz,hmz⟩:∃ mz:Nat,mz=(max 1 (min z 1048576)).toNat:=⟨_,rfl⟩
 have M:=Mm.init w0
 go_enter Try.func5,Try.ntmps5
 go_upto_region 0 with fail; refine wp_region_list ?_; refine xpL (.bool false) ?_; refine xT ?_; go_upto_region 1 with fail; refine wp_region_list ?_; have key:=shown19_any hK w0; refine xcL key ?_; clear key; rintro e w1 ⟨rfl,l_⟩; replace M:=M.call l_; clear l_; refine xeL ?_; refine xpL (.bool true) ?_; refine xT ?_; go_upto_region 2 with fail; refine wp_region_list ?_
 refine xpL (.int .i64 z) ?_; have key:=hK.new w0 _ _ z hz M; refine xcL key ?_; clear key; rintro e w2 ⟨v_,ba0,rfl,hIa,M',l_⟩
 obtain ⟨Ra,rfl⟩:=hK.ptr _ _ _ _ hIa
 clear M; have M:=M'.perm (pull0 ([]:List (Nat × List Value)) ba0 ([]:List (Nat × List Value))).symm; clear M'; clear l_
 replace M:Mm w0 ((ba0++([]:List (Nat × List Value)))) w2:=M
 refine xeL ?_; refine xpL (.pointer (some ⟨Ra,0,none⟩)) ?_; refine xT ?_; go_upto_region 3 with fail; refine wp_region_list ?_; refine xpL (.bool true) ?_; refine xpL (.bool false) ?_; refine xpL (.bool false) ?_; refine xpL (.pointer (some ⟨Ra,0,none⟩)) ?_; refine xpL (.bool false) ?_; refine xpL (.bool false) ?_; refine xT ?_; go_upto_region 5 with fail; refine wp_region_list ?_
 refine xpL (.int .i64 z) ?_; refine xaL (.int .i64 (min z 1048576)) (minI .i64 .i64 _ _ _ _ _ _ _ rfl rfl rfl (by split <;> omega) _) ?_; refine xaL (.int .i64 ((mz:Nat):Int)) (maxI .i64 .i64 _ _ _ _ _ _ _ rfl rfl rfl (by split <;> omega) _) ?_; refine xpL (.int .i64 ((mz:Nat):Int)) ?_; refine xT ?_; go_upto_region 6 with fail; refine wp_region_list ?_; refine xpL (.int .i64 0) ?_
 refine xT ?_; go_upto_region 7 with fail; refine wp_region_list ?_; refine xpL (.int .i64 0) ?_; refine xT ?_; have HI:=show Hid _ from (show I w2 (.pointer (some ⟨Ra,0,none⟩)) (inew z) ba0∧Mm w0 (ba0++([]:List (Nat × List Value))) w2 from ⟨hIa,M⟩); clear M hIa; go_wp2
 go_loopw [8,9] (fun l_ i w'=>∃ (q la:Nat) (x:Ibx) (ga:List (Nat × List Value)),q≤60∧q≤l.length∧l_=.int .i64 (la:Int)∧i=.int .i64 (q:Int)∧Inv19 mz x q∧la≤ilim x∧I w' (.pointer (some ⟨Ra,0,none⟩)) x ga∧Mm w0 (ga++([]:List (Nat × List Value))) w') (fun _ i _=>l.length-(intOf i).toNat)
 case atStart=>exact ⟨0,0,_,_,by omega,by omega,rfl,rfl,Inv19.start hmz,Nat.zero_le _,HI.out⟩
 case round =>
  clear HI
  obtain ⟨q,la,x,ga,hq,hq2,rfl,rfl,hJ,hla,hIa,M⟩:=hrel
  have hlm:ilim x=x.dn+x.size:=rfl
  go_upto_region 8 with fail; refine wp_region_list ?_; refine xpL (.int .i64 (q:Int)) ?_; refine xpL (.slice sp l.length cap) ?_; refine xaL (.int .i64 ((l.length:Nat):Int)) (lenS _ 22 30 sp l.length cap rfl Try.underlying22 rfl _) ?_
  obtain ⟨b1,hb1⟩:∃ y_,y_=(decide ((q:Int)<((l.length:Nat):Int))):=⟨_,rfl⟩
  refine xaL (.bool b1) (lssI .i64 _ _ _ _ _ _ rfl rfl rfl b1 hb1.symm _) ?_; refine xpL (.bool b1) ?_
  refine mayL (b1) (.int .i64 (q:Int)) ((bif b1 then (.int .i64 (q:Int)) else undef)) (by cases b1 <;> rfl) (by cases b1 <;> rfl) (fun hc=>by cases b1 <;> first | (cases hc; done) | kernel_rfl) ?_
  simp only [aP,lI,l0,lS]
  obtain ⟨b2,hb2⟩:∃ y_,y_=(decide ((q:Int)<60)):=⟨_,rfl⟩
  refine mayL (b1) (.bool b2) ((bif b1 then (.bool b2) else undef)) (by cases b1 <;> rfl) (by cases b1 <;> rfl) (fun hc=>by cases b1 <;> first | (cases hc; done) | exact (lssI .i64 _ _ _ _ _ _ rfl rfl rfl b2 hb2.symm _)) ?_
  simp only [aP,lI,l0,lS]
  obtain ⟨b3,hb3⟩:∃ y_,y_=(b1&&b2):=⟨_,rfl⟩
  refine xaL (.bool b3) (by subst hb3; cases b1 <;> rfl) ?_; refine xT ?_
  cases b3 with
  | true =>
    have hlt_l:q<l.length∧q<60:=by
     simp only [hb1,hb2] at hb3
     simp at hb3
     omega
    try clear hb1
    try clear hb2
    try clear hb3
    obtain ⟨hlt_l,hlt2⟩:=hlt_l
    obtain ⟨v,hv⟩:∃ v,l[q]?=some v:=⟨_,List.getElem?_eq_getElem hlt_l⟩
    obtain ⟨ad,bp,bc,rfl,hoc,hov⟩:=hin q v hv
    go_upto_region 10 with fail; refine wp_region_list ?_; refine xpL (.slice (some ad) l.length cap) ?_; refine xpL (.int .i64 (q:Int)) ?_; refine readL (.pointer (some (ad.add (q*3)))) rfl (idxO19 ad _ _ q hlt_l _ _ rfl rfl rfl _) ?_; simp only [aP,lI,l0,lS]
    refine xaL (.agg #[.int .i64 v.k,.int .i64 v.n,.slice bp v.b.length bc]) (loadN 30 _ (ad.add (q*3)) [.int .i64 v.k,.int .i64 v.n,.slice bp v.b.length bc] rfl rfl (fun _=>by kernel_rfl) (fun _=>by kernel_rfl) (fun k_ x_ hx_=>cellS19 M.below (hoc k_ x_ hx_))) ?_; have hlb:=(Below.refl wr.heap.size wr).alloc (xnR _) (.cells #[.int .i64 0,.int .i64 0,.slice none 0 0] 30)
    refine actL (w':=wr.alloc (.cells #[.int .i64 0,.int .i64 0,.slice none 0 0] 30)) (.pointer (some ⟨wr.heap.size,0,none⟩)) rfl (by kernel_rfl) ?_; simp only [aP,lI,l0,lS]; replace hIa:=hK.bel hIa hlb; replace M:=M.box #[.int .i64 0,.int .i64 0,.slice none 0 0] 30 wr.heap.size rfl; clear hlb
    generalize wr.alloc (.cells #[.int .i64 0,.int .i64 0,.slice none 0 0] 30)=w3 at M hIa ⊢; generalize wr.heap.size=B3 at M ⊢
    replace M:Mm w0 ((B3,[.int .i64 0,.int .i64 0,.slice none 0 0])::(ga++([]:List (Nat × List Value)))) w3:=M
    refine skipOpL rfl (storeP [.int .i64 v.k,.int .i64 v.n,.slice bp v.b.length bc] B3 0 30 _ _ rfl rfl rfl (M.thereP mS 0 3 (Nat.le_of_ble_eq_true rfl)) (by kernel_rfl) (List.all_eq_true.1 (rfl:([.int .i64 v.k,.int .i64 v.n,.slice bp v.b.length bc]:List Value).all (fun u=>u.oneCell')=true))) ?_; simp only [Act.put]
    replace M:=M.setPart [.int .i64 v.k,.int .i64 v.n,.slice bp v.b.length bc] 0 (Nat.le_of_ble_eq_true rfl); replace hIa:=hK.off _ _ _ _ _ _ hIa ((Off.refl [B3] _).setAll (b:=B3) mS 0 [.int .i64 v.k,.int .i64 v.n,.slice bp v.b.length bc]) (fun b_ hb_=>by obtain rfl:=xm1 hb_; exact M.awayC (fun p_ hp_=>by simp [hp_]))
    generalize w3.setCells B3 0 [.int .i64 v.k,.int .i64 v.n,.slice bp v.b.length bc]=w4 at M hIa ⊢
    replace M:Mm w0 ((B3,[.int .i64 v.k,.int .i64 v.n,.slice bp v.b.length bc])::(ga++([]:List (Nat × List Value)))) w4:=M
    refine xT ?_; go_upto_region 11 with fail; refine wp_region_list ?_; refine xpL (.pointer (some ⟨B3,0,none⟩)) ?_; refine xaL (.int .i64 v.k) (load1 3 _ ⟨B3,0,none⟩ _ rfl rfl (fun _=>by kernel_rfl) (M.get mS 0 _ rfl)) ?_; have key:=kind19_any v.k 4 (by decide) hov.k_i w4; refine xcL key ?_; clear key; rintro e w5 ⟨rfl,l_⟩; replace M:=M.call l_; replace hIa:=hK.bel hIa l_; clear l_
    refine xeL ?_; have hkd:=kdn_lt v.k 4 (by decide); generalize kdn v.k 4=kz at hkd ⊢; refine xaL (.bool (decide (kz=2))) (eqlI .i64 _ _ _ _ _ _ rfl rfl rfl (decide (kz=2)) (by rw [Bool.eq_iff_iff,beq_iff_eq,decide_eq_true_iff]; omega) _) ?_; refine xT ?_
    by_cases hk2:kz=2
    · rw [decide_eq_true hk2]
      go_upto_region 12 with fail; refine wp_region_list ?_; refine xpL (.pointer (some ⟨Ra,0,none⟩)) ?_; refine xpL (.pointer (some ⟨B3,1,none⟩)) ?_; refine xaL (.int .i64 v.n) (load1 3 _ ⟨B3,1,none⟩ _ rfl rfl (fun _=>by kernel_rfl) (M.get mS 1 _ rfl)) ?_
      have Mp:=M.perm (pull0 ([(B3,[.int .i64 v.k,.int .i64 v.n,.slice bp v.b.length bc])]:List (Nat × List Value)) ga ([]:List (Nat × List Value))); have key:=hK.red w0 _ _ x ga _ v.n hJ.w (hJ.lt (by omega)) hov.n_i hIa Mp; refine xcL key ?_; clear key; rintro e w6 ⟨p6,c6,ba1,rfl,N_6,T_6,hI_,M',o1⟩; clear o1 Mp M hIa; have hIa:=hI_; clear hI_
      have M:Mm w0 ((B3,[.int .i64 v.k,.int .i64 v.n,.slice bp v.b.length bc])::(ba1++((obs p6)++([]:List (Nat × List Value))))) w6:=M'.perm (pullY ([(B3,[.int .i64 v.k,.int .i64 v.n,.slice bp v.b.length bc])]:List (Nat × List Value)) ba1 (obs p6) ([]:List (Nat × List Value)))
      clear M'; refine xeL ?_
      obtain ⟨bs6,N_6⟩:∃ b_,NewF w6 b_ (irB x v.n:List Int).length (bl (irB x v.n)) (.slice p6 (irB x v.n:List Int).length c6):=⟨_,N_6⟩
      have hJ2:=hJ.rd v.n; have hrd:=ihd_read hJ.w v.n
      have hrl:(irB x v.n).length=min (ihr x-x.dn) (max v.n 0).toNat:=irB_len x v.n
      have hrn:irN x v.n=min (ihr x-x.dn) (max v.n 0).toNat:=rfl
      refine xT ?_; have hsz:=hJ2.sz; have hl2:=hJ2.ln; have hhd:=ihd_le (irx x v.n); have hh1:=ihr_dn hJ2.w; have hh2:=ihr_le (irx x v.n)
      have hlm2:ilim (irx x v.n)=(irx x v.n).dn+(irx x v.n).size:=rfl
      have hla2:la≤ilim (irx x v.n):=by
       have h_:(irx x v.n).dn=x.dn+irN x v.n∧(irx x v.n).size=x.size:=⟨rfl,rfl⟩
       omega
      replace M:Mm w0 ((B3,[.int .i64 v.k,.int .i64 v.n,.slice bp v.b.length bc])::(ba1++([]:List (Nat × List Value)))) w6:=M.sub _ (List.cons_sublist_cons.2 ((List.Sublist.refl _).append (List.sublist_append_right _ _)))
      clear N_6 T_6; go_upto_region 19 with fail; refine wp_region_list ?_; refine xpL (.pointer (some ⟨Ra,0,none⟩)) ?_; have Mp:=M.perm (pull0 ([(B3,[.int .i64 v.k,.int .i64 v.n,.slice bp v.b.length bc])]:List (Nat × List Value)) ba1 ([]:List (Nat × List Value))); have key:=hK.hld w0 _ _ (irx x v.n) ba1 _ hJ2.w (hJ2.lt (by omega)) hIa Mp; clear Mp; refine xcL key ?_; clear key
      rintro e w7 ⟨rfl,l_⟩; replace M:=M.call l_; replace hIa:=hK.bel hIa l_; clear l_; refine xeL ?_; refine xpL (.int .i64 ((mz:Nat):Int)) ?_; refine xaL (.bool false) (gtrI .i64 _ _ _ _ _ _ rfl rfl rfl false (decide_eq_false (by omega)) _) ?_; refine xpL (.bool false) ?_; refine xpL (.pointer (some ⟨Ra,0,none⟩)) ?_
      have Mp:=M.perm (pull0 ([(B3,[.int .i64 v.k,.int .i64 v.n,.slice bp v.b.length bc])]:List (Nat × List Value)) ba1 ([]:List (Nat × List Value))); have key:=hK.lim w0 _ _ (irx x v.n) ba1 _ hJ2.w (hJ2.lt (by omega)) hIa Mp; clear Mp; refine xcL key ?_; clear key; rintro e w8 ⟨rfl,l_⟩; replace M:=M.call l_; replace hIa:=hK.bel hIa l_; clear l_; refine xeL ?_
      refine xpL (.pointer (some ⟨Ra,0,none⟩)) ?_; have Mp:=M.perm (pull0 ([(B3,[.int .i64 v.k,.int .i64 v.n,.slice bp v.b.length bc])]:List (Nat × List Value)) ba1 ([]:List (Nat × List Value))); have key:=hK.don w0 _ _ (irx x v.n) ba1 _ hJ2.w (hJ2.lt (by omega)) hIa Mp; clear Mp; refine xcL key ?_; clear key; rintro e w9 ⟨rfl,l_⟩; replace M:=M.call l_
      replace hIa:=hK.bel hIa l_; clear l_; refine xeL ?_; refine xpL (.int .i64 ((mz:Nat):Int)) ?_; refine readL (.int .i64 ((ilim (irx x v.n):Nat):Int)) rfl (addI .i64 _ _ _ _ _ _ _ rfl rfl rfl (by rw [xw6]; omega) _) ?_; simp only [aP,lI,l0,lS]; refine xaL (.bool false) (neqI .i64 _ _ _ _ _ _ rfl rfl rfl false (bne_self_eq_false _) _) ?_; refine xpL (.bool false) ?_
      refine xpL (.bool false) ?_; refine xpL (.pointer (some ⟨Ra,0,none⟩)) ?_; have Mp:=M.perm (pull0 ([(B3,[.int .i64 v.k,.int .i64 v.n,.slice bp v.b.length bc])]:List (Nat × List Value)) ba1 ([]:List (Nat × List Value))); have key:=hK.lim w0 _ _ (irx x v.n) ba1 _ hJ2.w (hJ2.lt (by omega)) hIa Mp; clear Mp; refine xcL key ?_; clear key; rintro e w10 ⟨rfl,l_⟩
      replace M:=M.call l_; replace hIa:=hK.bel hIa l_; clear l_; refine xeL ?_; refine xpL (.int .i64 ((la:Nat):Int)) ?_; refine xaL (.bool false) (lssI .i64 _ _ _ _ _ _ rfl rfl rfl false (decide_eq_false (by omega)) _) ?_; refine xpL (.bool false) ?_; refine xpL (.bool false) ?_; refine xpL (.pointer (some ⟨Ra,0,none⟩)) ?_
      have Mp:=M.perm (pull0 ([(B3,[.int .i64 v.k,.int .i64 v.n,.slice bp v.b.length bc])]:List (Nat × List Value)) ba1 ([]:List (Nat × List Value))); have key:=hK.her w0 _ _ (irx x v.n) ba1 _ hJ2.w (hJ2.lt (by omega)) hIa Mp; clear Mp; refine xcL key ?_; clear key; rintro e w11 ⟨rfl,l_⟩; replace M:=M.call l_; replace hIa:=hK.bel hIa l_; clear l_; refine xeL ?_
      refine xpL (.pointer (some ⟨Ra,0,none⟩)) ?_; have Mp:=M.perm (pull0 ([(B3,[.int .i64 v.k,.int .i64 v.n,.slice bp v.b.length bc])]:List (Nat × List Value)) ba1 ([]:List (Nat × List Value))); have key:=hK.don w0 _ _ (irx x v.n) ba1 _ hJ2.w (hJ2.lt (by omega)) hIa Mp; clear Mp; refine xcL key ?_; clear key; rintro e w12 ⟨rfl,l_⟩; replace M:=M.call l_
      replace hIa:=hK.bel hIa l_; clear l_; refine xeL ?_; refine xaL (.bool false) (lssI .i64 _ _ _ _ _ _ rfl rfl rfl false (decide_eq_false (by omega)) _) ?_; refine xpL (.bool false) ?_; refine xpL (.bool false) ?_; refine xpL (.pointer (some ⟨Ra,0,none⟩)) ?_
      have Mp:=M.perm (pull0 ([(B3,[.int .i64 v.k,.int .i64 v.n,.slice bp v.b.length bc])]:List (Nat × List Value)) ba1 ([]:List (Nat × List Value))); have key:=hK.her w0 _ _ (irx x v.n) ba1 _ hJ2.w (hJ2.lt (by omega)) hIa Mp; clear Mp; refine xcL key ?_; clear key; rintro e w13 ⟨rfl,l_⟩; replace M:=M.call l_; replace hIa:=hK.bel hIa l_; clear l_; refine xeL ?_
      refine xpL (.pointer (some ⟨Ra,0,none⟩)) ?_; have Mp:=M.perm (pull0 ([(B3,[.int .i64 v.k,.int .i64 v.n,.slice bp v.b.length bc])]:List (Nat × List Value)) ba1 ([]:List (Nat × List Value))); have key:=hK.lim w0 _ _ (irx x v.n) ba1 _ hJ2.w (hJ2.lt (by omega)) hIa Mp; clear Mp; refine xcL key ?_; clear key; rintro e w14 ⟨rfl,l_⟩; replace M:=M.call l_
      replace hIa:=hK.bel hIa l_; clear l_; refine xeL ?_; refine xaL (.bool false) (gtrI .i64 _ _ _ _ _ _ rfl rfl rfl false (decide_eq_false (by omega)) _) ?_; refine xpL (.bool false) ?_; refine xT ?_; go_upto_region 21 with fail; refine wp_region_list ?_; refine xpL (.pointer (some ⟨Ra,0,none⟩)) ?_
      have Mp:=M.perm (pull0 ([(B3,[.int .i64 v.k,.int .i64 v.n,.slice bp v.b.length bc])]:List (Nat × List Value)) ba1 ([]:List (Nat × List Value))); have key:=hK.lim w0 _ _ (irx x v.n) ba1 _ hJ2.w (hJ2.lt (by omega)) hIa Mp; clear Mp; refine xcL key ?_; clear key; rintro e w15 ⟨rfl,l_⟩; replace M:=M.call l_; replace hIa:=hK.bel hIa l_; clear l_; refine xeL ?_
      refine xpL (.int .i64 ((ilim (irx x v.n):Nat):Int)) ?_; refine xT ?_; have HS:=show Hid _ from (show I w15 (.pointer (some ⟨Ra,0,none⟩)) (irx x v.n) ba1∧Mm w0 (ba1++([]:List (Nat × List Value))) w15 from ⟨hIa,M.tail⟩); have hJ3:=show Hid _ from hJ2; clear M hIa hJ2; go_wp2
      go_roundw
      case rel=>exact ⟨q+1,_,irx x v.n,_,by omega,by omega,rfl,by go_num,hJ3.out,xnR _,HS.out⟩
      case measure=>simp [intOf]; omega
    · rw [decide_eq_false hk2]
      go_upto_region 13 with fail; refine wp_region_list ?_; refine xpL (.pointer (some ⟨B3,2,none⟩)) ?_; refine xaL (.slice bp v.b.length bc) (load1 28 _ ⟨B3,2,none⟩ _ rfl rfl (fun _=>by kernel_rfl) (M.get mS 2 _ rfl)) ?_; refine xpL (.slice bp v.b.length bc) ?_; refine xT ?_; go_upto_region 14 with fail; refine wp_region_list ?_; refine xpL (.slice bp v.b.length bc) ?_
      refine xaL (.int .i64 ((v.b.length:Nat):Int)) (lenS _ 28 5 bp v.b.length bc rfl Try.underlying28 rfl _) ?_; refine xaL (.bool (decide (1000<v.b.length))) (gtrI .i64 _ _ _ _ _ _ rfl rfl rfl (decide (1000<v.b.length)) (by rw [Bool.eq_iff_iff,decide_eq_true_iff,decide_eq_true_iff]; omega) _) ?_; refine xT ?_
      go_upto_if 51 with fail
      go_cut [11] (fun v_ wx=>∃ (spB:Option Addr) (B:List Int) (capB:Nat),v_=.slice spB B.length capB∧B.length≤1000∧Byts B∧Src w0 spB B.length (bl B)∧B.length≤capB∧(spB=none→capB=0)∧w5=wx)
      case first =>
       by_cases hlong:1000<v.b.length
       · rw [decide_eq_true hlong]
         have hBl0:(v.b.take 1000).length=1000:=by rw [List.length_take]; omega
         have hble:=hov.b_le
         obtain ⟨spc,hcut,hsrc,hnil2⟩:=cut_hiN (P:=Try.prog) (t:=28) Try.underlying28 (fun w=>by kernel_rfl) bp v.b.length bc 1000 (by omega) hov.b_le hov.b_nil
         have srcB:Src w0 spc (v.b.take 1000).length (bl (v.b.take 1000)):=fun j hj=>by
          have h_:=hsrc _ _ hov.b_src j (by omega)
          rw [bl_take9 (show j<1000 by omega)]
          exact h_
         go_upto_region 15 with fail; refine wp_region_list ?_; refine xpL (.slice bp v.b.length bc) ?_; refine xaL (.slice spc 1000 bc) (cutHi 28 _ _ _ _ _ rfl rfl rfl (hcut _)) ?_; refine xpL (.slice spc 1000 bc) ?_; refine xT ?_; have HS:=show Hid _ from (And.intro hBl0 (And.intro srcB hnil2)); clear hcut hsrc hBl0 srcB hnil2; go_wp2
         go_meet
         exact ⟨spc,v.b.take 1000,bc,by rw [HS.out.1],by rw [HS.out.1]; exact xnR _,take_byts9 hov.b_byts _,HS.out.2.1,by rw [HS.out.1]; omega,HS.out.2.2,rfl⟩
       · rw [decide_eq_false hlong]
         go_wp2
         go_meet
         exact ⟨bp,v.b,bc,rfl,by omega,hov.b_byts,hov.b_src,hov.b_le,hov.b_nil,rfl⟩
      case rest =>
       obtain ⟨spB,B,capB,rfl,hBl,hB,srcB,hble,hnilB,rfl⟩:=hcut
       go_upto_region 16 with fail; refine wp_region_list ?_; refine xpL (.pointer (some ⟨Ra,0,none⟩)) ?_; refine xpL (.pointer (some ⟨B3,1,none⟩)) ?_; refine xaL (.int .i64 v.n) (load1 3 _ ⟨B3,1,none⟩ _ rfl rfl (fun _=>by kernel_rfl) (M.get mS 1 _ rfl)) ?_; refine xpL (.slice spB B.length capB) ?_
       have Mp:=M.perm (pull0 ([(B3,[.int .i64 v.k,.int .i64 v.n,.slice bp v.b.length bc])]:List (Nat × List Value)) ga ([]:List (Nat × List Value))); have key:=hK.tak w0 _ _ x ga _ v.n spB capB B hJ.w (hJ.lt (by omega)) hov.n_i (by omega) hble hnilB hB hIa Mp ((SrcA.of_old srcB Mp.los).off (Off.of_below Mp.below)); refine xcL key ?_; clear key; rintro e w16 ⟨ba1,rfl,hI_,M',o1⟩
       clear o1 Mp M hIa; have hIa:=hI_; clear hI_
       have M:Mm w0 ((B3,[.int .i64 v.k,.int .i64 v.n,.slice bp v.b.length bc])::(ba1++([]:List (Nat × List Value)))) w16:=M'.perm (pull0 ([(B3,[.int .i64 v.k,.int .i64 v.n,.slice bp v.b.length bc])]:List (Nat × List Value)) ba1 ([]:List (Nat × List Value))).symm
       clear M'; refine xeL ?_; have hJ2:=hJ.tk v.n hB hBl; have htk:=ihd_take hJ.w v.n B; have hnw:=itN_le x v.n B.length; refine xpL (.int .i64 ((itN x v.n B.length:Nat):Int)) ?_; refine xT ?_; go_upto_region 17 with fail; refine wp_region_list ?_; refine xpL (.int .i64 ((itN x v.n B.length:Nat):Int)) ?_
       refine xaL (.bool false) (lssI .i64 _ _ _ _ _ _ rfl rfl rfl false (decide_eq_false (by omega)) _) ?_; refine xpL (.bool false) ?_; refine xpL (.int .i64 ((itN x v.n B.length:Nat):Int)) ?_; refine xpL (.slice spB B.length capB) ?_; refine xaL (.int .i64 ((B.length:Nat):Int)) (lenS _ 28 5 spB B.length capB rfl Try.underlying28 rfl _) ?_
       refine xaL (.bool false) (gtrI .i64 _ _ _ _ _ _ rfl rfl rfl false (decide_eq_false (by omega)) _) ?_; refine xpL (.bool false) ?_; refine xT ?_; have hsz:=hJ2.sz; have hl2:=hJ2.ln; have hhd:=ihd_le (itk x v.n B); have hh1:=ihr_dn hJ2.w; have hh2:=ihr_le (itk x v.n B)
       have hlm2:ilim (itk x v.n B)=(itk x v.n B).dn+(itk x v.n B).size:=rfl
       have hla2:la≤ilim (itk x v.n B):=by
        have h_:(itk x v.n B).dn=x.dn∧(itk x v.n B).size=x.size:=⟨rfl,rfl⟩
        omega
       go_upto_region 19 with fail; refine wp_region_list ?_; refine xpL (.pointer (some ⟨Ra,0,none⟩)) ?_; have Mp:=M.perm (pull0 ([(B3,[.int .i64 v.k,.int .i64 v.n,.slice bp v.b.length bc])]:List (Nat × List Value)) ba1 ([]:List (Nat × List Value))); have key:=hK.hld w0 _ _ (itk x v.n B) ba1 _ hJ2.w (hJ2.lt (by omega)) hIa Mp; clear Mp; refine xcL key ?_; clear key
       rintro e w17 ⟨rfl,l_⟩; replace M:=M.call l_; replace hIa:=hK.bel hIa l_; clear l_; refine xeL ?_; refine xpL (.int .i64 ((mz:Nat):Int)) ?_; refine xaL (.bool false) (gtrI .i64 _ _ _ _ _ _ rfl rfl rfl false (decide_eq_false (by omega)) _) ?_; refine xpL (.bool false) ?_; refine xpL (.pointer (some ⟨Ra,0,none⟩)) ?_
       have Mp:=M.perm (pull0 ([(B3,[.int .i64 v.k,.int .i64 v.n,.slice bp v.b.length bc])]:List (Nat × List Value)) ba1 ([]:List (Nat × List Value))); have key:=hK.lim w0 _ _ (itk x v.n B) ba1 _ hJ2.w (hJ2.lt (by omega)) hIa Mp; clear Mp; refine xcL key ?_; clear key; rintro e w18 ⟨rfl,l_⟩; replace M:=M.call l_; replace hIa:=hK.bel hIa l_; clear l_; refine xeL ?_
       refine xpL (.pointer (some ⟨Ra,0,none⟩)) ?_; have Mp:=M.perm (pull0 ([(B3,[.int .i64 v.k,.int .i64 v.n,.slice bp v.b.length bc])]:List (Nat × List Value)) ba1 ([]:List (Nat × List Value))); have key:=hK.don w0 _ _ (itk x v.n B) ba1 _ hJ2.w (hJ2.lt (by omega)) hIa Mp; clear Mp; refine xcL key ?_; clear key; rintro e w19 ⟨rfl,l_⟩; replace M:=M.call l_
       replace hIa:=hK.bel hIa l_; clear l_; refine xeL ?_; refine xpL (.int .i64 ((mz:Nat):Int)) ?_; refine readL (.int .i64 ((ilim (itk x v.n B):Nat):Int)) rfl (addI .i64 _ _ _ _ _ _ _ rfl rfl rfl (by rw [xw6]; omega) _) ?_; simp only [aP,lI,l0,lS]; refine xaL (.bool false) (neqI .i64 _ _ _ _ _ _ rfl rfl rfl false (bne_self_eq_false _) _) ?_; refine xpL (.bool false) ?_
       refine xpL (.bool false) ?_; refine xpL (.pointer (some ⟨Ra,0,none⟩)) ?_; have Mp:=M.perm (pull0 ([(B3,[.int .i64 v.k,.int .i64 v.n,.slice bp v.b.length bc])]:List (Nat × List Value)) ba1 ([]:List (Nat × List Value))); have key:=hK.lim w0 _ _ (itk x v.n B) ba1 _ hJ2.w (hJ2.lt (by omega)) hIa Mp; clear Mp; refine xcL key ?_; clear key; rintro e w20 ⟨rfl,l_⟩
       replace M:=M.call l_; replace hIa:=hK.bel hIa l_; clear l_; refine xeL ?_; refine xpL (.int .i64 ((la:Nat):Int)) ?_; refine xaL (.bool false) (lssI .i64 _ _ _ _ _ _ rfl rfl rfl false (decide_eq_false (by omega)) _) ?_; refine xpL (.bool false) ?_; refine xpL (.bool false) ?_; refine xpL (.pointer (some ⟨Ra,0,none⟩)) ?_
       have Mp:=M.perm (pull0 ([(B3,[.int .i64 v.k,.int .i64 v.n,.slice bp v.b.length bc])]:List (Nat × List Value)) ba1 ([]:List (Nat × List Value))); have key:=hK.her w0 _ _ (itk x v.n B) ba1 _ hJ2.w (hJ2.lt (by omega)) hIa Mp; clear Mp; refine xcL key ?_; clear key; rintro e w21 ⟨rfl,l_⟩; replace M:=M.call l_; replace hIa:=hK.bel hIa l_; clear l_; refine xeL ?_
       refine xpL (.pointer (some ⟨Ra,0,none⟩)) ?_; have Mp:=M.perm (pull0 ([(B3,[.int .i64 v.k,.int .i64 v.n,.slice bp v.b.length bc])]:List (Nat × List Value)) ba1 ([]:List (Nat × List Value))); have key:=hK.don w0 _ _ (itk x v.n B) ba1 _ hJ2.w (hJ2.lt (by omega)) hIa Mp; clear Mp; refine xcL key ?_; clear key; rintro e w22 ⟨rfl,l_⟩; replace M:=M.call l_
       replace hIa:=hK.bel hIa l_; clear l_; refine xeL ?_; refine xaL (.bool false) (lssI .i64 _ _ _ _ _ _ rfl rfl rfl false (decide_eq_false (by omega)) _) ?_; refine xpL (.bool false) ?_; refine xpL (.bool false) ?_; refine xpL (.pointer (some ⟨Ra,0,none⟩)) ?_
       have Mp:=M.perm (pull0 ([(B3,[.int .i64 v.k,.int .i64 v.n,.slice bp v.b.length bc])]:List (Nat × List Value)) ba1 ([]:List (Nat × List Value))); have key:=hK.her w0 _ _ (itk x v.n B) ba1 _ hJ2.w (hJ2.lt (by omega)) hIa Mp; clear Mp; refine xcL key ?_; clear key; rintro e w23 ⟨rfl,l_⟩; replace M:=M.call l_; replace hIa:=hK.bel hIa l_; clear l_; refine xeL ?_
       refine xpL (.pointer (some ⟨Ra,0,none⟩)) ?_; have Mp:=M.perm (pull0 ([(B3,[.int .i64 v.k,.int .i64 v.n,.slice bp v.b.length bc])]:List (Nat × List Value)) ba1 ([]:List (Nat × List Value))); have key:=hK.lim w0 _ _ (itk x v.n B) ba1 _ hJ2.w (hJ2.lt (by omega)) hIa Mp; clear Mp; refine xcL key ?_; clear key; rintro e w24 ⟨rfl,l_⟩; replace M:=M.call l_
       replace hIa:=hK.bel hIa l_; clear l_; refine xeL ?_; refine xaL (.bool false) (gtrI .i64 _ _ _ _ _ _ rfl rfl rfl false (decide_eq_false (by omega)) _) ?_; refine xpL (.bool false) ?_; refine xT ?_; go_upto_region 21 with fail; refine wp_region_list ?_; refine xpL (.pointer (some ⟨Ra,0,none⟩)) ?_
       have Mp:=M.perm (pull0 ([(B3,[.int .i64 v.k,.int .i64 v.n,.slice bp v.b.length bc])]:List (Nat × List Value)) ba1 ([]:List (Nat × List Value))); have key:=hK.lim w0 _ _ (itk x v.n B) ba1 _ hJ2.w (hJ2.lt (by omega)) hIa Mp; clear Mp; refine xcL key ?_; clear key; rintro e w25 ⟨rfl,l_⟩; replace M:=M.call l_; replace hIa:=hK.bel hIa l_; clear l_; refine xeL ?_
       refine xpL (.int .i64 ((ilim (itk x v.n B):Nat):Int)) ?_; refine xT ?_; have HS:=show Hid _ from (show I w25 (.pointer (some ⟨Ra,0,none⟩)) (itk x v.n B) ba1∧Mm w0 (ba1++([]:List (Nat × List Value))) w25 from ⟨hIa,M.tail⟩); have hJ3:=show Hid _ from hJ2; clear M hIa hJ2; go_wp2
       go_roundw
       case rel=>exact ⟨q+1,_,itk x v.n B,_,by omega,by omega,rfl,by go_num,hJ3.out,xnR _,HS.out⟩
       case measure=>simp [intOf]; omega
  | false =>
    try clear hb1
    try clear hb2
    try clear hb3
    go_upto_region 22 with fail; refine wp_region_list ?_; refine xpL (.bool true) ?_; refine xT ?_; have hbel:=M.below; clear M hIa; go_wp2; go_ret
    exact ⟨rfl,hbel⟩
theorem Mm.addB {w0 w:World} {l:List (Nat × List Value)} (h:Mm w0 l w) {b:Nat} (lo:w0.heap.size≤b) (lt:b<w.heap.size) (hne:∀ p∈l,p.1≠b):Mm w0 ((b,[])::l) w :=
 ⟨fun p hp=>by
  rcases xc1 hp with rfl | hp
  · exact ⟨fun j hj=>absurd hj (xnZ j),lo,lt⟩
  · exact h.rows p hp,List.pairwise_cons.2 ⟨fun p hp=>(hne p hp).symm,h.apart⟩,h.below⟩
theorem Mm.rowApp {w0 w w2:World} {l:List (Nat × List Value)} {sp sq:Option Addr} {n cap m cap2 base size:Nat} {e:TypeId} {xs ys:List Value} (M:Mm w0 (obs sp++l) w) (V:w.ownsRow base e size (.slice sp n cap) n xs) (hg:w.grownBy w2 (Value.slice sp n cap).ownBlock) (V2:w2.ownsRow base e size (.slice sq m cap2) m ys) (h2:∀ g,(Value.slice sq m cap2).ownBlock=some g→(Value.slice sp n cap).ownBlock=some g∨g=w.heap.size) (h0:w0.heap.size≤base):Mm w0 (obs sq++l) w2:=by
 have Ml:Mm w0 l w:=M.sub l (List.sublist_append_right _ _)
 have hap:∀ b,(Value.slice sp n cap).ownBlock=some b→∀ p∈l,p.1≠b:=fun b hb p hp e=>by
  have hm:b∈ob sp:=(ob_own sp n cap b).1 hb
  have:=(List.pairwise_append.1 M.apart).2.2 (b,[]) (List.mem_map.2 ⟨b,hm,rfl⟩) p hp
  exact this e.symm
 have Ml2:=Ml.grownN hg (fun b hb=>⟨xnT h0 (World.ownsRow.lt V b hb).1,hap b hb⟩)
 cases sq with
 | none=>exact Ml2
 | some a =>
   have hl:=World.ownsRow.lt V2 a.block rfl; refine Ml2.addB (xnT h0 hl.1) hl.2 fun p hp e=>?_
   rcases h2 a.block rfl with h | h
   · exact hap _ h p hp e
   · have:=(Ml.rows p hp).2.2
     omega
theorem row_form16 {w:World} {base:Nat} {e:TypeId} {size n:Nat} {xs:List Value} {v:Value} (h:w.ownsRow base e size v n xs):∃ sp cap,v=.slice sp n cap∧n≤cap∧(sp=none→cap=0):=by
 rcases h.2 with ⟨rfl,rfl⟩ | ⟨g,cap,cur,rfl,_,_,hc,_⟩
 · exact ⟨none,0,rfl,xnR _,fun _=>rfl⟩
 · exact ⟨_,cap,rfl,hc,fun e=>by cases e⟩
theorem row_some16 {w:World} {base:Nat} {e:TypeId} {size n:Nat} {xs:List Value} {sp:Option Addr} {cap:Nat} (h:w.ownsRow base e size (.slice sp n cap) n xs) (hn:0<n):∃ g,sp=some ⟨g,0,none⟩:=by
 rcases h.2 with ⟨e1,e2⟩ | ⟨g,cap',cur,e1,_⟩
 · omega
 · injection e1 with e2 _ _
   exact ⟨g,e2⟩
theorem ownsRow_away {w w':World} {base:Nat} {e:TypeId} {size n:Nat} {xs:List Value} {sp:Option Addr} {cap:Nat} {X:List Nat} (h:w.ownsRow base e size (.slice sp n cap) n xs) (o:Off X w w') (hX:∀ b∈X,b∉ob sp):w'.ownsRow base e size (.slice sp n cap) n xs:=ownsRow_off h o fun b hb e=>hX b hb ((ob_own sp n cap b).1 e)
theorem ownsRow_bel {w w':World} {base:Nat} {e:TypeId} {size n:Nat} {xs:List Value} {v:Value} (h:w.ownsRow base e size v n xs) (l:Below w.heap.size w w'):w'.ownsRow base e size v n xs:=ownsRow_off h (X:=[]) (Off.of_below l) (fun _ hb=>by cases hb)
theorem Mm.awayO {w0 w:World} {t:List (Nat × List Value)} {so sp:Option Addr} (h:Mm w0 (obs so++t) w) (hs:∀ p∈obs sp,p∈t):∀ b∈ob so,b∉ob sp:=by
 have:=h.awayS hs
 rw [obs_fst] at this
 exact this
theorem Mm.untell {w0 w:World} {l:List (Nat × List Value)} {g:Nat} {cs:List Value} (h:Mm w0 ((g,cs)::l) w):Mm w0 ((g,[])::l) w:=h.tail.addB (h.lo mS) (h.lt mS) fun p hp e=>(List.pairwise_cons.1 h.apart).1 p hp e.symm
section
section
variable {P:Program} {ops:Array Oper} {Q:Exit→Act→World→Prop} {md:Region.Mode} {S S2:World→Prop} {c:Nat}
theorem readC {i:Nat} {oi oc:Oper} (dst:Option Tmp) (hdst:oi.dst=dst) {n:Nat} {l:Array Bool} {a:Act} {w:World} (v:Value) (hi:ops[i]?=some oi) (hc:ops[c]?=some oc) (hwait:(oc.after.any fun e=>Region.binds md e&&e.on == i)=true)
 (hw:Region.wanted oi (yielded ops a.tmps)=true) (hv:∀ w,S w→(execOp a.eval oi).run P w=.ok (.value v) w)
 (hs:Region.noSelect ops=true) (hf:Region.free md ops l i=true) (hl:l.getD c true=false) (hr:(Region.ready md ops l).contains i=true)
 (hQ:∀ p a w,Q (.panic p) (a.put dst v) w→Q (.panic p) a w) (hS:S w)
 (h:wpAnyC P md ops Q S c n (l.setIfInBounds i true) (a.put dst v) w):wpAnyC P md ops Q S c (n+1) l a w:=by
 subst hdst
 exact wpAnyC_take hi hc hwait hs hf hl hr hQ (.inl ⟨hw,hv⟩) hS h
theorem skipC (dst:Option Tmp) {oc:Oper} (hdst:oc.dst=dst) {n:Nat} {l:Array Bool} {a:Act} {w w':World} (hr:Region.ready md ops l=[c]) (hi:ops[c]?=some oc)
 (hw:Region.wanted oc (yielded ops a.tmps)=true) (he:(execOp a.eval oc).run P w=.ok .skip w') (hl:(l.setIfInBounds c true).getD c true=true)
 (h:wpAnyH P md ops Q S2 n (l.setIfInBounds c true) (a.put dst undef) w'):wpAnyC P md ops Q S c (n+1) l a w :=
 ⟨fun h0=>(by rw [h0] at hr; cases hr),fun j hj=>by
  rw [hr] at hj
  obtain rfl:=xm1 hj
  unfold wpOp
  simp only [hi,hw,if_true]; refine .inl ?_
  unfold Oper.wp
  rw [he]
  subst hdst
  exact ⟨fun hf=>(by rw [hl] at hf; cases hf),wpAnyC_rest n _ _ _ hl (wpAny_of_held n _ _ _ h)⟩⟩
end
end
def Lies (X:List Nat) (w:World) (sp:Option Addr):Prop:=∀ b∈ob sp,b∈X∨w.heap.size≤b
theorem Lies.nil (X:List Nat) (w:World):Lies X w none:=fun _ h=>by cases h
theorem Lies.grown {X:List Nat} {w w1:World} {sp sq:Option Addr} {n cap m cap2:Nat} (h:Lies X w sp) (hg:∀ g,(Value.slice sq m cap2).ownBlock=some g→(Value.slice sp n cap).ownBlock=some g∨g=w1.heap.size) (hs:w.heap.size≤w1.heap.size):Lies X w sq:=fun b hb=>by
 rcases hg b ((ob_own sq m cap2 b).2 hb) with e | e
 · exact h b ((ob_own sp n cap b).1 e)
 · exact .inr (by rw [e]; exact hs)
section
section
variable {P:Program} {ops:Array Oper} {Q:Exit→Act→World→Prop} {md:Region.Mode} {S:World→Prop}
def Flt (P:Program) (ops:Array Oper) (Q:Exit→Act→World→Prop) (md:Region.Mode) (S:World→Prop) (z:Nat) (t:Tmp) (n w0 fuel:Nat):Nat→Array Bool→Act→Prop
 | 0,L,a=>Region.ready md ops L=[z]∧∀ B w,S w→Fb n w0 B w→wpAnyH P md ops Q S fuel (L.setIfInBounds z true) (a.put (some t) (.pointer (some ⟨B,0,none⟩))) w
 | k+1,L,a=>(∃ (c:Nat) (r:Tmp) (x:Oper) (f:FuncId) (g:Array Value) (V:Value→Prop),Region.ready md ops L=[c,z]∧Region.ready md ops (L.setIfInBounds z true)=[c]∧ops[c]?=some x∧x.guard=none∧x.dst=some r∧z≠c∧t≠r∧(∀ cs b,x.op≠.select cs b)∧t∉x.looksAt ops∧(∀ w,(execOp a.eval x).run P w=.ok (.enter f g) w) ∧
    (∀ w,S w→Calls P f g w fun e w'=>∃ v,e=.returned v∧V v∧Below w.heap.size w w')∧∀ v,V v→Flt P ops Q md S z t n w0 fuel k (L.setIfInBounds c true) (a.put (some r) v)) ∨
   ∃ (q:Nat) (r:Tmp) (x:Oper) (v:Value),ops[q]?=some x∧x.guard=none∧x.dst=some r∧z≠q∧t≠r∧(∀ cs b,x.op≠.select cs b)∧t∉x.looksAt ops∧(∀ w,(execOp a.eval x).run P w=.ok (.value v) w)∧Region.noSelect ops=true∧(Region.free md ops L q=true∧(Region.ready md ops L).contains q=true)∧(Region.free md ops (L.setIfInBounds z true) q=true∧(Region.ready md ops (L.setIfInBounds z true)).contains q=true) ∧
    (∀ c a w,Q (.panic c) (a.put (some r) v) w→Q (.panic c) a w)∧Flt P ops Q md S z t n w0 fuel k (L.setIfInBounds q true) (a.put (some r) v)
theorem Flt.last {z:Nat} {t:Tmp} {n w0 fuel:Nat} {L:Array Bool} {a:Act} (hr:Region.ready md ops L=[z]) (h:∀ B w,S w→Fb n w0 B w→wpAnyH P md ops Q S fuel (L.setIfInBounds z true) (a.put (some t) (.pointer (some ⟨B,0,none⟩))) w):Flt P ops Q md S z t n w0 fuel 0 L a:=⟨hr,h⟩
theorem Flt.call {z:Nat} {t:Tmp} {n w0 fuel k:Nat} {L:Array Bool} {a:Act} (c:Nat) (r:Tmp) {x:Oper} {f:FuncId} {g:Array Value} (V:Value→Prop) (hr:Region.ready md ops L=[c,z]) (hr':Region.ready md ops (L.setIfInBounds z true)=[c]) (hx:ops[c]?=some x) (hg:x.guard=none) (hd:x.dst=some r)
 (hz:z≠c) (ht:t≠r) (hs:∀ cs b,x.op≠.select cs b) (hl:t∉x.looksAt ops) (he:∀ w,(execOp a.eval x).run P w=.ok (.enter f g) w)
 (hc:∀ w,S w→Calls P f g w fun e w'=>∃ v,e=.returned v∧V v∧Below w.heap.size w w') (h:∀ v,V v→Flt P ops Q md S z t n w0 fuel k (L.setIfInBounds c true) (a.put (some r) v)):Flt P ops Q md S z t n w0 fuel (k+1) L a :=
 .inl ⟨c,r,x,f,g,V,hr,hr',hx,hg,hd,hz,ht,hs,hl,he,hc,h⟩
theorem Flt.read {z:Nat} {t:Tmp} {n w0 fuel k:Nat} {L:Array Bool} {a:Act} (q:Nat) (r:Tmp) {x:Oper} (v:Value) (hx:ops[q]?=some x) (hg:x.guard=none) (hd:x.dst=some r) (hz:z≠q) (ht:t≠r) (hs:∀ cs b,x.op≠.select cs b) (hl:t∉x.looksAt ops) (he:∀ w,(execOp a.eval x).run P w=.ok (.value v) w)
 (hn:Region.noSelect ops=true) (h1:Region.free md ops L q=true) (h2:(Region.ready md ops L).contains q=true) (h3:Region.free md ops (L.setIfInBounds z true) q=true) (h4:(Region.ready md ops (L.setIfInBounds z true)).contains q=true)
 (hQ:∀ c a w,Q (.panic c) (a.put (some r) v) w→Q (.panic c) a w) (h:Flt P ops Q md S z t n w0 fuel k (L.setIfInBounds q true) (a.put (some r) v)):Flt P ops Q md S z t n w0 fuel (k+1) L a :=
 .inr ⟨q,r,x,v,hx,hg,hd,hz,ht,hs,hl,he,hn,⟨h1,h2⟩,⟨h3,h4⟩,hQ,h⟩
theorem Flt.made {z:Nat} {t:Tmp} {n w0 fuel k:Nat} {L:Array Bool} {a:Act} (h:Flt P ops Q md S z t n w0 fuel k L a) (hSc:∀ w w',S w→Below w.heap.size w w'→S w') :
 ∀ B w,S w→Fb n w0 B w→wpAnyH P md ops Q S (fuel+k) (L.setIfInBounds z true) (a.put (some t) (.pointer (some ⟨B,0,none⟩))) w:=by
 induction k generalizing L a with
 | zero=>exact fun B w hS hB=>h.2 B w hS hB
 | succ k ih =>
   rcases h with ⟨c,r,x,f,g,V,_,hr',hx,hg,hd,hz,ht,hs,hl,he,hc,h'⟩ | ⟨q,r,x,v,hx,hg,hd,hz,ht,hs,hl,he,hn,_,⟨h3,h4⟩,hQ,h'⟩
   · intro B w hS hB
     refine wpAnyH_all hr' (by simp) fun j hj=>?_
     obtain rfl:=xm1 hj
     refine callOp hx hg (by rw [eval_one (ops:=ops) t _ hs hl]; exact he w) (hc w hS) fun e w' hR=>?_
     obtain ⟨v,rfl,hv,l⟩:=hR
     have hs1:=hSc _ _ hS l
     refine ⟨v,rfl,hs1,?_⟩
     rw [hd]
     refine wpAnyH_cast (ih (h' v hv) B w' hs1 (hB.call l)) ?_ ?_
     · rw [Array.setIfInBounds_comm _ _ hz]
     · rw [put_comm' _ _ _ ht]
   · intro B w hS hB
     refine readH (i:=q) (some r) hd v hx (by unfold Region.wanted; rw [hg]) (fun w' _=>by rw [eval_one (ops:=ops) t _ hs hl]; exact he w') hn h3 h4 hQ hS ?_
     refine wpAnyH_cast (ih h' B w hS hB) ?_ ?_
     · rw [Array.setIfInBounds_comm _ _ hz]
     · rw [put_comm' _ _ _ ht]
theorem Flt.go {z:Nat} {t:Tmp} {n w0 fuel k:Nat} {L:Array Bool} {a:Act} (h:Flt P ops Q md S z t n w0 fuel k L a) {xz:Oper} (cs:Array Value) (ty:TypeId) (iz:ops[z]?=some xz) (gz:xz.guard=none) (dz:xz.dst=some t)
 (ez:∀ (b:Act) (w:World),(execOp b.eval xz).run P w=.ok (.value (.pointer (some ⟨w.heap.size,0,none⟩))) (w.alloc (.cells cs ty)))
 (hn:∀ w:World,(w.alloc (.cells cs ty)).there w.heap.size 0 n) (hS0:∀ w,S w→w0≤w.heap.size) (hSc:∀ w w',S w→Below w.heap.size w w'→S w') :
 ∀ w,S w→wpAnyH P md ops Q S (fuel+k+1) L a w:=by
 have hSa:∀ w:World,S w→S (w.alloc (.cells cs ty)):=fun w h=>hSc w _ h ((Below.refl w.heap.size w).alloc (xnR _) _)
 have hNew:∀ w:World,S w→Fb n w0 w.heap.size (w.alloc (.cells cs ty)):=fun w h=>⟨hS0 w h,by simp,hn w⟩
 induction k generalizing L a with
 | zero =>
   intro w hS; refine wpAnyH_all h.1 (by simp) fun j hj=>?_
   obtain rfl:=xm1 hj
   refine allocOp iz gz (ez _ w) ?_
   rw [dz]
   exact ⟨hSa _ hS,h.2 _ _ (hSa _ hS) (hNew _ hS)⟩
 | succ k ih =>
   rcases h with ⟨c,r,x,f,g,V,hr,hr',hx,hg,hd,hz,ht,hs,hl,he,hc,h'⟩ | ⟨q,r,x,v,hx,hg,hd,hz,ht,hs,hl,he,hn',⟨h1,h2⟩,_,hQ,h'⟩
   · intro w hS
     refine wpAnyH_all hr (by simp) fun j hj=>?_
     simp only [List.mem_cons,List.not_mem_nil,or_false] at hj
     rcases hj with rfl | rfl
     · refine callOp hx hg (he w) (hc w hS) fun e w' hR=>?_
       obtain ⟨v,rfl,hv,l⟩:=hR
       have hs1:=hSc _ _ hS l
       refine ⟨v,rfl,hs1,?_⟩
       rw [hd]
       exact ih (h' v hv) w' hs1
     · refine allocOp iz gz (ez _ w) ?_
       rw [dz]
       exact ⟨hSa _ hS,Flt.made (Flt.call c r V hr hr' hx hg hd hz ht hs hl he hc h') hSc _ _ (hSa _ hS) (hNew _ hS)⟩
   · intro w hS
     exact readH (i:=q) (some r) hd v hx (by unfold Region.wanted; rw [hg]) (fun w' _=>he w') hn' h1 h2 hQ hS (ih h' w hS)
end
end
theorem Mm.land {w0 w:World} {l:List (Nat × List Value)} (M:Mm w0 l w) {n m B:Nat} (b:Fb n m B w) (hm:∀ p∈l,p.1<m) (h0:w0.heap.size≤m) (cs:List Value) (hc:cs.length=n):Mm w0 ((B,cs)::l) (w.setCells B 0 cs):=by
 have hlo:=b.lo
 have hM:Mm w0 ((B,(List.range n).map fun j=>(w.cell? ⟨B,j,none⟩).getD undef)::l) w:=by
  refine ⟨fun p hp=>?_,List.pairwise_cons.2 ⟨fun p hp e=>?_,M.apart⟩,M.below⟩
  · rcases xc1 hp with rfl | hp
    · refine ⟨fun j hj=>?_,by omega,b.hi⟩
      rw [List.length_map,List.length_range] at hj
      have h1:=b.th j hj
      rw [Nat.zero_add] at h1
      refine ⟨?_,h1.2⟩
      rw [List.getElem?_map,List.getElem?_range hj]
      obtain ⟨v,hv⟩:=Option.isSome_iff_exists.1 h1.1
      show w.cell? ⟨B,j,none⟩=some ((w.cell? ⟨B,j,none⟩).getD undef)
      rw [hv]
      rfl
    · exact M.rows p hp
  · have:=hm p hp
    have e':B=p.1:=e
    omega
 exact hM.setAll cs (by rw [List.length_map,List.length_range]; exact hc)
section
structure Wnd (w:World) (sp:Option Addr) (n cap:Nat) (f:Nat→Int):Prop where
 le:n≤cap
 mx:cap≤maxLen
 nl:sp=none→cap=0
 at_:∀ a,sp=some a→∃ g o,a=⟨g,o,none⟩∧g<w.heap.size∧(∀ j,j<n→w.cell? ⟨g,o+j,none⟩=some (.int .u8 (f j)))∧∀ j,j<cap→(w.cell? ⟨g,o+j,none⟩).isSome=true∧w.frozen? ⟨g,o+j,none⟩=false
section
variable {w w':World} {sp:Option Addr} {n cap:Nat} {f:Nat→Int}
theorem Wnd.nil (w:World) (f:Nat→Int):Wnd w none 0 0 f:=⟨xnR _,Nat.zero_le _,fun _=>rfl,fun _ h=>by cases h⟩
theorem Wnd.src (h:Wnd w sp n cap f):Src w sp n f:=fun j hj=>by
 cases sp with
 | none=>have:=h.nl rfl; have:=h.le; omega
 | some a =>
   obtain ⟨g,o,rfl,_,hc,_⟩:=h.at_ a rfl
   exact ⟨_,rfl,by rw [Addr.add_mid]; exact hc j hj⟩
theorem Wnd.lt (h:Wnd w sp n cap f):∀ b∈ob sp,b<w.heap.size:=fun b hb=>by
 cases sp with
 | none=>cases hb
 | some a =>
   obtain ⟨g,o,rfl,hl,_⟩:=h.at_ a rfl
   obtain rfl:=xm1 hb
   exact hl
theorem Wnd.off (h:Wnd w sp n cap f) {X:List Nat} (o:Off X w w') (hX:∀ b∈X,b∉ob sp):Wnd w' sp n cap f:=by
 refine ⟨h.le,h.mx,h.nl,fun a e=>?_⟩
 obtain ⟨g,k,e1,hl,hc,ht⟩:=h.at_ a e
 subst e; subst e1; have hb:=o.blk g hl fun hm=>hX _ hm mS
 have e1:∀ j,w'.cell? ⟨g,j,none⟩=w.cell? ⟨g,j,none⟩:=fun j=>World.cell?_of_block (a:=⟨g,j,none⟩) hb
 have e2:∀ j,w'.frozen? ⟨g,j,none⟩=w.frozen? ⟨g,j,none⟩:=fun j=>World.frozen?_of_block (a:=⟨g,j,none⟩) hb
 exact ⟨g,k,rfl,xnL hl o.size,fun j hj=>by rw [e1]; exact hc j hj,fun j hj=>by rw [e1,e2]; exact ht j hj⟩
theorem Wnd.bel (h:Wnd w sp n cap f) (l:Below w.heap.size w w'):Wnd w' sp n cap f:=h.off (X:=[]) (Off.of_below l) (fun _ hb=>by cases hb)
theorem Wnd.congr (h:Wnd w sp n cap f) {z:Nat→Int} (hz:∀ j,j<n→f j=z j):Wnd w sp n cap z:=by
 refine ⟨h.le,h.mx,h.nl,fun a e=>?_⟩
 obtain ⟨g,k,e1,hl,hc,ht⟩:=h.at_ a e
 exact ⟨g,k,e1,hl,fun j hj=>by rw [← hz j hj]; exact hc j hj,ht⟩
theorem Wnd.ofOwn {e:TypeId} {base:Nat} (h:Own w base e .u8 n f (.slice sp n cap)):Wnd w sp n cap f:=by
 rcases h.2 with ⟨hv,hn⟩ | ⟨g,c,cur,hv,_,hg,hc,hm,hs,ht⟩
 · injection hv with h1 h2 h3
   subst h1; subst h3; subst hn
   exact Wnd.nil w f
 · injection hv with h1 _ h3
   subst h1; subst h3
   refine ⟨hc,hm,fun e=>(by cases e),fun a e=>?_⟩
   injection e with e
   subst e
   refine ⟨g,0,rfl,(Array.getElem?_eq_some_iff.1 hg).1,fun j hj=>?_,fun j hj=>⟨?_,?_⟩⟩
   · have:=World.ownsRow.cells h (g:=g) rfl j (.int .u8 (f j)) (row_get .u8 n f j hj)
     rw [Addr.add_mid] at this
     exact this
   · unfold World.cell?
     rw [hg]
     simp
     omega
   · unfold World.frozen?
     rw [hg]
     simp
def slc (sp:Option Addr) (cap m:Nat):Option Addr:=if cap=m then sp else sp.map (·.add (m*1))
theorem slc_run {P:Program} {t:TypeId} (ht:P.underlying t=some (.slice (P.elem t))) (hsz:∀ w,(sizeOf (P.elem t)).run P w=.ok 1 w) (sp:Option Addr) (n cap m:Nat) (hm:m≤n) (w:World):(Instr.sliceAt t (.slice sp n cap) (some (.int .i64 (m:Int))) none none).run P w=.ok (.slice (slc sp cap m) (n-m) (cap-m)) w:=by
 rw [run_sliceAt_slice w t _ _ _ _ ht,run_slice_l w t sp n cap ht .i64 (m:Int) (by omega) (by omega),hsz]
 simp only [Result.andThen,sliced,Int.toNat_natCast,slc]
theorem slc_ob (sp:Option Addr) (cap m:Nat):ob (slc sp cap m)=ob sp:=by
 unfold slc
 split
 · rfl
 · cases sp with
   | none=>rfl
   | some a=>show [(a.add (m*1)).block]=[a.block]; rw [add_block]
theorem slc_obs (sp:Option Addr) (cap m:Nat):obs (slc sp cap m)=obs sp:=by unfold obs; rw [slc_ob]
theorem Wnd.cut (h:Wnd w sp n cap f) {m:Nat} (hm:m≤n):Wnd w (slc sp cap m) (n-m) (cap-m) (fun j=>f (m+j)):=by
 have hle:=h.le; have hmx:=h.mx
 refine ⟨by omega,by omega,fun e=>?_,fun a e=>?_⟩
 · unfold slc at e
   split at e
   · omega
   · cases sp with
     | none=>have:=h.nl rfl; omega
     | some ad=>cases e
 · unfold slc at e
   split at e
   · obtain ⟨g,k,e1,hl,_,_⟩:=h.at_ a e
     exact ⟨g,k,e1,hl,fun j hj=>by omega,fun j hj=>by omega⟩
   · cases sp with
     | none=>cases e
     | some ad =>
       obtain ⟨g,k,e1,hl,hc,ht⟩:=h.at_ ad rfl
       subst e1
       injection e with e
       replace e:(⟨g,k,none⟩:Addr).add (m*1)=a:=e
       rw [Addr.add_mid,Nat.mul_one] at e
       subst e
       exact ⟨g,k+m,rfl,hl,fun j hj=>by rw [Nat.add_assoc]; exact hc _ (by omega),fun j hj=>by rw [Nat.add_assoc]; exact ht _ (by omega)⟩
end
section
variable {P:Program}
end
theorem Mm.rep18 {w0 w w2:World} {l:List (Nat × List Value)} {sp sq:Option Addr} (M:Mm w0 (obs sp++l) w) (hg:w.grownBy w2 (sp.map (·.block))) (hl:∀ b∈ob sq,b<w2.heap.size) (hq:∀ b∈ob sq,b∈ob sp∨w.heap.size≤b):Mm w0 (obs sq++l) w2:=by
 have Ml:Mm w0 l w:=M.sub _ (List.sublist_append_right _ _)
 have hap:∀ b∈ob sp,w0.heap.size≤b∧∀ p∈l,p.1≠b:=fun b hb=>by
  have hm:(b,[])∈obs sp:=List.mem_map.2 ⟨b,hb,rfl⟩
  refine ⟨(M.rows _ (List.mem_append_left _ hm)).2.1,fun p hp e=>?_⟩
  exact (List.pairwise_append.1 M.apart).2.2 (b,[]) hm p hp e.symm
 have Ml2:=Ml.grownN hg (fun b hb=>hap b (by
  cases sp with
  | none=>cases hb
  | some a=>injection hb with hb; subst hb; exact mS))
 cases sq with
 | none=>exact Ml2
 | some a =>
   have h1:=hq a.block mS
   exact Ml2.addB (by
    rcases h1 with h | h
    · exact (hap _ h).1
    · exact xnT Ml.below.size h) (hl _ mS) fun p hp e=>by
      rcases h1 with h | h
      · exact (hap _ h).2 p hp e
      · have:=(Ml.rows p hp).2.2
        omega
theorem Off.rep18 {w w1 w2:World} {X:List Nat} {sp:Option Addr} (h:Off X w w1) (g:w1.grownBy w2 (sp.map (·.block))) (hX:∀ b∈ob sp,b∈X∨w.heap.size≤b):Off X w w2:=h.grown g fun b hb=>hX b (by
 cases sp with
 | none=>cases hb
 | some a=>injection hb with hb; subst hb; exact mS)
theorem Wnd.wrt {w:World} {sp:Option Addr} {n cap:Nat} {f:Nat→Int} (h:Wnd w sp n cap f):Wrt w sp n:=fun j hj=>by
 have hle:=h.le
 cases sp with
 | none=>have:=h.nl rfl; omega
 | some a =>
   obtain ⟨g,o,rfl,_,_,ht⟩:=h.at_ a rfl
   exact ⟨_,rfl,by rw [Addr.add_mid]; exact ht j (by omega)⟩
theorem Wnd.newF {w:World} {base:Nat} {sp:Option Addr} {n cap:Nat} {f:Nat→Int} (h:Wnd w sp n cap f) (hb:∀ b∈ob sp,base≤b):NewF w base n f (.slice sp n cap):=⟨sp,cap,rfl,h.le,h.nl,h.src,fun a e=>by
 subst e
 exact ⟨hb _ mS,h.lt _ mS⟩⟩
theorem Mm.wnd {w0 w:World} {l:List (Nat × List Value)} {B n:Nat} {f:Nat→Int} (M:Mm w0 ((B,row .u8 n f)::l) w) (hn:n≤maxLen):Wnd w (some ⟨B,0,none⟩) n n f:=by
 have h:=M.rows _ mS
 refine ⟨xnR _,hn,fun e=>(by cases e),fun a e=>?_⟩
 injection e with e
 subst e
 have hc:∀ j,j<n→w.cell? ⟨B,0+j,none⟩=some (.int .u8 (f j)):=fun j hj=>by
  rw [Nat.zero_add,(h.1 j (by rw [row_length]; exact hj)).1]
  exact row_get .u8 n f j hj
 exact ⟨B,0,rfl,h.2.2,hc,fun j hj=>⟨by rw [hc j hj]; rfl,by rw [Nat.zero_add]; exact (h.1 j (by rw [row_length]; exact hj)).2⟩⟩
theorem Off.andR {X:List Nat} {w w1 w2:World} {R:Nat} {sp:Option Addr} (h:Off X w w1) (g:Off (R::ob sp) w1 w2) (hR:R∈X) (hL:Lies X w sp):Off X w w2 :=
 ⟨xnT h.size g.size,fun b hb hX=>(g.blk b (xnL hb h.size) (fun hm=>by
  rcases xc1 hm with rfl | hm
  · exact hX hR
  · rcases hL b hm with c | c
    · exact hX c
    · omega)).trans (h.blk b hb hX)⟩
theorem Lies.rep {X:List Nat} {w w1:World} {sp sq:Option Addr} (h:Lies X w sp) (g:∀ b,b∈ob sq→b∈ob sp∨w1.heap.size≤b) (hs:w.heap.size≤w1.heap.size):Lies X w sq:=fun b hb=>(g b hb).elim (h b) fun c=>.inr (xnT hs c)
theorem Mm.awayRO {w0 w:World} {R:Nat} {cs:List Value} {t:List (Nat × List Value)} {so sp:Option Addr} (h:Mm w0 ((R,cs)::(obs so++t)) w) (hs:∀ p∈obs sp,p∈t):∀ b∈R::ob so,b∉ob sp:=fun b hb=>by
 rcases xc1 hb with rfl | hb
 · exact h.awayB fun p hp=>List.mem_append_right _ (hs p hp)
 · exact (h.sub _ (List.sublist_cons_self _ _)).awayO hs b hb
theorem run_copy_wnd {P:Program} {o:Oper} {a:Act} {w:World} (d s:Operand) (dT sT elem:TypeId) (ho:o.op=.call { callee:=.builtin .copy,args:=#[d,s],argTypes:=#[dT,sT] }) (hu:P.underlying dT=some (.slice elem)) (hsz:(P.info? elem).map (·.size)=some 1)
 (b dLen dCap sLen sCap m:Nat) (z:Nat→Int) (sp:Option Addr) (hd:a.eval d=.slice (some ⟨b,0,none⟩) dLen dCap) (hs:a.eval s=.slice sp sLen sCap) (hmin:m=Nat.min sLen dLen) (hb:w.there b 0 m) (hc:Src w sp m z) :
 (execOp a.eval o).run P w=.ok (.value (.int .i64 (m:Int))) (w.setCells b 0 (row .u8 m z)):=by
 cases sp with
 | none =>
   have h0:m=0:=by
    rcases Nat.eq_zero_or_pos m with c | c
    · exact c
    · obtain ⟨ad,e,_⟩:=hc 0 c; cases e
   subst h0; have hrun:=run_copy_none (P:=P) w dT sT o.type elem (some ⟨b,0,none⟩) none dLen dCap sLen sCap hu hsz hmin.symm
   simp [execOp,ho,resolve,invoke,builtin,hd,hs,hrun,Result.andThen,goInt,row,World.setCells]
 | some ad=>exact run_copy_part d s dT sT elem ho hu hsz b dLen dCap sLen sCap m z ad hd hs hmin hb hc
end
section
theorem zeros_row (k:IntKind) (m:Nat):Builtin.zeroCells (Value.int k 0).cells m=(row k m (fun _=>0)).toArray:=by
 refine Array.toList_inj.1 ?_
 unfold Builtin.zeroCells row
 simp [Value.cells,Nat.mod_one]
section
variable {P:Program}
end
end
section
section
variable {P:Program}
theorem run_appendZ_Wnd {w:World} {t u ty e:TypeId} {n cap:Nat} {f:Nat→Int} {sp:Option Addr} (ht:P.underlying t=some (.slice e)) (hu:P.underlying u=some (.int .i64)) (he:One P e .u8 1) (h:Wnd w sp n cap f)
 (m:Nat) (hm0:0<m) (hb:n+m≤100000000) :
 ∃ sp' cap' w',(Builtin.append_ #[t,u] ty #[.slice sp n cap,.int .i64 (m:Int)]).run P w=.ok (.slice sp' (n+m) cap') w'∧Wnd w' sp' (n+m) cap' (app f n (fun _=>0))∧w.grownBy w' (sp.map (·.block))∧∀ b∈ob sp',b∈ob sp∨w.heap.size≤b:=by
 obtain ⟨i,hi,hq⟩:=Option.map_eq_some_iff.1 he.info
 simp only [Prod.mk.injEq] at hq
 obtain ⟨h1,h2,h3⟩:=hq
 have hle:=h.le
 have hw:IntKind.i64.wrap (m:Int)=(m:Int):=by rw [xw6]; omega
 have hzc:Builtin.zeroCells (Value.int .u8 0).cells m=(row .u8 m (fun _=>0)).toArray:=zeros_row .u8 m
 by_cases hr:n+m≤cap
 · cases sp with
   | none=>have:=h.nl rfl; omega
   | some a =>
     obtain ⟨g,o,rfl,hl,hc,hth⟩:=h.at_ a rfl
     have hasI:∀ w,(asInt (.int .i64 (m:Int))).run P w=.ok (m:Int) w:=fun w=>by simp [asInt,asIntOf]
     have hneg:¬ ((m:Int)<0):=by omega
     have h48:¬ (281474976710656<(m:Int)):=by omega
     have hm:m≠0:=by omega
     have hst:=run_storeCells_cells (P:=P) g (o+n) (row .u8 m (fun _=>0)) 0 w (fun j hj=>by rw [row_length] at hj; rw [Nat.add_zero,Nat.add_assoc]; exact (hth (n+j) (by omega)).1) (fun j hj=>by rw [row_length] at hj; rw [Nat.add_zero,Nat.add_assoc]; exact (hth (n+j) (by omega)).2) (row_one .u8 m _)
     simp only [Nat.add_zero] at hst
     have hrun:(Builtin.append_ #[t,u] ty #[.slice (some ⟨g,o,none⟩) n cap,.int .i64 (m:Int)]).run P w=.ok (.slice (some ⟨g,o,none⟩) (n+m) cap) (w.setCells g (o+n) (row .u8 m (fun _=>0))):=by
      simp [Builtin.append_,run_underlying ht,run_underlying hu,sizeOf,typeInfo,zeroValue,hi,h1,h2,h3,hasI,hw,hneg,h48,hr,hm,hzc,Addr.add_lit,hst]
     have hlb:=below_setAll (Below.refl 0 w) g (Nat.zero_le _) (o+n) (row .u8 m (fun _=>0))
     refine ⟨_,cap,_,hrun,⟨hr,h.mx,fun e=>(by cases e),fun a e=>?_⟩,⟨hlb.os,hlb.tape,hlb.output,hlb.size,fun k hk hne=>?_⟩,fun b hb=>.inl hb⟩
     · injection e with e
       subst e
       refine ⟨g,o,rfl,by rw [size_setAll]; exact hl,fun j hj=>?_,fun j hj=>⟨World.isSome_setCells g _ _ _ _ (hth j hj).1,by rw [World.frozen?_setCells]; exact (hth j hj).2⟩⟩
       by_cases hjn:j<n
       · rw [World.cell?_setCells_out g _ _ _ _ (fun _ _=>.inl (by simp only; omega)),hc j hjn]
         unfold app
         rw [if_pos hjn]
       · have:=World.cell?_setCells_in g (row .u8 m (fun _=>0)) (o+n) w (fun j hj=>by rw [row_length] at hj; rw [Nat.add_assoc]; exact (hth (n+j) (by omega)).1) (j-n) (by rw [row_length]; omega)
         rw [show o+n+(j-n)=o+j by omega] at this
         rw [this]
         have e2:=row_get .u8 m (fun _=>0) (j-n) (by omega)
         rw [List.getElem?_eq_getElem (by rw [row_length]; omega)] at e2
         rw [e2]
         unfold app
         rw [if_neg hjn]
     · exact ((Off.refl [g] w).setAll mS (o+n) (row .u8 m (fun _=>0))).blk k hk fun hm=>hne (by rw [xm1 hm]; rfl)
 · have hold:(Builtin.firstCells i.size n (.slice sp n cap)).run P w.drew=.ok (row .u8 n f).toArray w.drew:=by
    cases sp with
    | none =>
      have:=h.nl rfl
      obtain rfl:n=0:=by omega
      exact run_firstCells_none w.drew i.size 0 0 cap
    | some a =>
      exact run_firstCells_some w.drew i.size n a n cap (row .u8 n f) (by rw [row_length,h3,Nat.mul_one]) (fun j u hu=>by
       obtain ⟨hj,rfl⟩:=row_get_some hu
       obtain ⟨ad,e,hc⟩:=h.src j hj
       injection e with e
       subst e
       exact hc)
   have hrun:=Go.Lib.run_append_grow_zeros (P:=P) w t u ty e i (.int .u8 0) .i64 .i64 ht hu hi h1 sp n cap (row .u8 n f) hold m hm0 (by omega) (by omega) (by omega) (by rw [h2]; omega) (growslice_fits (by omega) (by rw [h2]; omega))
   rw [hzc] at hrun
   have hge:=grownCap_ge w (n+m) cap e; have hcm:=grownCap_le_maxLen w (n+m) cap e (by unfold maxLen; omega)
   have hown:Own (w.drew.alloc (.cells ((row .u8 n f).toArray++(row .u8 m (fun _=>0)).toArray++Builtin.zeroCells (Value.int .u8 0).cells (grownCap w (n+m) cap e-(n+m))) e)) 0 e .u8 (n+m) (app f n (fun _=>0)) (.slice (some ⟨w.heap.size,0,none⟩) (n+m) (grownCap w (n+m) cap e)):=by
    have hL:(row .u8 n f++row .u8 m (fun _=>0)).length=n+m:=by rw [List.length_append,row_length,row_length]
    unfold Own
    rw [← row_app]
    refine ⟨by rw [hL,Nat.mul_one],.inr ⟨w.heap.size,_,_,rfl,Nat.zero_le _,heap_alloc_new w.drew _,hge,hcm,?_,?_⟩⟩
    · rw [Array.size_append,Array.size_append,List.size_toArray,List.size_toArray,row_length,row_length,size_zeroCells]
      show n+m+(_-(n+m))*1=_
      omega
    · rw [Array.toList_append,Array.toList_append,Nat.mul_one]
      have e2:∀ (A B:List Value) (k:Nat),A.length=k→(A++B).take k=A:=fun A B k hk=>by subst hk; exact List.take_left
      exact e2 _ _ _ hL
   refine ⟨_,_,_,hrun,Wnd.ofOwn hown,⟨rfl,rfl,rfl,by simp,fun k hk _=>Below.heap_alloc w.drew _ k hk⟩,fun b hb=>.inr ?_⟩
   rw [xm1 hb]
   exact xnR _
theorem slc_run2 {t:TypeId} (ht:P.underlying t=some (.slice (P.elem t))) (hsz:∀ w,(sizeOf (P.elem t)).run P w=.ok 1 w) (sp:Option Addr) (n cap l h:Nat) (hl:l≤h) (hh:h≤n) (hc:n≤cap) (w:World):(Instr.sliceAt t (.slice sp n cap) (some (.int .i64 (l:Int))) (some (.int .i64 (h:Int))) none).run P w=.ok (.slice (slc sp cap l) (h-l) (cap-l)) w:=by
 rw [run_sliceAt_slice w t _ _ _ _ ht,run_slice_lh w t sp n cap ht .i64 .i64 (l:Int) (h:Int) (by omega) (by omega) (by omega),hsz]
 simp only [Result.andThen,sliced,Int.toNat_natCast,slc]
theorem run_copy_Wnd {w:World} {n cap:Nat} {f:Nat→Int} {sp:Option Addr} (dT sT ty elem:TypeId) (hu:P.underlying dT=some (.slice elem)) (hsz:(P.info? elem).map (·.size)=some 1)
 (h:Wnd w sp n cap f) (l m dCap sLen sCap:Nat) (z:Nat→Int) (sq:Option Addr) (hm0:0<m) (hlm:l+m≤n) (hmin:m≤sLen) (hc:Src w sq m z) :
 ∃ w',(Builtin.copy_ #[dT,sT] ty #[.slice (slc sp cap l) m dCap,.slice sq sLen sCap]).run P w=.ok (.int .i64 (m:Int)) w'∧Wnd w' sp n cap (fun j=>if l≤j∧j<l+m then z (j-l) else f j)∧w.grownBy w' (sp.map (·.block)):=by
 have hle:=h.le
 cases sp with
 | none=>have:=h.nl rfl; omega
 | some ad =>
   obtain ⟨g,k,rfl,hlt,hcl,hth⟩:=h.at_ ad rfl
   have hsl:slc (some ⟨g,k,none⟩) cap l=some ⟨g,k+l,none⟩:=by
    unfold slc
    rw [if_neg (by omega)]
    show some ((⟨g,k,none⟩:Addr).add (l*1))=_
    rw [Addr.add_mid,Nat.mul_one]
   rw [hsl]
   obtain ⟨sa,hsa,_⟩:=hc 0 hm0
   subst hsa
   have hrun:=run_copy_cells (P:=P) w dT sT ty elem g (k+l) m dCap sa sLen sCap (row .u8 m z) hu hsz (by rw [row_length]; show m=min _ _; omega) (fun j v hv=>by
    obtain ⟨hj,rfl⟩:=row_get_some hv
    obtain ⟨ad',he,hc'⟩:=hc j hj
    injection he with he
    subst he
    exact hc') (fun j hj=>by rw [row_length] at hj; rw [Nat.add_assoc]; exact (hth (l+j) (by omega)).1) (fun j hj=>by rw [row_length] at hj; rw [Nat.add_assoc]; exact (hth (l+j) (by omega)).2) (row_one .u8 m z)
   rw [row_length] at hrun
   have hlb:=below_setAll (Below.refl 0 w) g (Nat.zero_le _) (k+l) (row .u8 m z)
   refine ⟨_,hrun,⟨h.le,h.mx,h.nl,fun a e=>?_⟩,⟨hlb.os,hlb.tape,hlb.output,hlb.size,fun q hq hne=>?_⟩⟩
   · injection e with e
     subst e
     refine ⟨g,k,rfl,by rw [size_setAll]; exact hlt,fun j hj=>?_,fun j hj=>⟨World.isSome_setCells g _ _ _ _ (hth j hj).1,by rw [World.frozen?_setCells]; exact (hth j hj).2⟩⟩
     by_cases c:l≤j∧j<l+m
     · have:=World.cell?_setCells_in g (row .u8 m z) (k+l) w (fun j hj=>by rw [row_length] at hj; rw [Nat.add_assoc]; exact (hth (l+j) (by omega)).1) (j-l) (by rw [row_length]; omega)
       rw [show k+l+(j-l)=k+j by omega] at this
       rw [this]
       have e2:=row_get .u8 m z (j-l) (by omega)
       rw [List.getElem?_eq_getElem (by rw [row_length]; omega)] at e2
       rw [e2,if_pos c]
     · rw [World.cell?_setCells_out g _ _ _ _ (fun _ _=>by rw [row_length]; simp only; omega),hcl j hj,if_neg c]
   · exact ((Off.refl [g] w).setAll mS (k+l) (row .u8 m z)).blk q hq fun hm=>hne (by rw [xm1 hm]; rfl)
end
theorem Lies.two {X:List Nat} {w w1:World} {R:Nat} {sp sq:Option Addr} (h:Lies (R::ob sp) w1 sq) (hR:R∈X) (hp:Lies X w sp) (hs:w.heap.size≤w1.heap.size):Lies X w sq:=fun b hb=>(h b hb).elim (fun hm=>by
 rcases xc1 hm with rfl | hm
 · exact .inl hR
 · exact hp b hm) fun c=>.inr (xnT hs c)
end
def rgF (L:Rgs17) (f t:Int):Int:=((rgp L f t).getD (0,0)).1
def rgT (L:Rgs17) (f t:Int):Int:=((rgp L f t).getD (0,0)).2
def rgB (L:Rgs17) (f t:Int):Bool:=(rgp L f t).isSome
theorem gap18 {L:Rgs17} (h:Can L) (f t:Int):(rgB L f t=false∧∀ m,rlo f≤m→m<rhi t→rmem L m)∨(rgB L f t=true∧rlo f≤rgF L f t∧rgF L f t<rgT L f t∧rgT L f t≤rhi t∧(∀ m,rlo f≤m→m<rgF L f t→rmem L m)∧(∀ m,rgF L f t≤m→m<rgT L f t→¬ rmem L m)∧(rgT L f t=rhi t∨rmem L (rgT L f t))):=by
 cases e:rgp L f t with
 | none=>exact .inl ⟨by unfold rgB; rw [e]; rfl,rgp_none h e⟩
 | some g =>
   have h1:=rgp_some h e
   have e1:rgF L f t=g.1:=by unfold rgF; rw [e]; rfl
   have e2:rgT L f t=g.2:=by unfold rgT; rw [e]; rfl
   rw [e1,e2]
   exact .inr ⟨by unfold rgB; rw [e]; rfl,h1⟩
def gapT (w:World) (v:Value):Int:=match v with
 | .pointer (some a)=>intOf ((w.cell? (a.add 1)).getD undef)
 | _=>0
theorem gapT_is {w:World} {B:Nat} {t:Int} (h:w.cell? ⟨B,1,none⟩=some (.int .i64 t)):gapT w (.pointer (some ⟨B,0,none⟩))=t:=by
 unfold gapT
 simp only [Addr.add_mid,Nat.zero_add]
 rw [h]
 rfl
def boolOf:Value→Bool
 | .bool b=>b
 | _=>false
end Go.Proofs.Ytcjahbdlaojnoaa
