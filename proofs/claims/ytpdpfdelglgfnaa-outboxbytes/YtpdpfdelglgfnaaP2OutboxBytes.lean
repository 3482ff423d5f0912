/- Texts of Nu Nt Ng Nq Nh Kn Ni Nz Nv Nj Zr LawOutboxLimits LawOutboxArrives, joined. -/
import Derived.Test.YtpdpfdelglgfnaaP1OutboxBytes
import Derived.Deep.Cut
import Derived.Lib.AppendZerosOnto
import Derived.Deep.DeepAppendWide
set_option maxRecDepth 20000
set_option maxHeartbeats 64000000
namespace Go.Proofs.Ytpdpfdelglgfnaa
open Go.RowKit
section
def RgW (w:World) (l:List (Int × Int)) (v:Value):Prop:=∃ sp cap,v=.slice sp l.length cap∧l.length≤cap∧(sp=none→cap=0)∧∀ j u,(wrc l)[j]?=some u→∃ ad,sp=some ad∧w.cell? (ad.add j)=some u
section
variable {w w':World} {l:List (Int × Int)} {sp:Option Addr} {cap:Nat}
theorem RgW.offB {X:List Nat} (h:RgW w l (.slice sp l.length cap)) (o:Off X w w') (hX:∀ b∈X,l≠[]→b∉ob sp):RgW w' l (.slice sp l.length cap):=by
 obtain ⟨sp',cap',hv,hc,hn,hs⟩:=h
 injection hv with h1 _ h3
 subst h1; subst h3
 refine ⟨sp,cap,rfl,hc,hn,fun j u hu=>?_⟩
 obtain ⟨p,hp,hcell⟩:=hs j u hu
 exact ⟨p,hp,o.cell hcell (by rw [add_block]; exact fun hm=>hX _ hm (fun e=>by rw [e] at hu; cases hu) (by rw [hp]; exact mS))⟩
theorem RgW.below (h:RgW w l (.slice sp l.length cap)) (b:Below w.heap.size w w'):RgW w' l (.slice sp l.length cap):=h.offB (X:=[]) (Off.of_below b) (fun _ hb=>by cases hb)
theorem RgW.at (h:RgW w l (.slice sp l.length cap)) {i:Nat} {p:Int × Int} (hi:l[i]?=some p):∃ ad,sp=some ad∧w.cell? ((ad.add (i*2)).add 0)=some (.int .i64 p.1)∧w.cell? ((ad.add (i*2)).add 1)=some (.int .i64 p.2):=by
 obtain ⟨sp',cap',hv,_,_,hs⟩:=h
 injection hv with h1 _ _
 subst h1
 obtain ⟨g1,g2⟩:=wrc_get l i p hi
 obtain ⟨ad,rfl,c1⟩:=hs _ _ g1
 obtain ⟨ad',e,c2⟩:=hs _ _ g2
 injection e with e
 subst e
 exact ⟨ad,rfl,by rw [Addr.add_add,Nat.add_zero]; exact c1,by rw [Addr.add_add]; exact c2⟩
theorem RgW.rng {ad:Addr} (h:RgW w l (.slice (some ad) l.length cap)) {i:Nat} {p:Int × Int} (hi:l[i]?=some p):∀ j u,[Value.int .i64 p.1,Value.int .i64 p.2][j]?=some u→w.cell? ((ad.add (i*2)).add j)=some u:=by
 obtain ⟨ad',e,h0,h1⟩:=h.at hi
 injection e with e
 subst e; intro j u hu
 rcases j with _ | _ | j
 · obtain rfl:=Option.some.inj hu; exact h0
 · obtain rfl:=Option.some.inj hu; exact h1
 · cases hu
theorem RgW.away (h:RgW w l (.slice sp l.length cap)) {b:Nat} (hb:w.heap.size≤b) (hne:l≠[]):b∉ob sp:=fun hm=>by
 cases l with
 | nil=>exact hne rfl
 | cons p l =>
   obtain ⟨ad,e,h0,_⟩:=RgW.at h (i:=0) (p:=p) rfl
   subst e; have h1:=World.block_lt_of_cell? w _ h0
   rw [add_block,add_block] at h1
   have e3:b=ad.block:=xm1 hm
   omega
end
theorem RgW.ofW {w:World} {base:Nat} {l:List (Int × Int)} {v:Value} (h:NewW w base l v):RgW w l v:=by
 obtain ⟨sp,cap,h1,h2,h3,h4,_⟩:=h
 exact ⟨sp,cap,h1,h2,h3,h4⟩
theorem RgW.nil0 (w:World):RgW w [] (.slice none 0 0):=⟨none,0,rfl,xnR _,fun _=>rfl,fun j u hu=>(by cases hu)⟩
end
def Wrt (w:World) (sp:Option Addr) (n:Nat):Prop:=∀ j,j<n→∃ ad,sp=some ad∧(w.cell? (ad.add j)).isSome=true∧w.frozen? (ad.add j)=false
theorem Wrt.offB {w w':World} {sp:Option Addr} {n:Nat} {X:List Nat} (h:Wrt w sp n) (o:Off X w w') (hX:∀ b∈X,b∉ob sp):Wrt w' sp n:=fun j hj=>by
 obtain ⟨ad,e,h1,h2⟩:=h j hj
 subst e
 have hb:(ad.add j).block∉X:=by rw [add_block]; exact fun hm=>hX _ hm mS
 cases hc:w.cell? (ad.add j) with
 | none=>rw [hc] at h1; cases h1
 | some v=>exact ⟨ad,rfl,by rw [o.cell hc hb]; rfl,by rw [World.frozen?_of_block (o.blk _ (World.block_lt_of_cell? w _ hc) hb)]; exact h2⟩
theorem Wrt.below {w w':World} {sp:Option Addr} {n:Nat} (h:Wrt w sp n) (l:Below w.heap.size w w'):Wrt w' sp n:=h.offB (X:=[]) (Off.of_below l) (fun _ hb=>by cases hb)
theorem Mm.newWt {w0 w:World} {l:List (Nat × List Value)} {B cap:Nat} {cs:List Value} (M:Mm w0 l w) (hp:(B,cs)∈l) (L:List (Int × Int)) (hL:cs=wrc L) (hc:L.length≤cap):NewW w 0 L (.slice (some ⟨B,0,none⟩) L.length cap) :=
 ⟨_,_,rfl,hc,fun e=>(by cases e),fun j u hu=>⟨_,rfl,by rw [Addr.add_mid,Nat.zero_add]; exact M.get hp j u (by rw [hL]; exact hu)⟩,fun a e=>(by cases e; exact ⟨Nat.zero_le _,M.lt hp⟩)⟩
def OutI:=World→Value→Obx→List (Nat × List Value)→Prop
structure OutOK (I:OutI):Prop where
 ptr:∀ w v o bs,I w v o bs→∃ R,v=.pointer (some ⟨R,0,none⟩)
 off:∀ w w' v o bs X,I w v o bs→Off X w w'→(∀ b∈X,b∉bs.map Prod.fst)→I w' v o bs
 new:∀ (w0 w:World) (l:List (Nat × List Value)) (n:Int),i64 n→Mm w0 l w →
  Calls Try.prog 8 #[.int .i64 n] w fun e w'=>∃ v bs,e=.returned v∧I w' v (onew n) bs∧Mm w0 (bs++l) w'∧Below w.heap.size w w'
 wrt:∀ (w0 w:World) (v:Value) (o:Obx) (bs l:List (Nat × List Value)) (sp:Option Addr) (cap:Nat) (b:List Int),ObxW o→o.b.length<1000000→b.length<1000000→b.length≤cap→(sp=none→cap=0)→Byts b→I w v o bs→Mm w0 (bs++l) w→SrcA (bs.map Prod.fst) w sp b.length (bl b) →
  Calls Try.prog 11 #[v,.slice sp b.length cap] w fun e w'=>∃ bs',e=.returned (.int .i64 ((owN o b.length:Nat):Int))∧I w' v (owr o b) bs'∧Mm w0 (bs'++l) w'∧Off (bs.map Prod.fst) w w'
 alw:∀ (w0 w:World) (v:Value) (o:Obx) (bs l:List (Nat × List Value)) (n:Int),ObxW o→o.b.length<1000000→i64 n→I w v o bs→Mm w0 (bs++l) w →
  Calls Try.prog 19 #[v,.int .i64 n] w fun e w'=>∃ bs',e=.returned (.tuple #[])∧I w' v (oal o n) bs'∧Mm w0 (bs'++l) w'∧Off (bs.map Prod.fst) w w'
 nxt:∀ (w0 w:World) (v:Value) (o:Obx) (bs l:List (Nat × List Value)) (n:Int),ObxW o→o.b.length<1000000→i64 n→I w v o bs→Mm w0 (bs++l) w →
  Calls Try.prog 13 #[v,.int .i64 n] w fun e w'=>∃ sq cq bs',e=.returned (.tuple #[.agg #[.int .i64 ((onF o n:Nat):Int),.slice sq (onB o n).length cq],.bool (decide (0<onN o n))])∧NewL w' w.heap.size (onB o n) (.slice sq (onB o n).length cq)∧Wrt w' sq (onB o n).length∧I w' v (onx o n) bs'∧Mm w0 (bs'++(obs sq++l)) w'∧Off (bs.map Prod.fst) w w'
 lst:∀ (w0 w:World) (v:Value) (o:Obx) (bs l:List (Nat × List Value)) (p n:Int),ObxW o→o.b.length<1000000→i64 p→i64 n→I w v o bs→Mm w0 (bs++l) w →
  Calls Try.prog 15 #[v,.int .i64 p,.int .i64 n] w fun e w'=>∃ bs',e=.returned (.tuple #[])∧I w' v (olo o p n) bs'∧Mm w0 (bs'++l) w'∧Off (bs.map Prod.fst) w w'
 ack:∀ (w0 w:World) (v:Value) (o:Obx) (bs l:List (Nat × List Value)) (p:Int) (L:List (Int × Int)) (sl:Option Addr) (cl:Nat),ObxW o→o.b.length<1000000→i64 p→L.length<1000000→(∀ r∈L,i64 r.1∧i64 r.2)→RgW w L (.slice sl L.length cl)→(∀ b∈bs.map Prod.fst,L≠[]→b∉ob sl)→I w v o bs→Mm w0 (bs++l) w →
  Calls Try.prog 17 #[v,.int .i64 p,.slice sl L.length cl] w fun e w'=>∃ bs',e=.returned (.tuple #[])∧I w' v (oac o p L) bs'∧Mm w0 (bs'++l) w'∧Off (bs.map Prod.fst) w w'
 bas:∀ (w0 w:World) (v:Value) (o:Obx) (bs l:List (Nat × List Value)),ObxW o→o.b.length<1000000→I w v o bs→Mm w0 (bs++l) w →
  Calls Try.prog 22 #[v] w fun e w'=>e=.returned (.int .i64 ((obase o:Nat):Int))∧Below w.heap.size w w'
 end_:∀ (w0 w:World) (v:Value) (o:Obx) (bs l:List (Nat × List Value)),ObxW o→o.b.length<1000000→I w v o bs→Mm w0 (bs++l) w →
  Calls Try.prog 24 #[v] w fun e w'=>e=.returned (.int .i64 ((o.b.length:Nat):Int))∧Below w.heap.size w w'
 snt:∀ (w0 w:World) (v:Value) (o:Obx) (bs l:List (Nat × List Value)),ObxW o→o.b.length<1000000→I w v o bs→Mm w0 (bs++l) w →
  Calls Try.prog 25 #[v] w fun e w'=>e=.returned (.int .i64 ((o.sent:Nat):Int))∧Below w.heap.size w w'
 idl:∀ (w0 w:World) (v:Value) (o:Obx) (bs l:List (Nat × List Value)),ObxW o→o.b.length<1000000→I w v o bs→Mm w0 (bs++l) w →
  Calls Try.prog 26 #[v] w fun e w'=>e=.returned (.bool (oid o))∧Below w.heap.size w w'
 blk:∀ (w0 w:World) (v:Value) (o:Obx) (bs l:List (Nat × List Value)),ObxW o→o.b.length<1000000→I w v o bs→Mm w0 (bs++l) w →
  Calls Try.prog 28 #[v] w fun e w'=>e=.returned (.bool (obl o))∧Below w.heap.size w w'
theorem OutOK.bel {I:OutI} (h:OutOK I) {w w':World} {v:Value} {o:Obx} {bs:List (Nat × List Value)} (hI:I w v o bs) (l:Below w.heap.size w w'):I w' v o bs:=h.off w w' v o bs [] hI (Off.of_below l) (fun _ hb=>by cases hb)
theorem neqBo {P:Program} {o:Oper} {a:Act} (p q:Bool) (t t':TypeId) (x y:Operand) (ho:o.op=.binOp .neq t x y t') (hx:a.eval x=.bool p) (hy:a.eval y=.bool q) (ht:P.underlying t=some .bool) (r:Bool) (hr:(!(p == q))=r) (w:World):(execOp a.eval o).run P w=.ok (.value (.bool r)) w:=by
 unfold execOp
 simp only [ho,hx,hy,Sem.run_bind,eqGuard_at_bool,run_neq_bool w t p q ht,Sem.run_pure,Result.andThen_ok,hr]
def os0:Obx:=onew 4
theorem os0_w:ObxW os0:=onew_w 4
def os1:Obx:=oal os0 9
theorem os1_w:ObxW os1:=oal_w os0_w (by unfold i64; decide)
def os2:Obx:=owr os1 [97,98,99,100,101,102]
theorem os2_w:ObxW os2:=owr_w os1_w (by unfold Byts; decide)
def os3:Obx:=onx os2 3
theorem os3_w:ObxW os3:=onx_w os2_w 3
def os4:Obx:=onx os3 9
theorem os4_w:ObxW os4:=onx_w os3_w 9
def os5:Obx:=onx os4 9
theorem os5_w:ObxW os5:=onx_w os4_w 9
def os6:Obx:=olo os5 1 2
theorem os6_w:ObxW os6:=olo_w os5_w 1 2
def os7:Obx:=onx os6 9
theorem os7_w:ObxW os7:=onx_w os6_w 9
def os8:Obx:=olo os7 0 9
theorem os8_w:ObxW os8:=olo_w os7_w 0 9
def os9:Obx:=oac os8 2 [(3,4)]
theorem os9_w:ObxW os9:=oac_w os8_w 2 _
def os10:Obx:=onx os9 9
theorem os10_w:ObxW os10:=onx_w os9_w 9
def os11:Obx:=owr os10 [120,121,122]
theorem os11_w:ObxW os11:=owr_w os10_w (by unfold Byts; decide)
def os12:Obx:=oac os11 3 []
theorem os12_w:ObxW os12:=oac_w os11_w 3 _
theorem os2F:onF os2 3=0:=by decide +kernel
theorem os2B:onB os2 3=[97,98,99]:=by decide +kernel
theorem os2N:decide (0<onN os2 3)=true:=by decide +kernel
theorem os3F:onF os3 9=3:=by decide +kernel
theorem os3B:onB os3 9=[100]:=by decide +kernel
theorem os3N:decide (0<onN os3 9)=true:=by decide +kernel
theorem os4F:onF os4 9=0:=by decide +kernel
theorem os4B:onB os4 9=[]:=by decide +kernel
theorem os4N:decide (0<onN os4 9)=false:=by decide +kernel
theorem os6F:onF os6 9=1:=by decide +kernel
theorem os6B:onB os6 9=[98,99]:=by decide +kernel
theorem os6N:decide (0<onN os6 9)=true:=by decide +kernel
theorem os9F:onF os9 9=2:=by decide +kernel
theorem os9B:onB os9 9=[99]:=by decide +kernel
theorem os9N:decide (0<onN os9 9)=true:=by decide +kernel
theorem osw1:owN os1 6=4:=by decide +kernel
theorem osw2:owN os10 3=2:=by decide +kernel
theorem osb1:obase os10=2:=by decide +kernel
theorem osb2:obase os12=4:=by decide +kernel
theorem ose:os11.b.length=6:=by decide +kernel
theorem osi:oid os12=false:=by decide +kernel
theorem os0_l:os0.b.length<1000000:=by decide +kernel
theorem os1_l:os1.b.length<1000000:=by decide +kernel
theorem os2_l:os2.b.length<1000000:=by decide +kernel
theorem os3_l:os3.b.length<1000000:=by decide +kernel
theorem os4_l:os4.b.length<1000000:=by decide +kernel
theorem os5_l:os5.b.length<1000000:=by decide +kernel
theorem os6_l:os6.b.length<1000000:=by decide +kernel
theorem os7_l:os7.b.length<1000000:=by decide +kernel
theorem os8_l:os8.b.length<1000000:=by decide +kernel
theorem os9_l:os9.b.length<1000000:=by decide +kernel
theorem os10_l:os10.b.length<1000000:=by decide +kernel
theorem os11_l:os11.b.length<1000000:=by decide +kernel
theorem os12_l:os12.b.length<1000000:=by decide +kernel
theorem shown18_any {I:OutI} (hK:OutOK I) (w0:World) :
 Calls Try.prog 7 #[] w0 fun e w'=>e=.returned (.bool true)∧Below w0.heap.size w0 w':=by
 have M:=Mm.init w0
 go_enter Try.func7,Try.ntmps7
 go_upto_region 0 with fail; refine wp_region_list ?_; refine xpL (.bool false) ?_; refine xT ?_; go_upto_region 1 with fail; refine wp_region_list ?_; have key:=hK.new w0 _ _ 4 (by unfold i64; decide) M; refine xcL key ?_; clear key; rintro e w1 ⟨v_,ba0,rfl,hIa,M',l_⟩
 obtain ⟨Ra,rfl⟩:=hK.ptr _ _ _ _ hIa
 clear M; have M:=M'.perm (pull0 ([]:List (Nat × List Value)) ba0 ([]:List (Nat × List Value))).symm; clear M'; clear l_
 replace M:Mm w0 ((ba0++([]:List (Nat × List Value)))) w1:=M
 refine xeL ?_; refine xpL (.pointer (some ⟨Ra,0,none⟩)) ?_; refine xT ?_; go_upto_region 2 with fail; refine wp_region_list ?_; refine xpL (.pointer (some ⟨Ra,0,none⟩)) ?_; refine xpL (.bool false) ?_; refine xT ?_; go_upto_region 4 with fail; refine wp_region_list ?_; refine xpL (.pointer (some ⟨Ra,0,none⟩)) ?_
 have Mp:=M.perm (pull0 ([]:List (Nat × List Value)) ba0 ([]:List (Nat × List Value))); have key:=hK.alw w0 _ _ os0 ba0 _ 9 os0_w os0_l (by unfold i64; decide) hIa Mp
 rw [show oal os0 9=os1 from rfl] at key
 refine xcL key ?_; clear key; rintro e w2 ⟨ba1,rfl,hI_,M',o1⟩; clear o1 Mp M hIa; have hIa:=hI_; clear hI_
 have M:Mm w0 ((ba1++([]:List (Nat × List Value)))) w2:=M'.perm (pull0 ([]:List (Nat × List Value)) ba1 ([]:List (Nat × List Value))).symm
 clear M'; refine xeL ?_; refine xT ?_; go_upto_region 5 with fail; refine wp_region_list ?_; refine xpL (.pointer (some ⟨Ra,0,none⟩)) ?_; refine actL (w':=w2.alloc (.cells #[.int .u8 97,.int .u8 98,.int .u8 99,.int .u8 100,.int .u8 101,.int .u8 102] 5)) (.slice (some ⟨w2.heap.size,0,none⟩) 6 6) rfl (by kernel_rfl) ?_; simp only [aP,lI,l0,lS]
 refine actL (w':=w2.alloc (.cells #[.int .u8 97,.int .u8 98,.int .u8 99,.int .u8 100,.int .u8 101,.int .u8 102] 5 ((#[.int .u8 97,.int .u8 98,.int .u8 99,.int .u8 100,.int .u8 101,.int .u8 102]:Array Value).size,(#[.int .u8 97,.int .u8 98,.int .u8 99,.int .u8 100,.int .u8 101,.int .u8 102]:Array Value).size+1))) (.slice (some ⟨w2.heap.size,0,none⟩) 6 6) rfl (conv_const 28 5 #[.int .u8 97,.int .u8 98,.int .u8 99,.int .u8 100,.int .u8 101,.int .u8 102] 6 6 _ rfl rfl Try.underlying28 Try.underlying5) ?_
 simp only [aP,lI,l0,lS]; have hlb:=(Below.refl w2.heap.size w2).alloc (xnR _) (.cells #[.int .u8 97,.int .u8 98,.int .u8 99,.int .u8 100,.int .u8 101,.int .u8 102] 5 ((#[.int .u8 97,.int .u8 98,.int .u8 99,.int .u8 100,.int .u8 101,.int .u8 102]:Array Value).size,(#[.int .u8 97,.int .u8 98,.int .u8 99,.int .u8 100,.int .u8 101,.int .u8 102]:Array Value).size+1))
 replace hIa:=hK.bel hIa hlb; replace M:=M.boxC #[.int .u8 97,.int .u8 98,.int .u8 99,.int .u8 100,.int .u8 101,.int .u8 102] 5 (((#[.int .u8 97,.int .u8 98,.int .u8 99,.int .u8 100,.int .u8 101,.int .u8 102]:Array Value)).size,((#[.int .u8 97,.int .u8 98,.int .u8 99,.int .u8 100,.int .u8 101,.int .u8 102]:Array Value)).size+1) w2.heap.size rfl (xnR _); clear hlb
 generalize w2.alloc (.cells #[.int .u8 97,.int .u8 98,.int .u8 99,.int .u8 100,.int .u8 101,.int .u8 102] 5 ((#[.int .u8 97,.int .u8 98,.int .u8 99,.int .u8 100,.int .u8 101,.int .u8 102]:Array Value).size,(#[.int .u8 97,.int .u8 98,.int .u8 99,.int .u8 100,.int .u8 101,.int .u8 102]:Array Value).size+1))=w3 at M hIa ⊢; generalize w2.heap.size=B3 at M ⊢
 replace M:Mm w0 ((B3,[.int .u8 97,.int .u8 98,.int .u8 99,.int .u8 100,.int .u8 101,.int .u8 102])::(ba1++([]:List (Nat × List Value)))) w3:=M
 have Mp:=M.perm (pull0 ([(B3,[.int .u8 97,.int .u8 98,.int .u8 99,.int .u8 100,.int .u8 101,.int .u8 102])]:List (Nat × List Value)) ba1 ([]:List (Nat × List Value)))
 have key:=hK.wrt w0 _ _ os1 ba1 _ (some ⟨B3,0,none⟩) 6 [97,98,99,100,101,102] os1_w os1_l (by decide) (by decide) (fun e=>by cases e) (by unfold Byts; decide) hIa Mp (show SrcA _ _ _ _ _ from ⟨(M.src mS [97,98,99,100,101,102] rfl),fun ad e _=>by cases e; exact Mp.beside mS⟩)
 rw [show owN os1 ([97,98,99,100,101,102]:List Int).length=4 from osw1] at key
 rw [show owr os1 [97,98,99,100,101,102]=os2 from rfl] at key
 refine xcL key ?_; clear key; rintro e w4 ⟨ba2,rfl,hI_,M',o1⟩; clear o1 Mp M hIa; have hIa:=hI_; clear hI_
 have M:Mm w0 ((B3,[.int .u8 97,.int .u8 98,.int .u8 99,.int .u8 100,.int .u8 101,.int .u8 102])::(ba2++([]:List (Nat × List Value)))) w4:=M'.perm (pull0 ([(B3,[.int .u8 97,.int .u8 98,.int .u8 99,.int .u8 100,.int .u8 101,.int .u8 102])]:List (Nat × List Value)) ba2 ([]:List (Nat × List Value))).symm
 clear M'; refine xeL ?_; refine xpL (.int .i64 ((4:Nat):Int)) ?_; refine xT ?_; go_upto_region 6 with fail; refine wp_region_list ?_; refine xpL (.pointer (some ⟨Ra,0,none⟩)) ?_; have Mp:=M.perm (pull0 ([(B3,[.int .u8 97,.int .u8 98,.int .u8 99,.int .u8 100,.int .u8 101,.int .u8 102])]:List (Nat × List Value)) ba2 ([]:List (Nat × List Value)))
 have key:=hK.nxt w0 _ _ os2 ba2 _ 3 os2_w os2_l (by unfold i64; decide) hIa Mp
 rw [os2F] at key
 rw [os2B] at key
 rw [os2N] at key
 rw [show onx os2 3=os3 from rfl] at key
 refine xcL key ?_; clear key; rintro e w5 ⟨p5,c5,ba3,rfl,N_5,T_5,hI_,M',o1⟩; clear o1 Mp M hIa; have hIa:=hI_; clear hI_
 have M:Mm w0 ((B3,[.int .u8 97,.int .u8 98,.int .u8 99,.int .u8 100,.int .u8 101,.int .u8 102])::(ba3++((obs p5)++([]:List (Nat × List Value))))) w5:=M'.perm (pullY ([(B3,[.int .u8 97,.int .u8 98,.int .u8 99,.int .u8 100,.int .u8 101,.int .u8 102])]:List (Nat × List Value)) ba3 (obs p5) ([]:List (Nat × List Value)))
 clear M'; refine xeL ?_
 obtain ⟨bs5,N_5⟩:∃ b_,NewF w5 b_ ([97,98,99]:List Int).length (bl ([97,98,99])) (.slice p5 ([97,98,99]:List Int).length c5):=⟨_,N_5⟩
 refine xpL (.tuple #[.agg #[.int .i64 ((0:Nat):Int),.slice p5 (([97,98,99]:List Int).length) c5],.bool true]) ?_; refine xpL (.agg #[.int .i64 ((0:Nat):Int),.slice p5 (([97,98,99]:List Int).length) c5]) ?_; refine xpL (.bool true) ?_; have hlb:=(Below.refl w5.heap.size w5).alloc (xnR _) (.cells #[.int .i64 0,.slice none 0 0] 35)
 refine actL (w':=w5.alloc (.cells #[.int .i64 0,.slice none 0 0] 35)) (.pointer (some ⟨w5.heap.size,0,none⟩)) rfl (by kernel_rfl) ?_; simp only [aP,lI,l0,lS]; replace hIa:=hK.bel hIa hlb; replace N_5:=NewF.below N_5 hlb; replace T_5:=Wrt.below T_5 hlb; replace M:=M.box #[.int .i64 0,.slice none 0 0] 35 w5.heap.size rfl; clear hlb
 generalize w5.alloc (.cells #[.int .i64 0,.slice none 0 0] 35)=w6 at M hIa N_5 T_5 ⊢; generalize w5.heap.size=B6 at M ⊢
 replace M:Mm w0 ((B6,[.int .i64 0,.slice none 0 0])::(B3,[.int .u8 97,.int .u8 98,.int .u8 99,.int .u8 100,.int .u8 101,.int .u8 102])::(ba3++((obs p5)++([]:List (Nat × List Value))))) w6:=M
 refine skipOpL rfl (storeP [.int .i64 ((0:Nat):Int),.slice p5 (([97,98,99]:List Int).length) c5] B6 0 35 _ _ rfl rfl rfl (M.thereP mS 0 2 (Nat.le_of_ble_eq_true rfl)) (by kernel_rfl) (List.all_eq_true.1 (rfl:([.int .i64 ((0:Nat):Int),.slice p5 (([97,98,99]:List Int).length) c5]:List Value).all (fun u=>u.oneCell')=true))) ?_; simp only [Act.put]
 replace M:=M.setPart [.int .i64 ((0:Nat):Int),.slice p5 (([97,98,99]:List Int).length) c5] 0 (Nat.le_of_ble_eq_true rfl); replace hIa:=hK.off _ _ _ _ _ _ hIa ((Off.refl [B6] _).setAll (b:=B6) mS 0 [.int .i64 ((0:Nat):Int),.slice p5 (([97,98,99]:List Int).length) c5]) (fun b_ hb_=>by obtain rfl:=xm1 hb_; exact M.awayC (fun p_ hp_=>by simp [hp_]))
 replace N_5:=NewF.offB N_5 ((Off.refl [B6] _).setAll (b:=B6) mS 0 [.int .i64 ((0:Nat):Int),.slice p5 (([97,98,99]:List Int).length) c5]) (fun b_ hb_=>by obtain rfl:=xm1 hb_; exact M.awayB (fun p_ hp_=>by simp [hp_]))
 replace T_5:=Wrt.offB T_5 ((Off.refl [B6] _).setAll (b:=B6) mS 0 [.int .i64 ((0:Nat):Int),.slice p5 (([97,98,99]:List Int).length) c5]) (fun b_ hb_=>by obtain rfl:=xm1 hb_; exact M.awayB (fun p_ hp_=>by simp [hp_])); generalize w6.setCells B6 0 [.int .i64 ((0:Nat):Int),.slice p5 (([97,98,99]:List Int).length) c5]=w7 at M hIa N_5 T_5 ⊢
 replace M:Mm w0 ((B6,[.int .i64 ((0:Nat):Int),.slice p5 (([97,98,99]:List Int).length) c5])::(B3,[.int .u8 97,.int .u8 98,.int .u8 99,.int .u8 100,.int .u8 101,.int .u8 102])::(ba3++((obs p5)++([]:List (Nat × List Value))))) w7:=M
 refine xpL (.bool true) ?_; refine xT ?_; go_upto_region 7 with fail; refine wp_region_list ?_; refine xpL (.pointer (some ⟨Ra,0,none⟩)) ?_
 have Mp:=M.perm (pull0 ([(B6,[.int .i64 ((0:Nat):Int),.slice p5 (([97,98,99]:List Int).length) c5]),(B3,[.int .u8 97,.int .u8 98,.int .u8 99,.int .u8 100,.int .u8 101,.int .u8 102])]:List (Nat × List Value)) ba3 ((obs p5)++([]:List (Nat × List Value)))); have key:=hK.nxt w0 _ _ os3 ba3 _ 9 os3_w os3_l (by unfold i64; decide) hIa Mp
 rw [os3F] at key
 rw [os3B] at key
 rw [os3N] at key
 rw [show onx os3 9=os4 from rfl] at key
 refine xcL key ?_; clear key; rintro e w8 ⟨p8,c8,ba4,rfl,N_8,T_8,hI_,M',o1⟩; replace N_5:=NewF.offB N_5 o1 (Mp.awayS (fun p_ hp_=>by simp [hp_])); replace T_5:=Wrt.offB T_5 o1 (Mp.awayS (fun p_ hp_=>by simp [hp_])); clear o1 Mp M hIa; have hIa:=hI_; clear hI_
 have M:Mm w0 ((B6,[.int .i64 ((0:Nat):Int),.slice p5 (([97,98,99]:List Int).length) c5])::(B3,[.int .u8 97,.int .u8 98,.int .u8 99,.int .u8 100,.int .u8 101,.int .u8 102])::(ba4++((obs p8)++((obs p5)++([]:List (Nat × List Value)))))) w8:=M'.perm (pullY ([(B6,[.int .i64 ((0:Nat):Int),.slice p5 (([97,98,99]:List Int).length) c5]),(B3,[.int .u8 97,.int .u8 98,.int .u8 99,.int .u8 100,.int .u8 101,.int .u8 102])]:List (Nat × List Value)) ba4 (obs p8) ((obs p5)++([]:List (Nat × List Value))))
 clear M'; refine xeL ?_
 obtain ⟨bs8,N_8⟩:∃ b_,NewF w8 b_ ([100]:List Int).length (bl ([100])) (.slice p8 ([100]:List Int).length c8):=⟨_,N_8⟩
 refine xpL (.tuple #[.agg #[.int .i64 ((3:Nat):Int),.slice p8 (([100]:List Int).length) c8],.bool true]) ?_; refine xpL (.agg #[.int .i64 ((3:Nat):Int),.slice p8 (([100]:List Int).length) c8]) ?_; refine xpL (.bool true) ?_; have hlb:=(Below.refl w8.heap.size w8).alloc (xnR _) (.cells #[.int .i64 0,.slice none 0 0] 35)
 refine actL (w':=w8.alloc (.cells #[.int .i64 0,.slice none 0 0] 35)) (.pointer (some ⟨w8.heap.size,0,none⟩)) rfl (by kernel_rfl) ?_; simp only [aP,lI,l0,lS]; replace hIa:=hK.bel hIa hlb; replace N_5:=NewF.below N_5 hlb; replace T_5:=Wrt.below T_5 hlb; replace N_8:=NewF.below N_8 hlb; replace T_8:=Wrt.below T_8 hlb
 replace M:=M.box #[.int .i64 0,.slice none 0 0] 35 w8.heap.size rfl; clear hlb; generalize w8.alloc (.cells #[.int .i64 0,.slice none 0 0] 35)=w9 at M hIa N_5 T_5 N_8 T_8 ⊢; generalize w8.heap.size=B9 at M ⊢
 replace M:Mm w0 ((B9,[.int .i64 0,.slice none 0 0])::(B6,[.int .i64 ((0:Nat):Int),.slice p5 (([97,98,99]:List Int).length) c5])::(B3,[.int .u8 97,.int .u8 98,.int .u8 99,.int .u8 100,.int .u8 101,.int .u8 102])::(ba4++((obs p8)++((obs p5)++([]:List (Nat × List Value)))))) w9:=M
 refine skipOpL rfl (storeP [.int .i64 ((3:Nat):Int),.slice p8 (([100]:List Int).length) c8] B9 0 35 _ _ rfl rfl rfl (M.thereP mS 0 2 (Nat.le_of_ble_eq_true rfl)) (by kernel_rfl) (List.all_eq_true.1 (rfl:([.int .i64 ((3:Nat):Int),.slice p8 (([100]:List Int).length) c8]:List Value).all (fun u=>u.oneCell')=true))) ?_; simp only [Act.put]
 replace M:=M.setPart [.int .i64 ((3:Nat):Int),.slice p8 (([100]:List Int).length) c8] 0 (Nat.le_of_ble_eq_true rfl); replace hIa:=hK.off _ _ _ _ _ _ hIa ((Off.refl [B9] _).setAll (b:=B9) mS 0 [.int .i64 ((3:Nat):Int),.slice p8 (([100]:List Int).length) c8]) (fun b_ hb_=>by obtain rfl:=xm1 hb_; exact M.awayC (fun p_ hp_=>by simp [hp_]))
 replace N_5:=NewF.offB N_5 ((Off.refl [B9] _).setAll (b:=B9) mS 0 [.int .i64 ((3:Nat):Int),.slice p8 (([100]:List Int).length) c8]) (fun b_ hb_=>by obtain rfl:=xm1 hb_; exact M.awayB (fun p_ hp_=>by simp [hp_]))
 replace T_5:=Wrt.offB T_5 ((Off.refl [B9] _).setAll (b:=B9) mS 0 [.int .i64 ((3:Nat):Int),.slice p8 (([100]:List Int).length) c8]) (fun b_ hb_=>by obtain rfl:=xm1 hb_; exact M.awayB (fun p_ hp_=>by simp [hp_]))
 replace N_8:=NewF.offB N_8 ((Off.refl [B9] _).setAll (b:=B9) mS 0 [.int .i64 ((3:Nat):Int),.slice p8 (([100]:List Int).length) c8]) (fun b_ hb_=>by obtain rfl:=xm1 hb_; exact M.awayB (fun p_ hp_=>by simp [hp_]))
 replace T_8:=Wrt.offB T_8 ((Off.refl [B9] _).setAll (b:=B9) mS 0 [.int .i64 ((3:Nat):Int),.slice p8 (([100]:List Int).length) c8]) (fun b_ hb_=>by obtain rfl:=xm1 hb_; exact M.awayB (fun p_ hp_=>by simp [hp_])); generalize w9.setCells B9 0 [.int .i64 ((3:Nat):Int),.slice p8 (([100]:List Int).length) c8]=w10 at M hIa N_5 T_5 N_8 T_8 ⊢
 replace M:Mm w0 ((B9,[.int .i64 ((3:Nat):Int),.slice p8 (([100]:List Int).length) c8])::(B6,[.int .i64 ((0:Nat):Int),.slice p5 (([97,98,99]:List Int).length) c5])::(B3,[.int .u8 97,.int .u8 98,.int .u8 99,.int .u8 100,.int .u8 101,.int .u8 102])::(ba4++((obs p8)++((obs p5)++([]:List (Nat × List Value)))))) w10:=M
 refine xpL (.bool true) ?_; refine xT ?_; go_upto_region 8 with fail; refine wp_region_list ?_; refine xpL (.pointer (some ⟨Ra,0,none⟩)) ?_
 have Mp:=M.perm (pull0 ([(B9,[.int .i64 ((3:Nat):Int),.slice p8 (([100]:List Int).length) c8]),(B6,[.int .i64 ((0:Nat):Int),.slice p5 (([97,98,99]:List Int).length) c5]),(B3,[.int .u8 97,.int .u8 98,.int .u8 99,.int .u8 100,.int .u8 101,.int .u8 102])]:List (Nat × List Value)) ba4 ((obs p8)++((obs p5)++([]:List (Nat × List Value)))))
 have key:=hK.nxt w0 _ _ os4 ba4 _ 9 os4_w os4_l (by unfold i64; decide) hIa Mp
 rw [os4F] at key
 rw [os4B] at key
 rw [os4N] at key
 rw [show onx os4 9=os5 from rfl] at key
 refine xcL key ?_; clear key; rintro e w11 ⟨p11,c11,ba5,rfl,N_11,T_11,hI_,M',o1⟩; replace N_5:=NewF.offB N_5 o1 (Mp.awayS (fun p_ hp_=>by simp [hp_])); replace T_5:=Wrt.offB T_5 o1 (Mp.awayS (fun p_ hp_=>by simp [hp_])); replace N_8:=NewF.offB N_8 o1 (Mp.awayS (fun p_ hp_=>by simp [hp_])); replace T_8:=Wrt.offB T_8 o1 (Mp.awayS (fun p_ hp_=>by simp [hp_]))
 clear o1 Mp M hIa; have hIa:=hI_; clear hI_
 have M:Mm w0 ((B9,[.int .i64 ((3:Nat):Int),.slice p8 (([100]:List Int).length) c8])::(B6,[.int .i64 ((0:Nat):Int),.slice p5 (([97,98,99]:List Int).length) c5])::(B3,[.int .u8 97,.int .u8 98,.int .u8 99,.int .u8 100,.int .u8 101,.int .u8 102])::(ba5++((obs p11)++((obs p8)++((obs p5)++([]:List (Nat × List Value))))))) w11:=M'.perm (pullY ([(B9,[.int .i64 ((3:Nat):Int),.slice p8 (([100]:List Int).length) c8]),(B6,[.int .i64 ((0:Nat):Int),.slice p5 (([97,98,99]:List Int).length) c5]),(B3,[.int .u8 97,.int .u8 98,.int .u8 99,.int .u8 100,.int .u8 101,.int .u8 102])]:List (Nat × List Value)) ba5 (obs p11) ((obs p8)++((obs p5)++([]:List (Nat × List Value)))))
 clear M'; refine xeL ?_
 obtain ⟨bs11,N_11⟩:∃ b_,NewF w11 b_ ([]:List Int).length (bl ([])) (.slice p11 ([]:List Int).length c11):=⟨_,N_11⟩
 refine xpL (.tuple #[.agg #[.int .i64 ((0:Nat):Int),.slice p11 (([]:List Int).length) c11],.bool false]) ?_; refine xpL (.agg #[.int .i64 ((0:Nat):Int),.slice p11 (([]:List Int).length) c11]) ?_; refine xpL (.bool false) ?_; have hlb:=(Below.refl w11.heap.size w11).alloc (xnR _) (.cells #[.int .i64 0,.slice none 0 0] 35)
 refine actL (w':=w11.alloc (.cells #[.int .i64 0,.slice none 0 0] 35)) (.pointer (some ⟨w11.heap.size,0,none⟩)) rfl (by kernel_rfl) ?_; simp only [aP,lI,l0,lS]; replace hIa:=hK.bel hIa hlb; replace N_5:=NewF.below N_5 hlb; replace T_5:=Wrt.below T_5 hlb; replace N_8:=NewF.below N_8 hlb; replace T_8:=Wrt.below T_8 hlb; replace N_11:=NewF.below N_11 hlb
 replace T_11:=Wrt.below T_11 hlb; replace M:=M.box #[.int .i64 0,.slice none 0 0] 35 w11.heap.size rfl; clear hlb; generalize w11.alloc (.cells #[.int .i64 0,.slice none 0 0] 35)=w12 at M hIa N_5 T_5 N_8 T_8 N_11 T_11 ⊢; generalize w11.heap.size=B12 at M ⊢
 replace M:Mm w0 ((B12,[.int .i64 0,.slice none 0 0])::(B9,[.int .i64 ((3:Nat):Int),.slice p8 (([100]:List Int).length) c8])::(B6,[.int .i64 ((0:Nat):Int),.slice p5 (([97,98,99]:List Int).length) c5])::(B3,[.int .u8 97,.int .u8 98,.int .u8 99,.int .u8 100,.int .u8 101,.int .u8 102])::(ba5++((obs p11)++((obs p8)++((obs p5)++([]:List (Nat × List Value))))))) w12:=M
 refine skipOpL rfl (storeP [.int .i64 ((0:Nat):Int),.slice p11 (([]:List Int).length) c11] B12 0 35 _ _ rfl rfl rfl (M.thereP mS 0 2 (Nat.le_of_ble_eq_true rfl)) (by kernel_rfl) (List.all_eq_true.1 (rfl:([.int .i64 ((0:Nat):Int),.slice p11 (([]:List Int).length) c11]:List Value).all (fun u=>u.oneCell')=true))) ?_; simp only [Act.put]
 replace M:=M.setPart [.int .i64 ((0:Nat):Int),.slice p11 (([]:List Int).length) c11] 0 (Nat.le_of_ble_eq_true rfl); replace hIa:=hK.off _ _ _ _ _ _ hIa ((Off.refl [B12] _).setAll (b:=B12) mS 0 [.int .i64 ((0:Nat):Int),.slice p11 (([]:List Int).length) c11]) (fun b_ hb_=>by obtain rfl:=xm1 hb_; exact M.awayC (fun p_ hp_=>by simp [hp_]))
 replace N_5:=NewF.offB N_5 ((Off.refl [B12] _).setAll (b:=B12) mS 0 [.int .i64 ((0:Nat):Int),.slice p11 (([]:List Int).length) c11]) (fun b_ hb_=>by obtain rfl:=xm1 hb_; exact M.awayB (fun p_ hp_=>by simp [hp_]))
 replace T_5:=Wrt.offB T_5 ((Off.refl [B12] _).setAll (b:=B12) mS 0 [.int .i64 ((0:Nat):Int),.slice p11 (([]:List Int).length) c11]) (fun b_ hb_=>by obtain rfl:=xm1 hb_; exact M.awayB (fun p_ hp_=>by simp [hp_]))
 replace N_8:=NewF.offB N_8 ((Off.refl [B12] _).setAll (b:=B12) mS 0 [.int .i64 ((0:Nat):Int),.slice p11 (([]:List Int).length) c11]) (fun b_ hb_=>by obtain rfl:=xm1 hb_; exact M.awayB (fun p_ hp_=>by simp [hp_]))
 replace T_8:=Wrt.offB T_8 ((Off.refl [B12] _).setAll (b:=B12) mS 0 [.int .i64 ((0:Nat):Int),.slice p11 (([]:List Int).length) c11]) (fun b_ hb_=>by obtain rfl:=xm1 hb_; exact M.awayB (fun p_ hp_=>by simp [hp_]))
 replace N_11:=NewF.offB N_11 ((Off.refl [B12] _).setAll (b:=B12) mS 0 [.int .i64 ((0:Nat):Int),.slice p11 (([]:List Int).length) c11]) (fun b_ hb_=>by obtain rfl:=xm1 hb_; exact M.awayB (fun p_ hp_=>by simp [hp_]))
 replace T_11:=Wrt.offB T_11 ((Off.refl [B12] _).setAll (b:=B12) mS 0 [.int .i64 ((0:Nat):Int),.slice p11 (([]:List Int).length) c11]) (fun b_ hb_=>by obtain rfl:=xm1 hb_; exact M.awayB (fun p_ hp_=>by simp [hp_])); generalize w12.setCells B12 0 [.int .i64 ((0:Nat):Int),.slice p11 (([]:List Int).length) c11]=w13 at M hIa N_5 T_5 N_8 T_8 N_11 T_11 ⊢
 replace M:Mm w0 ((B12,[.int .i64 ((0:Nat):Int),.slice p11 (([]:List Int).length) c11])::(B9,[.int .i64 ((3:Nat):Int),.slice p8 (([100]:List Int).length) c8])::(B6,[.int .i64 ((0:Nat):Int),.slice p5 (([97,98,99]:List Int).length) c5])::(B3,[.int .u8 97,.int .u8 98,.int .u8 99,.int .u8 100,.int .u8 101,.int .u8 102])::(ba5++((obs p11)++((obs p8)++((obs p5)++([]:List (Nat × List Value))))))) w13:=M
 refine xpL (.bool false) ?_; refine xT ?_; go_upto_region 9 with fail; refine wp_region_list ?_; refine xpL (.pointer (some ⟨Ra,0,none⟩)) ?_
 have Mp:=M.perm (pull0 ([(B12,[.int .i64 ((0:Nat):Int),.slice p11 (([]:List Int).length) c11]),(B9,[.int .i64 ((3:Nat):Int),.slice p8 (([100]:List Int).length) c8]),(B6,[.int .i64 ((0:Nat):Int),.slice p5 (([97,98,99]:List Int).length) c5]),(B3,[.int .u8 97,.int .u8 98,.int .u8 99,.int .u8 100,.int .u8 101,.int .u8 102])]:List (Nat × List Value)) ba5 ((obs p11)++((obs p8)++((obs p5)++([]:List (Nat × List Value))))))
 have key:=hK.lst w0 _ _ os5 ba5 _ 1 2 os5_w os5_l (by unfold i64; decide) (by unfold i64; decide) hIa Mp
 rw [show olo os5 1 2=os6 from rfl] at key
 refine xcL key ?_; clear key; rintro e w14 ⟨ba6,rfl,hI_,M',o1⟩; replace N_5:=NewF.offB N_5 o1 (Mp.awayS (fun p_ hp_=>by simp [hp_])); replace T_5:=Wrt.offB T_5 o1 (Mp.awayS (fun p_ hp_=>by simp [hp_])); replace N_8:=NewF.offB N_8 o1 (Mp.awayS (fun p_ hp_=>by simp [hp_])); replace T_8:=Wrt.offB T_8 o1 (Mp.awayS (fun p_ hp_=>by simp [hp_]))
 replace N_11:=NewF.offB N_11 o1 (Mp.awayS (fun p_ hp_=>by simp [hp_])); replace T_11:=Wrt.offB T_11 o1 (Mp.awayS (fun p_ hp_=>by simp [hp_])); clear o1 Mp M hIa; have hIa:=hI_; clear hI_
 have M:Mm w0 ((B12,[.int .i64 ((0:Nat):Int),.slice p11 (([]:List Int).length) c11])::(B9,[.int .i64 ((3:Nat):Int),.slice p8 (([100]:List Int).length) c8])::(B6,[.int .i64 ((0:Nat):Int),.slice p5 (([97,98,99]:List Int).length) c5])::(B3,[.int .u8 97,.int .u8 98,.int .u8 99,.int .u8 100,.int .u8 101,.int .u8 102])::(ba6++((obs p11)++((obs p8)++((obs p5)++([]:List (Nat × List Value))))))) w14:=M'.perm (pull0 ([(B12,[.int .i64 ((0:Nat):Int),.slice p11 (([]:List Int).length) c11]),(B9,[.int .i64 ((3:Nat):Int),.slice p8 (([100]:List Int).length) c8]),(B6,[.int .i64 ((0:Nat):Int),.slice p5 (([97,98,99]:List Int).length) c5]),(B3,[.int .u8 97,.int .u8 98,.int .u8 99,.int .u8 100,.int .u8 101,.int .u8 102])]:List (Nat × List Value)) ba6 ((obs p11)++((obs p8)++((obs p5)++([]:List (Nat × List Value)))))).symm
 clear M'; refine xeL ?_; refine xT ?_; go_upto_region 10 with fail; refine wp_region_list ?_; refine xpL (.pointer (some ⟨Ra,0,none⟩)) ?_
 have Mp:=M.perm (pull0 ([(B12,[.int .i64 ((0:Nat):Int),.slice p11 (([]:List Int).length) c11]),(B9,[.int .i64 ((3:Nat):Int),.slice p8 (([100]:List Int).length) c8]),(B6,[.int .i64 ((0:Nat):Int),.slice p5 (([97,98,99]:List Int).length) c5]),(B3,[.int .u8 97,.int .u8 98,.int .u8 99,.int .u8 100,.int .u8 101,.int .u8 102])]:List (Nat × List Value)) ba6 ((obs p11)++((obs p8)++((obs p5)++([]:List (Nat × List Value))))))
 have key:=hK.nxt w0 _ _ os6 ba6 _ 9 os6_w os6_l (by unfold i64; decide) hIa Mp
 rw [os6F] at key
 rw [os6B] at key
 rw [os6N] at key
 rw [show onx os6 9=os7 from rfl] at key
 refine xcL key ?_; clear key; rintro e w15 ⟨p15,c15,ba7,rfl,N_15,T_15,hI_,M',o1⟩; replace N_5:=NewF.offB N_5 o1 (Mp.awayS (fun p_ hp_=>by simp [hp_])); replace T_5:=Wrt.offB T_5 o1 (Mp.awayS (fun p_ hp_=>by simp [hp_])); replace N_8:=NewF.offB N_8 o1 (Mp.awayS (fun p_ hp_=>by simp [hp_])); replace T_8:=Wrt.offB T_8 o1 (Mp.awayS (fun p_ hp_=>by simp [hp_]))
 replace N_11:=NewF.offB N_11 o1 (Mp.awayS (fun p_ hp_=>by simp [hp_])); replace T_11:=Wrt.offB T_11 o1 (Mp.awayS (fun p_ hp_=>by simp [hp_])); clear o1 Mp M hIa; have hIa:=hI_; clear hI_
 have M:Mm w0 ((B12,[.int .i64 ((0:Nat):Int),.slice p11 (([]:List Int).length) c11])::(B9,[.int .i64 ((3:Nat):Int),.slice p8 (([100]:List Int).length) c8])::(B6,[.int .i64 ((0:Nat):Int),.slice p5 (([97,98,99]:List Int).length) c5])::(B3,[.int .u8 97,.int .u8 98,.int .u8 99,.int .u8 100,.int .u8 101,.int .u8 102])::(ba7++((obs p15)++((obs p11)++((obs p8)++((obs p5)++([]:List (Nat × List Value)))))))) w15:=M'.perm (pullY ([(B12,[.int .i64 ((0:Nat):Int),.slice p11 (([]:List Int).length) c11]),(B9,[.int .i64 ((3:Nat):Int),.slice p8 (([100]:List Int).length) c8]),(B6,[.int .i64 ((0:Nat):Int),.slice p5 (([97,98,99]:List Int).length) c5]),(B3,[.int .u8 97,.int .u8 98,.int .u8 99,.int .u8 100,.int .u8 101,.int .u8 102])]:List (Nat × List Value)) ba7 (obs p15) ((obs p11)++((obs p8)++((obs p5)++([]:List (Nat × List Value))))))
 clear M'; refine xeL ?_
 obtain ⟨bs15,N_15⟩:∃ b_,NewF w15 b_ ([98,99]:List Int).length (bl ([98,99])) (.slice p15 ([98,99]:List Int).length c15):=⟨_,N_15⟩
 refine xpL (.tuple #[.agg #[.int .i64 ((1:Nat):Int),.slice p15 (([98,99]:List Int).length) c15],.bool true]) ?_; refine xpL (.agg #[.int .i64 ((1:Nat):Int),.slice p15 (([98,99]:List Int).length) c15]) ?_; refine xpL (.bool true) ?_; have hlb:=(Below.refl w15.heap.size w15).alloc (xnR _) (.cells #[.int .i64 0,.slice none 0 0] 35)
 refine actL (w':=w15.alloc (.cells #[.int .i64 0,.slice none 0 0] 35)) (.pointer (some ⟨w15.heap.size,0,none⟩)) rfl (by kernel_rfl) ?_; simp only [aP,lI,l0,lS]; replace hIa:=hK.bel hIa hlb; replace N_5:=NewF.below N_5 hlb; replace T_5:=Wrt.below T_5 hlb; replace N_8:=NewF.below N_8 hlb; replace T_8:=Wrt.below T_8 hlb; replace N_11:=NewF.below N_11 hlb
 replace T_11:=Wrt.below T_11 hlb; replace N_15:=NewF.below N_15 hlb; replace T_15:=Wrt.below T_15 hlb; replace M:=M.box #[.int .i64 0,.slice none 0 0] 35 w15.heap.size rfl; clear hlb; generalize w15.alloc (.cells #[.int .i64 0,.slice none 0 0] 35)=w16 at M hIa N_5 T_5 N_8 T_8 N_11 T_11 N_15 T_15 ⊢; generalize w15.heap.size=B16 at M ⊢
 replace M:Mm w0 ((B16,[.int .i64 0,.slice none 0 0])::(B12,[.int .i64 ((0:Nat):Int),.slice p11 (([]:List Int).length) c11])::(B9,[.int .i64 ((3:Nat):Int),.slice p8 (([100]:List Int).length) c8])::(B6,[.int .i64 ((0:Nat):Int),.slice p5 (([97,98,99]:List Int).length) c5])::(B3,[.int .u8 97,.int .u8 98,.int .u8 99,.int .u8 100,.int .u8 101,.int .u8 102])::(ba7++((obs p15)++((obs p11)++((obs p8)++((obs p5)++([]:List (Nat × List Value)))))))) w16:=M
 refine skipOpL rfl (storeP [.int .i64 ((1:Nat):Int),.slice p15 (([98,99]:List Int).length) c15] B16 0 35 _ _ rfl rfl rfl (M.thereP mS 0 2 (Nat.le_of_ble_eq_true rfl)) (by kernel_rfl) (List.all_eq_true.1 (rfl:([.int .i64 ((1:Nat):Int),.slice p15 (([98,99]:List Int).length) c15]:List Value).all (fun u=>u.oneCell')=true))) ?_; simp only [Act.put]
 replace M:=M.setPart [.int .i64 ((1:Nat):Int),.slice p15 (([98,99]:List Int).length) c15] 0 (Nat.le_of_ble_eq_true rfl); replace hIa:=hK.off _ _ _ _ _ _ hIa ((Off.refl [B16] _).setAll (b:=B16) mS 0 [.int .i64 ((1:Nat):Int),.slice p15 (([98,99]:List Int).length) c15]) (fun b_ hb_=>by obtain rfl:=xm1 hb_; exact M.awayC (fun p_ hp_=>by simp [hp_]))
 replace N_5:=NewF.offB N_5 ((Off.refl [B16] _).setAll (b:=B16) mS 0 [.int .i64 ((1:Nat):Int),.slice p15 (([98,99]:List Int).length) c15]) (fun b_ hb_=>by obtain rfl:=xm1 hb_; exact M.awayB (fun p_ hp_=>by simp [hp_]))
 replace T_5:=Wrt.offB T_5 ((Off.refl [B16] _).setAll (b:=B16) mS 0 [.int .i64 ((1:Nat):Int),.slice p15 (([98,99]:List Int).length) c15]) (fun b_ hb_=>by obtain rfl:=xm1 hb_; exact M.awayB (fun p_ hp_=>by simp [hp_]))
 replace N_8:=NewF.offB N_8 ((Off.refl [B16] _).setAll (b:=B16) mS 0 [.int .i64 ((1:Nat):Int),.slice p15 (([98,99]:List Int).length) c15]) (fun b_ hb_=>by obtain rfl:=xm1 hb_; exact M.awayB (fun p_ hp_=>by simp [hp_]))
 replace T_8:=Wrt.offB T_8 ((Off.refl [B16] _).setAll (b:=B16) mS 0 [.int .i64 ((1:Nat):Int),.slice p15 (([98,99]:List Int).length) c15]) (fun b_ hb_=>by obtain rfl:=xm1 hb_; exact M.awayB (fun p_ hp_=>by simp [hp_]))
 replace N_11:=NewF.offB N_11 ((Off.refl [B16] _).setAll (b:=B16) mS 0 [.int .i64 ((1:Nat):Int),.slice p15 (([98,99]:List Int).length) c15]) (fun b_ hb_=>by obtain rfl:=xm1 hb_; exact M.awayB (fun p_ hp_=>by simp [hp_]))
 replace T_11:=Wrt.offB T_11 ((Off.refl [B16] _).setAll (b:=B16) mS 0 [.int .i64 ((1:Nat):Int),.slice p15 (([98,99]:List Int).length) c15]) (fun b_ hb_=>by obtain rfl:=xm1 hb_; exact M.awayB (fun p_ hp_=>by simp [hp_]))
 replace N_15:=NewF.offB N_15 ((Off.refl [B16] _).setAll (b:=B16) mS 0 [.int .i64 ((1:Nat):Int),.slice p15 (([98,99]:List Int).length) c15]) (fun b_ hb_=>by obtain rfl:=xm1 hb_; exact M.awayB (fun p_ hp_=>by simp [hp_]))
 replace T_15:=Wrt.offB T_15 ((Off.refl [B16] _).setAll (b:=B16) mS 0 [.int .i64 ((1:Nat):Int),.slice p15 (([98,99]:List Int).length) c15]) (fun b_ hb_=>by obtain rfl:=xm1 hb_; exact M.awayB (fun p_ hp_=>by simp [hp_])); generalize w16.setCells B16 0 [.int .i64 ((1:Nat):Int),.slice p15 (([98,99]:List Int).length) c15]=w17 at M hIa N_5 T_5 N_8 T_8 N_11 T_11 N_15 T_15 ⊢
 replace M:Mm w0 ((B16,[.int .i64 ((1:Nat):Int),.slice p15 (([98,99]:List Int).length) c15])::(B12,[.int .i64 ((0:Nat):Int),.slice p11 (([]:List Int).length) c11])::(B9,[.int .i64 ((3:Nat):Int),.slice p8 (([100]:List Int).length) c8])::(B6,[.int .i64 ((0:Nat):Int),.slice p5 (([97,98,99]:List Int).length) c5])::(B3,[.int .u8 97,.int .u8 98,.int .u8 99,.int .u8 100,.int .u8 101,.int .u8 102])::(ba7++((obs p15)++((obs p11)++((obs p8)++((obs p5)++([]:List (Nat × List Value)))))))) w17:=M
 refine xpL (.bool true) ?_; refine xT ?_; go_upto_region 11 with fail; refine wp_region_list ?_; refine xpL (.pointer (some ⟨Ra,0,none⟩)) ?_
 have Mp:=M.perm (pull0 ([(B16,[.int .i64 ((1:Nat):Int),.slice p15 (([98,99]:List Int).length) c15]),(B12,[.int .i64 ((0:Nat):Int),.slice p11 (([]:List Int).length) c11]),(B9,[.int .i64 ((3:Nat):Int),.slice p8 (([100]:List Int).length) c8]),(B6,[.int .i64 ((0:Nat):Int),.slice p5 (([97,98,99]:List Int).length) c5]),(B3,[.int .u8 97,.int .u8 98,.int .u8 99,.int .u8 100,.int .u8 101,.int .u8 102])]:List (Nat × List Value)) ba7 ((obs p15)++((obs p11)++((obs p8)++((obs p5)++([]:List (Nat × List Value)))))))
 have key:=hK.lst w0 _ _ os7 ba7 _ 0 9 os7_w os7_l (by unfold i64; decide) (by unfold i64; decide) hIa Mp
 rw [show olo os7 0 9=os8 from rfl] at key
 refine xcL key ?_; clear key; rintro e w18 ⟨ba8,rfl,hI_,M',o1⟩; replace N_5:=NewF.offB N_5 o1 (Mp.awayS (fun p_ hp_=>by simp [hp_])); replace T_5:=Wrt.offB T_5 o1 (Mp.awayS (fun p_ hp_=>by simp [hp_])); replace N_8:=NewF.offB N_8 o1 (Mp.awayS (fun p_ hp_=>by simp [hp_])); replace T_8:=Wrt.offB T_8 o1 (Mp.awayS (fun p_ hp_=>by simp [hp_]))
 replace N_11:=NewF.offB N_11 o1 (Mp.awayS (fun p_ hp_=>by simp [hp_])); replace T_11:=Wrt.offB T_11 o1 (Mp.awayS (fun p_ hp_=>by simp [hp_])); replace N_15:=NewF.offB N_15 o1 (Mp.awayS (fun p_ hp_=>by simp [hp_])); replace T_15:=Wrt.offB T_15 o1 (Mp.awayS (fun p_ hp_=>by simp [hp_])); clear o1 Mp M hIa; have hIa:=hI_; clear hI_
 have M:Mm w0 ((B16,[.int .i64 ((1:Nat):Int),.slice p15 (([98,99]:List Int).length) c15])::(B12,[.int .i64 ((0:Nat):Int),.slice p11 (([]:List Int).length) c11])::(B9,[.int .i64 ((3:Nat):Int),.slice p8 (([100]:List Int).length) c8])::(B6,[.int .i64 ((0:Nat):Int),.slice p5 (([97,98,99]:List Int).length) c5])::(B3,[.int .u8 97,.int .u8 98,.int .u8 99,.int .u8 100,.int .u8 101,.int .u8 102])::(ba8++((obs p15)++((obs p11)++((obs p8)++((obs p5)++([]:List (Nat × List Value)))))))) w18:=M'.perm (pull0 ([(B16,[.int .i64 ((1:Nat):Int),.slice p15 (([98,99]:List Int).length) c15]),(B12,[.int .i64 ((0:Nat):Int),.slice p11 (([]:List Int).length) c11]),(B9,[.int .i64 ((3:Nat):Int),.slice p8 (([100]:List Int).length) c8]),(B6,[.int .i64 ((0:Nat):Int),.slice p5 (([97,98,99]:List Int).length) c5]),(B3,[.int .u8 97,.int .u8 98,.int .u8 99,.int .u8 100,.int .u8 101,.int .u8 102])]:List (Nat × List Value)) ba8 ((obs p15)++((obs p11)++((obs p8)++((obs p5)++([]:List (Nat × List Value))))))).symm
 clear M'; refine xeL ?_; refine xT ?_; go_upto_region 12 with fail; refine wp_region_list ?_; refine xpL (.pointer (some ⟨Ra,0,none⟩)) ?_; refine xpL (.agg #[.int .i64 3,.int .i64 4]) ?_; have hlb:=(Below.refl w18.heap.size w18).alloc (xnR _) (.cells #[.int .i64 3,.int .i64 4] 49)
 refine actL (w':=w18.alloc (.cells #[.int .i64 3,.int .i64 4] 49)) (.slice (some ⟨w18.heap.size,0,none⟩) 1 1) rfl (by kernel_rfl) ?_; simp only [aP,lI,l0,lS]; replace hIa:=hK.bel hIa hlb; replace N_5:=NewF.below N_5 hlb; replace T_5:=Wrt.below T_5 hlb; replace N_8:=NewF.below N_8 hlb; replace T_8:=Wrt.below T_8 hlb; replace N_11:=NewF.below N_11 hlb
 replace T_11:=Wrt.below T_11 hlb; replace N_15:=NewF.below N_15 hlb; replace T_15:=Wrt.below T_15 hlb; replace M:=M.box #[.int .i64 3,.int .i64 4] 49 w18.heap.size rfl; clear hlb; generalize w18.alloc (.cells #[.int .i64 3,.int .i64 4] 49)=w19 at M hIa N_5 T_5 N_8 T_8 N_11 T_11 N_15 T_15 ⊢; generalize w18.heap.size=B19 at M ⊢
 replace M:Mm w0 ((B19,[.int .i64 3,.int .i64 4])::(B16,[.int .i64 ((1:Nat):Int),.slice p15 (([98,99]:List Int).length) c15])::(B12,[.int .i64 ((0:Nat):Int),.slice p11 (([]:List Int).length) c11])::(B9,[.int .i64 ((3:Nat):Int),.slice p8 (([100]:List Int).length) c8])::(B6,[.int .i64 ((0:Nat):Int),.slice p5 (([97,98,99]:List Int).length) c5])::(B3,[.int .u8 97,.int .u8 98,.int .u8 99,.int .u8 100,.int .u8 101,.int .u8 102])::(ba8++((obs p15)++((obs p11)++((obs p8)++((obs p5)++([]:List (Nat × List Value)))))))) w19:=M
 have Mp:=M.perm (pull0 ([(B19,[.int .i64 3,.int .i64 4]),(B16,[.int .i64 ((1:Nat):Int),.slice p15 (([98,99]:List Int).length) c15]),(B12,[.int .i64 ((0:Nat):Int),.slice p11 (([]:List Int).length) c11]),(B9,[.int .i64 ((3:Nat):Int),.slice p8 (([100]:List Int).length) c8]),(B6,[.int .i64 ((0:Nat):Int),.slice p5 (([97,98,99]:List Int).length) c5]),(B3,[.int .u8 97,.int .u8 98,.int .u8 99,.int .u8 100,.int .u8 101,.int .u8 102])]:List (Nat × List Value)) ba8 ((obs p15)++((obs p11)++((obs p8)++((obs p5)++([]:List (Nat × List Value)))))))
 have key:=hK.ack w0 _ _ os8 ba8 _ 2 ([(3,4)]) (some ⟨B19,0,none⟩) 1 os8_w os8_l (by unfold i64; decide) (by decide) (by unfold i64; decide) (RgW.ofW (M.newWt mS [(3,4)] rfl (by decide))) (fun b_ hb_ _ h_=>by obtain rfl:=xm1 h_; exact Mp.beside mS hb_) hIa Mp
 rw [show oac os8 2 [(3,4)]=os9 from rfl] at key
 refine xcL key ?_; clear key; rintro e w20 ⟨ba9,rfl,hI_,M',o1⟩; replace N_5:=NewF.offB N_5 o1 (Mp.awayS (fun p_ hp_=>by simp [hp_])); replace T_5:=Wrt.offB T_5 o1 (Mp.awayS (fun p_ hp_=>by simp [hp_])); replace N_8:=NewF.offB N_8 o1 (Mp.awayS (fun p_ hp_=>by simp [hp_])); replace T_8:=Wrt.offB T_8 o1 (Mp.awayS (fun p_ hp_=>by simp [hp_]))
 replace N_11:=NewF.offB N_11 o1 (Mp.awayS (fun p_ hp_=>by simp [hp_])); replace T_11:=Wrt.offB T_11 o1 (Mp.awayS (fun p_ hp_=>by simp [hp_])); replace N_15:=NewF.offB N_15 o1 (Mp.awayS (fun p_ hp_=>by simp [hp_])); replace T_15:=Wrt.offB T_15 o1 (Mp.awayS (fun p_ hp_=>by simp [hp_])); clear o1 Mp M hIa; have hIa:=hI_; clear hI_
 have M:Mm w0 ((B19,[.int .i64 3,.int .i64 4])::(B16,[.int .i64 ((1:Nat):Int),.slice p15 (([98,99]:List Int).length) c15])::(B12,[.int .i64 ((0:Nat):Int),.slice p11 (([]:List Int).length) c11])::(B9,[.int .i64 ((3:Nat):Int),.slice p8 (([100]:List Int).length) c8])::(B6,[.int .i64 ((0:Nat):Int),.slice p5 (([97,98,99]:List Int).length) c5])::(B3,[.int .u8 97,.int .u8 98,.int .u8 99,.int .u8 100,.int .u8 101,.int .u8 102])::(ba9++((obs p15)++((obs p11)++((obs p8)++((obs p5)++([]:List (Nat × List Value)))))))) w20:=M'.perm (pull0 ([(B19,[.int .i64 3,.int .i64 4]),(B16,[.int .i64 ((1:Nat):Int),.slice p15 (([98,99]:List Int).length) c15]),(B12,[.int .i64 ((0:Nat):Int),.slice p11 (([]:List Int).length) c11]),(B9,[.int .i64 ((3:Nat):Int),.slice p8 (([100]:List Int).length) c8]),(B6,[.int .i64 ((0:Nat):Int),.slice p5 (([97,98,99]:List Int).length) c5]),(B3,[.int .u8 97,.int .u8 98,.int .u8 99,.int .u8 100,.int .u8 101,.int .u8 102])]:List (Nat × List Value)) ba9 ((obs p15)++((obs p11)++((obs p8)++((obs p5)++([]:List (Nat × List Value))))))).symm
 clear M'; refine xeL ?_; refine xT ?_; go_upto_region 13 with fail; refine wp_region_list ?_; refine xpL (.pointer (some ⟨Ra,0,none⟩)) ?_
 have Mp:=M.perm (pull0 ([(B19,[.int .i64 3,.int .i64 4]),(B16,[.int .i64 ((1:Nat):Int),.slice p15 (([98,99]:List Int).length) c15]),(B12,[.int .i64 ((0:Nat):Int),.slice p11 (([]:List Int).length) c11]),(B9,[.int .i64 ((3:Nat):Int),.slice p8 (([100]:List Int).length) c8]),(B6,[.int .i64 ((0:Nat):Int),.slice p5 (([97,98,99]:List Int).length) c5]),(B3,[.int .u8 97,.int .u8 98,.int .u8 99,.int .u8 100,.int .u8 101,.int .u8 102])]:List (Nat × List Value)) ba9 ((obs p15)++((obs p11)++((obs p8)++((obs p5)++([]:List (Nat × List Value)))))))
 have key:=hK.nxt w0 _ _ os9 ba9 _ 9 os9_w os9_l (by unfold i64; decide) hIa Mp
 rw [os9F] at key
 rw [os9B] at key
 rw [os9N] at key
 rw [show onx os9 9=os10 from rfl] at key
 refine xcL key ?_; clear key; rintro e w21 ⟨p21,c21,ba10,rfl,N_21,T_21,hI_,M',o1⟩; replace N_5:=NewF.offB N_5 o1 (Mp.awayS (fun p_ hp_=>by simp [hp_])); replace T_5:=Wrt.offB T_5 o1 (Mp.awayS (fun p_ hp_=>by simp [hp_])); replace N_8:=NewF.offB N_8 o1 (Mp.awayS (fun p_ hp_=>by simp [hp_])); replace T_8:=Wrt.offB T_8 o1 (Mp.awayS (fun p_ hp_=>by simp [hp_]))
 replace N_11:=NewF.offB N_11 o1 (Mp.awayS (fun p_ hp_=>by simp [hp_])); replace T_11:=Wrt.offB T_11 o1 (Mp.awayS (fun p_ hp_=>by simp [hp_])); replace N_15:=NewF.offB N_15 o1 (Mp.awayS (fun p_ hp_=>by simp [hp_])); replace T_15:=Wrt.offB T_15 o1 (Mp.awayS (fun p_ hp_=>by simp [hp_])); clear o1 Mp M hIa; have hIa:=hI_; clear hI_
 have M:Mm w0 ((B19,[.int .i64 3,.int .i64 4])::(B16,[.int .i64 ((1:Nat):Int),.slice p15 (([98,99]:List Int).length) c15])::(B12,[.int .i64 ((0:Nat):Int),.slice p11 (([]:List Int).length) c11])::(B9,[.int .i64 ((3:Nat):Int),.slice p8 (([100]:List Int).length) c8])::(B6,[.int .i64 ((0:Nat):Int),.slice p5 (([97,98,99]:List Int).length) c5])::(B3,[.int .u8 97,.int .u8 98,.int .u8 99,.int .u8 100,.int .u8 101,.int .u8 102])::(ba10++((obs p21)++((obs p15)++((obs p11)++((obs p8)++((obs p5)++([]:List (Nat × List Value))))))))) w21:=M'.perm (pullY ([(B19,[.int .i64 3,.int .i64 4]),(B16,[.int .i64 ((1:Nat):Int),.slice p15 (([98,99]:List Int).length) c15]),(B12,[.int .i64 ((0:Nat):Int),.slice p11 (([]:List Int).length) c11]),(B9,[.int .i64 ((3:Nat):Int),.slice p8 (([100]:List Int).length) c8]),(B6,[.int .i64 ((0:Nat):Int),.slice p5 (([97,98,99]:List Int).length) c5]),(B3,[.int .u8 97,.int .u8 98,.int .u8 99,.int .u8 100,.int .u8 101,.int .u8 102])]:List (Nat × List Value)) ba10 (obs p21) ((obs p15)++((obs p11)++((obs p8)++((obs p5)++([]:List (Nat × List Value)))))))
 clear M'; refine xeL ?_
 obtain ⟨bs21,N_21⟩:∃ b_,NewF w21 b_ ([99]:List Int).length (bl ([99])) (.slice p21 ([99]:List Int).length c21):=⟨_,N_21⟩
 refine xpL (.tuple #[.agg #[.int .i64 ((2:Nat):Int),.slice p21 (([99]:List Int).length) c21],.bool true]) ?_; refine xpL (.agg #[.int .i64 ((2:Nat):Int),.slice p21 (([99]:List Int).length) c21]) ?_; refine xpL (.bool true) ?_; have hlb:=(Below.refl w21.heap.size w21).alloc (xnR _) (.cells #[.int .i64 0,.slice none 0 0] 35)
 refine actL (w':=w21.alloc (.cells #[.int .i64 0,.slice none 0 0] 35)) (.pointer (some ⟨w21.heap.size,0,none⟩)) rfl (by kernel_rfl) ?_; simp only [aP,lI,l0,lS]; replace hIa:=hK.bel hIa hlb; replace N_5:=NewF.below N_5 hlb; replace T_5:=Wrt.below T_5 hlb; replace N_8:=NewF.below N_8 hlb; replace T_8:=Wrt.below T_8 hlb; replace N_11:=NewF.below N_11 hlb
 replace T_11:=Wrt.below T_11 hlb; replace N_15:=NewF.below N_15 hlb; replace T_15:=Wrt.below T_15 hlb; replace N_21:=NewF.below N_21 hlb; replace T_21:=Wrt.below T_21 hlb; replace M:=M.box #[.int .i64 0,.slice none 0 0] 35 w21.heap.size rfl; clear hlb; generalize w21.alloc (.cells #[.int .i64 0,.slice none 0 0] 35)=w22 at M hIa N_5 T_5 N_8 T_8 N_11 T_11 N_15 T_15 N_21 T_21 ⊢
 generalize w21.heap.size=B22 at M ⊢
 replace M:Mm w0 ((B22,[.int .i64 0,.slice none 0 0])::(B19,[.int .i64 3,.int .i64 4])::(B16,[.int .i64 ((1:Nat):Int),.slice p15 (([98,99]:List Int).length) c15])::(B12,[.int .i64 ((0:Nat):Int),.slice p11 (([]:List Int).length) c11])::(B9,[.int .i64 ((3:Nat):Int),.slice p8 (([100]:List Int).length) c8])::(B6,[.int .i64 ((0:Nat):Int),.slice p5 (([97,98,99]:List Int).length) c5])::(B3,[.int .u8 97,.int .u8 98,.int .u8 99,.int .u8 100,.int .u8 101,.int .u8 102])::(ba10++((obs p21)++((obs p15)++((obs p11)++((obs p8)++((obs p5)++([]:List (Nat × List Value))))))))) w22:=M
 refine skipOpL rfl (storeP [.int .i64 ((2:Nat):Int),.slice p21 (([99]:List Int).length) c21] B22 0 35 _ _ rfl rfl rfl (M.thereP mS 0 2 (Nat.le_of_ble_eq_true rfl)) (by kernel_rfl) (List.all_eq_true.1 (rfl:([.int .i64 ((2:Nat):Int),.slice p21 (([99]:List Int).length) c21]:List Value).all (fun u=>u.oneCell')=true))) ?_; simp only [Act.put]
 replace M:=M.setPart [.int .i64 ((2:Nat):Int),.slice p21 (([99]:List Int).length) c21] 0 (Nat.le_of_ble_eq_true rfl); replace hIa:=hK.off _ _ _ _ _ _ hIa ((Off.refl [B22] _).setAll (b:=B22) mS 0 [.int .i64 ((2:Nat):Int),.slice p21 (([99]:List Int).length) c21]) (fun b_ hb_=>by obtain rfl:=xm1 hb_; exact M.awayC (fun p_ hp_=>by simp [hp_]))
 replace N_5:=NewF.offB N_5 ((Off.refl [B22] _).setAll (b:=B22) mS 0 [.int .i64 ((2:Nat):Int),.slice p21 (([99]:List Int).length) c21]) (fun b_ hb_=>by obtain rfl:=xm1 hb_; exact M.awayB (fun p_ hp_=>by simp [hp_]))
 replace T_5:=Wrt.offB T_5 ((Off.refl [B22] _).setAll (b:=B22) mS 0 [.int .i64 ((2:Nat):Int),.slice p21 (([99]:List Int).length) c21]) (fun b_ hb_=>by obtain rfl:=xm1 hb_; exact M.awayB (fun p_ hp_=>by simp [hp_]))
 replace N_8:=NewF.offB N_8 ((Off.refl [B22] _).setAll (b:=B22) mS 0 [.int .i64 ((2:Nat):Int),.slice p21 (([99]:List Int).length) c21]) (fun b_ hb_=>by obtain rfl:=xm1 hb_; exact M.awayB (fun p_ hp_=>by simp [hp_]))
 replace T_8:=Wrt.offB T_8 ((Off.refl [B22] _).setAll (b:=B22) mS 0 [.int .i64 ((2:Nat):Int),.slice p21 (([99]:List Int).length) c21]) (fun b_ hb_=>by obtain rfl:=xm1 hb_; exact M.awayB (fun p_ hp_=>by simp [hp_]))
 replace N_11:=NewF.offB N_11 ((Off.refl [B22] _).setAll (b:=B22) mS 0 [.int .i64 ((2:Nat):Int),.slice p21 (([99]:List Int).length) c21]) (fun b_ hb_=>by obtain rfl:=xm1 hb_; exact M.awayB (fun p_ hp_=>by simp [hp_]))
 replace T_11:=Wrt.offB T_11 ((Off.refl [B22] _).setAll (b:=B22) mS 0 [.int .i64 ((2:Nat):Int),.slice p21 (([99]:List Int).length) c21]) (fun b_ hb_=>by obtain rfl:=xm1 hb_; exact M.awayB (fun p_ hp_=>by simp [hp_]))
 replace N_15:=NewF.offB N_15 ((Off.refl [B22] _).setAll (b:=B22) mS 0 [.int .i64 ((2:Nat):Int),.slice p21 (([99]:List Int).length) c21]) (fun b_ hb_=>by obtain rfl:=xm1 hb_; exact M.awayB (fun p_ hp_=>by simp [hp_]))
 replace T_15:=Wrt.offB T_15 ((Off.refl [B22] _).setAll (b:=B22) mS 0 [.int .i64 ((2:Nat):Int),.slice p21 (([99]:List Int).length) c21]) (fun b_ hb_=>by obtain rfl:=xm1 hb_; exact M.awayB (fun p_ hp_=>by simp [hp_]))
 replace N_21:=NewF.offB N_21 ((Off.refl [B22] _).setAll (b:=B22) mS 0 [.int .i64 ((2:Nat):Int),.slice p21 (([99]:List Int).length) c21]) (fun b_ hb_=>by obtain rfl:=xm1 hb_; exact M.awayB (fun p_ hp_=>by simp [hp_]))
 replace T_21:=Wrt.offB T_21 ((Off.refl [B22] _).setAll (b:=B22) mS 0 [.int .i64 ((2:Nat):Int),.slice p21 (([99]:List Int).length) c21]) (fun b_ hb_=>by obtain rfl:=xm1 hb_; exact M.awayB (fun p_ hp_=>by simp [hp_])); generalize w22.setCells B22 0 [.int .i64 ((2:Nat):Int),.slice p21 (([99]:List Int).length) c21]=w23 at M hIa N_5 T_5 N_8 T_8 N_11 T_11 N_15 T_15 N_21 T_21 ⊢
 replace M:Mm w0 ((B22,[.int .i64 ((2:Nat):Int),.slice p21 (([99]:List Int).length) c21])::(B19,[.int .i64 3,.int .i64 4])::(B16,[.int .i64 ((1:Nat):Int),.slice p15 (([98,99]:List Int).length) c15])::(B12,[.int .i64 ((0:Nat):Int),.slice p11 (([]:List Int).length) c11])::(B9,[.int .i64 ((3:Nat):Int),.slice p8 (([100]:List Int).length) c8])::(B6,[.int .i64 ((0:Nat):Int),.slice p5 (([97,98,99]:List Int).length) c5])::(B3,[.int .u8 97,.int .u8 98,.int .u8 99,.int .u8 100,.int .u8 101,.int .u8 102])::(ba10++((obs p21)++((obs p15)++((obs p11)++((obs p8)++((obs p5)++([]:List (Nat × List Value))))))))) w23:=M
 refine xpL (.bool true) ?_; refine xT ?_; go_upto_region 14 with fail; refine wp_region_list ?_; refine xpL (.pointer (some ⟨Ra,0,none⟩)) ?_
 have Mp:=M.perm (pull0 ([(B22,[.int .i64 ((2:Nat):Int),.slice p21 (([99]:List Int).length) c21]),(B19,[.int .i64 3,.int .i64 4]),(B16,[.int .i64 ((1:Nat):Int),.slice p15 (([98,99]:List Int).length) c15]),(B12,[.int .i64 ((0:Nat):Int),.slice p11 (([]:List Int).length) c11]),(B9,[.int .i64 ((3:Nat):Int),.slice p8 (([100]:List Int).length) c8]),(B6,[.int .i64 ((0:Nat):Int),.slice p5 (([97,98,99]:List Int).length) c5]),(B3,[.int .u8 97,.int .u8 98,.int .u8 99,.int .u8 100,.int .u8 101,.int .u8 102])]:List (Nat × List Value)) ba10 ((obs p21)++((obs p15)++((obs p11)++((obs p8)++((obs p5)++([]:List (Nat × List Value))))))))
 have key:=hK.bas w0 _ _ os10 ba10 _ os10_w os10_l hIa Mp; clear Mp
 rw [osb1] at key
 refine xcL key ?_; clear key; rintro e w24 ⟨rfl,l_⟩; replace M:=M.call l_; replace hIa:=hK.bel hIa l_; replace N_5:=NewF.below N_5 l_; replace T_5:=Wrt.below T_5 l_; replace N_8:=NewF.below N_8 l_; replace T_8:=Wrt.below T_8 l_; replace N_11:=NewF.below N_11 l_; replace T_11:=Wrt.below T_11 l_; replace N_15:=NewF.below N_15 l_; replace T_15:=Wrt.below T_15 l_
 replace N_21:=NewF.below N_21 l_; replace T_21:=Wrt.below T_21 l_; clear l_; refine xeL ?_; refine xpL (.int .i64 ((2:Nat):Int)) ?_; refine xT ?_; go_upto_region 15 with fail; refine wp_region_list ?_; refine xpL (.pointer (some ⟨Ra,0,none⟩)) ?_
 refine actL (w':=w24.alloc (.cells #[.int .u8 120,.int .u8 121,.int .u8 122] 5)) (.slice (some ⟨w24.heap.size,0,none⟩) 3 3) rfl (by kernel_rfl) ?_; simp only [aP,lI,l0,lS]
 refine actL (w':=w24.alloc (.cells #[.int .u8 120,.int .u8 121,.int .u8 122] 5 ((#[.int .u8 120,.int .u8 121,.int .u8 122]:Array Value).size,(#[.int .u8 120,.int .u8 121,.int .u8 122]:Array Value).size+1))) (.slice (some ⟨w24.heap.size,0,none⟩) 3 3) rfl (conv_const 28 5 #[.int .u8 120,.int .u8 121,.int .u8 122] 3 3 _ rfl rfl Try.underlying28 Try.underlying5) ?_
 simp only [aP,lI,l0,lS]; have hlb:=(Below.refl w24.heap.size w24).alloc (xnR _) (.cells #[.int .u8 120,.int .u8 121,.int .u8 122] 5 ((#[.int .u8 120,.int .u8 121,.int .u8 122]:Array Value).size,(#[.int .u8 120,.int .u8 121,.int .u8 122]:Array Value).size+1)); replace hIa:=hK.bel hIa hlb; replace N_5:=NewF.below N_5 hlb; replace T_5:=Wrt.below T_5 hlb
 replace N_8:=NewF.below N_8 hlb; replace T_8:=Wrt.below T_8 hlb; replace N_11:=NewF.below N_11 hlb; replace T_11:=Wrt.below T_11 hlb; replace N_15:=NewF.below N_15 hlb; replace T_15:=Wrt.below T_15 hlb; replace N_21:=NewF.below N_21 hlb; replace T_21:=Wrt.below T_21 hlb
 replace M:=M.boxC #[.int .u8 120,.int .u8 121,.int .u8 122] 5 (((#[.int .u8 120,.int .u8 121,.int .u8 122]:Array Value)).size,((#[.int .u8 120,.int .u8 121,.int .u8 122]:Array Value)).size+1) w24.heap.size rfl (xnR _); clear hlb
 generalize w24.alloc (.cells #[.int .u8 120,.int .u8 121,.int .u8 122] 5 ((#[.int .u8 120,.int .u8 121,.int .u8 122]:Array Value).size,(#[.int .u8 120,.int .u8 121,.int .u8 122]:Array Value).size+1))=w25 at M hIa N_5 T_5 N_8 T_8 N_11 T_11 N_15 T_15 N_21 T_21 ⊢; generalize w24.heap.size=B25 at M ⊢
 replace M:Mm w0 ((B25,[.int .u8 120,.int .u8 121,.int .u8 122])::(B22,[.int .i64 ((2:Nat):Int),.slice p21 (([99]:List Int).length) c21])::(B19,[.int .i64 3,.int .i64 4])::(B16,[.int .i64 ((1:Nat):Int),.slice p15 (([98,99]:List Int).length) c15])::(B12,[.int .i64 ((0:Nat):Int),.slice p11 (([]:List Int).length) c11])::(B9,[.int .i64 ((3:Nat):Int),.slice p8 (([100]:List Int).length) c8])::(B6,[.int .i64 ((0:Nat):Int),.slice p5 (([97,98,99]:List Int).length) c5])::(B3,[.int .u8 97,.int .u8 98,.int .u8 99,.int .u8 100,.int .u8 101,.int .u8 102])::(ba10++((obs p21)++((obs p15)++((obs p11)++((obs p8)++((obs p5)++([]:List (Nat × List Value))))))))) w25:=M
 have Mp:=M.perm (pull0 ([(B25,[.int .u8 120,.int .u8 121,.int .u8 122]),(B22,[.int .i64 ((2:Nat):Int),.slice p21 (([99]:List Int).length) c21]),(B19,[.int .i64 3,.int .i64 4]),(B16,[.int .i64 ((1:Nat):Int),.slice p15 (([98,99]:List Int).length) c15]),(B12,[.int .i64 ((0:Nat):Int),.slice p11 (([]:List Int).length) c11]),(B9,[.int .i64 ((3:Nat):Int),.slice p8 (([100]:List Int).length) c8]),(B6,[.int .i64 ((0:Nat):Int),.slice p5 (([97,98,99]:List Int).length) c5]),(B3,[.int .u8 97,.int .u8 98,.int .u8 99,.int .u8 100,.int .u8 101,.int .u8 102])]:List (Nat × List Value)) ba10 ((obs p21)++((obs p15)++((obs p11)++((obs p8)++((obs p5)++([]:List (Nat × List Value))))))))
 have key:=hK.wrt w0 _ _ os10 ba10 _ (some ⟨B25,0,none⟩) 3 [120,121,122] os10_w os10_l (by decide) (by decide) (fun e=>by cases e) (by unfold Byts; decide) hIa Mp (show SrcA _ _ _ _ _ from ⟨(M.src mS [120,121,122] rfl),fun ad e _=>by cases e; exact Mp.beside mS⟩)
 rw [show owN os10 ([120,121,122]:List Int).length=2 from osw2] at key
 rw [show owr os10 [120,121,122]=os11 from rfl] at key
 refine xcL key ?_; clear key; rintro e w26 ⟨ba11,rfl,hI_,M',o1⟩; replace N_5:=NewF.offB N_5 o1 (Mp.awayS (fun p_ hp_=>by simp [hp_])); replace T_5:=Wrt.offB T_5 o1 (Mp.awayS (fun p_ hp_=>by simp [hp_])); replace N_8:=NewF.offB N_8 o1 (Mp.awayS (fun p_ hp_=>by simp [hp_])); replace T_8:=Wrt.offB T_8 o1 (Mp.awayS (fun p_ hp_=>by simp [hp_]))
 replace N_11:=NewF.offB N_11 o1 (Mp.awayS (fun p_ hp_=>by simp [hp_])); replace T_11:=Wrt.offB T_11 o1 (Mp.awayS (fun p_ hp_=>by simp [hp_])); replace N_15:=NewF.offB N_15 o1 (Mp.awayS (fun p_ hp_=>by simp [hp_])); replace T_15:=Wrt.offB T_15 o1 (Mp.awayS (fun p_ hp_=>by simp [hp_])); replace N_21:=NewF.offB N_21 o1 (Mp.awayS (fun p_ hp_=>by simp [hp_]))
 replace T_21:=Wrt.offB T_21 o1 (Mp.awayS (fun p_ hp_=>by simp [hp_])); clear o1 Mp M hIa; have hIa:=hI_; clear hI_
 have M:Mm w0 ((B25,[.int .u8 120,.int .u8 121,.int .u8 122])::(B22,[.int .i64 ((2:Nat):Int),.slice p21 (([99]:List Int).length) c21])::(B19,[.int .i64 3,.int .i64 4])::(B16,[.int .i64 ((1:Nat):Int),.slice p15 (([98,99]:List Int).length) c15])::(B12,[.int .i64 ((0:Nat):Int),.slice p11 (([]:List Int).length) c11])::(B9,[.int .i64 ((3:Nat):Int),.slice p8 (([100]:List Int).length) c8])::(B6,[.int .i64 ((0:Nat):Int),.slice p5 (([97,98,99]:List Int).length) c5])::(B3,[.int .u8 97,.int .u8 98,.int .u8 99,.int .u8 100,.int .u8 101,.int .u8 102])::(ba11++((obs p21)++((obs p15)++((obs p11)++((obs p8)++((obs p5)++([]:List (Nat × List Value))))))))) w26:=M'.perm (pull0 ([(B25,[.int .u8 120,.int .u8 121,.int .u8 122]),(B22,[.int .i64 ((2:Nat):Int),.slice p21 (([99]:List Int).length) c21]),(B19,[.int .i64 3,.int .i64 4]),(B16,[.int .i64 ((1:Nat):Int),.slice p15 (([98,99]:List Int).length) c15]),(B12,[.int .i64 ((0:Nat):Int),.slice p11 (([]:List Int).length) c11]),(B9,[.int .i64 ((3:Nat):Int),.slice p8 (([100]:List Int).length) c8]),(B6,[.int .i64 ((0:Nat):Int),.slice p5 (([97,98,99]:List Int).length) c5]),(B3,[.int .u8 97,.int .u8 98,.int .u8 99,.int .u8 100,.int .u8 101,.int .u8 102])]:List (Nat × List Value)) ba11 ((obs p21)++((obs p15)++((obs p11)++((obs p8)++((obs p5)++([]:List (Nat × List Value)))))))).symm
 clear M'; refine xeL ?_; refine xpL (.int .i64 ((2:Nat):Int)) ?_; refine xT ?_; go_upto_region 16 with fail; refine wp_region_list ?_; refine xpL (.pointer (some ⟨Ra,0,none⟩)) ?_
 have Mp:=M.perm (pull0 ([(B25,[.int .u8 120,.int .u8 121,.int .u8 122]),(B22,[.int .i64 ((2:Nat):Int),.slice p21 (([99]:List Int).length) c21]),(B19,[.int .i64 3,.int .i64 4]),(B16,[.int .i64 ((1:Nat):Int),.slice p15 (([98,99]:List Int).length) c15]),(B12,[.int .i64 ((0:Nat):Int),.slice p11 (([]:List Int).length) c11]),(B9,[.int .i64 ((3:Nat):Int),.slice p8 (([100]:List Int).length) c8]),(B6,[.int .i64 ((0:Nat):Int),.slice p5 (([97,98,99]:List Int).length) c5]),(B3,[.int .u8 97,.int .u8 98,.int .u8 99,.int .u8 100,.int .u8 101,.int .u8 102])]:List (Nat × List Value)) ba11 ((obs p21)++((obs p15)++((obs p11)++((obs p8)++((obs p5)++([]:List (Nat × List Value))))))))
 have key:=hK.end_ w0 _ _ os11 ba11 _ os11_w os11_l hIa Mp; clear Mp
 rw [ose] at key
 refine xcL key ?_; clear key; rintro e w27 ⟨rfl,l_⟩; replace M:=M.call l_; replace hIa:=hK.bel hIa l_; replace N_5:=NewF.below N_5 l_; replace T_5:=Wrt.below T_5 l_; replace N_8:=NewF.below N_8 l_; replace T_8:=Wrt.below T_8 l_; replace N_11:=NewF.below N_11 l_; replace T_11:=Wrt.below T_11 l_; replace N_15:=NewF.below N_15 l_; replace T_15:=Wrt.below T_15 l_
 replace N_21:=NewF.below N_21 l_; replace T_21:=Wrt.below T_21 l_; clear l_; refine xeL ?_; refine xpL (.int .i64 ((6:Nat):Int)) ?_; refine xT ?_; go_upto_region 17 with fail; refine wp_region_list ?_; refine xpL (.pointer (some ⟨Ra,0,none⟩)) ?_
 have Mp:=M.perm (pull0 ([(B25,[.int .u8 120,.int .u8 121,.int .u8 122]),(B22,[.int .i64 ((2:Nat):Int),.slice p21 (([99]:List Int).length) c21]),(B19,[.int .i64 3,.int .i64 4]),(B16,[.int .i64 ((1:Nat):Int),.slice p15 (([98,99]:List Int).length) c15]),(B12,[.int .i64 ((0:Nat):Int),.slice p11 (([]:List Int).length) c11]),(B9,[.int .i64 ((3:Nat):Int),.slice p8 (([100]:List Int).length) c8]),(B6,[.int .i64 ((0:Nat):Int),.slice p5 (([97,98,99]:List Int).length) c5]),(B3,[.int .u8 97,.int .u8 98,.int .u8 99,.int .u8 100,.int .u8 101,.int .u8 102])]:List (Nat × List Value)) ba11 ((obs p21)++((obs p15)++((obs p11)++((obs p8)++((obs p5)++([]:List (Nat × List Value))))))))
 have key:=hK.ack w0 _ _ os11 ba11 _ 3 ([]) none 0 os11_w os11_l (by unfold i64; decide) (by decide) (fun _ h_=>by cases h_) (RgW.nil0 _) (fun _ _ h_=>absurd rfl h_) hIa Mp
 rw [show oac os11 3 []=os12 from rfl] at key
 refine xcL key ?_; clear key; rintro e w28 ⟨ba12,rfl,hI_,M',o1⟩; replace N_5:=NewF.offB N_5 o1 (Mp.awayS (fun p_ hp_=>by simp [hp_])); replace T_5:=Wrt.offB T_5 o1 (Mp.awayS (fun p_ hp_=>by simp [hp_])); replace N_8:=NewF.offB N_8 o1 (Mp.awayS (fun p_ hp_=>by simp [hp_])); replace T_8:=Wrt.offB T_8 o1 (Mp.awayS (fun p_ hp_=>by simp [hp_]))
 replace N_11:=NewF.offB N_11 o1 (Mp.awayS (fun p_ hp_=>by simp [hp_])); replace T_11:=Wrt.offB T_11 o1 (Mp.awayS (fun p_ hp_=>by simp [hp_])); replace N_15:=NewF.offB N_15 o1 (Mp.awayS (fun p_ hp_=>by simp [hp_])); replace T_15:=Wrt.offB T_15 o1 (Mp.awayS (fun p_ hp_=>by simp [hp_])); replace N_21:=NewF.offB N_21 o1 (Mp.awayS (fun p_ hp_=>by simp [hp_]))
 replace T_21:=Wrt.offB T_21 o1 (Mp.awayS (fun p_ hp_=>by simp [hp_])); clear o1 Mp M hIa; have hIa:=hI_; clear hI_
 have M:Mm w0 ((B25,[.int .u8 120,.int .u8 121,.int .u8 122])::(B22,[.int .i64 ((2:Nat):Int),.slice p21 (([99]:List Int).length) c21])::(B19,[.int .i64 3,.int .i64 4])::(B16,[.int .i64 ((1:Nat):Int),.slice p15 (([98,99]:List Int).length) c15])::(B12,[.int .i64 ((0:Nat):Int),.slice p11 (([]:List Int).length) c11])::(B9,[.int .i64 ((3:Nat):Int),.slice p8 (([100]:List Int).length) c8])::(B6,[.int .i64 ((0:Nat):Int),.slice p5 (([97,98,99]:List Int).length) c5])::(B3,[.int .u8 97,.int .u8 98,.int .u8 99,.int .u8 100,.int .u8 101,.int .u8 102])::(ba12++((obs p21)++((obs p15)++((obs p11)++((obs p8)++((obs p5)++([]:List (Nat × List Value))))))))) w28:=M'.perm (pull0 ([(B25,[.int .u8 120,.int .u8 121,.int .u8 122]),(B22,[.int .i64 ((2:Nat):Int),.slice p21 (([99]:List Int).length) c21]),(B19,[.int .i64 3,.int .i64 4]),(B16,[.int .i64 ((1:Nat):Int),.slice p15 (([98,99]:List Int).length) c15]),(B12,[.int .i64 ((0:Nat):Int),.slice p11 (([]:List Int).length) c11]),(B9,[.int .i64 ((3:Nat):Int),.slice p8 (([100]:List Int).length) c8]),(B6,[.int .i64 ((0:Nat):Int),.slice p5 (([97,98,99]:List Int).length) c5]),(B3,[.int .u8 97,.int .u8 98,.int .u8 99,.int .u8 100,.int .u8 101,.int .u8 102])]:List (Nat × List Value)) ba12 ((obs p21)++((obs p15)++((obs p11)++((obs p8)++((obs p5)++([]:List (Nat × List Value)))))))).symm
 clear M'; refine xeL ?_; refine xT ?_; go_upto_region 18 with fail; refine wp_region_list ?_; refine xpL (.int .i64 ((4:Nat):Int)) ?_; refine xaL (.bool true) (eqlI .i64 _ _ _ _ _ _ rfl rfl rfl true rfl _) ?_; refine xpL (.bool true) ?_; refine xpL (.pointer (some ⟨B6,0,none⟩)) ?_
 refine xaL (.int .i64 ((0:Nat):Int)) (load1 3 _ ⟨B6,0,none⟩ _ rfl rfl (fun _=>by kernel_rfl) (M.get (mI 6 rfl) 0 _ rfl)) ?_; refine xaL (.bool true) (eqlI .i64 _ _ _ _ _ _ rfl rfl rfl true rfl _) ?_; refine xpL (.bool true) ?_; refine xpL (.bool true) ?_; refine xpL (.pointer (some ⟨B6,1,none⟩)) ?_
 refine xaL (.slice p5 (([97,98,99]:List Int).length) c5) (load1 28 _ ⟨B6,1,none⟩ _ rfl rfl (fun _=>by kernel_rfl) (M.get (mI 6 rfl) 1 _ rfl)) ?_
 refine readL (.string (txt (([97,98,99]:List Int).length) (bl ([97,98,99])))) rfl (conv_txt 28 5 9 _ rfl Try.underlying28 Try.underlying5 Try.underlying9 p5 (([97,98,99]:List Int).length) c5 (bl ([97,98,99])) rfl _ (NewF.src N_5) (fun e=>by have h1:=(NewF.nilCap N_5) e; have h2:=(NewF.le N_5); omega)) ?_
 simp only [aP,lI,l0,lS]; refine xaL (.bool true) (eqlS _ _ _ _ _ _ rfl rfl rfl rfl _) ?_; refine xpL (.bool true) ?_; refine xpL (.bool true) ?_; refine xpL (.pointer (some ⟨B9,0,none⟩)) ?_; refine xaL (.int .i64 ((3:Nat):Int)) (load1 3 _ ⟨B9,0,none⟩ _ rfl rfl (fun _=>by kernel_rfl) (M.get (mI 5 rfl) 0 _ rfl)) ?_
 refine xaL (.bool true) (eqlI .i64 _ _ _ _ _ _ rfl rfl rfl true rfl _) ?_; refine xpL (.bool true) ?_; refine xpL (.bool true) ?_; refine xpL (.pointer (some ⟨B9,1,none⟩)) ?_; refine xaL (.slice p8 (([100]:List Int).length) c8) (load1 28 _ ⟨B9,1,none⟩ _ rfl rfl (fun _=>by kernel_rfl) (M.get (mI 5 rfl) 1 _ rfl)) ?_
 refine readL (.string (txt (([100]:List Int).length) (bl ([100])))) rfl (conv_txt 28 5 9 _ rfl Try.underlying28 Try.underlying5 Try.underlying9 p8 (([100]:List Int).length) c8 (bl ([100])) rfl _ (NewF.src N_8) (fun e=>by have h1:=(NewF.nilCap N_8) e; have h2:=(NewF.le N_8); omega)) ?_
 simp only [aP,lI,l0,lS]; refine xaL (.bool true) (eqlS _ _ _ _ _ _ rfl rfl rfl rfl _) ?_; refine xpL (.bool true) ?_; refine xpL (.bool true) ?_; refine xpL (.bool false) ?_; refine xpL (.bool true) ?_; refine xpL (.bool true) ?_; refine xpL (.bool true) ?_; refine xpL (.pointer (some ⟨B16,0,none⟩)) ?_
 refine xaL (.int .i64 ((1:Nat):Int)) (load1 3 _ ⟨B16,0,none⟩ _ rfl rfl (fun _=>by kernel_rfl) (M.get (mI 3 rfl) 0 _ rfl)) ?_; refine xaL (.bool true) (eqlI .i64 _ _ _ _ _ _ rfl rfl rfl true rfl _) ?_; refine xpL (.bool true) ?_; refine xpL (.bool true) ?_; refine xpL (.pointer (some ⟨B16,1,none⟩)) ?_
 refine xaL (.slice p15 (([98,99]:List Int).length) c15) (load1 28 _ ⟨B16,1,none⟩ _ rfl rfl (fun _=>by kernel_rfl) (M.get (mI 3 rfl) 1 _ rfl)) ?_
 refine readL (.string (txt (([98,99]:List Int).length) (bl ([98,99])))) rfl (conv_txt 28 5 9 _ rfl Try.underlying28 Try.underlying5 Try.underlying9 p15 (([98,99]:List Int).length) c15 (bl ([98,99])) rfl _ (NewF.src N_15) (fun e=>by have h1:=(NewF.nilCap N_15) e; have h2:=(NewF.le N_15); omega)) ?_
 simp only [aP,lI,l0,lS]; refine xaL (.bool true) (eqlS _ _ _ _ _ _ rfl rfl rfl rfl _) ?_; refine xpL (.bool true) ?_; refine xpL (.bool true) ?_; refine xpL (.pointer (some ⟨B22,0,none⟩)) ?_; refine xaL (.int .i64 ((2:Nat):Int)) (load1 3 _ ⟨B22,0,none⟩ _ rfl rfl (fun _=>by kernel_rfl) (M.get (mT _ mS) 0 _ rfl)) ?_
 refine xaL (.bool true) (eqlI .i64 _ _ _ _ _ _ rfl rfl rfl true rfl _) ?_; refine xpL (.bool true) ?_; refine xpL (.bool true) ?_; refine xpL (.pointer (some ⟨B22,1,none⟩)) ?_; refine xaL (.slice p21 (([99]:List Int).length) c21) (load1 28 _ ⟨B22,1,none⟩ _ rfl rfl (fun _=>by kernel_rfl) (M.get (mT _ mS) 1 _ rfl)) ?_
 refine readL (.string (txt (([99]:List Int).length) (bl ([99])))) rfl (conv_txt 28 5 9 _ rfl Try.underlying28 Try.underlying5 Try.underlying9 p21 (([99]:List Int).length) c21 (bl ([99])) rfl _ (NewF.src N_21) (fun e=>by have h1:=(NewF.nilCap N_21) e; have h2:=(NewF.le N_21); omega)) ?_
 simp only [aP,lI,l0,lS]; refine xaL (.bool true) (eqlS _ _ _ _ _ _ rfl rfl rfl rfl _) ?_; refine xpL (.bool true) ?_; refine xpL (.bool true) ?_; refine xpL (.bool true) ?_; refine xpL (.bool true) ?_; refine xpL (.bool true) ?_; refine xpL (.int .i64 ((2:Nat):Int)) ?_; refine xaL (.bool true) (eqlI .i64 _ _ _ _ _ _ rfl rfl rfl true rfl _) ?_; refine xpL (.bool true) ?_
 refine xpL (.bool true) ?_; refine xpL (.int .i64 ((2:Nat):Int)) ?_; refine xaL (.bool true) (eqlI .i64 _ _ _ _ _ _ rfl rfl rfl true rfl _) ?_; refine xpL (.bool true) ?_; refine xpL (.bool true) ?_; refine xpL (.int .i64 ((6:Nat):Int)) ?_; refine xaL (.bool true) (eqlI .i64 _ _ _ _ _ _ rfl rfl rfl true rfl _) ?_; refine xpL (.bool true) ?_; refine xpL (.bool true) ?_
 refine xpL (.pointer (some ⟨Ra,0,none⟩)) ?_
 have Mp:=M.perm (pull0 ([(B25,[.int .u8 120,.int .u8 121,.int .u8 122]),(B22,[.int .i64 ((2:Nat):Int),.slice p21 (([99]:List Int).length) c21]),(B19,[.int .i64 3,.int .i64 4]),(B16,[.int .i64 ((1:Nat):Int),.slice p15 (([98,99]:List Int).length) c15]),(B12,[.int .i64 ((0:Nat):Int),.slice p11 (([]:List Int).length) c11]),(B9,[.int .i64 ((3:Nat):Int),.slice p8 (([100]:List Int).length) c8]),(B6,[.int .i64 ((0:Nat):Int),.slice p5 (([97,98,99]:List Int).length) c5]),(B3,[.int .u8 97,.int .u8 98,.int .u8 99,.int .u8 100,.int .u8 101,.int .u8 102])]:List (Nat × List Value)) ba12 ((obs p21)++((obs p15)++((obs p11)++((obs p8)++((obs p5)++([]:List (Nat × List Value))))))))
 have key:=hK.bas w0 _ _ os12 ba12 _ os12_w os12_l hIa Mp; clear Mp
 rw [osb2] at key
 refine xcL key ?_; clear key; rintro e w29 ⟨rfl,l_⟩; replace M:=M.call l_; replace hIa:=hK.bel hIa l_; replace N_5:=NewF.below N_5 l_; replace T_5:=Wrt.below T_5 l_; replace N_8:=NewF.below N_8 l_; replace T_8:=Wrt.below T_8 l_; replace N_11:=NewF.below N_11 l_; replace T_11:=Wrt.below T_11 l_; replace N_15:=NewF.below N_15 l_; replace T_15:=Wrt.below T_15 l_
 replace N_21:=NewF.below N_21 l_; replace T_21:=Wrt.below T_21 l_; clear l_; refine xeL ?_; refine xaL (.bool true) (eqlI .i64 _ _ _ _ _ _ rfl rfl rfl true rfl _) ?_; refine xpL (.bool true) ?_; refine xpL (.bool true) ?_; refine xpL (.pointer (some ⟨Ra,0,none⟩)) ?_
 have Mp:=M.perm (pull0 ([(B25,[.int .u8 120,.int .u8 121,.int .u8 122]),(B22,[.int .i64 ((2:Nat):Int),.slice p21 (([99]:List Int).length) c21]),(B19,[.int .i64 3,.int .i64 4]),(B16,[.int .i64 ((1:Nat):Int),.slice p15 (([98,99]:List Int).length) c15]),(B12,[.int .i64 ((0:Nat):Int),.slice p11 (([]:List Int).length) c11]),(B9,[.int .i64 ((3:Nat):Int),.slice p8 (([100]:List Int).length) c8]),(B6,[.int .i64 ((0:Nat):Int),.slice p5 (([97,98,99]:List Int).length) c5]),(B3,[.int .u8 97,.int .u8 98,.int .u8 99,.int .u8 100,.int .u8 101,.int .u8 102])]:List (Nat × List Value)) ba12 ((obs p21)++((obs p15)++((obs p11)++((obs p8)++((obs p5)++([]:List (Nat × List Value))))))))
 have key:=hK.idl w0 _ _ os12 ba12 _ os12_w os12_l hIa Mp; clear Mp
 rw [osi] at key
 refine xcL key ?_; clear key; rintro e w30 ⟨rfl,l_⟩; replace M:=M.call l_; replace hIa:=hK.bel hIa l_; replace N_5:=NewF.below N_5 l_; replace T_5:=Wrt.below T_5 l_; replace N_8:=NewF.below N_8 l_; replace T_8:=Wrt.below T_8 l_; replace N_11:=NewF.below N_11 l_; replace T_11:=Wrt.below T_11 l_; replace N_15:=NewF.below N_15 l_; replace T_15:=Wrt.below T_15 l_
 replace N_21:=NewF.below N_21 l_; replace T_21:=Wrt.below T_21 l_; clear l_; refine xeL ?_; refine xpL (.bool true) ?_; refine xpL (.bool true) ?_; refine xpL (.bool true) ?_; refine xT ?_; have hbel:=M.below; clear M hIa N_5 T_5 N_8 T_8 N_11 T_11 N_15 T_15 N_21 T_21; go_wp2; go_ret
 exact ⟨rfl,hbel⟩
def kdn (c:Int) (n:Nat):Nat:=(if c<0 then -(c+1) else c).toNat%n
theorem kdn_lt (c:Int) (n:Nat) (h:0<n):kdn c n<n:=Nat.mod_lt _ h
theorem kind18_any (c:Int) (n:Nat) (hn:0<n) (h1:i64 c) (w:World) :
 Calls Try.prog 10 #[.int .i64 c,.int .i64 (n:Int)] w fun e w'=>e=.returned (.int .i64 (kdn c n:Int))∧Below w.heap.size w w':=by
 unfold i64 at h1
 have M:=Mm.init w
 go_enter Try.func10,Try.ntmps10
 go_upto_region 0 with fail; refine wp_region_list ?_; refine xpL (.int .i64 0) ?_; refine xT ?_
 by_cases hc:c<0
 · go_upto_region 1 with fail
   refine wp_region_list ?_; refine xpL (.int .i64 c) ?_; refine xaL (.bool true) (lssI .i64 _ _ _ _ _ _ rfl rfl rfl true (decide_eq_true hc) _) ?_; refine xT ?_; go_upto_region 2 with fail; refine wp_region_list ?_; refine xpL (.int .i64 c) ?_; refine xaL (.int .i64 (c+1)) (addI .i64 _ _ _ _ _ _ _ rfl rfl rfl (by rw [xw6]; omega) _) ?_
   refine xaL (.int .i64 (-(c+1))) (negI .i64 _ _ _ _ rfl rfl (by rw [xw6]; omega) _) ?_; refine xpL (.int .i64 (-(c+1))) ?_; refine xT ?_
   have hrem:(-(c+1)).tmod (n:Int)=((kdn c n:Nat):Int):=by
    unfold kdn
    rw [if_pos hc]
    obtain ⟨m,hm⟩:∃ m:Nat,-(c+1)=(m:Int):=⟨(-(c+1)).toNat,by omega⟩
    rw [hm,Int.toNat_natCast]
    rfl
   go_upto_region 3 with fail; refine wp_region_list ?_; refine xpL (.int .i64 (-(c+1))) ?_; refine xpL (.int .i64 (n:Int)) ?_; refine xaL (.int .i64 ((kdn c n:Nat):Int)) (remI .i64 _ _ _ _ _ _ _ rfl rfl rfl (by omega) hrem _) ?_; refine xpL (.int .i64 ((kdn c n:Nat):Int)) ?_; refine xT ?_; have hB:=M.below; clear M; go_wp2; go_ret
   exact ⟨rfl,hB⟩
 · go_upto_region 1 with fail
   refine wp_region_list ?_; refine xpL (.int .i64 c) ?_; refine xaL (.bool false) (lssI .i64 _ _ _ _ _ _ rfl rfl rfl false (decide_eq_false hc) _) ?_; refine xT ?_
   have hrem:(c).tmod (n:Int)=((kdn c n:Nat):Int):=by
    unfold kdn
    rw [if_neg hc]
    obtain ⟨m,hm⟩:∃ m:Nat,c=(m:Int):=⟨(c).toNat,by omega⟩
    rw [hm,Int.toNat_natCast]
    rfl
   go_upto_region 3 with fail; refine wp_region_list ?_; refine xpL (.int .i64 c) ?_; refine xpL (.int .i64 (n:Int)) ?_; refine xaL (.int .i64 ((kdn c n:Nat):Int)) (remI .i64 _ _ _ _ _ _ _ rfl rfl rfl (by omega) hrem _) ?_; refine xpL (.int .i64 ((kdn c n:Nat):Int)) ?_; refine xT ?_; have hB:=M.below; clear M; go_wp2; go_ret
   exact ⟨rfl,hB⟩
section
theorem zerosV_row (z:Value) (hz:z.cells=#[z]) (m:Nat):Builtin.zeroCells z.cells m=(List.replicate m z).toArray:=by
 refine Array.toList_inj.1 ?_
 unfold Builtin.zeroCells
 rw [hz]
 simp [Nat.mod_one,List.map_const']
section
variable {P:Program}
theorem run_append_zerosV {w:World} {base:Nat} {t u ty e:TypeId} {z:Value} {bytes n:Nat} {xs:List Value} {v:Value} (ht:P.underlying t=some (.slice e)) (hu:P.underlying u=some (.int .i64)) (he:Many P e z bytes 1) (hz0:z.cells=#[z]) (hzo:z.oneCell'=true) (h:w.ownsRow base e 1 v n xs)
 (m:Nat) (hm0:m<9223372036854775808) (h63:n+m≤maxLen) (hb:(n+m)*bytes≤140737488355328) (hbase:base≤w.heap.size) :
 ∃ v' w',(Builtin.append_ #[t,u] ty #[v,.int .i64 (m:Int)]).run P w=.ok v' w'∧w'.ownsRow base e 1 v' (n+m) (xs++List.replicate m z)∧w.grownBy w' v.ownBlock∧(∀ g,v'.ownBlock=some g→v.ownBlock=some g∨g=w.heap.size):=by
 obtain ⟨i,hi,hq⟩:=Option.map_eq_some_iff.1 he.info
 simp only [Prod.mk.injEq] at hq
 obtain ⟨h1,h2,h3⟩:=hq
 have hw:IntKind.i64.wrap (m:Int)=(m:Int):=by rw [xw6]; omega
 have hasI:∀ w,(asInt (.int .i64 (m:Int))).run P w=.ok (m:Int) w:=fun w=>by simp [asInt,asIntOf]
 have hneg:¬ ((m:Int)<0):=by omega
 have hbm:m*bytes≤140737488355328:=xnT (Nat.mul_le_mul_right _ (Nat.le_add_left _ _)) hb
 have h48:¬ (281474976710656<(m:Int)*(bytes:Int)):=by
  have:((m*bytes:Nat):Int)≤140737488355328:=by omega
  rw [Int.natCast_mul] at this
  omega
 have hsmall:n+m≤9223372036854775807:=by simp only [maxLen] at h63; omega
 have h63':¬ (9223372036854775807<((n:Int)+(m:Int))):=by omega
 have hzc:Builtin.zeroCells z.cells m=(List.replicate m z).toArray:=zerosV_row z hz0 m
 have hlen:(xs++List.replicate m z).length=(n+m)*1:=by rw [List.length_append,List.length_replicate,h.1]; omega
 have hxl:xs.length=n:=by have:=h.1; omega
 have grown:∀ (old:Nat),old<n+m→∀ (rw_:Option Nat),
  (w.drew.alloc (.cells (xs.toArray++(List.replicate m z).toArray++Builtin.zeroCells z.cells (grownCap w (n+m) old e-(n+m))) e)).ownsRow base e 1 (.slice (some ⟨w.heap.size,0,none⟩) (n+m) (grownCap w (n+m) old e)) (n+m) (xs++List.replicate m z) ∧
  w.grownBy (w.drew.alloc (.cells (xs.toArray++(List.replicate m z).toArray++Builtin.zeroCells z.cells (grownCap w (n+m) old e-(n+m))) e)) rw_:=by
  intro old ho rw_; have hge:=grownCap_ge w (n+m) old e
  have hcm:grownCap w (n+m) old e≤maxLen:=grownCap_le_maxLen w (n+m) old e h63
  have hz1:z.cells.size=1:=by rw [hz0]; rfl
  refine ⟨⟨hlen,.inr ⟨w.heap.size,_,_,rfl,hbase,heap_alloc_new w.drew _,hge,hcm,?_,?_⟩⟩,⟨rfl,rfl,rfl,by simp,fun q hq _=>heap_alloc_old w.drew _ hq⟩⟩
  · simp only [Array.size_append,List.size_toArray,size_zeroCells,hz1,List.length_replicate,hxl]
    omega
  · simp only [Array.toList_append,List.append_assoc]
    rw [← List.append_assoc,← hlen]
    exact List.take_left
 rcases h.2 with ⟨rfl,rfl⟩ | ⟨g,cap,cur,rfl,hbg,hg,hnc,hcm,hcs,htake⟩
 · by_cases hm:m=0
   · subst hm
     refine ⟨.slice none 0 0,w,?_,(by rw [List.replicate_zero,List.append_nil]; exact h),⟨rfl,rfl,rfl,xnR _,fun _ _ _=>rfl⟩,fun g hg=>.inl hg⟩
     have hasI':∀ w,(asInt (.int .i64 0)).run P w=.ok 0 w:=hasI
     simp [Builtin.append_,run_underlying ht,run_underlying hu,sizeOf,typeInfo,zeroValue,hi,h1,h2,hasI',xw6]
   · obtain rfl:=List.eq_nil_of_length_eq_zero hxl
     have h48':¬ (281474976710656<Builtin.nextslicecap m 0*bytes):=by rw [nextslicecap_zero (by omega)]; omega
     have hgr:=grown 0 (by omega) (Value.ownBlock (.slice none 0 0))
     refine ⟨_,_,?_,hgr.1,hgr.2,fun g hg=>?_⟩
     · simp only [Nat.zero_add] at h63' ⊢
       simp [Builtin.append_,run_underlying ht,run_underlying hu,sizeOf,typeInfo,zeroValue,hi,h1,h2,h3,hasI,hw,hneg,h48,hm,hzc,h48',Question.forced,run_firstCells_none,newRow,grownCap]
       exact fun hh=>absurd hh (by omega)
     · injection hg with hg
       exact .inr hg.symm
 · by_cases hroom:n+m≤cap
   · have hst:=run_storeCells_at P g n e (List.replicate m z) 0 cur w hg (by rw [List.length_replicate,hcs]; omega) (fun u hu_=>by obtain ⟨_,rfl⟩:=List.mem_replicate.1 hu_; exact hzo)
     simp only [Nat.add_zero,List.length_replicate] at hst
     rw [Nat.mul_one] at htake hcs
     refine ⟨.slice (some ⟨g,0,none⟩) (n+m) cap,w.setRow g (cur.toList.take n++List.replicate m z++cur.toList.drop (n+m)).toArray,?_,?_,?_,fun g' hg'=>.inl hg'⟩
     · by_cases hm:m=0
       · subst hm
         have hasI':∀ w,(asInt (.int .i64 0)).run P w=.ok 0 w:=hasI
         have hst':(storeCells { block:=g,off:=n,spot:=none } []).run P w=_:=hst
         simp [Builtin.append_,run_underlying ht,run_underlying hu,sizeOf,typeInfo,zeroValue,hi,h1,h2,h3,hasI',xw6,hnc,Addr.add_lit,hst']
       · simp [Builtin.append_,run_underlying ht,run_underlying hu,sizeOf,typeInfo,zeroValue,hi,h1,h2,h3,hasI,hw,hneg,h48,hroom,hm,hzc,Addr.add_lit,hst]
     · refine ⟨hlen,.inr ⟨g,cap,_,rfl,hbg,setRow_heap w g cur _ e _ hg,hroom,hcm,?_,?_⟩⟩
       · simp only [List.size_toArray,List.length_append,List.length_take,List.length_drop,Array.length_toList,List.length_replicate]
         omega
       · rw [htake,← hlen]
         exact List.take_left
     · exact ⟨rfl,rfl,rfl,by simp,fun k _ hk=>setRow_other w g k _ (fun e=>hk (by simp [Value.ownBlock,e]))⟩
   · have hm:m≠0:=by omega
     have h48':¬ (281474976710656<Builtin.nextslicecap (n+m) cap*bytes):=by have:=growslice_fits (need:=n+m) (old:=cap) (by omega) hb; omega
     have hfo:=run_firstCells_some (P:=P) w.drew 1 n ⟨g,0,none⟩ n cap (xs) (by rw [hxl,Nat.mul_one]) (by simpa using World.ownsRow.cells h (g:=g) rfl); have hgr:=grown cap (by omega) (Value.ownBlock (.slice (some ⟨g,0,none⟩) n cap))
     refine ⟨_,_,?_,hgr.1,hgr.2,fun g hg=>?_⟩
     · simp [Builtin.append_,run_underlying ht,run_underlying hu,sizeOf,typeInfo,zeroValue,hi,h1,h2,h3,hasI,hw,hneg,h48,hroom,hm,hzc,h63',h48',Question.forced,hfo,newRow,grownCap]
       try (congr 2; apply Array.ext'; simp [List.append_assoc])
     · injection hg with hg
       exact .inr hg.symm
end
theorem brw_noughts {f:Nat→Bool} {n:Nat} (h:∀ i,n≤i→f i=false) (m:Nat):brw n f++List.replicate m (.bool false)=brw (n+m) f:=by
 refine List.ext_getElem? fun j=>?_
 by_cases c:j<n
 · rw [List.getElem?_append_left (by rw [brw_length]; exact c),brw_get _ c,brw_get _ (by omega)]
 · rw [List.getElem?_append_right (by rw [brw_length]; omega),brw_length]
   by_cases d:j<n+m
   · rw [List.getElem?_replicate,if_pos (by omega),brw_get _ d,h j (by omega)]
   · rw [List.getElem?_replicate,if_neg (by omega),List.getElem?_eq_none (by rw [brw_length]; omega)]
end
section
section
variable {P:Program}
theorem idxSlE {o:Oper} {a:Act} (t e:TypeId) (len cap:Nat) (k:IntKind) (sp:Option Addr) (ad:Addr) (hsp:sp=some ad) (i:Nat) (x y:Operand) (hu:P.underlying t=some (.slice e)) (hsz:∀ w,(sizeOf e).run P w=.ok 1 w) (hi:i<len) (ho:o.op=.indexAddr t x y) (hx:a.eval x=.slice sp len cap) (hy:a.eval y=.int k (i:Int)) (w:World) :
 (execOp a.eval o).run P w=.ok (.value (.pointer (some (ad.add i)))) w:=by
 subst hsp
 exact idxSl t e len cap k ad i x y hu hsz hi ho hx hy w
theorem idxRowE {o:Oper} {a:Act} (t e:TypeId) (sp:Option Addr) (g len cap i:Nat) (hsp:sp=some ⟨g,0,none⟩) (x y:Operand) (hu:P.underlying t=some (.slice e)) (hsz:∀ w,(sizeOf e).run P w=.ok 1 w) (hi:i<len) (ho:o.op=.indexAddr t x y) (hx:a.eval x=.slice sp len cap) (hy:a.eval y=.int .i64 (i:Int)) (w:World) :
 (execOp a.eval o).run P w=.ok (.value (.pointer (some ⟨g,i,none⟩))) w:=by
 subst hsp
 exact idxRow t e g len cap i x y hu hsz hi ho hx hy w
end
theorem Src.atE {w:World} {sp:Option Addr} {n:Nat} {z:Nat→Int} (h:Src w sp n z) {ad:Addr} (hsp:sp=some ad) {j:Nat} (hj:j<n):w.cell? (ad.add j)=some (.int .u8 (z j)):=by
 obtain ⟨ad',e,hc⟩:=h j hj
 rw [hsp] at e
 injection e with e
 rw [e]
 exact hc
theorem rowCellE {w:World} {base:Nat} {e:TypeId} {size n g cap:Nat} {sp:Option Addr} {xs:List Value} (V:w.ownsRow base e size (.slice sp n cap) n xs) (hsp:sp=some ⟨g,0,none⟩) {j:Nat} {u:Value} (hu:xs[j]?=some u):w.cell? ⟨g,j,none⟩=some u:=by
 subst hsp
 exact rowCell V hu
theorem Mm.putRow {w0 w:World} {l:List (Nat × List Value)} {g:Nat} {base:Nat} {e:TypeId} {size n cap:Nat} {xs:List Value} {sp:Option Addr} (M:Mm w0 (obs sp++l) w) (V:w.ownsRow base e size (.slice sp n cap) n xs) (hsp:sp=some ⟨g,0,none⟩) (h0:w0.heap.size≤base) (j:Nat) (hj:j<xs.length) (u:Value) :
 ((w.cell? ⟨g,j,none⟩).isSome=true∧w.frozen? ⟨g,j,none⟩=false)∧Mm w0 (obs sp++l) (w.setCell ⟨g,j,none⟩ u)∧(w.setCell ⟨g,j,none⟩ u).ownsRow base e size (.slice sp n cap) n (xs.set j u)∧Off (ob sp) w (w.setCell ⟨g,j,none⟩ u):=by
 subst hsp
 obtain ⟨h1,h2⟩:=M.setObs V h0 j hj u
 exact ⟨h1,h2,ownsRow_put V j u,(Off.refl _ w).set (b:=g) mS j u⟩
end
structure Opv where
 k:Int
 n:Int
 m:Int
 b:List Int
 r:List (Int × Int)
def Opc (v:Opv) (bp:Option Addr) (bc:Nat) (rp:Option Addr) (rc:Nat):List Value:=[.int .i64 v.k,.int .i64 v.n,.int .i64 v.m,.slice bp v.b.length bc,.slice rp v.r.length rc]
structure OpV (w:World) (m:Nat) (v:Opv) (bp:Option Addr) (bc:Nat) (rp:Option Addr) (rc:Nat):Prop where
 k_i:i64 v.k
 n_i:i64 v.n
 m_i:i64 v.m
 b_src:Src w bp v.b.length (bl v.b)
 b_le:v.b.length≤bc
 b_nil:bp=none→bc=0
 b_max:v.b.length≤m
 b_byts:Byts v.b
 r_in:RgW w v.r (.slice rp v.r.length rc)
 r_i:∀ x∈v.r,i64 x.1∧i64 x.2
def OpsIn (w:World) (m:Nat) (sp:Option Addr) (l:List Opv):Prop:=∀ j v,l[j]?=some v→∃ ad bp bc rp rc,sp=some ad∧(∀ k x,(Opc v bp bc rp rc)[k]?=some x→w.cell? ((ad.add (j*5)).add k)=some x)∧OpV w m v bp bc rp rc
theorem cellS18 {w w':World} (l:Below w.heap.size w w') {p:Addr} {u:Value} (h:w.cell? p=some u):w'.cell? p=some u:=by
 rw [l.cell (World.block_lt_of_cell? w _ h)]
 exact h
theorem idxO18 (ad:Addr) (len cap i:Nat) (hi:i<len) {o:Oper} {a:Act} (x y:Operand) (ho:o.op=.indexAddr 22 x y) (hx:a.eval x=.slice (some ad) len cap) (hy:a.eval y=.int .i64 (i:Int)) (w:World):(execOp a.eval o).run Try.prog w=.ok (.value (.pointer (some (ad.add (i*5))))) w :=
 idxSm 22 31 len cap 5 .i64 ad i x y Try.underlying22 (fun _=>by kernel_rfl) hi ho hx hy w
def Rws (w0 w:World) (o:Obx) (sa:Option Addr) (ca:Nat) (sh:Option Addr) (ch:Nat):Prop :=
 w.ownsRow w0.heap.size 5 1 (.slice sa o.b.length ca) o.b.length (row .u8 o.b.length (bl o.b))∧w.ownsRow w0.heap.size 4 1 (.slice sh o.b.length ch) o.b.length (brw o.b.length o.he)
theorem Rws.eq {w0 w:World} {o o2:Obx} {sa sh:Option Addr} {ca ch:Nat} (h:Rws w0 w o sa ca sh ch) (hb:o2.b=o.b) (hh:o2.he=o.he):Rws w0 w o2 sa ca sh ch:=by
 unfold Rws
 rw [hb,hh]
 exact h
structure Byt (z:Int) (o:Obx) (q:Nat):Prop where
 w:ObxW o
 sz:o.size≤max 1 z
 ln:o.b.length≤1000*q
theorem Byt.start (z:Int):Byt z (onew z) 0:=⟨onew_w z,by show max 1 (min z 1048576)≤_; omega,xnR _⟩
theorem Byt.room {z:Int} {o:Obx} {q:Nat} (h:Byt z o q):((o.b.length:Nat):Int)-((obase o:Nat):Int)≤max 1 z:=Int.le_trans h.w.rm h.sz
theorem Byt.wr {z:Int} {o:Obx} {q:Nat} (h:Byt z o q) {b:List Int} (hb:Byts b) (hl:b.length≤1000):Byt z (owr o b) (q+1) :=
 ⟨owr_w h.w hb,h.sz,by rw [owr_len]; have:=owN_le o b.length; have:=h.ln; omega⟩
theorem onx_size (o:Obx) (n:Int):(onx o n).size=o.size:=by
 unfold onx
 split
 · rfl
 · split <;> rfl
theorem onx_b (o:Obx) (n:Int):(onx o n).b=o.b:=by
 unfold onx
 split
 · rfl
 · split <;> rfl
theorem onx_h (o:Obx) (n:Int):(onx o n).he=o.he:=by
 unfold onx
 split
 · rfl
 · split <;> rfl
theorem Byt.nx {z:Int} {o:Obx} {q:Nat} (h:Byt z o q) (n:Int):Byt z (onx o n) (q+1) :=
 ⟨onx_w h.w n,by rw [onx_size]; exact h.sz,by rw [onx_b]; have:=h.ln; omega⟩
theorem Byt.lo {z:Int} {o:Obx} {q:Nat} (h:Byt z o q) (p n:Int):Byt z (olo o p n) (q+1):=⟨olo_w h.w p n,h.sz,by show o.b.length≤_; have:=h.ln; omega⟩
theorem Byt.ac {z:Int} {o:Obx} {q:Nat} (h:Byt z o q) (p:Int) (L:List (Int × Int)):Byt z (oac o p L) (q+1):=⟨oac_w h.w p L,h.sz,by show o.b.length≤_; have:=h.ln; omega⟩
theorem Byt.al {z:Int} {o:Obx} {q:Nat} (h:Byt z o q) {n:Int} (hn:i64 n):Byt z (oal o n) (q+1):=⟨oal_w h.w hn,h.sz,by show o.b.length≤_; have:=h.ln; omega⟩
theorem he_end {o:Obx} (h:ObxW o) (i:Nat) (hi:o.b.length≤i):o.he i=false:=by
 cases e:o.he i
 · rfl
 · have:=h.h1 i e
   have:=h.st
   omega
def mrk (o:Obx) (k:Nat) (i:Nat):Bool:=o.he i || decide (i<k)
theorem mrk_zero (o:Obx) (i:Nat):mrk o 0 i=o.he i:=by
 unfold mrk
 rw [decide_eq_false (xnZ i),Bool.or_false]
theorem mrk_next (o:Obx) (k i:Nat):bput (mrk o k) k true i=mrk o (k+1) i:=by
 by_cases c:i=k
 · subst c
   rw [bput_same]
   unfold mrk
   rw [decide_eq_true (by omega),Bool.or_true]
 · rw [bput_other c]
   unfold mrk
   congr 1
   rw [decide_eq_decide]
   omega
theorem mrk_end (o:Obx) (p:Int) (k:Nat) (h1:k≤o.sent) (h2:(k:Int)≤max 0 p) (h3:¬ (k<o.sent∧(k:Int)<p)) (i:Nat):mrk o k i=(oac o p []).he i:=by
 show (o.he i || decide (i<k))=(o.he i || (decide (i<o.sent)&&(decide ((i:Int)<p) || false)))
 rw [Bool.or_false,← Bool.decide_and]
 congr 1
 rw [decide_eq_decide]
 omega
theorem onB_at (o:Obx) (n:Int) {k:Nat} (h:k<onN o n):bl (onB o n) k=bl o.b (onF o n+k):=by
 unfold onB bl
 rw [List.getD_eq_getElem?_getD,List.getD_eq_getElem?_getD,List.getElem?_take_of_lt h,List.getElem?_drop]
theorem owr_blJ (o:Obx) (b:List Int) (j:Nat) (h:j<(owr o b).b.length):app (bl o.b) o.b.length (bl b) j=bl (owr o b).b j:=by
 show _=bl (o.b++b.take (owN o b.length)) j
 rw [owr_len] at h
 rw [bl_app]
 unfold app
 split
 · rfl
 · unfold bl
   rw [List.getD_eq_getElem?_getD,List.getD_eq_getElem?_getD,List.getElem?_take_of_lt (by omega)]
section
section
variable {P:Program}
end
section
variable {P:Program} {o:Oper} {a:Act}
theorem appendNOp {w w':World} (s x:Operand) (t u:TypeId) (v n r:Value) (ho:o.op=.call { callee:=.builtin .append,args:=#[s,x],argTypes:=#[t,u] }) (hs:a.eval s=v) (hx:a.eval x=n) (hr:(Builtin.append_ #[t,u] o.type #[v,n]).run P w=.ok r w') :
 (execOp a.eval o).run P w=.ok (.value r) w':=by
 unfold execOp
 simp only [ho,resolve,invoke,builtin,Sem.run_bind,Sem.run_pure,Result.andThen_ok,List.map_toArray,List.map_cons,List.map_nil,hs,hx,hr]
end
end
theorem bl_takeK {b:List Int} {k j:Nat} (h:j<k):bl (b.take k) j=bl b j:=by
 unfold bl
 rw [List.getD_eq_getElem?_getD,List.getD_eq_getElem?_getD,List.getElem?_take_of_lt h]
theorem take_byts {b:List Int} (h:Byts b) (n:Nat):Byts (b.take n):=fun x hx=>h x (List.mem_of_mem_take hx)
theorem onB_len {o:Obx} (hw:ObxW o) (n:Int):(onB o n).length=onN o n:=by
 have:=(onN_le hw n).1
 unfold onB
 rw [List.length_take,List.length_drop]
 omega
theorem on_given {o:Obx} (hw:ObxW o) {n:Int} (hN:0<onN o n) (i:Nat) (h1:onF o n≤i) (h2:i<onF o n+onN o n):o.he i=false∧i<(onx o n).sent:=by
 have hst:=hw.st
 unfold onN at hN h2
 by_cases c:n<1
 · rw [if_pos c] at hN; omega
 · rw [if_neg c] at hN h2
   by_cases d:onA o<o.b.length
   · rw [if_pos d] at hN h2
     have e1:onF o n=onA o:=by unfold onF onN; rw [if_neg c,if_pos d,if_neg (by omega),if_pos d]
     rw [e1] at h1 h2
     have ha:=onK_in (o:=o) (most:=n) (i:=i-onA o) (by omega)
     rw [show onA o+(i-onA o)=i by omega] at ha
     refine ⟨hw.a2 i ha,?_⟩
     unfold onx
     rw [if_neg c,if_pos d]
     exact hw.a1 i ha
   · rw [if_neg d] at hN h2
     have e1:onF o n=o.sent:=by unfold onF onN; rw [if_neg c,if_neg d,if_neg (by omega),if_neg d]
     rw [e1] at h1 h2
     refine ⟨?_,?_⟩
     · cases e:o.he i
       · rfl
       · have:=hw.h1 i e; omega
     · unfold onx
       rw [if_neg c,if_neg d]
       exact h2
end Go.Proofs.Ytpdpfdelglgfnaa
