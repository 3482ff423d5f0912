/- Texts of Nq Tl, joined. -/
import Derived.Test.YtakfcgbiodfmhaaP3RangesPlays
set_option maxRecDepth 20000
set_option maxHeartbeats 64000000
namespace Go.Proofs.Ytakfcgbiodfmhaa
open Go.RowKit
theorem neqBo {P:Program} {o:Oper} {a:Act} (p q:Bool) (t t':TypeId) (x y:Operand) (ho:o.op=.binOp .neq t x y t') (hx:a.eval x=.bool p) (hy:a.eval y=.bool q) (ht:P.underlying t=some .bool) (r:Bool) (hr:(!(p == q))=r) (w:World):(execOp a.eval o).run P w=.ok (.value (.bool r)) w:=by
 unfold execOp
 simp only [ho,hx,hy,Sem.run_bind,eqGuard_at_bool,run_neq_bool w t p q ht,Sem.run_pure,Result.andThen_ok,hr]
def DI17:RngI:=fun w v L bs=>∃ R sp cap,v=.pointer (some ⟨R,0,none⟩)∧bs=(R,[.slice sp L.length cap])::obs sp∧w.cell? ⟨R,0,none⟩=some (.slice sp L.length cap)∧NewW w 0 L (.slice sp L.length cap)
theorem Mm.cell0 {w0 w:World} {R:Nat} {x:Value} {l:List (Nat × List Value)} (M:Mm w0 ((R,[x])::l) w):w.cell? ⟨R,0,none⟩=some x:=M.get mS 0 _ rfl
theorem DI17.off {w w':World} {v:Value} {L:Rgs17} {bs:List (Nat × List Value)} {X:List Nat} (h:DI17 w v L bs) (o:Off X w w') (hX:∀ b∈X,b∉bs.map Prod.fst):DI17 w' v L bs:=by
 obtain ⟨R,sp,cap,e1,e2,hc,N⟩:=h
 subst e2
 refine ⟨R,sp,cap,e1,rfl,o.cell hc fun hm=>hX _ hm mS,N.offB o fun b hb hm=>hX b hb ?_⟩
 rw [List.map_cons,obs_fst]
 exact mT _ hm
theorem DI17.nil {w0 w:World} {R:Nat} {l:List (Nat × List Value)} (M:Mm w0 ((R,[.slice none 0 0])::l) w):DI17 w (.pointer (some ⟨R,0,none⟩)) [] [(R,[.slice none 0 0])] :=
 ⟨R,none,0,rfl,rfl,M.cell0,none,0,rfl,xnR _,fun _=>rfl,fun j u hu=>(by cases hu),fun a e=>(by cases e)⟩
structure DocOK (I:RngI):Prop where
 ptr:∀ w v L bs,I w v L bs→∃ R,v=.pointer (some ⟨R,0,none⟩)
 off:∀ w w' v L bs X,I w v L bs→Off X w w'→(∀ b∈X,b∉bs.map Prod.fst)→I w' v L bs
 add:∀ (w0 w:World) (v:Value) (L:Rgs17) (bs l:List (Nat × List Value)) (f t:Int),Can L→L.length<200000→i64 f→i64 t→I w v L bs→Mm w0 (bs++l) w →
  Calls Try.prog 10 #[v,.int .i64 f,.int .i64 t] w fun e w'=>∃ bs',e=.returned (.int .i64 (radN L f t))∧I w' v (rad L f t) bs'∧Mm w0 (bs'++l) w'∧Off (bs.map Prod.fst) w w'
 cut:∀ (w0 w:World) (v:Value) (L:Rgs17) (bs l:List (Nat × List Value)) (f t:Int),Can L→L.length<200000→i64 f→i64 t→I w v L bs→Mm w0 (bs++l) w →
  Calls Try.prog 12 #[v,.int .i64 f,.int .i64 t] w fun e w'=>∃ bs',e=.returned (.int .i64 (rctN L f t))∧I w' v (rct L f t) bs'∧Mm w0 (bs'++l) w'∧Off (bs.map Prod.fst) w w'
 has:∀ (w0 w:World) (v:Value) (L:Rgs17) (bs l:List (Nat × List Value)) (n:Int),Can L→L.length<200000→i64 n→I w v L bs→Mm w0 (bs++l) w →
  Calls Try.prog 21 #[v,.int .i64 n] w fun e w'=>e=.returned (.bool (rhas L n))∧Below w.heap.size w w'
 cov:∀ (w0 w:World) (v:Value) (L:Rgs17) (bs l:List (Nat × List Value)) (f t:Int),Can L→L.length<200000→i64 f→i64 t→I w v L bs→Mm w0 (bs++l) w →
  Calls Try.prog 25 #[v,.int .i64 f,.int .i64 t] w fun e w'=>e=.returned (.bool (!rgB L f t))∧Below w.heap.size w w'
 nxt:∀ (w0 w:World) (v:Value) (L:Rgs17) (bs l:List (Nat × List Value)) (n:Int),Can L→L.length<200000→i64 n→I w v L bs→Mm w0 (bs++l) w →
  Calls Try.prog 23 #[v,.int .i64 n] w fun e w'=>e=.returned (.int .i64 (rnxt L n))∧Below w.heap.size w w'
 gap:∀ (w0 w:World) (v:Value) (L:Rgs17) (bs l:List (Nat × List Value)) (f t:Int),Can L→L.length<200000→i64 f→i64 t→I w v L bs→Mm w0 (bs++l) w →
  Calls Try.prog 15 #[v,.int .i64 f,.int .i64 t] w fun e w'=>e=.returned (.tuple #[.agg #[.int .i64 (rgF L f t),.int .i64 (rgT L f t)],.bool (rgB L f t)])∧Below w.heap.size w w'
 tot:∀ (w0 w:World) (v:Value) (L:Rgs17) (bs l:List (Nat × List Value)),Can L→L.length<200000→I w v L bs→Mm w0 (bs++l) w →
  Calls Try.prog 19 #[v] w fun e w'=>e=.returned (.int .i64 (rtot L))∧Below w.heap.size w w'
theorem DocOK.bel {I:RngI} (h:DocOK I) {w w':World} {v:Value} {L:Rgs17} {bs:List (Nat × List Value)} (hI:I w v L bs) (l:Below w.heap.size w w'):I w' v L bs:=h.off w w' v L bs [] hI (Off.of_below l) (fun _ hb=>by cases hb)
theorem dok17:DocOK DI17 where
 ptr:=fun _ _ _ _ h=>let ⟨R,_,_,e,_⟩:=h; ⟨R,e⟩
 off:=fun _ _ _ _ _ _ h o hX=>h.off o hX
 add:=fun w0 w v L bs l f t hc hl _ _ hI M=>by
  obtain ⟨R,sp,cap,rfl,rfl,_,N⟩:=hI
  refine Calls.mono (dadd_any w0 w R sp cap L l hc hl f t M N) fun e w' ⟨sq,cq,h1,h2,h3,h4⟩=>⟨_,h1,⟨R,sq,cq,rfl,rfl,h2.cell0,h3⟩,h2,h4.mono fun b hb=>?_⟩
  rw [List.mem_singleton] at hb
  subst hb
  exact mS
 cut:=fun w0 w v L bs l f t hc hl _ _ hI M=>by
  obtain ⟨R,sp,cap,rfl,rfl,_,N⟩:=hI
  refine Calls.mono (dcut_any w0 w R sp cap L l hc (by omega) f t M N) fun e w' ⟨sq,cq,h1,h2,h3,h4⟩=>⟨_,h1,⟨R,sq,cq,rfl,rfl,h2.cell0,h3⟩,h2,h4.mono fun b hb=>?_⟩
  rw [List.mem_singleton] at hb
  subst hb
  exact mS
 has:=fun _ w v L _ _ n hc hl _ hI _=>by
  obtain ⟨R,sp,cap,rfl,rfl,hR,N⟩:=hI
  exact dhas_any R sp cap L hc (by omega) n w hR N
 cov:=fun _ w v L _ _ f t hc hl _ _ hI _=>by
  obtain ⟨R,sp,cap,rfl,rfl,hR,N⟩:=hI
  exact dcov_any R sp cap L hc (by omega) f t w hR N
 nxt:=fun _ w v L _ _ n hc hl _ hI _=>by
  obtain ⟨R,sp,cap,rfl,rfl,hR,N⟩:=hI
  exact dnxt_any R sp cap L hc (by omega) n w hR N
 gap:=fun _ w v L _ _ f t hc hl _ _ hI _=>by
  obtain ⟨R,sp,cap,rfl,rfl,hR,N⟩:=hI
  exact dgap_any R sp cap L hc (by omega) f t w hR N
 tot:=fun _ w v L _ _ hc hl hI _=>by
  obtain ⟨R,sp,cap,rfl,rfl,hR,N⟩:=hI
  exact dtot_any R sp cap L hc (by omega) w hR N
theorem DI17.row {w:World} {R:Nat} {L:Rgs17} {bs:List (Nat × List Value)} (h:DI17 w (.pointer (some ⟨R,0,none⟩)) L bs):∃ sp cap,w.cell? ⟨R,0,none⟩=some (.slice sp L.length cap)∧NewW w 0 L (.slice sp L.length cap):=by
 obtain ⟨R',sp,cap,e1,_,hc,N⟩:=h
 injection e1 with e1
 injection e1 with e1
 injection e1 with e1 _ _
 subst e1
 exact ⟨sp,cap,hc,N⟩
theorem rout_len0 (p:Int × Int) (f t:Int) (h:f≤p.1):(rout p f t).length≤1:=by
 unfold rout
 rw [if_neg (by omega),List.nil_append]
 split <;> simp
theorem rcut_len0 (f t:Int):∀ L:Rgs17,(∀ p∈L,f≤p.1)→(rcut L f t).length≤L.length
 | [],_=>xnR _
 | p::L,h=>by
   have h1:=rcut_len0 f t L fun q hq=>h q (mT _ hq); have h2:=rout_len0 p f t (h p mS)
   show ((rout p f t)++rcut L f t).length≤_
   rw [List.length_append,List.length_cons]
   omega
theorem rcut_len1 (f t:Int) (hft:f<t):∀ L:Rgs17,Can L→(rcut L f t).length≤L.length+1
 | [],_=>Nat.zero_le _
 | p::L,h=>by
   have h1:=rcut_len1 f t hft L h.tail
   show ((rout p f t)++rcut L f t).length≤_
   rw [List.length_append,List.length_cons]
   by_cases c:p.1<min p.2 f∧max p.1 t<p.2
   · have h2:=rout_len p f t
     have h3:=rcut_len0 f t L fun q hq=>by have:=(List.pairwise_cons.1 h.up).1 q hq; omega
     omega
   · have h2:(rout p f t).length≤1:=by
      unfold rout
      by_cases d:p.1<min p.2 f
      · rw [if_pos d,if_neg (fun e=>c ⟨d,e⟩)]
        simp
      · rw [if_neg d]
        split <;> simp
     omega
theorem rct_len (L:Rgs17) (f t:Int) (h:Can L):(rct L f t).length≤L.length+1:=by
 unfold rct
 split
 · omega
 · exact rcut_len1 (rlo f) (rhi t) (by omega) L h
end Go.Proofs.Ytakfcgbiodfmhaa
