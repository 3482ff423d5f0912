/- Texts of Gl Oi Gv Pc Hz Gr Nb Dc De, joined. -/
import Derived.Test.YtcjahbdlaojnoaaP1InboxPlays
import Derived.Deep.Cut
set_option maxRecDepth 20000
set_option maxHeartbeats 64000000
namespace Go.Proofs.Ytcjahbdlaojnoaa
open Go.RowKit
section
def obs (sp:Option Addr):List (Nat × List Value):=(ob sp).map fun b=>(b,[])
theorem obs_fst (sp:Option Addr):(obs sp).map Prod.fst=ob sp:=by
 unfold obs
 rw [List.map_map]
 exact List.map_id _
theorem NewF.offB {w w':World} {base n:Nat} {f:Nat→Int} {sp:Option Addr} {cap:Nat} {X:List Nat} (h:NewF w base n f (.slice sp n cap)) (o:Off X w w') (hX:∀ b∈X,b∉ob sp):NewF w' base n f (.slice sp n cap):=by
 have hsz:=o.size
 refine ⟨sp,cap,rfl,h.le,h.nilCap,fun j hj=>?_,fun a e=>⟨(h.at a e).1,by have:=(h.at a e).2; omega⟩⟩
 obtain ⟨p,hp,hcell⟩:=h.src j hj
 exact ⟨p,hp,o.cell hcell (by rw [add_block]; exact fun hm=>hX _ hm (by rw [hp]; exact mS))⟩
theorem Mm.awayG {w0 w:World} {x g t:List (Nat × List Value)} (h:Mm w0 (g++t) w) (hs:∀ p∈x,p∈t):∀ b∈g.map Prod.fst,b∉x.map Prod.fst:=fun b hb hx=>by
 obtain ⟨p,hp,rfl⟩:=List.mem_map.1 hx
 exact h.beside (hs p hp) hb
theorem Mm.awayS {w0 w:World} {g t:List (Nat × List Value)} {sp:Option Addr} (h:Mm w0 (g++t) w) (hs:∀ p∈obs sp,p∈t):∀ b∈g.map Prod.fst,b∉ob sp:=fun b hb=>by
 have:=h.awayG hs b hb
 rw [obs_fst] at this
 exact this
theorem Mm.awayC {w0 w:World} {x t:List (Nat × List Value)} {B:Nat} {c:List Value} (h:Mm w0 ((B,c)::t) w) (hs:∀ p∈x,p∈t):B∉x.map Prod.fst:=fun hx=>by
 obtain ⟨p,hp,e⟩:=List.mem_map.1 hx
 exact (List.pairwise_cons.1 h.apart).1 p (hs p hp) e.symm
theorem Mm.awayB {w0 w:World} {t:List (Nat × List Value)} {sp:Option Addr} {B:Nat} {c:List Value} (h:Mm w0 ((B,c)::t) w) (hs:∀ p∈obs sp,p∈t):B∉ob sp:=by
 have:=h.awayC hs
 rw [obs_fst] at this
 exact this
section
variable {α:Type} (x a b c d e g t:List α)
theorem pullY:(a++(b++(x++t))).Perm (x++(a++(b++t))):=by
 rw [← List.append_assoc a b,← List.append_assoc a b,← List.append_assoc,← List.append_assoc]
 exact List.perm_append_comm.append_right t
end
theorem NewW.offB {w w':World} {base:Nat} {l:List (Int × Int)} {sp:Option Addr} {cap:Nat} {X:List Nat} (h:NewW w base l (.slice sp l.length cap)) (o:Off X w w') (hX:∀ b∈X,b∉ob sp):NewW w' base l (.slice sp l.length cap):=by
 obtain ⟨sp',cap',hv,hc,hn,hs,ha⟩:=h
 injection hv with h1 _ h3
 subst h1; subst h3; have hsz:=o.size
 refine ⟨sp,cap,rfl,hc,hn,fun j u hu=>?_,fun a e=>⟨(ha a e).1,by have:=(ha a e).2; omega⟩⟩
 obtain ⟨p,hp,hcell⟩:=hs j u hu
 exact ⟨p,hp,o.cell hcell (by rw [add_block]; exact fun hm=>hX _ hm (by rw [hp]; exact mS))⟩
theorem Mm.newW {w0 w w':World} {l:List (Nat × List Value)} (M:Mm w0 l w) (b:Below w.heap.size w w') {L:List (Int × Int)} {sp:Option Addr} {cap:Nat} (h:NewW w' w.heap.size L (.slice sp L.length cap)):Mm w0 (obs sp++l) w':=by
 have M':=M.call b
 obtain ⟨sp',cap',hv,_,_,_,ha⟩:=h
 injection hv with h1 _ _
 subst h1
 cases sp with
 | none=>exact M'
 | some a =>
   have h1:=ha a rfl
   refine ⟨fun p hp=>?_,List.pairwise_cons.2 ⟨fun p hp=>?_,M'.apart⟩,M'.below⟩
   · rcases xc1 hp with rfl | hp
     · exact ⟨fun j hj=>absurd hj (xnZ j),xnT M.below.size h1.1,h1.2⟩
     · exact M'.rows p hp
   · have:=(M.rows p hp).2.2
     exact fun e=>by
      have e':a.block=p.1:=e
      omega
end
section
section
variable {P:Program} {o:Oper} {a:Act}
theorem maxI (k k':IntKind) (n n' r:Int) (x y:Operand) (t t':TypeId) (ho:o.op=.call { callee:=.builtin .max,args:=#[x,y],argTypes:=#[t,t'] }) (hx:a.eval x=.int k n) (hy:a.eval y=.int k' n') (hr:(if n<n' then n' else n)=r) (w:World):(execOp a.eval o).run P w=.ok (.value (.int k r)) w:=by
 simp [execOp,ho,resolve,invoke,builtin,hx,hy,run_max_int2,hr]
end
theorem Mm.grownN {w0 w w':World} {l:List (Nat × List Value)} (h:Mm w0 l w) {r:Option Nat} (g:w.grownBy w' r) (hr:∀ b,r=some b→w0.heap.size≤b∧∀ p∈l,p.1≠b):Mm w0 l w' :=
 ⟨fun p hp=>⟨fun j hj=>by
  have e:w'.heap[p.1]?=w.heap[p.1]?:=g.block p.1 (h.rows p hp).2.2 (fun e=>(hr p.1 e.symm).2 p hp rfl)
  rw [World.cell?_of_block (a:=⟨p.1,j,none⟩) e,World.frozen?_of_block (a:=⟨p.1,j,none⟩) e]
  exact (h.rows p hp).1 j hj,(h.rows p hp).2.1,xnL (h.rows p hp).2.2 g.size⟩,h.apart,
  ⟨g.os.trans h.below.os,g.tape.trans h.below.tape,g.output.trans h.below.output,xnT h.below.size g.size,fun b hb=>(g.block b (xnL hb h.below.size) (fun e=>by have:=(hr b e.symm).1; omega)).trans (h.below.block b hb)⟩⟩
end
theorem Mm.addB {w0 w:World} {l:List (Nat × List Value)} (h:Mm w0 l w) {b:Nat} (lo:w0.heap.size≤b) (lt:b<w.heap.size) (hne:∀ p∈l,p.1≠b):Mm w0 ((b,[])::l) w :=
 ⟨fun p hp=>by
  rcases xc1 hp with rfl | hp
  · exact ⟨fun j hj=>absurd hj (xnZ j),lo,lt⟩
  · exact h.rows p hp,List.pairwise_cons.2 ⟨fun p hp=>(hne p hp).symm,h.apart⟩,h.below⟩
theorem Mm.rowApp {w0 w w2:World} {l:List (Nat × List Value)} {sp sq:Option Addr} {n cap m cap2 base size:Nat} {e:TypeId} {xs ys:List Value} (M:Mm w0 (obs sp++l) w) (V:w.ownsRow base e size (.slice sp n cap) n xs) (hg:w.grownBy w2 (Value.slice sp n cap).ownBlock) (V2:w2.ownsRow base e size (.slice sq m cap2) m ys) (h2:∀ g,(Value.slice sq m cap2).ownBlock=some g→(Value.slice sp n cap).ownBlock=some g∨g=w.heap.size) (h0:w0.heap.size≤base):Mm w0 (obs sq++l) w2:=by
 have Ml:Mm w0 l w:=M.sub l (List.sublist_append_right _ _)
 have hap:∀ b,(Value.slice sp n cap).ownBlock=some b→∀ p∈l,p.1≠b:=fun b hb p hp e=>by
  have hm:b∈ob sp:=(ob_own sp n cap b).1 hb
  have:=(List.pairwise_append.1 M.apart).2.2 (b,[]) (List.mem_map.2 ⟨b,hm,rfl⟩) p hp
  exact this e.symm
 have Ml2:=Ml.grownN hg (fun b hb=>⟨xnT h0 (World.ownsRow.lt V b hb).1,hap b hb⟩)
 cases sq with
 | none=>exact Ml2
 | some a =>
   have hl:=World.ownsRow.lt V2 a.block rfl; refine Ml2.addB (xnT h0 hl.1) hl.2 fun p hp e=>?_
   rcases h2 a.block rfl with h | h
   · exact hap _ h p hp e
   · have:=(Ml.rows p hp).2.2
     omega
theorem Mm.rowNil {w0 w:World} {l:List (Nat × List Value)} (M:Mm w0 l w) (c:Array Value) (t:TypeId):Mm w0 (obs (some ⟨w.heap.size,0,none⟩)++l) (w.alloc (.cells c t)):=by
 have h:=M.box c t w.heap.size rfl
 have M2:Mm w0 l (w.alloc (.cells c t)):=h.tail
 exact M2.addB (h.lo mS) (h.lt mS) fun p hp=>by
  have:=(M.rows p hp).2.2
  show p.1≠w.heap.size
  omega
theorem row_form16 {w:World} {base:Nat} {e:TypeId} {size n:Nat} {xs:List Value} {v:Value} (h:w.ownsRow base e size v n xs):∃ sp cap,v=.slice sp n cap∧n≤cap∧(sp=none→cap=0):=by
 rcases h.2 with ⟨rfl,rfl⟩ | ⟨g,cap,cur,rfl,_,_,hc,_⟩
 · exact ⟨none,0,rfl,xnR _,fun _=>rfl⟩
 · exact ⟨_,cap,rfl,hc,fun e=>by cases e⟩
theorem row_some16 {w:World} {base:Nat} {e:TypeId} {size n:Nat} {xs:List Value} {sp:Option Addr} {cap:Nat} (h:w.ownsRow base e size (.slice sp n cap) n xs) (hn:0<n):∃ g,sp=some ⟨g,0,none⟩:=by
 rcases h.2 with ⟨e1,e2⟩ | ⟨g,cap',cur,e1,_⟩
 · omega
 · injection e1 with e2 _ _
   exact ⟨g,e2⟩
theorem ownsRow_away {w w':World} {base:Nat} {e:TypeId} {size n:Nat} {xs:List Value} {sp:Option Addr} {cap:Nat} {X:List Nat} (h:w.ownsRow base e size (.slice sp n cap) n xs) (o:Off X w w') (hX:∀ b∈X,b∉ob sp):w'.ownsRow base e size (.slice sp n cap) n xs:=ownsRow_off h o fun b hb e=>hX b hb ((ob_own sp n cap b).1 e)
theorem ownsRow_bel {w w':World} {base:Nat} {e:TypeId} {size n:Nat} {xs:List Value} {v:Value} (h:w.ownsRow base e size v n xs) (l:Below w.heap.size w w'):w'.ownsRow base e size v n xs:=ownsRow_off h (X:=[]) (Off.of_below l) (fun _ hb=>by cases hb)
theorem ownsRow_put {w:World} {base:Nat} {e:TypeId} {size n g cap:Nat} {xs:List Value} (h:w.ownsRow base e size (.slice (some ⟨g,0,none⟩) n cap) n xs) (j:Nat) (u:Value):(w.setCell ⟨g,j,none⟩ u).ownsRow base e size (.slice (some ⟨g,0,none⟩) n cap) n (xs.set j u):=by
 refine ⟨by rw [List.length_set]; exact h.1,?_⟩
 rcases h.2 with ⟨e0,_⟩ | ⟨g',cap',cur,e0,hb,hg,hc,hm,hs,ht⟩
 · cases e0
 · injection e0 with e1 _ e3
   injection e1 with e1
   injection e1 with e1 _ _
   subst e1; subst e3
   have hlt:g<w.heap.size:=by
    rcases Nat.lt_or_ge g w.heap.size with h' | h'
    · exact h'
    · rw [Array.getElem?_eq_none h'] at hg; cases hg
   have h':w.heap[g]=.cells cur e (0,0):=by
    rw [Array.getElem?_eq_getElem hlt] at hg
    exact Option.some.inj hg
   refine .inr ⟨g,cap,cur.setIfInBounds j u,rfl,hb,?_,hc,hm,by rw [Array.size_setIfInBounds]; exact hs,?_⟩
   · show (w.heap.modify g _)[g]?=_
     rw [Array.getElem?_eq_getElem (by simpa using hlt),Array.getElem_modify_self,h']
     rfl
   · rw [Array.toList_setIfInBounds,List.take_set,ht]
theorem Mm.awayO {w0 w:World} {t:List (Nat × List Value)} {so sp:Option Addr} (h:Mm w0 (obs so++t) w) (hs:∀ p∈obs sp,p∈t):∀ b∈ob so,b∉ob sp:=by
 have:=h.awayS hs
 rw [obs_fst] at this
 exact this
theorem Mm.untell {w0 w:World} {l:List (Nat × List Value)} {g:Nat} {cs:List Value} (h:Mm w0 ((g,cs)::l) w):Mm w0 ((g,[])::l) w:=h.tail.addB (h.lo mS) (h.lt mS) fun p hp e=>(List.pairwise_cons.1 h.apart).1 p hp e.symm
section
section
variable {P:Program} {md:Region.Mode} {ops:Array Oper} {Q:Exit→Act→World→Prop} {S:World→Prop}
theorem actO {i:Nat} {oi:Oper} (dst:Option Tmp) (hdst:oi.dst=dst) {K:Act→World→Prop} {a:Act} {w w':World} (v:Value) (hi:ops[i]?=some oi) (hw:Region.wanted oi (yielded ops a.tmps)=true)
 (he:(execOp a.eval oi).run P w=.ok (.value v) w') (h:K (a.put dst v) w'):wpOp P ops Q i K a w:=by
 unfold wpOp
 simp only [hi,hw,if_true]; refine .inl ?_
 unfold Oper.wp
 rw [he]
 subst hdst
 exact h
theorem onlyH {i:Nat} {oi:Oper} (dst:Option Tmp) (hdst:oi.dst=dst) {fuel:Nat} {listed:Array Bool} {a:Act} {w w':World} (v:Value) (hr:Region.ready md ops listed=[i]) (hi:ops[i]?=some oi) (hw:Region.wanted oi (yielded ops a.tmps)=true)
 (he:(execOp a.eval oi).run P w=.ok (.value v) w') (hS:S w') (h:wpAnyH P md ops Q S fuel (listed.setIfInBounds i true) (a.put dst v) w'):wpAnyH P md ops Q S (fuel+1) listed a w :=
 ⟨fun h0=>(by rw [h0] at hr; cases hr),fun j hj=>by
  rw [hr] at hj
  obtain rfl:=xm1 hj
  exact actO dst hdst v hi hw he ⟨hS,h⟩⟩
end
end
section
section
variable {P:Program} {ops:Array Oper} {Q:Exit→Act→World→Prop} {md:Region.Mode} {S S2:World→Prop} {c:Nat}
theorem readC {i:Nat} {oi oc:Oper} (dst:Option Tmp) (hdst:oi.dst=dst) {n:Nat} {l:Array Bool} {a:Act} {w:World} (v:Value) (hi:ops[i]?=some oi) (hc:ops[c]?=some oc) (hwait:(oc.after.any fun e=>Region.binds md e&&e.on == i)=true)
 (hw:Region.wanted oi (yielded ops a.tmps)=true) (hv:∀ w,S w→(execOp a.eval oi).run P w=.ok (.value v) w)
 (hs:Region.noSelect ops=true) (hf:Region.free md ops l i=true) (hl:l.getD c true=false) (hr:(Region.ready md ops l).contains i=true)
 (hQ:∀ p a w,Q (.panic p) (a.put dst v) w→Q (.panic p) a w) (hS:S w)
 (h:wpAnyC P md ops Q S c n (l.setIfInBounds i true) (a.put dst v) w):wpAnyC P md ops Q S c (n+1) l a w:=by
 subst hdst
 exact wpAnyC_take hi hc hwait hs hf hl hr hQ (.inl ⟨hw,hv⟩) hS h
theorem skipC (dst:Option Tmp) {oc:Oper} (hdst:oc.dst=dst) {n:Nat} {l:Array Bool} {a:Act} {w w':World} (hr:Region.ready md ops l=[c]) (hi:ops[c]?=some oc)
 (hw:Region.wanted oc (yielded ops a.tmps)=true) (he:(execOp a.eval oc).run P w=.ok .skip w') (hl:(l.setIfInBounds c true).getD c true=true)
 (h:wpAnyH P md ops Q S2 n (l.setIfInBounds c true) (a.put dst undef) w'):wpAnyC P md ops Q S c (n+1) l a w :=
 ⟨fun h0=>(by rw [h0] at hr; cases hr),fun j hj=>by
  rw [hr] at hj
  obtain rfl:=xm1 hj
  unfold wpOp
  simp only [hi,hw,if_true]; refine .inl ?_
  unfold Oper.wp
  rw [he]
  subst hdst
  exact ⟨fun hf=>(by rw [hl] at hf; cases hf),wpAnyC_rest n _ _ _ hl (wpAny_of_held n _ _ _ h)⟩⟩
end
end
theorem manyW:Many Try.prog 44 (.agg #[.int .i64 0,.int .i64 0]) 16 2:=⟨by kernel_rfl⟩
theorem Mm.ofRow {w0 w:World} {l:List (Nat × List Value)} (h:Mm w0 l w) {base:Nat} {e:TypeId} {size n:Nat} {xs:List Value} {v:Value} {g:Nat} (hr:w.ownsRow base e size v n xs) (hg:v.ownBlock=some g) (h0:w0.heap.size≤base) (hne:∀ p∈l,p.1≠g):Mm w0 ((g,xs)::l) w:=by
 have hlt:=World.ownsRow.lt hr g hg
 refine ⟨fun p hp=>?_,List.pairwise_cons.2 ⟨fun p hp=>(hne p hp).symm,h.apart⟩,h.below⟩
 rcases xc1 hp with rfl | hp
 · refine ⟨fun j hj=>⟨?_,?_⟩,by simp only; omega,hlt.2⟩
   · have:=World.ownsRow.cells hr hg j _ (List.getElem?_eq_getElem hj)
     rw [Addr.add_mid,Nat.zero_add] at this
     rw [this,List.getElem?_eq_getElem hj]
   · rcases hr.2 with ⟨rfl,_⟩ | ⟨g',cap,cur,rfl,_,hgg,_⟩
     · cases hg
     · obtain rfl:g'=g:=by simpa [Value.ownBlock] using hg
       unfold World.frozen?
       simp only
       rw [hgg]
       simp
 · exact h.rows p hp
theorem idxSm {P:Program} {o:Oper} {a:Act} (t e:TypeId) (len cap m:Nat) (k:IntKind) (ad:Addr) (i:Nat) (x y:Operand) (hu:P.underlying t=some (.slice e)) (hsz:∀ w,(sizeOf e).run P w=.ok m w) (hi:i<len) (ho:o.op=.indexAddr t x y) (hx:a.eval x=.slice (some ad) len cap) (hy:a.eval y=.int k (i:Int)) (w:World) :
 (execOp a.eval o).run P w=.ok (.value (.pointer (some (ad.add (i*m))))) w:=by
 have e1:(Instr.indexAt t (.slice (some ad) len cap) (.int k (i:Int))).run P w=.ok (.pointer (some (ad.add (i*m)))) w:=by
  simp [Instr.indexAt,run_underlying hu,asIntOf,hsz]
  intro hf
  omega
 unfold execOp
 simp only [ho,hx,hy,Sem.run_bind,e1,Result.andThen_ok,Sem.run_pure]
theorem idxR2 (ad:Addr) (len cap i:Nat) (hi:i<len) {o:Oper} {a:Act} (x y:Operand) (ho:o.op=.indexAddr 39 x y) (hx:a.eval x=.slice (some ad) len cap) (hy:a.eval y=.int .i64 (i:Int)) (w:World):(execOp a.eval o).run Try.prog w=.ok (.value (.pointer (some (ad.add (i*2))))) w :=
 idxSm 39 44 len cap 2 .i64 ad i x y Try.underlying39 (fun _=>by kernel_rfl) hi ho hx hy w
theorem range_n : (Try.prog.fieldsOf 44).toList.map Field.name = ["From", "To"] := by kernel_rfl
theorem range_t:(Try.prog.fieldsOf 44).toList.map Field.type=[3,3]:=by kernel_rfl
theorem range_o:(Try.prog.fieldsOf 44).toList.map Field.offset=[0,1]:=by kernel_rfl
theorem two_of14 {l:List Field} {n1 n2:String} {t1 t2:TypeId} {o1 o2:Nat} (hn:l.map Field.name=[n1,n2]) (ht:l.map Field.type=[t1,t2]) (ho:l.map Field.offset=[o1,o2]):∃ a b:Field,l=[a,b]∧a.name=n1∧b.name=n2∧a.type=t1∧b.type=t2∧a.offset=o1∧b.offset=o2:=by
 rcases l with _ | ⟨a,_ | ⟨b,_ | ⟨c,l⟩⟩⟩
 · simp at hn
 · simp at hn
 · simp only [List.map_cons,List.map_nil,List.cons.injEq,and_true] at hn ht ho
   exact ⟨a,b,rfl,hn.1,hn.2,ht.1,ht.2,ho.1,ho.2⟩
 · simp at hn
theorem eqRange (x y:Int) (w:World):(Op.equalIn (9999+1) 44 (.agg #[.int .i64 x,.int .i64 y]) (.agg #[.int .i64 x,.int .i64 y])).run Try.prog w=.ok true w:=by
 rw [run_equalIn_struct w 9999 44 _ _ (by kernel_rfl) (by kernel_rfl)]
 obtain ⟨a,b,e,n1,n2,t1,t2,o1,o2⟩:=two_of14 range_n range_t range_o
 rw [e]
 have p1:(part 3 #[.int .i64 x,.int .i64 y] 0).run Try.prog w=.ok (.int .i64 x) w:=by kernel_rfl
 have p2:(part 3 #[.int .i64 x,.int .i64 y] 1).run Try.prog w=.ok (.int .i64 y) w:=by kernel_rfl
 have q:∀ z:Int,(Op.equalIn (9998+1) 3 (.int .i64 z) (.int .i64 z)).run Try.prog w=.ok true w:=fun z=>by rw [run_equalIn_int w 9998 3 .i64 .i64 z z Try.underlying3,beq_self_eq_true]
 have m1 : a.name ≠ "_" := by rw [n1]; decide
 have m2 : b.name ≠ "_" := by rw [n2]; decide
 have q1:=q x; have q2:=q y; simp only [Op.eqFields,m1,m2,t1,t2,o1,o2,ne_eq,not_false_eq_true,if_true,Sem.run_bind,p1,p2,q1,q2,Result.andThen_ok,Bool.not_true,Bool.false_eq_true,if_false,Sem.run_pure]
theorem eqlRg {o:Oper} {a:Act} (f g f' g':Int) (x y:Operand) (ho:o.op=.binOp .eql 44 x y 44) (hx:a.eval x=.agg #[.int .i64 f,.int .i64 g]) (hy:a.eval y=.agg #[.int .i64 f',.int .i64 g']) (h1:f=f') (h2:g=g') (w:World) :
 (execOp a.eval o).run Try.prog w=.ok (.value (.bool true)) w:=by
 subst h1 h2
 have e1:(binOp .eql 44 (.agg #[.int .i64 f,.int .i64 g]) (.agg #[.int .i64 f,.int .i64 g])).run Try.prog w=.ok (.bool true) w:=by
  rw [run_eql_struct,eqRange]
  rfl
 unfold execOp
 simp only [ho,hx,hy,Sem.run_bind,run_eqGuard_agg (P:=Try.prog) w .eql 44 x y _ _ (by kernel_rfl),Result.andThen_ok,e1,Sem.run_pure]
theorem NewW.rng {w:World} {base:Nat} {l:List (Int × Int)} {ad:Addr} {cap:Nat} (h:NewW w base l (.slice (some ad) l.length cap)) {i:Nat} {p:Int × Int} (hi:l[i]?=some p):∀ j u,[Value.int .i64 p.1,Value.int .i64 p.2][j]?=some u→w.cell? ((ad.add (i*2)).add j)=some u:=by
 obtain ⟨ad',e,h0,h1⟩:=h.at hi
 injection e with e
 subst e; intro j u hu
 rcases j with _ | _ | j
 · obtain rfl:=Option.some.inj hu; exact h0
 · obtain rfl:=Option.some.inj hu; exact h1
 · cases hu
theorem neqRg {o:Oper} {a:Act} (f g:Int) (x y:Operand) (ho:o.op=.binOp .neq 44 x y 44) (hx:a.eval x=.agg #[.int .i64 f,.int .i64 g]) (hy:a.eval y=.agg #[.int .i64 f,.int .i64 g]) (w:World) :
 (execOp a.eval o).run Try.prog w=.ok (.value (.bool false)) w:=by
 have e1:(binOp .neq 44 (.agg #[.int .i64 f,.int .i64 g]) (.agg #[.int .i64 f,.int .i64 g])).run Try.prog w=.ok (.bool false) w:=by
  rw [run_neq_struct,eqRange]
  rfl
 unfold execOp
 simp only [ho,hx,hy,Sem.run_bind,run_eqGuard_agg (P:=Try.prog) w .neq 44 x y _ _ (by kernel_rfl),Result.andThen_ok,e1,Sem.run_pure]
def brw (n:Nat) (f:Nat→Bool):List Value:=(List.range n).map fun i=>.bool (f i)
theorem brw_length (n:Nat) (f:Nat→Bool):(brw n f).length=n:=by unfold brw; rw [List.length_map,List.length_range]
theorem brw_get {n:Nat} (f:Nat→Bool) {i:Nat} (h:i<n):(brw n f)[i]?=some (.bool (f i)):=by
 unfold brw
 rw [List.getElem?_map,List.getElem?_range h]
 rfl
theorem brw_congr {n:Nat} {f g:Nat→Bool} (h:∀ i,i<n→f i=g i):brw n f=brw n g:=by
 unfold brw
 exact List.map_congr_left fun i hi=>by rw [h i (List.mem_range.1 hi)]
def bput (f:Nat→Bool) (i:Nat) (b:Bool):Nat→Bool:=fun j=>if j=i then b else f j
theorem bput_same (f:Nat→Bool) (i:Nat) (b:Bool):bput f i b i=b:=if_pos rfl
theorem bput_other {f:Nat→Bool} {i j:Nat} {b:Bool} (h:¬ j=i):bput f i b j=f j:=if_neg h
theorem brw_set (n:Nat) (f:Nat→Bool) (i:Nat) (b:Bool):(brw n f).set i (.bool b)=brw n (bput f i b):=by
 refine List.ext_getElem? fun j=>?_
 rw [List.getElem?_set]
 by_cases hj:j<n
 · rw [brw_get _ hj,brw_get _ hj,brw_length]
   by_cases c:i=j
   · subst c
     rw [if_pos rfl,if_pos hj,bput_same]
   · rw [if_neg c,bput_other fun e=>c e.symm]
 · have h1:(brw n f)[j]?=none:=List.getElem?_eq_none (by rw [brw_length]; omega)
   have h2:(brw n (bput f i b))[j]?=none:=List.getElem?_eq_none (by rw [brw_length]; omega)
   rw [h1,h2,brw_length]
   split
   · rw [if_neg (by omega)]
   · rfl
theorem brw_snoc (n:Nat) (f:Nat→Bool) (b:Bool):brw n f++[.bool b]=brw (n+1) (bput f n b):=by
 unfold brw
 rw [List.range_succ,List.map_append]
 congr 1
 · exact List.map_congr_left fun i hi=>by rw [bput_other (by have:=List.mem_range.1 hi; omega)]
 · show [Value.bool b]=[Value.bool (bput f n b n)]
   rw [bput_same]
theorem manyB:Many Try.prog 4 (.bool false) 1 1:=⟨by kernel_rfl⟩
theorem Mm.setObs {w0 w:World} {l:List (Nat × List Value)} {g:Nat} {base:Nat} {e:TypeId} {size n cap:Nat} {xs:List Value} (M:Mm w0 (obs (some ⟨g,0,none⟩)++l) w) (V:w.ownsRow base e size (.slice (some ⟨g,0,none⟩) n cap) n xs) (h0:w0.heap.size≤base) (j:Nat) (hj:j<xs.length) (u:Value) :
 ((w.cell? ⟨g,j,none⟩).isSome=true∧w.frozen? ⟨g,j,none⟩=false)∧Mm w0 (obs (some ⟨g,0,none⟩)++l) (w.setCell ⟨g,j,none⟩ u):=by
 have M':Mm w0 ((g,[])::l) w:=M
 have M2:=M'.tail.ofRow V (g:=g) rfl h0 (fun p hp e=>(List.pairwise_cons.1 M'.apart).1 p hp e.symm)
 exact ⟨⟨M2.isSome mS j hj,M2.free mS j hj⟩,(M2.set j hj u).untell⟩
def Lies (X:List Nat) (w:World) (sp:Option Addr):Prop:=∀ b∈ob sp,b∈X∨w.heap.size≤b
theorem Lies.nil (X:List Nat) (w:World):Lies X w none:=fun _ h=>by cases h
theorem Lies.grown {X:List Nat} {w w1:World} {sp sq:Option Addr} {n cap m cap2:Nat} (h:Lies X w sp) (hg:∀ g,(Value.slice sq m cap2).ownBlock=some g→(Value.slice sp n cap).ownBlock=some g∨g=w1.heap.size) (hs:w.heap.size≤w1.heap.size):Lies X w sq:=fun b hb=>by
 rcases hg b ((ob_own sq m cap2 b).2 hb) with e | e
 · exact h b ((ob_own sp n cap b).1 e)
 · exact .inr (by rw [e]; exact hs)
theorem rowCell {w:World} {base:Nat} {e:TypeId} {size n g cap:Nat} {xs:List Value} (V:w.ownsRow base e size (.slice (some ⟨g,0,none⟩) n cap) n xs) {j:Nat} {u:Value} (hu:xs[j]?=some u):w.cell? ⟨g,j,none⟩=some u:=by
 have:=World.ownsRow.cells V (g:=g) rfl j u hu
 rw [Addr.add_mid,Nat.zero_add] at this
 exact this
theorem idxRow {P:Program} {o:Oper} {a:Act} (t e:TypeId) (g len cap i:Nat) (x y:Operand) (hu:P.underlying t=some (.slice e)) (hsz:∀ w,(sizeOf e).run P w=.ok 1 w) (hi:i<len) (ho:o.op=.indexAddr t x y) (hx:a.eval x=.slice (some ⟨g,0,none⟩) len cap) (hy:a.eval y=.int .i64 (i:Int)) (w:World) :
 (execOp a.eval o).run P w=.ok (.value (.pointer (some ⟨g,i,none⟩))) w:=by
 have:=idxSm t e len cap 1 .i64 ⟨g,0,none⟩ i x y hu hsz hi ho hx hy w
 rw [Addr.add_mid,Nat.zero_add,Nat.mul_one] at this
 exact this
def dcs19 (x:Ibx) (n:Nat) (sb si:Option Addr) (cb ci:Nat):List Value:=[.int .i64 ((x.size:Nat):Int),.int .i64 ((x.dn:Nat):Int),.slice sb n cb,.slice si n ci]
theorem dn_le {x:Ibx} (hw:IbxW x) {n:Nat} (hn:∀ k,x.is k=true→k<n):x.dn≤n:=by
 rcases Nat.eq_zero_or_pos x.dn with c | c
 · omega
 · have:=hn (x.dn-1) (hw.lo _ (by omega)); omega
theorem ihr_step {x:Ibx} (hw:IbxW x) {i:Nat} (hi:i≤ihr x) (h:x.is i=true):i+1≤ihr x:=by
 rcases Nat.lt_or_ge i (ihr x) with c | c
 · exact c
 · obtain rfl:i=ihr x:=by omega
   rw [ihr_out hw] at h
   cases h
theorem ihr_stop {x:Ibx} {i:Nat} (hi:i≤ihr x) (h:x.is i=false):ihr x=i:=by
 rcases Nat.lt_or_ge i (ihr x) with c | c
 · rw [ihr_in c] at h
   cases h
 · omega
theorem is_past {x:Ibx} {n:Nat} (hn:∀ k,x.is k=true→k<n) {i:Nat} (h:n≤i):x.is i=false:=by
 cases e:x.is i
 · rfl
 · have:=hn i e; omega
theorem icnt_lo {x:Ibx} (hw:IbxW x) {i:Nat} (h:x.dn≤i):x.dn≤icnt x.is i:=by
 have mono:∀ m k,icnt x.is m≤icnt x.is (m+k):=fun m k=>by
  induction k with
  | zero=>exact xnR _
  | succ k ih=>show _≤icnt x.is (m+k)+_; omega
 have h1:=mono x.dn (i-x.dn)
 rw [icnt_all fun k hk=>hw.lo k hk,show x.dn+(i-x.dn)=i by omega] at h1
 exact h1
theorem ihd_at {x:Ibx} {n:Nat} (hn:∀ k,x.is k=true→k<n) (hnl:n≤ilim x):ihd x=icnt x.is n-x.dn:=by
 unfold ihd
 have:=icnt_more x.is n (ilim x-n) fun i h1 _=>is_past hn h1
 rw [show n+(ilim x-n)=ilim x by omega] at this
 rw [this]
theorem icnt_yes {f:Nat→Bool} {i:Nat} (h:f i=true):icnt f (i+1)=icnt f i+1:=by
 show icnt f i+(if f i=true then 1 else 0)=_
 rw [if_pos h]
theorem icnt_no {f:Nat→Bool} {i:Nat} (h:f i=false):icnt f (i+1)=icnt f i:=by
 show icnt f i+(if f i=true then 1 else 0)=_
 rw [if_neg (by rw [h]; exact fun h=>by cases h),Nat.add_zero]
theorem app_nil19 {x:Nat→Int} (j:Nat):app (fun _=>0) 0 x j=x j:=by unfold app; rw [if_neg (xnZ j),Nat.sub_zero]
theorem dlim_any (w0 w:World) (R:Nat) (l:List (Nat × List Value)) (x:Ibx) (n:Nat) (sb si:Option Addr) (cb ci:Nat) (hw:IbxW x) (hn:∀ k,x.is k=true→k<n) (_hnl:n≤ilim x) (hln:x.dn<10000000) (M:Mm w0 ((R,dcs19 x n sb si cb ci)::(obs sb++(obs si++l))) w) (V_b:w.ownsRow w0.heap.size 5 1 (.slice sb n cb) n (row .u8 n x.b)) (V_i:w.ownsRow w0.heap.size 4 1 (.slice si n ci) n (brw n x.is)) :
 Calls Try.prog 25 #[.pointer (some ⟨R,0,none⟩)] w fun e w'=>e=.returned (.int .i64 ((ilim x:Nat):Int))∧Below w.heap.size w w':=by
 replace M:Mm w0 ((R,[.int .i64 ((x.size:Nat):Int),.int .i64 ((x.dn:Nat):Int),.slice sb n cb,.slice si n ci])::((obs sb)++((obs si)++l))) w:=M
 have hb0:=M.below; have OF:=Off.refl [] w; have hs1:=hw.s1; have hs2:=hw.s2; have hdn:=dn_le hw hn
 have hli:ilim x=x.dn+x.size:=rfl
 go_enter Try.func25,Try.ntmps25
 go_upto_region 0 with fail; refine wp_region_list ?_; refine xpL (.int .i64 0) ?_; refine xT ?_; go_upto_region 1 with fail; have hdr:=(Below.refl w.heap.size w).drew; replace M:=M.drew; replace V_b:=ownsRow_bel V_b hdr; replace V_i:=ownsRow_bel V_i hdr; replace OF:=OF.below hdr; clear hdr
 refine wp_region_held_drew (S:=fun w'=>Mm w0 [(R,[.int .i64 ((x.size:Nat):Int),.int .i64 ((x.dn:Nat):Int),.slice sb n cb,.slice si n ci])] w') (by kernel_rfl) (M.sub _ (List.cons_sublist_cons.2 (List.nil_sublist _))) ?_; intro _; generalize w.drew=w1 at M V_b V_i OF ⊢
 refine xrH 0 3 rfl (.pointer (some ⟨R,0,none⟩)) (fun _ hS=>(by kernel_rfl)) (M.sub _ (List.cons_sublist_cons.2 (List.nil_sublist _))) ?_; refine xrH 1 4 rfl (.pointer (some ⟨R,0,none⟩)) (fun _ hS=>(by kernel_rfl)) (M.sub _ (List.cons_sublist_cons.2 (List.nil_sublist _))) ?_
 refine xrH 2 5 rfl (.pointer (some ⟨R,1,none⟩)) (fun _ hS=>(by kernel_rfl)) (M.sub _ (List.cons_sublist_cons.2 (List.nil_sublist _))) ?_; refine xrH 3 6 rfl (.int .i64 ((x.dn:Nat):Int)) (fun _ hS=>load1 3 _ ⟨R,1,none⟩ _ rfl rfl (fun _=>by kernel_rfl) (hS.get mS 1 _ rfl)) (M.sub _ (List.cons_sublist_cons.2 (List.nil_sublist _))) ?_
 refine xrH 4 7 rfl (.pointer (some ⟨R,0,none⟩)) (fun _ hS=>(by kernel_rfl)) (M.sub _ (List.cons_sublist_cons.2 (List.nil_sublist _))) ?_; refine xrH 5 8 rfl (.pointer (some ⟨R,0,none⟩)) (fun _ hS=>(by kernel_rfl)) (M.sub _ (List.cons_sublist_cons.2 (List.nil_sublist _))) ?_
 refine xrH 6 9 rfl (.pointer (some ⟨R,0,none⟩)) (fun _ hS=>(by kernel_rfl)) (M.sub _ (List.cons_sublist_cons.2 (List.nil_sublist _))) ?_; refine xrH 7 10 rfl (.int .i64 ((x.size:Nat):Int)) (fun _ hS=>load1 3 _ ⟨R,0,none⟩ _ rfl rfl (fun _=>by kernel_rfl) (hS.get mS 0 _ rfl)) (M.sub _ (List.cons_sublist_cons.2 (List.nil_sublist _))) ?_
 refine xrH 8 11 rfl (.int .i64 ((ilim x:Nat):Int)) (fun _ hS=>addI .i64 _ _ _ _ _ _ _ rfl rfl rfl (by rw [xw6]; omega) _) (M.sub _ (List.cons_sublist_cons.2 (List.nil_sublist _))) ?_; refine xrH 9 2 rfl (.int .i64 ((ilim x:Nat):Int)) (fun _ hS=>(by kernel_rfl)) (M.sub _ (List.cons_sublist_cons.2 (List.nil_sublist _))) ?_
 refine wpAnyH_done (by kernel_rfl) ?_ _
 first | show Exit.then _ _ _ _ _ | show Exit.inBlock _ _ _ _ _
 have hbel:Below w.heap.size w w1:=⟨M.below.os.trans hb0.os.symm,M.below.tape.trans hb0.tape.symm,M.below.output.trans hb0.output.symm,OF.size,fun b hb=>OF.blk b hb (fun h=>by cases h)⟩
 have HS:=show Hid _ from hbel; clear M OF hbel V_b V_i; go_wp2; go_ret
 exact ⟨rfl,HS.out⟩
theorem dhere_any (w0 w:World) (R:Nat) (l:List (Nat × List Value)) (x:Ibx) (n:Nat) (sb si:Option Addr) (cb ci:Nat) (hw:IbxW x) (hn:∀ k,x.is k=true→k<n) (hnl:n≤ilim x) (hln:x.dn<10000000) (M:Mm w0 ((R,dcs19 x n sb si cb ci)::(obs sb++(obs si++l))) w) (V_b:w.ownsRow w0.heap.size 5 1 (.slice sb n cb) n (row .u8 n x.b)) (V_i:w.ownsRow w0.heap.size 4 1 (.slice si n ci) n (brw n x.is)) :
 Calls Try.prog 26 #[.pointer (some ⟨R,0,none⟩)] w fun e w'=>e=.returned (.int .i64 ((ihr x:Nat):Int))∧Below w.heap.size w w':=by
 replace M:Mm w0 ((R,[.int .i64 ((x.size:Nat):Int),.int .i64 ((x.dn:Nat):Int),.slice sb n cb,.slice si n ci])::((obs sb)++((obs si)++l))) w:=M
 have hb0:=M.below; have OF:=Off.refl [] w; have hs1:=hw.s1; have hs2:=hw.s2; have hdn:=dn_le hw hn
 have hli:ilim x=x.dn+x.size:=rfl
 go_enter Try.func26,Try.ntmps26
 have hdh:=ihr_dn hw; have hhl:=ihr_le x; go_upto_region 0 with fail; refine wp_region_list ?_; refine xpL (.int .i64 0) ?_; refine xT ?_; go_upto_region 1 with fail; refine wp_region_list ?_; refine xpL (.pointer (some ⟨R,0,none⟩)) ?_; refine xpL (.pointer (some ⟨R,0,none⟩)) ?_; refine xpL (.pointer (some ⟨R,1,none⟩)) ?_
 refine xaL (.int .i64 ((x.dn:Nat):Int)) (load1 3 _ ⟨R,1,none⟩ _ rfl rfl (fun _=>by kernel_rfl) (M.get mS 1 _ rfl)) ?_; refine xpL (.int .i64 ((x.dn:Nat):Int)) ?_; refine xT ?_
 have HI:=show Hid _ from (show Mm w0 ((R,[.int .i64 ((x.size:Nat):Int),.int .i64 ((x.dn:Nat):Int),.slice sb n cb,.slice si n ci])::((obs sb)++((obs si)++l))) w∧w.ownsRow w0.heap.size 5 1 (.slice sb n cb) n (row .u8 n x.b)∧w.ownsRow w0.heap.size 4 1 (.slice si n ci) n (brw n x.is)∧Off [] w w from ⟨M,V_b,V_i,OF⟩); clear M V_b V_i OF; go_wp2
 go_loopw [3] (fun v w'=>∃ i':Nat,i'≤ihr x∧v=.int .i64 (i':Int)∧Mm w0 ((R,[.int .i64 ((x.size:Nat):Int),.int .i64 ((x.dn:Nat):Int),.slice sb n cb,.slice si n ci])::((obs sb)++((obs si)++l))) w'∧w'.ownsRow w0.heap.size 5 1 (.slice sb n cb) n (row .u8 n x.b)∧w'.ownsRow w0.heap.size 4 1 (.slice si n ci) n (brw n x.is)∧Off [] w w') (fun v _=>ilim x+1-(intOf v).toNat)
 case atStart=>exact ⟨x.dn,hdh,rfl,HI.out⟩
 case round =>
  clear HI
  obtain ⟨i,hi,rfl,M,V_b,V_i,OF⟩:=hrel
  by_cases hil:i<n
  · obtain ⟨gi,hg_i⟩:=row_some16 V_i (by omega)
    subst hg_i
    replace M:Mm w0 ((R,[.int .i64 ((x.size:Nat):Int),.int .i64 ((x.dn:Nat):Int),.slice sb n cb,.slice (some ⟨gi,0,none⟩) n ci])::((obs sb)++((obs (some ⟨gi,0,none⟩))++l))) wr:=M
    by_cases hh:x.is i=true
    · go_upto_region 2 with fail
      refine wp_region_list ?_; refine xpL (.int .i64 (i:Int)) ?_; refine xpL (.pointer (some ⟨R,0,none⟩)) ?_; refine xpL (.pointer (some ⟨R,0,none⟩)) ?_; refine xpL (.pointer (some ⟨R,3,none⟩)) ?_; refine xaL (.slice (some ⟨gi,0,none⟩) n ci) (load1 49 _ ⟨R,3,none⟩ _ rfl rfl (fun _=>by kernel_rfl) (M.get mS 3 _ rfl)) ?_
      refine xaL (.int .i64 ((n:Nat):Int)) (lenS _ 49 4 (some ⟨gi,0,none⟩) n ci rfl Try.underlying49 rfl _) ?_; refine xaL (.bool true) (lssI .i64 _ _ _ _ _ _ rfl rfl rfl true (decide_eq_true (by omega)) _) ?_; refine xpL (.bool true) ?_; refine xpL (.pointer (some ⟨R,0,none⟩)) ?_; refine xpL (.pointer (some ⟨R,0,none⟩)) ?_; refine xpL (.pointer (some ⟨R,3,none⟩)) ?_
      refine xaL (.slice (some ⟨gi,0,none⟩) n ci) (load1 49 _ ⟨R,3,none⟩ _ rfl rfl (fun _=>by kernel_rfl) (M.get mS 3 _ rfl)) ?_; refine xpL (.int .i64 (i:Int)) ?_; refine xaL (.pointer (some ⟨gi,i,none⟩)) (idxRow 49 4 gi _ _ i _ _ Try.underlying49 (fun _=>by kernel_rfl) hil rfl rfl rfl _) ?_
      refine xaL (.bool true) (load1 4 _ ⟨gi,i,none⟩ _ rfl rfl (fun _=>by kernel_rfl) (rowCell V_i (by rw [brw_get _ hil,hh]))) ?_; refine xpL (.bool true) ?_; refine xT ?_; have hi1:=ihr_step hw hi hh; clear hh
      have HS:=show Hid _ from (show Mm w0 ((R,[.int .i64 ((x.size:Nat):Int),.int .i64 ((x.dn:Nat):Int),.slice sb n cb,.slice (some ⟨gi,0,none⟩) n ci])::((obs sb)++((obs (some ⟨gi,0,none⟩))++l))) wr∧wr.ownsRow w0.heap.size 5 1 (.slice sb n cb) n (row .u8 n x.b)∧wr.ownsRow w0.heap.size 4 1 (.slice (some ⟨gi,0,none⟩) n ci) n (brw n x.is)∧Off [] w wr from ⟨M,V_b,V_i,OF⟩)
      clear M V_b V_i OF; go_wp2
      go_roundw
      case rel=>exact ⟨i+1,hi1,by go_num,HS.out⟩
      case measure=>simp [intOf]; omega
    · rw [Bool.not_eq_true] at hh
      have hoi:=ihr_stop hi hh; go_upto_region 2 with fail; refine wp_region_list ?_; refine xpL (.int .i64 (i:Int)) ?_; refine xpL (.pointer (some ⟨R,0,none⟩)) ?_; refine xpL (.pointer (some ⟨R,0,none⟩)) ?_; refine xpL (.pointer (some ⟨R,3,none⟩)) ?_; refine xaL (.slice (some ⟨gi,0,none⟩) n ci) (load1 49 _ ⟨R,3,none⟩ _ rfl rfl (fun _=>by kernel_rfl) (M.get mS 3 _ rfl)) ?_
      refine xaL (.int .i64 ((n:Nat):Int)) (lenS _ 49 4 (some ⟨gi,0,none⟩) n ci rfl Try.underlying49 rfl _) ?_; refine xaL (.bool true) (lssI .i64 _ _ _ _ _ _ rfl rfl rfl true (decide_eq_true (by omega)) _) ?_; refine xpL (.bool true) ?_; refine xpL (.pointer (some ⟨R,0,none⟩)) ?_; refine xpL (.pointer (some ⟨R,0,none⟩)) ?_; refine xpL (.pointer (some ⟨R,3,none⟩)) ?_
      refine xaL (.slice (some ⟨gi,0,none⟩) n ci) (load1 49 _ ⟨R,3,none⟩ _ rfl rfl (fun _=>by kernel_rfl) (M.get mS 3 _ rfl)) ?_; refine xpL (.int .i64 (i:Int)) ?_; refine xaL (.pointer (some ⟨gi,i,none⟩)) (idxRow 49 4 gi _ _ i _ _ Try.underlying49 (fun _=>by kernel_rfl) hil rfl rfl rfl _) ?_
      refine xaL (.bool false) (load1 4 _ ⟨gi,i,none⟩ _ rfl rfl (fun _=>by kernel_rfl) (rowCell V_i (by rw [brw_get _ hil,hh]))) ?_; refine xpL (.bool false) ?_; refine xT ?_; go_upto_region 4 with fail; refine wp_region_list ?_; refine xpL (.int .i64 (i:Int)) ?_; refine xpL (.int .i64 (i:Int)) ?_; refine xT ?_; replace hoi:=show Hid _ from hoi; clear hh
      have hbel:Below w.heap.size w wr:=⟨M.below.os.trans hb0.os.symm,M.below.tape.trans hb0.tape.symm,M.below.output.trans hb0.output.symm,OF.size,fun b hb=>OF.blk b hb (fun h=>by cases h)⟩
      have HS:=show Hid _ from hbel; clear M OF hbel V_b V_i; go_wp2; go_ret
      exact ⟨by rw [hoi.out]; rfl,HS.out⟩
  · have hoi:ihr x=i:=ihr_stop hi (is_past hn (by omega))
    go_upto_region 2 with fail; refine wp_region_list ?_; refine xpL (.int .i64 (i:Int)) ?_; refine xpL (.pointer (some ⟨R,0,none⟩)) ?_; refine xpL (.pointer (some ⟨R,0,none⟩)) ?_; refine xpL (.pointer (some ⟨R,3,none⟩)) ?_; refine xaL (.slice si n ci) (load1 49 _ ⟨R,3,none⟩ _ rfl rfl (fun _=>by kernel_rfl) (M.get mS 3 _ rfl)) ?_
    refine xaL (.int .i64 ((n:Nat):Int)) (lenS _ 49 4 si n ci rfl Try.underlying49 rfl _) ?_; refine xaL (.bool false) (lssI .i64 _ _ _ _ _ _ rfl rfl rfl false (decide_eq_false (by omega)) _) ?_; refine xpL (.bool false) ?_
    with_reducible refine skipL ?_ ?_
    · rfl
    simp only [aP,lI,l0,lS]
    with_reducible refine skipL ?_ ?_
    · rfl
    simp only [aP,lI,l0,lS]
    with_reducible refine skipL ?_ ?_
    · rfl
    simp only [aP,lI,l0,lS]
    with_reducible refine skipL ?_ ?_
    · rfl
    simp only [aP,lI,l0,lS]
    with_reducible refine skipL ?_ ?_
    · rfl
    simp only [aP,lI,l0,lS]
    with_reducible refine skipL ?_ ?_
    · rfl
    simp only [aP,lI,l0,lS]
    with_reducible refine skipL ?_ ?_
    · rfl
    simp only [aP,lI,l0,lS]; refine xpL (.bool false) ?_; refine xT ?_; go_upto_region 4 with fail; refine wp_region_list ?_; refine xpL (.int .i64 (i:Int)) ?_; refine xpL (.int .i64 (i:Int)) ?_; refine xT ?_; replace hoi:=show Hid _ from hoi
    have hbel:Below w.heap.size w wr:=⟨M.below.os.trans hb0.os.symm,M.below.tape.trans hb0.tape.symm,M.below.output.trans hb0.output.symm,OF.size,fun b hb=>OF.blk b hb (fun h=>by cases h)⟩
    have HS:=show Hid _ from hbel; clear M OF hbel V_b V_i; go_wp2; go_ret
    exact ⟨by rw [hoi.out]; rfl,HS.out⟩
theorem dheld_any (w0 w:World) (R:Nat) (l:List (Nat × List Value)) (x:Ibx) (n:Nat) (sb si:Option Addr) (cb ci:Nat) (hw:IbxW x) (hn:∀ k,x.is k=true→k<n) (hnl:n≤ilim x) (hln:x.dn<10000000) (M:Mm w0 ((R,dcs19 x n sb si cb ci)::(obs sb++(obs si++l))) w) (V_b:w.ownsRow w0.heap.size 5 1 (.slice sb n cb) n (row .u8 n x.b)) (V_i:w.ownsRow w0.heap.size 4 1 (.slice si n ci) n (brw n x.is)) :
 Calls Try.prog 30 #[.pointer (some ⟨R,0,none⟩)] w fun e w'=>e=.returned (.int .i64 ((ihd x:Nat):Int))∧Below w.heap.size w w':=by
 replace M:Mm w0 ((R,[.int .i64 ((x.size:Nat):Int),.int .i64 ((x.dn:Nat):Int),.slice sb n cb,.slice si n ci])::((obs sb)++((obs si)++l))) w:=M
 have hb0:=M.below; have OF:=Off.refl [] w; have hs1:=hw.s1; have hs2:=hw.s2; have hdn:=dn_le hw hn
 have hli:ilim x=x.dn+x.size:=rfl
 go_enter Try.func30,Try.ntmps30
 go_upto_region 0 with fail; refine wp_region_list ?_; refine xpL (.int .i64 0) ?_; refine xT ?_; go_upto_region 1 with fail; refine wp_region_list ?_; refine xpL (.int .i64 0) ?_; refine xT ?_; go_upto_region 2 with fail; refine wp_region_list ?_; refine xpL (.pointer (some ⟨R,0,none⟩)) ?_; refine xpL (.pointer (some ⟨R,0,none⟩)) ?_; refine xpL (.pointer (some ⟨R,1,none⟩)) ?_
 refine xaL (.int .i64 ((x.dn:Nat):Int)) (load1 3 _ ⟨R,1,none⟩ _ rfl rfl (fun _=>by kernel_rfl) (M.get mS 1 _ rfl)) ?_; refine xpL (.int .i64 ((x.dn:Nat):Int)) ?_; refine xT ?_
 have HI:=show Hid _ from (show Mm w0 ((R,[.int .i64 ((x.size:Nat):Int),.int .i64 ((x.dn:Nat):Int),.slice sb n cb,.slice si n ci])::((obs sb)++((obs si)++l))) w∧w.ownsRow w0.heap.size 5 1 (.slice sb n cb) n (row .u8 n x.b)∧w.ownsRow w0.heap.size 4 1 (.slice si n ci) n (brw n x.is)∧Off [] w w from ⟨M,V_b,V_i,OF⟩); clear M V_b V_i OF; go_wp2
 go_loopw [3,4] (fun c v w'=>∃ i':Nat,x.dn≤i'∧i'≤n∧c=.int .i64 ((icnt x.is i'-x.dn:Nat):Int)∧v=.int .i64 (i':Int)∧Mm w0 ((R,[.int .i64 ((x.size:Nat):Int),.int .i64 ((x.dn:Nat):Int),.slice sb n cb,.slice si n ci])::((obs sb)++((obs si)++l))) w'∧w'.ownsRow w0.heap.size 5 1 (.slice sb n cb) n (row .u8 n x.b)∧w'.ownsRow w0.heap.size 4 1 (.slice si n ci) n (brw n x.is)∧Off [] w w') (fun c v _=>n-(intOf v).toNat)
 case atStart=>exact ⟨x.dn,xnR _,hdn,by rw [icnt_all fun k hk=>hw.lo k hk,Nat.sub_self]; rfl,rfl,HI.out⟩
 case round =>
  clear HI
  obtain ⟨i,hid,hi,rfl,rfl,M,V_b,V_i,OF⟩:=hrel
  have hcl:=icnt_lo hw hid; have hce:=icnt_le x.is i
  by_cases hil:i<n
  · obtain ⟨gi,hg_i⟩:=row_some16 V_i (by omega)
    subst hg_i
    replace M:Mm w0 ((R,[.int .i64 ((x.size:Nat):Int),.int .i64 ((x.dn:Nat):Int),.slice sb n cb,.slice (some ⟨gi,0,none⟩) n ci])::((obs sb)++((obs (some ⟨gi,0,none⟩))++l))) wr:=M
    go_upto_region 3 with fail; refine wp_region_list ?_; refine xpL (.int .i64 (i:Int)) ?_; refine xpL (.pointer (some ⟨R,0,none⟩)) ?_; refine xpL (.pointer (some ⟨R,0,none⟩)) ?_; refine xpL (.pointer (some ⟨R,3,none⟩)) ?_; refine xaL (.slice (some ⟨gi,0,none⟩) n ci) (load1 49 _ ⟨R,3,none⟩ _ rfl rfl (fun _=>by kernel_rfl) (M.get mS 3 _ rfl)) ?_
    refine xaL (.int .i64 ((n:Nat):Int)) (lenS _ 49 4 (some ⟨gi,0,none⟩) n ci rfl Try.underlying49 rfl _) ?_; refine xaL (.bool true) (lssI .i64 _ _ _ _ _ _ rfl rfl rfl true (decide_eq_true (by omega)) _) ?_; refine xT ?_
    by_cases hh:x.is i=true
    · have hc1:=show Hid _ from icnt_yes (f:=x.is) hh
      go_upto_region 5 with fail; refine wp_region_list ?_; refine xpL (.pointer (some ⟨R,0,none⟩)) ?_; refine xpL (.pointer (some ⟨R,0,none⟩)) ?_; refine xpL (.pointer (some ⟨R,3,none⟩)) ?_; refine xaL (.slice (some ⟨gi,0,none⟩) n ci) (load1 49 _ ⟨R,3,none⟩ _ rfl rfl (fun _=>by kernel_rfl) (M.get mS 3 _ rfl)) ?_; refine xpL (.int .i64 (i:Int)) ?_
      refine xaL (.pointer (some ⟨gi,i,none⟩)) (idxRow 49 4 gi _ _ i _ _ Try.underlying49 (fun _=>by kernel_rfl) hil rfl rfl rfl _) ?_; refine xaL (.bool true) (load1 4 _ ⟨gi,i,none⟩ _ rfl rfl (fun _=>by kernel_rfl) (rowCell V_i (by rw [brw_get _ hil,hh]))) ?_; refine xT ?_; go_upto_region 6 with fail; refine wp_region_list ?_; refine xpL (.int .i64 ((icnt x.is i-x.dn:Nat):Int)) ?_
      refine xaL (.int .i64 ((icnt x.is i+1-x.dn:Nat):Int)) (addI .i64 _ _ _ _ _ _ _ rfl rfl rfl (by rw [xw6]; omega) _) ?_; refine xpL (.int .i64 ((icnt x.is i+1-x.dn:Nat):Int)) ?_; refine xT ?_; clear hh
      have HS:=show Hid _ from (show Mm w0 ((R,[.int .i64 ((x.size:Nat):Int),.int .i64 ((x.dn:Nat):Int),.slice sb n cb,.slice (some ⟨gi,0,none⟩) n ci])::((obs sb)++((obs (some ⟨gi,0,none⟩))++l))) wr∧wr.ownsRow w0.heap.size 5 1 (.slice sb n cb) n (row .u8 n x.b)∧wr.ownsRow w0.heap.size 4 1 (.slice (some ⟨gi,0,none⟩) n ci) n (brw n x.is)∧Off [] w wr from ⟨M,V_b,V_i,OF⟩)
      clear M V_b V_i OF; go_wp2
      go_roundw
      case rel=>exact ⟨i+1,by omega,by omega,by rw [hc1.out],by go_num,HS.out⟩
      case measure=>simp [intOf]; omega
    · rw [Bool.not_eq_true] at hh
      have hc1:=show Hid _ from icnt_no (f:=x.is) hh; go_upto_region 5 with fail; refine wp_region_list ?_; refine xpL (.pointer (some ⟨R,0,none⟩)) ?_; refine xpL (.pointer (some ⟨R,0,none⟩)) ?_; refine xpL (.pointer (some ⟨R,3,none⟩)) ?_; refine xaL (.slice (some ⟨gi,0,none⟩) n ci) (load1 49 _ ⟨R,3,none⟩ _ rfl rfl (fun _=>by kernel_rfl) (M.get mS 3 _ rfl)) ?_
      refine xpL (.int .i64 (i:Int)) ?_; refine xaL (.pointer (some ⟨gi,i,none⟩)) (idxRow 49 4 gi _ _ i _ _ Try.underlying49 (fun _=>by kernel_rfl) hil rfl rfl rfl _) ?_; refine xaL (.bool false) (load1 4 _ ⟨gi,i,none⟩ _ rfl rfl (fun _=>by kernel_rfl) (rowCell V_i (by rw [brw_get _ hil,hh]))) ?_; refine xT ?_; clear hh
      have HS:=show Hid _ from (show Mm w0 ((R,[.int .i64 ((x.size:Nat):Int),.int .i64 ((x.dn:Nat):Int),.slice sb n cb,.slice (some ⟨gi,0,none⟩) n ci])::((obs sb)++((obs (some ⟨gi,0,none⟩))++l))) wr∧wr.ownsRow w0.heap.size 5 1 (.slice sb n cb) n (row .u8 n x.b)∧wr.ownsRow w0.heap.size 4 1 (.slice (some ⟨gi,0,none⟩) n ci) n (brw n x.is)∧Off [] w wr from ⟨M,V_b,V_i,OF⟩)
      clear M V_b V_i OF; go_wp2
      go_roundw
      case rel=>exact ⟨i+1,by omega,by omega,by rw [hc1.out],by go_num,HS.out⟩
      case measure=>simp [intOf]; omega
  · obtain rfl:n=i:=by omega
    have hoi:=show Hid _ from ihd_at hn hnl; go_upto_region 3 with fail; refine wp_region_list ?_; refine xpL (.int .i64 (n:Int)) ?_; refine xpL (.pointer (some ⟨R,0,none⟩)) ?_; refine xpL (.pointer (some ⟨R,0,none⟩)) ?_; refine xpL (.pointer (some ⟨R,3,none⟩)) ?_; refine xaL (.slice si n ci) (load1 49 _ ⟨R,3,none⟩ _ rfl rfl (fun _=>by kernel_rfl) (M.get mS 3 _ rfl)) ?_
    refine xaL (.int .i64 ((n:Nat):Int)) (lenS _ 49 4 si n ci rfl Try.underlying49 rfl _) ?_; refine xaL (.bool false) (lssI .i64 _ _ _ _ _ _ rfl rfl rfl false (decide_eq_false (by omega)) _) ?_; refine xT ?_; go_upto_region 7 with fail; refine wp_region_list ?_; refine xpL (.int .i64 ((icnt x.is n-x.dn:Nat):Int)) ?_; refine xpL (.int .i64 ((icnt x.is n-x.dn:Nat):Int)) ?_
    refine xT ?_
    have hbel:Below w.heap.size w wr:=⟨M.below.os.trans hb0.os.symm,M.below.tape.trans hb0.tape.symm,M.below.output.trans hb0.output.symm,OF.size,fun b hb=>OF.blk b hb (fun h=>by cases h)⟩
    have HS:=show Hid _ from hbel; clear M OF hbel V_b V_i; go_wp2; go_ret
    exact ⟨by rw [hoi.out]; rfl,HS.out⟩
theorem dread_any (w0 w:World) (R:Nat) (l:List (Nat × List Value)) (x:Ibx) (n:Nat) (sb si:Option Addr) (cb ci:Nat) (hw:IbxW x) (hn:∀ k,x.is k=true→k<n) (hnl:n≤ilim x) (hln:x.dn<10000000) (m:Int) (M:Mm w0 ((R,dcs19 x n sb si cb ci)::(obs sb++(obs si++l))) w) (V_b:w.ownsRow w0.heap.size 5 1 (.slice sb n cb) n (row .u8 n x.b)) (V_i:w.ownsRow w0.heap.size 4 1 (.slice si n ci) n (brw n x.is)) :
 Calls Try.prog 14 #[.pointer (some ⟨R,0,none⟩),.int .i64 m] w fun e w'=>∃ sq cq,e=.returned (.slice sq (irB x m).length cq)∧Mm w0 ((R,dcs19 (irx x m) n sb si cb ci)::(obs sq++(obs sb++(obs si++l)))) w'∧w'.ownsRow w0.heap.size 5 1 (.slice sq (irB x m).length cq) (irB x m).length (row .u8 (irB x m).length (bl (irB x m)))∧w'.ownsRow w0.heap.size 5 1 (.slice sb n cb) n (row .u8 n x.b)∧w'.ownsRow w0.heap.size 4 1 (.slice si n ci) n (brw n x.is)∧Off (R::(ob sb++ob si)) w w':=by
 replace M:Mm w0 ((R,[.int .i64 ((x.size:Nat):Int),.int .i64 ((x.dn:Nat):Int),.slice sb n cb,.slice si n ci])::((obs sb)++((obs si)++l))) w:=M
 have hb0:=M.below
 obtain ⟨XS,hXS⟩:∃ X_,X_=(R::(ob sb++ob si)):=⟨_,rfl⟩
 have hRX:R∈XS:=by rw [hXS]; simp
 have L_b:Lies XS w sb:=fun b_ hb_=>.inl (by rw [hXS]; simp [hb_])
 have L_i:Lies XS w si:=fun b_ hb_=>.inl (by rw [hXS]; simp [hb_])
 have OF:=Off.refl XS w; have hs1:=hw.s1; have hs2:=hw.s2; have hdn:=dn_le hw hn
 have hli:ilim x=x.dn+x.size:=rfl
 go_enter Try.func14,Try.ntmps14
 have hdh:=ihr_dn hw; have hhl:=ihr_le x; have hrn:=irN_le hw m; have hbl:=irB_len x m; go_upto_region 0 with fail; refine wp_region_list ?_; refine xpL (.slice none 0 0) ?_; refine xT ?_; go_upto_region 1 with fail; have hdr:=(Below.refl w.heap.size w).drew; replace M:=M.drew; replace V_b:=ownsRow_bel V_b hdr; replace V_i:=ownsRow_bel V_i hdr; replace OF:=OF.below hdr; clear hdr
 refine wp_region_held_drew (S:=fun w'=>Mm w0 [(R,[.int .i64 ((x.size:Nat):Int),.int .i64 ((x.dn:Nat):Int),.slice sb n cb,.slice si n ci])] w') (by kernel_rfl) (M.sub _ (List.cons_sublist_cons.2 (List.nil_sublist _))) ?_; intro _; generalize w.drew=w1 at M V_b V_i OF ⊢
 refine xrH 0 7 rfl (.pointer (some ⟨R,0,none⟩)) (fun _ hS=>(by kernel_rfl)) (M.sub _ (List.cons_sublist_cons.2 (List.nil_sublist _))) ?_; refine xrH 2 9 rfl (.pointer (some ⟨R,0,none⟩)) (fun _ hS=>(by kernel_rfl)) (M.sub _ (List.cons_sublist_cons.2 (List.nil_sublist _))) ?_
 refine xrH 3 10 rfl (.pointer (some ⟨R,0,none⟩)) (fun _ hS=>(by kernel_rfl)) (M.sub _ (List.cons_sublist_cons.2 (List.nil_sublist _))) ?_; refine xrH 4 11 rfl (.pointer (some ⟨R,1,none⟩)) (fun _ hS=>(by kernel_rfl)) (M.sub _ (List.cons_sublist_cons.2 (List.nil_sublist _))) ?_
 refine xrH 5 12 rfl (.int .i64 ((x.dn:Nat):Int)) (fun _ hS=>load1 3 _ ⟨R,1,none⟩ _ rfl rfl (fun _=>by kernel_rfl) (hS.get mS 1 _ rfl)) (M.sub _ (List.cons_sublist_cons.2 (List.nil_sublist _))) ?_; refine xrH 7 14 rfl (.int .i64 m) (fun _ hS=>(by kernel_rfl)) (M.sub _ (List.cons_sublist_cons.2 (List.nil_sublist _))) ?_
 refine xrH 8 15 rfl (.int .i64 (max m 0)) (fun _ hS=>maxI .i64 .i64 _ _ _ _ _ _ _ rfl rfl rfl (by split <;> omega) _) (M.sub _ (List.cons_sublist_cons.2 (List.nil_sublist _))) ?_; have key:=dhere_any w0 _ R _ x n sb si cb ci hw hn hnl hln M V_b V_i; refine callH (i:=1) (some 8) rfl (by kernel_rfl) rfl rfl (fun _=>by kernel_rfl) key ?_; clear key; rintro e w2 ⟨rfl,l_⟩
 replace M:=M.call l_; replace V_b:=ownsRow_bel V_b l_; replace V_i:=ownsRow_bel V_i l_; replace OF:=OF.below l_; clear l_
 refine ⟨_,rfl,(M.sub _ (List.cons_sublist_cons.2 (List.nil_sublist _))),?_⟩
 simp only [aP,lI,l0,lS]; refine xrH 6 13 rfl (.int .i64 ((ihr x-x.dn:Nat):Int)) (fun _ hS=>subI .i64 _ _ _ _ _ _ _ rfl rfl rfl (by rw [xw6]; omega) _) (M.sub _ (List.cons_sublist_cons.2 (List.nil_sublist _))) ?_
 refine xrH 9 16 rfl (.int .i64 ((irN x m:Nat):Int)) (fun _ hS=>minI .i64 .i64 _ _ _ _ _ _ _ rfl rfl rfl (by unfold irN; split <;> omega) _) (M.sub _ (List.cons_sublist_cons.2 (List.nil_sublist _))) ?_; refine xrH 10 5 rfl (.int .i64 ((irN x m:Nat):Int)) (fun _ hS=>(by kernel_rfl)) (M.sub _ (List.cons_sublist_cons.2 (List.nil_sublist _))) ?_
 refine wpAnyH_done (by kernel_rfl) ?_ _
 first | show Exit.then _ _ _ _ _ | show Exit.inBlock _ _ _ _ _
 by_cases h0:irN x m=0
 · go_upto_region 2 with fail
   refine wp_region_list ?_; refine xpL (.int .i64 ((irN x m:Nat):Int)) ?_; refine xaL (.bool true) (eqlI .i64 _ _ _ _ _ _ rfl rfl rfl true (by rw [beq_iff_eq]; omega) _) ?_; refine xT ?_; go_upto_region 3 with fail; refine wp_region_list ?_; refine xpL (.slice none 0 0) ?_; refine xT ?_; have h1_:=show Hid _ from (show irx x m=x by unfold irx; rw [h0,Nat.add_zero])
   have h2_:=show Hid _ from (show (irB x m)=[] from List.eq_nil_of_length_eq_zero (by omega))
   rw [hXS] at OF
   have V_c:w2.ownsRow w0.heap.size 5 1 (.slice none 0 0) 0 (row .u8 0 (bl [])):=⟨rfl,.inl ⟨rfl,rfl⟩⟩
   replace M:Mm w0 ((R,dcs19 x n sb si cb ci)::(obs none++(obs sb++(obs si++l)))) w2:=M
   have HS:=show Hid _ from (And.intro M (And.intro V_c (And.intro V_b (And.intro V_i OF)))); clear M V_b V_i V_c OF h0 hbl; go_wp2; go_ret
   refine ⟨none,0,by rw [h2_.out]; rfl,?_⟩
   rw [h1_.out,h2_.out]
   exact HS.out
 · go_upto_region 2 with fail
   refine wp_region_list ?_; refine xpL (.int .i64 ((irN x m:Nat):Int)) ?_; refine xaL (.bool false) (eqlI .i64 _ _ _ _ _ _ rfl rfl rfl false (by rw [beq_eq_false_iff_ne]; omega) _) ?_; refine xT ?_
   have hlen2:x.dn+irN x m≤n:=by
    rcases Nat.lt_or_ge n (x.dn+irN x m) with c | c
    · have:=hn (x.dn+irN x m-1) (ihr_in (by omega)); omega
    · exact c
   obtain ⟨spc,hcut,hsrc⟩:=cut_lh (P:=Try.prog) (t:=28) Try.underlying28 (fun w=>by kernel_rfl) sb n cb x.dn (x.dn+irN x m) (by omega) hlen2 (Own.le V_b)
   have hnil2:spc=none→cb-x.dn=0:=fun e_=>absurd ((hsrc _ _ (Own.src V_b)).none e_) (by omega)
   go_upto_region 4 with fail; have hdr:=(Below.refl w2.heap.size w2).drew; replace M:=M.drew; replace V_b:=ownsRow_bel V_b hdr; replace V_i:=ownsRow_bel V_i hdr; replace OF:=OF.below hdr; clear hdr
   refine wp_region_held_drew (S:=fun w'=>Mm w0 [(R,[.int .i64 ((x.size:Nat):Int),.int .i64 ((x.dn:Nat):Int),.slice sb n cb,.slice si n ci])] w') (by kernel_rfl) (M.sub _ (List.cons_sublist_cons.2 (List.nil_sublist _))) ?_; intro _; generalize w2.drew=w3 at M V_b V_i OF ⊢
   refine xrH 1 20 rfl (.pointer (some ⟨R,0,none⟩)) (fun _ hS=>(by kernel_rfl)) (M.sub _ (List.cons_sublist_cons.2 (List.nil_sublist _))) ?_; refine xrH 2 21 rfl (.pointer (some ⟨R,0,none⟩)) (fun _ hS=>(by kernel_rfl)) (M.sub _ (List.cons_sublist_cons.2 (List.nil_sublist _))) ?_
   refine xrH 3 22 rfl (.pointer (some ⟨R,2,none⟩)) (fun _ hS=>(by kernel_rfl)) (M.sub _ (List.cons_sublist_cons.2 (List.nil_sublist _))) ?_; refine xrH 4 23 rfl (.slice sb n cb) (fun _ hS=>load1 28 _ ⟨R,2,none⟩ _ rfl rfl (fun _=>by kernel_rfl) (hS.get mS 2 _ rfl)) (M.sub _ (List.cons_sublist_cons.2 (List.nil_sublist _))) ?_
   refine xrH 5 24 rfl (.pointer (some ⟨R,0,none⟩)) (fun _ hS=>(by kernel_rfl)) (M.sub _ (List.cons_sublist_cons.2 (List.nil_sublist _))) ?_; refine xrH 6 25 rfl (.pointer (some ⟨R,0,none⟩)) (fun _ hS=>(by kernel_rfl)) (M.sub _ (List.cons_sublist_cons.2 (List.nil_sublist _))) ?_
   refine xrH 7 26 rfl (.pointer (some ⟨R,1,none⟩)) (fun _ hS=>(by kernel_rfl)) (M.sub _ (List.cons_sublist_cons.2 (List.nil_sublist _))) ?_; refine xrH 8 27 rfl (.int .i64 ((x.dn:Nat):Int)) (fun _ hS=>load1 3 _ ⟨R,1,none⟩ _ rfl rfl (fun _=>by kernel_rfl) (hS.get mS 1 _ rfl)) (M.sub _ (List.cons_sublist_cons.2 (List.nil_sublist _))) ?_
   refine xrH 9 28 rfl (.pointer (some ⟨R,0,none⟩)) (fun _ hS=>(by kernel_rfl)) (M.sub _ (List.cons_sublist_cons.2 (List.nil_sublist _))) ?_; refine xrH 10 29 rfl (.pointer (some ⟨R,0,none⟩)) (fun _ hS=>(by kernel_rfl)) (M.sub _ (List.cons_sublist_cons.2 (List.nil_sublist _))) ?_
   refine xrH 11 30 rfl (.pointer (some ⟨R,1,none⟩)) (fun _ hS=>(by kernel_rfl)) (M.sub _ (List.cons_sublist_cons.2 (List.nil_sublist _))) ?_; refine xrH 12 31 rfl (.int .i64 ((x.dn:Nat):Int)) (fun _ hS=>load1 3 _ ⟨R,1,none⟩ _ rfl rfl (fun _=>by kernel_rfl) (hS.get mS 1 _ rfl)) (M.sub _ (List.cons_sublist_cons.2 (List.nil_sublist _))) ?_
   refine xrH 13 32 rfl (.int .i64 ((irN x m:Nat):Int)) (fun _ hS=>(by kernel_rfl)) (M.sub _ (List.cons_sublist_cons.2 (List.nil_sublist _))) ?_; refine xrH 14 33 rfl (.int .i64 ((x.dn+irN x m:Nat):Int)) (fun _ hS=>addI .i64 _ _ _ _ _ _ _ rfl rfl rfl (by rw [xw6]; omega) _) (M.sub _ (List.cons_sublist_cons.2 (List.nil_sublist _))) ?_
   refine xrH 15 34 rfl (.slice spc (x.dn+irN x m-x.dn) (cb-x.dn)) (fun _ hS=>cutLHop 28 _ _ _ _ _ _ _ rfl rfl rfl rfl (hcut _)) (M.sub _ (List.cons_sublist_cons.2 (List.nil_sublist _))) ?_; have hlb:=(Below.refl w3.heap.size w3).alloc (xnR _) (.cells #[] 5)
   have V_n4:(w3.alloc (.cells #[] 5)).ownsRow w0.heap.size 5 1 (.slice (some ⟨w3.heap.size,0,none⟩) 0 0) 0 []:=World.ownsRow_lit w3 #[] 0 (xnT hb0.size OF.size) (by unfold maxLen; omega) rfl
   have L_n4:Lies XS w (some ⟨w3.heap.size,0,none⟩):=fun b_ hb_=>.inr (by obtain rfl:=xm1 hb_; exact OF.size)
   have Mn_:=M.rowNil #[] 5; replace V_b:=ownsRow_bel V_b hlb; replace V_i:=ownsRow_bel V_i hlb; replace OF:=OF.below hlb; replace M:=M.call hlb; clear hlb; refine onlyH (i:=0) (w':=w3.alloc (.cells #[] 5)) (some 19) rfl (.slice (some ⟨w3.heap.size,0,none⟩) 0 0) (by kernel_rfl) rfl rfl (by kernel_rfl) (M.sub _ (List.cons_sublist_cons.2 (List.nil_sublist _))) ?_
   simp only [aP,lI,l0,lS]; clear M; have M:=Mn_; clear Mn_; generalize w3.alloc (.cells #[] 5)=w4 at M V_n4 V_b V_i OF ⊢; generalize (some ⟨w3.heap.size,0,none⟩:Option Addr)=p4 at M V_n4 L_n4 ⊢
   replace M:Mm w0 ((R,[.int .i64 ((x.size:Nat):Int),.int .i64 ((x.dn:Nat):Int),.slice sb n cb,.slice si n ci])::((obs p4)++((obs sb)++((obs si)++l)))) w4:=M.perm (pull0 ([(R,[.int .i64 ((x.size:Nat):Int),.int .i64 ((x.dn:Nat):Int),.slice sb n cb,.slice si n ci])]:List (Nat × List Value)) (obs p4) ((obs sb)++((obs si)++l))).symm
   obtain ⟨v2,w5,hr,V2,hgr,hg2⟩:=run_append_Own (P:=Try.prog) (ty:=28) Try.underlying28 one8 (show Own _ _ 5 .u8 0 (fun _=>0) _ from V_n4) spc (x.dn+irN x m-x.dn) (cb-x.dn) (fun j=>x.b (x.dn+j)) (hsrc _ _ (Own.src V_b)) hnil2 (by unfold maxLen; omega) (by omega) (xnT hb0.size OF.size)
   have Mp:=M.perm (pull0 ([(R,[.int .i64 ((x.size:Nat):Int),.int .i64 ((x.dn:Nat):Int),.slice sb n cb,.slice si n ci])]:List (Nat × List Value)) (obs p4) ((obs sb)++((obs si)++l))); have ho:=Off.grown (Off.refl (ob p4) w4) hgr (fun b_ hb_=>.inl ((ob_own _ _ _ b_).1 hb_)); replace V_b:=ownsRow_away V_b ho (Mp.awayO (fun p_ hp_=>by simp [hp_]))
   replace V_i:=ownsRow_away V_i ho (Mp.awayO (fun p_ hp_=>by simp [hp_]))
   obtain ⟨sv5,cv5,rfl,_,_⟩:=row_form16 V2
   have L2:=L_n4.grown hg2 OF.size; replace OF:=OF.grown hgr (fun b_ hb_=>L_n4 b_ ((ob_own _ _ _ b_).1 hb_))
   have M':=Mp.rowApp V_n4 hgr V2 hg2 (xnR _)
   clear M Mp ho hgr hg2 V_n4 L_n4; have L_n4:=L2; clear L2
   have M:Mm w0 ((R,[.int .i64 ((x.size:Nat):Int),.int .i64 ((x.dn:Nat):Int),.slice sb n cb,.slice si n ci])::((obs sv5)++((obs sb)++((obs si)++l)))) w5:=M'.perm (pull0 ([(R,[.int .i64 ((x.size:Nat):Int),.int .i64 ((x.dn:Nat):Int),.slice sb n cb,.slice si n ci])]:List (Nat × List Value)) (obs sv5) ((obs sb)++((obs si)++l))).symm
   clear M'; refine onlyH (i:=16) (some 35) rfl (_) (by kernel_rfl) rfl rfl (appendOp _ _ 28 _ _ _ rfl rfl rfl hr) (M.sub _ (List.cons_sublist_cons.2 (List.nil_sublist _))) ?_; simp only [aP,lI,l0,lS]; clear hr
   rw [show 0+(x.dn+irN x m-x.dn)=irN x m by omega] at V2 ⊢
   replace V2:=Own.congr V2 (fun j _=>app_nil19 j)
   replace V2:w5.ownsRow w0.heap.size 5 1 (.slice sv5 (irN x m) cv5) (irN x m) (row .u8 (irN x m) (fun j=>x.b (x.dn+j))):=V2
   have V_n4:=V2; clear V2; refine xrH 17 6 rfl (.slice sv5 (irN x m) cv5) (fun _ hS=>(by kernel_rfl)) (M.sub _ (List.cons_sublist_cons.2 (List.nil_sublist _))) ?_
   refine wpAnyH_done (by kernel_rfl) ?_ _
   first | show Exit.then _ _ _ _ _ | show Exit.inBlock _ _ _ _ _
   clear hcut hsrc; go_upto_region 5 with fail; refine wp_region_list ?_; refine xpL (.pointer (some ⟨R,0,none⟩)) ?_; refine xpL (.pointer (some ⟨R,0,none⟩)) ?_; refine xpL (.pointer (some ⟨R,0,none⟩)) ?_; refine xpL (.pointer (some ⟨R,1,none⟩)) ?_; refine xaL (.int .i64 ((x.dn:Nat):Int)) (load1 3 _ ⟨R,1,none⟩ _ rfl rfl (fun _=>by kernel_rfl) (M.get mS 1 _ rfl)) ?_
   refine xpL (.int .i64 ((irN x m:Nat):Int)) ?_; refine xaL (.int .i64 ((x.dn+irN x m:Nat):Int)) (addI .i64 _ _ _ _ _ _ _ rfl rfl rfl (by rw [xw6]; omega) _) ?_; refine xpL (.pointer (some ⟨R,0,none⟩)) ?_; refine xpL (.pointer (some ⟨R,1,none⟩)) ?_
   refine skipOpL rfl (storeAny (.int .i64 ((x.dn+irN x m:Nat):Int)) R 1 3 _ _ rfl rfl rfl rfl rfl (M.isSome mS 1 (by simp)) (M.free mS 1 (by simp)) (by kernel_rfl)) ?_; simp only [Act.put]; replace M:=M.set 1 (by simp) (.int .i64 ((x.dn+irN x m:Nat):Int))
   replace V_b:=ownsRow_away V_b ((Off.refl [R] _).set (b:=R) mS 1 (.int .i64 ((x.dn+irN x m:Nat):Int))) (fun b_ hb_=>by obtain rfl:=xm1 hb_; exact M.awayB (fun p_ hp_=>by simp [hp_])); replace V_i:=ownsRow_away V_i ((Off.refl [R] _).set (b:=R) mS 1 (.int .i64 ((x.dn+irN x m:Nat):Int))) (fun b_ hb_=>by obtain rfl:=xm1 hb_; exact M.awayB (fun p_ hp_=>by simp [hp_]))
   replace OF:=OF.and1 ((Off.refl [R] _).set (b:=R) mS 1 (.int .i64 ((x.dn+irN x m:Nat):Int))) (.inl hRX); replace V_n4:=ownsRow_away V_n4 ((Off.refl [R] _).set (b:=R) mS 1 (.int .i64 ((x.dn+irN x m:Nat):Int))) (fun b_ hb_=>by obtain rfl:=xm1 hb_; exact M.awayB (fun p_ hp_=>by simp [hp_]))
   generalize w5.setCell ⟨R,1,none⟩ (.int .i64 ((x.dn+irN x m:Nat):Int))=w6 at M V_b V_i OF L_b L_i V_n4 L_n4 ⊢
   replace M:Mm w0 ((R,[.int .i64 ((x.size:Nat):Int),.int .i64 ((x.dn+irN x m:Nat):Int),.slice sb n cb,.slice si n ci])::((obs sv5)++((obs sb)++((obs si)++l)))) w6:=M
   refine xT ?_; go_upto_region 6 with fail; refine wp_region_list ?_; refine xpL (.slice sv5 (irN x m) cv5) ?_; refine xpL (.slice sv5 (irN x m) cv5) ?_; refine xT ?_
   rw [hXS] at OF
   have hbl2:=show Hid _ from hbl
   rw [row_congr .u8 (irN x m) (fun j hj=>(irB_bl (x:=x) (m:=m) hj).symm)] at V_n4
   replace M:Mm w0 ((R,dcs19 (irx x m) n sb si cb ci)::(obs sv5++(obs sb++(obs si++l)))) w6:=M
   have HS:=show Hid _ from (And.intro M (And.intro V_n4 (And.intro V_b (And.intro V_i OF)))); clear M V_n4 V_b V_i OF hbl; go_wp2; go_ret
   refine ⟨sv5,cv5,by rw [hbl2.out]; rfl,?_⟩
   rw [hbl2.out]
   exact HS.out
theorem dnew19_any (w0 w:World) (l:List (Nat × List Value)) (n:Int) (M:Mm w0 l w) :
 Calls Try.prog 9 #[.int .i64 n] w fun e w'=>∃ R,e=.returned (.pointer (some ⟨R,0,none⟩))∧Mm w0 ((R,dcs19 (inew n) 0 none none 0 0)::l) w'∧Below w.heap.size w w':=by
 have hb0:=M.below; have OF:=Off.refl [] w
 go_enter Try.func9,Try.ntmps9
 go_upto_region 0 with fail; refine wp_region_list ?_; refine xpL (.pointer none) ?_; refine xT ?_; go_upto_region 1 with fail; refine wp_region_list ?_; refine xpL (.int .i64 n) ?_; refine xaL (.int .i64 (min n 1048576)) (minI .i64 .i64 _ _ _ _ _ _ _ rfl rfl rfl (by split <;> omega) _) ?_
 refine readL (.int .i64 (((max 1 (min n 1048576)).toNat:Nat):Int)) rfl (maxI .i64 .i64 _ _ _ _ _ _ _ rfl rfl rfl (by split <;> omega) _) ?_; simp only [aP,lI,l0,lS]; refine xpL (.agg #[.int .i64 (((max 1 (min n 1048576)).toNat:Nat):Int),.int .i64 0,.slice none 0 0,.slice none 0 0]) ?_
 have hlb:=(Below.refl w.heap.size w).alloc (xnR _) (.cells #[.int .i64 (((max 1 (min n 1048576)).toNat:Nat):Int),.int .i64 0,.slice none 0 0,.slice none 0 0] 51); refine actL (w':=w.alloc (.cells #[.int .i64 (((max 1 (min n 1048576)).toNat:Nat):Int),.int .i64 0,.slice none 0 0,.slice none 0 0] 51)) (.pointer (some ⟨w.heap.size,0,none⟩)) rfl (by kernel_rfl) ?_
 simp only [aP,lI,l0,lS]; have hB_:=OF.size; replace OF:=OF.below hlb; replace M:=M.box #[.int .i64 (((max 1 (min n 1048576)).toNat:Nat):Int),.int .i64 0,.slice none 0 0,.slice none 0 0] 51 w.heap.size rfl; clear hlb; generalize w.alloc (.cells #[.int .i64 (((max 1 (min n 1048576)).toNat:Nat):Int),.int .i64 0,.slice none 0 0,.slice none 0 0] 51)=w1 at M OF ⊢
 generalize eB_:w.heap.size=B1 at M ⊢
 have hB_B1:w.heap.size≤B1:=by rw [← eB_]; exact hB_
 clear hB_ eB_
 replace M:Mm w0 ((B1,[.int .i64 (((max 1 (min n 1048576)).toNat:Nat):Int),.int .i64 0,.slice none 0 0,.slice none 0 0])::l) w1:=M
 refine xpL (.pointer (some ⟨B1,0,none⟩)) ?_; refine xT ?_
 have hbel:Below w.heap.size w w1:=⟨M.below.os.trans hb0.os.symm,M.below.tape.trans hb0.tape.symm,M.below.output.trans hb0.output.symm,OF.size,fun b hb=>OF.blk b hb (fun h=>by cases h)⟩
 replace M:Mm w0 ((B1,dcs19 (inew n) 0 none none 0 0)::l) w1:=M
 have HS:=show Hid _ from (And.intro M hbel); clear M OF hbel; go_wp2; go_ret
 exact ⟨B1,rfl,HS.out⟩
section
theorem wrc_two:∀ (a:Rgs17) (p:Int × Int),wrc (a++[p])=wrc a++[.int .i64 p.1,.int .i64 p.2]
 | [],_=>rfl
 | q::a,p=>by show _::_::wrc (a++[p])=_; rw [wrc_two a p]; rfl
theorem wrc_put19 (A:Rgs17) (q:Int × Int) (t:Int):(wrc (A++[q])).set (A.length*2+1) (.int .i64 t)=wrc (A++[(q.1,t)]):=by
 rw [wrc_two,wrc_two,List.set_append_right _ _ (by rw [wrc_len]; omega),wrc_len,show A.length*2+1-A.length*2=1 by omega]
 rfl
theorem idxR19 (g len cap i:Nat) (hi:i<len) {o:Oper} {a:Act} (x y:Operand) (ho:o.op=.indexAddr 39 x y) (hx:a.eval x=.slice (some ⟨g,0,none⟩) len cap) (hy:a.eval y=.int .i64 (i:Int)) (w:World):(execOp a.eval o).run Try.prog w=.ok (.value (.pointer (some ⟨g,i*2,none⟩))) w:=by
 have:=idxR2 ⟨g,0,none⟩ len cap i hi x y ho hx hy w
 rw [Addr.add_mid,Nat.zero_add] at this
 exact this
theorem wcell19 {w:World} {base g cap n:Nat} {L:Rgs17} (V:w.ownsRow base 44 2 (.slice (some ⟨g,0,none⟩) n cap) n (wrc L)) {i:Nat} {p:Int × Int} (hp:L[i]?=some p) (o:Nat) (u:Value) (hu:[Value.int .i64 p.1,Value.int .i64 p.2][o]?=some u):w.cell? ⟨g,i*2+o,none⟩=some u:=by
 obtain ⟨h1,h2⟩:=wrc_get L i p hp
 refine rowCell V ?_
 rcases o with _ | _ | o
 · obtain rfl:=Option.some.inj hu; exact h1
 · obtain rfl:=Option.some.inj hu; exact h2
 · cases hu
section
variable {p:Nat→Bool} {i:Nat}
theorem irw_skip (h:p i=false):irw p (i+1)=irw p i:=by
 rw [irw,if_neg (by rw [h]; exact fun h=>by cases h)]
theorem irw_join {J:Rgs17} {q:Int × Int} (h:p i=true) (e:irw p i=J++[q]) (hq:q.2=(i:Int)):irw p (i+1)=J++[(q.1,((i+1:Nat):Int))]:=by
 have hl:(irw p i).getLast?=some q:=by rw [e]; simp
 rw [irw,if_pos h,hl,if_pos (by show some q.2=_; rw [hq]),e,List.dropLast_concat]
 rfl
theorem irw_new (h:p i=true) (hq:∀ q,(irw p i).getLast?=some q→q.2≠(i:Int)):irw p (i+1)=irw p i++[((i:Int),((i+1:Nat):Int))]:=by
 rw [irw,if_pos h,if_neg]
 intro c
 obtain ⟨q,h1,h2⟩:=Option.map_eq_some_iff.1 c
 exact hq q h1 h2
theorem irw_keep (h:p i=true) (hq:∀ q,(irw p i).getLast?=some q→q.2≠(i:Int)):∀ m,∃ t,t≠[]∧irw p (i+1+m)=irw p i++t
 | 0=>⟨_,by simp,irw_new h hq⟩
 | m+1=>by
   obtain ⟨t,h1,h2⟩:=irw_keep h hq m
   show ∃ t,t≠[]∧irw p ((i+1+m)+1)=irw p i++t
   by_cases hp:p (i+1+m)=true
   · rcases List.eq_nil_or_concat t with e | ⟨t',q,e⟩
     · exact absurd e h1
     · rw [List.concat_eq_append] at e
       subst e
       by_cases c:q.2=((i+1+m:Nat):Int)
       · refine ⟨t'++[(q.1,((i+1+m+1:Nat):Int))],by simp,?_⟩
         rw [irw_join (J:=irw p i++t') hp (by rw [h2,List.append_assoc]) c,List.append_assoc]
       · refine ⟨t'++[q]++[(((i+1+m:Nat):Int),((i+1+m+1:Nat):Int))],by simp,?_⟩
         rw [irw_new hp fun r hr=>by rw [h2] at hr; simp at hr; subst hr; exact c,h2]
         simp
   · rw [Bool.not_eq_true] at hp
     exact ⟨t,h1,by rw [irw_skip hp]; exact h2⟩
theorem irw_stop (h:p i=true) (hq:∀ q,(irw p i).getLast?=some q→q.2≠(i:Int)) (h8:(irw p i).length=8) {m:Nat} (hm:i<m):(irw p m).take 8=irw p i:=by
 obtain ⟨t,_,e⟩:=irw_keep h hq (m-(i+1))
 rw [show i+1+(m-(i+1))=m by omega] at e
 rw [e,← h8]
 exact List.take_left
theorem irw_past {n:Nat} (h:∀ k,n≤k→p k=false):∀ m,irw p (n+m)=irw p n
 | 0=>rfl
 | m+1=>by
   show irw p ((n+m)+1)=_
   rw [irw_skip (h _ (by omega)),irw_past h m]
theorem irw_nil (h:∀ k,k<i→p k=false):irw p i=[]:=by
 induction i with
 | zero=>rfl
 | succ i ih=>rw [irw_skip (h i (by omega)),ih fun k hk=>h k (by omega)]
end
theorem iab_at {x:Ibx} {k:Nat} (h:ihr x≤k):iab x k=x.is k:=by
 unfold iab
 rw [decide_eq_true h,Bool.and_true]
theorem iab_low {x:Ibx} {k:Nat} (h:k<ihr x):iab x k=false:=by
 unfold iab
 rw [decide_eq_false (by omega),Bool.and_false]
theorem ibe_end {x:Ibx} {n:Nat} (hn:∀ k,x.is k=true→k<n) (hnl:n≤ilim x) (h8:(irw (iab x) n).length≤8):ibe x=irw (iab x) n:=by
 unfold ibe ibr
 have e:=irw_past (p:=iab x) (n:=n) (fun k hk=>by unfold iab; rw [is_past hn hk]; rfl) (ilim x-n)
 rw [show n+(ilim x-n)=ilim x by omega] at e
 rw [e,List.take_of_length_le h8]
theorem NewW.upL {w w1:World} {base:Nat} {l:Rgs17} {sp:Option Addr} {cap:Nat} (h:NewW w base l (.slice sp l.length cap)) (hl:Lies [] w1 sp):NewW w w1.heap.size l (.slice sp l.length cap):=by
 obtain ⟨sp',cap',hv,hc,hn,hs,ha⟩:=h
 injection hv with h1 _ h3
 subst h1; subst h3
 refine ⟨sp,cap,rfl,hc,hn,hs,fun a e=>⟨?_,(ha a e).2⟩⟩
 subst e
 rcases hl a.block mS with h | h
 · cases h
 · exact h
theorem NewW.ofOwn19 {w:World} {base:Nat} {rl:Rgs17} {so:Option Addr} {co:Nat} (h:w.ownsRow base 44 2 (.slice so rl.length co) rl.length (wrc rl)):NewW w base rl (.slice so rl.length co):=by
 rcases h.2 with ⟨e,h0⟩ | ⟨g,cap,cur,e,hb,hgg,hc,_⟩
 · injection e with e1 e2 e3
   subst e1 e3
   obtain rfl:=List.eq_nil_of_length_eq_zero h0
   exact ⟨none,0,rfl,xnR _,fun _=>rfl,fun j u hu=>(by cases hu),fun a e=>(by cases e)⟩
 · injection e with e1 e2 e3
   subst e1 e3
   refine ⟨some ⟨g,0,none⟩,co,rfl,hc,fun e=>(by cases e),fun j u hu=>⟨_,rfl,World.ownsRow.cells h (g:=g) rfl j u hu⟩,fun a e=>?_⟩
   cases e
   exact World.ownsRow.lt h g rfl
theorem dbey_any (w0 w:World) (R:Nat) (l:List (Nat × List Value)) (x:Ibx) (n:Nat) (sb si:Option Addr) (cb ci:Nat) (hw:IbxW x) (hn:∀ k,x.is k=true→k<n) (hnl:n≤ilim x) (hln:x.dn<10000000) (M:Mm w0 ((R,dcs19 x n sb si cb ci)::(obs sb++(obs si++l))) w) (V_b:w.ownsRow w0.heap.size 5 1 (.slice sb n cb) n (row .u8 n x.b)) (V_i:w.ownsRow w0.heap.size 4 1 (.slice si n ci) n (brw n x.is)) :
 Calls Try.prog 29 #[.pointer (some ⟨R,0,none⟩)] w fun e w'=>∃ sq cq,e=.returned (.slice sq (ibe x).length cq)∧NewW w' w.heap.size (ibe x) (.slice sq (ibe x).length cq)∧Below w.heap.size w w':=by
 replace M:Mm w0 ((R,[.int .i64 ((x.size:Nat):Int),.int .i64 ((x.dn:Nat):Int),.slice sb n cb,.slice si n ci])::((obs sb)++((obs si)++l))) w:=M
 have hb0:=M.below; have OF:=Off.refl [] w; have hs1:=hw.s1; have hs2:=hw.s2; have hdn:=dn_le hw hn
 have hli:ilim x=x.dn+x.size:=rfl
 go_enter Try.func29,Try.ntmps29
 have hdh:=ihr_dn hw; have hhl:=ihr_le x; go_upto_region 0 with fail; refine wp_region_list ?_; refine xpL (.slice none 0 0) ?_; refine xT ?_; go_upto_region 1 with fail; refine wp_region_list ?_; refine xpL (.slice none 0 0) ?_; refine xT ?_; go_upto_region 2 with fail; refine wp_region_list ?_; refine xpL (.pointer (some ⟨R,0,none⟩)) ?_
 have key:=dhere_any w0 _ R _ x n sb si cb ci hw hn hnl hln M V_b V_i; refine xcL key ?_; clear key; rintro e w1 ⟨rfl,l_⟩; replace M:=M.call l_; replace V_b:=ownsRow_bel V_b l_; replace V_i:=ownsRow_bel V_i l_; replace OF:=OF.below l_; clear l_; refine xeL ?_; refine xpL (.int .i64 ((ihr x:Nat):Int)) ?_; refine xT ?_
 have V_c:w1.ownsRow w0.heap.size 44 2 (.slice none 0 0) 0 []:=⟨rfl,.inl ⟨rfl,rfl⟩⟩
 have L_c:Lies [] w none:=Lies.nil [] w
 replace M:Mm w0 ((R,[.int .i64 ((x.size:Nat):Int),.int .i64 ((x.dn:Nat):Int),.slice sb n cb,.slice si n ci])::((obs none)++((obs sb)++((obs si)++l)))) w1:=M
 have h0L:irw (iab x) (ihr x)=[]:=irw_nil fun k hk=>iab_low hk
 have HI:=show Hid _ from (show Mm w0 ((R,[.int .i64 ((x.size:Nat):Int),.int .i64 ((x.dn:Nat):Int),.slice sb n cb,.slice si n ci])::((obs none)++((obs sb)++((obs si)++l)))) w1∧w1.ownsRow w0.heap.size 44 2 (.slice none (([]:Rgs17).length) 0) (([]:Rgs17).length) (wrc ([]:Rgs17))∧w1.ownsRow w0.heap.size 5 1 (.slice sb n cb) n (row .u8 n x.b)∧w1.ownsRow w0.heap.size 4 1 (.slice si n ci) n (brw n x.is)∧Lies [] w none∧Off [] w w1 from ⟨M,V_c,V_b,V_i,L_c,OF⟩)
 clear M V_c V_b V_i L_c OF; go_wp2
 go_loopw [3,4] (fun s_ v w'=>∃ (i':Nat) (L:Rgs17) (sc:Option Addr) (cc:Nat),ihr x≤i'∧i'≤ilim x∧L=irw (iab x) i'∧L.length≤8∧s_=.slice sc L.length cc∧v=.int .i64 (i':Int)∧Mm w0 ((R,[.int .i64 ((x.size:Nat):Int),.int .i64 ((x.dn:Nat):Int),.slice sb n cb,.slice si n ci])::((obs sc)++((obs sb)++((obs si)++l)))) w'∧w'.ownsRow w0.heap.size 44 2 (.slice sc L.length cc) L.length (wrc L)∧w'.ownsRow w0.heap.size 5 1 (.slice sb n cb) n (row .u8 n x.b)∧w'.ownsRow w0.heap.size 4 1 (.slice si n ci) n (brw n x.is)∧Lies [] w sc∧Off [] w w') (fun _ v _=>ilim x+1-(intOf v).toNat)
 case atStart=>exact ⟨ihr x,[],none,0,xnR _,hhl,h0L.symm,Nat.zero_le _,rfl,rfl,HI.out⟩
 case round =>
  clear HI h0L
  obtain ⟨i,L,sc,cc,hih,hil2,hL,hL8,rfl,rfl,M,V_c,V_b,V_i,L_c,OF⟩:=hrel
  by_cases hil:i<n
  · go_upto_region 3 with fail
    refine wp_region_list ?_; refine xpL (.int .i64 (i:Int)) ?_; refine xpL (.pointer (some ⟨R,0,none⟩)) ?_; refine xpL (.pointer (some ⟨R,0,none⟩)) ?_; refine xpL (.pointer (some ⟨R,3,none⟩)) ?_; refine xaL (.slice si n ci) (load1 49 _ ⟨R,3,none⟩ _ rfl rfl (fun _=>by kernel_rfl) (M.get mS 3 _ rfl)) ?_
    refine xaL (.int .i64 ((n:Nat):Int)) (lenS _ 49 4 si n ci rfl Try.underlying49 rfl _) ?_; refine xaL (.bool true) (lssI .i64 _ _ _ _ _ _ rfl rfl rfl true (decide_eq_true (by omega)) _) ?_; refine xT ?_
    obtain ⟨gi,hg_i⟩:=row_some16 V_i (by omega)
    subst hg_i
    replace M:Mm w0 ((R,[.int .i64 ((x.size:Nat):Int),.int .i64 ((x.dn:Nat):Int),.slice sb n cb,.slice (some ⟨gi,0,none⟩) n ci])::((obs sc)++((obs sb)++((obs (some ⟨gi,0,none⟩))++l)))) wr:=M
    by_cases hh:x.is i=true
    · go_upto_region 5 with fail
      refine wp_region_list ?_; refine xpL (.pointer (some ⟨R,0,none⟩)) ?_; refine xpL (.pointer (some ⟨R,0,none⟩)) ?_; refine xpL (.pointer (some ⟨R,3,none⟩)) ?_; refine xaL (.slice (some ⟨gi,0,none⟩) n ci) (load1 49 _ ⟨R,3,none⟩ _ rfl rfl (fun _=>by kernel_rfl) (M.get mS 3 _ rfl)) ?_; refine xpL (.int .i64 (i:Int)) ?_
      refine xaL (.pointer (some ⟨gi,i,none⟩)) (idxRow 49 4 gi _ _ i _ _ Try.underlying49 (fun _=>by kernel_rfl) hil rfl rfl rfl _) ?_; refine xaL (.bool true) (load1 4 _ ⟨gi,i,none⟩ _ rfl rfl (fun _=>by kernel_rfl) (rowCell V_i (by rw [brw_get _ hil,hh]))) ?_; refine xpL (.bool false) ?_; refine xT ?_
      have hiab:iab x i=true:=by rw [iab_at hih]; exact hh
      clear hh
      rcases List.eq_nil_or_concat L with hLe | ⟨J,q,hLe⟩
      · subst hLe
        replace V_c:wr.ownsRow w0.heap.size 44 2 (.slice sc ([]:Rgs17).length cc) ([]:Rgs17).length (wrc ([]:Rgs17)):=V_c
        go_upto_region 6 with fail; refine wp_region_list ?_; refine xpL (.slice sc (([]:Rgs17).length) cc) ?_; refine readL (.int .i64 ((([]:Rgs17).length:Nat):Int)) rfl (lenS _ 39 44 sc (([]:Rgs17).length) cc rfl Try.underlying39 rfl _) ?_; simp only [aP,lI,l0,lS]; refine xaL (.int .i64 (-1)) (subI .i64 _ _ _ _ _ _ _ rfl rfl rfl (by rfl) _) ?_; refine xpL (.int .i64 (-1)) ?_
        refine xT ?_; go_upto_region 7 with fail; refine wp_region_list ?_; refine xpL (.int .i64 (-1)) ?_; refine xaL (.bool false) (geqI .i64 _ _ _ _ _ _ rfl rfl rfl false (by decide) _) ?_; refine xpL (.bool false) ?_
        with_reducible refine skipL ?_ ?_
        · rfl
        simp only [aP,lI,l0,lS]
        with_reducible refine skipL ?_ ?_
        · rfl
        simp only [aP,lI,l0,lS]
        with_reducible refine skipL ?_ ?_
        · rfl
        simp only [aP,lI,l0,lS]
        with_reducible refine skipL ?_ ?_
        · rfl
        simp only [aP,lI,l0,lS]
        with_reducible refine skipL ?_ ?_
        · rfl
        simp only [aP,lI,l0,lS]
        with_reducible refine skipL ?_ ?_
        · rfl
        simp only [aP,lI,l0,lS]
        with_reducible refine skipL ?_ ?_
        · rfl
        simp only [aP,lI,l0,lS]; refine xpL (.bool false) ?_; refine xT ?_; go_upto_region 9 with fail; refine wp_region_list ?_; refine xpL (.slice sc (([]:Rgs17).length) cc) ?_; refine readL (.int .i64 ((([]:Rgs17).length:Nat):Int)) rfl (lenS _ 39 44 sc (([]:Rgs17).length) cc rfl Try.underlying39 rfl _) ?_; simp only [aP,lI,l0,lS]
        refine xaL (.bool false) (eqlI .i64 _ _ _ _ _ _ rfl rfl rfl false (by decide) _) ?_; refine xT ?_; go_upto_region 10 with fail; refine wp_region_list ?_; refine xpL (.slice sc (([]:Rgs17).length) cc) ?_; refine xpL (.int .i64 (i:Int)) ?_; refine xpL (.int .i64 (i:Int)) ?_; refine xaL (.int .i64 ((i+1:Nat):Int)) (addI .i64 _ _ _ _ _ _ _ rfl rfl rfl (by rw [xw6]; omega) _) ?_
        refine xpL (.agg #[.int .i64 (i:Int),.int .i64 ((i+1:Nat):Int)]) ?_; have hlb:=(Below.refl wr.heap.size wr).alloc (xnR _) (.cells #[.int .i64 (i:Int),.int .i64 ((i+1:Nat):Int)] 44)
        have T_3:=World.ownsRow.cells (World.ownsRow_lit (base:=wr.heap.size) (e:=44) (size:=2) wr #[.int .i64 (i:Int),.int .i64 ((i+1:Nat):Int)] 1 (xnR _) (by unfold maxLen; omega) rfl) (g:=wr.heap.size) rfl; replace V_b:=ownsRow_bel V_b hlb; replace V_i:=ownsRow_bel V_i hlb; replace OF:=OF.below hlb; replace V_c:=ownsRow_bel V_c hlb; replace M:=M.call hlb; clear hlb
        refine actL (w':=wr.alloc (.cells #[.int .i64 (i:Int),.int .i64 ((i+1:Nat):Int)] 44)) (.slice (some ⟨wr.heap.size,0,none⟩) 1 1) rfl (by kernel_rfl) ?_; simp only [aP,lI,l0,lS]; generalize wr.alloc (.cells #[.int .i64 (i:Int),.int .i64 ((i+1:Nat):Int)] 44)=w3 at M T_3 V_b V_i OF V_c ⊢; generalize wr.heap.size=bz3 at T_3 ⊢
        obtain ⟨v2,w4,hr,V2,hgr,hg2⟩:=run_append_OwnV (P:=Try.prog) (ty:=39) Try.underlying39 manyW rfl (by decide) V_c ⟨bz3,0,none⟩ 1 1 [.int .i64 ((i:Int)),.int .i64 (((i+1:Nat):Int))] rfl T_3 (wrc_one [((i:Int),((i+1:Nat):Int))]) (by unfold maxLen; decide) (by decide) (xnT hb0.size OF.size)
        have Mp:=M.perm (pull0 ([(R,[.int .i64 ((x.size:Nat):Int),.int .i64 ((x.dn:Nat):Int),.slice sb n cb,.slice (some ⟨gi,0,none⟩) n ci])]:List (Nat × List Value)) (obs sc) ((obs sb)++((obs (some ⟨gi,0,none⟩))++l))); have ho:=Off.grown (Off.refl (ob sc) w3) hgr (fun b_ hb_=>.inl ((ob_own _ _ _ b_).1 hb_))
        replace V_b:=ownsRow_away V_b ho (Mp.awayO (fun p_ hp_=>by simp [hp_])); replace V_i:=ownsRow_away V_i ho (Mp.awayO (fun p_ hp_=>by simp [hp_]))
        obtain ⟨sv4,cv4,rfl,_,_⟩:=row_form16 V2
        have L2:=L_c.grown hg2 OF.size; replace OF:=OF.grown hgr (fun b_ hb_=>L_c b_ ((ob_own _ _ _ b_).1 hb_))
        have M':=Mp.rowApp V_c hgr V2 hg2 (xnR _)
        clear M Mp ho hgr hg2 V_c L_c; have L_c:=L2; clear L2
        have M:Mm w0 ((R,[.int .i64 ((x.size:Nat):Int),.int .i64 ((x.dn:Nat):Int),.slice sb n cb,.slice (some ⟨gi,0,none⟩) n ci])::((obs sv4)++((obs sb)++((obs (some ⟨gi,0,none⟩))++l)))) w4:=M'.perm (pull0 ([(R,[.int .i64 ((x.size:Nat):Int),.int .i64 ((x.dn:Nat):Int),.slice sb n cb,.slice (some ⟨gi,0,none⟩) n ci])]:List (Nat × List Value)) (obs sv4) ((obs sb)++((obs (some ⟨gi,0,none⟩))++l))).symm
        clear M'; refine xaL (_) (appendOp _ _ 39 _ _ _ rfl rfl rfl hr) ?_; clear hr
        rw [show ([]:Rgs17).length+1=(([]:Rgs17)++[((i:Int),((i+1:Nat):Int))]).length by simp] at V2 ⊢
        rw [show wrc ([]:Rgs17)++[.int .i64 ((i:Int)),.int .i64 (((i+1:Nat):Int))]=wrc (([]:Rgs17)++[((i:Int),((i+1:Nat):Int))]) from (wrc_two ([]:Rgs17) ((i:Int),((i+1:Nat):Int))).symm] at V2
        replace V2:w4.ownsRow w0.heap.size 44 2 (.slice sv4 ((([]:Rgs17)++[((i:Int),((i+1:Nat):Int))]).length) cv4) ((([]:Rgs17)++[((i:Int),((i+1:Nat):Int))]).length) (wrc (([]:Rgs17)++[((i:Int),((i+1:Nat):Int))])):=V2
        have V_c:=V2; clear V2; clear T_3; refine xpL (.slice sv4 ((([]:Rgs17)++[((i:Int),((i+1:Nat):Int))]).length) cv4) ?_; refine xT ?_; have hL3:=show Hid _ from (show (([]:Rgs17)++[((i:Int),((i+1:Nat):Int))])=irw (iab x) (i+1) from by rw [irw_new hiab (fun r hr=>by rw [← hL] at hr; cases hr),← hL])
        have HS:=show Hid _ from (show Mm w0 ((R,[.int .i64 ((x.size:Nat):Int),.int .i64 ((x.dn:Nat):Int),.slice sb n cb,.slice (some ⟨gi,0,none⟩) n ci])::((obs sv4)++((obs sb)++((obs (some ⟨gi,0,none⟩))++l)))) w4∧w4.ownsRow w0.heap.size 44 2 (.slice sv4 ((([]:Rgs17)++[((i:Int),((i+1:Nat):Int))]).length) cv4) ((([]:Rgs17)++[((i:Int),((i+1:Nat):Int))]).length) (wrc (([]:Rgs17)++[((i:Int),((i+1:Nat):Int))]))∧w4.ownsRow w0.heap.size 5 1 (.slice sb n cb) n (row .u8 n x.b)∧w4.ownsRow w0.heap.size 4 1 (.slice (some ⟨gi,0,none⟩) n ci) n (brw n x.is)∧Lies [] w sv4∧Off [] w w4 from ⟨M,V_c,V_b,V_i,L_c,OF⟩)
        clear M V_c V_b V_i L_c OF
        try clear hL
        go_wp2
        go_roundw
        case rel=>exact ⟨i+1,(([]:Rgs17)++[((i:Int),((i+1:Nat):Int))]),sv4,cv4,by omega,by omega,hL3.out,(by simp),rfl,by go_num,HS.out⟩
        case measure=>simp [intOf]; omega
      · rw [List.concat_eq_append] at hLe
        subst hLe
        have hjl:(J++[q]).length=J.length+1:=by rw [List.length_append,List.length_singleton]
        have hjk:J.length<(J++[q]).length:=by omega
        have hjq:(J++[q])[J.length]?=some q:=by rw [List.getElem?_append_right (xnR _),Nat.sub_self]; rfl
        go_upto_region 6 with fail; refine wp_region_list ?_; refine xpL (.slice sc ((J++[q]).length) cc) ?_; refine readL (.int .i64 (((J++[q]).length:Nat):Int)) rfl (lenS _ 39 44 sc ((J++[q]).length) cc rfl Try.underlying39 rfl _) ?_; simp only [aP,lI,l0,lS]; refine xaL (.int .i64 ((J.length:Nat):Int)) (subI .i64 _ _ _ _ _ _ _ rfl rfl rfl (by rw [xw6,hjl]; omega) _) ?_
        refine xpL (.int .i64 ((J.length:Nat):Int)) ?_; refine xT ?_
        obtain ⟨gc,hg_c⟩:=row_some16 V_c (by omega)
        subst hg_c
        replace M:Mm w0 ((R,[.int .i64 ((x.size:Nat):Int),.int .i64 ((x.dn:Nat):Int),.slice sb n cb,.slice (some ⟨gi,0,none⟩) n ci])::((obs (some ⟨gc,0,none⟩))++((obs sb)++((obs (some ⟨gi,0,none⟩))++l)))) wr:=M
        by_cases hqe:q.2=(i:Int)
        · go_upto_region 7 with fail
          refine wp_region_list ?_; refine xpL (.int .i64 ((J.length:Nat):Int)) ?_; refine xaL (.bool true) (geqI .i64 _ _ _ _ _ _ rfl rfl rfl true (decide_eq_true (by omega)) _) ?_; refine xpL (.bool true) ?_; refine xpL (.slice (some ⟨gc,0,none⟩) ((J++[q]).length) cc) ?_; refine xpL (.int .i64 ((J.length:Nat):Int)) ?_
          refine xaL (.pointer (some ⟨gc,J.length*2,none⟩)) (idxR19 gc _ _ J.length hjk _ _ rfl rfl rfl _) ?_; refine xpL (.pointer (some ⟨gc,J.length*2+1,none⟩)) ?_; refine xaL (.int .i64 q.2) (load1 3 _ ⟨gc,J.length*2+1,none⟩ _ rfl rfl (fun _=>by kernel_rfl) (wcell19 V_c (i:=J.length) hjq 1 _ rfl)) ?_; refine xpL (.int .i64 (i:Int)) ?_
          refine xaL (.bool true) (eqlI .i64 _ _ _ _ _ _ rfl rfl rfl true (by rw [beq_iff_eq]; exact hqe) _) ?_; refine xpL (.bool true) ?_; refine xT ?_; go_upto_region 8 with fail; refine wp_region_list ?_; refine xpL (.slice (some ⟨gc,0,none⟩) ((J++[q]).length) cc) ?_; refine xpL (.int .i64 ((J.length:Nat):Int)) ?_; refine xpL (.int .i64 (i:Int)) ?_
          refine xaL (.int .i64 ((i+1:Nat):Int)) (addI .i64 _ _ _ _ _ _ _ rfl rfl rfl (by rw [xw6]; omega) _) ?_; refine xaL (.pointer (some ⟨gc,J.length*2,none⟩)) (idxR19 gc _ _ J.length hjk _ _ rfl rfl rfl _) ?_; refine xpL (.pointer (some ⟨gc,J.length*2+1,none⟩)) ?_
          have Mp:=M.perm (pull0 ([(R,[.int .i64 ((x.size:Nat):Int),.int .i64 ((x.dn:Nat):Int),.slice sb n cb,.slice (some ⟨gi,0,none⟩) n ci])]:List (Nat × List Value)) (obs (some ⟨gc,0,none⟩)) ((obs sb)++((obs (some ⟨gi,0,none⟩))++l)))
          obtain ⟨hsf,M'⟩:=Mp.setObs V_c (xnR _) (J.length*2+1) (by rw [wrc_len,List.length_append,List.length_singleton]; omega) (.int .i64 ((i+1:Nat):Int))
          refine skipOpL rfl (storeAny (.int .i64 ((i+1:Nat):Int)) gc (J.length*2+1) 3 _ _ rfl rfl rfl rfl rfl hsf.1 hsf.2 (by kernel_rfl)) ?_; simp only [Act.put]; have ho:=(Off.refl [gc] wr).set (b:=gc) mS (J.length*2+1) (.int .i64 ((i+1:Nat):Int)); replace V_b:=ownsRow_away V_b ho (Mp.awayO (so:=some ⟨gc,0,none⟩) (fun p_ hp_=>by simp [hp_]))
          replace V_i:=ownsRow_away V_i ho (Mp.awayO (so:=some ⟨gc,0,none⟩) (fun p_ hp_=>by simp [hp_])); replace OF:=OF.and1 ho (L_c gc mS); replace V_c:=ownsRow_put V_c (J.length*2+1) (.int .i64 ((i+1:Nat):Int))
          rw [wrc_put19,show (J++[q]).length=(J++[(q.1,((i+1:Nat):Int))]).length by simp] at V_c
          clear M Mp ho hsf; have M:=M'.perm (pull0 ([(R,[.int .i64 ((x.size:Nat):Int),.int .i64 ((x.dn:Nat):Int),.slice sb n cb,.slice (some ⟨gi,0,none⟩) n ci])]:List (Nat × List Value)) (obs (some ⟨gc,0,none⟩)) ((obs sb)++((obs (some ⟨gi,0,none⟩))++l))).symm; clear M'
          generalize wr.setCell ⟨gc,(J.length*2+1),none⟩ (.int .i64 ((i+1:Nat):Int))=w2 at M V_b V_i OF V_c ⊢; refine xT ?_
          replace M:Mm w0 ((R,[.int .i64 ((x.size:Nat):Int),.int .i64 ((x.dn:Nat):Int),.slice sb n cb,.slice (some ⟨gi,0,none⟩) n ci])::((obs (some ⟨gc,0,none⟩))++((obs sb)++((obs (some ⟨gi,0,none⟩))++l)))) w2:=M
          have hL3:=show Hid _ from (show (J++[(q.1,((i+1:Nat):Int))])=irw (iab x) (i+1) from (irw_join hiab hL.symm hqe).symm)
          have HS:=show Hid _ from (show Mm w0 ((R,[.int .i64 ((x.size:Nat):Int),.int .i64 ((x.dn:Nat):Int),.slice sb n cb,.slice (some ⟨gi,0,none⟩) n ci])::((obs (some ⟨gc,0,none⟩))++((obs sb)++((obs (some ⟨gi,0,none⟩))++l)))) w2∧w2.ownsRow w0.heap.size 44 2 (.slice (some ⟨gc,0,none⟩) ((J++[(q.1,((i+1:Nat):Int))]).length) cc) ((J++[(q.1,((i+1:Nat):Int))]).length) (wrc (J++[(q.1,((i+1:Nat):Int))]))∧w2.ownsRow w0.heap.size 5 1 (.slice sb n cb) n (row .u8 n x.b)∧w2.ownsRow w0.heap.size 4 1 (.slice (some ⟨gi,0,none⟩) n ci) n (brw n x.is)∧Lies [] w (some ⟨gc,0,none⟩)∧Off [] w w2 from ⟨M,V_c,V_b,V_i,L_c,OF⟩)
          clear M V_c V_b V_i L_c OF
          try clear hL
          go_wp2
          go_roundw
          case rel=>exact ⟨i+1,(J++[(q.1,((i+1:Nat):Int))]),(some ⟨gc,0,none⟩),cc,by omega,by omega,hL3.out,by rw [List.length_append,List.length_singleton]; omega,by simp,by go_num,HS.out⟩
          case measure=>simp [intOf]; omega
        · go_upto_region 7 with fail
          refine wp_region_list ?_; refine xpL (.int .i64 ((J.length:Nat):Int)) ?_; refine xaL (.bool true) (geqI .i64 _ _ _ _ _ _ rfl rfl rfl true (decide_eq_true (by omega)) _) ?_; refine xpL (.bool true) ?_; refine xpL (.slice (some ⟨gc,0,none⟩) ((J++[q]).length) cc) ?_; refine xpL (.int .i64 ((J.length:Nat):Int)) ?_
          refine xaL (.pointer (some ⟨gc,J.length*2,none⟩)) (idxR19 gc _ _ J.length hjk _ _ rfl rfl rfl _) ?_; refine xpL (.pointer (some ⟨gc,J.length*2+1,none⟩)) ?_; refine xaL (.int .i64 q.2) (load1 3 _ ⟨gc,J.length*2+1,none⟩ _ rfl rfl (fun _=>by kernel_rfl) (wcell19 V_c (i:=J.length) hjq 1 _ rfl)) ?_; refine xpL (.int .i64 (i:Int)) ?_
          refine xaL (.bool false) (eqlI .i64 _ _ _ _ _ _ rfl rfl rfl false (by rw [beq_eq_false_iff_ne]; exact hqe) _) ?_; refine xpL (.bool false) ?_; refine xT ?_
          have hqn:∀ r,(irw (iab x) i).getLast?=some r→r.2≠(i:Int):=fun r hr=>by rw [← hL] at hr; simp at hr; subst hr; exact hqe
          by_cases h8:(J++[q]).length=8
          · go_upto_region 9 with fail
            refine wp_region_list ?_; refine xpL (.slice (some ⟨gc,0,none⟩) ((J++[q]).length) cc) ?_; refine readL (.int .i64 (((J++[q]).length:Nat):Int)) rfl (lenS _ 39 44 (some ⟨gc,0,none⟩) ((J++[q]).length) cc rfl Try.underlying39 rfl _) ?_; simp only [aP,lI,l0,lS]; refine xaL (.bool true) (eqlI .i64 _ _ _ _ _ _ rfl rfl rfl true (by rw [beq_iff_eq]; omega) _) ?_; refine xT ?_
            go_upto_region 11 with fail; refine wp_region_list ?_; refine xpL (.slice (some ⟨gc,0,none⟩) ((J++[q]).length) cc) ?_; refine xpL (.slice (some ⟨gc,0,none⟩) ((J++[q]).length) cc) ?_; refine xT ?_; have hE:=show Hid _ from (show ibe x=(J++[q]) from by rw [hL]; exact irw_stop hiab hqn (by rw [← hL]; omega) (by omega))
            have hN:=(NewW.ofOwn19 (rl:=(J++[q])) V_c).upL L_c
            have hbel:Below w.heap.size w wr:=⟨M.below.os.trans hb0.os.symm,M.below.tape.trans hb0.tape.symm,M.below.output.trans hb0.output.symm,OF.size,fun b hb=>OF.blk b hb (fun h=>by cases h)⟩
            have HS:=show Hid _ from (And.intro hN hbel); clear M V_c V_b V_i L_c OF hN hbel
            try clear hL
            go_wp2; go_ret
            rw [hE.out]
            first | exact ⟨(some ⟨gc,0,none⟩),cc,rfl,HS.out⟩ | exact ⟨rfl,(some ⟨gc,0,none⟩),cc,HS.out⟩
          · go_upto_region 9 with fail
            refine wp_region_list ?_; refine xpL (.slice (some ⟨gc,0,none⟩) ((J++[q]).length) cc) ?_; refine readL (.int .i64 (((J++[q]).length:Nat):Int)) rfl (lenS _ 39 44 (some ⟨gc,0,none⟩) ((J++[q]).length) cc rfl Try.underlying39 rfl _) ?_; simp only [aP,lI,l0,lS]; refine xaL (.bool false) (eqlI .i64 _ _ _ _ _ _ rfl rfl rfl false (by rw [beq_eq_false_iff_ne]; omega) _) ?_
            refine xT ?_; go_upto_region 10 with fail; refine wp_region_list ?_; refine xpL (.slice (some ⟨gc,0,none⟩) ((J++[q]).length) cc) ?_; refine xpL (.int .i64 (i:Int)) ?_; refine xpL (.int .i64 (i:Int)) ?_; refine xaL (.int .i64 ((i+1:Nat):Int)) (addI .i64 _ _ _ _ _ _ _ rfl rfl rfl (by rw [xw6]; omega) _) ?_
            refine xpL (.agg #[.int .i64 (i:Int),.int .i64 ((i+1:Nat):Int)]) ?_; have hlb:=(Below.refl wr.heap.size wr).alloc (xnR _) (.cells #[.int .i64 (i:Int),.int .i64 ((i+1:Nat):Int)] 44)
            have T_5:=World.ownsRow.cells (World.ownsRow_lit (base:=wr.heap.size) (e:=44) (size:=2) wr #[.int .i64 (i:Int),.int .i64 ((i+1:Nat):Int)] 1 (xnR _) (by unfold maxLen; omega) rfl) (g:=wr.heap.size) rfl; replace V_b:=ownsRow_bel V_b hlb; replace V_i:=ownsRow_bel V_i hlb; replace OF:=OF.below hlb; replace V_c:=ownsRow_bel V_c hlb; replace M:=M.call hlb
            clear hlb; refine actL (w':=wr.alloc (.cells #[.int .i64 (i:Int),.int .i64 ((i+1:Nat):Int)] 44)) (.slice (some ⟨wr.heap.size,0,none⟩) 1 1) rfl (by kernel_rfl) ?_; simp only [aP,lI,l0,lS]; generalize wr.alloc (.cells #[.int .i64 (i:Int),.int .i64 ((i+1:Nat):Int)] 44)=w5 at M T_5 V_b V_i OF V_c ⊢; generalize wr.heap.size=bz5 at T_5 ⊢
            obtain ⟨v2,w6,hr,V2,hgr,hg2⟩:=run_append_OwnV (P:=Try.prog) (ty:=39) Try.underlying39 manyW rfl (by decide) V_c ⟨bz5,0,none⟩ 1 1 [.int .i64 ((i:Int)),.int .i64 (((i+1:Nat):Int))] rfl T_5 (wrc_one [((i:Int),((i+1:Nat):Int))]) (by unfold maxLen; omega) (by omega) (xnT hb0.size OF.size)
            have Mp:=M.perm (pull0 ([(R,[.int .i64 ((x.size:Nat):Int),.int .i64 ((x.dn:Nat):Int),.slice sb n cb,.slice (some ⟨gi,0,none⟩) n ci])]:List (Nat × List Value)) (obs (some ⟨gc,0,none⟩)) ((obs sb)++((obs (some ⟨gi,0,none⟩))++l))); have ho:=Off.grown (Off.refl (ob (some ⟨gc,0,none⟩)) w5) hgr (fun b_ hb_=>.inl ((ob_own _ _ _ b_).1 hb_))
            replace V_b:=ownsRow_away V_b ho (Mp.awayO (fun p_ hp_=>by simp [hp_])); replace V_i:=ownsRow_away V_i ho (Mp.awayO (fun p_ hp_=>by simp [hp_]))
            obtain ⟨sv6,cv6,rfl,_,_⟩:=row_form16 V2
            have L2:=L_c.grown hg2 OF.size; replace OF:=OF.grown hgr (fun b_ hb_=>L_c b_ ((ob_own _ _ _ b_).1 hb_))
            have M':=Mp.rowApp V_c hgr V2 hg2 (xnR _)
            clear M Mp ho hgr hg2 V_c L_c; have L_c:=L2; clear L2
            have M:Mm w0 ((R,[.int .i64 ((x.size:Nat):Int),.int .i64 ((x.dn:Nat):Int),.slice sb n cb,.slice (some ⟨gi,0,none⟩) n ci])::((obs sv6)++((obs sb)++((obs (some ⟨gi,0,none⟩))++l)))) w6:=M'.perm (pull0 ([(R,[.int .i64 ((x.size:Nat):Int),.int .i64 ((x.dn:Nat):Int),.slice sb n cb,.slice (some ⟨gi,0,none⟩) n ci])]:List (Nat × List Value)) (obs sv6) ((obs sb)++((obs (some ⟨gi,0,none⟩))++l))).symm
            clear M'; refine xaL (_) (appendOp _ _ 39 _ _ _ rfl rfl rfl hr) ?_; clear hr
            rw [show (J++[q]).length+1=((J++[q])++[((i:Int),((i+1:Nat):Int))]).length by simp] at V2 ⊢
            rw [show wrc (J++[q])++[.int .i64 ((i:Int)),.int .i64 (((i+1:Nat):Int))]=wrc ((J++[q])++[((i:Int),((i+1:Nat):Int))]) from (wrc_two (J++[q]) ((i:Int),((i+1:Nat):Int))).symm] at V2
            replace V2:w6.ownsRow w0.heap.size 44 2 (.slice sv6 (((J++[q])++[((i:Int),((i+1:Nat):Int))]).length) cv6) (((J++[q])++[((i:Int),((i+1:Nat):Int))]).length) (wrc ((J++[q])++[((i:Int),((i+1:Nat):Int))])):=V2
            have V_c:=V2; clear V2; clear T_5; refine xpL (.slice sv6 (((J++[q])++[((i:Int),((i+1:Nat):Int))]).length) cv6) ?_; refine xT ?_; have hL3:=show Hid _ from (show ((J++[q])++[((i:Int),((i+1:Nat):Int))])=irw (iab x) (i+1) from by rw [irw_new hiab hqn,← hL])
            have HS:=show Hid _ from (show Mm w0 ((R,[.int .i64 ((x.size:Nat):Int),.int .i64 ((x.dn:Nat):Int),.slice sb n cb,.slice (some ⟨gi,0,none⟩) n ci])::((obs sv6)++((obs sb)++((obs (some ⟨gi,0,none⟩))++l)))) w6∧w6.ownsRow w0.heap.size 44 2 (.slice sv6 (((J++[q])++[((i:Int),((i+1:Nat):Int))]).length) cv6) (((J++[q])++[((i:Int),((i+1:Nat):Int))]).length) (wrc ((J++[q])++[((i:Int),((i+1:Nat):Int))]))∧w6.ownsRow w0.heap.size 5 1 (.slice sb n cb) n (row .u8 n x.b)∧w6.ownsRow w0.heap.size 4 1 (.slice (some ⟨gi,0,none⟩) n ci) n (brw n x.is)∧Lies [] w sv6∧Off [] w w6 from ⟨M,V_c,V_b,V_i,L_c,OF⟩)
            clear M V_c V_b V_i L_c OF
            try clear hL
            go_wp2
            go_roundw
            case rel=>exact ⟨i+1,((J++[q])++[((i:Int),((i+1:Nat):Int))]),sv6,cv6,by omega,by omega,hL3.out,by rw [List.length_append,List.length_singleton]; omega,rfl,by go_num,HS.out⟩
            case measure=>simp [intOf]; omega
    · rw [Bool.not_eq_true] at hh
      go_upto_region 5 with fail; refine wp_region_list ?_; refine xpL (.pointer (some ⟨R,0,none⟩)) ?_; refine xpL (.pointer (some ⟨R,0,none⟩)) ?_; refine xpL (.pointer (some ⟨R,3,none⟩)) ?_; refine xaL (.slice (some ⟨gi,0,none⟩) n ci) (load1 49 _ ⟨R,3,none⟩ _ rfl rfl (fun _=>by kernel_rfl) (M.get mS 3 _ rfl)) ?_; refine xpL (.int .i64 (i:Int)) ?_
      refine xaL (.pointer (some ⟨gi,i,none⟩)) (idxRow 49 4 gi _ _ i _ _ Try.underlying49 (fun _=>by kernel_rfl) hil rfl rfl rfl _) ?_; refine xaL (.bool false) (load1 4 _ ⟨gi,i,none⟩ _ rfl rfl (fun _=>by kernel_rfl) (rowCell V_i (by rw [brw_get _ hil,hh]))) ?_; refine xpL (.bool true) ?_; refine xT ?_
      have hiab:iab x i=false:=by rw [iab_at hih]; exact hh
      clear hh; have hL3:=show Hid _ from (show L=irw (iab x) (i+1) from by rw [irw_skip hiab]; exact hL)
      have HS:=show Hid _ from (show Mm w0 ((R,[.int .i64 ((x.size:Nat):Int),.int .i64 ((x.dn:Nat):Int),.slice sb n cb,.slice (some ⟨gi,0,none⟩) n ci])::((obs sc)++((obs sb)++((obs (some ⟨gi,0,none⟩))++l)))) wr∧wr.ownsRow w0.heap.size 44 2 (.slice sc L.length cc) L.length (wrc L)∧wr.ownsRow w0.heap.size 5 1 (.slice sb n cb) n (row .u8 n x.b)∧wr.ownsRow w0.heap.size 4 1 (.slice (some ⟨gi,0,none⟩) n ci) n (brw n x.is)∧Lies [] w sc∧Off [] w wr from ⟨M,V_c,V_b,V_i,L_c,OF⟩)
      clear M V_c V_b V_i L_c OF
      try clear hL
      go_wp2
      go_roundw
      case rel=>exact ⟨i+1,L,sc,cc,by omega,by omega,hL3.out,hL8,rfl,by go_num,HS.out⟩
      case measure=>simp [intOf]; omega
  · go_upto_region 3 with fail
    refine wp_region_list ?_; refine xpL (.int .i64 (i:Int)) ?_; refine xpL (.pointer (some ⟨R,0,none⟩)) ?_; refine xpL (.pointer (some ⟨R,0,none⟩)) ?_; refine xpL (.pointer (some ⟨R,3,none⟩)) ?_; refine xaL (.slice si n ci) (load1 49 _ ⟨R,3,none⟩ _ rfl rfl (fun _=>by kernel_rfl) (M.get mS 3 _ rfl)) ?_
    refine xaL (.int .i64 ((n:Nat):Int)) (lenS _ 49 4 si n ci rfl Try.underlying49 rfl _) ?_; refine xaL (.bool false) (lssI .i64 _ _ _ _ _ _ rfl rfl rfl false (decide_eq_false (by omega)) _) ?_; refine xT ?_
    have hLn:L=irw (iab x) n:=by
     have e_:=irw_past (p:=iab x) (n:=n) (fun k hk=>by unfold iab; rw [is_past hn hk]; rfl) (i-n)
     rw [show n+(i-n)=i by omega] at e_
     rw [hL,e_]
    go_upto_region 11 with fail; refine wp_region_list ?_; refine xpL (.slice sc L.length cc) ?_; refine xpL (.slice sc L.length cc) ?_; refine xT ?_; have hE:=show Hid _ from (show ibe x=L from by rw [ibe_end hn hnl (by rw [← hLn]; exact hL8)]; exact hLn.symm); have hN:=(NewW.ofOwn19 (rl:=L) V_c).upL L_c
    have hbel:Below w.heap.size w wr:=⟨M.below.os.trans hb0.os.symm,M.below.tape.trans hb0.tape.symm,M.below.output.trans hb0.output.symm,OF.size,fun b hb=>OF.blk b hb (fun h=>by cases h)⟩
    have HS:=show Hid _ from (And.intro hN hbel); clear M V_c V_b V_i L_c OF hN hbel
    try clear hL hLn
    go_wp2; go_ret
    rw [hE.out]
    first | exact ⟨sc,cc,rfl,HS.out⟩ | exact ⟨rfl,sc,cc,HS.out⟩
end
end Go.Proofs.Ytcjahbdlaojnoaa
