/- Texts of Opn Ub Open21, joined. -/
import Derived.ProofKit
import Derived.LaidMore
import Derived.OpenShut
import Derived.Deep.Strs
import Derived.Stop.Joined
import Derived.Test.YtmedjdadhmdpgaaRows
import Derived.Test.YtmedjdadhmdpgaaP2SchedPlays
set_option maxRecDepth 20000
set_option maxHeartbeats 64000000
namespace Go.Proofs.Ytmedjdadhmdpgaa
open Go.RowKit
section
open Go.ChangeShapes Go.WideShapes Go.ChangeAt Go.WideMaps Go.WideElems Go.RowKit
section
variable {H:Type} {enc:TypeId × Value→H} {P:Program} {w:World} {base:Nat} {sp:Nat→Bool} {held:Bool}
end
theorem wf_i64 {n:Int}:(Lit.int .i64 n).wf=true↔-9223372036854775808≤n∧n≤9223372036854775807:=by
 simp [Lit.wf,IntKind.min,IntKind.max,IntKind.signed,IntKind.bits]
end
theorem bulk_one {H:Type} (d:DataW H):1≤Rows.uptoBulk d:=by
 cases d with
 | lit l=>cases l <;> simp [Rows.uptoBulk]
 | _=>simp [Rows.uptoBulk]
theorem bulk_count {H:Type}:∀ l:List (DataW H),l.length≤Rows.uptoBulkAll l
 | []=>xnR _
 | d::l=>by
   have h1:=bulk_one d; have h2:=bulk_count l; simp only [Rows.uptoBulkAll,List.length_cons]
   omega
theorem bulk_mem {H:Type} {d:DataW H}:∀ {l:List (DataW H)},d∈l→Rows.uptoBulk d≤Rows.uptoBulkAll l
 | x::l,h=>by
   simp only [Rows.uptoBulkAll]
   rcases xc1 h with rfl | h
   · omega
   · have:=bulk_mem h
     omega
theorem bulk_agg {H:Type} {d:DataW H} {l:List (DataW H)} (h:d∈l):Rows.uptoBulk d≤Rows.uptoBulk (.agg l):=by
 have:=bulk_mem h
 simp only [Rows.uptoBulk]
 omega
theorem bulk_bound {H:Type} {l:List (DataW H)} (h:Rows.uptoSmall H l=true):Rows.uptoBulkAll l≤1048576:=of_decide_eq_true h
section
open Go.ChangeShapes Go.WideShapes Go.ChangeAt Go.WideMaps Go.WideElems Go.RowKit
theorem own:ownKnob Try.prog.godebug=none:=by kernel_rfl
theorem cellsInt:Try.prog.cellsOf 3=1:=by kernel_rfl
theorem laidOut:laidOutB Try.prog=true:=by kernel_rfl
structure Fit (H:Type) (Q:TypeId→DataW H→Prop) (m:Nat):Prop where
 ints:∀ a b,Q 29 (.slice a b)→a.length≤m
 rngs:∀ a b,Q 28 (.slice a b)→a.length≤m
 rowOp:∀ a b,Q 22 (.slice a b)→a.length≤m∧∀ d∈a,Q 31 d
 elOp:∀ l,Q 31 (.agg l)→(∀ d,l[4]?=some d→Q 28 d)∧(∀ d,l[5]?=some d→Q 29 d)∧(∀ d,l[6]?=some d→Q 29 d)
theorem i64_of {n:Int} (h:(Lit.int .i64 n).wf=true):i64 n:=by have:=wf_i64.1 h; unfold i64; omega
def Bok {H:Type} (_t:TypeId) (d:DataW H):Prop:=Rows.uptoBulk d≤1048576
theorem bulk_len {H:Type} (a b:List (DataW H)):a.length≤Rows.uptoBulk (.slice a b):=by
 have:=bulk_count a
 simp only [Rows.uptoBulk]
 omega
theorem fitBok (H:Type):Fit H Bok 1048576 where
 ints a b h:=xnT (bulk_len a b) h
 rngs a b h:=xnT (bulk_len a b) h
 rowOp a b h:=⟨xnT (bulk_len a b) h,fun d hd=>by
  have h1:=bulk_mem hd
  have h2:Rows.uptoBulk (.slice a b)≤1048576:=h
  simp only [Rows.uptoBulk] at h2
  show Rows.uptoBulk d≤1048576
  omega⟩
 elOp l h:=⟨fun d hd=>xnT (bulk_agg (List.mem_of_getElem? hd)) h,fun d hd=>xnT (bulk_agg (List.mem_of_getElem? hd)) h,fun d hd=>xnT (bulk_agg (List.mem_of_getElem? hd)) h⟩
section
variable {H:Type} {enc:TypeId × Value→H} {W:World} {Q:TypeId→DataW H→Prop} {m:Nat}
theorem again {t:TypeId} (hr:Try.prog.readableRec t=true) (hrow:t<Try.prog.types.size) {v:Value} {d:DataW H} {p:List MemPlace} (h:DataW.Trod enc Try.prog W 0 (fun _=>true) true t v d p) (W':World) (hb:Below W.heap.size W W'):DataW.Trod enc Try.prog W' 0 (fun b=>decide (b<W.heap.size)) true t v d p :=
 hb.trod laidOut hr hrow h (by obtain ⟨fuel,hf⟩:=h; exact fun x hx=>DataW.trod_lt _ _ _ _ hf x hx)
theorem open_nums (F:Fit H Q m) {fuel:Nat} {cs:List Value} {x:DataW H × List MemPlace} (h:DataW.trod enc Try.prog W 0 (fun _=>true) true fuel 29 cs=some x) (hq:Q 29 x.1) :
 ∃ (sp:Option Addr) (cap:Nat) (l:List Int),cs=[.slice sp l.length cap]∧(SrcI W sp l.length (bl l)∧∀ x∈l,i64 x)∧l.length≤cap∧(sp=none→cap=0)∧l.length≤m:=by
 rcases open_ints Try.underlying29 Try.underlying3 cellsInt h with ⟨rfl,rfl⟩ | ⟨ad,len,cap,zs,rfl,_,hle,hmax,hall,rfl,hcell,hwf⟩
 · exact ⟨none,0,[],rfl,⟨fun j hj=>absurd hj (xnZ j),fun x hx=>(by cases hx)⟩,xnR _,fun _=>rfl,Nat.zero_le _⟩
 · simp only [if_true] at hall
   have hm:=F.ints _ _ hq
   simp only [lits,List.length_map,List.length_take] at hm
   have hl:(zs.take len).length=len:=by rw [List.length_take]; omega
   refine ⟨some ad,cap,zs.take len,by rw [hl],⟨fun j hj=>⟨ad,rfl,?_⟩,fun y hy=>i64_of (hwf y (List.mem_of_mem_take hy))⟩,by rw [hl]; exact hle,fun e=>(by cases e),by rw [hl]; omega⟩
   rw [hl] at hj
   rw [bl_take _ _ _ hj]
   exact hcell j (by omega)
theorem field_of {fs:Array Field} {l:List (TypeId × Nat)} (h:fs.toList.map (fun f=>(f.type,f.offset))=l) (i:Nat) (t:TypeId) (o:Nat) (hi:l[i]?=some (t,o)):∃ f,fs[i]?=some f∧f.type=t∧f.offset=o:=by
 rw [← h,List.getElem?_map] at hi
 obtain ⟨f,h1,h2⟩:=Option.map_eq_some_iff.1 hi
 injection h2 with h2 h3
 exact ⟨f,by simpa using h1,h2,h3⟩
theorem fieldsRange:(Try.prog.fieldsOf 38).toList.map (fun f=>(f.type,f.offset))=[(3,0),(3,1)]:=by kernel_rfl
theorem open_range {fuel:Nat} {cs:List Value} {x:DataW H × List MemPlace} (h:DataW.trod enc Try.prog W 0 (fun _=>true) true fuel 38 cs=some x):∃ a b:Int,cs=[.int .i64 a,.int .i64 b]∧i64 a∧i64 b:=by
 obtain ⟨xs,n,_,_,hl,hlen,hf⟩:=DataW.trod_struct (fs:=Try.prog.fieldsOf 38) (by kernel_rfl) h
 have h13:Try.prog.cellsOf 38=2:=by kernel_rfl
 have hc1:Try.prog.cellsOf 3=1:=by kernel_rfl
 have hs:xs.length=2:=by rw [hlen]; kernel_rfl
 rw [h13] at hl
 match cs,hl with
 | [c0,c1],_ =>
   obtain ⟨f0,e0,t0,o0⟩:=field_of fieldsRange 0 3 0 rfl
   obtain ⟨f1,e1,t1,o1⟩:=field_of fieldsRange 1 3 1 rfl
   have g0:=hf 0 f0 e0; have g1:=hf 1 f1 e1
   rw [t0,o0,hc1,List.getElem?_eq_getElem (by omega)] at g0
   rw [t1,o1,hc1,List.getElem?_eq_getElem (by omega)] at g1
   obtain ⟨a,q0,_,w0⟩:=DataW.trod_int Try.underlying3 g0
   obtain ⟨b,q1,_,w1⟩:=DataW.trod_int Try.underlying3 g1
   simp at q0 q1
   exact ⟨a,b,by rw [q0,q1],i64_of w0,i64_of w1⟩
theorem open_rngm (F:Fit H Q m) {fuel:Nat} {cs:List Value} {x:DataW H × List MemPlace} (h:DataW.trod enc Try.prog W 0 (fun _=>true) true fuel 28 cs=some x) (hq:Q 28 x.1) :
 ∃ (sp:Option Addr) (cap:Nat) (l:List (Int × Int)),cs=[.slice sp l.length cap]∧RgW W l (.slice sp l.length cap)∧(∀ x∈l,i64 x.1∧i64 x.2)∧l.length≤m:=by
 rcases DataW.trod_slice Try.underlying28 h with ⟨rfl,rfl⟩ | ⟨a,len,cap,elems,rest,n,_,rfl,rfl,hb,hl,hm,hlen,hel,_,_⟩
 · exact ⟨none,0,[],rfl,RgW.nil0 _,fun x hx=>(by cases hx),Nat.zero_le _⟩
 · have hc:Try.prog.cellsOf 38=2:=by kernel_rfl
   have hq2:=F.rngs _ _ hq
   rw [List.length_map] at hq2
   have key:∀ k,k≤len→∃ l:List (Int × Int),l.length=k∧(∀ j u,(wrc l)[j]?=some u→W.cell? (a.add j)=some u)∧∀ x∈l,i64 x.1∧i64 x.2:=by
    intro k
    induction k with
    | zero=>exact fun _=>⟨[],rfl,fun j u hj=>(by cases hj),fun x hx=>(by cases hx)⟩
    | succ k ih =>
      intro hk
      obtain ⟨l,h1,h2,h2b⟩:=ih (by omega)
      have h3:=hel k (by omega)
      rw [hc,List.getElem?_eq_getElem (by omega)] at h3
      obtain ⟨cs,h4,h5⟩:=Option.bind_eq_some_iff.1 h3
      obtain ⟨u,v,rfl,hu,hv⟩:=open_range h5
      obtain ⟨_,_,h6⟩:=World.cells?_some h4
      refine ⟨l++[(u,v)],by rw [List.length_append,h1]; rfl,fun j g hj=>?_,fun x hx=>?_⟩
      · rw [wrc_app21] at hj
        by_cases hjk:j<(wrc l).length
        · rw [List.getElem?_append_left hjk] at hj
          exact h2 j g hj
        · rw [List.getElem?_append_right (by omega),wrc_len,h1] at hj
          rw [wrc_len,h1] at hjk
          have h7:j-k*2<2:=by
           rcases Nat.lt_or_ge (j-k*2) 2 with h' | h'
           · exact h'
           · rw [List.getElem?_eq_none (by exact h')] at hj; cases hj
          have h8:=h6 (j-k*2) h7
          rw [Addr.add_add,show k*2+(j-k*2)=j by omega] at h8
          rw [h8]
          exact hj
      · rcases List.mem_append.1 hx with hx | hx
        · exact h2b x hx
        · obtain rfl:=xm1 hx
          exact ⟨hu,hv⟩
   obtain ⟨l,h1,h2,h3⟩:=key len (xnR _)
   exact ⟨some a,cap,l,by rw [h1],⟨some a,cap,rfl,by omega,fun e=>(by cases e),fun j u hu=>⟨a,rfl,h2 j u hu⟩⟩,h3,by omega⟩
theorem fieldsOp:(Try.prog.fieldsOf 31).toList.map (fun f=>(f.type,f.offset))=[(3,0),(3,1),(3,2),(3,3),(28,4),(29,5),(29,6)]:=by kernel_rfl
theorem open_Op (F:Fit H Q m) {fuel:Nat} {cs:List Value} {x:DataW H × List MemPlace} (h:DataW.trod enc Try.prog W 0 (fun _=>true) true fuel 31 cs=some x) (hq:Q 31 x.1) :
 ∃ (v:Opv) (rp:Option Addr) (rc:Nat) (ap:Option Addr) (ac:Nat) (tp:Option Addr) (tc:Nat),cs=Opc v rp rc ap ac tp tc∧OpV W m v rp rc ap ac tp tc:=by
 obtain ⟨xs,n,_,hx,hl,hlen,hf⟩:=DataW.trod_struct (fs:=Try.prog.fieldsOf 31) (by kernel_rfl) h
 have hn:Try.prog.cellsOf 31=7:=by kernel_rfl
 have hc0:Try.prog.cellsOf 3=1:=by kernel_rfl
 have hc1:Try.prog.cellsOf 29=1:=by kernel_rfl
 have hc2:Try.prog.cellsOf 28=1:=by kernel_rfl
 have hs:xs.length=7:=by rw [hlen]; kernel_rfl
 rw [hn] at hl
 rw [hx] at hq
 have hq2:=F.elOp _ hq
 match cs,hl with
 | [c0,c1,c2,c3,c4,c5,c6],_ =>
   obtain ⟨f0,e0,t0,o0⟩:=field_of fieldsOp 0 3 0 rfl
   have g0:=hf 0 f0 e0
   rw [t0,o0,hc0,List.getElem?_eq_getElem (by omega)] at g0
   obtain ⟨f1,e1,t1,o1⟩:=field_of fieldsOp 1 3 1 rfl
   have g1:=hf 1 f1 e1
   rw [t1,o1,hc0,List.getElem?_eq_getElem (by omega)] at g1
   obtain ⟨f2,e2,t2,o2⟩:=field_of fieldsOp 2 3 2 rfl
   have g2:=hf 2 f2 e2
   rw [t2,o2,hc0,List.getElem?_eq_getElem (by omega)] at g2
   obtain ⟨f3,e3,t3,o3⟩:=field_of fieldsOp 3 3 3 rfl
   have g3:=hf 3 f3 e3
   rw [t3,o3,hc0,List.getElem?_eq_getElem (by omega)] at g3
   obtain ⟨f4,e4,t4,o4⟩:=field_of fieldsOp 4 28 4 rfl
   have g4:=hf 4 f4 e4
   rw [t4,o4,hc2,List.getElem?_eq_getElem (by omega)] at g4
   obtain ⟨f5,e5,t5,o5⟩:=field_of fieldsOp 5 29 5 rfl
   have g5:=hf 5 f5 e5
   rw [t5,o5,hc1,List.getElem?_eq_getElem (by omega)] at g5
   obtain ⟨f6,e6,t6,o6⟩:=field_of fieldsOp 6 29 6 rfl
   have g6:=hf 6 f6 e6
   rw [t6,o6,hc1,List.getElem?_eq_getElem (by omega)] at g6
   obtain ⟨x_k,q0,_,w0⟩:=DataW.trod_int Try.underlying3 g0
   obtain ⟨x_d,q1,_,w1⟩:=DataW.trod_int Try.underlying3 g1
   obtain ⟨x_n,q2,_,w2⟩:=DataW.trod_int Try.underlying3 g2
   obtain ⟨x_m,q3,_,w3⟩:=DataW.trod_int Try.underlying3 g3
   obtain ⟨rp,rc,x_r,q4,b41,b42,b43⟩:=open_rngm F g4 (hq2.1 _ (by rw [List.getElem?_map,List.getElem?_eq_getElem (show 4<xs.length by omega)]; rfl))
   obtain ⟨ap,ac,x_a,q5,⟨b51,b55⟩,b52,b53,b54⟩:=open_nums F g5 (hq2.2.1 _ (by rw [List.getElem?_map,List.getElem?_eq_getElem (show 5<xs.length by omega)]; rfl))
   obtain ⟨tp,tc,x_t,q6,⟨b61,b65⟩,b62,b63,b64⟩:=open_nums F g6 (hq2.2.2 _ (by rw [List.getElem?_map,List.getElem?_eq_getElem (show 6<xs.length by omega)]; rfl))
   simp at q0 q1 q2 q3 q4 q5 q6
   exact ⟨⟨x_k,x_d,x_n,x_m,x_r,x_a,x_t⟩,rp,rc,ap,ac,tp,tc,by rw [q0,q1,q2,q3,q4,q5,q6]; rfl,⟨i64_of w0,i64_of w1,i64_of w2,i64_of w3,b41,b42,b43,b51,b52,b53,b54,b55,b61,b62,b63,b64,b65⟩⟩
theorem open_Ops (F:Fit H Q m) {fuel:Nat} {cs:List Value} {x:DataW H × List MemPlace} (h:DataW.trod enc Try.prog W 0 (fun _=>true) true fuel 22 cs=some x) (hq:Q 22 x.1) :
 ∃ (sp:Option Addr) (cap:Nat) (l:List Opv),cs=[.slice sp l.length cap]∧OpsIn W m sp l∧l.length≤cap∧(sp=none→cap=0)∧l.length≤m:=by
 rcases DataW.trod_slice Try.underlying22 h with ⟨rfl,rfl⟩ | ⟨a,len,cap,elems,rest,n,_,rfl,rfl,hb,hl,hm,hlen,hel,_,_⟩
 · exact ⟨none,0,[],rfl,fun j v hv=>(by simp at hv),xnR _,fun _=>rfl,Nat.zero_le _⟩
 · have hc:Try.prog.cellsOf 31=7:=by kernel_rfl
   have hq2:=F.rowOp _ _ hq
   rw [List.length_map] at hq2
   have key:∀ k,k≤len→∃ l:List Opv,l.length=k∧∀ j v,l[j]?=some v→∃ ad rp rc ap ac tp tc,(some a:Option Addr)=some ad∧(∀ k x,(Opc v rp rc ap ac tp tc)[k]?=some x→W.cell? ((ad.add (j*7)).add k)=some x)∧OpV W m v rp rc ap ac tp tc:=by
    intro k
    induction k with
    | zero=>exact fun _=>⟨[],rfl,fun j f hj=>by simp at hj⟩
    | succ k ih =>
      intro hk
      obtain ⟨l,h1,h2⟩:=ih (by omega)
      have h3:=hel k (by omega)
      rw [hc,List.getElem?_eq_getElem (by omega)] at h3
      obtain ⟨cs,h4,h5⟩:=Option.bind_eq_some_iff.1 h3
      obtain ⟨v,rp,rc,ap,ac,tp,tc,rfl,hv⟩:=open_Op F h5 (hq2.2 _ (List.mem_map_of_mem (List.getElem_mem (by omega))))
      obtain ⟨_,_,h6⟩:=World.cells?_some h4
      refine ⟨l++[v],by rw [List.length_append,h1]; rfl,fun j g hj=>?_⟩
      by_cases hjk:j<l.length
      · rw [List.getElem?_append_left hjk] at hj
        exact h2 j g hj
      · rw [List.getElem?_append_right (by omega)] at hj
        have hj0:j=k:=by
         rcases Nat.lt_or_ge (j-l.length) 1 with h' | h'
         · omega
         · rw [List.getElem?_eq_none (by simpa using h')] at hj; cases hj
        subst hj0
        rw [h1,Nat.sub_self] at hj
        injection hj with hj
        subst hj
        refine ⟨a,rp,rc,ap,ac,tp,tc,rfl,fun i v hiv=>?_,hv⟩
        have hi:i<7:=by
         rcases Nat.lt_or_ge i 7 with h' | h'
         · exact h'
         · rw [List.getElem?_eq_none (by exact h')] at hiv; cases hiv
        rw [h6 i hi]
        exact hiv
   obtain ⟨l,h1,h2⟩:=key len (xnR _)
   exact ⟨some a,cap,l,by rw [h1],h2,by omega,fun e=>(by cases e),by omega⟩
theorem arg_Ops (F:Fit H Q m) {r:Reach} {b0:Nat} {v:Value} {d:DataW H} {p:List MemPlace} (hv:Value.okWide Try.prog W r b0 22 v) (h:DataW.Trod enc Try.prog W 0 (fun _=>true) true 22 v d p) (hq:Q 22 d) :
 ∃ (sp:Option Addr) (cap:Nat) (l:List Opv),v=.slice sp l.length cap∧OpsIn W m sp l∧l.length≤cap∧(sp=none→cap=0)∧l.length≤m:=by
 obtain ⟨sp,len,cap,rfl⟩:=okWide_slice Try.underlying22 hv
 obtain ⟨fuel,hf⟩:=h
 obtain ⟨sp',cap',l,h1,h2⟩:=open_Ops F hf hq
 simp [Value.cells] at h1
 obtain ⟨rfl,rfl,rfl⟩:=h1
 exact ⟨_,_,l,rfl,h2⟩
end
end
end Go.Proofs.Ytmedjdadhmdpgaa
