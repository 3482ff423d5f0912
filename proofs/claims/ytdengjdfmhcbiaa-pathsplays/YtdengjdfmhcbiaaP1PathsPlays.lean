/- Texts of Base Step Hold Float Gn Ar Ow Om Er Jl Sc Vl Mx My Ob Oc Qa Oa Ua Gm Gl Oi Uc Gr Ug Uh Gv Pc, joined. -/
import Derived.WalkSpells
import Derived.Deep.RegionHeld3
import Derived.Stop.BytesEq
import Derived.Deep.QuietTactic
import Derived.Lib.SlBytesConst
import Derived.Test.YtdengjdfmhcbiaaProg
import Derived.Lib.ConvBytes
set_option maxRecDepth 20000
set_option maxHeartbeats 64000000
namespace Go.Proofs.Ytdengjdfmhcbiaa
open Go.RowKit
theorem aP (a : Act) (d : Tmp) (v : Value) : a.put (some d) v = { a with tmps := a.tmps.setIfInBounds d v } := rfl
theorem lI (l : List Value) (i : Nat) (v : Value) : l.toArray.setIfInBounds i v = (l.set i v).toArray := List.setIfInBounds_toArray l i v
theorem l0 (x v : Value) (l : List Value) : (x :: l).set 0 v = v :: l := rfl
theorem lS (x v : Value) (l : List Value) (n : Nat) : (x :: l).set (n + 1) v = x :: l.set n v := rfl
theorem xT {P : Program} {ops : Array Oper} {Q : Exit → Act → World → Prop} {a : Act} {w : World} (h : Q .normal a w) : wpList P ops Q [] a w := h
theorem fN {α : Type} {p : α → Prop} : ∀ x ∈ ([] : List α), p x := fun _ h => absurd h List.not_mem_nil
theorem mI {α : Type} {l : List α} (i : Nat) {x : α} (h : l[i]? = some x) : x ∈ l := List.mem_of_getElem? h
theorem mS {α : Type} {a : α} {l : List α} : a ∈ a :: l := List.mem_cons_self
theorem mT {α : Type} (y : α) {a : α} {l : List α} (h : a ∈ l) : a ∈ y :: l := List.mem_cons_of_mem y h
theorem fC {α : Type} {p : α → Prop} {a : α} {l : List α} (h : p a ∧ ∀ x ∈ l, p x) : ∀ x ∈ a :: l, p x := List.forall_mem_cons.2 h
theorem xm1 {α : Type} {a b : α} (h : a ∈ [b]) : a = b := List.mem_singleton.1 h
theorem xc1 {α : Type} {a b : α} {l : List α} (h : a ∈ b :: l) : a = b ∨ a ∈ l := List.mem_cons.1 h
theorem xnR (n : Nat) : n ≤ n := Nat.le_refl n
theorem xnT {a b c : Nat} (h : a ≤ b) (g : b ≤ c) : a ≤ c := Nat.le_trans h g
theorem xnL {a b c : Nat} (h : a < b) (g : b ≤ c) : a < c := Nat.lt_of_lt_of_le h g
theorem xnZ (n : Nat) : ¬ n < 0 := Nat.not_lt_zero n
theorem xw6 (n : Int) : IntKind.i64.wrap n = (n + 9223372036854775808) % 18446744073709551616 - 9223372036854775808 := IntKind.wrap_i64 n
theorem xiN {a : Int} (h : 0 ≤ a) : ∃ n : Nat, a = n := Int.eq_ofNat_of_zero_le h
theorem xbA (a b : Bool) : ((a && b) = true) = (a = true ∧ b = true) := Bool.and_eq_true a b
abbrev zu8_8 : Array Value := #[.int .u8 0, .int .u8 0, .int .u8 0, .int .u8 0, .int .u8 0, .int .u8 0, .int .u8 0, .int .u8 0]
def row (k:IntKind) (n:Nat) (f:Nat→Int):List Value:=(List.range n).map fun j=>.int k (f j)
theorem row_length (k:IntKind) (n:Nat) (f:Nat→Int):(row k n f).length=n:=by simp [row]
theorem row_get (k:IntKind) (n:Nat) (f:Nat→Int) (j:Nat) (h:j<n):(row k n f)[j]?=some (.int k (f j)):=by simp [row,h]
theorem row_get_some {k:IntKind} {n:Nat} {f:Nat→Int} {j:Nat} {v:Value} (h:(row k n f)[j]?=some v):j<n∧v=.int k (f j):=by
 have hj:j<n:=by
  have:=(List.getElem?_eq_some_iff.1 h).1
  rw [row_length] at this; exact this
 rw [row_get k n f j hj] at h
 exact ⟨hj,(Option.some.inj h).symm⟩
theorem row_congr (k:IntKind) (n:Nat) {f g:Nat→Int} (h:∀ j,j<n→f j=g j):row k n f=row k n g:=by
 unfold row
 refine List.map_congr_left fun j hj=>?_
 rw [h j (List.mem_range.1 hj)]
theorem row_one (k:IntKind) (n:Nat) (f:Nat→Int):∀ v∈row k n f,v.oneCell'=true:=by
 intro v hv
 obtain ⟨j,_,rfl⟩:=List.mem_map.1 hv
 rfl
structure Has (w:World) (b:Nat) (k:IntKind) (n:Nat) (f:Nat→Int):Prop where
 cell:∀ j,j<n→w.cell? ⟨b,j,none⟩=some (.int k (f j))
 free:∀ j,j<n→w.frozen? ⟨b,j,none⟩=false
theorem below_setAll {B:Nat} {w w':World} (h:Below B w w') (b:Nat) (hb:B≤b):∀ (o:Nat) (vs:List Value),Below B w (w'.setCells b o vs)
 | _,[]=>h
 | o,v::vs=>by
   rw [World.setCells]
   exact below_setAll (h.setCell (by simpa using hb) v) b hb (o+1) vs
theorem size_setAll (b:Nat):∀ (o:Nat) (vs:List Value) (w:World),(w.setCells b o vs).heap.size=w.heap.size
 | _,[],_=>rfl
 | o,v::vs,w=>by rw [World.setCells,size_setAll b (o+1) vs]; simp
def In (M:Int) (n:Nat) (f:Nat→Int):Prop:=∀ j,j<n→0≤f j∧f j<M
section
section
variable {P:Program} {ops:Array Oper} {Q:Exit→Act→World→Prop} {md:Region.Mode} {S:World→Prop}
theorem callH {i:Nat} {oi:Oper} (dst:Option Tmp) (hdst:oi.dst=dst) {f:FuncId} {args:Array Value} {R:Ending→World→Prop} {fuel:Nat} {listed:Array Bool} {a:Act} {w:World} (hr:Region.ready md ops listed=[i]) (hi:ops[i]?=some oi)
 (hw:Region.wanted oi (yielded ops a.tmps)=true) (he:∀ w,(execOp a.eval oi).run P w=.ok (.enter f args) w) (hc:Calls P f args w R)
 (hK:∀ e w',R e w'→∃ v,e=.returned v∧S w'∧wpAnyH P md ops Q S fuel (listed.setIfInBounds i true) (a.put dst v) w'):wpAnyH P md ops Q S (fuel+1) listed a w :=
 ⟨fun h0=>(by rw [h0] at hr; cases hr),fun j hj=>by
  rw [hr] at hj
  obtain rfl:=xm1 hj
  unfold wpOp
  simp only [hi,hw,if_true]; refine .inl ?_
  unfold Oper.wp
  rw [he w]
  exact hc.mono fun e w' hR=>by
   obtain ⟨v,rfl,h⟩:=hK e w' hR
   subst hdst
   exact h⟩
theorem doesH {i:Nat} {oi:Oper} (dst:Option Tmp) (hdst:oi.dst=dst) {fuel:Nat} {listed:Array Bool} {a:Act} {w w':World} (hr:Region.ready md ops listed=[i]) (hi:ops[i]?=some oi)
 (hw:Region.wanted oi (yielded ops a.tmps)=true) (he:(execOp a.eval oi).run P w=.ok .skip w') (hS:S w')
 (h:wpAnyH P md ops Q S fuel (listed.setIfInBounds i true) (a.put dst undef) w'):wpAnyH P md ops Q S (fuel+1) listed a w :=
 ⟨fun h0=>(by rw [h0] at hr; cases hr),fun j hj=>by
  rw [hr] at hj
  obtain rfl:=xm1 hj
  unfold wpOp
  simp only [hi,hw,if_true]; refine .inl ?_
  unfold Oper.wp
  rw [he]
  subst hdst
  exact ⟨hS,h⟩⟩
/-! The same at a list of operations,whose order is the text's. -/
theorem pureL {o:Oper} {rest:List Oper} {a:Act} {w:World} (v:Value) (hw:Region.wanted o (yielded ops a.tmps)=true) (hv:∀ w,(execOp a.eval o).run P w=.ok (.value v) w)
 (h:wpList P ops Q rest (a.put o.dst v) w):wpList P ops Q (o::rest) a w:=by
 unfold wpList
 rw [if_pos hw]
 refine .inl ?_
 unfold Oper.wp
 rw [hv w]
 exact h
theorem callL {o:Oper} {f:FuncId} {args:Array Value} {R:Ending→World→Prop} {rest:List Oper} {a:Act} {w:World} (hw:Region.wanted o (yielded ops a.tmps)=true)
 (he:∀ w,(execOp a.eval o).run P w=.ok (.enter f args) w) (hc:Calls P f args w R) (hK:∀ e w',R e w'→∃ v,e=.returned v∧wpList P ops Q rest (a.put o.dst v) w'):wpList P ops Q (o::rest) a w:=by
 unfold wpList
 rw [if_pos hw]
 refine .inl ?_
 unfold Oper.wp
 rw [he w]
 exact hc.mono fun e w' hR=>by
  obtain ⟨v,rfl,h⟩:=hK e w' hR
  exact h
section
variable {P:Program} {ops:Array Oper} {Q:Exit→Act→World→Prop}
theorem xpL {o:Oper} {rest:List Oper} {a a':Act} {w:World} (v:Value) (h:wpList P ops Q rest a' w) (hw:Region.wanted o (yielded ops a.tmps)=true:=by rfl) (hv:∀ w,(execOp a.eval o).run P w=.ok (.value v) w:=by intro _; kernel_rfl) (he:a.put o.dst v=a':=by simp only [aP,lI,l0,lS] <;> rfl):wpList P ops Q (o::rest) a w:=by
 subst he
 exact pureL v hw hv h
theorem xqL {o:Oper} {rest:List Oper} {a a':Act} {w:World} (v:Value) (hv:∀ w,(execOp a.eval o).run P w=.ok (.value v) w) (h:wpList P ops Q rest a' w) (hw:Region.wanted o (yielded ops a.tmps)=true:=by rfl) (he:a.put o.dst v=a':=by simp only [aP,lI,l0,lS] <;> rfl):wpList P ops Q (o::rest) a w:=by
 subst he
 exact pureL v hw hv h
theorem xaL {o:Oper} {rest:List Oper} {a a':Act} {w w':World} (v:Value) (hv:(execOp a.eval o).run P w=.ok (.value v) w') (h:wpList P ops Q rest a' w') (hw:Region.wanted o (yielded ops a.tmps)=true:=by rfl) (he:a.put o.dst v=a':=by simp only [aP,lI,l0,lS] <;> rfl):wpList P ops Q (o::rest) a w:=by
 subst he
 unfold wpList
 rw [if_pos hw]
 refine .inl ?_
 unfold Oper.wp
 rw [hv]
 exact h
theorem xcL {o:Oper} {f:FuncId} {args:Array Value} {R:Ending→World→Prop} {rest:List Oper} {a:Act} {w:World} (hc:Calls P f args w R) (hK:∀ e w',R e w'→∃ v,e=.returned v∧wpList P ops Q rest (a.put o.dst v) w') (hw:Region.wanted o (yielded ops a.tmps)=true:=by rfl) (he:∀ w,(execOp a.eval o).run P w=.ok (.enter f args) w:=by intro _; kernel_rfl):wpList P ops Q (o::rest) a w:=callL hw he hc hK
theorem xeL {o:Oper} {rest:List Oper} {a a':Act} {w:World} {v:Value} (h:wpList P ops Q rest a' w) (he:a.put o.dst v=a':=by simp only [aP,lI,l0,lS] <;> rfl):∃ v',Ending.returned v=.returned v'∧wpList P ops Q rest (a.put o.dst v') w:=by
 subst he
 exact ⟨v,rfl,h⟩
end
end
/-! What stands through calls: blocks with rows of 32 bytes in them. -/
/-! Two rows of bytes,held against each other. -/
open Extern.Stop (cell)
end
section
section
variable {P:Program} {ops:Array Oper} {Q:Exit→Act→World→Prop} {md:Region.Mode} {S:World→Prop} {c:Nat}
def wpAnyC (P:Program) (md:Region.Mode) (ops:Array Oper) (Q:Exit→Act→World→Prop) (S:World→Prop) (c:Nat):Nat→Array Bool→Act→World→Prop
 | 0,l,a,w=>Region.ready md ops l=[]∧Q .normal a w
 | n+1,l,a,w=>(Region.ready md ops l=[]→Q .normal a w) ∧
   ∀ i∈Region.ready md ops l,wpOp P ops Q i (fun a' w'=>((l.setIfInBounds i true).getD c true=false→S w')∧wpAnyC P md ops Q S c n (l.setIfInBounds i true) a' w') a w
theorem wpAny_of_C:∀ (n:Nat) (l:Array Bool) (a:Act) (w:World),wpAnyC P md ops Q S c n l a w→wpAny P md ops Q n l a w
 | 0,_,_,_,h=>h
 | n+1,_,_,_,h=>⟨h.1,fun i hi=>wpOp_mono (fun a' w' h'=>wpAny_of_C n _ a' w' h'.2) (h.2 i hi)⟩
theorem listed_set {l:Array Bool} {i:Nat} (h:l.getD c true=true):(l.setIfInBounds i true).getD c true=true:=by
 by_cases e:i=c
 · subst e
   rw [Array.getD_eq_getD_getElem?]
   by_cases hb:i<l.size
   · rw [Array.getElem?_setIfInBounds_self_of_lt hb]; rfl
   · rw [Array.getElem?_eq_none (by simp; omega)]; rfl
 · rw [getD_set_ne true e]; exact h
theorem wpAnyC_rest:∀ (n:Nat) (l:Array Bool) (a:Act) (w:World),l.getD c true=true→wpAny P md ops Q n l a w→wpAnyC P md ops Q S c n l a w
 | 0,_,_,_,_,h=>h
 | n+1,_,_,_,hc,h=>⟨h.1,fun i hi=>wpOp_mono (fun a' w' h'=>⟨fun hf=>(by rw [listed_set hc] at hf; cases hf),wpAnyC_rest n _ a' w' (listed_set hc) h'⟩) (h.2 i hi)⟩
theorem not_both {l:Array Bool} {i:Nat} (h0:l.getD i true=false) (h1:l.getD i false=true):False:=by
 rw [Array.getD_eq_getD_getElem?] at h0 h1
 cases e:l[i]? with
 | none=>rw [e] at h0; cases h0
 | some b=>rw [e] at h0 h1; simp only [Option.getD_some] at h0 h1; rw [h0] at h1; cases h1
theorem wpAnyC_first {i:Nat} {oi oc:Oper} {v:Value} (hi:ops[i]?=some oi) (hc:ops[c]?=some oc) (hwait:∃ e∈oc.after,Region.binds md e=true∧e.on=i) (hsel:∀ (j:Nat) (o:Oper) cs b,ops[j]?=some o→o.op≠.select cs b)
 (hQ:∀ p a w,Q (.panic p) (a.put oi.dst v) w→Q (.panic p) a w):∀ (n:Nat) (l:Array Bool) (a:Act) (w:World),
  (∀ j oj,ops[j]?=some oj→j≠i→l.getD j true=false→(∀ e∈oj.after,Region.binds md e=true→e.on≠i)→oi.apart ops oj=true) →
  l.getD c true=false→i∈Region.ready md ops l→YieldsIf P ops S oi v a→S w →
  wpAnyC P md ops Q S c n (l.setIfInBounds i true) (a.put oi.dst v) w→wpAnyC P md ops Q S c (n+1) l a w:=by
 have waits:∀ (l:Array Bool) (j:Nat),i∈Region.ready md ops l→j∈Region.ready md ops l→j≠c:=fun l j hr hj e=>by
  subst e
  obtain ⟨_,o,ho,hall⟩:=mem_ready.1 hj
  obtain rfl:o=oc:=Option.some.inj (ho.symm.trans hc)
  obtain ⟨e,he,hb,rfl⟩:=hwait
  exact not_both (mem_ready.1 hr).1 (hall e he hb)
 intro n
 induction n with
 | zero =>
   intro l a w _ _ hr hy hS H
   refine ⟨fun h=>(by rw [h] at hr; cases hr),fun j hj=>?_⟩
   by_cases hji:j=i
   · subst hji; exact hy.wpOp hi hS ⟨fun _=>hS,H⟩
   · have:=ready_mono hj hji
     rw [H.1] at this
     cases this
 | succ n ih =>
   intro l a w hfree hlc hr hy hS H
   refine ⟨fun h=>(by rw [h] at hr; cases hr),fun j hj=>?_⟩
   by_cases hji:j=i
   · subst hji; exact hy.wpOp hi hS ⟨fun _=>hS,H⟩
   · have hjc:=waits l j hr hj
     have hic:=waits l i hr hr
     obtain ⟨hjun,oj,hoj,hall⟩:=mem_ready.1 hj
     have hnot:∀ e∈oj.after,Region.binds md e=true→e.on≠i:=fun e he hb heq=>not_both (mem_ready.1 hr).1 (by rw [← heq]; exact hall e he hb)
     have h2:=wpOp_putIf hoj (hfree j oj hoj hji hjun hnot) (fun cs b=>hsel i oi cs b hi) (fun cs b=>hsel j oj cs b hoj) hQ hy (H.2 j (ready_mono hj hji))
     have hfree':∀ k ok,ops[k]?=some ok→k≠i→(l.setIfInBounds j true).getD k true=false→(∀ e∈ok.after,Region.binds md e=true→e.on≠i)→oi.apart ops ok=true:=fun k ok hk hki hun hno=>by
      refine hfree k ok hk hki ?_ hno
      by_cases hjk:j=k
      · subst hjk; exact hjun
      · rw [getD_set_ne true hjk] at hun; exact hun
     refine wpOp_mono (fun a' w' h3=>?_) h2
     have hS':S w':=h3.2.1 (by rw [getD_set_ne true hjc,getD_set_ne true hic]; exact hlc)
     refine ⟨fun _=>hS',ih (l.setIfInBounds j true) a' w' hfree' (by rw [getD_set_ne true hjc]; exact hlc) (ready_mono hr (Ne.symm hji)) h3.1 hS' ?_⟩
     rw [Array.setIfInBounds_comm _ _ hji]
     exact h3.2.2
theorem wpAnyC_take {i:Nat} {oi oc:Oper} {v:Value} {n:Nat} {l:Array Bool} {a:Act} {w:World} (hi:ops[i]?=some oi) (hc:ops[c]?=some oc) (hwait:(oc.after.any fun e=>Region.binds md e&&e.on == i)=true)
 (hs:Region.noSelect ops=true) (hf:Region.free md ops l i=true) (hl:l.getD c true=false) (hr:(Region.ready md ops l).contains i=true)
 (hQ:∀ p a w,Q (.panic p) (a.put oi.dst v) w→Q (.panic p) a w) (hy:YieldsIf P ops S oi v a) (hS:S w)
 (h:wpAnyC P md ops Q S c n (l.setIfInBounds i true) (a.put oi.dst v) w):wpAnyC P md ops Q S c (n+1) l a w:=by
 refine wpAnyC_first hi hc ?_ (Region.noSelect_spec hs) hQ n l a w (Region.free_spec hi hf) hl (by simpa using hr) hy hS h
 obtain ⟨e,he,hb⟩:=Array.any_eq_true'.1 hwait
 simp only [xbA,beq_iff_eq] at hb
 exact ⟨e,he,hb.1,hb.2⟩
theorem wpAnyC_pure {i:Nat} {oi:Oper} {v:Value} (hi:ops[i]?=some oi) (hic:i≠c) (hsel:∀ (j:Nat) (o:Oper) cs b,ops[j]?=some o→o.op≠.select cs b)
 (hQ:∀ p a w,Q (.panic p) (a.put oi.dst v) w→Q (.panic p) a w):∀ (n:Nat) (l:Array Bool) (a:Act) (w:World),
  (∀ j oj,ops[j]?=some oj→j≠i→l.getD j true=false→(∀ e∈oj.after,Region.binds md e=true→e.on≠i)→oi.apart ops oj=true) →
  i∈Region.ready md ops l→YieldsIf P ops (fun _=>True) oi v a→(l.getD c true=false→S w) →
  wpAnyC P md ops Q S c n (l.setIfInBounds i true) (a.put oi.dst v) w→wpAnyC P md ops Q S c (n+1) l a w:=by
 intro n
 induction n with
 | zero =>
   intro l a w _ hr hy hS H
   refine ⟨fun h=>(by rw [h] at hr; cases hr),fun j hj=>?_⟩
   by_cases hji:j=i
   · subst hji; exact hy.wpOp hi trivial ⟨fun h=>hS (by rw [getD_set_ne true hic] at h; exact h),H⟩
   · have:=ready_mono hj hji
     rw [H.1] at this
     cases this
 | succ n ih =>
   intro l a w hfree hr hy hS H
   refine ⟨fun h=>(by rw [h] at hr; cases hr),fun j hj=>?_⟩
   by_cases hji:j=i
   · subst hji; exact hy.wpOp hi trivial ⟨fun h=>hS (by rw [getD_set_ne true hic] at h; exact h),H⟩
   · obtain ⟨hjun,oj,hoj,hall⟩:=mem_ready.1 hj
     have hnot:∀ e∈oj.after,Region.binds md e=true→e.on≠i:=fun e he hb heq=>not_both (mem_ready.1 hr).1 (by rw [← heq]; exact hall e he hb)
     have h2:=wpOp_putIf hoj (hfree j oj hoj hji hjun hnot) (fun cs b=>hsel i oi cs b hi) (fun cs b=>hsel j oj cs b hoj) hQ hy (H.2 j (ready_mono hj hji))
     have hfree':∀ k ok,ops[k]?=some ok→k≠i→(l.setIfInBounds j true).getD k true=false→(∀ e∈ok.after,Region.binds md e=true→e.on≠i)→oi.apart ops ok=true:=fun k ok hk hki hun hno=>by
      refine hfree k ok hk hki ?_ hno
      by_cases hjk:j=k
      · subst hjk; exact hjun
      · rw [getD_set_ne true hjk] at hun; exact hun
     refine wpOp_mono (fun a' w' h3=>?_) h2
     have hS':(l.setIfInBounds j true).getD c true=false→S w':=fun hf=>h3.2.1 (by rw [Array.setIfInBounds_comm _ _ (Ne.symm hji),getD_set_ne true hic]; exact hf)
     refine ⟨hS',ih (l.setIfInBounds j true) a' w' hfree' (ready_mono hr (Ne.symm hji)) h3.1 hS' ?_⟩
     rw [Array.setIfInBounds_comm _ _ hji]
     exact h3.2.2
theorem wp_region_C (c:Nat) {id:Nat} {a:Act} {w:World} (hm:P.follows .mixedOrders=true) (hS:S w.drew)
 (h:S w.drew→wpAnyC P .any ops Q S c ops.size (Array.replicate ops.size false) a w.drew):(Code.region id ops true).wp P Q a w :=
 wp_region_any hm (wpAny_of_C _ _ _ _ (h hS))
end
section
variable {P:Program} {ops:Array Oper} {Q:Exit→Act→World→Prop} {md:Region.Mode} {S S2:World→Prop} {c:Nat}
theorem pureC {i:Nat} {oi:Oper} (dst:Option Tmp) (hdst:oi.dst=dst) {n:Nat} {l:Array Bool} {a:Act} {w:World} (v:Value) (hi:ops[i]?=some oi) (hic:i≠c) (hw:Region.wanted oi (yielded ops a.tmps)=true)
 (hv:∀ w,(execOp a.eval oi).run P w=.ok (.value v) w)
 (hs:Region.noSelect ops=true) (hf:Region.free md ops l i=true) (hr:(Region.ready md ops l).contains i=true)
 (hQ:∀ p a w,Q (.panic p) (a.put dst v) w→Q (.panic p) a w) (hS:S w)
 (h:wpAnyC P md ops Q S c n (l.setIfInBounds i true) (a.put dst v) w):wpAnyC P md ops Q S c (n+1) l a w:=by
 subst hdst
 exact wpAnyC_pure hi hic (Region.noSelect_spec hs) hQ n l a w (Region.free_spec hi hf) (by simpa using hr) (.inl ⟨hw,fun w _=>hv w⟩) (fun _=>hS) h
section
variable {P:Program} {ops:Array Oper} {Q:Exit→Act→World→Prop} {md:Region.Mode} {S:World→Prop} {c:Nat}
theorem xpC {oi:Oper} {n:Nat} {l:Array Bool} {a a':Act} {w:World} (i:Nat) (d:Tmp) (v:Value) (hS:S w) (h:wpAnyC P md ops Q S c n (l.setIfInBounds i true) a' w)
 (hi:ops[i]?=some oi:=by rfl) (hdst:oi.dst=some d:=by rfl) (hic:i≠c:=by decide) (hw:Region.wanted oi (yielded ops a.tmps)=true:=by rfl) (hv:∀ w,(execOp a.eval oi).run P w=.ok (.value v) w:=by intro _; kernel_rfl) (hg:(Region.noSelect ops&&(Region.free md ops l i&&(Region.ready md ops l).contains i))=true:=by kernel_rfl) (hQ:∀ c a w,Q (.panic c) (a.put (some d) v) w→Q (.panic c) a w:=by exact fun _ _ _ h=>h) (he:a.put (some d) v=a':=by simp only [aP,lI,l0,lS] <;> rfl):wpAnyC P md ops Q S c (n+1) l a w:=by
 subst he
 rw [xbA,xbA] at hg
 exact pureC (some d) hdst v hi hic hw hv hg.1 hg.2.1 hg.2.2 hQ hS h
theorem xqC {oi:Oper} {n:Nat} {l:Array Bool} {a a':Act} {w:World} (i:Nat) (d:Tmp) (hi:ops[i]?=some oi) (v:Value) (hv:∀ w,(execOp a.eval oi).run P w=.ok (.value v) w) (hS:S w) (h:wpAnyC P md ops Q S c n (l.setIfInBounds i true) a' w)
 (hdst:oi.dst=some d:=by rfl) (hic:i≠c:=by decide) (hw:Region.wanted oi (yielded ops a.tmps)=true:=by rfl) (hg:(Region.noSelect ops&&(Region.free md ops l i&&(Region.ready md ops l).contains i))=true:=by kernel_rfl) (hQ:∀ c a w,Q (.panic c) (a.put (some d) v) w→Q (.panic c) a w:=by exact fun _ _ _ h=>h) (he:a.put (some d) v=a':=by simp only [aP,lI,l0,lS] <;> rfl):wpAnyC P md ops Q S c (n+1) l a w:=by
 subst he
 rw [xbA,xbA] at hg
 exact pureC (some d) hdst v hi hic hw hv hg.1 hg.2.1 hg.2.2 hQ hS h
end
theorem callMC {i:Nat} {oi:Oper} (dst:Option Tmp) (hdst:oi.dst=dst) {f:FuncId} {args:Array Value} {R:Ending→World→Prop} {n:Nat} {l:Array Bool} {a:Act} {w:World} (hr:Region.ready md ops l=[i]) (hi:ops[i]?=some oi)
 (hw:Region.wanted oi (yielded ops a.tmps)=true) (he:∀ w,(execOp a.eval oi).run P w=.ok (.enter f args) w) (hC:Calls P f args w R)
 (hK:∀ e w',R e w'→∃ v,e=.returned v∧S w'∧wpAnyC P md ops Q S c n (l.setIfInBounds i true) (a.put dst v) w'):wpAnyC P md ops Q S c (n+1) l a w :=
 ⟨fun h0=>(by rw [h0] at hr; cases hr),fun j hj=>by
  rw [hr] at hj
  obtain rfl:=xm1 hj
  unfold wpOp
  simp only [hi,hw,if_true]; refine .inl ?_
  unfold Oper.wp
  rw [he w]
  exact hC.mono fun e w' hR=>by
   obtain ⟨v,rfl,hS,h⟩:=hK e w' hR
   subst hdst
   exact ⟨fun _=>hS,h⟩⟩
theorem idxSl {o:Oper} {a:Act} (t e:TypeId) (len cap:Nat) (k:IntKind) (ad:Addr) (i:Nat) (x y:Operand) (hu:P.underlying t=some (.slice e)) (hsz:∀ w,(sizeOf e).run P w=.ok 1 w) (hi:i<len) (ho:o.op=.indexAddr t x y) (hx:a.eval x=.slice (some ad) len cap) (hy:a.eval y=.int k (i:Int)) (w:World) :
 (execOp a.eval o).run P w=.ok (.value (.pointer (some (ad.add i)))) w:=by
 have e1:(Instr.indexAt t (.slice (some ad) len cap) (.int k (i:Int))).run P w=.ok (.pointer (some (ad.add i))) w:=by
  simp [Instr.indexAt,run_underlying hu,asIntOf,hsz]
  intro hf
  omega
 unfold execOp
 simp only [ho,hx,hy,Sem.run_bind,e1,Result.andThen_ok,Sem.run_pure]
end
end
section
section
variable {P:Program} {ops:Array Oper} {Q:Exit→Act→World→Prop} {md:Region.Mode} {S:World→Prop}
theorem actL {o:Oper} {rest:List Oper} {a:Act} {w w':World} (v:Value) (hw:Region.wanted o (yielded ops a.tmps)=true) (he:(execOp a.eval o).run P w=.ok (.value v) w')
 (h:wpList P ops Q rest (a.put o.dst v) w'):wpList P ops Q (o::rest) a w:=by
 unfold wpList
 rw [if_pos hw]
 refine .inl ?_
 unfold Oper.wp
 rw [he]
 exact h
end
end
def bl (l:List Int):Nat→Int:=fun j=>l.getD j 0
theorem eqlI {P:Program} {o:Oper} {a:Act} (k:IntKind) (n n':Int) (t t':TypeId) (x y:Operand) (ho:o.op=.binOp .eql t x y t') (hx:a.eval x=.int k n) (hy:a.eval y=.int k n') (r:Bool) (hr:(n == n')=r) (w:World) :
 (execOp a.eval o).run P w=.ok (.value (.bool r)) w:=by
 unfold execOp
 simp only [ho,hx,hy,Sem.run_bind,eqGuard_at_int,binOp_eql,Sem.run_pure,Result.andThen_ok,hr]
theorem leqI {P:Program} {o:Oper} {a:Act} (k:IntKind) (n n':Int) (t t':TypeId) (x y:Operand) (ho:o.op=.binOp .leq t x y t') (hx:a.eval x=.int k n) (hy:a.eval y=.int k n') (r:Bool) (hr:decide (n≤n')=r) (w:World) :
 (execOp a.eval o).run P w=.ok (.value (.bool r)) w:=by
 unfold execOp
 simp only [ho,hx,hy,Sem.run_bind,eqGuard_at_int,binOp_leq,Sem.run_pure,Result.andThen_ok,hr]
section
section
variable {P:Program} {o:Oper} {a:Act}
theorem addI (k:IntKind) (n n' r:Int) (t t':TypeId) (x y:Operand) (ho:o.op=.binOp .add t x y t') (hx:a.eval x=.int k n) (hy:a.eval y=.int k n') (hr:k.wrap (n+n')=r) (w:World):(execOp a.eval o).run P w=.ok (.value (.int k r)) w:=by
 unfold execOp
 simp only [ho,hx,hy,Sem.run_bind,eqGuard_at_int,binOp_add,Op.intArith,Sem.run_pure,Result.andThen_ok,hr]
theorem mulI (k:IntKind) (n n' r:Int) (t t':TypeId) (x y:Operand) (ho:o.op=.binOp .mul t x y t') (hx:a.eval x=.int k n) (hy:a.eval y=.int k n') (hr:k.wrap (n*n')=r) (w:World):(execOp a.eval o).run P w=.ok (.value (.int k r)) w:=by
 unfold execOp
 simp only [ho,hx,hy,Sem.run_bind,eqGuard_at_int,binOp_mul,Op.intArith,Sem.run_pure,Result.andThen_ok,hr]
theorem remI (k:IntKind) (n n' r:Int) (t t':TypeId) (x y:Operand) (ho:o.op=.binOp .rem t x y t') (hx:a.eval x=.int k n) (hy:a.eval y=.int k n') (h0:n'≠0) (hr:n.tmod n'=r) (w:World):(execOp a.eval o).run P w=.ok (.value (.int k r)) w:=by
 unfold execOp
 simp only [ho,hx,hy,Sem.run_bind,eqGuard_at_int,binOp_rem,Op.intDiv,if_neg h0,Sem.run_pure,Result.andThen_ok,hr]
theorem quoI (k:IntKind) (n n' r:Int) (t t':TypeId) (x y:Operand) (ho:o.op=.binOp .quo t x y t') (hx:a.eval x=.int k n) (hy:a.eval y=.int k n') (h0:n'≠0) (hr:k.wrap (n.tdiv n')=r) (w:World):(execOp a.eval o).run P w=.ok (.value (.int k r)) w:=by
 unfold execOp
 simp only [ho,hx,hy,Sem.run_bind,eqGuard_at_int,binOp_quo,Op.intDiv,if_neg h0,Sem.run_pure,Result.andThen_ok,hr]
theorem lssI (k:IntKind) (n n':Int) (t t':TypeId) (x y:Operand) (ho:o.op=.binOp .lss t x y t') (hx:a.eval x=.int k n) (hy:a.eval y=.int k n') (r:Bool) (hr:decide (n<n')=r) (w:World):(execOp a.eval o).run P w=.ok (.value (.bool r)) w:=by
 unfold execOp
 simp only [ho,hx,hy,Sem.run_bind,eqGuard_at_int,binOp_lss,Sem.run_pure,Result.andThen_ok,hr]
theorem neqI (k:IntKind) (n n':Int) (t t':TypeId) (x y:Operand) (ho:o.op=.binOp .neq t x y t') (hx:a.eval x=.int k n) (hy:a.eval y=.int k n') (r:Bool) (hr:(n != n')=r) (w:World):(execOp a.eval o).run P w=.ok (.value (.bool r)) w:=by
 unfold execOp
 simp only [ho,hx,hy,Sem.run_bind,eqGuard_at_int,binOp_neq,Sem.run_pure,Result.andThen_ok,hr]
theorem lenS (x:Operand) (t e:TypeId) (sp:Option Addr) (n c:Nat) (ho:o.op=.call { callee:=.builtin .len,args:=#[x],argTypes:=#[t] }) (ht:P.underlying t=some (.slice e)) (hx:a.eval x=.slice sp n c) (w:World):(execOp a.eval o).run P w=.ok (.value (.int .i64 (n:Int))) w:=by
 simp [execOp,ho,resolve,invoke,builtin,hx,Builtin.len_,run_underlying ht,goInt]
theorem minI (k k':IntKind) (n n' r:Int) (x y:Operand) (t t':TypeId) (ho:o.op=.call { callee:=.builtin .min,args:=#[x,y],argTypes:=#[t,t'] }) (hx:a.eval x=.int k n) (hy:a.eval y=.int k' n') (hr:(if n'<n then n' else n)=r) (w:World):(execOp a.eval o).run P w=.ok (.value (.int k r)) w:=by
 simp [execOp,ho,resolve,invoke,builtin,hx,hy,run_min_int2,hr]
end
section
variable {P:Program} {ops:Array Oper} {Q:Exit→Act→World→Prop} {md:Region.Mode} {S:World→Prop}
theorem readH {i:Nat} {oi:Oper} (dst:Option Tmp) (hdst:oi.dst=dst) {fuel:Nat} {listed:Array Bool} {a:Act} {w:World} (v:Value) (hi:ops[i]?=some oi) (hw:Region.wanted oi (yielded ops a.tmps)=true)
 (hv:∀ w,S w→(execOp a.eval oi).run P w=.ok (.value v) w)
 (hs:Region.noSelect ops=true) (hf:Region.free md ops listed i=true) (hr:(Region.ready md ops listed).contains i=true)
 (hQ:∀ c a w,Q (.panic c) (a.put dst v) w→Q (.panic c) a w) (hS:S w)
 (h:wpAnyH P md ops Q S fuel (listed.setIfInBounds i true) (a.put dst v) w):wpAnyH P md ops Q S (fuel+1) listed a w:=by
 subst hdst
 exact wpAnyH_take hi hs hf hr hQ (Or.inl ⟨hw,hv⟩) hS h
section
variable {P:Program} {ops:Array Oper} {Q:Exit→Act→World→Prop} {md:Region.Mode} {S:World→Prop}
theorem xrH {oi:Oper} {n:Nat} {l:Array Bool} {a a':Act} {w:World} (i:Nat) (d:Tmp) (hi:ops[i]?=some oi) (v:Value) (hv:∀ w,S w→(execOp a.eval oi).run P w=.ok (.value v) w) (hS:S w) (h:wpAnyH P md ops Q S n (l.setIfInBounds i true) a' w)
 (hdst:oi.dst=some d:=by rfl) (hw:Region.wanted oi (yielded ops a.tmps)=true:=by rfl) (hg:(Region.noSelect ops&&(Region.free md ops l i&&(Region.ready md ops l).contains i))=true:=by kernel_rfl) (hQ:∀ c a w,Q (.panic c) (a.put (some d) v) w→Q (.panic c) a w:=by exact fun _ _ _ h=>h) (he:a.put (some d) v=a':=by simp only [aP,lI,l0,lS] <;> rfl):wpAnyH P md ops Q S (n+1) l a w:=by
 subst he
 rw [xbA,xbA] at hg
 exact readH (some d) hdst v hi hw hv hg.1 hg.2.1 hg.2.2 hQ hS h
end
theorem readL {o:Oper} {rest:List Oper} {a:Act} {w:World} (v:Value) (hw:Region.wanted o (yielded ops a.tmps)=true) (hv:(execOp a.eval o).run P w=.ok (.value v) w)
 (h:wpList P ops Q rest (a.put o.dst v) w):wpList P ops Q (o::rest) a w:=by
 unfold wpList
 rw [if_pos hw]
 refine .inl ?_
 unfold Oper.wp
 rw [hv]
 exact h
end
end
section
def Own (w:World) (base:Nat) (e:TypeId) (k:IntKind) (n:Nat) (f:Nat→Int) (v:Value):Prop:=w.ownsRow base e 1 v n (row k n f)
def app (f:Nat→Int) (n:Nat) (h:Nat→Int):Nat→Int:=fun j=>if j<n then f j else h (j-n)
theorem row_app (k:IntKind) (n m:Nat) (f h:Nat→Int):row k n f++row k m h=row k (n+m) (app f n h):=by
 unfold row
 rw [List.range_add,List.map_append,List.map_map]
 congr 1
 · refine List.map_congr_left fun j hj=>?_
   unfold app; rw [if_pos (List.mem_range.1 hj)]
 · refine List.map_congr_left fun j hj=>?_
   simp [app]
   omega
theorem Own.congr {w:World} {base:Nat} {e:TypeId} {k:IntKind} {n:Nat} {f g:Nat→Int} {v:Value} (h:Own w base e k n f v) (he:∀ j,j<n→f j=g j):Own w base e k n g v:=by
 unfold Own at *
 rw [← row_congr k n he]; exact h
theorem grown_of_below {w w':World} (l:Below w.heap.size w w'):w.grownBy w' none:=⟨l.os,l.tape,l.output,l.size,fun j hj _=>l.block j hj⟩
theorem Own.below {w w':World} {base:Nat} {e:TypeId} {k:IntKind} {n:Nat} {f:Nat→Int} {v:Value} (h:Own w base e k n f v) (l:Below w.heap.size w w'):Own w' base e k n f v :=
 World.ownsRow.kept h (grown_of_below l) (by cases hv:v.ownBlock <;> simp)
theorem Own.lit (w:World) (base:Nat) (e:TypeId) (k:IntKind) (n:Nat) (f:Nat→Int) (hb:base≤w.heap.size) (hn:n≤maxLen):Own (w.alloc (.cells (row k n f).toArray e)) base e k n f (.slice (some ⟨w.heap.size,0,none⟩) n n) :=
 ⟨by rw [row_length,Nat.mul_one],.inr ⟨w.heap.size,n,_,rfl,hb,heap_alloc_new w _,xnR _,hn,by rw [List.size_toArray,row_length,Nat.mul_one],by rw [Nat.mul_one]; exact List.take_of_length_le (by rw [row_length]; exact xnR _)⟩⟩
theorem Own.has {w:World} {base:Nat} {e:TypeId} {k:IntKind} {n:Nat} {f:Nat→Int} {v:Value} (h:Own w base e k n f v) (hn:0<n):∃ g cap,v=.slice (some ⟨g,0,none⟩) n cap∧base≤g∧g<w.heap.size∧Has w g k n f:=by
 have hc:=h
 rcases h.2 with ⟨rfl,h0⟩ | ⟨g,cap,cur,rfl,hb,hg,_⟩
 · omega
 · refine ⟨g,cap,rfl,hb,(Array.getElem?_eq_some_iff.1 hg).1,fun j hj=>?_,fun j _=>?_⟩
   · have:=World.ownsRow.cells hc (g:=g) rfl j _ (row_get k n f j hj)
     rw [Addr.add_mid,Nat.zero_add] at this
     exact this
   · unfold World.frozen?
     rw [hg]
     simp
theorem Own.isSlice {w:World} {base:Nat} {e:TypeId} {k:IntKind} {n:Nat} {f:Nat→Int} {v:Value} (h:Own w base e k n f v):∃ sp cap,v=.slice sp n cap∧(sp=none→n=0)∧∀ j,j<n→∃ ad,sp=some ad∧w.cell? (ad.add j)=some (.int k (f j)):=by
 rcases Nat.eq_zero_or_pos n with h0 | h0
 · subst h0
   rcases h.2 with ⟨rfl,_⟩ | ⟨g,cap,cur,rfl,_⟩
   · exact ⟨_,_,rfl,fun _=>rfl,fun j hj=>by omega⟩
   · exact ⟨_,_,rfl,fun _=>rfl,fun j hj=>by omega⟩
 · obtain ⟨g,cap,rfl,_,_,hh⟩:=h.has h0
   exact ⟨_,_,rfl,fun e=>(by cases e),fun j hj=>⟨_,rfl,by rw [Addr.add_mid,Nat.zero_add]; exact hh.cell j hj⟩⟩
section
variable {P:Program}
structure One (P:Program) (e:TypeId) (k:IntKind) (bytes:Nat):Prop where
 info:(P.info? e).map (fun i=>(i.zero,i.bytes,i.size))=some (some (.int k 0),bytes,1)
theorem run_append_Own {w:World} {base:Nat} {t ty e:TypeId} {k:IntKind} {bytes n:Nat} {f:Nat→Int} {v:Value} (ht:P.underlying t=some (.slice e)) (he:One P e k bytes) (h:Own w base e k n f v)
 (sp:Option Addr) (m c:Nat) (hv:Nat→Int) (hs:∀ j,j<m→∃ ad,sp=some ad∧w.cell? (ad.add j)=some (.int k (hv j))) (hz:sp=none→c=0) (h63:n+m≤maxLen) (hb:(n+m)*bytes≤140737488355328) (hbase:base≤w.heap.size) :
 ∃ v' w',(Builtin.append_ #[t,t] ty #[v,.slice sp m c]).run P w=.ok v' w'∧Own w' base e k (n+m) (app f n hv) v'∧w.grownBy w' v.ownBlock∧(∀ g,v'.ownBlock=some g→v.ownBlock=some g∨g=w.heap.size):=by
 obtain ⟨i,hi,hq⟩:=Option.map_eq_some_iff.1 he.info
 simp only [Prod.mk.injEq] at hq
 obtain ⟨h1,h2,h3⟩:=hq
 cases sp with
 | none =>
   have hm:m=0:=by
    rcases Nat.eq_zero_or_pos m with h0 | h0
    · exact h0
    · obtain ⟨ad,e,_⟩:=hs 0 h0; cases e
   subst hm
   obtain rfl:=hz rfl
   refine ⟨v,w,run_append_owned_none (P:=P) (w:=w) base t ty e i 1 ht hi v n _ h,h.congr fun j hj=>by unfold app; rw [if_pos hj],⟨rfl,rfl,rfl,xnR _,fun _ _ _=>rfl⟩,fun g hg=>.inl hg⟩
 | some ad =>
   obtain ⟨v',w',hr,ho,hg,_⟩:=run_append_own (P:=P) w base t ty e i (.int k 0) 1 bytes ht hi h1 h3 h2 rfl (by decide) v n _ h ad m c (row k m hv) (by rw [row_length,Nat.mul_one]) (fun j u hu=>by
    obtain ⟨hj,rfl⟩:=row_get_some hu
    obtain ⟨ad',e',hc⟩:=hs j hj
    injection e' with e'
    subst e'
    exact hc) (row_one k m hv) h63 hb hbase
   rw [row_app] at ho
   refine ⟨v',w',hr,ho,hg,?_⟩
   have hnews:∀ j u,(row k m hv)[j]?=some u→w.cell? (ad.add j)=some u:=fun j u hu=>by
    obtain ⟨hj,rfl⟩:=row_get_some hu
    obtain ⟨ad',e',hc⟩:=hs j hj
    injection e' with e'
    subst e'
    exact hc
   have hml:(row k m hv).length=m*i.size:=by rw [row_length,h3,Nat.mul_one]
   rcases h.2 with ⟨rfl,rfl⟩ | ⟨g,cap,cur,rfl,hbg,hgg,hnc,hcm,hcs,htake⟩
   · by_cases hm:m=0
     · subst hm
       have hr2:(Builtin.append_ #[t,t] ty #[.slice none 0 0,.slice (some ad) 0 c]).run P w=.ok (.slice none 0 0) w:=by
        simp [Builtin.append_,run_underlying ht,sizeOf,typeInfo,hi,Builtin.lenOf,Builtin.firstCells,loadCells,loadCellsFrom]
       rw [hr] at hr2
       injection hr2 with hv' _
       rw [hv']
       intro g hg'
       cases hg'
     · have hr2:=run_append_nil (P:=P) w t ty e i (.int k 0) ht hi h1 ad m c (row k m hv) hml hnews (by omega) (by unfold maxLen at h63; omega) (by rw [h2]; have:=hb; simp only [Nat.zero_add] at this; omega)
       rw [hr] at hr2
       injection hr2 with hv' _
       rw [hv']
       intro g hg'
       injection hg' with hg'
       exact .inr hg'.symm
   · by_cases hroom:n+m≤cap
     · have hr2:=run_append_room (P:=P) w t ty e i ht hi g n cap cur hgg ad m c (row k m hv) hml hnews (row_one k m hv) hroom (by rw [hml,hcs,h3]; omega)
       rw [hr] at hr2
       injection hr2 with hv' _
       rw [hv']
       intro g' hg'
       exact .inl hg'
     · have hr2:=run_append_grow (P:=P) w t ty e i (.int k 0) ht hi h1 ⟨g,0,none⟩ n cap (row k n f) (by rw [row_length,h3,Nat.mul_one]) (World.ownsRow.cells h (g:=g) rfl) ad m c (row k m hv) hml hnews (by omega) (by unfold maxLen at h63; omega) (by rw [h2]; exact growslice_fits (by omega) hb)
       rw [hr] at hr2
       injection hr2 with hv' _
       rw [hv']
       intro g' hg'
       injection hg' with hg'
       exact .inr hg'.symm
theorem appendOp {o:Oper} {a:Act} {w w':World} (s x:Operand) (t:TypeId) (v u r:Value) (ho:o.op=.call { callee:=.builtin .append,args:=#[s,x],argTypes:=#[t,t] }) (hs:a.eval s=v) (hx:a.eval x=u) (hr:(Builtin.append_ #[t,t] o.type #[v,u]).run P w=.ok r w') :
 (execOp a.eval o).run P w=.ok (.value r) w':=by
 unfold execOp
 simp only [ho,resolve,invoke,builtin,Sem.run_bind,Sem.run_pure,Result.andThen_ok,List.map_toArray,List.map_cons,List.map_nil,hs,hx,hr]
end
end
theorem Own.nilCap {w:World} {base:Nat} {e:TypeId} {k:IntKind} {n:Nat} {f:Nat→Int} {sp:Option Addr} {c:Nat} (h:Own w base e k n f (.slice sp n c)):sp=none→c=0:=fun e=>by
 rcases h.2 with ⟨hv,_⟩ | ⟨g,cap,cur,hv,_⟩
 · injection hv
 · injection hv with hv _ _
   rw [e] at hv
   cases hv
theorem Own.le {w:World} {base:Nat} {e:TypeId} {k:IntKind} {n:Nat} {f:Nat→Int} {sp:Option Addr} {c:Nat} (h:Own w base e k n f (.slice sp n c)):n≤c:=by
 rcases h.2 with ⟨hv,h0⟩ | ⟨g,cap,cur,hv,_,_,hc,_⟩
 · omega
 · injection hv with _ _ hc2
   omega
theorem eqlB {P:Program} {o:Oper} {a:Act} (p q:Bool) (t t':TypeId) (x y:Operand) (ho:o.op=.binOp .eql t x y t') (hx:a.eval x=.bool p) (hy:a.eval y=.bool q) (ht:P.underlying t=some .bool) (r:Bool) (hr:(p == q)=r) (w:World) :
 (execOp a.eval o).run P w=.ok (.value (.bool r)) w:=by
 unfold execOp
 simp only [ho,hx,hy,Sem.run_bind,eqGuard_at_bool,run_eql_bool w t p q ht,Sem.run_pure,Result.andThen_ok,hr]
section
section
variable {P:Program} {ops:Array Oper} {Q:Exit→Act→World→Prop} {md:Region.Mode} {S:World→Prop}
theorem skipL {o:Oper} {rest:List Oper} {a:Act} {w:World} (hw:Region.wanted o (yielded ops a.tmps)=false) (h:wpList P ops Q rest (a.put o.dst undef) w):wpList P ops Q (o::rest) a w:=by
 unfold wpList
 rw [if_neg (by rw [hw]; decide)]
 exact h
end
end
section
section
variable {P:Program} {o:Oper} {a:Act}
theorem negI (k:IntKind) (n r:Int) (t:TypeId) (x:Operand) (ho:o.op=.unOp .neg t x) (hx:a.eval x=.int k n) (hr:k.wrap (0-n)=r) (w:World):(execOp a.eval o).run P w=.ok (.value (.int k r)) w:=by
 unfold execOp
 simp only [ho,hx,Op.unary,Op.intArith,Sem.run_bind,Sem.run_pure,Result.andThen_ok,hr]
end
end
section
section
variable {P:Program} {o:Oper} {a:Act}
theorem shlI (k yk:IntKind) (n y r:Int) (t t':TypeId) (x x':Operand) (ho:o.op=.binOp .shl t x x' t') (hx:a.eval x=.int k n) (hy:a.eval x'=.int yk y) (h0:0≤y) (hr:k.wrap (n*2^min y.toNat k.bits)=r) (w:World):(execOp a.eval o).run P w=.ok (.value (.int k r)) w:=by
 unfold execOp
 simp only [ho,hx,hy,Sem.run_bind,eqGuard_at_int,binOp_shl,shift_shl_any k yk n y h0,Sem.run_pure,Result.andThen_ok,hr]
theorem gtrI (k:IntKind) (n n':Int) (t t':TypeId) (x y:Operand) (ho:o.op=.binOp .gtr t x y t') (hx:a.eval x=.int k n) (hy:a.eval y=.int k n') (r:Bool) (hr:decide (n>n')=r) (w:World):(execOp a.eval o).run P w=.ok (.value (.bool r)) w:=by
 unfold execOp
 simp only [ho,hx,hy,Sem.run_bind,eqGuard_at_int,binOp_gtr,Sem.run_pure,Result.andThen_ok,hr]
theorem geqI (k:IntKind) (n n':Int) (t t':TypeId) (x y:Operand) (ho:o.op=.binOp .geq t x y t') (hx:a.eval x=.int k n) (hy:a.eval y=.int k n') (r:Bool) (hr:decide (n≥n')=r) (w:World):(execOp a.eval o).run P w=.ok (.value (.bool r)) w:=by
 unfold execOp
 simp only [ho,hx,hy,Sem.run_bind,eqGuard_at_int,binOp_geq,Sem.run_pure,Result.andThen_ok,hr]
end
end
section
section
variable {P:Program} {ops:Array Oper} {Q:Exit→Act→World→Prop} {md:Region.Mode} {S:World→Prop}
theorem mayL {o:Oper} {rest:List Oper} {a:Act} {w:World} (c:Bool) (v x:Value) (hc:Region.wanted o (yielded ops a.tmps)=c) (hx:x=(bif c then v else undef)) (hv:c=true→(execOp a.eval o).run P w=.ok (.value v) w)
 (h:wpList P ops Q rest (a.put o.dst x) w):wpList P ops Q (o::rest) a w:=by
 subst hx
 unfold wpList
 rw [hc]
 cases c with
 | true =>
   rw [if_pos rfl]
   refine .inl ?_
   unfold Oper.wp
   rw [hv rfl]
   exact h
 | false =>
   rw [if_neg (by decide)]
   exact h
theorem mayH {i:Nat} {oi:Oper} (dst:Option Tmp) (hdst:oi.dst=dst) {fuel:Nat} {listed:Array Bool} {a:Act} {w:World} (c:Bool) (v x:Value) (hi:ops[i]?=some oi) (hc:Region.wanted oi (yielded ops a.tmps)=c) (hx:x=(bif c then v else undef))
 (hv:c=true→∀ w,S w→(execOp a.eval oi).run P w=.ok (.value v) w)
 (hs:Region.noSelect ops=true) (hf:Region.free md ops listed i=true) (hr:(Region.ready md ops listed).contains i=true)
 (hQ:∀ c a w,Q (.panic c) (a.put dst x) w→Q (.panic c) a w) (hS:S w)
 (h:wpAnyH P md ops Q S fuel (listed.setIfInBounds i true) (a.put dst x) w):wpAnyH P md ops Q S (fuel+1) listed a w:=by
 subst hdst
 refine wpAnyH_take hi hs hf hr hQ ?_ hS h
 subst hx
 cases c with
 | true=>exact .inl ⟨hc,hv rfl⟩
 | false=>exact .inr ⟨hc,rfl⟩
theorem storeAny {o:Oper} {a:Act} {w:World} (v:Value) (b j:Nat) (ty:TypeId) (x y:Operand) (ho:o.op=.store ty x y) (hx:a.eval x=.pointer (some ⟨b,j,none⟩)) (hy:a.eval y=v) (hv:v.cells=#[v]) (h1:v.oneCell'=true)
 (hc:(w.cell? ⟨b,j,none⟩).isSome=true) (hf:w.frozen? ⟨b,j,none⟩=false) (hz:(P.info? ty).map (·.size)=some 1):(execOp a.eval o).run P w=.ok .skip (w.setCell ⟨b,j,none⟩ v):=by
 have h0:∀ k:Nat,k < [v].length→k=0:=fun k hk=>by simpa using hk
 have hst:=run_storeCells_cells (P:=P) b j [v] 0 w (fun k hk=>by rw [h0 k hk]; simpa using hc) (fun k hk=>by rw [h0 k hk]; simpa using hf) (fun u hu=>by simp at hu; subst hu; exact h1)
 cases hq:P.info? ty with
 | none=>simp [hq] at hz
 | some i =>
   have hs:i.size=1:=by simp [hq] at hz; omega
   simp only [Nat.add_zero] at hst
   have e:(storeVar ty ⟨b,j,none⟩ v).run P w=.ok () (w.setCell ⟨b,j,none⟩ v):=by
    simp [storeVar,sizeOf,typeInfo,hq,hv,hs,hst,World.setCells]
   unfold execOp
   simp only [ho,hx,hy,Instr.storeAt,Instr.sureAddr,Sem.run_bind,Sem.run_pure,Result.andThen_ok,e]
theorem skipOpL {o:Oper} {rest:List Oper} {a:Act} {w w':World} (hw:Region.wanted o (yielded ops a.tmps)=true) (he:(execOp a.eval o).run P w=.ok .skip w') (h:wpList P ops Q rest (a.put o.dst undef) w'):wpList P ops Q (o::rest) a w:=by
 unfold wpList
 rw [if_pos hw]
 refine .inl ?_
 unfold Oper.wp
 rw [he]
 exact h
theorem load1 {o:Oper} {a:Act} {w:World} (ty:TypeId) (x:Operand) (p:Addr) (v:Value) (ho:o.op=.load ty x) (hx:a.eval x=.pointer (some p)) (hagg:∀ w,(isAgg ty).run P w=.ok false w) (hc:w.cell? p=some v):(execOp a.eval o).run P w=.ok (.value v) w:=by
 have e:(loadVar ty p).run P w=.ok v w:=by simp [loadVar,Sem.run_bind,hagg,hc]
 unfold execOp
 simp only [ho,hx,Instr.loadAt,Instr.sureAddr,Sem.run_bind,Sem.run_pure,Result.andThen_ok,e]
theorem loadN {o:Oper} {a:Act} {w:World} (ty:TypeId) (x:Operand) (p:Addr) (cs:List Value) (ho:o.op=.load ty x) (hx:a.eval x=.pointer (some p)) (hagg:∀ w,(isAgg ty).run P w=.ok true w) (hz:∀ w,(sizeOf ty).run P w=.ok cs.length w)
 (hc:∀ j v,cs[j]?=some v→w.cell? (p.add j)=some v):(execOp a.eval o).run P w=.ok (.value (.agg cs.toArray)) w:=by
 have e:(loadVar ty p).run P w=.ok (.agg cs.toArray) w:=by simp [loadVar,Sem.run_bind,hagg,hz,run_loadCells_list w p cs hc]
 unfold execOp
 simp only [ho,hx,Instr.loadAt,Instr.sureAddr,Sem.run_bind,Sem.run_pure,Result.andThen_ok,e]
end
structure Mm (w0:World) (l:List (Nat × List Value)) (w:World):Prop where
 rows:∀ p∈l,(∀ j,j<p.2.length→w.cell? ⟨p.1,j,none⟩=p.2[j]?∧w.frozen? ⟨p.1,j,none⟩=false)∧w0.heap.size≤p.1∧p.1<w.heap.size
 apart:l.Pairwise fun p q=>p.1≠q.1
 below:Below w0.heap.size w0 w
section
variable {w0 w w':World} {l:List (Nat × List Value)}
theorem Mm.init (w:World):Mm w [] w:=⟨fun _ h=>(by cases h),List.Pairwise.nil,Below.refl _ _⟩
theorem Mm.call (h:Mm w0 l w) (b:Below w.heap.size w w'):Mm w0 l w' :=
 ⟨fun p hp=>⟨fun j hj=>by
  have hlt:=(h.rows p hp).2.2
  rw [b.cell (p:=⟨p.1,j,none⟩) hlt,b.frozen (p:=⟨p.1,j,none⟩) hlt]
  exact (h.rows p hp).1 j hj,(h.rows p hp).2.1,xnL (h.rows p hp).2.2 b.size⟩,h.apart,h.below.trans (b.mono h.below.size)⟩
theorem Mm.drew (h:Mm w0 l w):Mm w0 l w.drew:=h.call (Below.refl _ _).drew
theorem Mm.sub (h:Mm w0 l w) (l':List (Nat × List Value)) (hl:l'.Sublist l):Mm w0 l' w:=⟨fun p hp=>h.rows p (hl.subset hp),h.apart.sublist hl,h.below⟩
theorem Mm.tail {p:Nat × List Value} (h:Mm w0 (p::l) w):Mm w0 l w:=h.sub l (List.sublist_cons_self p l)
theorem Mm.box (h:Mm w0 l w) (c:Array Value) (t:TypeId) (b:Nat) (hb:b=w.heap.size):Mm w0 ((b,c.toList)::l) (w.alloc (.cells c t)):=by
 subst hb; have hc:=h.call ((Below.refl w.heap.size w).alloc (xnR _) (.cells c t))
 refine ⟨fun p hp=>?_,List.pairwise_cons.2 ⟨fun q hq e=>?_,h.apart⟩,hc.below⟩
 · rcases xc1 hp with rfl | hp
   · refine ⟨fun j hj=>⟨?_,World.frozen?_alloc_at _ _ _ _ rfl⟩,h.below.size,by simp⟩
     rw [World.cell?_alloc_at _ _ _ _ rfl]
     simp
   · exact hc.rows p hp
 · have:=(h.rows q hq).2.2
   simp only at e
   omega
theorem Mm.get (h:Mm w0 l w) {b:Nat} {cs:List Value} (hp:(b,cs)∈l) (j:Nat) (v:Value) (hv:cs[j]?=some v):w.cell? ⟨b,j,none⟩=some v:=by
 have hj:j<cs.length:=by
  rcases Nat.lt_or_ge j cs.length with h' | h'
  · exact h'
  · rw [List.getElem?_eq_none h'] at hv; cases hv
 rw [((h.rows _ hp).1 j hj).1,hv]
theorem Mm.isSome (h:Mm w0 l w) {b:Nat} {cs:List Value} (hp:(b,cs)∈l) (j:Nat) (hj:j<cs.length):(w.cell? ⟨b,j,none⟩).isSome=true:=by
 rw [((h.rows _ hp).1 j hj).1,List.getElem?_eq_getElem hj]
 rfl
theorem Mm.free (h:Mm w0 l w) {b:Nat} {cs:List Value} (hp:(b,cs)∈l) (j:Nat) (hj:j<cs.length):w.frozen? ⟨b,j,none⟩=false:=((h.rows _ hp).1 j hj).2
theorem Mm.rangeAt (h:Mm w0 l w) {b:Nat} {cs:List Value} (hp:(b,cs)∈l):∀ j v,cs[j]?=some v→w.cell? ((⟨b,0,none⟩:Addr).add j)=some v:=fun j v hv=>by
 rw [Addr.add_mid,Nat.zero_add]
 exact h.get hp j v hv
theorem Mm.part (h:Mm w0 l w) {b:Nat} {cs:List Value} (hp:(b,cs)∈l) (o:Nat) (ds:List Value) (hd:(cs.drop o).take ds.length=ds):∀ j v,ds[j]?=some v→w.cell? ((⟨b,o,none⟩:Addr).add j)=some v:=fun j v hv=>by
 rw [Addr.add_mid]
 refine h.get hp (o+j) v ?_
 have hj:j<ds.length:=by
  rcases Nat.lt_or_ge j ds.length with h' | h'
  · exact h'
  · rw [List.getElem?_eq_none h'] at hv; cases hv
 rw [← hd,List.getElem?_take,if_pos hj,List.getElem?_drop] at hv
 exact hv
theorem size_setCell (w:World) (p:Addr) (v:Value):(w.setCell p v).heap.size=w.heap.size:=by simp
theorem Mm.set {b:Nat} {cs:List Value} (h:Mm w0 ((b,cs)::l) w) (j:Nat) (hj:j<cs.length) (v:Value):Mm w0 ((b,cs.set j v)::l) (w.setCell ⟨b,j,none⟩ v):=by
 have hb:=h.rows _ mS; have hne:=(List.pairwise_cons.1 h.apart).1
 refine ⟨fun p hp=>?_,List.pairwise_cons.2 ⟨hne,(List.pairwise_cons.1 h.apart).2⟩,below_setAll h.below b hb.2.1 j [v]⟩
 rcases xc1 hp with rfl | hp
 · refine ⟨fun i hi=>⟨?_,by rw [World.frozen?_setCell]; exact (hb.1 i (by simpa using hi)).2⟩,hb.2.1,by rw [size_setCell]; exact hb.2.2⟩
   simp only [List.length_set] at hi
   by_cases e:i=j
   · subst e
     rw [World.cell?_setCell_same' _ _ _ (h.isSome mS i hj),List.getElem?_set_self hj]
   · have e2:=World.cell?_setCell_other (w:=w) (v:=v) (a:=⟨b,j,none⟩) (b:=⟨b,i,none⟩) (by intro e'; injection e' with _ e'; exact e e'.symm)
     simp only
     rw [e2,List.getElem?_set_ne (Ne.symm e)]
     exact (hb.1 i hi).1
 · have h2:=h.rows p (mT _ hp)
   refine ⟨fun i hi=>⟨?_,by rw [World.frozen?_setCell]; exact (h2.1 i hi).2⟩,h2.2.1,by rw [size_setCell]; exact h2.2.2⟩
   rw [World.cell?_setCell_far _ _ _ _ (hne p hp)]
   exact (h2.1 i hi).1
theorem Mm.swap {p q:Nat × List Value} (h:Mm w0 (p::q::l) w):Mm w0 (q::p::l) w:=by
 obtain ⟨h1,h2⟩:=List.pairwise_cons.1 h.apart
 obtain ⟨h3,h4⟩:=List.pairwise_cons.1 h2
 refine ⟨fun x hx=>h.rows x ?_,List.pairwise_cons.2 ⟨fun x hx=>?_,List.pairwise_cons.2 ⟨fun x hx=>h1 x (mT _ hx),h4⟩⟩,h.below⟩
 · rcases xc1 hx with rfl | hx
   · exact mT _ mS
   · rcases xc1 hx with rfl | hx
     · exact mS
     · exact mT _ (mT _ hx)
 · rcases xc1 hx with rfl | hx
   · exact (h1 q mS).symm
   · exact h3 x hx
theorem Mm.lt (h:Mm w0 l w) {b:Nat} {cs:List Value} (hp:(b,cs)∈l):b<w.heap.size:=(h.rows _ hp).2.2
theorem Mm.lo (h:Mm w0 l w) {b:Nat} {cs:List Value} (hp:(b,cs)∈l):w0.heap.size≤b:=(h.rows _ hp).2.1
end
end
section
def i64 (n:Int):Prop:=-9223372036854775808≤n∧n<9223372036854775808
structure Off (X:List Nat) (w w':World):Prop where
 size:w.heap.size≤w'.heap.size
 blk:∀ b,b<w.heap.size→b∉X→w'.heap[b]?=w.heap[b]?
section
variable {X Y:List Nat} {w w1 w2:World}
theorem Off.refl (X:List Nat) (w:World):Off X w w:=⟨xnR _,fun _ _ _=>rfl⟩
theorem Off.trans (h:Off X w w1) (g:Off X w1 w2):Off X w w2:=⟨xnT h.size g.size,fun b hb hX=>(g.blk b (xnL hb h.size) hX).trans (h.blk b hb hX)⟩
theorem Off.mono (h:Off X w w1) (hX:∀ b∈X,b∈Y):Off Y w w1:=⟨h.size,fun b hb hY=>h.blk b hb fun e=>hY (hX b e)⟩
theorem Off.of_below (l:Below w.heap.size w w1):Off X w w1:=⟨l.size,fun b hb _=>l.block b hb⟩
theorem Off.below (h:Off X w w1) (l:Below w1.heap.size w1 w2):Off X w w2:=h.trans (.of_below l)
theorem Off.set (h:Off X w w1) {b:Nat} (hb:b∈X) (j:Nat) (v:Value):Off X w (w1.setCell ⟨b,j,none⟩ v) :=
 h.trans ⟨by simp,fun c _ hX=>by
  have:c≠b:=fun e=>hX (e ▸ hb)
  simp [World.setCell,Array.getElem?_modify,Ne.symm this]⟩
theorem Off.grown (h:Off X w w1) {r:Option Nat} (g:w1.grownBy w2 r) (hr:∀ b,r=some b→b∈X∨w.heap.size≤b):Off X w w2 :=
 ⟨xnT h.size g.size,fun b hb hX=>by
  rw [g.block b (xnL hb h.size) (fun e=>by
   rcases hr b e.symm with h' | h'
   · exact hX h'
   · omega)]
  exact h.blk b hb hX⟩
theorem Off.cell (h:Off X w w1) {p:Addr} {v:Value} (hc:w.cell? p=some v) (hX:p.block∉X):w1.cell? p=some v:=by
 rw [World.cell?_of_block (h.blk p.block (World.block_lt_of_cell? w p hc) hX)]
 exact hc
end
theorem add_block (p:Addr) (j:Nat):(p.add j).block=p.block:=by unfold Addr.add; split <;> rfl
theorem ownsRow_off {X:List Nat} {w w':World} {base size n:Nat} {e:TypeId} {v:Value} {xs:List Value} (h:w.ownsRow base e size v n xs) (o:Off X w w') (hX:∀ b∈X,v.ownBlock≠some b):w'.ownsRow base e size v n xs:=by
 refine ⟨h.1,?_⟩
 rcases h.2 with h0 | ⟨g,cap,cur,hv,hb,hg,h5,h6,h7,h8⟩
 · exact .inl h0
 · refine .inr ⟨g,cap,cur,hv,hb,?_,h5,h6,h7,h8⟩
   have hlt:g<w.heap.size:=by
    rcases Nat.lt_or_ge g w.heap.size with h' | h'
    · exact h'
    · rw [Array.getElem?_eq_none h'] at hg; cases hg
   rw [o.blk g hlt (fun hm=>hX g hm (by rw [hv]; rfl))]
   exact hg
theorem ownsRow_low {X:List Nat} {w w':World} {base size n:Nat} {e:TypeId} {v:Value} {xs:List Value} (h:w.ownsRow base e size v n xs) (o:Off X w w') (hX:∀ b∈X,b<base):w'.ownsRow base e size v n xs :=
 ownsRow_off h o fun b hb e=>by
  have h1:=(World.ownsRow.lt h b e).1; have h2:=hX b hb
  omega
section
variable {P:Program}
structure Many (P:Program) (e:TypeId) (z:Value) (bytes size:Nat):Prop where
 info:(P.info? e).map (fun i=>(i.zero,i.bytes,i.size))=some (some z,bytes,size)
theorem run_append_OwnV {w:World} {base:Nat} {t ty e:TypeId} {z:Value} {bytes size n:Nat} {xs:List Value} {v:Value} (ht:P.underlying t=some (.slice e)) (he:Many P e z bytes size) (hzs:z.cells.size=size) (hs0:0<size) (h:w.ownsRow base e size v n xs)
 (ad:Addr) (m c:Nat) (news:List Value) (hl:news.length=m*size) (hnews:∀ j u,news[j]?=some u→w.cell? (ad.add j)=some u) (h1c:∀ u∈news,u.oneCell'=true) (h63:n+m≤maxLen) (hb:(n+m)*bytes≤140737488355328) (hbase:base≤w.heap.size) :
 ∃ v' w',(Builtin.append_ #[t,t] ty #[v,.slice (some ad) m c]).run P w=.ok v' w'∧w'.ownsRow base e size v' (n+m) (xs++news)∧w.grownBy w' v.ownBlock∧(∀ g,v'.ownBlock=some g→v.ownBlock=some g∨g=w.heap.size):=by
 obtain ⟨i,hi,hq⟩:=Option.map_eq_some_iff.1 he.info
 simp only [Prod.mk.injEq] at hq
 obtain ⟨h1,h2,h3⟩:=hq
 obtain ⟨v',w',hr,ho,hg,_⟩:=run_append_own (P:=P) w base t ty e i z size bytes ht hi h1 h3 h2 hzs hs0 v n _ h ad m c news hl hnews h1c h63 hb hbase
 refine ⟨v',w',hr,ho,hg,?_⟩
 have hml:news.length=m*i.size:=by rw [h3]; exact hl
 rcases h.2 with ⟨rfl,rfl⟩ | ⟨g,cap,cur,rfl,hbg,hgg,hnc,hcm,hcs,htake⟩
 · by_cases hm:m=0
   · subst hm
     have hr2:(Builtin.append_ #[t,t] ty #[.slice none 0 0,.slice (some ad) 0 c]).run P w=.ok (.slice none 0 0) w:=by
      simp [Builtin.append_,run_underlying ht,sizeOf,typeInfo,hi,Builtin.lenOf,Builtin.firstCells,loadCells,loadCellsFrom]
     rw [hr] at hr2
     injection hr2 with hv' _
     rw [hv']
     intro g hg'
     cases hg'
   · have hr2:=run_append_nil (P:=P) w t ty e i z ht hi h1 ad m c news hml hnews (by omega) (by unfold maxLen at h63; omega) (by rw [h2]; have:=hb; simp only [Nat.zero_add] at this; omega)
     rw [hr] at hr2
     injection hr2 with hv' _
     rw [hv']
     intro g hg'
     injection hg' with hg'
     exact .inr hg'.symm
 · by_cases hroom:n+m≤cap
   · have hr2:=run_append_room (P:=P) w t ty e i ht hi g n cap cur hgg ad m c news hml hnews h1c hroom (by rw [hml,hcs,h3]; exact (by rw [← Nat.add_mul]; exact Nat.mul_le_mul_right size hroom))
     rw [hr] at hr2
     injection hr2 with hv' _
     rw [hv']
     intro g' hg'
     exact .inl hg'
   · have hr2:=run_append_grow (P:=P) w t ty e i z ht hi h1 ⟨g,0,none⟩ n cap xs (by rw [h.1,h3]) (World.ownsRow.cells h (g:=g) rfl) ad m c news hml hnews (by omega) (by unfold maxLen at h63; omega) (by rw [h2]; exact growslice_fits (by omega) hb)
     rw [hr] at hr2
     injection hr2 with hv' _
     rw [hv']
     intro g' hg'
     injection hg' with hg'
     exact .inr hg'.symm
end
end
theorem Mm.setAll {w0 w:World} {l:List (Nat × List Value)} {b:Nat} {cs:List Value} (h:Mm w0 ((b,cs)::l) w) (ds:List Value) (hd:ds.length=cs.length):Mm w0 ((b,ds)::l) (w.setCells b 0 ds):=by
 have hb:=h.rows _ mS; have hne:=(List.pairwise_cons.1 h.apart).1
 have hall:∀ j,j<ds.length→(w.cell? ⟨b,0+j,none⟩).isSome=true:=fun j hj=>by rw [Nat.zero_add]; exact h.isSome mS j (by omega)
 refine ⟨fun p hp=>?_,List.pairwise_cons.2 ⟨hne,(List.pairwise_cons.1 h.apart).2⟩,below_setAll h.below b hb.2.1 0 ds⟩
 rcases xc1 hp with rfl | hp
 · refine ⟨fun j hj=>⟨?_,by rw [World.frozen?_setCells]; exact (hb.1 j (by have hj':j<ds.length:=hj; show j<cs.length; omega)).2⟩,hb.2.1,by rw [size_setAll]; exact hb.2.2⟩
   simp only at hj ⊢
   have e:=World.cell?_setCells_in b ds 0 w hall j hj
   rw [Nat.zero_add] at e
   rw [e,List.getElem?_eq_getElem hj]
 · have h2:=h.rows p (mT _ hp)
   refine ⟨fun j hj=>⟨?_,by rw [World.frozen?_setCells]; exact (h2.1 j hj).2⟩,h2.2.1,by rw [size_setAll]; exact h2.2.2⟩
   rw [World.cell?_setCells_out b ds 0 w ⟨p.1,j,none⟩ (fun e _=>absurd e.symm (hne p hp))]
   exact (h2.1 j hj).1
theorem Off.setAll {X:List Nat} {w w1:World} (h:Off X w w1) {b:Nat} (hb:b∈X):∀ (o:Nat) (vs:List Value),Off X w (w1.setCells b o vs)
 | _,[]=>h
 | o,v::vs=>(h.set hb o v).setAll hb (o+1) vs
section
theorem storeP {P:Program} {o:Oper} {a:Act} {w:World} (cs:List Value) (b off:Nat) (ty:TypeId) (x y:Operand) (ho:o.op=.store ty x y) (hx:a.eval x=.pointer (some ⟨b,off,none⟩)) (hy:a.eval y=.agg cs.toArray) (ht:w.there b off cs.toArray.size) (hz:(P.info? ty).map (·.size)=some cs.toArray.size) (h1:∀ u∈cs,u.oneCell'=true) :
 (execOp a.eval o).run P w=.ok .skip (w.setCells b off cs):=by
 unfold execOp
 simp only [ho,hx,hy]; have e:=run_storeAt_mid (P:=P) w b off ty cs.toArray ht hz (all_oneCell_toArray h1); simp only [Sem.run_bind,e,Result.andThen_ok,Sem.run_pure]
def setL (cs:List Value):Nat→List Value→List Value
 | _,[]=>cs
 | o,v::vs=>setL (cs.set o v) (o+1) vs
section
variable {w0 w:World} {l:List (Nat × List Value)} {b:Nat} {cs:List Value}
theorem Mm.thereP (h:Mm w0 l w) (hp:(b,cs)∈l) (o n:Nat) (hn:o+n≤cs.length):w.there b o n:=fun j hj=>⟨h.isSome hp (o+j) (by omega),h.free hp (o+j) (by omega)⟩
theorem Mm.setPartG:∀ (ds:List Value) (o:Nat) (cs:List Value) (w:World),o+ds.length≤cs.length→Mm w0 ((b,cs)::l) w→Mm w0 ((b,setL cs o ds)::l) (w.setCells b o ds)
 | [],_,_,_,_,h=>h
 | v::vs,o,cs,w,hl,h=>by
   rw [List.length_cons] at hl
   exact Mm.setPartG vs (o+1) (cs.set o v) _ (by rw [List.length_set]; omega) (h.set o (by omega) v)
theorem Mm.setPart (h:Mm w0 ((b,cs)::l) w) (ds:List Value) (o:Nat) (hl:o+ds.length≤cs.length):Mm w0 ((b,setL cs o ds)::l) (w.setCells b o ds):=Mm.setPartG ds o cs w hl h
theorem Mm.perm {l':List (Nat × List Value)} (h:Mm w0 l w) (hp:l.Perm l'):Mm w0 l' w :=
 ⟨fun p hq=>h.rows p (hp.mem_iff.2 hq),hp.pairwise h.apart (fun e=>Ne.symm e),h.below⟩
end
def ob:Option Addr→List Nat
 | some a=>[a.block]
 | none=>[]
theorem ob_own (sp:Option Addr) (n c:Nat) (b:Nat):(Value.slice sp n c).ownBlock=some b↔b∈ob sp:=by
 cases sp with
 | none=>exact ⟨fun h=>(by cases h),fun h=>(by cases h)⟩
 | some a =>
   constructor
   · intro h; injection h with h; subst h; exact mS
   · intro h; obtain rfl:=xm1 h; rfl
theorem Mm.drop2 {w0 w:World} {l:List (Nat × List Value)} {p q:Nat × List Value} (h:Mm w0 (p::q::l) w):Mm w0 (p::l) w:=h.sub _ (List.cons_sublist_cons.2 (List.sublist_cons_self q l))
theorem Off.and1 {X:List Nat} {w w1 w2:World} {b:Nat} (h:Off X w w1) (g:Off [b] w1 w2) (hb:b∈X∨w.heap.size≤b):Off X w w2 :=
 ⟨xnT h.size g.size,fun c hc hX=>(g.blk c (xnL hc h.size) (fun e=>by
  obtain rfl:=xm1 e
  rcases hb with h' | h'
  · exact hX h'
  · omega)).trans (h.blk c hc hX)⟩
theorem retCellTmp {P:Program} {fn:Func} {tmps:Array Value} {w:World} (t t2:Tmp) (ty:TypeId) (p:Addr) (cs:List Value) (v:Value) (hr:fn.results=#[.cell t ty,.tmp t2]) (ha:tmps.getD t undef=.pointer (some p)) (hb:tmps.getD t2 undef=v) (hagg:∀ w,(isAgg ty).run P w=.ok true w) (hz:∀ w,(sizeOf ty).run P w=.ok cs.length w) (hc:∀ j v,cs[j]?=some v→w.cell? (p.add j)=some v) :
 (results fn tmps).run P w=.ok (.tuple #[.agg cs.toArray,v]) w:=by
 have e:(loadVar ty p).run P w=.ok (.agg cs.toArray) w:=by simp [loadVar,Sem.run_bind,hagg,hz,run_loadCells_list w p cs hc]
 rw [Array.getD_eq_getD_getElem?] at ha hb
 simp [results,hr,ha,hb,asAddr,e]
end
theorem bl_app (a b:List Int) (j:Nat):bl (a++b) j=if j<a.length then bl a j else bl b (j-a.length):=by
 unfold bl
 simp only [List.getD_eq_getElem?_getD,List.getElem?_append]
 split <;> rfl
theorem bl_app' (a b:List Int) (j:Nat):app (bl a) a.length (bl b) j=bl (a++b) j:=by
 rw [bl_app]
 rfl
def pnum (f:Nat→Bool):Nat→Nat
 | 0=>0
 | n+1=>pnum f n+if f n=true then 1 else 0
theorem pnum_le (f:Nat→Bool):∀ n,pnum f n≤n
 | 0=>xnR _
 | n+1=>by have:=pnum_le f n; unfold pnum; split <;> omega
theorem pnum_congr {f g:Nat→Bool}:∀ {n:Nat},(∀ i,i<n→f i=g i)→pnum f n=pnum g n
 | 0,_=>rfl
 | n+1,h=>by unfold pnum; rw [pnum_congr fun i hi=>h i (by omega),h n (by omega)]
theorem pnum_mono {f g:Nat→Bool}:∀ {n:Nat},(∀ i,i<n→f i=true→g i=true)→pnum f n≤pnum g n
 | 0,_=>xnR _
 | n+1,h=>by
   have h1:=pnum_mono (n:=n) fun i hi=>h i (by omega); have h2:=h n (by omega)
   unfold pnum
   by_cases c:f n=true
   · rw [if_pos c,if_pos (h2 c)]; omega
   · rw [if_neg c]; split <;> omega
theorem pnum_one {f g:Nat→Bool} {k:Nat} (hf:f k=false) (hg:g k=true) (h:∀ i,i≠k→f i=g i):∀ {n:Nat},k<n→pnum g n=pnum f n+1
 | 0,hk=>absurd hk (xnZ k)
 | n+1,hk=>by
   unfold pnum
   by_cases c:k=n
   · subst c
     rw [pnum_congr (f:=g) (g:=f) fun i hi=>(h i (by omega)).symm,if_pos hg,hf]
     rfl
   · rw [pnum_one hf hg h (n:=n) (by omega),h n fun e=>c e.symm]
     omega
theorem pnum_or {f g h:Nat→Bool} (hh:∀ i,h i=(f i || g i)) (hd:∀ i,f i=true→g i=false):∀ n,pnum h n=pnum f n+pnum g n
 | 0=>rfl
 | n+1=>by
   unfold pnum
   rw [pnum_or hh hd n,hh n]
   have:=hd n
   cases e:f n <;> cases e2:g n <;> simp_all <;> omega
theorem filter_num (f:Nat→Bool):∀ n,((List.range n).filter f).length=pnum f n
 | 0=>rfl
 | n+1=>by
   rw [List.range_succ,List.filter_append,List.length_append,filter_num f n]
   show _=pnum f n+if f n=true then 1 else 0
   cases e:f n
   · rw [List.filter_cons_of_neg (by rw [e]; decide)]; rfl
   · rw [List.filter_cons_of_pos e]; rfl
structure Pth where
 st:Nat
 rt:Nat
 tr:Nat
 nx:Nat
 tk:Nat→Int
def pnone:Pth:=⟨0,0,0,0,fun _=>0⟩
structure PthW (p:Pth):Prop where
 s:p.st≤4
 r:p.rt≤1099511627776
 t:p.tr≤4
 n:p.nx≤18691697672192
 k:In 256 8 p.tk
theorem pnone_w:PthW pnone:=⟨Nat.zero_le _,Nat.zero_le _,Nat.zero_le _,Nat.zero_le _,fun _ _=>by show (0:Int)≤0∧(0:Int)<256; decide⟩
abbrev Ptb:=Nat→Pth
def pup (t:Ptb) (k:Nat):Bool:=decide ((t k).st=1∨(t k).st=2)
def pcn (t:Ptb):Nat:=pnum (pup t) 256
structure PtbW (t:Ptb):Prop where
 w:∀ k,PthW (t k)
 z:∀ k,255<k→t k=pnone
 o:∀ k,(t k).st=0→t k=pnone
 c:pcn t≤16
def pnew:Ptb:=fun _=>pnone
theorem pnum_none {f:Nat→Bool}:∀ {n:Nat},(∀ i,i<n→f i=false)→pnum f n=0
 | 0,_=>rfl
 | n+1,h=>by unfold pnum; rw [pnum_none fun i hi=>h i (by omega),h n (by omega)]; rfl
theorem pnew_w:PtbW pnew:=⟨fun _=>pnone_w,fun _ _=>rfl,fun _ _=>rfl,by
 have:pcn pnew=0:=pnum_none fun _ _=>rfl
 omega⟩
def pix (id:Int):Nat:=if 0≤id∧id≤255 then id.toNat else 256
def pst (t:Ptb) (id:Int):Nat:=(t (pix id)).st
def prt (t:Ptb) (id:Int):Nat:=(t (pix id)).rt
def prow (t:Ptb) (s:Nat):List Int:=((List.range 256).filter fun k=>(t k).st == s).map fun k:Nat=>(k:Int)
def pput (t:Ptb) (k:Nat) (p:Pth):Ptb:=fun j=>if j=k then p else t j
theorem pput_same (t:Ptb) (k:Nat) (p:Pth):pput t k p k=p:=if_pos rfl
theorem pput_other {t:Ptb} {k j:Nat} (h:j≠k) (p:Pth):pput t k p j=t j:=if_neg h
def pmom (n:Int):Nat:=(max 0 (min n 1099511627776)).toNat
theorem pmom_le (n:Int):pmom n≤1099511627776:=by unfold pmom; omega
def pmay (t:Ptb) (id:Int):Nat:=if id<0∨255<id then 1 else if (t (pix id)).st≠0 then 201 else if 16≤pcn t then 2 else 0
theorem pmay_ok {t:Ptb} {id:Int} (h:pmay t id=0):0≤id∧id≤255∧(t (pix id)).st=0∧pcn t<16∧pix id<256:=by
 unfold pmay at h
 by_cases c:id<0∨255<id
 · rw [if_pos c] at h; cases h
 · rw [if_neg c] at h
   by_cases d:(t (pix id)).st≠0
   · rw [if_pos d] at h; cases h
   · rw [if_neg d] at h
     by_cases e:16≤pcn t
     · rw [if_pos e] at h; cases h
     · have h1:pix id<256:=by unfold pix; split <;> omega
       exact ⟨by omega,by omega,by omega,by omega,h1⟩
theorem pput_new {t:Ptb} (h:PtbW t) {k:Nat} (hk:k<256) (h0:(t k).st=0) (hc:pcn t<16) {p:Pth} (hp:PthW p) (hs:p.st=1∨p.st=2):PtbW (pput t k p):=by
 refine ⟨fun j=>?_,fun j hj=>?_,fun j hj=>?_,?_⟩
 · by_cases c:j=k
   · subst c; rw [pput_same]; exact hp
   · rw [pput_other c]; exact h.w j
 · rw [pput_other (by omega)]; exact h.z j hj
 · by_cases c:j=k
   · subst c
     rw [pput_same] at hj
     omega
   · rw [pput_other c] at hj ⊢; exact h.o j hj
 · have e:=pnum_one (f:=pup t) (g:=pup (pput t k p)) (k:=k) (by unfold pup; rw [decide_eq_false (by omega)]) (by unfold pup; rw [pput_same,decide_eq_true hs]) (fun i hi=>by unfold pup; rw [pput_other hi]) hk
   have:pcn (pput t k p)=pcn t+1:=e
   omega
theorem pput_w {t:Ptb} (h:PtbW t) {k:Nat} (h0:(t k).st≠0) {p:Pth} (hp:PthW p) (hs:p.st≠0) (hu:p.st=1∨p.st=2→(t k).st=1∨(t k).st=2):PtbW (pput t k p):=by
 have hk:k≤255:=Nat.le_of_not_lt fun c=>h0 (by rw [h.z k c]; rfl)
 refine ⟨fun j=>?_,fun j hj=>?_,fun j hj=>?_,xnT (pnum_mono fun i _ hi=>?_) h.c⟩
 · by_cases c:j=k
   · subst c; rw [pput_same]; exact hp
   · rw [pput_other c]; exact h.w j
 · rw [pput_other (by omega)]; exact h.z j hj
 · by_cases c:j=k
   · subst c
     rw [pput_same] at hj
     exact absurd hj hs
   · rw [pput_other c] at hj ⊢; exact h.o j hj
 · unfold pup at hi ⊢
   rw [decide_eq_true_iff] at hi ⊢
   by_cases c:i=k
   · subst c; rw [pput_same] at hi; exact hu hi
   · rw [pput_other c] at hi; exact hi
def pbeg (t:Ptb) (id:Int):Ptb:=if pmay t id=0 then pput t (pix id) ⟨2,100,0,0,fun _=>0⟩ else t
def padd (t:Ptb) (id:Int) (tk:Nat→Int) (now:Int):Ptb:=if pmay t id=0 then pput t (pix id) ⟨1,100,0,pmom now,tk⟩ else t
theorem pbeg_w {t:Ptb} (h:PtbW t) (id:Int):PtbW (pbeg t id):=by
 unfold pbeg
 split
 · next c =>
   obtain ⟨_,_,h1,h2,h3⟩:=pmay_ok c
   exact pput_new h h3 h1 h2 ⟨by decide,by decide,by decide,by decide,fun _ _=>by show (0:Int)≤0∧(0:Int)<256; decide⟩ (.inr rfl)
 · exact h
theorem padd_w {t:Ptb} (h:PtbW t) (id:Int) {tk:Nat→Int} (hk:In 256 8 tk) (now:Int):PtbW (padd t id tk now):=by
 unfold padd
 split
 · next c =>
   obtain ⟨_,_,h1,h2,h3⟩:=pmay_ok c
   exact pput_new h h3 h1 h2 ⟨show 1≤4 by decide,show 100≤1099511627776 by decide,show 0≤4 by decide,xnT (pmom_le now) (by decide),hk⟩ (.inl rfl)
 · exact h
def pdw (t:Ptb) (m k:Nat):Bool:=decide ((t k).st=1∧(t k).nx≤m)
def pdl (t:Ptb) (m:Nat):List Int:=((List.range 256).filter fun k=>pdw t m k&&(t k).tr != 4).map fun k:Nat=>(k:Int)
def pdt (t:Ptb) (m:Nat):Ptb:=fun k=>if pdw t m k=true then (if (t k).tr=4 then { t k with st:=4 } else { t k with tr:=(t k).tr+1,nx:=m+(t k).rt*2^((t k).tr+1) }) else t k
theorem pdt_w {t:Ptb} (h:PtbW t) {m:Nat} (hm:m≤1099511627776):PtbW (pdt t m):=by
 have key:∀ k,PthW (pdt t m k)∧((pdt t m k).st=0→(t k).st=0)∧((pdt t m k).st=1∨(pdt t m k).st=2→(t k).st=1∨(t k).st=2)∧((t k).st=0→pdt t m k=t k):=by
  intro k; have hw:=h.w k
  unfold pdt
  by_cases c:pdw t m k=true
  · have hc:=c
    unfold pdw at hc
    rw [decide_eq_true_iff] at hc
    rw [if_pos c]
    by_cases d:(t k).tr=4
    · rw [if_pos d]
      exact ⟨⟨xnR 4,hw.r,hw.t,hw.n,hw.k⟩,fun e=>absurd e (show (4:Nat)≠0 by decide),fun _=>.inl hc.1,fun e=>absurd hc.1 (by omega)⟩
    · rw [if_neg d]
      have ht:=hw.t; have hr:=hw.r
      have h2:2^((t k).tr+1)≤16:=Nat.pow_le_pow_right (n:=2) (by decide) (show (t k).tr+1≤4 by omega)
      have h3:=Nat.mul_le_mul hr h2
      exact ⟨⟨hw.s,hw.r,show (t k).tr+1≤4 by omega,show m+(t k).rt*2^((t k).tr+1)≤18691697672192 by omega,hw.k⟩,fun e=>e,fun e=>e,fun e=>absurd hc.1 (by omega)⟩
  · rw [if_neg c]
    exact ⟨hw,fun e=>e,fun e=>e,fun _=>rfl⟩
 refine ⟨fun k=>(key k).1,fun k hk=>?_,fun k hk=>?_,xnT (pnum_mono fun i _ hi=>?_) h.c⟩
 · have h1:=h.z k hk
   rw [(key k).2.2.2 (by rw [h1]; rfl),h1]
 · have h1:=(key k).2.1 hk
   rw [(key k).2.2.2 h1,h.o k h1]
 · unfold pup at hi ⊢
   rw [decide_eq_true_iff] at hi ⊢
   exact (key i).2.2.1 hi
def peq (f g:Nat→Int):Bool:=(List.range 8).all fun j=>f j == g j
def pans (t:Ptb) (id:Int) (tk:Nat→Int):Bool:=decide ((t (pix id)).st=1)&&peq (t (pix id)).tk tk
def pant (t:Ptb) (id:Int) (tk:Nat→Int):Ptb:=if pans t id tk=true then pput t (pix id) { t (pix id) with st:=2 } else t
theorem pant_w {t:Ptb} (h:PtbW t) (id:Int) (tk:Nat→Int):PtbW (pant t id tk):=by
 unfold pant
 split
 · next c =>
   have h1:(t (pix id)).st=1:=of_decide_eq_true (Bool.and_eq_true_iff.1 c).1
   have hw:=h.w (pix id)
   exact pput_w h (by omega) ⟨by show 2≤4; decide,hw.r,hw.t,hw.n,hw.k⟩ (by show 2≠0; decide) fun _=>.inl h1
 · exact h
def ptB (t:Ptb) (id:Int):Bool:=decide ((t (pix id)).st=1)
def ptk (t:Ptb) (id:Int):Nat→Int:=if (t (pix id)).st=1 then (t (pix id)).tk else fun _=>0
def prE (t:Ptb) (id:Int):Nat:=if (t (pix id)).st=1∨(t (pix id)).st=2 then 0 else 200
def prm (t:Ptb) (id:Int):Ptb:=if (t (pix id)).st=1∨(t (pix id)).st=2 then pput t (pix id) { t (pix id) with st:=3 } else t
theorem prm_w {t:Ptb} (h:PtbW t) (id:Int):PtbW (prm t id):=by
 unfold prm
 split
 · next c =>
   have hw:=h.w (pix id)
   exact pput_w h (by omega) ⟨by show 3≤4; decide,hw.r,hw.t,hw.n,hw.k⟩ (by show 3≠0; decide) fun _=>c
 · exact h
def psR (r:Nat) (n:Int):Nat:=max 1 ((7*r+(min n 1099511627776).toNat)/8)
def psm (t:Ptb) (id n:Int):Ptb:=if (t (pix id)).st=2∧0≤n then pput t (pix id) { t (pix id) with rt:=psR (t (pix id)).rt n } else t
theorem psR_le {r:Nat} (h:r≤1099511627776) (n:Int):psR r n≤1099511627776:=by unfold psR; omega
theorem psm_w {t:Ptb} (h:PtbW t) (id n:Int):PtbW (psm t id n):=by
 unfold psm
 split
 · next c =>
   have hw:=h.w (pix id)
   exact pput_w h (by omega) ⟨hw.s,psR_le hw.r n,hw.t,hw.n,hw.k⟩ (by show (t (pix id)).st≠0; omega) fun e=>e
 · exact h
theorem prow_len (t:Ptb):(prow t 2).length+(prow t 1).length=pcn t:=by
 unfold prow pcn
 rw [List.length_map,List.length_map,filter_num,filter_num,Nat.add_comm]
 refine (pnum_or (fun i=>?_) (fun i hi=>?_) 256).symm
 · unfold pup
   rw [Bool.eq_iff_iff,decide_eq_true_iff,Bool.or_eq_true_iff,beq_iff_eq,beq_iff_eq]
 · rw [beq_iff_eq] at hi
   rw [hi]
   rfl
section
section
variable {w0 w:World} {g x t:List (Nat × List Value)}
theorem Mm.beside (h:Mm w0 (g++t) w) {B:Nat} {c:List Value} (hB:(B,c)∈t):B∉g.map Prod.fst:=fun hb=>by
 obtain ⟨p,hp,e⟩:=List.mem_map.1 hb
 exact (List.pairwise_append.1 h.apart).2.2 p hp (B,c) hB e
end
section
variable {α:Type} (x a b c g t:List α)
theorem pull0:(x++(g++t)).Perm (g++(x++t)):=by
 rw [← List.append_assoc,← List.append_assoc]
 exact List.perm_append_comm.append_right t
theorem pull1:(x++(a++(g++t))).Perm (g++(x++(a++t))):=by
 have:=pull0 (x++a) g t
 rw [List.append_assoc,List.append_assoc] at this
 exact this
theorem pull2:(x++(a++(b++(g++t)))).Perm (g++(x++(a++(b++t)))):=by
 have:=pull1 (x++a) b g t
 rw [List.append_assoc,List.append_assoc] at this
 exact this
end
end
section
def obs (sp:Option Addr):List (Nat × List Value):=(ob sp).map fun b=>(b,[])
theorem obs_fst (sp:Option Addr):(obs sp).map Prod.fst=ob sp:=by
 unfold obs
 rw [List.map_map]
 exact List.map_id _
theorem Mm.awayG {w0 w:World} {x g t:List (Nat × List Value)} (h:Mm w0 (g++t) w) (hs:∀ p∈x,p∈t):∀ b∈g.map Prod.fst,b∉x.map Prod.fst:=fun b hb hx=>by
 obtain ⟨p,hp,rfl⟩:=List.mem_map.1 hx
 exact h.beside (hs p hp) hb
theorem Mm.awayS {w0 w:World} {g t:List (Nat × List Value)} {sp:Option Addr} (h:Mm w0 (g++t) w) (hs:∀ p∈obs sp,p∈t):∀ b∈g.map Prod.fst,b∉ob sp:=fun b hb=>by
 have:=h.awayG hs b hb
 rw [obs_fst] at this
 exact this
theorem Mm.awayC {w0 w:World} {x t:List (Nat × List Value)} {B:Nat} {c:List Value} (h:Mm w0 ((B,c)::t) w) (hs:∀ p∈x,p∈t):B∉x.map Prod.fst:=fun hx=>by
 obtain ⟨p,hp,e⟩:=List.mem_map.1 hx
 exact (List.pairwise_cons.1 h.apart).1 p (hs p hp) e.symm
theorem Mm.awayB {w0 w:World} {t:List (Nat × List Value)} {sp:Option Addr} {B:Nat} {c:List Value} (h:Mm w0 ((B,c)::t) w) (hs:∀ p∈obs sp,p∈t):B∉ob sp:=by
 have:=h.awayC hs
 rw [obs_fst] at this
 exact this
section
variable {α:Type} (x a b c d e g t:List α)
theorem pullY:(a++(b++(x++t))).Perm (x++(a++(b++t))):=by
 rw [← List.append_assoc a b,← List.append_assoc a b,← List.append_assoc,← List.append_assoc]
 exact List.perm_append_comm.append_right t
end
end
section
def SrcI (w:World) (sp:Option Addr) (n:Nat) (f:Nat→Int):Prop:=∀ j,j<n→∃ ad,sp=some ad∧w.cell? (ad.add j)=some (.int .i64 (f j))
theorem SrcI.below {w w':World} {sp:Option Addr} {n:Nat} {f:Nat→Int} (h:SrcI w sp n f) {B:Nat} (b:Below B w w') (hB:w.heap.size≤B):SrcI w' sp n f:=fun j hj=>by
 obtain ⟨ad,e,hc⟩:=h j hj
 exact ⟨ad,e,by rw [b.cell (xnL (World.block_lt_of_cell? w _ hc) hB)]; exact hc⟩
theorem SrcI.at {w:World} {ad:Addr} {n:Nat} {f:Nat→Int} (h:SrcI w (some ad) n f) (j:Nat) (hj:j<n):w.cell? (ad.add j)=some (.int .i64 (f j)):=by
 obtain ⟨ad',e,hc⟩:=h j hj
 injection e with e
 subst e
 exact hc
abbrev OwnI (w:World) (base:Nat) (l:List Int) (v:Value):Prop:=Own w base 3 .i64 l.length (bl l) v
theorem OwnI.app {w:World} {base:Nat} {a b:List Int} {v:Value} (h:Own w base 3 .i64 (a.length+b.length) (Go.Proofs.Ytdengjdfmhcbiaa.app (bl a) a.length (bl b)) v):OwnI w base (a++b) v:=by
 unfold OwnI
 rw [List.length_append]
 exact h.congr fun j _=>bl_app' a b j
theorem SrcI.lit (w:World) (l:List Int) (hl:l.length≤16):SrcI (w.alloc (.cells (row .i64 l.length (bl l)).toArray 3)) (some ⟨w.heap.size,0,none⟩) l.length (bl l):=by
 have h:=Own.lit w w.heap.size 3 .i64 l.length (bl l) (xnR _) (by unfold maxLen; omega)
 obtain ⟨sp,c,e,_,hs⟩:=h.isSlice
 injection e with e _ _
 subst e
 exact hs
theorem one64:One Try.prog 3 .i64 8:=⟨by kernel_rfl⟩
section
variable {P:Program} {o:Oper} {a:Act}
theorem maxI (k k':IntKind) (n n' r:Int) (x y:Operand) (t t':TypeId) (ho:o.op=.call { callee:=.builtin .max,args:=#[x,y],argTypes:=#[t,t'] }) (hx:a.eval x=.int k n) (hy:a.eval y=.int k' n') (hr:(if n<n' then n' else n)=r) (w:World):(execOp a.eval o).run P w=.ok (.value (.int k r)) w:=by
 simp [execOp,ho,resolve,invoke,builtin,hx,hy,run_max_int2,hr]
end
theorem Mm.grownN {w0 w w':World} {l:List (Nat × List Value)} (h:Mm w0 l w) {r:Option Nat} (g:w.grownBy w' r) (hr:∀ b,r=some b→w0.heap.size≤b∧∀ p∈l,p.1≠b):Mm w0 l w' :=
 ⟨fun p hp=>⟨fun j hj=>by
  have e:w'.heap[p.1]?=w.heap[p.1]?:=g.block p.1 (h.rows p hp).2.2 (fun e=>(hr p.1 e.symm).2 p hp rfl)
  rw [World.cell?_of_block (a:=⟨p.1,j,none⟩) e,World.frozen?_of_block (a:=⟨p.1,j,none⟩) e]
  exact (h.rows p hp).1 j hj,(h.rows p hp).2.1,xnL (h.rows p hp).2.2 g.size⟩,h.apart,
  ⟨g.os.trans h.below.os,g.tape.trans h.below.tape,g.output.trans h.below.output,xnT h.below.size g.size,fun b hb=>(g.block b (xnL hb h.below.size) (fun e=>by have:=(hr b e.symm).1; omega)).trans (h.below.block b hb)⟩⟩
end
def NewI (w:World) (base:Nat) (l:List Int) (v:Value):Prop:=∃ sp cap,v=.slice sp l.length cap∧l.length≤cap∧(sp=none→cap=0)∧SrcI w sp l.length (bl l)∧∀ a,sp=some a→base≤a.block∧a.block<w.heap.size
theorem NewI.parts {w:World} {base:Nat} {l:List Int} {sp:Option Addr} {cap:Nat} (h:NewI w base l (.slice sp l.length cap)):l.length≤cap∧(sp=none→cap=0)∧SrcI w sp l.length (bl l)∧∀ a,sp=some a→base≤a.block∧a.block<w.heap.size:=by
 obtain ⟨sp',cap',hv,h1,h2,h3,h4⟩:=h
 injection hv with e1 _ e3
 subst e1; subst e3
 exact ⟨h1,h2,h3,h4⟩
theorem NewI.src {w:World} {base:Nat} {l:List Int} {sp:Option Addr} {cap:Nat} (h:NewI w base l (.slice sp l.length cap)):SrcI w sp l.length (bl l):=h.parts.2.2.1
theorem NewI.offB {w w':World} {base:Nat} {l:List Int} {sp:Option Addr} {cap:Nat} {X:List Nat} (h:NewI w base l (.slice sp l.length cap)) (o:Off X w w') (hX:∀ b∈X,b∉ob sp):NewI w' base l (.slice sp l.length cap):=by
 obtain ⟨h1,h2,h3,h4⟩:=h.parts
 have hsz:=o.size
 refine ⟨sp,cap,rfl,h1,h2,fun j hj=>?_,fun a e=>⟨(h4 a e).1,by have:=(h4 a e).2; omega⟩⟩
 obtain ⟨p,hp,hcell⟩:=h3 j hj
 exact ⟨p,hp,o.cell hcell (by rw [add_block]; exact fun hm=>hX _ hm (by rw [hp]; exact mS))⟩
theorem NewI.below {w w':World} {base:Nat} {l:List Int} {sp:Option Addr} {cap:Nat} (h:NewI w base l (.slice sp l.length cap)) (b:Below w.heap.size w w'):NewI w' base l (.slice sp l.length cap):=h.offB (X:=[]) (Off.of_below b) (fun _ hb=>by cases hb)
theorem NewI.of_own {w:World} {base:Nat} {l:List Int} {v:Value} (h:OwnI w base l v):NewI w base l v:=by
 obtain ⟨sp,cap,rfl,_,hs⟩:=h.isSlice
 exact ⟨sp,cap,rfl,Own.le h,Own.nilCap h,hs,fun a e=>by subst e; exact World.ownsRow.lt h a.block rfl⟩
theorem NewI.someE {w:World} {base:Nat} {l:List Int} {sp:Option Addr} {cap:Nat} (h:NewI w base l (.slice sp l.length cap)) {i:Nat} (hi:i<l.length):∃ ad,sp=some ad:=by
 obtain ⟨ad,e,_⟩:=h.src i hi
 exact ⟨ad,e⟩
theorem SrcI.atE {w:World} {sp:Option Addr} {n:Nat} {f:Nat→Int} (h:SrcI w sp n f) {ad:Addr} (hsp:sp=some ad) {j:Nat} (hj:j<n):w.cell? (ad.add j)=some (.int .i64 (f j)):=by
 subst hsp
 exact h.at j hj
theorem Mm.newI {w0 w w':World} {l:List (Nat × List Value)} (M:Mm w0 l w) (b:Below w.heap.size w w') {L:List Int} {sp:Option Addr} {cap:Nat} (h:NewI w' w.heap.size L (.slice sp L.length cap)):Mm w0 (obs sp++l) w':=by
 have M':=M.call b
 obtain ⟨_,_,_,ha⟩:=h.parts
 rcases sp with _ | a
 · exact M'
 · have h1:=ha a rfl
   have h0:=M.below.size
   refine ⟨fun p hp=>?_,List.pairwise_cons.2 ⟨fun p hp e=>?_,M'.apart⟩,M'.below⟩
   · rcases xc1 hp with rfl | hp
     · exact ⟨fun j hj=>absurd hj (xnZ j),xnT h0 h1.1,h1.2⟩
     · exact M'.rows p hp
   · have:=(M.rows p hp).2.2
     simp only at e
     omega
def TabI:=World→Value→Ptb→List (Nat × List Value)→Prop
def tok8 (f:Nat→Int):Value:=.agg (row .u8 8 f).toArray
structure TabOK (I:TabI):Prop where
 ptr:∀ w v t bs,I w v t bs→∃ R,v=.pointer (some ⟨R,0,none⟩)
 off:∀ w w' v t bs X,I w v t bs→Off X w w'→(∀ b∈X,b∉bs.map Prod.fst)→I w' v t bs
 new:∀ (w0 w:World) (l:List (Nat × List Value)),Mm w0 l w →
  Calls Try.prog 8 #[] w fun e w'=>∃ v bs,e=.returned v∧I w' v pnew bs∧Mm w0 (bs++l) w'∧Below w.heap.size w w'
 beg:∀ (w0 w:World) (v:Value) (t:Ptb) (bs l:List (Nat × List Value)) (id:Int),PtbW t→i64 id→I w v t bs→Mm w0 (bs++l) w →
  Calls Try.prog 10 #[v,.int .i64 id] w fun e w'=>∃ bs',e=.returned (.int .i64 ((pmay t id:Nat):Int))∧I w' v (pbeg t id) bs'∧Mm w0 (bs'++l) w'∧Off (bs.map Prod.fst) w w'
 add:∀ (w0 w:World) (v:Value) (t:Ptb) (bs l:List (Nat × List Value)) (id:Int) (tk:Nat→Int) (now:Int),PtbW t→i64 id→In 256 8 tk→i64 now→I w v t bs→Mm w0 (bs++l) w →
  Calls Try.prog 12 #[v,.int .i64 id,tok8 tk,.int .i64 now] w fun e w'=>∃ bs',e=.returned (.int .i64 ((pmay t id:Nat):Int))∧I w' v (padd t id tk now) bs'∧Mm w0 (bs'++l) w'∧Off (bs.map Prod.fst) w w'
 due:∀ (w0 w:World) (v:Value) (t:Ptb) (bs l:List (Nat × List Value)) (now:Int),PtbW t→i64 now→I w v t bs→Mm w0 (bs++l) w →
  Calls Try.prog 15 #[v,.int .i64 now] w fun e w'=>∃ sq cq bs',e=.returned (.slice sq (pdl t (pmom now)).length cq)∧NewI w' w.heap.size (pdl t (pmom now)) (.slice sq (pdl t (pmom now)).length cq)∧I w' v (pdt t (pmom now)) bs'∧Mm w0 (bs'++(obs sq++l)) w'∧Off (bs.map Prod.fst) w w'
 ans:∀ (w0 w:World) (v:Value) (t:Ptb) (bs l:List (Nat × List Value)) (id:Int) (tk:Nat→Int),PtbW t→i64 id→In 256 8 tk→I w v t bs→Mm w0 (bs++l) w →
  Calls Try.prog 17 #[v,.int .i64 id,tok8 tk] w fun e w'=>∃ bs',e=.returned (.bool (pans t id tk))∧I w' v (pant t id tk) bs'∧Mm w0 (bs'++l) w'∧Off (bs.map Prod.fst) w w'
 tok:∀ (w0 w:World) (v:Value) (t:Ptb) (bs l:List (Nat × List Value)) (id:Int),PtbW t→i64 id→I w v t bs→Mm w0 (bs++l) w →
  Calls Try.prog 24 #[v,.int .i64 id] w fun e w'=>e=.returned (.tuple #[tok8 (ptk t id),.bool (ptB t id)])∧Below w.heap.size w w'
 rem:∀ (w0 w:World) (v:Value) (t:Ptb) (bs l:List (Nat × List Value)) (id:Int),PtbW t→i64 id→I w v t bs→Mm w0 (bs++l) w →
  Calls Try.prog 19 #[v,.int .i64 id] w fun e w'=>∃ bs',e=.returned (.int .i64 ((prE t id:Nat):Int))∧I w' v (prm t id) bs'∧Mm w0 (bs'++l) w'∧Off (bs.map Prod.fst) w w'
 sam:∀ (w0 w:World) (v:Value) (t:Ptb) (bs l:List (Nat × List Value)) (id n:Int),PtbW t→i64 id→i64 n→I w v t bs→Mm w0 (bs++l) w →
  Calls Try.prog 21 #[v,.int .i64 id,.int .i64 n] w fun e w'=>∃ bs',e=.returned (.tuple #[])∧I w' v (psm t id n) bs'∧Mm w0 (bs'++l) w'∧Off (bs.map Prod.fst) w w'
 rtt:∀ (w0 w:World) (v:Value) (t:Ptb) (bs l:List (Nat × List Value)) (id:Int),PtbW t→i64 id→I w v t bs→Mm w0 (bs++l) w →
  Calls Try.prog 30 #[v,.int .i64 id] w fun e w'=>e=.returned (.int .i64 ((prt t id:Nat):Int))∧Below w.heap.size w w'
 sta:∀ (w0 w:World) (v:Value) (t:Ptb) (bs l:List (Nat × List Value)) (id:Int),PtbW t→i64 id→I w v t bs→Mm w0 (bs++l) w →
  Calls Try.prog 28 #[v,.int .i64 id] w fun e w'=>e=.returned (.int .i64 ((pst t id:Nat):Int))∧Below w.heap.size w w'
 liv:∀ (w0 w:World) (v:Value) (t:Ptb) (bs l:List (Nat × List Value)),PtbW t→I w v t bs→Mm w0 (bs++l) w →
  Calls Try.prog 26 #[v] w fun e w'=>∃ sq cq,e=.returned (.slice sq (prow t 2).length cq)∧NewI w' w.heap.size (prow t 2) (.slice sq (prow t 2).length cq)∧Below w.heap.size w w'
theorem TabOK.bel {I:TabI} (h:TabOK I) {w w':World} {v:Value} {t:Ptb} {bs:List (Nat × List Value)} (hI:I w v t bs) (l:Below w.heap.size w w'):I w' v t bs:=h.off w w' v t bs [] hI (Off.of_below l) (fun _ hb=>by cases hb)
def TabCl (I:TabI):Prop :=
 ∀ (w0 w:World) (v:Value) (t:Ptb) (bs l:List (Nat × List Value)),PtbW t→I w v t bs→Mm w0 (bs++l) w →
  Calls Try.prog 23 #[v] w fun e w'=>∃ v' bs',e=.returned v'∧I w' v' t bs'∧Mm w0 (bs'++(bs++l)) w'∧Below w.heap.size w w'
theorem Mm.ofRow {w0 w:World} {l:List (Nat × List Value)} (h:Mm w0 l w) {base:Nat} {e:TypeId} {size n:Nat} {xs:List Value} {v:Value} {g:Nat} (hr:w.ownsRow base e size v n xs) (hg:v.ownBlock=some g) (h0:w0.heap.size≤base) (hne:∀ p∈l,p.1≠g):Mm w0 ((g,xs)::l) w:=by
 have hlt:=World.ownsRow.lt hr g hg
 refine ⟨fun p hp=>?_,List.pairwise_cons.2 ⟨fun p hp=>(hne p hp).symm,h.apart⟩,h.below⟩
 rcases xc1 hp with rfl | hp
 · refine ⟨fun j hj=>⟨?_,?_⟩,by simp only; omega,hlt.2⟩
   · have:=World.ownsRow.cells hr hg j _ (List.getElem?_eq_getElem hj)
     rw [Addr.add_mid,Nat.zero_add] at this
     rw [this,List.getElem?_eq_getElem hj]
   · rcases hr.2 with ⟨rfl,_⟩ | ⟨g',cap,cur,rfl,_,hgg,_⟩
     · cases hg
     · obtain rfl:g'=g:=by simpa [Value.ownBlock] using hg
       unfold World.frozen?
       simp only
       rw [hgg]
       simp
 · exact h.rows p hp
theorem idxSm {P:Program} {o:Oper} {a:Act} (t e:TypeId) (len cap m:Nat) (k:IntKind) (ad:Addr) (i:Nat) (x y:Operand) (hu:P.underlying t=some (.slice e)) (hsz:∀ w,(sizeOf e).run P w=.ok m w) (hi:i<len) (ho:o.op=.indexAddr t x y) (hx:a.eval x=.slice (some ad) len cap) (hy:a.eval y=.int k (i:Int)) (w:World) :
 (execOp a.eval o).run P w=.ok (.value (.pointer (some (ad.add (i*m))))) w:=by
 have e1:(Instr.indexAt t (.slice (some ad) len cap) (.int k (i:Int))).run P w=.ok (.pointer (some (ad.add (i*m)))) w:=by
  simp [Instr.indexAt,run_underlying hu,asIntOf,hsz]
  intro hf
  omega
 unfold execOp
 simp only [ho,hx,hy,Sem.run_bind,e1,Result.andThen_ok,Sem.run_pure]
structure Opv where
 k:Int
 d:Int
 n:Int
 t:Nat→Int
def Opc (v:Opv):List Value:=[.int .i64 v.k,.int .i64 v.d,.int .i64 v.n,.int .u8 (v.t 0),.int .u8 (v.t 1),.int .u8 (v.t 2),.int .u8 (v.t 3),.int .u8 (v.t 4),.int .u8 (v.t 5),.int .u8 (v.t 6),.int .u8 (v.t 7)]
structure OpV (w:World) (m:Nat) (v:Opv):Prop where
 k_i:i64 v.k
 d_i:i64 v.d
 n_i:i64 v.n
 t_i:In 256 8 v.t
def OpsIn (w:World) (m:Nat) (sp:Option Addr) (l:List Opv):Prop:=∀ j v,l[j]?=some v→∃ ad,sp=some ad∧(∀ k x,(Opc v)[k]?=some x→w.cell? ((ad.add (j*11)).add k)=some x)∧OpV w m v
theorem cellS20 {w w':World} (l:Below w.heap.size w w') {p:Addr} {u:Value} (h:w.cell? p=some u):w'.cell? p=some u:=by
 rw [l.cell (World.block_lt_of_cell? w _ h)]
 exact h
theorem idxO20 (ad:Addr) (len cap i:Nat) (hi:i<len) {o:Oper} {a:Act} (x y:Operand) (ho:o.op=.indexAddr 22 x y) (hx:a.eval x=.slice (some ad) len cap) (hy:a.eval y=.int .i64 (i:Int)) (w:World):(execOp a.eval o).run Try.prog w=.ok (.value (.pointer (some (ad.add (i*11))))) w :=
 idxSm 22 32 len cap 11 .i64 ad i x y Try.underlying22 (fun _=>by kernel_rfl) hi ho hx hy w
theorem tok8_v (tk:Nat→Int):tok8 tk=.agg #[.int .u8 (tk 0),.int .u8 (tk 1),.int .u8 (tk 2),.int .u8 (tk 3),.int .u8 (tk 4),.int .u8 (tk 5),.int .u8 (tk 6),.int .u8 (tk 7)]:=rfl
abbrev Prs:=List (Nat × Pth)
def plc:Prs→Nat→Nat
 | [],_=>0
 | p::L,k=>if p.1=k then 0 else plc L k+1
theorem plc_le:∀ (L:Prs) (k:Nat),plc L k≤L.length
 | [],_=>xnR _
 | p::L,k=>by
   unfold plc
   split
   · exact Nat.zero_le _
   · have:=plc_le L k; rw [List.length_cons]; omega
theorem plc_in:∀ {L:Prs} {k:Nat},plc L k<L.length→∃ p,L[plc L k]?=some (k,p)
 | [],_,h=>absurd h (xnZ _)
 | q::L,k,h=>by
   unfold plc at h ⊢
   by_cases c:q.1=k
   · rw [if_pos c]; exact ⟨q.2,by rw [← c]; rfl⟩
   · rw [if_neg c] at h ⊢
     obtain ⟨p,hp⟩:=plc_in (L:=L) (k:=k) (by rw [List.length_cons] at h; omega)
     exact ⟨p,by rw [List.getElem?_cons_succ]; exact hp⟩
theorem plc_before:∀ {L:Prs} {k i:Nat} {q:Nat × Pth},i<plc L k→L[i]?=some q→q.1≠k
 | [],_,_,_,h,_=>absurd h (xnZ _)
 | p::L,k,i,q,h,hq=>by
   unfold plc at h
   by_cases c:p.1=k
   · rw [if_pos c] at h; exact absurd h (xnZ _)
   · rw [if_neg c] at h
     rcases i with _ | i
     · obtain rfl:=Option.some.inj hq; exact c
     · rw [List.getElem?_cons_succ] at hq; exact plc_before (L:=L) (by omega) hq
theorem plc_at:∀ {L:Prs} {k i:Nat} {p:Pth},L[i]?=some (k,p)→(∀ j q,j<i→L[j]?=some q→q.1≠k)→plc L k=i
 | [],_,_,_,h,_=>by cases h
 | q::L,k,i,p,h,hb=>by
   unfold plc
   rcases i with _ | i
   · obtain rfl:=Option.some.inj h; rw [if_pos rfl]
   · rw [if_neg (hb 0 q (Nat.succ_pos i) rfl),plc_at (L:=L) (k:=k) (i:=i) (by rw [List.getElem?_cons_succ] at h; exact h) fun j r hj hr=>hb (j+1) r (by omega) (by rw [List.getElem?_cons_succ]; exact hr)]
def tof (L:Prs):Ptb:=fun k=>match L[plc L k]? with | some q=>q.2 | none=>pnone
theorem tof_in {L:Prs} {k:Nat} {p:Pth} (h:L[plc L k]?=some (k,p)):tof L k=p:=by unfold tof; rw [h]
theorem tof_out {L:Prs} {k:Nat} (h:plc L k=L.length):tof L k=pnone:=by
 unfold tof
 rw [h,List.getElem?_eq_none (xnR _)]
structure PrsW (L:Prs):Prop where
 d:(L.map Prod.fst).Nodup
 s:∀ q∈L,q.2.st≠0
 i:∀ q∈L,q.1<256
theorem PrsW.nil:PrsW []:=⟨List.nodup_nil,fun _ h=>(by cases h),fun _ h=>(by cases h)⟩
theorem tof_st {L:Prs} (h:PrsW L) (k:Nat):(tof L k).st=0↔plc L k=L.length:=by
 constructor
 · intro e
   refine Nat.le_antisymm (plc_le L k) (Nat.le_of_not_lt fun c=>?_)
   obtain ⟨p,hp⟩:=plc_in c
   rw [tof_in hp] at e
   exact h.s _ (List.mem_of_getElem? hp) e
 · intro e
   rw [tof_out e]
   rfl
theorem plc_app_in:∀ {L:Prs} {k:Nat} (q:Nat × Pth),plc L k<L.length→plc (L++[q]) k=plc L k
 | [],_,_,h=>absurd h (xnZ _)
 | p::L,k,q,h=>by
   rw [List.cons_append]
   unfold plc at h ⊢
   by_cases c:p.1=k
   · rw [if_pos c,if_pos c]
   · rw [if_neg c] at h
     rw [if_neg c,if_neg c,plc_app_in (L:=L) q (by rw [List.length_cons] at h; omega)]
theorem plc_app_out:∀ {L:Prs} {k:Nat} (q:Nat × Pth),plc L k=L.length→plc (L++[q]) k=L.length+if q.1=k then 0 else 1
 | [],k,q,_=>by
   show (if q.1=k then 0 else 0+1)=_
   split <;> rfl
 | p::L,k,q,h=>by
   rw [List.cons_append]
   unfold plc at h ⊢
   by_cases c:p.1=k
   · rw [if_pos c,List.length_cons] at h; omega
   · rw [if_neg c,List.length_cons] at h
     rw [if_neg c,plc_app_out (L:=L) q (by omega),List.length_cons]
     omega
theorem tof_app {L:Prs} {k:Nat} (hk:plc L k=L.length) (p:Pth):tof (L++[(k,p)])=pput (tof L) k p:=by
 funext j
 by_cases c:j=k
 · subst c
   rw [pput_same]
   refine tof_in ?_
   rw [plc_app_out _ hk,if_pos rfl,Nat.add_zero,List.getElem?_append_right (xnR _),Nat.sub_self]
   rfl
 · rw [pput_other c]
   rcases Nat.lt_or_ge (plc L j) L.length with h | h
   · obtain ⟨r,hr⟩:=plc_in h
     rw [tof_in hr]
     refine tof_in ?_
     rw [plc_app_in _ h,List.getElem?_append_left h,hr]
   · have h1:plc L j=L.length:=Nat.le_antisymm (plc_le L j) h
     rw [tof_out h1]
     refine tof_out ?_
     rw [plc_app_out _ h1,if_neg (fun e=>c e.symm),List.length_append]
     rfl
theorem PrsW.app {L:Prs} (h:PrsW L) {k:Nat} (hk:plc L k=L.length) (hi:k<256) {p:Pth} (hp:p.st≠0):PrsW (L++[(k,p)]):=by
 refine ⟨?_,fun q hq=>?_,fun q hq=>?_⟩
 · rw [List.map_append,List.nodup_append]
   refine ⟨h.d,List.nodup_cons.2 ⟨List.not_mem_nil,List.nodup_nil⟩,fun a ha b hb e=>?_⟩
   obtain ⟨q,hq,rfl⟩:=List.mem_map.1 ha
   have hb':b=k:=xm1 hb
   obtain ⟨i,hi'⟩:=List.mem_iff_getElem?.1 hq
   have hlt:=(List.getElem?_eq_some_iff.1 hi').1
   exact plc_before (k:=k) (by omega) hi' (by rw [e,hb'])
 · rcases List.mem_append.1 hq with hq | hq
   · exact h.s q hq
   · obtain rfl:=xm1 hq; exact hp
 · rcases List.mem_append.1 hq with hq | hq
   · exact h.i q hq
   · obtain rfl:=xm1 hq; exact hi
theorem plc_set:∀ {L:Prs} {i k:Nat} {p:Pth} (p':Pth),L[i]?=some (k,p)→∀ j,plc (L.set i (k,p')) j=plc L j
 | [],_,_,_,_,h,_=>by cases h
 | q::L,i,k,p,p',h,j=>by
   rcases i with _ | i
   · obtain rfl:=Option.some.inj h
     rfl
   · rw [List.getElem?_cons_succ] at h
     rw [List.set_cons_succ]
     unfold plc
     rw [plc_set (L:=L) p' h j]
theorem tof_set {L:Prs} {k:Nat} {p:Pth} (h:L[plc L k]?=some (k,p)) (p':Pth):tof (L.set (plc L k) (k,p'))=pput (tof L) k p':=by
 have hlt:plc L k<L.length:=(List.getElem?_eq_some_iff.1 h).1
 funext j
 by_cases c:j=k
 · subst c
   rw [pput_same]
   refine tof_in ?_
   rw [plc_set p' h,List.getElem?_set_self hlt]
 · rw [pput_other c]
   unfold tof
   rw [plc_set p' h]
   have hne:plc L k≠plc L j:=fun e=>by
    rcases Nat.lt_or_ge (plc L j) L.length with h1 | h1
    · obtain ⟨r,hr⟩:=plc_in h1
      rw [← e,h] at hr
      injection hr with hr
      injection hr with hr _
      exact c hr.symm
    · omega
   rw [List.getElem?_set_ne hne]
theorem map_set_same:∀ {L:Prs} {i k:Nat} {p:Pth} (p':Pth),L[i]?=some (k,p)→(L.set i (k,p')).map Prod.fst=L.map Prod.fst
 | [],_,_,_,_,h=>by cases h
 | q::L,i,k,p,p',h=>by
   rcases i with _ | i
   · obtain rfl:=Option.some.inj h
     rfl
   · rw [List.getElem?_cons_succ] at h
     rw [List.set_cons_succ,List.map_cons,List.map_cons,map_set_same p' h]
theorem PrsW.set {L:Prs} (h:PrsW L) {i k:Nat} {p p':Pth} (hp:L[i]?=some (k,p)) (hs:p'.st≠0):PrsW (L.set i (k,p')):=by
 refine ⟨by rw [map_set_same p' hp]; exact h.d,fun q hq=>?_,fun q hq=>?_⟩
 · rcases List.mem_or_eq_of_mem_set hq with hq | rfl
   · exact h.s q hq
   · exact hs
 · rcases List.mem_or_eq_of_mem_set hq with hq | rfl
   · exact h.i q hq
   · exact h.i (k,p) (List.mem_of_getElem? hp)
def pc1 (q:Nat × Pth):List Value:=[.int .i64 ((q.1:Nat):Int),.int .i64 ((q.2.st:Nat):Int),.int .i64 ((q.2.rt:Nat):Int),.int .i64 ((q.2.tr:Nat):Int),.int .i64 ((q.2.nx:Nat):Int),.int .u8 (q.2.tk 0),.int .u8 (q.2.tk 1),.int .u8 (q.2.tk 2),.int .u8 (q.2.tk 3),.int .u8 (q.2.tk 4),.int .u8 (q.2.tk 5),.int .u8 (q.2.tk 6),.int .u8 (q.2.tk 7)]
theorem pc1_len (q:Nat × Pth):(pc1 q).length=13:=rfl
def prc:Prs→List Value
 | []=>[]
 | q::L=>pc1 q++prc L
theorem prc_len:∀ L:Prs,(prc L).length=L.length*13
 | []=>rfl
 | q::L=>by
   show (pc1 q++prc L).length=_
   rw [List.length_append,pc1_len,prc_len L,List.length_cons]
   omega
theorem prc_app:∀ a b:Prs,prc (a++b)=prc a++prc b
 | [],_=>rfl
 | q::a,b=>by
   show pc1 q++prc (a++b)=(pc1 q++prc a)++prc b
   rw [prc_app a b,List.append_assoc]
theorem prc_get:∀ {L:Prs} {i:Nat} {q:Nat × Pth},L[i]?=some q→∀ {c:Nat},c<13→(prc L)[i*13+c]?=(pc1 q)[c]?
 | [],_,_,h,_,_=>by cases h
 | r::L,i,q,h,c,hc=>by
   show (pc1 r++prc L)[i*13+c]?=_
   rcases i with _ | i
   · obtain rfl:=Option.some.inj h
     rw [List.getElem?_append_left (by rw [pc1_len]; omega),Nat.zero_mul,Nat.zero_add]
   · rw [List.getElem?_cons_succ] at h
     rw [List.getElem?_append_right (by rw [pc1_len]; omega),pc1_len,show (i+1)*13+c-13=i*13+c by omega]
     exact prc_get h hc
theorem prc_set:∀ {L:Prs} {i:Nat} {q:Nat × Pth},L[i]?=some q→∀ {c:Nat} (v:Value) (q':Nat × Pth),c<13→(pc1 q).set c v=pc1 q'→(prc L).set (i*13+c) v=prc (L.set i q')
 | [],_,_,h,_,_,_,_,_=>by cases h
 | r::L,i,q,h,c,v,q',hc,he=>by
   show (pc1 r++prc L).set (i*13+c) v=_
   rcases i with _ | i
   · obtain rfl:=Option.some.inj h
     rw [List.set_append_left _ _ (by rw [pc1_len]; omega),Nat.zero_mul,Nat.zero_add,he]
     rfl
   · rw [List.getElem?_cons_succ] at h
     rw [List.set_append_right _ _ (by rw [pc1_len]; omega),pc1_len,show (i+1)*13+c-13=i*13+c by omega,prc_set h v q' hc he]
     rfl
theorem Mm.addB {w0 w:World} {l:List (Nat × List Value)} (h:Mm w0 l w) {b:Nat} (lo:w0.heap.size≤b) (lt:b<w.heap.size) (hne:∀ p∈l,p.1≠b):Mm w0 ((b,[])::l) w :=
 ⟨fun p hp=>by
  rcases xc1 hp with rfl | hp
  · exact ⟨fun j hj=>absurd hj (xnZ j),lo,lt⟩
  · exact h.rows p hp,List.pairwise_cons.2 ⟨fun p hp=>(hne p hp).symm,h.apart⟩,h.below⟩
theorem Mm.rowApp {w0 w w2:World} {l:List (Nat × List Value)} {sp sq:Option Addr} {n cap m cap2 base size:Nat} {e:TypeId} {xs ys:List Value} (M:Mm w0 (obs sp++l) w) (V:w.ownsRow base e size (.slice sp n cap) n xs) (hg:w.grownBy w2 (Value.slice sp n cap).ownBlock) (V2:w2.ownsRow base e size (.slice sq m cap2) m ys) (h2:∀ g,(Value.slice sq m cap2).ownBlock=some g→(Value.slice sp n cap).ownBlock=some g∨g=w.heap.size) (h0:w0.heap.size≤base):Mm w0 (obs sq++l) w2:=by
 have Ml:Mm w0 l w:=M.sub l (List.sublist_append_right _ _)
 have hap:∀ b,(Value.slice sp n cap).ownBlock=some b→∀ p∈l,p.1≠b:=fun b hb p hp e=>by
  have hm:b∈ob sp:=(ob_own sp n cap b).1 hb
  have:=(List.pairwise_append.1 M.apart).2.2 (b,[]) (List.mem_map.2 ⟨b,hm,rfl⟩) p hp
  exact this e.symm
 have Ml2:=Ml.grownN hg (fun b hb=>⟨xnT h0 (World.ownsRow.lt V b hb).1,hap b hb⟩)
 cases sq with
 | none=>exact Ml2
 | some a =>
   have hl:=World.ownsRow.lt V2 a.block rfl; refine Ml2.addB (xnT h0 hl.1) hl.2 fun p hp e=>?_
   rcases h2 a.block rfl with h | h
   · exact hap _ h p hp e
   · have:=(Ml.rows p hp).2.2
     omega
theorem row_form16 {w:World} {base:Nat} {e:TypeId} {size n:Nat} {xs:List Value} {v:Value} (h:w.ownsRow base e size v n xs):∃ sp cap,v=.slice sp n cap∧n≤cap∧(sp=none→cap=0):=by
 rcases h.2 with ⟨rfl,rfl⟩ | ⟨g,cap,cur,rfl,_,_,hc,_⟩
 · exact ⟨none,0,rfl,xnR _,fun _=>rfl⟩
 · exact ⟨_,cap,rfl,hc,fun e=>by cases e⟩
theorem ownsRow_away {w w':World} {base:Nat} {e:TypeId} {size n:Nat} {xs:List Value} {sp:Option Addr} {cap:Nat} {X:List Nat} (h:w.ownsRow base e size (.slice sp n cap) n xs) (o:Off X w w') (hX:∀ b∈X,b∉ob sp):w'.ownsRow base e size (.slice sp n cap) n xs:=ownsRow_off h o fun b hb e=>hX b hb ((ob_own sp n cap b).1 e)
theorem ownsRow_bel {w w':World} {base:Nat} {e:TypeId} {size n:Nat} {xs:List Value} {v:Value} (h:w.ownsRow base e size v n xs) (l:Below w.heap.size w w'):w'.ownsRow base e size v n xs:=ownsRow_off h (X:=[]) (Off.of_below l) (fun _ hb=>by cases hb)
theorem ownsRow_put {w:World} {base:Nat} {e:TypeId} {size n g cap:Nat} {xs:List Value} (h:w.ownsRow base e size (.slice (some ⟨g,0,none⟩) n cap) n xs) (j:Nat) (u:Value):(w.setCell ⟨g,j,none⟩ u).ownsRow base e size (.slice (some ⟨g,0,none⟩) n cap) n (xs.set j u):=by
 refine ⟨by rw [List.length_set]; exact h.1,?_⟩
 rcases h.2 with ⟨e0,_⟩ | ⟨g',cap',cur,e0,hb,hg,hc,hm,hs,ht⟩
 · cases e0
 · injection e0 with e1 _ e3
   injection e1 with e1
   injection e1 with e1 _ _
   subst e1; subst e3
   have hlt:g<w.heap.size:=by
    rcases Nat.lt_or_ge g w.heap.size with h' | h'
    · exact h'
    · rw [Array.getElem?_eq_none h'] at hg; cases hg
   have h':w.heap[g]=.cells cur e (0,0):=by
    rw [Array.getElem?_eq_getElem hlt] at hg
    exact Option.some.inj hg
   refine .inr ⟨g,cap,cur.setIfInBounds j u,rfl,hb,?_,hc,hm,by rw [Array.size_setIfInBounds]; exact hs,?_⟩
   · show (w.heap.modify g _)[g]?=_
     rw [Array.getElem?_eq_getElem (by simpa using hlt),Array.getElem_modify_self,h']
     rfl
   · rw [Array.toList_setIfInBounds,List.take_set,ht]
theorem Mm.untell {w0 w:World} {l:List (Nat × List Value)} {g:Nat} {cs:List Value} (h:Mm w0 ((g,cs)::l) w):Mm w0 ((g,[])::l) w:=h.tail.addB (h.lo mS) (h.lt mS) fun p hp e=>(List.pairwise_cons.1 h.apart).1 p hp e.symm
section
section
variable {P:Program} {md:Region.Mode} {ops:Array Oper} {Q:Exit→Act→World→Prop} {S:World→Prop}
theorem actO {i:Nat} {oi:Oper} (dst:Option Tmp) (hdst:oi.dst=dst) {K:Act→World→Prop} {a:Act} {w w':World} (v:Value) (hi:ops[i]?=some oi) (hw:Region.wanted oi (yielded ops a.tmps)=true)
 (he:(execOp a.eval oi).run P w=.ok (.value v) w') (h:K (a.put dst v) w'):wpOp P ops Q i K a w:=by
 unfold wpOp
 simp only [hi,hw,if_true]; refine .inl ?_
 unfold Oper.wp
 rw [he]
 subst hdst
 exact h
end
end
end Go.Proofs.Ytdengjdfmhcbiaa
