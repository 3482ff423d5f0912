/- Texts of Base Step Hold Float Jz Pt Gn Ar Ow Er Jl Sc Vl Mx My Ob Oc Qa Aa Gm Gc Gl Oi Gv Pc Hz Gr Nu Ab Kn Ac Nt, joined. -/
import Derived.WalkSpells
import Derived.Deep.RegionHeld3
import Derived.Stop.BytesEq
import Derived.Deep.QuietTactic
import Derived.Lib.SlBytesConst
import Derived.Test.YtmedjdadhmdpgaaProg
import Derived.Lib.ConvBytes
import Derived.Deep.Cut
set_option maxRecDepth 20000
set_option maxHeartbeats 64000000
namespace Go.Proofs.Ytmedjdadhmdpgaa
open Go.RowKit
theorem aP (a : Act) (d : Tmp) (v : Value) : a.put (some d) v = { a with tmps := a.tmps.setIfInBounds d v } := rfl
theorem lI (l : List Value) (i : Nat) (v : Value) : l.toArray.setIfInBounds i v = (l.set i v).toArray := List.setIfInBounds_toArray l i v
theorem l0 (x v : Value) (l : List Value) : (x :: l).set 0 v = v :: l := rfl
theorem lS (x v : Value) (l : List Value) (n : Nat) : (x :: l).set (n + 1) v = x :: l.set n v := rfl
theorem xT {P : Program} {ops : Array Oper} {Q : Exit → Act → World → Prop} {a : Act} {w : World} (h : Q .normal a w) : wpList P ops Q [] a w := h
theorem fN {α : Type} {p : α → Prop} : ∀ x ∈ ([] : List α), p x := fun _ h => absurd h List.not_mem_nil
theorem mI {α : Type} {l : List α} (i : Nat) {x : α} (h : l[i]? = some x) : x ∈ l := List.mem_of_getElem? h
theorem mS {α : Type} {a : α} {l : List α} : a ∈ a :: l := List.mem_cons_self
theorem mT {α : Type} (y : α) {a : α} {l : List α} (h : a ∈ l) : a ∈ y :: l := List.mem_cons_of_mem y h
theorem fC {α : Type} {p : α → Prop} {a : α} {l : List α} (h : p a ∧ ∀ x ∈ l, p x) : ∀ x ∈ a :: l, p x := List.forall_mem_cons.2 h
theorem xm1 {α : Type} {a b : α} (h : a ∈ [b]) : a = b := List.mem_singleton.1 h
theorem xc1 {α : Type} {a b : α} {l : List α} (h : a ∈ b :: l) : a = b ∨ a ∈ l := List.mem_cons.1 h
theorem xnR (n : Nat) : n ≤ n := Nat.le_refl n
theorem xnT {a b c : Nat} (h : a ≤ b) (g : b ≤ c) : a ≤ c := Nat.le_trans h g
theorem xnL {a b c : Nat} (h : a < b) (g : b ≤ c) : a < c := Nat.lt_of_lt_of_le h g
theorem xnZ (n : Nat) : ¬ n < 0 := Nat.not_lt_zero n
theorem xw6 (n : Int) : IntKind.i64.wrap n = (n + 9223372036854775808) % 18446744073709551616 - 9223372036854775808 := IntKind.wrap_i64 n
theorem xiN {a : Int} (h : 0 ≤ a) : ∃ n : Nat, a = n := Int.eq_ofNat_of_zero_le h
theorem xbA (a b : Bool) : ((a && b) = true) = (a = true ∧ b = true) := Bool.and_eq_true a b

def row (k:IntKind) (n:Nat) (f:Nat→Int):List Value:=(List.range n).map fun j=>.int k (f j)
theorem below_setAll {B:Nat} {w w':World} (h:Below B w w') (b:Nat) (hb:B≤b):∀ (o:Nat) (vs:List Value),Below B w (w'.setCells b o vs)
 | _,[]=>h
 | o,v::vs=>by
   rw [World.setCells]
   exact below_setAll (h.setCell (by simpa using hb) v) b hb (o+1) vs
section
section
variable {P:Program} {ops:Array Oper} {Q:Exit→Act→World→Prop} {md:Region.Mode} {S:World→Prop}
theorem callH {i:Nat} {oi:Oper} (dst:Option Tmp) (hdst:oi.dst=dst) {f:FuncId} {args:Array Value} {R:Ending→World→Prop} {fuel:Nat} {listed:Array Bool} {a:Act} {w:World} (hr:Region.ready md ops listed=[i]) (hi:ops[i]?=some oi)
 (hw:Region.wanted oi (yielded ops a.tmps)=true) (he:∀ w,(execOp a.eval oi).run P w=.ok (.enter f args) w) (hc:Calls P f args w R)
 (hK:∀ e w',R e w'→∃ v,e=.returned v∧S w'∧wpAnyH P md ops Q S fuel (listed.setIfInBounds i true) (a.put dst v) w'):wpAnyH P md ops Q S (fuel+1) listed a w :=
 ⟨fun h0=>(by rw [h0] at hr; cases hr),fun j hj=>by
  rw [hr] at hj
  obtain rfl:=xm1 hj
  unfold wpOp
  simp only [hi,hw,if_true]; refine .inl ?_
  unfold Oper.wp
  rw [he w]
  exact hc.mono fun e w' hR=>by
   obtain ⟨v,rfl,h⟩:=hK e w' hR
   subst hdst
   exact h⟩
/-! The same at a list of operations,whose order is the text's. -/
theorem pureL {o:Oper} {rest:List Oper} {a:Act} {w:World} (v:Value) (hw:Region.wanted o (yielded ops a.tmps)=true) (hv:∀ w,(execOp a.eval o).run P w=.ok (.value v) w)
 (h:wpList P ops Q rest (a.put o.dst v) w):wpList P ops Q (o::rest) a w:=by
 unfold wpList
 rw [if_pos hw]
 refine .inl ?_
 unfold Oper.wp
 rw [hv w]
 exact h
theorem callL {o:Oper} {f:FuncId} {args:Array Value} {R:Ending→World→Prop} {rest:List Oper} {a:Act} {w:World} (hw:Region.wanted o (yielded ops a.tmps)=true)
 (he:∀ w,(execOp a.eval o).run P w=.ok (.enter f args) w) (hc:Calls P f args w R) (hK:∀ e w',R e w'→∃ v,e=.returned v∧wpList P ops Q rest (a.put o.dst v) w'):wpList P ops Q (o::rest) a w:=by
 unfold wpList
 rw [if_pos hw]
 refine .inl ?_
 unfold Oper.wp
 rw [he w]
 exact hc.mono fun e w' hR=>by
  obtain ⟨v,rfl,h⟩:=hK e w' hR
  exact h
section
variable {P:Program} {ops:Array Oper} {Q:Exit→Act→World→Prop}
theorem xpL {o:Oper} {rest:List Oper} {a a':Act} {w:World} (v:Value) (h:wpList P ops Q rest a' w) (hw:Region.wanted o (yielded ops a.tmps)=true:=by rfl) (hv:∀ w,(execOp a.eval o).run P w=.ok (.value v) w:=by intro _; kernel_rfl) (he:a.put o.dst v=a':=by simp only [aP,lI,l0,lS] <;> rfl):wpList P ops Q (o::rest) a w:=by
 subst he
 exact pureL v hw hv h
theorem xqL {o:Oper} {rest:List Oper} {a a':Act} {w:World} (v:Value) (hv:∀ w,(execOp a.eval o).run P w=.ok (.value v) w) (h:wpList P ops Q rest a' w) (hw:Region.wanted o (yielded ops a.tmps)=true:=by rfl) (he:a.put o.dst v=a':=by simp only [aP,lI,l0,lS] <;> rfl):wpList P ops Q (o::rest) a w:=by
 subst he
 exact pureL v hw hv h
theorem xaL {o:Oper} {rest:List Oper} {a a':Act} {w w':World} (v:Value) (hv:(execOp a.eval o).run P w=.ok (.value v) w') (h:wpList P ops Q rest a' w') (hw:Region.wanted o (yielded ops a.tmps)=true:=by rfl) (he:a.put o.dst v=a':=by simp only [aP,lI,l0,lS] <;> rfl):wpList P ops Q (o::rest) a w:=by
 subst he
 unfold wpList
 rw [if_pos hw]
 refine .inl ?_
 unfold Oper.wp
 rw [hv]
 exact h
theorem xcL {o:Oper} {f:FuncId} {args:Array Value} {R:Ending→World→Prop} {rest:List Oper} {a:Act} {w:World} (hc:Calls P f args w R) (hK:∀ e w',R e w'→∃ v,e=.returned v∧wpList P ops Q rest (a.put o.dst v) w') (hw:Region.wanted o (yielded ops a.tmps)=true:=by rfl) (he:∀ w,(execOp a.eval o).run P w=.ok (.enter f args) w:=by intro _; kernel_rfl):wpList P ops Q (o::rest) a w:=callL hw he hc hK
theorem xeL {o:Oper} {rest:List Oper} {a a':Act} {w:World} {v:Value} (h:wpList P ops Q rest a' w) (he:a.put o.dst v=a':=by simp only [aP,lI,l0,lS] <;> rfl):∃ v',Ending.returned v=.returned v'∧wpList P ops Q rest (a.put o.dst v') w:=by
 subst he
 exact ⟨v,rfl,h⟩
end
end
/-! What stands through calls: blocks with rows of 32 bytes in them. -/
/-! Two rows of bytes,held against each other. -/
open Extern.Stop (cell)
end
section
section
variable {P:Program} {ops:Array Oper} {Q:Exit→Act→World→Prop} {md:Region.Mode} {S:World→Prop} {c:Nat}
def wpAnyC (P:Program) (md:Region.Mode) (ops:Array Oper) (Q:Exit→Act→World→Prop) (S:World→Prop) (c:Nat):Nat→Array Bool→Act→World→Prop
 | 0,l,a,w=>Region.ready md ops l=[]∧Q .normal a w
 | n+1,l,a,w=>(Region.ready md ops l=[]→Q .normal a w) ∧
   ∀ i∈Region.ready md ops l,wpOp P ops Q i (fun a' w'=>((l.setIfInBounds i true).getD c true=false→S w')∧wpAnyC P md ops Q S c n (l.setIfInBounds i true) a' w') a w
theorem wpAny_of_C:∀ (n:Nat) (l:Array Bool) (a:Act) (w:World),wpAnyC P md ops Q S c n l a w→wpAny P md ops Q n l a w
 | 0,_,_,_,h=>h
 | n+1,_,_,_,h=>⟨h.1,fun i hi=>wpOp_mono (fun a' w' h'=>wpAny_of_C n _ a' w' h'.2) (h.2 i hi)⟩
theorem listed_set {l:Array Bool} {i:Nat} (h:l.getD c true=true):(l.setIfInBounds i true).getD c true=true:=by
 by_cases e:i=c
 · subst e
   rw [Array.getD_eq_getD_getElem?]
   by_cases hb:i<l.size
   · rw [Array.getElem?_setIfInBounds_self_of_lt hb]; rfl
   · rw [Array.getElem?_eq_none (by simp; omega)]; rfl
 · rw [getD_set_ne true e]; exact h
theorem wpAnyC_rest:∀ (n:Nat) (l:Array Bool) (a:Act) (w:World),l.getD c true=true→wpAny P md ops Q n l a w→wpAnyC P md ops Q S c n l a w
 | 0,_,_,_,_,h=>h
 | n+1,_,_,_,hc,h=>⟨h.1,fun i hi=>wpOp_mono (fun a' w' h'=>⟨fun hf=>(by rw [listed_set hc] at hf; cases hf),wpAnyC_rest n _ a' w' (listed_set hc) h'⟩) (h.2 i hi)⟩
theorem not_both {l:Array Bool} {i:Nat} (h0:l.getD i true=false) (h1:l.getD i false=true):False:=by
 rw [Array.getD_eq_getD_getElem?] at h0 h1
 cases e:l[i]? with
 | none=>rw [e] at h0; cases h0
 | some b=>rw [e] at h0 h1; simp only [Option.getD_some] at h0 h1; rw [h0] at h1; cases h1
theorem wpAnyC_first {i:Nat} {oi oc:Oper} {v:Value} (hi:ops[i]?=some oi) (hc:ops[c]?=some oc) (hwait:∃ e∈oc.after,Region.binds md e=true∧e.on=i) (hsel:∀ (j:Nat) (o:Oper) cs b,ops[j]?=some o→o.op≠.select cs b)
 (hQ:∀ p a w,Q (.panic p) (a.put oi.dst v) w→Q (.panic p) a w):∀ (n:Nat) (l:Array Bool) (a:Act) (w:World),
  (∀ j oj,ops[j]?=some oj→j≠i→l.getD j true=false→(∀ e∈oj.after,Region.binds md e=true→e.on≠i)→oi.apart ops oj=true) →
  l.getD c true=false→i∈Region.ready md ops l→YieldsIf P ops S oi v a→S w →
  wpAnyC P md ops Q S c n (l.setIfInBounds i true) (a.put oi.dst v) w→wpAnyC P md ops Q S c (n+1) l a w:=by
 have waits:∀ (l:Array Bool) (j:Nat),i∈Region.ready md ops l→j∈Region.ready md ops l→j≠c:=fun l j hr hj e=>by
  subst e
  obtain ⟨_,o,ho,hall⟩:=mem_ready.1 hj
  obtain rfl:o=oc:=Option.some.inj (ho.symm.trans hc)
  obtain ⟨e,he,hb,rfl⟩:=hwait
  exact not_both (mem_ready.1 hr).1 (hall e he hb)
 intro n
 induction n with
 | zero =>
   intro l a w _ _ hr hy hS H
   refine ⟨fun h=>(by rw [h] at hr; cases hr),fun j hj=>?_⟩
   by_cases hji:j=i
   · subst hji; exact hy.wpOp hi hS ⟨fun _=>hS,H⟩
   · have:=ready_mono hj hji
     rw [H.1] at this
     cases this
 | succ n ih =>
   intro l a w hfree hlc hr hy hS H
   refine ⟨fun h=>(by rw [h] at hr; cases hr),fun j hj=>?_⟩
   by_cases hji:j=i
   · subst hji; exact hy.wpOp hi hS ⟨fun _=>hS,H⟩
   · have hjc:=waits l j hr hj
     have hic:=waits l i hr hr
     obtain ⟨hjun,oj,hoj,hall⟩:=mem_ready.1 hj
     have hnot:∀ e∈oj.after,Region.binds md e=true→e.on≠i:=fun e he hb heq=>not_both (mem_ready.1 hr).1 (by rw [← heq]; exact hall e he hb)
     have h2:=wpOp_putIf hoj (hfree j oj hoj hji hjun hnot) (fun cs b=>hsel i oi cs b hi) (fun cs b=>hsel j oj cs b hoj) hQ hy (H.2 j (ready_mono hj hji))
     have hfree':∀ k ok,ops[k]?=some ok→k≠i→(l.setIfInBounds j true).getD k true=false→(∀ e∈ok.after,Region.binds md e=true→e.on≠i)→oi.apart ops ok=true:=fun k ok hk hki hun hno=>by
      refine hfree k ok hk hki ?_ hno
      by_cases hjk:j=k
      · subst hjk; exact hjun
      · rw [getD_set_ne true hjk] at hun; exact hun
     refine wpOp_mono (fun a' w' h3=>?_) h2
     have hS':S w':=h3.2.1 (by rw [getD_set_ne true hjc,getD_set_ne true hic]; exact hlc)
     refine ⟨fun _=>hS',ih (l.setIfInBounds j true) a' w' hfree' (by rw [getD_set_ne true hjc]; exact hlc) (ready_mono hr (Ne.symm hji)) h3.1 hS' ?_⟩
     rw [Array.setIfInBounds_comm _ _ hji]
     exact h3.2.2
theorem wpAnyC_take {i:Nat} {oi oc:Oper} {v:Value} {n:Nat} {l:Array Bool} {a:Act} {w:World} (hi:ops[i]?=some oi) (hc:ops[c]?=some oc) (hwait:(oc.after.any fun e=>Region.binds md e&&e.on == i)=true)
 (hs:Region.noSelect ops=true) (hf:Region.free md ops l i=true) (hl:l.getD c true=false) (hr:(Region.ready md ops l).contains i=true)
 (hQ:∀ p a w,Q (.panic p) (a.put oi.dst v) w→Q (.panic p) a w) (hy:YieldsIf P ops S oi v a) (hS:S w)
 (h:wpAnyC P md ops Q S c n (l.setIfInBounds i true) (a.put oi.dst v) w):wpAnyC P md ops Q S c (n+1) l a w:=by
 refine wpAnyC_first hi hc ?_ (Region.noSelect_spec hs) hQ n l a w (Region.free_spec hi hf) hl (by simpa using hr) hy hS h
 obtain ⟨e,he,hb⟩:=Array.any_eq_true'.1 hwait
 simp only [xbA,beq_iff_eq] at hb
 exact ⟨e,he,hb.1,hb.2⟩
theorem wpAnyC_pure {i:Nat} {oi:Oper} {v:Value} (hi:ops[i]?=some oi) (hic:i≠c) (hsel:∀ (j:Nat) (o:Oper) cs b,ops[j]?=some o→o.op≠.select cs b)
 (hQ:∀ p a w,Q (.panic p) (a.put oi.dst v) w→Q (.panic p) a w):∀ (n:Nat) (l:Array Bool) (a:Act) (w:World),
  (∀ j oj,ops[j]?=some oj→j≠i→l.getD j true=false→(∀ e∈oj.after,Region.binds md e=true→e.on≠i)→oi.apart ops oj=true) →
  i∈Region.ready md ops l→YieldsIf P ops (fun _=>True) oi v a→(l.getD c true=false→S w) →
  wpAnyC P md ops Q S c n (l.setIfInBounds i true) (a.put oi.dst v) w→wpAnyC P md ops Q S c (n+1) l a w:=by
 intro n
 induction n with
 | zero =>
   intro l a w _ hr hy hS H
   refine ⟨fun h=>(by rw [h] at hr; cases hr),fun j hj=>?_⟩
   by_cases hji:j=i
   · subst hji; exact hy.wpOp hi trivial ⟨fun h=>hS (by rw [getD_set_ne true hic] at h; exact h),H⟩
   · have:=ready_mono hj hji
     rw [H.1] at this
     cases this
 | succ n ih =>
   intro l a w hfree hr hy hS H
   refine ⟨fun h=>(by rw [h] at hr; cases hr),fun j hj=>?_⟩
   by_cases hji:j=i
   · subst hji; exact hy.wpOp hi trivial ⟨fun h=>hS (by rw [getD_set_ne true hic] at h; exact h),H⟩
   · obtain ⟨hjun,oj,hoj,hall⟩:=mem_ready.1 hj
     have hnot:∀ e∈oj.after,Region.binds md e=true→e.on≠i:=fun e he hb heq=>not_both (mem_ready.1 hr).1 (by rw [← heq]; exact hall e he hb)
     have h2:=wpOp_putIf hoj (hfree j oj hoj hji hjun hnot) (fun cs b=>hsel i oi cs b hi) (fun cs b=>hsel j oj cs b hoj) hQ hy (H.2 j (ready_mono hj hji))
     have hfree':∀ k ok,ops[k]?=some ok→k≠i→(l.setIfInBounds j true).getD k true=false→(∀ e∈ok.after,Region.binds md e=true→e.on≠i)→oi.apart ops ok=true:=fun k ok hk hki hun hno=>by
      refine hfree k ok hk hki ?_ hno
      by_cases hjk:j=k
      · subst hjk; exact hjun
      · rw [getD_set_ne true hjk] at hun; exact hun
     refine wpOp_mono (fun a' w' h3=>?_) h2
     have hS':(l.setIfInBounds j true).getD c true=false→S w':=fun hf=>h3.2.1 (by rw [Array.setIfInBounds_comm _ _ (Ne.symm hji),getD_set_ne true hic]; exact hf)
     refine ⟨hS',ih (l.setIfInBounds j true) a' w' hfree' (ready_mono hr (Ne.symm hji)) h3.1 hS' ?_⟩
     rw [Array.setIfInBounds_comm _ _ hji]
     exact h3.2.2
theorem wp_region_C (c:Nat) {id:Nat} {a:Act} {w:World} (hm:P.follows .mixedOrders=true) (hS:S w.drew)
 (h:S w.drew→wpAnyC P .any ops Q S c ops.size (Array.replicate ops.size false) a w.drew):(Code.region id ops true).wp P Q a w :=
 wp_region_any hm (wpAny_of_C _ _ _ _ (h hS))
end
section
variable {P:Program} {ops:Array Oper} {Q:Exit→Act→World→Prop} {md:Region.Mode} {S S2:World→Prop} {c:Nat}
theorem pureC {i:Nat} {oi:Oper} (dst:Option Tmp) (hdst:oi.dst=dst) {n:Nat} {l:Array Bool} {a:Act} {w:World} (v:Value) (hi:ops[i]?=some oi) (hic:i≠c) (hw:Region.wanted oi (yielded ops a.tmps)=true)
 (hv:∀ w,(execOp a.eval oi).run P w=.ok (.value v) w)
 (hs:Region.noSelect ops=true) (hf:Region.free md ops l i=true) (hr:(Region.ready md ops l).contains i=true)
 (hQ:∀ p a w,Q (.panic p) (a.put dst v) w→Q (.panic p) a w) (hS:S w)
 (h:wpAnyC P md ops Q S c n (l.setIfInBounds i true) (a.put dst v) w):wpAnyC P md ops Q S c (n+1) l a w:=by
 subst hdst
 exact wpAnyC_pure hi hic (Region.noSelect_spec hs) hQ n l a w (Region.free_spec hi hf) (by simpa using hr) (.inl ⟨hw,fun w _=>hv w⟩) (fun _=>hS) h
section
variable {P:Program} {ops:Array Oper} {Q:Exit→Act→World→Prop} {md:Region.Mode} {S:World→Prop} {c:Nat}
theorem xpC {oi:Oper} {n:Nat} {l:Array Bool} {a a':Act} {w:World} (i:Nat) (d:Tmp) (v:Value) (hS:S w) (h:wpAnyC P md ops Q S c n (l.setIfInBounds i true) a' w)
 (hi:ops[i]?=some oi:=by rfl) (hdst:oi.dst=some d:=by rfl) (hic:i≠c:=by decide) (hw:Region.wanted oi (yielded ops a.tmps)=true:=by rfl) (hv:∀ w,(execOp a.eval oi).run P w=.ok (.value v) w:=by intro _; kernel_rfl) (hg:(Region.noSelect ops&&(Region.free md ops l i&&(Region.ready md ops l).contains i))=true:=by kernel_rfl) (hQ:∀ c a w,Q (.panic c) (a.put (some d) v) w→Q (.panic c) a w:=by exact fun _ _ _ h=>h) (he:a.put (some d) v=a':=by simp only [aP,lI,l0,lS] <;> rfl):wpAnyC P md ops Q S c (n+1) l a w:=by
 subst he
 rw [xbA,xbA] at hg
 exact pureC (some d) hdst v hi hic hw hv hg.1 hg.2.1 hg.2.2 hQ hS h
theorem xqC {oi:Oper} {n:Nat} {l:Array Bool} {a a':Act} {w:World} (i:Nat) (d:Tmp) (hi:ops[i]?=some oi) (v:Value) (hv:∀ w,(execOp a.eval oi).run P w=.ok (.value v) w) (hS:S w) (h:wpAnyC P md ops Q S c n (l.setIfInBounds i true) a' w)
 (hdst:oi.dst=some d:=by rfl) (hic:i≠c:=by decide) (hw:Region.wanted oi (yielded ops a.tmps)=true:=by rfl) (hg:(Region.noSelect ops&&(Region.free md ops l i&&(Region.ready md ops l).contains i))=true:=by kernel_rfl) (hQ:∀ c a w,Q (.panic c) (a.put (some d) v) w→Q (.panic c) a w:=by exact fun _ _ _ h=>h) (he:a.put (some d) v=a':=by simp only [aP,lI,l0,lS] <;> rfl):wpAnyC P md ops Q S c (n+1) l a w:=by
 subst he
 rw [xbA,xbA] at hg
 exact pureC (some d) hdst v hi hic hw hv hg.1 hg.2.1 hg.2.2 hQ hS h
end
theorem callMC {i:Nat} {oi:Oper} (dst:Option Tmp) (hdst:oi.dst=dst) {f:FuncId} {args:Array Value} {R:Ending→World→Prop} {n:Nat} {l:Array Bool} {a:Act} {w:World} (hr:Region.ready md ops l=[i]) (hi:ops[i]?=some oi)
 (hw:Region.wanted oi (yielded ops a.tmps)=true) (he:∀ w,(execOp a.eval oi).run P w=.ok (.enter f args) w) (hC:Calls P f args w R)
 (hK:∀ e w',R e w'→∃ v,e=.returned v∧S w'∧wpAnyC P md ops Q S c n (l.setIfInBounds i true) (a.put dst v) w'):wpAnyC P md ops Q S c (n+1) l a w :=
 ⟨fun h0=>(by rw [h0] at hr; cases hr),fun j hj=>by
  rw [hr] at hj
  obtain rfl:=xm1 hj
  unfold wpOp
  simp only [hi,hw,if_true]; refine .inl ?_
  unfold Oper.wp
  rw [he w]
  exact hC.mono fun e w' hR=>by
   obtain ⟨v,rfl,hS,h⟩:=hK e w' hR
   subst hdst
   exact ⟨fun _=>hS,h⟩⟩
end
end
section
section
variable {P:Program} {ops:Array Oper} {Q:Exit→Act→World→Prop} {md:Region.Mode} {S:World→Prop}
theorem actL {o:Oper} {rest:List Oper} {a:Act} {w w':World} (v:Value) (hw:Region.wanted o (yielded ops a.tmps)=true) (he:(execOp a.eval o).run P w=.ok (.value v) w')
 (h:wpList P ops Q rest (a.put o.dst v) w'):wpList P ops Q (o::rest) a w:=by
 unfold wpList
 rw [if_pos hw]
 refine .inl ?_
 unfold Oper.wp
 rw [he]
 exact h
end
end
def zs (s:ByteArray):Nat→Int:=fun j=>((s.data.toList.getD j 0).toNat:Int)
def over (f:Nat→Int) (o m:Nat) (g:Nat→Int):Nat→Int:=fun j=>if o≤j∧j<o+m then g (j-o) else f j
def bl (l:List Int):Nat→Int:=fun j=>l.getD j 0
theorem eqlI {P:Program} {o:Oper} {a:Act} (k:IntKind) (n n':Int) (t t':TypeId) (x y:Operand) (ho:o.op=.binOp .eql t x y t') (hx:a.eval x=.int k n) (hy:a.eval y=.int k n') (r:Bool) (hr:(n == n')=r) (w:World) :
 (execOp a.eval o).run P w=.ok (.value (.bool r)) w:=by
 unfold execOp
 simp only [ho,hx,hy,Sem.run_bind,eqGuard_at_int,binOp_eql,Sem.run_pure,Result.andThen_ok,hr]
theorem leqI {P:Program} {o:Oper} {a:Act} (k:IntKind) (n n':Int) (t t':TypeId) (x y:Operand) (ho:o.op=.binOp .leq t x y t') (hx:a.eval x=.int k n) (hy:a.eval y=.int k n') (r:Bool) (hr:decide (n≤n')=r) (w:World) :
 (execOp a.eval o).run P w=.ok (.value (.bool r)) w:=by
 unfold execOp
 simp only [ho,hx,hy,Sem.run_bind,eqGuard_at_int,binOp_leq,Sem.run_pure,Result.andThen_ok,hr]
section
section
variable {P:Program} {o:Oper} {a:Act}
theorem addI (k:IntKind) (n n' r:Int) (t t':TypeId) (x y:Operand) (ho:o.op=.binOp .add t x y t') (hx:a.eval x=.int k n) (hy:a.eval y=.int k n') (hr:k.wrap (n+n')=r) (w:World):(execOp a.eval o).run P w=.ok (.value (.int k r)) w:=by
 unfold execOp
 simp only [ho,hx,hy,Sem.run_bind,eqGuard_at_int,binOp_add,Op.intArith,Sem.run_pure,Result.andThen_ok,hr]
theorem subI (k:IntKind) (n n' r:Int) (t t':TypeId) (x y:Operand) (ho:o.op=.binOp .sub t x y t') (hx:a.eval x=.int k n) (hy:a.eval y=.int k n') (hr:k.wrap (n-n')=r) (w:World):(execOp a.eval o).run P w=.ok (.value (.int k r)) w:=by
 unfold execOp
 simp only [ho,hx,hy,Sem.run_bind,eqGuard_at_int,binOp_sub,Op.intArith,Sem.run_pure,Result.andThen_ok,hr]
theorem remI (k:IntKind) (n n' r:Int) (t t':TypeId) (x y:Operand) (ho:o.op=.binOp .rem t x y t') (hx:a.eval x=.int k n) (hy:a.eval y=.int k n') (h0:n'≠0) (hr:n.tmod n'=r) (w:World):(execOp a.eval o).run P w=.ok (.value (.int k r)) w:=by
 unfold execOp
 simp only [ho,hx,hy,Sem.run_bind,eqGuard_at_int,binOp_rem,Op.intDiv,if_neg h0,Sem.run_pure,Result.andThen_ok,hr]
theorem quoI (k:IntKind) (n n' r:Int) (t t':TypeId) (x y:Operand) (ho:o.op=.binOp .quo t x y t') (hx:a.eval x=.int k n) (hy:a.eval y=.int k n') (h0:n'≠0) (hr:k.wrap (n.tdiv n')=r) (w:World):(execOp a.eval o).run P w=.ok (.value (.int k r)) w:=by
 unfold execOp
 simp only [ho,hx,hy,Sem.run_bind,eqGuard_at_int,binOp_quo,Op.intDiv,if_neg h0,Sem.run_pure,Result.andThen_ok,hr]
theorem convI (k k':IntKind) (n r:Int) (t t':TypeId) (x:Operand) (ho:o.op=.convert t t' x) (ht:(P.underlying t).isSome=true) (ht':P.underlying t'=some (.int k')) (hk:P.intKind t'=k') (hx:a.eval x=.int k n) (hr:k'.wrap n=r) (w:World):(execOp a.eval o).run P w=.ok (.value (.int k' r)) w:=by
 subst hk
 unfold execOp
 simp only [ho,hx,Sem.run_bind,run_convert_int w t t' k n ht ht',Sem.run_pure,Result.andThen_ok,hr]
theorem lssI (k:IntKind) (n n':Int) (t t':TypeId) (x y:Operand) (ho:o.op=.binOp .lss t x y t') (hx:a.eval x=.int k n) (hy:a.eval y=.int k n') (r:Bool) (hr:decide (n<n')=r) (w:World):(execOp a.eval o).run P w=.ok (.value (.bool r)) w:=by
 unfold execOp
 simp only [ho,hx,hy,Sem.run_bind,eqGuard_at_int,binOp_lss,Sem.run_pure,Result.andThen_ok,hr]
theorem neqI (k:IntKind) (n n':Int) (t t':TypeId) (x y:Operand) (ho:o.op=.binOp .neq t x y t') (hx:a.eval x=.int k n) (hy:a.eval y=.int k n') (r:Bool) (hr:(n != n')=r) (w:World):(execOp a.eval o).run P w=.ok (.value (.bool r)) w:=by
 unfold execOp
 simp only [ho,hx,hy,Sem.run_bind,eqGuard_at_int,binOp_neq,Sem.run_pure,Result.andThen_ok,hr]
theorem lenS (x:Operand) (t e:TypeId) (sp:Option Addr) (n c:Nat) (ho:o.op=.call { callee:=.builtin .len,args:=#[x],argTypes:=#[t] }) (ht:P.underlying t=some (.slice e)) (hx:a.eval x=.slice sp n c) (w:World):(execOp a.eval o).run P w=.ok (.value (.int .i64 (n:Int))) w:=by
 simp [execOp,ho,resolve,invoke,builtin,hx,Builtin.len_,run_underlying ht,goInt]
theorem minI (k k':IntKind) (n n' r:Int) (x y:Operand) (t t':TypeId) (ho:o.op=.call { callee:=.builtin .min,args:=#[x,y],argTypes:=#[t,t'] }) (hx:a.eval x=.int k n) (hy:a.eval y=.int k' n') (hr:(if n'<n then n' else n)=r) (w:World):(execOp a.eval o).run P w=.ok (.value (.int k r)) w:=by
 simp [execOp,ho,resolve,invoke,builtin,hx,hy,run_min_int2,hr]
theorem cutOp {w:World} (t:TypeId) (x y:Operand) (p q v:Value) (ho:o.op=.slice t x (some y) none none) (hx:a.eval x=p) (hy:a.eval y=q) (hr:(Instr.sliceAt t p (some q) none none).run P w=.ok v w) :
 (execOp a.eval o).run P w=.ok (.value v) w:=by
 unfold execOp
 simp only [ho,hx,hy,Option.map_some,Option.map_none,Sem.run_bind,hr,Result.andThen_ok,Sem.run_pure]
theorem cutHi {w:World} (t:TypeId) (x y:Operand) (p q v:Value) (ho:o.op=.slice t x none (some y) none) (hx:a.eval x=p) (hy:a.eval y=q) (hr:(Instr.sliceAt t p none (some q) none).run P w=.ok v w) :
 (execOp a.eval o).run P w=.ok (.value v) w:=by
 unfold execOp
 simp only [ho,hx,hy,Option.map_some,Option.map_none,Sem.run_bind,hr,Result.andThen_ok,Sem.run_pure]
end
section
variable {P:Program} {ops:Array Oper} {Q:Exit→Act→World→Prop} {md:Region.Mode} {S:World→Prop}
theorem readH {i:Nat} {oi:Oper} (dst:Option Tmp) (hdst:oi.dst=dst) {fuel:Nat} {listed:Array Bool} {a:Act} {w:World} (v:Value) (hi:ops[i]?=some oi) (hw:Region.wanted oi (yielded ops a.tmps)=true)
 (hv:∀ w,S w→(execOp a.eval oi).run P w=.ok (.value v) w)
 (hs:Region.noSelect ops=true) (hf:Region.free md ops listed i=true) (hr:(Region.ready md ops listed).contains i=true)
 (hQ:∀ c a w,Q (.panic c) (a.put dst v) w→Q (.panic c) a w) (hS:S w)
 (h:wpAnyH P md ops Q S fuel (listed.setIfInBounds i true) (a.put dst v) w):wpAnyH P md ops Q S (fuel+1) listed a w:=by
 subst hdst
 exact wpAnyH_take hi hs hf hr hQ (Or.inl ⟨hw,hv⟩) hS h
section
variable {P:Program} {ops:Array Oper} {Q:Exit→Act→World→Prop} {md:Region.Mode} {S:World→Prop}
theorem xrH {oi:Oper} {n:Nat} {l:Array Bool} {a a':Act} {w:World} (i:Nat) (d:Tmp) (hi:ops[i]?=some oi) (v:Value) (hv:∀ w,S w→(execOp a.eval oi).run P w=.ok (.value v) w) (hS:S w) (h:wpAnyH P md ops Q S n (l.setIfInBounds i true) a' w)
 (hdst:oi.dst=some d:=by rfl) (hw:Region.wanted oi (yielded ops a.tmps)=true:=by rfl) (hg:(Region.noSelect ops&&(Region.free md ops l i&&(Region.ready md ops l).contains i))=true:=by kernel_rfl) (hQ:∀ c a w,Q (.panic c) (a.put (some d) v) w→Q (.panic c) a w:=by exact fun _ _ _ h=>h) (he:a.put (some d) v=a':=by simp only [aP,lI,l0,lS] <;> rfl):wpAnyH P md ops Q S (n+1) l a w:=by
 subst he
 rw [xbA,xbA] at hg
 exact readH (some d) hdst v hi hw hv hg.1 hg.2.1 hg.2.2 hQ hS h
end
theorem readL {o:Oper} {rest:List Oper} {a:Act} {w:World} (v:Value) (hw:Region.wanted o (yielded ops a.tmps)=true) (hv:(execOp a.eval o).run P w=.ok (.value v) w)
 (h:wpList P ops Q rest (a.put o.dst v) w):wpList P ops Q (o::rest) a w:=by
 unfold wpList
 rw [if_pos hw]
 refine .inl ?_
 unfold Oper.wp
 rw [hv]
 exact h
end
end
section
section
variable {P:Program}
structure One (P:Program) (e:TypeId) (k:IntKind) (bytes:Nat):Prop where
 info:(P.info? e).map (fun i=>(i.zero,i.bytes,i.size))=some (some (.int k 0),bytes,1)
theorem appendOp {o:Oper} {a:Act} {w w':World} (s x:Operand) (t:TypeId) (v u r:Value) (ho:o.op=.call { callee:=.builtin .append,args:=#[s,x],argTypes:=#[t,t] }) (hs:a.eval s=v) (hx:a.eval x=u) (hr:(Builtin.append_ #[t,t] o.type #[v,u]).run P w=.ok r w') :
 (execOp a.eval o).run P w=.ok (.value r) w':=by
 unfold execOp
 simp only [ho,resolve,invoke,builtin,Sem.run_bind,Sem.run_pure,Result.andThen_ok,List.map_toArray,List.map_cons,List.map_nil,hs,hx,hr]
end
end
theorem eqlB {P:Program} {o:Oper} {a:Act} (p q:Bool) (t t':TypeId) (x y:Operand) (ho:o.op=.binOp .eql t x y t') (hx:a.eval x=.bool p) (hy:a.eval y=.bool q) (ht:P.underlying t=some .bool) (r:Bool) (hr:(p == q)=r) (w:World) :
 (execOp a.eval o).run P w=.ok (.value (.bool r)) w:=by
 unfold execOp
 simp only [ho,hx,hy,Sem.run_bind,eqGuard_at_bool,run_eql_bool w t p q ht,Sem.run_pure,Result.andThen_ok,hr]
section
section
variable {P:Program} {ops:Array Oper} {Q:Exit→Act→World→Prop} {md:Region.Mode} {S:World→Prop}
theorem skipL {o:Oper} {rest:List Oper} {a:Act} {w:World} (hw:Region.wanted o (yielded ops a.tmps)=false) (h:wpList P ops Q rest (a.put o.dst undef) w):wpList P ops Q (o::rest) a w:=by
 unfold wpList
 rw [if_neg (by rw [hw]; decide)]
 exact h
end
end
section
section
variable {P:Program} {o:Oper} {a:Act}
theorem negI (k:IntKind) (n r:Int) (t:TypeId) (x:Operand) (ho:o.op=.unOp .neg t x) (hx:a.eval x=.int k n) (hr:k.wrap (0-n)=r) (w:World):(execOp a.eval o).run P w=.ok (.value (.int k r)) w:=by
 unfold execOp
 simp only [ho,hx,Op.unary,Op.intArith,Sem.run_bind,Sem.run_pure,Result.andThen_ok,hr]
end
end
section
section
variable {P:Program} {o:Oper} {a:Act}
theorem gtrI (k:IntKind) (n n':Int) (t t':TypeId) (x y:Operand) (ho:o.op=.binOp .gtr t x y t') (hx:a.eval x=.int k n) (hy:a.eval y=.int k n') (r:Bool) (hr:decide (n>n')=r) (w:World):(execOp a.eval o).run P w=.ok (.value (.bool r)) w:=by
 unfold execOp
 simp only [ho,hx,hy,Sem.run_bind,eqGuard_at_int,binOp_gtr,Sem.run_pure,Result.andThen_ok,hr]
theorem geqI (k:IntKind) (n n':Int) (t t':TypeId) (x y:Operand) (ho:o.op=.binOp .geq t x y t') (hx:a.eval x=.int k n) (hy:a.eval y=.int k n') (r:Bool) (hr:decide (n≥n')=r) (w:World):(execOp a.eval o).run P w=.ok (.value (.bool r)) w:=by
 unfold execOp
 simp only [ho,hx,hy,Sem.run_bind,eqGuard_at_int,binOp_geq,Sem.run_pure,Result.andThen_ok,hr]
end
end
section
section
variable {P:Program} {ops:Array Oper} {Q:Exit→Act→World→Prop} {md:Region.Mode} {S:World→Prop}
theorem mayH {i:Nat} {oi:Oper} (dst:Option Tmp) (hdst:oi.dst=dst) {fuel:Nat} {listed:Array Bool} {a:Act} {w:World} (c:Bool) (v x:Value) (hi:ops[i]?=some oi) (hc:Region.wanted oi (yielded ops a.tmps)=c) (hx:x=(bif c then v else undef))
 (hv:c=true→∀ w,S w→(execOp a.eval oi).run P w=.ok (.value v) w)
 (hs:Region.noSelect ops=true) (hf:Region.free md ops listed i=true) (hr:(Region.ready md ops listed).contains i=true)
 (hQ:∀ c a w,Q (.panic c) (a.put dst x) w→Q (.panic c) a w) (hS:S w)
 (h:wpAnyH P md ops Q S fuel (listed.setIfInBounds i true) (a.put dst x) w):wpAnyH P md ops Q S (fuel+1) listed a w:=by
 subst hdst
 refine wpAnyH_take hi hs hf hr hQ ?_ hS h
 subst hx
 cases c with
 | true=>exact .inl ⟨hc,hv rfl⟩
 | false=>exact .inr ⟨hc,rfl⟩
theorem storeAny {o:Oper} {a:Act} {w:World} (v:Value) (b j:Nat) (ty:TypeId) (x y:Operand) (ho:o.op=.store ty x y) (hx:a.eval x=.pointer (some ⟨b,j,none⟩)) (hy:a.eval y=v) (hv:v.cells=#[v]) (h1:v.oneCell'=true)
 (hc:(w.cell? ⟨b,j,none⟩).isSome=true) (hf:w.frozen? ⟨b,j,none⟩=false) (hz:(P.info? ty).map (·.size)=some 1):(execOp a.eval o).run P w=.ok .skip (w.setCell ⟨b,j,none⟩ v):=by
 have h0:∀ k:Nat,k < [v].length→k=0:=fun k hk=>by simpa using hk
 have hst:=run_storeCells_cells (P:=P) b j [v] 0 w (fun k hk=>by rw [h0 k hk]; simpa using hc) (fun k hk=>by rw [h0 k hk]; simpa using hf) (fun u hu=>by simp at hu; subst hu; exact h1)
 cases hq:P.info? ty with
 | none=>simp [hq] at hz
 | some i =>
   have hs:i.size=1:=by simp [hq] at hz; omega
   simp only [Nat.add_zero] at hst
   have e:(storeVar ty ⟨b,j,none⟩ v).run P w=.ok () (w.setCell ⟨b,j,none⟩ v):=by
    simp [storeVar,sizeOf,typeInfo,hq,hv,hs,hst,World.setCells]
   unfold execOp
   simp only [ho,hx,hy,Instr.storeAt,Instr.sureAddr,Sem.run_bind,Sem.run_pure,Result.andThen_ok,e]
theorem skipOpL {o:Oper} {rest:List Oper} {a:Act} {w w':World} (hw:Region.wanted o (yielded ops a.tmps)=true) (he:(execOp a.eval o).run P w=.ok .skip w') (h:wpList P ops Q rest (a.put o.dst undef) w'):wpList P ops Q (o::rest) a w:=by
 unfold wpList
 rw [if_pos hw]
 refine .inl ?_
 unfold Oper.wp
 rw [he]
 exact h
theorem load1 {o:Oper} {a:Act} {w:World} (ty:TypeId) (x:Operand) (p:Addr) (v:Value) (ho:o.op=.load ty x) (hx:a.eval x=.pointer (some p)) (hagg:∀ w,(isAgg ty).run P w=.ok false w) (hc:w.cell? p=some v):(execOp a.eval o).run P w=.ok (.value v) w:=by
 have e:(loadVar ty p).run P w=.ok v w:=by simp [loadVar,Sem.run_bind,hagg,hc]
 unfold execOp
 simp only [ho,hx,Instr.loadAt,Instr.sureAddr,Sem.run_bind,Sem.run_pure,Result.andThen_ok,e]
theorem loadN {o:Oper} {a:Act} {w:World} (ty:TypeId) (x:Operand) (p:Addr) (cs:List Value) (ho:o.op=.load ty x) (hx:a.eval x=.pointer (some p)) (hagg:∀ w,(isAgg ty).run P w=.ok true w) (hz:∀ w,(sizeOf ty).run P w=.ok cs.length w)
 (hc:∀ j v,cs[j]?=some v→w.cell? (p.add j)=some v):(execOp a.eval o).run P w=.ok (.value (.agg cs.toArray)) w:=by
 have e:(loadVar ty p).run P w=.ok (.agg cs.toArray) w:=by simp [loadVar,Sem.run_bind,hagg,hz,run_loadCells_list w p cs hc]
 unfold execOp
 simp only [ho,hx,Instr.loadAt,Instr.sureAddr,Sem.run_bind,Sem.run_pure,Result.andThen_ok,e]
end
structure Mm (w0:World) (l:List (Nat × List Value)) (w:World):Prop where
 rows:∀ p∈l,(∀ j,j<p.2.length→w.cell? ⟨p.1,j,none⟩=p.2[j]?∧w.frozen? ⟨p.1,j,none⟩=false)∧w0.heap.size≤p.1∧p.1<w.heap.size
 apart:l.Pairwise fun p q=>p.1≠q.1
 below:Below w0.heap.size w0 w
section
variable {w0 w w':World} {l:List (Nat × List Value)}
theorem Mm.init (w:World):Mm w [] w:=⟨fun _ h=>(by cases h),List.Pairwise.nil,Below.refl _ _⟩
theorem Mm.call (h:Mm w0 l w) (b:Below w.heap.size w w'):Mm w0 l w' :=
 ⟨fun p hp=>⟨fun j hj=>by
  have hlt:=(h.rows p hp).2.2
  rw [b.cell (p:=⟨p.1,j,none⟩) hlt,b.frozen (p:=⟨p.1,j,none⟩) hlt]
  exact (h.rows p hp).1 j hj,(h.rows p hp).2.1,xnL (h.rows p hp).2.2 b.size⟩,h.apart,h.below.trans (b.mono h.below.size)⟩
theorem Mm.drew (h:Mm w0 l w):Mm w0 l w.drew:=h.call (Below.refl _ _).drew
theorem Mm.sub (h:Mm w0 l w) (l':List (Nat × List Value)) (hl:l'.Sublist l):Mm w0 l' w:=⟨fun p hp=>h.rows p (hl.subset hp),h.apart.sublist hl,h.below⟩
theorem Mm.tail {p:Nat × List Value} (h:Mm w0 (p::l) w):Mm w0 l w:=h.sub l (List.sublist_cons_self p l)
theorem Mm.box (h:Mm w0 l w) (c:Array Value) (t:TypeId) (b:Nat) (hb:b=w.heap.size):Mm w0 ((b,c.toList)::l) (w.alloc (.cells c t)):=by
 subst hb; have hc:=h.call ((Below.refl w.heap.size w).alloc (xnR _) (.cells c t))
 refine ⟨fun p hp=>?_,List.pairwise_cons.2 ⟨fun q hq e=>?_,h.apart⟩,hc.below⟩
 · rcases xc1 hp with rfl | hp
   · refine ⟨fun j hj=>⟨?_,World.frozen?_alloc_at _ _ _ _ rfl⟩,h.below.size,by simp⟩
     rw [World.cell?_alloc_at _ _ _ _ rfl]
     simp
   · exact hc.rows p hp
 · have:=(h.rows q hq).2.2
   simp only at e
   omega
theorem Mm.get (h:Mm w0 l w) {b:Nat} {cs:List Value} (hp:(b,cs)∈l) (j:Nat) (v:Value) (hv:cs[j]?=some v):w.cell? ⟨b,j,none⟩=some v:=by
 have hj:j<cs.length:=by
  rcases Nat.lt_or_ge j cs.length with h' | h'
  · exact h'
  · rw [List.getElem?_eq_none h'] at hv; cases hv
 rw [((h.rows _ hp).1 j hj).1,hv]
theorem Mm.isSome (h:Mm w0 l w) {b:Nat} {cs:List Value} (hp:(b,cs)∈l) (j:Nat) (hj:j<cs.length):(w.cell? ⟨b,j,none⟩).isSome=true:=by
 rw [((h.rows _ hp).1 j hj).1,List.getElem?_eq_getElem hj]
 rfl
theorem Mm.free (h:Mm w0 l w) {b:Nat} {cs:List Value} (hp:(b,cs)∈l) (j:Nat) (hj:j<cs.length):w.frozen? ⟨b,j,none⟩=false:=((h.rows _ hp).1 j hj).2
theorem Mm.rangeAt (h:Mm w0 l w) {b:Nat} {cs:List Value} (hp:(b,cs)∈l):∀ j v,cs[j]?=some v→w.cell? ((⟨b,0,none⟩:Addr).add j)=some v:=fun j v hv=>by
 rw [Addr.add_mid,Nat.zero_add]
 exact h.get hp j v hv
theorem size_setCell (w:World) (p:Addr) (v:Value):(w.setCell p v).heap.size=w.heap.size:=by simp
theorem Mm.set {b:Nat} {cs:List Value} (h:Mm w0 ((b,cs)::l) w) (j:Nat) (hj:j<cs.length) (v:Value):Mm w0 ((b,cs.set j v)::l) (w.setCell ⟨b,j,none⟩ v):=by
 have hb:=h.rows _ mS; have hne:=(List.pairwise_cons.1 h.apart).1
 refine ⟨fun p hp=>?_,List.pairwise_cons.2 ⟨hne,(List.pairwise_cons.1 h.apart).2⟩,below_setAll h.below b hb.2.1 j [v]⟩
 rcases xc1 hp with rfl | hp
 · refine ⟨fun i hi=>⟨?_,by rw [World.frozen?_setCell]; exact (hb.1 i (by simpa using hi)).2⟩,hb.2.1,by rw [size_setCell]; exact hb.2.2⟩
   simp only [List.length_set] at hi
   by_cases e:i=j
   · subst e
     rw [World.cell?_setCell_same' _ _ _ (h.isSome mS i hj),List.getElem?_set_self hj]
   · have e2:=World.cell?_setCell_other (w:=w) (v:=v) (a:=⟨b,j,none⟩) (b:=⟨b,i,none⟩) (by intro e'; injection e' with _ e'; exact e e'.symm)
     simp only
     rw [e2,List.getElem?_set_ne (Ne.symm e)]
     exact (hb.1 i hi).1
 · have h2:=h.rows p (mT _ hp)
   refine ⟨fun i hi=>⟨?_,by rw [World.frozen?_setCell]; exact (h2.1 i hi).2⟩,h2.2.1,by rw [size_setCell]; exact h2.2.2⟩
   rw [World.cell?_setCell_far _ _ _ _ (hne p hp)]
   exact (h2.1 i hi).1
theorem Mm.swap {p q:Nat × List Value} (h:Mm w0 (p::q::l) w):Mm w0 (q::p::l) w:=by
 obtain ⟨h1,h2⟩:=List.pairwise_cons.1 h.apart
 obtain ⟨h3,h4⟩:=List.pairwise_cons.1 h2
 refine ⟨fun x hx=>h.rows x ?_,List.pairwise_cons.2 ⟨fun x hx=>?_,List.pairwise_cons.2 ⟨fun x hx=>h1 x (mT _ hx),h4⟩⟩,h.below⟩
 · rcases xc1 hx with rfl | hx
   · exact mT _ mS
   · rcases xc1 hx with rfl | hx
     · exact mS
     · exact mT _ (mT _ hx)
 · rcases xc1 hx with rfl | hx
   · exact (h1 q mS).symm
   · exact h3 x hx
theorem Mm.lt (h:Mm w0 l w) {b:Nat} {cs:List Value} (hp:(b,cs)∈l):b<w.heap.size:=(h.rows _ hp).2.2
theorem Mm.lo (h:Mm w0 l w) {b:Nat} {cs:List Value} (hp:(b,cs)∈l):w0.heap.size≤b:=(h.rows _ hp).2.1
end
end
section
def i64 (n:Int):Prop:=-9223372036854775808≤n∧n<9223372036854775808
structure Off (X:List Nat) (w w':World):Prop where
 size:w.heap.size≤w'.heap.size
 blk:∀ b,b<w.heap.size→b∉X→w'.heap[b]?=w.heap[b]?
section
variable {X Y:List Nat} {w w1 w2:World}
theorem Off.refl (X:List Nat) (w:World):Off X w w:=⟨xnR _,fun _ _ _=>rfl⟩
theorem Off.trans (h:Off X w w1) (g:Off X w1 w2):Off X w w2:=⟨xnT h.size g.size,fun b hb hX=>(g.blk b (xnL hb h.size) hX).trans (h.blk b hb hX)⟩
theorem Off.mono (h:Off X w w1) (hX:∀ b∈X,b∈Y):Off Y w w1:=⟨h.size,fun b hb hY=>h.blk b hb fun e=>hY (hX b e)⟩
theorem Off.of_below (l:Below w.heap.size w w1):Off X w w1:=⟨l.size,fun b hb _=>l.block b hb⟩
theorem Off.below (h:Off X w w1) (l:Below w1.heap.size w1 w2):Off X w w2:=h.trans (.of_below l)
theorem Off.set (h:Off X w w1) {b:Nat} (hb:b∈X) (j:Nat) (v:Value):Off X w (w1.setCell ⟨b,j,none⟩ v) :=
 h.trans ⟨by simp,fun c _ hX=>by
  have:c≠b:=fun e=>hX (e ▸ hb)
  simp [World.setCell,Array.getElem?_modify,Ne.symm this]⟩
theorem Off.grown (h:Off X w w1) {r:Option Nat} (g:w1.grownBy w2 r) (hr:∀ b,r=some b→b∈X∨w.heap.size≤b):Off X w w2 :=
 ⟨xnT h.size g.size,fun b hb hX=>by
  rw [g.block b (xnL hb h.size) (fun e=>by
   rcases hr b e.symm with h' | h'
   · exact hX h'
   · omega)]
  exact h.blk b hb hX⟩
theorem Off.cell (h:Off X w w1) {p:Addr} {v:Value} (hc:w.cell? p=some v) (hX:p.block∉X):w1.cell? p=some v:=by
 rw [World.cell?_of_block (h.blk p.block (World.block_lt_of_cell? w p hc) hX)]
 exact hc
end
theorem add_block (p:Addr) (j:Nat):(p.add j).block=p.block:=by unfold Addr.add; split <;> rfl
theorem ownsRow_off {X:List Nat} {w w':World} {base size n:Nat} {e:TypeId} {v:Value} {xs:List Value} (h:w.ownsRow base e size v n xs) (o:Off X w w') (hX:∀ b∈X,v.ownBlock≠some b):w'.ownsRow base e size v n xs:=by
 refine ⟨h.1,?_⟩
 rcases h.2 with h0 | ⟨g,cap,cur,hv,hb,hg,h5,h6,h7,h8⟩
 · exact .inl h0
 · refine .inr ⟨g,cap,cur,hv,hb,?_,h5,h6,h7,h8⟩
   have hlt:g<w.heap.size:=by
    rcases Nat.lt_or_ge g w.heap.size with h' | h'
    · exact h'
    · rw [Array.getElem?_eq_none h'] at hg; cases hg
   rw [o.blk g hlt (fun hm=>hX g hm (by rw [hv]; rfl))]
   exact hg
section
variable {P:Program}
structure Many (P:Program) (e:TypeId) (z:Value) (bytes size:Nat):Prop where
 info:(P.info? e).map (fun i=>(i.zero,i.bytes,i.size))=some (some z,bytes,size)
theorem run_append_OwnV {w:World} {base:Nat} {t ty e:TypeId} {z:Value} {bytes size n:Nat} {xs:List Value} {v:Value} (ht:P.underlying t=some (.slice e)) (he:Many P e z bytes size) (hzs:z.cells.size=size) (hs0:0<size) (h:w.ownsRow base e size v n xs)
 (ad:Addr) (m c:Nat) (news:List Value) (hl:news.length=m*size) (hnews:∀ j u,news[j]?=some u→w.cell? (ad.add j)=some u) (h1c:∀ u∈news,u.oneCell'=true) (h63:n+m≤maxLen) (hb:(n+m)*bytes≤140737488355328) (hbase:base≤w.heap.size) :
 ∃ v' w',(Builtin.append_ #[t,t] ty #[v,.slice (some ad) m c]).run P w=.ok v' w'∧w'.ownsRow base e size v' (n+m) (xs++news)∧w.grownBy w' v.ownBlock∧(∀ g,v'.ownBlock=some g→v.ownBlock=some g∨g=w.heap.size):=by
 obtain ⟨i,hi,hq⟩:=Option.map_eq_some_iff.1 he.info
 simp only [Prod.mk.injEq] at hq
 obtain ⟨h1,h2,h3⟩:=hq
 obtain ⟨v',w',hr,ho,hg,_⟩:=run_append_own (P:=P) w base t ty e i z size bytes ht hi h1 h3 h2 hzs hs0 v n _ h ad m c news hl hnews h1c h63 hb hbase
 refine ⟨v',w',hr,ho,hg,?_⟩
 have hml:news.length=m*i.size:=by rw [h3]; exact hl
 rcases h.2 with ⟨rfl,rfl⟩ | ⟨g,cap,cur,rfl,hbg,hgg,hnc,hcm,hcs,htake⟩
 · by_cases hm:m=0
   · subst hm
     have hr2:(Builtin.append_ #[t,t] ty #[.slice none 0 0,.slice (some ad) 0 c]).run P w=.ok (.slice none 0 0) w:=by
      simp [Builtin.append_,run_underlying ht,sizeOf,typeInfo,hi,Builtin.lenOf,Builtin.firstCells,loadCells,loadCellsFrom]
     rw [hr] at hr2
     injection hr2 with hv' _
     rw [hv']
     intro g hg'
     cases hg'
   · have hr2:=run_append_nil (P:=P) w t ty e i z ht hi h1 ad m c news hml hnews (by omega) (by unfold maxLen at h63; omega) (by rw [h2]; have:=hb; simp only [Nat.zero_add] at this; omega)
     rw [hr] at hr2
     injection hr2 with hv' _
     rw [hv']
     intro g hg'
     injection hg' with hg'
     exact .inr hg'.symm
 · by_cases hroom:n+m≤cap
   · have hr2:=run_append_room (P:=P) w t ty e i ht hi g n cap cur hgg ad m c news hml hnews h1c hroom (by rw [hml,hcs,h3]; exact (by rw [← Nat.add_mul]; exact Nat.mul_le_mul_right size hroom))
     rw [hr] at hr2
     injection hr2 with hv' _
     rw [hv']
     intro g' hg'
     exact .inl hg'
   · have hr2:=run_append_grow (P:=P) w t ty e i z ht hi h1 ⟨g,0,none⟩ n cap xs (by rw [h.1,h3]) (World.ownsRow.cells h (g:=g) rfl) ad m c news hml hnews (by omega) (by unfold maxLen at h63; omega) (by rw [h2]; exact growslice_fits (by omega) hb)
     rw [hr] at hr2
     injection hr2 with hv' _
     rw [hv']
     intro g' hg'
     injection hg' with hg'
     exact .inr hg'.symm
end
end
theorem Off.setAll {X:List Nat} {w w1:World} (h:Off X w w1) {b:Nat} (hb:b∈X):∀ (o:Nat) (vs:List Value),Off X w (w1.setCells b o vs)
 | _,[]=>h
 | o,v::vs=>(h.set hb o v).setAll hb (o+1) vs
section
theorem storeP {P:Program} {o:Oper} {a:Act} {w:World} (cs:List Value) (b off:Nat) (ty:TypeId) (x y:Operand) (ho:o.op=.store ty x y) (hx:a.eval x=.pointer (some ⟨b,off,none⟩)) (hy:a.eval y=.agg cs.toArray) (ht:w.there b off cs.toArray.size) (hz:(P.info? ty).map (·.size)=some cs.toArray.size) (h1:∀ u∈cs,u.oneCell'=true) :
 (execOp a.eval o).run P w=.ok .skip (w.setCells b off cs):=by
 unfold execOp
 simp only [ho,hx,hy]; have e:=run_storeAt_mid (P:=P) w b off ty cs.toArray ht hz (all_oneCell_toArray h1); simp only [Sem.run_bind,e,Result.andThen_ok,Sem.run_pure]
def setL (cs:List Value):Nat→List Value→List Value
 | _,[]=>cs
 | o,v::vs=>setL (cs.set o v) (o+1) vs
section
variable {w0 w:World} {l:List (Nat × List Value)} {b:Nat} {cs:List Value}
theorem Mm.thereP (h:Mm w0 l w) (hp:(b,cs)∈l) (o n:Nat) (hn:o+n≤cs.length):w.there b o n:=fun j hj=>⟨h.isSome hp (o+j) (by omega),h.free hp (o+j) (by omega)⟩
theorem Mm.setPartG:∀ (ds:List Value) (o:Nat) (cs:List Value) (w:World),o+ds.length≤cs.length→Mm w0 ((b,cs)::l) w→Mm w0 ((b,setL cs o ds)::l) (w.setCells b o ds)
 | [],_,_,_,_,h=>h
 | v::vs,o,cs,w,hl,h=>by
   rw [List.length_cons] at hl
   exact Mm.setPartG vs (o+1) (cs.set o v) _ (by rw [List.length_set]; omega) (h.set o (by omega) v)
theorem Mm.setPart (h:Mm w0 ((b,cs)::l) w) (ds:List Value) (o:Nat) (hl:o+ds.length≤cs.length):Mm w0 ((b,setL cs o ds)::l) (w.setCells b o ds):=Mm.setPartG ds o cs w hl h
theorem Mm.perm {l':List (Nat × List Value)} (h:Mm w0 l w) (hp:l.Perm l'):Mm w0 l' w :=
 ⟨fun p hq=>h.rows p (hp.mem_iff.2 hq),hp.pairwise h.apart (fun e=>Ne.symm e),h.below⟩
theorem Mm.rot3 {p q r:Nat × List Value} (h:Mm w0 (p::q::r::l) w):Mm w0 (r::p::q::l) w :=
 h.perm (((List.Perm.swap r q l).cons p).trans (List.Perm.swap r p (q::l)))
theorem Mm.rot4 {p q r s:Nat × List Value} (h:Mm w0 (p::q::r::s::l) w):Mm w0 (s::p::q::r::l) w :=
 h.perm ((((List.Perm.swap s r l).cons q).trans (List.Perm.swap s q (r::l))).cons p |>.trans (List.Perm.swap s p (q::r::l)))
end
def ob:Option Addr→List Nat
 | some a=>[a.block]
 | none=>[]
theorem ob_own (sp:Option Addr) (n c:Nat) (b:Nat):(Value.slice sp n c).ownBlock=some b↔b∈ob sp:=by
 cases sp with
 | none=>exact ⟨fun h=>(by cases h),fun h=>(by cases h)⟩
 | some a =>
   constructor
   · intro h; injection h with h; subst h; exact mS
   · intro h; obtain rfl:=xm1 h; rfl
theorem Off.and1 {X:List Nat} {w w1 w2:World} {b:Nat} (h:Off X w w1) (g:Off [b] w1 w2) (hb:b∈X∨w.heap.size≤b):Off X w w2 :=
 ⟨xnT h.size g.size,fun c hc hX=>(g.blk c (xnL hc h.size) (fun e=>by
  obtain rfl:=xm1 e
  rcases hb with h' | h'
  · exact hX h'
  · omega)).trans (h.blk c hc hX)⟩
end
theorem bl_take (b:List Int) (n j:Nat) (h:j<n):bl (b.take n) j=bl b j:=by
 unfold bl
 simp [h]
structure Rcd where
 c:Nat
 m:Nat
 cs:List (Int × Int)
structure Flg where
 win:Nat
 top:Option Nat
 rs:List Rcd
structure Sch where
 tu:Bool
 last:Int
 L:List (Nat × Flg)
def smom (n:Int):Nat:=(max 0 (min n 1099511627776)).toNat
theorem smom_le (n:Int):smom n≤1099511627776:=by unfold smom; omega
def sall (rs:List Rcd):List (Int × Int):=rs.flatMap fun r=>r.cs
theorem sall_app (a b:List Rcd):sall (a++b)=sall a++sall b:=List.flatMap_append
theorem sall_one (r:Rcd):sall [r]=r.cs:=by unfold sall; rw [List.flatMap_cons,List.flatMap_nil,List.append_nil]
def sfd:List (Nat × Flg)→Int→Option Flg
 | [],_=>none
 | q::L,id=>if ((q.1:Nat):Int)=id then some q.2 else sfd L id
def sput:List (Nat × Flg)→Int→Flg→List (Nat × Flg)
 | [],_,_=>[]
 | q::L,id,f=>if ((q.1:Nat):Int)=id then (q.1,f)::L else q::sput L id f
def sdel:List (Nat × Flg)→Int→List (Nat × Flg)
 | [],_=>[]
 | q::L,id=>if ((q.1:Nat):Int)=id then L else q::sdel L id
structure FlgW (f:Flg):Prop where
 w1:2≤f.win
 w2:f.win≤32
 rc:∀ r∈f.rs,r.c≤281474976710655∧r.m≤1099511627776∧∀ p∈r.cs,i64 p.1∧i64 p.2
 up:f.rs.Pairwise fun a b=>a.c<b.c
 tp:∀ r∈f.rs,∃ t,f.top=some t∧r.c≤t
 t1:∀ t,f.top=some t→t≤281474976710655
structure SchW (s:Sch):Prop where
 d:(s.L.map Prod.fst).Nodup
 f:∀ q∈s.L,FlgW q.2
 i:∀ q∈s.L,q.1<9223372036854775808
 l1:-1≤s.last
 l2:s.last<9223372036854775808
def fsz (f:Flg):Nat:=f.rs.length+(sall f.rs).length
def ssz (s:Sch):Nat:=s.L.length+(s.L.map fun q=>fsz q.2).sum
theorem sfd_mem:∀ {L:List (Nat × Flg)} {id:Int} {f:Flg},sfd L id=some f→∃ k:Nat,id=(k:Int)∧(k,f)∈L
 | [],_,_,h=>by cases h
 | q::L,id,f,h=>by
   unfold sfd at h
   by_cases c:((q.1:Nat):Int)=id
   · rw [if_pos c] at h
     exact ⟨q.1,c.symm,by rw [← Option.some.inj h]; exact mS⟩
   · rw [if_neg c] at h
     obtain ⟨k,h1,h2⟩:=sfd_mem h
     exact ⟨k,h1,mT _ h2⟩
theorem sfd_none:∀ {L:List (Nat × Flg)} {id:Int},sfd L id=none→∀ q∈L,((q.1:Nat):Int)≠id
 | [],_,_,_,h=>by cases h
 | p::L,id,h,q,hq=>by
   unfold sfd at h
   by_cases c:((p.1:Nat):Int)=id
   · rw [if_pos c] at h; cases h
   · rw [if_neg c] at h
     rcases xc1 hq with rfl | hq
     · exact c
     · exact sfd_none h q hq
theorem sput_map:∀ (L:List (Nat × Flg)) (id:Int) (f:Flg),(sput L id f).map Prod.fst=L.map Prod.fst
 | [],_,_=>rfl
 | q::L,id,f=>by
   unfold sput
   by_cases c:((q.1:Nat):Int)=id
   · rw [if_pos c]; rfl
   · rw [if_neg c,List.map_cons,List.map_cons,sput_map L id f]
theorem sput_mem:∀ {L:List (Nat × Flg)} {id:Int} {f:Flg} {q:Nat × Flg},q∈sput L id f→q∈L∨(q.2=f∧∃ g,(q.1,g)∈L)
 | [],_,_,_,h=>by cases h
 | p::L,id,f,q,h=>by
   unfold sput at h
   by_cases c:((p.1:Nat):Int)=id
   · rw [if_pos c] at h
     rcases xc1 h with rfl | h
     · exact .inr ⟨rfl,p.2,mS⟩
     · exact .inl (mT _ h)
   · rw [if_neg c] at h
     rcases xc1 h with rfl | h
     · exact .inl mS
     · rcases sput_mem h with h | ⟨h1,g,h2⟩
       · exact .inl (mT _ h)
       · exact .inr ⟨h1,g,mT _ h2⟩
theorem sput_len (L:List (Nat × Flg)) (id:Int) (f:Flg):(sput L id f).length=L.length:=by
 have:=congrArg List.length (sput_map L id f)
 rwa [List.length_map,List.length_map] at this
theorem sput_sum:∀ {L:List (Nat × Flg)} {id:Int} {g:Flg} (f:Flg),sfd L id=some g→((sput L id f).map fun q=>fsz q.2).sum+fsz g=(L.map fun q=>fsz q.2).sum+fsz f
 | [],_,_,_,h=>by cases h
 | q::L,id,g,f,h=>by
   unfold sfd at h
   unfold sput
   by_cases c:((q.1:Nat):Int)=id
   · rw [if_pos c] at h ⊢
     rw [← Option.some.inj h]
     simp only [List.map_cons,List.sum_cons]
     omega
   · rw [if_neg c] at h ⊢
     have:=sput_sum f h
     simp only [List.map_cons,List.sum_cons]
     omega
theorem sdel_sub:∀ (L:List (Nat × Flg)) (id:Int),(sdel L id).Sublist L
 | [],_=>List.Sublist.refl _
 | q::L,id=>by
   unfold sdel
   by_cases c:((q.1:Nat):Int)=id
   · rw [if_pos c]; exact List.sublist_cons_self _ _
   · rw [if_neg c]; exact List.Sublist.cons_cons _ (sdel_sub L id)
theorem sub_sum {K L:List (Nat × Flg)} (h:K.Sublist L):(K.map fun q=>fsz q.2).sum≤(L.map fun q=>fsz q.2).sum:=by
 induction h with
 | slnil=>exact xnR _
 | cons a _ ih=>simp only [List.map_cons,List.sum_cons]; omega
 | cons_cons a _ ih=>simp only [List.map_cons,List.sum_cons]; omega
theorem SchW.put {s:Sch} (h:SchW s) {id:Int} {g f:Flg} (_:sfd s.L id=some g) (hf:FlgW f):SchW { s with L:=sput s.L id f }:=by
 refine ⟨?_,fun q hq=>?_,fun q hq=>?_,h.l1,h.l2⟩
 · show ((sput s.L id f).map Prod.fst).Nodup
   rw [sput_map]
   exact h.d
 · rcases sput_mem hq with hq | ⟨e,_⟩
   · exact h.f q hq
   · rw [e]; exact hf
 · rcases sput_mem hq with hq | ⟨_,g',hq⟩
   · exact h.i q hq
   · exact h.i (q.1,g') hq
theorem sfd_w {s:Sch} (h:SchW s) {id:Int} {f:Flg} (hf:sfd s.L id=some f):FlgW f:=by
 obtain ⟨k,_,hk⟩:=sfd_mem hf
 exact h.f _ hk
def snew (p:Int):Sch:=⟨decide (p=1),-1,[]⟩
theorem snew_w (p:Int):SchW (snew p):=⟨List.nodup_nil,fun _ h=>(by cases h),fun _ h=>(by cases h),Int.le_refl _,show (-1:Int)<9223372036854775808 by decide⟩
def flg0:Flg:=⟨4,none,[]⟩
theorem flg0_w:FlgW flg0:=⟨show 2≤4 by decide,show 4≤32 by decide,fun _ h=>(by cases h),List.Pairwise.nil,fun _ h=>(by cases h),fun _ h=>(by cases h)⟩
def sop (s:Sch) (id:Int):Sch:=if 0≤id∧sfd s.L id=none then { s with L:=s.L++[(id.toNat,flg0)] } else s
theorem sop_w {s:Sch} (h:SchW s) {id:Int} (hi:i64 id):SchW (sop s id):=by
 unfold sop
 split
 · next c =>
   obtain ⟨c1,c2⟩:=c
   have hn:=sfd_none c2
   refine ⟨?_,fun q hq=>?_,fun q hq=>?_,h.l1,h.l2⟩
   · show ((s.L++[(id.toNat,flg0)]).map Prod.fst).Nodup
     rw [List.map_append,List.nodup_append]
     refine ⟨h.d,List.nodup_cons.2 ⟨List.not_mem_nil,List.nodup_nil⟩,fun a ha b hb e=>?_⟩
     obtain ⟨q,hq,rfl⟩:=List.mem_map.1 ha
     have hb':b=id.toNat:=xm1 hb
     exact hn q hq (by omega)
   · rcases List.mem_append.1 hq with hq | hq
     · exact h.f q hq
     · obtain rfl:=xm1 hq; exact flg0_w
   · rcases List.mem_append.1 hq with hq | hq
     · exact h.i q hq
     · obtain rfl:=xm1 hq
       unfold i64 at hi
       show id.toNat<9223372036854775808
       omega
 · exact h
theorem sop_sz (s:Sch) (id:Int):ssz (sop s id)≤ssz s+1:=by
 unfold sop ssz
 split
 · simp only [List.length_append,List.map_append,List.sum_append,List.length_singleton]
   show _+1+(_+fsz flg0)≤_
   have:fsz flg0=0:=rfl
   omega
 · omega
def sclO (s:Sch) (id:Int):List (Int × Int):=match sfd s.L id with | some f=>sall f.rs | none=>[]
def scl (s:Sch) (id:Int):Sch:={ s with L:=sdel s.L id }
theorem scl_w {s:Sch} (h:SchW s) (id:Int):SchW (scl s id):=by
 have hs:=sdel_sub s.L id
 exact ⟨h.d.sublist (hs.map _),fun q hq=>h.f q (hs.subset hq),fun q hq=>h.i q (hs.subset hq),h.l1,h.l2⟩
theorem scl_sz (s:Sch) (id:Int):ssz (scl s id)≤ssz s:=by
 have h1:=sub_sum (sdel_sub s.L id); have h2:=(sdel_sub s.L id).length_le
 show (sdel s.L id).length+((sdel s.L id).map fun q=>fsz q.2).sum≤s.L.length+_
 omega
def smay (f:Flg) (c:Int):Bool:=decide (0≤c∧c≤281474976710655)&&(match f.top with | some t=>decide ((t:Int)<c) | none=>true)
def ssn (s:Sch) (id c now:Int) (cs:List (Int × Int)):Sch:=match sfd s.L id with
 | some f=>if smay f c=true then { s with L:=sput s.L id { f with top:=some c.toNat,rs:=f.rs++[⟨c.toNat,smom now,cs⟩] } } else s
 | none=>s
theorem sent_w {f:Flg} (h:FlgW f) {c:Int} (hm:smay f c=true) (now:Int) {cs:List (Int × Int)} (hc:∀ p∈cs,i64 p.1∧i64 p.2):FlgW { f with top:=some c.toNat,rs:=f.rs++[⟨c.toNat,smom now,cs⟩] }:=by
 unfold smay at hm
 rw [xbA,decide_eq_true_eq] at hm
 obtain ⟨hm1,hm2⟩:=hm
 have hlt:∀ r∈f.rs,r.c<c.toNat:=fun r hr=>by
  obtain ⟨t,ht,hrt⟩:=h.tp r hr
  rw [ht] at hm2
  have:=of_decide_eq_true hm2
  omega
 refine ⟨h.w1,h.w2,fun r hr=>?_,?_,fun r hr=>?_,fun t ht=>?_⟩
 · rcases List.mem_append.1 hr with hr | hr
   · exact h.rc r hr
   · obtain rfl:=xm1 hr
     exact ⟨show c.toNat≤281474976710655 by omega,smom_le now,hc⟩
 · show (f.rs++[_]).Pairwise _
   rw [List.pairwise_append]
   refine ⟨h.up,List.pairwise_singleton _ _,fun a ha b hb=>?_⟩
   obtain rfl:=xm1 hb
   exact hlt a ha
 · refine ⟨c.toNat,rfl,?_⟩
   rcases List.mem_append.1 hr with hr | hr
   · exact Nat.le_of_lt (hlt r hr)
   · obtain rfl:=xm1 hr
     exact xnR _
 · have:c.toNat=t:=Option.some.inj ht
   omega
theorem ssn_w {s:Sch} (h:SchW s) (id c now:Int) {cs:List (Int × Int)} (hc:∀ p∈cs,i64 p.1∧i64 p.2):SchW (ssn s id c now cs):=by
 unfold ssn
 split
 · next f hf =>
   split
   · next hm=>exact h.put hf (sent_w (sfd_w h hf) hm now hc)
   · exact h
 · exact h
theorem fsz_app (f:Flg) (t:Option Nat) (r:Rcd):fsz { f with top:=t,rs:=f.rs++[r] }=fsz f+1+r.cs.length:=by
 unfold fsz
 rw [List.length_append,sall_app,List.length_append,sall_one]
 show _+1+_=_
 omega
theorem ssn_sz (s:Sch) (id c now:Int) (cs:List (Int × Int)):ssz (ssn s id c now cs)≤ssz s+1+cs.length:=by
 unfold ssn
 split
 · next f hf =>
   split
   · have h1:=sput_sum (L:=s.L) { f with top:=some c.toNat,rs:=f.rs++[⟨c.toNat,smom now,cs⟩] } hf
     have h2:=fsz_app f (some c.toNat) ⟨c.toNat,smom now,cs⟩
     unfold ssz
     simp only [sput_len]
     simp only at h2
     omega
   · omega
 · omega
def flose (f:Flg) (win:Nat) (gone stay:List Rcd):Flg:={ f with win:=if gone=[] then win else max 2 (win/2),rs:=stay }
theorem flose_w {f:Flg} (h:FlgW f) {win:Nat} (h1:2≤win) (h2:win≤32) {gone stay:List Rcd} (hs:stay.Sublist f.rs):FlgW (flose f win gone stay):=by
 refine ⟨?_,?_,fun r hr=>h.rc r (hs.subset hr),h.up.sublist hs,fun r hr=>h.tp r (hs.subset hr),h.t1⟩
 · show 2≤if gone=[] then win else max 2 (win/2)
   split <;> omega
 · show (if gone=[] then win else max 2 (win/2))≤32
   split <;> omega
theorem sall_cons (r:Rcd) (l:List Rcd):sall (r::l)=r.cs++sall l:=List.flatMap_cons ..
theorem sall_sub {a b:List Rcd} (h:a.Sublist b):(sall a).length≤(sall b).length:=by
 induction h with
 | slnil=>exact xnR _
 | cons r _ ih=>rw [sall_cons,List.length_append]; omega
 | cons_cons r _ ih=>rw [sall_cons,sall_cons,List.length_append,List.length_append]; omega
theorem flose_sz (f:Flg) (win:Nat) (gone:List Rcd) {stay:List Rcd} (hs:stay.Sublist f.rs):fsz (flose f win gone stay)≤fsz f:=by
 have h1:=hs.length_le; have h2:=sall_sub hs
 show stay.length+(sall stay).length≤f.rs.length+(sall f.rs).length
 omega
def stl (n:Nat) (top:Int) (l:List (Int × Int)):Bool:=(l.any fun r=>decide (r.1≤(n:Int)∧(n:Int)<r.2)) || ((n:Int) == top)
def sold (top:Int) (r:Rcd):Bool:=decide ((r.c:Int)+3≤top)
def sgL (f:Flg) (top:Int) (l:List (Int × Int)):List Rcd:=f.rs.filter fun r=>!stl r.c top l
def sgG (f:Flg) (top:Int) (l:List (Int × Int)):List Rcd:=(sgL f top l).filter (sold top)
def sgS (f:Flg) (top:Int) (l:List (Int × Int)):List Rcd:=(sgL f top l).filter fun r=>!sold top r
def sgW (f:Flg) (top:Int) (l:List (Int × Int)):Nat:=min 32 (f.win+(f.rs.length-(sgL f top l).length))
def stk (top now:Int) (rs:List Rcd):Int:=rs.foldl (fun a r=>if (r.c:Int)=top then max 0 ((smom now:Int)-r.m) else a) (-1)
def sgo (f:Flg) (top:Int) (l:List (Int × Int)):Flg:=flose f (sgW f top l) (sgG f top l) (sgS f top l)
def sgt (s:Sch) (id top:Int) (l:List (Int × Int)):Sch:=match sfd s.L id with | some f=>{ s with L:=sput s.L id (sgo f top l) } | none=>s
def sgO (s:Sch) (id top:Int) (l:List (Int × Int)):List (Int × Int):=match sfd s.L id with | some f=>sall (sgG f top l) | none=>[]
def sgT (s:Sch) (id top now:Int):Int:=match sfd s.L id with | some f=>stk top now f.rs | none=>-1
theorem sgL_sub (f:Flg) (top:Int) (l:List (Int × Int)):(sgL f top l).Sublist f.rs:=List.filter_sublist
theorem sgS_sub (f:Flg) (top:Int) (l:List (Int × Int)):(sgS f top l).Sublist f.rs:=List.filter_sublist.trans (sgL_sub f top l)
theorem sgG_sub (f:Flg) (top:Int) (l:List (Int × Int)):(sgG f top l).Sublist f.rs:=List.filter_sublist.trans (sgL_sub f top l)
theorem sgW_in {f:Flg} (h:FlgW f) (top:Int) (l:List (Int × Int)):2≤sgW f top l∧sgW f top l≤32:=by
 have:=h.w1
 unfold sgW
 omega
theorem sgt_w {s:Sch} (h:SchW s) (id top:Int) (l:List (Int × Int)):SchW (sgt s id top l):=by
 unfold sgt
 split
 · next f hf =>
   have hw:=sfd_w h hf; have hi:=sgW_in hw top l
   exact h.put hf (flose_w hw hi.1 hi.2 (sgS_sub f top l))
 · exact h
theorem put_sz {s:Sch} {id:Int} {g f:Flg} (h:sfd s.L id=some g) (hf:fsz f≤fsz g):ssz { s with L:=sput s.L id f }≤ssz s:=by
 have h1:=sput_sum f h
 unfold ssz
 simp only [sput_len]
 omega
theorem sgt_sz (s:Sch) (id top:Int) (l:List (Int × Int)):ssz (sgt s id top l)≤ssz s:=by
 unfold sgt
 split
 · next f hf=>exact put_sz hf (flose_sz f _ _ (sgS_sub f top l))
 · exact xnR _
def slt (now age:Int) (r:Rcd):Bool:=decide ((r.m:Int)≤(smom now:Int)-smom age)
def slG (f:Flg) (now age:Int):List Rcd:=f.rs.filter (slt now age)
def slS (f:Flg) (now age:Int):List Rcd:=f.rs.filter fun r=>!slt now age r
def sla (s:Sch) (id now age:Int):Sch:=match sfd s.L id with | some f=>{ s with L:=sput s.L id (flose f f.win (slG f now age) (slS f now age)) } | none=>s
def slO (s:Sch) (id now age:Int):List (Int × Int):=match sfd s.L id with | some f=>sall (slG f now age) | none=>[]
theorem sla_w {s:Sch} (h:SchW s) (id now age:Int):SchW (sla s id now age):=by
 unfold sla
 split
 · next f hf=>exact h.put hf (flose_w (sfd_w h hf) (sfd_w h hf).w1 (sfd_w h hf).w2 List.filter_sublist)
 · exact h
theorem sla_sz (s:Sch) (id now age:Int):ssz (sla s id now age)≤ssz s:=by
 unfold sla
 split
 · next f hf=>exact put_sz hf (flose_sz f _ _ List.filter_sublist)
 · exact xnR _
def sav (s:Sch) (id:Int):Bool:=match sfd s.L id with | some f=>decide (f.rs.length<f.win) | none=>false
def spb (s:Sch) (b:Int × Int) (id cost:Int):Int × Int :=
 if sav s id=true then
  if s.tu=true then (if b.1<0∨(s.last<id∧¬ s.last<b.1)∨((s.last<id↔s.last<b.1)∧id<b.1) then (id,b.2) else b)
  else (if b.1<0∨cost<b.2 then (id,cost) else b)
 else b
def spk (s:Sch) (live rtt:List Int):Nat→Int × Int
 | 0=>(-1,0)
 | k+1=>spb s (spk s live rtt k) (bl live k) (bl rtt k)
def spN (s:Sch) (live rtt:List Int):Int:=(spk s live rtt live.length).1
def spA (s:Sch) (live rtt:List Int):Int:=if spN s live rtt<0 then 0 else spN s live rtt
def spB (s:Sch) (live rtt:List Int):Bool:=decide (0≤spN s live rtt)
def spc (s:Sch) (live rtt:List Int):Sch:=if spN s live rtt<0 then s else { s with last:=spN s live rtt }
theorem sav_in {s:Sch} (h:SchW s) {id:Int} (ha:sav s id=true):0≤id∧id<9223372036854775808:=by
 unfold sav at ha
 split at ha
 · next f hf =>
   obtain ⟨k,rfl,hk⟩:=sfd_mem hf
   have:=h.i _ hk
   simp only at this
   omega
 · cases ha
theorem spk_in {s:Sch} (h:SchW s) (live rtt:List Int):∀ k,-1≤(spk s live rtt k).1∧(spk s live rtt k).1<9223372036854775808
 | 0=>⟨Int.le_refl _,show (-1:Int)<9223372036854775808 by decide⟩
 | k+1=>by
   have ih:=spk_in h live rtt k
   show -1≤(spb s _ _ _).1∧(spb s _ _ _).1<_
   unfold spb
   split
   · next ha =>
     have:=sav_in h ha
     split
     · split
       · exact ⟨by show -1≤bl live k; omega,this.2⟩
       · exact ih
     · split
       · exact ⟨by show -1≤bl live k; omega,this.2⟩
       · exact ih
   · exact ih
theorem spc_w {s:Sch} (h:SchW s) (live rtt:List Int):SchW (spc s live rtt):=by
 have hk:=spk_in h live rtt live.length
 unfold spc
 split
 · exact h
 · exact ⟨h.d,h.f,h.i,hk.1,hk.2⟩
theorem spc_sz (s:Sch) (live rtt:List Int):ssz (spc s live rtt)=ssz s:=by
 unfold spc
 split <;> rfl
def swn (s:Sch) (id:Int):Nat:=match sfd s.L id with | some f=>f.win | none=>0
def sun (s:Sch) (id:Int):Nat:=match sfd s.L id with | some f=>f.rs.length | none=>0
section
section
variable {w0 w:World} {g x t:List (Nat × List Value)}
theorem Mm.los (h:Mm w0 (g++t) w):∀ b∈g.map Prod.fst,w0.heap.size≤b:=fun b hb=>by
 obtain ⟨p,hp,rfl⟩:=List.mem_map.1 hb
 exact (h.rows p (List.mem_append_left _ hp)).2.1
theorem Mm.beside (h:Mm w0 (g++t) w) {B:Nat} {c:List Value} (hB:(B,c)∈t):B∉g.map Prod.fst:=fun hb=>by
 obtain ⟨p,hp,e⟩:=List.mem_map.1 hb
 exact (List.pairwise_append.1 h.apart).2.2 p hp (B,c) hB e
end
section
variable {α:Type} (x a b c g t:List α)
theorem pull0:(x++(g++t)).Perm (g++(x++t)):=by
 rw [← List.append_assoc,← List.append_assoc]
 exact List.perm_append_comm.append_right t
theorem pull1:(x++(a++(g++t))).Perm (g++(x++(a++t))):=by
 have:=pull0 (x++a) g t
 rw [List.append_assoc,List.append_assoc] at this
 exact this
theorem pull2:(x++(a++(b++(g++t)))).Perm (g++(x++(a++(b++t)))):=by
 have:=pull1 (x++a) b g t
 rw [List.append_assoc,List.append_assoc] at this
 exact this
end
end
def wrc:List (Int × Int)→List Value
 | []=>[]
 | p::l=>.int .i64 p.1::.int .i64 p.2::wrc l
theorem wrc_len:∀ l:List (Int × Int),(wrc l).length=l.length*2
 | []=>rfl
 | _::l=>by show (wrc l).length+1+1=(l.length+1)*2; rw [wrc_len l]; omega
theorem wrc_one:∀ (l:List (Int × Int)),∀ u∈wrc l,u.oneCell'=true
 | [],_,h=>by cases h
 | p::l,u,h=>by
   rcases xc1 h with rfl | h
   · rfl
   rcases xc1 h with rfl | h
   · rfl
   exact wrc_one l u h
def NewW (w:World) (base:Nat) (l:List (Int × Int)) (v:Value):Prop:=∃ sp cap,v=.slice sp l.length cap∧l.length≤cap∧(sp=none→cap=0)∧(∀ j u,(wrc l)[j]?=some u→∃ ad,sp=some ad∧w.cell? (ad.add j)=some u)∧∀ a,sp=some a→base≤a.block∧a.block<w.heap.size
theorem NewW.off {w w':World} {base:Nat} {l:List (Int × Int)} {v:Value} {X:List Nat} (h:NewW w base l v) (o:Off X w w') (hX:∀ b∈X,b<base):NewW w' base l v:=by
 obtain ⟨sp,cap,hv,hc,hn,hs,ha⟩:=h
 have hsz:=o.size
 refine ⟨sp,cap,hv,hc,hn,fun j u hu=>?_,fun a e=>⟨(ha a e).1,by have:=(ha a e).2; omega⟩⟩
 obtain ⟨p,hp,hcell⟩:=hs j u hu
 exact ⟨p,hp,o.cell hcell (by rw [add_block]; exact fun hm=>by have:=hX _ hm; have:=(ha p hp).1; omega)⟩
theorem NewW.below {w w':World} {base:Nat} {l:List (Int × Int)} {v:Value} (h:NewW w base l v) (b:Below w.heap.size w w'):NewW w' base l v:=h.off (X:=[]) (Off.of_below b) (fun _ hb=>by cases hb)
theorem wrc_get:∀ (l:List (Int × Int)) (i:Nat) (p:Int × Int),l[i]?=some p→(wrc l)[i*2]?=some (.int .i64 p.1)∧(wrc l)[i*2+1]?=some (.int .i64 p.2)
 | [],_,_,h=>by cases h
 | q::l,0,p,h=>by
   obtain rfl:q=p:=by simpa using h
   exact ⟨rfl,rfl⟩
 | q::l,i+1,p,h=>by
   have:=wrc_get l i p (by simpa using h)
   rw [show (i+1)*2=i*2+1+1 by omega]
   exact this
theorem NewW.at {w:World} {base:Nat} {l:List (Int × Int)} {sp:Option Addr} {cap:Nat} (h:NewW w base l (.slice sp l.length cap)) {i:Nat} {p:Int × Int} (hi:l[i]?=some p):∃ ad,sp=some ad∧w.cell? ((ad.add (i*2)).add 0)=some (.int .i64 p.1)∧w.cell? ((ad.add (i*2)).add 1)=some (.int .i64 p.2):=by
 obtain ⟨sp',cap',hv,_,_,hs,_⟩:=h
 injection hv with h1 _ _
 subst h1
 obtain ⟨g1,g2⟩:=wrc_get l i p hi
 obtain ⟨ad,rfl,c1⟩:=hs _ _ g1
 obtain ⟨ad',e,c2⟩:=hs _ _ g2
 injection e with e
 subst e
 exact ⟨ad,rfl,by rw [Addr.add_add,Nat.add_zero]; exact c1,by rw [Addr.add_add]; exact c2⟩
section
def obs (sp:Option Addr):List (Nat × List Value):=(ob sp).map fun b=>(b,[])
theorem obs_fst (sp:Option Addr):(obs sp).map Prod.fst=ob sp:=by
 unfold obs
 rw [List.map_map]
 exact List.map_id _
theorem Mm.awayG {w0 w:World} {x g t:List (Nat × List Value)} (h:Mm w0 (g++t) w) (hs:∀ p∈x,p∈t):∀ b∈g.map Prod.fst,b∉x.map Prod.fst:=fun b hb hx=>by
 obtain ⟨p,hp,rfl⟩:=List.mem_map.1 hx
 exact h.beside (hs p hp) hb
theorem Mm.awayS {w0 w:World} {g t:List (Nat × List Value)} {sp:Option Addr} (h:Mm w0 (g++t) w) (hs:∀ p∈obs sp,p∈t):∀ b∈g.map Prod.fst,b∉ob sp:=fun b hb=>by
 have:=h.awayG hs b hb
 rw [obs_fst] at this
 exact this
theorem Mm.awayC {w0 w:World} {x t:List (Nat × List Value)} {B:Nat} {c:List Value} (h:Mm w0 ((B,c)::t) w) (hs:∀ p∈x,p∈t):B∉x.map Prod.fst:=fun hx=>by
 obtain ⟨p,hp,e⟩:=List.mem_map.1 hx
 exact (List.pairwise_cons.1 h.apart).1 p (hs p hp) e.symm
theorem Mm.awayB {w0 w:World} {t:List (Nat × List Value)} {sp:Option Addr} {B:Nat} {c:List Value} (h:Mm w0 ((B,c)::t) w) (hs:∀ p∈obs sp,p∈t):B∉ob sp:=by
 have:=h.awayC hs
 rw [obs_fst] at this
 exact this
section
variable {α:Type} (x a b c d e g t:List α)
theorem pullY:(a++(b++(x++t))).Perm (x++(a++(b++t))):=by
 rw [← List.append_assoc a b,← List.append_assoc a b,← List.append_assoc,← List.append_assoc]
 exact List.perm_append_comm.append_right t
end
theorem NewW.offB {w w':World} {base:Nat} {l:List (Int × Int)} {sp:Option Addr} {cap:Nat} {X:List Nat} (h:NewW w base l (.slice sp l.length cap)) (o:Off X w w') (hX:∀ b∈X,b∉ob sp):NewW w' base l (.slice sp l.length cap):=by
 obtain ⟨sp',cap',hv,hc,hn,hs,ha⟩:=h
 injection hv with h1 _ h3
 subst h1; subst h3; have hsz:=o.size
 refine ⟨sp,cap,rfl,hc,hn,fun j u hu=>?_,fun a e=>⟨(ha a e).1,by have:=(ha a e).2; omega⟩⟩
 obtain ⟨p,hp,hcell⟩:=hs j u hu
 exact ⟨p,hp,o.cell hcell (by rw [add_block]; exact fun hm=>hX _ hm (by rw [hp]; exact mS))⟩
end
section
def SrcI (w:World) (sp:Option Addr) (n:Nat) (f:Nat→Int):Prop:=∀ j,j<n→∃ ad,sp=some ad∧w.cell? (ad.add j)=some (.int .i64 (f j))
theorem SrcI.below {w w':World} {sp:Option Addr} {n:Nat} {f:Nat→Int} (h:SrcI w sp n f) {B:Nat} (b:Below B w w') (hB:w.heap.size≤B):SrcI w' sp n f:=fun j hj=>by
 obtain ⟨ad,e,hc⟩:=h j hj
 exact ⟨ad,e,by rw [b.cell (xnL (World.block_lt_of_cell? w _ hc) hB)]; exact hc⟩
theorem SrcI.at {w:World} {ad:Addr} {n:Nat} {f:Nat→Int} (h:SrcI w (some ad) n f) (j:Nat) (hj:j<n):w.cell? (ad.add j)=some (.int .i64 (f j)):=by
 obtain ⟨ad',e,hc⟩:=h j hj
 injection e with e
 subst e
 exact hc
section
variable {P:Program} {o:Oper} {a:Act}
theorem maxI (k k':IntKind) (n n' r:Int) (x y:Operand) (t t':TypeId) (ho:o.op=.call { callee:=.builtin .max,args:=#[x,y],argTypes:=#[t,t'] }) (hx:a.eval x=.int k n) (hy:a.eval y=.int k' n') (hr:(if n<n' then n' else n)=r) (w:World):(execOp a.eval o).run P w=.ok (.value (.int k r)) w:=by
 simp [execOp,ho,resolve,invoke,builtin,hx,hy,run_max_int2,hr]
end
theorem SrcI.off {w w':World} {sp:Option Addr} {n:Nat} {f:Nat→Int} {X:List Nat} (h:SrcI w sp n f) (o:Off X w w') (hX:∀ ad,sp=some ad→0<n→ad.block∉X):SrcI w' sp n f:=fun j hj=>by
 obtain ⟨ad,e,hc⟩:=h j hj
 exact ⟨ad,e,o.cell hc (by rw [add_block]; exact hX ad e (by omega))⟩
theorem Mm.grownN {w0 w w':World} {l:List (Nat × List Value)} (h:Mm w0 l w) {r:Option Nat} (g:w.grownBy w' r) (hr:∀ b,r=some b→w0.heap.size≤b∧∀ p∈l,p.1≠b):Mm w0 l w' :=
 ⟨fun p hp=>⟨fun j hj=>by
  have e:w'.heap[p.1]?=w.heap[p.1]?:=g.block p.1 (h.rows p hp).2.2 (fun e=>(hr p.1 e.symm).2 p hp rfl)
  rw [World.cell?_of_block (a:=⟨p.1,j,none⟩) e,World.frozen?_of_block (a:=⟨p.1,j,none⟩) e]
  exact (h.rows p hp).1 j hj,(h.rows p hp).2.1,xnL (h.rows p hp).2.2 g.size⟩,h.apart,
  ⟨g.os.trans h.below.os,g.tape.trans h.below.tape,g.output.trans h.below.output,xnT h.below.size g.size,fun b hb=>(g.block b (xnL hb h.below.size) (fun e=>by have:=(hr b e.symm).1; omega)).trans (h.below.block b hb)⟩⟩
end
theorem Mm.addB {w0 w:World} {l:List (Nat × List Value)} (h:Mm w0 l w) {b:Nat} (lo:w0.heap.size≤b) (lt:b<w.heap.size) (hne:∀ p∈l,p.1≠b):Mm w0 ((b,[])::l) w :=
 ⟨fun p hp=>by
  rcases xc1 hp with rfl | hp
  · exact ⟨fun j hj=>absurd hj (xnZ j),lo,lt⟩
  · exact h.rows p hp,List.pairwise_cons.2 ⟨fun p hp=>(hne p hp).symm,h.apart⟩,h.below⟩
theorem Mm.rowApp {w0 w w2:World} {l:List (Nat × List Value)} {sp sq:Option Addr} {n cap m cap2 base size:Nat} {e:TypeId} {xs ys:List Value} (M:Mm w0 (obs sp++l) w) (V:w.ownsRow base e size (.slice sp n cap) n xs) (hg:w.grownBy w2 (Value.slice sp n cap).ownBlock) (V2:w2.ownsRow base e size (.slice sq m cap2) m ys) (h2:∀ g,(Value.slice sq m cap2).ownBlock=some g→(Value.slice sp n cap).ownBlock=some g∨g=w.heap.size) (h0:w0.heap.size≤base):Mm w0 (obs sq++l) w2:=by
 have Ml:Mm w0 l w:=M.sub l (List.sublist_append_right _ _)
 have hap:∀ b,(Value.slice sp n cap).ownBlock=some b→∀ p∈l,p.1≠b:=fun b hb p hp e=>by
  have hm:b∈ob sp:=(ob_own sp n cap b).1 hb
  have:=(List.pairwise_append.1 M.apart).2.2 (b,[]) (List.mem_map.2 ⟨b,hm,rfl⟩) p hp
  exact this e.symm
 have Ml2:=Ml.grownN hg (fun b hb=>⟨xnT h0 (World.ownsRow.lt V b hb).1,hap b hb⟩)
 cases sq with
 | none=>exact Ml2
 | some a =>
   have hl:=World.ownsRow.lt V2 a.block rfl; refine Ml2.addB (xnT h0 hl.1) hl.2 fun p hp e=>?_
   rcases h2 a.block rfl with h | h
   · exact hap _ h p hp e
   · have:=(Ml.rows p hp).2.2
     omega
theorem Mm.rowNil {w0 w:World} {l:List (Nat × List Value)} (M:Mm w0 l w) (c:Array Value) (t:TypeId):Mm w0 (obs (some ⟨w.heap.size,0,none⟩)++l) (w.alloc (.cells c t)):=by
 have h:=M.box c t w.heap.size rfl
 have M2:Mm w0 l (w.alloc (.cells c t)):=h.tail
 exact M2.addB (h.lo mS) (h.lt mS) fun p hp=>by
  have:=(M.rows p hp).2.2
  show p.1≠w.heap.size
  omega
theorem row_form16 {w:World} {base:Nat} {e:TypeId} {size n:Nat} {xs:List Value} {v:Value} (h:w.ownsRow base e size v n xs):∃ sp cap,v=.slice sp n cap∧n≤cap∧(sp=none→cap=0):=by
 rcases h.2 with ⟨rfl,rfl⟩ | ⟨g,cap,cur,rfl,_,_,hc,_⟩
 · exact ⟨none,0,rfl,xnR _,fun _=>rfl⟩
 · exact ⟨_,cap,rfl,hc,fun e=>by cases e⟩
theorem row_some16 {w:World} {base:Nat} {e:TypeId} {size n:Nat} {xs:List Value} {sp:Option Addr} {cap:Nat} (h:w.ownsRow base e size (.slice sp n cap) n xs) (hn:0<n):∃ g,sp=some ⟨g,0,none⟩:=by
 rcases h.2 with ⟨e1,e2⟩ | ⟨g,cap',cur,e1,_⟩
 · omega
 · injection e1 with e2 _ _
   exact ⟨g,e2⟩
theorem ownsRow_away {w w':World} {base:Nat} {e:TypeId} {size n:Nat} {xs:List Value} {sp:Option Addr} {cap:Nat} {X:List Nat} (h:w.ownsRow base e size (.slice sp n cap) n xs) (o:Off X w w') (hX:∀ b∈X,b∉ob sp):w'.ownsRow base e size (.slice sp n cap) n xs:=ownsRow_off h o fun b hb e=>hX b hb ((ob_own sp n cap b).1 e)
theorem ownsRow_bel {w w':World} {base:Nat} {e:TypeId} {size n:Nat} {xs:List Value} {v:Value} (h:w.ownsRow base e size v n xs) (l:Below w.heap.size w w'):w'.ownsRow base e size v n xs:=ownsRow_off h (X:=[]) (Off.of_below l) (fun _ hb=>by cases hb)
theorem ownsRow_put {w:World} {base:Nat} {e:TypeId} {size n g cap:Nat} {xs:List Value} (h:w.ownsRow base e size (.slice (some ⟨g,0,none⟩) n cap) n xs) (j:Nat) (u:Value):(w.setCell ⟨g,j,none⟩ u).ownsRow base e size (.slice (some ⟨g,0,none⟩) n cap) n (xs.set j u):=by
 refine ⟨by rw [List.length_set]; exact h.1,?_⟩
 rcases h.2 with ⟨e0,_⟩ | ⟨g',cap',cur,e0,hb,hg,hc,hm,hs,ht⟩
 · cases e0
 · injection e0 with e1 _ e3
   injection e1 with e1
   injection e1 with e1 _ _
   subst e1; subst e3
   have hlt:g<w.heap.size:=by
    rcases Nat.lt_or_ge g w.heap.size with h' | h'
    · exact h'
    · rw [Array.getElem?_eq_none h'] at hg; cases hg
   have h':w.heap[g]=.cells cur e (0,0):=by
    rw [Array.getElem?_eq_getElem hlt] at hg
    exact Option.some.inj hg
   refine .inr ⟨g,cap,cur.setIfInBounds j u,rfl,hb,?_,hc,hm,by rw [Array.size_setIfInBounds]; exact hs,?_⟩
   · show (w.heap.modify g _)[g]?=_
     rw [Array.getElem?_eq_getElem (by simpa using hlt),Array.getElem_modify_self,h']
     rfl
   · rw [Array.toList_setIfInBounds,List.take_set,ht]
theorem Mm.untell {w0 w:World} {l:List (Nat × List Value)} {g:Nat} {cs:List Value} (h:Mm w0 ((g,cs)::l) w):Mm w0 ((g,[])::l) w:=h.tail.addB (h.lo mS) (h.lt mS) fun p hp e=>(List.pairwise_cons.1 h.apart).1 p hp e.symm
section
section
variable {P:Program} {md:Region.Mode} {ops:Array Oper} {Q:Exit→Act→World→Prop} {S:World→Prop}
theorem actO {i:Nat} {oi:Oper} (dst:Option Tmp) (hdst:oi.dst=dst) {K:Act→World→Prop} {a:Act} {w w':World} (v:Value) (hi:ops[i]?=some oi) (hw:Region.wanted oi (yielded ops a.tmps)=true)
 (he:(execOp a.eval oi).run P w=.ok (.value v) w') (h:K (a.put dst v) w'):wpOp P ops Q i K a w:=by
 unfold wpOp
 simp only [hi,hw,if_true]; refine .inl ?_
 unfold Oper.wp
 rw [he]
 subst hdst
 exact h
end
end
section
section
variable {P:Program} {ops:Array Oper} {Q:Exit→Act→World→Prop} {md:Region.Mode} {S S2:World→Prop} {c:Nat}
theorem readC {i:Nat} {oi oc:Oper} (dst:Option Tmp) (hdst:oi.dst=dst) {n:Nat} {l:Array Bool} {a:Act} {w:World} (v:Value) (hi:ops[i]?=some oi) (hc:ops[c]?=some oc) (hwait:(oc.after.any fun e=>Region.binds md e&&e.on == i)=true)
 (hw:Region.wanted oi (yielded ops a.tmps)=true) (hv:∀ w,S w→(execOp a.eval oi).run P w=.ok (.value v) w)
 (hs:Region.noSelect ops=true) (hf:Region.free md ops l i=true) (hl:l.getD c true=false) (hr:(Region.ready md ops l).contains i=true)
 (hQ:∀ p a w,Q (.panic p) (a.put dst v) w→Q (.panic p) a w) (hS:S w)
 (h:wpAnyC P md ops Q S c n (l.setIfInBounds i true) (a.put dst v) w):wpAnyC P md ops Q S c (n+1) l a w:=by
 subst hdst
 exact wpAnyC_take hi hc hwait hs hf hl hr hQ (.inl ⟨hw,hv⟩) hS h
theorem skipC (dst:Option Tmp) {oc:Oper} (hdst:oc.dst=dst) {n:Nat} {l:Array Bool} {a:Act} {w w':World} (hr:Region.ready md ops l=[c]) (hi:ops[c]?=some oc)
 (hw:Region.wanted oc (yielded ops a.tmps)=true) (he:(execOp a.eval oc).run P w=.ok .skip w') (hl:(l.setIfInBounds c true).getD c true=true)
 (h:wpAnyH P md ops Q S2 n (l.setIfInBounds c true) (a.put dst undef) w'):wpAnyC P md ops Q S c (n+1) l a w :=
 ⟨fun h0=>(by rw [h0] at hr; cases hr),fun j hj=>by
  rw [hr] at hj
  obtain rfl:=xm1 hj
  unfold wpOp
  simp only [hi,hw,if_true]; refine .inl ?_
  unfold Oper.wp
  rw [he]
  subst hdst
  exact ⟨fun hf=>(by rw [hl] at hf; cases hf),wpAnyC_rest n _ _ _ hl (wpAny_of_held n _ _ _ h)⟩⟩
theorem onlyC {i:Nat} {oi:Oper} (dst:Option Tmp) (hdst:oi.dst=dst) {n:Nat} {l:Array Bool} {a:Act} {w w':World} (v:Value) (hr:Region.ready md ops l=[i]) (hi:ops[i]?=some oi) (hw:Region.wanted oi (yielded ops a.tmps)=true)
 (he:(execOp a.eval oi).run P w=.ok (.value v) w') (hS:S w') (h:wpAnyC P md ops Q S c n (l.setIfInBounds i true) (a.put dst v) w'):wpAnyC P md ops Q S c (n+1) l a w :=
 ⟨fun h0=>(by rw [h0] at hr; cases hr),fun j hj=>by
  rw [hr] at hj
  obtain rfl:=xm1 hj
  exact actO dst hdst v hi hw he ⟨fun _=>hS,h⟩⟩
end
end
theorem manyW:Many Try.prog 38 (.agg #[.int .i64 0,.int .i64 0]) 16 2:=⟨by kernel_rfl⟩
theorem idxSm {P:Program} {o:Oper} {a:Act} (t e:TypeId) (len cap m:Nat) (k:IntKind) (ad:Addr) (i:Nat) (x y:Operand) (hu:P.underlying t=some (.slice e)) (hsz:∀ w,(sizeOf e).run P w=.ok m w) (hi:i<len) (ho:o.op=.indexAddr t x y) (hx:a.eval x=.slice (some ad) len cap) (hy:a.eval y=.int k (i:Int)) (w:World) :
 (execOp a.eval o).run P w=.ok (.value (.pointer (some (ad.add (i*m))))) w:=by
 have e1:(Instr.indexAt t (.slice (some ad) len cap) (.int k (i:Int))).run P w=.ok (.pointer (some (ad.add (i*m)))) w:=by
  simp [Instr.indexAt,run_underlying hu,asIntOf,hsz]
  intro hf
  omega
 unfold execOp
 simp only [ho,hx,hy,Sem.run_bind,e1,Result.andThen_ok,Sem.run_pure]
theorem idxR2 (ad:Addr) (len cap i:Nat) (hi:i<len) {o:Oper} {a:Act} (x y:Operand) (ho:o.op=.indexAddr 28 x y) (hx:a.eval x=.slice (some ad) len cap) (hy:a.eval y=.int .i64 (i:Int)) (w:World):(execOp a.eval o).run Try.prog w=.ok (.value (.pointer (some (ad.add (i*2))))) w :=
 idxSm 28 38 len cap 2 .i64 ad i x y Try.underlying28 (fun _=>by kernel_rfl) hi ho hx hy w
theorem range_n : (Try.prog.fieldsOf 38).toList.map Field.name = ["From", "To"] := by kernel_rfl
theorem range_t:(Try.prog.fieldsOf 38).toList.map Field.type=[3,3]:=by kernel_rfl
theorem range_o:(Try.prog.fieldsOf 38).toList.map Field.offset=[0,1]:=by kernel_rfl
theorem two_of14 {l:List Field} {n1 n2:String} {t1 t2:TypeId} {o1 o2:Nat} (hn:l.map Field.name=[n1,n2]) (ht:l.map Field.type=[t1,t2]) (ho:l.map Field.offset=[o1,o2]):∃ a b:Field,l=[a,b]∧a.name=n1∧b.name=n2∧a.type=t1∧b.type=t2∧a.offset=o1∧b.offset=o2:=by
 rcases l with _ | ⟨a,_ | ⟨b,_ | ⟨c,l⟩⟩⟩
 · simp at hn
 · simp at hn
 · simp only [List.map_cons,List.map_nil,List.cons.injEq,and_true] at hn ht ho
   exact ⟨a,b,rfl,hn.1,hn.2,ht.1,ht.2,ho.1,ho.2⟩
 · simp at hn
theorem eqRange (x y:Int) (w:World):(Op.equalIn (9999+1) 38 (.agg #[.int .i64 x,.int .i64 y]) (.agg #[.int .i64 x,.int .i64 y])).run Try.prog w=.ok true w:=by
 rw [run_equalIn_struct w 9999 38 _ _ (by kernel_rfl) (by kernel_rfl)]
 obtain ⟨a,b,e,n1,n2,t1,t2,o1,o2⟩:=two_of14 range_n range_t range_o
 rw [e]
 have p1:(part 3 #[.int .i64 x,.int .i64 y] 0).run Try.prog w=.ok (.int .i64 x) w:=by kernel_rfl
 have p2:(part 3 #[.int .i64 x,.int .i64 y] 1).run Try.prog w=.ok (.int .i64 y) w:=by kernel_rfl
 have q:∀ z:Int,(Op.equalIn (9998+1) 3 (.int .i64 z) (.int .i64 z)).run Try.prog w=.ok true w:=fun z=>by rw [run_equalIn_int w 9998 3 .i64 .i64 z z Try.underlying3,beq_self_eq_true]
 have m1 : a.name ≠ "_" := by rw [n1]; decide
 have m2 : b.name ≠ "_" := by rw [n2]; decide
 have q1:=q x; have q2:=q y; simp only [Op.eqFields,m1,m2,t1,t2,o1,o2,ne_eq,not_false_eq_true,if_true,Sem.run_bind,p1,p2,q1,q2,Result.andThen_ok,Bool.not_true,Bool.false_eq_true,if_false,Sem.run_pure]
theorem NewW.rng {w:World} {base:Nat} {l:List (Int × Int)} {ad:Addr} {cap:Nat} (h:NewW w base l (.slice (some ad) l.length cap)) {i:Nat} {p:Int × Int} (hi:l[i]?=some p):∀ j u,[Value.int .i64 p.1,Value.int .i64 p.2][j]?=some u→w.cell? ((ad.add (i*2)).add j)=some u:=by
 obtain ⟨ad',e,h0,h1⟩:=h.at hi
 injection e with e
 subst e; intro j u hu
 rcases j with _ | _ | j
 · obtain rfl:=Option.some.inj hu; exact h0
 · obtain rfl:=Option.some.inj hu; exact h1
 · cases hu
theorem neqRg {o:Oper} {a:Act} (f g:Int) (x y:Operand) (ho:o.op=.binOp .neq 38 x y 38) (hx:a.eval x=.agg #[.int .i64 f,.int .i64 g]) (hy:a.eval y=.agg #[.int .i64 f,.int .i64 g]) (w:World) :
 (execOp a.eval o).run Try.prog w=.ok (.value (.bool false)) w:=by
 have e1:(binOp .neq 38 (.agg #[.int .i64 f,.int .i64 g]) (.agg #[.int .i64 f,.int .i64 g])).run Try.prog w=.ok (.bool false) w:=by
  rw [run_neq_struct,eqRange]
  rfl
 unfold execOp
 simp only [ho,hx,hy,Sem.run_bind,run_eqGuard_agg (P:=Try.prog) w .neq 38 x y _ _ (by kernel_rfl),Result.andThen_ok,e1,Sem.run_pure]
section
def RgW (w:World) (l:List (Int × Int)) (v:Value):Prop:=∃ sp cap,v=.slice sp l.length cap∧l.length≤cap∧(sp=none→cap=0)∧∀ j u,(wrc l)[j]?=some u→∃ ad,sp=some ad∧w.cell? (ad.add j)=some u
section
variable {w w':World} {l:List (Int × Int)} {sp:Option Addr} {cap:Nat}
theorem RgW.offB {X:List Nat} (h:RgW w l (.slice sp l.length cap)) (o:Off X w w') (hX:∀ b∈X,l≠[]→b∉ob sp):RgW w' l (.slice sp l.length cap):=by
 obtain ⟨sp',cap',hv,hc,hn,hs⟩:=h
 injection hv with h1 _ h3
 subst h1; subst h3
 refine ⟨sp,cap,rfl,hc,hn,fun j u hu=>?_⟩
 obtain ⟨p,hp,hcell⟩:=hs j u hu
 exact ⟨p,hp,o.cell hcell (by rw [add_block]; exact fun hm=>hX _ hm (fun e=>by rw [e] at hu; cases hu) (by rw [hp]; exact mS))⟩
theorem RgW.below (h:RgW w l (.slice sp l.length cap)) (b:Below w.heap.size w w'):RgW w' l (.slice sp l.length cap):=h.offB (X:=[]) (Off.of_below b) (fun _ hb=>by cases hb)
theorem RgW.at (h:RgW w l (.slice sp l.length cap)) {i:Nat} {p:Int × Int} (hi:l[i]?=some p):∃ ad,sp=some ad∧w.cell? ((ad.add (i*2)).add 0)=some (.int .i64 p.1)∧w.cell? ((ad.add (i*2)).add 1)=some (.int .i64 p.2):=by
 obtain ⟨sp',cap',hv,_,_,hs⟩:=h
 injection hv with h1 _ _
 subst h1
 obtain ⟨g1,g2⟩:=wrc_get l i p hi
 obtain ⟨ad,rfl,c1⟩:=hs _ _ g1
 obtain ⟨ad',e,c2⟩:=hs _ _ g2
 injection e with e
 subst e
 exact ⟨ad,rfl,by rw [Addr.add_add,Nat.add_zero]; exact c1,by rw [Addr.add_add]; exact c2⟩
theorem RgW.rng {ad:Addr} (h:RgW w l (.slice (some ad) l.length cap)) {i:Nat} {p:Int × Int} (hi:l[i]?=some p):∀ j u,[Value.int .i64 p.1,Value.int .i64 p.2][j]?=some u→w.cell? ((ad.add (i*2)).add j)=some u:=by
 obtain ⟨ad',e,h0,h1⟩:=h.at hi
 injection e with e
 subst e; intro j u hu
 rcases j with _ | _ | j
 · obtain rfl:=Option.some.inj hu; exact h0
 · obtain rfl:=Option.some.inj hu; exact h1
 · cases hu
theorem RgW.away (h:RgW w l (.slice sp l.length cap)) {b:Nat} (hb:w.heap.size≤b) (hne:l≠[]):b∉ob sp:=fun hm=>by
 cases l with
 | nil=>exact hne rfl
 | cons p l =>
   obtain ⟨ad,e,h0,_⟩:=RgW.at h (i:=0) (p:=p) rfl
   subst e; have h1:=World.block_lt_of_cell? w _ h0
   rw [add_block,add_block] at h1
   have e3:b=ad.block:=xm1 hm
   omega
end
theorem RgW.ofW {w:World} {base:Nat} {l:List (Int × Int)} {v:Value} (h:NewW w base l v):RgW w l v:=by
 obtain ⟨sp,cap,h1,h2,h3,h4,_⟩:=h
 exact ⟨sp,cap,h1,h2,h3,h4⟩
theorem RgW.nil0 (w:World):RgW w [] (.slice none 0 0):=⟨none,0,rfl,xnR _,fun _=>rfl,fun j u hu=>(by cases hu)⟩
end
def SchI:=World→Value→Sch→List (Nat × List Value)→Prop
structure SchOK (I:SchI):Prop where
 ptr:∀ w v s bs,I w v s bs→∃ R,v=.pointer (some ⟨R,0,none⟩)
 off:∀ w w' v s bs X,I w v s bs→Off X w w'→(∀ b∈X,b∉bs.map Prod.fst)→I w' v s bs
 new:∀ (w0 w:World) (l:List (Nat × List Value)) (p:Int),i64 p→Mm w0 l w →
  Calls Try.prog 9 #[.int .i64 p] w fun e w'=>∃ v bs,e=.returned v∧I w' v (snew p) bs∧Mm w0 (bs++l) w'∧Below w.heap.size w w'
 opn:∀ (w0 w:World) (v:Value) (s:Sch) (bs l:List (Nat × List Value)) (id:Int),SchW s→ssz s<1000000000→i64 id→I w v s bs→Mm w0 (bs++l) w →
  Calls Try.prog 12 #[v,.int .i64 id] w fun e w'=>∃ bs',e=.returned (.tuple #[])∧I w' v (sop s id) bs'∧Mm w0 (bs'++l) w'∧Off (bs.map Prod.fst) w w'
 cls:∀ (w0 w:World) (v:Value) (s:Sch) (bs l:List (Nat × List Value)) (id:Int),SchW s→ssz s<1000000000→i64 id→I w v s bs→Mm w0 (bs++l) w →
  Calls Try.prog 15 #[v,.int .i64 id] w fun e w'=>∃ sq cq bs',e=.returned (.slice sq (sclO s id).length cq)∧NewW w' w0.heap.size (sclO s id) (.slice sq (sclO s id).length cq)∧I w' v (scl s id) bs'∧Mm w0 (bs'++(obs sq++l)) w'∧Off (bs.map Prod.fst) w w'
 snt:∀ (w0 w:World) (v:Value) (s:Sch) (bs l:List (Nat × List Value)) (id c now:Int) (k:List (Int × Int)) (sk:Option Addr) (ck:Nat),SchW s→ssz s<1000000000→i64 id→i64 c→i64 now→k.length<2000000→(∀ r∈k,i64 r.1∧i64 r.2)→RgW w k (.slice sk k.length ck)→(∀ b∈bs.map Prod.fst,k≠[]→b∉ob sk)→I w v s bs→Mm w0 (bs++l) w →
  Calls Try.prog 17 #[v,.int .i64 id,.int .i64 c,.int .i64 now,.slice sk k.length ck] w fun e w'=>∃ bs',e=.returned (.tuple #[])∧I w' v (ssn s id c now k) bs'∧Mm w0 (bs'++l) w'∧Off (bs.map Prod.fst) w w'
 got:∀ (w0 w:World) (v:Value) (s:Sch) (bs l:List (Nat × List Value)) (id top:Int) (k:List (Int × Int)) (sk:Option Addr) (ck:Nat) (now:Int),SchW s→ssz s<1000000000→i64 id→i64 top→i64 now→k.length<140737488355328→(∀ r∈k,i64 r.1∧i64 r.2)→RgW w k (.slice sk k.length ck)→(∀ b∈bs.map Prod.fst,k≠[]→b∉ob sk)→I w v s bs→Mm w0 (bs++l) w →
  Calls Try.prog 19 #[v,.int .i64 id,.int .i64 top,.slice sk k.length ck,.int .i64 now] w fun e w'=>∃ sq cq bs',e=.returned (.tuple #[.slice sq (sgO s id top k).length cq,.int .i64 (sgT s id top now)])∧NewW w' w0.heap.size (sgO s id top k) (.slice sq (sgO s id top k).length cq)∧I w' v (sgt s id top k) bs'∧Mm w0 (bs'++(obs sq++l)) w'∧Off (bs.map Prod.fst) w w'
 lat:∀ (w0 w:World) (v:Value) (s:Sch) (bs l:List (Nat × List Value)) (id now age:Int),SchW s→ssz s<1000000000→i64 id→i64 now→i64 age→I w v s bs→Mm w0 (bs++l) w →
  Calls Try.prog 21 #[v,.int .i64 id,.int .i64 now,.int .i64 age] w fun e w'=>∃ sq cq bs',e=.returned (.slice sq (slO s id now age).length cq)∧NewW w' w0.heap.size (slO s id now age) (.slice sq (slO s id now age).length cq)∧I w' v (sla s id now age) bs'∧Mm w0 (bs'++(obs sq++l)) w'∧Off (bs.map Prod.fst) w w'
 pck:∀ (w0 w:World) (v:Value) (s:Sch) (bs l:List (Nat × List Value)) (a:List Int) (sa:Option Addr) (ca:Nat) (r:List Int) (sr:Option Addr) (cr:Nat),SchW s→ssz s<1000000000→a.length<140737488355328→a.length≤ca→(sa=none→ca=0)→(∀ x∈a,i64 x)→SrcI w sa a.length (bl a)→(∀ b∈bs.map Prod.fst,a≠[]→b∉ob sa)→r.length<140737488355328→r.length≤cr→(sr=none→cr=0)→(∀ x∈r,i64 x)→SrcI w sr r.length (bl r)→(∀ b∈bs.map Prod.fst,r≠[]→b∉ob sr)→I w v s bs→Mm w0 (bs++l) w →
  Calls Try.prog 23 #[v,.slice sa a.length ca,.slice sr r.length cr] w fun e w'=>∃ bs',e=.returned (.tuple #[.int .i64 (spA s a r),.bool (spB s a r)])∧I w' v (spc s a r) bs'∧Mm w0 (bs'++l) w'∧Off (bs.map Prod.fst) w w'
 win:∀ (w0 w:World) (v:Value) (s:Sch) (bs l:List (Nat × List Value)) (id:Int),SchW s→ssz s<1000000000→i64 id→I w v s bs→Mm w0 (bs++l) w →
  Calls Try.prog 26 #[v,.int .i64 id] w fun e w'=>e=.returned (.int .i64 ((swn s id:Nat):Int))∧Below w.heap.size w w'
 und:∀ (w0 w:World) (v:Value) (s:Sch) (bs l:List (Nat × List Value)) (id:Int),SchW s→ssz s<1000000000→i64 id→I w v s bs→Mm w0 (bs++l) w →
  Calls Try.prog 28 #[v,.int .i64 id] w fun e w'=>e=.returned (.int .i64 ((sun s id:Nat):Int))∧Below w.heap.size w w'
theorem SchOK.bel {I:SchI} (h:SchOK I) {w w':World} {v:Value} {s:Sch} {bs:List (Nat × List Value)} (hI:I w v s bs) (l:Below w.heap.size w w'):I w' v s bs:=h.off w w' v s bs [] hI (Off.of_below l) (fun _ hb=>by cases hb)
def kdn (c:Int) (n:Nat):Nat:=(if c<0 then -(c+1) else c).toNat%n
theorem kdn_lt (c:Int) (n:Nat) (h:0<n):kdn c n<n:=Nat.mod_lt _ h
theorem kind21_any (c:Int) (n:Nat) (hn:0<n) (h1:i64 c) (w:World) :
 Calls Try.prog 11 #[.int .i64 c,.int .i64 (n:Int)] w fun e w'=>e=.returned (.int .i64 (kdn c n:Int))∧Below w.heap.size w w':=by
 unfold i64 at h1
 have M:=Mm.init w
 go_enter Try.func11,Try.ntmps11
 go_upto_region 0 with fail; refine wp_region_list ?_; refine xpL (.int .i64 0) ?_; refine xT ?_
 by_cases hc:c<0
 · go_upto_region 1 with fail
   refine wp_region_list ?_; refine xpL (.int .i64 c) ?_; refine xaL (.bool true) (lssI .i64 _ _ _ _ _ _ rfl rfl rfl true (decide_eq_true hc) _) ?_; refine xT ?_; go_upto_region 2 with fail; refine wp_region_list ?_; refine xpL (.int .i64 c) ?_; refine xaL (.int .i64 (c+1)) (addI .i64 _ _ _ _ _ _ _ rfl rfl rfl (by rw [xw6]; omega) _) ?_
   refine xaL (.int .i64 (-(c+1))) (negI .i64 _ _ _ _ rfl rfl (by rw [xw6]; omega) _) ?_; refine xpL (.int .i64 (-(c+1))) ?_; refine xT ?_
   have hrem:(-(c+1)).tmod (n:Int)=((kdn c n:Nat):Int):=by
    unfold kdn
    rw [if_pos hc]
    obtain ⟨m,hm⟩:∃ m:Nat,-(c+1)=(m:Int):=⟨(-(c+1)).toNat,by omega⟩
    rw [hm,Int.toNat_natCast]
    rfl
   go_upto_region 3 with fail; refine wp_region_list ?_; refine xpL (.int .i64 (-(c+1))) ?_; refine xpL (.int .i64 (n:Int)) ?_; refine xaL (.int .i64 ((kdn c n:Nat):Int)) (remI .i64 _ _ _ _ _ _ _ rfl rfl rfl (by omega) hrem _) ?_; refine xpL (.int .i64 ((kdn c n:Nat):Int)) ?_; refine xT ?_; have hB:=M.below; clear M; go_wp2; go_ret
   exact ⟨rfl,hB⟩
 · go_upto_region 1 with fail
   refine wp_region_list ?_; refine xpL (.int .i64 c) ?_; refine xaL (.bool false) (lssI .i64 _ _ _ _ _ _ rfl rfl rfl false (decide_eq_false hc) _) ?_; refine xT ?_
   have hrem:(c).tmod (n:Int)=((kdn c n:Nat):Int):=by
    unfold kdn
    rw [if_neg hc]
    obtain ⟨m,hm⟩:∃ m:Nat,c=(m:Int):=⟨(c).toNat,by omega⟩
    rw [hm,Int.toNat_natCast]
    rfl
   go_upto_region 3 with fail; refine wp_region_list ?_; refine xpL (.int .i64 c) ?_; refine xpL (.int .i64 (n:Int)) ?_; refine xaL (.int .i64 ((kdn c n:Nat):Int)) (remI .i64 _ _ _ _ _ _ _ rfl rfl rfl (by omega) hrem _) ?_; refine xpL (.int .i64 ((kdn c n:Nat):Int)) ?_; refine xT ?_; have hB:=M.below; clear M; go_wp2; go_ret
   exact ⟨rfl,hB⟩
theorem same21_any (rl:List (Int × Int)) (hln:rl.length<1000000000) (b1_ b2_:Nat) (p1 p2:Option Addr) (c1 c2:Nat) (w:World) (N1:NewW w b1_ rl (.slice p1 rl.length c1)) (N2:NewW w b2_ rl (.slice p2 rl.length c2)) :
 Calls Try.prog 14 #[.slice p1 rl.length c1,.slice p2 rl.length c2] w fun e w'=>e=.returned (.bool true)∧Below w.heap.size w w':=by
 have M:=Mm.init w
 go_enter Try.func14,Try.ntmps14
 go_upto_region 0 with fail; refine wp_region_list ?_; refine xpL (.bool false) ?_; refine xT ?_; go_upto_region 1 with fail; refine wp_region_list ?_; refine xpL (.slice p1 rl.length c1) ?_; refine xaL (.int .i64 ((rl.length:Nat):Int)) (lenS _ 28 38 p1 rl.length c1 rfl Try.underlying28 rfl _) ?_; refine xpL (.slice p2 rl.length c2) ?_
 refine xaL (.int .i64 ((rl.length:Nat):Int)) (lenS _ 28 38 p2 rl.length c2 rfl Try.underlying28 rfl _) ?_; refine xaL (.bool false) (neqI .i64 _ _ _ _ _ _ rfl rfl rfl false (by simp) _) ?_; refine xT ?_; go_upto_region 3 with fail; refine wp_region_list ?_; refine xpL (.int .i64 0) ?_; refine xT ?_; have HI:=show Hid _ from (And.intro N1 (And.intro N2 M.below)); clear M N1 N2; go_wp2
 go_loopw [5] (fun i w'=>∃ i':Nat,i'≤rl.length∧i=.int .i64 (i':Int)∧NewW w' b1_ rl (.slice p1 rl.length c1)∧NewW w' b2_ rl (.slice p2 rl.length c2)∧Below w.heap.size w w') (fun i _=>rl.length-(intOf i).toNat)
 case atStart=>exact ⟨0,Nat.zero_le _,rfl,HI.out⟩
 case round =>
  clear HI
  obtain ⟨i,hi,rfl,N1,N2,hB⟩:=hrel
  by_cases hil:i<rl.length
  · obtain ⟨pr,hpr⟩:∃ pr,rl[i]?=some pr:=⟨_,List.getElem?_eq_getElem hil⟩
    obtain ⟨adr1,rfl,_,_⟩:=NewW.at N1 hpr
    obtain ⟨adr2,rfl,_,_⟩:=NewW.at N2 hpr
    have M:=(Mm.init w).call hB; go_upto_region 4 with fail; refine wp_region_list ?_; refine xpL (.int .i64 (i:Int)) ?_; refine xpL (.slice (some adr1) rl.length c1) ?_; refine xaL (.int .i64 ((rl.length:Nat):Int)) (lenS _ 28 38 (some adr1) rl.length c1 rfl Try.underlying28 rfl _) ?_; refine xaL (.bool true) (lssI .i64 _ _ _ _ _ _ rfl rfl rfl true (decide_eq_true (by omega)) _) ?_
    refine xT ?_; have N_1:=N1; have N_2:=N2; clear N1 N2; go_upto_region 6 with fail; refine wp_region_held_drew (S:=fun w'=>NewW w' b1_ rl (.slice (some adr1) rl.length c1)∧NewW w' b2_ rl (.slice (some adr2) rl.length c2)) (by kernel_rfl) ⟨NewW.below N_1 (Below.refl _ _).drew,NewW.below N_2 (Below.refl _ _).drew⟩ ?_; intro _; replace M:=M.drew
    have hdr:=(Below.refl wr.heap.size wr).drew; replace N_1:=NewW.below N_1 hdr; replace N_2:=NewW.below N_2 hdr; clear hdr; generalize wr.drew=w1 at M N_1 N_2 ⊢; refine xrH 0 17 rfl (.slice (some adr1) rl.length c1) (fun _ ⟨hS1,hS2⟩=>(by kernel_rfl)) ⟨N_1,N_2⟩ ?_; refine xrH 1 18 rfl (.int .i64 (i:Int)) (fun _ ⟨hS1,hS2⟩=>(by kernel_rfl)) ⟨N_1,N_2⟩ ?_
    refine xrH 2 19 rfl (.pointer (some (adr1.add (i*2)))) (fun _ ⟨hS1,hS2⟩=>idxR2 adr1 _ _ i hil _ _ rfl rfl rfl _) ⟨N_1,N_2⟩ ?_; refine xrH 3 20 rfl (.agg #[.int .i64 pr.1,.int .i64 pr.2]) (fun _ ⟨hS1,hS2⟩=>loadN 38 _ (adr1.add (i*2)) [.int .i64 pr.1,.int .i64 pr.2] rfl rfl (fun _=>by kernel_rfl) (fun _=>by kernel_rfl) (NewW.rng hS1 hpr)) ⟨N_1,N_2⟩ ?_
    refine xrH 4 21 rfl (.slice (some adr2) rl.length c2) (fun _ ⟨hS1,hS2⟩=>(by kernel_rfl)) ⟨N_1,N_2⟩ ?_; refine xrH 5 22 rfl (.int .i64 (i:Int)) (fun _ ⟨hS1,hS2⟩=>(by kernel_rfl)) ⟨N_1,N_2⟩ ?_; refine xrH 6 23 rfl (.pointer (some (adr2.add (i*2)))) (fun _ ⟨hS1,hS2⟩=>idxR2 adr2 _ _ i hil _ _ rfl rfl rfl _) ⟨N_1,N_2⟩ ?_
    refine xrH 7 24 rfl (.agg #[.int .i64 pr.1,.int .i64 pr.2]) (fun _ ⟨hS1,hS2⟩=>loadN 38 _ (adr2.add (i*2)) [.int .i64 pr.1,.int .i64 pr.2] rfl rfl (fun _=>by kernel_rfl) (fun _=>by kernel_rfl) (NewW.rng hS2 hpr)) ⟨N_1,N_2⟩ ?_; refine xrH 8 25 rfl (.bool false) (fun _ ⟨hS1,hS2⟩=>neqRg _ _ _ _ rfl rfl rfl _) ⟨N_1,N_2⟩ ?_
    refine wpAnyH_done (by kernel_rfl) ?_ _
    first | show Exit.then _ _ _ _ _ | show Exit.inBlock _ _ _ _ _
    have HS:=show Hid _ from (And.intro N_1 (And.intro N_2 M.below)); clear M N_1 N_2; go_wp2
    go_roundw
    case rel=>exact ⟨i+1,by omega,by go_num,HS.out⟩
    case measure=>simp [intOf]; omega
  · have M:=(Mm.init w).call hB
    clear N1 N2; go_upto_region 4 with fail; refine wp_region_list ?_; refine xpL (.int .i64 (i:Int)) ?_; refine xpL (.slice p1 rl.length c1) ?_; refine xaL (.int .i64 ((rl.length:Nat):Int)) (lenS _ 28 38 p1 rl.length c1 rfl Try.underlying28 rfl _) ?_; refine xaL (.bool false) (lssI .i64 _ _ _ _ _ _ rfl rfl rfl false (decide_eq_false (by omega)) _) ?_; refine xT ?_
    go_upto_region 8 with fail; refine wp_region_list ?_; refine xpL (.bool true) ?_; refine xT ?_; have hbel:=M.below; clear M; go_wp2; go_ret
    exact ⟨rfl,hbel⟩
theorem Mm.newWt {w0 w:World} {l:List (Nat × List Value)} {B cap:Nat} {cs:List Value} (M:Mm w0 l w) (hp:(B,cs)∈l) (L:List (Int × Int)) (hL:cs=wrc L) (hc:L.length≤cap):NewW w 0 L (.slice (some ⟨B,0,none⟩) L.length cap) :=
 ⟨_,_,rfl,hc,fun e=>(by cases e),fun j u hu=>⟨_,rfl,by rw [Addr.add_mid,Nat.zero_add]; exact M.get hp j u (by rw [hL]; exact hu)⟩,fun a e=>(by cases e; exact ⟨Nat.zero_le _,M.lt hp⟩)⟩
end Go.Proofs.Ytmedjdadhmdpgaa
