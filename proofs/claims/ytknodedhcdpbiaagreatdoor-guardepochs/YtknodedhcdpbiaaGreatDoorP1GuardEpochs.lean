/- Texts of Base Pz Adds Wd Cm Cn Cl Cf Step Kr Pt Wo Wp Wq Cs Co Cp, joined. -/
import Derived.WalkSpells
import Derived.Deep.RegionHeld3
import Derived.Test.YtknodedhcdpbiaaGreatDoorProg
import Derived.Lib.Mul64
import Derived.Deep.Cut
import Derived.Stop.BytesEq
import Derived.BigQuiet
set_option maxRecDepth 20000
set_option maxHeartbeats 64000000
namespace Go.Proofs.YtknodedhcdpbiaaGreatDoor
open Go.RowKit
theorem aP (a : Act) (d : Tmp) (v : Value) : a.put (some d) v = { a with tmps := a.tmps.setIfInBounds d v } := rfl
theorem lI (l : List Value) (i : Nat) (v : Value) : l.toArray.setIfInBounds i v = (l.set i v).toArray := List.setIfInBounds_toArray l i v
theorem l0 (x v : Value) (l : List Value) : (x :: l).set 0 v = v :: l := rfl
theorem lS (x v : Value) (l : List Value) (n : Nat) : (x :: l).set (n + 1) v = x :: l.set n v := rfl
theorem xT {P : Program} {ops : Array Oper} {Q : Exit → Act → World → Prop} {a : Act} {w : World} (h : Q .normal a w) : wpList P ops Q [] a w := h
theorem fN {α : Type} {p : α → Prop} : ∀ x ∈ ([] : List α), p x := fun _ h => absurd h List.not_mem_nil
theorem mI {α : Type} {l : List α} (i : Nat) {x : α} (h : l[i]? = some x) : x ∈ l := List.mem_of_getElem? h
theorem mS {α : Type} {a : α} {l : List α} : a ∈ a :: l := List.mem_cons_self
theorem mT {α : Type} (y : α) {a : α} {l : List α} (h : a ∈ l) : a ∈ y :: l := List.mem_cons_of_mem y h
theorem fC {α : Type} {p : α → Prop} {a : α} {l : List α} (h : p a ∧ ∀ x ∈ l, p x) : ∀ x ∈ a :: l, p x := List.forall_mem_cons.2 h
theorem xm1 {α : Type} {a b : α} (h : a ∈ [b]) : a = b := List.mem_singleton.1 h
theorem xc1 {α : Type} {a b : α} {l : List α} (h : a ∈ b :: l) : a = b ∨ a ∈ l := List.mem_cons.1 h
theorem xnR (n : Nat) : n ≤ n := Nat.le_refl n
theorem xnT {a b c : Nat} (h : a ≤ b) (g : b ≤ c) : a ≤ c := Nat.le_trans h g
theorem xnL {a b c : Nat} (h : a < b) (g : b ≤ c) : a < c := Nat.lt_of_lt_of_le h g
theorem xnZ (n : Nat) : ¬ n < 0 := Nat.not_lt_zero n
theorem xw6 (n : Int) : IntKind.i64.wrap n = (n + 9223372036854775808) % 18446744073709551616 - 9223372036854775808 := IntKind.wrap_i64 n
theorem xiN {a : Int} (h : 0 ≤ a) : ∃ n : Nat, a = n := Int.eq_ofNat_of_zero_le h
theorem xbA (a b : Bool) : ((a && b) = true) = (a = true ∧ b = true) := Bool.and_eq_true a b
abbrev zi64_5 : Array Value := #[.int .i64 0, .int .i64 0, .int .i64 0, .int .i64 0, .int .i64 0]
abbrev zu32_8 : Array Value := #[.int .u32 0, .int .u32 0, .int .u32 0, .int .u32 0, .int .u32 0, .int .u32 0, .int .u32 0, .int .u32 0]
abbrev zu32_16 : Array Value := #[.int .u32 0, .int .u32 0, .int .u32 0, .int .u32 0, .int .u32 0, .int .u32 0, .int .u32 0, .int .u32 0, .int .u32 0, .int .u32 0, .int .u32 0, .int .u32 0, .int .u32 0, .int .u32 0, .int .u32 0, .int .u32 0]
abbrev zu64_6 : Array Value := #[.int .u64 0, .int .u64 0, .int .u64 0, .int .u64 0, .int .u64 0, .int .u64 0]
abbrev zu64_16 : Array Value := #[.int .u64 0, .int .u64 0, .int .u64 0, .int .u64 0, .int .u64 0, .int .u64 0, .int .u64 0, .int .u64 0, .int .u64 0, .int .u64 0, .int .u64 0, .int .u64 0, .int .u64 0, .int .u64 0, .int .u64 0, .int .u64 0]
abbrev zu8_11 : Array Value := #[.int .u8 0, .int .u8 0, .int .u8 0, .int .u8 0, .int .u8 0, .int .u8 0, .int .u8 0, .int .u8 0, .int .u8 0, .int .u8 0, .int .u8 0]
abbrev zu8_12 : Array Value := #[.int .u8 0, .int .u8 0, .int .u8 0, .int .u8 0, .int .u8 0, .int .u8 0, .int .u8 0, .int .u8 0, .int .u8 0, .int .u8 0, .int .u8 0, .int .u8 0]
abbrev zu8_16 : Array Value := #[.int .u8 0, .int .u8 0, .int .u8 0, .int .u8 0, .int .u8 0, .int .u8 0, .int .u8 0, .int .u8 0, .int .u8 0, .int .u8 0, .int .u8 0, .int .u8 0, .int .u8 0, .int .u8 0, .int .u8 0, .int .u8 0]
abbrev zu8_17 : Array Value := #[.int .u8 0, .int .u8 0, .int .u8 0, .int .u8 0, .int .u8 0, .int .u8 0, .int .u8 0, .int .u8 0, .int .u8 0, .int .u8 0, .int .u8 0, .int .u8 0, .int .u8 0, .int .u8 0, .int .u8 0, .int .u8 0, .int .u8 0]
abbrev zu8_32 : Array Value := #[.int .u8 0, .int .u8 0, .int .u8 0, .int .u8 0, .int .u8 0, .int .u8 0, .int .u8 0, .int .u8 0, .int .u8 0, .int .u8 0, .int .u8 0, .int .u8 0, .int .u8 0, .int .u8 0, .int .u8 0, .int .u8 0, .int .u8 0, .int .u8 0, .int .u8 0, .int .u8 0, .int .u8 0, .int .u8 0, .int .u8 0, .int .u8 0, .int .u8 0, .int .u8 0, .int .u8 0, .int .u8 0, .int .u8 0, .int .u8 0, .int .u8 0, .int .u8 0]
abbrev zu8_64 : Array Value := #[.int .u8 0, .int .u8 0, .int .u8 0, .int .u8 0, .int .u8 0, .int .u8 0, .int .u8 0, .int .u8 0, .int .u8 0, .int .u8 0, .int .u8 0, .int .u8 0, .int .u8 0, .int .u8 0, .int .u8 0, .int .u8 0, .int .u8 0, .int .u8 0, .int .u8 0, .int .u8 0, .int .u8 0, .int .u8 0, .int .u8 0, .int .u8 0, .int .u8 0, .int .u8 0, .int .u8 0, .int .u8 0, .int .u8 0, .int .u8 0, .int .u8 0, .int .u8 0, .int .u8 0, .int .u8 0, .int .u8 0, .int .u8 0, .int .u8 0, .int .u8 0, .int .u8 0, .int .u8 0, .int .u8 0, .int .u8 0, .int .u8 0, .int .u8 0, .int .u8 0, .int .u8 0, .int .u8 0, .int .u8 0, .int .u8 0, .int .u8 0, .int .u8 0, .int .u8 0, .int .u8 0, .int .u8 0, .int .u8 0, .int .u8 0, .int .u8 0, .int .u8 0, .int .u8 0, .int .u8 0, .int .u8 0, .int .u8 0, .int .u8 0, .int .u8 0]
def row (k:IntKind) (n:Nat) (f:Nat→Int):List Value:=(List.range n).map fun j=>.int k (f j)
theorem row_length (k:IntKind) (n:Nat) (f:Nat→Int):(row k n f).length=n:=by simp [row]
theorem row_get (k:IntKind) (n:Nat) (f:Nat→Int) (j:Nat) (h:j<n):(row k n f)[j]?=some (.int k (f j)):=by simp [row,h]
theorem row_get_some {k:IntKind} {n:Nat} {f:Nat→Int} {j:Nat} {v:Value} (h:(row k n f)[j]?=some v):j<n∧v=.int k (f j):=by
 have hj:j<n:=by
  have:=(List.getElem?_eq_some_iff.1 h).1
  rw [row_length] at this; exact this
 rw [row_get k n f j hj] at h
 exact ⟨hj,(Option.some.inj h).symm⟩
theorem row_congr (k:IntKind) (n:Nat) {f g:Nat→Int} (h:∀ j,j<n→f j=g j):row k n f=row k n g:=by
 unfold row
 refine List.map_congr_left fun j hj=>?_
 rw [h j (List.mem_range.1 hj)]
theorem row_one (k:IntKind) (n:Nat) (f:Nat→Int):∀ v∈row k n f,v.oneCell'=true:=by
 intro v hv
 obtain ⟨j,_,rfl⟩:=List.mem_map.1 hv
 rfl
structure Has (w:World) (b:Nat) (k:IntKind) (n:Nat) (f:Nat→Int):Prop where
 cell:∀ j,j<n→w.cell? ⟨b,j,none⟩=some (.int k (f j))
 free:∀ j,j<n→w.frozen? ⟨b,j,none⟩=false
def upd (f:Nat→Int) (i:Nat) (x:Int):Nat→Int:=fun j=>if j=i then x else f j
theorem upd_same (f:Nat→Int) (i:Nat) (x:Int):upd f i x i=x:=by simp [upd]
theorem upd_other (f:Nat→Int) (i:Nat) (x:Int) (j:Nat) (h:j≠i):upd f i x j=f j:=by simp [upd,h]
theorem Has.drew {w:World} {b:Nat} {k:IntKind} {n:Nat} {f:Nat→Int} (h:Has w b k n f):Has w.drew b k n f:=⟨h.cell,h.free⟩
theorem Has.congr {w:World} {b:Nat} {k:IntKind} {n:Nat} {f g:Nat→Int} (h:Has w b k n f) (e:∀ j,j<n→f j=g j):Has w b k n g :=
 ⟨fun j hj=>by rw [← e j hj]; exact h.cell j hj,h.free⟩
theorem Has.new (w:World) (k:IntKind) (n:Nat) (f:Nat→Int) (t:TypeId) (b:Nat) (hb:b=w.heap.size):Has (w.alloc (.cells (row k n f).toArray t)) b k n f :=
 ⟨fun j hj=>by rw [World.cell?_alloc_at _ _ _ _ hb]; simpa using row_get k n f j hj,fun j _=>by rw [World.frozen?_alloc_at _ _ _ _ hb]⟩
theorem Has.alloc {w:World} {b:Nat} {k:IntKind} {n:Nat} {f:Nat→Int} (h:Has w b k n f) (o:Obj) (hb:b<w.heap.size):Has (w.alloc o) b k n f :=
 ⟨fun j hj=>by rw [World.cell?_alloc_past _ _ _ hb]; exact h.cell j hj,fun j hj=>by rw [World.frozen?_alloc_past _ _ _ hb]; exact h.free j hj⟩
theorem Has.below {w w':World} {b:Nat} {k:IntKind} {n:Nat} {f:Nat→Int} (h:Has w b k n f) {B:Nat} (hl:Below B w w') (hb:b<B):Has w' b k n f :=
 ⟨fun j hj=>by rw [hl.cell (p:=⟨b,j,none⟩) hb]; exact h.cell j hj,fun j hj=>by rw [hl.frozen (p:=⟨b,j,none⟩) hb]; exact h.free j hj⟩
theorem Has.set {w:World} {b:Nat} {k:IntKind} {n:Nat} {f:Nat→Int} (h:Has w b k n f) (i:Nat) (hi:i<n) (x:Int):Has (w.setCell ⟨b,i,none⟩ (.int k x)) b k n (upd f i x) :=
 ⟨fun j hj=>by
  by_cases e:j=i
  · subst e; rw [upd_same,World.cell?_setCell_same _ _ _ (h.cell j hj)]
  · rw [upd_other _ _ _ _ e,World.cell?_setCell_other _ _ _ _ (by intro h'; exact e (by injection h' with _ h2; exact h2.symm))]; exact h.cell j hj,
  fun j hj=>by rw [World.frozen?_setCell]; exact h.free j hj⟩
theorem Has.set_other {w:World} {b:Nat} {k:IntKind} {n:Nat} {f:Nat→Int} (h:Has w b k n f) (p:Addr) (v:Value) (hp:p.block≠b):Has (w.setCell p v) b k n f :=
 ⟨fun j hj=>by rw [World.cell?_setCell_other _ _ _ _ (by intro h'; exact hp (by rw [h']))]; exact h.cell j hj,fun j hj=>by rw [World.frozen?_setCell]; exact h.free j hj⟩
theorem Has.range {w:World} {b:Nat} {k:IntKind} {n:Nat} {f:Nat→Int} (h:Has w b k n f):w.rangeAt b 0 (row k n f):=fun j v hv=>by
 obtain ⟨hj,rfl⟩:=row_get_some hv
 rw [Nat.zero_add]; exact h.cell j hj
theorem Has.there {w:World} {b:Nat} {k:IntKind} {n:Nat} {f:Nat→Int} (h:Has w b k n f):w.there b 0 n:=fun j hj=>by
 rw [Nat.zero_add,h.cell j hj]; exact ⟨rfl,h.free j hj⟩
theorem Has.all {w:World} {b:Nat} {n:Nat} (ht:w.there b 0 n) (k:IntKind) (g:Nat→Int):Has (w.setCells b 0 (row k n g)) b k n g :=
 ⟨fun j hj=>by
  have:=World.rangeAt_setCells_same w b 0 (row k n g) (by rw [row_length]; exact ht) j _ (row_get k n g j hj)
  rw [Nat.zero_add] at this; exact this,
  fun j hj=>by rw [World.frozen?_setCells]; have:=(ht j hj).2; rw [Nat.zero_add] at this; exact this⟩
theorem results_row {P:Program} {fn:Func} {tmps:Array Value} {w:World} {a:Tmp} {ty:TypeId} {b:Nat} {cs:List Value} {d:TypeDesc} (hr:fn.results=#[.cell a ty])
 (ht:tmps.getD a undef=.pointer (some ⟨b,0,none⟩)) (hc:w.rangeAt b 0 cs) (hu:P.underlying ty=some d) (hd:d.isRow=true) (hi:(P.info? ty).map (·.size)=some cs.length) :
 (results fn tmps).run P w=.ok (.agg cs.toArray) w:=by
 have hl:=run_loadVar_mid (P:=P) w b 0 ty cs d hc hu hd hi
 rw [Array.getD_eq_getD_getElem?] at ht
 simp [results,hr,ht,asAddr,hl]
theorem results_row_tmp {P:Program} {fn:Func} {tmps:Array Value} {w:World} {a t:Tmp} {ty:TypeId} {b:Nat} {cs:List Value} {d:TypeDesc} {v:Value} (hr:fn.results=#[.cell a ty,.tmp t])
 (ht:tmps.getD a undef=.pointer (some ⟨b,0,none⟩)) (hv:tmps.getD t undef=v) (hc:w.rangeAt b 0 cs) (hu:P.underlying ty=some d) (hd:d.isRow=true) (hi:(P.info? ty).map (·.size)=some cs.length) :
 (results fn tmps).run P w=.ok (.tuple #[.agg cs.toArray,v]) w:=by
 have hl:=run_loadVar_mid (P:=P) w b 0 ty cs d hc hu hd hi
 rw [Array.getD_eq_getD_getElem?] at ht hv
 simp [results,hr,ht,hv,asAddr,hl]
theorem below_setAll {B:Nat} {w w':World} (h:Below B w w') (b:Nat) (hb:B≤b):∀ (o:Nat) (vs:List Value),Below B w (w'.setCells b o vs)
 | _,[]=>h
 | o,v::vs=>by
   rw [World.setCells]
   exact below_setAll (h.setCell (by simpa using hb) v) b hb (o+1) vs
theorem size_setAll (b:Nat):∀ (o:Nat) (vs:List Value) (w:World),(w.setCells b o vs).heap.size=w.heap.size
 | _,[],_=>rfl
 | o,v::vs,w=>by rw [World.setCells,size_setAll b (o+1) vs]; simp
theorem Has.setAll_other {w:World} {b:Nat} {k:IntKind} {n:Nat} {f:Nat→Int} (h:Has w b k n f) (b':Nat) (hb:b'≠b):∀ (o:Nat) (vs:List Value),Has (w.setCells b' o vs) b k n f
 | _,[]=>h
 | o,v::vs=>by
   rw [World.setCells]
   exact Has.setAll_other (h.set_other _ v hb) b' hb (o+1) vs
structure Fr (w:World) (k:Nat) (w':World):Prop where
 below:Below w.heap.size w w'
 size:w.heap.size+k≤w'.heap.size
theorem Fr.refl (w:World):Fr w 0 w:=⟨Below.refl _ _,by omega⟩
theorem Fr.alloc {w w':World} {k:Nat} (h:Fr w k w') (o:Obj):Fr w (k+1) (w'.alloc o):=⟨h.below.alloc (by have:=h.size; omega) _,by have:=h.size; simp; omega⟩
theorem Fr.drew {w w':World} {k:Nat} (h:Fr w k w'):Fr w k w'.drew:=⟨h.below.drew,h.size⟩
theorem Fr.set {w w':World} {k:Nat} (h:Fr w k w') (p:Addr) (v:Value) (hp:w.heap.size≤p.block):Fr w k (w'.setCell p v):=⟨h.below.setCell hp v,by have:=h.size; simp; omega⟩
theorem Fr.setAll {w w':World} {k:Nat} (h:Fr w k w') (b:Nat) (hb:w.heap.size≤b) (vs:List Value):Fr w k (w'.setCells b 0 vs):=⟨below_setAll h.below b hb 0 vs,by rw [size_setAll]; exact h.size⟩
theorem Fr.call {w w' w'':World} {k:Nat} (h:Fr w k w') (l:Below w'.heap.size w' w''):Fr w k w'' :=
 ⟨h.below.trans (l.mono (by have:=h.size; omega)),by have:=h.size; have:=l.size; omega⟩
theorem Has.call {w w' w'':World} {k':Nat} {b:Nat} {k:IntKind} {n:Nat} {f:Nat→Int} (h:Has w' b k n f) (g:Fr w k' w') (l:Below w'.heap.size w' w'') (hb:b<w.heap.size+k'):Has w'' b k n f :=
 h.below l (by have:=g.size; omega)
def In (M:Int) (n:Nat) (f:Nat→Int):Prop:=∀ j,j<n→0≤f j∧f j<M
theorem In.upd {M:Int} {n:Nat} {f:Nat→Int} (h:In M n f) (i:Nat) (x:Int) (h0:0≤x) (h1:x<M):In M n (upd f i x):=fun j hj=>by
 by_cases e:j=i
 · subst e; rw [upd_same]; exact ⟨h0,h1⟩
 · rw [upd_other _ _ _ _ e]; exact h j hj
def val (M:Int) (f:Nat→Int):Nat→Int
 | 0=>0
 | n+1=>val M f n+M^n*f n
theorem val_congr (M:Int) {f g:Nat→Int}:∀ n,(∀ j,j<n→f j=g j)→val M f n=val M g n
 | 0,_=>rfl
 | n+1,h=>by
   simp only [val]
   rw [val_congr M n (fun j hj=>h j (by omega)),h n (by omega)]
theorem val_upd (M:Int) (f:Nat→Int) (i:Nat) (x:Int) (n:Nat) (h:n≤i):val M (upd f i x) n=val M f n :=
 val_congr M n fun j hj=>upd_other _ _ _ _ (by omega)
theorem pow_nonneg (M:Int) (h:0<M):∀ n:Nat,0<M^n
 | 0=>by simp
 | n+1=>by rw [Int.pow_succ]; exact Int.mul_pos (pow_nonneg M h n) h
theorem val_in (M:Int) (hM:0<M) (f:Nat→Int):∀ n,In M n f→0≤val M f n∧val M f n<M^n
 | 0,_=>by simp [val]
 | n+1,h=>by
   have ih:=val_in M hM f n (fun j hj=>h j (by omega)); have hn:=h n (by omega); have hp:=pow_nonneg M hM n; simp only [val]
   rw [Int.pow_succ]
   have h1:0≤M^n*f n:=Int.mul_nonneg (by omega) hn.1
   have h2:M^n*(f n+1)≤M^n*M:=Int.mul_le_mul_of_nonneg_left (by omega) (by omega)
   rw [Int.mul_add,Int.mul_one] at h2
   omega
theorem val_inj (M:Int) (hM:0<M) (f g:Nat→Int):∀ n,In M n f→In M n g→val M f n=val M g n→∀ j,j<n→f j=g j
 | 0,_,_,_=>fun j hj=>by omega
 | n+1,hf,hg,h=>by
   have bf:=val_in M hM f n (fun j hj=>hf j (by omega)); have bg:=val_in M hM g n (fun j hj=>hg j (by omega)); have hp:=pow_nonneg M hM n
   simp only [val] at h
   have e:f n=g n:=by
    by_cases hlt:f n<g n
    · have:M^n*(f n+1)≤M^n*g n:=Int.mul_le_mul_of_nonneg_left (by omega) (by omega)
      rw [Int.mul_add,Int.mul_one] at this; omega
    · by_cases hgt:g n<f n
      · have:M^n*(g n+1)≤M^n*f n:=Int.mul_le_mul_of_nonneg_left (by omega) (by omega)
        rw [Int.mul_add,Int.mul_one] at this; omega
      · omega
   have e2:val M f n=val M g n:=by rw [e] at h; omega
   intro j hj
   by_cases hjn:j=n
   · subst hjn; exact e
   · exact val_inj M hM f g n (fun j hj=>hf j (by omega)) (fun j hj=>hg j (by omega)) e2 j (by omega)
def padz (len:Nat) (z:Nat→Int):Nat→Int:=fun j=>if j<len then z j else 0
theorem padz_in (len:Nat) (z:Nat→Int) (hz:In 256 len z) (n:Nat):In 256 n (padz len z):=fun j _=>by
 unfold padz
 split
 · exact hz j (by assumption)
 · omega
abbrev W:Int:=18446744073709551616
def aLo (x y c:Int):Int:=(x+y+c)%18446744073709551616
def aHi (x y c:Int):Int:=(x+y+c)/18446744073709551616
theorem add64 (x y c:Int) (hx:0≤x) (hy:0≤y) (hc0:0≤c) (hc:c≤1) (w:World):(callFunc 104 #[.int .u64 x,.int .u64 y,.int .u64 c]).run Tryz.prog w =
 .ok (.value (.tuple #[.int .u64 (aLo x y c),.int .u64 (aHi x y c)])) w:=by
 rw [run_callFunc_extern Tryz.func104 (by kernel_rfl) (by kernel_rfl) (by kernel_rfl) (e:=add64Entry) (by kernel_rfl),run_add64 x y c hx hy hc0 hc]
 rfl
def sLo (x y c:Int):Int:=(x-y-c)%18446744073709551616
def sHi (x y c:Int):Int:=if x<y+c then 1 else 0
def subEntry:Array Value→Sem Value:=(Extern.MathBitsCarry.rows.getLast (by simp [Extern.MathBitsCarry.rows])).2
theorem run_subEntry (x y b:Nat) (hb:b≤1) (w:World) :
 (subEntry #[.int .u64 x,.int .u64 y,.int .u64 b]).run Tryz.prog w =
  .ok (.tuple #[.int .u64 (((x+18446744073709551616-y-b)%18446744073709551616:Nat):Int),.int .u64 ((if x<y+b then 1 else 0:Nat):Int)]) w:=by
 have:b=0∨b=1:=by omega
 rcases this with rfl | rfl <;> rfl
theorem sub64 (x y c:Int) (hx:0≤x) (hy:0≤y) (hy':y<18446744073709551616) (hc0:0≤c) (hc:c≤1) (w:World):(callFunc 105 #[.int .u64 x,.int .u64 y,.int .u64 c]).run Tryz.prog w =
 .ok (.value (.tuple #[.int .u64 (sLo x y c),.int .u64 (sHi x y c)])) w:=by
 obtain ⟨x,rfl⟩:=xiN hx
 obtain ⟨y,rfl⟩:=xiN hy
 obtain ⟨c,rfl⟩:=xiN hc0
 have e1:(((x+18446744073709551616-y-c)%18446744073709551616:Nat):Int)=sLo x y c:=by unfold sLo; omega
 have e2:((if x<y+c then 1 else 0:Nat):Int)=sHi x y c:=by unfold sHi; split <;> split <;> omega
 rw [run_callFunc_extern Tryz.func105 (by kernel_rfl) (by kernel_rfl) (by kernel_rfl) (e:=subEntry) (by kernel_rfl),run_subEntry x y c (by omega),e1,e2]
 rfl
theorem low32 (a:Nat) (ha:a<18446744073709551616):bits .and .u64 (a:Int) 4294967295=((a%4294967296:Nat):Int):=by
 have e:a &&& 4294967295=a%4294967296:=Nat.and_two_pow_sub_one_eq_mod a 32
 rw [← e]; exact u64_and_nat a 4294967295 ha (by omega)
theorem high32 (a:Nat):(a:Int)/4294967296=((a/4294967296:Nat):Int):=by omega
theorem castMul (a b:Nat):(a:Int)*(b:Int)=((a*b:Nat):Int):=by omega
theorem castAdd (a b:Nat):(a:Int)+(b:Int)=((a+b:Nat):Int):=by omega
theorem fits (a:Nat) (ha:a<18446744073709551616):IntKind.u64.wrap (a:Int)=(a:Int):=by rw [IntKind.wrap_u64]; omega
theorem folds (a:Nat):IntKind.u64.wrap (a:Int)=((a%18446744073709551616:Nat):Int):=by rw [IntKind.wrap_u64]; omega
theorem mul64_nat (x y:Nat) (hx:x<18446744073709551616) (hy:y<18446744073709551616) (w:World) :
 Calls Tryz.prog 111 #[.int .u64 x,.int .u64 y] w fun e w'=>e=.returned (.tuple #[.int .u64 ((x*y/18446744073709551616:Nat):Int),.int .u64 ((x*y%18446744073709551616:Nat):Int)])∧w'=w:=by
 have hall:=Lib.mul64_hi x y hx hy; have p11:=Lib.half_mul_le (a:=x/4294967296) (b:=y/4294967296) (by omega) (by omega); have p10:=Lib.half_mul_le (a:=x/4294967296) (b:=y%4294967296) (by omega) (by omega); have p01:=Lib.half_mul_le (a:=x%4294967296) (b:=y/4294967296) (by omega) (by omega); have q11:=fits (x/4294967296*(y/4294967296)) (by omega)
 have q10:=fits (x/4294967296*(y%4294967296)) (by omega); have q01:=fits (x%4294967296*(y/4294967296)) (by omega); have qa:=fits _ hall.1; have qb:=fits _ hall.2.1; have qc:=fits _ hall.2.2.1; have qd:=low32 _ hall.2.1
 have qe:=fits (x/4294967296*(y/4294967296)+(x/4294967296*(y%4294967296)+x%4294967296*(y%4294967296)/4294967296)/4294967296) (by omega)
 have qf:=fits (x/4294967296*(y/4294967296)+(x/4294967296*(y%4294967296)+x%4294967296*(y%4294967296)/4294967296)/4294967296+((x/4294967296*(y%4294967296)+x%4294967296*(y%4294967296)/4294967296)%4294967296+x%4294967296*(y/4294967296))/4294967296) (by omega); have qx:=low32 x hx; have qy:=low32 y hy
 have H:=show Hid _ from (And.intro q11 (And.intro q10 (And.intro q01 (And.intro qa (And.intro qb (And.intro qc (And.intro qd (And.intro qe (And.intro qf (And.intro qx (And.intro qy hall.2.2.2))))))))))); clear q11 q10 q01 qa qb qc qd qe qf qx qy hall p11 p10 p01
 go_enter Tryz.func111,Tryz.ntmps111
 go_wp2
 obtain ⟨q11,q10,q01,qa,qb,qc,qd,qe,qf,qx,qy,hh⟩:=H.out
 simp only [qx,qy,high32,castMul,castAdd,qa,q10,qb,qd,q01,qc,q11,qe,qf,folds (x*y)]
 rw [hh]
 go_ret2
 exact ⟨rfl,rfl⟩
def Prods (x y h l:Int):Prop:=0≤h∧h≤W-2∧0≤l∧l<W∧h*W+l=x*y
theorem mul64_any (x y:Int) (hx:0≤x) (hx':x<W) (hy:0≤y) (hy':y<W) (w:World) :
 Calls Tryz.prog 111 #[.int .u64 x,.int .u64 y] w fun e w'=>∃ h l:Int,e=.returned (.tuple #[.int .u64 h,.int .u64 l])∧Prods x y h l∧w'=w:=by
 simp only [W] at hx' hy'
 obtain ⟨x,rfl⟩:=xiN hx
 obtain ⟨y,rfl⟩:=xiN hy
 refine (mul64_nat x y (by omega) (by omega) w).mono ?_; rintro e w' ⟨rfl,rfl⟩
 have hle:x*y≤18446744073709551615*18446744073709551615:=Nat.mul_le_mul (by omega) (by omega)
 have hc:(x:Int)*(y:Int)=((x*y:Nat):Int):=(Int.natCast_mul x y).symm
 refine ⟨_,_,rfl,?_,rfl⟩
 unfold Prods
 rw [hc]
 simp only [W]; generalize x*y=z at *
 omega
def Steps (a b c d h l:Int):Prop:=0≤h∧h<W∧0≤l∧l<W∧h*W+l=a*b+c+d
theorem step_math {a b c d h l:Int} (hp:Prods a b h l) (hc:0≤c) (hc':c<W) (hd:0≤d) (hd':d<W) (ha:0≤a) (ha':a<W) (hb:0≤b) (hb':b<W) :
 IntKind.u64.wrap (h+aHi l c 0)=h+aHi l c 0∧IntKind.u64.wrap (h+aHi l c 0+aHi (aLo l c 0) d 0)=h+aHi l c 0+aHi (aLo l c 0) d 0∧Steps a b c d (h+aHi l c 0+aHi (aLo l c 0) d 0) (aLo (aLo l c 0) d 0):=by
 obtain ⟨h0,h1,l0,l1,e⟩:=hp
 have hab:a*b≤18446744073709551615*18446744073709551615:=Int.mul_le_mul (by simp only [W] at ha'; omega) (by simp only [W] at hb'; omega) hb (by omega)
 unfold Steps
 rw [IntKind.wrap_u64,IntKind.wrap_u64]
 unfold aHi aLo
 simp only [W] at *
 generalize a*b=p at *
 refine ⟨by omega,by omega,by omega⟩
theorem step_any (a b c d:Int) (ha:0≤a) (ha':a<W) (hb:0≤b) (hb':b<W) (hc:0≤c) (hc':c<W) (hd:0≤d) (hd':d<W) (w:World) :
 Calls Tryz.prog 102 #[.int .u64 a,.int .u64 b,.int .u64 c,.int .u64 d] w fun e w'=>∃ h l:Int,e=.returned (.tuple #[.int .u64 h,.int .u64 l])∧Steps a b c d h l∧w'=w:=by
 go_enter Tryz.func102,Tryz.ntmps102
 go_wp2_with fail
 refine (mul64_any a b ha ha' hb hb' _).mono ?_; rintro e w' ⟨h,l,rfl,hp,rfl⟩
 obtain ⟨k1,k2,hs⟩:=step_math hp hc hc' hd hd' ha ha' hb hb'
 have hadd1:=add64 l c 0 hp.2.2.1 hc (Int.le_refl 0) (by decide); have hadd2:=add64 (aLo l c 0) d 0 (by unfold aLo; omega) hd (Int.le_refl 0) (by decide); clear ha ha' hb hb' hc hc' hd hd'; generalize aLo (aLo l c 0) d 0=lo at *; generalize aHi (aLo l c 0) d 0=c2 at *; generalize aLo l c 0=lo1 at *; generalize aHi l c 0=c1 at *; go_wp2; go_ret2
 exact ⟨_,_,rfl,hs,rfl⟩
theorem pick64 (z x cv:Int) (hz:0≤z) (hz':z<W) (hx:0≤x) (hx':x<W) (hc:cv=0∨cv=1) :
 bits BinOp.xor IntKind.u64 z (bits BinOp.and IntKind.u64 (IntKind.u64.wrap (-cv)) (bits BinOp.xor IntKind.u64 z x))=if cv=1 then x else z:=by
 simp only [W] at hz' hx'
 obtain ⟨z,rfl⟩:=xiN hz
 obtain ⟨x,rfl⟩:=xiN hx
 have hzn:z<2^64:=by omega
 have hxn:x<2^64:=by omega
 have hy:z ^^^ x<18446744073709551616:=Nat.xor_lt_two_pow hzn hxn
 rw [u64_xor_nat z x (by omega) (by omega)]
 rcases hc with rfl | rfl
 · have e:IntKind.u64.wrap (-0)=((0:Nat):Int):=by rw [IntKind.wrap_u64]; rfl
   rw [e,u64_and_nat 0 _ (by omega) hy,Nat.zero_and,u64_xor_nat z 0 (by omega) (by omega),Nat.xor_zero]
   simp
 · have e:IntKind.u64.wrap (-1)=((18446744073709551615:Nat):Int):=by rw [IntKind.wrap_u64]; rfl
   have e2:18446744073709551615 &&& (z ^^^ x)=z ^^^ x:=by
    have h:=Nat.and_two_pow_sub_one_eq_mod (z ^^^ x) 64
    rw [Nat.and_comm,show (18446744073709551615:Nat)=2^64-1 from rfl,h]
    exact Nat.mod_eq_of_lt hy
   rw [e,u64_and_nat _ _ (by omega) hy,e2,u64_xor_nat z _ (by omega) hy,← Nat.xor_assoc,Nat.xor_self,Nat.zero_xor]
   simp
theorem or_step (M s:Nat) (hM:M=2^s) (hb:M*256≤18446744073709551616) (a x:Int) (h0:0≤a) (h1:a<M) (x0:0≤x) (x1:x<256) :
 bits BinOp.or IntKind.u64 a (IntKind.u64.wrap (IntKind.u64.wrap x*(M:Int)))=a+x*(M:Int):=by
 obtain ⟨a,rfl⟩:=xiN h0
 obtain ⟨x,rfl⟩:=xiN x0
 have hx:x*M+M≤256*M:=by rw [← Nat.succ_mul]; exact Nat.mul_le_mul_right M (by omega)
 have e1:IntKind.u64.wrap (x:Int)=(x:Int):=by rw [IntKind.wrap_u64]; omega
 have e2:(x:Int)*(M:Int)=((x*M:Nat):Int):=(Int.natCast_mul x M).symm
 have e3:IntKind.u64.wrap ((x*M:Nat):Int)=((x*M:Nat):Int):=by rw [IntKind.wrap_u64]; omega
 rw [e1,e2,e3,u64_or_nat a (x*M) (by omega) (by omega)]
 have h:=Nat.two_pow_add_eq_or_of_lt (i:=s) (b:=a) (by omega) x
 rw [← hM,Nat.mul_comm M x] at h
 rw [Nat.or_comm,← h]
 omega
theorem glued (x0 x1 x2 x3 x4 x5 x6 x7:Int) (h0:0≤x0∧x0<256) (h1:0≤x1∧x1<256) (h2:0≤x2∧x2<256) (h3:0≤x3∧x3<256) (h4:0≤x4∧x4<256) (h5:0≤x5∧x5<256) (h6:0≤x6∧x6<256) (h7:0≤x7∧x7<256) :
 bits BinOp.or IntKind.u64 (bits BinOp.or IntKind.u64 (bits BinOp.or IntKind.u64 (bits BinOp.or IntKind.u64 (bits BinOp.or IntKind.u64 (bits BinOp.or IntKind.u64 (bits BinOp.or IntKind.u64 (IntKind.u64.wrap (x0)) (IntKind.u64.wrap (IntKind.u64.wrap (x1)*256))) (IntKind.u64.wrap (IntKind.u64.wrap (x2)*65536))) (IntKind.u64.wrap (IntKind.u64.wrap (x3)*16777216))) (IntKind.u64.wrap (IntKind.u64.wrap (x4)*4294967296))) (IntKind.u64.wrap (IntKind.u64.wrap (x5)*1099511627776))) (IntKind.u64.wrap (IntKind.u64.wrap (x6)*281474976710656))) (IntKind.u64.wrap (IntKind.u64.wrap (x7)*72057594037927936))=x0+x1*256+x2*65536+x3*16777216+x4*4294967296+x5*1099511627776+x6*281474976710656+x7*72057594037927936:=by
 have e0:IntKind.u64.wrap x0=x0:=by rw [IntKind.wrap_u64]; omega
 have e1:=or_step 256 8 (by decide) (by decide) (x0) x1 (by omega) (by omega) h1.1 h1.2; have e2:=or_step 65536 16 (by decide) (by decide) (x0+x1*((256:Nat):Int)) x2 (by omega) (by omega) h2.1 h2.2; have e3:=or_step 16777216 24 (by decide) (by decide) (x0+x1*((256:Nat):Int)+x2*((65536:Nat):Int)) x3 (by omega) (by omega) h3.1 h3.2
 have e4:=or_step 4294967296 32 (by decide) (by decide) (x0+x1*((256:Nat):Int)+x2*((65536:Nat):Int)+x3*((16777216:Nat):Int)) x4 (by omega) (by omega) h4.1 h4.2
 have e5:=or_step 1099511627776 40 (by decide) (by decide) (x0+x1*((256:Nat):Int)+x2*((65536:Nat):Int)+x3*((16777216:Nat):Int)+x4*((4294967296:Nat):Int)) x5 (by omega) (by omega) h5.1 h5.2
 have e6:=or_step 281474976710656 48 (by decide) (by decide) (x0+x1*((256:Nat):Int)+x2*((65536:Nat):Int)+x3*((16777216:Nat):Int)+x4*((4294967296:Nat):Int)+x5*((1099511627776:Nat):Int)) x6 (by omega) (by omega) h6.1 h6.2
 have e7:=or_step 72057594037927936 56 (by decide) (by decide) (x0+x1*((256:Nat):Int)+x2*((65536:Nat):Int)+x3*((16777216:Nat):Int)+x4*((4294967296:Nat):Int)+x5*((1099511627776:Nat):Int)+x6*((281474976710656:Nat):Int)) x7 (by omega) (by omega) h7.1 h7.2
 simp only [Int.cast_ofNat_Int] at e1 e2 e3 e4 e5 e6 e7
 rw [e0,e1,e2,e3,e4,e5,e6,e7]
theorem bytes_of (x:Int) (h0:0≤x) (h1:x<18446744073709551616):x%256+256*(x/256%256)+65536*(x/65536%256)+16777216*(x/16777216%256)+4294967296*(x/4294967296%256)+1099511627776*(x/1099511627776%256)+281474976710656*(x/281474976710656%256)+72057594037927936*(x/72057594037927936%256)=x:=by omega
theorem pickw_any (bit a b:Int) (ha:0≤a) (ha':a<W) (hb:0≤b) (hb':b<W) (hc:bit=0∨bit=1) (r:Int) (hr:(if bit=1 then b else a)=r) (w:World) :
 Calls Tryz.prog 106 #[.int .u64 bit,.int .u64 a,.int .u64 b] w fun e w'=>e=.returned (.int .u64 r)∧w'=w:=by
 have HP:=show Hid _ from (pick64 a b bit ha ha' hb hb' hc).trans hr; clear ha ha' hb hb' hc hr
 go_enter Tryz.func106,Tryz.ntmps106
 go_wp2; go_ret
 exact ⟨by rw [← HP.out]; rfl,rfl⟩
abbrev Q:Int:=1361129467683753853853498429727072845819
abbrev FB:Int:=1361129467683753853853498429727072846824
theorem W3:W^3=6277101735386680763835789423207666416102355444464034512896:=by decide
theorem v3 (f:Nat→Int):val W f 3=f 0+18446744073709551616*f 1+340282366920938463463374607431768211456*f 2:=by
 simp only [val,W]; omega
theorem v6 (f:Nat→Int):val W f 6=f 0+18446744073709551616*f 1+340282366920938463463374607431768211456*f 2+6277101735386680763835789423207666416102355444464034512896*f 3+115792089237316195423570985008687907853269984665640564039457584007913129639936*f 4+2135987035920910082395021706169552114602704522356652769947041607822219725780640550022962086936576*f 5:=by
 simp only [val,W]; omega
def tri (x y z:Int):Nat→Int
 | 0=>x
 | 1=>y
 | 2=>z
 | _+3=>0
theorem tri_in {x y z:Int} (hx:0≤x∧x<W) (hy:0≤y∧y<W) (hz:0≤z∧z<W):In W 3 (tri x y z)
 | 0,_=>hx
 | 1,_=>hy
 | 2,_=>hz
 | _+3,h=>by omega
theorem tri_val (x y z:Int):val W (tri x y z) 3=x+18446744073709551616*y+340282366920938463463374607431768211456*z:=v3 _
def Folded (n:Nat→Int):Prop:=In W 3 n∧val W n 3≤FB
theorem plus_math {a b n:Nat→Int} {cv:Int} (hn:In W 3 n) (c0:0≤cv) (he:val W n 3+W^3*cv=val W a 3+val W b 3) (h:val W a 3+val W b 3<W^3):val W n 3=val W a 3+val W b 3:=by
 have i:=val_in W (by decide) n 3 hn
 rw [W3] at *
 omega
theorem fold_math {x y z p c q d:Int} (hx:0≤x∧x<W) (hy:0≤y∧y<W) (hz:0≤z∧z<512) (e0:p+W*c=x+z/4*5) (l0:0≤p∧p<W) (e1:q+W*d=y+c) (l1:0≤q∧q<W) (d0:0≤d∧d≤1) :
 Folded (tri p q (z%4+d))∧val W (tri p q (z%4+d)) 3%Q=(x+18446744073709551616*y+340282366920938463463374607431768211456*z)%Q:=by
 simp only [W] at e0 e1
 refine ⟨⟨tri_in l0 l1 (by simp only [W]; omega),?_⟩,?_⟩
 · rw [tri_val]; simp only [W,FB] at *; omega
 · rw [tri_val]; simp only [W,Q] at *; omega
def qW:Nat→Int:=tri 18446744073709551611 18446744073709551615 3
theorem qW_in:In W 3 qW:=tri_in (by decide) (by decide) (by decide)
theorem val_qW:val W qW 3=Q:=by decide
theorem least_math {n l m:Nat→Int} {cv:Int} (hn:In W 3 n) (hl:In W 3 l) (hc:cv=0∨cv=1) (he:val W l 3+val W qW 3=val W n 3+W^3*cv) (hm:∀ j,j<3→m j=if cv=1 then n j else l j) (hf:val W n 3≤FB) :
 In W 3 m∧val W m 3=val W n 3%Q:=by
 have i1:=val_in W (by decide) n 3 hn; have i2:=val_in W (by decide) l 3 hl
 rw [val_qW,W3] at he
 rw [W3] at i1 i2
 rcases hc with rfl | rfl
 · have e:=val_congr W (f:=m) (g:=l) 3 fun j hj=>by rw [hm j hj]; rfl
   refine ⟨fun j hj=>by rw [hm j hj]; exact hl j hj,?_⟩
   rw [e]; clear hm e; simp only [Q,FB] at *; omega
 · have e:=val_congr W (f:=m) (g:=n) 3 fun j hj=>by rw [hm j hj]; rfl
   refine ⟨fun j hj=>by rw [hm j hj]; exact hn j hj,?_⟩
   rw [e]; clear hm e; simp only [Q,FB] at *; omega
theorem lower_math {d:Nat→Int} (hd:In W 6 d) (hv:val W d 6≤FB*FB) :
 (d 5=0∧0≤d 4∧d 4<64) ∧
 val W (tri (d 0) (d 1) (d 2%4)) 3<1361129467683753853853498429727072845824∧val W (tri (d 2-d 2%4) (d 3) (d 4)) 3<43556142965880123323311949751266331066368 ∧
 val W (tri (d 2/4+d 3%4*4611686018427387904) (d 3/4+d 4%4*4611686018427387904) (d 4/4)) 3<10889035741470030830827987437816582766592 ∧
 (val W (tri (d 0) (d 1) (d 2%4)) 3+val W (tri (d 2-d 2%4) (d 3) (d 4)) 3+val W (tri (d 2/4+d 3%4*4611686018427387904) (d 3/4+d 4%4*4611686018427387904) (d 4/4)) 3)%Q=val W d 6%Q:=by
 have h0:=hd 0 (by omega); have h1:=hd 1 (by omega); have h2:=hd 2 (by omega); have h3:=hd 3 (by omega); have h4:=hd 4 (by omega); have h5:=hd 5 (by omega)
 rw [v6] at hv
 simp only [tri_val]
 rw [v6]
 generalize d 0=x0 at *; generalize d 1=x1 at *; generalize d 2=x2 at *; generalize d 3=x3 at *; generalize d 4=x4 at *; generalize d 5=x5 at *
 simp only [W,FB,Int.reduceMul] at *
 have a5:x5=0:=by omega
 subst a5
 have a4:x4<64:=by omega
 refine ⟨⟨rfl,by omega,a4⟩,by omega,by omega,by omega,?_⟩
 clear hv; simp only [Q]
 omega
theorem mul_FB {x y:Int} (x1:x≤FB) (y0:0≤y) (y1:y≤FB):x*y≤FB*FB:=Int.mul_le_mul x1 y1 y0 (by decide)
theorem and3 (x:Int) (h0:0≤x) (h1:x<W):bits BinOp.and IntKind.u64 x 3=x%4:=by
 simp only [W] at h1
 obtain ⟨x,rfl⟩:=xiN h0
 have e:x &&& 3=x%4:=Nat.and_two_pow_sub_one_eq_mod x 2
 rw [show (3:Int)=((3:Nat):Int) from rfl,u64_and_nat x 3 (by omega) (by omega),e]
 omega
theorem cnum_info (f:Nat→Int):(Tryz.prog.info? 153).map (·.size)=some (row .u64 3 f).length:=by rw [row_length]; kernel_rfl
theorem cnum_info' (f:Nat→Int):(Tryz.prog.info? 153).map (·.size)=some (row .u64 3 f).toArray.size:=by rw [List.size_toArray]; exact cnum_info f
theorem cnum_there {w:World} {b:Nat} {f g:Nat→Int} (h:Has w b .u64 3 f):w.there b 0 (row .u64 3 g).toArray.size:=by rw [List.size_toArray,row_length]; exact h.there
theorem cnum_zero (w:World) (t:TypeId) (b:Nat) (hb:b=w.heap.size):Has (w.alloc (.cells #[.int .u64 0,.int .u64 0,.int .u64 0] t)) b .u64 3 (fun _=>0):=Has.new w .u64 3 (fun _=>0) t b hb
structure PInv (a b:Nat→Int) (w:World) (k:Nat) (n:Nat→Int) (cv:Int) (w':World):Prop where
 c0:0≤cv
 c1:cv≤1
 inn:In W 3 n
 rest:∀ j,k≤j→n j=a j
 eq:val W n k+W^k*cv=val W a k+val W b k
 hn:Has w' w.heap.size .u64 3 n
 hb:Has w' (w.heap.size+1) .u64 3 b
 hr:Has w' (w.heap.size+1+1) .u64 3 (fun _=>0)
 below:Below w.heap.size w w'
theorem PInv.step {a b:Nat→Int} {w:World} {k:Nat} {n:Nat→Int} {cv:Int} {w':World} (h:PInv a b w k n cv w') (hbi:In W 3 b) (hk:k<3) :
 PInv a b w (k+1) (upd n k (aLo (n k) (b k) cv)) (aHi (n k) (b k) cv) ((w'.setCell ⟨w.heap.size,k,none⟩ (.int .u64 (aLo (n k) (b k) cv))).drew):=by
 have i1:=h.inn k hk; have i2:=hbi k hk; have q0:=h.c0; have q1:=h.c1
 simp only [W] at i1 i2
 have l0:0≤aLo (n k) (b k) cv:=by unfold aLo; omega
 have l1:aLo (n k) (b k) cv<W:=by simp only [W]; unfold aLo; omega
 have es:aLo (n k) (b k) cv+W*aHi (n k) (b k) cv=n k+b k+cv:=by simp only [W]; unfold aLo aHi; omega
 refine ⟨by unfold aHi; omega,by unfold aHi; omega,h.inn.upd k _ l0 l1,fun j hj=>?_,?_,(h.hn.set k hk _).drew,(h.hb.set_other _ _ (by simp)).drew,(h.hr.set_other _ _ (by simp; omega)).drew,(h.below.setCell (by simp) _).drew⟩
 · rw [upd_other _ _ _ _ (by omega)]; exact h.rest j (by omega)
 · simp only [val]
   rw [val_upd _ _ _ _ _ (xnR k),upd_same,Int.pow_succ,Int.mul_assoc]
   have e1:W^k*aLo (n k) (b k) cv+W^k*(W*aHi (n k) (b k) cv)=W^k*n k+W^k*b k+W^k*cv:=by
    rw [← Int.mul_add,es,Int.mul_add,Int.mul_add]
   have e2:=h.eq; have e3:=h.rest k (xnR k)
   rw [← e3]
   omega
theorem plus_any (a b:Nat→Int) (ha:In W 3 a) (hb:In W 3 b) (hs:val W a 3+val W b 3<W^3) (w:World) :
 Calls Tryz.prog 91 #[(.agg (row .u64 3 (a)).toArray),(.agg (row .u64 3 (b)).toArray)] w fun e w'=>∃ n:Nat→Int,e=.returned (.agg (row .u64 3 (n)).toArray)∧(In W 3 n∧val W n 3=val W a 3+val W b 3)∧Below w.heap.size w w':=by
 go_enter Tryz.func91,Tryz.ntmps91
 go_wp2
 go_loopw [5,7] (fun c i w'=>∃ (k:Nat) (n:Nat→Int) (cv:Int),k≤3∧i=.int .i64 k∧c=.int .u64 cv∧PInv a b w k n cv w') (fun _ i _=>3-(intOf i).toNat)
 case atStart =>
  exact ⟨0,a,0,by omega,rfl,rfl,⟨by omega,by omega,ha,fun _ _=>rfl,by simp [val],((Has.new w _ _ _ _ _ rfl).alloc _ (by simp)).alloc _ (by simp; omega),(Has.new _ _ _ _ _ _ (by simp)).alloc _ (by simp),Has.new _ .u64 3 (fun _=>0) _ _ (by simp),(((Below.refl _ _).alloc (xnR _) _).alloc (by simp) _).alloc (by simp; omega) _⟩⟩
 case round =>
  obtain ⟨k,n,cv,hk,rfl,rfl,hI⟩:=hrel
  by_cases hlt:k<3
  · have hS:=hI.step hb hlt
    have c1:=hI.hn.cell k hlt; have c2:=hI.hb.cell k hlt; have f1:=hI.hn.free k hlt; have b1:=(hI.inn k hlt).1; have b2:=(hb k hlt).1; have hadd:=add64 (n k) (b k) cv b1 b2 hI.c0 hI.c1
    have g1:(0:Int)≤(k:Int):=by omega
    have g2:(k:Int)<3:=by omega
    clear hI; generalize aLo (n k) (b k) cv=lo at *; generalize aHi (n k) (b k) cv=hi at *; generalize n k=x at *; generalize b k=y at *; go_wp2
    go_region
    go_wp2
    go_roundw
    case rel=>exact ⟨k+1,_,_,by omega,by go_num,rfl,hS⟩
    case measure=>simp [intOf]; omega
  · obtain rfl:k=3:=by omega
    have hM:=plus_math hI.inn hI.c0 hI.eq hs; have hn:=hI.hn; have hr:=hI.hr; have HM:=show Hid _ from And.intro hI.inn hM; have hB:=below_setAll hI.below (w.heap.size+1+1) (by omega) 0 (row .u64 3 n); clear hM hI hs hlt hk
    go_wp2_with (first | (refine wpList_load_mid rfl 153 _ rfl (w.heap.size) 0 rfl (row .u64 3 (n)) _ (Has.range (hn)) Tryz.underlying153 rfl (cnum_info _) ?_) | (refine wpList_store_mid rfl 153 _ _ rfl (w.heap.size+1+1) 0 (row .u64 3 (n)).toArray rfl rfl (cnum_there (hr)) (cnum_info' _) (all_oneCell_toArray (row_one _ _ _)) ?_))
    exact bodyPost_ret (v:=(.agg (row .u64 3 (n)).toArray)) (results_row Tryz.results91 rfl (Has.all hr.there .u64 n).range Tryz.underlying153 rfl (cnum_info n)) rfl ⟨n,rfl,HM.out,hB⟩
def keptB:Nat→Int:=fun j=>if j=3∨j=7∨j=11∨j=15 then 15 else if j=4∨j=8∨j=12 then 252 else 255
structure Glob (w:World):Prop where
 modulus:∀ j,j<3→w.cell? ⟨4,j,none⟩=some (.int .u64 (qW j))
 kept:∀ j,j<16→w.cell? ⟨3,j,none⟩=some (.int .u8 (keptB j))
 size:8≤w.heap.size
theorem Glob.below {w w':World} (h:Glob w) {B:Nat} (l:Below B w w') (hB:8≤B):Glob w' :=
 ⟨fun j hj=>by rw [l.cell (p:=⟨4,j,none⟩) (xnL (show 4<8 by decide) hB)]; exact h.modulus j hj,fun j hj=>by rw [l.cell (p:=⟨3,j,none⟩) (xnL (show 3<8 by decide) hB)]; exact h.kept j hj,by have:=h.size; have:=l.size; omega⟩
theorem Glob.fr {w w':World} {k:Nat} (h:Glob w) (g:Fr w k w'):Glob w':=h.below g.below h.size
structure LInv (n:Nat→Int) (w:World) (k:Nat) (l:Nat→Int) (cv:Int) (w':World):Prop where
 c0:0≤cv
 c1:cv≤1
 inn:In W 3 l
 eq:val W l k+val W qW k=val W n k+W^k*cv
 hn:Has w' w.heap.size .u64 3 n
 hr:Has w' (w.heap.size+1) .u64 3 (fun _=>0)
 hl:Has w' (w.heap.size+1+1) .u64 3 l
 fr:Fr w 3 w'
theorem LInv.step {n:Nat→Int} {w:World} {k:Nat} {l:Nat→Int} {cv:Int} {w':World} (h:LInv n w k l cv w') (hn:In W 3 n) (hk:k<3) :
 LInv n w (k+1) (upd l k (sLo (n k) (qW k) cv)) (sHi (n k) (qW k) cv) ((w'.setCell ⟨w.heap.size+1+1,k,none⟩ (.int .u64 (sLo (n k) (qW k) cv))).drew):=by
 have i1:=hn k hk; have i2:=qW_in k hk; have q0:=h.c0; have q1:=h.c1
 simp only [W] at i1 i2
 have l0:0≤sLo (n k) (qW k) cv:=by unfold sLo; omega
 have l1:sLo (n k) (qW k) cv<W:=by simp only [W]; unfold sLo; omega
 have es:sLo (n k) (qW k) cv+(qW k+cv)=n k+W*sHi (n k) (qW k) cv:=by simp only [W]; unfold sLo sHi; split <;> omega
 refine ⟨by unfold sHi; split <;> omega,by unfold sHi; split <;> omega,h.inn.upd k _ l0 l1,?_,(h.hn.set_other _ _ (by simp; omega)).drew,(h.hr.set_other _ _ (by simp)).drew,(h.hl.set k hk _).drew,(h.fr.set _ _ (by simp; omega)).drew⟩
 simp only [val]
 rw [val_upd _ _ _ _ _ (xnR k),upd_same,Int.pow_succ,Int.mul_assoc]
 have e1:W^k*sLo (n k) (qW k) cv+(W^k*qW k+W^k*cv)=W^k*n k+W^k*(W*sHi (n k) (qW k) cv):=by
  rw [← Int.mul_add,← Int.mul_add,es,Int.mul_add]
 have e2:=h.eq
 omega
structure KInv (n l:Nat→Int) (cv:Int) (w:World) (k:Nat) (m:Nat→Int) (w':World):Prop where
 done:∀ j,j<k→m j=if cv=1 then n j else l j
 rest:∀ j,k≤j→m j=n j
 hn:Has w' w.heap.size .u64 3 m
 hr:Has w' (w.heap.size+1) .u64 3 (fun _=>0)
 hl:Has w' (w.heap.size+1+1) .u64 3 l
 fr:Fr w 3 w'
theorem KInv.step {n l:Nat→Int} {cv:Int} {w:World} {k:Nat} {m:Nat→Int} {w':World} (h:KInv n l cv w k m w') (hk:k<3) (r:Int) (hr:(if cv=1 then m k else l k)=r) :
 KInv n l cv w (k+1) (upd m k r) ((w'.setCell ⟨w.heap.size,k,none⟩ (.int .u64 r)).drew):=by
 rw [h.rest k (xnR k)] at hr
 refine ⟨fun j hj=>?_,fun j hj=>?_,(h.hn.set k hk _).drew,(h.hr.set_other _ _ (by simp)).drew,(h.hl.set_other _ _ (by simp; omega)).drew,(h.fr.set _ _ (by simp)).drew⟩
 · by_cases e:j=k
   · subst e; rw [upd_same]; exact hr.symm
   · rw [upd_other _ _ _ _ e]; exact h.done j (by omega)
 · rw [upd_other _ _ _ _ (by omega)]; exact h.rest j (by omega)
theorem KInv.inn {n l:Nat→Int} {cv:Int} {w:World} {k:Nat} {m:Nat→Int} {w':World} (h:KInv n l cv w k m w') (hn:In W 3 n) (hl:In W 3 l):In W 3 m:=fun j hj=>by
 by_cases e:j<k
 · rw [h.done j e]; split
   · exact hn j hj
   · exact hl j hj
 · rw [h.rest j (by omega)]; exact hn j hj
theorem cleast_any (n:Nat→Int) (hn:In W 3 n) (hf:val W n 3≤FB) (w:World) (hg:Glob w) :
 Calls Tryz.prog 93 #[(.agg (row .u64 3 (n)).toArray)] w fun e w'=>∃ m:Nat→Int,e=.returned (.agg (row .u64 3 (m)).toArray)∧(In W 3 m∧val W m 3=val W n 3%Q)∧Below w.heap.size w w':=by
 go_enter Tryz.func93,Tryz.ntmps93
 go_wp2
 go_loopw [4,7] (fun c i w'=>∃ (k:Nat) (l:Nat→Int) (cv:Int),k≤3∧i=.int .i64 k∧c=.int .u64 cv∧LInv n w k l cv w') (fun _ i _=>3-(intOf i).toNat)
 case atStart =>
  exact ⟨0,fun _=>0,0,by omega,rfl,rfl,⟨by omega,by omega,fun _ _=>⟨Int.le_refl 0,by decide⟩,by simp [val],((Has.new w _ _ _ _ _ rfl).alloc _ (by simp)).alloc _ (by simp; omega),(cnum_zero _ _ _ (by simp)).alloc _ (by simp),cnum_zero _ _ _ (by simp),(((Fr.refl w).alloc _).alloc _).alloc _⟩⟩
 case round =>
  obtain ⟨k,l,cv,hk,rfl,rfl,hI⟩:=hrel
  by_cases hlt:k<3
  · have hS:=hI.step hn hlt
    have c1:=hI.hn.cell k hlt; have c2:=(hg.fr hI.fr).modulus k hlt; have c3:=hI.hl.cell k hlt; have f1:=hI.hl.free k hlt; have b1:=(hn k hlt).1; have b2:=qW_in k hlt; have hadd:=sub64 (n k) (qW k) cv b1 b2.1 b2.2 hI.c0 hI.c1
    have g1:(0:Int)≤(k:Int):=by omega
    have g2:(k:Int)<3:=by omega
    clear hI b2; generalize sLo (n k) (qW k) cv=lo at *; generalize sHi (n k) (qW k) cv=hi at *; generalize n k=x at *; generalize qW k=y at *; generalize l k=z at *; go_wp2
    go_region
    go_wp2
    go_roundw
    case rel=>exact ⟨k+1,_,_,by omega,by go_num,rfl,hS⟩
    case measure=>simp [intOf]; omega
  · obtain rfl:k=3:=by omega
    have cc:cv=0∨cv=1:=by have:=hI.c0; have:=hI.c1; omega
    go_wp2
    go_loopw [24] (fun i w'=>∃ (k:Nat) (m:Nat→Int),k≤3∧i=.int .i64 k∧KInv n l cv w k m w') (fun i _=>3-(intOf i).toNat)
    case atStart=>exact ⟨0,n,by omega,rfl,⟨fun j hj=>by omega,fun _ _=>rfl,hI.hn,hI.hr,hI.hl,hI.fr⟩⟩
    case round =>
     obtain ⟨k,m,hk2,rfl,hK⟩:=hrel
     by_cases hlt2:k<3
     · have hm:=hK.inn hn hI.inn k hlt2
       have hl:=hI.inn k hlt2
       obtain ⟨r,hr⟩:∃ r,(if cv=1 then m k else l k)=r:=⟨_,rfl⟩
       have HR:=show Hid _ from hK.step hlt2 r hr; have HP:=show Hid _ from fun W'=>pickw_any cv (l k) (m k) hl.1 hl.2 hm.1 hm.2 cc r hr W'; have c1:=hK.hn.cell k hlt2; have c3:=hK.hl.cell k hlt2; have f1:=hK.hn.free k hlt2
       have g1:(0:Int)≤(k:Int):=by omega
       have g2:(k:Int)<3:=by omega
       clear hI hlt hk cc hm hl hK hr; generalize m k=x at *; generalize l k=z at *; go_wp2
       go_region_with (go_at_call 106; refine (HP.out _).mono ?_; rintro e w' ⟨rfl,rfl⟩)
       all_goals
        go_wp2
        go_roundw
        case rel=>first | exact ⟨k+1,_,by omega,by go_num,HR.out⟩ | ((repeat apply Exists.intro); refine ⟨⟨k+1,_,by omega,?_,HR.out⟩,rfl⟩ <;> first | rfl | go_num)
        case measure=>simp [intOf]; omega
     · obtain rfl:k=3:=by omega
       have HM:=show Hid _ from least_math hn hI.inn cc hI.eq hK.done hf
       have hn':=hK.hn
       have hr':=hK.hr
       have hB:=(hK.fr.setAll (w.heap.size+1) (by omega) (row .u64 3 m)).below; clear hK hI hf hn hlt2 hlt hk2 hk cc
       go_wp2_with (first | (refine wpList_load_mid rfl 153 _ rfl (w.heap.size) 0 rfl (row .u64 3 (m)) _ (Has.range (hn')) Tryz.underlying153 rfl (cnum_info _) ?_) | (refine wpList_store_mid rfl 153 _ _ rfl (w.heap.size+1) 0 (row .u64 3 (m)).toArray rfl rfl (cnum_there (hr')) (cnum_info' _) (all_oneCell_toArray (row_one _ _ _)) ?_))
       exact bodyPost_ret (v:=(.agg (row .u64 3 (m)).toArray)) (results_row Tryz.results93 rfl (Has.all hr'.there .u64 m).range Tryz.underlying153 rfl (cnum_info m)) rfl ⟨m,rfl,HM.out,hB⟩
theorem shr2 (z:Int) (h:0≤z∧z<512):IntKind.u64.wrap (z/4*5)=z/4*5:=by rw [IntKind.wrap_u64]; omega
theorem top2 (z d:Int) (h0:0≤d∧d≤1):IntKind.u64.wrap (z%4+d)=z%4+d:=by rw [IntKind.wrap_u64]; omega
theorem cfold_any (n:Nat→Int) (hn:In W 3 n) (hs:n 2<512) (w:World) :
 Calls Tryz.prog 90 #[(.agg (row .u64 3 (n)).toArray)] w fun e w'=>∃ m:Nat→Int,e=.returned (.agg (row .u64 3 (m)).toArray)∧(Folded m∧val W m 3%Q=val W n 3%Q)∧Below w.heap.size w w':=by
 have h0:=hn 0 (by omega); have h1:=hn 1 (by omega)
 have h2:0≤n 2∧n 2<512:=⟨(hn 2 (by omega)).1,hs⟩
 have e0:aLo (n 0) (n 2/4*5) 0+W*aHi (n 0) (n 2/4*5) 0=n 0+n 2/4*5:=by simp only [W]; unfold aLo aHi; omega
 have l0:0≤aLo (n 0) (n 2/4*5) 0∧aLo (n 0) (n 2/4*5) 0<W:=by simp only [W]; unfold aLo; omega
 have k0:0≤aHi (n 0) (n 2/4*5) 0∧aHi (n 0) (n 2/4*5) 0≤1:=by simp only [W] at h0; unfold aHi; omega
 have hadd1:=add64 (n 0) (n 2/4*5) 0 h0.1 (by omega) (Int.le_refl 0) (by decide); generalize aHi (n 0) (n 2/4*5) 0=c at *; generalize aLo (n 0) (n 2/4*5) 0=p at *
 have e1:aLo (n 1) 0 c+W*aHi (n 1) 0 c=n 1+c:=by simp only [W]; unfold aLo aHi; omega
 have l1:0≤aLo (n 1) 0 c∧aLo (n 1) 0 c<W:=by simp only [W]; unfold aLo; omega
 have k1:0≤aHi (n 1) 0 c∧aHi (n 1) 0 c≤1:=by simp only [W] at h1; unfold aHi; omega
 have hadd2:=add64 (n 1) 0 c h1.1 (Int.le_refl 0) k0.1 k0.2; generalize aHi (n 1) 0 c=d at *; generalize aLo (n 1) 0 c=q at *; have hM:=fold_math h0 h1 h2 e0 l0 e1 l1 k1
 rw [← v3] at hM
 have s2:=shr2 (n 2) h2; have s3:=and3 (n 2) h2.1 (by have:=h2.2; simp only [W]; omega); have s4:=top2 (n 2) d k1; have HM:=show Hid _ from hM
 have a0:Has ((w.alloc (.cells (row .u64 3 n).toArray 153)).alloc (.cells #[.int .u64 0,.int .u64 0,.int .u64 0] 153)) w.heap.size .u64 3 n:=(Has.new w _ _ _ _ _ rfl).alloc _ (by simp)
 have z0:Has ((w.alloc (.cells (row .u64 3 n).toArray 153)).alloc (.cells #[.int .u64 0,.int .u64 0,.int .u64 0] 153)) (w.heap.size+1) .u64 3 (fun _=>0):=cnum_zero _ _ _ (by simp)
 have g0:Fr w 2 ((w.alloc (.cells (row .u64 3 n).toArray 153)).alloc (.cells #[.int .u64 0,.int .u64 0,.int .u64 0] 153)):=((Fr.refl w).alloc _).alloc _
 have a1:=((a0.set 0 (by omega) p).set 1 (by omega) q).set 2 (by omega) (n 2%4+d)
 have a2:=a1.congr (g:=tri p q (n 2%4+d)) (fun j hj=>by
  have:j=0∨j=1∨j=2:=by omega
  rcases this with rfl | rfl | rfl <;> rfl)
 have z1:=((z0.set_other ⟨w.heap.size,0,none⟩ (.int .u64 p) (by simp)).set_other ⟨w.heap.size,1,none⟩ (.int .u64 q) (by simp)).set_other ⟨w.heap.size,2,none⟩ (.int .u64 (n 2%4+d)) (by simp); have g1:=((g0.set ⟨w.heap.size,0,none⟩ (.int .u64 p) (by simp)).set ⟨w.heap.size,1,none⟩ (.int .u64 q) (by simp)).set ⟨w.heap.size,2,none⟩ (.int .u64 (n 2%4+d)) (by simp)
 have hB:=(g1.setAll (w.heap.size+1) (by omega) (row .u64 3 (tri p q (n 2%4+d)))).below; have c0:=a0.cell 0 (by omega); have c1:=a0.cell 1 (by omega); have c2:=a0.cell 2 (by omega); have f0:=a0.free 0 (by omega); have f1:=a0.free 1 (by omega); have f2:=a0.free 2 (by omega); clear hM a0 z0 g0 g1 a1 e0 l0 k0 e1 l1 k1 h0 h1 h2 hs hn; generalize n 0=x at *
 generalize n 1=y at *; generalize n 2=z at *
 go_enter Tryz.func90,Tryz.ntmps90
 go_upto_region 1 with fail; generalize ((w.alloc (.cells (row .u64 3 n).toArray 153)).alloc (.cells #[.int .u64 0,.int .u64 0,.int .u64 0] 153))=w1 at *
 go_wp2_with (first | (refine wpList_load_mid rfl 153 _ rfl (w.heap.size) 0 rfl (row .u64 3 (tri p q (z%4+d))) _ (Has.range (a2)) Tryz.underlying153 rfl (cnum_info _) ?_) | (refine wpList_store_mid rfl 153 _ _ rfl (w.heap.size+1) 0 (row .u64 3 (tri p q (z%4+d))).toArray rfl rfl (cnum_there (z1)) (cnum_info' _) (all_oneCell_toArray (row_one _ _ _)) ?_))
 exact bodyPost_ret (v:=(.agg (row .u64 3 (tri p q (z%4+d))).toArray)) (results_row Tryz.results90 rfl (Has.all z1.there .u64 _).range Tryz.underlying153 rfl (cnum_info _)) rfl ⟨_,rfl,HM.out,hB⟩
section
section
variable {P:Program} {ops:Array Oper} {Q:Exit→Act→World→Prop} {md:Region.Mode} {S:World→Prop}
theorem pureH {i:Nat} {oi:Oper} (dst:Option Tmp) (hdst:oi.dst=dst) {fuel:Nat} {listed:Array Bool} {a:Act} {w:World} (v:Value) (hi:ops[i]?=some oi) (hw:Region.wanted oi (yielded ops a.tmps)=true)
 (hv:∀ w,(execOp a.eval oi).run P w=.ok (.value v) w)
 (hs:Region.noSelect ops=true) (hf:Region.free md ops listed i=true) (hr:(Region.ready md ops listed).contains i=true)
 (hQ:∀ c a w,Q (.panic c) (a.put dst v) w→Q (.panic c) a w)
 (hS:S w)
 (h:wpAnyH P md ops Q S fuel (listed.setIfInBounds i true) (a.put dst v) w):wpAnyH P md ops Q S (fuel+1) listed a w :=
 by
 subst hdst
 exact wpAnyH_take hi hs hf hr hQ (Or.inl ⟨hw,fun w _=>hv w⟩) hS h
section
variable {P:Program} {ops:Array Oper} {Q:Exit→Act→World→Prop} {md:Region.Mode} {S:World→Prop}
theorem xpH {oi:Oper} {n:Nat} {l:Array Bool} {a a':Act} {w:World} (i:Nat) (d:Tmp) (v:Value) (hS:S w) (h:wpAnyH P md ops Q S n (l.setIfInBounds i true) a' w)
 (hi:ops[i]?=some oi:=by rfl) (hdst:oi.dst=some d:=by rfl) (hw:Region.wanted oi (yielded ops a.tmps)=true:=by rfl) (hv:∀ w,(execOp a.eval oi).run P w=.ok (.value v) w:=by intro _; kernel_rfl) (hg:(Region.noSelect ops&&(Region.free md ops l i&&(Region.ready md ops l).contains i))=true:=by kernel_rfl) (hQ:∀ c a w,Q (.panic c) (a.put (some d) v) w→Q (.panic c) a w:=by exact fun _ _ _ h=>h) (he:a.put (some d) v=a':=by simp only [aP,lI,l0,lS] <;> rfl):wpAnyH P md ops Q S (n+1) l a w:=by
 subst he
 rw [xbA,xbA] at hg
 exact pureH (some d) hdst v hi hw hv hg.1 hg.2.1 hg.2.2 hQ hS h
theorem xqH {oi:Oper} {n:Nat} {l:Array Bool} {a a':Act} {w:World} (i:Nat) (d:Tmp) (hi:ops[i]?=some oi) (v:Value) (hv:∀ w,(execOp a.eval oi).run P w=.ok (.value v) w) (hS:S w) (h:wpAnyH P md ops Q S n (l.setIfInBounds i true) a' w)
 (hdst:oi.dst=some d:=by rfl) (hw:Region.wanted oi (yielded ops a.tmps)=true:=by rfl) (hg:(Region.noSelect ops&&(Region.free md ops l i&&(Region.ready md ops l).contains i))=true:=by kernel_rfl) (hQ:∀ c a w,Q (.panic c) (a.put (some d) v) w→Q (.panic c) a w:=by exact fun _ _ _ h=>h) (he:a.put (some d) v=a':=by simp only [aP,lI,l0,lS] <;> rfl):wpAnyH P md ops Q S (n+1) l a w:=by
 subst he
 rw [xbA,xbA] at hg
 exact pureH (some d) hdst v hi hw hv hg.1 hg.2.1 hg.2.2 hQ hS h
end
theorem callH {i:Nat} {oi:Oper} (dst:Option Tmp) (hdst:oi.dst=dst) {f:FuncId} {args:Array Value} {R:Ending→World→Prop} {fuel:Nat} {listed:Array Bool} {a:Act} {w:World} (hr:Region.ready md ops listed=[i]) (hi:ops[i]?=some oi)
 (hw:Region.wanted oi (yielded ops a.tmps)=true) (he:∀ w,(execOp a.eval oi).run P w=.ok (.enter f args) w) (hc:Calls P f args w R)
 (hK:∀ e w',R e w'→∃ v,e=.returned v∧S w'∧wpAnyH P md ops Q S fuel (listed.setIfInBounds i true) (a.put dst v) w'):wpAnyH P md ops Q S (fuel+1) listed a w :=
 ⟨fun h0=>(by rw [h0] at hr; cases hr),fun j hj=>by
  rw [hr] at hj
  obtain rfl:=xm1 hj
  unfold wpOp
  simp only [hi,hw,if_true]; refine .inl ?_
  unfold Oper.wp
  rw [he w]
  exact hc.mono fun e w' hR=>by
   obtain ⟨v,rfl,h⟩:=hK e w' hR
   subst hdst
   exact h⟩
theorem doesH {i:Nat} {oi:Oper} (dst:Option Tmp) (hdst:oi.dst=dst) {fuel:Nat} {listed:Array Bool} {a:Act} {w w':World} (hr:Region.ready md ops listed=[i]) (hi:ops[i]?=some oi)
 (hw:Region.wanted oi (yielded ops a.tmps)=true) (he:(execOp a.eval oi).run P w=.ok .skip w') (hS:S w')
 (h:wpAnyH P md ops Q S fuel (listed.setIfInBounds i true) (a.put dst undef) w'):wpAnyH P md ops Q S (fuel+1) listed a w :=
 ⟨fun h0=>(by rw [h0] at hr; cases hr),fun j hj=>by
  rw [hr] at hj
  obtain rfl:=xm1 hj
  unfold wpOp
  simp only [hi,hw,if_true]; refine .inl ?_
  unfold Oper.wp
  rw [he]
  subst hdst
  exact ⟨hS,h⟩⟩
theorem storesH {i:Nat} {oi:Oper} (dst:Option Tmp) (hdst:oi.dst=dst) {fuel:Nat} {listed:Array Bool} {a:Act} {w:World} (k:IntKind) (n:Nat) (f:Nat→Int) (b:Nat) (ty:TypeId) (x y:Operand) (hr:Region.ready md ops listed=[i]) (hi:ops[i]?=some oi)
 (hw:Region.wanted oi (yielded ops a.tmps)=true) (ho:oi.op=.store ty x y) (hx:a.eval x=.pointer (some ⟨b,0,none⟩)) (hy:a.eval y=.agg (row k n f).toArray)
 (ht:w.there b 0 (row k n f).toArray.size) (hz:(P.info? ty).map (·.size)=some (row k n f).toArray.size) (hS:S (w.setCells b 0 (row k n f)))
 (h:wpAnyH P md ops Q S fuel (listed.setIfInBounds i true) (a.put dst undef) (w.setCells b 0 (row k n f))):wpAnyH P md ops Q S (fuel+1) listed a w :=
 doesH dst hdst hr hi hw (by
  unfold execOp
  simp only [ho,hx,hy]; have e:=run_storeAt_mid (P:=P) w b 0 ty (row k n f).toArray ht hz (all_oneCell_toArray (row_one k n f))
  simp only [Sem.run_bind,e,Result.andThen_ok,Sem.run_pure]) hS h
/-! The same at a list of operations,whose order is the text's. -/
theorem pureL {o:Oper} {rest:List Oper} {a:Act} {w:World} (v:Value) (hw:Region.wanted o (yielded ops a.tmps)=true) (hv:∀ w,(execOp a.eval o).run P w=.ok (.value v) w)
 (h:wpList P ops Q rest (a.put o.dst v) w):wpList P ops Q (o::rest) a w:=by
 unfold wpList
 rw [if_pos hw]
 refine .inl ?_
 unfold Oper.wp
 rw [hv w]
 exact h
theorem callL {o:Oper} {f:FuncId} {args:Array Value} {R:Ending→World→Prop} {rest:List Oper} {a:Act} {w:World} (hw:Region.wanted o (yielded ops a.tmps)=true)
 (he:∀ w,(execOp a.eval o).run P w=.ok (.enter f args) w) (hc:Calls P f args w R) (hK:∀ e w',R e w'→∃ v,e=.returned v∧wpList P ops Q rest (a.put o.dst v) w'):wpList P ops Q (o::rest) a w:=by
 unfold wpList
 rw [if_pos hw]
 refine .inl ?_
 unfold Oper.wp
 rw [he w]
 exact hc.mono fun e w' hR=>by
  obtain ⟨v,rfl,h⟩:=hK e w' hR
  exact h
section
variable {P:Program} {ops:Array Oper} {Q:Exit→Act→World→Prop}
theorem xpL {o:Oper} {rest:List Oper} {a a':Act} {w:World} (v:Value) (h:wpList P ops Q rest a' w) (hw:Region.wanted o (yielded ops a.tmps)=true:=by rfl) (hv:∀ w,(execOp a.eval o).run P w=.ok (.value v) w:=by intro _; kernel_rfl) (he:a.put o.dst v=a':=by simp only [aP,lI,l0,lS] <;> rfl):wpList P ops Q (o::rest) a w:=by
 subst he
 exact pureL v hw hv h
theorem xqL {o:Oper} {rest:List Oper} {a a':Act} {w:World} (v:Value) (hv:∀ w,(execOp a.eval o).run P w=.ok (.value v) w) (h:wpList P ops Q rest a' w) (hw:Region.wanted o (yielded ops a.tmps)=true:=by rfl) (he:a.put o.dst v=a':=by simp only [aP,lI,l0,lS] <;> rfl):wpList P ops Q (o::rest) a w:=by
 subst he
 exact pureL v hw hv h
theorem xaL {o:Oper} {rest:List Oper} {a a':Act} {w w':World} (v:Value) (hv:(execOp a.eval o).run P w=.ok (.value v) w') (h:wpList P ops Q rest a' w') (hw:Region.wanted o (yielded ops a.tmps)=true:=by rfl) (he:a.put o.dst v=a':=by simp only [aP,lI,l0,lS] <;> rfl):wpList P ops Q (o::rest) a w:=by
 subst he
 unfold wpList
 rw [if_pos hw]
 refine .inl ?_
 unfold Oper.wp
 rw [hv]
 exact h
theorem xcL {o:Oper} {f:FuncId} {args:Array Value} {R:Ending→World→Prop} {rest:List Oper} {a:Act} {w:World} (hc:Calls P f args w R) (hK:∀ e w',R e w'→∃ v,e=.returned v∧wpList P ops Q rest (a.put o.dst v) w') (hw:Region.wanted o (yielded ops a.tmps)=true:=by rfl) (he:∀ w,(execOp a.eval o).run P w=.ok (.enter f args) w:=by intro _; kernel_rfl):wpList P ops Q (o::rest) a w:=callL hw he hc hK
theorem xeL {o:Oper} {rest:List Oper} {a a':Act} {w:World} {v:Value} (h:wpList P ops Q rest a' w) (he:a.put o.dst v=a':=by simp only [aP,lI,l0,lS] <;> rfl):∃ v',Ending.returned v=.returned v'∧wpList P ops Q rest (a.put o.dst v') w:=by
 subst he
 exact ⟨v,rfl,h⟩
end
theorem allocL {o:Oper} {rest:List Oper} {a:Act} {w:World} (c:Array Value) (t:TypeId) (hw:Region.wanted o (yielded ops a.tmps)=true)
 (hv:∀ w,(execOp a.eval o).run P w=.ok (.value (.pointer (some ⟨w.heap.size,0,none⟩))) (w.alloc (.cells c t)))
 (h:wpList P ops Q rest (a.put o.dst (.pointer (some ⟨w.heap.size,0,none⟩))) (w.alloc (.cells c t))):wpList P ops Q (o::rest) a w:=by
 unfold wpList
 rw [if_pos hw]
 refine .inl ?_
 unfold Oper.wp
 rw [hv w]
 exact h
theorem storesL {o:Oper} {rest:List Oper} {a:Act} {w:World} (k:IntKind) (n:Nat) (f:Nat→Int) (b:Nat) (ty:TypeId) (x y:Operand) (hw:Region.wanted o (yielded ops a.tmps)=true)
 (ho:o.op=.store ty x y) (hx:a.eval x=.pointer (some ⟨b,0,none⟩)) (hy:a.eval y=.agg (row k n f).toArray)
 (ht:w.there b 0 (row k n f).toArray.size) (hz:(P.info? ty).map (·.size)=some (row k n f).toArray.size)
 (h:wpList P ops Q rest (a.put o.dst undef) (w.setCells b 0 (row k n f))):wpList P ops Q (o::rest) a w:=by
 unfold wpList
 rw [if_pos hw]
 exact .inl (wp_store_mid ty x y ho b 0 (row k n f).toArray hx hy ht hz (all_oneCell_toArray (row_one k n f)) h)
end
/-! What stands through calls: blocks with rows of 32 bytes in them. -/
/-! Two rows of bytes,held against each other. -/
open Extern.Stop (cell)
end
section
theorem there_below {w w':World} {b n:Nat} (h:w.there b 0 n) {B:Nat} (l:Below B w w') (hb:b<B):w'.there b 0 n:=fun j hj=>by
 rw [l.cell (p:=⟨b,0+j,none⟩) hb,l.frozen (p:=⟨b,0+j,none⟩) hb]; exact h j hj
theorem room_of {w:World} {b n:Nat} {k:IntKind} {f:Nat→Int} (h:w.there b 0 n):w.there b 0 (row k n f).toArray.size:=by rw [List.size_toArray,row_length]; exact h
structure Kr (w:World) (m:Nat) (l:List (Nat × IntKind × Nat × (Nat→Int))) (R:List (Nat × Nat)) (w':World):Prop where
 rows:∀ p∈l,Has w' p.1 p.2.1 p.2.2.1 p.2.2.2∧p.1<m
 room:∀ q∈R,w'.there q.1 0 q.2∧q.1<m∧w.heap.size≤q.1
 apart:∀ p∈l,∀ q∈R,p.1≠q.1
 size:m≤w'.heap.size
 base:w.heap.size≤m
 below:Below w.heap.size w w'
section
variable {w w' w'':World} {m:Nat} {l:List (Nat × IntKind × Nat × (Nat→Int))} {R:List (Nat × Nat)}
theorem Kr.init (w:World):Kr w w.heap.size [] [] w:=⟨fun _ h=>(by cases h),fun _ h=>(by cases h),fun _ h=>(by cases h),xnR _,xnR _,Below.refl _ _⟩
theorem Kr.drew (h:Kr w m l R w'):Kr w m l R w'.drew:=⟨fun p hp=>⟨(h.rows p hp).1.drew,(h.rows p hp).2⟩,h.room,h.apart,h.size,h.base,h.below.drew⟩
theorem Kr.call (h:Kr w m l R w') (b:Below w'.heap.size w' w''):Kr w m l R w'' :=
 ⟨fun p hp=>⟨(h.rows p hp).1.below b (xnL (h.rows p hp).2 h.size),(h.rows p hp).2⟩,
  fun q hq=>⟨there_below (h.room q hq).1 b (xnL (h.room q hq).2.1 h.size),(h.room q hq).2⟩,h.apart,xnT h.size b.size,h.base,h.below.trans (b.mono (xnT h.base h.size))⟩
theorem Kr.box (h:Kr w m l R w') (k:IntKind) (n:Nat) (f:Nat→Int) (t:TypeId) (b:Nat) (hb:b=w'.heap.size):Kr w (b+1) ((b,k,n,f)::l) R (w'.alloc (.cells (row k n f).toArray t)):=by
 have hc:=h.call ((Below.refl w'.heap.size w').alloc (xnR _) (.cells (row k n f).toArray t))
 refine ⟨fun p hp=>?_,fun q hq=>⟨(hc.room q hq).1,by have:=(hc.room q hq).2.1; have:=h.size; omega,(hc.room q hq).2.2⟩,fun p hp q hq=>?_,by simp; omega,by have:=h.base; have:=h.size; omega,hc.below⟩
 · rcases xc1 hp with rfl | hp
   · exact ⟨Has.new w' k n f t b hb,by simp⟩
   · exact ⟨(hc.rows p hp).1,by have:=(hc.rows p hp).2; have:=h.size; omega⟩
 · rcases xc1 hp with rfl | hp
   · have:=(h.room q hq).2.1; have:=h.size; simp only; omega
   · exact h.apart p hp q hq
theorem Kr.make (h:Kr w m l R w') (n:Nat) (c:Array Value) (t:TypeId) (b:Nat) (hb:b=w'.heap.size) (hn:(w'.alloc (.cells c t)).there b 0 n):Kr w (b+1) l ((b,n)::R) (w'.alloc (.cells c t)):=by
 have hc:=h.call ((Below.refl w'.heap.size w').alloc (xnR _) (.cells c t))
 refine ⟨fun p hp=>⟨(hc.rows p hp).1,by have:=(hc.rows p hp).2; have:=h.size; omega⟩,fun q hq=>?_,fun p hp q hq=>?_,by simp; omega,by have:=h.base; have:=h.size; omega,hc.below⟩
 · rcases xc1 hq with rfl | hq
   · exact ⟨hn,by simp,by have:=h.base; have:=h.size; simp only; omega⟩
   · exact ⟨(hc.room q hq).1,by have:=(hc.room q hq).2.1; have:=h.size; omega,(hc.room q hq).2.2⟩
 · rcases xc1 hq with rfl | hq
   · have:=(h.rows p hp).2; have:=h.size; simp only; omega
   · exact h.apart p hp q hq
theorem Kr.past (h:Kr w m l R w') (b:Nat) (hb:m≤b) (vs:List Value):Kr w m l R (w'.setCells b 0 vs) :=
 ⟨fun p hp=>⟨(h.rows p hp).1.setAll_other _ (by have:=(h.rows p hp).2; omega) 0 _,(h.rows p hp).2⟩,fun q hq=>⟨World.there_setCells (h.room q hq).1 _ _ _,(h.room q hq).2⟩,h.apart,by rw [size_setAll]; exact h.size,h.base,
  below_setAll h.below _ (xnT h.base hb) 0 _⟩
theorem Kr.fill (h:Kr w m l R w') (b n:Nat) (hb:(b,n)∈R) (vs:List Value):Kr w m l R (w'.setCells b 0 vs) :=
 ⟨fun p hp=>⟨(h.rows p hp).1.setAll_other _ (fun e=>h.apart p hp _ hb e.symm) 0 _,(h.rows p hp).2⟩,fun q hq=>⟨World.there_setCells (h.room q hq).1 _ _ _,(h.room q hq).2⟩,h.apart,by rw [size_setAll]; exact h.size,h.base,
  below_setAll h.below _ (h.room _ hb).2.2 0 _⟩
theorem Kr.get (h:Kr w m l R w') (b:Nat) (k:IntKind) (n:Nat) (f:Nat→Int) (hp:(b,k,n,f)∈l):Has w' b k n f:=(h.rows _ hp).1
theorem Kr.roomy (h:Kr w m l R w') (b:Nat) (k:IntKind) (n:Nat) (f:Nat→Int) (hb:(b,n)∈R):w'.there b 0 (row k n f).toArray.size:=by rw [List.size_toArray,row_length]; exact (h.room _ hb).1
theorem Kr.fresh (h:Kr w m l R w') (k:IntKind) (n:Nat) (f:Nat→Int) (c:Array Value) (t:TypeId) (hn:(w'.alloc (.cells c t)).there w'.heap.size 0 n) :
 Kr w (w'.heap.size+1) ((w'.heap.size,k,n,f)::l) R ((w'.alloc (.cells c t)).setCells w'.heap.size 0 (row k n f)):=by
 have hk:=h.make n c t w'.heap.size rfl hn; have hc:=hk.fill w'.heap.size n mS (row k n f)
 refine ⟨fun p hp=>?_,fun q hq=>hc.room q (mT _ hq),fun p hp q hq=>?_,hc.size,hc.base,hc.below⟩
 · rcases xc1 hp with rfl | hp
   · exact ⟨Has.all hn k f,by simp⟩
   · exact hc.rows p hp
 · rcases xc1 hp with rfl | hp
   · have:=(h.room q hq).2.1; have:=h.size; simp only; omega
   · exact h.apart p hp q hq
theorem Kr.poke (h:Kr w m l R w') (b n:Nat) (hb:(b,n)∈R) (o:Nat) (vs:List Value):Kr w m l R (w'.setCells b o vs) :=
 ⟨fun p hp=>⟨(h.rows p hp).1.setAll_other _ (fun e=>h.apart p hp _ hb e.symm) o _,(h.rows p hp).2⟩,fun q hq=>⟨World.there_setCells (h.room q hq).1 _ _ _,(h.room q hq).2⟩,h.apart,by rw [size_setAll]; exact h.size,h.base,
  below_setAll h.below _ (h.room _ hb).2.2 o _⟩
theorem Kr.loose (h:Kr w m l R w') (l':List (Nat × IntKind × Nat × (Nat→Int))) (b:Nat) (k:IntKind) (n:Nat) (f:Nat→Int) (hp:(b,k,n,f)∈l) (hl:∀ p∈l',p∈l) (hne:∀ p∈l',p.1≠b) (hlo:w.heap.size≤b):Kr w m l' ((b,n)::R) w' :=
 ⟨fun p hp=>h.rows p (hl p hp),fun q hq=>by
  rcases xc1 hq with rfl | hq
  · exact ⟨(h.get _ _ _ _ hp).there,(h.rows _ hp).2,hlo⟩
  · exact h.room q hq,fun p hp' q hq=>by
  rcases xc1 hq with rfl | hq
  · exact hne p hp'
  · exact h.apart p (hl p hp') q hq,h.size,h.base,h.below⟩
theorem Kr.settle (h:Kr w m l R w') (R':List (Nat × Nat)) (b:Nat) (k:IntKind) (n:Nat) (f:Nat→Int) (hb:(b,n)∈R) (hR:∀ q∈R',q∈R) (hne:∀ q∈R',q.1≠b) (hf:Has w' b k n f):Kr w m ((b,k,n,f)::l) R' w' :=
 ⟨fun p hp=>by
  rcases xc1 hp with rfl | hp
  · exact ⟨hf,(h.room _ hb).2.1⟩
  · exact h.rows p hp,fun q hq=>h.room q (hR q hq),fun p hp q hq=>by
  rcases xc1 hp with rfl | hp
  · exact (hne q hq).symm
  · exact h.apart p hp q (hR q hq),h.size,h.base,h.below⟩
theorem Kr.sub (h:Kr w m l R w') (l':List (Nat × IntKind × Nat × (Nat→Int))) (hl:∀ p∈l',p∈l):Kr w m l' R w' :=
 ⟨fun p hp=>h.rows p (hl p hp),h.room,fun p hp q hq=>h.apart p (hl p hp) q hq,h.size,h.base,h.below⟩
theorem Kr.set (h:Kr w m l R w') (l':List (Nat × IntKind × Nat × (Nat→Int))) (b:Nat) (k:IntKind) (n:Nat) (f g:Nat→Int) (hp:(b,k,n,f)∈l) (hl:∀ p∈l',p∈l) (hne:∀ p∈l',p.1≠b) (hlo:w.heap.size≤b):Kr w m ((b,k,n,g)::l') R (w'.setCells b 0 (row k n g)) :=
 ((h.loose l' b k n f hp hl hne hlo).fill b n mS _).settle R b k n g mS (fun _ hq=>mT _ hq) (fun q hq=>(h.apart _ hp q hq).symm) (Has.all (h.get _ _ _ _ hp).there k g)
theorem Kr.back (h:Kr w m l R w') (l':List (Nat × IntKind × Nat × (Nat→Int))) (m0:Nat) (hl:∀ p∈l',p∈l) (hm:∀ p∈l',p.1<m0) (hr:∀ q∈R,q.1<m0) (h0:w.heap.size≤m0) (h1:m0≤m):Kr w m0 l' R w' :=
 ⟨fun p hp=>⟨(h.rows p (hl p hp)).1,hm p hp⟩,fun q hq=>⟨(h.room q hq).1,hr q hq,(h.room q hq).2.2⟩,fun p hp q hq=>h.apart p (hl p hp) q hq,xnT h1 h.size,h0,h.below⟩
end
section
variable {P:Program} {ops:Array Oper} {Q:Exit→Act→World→Prop} {md:Region.Mode} {S:World→Prop}
theorem rowKH {i:Nat} {oi:Oper} (dst:Option Tmp) (hdst:oi.dst=dst) {fuel:Nat} {listed:Array Bool} {a:Act} {w:World} (k:IntKind) (n:Nat) (f:Nat→Int) (b o:Nat) (ty:TypeId) (x:Operand) (d:TypeDesc) (hi:ops[i]?=some oi)
 (ho:oi.op=.load ty x) (hx:a.eval x=.pointer (some ⟨b,o,none⟩)) (hw:Region.wanted oi (yielded ops a.tmps)=true)
 (hs:Region.noSelect ops=true) (hf:Region.free md ops listed i=true) (hr:(Region.ready md ops listed).contains i=true)
 (hQ:∀ c a w,Q (.panic c) (a.put dst (.agg (row k n f).toArray)) w→Q (.panic c) a w)
 (hu:P.underlying ty=some d) (hd:d.isRow=true) (hz:(P.info? ty).map (·.size)=some (row k n f).length)
 (hS:S w) (hh:∀ w,S w→w.rangeAt b o (row k n f))
 (h:wpAnyH P md ops Q S fuel (listed.setIfInBounds i true) (a.put dst (.agg (row k n f).toArray)) w):wpAnyH P md ops Q S (fuel+1) listed a w:=by
 subst hdst
 exact wpAnyH_take hi hs hf hr hQ (yieldsIf_load_mid hw ty x ho b o hx (row k n f) d hh hu hd hz) hS h
theorem rowKL {o':Oper} {rest:List Oper} {a:Act} {w:World} (k:IntKind) (n:Nat) (f:Nat→Int) (b o:Nat) (ty:TypeId) (x:Operand) (d:TypeDesc) (hw:Region.wanted o' (yielded ops a.tmps)=true)
 (ho:o'.op=.load ty x) (hx:a.eval x=.pointer (some ⟨b,o,none⟩)) (hu:P.underlying ty=some d) (hd:d.isRow=true) (hz:(P.info? ty).map (·.size)=some (row k n f).length) (hh:w.rangeAt b o (row k n f))
 (h:wpList P ops Q rest (a.put o'.dst (.agg (row k n f).toArray)) w):wpList P ops Q (o'::rest) a w:=by
 unfold wpList
 rw [if_pos hw]
 exact .inl (wp_load_mid ty x ho b o hx (row k n f) d hh hu hd hz h)
end
section
variable {P:Program} {ops:Array Oper} {Q:Exit→Act→World→Prop} {md:Region.Mode} {S:World→Prop}
theorem run_loadVar_cell (w:World) (b o:Nat) (ty:TypeId) (k:IntKind) (v:Value) (hc:w.cell? ⟨b,o,none⟩=some v) (hu:P.underlying ty=some (.int k)):(loadVar ty ⟨b,o,none⟩).run P w=.ok v w:=by
 have hagg:(isAgg ty).run P w=.ok false w:=by
  unfold isAgg
  rw [Sem.run_bind,run_underlying hu w]
  rfl
 simp [loadVar,Sem.run_bind,hagg,hc]
theorem cellH {i:Nat} {oi:Oper} (dst:Option Tmp) (hdst:oi.dst=dst) {fuel:Nat} {listed:Array Bool} {a:Act} {w:World} (k:IntKind) (v:Value) (b o:Nat) (ty:TypeId) (x:Operand) (hi:ops[i]?=some oi)
 (ho:oi.op=.load ty x) (hx:a.eval x=.pointer (some ⟨b,o,none⟩)) (hw:Region.wanted oi (yielded ops a.tmps)=true)
 (hs:Region.noSelect ops=true) (hf:Region.free md ops listed i=true) (hr:(Region.ready md ops listed).contains i=true)
 (hQ:∀ c a w,Q (.panic c) (a.put dst v) w→Q (.panic c) a w)
 (hu:P.underlying ty=some (.int k))
 (hS:S w) (hh:∀ w,S w→w.cell? ⟨b,o,none⟩=some v)
 (h:wpAnyH P md ops Q S fuel (listed.setIfInBounds i true) (a.put dst v) w):wpAnyH P md ops Q S (fuel+1) listed a w:=by
 subst hdst
 refine wpAnyH_take hi hs hf hr hQ (.inl ⟨hw,fun w hw'=>?_⟩) hS h
 unfold execOp
 simp only [ho,hx,Instr.loadAt,Instr.sureAddr,Sem.run_bind,Sem.run_pure,Result.andThen_ok,run_loadVar_cell w b o ty k v (hh w hw') hu]
theorem cellL {o':Oper} {rest:List Oper} {a:Act} {w:World} (k:IntKind) (v:Value) (b o:Nat) (ty:TypeId) (x:Operand) (hw:Region.wanted o' (yielded ops a.tmps)=true)
 (ho:o'.op=.load ty x) (hx:a.eval x=.pointer (some ⟨b,o,none⟩)) (hu:P.underlying ty=some (.int k)) (hh:w.cell? ⟨b,o,none⟩=some v)
 (h:wpList P ops Q rest (a.put o'.dst v) w):wpList P ops Q (o'::rest) a w:=by
 unfold wpList
 rw [if_pos hw]
 refine .inl ?_
 unfold Oper.wp execOp
 simp only [ho,hx,Instr.loadAt,Instr.sureAddr,Sem.run_bind,Sem.run_pure,Result.andThen_ok,run_loadVar_cell w b o ty k v hh hu]
 exact h
end
end
theorem below_drewN {B:Nat} {w w':World} (h:Below B w w') {n:Nat}:Below B w (w'.drewN n):=⟨h.os,h.tape,h.output,h.size,h.block⟩
def over (f:Nat→Int) (o m:Nat) (g:Nat→Int):Nat→Int:=fun j=>if o≤j∧j<o+m then g (j-o) else f j
theorem Has.part {w:World} {b:Nat} {k:IntKind} {n:Nat} {f:Nat→Int} (h:Has w b k n f) (o m:Nat) (ho:o+m≤n) (g:Nat→Int):Has (w.setCells b o (row k m g)) b k n (over f o m g):=by
 have ht:w.there b o m:=fun j hj=>by rw [h.cell (o+j) (by omega)]; exact ⟨rfl,h.free (o+j) (by omega)⟩
 refine ⟨fun j hj=>?_,fun j hj=>by rw [World.frozen?_setCells]; exact h.free j hj⟩
 unfold over
 by_cases e:o≤j∧j<o+m
 · rw [if_pos e]
   have:=World.rangeAt_setCells_same w b o (row k m g) (by rw [row_length]; exact ht) (j-o) _ (row_get k m g (j-o) (by omega))
   rw [show o+(j-o)=j by omega] at this
   exact this
 · rw [if_neg e]
   have hr:w.rangeAt b j [.int k (f j)]:=fun i v hv=>by
    rcases i with _ | i
    · obtain rfl:Value.int k (f j)=v:=by simpa using hv
      exact h.cell j hj
    · simp at hv
   exact World.rangeAt_setCells_apart hr b o (row k m g) (Or.inr (by rw [row_length]; simp only [List.length_cons,List.length_nil]; omega)) 0 _ rfl
theorem over_in {M:Int} {n o m:Nat} {f g:Nat→Int} (hf:In M n f) (hg:In M m g):In M n (over f o m g):=fun j hj=>by
 unfold over
 split
 · exact hg _ (by omega)
 · exact hf j hj
theorem val_split (M:Int) (f:Nat→Int) (n:Nat):∀ k,val M f (n+k)=val M f n+M^n*val M (fun j=>f (n+j)) k
 | 0=>by simp [val]
 | k+1=>by
   rw [← Nat.add_assoc]
   simp only [val]
   rw [val_split M f n k,Int.mul_add,← Int.mul_assoc,Int.pow_add]
   omega
theorem of_same (B o c:Nat) (x0 x1 x2 x3 x4 x5 x6 x7:Int) (h0:0≤x0∧x0<256) (h1:0≤x1∧x1<256) (h2:0≤x2∧x2<256) (h3:0≤x3∧x3<256) (h4:0≤x4∧x4<256) (h5:0≤x5∧x5<256) (h6:0≤x6∧x6<256) (h7:0≤x7∧x7<256) (w:World) (c0:w.cell? ⟨B,o,none⟩=some (.int .u8 x0)) (c1:w.cell? ⟨B,o+1,none⟩=some (.int .u8 x1)) (c2:w.cell? ⟨B,o+2,none⟩=some (.int .u8 x2)) (c3:w.cell? ⟨B,o+3,none⟩=some (.int .u8 x3)) (c4:w.cell? ⟨B,o+4,none⟩=some (.int .u8 x4)) (c5:w.cell? ⟨B,o+5,none⟩=some (.int .u8 x5)) (c6:w.cell? ⟨B,o+6,none⟩=some (.int .u8 x6)) (c7:w.cell? ⟨B,o+7,none⟩=some (.int .u8 x7)) :
 Calls Tryz.prog 107 #[.slice (some ⟨B,o,none⟩) 8 c] w fun e w'=>∃ q,e=.returned (.int .u64 (x0+x1*256+x2*65536+x3*16777216+x4*4294967296+x5*1099511627776+x6*281474976710656+x7*72057594037927936))∧w'=w.drewN q:=by
 have hg:=glued x0 x1 x2 x3 x4 x5 x6 x7 h0 h1 h2 h3 h4 h5 h6 h7; have HG:=show Hid _ from hg; clear hg h0 h1 h2 h3 h4 h5 h6 h7
 go_enter Tryz.func107,Tryz.ntmps107
 go_wp2
 go_quiet (fail)
 go_wp2; go_ret
 exact ⟨nq,by rw [HG.out]; rfl,rfl⟩
theorem of_raw (B o c:Nat) (x0 x1 x2 x3 x4 x5 x6 x7:Int) (h0:0≤x0∧x0<256) (h1:0≤x1∧x1<256) (h2:0≤x2∧x2<256) (h3:0≤x3∧x3<256) (h4:0≤x4∧x4<256) (h5:0≤x5∧x5<256) (h6:0≤x6∧x6<256) (h7:0≤x7∧x7<256) (w:World) (c0:w.cell? ⟨B,o,none⟩=some (.int .u8 x0)) (c1:w.cell? ⟨B,o+1,none⟩=some (.int .u8 x1)) (c2:w.cell? ⟨B,o+2,none⟩=some (.int .u8 x2)) (c3:w.cell? ⟨B,o+3,none⟩=some (.int .u8 x3)) (c4:w.cell? ⟨B,o+4,none⟩=some (.int .u8 x4)) (c5:w.cell? ⟨B,o+5,none⟩=some (.int .u8 x5)) (c6:w.cell? ⟨B,o+6,none⟩=some (.int .u8 x6)) (c7:w.cell? ⟨B,o+7,none⟩=some (.int .u8 x7)) :
 Calls Tryz.prog 107 #[.slice (some ⟨B,o,none⟩) 8 c] w fun e w'=>e=.returned (.int .u64 (x0+x1*256+x2*65536+x3*16777216+x4*4294967296+x5*1099511627776+x6*281474976710656+x7*72057594037927936))∧Below w.heap.size w w' :=
 (of_same B o c x0 x1 x2 x3 x4 x5 x6 x7 h0 h1 h2 h3 h4 h5 h6 h7 w c0 c1 c2 c3 c4 c5 c6 c7).mono fun _ _ ⟨_,he,hw⟩=>⟨he,by rw [hw]; exact (below_drewN (Below.refl _ _))⟩
theorem put_raw (B o c:Nat) (x:Int) (y0 y1 y2 y3 y4 y5 y6 y7:Int) (w:World) (c0:w.cell? ⟨B,o,none⟩=some (.int .u8 y0)) (f0:w.frozen? ⟨B,o,none⟩=false) (c1:w.cell? ⟨B,o+1,none⟩=some (.int .u8 y1)) (f1:w.frozen? ⟨B,o+1,none⟩=false) (c2:w.cell? ⟨B,o+2,none⟩=some (.int .u8 y2)) (f2:w.frozen? ⟨B,o+2,none⟩=false) (c3:w.cell? ⟨B,o+3,none⟩=some (.int .u8 y3)) (f3:w.frozen? ⟨B,o+3,none⟩=false) (c4:w.cell? ⟨B,o+4,none⟩=some (.int .u8 y4)) (f4:w.frozen? ⟨B,o+4,none⟩=false) (c5:w.cell? ⟨B,o+5,none⟩=some (.int .u8 y5)) (f5:w.frozen? ⟨B,o+5,none⟩=false) (c6:w.cell? ⟨B,o+6,none⟩=some (.int .u8 y6)) (f6:w.frozen? ⟨B,o+6,none⟩=false) (c7:w.cell? ⟨B,o+7,none⟩=some (.int .u8 y7)) (f7:w.frozen? ⟨B,o+7,none⟩=false) :
 Calls Tryz.prog 55 #[.slice (some ⟨B,o,none⟩) 8 c,.int .u64 x] w fun e w'=>e=.returned (.tuple #[])∧w'=((((((((w.setCell ⟨B,o,none⟩ (.int .u8 (x%256))).setCell ⟨B,o+1,none⟩ (.int .u8 (x/256%256))).setCell ⟨B,o+2,none⟩ (.int .u8 (x/65536%256))).setCell ⟨B,o+3,none⟩ (.int .u8 (x/16777216%256))).setCell ⟨B,o+4,none⟩ (.int .u8 (x/4294967296%256))).setCell ⟨B,o+5,none⟩ (.int .u8 (x/1099511627776%256))).setCell ⟨B,o+6,none⟩ (.int .u8 (x/281474976710656%256))).setCell ⟨B,o+7,none⟩ (.int .u8 (x/72057594037927936%256))):=by
 go_enter Tryz.func55,Tryz.ntmps55
 go_wp2
 go_end0
 exact ⟨rfl,rfl⟩
def byt (x:Int):Nat→Int
 | 0=>x%256
 | 1=>x/256%256
 | 2=>x/65536%256
 | 3=>x/16777216%256
 | 4=>x/4294967296%256
 | 5=>x/1099511627776%256
 | 6=>x/281474976710656%256
 | 7=>x/72057594037927936%256
 | _+8=>0
theorem byt_in (x:Int):In 256 8 (byt x)
 | 0,_=>by show 0≤x%256∧x%256<256; omega
 | 1,_=>by show 0≤x/256%256∧x/256%256<256; omega
 | 2,_=>by show 0≤x/65536%256∧x/65536%256<256; omega
 | 3,_=>by show 0≤x/16777216%256∧x/16777216%256<256; omega
 | 4,_=>by show 0≤x/4294967296%256∧x/4294967296%256<256; omega
 | 5,_=>by show 0≤x/1099511627776%256∧x/1099511627776%256<256; omega
 | 6,_=>by show 0≤x/281474976710656%256∧x/281474976710656%256<256; omega
 | 7,_=>by show 0≤x/72057594037927936%256∧x/72057594037927936%256<256; omega
 | _+8,h=>by omega
theorem val_byt (x:Int) (h0:0≤x) (h1:x<W):val 256 (byt x) 8=x:=by
 simp only [W] at h1
 have h:=bytes_of x h0 h1; simp only [val,byt]
 omega
theorem word8 (a:Nat→Int) (o:Nat):val 256 (fun j=>a (o+j)) 8=a o+a (o+1)*256+a (o+2)*65536+a (o+3)*16777216+a (o+4)*4294967296+a (o+5)*1099511627776+a (o+6)*281474976710656+a (o+7)*72057594037927936:=by
 simp only [val,Nat.add_zero]
 omega
theorem of_any (B o n c:Nat) (a:Nat→Int) (ho:o+8≤n) (ha:In 256 n a) (w:World) (h:Has w B .u8 n a) :
 Calls Tryz.prog 107 #[.slice (some ⟨B,o,none⟩) 8 c] w fun e w'=>e=.returned (.int .u64 (val 256 (fun j=>a (o+j)) 8))∧Below w.heap.size w w':=by
 rw [word8]
 exact of_raw B o c _ _ _ _ _ _ _ _ (ha o (by omega)) (ha (o+1) (by omega)) (ha (o+2) (by omega)) (ha (o+3) (by omega)) (ha (o+4) (by omega)) (ha (o+5) (by omega)) (ha (o+6) (by omega)) (ha (o+7) (by omega)) w
  (h.cell o (by omega)) (h.cell (o+1) (by omega)) (h.cell (o+2) (by omega)) (h.cell (o+3) (by omega)) (h.cell (o+4) (by omega)) (h.cell (o+5) (by omega)) (h.cell (o+6) (by omega)) (h.cell (o+7) (by omega))
theorem put_any (B o n c:Nat) (g:Nat→Int) (x:Int) (ho:o+8≤n) (w:World) (h:Has w B .u8 n g) :
 Calls Tryz.prog 55 #[.slice (some ⟨B,o,none⟩) 8 c,.int .u64 x] w fun e w'=>e=.returned (.tuple #[])∧w'=w.setCells B o (row .u8 8 (byt x)) :=
 put_raw B o c x _ _ _ _ _ _ _ _ w (h.cell o (by omega)) (h.free o (by omega)) (h.cell (o+1) (by omega)) (h.free (o+1) (by omega)) (h.cell (o+2) (by omega)) (h.free (o+2) (by omega)) (h.cell (o+3) (by omega)) (h.free (o+3) (by omega)) (h.cell (o+4) (by omega)) (h.free (o+4) (by omega)) (h.cell (o+5) (by omega)) (h.free (o+5) (by omega)) (h.cell (o+6) (by omega)) (h.free (o+6) (by omega)) (h.cell (o+7) (by omega)) (h.free (o+7) (by omega))
theorem big_info (f:Nat→Int):(Tryz.prog.info? 131).map (·.size)=some (row .u8 17 f).length:=by rw [row_length]; kernel_rfl
theorem big_info' (f:Nat→Int):(Tryz.prog.info? 131).map (·.size)=some (row .u8 17 f).toArray.size:=by rw [List.size_toArray]; exact big_info f
theorem big_there {w:World} {b:Nat} {f g:Nat→Int} (h:Has w b .u8 17 f):w.there b 0 (row .u8 17 g).toArray.size:=by rw [List.size_toArray,row_length]; exact h.there
theorem big_zero (w:World) (t:TypeId) (b:Nat) (hb:b=w.heap.size):Has (w.alloc (.cells zu8_17 t)) b .u8 17 (fun _=>0):=Has.new w .u8 17 (fun _=>0) t b hb
theorem big_val (f:Nat→Int):val 256 f 17=val 256 f 8+18446744073709551616*val 256 (fun j=>f (8+j)) 8+340282366920938463463374607431768211456*f 16:=by
 have e1:val 256 f 17=val 256 f 16+256^16*f 16:=rfl
 have e2:=val_split 256 f 8 8
 rw [show (8+8:Nat)=16 from rfl] at e2
 rw [e1,e2,show (256:Int)^8=18446744073709551616 from by decide,show (256:Int)^16=340282366920938463463374607431768211456 from by decide]
theorem words_in (a:Nat→Int) (ha:In 256 17 a) (o:Nat) (ho:o+8≤17):0≤val 256 (fun j=>a (o+j)) 8∧val 256 (fun j=>a (o+j)) 8<W :=
 val_in 256 (by decide) (fun j=>a (o+j)) 8 (fun j hj=>ha (o+j) (by omega))
theorem wrap_byte (x:Int) (h:0≤x∧x<256):IntKind.u64.wrap x=x:=by rw [IntKind.wrap_u64]; omega
theorem split_any (a:Nat→Int) (ha:In 256 17 a) (w:World) :
 Calls Tryz.prog 94 #[(.agg (row .u8 17 (a)).toArray)] w fun e w'=>∃ n:Nat→Int,e=.returned (.agg (row .u64 3 (n)).toArray)∧(In W 3 n∧n 2<256∧val W n 3=val 256 a 17)∧Below w.heap.size w w':=by
 have K:=Kr.init w; replace K:=K.box .u8 17 a 131 w.heap.size rfl; replace K:=K.make 3 #[.int .u64 0,.int .u64 0,.int .u64 0] 153 (w.heap.size+1) (by simp) (cnum_zero _ _ _ (by simp)).there
 go_enter Tryz.func94,Tryz.ntmps94
 go_upto_region 1 with fail; refine wp_region_held_drew (S:=fun w'=>Kr w _ [(w.heap.size,.u8,17,a)] [(w.heap.size+1,3)] w') (by kernel_rfl) K.drew ?_; clear K; intro K; refine xpH 0 3 (.slice (some ⟨w.heap.size,0,none⟩) 8 17) K ?_; refine xpH 2 5 (.slice (some ⟨w.heap.size,8,none⟩) 8 9) K ?_; refine xpH 4 7 (.pointer (some ⟨w.heap.size,16,none⟩)) K ?_
 refine cellH (i:=5) (some 8) rfl .u8 (.int .u8 (a 16)) w.heap.size 16 5 _ rfl rfl rfl rfl (by kernel_rfl) (by kernel_rfl) (by kernel_rfl) (fun _ _ _ h=>h) Tryz.underlying5 K (fun _ h=>(h.get _ _ _ _ mS).cell 16 (by omega)) ?_; simp only [aP,lI,l0,lS]; refine xpH 6 9 (.int .u64 (IntKind.u64.wrap (a 16))) K ?_
 rw [wrap_byte (a 16) (ha 16 (by omega))]
 refine callH (i:=1) (some 4) rfl (by kernel_rfl) rfl rfl (fun _=>by kernel_rfl) (of_any w.heap.size 0 17 17 a (by omega) ha _ (K.get _ _ _ _ mS)) ?_; rintro e w1 ⟨rfl,l⟩; replace K:=K.call l; clear l
 refine ⟨_,rfl,K,?_⟩
 simp only [aP,lI,l0,lS]; refine callH (i:=3) (some 6) rfl (by kernel_rfl) rfl rfl (fun _=>by kernel_rfl) (of_any w.heap.size 8 17 9 a (by omega) ha _ (K.get _ _ _ _ mS)) ?_; rintro e w2 ⟨rfl,l⟩; replace K:=K.call l; clear l
 refine ⟨_,rfl,K,?_⟩
 simp only [aP,lI,l0,lS]; have i0:=words_in a ha 0 (by omega); have i1:=words_in a ha 8 (by omega); have i2:=ha 16 (by omega); have hv:=big_val a
 have e0:val 256 (fun j=>a (0+j)) 8=val 256 a 8:=val_congr 256 8 fun j _=>by rw [Nat.zero_add]
 rw [e0] at i0 ⊢
 generalize val 256 a 8=x at *; generalize val 256 (fun j=>a (8+j)) 8=y at *; generalize a 16=z at *; have HE:=show Hid (In W 3 (tri x y z)∧tri x y z 2<256∧val W (tri x y z) 3=val 256 a 17) from ⟨tri_in i0 i1 (by simp only [W]; omega),i2.2,by rw [tri_val,hv]⟩; clear i0 i1 i2 hv e0; refine xpH 7 10 (.agg (row .u64 3 (tri x y z)).toArray) K ?_
 refine storesH (i:=8) none rfl .u64 3 (tri x y z) (w.heap.size+1) 153 _ _ (by kernel_rfl) rfl rfl rfl rfl rfl (K.roomy _ _ _ _ mS) (cnum_info' _) (K.fill _ _ mS _) ?_
 refine wpAnyH_done (by kernel_rfl) ?_ _
 have hz:=(K.room _ mS).1; have hB:=(K.fill _ _ mS (row .u64 3 (tri x y z))).below; clear K; go_wp2
 exact bodyPost_ret (v:=(.agg (row .u64 3 (tri x y z)).toArray)) (results_row Tryz.results94 rfl (Has.all hz .u64 _).range Tryz.underlying153 rfl (cnum_info _)) rfl ⟨_,rfl,HE.out,hB⟩
def joinB (n:Nat→Int):Nat→Int:=upd (over (over (fun _=>0) 0 8 (byt (n 0))) 8 8 (byt (n 1))) 16 (n 2%256)
theorem joinB_in (n:Nat→Int):In 256 17 (joinB n):=(over_in (over_in (fun _ _=>⟨Int.le_refl 0,(by decide:(0:Int)<256)⟩) (byt_in _)) (byt_in _)).upd 16 _ (by omega) (by omega)
theorem joinB_val (n:Nat→Int) (hn:In W 3 n):val 256 (joinB n) 17=val W n 3%87112285931760246646623899502532662132736:=by
 have h0:=hn 0 (by omega); have h1:=hn 1 (by omega); have h2:=hn 2 (by omega); have b0:=val_byt (n 0) h0.1 h0.2; have b1:=val_byt (n 1) h1.1 h1.2
 have e0:val 256 (joinB n) 8=n 0:=by
  rw [← b0]
  refine val_congr 256 8 fun j hj=>?_
  unfold joinB
  rw [upd_other _ _ _ _ (by omega)]
  unfold over
  rw [if_neg (by omega),if_pos (by omega),Nat.sub_zero]
 have e1:val 256 (fun j=>joinB n (8+j)) 8=n 1:=by
  rw [← b1]
  refine val_congr 256 8 fun j hj=>?_
  unfold joinB
  rw [upd_other _ _ _ _ (by omega)]
  unfold over
  rw [if_pos (by omega),Nat.add_sub_cancel_left]
 have e2:joinB n 16=n 2%256:=by unfold joinB; rw [upd_same]
 rw [big_val,e0,e1,e2,v3]
 simp only [W] at *
 omega
theorem join_any (n:Nat→Int) (w:World) :
 Calls Tryz.prog 95 #[(.agg (row .u64 3 (n)).toArray)] w fun e w'=>e=.returned (.agg (row .u8 17 (joinB n)).toArray)∧Below w.heap.size w w':=by
 have K:=Kr.init w; replace K:=K.box .u64 3 n 153 w.heap.size rfl; replace K:=K.make 17 zu8_17 131 (w.heap.size+1) (by simp) (big_zero _ _ _ (by simp)).there
 go_enter Tryz.func95,Tryz.ntmps95
 go_upto_region 1 with fail; generalize ((w.alloc (.cells (row .u64 3 n).toArray 153)).alloc (.cells zu8_17 131))=w1 at K ⊢; have s1:=K.size; have H:=big_zero w1 131 w1.heap.size rfl; replace K:=K.make 17 zu8_17 131 w1.heap.size rfl H.there; go_upto_region 2 with fail; generalize w1.alloc (.cells zu8_17 131)=w2 at K H ⊢; generalize w1.heap.size=O at *; clear w1
 refine wp_region_held_drew (S:=fun w'=>Kr w _ [(w.heap.size,.u64,3,n)] [(O,17),(w.heap.size+1,17)] w') (by kernel_rfl) K.drew ?_; clear K; intro K; replace H:=H.drew; refine xpH 0 4 (.slice (some ⟨O,0,none⟩) 8 17) K ?_; refine xpH 1 5 (.pointer (some ⟨w.heap.size,0,none⟩)) K ?_
 refine cellH (i:=2) (some 6) rfl .u64 (.int .u64 (n 0)) w.heap.size 0 107 _ rfl rfl rfl rfl (by kernel_rfl) (by kernel_rfl) (by kernel_rfl) (fun _ _ _ h=>h) Tryz.underlying107 K (fun _ h=>(h.get _ _ _ _ mS).cell 0 (by omega)) ?_; simp only [aP,lI,l0,lS]; refine callH (i:=3) (some 7) rfl (by kernel_rfl) rfl rfl (fun _=>by kernel_rfl) (put_any O 0 17 17 _ (n 0) (by omega) _ H) ?_
 rintro e w' ⟨rfl,rfl⟩; replace K:=K.poke O 17 mS 0 (row .u8 8 (byt (n 0))); replace H:=H.part 0 8 (by omega) (byt (n 0))
 refine ⟨_,rfl,K,?_⟩
 simp only [aP,lI,l0,lS]
 refine wpAnyH_done (by kernel_rfl) ?_ _
 generalize (w2.drew.setCells O 0 (row .u8 8 (byt (n 0))))=w3 at K H ⊢; go_upto_region 3 with fail; refine wp_region_held_drew (S:=fun w'=>Kr w _ [(w.heap.size,.u64,3,n)] [(O,17),(w.heap.size+1,17)] w') (by kernel_rfl) K.drew ?_; clear K; intro K; replace H:=H.drew; refine xpH 0 8 (.slice (some ⟨O,8,none⟩) 8 9) K ?_; refine xpH 1 9 (.pointer (some ⟨w.heap.size,1,none⟩)) K ?_
 refine cellH (i:=2) (some 10) rfl .u64 (.int .u64 (n 1)) w.heap.size 1 107 _ rfl rfl rfl rfl (by kernel_rfl) (by kernel_rfl) (by kernel_rfl) (fun _ _ _ h=>h) Tryz.underlying107 K (fun _ h=>(h.get _ _ _ _ mS).cell 1 (by omega)) ?_; simp only [aP,lI,l0,lS]; refine callH (i:=3) (some 11) rfl (by kernel_rfl) rfl rfl (fun _=>by kernel_rfl) (put_any O 8 17 9 _ (n 1) (by omega) _ H) ?_
 rintro e w' ⟨rfl,rfl⟩; replace K:=K.poke O 17 mS 8 (row .u8 8 (byt (n 1))); replace H:=H.part 8 8 (by omega) (byt (n 1))
 refine ⟨_,rfl,K,?_⟩
 simp only [aP,lI,l0,lS]
 refine wpAnyH_done (by kernel_rfl) ?_ _
 generalize (w3.drew.setCells O 8 (row .u8 8 (byt (n 1))))=w4 at K H ⊢; go_upto_region 4 with fail; have c2:=(K.get _ _ _ _ mS).cell 2 (by omega); have d2:=H.cell 16 (by omega); have f2:=H.free 16 (by omega); have H2:=H.set 16 (by omega) (n 2%256); replace K:=K.poke O 17 mS 16 [.int .u8 (n 2%256)]
 have K2:Kr w _ [(w.heap.size,.u64,3,n)] [(O,17),(w.heap.size+1,17)] (w4.setCell ⟨O,16,none⟩ (.int .u8 (n 2%256))):=K
 clear K H; go_upto_region 5 with fail
 have H:Has (w4.setCell ⟨O,16,none⟩ (.int .u8 (n 2%256))) O .u8 17 (joinB n):=H2
 clear H2; generalize w4.setCell ⟨O,16,none⟩ (.int .u8 (n 2%256))=w5 at K2 H ⊢; clear c2 d2 f2; have hz:=(K2.room _ (mT _ mS)).1; have hB:=(K2.fill _ _ (mT _ mS) (row .u8 17 (joinB n))).below; clear K2; generalize hf:joinB n=f at *
 go_wp2_with (first | (refine wpList_load_mid rfl 131 _ rfl (O) 0 rfl (row .u8 17 (f)) _ (Has.range (H)) Tryz.underlying131 rfl (big_info _) ?_) | (refine wpList_store_mid rfl 131 _ _ rfl (w.heap.size+1) 0 (row .u8 17 f).toArray rfl rfl (room_of hz) (big_info' _) (all_oneCell_toArray (row_one _ _ _)) ?_))
 exact bodyPost_ret (v:=(.agg (row .u8 17 (f)).toArray)) (results_row Tryz.results95 rfl (Has.all hz .u8 f).range Tryz.underlying131 rfl (big_info f)) rfl ⟨rfl,hB⟩
theorem cwid_info (f:Nat→Int):(Tryz.prog.info? 163).map (·.size)=some (row .u64 6 f).length:=by rw [row_length]; kernel_rfl
theorem mask4 (a:Nat) (ha:a<2^64):a &&& 18446744073709551612=a-a%4:=by
 have e1:(18446744073709551612:Nat)=(2^62-1) <<< 2:=by decide
 have e2:a-a%4=(a >>> 2) <<< 2:=by rw [Nat.shiftLeft_eq,Nat.shiftRight_eq_div_pow]; omega
 rw [e1,e2]
 refine Nat.eq_of_testBit_eq fun i=>?_
 rw [Nat.testBit_and,Nat.testBit_shiftLeft,Nat.testBit_shiftLeft,Nat.testBit_shiftRight,Nat.testBit_two_pow_sub_one]
 by_cases h:2≤i
 · rw [show 2+(i-2)=i by omega]
   by_cases h2:i<64
   · rw [decide_eq_true (show i-2<62 by omega)]; simp [h]
   · rw [Nat.testBit_lt_two_pow (xnL ha (Nat.pow_le_pow_right (by decide) (by omega)))]; simp
 · simp [h]
theorem andnot3 (x:Int) (h0:0≤x) (h1:x<W):bits BinOp.andNot IntKind.u64 x 3=x-x%4:=by
 simp only [W] at h1
 obtain ⟨x,rfl⟩:=xiN h0
 have h:=mask4 x (by omega)
 rw [show (3:Int)=((3:Nat):Int) from rfl,u64_andNot_nat x 3 (by omega) (by omega),show (18446744073709551615-3:Nat)=18446744073709551612 from rfl,h]
 omega
theorem or62 (x y:Int) (hx:0≤x) (hx':x<W) (hy:0≤y):bits BinOp.or IntKind.u64 (x/4) (IntKind.u64.wrap (y*4611686018427387904))=x/4+y%4*4611686018427387904:=by
 have hx2:=hx'
 simp only [W] at hx2
 obtain ⟨x,rfl⟩:=xiN hx
 obtain ⟨y,rfl⟩:=xiN hy
 have e1:IntKind.u64.wrap ((y:Int)*4611686018427387904)=((2^62*(y%4):Nat):Int):=by rw [IntKind.wrap_u64]; omega
 have e2:(x:Int)/4=((x/4:Nat):Int):=by omega
 have h:=Nat.two_pow_add_eq_or_of_lt (i:=62) (b:=x/4) (by omega) (y%4)
 rw [e1,e2,u64_or_nat (x/4) (2^62*(y%4)) (by omega) (by omega),Nat.or_comm,← h]
 omega
theorem lower_any (d:Nat→Int) (hd:In W 6 d) (hv:val W d 6≤FB*FB) (w:World) :
 Calls Tryz.prog 103 #[(.agg (row .u64 6 (d)).toArray)] w fun e w'=>∃ m:Nat→Int,e=.returned (.agg (row .u64 3 (m)).toArray)∧(Folded m∧val W m 3%Q=val W d 6%Q)∧Below w.heap.size w w':=by
 have hL:=lower_math hd hv; have i0:=hd 0 (by omega); have i1:=hd 1 (by omega); have i2:=hd 2 (by omega); have i3:=hd 3 (by omega); have i4:=hd 4 (by omega); have a2:=and3 (d 2) i2.1 i2.2; have n2:=andnot3 (d 2) i2.1 i2.2; have o2:=or62 (d 2) (d 3) i2.1 i2.2 i3.1; have o3:=or62 (d 3) (d 4) i3.1 i3.2 i4.1
 have HI:=show Hid _ from And.intro i0 (And.intro i1 (And.intro i2 (And.intro i3 i4))); have HL:=show Hid _ from hL; have K:=Kr.init w; replace K:=K.box .u64 6 d 163 w.heap.size rfl; replace K:=K.make 3 #[.int .u64 0,.int .u64 0,.int .u64 0] 153 (w.heap.size+1) (by simp) (cnum_zero _ _ _ (by simp)).there; clear hL i0 i1 i2 i3 i4 hd hv
 go_enter Tryz.func103,Tryz.ntmps103
 go_upto_region 1 with fail; generalize ((w.alloc (.cells (row .u64 6 d).toArray 163)).alloc (.cells #[.int .u64 0,.int .u64 0,.int .u64 0] 153))=w1 at K ⊢; have c0:=(K.get _ _ _ _ mS).cell 0 (by omega); have c1:=(K.get _ _ _ _ mS).cell 1 (by omega); have c2:=(K.get _ _ _ _ mS).cell 2 (by omega); have c3:=(K.get _ _ _ _ mS).cell 3 (by omega)
 have c4:=(K.get _ _ _ _ mS).cell 4 (by omega); have z:=cnum_zero w1 153 w1.heap.size rfl; have s1:=K.size
 go_upto_region 2 with (refine wpList_store_mid rfl 153 _ _ rfl (w1.heap.size) 0 (row .u64 3 (tri (d 0) (d 1) (d 2%4))).toArray rfl rfl (cnum_there (z)) (cnum_info' _) (all_oneCell_toArray (row_one _ _ _)) ?_)
 replace K:=K.fresh .u64 3 (tri (d 0) (d 1) (d 2%4)) #[.int .u64 0,.int .u64 0,.int .u64 0] 153 z.there; clear c0 c1 c2 c3 c4 z; generalize ((w1.alloc (.cells #[.int .u64 0,.int .u64 0,.int .u64 0] 153)).setCells w1.heap.size 0 (row .u64 3 (tri (d 0) (d 1) (d 2%4))))=w2 at K ⊢; generalize w1.heap.size=B1 at *; clear w1; have c0:=(K.get _ _ _ _ (mT _ mS)).cell 0 (by omega)
 have c1:=(K.get _ _ _ _ (mT _ mS)).cell 1 (by omega); have c2:=(K.get _ _ _ _ (mT _ mS)).cell 2 (by omega); have c3:=(K.get _ _ _ _ (mT _ mS)).cell 3 (by omega); have c4:=(K.get _ _ _ _ (mT _ mS)).cell 4 (by omega); have z:=cnum_zero w2 153 w2.heap.size rfl; have s2:=K.size
 go_upto_region 3 with (refine wpList_store_mid rfl 153 _ _ rfl (w2.heap.size) 0 (row .u64 3 (tri (d 2-d 2%4) (d 3) (d 4))).toArray rfl rfl (cnum_there (z)) (cnum_info' _) (all_oneCell_toArray (row_one _ _ _)) ?_)
 replace K:=K.fresh .u64 3 (tri (d 2-d 2%4) (d 3) (d 4)) #[.int .u64 0,.int .u64 0,.int .u64 0] 153 z.there; clear c0 c1 c2 c3 c4 z; generalize ((w2.alloc (.cells #[.int .u64 0,.int .u64 0,.int .u64 0] 153)).setCells w2.heap.size 0 (row .u64 3 (tri (d 2-d 2%4) (d 3) (d 4))))=w3 at K ⊢; generalize w2.heap.size=B2 at *; clear w2
 have c0:=(K.get _ _ _ _ (mI 2 rfl)).cell 0 (by omega); have c1:=(K.get _ _ _ _ (mI 2 rfl)).cell 1 (by omega); have c2:=(K.get _ _ _ _ (mI 2 rfl)).cell 2 (by omega); have c3:=(K.get _ _ _ _ (mI 2 rfl)).cell 3 (by omega); have c4:=(K.get _ _ _ _ (mI 2 rfl)).cell 4 (by omega); have z:=cnum_zero w3 153 w3.heap.size rfl; have s3:=K.size
 go_upto_region 4 with (refine wpList_store_mid rfl 153 _ _ rfl (w3.heap.size) 0 (row .u64 3 (tri (d 2/4+d 3%4*4611686018427387904) (d 3/4+d 4%4*4611686018427387904) (d 4/4))).toArray rfl rfl (cnum_there (z)) (cnum_info' _) (all_oneCell_toArray (row_one _ _ _)) ?_)
 replace K:=K.fresh .u64 3 (tri (d 2/4+d 3%4*4611686018427387904) (d 3/4+d 4%4*4611686018427387904) (d 4/4)) #[.int .u64 0,.int .u64 0,.int .u64 0] 153 z.there; clear c0 c1 c2 c3 c4 z
 generalize ((w3.alloc (.cells #[.int .u64 0,.int .u64 0,.int .u64 0] 153)).setCells w3.heap.size 0 (row .u64 3 (tri (d 2/4+d 3%4*4611686018427387904) (d 3/4+d 4%4*4611686018427387904) (d 4/4))))=w4 at K ⊢; generalize w3.heap.size=B3 at *; clear w3; clear a2 n2 o2 o3
 obtain ⟨⟨_,k4,k5⟩,l1,l2,l3,hE⟩:=HL.out
 obtain ⟨i0,i1,i2,i3,i4⟩:=HI.out
 have iA:In W 3 (tri (d 0) (d 1) (d 2%4)):=tri_in i0 i1 (by simp only [W]; omega)
 have iB:In W 3 (tri (d 2-d 2%4) (d 3) (d 4)):=tri_in (by simp only [W] at *; omega) i3 (by simp only [W]; omega)
 have iC:In W 3 (tri (d 2/4+d 3%4*4611686018427387904) (d 3/4+d 4%4*4611686018427387904) (d 4/4)):=tri_in (by simp only [W] at *; omega) (by simp only [W] at *; omega) (by simp only [W]; omega)
 clear HL HI k4 k5 i0 i1 i2 i3 i4; generalize tri (d 2/4+d 3%4*4611686018427387904) (d 3/4+d 4%4*4611686018427387904) (d 4/4)=c at *; generalize tri (d 2-d 2%4) (d 3) (d 4)=b at *; generalize tri (d 0) (d 1) (d 2%4)=a at *
 refine wp_region_held_drew (S:=fun w'=>Kr w _ [(B3,.u64,3,c),(B2,.u64,3,b),(B1,.u64,3,a),(w.heap.size,.u64,6,d)] [(w.heap.size+1,3)] w') (by kernel_rfl) K.drew ?_; clear K; intro K
 refine rowKH (i:=0) (some 40) rfl .u64 3 a B1 0 153 _ _ rfl rfl rfl rfl (by kernel_rfl) (by kernel_rfl) (by kernel_rfl) (fun _ _ _ h=>h) Tryz.underlying153 rfl (cnum_info _) K (fun _ h=>(h.get _ _ _ _ (mI 2 rfl)).range) ?_; simp only [Act.put,List.setIfInBounds_toArray,List.set_cons_zero,List.set_cons_succ]
 refine rowKH (i:=1) (some 41) rfl .u64 3 b B2 0 153 _ _ rfl rfl rfl rfl (by kernel_rfl) (by kernel_rfl) (by kernel_rfl) (fun _ _ _ h=>h) Tryz.underlying153 rfl (cnum_info _) K (fun _ h=>(h.get _ _ _ _ (mT _ mS)).range) ?_; simp only [Act.put,List.setIfInBounds_toArray,List.set_cons_zero,List.set_cons_succ]
 refine rowKH (i:=3) (some 43) rfl .u64 3 c B3 0 153 _ _ rfl rfl rfl rfl (by kernel_rfl) (by kernel_rfl) (by kernel_rfl) (fun _ _ _ h=>h) Tryz.underlying153 rfl (cnum_info _) K (fun _ h=>(h.get _ _ _ _ mS).range) ?_; simp only [Act.put,List.setIfInBounds_toArray,List.set_cons_zero,List.set_cons_succ]
 refine callH (i:=2) (some 42) rfl (by kernel_rfl) rfl rfl (fun _=>by kernel_rfl) (plus_any a b iA iB (by rw [W3]; omega) _) ?_; rintro e w5 ⟨m1,rfl,t1,l⟩; replace K:=K.call l; clear l
 refine ⟨_,rfl,K,?_⟩
 simp only [Act.put,List.setIfInBounds_toArray,List.set_cons_zero,List.set_cons_succ]; refine callH (i:=4) (some 44) rfl (by kernel_rfl) rfl rfl (fun _=>by kernel_rfl) (plus_any m1 c t1.1 iC (by rw [W3]; omega) _) ?_; rintro e w6 ⟨m2,rfl,t2,l⟩; replace K:=K.call l; clear l
 refine ⟨_,rfl,K,?_⟩
 simp only [Act.put,List.setIfInBounds_toArray,List.set_cons_zero,List.set_cons_succ]
 refine callH (i:=5) (some 45) rfl (by kernel_rfl) rfl rfl (fun _=>by kernel_rfl) (cfold_any m2 t2.1 (by
  have v:=v3 m2; have p0:=t2.1 0 (by omega); have p1:=t2.1 1 (by omega); have e1:=t1.2; have e2:=t2.2; generalize m2 0=x0 at *; generalize m2 1=x1 at *; generalize m2 2=x2 at *
  omega) _) ?_
 rintro e w7 ⟨m,rfl,t3,l⟩; replace K:=K.call l; clear l
 refine ⟨_,rfl,K,?_⟩
 simp only [Act.put,List.setIfInBounds_toArray,List.set_cons_zero,List.set_cons_succ]; refine storesH (i:=6) none rfl .u64 3 m (w.heap.size+1) 153 _ _ (by kernel_rfl) rfl rfl rfl rfl rfl (K.roomy _ _ _ _ mS) (cnum_info' _) (K.fill _ _ mS _) ?_
 refine wpAnyH_done (by kernel_rfl) ?_ _
 have HE:=show Hid _ from (And.intro t3.1 (show val W m 3%Q=val W d 6%Q by rw [t3.2,t2.2,t1.2,hE])); have hz:=(K.room _ mS).1; have hB:=(K.fill _ _ mS (row .u64 3 m)).below; clear t1 t2 t3 hE K; go_wp2
 exact bodyPost_ret (v:=(.agg (row .u64 3 (m)).toArray)) (results_row Tryz.results103 rfl (Has.all hz .u64 m).range Tryz.underlying153 rfl (cnum_info m)) rfl ⟨m,rfl,HE.out,hB⟩
theorem val_succ (M:Int) (f:Nat→Int) (n:Nat):val M f (n+1)=val M f n+M^n*f n:=rfl
theorem val_upd_in (M:Int) (f:Nat→Int) (i:Nat) (x:Int):∀ n,i<n→val M (upd f i x) n=val M f n+(M^i*x-M^i*f i)
 | 0,h=>by omega
 | n+1,h=>by
   simp only [val]
   by_cases e:i=n
   · subst e; rw [val_upd _ _ _ _ _ (xnR i),upd_same]; omega
   · rw [val_upd_in M f i x n (by omega),upd_other _ _ _ _ (by omega)]; omega
structure RInv (a b:Nat→Int) (w:World) (k j:Nat) (d:Nat→Int) (cv:Int) (w':World):Prop where
 c0:0≤cv
 c1:cv<W
 inn:In W 6 d
 zero:∀ t,3+k≤t→d t=0
 eq:val W d (3+k)+W^(k+j)*cv=val W a k*val W b 3+W^k*a k*val W b j
 ha:Has w' w.heap.size .u64 3 a
 hb:Has w' (w.heap.size+1) .u64 3 b
 hr:Has w' (w.heap.size+1+1) .u64 3 (fun _=>0)
 hd:Has w' (w.heap.size+1+1+1) .u64 6 d
 fr:Fr w 4 w'
theorem RInv.step {a b:Nat→Int} {w:World} {k j:Nat} {d:Nat→Int} {cv h l:Int} {w':World} (hI:RInv a b w k j d cv w') (hk:k<3) (hj:j<3) (hs:Steps (a k) (b j) (d (k+j)) cv h l) :
 RInv a b w k (j+1) (upd d (k+j) l) h ((w'.setCell ⟨w.heap.size+1+1+1,k+j,none⟩ (.int .u64 l)).drew):=by
 obtain ⟨s0,s1,s2,s3,s4⟩:=hs
 refine ⟨s0,s1,hI.inn.upd _ l s2 s3,fun t ht=>?_,?_,(hI.ha.set_other _ _ (by simp; omega)).drew,(hI.hb.set_other _ _ (by simp; omega)).drew,(hI.hr.set_other _ _ (by simp)).drew,(hI.hd.set _ (by omega) _).drew,(hI.fr.set _ _ (by simp; omega)).drew⟩
 · rw [upd_other _ _ _ _ (by omega)]; exact hI.zero t ht
 · rw [val_upd_in _ _ _ _ _ (by omega),val_succ W b j]
   have e0:W^(k+(j+1))*h=W^(k+j)*(h*W):=by rw [← Nat.add_assoc,Int.pow_succ,Int.mul_assoc,Int.mul_comm W h]
   have e1:W^(k+j)*(h*W)+W^(k+j)*l=W^(k+j)*(a k*b j)+W^(k+j)*d (k+j)+W^(k+j)*cv:=by
    rw [← Int.mul_add,← Int.mul_add,← Int.mul_add,s4]
   have e2:=hI.eq
   have e3:W^k*a k*(W^j*b j)=W^(k+j)*(a k*b j):=by rw [Int.pow_add,Int.mul_assoc,Int.mul_left_comm (a k),← Int.mul_assoc]
   rw [Int.mul_add (W^k*a k),e3,e0]
   omega
theorem RInv.next {a b:Nat→Int} {w:World} {k:Nat} {d:Nat→Int} {cv:Int} {w':World} (hI:RInv a b w k 3 d cv w') (hk:k<3) :
 RInv a b w (k+1) 0 (upd d (k+3) cv) 0 (w'.setCell ⟨w.heap.size+1+1+1,k+3,none⟩ (.int .u64 cv)):=by
 refine ⟨Int.le_refl 0,by decide,hI.inn.upd _ cv hI.c0 hI.c1,fun t ht=>?_,?_,hI.ha.set_other _ _ (by simp; omega),hI.hb.set_other _ _ (by simp; omega),hI.hr.set_other _ _ (by simp),hI.hd.set _ (by omega) _,hI.fr.set _ _ (by simp; omega)⟩
 · rw [upd_other _ _ _ _ (by omega)]; exact hI.zero t (by omega)
 · have e:3+(k+1)=(k+3)+1:=by omega
   have e2:=hI.eq
   rw [Nat.add_comm 3 k] at e2
   rw [e,val_succ W _ (k+3),val_upd _ _ _ _ _ (xnR _),upd_same,val_succ W a k,Int.add_mul,e2,Int.mul_zero,show val W b 0=0 from rfl,Int.mul_zero]
theorem cwid_zero (w:World) (t:TypeId) (b:Nat) (hb:b=w.heap.size):Has (w.alloc (.cells zu64_6 t)) b .u64 6 (fun _=>0):=Has.new w .u64 6 (fun _=>0) t b hb
theorem cproduct_any (a b:Nat→Int) (ha:In W 3 a) (hb:In W 3 b) (fa:val W a 3≤FB) (fb:val W b 3≤FB) (w:World) :
 Calls Tryz.prog 88 #[(.agg (row .u64 3 (a)).toArray),(.agg (row .u64 3 (b)).toArray)] w fun e w'=>∃ m:Nat→Int,e=.returned (.agg (row .u64 3 (m)).toArray)∧(Folded m∧val W m 3%Q=(val W a 3*val W b 3)%Q)∧Below w.heap.size w w':=by
 go_enter Tryz.func88,Tryz.ntmps88
 go_wp2
 go_loopw [9] (fun i w'=>∃ (k:Nat) (d:Nat→Int),k≤3∧i=.int .i64 k∧RInv a b w k 0 d 0 w') (fun i _=>3-(intOf i).toNat)
 case atStart =>
  exact ⟨0,fun _=>0,by omega,rfl,⟨by omega,by decide,fun _ _=>⟨Int.le_refl 0,by decide⟩,fun _ _=>rfl,by simp [val],(((Has.new w _ _ _ _ _ rfl).alloc _ (by simp)).alloc _ (by simp; omega)).alloc _ (by simp; omega),((Has.new _ _ _ _ _ _ (by simp)).alloc _ (by simp)).alloc _ (by simp),(cnum_zero _ _ _ (by simp)).alloc _ (by simp),cwid_zero _ _ _ (by simp),((((Fr.refl w).alloc _).alloc _).alloc _).alloc _⟩⟩
 case round =>
  obtain ⟨k,d0,hk,rfl,hO⟩:=hrel
  by_cases hlt:k<3
  · obtain ⟨wo,rfl⟩:∃ wo:World,wo=wr:=⟨_,rfl⟩
    have g1:(0:Int)≤(k:Int):=by omega
    have g2:(k:Int)<3:=by omega
    go_wp2
    go_loopw [7,12] (fun c i w'=>∃ (j:Nat) (d:Nat→Int) (cv:Int),j≤3∧i=.int .i64 j∧c=.int .u64 cv∧RInv a b w k j d cv w') (fun _ i _=>3-(intOf i).toNat)
    case atStart=>exact ⟨0,d0,0,by omega,rfl,rfl,hO⟩
    case round =>
     obtain ⟨j,d,cv,hj,rfl,rfl,hI⟩:=hrel
     clear hO
     by_cases hlt2:j<3
     · have c1:=hI.ha.cell k hlt
       have c2:=hI.hb.cell j hlt2; have c3:=hI.hd.cell (k+j) (by omega); have f1:=hI.hd.free (k+j) (by omega)
       have g3:(0:Int)≤(j:Int):=by omega
       have g4:(j:Int)<3:=by omega
       have g5:(0:Int)≤(k:Int)+(j:Int):=by omega
       have g6:(k:Int)+(j:Int)<6:=by omega
       have g7:((k:Int)+(j:Int)).toNat=k+j:=by omega
       have g8:IntKind.i64.wrap ((k:Int)+(j:Int))=(k:Int)+(j:Int):=by rw [xw6]; omega
       have HS:=show Hid _ from fun (h l:Int) (hs:Steps (a k) (b j) (d (k+j)) cv h l)=>hI.step hlt hlt2 hs; have HC:=show Hid _ from fun W'=>step_any (a k) (b j) (d (k+j)) cv (ha k hlt).1 (ha k hlt).2 (hb j hlt2).1 (hb j hlt2).2 (hI.inn (k+j) (by omega)).1 (hI.inn (k+j) (by omega)).2 hI.c0 hI.c1 W'; clear hI; generalize a k=x at *; generalize b j=y at *
       generalize d (k+j)=z at *; go_wp2
       go_region_with (go_at_call 102; refine (HC.out _).mono ?_; rintro e w' ⟨h,l,rfl,hs,rfl⟩)
       all_goals
        go_wp2
        go_roundw
        case rel=>first | exact ⟨j+1,_,_,by omega,by go_num,rfl,HS.out h l hs⟩ | ((repeat apply Exists.intro); refine ⟨⟨j+1,_,_,by omega,?_,?_,HS.out h l hs⟩,rfl⟩ <;> first | rfl | go_num)
        case measure=>simp [intOf]; omega
     · obtain rfl:j=3:=by omega
       have hS:=hI.next hlt; have c3:=hI.hd.cell (k+3) (by omega); have f1:=hI.hd.free (k+3) (by omega)
       have g6:((k:Int)+3).toNat=k+3:=by omega
       clear hI; generalize d (k+3)=z at *; go_wp2
       go_roundw
       case rel=>exact ⟨k+1,_,by omega,by go_num,hS⟩
       case measure=>simp [intOf]; omega
  · obtain rfl:k=3:=by omega
    have hd:=hO.hd; have hz:=hO.hr
    have he:val W d0 6=val W a 3*val W b 3:=by
     have e:=hO.eq
     rw [Int.mul_zero,show val W b 0=0 from rfl,Int.mul_zero,Int.add_zero,Int.add_zero] at e
     exact e
    go_wp2_with (refine wpList_load_mid rfl 163 _ rfl (w.heap.size+1+1+1) 0 rfl (row .u64 6 (d0)) _ (Has.range (hd)) Tryz.underlying163 rfl (cwid_info _) ?_)
    refine (lower_any d0 hO.inn (by rw [he]; exact mul_FB fa (val_in W (by decide) b 3 hb).1 fb) _).mono ?_
    rintro e w1 ⟨m,rfl,s1,l1⟩; have hz1:=hz.call hO.fr l1 (by omega)
    have hm:val W m 3%Q=(val W a 3*val W b 3)%Q:=by rw [s1.2,he]
    have HM:=show Hid _ from hm; clear he hm
    go_wp2_with (refine wpList_store_mid rfl 153 _ _ rfl (w.heap.size+1+1) 0 (row .u64 3 (m)).toArray rfl rfl (cnum_there (hz1)) (cnum_info' _) (all_oneCell_toArray (row_one _ _ _)) ?_)
    exact bodyPost_ret (v:=(.agg (row .u64 3 (m)).toArray)) (results_row Tryz.results88 rfl (Has.all hz1.there .u64 m).range Tryz.underlying153 rfl (cnum_info m)) rfl ⟨m,rfl,⟨s1.1,HM.out⟩,((hO.fr.call l1).setAll _ (by omega) _).below⟩
end Go.Proofs.YtknodedhcdpbiaaGreatDoor
