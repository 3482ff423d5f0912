/- Texts of Ar Ow Pm Ha Ia Hw Hb Ky Hc Hd He, joined. -/
import Derived.Test.YtklnibmfpcmeeaaGreatDoorP3ShakeAgrees
set_option maxRecDepth 20000
set_option maxHeartbeats 64000000
namespace Go.Proofs.YtklnibmfpcmeeaaGreatDoor
open Go.RowKit
section
section
variable {P:Program} {o:Oper} {a:Act}
theorem addI (k:IntKind) (n n' r:Int) (t t':TypeId) (x y:Operand) (ho:o.op=.binOp .add t x y t') (hx:a.eval x=.int k n) (hy:a.eval y=.int k n') (hr:k.wrap (n+n')=r) (w:World):(execOp a.eval o).run P w=.ok (.value (.int k r)) w:=by
 unfold execOp
 simp only [ho,hx,hy,Sem.run_bind,eqGuard_at_int,binOp_add,Op.intArith,Sem.run_pure,Result.andThen_ok,hr]
theorem subI (k:IntKind) (n n' r:Int) (t t':TypeId) (x y:Operand) (ho:o.op=.binOp .sub t x y t') (hx:a.eval x=.int k n) (hy:a.eval y=.int k n') (hr:k.wrap (n-n')=r) (w:World):(execOp a.eval o).run P w=.ok (.value (.int k r)) w:=by
 unfold execOp
 simp only [ho,hx,hy,Sem.run_bind,eqGuard_at_int,binOp_sub,Op.intArith,Sem.run_pure,Result.andThen_ok,hr]
theorem mulI (k:IntKind) (n n' r:Int) (t t':TypeId) (x y:Operand) (ho:o.op=.binOp .mul t x y t') (hx:a.eval x=.int k n) (hy:a.eval y=.int k n') (hr:k.wrap (n*n')=r) (w:World):(execOp a.eval o).run P w=.ok (.value (.int k r)) w:=by
 unfold execOp
 simp only [ho,hx,hy,Sem.run_bind,eqGuard_at_int,binOp_mul,Op.intArith,Sem.run_pure,Result.andThen_ok,hr]
theorem xorI (k:IntKind) (n n' r:Int) (t t':TypeId) (x y:Operand) (ho:o.op=.binOp .xor t x y t') (hx:a.eval x=.int k n) (hy:a.eval y=.int k n') (hr:bits .xor k n n'=r) (w:World):(execOp a.eval o).run P w=.ok (.value (.int k r)) w:=by
 unfold execOp
 simp only [ho,hx,hy,Sem.run_bind,eqGuard_at_int,binOp_xor,intBits_xor,Sem.run_pure,Result.andThen_ok,hr]
theorem remI (k:IntKind) (n n' r:Int) (t t':TypeId) (x y:Operand) (ho:o.op=.binOp .rem t x y t') (hx:a.eval x=.int k n) (hy:a.eval y=.int k n') (h0:n'≠0) (hr:n.tmod n'=r) (w:World):(execOp a.eval o).run P w=.ok (.value (.int k r)) w:=by
 unfold execOp
 simp only [ho,hx,hy,Sem.run_bind,eqGuard_at_int,binOp_rem,Op.intDiv,if_neg h0,Sem.run_pure,Result.andThen_ok,hr]
theorem quoI (k:IntKind) (n n' r:Int) (t t':TypeId) (x y:Operand) (ho:o.op=.binOp .quo t x y t') (hx:a.eval x=.int k n) (hy:a.eval y=.int k n') (h0:n'≠0) (hr:k.wrap (n.tdiv n')=r) (w:World):(execOp a.eval o).run P w=.ok (.value (.int k r)) w:=by
 unfold execOp
 simp only [ho,hx,hy,Sem.run_bind,eqGuard_at_int,binOp_quo,Op.intDiv,if_neg h0,Sem.run_pure,Result.andThen_ok,hr]
theorem shrI (k yk:IntKind) (n y r:Int) (t t':TypeId) (x x':Operand) (ho:o.op=.binOp .shr t x x' t') (hx:a.eval x=.int k n) (hy:a.eval x'=.int yk y) (h0:0≤y) (hr:n/2^min y.toNat k.bits=r) (w:World):(execOp a.eval o).run P w=.ok (.value (.int k r)) w:=by
 unfold execOp
 simp only [ho,hx,hy,Sem.run_bind,eqGuard_at_int,binOp_shr,shift_shr_any k yk n y h0,Sem.run_pure,Result.andThen_ok,hr]
theorem convI (k k':IntKind) (n r:Int) (t t':TypeId) (x:Operand) (ho:o.op=.convert t t' x) (ht:(P.underlying t).isSome=true) (ht':P.underlying t'=some (.int k')) (hk:P.intKind t'=k') (hx:a.eval x=.int k n) (hr:k'.wrap n=r) (w:World):(execOp a.eval o).run P w=.ok (.value (.int k' r)) w:=by
 subst hk
 unfold execOp
 simp only [ho,hx,Sem.run_bind,run_convert_int w t t' k n ht ht',Sem.run_pure,Result.andThen_ok,hr]
theorem lssI (k:IntKind) (n n':Int) (t t':TypeId) (x y:Operand) (ho:o.op=.binOp .lss t x y t') (hx:a.eval x=.int k n) (hy:a.eval y=.int k n') (r:Bool) (hr:decide (n<n')=r) (w:World):(execOp a.eval o).run P w=.ok (.value (.bool r)) w:=by
 unfold execOp
 simp only [ho,hx,hy,Sem.run_bind,eqGuard_at_int,binOp_lss,Sem.run_pure,Result.andThen_ok,hr]
theorem neqI (k:IntKind) (n n':Int) (t t':TypeId) (x y:Operand) (ho:o.op=.binOp .neq t x y t') (hx:a.eval x=.int k n) (hy:a.eval y=.int k n') (r:Bool) (hr:(n != n')=r) (w:World):(execOp a.eval o).run P w=.ok (.value (.bool r)) w:=by
 unfold execOp
 simp only [ho,hx,hy,Sem.run_bind,eqGuard_at_int,binOp_neq,Sem.run_pure,Result.andThen_ok,hr]
theorem lenS (x:Operand) (t e:TypeId) (sp:Option Addr) (n c:Nat) (ho:o.op=.call { callee:=.builtin .len,args:=#[x],argTypes:=#[t] }) (ht:P.underlying t=some (.slice e)) (hx:a.eval x=.slice sp n c) (w:World):(execOp a.eval o).run P w=.ok (.value (.int .i64 (n:Int))) w:=by
 simp [execOp,ho,resolve,invoke,builtin,hx,Builtin.len_,run_underlying ht,goInt]
theorem minI (k k':IntKind) (n n' r:Int) (x y:Operand) (t t':TypeId) (ho:o.op=.call { callee:=.builtin .min,args:=#[x,y],argTypes:=#[t,t'] }) (hx:a.eval x=.int k n) (hy:a.eval y=.int k' n') (hr:(if n'<n then n' else n)=r) (w:World):(execOp a.eval o).run P w=.ok (.value (.int k r)) w:=by
 simp [execOp,ho,resolve,invoke,builtin,hx,hy,run_min_int2,hr]
theorem cutOp {w:World} (t:TypeId) (x y:Operand) (p q v:Value) (ho:o.op=.slice t x (some y) none none) (hx:a.eval x=p) (hy:a.eval y=q) (hr:(Instr.sliceAt t p (some q) none none).run P w=.ok v w) :
 (execOp a.eval o).run P w=.ok (.value v) w:=by
 unfold execOp
 simp only [ho,hx,hy,Option.map_some,Option.map_none,Sem.run_bind,hr,Result.andThen_ok,Sem.run_pure]
theorem cutHi {w:World} (t:TypeId) (x y:Operand) (p q v:Value) (ho:o.op=.slice t x none (some y) none) (hx:a.eval x=p) (hy:a.eval y=q) (hr:(Instr.sliceAt t p none (some q) none).run P w=.ok v w) :
 (execOp a.eval o).run P w=.ok (.value v) w:=by
 unfold execOp
 simp only [ho,hx,hy,Option.map_some,Option.map_none,Sem.run_bind,hr,Result.andThen_ok,Sem.run_pure]
theorem cutAll {w:World} (t:TypeId) (x:Operand) (p v:Value) (ho:o.op=.slice t x none none none) (hx:a.eval x=p) (hr:(Instr.sliceAt t p none none none).run P w=.ok v w) :
 (execOp a.eval o).run P w=.ok (.value v) w:=by
 unfold execOp
 simp only [ho,hx,Option.map_none,Sem.run_bind,hr,Result.andThen_ok,Sem.run_pure]
def txt (n:Nat) (z:Nat→Int):ByteArray:=strOfNums ((List.range n).map z)
theorem conv_txt (t e dst:TypeId) (x:Operand) (ho:o.op=.convert t dst x) (ht:P.underlying t=some (.slice e)) (he:P.underlying e=some (.int .u8)) (hd:P.underlying dst=some .string) (sp:Option Addr) (len cap:Nat) (z:Nat→Int) (hx:a.eval x=.slice sp len cap) (w:World) (hs:Src w sp len z) (hn:sp=none→len=0) :
 (execOp a.eval o).run P w=.ok (.value (.string (txt len z))) w:=by
 have h:(convert t dst (.slice sp len cap)).run P w=.ok (.string (txt len z)) w:=by
  cases sp with
  | none =>
    obtain rfl:=hn rfl
    rw [run_convert_bytes_nil w t e ht he 0 cap dst hd]
    rfl
  | some ad =>
    have hl:(loadCells ad len).run P w=.ok (((List.range len).map z).map (Value.int .u8)).toArray w:=by
     have:=run_loadCells_list (P:=P) w ad (((List.range len).map z).map (Value.int .u8)) (fun j v hj=>by
      rw [List.map_map] at hj
      have hjl:j<len:=by
       have:=(List.getElem?_eq_some_iff.1 hj).1
       simpa using this
      obtain ⟨ad',he',hc⟩:=hs j hjl
      injection he' with he'
      subst he'
      rw [hc,← hj]
      simp [hjl])
     simpa using this
    rw [run_convert_bytes_string w t dst e _ len cap ht he hd,run_bytesToString w ad len cap _ hl,foldl_push_bytes]
    simp [txt,strOfNums,ByteArray.empty,ByteArray.emptyWithCapacity]
    rfl
 unfold execOp
 simp only [ho,hx,Sem.run_bind,h,Result.andThen_ok,Sem.run_pure]
theorem eqlS (s s':ByteArray) (t t':TypeId) (x y:Operand) (ho:o.op=.binOp .eql t x y t') (hx:a.eval x=.string s) (hy:a.eval y=.string s') (h:s=s') (w:World):(execOp a.eval o).run P w=.ok (.value (.bool true)) w:=by
 subst h
 unfold execOp
 simp only [ho,hx,hy,Sem.run_bind,eqGuard_at_string,binOp_string_eql,Sem.run_pure,Result.andThen_ok,beq_self_eq_true]
end
section
variable {P:Program} {ops:Array Oper} {Q:Exit→Act→World→Prop} {md:Region.Mode} {S:World→Prop}
theorem readH {i:Nat} {oi:Oper} (dst:Option Tmp) (hdst:oi.dst=dst) {fuel:Nat} {listed:Array Bool} {a:Act} {w:World} (v:Value) (hi:ops[i]?=some oi) (hw:Region.wanted oi (yielded ops a.tmps)=true)
 (hv:∀ w,S w→(execOp a.eval oi).run P w=.ok (.value v) w)
 (hs:Region.noSelect ops=true) (hf:Region.free md ops listed i=true) (hr:(Region.ready md ops listed).contains i=true)
 (hQ:∀ c a w,Q (.panic c) (a.put dst v) w→Q (.panic c) a w) (hS:S w)
 (h:wpAnyH P md ops Q S fuel (listed.setIfInBounds i true) (a.put dst v) w):wpAnyH P md ops Q S (fuel+1) listed a w:=by
 subst hdst
 exact wpAnyH_take hi hs hf hr hQ (Or.inl ⟨hw,hv⟩) hS h
section
variable {P:Program} {ops:Array Oper} {Q:Exit→Act→World→Prop} {md:Region.Mode} {S:World→Prop}
theorem xrH {oi:Oper} {n:Nat} {l:Array Bool} {a a':Act} {w:World} (i:Nat) (d:Tmp) (hi:ops[i]?=some oi) (v:Value) (hv:∀ w,S w→(execOp a.eval oi).run P w=.ok (.value v) w) (hS:S w) (h:wpAnyH P md ops Q S n (l.setIfInBounds i true) a' w)
 (hdst:oi.dst=some d:=by rfl) (hw:Region.wanted oi (yielded ops a.tmps)=true:=by rfl) (hg:(Region.noSelect ops&&(Region.free md ops l i&&(Region.ready md ops l).contains i))=true:=by kernel_rfl) (hQ:∀ c a w,Q (.panic c) (a.put (some d) v) w→Q (.panic c) a w:=by exact fun _ _ _ h=>h) (he:a.put (some d) v=a':=by simp only [aP,lI,l0,lS] <;> rfl):wpAnyH P md ops Q S (n+1) l a w:=by
 subst he
 rw [xbA,xbA] at hg
 exact readH (some d) hdst v hi hw hv hg.1 hg.2.1 hg.2.2 hQ hS h
end
theorem cellPH {i:Nat} {oi:Oper} (dst:Option Tmp) (hdst:oi.dst=dst) {fuel:Nat} {listed:Array Bool} {a:Act} {w:World} (k:IntKind) (v:Value) (p:Addr) (ty:TypeId) (x:Operand) (hi:ops[i]?=some oi)
 (ho:oi.op=.load ty x) (hx:a.eval x=.pointer (some p)) (hw:Region.wanted oi (yielded ops a.tmps)=true)
 (hs:Region.noSelect ops=true) (hf:Region.free md ops listed i=true) (hr:(Region.ready md ops listed).contains i=true)
 (hQ:∀ c a w,Q (.panic c) (a.put dst v) w→Q (.panic c) a w)
 (hu:P.underlying ty=some (.int k))
 (hS:S w) (hh:∀ w,S w→w.cell? p=some v)
 (h:wpAnyH P md ops Q S fuel (listed.setIfInBounds i true) (a.put dst v) w):wpAnyH P md ops Q S (fuel+1) listed a w:=by
 refine readH dst hdst v hi hw (fun w hw'=>?_) hs hf hr hQ hS h
 have hagg:(isAgg ty).run P w=.ok false w:=by
  unfold isAgg
  rw [Sem.run_bind,run_underlying hu w]
  rfl
 have e:(loadVar ty p).run P w=.ok v w:=by simp [loadVar,Sem.run_bind,hagg,hh w hw']
 unfold execOp
 simp only [ho,hx,Instr.loadAt,Instr.sureAddr,Sem.run_bind,Sem.run_pure,Result.andThen_ok,e]
theorem readL {o:Oper} {rest:List Oper} {a:Act} {w:World} (v:Value) (hw:Region.wanted o (yielded ops a.tmps)=true) (hv:(execOp a.eval o).run P w=.ok (.value v) w)
 (h:wpList P ops Q rest (a.put o.dst v) w):wpList P ops Q (o::rest) a w:=by
 unfold wpList
 rw [if_pos hw]
 refine .inl ?_
 unfold Oper.wp
 rw [hv]
 exact h
theorem storeL {o':Oper} {rest:List Oper} {a:Act} {w:World} (k:IntKind) (v:Int) (b o:Nat) (ty:TypeId) (x y:Operand) (hw:Region.wanted o' (yielded ops a.tmps)=true) (ho:o'.op=.store ty x y) (hx:a.eval x=.pointer (some ⟨b,o,none⟩)) (hy:a.eval y=.int k v)
 (hc:(w.cell? ⟨b,o,none⟩).isSome=true) (hf:w.frozen? ⟨b,o,none⟩=false) (hz:(P.info? ty).map (·.size)=some 1)
 (h:wpList P ops Q rest (a.put o'.dst undef) (w.setCell ⟨b,o,none⟩ (.int k v))):wpList P ops Q (o'::rest) a w:=by
 unfold wpList
 rw [if_pos hw]
 refine .inl ?_
 have he:(execOp a.eval o').run P w=.ok .skip (w.setCell ⟨b,o,none⟩ (.int k v)):=by
  unfold execOp
  simp only [ho,hx,hy]; have e:=run_storeAt_cell (P:=P) w b o ty k v hc hf hz; simp only [Sem.run_bind,e,Result.andThen_ok,Sem.run_pure]
 unfold Oper.wp
 rw [he]
 exact h
end
theorem Has.src0 {w:World} {b n:Nat} {f:Nat→Int} (h:Has w b .u8 n f):Src w (some ⟨b,0,none⟩) n f:=fun j hj=>⟨_,rfl,by rw [Addr.add_mid,Nat.zero_add]; exact h.cell j hj⟩
theorem Src.congr {w:World} {sp:Option Addr} {len:Nat} {z y:Nat→Int} (h:Src w sp len z) (e:∀ j,j<len→z j=y j):Src w sp len y:=fun j hj=>by
 obtain ⟨ad,h1,h2⟩:=h j hj
 exact ⟨ad,h1,by rw [← e j hj]; exact h2⟩
end
section
def Own (w:World) (base:Nat) (e:TypeId) (k:IntKind) (n:Nat) (f:Nat→Int) (v:Value):Prop:=w.ownsRow base e 1 v n (row k n f)
def app (f:Nat→Int) (n:Nat) (h:Nat→Int):Nat→Int:=fun j=>if j<n then f j else h (j-n)
theorem row_app (k:IntKind) (n m:Nat) (f h:Nat→Int):row k n f++row k m h=row k (n+m) (app f n h):=by
 unfold row
 rw [List.range_add,List.map_append,List.map_map]
 congr 1
 · refine List.map_congr_left fun j hj=>?_
   unfold app; rw [if_pos (List.mem_range.1 hj)]
 · refine List.map_congr_left fun j hj=>?_
   simp [app]
   omega
theorem Own.congr {w:World} {base:Nat} {e:TypeId} {k:IntKind} {n:Nat} {f g:Nat→Int} {v:Value} (h:Own w base e k n f v) (he:∀ j,j<n→f j=g j):Own w base e k n g v:=by
 unfold Own at *
 rw [← row_congr k n he]; exact h
theorem grown_of_below {w w':World} (l:Below w.heap.size w w'):w.grownBy w' none:=⟨l.os,l.tape,l.output,l.size,fun j hj _=>l.block j hj⟩
theorem Own.below {w w':World} {base:Nat} {e:TypeId} {k:IntKind} {n:Nat} {f:Nat→Int} {v:Value} (h:Own w base e k n f v) (l:Below w.heap.size w w'):Own w' base e k n f v :=
 World.ownsRow.kept h (grown_of_below l) (by cases hv:v.ownBlock <;> simp)
theorem Own.drew {w:World} {base:Nat} {e:TypeId} {k:IntKind} {n:Nat} {f:Nat→Int} {v:Value} (h:Own w base e k n f v):Own w.drew base e k n f v:=h.below (Below.refl _ _).drew
theorem Own.alloc {w:World} {base:Nat} {e:TypeId} {k:IntKind} {n:Nat} {f:Nat→Int} {v:Value} (h:Own w base e k n f v) (o:Obj):Own (w.alloc o) base e k n f v:=World.ownsRow.alloc h o
theorem Own.lit (w:World) (base:Nat) (e:TypeId) (k:IntKind) (n:Nat) (f:Nat→Int) (hb:base≤w.heap.size) (hn:n≤maxLen):Own (w.alloc (.cells (row k n f).toArray e)) base e k n f (.slice (some ⟨w.heap.size,0,none⟩) n n) :=
 ⟨by rw [row_length,Nat.mul_one],.inr ⟨w.heap.size,n,_,rfl,hb,heap_alloc_new w _,xnR _,hn,by rw [List.size_toArray,row_length,Nat.mul_one],by rw [Nat.mul_one]; exact List.take_of_length_le (by rw [row_length]; exact xnR _)⟩⟩
theorem Own.has {w:World} {base:Nat} {e:TypeId} {k:IntKind} {n:Nat} {f:Nat→Int} {v:Value} (h:Own w base e k n f v) (hn:0<n):∃ g cap,v=.slice (some ⟨g,0,none⟩) n cap∧base≤g∧g<w.heap.size∧Has w g k n f:=by
 have hc:=h
 rcases h.2 with ⟨rfl,h0⟩ | ⟨g,cap,cur,rfl,hb,hg,_⟩
 · omega
 · refine ⟨g,cap,rfl,hb,(Array.getElem?_eq_some_iff.1 hg).1,fun j hj=>?_,fun j _=>?_⟩
   · have:=World.ownsRow.cells hc (g:=g) rfl j _ (row_get k n f j hj)
     rw [Addr.add_mid,Nat.zero_add] at this
     exact this
   · unfold World.frozen?
     rw [hg]
     simp
theorem Own.isSlice {w:World} {base:Nat} {e:TypeId} {k:IntKind} {n:Nat} {f:Nat→Int} {v:Value} (h:Own w base e k n f v):∃ sp cap,v=.slice sp n cap∧(sp=none→n=0)∧∀ j,j<n→∃ ad,sp=some ad∧w.cell? (ad.add j)=some (.int k (f j)):=by
 rcases Nat.eq_zero_or_pos n with h0 | h0
 · subst h0
   rcases h.2 with ⟨rfl,_⟩ | ⟨g,cap,cur,rfl,_⟩
   · exact ⟨_,_,rfl,fun _=>rfl,fun j hj=>by omega⟩
   · exact ⟨_,_,rfl,fun _=>rfl,fun j hj=>by omega⟩
 · obtain ⟨g,cap,rfl,_,_,hh⟩:=h.has h0
   exact ⟨_,_,rfl,fun e=>(by cases e),fun j hj=>⟨_,rfl,by rw [Addr.add_mid,Nat.zero_add]; exact hh.cell j hj⟩⟩
theorem Own.bytes {w:World} {base:Nat} {e:TypeId} {n:Nat} {f:Nat→Int} {v:Value} (h:Own w base e .u8 n f v):∃ sp cap,v=.slice sp n cap∧n≤cap∧Src w sp n f:=by
 obtain ⟨sp,cap,rfl,_,hs⟩:=h.isSlice
 refine ⟨sp,cap,rfl,?_,hs⟩
 rcases h.2 with ⟨hv,h0⟩ | ⟨g,cap',cur,hv,_,_,hnc,_⟩
 · omega
 · injection hv with _ _ hc
   omega
theorem Kr.grown {w w' w'':World} {m:Nat} {l:List (Nat × IntKind × Nat × (Nat→Int))} {R:List (Nat × Nat)} (h:Kr w m l R w') {r:Option Nat} (g:w'.grownBy w'' r) (hr:∀ b,r=some b→m≤b):Kr w m l R w'':=by
 have hb:Below m w' w'':=⟨g.os,g.tape,g.output,g.size,fun j hj=>g.block j (xnL hj h.size) (fun e=>by have:=hr j e.symm; omega)⟩
 exact ⟨fun p hp=>⟨(h.rows p hp).1.below hb (h.rows p hp).2,(h.rows p hp).2⟩,fun q hq=>⟨there_below (h.room q hq).1 hb (h.room q hq).2.1,(h.room q hq).2⟩,h.apart,xnT h.size g.size,h.base,h.below.trans (hb.mono h.base)⟩
theorem Kr.own {w w':World} {m:Nat} {l:List (Nat × IntKind × Nat × (Nat→Int))} {R:List (Nat × Nat)} (h:Kr w m l R w') {g:Nat} {k:IntKind} {n:Nat} {f:Nat→Int} (hg:m≤g) (hl:g<w'.heap.size) (hf:Has w' g k n f):Kr w w'.heap.size ((g,k,n,f)::l) R w' :=
 ⟨fun p hp=>by
  rcases xc1 hp with rfl | hp
  · exact ⟨hf,hl⟩
  · exact ⟨(h.rows p hp).1,xnL (h.rows p hp).2 h.size⟩,fun q hq=>⟨(h.room q hq).1,xnL (h.room q hq).2.1 h.size,(h.room q hq).2.2⟩,fun p hp q hq=>by
  rcases xc1 hp with rfl | hp
  · have:=(h.room q hq).2.1; simp only; omega
  · exact h.apart p hp q hq,xnR _,xnT h.base h.size,h.below⟩
section
variable {P:Program}
structure One (P:Program) (e:TypeId) (k:IntKind) (bytes:Nat):Prop where
 info:(P.info? e).map (fun i=>(i.zero,i.bytes,i.size))=some (some (.int k 0),bytes,1)
theorem run_append_Own {w:World} {base:Nat} {t ty e:TypeId} {k:IntKind} {bytes n:Nat} {f:Nat→Int} {v:Value} (ht:P.underlying t=some (.slice e)) (he:One P e k bytes) (h:Own w base e k n f v)
 (sp:Option Addr) (m c:Nat) (hv:Nat→Int) (hs:∀ j,j<m→∃ ad,sp=some ad∧w.cell? (ad.add j)=some (.int k (hv j))) (hz:sp=none→c=0) (h63:n+m≤maxLen) (hb:(n+m)*bytes≤140737488355328) (hbase:base≤w.heap.size) :
 ∃ v' w',(Builtin.append_ #[t,t] ty #[v,.slice sp m c]).run P w=.ok v' w'∧Own w' base e k (n+m) (app f n hv) v'∧w.grownBy w' v.ownBlock∧(∀ g,v'.ownBlock=some g→v.ownBlock=some g∨g=w.heap.size):=by
 obtain ⟨i,hi,hq⟩:=Option.map_eq_some_iff.1 he.info
 simp only [Prod.mk.injEq] at hq
 obtain ⟨h1,h2,h3⟩:=hq
 cases sp with
 | none =>
   have hm:m=0:=by
    rcases Nat.eq_zero_or_pos m with h0 | h0
    · exact h0
    · obtain ⟨ad,e,_⟩:=hs 0 h0; cases e
   subst hm
   obtain rfl:=hz rfl
   refine ⟨v,w,run_append_owned_none (P:=P) (w:=w) base t ty e i 1 ht hi v n _ h,h.congr fun j hj=>by unfold app; rw [if_pos hj],⟨rfl,rfl,rfl,xnR _,fun _ _ _=>rfl⟩,fun g hg=>.inl hg⟩
 | some ad =>
   obtain ⟨v',w',hr,ho,hg,_⟩:=run_append_own (P:=P) w base t ty e i (.int k 0) 1 bytes ht hi h1 h3 h2 rfl (by decide) v n _ h ad m c (row k m hv) (by rw [row_length,Nat.mul_one]) (fun j u hu=>by
    obtain ⟨hj,rfl⟩:=row_get_some hu
    obtain ⟨ad',e',hc⟩:=hs j hj
    injection e' with e'
    subst e'
    exact hc) (row_one k m hv) h63 hb hbase
   rw [row_app] at ho
   refine ⟨v',w',hr,ho,hg,?_⟩
   have hnews:∀ j u,(row k m hv)[j]?=some u→w.cell? (ad.add j)=some u:=fun j u hu=>by
    obtain ⟨hj,rfl⟩:=row_get_some hu
    obtain ⟨ad',e',hc⟩:=hs j hj
    injection e' with e'
    subst e'
    exact hc
   have hml:(row k m hv).length=m*i.size:=by rw [row_length,h3,Nat.mul_one]
   rcases h.2 with ⟨rfl,rfl⟩ | ⟨g,cap,cur,rfl,hbg,hgg,hnc,hcm,hcs,htake⟩
   · by_cases hm:m=0
     · subst hm
       have hr2:(Builtin.append_ #[t,t] ty #[.slice none 0 0,.slice (some ad) 0 c]).run P w=.ok (.slice none 0 0) w:=by
        simp [Builtin.append_,run_underlying ht,sizeOf,typeInfo,hi,Builtin.lenOf,Builtin.firstCells,loadCells,loadCellsFrom]
       rw [hr] at hr2
       injection hr2 with hv' _
       rw [hv']
       intro g hg'
       cases hg'
     · have hr2:=run_append_nil (P:=P) w t ty e i (.int k 0) ht hi h1 ad m c (row k m hv) hml hnews (by omega) (by unfold maxLen at h63; omega) (by rw [h2]; have:=hb; simp only [Nat.zero_add] at this; omega)
       rw [hr] at hr2
       injection hr2 with hv' _
       rw [hv']
       intro g hg'
       injection hg' with hg'
       exact .inr hg'.symm
   · by_cases hroom:n+m≤cap
     · have hr2:=run_append_room (P:=P) w t ty e i ht hi g n cap cur hgg ad m c (row k m hv) hml hnews (row_one k m hv) hroom (by rw [hml,hcs,h3]; omega)
       rw [hr] at hr2
       injection hr2 with hv' _
       rw [hv']
       intro g' hg'
       exact .inl hg'
     · have hr2:=run_append_grow (P:=P) w t ty e i (.int k 0) ht hi h1 ⟨g,0,none⟩ n cap (row k n f) (by rw [row_length,h3,Nat.mul_one]) (World.ownsRow.cells h (g:=g) rfl) ad m c (row k m hv) hml hnews (by omega) (by unfold maxLen at h63; omega) (by rw [h2]; exact growslice_fits (by omega) hb)
       rw [hr] at hr2
       injection hr2 with hv' _
       rw [hv']
       intro g' hg'
       injection hg' with hg'
       exact .inr hg'.symm
theorem appendOp {o:Oper} {a:Act} {w w':World} (s x:Operand) (t:TypeId) (v u r:Value) (ho:o.op=.call { callee:=.builtin .append,args:=#[s,x],argTypes:=#[t,t] }) (hs:a.eval s=v) (hx:a.eval x=u) (hr:(Builtin.append_ #[t,t] o.type #[v,u]).run P w=.ok r w') :
 (execOp a.eval o).run P w=.ok (.value r) w':=by
 unfold execOp
 simp only [ho,resolve,invoke,builtin,Sem.run_bind,Sem.run_pure,Result.andThen_ok,List.map_toArray,List.map_cons,List.map_nil,hs,hx,hr]
end
end
def oth (k:Nat→Int):Nat→Int:=fun j=>if j<16 then trimT k j else k j
abbrev V:Int:=4294967296
def had (x y:Int):Int:=(x+y)%4294967296
def hxr (x y:Int):Int:=bits .xor .u32 x y
def hrl (n:Nat) (x:Int):Int:=bits .or .u32 (x*2^n%4294967296) (x/2^(32-n))
theorem had_eq (x y:Int):had x y=(x+y)%4294967296:=rfl
theorem had_in (x y:Int):0≤had x y∧had x y<V:=by rw [had_eq]; simp only [V]; omega
theorem hxr_in (x y:Int) (hx:0≤x∧x<V) (hy:0≤y∧y<V):0≤hxr x y∧hxr x y<V:=by
 obtain ⟨x,rfl⟩:=xiN hx.1
 obtain ⟨y,rfl⟩:=xiN hy.1
 have h:=Nat.xor_lt_two_pow (n:=32) (show x<2^32 by have:=hx.2; simp only [V] at this; omega) (show y<2^32 by have:=hy.2; simp only [V] at this; omega)
 unfold hxr
 rw [u32_xor_nat x y (by have:=hx.2; simp only [V] at this; omega) (by have:=hy.2; simp only [V] at this; omega)]
 simp only [V]
 omega
theorem hrl_in (n:Nat) (x:Int) (hx:0≤x∧x<V):0≤hrl n x∧hrl n x<V:=by
 obtain ⟨x,rfl⟩:=xiN hx.1
 have hx2:x<4294967296:=by have:=hx.2; simp only [V] at this; omega
 unfold hrl
 have e1:(x:Int)*2^n%4294967296=((x*2^n%4294967296:Nat):Int):=by rw [Int.natCast_emod,Int.natCast_mul,Int.natCast_pow]; rfl
 have e2:(x:Int)/2^(32-n)=((x/2^(32-n):Nat):Int):=by rw [Int.natCast_ediv,Int.natCast_pow]; rfl
 have i1:x*2^n%4294967296<4294967296:=Nat.mod_lt _ (by decide)
 have i2:x/2^(32-n)<4294967296:=Nat.lt_of_le_of_lt (Nat.div_le_self _ _) hx2
 rw [e1,e2,u32_or_nat _ _ i1 i2]
 have h:=Nat.or_lt_two_pow (n:=32) i1 i2; simp only [V]
 omega
def hA (a b:Int):Int:=had a b
def hD (p:Nat) (a b d:Int):Int:=hrl p (hxr d (had a b))
def hC (p:Nat) (a b c d:Int):Int:=had c (hD p a b d)
def hB (p q:Nat) (a b c d:Int):Int:=hrl q (hxr b (hC p a b c d))
def qA (a b c d:Int):Int:=hA (hA a b) (hB 16 12 a b c d)
def qB (a b c d:Int):Int:=hB 8 7 (hA a b) (hB 16 12 a b c d) (hC 16 a b c d) (hD 16 a b d)
def qC (a b c d:Int):Int:=hC 8 (hA a b) (hB 16 12 a b c d) (hC 16 a b c d) (hD 16 a b d)
def qD (a b c d:Int):Int:=hD 8 (hA a b) (hB 16 12 a b c d) (hD 16 a b d)
def quad (a b c d:Int):Nat→Int
 | 0=>a
 | 1=>b
 | 2=>c
 | 3=>d
 | _+4=>0
def pA (i:Nat):Nat:=i%4
def pB (i:Nat):Nat:=4+(i+i/4)%4
def pC (i:Nat):Nat:=8+(i+2*(i/4))%4
def pD (i:Nat):Nat:=12+(i+3*(i/4))%4
def tAt (s:Nat→Int) (i:Nat):Nat→Int :=
 upd (upd (upd (upd s (pA i) (qA (s (pA i)) (s (pB i)) (s (pC i)) (s (pD i)))) (pB i) (qB (s (pA i)) (s (pB i)) (s (pC i)) (s (pD i)))) (pC i) (qC (s (pA i)) (s (pB i)) (s (pC i)) (s (pD i)))) (pD i) (qD (s (pA i)) (s (pB i)) (s (pC i)) (s (pD i)))
theorem pA_lt (i:Nat):pA i<4:=Nat.mod_lt _ (by decide)
theorem pB_lt (i:Nat):pB i<8:=by have:=Nat.mod_lt (i+i/4) (show 4>0 by decide); unfold pB; omega
theorem pC_lt (i:Nat):pC i<12:=by have:=Nat.mod_lt (i+2*(i/4)) (show 4>0 by decide); unfold pC; omega
theorem pD_lt (i:Nat):pD i<16:=by have:=Nat.mod_lt (i+3*(i/4)) (show 4>0 by decide); unfold pD; omega
def htN (s:Nat→Int):Nat→Nat→Int
 | 0=>s
 | i+1=>tAt (htN s i) i
def drN (s:Nat→Int):Nat→Nat→Int
 | 0=>s
 | n+1=>htN (drN s n) 8
def six (x0 x1 x2 x3 x4 x5 x6 x7 x8 x9 x10 x11 x12 x13 x14 x15:Int):Nat→Int
 | 0=>x0
 | 1=>x1
 | 2=>x2
 | 3=>x3
 | 4=>x4
 | 5=>x5
 | 6=>x6
 | 7=>x7
 | 8=>x8
 | 9=>x9
 | 10=>x10
 | 11=>x11
 | 12=>x12
 | 13=>x13
 | 14=>x14
 | 15=>x15
 | _+16=>0
theorem six_in {M:Int} (x0 x1 x2 x3 x4 x5 x6 x7 x8 x9 x10 x11 x12 x13 x14 x15:Int) (h0:0≤x0∧x0<M) (h1:0≤x1∧x1<M) (h2:0≤x2∧x2<M) (h3:0≤x3∧x3<M) (h4:0≤x4∧x4<M) (h5:0≤x5∧x5<M) (h6:0≤x6∧x6<M) (h7:0≤x7∧x7<M) (h8:0≤x8∧x8<M) (h9:0≤x9∧x9<M) (h10:0≤x10∧x10<M) (h11:0≤x11∧x11<M) (h12:0≤x12∧x12<M) (h13:0≤x13∧x13<M) (h14:0≤x14∧x14<M) (h15:0≤x15∧x15<M):In M 16 (six x0 x1 x2 x3 x4 x5 x6 x7 x8 x9 x10 x11 x12 x13 x14 x15)
 | 0,_=>h0
 | 1,_=>h1
 | 2,_=>h2
 | 3,_=>h3
 | 4,_=>h4
 | 5,_=>h5
 | 6,_=>h6
 | 7,_=>h7
 | 8,_=>h8
 | 9,_=>h9
 | 10,_=>h10
 | 11,_=>h11
 | 12,_=>h12
 | 13,_=>h13
 | 14,_=>h14
 | 15,_=>h15
 | _+16,h=>by omega
def w32 (a:Nat→Int) (o:Nat):Int:=a o+a (o+1)*256+a (o+2)*65536+a (o+3)*16777216
def b32 (x:Int):Nat→Int
 | 0=>x%256
 | 1=>x/256%256
 | 2=>x/65536%256
 | 3=>x/16777216%256
 | _+4=>0
theorem b32_in (x:Int):In 256 4 (b32 x)
 | 0,_=>by show 0≤x%256∧x%256<256; omega
 | 1,_=>by show 0≤x/256%256∧x/256%256<256; omega
 | 2,_=>by show 0≤x/65536%256∧x/65536%256<256; omega
 | 3,_=>by show 0≤x/16777216%256∧x/16777216%256<256; omega
 | _+4,h=>by omega
def hst (k:Nat→Int) (c:Int) (n:Nat→Int):Nat→Int:=six 1634760805 857760878 2036477234 1797285236 (w32 k 0) (w32 k 4) (w32 k 8) (w32 k 12) (w32 k 16) (w32 k 20) (w32 k 24) (w32 k 28) c (w32 n 0) (w32 n 4) (w32 n 8)
def hwd (k:Nat→Int) (c:Int) (n:Nat→Int) (i:Nat):Int:=had (drN (hst k c n) 10 i) (hst k c n i)
def hblk (k:Nat→Int) (c:Int) (n:Nat→Int):Nat→Int:=fun j=>b32 (hwd k c n (j/4)) (j%4)
theorem hblk_in (k:Nat→Int) (c:Int) (n:Nat→Int) (m:Nat):In 256 m (hblk k c n):=fun j _=>b32_in _ _ (Nat.mod_lt _ (by decide))
def hxor (k:Nat→Int) (c:Int) (n:Nat→Int) (z:Nat→Int):Nat→Int:=fun j=>bits .xor .u8 (z j) (hblk k ((c+((j/64:Nat):Int))%4294967296) n (j%64))
theorem u8_xor_in (x y:Int) (hx:0≤x∧x<256) (hy:0≤y∧y<256):0≤bits .xor .u8 x y∧bits .xor .u8 x y<256:=by
 obtain ⟨x,rfl⟩:=xiN hx.1
 obtain ⟨y,rfl⟩:=xiN hy.1
 rw [u8_xor_nat x y (by omega) (by omega)]
 have h:=Nat.xor_lt_two_pow (n:=8) (x:=x) (y:=y) (by omega) (by omega)
 omega
theorem hxor_in (k:Nat→Int) (c:Int) (n:Nat→Int) (z:Nat→Int) (m:Nat) (hz:In 256 m z):In 256 m (hxor k c n z):=fun j hj=>u8_xor_in _ _ (hz j hj) (hblk_in _ _ _ 64 _ (Nat.mod_lt _ (by decide)))
theorem or_step32 (M s:Nat) (hM:M=2^s) (hb:M*256≤4294967296) (a x:Int) (h0:0≤a) (h1:a<M) (x0:0≤x) (x1:x<256) :
 bits BinOp.or IntKind.u32 a (x%4294967296*(M:Int)%4294967296)=a+x*(M:Int):=by
 obtain ⟨a,rfl⟩:=xiN h0
 obtain ⟨x,rfl⟩:=xiN x0
 have hx:x*M+M≤256*M:=by rw [← Nat.succ_mul]; exact Nat.mul_le_mul_right M (by omega)
 have e1:(x:Int)%4294967296=(x:Int):=by omega
 have e2:(x:Int)*(M:Int)=((x*M:Nat):Int):=(Int.natCast_mul x M).symm
 have e3:((x*M:Nat):Int)%4294967296=((x*M:Nat):Int):=by omega
 rw [e1,e2,e3,u32_or_nat a (x*M) (by omega) (by omega)]
 have h:=Nat.two_pow_add_eq_or_of_lt (i:=s) (b:=a) (by omega) x
 rw [← hM,Nat.mul_comm M x] at h
 rw [Nat.or_comm,← h]
 omega
theorem glued32 (x0 x1 x2 x3:Int) (h0:0≤x0∧x0<256) (h1:0≤x1∧x1<256) (h2:0≤x2∧x2<256) (h3:0≤x3∧x3<256) :
 bits BinOp.or IntKind.u32 (bits BinOp.or IntKind.u32 (bits BinOp.or IntKind.u32 (x0%4294967296) (x1%4294967296*256%4294967296)) (x2%4294967296*65536%4294967296)) (x3%4294967296*16777216%4294967296)=x0+x1*256+x2*65536+x3*16777216:=by
 have e0:x0%4294967296=x0:=by omega
 have e1:=or_step32 256 8 (by decide) (by decide) (x0) x1 (by omega) (by omega) h1.1 h1.2; have e2:=or_step32 65536 16 (by decide) (by decide) (x0+x1*((256:Nat):Int)) x2 (by omega) (by omega) h2.1 h2.2; have e3:=or_step32 16777216 24 (by decide) (by decide) (x0+x1*((256:Nat):Int)+x2*((65536:Nat):Int)) x3 (by omega) (by omega) h3.1 h3.2
 simp only [Int.cast_ofNat_Int] at e1 e2 e3
 rw [e0,e1,e2,e3]
def dig (x:Nat):Nat→Int:=fun j=>((x/256^j%256:Nat):Int)
theorem dig_in (x n:Nat):In 256 n (dig x):=fun j _=>by
 have:x/256^j%256<256:=Nat.mod_lt _ (by decide)
 unfold dig
 omega
theorem val_dig (x:Nat):∀ n,val 256 (dig x) n=((x%256^n:Nat):Int)
 | 0=>by show (0:Int)=((x%1:Nat):Int); rw [Nat.mod_one]; rfl
 | n+1=>by
   have e:val 256 (dig x) (n+1)=val 256 (dig x) n+256^n*dig x n:=rfl
   rw [e,val_dig x n,Nat.pow_succ,Nat.mod_mul,Int.natCast_add,Int.natCast_mul,Int.natCast_pow]
   rfl
theorem dig_shr (x i:Nat) (hi:i<8):(x:Int)/2^min (((8*i:Nat):Int)).toNat IntKind.i64.bits=((x/256^i:Nat):Int):=by
 rw [Int.toNat_natCast,Nat.min_eq_left (by show 8*i≤64; omega),Nat.pow_mul 2 8 i |> fun h=>show ((2:Int)^(8*i))=((256^i:Nat):Int) from by rw [show ((256:Nat)^i)=2^(8*i) from h.symm,Int.natCast_pow]; rfl]
 exact (Int.natCast_ediv x (256^i)).symm
def up16 (n:Nat):Nat:=(n+15)/16*16
def amt (bl sl:Nat):Nat:=up16 bl+up16 sl+8+8
def amx (bl:Nat) (b:Nat→Int) (sl:Nat) (s:Nat→Int):Nat→Int:=app (app (app (padz bl b) (up16 bl) (padz sl s)) (up16 bl+up16 sl) (dig bl)) (up16 bl+up16 sl+8) (dig sl)
theorem app_in' (n m:Nat) (f g:Nat→Int) (hf:In 256 n f) (hg:In 256 m g):In 256 (n+m) (app f n g):=fun j hj=>by
 unfold app
 split
 · exact hf j (by assumption)
 · exact hg _ (by omega)
theorem amx_in (bl:Nat) (b:Nat→Int) (sl:Nat) (s:Nat→Int) (hb:In 256 bl b) (hs:In 256 sl s):In 256 (amt bl sl) (amx bl b sl s) :=
 app_in' _ 8 _ _ (app_in' _ 8 _ _ (app_in' _ _ _ _ (padz_in bl b hb _) (padz_in sl s hs _)) (dig_in bl 8)) (dig_in sl 8)
theorem padz_congr (n:Nat) (f g:Nat→Int) (h:∀ j,j<n→f j=g j):padz n f=padz n g:=by
 funext j
 unfold padz
 by_cases e:j<n
 · rw [if_pos e,if_pos e,h j e]
 · rw [if_neg e,if_neg e]
def atg (k n:Nat→Int) (bl:Nat) (b:Nat→Int) (sl:Nat) (s:Nat→Int):Int:=ptag (hblk k 0 n) (amt bl sl) (amx bl b sl s)
def atag (k n:Nat→Int) (bl:Nat) (b:Nat→Int) (sl:Nat) (s:Nat→Int):Nat→Int:=dig (atg k n bl b sl s).toNat
theorem atg_in (k n:Nat→Int) (bl:Nat) (b:Nat→Int) (sl:Nat) (s:Nat→Int):0≤atg k n bl b sl s∧atg k n bl b sl s<340282366920938463463374607431768211456:=by
 unfold atg ptag
 generalize acc _ _ _ _%Q+pS _=x
 omega
theorem atag_in (k n:Nat→Int) (bl:Nat) (b:Nat→Int) (sl:Nat) (s:Nat→Int) (m:Nat):In 256 m (atag k n bl b sl s):=dig_in _ _
theorem atag_val (k n:Nat→Int) (bl:Nat) (b:Nat→Int) (sl:Nat) (s:Nat→Int):val 256 (atag k n bl b sl s) 16=atg k n bl b sl s:=by
 have h:=atg_in k n bl b sl s
 unfold atag
 rw [val_dig,show (256:Nat)^16=340282366920938463463374607431768211456 from by decide]
 omega
theorem atg_congr (k n:Nat→Int) (bl:Nat) (b b':Nat→Int) (sl:Nat) (s s':Nat→Int) (hb:∀ j,j<bl→b j=b' j) (hs:∀ j,j<sl→s j=s' j):atg k n bl b sl s=atg k n bl b' sl s':=by
 unfold atg amx
 rw [padz_congr bl b b' hb,padz_congr sl s s' hs]
theorem tag_is {f:Nat→Int} {k n:Nat→Int} {bl:Nat} {b:Nat→Int} {sl:Nat} {s:Nat→Int} (hf:In 256 16 f) (hv:val 256 f 16=atg k n bl b sl s):∀ j,j<16→f j=atag k n bl b sl s j :=
 val_inj 256 (by decide) f _ 16 hf (atag_in _ _ _ _ _ _ _) (by rw [hv,atag_val])
def aout (k n:Nat→Int) (bl:Nat) (b:Nat→Int) (len:Nat) (z:Nat→Int):Nat→Int:=app (hxor k 1 n z) len (atag k n bl b len (hxor k 1 n z))
theorem aout_in (k n:Nat→Int) (bl:Nat) (b:Nat→Int) (len:Nat) (z:Nat→Int) (hz:In 256 len z):In 256 (len+16) (aout k n bl b len z):=app_in' _ _ _ _ (hxor_in k 1 n z len hz) (atag_in _ _ _ _ _ _ _)
abbrev aok (k n:Nat→Int) (bl:Nat) (b:Nat→Int) (len:Nat) (z:Nat→Int):Prop:=16≤len∧atg k n bl b (len-16) z=val 256 (fun j=>z (len-16+j)) 16
def aoL (k n:Nat→Int) (bl:Nat) (b:Nat→Int) (len:Nat) (z:Nat→Int):Nat:=if aok k n bl b len z then len-16 else 0
def aoE (k n:Nat→Int) (bl:Nat) (b:Nat→Int) (len:Nat) (z:Nat→Int):Int:=if len<16 then 3 else if aok k n bl b len z then 0 else 70
theorem of32_raw (B o l c:Nat) (hl:4≤l) (x0 x1 x2 x3:Int) (h0:0≤x0∧x0<256) (h1:0≤x1∧x1<256) (h2:0≤x2∧x2<256) (h3:0≤x3∧x3<256) (w:World) (c0:w.cell? ⟨B,o,none⟩=some (.int .u8 x0)) (c1:w.cell? ⟨B,o+1,none⟩=some (.int .u8 x1)) (c2:w.cell? ⟨B,o+2,none⟩=some (.int .u8 x2)) (c3:w.cell? ⟨B,o+3,none⟩=some (.int .u8 x3)) :
 Calls Tryz.prog 165 #[.slice (some ⟨B,o,none⟩) l c] w fun e w'=>∃ q,e=.returned (.int .u32 (x0+x1*256+x2*65536+x3*16777216))∧w'=w.drewN q:=by
 have hg:=glued32 x0 x1 x2 x3 h0 h1 h2 h3; have HG:=show Hid _ from hg
 have l0:(0:Int)<(l:Int):=by omega
 have l1:(1:Int)<(l:Int):=by omega
 have l2:(2:Int)<(l:Int):=by omega
 have l3:(3:Int)<(l:Int):=by omega
 clear hg h0 h1 h2 h3 hl
 go_enter Tryz.func165,Tryz.ntmps165
 go_wp2
 go_quiet (fail)
 go_wp2; go_ret
 exact ⟨nq,by rw [HG.out]; rfl,rfl⟩
theorem of32_any (B o n l c:Nat) (a:Nat→Int) (hl:4≤l) (ho:o+4≤n) (ha:In 256 n a) (w:World) (h:Has w B .u8 n a) :
 Calls Tryz.prog 165 #[.slice (some ⟨B,o,none⟩) l c] w fun e w'=>∃ q,e=.returned (.int .u32 (w32 a o))∧w'=w.drewN q :=
 of32_raw B o l c hl _ _ _ _ (ha o (by omega)) (ha (o+1) (by omega)) (ha (o+2) (by omega)) (ha (o+3) (by omega)) w (h.cell o (by omega)) (h.cell (o+1) (by omega)) (h.cell (o+2) (by omega)) (h.cell (o+3) (by omega))
theorem put32_raw (B o l c:Nat) (hl:4≤l) (x:Int) (y0 y1 y2 y3:Int) (w:World) (c0:w.cell? ⟨B,o,none⟩=some (.int .u8 y0)) (f0:w.frozen? ⟨B,o,none⟩=false) (c1:w.cell? ⟨B,o+1,none⟩=some (.int .u8 y1)) (f1:w.frozen? ⟨B,o+1,none⟩=false) (c2:w.cell? ⟨B,o+2,none⟩=some (.int .u8 y2)) (f2:w.frozen? ⟨B,o+2,none⟩=false) (c3:w.cell? ⟨B,o+3,none⟩=some (.int .u8 y3)) (f3:w.frozen? ⟨B,o+3,none⟩=false) :
 Calls Tryz.prog 147 #[.slice (some ⟨B,o,none⟩) l c,.int .u32 x] w fun e w'=>e=.returned (.tuple #[])∧w'=((((w.setCell ⟨B,o,none⟩ (.int .u8 (x%256))).setCell ⟨B,o+1,none⟩ (.int .u8 (x/256%256))).setCell ⟨B,o+2,none⟩ (.int .u8 (x/65536%256))).setCell ⟨B,o+3,none⟩ (.int .u8 (x/16777216%256))):=by
 have l0:(0:Int)<(l:Int):=by omega
 have l1:(1:Int)<(l:Int):=by omega
 have l2:(2:Int)<(l:Int):=by omega
 have l3:(3:Int)<(l:Int):=by omega
 clear hl
 go_enter Tryz.func147,Tryz.ntmps147
 go_wp2
 go_end0
 exact ⟨rfl,rfl⟩
theorem put32_any (B o n l c:Nat) (hl:4≤l) (g:Nat→Int) (x:Int) (ho:o+4≤n) (w:World) (h:Has w B .u8 n g) :
 Calls Tryz.prog 147 #[.slice (some ⟨B,o,none⟩) l c,.int .u32 x] w fun e w'=>e=.returned (.tuple #[])∧w'=w.setCells B o (row .u8 4 (b32 x)) :=
 put32_raw B o l c hl x _ _ _ _ w (h.cell o (by omega)) (h.free o (by omega)) (h.cell (o+1) (by omega)) (h.free (o+1) (by omega)) (h.cell (o+2) (by omega)) (h.free (o+2) (by omega)) (h.cell (o+3) (by omega)) (h.free (o+3) (by omega))
theorem rot_any (n:Nat) (hn:n=16∨n=12∨n=8∨n=7) (x:Int) (w:World) :
 Calls Tryz.prog 177 #[.int .u32 x,.int .i64 n] w fun e w'=>e=.returned (.int .u32 (hrl n x))∧w'=w:=by
 rcases hn with rfl | rfl | rfl | rfl
 · have hm:bits BinOp.and IntKind.u64 16 31=16:=by decide +kernel
   go_enter Tryz.func177,Tryz.ntmps177
   go_wp2; go_ret
   exact ⟨rfl,rfl⟩
 · have hm:bits BinOp.and IntKind.u64 12 31=12:=by decide +kernel
   go_enter Tryz.func177,Tryz.ntmps177
   go_wp2; go_ret
   exact ⟨rfl,rfl⟩
 · have hm:bits BinOp.and IntKind.u64 8 31=8:=by decide +kernel
   go_enter Tryz.func177,Tryz.ntmps177
   go_wp2; go_ret
   exact ⟨rfl,rfl⟩
 · have hm:bits BinOp.and IntKind.u64 7 31=7:=by decide +kernel
   go_enter Tryz.func177,Tryz.ntmps177
   go_wp2; go_ret
   exact ⟨rfl,rfl⟩
theorem results_four {P:Program} {fn:Func} {tmps:Array Value} {w:World} {a b c d:Tmp} {u v x y:Value} (hr:fn.results=#[.tmp a,.tmp b,.tmp c,.tmp d])
 (ha:tmps.getD a undef=u) (hb:tmps.getD b undef=v) (hc:tmps.getD c undef=x) (hd:tmps.getD d undef=y) :
 (results fn tmps).run P w=.ok (.tuple #[u,v,x,y]) w:=by
 rw [Array.getD_eq_getD_getElem?] at ha hb hc hd
 simp [results,hr,ha,hb,hc,hd]
theorem rotR_any (n:Int) (p:Nat) (hn:(n=-16∧p=16)∨(n=-12∧p=20)∨(n=-8∧p=24)∨(n=-7∧p=25)) (x:Int) (w:World) :
 Calls Tryz.prog 177 #[.int .u32 x,.int .i64 n] w fun e w'=>e=.returned (.int .u32 (hrl p x))∧w'=w:=by
 rcases hn with ⟨rfl,rfl⟩ | ⟨rfl,rfl⟩ | ⟨rfl,rfl⟩ | ⟨rfl,rfl⟩
 · have hm:bits BinOp.and IntKind.u64 (IntKind.u64.wrap (-16)) 31=16:=by decide +kernel
   go_enter Tryz.func177,Tryz.ntmps177
   go_wp2; go_ret
   exact ⟨rfl,rfl⟩
 · have hm:bits BinOp.and IntKind.u64 (IntKind.u64.wrap (-12)) 31=20:=by decide +kernel
   go_enter Tryz.func177,Tryz.ntmps177
   go_wp2; go_ret
   exact ⟨rfl,rfl⟩
 · have hm:bits BinOp.and IntKind.u64 (IntKind.u64.wrap (-8)) 31=24:=by decide +kernel
   go_enter Tryz.func177,Tryz.ntmps177
   go_wp2; go_ret
   exact ⟨rfl,rfl⟩
 · have hm:bits BinOp.and IntKind.u64 (IntKind.u64.wrap (-7)) 31=25:=by decide +kernel
   go_enter Tryz.func177,Tryz.ntmps177
   go_wp2; go_ret
   exact ⟨rfl,rfl⟩
theorem turn_any (a b c d:Int) (w:World) :
 Calls Tryz.prog 166 #[.int .u32 a,.int .u32 b,.int .u32 c,.int .u32 d] w fun e w'=>e=.returned (.tuple #[.int .u32 (qA a b c d),.int .u32 (qB a b c d),.int .u32 (qC a b c d),.int .u32 (qD a b c d)])∧w'=w:=by
 go_enter Tryz.func166,Tryz.ntmps166
 go_wp2_with fail
 refine (rot_any 16 (.inl rfl) _ _).mono ?_; rintro e w16 ⟨rfl,rfl⟩
 go_wp2_with fail
 refine (rot_any 12 (.inr (.inl rfl)) _ _).mono ?_; rintro e w12 ⟨rfl,rfl⟩
 go_wp2_with fail
 refine (rot_any 8 (.inr (.inr (.inl rfl))) _ _).mono ?_; rintro e w8 ⟨rfl,rfl⟩
 go_wp2_with fail
 refine (rot_any 7 (.inr (.inr (.inr rfl))) _ _).mono ?_; rintro e w7 ⟨rfl,rfl⟩
 go_wp2_with fail
 exact bodyPost_ret (results_four Tryz.results166 rfl rfl rfl rfl) rfl ⟨by simp only [qA,qB,qC,qD,hA,hB,hC,hD,hxr,had,Int.emod_add_emod]; rfl,rfl⟩
theorem key_info (f:Nat→Int):(Tryz.prog.info? 23).map (·.size)=some (row .u8 32 f).length:=by rw [row_length]; kernel_rfl
theorem key_info' (f:Nat→Int):(Tryz.prog.info? 23).map (·.size)=some (row .u8 32 f).toArray.size:=by rw [List.size_toArray]; exact key_info f
theorem key_there {w:World} {b:Nat} {f g:Nat→Int} (h:Has w b .u8 32 f):w.there b 0 (row .u8 32 g).toArray.size:=by rw [List.size_toArray,row_length]; exact h.there
theorem key_zero (w:World) (t:TypeId) (b:Nat) (hb:b=w.heap.size):Has (w.alloc (.cells zu8_32 t)) b .u8 32 (fun _=>0):=Has.new w .u8 32 (fun _=>0) t b hb
theorem hs_info (f:Nat→Int):(Tryz.prog.info? 170).map (·.size)=some (row .u32 16 f).length:=by rw [row_length]; kernel_rfl
theorem hs_info' (f:Nat→Int):(Tryz.prog.info? 170).map (·.size)=some (row .u32 16 f).toArray.size:=by rw [List.size_toArray]; exact hs_info f
theorem hs_there {w:World} {b:Nat} {f g:Nat→Int} (h:Has w b .u32 16 f):w.there b 0 (row .u32 16 g).toArray.size:=by rw [List.size_toArray,row_length]; exact h.there
theorem hs_zero (w:World) (t:TypeId) (b:Nat) (hb:b=w.heap.size):Has (w.alloc (.cells zu32_16 t)) b .u32 16 (fun _=>0):=Has.new w .u32 16 (fun _=>0) t b hb
theorem hn_info (f:Nat→Int):(Tryz.prog.info? 100).map (·.size)=some (row .u8 12 f).length:=by rw [row_length]; kernel_rfl
theorem hb_info (f:Nat→Int):(Tryz.prog.info? 136).map (·.size)=some (row .u8 64 f).length:=by rw [row_length]; kernel_rfl
theorem hb_info' (f:Nat→Int):(Tryz.prog.info? 136).map (·.size)=some (row .u8 64 f).toArray.size:=by rw [List.size_toArray]; exact hb_info f
theorem hb_zero (w:World) (t:TypeId) (b:Nat) (hb:b=w.heap.size):Has (w.alloc (.cells zu8_64 t)) b .u8 64 (fun _=>0):=Has.new w .u8 64 (fun _=>0) t b hb
def hfst:Nat→Int:=quad 1634760805 857760878 2036477234 1797285236
def plc (j:Nat):Int:=if j%4=0 then (pA (j/4):Int) else if j%4=1 then (pB (j/4):Int) else if j%4=2 then (pC (j/4):Int) else (pD (j/4):Int)
structure HGlob (w:World):Prop where
 first:∀ j,j<4→w.cell? ⟨6,j,none⟩=some (.int .u32 (hfst j))
 place:∀ j,j<32→w.cell? ⟨7,j,none⟩=some (.int .i64 (plc j))
 size:10≤w.heap.size
theorem HGlob.below {w w':World} (h:HGlob w) {B:Nat} (l:Below B w w') (hB:10≤B):HGlob w' :=
 ⟨fun j hj=>by rw [l.cell (p:=⟨6,j,none⟩) (xnL (show 6<10 by decide) hB)]; exact h.first j hj,fun j hj=>by rw [l.cell (p:=⟨7,j,none⟩) (xnL (show 7<10 by decide) hB)]; exact h.place j hj,by have:=h.size; have:=l.size; omega⟩
theorem HGlob.fr {w w':World} {k:Nat} (h:HGlob w) (g:Fr w k w'):HGlob w':=h.below g.below h.size
theorem HGlob.four {w:World} (h:HGlob w) (k:Nat) (hk:k<8):w.cell? ⟨7,k*4,none⟩=some (.int .i64 (pA k))∧w.cell? ⟨7,k*4+1,none⟩=some (.int .i64 (pB k))∧w.cell? ⟨7,k*4+2,none⟩=some (.int .i64 (pC k))∧w.cell? ⟨7,k*4+3,none⟩=some (.int .i64 (pD k)):=by
 have e1:plc (k*4)=(pA k:Int):=by unfold plc; rw [if_pos (by omega),show k*4/4=k by omega]
 have e2:plc (k*4+1)=(pB k:Int):=by unfold plc; rw [if_neg (by omega),if_pos (by omega),show (k*4+1)/4=k by omega]
 have e3:plc (k*4+2)=(pC k:Int):=by unfold plc; rw [if_neg (by omega),if_neg (by omega),if_pos (by omega),show (k*4+2)/4=k by omega]
 have e4:plc (k*4+3)=(pD k:Int):=by unfold plc; rw [if_neg (by omega),if_neg (by omega),if_neg (by omega),show (k*4+3)/4=k by omega]
 rw [← e1,← e2,← e3,← e4]
 exact ⟨h.place _ (by omega),h.place _ (by omega),h.place _ (by omega),h.place _ (by omega)⟩
theorem idx16 (b i:Nat) (hi:i<16) (w:World) {o:Oper} {a:Act} (x y:Operand) (ho:o.op=.indexAddr 170 x y) (hx:a.eval x=.pointer (some ⟨b,0,none⟩)) (hy:a.eval y=.int .i64 (i:Int)) :
 (execOp a.eval o).run Tryz.prog w=.ok (.value (.pointer (some ⟨b,i,none⟩))) w:=by
 have h:=idxArr (P:=Tryz.prog) 170 122 16 .i64 b 0 i x y Tryz.underlying170 (fun _=>by kernel_rfl) hi ho hx hy w
 rw [Nat.zero_add] at h
 exact h
structure HDI (s:Nat→Int) (w:World) (k:Nat) (w':World):Prop where
 hs:Has w' w.heap.size .u32 16 (htN s k)
 hr:Has w' (w.heap.size+1) .u32 16 (fun _=>0)
 fr:Fr w 2 w'
theorem HDI.drewN {s:Nat→Int} {w:World} {k q:Nat} {w':World} (h:HDI s w k w'):HDI s w k (w'.drewN q):=⟨⟨h.hs.cell,h.hs.free⟩,⟨h.hr.cell,h.hr.free⟩,⟨below_drewN h.fr.below,h.fr.size⟩⟩
theorem HDI.drew {s:Nat→Int} {w:World} {k:Nat} {w':World} (h:HDI s w k w'):HDI s w k w'.drew:=⟨h.hs.drew,h.hr.drew,h.fr.drew⟩
theorem hdouble_any (s:Nat→Int) (w:World) (hg:HGlob w) :
 Calls Tryz.prog 149 #[(.agg (row .u32 16 (s)).toArray)] w fun e w'=>e=.returned (.agg (row .u32 16 (htN s 8)).toArray)∧Below w.heap.size w w':=by
 go_enter Tryz.func149,Tryz.ntmps149
 go_wp2
 go_loopw [8] (fun i w'=>∃ k:Nat,k≤8∧i=.int .i64 k∧HDI s w k w') (fun i _=>8-(intOf i).toNat)
 case atStart=>exact ⟨0,by omega,rfl,⟨(Has.new w _ _ _ _ _ rfl).alloc _ (by simp),hs_zero _ _ _ (by simp),((Fr.refl w).alloc _).alloc _⟩⟩
 case round =>
  obtain ⟨k,hk,rfl,hI⟩:=hrel
  have hG:=hg.fr hI.fr
  have g1:(0:Int)≤(k:Int):=by omega
  by_cases hlt:k<8
  · have HT:=show Hid _ from (show htN s (k+1)=tAt (htN s k) k from rfl)
    have HI:=show Hid _ from fun (q:Nat)=>(hI.drewN (q:=q)).drew
    have g2:(k:Int)<8:=by omega
    obtain ⟨p1,p2,p3,p4⟩:=hG.four k hlt
    have l1:pA k<16:=by have:=pA_lt k; omega
    have l2:pB k<16:=by have:=pB_lt k; omega
    have l3:pC k<16:=by have:=pC_lt k; omega
    have l4:pD k<16:=pD_lt k
    unfold tAt at HT
    clear hI hG hk; generalize hA:pA k=A at *; generalize hB:pB k=B at *; generalize hC:pC k=C at *; generalize hD:pD k=D at *; clear hA hB hC hD; go_wp2
    go_quiet (fail)
    go_upto_region 5 with fail; have hI:=HI.out nq; clear p1 p2 p3 p4 HI; refine wp_region_C (S:=fun w'=>HDI s w k w') 16 (by kernel_rfl) hI ?_; clear hI; intro K; refine xpC 0 28 (.int .i64 (A:Int)) K ?_; refine xpC 1 29 (.int .i64 (B:Int)) K ?_; refine xpC 2 30 (.int .i64 (C:Int)) K ?_; refine xpC 3 31 (.int .i64 (D:Int)) K ?_; refine xpC 4 32 (.int .i64 (A:Int)) K ?_
    refine xqC 5 33 rfl (.pointer (some ⟨w.heap.size,A,none⟩)) (fun w'=>idx16 w.heap.size A l1 w' _ _ rfl rfl rfl) K ?_; refine cellC (i:=6) (some 34) rfl .u32 (.int .u32 (htN s k A)) w.heap.size A 122 _ rfl rfl (by kernel_rfl) rfl rfl rfl (by kernel_rfl) (by kernel_rfl) (by kernel_rfl) (by kernel_rfl) (fun _ _ _ h=>h) Tryz.underlying122 K (fun _ h=>h.hs.cell A l1) ?_
    simp only [aP,lI,l0,lS]; refine xpC 7 35 (.int .i64 (B:Int)) K ?_; refine xqC 8 36 rfl (.pointer (some ⟨w.heap.size,B,none⟩)) (fun w'=>idx16 w.heap.size B l2 w' _ _ rfl rfl rfl) K ?_
    refine cellC (i:=9) (some 37) rfl .u32 (.int .u32 (htN s k B)) w.heap.size B 122 _ rfl rfl (by kernel_rfl) rfl rfl rfl (by kernel_rfl) (by kernel_rfl) (by kernel_rfl) (by kernel_rfl) (fun _ _ _ h=>h) Tryz.underlying122 K (fun _ h=>h.hs.cell B l2) ?_; simp only [aP,lI,l0,lS]; refine xpC 10 38 (.int .i64 (C:Int)) K ?_
    refine xqC 11 39 rfl (.pointer (some ⟨w.heap.size,C,none⟩)) (fun w'=>idx16 w.heap.size C l3 w' _ _ rfl rfl rfl) K ?_; refine cellC (i:=12) (some 40) rfl .u32 (.int .u32 (htN s k C)) w.heap.size C 122 _ rfl rfl (by kernel_rfl) rfl rfl rfl (by kernel_rfl) (by kernel_rfl) (by kernel_rfl) (by kernel_rfl) (fun _ _ _ h=>h) Tryz.underlying122 K (fun _ h=>h.hs.cell C l3) ?_
    simp only [aP,lI,l0,lS]; refine xpC 13 41 (.int .i64 (D:Int)) K ?_; refine xqC 14 42 rfl (.pointer (some ⟨w.heap.size,D,none⟩)) (fun w'=>idx16 w.heap.size D l4 w' _ _ rfl rfl rfl) K ?_
    refine cellC (i:=15) (some 43) rfl .u32 (.int .u32 (htN s k D)) w.heap.size D 122 _ rfl rfl (by kernel_rfl) rfl rfl rfl (by kernel_rfl) (by kernel_rfl) (by kernel_rfl) (by kernel_rfl) (fun _ _ _ h=>h) Tryz.underlying122 K (fun _ h=>h.hs.cell D l4) ?_; simp only [aP,lI,l0,lS]
    refine callC (S2:=fun _=>True) (some 44) rfl (by kernel_rfl) rfl rfl (fun _=>by kernel_rfl) (turn_any (htN s k A) (htN s k B) (htN s k C) (htN s k D) _) (by kernel_rfl) ?_; rintro e w' ⟨rfl,rfl⟩
    refine ⟨_,rfl,?_⟩
    simp only [aP,lI,l0,lS]
    have T:True:=trivial
    refine xpH 17 27 (.tuple #[.int .u32 (qA (htN s k A) (htN s k B) (htN s k C) (htN s k D)),.int .u32 (qB (htN s k A) (htN s k B) (htN s k C) (htN s k D)),.int .u32 (qC (htN s k A) (htN s k B) (htN s k C) (htN s k D)),.int .u32 (qD (htN s k A) (htN s k B) (htN s k C) (htN s k D))]) T ?_; refine xpH 18 45 (.int .u32 (qA (htN s k A) (htN s k B) (htN s k C) (htN s k D))) T ?_
    refine xpH 19 46 (.int .u32 (qB (htN s k A) (htN s k B) (htN s k C) (htN s k D))) T ?_; refine xpH 20 47 (.int .u32 (qC (htN s k A) (htN s k B) (htN s k C) (htN s k D))) T ?_; refine xpH 21 48 (.int .u32 (qD (htN s k A) (htN s k B) (htN s k C) (htN s k D))) T ?_; have h0:=K.hs; have r0:=K.hr; have f0:=K.fr; clear K
    refine xqH 22 49 rfl (.pointer (some ⟨w.heap.size,A,none⟩)) (fun w'=>idx16 w.heap.size A l1 w' _ _ rfl rfl rfl) T ?_; refine storeH (i:=23) none rfl .u32 (qA (htN s k A) (htN s k B) (htN s k C) (htN s k D)) w.heap.size A 122 _ _ (by kernel_rfl) rfl rfl rfl rfl rfl (by rw [h0.cell A l1]; rfl) (h0.free A l1) (by kernel_rfl) T ?_; simp only [Act.put]
    have h1:=h0.set A l1 (qA (htN s k A) (htN s k B) (htN s k C) (htN s k D)); have r1:=r0.set_other ⟨w.heap.size,A,none⟩ (.int .u32 (qA (htN s k A) (htN s k B) (htN s k C) (htN s k D))) (by simp); have f1:=f0.set ⟨w.heap.size,A,none⟩ (.int .u32 (qA (htN s k A) (htN s k B) (htN s k C) (htN s k D))) (by simp); clear h0 r0 f0
    refine xqH 24 50 rfl (.pointer (some ⟨w.heap.size,B,none⟩)) (fun w'=>idx16 w.heap.size B l2 w' _ _ rfl rfl rfl) T ?_; refine storeH (i:=25) none rfl .u32 (qB (htN s k A) (htN s k B) (htN s k C) (htN s k D)) w.heap.size B 122 _ _ (by kernel_rfl) rfl rfl rfl rfl rfl (by rw [h1.cell B l2]; rfl) (h1.free B l2) (by kernel_rfl) T ?_; simp only [Act.put]
    have h2:=h1.set B l2 (qB (htN s k A) (htN s k B) (htN s k C) (htN s k D)); have r2:=r1.set_other ⟨w.heap.size,B,none⟩ (.int .u32 (qB (htN s k A) (htN s k B) (htN s k C) (htN s k D))) (by simp); have f2:=f1.set ⟨w.heap.size,B,none⟩ (.int .u32 (qB (htN s k A) (htN s k B) (htN s k C) (htN s k D))) (by simp); clear h1 r1 f1
    refine xqH 26 51 rfl (.pointer (some ⟨w.heap.size,C,none⟩)) (fun w'=>idx16 w.heap.size C l3 w' _ _ rfl rfl rfl) T ?_; refine storeH (i:=27) none rfl .u32 (qC (htN s k A) (htN s k B) (htN s k C) (htN s k D)) w.heap.size C 122 _ _ (by kernel_rfl) rfl rfl rfl rfl rfl (by rw [h2.cell C l3]; rfl) (h2.free C l3) (by kernel_rfl) T ?_; simp only [Act.put]
    have h3:=h2.set C l3 (qC (htN s k A) (htN s k B) (htN s k C) (htN s k D)); have r3:=r2.set_other ⟨w.heap.size,C,none⟩ (.int .u32 (qC (htN s k A) (htN s k B) (htN s k C) (htN s k D))) (by simp); have f3:=f2.set ⟨w.heap.size,C,none⟩ (.int .u32 (qC (htN s k A) (htN s k B) (htN s k C) (htN s k D))) (by simp); clear h2 r2 f2
    refine xqH 28 52 rfl (.pointer (some ⟨w.heap.size,D,none⟩)) (fun w'=>idx16 w.heap.size D l4 w' _ _ rfl rfl rfl) T ?_; refine storeH (i:=29) none rfl .u32 (qD (htN s k A) (htN s k B) (htN s k C) (htN s k D)) w.heap.size D 122 _ _ (by kernel_rfl) rfl rfl rfl rfl rfl (by rw [h3.cell D l4]; rfl) (h3.free D l4) (by kernel_rfl) T ?_; simp only [Act.put]
    have h4:=h3.set D l4 (qD (htN s k A) (htN s k B) (htN s k C) (htN s k D)); have r4:=r3.set_other ⟨w.heap.size,D,none⟩ (.int .u32 (qD (htN s k A) (htN s k B) (htN s k C) (htN s k D))) (by simp); have f4:=f3.set ⟨w.heap.size,D,none⟩ (.int .u32 (qD (htN s k A) (htN s k B) (htN s k C) (htN s k D))) (by simp); clear h3 r3 f3
    refine wpAnyH_done (by kernel_rfl) ?_ _
    rw [← HT.out] at h4
    have HS:=show Hid _ from (HDI.mk h4 r4 f4); clear h4 r4 f4 T l1 l2 l3 l4; go_wp2
    go_roundw
    case rel=>exact ⟨k+1,by omega,by go_num,HS.out⟩
    case measure=>simp [intOf]; omega
  · obtain rfl:k=8:=by omega
    have hs:=hI.hs; have hz:=hI.hr; have hB:=(hI.fr.setAll (w.heap.size+1) (by omega) (row .u32 16 (htN s 8))).below; clear hI hlt hk hG; generalize hf:htN s 8=f at *
    go_wp2_with (first | (refine wpList_load_mid rfl 170 _ rfl (w.heap.size) 0 rfl (row .u32 16 (f)) _ (Has.range (hs)) Tryz.underlying170 rfl (hs_info _) ?_) | (refine wpList_store_mid rfl 170 _ _ rfl (w.heap.size+1) 0 (row .u32 16 (f)).toArray rfl rfl (hs_there (hz)) (hs_info' _) (all_oneCell_toArray (row_one _ _ _)) ?_))
    exact bodyPost_ret (v:=(.agg (row .u32 16 (f)).toArray)) (results_row Tryz.results149 rfl (Has.all hz.there .u32 _).range Tryz.underlying170 rfl (hs_info _)) rfl ⟨by rw [hf],hB⟩
theorem hcut_key (b k:Nat) (hk:k<8) (w:World):(Instr.sliceAt 23 (.pointer (some ⟨b,0,none⟩)) (some (.int .i64 (4*(k:Int)))) none none).run Tryz.prog w=.ok (.slice (some ⟨b,4*k,none⟩) (32-4*k) (32-4*k)) w:=by
 have hl:Tryz.prog.arrayLen 23=32:=by kernel_rfl
 have hs:∀ w,(sizeOf (Tryz.prog.elem 23)).run Tryz.prog w=.ok 1 w:=fun w=>by kernel_rfl
 rw [run_sliceAt_array_l w 23 ⟨b,0,none⟩ (by kernel_rfl) .i64 _ (by omega) (by rw [hl]; omega),hs,hl]
 simp only [Result.andThen,slicedAt]
 have e1:(4*(k:Int)).toNat=4*k:=by omega
 rw [e1,if_neg (by omega),Addr.add_mid,Nat.zero_add,Nat.mul_one]
theorem hcut_non (b k:Nat) (hk:k<3) (w:World):(Instr.sliceAt 100 (.pointer (some ⟨b,0,none⟩)) (some (.int .i64 (4*(k:Int)))) none none).run Tryz.prog w=.ok (.slice (some ⟨b,4*k,none⟩) (12-4*k) (12-4*k)) w:=by
 have hl:Tryz.prog.arrayLen 100=12:=by kernel_rfl
 have hs:∀ w,(sizeOf (Tryz.prog.elem 100)).run Tryz.prog w=.ok 1 w:=fun w=>by kernel_rfl
 rw [run_sliceAt_array_l w 100 ⟨b,0,none⟩ (by kernel_rfl) .i64 _ (by omega) (by rw [hl]; omega),hs,hl]
 simp only [Result.andThen,slicedAt]
 have e1:(4*(k:Int)).toNat=4*k:=by omega
 rw [e1,if_neg (by omega),Addr.add_mid,Nat.zero_add,Nat.mul_one]
structure HBI (k:Nat→Int) (c:Int) (n:Nat→Int) (w:World) (m:Nat) (f:Nat→Int) (w':World):Prop where
 done:∀ j,j<m→f j=hst k c n j
 hk:Has w' w.heap.size .u8 32 k
 hn:Has w' (w.heap.size+1) .u8 12 n
 hr:Has w' (w.heap.size+1+1) .u32 16 (fun _=>0)
 hs:Has w' (w.heap.size+1+1+1) .u32 16 f
 fr:Fr w 4 w'
theorem HBI.drewN {k:Nat→Int} {c:Int} {n:Nat→Int} {w:World} {m:Nat} {f:Nat→Int} {w':World} (h:HBI k c n w m f w') (q:Nat):HBI k c n w m f (w'.drewN q) :=
 ⟨h.done,⟨h.hk.cell,h.hk.free⟩,⟨h.hn.cell,h.hn.free⟩,⟨h.hr.cell,h.hr.free⟩,⟨h.hs.cell,h.hs.free⟩,⟨below_drewN h.fr.below,h.fr.size⟩⟩
theorem HBI.step {k:Nat→Int} {c:Int} {n:Nat→Int} {w:World} {m:Nat} {f:Nat→Int} {w':World} (h:HBI k c n w m f w') (hm:m<16) (v:Int) (hv:hst k c n m=v):HBI k c n w (m+1) (upd f m v) (w'.setCell ⟨w.heap.size+1+1+1,m,none⟩ (.int .u32 v)):=by
 refine ⟨fun j hj=>?_,h.hk.set_other _ _ (by simp; omega),h.hn.set_other _ _ (by simp; omega),h.hr.set_other _ _ (by simp),h.hs.set m hm v,h.fr.set _ _ (by simp; omega)⟩
 by_cases e:j=m
 · subst e; rw [upd_same,hv]
 · rw [upd_other _ _ _ _ e]; exact h.done j (by omega)
theorem hst_first (k:Nat→Int) (c:Int) (n:Nat→Int) (j:Nat) (hj:j<4):hst k c n j=hfst j:=by
 match j,hj with
 | 0,_ | 1,_ | 2,_ | 3,_=>rfl
theorem hst_key (k:Nat→Int) (c:Int) (n:Nat→Int) (j:Nat) (hj:j<8):hst k c n (4+j)=w32 k (4*j):=by
 match j,hj with
 | 0,_ | 1,_ | 2,_ | 3,_ | 4,_ | 5,_ | 6,_ | 7,_=>rfl
theorem hst_non (k:Nat→Int) (c:Int) (n:Nat→Int) (j:Nat) (hj:j<3):hst k c n (13+j)=w32 n (4*j):=by
 match j,hj with
 | 0,_ | 1,_ | 2,_=>rfl
theorem hbegin_any (k:Nat→Int) (c:Int) (n:Nat→Int) (hk:In 256 32 k) (hn:In 256 12 n) (w:World) (hg:HGlob w) :
 Calls Tryz.prog 148 #[(.agg (row .u8 32 (k)).toArray),.int .u32 c,(.agg (row .u8 12 (n)).toArray)] w fun e w'=>e=.returned (.agg (row .u32 16 (hst k c n)).toArray)∧Below w.heap.size w w':=by
 go_enter Tryz.func148,Tryz.ntmps148
 go_wp2
 go_loopw [11] (fun i w'=>∃ (m:Nat) (f:Nat→Int),m≤4∧i=.int .i64 m∧HBI k c n w m f w') (fun i _=>4-(intOf i).toNat)
 case atStart=>exact ⟨0,fun _=>0,by omega,rfl,⟨fun j hj=>by omega,(((Has.new w _ _ _ _ _ rfl).alloc _ (by simp)).alloc _ (by simp; omega)).alloc _ (by simp; omega),((Has.new _ _ _ _ _ _ (by simp)).alloc _ (by simp)).alloc _ (by simp),(hs_zero _ _ _ (by simp)).alloc _ (by simp),hs_zero _ _ _ (by simp),((((Fr.refl w).alloc _).alloc _).alloc _).alloc _⟩⟩
 case round =>
  obtain ⟨m,f,hm,rfl,hI⟩:=hrel
  have g1:(0:Int)≤(m:Int):=by omega
  by_cases hlt:m<4
  · have HS:=show Hid _ from hI.step (by omega) _ (hst_first k c n m hlt)
    have g2:(m:Int)<4:=by omega
    have g3:(m:Int)<16:=by omega
    have p1:=(hg.fr hI.fr).first m hlt; have c1:=hI.hs.cell m (by omega); have f1:=hI.hs.free m (by omega); clear hI hm; generalize f m=y at *; generalize hfst m=z at *; go_wp2
    go_roundw
    case rel=>exact ⟨m+1,_,by omega,by go_num,HS.out⟩
    case measure=>simp [intOf]; omega
  · obtain rfl:m=4:=by omega
    clear hlt hm g1; go_wp2
    go_loopw [20] (fun i w'=>∃ (m:Nat) (f:Nat→Int),m≤8∧i=.int .i64 m∧HBI k c n w (4+m) f w') (fun i _=>8-(intOf i).toNat)
    case atStart=>exact ⟨0,f,by omega,rfl,hI⟩
    case round =>
     obtain ⟨m,f,hm,rfl,hI⟩:=hrel
     have g1:(0:Int)≤(m:Int):=by omega
     by_cases hlt:m<8
     · have hcut:=hcut_key w.heap.size m hlt
       have HC:=show Hid _ from of32_any w.heap.size (4*m) 32 (32-4*m) (32-4*m) k (by omega) (by omega) hk wr hI.hk; have HS:=show Hid _ from fun q=>(hI.drewN q).step (by omega) _ (hst_key k c n m hlt)
       have g2:(m:Int)<8:=by omega
       have g3:(0:Int)≤4+(m:Int):=by omega
       have g4:4+(m:Int)<16:=by omega
       have g5:(4+(m:Int)).toNat=4+m:=by omega
       have cn:∀ q,(wr.drewN q).cell? ⟨w.heap.size+1+1+1,4+m,none⟩=some (.int .u32 (f (4+m))):=fun q=>hI.hs.cell (4+m) (by omega)
       have fn:∀ q,(wr.drewN q).frozen? ⟨w.heap.size+1+1+1,4+m,none⟩=false:=fun q=>hI.hs.free (4+m) (by omega)
       clear hI hm; generalize f (4+m)=y at *; generalize w32 k (4*m)=z at *
       go_wp2_with fail
       refine Calls.mono HC.out ?_; rintro e w' ⟨q,rfl,rfl⟩
       have cn':=cn q
       have fn':=fn q
       have HT:=show Hid _ from HS.out q; clear HC HS cn fn hcut; generalize wr.drewN q=w2 at *; go_wp2
       go_roundw
       case rel=>first | exact ⟨m+1,_,by omega,by go_num,HT.out⟩ | ((repeat apply Exists.intro); refine ⟨⟨m+1,_,by omega,?_,HT.out⟩,rfl⟩ <;> first | rfl | go_num)
       case measure=>simp [intOf]; omega
     · obtain rfl:m=8:=by omega
       have hI2:=hI.step (by omega) c rfl; have c1:=hI.hs.cell 12 (by omega); have f1:=hI.hs.free 12 (by omega); clear hlt hm g1 hI; generalize f 12=y at *; go_wp2
       go_loopw [33] (fun i w'=>∃ (m:Nat) (f:Nat→Int),m≤3∧i=.int .i64 m∧HBI k c n w (13+m) f w') (fun i _=>3-(intOf i).toNat)
       case atStart=>exact ⟨0,_,by omega,rfl,hI2⟩
       case round =>
        obtain ⟨m,f,hm,rfl,hI⟩:=hrel
        have g1:(0:Int)≤(m:Int):=by omega
        clear hI2 c1 f1
        by_cases hlt:m<3
        · have hcut:=hcut_non (w.heap.size+1) m hlt
          have HC:=show Hid _ from of32_any (w.heap.size+1) (4*m) 12 (12-4*m) (12-4*m) n (by omega) (by omega) hn wr hI.hn; have HS:=show Hid _ from fun q=>(hI.drewN q).step (by omega) _ (hst_non k c n m hlt)
          have g2:(m:Int)<3:=by omega
          have g3:(0:Int)≤13+(m:Int):=by omega
          have g4:13+(m:Int)<16:=by omega
          have g5:(13+(m:Int)).toNat=13+m:=by omega
          have cn:∀ q,(wr.drewN q).cell? ⟨w.heap.size+1+1+1,13+m,none⟩=some (.int .u32 (f (13+m))):=fun q=>hI.hs.cell (13+m) (by omega)
          have fn:∀ q,(wr.drewN q).frozen? ⟨w.heap.size+1+1+1,13+m,none⟩=false:=fun q=>hI.hs.free (13+m) (by omega)
          clear hI hm; generalize f (13+m)=y at *; generalize w32 n (4*m)=z at *
          go_wp2_with fail
          refine Calls.mono HC.out ?_; rintro e w' ⟨q,rfl,rfl⟩
          have cn':=cn q
          have fn':=fn q
          have HT:=show Hid _ from HS.out q; clear HC HS cn fn hcut; generalize wr.drewN q=w2 at *; go_wp2
          go_roundw
          case rel=>first | exact ⟨m+1,_,by omega,by go_num,HT.out⟩ | ((repeat apply Exists.intro); refine ⟨⟨m+1,_,by omega,?_,HT.out⟩,rfl⟩ <;> first | rfl | go_num)
          case measure=>simp [intOf]; omega
        · obtain rfl:m=3:=by omega
          have hs:=hI.hs.congr (g:=hst k c n) (fun j hj=>hI.done j hj); have hz:=hI.hr; have hB:=(hI.fr.setAll (w.heap.size+1+1) (by omega) (row .u32 16 (hst k c n))).below; clear hI hlt hm g1; generalize hf:hst k c n=g at *
          go_wp2_with (first | (refine wpList_load_mid rfl 170 _ rfl (w.heap.size+1+1+1) 0 rfl (row .u32 16 (g)) _ (Has.range (hs)) Tryz.underlying170 rfl (hs_info _) ?_) | (refine wpList_store_mid rfl 170 _ _ rfl (w.heap.size+1+1) 0 (row .u32 16 (g)).toArray rfl rfl (hs_there (hz)) (hs_info' _) (all_oneCell_toArray (row_one _ _ _)) ?_))
          exact bodyPost_ret (v:=(.agg (row .u32 16 (g)).toArray)) (results_row Tryz.results148 rfl (Has.all hz.there .u32 _).range Tryz.underlying170 rfl (hs_info _)) rfl ⟨by rw [hf],hB⟩
end Go.Proofs.YtklnibmfpcmeeaaGreatDoor
