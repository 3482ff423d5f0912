/- Texts of Kr Pt Wo Wp Wq Cs Co Cp Ca Ct, joined. -/
import Derived.Test.YtklnibmfpcmeeaaGreatDoorP1ShakeTries
import Derived.BigQuiet
set_option maxRecDepth 20000
set_option maxHeartbeats 64000000
namespace Go.Proofs.YtklnibmfpcmeeaaGreatDoor
open Go.RowKit
section
theorem there_below {w w':World} {b n:Nat} (h:w.there b 0 n) {B:Nat} (l:Below B w w') (hb:b<B):w'.there b 0 n:=fun j hj=>by
 rw [l.cell (p:=⟨b,0+j,none⟩) hb,l.frozen (p:=⟨b,0+j,none⟩) hb]; exact h j hj
theorem room_of {w:World} {b n:Nat} {k:IntKind} {f:Nat→Int} (h:w.there b 0 n):w.there b 0 (row k n f).toArray.size:=by rw [List.size_toArray,row_length]; exact h
theorem size_new (w:World) (o:Obj):(w.alloc o).heap.size=w.heap.size+1:=by simp
structure Kr (w:World) (m:Nat) (l:List (Nat × IntKind × Nat × (Nat→Int))) (R:List (Nat × Nat)) (w':World):Prop where
 rows:∀ p∈l,Has w' p.1 p.2.1 p.2.2.1 p.2.2.2∧p.1<m
 room:∀ q∈R,w'.there q.1 0 q.2∧q.1<m∧w.heap.size≤q.1
 apart:∀ p∈l,∀ q∈R,p.1≠q.1
 size:m≤w'.heap.size
 base:w.heap.size≤m
 below:Below w.heap.size w w'
section
variable {w w' w'':World} {m:Nat} {l:List (Nat × IntKind × Nat × (Nat→Int))} {R:List (Nat × Nat)}
theorem Kr.init (w:World):Kr w w.heap.size [] [] w:=⟨fun _ h=>(by cases h),fun _ h=>(by cases h),fun _ h=>(by cases h),xnR _,xnR _,Below.refl _ _⟩
theorem Kr.drew (h:Kr w m l R w'):Kr w m l R w'.drew:=⟨fun p hp=>⟨(h.rows p hp).1.drew,(h.rows p hp).2⟩,h.room,h.apart,h.size,h.base,h.below.drew⟩
theorem Kr.call (h:Kr w m l R w') (b:Below w'.heap.size w' w''):Kr w m l R w'' :=
 ⟨fun p hp=>⟨(h.rows p hp).1.below b (xnL (h.rows p hp).2 h.size),(h.rows p hp).2⟩,
  fun q hq=>⟨there_below (h.room q hq).1 b (xnL (h.room q hq).2.1 h.size),(h.room q hq).2⟩,h.apart,xnT h.size b.size,h.base,h.below.trans (b.mono (xnT h.base h.size))⟩
theorem Kr.box (h:Kr w m l R w') (k:IntKind) (n:Nat) (f:Nat→Int) (t:TypeId) (b:Nat) (hb:b=w'.heap.size):Kr w (b+1) ((b,k,n,f)::l) R (w'.alloc (.cells (row k n f).toArray t)):=by
 have hc:=h.call ((Below.refl w'.heap.size w').alloc (xnR _) (.cells (row k n f).toArray t))
 refine ⟨fun p hp=>?_,fun q hq=>⟨(hc.room q hq).1,by have:=(hc.room q hq).2.1; have:=h.size; omega,(hc.room q hq).2.2⟩,fun p hp q hq=>?_,by simp; omega,by have:=h.base; have:=h.size; omega,hc.below⟩
 · rcases xc1 hp with rfl | hp
   · exact ⟨Has.new w' k n f t b hb,by simp⟩
   · exact ⟨(hc.rows p hp).1,by have:=(hc.rows p hp).2; have:=h.size; omega⟩
 · rcases xc1 hp with rfl | hp
   · have:=(h.room q hq).2.1; have:=h.size; simp only; omega
   · exact h.apart p hp q hq
theorem Kr.make (h:Kr w m l R w') (n:Nat) (c:Array Value) (t:TypeId) (b:Nat) (hb:b=w'.heap.size) (hn:(w'.alloc (.cells c t)).there b 0 n):Kr w (b+1) l ((b,n)::R) (w'.alloc (.cells c t)):=by
 have hc:=h.call ((Below.refl w'.heap.size w').alloc (xnR _) (.cells c t))
 refine ⟨fun p hp=>⟨(hc.rows p hp).1,by have:=(hc.rows p hp).2; have:=h.size; omega⟩,fun q hq=>?_,fun p hp q hq=>?_,by simp; omega,by have:=h.base; have:=h.size; omega,hc.below⟩
 · rcases xc1 hq with rfl | hq
   · exact ⟨hn,by simp,by have:=h.base; have:=h.size; simp only; omega⟩
   · exact ⟨(hc.room q hq).1,by have:=(hc.room q hq).2.1; have:=h.size; omega,(hc.room q hq).2.2⟩
 · rcases xc1 hq with rfl | hq
   · have:=(h.rows p hp).2; have:=h.size; simp only; omega
   · exact h.apart p hp q hq
theorem Kr.past (h:Kr w m l R w') (b:Nat) (hb:m≤b) (vs:List Value):Kr w m l R (w'.setCells b 0 vs) :=
 ⟨fun p hp=>⟨(h.rows p hp).1.setAll_other _ (by have:=(h.rows p hp).2; omega) 0 _,(h.rows p hp).2⟩,fun q hq=>⟨World.there_setCells (h.room q hq).1 _ _ _,(h.room q hq).2⟩,h.apart,by rw [size_setAll]; exact h.size,h.base,
  below_setAll h.below _ (xnT h.base hb) 0 _⟩
theorem Kr.fill (h:Kr w m l R w') (b n:Nat) (hb:(b,n)∈R) (vs:List Value):Kr w m l R (w'.setCells b 0 vs) :=
 ⟨fun p hp=>⟨(h.rows p hp).1.setAll_other _ (fun e=>h.apart p hp _ hb e.symm) 0 _,(h.rows p hp).2⟩,fun q hq=>⟨World.there_setCells (h.room q hq).1 _ _ _,(h.room q hq).2⟩,h.apart,by rw [size_setAll]; exact h.size,h.base,
  below_setAll h.below _ (h.room _ hb).2.2 0 _⟩
theorem Kr.get (h:Kr w m l R w') (b:Nat) (k:IntKind) (n:Nat) (f:Nat→Int) (hp:(b,k,n,f)∈l):Has w' b k n f:=(h.rows _ hp).1
theorem Kr.roomy (h:Kr w m l R w') (b:Nat) (k:IntKind) (n:Nat) (f:Nat→Int) (hb:(b,n)∈R):w'.there b 0 (row k n f).toArray.size:=by rw [List.size_toArray,row_length]; exact (h.room _ hb).1
theorem Kr.fresh (h:Kr w m l R w') (k:IntKind) (n:Nat) (f:Nat→Int) (c:Array Value) (t:TypeId) (hn:(w'.alloc (.cells c t)).there w'.heap.size 0 n) :
 Kr w (w'.heap.size+1) ((w'.heap.size,k,n,f)::l) R ((w'.alloc (.cells c t)).setCells w'.heap.size 0 (row k n f)):=by
 have hk:=h.make n c t w'.heap.size rfl hn; have hc:=hk.fill w'.heap.size n mS (row k n f)
 refine ⟨fun p hp=>?_,fun q hq=>hc.room q (mT _ hq),fun p hp q hq=>?_,hc.size,hc.base,hc.below⟩
 · rcases xc1 hp with rfl | hp
   · exact ⟨Has.all hn k f,by simp⟩
   · exact hc.rows p hp
 · rcases xc1 hp with rfl | hp
   · have:=(h.room q hq).2.1; have:=h.size; simp only; omega
   · exact h.apart p hp q hq
theorem Kr.poke (h:Kr w m l R w') (b n:Nat) (hb:(b,n)∈R) (o:Nat) (vs:List Value):Kr w m l R (w'.setCells b o vs) :=
 ⟨fun p hp=>⟨(h.rows p hp).1.setAll_other _ (fun e=>h.apart p hp _ hb e.symm) o _,(h.rows p hp).2⟩,fun q hq=>⟨World.there_setCells (h.room q hq).1 _ _ _,(h.room q hq).2⟩,h.apart,by rw [size_setAll]; exact h.size,h.base,
  below_setAll h.below _ (h.room _ hb).2.2 o _⟩
theorem Kr.loose (h:Kr w m l R w') (l':List (Nat × IntKind × Nat × (Nat→Int))) (b:Nat) (k:IntKind) (n:Nat) (f:Nat→Int) (hp:(b,k,n,f)∈l) (hl:∀ p∈l',p∈l) (hne:∀ p∈l',p.1≠b) (hlo:w.heap.size≤b):Kr w m l' ((b,n)::R) w' :=
 ⟨fun p hp=>h.rows p (hl p hp),fun q hq=>by
  rcases xc1 hq with rfl | hq
  · exact ⟨(h.get _ _ _ _ hp).there,(h.rows _ hp).2,hlo⟩
  · exact h.room q hq,fun p hp' q hq=>by
  rcases xc1 hq with rfl | hq
  · exact hne p hp'
  · exact h.apart p (hl p hp') q hq,h.size,h.base,h.below⟩
theorem Kr.settle (h:Kr w m l R w') (R':List (Nat × Nat)) (b:Nat) (k:IntKind) (n:Nat) (f:Nat→Int) (hb:(b,n)∈R) (hR:∀ q∈R',q∈R) (hne:∀ q∈R',q.1≠b) (hf:Has w' b k n f):Kr w m ((b,k,n,f)::l) R' w' :=
 ⟨fun p hp=>by
  rcases xc1 hp with rfl | hp
  · exact ⟨hf,(h.room _ hb).2.1⟩
  · exact h.rows p hp,fun q hq=>h.room q (hR q hq),fun p hp q hq=>by
  rcases xc1 hp with rfl | hp
  · exact (hne q hq).symm
  · exact h.apart p hp q (hR q hq),h.size,h.base,h.below⟩
theorem Kr.sub (h:Kr w m l R w') (l':List (Nat × IntKind × Nat × (Nat→Int))) (hl:∀ p∈l',p∈l):Kr w m l' R w' :=
 ⟨fun p hp=>h.rows p (hl p hp),h.room,fun p hp q hq=>h.apart p (hl p hp) q hq,h.size,h.base,h.below⟩
theorem Kr.set (h:Kr w m l R w') (l':List (Nat × IntKind × Nat × (Nat→Int))) (b:Nat) (k:IntKind) (n:Nat) (f g:Nat→Int) (hp:(b,k,n,f)∈l) (hl:∀ p∈l',p∈l) (hne:∀ p∈l',p.1≠b) (hlo:w.heap.size≤b):Kr w m ((b,k,n,g)::l') R (w'.setCells b 0 (row k n g)) :=
 ((h.loose l' b k n f hp hl hne hlo).fill b n mS _).settle R b k n g mS (fun _ hq=>mT _ hq) (fun q hq=>(h.apart _ hp q hq).symm) (Has.all (h.get _ _ _ _ hp).there k g)
theorem Kr.back (h:Kr w m l R w') (l':List (Nat × IntKind × Nat × (Nat→Int))) (m0:Nat) (hl:∀ p∈l',p∈l) (hm:∀ p∈l',p.1<m0) (hr:∀ q∈R,q.1<m0) (h0:w.heap.size≤m0) (h1:m0≤m):Kr w m0 l' R w' :=
 ⟨fun p hp=>⟨(h.rows p (hl p hp)).1,hm p hp⟩,fun q hq=>⟨(h.room q hq).1,hr q hq,(h.room q hq).2.2⟩,fun p hp q hq=>h.apart p (hl p hp) q hq,xnT h1 h.size,h0,h.below⟩
end
section
variable {P:Program} {ops:Array Oper} {Q:Exit→Act→World→Prop} {md:Region.Mode} {S:World→Prop}
theorem rowKH {i:Nat} {oi:Oper} (dst:Option Tmp) (hdst:oi.dst=dst) {fuel:Nat} {listed:Array Bool} {a:Act} {w:World} (k:IntKind) (n:Nat) (f:Nat→Int) (b o:Nat) (ty:TypeId) (x:Operand) (d:TypeDesc) (hi:ops[i]?=some oi)
 (ho:oi.op=.load ty x) (hx:a.eval x=.pointer (some ⟨b,o,none⟩)) (hw:Region.wanted oi (yielded ops a.tmps)=true)
 (hs:Region.noSelect ops=true) (hf:Region.free md ops listed i=true) (hr:(Region.ready md ops listed).contains i=true)
 (hQ:∀ c a w,Q (.panic c) (a.put dst (.agg (row k n f).toArray)) w→Q (.panic c) a w)
 (hu:P.underlying ty=some d) (hd:d.isRow=true) (hz:(P.info? ty).map (·.size)=some (row k n f).length)
 (hS:S w) (hh:∀ w,S w→w.rangeAt b o (row k n f))
 (h:wpAnyH P md ops Q S fuel (listed.setIfInBounds i true) (a.put dst (.agg (row k n f).toArray)) w):wpAnyH P md ops Q S (fuel+1) listed a w:=by
 subst hdst
 exact wpAnyH_take hi hs hf hr hQ (yieldsIf_load_mid hw ty x ho b o hx (row k n f) d hh hu hd hz) hS h
theorem rowKL {o':Oper} {rest:List Oper} {a:Act} {w:World} (k:IntKind) (n:Nat) (f:Nat→Int) (b o:Nat) (ty:TypeId) (x:Operand) (d:TypeDesc) (hw:Region.wanted o' (yielded ops a.tmps)=true)
 (ho:o'.op=.load ty x) (hx:a.eval x=.pointer (some ⟨b,o,none⟩)) (hu:P.underlying ty=some d) (hd:d.isRow=true) (hz:(P.info? ty).map (·.size)=some (row k n f).length) (hh:w.rangeAt b o (row k n f))
 (h:wpList P ops Q rest (a.put o'.dst (.agg (row k n f).toArray)) w):wpList P ops Q (o'::rest) a w:=by
 unfold wpList
 rw [if_pos hw]
 exact .inl (wp_load_mid ty x ho b o hx (row k n f) d hh hu hd hz h)
end
section
variable {P:Program} {ops:Array Oper} {Q:Exit→Act→World→Prop} {md:Region.Mode} {S:World→Prop}
theorem run_loadVar_cell (w:World) (b o:Nat) (ty:TypeId) (k:IntKind) (v:Value) (hc:w.cell? ⟨b,o,none⟩=some v) (hu:P.underlying ty=some (.int k)):(loadVar ty ⟨b,o,none⟩).run P w=.ok v w:=by
 have hagg:(isAgg ty).run P w=.ok false w:=by
  unfold isAgg
  rw [Sem.run_bind,run_underlying hu w]
  rfl
 simp [loadVar,Sem.run_bind,hagg,hc]
theorem cellH {i:Nat} {oi:Oper} (dst:Option Tmp) (hdst:oi.dst=dst) {fuel:Nat} {listed:Array Bool} {a:Act} {w:World} (k:IntKind) (v:Value) (b o:Nat) (ty:TypeId) (x:Operand) (hi:ops[i]?=some oi)
 (ho:oi.op=.load ty x) (hx:a.eval x=.pointer (some ⟨b,o,none⟩)) (hw:Region.wanted oi (yielded ops a.tmps)=true)
 (hs:Region.noSelect ops=true) (hf:Region.free md ops listed i=true) (hr:(Region.ready md ops listed).contains i=true)
 (hQ:∀ c a w,Q (.panic c) (a.put dst v) w→Q (.panic c) a w)
 (hu:P.underlying ty=some (.int k))
 (hS:S w) (hh:∀ w,S w→w.cell? ⟨b,o,none⟩=some v)
 (h:wpAnyH P md ops Q S fuel (listed.setIfInBounds i true) (a.put dst v) w):wpAnyH P md ops Q S (fuel+1) listed a w:=by
 subst hdst
 refine wpAnyH_take hi hs hf hr hQ (.inl ⟨hw,fun w hw'=>?_⟩) hS h
 unfold execOp
 simp only [ho,hx,Instr.loadAt,Instr.sureAddr,Sem.run_bind,Sem.run_pure,Result.andThen_ok,run_loadVar_cell w b o ty k v (hh w hw') hu]
theorem cellL {o':Oper} {rest:List Oper} {a:Act} {w:World} (k:IntKind) (v:Value) (b o:Nat) (ty:TypeId) (x:Operand) (hw:Region.wanted o' (yielded ops a.tmps)=true)
 (ho:o'.op=.load ty x) (hx:a.eval x=.pointer (some ⟨b,o,none⟩)) (hu:P.underlying ty=some (.int k)) (hh:w.cell? ⟨b,o,none⟩=some v)
 (h:wpList P ops Q rest (a.put o'.dst v) w):wpList P ops Q (o'::rest) a w:=by
 unfold wpList
 rw [if_pos hw]
 refine .inl ?_
 unfold Oper.wp execOp
 simp only [ho,hx,Instr.loadAt,Instr.sureAddr,Sem.run_bind,Sem.run_pure,Result.andThen_ok,run_loadVar_cell w b o ty k v hh hu]
 exact h
end
end
theorem below_drewN {B:Nat} {w w':World} (h:Below B w w') {n:Nat}:Below B w (w'.drewN n):=⟨h.os,h.tape,h.output,h.size,h.block⟩
def over (f:Nat→Int) (o m:Nat) (g:Nat→Int):Nat→Int:=fun j=>if o≤j∧j<o+m then g (j-o) else f j
theorem Has.part {w:World} {b:Nat} {k:IntKind} {n:Nat} {f:Nat→Int} (h:Has w b k n f) (o m:Nat) (ho:o+m≤n) (g:Nat→Int):Has (w.setCells b o (row k m g)) b k n (over f o m g):=by
 have ht:w.there b o m:=fun j hj=>by rw [h.cell (o+j) (by omega)]; exact ⟨rfl,h.free (o+j) (by omega)⟩
 refine ⟨fun j hj=>?_,fun j hj=>by rw [World.frozen?_setCells]; exact h.free j hj⟩
 unfold over
 by_cases e:o≤j∧j<o+m
 · rw [if_pos e]
   have:=World.rangeAt_setCells_same w b o (row k m g) (by rw [row_length]; exact ht) (j-o) _ (row_get k m g (j-o) (by omega))
   rw [show o+(j-o)=j by omega] at this
   exact this
 · rw [if_neg e]
   have hr:w.rangeAt b j [.int k (f j)]:=fun i v hv=>by
    rcases i with _ | i
    · obtain rfl:Value.int k (f j)=v:=by simpa using hv
      exact h.cell j hj
    · simp at hv
   exact World.rangeAt_setCells_apart hr b o (row k m g) (Or.inr (by rw [row_length]; simp only [List.length_cons,List.length_nil]; omega)) 0 _ rfl
theorem over_in {M:Int} {n o m:Nat} {f g:Nat→Int} (hf:In M n f) (hg:In M m g):In M n (over f o m g):=fun j hj=>by
 unfold over
 split
 · exact hg _ (by omega)
 · exact hf j hj
theorem val_split (M:Int) (f:Nat→Int) (n:Nat):∀ k,val M f (n+k)=val M f n+M^n*val M (fun j=>f (n+j)) k
 | 0=>by simp [val]
 | k+1=>by
   rw [← Nat.add_assoc]
   simp only [val]
   rw [val_split M f n k,Int.mul_add,← Int.mul_assoc,Int.pow_add]
   omega
theorem of_same (B o c:Nat) (x0 x1 x2 x3 x4 x5 x6 x7:Int) (h0:0≤x0∧x0<256) (h1:0≤x1∧x1<256) (h2:0≤x2∧x2<256) (h3:0≤x3∧x3<256) (h4:0≤x4∧x4<256) (h5:0≤x5∧x5<256) (h6:0≤x6∧x6<256) (h7:0≤x7∧x7<256) (w:World) (c0:w.cell? ⟨B,o,none⟩=some (.int .u8 x0)) (c1:w.cell? ⟨B,o+1,none⟩=some (.int .u8 x1)) (c2:w.cell? ⟨B,o+2,none⟩=some (.int .u8 x2)) (c3:w.cell? ⟨B,o+3,none⟩=some (.int .u8 x3)) (c4:w.cell? ⟨B,o+4,none⟩=some (.int .u8 x4)) (c5:w.cell? ⟨B,o+5,none⟩=some (.int .u8 x5)) (c6:w.cell? ⟨B,o+6,none⟩=some (.int .u8 x6)) (c7:w.cell? ⟨B,o+7,none⟩=some (.int .u8 x7)) :
 Calls Tryz.prog 112 #[.slice (some ⟨B,o,none⟩) 8 c] w fun e w'=>∃ q,e=.returned (.int .u64 (x0+x1*256+x2*65536+x3*16777216+x4*4294967296+x5*1099511627776+x6*281474976710656+x7*72057594037927936))∧w'=w.drewN q:=by
 have hg:=glued x0 x1 x2 x3 x4 x5 x6 x7 h0 h1 h2 h3 h4 h5 h6 h7; have HG:=show Hid _ from hg; clear hg h0 h1 h2 h3 h4 h5 h6 h7
 go_enter Tryz.func112,Tryz.ntmps112
 go_wp2
 go_quiet (fail)
 go_wp2; go_ret
 exact ⟨nq,by rw [HG.out]; rfl,rfl⟩
theorem of_raw (B o c:Nat) (x0 x1 x2 x3 x4 x5 x6 x7:Int) (h0:0≤x0∧x0<256) (h1:0≤x1∧x1<256) (h2:0≤x2∧x2<256) (h3:0≤x3∧x3<256) (h4:0≤x4∧x4<256) (h5:0≤x5∧x5<256) (h6:0≤x6∧x6<256) (h7:0≤x7∧x7<256) (w:World) (c0:w.cell? ⟨B,o,none⟩=some (.int .u8 x0)) (c1:w.cell? ⟨B,o+1,none⟩=some (.int .u8 x1)) (c2:w.cell? ⟨B,o+2,none⟩=some (.int .u8 x2)) (c3:w.cell? ⟨B,o+3,none⟩=some (.int .u8 x3)) (c4:w.cell? ⟨B,o+4,none⟩=some (.int .u8 x4)) (c5:w.cell? ⟨B,o+5,none⟩=some (.int .u8 x5)) (c6:w.cell? ⟨B,o+6,none⟩=some (.int .u8 x6)) (c7:w.cell? ⟨B,o+7,none⟩=some (.int .u8 x7)) :
 Calls Tryz.prog 112 #[.slice (some ⟨B,o,none⟩) 8 c] w fun e w'=>e=.returned (.int .u64 (x0+x1*256+x2*65536+x3*16777216+x4*4294967296+x5*1099511627776+x6*281474976710656+x7*72057594037927936))∧Below w.heap.size w w' :=
 (of_same B o c x0 x1 x2 x3 x4 x5 x6 x7 h0 h1 h2 h3 h4 h5 h6 h7 w c0 c1 c2 c3 c4 c5 c6 c7).mono fun _ _ ⟨_,he,hw⟩=>⟨he,by rw [hw]; exact (below_drewN (Below.refl _ _))⟩
theorem put_raw (B o c:Nat) (x:Int) (y0 y1 y2 y3 y4 y5 y6 y7:Int) (w:World) (c0:w.cell? ⟨B,o,none⟩=some (.int .u8 y0)) (f0:w.frozen? ⟨B,o,none⟩=false) (c1:w.cell? ⟨B,o+1,none⟩=some (.int .u8 y1)) (f1:w.frozen? ⟨B,o+1,none⟩=false) (c2:w.cell? ⟨B,o+2,none⟩=some (.int .u8 y2)) (f2:w.frozen? ⟨B,o+2,none⟩=false) (c3:w.cell? ⟨B,o+3,none⟩=some (.int .u8 y3)) (f3:w.frozen? ⟨B,o+3,none⟩=false) (c4:w.cell? ⟨B,o+4,none⟩=some (.int .u8 y4)) (f4:w.frozen? ⟨B,o+4,none⟩=false) (c5:w.cell? ⟨B,o+5,none⟩=some (.int .u8 y5)) (f5:w.frozen? ⟨B,o+5,none⟩=false) (c6:w.cell? ⟨B,o+6,none⟩=some (.int .u8 y6)) (f6:w.frozen? ⟨B,o+6,none⟩=false) (c7:w.cell? ⟨B,o+7,none⟩=some (.int .u8 y7)) (f7:w.frozen? ⟨B,o+7,none⟩=false) :
 Calls Tryz.prog 109 #[.slice (some ⟨B,o,none⟩) 8 c,.int .u64 x] w fun e w'=>e=.returned (.tuple #[])∧w'=((((((((w.setCell ⟨B,o,none⟩ (.int .u8 (x%256))).setCell ⟨B,o+1,none⟩ (.int .u8 (x/256%256))).setCell ⟨B,o+2,none⟩ (.int .u8 (x/65536%256))).setCell ⟨B,o+3,none⟩ (.int .u8 (x/16777216%256))).setCell ⟨B,o+4,none⟩ (.int .u8 (x/4294967296%256))).setCell ⟨B,o+5,none⟩ (.int .u8 (x/1099511627776%256))).setCell ⟨B,o+6,none⟩ (.int .u8 (x/281474976710656%256))).setCell ⟨B,o+7,none⟩ (.int .u8 (x/72057594037927936%256))):=by
 go_enter Tryz.func109,Tryz.ntmps109
 go_wp2
 go_end0
 exact ⟨rfl,rfl⟩
def byt (x:Int):Nat→Int
 | 0=>x%256
 | 1=>x/256%256
 | 2=>x/65536%256
 | 3=>x/16777216%256
 | 4=>x/4294967296%256
 | 5=>x/1099511627776%256
 | 6=>x/281474976710656%256
 | 7=>x/72057594037927936%256
 | _+8=>0
theorem byt_in (x:Int):In 256 8 (byt x)
 | 0,_=>by show 0≤x%256∧x%256<256; omega
 | 1,_=>by show 0≤x/256%256∧x/256%256<256; omega
 | 2,_=>by show 0≤x/65536%256∧x/65536%256<256; omega
 | 3,_=>by show 0≤x/16777216%256∧x/16777216%256<256; omega
 | 4,_=>by show 0≤x/4294967296%256∧x/4294967296%256<256; omega
 | 5,_=>by show 0≤x/1099511627776%256∧x/1099511627776%256<256; omega
 | 6,_=>by show 0≤x/281474976710656%256∧x/281474976710656%256<256; omega
 | 7,_=>by show 0≤x/72057594037927936%256∧x/72057594037927936%256<256; omega
 | _+8,h=>by omega
theorem val_byt (x:Int) (h0:0≤x) (h1:x<W):val 256 (byt x) 8=x:=by
 simp only [W] at h1
 have h:=bytes_of x h0 h1; simp only [val,byt]
 omega
theorem word8 (a:Nat→Int) (o:Nat):val 256 (fun j=>a (o+j)) 8=a o+a (o+1)*256+a (o+2)*65536+a (o+3)*16777216+a (o+4)*4294967296+a (o+5)*1099511627776+a (o+6)*281474976710656+a (o+7)*72057594037927936:=by
 simp only [val,Nat.add_zero]
 omega
theorem of_any (B o n c:Nat) (a:Nat→Int) (ho:o+8≤n) (ha:In 256 n a) (w:World) (h:Has w B .u8 n a) :
 Calls Tryz.prog 112 #[.slice (some ⟨B,o,none⟩) 8 c] w fun e w'=>e=.returned (.int .u64 (val 256 (fun j=>a (o+j)) 8))∧Below w.heap.size w w':=by
 rw [word8]
 exact of_raw B o c _ _ _ _ _ _ _ _ (ha o (by omega)) (ha (o+1) (by omega)) (ha (o+2) (by omega)) (ha (o+3) (by omega)) (ha (o+4) (by omega)) (ha (o+5) (by omega)) (ha (o+6) (by omega)) (ha (o+7) (by omega)) w
  (h.cell o (by omega)) (h.cell (o+1) (by omega)) (h.cell (o+2) (by omega)) (h.cell (o+3) (by omega)) (h.cell (o+4) (by omega)) (h.cell (o+5) (by omega)) (h.cell (o+6) (by omega)) (h.cell (o+7) (by omega))
theorem of_quiet (B o n c:Nat) (a:Nat→Int) (ho:o+8≤n) (ha:In 256 n a) (w:World) (h:Has w B .u8 n a) :
 Calls Tryz.prog 112 #[.slice (some ⟨B,o,none⟩) 8 c] w fun e w'=>∃ q,e=.returned (.int .u64 (val 256 (fun j=>a (o+j)) 8))∧w'=w.drewN q:=by
 rw [word8]
 exact of_same B o c _ _ _ _ _ _ _ _ (ha o (by omega)) (ha (o+1) (by omega)) (ha (o+2) (by omega)) (ha (o+3) (by omega)) (ha (o+4) (by omega)) (ha (o+5) (by omega)) (ha (o+6) (by omega)) (ha (o+7) (by omega)) w
  (h.cell o (by omega)) (h.cell (o+1) (by omega)) (h.cell (o+2) (by omega)) (h.cell (o+3) (by omega)) (h.cell (o+4) (by omega)) (h.cell (o+5) (by omega)) (h.cell (o+6) (by omega)) (h.cell (o+7) (by omega))
theorem put_any (B o n c:Nat) (g:Nat→Int) (x:Int) (ho:o+8≤n) (w:World) (h:Has w B .u8 n g) :
 Calls Tryz.prog 109 #[.slice (some ⟨B,o,none⟩) 8 c,.int .u64 x] w fun e w'=>e=.returned (.tuple #[])∧w'=w.setCells B o (row .u8 8 (byt x)) :=
 put_raw B o c x _ _ _ _ _ _ _ _ w (h.cell o (by omega)) (h.free o (by omega)) (h.cell (o+1) (by omega)) (h.free (o+1) (by omega)) (h.cell (o+2) (by omega)) (h.free (o+2) (by omega)) (h.cell (o+3) (by omega)) (h.free (o+3) (by omega)) (h.cell (o+4) (by omega)) (h.free (o+4) (by omega)) (h.cell (o+5) (by omega)) (h.free (o+5) (by omega)) (h.cell (o+6) (by omega)) (h.free (o+6) (by omega)) (h.cell (o+7) (by omega)) (h.free (o+7) (by omega))
theorem big_info (f:Nat→Int):(Tryz.prog.info? 160).map (·.size)=some (row .u8 17 f).length:=by rw [row_length]; kernel_rfl
theorem big_info' (f:Nat→Int):(Tryz.prog.info? 160).map (·.size)=some (row .u8 17 f).toArray.size:=by rw [List.size_toArray]; exact big_info f
theorem big_there {w:World} {b:Nat} {f g:Nat→Int} (h:Has w b .u8 17 f):w.there b 0 (row .u8 17 g).toArray.size:=by rw [List.size_toArray,row_length]; exact h.there
theorem big_zero (w:World) (t:TypeId) (b:Nat) (hb:b=w.heap.size):Has (w.alloc (.cells zu8_17 t)) b .u8 17 (fun _=>0):=Has.new w .u8 17 (fun _=>0) t b hb
theorem big_val (f:Nat→Int):val 256 f 17=val 256 f 8+18446744073709551616*val 256 (fun j=>f (8+j)) 8+340282366920938463463374607431768211456*f 16:=by
 have e1:val 256 f 17=val 256 f 16+256^16*f 16:=rfl
 have e2:=val_split 256 f 8 8
 rw [show (8+8:Nat)=16 from rfl] at e2
 rw [e1,e2,show (256:Int)^8=18446744073709551616 from by decide,show (256:Int)^16=340282366920938463463374607431768211456 from by decide]
theorem words_in (a:Nat→Int) (ha:In 256 17 a) (o:Nat) (ho:o+8≤17):0≤val 256 (fun j=>a (o+j)) 8∧val 256 (fun j=>a (o+j)) 8<W :=
 val_in 256 (by decide) (fun j=>a (o+j)) 8 (fun j hj=>ha (o+j) (by omega))
theorem wrap_byte (x:Int) (h:0≤x∧x<256):IntKind.u64.wrap x=x:=by rw [IntKind.wrap_u64]; omega
theorem split_any (a:Nat→Int) (ha:In 256 17 a) (w:World) :
 Calls Tryz.prog 175 #[(.agg (row .u8 17 (a)).toArray)] w fun e w'=>∃ n:Nat→Int,e=.returned (.agg (row .u64 3 (n)).toArray)∧(In W 3 n∧n 2<256∧val W n 3=val 256 a 17)∧Below w.heap.size w w':=by
 have K:=Kr.init w; replace K:=K.box .u8 17 a 160 w.heap.size rfl; replace K:=K.make 3 #[.int .u64 0,.int .u64 0,.int .u64 0] 192 (w.heap.size+1) (by simp) (cnum_zero _ _ _ (by simp)).there
 go_enter Tryz.func175,Tryz.ntmps175
 go_upto_region 1 with fail; refine wp_region_held_drew (S:=fun w'=>Kr w _ [(w.heap.size,.u8,17,a)] [(w.heap.size+1,3)] w') (by kernel_rfl) K.drew ?_; clear K; intro K; refine xpH 0 3 (.slice (some ⟨w.heap.size,0,none⟩) 8 17) K ?_; refine xpH 2 5 (.slice (some ⟨w.heap.size,8,none⟩) 8 9) K ?_; refine xpH 4 7 (.pointer (some ⟨w.heap.size,16,none⟩)) K ?_
 refine cellH (i:=5) (some 8) rfl .u8 (.int .u8 (a 16)) w.heap.size 16 5 _ rfl rfl rfl rfl (by kernel_rfl) (by kernel_rfl) (by kernel_rfl) (fun _ _ _ h=>h) Tryz.underlying5 K (fun _ h=>(h.get _ _ _ _ mS).cell 16 (by omega)) ?_; simp only [aP,lI,l0,lS]; refine xpH 6 9 (.int .u64 (IntKind.u64.wrap (a 16))) K ?_
 rw [wrap_byte (a 16) (ha 16 (by omega))]
 refine callH (i:=1) (some 4) rfl (by kernel_rfl) rfl rfl (fun _=>by kernel_rfl) (of_any w.heap.size 0 17 17 a (by omega) ha _ (K.get _ _ _ _ mS)) ?_; rintro e w1 ⟨rfl,l⟩; replace K:=K.call l; clear l
 refine ⟨_,rfl,K,?_⟩
 simp only [aP,lI,l0,lS]; refine callH (i:=3) (some 6) rfl (by kernel_rfl) rfl rfl (fun _=>by kernel_rfl) (of_any w.heap.size 8 17 9 a (by omega) ha _ (K.get _ _ _ _ mS)) ?_; rintro e w2 ⟨rfl,l⟩; replace K:=K.call l; clear l
 refine ⟨_,rfl,K,?_⟩
 simp only [aP,lI,l0,lS]; have i0:=words_in a ha 0 (by omega); have i1:=words_in a ha 8 (by omega); have i2:=ha 16 (by omega); have hv:=big_val a
 have e0:val 256 (fun j=>a (0+j)) 8=val 256 a 8:=val_congr 256 8 fun j _=>by rw [Nat.zero_add]
 rw [e0] at i0 ⊢
 generalize val 256 a 8=x at *; generalize val 256 (fun j=>a (8+j)) 8=y at *; generalize a 16=z at *; have HE:=show Hid (In W 3 (tri x y z)∧tri x y z 2<256∧val W (tri x y z) 3=val 256 a 17) from ⟨tri_in i0 i1 (by simp only [W]; omega),i2.2,by rw [tri_val,hv]⟩; clear i0 i1 i2 hv e0; refine xpH 7 10 (.agg (row .u64 3 (tri x y z)).toArray) K ?_
 refine storesH (i:=8) none rfl .u64 3 (tri x y z) (w.heap.size+1) 192 _ _ (by kernel_rfl) rfl rfl rfl rfl rfl (K.roomy _ _ _ _ mS) (cnum_info' _) (K.fill _ _ mS _) ?_
 refine wpAnyH_done (by kernel_rfl) ?_ _
 have hz:=(K.room _ mS).1; have hB:=(K.fill _ _ mS (row .u64 3 (tri x y z))).below; clear K; go_wp2
 exact bodyPost_ret (v:=(.agg (row .u64 3 (tri x y z)).toArray)) (results_row Tryz.results175 rfl (Has.all hz .u64 _).range Tryz.underlying192 rfl (cnum_info _)) rfl ⟨_,rfl,HE.out,hB⟩
def joinB (n:Nat→Int):Nat→Int:=upd (over (over (fun _=>0) 0 8 (byt (n 0))) 8 8 (byt (n 1))) 16 (n 2%256)
theorem joinB_in (n:Nat→Int):In 256 17 (joinB n):=(over_in (over_in (fun _ _=>⟨Int.le_refl 0,(by decide:(0:Int)<256)⟩) (byt_in _)) (byt_in _)).upd 16 _ (by omega) (by omega)
theorem joinB_val (n:Nat→Int) (hn:In W 3 n):val 256 (joinB n) 17=val W n 3%87112285931760246646623899502532662132736:=by
 have h0:=hn 0 (by omega); have h1:=hn 1 (by omega); have h2:=hn 2 (by omega); have b0:=val_byt (n 0) h0.1 h0.2; have b1:=val_byt (n 1) h1.1 h1.2
 have e0:val 256 (joinB n) 8=n 0:=by
  rw [← b0]
  refine val_congr 256 8 fun j hj=>?_
  unfold joinB
  rw [upd_other _ _ _ _ (by omega)]
  unfold over
  rw [if_neg (by omega),if_pos (by omega),Nat.sub_zero]
 have e1:val 256 (fun j=>joinB n (8+j)) 8=n 1:=by
  rw [← b1]
  refine val_congr 256 8 fun j hj=>?_
  unfold joinB
  rw [upd_other _ _ _ _ (by omega)]
  unfold over
  rw [if_pos (by omega),Nat.add_sub_cancel_left]
 have e2:joinB n 16=n 2%256:=by unfold joinB; rw [upd_same]
 rw [big_val,e0,e1,e2,v3]
 simp only [W] at *
 omega
theorem join_any (n:Nat→Int) (w:World) :
 Calls Tryz.prog 176 #[(.agg (row .u64 3 (n)).toArray)] w fun e w'=>e=.returned (.agg (row .u8 17 (joinB n)).toArray)∧Below w.heap.size w w':=by
 have K:=Kr.init w; replace K:=K.box .u64 3 n 192 w.heap.size rfl; replace K:=K.make 17 zu8_17 160 (w.heap.size+1) (by simp) (big_zero _ _ _ (by simp)).there
 go_enter Tryz.func176,Tryz.ntmps176
 go_upto_region 1 with fail; generalize ((w.alloc (.cells (row .u64 3 n).toArray 192)).alloc (.cells zu8_17 160))=w1 at K ⊢; have s1:=K.size; have H:=big_zero w1 160 w1.heap.size rfl; replace K:=K.make 17 zu8_17 160 w1.heap.size rfl H.there; go_upto_region 2 with fail; generalize w1.alloc (.cells zu8_17 160)=w2 at K H ⊢; generalize w1.heap.size=O at *; clear w1
 refine wp_region_held_drew (S:=fun w'=>Kr w _ [(w.heap.size,.u64,3,n)] [(O,17),(w.heap.size+1,17)] w') (by kernel_rfl) K.drew ?_; clear K; intro K; replace H:=H.drew; refine xpH 0 4 (.slice (some ⟨O,0,none⟩) 8 17) K ?_; refine xpH 1 5 (.pointer (some ⟨w.heap.size,0,none⟩)) K ?_
 refine cellH (i:=2) (some 6) rfl .u64 (.int .u64 (n 0)) w.heap.size 0 58 _ rfl rfl rfl rfl (by kernel_rfl) (by kernel_rfl) (by kernel_rfl) (fun _ _ _ h=>h) Tryz.underlying58 K (fun _ h=>(h.get _ _ _ _ mS).cell 0 (by omega)) ?_; simp only [aP,lI,l0,lS]; refine callH (i:=3) (some 7) rfl (by kernel_rfl) rfl rfl (fun _=>by kernel_rfl) (put_any O 0 17 17 _ (n 0) (by omega) _ H) ?_
 rintro e w' ⟨rfl,rfl⟩; replace K:=K.poke O 17 mS 0 (row .u8 8 (byt (n 0))); replace H:=H.part 0 8 (by omega) (byt (n 0))
 refine ⟨_,rfl,K,?_⟩
 simp only [aP,lI,l0,lS]
 refine wpAnyH_done (by kernel_rfl) ?_ _
 generalize (w2.drew.setCells O 0 (row .u8 8 (byt (n 0))))=w3 at K H ⊢; go_upto_region 3 with fail; refine wp_region_held_drew (S:=fun w'=>Kr w _ [(w.heap.size,.u64,3,n)] [(O,17),(w.heap.size+1,17)] w') (by kernel_rfl) K.drew ?_; clear K; intro K; replace H:=H.drew; refine xpH 0 8 (.slice (some ⟨O,8,none⟩) 8 9) K ?_; refine xpH 1 9 (.pointer (some ⟨w.heap.size,1,none⟩)) K ?_
 refine cellH (i:=2) (some 10) rfl .u64 (.int .u64 (n 1)) w.heap.size 1 58 _ rfl rfl rfl rfl (by kernel_rfl) (by kernel_rfl) (by kernel_rfl) (fun _ _ _ h=>h) Tryz.underlying58 K (fun _ h=>(h.get _ _ _ _ mS).cell 1 (by omega)) ?_; simp only [aP,lI,l0,lS]; refine callH (i:=3) (some 11) rfl (by kernel_rfl) rfl rfl (fun _=>by kernel_rfl) (put_any O 8 17 9 _ (n 1) (by omega) _ H) ?_
 rintro e w' ⟨rfl,rfl⟩; replace K:=K.poke O 17 mS 8 (row .u8 8 (byt (n 1))); replace H:=H.part 8 8 (by omega) (byt (n 1))
 refine ⟨_,rfl,K,?_⟩
 simp only [aP,lI,l0,lS]
 refine wpAnyH_done (by kernel_rfl) ?_ _
 generalize (w3.drew.setCells O 8 (row .u8 8 (byt (n 1))))=w4 at K H ⊢; go_upto_region 4 with fail; have c2:=(K.get _ _ _ _ mS).cell 2 (by omega); have d2:=H.cell 16 (by omega); have f2:=H.free 16 (by omega); have H2:=H.set 16 (by omega) (n 2%256); replace K:=K.poke O 17 mS 16 [.int .u8 (n 2%256)]
 have K2:Kr w _ [(w.heap.size,.u64,3,n)] [(O,17),(w.heap.size+1,17)] (w4.setCell ⟨O,16,none⟩ (.int .u8 (n 2%256))):=K
 clear K H; go_upto_region 5 with fail
 have H:Has (w4.setCell ⟨O,16,none⟩ (.int .u8 (n 2%256))) O .u8 17 (joinB n):=H2
 clear H2; generalize w4.setCell ⟨O,16,none⟩ (.int .u8 (n 2%256))=w5 at K2 H ⊢; clear c2 d2 f2; have hz:=(K2.room _ (mT _ mS)).1; have hB:=(K2.fill _ _ (mT _ mS) (row .u8 17 (joinB n))).below; clear K2; generalize hf:joinB n=f at *
 go_wp2_with (first | (refine wpList_load_mid rfl 160 _ rfl (O) 0 rfl (row .u8 17 (f)) _ (Has.range (H)) Tryz.underlying160 rfl (big_info _) ?_) | (refine wpList_store_mid rfl 160 _ _ rfl (w.heap.size+1) 0 (row .u8 17 f).toArray rfl rfl (room_of hz) (big_info' _) (all_oneCell_toArray (row_one _ _ _)) ?_))
 exact bodyPost_ret (v:=(.agg (row .u8 17 (f)).toArray)) (results_row Tryz.results176 rfl (Has.all hz .u8 f).range Tryz.underlying160 rfl (big_info f)) rfl ⟨rfl,hB⟩
theorem cwid_info (f:Nat→Int):(Tryz.prog.info? 196).map (·.size)=some (row .u64 6 f).length:=by rw [row_length]; kernel_rfl
theorem mask4 (a:Nat) (ha:a<2^64):a &&& 18446744073709551612=a-a%4:=by
 have e1:(18446744073709551612:Nat)=(2^62-1) <<< 2:=by decide
 have e2:a-a%4=(a >>> 2) <<< 2:=by rw [Nat.shiftLeft_eq,Nat.shiftRight_eq_div_pow]; omega
 rw [e1,e2]
 refine Nat.eq_of_testBit_eq fun i=>?_
 rw [Nat.testBit_and,Nat.testBit_shiftLeft,Nat.testBit_shiftLeft,Nat.testBit_shiftRight,Nat.testBit_two_pow_sub_one]
 by_cases h:2≤i
 · rw [show 2+(i-2)=i by omega]
   by_cases h2:i<64
   · rw [decide_eq_true (show i-2<62 by omega)]; simp [h]
   · rw [Nat.testBit_lt_two_pow (xnL ha (Nat.pow_le_pow_right (by decide) (by omega)))]; simp
 · simp [h]
theorem andnot3 (x:Int) (h0:0≤x) (h1:x<W):bits BinOp.andNot IntKind.u64 x 3=x-x%4:=by
 simp only [W] at h1
 obtain ⟨x,rfl⟩:=xiN h0
 have h:=mask4 x (by omega)
 rw [show (3:Int)=((3:Nat):Int) from rfl,u64_andNot_nat x 3 (by omega) (by omega),show (18446744073709551615-3:Nat)=18446744073709551612 from rfl,h]
 omega
theorem or62 (x y:Int) (hx:0≤x) (hx':x<W) (hy:0≤y):bits BinOp.or IntKind.u64 (x/4) (IntKind.u64.wrap (y*4611686018427387904))=x/4+y%4*4611686018427387904:=by
 have hx2:=hx'
 simp only [W] at hx2
 obtain ⟨x,rfl⟩:=xiN hx
 obtain ⟨y,rfl⟩:=xiN hy
 have e1:IntKind.u64.wrap ((y:Int)*4611686018427387904)=((2^62*(y%4):Nat):Int):=by rw [IntKind.wrap_u64]; omega
 have e2:(x:Int)/4=((x/4:Nat):Int):=by omega
 have h:=Nat.two_pow_add_eq_or_of_lt (i:=62) (b:=x/4) (by omega) (y%4)
 rw [e1,e2,u64_or_nat (x/4) (2^62*(y%4)) (by omega) (by omega),Nat.or_comm,← h]
 omega
theorem lower_any (d:Nat→Int) (hd:In W 6 d) (hv:val W d 6≤FB*FB) (w:World) :
 Calls Tryz.prog 178 #[(.agg (row .u64 6 (d)).toArray)] w fun e w'=>∃ m:Nat→Int,e=.returned (.agg (row .u64 3 (m)).toArray)∧(Folded m∧val W m 3%Q=val W d 6%Q)∧Below w.heap.size w w':=by
 have hL:=lower_math hd hv; have i0:=hd 0 (by omega); have i1:=hd 1 (by omega); have i2:=hd 2 (by omega); have i3:=hd 3 (by omega); have i4:=hd 4 (by omega); have a2:=and3 (d 2) i2.1 i2.2; have n2:=andnot3 (d 2) i2.1 i2.2; have o2:=or62 (d 2) (d 3) i2.1 i2.2 i3.1; have o3:=or62 (d 3) (d 4) i3.1 i3.2 i4.1
 have HI:=show Hid _ from And.intro i0 (And.intro i1 (And.intro i2 (And.intro i3 i4))); have HL:=show Hid _ from hL; have K:=Kr.init w; replace K:=K.box .u64 6 d 196 w.heap.size rfl; replace K:=K.make 3 #[.int .u64 0,.int .u64 0,.int .u64 0] 192 (w.heap.size+1) (by simp) (cnum_zero _ _ _ (by simp)).there; clear hL i0 i1 i2 i3 i4 hd hv
 go_enter Tryz.func178,Tryz.ntmps178
 go_upto_region 1 with fail; generalize ((w.alloc (.cells (row .u64 6 d).toArray 196)).alloc (.cells #[.int .u64 0,.int .u64 0,.int .u64 0] 192))=w1 at K ⊢; have c0:=(K.get _ _ _ _ mS).cell 0 (by omega); have c1:=(K.get _ _ _ _ mS).cell 1 (by omega); have c2:=(K.get _ _ _ _ mS).cell 2 (by omega); have c3:=(K.get _ _ _ _ mS).cell 3 (by omega)
 have c4:=(K.get _ _ _ _ mS).cell 4 (by omega); have z:=cnum_zero w1 192 w1.heap.size rfl; have s1:=K.size
 go_upto_region 2 with (refine wpList_store_mid rfl 192 _ _ rfl (w1.heap.size) 0 (row .u64 3 (tri (d 0) (d 1) (d 2%4))).toArray rfl rfl (cnum_there (z)) (cnum_info' _) (all_oneCell_toArray (row_one _ _ _)) ?_)
 replace K:=K.fresh .u64 3 (tri (d 0) (d 1) (d 2%4)) #[.int .u64 0,.int .u64 0,.int .u64 0] 192 z.there; clear c0 c1 c2 c3 c4 z; generalize ((w1.alloc (.cells #[.int .u64 0,.int .u64 0,.int .u64 0] 192)).setCells w1.heap.size 0 (row .u64 3 (tri (d 0) (d 1) (d 2%4))))=w2 at K ⊢; generalize w1.heap.size=B1 at *; clear w1; have c0:=(K.get _ _ _ _ (mT _ mS)).cell 0 (by omega)
 have c1:=(K.get _ _ _ _ (mT _ mS)).cell 1 (by omega); have c2:=(K.get _ _ _ _ (mT _ mS)).cell 2 (by omega); have c3:=(K.get _ _ _ _ (mT _ mS)).cell 3 (by omega); have c4:=(K.get _ _ _ _ (mT _ mS)).cell 4 (by omega); have z:=cnum_zero w2 192 w2.heap.size rfl; have s2:=K.size
 go_upto_region 3 with (refine wpList_store_mid rfl 192 _ _ rfl (w2.heap.size) 0 (row .u64 3 (tri (d 2-d 2%4) (d 3) (d 4))).toArray rfl rfl (cnum_there (z)) (cnum_info' _) (all_oneCell_toArray (row_one _ _ _)) ?_)
 replace K:=K.fresh .u64 3 (tri (d 2-d 2%4) (d 3) (d 4)) #[.int .u64 0,.int .u64 0,.int .u64 0] 192 z.there; clear c0 c1 c2 c3 c4 z; generalize ((w2.alloc (.cells #[.int .u64 0,.int .u64 0,.int .u64 0] 192)).setCells w2.heap.size 0 (row .u64 3 (tri (d 2-d 2%4) (d 3) (d 4))))=w3 at K ⊢; generalize w2.heap.size=B2 at *; clear w2
 have c0:=(K.get _ _ _ _ (mI 2 rfl)).cell 0 (by omega); have c1:=(K.get _ _ _ _ (mI 2 rfl)).cell 1 (by omega); have c2:=(K.get _ _ _ _ (mI 2 rfl)).cell 2 (by omega); have c3:=(K.get _ _ _ _ (mI 2 rfl)).cell 3 (by omega); have c4:=(K.get _ _ _ _ (mI 2 rfl)).cell 4 (by omega); have z:=cnum_zero w3 192 w3.heap.size rfl; have s3:=K.size
 go_upto_region 4 with (refine wpList_store_mid rfl 192 _ _ rfl (w3.heap.size) 0 (row .u64 3 (tri (d 2/4+d 3%4*4611686018427387904) (d 3/4+d 4%4*4611686018427387904) (d 4/4))).toArray rfl rfl (cnum_there (z)) (cnum_info' _) (all_oneCell_toArray (row_one _ _ _)) ?_)
 replace K:=K.fresh .u64 3 (tri (d 2/4+d 3%4*4611686018427387904) (d 3/4+d 4%4*4611686018427387904) (d 4/4)) #[.int .u64 0,.int .u64 0,.int .u64 0] 192 z.there; clear c0 c1 c2 c3 c4 z
 generalize ((w3.alloc (.cells #[.int .u64 0,.int .u64 0,.int .u64 0] 192)).setCells w3.heap.size 0 (row .u64 3 (tri (d 2/4+d 3%4*4611686018427387904) (d 3/4+d 4%4*4611686018427387904) (d 4/4))))=w4 at K ⊢; generalize w3.heap.size=B3 at *; clear w3; clear a2 n2 o2 o3
 obtain ⟨⟨_,k4,k5⟩,l1,l2,l3,hE⟩:=HL.out
 obtain ⟨i0,i1,i2,i3,i4⟩:=HI.out
 have iA:In W 3 (tri (d 0) (d 1) (d 2%4)):=tri_in i0 i1 (by simp only [W]; omega)
 have iB:In W 3 (tri (d 2-d 2%4) (d 3) (d 4)):=tri_in (by simp only [W] at *; omega) i3 (by simp only [W]; omega)
 have iC:In W 3 (tri (d 2/4+d 3%4*4611686018427387904) (d 3/4+d 4%4*4611686018427387904) (d 4/4)):=tri_in (by simp only [W] at *; omega) (by simp only [W] at *; omega) (by simp only [W]; omega)
 clear HL HI k4 k5 i0 i1 i2 i3 i4; generalize tri (d 2/4+d 3%4*4611686018427387904) (d 3/4+d 4%4*4611686018427387904) (d 4/4)=c at *; generalize tri (d 2-d 2%4) (d 3) (d 4)=b at *; generalize tri (d 0) (d 1) (d 2%4)=a at *
 refine wp_region_held_drew (S:=fun w'=>Kr w _ [(B3,.u64,3,c),(B2,.u64,3,b),(B1,.u64,3,a),(w.heap.size,.u64,6,d)] [(w.heap.size+1,3)] w') (by kernel_rfl) K.drew ?_; clear K; intro K
 refine rowKH (i:=0) (some 40) rfl .u64 3 a B1 0 192 _ _ rfl rfl rfl rfl (by kernel_rfl) (by kernel_rfl) (by kernel_rfl) (fun _ _ _ h=>h) Tryz.underlying192 rfl (cnum_info _) K (fun _ h=>(h.get _ _ _ _ (mI 2 rfl)).range) ?_; simp only [Act.put,List.setIfInBounds_toArray,List.set_cons_zero,List.set_cons_succ]
 refine rowKH (i:=1) (some 41) rfl .u64 3 b B2 0 192 _ _ rfl rfl rfl rfl (by kernel_rfl) (by kernel_rfl) (by kernel_rfl) (fun _ _ _ h=>h) Tryz.underlying192 rfl (cnum_info _) K (fun _ h=>(h.get _ _ _ _ (mT _ mS)).range) ?_; simp only [Act.put,List.setIfInBounds_toArray,List.set_cons_zero,List.set_cons_succ]
 refine rowKH (i:=3) (some 43) rfl .u64 3 c B3 0 192 _ _ rfl rfl rfl rfl (by kernel_rfl) (by kernel_rfl) (by kernel_rfl) (fun _ _ _ h=>h) Tryz.underlying192 rfl (cnum_info _) K (fun _ h=>(h.get _ _ _ _ mS).range) ?_; simp only [Act.put,List.setIfInBounds_toArray,List.set_cons_zero,List.set_cons_succ]
 refine callH (i:=2) (some 42) rfl (by kernel_rfl) rfl rfl (fun _=>by kernel_rfl) (plus_any a b iA iB (by rw [W3]; omega) _) ?_; rintro e w5 ⟨m1,rfl,t1,l⟩; replace K:=K.call l; clear l
 refine ⟨_,rfl,K,?_⟩
 simp only [Act.put,List.setIfInBounds_toArray,List.set_cons_zero,List.set_cons_succ]; refine callH (i:=4) (some 44) rfl (by kernel_rfl) rfl rfl (fun _=>by kernel_rfl) (plus_any m1 c t1.1 iC (by rw [W3]; omega) _) ?_; rintro e w6 ⟨m2,rfl,t2,l⟩; replace K:=K.call l; clear l
 refine ⟨_,rfl,K,?_⟩
 simp only [Act.put,List.setIfInBounds_toArray,List.set_cons_zero,List.set_cons_succ]
 refine callH (i:=5) (some 45) rfl (by kernel_rfl) rfl rfl (fun _=>by kernel_rfl) (cfold_any m2 t2.1 (by
  have v:=v3 m2; have p0:=t2.1 0 (by omega); have p1:=t2.1 1 (by omega); have e1:=t1.2; have e2:=t2.2; generalize m2 0=x0 at *; generalize m2 1=x1 at *; generalize m2 2=x2 at *
  omega) _) ?_
 rintro e w7 ⟨m,rfl,t3,l⟩; replace K:=K.call l; clear l
 refine ⟨_,rfl,K,?_⟩
 simp only [Act.put,List.setIfInBounds_toArray,List.set_cons_zero,List.set_cons_succ]; refine storesH (i:=6) none rfl .u64 3 m (w.heap.size+1) 192 _ _ (by kernel_rfl) rfl rfl rfl rfl rfl (K.roomy _ _ _ _ mS) (cnum_info' _) (K.fill _ _ mS _) ?_
 refine wpAnyH_done (by kernel_rfl) ?_ _
 have HE:=show Hid _ from (And.intro t3.1 (show val W m 3%Q=val W d 6%Q by rw [t3.2,t2.2,t1.2,hE])); have hz:=(K.room _ mS).1; have hB:=(K.fill _ _ mS (row .u64 3 m)).below; clear t1 t2 t3 hE K; go_wp2
 exact bodyPost_ret (v:=(.agg (row .u64 3 (m)).toArray)) (results_row Tryz.results178 rfl (Has.all hz .u64 m).range Tryz.underlying192 rfl (cnum_info m)) rfl ⟨m,rfl,HE.out,hB⟩
theorem val_succ (M:Int) (f:Nat→Int) (n:Nat):val M f (n+1)=val M f n+M^n*f n:=rfl
theorem val_upd_in (M:Int) (f:Nat→Int) (i:Nat) (x:Int):∀ n,i<n→val M (upd f i x) n=val M f n+(M^i*x-M^i*f i)
 | 0,h=>by omega
 | n+1,h=>by
   simp only [val]
   by_cases e:i=n
   · subst e; rw [val_upd _ _ _ _ _ (xnR i),upd_same]; omega
   · rw [val_upd_in M f i x n (by omega),upd_other _ _ _ _ (by omega)]; omega
structure RInv (a b:Nat→Int) (w:World) (k j:Nat) (d:Nat→Int) (cv:Int) (w':World):Prop where
 c0:0≤cv
 c1:cv<W
 inn:In W 6 d
 zero:∀ t,3+k≤t→d t=0
 eq:val W d (3+k)+W^(k+j)*cv=val W a k*val W b 3+W^k*a k*val W b j
 ha:Has w' w.heap.size .u64 3 a
 hb:Has w' (w.heap.size+1) .u64 3 b
 hr:Has w' (w.heap.size+1+1) .u64 3 (fun _=>0)
 hd:Has w' (w.heap.size+1+1+1) .u64 6 d
 fr:Fr w 4 w'
theorem RInv.step {a b:Nat→Int} {w:World} {k j:Nat} {d:Nat→Int} {cv h l:Int} {w':World} (hI:RInv a b w k j d cv w') (hk:k<3) (hj:j<3) (hs:Steps (a k) (b j) (d (k+j)) cv h l) :
 RInv a b w k (j+1) (upd d (k+j) l) h ((w'.setCell ⟨w.heap.size+1+1+1,k+j,none⟩ (.int .u64 l)).drew):=by
 obtain ⟨s0,s1,s2,s3,s4⟩:=hs
 refine ⟨s0,s1,hI.inn.upd _ l s2 s3,fun t ht=>?_,?_,(hI.ha.set_other _ _ (by simp; omega)).drew,(hI.hb.set_other _ _ (by simp; omega)).drew,(hI.hr.set_other _ _ (by simp)).drew,(hI.hd.set _ (by omega) _).drew,(hI.fr.set _ _ (by simp; omega)).drew⟩
 · rw [upd_other _ _ _ _ (by omega)]; exact hI.zero t ht
 · rw [val_upd_in _ _ _ _ _ (by omega),val_succ W b j]
   have e0:W^(k+(j+1))*h=W^(k+j)*(h*W):=by rw [← Nat.add_assoc,Int.pow_succ,Int.mul_assoc,Int.mul_comm W h]
   have e1:W^(k+j)*(h*W)+W^(k+j)*l=W^(k+j)*(a k*b j)+W^(k+j)*d (k+j)+W^(k+j)*cv:=by
    rw [← Int.mul_add,← Int.mul_add,← Int.mul_add,s4]
   have e2:=hI.eq
   have e3:W^k*a k*(W^j*b j)=W^(k+j)*(a k*b j):=by rw [Int.pow_add,Int.mul_assoc,Int.mul_left_comm (a k),← Int.mul_assoc]
   rw [Int.mul_add (W^k*a k),e3,e0]
   omega
theorem RInv.next {a b:Nat→Int} {w:World} {k:Nat} {d:Nat→Int} {cv:Int} {w':World} (hI:RInv a b w k 3 d cv w') (hk:k<3) :
 RInv a b w (k+1) 0 (upd d (k+3) cv) 0 (w'.setCell ⟨w.heap.size+1+1+1,k+3,none⟩ (.int .u64 cv)):=by
 refine ⟨Int.le_refl 0,by decide,hI.inn.upd _ cv hI.c0 hI.c1,fun t ht=>?_,?_,hI.ha.set_other _ _ (by simp; omega),hI.hb.set_other _ _ (by simp; omega),hI.hr.set_other _ _ (by simp),hI.hd.set _ (by omega) _,hI.fr.set _ _ (by simp; omega)⟩
 · rw [upd_other _ _ _ _ (by omega)]; exact hI.zero t (by omega)
 · have e:3+(k+1)=(k+3)+1:=by omega
   have e2:=hI.eq
   rw [Nat.add_comm 3 k] at e2
   rw [e,val_succ W _ (k+3),val_upd _ _ _ _ _ (xnR _),upd_same,val_succ W a k,Int.add_mul,e2,Int.mul_zero,show val W b 0=0 from rfl,Int.mul_zero]
theorem cwid_zero (w:World) (t:TypeId) (b:Nat) (hb:b=w.heap.size):Has (w.alloc (.cells zu64_6 t)) b .u64 6 (fun _=>0):=Has.new w .u64 6 (fun _=>0) t b hb
theorem cproduct_any (a b:Nat→Int) (ha:In W 3 a) (hb:In W 3 b) (fa:val W a 3≤FB) (fb:val W b 3≤FB) (w:World) :
 Calls Tryz.prog 169 #[(.agg (row .u64 3 (a)).toArray),(.agg (row .u64 3 (b)).toArray)] w fun e w'=>∃ m:Nat→Int,e=.returned (.agg (row .u64 3 (m)).toArray)∧(Folded m∧val W m 3%Q=(val W a 3*val W b 3)%Q)∧Below w.heap.size w w':=by
 go_enter Tryz.func169,Tryz.ntmps169
 go_wp2
 go_loopw [9] (fun i w'=>∃ (k:Nat) (d:Nat→Int),k≤3∧i=.int .i64 k∧RInv a b w k 0 d 0 w') (fun i _=>3-(intOf i).toNat)
 case atStart =>
  exact ⟨0,fun _=>0,by omega,rfl,⟨by omega,by decide,fun _ _=>⟨Int.le_refl 0,by decide⟩,fun _ _=>rfl,by simp [val],(((Has.new w _ _ _ _ _ rfl).alloc _ (by simp)).alloc _ (by simp; omega)).alloc _ (by simp; omega),((Has.new _ _ _ _ _ _ (by simp)).alloc _ (by simp)).alloc _ (by simp),(cnum_zero _ _ _ (by simp)).alloc _ (by simp),cwid_zero _ _ _ (by simp),((((Fr.refl w).alloc _).alloc _).alloc _).alloc _⟩⟩
 case round =>
  obtain ⟨k,d0,hk,rfl,hO⟩:=hrel
  by_cases hlt:k<3
  · obtain ⟨wo,rfl⟩:∃ wo:World,wo=wr:=⟨_,rfl⟩
    have g1:(0:Int)≤(k:Int):=by omega
    have g2:(k:Int)<3:=by omega
    go_wp2
    go_loopw [7,12] (fun c i w'=>∃ (j:Nat) (d:Nat→Int) (cv:Int),j≤3∧i=.int .i64 j∧c=.int .u64 cv∧RInv a b w k j d cv w') (fun _ i _=>3-(intOf i).toNat)
    case atStart=>exact ⟨0,d0,0,by omega,rfl,rfl,hO⟩
    case round =>
     obtain ⟨j,d,cv,hj,rfl,rfl,hI⟩:=hrel
     clear hO
     by_cases hlt2:j<3
     · have c1:=hI.ha.cell k hlt
       have c2:=hI.hb.cell j hlt2; have c3:=hI.hd.cell (k+j) (by omega); have f1:=hI.hd.free (k+j) (by omega)
       have g3:(0:Int)≤(j:Int):=by omega
       have g4:(j:Int)<3:=by omega
       have g5:(0:Int)≤(k:Int)+(j:Int):=by omega
       have g6:(k:Int)+(j:Int)<6:=by omega
       have g7:((k:Int)+(j:Int)).toNat=k+j:=by omega
       have g8:IntKind.i64.wrap ((k:Int)+(j:Int))=(k:Int)+(j:Int):=by rw [xw6]; omega
       have HS:=show Hid _ from fun (h l:Int) (hs:Steps (a k) (b j) (d (k+j)) cv h l)=>hI.step hlt hlt2 hs; have HC:=show Hid _ from fun W'=>step_any (a k) (b j) (d (k+j)) cv (ha k hlt).1 (ha k hlt).2 (hb j hlt2).1 (hb j hlt2).2 (hI.inn (k+j) (by omega)).1 (hI.inn (k+j) (by omega)).2 hI.c0 hI.c1 W'; clear hI; generalize a k=x at *; generalize b j=y at *
       generalize d (k+j)=z at *; go_wp2
       go_region_with (go_at_call 110; refine (HC.out _).mono ?_; rintro e w' ⟨h,l,rfl,hs,rfl⟩)
       all_goals
        go_wp2
        go_roundw
        case rel=>first | exact ⟨j+1,_,_,by omega,by go_num,rfl,HS.out h l hs⟩ | ((repeat apply Exists.intro); refine ⟨⟨j+1,_,_,by omega,?_,?_,HS.out h l hs⟩,rfl⟩ <;> first | rfl | go_num)
        case measure=>simp [intOf]; omega
     · obtain rfl:j=3:=by omega
       have hS:=hI.next hlt; have c3:=hI.hd.cell (k+3) (by omega); have f1:=hI.hd.free (k+3) (by omega)
       have g6:((k:Int)+3).toNat=k+3:=by omega
       clear hI; generalize d (k+3)=z at *; go_wp2
       go_roundw
       case rel=>exact ⟨k+1,_,by omega,by go_num,hS⟩
       case measure=>simp [intOf]; omega
  · obtain rfl:k=3:=by omega
    have hd:=hO.hd; have hz:=hO.hr
    have he:val W d0 6=val W a 3*val W b 3:=by
     have e:=hO.eq
     rw [Int.mul_zero,show val W b 0=0 from rfl,Int.mul_zero,Int.add_zero,Int.add_zero] at e
     exact e
    go_wp2_with (refine wpList_load_mid rfl 196 _ rfl (w.heap.size+1+1+1) 0 rfl (row .u64 6 (d0)) _ (Has.range (hd)) Tryz.underlying196 rfl (cwid_info _) ?_)
    refine (lower_any d0 hO.inn (by rw [he]; exact mul_FB fa (val_in W (by decide) b 3 hb).1 fb) _).mono ?_
    rintro e w1 ⟨m,rfl,s1,l1⟩; have hz1:=hz.call hO.fr l1 (by omega)
    have hm:val W m 3%Q=(val W a 3*val W b 3)%Q:=by rw [s1.2,he]
    have HM:=show Hid _ from hm; clear he hm
    go_wp2_with (refine wpList_store_mid rfl 192 _ _ rfl (w.heap.size+1+1) 0 (row .u64 3 (m)).toArray rfl rfl (cnum_there (hz1)) (cnum_info' _) (all_oneCell_toArray (row_one _ _ _)) ?_)
    exact bodyPost_ret (v:=(.agg (row .u64 3 (m)).toArray)) (results_row Tryz.results169 rfl (Has.all hz1.there .u64 m).range Tryz.underlying192 rfl (cnum_info m)) rfl ⟨m,rfl,⟨s1.1,HM.out⟩,((hO.fr.call l1).setAll _ (by omega) _).below⟩
theorem cload_any (a:Nat→Int) (ha:In 256 17 a) (w:World) :
 Calls Tryz.prog 170 #[(.agg (row .u8 17 (a)).toArray)] w fun e w'=>∃ m:Nat→Int,e=.returned (.agg (row .u64 3 (m)).toArray)∧(Folded m∧val W m 3%Q=val 256 a 17%Q)∧Below w.heap.size w w':=by
 have K:=Kr.init w; replace K:=K.box .u8 17 a 160 (w.heap.size) rfl; replace K:=K.make 3 #[.int .u64 0,.int .u64 0,.int .u64 0] 192 (w.heap.size+1) (by simp) (cnum_zero _ _ _ (by simp)).there
 go_enter Tryz.func170,Tryz.ntmps170
 go_upto_region 1 with fail; refine wp_region_list ?_; refine rowKL .u8 17 (a) (w.heap.size) 0 160 _ _ rfl rfl rfl Tryz.underlying160 rfl (big_info _) (K.get _ _ _ _ mS).range ?_; simp only [aP,lI,l0,lS]; refine xcL (split_any a ha _) ?_; rintro e w1 ⟨m1,rfl,s1,l⟩; replace K:=K.call l; clear l; refine xeL ?_; refine xcL (cfold_any m1 s1.1 (by have:=s1.2.1; omega) _) ?_
 rintro e w2 ⟨m,rfl,s2,l⟩; replace K:=K.call l; clear l; refine xeL ?_; refine storesL .u64 3 m (w.heap.size+1) 192 _ _ rfl rfl rfl rfl (K.roomy _ _ _ _ mS) (cnum_info' _) ?_; simp only [Act.put]; have HE:=show Hid _ from (And.intro s2.1 (show val W m 3%Q=val 256 a 17%Q by rw [s2.2,s1.2.2])); have hz:=(K.room _ mS).1; have hB:=(K.fill _ _ mS (row .u64 3 m)).below; clear K s1 s2
 show Exit.then _ _ _ _ _; go_wp2
 exact bodyPost_ret (v:=(.agg (row .u64 3 (m)).toArray)) (results_row Tryz.results170 rfl (Has.all hz .u64 m).range Tryz.underlying192 rfl (cnum_info m)) rfl ⟨m,rfl,HE.out,hB⟩
theorem small136 (x:Int):x%Q%87112285931760246646623899502532662132736=x%Q:=by simp only [Q]; omega
theorem csave_any (n:Nat→Int) (hn:Folded n) (w:World) (hg:Glob w) :
 Calls Tryz.prog 168 #[(.agg (row .u64 3 (n)).toArray)] w fun e w'=>∃ f:Nat→Int,e=.returned (.agg (row .u8 17 (f)).toArray)∧(In 256 17 f∧val 256 f 17=val W n 3%Q)∧Below w.heap.size w w':=by
 have K:=Kr.init w; replace K:=K.box .u64 3 n 192 (w.heap.size) rfl; replace K:=K.make 17 zu8_17 160 (w.heap.size+1) (by simp) (big_zero _ _ _ (by simp)).there
 go_enter Tryz.func168,Tryz.ntmps168
 go_upto_region 1 with fail; refine wp_region_list ?_; refine rowKL .u64 3 (n) (w.heap.size) 0 192 _ _ rfl rfl rfl Tryz.underlying192 rfl (cnum_info _) (K.get _ _ _ _ mS).range ?_; simp only [aP,lI,l0,lS]; refine xcL (cleast_any n hn.1 hn.2 _ (hg.below K.below hg.size)) ?_; rintro e w1 ⟨m1,rfl,s1,l⟩; replace K:=K.call l; clear l; refine xeL ?_; refine xcL (join_any m1 _) ?_
 rintro e w2 ⟨rfl,l⟩; replace K:=K.call l; clear l; refine xeL ?_
 have s2:In 256 17 (joinB m1)∧val 256 (joinB m1) 17=val W n 3%Q:=⟨joinB_in m1,by rw [joinB_val m1 s1.1,s1.2,small136]⟩
 generalize joinB m1=f at *; refine storesL .u8 17 f (w.heap.size+1) 160 _ _ rfl rfl rfl rfl (K.roomy _ _ _ _ mS) (big_info' _) ?_; simp only [Act.put]; have HE:=show Hid _ from s2; have hz:=(K.room _ mS).1; have hB:=(K.fill _ _ mS (row .u8 17 f)).below; clear K s1 s2; show Exit.then _ _ _ _ _; go_wp2
 exact bodyPost_ret (v:=(.agg (row .u8 17 (f)).toArray)) (results_row Tryz.results168 rfl (Has.all hz .u8 f).range Tryz.underlying160 rfl (big_info f)) rfl ⟨f,rfl,HE.out,hB⟩
theorem folded_small {n:Nat→Int} (h:Folded n):0≤val W n 3∧val W n 3≤FB:=⟨(val_in W (by decide) n 3 h.1).1,h.2⟩
theorem top_small {n:Nat→Int} (h:In W 3 n) (hv:val W n 3<174224571863520493293247799005065324265472):n 2<512:=by
 have v:=v3 n; have p0:=h 0 (by omega); have p1:=h 1 (by omega); generalize n 0=x0 at *; generalize n 1=x1 at *; generalize n 2=x2 at *
 omega
theorem cadd_any (a b:Nat→Int) (ha:In 256 17 a) (hb:In 256 17 b) (w:World) (hg:Glob w) :
 Calls Tryz.prog 152 #[(.agg (row .u8 17 (a)).toArray),(.agg (row .u8 17 (b)).toArray)] w fun e w'=>∃ f:Nat→Int,e=.returned (.agg (row .u8 17 (f)).toArray)∧(In 256 17 f∧val 256 f 17=(val 256 a 17+val 256 b 17)%Q)∧Below w.heap.size w w':=by
 have K:=Kr.init w; replace K:=K.box .u8 17 a 160 (w.heap.size) rfl; replace K:=K.box .u8 17 b 160 (w.heap.size+1) (by simp); replace K:=K.make 17 zu8_17 160 (w.heap.size+1+1) (by simp) (big_zero _ _ _ (by simp)).there
 go_enter Tryz.func152,Tryz.ntmps152
 go_upto_region 1 with fail; refine wp_region_held_drew (S:=fun w'=>Kr w _ [(w.heap.size+1,.u8,17,b),(w.heap.size,.u8,17,a)] [(w.heap.size+1+1,17)] w') (by kernel_rfl) K.drew ?_; clear K; intro K
 refine rowKH (i:=0) (some 5) rfl .u8 17 (a) (w.heap.size) 0 160 _ _ rfl rfl rfl rfl (by kernel_rfl) (by kernel_rfl) (by kernel_rfl) (fun _ _ _ h=>h) Tryz.underlying160 rfl (big_info _) K (fun _ h=>(h.get _ _ _ _ (mT _ mS)).range) ?_; simp only [aP,lI,l0,lS]
 refine rowKH (i:=2) (some 7) rfl .u8 17 (b) (w.heap.size+1) 0 160 _ _ rfl rfl rfl rfl (by kernel_rfl) (by kernel_rfl) (by kernel_rfl) (fun _ _ _ h=>h) Tryz.underlying160 rfl (big_info _) K (fun _ h=>(h.get _ _ _ _ mS).range) ?_; simp only [aP,lI,l0,lS]; refine callH (i:=1) (some 6) rfl (by kernel_rfl) rfl rfl (fun _=>by kernel_rfl) (cload_any a ha _) ?_
 rintro e w1 ⟨m1,rfl,s1,l⟩; replace K:=K.call l; clear l
 refine ⟨_,rfl,K,?_⟩
 simp only [aP,lI,l0,lS]; refine callH (i:=3) (some 8) rfl (by kernel_rfl) rfl rfl (fun _=>by kernel_rfl) (cload_any b hb _) ?_; rintro e w2 ⟨m2,rfl,s2,l⟩; replace K:=K.call l; clear l
 refine ⟨_,rfl,K,?_⟩
 simp only [aP,lI,l0,lS]; have z1:=folded_small s1.1; have z2:=folded_small s2.1
 simp only [FB] at z1 z2
 refine callH (i:=4) (some 9) rfl (by kernel_rfl) rfl rfl (fun _=>by kernel_rfl) (plus_any m1 m2 s1.1.1 s2.1.1 (by rw [W3]; omega) _) ?_; rintro e w3 ⟨m3,rfl,s3,l⟩; replace K:=K.call l; clear l
 refine ⟨_,rfl,K,?_⟩
 simp only [aP,lI,l0,lS]; refine callH (i:=5) (some 10) rfl (by kernel_rfl) rfl rfl (fun _=>by kernel_rfl) (cfold_any m3 s3.1 (top_small s3.1 (by have:=s3.2; omega)) _) ?_; rintro e w4 ⟨m4,rfl,s4,l⟩; replace K:=K.call l; clear l
 refine ⟨_,rfl,K,?_⟩
 simp only [aP,lI,l0,lS]; refine callH (i:=6) (some 11) rfl (by kernel_rfl) rfl rfl (fun _=>by kernel_rfl) (csave_any m4 s4.1 _ (hg.below K.below hg.size)) ?_; rintro e w5 ⟨f,rfl,s5,l⟩; replace K:=K.call l; clear l
 refine ⟨_,rfl,K,?_⟩
 simp only [aP,lI,l0,lS]; refine storesH (i:=7) none rfl .u8 17 f (w.heap.size+1+1) 160 _ _ (by kernel_rfl) rfl rfl rfl rfl rfl (K.roomy _ _ _ _ mS) (big_info' _) (K.fill _ _ mS _) ?_
 refine wpAnyH_done (by kernel_rfl) ?_ _
 have HE:=show Hid _ from (And.intro s5.1 (show val 256 f 17=(val 256 a 17+val 256 b 17)%Q by rw [s5.2,s4.2,s3.2,Int.add_emod,s1.2,s2.2,← Int.add_emod])); have hz:=(K.room _ mS).1; have hB:=(K.fill _ _ mS (row .u8 17 f)).below; clear K s1 s2 s3 s4 s5 z1 z2; go_wp2
 exact bodyPost_ret (v:=(.agg (row .u8 17 (f)).toArray)) (results_row Tryz.results152 rfl (Has.all hz .u8 f).range Tryz.underlying160 rfl (big_info f)) rfl ⟨f,rfl,HE.out,hB⟩
theorem cmul_any (a b:Nat→Int) (ha:In 256 17 a) (hb:In 256 17 b) (w:World) (hg:Glob w) :
 Calls Tryz.prog 151 #[(.agg (row .u8 17 (a)).toArray),(.agg (row .u8 17 (b)).toArray)] w fun e w'=>∃ f:Nat→Int,e=.returned (.agg (row .u8 17 (f)).toArray)∧(In 256 17 f∧val 256 f 17=(val 256 a 17*val 256 b 17)%Q)∧Below w.heap.size w w':=by
 have K:=Kr.init w; replace K:=K.box .u8 17 a 160 (w.heap.size) rfl; replace K:=K.box .u8 17 b 160 (w.heap.size+1) (by simp); replace K:=K.make 17 zu8_17 160 (w.heap.size+1+1) (by simp) (big_zero _ _ _ (by simp)).there
 go_enter Tryz.func151,Tryz.ntmps151
 go_upto_region 1 with fail; refine wp_region_held_drew (S:=fun w'=>Kr w _ [(w.heap.size+1,.u8,17,b),(w.heap.size,.u8,17,a)] [(w.heap.size+1+1,17)] w') (by kernel_rfl) K.drew ?_; clear K; intro K
 refine rowKH (i:=0) (some 5) rfl .u8 17 (a) (w.heap.size) 0 160 _ _ rfl rfl rfl rfl (by kernel_rfl) (by kernel_rfl) (by kernel_rfl) (fun _ _ _ h=>h) Tryz.underlying160 rfl (big_info _) K (fun _ h=>(h.get _ _ _ _ (mT _ mS)).range) ?_; simp only [aP,lI,l0,lS]
 refine rowKH (i:=2) (some 7) rfl .u8 17 (b) (w.heap.size+1) 0 160 _ _ rfl rfl rfl rfl (by kernel_rfl) (by kernel_rfl) (by kernel_rfl) (fun _ _ _ h=>h) Tryz.underlying160 rfl (big_info _) K (fun _ h=>(h.get _ _ _ _ mS).range) ?_; simp only [aP,lI,l0,lS]; refine callH (i:=1) (some 6) rfl (by kernel_rfl) rfl rfl (fun _=>by kernel_rfl) (cload_any a ha _) ?_
 rintro e w1 ⟨m1,rfl,s1,l⟩; replace K:=K.call l; clear l
 refine ⟨_,rfl,K,?_⟩
 simp only [aP,lI,l0,lS]; refine callH (i:=3) (some 8) rfl (by kernel_rfl) rfl rfl (fun _=>by kernel_rfl) (cload_any b hb _) ?_; rintro e w2 ⟨m2,rfl,s2,l⟩; replace K:=K.call l; clear l
 refine ⟨_,rfl,K,?_⟩
 simp only [aP,lI,l0,lS]; refine callH (i:=4) (some 9) rfl (by kernel_rfl) rfl rfl (fun _=>by kernel_rfl) (cproduct_any m1 m2 s1.1.1 s2.1.1 s1.1.2 s2.1.2 _) ?_; rintro e w3 ⟨m3,rfl,s3,l⟩; replace K:=K.call l; clear l
 refine ⟨_,rfl,K,?_⟩
 simp only [aP,lI,l0,lS]; refine callH (i:=5) (some 10) rfl (by kernel_rfl) rfl rfl (fun _=>by kernel_rfl) (csave_any m3 s3.1 _ (hg.below K.below hg.size)) ?_; rintro e w5 ⟨f,rfl,s5,l⟩; replace K:=K.call l; clear l
 refine ⟨_,rfl,K,?_⟩
 simp only [aP,lI,l0,lS]; refine storesH (i:=6) none rfl .u8 17 f (w.heap.size+1+1) 160 _ _ (by kernel_rfl) rfl rfl rfl rfl rfl (K.roomy _ _ _ _ mS) (big_info' _) (K.fill _ _ mS _) ?_
 refine wpAnyH_done (by kernel_rfl) ?_ _
 have HE:=show Hid _ from (And.intro s5.1 (show val 256 f 17=(val 256 a 17*val 256 b 17)%Q by rw [s5.2,s3.2,Int.mul_emod,s1.2,s2.2,← Int.mul_emod])); have hz:=(K.room _ mS).1; have hB:=(K.fill _ _ mS (row .u8 17 f)).below; clear K s1 s2 s3 s5; go_wp2
 exact bodyPost_ret (v:=(.agg (row .u8 17 (f)).toArray)) (results_row Tryz.results151 rfl (Has.all hz .u8 f).range Tryz.underlying160 rfl (big_info f)) rfl ⟨f,rfl,HE.out,hB⟩
theorem tag_info (f:Nat→Int):(Tryz.prog.info? 51).map (·.size)=some (row .u8 16 f).length:=by rw [row_length]; kernel_rfl
theorem tag_info' (f:Nat→Int):(Tryz.prog.info? 51).map (·.size)=some (row .u8 16 f).toArray.size:=by rw [List.size_toArray]; exact tag_info f
theorem tag_there {w:World} {b:Nat} {f g:Nat→Int} (h:Has w b .u8 16 f):w.there b 0 (row .u8 16 g).toArray.size:=by rw [List.size_toArray,row_length]; exact h.there
theorem tag_zero (w:World) (t:TypeId) (b:Nat) (hb:b=w.heap.size):Has (w.alloc (.cells zu8_16 t)) b .u8 16 (fun _=>0):=Has.new w .u8 16 (fun _=>0) t b hb
def trimT (r:Nat→Int):Nat→Int:=fun j=>if j%4=3 then r j%16 else if j%4=0∧0<j then r j/4*4 else r j
theorem trimT_in (r:Nat→Int) (h:In 256 16 r):In 256 16 (trimT r):=fun j hj=>by
 have:=h j hj
 unfold trimT
 split
 · omega
 · split
   · omega
   · exact this
theorem and_15:∀ x:Fin 256,bits BinOp.and IntKind.u8 (x.val:Int) 15=(x.val:Int)%16:=by decide +kernel
theorem and_252:∀ x:Fin 256,bits BinOp.and IntKind.u8 (x.val:Int) 252=(x.val:Int)/4*4:=by decide +kernel
theorem and_255:∀ x:Fin 256,bits BinOp.and IntKind.u8 (x.val:Int) 255=(x.val:Int):=by decide +kernel
theorem and15 (x:Int) (h:0≤x∧x<256):bits BinOp.and IntKind.u8 x 15=x%16:=by
 obtain ⟨n,rfl⟩:=xiN h.1
 exact and_15 ⟨n,by omega⟩
theorem and252 (x:Int) (h:0≤x∧x<256):bits BinOp.and IntKind.u8 x 252=x/4*4:=by
 obtain ⟨n,rfl⟩:=xiN h.1
 exact and_252 ⟨n,by omega⟩
theorem and255 (x:Int) (h:0≤x∧x<256):bits BinOp.and IntKind.u8 x 255=x:=by
 obtain ⟨n,rfl⟩:=xiN h.1
 exact and_255 ⟨n,by omega⟩
theorem and_kept (r:Nat→Int) (h:In 256 16 r) (j:Nat) (hj:j<16):bits BinOp.and IntKind.u8 (r j) (keptB j)=trimT r j:=by
 have hr:=h j hj
 by_cases a:j%4=3
 · have e1:keptB j=15:=by unfold keptB; rw [if_pos (by omega)]
   have e2:trimT r j=r j%16:=by unfold trimT; rw [if_pos a]
   rw [e1,e2,and15 _ hr]
 · by_cases b:j%4=0∧0<j
   · have e1:keptB j=252:=by unfold keptB; rw [if_neg (by omega),if_pos (by omega)]
     have e2:trimT r j=r j/4*4:=by unfold trimT; rw [if_neg a,if_pos b]
     rw [e1,e2,and252 _ hr]
   · have e1:keptB j=255:=by unfold keptB; rw [if_neg (by omega),if_neg (by omega)]
     have e2:trimT r j=r j:=by unfold trimT; rw [if_neg a,if_neg b]
     rw [e1,e2,and255 _ hr]
structure TInv (r g:Nat→Int) (w:World) (k:Nat) (f:Nat→Int) (w':World):Prop where
 done:∀ j,j<k→f j=g j
 rest:∀ j,k≤j→f j=r j
 ha:Has w' w.heap.size .u8 16 f
 hr:Has w' (w.heap.size+1) .u8 16 (fun _=>0)
 fr:Fr w 2 w'
theorem TInv.step {r g:Nat→Int} {w:World} {k:Nat} {f:Nat→Int} {w':World} (h:TInv r g w k f w') (hk:k<16):TInv r g w (k+1) (upd f k (g k)) (w'.setCell ⟨w.heap.size,k,none⟩ (.int .u8 (g k))):=by
 refine ⟨fun j hj=>?_,fun j hj=>?_,h.ha.set k hk _,h.hr.set_other _ _ (by simp),h.fr.set _ _ (by simp)⟩
 · by_cases e:j=k
   · subst e; rw [upd_same]
   · rw [upd_other _ _ _ _ e]; exact h.done j (by omega)
 · rw [upd_other _ _ _ _ (by omega)]; exact h.rest j (by omega)
theorem TInv.drew {r g:Nat→Int} {w:World} {k:Nat} {f:Nat→Int} {w':World} (h:TInv r g w k f w'):TInv r g w k f w'.drew:=⟨h.done,h.rest,h.ha.drew,h.hr.drew,h.fr.drew⟩
theorem ctrim_any (r:Nat→Int) (hr:In 256 16 r) (w:World) (hg:Glob w) :
 Calls Tryz.prog 167 #[(.agg (row .u8 16 (r)).toArray)] w fun e w'=>e=.returned (.agg (row .u8 16 (trimT r)).toArray)∧Below w.heap.size w w':=by
 go_enter Tryz.func167,Tryz.ntmps167
 go_wp2
 go_loopw [4] (fun i w'=>∃ (k:Nat) (f:Nat→Int),k≤16∧i=.int .i64 k∧TInv r (trimT r) w k f w') (fun i _=>16-(intOf i).toNat)
 case atStart=>exact ⟨0,r,by omega,rfl,⟨fun j hj=>by omega,fun _ _=>rfl,(Has.new w _ _ _ _ _ rfl).alloc _ (by simp),tag_zero _ _ _ (by simp),((Fr.refl w).alloc _).alloc _⟩⟩
 case round =>
  obtain ⟨k,f,hk,rfl,hI⟩:=hrel
  by_cases hlt:k<16
  · have hS:=(hI.step hlt).drew
    have hb:=and_kept r hr k hlt
    rw [← hI.rest k (xnR k)] at hb
    rw [← hb] at hS
    have HS:=show Hid _ from hS; have c1:=hI.ha.cell k hlt; have c2:=(hg.fr hI.fr).kept k hlt; have f1:=hI.ha.free k hlt
    have g1:(0:Int)≤(k:Int):=by omega
    have g2:(k:Int)<16:=by omega
    clear hI hS hb; generalize f k=x at *; generalize keptB k=y at *; go_wp2
    go_region
    go_wp2
    go_roundw
    case rel=>exact ⟨k+1,_,by omega,by go_num,HS.out⟩
    case measure=>simp [intOf]; omega
  · obtain rfl:k=16:=by omega
    have ha:=hI.ha.congr (g:=trimT r) (fun j hj=>hI.done j hj); have hz:=hI.hr; have hB:=(hI.fr.setAll (w.heap.size+1) (by omega) (row .u8 16 (trimT r))).below; clear hI hlt hk
    go_wp2_with (first | (refine wpList_load_mid rfl 51 _ rfl (w.heap.size) 0 rfl (row .u8 16 (trimT r)) _ (Has.range (ha)) Tryz.underlying51 rfl (tag_info _) ?_) | (refine wpList_store_mid rfl 51 _ _ rfl (w.heap.size+1) 0 (row .u8 16 (trimT r)).toArray rfl rfl (tag_there (hz)) (tag_info' _) (all_oneCell_toArray (row_one _ _ _)) ?_))
    exact bodyPost_ret (v:=(.agg (row .u8 16 (trimT r)).toArray)) (results_row Tryz.results167 rfl (Has.all hz.there .u8 _).range Tryz.underlying51 rfl (tag_info _)) rfl ⟨rfl,hB⟩
end Go.Proofs.YtklnibmfpcmeeaaGreatDoor
