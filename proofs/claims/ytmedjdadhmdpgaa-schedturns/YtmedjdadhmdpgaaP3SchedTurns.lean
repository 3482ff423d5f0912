/- Texts of Ap Aq As At, joined. -/
import Derived.Test.YtmedjdadhmdpgaaP2SchedTurns
set_option maxRecDepth 20000
set_option maxHeartbeats 64000000
namespace Go.Proofs.Ytmedjdadhmdpgaa
open Go.RowKit
section
open Go.RowKit Go.MapKept Go.ChangeMaps Go.WideShapes
theorem run_append_opt {P:Program} {w:World} {base:Nat} {t ty e:TypeId} {z:Value} {bytes size n cap:Nat} {xs:List Value} {sp:Option Addr} (ht:P.underlying t=some (.slice e)) (he:Many P e z bytes size) (hzs:z.cells.size=size) (hs0:0<size) (h:w.ownsRow base e size (.slice sp n cap) n xs)
 (so:Option Addr) (m c:Nat) (news:List Value) (hl:news.length=m*size) (hnews:∀ j u,news[j]?=some u→∃ ad,so=some ad∧w.cell? (ad.add j)=some u) (h1c:∀ u∈news,u.oneCell'=true) (h63:n+m≤maxLen) (hb:(n+m)*bytes≤140737488355328) (hbase:base≤w.heap.size) :
 ∃ v' w',(Builtin.append_ #[t,t] ty #[.slice sp n cap,.slice so m c]).run P w=.ok v' w'∧w'.ownsRow base e size v' (n+m) (xs++news)∧w.grownBy w' (Value.slice sp n cap).ownBlock∧(∀ g,v'.ownBlock=some g→(Value.slice sp n cap).ownBlock=some g∨g=w.heap.size):=by
 cases so with
 | some ad=>exact run_append_OwnV ht he hzs hs0 h ad m c news hl (fun j u hu=>by obtain ⟨a,e1,e2⟩:=hnews j u hu; cases e1; exact e2) h1c h63 hb hbase
 | none =>
   have hn:news=[]:=by
    cases news with
    | nil=>rfl
    | cons u us=>obtain ⟨a,e1,_⟩:=hnews 0 u rfl; cases e1
   subst hn
   have hm:m=0:=by
    rcases Nat.eq_zero_or_pos m with h | h
    · exact h
    · have:=Nat.mul_pos h hs0
      rw [← hl] at this
      exact absurd this (Nat.lt_irrefl 0)
   subst hm
   obtain ⟨i,hi,hq⟩:=Option.map_eq_some_iff.1 he.info
   obtain ⟨sp',cap',hv,hle,_⟩:=row_form16 h
   injection hv with e1 _ e3
   subst e1; subst e3
   refine ⟨.slice sp n cap,w,?_,by rw [List.append_nil,Nat.add_zero]; exact h,World.grownBy.refl _ _,fun g hg=>.inl hg⟩
   cases sp <;> simp [Builtin.append_,run_underlying ht,sizeOf,typeInfo,hi,Builtin.lenOf,Builtin.firstCells,loadCells,hle,storeCells]
def NS (w:World) (m:Option Nat) (n:Nat) (f:Int→Option Value):Prop:=match m with
 | none=>∀ x,f x=none
 | some b=>IM Try.prog 3 w b n f
def mbk (m:Option Nat):List (Nat × List Value):=match m with
 | none=>[]
 | some b=>[(b,[])]
theorem uk21:Try.prog.underlying 3=some (.int .i64):=Try.underlying3
theorem IM.boundL {P:Program} {k:TypeId} {w:World} {b n:Nat} {f:Int→Option Value} (h:IM P k w b n f) (hk:P.underlying k=some (.int .i64)) (K:List Int) (hf:∀ x,(f x).isSome=true→x∈K):IM P k w b K.length f:=by
 obtain ⟨D,ho,h2⟩:=h
 obtain ⟨L,hD,hp⟩:=ho.tidy (Maps.int_keyed hk)
 have h3:=fun x hx=>(h2 x hx).1
 obtain ⟨es,clock,hb,F,hs,hD'⟩:=ho
 refine ⟨D,⟨es,clock,hb,F,?_,hD'⟩,h2⟩
 have e1:L=(es.toList.map (WideElems.rg P k heldR)).foldr DataW.insert []:=by rw [hD] at hD'; injection hD'
 have e2:es.size=L.length:=by rw [e1,length_read]
 have hle:(L.map Prod.fst).length≤(K.map fun i:Int=>Lit.int .i64 i).length:=?_
 · rw [List.length_map,List.length_map] at hle
   omega
 refine List.Nodup.length_le_of_subset (List.pairwise_map.2 hp) fun l hl=>?_
 obtain ⟨p,hpm,rfl⟩:=List.mem_map.1 hl
 rw [e1] at hpm
 obtain ⟨x,hx,hpx⟩:=List.mem_map.1 (mem_sorted.1 hpm)
 obtain ⟨y,hy⟩:=F.reads x hx
 rw [WideElems.rg_of hy] at hpx
 subst hpx; have hkey:=WideElems.rd_key hy
 have hkm:mapKey P k x.key=some y.1:=by
  unfold keyOf at hkey
  rw [hk] at hkey
  exact hkey
 unfold mapKey at hkm
 rw [hk] at hkm
 cases hxk:x.key with
 | int q a =>
   rw [hxk] at hkm
   simp only [Option.ite_none_right_eq_some,Option.some.injEq] at hkm
   obtain ⟨⟨rfl,hw⟩,hy1⟩:=hkm
   have hi:i64 a:=by
    unfold i64
    simp [Lit.wf,IntKind.min,IntKind.max,IntKind.signed,IntKind.bits] at hw
    omega
   have hh:Maps.has D (.int .i64 a)=true:=by
    rw [hD,Maps.has_eq,List.any_eq_true]
    exact ⟨y,by rw [e1]; exact hpm,by rw [← hy1]; exact WideAt.sameKey_self (show WideAt.IsKeyLit (.int .i64 a) from trivial)⟩
   rw [h3 a hi] at hh
   exact List.mem_map.2 ⟨a,hf a hh,hy1⟩
 | _=>rw [hxk] at hkm; simp at hkm
section
variable {w:World} {m:Option Nat} {n:Nat} {f:Int→Option Value} {t e:TypeId}
theorem NS.off {w':World} {X:List Nat} (h:NS w m n f) (o:Off X w w') (hX:∀ p∈mbk m,p.1∉X):NS w' m n f:=by
 cases m with
 | none=>exact h
 | some b=>exact IM.off h o (hX (b,[]) mS)
theorem NS.below {w':World} (h:NS w m n f) (l:Below w.heap.size w w'):NS w' m n f:=h.off (X:=[]) (Off.of_below l) (fun _ _ hb=>by cases hb)
theorem NS.congr {g:Int→Option Value} (h:NS w m n f) (hg:∀ x,f x=g x):NS w m n g:=by
 obtain rfl:f=g:=funext hg
 exact h
theorem run_look_nil21 (ht:Try.prog.underlying t=some (.map 3 e)) {z:Value} (hz:(zeroValue e).run Try.prog w=.ok z w) (x:Int) :
 (Instr.lookup t (.map none) (.int .i64 x) true).run Try.prog w=.ok (.tuple #[z,.bool false]) w:=by
 unfold Instr.lookup
 have h1:∀ e,(Instr.checkKey e 10000 3 (.int .i64 x)).run Try.prog w=.ok () w:=fun e=>run_checkKey uk21 (show IsKey (.int .i64) (.int .i64 x) from rfl) e 9999
 have h2:(Instr.findKey 3 (.int .i64 x) []).run Try.prog w=.ok none w:=run_findKey uk21 rfl
 simp [run_underlying ht,h1,h2,hz,Result.andThen]
theorem NS.lookOk (h:NS w m n f) (ht:Try.prog.underlying t=some (.map 3 e)) {z:Value} (hz:(zeroValue e).run Try.prog w=.ok z w) {x:Int} (hx:i64 x):(Instr.lookup t (.map m) (.int .i64 x) true).run Try.prog w=.ok (.tuple #[(f x).getD z,.bool (f x).isSome]) w:=by
 cases m with
 | none=>rw [run_look_nil21 ht hz x,h x]; rfl
 | some b=>exact IM.lookOk h uk21 ht hz hx
variable {o:Oper} {a:Act}
theorem lookOk21 (h:NS w m n f) (ht:Try.prog.underlying t=some (.map 3 e)) (z:Value) (hz:∀ w,(zeroValue e).run Try.prog w=.ok z w) (x:Int) (hx:i64 x) (u:Value) (hu:(f x).getD z=u) (b:Bool) (hb:(f x).isSome=b) (m' y:Operand) (ho:o.op=.lookup t m' y true) (hm:a.eval m'=.map m) (hy:a.eval y=.int .i64 x) :
 (execOp a.eval o).run Try.prog w=.ok (.value (.tuple #[u,.bool b])) w:=by
 subst hu hb
 unfold execOp
 simp only [ho,hm,hy,Sem.run_bind,h.lookOk ht (hz w) hx,Result.andThen_ok,Sem.run_pure]
theorem eqlM21 (m:Option Nat) (t t' k e:TypeId) (x y:Operand) (b:Bool) (hb:m.isNone=b) (ho:o.op=.binOp .eql t x y t') (hx:a.eval x=.map m) (hy:a.eval y=.map none) (h:Try.prog.underlying t=some (.map k e)) (w:World):(execOp a.eval o).run Try.prog w=.ok (.value (.bool b)) w:=by
 subst hb
 unfold execOp
 simp only [ho,hx,hy,Sem.run_bind,eqGuard_at_map,run_eql_map_nil w t k e m h,Sem.run_pure,Result.andThen_ok]
theorem run_del_nil21 (ht:Try.prog.underlying t=some (.map 3 e)) (x:Int) (ty:TypeId):(Builtin.delete_ #[t,3] ty #[.map none,.int .i64 x]).run Try.prog w=.ok (.tuple #[]) w:=by
 have h1:∀ e,(Instr.checkKey e 10000 3 (.int .i64 x)).run Try.prog w=.ok () w:=fun e=>run_checkKey uk21 (show IsKey (.int .i64) (.int .i64 x) from rfl) e 9999
 simp [Builtin.delete_,run_underlying ht,h1,Result.andThen]
theorem NS.del (h:NS w m n f) (ht:Try.prog.underlying t=some (.map 3 e)) {x:Int} (hx:i64 x) (ty:TypeId):∃ w',(Builtin.delete_ #[t,3] ty #[.map m,.int .i64 x]).run Try.prog w=.ok (.tuple #[]) w'∧NS w' m n (idel f x)∧w.grownBy w' m:=by
 cases m with
 | none=>exact ⟨w,run_del_nil21 ht x ty,fun y=>by unfold idel; split; rfl; exact h y,World.grownBy.refl _ _⟩
 | some b =>
   obtain ⟨w',h1,h2,h3⟩:=IM.del h uk21 ht hx ty
   exact ⟨w',h1,h2,h3⟩
theorem delOp21 {w':World} {t k:TypeId} {p q x:Value} (m' y:Operand) (ho:o.op=.call { callee:=.builtin .delete,args:=#[m',y],argTypes:=#[t,k] }) (hm:a.eval m'=p) (hy:a.eval y=q) (hr:(Builtin.delete_ #[t,k] o.type #[p,q]).run Try.prog w=.ok x w'):(execOp a.eval o).run Try.prog w=.ok (.value x) w':=by
 simp [execOp,ho,resolve,invoke,builtin,hm,hy,hr]
theorem putOp21 {w':World} {t:TypeId} {p q v:Value} (m' y u:Operand) (ho:o.op=.mapUpdate t m' y u) (hm:a.eval m'=p) (hy:a.eval y=q) (hu:a.eval u=v) (hr:(Instr.mapUpdate t p q v).run Try.prog w=.ok () w'):(execOp a.eval o).run Try.prog w=.ok .skip w':=by
 unfold execOp
 simp only [ho,hm,hy,hu,Sem.run_bind,hr,Result.andThen_ok,Sem.run_pure]
end
theorem Mm.touch21 {w0 w w':World} {l:List (Nat × List Value)} {m:Option Nat} (M:Mm w0 (mbk m++l) w) (g:w.grownBy w' m):Mm w0 (mbk m++l) w':=by
 cases m with
 | none=>exact M.grownN g (fun b e=>by cases e)
 | some b=>exact Mm.touch M g
theorem Off.touched21 {w w':World} {m:Option Nat} (g:w.grownBy w' m):Off ((mbk m).map Prod.fst) w w':=by
 cases m with
 | none=>exact (Off.refl [] w).grown g fun b e=>by cases e
 | some b=>exact Off.touched g
theorem Mm.boxM21 {w0 w:World} {l:List (Nat × List Value)} (M:Mm w0 l w):Mm w0 ((w.heap.size,[])::l) (w.alloc (.map #[] 0)) :=
 (M.call ((Below.refl w.heap.size w).alloc (xnR _) _)).addB M.below.size (by simp) fun p hp e=>by
  have:=(M.rows p hp).2.2
  omega
def Pks (w:World) (Z:List (Rcd × Option Addr × Nat)):Prop:=∀ q∈Z,RgW w q.1.cs (.slice q.2.1 q.1.cs.length q.2.2)
theorem Pks.off {w w':World} {Z:List (Rcd × Option Addr × Nat)} {X:List Nat} (h:Pks w Z) (o:Off X w w') (hX:∀ b∈X,b∉(gks Z).map Prod.fst):Pks w' Z:=fun q hq=>(h q hq).offB o fun b hb _ hm=>hX b hb (gks_mem hq hm)
theorem Pks.below {w w':World} {Z:List (Rcd × Option Addr × Nat)} (h:Pks w Z) (l:Below w.heap.size w w'):Pks w' Z:=fun q hq=>(h q hq).below l
theorem Pks.sub {w:World} {A B:List (Rcd × Option Addr × Nat)} (h:Pks w B) (hs:∀ q∈A,q∈B):Pks w A:=fun q hq=>h q (hs q hq)
def pnx:Option Nat→Int
 | some t=>(t:Int)+1
 | none=>0
def ppc (d:Dfl):List Value:=[.int .i64 ((d.win:Nat):Int),.int .i64 (pnx d.top),.slice d.sr d.Z.length d.cr]
structure POK (w:World) (d:Dfl):Prop where
 V:w.ownsRow 0 72 3 (.slice d.sr d.Z.length d.cr) d.Z.length (rcs d.Z)
 K:Pks w d.Z
theorem POK.off {w w':World} {d:Dfl} {X:List Nat} (h:POK w d) (o:Off X w w') (h1:∀ b∈X,b∉ob d.sr) (h2:∀ b∈X,b∉(gks d.Z).map Prod.fst):POK w' d:=⟨ownsRow_away h.V o h1,h.K.off o h2⟩
theorem POK.below {w w':World} {d:Dfl} (h:POK w d) (l:Below w.heap.size w w'):POK w' d:=⟨ownsRow_bel h.V l,h.K.below l⟩
def dno:Dfl:=⟨0,0,none,[],none,0⟩
theorem dno_ok (w:World):POK w dno:=⟨World.ownsRow_nil w 0 72 3,fun _ h=>by cases h⟩
abbrev Pes:=List (Nat × Dfl)
def pfl (E:Pes):List Dfl:=E.map Prod.snd
def plk:Pes→Int→Option Nat
 | [],_=>none
 | e::E,x=>if ((e.2.n:Nat):Int)=x then some e.1 else plk E x
def pmf (E:Pes) (x:Int):Option Value:=(plk E x).map fun B=>.pointer (some ⟨B,0,none⟩)
def gpe (e:Nat × Dfl):List (Nat × List Value):=(e.1,ppc e.2)::obs e.2.sr
def gp (E:Pes):List (Nat × List Value):=E.flatMap gpe
theorem gp_app (A B:Pes):gp (A++B)=gp A++gp B:=List.flatMap_append
theorem gp_cons (e:Nat × Dfl) (B:Pes):gp (e::B)=gpe e++gp B:=List.flatMap_cons ..
theorem gp_mem {E:Pes} {e:Nat × Dfl} (h:e∈E) {p:Nat × List Value} (hp:p∈gpe e):p∈gp E:=List.mem_flatMap.2 ⟨e,h,hp⟩
theorem gp_mid (A B:Pes) (e:Nat × Dfl) (T:List (Nat × List Value)):(gp (A++e::B)++T).Perm (gpe e++(gp (A++B)++T)):=by
 rw [gp_app,gp_cons,gp_app]
 rw [List.append_assoc,List.append_assoc,List.append_assoc,← List.append_assoc,← List.append_assoc (gpe e)]
 exact List.perm_append_comm.append_right _
structure PIn (w:World) (s:Sch) (p:Int) (m:Option Nat) (E:Pes) (C:List (Nat × List Value)):Prop where
 pol:s.tu=decide (p=1)
 map:NS w m E.length (pmf E)
 lst:dpl (pfl E)=s.L
 ok:∀ e∈E,POK w e.2
 ck:∀ e∈E,∀ q∈gks e.2.Z,q∈C
def prc (s:Sch) (p:Int) (m:Option Nat):List Value:=[.int .i64 p,.int .u64 (s.last+1),.map m]
def pow (R:Nat) (s:Sch) (p:Int) (m:Option Nat) (E:Pes):List (Nat × List Value):=(R,prc s p m)::(mbk m++gp E)
theorem PIn.off {w w':World} {s:Sch} {p:Int} {m:Option Nat} {E:Pes} {C:List (Nat × List Value)} {X:List Nat} (h:PIn w s p m E C) (o:Off X w w') (h1:∀ q∈mbk m,q.1∉X) (h2:∀ b∈X,b∉(gp E).map Prod.fst) (h3:∀ b∈X,b∉C.map Prod.fst):PIn w' s p m E C :=
 ⟨h.pol,h.map.off o h1,h.lst,fun e he=>(h.ok e he).off o (fun b hb hm=>h2 b hb (List.mem_map.2 ⟨(b,[]),gp_mem he (mT _ (List.mem_map.2 ⟨b,hm,rfl⟩)),rfl⟩)) (fun b hb hm=>by
  obtain ⟨q,hq,e1⟩:=List.mem_map.1 hm
  exact h3 b hb (List.mem_map.2 ⟨q,h.ck e he q hq,e1⟩)),h.ck⟩
theorem PIn.below {w w':World} {s:Sch} {p:Int} {m:Option Nat} {E:Pes} {C:List (Nat × List Value)} (h:PIn w s p m E C) (l:Below w.heap.size w w'):PIn w' s p m E C:=h.off (X:=[]) (Off.of_below l) (fun _ _ hb=>by cases hb) (fun _ hb=>by cases hb) (fun _ hb=>by cases hb)
theorem PIn.more {w:World} {s:Sch} {p:Int} {m:Option Nat} {E:Pes} {C D:List (Nat × List Value)} (h:PIn w s p m E C) (hD:∀ q∈C,q∈D):PIn w s p m E D:=⟨h.pol,h.map,h.lst,h.ok,fun e he q hq=>hD q (h.ck e he q hq)⟩
def sgf (s:Sch) (id:Int):Flg:=(sfd s.L id).getD dno.f
def spx (s:Sch) (id:Int) (f:Flg):Sch:=match sfd s.L id with | some _=>{ s with L:=sput s.L id f } | none=>s
theorem sput_self:∀ {L:List (Nat × Flg)} {id:Int} {f:Flg},sfd L id=some f→sput L id f=L
 | [],_,_,h=>by cases h
 | q::L,id,f,h=>by
   unfold sfd at h
   unfold sput
   by_cases c:((q.1:Nat):Int)=id
   · rw [if_pos c] at h ⊢
     rw [← Option.some.inj h]
   · rw [if_neg c] at h ⊢
     rw [sput_self h]
theorem spx_self (s:Sch) (id:Int):spx s id (sgf s id)=s:=by
 unfold spx sgf
 split
 · next f hf=>rw [hf]; show { s with L:=sput s.L id f }=s; rw [sput_self hf]
 · rfl
theorem plk_cases (E:Pes) (id:Int):(plk E id=none∧sfd (dpl (pfl E)) id=none)∨∃ A B d F,E=A++(B,d)::F∧((d.n:Nat):Int)=id∧(∀ e∈pfl A,((e.n:Nat):Int)≠id)∧plk E id=some B∧sfd (dpl (pfl E)) id=some d.f:=by
 induction E with
 | nil=>exact .inl ⟨rfl,rfl⟩
 | cons e E ih =>
   by_cases c:((e.2.n:Nat):Int)=id
   · refine .inr ⟨[],e.1,e.2,E,rfl,c,fun _ h=>(by cases h),?_,?_⟩
     · show (if _ then _ else _)=_; rw [if_pos c]
     · show (if ((e.2.n:Nat):Int)=id then some e.2.f else _)=_; rw [if_pos c]
   · rcases ih with ⟨h1,h2⟩ | ⟨A,B,d,F,h1,h2,h3,h4,h5⟩
     · refine .inl ⟨?_,?_⟩
       · show (if ((e.2.n:Nat):Int)=id then some e.1 else plk E id)=_; rw [if_neg c,h1]
       · show (if ((e.2.n:Nat):Int)=id then some e.2.f else sfd (dpl (pfl E)) id)=_; rw [if_neg c,h2]
     · refine .inr ⟨e::A,B,d,F,by rw [h1]; rfl,h2,fun x hx=>?_,?_,?_⟩
       · rcases xc1 hx with rfl | hx
         · exact c
         · exact h3 x hx
       · show (if ((e.2.n:Nat):Int)=id then some e.1 else plk E id)=_; rw [if_neg c,h4]
       · show (if ((e.2.n:Nat):Int)=id then some e.2.f else sfd (dpl (pfl E)) id)=_; rw [if_neg c,h5]
theorem plk_mid {A F:Pes} {B:Nat} {d d':Dfl} (hn:d'.n=d.n) (x:Int):plk (A++(B,d')::F) x=plk (A++(B,d)::F) x:=by
 induction A with
 | nil =>
   show (if ((d'.n:Nat):Int)=x then _ else _)=if ((d.n:Nat):Int)=x then _ else _
   rw [hn]
 | cons e A ih =>
   show (if _ then _ else plk (A++(B,d')::F) x)=if _ then _ else plk (A++(B,d)::F) x
   rw [ih]
theorem sw21 {α:Type} (a b t:List α):(a++(b++t)).Perm (b++(a++t)):=by
 rw [← List.append_assoc,← List.append_assoc]
 exact List.perm_append_comm.append_right t
theorem perm21 {α:Type} (P D k g Y:List α) (r:α):(P++(D++(r::(k++(g++Y))))).Perm (r::(k++(P++(g++(D++Y))))):=by
 have h1:(D++((r::(k++g))++Y)).Perm ((r::(k++g))++(D++Y)):=sw21 D _ Y
 have h2:(P++((r::k)++(g++(D++Y)))).Perm ((r::k)++(P++(g++(D++Y)))):=sw21 P _ _
 have h3:(P++(D++(r::(k++(g++Y))))).Perm (P++((r::k)++(g++(D++Y)))):=by
  have:=h1.append_left P
  simpa [List.append_assoc] using this
 exact h3.trans h2
def Back (w:World) (s:Sch) (R:Nat) (p:Int) (m:Option Nat) (E:Pes) (T:List (Nat × List Value)) (id:Int) (B:Nat) (d:Dfl) (X:List (Nat × List Value)):Prop :=
 (∃ A F,E=A++(B,d)::F∧((d.n:Nat):Int)=id∧(∀ e∈pfl A,((e.n:Nat):Int)≠id)∧X=(R,prc s p m)::(mbk m++(gp (A++F)++T))) ∨
 (sfd s.L id=none∧d=dno∧w.heap.size≤B∧X=(R,prc s p m)::(mbk m++(gp E++T)))
theorem mem_bl {l:List (Nat × List Value)} {q:Nat × List Value} (h:q∈l):q.1∈l.map Prod.fst:=List.mem_map.2 ⟨q,h,rfl⟩
theorem Mm.apart2 {w0 w:World} {a b:List (Nat × List Value)} (M:Mm w0 (a++b) w):∀ x∈a.map Prod.fst,x∉b.map Prod.fst:=fun x hx hy=>by
 obtain ⟨p,hp,rfl⟩:=List.mem_map.1 hx
 obtain ⟨q,hq,e⟩:=List.mem_map.1 hy
 exact (List.pairwise_append.1 M.apart).2.2 p hp q hq e.symm
theorem Off.and21 {X Y:List Nat} {w w1 w2:World} (h:Off X w w1) (g:Off Y w1 w2) (hY:∀ b∈Y,b∈X∨w.heap.size≤b):Off X w w2 :=
 ⟨xnT h.size g.size,fun b hb hX=>(g.blk b (xnL hb h.size) fun e=>(hY b e).elim hX fun h'=>by omega).trans (h.blk b hb hX)⟩
theorem Back.close {w0 w w' w2:World} {s:Sch} {R:Nat} {p:Int} {m:Option Nat} {E:Pes} {C l X:List (Nat × List Value)} {id:Int} {B:Nat} {d d':Dfl} (hI:PIn w s p m E C) (h:Back w s R p m E (C++l) id B d X) (hM:Mm w0 ((B,ppc d)::(obs d.sr++X)) w') (lb:Below w.heap.size w w') (o:Off (B::ob d.sr) w' w2)
 (hn:d'.n=d.n) (hP:POK w2 d') {C' D:List (Nat × List Value)} (M:Mm w0 ((B,ppc d')::(obs d'.sr++(D++X))) w2) (hc:∀ q∈gks d'.Z,q∈C') (hcc:∀ q∈C,q∈C') :
 ∃ E',PIn w2 (spx s id d'.f) p m E' C'∧Mm w0 (pow R s p m E'++(D++(C++l))) w2∧Off ((pow R s p m E).map Prod.fst) w w2:=by
 have hI':=hI.below lb
 have ha:∀ x∈B::ob d.sr,x∉X.map Prod.fst:=fun x hx=>by
  refine Mm.apart2 (a:=(B,ppc d)::obs d.sr) hM x ?_
  rw [List.map_cons,obs_fst]
  exact hx
 rcases h with ⟨A,F,rfl,hid,hA,rfl⟩ | ⟨hs,rfl,hB,rfl⟩
 · have hsd:sfd s.L id=some d.f:=by
    rw [← hI.lst]
    have e:pfl (A++(B,d)::F)=pfl A++d::pfl F:=by unfold pfl; rw [List.map_append,List.map_cons]
    rw [e]
    rcases sat_cases (pfl A++d::pfl F) id with ⟨_,_,h3⟩ | ⟨A2,d2,B2,h1,h2,h3,h4,h5⟩
    · exact absurd hid (h3 d (by simp))
    · have h6:=sat_hit (B:=pfl F) hid hA
      rw [h4] at h6
      have h7:A2.length=(pfl A).length:=by omega
      obtain ⟨_,h8⟩:=List.append_inj h1 h7.symm
      injection h8 with h8 _
      rw [h5,h8]
   have ho:∀ e∈A++F,POK w2 e.2:=fun e he=>by
    have he':e∈A++(B,d)::F:=by
     rcases List.mem_append.1 he with h | h
     · exact List.mem_append_left _ h
     · exact List.mem_append_right _ (mT _ h)
    refine (hI'.ok e he').off o (fun b hb hm=>ha b hb ?_) (fun b hb hm=>ha b hb ?_)
    · exact mem_bl (q:=(b,[])) (mT _ (List.mem_append_right _ (List.mem_append_left _ (gp_mem he (mT _ (List.mem_map.2 ⟨b,hm,rfl⟩))))))
    · obtain ⟨q,hq,rfl⟩:=List.mem_map.1 hm
      exact mem_bl (mT _ (List.mem_append_right _ (List.mem_append_right _ (List.mem_append_left _ (hI.ck e he' q hq)))))
   refine ⟨A++(B,d')::F,⟨?_,?_,?_,fun e he=>?_,fun e he q hq=>?_⟩,?_,?_⟩
   · show (spx s id d'.f).tu=_
     unfold spx
     rw [hsd]
     exact hI.pol
   · have e1:(A++(B,d')::F).length=(A++(B,d)::F).length:=by simp
     rw [e1]
     refine (hI'.map.off o fun q hq hm=>ha q.1 hm (mem_bl (mT _ (List.mem_append_left _ hq)))).congr fun x=>?_
     unfold pmf
     rw [plk_mid hn]
   · unfold spx
     rw [hsd]
     show dpl (pfl (A++(B,d')::F))=sput s.L id d'.f
     rw [← hI.lst]
     have e1:∀ x:Dfl,pfl (A++(B,x)::F)=pfl A++x::pfl F:=fun x=>by unfold pfl; rw [List.map_append,List.map_cons]
     rw [e1,e1,sput_mid hid hn hA]
   · rcases List.mem_append.1 he with h | h
     · exact ho e (List.mem_append_left _ h)
     · rcases xc1 h with rfl | h
       · exact hP
       · exact ho e (List.mem_append_right _ h)
   · rcases List.mem_append.1 he with h | h
     · exact hcc q (hI.ck e (List.mem_append_left _ h) q hq)
     · rcases xc1 h with rfl | h
       · exact hc q hq
       · exact hcc q (hI.ck e (List.mem_append_right _ (mT _ h)) q hq)
   · refine M.perm ?_
     have h1:=perm21 ((B,ppc d')::obs d'.sr) D (mbk m) (gp (A++F)) (C++l) (R,prc s p m); have h2:=(gp_mid A F (B,d') (D++(C++l))).symm; have h3:=(h2.append_left (mbk m)).cons (R,prc s p m); have h4:=h1.trans h3
     unfold pow
     simpa [List.append_assoc] using h4
   · refine (Off.of_below lb).trans (o.mono fun b hb=>?_)
     have hm:(B,d)∈A++(B,d)::F:=by simp
     rcases xc1 hb with rfl | hb
     · exact mem_bl (q:=(b,ppc d)) (mT _ (List.mem_append_right _ (gp_mem hm mS)))
     · exact mem_bl (q:=(b,[])) (mT _ (List.mem_append_right _ (gp_mem hm (mT _ (List.mem_map.2 ⟨b,hb,rfl⟩)))))
 · have e0:spx s id d'.f=s:=by unfold spx; rw [hs]
   rw [e0]
   refine ⟨E,?_,?_,?_⟩
   · refine PIn.more (hI'.off o (fun q hq hm=>ha q.1 hm (mem_bl (mT _ (List.mem_append_left _ hq)))) (fun b hb hm=>?_) (fun b hb hm=>?_)) hcc
     · obtain ⟨q,hq,rfl⟩:=List.mem_map.1 hm
       exact ha q.1 hb (mem_bl (mT _ (List.mem_append_right _ (List.mem_append_left _ hq))))
     · obtain ⟨q,hq,rfl⟩:=List.mem_map.1 hm
       exact ha q.1 hb (mem_bl (mT _ (List.mem_append_right _ (List.mem_append_right _ (List.mem_append_left _ hq)))))
   · have h1:=(M.sub _ (List.sublist_append_right ((B,ppc d')::obs d'.sr) _)).perm (perm21 [] D (mbk m) (gp E) (C++l) (R,prc s p m))
     unfold pow
     simpa [List.append_assoc] using h1
   · refine Off.and21 (Off.of_below lb) o fun b hb=>?_
     rcases xc1 hb with rfl | hb
     · exact .inr hB
     · cases hb
theorem single_le_sum21 {l:List Nat} {x:Nat} (h:x∈l):x≤l.sum:=by
 induction l with
 | nil=>cases h
 | cons a l ih =>
   rw [List.sum_cons]
   rcases xc1 h with rfl | h
   · omega
   · have:=ih h; omega
theorem Back.mem {w:World} {s:Sch} {R:Nat} {p:Int} {m:Option Nat} {E:Pes} {T X:List (Nat × List Value)} {id:Int} {B:Nat} {d:Dfl} (h:Back w s R p m E T id B d X) {q:Nat × List Value} (hq:q∈T):q∈X:=by
 rcases h with ⟨A,F,_,_,_,rfl⟩ | ⟨_,_,_,rfl⟩
 · exact mT _ (List.mem_append_right _ (List.mem_append_right _ hq))
 · exact mT _ (List.mem_append_right _ (List.mem_append_right _ hq))
theorem Mm.fetch21 {w0 w:World} {s:Sch} {R:Nat} {p:Int} {m:Option Nat} {A F:Pes} {B:Nat} {d:Dfl} {T:List (Nat × List Value)} (M:Mm w0 (pow R s p m (A++(B,d)::F)++T) w):Mm w0 ((B,ppc d)::(obs d.sr++((R,prc s p m)::(mbk m++(gp (A++F)++T))))) w:=by
 refine M.perm ?_; have h1:=perm21 ((B,ppc d)::obs d.sr) [] (mbk m) (gp (A++F)) T (R,prc s p m); have h2:=(gp_mid A F (B,d) T).symm; have h3:=(h2.append_left (mbk m)).cons (R,prc s p m); have h4:=(h1.trans h3).symm
 unfold pow
 simpa [List.append_assoc] using h4
theorem sgf_len {s:Sch} (id:Int):(sgf s id).rs.length+(sall (sgf s id).rs).length≤ssz s:=by
 unfold sgf
 cases h:sfd s.L id with
 | none=>exact Nat.zero_le _
 | some f =>
   obtain ⟨k,_,hk⟩:=sfd_mem h
   have h1:fsz f≤(s.L.map fun q=>fsz q.2).sum:=by
    have:=single_le_sum21 (l:=s.L.map fun q=>fsz q.2) (List.mem_map.2 ⟨(k,f),hk,rfl⟩)
    exact this
   show fsz f≤_
   unfold ssz
   omega
structure FlgW0 (f:Flg):Prop where
 w2:f.win≤32
 rc:∀ r∈f.rs,r.c≤281474976710655∧r.m≤1099511627776∧∀ p∈r.cs,i64 p.1∧i64 p.2
 up:f.rs.Pairwise fun a b=>a.c<b.c
 t1:∀ t,f.top=some t→t≤281474976710655
theorem sgf_w {s:Sch} (h:SchW s) (id:Int):FlgW0 (sgf s id):=by
 unfold sgf
 cases e:sfd s.L id with
 | none=>exact ⟨Nat.zero_le _,(fun _ h=>by cases h),List.Pairwise.nil,(fun _ h=>by cases h)⟩
 | some f=>have:=sfd_w h e; exact ⟨this.w2,this.rc,this.up,this.t1⟩
theorem swn_is (s:Sch) (id:Int):swn s id=(sgf s id).win:=by unfold swn sgf; cases sfd s.L id <;> rfl
theorem sun_is (s:Sch) (id:Int):sun s id=(sgf s id).rs.length:=by unfold sun sgf; cases sfd s.L id <;> rfl
theorem prc_spx (s:Sch) (id:Int) (f:Flg) (p:Int) (m:Option Nat):prc (spx s id f) p m=prc s p m:=by unfold spx; cases sfd s.L id <;> rfl
theorem pow_spx (R:Nat) (s:Sch) (id:Int) (f:Flg) (p:Int) (m:Option Nat) (E:Pes):pow R (spx s id f) p m E=pow R s p m E:=by unfold pow; rw [prc_spx]
theorem PIn.len {w:World} {s:Sch} {p:Int} {m:Option Nat} {E:Pes} {C:List (Nat × List Value)} (h:PIn w s p m E C):E.length≤ssz s:=by
 have h1:=congrArg List.length h.lst
 rw [dpl_len] at h1
 unfold pfl at h1
 rw [List.length_map] at h1
 unfold ssz
 omega
end
theorem manyP:Many Try.prog 72 (.agg #[.int .i64 0,.int .i64 0,.slice none 0 0]) 40 3:=⟨by kernel_rfl⟩
theorem idxR3p (g len cap i:Nat) (sp:Option Addr) (hsp:sp=some ⟨g,0,none⟩) (hi:i<len) {o:Oper} {a:Act} (x y:Operand) (ho:o.op=.indexAddr 61 x y) (hx:a.eval x=.slice sp len cap) (hy:a.eval y=.int .i64 (i:Int)) (w:World):(execOp a.eval o).run Try.prog w=.ok (.value (.pointer (some ⟨g,i*3,none⟩))) w:=by
 subst hsp; have h:=idxSm 61 72 len cap 3 .i64 ⟨g,0,none⟩ i x y Try.underlying61 (fun _=>by kernel_rfl) hi ho hx hy w
 rw [Addr.add_mid,Nat.zero_add] at h
 exact h
theorem row_rec21 {w:World} {base n g cap:Nat} {e:TypeId} {sp:Option Addr} {Z:List (Rcd × Option Addr × Nat)} (V:w.ownsRow base e 3 (.slice sp n cap) n (rcs Z)) (hsp:sp=some ⟨g,0,none⟩) {i:Nat} {q:Rcd × Option Addr × Nat} (hq:Z[i]?=some q):∀ j v,(rc1 q)[j]?=some v→w.cell? ((⟨g,i*3,none⟩:Addr).add j)=some v:=fun j v hv=>by
 have:=row_cell5 V hsp (rcs_get hq hv)
 rw [Addr.add_mid]
 exact this
def tkr (top now:Int) (rs:List Rcd):Int:=match rs.find? fun r=>decide ((r.c:Int)=top) with | some r=>max 0 (now-r.m) | none=>-1
theorem stk_none {top now:Int}:∀ (rs:List Rcd) (a:Int),(∀ r∈rs,(r.c:Int)≠top)→rs.foldl (fun a r=>if (r.c:Int)=top then max 0 ((smom now:Int)-r.m) else a) a=a
 | [],_,_=>rfl
 | r::rs,a,h=>by
   show rs.foldl _ (if (r.c:Int)=top then _ else a)=a
   rw [if_neg (h r mS)]
   exact stk_none rs a fun x hx=>h x (mT _ hx)
theorem stk_tkr (top now:Int) (q:Rcd→Bool) (hq:∀ r:Rcd,(r.c:Int)=top→q r=true):∀ (rs:List Rcd),(rs.Pairwise fun a b=>a.c<b.c)→stk top now rs=tkr top (smom now) (rs.filter q)
 | [],_=>rfl
 | r::rs,h=>by
   obtain ⟨h1,h2⟩:=List.pairwise_cons.1 h
   by_cases c:(r.c:Int)=top
   · have e1:stk top now (r::rs)=max 0 ((smom now:Int)-r.m):=by
      show rs.foldl _ (if (r.c:Int)=top then _ else _)=_
      rw [if_pos c]
      exact stk_none rs _ fun x hx e=>by have:=h1 x hx; omega
     rw [e1,List.filter_cons,if_pos (hq r c)]
     unfold tkr
     rw [List.find?_cons,decide_eq_true c]
   · have e1:stk top now (r::rs)=stk top now rs:=by
      show rs.foldl _ (if (r.c:Int)=top then _ else _)=_
      rw [if_neg c]
      rfl
     rw [e1,stk_tkr top now q hq rs h2,List.filter_cons]
     split
     · unfold tkr
       rw [List.find?_cons,decide_eq_false c]
     · rfl
theorem vclk21_any (n:Int) (w:World) :
 Calls Try.prog 34 #[.int .i64 n] w fun e w'=>e=.returned (.int .i64 ((smom n:Nat):Int))∧Below w.heap.size w w':=by
 have hsm:=show Hid _ from (show ((smom n:Nat):Int)=max 0 (min n 1099511627776) by unfold smom; omega); have M:=Mm.init w
 go_enter Try.func34,Try.ntmps34
 go_upto_region 0 with fail; refine wp_region_list ?_; refine xpL (.int .i64 0) ?_; refine xT ?_; go_upto_region 1 with fail; refine wp_region_list ?_; refine xpL (.int .i64 n) ?_; refine xaL (.int .i64 (max n 0)) (maxI .i64 .i64 _ _ _ _ _ _ _ rfl rfl rfl (by split <;> omega) _) ?_
 refine xaL (.int .i64 ((smom n:Nat):Int)) (minI .i64 .i64 _ _ _ _ _ _ _ rfl rfl rfl (by have h_:=hsm.out; split <;> omega) _) ?_; refine xpL (.int .i64 ((smom n:Nat):Int)) ?_; refine xT ?_; have hbel:=M.below; clear M ; go_wp2; go_ret
 exact ⟨rfl,hbel⟩
theorem vcar21_any (base:Nat) (Z:List (Rcd × Option Addr × Nat)) (sr:Option Addr) (cr:Nat) (hz:Z.length<1000000000) (hs:(sall (Z.map Prod.fst)).length<1000000000) (w:World) (V:w.ownsRow base 72 3 (.slice sr Z.length cr) Z.length (rcs Z)) (K:Pks w Z) :
 Calls Try.prog 32 #[.slice sr Z.length cr] w fun e w'=>∃ sq cq,e=.returned (.slice sq (sall (Z.map Prod.fst)).length cq)∧w'.ownsRow w.heap.size 38 2 (.slice sq (sall (Z.map Prod.fst)).length cq) (sall (Z.map Prod.fst)).length (wrc (sall (Z.map Prod.fst)))∧Below w.heap.size w w':=by
 have M:=Mm.init w
 go_enter Try.func32,Try.ntmps32
 go_upto_region 0 with fail; refine wp_region_list ?_; refine xpL (.slice none 0 0) ?_; refine xT ?_; go_upto_region 1 with fail; refine wp_region_list ?_; refine xpL (.slice none 0 0) ?_; refine xT ?_; go_upto_region 2 with fail; refine wp_region_list ?_; refine xpL (.slice sr Z.length cr) ?_
 refine xaL (.int .i64 ((Z.length:Nat):Int)) (lenS _ 61 72 sr Z.length cr rfl Try.underlying61 rfl _) ?_; refine xpL (.int .i64 0) ?_; refine xT ?_; clear M; go_wp2
 go_loopw [3,8] (fun o_ v_ w'=>∃ (i':Nat) (so:Option Addr) (co:Nat),i'≤Z.length∧o_=.slice so (sall ((Z.take i').map Prod.fst)).length co∧v_=.int .i64 (i':Int)∧w'.ownsRow w.heap.size 38 2 (.slice so (sall ((Z.take i').map Prod.fst)).length co) (sall ((Z.take i').map Prod.fst)).length (wrc (sall ((Z.take i').map Prod.fst)))∧Below w.heap.size w w') (fun o_ v_ _=>Z.length-(intOf v_).toNat)
 case atStart=>exact ⟨0,none,0,Nat.zero_le _,rfl,rfl,World.ownsRow_nil w w.heap.size 38 2,Below.refl _ _⟩
 case round =>
  obtain ⟨i,so,co,hi,rfl,rfl,VO,hB⟩:=hrel
  replace V:=ownsRow_bel V hB; replace K:=K.below hB; have M:=Mm.init wr; have hpt:=sall_part Z i
  by_cases hil:i<Z.length
  · go_upto_region 3 with fail
    refine wp_region_list ?_; refine xaL (.bool true) (lssI .i64 _ _ _ _ _ _ rfl rfl rfl true (decide_eq_true (by omega)) _) ?_; refine xT ?_
    obtain ⟨q,hq⟩:∃ q,Z[i]?=some q:=⟨_,List.getElem?_eq_getElem hil⟩
    obtain ⟨g,hg⟩:=row_some5 V (by omega)
    have hk:=K q (List.mem_of_getElem? hq); have hpt2:=sall_part Z (i+1)
    rw [sall_take hq,List.length_append] at hpt2
    go_upto_region 4 with fail; refine wp_region_list ?_; refine xaL (.pointer (some ⟨g,i*3,none⟩)) (idxR3p g _ _ i sr hg (List.getElem?_eq_some_iff.1 hq).1 _ _ rfl rfl rfl _) ?_
    refine xaL (.agg #[.int .i64 ((q.1.c:Nat):Int),.int .i64 ((q.1.m:Nat):Int),.slice q.2.1 q.1.cs.length q.2.2]) (loadN 72 _ ⟨g,i*3,none⟩ [.int .i64 ((q.1.c:Nat):Int),.int .i64 ((q.1.m:Nat):Int),.slice q.2.1 q.1.cs.length q.2.2] rfl rfl (fun _=>by kernel_rfl) (fun _=>by kernel_rfl) (row_rec21 V hg hq)) ?_
    refine actL (w':=wr.alloc (.cells #[.int .i64 0,.int .i64 0,.slice none 0 0] 72)) (.pointer (some ⟨wr.heap.size,0,none⟩)) rfl (by kernel_rfl) ?_; simp only [aP,lI,l0,lS]
    have hB_B1:wr.heap.size≤wr.heap.size:=M.below.size
    replace M:=M.box #[.int .i64 0,.int .i64 0,.slice none 0 0] 72 wr.heap.size rfl; generalize wr.alloc (.cells #[.int .i64 0,.int .i64 0,.slice none 0 0] 72)=w1 at M  ⊢; generalize eB:wr.heap.size=B1 at M hB_B1  ⊢
    have hE_B1:wr.heap.size≤B1:=Nat.le_of_eq eB
    have hF_B1:B1≤wr.heap.size:=Nat.le_of_eq eB.symm
    clear eB
    replace M:Mm wr ((B1,[.int .i64 0,.int .i64 0,.slice none 0 0])::([]:List (Nat × List Value))) w1:=M
    refine skipOpL rfl (storeP [.int .i64 ((q.1.c:Nat):Int),.int .i64 ((q.1.m:Nat):Int),.slice q.2.1 q.1.cs.length q.2.2] B1 0 72 _ _ rfl rfl rfl (M.thereP mS 0 3 (Nat.le_of_ble_eq_true rfl)) (by kernel_rfl) (List.all_eq_true.1 (rfl:([.int .i64 ((q.1.c:Nat):Int),.int .i64 ((q.1.m:Nat):Int),.slice q.2.1 q.1.cs.length q.2.2]:List Value).all (fun u=>u.oneCell')=true))) ?_
    simp only [Act.put]; replace M:=M.setPart [.int .i64 ((q.1.c:Nat):Int),.int .i64 ((q.1.m:Nat):Int),.slice q.2.1 q.1.cs.length q.2.2] 0 (Nat.le_of_ble_eq_true rfl); generalize w1.setCells B1 0 [.int .i64 ((q.1.c:Nat):Int),.int .i64 ((q.1.m:Nat):Int),.slice q.2.1 q.1.cs.length q.2.2]=w2 at M  ⊢
    replace M:Mm wr ((B1,[.int .i64 ((q.1.c:Nat):Int),.int .i64 ((q.1.m:Nat):Int),.slice q.2.1 q.1.cs.length q.2.2])::([]:List (Nat × List Value))) w2:=M
    refine xT ?_; go_upto_region 5 with fail; refine wp_region_list ?_; refine xpL (.slice so ((sall ((Z.take i).map Prod.fst)).length) co) ?_; refine xpL (.pointer (some ⟨B1,2,none⟩)) ?_; refine xaL (.slice q.2.1 q.1.cs.length q.2.2) (load1 28 _ ⟨B1,2,none⟩ _ rfl rfl (fun _=>by kernel_rfl) (M.get mS 2 _ rfl)) ?_; replace hk:=hk.below M.below; replace VO:=ownsRow_bel VO M.below
    have hB1:=hB.trans (M.below.mono hB.size)
    have hcl:∀ j u,(wrc q.1.cs)[j]?=some u→∃ ad,q.2.1=some ad∧w2.cell? (ad.add j)=some u:=fun j u hu=>by
     obtain ⟨_,_,e_,_,_,h_⟩:=hk
     injection e_ with e1_
     subst e1_
     exact h_ j u hu
    obtain ⟨v2,w9,hr,V2,hgr,hg2⟩:=run_append_opt (P:=Try.prog) (ty:=28) Try.underlying28 manyW rfl (by decide) VO q.2.1 q.1.cs.length q.2.2 (wrc q.1.cs) (wrc_len q.1.cs) hcl (wrc_one q.1.cs) (by unfold maxLen; omega) (by omega) hB1.size
    have hB2:=hB1.grown hgr hB1.size (fun b_ hb_=>(World.ownsRow.lt VO b_ hb_).1)
    obtain ⟨sv,cv,rfl,_,_⟩:=row_form16 V2
    refine xaL _ (appendOp _ _ 28 _ _ _ rfl rfl rfl hr) ?_; clear hr hgr hg2 M VO V K hcl hB1 hk
    rw [← wrc_ap] at V2
    rw [← List.length_append] at V2 ⊢
    rw [← sall_take hq] at V2 ⊢
    refine xpL (.slice sv ((sall ((Z.take (i+1)).map Prod.fst)).length) cv) ?_; refine xT ?_; have HS:=show Hid _ from (And.intro V2 hB2); clear V2 hB2 hB; go_wp2
    go_roundw
    case rel=>exact ⟨i+1,sv,cv,by omega,rfl,by go_num,HS.out⟩
    case measure=>simp [intOf]; omega
  · go_upto_region 3 with fail
    refine wp_region_list ?_; refine xaL (.bool false) (lssI .i64 _ _ _ _ _ _ rfl rfl rfl false (decide_eq_false (by omega)) _) ?_; refine xT ?_; go_upto_region 7 with fail; refine wp_region_list ?_; refine xpL (.slice so ((sall ((Z.take i).map Prod.fst)).length) co) ?_; refine xpL (.slice so ((sall ((Z.take i).map Prod.fst)).length) co) ?_; refine xT ?_
    obtain rfl:i=Z.length:=by omega
    rw [List.take_length] at VO ⊢
    have HS:=show Hid _ from (And.intro VO hB); clear M VO hB V K; go_wp2; go_ret
    exact ⟨so,co,rfl,HS.out⟩
def inx21 (x:Int × Int) (n:Int):Bool:=decide (x.1≤n∧n<x.2)
theorem vam1_any (x:Int × Int) (c:Nat) (n:Int) (w:World) (hc:w.cell? ⟨c,0,none⟩=some (.int .i64 n)) :
 Calls Try.prog 50 #[.agg #[.int .i64 x.1,.int .i64 x.2],.pointer (some ⟨c,0,none⟩)] w fun e w'=>e=.returned (.bool (inx21 x n))∧Below w.heap.size w w':=by
 have M:=Mm.init w
 go_enter Try.func50,Try.ntmps50
 go_upto_region 0 with fail; refine wp_region_list ?_; refine actL (w':=w.alloc (.cells #[.int .i64 x.1,.int .i64 x.2] 38)) (.pointer (some ⟨w.heap.size,0,none⟩)) rfl (by kernel_rfl) ?_; simp only [aP,lI,l0,lS]
 have hB_B1:w.heap.size≤w.heap.size:=M.below.size
 replace M:=M.box #[.int .i64 x.1,.int .i64 x.2] 38 w.heap.size rfl; generalize w.alloc (.cells #[.int .i64 x.1,.int .i64 x.2] 38)=w1 at M  ⊢; generalize eB:w.heap.size=B1 at M hB_B1  ⊢
 have hE_B1:w.heap.size≤B1:=Nat.le_of_eq eB
 have hF_B1:B1≤w.heap.size:=Nat.le_of_eq eB.symm
 clear eB
 replace M:Mm w ((B1,[.int .i64 x.1,.int .i64 x.2])::([]:List (Nat × List Value))) w1:=M
 refine xpL (.bool false) ?_; refine xT ?_
 by_cases h1:x.1≤n
 · by_cases h2:n<x.2
   · go_upto_region 1 with fail
     refine wp_region_list ?_; refine xpL (.pointer (some ⟨B1,0,none⟩)) ?_; refine xaL (.int .i64 x.1) (load1 3 _ ⟨B1,0,none⟩ _ rfl rfl (fun _=>by kernel_rfl) (M.get mS 0 _ rfl)) ?_; refine xaL (.int .i64 n) (load1 3 _ ⟨c,0,none⟩ _ rfl rfl (fun _=>by kernel_rfl) (cell21 M.below hc)) ?_; refine xaL (.bool true) (leqI .i64 _ _ _ _ _ _ rfl rfl rfl true (decide_eq_true (by omega)) _) ?_
     refine xpL (.bool true) ?_; refine xaL (.int .i64 n) (load1 3 _ ⟨c,0,none⟩ _ rfl rfl (fun _=>by kernel_rfl) (cell21 M.below hc)) ?_; refine xpL (.pointer (some ⟨B1,1,none⟩)) ?_; refine xaL (.int .i64 x.2) (load1 3 _ ⟨B1,1,none⟩ _ rfl rfl (fun _=>by kernel_rfl) (M.get mS 1 _ rfl)) ?_; refine xaL (.bool true) (lssI .i64 _ _ _ _ _ _ rfl rfl rfl true (decide_eq_true (by omega)) _) ?_
     refine xpL (.bool true) ?_; refine xpL (.bool true) ?_; refine xT ?_; have hE:=show Hid _ from (show inx21 x n=true from decide_eq_true (by omega)); have hbel:=M.below; clear M ; go_wp2; go_ret
     exact ⟨by rw [hE.out]; try rfl,hbel⟩
   · go_upto_region 1 with fail
     refine wp_region_list ?_; refine xpL (.pointer (some ⟨B1,0,none⟩)) ?_; refine xaL (.int .i64 x.1) (load1 3 _ ⟨B1,0,none⟩ _ rfl rfl (fun _=>by kernel_rfl) (M.get mS 0 _ rfl)) ?_; refine xaL (.int .i64 n) (load1 3 _ ⟨c,0,none⟩ _ rfl rfl (fun _=>by kernel_rfl) (cell21 M.below hc)) ?_; refine xaL (.bool true) (leqI .i64 _ _ _ _ _ _ rfl rfl rfl true (decide_eq_true (by omega)) _) ?_
     refine xpL (.bool true) ?_; refine xaL (.int .i64 n) (load1 3 _ ⟨c,0,none⟩ _ rfl rfl (fun _=>by kernel_rfl) (cell21 M.below hc)) ?_; refine xpL (.pointer (some ⟨B1,1,none⟩)) ?_; refine xaL (.int .i64 x.2) (load1 3 _ ⟨B1,1,none⟩ _ rfl rfl (fun _=>by kernel_rfl) (M.get mS 1 _ rfl)) ?_; refine xaL (.bool false) (lssI .i64 _ _ _ _ _ _ rfl rfl rfl false (decide_eq_false (by omega)) _) ?_
     refine xpL (.bool false) ?_; refine xpL (.bool false) ?_; refine xT ?_; have hE:=show Hid _ from (show inx21 x n=false from decide_eq_false (by omega)); have hbel:=M.below; clear M ; go_wp2; go_ret
     exact ⟨by rw [hE.out]; try rfl,hbel⟩
 · go_upto_region 1 with fail
   refine wp_region_list ?_; refine xpL (.pointer (some ⟨B1,0,none⟩)) ?_; refine xaL (.int .i64 x.1) (load1 3 _ ⟨B1,0,none⟩ _ rfl rfl (fun _=>by kernel_rfl) (M.get mS 0 _ rfl)) ?_; refine xaL (.int .i64 n) (load1 3 _ ⟨c,0,none⟩ _ rfl rfl (fun _=>by kernel_rfl) (cell21 M.below hc)) ?_; refine xaL (.bool false) (leqI .i64 _ _ _ _ _ _ rfl rfl rfl false (decide_eq_false (by omega)) _) ?_
   refine xpL (.bool false) ?_
   with_reducible refine skipL ?_ ?_
   · rfl
   simp only [aP,lI,l0,lS]
   with_reducible refine skipL ?_ ?_
   · rfl
   simp only [aP,lI,l0,lS]
   with_reducible refine skipL ?_ ?_
   · rfl
   simp only [aP,lI,l0,lS]
   with_reducible refine skipL ?_ ?_
   · rfl
   simp only [aP,lI,l0,lS]; refine xpL (.bool false) ?_; refine xpL (.bool false) ?_; refine xT ?_; have hE:=show Hid _ from (show inx21 x n=false from decide_eq_false (by omega)); have hbel:=M.below; clear M ; go_wp2; go_ret
   exact ⟨by rw [hE.out]; try rfl,hbel⟩
def inr21 (k:List (Int × Int)) (n:Int):Bool:=k.any fun x=>inx21 x n
theorem inr21_no {k:List (Int × Int)} {n:Int} (h:∀ j p,j<k.length→k[j]?=some p→¬ (p.1≤n∧n<p.2)):inr21 k n=false:=by
 rw [Bool.eq_false_iff]
 intro c
 obtain ⟨p,hp,hq⟩:=List.any_eq_true.1 c
 obtain ⟨j,hj,hje⟩:=List.mem_iff_getElem.1 hp
 exact h j p hj (by rw [List.getElem?_eq_getElem hj,hje]) (of_decide_eq_true hq)
theorem inr21_yes {k:List (Int × Int)} {n:Int} {i:Nat} {p:Int × Int} (h:k[i]?=some p) (hp:p.1≤n∧n<p.2):inr21 k n=true:=List.any_eq_true.2 ⟨p,List.mem_of_getElem? h,decide_eq_true hp⟩
theorem vix21_any (k:List (Int × Int)) (sk:Option Addr) (ck:Nat) (hk:k.length<140737488355328) (c:Nat) (n:Int) (w:World) (hc:w.cell? ⟨c,0,none⟩=some (.int .i64 n)) (N:RgW w k (.slice sk k.length ck)) :
 Calls Try.prog 55 #[.slice sk k.length ck,.func (.func 50) #[] #[.pointer (some ⟨c,0,none⟩)]] w fun e w'=>∃ r:Int,e=.returned (.int .i64 r)∧decide (r≥0)=inr21 k n∧Below w.heap.size w w':=by
 have M:=Mm.init w
 go_enter Try.func55,Try.ntmps55
 go_upto_region 0 with fail; refine wp_region_list ?_; refine xpL (.int .i64 0) ?_; refine xT ?_; go_upto_region 1 with fail; refine wp_region_list ?_; refine xpL (.slice sk k.length ck) ?_; refine xaL (.int .i64 ((k.length:Nat):Int)) (lenS _ 28 38 sk k.length ck rfl Try.underlying28 rfl _) ?_; refine xpL (.int .i64 0) ?_; refine xT ?_; clear M; go_wp2
 go_loopw [8] (fun v_ w'=>∃ i:Nat,i≤k.length∧v_=.int .i64 (i:Int)∧(∀ j p,j<i→k[j]?=some p→¬ (p.1≤n∧n<p.2))∧Below w.heap.size w w') (fun v_ _=>k.length-(intOf v_).toNat)
 case atStart=>exact ⟨0,Nat.zero_le _,rfl,fun _ _ h=>absurd h (xnZ _),Below.refl _ _⟩
 case round =>
  obtain ⟨i,hi,rfl,hb,hB⟩:=hrel
  have M:=(Mm.init w).call hB
  by_cases hil:i<k.length
  · go_upto_region 2 with fail
    refine wp_region_list ?_; refine xaL (.bool true) (lssI .i64 _ _ _ _ _ _ rfl rfl rfl true (decide_eq_true (by omega)) _) ?_; refine xT ?_
    obtain ⟨p,hp⟩:∃ p,k[i]?=some p:=⟨_,List.getElem?_eq_getElem hil⟩
    obtain ⟨adr,hadr,_,_⟩:=RgW.at N hp
    subst hadr; go_upto_region 3 with fail; refine wp_region_list ?_; refine xpL (.int .i64 (i:Int)) ?_; refine xpL (.int .i64 (i:Int)) ?_; refine xT ?_
    cases hb2:inx21 p n with
    | true =>
      go_upto_region 4 with fail; refine wp_region_list ?_; refine xpL (.func (.func 50) #[] #[.pointer (some ⟨c,0,none⟩)]) ?_; refine xpL (.slice (some adr) k.length ck) ?_; refine xpL (.int .i64 (i:Int)) ?_; refine readL (.pointer (some (adr.add (i*2)))) rfl (idxR2 adr _ _ i hil _ _ rfl rfl rfl _) ?_; simp only [aP,lI,l0,lS]
      refine xaL (.agg #[.int .i64 p.1,.int .i64 p.2]) (loadN 38 _ (adr.add (i*2)) [.int .i64 p.1,.int .i64 p.2] rfl rfl (fun _=>by kernel_rfl) (fun _=>by kernel_rfl) (RgW.rng (N.below M.below) hp)) ?_; have key_:=vam1_any p c n wr (cell21 M.below hc)
      rw [hb2] at key_
      have key:=key_; refine xcL key ?_; clear key; rintro e w1 ⟨rfl,l_⟩; replace M:=M.call l_
      clear l_; refine xeL ?_; clear key_; refine xT ?_; go_upto_region 5 with fail; refine wp_region_list ?_; refine xpL (.int .i64 (i:Int)) ?_; refine xpL (.int .i64 (i:Int)) ?_; refine xT ?_; have hE:=show Hid _ from (show decide (((i:Nat):Int)≥0)=inr21 k n from by rw [inr21_yes hp (of_decide_eq_true hb2)]; exact decide_eq_true (by omega)); have hbel:=M.below; clear M; go_wp2
      go_ret
      first | exact ⟨_,rfl,hE.out,hbel⟩ | exact ⟨rfl,hE.out,hbel⟩
    | false =>
      go_upto_region 4 with fail; refine wp_region_list ?_; refine xpL (.func (.func 50) #[] #[.pointer (some ⟨c,0,none⟩)]) ?_; refine xpL (.slice (some adr) k.length ck) ?_; refine xpL (.int .i64 (i:Int)) ?_; refine readL (.pointer (some (adr.add (i*2)))) rfl (idxR2 adr _ _ i hil _ _ rfl rfl rfl _) ?_; simp only [aP,lI,l0,lS]
      refine xaL (.agg #[.int .i64 p.1,.int .i64 p.2]) (loadN 38 _ (adr.add (i*2)) [.int .i64 p.1,.int .i64 p.2] rfl rfl (fun _=>by kernel_rfl) (fun _=>by kernel_rfl) (RgW.rng (N.below M.below) hp)) ?_; have key_:=vam1_any p c n wr (cell21 M.below hc)
      rw [hb2] at key_
      have key:=key_; refine xcL key ?_; clear key; rintro e w2 ⟨rfl,l_⟩; replace M:=M.call l_
      clear l_; refine xeL ?_; clear key_; refine xT ?_; have hbel:=show Hid _ from M.below; clear M; go_wp2
      go_roundw
      case rel=>exact ⟨i+1,by omega,by go_num,fun j r hj hr=>by
       rcases Nat.lt_or_ge j i with h_ | h_
       · exact hb j r h_ hr
       · obtain rfl:j=i:=by omega
         rw [hp] at hr
         obtain rfl:=Option.some.inj hr
         exact of_decide_eq_false hb2,hbel.out⟩
      case measure=>simp [intOf]; omega
  · go_upto_region 2 with fail
    refine wp_region_list ?_; refine xaL (.bool false) (lssI .i64 _ _ _ _ _ _ rfl rfl rfl false (decide_eq_false (by omega)) _) ?_; refine xT ?_; go_upto_region 7 with fail; refine wp_region_list ?_; refine xpL (.int .i64 (-1)) ?_; refine xT ?_; have hE:=show Hid _ from (show decide ((-1:Int)≥0)=inr21 k n from by rw [inr21_no fun j r hj hr=>hb j r (by omega) hr]; rfl)
    have hbel:=M.below; clear M; go_wp2; go_ret
    first | exact ⟨_,rfl,hE.out,hbel⟩ | exact ⟨rfl,hE.out,hbel⟩
theorem vcf21_any (k:List (Int × Int)) (sk:Option Addr) (ck:Nat) (hk:k.length<140737488355328) (c:Nat) (n:Int) (w:World) (hc:w.cell? ⟨c,0,none⟩=some (.int .i64 n)) (N:RgW w k (.slice sk k.length ck)) :
 Calls Try.prog 49 #[.slice sk k.length ck,.func (.func 50) #[] #[.pointer (some ⟨c,0,none⟩)]] w fun e w'=>e=.returned (.bool (inr21 k n))∧Below w.heap.size w w':=by
 have M:=Mm.init w
 go_enter Try.func49,Try.ntmps49
 go_upto_region 0 with fail; refine wp_region_list ?_; refine xpL (.bool false) ?_; refine xT ?_; go_upto_region 1 with fail; refine wp_region_list ?_; refine xpL (.slice sk k.length ck) ?_; refine xpL (.func (.func 50) #[] #[.pointer (some ⟨c,0,none⟩)]) ?_; have key:=vix21_any k sk ck hk c n _ (cell21 M.below hc) (N.below M.below); refine xcL key ?_; clear key; rintro e w2 ⟨r_,rfl,hr_,l_⟩
 replace M:=M.call l_
 clear l_; refine xeL ?_; refine xaL (.bool (inr21 k n)) (geqI .i64 _ _ _ _ _ _ rfl rfl rfl (inr21 k n) hr_ _) ?_; refine xpL (.bool (inr21 k n)) ?_; refine xT ?_; have hbel:=M.below; clear M ; go_wp2; go_ret
 exact ⟨rfl,hbel⟩
theorem vamg21_any (k:List (Int × Int)) (sk:Option Addr) (ck:Nat) (hk:k.length<140737488355328) (n:Int) (w:World) (N:RgW w k (.slice sk k.length ck)) :
 Calls Try.prog 39 #[.slice sk k.length ck,.int .i64 n] w fun e w'=>e=.returned (.bool (inr21 k n))∧Below w.heap.size w w':=by
 have M:=Mm.init w
 go_enter Try.func39,Try.ntmps39
 go_upto_region 0 with fail; refine wp_region_list ?_; refine actL (w':=w.alloc (.cells #[.int .i64 n] 3)) (.pointer (some ⟨w.heap.size,0,none⟩)) rfl (by kernel_rfl) ?_; simp only [aP,lI,l0,lS]
 have hB_B1:w.heap.size≤w.heap.size:=M.below.size
 replace M:=M.box #[.int .i64 n] 3 w.heap.size rfl; generalize w.alloc (.cells #[.int .i64 n] 3)=w1 at M  ⊢; generalize eB:w.heap.size=B1 at M hB_B1  ⊢
 have hE_B1:w.heap.size≤B1:=Nat.le_of_eq eB
 have hF_B1:B1≤w.heap.size:=Nat.le_of_eq eB.symm
 clear eB
 replace M:Mm w ((B1,[.int .i64 n])::([]:List (Nat × List Value))) w1:=M
 refine xpL (.bool false) ?_; refine xT ?_; go_upto_region 1 with fail; refine wp_region_list ?_; refine xpL (.slice sk k.length ck) ?_; refine xpL (.func (.func 50) #[] #[.pointer (some ⟨B1,0,none⟩)]) ?_; have key:=vcf21_any k sk ck hk B1 n _ (M.get mS 0 _ rfl) (N.below M.below); refine xcL key ?_; clear key; rintro e w3 ⟨rfl,l_⟩; replace M:=M.call l_
 clear l_; refine xeL ?_; refine xpL (.bool (inr21 k n)) ?_; refine xT ?_; have hbel:=M.below; clear M ; go_wp2; go_ret
 exact ⟨rfl,hbel⟩
theorem vg1_any (q:Rcd × Option Addr × Nat) (k:List (Int × Int)) (sk:Option Addr) (ck:Nat) (hk:k.length<140737488355328) (c d:Nat) (top:Int) (w:World) (hc:w.cell? ⟨c,0,none⟩=some (.int .i64 top)) (hd:w.cell? ⟨d,0,none⟩=some (.slice sk k.length ck)) (N:RgW w k (.slice sk k.length ck)) :
 Calls Try.prog 38 #[.agg #[.int .i64 ((q.1.c:Nat):Int),.int .i64 ((q.1.m:Nat):Int),.slice q.2.1 q.1.cs.length q.2.2],.pointer (some ⟨c,0,none⟩),.pointer (some ⟨d,0,none⟩)] w fun e w'=>e=.returned (.bool (stl q.1.c top k))∧Below w.heap.size w w':=by
 have M:=Mm.init w
 go_enter Try.func38,Try.ntmps38
 go_upto_region 0 with fail; refine wp_region_list ?_; refine actL (w':=w.alloc (.cells #[.int .i64 ((q.1.c:Nat):Int),.int .i64 ((q.1.m:Nat):Int),.slice q.2.1 q.1.cs.length q.2.2] 72)) (.pointer (some ⟨w.heap.size,0,none⟩)) rfl (by kernel_rfl) ?_; simp only [aP,lI,l0,lS]
 have hB_B1:w.heap.size≤w.heap.size:=M.below.size
 replace M:=M.box #[.int .i64 ((q.1.c:Nat):Int),.int .i64 ((q.1.m:Nat):Int),.slice q.2.1 q.1.cs.length q.2.2] 72 w.heap.size rfl; generalize w.alloc (.cells #[.int .i64 ((q.1.c:Nat):Int),.int .i64 ((q.1.m:Nat):Int),.slice q.2.1 q.1.cs.length q.2.2] 72)=w1 at M  ⊢; generalize eB:w.heap.size=B1 at M hB_B1  ⊢
 have hE_B1:w.heap.size≤B1:=Nat.le_of_eq eB
 have hF_B1:B1≤w.heap.size:=Nat.le_of_eq eB.symm
 clear eB
 replace M:Mm w ((B1,[.int .i64 ((q.1.c:Nat):Int),.int .i64 ((q.1.m:Nat):Int),.slice q.2.1 q.1.cs.length q.2.2])::([]:List (Nat × List Value))) w1:=M
 refine xpL (.bool false) ?_; refine xT ?_
 by_cases h1:((q.1.c:Nat):Int)=top
 · go_upto_region 1 with fail
   refine wp_region_list ?_; refine xpL (.pointer (some ⟨B1,0,none⟩)) ?_; refine xaL (.int .i64 ((q.1.c:Nat):Int)) (load1 3 _ ⟨B1,0,none⟩ _ rfl rfl (fun _=>by kernel_rfl) (M.get mS 0 _ rfl)) ?_; refine xaL (.int .i64 top) (load1 3 _ ⟨c,0,none⟩ _ rfl rfl (fun _=>by kernel_rfl) (cell21 M.below hc)) ?_
   refine xaL (.bool true) (eqlI .i64 _ _ _ _ _ _ rfl rfl rfl true (beq_iff_eq.2 (h1)) _) ?_; refine xpL (.bool true) ?_
   with_reducible refine skipL ?_ ?_
   · rfl
   simp only [aP,lI,l0,lS]
   with_reducible refine skipL ?_ ?_
   · rfl
   simp only [aP,lI,l0,lS]
   with_reducible refine skipL ?_ ?_
   · rfl
   simp only [aP,lI,l0,lS]
   with_reducible refine skipL ?_ ?_
   · rfl
   simp only [aP,lI,l0,lS]; refine xpL (.bool true) ?_; refine xpL (.bool true) ?_; refine xT ?_; have hE:=show Hid _ from (show stl q.1.c top k=true by unfold stl; rw [beq_iff_eq.2 h1,Bool.or_true]); have hbel:=M.below; clear M ; go_wp2; go_ret
   exact ⟨by rw [hE.out]; try rfl,hbel⟩
 · go_upto_region 1 with fail
   refine wp_region_list ?_; refine xpL (.pointer (some ⟨B1,0,none⟩)) ?_; refine xaL (.int .i64 ((q.1.c:Nat):Int)) (load1 3 _ ⟨B1,0,none⟩ _ rfl rfl (fun _=>by kernel_rfl) (M.get mS 0 _ rfl)) ?_; refine xaL (.int .i64 top) (load1 3 _ ⟨c,0,none⟩ _ rfl rfl (fun _=>by kernel_rfl) (cell21 M.below hc)) ?_
   refine xaL (.bool false) (eqlI .i64 _ _ _ _ _ _ rfl rfl rfl false (beq_eq_false_iff_ne.2 (h1)) _) ?_; refine xpL (.bool false) ?_; refine xaL (.slice sk k.length ck) (load1 28 _ ⟨d,0,none⟩ _ rfl rfl (fun _=>by kernel_rfl) (cell21 M.below hd)) ?_; refine xpL (.pointer (some ⟨B1,0,none⟩)) ?_
   refine xaL (.int .i64 ((q.1.c:Nat):Int)) (load1 3 _ ⟨B1,0,none⟩ _ rfl rfl (fun _=>by kernel_rfl) (M.get mS 0 _ rfl)) ?_; have key:=vamg21_any k sk ck hk ((q.1.c:Nat):Int) _ (N.below M.below); refine xcL key ?_; clear key; rintro e w3 ⟨rfl,l_⟩; replace M:=M.call l_
   clear l_; refine xeL ?_; refine xpL (.bool (inr21 k ((q.1.c:Nat):Int))) ?_; refine xpL (.bool (inr21 k ((q.1.c:Nat):Int))) ?_; refine xT ?_; have hE:=show Hid _ from (show stl q.1.c top k=inr21 k ((q.1.c:Nat):Int) by unfold stl inr21; rw [beq_eq_false_iff_ne.2 h1,Bool.or_false]; rfl); have hbel:=M.below; clear M ; go_wp2; go_ret
   exact ⟨by rw [hE.out]; try rfl,hbel⟩
theorem vg2_any (q:Rcd × Option Addr × Nat) (hq:q.1.c≤281474976710655) (c:Nat) (top:Int) (w:World) (hc:w.cell? ⟨c,0,none⟩=some (.int .i64 top)) :
 Calls Try.prog 41 #[.agg #[.int .i64 ((q.1.c:Nat):Int),.int .i64 ((q.1.m:Nat):Int),.slice q.2.1 q.1.cs.length q.2.2],.pointer (some ⟨c,0,none⟩)] w fun e w'=>e=.returned (.bool (sold top q.1))∧Below w.heap.size w w':=by
 have M:=Mm.init w
 go_enter Try.func41,Try.ntmps41
 go_upto_region 0 with fail; refine wp_region_list ?_; refine actL (w':=w.alloc (.cells #[.int .i64 ((q.1.c:Nat):Int),.int .i64 ((q.1.m:Nat):Int),.slice q.2.1 q.1.cs.length q.2.2] 72)) (.pointer (some ⟨w.heap.size,0,none⟩)) rfl (by kernel_rfl) ?_; simp only [aP,lI,l0,lS]
 have hB_B1:w.heap.size≤w.heap.size:=M.below.size
 replace M:=M.box #[.int .i64 ((q.1.c:Nat):Int),.int .i64 ((q.1.m:Nat):Int),.slice q.2.1 q.1.cs.length q.2.2] 72 w.heap.size rfl; generalize w.alloc (.cells #[.int .i64 ((q.1.c:Nat):Int),.int .i64 ((q.1.m:Nat):Int),.slice q.2.1 q.1.cs.length q.2.2] 72)=w1 at M  ⊢; generalize eB:w.heap.size=B1 at M hB_B1  ⊢
 have hE_B1:w.heap.size≤B1:=Nat.le_of_eq eB
 have hF_B1:B1≤w.heap.size:=Nat.le_of_eq eB.symm
 clear eB
 replace M:Mm w ((B1,[.int .i64 ((q.1.c:Nat):Int),.int .i64 ((q.1.m:Nat):Int),.slice q.2.1 q.1.cs.length q.2.2])::([]:List (Nat × List Value))) w1:=M
 refine xpL (.bool false) ?_; refine xT ?_; go_upto_region 1 with fail; refine wp_region_list ?_; refine xpL (.pointer (some ⟨B1,0,none⟩)) ?_; refine xaL (.int .i64 ((q.1.c:Nat):Int)) (load1 3 _ ⟨B1,0,none⟩ _ rfl rfl (fun _=>by kernel_rfl) (M.get mS 0 _ rfl)) ?_; refine readL (.int .i64 (((q.1.c:Nat):Int)+3)) rfl (addI .i64 _ _ _ _ _ _ _ rfl rfl rfl (by rw [xw6]; omega) _) ?_
 simp only [aP,lI,l0,lS]; refine xaL (.int .i64 top) (load1 3 _ ⟨c,0,none⟩ _ rfl rfl (fun _=>by kernel_rfl) (cell21 M.below hc)) ?_; refine xaL (.bool (sold top q.1)) (leqI .i64 _ _ _ _ _ _ rfl rfl rfl (sold top q.1) rfl _) ?_; refine xpL (.bool (sold top q.1)) ?_; refine xT ?_; have hbel:=M.below; clear M ; go_wp2; go_ret
 exact ⟨rfl,hbel⟩
theorem vl1_any (q:Rcd × Option Addr × Nat) (c:Nat) (last:Int) (w:World) (hc:w.cell? ⟨c,0,none⟩=some (.int .i64 last)) :
 Calls Try.prog 45 #[.agg #[.int .i64 ((q.1.c:Nat):Int),.int .i64 ((q.1.m:Nat):Int),.slice q.2.1 q.1.cs.length q.2.2],.pointer (some ⟨c,0,none⟩)] w fun e w'=>e=.returned (.bool (decide (((q.1.m:Nat):Int)≤last)))∧Below w.heap.size w w':=by
 have M:=Mm.init w
 go_enter Try.func45,Try.ntmps45
 go_upto_region 0 with fail; refine wp_region_list ?_; refine actL (w':=w.alloc (.cells #[.int .i64 ((q.1.c:Nat):Int),.int .i64 ((q.1.m:Nat):Int),.slice q.2.1 q.1.cs.length q.2.2] 72)) (.pointer (some ⟨w.heap.size,0,none⟩)) rfl (by kernel_rfl) ?_; simp only [aP,lI,l0,lS]
 have hB_B1:w.heap.size≤w.heap.size:=M.below.size
 replace M:=M.box #[.int .i64 ((q.1.c:Nat):Int),.int .i64 ((q.1.m:Nat):Int),.slice q.2.1 q.1.cs.length q.2.2] 72 w.heap.size rfl; generalize w.alloc (.cells #[.int .i64 ((q.1.c:Nat):Int),.int .i64 ((q.1.m:Nat):Int),.slice q.2.1 q.1.cs.length q.2.2] 72)=w1 at M  ⊢; generalize eB:w.heap.size=B1 at M hB_B1  ⊢
 have hE_B1:w.heap.size≤B1:=Nat.le_of_eq eB
 have hF_B1:B1≤w.heap.size:=Nat.le_of_eq eB.symm
 clear eB
 replace M:Mm w ((B1,[.int .i64 ((q.1.c:Nat):Int),.int .i64 ((q.1.m:Nat):Int),.slice q.2.1 q.1.cs.length q.2.2])::([]:List (Nat × List Value))) w1:=M
 refine xpL (.bool false) ?_; refine xT ?_; go_upto_region 1 with fail; refine wp_region_list ?_; refine xpL (.pointer (some ⟨B1,1,none⟩)) ?_; refine xaL (.int .i64 ((q.1.m:Nat):Int)) (load1 3 _ ⟨B1,1,none⟩ _ rfl rfl (fun _=>by kernel_rfl) (M.get mS 1 _ rfl)) ?_; refine xaL (.int .i64 last) (load1 3 _ ⟨c,0,none⟩ _ rfl rfl (fun _=>by kernel_rfl) (cell21 M.below hc)) ?_
 refine readL (.bool (decide (((q.1.m:Nat):Int)≤last))) rfl (leqI .i64 _ _ _ _ _ _ rfl rfl rfl (decide (((q.1.m:Nat):Int)≤last)) rfl _) ?_; simp only [aP,lI,l0,lS]; refine xpL (.bool (decide (((q.1.m:Nat):Int)≤last))) ?_; refine xT ?_; have hbel:=M.below; clear M ; go_wp2; go_ret
 exact ⟨rfl,hbel⟩
theorem tkr_hit {Z:List (Rcd × Option Addr × Nat)} {top now:Int} {i:Nat} {q:Rcd × Option Addr × Nat} (hq:Z[i]?=some q) (hc:((q.1.c:Nat):Int)=top) (hb:∀ j r,j<i→Z[j]?=some r→((r.1.c:Nat):Int)≠top):tkr top now (Z.map Prod.fst)=max 0 (now-q.1.m):=by
 obtain ⟨hi,he⟩:=List.getElem?_eq_some_iff.1 hq
 have h1:(Z.map Prod.fst).find? (fun r=>decide ((r.c:Int)=top))=some q.1:=by
  rw [List.find?_eq_some_iff_getElem]
  refine ⟨decide_eq_true hc,i,by rw [List.length_map]; exact hi,by rw [List.getElem_map,he],fun j hj=>?_⟩
  have hj':j<Z.length:=by omega
  rw [List.getElem_map]
  have:=hb j Z[j] hj (List.getElem?_eq_getElem hj')
  simp [this]
 unfold tkr
 rw [h1]
theorem tkr_miss {Z:List (Rcd × Option Addr × Nat)} {top now:Int} (hb:∀ j r,j<Z.length→Z[j]?=some r→((r.1.c:Nat):Int)≠top):tkr top now (Z.map Prod.fst)=-1:=by
 have h1:(Z.map Prod.fst).find? (fun r=>decide ((r.c:Int)=top))=none:=by
  rw [List.find?_eq_none]
  intro r hr
  obtain ⟨q,hq,rfl⟩:=List.mem_map.1 hr
  obtain ⟨j,hj,hje⟩:=List.mem_iff_getElem.1 hq
  have:=hb j q hj (by rw [List.getElem?_eq_getElem hj,hje])
  simp [this]
 unfold tkr
 rw [h1]
theorem vtk21_any (base:Nat) (Z:List (Rcd × Option Addr × Nat)) (sr:Option Addr) (cr:Nat) (hz:Z.length<1000000000) (hm:∀ q∈Z,q.1.m≤1099511627776) (top now:Int) (hn:0≤now∧now≤1099511627776) (w:World) (V:w.ownsRow base 72 3 (.slice sr Z.length cr) Z.length (rcs Z)) :
 Calls Try.prog 42 #[.slice sr Z.length cr,.int .i64 top,.int .i64 now] w fun e w'=>e=.returned (.int .i64 (tkr top now (Z.map Prod.fst)))∧Below w.heap.size w w':=by
 have M:=Mm.init w
 go_enter Try.func42,Try.ntmps42
 go_upto_region 0 with fail; refine wp_region_list ?_; refine xpL (.int .i64 0) ?_; refine xT ?_; go_upto_region 1 with fail; refine wp_region_list ?_; refine xpL (.slice sr Z.length cr) ?_; refine xaL (.int .i64 ((Z.length:Nat):Int)) (lenS _ 61 72 sr Z.length cr rfl Try.underlying61 rfl _) ?_; refine xpL (.int .i64 0) ?_; refine xT ?_; clear M; go_wp2
 go_loopw [11] (fun v_ w'=>∃ i:Nat,i≤Z.length∧v_=.int .i64 (i:Int)∧(∀ j r,j<i→Z[j]?=some r→((r.1.c:Nat):Int)≠top)∧Below w.heap.size w w') (fun v_ _=>Z.length-(intOf v_).toNat)
 case atStart=>exact ⟨0,Nat.zero_le _,rfl,fun _ _ h=>absurd h (xnZ _),Below.refl _ _⟩
 case round =>
  obtain ⟨i,hi,rfl,hb,hB⟩:=hrel
  have M:=(Mm.init w).call hB
  by_cases hil:i<Z.length
  · go_upto_region 2 with fail
    refine wp_region_list ?_; refine xaL (.bool true) (lssI .i64 _ _ _ _ _ _ rfl rfl rfl true (decide_eq_true (by omega)) _) ?_; refine xT ?_
    obtain ⟨q,hq⟩:∃ q,Z[i]?=some q:=⟨_,List.getElem?_eq_getElem hil⟩
    obtain ⟨g,hg⟩:=row_some5 V (by omega)
    have hqm:=hm q (List.mem_of_getElem? hq); go_upto_region 3 with fail; refine wp_region_list ?_; refine xaL (.pointer (some ⟨g,i*3,none⟩)) (idxR3p g _ _ i sr hg (List.getElem?_eq_some_iff.1 hq).1 _ _ rfl rfl rfl _) ?_
    refine xaL (.agg #[.int .i64 ((q.1.c:Nat):Int),.int .i64 ((q.1.m:Nat):Int),.slice q.2.1 q.1.cs.length q.2.2]) (loadN 72 _ ⟨g,i*3,none⟩ [.int .i64 ((q.1.c:Nat):Int),.int .i64 ((q.1.m:Nat):Int),.slice q.2.1 q.1.cs.length q.2.2] rfl rfl (fun _=>by kernel_rfl) (fun _=>by kernel_rfl) (row_rec21 (ownsRow_bel V M.below) hg hq)) ?_
    refine actL (w':=wr.alloc (.cells #[.int .i64 0,.int .i64 0,.slice none 0 0] 72)) (.pointer (some ⟨wr.heap.size,0,none⟩)) rfl (by kernel_rfl) ?_; simp only [aP,lI,l0,lS]
    have hB_B1:w.heap.size≤wr.heap.size:=M.below.size
    replace M:=M.box #[.int .i64 0,.int .i64 0,.slice none 0 0] 72 wr.heap.size rfl; generalize wr.alloc (.cells #[.int .i64 0,.int .i64 0,.slice none 0 0] 72)=w1 at M  ⊢; generalize eB:wr.heap.size=B1 at M hB_B1  ⊢
    have hE_B1:wr.heap.size≤B1:=Nat.le_of_eq eB
    have hF_B1:B1≤wr.heap.size:=Nat.le_of_eq eB.symm
    clear eB
    replace M:Mm w ((B1,[.int .i64 0,.int .i64 0,.slice none 0 0])::([]:List (Nat × List Value))) w1:=M
    refine skipOpL rfl (storeP [.int .i64 ((q.1.c:Nat):Int),.int .i64 ((q.1.m:Nat):Int),.slice q.2.1 q.1.cs.length q.2.2] B1 0 72 _ _ rfl rfl rfl (M.thereP mS 0 3 (Nat.le_of_ble_eq_true rfl)) (by kernel_rfl) (List.all_eq_true.1 (rfl:([.int .i64 ((q.1.c:Nat):Int),.int .i64 ((q.1.m:Nat):Int),.slice q.2.1 q.1.cs.length q.2.2]:List Value).all (fun u=>u.oneCell')=true))) ?_
    simp only [Act.put]; replace M:=M.setPart [.int .i64 ((q.1.c:Nat):Int),.int .i64 ((q.1.m:Nat):Int),.slice q.2.1 q.1.cs.length q.2.2] 0 (Nat.le_of_ble_eq_true rfl); generalize w1.setCells B1 0 [.int .i64 ((q.1.c:Nat):Int),.int .i64 ((q.1.m:Nat):Int),.slice q.2.1 q.1.cs.length q.2.2]=w2 at M  ⊢
    replace M:Mm w ((B1,[.int .i64 ((q.1.c:Nat):Int),.int .i64 ((q.1.m:Nat):Int),.slice q.2.1 q.1.cs.length q.2.2])::([]:List (Nat × List Value))) w2:=M
    refine xT ?_
    by_cases h1:((q.1.c:Nat):Int)=top
    · go_upto_region 4 with fail
      refine wp_region_list ?_; refine xpL (.pointer (some ⟨B1,0,none⟩)) ?_; refine xaL (.int .i64 ((q.1.c:Nat):Int)) (load1 3 _ ⟨B1,0,none⟩ _ rfl rfl (fun _=>by kernel_rfl) (M.get mS 0 _ rfl)) ?_; refine xpL (.int .i64 top) ?_; refine xaL (.bool true) (eqlI .i64 _ _ _ _ _ _ rfl rfl rfl true (beq_iff_eq.2 (h1)) _) ?_; refine xT ?_; go_upto_region 5 with fail; refine wp_region_list ?_
      refine xpL (.int .i64 now) ?_; refine xpL (.pointer (some ⟨B1,1,none⟩)) ?_; refine xaL (.int .i64 ((q.1.m:Nat):Int)) (load1 3 _ ⟨B1,1,none⟩ _ rfl rfl (fun _=>by kernel_rfl) (M.get mS 1 _ rfl)) ?_; refine readL (.int .i64 (now-((q.1.m:Nat):Int))) rfl (subI .i64 _ _ _ _ _ _ _ rfl rfl rfl (by rw [xw6]; omega) _) ?_; simp only [aP,lI,l0,lS]
      refine readL (.int .i64 (max 0 (now-((q.1.m:Nat):Int)))) rfl (maxI .i64 .i64 _ _ _ _ _ _ _ rfl rfl rfl (by split <;> omega) _) ?_; simp only [aP,lI,l0,lS]; refine xpL (.int .i64 (max 0 (now-((q.1.m:Nat):Int)))) ?_; refine xT ?_; have hE:=show Hid _ from tkr_hit (now:=now) hq h1 hb; have hbel:=M.below; clear M ; go_wp2; go_ret
      exact ⟨by rw [hE.out]; try rfl,hbel⟩
    · go_upto_region 4 with fail
      refine wp_region_list ?_; refine xpL (.pointer (some ⟨B1,0,none⟩)) ?_; refine xaL (.int .i64 ((q.1.c:Nat):Int)) (load1 3 _ ⟨B1,0,none⟩ _ rfl rfl (fun _=>by kernel_rfl) (M.get mS 0 _ rfl)) ?_; refine xpL (.int .i64 top) ?_; refine xaL (.bool false) (eqlI .i64 _ _ _ _ _ _ rfl rfl rfl false (beq_eq_false_iff_ne.2 (h1)) _) ?_; refine xT ?_; have hbel:=show Hid _ from M.below
      clear M; go_wp2
      go_roundw
      case rel=>exact ⟨i+1,by omega,by go_num,fun j r hj hr=>by
       rcases Nat.lt_or_ge j i with h_ | h_
       · exact hb j r h_ hr
       · obtain rfl:j=i:=by omega
         rw [hq] at hr
         obtain rfl:=Option.some.inj hr
         exact h1,hbel.out⟩
      case measure=>simp [intOf]; omega
  · go_upto_region 2 with fail
    refine wp_region_list ?_; refine xaL (.bool false) (lssI .i64 _ _ _ _ _ _ rfl rfl rfl false (decide_eq_false (by omega)) _) ?_; refine xT ?_; go_upto_region 7 with fail; refine wp_region_list ?_; refine xpL (.int .i64 (-1)) ?_; refine xT ?_; have hE:=show Hid _ from tkr_miss (now:=now) fun j r hj hr=>hb j r (by omega) hr; have hbel:=M.below; clear M ; go_wp2; go_ret
    exact ⟨by rw [hE.out]; try rfl,hbel⟩
theorem ownsRow_mono21 {w:World} {b b':Nat} {e:TypeId} {size n:Nat} {xs:List Value} {v:Value} (h:w.ownsRow b' e size v n xs) (hb:b≤b'):w.ownsRow b e size v n xs:=by
 refine ⟨h.1,?_⟩
 rcases h.2 with h0 | ⟨g,cap,cur,hv,hg,h5⟩
 · exact .inl h0
 · exact .inr ⟨g,cap,cur,hv,xnT hb hg,h5⟩
theorem Mm.own21 {w0 w:World} {l:List (Nat × List Value)} (M:Mm w0 l w) {base:Nat} {e:TypeId} {size n cap:Nat} {xs:List Value} {sp:Option Addr} (V:w.ownsRow base e size (.slice sp n cap) n xs) (h0:w0.heap.size≤base) (hne:∀ b,base≤b→b∉l.map Prod.fst):Mm w0 (obs sp++l) w:=by
 cases sp with
 | none=>exact M
 | some a =>
   have hl:=World.ownsRow.lt V a.block rfl
   exact M.addB (xnT h0 hl.1) hl.2 fun p hp e=>hne a.block hl.1 (List.mem_map.2 ⟨p,hp,e⟩)
theorem Mm.lts21 {w0 w:World} {a l:List (Nat × List Value)} (M:Mm w0 (a++l) w) {x:Nat} (hx:x∈l.map Prod.fst):x<w.heap.size:=by
 obtain ⟨p,hp,rfl⟩:=List.mem_map.1 hx
 exact (M.rows p (List.mem_append_right _ hp)).2.2
theorem Mm.newRow21 {w0 w w':World} {l:List (Nat × List Value)} (M:Mm w0 l w) (b:Below w.heap.size w w') {e:TypeId} {size n cap:Nat} {xs:List Value} {sp:Option Addr} (V:w'.ownsRow w.heap.size e size (.slice sp n cap) n xs):Mm w0 (obs sp++l) w' :=
 (M.call b).own21 V M.below.size fun x hx hm=>by
  have:=M.lts21 (a:=[]) hm
  omega
structure Clo21 (w:World) (fv:Value) (pr:Rcd→Bool) (Z:List (Rcd × Option Addr × Nat)):Prop where
 is:∃ K caps,fv=.func (.func K) #[] caps∧((K=38∧∃ c d:Nat,caps=#[.pointer (some ⟨c,0,none⟩),.pointer (some ⟨d,0,none⟩)])∨((K=41∨K=45)∧∃ c:Nat,caps=#[.pointer (some ⟨c,0,none⟩)])) ∧
  ∀ w',Below w.heap.size w w'→∀ q∈Z,Calls Try.prog K (#[.agg #[.int .i64 ((q.1.c:Nat):Int),.int .i64 ((q.1.m:Nat):Int),.slice q.2.1 q.1.cs.length q.2.2]]++caps) w' fun e w''=>e=.returned (.bool (pr q.1))∧Below w'.heap.size w' w''
def lwn (Z:List (Rcd × Option Addr × Nat)) (win:Nat):Nat:=if Z=[] then win else max 2 (win/2)
theorem filt_take {Z:List (Rcd × Option Addr × Nat)} {i:Nat} {q:Rcd × Option Addr × Nat} (h:Z[i]?=some q) (pr:Rcd × Option Addr × Nat→Bool):(Z.take (i+1)).filter pr=(Z.take i).filter pr++(if pr q=true then [q] else []):=by
 rw [List.take_add_one,h,List.filter_append]
 congr 1
 show List.filter pr [q]=_
 rw [List.filter_cons]
 rfl
theorem filt_len (Z:List (Rcd × Option Addr × Nat)) (i:Nat) (pr:Rcd × Option Addr × Nat→Bool):((Z.take i).filter pr).length≤Z.length:=by
 have h1:=List.length_filter_le pr (Z.take i); have h2:=List.length_take_le' i Z
 omega
theorem vtake21_any (w0 w:World) (B:Nat) (d:Dfl) (l:List (Nat × List Value)) (M:Mm w0 ((B,ppc d)::l) w) (V:w.ownsRow 0 72 3 (.slice d.sr d.Z.length d.cr) d.Z.length (rcs d.Z)) (hz:d.Z.length<1000000000) (fv:Value) (pr:Rcd→Bool) (hF:Clo21 w fv pr d.Z) :
 Calls Try.prog 37 #[.pointer (some ⟨B,0,none⟩),fv] w fun e w'=>∃ st ct sl cl,e=.returned (.slice st (d.Z.filter fun q=>pr q.1).length ct)∧w'.ownsRow w.heap.size 72 3 (.slice st (d.Z.filter fun q=>pr q.1).length ct) (d.Z.filter fun q=>pr q.1).length (rcs (d.Z.filter fun q=>pr q.1))∧w'.ownsRow w.heap.size 72 3 (.slice sl (d.Z.filter fun q=>!pr q.1).length cl) (d.Z.filter fun q=>!pr q.1).length (rcs (d.Z.filter fun q=>!pr q.1))∧Mm w0 ((B,ppc { d with Z:=(d.Z.filter fun q=>!pr q.1),sr:=sl,cr:=cl })::(obs sl++l)) w'∧Off [B] w w':=by
 obtain ⟨K,caps,rfl,hk,hs⟩:=hF.is
 replace M:Mm w0 ((B,[.int .i64 ((d.win:Nat):Int),.int .i64 (pnx d.top),.slice d.sr d.Z.length d.cr])::l) w:=M
 go_enter Try.func37,Try.ntmps37
 go_upto_region 0 with fail; refine wp_region_list ?_; refine xpL (.slice none 0 0) ?_; refine xT ?_; go_upto_region 1 with fail; refine wp_region_list ?_; refine xpL (.slice none 0 0) ?_; refine xpL (.slice none 0 0) ?_; refine xT ?_; go_upto_region 2 with fail; refine wp_region_list ?_; refine xpL (.pointer (some ⟨B,0,none⟩)) ?_; refine xpL (.pointer (some ⟨B,0,none⟩)) ?_
 refine xpL (.pointer (some ⟨B,2,none⟩)) ?_; refine xaL (.slice d.sr d.Z.length d.cr) (load1 61 _ ⟨B,2,none⟩ _ rfl rfl (fun _=>by kernel_rfl) (M.get mS 2 _ rfl)) ?_; refine xaL (.int .i64 ((d.Z.length:Nat):Int)) (lenS _ 61 72 d.sr d.Z.length d.cr rfl Try.underlying61 rfl _) ?_; refine xpL (.int .i64 0) ?_; refine xT ?_; have HI:=show Hid _ from M; have hBlt:=M.lt mS
 have HM0:=M.below.size; have HLT:=fun x (hx:x∈l.map Prod.fst)=>M.lts21 (a:=[_]) hx; clear M; go_wp2
 go_loopw [5,6,14] (fun a_ b_ v_ w'=>∃ (i':Nat) (st sl:Option Addr) (ct cl:Nat),i'≤d.Z.length∧a_=.slice st ((d.Z.take i').filter fun q=>pr q.1).length ct∧b_=.slice sl ((d.Z.take i').filter fun q=>!pr q.1).length cl∧v_=.int .i64 (i':Int)∧w'.ownsRow w.heap.size 72 3 (.slice st ((d.Z.take i').filter fun q=>pr q.1).length ct) ((d.Z.take i').filter fun q=>pr q.1).length (rcs ((d.Z.take i').filter fun q=>pr q.1))∧w'.ownsRow w.heap.size 72 3 (.slice sl ((d.Z.take i').filter fun q=>!pr q.1).length cl) ((d.Z.take i').filter fun q=>!pr q.1).length (rcs ((d.Z.take i').filter fun q=>!pr q.1))∧(∀ b∈ob st,b∉ob sl)∧Below w.heap.size w w') (fun _ _ v_ _=>d.Z.length-(intOf v_).toNat)
 case atStart=>exact ⟨0,none,none,0,0,Nat.zero_le _,rfl,rfl,rfl,World.ownsRow_nil _ _ _ _,World.ownsRow_nil _ _ _ _,(fun _ h _=>by cases h),Below.refl _ _⟩
 case round =>
  obtain ⟨i,st,sl,ct,cl,hi,rfl,rfl,rfl,Vt,Vl,hap,hB⟩:=hrel
  by_cases hil:i<d.Z.length
  · clear HI
    replace V:=ownsRow_bel V hB; have M:=Mm.init wr; go_upto_region 3 with fail; refine wp_region_list ?_; refine xaL (.bool true) (lssI .i64 _ _ _ _ _ _ rfl rfl rfl true (decide_eq_true (by omega)) _) ?_; refine xT ?_
    obtain ⟨q,hq⟩:∃ q,d.Z[i]?=some q:=⟨_,List.getElem?_eq_getElem hil⟩
    obtain ⟨g,hg⟩:=row_some5 V (by omega)
    have hl1:=filt_len d.Z i (fun q=>pr q.1); have hl0:=filt_len d.Z i (fun q=>!pr q.1); go_upto_region 4 with fail; refine wp_region_list ?_; refine xaL (.pointer (some ⟨g,i*3,none⟩)) (idxR3p g _ _ i d.sr hg (List.getElem?_eq_some_iff.1 hq).1 _ _ rfl rfl rfl _) ?_
    refine xaL (.agg #[.int .i64 ((q.1.c:Nat):Int),.int .i64 ((q.1.m:Nat):Int),.slice q.2.1 q.1.cs.length q.2.2]) (loadN 72 _ ⟨g,i*3,none⟩ [.int .i64 ((q.1.c:Nat):Int),.int .i64 ((q.1.m:Nat):Int),.slice q.2.1 q.1.cs.length q.2.2] rfl rfl (fun _=>by kernel_rfl) (fun _=>by kernel_rfl) (row_rec21 V hg hq)) ?_
    refine actL (w':=wr.alloc (.cells #[.int .i64 0,.int .i64 0,.slice none 0 0] 72)) (.pointer (some ⟨wr.heap.size,0,none⟩)) rfl (by kernel_rfl) ?_; simp only [aP,lI,l0,lS]
    have hB_B1:wr.heap.size≤wr.heap.size:=M.below.size
    replace M:=M.box #[.int .i64 0,.int .i64 0,.slice none 0 0] 72 wr.heap.size rfl; generalize wr.alloc (.cells #[.int .i64 0,.int .i64 0,.slice none 0 0] 72)=w1 at M  ⊢; generalize eB:wr.heap.size=B1 at M hB_B1  ⊢
    have hE_B1:wr.heap.size≤B1:=Nat.le_of_eq eB
    have hF_B1:B1≤wr.heap.size:=Nat.le_of_eq eB.symm
    clear eB
    replace M:Mm wr ((B1,[.int .i64 0,.int .i64 0,.slice none 0 0])::([]:List (Nat × List Value))) w1:=M
    refine skipOpL rfl (storeP [.int .i64 ((q.1.c:Nat):Int),.int .i64 ((q.1.m:Nat):Int),.slice q.2.1 q.1.cs.length q.2.2] B1 0 72 _ _ rfl rfl rfl (M.thereP mS 0 3 (Nat.le_of_ble_eq_true rfl)) (by kernel_rfl) (List.all_eq_true.1 (rfl:([.int .i64 ((q.1.c:Nat):Int),.int .i64 ((q.1.m:Nat):Int),.slice q.2.1 q.1.cs.length q.2.2]:List Value).all (fun u=>u.oneCell')=true))) ?_
    simp only [Act.put]; replace M:=M.setPart [.int .i64 ((q.1.c:Nat):Int),.int .i64 ((q.1.m:Nat):Int),.slice q.2.1 q.1.cs.length q.2.2] 0 (Nat.le_of_ble_eq_true rfl); generalize w1.setCells B1 0 [.int .i64 ((q.1.c:Nat):Int),.int .i64 ((q.1.m:Nat):Int),.slice q.2.1 q.1.cs.length q.2.2]=w2 at M  ⊢
    replace M:Mm wr ((B1,[.int .i64 ((q.1.c:Nat):Int),.int .i64 ((q.1.m:Nat):Int),.slice q.2.1 q.1.cs.length q.2.2])::([]:List (Nat × List Value))) w2:=M
    refine xT ?_
    cases hb:pr q.1 with
    | true =>
      go_upto_region 5 with fail; refine wp_region_list ?_; refine xpL (.func (.func K) #[] caps) ?_
      refine xaL (.agg #[.int .i64 ((q.1.c:Nat):Int),.int .i64 ((q.1.m:Nat):Int),.slice q.2.1 q.1.cs.length q.2.2]) (loadN 72 _ ⟨B1,0,none⟩ [.int .i64 ((q.1.c:Nat):Int),.int .i64 ((q.1.m:Nat):Int),.slice q.2.1 q.1.cs.length q.2.2] rfl rfl (fun _=>by kernel_rfl) (fun _=>by kernel_rfl) (M.rangeAt mS)) ?_
      have key:=hs w2 (hB.trans (M.below.mono hB.size)) q (List.mem_of_getElem? hq)
      rw [hb] at key
      refine callL rfl (fun _=>by rcases hk with ⟨rfl,c_,d_,rfl⟩ | ⟨rfl | rfl,c_,rfl⟩ <;> kernel_rfl) key ?_; clear key; rintro e w3 ⟨rfl,l_⟩; replace M:=M.call l_; clear l_
      refine ⟨_,rfl,?_⟩
      simp only [aP,lI,l0,lS]; refine xT ?_; go_upto_region 6 with fail; refine wp_region_list ?_; refine xpL (.slice st (((d.Z.take i).filter fun q=>pr q.1).length) ct) ?_
      refine xaL (.agg #[.int .i64 ((q.1.c:Nat):Int),.int .i64 ((q.1.m:Nat):Int),.slice q.2.1 q.1.cs.length q.2.2]) (loadN 72 _ ⟨B1,0,none⟩ [.int .i64 ((q.1.c:Nat):Int),.int .i64 ((q.1.m:Nat):Int),.slice q.2.1 q.1.cs.length q.2.2] rfl rfl (fun _=>by kernel_rfl) (fun _=>by kernel_rfl) (M.rangeAt mS)) ?_
      have hlb:=(Below.refl w3.heap.size w3).alloc (xnR _) (.cells #[.int .i64 ((q.1.c:Nat):Int),.int .i64 ((q.1.m:Nat):Int),.slice q.2.1 q.1.cs.length q.2.2] 72)
      have T_b:=World.ownsRow.cells (World.ownsRow_lit (base:=w3.heap.size) (e:=72) (size:=3) w3 #[.int .i64 ((q.1.c:Nat):Int),.int .i64 ((q.1.m:Nat):Int),.slice q.2.1 q.1.cs.length q.2.2] 1 (xnR _) (by unfold maxLen; omega) rfl) (g:=w3.heap.size) rfl
      refine actL (w':=w3.alloc (.cells #[.int .i64 ((q.1.c:Nat):Int),.int .i64 ((q.1.m:Nat):Int),.slice q.2.1 q.1.cs.length q.2.2] 72)) (.slice (some ⟨w3.heap.size,0,none⟩) 1 1) rfl (by kernel_rfl) ?_; simp only [aP,lI,l0,lS]; replace M:=M.call hlb; clear hlb
      generalize w3.alloc (.cells #[.int .i64 ((q.1.c:Nat):Int),.int .i64 ((q.1.m:Nat):Int),.slice q.2.1 q.1.cs.length q.2.2] 72)=w4 at M T_b ⊢; generalize w3.heap.size=bz at T_b ⊢; replace Vt:=ownsRow_bel Vt M.below; replace Vl:=ownsRow_bel Vl M.below; have hB1:=hB.trans (M.below.mono hB.size)
      obtain ⟨v2,w9,hr,V2,hgr,hg2⟩:=run_append_OwnV (P:=Try.prog) (ty:=61) Try.underlying61 manyP rfl (by decide) Vt ⟨bz,0,none⟩ 1 1 (rc1 q) rfl T_b (fun u hu=>rcs_one [q] u (by rw [rcs_one1]; exact hu)) (by unfold maxLen; omega) (by omega) hB1.size
      have ho:=Off.grown (Off.refl (ob st) _) hgr (fun b_ hb_=>.inl ((ob_own _ _ _ b_).1 hb_)); have hlo:=fun b_ hb_=>(World.ownsRow.lt Vl b_ hb_).2; replace Vl:=ownsRow_away Vl ho hap; have hB2:=hB1.grown hgr hB1.size (fun b_ hb_=>(World.ownsRow.lt Vt b_ hb_).1)
      obtain ⟨sv,cv,rfl,_,_⟩:=row_form16 V2
      have hap2:∀ b∈ob sv,b∉ob sl:=fun b h1 h2=>by
       rcases hg2 b ((ob_own sv _ cv b).2 h1) with h | h
       · exact hap b ((ob_own _ _ _ b).1 h) h2
       · have:=hlo b ((ob_own _ _ _ b).2 h2)
         omega
      refine xaL _ (appendOp _ _ 61 _ _ _ rfl rfl rfl hr) ?_; clear hr hgr hg2 ho hlo M hB1 T_b Vt
      have e1_:((d.Z.take i).filter fun q=>pr q.1)++[q]=((d.Z.take (i+1)).filter fun q=>pr q.1):=by rw [filt_take hq]; simp [hb]
      have e2_:((d.Z.take i).filter fun q=>!pr q.1)=((d.Z.take (i+1)).filter fun q=>!pr q.1):=by rw [filt_take hq]; simp [hb]
      rw [← rcs_one1,← rcs_app,e1_,show ((d.Z.take i).filter fun q=>pr q.1).length+1=((d.Z.take (i+1)).filter fun q=>pr q.1).length by rw [← e1_,List.length_append]; rfl] at V2
      rw [show ((d.Z.take i).filter fun q=>pr q.1).length+1=((d.Z.take (i+1)).filter fun q=>pr q.1).length by rw [← e1_,List.length_append]; rfl]
      rw [e2_] at Vl
      refine xpL (.slice sv (((d.Z.take (i+1)).filter fun q=>pr q.1).length) cv) ?_; refine xT ?_; have HS:=show Hid _ from (And.intro V2 (And.intro Vl (And.intro hap2 hB2))); have hee:=show Hid _ from e2_; clear V2 Vl hap2 hB2 hB V hap e1_ e2_; go_wp2
      go_roundw
      case rel=>exact ⟨i+1,sv,sl,cv,cl,by omega,rfl,by rw [hee.out],by go_num,HS.out⟩
      case measure=>simp [intOf]; omega
    | false =>
      go_upto_region 5 with fail; refine wp_region_list ?_; refine xpL (.func (.func K) #[] caps) ?_
      refine xaL (.agg #[.int .i64 ((q.1.c:Nat):Int),.int .i64 ((q.1.m:Nat):Int),.slice q.2.1 q.1.cs.length q.2.2]) (loadN 72 _ ⟨B1,0,none⟩ [.int .i64 ((q.1.c:Nat):Int),.int .i64 ((q.1.m:Nat):Int),.slice q.2.1 q.1.cs.length q.2.2] rfl rfl (fun _=>by kernel_rfl) (fun _=>by kernel_rfl) (M.rangeAt mS)) ?_
      have key:=hs w2 (hB.trans (M.below.mono hB.size)) q (List.mem_of_getElem? hq)
      rw [hb] at key
      refine callL rfl (fun _=>by rcases hk with ⟨rfl,c_,d_,rfl⟩ | ⟨rfl | rfl,c_,rfl⟩ <;> kernel_rfl) key ?_; clear key; rintro e w5 ⟨rfl,l_⟩; replace M:=M.call l_; clear l_
      refine ⟨_,rfl,?_⟩
      simp only [aP,lI,l0,lS]; refine xT ?_; go_upto_region 7 with fail; refine wp_region_list ?_; refine xpL (.slice sl (((d.Z.take i).filter fun q=>!pr q.1).length) cl) ?_
      refine xaL (.agg #[.int .i64 ((q.1.c:Nat):Int),.int .i64 ((q.1.m:Nat):Int),.slice q.2.1 q.1.cs.length q.2.2]) (loadN 72 _ ⟨B1,0,none⟩ [.int .i64 ((q.1.c:Nat):Int),.int .i64 ((q.1.m:Nat):Int),.slice q.2.1 q.1.cs.length q.2.2] rfl rfl (fun _=>by kernel_rfl) (fun _=>by kernel_rfl) (M.rangeAt mS)) ?_
      have hlb:=(Below.refl w5.heap.size w5).alloc (xnR _) (.cells #[.int .i64 ((q.1.c:Nat):Int),.int .i64 ((q.1.m:Nat):Int),.slice q.2.1 q.1.cs.length q.2.2] 72)
      have T_b:=World.ownsRow.cells (World.ownsRow_lit (base:=w5.heap.size) (e:=72) (size:=3) w5 #[.int .i64 ((q.1.c:Nat):Int),.int .i64 ((q.1.m:Nat):Int),.slice q.2.1 q.1.cs.length q.2.2] 1 (xnR _) (by unfold maxLen; omega) rfl) (g:=w5.heap.size) rfl
      refine actL (w':=w5.alloc (.cells #[.int .i64 ((q.1.c:Nat):Int),.int .i64 ((q.1.m:Nat):Int),.slice q.2.1 q.1.cs.length q.2.2] 72)) (.slice (some ⟨w5.heap.size,0,none⟩) 1 1) rfl (by kernel_rfl) ?_; simp only [aP,lI,l0,lS]; replace M:=M.call hlb; clear hlb
      generalize w5.alloc (.cells #[.int .i64 ((q.1.c:Nat):Int),.int .i64 ((q.1.m:Nat):Int),.slice q.2.1 q.1.cs.length q.2.2] 72)=w6 at M T_b ⊢; generalize w5.heap.size=bz at T_b ⊢; replace Vt:=ownsRow_bel Vt M.below; replace Vl:=ownsRow_bel Vl M.below; have hB1:=hB.trans (M.below.mono hB.size)
      obtain ⟨v2,w9,hr,V2,hgr,hg2⟩:=run_append_OwnV (P:=Try.prog) (ty:=61) Try.underlying61 manyP rfl (by decide) Vl ⟨bz,0,none⟩ 1 1 (rc1 q) rfl T_b (fun u hu=>rcs_one [q] u (by rw [rcs_one1]; exact hu)) (by unfold maxLen; omega) (by omega) hB1.size
      have ho:=Off.grown (Off.refl (ob sl) _) hgr (fun b_ hb_=>.inl ((ob_own _ _ _ b_).1 hb_)); have hlo:=fun b_ hb_=>(World.ownsRow.lt Vt b_ hb_).2; replace Vt:=ownsRow_away Vt ho (fun b_ h1_ h2_=>hap b_ h2_ h1_); have hB2:=hB1.grown hgr hB1.size (fun b_ hb_=>(World.ownsRow.lt Vl b_ hb_).1)
      obtain ⟨sv,cv,rfl,_,_⟩:=row_form16 V2
      have hap2:∀ b∈ob sv,b∉ob st:=fun b h1 h2=>by
       rcases hg2 b ((ob_own sv _ cv b).2 h1) with h | h
       · exact hap b h2 ((ob_own _ _ _ b).1 h)
       · have:=hlo b ((ob_own _ _ _ b).2 h2)
         omega
      refine xaL _ (appendOp _ _ 61 _ _ _ rfl rfl rfl hr) ?_; clear hr hgr hg2 ho hlo M hB1 T_b Vl
      have e1_:((d.Z.take i).filter fun q=>!pr q.1)++[q]=((d.Z.take (i+1)).filter fun q=>!pr q.1):=by rw [filt_take hq]; simp [hb]
      have e2_:((d.Z.take i).filter fun q=>pr q.1)=((d.Z.take (i+1)).filter fun q=>pr q.1):=by rw [filt_take hq]; simp [hb]
      rw [← rcs_one1,← rcs_app,e1_,show ((d.Z.take i).filter fun q=>!pr q.1).length+1=((d.Z.take (i+1)).filter fun q=>!pr q.1).length by rw [← e1_,List.length_append]; rfl] at V2
      rw [show ((d.Z.take i).filter fun q=>!pr q.1).length+1=((d.Z.take (i+1)).filter fun q=>!pr q.1).length by rw [← e1_,List.length_append]; rfl]
      rw [e2_] at Vt
      refine xpL (.slice sv (((d.Z.take (i+1)).filter fun q=>!pr q.1).length) cv) ?_; refine xT ?_; have HS:=show Hid _ from (And.intro Vt (And.intro V2 (And.intro (fun b h1 h2=>hap2 b h2 h1) hB2))); have hee:=show Hid _ from e2_; clear V2 Vt hap2 hB2 hB V hap e1_ e2_; go_wp2
      go_roundw
      case rel=>exact ⟨i+1,st,sv,ct,cv,by omega,by rw [hee.out],rfl,by go_num,HS.out⟩
      case measure=>simp [intOf]; omega
  · have e_:d.Z.take i=d.Z:=List.take_of_length_le (by omega)
    rw [e_] at Vt Vl
    rw [e_]
    have M:=HI.out.call hB; have OF:=Off.of_below (X:=[B]) hB; have V_t:=Vt; have V_l:=Vl; clear HI Vt Vl
    have hBw:B<w.heap.size:=hBlt
    go_upto_region 3 with fail; refine wp_region_list ?_; refine xaL (.bool false) (lssI .i64 _ _ _ _ _ _ rfl rfl rfl false (decide_eq_false (by omega)) _) ?_; refine xT ?_; go_upto_region 9 with fail; refine wp_region_list ?_; refine xpL (.pointer (some ⟨B,0,none⟩)) ?_; refine xpL (.slice sl ((d.Z.filter fun q=>!pr q.1).length) cl) ?_; refine xpL (.pointer (some ⟨B,0,none⟩)) ?_
    refine xpL (.pointer (some ⟨B,2,none⟩)) ?_; refine skipOpL rfl (storeAny (.slice sl ((d.Z.filter fun q=>!pr q.1).length) cl) B 2 61 _ _ rfl rfl rfl rfl rfl (M.isSome mS 2 (by simp)) (M.free mS 2 (by simp)) (by kernel_rfl)) ?_; simp only [Act.put]; replace M:=M.set 2 (by simp) (.slice sl ((d.Z.filter fun q=>!pr q.1).length) cl)
    replace V_t:=ownsRow_away V_t ((Off.refl [B] _).set (b:=B) mS 2 (.slice sl ((d.Z.filter fun q=>!pr q.1).length) cl)) (fun b_ hb_ hm_=>by obtain rfl:=xm1 hb_; have:=(World.ownsRow.lt V_t _ ((ob_own _ _ _ _).2 hm_)).1; omega)
    replace V_l:=ownsRow_away V_l ((Off.refl [B] _).set (b:=B) mS 2 (.slice sl ((d.Z.filter fun q=>!pr q.1).length) cl)) (fun b_ hb_ hm_=>by obtain rfl:=xm1 hb_; have:=(World.ownsRow.lt V_l _ ((ob_own _ _ _ _).2 hm_)).1; omega); replace OF:=OF.and1 ((Off.refl [B] _).set (b:=B) mS 2 (.slice sl ((d.Z.filter fun q=>!pr q.1).length) cl)) (.inl mS)
    generalize wr.setCell ⟨B,2,none⟩ (.slice sl ((d.Z.filter fun q=>!pr q.1).length) cl)=w7 at M V_t V_l OF ⊢
    replace M:Mm w0 ((B,[.int .i64 ((d.win:Nat):Int),.int .i64 (pnx d.top),.slice sl ((d.Z.filter fun q=>!pr q.1).length) cl])::l) w7:=M
    refine xT ?_; go_upto_region 10 with fail; refine wp_region_list ?_; refine xpL (.slice st ((d.Z.filter fun q=>pr q.1).length) ct) ?_; refine xpL (.slice st ((d.Z.filter fun q=>pr q.1).length) ct) ?_; refine xT ?_
    have M2:Mm w0 (obs sl++((B,ppc { d with Z:=(d.Z.filter fun q=>!pr q.1),sr:=sl,cr:=cl })::l)) w7:=Mm.own21 M V_l (by have:=HM0; omega) (fun b hb hm=>by rcases xc1 hm with rfl | hm; omega; exact absurd hb (by have:=HLT _ hm; omega))
    have HS:=show Hid _ from (And.intro V_t (And.intro V_l (And.intro (M2.perm List.perm_middle) OF))); clear M M2 V_t V_l OF hB hap; go_wp2; go_ret
    exact ⟨st,ct,sl,cl,rfl,HS.out⟩
theorem vlose21_any (w0 w:World) (B:Nat) (d:Dfl) (l:List (Nat × List Value)) (M:Mm w0 ((B,ppc d)::l) w) (P:POK w d) (hz:d.Z.length<1000000000) (hs:(sall (d.Z.map Prod.fst)).length<1000000000) (hw:d.win≤32) (hC:B∉(gks d.Z).map Prod.fst) (fv:Value) (pr:Rcd→Bool) (hF:Clo21 w fv pr d.Z) :
 Calls Try.prog 40 #[.pointer (some ⟨B,0,none⟩),fv] w fun e w'=>∃ sq cq sl cl,e=.returned (.slice sq (sall ((d.Z.filter fun q=>pr q.1).map Prod.fst)).length cq)∧w'.ownsRow w.heap.size 38 2 (.slice sq (sall ((d.Z.filter fun q=>pr q.1).map Prod.fst)).length cq) (sall ((d.Z.filter fun q=>pr q.1).map Prod.fst)).length (wrc (sall ((d.Z.filter fun q=>pr q.1).map Prod.fst)))∧w'.ownsRow w.heap.size 72 3 (.slice sl (d.Z.filter fun q=>!pr q.1).length cl) (d.Z.filter fun q=>!pr q.1).length (rcs (d.Z.filter fun q=>!pr q.1))∧Mm w0 (obs sq++((B,ppc { d with win:=lwn (d.Z.filter fun q=>pr q.1) d.win,Z:=(d.Z.filter fun q=>!pr q.1),sr:=sl,cr:=cl })::(obs sl++l))) w'∧Off [B] w w':=by
 have hBlt:=M.lt mS; have HM0:=M.below.size
 replace M:Mm w0 ((B,[.int .i64 ((d.win:Nat):Int),.int .i64 (pnx d.top),.slice d.sr d.Z.length d.cr])::l) w:=M
 have OF:=Off.refl [B] w
 go_enter Try.func40,Try.ntmps40
 go_upto_region 0 with fail; refine wp_region_list ?_; refine xpL (.slice none 0 0) ?_; refine xT ?_; go_upto_region 1 with fail; refine wp_region_list ?_; refine xpL (.pointer (some ⟨B,0,none⟩)) ?_; refine xpL (fv) ?_; have key:=vtake21_any w0 w B d l M P.V hz fv pr hF; refine xcL key ?_; clear key; rintro e w1 ⟨st,ct,sl,cl,rfl,V_t,V_l,M',o1⟩; replace OF:=OF.trans o1
 have hsz1:=o1.size; have K_:=P.K.off o1 (fun b hb=>by obtain rfl:=xm1 hb; exact hC); clear o1 M P hF; refine xeL ?_
 have M:Mm w0 ((B,[.int .i64 ((d.win:Nat):Int),.int .i64 (pnx d.top),.slice sl ((d.Z.filter fun q=>!pr q.1).length) cl])::(obs sl++l)) w1:=M'
 clear M'; refine xpL (.slice st ((d.Z.filter fun q=>pr q.1).length) ct) ?_; refine xT ?_
 by_cases hg:(d.Z.filter fun q=>pr q.1)=[]
 · replace hg:=show Hid _ from hg
   go_upto_region 2 with fail; refine wp_region_list ?_; refine xpL (.slice st ((d.Z.filter fun q=>pr q.1).length) ct) ?_; refine readL (.int .i64 (((d.Z.filter fun q=>pr q.1).length:Nat):Int)) rfl (lenS _ 61 72 st ((d.Z.filter fun q=>pr q.1).length) ct rfl Try.underlying61 rfl _) ?_; simp only [aP,lI,l0,lS]
   refine xaL (.bool false) (gtrI .i64 _ _ _ _ _ _ rfl rfl rfl false (decide_eq_false (by rw [hg.out]; decide)) _) ?_; refine xT ?_; go_upto_region 4 with fail; refine wp_region_list ?_; refine xpL (.slice st ((d.Z.filter fun q=>pr q.1).length) ct) ?_
   have key:=vcar21_any w.heap.size (d.Z.filter fun q=>pr q.1) st ct (by have:=List.length_filter_le (fun q:Rcd × Option Addr × Nat=>pr q.1) d.Z; omega) (by have:=sall_sub ((List.filter_sublist (p:=fun q:Rcd × Option Addr × Nat=>pr q.1) (l:=d.Z)).map Prod.fst); omega) w1 V_t (K_.sub fun q hq=>(List.mem_filter.1 hq).1); refine xcL key ?_; clear key
   rintro e w2 ⟨sq,cq,rfl,V_q,l_⟩; replace M:=M.newRow21 l_ V_q; replace V_q:=ownsRow_mono21 (b:=w.heap.size) V_q OF.size; replace OF:=OF.below l_; replace V_l:=ownsRow_bel V_l l_; clear l_ V_t K_; refine xeL ?_; refine xpL (.slice sq ((sall ((d.Z.filter fun q=>pr q.1).map Prod.fst)).length) cq) ?_; refine xT ?_
   have hN:=show Hid _ from (show lwn (d.Z.filter fun q=>pr q.1) d.win=d.win from if_pos hg.out); have HS:=show Hid _ from (And.intro V_q (And.intro V_l (And.intro M OF))); clear M V_q V_l OF; go_wp2; go_ret
   rw [hN.out]
   exact ⟨sq,cq,sl,cl,rfl,HS.out⟩
 · replace hg:=show Hid _ from hg
   go_upto_region 2 with fail; refine wp_region_list ?_; refine xpL (.slice st ((d.Z.filter fun q=>pr q.1).length) ct) ?_; refine readL (.int .i64 (((d.Z.filter fun q=>pr q.1).length:Nat):Int)) rfl (lenS _ 61 72 st ((d.Z.filter fun q=>pr q.1).length) ct rfl Try.underlying61 rfl _) ?_; simp only [aP,lI,l0,lS]
   refine xaL (.bool true) (gtrI .i64 _ _ _ _ _ _ rfl rfl rfl true (decide_eq_true (by have:=List.length_pos_iff.2 hg.out; omega)) _) ?_; refine xT ?_; go_upto_region 3 with fail; refine wp_region_list ?_; refine xpL (.pointer (some ⟨B,0,none⟩)) ?_; refine xpL (.pointer (some ⟨B,0,none⟩)) ?_; refine xpL (.pointer (some ⟨B,0,none⟩)) ?_; refine xpL (.pointer (some ⟨B,0,none⟩)) ?_
   refine xaL (.int .i64 ((d.win:Nat):Int)) (load1 3 _ ⟨B,0,none⟩ _ rfl rfl (fun _=>by kernel_rfl) (M.get mS 0 _ rfl)) ?_
   refine xaL (.int .i64 ((d.win/2:Nat):Int)) (quoI .i64 _ 2 _ _ _ _ _ rfl rfl rfl (by decide) (by rw [Int.tdiv_eq_ediv_of_nonneg (by omega),xw6]; omega) _) ?_
   refine readL (.int .i64 ((max 2 (d.win/2):Nat):Int)) rfl (maxI .i64 .i64 _ _ _ _ _ _ _ rfl rfl rfl (by split <;> omega) _) ?_; simp only [aP,lI,l0,lS]; refine xpL (.pointer (some ⟨B,0,none⟩)) ?_; refine xpL (.pointer (some ⟨B,0,none⟩)) ?_
   refine skipOpL rfl (storeAny (.int .i64 ((max 2 (d.win/2):Nat):Int)) B 0 3 _ _ rfl rfl rfl rfl rfl (M.isSome mS 0 (by simp)) (M.free mS 0 (by simp)) (by kernel_rfl)) ?_; simp only [Act.put]; replace M:=M.set 0 (by simp) (.int .i64 ((max 2 (d.win/2):Nat):Int)); replace OF:=OF.and1 ((Off.refl [B] _).set (b:=B) mS 0 (.int .i64 ((max 2 (d.win/2):Nat):Int))) (.inl mS)
   replace V_t:=ownsRow_away V_t ((Off.refl [B] _).set (b:=B) mS 0 (.int .i64 ((max 2 (d.win/2):Nat):Int))) (fun b_ hb_ hm_=>by obtain rfl:=xm1 hb_; have:=(World.ownsRow.lt V_t _ ((ob_own _ _ _ _).2 hm_)).1; omega)
   replace V_l:=ownsRow_away V_l ((Off.refl [B] _).set (b:=B) mS 0 (.int .i64 ((max 2 (d.win/2):Nat):Int))) (fun b_ hb_ hm_=>by obtain rfl:=xm1 hb_; have:=(World.ownsRow.lt V_l _ ((ob_own _ _ _ _).2 hm_)).1; omega); replace K_:=K_.off ((Off.refl [B] _).set (b:=B) mS 0 (.int .i64 ((max 2 (d.win/2):Nat):Int))) (fun b hb=>by obtain rfl:=xm1 hb; exact hC)
   generalize w1.setCell ⟨B,0,none⟩ (.int .i64 ((max 2 (d.win/2):Nat):Int))=w3 at M OF V_t V_l K_ ⊢
   replace M:Mm w0 ((B,[.int .i64 ((max 2 (d.win/2):Nat):Int),.int .i64 (pnx d.top),.slice sl ((d.Z.filter fun q=>!pr q.1).length) cl])::(obs sl++l)) w3:=M
   refine xT ?_; go_upto_region 4 with fail; refine wp_region_list ?_; refine xpL (.slice st ((d.Z.filter fun q=>pr q.1).length) ct) ?_
   have key:=vcar21_any w.heap.size (d.Z.filter fun q=>pr q.1) st ct (by have:=List.length_filter_le (fun q:Rcd × Option Addr × Nat=>pr q.1) d.Z; omega) (by have:=sall_sub ((List.filter_sublist (p:=fun q:Rcd × Option Addr × Nat=>pr q.1) (l:=d.Z)).map Prod.fst); omega) w3 V_t (K_.sub fun q hq=>(List.mem_filter.1 hq).1); refine xcL key ?_; clear key
   rintro e w4 ⟨sq,cq,rfl,V_q,l_⟩; replace M:=M.newRow21 l_ V_q; replace V_q:=ownsRow_mono21 (b:=w.heap.size) V_q OF.size; replace OF:=OF.below l_; replace V_l:=ownsRow_bel V_l l_; clear l_ V_t K_; refine xeL ?_; refine xpL (.slice sq ((sall ((d.Z.filter fun q=>pr q.1).map Prod.fst)).length) cq) ?_; refine xT ?_
   have hN:=show Hid _ from (show lwn (d.Z.filter fun q=>pr q.1) d.win=max 2 (d.win/2) from if_neg hg.out); have HS:=show Hid _ from (And.intro V_q (And.intro V_l (And.intro M OF))); clear M V_q V_l OF; go_wp2; go_ret
   rw [hN.out]
   exact ⟨sq,cq,sl,cl,rfl,HS.out⟩
theorem vat21_any (w0 w:World) (R:Nat) (p:Int) (m:Option Nat) (E:Pes) (C l:List (Nat × List Value)) (s:Sch) (hI:PIn w s p m E C) (M:Mm w0 (pow R s p m E++(C++l)) w) (id:Int) (hid:i64 id) :
 Calls Try.prog 31 #[.pointer (some ⟨R,0,none⟩),.int .i64 id] w fun e w'=>∃ B d X,e=.returned (.pointer (some ⟨B,0,none⟩))∧Mm w0 ((B,ppc d)::(obs d.sr++X)) w'∧POK w' d∧d.f=sgf s id∧(∀ q∈gks d.Z,q∈C)∧Below w.heap.size w w'∧Back w s R p m E (C++l) id B d X:=by
 replace M:Mm w0 ((R,[.int .i64 p,.int .u64 (s.last+1),.map m])::((mbk m++gp E)++(C++l))) w:=M
 have M0:=show Hid _ from M
 go_enter Try.func31,Try.ntmps31
 go_upto_region 0 with fail; refine wp_region_list ?_; refine xpL (.pointer none) ?_; refine xT ?_
 rcases plk_cases E id with ⟨h1,h2⟩ | ⟨A,B,d,F,rfl,h2,h3,h4,h5⟩
 · go_upto_region 1 with fail
   refine wp_region_list ?_; refine xpL (.pointer (some ⟨R,0,none⟩)) ?_; refine xpL (.pointer (some ⟨R,0,none⟩)) ?_; refine xpL (.pointer (some ⟨R,2,none⟩)) ?_; refine xaL (.map m) (load1 53 _ ⟨R,2,none⟩ _ rfl rfl (fun _=>by kernel_rfl) (M.get mS 2 _ rfl)) ?_; refine xpL (.int .i64 id) ?_
   refine xaL (.tuple #[.pointer none,.bool false]) (lookOk21 hI.map Try.underlying53 (.pointer none) (fun _=>by kernel_rfl) id hid (.pointer none) (by unfold pmf; rw [h1]; rfl) false (by unfold pmf; rw [h1]; rfl) _ _ rfl rfl rfl) ?_; refine xpL (.tuple #[.pointer none,.bool false]) ?_; refine xpL (.pointer none) ?_; refine xpL (.bool false) ?_; refine xpL (.pointer none) ?_
   refine xpL (.bool false) ?_; refine xT ?_; go_upto_region 2 with fail; refine wp_region_list ?_; refine xpL (.bool false) ?_; refine xT ?_; have lb_:=Below.refl w.heap.size w; go_upto_region 4 with fail; refine wp_region_list ?_; refine xpL (.agg #[.int .i64 0,.int .i64 0,.slice none 0 0]) ?_
   refine actL (w':=w.alloc (.cells #[.int .i64 0,.int .i64 0,.slice none 0 0] 63)) (.pointer (some ⟨w.heap.size,0,none⟩)) rfl (by kernel_rfl) ?_; simp only [aP,lI,l0,lS]; have hlb:=(Below.refl w.heap.size w).alloc (xnR _) (.cells #[.int .i64 0,.int .i64 0,.slice none 0 0] 63); replace lb_:=lb_.trans (hlb.mono lb_.size); clear hlb
   have hB_B1:w0.heap.size≤w.heap.size:=M.below.size
   replace M:=M.box #[.int .i64 0,.int .i64 0,.slice none 0 0] 63 w.heap.size rfl; generalize w.alloc (.cells #[.int .i64 0,.int .i64 0,.slice none 0 0] 63)=w1 at M lb_ ⊢; generalize eB:w.heap.size=B1 at M hB_B1  ⊢
   have hE_B1:w.heap.size≤B1:=Nat.le_of_eq eB
   have hF_B1:B1≤w.heap.size:=Nat.le_of_eq eB.symm
   clear eB
   replace M:Mm w0 ((B1,[.int .i64 0,.int .i64 0,.slice none 0 0])::(R,[.int .i64 p,.int .u64 (s.last+1),.map m])::((mbk m++gp E)++(C++l))) w1:=M
   refine xpL (.pointer (some ⟨B1,0,none⟩)) ?_; refine xT ?_; have HS:=show Hid _ from (show Mm w0 ((B1,ppc dno)::(obs dno.sr++((R,prc s p m)::(mbk m++(gp E++(C++l)))))) w1 by have h_:=M; rw [List.append_assoc] at h_; exact h_); have hbel:=show Hid _ from (show Below w.heap.size w w1 from lb_)
   have hsg:=show Hid _ from (show dno.f=sgf s id by unfold sgf; rw [← hI.lst,h2]; rfl); have hfd:=show Hid _ from (show sfd s.L id=none by rw [← hI.lst]; exact h2); clear M M0 lb_; go_wp2; go_ret
   exact ⟨B1,dno,_,rfl,HS.out,dno_ok _,hsg.out,(fun q hq=>by cases hq),hbel.out,.inr ⟨hfd.out,rfl,hE_B1,rfl⟩⟩
 · go_upto_region 1 with fail
   refine wp_region_list ?_; refine xpL (.pointer (some ⟨R,0,none⟩)) ?_; refine xpL (.pointer (some ⟨R,0,none⟩)) ?_; refine xpL (.pointer (some ⟨R,2,none⟩)) ?_; refine xaL (.map m) (load1 53 _ ⟨R,2,none⟩ _ rfl rfl (fun _=>by kernel_rfl) (M.get mS 2 _ rfl)) ?_; refine xpL (.int .i64 id) ?_
   refine xaL (.tuple #[.pointer (some ⟨B,0,none⟩),.bool true]) (lookOk21 hI.map Try.underlying53 (.pointer none) (fun _=>by kernel_rfl) id hid (.pointer (some ⟨B,0,none⟩)) (by unfold pmf; rw [h4]; rfl) true (by unfold pmf; rw [h4]; rfl) _ _ rfl rfl rfl) ?_; refine xpL (.tuple #[.pointer (some ⟨B,0,none⟩),.bool true]) ?_; refine xpL (.pointer (some ⟨B,0,none⟩)) ?_
   refine xpL (.bool true) ?_; refine xpL (.pointer (some ⟨B,0,none⟩)) ?_; refine xpL (.bool true) ?_; refine xT ?_; go_upto_region 2 with fail; refine wp_region_list ?_; refine xpL (.bool true) ?_; refine xT ?_; go_upto_region 3 with fail; refine wp_region_list ?_; refine xpL (.pointer (some ⟨B,0,none⟩)) ?_; refine xpL (.pointer (some ⟨B,0,none⟩)) ?_; refine xT ?_
   have HS:=show Hid _ from Mm.fetch21 (show Mm w0 (pow R s p m (A++(B,d)::F)++(C++l)) w from M0.out); have hP:=show Hid _ from hI.ok (B,d) (by simp); have hck:=show Hid _ from hI.ck (B,d) (by simp); have hsg:=show Hid _ from (show d.f=sgf s id by unfold sgf; rw [← hI.lst,h5]; rfl); clear M M0; go_wp2; go_ret
   exact ⟨B,rfl,d,_,HS.out,hP.out,hsg.out,(fun a b hq=>hck.out (a,b) hq),Below.refl _ _,.inl ⟨A,F,rfl,h2,h3,rfl⟩⟩
theorem vwin21_any (w0 w:World) (R:Nat) (p:Int) (m:Option Nat) (E:Pes) (C l:List (Nat × List Value)) (s:Sch) (hI:PIn w s p m E C) (M:Mm w0 (pow R s p m E++(C++l)) w) (id:Int) (hid:i64 id) :
 Calls Try.prog 26 #[.pointer (some ⟨R,0,none⟩),.int .i64 id] w fun e w'=>e=.returned (.int .i64 ((swn s id:Nat):Int))∧Below w.heap.size w w':=by
 replace M:Mm w0 ((R,[.int .i64 p,.int .u64 (s.last+1),.map m])::((mbk m++gp E)++(C++l))) w:=M
 go_enter Try.func26,Try.ntmps26
 go_upto_region 0 with fail; refine wp_region_list ?_; refine xpL (.int .i64 0) ?_; refine xT ?_; go_upto_region 1 with fail; refine wp_region_list ?_; refine xpL (.pointer (some ⟨R,0,none⟩)) ?_; refine xpL (.int .i64 id) ?_; have key:=vat21_any w0 w R p m E C l s hI M id hid; refine xcL key ?_; clear key; rintro e w2 ⟨B,d,X,rfl,M',P,hdf,hck,lb,hbk⟩; clear M
 have M:Mm w0 ((B,[.int .i64 ((d.win:Nat):Int),.int .i64 (pnx d.top),.slice d.sr d.Z.length d.cr])::(obs d.sr++X)) w2:=M'
 clear M'; refine xeL ?_; refine xpL (.pointer (some ⟨B,0,none⟩)) ?_; refine xpL (.pointer (some ⟨B,0,none⟩)) ?_; refine xaL (.int .i64 ((d.win:Nat):Int)) (load1 3 _ ⟨B,0,none⟩ _ rfl rfl (fun _=>by kernel_rfl) (M.get mS 0 _ rfl)) ?_; refine xpL (.int .i64 ((d.win:Nat):Int)) ?_; refine xT ?_
 have hE:=show Hid _ from (show swn s id=d.win by rw [swn_is,← hdf]; first | rfl | exact List.length_map ..); clear M hbk; go_wp2; go_ret
 exact ⟨by rw [hE.out]; try rfl,lb⟩
theorem vund21_any (w0 w:World) (R:Nat) (p:Int) (m:Option Nat) (E:Pes) (C l:List (Nat × List Value)) (s:Sch) (hI:PIn w s p m E C) (M:Mm w0 (pow R s p m E++(C++l)) w) (id:Int) (hid:i64 id) :
 Calls Try.prog 28 #[.pointer (some ⟨R,0,none⟩),.int .i64 id] w fun e w'=>e=.returned (.int .i64 ((sun s id:Nat):Int))∧Below w.heap.size w w':=by
 replace M:Mm w0 ((R,[.int .i64 p,.int .u64 (s.last+1),.map m])::((mbk m++gp E)++(C++l))) w:=M
 go_enter Try.func28,Try.ntmps28
 go_upto_region 0 with fail; refine wp_region_list ?_; refine xpL (.int .i64 0) ?_; refine xT ?_; go_upto_region 1 with fail; refine wp_region_list ?_; refine xpL (.pointer (some ⟨R,0,none⟩)) ?_; refine xpL (.int .i64 id) ?_; have key:=vat21_any w0 w R p m E C l s hI M id hid; refine xcL key ?_; clear key; rintro e w2 ⟨B,d,X,rfl,M',P,hdf,hck,lb,hbk⟩; clear M
 have M:Mm w0 ((B,[.int .i64 ((d.win:Nat):Int),.int .i64 (pnx d.top),.slice d.sr d.Z.length d.cr])::(obs d.sr++X)) w2:=M'
 clear M'; refine xeL ?_; refine xpL (.pointer (some ⟨B,0,none⟩)) ?_; refine xpL (.pointer (some ⟨B,2,none⟩)) ?_; refine xaL (.slice d.sr d.Z.length d.cr) (load1 61 _ ⟨B,2,none⟩ _ rfl rfl (fun _=>by kernel_rfl) (M.get mS 2 _ rfl)) ?_; refine xaL (.int .i64 ((d.Z.length:Nat):Int)) (lenS _ 61 72 d.sr d.Z.length d.cr rfl Try.underlying61 rfl _) ?_
 refine xpL (.int .i64 ((d.Z.length:Nat):Int)) ?_; refine xT ?_; have hE:=show Hid _ from (show sun s id=d.Z.length by rw [sun_is,← hdf]; first | rfl | exact List.length_map ..); clear M hbk; go_wp2; go_ret
 exact ⟨by rw [hE.out]; try rfl,lb⟩
end Go.Proofs.Ytmedjdadhmdpgaa
