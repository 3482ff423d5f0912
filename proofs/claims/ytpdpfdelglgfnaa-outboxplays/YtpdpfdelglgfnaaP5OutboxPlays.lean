/- Texts of Nt Nv Ng Nj Np Nq Nh Nr Kn Ni LawOutboxLimits, joined. -/
import Derived.Test.YtpdpfdelglgfnaaP4OutboxPlays
set_option maxRecDepth 20000
set_option maxHeartbeats 64000000
namespace Go.Proofs.Ytpdpfdelglgfnaa
open Go.RowKit
def Wrt (w:World) (sp:Option Addr) (n:Nat):Prop:=∀ j,j<n→∃ ad,sp=some ad∧(w.cell? (ad.add j)).isSome=true∧w.frozen? (ad.add j)=false
theorem Wrt.offB {w w':World} {sp:Option Addr} {n:Nat} {X:List Nat} (h:Wrt w sp n) (o:Off X w w') (hX:∀ b∈X,b∉ob sp):Wrt w' sp n:=fun j hj=>by
 obtain ⟨ad,e,h1,h2⟩:=h j hj
 subst e
 have hb:(ad.add j).block∉X:=by rw [add_block]; exact fun hm=>hX _ hm mS
 cases hc:w.cell? (ad.add j) with
 | none=>rw [hc] at h1; cases h1
 | some v=>exact ⟨ad,rfl,by rw [o.cell hc hb]; rfl,by rw [World.frozen?_of_block (o.blk _ (World.block_lt_of_cell? w _ hc) hb)]; exact h2⟩
theorem Wrt.below {w w':World} {sp:Option Addr} {n:Nat} (h:Wrt w sp n) (l:Below w.heap.size w w'):Wrt w' sp n:=h.offB (X:=[]) (Off.of_below l) (fun _ hb=>by cases hb)
theorem Mm.newWt {w0 w:World} {l:List (Nat × List Value)} {B cap:Nat} {cs:List Value} (M:Mm w0 l w) (hp:(B,cs)∈l) (L:List (Int × Int)) (hL:cs=wrc L) (hc:L.length≤cap):NewW w 0 L (.slice (some ⟨B,0,none⟩) L.length cap) :=
 ⟨_,_,rfl,hc,fun e=>(by cases e),fun j u hu=>⟨_,rfl,by rw [Addr.add_mid,Nat.zero_add]; exact M.get hp j u (by rw [hL]; exact hu)⟩,fun a e=>(by cases e; exact ⟨Nat.zero_le _,M.lt hp⟩)⟩
section
section
variable {P:Program}
theorem idxSlE {o:Oper} {a:Act} (t e:TypeId) (len cap:Nat) (k:IntKind) (sp:Option Addr) (ad:Addr) (hsp:sp=some ad) (i:Nat) (x y:Operand) (hu:P.underlying t=some (.slice e)) (hsz:∀ w,(sizeOf e).run P w=.ok 1 w) (hi:i<len) (ho:o.op=.indexAddr t x y) (hx:a.eval x=.slice sp len cap) (hy:a.eval y=.int k (i:Int)) (w:World) :
 (execOp a.eval o).run P w=.ok (.value (.pointer (some (ad.add i)))) w:=by
 subst hsp
 exact idxSl t e len cap k ad i x y hu hsz hi ho hx hy w
theorem idxRowE {o:Oper} {a:Act} (t e:TypeId) (sp:Option Addr) (g len cap i:Nat) (hsp:sp=some ⟨g,0,none⟩) (x y:Operand) (hu:P.underlying t=some (.slice e)) (hsz:∀ w,(sizeOf e).run P w=.ok 1 w) (hi:i<len) (ho:o.op=.indexAddr t x y) (hx:a.eval x=.slice sp len cap) (hy:a.eval y=.int .i64 (i:Int)) (w:World) :
 (execOp a.eval o).run P w=.ok (.value (.pointer (some ⟨g,i,none⟩))) w:=by
 subst hsp
 exact idxRow t e g len cap i x y hu hsz hi ho hx hy w
end
theorem Mm.putRow {w0 w:World} {l:List (Nat × List Value)} {g:Nat} {base:Nat} {e:TypeId} {size n cap:Nat} {xs:List Value} {sp:Option Addr} (M:Mm w0 (obs sp++l) w) (V:w.ownsRow base e size (.slice sp n cap) n xs) (hsp:sp=some ⟨g,0,none⟩) (h0:w0.heap.size≤base) (j:Nat) (hj:j<xs.length) (u:Value) :
 ((w.cell? ⟨g,j,none⟩).isSome=true∧w.frozen? ⟨g,j,none⟩=false)∧Mm w0 (obs sp++l) (w.setCell ⟨g,j,none⟩ u)∧(w.setCell ⟨g,j,none⟩ u).ownsRow base e size (.slice sp n cap) n (xs.set j u)∧Off (ob sp) w (w.setCell ⟨g,j,none⟩ u):=by
 subst hsp
 obtain ⟨h1,h2⟩:=M.setObs V h0 j hj u
 exact ⟨h1,h2,ownsRow_put V j u,(Off.refl _ w).set (b:=g) mS j u⟩
theorem cell_form {w:World} {a:Addr} (h:(w.cell? a).isSome=true):a=⟨a.block,a.off,none⟩:=by
 obtain ⟨b,o,s⟩:=a
 cases s with
 | none=>rfl
 | some _ =>
   unfold World.cell? at h
   simp only at h
   split at h <;> simp at h
theorem Wrt.put {w:World} {sp:Option Addr} {n:Nat} (h:Wrt w sp n) (g j:Nat) (v:Value):Wrt (w.setCell ⟨g,j,none⟩ v) sp n:=fun i hi=>by
 obtain ⟨ad,e,h1,h2⟩:=h i hi
 refine ⟨ad,e,?_,by rw [World.frozen?_setCell]; exact h2⟩
 by_cases c:ad.add i=⟨g,j,none⟩
 · rw [← c,World.cell?_setCell_same' w _ v h1]; rfl
 · rw [World.cell?_setCell_other _ _ _ _ (fun e=>c e.symm)]; exact h1
theorem Mm.putObs {w0 w:World} {l:List (Nat × List Value)} {sp:Option Addr} (M:Mm w0 (obs sp++l) w) {ad:Addr} (hsp:sp=some ad) (j:Nat) (v:Value):Mm w0 (obs sp++l) (w.setCell ⟨ad.block,j,none⟩ v)∧Off (ob sp) w (w.setCell ⟨ad.block,j,none⟩ v):=by
 subst hsp
 have o1:Off [ad.block] w (w.setCell ⟨ad.block,j,none⟩ v):=(Off.refl _ w).set (b:=ad.block) mS j v
 have hlo:=M.lo (b:=ad.block) (cs:=[]) mS; have hlt:=M.lt (b:=ad.block) (cs:=[]) mS
 refine ⟨?_,o1⟩
 have Ml:Mm w0 l (w.setCell ⟨ad.block,j,none⟩ v):=(M.sub l (List.sublist_cons_self _ l)).off o1 (fun b hb=>by rw [List.mem_singleton] at hb; subst hb; exact hlo) (fun p hp hm=>by
  rw [List.mem_singleton] at hm
  exact (List.pairwise_cons.1 M.apart).1 p hp hm.symm) ⟨rfl,rfl,rfl⟩
 exact Ml.addB hlo (xnL hlt o1.size) fun p hp e=>(List.pairwise_cons.1 M.apart).1 p hp e.symm
theorem Own.srcB {w:World} {base:Nat} {e:TypeId} {n:Nat} {f:Nat→Int} {sp:Option Addr} {c:Nat} {X:List Nat} (h:Own w base e .u8 n f (.slice sp n c)) (hX:∀ b∈X,b∉ob sp):SrcA X w sp n f:=⟨h.src,fun a e _ hm=>hX _ hm (by rw [e]; exact mS)⟩
theorem app_zero (f g:Nat→Int) (j:Nat):app f 0 g j=g j:=by
 unfold app
 rw [if_neg (xnZ j),Nat.sub_zero]
theorem pullZ18 {α:Type} (a b x t:List α):(x++(a++(b++t))).Perm (a++(b++(x++t))):=by
 have h:=pull0 x (a++b) t
 rw [List.append_assoc,List.append_assoc] at h
 exact h
end
def OutI:=World→Value→Obx→List (Nat × List Value)→Prop
structure OutOK (I:OutI):Prop where
 ptr:∀ w v o bs,I w v o bs→∃ R,v=.pointer (some ⟨R,0,none⟩)
 off:∀ w w' v o bs X,I w v o bs→Off X w w'→(∀ b∈X,b∉bs.map Prod.fst)→I w' v o bs
 new:∀ (w0 w:World) (l:List (Nat × List Value)) (n:Int),i64 n→Mm w0 l w →
  Calls Try.prog 8 #[.int .i64 n] w fun e w'=>∃ v bs,e=.returned v∧I w' v (onew n) bs∧Mm w0 (bs++l) w'∧Below w.heap.size w w'
 wrt:∀ (w0 w:World) (v:Value) (o:Obx) (bs l:List (Nat × List Value)) (sp:Option Addr) (cap:Nat) (b:List Int),ObxW o→o.b.length<1000000→b.length<1000000→b.length≤cap→(sp=none→cap=0)→Byts b→I w v o bs→Mm w0 (bs++l) w→SrcA (bs.map Prod.fst) w sp b.length (bl b) →
  Calls Try.prog 11 #[v,.slice sp b.length cap] w fun e w'=>∃ bs',e=.returned (.int .i64 ((owN o b.length:Nat):Int))∧I w' v (owr o b) bs'∧Mm w0 (bs'++l) w'∧Off (bs.map Prod.fst) w w'
 alw:∀ (w0 w:World) (v:Value) (o:Obx) (bs l:List (Nat × List Value)) (n:Int),ObxW o→o.b.length<1000000→i64 n→I w v o bs→Mm w0 (bs++l) w →
  Calls Try.prog 19 #[v,.int .i64 n] w fun e w'=>∃ bs',e=.returned (.tuple #[])∧I w' v (oal o n) bs'∧Mm w0 (bs'++l) w'∧Off (bs.map Prod.fst) w w'
 nxt:∀ (w0 w:World) (v:Value) (o:Obx) (bs l:List (Nat × List Value)) (n:Int),ObxW o→o.b.length<1000000→i64 n→I w v o bs→Mm w0 (bs++l) w →
  Calls Try.prog 13 #[v,.int .i64 n] w fun e w'=>∃ sq cq bs',e=.returned (.tuple #[.agg #[.int .i64 ((onF o n:Nat):Int),.slice sq (onB o n).length cq],.bool (decide (0<onN o n))])∧NewL w' w.heap.size (onB o n) (.slice sq (onB o n).length cq)∧Wrt w' sq (onB o n).length∧I w' v (onx o n) bs'∧Mm w0 (bs'++(obs sq++l)) w'∧Off (bs.map Prod.fst) w w'
 lst:∀ (w0 w:World) (v:Value) (o:Obx) (bs l:List (Nat × List Value)) (p n:Int),ObxW o→o.b.length<1000000→i64 p→i64 n→I w v o bs→Mm w0 (bs++l) w →
  Calls Try.prog 15 #[v,.int .i64 p,.int .i64 n] w fun e w'=>∃ bs',e=.returned (.tuple #[])∧I w' v (olo o p n) bs'∧Mm w0 (bs'++l) w'∧Off (bs.map Prod.fst) w w'
 ack:∀ (w0 w:World) (v:Value) (o:Obx) (bs l:List (Nat × List Value)) (p:Int) (L:List (Int × Int)) (sl:Option Addr) (cl:Nat),ObxW o→o.b.length<1000000→i64 p→L.length<1000000→(∀ r∈L,i64 r.1∧i64 r.2)→RgW w L (.slice sl L.length cl)→(∀ b∈bs.map Prod.fst,L≠[]→b∉ob sl)→I w v o bs→Mm w0 (bs++l) w →
  Calls Try.prog 17 #[v,.int .i64 p,.slice sl L.length cl] w fun e w'=>∃ bs',e=.returned (.tuple #[])∧I w' v (oac o p L) bs'∧Mm w0 (bs'++l) w'∧Off (bs.map Prod.fst) w w'
 bas:∀ (w0 w:World) (v:Value) (o:Obx) (bs l:List (Nat × List Value)),ObxW o→o.b.length<1000000→I w v o bs→Mm w0 (bs++l) w →
  Calls Try.prog 22 #[v] w fun e w'=>e=.returned (.int .i64 ((obase o:Nat):Int))∧Below w.heap.size w w'
 end_:∀ (w0 w:World) (v:Value) (o:Obx) (bs l:List (Nat × List Value)),ObxW o→o.b.length<1000000→I w v o bs→Mm w0 (bs++l) w →
  Calls Try.prog 24 #[v] w fun e w'=>e=.returned (.int .i64 ((o.b.length:Nat):Int))∧Below w.heap.size w w'
 snt:∀ (w0 w:World) (v:Value) (o:Obx) (bs l:List (Nat × List Value)),ObxW o→o.b.length<1000000→I w v o bs→Mm w0 (bs++l) w →
  Calls Try.prog 25 #[v] w fun e w'=>e=.returned (.int .i64 ((o.sent:Nat):Int))∧Below w.heap.size w w'
 idl:∀ (w0 w:World) (v:Value) (o:Obx) (bs l:List (Nat × List Value)),ObxW o→o.b.length<1000000→I w v o bs→Mm w0 (bs++l) w →
  Calls Try.prog 26 #[v] w fun e w'=>e=.returned (.bool (oid o))∧Below w.heap.size w w'
 blk:∀ (w0 w:World) (v:Value) (o:Obx) (bs l:List (Nat × List Value)),ObxW o→o.b.length<1000000→I w v o bs→Mm w0 (bs++l) w →
  Calls Try.prog 28 #[v] w fun e w'=>e=.returned (.bool (obl o))∧Below w.heap.size w w'
theorem OutOK.bel {I:OutI} (h:OutOK I) {w w':World} {v:Value} {o:Obx} {bs:List (Nat × List Value)} (hI:I w v o bs) (l:Below w.heap.size w w'):I w' v o bs:=h.off w w' v o bs [] hI (Off.of_below l) (fun _ hb=>by cases hb)
def OutCl (I:OutI):Prop :=
 ∀ (w0 w:World) (v:Value) (o:Obx) (bs l:List (Nat × List Value)),ObxW o→o.b.length<1000000→I w v o bs→Mm w0 (bs++l) w →
  Calls Try.prog 21 #[v] w fun e w'=>∃ v' bs',e=.returned v'∧I w' v' o bs'∧Mm w0 (bs'++(bs++l)) w'∧Below w.heap.size w w'
structure Opv where
 k:Int
 n:Int
 m:Int
 b:List Int
 r:List (Int × Int)
def Opc (v:Opv) (bp:Option Addr) (bc:Nat) (rp:Option Addr) (rc:Nat):List Value:=[.int .i64 v.k,.int .i64 v.n,.int .i64 v.m,.slice bp v.b.length bc,.slice rp v.r.length rc]
structure OpV (w:World) (m:Nat) (v:Opv) (bp:Option Addr) (bc:Nat) (rp:Option Addr) (rc:Nat):Prop where
 k_i:i64 v.k
 n_i:i64 v.n
 m_i:i64 v.m
 b_src:Src w bp v.b.length (bl v.b)
 b_le:v.b.length≤bc
 b_nil:bp=none→bc=0
 b_max:v.b.length≤m
 b_byts:Byts v.b
 r_in:RgW w v.r (.slice rp v.r.length rc)
 r_i:∀ x∈v.r,i64 x.1∧i64 x.2
def OpsIn (w:World) (m:Nat) (sp:Option Addr) (l:List Opv):Prop:=∀ j v,l[j]?=some v→∃ ad bp bc rp rc,sp=some ad∧(∀ k x,(Opc v bp bc rp rc)[k]?=some x→w.cell? ((ad.add (j*5)).add k)=some x)∧OpV w m v bp bc rp rc
theorem cellS18 {w w':World} (l:Below w.heap.size w w') {p:Addr} {u:Value} (h:w.cell? p=some u):w'.cell? p=some u:=by
 rw [l.cell (World.block_lt_of_cell? w _ h)]
 exact h
theorem idxO18 (ad:Addr) (len cap i:Nat) (hi:i<len) {o:Oper} {a:Act} (x y:Operand) (ho:o.op=.indexAddr 22 x y) (hx:a.eval x=.slice (some ad) len cap) (hy:a.eval y=.int .i64 (i:Int)) (w:World):(execOp a.eval o).run Try.prog w=.ok (.value (.pointer (some (ad.add (i*5))))) w :=
 idxSm 22 31 len cap 5 .i64 ad i x y Try.underlying22 (fun _=>by kernel_rfl) hi ho hx hy w
theorem onx_b (o:Obx) (n:Int):(onx o n).b=o.b:=by
 unfold onx
 split
 · rfl
 · split <;> rfl
structure DV18 (w0 w:World) (o:Obx) (sb sa sh:Option Addr) (cb ca ch:Nat):Prop where
 b:w.ownsRow w0.heap.size 5 1 (.slice sb o.b.length cb) o.b.length (row .u8 o.b.length (bl o.b))
 a:w.ownsRow w0.heap.size 4 1 (.slice sa o.b.length ca) o.b.length (brw o.b.length o.ag)
 h:w.ownsRow w0.heap.size 4 1 (.slice sh o.b.length ch) o.b.length (brw o.b.length o.he)
def dbk (R:Nat) (o:Obx) (sb sa sh:Option Addr) (cb ca ch:Nat):List (Nat × List Value):=(R,dcs o sb sa sh cb ca ch)::(obs sb++(obs sa++obs sh))
theorem dbk_fst (R:Nat) (o:Obx) (sb sa sh:Option Addr) (cb ca ch:Nat):(dbk R o sb sa sh cb ca ch).map Prod.fst=R::(ob sb++(ob sa++ob sh)):=by
 unfold dbk
 rw [List.map_cons,List.map_append,List.map_append,obs_fst,obs_fst,obs_fst]
theorem dbk_app (R:Nat) (o:Obx) (sb sa sh:Option Addr) (cb ca ch:Nat) (l:List (Nat × List Value)):dbk R o sb sa sh cb ca ch++l=(R,dcs o sb sa sh cb ca ch)::(obs sb++(obs sa++(obs sh++l))):=by
 unfold dbk
 simp only [List.cons_append,List.append_assoc]
def DI18 (w0:World):OutI:=fun w v o bs=>∃ R sb sa sh cb ca ch,v=.pointer (some ⟨R,0,none⟩)∧bs=dbk R o sb sa sh cb ca ch∧(∀ j u,(dcs o sb sa sh cb ca ch)[j]?=some u→w.cell? ⟨R,j,none⟩=some u)∧DV18 w0 w o sb sa sh cb ca ch
theorem DI18.off {w0 w w':World} {v:Value} {o:Obx} {bs:List (Nat × List Value)} {X:List Nat} (h:DI18 w0 w v o bs) (f:Off X w w') (hX:∀ b∈X,b∉bs.map Prod.fst):DI18 w0 w' v o bs:=by
 obtain ⟨R,sb,sa,sh,cb,ca,ch,e1,e2,hc,hv⟩:=h
 subst e2
 rw [dbk_fst] at hX
 refine ⟨R,sb,sa,sh,cb,ca,ch,e1,rfl,fun j u hu=>f.cell (hc j u hu) fun hm=>hX _ hm mS,?_,?_,?_⟩
 · exact ownsRow_away hv.b f fun b hb hm=>hX b hb (mT _ (List.mem_append_left _ hm))
 · exact ownsRow_away hv.a f fun b hb hm=>hX b hb (mT _ (List.mem_append_right _ (List.mem_append_left _ hm)))
 · exact ownsRow_away hv.h f fun b hb hm=>hX b hb (mT _ (List.mem_append_right _ (List.mem_append_right _ hm)))
theorem Mm.dcell {w0 w:World} {R:Nat} {cs:List Value} {l:List (Nat × List Value)} (M:Mm w0 ((R,cs)::l) w):∀ j u,cs[j]?=some u→w.cell? ⟨R,j,none⟩=some u:=fun j u hu=>M.get mS j u hu
theorem ownsRow_wrt {w:World} {base:Nat} {e:TypeId} {n:Nat} {xs:List Value} {sp:Option Addr} {cap:Nat} (h:w.ownsRow base e 1 (.slice sp n cap) n xs):Wrt w sp n:=fun j hj=>by
 rcases h.2 with ⟨_,e2⟩ | ⟨g,cap',cur,e1,_,hg,hc,_,hs,_⟩
 · omega
 · injection e1 with e1 _ e3
   subst e1; subst e3
   refine ⟨_,rfl,?_,?_⟩
   · rw [Addr.add_mid,Nat.zero_add]
     unfold World.cell?
     rw [hg]
     simp
     omega
   · rw [Addr.add_mid,Nat.zero_add]
     unfold World.frozen?
     rw [hg]
     simp
structure DocO18 (w0:World) (I:OutI):Prop where
 ptr:∀ w v o bs,I w v o bs→∃ R,v=.pointer (some ⟨R,0,none⟩)
 off:∀ w w' v o bs X,I w v o bs→Off X w w'→(∀ b∈X,b∉bs.map Prod.fst)→I w' v o bs
 wrt:∀ (_ w:World) (v:Value) (o:Obx) (bs l:List (Nat × List Value)) (sp:Option Addr) (cap:Nat) (b:List Int),ObxW o→o.b.length<1000000→b.length<1000000→b.length≤cap→(sp=none→cap=0)→Byts b→I w v o bs→Mm w0 (bs++l) w→SrcA (bs.map Prod.fst) w sp b.length (bl b) →
  Calls Try.prog 12 #[v,.slice sp b.length cap] w fun e w'=>∃ bs',e=.returned (.int .i64 ((owN o b.length:Nat):Int))∧I w' v (owr o b) bs'∧Mm w0 (bs'++l) w'∧Off (bs.map Prod.fst) w w'
 alw:∀ (_ w:World) (v:Value) (o:Obx) (bs l:List (Nat × List Value)) (n:Int),ObxW o→o.b.length<1000000→i64 n→I w v o bs→Mm w0 (bs++l) w →
  Calls Try.prog 20 #[v,.int .i64 n] w fun e w'=>∃ bs',e=.returned (.tuple #[])∧I w' v (oal o n) bs'∧Mm w0 (bs'++l) w'∧Off (bs.map Prod.fst) w w'
 nxt:∀ (_ w:World) (v:Value) (o:Obx) (bs l:List (Nat × List Value)) (n:Int),ObxW o→o.b.length<1000000→i64 n→I w v o bs→Mm w0 (bs++l) w →
  Calls Try.prog 14 #[v,.int .i64 n] w fun e w'=>∃ sq cq bs',e=.returned (.tuple #[.agg #[.int .i64 ((onF o n:Nat):Int),.slice sq (onB o n).length cq],.bool (decide (0<onN o n))])∧NewL w' w0.heap.size (onB o n) (.slice sq (onB o n).length cq)∧Wrt w' sq (onB o n).length∧I w' v (onx o n) bs'∧Mm w0 (bs'++(obs sq++l)) w'∧Off (bs.map Prod.fst) w w'
 lst:∀ (_ w:World) (v:Value) (o:Obx) (bs l:List (Nat × List Value)) (p n:Int),ObxW o→o.b.length<1000000→i64 p→i64 n→I w v o bs→Mm w0 (bs++l) w →
  Calls Try.prog 16 #[v,.int .i64 p,.int .i64 n] w fun e w'=>∃ bs',e=.returned (.tuple #[])∧I w' v (olo o p n) bs'∧Mm w0 (bs'++l) w'∧Off (bs.map Prod.fst) w w'
 ack:∀ (_ w:World) (v:Value) (o:Obx) (bs l:List (Nat × List Value)) (p:Int) (L:List (Int × Int)) (sl:Option Addr) (cl:Nat),ObxW o→o.b.length<1000000→i64 p→L.length<1000000→(∀ r∈L,i64 r.1∧i64 r.2)→RgW w L (.slice sl L.length cl)→(∀ b∈bs.map Prod.fst,L≠[]→b∉ob sl)→I w v o bs→Mm w0 (bs++l) w →
  Calls Try.prog 18 #[v,.int .i64 p,.slice sl L.length cl] w fun e w'=>∃ bs',e=.returned (.tuple #[])∧I w' v (oac o p L) bs'∧Mm w0 (bs'++l) w'∧Off (bs.map Prod.fst) w w'
 bas:∀ (_ w:World) (v:Value) (o:Obx) (bs l:List (Nat × List Value)),ObxW o→o.b.length<1000000→I w v o bs→Mm w0 (bs++l) w →
  Calls Try.prog 23 #[v] w fun e w'=>e=.returned (.int .i64 ((obase o:Nat):Int))∧Below w.heap.size w w'
 idl:∀ (_ w:World) (v:Value) (o:Obx) (bs l:List (Nat × List Value)),ObxW o→o.b.length<1000000→I w v o bs→Mm w0 (bs++l) w →
  Calls Try.prog 27 #[v] w fun e w'=>e=.returned (.bool (oid o))∧Below w.heap.size w w'
 blk:∀ (_ w:World) (v:Value) (o:Obx) (bs l:List (Nat × List Value)),ObxW o→o.b.length<1000000→I w v o bs→Mm w0 (bs++l) w →
  Calls Try.prog 29 #[v] w fun e w'=>e=.returned (.bool (obl o))∧Below w.heap.size w w'
theorem DocO18.bel {w0:World} {I:OutI} (h:DocO18 w0 I) {w w':World} {v:Value} {o:Obx} {bs:List (Nat × List Value)} (hI:I w v o bs) (l:Below w.heap.size w w'):I w' v o bs:=h.off w w' v o bs [] hI (Off.of_below l) (fun _ hb=>by cases hb)
theorem di18_new {w0 w:World} {R:Nat} (n:Int) {l:List (Nat × List Value)} (M:Mm w0 ((R,dcs (onew n) none none none 0 0 0)::l) w):DI18 w0 w (.pointer (some ⟨R,0,none⟩)) (onew n) [(R,dcs (onew n) none none none 0 0 0)] :=
 ⟨R,none,none,none,0,0,0,rfl,rfl,M.dcell,⟨World.ownsRow_nil ..,World.ownsRow_nil ..,World.ownsRow_nil ..⟩⟩
theorem dok18 (w0:World):DocO18 w0 (DI18 w0) where
 ptr:=fun _ _ _ _ h=>let ⟨R,_,_,_,_,_,_,e,_⟩:=h; ⟨R,e⟩
 off:=fun _ _ _ _ _ _ h f hX=>h.off f hX
 wrt:=fun _ w v o bs l sp cap b hw hl hbl hcap hnil _ hI M hs=>by
  obtain ⟨R,sb,sa,sh,cb,ca,ch,rfl,rfl,_,hv⟩:=hI
  rw [dbk_app] at M
  refine (dwrite_any w0 w R l o sb sa sh cb ca ch hw hl sp cap b hbl hcap hnil hs.1 M hv.b hv.a hv.h).mono ?_; rintro e w' ⟨sb',sa',sh',cb',ca',ch',rfl,M',Vb,Va,Vh,f⟩
  refine ⟨dbk R (owr o b) sb' sa' sh' cb' ca' ch',rfl,⟨R,sb',sa',sh',cb',ca',ch',rfl,rfl,M'.dcell,Vb,Va,Vh⟩,?_,?_⟩
  · rw [dbk_app]; exact M'
  · rw [dbk_fst]; exact f
 alw:=fun _ w v o bs l n hw hl _ hI M=>by
  obtain ⟨R,sb,sa,sh,cb,ca,ch,rfl,rfl,_,hv⟩:=hI
  rw [dbk_app] at M
  refine (dallow_any w0 w R l o sb sa sh cb ca ch hw hl n M hv.b hv.a hv.h).mono ?_; rintro e w' ⟨rfl,M',f⟩
  have aw:∀ {s:Option Addr},(∀ p∈obs s,p∈obs sb++(obs sa++(obs sh++l)))→∀ b∈[R],b∉ob s:=fun hs b hb=>by
   rw [List.mem_singleton] at hb
   subst hb
   exact M.awayB hs
  refine ⟨dbk R (oal o n) sb sa sh cb ca ch,rfl,⟨R,sb,sa,sh,cb,ca,ch,rfl,rfl,M'.dcell,?_,?_,?_⟩,?_,?_⟩
  · exact ownsRow_away hv.b f (aw fun p hp=>List.mem_append_left _ hp)
  · exact ownsRow_away hv.a f (aw fun p hp=>List.mem_append_right _ (List.mem_append_left _ hp))
  · exact ownsRow_away hv.h f (aw fun p hp=>List.mem_append_right _ (List.mem_append_right _ (List.mem_append_left _ hp)))
  · rw [dbk_app]; exact M'
  · rw [dbk_fst]
    exact f.mono fun b hb=>by
     rw [List.mem_singleton] at hb
     subst hb
     exact mS
 nxt:=fun _ w v o bs l n hw hl hn hI M=>by
  obtain ⟨R,sb,sa,sh,cb,ca,ch,rfl,rfl,_,hv⟩:=hI
  rw [dbk_app] at M
  refine (dnext_any w0 w R l o sb sa sh cb ca ch hw hl n hn M hv.b hv.a hv.h).mono ?_; rintro e w' ⟨sq,cq,rfl,M',Vq,Vb,Va,Vh,f⟩
  refine ⟨sq,cq,dbk R (onx o n) sb sa sh cb ca ch,rfl,NewF.of_own Vq,ownsRow_wrt Vq,⟨R,sb,sa,sh,cb,ca,ch,rfl,rfl,M'.dcell,?_,?_,?_⟩,?_,?_⟩
  · rw [onx_b]; exact Vb
  · rw [onx_b]; exact Va
  · rw [onx_b]; exact Vh
  · rw [dbk_app]
    exact M'.perm (by
     classical
     exact List.perm_iff_count.2 fun x=>by simp only [List.count_append,List.count_cons]; ac_rfl)
  · rw [dbk_fst]; exact f
 lst:=fun _ w v o bs l p n hw hl hp hn hI M=>by
  obtain ⟨R,sb,sa,sh,cb,ca,ch,rfl,rfl,_,hv⟩:=hI
  rw [dbk_app] at M
  refine (dlost_any w0 w R l o sb sa sh cb ca ch hw hl p n hp hn M hv.b hv.a hv.h).mono ?_; rintro e w' ⟨rfl,M',Vb,Va,Vh,f⟩
  refine ⟨dbk R (olo o p n) sb sa sh cb ca ch,rfl,⟨R,sb,sa,sh,cb,ca,ch,rfl,rfl,M'.dcell,Vb,Va,Vh⟩,?_,?_⟩
  · rw [dbk_app]; exact M'
  · rw [dbk_fst]; exact f
 ack:=fun _ w v o bs l p L sl cl hw hl _ hL _ hN haw hI M=>by
  obtain ⟨R,sb,sa,sh,cb,ca,ch,rfl,rfl,_,hv⟩:=hI
  rw [dbk_app] at M
  rw [dbk_fst] at haw
  refine (dack_any w0 w R l o sb sa sh cb ca ch hw hl p L sl cl hL (fun b hb hne=>?_) hN M hv.b hv.a hv.h).mono ?_
  · rcases hb with hb | hb
    · exact haw b hb hne
    · exact RgW.away hN hb hne
  · rintro e w' ⟨rfl,M',Vb,Va,Vh,f⟩
    refine ⟨dbk R (oac o p L) sb sa sh cb ca ch,rfl,⟨R,sb,sa,sh,cb,ca,ch,rfl,rfl,M'.dcell,Vb,Va,Vh⟩,?_,?_⟩
    · rw [dbk_app]; exact M'
    · rw [dbk_fst]; exact f
 bas:=fun _ w v o bs l hw hl hI M=>by
  obtain ⟨R,sb,sa,sh,cb,ca,ch,rfl,rfl,_,hv⟩:=hI
  rw [dbk_app] at M
  exact dbase_any w0 w R l o sb sa sh cb ca ch hw hl M hv.b hv.a hv.h
 idl:=fun _ w v o bs l hw hl hI M=>by
  obtain ⟨R,sb,sa,sh,cb,ca,ch,rfl,rfl,_,hv⟩:=hI
  rw [dbk_app] at M
  exact didle_any w0 w R l o sb sa sh cb ca ch hw hl M hv.b hv.a hv.h
 blk:=fun _ w v o bs l hw hl hI M=>by
  obtain ⟨R,sb,sa,sh,cb,ca,ch,rfl,rfl,_,hv⟩:=hI
  rw [dbk_app] at M
  exact dblocked_any w0 w R l o sb sa sh cb ca ch hw hl M hv.b hv.a hv.h
theorem neqBo {P:Program} {o:Oper} {a:Act} (p q:Bool) (t t':TypeId) (x y:Operand) (ho:o.op=.binOp .neq t x y t') (hx:a.eval x=.bool p) (hy:a.eval y=.bool q) (ht:P.underlying t=some .bool) (r:Bool) (hr:(!(p == q))=r) (w:World):(execOp a.eval o).run P w=.ok (.value (.bool r)) w:=by
 unfold execOp
 simp only [ho,hx,hy,Sem.run_bind,eqGuard_at_bool,run_neq_bool w t p q ht,Sem.run_pure,Result.andThen_ok,hr]
def os0:Obx:=onew 4
theorem os0_w:ObxW os0:=onew_w 4
def os1:Obx:=oal os0 9
theorem os1_w:ObxW os1:=oal_w os0_w (by unfold i64; decide)
def os2:Obx:=owr os1 [97,98,99,100,101,102]
theorem os2_w:ObxW os2:=owr_w os1_w (by unfold Byts; decide)
def os3:Obx:=onx os2 3
theorem os3_w:ObxW os3:=onx_w os2_w 3
def os4:Obx:=onx os3 9
theorem os4_w:ObxW os4:=onx_w os3_w 9
def os5:Obx:=onx os4 9
theorem os5_w:ObxW os5:=onx_w os4_w 9
def os6:Obx:=olo os5 1 2
theorem os6_w:ObxW os6:=olo_w os5_w 1 2
def os7:Obx:=onx os6 9
theorem os7_w:ObxW os7:=onx_w os6_w 9
def os8:Obx:=olo os7 0 9
theorem os8_w:ObxW os8:=olo_w os7_w 0 9
def os9:Obx:=oac os8 2 [(3,4)]
theorem os9_w:ObxW os9:=oac_w os8_w 2 _
def os10:Obx:=onx os9 9
theorem os10_w:ObxW os10:=onx_w os9_w 9
def os11:Obx:=owr os10 [120,121,122]
theorem os11_w:ObxW os11:=owr_w os10_w (by unfold Byts; decide)
def os12:Obx:=oac os11 3 []
theorem os12_w:ObxW os12:=oac_w os11_w 3 _
theorem os2F:onF os2 3=0:=by decide +kernel
theorem os2B:onB os2 3=[97,98,99]:=by decide +kernel
theorem os2N:decide (0<onN os2 3)=true:=by decide +kernel
theorem os3F:onF os3 9=3:=by decide +kernel
theorem os3B:onB os3 9=[100]:=by decide +kernel
theorem os3N:decide (0<onN os3 9)=true:=by decide +kernel
theorem os4F:onF os4 9=0:=by decide +kernel
theorem os4B:onB os4 9=[]:=by decide +kernel
theorem os4N:decide (0<onN os4 9)=false:=by decide +kernel
theorem os6F:onF os6 9=1:=by decide +kernel
theorem os6B:onB os6 9=[98,99]:=by decide +kernel
theorem os6N:decide (0<onN os6 9)=true:=by decide +kernel
theorem os9F:onF os9 9=2:=by decide +kernel
theorem os9B:onB os9 9=[99]:=by decide +kernel
theorem os9N:decide (0<onN os9 9)=true:=by decide +kernel
theorem osw1:owN os1 6=4:=by decide +kernel
theorem osw2:owN os10 3=2:=by decide +kernel
theorem osb1:obase os10=2:=by decide +kernel
theorem osb2:obase os12=4:=by decide +kernel
theorem ose:os11.b.length=6:=by decide +kernel
theorem osi:oid os12=false:=by decide +kernel
theorem os0_l:os0.b.length<1000000:=by decide +kernel
theorem os1_l:os1.b.length<1000000:=by decide +kernel
theorem os2_l:os2.b.length<1000000:=by decide +kernel
theorem os3_l:os3.b.length<1000000:=by decide +kernel
theorem os4_l:os4.b.length<1000000:=by decide +kernel
theorem os5_l:os5.b.length<1000000:=by decide +kernel
theorem os6_l:os6.b.length<1000000:=by decide +kernel
theorem os7_l:os7.b.length<1000000:=by decide +kernel
theorem os8_l:os8.b.length<1000000:=by decide +kernel
theorem os9_l:os9.b.length<1000000:=by decide +kernel
theorem os10_l:os10.b.length<1000000:=by decide +kernel
theorem os11_l:os11.b.length<1000000:=by decide +kernel
theorem os12_l:os12.b.length<1000000:=by decide +kernel
theorem shown18_any {I:OutI} (hK:OutOK I) (w0:World) :
 Calls Try.prog 7 #[] w0 fun e w'=>e=.returned (.bool true)∧Below w0.heap.size w0 w':=by
 have M:=Mm.init w0
 go_enter Try.func7,Try.ntmps7
 go_upto_region 0 with fail; refine wp_region_list ?_; refine xpL (.bool false) ?_; refine xT ?_; go_upto_region 1 with fail; refine wp_region_list ?_; have key:=hK.new w0 _ _ 4 (by unfold i64; decide) M; refine xcL key ?_; clear key; rintro e w1 ⟨v_,ba0,rfl,hIa,M',l_⟩
 obtain ⟨Ra,rfl⟩:=hK.ptr _ _ _ _ hIa
 clear M; have M:=M'.perm (pull0 ([]:List (Nat × List Value)) ba0 ([]:List (Nat × List Value))).symm; clear M'; clear l_
 replace M:Mm w0 ((ba0++([]:List (Nat × List Value)))) w1:=M
 refine xeL ?_; refine xpL (.pointer (some ⟨Ra,0,none⟩)) ?_; refine xT ?_; go_upto_region 2 with fail; refine wp_region_list ?_; refine xpL (.pointer (some ⟨Ra,0,none⟩)) ?_; refine xpL (.bool false) ?_; refine xT ?_; go_upto_region 4 with fail; refine wp_region_list ?_; refine xpL (.pointer (some ⟨Ra,0,none⟩)) ?_
 have Mp:=M.perm (pull0 ([]:List (Nat × List Value)) ba0 ([]:List (Nat × List Value))); have key:=hK.alw w0 _ _ os0 ba0 _ 9 os0_w os0_l (by unfold i64; decide) hIa Mp
 rw [show oal os0 9=os1 from rfl] at key
 refine xcL key ?_; clear key; rintro e w2 ⟨ba1,rfl,hI_,M',o1⟩; clear o1 Mp M hIa; have hIa:=hI_; clear hI_
 have M:Mm w0 ((ba1++([]:List (Nat × List Value)))) w2:=M'.perm (pull0 ([]:List (Nat × List Value)) ba1 ([]:List (Nat × List Value))).symm
 clear M'; refine xeL ?_; refine xT ?_; go_upto_region 5 with fail; refine wp_region_list ?_; refine xpL (.pointer (some ⟨Ra,0,none⟩)) ?_; refine actL (w':=w2.alloc (.cells #[.int .u8 97,.int .u8 98,.int .u8 99,.int .u8 100,.int .u8 101,.int .u8 102] 5)) (.slice (some ⟨w2.heap.size,0,none⟩) 6 6) rfl (by kernel_rfl) ?_; simp only [aP,lI,l0,lS]
 refine actL (w':=w2.alloc (.cells #[.int .u8 97,.int .u8 98,.int .u8 99,.int .u8 100,.int .u8 101,.int .u8 102] 5 ((#[.int .u8 97,.int .u8 98,.int .u8 99,.int .u8 100,.int .u8 101,.int .u8 102]:Array Value).size,(#[.int .u8 97,.int .u8 98,.int .u8 99,.int .u8 100,.int .u8 101,.int .u8 102]:Array Value).size+1))) (.slice (some ⟨w2.heap.size,0,none⟩) 6 6) rfl (conv_const 28 5 #[.int .u8 97,.int .u8 98,.int .u8 99,.int .u8 100,.int .u8 101,.int .u8 102] 6 6 _ rfl rfl Try.underlying28 Try.underlying5) ?_
 simp only [aP,lI,l0,lS]; have hlb:=(Below.refl w2.heap.size w2).alloc (xnR _) (.cells #[.int .u8 97,.int .u8 98,.int .u8 99,.int .u8 100,.int .u8 101,.int .u8 102] 5 ((#[.int .u8 97,.int .u8 98,.int .u8 99,.int .u8 100,.int .u8 101,.int .u8 102]:Array Value).size,(#[.int .u8 97,.int .u8 98,.int .u8 99,.int .u8 100,.int .u8 101,.int .u8 102]:Array Value).size+1))
 replace hIa:=hK.bel hIa hlb; replace M:=M.boxC #[.int .u8 97,.int .u8 98,.int .u8 99,.int .u8 100,.int .u8 101,.int .u8 102] 5 (((#[.int .u8 97,.int .u8 98,.int .u8 99,.int .u8 100,.int .u8 101,.int .u8 102]:Array Value)).size,((#[.int .u8 97,.int .u8 98,.int .u8 99,.int .u8 100,.int .u8 101,.int .u8 102]:Array Value)).size+1) w2.heap.size rfl (xnR _); clear hlb
 generalize w2.alloc (.cells #[.int .u8 97,.int .u8 98,.int .u8 99,.int .u8 100,.int .u8 101,.int .u8 102] 5 ((#[.int .u8 97,.int .u8 98,.int .u8 99,.int .u8 100,.int .u8 101,.int .u8 102]:Array Value).size,(#[.int .u8 97,.int .u8 98,.int .u8 99,.int .u8 100,.int .u8 101,.int .u8 102]:Array Value).size+1))=w3 at M hIa ⊢; generalize w2.heap.size=B3 at M ⊢
 replace M:Mm w0 ((B3,[.int .u8 97,.int .u8 98,.int .u8 99,.int .u8 100,.int .u8 101,.int .u8 102])::(ba1++([]:List (Nat × List Value)))) w3:=M
 have Mp:=M.perm (pull0 ([(B3,[.int .u8 97,.int .u8 98,.int .u8 99,.int .u8 100,.int .u8 101,.int .u8 102])]:List (Nat × List Value)) ba1 ([]:List (Nat × List Value)))
 have key:=hK.wrt w0 _ _ os1 ba1 _ (some ⟨B3,0,none⟩) 6 [97,98,99,100,101,102] os1_w os1_l (by decide) (by decide) (fun e=>by cases e) (by unfold Byts; decide) hIa Mp (show SrcA _ _ _ _ _ from ⟨(M.src mS [97,98,99,100,101,102] rfl),fun ad e _=>by cases e; exact Mp.beside mS⟩)
 rw [show owN os1 ([97,98,99,100,101,102]:List Int).length=4 from osw1] at key
 rw [show owr os1 [97,98,99,100,101,102]=os2 from rfl] at key
 refine xcL key ?_; clear key; rintro e w4 ⟨ba2,rfl,hI_,M',o1⟩; clear o1 Mp M hIa; have hIa:=hI_; clear hI_
 have M:Mm w0 ((B3,[.int .u8 97,.int .u8 98,.int .u8 99,.int .u8 100,.int .u8 101,.int .u8 102])::(ba2++([]:List (Nat × List Value)))) w4:=M'.perm (pull0 ([(B3,[.int .u8 97,.int .u8 98,.int .u8 99,.int .u8 100,.int .u8 101,.int .u8 102])]:List (Nat × List Value)) ba2 ([]:List (Nat × List Value))).symm
 clear M'; refine xeL ?_; refine xpL (.int .i64 ((4:Nat):Int)) ?_; refine xT ?_; go_upto_region 6 with fail; refine wp_region_list ?_; refine xpL (.pointer (some ⟨Ra,0,none⟩)) ?_; have Mp:=M.perm (pull0 ([(B3,[.int .u8 97,.int .u8 98,.int .u8 99,.int .u8 100,.int .u8 101,.int .u8 102])]:List (Nat × List Value)) ba2 ([]:List (Nat × List Value)))
 have key:=hK.nxt w0 _ _ os2 ba2 _ 3 os2_w os2_l (by unfold i64; decide) hIa Mp
 rw [os2F] at key
 rw [os2B] at key
 rw [os2N] at key
 rw [show onx os2 3=os3 from rfl] at key
 refine xcL key ?_; clear key; rintro e w5 ⟨p5,c5,ba3,rfl,N_5,T_5,hI_,M',o1⟩; clear o1 Mp M hIa; have hIa:=hI_; clear hI_
 have M:Mm w0 ((B3,[.int .u8 97,.int .u8 98,.int .u8 99,.int .u8 100,.int .u8 101,.int .u8 102])::(ba3++((obs p5)++([]:List (Nat × List Value))))) w5:=M'.perm (pullY ([(B3,[.int .u8 97,.int .u8 98,.int .u8 99,.int .u8 100,.int .u8 101,.int .u8 102])]:List (Nat × List Value)) ba3 (obs p5) ([]:List (Nat × List Value)))
 clear M'; refine xeL ?_
 obtain ⟨bs5,N_5⟩:∃ b_,NewF w5 b_ ([97,98,99]:List Int).length (bl ([97,98,99])) (.slice p5 ([97,98,99]:List Int).length c5):=⟨_,N_5⟩
 refine xpL (.tuple #[.agg #[.int .i64 ((0:Nat):Int),.slice p5 (([97,98,99]:List Int).length) c5],.bool true]) ?_; refine xpL (.agg #[.int .i64 ((0:Nat):Int),.slice p5 (([97,98,99]:List Int).length) c5]) ?_; refine xpL (.bool true) ?_; have hlb:=(Below.refl w5.heap.size w5).alloc (xnR _) (.cells #[.int .i64 0,.slice none 0 0] 35)
 refine actL (w':=w5.alloc (.cells #[.int .i64 0,.slice none 0 0] 35)) (.pointer (some ⟨w5.heap.size,0,none⟩)) rfl (by kernel_rfl) ?_; simp only [aP,lI,l0,lS]; replace hIa:=hK.bel hIa hlb; replace N_5:=NewF.below N_5 hlb; replace T_5:=Wrt.below T_5 hlb; replace M:=M.box #[.int .i64 0,.slice none 0 0] 35 w5.heap.size rfl; clear hlb
 generalize w5.alloc (.cells #[.int .i64 0,.slice none 0 0] 35)=w6 at M hIa N_5 T_5 ⊢; generalize w5.heap.size=B6 at M ⊢
 replace M:Mm w0 ((B6,[.int .i64 0,.slice none 0 0])::(B3,[.int .u8 97,.int .u8 98,.int .u8 99,.int .u8 100,.int .u8 101,.int .u8 102])::(ba3++((obs p5)++([]:List (Nat × List Value))))) w6:=M
 refine skipOpL rfl (storeP [.int .i64 ((0:Nat):Int),.slice p5 (([97,98,99]:List Int).length) c5] B6 0 35 _ _ rfl rfl rfl (M.thereP mS 0 2 (Nat.le_of_ble_eq_true rfl)) (by kernel_rfl) (List.all_eq_true.1 (rfl:([.int .i64 ((0:Nat):Int),.slice p5 (([97,98,99]:List Int).length) c5]:List Value).all (fun u=>u.oneCell')=true))) ?_; simp only [Act.put]
 replace M:=M.setPart [.int .i64 ((0:Nat):Int),.slice p5 (([97,98,99]:List Int).length) c5] 0 (Nat.le_of_ble_eq_true rfl); replace hIa:=hK.off _ _ _ _ _ _ hIa ((Off.refl [B6] _).setAll (b:=B6) mS 0 [.int .i64 ((0:Nat):Int),.slice p5 (([97,98,99]:List Int).length) c5]) (fun b_ hb_=>by obtain rfl:=xm1 hb_; exact M.awayC (fun p_ hp_=>by simp [hp_]))
 replace N_5:=NewF.offB N_5 ((Off.refl [B6] _).setAll (b:=B6) mS 0 [.int .i64 ((0:Nat):Int),.slice p5 (([97,98,99]:List Int).length) c5]) (fun b_ hb_=>by obtain rfl:=xm1 hb_; exact M.awayB (fun p_ hp_=>by simp [hp_]))
 replace T_5:=Wrt.offB T_5 ((Off.refl [B6] _).setAll (b:=B6) mS 0 [.int .i64 ((0:Nat):Int),.slice p5 (([97,98,99]:List Int).length) c5]) (fun b_ hb_=>by obtain rfl:=xm1 hb_; exact M.awayB (fun p_ hp_=>by simp [hp_])); generalize w6.setCells B6 0 [.int .i64 ((0:Nat):Int),.slice p5 (([97,98,99]:List Int).length) c5]=w7 at M hIa N_5 T_5 ⊢
 replace M:Mm w0 ((B6,[.int .i64 ((0:Nat):Int),.slice p5 (([97,98,99]:List Int).length) c5])::(B3,[.int .u8 97,.int .u8 98,.int .u8 99,.int .u8 100,.int .u8 101,.int .u8 102])::(ba3++((obs p5)++([]:List (Nat × List Value))))) w7:=M
 refine xpL (.bool true) ?_; refine xT ?_; go_upto_region 7 with fail; refine wp_region_list ?_; refine xpL (.pointer (some ⟨Ra,0,none⟩)) ?_
 have Mp:=M.perm (pull0 ([(B6,[.int .i64 ((0:Nat):Int),.slice p5 (([97,98,99]:List Int).length) c5]),(B3,[.int .u8 97,.int .u8 98,.int .u8 99,.int .u8 100,.int .u8 101,.int .u8 102])]:List (Nat × List Value)) ba3 ((obs p5)++([]:List (Nat × List Value)))); have key:=hK.nxt w0 _ _ os3 ba3 _ 9 os3_w os3_l (by unfold i64; decide) hIa Mp
 rw [os3F] at key
 rw [os3B] at key
 rw [os3N] at key
 rw [show onx os3 9=os4 from rfl] at key
 refine xcL key ?_; clear key; rintro e w8 ⟨p8,c8,ba4,rfl,N_8,T_8,hI_,M',o1⟩; replace N_5:=NewF.offB N_5 o1 (Mp.awayS (fun p_ hp_=>by simp [hp_])); replace T_5:=Wrt.offB T_5 o1 (Mp.awayS (fun p_ hp_=>by simp [hp_])); clear o1 Mp M hIa; have hIa:=hI_; clear hI_
 have M:Mm w0 ((B6,[.int .i64 ((0:Nat):Int),.slice p5 (([97,98,99]:List Int).length) c5])::(B3,[.int .u8 97,.int .u8 98,.int .u8 99,.int .u8 100,.int .u8 101,.int .u8 102])::(ba4++((obs p8)++((obs p5)++([]:List (Nat × List Value)))))) w8:=M'.perm (pullY ([(B6,[.int .i64 ((0:Nat):Int),.slice p5 (([97,98,99]:List Int).length) c5]),(B3,[.int .u8 97,.int .u8 98,.int .u8 99,.int .u8 100,.int .u8 101,.int .u8 102])]:List (Nat × List Value)) ba4 (obs p8) ((obs p5)++([]:List (Nat × List Value))))
 clear M'; refine xeL ?_
 obtain ⟨bs8,N_8⟩:∃ b_,NewF w8 b_ ([100]:List Int).length (bl ([100])) (.slice p8 ([100]:List Int).length c8):=⟨_,N_8⟩
 refine xpL (.tuple #[.agg #[.int .i64 ((3:Nat):Int),.slice p8 (([100]:List Int).length) c8],.bool true]) ?_; refine xpL (.agg #[.int .i64 ((3:Nat):Int),.slice p8 (([100]:List Int).length) c8]) ?_; refine xpL (.bool true) ?_; have hlb:=(Below.refl w8.heap.size w8).alloc (xnR _) (.cells #[.int .i64 0,.slice none 0 0] 35)
 refine actL (w':=w8.alloc (.cells #[.int .i64 0,.slice none 0 0] 35)) (.pointer (some ⟨w8.heap.size,0,none⟩)) rfl (by kernel_rfl) ?_; simp only [aP,lI,l0,lS]; replace hIa:=hK.bel hIa hlb; replace N_5:=NewF.below N_5 hlb; replace T_5:=Wrt.below T_5 hlb; replace N_8:=NewF.below N_8 hlb; replace T_8:=Wrt.below T_8 hlb
 replace M:=M.box #[.int .i64 0,.slice none 0 0] 35 w8.heap.size rfl; clear hlb; generalize w8.alloc (.cells #[.int .i64 0,.slice none 0 0] 35)=w9 at M hIa N_5 T_5 N_8 T_8 ⊢; generalize w8.heap.size=B9 at M ⊢
 replace M:Mm w0 ((B9,[.int .i64 0,.slice none 0 0])::(B6,[.int .i64 ((0:Nat):Int),.slice p5 (([97,98,99]:List Int).length) c5])::(B3,[.int .u8 97,.int .u8 98,.int .u8 99,.int .u8 100,.int .u8 101,.int .u8 102])::(ba4++((obs p8)++((obs p5)++([]:List (Nat × List Value)))))) w9:=M
 refine skipOpL rfl (storeP [.int .i64 ((3:Nat):Int),.slice p8 (([100]:List Int).length) c8] B9 0 35 _ _ rfl rfl rfl (M.thereP mS 0 2 (Nat.le_of_ble_eq_true rfl)) (by kernel_rfl) (List.all_eq_true.1 (rfl:([.int .i64 ((3:Nat):Int),.slice p8 (([100]:List Int).length) c8]:List Value).all (fun u=>u.oneCell')=true))) ?_; simp only [Act.put]
 replace M:=M.setPart [.int .i64 ((3:Nat):Int),.slice p8 (([100]:List Int).length) c8] 0 (Nat.le_of_ble_eq_true rfl); replace hIa:=hK.off _ _ _ _ _ _ hIa ((Off.refl [B9] _).setAll (b:=B9) mS 0 [.int .i64 ((3:Nat):Int),.slice p8 (([100]:List Int).length) c8]) (fun b_ hb_=>by obtain rfl:=xm1 hb_; exact M.awayC (fun p_ hp_=>by simp [hp_]))
 replace N_5:=NewF.offB N_5 ((Off.refl [B9] _).setAll (b:=B9) mS 0 [.int .i64 ((3:Nat):Int),.slice p8 (([100]:List Int).length) c8]) (fun b_ hb_=>by obtain rfl:=xm1 hb_; exact M.awayB (fun p_ hp_=>by simp [hp_]))
 replace T_5:=Wrt.offB T_5 ((Off.refl [B9] _).setAll (b:=B9) mS 0 [.int .i64 ((3:Nat):Int),.slice p8 (([100]:List Int).length) c8]) (fun b_ hb_=>by obtain rfl:=xm1 hb_; exact M.awayB (fun p_ hp_=>by simp [hp_]))
 replace N_8:=NewF.offB N_8 ((Off.refl [B9] _).setAll (b:=B9) mS 0 [.int .i64 ((3:Nat):Int),.slice p8 (([100]:List Int).length) c8]) (fun b_ hb_=>by obtain rfl:=xm1 hb_; exact M.awayB (fun p_ hp_=>by simp [hp_]))
 replace T_8:=Wrt.offB T_8 ((Off.refl [B9] _).setAll (b:=B9) mS 0 [.int .i64 ((3:Nat):Int),.slice p8 (([100]:List Int).length) c8]) (fun b_ hb_=>by obtain rfl:=xm1 hb_; exact M.awayB (fun p_ hp_=>by simp [hp_])); generalize w9.setCells B9 0 [.int .i64 ((3:Nat):Int),.slice p8 (([100]:List Int).length) c8]=w10 at M hIa N_5 T_5 N_8 T_8 ⊢
 replace M:Mm w0 ((B9,[.int .i64 ((3:Nat):Int),.slice p8 (([100]:List Int).length) c8])::(B6,[.int .i64 ((0:Nat):Int),.slice p5 (([97,98,99]:List Int).length) c5])::(B3,[.int .u8 97,.int .u8 98,.int .u8 99,.int .u8 100,.int .u8 101,.int .u8 102])::(ba4++((obs p8)++((obs p5)++([]:List (Nat × List Value)))))) w10:=M
 refine xpL (.bool true) ?_; refine xT ?_; go_upto_region 8 with fail; refine wp_region_list ?_; refine xpL (.pointer (some ⟨Ra,0,none⟩)) ?_
 have Mp:=M.perm (pull0 ([(B9,[.int .i64 ((3:Nat):Int),.slice p8 (([100]:List Int).length) c8]),(B6,[.int .i64 ((0:Nat):Int),.slice p5 (([97,98,99]:List Int).length) c5]),(B3,[.int .u8 97,.int .u8 98,.int .u8 99,.int .u8 100,.int .u8 101,.int .u8 102])]:List (Nat × List Value)) ba4 ((obs p8)++((obs p5)++([]:List (Nat × List Value)))))
 have key:=hK.nxt w0 _ _ os4 ba4 _ 9 os4_w os4_l (by unfold i64; decide) hIa Mp
 rw [os4F] at key
 rw [os4B] at key
 rw [os4N] at key
 rw [show onx os4 9=os5 from rfl] at key
 refine xcL key ?_; clear key; rintro e w11 ⟨p11,c11,ba5,rfl,N_11,T_11,hI_,M',o1⟩; replace N_5:=NewF.offB N_5 o1 (Mp.awayS (fun p_ hp_=>by simp [hp_])); replace T_5:=Wrt.offB T_5 o1 (Mp.awayS (fun p_ hp_=>by simp [hp_])); replace N_8:=NewF.offB N_8 o1 (Mp.awayS (fun p_ hp_=>by simp [hp_])); replace T_8:=Wrt.offB T_8 o1 (Mp.awayS (fun p_ hp_=>by simp [hp_]))
 clear o1 Mp M hIa; have hIa:=hI_; clear hI_
 have M:Mm w0 ((B9,[.int .i64 ((3:Nat):Int),.slice p8 (([100]:List Int).length) c8])::(B6,[.int .i64 ((0:Nat):Int),.slice p5 (([97,98,99]:List Int).length) c5])::(B3,[.int .u8 97,.int .u8 98,.int .u8 99,.int .u8 100,.int .u8 101,.int .u8 102])::(ba5++((obs p11)++((obs p8)++((obs p5)++([]:List (Nat × List Value))))))) w11:=M'.perm (pullY ([(B9,[.int .i64 ((3:Nat):Int),.slice p8 (([100]:List Int).length) c8]),(B6,[.int .i64 ((0:Nat):Int),.slice p5 (([97,98,99]:List Int).length) c5]),(B3,[.int .u8 97,.int .u8 98,.int .u8 99,.int .u8 100,.int .u8 101,.int .u8 102])]:List (Nat × List Value)) ba5 (obs p11) ((obs p8)++((obs p5)++([]:List (Nat × List Value)))))
 clear M'; refine xeL ?_
 obtain ⟨bs11,N_11⟩:∃ b_,NewF w11 b_ ([]:List Int).length (bl ([])) (.slice p11 ([]:List Int).length c11):=⟨_,N_11⟩
 refine xpL (.tuple #[.agg #[.int .i64 ((0:Nat):Int),.slice p11 (([]:List Int).length) c11],.bool false]) ?_; refine xpL (.agg #[.int .i64 ((0:Nat):Int),.slice p11 (([]:List Int).length) c11]) ?_; refine xpL (.bool false) ?_; have hlb:=(Below.refl w11.heap.size w11).alloc (xnR _) (.cells #[.int .i64 0,.slice none 0 0] 35)
 refine actL (w':=w11.alloc (.cells #[.int .i64 0,.slice none 0 0] 35)) (.pointer (some ⟨w11.heap.size,0,none⟩)) rfl (by kernel_rfl) ?_; simp only [aP,lI,l0,lS]; replace hIa:=hK.bel hIa hlb; replace N_5:=NewF.below N_5 hlb; replace T_5:=Wrt.below T_5 hlb; replace N_8:=NewF.below N_8 hlb; replace T_8:=Wrt.below T_8 hlb; replace N_11:=NewF.below N_11 hlb
 replace T_11:=Wrt.below T_11 hlb; replace M:=M.box #[.int .i64 0,.slice none 0 0] 35 w11.heap.size rfl; clear hlb; generalize w11.alloc (.cells #[.int .i64 0,.slice none 0 0] 35)=w12 at M hIa N_5 T_5 N_8 T_8 N_11 T_11 ⊢; generalize w11.heap.size=B12 at M ⊢
 replace M:Mm w0 ((B12,[.int .i64 0,.slice none 0 0])::(B9,[.int .i64 ((3:Nat):Int),.slice p8 (([100]:List Int).length) c8])::(B6,[.int .i64 ((0:Nat):Int),.slice p5 (([97,98,99]:List Int).length) c5])::(B3,[.int .u8 97,.int .u8 98,.int .u8 99,.int .u8 100,.int .u8 101,.int .u8 102])::(ba5++((obs p11)++((obs p8)++((obs p5)++([]:List (Nat × List Value))))))) w12:=M
 refine skipOpL rfl (storeP [.int .i64 ((0:Nat):Int),.slice p11 (([]:List Int).length) c11] B12 0 35 _ _ rfl rfl rfl (M.thereP mS 0 2 (Nat.le_of_ble_eq_true rfl)) (by kernel_rfl) (List.all_eq_true.1 (rfl:([.int .i64 ((0:Nat):Int),.slice p11 (([]:List Int).length) c11]:List Value).all (fun u=>u.oneCell')=true))) ?_; simp only [Act.put]
 replace M:=M.setPart [.int .i64 ((0:Nat):Int),.slice p11 (([]:List Int).length) c11] 0 (Nat.le_of_ble_eq_true rfl); replace hIa:=hK.off _ _ _ _ _ _ hIa ((Off.refl [B12] _).setAll (b:=B12) mS 0 [.int .i64 ((0:Nat):Int),.slice p11 (([]:List Int).length) c11]) (fun b_ hb_=>by obtain rfl:=xm1 hb_; exact M.awayC (fun p_ hp_=>by simp [hp_]))
 replace N_5:=NewF.offB N_5 ((Off.refl [B12] _).setAll (b:=B12) mS 0 [.int .i64 ((0:Nat):Int),.slice p11 (([]:List Int).length) c11]) (fun b_ hb_=>by obtain rfl:=xm1 hb_; exact M.awayB (fun p_ hp_=>by simp [hp_]))
 replace T_5:=Wrt.offB T_5 ((Off.refl [B12] _).setAll (b:=B12) mS 0 [.int .i64 ((0:Nat):Int),.slice p11 (([]:List Int).length) c11]) (fun b_ hb_=>by obtain rfl:=xm1 hb_; exact M.awayB (fun p_ hp_=>by simp [hp_]))
 replace N_8:=NewF.offB N_8 ((Off.refl [B12] _).setAll (b:=B12) mS 0 [.int .i64 ((0:Nat):Int),.slice p11 (([]:List Int).length) c11]) (fun b_ hb_=>by obtain rfl:=xm1 hb_; exact M.awayB (fun p_ hp_=>by simp [hp_]))
 replace T_8:=Wrt.offB T_8 ((Off.refl [B12] _).setAll (b:=B12) mS 0 [.int .i64 ((0:Nat):Int),.slice p11 (([]:List Int).length) c11]) (fun b_ hb_=>by obtain rfl:=xm1 hb_; exact M.awayB (fun p_ hp_=>by simp [hp_]))
 replace N_11:=NewF.offB N_11 ((Off.refl [B12] _).setAll (b:=B12) mS 0 [.int .i64 ((0:Nat):Int),.slice p11 (([]:List Int).length) c11]) (fun b_ hb_=>by obtain rfl:=xm1 hb_; exact M.awayB (fun p_ hp_=>by simp [hp_]))
 replace T_11:=Wrt.offB T_11 ((Off.refl [B12] _).setAll (b:=B12) mS 0 [.int .i64 ((0:Nat):Int),.slice p11 (([]:List Int).length) c11]) (fun b_ hb_=>by obtain rfl:=xm1 hb_; exact M.awayB (fun p_ hp_=>by simp [hp_])); generalize w12.setCells B12 0 [.int .i64 ((0:Nat):Int),.slice p11 (([]:List Int).length) c11]=w13 at M hIa N_5 T_5 N_8 T_8 N_11 T_11 ⊢
 replace M:Mm w0 ((B12,[.int .i64 ((0:Nat):Int),.slice p11 (([]:List Int).length) c11])::(B9,[.int .i64 ((3:Nat):Int),.slice p8 (([100]:List Int).length) c8])::(B6,[.int .i64 ((0:Nat):Int),.slice p5 (([97,98,99]:List Int).length) c5])::(B3,[.int .u8 97,.int .u8 98,.int .u8 99,.int .u8 100,.int .u8 101,.int .u8 102])::(ba5++((obs p11)++((obs p8)++((obs p5)++([]:List (Nat × List Value))))))) w13:=M
 refine xpL (.bool false) ?_; refine xT ?_; go_upto_region 9 with fail; refine wp_region_list ?_; refine xpL (.pointer (some ⟨Ra,0,none⟩)) ?_
 have Mp:=M.perm (pull0 ([(B12,[.int .i64 ((0:Nat):Int),.slice p11 (([]:List Int).length) c11]),(B9,[.int .i64 ((3:Nat):Int),.slice p8 (([100]:List Int).length) c8]),(B6,[.int .i64 ((0:Nat):Int),.slice p5 (([97,98,99]:List Int).length) c5]),(B3,[.int .u8 97,.int .u8 98,.int .u8 99,.int .u8 100,.int .u8 101,.int .u8 102])]:List (Nat × List Value)) ba5 ((obs p11)++((obs p8)++((obs p5)++([]:List (Nat × List Value))))))
 have key:=hK.lst w0 _ _ os5 ba5 _ 1 2 os5_w os5_l (by unfold i64; decide) (by unfold i64; decide) hIa Mp
 rw [show olo os5 1 2=os6 from rfl] at key
 refine xcL key ?_; clear key; rintro e w14 ⟨ba6,rfl,hI_,M',o1⟩; replace N_5:=NewF.offB N_5 o1 (Mp.awayS (fun p_ hp_=>by simp [hp_])); replace T_5:=Wrt.offB T_5 o1 (Mp.awayS (fun p_ hp_=>by simp [hp_])); replace N_8:=NewF.offB N_8 o1 (Mp.awayS (fun p_ hp_=>by simp [hp_])); replace T_8:=Wrt.offB T_8 o1 (Mp.awayS (fun p_ hp_=>by simp [hp_]))
 replace N_11:=NewF.offB N_11 o1 (Mp.awayS (fun p_ hp_=>by simp [hp_])); replace T_11:=Wrt.offB T_11 o1 (Mp.awayS (fun p_ hp_=>by simp [hp_])); clear o1 Mp M hIa; have hIa:=hI_; clear hI_
 have M:Mm w0 ((B12,[.int .i64 ((0:Nat):Int),.slice p11 (([]:List Int).length) c11])::(B9,[.int .i64 ((3:Nat):Int),.slice p8 (([100]:List Int).length) c8])::(B6,[.int .i64 ((0:Nat):Int),.slice p5 (([97,98,99]:List Int).length) c5])::(B3,[.int .u8 97,.int .u8 98,.int .u8 99,.int .u8 100,.int .u8 101,.int .u8 102])::(ba6++((obs p11)++((obs p8)++((obs p5)++([]:List (Nat × List Value))))))) w14:=M'.perm (pull0 ([(B12,[.int .i64 ((0:Nat):Int),.slice p11 (([]:List Int).length) c11]),(B9,[.int .i64 ((3:Nat):Int),.slice p8 (([100]:List Int).length) c8]),(B6,[.int .i64 ((0:Nat):Int),.slice p5 (([97,98,99]:List Int).length) c5]),(B3,[.int .u8 97,.int .u8 98,.int .u8 99,.int .u8 100,.int .u8 101,.int .u8 102])]:List (Nat × List Value)) ba6 ((obs p11)++((obs p8)++((obs p5)++([]:List (Nat × List Value)))))).symm
 clear M'; refine xeL ?_; refine xT ?_; go_upto_region 10 with fail; refine wp_region_list ?_; refine xpL (.pointer (some ⟨Ra,0,none⟩)) ?_
 have Mp:=M.perm (pull0 ([(B12,[.int .i64 ((0:Nat):Int),.slice p11 (([]:List Int).length) c11]),(B9,[.int .i64 ((3:Nat):Int),.slice p8 (([100]:List Int).length) c8]),(B6,[.int .i64 ((0:Nat):Int),.slice p5 (([97,98,99]:List Int).length) c5]),(B3,[.int .u8 97,.int .u8 98,.int .u8 99,.int .u8 100,.int .u8 101,.int .u8 102])]:List (Nat × List Value)) ba6 ((obs p11)++((obs p8)++((obs p5)++([]:List (Nat × List Value))))))
 have key:=hK.nxt w0 _ _ os6 ba6 _ 9 os6_w os6_l (by unfold i64; decide) hIa Mp
 rw [os6F] at key
 rw [os6B] at key
 rw [os6N] at key
 rw [show onx os6 9=os7 from rfl] at key
 refine xcL key ?_; clear key; rintro e w15 ⟨p15,c15,ba7,rfl,N_15,T_15,hI_,M',o1⟩; replace N_5:=NewF.offB N_5 o1 (Mp.awayS (fun p_ hp_=>by simp [hp_])); replace T_5:=Wrt.offB T_5 o1 (Mp.awayS (fun p_ hp_=>by simp [hp_])); replace N_8:=NewF.offB N_8 o1 (Mp.awayS (fun p_ hp_=>by simp [hp_])); replace T_8:=Wrt.offB T_8 o1 (Mp.awayS (fun p_ hp_=>by simp [hp_]))
 replace N_11:=NewF.offB N_11 o1 (Mp.awayS (fun p_ hp_=>by simp [hp_])); replace T_11:=Wrt.offB T_11 o1 (Mp.awayS (fun p_ hp_=>by simp [hp_])); clear o1 Mp M hIa; have hIa:=hI_; clear hI_
 have M:Mm w0 ((B12,[.int .i64 ((0:Nat):Int),.slice p11 (([]:List Int).length) c11])::(B9,[.int .i64 ((3:Nat):Int),.slice p8 (([100]:List Int).length) c8])::(B6,[.int .i64 ((0:Nat):Int),.slice p5 (([97,98,99]:List Int).length) c5])::(B3,[.int .u8 97,.int .u8 98,.int .u8 99,.int .u8 100,.int .u8 101,.int .u8 102])::(ba7++((obs p15)++((obs p11)++((obs p8)++((obs p5)++([]:List (Nat × List Value)))))))) w15:=M'.perm (pullY ([(B12,[.int .i64 ((0:Nat):Int),.slice p11 (([]:List Int).length) c11]),(B9,[.int .i64 ((3:Nat):Int),.slice p8 (([100]:List Int).length) c8]),(B6,[.int .i64 ((0:Nat):Int),.slice p5 (([97,98,99]:List Int).length) c5]),(B3,[.int .u8 97,.int .u8 98,.int .u8 99,.int .u8 100,.int .u8 101,.int .u8 102])]:List (Nat × List Value)) ba7 (obs p15) ((obs p11)++((obs p8)++((obs p5)++([]:List (Nat × List Value))))))
 clear M'; refine xeL ?_
 obtain ⟨bs15,N_15⟩:∃ b_,NewF w15 b_ ([98,99]:List Int).length (bl ([98,99])) (.slice p15 ([98,99]:List Int).length c15):=⟨_,N_15⟩
 refine xpL (.tuple #[.agg #[.int .i64 ((1:Nat):Int),.slice p15 (([98,99]:List Int).length) c15],.bool true]) ?_; refine xpL (.agg #[.int .i64 ((1:Nat):Int),.slice p15 (([98,99]:List Int).length) c15]) ?_; refine xpL (.bool true) ?_; have hlb:=(Below.refl w15.heap.size w15).alloc (xnR _) (.cells #[.int .i64 0,.slice none 0 0] 35)
 refine actL (w':=w15.alloc (.cells #[.int .i64 0,.slice none 0 0] 35)) (.pointer (some ⟨w15.heap.size,0,none⟩)) rfl (by kernel_rfl) ?_; simp only [aP,lI,l0,lS]; replace hIa:=hK.bel hIa hlb; replace N_5:=NewF.below N_5 hlb; replace T_5:=Wrt.below T_5 hlb; replace N_8:=NewF.below N_8 hlb; replace T_8:=Wrt.below T_8 hlb; replace N_11:=NewF.below N_11 hlb
 replace T_11:=Wrt.below T_11 hlb; replace N_15:=NewF.below N_15 hlb; replace T_15:=Wrt.below T_15 hlb; replace M:=M.box #[.int .i64 0,.slice none 0 0] 35 w15.heap.size rfl; clear hlb; generalize w15.alloc (.cells #[.int .i64 0,.slice none 0 0] 35)=w16 at M hIa N_5 T_5 N_8 T_8 N_11 T_11 N_15 T_15 ⊢; generalize w15.heap.size=B16 at M ⊢
 replace M:Mm w0 ((B16,[.int .i64 0,.slice none 0 0])::(B12,[.int .i64 ((0:Nat):Int),.slice p11 (([]:List Int).length) c11])::(B9,[.int .i64 ((3:Nat):Int),.slice p8 (([100]:List Int).length) c8])::(B6,[.int .i64 ((0:Nat):Int),.slice p5 (([97,98,99]:List Int).length) c5])::(B3,[.int .u8 97,.int .u8 98,.int .u8 99,.int .u8 100,.int .u8 101,.int .u8 102])::(ba7++((obs p15)++((obs p11)++((obs p8)++((obs p5)++([]:List (Nat × List Value)))))))) w16:=M
 refine skipOpL rfl (storeP [.int .i64 ((1:Nat):Int),.slice p15 (([98,99]:List Int).length) c15] B16 0 35 _ _ rfl rfl rfl (M.thereP mS 0 2 (Nat.le_of_ble_eq_true rfl)) (by kernel_rfl) (List.all_eq_true.1 (rfl:([.int .i64 ((1:Nat):Int),.slice p15 (([98,99]:List Int).length) c15]:List Value).all (fun u=>u.oneCell')=true))) ?_; simp only [Act.put]
 replace M:=M.setPart [.int .i64 ((1:Nat):Int),.slice p15 (([98,99]:List Int).length) c15] 0 (Nat.le_of_ble_eq_true rfl); replace hIa:=hK.off _ _ _ _ _ _ hIa ((Off.refl [B16] _).setAll (b:=B16) mS 0 [.int .i64 ((1:Nat):Int),.slice p15 (([98,99]:List Int).length) c15]) (fun b_ hb_=>by obtain rfl:=xm1 hb_; exact M.awayC (fun p_ hp_=>by simp [hp_]))
 replace N_5:=NewF.offB N_5 ((Off.refl [B16] _).setAll (b:=B16) mS 0 [.int .i64 ((1:Nat):Int),.slice p15 (([98,99]:List Int).length) c15]) (fun b_ hb_=>by obtain rfl:=xm1 hb_; exact M.awayB (fun p_ hp_=>by simp [hp_]))
 replace T_5:=Wrt.offB T_5 ((Off.refl [B16] _).setAll (b:=B16) mS 0 [.int .i64 ((1:Nat):Int),.slice p15 (([98,99]:List Int).length) c15]) (fun b_ hb_=>by obtain rfl:=xm1 hb_; exact M.awayB (fun p_ hp_=>by simp [hp_]))
 replace N_8:=NewF.offB N_8 ((Off.refl [B16] _).setAll (b:=B16) mS 0 [.int .i64 ((1:Nat):Int),.slice p15 (([98,99]:List Int).length) c15]) (fun b_ hb_=>by obtain rfl:=xm1 hb_; exact M.awayB (fun p_ hp_=>by simp [hp_]))
 replace T_8:=Wrt.offB T_8 ((Off.refl [B16] _).setAll (b:=B16) mS 0 [.int .i64 ((1:Nat):Int),.slice p15 (([98,99]:List Int).length) c15]) (fun b_ hb_=>by obtain rfl:=xm1 hb_; exact M.awayB (fun p_ hp_=>by simp [hp_]))
 replace N_11:=NewF.offB N_11 ((Off.refl [B16] _).setAll (b:=B16) mS 0 [.int .i64 ((1:Nat):Int),.slice p15 (([98,99]:List Int).length) c15]) (fun b_ hb_=>by obtain rfl:=xm1 hb_; exact M.awayB (fun p_ hp_=>by simp [hp_]))
 replace T_11:=Wrt.offB T_11 ((Off.refl [B16] _).setAll (b:=B16) mS 0 [.int .i64 ((1:Nat):Int),.slice p15 (([98,99]:List Int).length) c15]) (fun b_ hb_=>by obtain rfl:=xm1 hb_; exact M.awayB (fun p_ hp_=>by simp [hp_]))
 replace N_15:=NewF.offB N_15 ((Off.refl [B16] _).setAll (b:=B16) mS 0 [.int .i64 ((1:Nat):Int),.slice p15 (([98,99]:List Int).length) c15]) (fun b_ hb_=>by obtain rfl:=xm1 hb_; exact M.awayB (fun p_ hp_=>by simp [hp_]))
 replace T_15:=Wrt.offB T_15 ((Off.refl [B16] _).setAll (b:=B16) mS 0 [.int .i64 ((1:Nat):Int),.slice p15 (([98,99]:List Int).length) c15]) (fun b_ hb_=>by obtain rfl:=xm1 hb_; exact M.awayB (fun p_ hp_=>by simp [hp_])); generalize w16.setCells B16 0 [.int .i64 ((1:Nat):Int),.slice p15 (([98,99]:List Int).length) c15]=w17 at M hIa N_5 T_5 N_8 T_8 N_11 T_11 N_15 T_15 ⊢
 replace M:Mm w0 ((B16,[.int .i64 ((1:Nat):Int),.slice p15 (([98,99]:List Int).length) c15])::(B12,[.int .i64 ((0:Nat):Int),.slice p11 (([]:List Int).length) c11])::(B9,[.int .i64 ((3:Nat):Int),.slice p8 (([100]:List Int).length) c8])::(B6,[.int .i64 ((0:Nat):Int),.slice p5 (([97,98,99]:List Int).length) c5])::(B3,[.int .u8 97,.int .u8 98,.int .u8 99,.int .u8 100,.int .u8 101,.int .u8 102])::(ba7++((obs p15)++((obs p11)++((obs p8)++((obs p5)++([]:List (Nat × List Value)))))))) w17:=M
 refine xpL (.bool true) ?_; refine xT ?_; go_upto_region 11 with fail; refine wp_region_list ?_; refine xpL (.pointer (some ⟨Ra,0,none⟩)) ?_
 have Mp:=M.perm (pull0 ([(B16,[.int .i64 ((1:Nat):Int),.slice p15 (([98,99]:List Int).length) c15]),(B12,[.int .i64 ((0:Nat):Int),.slice p11 (([]:List Int).length) c11]),(B9,[.int .i64 ((3:Nat):Int),.slice p8 (([100]:List Int).length) c8]),(B6,[.int .i64 ((0:Nat):Int),.slice p5 (([97,98,99]:List Int).length) c5]),(B3,[.int .u8 97,.int .u8 98,.int .u8 99,.int .u8 100,.int .u8 101,.int .u8 102])]:List (Nat × List Value)) ba7 ((obs p15)++((obs p11)++((obs p8)++((obs p5)++([]:List (Nat × List Value)))))))
 have key:=hK.lst w0 _ _ os7 ba7 _ 0 9 os7_w os7_l (by unfold i64; decide) (by unfold i64; decide) hIa Mp
 rw [show olo os7 0 9=os8 from rfl] at key
 refine xcL key ?_; clear key; rintro e w18 ⟨ba8,rfl,hI_,M',o1⟩; replace N_5:=NewF.offB N_5 o1 (Mp.awayS (fun p_ hp_=>by simp [hp_])); replace T_5:=Wrt.offB T_5 o1 (Mp.awayS (fun p_ hp_=>by simp [hp_])); replace N_8:=NewF.offB N_8 o1 (Mp.awayS (fun p_ hp_=>by simp [hp_])); replace T_8:=Wrt.offB T_8 o1 (Mp.awayS (fun p_ hp_=>by simp [hp_]))
 replace N_11:=NewF.offB N_11 o1 (Mp.awayS (fun p_ hp_=>by simp [hp_])); replace T_11:=Wrt.offB T_11 o1 (Mp.awayS (fun p_ hp_=>by simp [hp_])); replace N_15:=NewF.offB N_15 o1 (Mp.awayS (fun p_ hp_=>by simp [hp_])); replace T_15:=Wrt.offB T_15 o1 (Mp.awayS (fun p_ hp_=>by simp [hp_])); clear o1 Mp M hIa; have hIa:=hI_; clear hI_
 have M:Mm w0 ((B16,[.int .i64 ((1:Nat):Int),.slice p15 (([98,99]:List Int).length) c15])::(B12,[.int .i64 ((0:Nat):Int),.slice p11 (([]:List Int).length) c11])::(B9,[.int .i64 ((3:Nat):Int),.slice p8 (([100]:List Int).length) c8])::(B6,[.int .i64 ((0:Nat):Int),.slice p5 (([97,98,99]:List Int).length) c5])::(B3,[.int .u8 97,.int .u8 98,.int .u8 99,.int .u8 100,.int .u8 101,.int .u8 102])::(ba8++((obs p15)++((obs p11)++((obs p8)++((obs p5)++([]:List (Nat × List Value)))))))) w18:=M'.perm (pull0 ([(B16,[.int .i64 ((1:Nat):Int),.slice p15 (([98,99]:List Int).length) c15]),(B12,[.int .i64 ((0:Nat):Int),.slice p11 (([]:List Int).length) c11]),(B9,[.int .i64 ((3:Nat):Int),.slice p8 (([100]:List Int).length) c8]),(B6,[.int .i64 ((0:Nat):Int),.slice p5 (([97,98,99]:List Int).length) c5]),(B3,[.int .u8 97,.int .u8 98,.int .u8 99,.int .u8 100,.int .u8 101,.int .u8 102])]:List (Nat × List Value)) ba8 ((obs p15)++((obs p11)++((obs p8)++((obs p5)++([]:List (Nat × List Value))))))).symm
 clear M'; refine xeL ?_; refine xT ?_; go_upto_region 12 with fail; refine wp_region_list ?_; refine xpL (.pointer (some ⟨Ra,0,none⟩)) ?_; refine xpL (.agg #[.int .i64 3,.int .i64 4]) ?_; have hlb:=(Below.refl w18.heap.size w18).alloc (xnR _) (.cells #[.int .i64 3,.int .i64 4] 49)
 refine actL (w':=w18.alloc (.cells #[.int .i64 3,.int .i64 4] 49)) (.slice (some ⟨w18.heap.size,0,none⟩) 1 1) rfl (by kernel_rfl) ?_; simp only [aP,lI,l0,lS]; replace hIa:=hK.bel hIa hlb; replace N_5:=NewF.below N_5 hlb; replace T_5:=Wrt.below T_5 hlb; replace N_8:=NewF.below N_8 hlb; replace T_8:=Wrt.below T_8 hlb; replace N_11:=NewF.below N_11 hlb
 replace T_11:=Wrt.below T_11 hlb; replace N_15:=NewF.below N_15 hlb; replace T_15:=Wrt.below T_15 hlb; replace M:=M.box #[.int .i64 3,.int .i64 4] 49 w18.heap.size rfl; clear hlb; generalize w18.alloc (.cells #[.int .i64 3,.int .i64 4] 49)=w19 at M hIa N_5 T_5 N_8 T_8 N_11 T_11 N_15 T_15 ⊢; generalize w18.heap.size=B19 at M ⊢
 replace M:Mm w0 ((B19,[.int .i64 3,.int .i64 4])::(B16,[.int .i64 ((1:Nat):Int),.slice p15 (([98,99]:List Int).length) c15])::(B12,[.int .i64 ((0:Nat):Int),.slice p11 (([]:List Int).length) c11])::(B9,[.int .i64 ((3:Nat):Int),.slice p8 (([100]:List Int).length) c8])::(B6,[.int .i64 ((0:Nat):Int),.slice p5 (([97,98,99]:List Int).length) c5])::(B3,[.int .u8 97,.int .u8 98,.int .u8 99,.int .u8 100,.int .u8 101,.int .u8 102])::(ba8++((obs p15)++((obs p11)++((obs p8)++((obs p5)++([]:List (Nat × List Value)))))))) w19:=M
 have Mp:=M.perm (pull0 ([(B19,[.int .i64 3,.int .i64 4]),(B16,[.int .i64 ((1:Nat):Int),.slice p15 (([98,99]:List Int).length) c15]),(B12,[.int .i64 ((0:Nat):Int),.slice p11 (([]:List Int).length) c11]),(B9,[.int .i64 ((3:Nat):Int),.slice p8 (([100]:List Int).length) c8]),(B6,[.int .i64 ((0:Nat):Int),.slice p5 (([97,98,99]:List Int).length) c5]),(B3,[.int .u8 97,.int .u8 98,.int .u8 99,.int .u8 100,.int .u8 101,.int .u8 102])]:List (Nat × List Value)) ba8 ((obs p15)++((obs p11)++((obs p8)++((obs p5)++([]:List (Nat × List Value)))))))
 have key:=hK.ack w0 _ _ os8 ba8 _ 2 ([(3,4)]) (some ⟨B19,0,none⟩) 1 os8_w os8_l (by unfold i64; decide) (by decide) (by unfold i64; decide) (RgW.ofW (M.newWt mS [(3,4)] rfl (by decide))) (fun b_ hb_ _ h_=>by obtain rfl:=xm1 h_; exact Mp.beside mS hb_) hIa Mp
 rw [show oac os8 2 [(3,4)]=os9 from rfl] at key
 refine xcL key ?_; clear key; rintro e w20 ⟨ba9,rfl,hI_,M',o1⟩; replace N_5:=NewF.offB N_5 o1 (Mp.awayS (fun p_ hp_=>by simp [hp_])); replace T_5:=Wrt.offB T_5 o1 (Mp.awayS (fun p_ hp_=>by simp [hp_])); replace N_8:=NewF.offB N_8 o1 (Mp.awayS (fun p_ hp_=>by simp [hp_])); replace T_8:=Wrt.offB T_8 o1 (Mp.awayS (fun p_ hp_=>by simp [hp_]))
 replace N_11:=NewF.offB N_11 o1 (Mp.awayS (fun p_ hp_=>by simp [hp_])); replace T_11:=Wrt.offB T_11 o1 (Mp.awayS (fun p_ hp_=>by simp [hp_])); replace N_15:=NewF.offB N_15 o1 (Mp.awayS (fun p_ hp_=>by simp [hp_])); replace T_15:=Wrt.offB T_15 o1 (Mp.awayS (fun p_ hp_=>by simp [hp_])); clear o1 Mp M hIa; have hIa:=hI_; clear hI_
 have M:Mm w0 ((B19,[.int .i64 3,.int .i64 4])::(B16,[.int .i64 ((1:Nat):Int),.slice p15 (([98,99]:List Int).length) c15])::(B12,[.int .i64 ((0:Nat):Int),.slice p11 (([]:List Int).length) c11])::(B9,[.int .i64 ((3:Nat):Int),.slice p8 (([100]:List Int).length) c8])::(B6,[.int .i64 ((0:Nat):Int),.slice p5 (([97,98,99]:List Int).length) c5])::(B3,[.int .u8 97,.int .u8 98,.int .u8 99,.int .u8 100,.int .u8 101,.int .u8 102])::(ba9++((obs p15)++((obs p11)++((obs p8)++((obs p5)++([]:List (Nat × List Value)))))))) w20:=M'.perm (pull0 ([(B19,[.int .i64 3,.int .i64 4]),(B16,[.int .i64 ((1:Nat):Int),.slice p15 (([98,99]:List Int).length) c15]),(B12,[.int .i64 ((0:Nat):Int),.slice p11 (([]:List Int).length) c11]),(B9,[.int .i64 ((3:Nat):Int),.slice p8 (([100]:List Int).length) c8]),(B6,[.int .i64 ((0:Nat):Int),.slice p5 (([97,98,99]:List Int).length) c5]),(B3,[.int .u8 97,.int .u8 98,.int .u8 99,.int .u8 100,.int .u8 101,.int .u8 102])]:List (Nat × List Value)) ba9 ((obs p15)++((obs p11)++((obs p8)++((obs p5)++([]:List (Nat × List Value))))))).symm
 clear M'; refine xeL ?_; refine xT ?_; go_upto_region 13 with fail; refine wp_region_list ?_; refine xpL (.pointer (some ⟨Ra,0,none⟩)) ?_
 have Mp:=M.perm (pull0 ([(B19,[.int .i64 3,.int .i64 4]),(B16,[.int .i64 ((1:Nat):Int),.slice p15 (([98,99]:List Int).length) c15]),(B12,[.int .i64 ((0:Nat):Int),.slice p11 (([]:List Int).length) c11]),(B9,[.int .i64 ((3:Nat):Int),.slice p8 (([100]:List Int).length) c8]),(B6,[.int .i64 ((0:Nat):Int),.slice p5 (([97,98,99]:List Int).length) c5]),(B3,[.int .u8 97,.int .u8 98,.int .u8 99,.int .u8 100,.int .u8 101,.int .u8 102])]:List (Nat × List Value)) ba9 ((obs p15)++((obs p11)++((obs p8)++((obs p5)++([]:List (Nat × List Value)))))))
 have key:=hK.nxt w0 _ _ os9 ba9 _ 9 os9_w os9_l (by unfold i64; decide) hIa Mp
 rw [os9F] at key
 rw [os9B] at key
 rw [os9N] at key
 rw [show onx os9 9=os10 from rfl] at key
 refine xcL key ?_; clear key; rintro e w21 ⟨p21,c21,ba10,rfl,N_21,T_21,hI_,M',o1⟩; replace N_5:=NewF.offB N_5 o1 (Mp.awayS (fun p_ hp_=>by simp [hp_])); replace T_5:=Wrt.offB T_5 o1 (Mp.awayS (fun p_ hp_=>by simp [hp_])); replace N_8:=NewF.offB N_8 o1 (Mp.awayS (fun p_ hp_=>by simp [hp_])); replace T_8:=Wrt.offB T_8 o1 (Mp.awayS (fun p_ hp_=>by simp [hp_]))
 replace N_11:=NewF.offB N_11 o1 (Mp.awayS (fun p_ hp_=>by simp [hp_])); replace T_11:=Wrt.offB T_11 o1 (Mp.awayS (fun p_ hp_=>by simp [hp_])); replace N_15:=NewF.offB N_15 o1 (Mp.awayS (fun p_ hp_=>by simp [hp_])); replace T_15:=Wrt.offB T_15 o1 (Mp.awayS (fun p_ hp_=>by simp [hp_])); clear o1 Mp M hIa; have hIa:=hI_; clear hI_
 have M:Mm w0 ((B19,[.int .i64 3,.int .i64 4])::(B16,[.int .i64 ((1:Nat):Int),.slice p15 (([98,99]:List Int).length) c15])::(B12,[.int .i64 ((0:Nat):Int),.slice p11 (([]:List Int).length) c11])::(B9,[.int .i64 ((3:Nat):Int),.slice p8 (([100]:List Int).length) c8])::(B6,[.int .i64 ((0:Nat):Int),.slice p5 (([97,98,99]:List Int).length) c5])::(B3,[.int .u8 97,.int .u8 98,.int .u8 99,.int .u8 100,.int .u8 101,.int .u8 102])::(ba10++((obs p21)++((obs p15)++((obs p11)++((obs p8)++((obs p5)++([]:List (Nat × List Value))))))))) w21:=M'.perm (pullY ([(B19,[.int .i64 3,.int .i64 4]),(B16,[.int .i64 ((1:Nat):Int),.slice p15 (([98,99]:List Int).length) c15]),(B12,[.int .i64 ((0:Nat):Int),.slice p11 (([]:List Int).length) c11]),(B9,[.int .i64 ((3:Nat):Int),.slice p8 (([100]:List Int).length) c8]),(B6,[.int .i64 ((0:Nat):Int),.slice p5 (([97,98,99]:List Int).length) c5]),(B3,[.int .u8 97,.int .u8 98,.int .u8 99,.int .u8 100,.int .u8 101,.int .u8 102])]:List (Nat × List Value)) ba10 (obs p21) ((obs p15)++((obs p11)++((obs p8)++((obs p5)++([]:List (Nat × List Value)))))))
 clear M'; refine xeL ?_
 obtain ⟨bs21,N_21⟩:∃ b_,NewF w21 b_ ([99]:List Int).length (bl ([99])) (.slice p21 ([99]:List Int).length c21):=⟨_,N_21⟩
 refine xpL (.tuple #[.agg #[.int .i64 ((2:Nat):Int),.slice p21 (([99]:List Int).length) c21],.bool true]) ?_; refine xpL (.agg #[.int .i64 ((2:Nat):Int),.slice p21 (([99]:List Int).length) c21]) ?_; refine xpL (.bool true) ?_; have hlb:=(Below.refl w21.heap.size w21).alloc (xnR _) (.cells #[.int .i64 0,.slice none 0 0] 35)
 refine actL (w':=w21.alloc (.cells #[.int .i64 0,.slice none 0 0] 35)) (.pointer (some ⟨w21.heap.size,0,none⟩)) rfl (by kernel_rfl) ?_; simp only [aP,lI,l0,lS]; replace hIa:=hK.bel hIa hlb; replace N_5:=NewF.below N_5 hlb; replace T_5:=Wrt.below T_5 hlb; replace N_8:=NewF.below N_8 hlb; replace T_8:=Wrt.below T_8 hlb; replace N_11:=NewF.below N_11 hlb
 replace T_11:=Wrt.below T_11 hlb; replace N_15:=NewF.below N_15 hlb; replace T_15:=Wrt.below T_15 hlb; replace N_21:=NewF.below N_21 hlb; replace T_21:=Wrt.below T_21 hlb; replace M:=M.box #[.int .i64 0,.slice none 0 0] 35 w21.heap.size rfl; clear hlb; generalize w21.alloc (.cells #[.int .i64 0,.slice none 0 0] 35)=w22 at M hIa N_5 T_5 N_8 T_8 N_11 T_11 N_15 T_15 N_21 T_21 ⊢
 generalize w21.heap.size=B22 at M ⊢
 replace M:Mm w0 ((B22,[.int .i64 0,.slice none 0 0])::(B19,[.int .i64 3,.int .i64 4])::(B16,[.int .i64 ((1:Nat):Int),.slice p15 (([98,99]:List Int).length) c15])::(B12,[.int .i64 ((0:Nat):Int),.slice p11 (([]:List Int).length) c11])::(B9,[.int .i64 ((3:Nat):Int),.slice p8 (([100]:List Int).length) c8])::(B6,[.int .i64 ((0:Nat):Int),.slice p5 (([97,98,99]:List Int).length) c5])::(B3,[.int .u8 97,.int .u8 98,.int .u8 99,.int .u8 100,.int .u8 101,.int .u8 102])::(ba10++((obs p21)++((obs p15)++((obs p11)++((obs p8)++((obs p5)++([]:List (Nat × List Value))))))))) w22:=M
 refine skipOpL rfl (storeP [.int .i64 ((2:Nat):Int),.slice p21 (([99]:List Int).length) c21] B22 0 35 _ _ rfl rfl rfl (M.thereP mS 0 2 (Nat.le_of_ble_eq_true rfl)) (by kernel_rfl) (List.all_eq_true.1 (rfl:([.int .i64 ((2:Nat):Int),.slice p21 (([99]:List Int).length) c21]:List Value).all (fun u=>u.oneCell')=true))) ?_; simp only [Act.put]
 replace M:=M.setPart [.int .i64 ((2:Nat):Int),.slice p21 (([99]:List Int).length) c21] 0 (Nat.le_of_ble_eq_true rfl); replace hIa:=hK.off _ _ _ _ _ _ hIa ((Off.refl [B22] _).setAll (b:=B22) mS 0 [.int .i64 ((2:Nat):Int),.slice p21 (([99]:List Int).length) c21]) (fun b_ hb_=>by obtain rfl:=xm1 hb_; exact M.awayC (fun p_ hp_=>by simp [hp_]))
 replace N_5:=NewF.offB N_5 ((Off.refl [B22] _).setAll (b:=B22) mS 0 [.int .i64 ((2:Nat):Int),.slice p21 (([99]:List Int).length) c21]) (fun b_ hb_=>by obtain rfl:=xm1 hb_; exact M.awayB (fun p_ hp_=>by simp [hp_]))
 replace T_5:=Wrt.offB T_5 ((Off.refl [B22] _).setAll (b:=B22) mS 0 [.int .i64 ((2:Nat):Int),.slice p21 (([99]:List Int).length) c21]) (fun b_ hb_=>by obtain rfl:=xm1 hb_; exact M.awayB (fun p_ hp_=>by simp [hp_]))
 replace N_8:=NewF.offB N_8 ((Off.refl [B22] _).setAll (b:=B22) mS 0 [.int .i64 ((2:Nat):Int),.slice p21 (([99]:List Int).length) c21]) (fun b_ hb_=>by obtain rfl:=xm1 hb_; exact M.awayB (fun p_ hp_=>by simp [hp_]))
 replace T_8:=Wrt.offB T_8 ((Off.refl [B22] _).setAll (b:=B22) mS 0 [.int .i64 ((2:Nat):Int),.slice p21 (([99]:List Int).length) c21]) (fun b_ hb_=>by obtain rfl:=xm1 hb_; exact M.awayB (fun p_ hp_=>by simp [hp_]))
 replace N_11:=NewF.offB N_11 ((Off.refl [B22] _).setAll (b:=B22) mS 0 [.int .i64 ((2:Nat):Int),.slice p21 (([99]:List Int).length) c21]) (fun b_ hb_=>by obtain rfl:=xm1 hb_; exact M.awayB (fun p_ hp_=>by simp [hp_]))
 replace T_11:=Wrt.offB T_11 ((Off.refl [B22] _).setAll (b:=B22) mS 0 [.int .i64 ((2:Nat):Int),.slice p21 (([99]:List Int).length) c21]) (fun b_ hb_=>by obtain rfl:=xm1 hb_; exact M.awayB (fun p_ hp_=>by simp [hp_]))
 replace N_15:=NewF.offB N_15 ((Off.refl [B22] _).setAll (b:=B22) mS 0 [.int .i64 ((2:Nat):Int),.slice p21 (([99]:List Int).length) c21]) (fun b_ hb_=>by obtain rfl:=xm1 hb_; exact M.awayB (fun p_ hp_=>by simp [hp_]))
 replace T_15:=Wrt.offB T_15 ((Off.refl [B22] _).setAll (b:=B22) mS 0 [.int .i64 ((2:Nat):Int),.slice p21 (([99]:List Int).length) c21]) (fun b_ hb_=>by obtain rfl:=xm1 hb_; exact M.awayB (fun p_ hp_=>by simp [hp_]))
 replace N_21:=NewF.offB N_21 ((Off.refl [B22] _).setAll (b:=B22) mS 0 [.int .i64 ((2:Nat):Int),.slice p21 (([99]:List Int).length) c21]) (fun b_ hb_=>by obtain rfl:=xm1 hb_; exact M.awayB (fun p_ hp_=>by simp [hp_]))
 replace T_21:=Wrt.offB T_21 ((Off.refl [B22] _).setAll (b:=B22) mS 0 [.int .i64 ((2:Nat):Int),.slice p21 (([99]:List Int).length) c21]) (fun b_ hb_=>by obtain rfl:=xm1 hb_; exact M.awayB (fun p_ hp_=>by simp [hp_])); generalize w22.setCells B22 0 [.int .i64 ((2:Nat):Int),.slice p21 (([99]:List Int).length) c21]=w23 at M hIa N_5 T_5 N_8 T_8 N_11 T_11 N_15 T_15 N_21 T_21 ⊢
 replace M:Mm w0 ((B22,[.int .i64 ((2:Nat):Int),.slice p21 (([99]:List Int).length) c21])::(B19,[.int .i64 3,.int .i64 4])::(B16,[.int .i64 ((1:Nat):Int),.slice p15 (([98,99]:List Int).length) c15])::(B12,[.int .i64 ((0:Nat):Int),.slice p11 (([]:List Int).length) c11])::(B9,[.int .i64 ((3:Nat):Int),.slice p8 (([100]:List Int).length) c8])::(B6,[.int .i64 ((0:Nat):Int),.slice p5 (([97,98,99]:List Int).length) c5])::(B3,[.int .u8 97,.int .u8 98,.int .u8 99,.int .u8 100,.int .u8 101,.int .u8 102])::(ba10++((obs p21)++((obs p15)++((obs p11)++((obs p8)++((obs p5)++([]:List (Nat × List Value))))))))) w23:=M
 refine xpL (.bool true) ?_; refine xT ?_; go_upto_region 14 with fail; refine wp_region_list ?_; refine xpL (.pointer (some ⟨Ra,0,none⟩)) ?_
 have Mp:=M.perm (pull0 ([(B22,[.int .i64 ((2:Nat):Int),.slice p21 (([99]:List Int).length) c21]),(B19,[.int .i64 3,.int .i64 4]),(B16,[.int .i64 ((1:Nat):Int),.slice p15 (([98,99]:List Int).length) c15]),(B12,[.int .i64 ((0:Nat):Int),.slice p11 (([]:List Int).length) c11]),(B9,[.int .i64 ((3:Nat):Int),.slice p8 (([100]:List Int).length) c8]),(B6,[.int .i64 ((0:Nat):Int),.slice p5 (([97,98,99]:List Int).length) c5]),(B3,[.int .u8 97,.int .u8 98,.int .u8 99,.int .u8 100,.int .u8 101,.int .u8 102])]:List (Nat × List Value)) ba10 ((obs p21)++((obs p15)++((obs p11)++((obs p8)++((obs p5)++([]:List (Nat × List Value))))))))
 have key:=hK.bas w0 _ _ os10 ba10 _ os10_w os10_l hIa Mp; clear Mp
 rw [osb1] at key
 refine xcL key ?_; clear key; rintro e w24 ⟨rfl,l_⟩; replace M:=M.call l_; replace hIa:=hK.bel hIa l_; replace N_5:=NewF.below N_5 l_; replace T_5:=Wrt.below T_5 l_; replace N_8:=NewF.below N_8 l_; replace T_8:=Wrt.below T_8 l_; replace N_11:=NewF.below N_11 l_; replace T_11:=Wrt.below T_11 l_; replace N_15:=NewF.below N_15 l_; replace T_15:=Wrt.below T_15 l_
 replace N_21:=NewF.below N_21 l_; replace T_21:=Wrt.below T_21 l_; clear l_; refine xeL ?_; refine xpL (.int .i64 ((2:Nat):Int)) ?_; refine xT ?_; go_upto_region 15 with fail; refine wp_region_list ?_; refine xpL (.pointer (some ⟨Ra,0,none⟩)) ?_
 refine actL (w':=w24.alloc (.cells #[.int .u8 120,.int .u8 121,.int .u8 122] 5)) (.slice (some ⟨w24.heap.size,0,none⟩) 3 3) rfl (by kernel_rfl) ?_; simp only [aP,lI,l0,lS]
 refine actL (w':=w24.alloc (.cells #[.int .u8 120,.int .u8 121,.int .u8 122] 5 ((#[.int .u8 120,.int .u8 121,.int .u8 122]:Array Value).size,(#[.int .u8 120,.int .u8 121,.int .u8 122]:Array Value).size+1))) (.slice (some ⟨w24.heap.size,0,none⟩) 3 3) rfl (conv_const 28 5 #[.int .u8 120,.int .u8 121,.int .u8 122] 3 3 _ rfl rfl Try.underlying28 Try.underlying5) ?_
 simp only [aP,lI,l0,lS]; have hlb:=(Below.refl w24.heap.size w24).alloc (xnR _) (.cells #[.int .u8 120,.int .u8 121,.int .u8 122] 5 ((#[.int .u8 120,.int .u8 121,.int .u8 122]:Array Value).size,(#[.int .u8 120,.int .u8 121,.int .u8 122]:Array Value).size+1)); replace hIa:=hK.bel hIa hlb; replace N_5:=NewF.below N_5 hlb; replace T_5:=Wrt.below T_5 hlb
 replace N_8:=NewF.below N_8 hlb; replace T_8:=Wrt.below T_8 hlb; replace N_11:=NewF.below N_11 hlb; replace T_11:=Wrt.below T_11 hlb; replace N_15:=NewF.below N_15 hlb; replace T_15:=Wrt.below T_15 hlb; replace N_21:=NewF.below N_21 hlb; replace T_21:=Wrt.below T_21 hlb
 replace M:=M.boxC #[.int .u8 120,.int .u8 121,.int .u8 122] 5 (((#[.int .u8 120,.int .u8 121,.int .u8 122]:Array Value)).size,((#[.int .u8 120,.int .u8 121,.int .u8 122]:Array Value)).size+1) w24.heap.size rfl (xnR _); clear hlb
 generalize w24.alloc (.cells #[.int .u8 120,.int .u8 121,.int .u8 122] 5 ((#[.int .u8 120,.int .u8 121,.int .u8 122]:Array Value).size,(#[.int .u8 120,.int .u8 121,.int .u8 122]:Array Value).size+1))=w25 at M hIa N_5 T_5 N_8 T_8 N_11 T_11 N_15 T_15 N_21 T_21 ⊢; generalize w24.heap.size=B25 at M ⊢
 replace M:Mm w0 ((B25,[.int .u8 120,.int .u8 121,.int .u8 122])::(B22,[.int .i64 ((2:Nat):Int),.slice p21 (([99]:List Int).length) c21])::(B19,[.int .i64 3,.int .i64 4])::(B16,[.int .i64 ((1:Nat):Int),.slice p15 (([98,99]:List Int).length) c15])::(B12,[.int .i64 ((0:Nat):Int),.slice p11 (([]:List Int).length) c11])::(B9,[.int .i64 ((3:Nat):Int),.slice p8 (([100]:List Int).length) c8])::(B6,[.int .i64 ((0:Nat):Int),.slice p5 (([97,98,99]:List Int).length) c5])::(B3,[.int .u8 97,.int .u8 98,.int .u8 99,.int .u8 100,.int .u8 101,.int .u8 102])::(ba10++((obs p21)++((obs p15)++((obs p11)++((obs p8)++((obs p5)++([]:List (Nat × List Value))))))))) w25:=M
 have Mp:=M.perm (pull0 ([(B25,[.int .u8 120,.int .u8 121,.int .u8 122]),(B22,[.int .i64 ((2:Nat):Int),.slice p21 (([99]:List Int).length) c21]),(B19,[.int .i64 3,.int .i64 4]),(B16,[.int .i64 ((1:Nat):Int),.slice p15 (([98,99]:List Int).length) c15]),(B12,[.int .i64 ((0:Nat):Int),.slice p11 (([]:List Int).length) c11]),(B9,[.int .i64 ((3:Nat):Int),.slice p8 (([100]:List Int).length) c8]),(B6,[.int .i64 ((0:Nat):Int),.slice p5 (([97,98,99]:List Int).length) c5]),(B3,[.int .u8 97,.int .u8 98,.int .u8 99,.int .u8 100,.int .u8 101,.int .u8 102])]:List (Nat × List Value)) ba10 ((obs p21)++((obs p15)++((obs p11)++((obs p8)++((obs p5)++([]:List (Nat × List Value))))))))
 have key:=hK.wrt w0 _ _ os10 ba10 _ (some ⟨B25,0,none⟩) 3 [120,121,122] os10_w os10_l (by decide) (by decide) (fun e=>by cases e) (by unfold Byts; decide) hIa Mp (show SrcA _ _ _ _ _ from ⟨(M.src mS [120,121,122] rfl),fun ad e _=>by cases e; exact Mp.beside mS⟩)
 rw [show owN os10 ([120,121,122]:List Int).length=2 from osw2] at key
 rw [show owr os10 [120,121,122]=os11 from rfl] at key
 refine xcL key ?_; clear key; rintro e w26 ⟨ba11,rfl,hI_,M',o1⟩; replace N_5:=NewF.offB N_5 o1 (Mp.awayS (fun p_ hp_=>by simp [hp_])); replace T_5:=Wrt.offB T_5 o1 (Mp.awayS (fun p_ hp_=>by simp [hp_])); replace N_8:=NewF.offB N_8 o1 (Mp.awayS (fun p_ hp_=>by simp [hp_])); replace T_8:=Wrt.offB T_8 o1 (Mp.awayS (fun p_ hp_=>by simp [hp_]))
 replace N_11:=NewF.offB N_11 o1 (Mp.awayS (fun p_ hp_=>by simp [hp_])); replace T_11:=Wrt.offB T_11 o1 (Mp.awayS (fun p_ hp_=>by simp [hp_])); replace N_15:=NewF.offB N_15 o1 (Mp.awayS (fun p_ hp_=>by simp [hp_])); replace T_15:=Wrt.offB T_15 o1 (Mp.awayS (fun p_ hp_=>by simp [hp_])); replace N_21:=NewF.offB N_21 o1 (Mp.awayS (fun p_ hp_=>by simp [hp_]))
 replace T_21:=Wrt.offB T_21 o1 (Mp.awayS (fun p_ hp_=>by simp [hp_])); clear o1 Mp M hIa; have hIa:=hI_; clear hI_
 have M:Mm w0 ((B25,[.int .u8 120,.int .u8 121,.int .u8 122])::(B22,[.int .i64 ((2:Nat):Int),.slice p21 (([99]:List Int).length) c21])::(B19,[.int .i64 3,.int .i64 4])::(B16,[.int .i64 ((1:Nat):Int),.slice p15 (([98,99]:List Int).length) c15])::(B12,[.int .i64 ((0:Nat):Int),.slice p11 (([]:List Int).length) c11])::(B9,[.int .i64 ((3:Nat):Int),.slice p8 (([100]:List Int).length) c8])::(B6,[.int .i64 ((0:Nat):Int),.slice p5 (([97,98,99]:List Int).length) c5])::(B3,[.int .u8 97,.int .u8 98,.int .u8 99,.int .u8 100,.int .u8 101,.int .u8 102])::(ba11++((obs p21)++((obs p15)++((obs p11)++((obs p8)++((obs p5)++([]:List (Nat × List Value))))))))) w26:=M'.perm (pull0 ([(B25,[.int .u8 120,.int .u8 121,.int .u8 122]),(B22,[.int .i64 ((2:Nat):Int),.slice p21 (([99]:List Int).length) c21]),(B19,[.int .i64 3,.int .i64 4]),(B16,[.int .i64 ((1:Nat):Int),.slice p15 (([98,99]:List Int).length) c15]),(B12,[.int .i64 ((0:Nat):Int),.slice p11 (([]:List Int).length) c11]),(B9,[.int .i64 ((3:Nat):Int),.slice p8 (([100]:List Int).length) c8]),(B6,[.int .i64 ((0:Nat):Int),.slice p5 (([97,98,99]:List Int).length) c5]),(B3,[.int .u8 97,.int .u8 98,.int .u8 99,.int .u8 100,.int .u8 101,.int .u8 102])]:List (Nat × List Value)) ba11 ((obs p21)++((obs p15)++((obs p11)++((obs p8)++((obs p5)++([]:List (Nat × List Value)))))))).symm
 clear M'; refine xeL ?_; refine xpL (.int .i64 ((2:Nat):Int)) ?_; refine xT ?_; go_upto_region 16 with fail; refine wp_region_list ?_; refine xpL (.pointer (some ⟨Ra,0,none⟩)) ?_
 have Mp:=M.perm (pull0 ([(B25,[.int .u8 120,.int .u8 121,.int .u8 122]),(B22,[.int .i64 ((2:Nat):Int),.slice p21 (([99]:List Int).length) c21]),(B19,[.int .i64 3,.int .i64 4]),(B16,[.int .i64 ((1:Nat):Int),.slice p15 (([98,99]:List Int).length) c15]),(B12,[.int .i64 ((0:Nat):Int),.slice p11 (([]:List Int).length) c11]),(B9,[.int .i64 ((3:Nat):Int),.slice p8 (([100]:List Int).length) c8]),(B6,[.int .i64 ((0:Nat):Int),.slice p5 (([97,98,99]:List Int).length) c5]),(B3,[.int .u8 97,.int .u8 98,.int .u8 99,.int .u8 100,.int .u8 101,.int .u8 102])]:List (Nat × List Value)) ba11 ((obs p21)++((obs p15)++((obs p11)++((obs p8)++((obs p5)++([]:List (Nat × List Value))))))))
 have key:=hK.end_ w0 _ _ os11 ba11 _ os11_w os11_l hIa Mp; clear Mp
 rw [ose] at key
 refine xcL key ?_; clear key; rintro e w27 ⟨rfl,l_⟩; replace M:=M.call l_; replace hIa:=hK.bel hIa l_; replace N_5:=NewF.below N_5 l_; replace T_5:=Wrt.below T_5 l_; replace N_8:=NewF.below N_8 l_; replace T_8:=Wrt.below T_8 l_; replace N_11:=NewF.below N_11 l_; replace T_11:=Wrt.below T_11 l_; replace N_15:=NewF.below N_15 l_; replace T_15:=Wrt.below T_15 l_
 replace N_21:=NewF.below N_21 l_; replace T_21:=Wrt.below T_21 l_; clear l_; refine xeL ?_; refine xpL (.int .i64 ((6:Nat):Int)) ?_; refine xT ?_; go_upto_region 17 with fail; refine wp_region_list ?_; refine xpL (.pointer (some ⟨Ra,0,none⟩)) ?_
 have Mp:=M.perm (pull0 ([(B25,[.int .u8 120,.int .u8 121,.int .u8 122]),(B22,[.int .i64 ((2:Nat):Int),.slice p21 (([99]:List Int).length) c21]),(B19,[.int .i64 3,.int .i64 4]),(B16,[.int .i64 ((1:Nat):Int),.slice p15 (([98,99]:List Int).length) c15]),(B12,[.int .i64 ((0:Nat):Int),.slice p11 (([]:List Int).length) c11]),(B9,[.int .i64 ((3:Nat):Int),.slice p8 (([100]:List Int).length) c8]),(B6,[.int .i64 ((0:Nat):Int),.slice p5 (([97,98,99]:List Int).length) c5]),(B3,[.int .u8 97,.int .u8 98,.int .u8 99,.int .u8 100,.int .u8 101,.int .u8 102])]:List (Nat × List Value)) ba11 ((obs p21)++((obs p15)++((obs p11)++((obs p8)++((obs p5)++([]:List (Nat × List Value))))))))
 have key:=hK.ack w0 _ _ os11 ba11 _ 3 ([]) none 0 os11_w os11_l (by unfold i64; decide) (by decide) (fun _ h_=>by cases h_) (RgW.nil0 _) (fun _ _ h_=>absurd rfl h_) hIa Mp
 rw [show oac os11 3 []=os12 from rfl] at key
 refine xcL key ?_; clear key; rintro e w28 ⟨ba12,rfl,hI_,M',o1⟩; replace N_5:=NewF.offB N_5 o1 (Mp.awayS (fun p_ hp_=>by simp [hp_])); replace T_5:=Wrt.offB T_5 o1 (Mp.awayS (fun p_ hp_=>by simp [hp_])); replace N_8:=NewF.offB N_8 o1 (Mp.awayS (fun p_ hp_=>by simp [hp_])); replace T_8:=Wrt.offB T_8 o1 (Mp.awayS (fun p_ hp_=>by simp [hp_]))
 replace N_11:=NewF.offB N_11 o1 (Mp.awayS (fun p_ hp_=>by simp [hp_])); replace T_11:=Wrt.offB T_11 o1 (Mp.awayS (fun p_ hp_=>by simp [hp_])); replace N_15:=NewF.offB N_15 o1 (Mp.awayS (fun p_ hp_=>by simp [hp_])); replace T_15:=Wrt.offB T_15 o1 (Mp.awayS (fun p_ hp_=>by simp [hp_])); replace N_21:=NewF.offB N_21 o1 (Mp.awayS (fun p_ hp_=>by simp [hp_]))
 replace T_21:=Wrt.offB T_21 o1 (Mp.awayS (fun p_ hp_=>by simp [hp_])); clear o1 Mp M hIa; have hIa:=hI_; clear hI_
 have M:Mm w0 ((B25,[.int .u8 120,.int .u8 121,.int .u8 122])::(B22,[.int .i64 ((2:Nat):Int),.slice p21 (([99]:List Int).length) c21])::(B19,[.int .i64 3,.int .i64 4])::(B16,[.int .i64 ((1:Nat):Int),.slice p15 (([98,99]:List Int).length) c15])::(B12,[.int .i64 ((0:Nat):Int),.slice p11 (([]:List Int).length) c11])::(B9,[.int .i64 ((3:Nat):Int),.slice p8 (([100]:List Int).length) c8])::(B6,[.int .i64 ((0:Nat):Int),.slice p5 (([97,98,99]:List Int).length) c5])::(B3,[.int .u8 97,.int .u8 98,.int .u8 99,.int .u8 100,.int .u8 101,.int .u8 102])::(ba12++((obs p21)++((obs p15)++((obs p11)++((obs p8)++((obs p5)++([]:List (Nat × List Value))))))))) w28:=M'.perm (pull0 ([(B25,[.int .u8 120,.int .u8 121,.int .u8 122]),(B22,[.int .i64 ((2:Nat):Int),.slice p21 (([99]:List Int).length) c21]),(B19,[.int .i64 3,.int .i64 4]),(B16,[.int .i64 ((1:Nat):Int),.slice p15 (([98,99]:List Int).length) c15]),(B12,[.int .i64 ((0:Nat):Int),.slice p11 (([]:List Int).length) c11]),(B9,[.int .i64 ((3:Nat):Int),.slice p8 (([100]:List Int).length) c8]),(B6,[.int .i64 ((0:Nat):Int),.slice p5 (([97,98,99]:List Int).length) c5]),(B3,[.int .u8 97,.int .u8 98,.int .u8 99,.int .u8 100,.int .u8 101,.int .u8 102])]:List (Nat × List Value)) ba12 ((obs p21)++((obs p15)++((obs p11)++((obs p8)++((obs p5)++([]:List (Nat × List Value)))))))).symm
 clear M'; refine xeL ?_; refine xT ?_; go_upto_region 18 with fail; refine wp_region_list ?_; refine xpL (.int .i64 ((4:Nat):Int)) ?_; refine xaL (.bool true) (eqlI .i64 _ _ _ _ _ _ rfl rfl rfl true rfl _) ?_; refine xpL (.bool true) ?_; refine xpL (.pointer (some ⟨B6,0,none⟩)) ?_
 refine xaL (.int .i64 ((0:Nat):Int)) (load1 3 _ ⟨B6,0,none⟩ _ rfl rfl (fun _=>by kernel_rfl) (M.get (mI 6 rfl) 0 _ rfl)) ?_; refine xaL (.bool true) (eqlI .i64 _ _ _ _ _ _ rfl rfl rfl true rfl _) ?_; refine xpL (.bool true) ?_; refine xpL (.bool true) ?_; refine xpL (.pointer (some ⟨B6,1,none⟩)) ?_
 refine xaL (.slice p5 (([97,98,99]:List Int).length) c5) (load1 28 _ ⟨B6,1,none⟩ _ rfl rfl (fun _=>by kernel_rfl) (M.get (mI 6 rfl) 1 _ rfl)) ?_
 refine readL (.string (txt (([97,98,99]:List Int).length) (bl ([97,98,99])))) rfl (conv_txt 28 5 9 _ rfl Try.underlying28 Try.underlying5 Try.underlying9 p5 (([97,98,99]:List Int).length) c5 (bl ([97,98,99])) rfl _ (NewF.src N_5) (fun e=>by have h1:=(NewF.nilCap N_5) e; have h2:=(NewF.le N_5); omega)) ?_
 simp only [aP,lI,l0,lS]; refine xaL (.bool true) (eqlS _ _ _ _ _ _ rfl rfl rfl rfl _) ?_; refine xpL (.bool true) ?_; refine xpL (.bool true) ?_; refine xpL (.pointer (some ⟨B9,0,none⟩)) ?_; refine xaL (.int .i64 ((3:Nat):Int)) (load1 3 _ ⟨B9,0,none⟩ _ rfl rfl (fun _=>by kernel_rfl) (M.get (mI 5 rfl) 0 _ rfl)) ?_
 refine xaL (.bool true) (eqlI .i64 _ _ _ _ _ _ rfl rfl rfl true rfl _) ?_; refine xpL (.bool true) ?_; refine xpL (.bool true) ?_; refine xpL (.pointer (some ⟨B9,1,none⟩)) ?_; refine xaL (.slice p8 (([100]:List Int).length) c8) (load1 28 _ ⟨B9,1,none⟩ _ rfl rfl (fun _=>by kernel_rfl) (M.get (mI 5 rfl) 1 _ rfl)) ?_
 refine readL (.string (txt (([100]:List Int).length) (bl ([100])))) rfl (conv_txt 28 5 9 _ rfl Try.underlying28 Try.underlying5 Try.underlying9 p8 (([100]:List Int).length) c8 (bl ([100])) rfl _ (NewF.src N_8) (fun e=>by have h1:=(NewF.nilCap N_8) e; have h2:=(NewF.le N_8); omega)) ?_
 simp only [aP,lI,l0,lS]; refine xaL (.bool true) (eqlS _ _ _ _ _ _ rfl rfl rfl rfl _) ?_; refine xpL (.bool true) ?_; refine xpL (.bool true) ?_; refine xpL (.bool false) ?_; refine xpL (.bool true) ?_; refine xpL (.bool true) ?_; refine xpL (.bool true) ?_; refine xpL (.pointer (some ⟨B16,0,none⟩)) ?_
 refine xaL (.int .i64 ((1:Nat):Int)) (load1 3 _ ⟨B16,0,none⟩ _ rfl rfl (fun _=>by kernel_rfl) (M.get (mI 3 rfl) 0 _ rfl)) ?_; refine xaL (.bool true) (eqlI .i64 _ _ _ _ _ _ rfl rfl rfl true rfl _) ?_; refine xpL (.bool true) ?_; refine xpL (.bool true) ?_; refine xpL (.pointer (some ⟨B16,1,none⟩)) ?_
 refine xaL (.slice p15 (([98,99]:List Int).length) c15) (load1 28 _ ⟨B16,1,none⟩ _ rfl rfl (fun _=>by kernel_rfl) (M.get (mI 3 rfl) 1 _ rfl)) ?_
 refine readL (.string (txt (([98,99]:List Int).length) (bl ([98,99])))) rfl (conv_txt 28 5 9 _ rfl Try.underlying28 Try.underlying5 Try.underlying9 p15 (([98,99]:List Int).length) c15 (bl ([98,99])) rfl _ (NewF.src N_15) (fun e=>by have h1:=(NewF.nilCap N_15) e; have h2:=(NewF.le N_15); omega)) ?_
 simp only [aP,lI,l0,lS]; refine xaL (.bool true) (eqlS _ _ _ _ _ _ rfl rfl rfl rfl _) ?_; refine xpL (.bool true) ?_; refine xpL (.bool true) ?_; refine xpL (.pointer (some ⟨B22,0,none⟩)) ?_; refine xaL (.int .i64 ((2:Nat):Int)) (load1 3 _ ⟨B22,0,none⟩ _ rfl rfl (fun _=>by kernel_rfl) (M.get (mT _ mS) 0 _ rfl)) ?_
 refine xaL (.bool true) (eqlI .i64 _ _ _ _ _ _ rfl rfl rfl true rfl _) ?_; refine xpL (.bool true) ?_; refine xpL (.bool true) ?_; refine xpL (.pointer (some ⟨B22,1,none⟩)) ?_; refine xaL (.slice p21 (([99]:List Int).length) c21) (load1 28 _ ⟨B22,1,none⟩ _ rfl rfl (fun _=>by kernel_rfl) (M.get (mT _ mS) 1 _ rfl)) ?_
 refine readL (.string (txt (([99]:List Int).length) (bl ([99])))) rfl (conv_txt 28 5 9 _ rfl Try.underlying28 Try.underlying5 Try.underlying9 p21 (([99]:List Int).length) c21 (bl ([99])) rfl _ (NewF.src N_21) (fun e=>by have h1:=(NewF.nilCap N_21) e; have h2:=(NewF.le N_21); omega)) ?_
 simp only [aP,lI,l0,lS]; refine xaL (.bool true) (eqlS _ _ _ _ _ _ rfl rfl rfl rfl _) ?_; refine xpL (.bool true) ?_; refine xpL (.bool true) ?_; refine xpL (.bool true) ?_; refine xpL (.bool true) ?_; refine xpL (.bool true) ?_; refine xpL (.int .i64 ((2:Nat):Int)) ?_; refine xaL (.bool true) (eqlI .i64 _ _ _ _ _ _ rfl rfl rfl true rfl _) ?_; refine xpL (.bool true) ?_
 refine xpL (.bool true) ?_; refine xpL (.int .i64 ((2:Nat):Int)) ?_; refine xaL (.bool true) (eqlI .i64 _ _ _ _ _ _ rfl rfl rfl true rfl _) ?_; refine xpL (.bool true) ?_; refine xpL (.bool true) ?_; refine xpL (.int .i64 ((6:Nat):Int)) ?_; refine xaL (.bool true) (eqlI .i64 _ _ _ _ _ _ rfl rfl rfl true rfl _) ?_; refine xpL (.bool true) ?_; refine xpL (.bool true) ?_
 refine xpL (.pointer (some ⟨Ra,0,none⟩)) ?_
 have Mp:=M.perm (pull0 ([(B25,[.int .u8 120,.int .u8 121,.int .u8 122]),(B22,[.int .i64 ((2:Nat):Int),.slice p21 (([99]:List Int).length) c21]),(B19,[.int .i64 3,.int .i64 4]),(B16,[.int .i64 ((1:Nat):Int),.slice p15 (([98,99]:List Int).length) c15]),(B12,[.int .i64 ((0:Nat):Int),.slice p11 (([]:List Int).length) c11]),(B9,[.int .i64 ((3:Nat):Int),.slice p8 (([100]:List Int).length) c8]),(B6,[.int .i64 ((0:Nat):Int),.slice p5 (([97,98,99]:List Int).length) c5]),(B3,[.int .u8 97,.int .u8 98,.int .u8 99,.int .u8 100,.int .u8 101,.int .u8 102])]:List (Nat × List Value)) ba12 ((obs p21)++((obs p15)++((obs p11)++((obs p8)++((obs p5)++([]:List (Nat × List Value))))))))
 have key:=hK.bas w0 _ _ os12 ba12 _ os12_w os12_l hIa Mp; clear Mp
 rw [osb2] at key
 refine xcL key ?_; clear key; rintro e w29 ⟨rfl,l_⟩; replace M:=M.call l_; replace hIa:=hK.bel hIa l_; replace N_5:=NewF.below N_5 l_; replace T_5:=Wrt.below T_5 l_; replace N_8:=NewF.below N_8 l_; replace T_8:=Wrt.below T_8 l_; replace N_11:=NewF.below N_11 l_; replace T_11:=Wrt.below T_11 l_; replace N_15:=NewF.below N_15 l_; replace T_15:=Wrt.below T_15 l_
 replace N_21:=NewF.below N_21 l_; replace T_21:=Wrt.below T_21 l_; clear l_; refine xeL ?_; refine xaL (.bool true) (eqlI .i64 _ _ _ _ _ _ rfl rfl rfl true rfl _) ?_; refine xpL (.bool true) ?_; refine xpL (.bool true) ?_; refine xpL (.pointer (some ⟨Ra,0,none⟩)) ?_
 have Mp:=M.perm (pull0 ([(B25,[.int .u8 120,.int .u8 121,.int .u8 122]),(B22,[.int .i64 ((2:Nat):Int),.slice p21 (([99]:List Int).length) c21]),(B19,[.int .i64 3,.int .i64 4]),(B16,[.int .i64 ((1:Nat):Int),.slice p15 (([98,99]:List Int).length) c15]),(B12,[.int .i64 ((0:Nat):Int),.slice p11 (([]:List Int).length) c11]),(B9,[.int .i64 ((3:Nat):Int),.slice p8 (([100]:List Int).length) c8]),(B6,[.int .i64 ((0:Nat):Int),.slice p5 (([97,98,99]:List Int).length) c5]),(B3,[.int .u8 97,.int .u8 98,.int .u8 99,.int .u8 100,.int .u8 101,.int .u8 102])]:List (Nat × List Value)) ba12 ((obs p21)++((obs p15)++((obs p11)++((obs p8)++((obs p5)++([]:List (Nat × List Value))))))))
 have key:=hK.idl w0 _ _ os12 ba12 _ os12_w os12_l hIa Mp; clear Mp
 rw [osi] at key
 refine xcL key ?_; clear key; rintro e w30 ⟨rfl,l_⟩; replace M:=M.call l_; replace hIa:=hK.bel hIa l_; replace N_5:=NewF.below N_5 l_; replace T_5:=Wrt.below T_5 l_; replace N_8:=NewF.below N_8 l_; replace T_8:=Wrt.below T_8 l_; replace N_11:=NewF.below N_11 l_; replace T_11:=Wrt.below T_11 l_; replace N_15:=NewF.below N_15 l_; replace T_15:=Wrt.below T_15 l_
 replace N_21:=NewF.below N_21 l_; replace T_21:=Wrt.below T_21 l_; clear l_; refine xeL ?_; refine xpL (.bool true) ?_; refine xpL (.bool true) ?_; refine xpL (.bool true) ?_; refine xT ?_; have hbel:=M.below; clear M hIa N_5 T_5 N_8 T_8 N_11 T_11 N_15 T_15 N_21 T_21; go_wp2; go_ret
 exact ⟨rfl,hbel⟩
theorem nwrc_app:∀ a b:List (Int × Int),wrc (a++b)=wrc a++wrc b
 | [],_=>rfl
 | (x,y)::a,b=>by
   show Value.int .i64 x::Value.int .i64 y::wrc (a++b)=_
   rw [nwrc_app a b]
   rfl
theorem wrc_take {L:List (Int × Int)} {m j:Nat} {u:Value} (h:(wrc (L.take m))[j]?=some u):(wrc L)[j]?=some u:=by
 have e:wrc L=wrc (L.take m)++wrc (L.drop m):=by rw [← nwrc_app,List.take_append_drop]
 rw [e,List.getElem?_append_left (List.getElem?_eq_some_iff.1 h).1]
 exact h
theorem cut_rg {P:Program} {t:TypeId} (ht:P.underlying t=some (.slice (P.elem t))) (hsz:∀ w,(sizeOf (P.elem t)).run P w=.ok 2 w) (sp:Option Addr) (L:List (Int × Int)) (cap m:Nat) (hm:m≤L.length) (hc:L.length≤cap) :
 ∃ sp',(∀ w,(Instr.sliceAt t (.slice sp L.length cap) none (some (.int .i64 (m:Int))) none).run P w=.ok (.slice sp' (L.take m).length cap) w)∧(∀ w,RgW w L (.slice sp L.length cap)→RgW w (L.take m) (.slice sp' (L.take m).length cap))∧ob sp'=ob sp:=by
 have hl:(L.take m).length=m:=by rw [List.length_take]; omega
 refine ⟨if cap=0 then sp else sp.map (·.add (0*2)),fun w=>?_,fun w h=>?_,?_⟩
 · rw [hl,run_sliceAt_slice w t _ _ _ _ ht,run_slice_h w t sp L.length cap ht .i64 (m:Int) (by omega) (by omega),hsz]
   simp only [Result.andThen,sliced,Int.toNat_natCast,Nat.sub_zero]
 · obtain ⟨sp2,cap2,e,h1,h2,h3⟩:=h
   injection e with e1 _ e3
   subst e1; subst e3
   refine ⟨_,cap,rfl,by omega,fun e=>?_,fun j u hu=>?_⟩
   · by_cases hz:cap=0
     · exact hz
     · rw [if_neg hz] at e
       cases sp with
       | none=>exact h2 rfl
       | some ad=>cases e
   · obtain ⟨ad,e1,hc'⟩:=h3 j u (wrc_take hu)
     subst e1
     by_cases hz:cap=0
     · rw [if_pos hz]
       exact ⟨ad,rfl,hc'⟩
     · rw [if_neg hz]
       exact ⟨ad.add (0*2),rfl,by rw [Nat.zero_mul,Addr.add_add,Nat.zero_add]; exact hc'⟩
 · by_cases hz:cap=0
   · rw [if_pos hz]
   · rw [if_neg hz]
     cases sp with
     | none=>rfl
     | some ad =>
       show [(ad.add (0*2)).block]=[ad.block]
       rw [add_block]
theorem DI18.row {w0 w:World} {R:Nat} {o:Obx} {bs:List (Nat × List Value)} (h:DI18 w0 w (.pointer (some ⟨R,0,none⟩)) o bs):∃ sb sa sh cb ca ch,∀ j u,(dcs o sb sa sh cb ca ch)[j]?=some u→w.cell? ⟨R,j,none⟩=some u:=by
 obtain ⟨R',sb,sa,sh,cb,ca,ch,e1,_,hc,_⟩:=h
 injection e1 with e1
 injection e1 with e1
 injection e1 with e1 _ _
 subst e1
 exact ⟨sb,sa,sh,cb,ca,ch,hc⟩
theorem take_r {L:List (Int × Int)} {m:Nat} {P:Int × Int→Prop} (h:∀ x∈L,P x):∀ x∈L.take m,P x:=fun x hx=>h x (List.mem_of_mem_take hx)
def kdn (c:Int) (n:Nat):Nat:=(if c<0 then -(c+1) else c).toNat%n
theorem kdn_lt (c:Int) (n:Nat) (h:0<n):kdn c n<n:=Nat.mod_lt _ h
theorem kind18_any (c:Int) (n:Nat) (hn:0<n) (h1:i64 c) (w:World) :
 Calls Try.prog 10 #[.int .i64 c,.int .i64 (n:Int)] w fun e w'=>e=.returned (.int .i64 (kdn c n:Int))∧Below w.heap.size w w':=by
 unfold i64 at h1
 have M:=Mm.init w
 go_enter Try.func10,Try.ntmps10
 go_upto_region 0 with fail; refine wp_region_list ?_; refine xpL (.int .i64 0) ?_; refine xT ?_
 by_cases hc:c<0
 · go_upto_region 1 with fail
   refine wp_region_list ?_; refine xpL (.int .i64 c) ?_; refine xaL (.bool true) (lssI .i64 _ _ _ _ _ _ rfl rfl rfl true (decide_eq_true hc) _) ?_; refine xT ?_; go_upto_region 2 with fail; refine wp_region_list ?_; refine xpL (.int .i64 c) ?_; refine xaL (.int .i64 (c+1)) (addI .i64 _ _ _ _ _ _ _ rfl rfl rfl (by rw [xw6]; omega) _) ?_
   refine xaL (.int .i64 (-(c+1))) (negI .i64 _ _ _ _ rfl rfl (by rw [xw6]; omega) _) ?_; refine xpL (.int .i64 (-(c+1))) ?_; refine xT ?_
   have hrem:(-(c+1)).tmod (n:Int)=((kdn c n:Nat):Int):=by
    unfold kdn
    rw [if_pos hc]
    obtain ⟨m,hm⟩:∃ m:Nat,-(c+1)=(m:Int):=⟨(-(c+1)).toNat,by omega⟩
    rw [hm,Int.toNat_natCast]
    rfl
   go_upto_region 3 with fail; refine wp_region_list ?_; refine xpL (.int .i64 (-(c+1))) ?_; refine xpL (.int .i64 (n:Int)) ?_; refine xaL (.int .i64 ((kdn c n:Nat):Int)) (remI .i64 _ _ _ _ _ _ _ rfl rfl rfl (by omega) hrem _) ?_; refine xpL (.int .i64 ((kdn c n:Nat):Int)) ?_; refine xT ?_; have hB:=M.below; clear M; go_wp2; go_ret
   exact ⟨rfl,hB⟩
 · go_upto_region 1 with fail
   refine wp_region_list ?_; refine xpL (.int .i64 c) ?_; refine xaL (.bool false) (lssI .i64 _ _ _ _ _ _ rfl rfl rfl false (decide_eq_false hc) _) ?_; refine xT ?_
   have hrem:(c).tmod (n:Int)=((kdn c n:Nat):Int):=by
    unfold kdn
    rw [if_neg hc]
    obtain ⟨m,hm⟩:∃ m:Nat,c=(m:Int):=⟨(c).toNat,by omega⟩
    rw [hm,Int.toNat_natCast]
    rfl
   go_upto_region 3 with fail; refine wp_region_list ?_; refine xpL (.int .i64 c) ?_; refine xpL (.int .i64 (n:Int)) ?_; refine xaL (.int .i64 ((kdn c n:Nat):Int)) (remI .i64 _ _ _ _ _ _ _ rfl rfl rfl (by omega) hrem _) ?_; refine xpL (.int .i64 ((kdn c n:Nat):Int)) ?_; refine xT ?_; have hB:=M.below; clear M; go_wp2; go_ret
   exact ⟨rfl,hB⟩
theorem bl_takeK {b:List Int} {k j:Nat} (h:j<k):bl (b.take k) j=bl b j:=by
 unfold bl
 rw [List.getD_eq_getElem?_getD,List.getD_eq_getElem?_getD,List.getElem?_take_of_lt h]
theorem take_byts {b:List Int} (h:Byts b) (n:Nat):Byts (b.take n):=fun x hx=>h x (List.mem_of_mem_take hx)
end Go.Proofs.Ytpdpfdelglgfnaa
