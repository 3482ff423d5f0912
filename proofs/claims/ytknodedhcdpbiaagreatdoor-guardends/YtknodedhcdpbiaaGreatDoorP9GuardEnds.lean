/- Texts of Gw Gx Jp El Sb Hx Sd, joined. -/
import Derived.Test.YtknodedhcdpbiaaGreatDoorP8GuardEnds
import Derived.Test.YtknodedhcdpbiaaGreatDoorP7GuardEnds
set_option maxRecDepth 20000
set_option maxHeartbeats 64000000
namespace Go.Proofs.YtknodedhcdpbiaaGreatDoor
open Go.RowKit
def tot (ln:Nat→Nat):Nat→Nat
 | 0=>0
 | j+1=>tot ln j+ln j
def catz (ln:Nat→Nat) (zz:Nat→Nat→Int):Nat→Nat→Int
 | 0=>fun _=>0
 | j+1=>app (catz ln zz j) (tot ln j) (zz j)
theorem tot_mono (ln : Nat → Nat) {i : Nat} : ∀ {j : Nat}, i ≤ j → tot ln i ≤ tot ln j
  | 0, h => by obtain rfl : i = 0 := by omega
               exact xnR _
  | j + 1, h => by
    rcases Nat.lt_or_ge j i with h' | h'
    · obtain rfl : i = j + 1 := by omega
      exact xnR _
    · have := tot_mono ln h'
      show _ ≤ tot ln j + ln j
      omega
theorem loadSl {P:Program} {o:Oper} {a:Act} {w:World} (ty e:TypeId) (x:Operand) (p:Addr) (v:Value) (ho:o.op=.load ty x) (hx:a.eval x=.pointer (some p)) (hu:P.underlying ty=some (.slice e)) (hc:w.cell? p=some v):(execOp a.eval o).run P w=.ok (.value v) w:=by
 have hagg:(isAgg ty).run P w=.ok false w:=by
  unfold isAgg
  rw [Sem.run_bind,run_underlying hu w]
  rfl
 have e:(loadVar ty p).run P w=.ok v w:=by simp [loadVar,Sem.run_bind,hagg,hc]
 unfold execOp
 simp only [ho,hx,Instr.loadAt,Instr.sureAddr,Sem.run_bind,Sem.run_pure,Result.andThen_ok,e]
theorem cut_none (g n cap:Nat) (w:World):(Instr.sliceAt 29 (.slice (some ⟨g,0,none⟩) n cap) none (some (.int .i64 0)) none).run Tryz.prog w=.ok (.slice (some ⟨g,0,none⟩) 0 cap) w:=by
 rw [run_sliceAt_slice w 29 _ _ _ _ (by kernel_rfl),run_slice_h w 29 _ n cap (by kernel_rfl) .i64 0 (by omega) (by omega),show (sizeOf (Tryz.prog.elem 29)).run Tryz.prog w=.ok 1 w by kernel_rfl]
 simp [Result.andThen,sliced,Addr.add_mid]
theorem grow_any (n:Nat) (hn:n≤281474976710656) (w:World) :
 Calls Tryz.prog 61 #[.slice none 0 0,.int .i64 (n:Int)] w fun e w'=>∃ v,e=.returned v∧Own w' w.heap.size 5 .u8 0 (fun _=>0) v∧n≤vcap v∧Below w.heap.size w w':=by
 have h0:¬ (n:Int)<0:=by omega
 go_enter Tryz.func61,Tryz.ntmps61
 go_upto_region 3 with fail; clear h0; refine wp_region_list ?_; refine xpL (.int .i64 (n:Int)) ?_; refine xpL (.slice none 0 0) ?_; refine xpL (.int .i64 0) ?_; refine xpL (.slice none 0 0) ?_; refine xpL (.int .i64 0) ?_; refine xpL (.int .i64 0) ?_; refine xqL (.int .i64 (n:Int)) (fun w=>subI .i64 _ _ _ _ _ _ _ rfl rfl rfl (by rw [xw6]; omega) w) ?_; refine xpL (.int .i64 (n:Int)) ?_
 show Exit.then _ _ _ _ _
 rcases Nat.eq_zero_or_pos n with hz | hz
 · subst hz
   go_wp2; go_ret
   exact ⟨.slice none 0 0,rfl,World.ownsRow_nil w _ _ 1,xnR _,Below.refl _ _⟩
 · have g1:(0:Int)<(n:Int):=by omega
   go_upto_region 5 with fail; refine wp_region_list ?_; refine xpL (.slice none 0 0) ?_; refine xpL (.slice none 0 0) ?_; refine xpL (.int .i64 0) ?_; refine xpL (.slice none 0 0) ?_; refine xpL (.int .i64 (n:Int)) ?_
   have h1:(Tryz.prog.info? 5).map (fun i=>(i.zero,i.bytes,i.size))=some (some (.int .u8 0),1,1):=by kernel_rfl
   obtain ⟨i,hi,he⟩:=Option.map_eq_some_iff.1 h1
   simp only [Prod.mk.injEq] at he
   obtain ⟨e1,e2,e3⟩:=he
   have hr:∀ ty,_:=fun ty=>Lib.run_append_nil_zeros (P:=Tryz.prog) w 29 3 ty 5 i (.int .u8 0) .i64 .i64 Tryz.underlying29 Tryz.underlying3 hi e1 n (by omega) (by rw [e3]; decide) (by omega) (by rw [e2]; omega)
   refine actL _ rfl (appendNOp _ _ 29 3 _ _ _ rfl rfl rfl (hr _)) ?_; clear hr; have hge:=grownCap_ge w n 0 5; have hle:=grownCap_le_maxLen w n 0 5 (by unfold maxLen; omega)
   have hz1:(Value.int .u8 0).cells.size=1:=rfl
   have hsz:(Builtin.zeroCells (Value.int .u8 0).cells n++Builtin.zeroCells (Value.int .u8 0).cells (grownCap w n 0 5-n)).size=grownCap w n 0 5*1:=by
    rw [Array.size_append,size_zeroCells,size_zeroCells,hz1]
    omega
   have O:Own (w.drew.alloc (.cells (Builtin.zeroCells (Value.int .u8 0).cells n++Builtin.zeroCells (Value.int .u8 0).cells (grownCap w n 0 5-n)) 5)) w.heap.size 5 .u8 0 (fun _=>0) (.slice (some ⟨w.heap.size,0,none⟩) 0 (grownCap w n 0 5)) :=
    ⟨rfl,.inr ⟨w.heap.size,_,_,rfl,xnR _,heap_alloc_new w.drew _,Nat.zero_le _,hle,hsz,by rw [Nat.zero_mul,List.take_zero]; rfl⟩⟩
   have hB:Below w.heap.size w (w.drew.alloc (.cells (Builtin.zeroCells (Value.int .u8 0).cells n++Builtin.zeroCells (Value.int .u8 0).cells (grownCap w n 0 5-n)) 5)):=(Below.refl _ _).drew.alloc (xnR _) _
   generalize (w.drew.alloc (.cells (Builtin.zeroCells (Value.int .u8 0).cells n++Builtin.zeroCells (Value.int .u8 0).cells (grownCap w n 0 5-n)) 5))=w1 at O hB ⊢; clear hle hsz hz1 h1 hi e1 e2 e3; generalize grownCap w n 0 5=cp at O hge ⊢; generalize hg:w.heap.size=g at O hB ⊢; simp only [aP,lI,l0,lS]; refine xpL (.slice none 0 0) ?_; refine xpL (.int .i64 0) ?_
   refine xqL (.slice (some ⟨g,0,none⟩) 0 cp) (fun w'=>cutHi _ _ _ _ _ _ rfl rfl rfl (cut_none g n cp w')) ?_; refine xpL (.slice (some ⟨g,0,none⟩) 0 cp) ?_; subst hg; show Exit.then _ _ _ _ _; go_wp2; go_ret
   exact ⟨_,rfl,O,hge,hB⟩
structure CatIn (w:World) (p:Addr) (c:Nat) (sp:Nat→Option Addr) (ln cp:Nat→Nat) (zz:Nat→Nat→Int):Prop where
 cell:∀ j,j<c→w.cell? (p.add j)=some (.slice (sp j) (ln j) (cp j))
 src:∀ j,j<c→Src w (sp j) (ln j) (zz j)
 nil:∀ j,j<c→sp j=none→cp j=0
theorem CatIn.below {w w':World} {p:Addr} {c:Nat} {sp:Nat→Option Addr} {ln cp:Nat→Nat} {zz:Nat→Nat→Int} (h:CatIn w p c sp ln cp zz) (l:Below w.heap.size w w'):CatIn w' p c sp ln cp zz :=
 ⟨fun j hj=>by rw [l.cell (World.block_lt_of_cell? w _ (h.cell j hj))]; exact h.cell j hj,fun j hj=>(h.src j hj).below l (xnR _),h.nil⟩
structure CatI (w:World) (ln:Nat→Nat) (zz:Nat→Nat→Int) (c j:Nat) (s:Value) (w':World):Prop where
 own:Own w' w.heap.size 5 .u8 (tot ln j) (catz ln zz j) s
 room:tot ln c≤vcap s
 below:Below w.heap.size w w'
theorem concat_any (p:Addr) (c c':Nat) (sp:Nat→Option Addr) (ln cp:Nat→Nat) (zz:Nat→Nat→Int) (hc:c<1000000) (ht:tot ln c≤281474976710656) (w:World) (hin:CatIn w p c sp ln cp zz) :
 Calls Tryz.prog 41 #[.slice (some p) c c'] w fun e w'=>∃ v,e=.returned v∧Own w' w.heap.size 5 .u8 (tot ln c) (catz ln zz c) v∧Below w.heap.size w w':=by
 go_enter Tryz.func41,Tryz.ntmps41
 go_wp2
 go_loopw [3,11] (fun s i w'=>∃ j:Nat,j≤c∧s=.int .i64 ((tot ln j:Nat):Int)∧i=.int .i64 (j:Int)∧w=w') (fun _ i _=>c-(intOf i).toNat)
 case atStart=>exact ⟨0,Nat.zero_le _,rfl,rfl,rfl⟩
 case round =>
  obtain ⟨j,hj,rfl,rfl,rfl⟩:=hrel
  by_cases hlt:j<c
  · have g1:(j:Int)<(c:Int):=by omega
    have hm:tot ln j+ln j≤tot ln c:=tot_mono ln (show j+1≤c by omega)
    go_upto_region 4 with fail; refine wp_region_list ?_; refine xqL (.pointer (some (p.add j))) (fun w=>idxSl 43 29 c c' .i64 p j _ _ Tryz.underlying43 (fun _=>by kernel_rfl) hlt rfl rfl rfl w) ?_; refine xaL (.slice (sp j) (ln j) (cp j)) (loadSl 29 5 _ (p.add j) _ rfl rfl Tryz.underlying29 (hin.cell j hlt)) ?_; refine xpL (.slice (sp j) (ln j) (cp j)) ?_; show Exit.then _ _ _ _ _
    go_upto_region 5 with fail; refine wp_region_list ?_; refine xpL (.int .i64 ((tot ln j:Nat):Int)) ?_; refine xpL (.slice (sp j) (ln j) (cp j)) ?_; refine xqL (.int .i64 ((ln j:Nat):Int)) (fun w=>lenS _ 29 5 (sp j) (ln j) (cp j) rfl Tryz.underlying29 rfl w) ?_
    refine xqL (.int .i64 ((tot ln (j+1):Nat):Int)) (fun w=>addI .i64 _ _ _ _ _ _ _ rfl rfl rfl (by rw [xw6]; show _=((tot ln j+ln j:Nat):Int); omega) w) ?_
    refine xpL (.int .i64 ((tot ln (j+1):Nat):Int)) ?_; show Exit.then _ _ _ _ _
    have g2:¬ ((tot ln (j+1):Nat):Int)<0:=by omega
    clear hm; go_wp2
    go_roundw
    case rel=>exact ⟨j+1,by omega,rfl,by go_num,trivial⟩
    case measure=>simp [intOf]; omega
  · obtain rfl:j=c:=by omega
    have g1:¬ (j:Int)<(j:Int):=by omega
    clear hlt hj; go_upto_region 9 with fail; refine wp_region_list ?_; refine xpL (.int .i64 ((tot ln j:Nat):Int)) ?_; refine xcL (grow_any (tot ln j) ht _) ?_; rintro e w1 ⟨v,rfl,O,hro,hB⟩; refine xeL ?_; refine xpL v ?_
    have HI:CatI w ln zz j 0 v w1:=⟨O,hro,hB⟩
    clear O hro hB; show Exit.then _ _ _ _ _; go_wp2
    go_loopw [6,27] (fun s i w'=>∃ q:Nat,q≤j∧i=.int .i64 (q:Int)∧CatI w ln zz j q s w') (fun _ i _=>j-(intOf i).toNat)
    case atStart=>exact ⟨0,Nat.zero_le _,rfl,HI⟩
    case round =>
     clear HI
     obtain ⟨q,hq,rfl,HI⟩:=hrel
     by_cases hlt:q<j
     · have g2:(q:Int)<(j:Int):=by omega
       have hm:tot ln q+ln q≤tot ln j:=tot_mono ln (show q+1≤j by omega)
       go_upto_region 12 with fail; refine wp_region_list ?_; refine xqL (.pointer (some (p.add q))) (fun w=>idxSl 43 29 j c' .i64 p q _ _ Tryz.underlying43 (fun _=>by kernel_rfl) hlt rfl rfl rfl w) ?_; refine xaL (.slice (sp q) (ln q) (cp q)) (loadSl 29 5 _ (p.add q) _ rfl rfl Tryz.underlying29 ((hin.below HI.below).cell q hlt)) ?_; refine xpL (.slice (sp q) (ln q) (cp q)) ?_
       show Exit.then _ _ _ _ _; go_upto_region 13 with fail; refine wp_region_list ?_; refine xpL u6 ?_; refine xpL (.slice (sp q) (ln q) (cp q)) ?_
       obtain ⟨v',w2,hr,O,hg,hv,_⟩:=run_append_Room (P:=Tryz.prog) (ty:=29) Tryz.underlying29 one8 HI.own (sp q) (ln q) (cp q) (zz q) ((hin.below HI.below).src q hlt) (hin.nil q hlt) (xnT hm HI.room)
       refine xaL _ (appendOp _ _ 29 _ _ _ rfl rfl rfl hr) ?_; refine xpL v' ?_; have HS:=show Hid _ from (show CatI w ln zz j (q+1) v' w2 from ⟨O,by rw [hv]; exact HI.room,Below.grown HI.below hg HI.below.size (fun b hb=>(World.ownsRow.lt HI.own b hb).1)⟩); clear O hg hv hr HI hm
       show Exit.inBlock _ _ _ _ _
       go_wp2
       go_roundw
       case rel=>first | exact ⟨q+1,by omega,by go_num,HS.out⟩ | ((repeat apply Exists.intro); refine ⟨⟨q+1,by omega,?_,HS.out⟩,rfl⟩ <;> first | rfl | go_num)
       case measure=>simp [intOf]; omega
     · obtain rfl:q=j:=by omega
       have g2:¬ (q:Int)<(q:Int):=by omega
       have HS:=show Hid _ from HI; clear HI hlt hq; go_wp2; go_ret
       exact ⟨_,rfl,HS.out.own,HS.out.below⟩
theorem Has.head {w:World} {b:Nat} {k:IntKind} {n:Nat} {f:Nat→Int} (h:Has w b k n f) (m:Nat) (hm:m≤n):w.rangeAt b 0 (row k m f):=fun j v hv=>by
 obtain ⟨hj,rfl⟩:=row_get_some hv
 rw [Nat.zero_add]
 exact h.cell j (by omega)
theorem Kr.part {w w':World} {m:Nat} {l:List (Nat × IntKind × Nat × (Nat→Int))} {R:List (Nat × Nat)} (h:Kr w m l R w') (l':List (Nat × IntKind × Nat × (Nat→Int))) (b:Nat) (k:IntKind) (n:Nat) (f:Nat→Int) (o q:Nat) (ho:o+q≤n) (g:Nat→Int) (hp:(b,k,n,f)∈l) (hl:∀ p∈l',p∈l) (hne:∀ p∈l',p.1≠b) (hlo:w.heap.size≤b) :
 Kr w m ((b,k,n,over f o q g)::l') R (w'.setCells b o (row k q g)) :=
 ((h.loose l' b k n f hp hl hne hlo).poke b n mS o _).settle R b k n _ mS (fun _ hq=>mT _ hq) (fun q hq=>(h.apart _ hp q hq).symm) ((h.get _ _ _ _ hp).part o q ho g)
theorem Kr.headC {w w':World} {m:Nat} {l:List (Nat × IntKind × Nat × (Nat→Int))} {R:List (Nat × Nat)} {b:Nat} {k:IntKind} {n:Nat} {f:Nat→Int} (h:Kr w m ((b,k,n,f)::l) R w') (g:Nat→Int) (e:∀ j,j<n→f j=g j):Kr w m ((b,k,n,g)::l) R w' :=
 ⟨fun p hp=>by
  rcases xc1 hp with rfl | hp
  · exact ⟨(h.rows _ mS).1.congr e,(h.rows _ mS).2⟩
  · exact h.rows p (mT _ hp),h.room,fun p hp q hq=>by
  rcases xc1 hp with rfl | hp
  · exact h.apart _ mS q hq
  · exact h.apart p (mT _ hp) q hq,h.size,h.base,h.below⟩
def pk3 {α:Type} (a b c:α):Nat→α
 | 0=>a
 | 1=>b
 | _=>c
theorem tot3 (a b c:Nat):tot (pk3 a b c) 3=a+b+c:=by show 0+a+b+c=_; omega
theorem catIn3 {w:World} (C:Nat) (p1 p2 p3:Option Addr) (l1 l2 l3 c1 c2 c3:Nat) (z1 z2 z3:Nat→Int) (t:TypeId) (hC:C=w.heap.size) (h1:Src w p1 l1 z1) (h2:Src w p2 l2 z2) (h3:Src w p3 l3 z3) (n1:p1=none→c1=0) (n2:p2=none→c2=0) (n3:p3=none→c3=0) :
 CatIn (w.alloc (.cells #[.slice p1 l1 c1,.slice p2 l2 c2,.slice p3 l3 c3] t)) ⟨C,0,none⟩ 3 (pk3 p1 p2 p3) (pk3 l1 l2 l3) (pk3 c1 c2 c3) (pk3 z1 z2 z3):=by
 have hb:=(Below.refl w.heap.size w).alloc (xnR _) (.cells #[.slice p1 l1 c1,.slice p2 l2 c2,.slice p3 l3 c3] t)
 refine ⟨fun j hj=>?_,fun j hj=>?_,fun j hj=>?_⟩
 · rw [Addr.add_mid,World.cell?_alloc_at _ _ _ _ hC]
   match j,hj with
   | 0,_ | 1,_ | 2,_=>rfl
   | _+3,h=>omega
 · match j,hj with
   | 0,_=>exact h1.below hb (xnR _)
   | 1,_=>exact h2.below hb (xnR _)
   | 2,_=>exact h3.below hb (xnR _)
   | _+3,h=>omega
 · match j,hj with
   | 0,_=>exact n1
   | 1,_=>exact n2
   | 2,_=>exact n3
   | _+3,h=>omega
def knx (ll:Nat) (last:Nat→Int) (il:Nat) (inf:Nat→Int) (c:Int):Nat→Int:=app (app last ll inf) (ll+il) (fun _=>c)
theorem knx_in (ll:Nat) (last:Nat→Int) (il:Nat) (inf:Nat→Int) (c:Int) (hl:In 256 ll last) (hi:In 256 il inf) (hc:0≤c∧c<256):In 256 (ll+il+1) (knx ll last il inf c):=app_in _ _ _ _ (app_in _ _ _ _ hl hi) (fun _ _=>hc)
theorem cat3k (ll:Nat) (last:Nat→Int) (il:Nat) (inf:Nat→Int) (c:Int) (j:Nat):catz (pk3 ll il 1) (pk3 last inf (fun _=>c)) 3 j=knx ll last il inf c j:=by
 show app (app (app (fun _=>0) 0 last) (0+ll) inf) (0+ll+il) (fun _=>c) j=_
 unfold knx
 rw [Nat.zero_add]
 have e:app (fun _=>(0:Int)) 0 last=last:=by
  funext q
  unfold app
  rw [if_neg (xnZ q),Nat.sub_zero]
 rw [e]
theorem knext_any (k:Nat→Int) (hk:In 256 32 k) (lp:Option Addr) (ll lc:Nat) (hll:ll≤32) (hln:lp=none→lc=0) (last:Nat→Int) (hla:In 256 ll last) (ip:Option Addr) (il ic:Nat) (hil:il≤140737488351232) (hin:ip=none→ic=0) (inf:Nat→Int) (hif:In 256 il inf) (c:Int) (hc:0≤c∧c<256) (w:World) (hg:BGlob w) (hsl:Src w lp ll last) (hsi:Src w ip il inf) :
 Calls Tryz.prog 70 #[(.agg (row .u8 32 (k)).toArray),.slice lp ll lc,.slice ip il ic,.int .u8 c] w fun e w'=>e=.returned (.agg (row .u8 32 (bmac 32 k (ll+il+1) (knx ll last il inf c))).toArray)∧Below w.heap.size w w':=by
 have K:=Kr.init w; replace K:=K.box .u8 32 k 23 (w.heap.size) rfl; replace K:=K.make 32 zu8_32 23 (w.heap.size+1) (by simp) (key_zero _ _ _ (by simp)).there
 go_enter Tryz.func70,Tryz.ntmps70
 go_upto_region 1 with fail; generalize ((w.alloc (.cells (row .u8 32 k).toArray 23)).alloc (.cells zu8_32 23))=w0 at K ⊢; refine wp_region_held_drew (S:=fun w'=>Kr w (w.heap.size+1+1) [(w.heap.size,.u8,32,k)] [(w.heap.size+1,32)] w') (by kernel_rfl) K.drew ?_; clear K; intro K; generalize w0.drew=w1 at K ⊢
 refine xqH 0 9 rfl (.slice (some ⟨w.heap.size,0,none⟩) 32 32) (fun w'=>cutAll _ _ _ _ rfl rfl (kcutAll w.heap.size w')) K ?_; refine xpH 1 10 (.slice lp ll lc) K ?_; refine xpH 2 11 (.slice ip il ic) K ?_; refine xpH 3 12 (.int .u8 c) K ?_; have H1:=(Has.new w1 .u8 1 (fun _=>c) 5 w1.heap.size rfl).src0
 replace K:=K.call ((Below.refl w1.heap.size w1).alloc (xnR _) (.cells #[.int .u8 c] 5)); refine actH (i:=4) (w':=w1.alloc (.cells #[.int .u8 c] 5)) (some 13) rfl (.slice (some ⟨w1.heap.size,0,none⟩) 1 1) (by kernel_rfl) rfl rfl (by kernel_rfl) K ?_; simp only [aP,lI,l0,lS]
 have HC:=catIn3 (w1.alloc (.cells #[.int .u8 c] 5)).heap.size lp ip (some ⟨w1.heap.size,0,none⟩) ll il 1 lc ic 1 last inf (fun _=>c) 29 rfl (hsl.below K.below (xnR _)) (hsi.below K.below (xnR _)) H1 hln hin (fun e=>by cases e); generalize w1.alloc (.cells #[.int .u8 c] 5)=w2 at K HC ⊢; clear H1
 replace K:=K.call ((Below.refl w2.heap.size w2).alloc (xnR _) (.cells #[.slice lp ll lc,.slice ip il ic,.slice (some ⟨w1.heap.size,0,none⟩) 1 1] 29)); refine actH (i:=5) (w':=w2.alloc (.cells #[.slice lp ll lc,.slice ip il ic,.slice (some ⟨w1.heap.size,0,none⟩) 1 1] 29)) (some 14) rfl (.slice (some ⟨w2.heap.size,0,none⟩) 3 3) (by kernel_rfl) rfl rfl (by kernel_rfl) K ?_
 simp only [aP,lI,l0,lS]; generalize (w2.alloc (.cells #[.slice lp ll lc,.slice ip il ic,.slice (some ⟨w1.heap.size,0,none⟩) 1 1] 29))=w3 at K HC ⊢; refine callH (i:=6) (some 15) rfl (by kernel_rfl) rfl rfl (fun _=>by kernel_rfl) (concat_any ⟨w2.heap.size,0,none⟩ 3 3 _ _ _ _ (by decide) (by rw [tot3]; omega) _ HC) ?_; rintro e w4 ⟨v,rfl,O,l⟩; replace K:=K.call l; clear l HC
 rw [tot3] at O
 replace O:=O.congr (fun j _=>cat3k ll last il inf c j)
 obtain ⟨p3,c3,rfl,hc3,S3⟩:=O.bytes
 have hn3:=O.nilCap; clear O
 refine ⟨_,rfl,K,?_⟩
 simp only [aP,lI,l0,lS]; refine callH (i:=7) (some 16) rfl (by kernel_rfl) rfl rfl (fun _=>by kernel_rfl) (bmac_any (some ⟨w.heap.size,0,none⟩) 32 32 (by decide) (by decide) (fun e=>by cases e) k hk p3 (ll+il+1) c3 (by omega) hc3 hn3 _ (knx_in ll last il inf c hla hif hc) _ (hg.below K.below hg.size) (K.get _ _ _ _ mS).src0 S3) ?_; rintro e w5 ⟨rfl,l⟩; replace K:=K.call l
 clear l S3
 refine ⟨_,rfl,K,?_⟩
 simp only [aP,lI,l0,lS]
 have hz':=(K.room _ mS).1
 refine storesH (i:=8) none rfl .u8 32 (bmac 32 k (ll+il+1) (knx ll last il inf c)) (w.heap.size+1) 23 _ _ (by kernel_rfl) rfl rfl rfl rfl rfl (room_of hz') (key_info' _) (K.fill _ _ mS _) ?_; simp only [Act.put]
 refine wpAnyH_done (by kernel_rfl) ?_ _
 have hB:=(K.fill _ _ mS (row .u8 32 (bmac 32 k (ll+il+1) (knx ll last il inf c)))).below; clear K; generalize hGe:bmac 32 k (ll+il+1) (knx ll last il inf c)=G at *; go_wp2
 exact bodyPost_ret (v:=(.agg (row .u8 32 (G)).toArray)) (results_row Tryz.results70 rfl (Has.all hz' .u8 G).range Tryz.underlying23 rfl (key_info G)) rfl ⟨by first | rfl | rw [hGe] | (rw [← hGe]; done),hB⟩
theorem kfirst_any (k:Nat→Int) (hk:In 256 32 k) (s:ByteArray) (hsz:s.size≤1000) (w:World) (hg:BGlob w) :
 Calls Tryz.prog 53 #[(.agg (row .u8 32 (k)).toArray),.string s] w fun e w'=>e=.returned (.agg (row .u8 32 (kT k s.size (zs s) 1)).toArray)∧Below w.heap.size w w':=by
 have K:=Kr.init w; replace K:=K.box .u8 32 k 23 (w.heap.size) rfl; replace K:=K.make 32 zu8_32 23 (w.heap.size+1) (by simp) (key_zero _ _ _ (by simp)).there
 go_enter Tryz.func53,Tryz.ntmps53
 go_upto_region 1 with fail; generalize ((w.alloc (.cells (row .u8 32 k).toArray 23)).alloc (.cells zu8_32 23))=w0 at K ⊢; refine wp_region_list ?_; refine rowKL .u8 32 (k) (w.heap.size) 0 23 _ _ rfl rfl rfl Tryz.underlying23 rfl (key_info _) ((K.get _ _ _ _ mS).range) ?_; simp only [aP,lI,l0,lS]; refine xpL (.string s) ?_
 refine actL (w':=Lib.bytesWorld w0 5 s) (.slice (some ⟨w0.heap.size,0,none⟩) s.size (grownCap w0 s.size 0 5)) rfl (convStr 9 29 5 _ s rfl rfl Tryz.underlying9 Tryz.underlying29 Tryz.underlying5) ?_; simp only [aP,lI,l0,lS]; have hs:=bytes_src w0 5 s; replace K:=K.call (bytes_below w0 5 s); generalize Lib.bytesWorld w0 5 s=w1 at K hs ⊢; generalize grownCap w0 s.size 0 5=sc
 refine xcL (knext_any k hk none 0 0 (by decide) (fun _=>rfl) (fun _=>0) (fun _ hj=>absurd hj (xnZ _)) (some ⟨w0.heap.size,0,none⟩) s.size sc (by omega) (fun e=>by cases e) (zs s) (zs_in s _) 1 (by decide) _ (hg.below K.below hg.size) (fun j hj=>absurd hj (xnZ j)) hs) ?_; rintro e w2 ⟨rfl,l⟩; replace K:=K.call l; clear l hs
 rw [show bmac 32 k (0+s.size+1) (knx 0 (fun _=>0) s.size (zs s) 1)=kT k s.size (zs s) 1 from rfl]
 refine xeL ?_
 have hz':=(K.room _ mS).1
 refine storesL .u8 32 (kT k s.size (zs s) 1) (w.heap.size+1) 23 _ _ rfl rfl rfl rfl (room_of hz') (key_info' _) ?_; simp only [Act.put]; have hB:=(K.fill _ _ mS (row .u8 32 (kT k s.size (zs s) 1))).below; clear K; generalize hGe:kT k s.size (zs s) 1=G at *; show Exit.then _ _ _ _ _; go_wp2
 exact bodyPost_ret (v:=(.agg (row .u8 32 (G)).toArray)) (results_row Tryz.results53 rfl (Has.all hz' .u8 G).range Tryz.underlying23 rfl (key_info G)) rfl ⟨by first | rfl | rw [hGe] | (rw [← hGe]; done),hB⟩
theorem klater_any (k:Nat→Int) (hk:In 256 32 k) (w:World) (hg:BGlob w) :
 Calls Tryz.prog 35 #[(.agg (row .u8 32 (k)).toArray)] w fun e w'=>e=.returned (.agg (row .u8 32 (kT k 12 (zs sLater) 1)).toArray)∧Below w.heap.size w w':=by
 have K:=Kr.init w; replace K:=K.box .u8 32 k 23 (w.heap.size) rfl; replace K:=K.make 32 zu8_32 23 (w.heap.size+1) (by simp) (key_zero _ _ _ (by simp)).there
 go_enter Tryz.func35,Tryz.ntmps35
 go_upto_region 1 with fail; generalize ((w.alloc (.cells (row .u8 32 k).toArray 23)).alloc (.cells zu8_32 23))=w0 at K ⊢; refine wp_region_list ?_; refine rowKL .u8 32 (k) (w.heap.size) 0 23 _ _ rfl rfl rfl Tryz.underlying23 rfl (key_info _) ((K.get _ _ _ _ mS).range) ?_; simp only [aP,lI,l0,lS]; refine xcL (kfirst_any k hk sLater (by decide) _ (hg.below K.below hg.size)) ?_
 rintro e w1 ⟨rfl,l⟩; replace K:=K.call l; clear l
 refine ⟨_,rfl,?_⟩
 rw [show sLater.size=12 from rfl]
 simp only [aP,lI,l0,lS]
 have hz':=(K.room _ mS).1
 refine storesL .u8 32 (kT k 12 (zs sLater) 1) (w.heap.size+1) 23 _ _ rfl rfl rfl rfl (room_of hz') (key_info' _) ?_; simp only [Act.put]; have hB:=(K.fill _ _ mS (row .u8 32 (kT k 12 (zs sLater) 1))).below; clear K; generalize hGe:kT k 12 (zs sLater) 1=G at *; show Exit.then _ _ _ _ _; go_wp2
 exact bodyPost_ret (v:=(.agg (row .u8 32 (G)).toArray)) (results_row Tryz.results35 rfl (Has.all hz' .u8 G).range Tryz.underlying23 rfl (key_info G)) rfl ⟨by first | rfl | rw [hGe] | (rw [← hGe]; done),hB⟩
theorem kof_any (k:Nat→Int) (hk:In 256 32 k) (w:World) (hg:BGlob w) :
 Calls Tryz.prog 52 #[(.agg (row .u8 32 (k)).toArray)] w fun e w'=>e=.returned (.agg (row .u8 32 (kT k 10 (zs sKey) 1)).toArray)∧Below w.heap.size w w':=by
 have K:=Kr.init w; replace K:=K.box .u8 32 k 23 (w.heap.size) rfl; replace K:=K.make 32 zu8_32 23 (w.heap.size+1) (by simp) (key_zero _ _ _ (by simp)).there
 go_enter Tryz.func52,Tryz.ntmps52
 go_upto_region 1 with fail; generalize ((w.alloc (.cells (row .u8 32 k).toArray 23)).alloc (.cells zu8_32 23))=w0 at K ⊢; refine wp_region_list ?_; refine rowKL .u8 32 (k) (w.heap.size) 0 23 _ _ rfl rfl rfl Tryz.underlying23 rfl (key_info _) ((K.get _ _ _ _ mS).range) ?_; simp only [aP,lI,l0,lS]; refine xcL (kfirst_any k hk sKey (by decide) _ (hg.below K.below hg.size)) ?_
 rintro e w1 ⟨rfl,l⟩; replace K:=K.call l; clear l
 refine ⟨_,rfl,?_⟩
 rw [show sKey.size=10 from rfl]
 simp only [aP,lI,l0,lS]
 have hz':=(K.room _ mS).1
 refine storesL .u8 32 (kT k 10 (zs sKey) 1) (w.heap.size+1) 23 _ _ rfl rfl rfl rfl (room_of hz') (key_info' _) ?_; simp only [Act.put]; have hB:=(K.fill _ _ mS (row .u8 32 (kT k 10 (zs sKey) 1))).below; clear K; generalize hGe:kT k 10 (zs sKey) 1=G at *; show Exit.then _ _ _ _ _; go_wp2
 exact bodyPost_ret (v:=(.agg (row .u8 32 (G)).toArray)) (results_row Tryz.results52 rfl (Has.all hz' .u8 G).range Tryz.underlying23 rfl (key_info G)) rfl ⟨by first | rfl | rw [hGe] | (rw [← hGe]; done),hB⟩
def pkf (e:Int) (s a b:Nat→Int) (m:Int):List Value:=[[Value.int .i64 e],row .u8 32 s,row .u8 32 a,row .u8 32 b,[Value.int .i64 m]].flatten
theorem two_one (a b:Nat→Int):∀ u∈row .u8 32 a++row .u8 32 b,u.oneCell'=true:=fun u hu=>(List.mem_append.1 hu).elim (row_one .u8 32 a u) (row_one .u8 32 b u)
theorem two_len (a b:Nat→Int):(row .u8 32 a++row .u8 32 b).length=64:=by rw [List.length_append,row32,row32]
theorem pk_two (x y:Value) (s a b c d:List Value) (hs:s.length=32) (ha:a.length=32) (hb:b.length=32) (hc:c.length=32) (hd:d.length=32):setL [[x],s,a,b,[y]].flatten 33 (c++d)=[[x],s,c,d,[y]].flatten:=by
 have h5:∀ a b:List Value,[[x],s,a,b,[y]].flatten=[[x],s,a++b,[y]].flatten:=fun a b=>by simp
 rw [h5,h5,flat_set [[x],s,a++b,[y]] [1,32,64,1] (by simp [hs,ha,hb]) 2 33 (a++b) (c++d) rfl rfl (by simp [ha,hb,hc,hd])]
 rfl
theorem pk_twoR (e m:Int) (s a b c d:Nat→Int):setL [[Value.int .i64 e],row .u8 32 s,row .u8 32 a,row .u8 32 b,[Value.int .i64 m]].flatten 33 (row .u8 32 c++row .u8 32 d)=[[Value.int .i64 e],row .u8 32 s,row .u8 32 c,row .u8 32 d,[Value.int .i64 m]].flatten:=pk_two _ _ _ _ _ _ _ (row32 _) (row32 _) (row32 _) (row32 _) (row32 _)
def kyK (e m:Int) (a b:Nat→Int) (n:Int):Nat→Int:=if n=e then a else if n=e-1∧m=2 then b else fun _=>0
def kyE (e m n:Int):Int:=if n=e then 0 else if n=e-1∧m=2 then 0 else 150
theorem kyK_now {e m n:Int} {a b:Nat→Int} (h:n=e):kyK e m a b n=a:=if_pos h
theorem kyE_now {e m n:Int} (h:n=e):kyE e m n=0:=if_pos h
theorem kyK_last {e m n:Int} {a b:Nat→Int} (h:n=e-1) (h2:m=2):kyK e m a b n=b:=by unfold kyK; rw [if_neg (by omega),if_pos ⟨h,h2⟩]
theorem kyE_last {e m n:Int} (h:n=e-1) (h2:m=2):kyE e m n=0:=by unfold kyE; rw [if_neg (by omega),if_pos ⟨h,h2⟩]
theorem kyK_none {e m n:Int} {a b:Nat→Int} (h:¬ n=e) (h2:¬ (n=e-1∧m=2)):kyK e m a b n=fun _=>0:=by unfold kyK; rw [if_neg h,if_neg h2]
theorem kyE_none {e m n:Int} (h:¬ n=e) (h2:¬ (n=e-1∧m=2)):kyE e m n=150:=by unfold kyE; rw [if_neg h,if_neg h2]
theorem ktake_any (w0 w:World) (R:Nat) (l:List (Nat × List Value)) (e m m2:Int) (s a b:Nat→Int) (r:Nat→Int) (hr:In 256 32 r) (hm:0≤m∧m≤2∧m2=min (m+1) 2) (hg:BGlob w0) (M:Mm w0 ((R,pkf e s a b m)::l) w) :
 Calls Tryz.prog 34 #[.pointer (some ⟨R,0,none⟩),.agg (row .u8 32 r).toArray] w fun e' w'=>e'=.returned (.tuple #[])∧Mm w0 ((R,pkf e r (yof r) a m2)::l) w'∧Off [R] w w':=by
 replace M:Mm w0 ((R,[[Value.int .i64 e],row .u8 32 s,row .u8 32 a,row .u8 32 b,[Value.int .i64 m]].flatten)::l) w:=M
 have hb0:=M.below; have hwz:=xnR w.heap.size; have OF:=Off.refl [R] w
 go_enter Tryz.func34,Tryz.ntmps34
 obtain ⟨hm0,hm1,hm2⟩:=hm
 go_upto_region 0 with fail; refine wp_region_list ?_; have hlb:=(Below.refl w.heap.size w).alloc (xnR _) (.cells (row .u8 32 r).toArray 23); refine actL (w':=w.alloc (.cells (row .u8 32 r).toArray 23)) (.pointer (some ⟨w.heap.size,0,none⟩)) rfl (by kernel_rfl) ?_; simp only [aP,lI,l0,lS]; have hB_:=hwz; replace hwz:=xnT hwz hlb.size; replace OF:=OF.below hlb
 replace M:=M.box (row .u8 32 r).toArray 23 w.heap.size rfl; clear hlb; generalize w.alloc (.cells (row .u8 32 r).toArray 23)=w1 at M hwz OF ⊢; generalize eB_:w.heap.size=B1 at M ⊢
 have hB_B1:w.heap.size≤B1:=by rw [← eB_]; exact hB_
 clear hB_ eB_
 replace M:Mm w0 ((B1,row .u8 32 r)::(R,[[Value.int .i64 e],row .u8 32 s,row .u8 32 a,row .u8 32 b,[Value.int .i64 m]].flatten)::l) w1:=M
 refine xT ?_; go_upto_region 1 with fail; refine wp_region_list ?_; refine xpL (.pointer (some ⟨R,0,none⟩)) ?_; refine xaL (.agg (row .u8 32 r).toArray) (loadN 23 _ ⟨B1,0,none⟩ (row .u8 32 r) rfl rfl (fun _=>by kernel_rfl) (fun _=>by rw [row32]; kernel_rfl) (M.part mS 0 _ (by rw [List.drop_zero,List.take_length]))) ?_; refine xpL (.pointer (some ⟨R,0,none⟩)) ?_
 refine xpL (.pointer (some ⟨R,1,none⟩)) ?_; replace M:=M.swap
 refine skipOpL rfl (storeP (row .u8 32 r) R 1 23 _ _ rfl rfl rfl (M.thereP mS 1 32 (by rw [flat_len _ [1,32,32,32,1] (by simp [row_length])]; decide)) (by kernel_rfl) (row_one .u8 32 r)) ?_
 simp only [Act.put]; replace M:=M.setPart (row .u8 32 r) 1 (by rw [row32,flat_len _ [1,32,32,32,1] (by simp [row_length])]; decide)
 rw [flat_set _ [1,32,32,32,1] (by simp [row_length]) 1 1 _ (row .u8 32 r) rfl rfl (by rw [row32,row32])] at M
 replace hwz:=xnT hwz (Off.size ((Off.refl [R] _).setAll (b:=R) mS 1 (row .u8 32 r))); replace OF:=OF.and1 ((Off.refl [R] _).setAll (b:=R) mS 1 (row .u8 32 r)) (.inl (by simp)); generalize w1.setCells R 1 (row .u8 32 r)=w2 at M hwz OF ⊢
 replace M:Mm w0 ((R,[[Value.int .i64 e],row .u8 32 r,row .u8 32 a,row .u8 32 b,[Value.int .i64 m]].flatten)::(B1,row .u8 32 r)::l) w2:=M
 refine xT ?_; go_upto_region 2 with fail; refine wp_region_C (S:=fun w'=>Mm w0 ((R,[[Value.int .i64 e],row .u8 32 r,row .u8 32 a,row .u8 32 b,[Value.int .i64 m]].flatten)::(B1,row .u8 32 r)::l) w') 11 (by kernel_rfl) M.drew ?_; clear M; intro M; have hdr:=(Below.refl w2.heap.size w2).drew; replace hwz:=xnT hwz hdr.size; replace OF:=OF.below hdr; clear hdr
 generalize w2.drew=w3 at M hwz OF ⊢; refine readC (i:=0) (some 8) rfl (.pointer (some ⟨R,0,none⟩)) rfl rfl (by kernel_rfl) rfl (fun _ M=>(by kernel_rfl)) (by kernel_rfl) (by kernel_rfl) (by kernel_rfl) (by kernel_rfl) (fun _ _ _ h=>h) M ?_; simp only [aP,lI,l0,lS]
 refine readC (i:=1) (some 9) rfl (.agg (row .u8 32 r).toArray) rfl rfl (by kernel_rfl) rfl (fun _ M=>loadN 23 _ ⟨B1,0,none⟩ (row .u8 32 r) rfl rfl (fun _=>by kernel_rfl) (fun _=>by rw [row32]; kernel_rfl) (M.part (mT _ mS) 0 _ (by rw [List.drop_zero,List.take_length]))) (by kernel_rfl) (by kernel_rfl) (by kernel_rfl) (by kernel_rfl) (fun _ _ _ h=>h) M ?_; simp only [aP,lI,l0,lS]
 refine readC (i:=3) (some 11) rfl (.pointer (some ⟨R,0,none⟩)) rfl rfl (by kernel_rfl) rfl (fun _ M=>(by kernel_rfl)) (by kernel_rfl) (by kernel_rfl) (by kernel_rfl) (by kernel_rfl) (fun _ _ _ h=>h) M ?_; simp only [aP,lI,l0,lS]
 refine readC (i:=4) (some 12) rfl (.pointer (some ⟨R,0,none⟩)) rfl rfl (by kernel_rfl) rfl (fun _ M=>(by kernel_rfl)) (by kernel_rfl) (by kernel_rfl) (by kernel_rfl) (by kernel_rfl) (fun _ _ _ h=>h) M ?_; simp only [aP,lI,l0,lS]
 refine readC (i:=5) (some 13) rfl (.pointer (some ⟨R,33,none⟩)) rfl rfl (by kernel_rfl) rfl (fun _ M=>(by kernel_rfl)) (by kernel_rfl) (by kernel_rfl) (by kernel_rfl) (by kernel_rfl) (fun _ _ _ h=>h) M ?_; simp only [aP,lI,l0,lS]
 refine readC (i:=6) (some 14) rfl (.pointer (some ⟨R,33,none⟩)) rfl rfl (by kernel_rfl) rfl (fun _ M=>(by kernel_rfl)) (by kernel_rfl) (by kernel_rfl) (by kernel_rfl) (by kernel_rfl) (fun _ _ _ h=>h) M ?_; simp only [aP,lI,l0,lS]
 refine readC (i:=7) (some 15) rfl (.agg (row .u8 32 a).toArray) rfl rfl (by kernel_rfl) rfl (fun _ M=>loadN 23 _ ⟨R,33,none⟩ (row .u8 32 a) rfl rfl (fun _=>by kernel_rfl) (fun _=>by rw [row32]; kernel_rfl) (M.part mS 33 _ (flat_part _ [1,32,32,32,1] (by simp [row_length]) 2 33 _ rfl rfl))) (by kernel_rfl) (by kernel_rfl) (by kernel_rfl) (by kernel_rfl) (fun _ _ _ h=>h) M ?_
 simp only [aP,lI,l0,lS]; refine callMC (i:=2) (some 10) rfl (by kernel_rfl) rfl rfl (fun _=>by kernel_rfl) (kof_any r hr _ (hg.below M.below hg.size)) ?_; rintro e w4 ⟨rfl,l⟩; replace M:=M.call l; replace hwz:=xnT hwz l.size; replace OF:=OF.below l; clear l
 refine ⟨_,rfl,M,?_⟩
 simp only [aP,lI,l0,lS]; refine readC (i:=8) (some 16) rfl (.agg (row .u8 32 (yof r)++row .u8 32 a).toArray) rfl rfl (by kernel_rfl) rfl (fun _ M=>(by kernel_rfl)) (by kernel_rfl) (by kernel_rfl) (by kernel_rfl) (by kernel_rfl) (fun _ _ _ h=>h) M ?_; simp only [aP,lI,l0,lS]; refine xqC 9 17 rfl (.pointer (some ⟨R,0,none⟩)) (fun _=>(by kernel_rfl)) M ?_
 refine readC (i:=10) (some 18) rfl (.pointer (some ⟨R,33,none⟩)) rfl rfl (by kernel_rfl) rfl (fun _ M=>(by kernel_rfl)) (by kernel_rfl) (by kernel_rfl) (by kernel_rfl) (by kernel_rfl) (fun _ _ _ h=>h) M ?_; simp only [aP,lI,l0,lS]
 refine skipC (S2:=fun _=>True) none rfl (by kernel_rfl) rfl rfl (storeP (row .u8 32 (yof r)++row .u8 32 a) R 33 56 _ _ rfl rfl rfl (M.thereP mS 33 64 (by rw [flat_len _ [1,32,32,32,1] (by simp [row_length])]; decide)) (by kernel_rfl) (two_one _ _)) (by kernel_rfl) ?_
 simp only [Act.put]; replace M:=M.setPart (row .u8 32 (yof r)++row .u8 32 a) 33 (by rw [two_len,flat_len _ [1,32,32,32,1] (by simp [row_length])]; decide)
 rw [pk_twoR] at M
 replace hwz:=xnT hwz (Off.size ((Off.refl [R] _).setAll (b:=R) mS 33 (row .u8 32 (yof r)++row .u8 32 a))); replace OF:=OF.and1 ((Off.refl [R] _).setAll (b:=R) mS 33 (row .u8 32 (yof r)++row .u8 32 a)) (.inl (by simp)); generalize w4.setCells R 33 (row .u8 32 (yof r)++row .u8 32 a)=w5 at M hwz OF ⊢
 replace M:Mm w0 ((R,[[Value.int .i64 e],row .u8 32 r,row .u8 32 (yof r),row .u8 32 a,[Value.int .i64 m]].flatten)::(B1,row .u8 32 r)::l) w5:=M
 refine wpAnyH_done (by kernel_rfl) ?_ _
 first | show Exit.then _ _ _ _ _ | show Exit.inBlock _ _ _ _ _
 go_upto_region 3 with fail; refine wp_region_list ?_; refine xpL (.pointer (some ⟨R,0,none⟩)) ?_; refine xpL (.pointer (some ⟨R,0,none⟩)) ?_; refine xpL (.pointer (some ⟨R,0,none⟩)) ?_; refine xpL (.pointer (some ⟨R,97,none⟩)) ?_
 refine xaL (.int .i64 m) (load1 3 _ ⟨R,97,none⟩ _ rfl rfl (fun _=>by kernel_rfl) (M.get mS 97 _ (flat_get _ [1,32,32,32,1] (by simp [row_length]) 4 97 _ rfl rfl))) ?_; refine xaL (.int .i64 (m+1)) (addI .i64 _ _ _ _ _ _ _ rfl rfl rfl (by rw [xw6]; omega) _) ?_; refine xaL (.int .i64 m2) (minI .i64 .i64 _ _ _ _ _ _ _ rfl rfl rfl (by split <;> omega) _) ?_
 refine xpL (.pointer (some ⟨R,0,none⟩)) ?_; refine xpL (.pointer (some ⟨R,97,none⟩)) ?_
 refine skipOpL rfl (storeAny (.int .i64 m2) R 97 3 _ _ rfl rfl rfl rfl rfl (M.isSome mS 97 (by rw [flat_len _ [1,32,32,32,1] (by simp [row_length])]; decide)) (M.free mS 97 (by rw [flat_len _ [1,32,32,32,1] (by simp [row_length])]; decide)) (by kernel_rfl)) ?_
 simp only [Act.put]; replace M:=M.set 97 (by rw [flat_len _ [1,32,32,32,1] (by simp [row_length])]; decide) (.int .i64 m2)
 rw [flat_set1 _ [1,32,32,32,1] (by simp [row_length]) 4 97 _ (.int .i64 m2) rfl rfl] at M
 replace hwz:=xnT hwz (Off.size ((Off.refl [R] _).set (b:=R) mS 97 (.int .i64 m2))); replace OF:=OF.and1 ((Off.refl [R] _).set (b:=R) mS 97 (.int .i64 m2)) (.inl (by simp)); generalize w5.setCell ⟨R,97,none⟩ (.int .i64 m2)=w6 at M hwz OF ⊢
 replace M:Mm w0 ((R,[[Value.int .i64 e],row .u8 32 r,row .u8 32 (yof r),row .u8 32 a,[Value.int .i64 m2]].flatten)::(B1,row .u8 32 r)::l) w6:=M
 replace M:Mm w0 ((R,[[Value.int .i64 e],row .u8 32 r,row .u8 32 (yof r),row .u8 32 a,[Value.int .i64 m2]].flatten)::l) w6:=M.sub _ (List.cons_sublist_cons.2 (List.Sublist.cons _ (List.Sublist.refl _)))
 replace M:Mm w0 ((R,pkf e r (yof r) a m2)::l) w6:=M
 exact ⟨rfl,.tuple #[],by kernel_rfl,rfl,M,OF⟩
def ymn (k:Kys):Int:=if k.has=true then 2 else 1
def ylk (k:Kys):Nat→Int:=if k.has=true then yof k.last else fun _=>0
theorem ymn_or (k:Kys):ymn k=1∨ymn k=2:=by unfold ymn; split <;> omega
def kck (k:Kys):List Value:=pkf k.e k.now (yof k.now) (ylk k) (ymn k)
theorem kyK_is (k:Kys) (n:Int):kyK k.e (ymn k) (yof k.now) (ylk k) n=ykK k n:=by
 unfold kyK ykK ymn ylk
 cases k.has <;> simp
theorem kyE_is (k:Kys) (n:Int):kyE k.e (ymn k) n=ykE k n:=by
 unfold kyE ykE ymn
 cases k.has <;> simp
theorem kat_any (w0 w:World) (l:List (Nat × List Value)) (r:Nat→Int) (n:Int) (hg:BGlob w0) (hr:In 256 32 r) (M:Mm w0 l w) :
 Calls Tryz.prog 32 #[.agg (row .u8 32 r).toArray,.int .i64 n] w fun e' w'=>∃ R,e'=.returned (.pointer (some ⟨R,0,none⟩))∧w.heap.size≤R∧Mm w0 ((R,kck (yat r n))::l) w'∧Below w.heap.size w w':=by
 have hb0:=M.below; have hwz:=xnR w.heap.size; have OF:=Off.refl [] w
 go_enter Tryz.func32,Tryz.ntmps32
 go_upto_region 0 with fail; refine wp_region_list ?_; have hlb:=(Below.refl w.heap.size w).alloc (xnR _) (.cells (row .u8 32 r).toArray 23); refine actL (w':=w.alloc (.cells (row .u8 32 r).toArray 23)) (.pointer (some ⟨w.heap.size,0,none⟩)) rfl (by kernel_rfl) ?_; simp only [aP,lI,l0,lS]; have hB_:=hwz; replace hwz:=xnT hwz hlb.size; replace OF:=OF.below hlb
 replace M:=M.box (row .u8 32 r).toArray 23 w.heap.size rfl; clear hlb; generalize w.alloc (.cells (row .u8 32 r).toArray 23)=w1 at M hwz OF ⊢; generalize eB_:w.heap.size=B1 at M ⊢
 have hB_B1:w.heap.size≤B1:=by rw [← eB_]; exact hB_
 clear hB_ eB_
 replace M:Mm w0 ((B1,row .u8 32 r)::l) w1:=M
 refine xpL (.pointer none) ?_; refine xT ?_; go_upto_region 1 with fail; refine wp_region_list ?_; refine xpL (.int .i64 n) ?_; refine xaL (.int .i64 (max n 0)) (maxI .i64 .i64 _ _ _ _ _ _ _ rfl rfl rfl (by split <;> omega) _) ?_; refine xaL (.int .i64 (max 0 (min n 65535))) (minI .i64 .i64 _ _ _ _ _ _ _ rfl rfl rfl (by split <;> omega) _) ?_
 refine xpL (.agg ([[Value.int .i64 (max 0 (min n 65535))],row .u8 32 (fun _=>0),row .u8 32 (fun _=>0),row .u8 32 (fun _=>0),[Value.int .i64 0]].flatten).toArray) ?_; have hlb:=(Below.refl w1.heap.size w1).alloc (xnR _) (.cells ([[Value.int .i64 (max 0 (min n 65535))],row .u8 32 (fun _=>0),row .u8 32 (fun _=>0),row .u8 32 (fun _=>0),[Value.int .i64 0]].flatten).toArray 58)
 refine actL (w':=w1.alloc (.cells ([[Value.int .i64 (max 0 (min n 65535))],row .u8 32 (fun _=>0),row .u8 32 (fun _=>0),row .u8 32 (fun _=>0),[Value.int .i64 0]].flatten).toArray 58)) (.pointer (some ⟨w1.heap.size,0,none⟩)) rfl (by kernel_rfl) ?_; simp only [aP,lI,l0,lS]; have hB_:=hwz; replace hwz:=xnT hwz hlb.size; replace OF:=OF.below hlb
 replace M:=M.box ([[Value.int .i64 (max 0 (min n 65535))],row .u8 32 (fun _=>0),row .u8 32 (fun _=>0),row .u8 32 (fun _=>0),[Value.int .i64 0]].flatten).toArray 58 w1.heap.size rfl; clear hlb
 generalize w1.alloc (.cells ([[Value.int .i64 (max 0 (min n 65535))],row .u8 32 (fun _=>0),row .u8 32 (fun _=>0),row .u8 32 (fun _=>0),[Value.int .i64 0]].flatten).toArray 58)=w2 at M hwz OF ⊢; generalize eB_:w1.heap.size=B2 at M ⊢
 have hB_B2:w.heap.size≤B2:=by rw [← eB_]; exact hB_
 clear hB_ eB_
 replace M:Mm w0 ((B2,[[Value.int .i64 (max 0 (min n 65535))],row .u8 32 (fun _=>0),row .u8 32 (fun _=>0),row .u8 32 (fun _=>0),[Value.int .i64 0]].flatten)::(B1,row .u8 32 r)::l) w2:=M
 refine xpL (.pointer (some ⟨B2,0,none⟩)) ?_; refine xT ?_; go_upto_region 2 with fail; refine wp_region_list ?_; refine xpL (.pointer (some ⟨B2,0,none⟩)) ?_; refine xaL (.agg (row .u8 32 r).toArray) (loadN 23 _ ⟨B1,0,none⟩ (row .u8 32 r) rfl rfl (fun _=>by kernel_rfl) (fun _=>by rw [row32]; kernel_rfl) (M.part (mT _ mS) 0 _ (by rw [List.drop_zero,List.take_length]))) ?_
 replace M:Mm w0 ((B2,[[Value.int .i64 (max 0 (min n 65535))],row .u8 32 (fun _=>0),row .u8 32 (fun _=>0),row .u8 32 (fun _=>0),[Value.int .i64 0]].flatten)::(B1,row .u8 32 r)::l) w2:=M
 refine xcL (ktake_any w0 _ B2 _ (max 0 (min n 65535)) 0 1 (fun _=>0) (fun _=>0) (fun _=>0) r hr (by omega) hg M) ?_; rintro e w3 ⟨rfl,M',o1⟩; clear M; have M:=M'; clear M'; replace hwz:=xnT hwz (Off.size o1); replace OF:=OF.and1 o1 (.inr (by omega)); clear o1; refine xeL ?_; refine xT ?_; go_upto_region 3 with fail; refine wp_region_list ?_
 refine xpL (.pointer (some ⟨B2,0,none⟩)) ?_; refine xpL (.pointer (some ⟨B2,0,none⟩)) ?_; refine xT ?_
 replace M:Mm w0 ((B2,[[Value.int .i64 (max 0 (min n 65535))],row .u8 32 r,row .u8 32 (yof r),row .u8 32 (fun _=>0),[Value.int .i64 1]].flatten)::l) w3:=M.sub _ (List.cons_sublist_cons.2 (List.Sublist.cons _ (List.Sublist.refl _)))
 have hbel:Below w.heap.size w w3:=⟨M.below.os.trans hb0.os.symm,M.below.tape.trans hb0.tape.symm,M.below.output.trans hb0.output.symm,OF.size,fun b hb=>OF.blk b hb (fun h=>by cases h)⟩
 replace M:Mm w0 ((B2,kck (yat r n))::l) w3:=M
 have HS:=show Hid _ from (And.intro hB_B2 (And.intro M hbel)); clear M OF hbel hB_B2; go_wp2; go_ret
 exact ⟨B2,rfl,HS.out⟩
def pkp (pre:List Value) (e:Int) (s a b:Nat→Int) (m:Int) (post:List Value):List Value:=[pre,[Value.int .i64 e],row .u8 32 s,row .u8 32 a,row .u8 32 b,[Value.int .i64 m],post].flatten
theorem pkp_two {o:Nat} (pre post:List Value) (ho:pre.length=o) {e m:Int} {s a b c d:Nat→Int}:setL [pre,[Value.int .i64 e],row .u8 32 s,row .u8 32 a,row .u8 32 b,[Value.int .i64 m],post].flatten (o+33) (row .u8 32 c++row .u8 32 d)=[pre,[Value.int .i64 e],row .u8 32 s,row .u8 32 c,row .u8 32 d,[Value.int .i64 m],post].flatten:=by
 have h5:∀ a b:List Value,[pre,[Value.int .i64 e],row .u8 32 s,a,b,[Value.int .i64 m],post].flatten=[pre,[Value.int .i64 e],row .u8 32 s,a++b,[Value.int .i64 m],post].flatten:=fun a b=>by simp
 rw [h5,h5,flat_set [pre,[Value.int .i64 e],row .u8 32 s,row .u8 32 a++row .u8 32 b,[Value.int .i64 m],post] [o,1,32,64,1,post.length] (by simp [row_length,ho]) 3 (o+33) (row .u8 32 a++row .u8 32 b) (row .u8 32 c++row .u8 32 d) rfl rfl (by simp [row_length])]
 rfl
theorem pepoch_any (w0 w:World) (R:Nat) (l:List (Nat × List Value)) (o:Nat) (pre post:List Value) (ho:pre.length=o) (e:Int) (s a b:Nat→Int) (m:Int) (M:Mm w0 ((R,pkp pre e s a b m post)::l) w) :
 Calls Tryz.prog 22 #[.pointer (some ⟨R,o,none⟩)] w fun e' w'=>e'=.returned (.int .i64 e)∧Below w.heap.size w w':=by
 replace M:Mm w0 ((R,[pre,[Value.int .i64 e],row .u8 32 s,row .u8 32 a,row .u8 32 b,[Value.int .i64 m],post].flatten)::l) w:=M
 have hb0:=M.below; have hwz:=xnR w.heap.size; have OF:=Off.refl [] w
 go_enter Tryz.func22,Tryz.ntmps22
 go_upto_region 0 with fail; refine wp_region_list ?_; refine xpL (.int .i64 0) ?_; refine xT ?_; go_upto_region 1 with fail; refine wp_region_list ?_; refine xpL (.pointer (some ⟨R,o,none⟩)) ?_; refine xpL (.pointer (some ⟨R,o,none⟩)) ?_; refine xpL (.pointer (some ⟨R,o,none⟩)) ?_
 refine xaL (.int .i64 e) (load1 3 _ ⟨R,o,none⟩ _ rfl rfl (fun _=>by kernel_rfl) (M.get mS o _ (flat_get _ [o,1,32,32,32,1,post.length] (by simp [row_length,ho]) 1 o _ rfl rfl))) ?_; refine xpL (.int .i64 e) ?_; refine xT ?_
 have hbel:Below w.heap.size w w:=⟨M.below.os.trans hb0.os.symm,M.below.tape.trans hb0.tape.symm,M.below.output.trans hb0.output.symm,OF.size,fun b hb=>OF.blk b hb (fun h=>by cases h)⟩
 have HS:=show Hid _ from hbel; clear M OF hbel; go_wp2; go_ret
 exact ⟨rfl,HS.out⟩
theorem pended_any (w0 w:World) (R:Nat) (l:List (Nat × List Value)) (o:Nat) (pre post:List Value) (ho:pre.length=o) (e:Int) (s a b:Nat→Int) (m:Int) (q:Bool) (hq:decide (e≥65535)=q) (M:Mm w0 ((R,pkp pre e s a b m post)::l) w) :
 Calls Tryz.prog 33 #[.pointer (some ⟨R,o,none⟩)] w fun e' w'=>e'=.returned (.bool q)∧Below w.heap.size w w':=by
 replace M:Mm w0 ((R,[pre,[Value.int .i64 e],row .u8 32 s,row .u8 32 a,row .u8 32 b,[Value.int .i64 m],post].flatten)::l) w:=M
 have hb0:=M.below; have hwz:=xnR w.heap.size; have OF:=Off.refl [] w
 go_enter Tryz.func33,Tryz.ntmps33
 go_upto_region 0 with fail; refine wp_region_list ?_; refine xpL (.bool false) ?_; refine xT ?_; go_upto_region 1 with fail; refine wp_region_list ?_; refine xpL (.pointer (some ⟨R,o,none⟩)) ?_; refine xpL (.pointer (some ⟨R,o,none⟩)) ?_; refine xpL (.pointer (some ⟨R,o,none⟩)) ?_
 refine xaL (.int .i64 e) (load1 3 _ ⟨R,o,none⟩ _ rfl rfl (fun _=>by kernel_rfl) (M.get mS o _ (flat_get _ [o,1,32,32,32,1,post.length] (by simp [row_length,ho]) 1 o _ rfl rfl))) ?_; refine xaL (.bool q) (geqI .i64 _ _ _ _ _ _ rfl rfl rfl q hq _) ?_; refine xpL (.bool q) ?_; refine xT ?_
 have hbel:Below w.heap.size w w:=⟨M.below.os.trans hb0.os.symm,M.below.tape.trans hb0.tape.symm,M.below.output.trans hb0.output.symm,OF.size,fun b hb=>OF.blk b hb (fun h=>by cases h)⟩
 have HS:=show Hid _ from hbel; clear M OF hbel; go_wp2; go_ret
 exact ⟨rfl,HS.out⟩
theorem ptake_any (w0 w:World) (R:Nat) (l:List (Nat × List Value)) (o:Nat) (pre post:List Value) (ho:pre.length=o) (e m m2:Int) (s a b:Nat→Int) (r:Nat→Int) (hr:In 256 32 r) (hm:0≤m∧m≤2∧m2=min (m+1) 2) (hg:BGlob w0) (M:Mm w0 ((R,pkp pre e s a b m post)::l) w) :
 Calls Tryz.prog 34 #[.pointer (some ⟨R,o,none⟩),.agg (row .u8 32 r).toArray] w fun e' w'=>e'=.returned (.tuple #[])∧Mm w0 ((R,pkp pre e r (yof r) a m2 post)::l) w'∧Off [R] w w':=by
 replace M:Mm w0 ((R,[pre,[Value.int .i64 e],row .u8 32 s,row .u8 32 a,row .u8 32 b,[Value.int .i64 m],post].flatten)::l) w:=M
 have hb0:=M.below; have hwz:=xnR w.heap.size; have OF:=Off.refl [R] w
 go_enter Tryz.func34,Tryz.ntmps34
 obtain ⟨hm0,hm1,hm2⟩:=hm
 go_upto_region 0 with fail; refine wp_region_list ?_; have hlb:=(Below.refl w.heap.size w).alloc (xnR _) (.cells (row .u8 32 r).toArray 23); refine actL (w':=w.alloc (.cells (row .u8 32 r).toArray 23)) (.pointer (some ⟨w.heap.size,0,none⟩)) rfl (by kernel_rfl) ?_; simp only [aP,lI,l0,lS]; have hB_:=hwz; replace hwz:=xnT hwz hlb.size; replace OF:=OF.below hlb
 replace M:=M.box (row .u8 32 r).toArray 23 w.heap.size rfl; clear hlb; generalize w.alloc (.cells (row .u8 32 r).toArray 23)=w1 at M hwz OF ⊢; generalize eB_:w.heap.size=B1 at M ⊢
 have hB_B1:w.heap.size≤B1:=by rw [← eB_]; exact hB_
 clear hB_ eB_
 replace M:Mm w0 ((B1,row .u8 32 r)::(R,[pre,[Value.int .i64 e],row .u8 32 s,row .u8 32 a,row .u8 32 b,[Value.int .i64 m],post].flatten)::l) w1:=M
 refine xT ?_; go_upto_region 1 with fail; refine wp_region_list ?_; refine xpL (.pointer (some ⟨R,o,none⟩)) ?_; refine xaL (.agg (row .u8 32 r).toArray) (loadN 23 _ ⟨B1,0,none⟩ (row .u8 32 r) rfl rfl (fun _=>by kernel_rfl) (fun _=>by rw [row32]; kernel_rfl) (M.part mS 0 _ (by rw [List.drop_zero,List.take_length]))) ?_; refine xpL (.pointer (some ⟨R,o,none⟩)) ?_
 refine xpL (.pointer (some ⟨R,(o+1),none⟩)) ?_; replace M:=M.swap
 refine skipOpL rfl (storeP (row .u8 32 r) R (o+1) 23 _ _ rfl rfl rfl (M.thereP mS (o+1) 32 (by rw [flat_len _ [o,1,32,32,32,1,post.length] (by simp [row_length,ho])]; first | decide | (simp only [List.sum_cons,List.sum_nil]; omega))) (by kernel_rfl) (row_one .u8 32 r)) ?_
 simp only [Act.put]; replace M:=M.setPart (row .u8 32 r) (o+1) (by rw [row32,flat_len _ [o,1,32,32,32,1,post.length] (by simp [row_length,ho])]; first | decide | (simp only [List.sum_cons,List.sum_nil]; omega))
 rw [flat_set _ [o,1,32,32,32,1,post.length] (by simp [row_length,ho]) 2 (o+1) _ (row .u8 32 r) rfl rfl (by rw [row32,row32])] at M
 replace hwz:=xnT hwz (Off.size ((Off.refl [R] _).setAll (b:=R) mS (o+1) (row .u8 32 r))); replace OF:=OF.and1 ((Off.refl [R] _).setAll (b:=R) mS (o+1) (row .u8 32 r)) (.inl (by simp)); generalize w1.setCells R (o+1) (row .u8 32 r)=w2 at M hwz OF ⊢
 replace M:Mm w0 ((R,[pre,[Value.int .i64 e],row .u8 32 r,row .u8 32 a,row .u8 32 b,[Value.int .i64 m],post].flatten)::(B1,row .u8 32 r)::l) w2:=M
 refine xT ?_; go_upto_region 2 with fail; refine wp_region_C (S:=fun w'=>Mm w0 ((R,[pre,[Value.int .i64 e],row .u8 32 r,row .u8 32 a,row .u8 32 b,[Value.int .i64 m],post].flatten)::(B1,row .u8 32 r)::l) w') 11 (by kernel_rfl) M.drew ?_; clear M; intro M; have hdr:=(Below.refl w2.heap.size w2).drew; replace hwz:=xnT hwz hdr.size; replace OF:=OF.below hdr; clear hdr
 generalize w2.drew=w3 at M hwz OF ⊢; refine readC (i:=0) (some 8) rfl (.pointer (some ⟨R,o,none⟩)) rfl rfl (by kernel_rfl) rfl (fun _ M=>(by kernel_rfl)) (by kernel_rfl) (by kernel_rfl) (by kernel_rfl) (by kernel_rfl) (fun _ _ _ h=>h) M ?_; simp only [aP,lI,l0,lS]
 refine readC (i:=1) (some 9) rfl (.agg (row .u8 32 r).toArray) rfl rfl (by kernel_rfl) rfl (fun _ M=>loadN 23 _ ⟨B1,0,none⟩ (row .u8 32 r) rfl rfl (fun _=>by kernel_rfl) (fun _=>by rw [row32]; kernel_rfl) (M.part (mT _ mS) 0 _ (by rw [List.drop_zero,List.take_length]))) (by kernel_rfl) (by kernel_rfl) (by kernel_rfl) (by kernel_rfl) (fun _ _ _ h=>h) M ?_; simp only [aP,lI,l0,lS]
 refine readC (i:=3) (some 11) rfl (.pointer (some ⟨R,o,none⟩)) rfl rfl (by kernel_rfl) rfl (fun _ M=>(by kernel_rfl)) (by kernel_rfl) (by kernel_rfl) (by kernel_rfl) (by kernel_rfl) (fun _ _ _ h=>h) M ?_; simp only [aP,lI,l0,lS]
 refine readC (i:=4) (some 12) rfl (.pointer (some ⟨R,o,none⟩)) rfl rfl (by kernel_rfl) rfl (fun _ M=>(by kernel_rfl)) (by kernel_rfl) (by kernel_rfl) (by kernel_rfl) (by kernel_rfl) (fun _ _ _ h=>h) M ?_; simp only [aP,lI,l0,lS]
 refine readC (i:=5) (some 13) rfl (.pointer (some ⟨R,(o+33),none⟩)) rfl rfl (by kernel_rfl) rfl (fun _ M=>(by kernel_rfl)) (by kernel_rfl) (by kernel_rfl) (by kernel_rfl) (by kernel_rfl) (fun _ _ _ h=>h) M ?_; simp only [aP,lI,l0,lS]
 refine readC (i:=6) (some 14) rfl (.pointer (some ⟨R,(o+33),none⟩)) rfl rfl (by kernel_rfl) rfl (fun _ M=>(by kernel_rfl)) (by kernel_rfl) (by kernel_rfl) (by kernel_rfl) (by kernel_rfl) (fun _ _ _ h=>h) M ?_; simp only [aP,lI,l0,lS]
 refine readC (i:=7) (some 15) rfl (.agg (row .u8 32 a).toArray) rfl rfl (by kernel_rfl) rfl (fun _ M=>loadN 23 _ ⟨R,(o+33),none⟩ (row .u8 32 a) rfl rfl (fun _=>by kernel_rfl) (fun _=>by rw [row32]; kernel_rfl) (M.part mS (o+33) _ (flat_part _ [o,1,32,32,32,1,post.length] (by simp [row_length,ho]) 3 (o+33) _ rfl rfl))) (by kernel_rfl) (by kernel_rfl) (by kernel_rfl) (by kernel_rfl) (fun _ _ _ h=>h) M ?_
 simp only [aP,lI,l0,lS]; refine callMC (i:=2) (some 10) rfl (by kernel_rfl) rfl rfl (fun _=>by kernel_rfl) (kof_any r hr _ (hg.below M.below hg.size)) ?_; rintro e w4 ⟨rfl,l⟩; replace M:=M.call l; replace hwz:=xnT hwz l.size; replace OF:=OF.below l; clear l
 refine ⟨_,rfl,M,?_⟩
 simp only [aP,lI,l0,lS]; refine readC (i:=8) (some 16) rfl (.agg (row .u8 32 (yof r)++row .u8 32 a).toArray) rfl rfl (by kernel_rfl) rfl (fun _ M=>(by kernel_rfl)) (by kernel_rfl) (by kernel_rfl) (by kernel_rfl) (by kernel_rfl) (fun _ _ _ h=>h) M ?_; simp only [aP,lI,l0,lS]; refine xqC 9 17 rfl (.pointer (some ⟨R,o,none⟩)) (fun _=>(by kernel_rfl)) M ?_
 refine readC (i:=10) (some 18) rfl (.pointer (some ⟨R,(o+33),none⟩)) rfl rfl (by kernel_rfl) rfl (fun _ M=>(by kernel_rfl)) (by kernel_rfl) (by kernel_rfl) (by kernel_rfl) (by kernel_rfl) (fun _ _ _ h=>h) M ?_; simp only [aP,lI,l0,lS]
 refine skipC (S2:=fun _=>True) none rfl (by kernel_rfl) rfl rfl (storeP (row .u8 32 (yof r)++row .u8 32 a) R (o+33) 56 _ _ rfl rfl rfl (M.thereP mS (o+33) 64 (by rw [flat_len _ [o,1,32,32,32,1,post.length] (by simp [row_length,ho])]; first | decide | (simp only [List.sum_cons,List.sum_nil]; omega))) (by kernel_rfl) (two_one _ _)) (by kernel_rfl) ?_
 simp only [Act.put]; replace M:=M.setPart (row .u8 32 (yof r)++row .u8 32 a) (o+33) (by rw [two_len,flat_len _ [o,1,32,32,32,1,post.length] (by simp [row_length,ho])]; first | decide | (simp only [List.sum_cons,List.sum_nil]; omega))
 rw [pkp_two _ _ ho] at M
 replace hwz:=xnT hwz (Off.size ((Off.refl [R] _).setAll (b:=R) mS (o+33) (row .u8 32 (yof r)++row .u8 32 a))); replace OF:=OF.and1 ((Off.refl [R] _).setAll (b:=R) mS (o+33) (row .u8 32 (yof r)++row .u8 32 a)) (.inl (by simp)); generalize w4.setCells R (o+33) (row .u8 32 (yof r)++row .u8 32 a)=w5 at M hwz OF ⊢
 replace M:Mm w0 ((R,[pre,[Value.int .i64 e],row .u8 32 r,row .u8 32 (yof r),row .u8 32 a,[Value.int .i64 m],post].flatten)::(B1,row .u8 32 r)::l) w5:=M
 refine wpAnyH_done (by kernel_rfl) ?_ _
 first | show Exit.then _ _ _ _ _ | show Exit.inBlock _ _ _ _ _
 go_upto_region 3 with fail; refine wp_region_list ?_; refine xpL (.pointer (some ⟨R,o,none⟩)) ?_; refine xpL (.pointer (some ⟨R,o,none⟩)) ?_; refine xpL (.pointer (some ⟨R,o,none⟩)) ?_; refine xpL (.pointer (some ⟨R,(o+97),none⟩)) ?_
 refine xaL (.int .i64 m) (load1 3 _ ⟨R,(o+97),none⟩ _ rfl rfl (fun _=>by kernel_rfl) (M.get mS (o+97) _ (flat_get _ [o,1,32,32,32,1,post.length] (by simp [row_length,ho]) 5 (o+97) _ rfl rfl))) ?_; refine xaL (.int .i64 (m+1)) (addI .i64 _ _ _ _ _ _ _ rfl rfl rfl (by rw [xw6]; omega) _) ?_
 refine xaL (.int .i64 m2) (minI .i64 .i64 _ _ _ _ _ _ _ rfl rfl rfl (by split <;> omega) _) ?_; refine xpL (.pointer (some ⟨R,o,none⟩)) ?_; refine xpL (.pointer (some ⟨R,(o+97),none⟩)) ?_
 refine skipOpL rfl (storeAny (.int .i64 m2) R (o+97) 3 _ _ rfl rfl rfl rfl rfl (M.isSome mS (o+97) (by rw [flat_len _ [o,1,32,32,32,1,post.length] (by simp [row_length,ho])]; first | decide | (simp only [List.sum_cons,List.sum_nil]; omega))) (M.free mS (o+97) (by rw [flat_len _ [o,1,32,32,32,1,post.length] (by simp [row_length,ho])]; first | decide | (simp only [List.sum_cons,List.sum_nil]; omega))) (by kernel_rfl)) ?_
 simp only [Act.put]; replace M:=M.set (o+97) (by rw [flat_len _ [o,1,32,32,32,1,post.length] (by simp [row_length,ho])]; first | decide | (simp only [List.sum_cons,List.sum_nil]; omega)) (.int .i64 m2)
 rw [flat_set1 _ [o,1,32,32,32,1,post.length] (by simp [row_length,ho]) 5 (o+97) _ (.int .i64 m2) rfl rfl] at M
 replace hwz:=xnT hwz (Off.size ((Off.refl [R] _).set (b:=R) mS (o+97) (.int .i64 m2))); replace OF:=OF.and1 ((Off.refl [R] _).set (b:=R) mS (o+97) (.int .i64 m2)) (.inl (by simp)); generalize w5.setCell ⟨R,(o+97),none⟩ (.int .i64 m2)=w6 at M hwz OF ⊢
 replace M:Mm w0 ((R,[pre,[Value.int .i64 e],row .u8 32 r,row .u8 32 (yof r),row .u8 32 a,[Value.int .i64 m2],post].flatten)::(B1,row .u8 32 r)::l) w6:=M
 replace M:Mm w0 ((R,[pre,[Value.int .i64 e],row .u8 32 r,row .u8 32 (yof r),row .u8 32 a,[Value.int .i64 m2],post].flatten)::l) w6:=M.sub _ (List.cons_sublist_cons.2 (List.Sublist.cons _ (List.Sublist.refl _)))
 replace M:Mm w0 ((R,pkp pre e r (yof r) a m2 post)::l) w6:=M
 exact ⟨rfl,.tuple #[],by kernel_rfl,rfl,M,OF⟩
theorem pkey_any (w0 w:World) (R:Nat) (l:List (Nat × List Value)) (o:Nat) (pre post:List Value) (ho:pre.length=o) (e:Int) (s a b:Nat→Int) (m:Int) (he:0≤e∧e≤65535) (hm:m=1∨m=2) (n:Int) (M:Mm w0 ((R,pkp pre e s a b m post)::l) w) :
 Calls Tryz.prog 23 #[.pointer (some ⟨R,o,none⟩),.int .i64 n] w fun e' w'=>e'=.returned (.tuple #[.agg (row .u8 32 (kyK e m a b n)).toArray,.int .i64 (kyE e m n)])∧Below w.heap.size w w':=by
 replace M:Mm w0 ((R,[pre,[Value.int .i64 e],row .u8 32 s,row .u8 32 a,row .u8 32 b,[Value.int .i64 m],post].flatten)::l) w:=M
 have hb0:=M.below; have hwz:=xnR w.heap.size; have OF:=Off.refl [] w
 go_enter Tryz.func23,Tryz.ntmps23
 obtain ⟨he0,he1⟩:=he
 go_upto_region 0 with fail; refine wp_region_list ?_; have hlb:=(Below.refl w.heap.size w).alloc (xnR _) (.cells zu8_32 23); refine actL (w':=w.alloc (.cells zu8_32 23)) (.pointer (some ⟨w.heap.size,0,none⟩)) rfl (by kernel_rfl) ?_; simp only [aP,lI,l0,lS]; have hB_:=hwz; replace hwz:=xnT hwz hlb.size; replace OF:=OF.below hlb; replace M:=M.box zu8_32 23 w.heap.size rfl
 clear hlb; generalize w.alloc (.cells zu8_32 23)=w1 at M hwz OF ⊢; generalize eB_:w.heap.size=B1 at M ⊢
 have hB_B1:w.heap.size≤B1:=by rw [← eB_]; exact hB_
 clear hB_ eB_
 replace M:Mm w0 ((B1,row .u8 32 (fun _=>0))::(R,[pre,[Value.int .i64 e],row .u8 32 s,row .u8 32 a,row .u8 32 b,[Value.int .i64 m],post].flatten)::l) w1:=M
 refine xpL (.int .i64 0) ?_; refine xT ?_
 by_cases h1:n>e
 · go_upto_region 1 with fail
   refine wp_region_held_drew (S:=fun w'=>Mm w0 ((B1,row .u8 32 (fun _=>0))::(R,[pre,[Value.int .i64 e],row .u8 32 s,row .u8 32 a,row .u8 32 b,[Value.int .i64 m],post].flatten)::l) w') (by kernel_rfl) M.drew ?_; clear M; intro M; have hdr:=(Below.refl w1.heap.size w1).drew; replace hwz:=xnT hwz hdr.size; replace OF:=OF.below hdr; clear hdr
   generalize w1.drew=w2 at M hwz OF ⊢; refine xrH 0 6 rfl (.int .i64 n) (fun _ M=>(by kernel_rfl)) M ?_; refine xrH 1 7 rfl (.pointer (some ⟨R,o,none⟩)) (fun _ M=>(by kernel_rfl)) M ?_; refine xrH 2 8 rfl (.pointer (some ⟨R,o,none⟩)) (fun _ M=>(by kernel_rfl)) M ?_; refine xrH 3 9 rfl (.pointer (some ⟨R,o,none⟩)) (fun _ M=>(by kernel_rfl)) M ?_
   refine xrH 4 10 rfl (.int .i64 e) (fun _ M=>load1 3 _ ⟨R,o,none⟩ _ rfl rfl (fun _=>by kernel_rfl) (M.get (mT _ mS) o _ (flat_get _ [o,1,32,32,32,1,post.length] (by simp [row_length,ho]) 1 o _ rfl rfl))) M ?_; refine xrH 5 11 rfl (.bool true) (fun _ M=>gtrI .i64 _ _ _ _ _ _ rfl rfl rfl true (decide_eq_true (by omega)) _) M ?_
   refine xrH 6 12 rfl (.bool true) (fun _ M=>(by kernel_rfl)) M ?_; refine mayH (i:=7) (some 13) rfl false undef undef rfl rfl rfl (fun hc=>by cases hc) (by kernel_rfl) (by kernel_rfl) (by kernel_rfl) (fun _ _ _ h=>h) M ?_; simp only [aP,lI,l0,lS]
   refine mayH (i:=8) (some 14) rfl false undef undef rfl rfl rfl (fun hc=>by cases hc) (by kernel_rfl) (by kernel_rfl) (by kernel_rfl) (fun _ _ _ h=>h) M ?_; simp only [aP,lI,l0,lS]; refine mayH (i:=9) (some 15) rfl false undef undef rfl rfl rfl (fun hc=>by cases hc) (by kernel_rfl) (by kernel_rfl) (by kernel_rfl) (fun _ _ _ h=>h) M ?_; simp only [aP,lI,l0,lS]
   refine mayH (i:=10) (some 16) rfl false undef undef rfl rfl rfl (fun hc=>by cases hc) (by kernel_rfl) (by kernel_rfl) (by kernel_rfl) (fun _ _ _ h=>h) M ?_; simp only [aP,lI,l0,lS]; refine mayH (i:=11) (some 17) rfl false undef undef rfl rfl rfl (fun hc=>by cases hc) (by kernel_rfl) (by kernel_rfl) (by kernel_rfl) (fun _ _ _ h=>h) M ?_; simp only [aP,lI,l0,lS]
   refine mayH (i:=12) (some 18) rfl false undef undef rfl rfl rfl (fun hc=>by cases hc) (by kernel_rfl) (by kernel_rfl) (by kernel_rfl) (fun _ _ _ h=>h) M ?_; simp only [aP,lI,l0,lS]; refine mayH (i:=13) (some 19) rfl false undef undef rfl rfl rfl (fun hc=>by cases hc) (by kernel_rfl) (by kernel_rfl) (by kernel_rfl) (fun _ _ _ h=>h) M ?_; simp only [aP,lI,l0,lS]
   refine mayH (i:=14) (some 20) rfl false undef undef rfl rfl rfl (fun hc=>by cases hc) (by kernel_rfl) (by kernel_rfl) (by kernel_rfl) (fun _ _ _ h=>h) M ?_; simp only [aP,lI,l0,lS]; refine mayH (i:=15) (some 21) rfl false undef undef rfl rfl rfl (fun hc=>by cases hc) (by kernel_rfl) (by kernel_rfl) (by kernel_rfl) (fun _ _ _ h=>h) M ?_; simp only [aP,lI,l0,lS]
   refine mayH (i:=16) (some 22) rfl false undef undef rfl rfl rfl (fun hc=>by cases hc) (by kernel_rfl) (by kernel_rfl) (by kernel_rfl) (fun _ _ _ h=>h) M ?_; simp only [aP,lI,l0,lS]; refine mayH (i:=17) (some 23) rfl false undef undef rfl rfl rfl (fun hc=>by cases hc) (by kernel_rfl) (by kernel_rfl) (by kernel_rfl) (fun _ _ _ h=>h) M ?_; simp only [aP,lI,l0,lS]
   refine xrH 18 24 rfl (.bool true) (fun _ M=>(by kernel_rfl)) M ?_
   refine wpAnyH_done (by kernel_rfl) ?_ _
   first | show Exit.then _ _ _ _ _ | show Exit.inBlock _ _ _ _ _
   go_upto_region 2 with fail; refine wp_region_list ?_; refine xpL (.agg (row .u8 32 (fun _=>0)).toArray) ?_; refine skipOpL rfl (storeP (row .u8 32 (fun _=>0)) B1 0 23 _ _ rfl rfl rfl (M.thereP mS 0 32 (Nat.le_of_ble_eq_true rfl)) (by kernel_rfl) (row_one .u8 32 (fun _=>0))) ?_; simp only [Act.put]
   replace M:=M.setAll (row .u8 32 (fun _=>0)) (by first | (rw [row32,row32]; done) | (rw [row32]; rfl) | (rw [row32]; done)); replace hwz:=xnT hwz (Off.size ((Off.refl [B1] _).setAll (b:=B1) mS 0 (row .u8 32 (fun _=>0)))); replace OF:=OF.and1 ((Off.refl [B1] _).setAll (b:=B1) mS 0 (row .u8 32 (fun _=>0))) (.inr (by omega))
   generalize w2.setCells B1 0 (row .u8 32 (fun _=>0))=w3 at M hwz OF ⊢; refine xpL (.int .i64 150) ?_; refine xT ?_; have hK:=show Hid _ from kyK_none (a:=a) (b:=b) (m:=m) (show ¬ n=e by omega) (by omega); have hE:=show Hid _ from kyE_none (m:=m) (show ¬ n=e by omega) (by omega); have c1_:=M.part mS 0 (row .u8 32 (fun _=>0)) (by rw [List.drop_zero,List.take_length])
   have hbel:Below w.heap.size w w3:=⟨M.below.os.trans hb0.os.symm,M.below.tape.trans hb0.tape.symm,M.below.output.trans hb0.output.symm,OF.size,fun b hb=>OF.blk b hb (fun h=>by cases h)⟩
   clear M OF
   try clear h3
   try clear h31
   try clear h32
   try clear h2
   go_wp2; refine bodyPost_ret (v:=.tuple #[.agg (row .u8 32 (fun _=>0)).toArray,.int .i64 150]) (retCellTmp 4 5 23 ⟨B1,0,none⟩ (row .u8 32 (fun _=>0)) _ rfl rfl rfl (fun _=>by kernel_rfl) (fun _=>by rw [row32]; kernel_rfl) c1_) rfl ?_
   exact ⟨by rw [hK.out,hE.out],hbel⟩
 by_cases h2:n=e
 · go_upto_region 1 with fail
   refine wp_region_held_drew (S:=fun w'=>Mm w0 ((B1,row .u8 32 (fun _=>0))::(R,[pre,[Value.int .i64 e],row .u8 32 s,row .u8 32 a,row .u8 32 b,[Value.int .i64 m],post].flatten)::l) w') (by kernel_rfl) M.drew ?_; clear M; intro M; have hdr:=(Below.refl w1.heap.size w1).drew; replace hwz:=xnT hwz hdr.size; replace OF:=OF.below hdr; clear hdr
   generalize w1.drew=w4 at M hwz OF ⊢; refine xrH 0 6 rfl (.int .i64 n) (fun _ M=>(by kernel_rfl)) M ?_; refine xrH 1 7 rfl (.pointer (some ⟨R,o,none⟩)) (fun _ M=>(by kernel_rfl)) M ?_; refine xrH 2 8 rfl (.pointer (some ⟨R,o,none⟩)) (fun _ M=>(by kernel_rfl)) M ?_; refine xrH 3 9 rfl (.pointer (some ⟨R,o,none⟩)) (fun _ M=>(by kernel_rfl)) M ?_
   refine xrH 4 10 rfl (.int .i64 e) (fun _ M=>load1 3 _ ⟨R,o,none⟩ _ rfl rfl (fun _=>by kernel_rfl) (M.get (mT _ mS) o _ (flat_get _ [o,1,32,32,32,1,post.length] (by simp [row_length,ho]) 1 o _ rfl rfl))) M ?_; refine xrH 5 11 rfl (.bool false) (fun _ M=>gtrI .i64 _ _ _ _ _ _ rfl rfl rfl false (decide_eq_false (by omega)) _) M ?_
   refine xrH 6 12 rfl (.bool false) (fun _ M=>(by kernel_rfl)) M ?_; refine xrH 7 13 rfl (.int .i64 n) (fun _ M=>(by kernel_rfl)) M ?_; refine xrH 8 14 rfl (.pointer (some ⟨R,o,none⟩)) (fun _ M=>(by kernel_rfl)) M ?_; refine xrH 9 15 rfl (.pointer (some ⟨R,o,none⟩)) (fun _ M=>(by kernel_rfl)) M ?_; refine xrH 10 16 rfl (.pointer (some ⟨R,o,none⟩)) (fun _ M=>(by kernel_rfl)) M ?_
   refine xrH 11 17 rfl (.int .i64 e) (fun _ M=>load1 3 _ ⟨R,o,none⟩ _ rfl rfl (fun _=>by kernel_rfl) (M.get (mT _ mS) o _ (flat_get _ [o,1,32,32,32,1,post.length] (by simp [row_length,ho]) 1 o _ rfl rfl))) M ?_; refine xrH 12 18 rfl (.pointer (some ⟨R,o,none⟩)) (fun _ M=>(by kernel_rfl)) M ?_; refine xrH 13 19 rfl (.pointer (some ⟨R,o,none⟩)) (fun _ M=>(by kernel_rfl)) M ?_
   refine xrH 14 20 rfl (.pointer (some ⟨R,(o+97),none⟩)) (fun _ M=>(by kernel_rfl)) M ?_; refine xrH 15 21 rfl (.int .i64 m) (fun _ M=>load1 3 _ ⟨R,(o+97),none⟩ _ rfl rfl (fun _=>by kernel_rfl) (M.get (mT _ mS) (o+97) _ (flat_get _ [o,1,32,32,32,1,post.length] (by simp [row_length,ho]) 5 (o+97) _ rfl rfl))) M ?_
   refine xrH 16 22 rfl (.int .i64 (e-m)) (fun _ M=>subI .i64 _ _ _ _ _ _ _ rfl rfl rfl (by rw [xw6]; omega) _) M ?_; refine xrH 17 23 rfl (.bool false) (fun _ M=>leqI .i64 _ _ _ _ _ _ rfl rfl rfl false (decide_eq_false (by omega)) _) M ?_; refine xrH 18 24 rfl (.bool false) (fun _ M=>(by kernel_rfl)) M ?_
   refine wpAnyH_done (by kernel_rfl) ?_ _
   first | show Exit.then _ _ _ _ _ | show Exit.inBlock _ _ _ _ _
   go_upto_region 3 with fail; refine wp_region_held_drew (S:=fun w'=>∃ cs_,Mm w0 ((B1,cs_)::(R,[pre,[Value.int .i64 e],row .u8 32 s,row .u8 32 a,row .u8 32 b,[Value.int .i64 m],post].flatten)::l) w') (by kernel_rfl) ⟨_,M.drew⟩ ?_; intro _; replace M:=M.drew; have hdr:=(Below.refl w4.heap.size w4).drew; replace hwz:=xnT hwz hdr.size; replace OF:=OF.below hdr; clear hdr
   generalize w4.drew=w5 at M hwz OF ⊢; refine xrH 0 26 rfl (.pointer (some ⟨R,o,none⟩)) (fun _ ⟨_,M⟩=>(by kernel_rfl)) ⟨_,M⟩ ?_; refine xrH 1 27 rfl (.pointer (some ⟨R,o,none⟩)) (fun _ ⟨_,M⟩=>(by kernel_rfl)) ⟨_,M⟩ ?_; refine xrH 2 28 rfl (.pointer (some ⟨R,o,none⟩)) (fun _ ⟨_,M⟩=>(by kernel_rfl)) ⟨_,M⟩ ?_
   refine xrH 3 29 rfl (.pointer (some ⟨R,o,none⟩)) (fun _ ⟨_,M⟩=>(by kernel_rfl)) ⟨_,M⟩ ?_; refine xrH 4 30 rfl (.int .i64 e) (fun _ ⟨_,M⟩=>load1 3 _ ⟨R,o,none⟩ _ rfl rfl (fun _=>by kernel_rfl) (M.get (mT _ mS) o _ (flat_get _ [o,1,32,32,32,1,post.length] (by simp [row_length,ho]) 1 o _ rfl rfl))) ⟨_,M⟩ ?_
   refine xrH 5 31 rfl (.int .i64 n) (fun _ ⟨_,M⟩=>(by kernel_rfl)) ⟨_,M⟩ ?_; refine xrH 6 32 rfl (.int .i64 0) (fun _ ⟨_,M⟩=>subI .i64 _ _ _ _ _ _ _ rfl rfl rfl (by rw [xw6]; omega) _) ⟨_,M⟩ ?_; refine xrH 7 33 rfl (.pointer (some ⟨R,o,none⟩)) (fun _ ⟨_,M⟩=>(by kernel_rfl)) ⟨_,M⟩ ?_
   refine xrH 8 34 rfl (.pointer (some ⟨R,(o+33),none⟩)) (fun _ ⟨_,M⟩=>(by kernel_rfl)) ⟨_,M⟩ ?_; refine xrH 9 35 rfl (.pointer (some ⟨R,(o+33),none⟩)) (fun _ ⟨_,M⟩=>(by kernel_rfl)) ⟨_,M⟩ ?_
   refine xrH 10 36 rfl (.agg (row .u8 32 a).toArray) (fun _ ⟨_,M⟩=>loadN 23 _ ⟨R,(o+33),none⟩ (row .u8 32 a) rfl rfl (fun _=>by kernel_rfl) (fun _=>by rw [row32]; kernel_rfl) (M.part (mT _ mS) (o+33) _ (flat_part _ [o,1,32,32,32,1,post.length] (by simp [row_length,ho]) 3 (o+33) _ rfl rfl))) ⟨_,M⟩ ?_
   refine doesH (i:=11) none rfl (by kernel_rfl) rfl rfl (storeP (row .u8 32 a) B1 0 23 _ _ rfl rfl rfl (M.thereP mS 0 32 (Nat.le_of_ble_eq_true rfl)) (by kernel_rfl) (row_one .u8 32 a)) ⟨_,M.setAll (row .u8 32 a) (by first | (rw [row32,row32]; done) | (rw [row32]; rfl) | (rw [row32]; done))⟩ ?_
   simp only [Act.put]; replace M:=M.setAll (row .u8 32 a) (by first | (rw [row32,row32]; done) | (rw [row32]; rfl) | (rw [row32]; done)); replace hwz:=xnT hwz (Off.size ((Off.refl [B1] _).setAll (b:=B1) mS 0 (row .u8 32 a))); replace OF:=OF.and1 ((Off.refl [B1] _).setAll (b:=B1) mS 0 (row .u8 32 a)) (.inr (by omega)); generalize w5.setCells B1 0 (row .u8 32 a)=w6 at M hwz OF ⊢
   refine xrH 12 5 rfl (.int .i64 0) (fun _ ⟨_,M⟩=>(by kernel_rfl)) ⟨_,M⟩ ?_
   refine wpAnyH_done (by kernel_rfl) ?_ _
   first | show Exit.then _ _ _ _ _ | show Exit.inBlock _ _ _ _ _
   have hK:=show Hid _ from kyK_now (a:=a) (b:=b) (m:=m) h2; have hE:=show Hid _ from kyE_now (m:=m) h2; have c1_:=M.part mS 0 (row .u8 32 a) (by rw [List.drop_zero,List.take_length])
   have hbel:Below w.heap.size w w6:=⟨M.below.os.trans hb0.os.symm,M.below.tape.trans hb0.tape.symm,M.below.output.trans hb0.output.symm,OF.size,fun b hb=>OF.blk b hb (fun h=>by cases h)⟩
   clear M OF
   try clear h3
   try clear h31
   try clear h32
   try clear h2
   go_wp2; refine bodyPost_ret (v:=.tuple #[.agg (row .u8 32 a).toArray,.int .i64 0]) (retCellTmp 4 5 23 ⟨B1,0,none⟩ (row .u8 32 a) _ rfl rfl rfl (fun _=>by kernel_rfl) (fun _=>by rw [row32]; kernel_rfl) c1_) rfl ?_
   exact ⟨by rw [hK.out,hE.out],hbel⟩
 by_cases h3:n=e-1∧m=2
 · obtain ⟨h31,h32⟩:=id h3
   go_upto_region 1 with fail; refine wp_region_held_drew (S:=fun w'=>Mm w0 ((B1,row .u8 32 (fun _=>0))::(R,[pre,[Value.int .i64 e],row .u8 32 s,row .u8 32 a,row .u8 32 b,[Value.int .i64 m],post].flatten)::l) w') (by kernel_rfl) M.drew ?_; clear M; intro M; have hdr:=(Below.refl w1.heap.size w1).drew; replace hwz:=xnT hwz hdr.size; replace OF:=OF.below hdr; clear hdr
   generalize w1.drew=w7 at M hwz OF ⊢; refine xrH 0 6 rfl (.int .i64 n) (fun _ M=>(by kernel_rfl)) M ?_; refine xrH 1 7 rfl (.pointer (some ⟨R,o,none⟩)) (fun _ M=>(by kernel_rfl)) M ?_; refine xrH 2 8 rfl (.pointer (some ⟨R,o,none⟩)) (fun _ M=>(by kernel_rfl)) M ?_; refine xrH 3 9 rfl (.pointer (some ⟨R,o,none⟩)) (fun _ M=>(by kernel_rfl)) M ?_
   refine xrH 4 10 rfl (.int .i64 e) (fun _ M=>load1 3 _ ⟨R,o,none⟩ _ rfl rfl (fun _=>by kernel_rfl) (M.get (mT _ mS) o _ (flat_get _ [o,1,32,32,32,1,post.length] (by simp [row_length,ho]) 1 o _ rfl rfl))) M ?_; refine xrH 5 11 rfl (.bool false) (fun _ M=>gtrI .i64 _ _ _ _ _ _ rfl rfl rfl false (decide_eq_false (by omega)) _) M ?_
   refine xrH 6 12 rfl (.bool false) (fun _ M=>(by kernel_rfl)) M ?_; refine xrH 7 13 rfl (.int .i64 n) (fun _ M=>(by kernel_rfl)) M ?_; refine xrH 8 14 rfl (.pointer (some ⟨R,o,none⟩)) (fun _ M=>(by kernel_rfl)) M ?_; refine xrH 9 15 rfl (.pointer (some ⟨R,o,none⟩)) (fun _ M=>(by kernel_rfl)) M ?_; refine xrH 10 16 rfl (.pointer (some ⟨R,o,none⟩)) (fun _ M=>(by kernel_rfl)) M ?_
   refine xrH 11 17 rfl (.int .i64 e) (fun _ M=>load1 3 _ ⟨R,o,none⟩ _ rfl rfl (fun _=>by kernel_rfl) (M.get (mT _ mS) o _ (flat_get _ [o,1,32,32,32,1,post.length] (by simp [row_length,ho]) 1 o _ rfl rfl))) M ?_; refine xrH 12 18 rfl (.pointer (some ⟨R,o,none⟩)) (fun _ M=>(by kernel_rfl)) M ?_; refine xrH 13 19 rfl (.pointer (some ⟨R,o,none⟩)) (fun _ M=>(by kernel_rfl)) M ?_
   refine xrH 14 20 rfl (.pointer (some ⟨R,(o+97),none⟩)) (fun _ M=>(by kernel_rfl)) M ?_; refine xrH 15 21 rfl (.int .i64 m) (fun _ M=>load1 3 _ ⟨R,(o+97),none⟩ _ rfl rfl (fun _=>by kernel_rfl) (M.get (mT _ mS) (o+97) _ (flat_get _ [o,1,32,32,32,1,post.length] (by simp [row_length,ho]) 5 (o+97) _ rfl rfl))) M ?_
   refine xrH 16 22 rfl (.int .i64 (e-m)) (fun _ M=>subI .i64 _ _ _ _ _ _ _ rfl rfl rfl (by rw [xw6]; omega) _) M ?_; refine xrH 17 23 rfl (.bool false) (fun _ M=>leqI .i64 _ _ _ _ _ _ rfl rfl rfl false (decide_eq_false (by omega)) _) M ?_; refine xrH 18 24 rfl (.bool false) (fun _ M=>(by kernel_rfl)) M ?_
   refine wpAnyH_done (by kernel_rfl) ?_ _
   first | show Exit.then _ _ _ _ _ | show Exit.inBlock _ _ _ _ _
   go_upto_region 3 with fail; refine wp_region_held_drew (S:=fun w'=>∃ cs_,Mm w0 ((B1,cs_)::(R,[pre,[Value.int .i64 e],row .u8 32 s,row .u8 32 a,row .u8 32 b,[Value.int .i64 m],post].flatten)::l) w') (by kernel_rfl) ⟨_,M.drew⟩ ?_; intro _; replace M:=M.drew; have hdr:=(Below.refl w7.heap.size w7).drew; replace hwz:=xnT hwz hdr.size; replace OF:=OF.below hdr; clear hdr
   generalize w7.drew=w8 at M hwz OF ⊢; refine xrH 0 26 rfl (.pointer (some ⟨R,o,none⟩)) (fun _ ⟨_,M⟩=>(by kernel_rfl)) ⟨_,M⟩ ?_; refine xrH 1 27 rfl (.pointer (some ⟨R,o,none⟩)) (fun _ ⟨_,M⟩=>(by kernel_rfl)) ⟨_,M⟩ ?_; refine xrH 2 28 rfl (.pointer (some ⟨R,o,none⟩)) (fun _ ⟨_,M⟩=>(by kernel_rfl)) ⟨_,M⟩ ?_
   refine xrH 3 29 rfl (.pointer (some ⟨R,o,none⟩)) (fun _ ⟨_,M⟩=>(by kernel_rfl)) ⟨_,M⟩ ?_; refine xrH 4 30 rfl (.int .i64 e) (fun _ ⟨_,M⟩=>load1 3 _ ⟨R,o,none⟩ _ rfl rfl (fun _=>by kernel_rfl) (M.get (mT _ mS) o _ (flat_get _ [o,1,32,32,32,1,post.length] (by simp [row_length,ho]) 1 o _ rfl rfl))) ⟨_,M⟩ ?_
   refine xrH 5 31 rfl (.int .i64 n) (fun _ ⟨_,M⟩=>(by kernel_rfl)) ⟨_,M⟩ ?_; refine xrH 6 32 rfl (.int .i64 1) (fun _ ⟨_,M⟩=>subI .i64 _ _ _ _ _ _ _ rfl rfl rfl (by rw [xw6]; omega) _) ⟨_,M⟩ ?_; refine xrH 7 33 rfl (.pointer (some ⟨R,o,none⟩)) (fun _ ⟨_,M⟩=>(by kernel_rfl)) ⟨_,M⟩ ?_
   refine xrH 8 34 rfl (.pointer (some ⟨R,(o+33),none⟩)) (fun _ ⟨_,M⟩=>(by kernel_rfl)) ⟨_,M⟩ ?_; refine xrH 9 35 rfl (.pointer (some ⟨R,(o+65),none⟩)) (fun _ ⟨_,M⟩=>(by kernel_rfl)) ⟨_,M⟩ ?_
   refine xrH 10 36 rfl (.agg (row .u8 32 b).toArray) (fun _ ⟨_,M⟩=>loadN 23 _ ⟨R,(o+65),none⟩ (row .u8 32 b) rfl rfl (fun _=>by kernel_rfl) (fun _=>by rw [row32]; kernel_rfl) (M.part (mT _ mS) (o+65) _ (flat_part _ [o,1,32,32,32,1,post.length] (by simp [row_length,ho]) 4 (o+65) _ rfl rfl))) ⟨_,M⟩ ?_
   refine doesH (i:=11) none rfl (by kernel_rfl) rfl rfl (storeP (row .u8 32 b) B1 0 23 _ _ rfl rfl rfl (M.thereP mS 0 32 (Nat.le_of_ble_eq_true rfl)) (by kernel_rfl) (row_one .u8 32 b)) ⟨_,M.setAll (row .u8 32 b) (by first | (rw [row32,row32]; done) | (rw [row32]; rfl) | (rw [row32]; done))⟩ ?_
   simp only [Act.put]; replace M:=M.setAll (row .u8 32 b) (by first | (rw [row32,row32]; done) | (rw [row32]; rfl) | (rw [row32]; done)); replace hwz:=xnT hwz (Off.size ((Off.refl [B1] _).setAll (b:=B1) mS 0 (row .u8 32 b))); replace OF:=OF.and1 ((Off.refl [B1] _).setAll (b:=B1) mS 0 (row .u8 32 b)) (.inr (by omega)); generalize w8.setCells B1 0 (row .u8 32 b)=w9 at M hwz OF ⊢
   refine xrH 12 5 rfl (.int .i64 0) (fun _ ⟨_,M⟩=>(by kernel_rfl)) ⟨_,M⟩ ?_
   refine wpAnyH_done (by kernel_rfl) ?_ _
   first | show Exit.then _ _ _ _ _ | show Exit.inBlock _ _ _ _ _
   have hK:=show Hid _ from kyK_last (a:=a) (b:=b) h3.1 h3.2; have hE:=show Hid _ from kyE_last h3.1 h3.2; have c1_:=M.part mS 0 (row .u8 32 b) (by rw [List.drop_zero,List.take_length])
   have hbel:Below w.heap.size w w9:=⟨M.below.os.trans hb0.os.symm,M.below.tape.trans hb0.tape.symm,M.below.output.trans hb0.output.symm,OF.size,fun b hb=>OF.blk b hb (fun h=>by cases h)⟩
   clear M OF
   try clear h3
   try clear h31
   try clear h32
   try clear h2
   go_wp2; refine bodyPost_ret (v:=.tuple #[.agg (row .u8 32 b).toArray,.int .i64 0]) (retCellTmp 4 5 23 ⟨B1,0,none⟩ (row .u8 32 b) _ rfl rfl rfl (fun _=>by kernel_rfl) (fun _=>by rw [row32]; kernel_rfl) c1_) rfl ?_
   exact ⟨by rw [hK.out,hE.out],hbel⟩
 go_upto_region 1 with fail; refine wp_region_held_drew (S:=fun w'=>Mm w0 ((B1,row .u8 32 (fun _=>0))::(R,[pre,[Value.int .i64 e],row .u8 32 s,row .u8 32 a,row .u8 32 b,[Value.int .i64 m],post].flatten)::l) w') (by kernel_rfl) M.drew ?_; clear M; intro M; have hdr:=(Below.refl w1.heap.size w1).drew; replace hwz:=xnT hwz hdr.size; replace OF:=OF.below hdr; clear hdr
 generalize w1.drew=w10 at M hwz OF ⊢; refine xrH 0 6 rfl (.int .i64 n) (fun _ M=>(by kernel_rfl)) M ?_; refine xrH 1 7 rfl (.pointer (some ⟨R,o,none⟩)) (fun _ M=>(by kernel_rfl)) M ?_; refine xrH 2 8 rfl (.pointer (some ⟨R,o,none⟩)) (fun _ M=>(by kernel_rfl)) M ?_; refine xrH 3 9 rfl (.pointer (some ⟨R,o,none⟩)) (fun _ M=>(by kernel_rfl)) M ?_
 refine xrH 4 10 rfl (.int .i64 e) (fun _ M=>load1 3 _ ⟨R,o,none⟩ _ rfl rfl (fun _=>by kernel_rfl) (M.get (mT _ mS) o _ (flat_get _ [o,1,32,32,32,1,post.length] (by simp [row_length,ho]) 1 o _ rfl rfl))) M ?_; refine xrH 5 11 rfl (.bool false) (fun _ M=>gtrI .i64 _ _ _ _ _ _ rfl rfl rfl false (decide_eq_false (by omega)) _) M ?_
 refine xrH 6 12 rfl (.bool false) (fun _ M=>(by kernel_rfl)) M ?_; refine xrH 7 13 rfl (.int .i64 n) (fun _ M=>(by kernel_rfl)) M ?_; refine xrH 8 14 rfl (.pointer (some ⟨R,o,none⟩)) (fun _ M=>(by kernel_rfl)) M ?_; refine xrH 9 15 rfl (.pointer (some ⟨R,o,none⟩)) (fun _ M=>(by kernel_rfl)) M ?_; refine xrH 10 16 rfl (.pointer (some ⟨R,o,none⟩)) (fun _ M=>(by kernel_rfl)) M ?_
 refine xrH 11 17 rfl (.int .i64 e) (fun _ M=>load1 3 _ ⟨R,o,none⟩ _ rfl rfl (fun _=>by kernel_rfl) (M.get (mT _ mS) o _ (flat_get _ [o,1,32,32,32,1,post.length] (by simp [row_length,ho]) 1 o _ rfl rfl))) M ?_; refine xrH 12 18 rfl (.pointer (some ⟨R,o,none⟩)) (fun _ M=>(by kernel_rfl)) M ?_; refine xrH 13 19 rfl (.pointer (some ⟨R,o,none⟩)) (fun _ M=>(by kernel_rfl)) M ?_
 refine xrH 14 20 rfl (.pointer (some ⟨R,(o+97),none⟩)) (fun _ M=>(by kernel_rfl)) M ?_; refine xrH 15 21 rfl (.int .i64 m) (fun _ M=>load1 3 _ ⟨R,(o+97),none⟩ _ rfl rfl (fun _=>by kernel_rfl) (M.get (mT _ mS) (o+97) _ (flat_get _ [o,1,32,32,32,1,post.length] (by simp [row_length,ho]) 5 (o+97) _ rfl rfl))) M ?_
 refine xrH 16 22 rfl (.int .i64 (e-m)) (fun _ M=>subI .i64 _ _ _ _ _ _ _ rfl rfl rfl (by rw [xw6]; omega) _) M ?_; refine xrH 17 23 rfl (.bool true) (fun _ M=>leqI .i64 _ _ _ _ _ _ rfl rfl rfl true (decide_eq_true (by omega)) _) M ?_; refine xrH 18 24 rfl (.bool true) (fun _ M=>(by kernel_rfl)) M ?_
 refine wpAnyH_done (by kernel_rfl) ?_ _
 first | show Exit.then _ _ _ _ _ | show Exit.inBlock _ _ _ _ _
 go_upto_region 2 with fail; refine wp_region_list ?_; refine xpL (.agg (row .u8 32 (fun _=>0)).toArray) ?_; refine skipOpL rfl (storeP (row .u8 32 (fun _=>0)) B1 0 23 _ _ rfl rfl rfl (M.thereP mS 0 32 (Nat.le_of_ble_eq_true rfl)) (by kernel_rfl) (row_one .u8 32 (fun _=>0))) ?_; simp only [Act.put]
 replace M:=M.setAll (row .u8 32 (fun _=>0)) (by first | (rw [row32,row32]; done) | (rw [row32]; rfl) | (rw [row32]; done)); replace hwz:=xnT hwz (Off.size ((Off.refl [B1] _).setAll (b:=B1) mS 0 (row .u8 32 (fun _=>0)))); replace OF:=OF.and1 ((Off.refl [B1] _).setAll (b:=B1) mS 0 (row .u8 32 (fun _=>0))) (.inr (by omega))
 generalize w10.setCells B1 0 (row .u8 32 (fun _=>0))=w11 at M hwz OF ⊢; refine xpL (.int .i64 150) ?_; refine xT ?_; have hK:=show Hid _ from kyK_none (a:=a) (b:=b) (m:=m) h2 h3; have hE:=show Hid _ from kyE_none (m:=m) h2 h3; have c1_:=M.part mS 0 (row .u8 32 (fun _=>0)) (by rw [List.drop_zero,List.take_length])
 have hbel:Below w.heap.size w w11:=⟨M.below.os.trans hb0.os.symm,M.below.tape.trans hb0.tape.symm,M.below.output.trans hb0.output.symm,OF.size,fun b hb=>OF.blk b hb (fun h=>by cases h)⟩
 clear M OF
 try clear h3
 try clear h31
 try clear h32
 try clear h2
 go_wp2; refine bodyPost_ret (v:=.tuple #[.agg (row .u8 32 (fun _=>0)).toArray,.int .i64 150]) (retCellTmp 4 5 23 ⟨B1,0,none⟩ (row .u8 32 (fun _=>0)) _ rfl rfl rfl (fun _=>by kernel_rfl) (fun _=>by rw [row32]; kernel_rfl) c1_) rfl ?_
 exact ⟨by rw [hK.out,hE.out],hbel⟩
theorem pnext_any (w0 w:World) (R:Nat) (l:List (Nat × List Value)) (o:Nat) (pre post:List Value) (ho:pre.length=o) (e:Int) (s a b:Nat→Int) (m:Int) (hg:BGlob w0) (hs:In 256 32 s) (k:Kys) (hk1:k.e=e) (hk2:k.now=s) (M:Mm w0 ((R,pkp pre e s a b m post)::l) w) :
 Calls Tryz.prog 63 #[.pointer (some ⟨R,o,none⟩)] w fun e' w'=>e'=.returned (.tuple #[.agg (row .u8 32 (ynK k)).toArray,.int .i64 (ynE k)])∧Below w.heap.size w w':=by
 replace M:Mm w0 ((R,[pre,[Value.int .i64 e],row .u8 32 s,row .u8 32 a,row .u8 32 b,[Value.int .i64 m],post].flatten)::l) w:=M
 have hb0:=M.below; have hwz:=xnR w.heap.size; have OF:=Off.refl [] w
 go_enter Tryz.func63,Tryz.ntmps63
 go_upto_region 0 with fail; refine wp_region_list ?_; have hlb:=(Below.refl w.heap.size w).alloc (xnR _) (.cells zu8_32 23); refine actL (w':=w.alloc (.cells zu8_32 23)) (.pointer (some ⟨w.heap.size,0,none⟩)) rfl (by kernel_rfl) ?_; simp only [aP,lI,l0,lS]; have hB_:=hwz; replace hwz:=xnT hwz hlb.size; replace OF:=OF.below hlb; replace M:=M.box zu8_32 23 w.heap.size rfl
 clear hlb; generalize w.alloc (.cells zu8_32 23)=w1 at M hwz OF ⊢; generalize eB_:w.heap.size=B1 at M ⊢
 have hB_B1:w.heap.size≤B1:=by rw [← eB_]; exact hB_
 clear hB_ eB_
 replace M:Mm w0 ((B1,row .u8 32 (fun _=>0))::(R,[pre,[Value.int .i64 e],row .u8 32 s,row .u8 32 a,row .u8 32 b,[Value.int .i64 m],post].flatten)::l) w1:=M
 refine xpL (.int .i64 0) ?_; refine xT ?_
 by_cases h1:e≥65535
 · go_upto_region 1 with fail
   refine wp_region_list ?_; refine xpL (.pointer (some ⟨R,o,none⟩)) ?_; replace M:=M.swap; refine xcL (pended_any w0 _ R _ o pre post ho e s a b m true (decide_eq_true h1) M) ?_; rintro e w2 ⟨rfl,l⟩; replace M:=M.call l; replace hwz:=xnT hwz l.size; replace OF:=OF.below l; clear l; refine xeL ?_; refine xT ?_; go_upto_region 2 with fail; refine wp_region_list ?_
   refine xpL (.agg (row .u8 32 (fun _=>0)).toArray) ?_; replace M:=M.swap; refine skipOpL rfl (storeP (row .u8 32 (fun _=>0)) B1 0 23 _ _ rfl rfl rfl (M.thereP mS 0 32 (Nat.le_of_ble_eq_true rfl)) (by kernel_rfl) (row_one .u8 32 (fun _=>0))) ?_; simp only [Act.put]
   replace M:=M.setAll (row .u8 32 (fun _=>0)) (by first | (rw [row32,row32]; done) | (rw [row32]; rfl) | (rw [row32]; done)); replace hwz:=xnT hwz (Off.size ((Off.refl [B1] _).setAll (b:=B1) mS 0 (row .u8 32 (fun _=>0)))); replace OF:=OF.and1 ((Off.refl [B1] _).setAll (b:=B1) mS 0 (row .u8 32 (fun _=>0))) (.inr (by omega))
   generalize w2.setCells B1 0 (row .u8 32 (fun _=>0))=w3 at M hwz OF ⊢; refine xpL (.int .i64 6) ?_; refine xT ?_; have hK:=show Hid _ from (show ynK k=fun _=>0 from if_pos (by rw [hk1]; exact h1)); have hE:=show Hid _ from (show ynE k=6 from if_pos (by rw [hk1]; exact h1)); have c1_:=M.part mS 0 (row .u8 32 (fun _=>0)) (by rw [List.drop_zero,List.take_length])
   have hbel:Below w.heap.size w w3:=⟨M.below.os.trans hb0.os.symm,M.below.tape.trans hb0.tape.symm,M.below.output.trans hb0.output.symm,OF.size,fun b hb=>OF.blk b hb (fun h=>by cases h)⟩
   clear M OF
   try clear h3
   try clear h31
   try clear h32
   try clear h2
   go_wp2; refine bodyPost_ret (v:=.tuple #[.agg (row .u8 32 (fun _=>0)).toArray,.int .i64 6]) (retCellTmp 2 3 23 ⟨B1,0,none⟩ (row .u8 32 (fun _=>0)) _ rfl rfl rfl (fun _=>by kernel_rfl) (fun _=>by rw [row32]; kernel_rfl) c1_) rfl ?_
   exact ⟨by rw [hK.out,hE.out],hbel⟩
 go_upto_region 1 with fail; refine wp_region_list ?_; refine xpL (.pointer (some ⟨R,o,none⟩)) ?_; replace M:=M.swap; refine xcL (pended_any w0 _ R _ o pre post ho e s a b m false (decide_eq_false h1) M) ?_; rintro e w4 ⟨rfl,l⟩; replace M:=M.call l; replace hwz:=xnT hwz l.size; replace OF:=OF.below l; clear l; refine xeL ?_; refine xT ?_; go_upto_region 3 with fail
 refine wp_region_list ?_; refine xpL (.pointer (some ⟨R,o,none⟩)) ?_; refine xpL (.pointer (some ⟨R,o,none⟩)) ?_; refine xpL (.pointer (some ⟨R,(o+1),none⟩)) ?_
 refine xaL (.agg (row .u8 32 s).toArray) (loadN 23 _ ⟨R,(o+1),none⟩ (row .u8 32 s) rfl rfl (fun _=>by kernel_rfl) (fun _=>by rw [row32]; kernel_rfl) (M.part mS (o+1) _ (flat_part _ [o,1,32,32,32,1,post.length] (by simp [row_length,ho]) 2 (o+1) _ rfl rfl))) ?_; refine xcL (klater_any s hs _ (hg.below M.below hg.size)) ?_; rintro e w5 ⟨rfl,l⟩; replace M:=M.call l
 replace hwz:=xnT hwz l.size; replace OF:=OF.below l; clear l; refine xeL ?_; refine xcL (kof_any (ylt s) (ylt_in _) _ (hg.below M.below hg.size)) ?_; rintro e w6 ⟨rfl,l⟩; replace M:=M.call l; replace hwz:=xnT hwz l.size; replace OF:=OF.below l; clear l; refine xeL ?_; replace M:=M.swap
 refine skipOpL rfl (storeP (row .u8 32 (yof (ylt s))) B1 0 23 _ _ rfl rfl rfl (M.thereP mS 0 32 (Nat.le_of_ble_eq_true rfl)) (by kernel_rfl) (row_one .u8 32 (yof (ylt s)))) ?_; simp only [Act.put]; replace M:=M.setAll (row .u8 32 (yof (ylt s))) (by first | (rw [row32,row32]; done) | (rw [row32]; rfl) | (rw [row32]; done))
 replace hwz:=xnT hwz (Off.size ((Off.refl [B1] _).setAll (b:=B1) mS 0 (row .u8 32 (yof (ylt s))))); replace OF:=OF.and1 ((Off.refl [B1] _).setAll (b:=B1) mS 0 (row .u8 32 (yof (ylt s)))) (.inr (by omega)); generalize w6.setCells B1 0 (row .u8 32 (yof (ylt s)))=w7 at M hwz OF ⊢; refine xpL (.int .i64 0) ?_; refine xT ?_
 have hK:=show Hid _ from (show ynK k=yof (ylt s) from (if_neg (by rw [hk1]; exact h1)).trans (by rw [hk2])); have hE:=show Hid _ from (show ynE k=0 from if_neg (by rw [hk1]; exact h1)); have c1_:=M.part mS 0 (row .u8 32 (yof (ylt s))) (by rw [List.drop_zero,List.take_length])
 have hbel:Below w.heap.size w w7:=⟨M.below.os.trans hb0.os.symm,M.below.tape.trans hb0.tape.symm,M.below.output.trans hb0.output.symm,OF.size,fun b hb=>OF.blk b hb (fun h=>by cases h)⟩
 clear M OF
 try clear h3
 try clear h31
 try clear h32
 try clear h2
 go_wp2; refine bodyPost_ret (v:=.tuple #[.agg (row .u8 32 (yof (ylt s))).toArray,.int .i64 0]) (retCellTmp 2 3 23 ⟨B1,0,none⟩ (row .u8 32 (yof (ylt s))) _ rfl rfl rfl (fun _=>by kernel_rfl) (fun _=>by rw [row32]; kernel_rfl) c1_) rfl ?_
 exact ⟨by rw [hK.out,hE.out],hbel⟩
def kcp (pre:List Value) (k:Kys) (post:List Value):List Value:=pkp pre k.e k.now (yof k.now) (ylk k) (ymn k) post
theorem kcp_on {k:Kys} (pre post:List Value) (h:¬ 65535≤k.e):kcp pre (yad k) post=pkp pre (k.e+1) (ylt k.now) (yof (ylt k.now)) (yof k.now) 2 post:=by rw [yad_on h]; rfl
theorem padv_any (w0 w:World) (R:Nat) (l:List (Nat × List Value)) (o:Nat) (pre post:List Value) (ho:pre.length=o) (e:Int) (s a b:Nat→Int) (m:Int) (hg:BGlob w0) (hs:In 256 32 s) (he:0≤e∧e≤65535) (hm:m=1∨m=2) (k:Kys) (hk1:k.e=e) (hc:¬ 65535≤e→kcp pre (yad k) post=pkp pre (e+1) (ylt s) (yof (ylt s)) a 2 post) (hc0:kcp pre k post=pkp pre e s a b m post) (M:Mm w0 ((R,pkp pre e s a b m post)::l) w) :
 Calls Tryz.prog 18 #[.pointer (some ⟨R,o,none⟩)] w fun e' w'=>e'=.returned (.int .i64 (ynE k))∧Mm w0 ((R,kcp pre (yad k) post)::l) w'∧Off [R] w w':=by
 replace M:Mm w0 ((R,[pre,[Value.int .i64 e],row .u8 32 s,row .u8 32 a,row .u8 32 b,[Value.int .i64 m],post].flatten)::l) w:=M
 have hb0:=M.below; have hwz:=xnR w.heap.size; have OF:=Off.refl [R] w
 go_enter Tryz.func18,Tryz.ntmps18
 obtain ⟨he0,he1⟩:=he
 go_upto_region 0 with fail; refine wp_region_list ?_; refine xpL (.int .i64 0) ?_; refine xT ?_
 by_cases h1:e≥65535
 · go_upto_region 1 with fail
   refine wp_region_list ?_; refine xpL (.pointer (some ⟨R,o,none⟩)) ?_; refine xcL (pended_any w0 _ R _ o pre post ho e s a b m true (decide_eq_true h1) M) ?_; rintro e w1 ⟨rfl,l⟩; replace M:=M.call l; replace hwz:=xnT hwz l.size; replace OF:=OF.below l; clear l; refine xeL ?_; refine xT ?_; go_upto_region 2 with fail; refine wp_region_list ?_; refine xpL (.int .i64 6) ?_; refine xT ?_
   have hE:=show Hid _ from (show ynE k=6 from if_pos (by rw [hk1]; exact h1))
   replace M:Mm w0 ((R,kcp pre (yad k) post)::l) w1:=by rw [yad_end (by rw [hk1]; exact h1),hc0]; exact M
   have HS:=show Hid _ from (And.intro M OF); clear M OF hc hc0 hk1; go_wp2; go_ret
   exact ⟨by rw [hE.out]; rfl,HS.out.1,HS.out.2⟩
 go_upto_region 1 with fail; refine wp_region_list ?_; refine xpL (.pointer (some ⟨R,o,none⟩)) ?_; refine xcL (pended_any w0 _ R _ o pre post ho e s a b m false (decide_eq_false h1) M) ?_; rintro e w2 ⟨rfl,l⟩; replace M:=M.call l; replace hwz:=xnT hwz l.size; replace OF:=OF.below l; clear l; refine xeL ?_; refine xT ?_; go_upto_region 3 with fail; refine wp_region_list ?_
 refine xpL (.pointer (some ⟨R,o,none⟩)) ?_; refine xpL (.pointer (some ⟨R,o,none⟩)) ?_; refine xpL (.pointer (some ⟨R,o,none⟩)) ?_; refine xaL (.int .i64 e) (load1 3 _ ⟨R,o,none⟩ _ rfl rfl (fun _=>by kernel_rfl) (M.get mS o _ (flat_get _ [o,1,32,32,32,1,post.length] (by simp [row_length,ho]) 1 o _ rfl rfl))) ?_
 refine xaL (.int .i64 (e+1)) (addI .i64 _ _ _ _ _ _ _ rfl rfl rfl (by rw [xw6]; omega) _) ?_; refine xpL (.pointer (some ⟨R,o,none⟩)) ?_; refine xpL (.pointer (some ⟨R,o,none⟩)) ?_
 refine skipOpL rfl (storeAny (.int .i64 (e+1)) R o 3 _ _ rfl rfl rfl rfl rfl (M.isSome mS o (by rw [flat_len _ [o,1,32,32,32,1,post.length] (by simp [row_length,ho])]; first | decide | (simp only [List.sum_cons,List.sum_nil]; omega))) (M.free mS o (by rw [flat_len _ [o,1,32,32,32,1,post.length] (by simp [row_length,ho])]; first | decide | (simp only [List.sum_cons,List.sum_nil]; omega))) (by kernel_rfl)) ?_
 simp only [Act.put]; replace M:=M.set o (by rw [flat_len _ [o,1,32,32,32,1,post.length] (by simp [row_length,ho])]; first | decide | (simp only [List.sum_cons,List.sum_nil]; omega)) (.int .i64 (e+1))
 rw [flat_set1 _ [o,1,32,32,32,1,post.length] (by simp [row_length,ho]) 1 o _ (.int .i64 (e+1)) rfl rfl] at M
 replace hwz:=xnT hwz (Off.size ((Off.refl [R] _).set (b:=R) mS o (.int .i64 (e+1)))); replace OF:=OF.and1 ((Off.refl [R] _).set (b:=R) mS o (.int .i64 (e+1))) (.inl (by simp)); generalize w2.setCell ⟨R,o,none⟩ (.int .i64 (e+1))=w3 at M hwz OF ⊢
 replace M:Mm w0 ((R,[pre,[Value.int .i64 (e+1)],row .u8 32 s,row .u8 32 a,row .u8 32 b,[Value.int .i64 m],post].flatten)::l) w3:=M
 refine xT ?_; go_upto_region 4 with fail; refine wp_region_list ?_; refine xpL (.pointer (some ⟨R,o,none⟩)) ?_; refine xpL (.pointer (some ⟨R,o,none⟩)) ?_; refine xpL (.pointer (some ⟨R,o,none⟩)) ?_; refine xpL (.pointer (some ⟨R,(o+1),none⟩)) ?_
 refine xaL (.agg (row .u8 32 s).toArray) (loadN 23 _ ⟨R,(o+1),none⟩ (row .u8 32 s) rfl rfl (fun _=>by kernel_rfl) (fun _=>by rw [row32]; kernel_rfl) (M.part mS (o+1) _ (flat_part _ [o,1,32,32,32,1,post.length] (by simp [row_length,ho]) 2 (o+1) _ rfl rfl))) ?_; refine xcL (klater_any s hs _ (hg.below M.below hg.size)) ?_; rintro e w4 ⟨rfl,l⟩; replace M:=M.call l
 replace hwz:=xnT hwz l.size; replace OF:=OF.below l; clear l; refine xeL ?_
 replace M:Mm w0 ((R,[pre,[Value.int .i64 (e+1)],row .u8 32 s,row .u8 32 a,row .u8 32 b,[Value.int .i64 m],post].flatten)::l) w4:=M
 refine xcL (ptake_any w0 _ R _ o pre post ho (e+1) m 2 s a b (ylt s) (ylt_in _) (by omega) hg M) ?_; rintro e w5 ⟨rfl,M',o1⟩; clear M; have M:=M'; clear M'; replace hwz:=xnT hwz (Off.size o1); replace OF:=OF.and1 o1 (.inl (by simp)); clear o1; refine xeL ?_; refine xT ?_; go_upto_region 5 with fail; refine wp_region_list ?_; refine xpL (.int .i64 0) ?_; refine xT ?_
 have hE:=show Hid _ from (show ynE k=0 from if_neg (by rw [hk1]; exact h1))
 replace M:Mm w0 ((R,kcp pre (yad k) post)::l) w5:=by rw [hc h1]; exact M
 have HS:=show Hid _ from (And.intro M OF); clear M OF hc hc0 hk1; go_wp2; go_ret
 exact ⟨by rw [hE.out]; rfl,HS.out.1,HS.out.2⟩
section
section
variable {P:Program} {ops:Array Oper} {Q:Exit→Act→World→Prop} {md:Region.Mode}
theorem wpAnyH_more {S S':World→Prop} (h:∀ w,S' w→S w):∀ (n:Nat) (l:Array Bool) (a:Act) (w:World),wpAnyH P md ops Q S' n l a w→wpAnyH P md ops Q S n l a w
 | 0,_,_,_,H=>H
 | n+1,_,_,_,H=>⟨H.1,fun j hj=>wpOp_mono (fun a' w' h3=>⟨h w' h3.1,wpAnyH_more h n _ a' w' h3.2⟩) (H.2 j hj)⟩
end
end
section
open Go.RowKit Go.MapKept Go.ChangeMaps Go.WideShapes
def gcf (r:Int) (ko ki:Kys) (mc m0 m1:Option Nat):List Value:=[[Value.int .i64 r],kck ko,kck ki,[Value.map mc],[Value.map m0],[Value.map m1]].flatten
theorem kck_len (k:Kys):(kck k).length=98:=by unfold kck pkf; simp [row_length]
theorem gcf_out (r:Int) (ko ki:Kys) (mc m0 m1:Option Nat):gcf r ko ki mc m0 m1=kcp [.int .i64 r] ko (kck ki++[.map mc,.map m0,.map m1]):=by
 unfold gcf kcp pkp kck pkf
 simp
theorem gcf_inn (r:Int) (ko ki:Kys) (mc m0 m1:Option Nat):gcf r ko ki mc m0 m1=kcp (.int .i64 r::kck ko) ki [.map mc,.map m0,.map m1]:=by
 unfold gcf kcp pkp kck pkf
 simp
section
variable {w0 w:World} {R:Nat} {T:List (Nat × List Value)} {r:Int} {ko ki:Kys} {mc m0 m1:Option Nat}
theorem gout_epoch (M:Mm w0 ((R,gcf r ko ki mc m0 m1)::T) w):Calls Tryz.prog 22 #[.pointer (some ⟨R,1,none⟩)] w fun e' w'=>e'=.returned (.int .i64 ko.e)∧Below w.heap.size w w':=by
 rw [gcf_out] at M
 exact pepoch_any w0 w R T 1 _ _ rfl _ _ _ _ _ M
theorem ginn_len (r:Int) (ko:Kys):(Value.int .i64 r::kck ko).length=99:=by rw [List.length_cons,kck_len]
theorem ginn_epoch (M:Mm w0 ((R,gcf r ko ki mc m0 m1)::T) w):Calls Tryz.prog 22 #[.pointer (some ⟨R,99,none⟩)] w fun e' w'=>e'=.returned (.int .i64 ki.e)∧Below w.heap.size w w':=by
 rw [gcf_inn] at M
 exact pepoch_any w0 w R T 99 _ _ (ginn_len r ko) _ _ _ _ _ M
theorem gout_key (hw:KysW ko) (n:Int) (M:Mm w0 ((R,gcf r ko ki mc m0 m1)::T) w):Calls Tryz.prog 23 #[.pointer (some ⟨R,1,none⟩),.int .i64 n] w fun e' w'=>e'=.returned (.tuple #[.agg (row .u8 32 (ykK ko n)).toArray,.int .i64 (ykE ko n)])∧Below w.heap.size w w':=by
 rw [gcf_out] at M
 rw [← kyK_is,← kyE_is]
 exact pkey_any w0 w R T 1 _ _ rfl _ _ _ _ _ ⟨hw.lo,hw.hi⟩ (ymn_or ko) n M
theorem ginn_key (hw:KysW ki) (n:Int) (M:Mm w0 ((R,gcf r ko ki mc m0 m1)::T) w):Calls Tryz.prog 23 #[.pointer (some ⟨R,99,none⟩),.int .i64 n] w fun e' w'=>e'=.returned (.tuple #[.agg (row .u8 32 (ykK ki n)).toArray,.int .i64 (ykE ki n)])∧Below w.heap.size w w':=by
 rw [gcf_inn] at M
 rw [← kyK_is,← kyE_is]
 exact pkey_any w0 w R T 99 _ _ (ginn_len r ko) _ _ _ _ _ ⟨hw.lo,hw.hi⟩ (ymn_or ki) n M
theorem ginn_next (hg:BGlob w0) (hw:KysW ki) (M:Mm w0 ((R,gcf r ko ki mc m0 m1)::T) w):Calls Tryz.prog 63 #[.pointer (some ⟨R,99,none⟩)] w fun e' w'=>e'=.returned (.tuple #[.agg (row .u8 32 (ynK ki)).toArray,.int .i64 (ynE ki)])∧Below w.heap.size w w':=by
 rw [gcf_inn] at M
 exact pnext_any w0 w R T 99 _ _ (ginn_len r ko) _ _ _ _ _ hg hw.now ki rfl rfl M
theorem gout_adv (hg:BGlob w0) (hw:KysW ko) (M:Mm w0 ((R,gcf r ko ki mc m0 m1)::T) w):Calls Tryz.prog 18 #[.pointer (some ⟨R,1,none⟩)] w fun e' w'=>e'=.returned (.int .i64 (ynE ko))∧Mm w0 ((R,gcf r (yad ko) ki mc m0 m1)::T) w'∧Off [R] w w':=by
 rw [gcf_out] at M
 rw [gcf_out]
 exact padv_any w0 w R T 1 _ _ rfl _ _ _ _ _ hg hw.now ⟨hw.lo,hw.hi⟩ (ymn_or ko) ko rfl (kcp_on _ _) rfl M
theorem ginn_adv (hg:BGlob w0) (hw:KysW ki) (M:Mm w0 ((R,gcf r ko ki mc m0 m1)::T) w):Calls Tryz.prog 18 #[.pointer (some ⟨R,99,none⟩)] w fun e' w'=>e'=.returned (.int .i64 (ynE ki))∧Mm w0 ((R,gcf r ko (yad ki) mc m0 m1)::T) w'∧Off [R] w w':=by
 rw [gcf_inn] at M
 rw [gcf_inn]
 exact padv_any w0 w R T 99 _ _ (ginn_len r ko) _ _ _ _ _ hg hw.now ⟨hw.lo,hw.hi⟩ (ymn_or ki) ki rfl (kcp_on _ _) rfl M
end
theorem IM.below {P:Program} {k:TypeId} {w w':World} {b n:Nat} {f:Int→Option Value} (h:IM P k w b n f) (l:Below w.heap.size w w'):IM P k w' b n f:=h.bel l
section
variable {w w':World} {m:Option Nat} {f:Int→Option Value} {t e:TypeId} {o:Oper} {a:Act}
theorem lookNE (h:NM w m f) (ht:Tryz.prog.underlying t=some (.map 3 e)) (z:Value) (hz:∀ w,(zeroValue e).run Tryz.prog w=.ok z w) (x:Int) (hx:i64 x) (u:Value) (hu:(f x).getD z=u) (m' y:Operand) (ho:o.op=.lookup t m' y false) (hm:a.eval m'=.map m) (hy:a.eval y=.int .i64 x) :
 (execOp a.eval o).run Tryz.prog w=.ok (.value u) w:=by
 subst hu
 exact lookN h ht z hz x hx m' y ho hm hy
theorem lookOkNE (h:NM w m f) (ht:Tryz.prog.underlying t=some (.map 3 e)) (z:Value) (hz:∀ w,(zeroValue e).run Tryz.prog w=.ok z w) (x:Int) (hx:i64 x) (u:Value) (hu:(f x).getD z=u) (b:Bool) (hb:(f x).isSome=b) (m' y:Operand) (ho:o.op=.lookup t m' y true) (hm:a.eval m'=.map m) (hy:a.eval y=.int .i64 x) :
 (execOp a.eval o).run Tryz.prog w=.ok (.value (.tuple #[u,.bool b])) w:=by
 subst hu hb
 exact lookOkN h ht z hz x hx m' y ho hm hy
theorem putOpM {t:TypeId} {p q v:Value} (m' y u:Operand) (ho:o.op=.mapUpdate t m' y u) (hm:a.eval m'=p) (hy:a.eval y=q) (hu:a.eval u=v) (hr:(Instr.mapUpdate t p q v).run Tryz.prog w=.ok () w'):(execOp a.eval o).run Tryz.prog w=.ok .skip w':=by
 unfold execOp
 simp only [ho,hm,hy,hu,Sem.run_bind,hr,Result.andThen_ok,Sem.run_pure]
theorem clrOpM {t:TypeId} {p x:Value} (m':Operand) (ho:o.op=.call { callee:=.builtin .clear,args:=#[m'],argTypes:=#[t] }) (hm:a.eval m'=p) (hr:(Builtin.clear_ #[t] 0 #[p]).run Tryz.prog w=.ok x w'):(execOp a.eval o).run Tryz.prog w=.ok (.value x) w':=by
 have hr':(Builtin.clear_ #[t] o.type #[p]).run Tryz.prog w=.ok x w':=hr
 simp [execOp,ho,resolve,invoke,builtin,hm,hr']
theorem eqlMN (m:Option Nat) (t t' k e:TypeId) (x y:Operand) (b:Bool) (hb:m.isNone=b) (ho:o.op=.binOp .eql t x y t') (hx:a.eval x=.map m) (hy:a.eval y=.map none) (h:Tryz.prog.underlying t=some (.map k e)) (w:World):(execOp a.eval o).run Tryz.prog w=.ok (.value (.bool b)) w:=by
 subst hb
 unfold execOp
 simp only [ho,hx,hy,Sem.run_bind,eqGuard_at_map,run_eql_map_nil w t k e m h,Sem.run_pure,Result.andThen_ok]
theorem Mm.boxM {w0 w:World} {l:List (Nat × List Value)} (M:Mm w0 l w):Mm w0 ((w.heap.size,[])::l) (w.alloc (.map #[] 0)) :=
 (M.call ((Below.refl w.heap.size w).alloc (xnR _) _)).addB M.below.size (by simp) fun p hp e=>by
  have:=(M.rows p hp).2.2
  omega
end
theorem Cts.put {w':World} {b:Nat} {f:Int→Option Value} {cnt:Int→Int} {p n:Int} (hp:0≤p∧p≤255) (hI:IM Tryz.prog 3 w' b 257 (iput f p (.int .i64 n))) (hf:∀ x,(f x=none∧(¬ (0≤x∧x≤255)∨cnt x=0))∨((0≤x∧x≤255)∧f x=some (.int .i64 (cnt x)))):Cts w' (some b) (fun q=>if q=p then n else cnt q):=by
 refine ⟨iput f p (.int .i64 n),IM.bound hI ukI 256 fun x hx=>?_,fun x=>?_⟩
 · by_cases e:x=p
   · subst e; omega
   · rw [iput_other e] at hx
     rcases hf x with ⟨h,_⟩ | ⟨h,_⟩
     · rw [h] at hx; cases hx
     · omega
 · by_cases e:x=p
   · subst e
     rw [iput_same]
     exact .inr ⟨hp,by show _=some (Value.int .i64 (if x=x then n else cnt x)); rw [if_pos rfl]⟩
   · rw [iput_other e]
     show (f x=none∧(_∨(if x=p then n else cnt x)=0))∨_∧f x=some (.int .i64 (if x=p then n else cnt x))
     rw [if_neg e]
     exact hf x
theorem Cts.zero {w:World} {m:Option Nat} (h:NM w m (fun _=>none)):Cts w m (fun _=>0):=⟨_,h,fun _=>.inl ⟨rfl,.inr rfl⟩⟩
theorem Mm.aside {w0 w:World} {g t:List (Nat × List Value)} (M:Mm w0 (g++t) w) {x:List (Nat × List Value)} (hx:∀ p∈x,p∈t):∀ p∈x,p.1∉g.map Prod.fst:=fun p hp hm=>M.awayG hx p.1 hm (List.mem_map.2 ⟨p,hp,rfl⟩)
end
end Go.Proofs.YtknodedhcdpbiaaGreatDoor
