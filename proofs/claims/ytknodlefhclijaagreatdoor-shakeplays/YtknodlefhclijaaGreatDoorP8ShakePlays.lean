/- Texts of Shared Kt RefTrim RefA RefB RefC RefCanon RefAdd RefMul RefInvert, joined. -/
import Derived.Test.YtknodlefhclijaaGreatDoorP7ShakePlays
set_option maxRecDepth 20000
set_option maxHeartbeats 64000000
namespace Go.Proofs.YtknodlefhclijaaGreatDoor
open Go.RowKit
theorem j6a (k:Nat→Int) (hk:In 256 32 k) (w:World) (hg:kGlob w) (ht:Trs w) :
 Calls Tryz.prog 14 #[(.agg (row .u8 32 (k)).toArray)] w fun e w'=>∃ f:Nat→Int,e=.returned (.agg (row .u8 32 (f)).toArray)∧(In 256 32 f∧val 256 f 32=((tm k (one 9)).val:Int))∧Below w.heap.size w w':=by
 have K:=Kq.init w; replace K:=K.box 32 k 23 (w.heap.size) rfl; replace K:=K.make 32 jY 23 (w.heap.size+1) Jf (jK _ _ _ Jf).there
 go_enter Tryz.func14,Tryz.ntmps14
 go_upto_region 1 with fail; refine wR (yrL 32 k (w.heap.size) 0 Tryz.underlying23 (jJ _) (K.whole _ _ mS) ?_); refine xpL (.agg (row .u8 32 (one 9)).toArray) ?_; refine xcL (aE k (one 9) hk (vY 9 JG JG) _ (hg.below K.below hg.size) (ht.below K.below hg.size)) ?_
 rintro e w1 ⟨f,rfl,s,l⟩; replace K:=K.call l; clear l; refine xeL ?_; refine ysL .u8 32 f (w.heap.size+1) (K.roomy _ _ _ mS) (jV _) ?_; have HS:=show Hid _ from s; have hO:=(K.room _ mS).1; have hL:=(K.fill _ _ mS (row .u8 32 f)).below; clear K s; show Exit.then _ _ _ _ _; go_wp2
 exact bRq (v:=(.agg (row .u8 32 (f)).toArray)) (jQ Tryz.results14 rfl (Has.all hO .u8 f).range Tryz.underlying23 rfl (jJ _)) rfl ⟨f,rfl,HS.out,hL⟩
theorem q4s (x y:Int) (hx:0≤x∧x<256) (hy:0≤y∧y<256):(0≤bits BinOp.or IntKind.u8 x y∧bits BinOp.or IntKind.u8 x y<256)∧(bits BinOp.or IntKind.u8 x y=0↔(x=0∧y=0)):=by
 obtain ⟨x,rfl⟩:=xiN hx.1
 obtain ⟨y,rfl⟩:=xiN hy.1
 rw [u8_or_nat x y JK JK]
 have hb:x ||| y<2^8:=Nat.or_lt_two_pow JK JK
 have hz:=@Nat.or_eq_zero_iff x y
 refine ⟨⟨by omega,by omega⟩,⟨fun h=>?_,fun h=>?_⟩⟩
 · have:=hz.1 JK; omega
 have:=hz.2 ⟨by omega,by omega⟩; omega
theorem q1b (f:Nat→Int) (t:Nat) (h:t<32) (w:World):(Instr.index 23 (.agg (row .u8 32 f).toArray) (.int .i64 (t:Int))).run Tryz.prog w=.ok (.int .u8 (f t)) w:=by
 exact ZJ
theorem gT (f:Nat→Int) (hf:In 256 32 f):val 256 f 32=0↔∀ j,j<32→f j=0:=by
 constructor
 · intro h; exact hH 256 JG f (fun _=>0) 32 hf (fun _ _=>⟨Int.le_refl 0,Ve⟩) (by rw [h]; decide +kernel)
 intro h
 rw [qZ 256 32 (g:=fun _=>0) h]
 decide +kernel
theorem j5o (k u:Nat→Int) (hk:In 256 32 k) (hu:In 256 32 u) (w:World) (hg:kGlob w) (ht:Trs w) :
 Calls Tryz.prog 48 #[(.agg (row .u8 32 (k)).toArray),(.agg (row .u8 32 (u)).toArray)] w fun e w'=>∃ f:Nat→Int,e=.returned (.tuple #[(.agg (row .u8 32 (f)).toArray),.int .i64 (if tm k u=0 then 20 else 0)])∧(In 256 32 f∧val 256 f 32=((tm k u).val:Int))∧Below w.heap.size w w':=by
 have K:=Kq.init w; replace K:=K.box 32 k 23 (w.heap.size) rfl; replace K:=K.box 32 u 23 (w.heap.size+1) Jf; replace K:=K.make 32 jY 23 (w.heap.size+1+1) Jf (jK _ _ _ Jf).there
 go_enter Tryz.func48,Tryz.ntmps48
 go_upto_region 1 with fail; refine wR (yrL 32 k (w.heap.size) 0 Tryz.underlying23 (jJ _) (K.whole _ _ (mT _ mS)) ?_); refine yrL 32 u (w.heap.size+1) 0 Tryz.underlying23 (jJ _) (K.whole _ _ mS) ?_
 refine xcL (aE k u hk hu _ (hg.below K.below hg.size) (ht.below K.below hg.size)) ?_; rintro e w1 ⟨f,rfl,s,l⟩; replace K:=K.call l; clear l; refine xeL ?_; refine qH jY 23 rfl JW (nL ?_); refine ysL .u8 32 f (w1.heap.size) (yE (jK _ _ _ rfl).there) (jV _) ?_
 replace K:=K.fresh 32 f jY 23 (jK _ _ _ rfl).there; generalize ((w1.alloc (.cells jY 23)).setCells w1.heap.size 0 (row .u8 32 f))=w2 at K ⊢; generalize w1.heap.size=B at *; have hF:=K.get B 32 f mS; have HS:=show Hid _ from s; have hO:=(K.room _ mS).1; have hL:=K.below; have hL1:=(K.fill _ _ mS (row .u8 32 f)).below
 have hL2:=(K.fill _ _ mS (row .u8 32 (fun _=>0))).below; clear K s; show Exit.then _ _ _ _ _
 go_wp2_with (refine yl (hF) Tryz.underlying23 (jJ _) ?_)
 go_loopw [7,14] (fun so i w'=>∃ (t:Nat) (x:Int),t≤32∧i=.int .i64 t∧so=.int .u8 x∧(0≤x∧x<256)∧(x=0↔∀ j,j<t→f j=0)∧w'=w2) (fun _ i _=>32-(intOf i).toNat)
 case atStart=>exact ⟨0,0,by omega,rfl,rfl,by omega,by simp,rfl⟩
 case round =>
  obtain ⟨t,x,h32,rfl,rfl,hx,hz,rfl⟩:=hrel; by_cases hlt:t<32
  · have hy:=HS.out.1 t hlt; have ho:=q4s x (f t) hx hy; have HZ:=show Hid _ from hz; have hi:=q1b f t hlt; clear hz; go_wp2
    refine ⟨⟨t+1,_,by omega,by go_num,rfl,ho.1,?_,trivial⟩,by simp [intOf]; omega⟩; rw [ho.2,HZ.out]; constructor
    · intro h j hj; by_cases e:j=t
      · subst e; exact h.2
      exact h.1 j JK
    intro h; exact ⟨fun j hj=>h j JK,h t JK⟩
  obtain rfl:t=32:=by omega
  have hv:=(gT f HS.out.1).trans hz.symm; have hT:tm k u=0↔x=0:=by
   rw [← hv,HS.out.2]; constructor
   · intro h; rw [h]; rfl
   intro h; apply Fin.ext; show (tm k u).val=0
   omega
  by_cases h0:x=0
  · have hN:In 256 32 (fun _=>(0:Int))∧val 256 (fun _=>0) 32=((tm k u).val:Int):=⟨fun _ _=>⟨Int.le_refl 0,Ve⟩,by rw [hT.2 h0]; decide +kernel⟩
    have HT:=show Hid (tm k u=0) from hT.2 h0; have HN:=show Hid _ from hN; clear hN hT hv hz hlt h32 hx; subst h0
    go_wp2_with (refine ys .u8 32 (fun _=>0) (yE hO) (jV _) ?_); exact bRq (v:=.tuple #[(.agg (row .u8 32 (fun _=>0)).toArray),.int .i64 20]) (xN Tryz.results48 rfl rfl (Has.all hO .u8 (fun _=>0)).range Tryz.underlying23 rfl (jJ _)) rfl ⟨_,by first | rfl | rw [if_pos HT.out],by first | exact HN.out | (have h:=HN.out; rw [HT.out] at h; exact h),hL2⟩
  have he:(x == 0)=false:=by simp [h0]
  have HT:=show Hid (¬ tm k u=0) from fun h=>h0 (hT.1 h); clear hT hv hz hlt h32 hx h0
  go_wp2_with (first | (refine yl (hF) Tryz.underlying23 (jJ _) ?_) | (refine ys .u8 32 f (yE hO) (jV _) ?_)); exact bRq (v:=.tuple #[(.agg (row .u8 32 (f)).toArray),.int .i64 0]) (xN Tryz.results48 rfl rfl (Has.all hO .u8 f).range Tryz.underlying23 rfl (jJ _)) rfl ⟨_,by first | rfl | rw [if_neg HT.out],HS.out,hL1⟩
section
theorem Mm.atK {w0 w w':World} {l:List (Nat × List Value)} {b:Nat} {cs ds:List Value} (k:Nat) (M:Mm w0 l w) (hk:l[k]?=some (b,cs)) (H:∀ l',Mm w0 ((b,cs)::l') w→Mm w0 ((b,ds)::l') w'):Mm w0 (l.set k (b,ds)) w':=by
 obtain ⟨h,e⟩:=List.getElem?_eq_some_iff.1 hk
 have e1:l=l.take k++(b,cs)::l.drop (k+1):=by rw [← e,← List.drop_eq_getElem_cons h,List.take_append_drop]
 have M1:Mm w0 ((b,cs)::(l.take k++l.drop (k+1))) w:=M.perm (by rw (occs:=[1]) [e1]; exact List.perm_middle)
 rw [List.set_eq_take_append_cons_drop,if_pos h]
 exact (H _ M1).perm List.perm_middle.symm
theorem Mm.rowK {w0 w:World} {l:List (Nat × List Value)} {b:Nat} {f:Nat→Int} (k:Nat) (M:Mm w0 l w) (hk:l[k]?=some (b,row .u8 32 f)) (g:Nat→Int):Mm w0 (l.set k (b,row .u8 32 g)) (w.setCells b 0 (row .u8 32 g)) :=
 M.atK k hk fun _ h=>h.setAll _ (by rw [jX,jX])
theorem Mm.thereK {w0 w:World} {l:List (Nat × List Value)} {b:Nat} {f:Nat→Int} (k:Nat) (M:Mm w0 l w) (hk:l[k]?=some (b,row .u8 32 f)) (g:Nat→Int):w.there b 0 (row .u8 32 g).toArray.size :=
 M.thereP (List.mem_of_getElem? hk) 0 _ (by rw [List.size_toArray,jX,jX]; decide)
section
variable {ops:Array Oper} {Q:Exit→Act→World→Prop} {rest:List Oper} {a:Act} {w0 w:World} {l:List (Nat × List Value)} {id:Nat}
theorem ldT {o:Oper} {a':Act} {B:Nat} {f:Nat→Int} {x:Operand} (k:Nat) (M:Mm w0 l w) (hk:l[k]?=some (B,row .u8 32 f)) (hw:Region.wanted o (yielded ops a.tmps)=true) (ho:o.op=.load 23 x) (hx:a.eval x=.pointer (some ⟨B,0,none⟩)) (he:a.put o.dst (.agg (row .u8 32 (f)).toArray)=a') (h:wpList Tryz.prog ops Q rest a' w):wpList Tryz.prog ops Q (o::rest) a w:=by
 subst he
 exact q3e 32 f B 0 23 x _ hw ho hx Tryz.underlying23 rfl (jJ _) (fun j v hv=>by have:=M.part (List.mem_of_getElem? hk) 0 _ Jd j v hv; rw [Addr.add_mid] at this; exact this) h
theorem stT {o:Oper} {B:Nat} {f g:Nat→Int} {x y:Operand} (k:Nat) (M:Mm w0 l w) (hk:l[k]?=some (B,row .u8 32 f)) (hw:Region.wanted o (yielded ops a.tmps)=true) (ho:o.op=.store 23 x y) (hd:o.dst=none) (hx:a.eval x=.pointer (some ⟨B,0,none⟩)) (hy:a.eval y=(.agg (row .u8 32 (g)).toArray)) (h:∀ w',Mm w0 (l.set k (B,row .u8 32 g)) w'→wpList Tryz.prog ops Q rest a w'):wpList Tryz.prog ops Q (o::rest) a w:=by
 refine lK .u8 32 g B 23 x y hw ho hx hy (M.thereK k hk g) (jV _) ?_
 rw [hd]
 exact h _ (M.rowK k hk g)
theorem nwT {o o':Oper} {a':Nat→Act} {f:Nat→Int} {x y:Operand} (M:Mm w0 l w) (hw:Region.wanted o (yielded ops a.tmps)=true) (hv:∀ w:World,(execOp a.eval o).run Tryz.prog w=.ok (.value (.pointer (some ⟨w.heap.size,0,none⟩))) (w.alloc (.cells jY 23))) (he:∀ B,a.put o.dst (.pointer (some ⟨B,0,none⟩))=a' B)
 (hw':∀ B,Region.wanted o' (yielded ops (a' B).tmps)=true) (ho:o'.op=.store 23 x y) (hd:o'.dst=none) (hx:∀ B,(a' B).eval x=.pointer (some ⟨B,0,none⟩)) (hy:∀ B,(a' B).eval y=(.agg (row .u8 32 (f)).toArray)) (h:∀ w' B,Mm w0 ((B,row .u8 32 f)::l) w'→Q .normal (a' B) w'):wpList Tryz.prog ops Q [o,o'] a w:=by
 refine qH jY 23 hw hv ?_
 rw [he]
 have M1:Mm w0 ((w.heap.size,row .u8 32 (fun _=>0))::l) (w.alloc (.cells jY 23)):=M.box _ _ _ rfl
 exact stT 0 M1 rfl (hw' _) ho hd (hx _) (hy _) fun w' M2=>h _ _ M2
theorem q8p {o1 o2 o3:Oper} {a':Nat→Act} {x y:Operand} (f:Nat→Int) (M:Mm w0 l w) (h:∀ w' B,Mm w0 ((B,row .u8 32 f)::l) w'→Q .normal (a' B) w')
 (hops:ops=#[o1,o2,o3]:=by rfl) (h1:∀ w,(execOp a.eval o1).run Tryz.prog w=.ok (.value (.agg (row .u8 32 (f)).toArray)) w:=by intro _; kernel_rfl) (w1:Region.wanted o1 (yielded ops a.tmps)=true:=by kernel_rfl) (w2:Region.wanted o2 (yielded ops (a.put o1.dst (.agg (row .u8 32 (f)).toArray)).tmps)=true:=by kernel_rfl)
 (hv:∀ w:World,(execOp (a.put o1.dst (.agg (row .u8 32 (f)).toArray)).eval o2).run Tryz.prog w=.ok (.value (.pointer (some ⟨w.heap.size,0,none⟩))) (w.alloc (.cells jY 23)):=by intro _; kernel_rfl) (he:∀ B:Nat,(a.put o1.dst (.agg (row .u8 32 (f)).toArray)).put o2.dst (.pointer (some ⟨B,0,none⟩))=a' B:=by intro _; simp only [aP,lI,l0,lS] <;> rfl)
 (w3:∀ B,Region.wanted o3 (yielded ops (a' B).tmps)=true:=by intro _; kernel_rfl) (ho:o3.op=.store 23 x y:=by rfl) (hd:o3.dst=none:=by rfl) (hx:∀ B:Nat,(a' B).eval x=.pointer (some ⟨B,0,none⟩):=by intro _; kernel_rfl) (hy:∀ B,(a' B).eval y=(.agg (row .u8 32 (f)).toArray):=by intro _; kernel_rfl):Code.wp Tryz.prog (Code.region id ops false) Q a w:=by
 subst hops
 exact wR (j8f _ w1 h1 (nwT M w2 hv he w3 ho hd hx hy h))
theorem cpT {o1 o2 o3:Oper} {a':Nat→Act} {B0:Nat} {x1 x y:Operand} {f:Nat→Int} (i:Nat) (M:Mm w0 l w) (h:∀ w' B,Mm w0 ((B,row .u8 32 f)::l) w'→Q .normal (a' B) w')
 (hi:l[i]?=some (B0,row .u8 32 f):=by rfl) (hops:ops=#[o1,o2,o3]:=by rfl) (w1:Region.wanted o1 (yielded ops a.tmps)=true:=by kernel_rfl) (l1:o1.op=.load 23 x1:=by rfl) (x1':a.eval x1=.pointer (some ⟨B0,0,none⟩):=by kernel_rfl) (w2:Region.wanted o2 (yielded ops (a.put o1.dst (.agg (row .u8 32 (f)).toArray)).tmps)=true:=by kernel_rfl)
 (hv:∀ w:World,(execOp (a.put o1.dst (.agg (row .u8 32 (f)).toArray)).eval o2).run Tryz.prog w=.ok (.value (.pointer (some ⟨w.heap.size,0,none⟩))) (w.alloc (.cells jY 23)):=by intro _; kernel_rfl) (he:∀ B:Nat,(a.put o1.dst (.agg (row .u8 32 (f)).toArray)).put o2.dst (.pointer (some ⟨B,0,none⟩))=a' B:=by intro _; simp only [aP,lI,l0,lS] <;> rfl)
 (w3:∀ B,Region.wanted o3 (yielded ops (a' B).tmps)=true:=by intro _; kernel_rfl) (ho:o3.op=.store 23 x y:=by rfl) (hd:o3.dst=none:=by rfl) (hx:∀ B:Nat,(a' B).eval x=.pointer (some ⟨B,0,none⟩):=by intro _; kernel_rfl) (hy:∀ B,(a' B).eval y=(.agg (row .u8 32 (f)).toArray):=by intro _; kernel_rfl):Code.wp Tryz.prog (Code.region id ops false) Q a w:=by
 subst hops
 exact wR (ldT i M hi w1 l1 x1' rfl (nwT M w2 hv he w3 ho hd hx hy h))
theorem unT {o1 o2 o3 o4:Oper} {a':Nat→(Nat→Int)→Act} {B0:Nat} {x1 x y:Operand} {f:Nat→Int} {F:FuncId} {C:(Nat→Int)→Prop} (i:Nat) (M:Mm w0 l w) (hc:∀ w,Calls Tryz.prog F #[(.agg (row .u8 32 (f)).toArray)] w fun e w'=>∃ r,e=.returned (.agg (row .u8 32 (r)).toArray)∧C r∧Below w.heap.size w w') (h:∀ w' B r,C r→Mm w0 ((B,row .u8 32 r)::l) w'→Q .normal (a' B r) w')
 (hi:l[i]?=some (B0,row .u8 32 f):=by rfl) (hops:ops=#[o1,o2,o3,o4]:=by rfl) (w1:Region.wanted o1 (yielded ops a.tmps)=true:=by kernel_rfl) (l1:o1.op=.load 23 x1:=by rfl) (x1':a.eval x1=.pointer (some ⟨B0,0,none⟩):=by kernel_rfl) (w2:Region.wanted o2 (yielded ops (a.put o1.dst (.agg (row .u8 32 (f)).toArray)).tmps)=true:=by kernel_rfl)
 (hf:∀ w,(execOp (a.put o1.dst (.agg (row .u8 32 (f)).toArray)).eval o2).run Tryz.prog w=.ok (.enter F #[(.agg (row .u8 32 (f)).toArray)]) w:=by intro _; kernel_rfl) (w3:∀ r:Nat→Int,Region.wanted o3 (yielded ops ((a.put o1.dst (.agg (row .u8 32 (f)).toArray)).put o2.dst (.agg (row .u8 32 (r)).toArray)).tmps)=true:=by intro _; kernel_rfl)
 (hv:∀ (r:Nat→Int) (w:World),(execOp ((a.put o1.dst (.agg (row .u8 32 (f)).toArray)).put o2.dst (.agg (row .u8 32 (r)).toArray)).eval o3).run Tryz.prog w=.ok (.value (.pointer (some ⟨w.heap.size,0,none⟩))) (w.alloc (.cells jY 23)):=by intro _ _; kernel_rfl) (he:∀ (B:Nat) (r:Nat→Int),((a.put o1.dst (.agg (row .u8 32 (f)).toArray)).put o2.dst (.agg (row .u8 32 (r)).toArray)).put o3.dst (.pointer (some ⟨B,0,none⟩))=a' B r:=by intro _ _; simp only [aP,lI,l0,lS] <;> rfl)
 (w4:∀ B r,Region.wanted o4 (yielded ops (a' B r).tmps)=true:=by intro _ _; kernel_rfl) (ho:o4.op=.store 23 x y:=by rfl) (hd:o4.dst=none:=by rfl) (hx:∀ (B:Nat) r,(a' B r).eval x=.pointer (some ⟨B,0,none⟩):=by intro _ _; kernel_rfl) (hy:∀ B (r:Nat→Int),(a' B r).eval y=(.agg (row .u8 32 (r)).toArray):=by intro _ _; kernel_rfl):Code.wp Tryz.prog (Code.region id ops false) Q a w:=by
 subst hops
 exact wR (ldT i M hi w1 l1 x1' rfl (nD w2 hf (hc _) fun _ w' ⟨r,e,c,k⟩=>⟨_,e,nwT (M.call k) (w3 r) (hv r) (fun B=>he B r) (fun B=>w4 B r) ho hd (fun B=>hx B r) (fun B=>hy B r) fun w'' B M'=>h w'' B r c M'⟩))
theorem biT {o1 o2 o3 o4 o5:Oper} {a':Nat→(Nat→Int)→Act} {B0 B1:Nat} {x1 x2 x y:Operand} {f g:Nat→Int} {F:FuncId} {C:(Nat→Int)→Prop} (i j:Nat) (M:Mm w0 l w) (hc:∀ w,Calls Tryz.prog F #[(.agg (row .u8 32 (f)).toArray),(.agg (row .u8 32 (g)).toArray)] w fun e w'=>∃ r,e=.returned (.agg (row .u8 32 (r)).toArray)∧C r∧Below w.heap.size w w') (h:∀ w' B r,C r→Mm w0 ((B,row .u8 32 r)::l) w'→Q .normal (a' B r) w')
 (hi:l[i]?=some (B0,row .u8 32 f):=by rfl) (hj:l[j]?=some (B1,row .u8 32 g):=by rfl) (hops:ops=#[o1,o2,o3,o4,o5]:=by rfl) (w1:Region.wanted o1 (yielded ops a.tmps)=true:=by kernel_rfl) (l1:o1.op=.load 23 x1:=by rfl) (x1':a.eval x1=.pointer (some ⟨B0,0,none⟩):=by kernel_rfl)
 (w2:Region.wanted o2 (yielded ops (a.put o1.dst (.agg (row .u8 32 (f)).toArray)).tmps)=true:=by kernel_rfl) (l2:o2.op=.load 23 x2:=by rfl) (x2':(a.put o1.dst (.agg (row .u8 32 (f)).toArray)).eval x2=.pointer (some ⟨B1,0,none⟩):=by kernel_rfl) (w3:Region.wanted o3 (yielded ops ((a.put o1.dst (.agg (row .u8 32 (f)).toArray)).put o2.dst (.agg (row .u8 32 (g)).toArray)).tmps)=true:=by kernel_rfl)
 (hf:∀ w,(execOp ((a.put o1.dst (.agg (row .u8 32 (f)).toArray)).put o2.dst (.agg (row .u8 32 (g)).toArray)).eval o3).run Tryz.prog w=.ok (.enter F #[(.agg (row .u8 32 (f)).toArray),(.agg (row .u8 32 (g)).toArray)]) w:=by intro _; kernel_rfl) (w4:∀ r:Nat→Int,Region.wanted o4 (yielded ops (((a.put o1.dst (.agg (row .u8 32 (f)).toArray)).put o2.dst (.agg (row .u8 32 (g)).toArray)).put o3.dst (.agg (row .u8 32 (r)).toArray)).tmps)=true:=by intro _; kernel_rfl)
 (hv:∀ (r:Nat→Int) (w:World),(execOp (((a.put o1.dst (.agg (row .u8 32 (f)).toArray)).put o2.dst (.agg (row .u8 32 (g)).toArray)).put o3.dst (.agg (row .u8 32 (r)).toArray)).eval o4).run Tryz.prog w=.ok (.value (.pointer (some ⟨w.heap.size,0,none⟩))) (w.alloc (.cells jY 23)):=by intro _ _; kernel_rfl) (he:∀ (B:Nat) (r:Nat→Int),(((a.put o1.dst (.agg (row .u8 32 (f)).toArray)).put o2.dst (.agg (row .u8 32 (g)).toArray)).put o3.dst (.agg (row .u8 32 (r)).toArray)).put o4.dst (.pointer (some ⟨B,0,none⟩))=a' B r:=by intro _ _; simp only [aP,lI,l0,lS] <;> rfl)
 (w5:∀ B r,Region.wanted o5 (yielded ops (a' B r).tmps)=true:=by intro _ _; kernel_rfl) (ho:o5.op=.store 23 x y:=by rfl) (hd:o5.dst=none:=by rfl) (hx:∀ (B:Nat) r,(a' B r).eval x=.pointer (some ⟨B,0,none⟩):=by intro _ _; kernel_rfl) (hy:∀ B (r:Nat→Int),(a' B r).eval y=(.agg (row .u8 32 (r)).toArray):=by intro _ _; kernel_rfl):Code.wp Tryz.prog (Code.region id ops false) Q a w:=by
 subst hops
 exact wR (ldT i M hi w1 l1 x1' rfl (ldT j M hj w2 l2 x2' rfl (nD w3 hf (hc _) fun _ w' ⟨r,e,c,k⟩=>⟨_,e,nwT (M.call k) (w4 r) (hv r) (fun B=>he B r) (fun B=>w5 B r) ho hd (fun B=>hx B r) (fun B=>hy B r) fun w'' B M'=>h w'' B r c M'⟩)))
theorem asT {o1 o2 o3 o4:Oper} {a':(Nat→Int)→Act} {B0 B1 B2:Nat} {x1 x2 x y:Operand} {f g f2:Nat→Int} {F:FuncId} {C:(Nat→Int)→Prop} (i j k:Nat) (M:Mm w0 l w) (hc:∀ w,Calls Tryz.prog F #[(.agg (row .u8 32 (f)).toArray),(.agg (row .u8 32 (g)).toArray)] w fun e w'=>∃ r,e=.returned (.agg (row .u8 32 (r)).toArray)∧C r∧Below w.heap.size w w') (h:∀ w' r,C r→Mm w0 (l.set k (B2,row .u8 32 r)) w'→Q .normal (a' r) w')
 (hi:l[i]?=some (B0,row .u8 32 f):=by rfl) (hj:l[j]?=some (B1,row .u8 32 g):=by rfl) (hk:l[k]?=some (B2,row .u8 32 f2):=by rfl) (hops:ops=#[o1,o2,o3,o4]:=by rfl) (w1:Region.wanted o1 (yielded ops a.tmps)=true:=by kernel_rfl) (l1:o1.op=.load 23 x1:=by rfl) (x1':a.eval x1=.pointer (some ⟨B0,0,none⟩):=by kernel_rfl)
 (w2:Region.wanted o2 (yielded ops (a.put o1.dst (.agg (row .u8 32 (f)).toArray)).tmps)=true:=by kernel_rfl) (l2:o2.op=.load 23 x2:=by rfl) (x2':(a.put o1.dst (.agg (row .u8 32 (f)).toArray)).eval x2=.pointer (some ⟨B1,0,none⟩):=by kernel_rfl) (w3:Region.wanted o3 (yielded ops ((a.put o1.dst (.agg (row .u8 32 (f)).toArray)).put o2.dst (.agg (row .u8 32 (g)).toArray)).tmps)=true:=by kernel_rfl)
 (hf:∀ w,(execOp ((a.put o1.dst (.agg (row .u8 32 (f)).toArray)).put o2.dst (.agg (row .u8 32 (g)).toArray)).eval o3).run Tryz.prog w=.ok (.enter F #[(.agg (row .u8 32 (f)).toArray),(.agg (row .u8 32 (g)).toArray)]) w:=by intro _; kernel_rfl) (he:∀ (r:Nat→Int),((a.put o1.dst (.agg (row .u8 32 (f)).toArray)).put o2.dst (.agg (row .u8 32 (g)).toArray)).put o3.dst (.agg (row .u8 32 (r)).toArray)=a' r:=by intro _; simp only [aP,lI,l0,lS] <;> rfl)
 (w4:∀ r,Region.wanted o4 (yielded ops (a' r).tmps)=true:=by intro _; kernel_rfl) (ho:o4.op=.store 23 x y:=by rfl) (hd:o4.dst=none:=by rfl) (hx:∀ r,(a' r).eval x=.pointer (some ⟨B2,0,none⟩):=by intro _; kernel_rfl) (hy:∀ r:Nat→Int,(a' r).eval y=(.agg (row .u8 32 (r)).toArray):=by intro _; kernel_rfl):Code.wp Tryz.prog (Code.region id ops false) Q a w:=by
 subst hops
 refine wR (ldT i M hi w1 l1 x1' rfl (ldT j M hj w2 l2 x2' rfl (nD w3 hf (hc _) fun _ w' ⟨r,e,c,b⟩=>⟨_,e,?_⟩)))
 rw [he r]
 exact stT k (M.call b) hk (w4 r) ho hd (hx r) (hy r) fun w'' M'=>h w'' r c M'
theorem swT {o1 o2 o3 o4:Oper} {a':Act} {B0 B1:Nat} {x1 x2 x y x' y':Operand} {f g:Nat→Int} (i j:Nat) (M:Mm w0 l w) (h:∀ w',Mm w0 ((l.set j (B1,row .u8 32 f)).set i (B0,row .u8 32 g)) w'→Q .normal a' w')
 (hi:l[i]?=some (B0,row .u8 32 f):=by rfl) (hj:l[j]?=some (B1,row .u8 32 g):=by rfl) (hi':(l.set j (B1,row .u8 32 f))[i]?=some (B0,row .u8 32 f):=by rfl) (hops:ops=#[o1,o2,o3,o4]:=by rfl) (w1:Region.wanted o1 (yielded ops a.tmps)=true:=by kernel_rfl) (l1:o1.op=.load 23 x1:=by rfl) (x1':a.eval x1=.pointer (some ⟨B0,0,none⟩):=by kernel_rfl)
 (w2:Region.wanted o2 (yielded ops (a.put o1.dst (.agg (row .u8 32 (f)).toArray)).tmps)=true:=by kernel_rfl) (l2:o2.op=.load 23 x2:=by rfl) (x2':(a.put o1.dst (.agg (row .u8 32 (f)).toArray)).eval x2=.pointer (some ⟨B1,0,none⟩):=by kernel_rfl) (he:(a.put o1.dst (.agg (row .u8 32 (f)).toArray)).put o2.dst (.agg (row .u8 32 (g)).toArray)=a':=by simp only [aP,lI,l0,lS] <;> rfl)
 (w3:Region.wanted o3 (yielded ops a'.tmps)=true:=by kernel_rfl) (ho:o3.op=.store 23 x y:=by rfl) (hd:o3.dst=none:=by rfl) (hx:a'.eval x=.pointer (some ⟨B1,0,none⟩):=by kernel_rfl) (hy:a'.eval y=(.agg (row .u8 32 (f)).toArray):=by kernel_rfl)
 (w4:Region.wanted o4 (yielded ops a'.tmps)=true:=by kernel_rfl) (ho':o4.op=.store 23 x' y':=by rfl) (hd':o4.dst=none:=by rfl) (hx':a'.eval x'=.pointer (some ⟨B0,0,none⟩):=by kernel_rfl) (hy':a'.eval y'=(.agg (row .u8 32 (g)).toArray):=by kernel_rfl):Code.wp Tryz.prog (Code.region id ops false) Q a w:=by
 subst hops
 refine wR (ldT i M hi w1 l1 x1' rfl (ldT j M hj w2 l2 x2' rfl ?_))
 rw [he]
 exact stT j M hj w3 ho hd hx hy fun w' M'=>stT i M' hi' w4 ho' hd' hx' hy' fun w'' M''=>h w'' M''
end
end
theorem x2n:∀ x:Fin 256,bits BinOp.andNot IntKind.u8 (x.val:Int) 7=(x.val:Int)/8*8:=by decide +kernel
theorem x6l (x:Int) (h:0≤x∧x<256):bits BinOp.andNot IntKind.u8 x 7=x/8*8:=by
 obtain ⟨n,rfl⟩:=xiN h.1
 exact x2n ⟨n,by omega⟩
theorem j1v (k:Nat→Int) (hk:In 256 32 k) (w:World) :
 Calls Tryz.prog 61 #[(.agg (row .u8 32 (k)).toArray)] w fun e w'=>e=.returned (.agg (row .u8 32 (xC k)).toArray)∧Below w.heap.size w w':=by
 have a0:Has ((w.alloc (.cells (row .u8 32 k).toArray 23)).alloc (.cells jY 23)) w.heap.size .u8 32 k:=(Has.new w _ _ _ _ _ rfl).alloc _ Jf
 have z0:Has ((w.alloc (.cells (row .u8 32 k).toArray 23)).alloc (.cells jY 23)) (w.heap.size+1) .u8 32 (fun _=>0):=jK _ _ _ Jf
 have g0:Fr w 2 ((w.alloc (.cells (row .u8 32 k).toArray 23)).alloc (.cells jY 23)):=((Fr.refl w).alloc _).alloc _
 generalize hW:((w.alloc (.cells (row .u8 32 k).toArray 23)).alloc (.cells jY 23))=w1 at *; have c0:=a0.cell 0 JK; have f0:=a0.free 0 JK; have c1:=a0.cell 31 JK; have f1:=a0.free 31 JK; have e0:=x6l (k 0) (hk 0 JK); have e1:=aC (k 31) (hk 31 JK); have e2:=aX (k 31) (hk 31 JK)
 rw [e2] at e1
 have h2:=((a0.set 0 JK (k 0/8*8)).set 31 JK (k 31%64+64)).congr (g:=xC k) (fun j hj=>by
  unfold xC; by_cases e:j=31
  · subst e; rw [jP]; simp
  rw [jR _ _ _ _ e]; by_cases e0:j=0
  · subst e0; rw [jP]; simp
  rw [jR _ _ _ _ e0]; simp [e0,e])
 have hz:=(z0.set_other ⟨w.heap.size,0,none⟩ (.int .u8 (k 0/8*8)) Jf).set_other ⟨w.heap.size,31,none⟩ (.int .u8 (k 31%64+64)) Jf; have hL:=(((g0.set ⟨w.heap.size,0,none⟩ (.int .u8 (k 0/8*8)) Jf).set ⟨w.heap.size,31,none⟩ (.int .u8 (k 31%64+64)) Jf).setAll (w.heap.size+1) JK (row .u8 32 (xC k))).below
 go_enter Tryz.func61,Tryz.ntmps61
 go_upto_region 1 with fail; clear hW
 go_wp2_with (first | (refine yl (h2) Tryz.underlying23 (jJ _) ?_) | (refine ys .u8 32 (xC k) (yQ (hz)) (jV _) ?_))
 exact bRq (v:=(.agg (row .u8 32 (xC k)).toArray)) (jQ Tryz.results61 rfl (Has.all hz.there .u8 (xC k)).range Tryz.underlying23 rfl (jJ (xC k))) rfl ⟨rfl,hL⟩
abbrev kD:Int:=65536
def kpD:Nat→Int:=fun j=>if j=0 then 65517 else if j=15 then 32767 else 65535
theorem cM (j:Nat):0≤kpD j∧kpD j<65536:=by unfold kpD; split <;> (try split) <;> omega
theorem j5h:val kD kpD 16=kQ:=by decide
theorem zN (k:Nat) (hk:k<16) (w:World) :
 Calls Tryz.prog 94 #[.int .i64 (k:Int)] w fun e w'=>e=.returned (.int .i64 (kpD k))∧w'=w:=by
 by_cases h0:k=0
 · subst h0; go_enter Tryz.func94,Tryz.ntmps94; exact ZQ
 by_cases h1:k=15
 · subst h1; go_enter Tryz.func94,Tryz.ntmps94; exact ZQ
 have e0:((k:Int) == 0)=false:=by simp; omega
 have e1:((k:Int) == 15)=false:=by simp; omega
 have hp:kpD k=65535:=by unfold kpD; rw [if_neg h0,if_neg h1]
 rw [hp]
 clear hp
 go_enter Tryz.func94,Tryz.ntmps94
 exact ZQ
theorem wT (w:World) (t:TypeId) (b:Nat) (hb:b=w.heap.size):Has (w.alloc (.cells rZ t)) b .i64 32 (fun _=>0):=Has.new w .i64 32 (fun _=>0) t b hb
theorem made (w:World):(Instr.makeSlice 113 (.int .i64 32) (.int .i64 32)).run Tryz.prog w=.ok (.slice (some ⟨w.heap.size,0,none⟩) 32 32) (w.alloc (.cells rZ 3)):=by kernel_rfl
def xK (a:Nat→Int):Nat→Int:=fun j=>if j<16 then a (2*j)+256*a (2*j+1) else 0
theorem vJ (a:Nat→Int) (ha:In 256 32 a) (j:Nat):0≤xK a j∧xK a j<65536:=by
 unfold xK
 split
 · have h1:=ha (2*j) JK; have h2:=ha (2*j+1) JK; omega
 omega
theorem pZ (a:Nat→Int):∀ k,k≤16→val kD (xK a) k=val 256 a (2*k)
 | 0,_=>rfl
 | k+1,hk=>by
   have e:2*(k+1)=2*k+1+1:=by omega
   rw [e,xU,xU,xU,pZ a k JK]
   have e1:(256:Int)^(2*k)=kD^k:=by rw [Int.pow_mul,show (256:Int)^2=kD from by decide]
   have e2:(256:Int)^(2*k+1)=kD^k*256:=by rw [Int.pow_succ,e1]
   have e3:xK a k=a (2*k)+256*a (2*k+1):=by unfold xK; rw [if_pos JK]
   rw [e1,e2,e3,Int.mul_add,← Int.mul_assoc]
   omega
theorem kF (a:Nat→Int):val kD (xK a) 32=val 256 a 32:=by
 have h:=pZ a 16 (xnR _)
 rw [← h]
 simp [val,xK]
structure YInv (a:Nat→Int) (w:World) (k:Nat) (f:Nat→Int) (w':World):Prop where
 done:∀ j,j<k→f j=xK a j
 rest:∀ j,k≤j→f j=0
 ha:Has w' w.heap.size .u8 32 a
 ht:Has w' (w.heap.size+1) .i64 32 f
 fr:Fr w 2 w'
theorem YInv.step {a:Nat→Int} {w:World} {k:Nat} {f:Nat→Int} {w':World} (h:YInv a w k f w') (hk:k<16) :
 YInv a w (k+1) (upd f k (a (2*k)+256*a (2*k+1))) ((w'.setCell ⟨w.heap.size+1,k,none⟩ (.int .i64 (a (2*k)+256*a (2*k+1)))).drew):=by
 refine ⟨fun j hj=>?_,fun j hj=>?_,(h.ha.set_other _ _ Jf).drew,(h.ht.set k JK _).drew,(h.fr.set _ _ Jf).drew⟩
 · by_cases e:j=k
   · subst e; rw [jP]; unfold xK; rw [if_pos hk]
   exact Qm
 exact Qi
theorem uG (a:Nat→Int) (ha:In 256 32 a) (w:World) :
 Calls Tryz.prog 93 #[(.agg (row .u8 32 (a)).toArray)] w fun e w'=>∃ B:Nat,e=.returned (.slice (some ⟨B,0,none⟩) 32 32)∧(w.heap.size≤B∧B<w'.heap.size∧Has w' B .i64 32 (xK a))∧Below w.heap.size w w':=by
 have hmk:=made
 go_enter Tryz.func93,Tryz.ntmps93
 go_wp2
 go_loopw [4] (fun i w'=>∃ (k:Nat) (f:Nat→Int),k≤16∧i=.int .i64 k∧YInv a w k f w') (fun i _=>16-(intOf i).toNat)
 case atStart=>exact ⟨0,fun _=>0,by omega,rfl,⟨fun j hj=>by omega,fun _ _=>rfl,(Has.new w _ _ _ _ _ rfl).alloc _ Jf,wT _ _ _ Jf,((Fr.refl w).alloc _).alloc _⟩⟩
 case round =>
  obtain ⟨k,f,hk,rfl,hI⟩:=hrel; clear hmk; by_cases hlt:k<16
  · have HS:=show Hid _ from hI.step hlt
    have c1:=hI.ha.cell (2*k) JK; have c2:=hI.ha.cell (2*k+1) JK; have c3:=hI.ht.cell k JK; have f1:=hI.ht.free k JK; have i1:=ha (2*k) JK; have i2:=ha (2*k+1) JK; have g1:(0:Int)≤(k:Int):=by omega
    have g2:(k:Int)<16:=by omega
    have g3:(2*(k:Int)).toNat=2*k:=by omega
    have g4:(2*(k:Int)+1).toNat=2*k+1:=by omega
    clear hI; generalize a (2*k+1)=y at *; generalize a (2*k)=x at *; generalize f k=z at *; obtain ⟨x0,x1⟩:=i1; obtain ⟨y0,y1⟩:=i2; go_wp2; go_region; go_wp2; exact QW
  obtain rfl:k=16:=by omega
  have hd:=hI.ht.congr (g:=xK a) (fun j hj=>by
   by_cases e:j<16
   · exact hI.done j e
   rw [hI.rest j JK]; unfold xK; rw [if_neg e])
  go_wp2; go_ret; exact ⟨_,rfl,⟨by omega,by have:=hI.fr.size; omega,hd⟩,hI.fr.below⟩
theorem j5i (f g:Nat→Int):∀ n s,s<n→In kD n f→In kD n g→(∀ j,s<j→j<n→f j=g j)→f s<g s→val kD f n<val kD g n
 | 0,_,h,_,_,_,_=>by omega
 | n+1,s,h,hf,hg,he,hlt=>by
   rw [xU,xU]
   have hp:=vU kD JG n
   by_cases e:s=n
   · subst e
     have b1:=qE kD JG f s (fun j hj=>hf j JK); have b2:=qE kD JG g s (fun j hj=>hg j JK)
     have:kD^s*(f s+1)≤kD^s*g s:=Int.mul_le_mul_of_nonneg_left JK JK
     rw [Int.mul_add,Int.mul_one] at this
     omega
   · have ih:=j5i f g n s JK (fun j hj=>hf j JK) (fun j hj=>hg j JK) (fun j h1 h2=>he j h1 JK) hlt
     rw [he n JK JK]
     omega
structure x7c (f:Nat→Int) (B:Nat) (w:World) (t:Nat) (w':World):Prop where
 same:∀ j,t≤j→j<16→f j=kpD j
 ht:Has w' B .i64 32 f
 below:Below w.heap.size w w'
theorem sZ {w w':World} {n:Nat} (h:Below w.heap.size w w'):Below w.heap.size w (w'.drewN n):=⟨h.os,h.tape,h.output,h.size,h.block⟩
theorem Has.drewN {w:World} {b:Nat} {k:IntKind} {n:Nat} {f:Nat→Int} (h:Has w b k n f) {q:Nat}:Has (w.drewN q) b k n f:=⟨h.cell,h.free⟩
theorem j9u (f:Nat→Int) (B:Nat) (w:World) (hf:In kD 16 f) (ht:Has w B .i64 32 f) :
 Calls Tryz.prog 110 #[.slice (some ⟨B,0,none⟩) 32 32] w fun e w'=>e=.returned (.bool (decide (kQ≤val kD f 16)))∧Below w.heap.size w w':=by
 go_enter Tryz.func110,Tryz.ntmps110
 go_wp2
 go_loopw [3] (fun i w'=>∃ (t:Nat) (z:Int),t≤16∧z=(t:Int)-1∧i=.int .i64 z∧x7c f B w t w') (fun i _=>(intOf i+1).toNat)
 case atStart=>exact ⟨16,15,by omega,by decide,rfl,⟨fun j h1 h2=>by omega,ht,Below.refl _ _⟩⟩
 case round =>
  obtain ⟨t,z,hle,hz,rfl,hI⟩:=hrel; by_cases hlt:0<t
  · obtain ⟨s,rfl⟩:∃ s,t=s+1:=⟨t-1,by omega⟩
    obtain rfl:z=(s:Int):=by omega
    have c1:=hI.ht.cell s JK; have g1:(0:Int)≤(s:Int):=by omega
    have g2:(s:Int)<16:=by omega
    have g3:(s:Int)<32:=by omega
    have HI:=show Hid _ from hI
    have s16:s<16:=by omega
    clear hz hlt hI; by_cases he:f s=kpD s
    · have HE:=show Hid _ from he
      have hne:(f s != kpD s)=false:=by simp [he]
      clear he; go_wp2; go_quiet ((go_at_call 94; exact Calls.quiet_of_same (zN s s16 _))); go_wp2; go_roundw
      case rel=>exact ⟨s,(s:Int)-1,by omega,rfl,rfl,⟨fun j h1 h2=>by
       by_cases e:j=s
       · rw [e]; exact HE.out
       exact HI.out.same j JK h2,HI.out.ht.drewN,sZ HI.out.below⟩⟩
      case measure=>simp [intOf]
    have hr:decide (kpD s<f s)=decide (kQ≤val kD f 16):=by
     rw [← j5h]; by_cases hgt:kpD s<f s
     · have:=j5i kpD f 16 s JK (fun j _=>cM j) hf (fun j h1 h2=>(HI.out.same j JK h2).symm) hgt; rw [decide_eq_true hgt,decide_eq_true JK]
     have:=j5i f kpD 16 s JK hf (fun j _=>cM j) (fun j h1 h2=>HI.out.same j JK h2) JK; rw [decide_eq_false hgt,decide_eq_false JK]
    have HR:=show Hid _ from hr
    have hne:(f s != kpD s)=true:=by rw [bne_iff_ne]; exact he
    clear he hr; have HQ:=show Hid _ from (fun b (hb:decide (kpD s<f s)=b)=>HR.out.symm.trans hb); clear HR; go_wp2
    go_quiet ((go_at_call 94; exact Calls.quiet_of_same (zN s s16 _))); go_upto_region 5 with fail; have c2:(wr.drewN nq).cell? ⟨B,s,none⟩=some (.int .i64 (f s)):=c1; have l2:=sZ (n:=nq) HI.out.below; clear c1 hne HI; generalize wr.drewN nq=w2 at *; go_quiet ((go_at_call 94; exact Calls.quiet_of_same (zN s s16 _))); go_wp2; go_ret; exact ⟨by rw [HQ.out _ rfl]; rfl,sZ l2⟩
  obtain rfl:t=0:=by omega
  obtain rfl:z=-1:=by omega
  have hv:decide (kQ≤val kD f 16)=true:=by
   rw [← j5h,qZ kD (f:=f) (g:=kpD) 16 (fun j hj=>hI.same j JK hj)]; exact decide_eq_true (Int.le_refl _)
  have HV:=show Hid _ from hv; clear hv hz hlt hle; go_wp2; go_ret
  exact ⟨by rw [HV.out]; rfl,hI.below⟩
structure kRS (f:Nat→Int) (B:Nat) (w w':World):Prop where
 ht:Has w' B .i64 32 f
 hr:Has w' w.heap.size .u8 32 (fun _=>0)
 below:Below B w w'
 size:w.heap.size+1≤w'.heap.size
theorem kRS.drew {f:Nat→Int} {B:Nat} {w w':World} (h:kRS f B w w'):kRS f B w w'.drew:=⟨h.ht.drew,h.hr.drew,h.below.drew,h.size⟩
theorem kRS.drewN {f:Nat→Int} {B:Nat} {w w':World} (h:kRS f B w w') {q:Nat}:kRS f B w (w'.drewN q):=⟨h.ht.drewN,h.hr.drewN,⟨h.below.os,h.below.tape,h.below.output,h.below.size,h.below.block⟩,h.size⟩
theorem kRS.set {f:Nat→Int} {B:Nat} {w w':World} (h:kRS f B w w') (hB:B<w.heap.size) (k:Nat) (hk:k<32) (x:Int):kRS (upd f k x) B w (w'.setCell ⟨B,k,none⟩ (.int .i64 x)) :=
 ⟨h.ht.set k hk x,h.hr.set_other _ _ Ji,h.below.setCell Jf _,by have:=h.size; simp; omega⟩
theorem kRS.call {f:Nat→Int} {B:Nat} {w w' w'':World} (h:kRS f B w w') (hB:B<w.heap.size) (l:Below w'.heap.size w' w''):kRS f B w w'' :=
 ⟨h.ht.below l WX,h.hr.below l WX,h.below.trans (l.mono WX),by have:=h.size; have:=l.size; omega⟩
def F1 (f:Nat→Int) (m:Nat):Nat→Int:=fun j=>if j<m then f j+38*f (j+16) else f j
theorem q9y (f:Nat→Int) (m:Nat):upd (F1 f m) m (F1 f m m+38*F1 f m (m+16))=F1 f (m+1):=by
 funext j
 unfold upd F1
 by_cases e:j=m
 · subst e; have h:¬ j+16<j:=by omega
   simp [h]
 rw [if_neg e]
 by_cases h:j<m
 · rw [if_pos h,if_pos JK]
 rw [if_neg h,if_neg JK]
theorem val_add (M:Int) (f g:Nat→Int) (c:Int):∀ n,val M (fun j=>f j+c*g j) n=val M f n+c*val M g n
 | 0=>by simp [val]
 | n+1=>by
   simp only [val]
   rw [val_add M f g c n,Int.mul_add,Int.mul_add,Int.mul_left_comm]
   omega
theorem cE (M:Int) (f:Nat→Int) (n:Nat):∀ k,val M f (n+k)=val M f n+M^n*val M (fun j=>f (j+n)) k
 | 0=>by simp [val]
 | k+1=>by
   rw [← Nat.add_assoc,xU,xU,cE M f n k,Int.mul_add,← Int.mul_assoc,Int.pow_add,Nat.add_comm k n]
   omega
theorem D16:kD^16=115792089237316195423570985008687907853269984665640564039457584007913129639936:=by decide
theorem x4h (f:Nat→Int):val kD (F1 f 16) 16%kQ=val kD f 32%kQ:=by
 have e:val kD (F1 f 16) 16=val kD f 16+38*val kD (fun j=>f (j+16)) 16:=by
  rw [← val_add]; exact qZ kD 16 fun j hj=>by unfold F1; rw [if_pos hj]
 rw [e,cE kD f 16 16,D16]
 simp only [kQ]
 omega
def q4t (B:Nat) (w:World):Int:=val kD (fun j=>match w.cell? ⟨B,j,none⟩ with | some (.int _ n)=>n | _=>0) 16
theorem lN {w:World} {B:Nat} {f:Nat→Int} (h:Has w B .i64 32 f):q4t B w=val kD f 16:=qZ kD 16 fun j hj=>by rw [h.cell j JK]
def x2y (B:Nat) (r:Value) (w:World):Nat:=2*(q4t B w).toNat+(if 0<intOf r then 1 else 0)
def mu4 (B:Nat) (w:World):Nat:=(q4t B w).toNat
structure kR2 (v:Int) (r:Int) (f:Nat→Int) (B:Nat) (w w':World):Prop where
 r0:0≤r
 big:∀ j,j<16→0≤f j∧f j≤70368744177664
 eq:val kD f 16%kQ=v%kQ
 inn:r=0→In kD 16 f
 rs:kRS f B w w'
structure kR3 (f:Nat→Int) (k:Nat) (r:Int) (g:Nat→Int) (B:Nat) (w w':World):Prop where
 r0:0≤r
 r1:r≤2147483648
 done:∀ j,j<k→0≤g j∧g j<65536
 rest:∀ j,k≤j→g j=f j
 eq:val kD g k+kD^k*r=val kD f k
 rs:kRS g B w w'
theorem kR3.step {f:Nat→Int} {k:Nat} {r:Int} {g:Nat→Int} {B:Nat} {w w':World} (h:kR3 f k r g B w w') (hB:B<w.heap.size) (hk:k<16) (hf:∀ j,j<16→0≤f j∧f j≤70368744177664) :
 kR3 f (k+1) ((r+g k)/65536) (upd g k ((r+g k)%65536)) B w (w'.setCell ⟨B,k,none⟩ (.int .i64 ((r+g k)%65536))):=by
 have r0:=h.r0; have r1:=h.r1; have e0:=h.rest k (xnR k); have b:=hf k hk
 rw [← e0] at b
 refine ⟨by omega,by omega,fun j hj=>?_,fun j hj=>?_,?_,h.rs.set hB k JK _⟩
 · by_cases e:j=k
   · subst e; rw [jP]; omega
   exact Qm
 · exact Qi
 rw [xU,xU,zK _ _ _ _ _ (xnR k),jP,Int.pow_succ,Int.mul_assoc,← e0]
 have e1:kD^k*((r+g k)%65536)+kD^k*(kD*((r+g k)/65536))=kD^k*r+kD^k*g k:=by
  rw [← Int.mul_add,← Int.mul_add]; congr 1; simp only [kD]; omega
 have e2:=h.eq
 omega
theorem kR3.next {v:Int} {f:Nat→Int} {r r0:Int} {g:Nat→Int} {B:Nat} {w w0 w':World} (h:kR3 f 16 r g B w w') (hB:B<w.heap.size) (h2:kR2 v r0 f B w w0) :
 kR2 v r (upd g 0 (g 0+38*r)) B w (w'.setCell ⟨B,0,none⟩ (.int .i64 (g 0+38*r))):=by
 have a0:=h.r0; have a1:=h.r1; have d0:=h.done 0 JK
 refine ⟨a0,fun j hj=>?_,?_,fun hr=>?_,h.rs.set hB 0 JK _⟩
 · by_cases e:j=0
   · subst e; rw [jP]; omega
   rw [jR _ _ _ _ e]; have:=h.done j hj; omega
 · rw [vN kD g 0 _ 16 JK,← h2.eq,← h.eq,D16,Int.pow_zero,Int.one_mul,Int.one_mul]; simp only [kQ]; omega
 subst hr
 have e:upd g 0 (g 0+38*0)=g:=by funext j; unfold upd; split <;> simp_all
 rw [e]
 exact fun j hj=>h.done j hj
theorem kR3.less {v:Int} {f:Nat→Int} {r r0:Int} {g:Nat→Int} {B:Nat} {w w0 w':World} (h:kR3 f 16 r g B w w') (hB:B<w.heap.size) (h2:kR2 v r0 f B w w0) (hr:0<r0) :
 x2y B (.int .i64 r) (w'.setCell ⟨B,0,none⟩ (.int .i64 (g 0+38*r)))<x2y B (.int .i64 r0) w0:=by
 have e:=h.eq; have a0:=h.r0; have b:=qE kD JG g 16 h.done; have n1:=lN (h.next hB h2).rs.ht; have n2:=lN h2.rs.ht
 rw [vN kD g 0 _ 16 JK,Int.pow_zero,Int.one_mul,Int.one_mul] at n1
 rw [D16] at e b
 show 2*(q4t B _).toNat+(if 0<r then 1 else 0)<2*(q4t B w0).toNat+(if 0<r0 then 1 else 0)
 rw [n1,n2,if_pos hr]
 by_cases h0:r=0
 · subst h0; rw [if_neg JK]; omega
 rw [if_pos JK]; omega
structure R5 (f:Nat→Int) (k:Nat) (l:Int) (g:Nat→Int) (B:Nat) (w w':World):Prop where
 l01:l=0∨l=-1
 done:∀ j,j<k→0≤g j∧g j<65536
 rest:∀ j,k≤j→g j=f j
 eq:val kD g k+val kD kpD k+kD^k*l=val kD f k
 rs:kRS g B w w'
theorem R5.step {f:Nat→Int} {k:Nat} {l:Int} {g:Nat→Int} {B:Nat} {w w':World} (h:R5 f k l g B w w') (hB:B<w.heap.size) (hk:k<16) (hf:In kD 16 f) (l':Int) (hl:l'=if l+g k-kpD k<0 then -1 else 0) :
 R5 f (k+1) l' (upd g k ((l+g k-kpD k+131072)%65536)) B w (w'.setCell ⟨B,k,none⟩ (.int .i64 ((l+g k-kpD k+131072)%65536))):=by
 have e0:=h.rest k (xnR k); have b:=hf k hk; have p:=cM k
 rw [← e0] at b
 have b':0≤g k∧g k<65536:=b
 have l01:=h.l01
 have es:(l+g k-kpD k+131072)%65536+kD*l'=l+g k-kpD k:=by
  simp only [kD]; rw [hl]; split <;> omega
 refine ⟨by rw [hl]; split <;> simp,fun j hj=>?_,fun j hj=>?_,?_,h.rs.set hB k JK _⟩
 · by_cases e:j=k
   · subst e; rw [jP]; omega
   exact Qm
 · exact Qi
 rw [xU,xU,xU,zK _ _ _ _ _ (xnR k),jP,Int.pow_succ,Int.mul_assoc,← e0]
 have e1:kD^k*((l+g k-kpD k+131072)%65536)+kD^k*(kD*l')=kD^k*l+kD^k*g k-kD^k*kpD k:=by
  rw [← Int.mul_add,es,Int.mul_sub,Int.mul_add]
 have e2:=h.eq
 omega
theorem R5.next {f:Nat→Int} {l:Int} {g:Nat→Int} {B:Nat} {w w':World} (h:R5 f 16 l g B w w') (hf:In kD 16 f) (hQ:kQ≤val kD f 16):In kD 16 g∧val kD g 16=val kD f 16-kQ:=by
 have b:=qE kD JG g 16 h.done; have b2:=qE kD JG f 16 hf; have e:=h.eq; have l01:=h.l01
 rw [j5h,D16] at e
 rw [D16] at b b2
 simp only [kQ] at *
 refine ⟨h.done,?_⟩
 omega
structure R4 (v:Int) (f:Nat→Int) (B:Nat) (w w':World):Prop where
 inn:In kD 16 f
 eq:val kD f 16%kQ=v%kQ
 rs:kRS f B w w'
structure kR6 (f:Nat→Int) (k:Nat) (h:Nat→Int) (B O:Nat) (w w':World):Prop where
 inn:In 256 32 h
 eq:val 256 h (2*k)=val kD f k
 ho:Has w' O .u8 32 h
 rs:kRS f B w w'
theorem kR6.step {f:Nat→Int} {k:Nat} {h:Nat→Int} {B O:Nat} {w w':World} (hI:kR6 f k h B O w w') (hO:w.heap.size<O) (hB:B<w.heap.size) (hk:k<16) (hf:In kD 16 f) :
 kR6 f (k+1) (upd (upd h (2*k) (f k%256)) (2*k+1) (f k/256)) B O w ((w'.setCell ⟨O,2*k,none⟩ (.int .u8 (f k%256))).setCell ⟨O,2*k+1,none⟩ (.int .u8 (f k/256))):=by
 have b:0≤f k∧f k<65536:=hf k hk
 refine ⟨(hI.inn.upd _ _ JK JK).upd _ _ JK JK,?_,(hI.ho.set _ JK _).set _ JK _,⟨(hI.rs.ht.set_other _ _ Ji).set_other _ _ Ji,(hI.rs.hr.set_other _ _ Ji).set_other _ _ Ji,(hI.rs.below.setCell Ji _).setCell Ji _,by have:=hI.rs.size; simp; omega⟩⟩
 have e:2*(k+1)=2*k+1+1:=by omega
 have e1:(256:Int)^(2*k)=kD^k:=by rw [Int.pow_mul,show (256:Int)^2=kD from by decide]
 have e2:(256:Int)^(2*k+1)=kD^k*256:=by rw [Int.pow_succ,e1]
 rw [e,xU,xU,xU,zK _ _ _ _ _ JK,zK _ _ _ _ _ (xnR _),jP,jR _ _ _ _ JK,jP,e1,e2,hI.eq,Int.mul_assoc]
 have e3:kD^k*f k=kD^k*(f k%256)+kD^k*(256*(f k/256)):=by
  rw [← Int.mul_add]; congr 1; omega
 rw [e3]
 omega
theorem kK (f:Nat→Int) (B:Nat) (w:World) (hf:∀ j,j<32→0≤f j∧f j≤1099511627776) (hB:B<w.heap.size) (ht:Has w B .i64 32 f) :
 Calls Tryz.prog 92 #[.slice (some ⟨B,0,none⟩) 32 32] w fun e w'=>∃ g:Nat→Int,e=.returned (.agg (row .u8 32 (g)).toArray)∧(In 256 32 g∧val 256 g 32=val kD f 32%kQ)∧Below B w w':=by
 have rs0:kRS f B w (w.alloc (.cells jY 23)):=⟨ht.alloc _ hB,jK _ _ _ rfl,(Below.refl _ _).alloc JK _,by simp⟩
 clear ht
 go_enter Tryz.func92,Tryz.ntmps92
 go_wp2
 go_loopw [3] (fun i w'=>∃ m:Nat,m≤16∧i=.int .i64 ((m:Int)+16)∧kRS (F1 f m) B w w') (fun i _=>32-(intOf i).toNat)
 case atStart=>exact ⟨0,by omega,rfl,by rw [show F1 f 0=f from by funext j; unfold F1; simp]; exact rs0⟩
 case round =>
  obtain ⟨m,hm,rfl,hI⟩:=hrel; clear rs0; by_cases hlt:m<16
  · have HS:=show Hid (kRS (F1 f (m+1)) B w ((wr.setCell ⟨B,m,none⟩ (.int .i64 (F1 f m m+38*F1 f m (m+16)))).drew)) from by
     rw [← q9y]; exact (hI.set hB m JK _).drew
    have c1:=hI.ht.cell m JK; have c2:=hI.ht.cell (m+16) JK; have f1:=hI.ht.free m JK; have i1:0≤F1 f m m∧F1 f m m≤1099511627776:=by unfold F1; rw [if_neg JK]; exact hf m JK
    have i2:0≤F1 f m (m+16)∧F1 f m (m+16)≤1099511627776:=by unfold F1; rw [if_neg JK]; exact hf (m+16) JK
    have g1:(0:Int)≤(m:Int):=by omega
    have g2:(m:Int)<16:=by omega
    have g3:((m:Int)+16).toNat=m+16:=by omega
    clear hI; generalize F1 f m (m+16)=y at *; generalize F1 f m m=x at *; obtain ⟨x0,x1⟩:=i1; obtain ⟨y0,y1⟩:=i2; go_wp2; go_region; go_wp2; go_roundw
    case rel=>exact ⟨m+1,by omega,by go_num,HS.out⟩
    case measure=>simp [intOf]; omega
  obtain rfl:m=16:=by omega
  have hv:=x4h f; have h2:kR2 (val kD f 32) 1 (F1 f 16) B w wr:=⟨by decide,fun j hj=>by
   have a:=hf j JK; have b:=hf (j+16) JK; unfold F1; rw [if_pos hj]; omega,hv,fun h=>Vc,hI⟩
  clear hv hI hlt hm; go_wp2; obtain ⟨w1,rfl⟩:∃ w1:World,w1=wr:=⟨_,rfl⟩
  go_loopw [4] (fun r w'=>∃ (rv:Int) (f2:Nat→Int),r=.int .i64 rv∧kR2 (val kD f 32) rv f2 B w w') (fun r w'=>x2y B r w')
  case atStart=>exact ⟨1,_,rfl,h2⟩
  case round =>
   obtain ⟨rv,f2,rfl,hI⟩:=hrel; clear h2; by_cases hpos:0<rv
   · obtain ⟨w2,rfl⟩:∃ w2:World,w2=wr:=⟨_,rfl⟩
     have q1:rv>0:=hpos; go_wp2; go_loopw [4,5] (fun r i w'=>∃ (k:Nat) (rk:Int) (g:Nat→Int),k≤16∧i=.int .i64 k∧r=.int .i64 rk∧kR3 f2 k rk g B w w') (fun _ i _=>16-(intOf i).toNat)
     case atStart=>exact ⟨0,0,f2,by omega,rfl,rfl,⟨by omega,by omega,fun j hj=>by omega,fun _ _=>rfl,by simp [val],hI.rs⟩⟩
     case round =>
      obtain ⟨k,rk,g,hk,rfl,rfl,h3⟩:=hrel; by_cases hlt:k<16
      · have HS:=show Hid _ from h3.step hB hlt hI.big
        have c1:=h3.rs.ht.cell k JK; have f1:=h3.rs.ht.free k JK; have a0:=h3.r0; have a1:=h3.r1; have i1:0≤g k∧g k≤70368744177664:=by rw [h3.rest k (xnR k)]; exact hI.big k hlt
        have g1:(0:Int)≤(k:Int):=by omega
        have g2:(k:Int)<16:=by omega
        have HI:=show Hid _ from hI; clear h3 hI; generalize g k=x at *
        obtain ⟨x0,x1⟩:=i1; exact JJ
      obtain rfl:k=16:=by omega
      have HN:=show Hid _ from h3.next hB hI; have HL:=show Hid _ from h3.less hB hI hpos; have c1:=h3.rs.ht.cell 0 JK; have f1:=h3.rs.ht.free 0 JK; have a0:=h3.r0; have a1:=h3.r1; have i1:=h3.done 0 JK; clear h3 hI hlt hk; generalize g 0=x at *
      obtain ⟨x0,x1⟩:=i1; go_wp2; go_roundw
      case rel=>exact ⟨rk,_,rfl,HN.out⟩
      case measure=>exact HL.out
   obtain rfl:rv=0:=by have:=hI.r0; omega
   have h4:R4 (val kD f 32) f2 B w wr:=⟨hI.inn rfl,hI.eq,hI.rs⟩
   clear hI hpos; go_wp2; obtain ⟨w2,rfl⟩:∃ w2:World,w2=wr:=⟨_,rfl⟩
   go_loopw [6] (fun _ w'=>∃ f4:Nat→Int,R4 (val kD f 32) f4 B w w') (fun _ w'=>mu4 B w')
   case atStart=>exact ⟨f2,h4⟩
   case round =>
    obtain ⟨f4,hI⟩:=hrel; clear h4; go_wp2_with fail; refine (j9u f4 B _ hI.inn hI.rs.ht).mono ?_; rintro e w3 ⟨rfl,l3⟩; have rs3:=hI.rs.call hB l3; by_cases hq:kQ≤val kD f4 16
    · rw [show decide (kQ≤val kD f4 16)=true from decide_eq_true hq]; have HI:=show Hid _ from hI; have HQ:=show Hid _ from hq; clear hI hq l3; go_wp2
      obtain ⟨w4,rfl⟩:∃ w4:World,w4=wr:=⟨_,rfl⟩
      go_loopw [6,7] (fun ls i w'=>∃ (k:Nat) (l:Int) (g:Nat→Int),k≤16∧i=.int .i64 k∧ls=.int .i64 l∧R5 f4 k l g B w w') (fun _ i _=>16-(intOf i).toNat)
      case atStart=>exact ⟨0,0,f4,by omega,rfl,rfl,⟨Or.inl rfl,fun j hj=>by omega,fun _ _=>rfl,by simp [val],rs3⟩⟩
      case round =>
       obtain ⟨k,l,g,hk,rfl,rfl,h5⟩:=hrel; clear rs3; by_cases hlt:k<16
       · have h5':∀ q,R5 f4 k l g B w (wr.drewN q):=fun q=>⟨h5.l01,h5.done,h5.rest,h5.eq,h5.rs.drewN⟩
         have HS:=show Hid _ from fun q l' hl=>(h5' q).step hB hlt HI.out.inn l' hl; have c1:=h5.rs.ht.cell k JK; have f1:=h5.rs.ht.free k JK
         have l0:-1≤l:=by have:=h5.l01; omega
         have l1:l≤0:=by have:=h5.l01; omega
         have i1:0≤g k∧g k<65536:=by rw [h5.rest k (xnR k)]; exact HI.out.inn k hlt
         have i2:=cM k; have g1:(0:Int)≤(k:Int):=by omega
         have g2:(k:Int)<16:=by omega
         clear h5 h5'; obtain ⟨x0,x1⟩:=i1; obtain ⟨y0,y1⟩:=i2; by_cases hn:l+g k-kpD k<0
         · have HT:=show Hid _ from fun q=>HS.out q (-1) (by rw [if_pos hn])
           exact ZH
         have HT:=show Hid _ from fun q=>HS.out q 0 (by rw [if_neg hn])
         have hn':0≤l+g k-kpD k:=by omega
         exact ZH
       obtain rfl:k=16:=by omega
       have hN:=h5.next HI.out.inn HQ.out; have HN:=show Hid _ from hN
       have hmu:mu4 B wr<mu4 B w4:=by
        unfold mu4; rw [lN h5.rs.ht,lN HI.out.rs.ht,hN.2]; have hb:=qE kD JG f4 16 HI.out.inn; have hq:=HQ.out; simp only [kQ] at *; omega
       have HM:=show Hid _ from hmu
       have hR4:R4 (val kD f 32) g B w wr:=⟨hN.1,by rw [hN.2,← HI.out.eq]; simp only [kQ]; omega,h5.rs⟩
       have H4:=show Hid _ from hR4; clear hmu hR4 hN HN h5 hlt hk; go_wp2
       go_roundw
       case rel=>first | exact ⟨g,H4.out⟩ | ((repeat apply Exists.intro); exact ⟨⟨g,H4.out⟩,rfl⟩)
       case measure=>exact HM.out
    rw [show decide (kQ≤val kD f4 16)=false from decide_eq_false hq]; clear l3; have HI:=show Hid _ from hI; have HQ:=show Hid _ from hq; clear hI hq; have o0:=jK w3 23 w3.heap.size rfl
    have tok:True:=trivial; go_wp2_with (have _t:=tok; refine ys .u8 32 (fun _=>0) (yQ (o0)) (jV _) ?_; clear tok); have hO:w.heap.size<w3.heap.size:=by have:=rs3.size; omega
    have rs5:kRS f4 B w ((w3.alloc (.cells jY 23)).setCells w3.heap.size 0 (row .u8 32 (fun _=>0))) :=
     ⟨(rs3.ht.alloc _ JK).setAll_other _ JK 0 _,(rs3.hr.alloc _ JK).setAll_other _ JK 0 _,jS (rs3.below.alloc JK _) _ JK 0 _,by rw [jN]; simp; omega⟩
    have o1:=Has.all o0.there .u8 (fun _=>0); clear o0 rs3; generalize w3.heap.size=O at *; go_loopw [9] (fun i w'=>∃ (k:Nat) (h:Nat→Int),k≤16∧i=.int .i64 k∧kR6 f4 k h B O w w') (fun i _=>16-(intOf i).toNat)
    case atStart=>exact ⟨0,fun _=>0,by omega,rfl,⟨fun _ _=>⟨Int.le_refl 0,by decide⟩,rfl,o1,rs5⟩⟩
    case round =>
     obtain ⟨k,h,hk,rfl,h6⟩:=hrel; clear rs5 o1; by_cases hlt:k<16
     · have HS:=show Hid _ from h6.step hO hB hlt HI.out.inn
       have c1:=h6.rs.ht.cell k JK; have d1:=h6.ho.cell (2*k) JK; have d2:=h6.ho.cell (2*k+1) JK; have e1:=h6.ho.free (2*k) JK; have e2:=h6.ho.free (2*k+1) JK; have i1:0≤f4 k∧f4 k<65536:=HI.out.inn k hlt; have g1:(0:Int)≤(k:Int):=by omega
       have g2:(k:Int)<16:=by omega
       have g3:(2*(k:Int)).toNat=2*k:=by omega
       have g4:(2*(k:Int)+1).toNat=2*k+1:=by omega
       have n1:∀ v,(wr.setCell ⟨O,2*k,none⟩ v).cell? ⟨B,k,none⟩=some (.int .i64 (f4 k)):=fun v=>by
        rw [World.cell?_setCell_other _ _ _ _ Wn]; exact c1
       clear h6; obtain ⟨x0,x1⟩:=i1; go_wp2; exact QW
     obtain rfl:k=16:=by omega
     have ho:=h6.ho; have hz:=h6.rs.hr; have hE:In 256 32 h∧val 256 h 32=val kD f 32%kQ:=⟨h6.inn,by
      have a:=h6.eq; have b:=HI.out.eq; have c:=qE kD JG f4 16 HI.out.inn; have q:=HQ.out; have e:val 256 h (2*16)=val 256 h 32:=rfl; rw [← e,a,← b,Int.emod_eq_of_lt c.1 (Int.not_le.1 q)]⟩
     have HE:=show Hid _ from hE; have hW:=jS h6.rs.below w.heap.size JK 0 (row .u8 32 h); clear hE hlt hk h6
     go_wp2_with (first | (refine yl (ho) Tryz.underlying23 (jJ _) ?_) | (refine ys .u8 32 (h) (yQ (hz)) (jV _) ?_)); exact bRq (v:=(.agg (row .u8 32 (h)).toArray)) (jQ Tryz.results92 rfl (Has.all hz.there .u8 h).range Tryz.underlying23 rfl (jJ h)) rfl ⟨h,rfl,HE.out,hW⟩
theorem j6s (a:Nat→Int) (ha:In 256 32 a):∀ j,j<32→0≤xK a j∧xK a j≤1099511627776:=fun j _=>by have:=vJ a ha j; omega
theorem aF (a:Nat→Int) (ha:In 256 32 a) (w:World) :
 Calls Tryz.prog 62 #[(.agg (row .u8 32 (a)).toArray)] w fun e w'=>∃ f:Nat→Int,e=.returned (.agg (row .u8 32 (f)).toArray)∧(In 256 32 f∧val 256 f 32=val 256 a 32%kQ)∧Below w.heap.size w w':=by
 have a0:Has ((w.alloc (.cells (row .u8 32 a).toArray 23)).alloc (.cells jY 23)) w.heap.size .u8 32 a:=(Has.new w _ _ _ _ _ rfl).alloc _ Jf
 have z0:Has ((w.alloc (.cells (row .u8 32 a).toArray 23)).alloc (.cells jY 23)) (w.heap.size+1) .u8 32 (fun _=>0):=jK _ _ _ Jf
 have g0:Fr w 2 ((w.alloc (.cells (row .u8 32 a).toArray 23)).alloc (.cells jY 23)):=((Fr.refl w).alloc _).alloc _
 go_enter Tryz.func62,Tryz.ntmps62
 go_wp2_with (refine yl (a0) Tryz.underlying23 (jJ _) ?_)
 refine (uG a ha _).mono ?_; rintro e w1 ⟨B,rfl,hB,l1⟩; have g1:=g0.call l1; have z1:=z0.call g0 l1 JK
 have hlo:w.heap.size+2≤B:=by have:=hB.1; simp at this; omega
 go_wp2_with fail
 refine (kK (xK a) B _ (j6s a ha) hB.2.1 hB.2.2).mono ?_; rintro e w2 ⟨f,rfl,s2,l2⟩; have z2:=z1.below l2 JK
 have hE:In 256 32 f∧val 256 f 32=val 256 a 32%kQ:=⟨s2.1,by rw [s2.2,kF]⟩
 have HE:=show Hid _ from hE; have hL:=jS (g1.below.trans (l2.mono JK)) (w.heap.size+1) JK 0 (row .u8 32 f); clear hE s2 hB
 go_wp2_with (refine ys .u8 32 (f) (yQ (z2)) (jV _) ?_)
 exact bRq (v:=(.agg (row .u8 32 (f)).toArray)) (jQ Tryz.results62 rfl (Has.all z2.there .u8 f).range Tryz.underlying23 rfl (jJ f)) rfl ⟨f,rfl,HE.out,hL⟩
structure kTU (f g:Nat→Int) (B1 B2:Nat) (w w':World):Prop where
 h1:Has w' B1 .i64 32 f
 h2:Has w' B2 .i64 32 g
 hr:w'.there (w.heap.size+1+1) 0 32
 fr:Fr w 3 w'
 hi:B1<w'.heap.size
theorem kTU.set {f g:Nat→Int} {B1 B2:Nat} {w w':World} (h:kTU f g B1 B2 w w') (lo:w.heap.size+3≤B1) (ne:B1≠B2) (k:Nat) (hk:k<32) (x:Int):kTU (upd f k x) g B1 B2 w ((w'.setCell ⟨B1,k,none⟩ (.int .i64 x)).drew) :=
 ⟨(h.h1.set k hk x).drew,(h.h2.set_other _ _ (by simpa using ne)).drew,fun j hj=>by
  have hne:(⟨B1,k,none⟩:Addr)≠⟨w.heap.size+1+1,0+j,none⟩:=by intro h'; injection h'; omega
  show ((w'.setCell _ _).cell? _).isSome=true∧(w'.setCell _ _).frozen? _=false
  rw [World.cell?_setCell_other _ _ _ _ hne,World.frozen?_setCell]; exact h.hr j hj,(h.fr.set _ _ Ji).drew,by have:=h.hi; simpa using this⟩
def uH (a b:Nat→Int) (k:Nat):Nat→Int:=fun j=>xK a j+(if j<k then xK b j else 0)
def vF (a b:Nat→Int) (k:Nat):Nat→Int:=fun j=>xK a j+(if j<k then 4*kpD j-xK b j else 0)
theorem j4f (a b:Nat→Int) (k:Nat):upd (uH a b k) k (uH a b k k+xK b k)=uH a b (k+1):=by
 funext j
 unfold upd uH
 by_cases e:j=k
 · subst e; simp
 rw [if_neg e]
 by_cases h:j<k
 · rw [if_pos h,if_pos JK]
 rw [if_neg h,if_neg JK]
theorem j5l (a b:Nat→Int) (k:Nat):upd (vF a b k) k (vF a b k k+4*kpD k-xK b k)=vF a b (k+1):=by
 funext j
 unfold upd vF
 by_cases e:j=k
 · subst e; simp; omega
 rw [if_neg e]
 by_cases h:j<k
 · rw [if_pos h,if_pos JK]
 rw [if_neg h,if_neg JK]
theorem eT (a:Nat→Int) (j:Nat) (h:¬ j<16):xK a j=0:=by unfold xK; rw [if_neg h]
theorem j6w (a b:Nat→Int):val kD (uH a b 16) 32=val 256 a 32+val 256 b 32:=by
 rw [← kF a,← kF b]
 have e:val kD (uH a b 16) 32=val kD (fun j=>xK a j+1*xK b j) 32:=qZ kD 32 fun j _=>by
  unfold uH; split
  · omega
  rename_i h; rw [eT b j h]; omega
 rw [e,val_add]; omega
theorem q0b (a b:Nat→Int):val kD (vF a b 16) 32%kQ=(val 256 a 32-val 256 b 32)%kQ:=by
 rw [← kF a,← kF b]
 have e:val kD (vF a b 16) 32=val kD (fun j=>(xK a j+4*(fun i=>if i<16 then kpD i else 0) j)+(-1)*xK b j) 32:=qZ kD 32 fun j _=>by
  unfold vF; by_cases h:j<16
  · simp only [if_pos h]; omega
  simp only [if_neg h]; rw [eT b j h]; omega
 have e2:val kD (fun i=>if i<16 then kpD i else 0) 32=kQ:=by decide
 rw [e,val_add,val_add,e2]
 simp only [kQ]
 omega
theorem pV (a b:Nat→Int) (ha:In 256 32 a) (hb:In 256 32 b) (k j:Nat):0≤uH a b k j∧uH a b k j≤131072:=by
 have h1:=vJ a ha j; have h2:=vJ b hb j
 unfold uH; split <;> omega
theorem nK (a b:Nat→Int) (ha:In 256 32 a) (hb:In 256 32 b) (k j:Nat) (_hk:k≤16):0≤vF a b k j∧vF a b k j≤524288:=by
 have h1:=vJ a ha j; have h2:=vJ b hb j; have h3:=cM j
 have h4:32767≤kpD j:=by unfold kpD; split <;> (try split) <;> omega
 unfold vF; split <;> omega
theorem j4e (a b:Nat→Int) (ha:In 256 32 a) (hb:In 256 32 b) (w:World) :
 Calls Tryz.prog 63 #[(.agg (row .u8 32 (a)).toArray),(.agg (row .u8 32 (b)).toArray)] w fun e w'=>∃ f:Nat→Int,e=.returned (.agg (row .u8 32 (f)).toArray)∧(In 256 32 f∧val 256 f 32=(val 256 a 32+val 256 b 32)%kQ)∧Below w.heap.size w w':=by
 have t0:=kTwo.new a b w; have a0:=t0.ha
 go_enter Tryz.func63,Tryz.ntmps63
 go_wp2_with (refine yl (a0) Tryz.underlying23 (jJ _) ?_)
 refine (uG a ha _).mono ?_; rintro e w1 ⟨B1,rfl,h1,l1⟩; have t1:=t0.call l1
 have lo1:w.heap.size+3≤B1:=by have:=h1.1; simp at this; omega
 have b1:=t1.hb; clear t0 a0 l1
 go_wp2_with (refine yl (b1) Tryz.underlying23 (jJ _) ?_)
 refine (uG b hb _).mono ?_; rintro e w2 ⟨B2,rfl,h2,l2⟩; have t2:=t1.call l2
 have ne:B1≠B2:=by have:=h1.2.1; have:=h2.1; omega
 have tu:kTU (xK a) (xK b) B1 B2 w w2:=⟨h1.2.2.below l2 h1.2.1,h2.2.2,t2.hr,t2.fr,by have:=h1.2.1; have:=l2.size; omega⟩
 clear t1 t2 b1 h1 h2 l2; go_wp2
 go_loopw [7] (fun i w'=>∃ k:Nat,k≤16∧i=.int .i64 k∧kTU (uH a b k) (xK b) B1 B2 w w') (fun i _=>16-(intOf i).toNat)
 case atStart=>exact ⟨0,by omega,rfl,by rw [show uH a b 0=xK a from by funext j; unfold uH; simp]; exact tu⟩
 case round =>
  obtain ⟨k,hk,rfl,hI⟩:=hrel; clear tu; by_cases hlt:k<16
  · have HS:=show Hid (kTU (uH a b (k+1)) (xK b) B1 B2 w ((wr.setCell ⟨B1,k,none⟩ (.int .i64 (uH a b k k+xK b k))).drew)) from by rw [← j4f]; exact hI.set lo1 ne k JK _
    have c1:=hI.h1.cell k JK; have c2:=hI.h2.cell k JK; have f1:=hI.h1.free k JK; have i1:=pV a b ha hb k k; have i2:=vJ b hb k; have g1:(0:Int)≤(k:Int):=by omega
    have g2:(k:Int)<16:=by omega
    clear hI; generalize uH a b k k=x at *; generalize xK b k=y at *; obtain ⟨x0,x1⟩:=i1; obtain ⟨y0,y1⟩:=i2; exact Xi
  obtain rfl:k=16:=by omega
  clear hlt hk; go_wp2_with fail; refine (kK (uH a b 16) B1 _ (fun j _=>by have:=pV a b ha hb 16 j; omega) hI.hi hI.h1).mono ?_; rintro e w3 ⟨f,rfl,s3,l3⟩; have hz:=xF hI.hr l3 JK; have hE:In 256 32 f∧val 256 f 32=(val 256 a 32+val 256 b 32)%kQ:=⟨s3.1,by rw [s3.2,j6w]⟩
  have HE:=show Hid _ from hE; have hL:=jS (hI.fr.below.trans (l3.mono JK)) (w.heap.size+1+1) JK 0 (row .u8 32 f); clear hE s3 hI l3
  go_wp2_with (refine ys .u8 32 f (vH hz) (jV _) ?_); exact bRq (v:=(.agg (row .u8 32 (f)).toArray)) (jQ Tryz.results63 rfl (Has.all hz .u8 f).range Tryz.underlying23 rfl (jJ f)) rfl ⟨f,rfl,HE.out,hL⟩
theorem j5w (a b:Nat→Int) (ha:In 256 32 a) (hb:In 256 32 b) (w:World) :
 Calls Tryz.prog 64 #[(.agg (row .u8 32 (a)).toArray),(.agg (row .u8 32 (b)).toArray)] w fun e w'=>∃ f:Nat→Int,e=.returned (.agg (row .u8 32 (f)).toArray)∧(In 256 32 f∧val 256 f 32=(val 256 a 32-val 256 b 32)%kQ)∧Below w.heap.size w w':=by
 have t0:=kTwo.new a b w; have a0:=t0.ha
 go_enter Tryz.func64,Tryz.ntmps64
 go_wp2_with (refine yl (a0) Tryz.underlying23 (jJ _) ?_)
 refine (uG a ha _).mono ?_; rintro e w1 ⟨B1,rfl,h1,l1⟩; have t1:=t0.call l1
 have lo1:w.heap.size+3≤B1:=by have:=h1.1; simp at this; omega
 have b1:=t1.hb; clear t0 a0 l1
 go_wp2_with (refine yl (b1) Tryz.underlying23 (jJ _) ?_)
 refine (uG b hb _).mono ?_; rintro e w2 ⟨B2,rfl,h2,l2⟩; have t2:=t1.call l2
 have ne:B1≠B2:=by have:=h1.2.1; have:=h2.1; omega
 have tu:kTU (xK a) (xK b) B1 B2 w w2:=⟨h1.2.2.below l2 h1.2.1,h2.2.2,t2.hr,t2.fr,by have:=h1.2.1; have:=l2.size; omega⟩
 clear t1 t2 b1 h1 h2 l2; go_wp2
 go_loopw [7] (fun i w'=>∃ k:Nat,k≤16∧i=.int .i64 k∧kTU (vF a b k) (xK b) B1 B2 w w') (fun i _=>16-(intOf i).toNat)
 case atStart=>exact ⟨0,by omega,rfl,by rw [show vF a b 0=xK a from by funext j; unfold vF; simp]; exact tu⟩
 case round =>
  obtain ⟨k,hk,rfl,hI⟩:=hrel; clear tu; by_cases hlt:k<16
  · have HS:=show Hid (kTU (vF a b (k+1)) (xK b) B1 B2 w ((wr.setCell ⟨B1,k,none⟩ (.int .i64 (vF a b k k+4*kpD k-xK b k))).drew)) from by rw [← j5l]; exact hI.set lo1 ne k JK _
    have c1:=hI.h1.cell k JK; have c2:=hI.h2.cell k JK; have f1:=hI.h1.free k JK; have i1:=nK a b ha hb k k hk; have i2:=vJ b hb k; have i3:=cM k; have g1:(0:Int)≤(k:Int):=by omega
    have g2:(k:Int)<16:=by omega
    have g3:(k:Int)<32:=by omega
    have HP:=show Hid _ from fun W'=>zN k hlt W'; clear hI; generalize vF a b k k=x at *; generalize xK b k=y at *; generalize kpD k=p at *
    obtain ⟨x0,x1⟩:=i1; obtain ⟨y0,y1⟩:=i2; obtain ⟨p0,p1⟩:=i3; have v1:IntKind.i64.wrap (4*p)=4*p:=by rw [xw6]; omega
    have v2:IntKind.i64.wrap (x+4*p)=x+4*p:=by rw [xw6]; omega
    have v3:IntKind.i64.wrap (x+4*p-y)=x+4*p-y:=by rw [xw6]; omega
    go_wp2; go_region_with (go_at_call 94; refine (HP.out _).mono ?_; rintro e w' ⟨rfl,rfl⟩)
    all_goals
     go_wp2; exact Qf
  obtain rfl:k=16:=by omega
  clear hlt hk; go_wp2_with fail; refine (kK (vF a b 16) B1 _ (fun j _=>by have:=nK a b ha hb 16 j (xnR _); omega) hI.hi hI.h1).mono ?_; rintro e w3 ⟨f,rfl,s3,l3⟩; have hz:=xF hI.hr l3 JK; have hE:In 256 32 f∧val 256 f 32=(val 256 a 32-val 256 b 32)%kQ:=⟨s3.1,by rw [s3.2,q0b]⟩
  have HE:=show Hid _ from hE; have hL:=jS (hI.fr.below.trans (l3.mono JK)) (w.heap.size+1+1) JK 0 (row .u8 32 f); clear hE s3 hI l3
  go_wp2_with (refine ys .u8 32 f (vH hz) (jV _) ?_); exact bRq (v:=(.agg (row .u8 32 (f)).toArray)) (jQ Tryz.results64 rfl (Has.all hz .u8 f).range Tryz.underlying23 rfl (jJ f)) rfl ⟨f,rfl,HE.out,hL⟩
structure kMU (a b:Nat→Int) (i k:Nat) (f:Nat→Int) (B1 B2 B3:Nat) (w w':World):Prop where
 eq:val kD f 32=val kD (xK a) i*val kD (xK b) 16+kD^i*xK a i*val kD (xK b) k
 big:∀ j,j<32→0≤f j∧f j≤(i:Int)*4294967296+(if i≤j∧j<i+k then 4294967296 else 0)
 h1:Has w' B1 .i64 32 (xK a)
 h2:Has w' B2 .i64 32 (xK b)
 h3:Has w' B3 .i64 32 f
 hr:w'.there (w.heap.size+1+1) 0 32
 fr:Fr w 3 w'
 hi:B3<w'.heap.size
theorem j8v {x y:Int} (x0:0≤x) (x1:x<65536) (y0:0≤y) (y1:y<65536):0≤x*y∧x*y≤4294836225 :=
 ⟨Int.mul_nonneg x0 y0,Int.mul_le_mul (show x≤65535 by omega) (show y≤65535 by omega) y0 JK⟩
theorem kMU.step {a b:Nat→Int} {i k:Nat} {f:Nat→Int} {B1 B2 B3:Nat} {w w':World} (h:kMU a b i k f B1 B2 B3 w w') (ha:In 256 32 a) (hb:In 256 32 b) (lo:w.heap.size+3≤B3) (n1:B3≠B1) (n2:B3≠B2) (hi:i<16) (hk:k<16) :
 kMU a b i (k+1) (upd f (i+k) (f (i+k)+xK a i*xK b k)) B1 B2 B3 w ((w'.setCell ⟨B3,i+k,none⟩ (.int .i64 (f (i+k)+xK a i*xK b k))).drew):=by
 have da:=vJ a ha i; have db:=vJ b hb k; have hp:=j8v da.1 da.2 db.1 db.2
 refine ⟨?_,fun j hj=>?_,(h.h1.set_other _ _ (by simpa using n1)).drew,(h.h2.set_other _ _ (by simpa using n2)).drew,(h.h3.set _ JK _).drew,fun j hj=>?_,(h.fr.set _ _ Ji).drew,by have:=h.hi; simpa using this⟩
 · rw [vN kD f (i+k) _ 32 JK,xU kD (xK b) k,h.eq]; have e1:kD^i*xK a i*(kD^k*xK b k)=kD^(i+k)*(xK a i*xK b k):=by rw [Int.pow_add,Int.mul_assoc,Int.mul_left_comm (xK a i),← Int.mul_assoc]
   rw [Int.mul_add (kD^(i+k)),Int.mul_add (kD^i*xK a i),e1]; omega
 · have bj:=h.big j hj; by_cases e:j=i+k
   · subst e; rw [jP]; rw [if_neg JK] at bj; rw [if_pos JK]; omega
   rw [jR _ _ _ _ e]; by_cases c:i≤j∧j<i+k
   · rw [if_pos c] at bj; rw [if_pos JK]; exact bj
   rw [if_neg c] at bj; rw [if_neg JK]; exact bj
 exact Xz
theorem kMU.next {a b:Nat→Int} {i:Nat} {f:Nat→Int} {B1 B2 B3:Nat} {w w':World} (h:kMU a b i 16 f B1 B2 B3 w w'):kMU a b (i+1) 0 f B1 B2 B3 w w':=by
 refine ⟨?_,fun j hj=>?_,h.h1,h.h2,h.h3,h.hr,h.fr,h.hi⟩
 · rw [h.eq,xU kD (xK a) i,Int.add_mul,show val kD (xK b) 0=0 from rfl,Int.mul_zero,Int.add_zero]
 have bj:=h.big j hj
 rw [if_neg JK]
 have e:((i+1:Nat):Int)*4294967296=(i:Int)*4294967296+4294967296:=by omega
 rw [e]
 split at bj <;> omega
theorem uL (a b:Nat→Int) (ha:In 256 32 a) (hb:In 256 32 b) (w:World) :
 Calls Tryz.prog 65 #[(.agg (row .u8 32 (a)).toArray),(.agg (row .u8 32 (b)).toArray)] w fun e w'=>∃ f:Nat→Int,e=.returned (.agg (row .u8 32 (f)).toArray)∧(In 256 32 f∧val 256 f 32=(val 256 a 32*val 256 b 32)%kQ)∧Below w.heap.size w w':=by
 have t0:=kTwo.new a b w; have a0:=t0.ha; have hmk:=made
 go_enter Tryz.func65,Tryz.ntmps65
 go_wp2_with (refine yl (a0) Tryz.underlying23 (jJ _) ?_)
 refine (uG a ha _).mono ?_; rintro e w1 ⟨B1,rfl,h1,l1⟩; have t1:=t0.call l1
 have lo1:w.heap.size+3≤B1:=by have:=h1.1; simp at this; omega
 have b1:=t1.hb; clear t0 a0 l1
 go_wp2_with (refine yl (b1) Tryz.underlying23 (jJ _) ?_)
 refine (uG b hb _).mono ?_; rintro e w2 ⟨B2,rfl,h2,l2⟩; have t2:=t1.call l2; have x1:=h1.2.2.below l2 h1.2.1
 have hi1:B1<w2.heap.size:=by have:=h1.2.1; have:=l2.size; omega
 have hi2:=h2.2.1; have x2:=h2.2.2
 have mu0:kMU a b 0 0 (fun _=>0) B1 B2 w2.heap.size w (w2.alloc (.cells rZ 3)):=by
  refine ⟨by rw [show val kD (xK a) 0=0 from rfl,show val kD (xK b) 0=0 from rfl,Int.zero_mul,Int.mul_zero]; exact wS kD 32,fun j _=>by simp,x1.alloc _ hi1,x2.alloc _ hi2,wT _ _ _ rfl,?_,t2.fr.alloc _ |>.below |> (fun b=>⟨b,by have:=t2.fr.size; simp; omega⟩),by simp⟩; have:=xF (w':=w2.alloc (.cells rZ 3)) t2.hr ((Below.refl w2.heap.size w2).alloc (xnR _) _) (by have:=t2.fr.size; omega); exact this
 have lo3:w.heap.size+3≤w2.heap.size:=t2.fr.size
 have n1:w2.heap.size≠B1:=by omega
 have n2:w2.heap.size≠B2:=by omega
 clear t1 t2 b1 h1 h2 l2 x1 x2 hi1 hi2 lo1; go_wp2; clear hmk; generalize w2.heap.size=B3 at *; generalize w2.alloc (.cells rZ 3)=w3 at *
 go_loopw [8] (fun i w'=>∃ (m:Nat) (f:Nat→Int),m≤16∧i=.int .i64 m∧kMU a b m 0 f B1 B2 B3 w w') (fun i _=>16-(intOf i).toNat)
 case atStart=>exact ⟨0,_,by omega,rfl,mu0⟩
 case round =>
  obtain ⟨m,f0,hm,rfl,hO⟩:=hrel; clear mu0; by_cases hlt:m<16
  · obtain ⟨wo,rfl⟩:∃ wo:World,wo=wr:=⟨_,rfl⟩
    have g1:(0:Int)≤(m:Int):=by omega
    have g2:(m:Int)<16:=by omega
    go_wp2; go_loopw [9] (fun i w'=>∃ (k:Nat) (f:Nat→Int),k≤16∧i=.int .i64 k∧kMU a b m k f B1 B2 B3 w w') (fun i _=>16-(intOf i).toNat)
    case atStart=>exact ⟨0,f0,by omega,rfl,hO⟩
    case round =>
     obtain ⟨k,f,hk,rfl,hI⟩:=hrel; clear hO; by_cases hlt2:k<16
     · have HS:=show Hid _ from hI.step ha hb lo3 n1 n2 hlt hlt2
       have c1:=hI.h1.cell m JK; have c2:=hI.h2.cell k JK; have c3:=hI.h3.cell (m+k) JK; have f1:=hI.h3.free (m+k) JK; have ix:=vJ a ha m; have iy:=vJ b hb k; have ip:=j8v ix.1 ix.2 iy.1 iy.2; have iz:=hI.big (m+k) JK; rw [if_neg JK] at iz; have iz1:f (m+k)≤68719476736:=by omega
       have iz0:=iz.1; have g3:(0:Int)≤(k:Int):=by omega
       have g4:(k:Int)<16:=by omega
       have g7:((m:Int)+(k:Int)).toNat=m+k:=by omega
       clear hI iz ix iy; generalize xK a m=x at *; generalize xK b k=y at *; generalize f (m+k)=z at *; obtain ⟨p0,p1⟩:=ip; go_wp2; go_region; go_wp2; exact QW
     obtain rfl:k=16:=by omega
     exact Xl
  obtain rfl:m=16:=by omega
  clear hlt hm; go_wp2_with fail; refine (kK f0 B3 _ Ws hO.hi hO.h3).mono ?_; rintro e w4 ⟨g,rfl,s3,l3⟩; have hz:=xF hO.hr l3 JK; have hE:In 256 32 g∧val 256 g 32=(val 256 a 32*val 256 b 32)%kQ:=⟨s3.1,by
   rw [s3.2,hO.eq,pZ a 16 (xnR _),pZ b 16 (xnR _),show val kD (xK b) 0=0 from rfl,Int.mul_zero,Int.add_zero]⟩
  have HE:=show Hid _ from hE; have hL:=jS (hO.fr.below.trans (l3.mono JK)) (w.heap.size+1+1) JK 0 (row .u8 32 g); clear hE s3 hO l3
  go_wp2_with (refine ys .u8 32 g (vH hz) (jV _) ?_); exact bRq (v:=(.agg (row .u8 32 (g)).toArray)) (jQ Tryz.results65 rfl (Has.all hz .u8 g).range Tryz.underlying23 rfl (jJ g)) rfl ⟨g,rfl,HE.out,hL⟩
def eD:Nat→Int:=fun j=>if j=0 then 65515 else kpD j
def q5p:Bool:=(List.range 16).all fun s=>(List.range 16).all fun q=>(eD s).toNat/2^q%2 == E/2^(16*s+q)%2
theorem q1g:q5p=true:=by decide +kernel
theorem j4p (s q:Nat) (hs:s<16) (hq:q<16):(eD s).toNat/2^q%2=E/2^(16*s+q)%2:=by
 have h1:=List.all_eq_true.1 q1g s (List.mem_range.2 hs); have h2:=List.all_eq_true.1 h1 q (List.mem_range.2 hq)
 simpa using h2
theorem j4z (z:Nat) (hz:z<65536):bits BinOp.and IntKind.i64 (z:Int) 1=((z%2:Nat):Int):=by
 have e:bits BinOp.and IntKind.i64 (z:Int) 1=((z &&& 1:Nat):Int):=by
  have hx:z &&& 1≤1:=by rw [Nat.and_one_is_mod]; omega
  show IntKind.i64.wrap ((BitVec.ofInt 64 (z:Int) &&& BitVec.ofInt 64 ((1:Nat):Int)).toNat:Int)=_
  rw [BitVec.toNat_and,ofInt_u64 z JK,ofInt_u64 1 JK,xw6]; omega
 rw [e,Nat.and_one_is_mod]
theorem dQ (y:Int) (h0:0≤y) (h1:y<65536) (k:Nat):(bits BinOp.and IntKind.i64 (y/2^k) 1 == 1)=(y.toNat/2^k%2 == 1):=by
 obtain ⟨y,rfl⟩:=xiN h0
 have e:(y:Int)/2^k=((y/2^k:Nat):Int):=by simp
 have hlt:y/2^k<65536:=Nat.lt_of_le_of_lt (Nat.div_le_self _ _) JK
 rw [e,j4z _ hlt,Int.toNat_natCast]
 generalize y/2^k%2=z
 by_cases hz:z=1
 · subst hz; rfl
 have a:((z:Int) == 1)=false:=by simp; omega
 have b:(z == 1)=false:=by simp; exact hz
 rw [a,b]
structure IV (a:Nat→Int) (w:World) (t:Nat) (m:Nat→Int) (w':World):Prop where
 inn:In 256 32 m
 eq:val 256 m 32=val 256 a 32^(E/2^t)%kQ
 ha:Has w' w.heap.size .u8 32 a
 hr:Has w' (w.heap.size+1) .u8 32 (fun _=>0)
 hn:Has w' (w.heap.size+1+1) .u8 32 m
 fr:Fr w 3 w'
theorem IV.even {a:Nat→Int} {w:World} {s:Nat} {m m1:Nat→Int} {w' w1:World} (h:IV a w (s+1) m w') (l:Below w'.heap.size w' w1) (s1:In 256 32 m1∧val 256 m1 32=(val 256 m 32*val 256 m 32)%kQ) (hb:E/2^s%2=0) :
 IV a w s m1 (w1.setCells (w.heap.size+1+1) 0 (row .u8 32 m1)):=by
 refine ⟨s1.1,?_,(h.ha.call h.fr l JK).setAll_other _ JK 0 _,(h.hr.call h.fr l JK).setAll_other _ JK 0 _,Has.all (h.hn.call h.fr l JK).there .u8 m1,(h.fr.call l).setAll _ JK _⟩
 rw [q9c s,hb,Nat.add_zero,s1.2,h.eq,x0o,← Int.pow_add,← Nat.two_mul]
theorem IV.odd {a:Nat→Int} {w:World} {s:Nat} {m m1 m2:Nat→Int} {w' w1 w2:World} (h:IV a w (s+1) m w') (l:Below w'.heap.size w' w1) (s1:In 256 32 m1∧val 256 m1 32=(val 256 m 32*val 256 m 32)%kQ)
 (l2:Below (w1.setCells (w.heap.size+1+1) 0 (row .u8 32 m1)).heap.size (w1.setCells (w.heap.size+1+1) 0 (row .u8 32 m1)) w2) (s2:In 256 32 m2∧val 256 m2 32=(val 256 m1 32*val 256 a 32)%kQ) (hb:E/2^s%2=1) :
 IV a w s m2 (w2.setCells (w.heap.size+1+1) 0 (row .u8 32 m2)):=by
 have f1:=(h.fr.call l).setAll (w.heap.size+1+1) JK (row .u8 32 m1); have a1:=(h.ha.call h.fr l JK).setAll_other (w.heap.size+1+1) JK 0 (row .u8 32 m1); have r1:=(h.hr.call h.fr l JK).setAll_other (w.heap.size+1+1) JK 0 (row .u8 32 m1); have n1:=Has.all (h.hn.call h.fr l JK).there .u8 m1
 refine ⟨s2.1,?_,(a1.call f1 l2 JK).setAll_other _ JK 0 _,(r1.call f1 l2 JK).setAll_other _ JK 0 _,Has.all (n1.call f1 l2 JK).there .u8 m2,(f1.call l2).setAll _ JK _⟩
 rw [q9c s,hb,Int.pow_succ,s2.2,s1.2,h.eq,x0o,← Int.pow_add,← Nat.two_mul,q4u]
theorem aH (a:Nat→Int) (ha:In 256 32 a) (w:World) :
 Calls Tryz.prog 66 #[(.agg (row .u8 32 (a)).toArray)] w fun e w'=>∃ f:Nat→Int,e=.returned (.agg (row .u8 32 (f)).toArray)∧(In 256 32 f∧val 256 f 32=val 256 a 32^E%kQ)∧Below w.heap.size w w':=by
 have a0:Has (((w.alloc (.cells (row .u8 32 a).toArray 23)).alloc (.cells jY 23)).alloc (.cells jY 23)) w.heap.size .u8 32 a:=((Has.new w _ _ _ _ _ rfl).alloc _ Jf).alloc _ Ji
 have z0:Has (((w.alloc (.cells (row .u8 32 a).toArray 23)).alloc (.cells jY 23)).alloc (.cells jY 23)) (w.heap.size+1) .u8 32 (fun _=>0):=(jK _ _ _ Jf).alloc _ Jf
 have n0:Has (((w.alloc (.cells (row .u8 32 a).toArray 23)).alloc (.cells jY 23)).alloc (.cells jY 23)) (w.heap.size+1+1) .u8 32 (fun _=>0):=jK _ _ _ Jf
 have g0:Fr w 3 (((w.alloc (.cells (row .u8 32 a).toArray 23)).alloc (.cells jY 23)).alloc (.cells jY 23)):=(((Fr.refl w).alloc _).alloc _).alloc _
 have tok:True:=trivial
 go_enter Tryz.func66,Tryz.ntmps66
 go_wp2_with (have _t:=tok; refine ys .u8 32 (one 1) (yQ (n0)) (jV _) ?_; clear tok)
 have v0:IV a w 256 (one 1) ((((w.alloc (.cells (row .u8 32 a).toArray 23)).alloc (.cells jY 23)).alloc (.cells jY 23)).setCells (w.heap.size+1+1) 0 (row .u8 32 (one 1))) :=
  ⟨vY 1 JG JG,by rw [x1g,Int.pow_zero,bZ]; decide,a0.setAll_other _ JK 0 _,z0.setAll_other _ JK 0 _,Has.all n0.there .u8 (one 1),g0.setAll _ JK _⟩
 clear a0 z0 n0 g0
 go_loopw [4] (fun i w'=>∃ (t:Nat) (z:Int) (m:Nat→Int),t≤16∧z=(t:Int)-1∧i=.int .i64 z∧IV a w (16*t) m w') (fun i _=>(intOf i+1).toNat)
 case atStart=>exact ⟨16,15,one 1,by omega,by decide,rfl,v0⟩
 case round =>
  obtain ⟨t,z,m0,ht,hz,rfl,hO⟩:=hrel; clear v0; by_cases hlt:0<t
  · obtain ⟨s,rfl⟩:∃ s,t=s+1:=⟨t-1,by omega⟩
    obtain rfl:z=(s:Int):=by omega
    have s16:s<16:=by omega
    have g1:(0:Int)≤(s:Int):=by omega
    have g2:(s:Int)<16:=by omega
    have q1:=cM s; have q2:32767≤kpD s:=by unfold kpD; split <;> (try split) <;> omega
    clear hz hlt ht; obtain ⟨wo,rfl⟩:∃ wo:World,wo=wr:=⟨_,rfl⟩
    by_cases hs:s=0
    · have e0:((s:Int) == 0)=true:=by simp [hs]
      have HD:=show Hid _ from (fun q hq=>j4p s q s16 hq)
      have HV:=show Hid (eD s=kpD s-2) from by rw [hs]; rfl
      clear hs; go_wp2_with fail; refine (zN s s16 _).mono ?_; rintro e w' ⟨rfl,rfl⟩; have v1:0≤kpD s-2:=by omega
      have v2:kpD s-2<65536:=by omega
      go_wp2; go_loopw [6] (fun i w'=>∃ (u:Nat) (z:Int) (m:Nat→Int),u≤16∧z=(u:Int)-1∧i=.int .i64 z∧IV a w (16*s+u) m w') (fun i _=>(intOf i+1).toNat)
      case atStart=>exact ⟨16,15,m0,by omega,by decide,rfl,hO⟩
      case round =>
       obtain ⟨u,z,m,hu,hz,rfl,hI⟩:=hrel; clear hO; by_cases hlt:0<u
       · obtain ⟨q,rfl⟩:∃ q,u=q+1:=⟨u-1,by omega⟩
         obtain rfl:z=(q:Int):=by omega
         have hn':=hI.hn; have g3:(0:Int)≤(q:Int):=by omega
         have g4:(q:Int)<16:=by omega
         clear hz hlt; go_wp2_with (refine yl (hn') Tryz.underlying23 (jJ _) ?_); refine (uL m m hI.inn hI.inn _).mono ?_; rintro e w1 ⟨m1,rfl,s1,l1⟩; have hn1:=hn'.call hI.fr l1 JK; have hm2:=Has.all hn1.there .u8 m1; have ha2:=(hI.ha.call hI.fr l1 JK).setAll_other (w.heap.size+1+1) JK 0 (row .u8 32 m1); have i1:=s1.1; have H1:=show Hid _ from s1; have HI:=show Hid _ from hI
         have hT:=dQ (kpD s-2) v1 v2 q; have hB:=HD.out q JK; rw [HV.out] at hB; clear s1 hn' hI; have tok:True:=trivial
         cases hb:(bits BinOp.and IntKind.i64 ((kpD s-2)/2^q) 1 == 1)
         · have hodd:E/2^(16*s+q)%2=0:=by
            rw [hb] at hT; have h2:¬ ((kpD s-2).toNat/2^q%2=1):=by simpa using hT.symm
            omega
           exact ZZ
         have hodd:E/2^(16*s+q)%2=1:=by
          rw [hb] at hT; have h2:(kpD s-2).toNat/2^q%2=1:=by simpa using hT.symm
          omega
         have HO:=show Hid _ from hodd; clear hT hodd hB
         go_wp2_with (first | (have _t:=tok; refine ys .u8 32 (m1) (yQ (hn1)) (jV _) ?_; clear tok) | (refine yl (hm2) Tryz.underlying23 (jJ _) ?_) | (refine yl (ha2) Tryz.underlying23 (jJ _) ?_)); refine (uL m1 a i1 ha _).mono ?_; rintro e w2 ⟨m2,rfl,s2,l2⟩; exact Qt
       obtain rfl:u=0:=by omega
       obtain rfl:z=-1:=by omega
       exact JQ
    have e0:((s:Int) == 0)=false:=by simp; omega
    have HD:=show Hid _ from (fun q hq=>j4p s q s16 hq); have HV:=show Hid _ from (show eD s=kpD s from by unfold eD; rw [if_neg hs]); clear hs
    go_wp2_with fail; refine (zN s s16 _).mono ?_; rintro e w' ⟨rfl,rfl⟩; have v1:0≤kpD s:=by omega
    have v2:kpD s<65536:=by omega
    go_wp2; go_loopw [6] (fun i w'=>∃ (u:Nat) (z:Int) (m:Nat→Int),u≤16∧z=(u:Int)-1∧i=.int .i64 z∧IV a w (16*s+u) m w') (fun i _=>(intOf i+1).toNat)
    case atStart=>exact ⟨16,15,m0,by omega,by decide,rfl,hO⟩
    case round =>
     obtain ⟨u,z,m,hu,hz,rfl,hI⟩:=hrel; clear hO; by_cases hlt:0<u
     · obtain ⟨q,rfl⟩:∃ q,u=q+1:=⟨u-1,by omega⟩
       obtain rfl:z=(q:Int):=by omega
       have hn':=hI.hn; have g3:(0:Int)≤(q:Int):=by omega
       have g4:(q:Int)<16:=by omega
       clear hz hlt; go_wp2_with (refine yl (hn') Tryz.underlying23 (jJ _) ?_); refine (uL m m hI.inn hI.inn _).mono ?_; rintro e w1 ⟨m1,rfl,s1,l1⟩; have hn1:=hn'.call hI.fr l1 JK; have hm2:=Has.all hn1.there .u8 m1; have ha2:=(hI.ha.call hI.fr l1 JK).setAll_other (w.heap.size+1+1) JK 0 (row .u8 32 m1); have i1:=s1.1; have H1:=show Hid _ from s1; have HI:=show Hid _ from hI; have hT:=dQ (kpD s) v1 v2 q
       have hB:=HD.out q JK; rw [HV.out] at hB; clear s1 hn' hI; have tok:True:=trivial
       cases hb:(bits BinOp.and IntKind.i64 ((kpD s)/2^q) 1 == 1)
       · have hodd:E/2^(16*s+q)%2=0:=by
          rw [hb] at hT; have h2:¬ ((kpD s).toNat/2^q%2=1):=by simpa using hT.symm
          omega
         exact ZZ
       have hodd:E/2^(16*s+q)%2=1:=by
        rw [hb] at hT; have h2:(kpD s).toNat/2^q%2=1:=by simpa using hT.symm
        omega
       have HO:=show Hid _ from hodd; clear hT hodd hB
       go_wp2_with (first | (have _t:=tok; refine ys .u8 32 (m1) (yQ (hn1)) (jV _) ?_; clear tok) | (refine yl (hm2) Tryz.underlying23 (jJ _) ?_) | (refine yl (ha2) Tryz.underlying23 (jJ _) ?_)); refine (uL m1 a i1 ha _).mono ?_; rintro e w2 ⟨m2,rfl,s2,l2⟩; exact Qt
     obtain rfl:u=0:=by omega
     obtain rfl:z=-1:=by omega
     exact JQ
  obtain rfl:t=0:=by omega
  obtain rfl:z=-1:=by omega
  have hn:=hO.hn; have hz':=hO.hr; have hE:In 256 32 m0∧val 256 m0 32=val 256 a 32^E%kQ:=⟨hO.inn,by have e:=hO.eq; rwa [Nat.mul_zero,Nat.pow_zero,Nat.div_one] at e⟩
  have HE:=show Hid _ from hE; have hL:=(hO.fr.setAll (w.heap.size+1) JK (row .u8 32 m0)).below; clear hE hz hlt ht hO
  go_wp2_with (first | (refine yl (hn) Tryz.underlying23 (jJ _) ?_) | (refine ys .u8 32 (m0) (yQ (hz')) (jV _) ?_)); exact bRq (v:=(.agg (row .u8 32 (m0)).toArray)) (jQ Tryz.results66 rfl (Has.all hz'.there .u8 m0).range Tryz.underlying23 rfl (jJ m0)) rfl ⟨m0,rfl,HE.out,hL⟩
end Go.Proofs.YtknodlefhclijaaGreatDoor
