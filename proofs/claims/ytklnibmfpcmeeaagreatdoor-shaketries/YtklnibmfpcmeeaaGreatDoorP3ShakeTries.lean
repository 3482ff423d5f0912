/- Texts of Float Cw Sr Cb Pa Hold Gn, joined. -/
import Derived.Test.YtklnibmfpcmeeaaGreatDoorP2ShakeTries
import Derived.Lib.SlBytesConst
set_option maxRecDepth 20000
set_option maxHeartbeats 64000000
namespace Go.Proofs.YtklnibmfpcmeeaaGreatDoor
open Go.RowKit
section
structure Fb (n w0 B:Nat) (w:World):Prop where
 lo:w0≤B
 hi:B<w.heap.size
 th:w.there B 0 n
theorem Fb.call {n w0 B:Nat} {w w':World} (h:Fb n w0 B w) (l:Below w.heap.size w w'):Fb n w0 B w':=⟨h.lo,xnL h.hi l.size,there_below h.th l h.hi⟩
theorem Fb.alloc {n w0 B:Nat} {w:World} (h:Fb n w0 B w) (o:Obj):Fb n w0 B (w.alloc o):=h.call ((Below.refl w.heap.size w).alloc (xnR _) o)
theorem Kr.land {w w':World} {m:Nat} {l:List (Nat × IntKind × Nat × (Nat→Int))} {R:List (Nat × Nat)} (h:Kr w m l R w') {n B:Nat} (b:Fb n m B w') (k:IntKind) (f:Nat→Int) :
 Kr w w'.heap.size ((B,k,n,f)::l) R (w'.setCells B 0 (row k n f)):=by
 have hc:=h.past B b.lo (row k n f); have i1:=b.hi; have j1:=b.lo
 refine ⟨fun p hp=>?_,fun q hq=>⟨(hc.room q hq).1,xnL (hc.room q hq).2.1 h.size,(hc.room q hq).2.2⟩,fun p hp q hq=>?_,by rw [size_setAll]; exact xnR _,xnT h.base h.size,hc.below⟩
 · rcases xc1 hp with rfl | hp
   · exact ⟨Has.all b.th k f,i1⟩
   · exact ⟨(hc.rows p hp).1,xnL (h.rows p hp).2 h.size⟩
 · have:=(h.room q hq).2.1
   rcases xc1 hp with rfl | hp
   · simp only; omega
   · exact h.apart p hp q hq
section
variable {P:Program} {ops:Array Oper} {Q:Exit→Act→World→Prop} {md:Region.Mode} {S:World→Prop}
theorem callOp {i:Nat} {oi:Oper} {f:FuncId} {args:Array Value} {R:Ending→World→Prop} {K:Act→World→Prop} {a:Act} {w:World} (hi:ops[i]?=some oi) (hg:oi.guard=none) (he:(execOp a.eval oi).run P w=.ok (.enter f args) w)
 (hc:Calls P f args w R) (hK:∀ e w',R e w'→∃ v,e=.returned v∧K (a.put oi.dst v) w'):wpOp P ops Q i K a w:=by
 have hw:Region.wanted oi (yielded ops a.tmps)=true:=by unfold Region.wanted; rw [hg]
 unfold wpOp
 simp only [hi,hw,if_true]; refine .inl ?_
 unfold Oper.wp
 rw [he]
 exact hc.mono fun e w' hR=>by
  obtain ⟨v,rfl,h⟩:=hK e w' hR
  exact h
theorem allocOp {i:Nat} {oi:Oper} {v:Value} {K:Act→World→Prop} {a:Act} {w w':World} (hi:ops[i]?=some oi) (hg:oi.guard=none) (he:(execOp a.eval oi).run P w=.ok (.value v) w')
 (h:K (a.put oi.dst v) w'):wpOp P ops Q i K a w:=by
 have hw:Region.wanted oi (yielded ops a.tmps)=true:=by unfold Region.wanted; rw [hg]
 unfold wpOp
 simp only [hi,hw,if_true]; refine .inl ?_
 unfold Oper.wp
 rw [he]
 exact h
theorem wpAnyH_cast {fuel:Nat} {l l':Array Bool} {a a':Act} {w:World} (h:wpAnyH P md ops Q S fuel l a w) (el:l'=l) (ea:a'=a):wpAnyH P md ops Q S fuel l' a' w:=by subst el ea; exact h
theorem eval_two {a:Act} {o:Oper} (x y:Tmp) (u v:Value) (hs:∀ cs b,o.op≠.select cs b) (h1:x∉o.looksAt ops) (h2:y∉o.looksAt ops):execOp ((a.put (some x) u).put (some y) v).eval o=execOp a.eval o:=by
 rw [execOp_put (ops:=ops) o hs _ _ _ (fun d hd=>by injection hd with hd; subst hd; exact h2),execOp_put (ops:=ops) o hs _ _ _ (fun d hd=>by injection hd with hd; subst hd; exact h1)]
theorem eval_one {a:Act} {o:Oper} (x:Tmp) (u:Value) (hs:∀ cs b,o.op≠.select cs b) (h1:x∉o.looksAt ops):execOp (a.put (some x) u).eval o=execOp a.eval o :=
 execOp_put (ops:=ops) o hs _ _ _ (fun d hd=>by injection hd with hd; subst hd; exact h1)
theorem put_comm' (a:Act) {x y:Tmp} (v u:Value) (h:x≠y):(a.put (some x) v).put (some y) u=(a.put (some y) u).put (some x) v :=
 Act.put_comm a v u (fun d hd e=>by injection hd with hd; injection e with e; exact h (hd.trans e.symm))
def Chain (P:Program) (ops:Array Oper) (Q:Exit→Act→World→Prop) (md:Region.Mode) (S:World→Prop) (z:Nat) (t:Tmp) (n w0 fuel:Nat):Nat→Array Bool→Act→Prop
 | 0,L,a=>Region.ready md ops L=[z]∧∀ B w,S w→Fb n w0 B w→wpAnyH P md ops Q S fuel (L.setIfInBounds z true) (a.put (some t) (.pointer (some ⟨B,0,none⟩))) w
 | k+1,L,a=>∃ (c:Nat) (r:Tmp) (x:Oper) (f:FuncId) (g:Array Value) (V:Value→Prop),Region.ready md ops L=[c,z]∧Region.ready md ops (L.setIfInBounds z true)=[c]∧ops[c]?=some x∧x.guard=none∧x.dst=some r∧z≠c∧t≠r∧(∀ cs b,x.op≠.select cs b)∧t∉x.looksAt ops∧(∀ w,(execOp a.eval x).run P w=.ok (.enter f g) w) ∧
    (∀ w,S w→Calls P f g w fun e w'=>∃ v,e=.returned v∧V v∧Below w.heap.size w w')∧∀ v,V v→Chain P ops Q md S z t n w0 fuel k (L.setIfInBounds c true) (a.put (some r) v)
theorem Chain.last {z:Nat} {t:Tmp} {n w0 fuel:Nat} {L:Array Bool} {a:Act} (hr:Region.ready md ops L=[z]) (h:∀ B w,S w→Fb n w0 B w→wpAnyH P md ops Q S fuel (L.setIfInBounds z true) (a.put (some t) (.pointer (some ⟨B,0,none⟩))) w):Chain P ops Q md S z t n w0 fuel 0 L a:=⟨hr,h⟩
theorem Chain.call {z:Nat} {t:Tmp} {n w0 fuel k:Nat} {L:Array Bool} {a:Act} (c:Nat) (r:Tmp) {x:Oper} {f:FuncId} {g:Array Value} (V:Value→Prop) (hr:Region.ready md ops L=[c,z]) (hr':Region.ready md ops (L.setIfInBounds z true)=[c]) (hx:ops[c]?=some x) (hg:x.guard=none) (hd:x.dst=some r)
 (hz:z≠c) (ht:t≠r) (hs:∀ cs b,x.op≠.select cs b) (hl:t∉x.looksAt ops) (he:∀ w,(execOp a.eval x).run P w=.ok (.enter f g) w)
 (hc:∀ w,S w→Calls P f g w fun e w'=>∃ v,e=.returned v∧V v∧Below w.heap.size w w') (h:∀ v,V v→Chain P ops Q md S z t n w0 fuel k (L.setIfInBounds c true) (a.put (some r) v)):Chain P ops Q md S z t n w0 fuel (k+1) L a :=
 ⟨c,r,x,f,g,V,hr,hr',hx,hg,hd,hz,ht,hs,hl,he,hc,h⟩
theorem Chain.made {z:Nat} {t:Tmp} {n w0 fuel k:Nat} {L:Array Bool} {a:Act} (h:Chain P ops Q md S z t n w0 fuel k L a) (hSc:∀ w w',S w→Below w.heap.size w w'→S w') :
 ∀ B w,S w→Fb n w0 B w→wpAnyH P md ops Q S (fuel+k) (L.setIfInBounds z true) (a.put (some t) (.pointer (some ⟨B,0,none⟩))) w:=by
 induction k generalizing L a with
 | zero=>exact fun B w hS hB=>h.2 B w hS hB
 | succ k ih =>
   obtain ⟨c,r,x,f,g,V,_,hr',hx,hg,hd,hz,ht,hs,hl,he,hc,h'⟩:=h
   intro B w hS hB; refine wpAnyH_all hr' (by simp) fun j hj=>?_
   obtain rfl:=xm1 hj
   refine callOp hx hg (by rw [eval_one (ops:=ops) t _ hs hl]; exact he w) (hc w hS) fun e w' hR=>?_
   obtain ⟨v,rfl,hv,l⟩:=hR
   have hs1:=hSc _ _ hS l
   refine ⟨v,rfl,hs1,?_⟩
   rw [hd]
   refine wpAnyH_cast (ih (h' v hv) B w' hs1 (hB.call l)) ?_ ?_
   · rw [Array.setIfInBounds_comm _ _ hz]
   · rw [put_comm' _ _ _ ht]
theorem Chain.go {z:Nat} {t:Tmp} {n w0 fuel k:Nat} {L:Array Bool} {a:Act} (h:Chain P ops Q md S z t n w0 fuel k L a) {xz:Oper} (cs:Array Value) (ty:TypeId) (iz:ops[z]?=some xz) (gz:xz.guard=none) (dz:xz.dst=some t)
 (ez:∀ (b:Act) (w:World),(execOp b.eval xz).run P w=.ok (.value (.pointer (some ⟨w.heap.size,0,none⟩))) (w.alloc (.cells cs ty)))
 (hn:∀ w:World,(w.alloc (.cells cs ty)).there w.heap.size 0 n) (hS0:∀ w,S w→w0≤w.heap.size) (hSc:∀ w w',S w→Below w.heap.size w w'→S w') :
 ∀ w,S w→wpAnyH P md ops Q S (fuel+k+1) L a w:=by
 have hSa:∀ w:World,S w→S (w.alloc (.cells cs ty)):=fun w h=>hSc w _ h ((Below.refl w.heap.size w).alloc (xnR _) _)
 have hNew:∀ w:World,S w→Fb n w0 w.heap.size (w.alloc (.cells cs ty)):=fun w h=>⟨hS0 w h,by simp,hn w⟩
 induction k generalizing L a with
 | zero =>
   intro w hS; refine wpAnyH_all h.1 (by simp) fun j hj=>?_
   obtain rfl:=xm1 hj
   refine allocOp iz gz (ez _ w) ?_
   rw [dz]
   exact ⟨hSa _ hS,h.2 _ _ (hSa _ hS) (hNew _ hS)⟩
 | succ k ih =>
   obtain ⟨c,r,x,f,g,V,hr,hr',hx,hg,hd,hz,ht,hs,hl,he,hc,h'⟩:=h
   intro w hS; refine wpAnyH_all hr (by simp) fun j hj=>?_
   simp only [List.mem_cons,List.not_mem_nil,or_false] at hj
   rcases hj with rfl | rfl
   · refine callOp hx hg (he w) (hc w hS) fun e w' hR=>?_
     obtain ⟨v,rfl,hv,l⟩:=hR
     have hs1:=hSc _ _ hS l
     refine ⟨v,rfl,hs1,?_⟩
     rw [hd]
     exact ih (h' v hv) w' hs1
   · refine allocOp iz gz (ez _ w) ?_
     rw [dz]
     exact ⟨hSa _ hS,Chain.made (Chain.call c r V hr hr' hx hg hd hz ht hs hl he hc h') hSc _ _ (hSa _ hS) (hNew _ hS)⟩
theorem actH {i:Nat} {oi:Oper} (dst:Option Tmp) (hdst:oi.dst=dst) {fuel:Nat} {listed:Array Bool} {a:Act} {w w':World} (v:Value) (hr:Region.ready md ops listed=[i]) (hi:ops[i]?=some oi)
 (hw:Region.wanted oi (yielded ops a.tmps)=true) (he:(execOp a.eval oi).run P w=.ok (.value v) w') (hS:S w')
 (h:wpAnyH P md ops Q S fuel (listed.setIfInBounds i true) (a.put dst v) w'):wpAnyH P md ops Q S (fuel+1) listed a w :=
 ⟨fun h0=>(by rw [h0] at hr; cases hr),fun j hj=>by
  rw [hr] at hj
  obtain rfl:=xm1 hj
  unfold wpOp
  simp only [hi,hw,if_true]; refine .inl ?_
  unfold Oper.wp
  rw [he]
  subst hdst
  exact ⟨hS,h⟩⟩
theorem actL {o:Oper} {rest:List Oper} {a:Act} {w w':World} (v:Value) (hw:Region.wanted o (yielded ops a.tmps)=true) (he:(execOp a.eval o).run P w=.ok (.value v) w')
 (h:wpList P ops Q rest (a.put o.dst v) w'):wpList P ops Q (o::rest) a w:=by
 unfold wpList
 rw [if_pos hw]
 refine .inl ?_
 unfold Oper.wp
 rw [he]
 exact h
theorem run_copy {o:Oper} {a:Act} {w:World} (d s:Operand) (dT sT elem:TypeId) (ho:o.op=.call { callee:=.builtin .copy,args:=#[d,s],argTypes:=#[dT,sT] }) (hu:P.underlying dT=some (.slice elem)) (hsz:(P.info? elem).map (·.size)=some 1)
 (b dLen dCap c co sLen sCap m n:Nat) (k:IntKind) (f g:Nat→Int) (hd:a.eval d=.slice (some ⟨b,0,none⟩) dLen dCap) (hs:a.eval s=.slice (some ⟨c,co,none⟩) sLen sCap) (hm:m=Nat.min sLen dLen) (hmn:m≤n) (hb:w.there b 0 n)
 (hc:∀ j,j<m→w.cell? ⟨c,co+j,none⟩=some (.int k (f (co+j)))) (hg:∀ j,j<m→f (co+j)=g j) :
 (execOp a.eval o).run P w=.ok (.value (.int .i64 (m:Int))) (w.setCells b 0 (row k m g)):=by
 have hrun:=run_copy_cells (P:=P) w dT sT o.type elem b 0 dLen dCap ⟨c,co,none⟩ sLen sCap (row k m g) hu hsz (by rw [row_length]; exact hm) (fun j v hv=>by
  obtain ⟨hj,rfl⟩:=row_get_some hv
  rw [Addr.add_mid,hc j hj,hg j hj]) (fun j hj=>by rw [row_length] at hj; exact (hb j (by omega)).1) (fun j hj=>by rw [row_length] at hj; exact (hb j (by omega)).2) (row_one k m g)
 rw [row_length] at hrun
 simp [execOp,ho,resolve,invoke,builtin,hd,hs,hrun,Result.andThen,goInt]
end
end
def clowB (s:Nat→Int):Nat→Int:=over (fun _=>0) 0 16 s
theorem lowB_in (s:Nat→Int) (h:In 256 16 s):In 256 17 (clowB s):=over_in (fun _ _=>⟨Int.le_refl 0,(by decide:(0:Int)<256)⟩) h
theorem lowB_val (s:Nat→Int):val 256 (clowB s) 17=val 256 s 16:=by
 have e:val 256 (clowB s) 17=val 256 (clowB s) 16+256^16*clowB s 16:=rfl
 have e1:clowB s 16=0:=by unfold clowB over; rw [if_neg (by omega)]
 have e2:val 256 (clowB s) 16=val 256 s 16:=val_congr 256 16 fun j hj=>by unfold clowB over; rw [if_pos (by omega),Nat.sub_zero]
 rw [e,e1,e2,Int.mul_zero,Int.add_zero]
theorem low_val (f:Nat→Int) (h:In 256 17 f):val 256 f 16=val 256 f 17%340282366920938463463374607431768211456:=by
 have e:val 256 f 17=val 256 f 16+256^16*f 16:=rfl
 have i:=val_in 256 (by decide) f 16 (fun j hj=>h j (by omega))
 rw [show (256:Int)^16=340282366920938463463374607431768211456 from by decide] at e i
 omega
theorem clow_any (a s:Nat→Int) (ha:In 256 17 a) (hs:In 256 16 s) (w:World) (hg:Glob w) :
 Calls Tryz.prog 154 #[(.agg (row .u8 17 (a)).toArray),(.agg (row .u8 16 (s)).toArray)] w fun e w'=>∃ f:Nat→Int,e=.returned (.agg (row .u8 16 (f)).toArray)∧(In 256 16 f∧val 256 f 16=(val 256 a 17%Q+val 256 s 16)%340282366920938463463374607431768211456)∧Below w.heap.size w w':=by
 have K:=Kr.init w; replace K:=K.box .u8 17 a 160 w.heap.size rfl; replace K:=K.box .u8 16 s 51 (w.heap.size+1) (by simp); replace K:=K.make 16 zu8_16 51 (w.heap.size+1+1) (by simp) (tag_zero _ _ _ (by simp)).there
 go_enter Tryz.func154,Tryz.ntmps154
 go_upto_region 1 with fail; generalize (((w.alloc (.cells (row .u8 17 a).toArray 160)).alloc (.cells (row .u8 16 s).toArray 51)).alloc (.cells zu8_16 51))=w1 at K ⊢; have s1:=K.size; have H:=big_zero w1 160 w1.heap.size rfl; replace K:=K.make 17 zu8_17 160 w1.heap.size rfl H.there; go_upto_region 2 with fail; generalize w1.alloc (.cells zu8_17 160)=w2 at K H ⊢
 generalize w1.heap.size=O at *; clear w1; refine wp_region_held_drew (S:=fun w'=>Kr w _ [(w.heap.size+1,.u8,16,s),(w.heap.size,.u8,17,a)] [(O,17),(w.heap.size+1+1,16)] w') (by kernel_rfl) K.drew ?_; clear K; intro K; replace H:=H.drew; refine xpH 0 9 (.slice (some ⟨O,0,none⟩) 17 17) K ?_; refine xpH 1 10 (.slice (some ⟨w.heap.size+1,0,none⟩) 16 16) K ?_
 refine actH (i:=2) (some 11) rfl (.int .i64 ((16:Nat):Int)) (by kernel_rfl) rfl rfl (run_copy _ _ 32 32 5 rfl Tryz.underlying32 (by kernel_rfl) O 17 17 (w.heap.size+1) 0 16 16 16 17 .u8 s s rfl rfl rfl (by omega) H.there (fun j hj=>(K.get _ _ _ _ mS).cell (0+j) (by omega)) (fun j _=>by rw [Nat.zero_add])) (K.fill O 17 mS _) ?_; simp only [aP,lI,l0,lS]
 refine wpAnyH_done (by kernel_rfl) ?_ _
 replace K:=(K.fill O 17 mS (row .u8 16 s)).settle [(w.heap.size+1+1,16)] O .u8 17 (clowB s) mS (fun q hq=>mT _ hq) (fC ⟨by show w.heap.size+1+1≠O; omega,List.forall_mem_nil _⟩) (H.part 0 16 (by omega) s); clear H; generalize (w2.drew.setCells O 0 (row .u8 16 s))=w3 at K ⊢; clear w2; go_upto_region 3 with fail
 refine wp_region_held_drew (S:=fun w'=>Kr w _ [(O,.u8,17,clowB s),(w.heap.size+1,.u8,16,s),(w.heap.size,.u8,17,a)] [(w.heap.size+1+1,16)] w') (by kernel_rfl) K.drew ?_; clear K; intro K
 refine rowKH (i:=0) (some 12) rfl .u8 17 a w.heap.size 0 160 _ _ rfl rfl rfl rfl (by kernel_rfl) (by kernel_rfl) (by kernel_rfl) (fun _ _ _ h=>h) Tryz.underlying160 rfl (big_info _) K (fun _ h=>(h.get _ _ _ _ (mI 2 rfl)).range) ?_; simp only [aP,lI,l0,lS]
 refine rowKH (i:=3) (some 15) rfl .u8 17 (clowB s) O 0 160 _ _ rfl rfl rfl rfl (by kernel_rfl) (by kernel_rfl) (by kernel_rfl) (fun _ _ _ h=>h) Tryz.underlying160 rfl (big_info _) K (fun _ h=>(h.get _ _ _ _ mS).range) ?_; simp only [aP,lI,l0,lS]
 refine Chain.go (z:=6) (t:=6) (n:=3) (w0:=O+1) (k:=4) ?_ #[.int .u64 0,.int .u64 0,.int .u64 0] 192 rfl rfl rfl (fun _ _=>by kernel_rfl) (fun _=>(cnum_zero _ _ _ rfl).there) (fun _ h=>h.size) (fun _ _ h l=>h.call l) _ K
 refine Chain.call 1 13 (fun v=>∃ m,v=(.agg (row .u64 3 (m)).toArray)∧Folded m∧val W m 3%Q=val 256 a 17%Q) (by kernel_rfl) (by kernel_rfl) rfl rfl rfl (by decide) (by decide) (by intros; simp) (by decide +kernel) (fun _=>by kernel_rfl) (fun w' _=>(cload_any a ha w').mono fun e w'' ⟨m,he,hm,l⟩=>⟨_,he,⟨m,rfl,hm⟩,l⟩) ?_; rintro _ ⟨m1,rfl,t1⟩; simp only [aP,lI,l0,lS]
 refine Chain.call 2 14 (fun v=>∃ m,v=(.agg (row .u64 3 (m)).toArray)∧In W 3 m∧val W m 3=val W m1 3%Q) (by kernel_rfl) (by kernel_rfl) rfl rfl rfl (by decide) (by decide) (by intros; simp) (by decide +kernel) (fun _=>by kernel_rfl) (fun w' h=>(cleast_any m1 t1.1.1 t1.1.2 w' (hg.below h.below hg.size)).mono fun e w'' ⟨m,he,hm,l⟩=>⟨_,he,⟨m,rfl,hm⟩,l⟩) ?_
 rintro _ ⟨m2,rfl,t2⟩; simp only [aP,lI,l0,lS]
 refine Chain.call 4 16 (fun v=>∃ m,v=(.agg (row .u64 3 (m)).toArray)∧In W 3 m∧m 2<256∧val W m 3=val 256 (clowB s) 17) (by kernel_rfl) (by kernel_rfl) rfl rfl rfl (by decide) (by decide) (by intros; simp) (by decide +kernel) (fun _=>by kernel_rfl) (fun w' _=>(split_any (clowB s) (lowB_in s hs) w').mono fun e w'' ⟨m,he,hm,l⟩=>⟨_,he,⟨m,rfl,hm⟩,l⟩) ?_
 rintro _ ⟨m3,rfl,t3⟩; simp only [aP,lI,l0,lS]
 have hsum:val W m2 3+val W m3 3<W^3:=by
  have q1:=t2.2; have q3:=t3.2.2
  rw [lowB_val] at q3
  have q2:=val_in 256 (by decide) s 16 hs
  rw [show (256:Int)^16=340282366920938463463374607431768211456 from by decide] at q2
  rw [W3,q1,q3]
  simp only [Q]
  omega
 refine Chain.call 5 17 (fun v=>∃ m,v=(.agg (row .u64 3 (m)).toArray)∧In W 3 m∧val W m 3=val W m2 3+val W m3 3) (by kernel_rfl) (by kernel_rfl) rfl rfl rfl (by decide) (by decide) (by intros; simp) (by decide +kernel) (fun _=>by kernel_rfl) (fun w' _=>(plus_any m2 m3 t2.1 t3.1 hsum w').mono fun e w'' ⟨m,he,hm,l⟩=>⟨_,he,⟨m,rfl,hm⟩,l⟩) ?_; rintro _ ⟨m4,rfl,t4⟩
 simp only [aP,lI,l0,lS]; refine Chain.last (by kernel_rfl) ?_; clear K; intro B w4 K hF; simp only [aP,lI,l0,lS]; refine storesH (i:=7) none rfl .u64 3 m4 B 192 _ _ (by kernel_rfl) rfl rfl rfl rfl rfl (room_of hF.th) (cnum_info' _) (K.past B hF.lo _) ?_
 refine wpAnyH_done (by kernel_rfl) ?_ _
 have hBO:=hF.lo; replace K:=K.land hF .u64 m4; clear hF
 have hfit:In 256 17 (joinB m4)∧val 256 (joinB m4) 16=(val 256 a 17%Q+val 256 s 16)%340282366920938463463374607431768211456:=by
  refine ⟨joinB_in m4,?_⟩
  rw [low_val _ (joinB_in m4),joinB_val m4 t4.1,t4.2,t3.2.2,lowB_val,t2.2,t1.2]
  omega
 have HE:=show Hid _ from hfit; clear hfit t1 t2 t3 t4 hsum; generalize w4.setCells B 0 (row .u64 3 m4)=w5 at K ⊢; have s5:=K.size; generalize w4.heap.size=N4 at K s5; clear w4; go_upto_region 4 with fail; replace K:=K.make 16 zu8_16 51 w5.heap.size rfl (tag_zero _ _ _ rfl).there; go_upto_region 5 with fail; generalize w5.alloc (.cells zu8_16 51)=w6 at K ⊢
 generalize w5.heap.size=U at K s5 ⊢; clear w5; refine wp_region_list ?_; refine rowKL .u64 3 m4 B 0 192 _ _ rfl rfl rfl Tryz.underlying192 rfl (cnum_info _) (K.get _ _ _ _ mS).range ?_; simp only [aP,lI,l0,lS]; refine xcL (join_any m4 _) ?_; rintro e w7 ⟨rfl,l⟩; replace K:=K.call l; clear l; refine xeL ?_; refine allocL zu8_17 160 rfl (fun _=>by kernel_rfl) ?_
 simp only [aP,lI,l0,lS]; refine storesL .u8 17 (joinB m4) w7.heap.size 160 _ _ rfl rfl rfl rfl (room_of (big_zero _ _ _ rfl).there) (big_info' _) ?_; simp only [Act.put]; have s7:=K.size; replace K:=K.fresh .u8 17 (joinB m4) zu8_17 160 (big_zero _ _ _ rfl).there; generalize ((w7.alloc (.cells zu8_17 160)).setCells w7.heap.size 0 (row .u8 17 (joinB m4)))=w8 at K ⊢
 generalize w7.heap.size=X at K s7 ⊢; clear w7; show Exit.then _ _ _ _ _; go_upto_region 6 with fail; refine wp_region_held_drew (S:=fun w'=>Kr w _ [(X,.u8,17,joinB m4),(B,.u64,3,m4),(O,.u8,17,clowB s),(w.heap.size+1,.u8,16,s),(w.heap.size,.u8,17,a)] [(U,16),(w.heap.size+1+1,16)] w') (by kernel_rfl) K.drew ?_; clear K; intro K
 refine xpH 0 20 (.slice (some ⟨U,0,none⟩) 16 16) K ?_; refine xpH 1 21 (.slice (some ⟨X,0,none⟩) 17 17) K ?_
 refine actH (i:=2) (some 22) rfl (.int .i64 ((16:Nat):Int)) (by kernel_rfl) rfl rfl (run_copy _ _ 32 32 5 rfl Tryz.underlying32 (by kernel_rfl) U 16 16 X 0 17 17 16 16 .u8 (joinB m4) (joinB m4) rfl rfl rfl (by omega) (K.room _ mS).1 (fun j hj=>(K.get _ _ _ _ mS).cell (0+j) (by omega)) (fun j _=>by rw [Nat.zero_add])) (K.fill U 16 mS _) ?_; simp only [aP,lI,l0,lS]
 refine wpAnyH_done (by kernel_rfl) ?_ _
 have H:=Has.all (K.room _ mS).1 .u8 (joinB m4); replace K:=K.fill U 16 mS (row .u8 16 (joinB m4)); generalize (w8.drew.setCells U 0 (row .u8 16 (joinB m4)))=w9 at K H ⊢; have hz:=(K.room _ (mT _ mS)).1; have hB:=(K.fill _ _ (mT _ mS) (row .u8 16 (joinB m4))).below; clear K s7 s5 hBO s1; generalize hj:joinB m4=f at *
 go_wp2_with (first | (refine wpList_load_mid rfl 51 _ rfl (U) 0 rfl (row .u8 16 (f)) _ (Has.range (H)) Tryz.underlying51 rfl (tag_info _) ?_) | (refine wpList_store_mid rfl 51 _ _ rfl (w.heap.size+1+1) 0 (row .u8 16 f).toArray rfl rfl (room_of hz) (tag_info' _) (all_oneCell_toArray (row_one _ _ _)) ?_))
 exact bodyPost_ret (v:=(.agg (row .u8 16 (f)).toArray)) (results_row Tryz.results154 rfl (Has.all hz .u8 f).range Tryz.underlying51 rfl (tag_info f)) rfl ⟨f,rfl,⟨fun j hj=>HE.out.1 j (by omega),HE.out.2⟩,hB⟩
section
def Src (w:World) (sp:Option Addr) (len:Nat) (z:Nat→Int):Prop:=∀ j,j<len→∃ ad,sp=some ad∧w.cell? (ad.add j)=some (.int .u8 (z j))
theorem Src.below {w w':World} {sp:Option Addr} {len:Nat} {z:Nat→Int} (h:Src w sp len z) {B:Nat} (l:Below B w w') (hB:w.heap.size≤B):Src w' sp len z:=fun j hj=>by
 obtain ⟨ad,he,hc⟩:=h j hj
 have hb:=World.block_lt_of_cell? w _ hc
 exact ⟨ad,he,by rw [l.cell (p:=ad.add j) (xnL hb hB)]; exact hc⟩
section
variable {P:Program}
theorem run_copy_src {o:Oper} {a:Act} {w:World} (d s:Operand) (dT sT elem:TypeId) (ho:o.op=.call { callee:=.builtin .copy,args:=#[d,s],argTypes:=#[dT,sT] }) (hu:P.underlying dT=some (.slice elem)) (hsz:(P.info? elem).map (·.size)=some 1)
 (b dLen dCap len cap n:Nat) (sp:Option Addr) (z:Nat→Int) (hd:a.eval d=.slice (some ⟨b,0,none⟩) dLen dCap) (hs:a.eval s=.slice sp len cap) (hl:len≤dLen) (hn:len≤n) (hb:w.there b 0 n) (hc:Src w sp len z) :
 (execOp a.eval o).run P w=.ok (.value (.int .i64 (len:Int))) (w.setCells b 0 (row .u8 len z)):=by
 by_cases h0:len=0
 · subst h0
   have hrun:=run_copy_none (P:=P) w dT sT o.type elem (some ⟨b,0,none⟩) sp dLen dCap 0 cap hu hsz (Nat.zero_min _)
   simp [execOp,ho,resolve,invoke,builtin,hd,hs,hrun,Result.andThen,goInt,row,World.setCells]
 · obtain ⟨ad,rfl,_⟩:=hc 0 (by omega)
   have hrun:=run_copy_cells (P:=P) w dT sT o.type elem b 0 dLen dCap ad len cap (row .u8 len z) hu hsz (by rw [row_length]; exact (Nat.min_eq_left hl).symm) (fun j v hv=>by
    obtain ⟨hj,rfl⟩:=row_get_some hv
    obtain ⟨ad',he,hc'⟩:=hc j hj
    injection he with he
    subst he
    exact hc') (fun j hj=>by rw [row_length] at hj; exact (hb j (by omega)).1) (fun j hj=>by rw [row_length] at hj; exact (hb j (by omega)).2) (row_one .u8 len z)
   rw [row_length] at hrun
   simp [execOp,ho,resolve,invoke,builtin,hd,hs,hrun,Result.andThen,goInt]
end
end
def blk (len:Nat) (z:Nat→Int):Nat→Int:=fun j=>if len≤16 then (if j<len then z j else if j=len then 1 else 0) else 0
def blkE (len:Nat):Int:=if len≤16 then 0 else 2
theorem blk_in (len:Nat) (z:Nat→Int) (hz:In 256 len z):In 256 17 (blk len z):=fun j _=>by
 unfold blk
 split
 · split
   · exact hz j (by assumption)
   · split <;> omega
 · omega
theorem cblock_long (sp:Option Addr) (len cap:Nat) (z:Nat→Int) (hlen:16<len) (w:World) :
 Calls Tryz.prog 173 #[.slice sp len cap] w fun e w'=>e=.returned (.tuple #[(.agg (row .u8 17 (blk len z)).toArray),.int .i64 (blkE len)])∧Below w.heap.size w w':=by
 have eb:(row .u8 17 (blk len z))=row .u8 17 (fun _=>0):=row_congr _ _ fun j _=>by unfold blk; rw [if_neg (by omega)]
 have ee:blkE len=2:=by unfold blkE; rw [if_neg (by omega)]
 rw [eb,ee]
 have z0:Has ((w.alloc (.cells zu8_17 160)).alloc (.cells zu8_17 160)) w.heap.size .u8 17 (fun _=>0):=(big_zero _ _ _ rfl).alloc _ (by simp)
 have g0:Fr w 2 ((w.alloc (.cells zu8_17 160)).alloc (.cells zu8_17 160)):=((Fr.refl w).alloc _).alloc _
 have hB:=(g0.setAll w.heap.size (xnR _) (row .u8 17 (fun _=>0))).below
 have hl:(17:Int)≤(len:Int):=by omega
 clear eb ee g0 hlen
 go_enter Tryz.func173,Tryz.ntmps173
 go_wp2_with (refine wpList_store_mid rfl 160 _ _ rfl (w.heap.size) 0 (row .u8 17 (fun _=>0)).toArray rfl rfl (big_there (z0)) (big_info' _) (all_oneCell_toArray (row_one _ _ _)) ?_)
 exact bodyPost_ret (v:=.tuple #[(.agg (row .u8 17 (fun _=>0)).toArray),.int .i64 2]) (results_row_tmp Tryz.results173 rfl rfl (Has.all z0.there .u8 _).range Tryz.underlying160 rfl (big_info _)) rfl ⟨rfl,hB⟩
theorem cblock_short (sp:Option Addr) (len cap:Nat) (z:Nat→Int) (hlen:len≤16) (w:World) (hs:Src w sp len z) :
 Calls Tryz.prog 173 #[.slice sp len cap] w fun e w'=>e=.returned (.tuple #[(.agg (row .u8 17 (blk len z)).toArray),.int .i64 (blkE len)])∧Below w.heap.size w w':=by
 have ee:blkE len=0:=by unfold blkE; rw [if_pos hlen]
 rw [ee]
 have K:=Kr.init w; replace K:=K.make 17 zu8_17 160 w.heap.size rfl (big_zero _ _ _ rfl).there
 have H:Has ((w.alloc (.cells zu8_17 160)).alloc (.cells zu8_17 160)) (w.heap.size+1) .u8 17 (fun _=>0):=big_zero _ _ _ (by simp)
 replace K:=K.make 17 zu8_17 160 (w.heap.size+1) (by simp) H.there
 have hs':=hs.below (w':=((w.alloc (.cells zu8_17 160)).alloc (.cells zu8_17 160))) K.below (xnR _)
 have hl:¬ (17:Int)≤(len:Int):=by omega
 have hl2:(len:Int)<17:=by omega
 have hl3:(0:Int)≤(len:Int):=by omega
 clear ee hs
 go_enter Tryz.func173,Tryz.ntmps173
 go_upto_region 4 with fail; generalize ((w.alloc (.cells zu8_17 160)).alloc (.cells zu8_17 160))=w1 at K H hs' ⊢; refine wp_region_list ?_; refine xpL (.slice (some ⟨w.heap.size+1,0,none⟩) 17 17) ?_; refine xpL (.slice sp len cap) ?_
 refine xaL (.int .i64 (len:Int)) (run_copy_src _ _ 32 32 5 rfl Tryz.underlying32 (by kernel_rfl) (w.heap.size+1) 17 17 len cap 17 sp z rfl rfl (by omega) (by omega) H.there hs') ?_; replace K:=K.fill (w.heap.size+1) 17 mS (row .u8 len z); replace H:=H.part 0 len (by omega) z; clear hs'; generalize w1.setCells (w.heap.size+1) 0 (row .u8 len z)=w2 at K H ⊢
 have c1:=H.cell len (by omega); have f1:=H.free len (by omega); replace H:=H.set len (by omega) 1
 have H':=H.congr (g:=blk len z) (fun j hj=>by
  unfold blk
  rw [if_pos hlen]
  by_cases e:j=len
  · subst e; rw [upd_same,if_neg (by omega),if_pos rfl]
  · rw [upd_other _ _ _ _ e]
    unfold over
    by_cases e2:j<len
    · rw [if_pos (by omega),if_pos e2,Nat.sub_zero]
    · rw [if_neg (by omega),if_neg e2,if_neg e])
 have K':Kr w _ [] [(w.heap.size+1,17),(w.heap.size,17)] (w2.setCell ⟨w.heap.size+1,len,none⟩ (.int .u8 1)):=K.poke (w.heap.size+1) 17 mS len [.int .u8 1]
 clear H K; generalize over (fun _=>0) 0 len z len=y at *; go_upto_region 5 with fail; generalize w2.setCell ⟨w.heap.size+1,len,none⟩ (.int .u8 1)=w3 at K' H' ⊢; have hz:=(K'.room _ (mT _ mS)).1; have hB:=(K'.fill _ _ (mT _ mS) (row .u8 17 (blk len z))).below; clear K' c1 f1 hl hl2 hl3 hlen; generalize hj:blk len z=f at *
 go_wp2_with (first | (refine wpList_load_mid rfl 160 _ rfl (w.heap.size+1) 0 rfl (row .u8 17 (f)) _ (Has.range (H')) Tryz.underlying160 rfl (big_info _) ?_) | (refine wpList_store_mid rfl 160 _ _ rfl w.heap.size 0 (row .u8 17 f).toArray rfl rfl (room_of hz) (big_info' _) (all_oneCell_toArray (row_one _ _ _)) ?_))
 exact bodyPost_ret (v:=.tuple #[(.agg (row .u8 17 (f)).toArray),.int .i64 0]) (results_row_tmp Tryz.results173 rfl rfl (Has.all hz .u8 f).range Tryz.underlying160 rfl (big_info f)) rfl ⟨rfl,hB⟩
theorem cblock_any (sp:Option Addr) (len cap:Nat) (z:Nat→Int) (w:World) (hs:Src w sp len z) :
 Calls Tryz.prog 173 #[.slice sp len cap] w fun e w'=>e=.returned (.tuple #[(.agg (row .u8 17 (blk len z)).toArray),.int .i64 (blkE len)])∧Below w.heap.size w w':=by
 by_cases h:len≤16
 · exact cblock_short sp len cap z h w hs
 · exact cblock_long sp len cap z (by omega) w
def pcN (len i:Nat):Nat:=min (len-16*i) 16
def piece (len:Nat) (z:Nat→Int) (i:Nat):Nat→Int:=blk (pcN len i) (fun j=>z (16*i+j))
def npc (len:Nat):Nat:=(len+15)/16
theorem piece_in (len:Nat) (z:Nat→Int) (i:Nat) (hz:In 256 len z):In 256 17 (piece len z i):=blk_in _ _ fun j hj=>hz _ (by unfold pcN at hj; omega)
def acc (r:Int) (len:Nat) (z:Nat→Int):Nat→Int
 | 0=>0
 | i+1=>((acc r len z i+val 256 (piece len z i) 17)*r)%Q
def pR (k:Nat→Int):Int:=val 256 (trimT k) 16
def pS (k:Nat→Int):Int:=val 256 (fun j=>k (16+j)) 16
def ptag (k:Nat→Int) (len:Nat) (z:Nat→Int):Int:=(acc (pR k) len z (npc len)%Q+pS k)%340282366920938463463374607431768211456
def byB (f:Nat→Int):Nat→Int:=fun j=>if j<16 then f j else 0
theorem byB_in (f:Nat→Int) (h:In 256 16 f):In 256 17 (byB f):=fun j _=>by
 unfold byB
 split
 · exact h j (by assumption)
 · omega
theorem byB_val (f:Nat→Int):val 256 (byB f) 17=val 256 f 16:=by
 have e1:val 256 (byB f) 17=val 256 (byB f) 16+256^16*byB f 16:=rfl
 have e2:byB f 16=0:=by unfold byB; rw [if_neg (by omega)]
 rw [e1,e2,Int.mul_zero,Int.add_zero]
 exact val_congr 256 16 fun j hj=>by unfold byB; rw [if_pos hj]
theorem acc_step {r:Int} {len:Nat} {z:Nat→Int} {i:Nat} {x y p:Int} (hx:x=(acc r len z i+val 256 (piece len z i) 17)%Q) (hp:p=r) (hy:y=(x*p)%Q):y=acc r len z (i+1):=by
 rw [hy,hx,hp]
 show _=((acc r len z i+val 256 (piece len z i) 17)*r)%Q
 rw [Int.mul_emod,Int.emod_emod_of_dvd _ (Int.dvd_refl Q),← Int.mul_emod]
section
section
variable {P:Program} {ops:Array Oper} {Q:Exit→Act→World→Prop} {md:Region.Mode} {S:World→Prop} {c:Nat}
def wpAnyC (P:Program) (md:Region.Mode) (ops:Array Oper) (Q:Exit→Act→World→Prop) (S:World→Prop) (c:Nat):Nat→Array Bool→Act→World→Prop
 | 0,l,a,w=>Region.ready md ops l=[]∧Q .normal a w
 | n+1,l,a,w=>(Region.ready md ops l=[]→Q .normal a w) ∧
   ∀ i∈Region.ready md ops l,wpOp P ops Q i (fun a' w'=>((l.setIfInBounds i true).getD c true=false→S w')∧wpAnyC P md ops Q S c n (l.setIfInBounds i true) a' w') a w
theorem wpAny_of_C:∀ (n:Nat) (l:Array Bool) (a:Act) (w:World),wpAnyC P md ops Q S c n l a w→wpAny P md ops Q n l a w
 | 0,_,_,_,h=>h
 | n+1,_,_,_,h=>⟨h.1,fun i hi=>wpOp_mono (fun a' w' h'=>wpAny_of_C n _ a' w' h'.2) (h.2 i hi)⟩
theorem listed_set {l:Array Bool} {i:Nat} (h:l.getD c true=true):(l.setIfInBounds i true).getD c true=true:=by
 by_cases e:i=c
 · subst e
   rw [Array.getD_eq_getD_getElem?]
   by_cases hb:i<l.size
   · rw [Array.getElem?_setIfInBounds_self_of_lt hb]; rfl
   · rw [Array.getElem?_eq_none (by simp; omega)]; rfl
 · rw [getD_set_ne true e]; exact h
theorem wpAnyC_rest:∀ (n:Nat) (l:Array Bool) (a:Act) (w:World),l.getD c true=true→wpAny P md ops Q n l a w→wpAnyC P md ops Q S c n l a w
 | 0,_,_,_,_,h=>h
 | n+1,_,_,_,hc,h=>⟨h.1,fun i hi=>wpOp_mono (fun a' w' h'=>⟨fun hf=>(by rw [listed_set hc] at hf; cases hf),wpAnyC_rest n _ a' w' (listed_set hc) h'⟩) (h.2 i hi)⟩
theorem not_both {l:Array Bool} {i:Nat} (h0:l.getD i true=false) (h1:l.getD i false=true):False:=by
 rw [Array.getD_eq_getD_getElem?] at h0 h1
 cases e:l[i]? with
 | none=>rw [e] at h0; cases h0
 | some b=>rw [e] at h0 h1; simp only [Option.getD_some] at h0 h1; rw [h0] at h1; cases h1
theorem wpAnyC_first {i:Nat} {oi oc:Oper} {v:Value} (hi:ops[i]?=some oi) (hc:ops[c]?=some oc) (hwait:∃ e∈oc.after,Region.binds md e=true∧e.on=i) (hsel:∀ (j:Nat) (o:Oper) cs b,ops[j]?=some o→o.op≠.select cs b)
 (hQ:∀ p a w,Q (.panic p) (a.put oi.dst v) w→Q (.panic p) a w):∀ (n:Nat) (l:Array Bool) (a:Act) (w:World),
  (∀ j oj,ops[j]?=some oj→j≠i→l.getD j true=false→(∀ e∈oj.after,Region.binds md e=true→e.on≠i)→oi.apart ops oj=true) →
  l.getD c true=false→i∈Region.ready md ops l→YieldsIf P ops S oi v a→S w →
  wpAnyC P md ops Q S c n (l.setIfInBounds i true) (a.put oi.dst v) w→wpAnyC P md ops Q S c (n+1) l a w:=by
 have waits:∀ (l:Array Bool) (j:Nat),i∈Region.ready md ops l→j∈Region.ready md ops l→j≠c:=fun l j hr hj e=>by
  subst e
  obtain ⟨_,o,ho,hall⟩:=mem_ready.1 hj
  obtain rfl:o=oc:=Option.some.inj (ho.symm.trans hc)
  obtain ⟨e,he,hb,rfl⟩:=hwait
  exact not_both (mem_ready.1 hr).1 (hall e he hb)
 intro n
 induction n with
 | zero =>
   intro l a w _ _ hr hy hS H
   refine ⟨fun h=>(by rw [h] at hr; cases hr),fun j hj=>?_⟩
   by_cases hji:j=i
   · subst hji; exact hy.wpOp hi hS ⟨fun _=>hS,H⟩
   · have:=ready_mono hj hji
     rw [H.1] at this
     cases this
 | succ n ih =>
   intro l a w hfree hlc hr hy hS H
   refine ⟨fun h=>(by rw [h] at hr; cases hr),fun j hj=>?_⟩
   by_cases hji:j=i
   · subst hji; exact hy.wpOp hi hS ⟨fun _=>hS,H⟩
   · have hjc:=waits l j hr hj
     have hic:=waits l i hr hr
     obtain ⟨hjun,oj,hoj,hall⟩:=mem_ready.1 hj
     have hnot:∀ e∈oj.after,Region.binds md e=true→e.on≠i:=fun e he hb heq=>not_both (mem_ready.1 hr).1 (by rw [← heq]; exact hall e he hb)
     have h2:=wpOp_putIf hoj (hfree j oj hoj hji hjun hnot) (fun cs b=>hsel i oi cs b hi) (fun cs b=>hsel j oj cs b hoj) hQ hy (H.2 j (ready_mono hj hji))
     have hfree':∀ k ok,ops[k]?=some ok→k≠i→(l.setIfInBounds j true).getD k true=false→(∀ e∈ok.after,Region.binds md e=true→e.on≠i)→oi.apart ops ok=true:=fun k ok hk hki hun hno=>by
      refine hfree k ok hk hki ?_ hno
      by_cases hjk:j=k
      · subst hjk; exact hjun
      · rw [getD_set_ne true hjk] at hun; exact hun
     refine wpOp_mono (fun a' w' h3=>?_) h2
     have hS':S w':=h3.2.1 (by rw [getD_set_ne true hjc,getD_set_ne true hic]; exact hlc)
     refine ⟨fun _=>hS',ih (l.setIfInBounds j true) a' w' hfree' (by rw [getD_set_ne true hjc]; exact hlc) (ready_mono hr (Ne.symm hji)) h3.1 hS' ?_⟩
     rw [Array.setIfInBounds_comm _ _ hji]
     exact h3.2.2
theorem wpAnyC_take {i:Nat} {oi oc:Oper} {v:Value} {n:Nat} {l:Array Bool} {a:Act} {w:World} (hi:ops[i]?=some oi) (hc:ops[c]?=some oc) (hwait:(oc.after.any fun e=>Region.binds md e&&e.on == i)=true)
 (hs:Region.noSelect ops=true) (hf:Region.free md ops l i=true) (hl:l.getD c true=false) (hr:(Region.ready md ops l).contains i=true)
 (hQ:∀ p a w,Q (.panic p) (a.put oi.dst v) w→Q (.panic p) a w) (hy:YieldsIf P ops S oi v a) (hS:S w)
 (h:wpAnyC P md ops Q S c n (l.setIfInBounds i true) (a.put oi.dst v) w):wpAnyC P md ops Q S c (n+1) l a w:=by
 refine wpAnyC_first hi hc ?_ (Region.noSelect_spec hs) hQ n l a w (Region.free_spec hi hf) hl (by simpa using hr) hy hS h
 obtain ⟨e,he,hb⟩:=Array.any_eq_true'.1 hwait
 simp only [xbA,beq_iff_eq] at hb
 exact ⟨e,he,hb.1,hb.2⟩
theorem wpAnyC_pure {i:Nat} {oi:Oper} {v:Value} (hi:ops[i]?=some oi) (hic:i≠c) (hsel:∀ (j:Nat) (o:Oper) cs b,ops[j]?=some o→o.op≠.select cs b)
 (hQ:∀ p a w,Q (.panic p) (a.put oi.dst v) w→Q (.panic p) a w):∀ (n:Nat) (l:Array Bool) (a:Act) (w:World),
  (∀ j oj,ops[j]?=some oj→j≠i→l.getD j true=false→(∀ e∈oj.after,Region.binds md e=true→e.on≠i)→oi.apart ops oj=true) →
  i∈Region.ready md ops l→YieldsIf P ops (fun _=>True) oi v a→(l.getD c true=false→S w) →
  wpAnyC P md ops Q S c n (l.setIfInBounds i true) (a.put oi.dst v) w→wpAnyC P md ops Q S c (n+1) l a w:=by
 intro n
 induction n with
 | zero =>
   intro l a w _ hr hy hS H
   refine ⟨fun h=>(by rw [h] at hr; cases hr),fun j hj=>?_⟩
   by_cases hji:j=i
   · subst hji; exact hy.wpOp hi trivial ⟨fun h=>hS (by rw [getD_set_ne true hic] at h; exact h),H⟩
   · have:=ready_mono hj hji
     rw [H.1] at this
     cases this
 | succ n ih =>
   intro l a w hfree hr hy hS H
   refine ⟨fun h=>(by rw [h] at hr; cases hr),fun j hj=>?_⟩
   by_cases hji:j=i
   · subst hji; exact hy.wpOp hi trivial ⟨fun h=>hS (by rw [getD_set_ne true hic] at h; exact h),H⟩
   · obtain ⟨hjun,oj,hoj,hall⟩:=mem_ready.1 hj
     have hnot:∀ e∈oj.after,Region.binds md e=true→e.on≠i:=fun e he hb heq=>not_both (mem_ready.1 hr).1 (by rw [← heq]; exact hall e he hb)
     have h2:=wpOp_putIf hoj (hfree j oj hoj hji hjun hnot) (fun cs b=>hsel i oi cs b hi) (fun cs b=>hsel j oj cs b hoj) hQ hy (H.2 j (ready_mono hj hji))
     have hfree':∀ k ok,ops[k]?=some ok→k≠i→(l.setIfInBounds j true).getD k true=false→(∀ e∈ok.after,Region.binds md e=true→e.on≠i)→oi.apart ops ok=true:=fun k ok hk hki hun hno=>by
      refine hfree k ok hk hki ?_ hno
      by_cases hjk:j=k
      · subst hjk; exact hjun
      · rw [getD_set_ne true hjk] at hun; exact hun
     refine wpOp_mono (fun a' w' h3=>?_) h2
     have hS':(l.setIfInBounds j true).getD c true=false→S w':=fun hf=>h3.2.1 (by rw [Array.setIfInBounds_comm _ _ (Ne.symm hji),getD_set_ne true hic]; exact hf)
     refine ⟨hS',ih (l.setIfInBounds j true) a' w' hfree' (ready_mono hr (Ne.symm hji)) h3.1 hS' ?_⟩
     rw [Array.setIfInBounds_comm _ _ hji]
     exact h3.2.2
theorem wp_region_C (c:Nat) {id:Nat} {a:Act} {w:World} (hm:P.follows .mixedOrders=true) (hS:S w.drew)
 (h:S w.drew→wpAnyC P .any ops Q S c ops.size (Array.replicate ops.size false) a w.drew):(Code.region id ops true).wp P Q a w :=
 wp_region_any hm (wpAny_of_C _ _ _ _ (h hS))
end
section
variable {P:Program} {ops:Array Oper} {Q:Exit→Act→World→Prop} {md:Region.Mode} {S S2:World→Prop} {c:Nat}
theorem pureC {i:Nat} {oi:Oper} (dst:Option Tmp) (hdst:oi.dst=dst) {n:Nat} {l:Array Bool} {a:Act} {w:World} (v:Value) (hi:ops[i]?=some oi) (hic:i≠c) (hw:Region.wanted oi (yielded ops a.tmps)=true)
 (hv:∀ w,(execOp a.eval oi).run P w=.ok (.value v) w)
 (hs:Region.noSelect ops=true) (hf:Region.free md ops l i=true) (hr:(Region.ready md ops l).contains i=true)
 (hQ:∀ p a w,Q (.panic p) (a.put dst v) w→Q (.panic p) a w) (hS:S w)
 (h:wpAnyC P md ops Q S c n (l.setIfInBounds i true) (a.put dst v) w):wpAnyC P md ops Q S c (n+1) l a w:=by
 subst hdst
 exact wpAnyC_pure hi hic (Region.noSelect_spec hs) hQ n l a w (Region.free_spec hi hf) (by simpa using hr) (.inl ⟨hw,fun w _=>hv w⟩) (fun _=>hS) h
section
variable {P:Program} {ops:Array Oper} {Q:Exit→Act→World→Prop} {md:Region.Mode} {S:World→Prop} {c:Nat}
theorem xpC {oi:Oper} {n:Nat} {l:Array Bool} {a a':Act} {w:World} (i:Nat) (d:Tmp) (v:Value) (hS:S w) (h:wpAnyC P md ops Q S c n (l.setIfInBounds i true) a' w)
 (hi:ops[i]?=some oi:=by rfl) (hdst:oi.dst=some d:=by rfl) (hic:i≠c:=by decide) (hw:Region.wanted oi (yielded ops a.tmps)=true:=by rfl) (hv:∀ w,(execOp a.eval oi).run P w=.ok (.value v) w:=by intro _; kernel_rfl) (hg:(Region.noSelect ops&&(Region.free md ops l i&&(Region.ready md ops l).contains i))=true:=by kernel_rfl) (hQ:∀ c a w,Q (.panic c) (a.put (some d) v) w→Q (.panic c) a w:=by exact fun _ _ _ h=>h) (he:a.put (some d) v=a':=by simp only [aP,lI,l0,lS] <;> rfl):wpAnyC P md ops Q S c (n+1) l a w:=by
 subst he
 rw [xbA,xbA] at hg
 exact pureC (some d) hdst v hi hic hw hv hg.1 hg.2.1 hg.2.2 hQ hS h
theorem xqC {oi:Oper} {n:Nat} {l:Array Bool} {a a':Act} {w:World} (i:Nat) (d:Tmp) (hi:ops[i]?=some oi) (v:Value) (hv:∀ w,(execOp a.eval oi).run P w=.ok (.value v) w) (hS:S w) (h:wpAnyC P md ops Q S c n (l.setIfInBounds i true) a' w)
 (hdst:oi.dst=some d:=by rfl) (hic:i≠c:=by decide) (hw:Region.wanted oi (yielded ops a.tmps)=true:=by rfl) (hg:(Region.noSelect ops&&(Region.free md ops l i&&(Region.ready md ops l).contains i))=true:=by kernel_rfl) (hQ:∀ c a w,Q (.panic c) (a.put (some d) v) w→Q (.panic c) a w:=by exact fun _ _ _ h=>h) (he:a.put (some d) v=a':=by simp only [aP,lI,l0,lS] <;> rfl):wpAnyC P md ops Q S c (n+1) l a w:=by
 subst he
 rw [xbA,xbA] at hg
 exact pureC (some d) hdst v hi hic hw hv hg.1 hg.2.1 hg.2.2 hQ hS h
end
theorem cellC {i:Nat} {oi oc:Oper} (dst:Option Tmp) (hdst:oi.dst=dst) {n:Nat} {l:Array Bool} {a:Act} {w:World} (k:IntKind) (v:Value) (b o:Nat) (ty:TypeId) (x:Operand) (hi:ops[i]?=some oi) (hc:ops[c]?=some oc) (hwait:(oc.after.any fun e=>Region.binds md e&&e.on == i)=true)
 (ho:oi.op=.load ty x) (hx:a.eval x=.pointer (some ⟨b,o,none⟩)) (hw:Region.wanted oi (yielded ops a.tmps)=true)
 (hs:Region.noSelect ops=true) (hf:Region.free md ops l i=true) (hl:l.getD c true=false) (hr:(Region.ready md ops l).contains i=true)
 (hQ:∀ p a w,Q (.panic p) (a.put dst v) w→Q (.panic p) a w) (hu:P.underlying ty=some (.int k))
 (hS:S w) (hh:∀ w,S w→w.cell? ⟨b,o,none⟩=some v)
 (h:wpAnyC P md ops Q S c n (l.setIfInBounds i true) (a.put dst v) w):wpAnyC P md ops Q S c (n+1) l a w:=by
 subst hdst
 refine wpAnyC_take hi hc hwait hs hf hl hr hQ (.inl ⟨hw,fun w hw'=>?_⟩) hS h
 unfold execOp
 simp only [ho,hx,Instr.loadAt,Instr.sureAddr,Sem.run_bind,Sem.run_pure,Result.andThen_ok,run_loadVar_cell w b o ty k v (hh w hw') hu]
theorem rowC {i:Nat} {oi oc:Oper} (dst:Option Tmp) (hdst:oi.dst=dst) {n:Nat} {l:Array Bool} {a:Act} {w:World} (k:IntKind) (m:Nat) (f:Nat→Int) (b o:Nat) (ty:TypeId) (x:Operand) (d:TypeDesc) (hi:ops[i]?=some oi) (hc:ops[c]?=some oc) (hwait:(oc.after.any fun e=>Region.binds md e&&e.on == i)=true)
 (ho:oi.op=.load ty x) (hx:a.eval x=.pointer (some ⟨b,o,none⟩)) (hw:Region.wanted oi (yielded ops a.tmps)=true)
 (hs:Region.noSelect ops=true) (hf:Region.free md ops l i=true) (hl:l.getD c true=false) (hr:(Region.ready md ops l).contains i=true)
 (hQ:∀ p a w,Q (.panic p) (a.put dst (.agg (row k m f).toArray)) w→Q (.panic p) a w)
 (hu:P.underlying ty=some d) (hd:d.isRow=true) (hz:(P.info? ty).map (·.size)=some (row k m f).length) (hS:S w) (hh:∀ w,S w→w.rangeAt b o (row k m f))
 (h:wpAnyC P md ops Q S c n (l.setIfInBounds i true) (a.put dst (.agg (row k m f).toArray)) w):wpAnyC P md ops Q S c (n+1) l a w:=by
 subst hdst
 exact wpAnyC_take hi hc hwait hs hf hl hr hQ (yieldsIf_load_mid hw ty x ho b o hx (row k m f) d hh hu hd hz) hS h
theorem storesC (dst:Option Tmp) {oc:Oper} (hdst:oc.dst=dst) {n:Nat} {l:Array Bool} {a:Act} {w:World} (k:IntKind) (m:Nat) (f:Nat→Int) (b:Nat) (ty:TypeId) (x y:Operand) (hr:Region.ready md ops l=[c]) (hi:ops[c]?=some oc)
 (hw:Region.wanted oc (yielded ops a.tmps)=true) (ho:oc.op=.store ty x y) (hx:a.eval x=.pointer (some ⟨b,0,none⟩)) (hy:a.eval y=.agg (row k m f).toArray) (ht:w.there b 0 (row k m f).toArray.size) (hz:(P.info? ty).map (·.size)=some (row k m f).toArray.size) (hl:(l.setIfInBounds c true).getD c true=true)
 (h:wpAnyH P md ops Q S2 n (l.setIfInBounds c true) (a.put dst undef) (w.setCells b 0 (row k m f))):wpAnyC P md ops Q S c (n+1) l a w :=
 ⟨fun h0=>(by rw [h0] at hr; cases hr),fun j hj=>by
  rw [hr] at hj
  obtain rfl:=xm1 hj
  have he:(execOp a.eval oc).run P w=.ok .skip (w.setCells b 0 (row k m f)):=by
   unfold execOp
   simp only [ho,hx,hy]; have e:=run_storeAt_mid (P:=P) w b 0 ty (row k m f).toArray ht hz (all_oneCell_toArray (row_one k m f)); simp only [Sem.run_bind,e,Result.andThen_ok,Sem.run_pure]
  unfold wpOp
  simp only [hi,hw,if_true]; refine .inl ?_
  unfold Oper.wp
  rw [he]
  subst hdst
  exact ⟨fun hf=>(by rw [hl] at hf; cases hf),wpAnyC_rest n _ _ _ hl (wpAny_of_held n _ _ _ h)⟩⟩
theorem callC (dst:Option Tmp) {oc:Oper} (hdst:oc.dst=dst) {f:FuncId} {args:Array Value} {R:Ending→World→Prop} {n:Nat} {l:Array Bool} {a:Act} {w:World} (hr:Region.ready md ops l=[c]) (hc:ops[c]?=some oc)
 (hw:Region.wanted oc (yielded ops a.tmps)=true) (he:∀ w,(execOp a.eval oc).run P w=.ok (.enter f args) w) (hC:Calls P f args w R) (hl:(l.setIfInBounds c true).getD c true=true)
 (hK:∀ e w',R e w'→∃ v,e=.returned v∧wpAnyH P md ops Q S2 n (l.setIfInBounds c true) (a.put dst v) w'):wpAnyC P md ops Q S c (n+1) l a w :=
 ⟨fun h0=>(by rw [h0] at hr; cases hr),fun j hj=>by
  rw [hr] at hj
  obtain rfl:=xm1 hj
  unfold wpOp
  simp only [hc,hw,if_true]; refine .inl ?_
  unfold Oper.wp
  rw [he w]
  exact hC.mono fun e w' hR=>by
   obtain ⟨v,rfl,h⟩:=hK e w' hR
   subst hdst
   exact ⟨fun hf=>(by rw [hl] at hf; cases hf),wpAnyC_rest n _ _ _ hl (wpAny_of_held n _ _ _ h)⟩⟩
theorem callMC {i:Nat} {oi:Oper} (dst:Option Tmp) (hdst:oi.dst=dst) {f:FuncId} {args:Array Value} {R:Ending→World→Prop} {n:Nat} {l:Array Bool} {a:Act} {w:World} (hr:Region.ready md ops l=[i]) (hi:ops[i]?=some oi)
 (hw:Region.wanted oi (yielded ops a.tmps)=true) (he:∀ w,(execOp a.eval oi).run P w=.ok (.enter f args) w) (hC:Calls P f args w R)
 (hK:∀ e w',R e w'→∃ v,e=.returned v∧S w'∧wpAnyC P md ops Q S c n (l.setIfInBounds i true) (a.put dst v) w'):wpAnyC P md ops Q S c (n+1) l a w :=
 ⟨fun h0=>(by rw [h0] at hr; cases hr),fun j hj=>by
  rw [hr] at hj
  obtain rfl:=xm1 hj
  unfold wpOp
  simp only [hi,hw,if_true]; refine .inl ?_
  unfold Oper.wp
  rw [he w]
  exact hC.mono fun e w' hR=>by
   obtain ⟨v,rfl,hS,h⟩:=hK e w' hR
   subst hdst
   exact ⟨fun _=>hS,h⟩⟩
theorem run_storeAt_cell (w:World) (b o:Nat) (ty:TypeId) (k:IntKind) (n:Int) (hx:(w.cell? ⟨b,o,none⟩).isSome=true) (hf:w.frozen? ⟨b,o,none⟩=false) (hi:(P.info? ty).map (·.size)=some 1) :
 (Instr.storeAt ty (.pointer (some ⟨b,o,none⟩)) (.int k n)).run P w=.ok () (w.setCell ⟨b,o,none⟩ (.int k n)):=by
 have h0:∀ j:Nat,j < [Value.int k n].length→j=0:=fun j hj=>by simpa using hj
 have:=run_storeCells_cells (P:=P) b o [.int k n] 0 w (fun j hj=>by rw [h0 j hj]; simpa using hx) (fun j hj=>by rw [h0 j hj]; simpa using hf) (fun v hv=>by simp at hv; subst hv; rfl)
 cases hq:P.info? ty with
 | none=>simp [hq] at hi
 | some i =>
   have hs:i.size=1:=by simp [hq] at hi; omega
   simp only [Nat.add_zero] at this
   have e:(storeVar ty ⟨b,o,none⟩ (.int k n)).run P w=.ok () (w.setCell ⟨b,o,none⟩ (.int k n)):=by
    simp [storeVar,sizeOf,typeInfo,hq,Value.cells,hs,this,World.setCells]
   simp only [Instr.storeAt,Instr.sureAddr,Sem.run_bind,Sem.run_pure,Result.andThen_ok,e]
theorem storeC (dst:Option Tmp) {oc:Oper} (hdst:oc.dst=dst) {n:Nat} {l:Array Bool} {a:Act} {w:World} (k:IntKind) (v:Int) (b o:Nat) (ty:TypeId) (x y:Operand) (hr:Region.ready md ops l=[c]) (hi:ops[c]?=some oc)
 (hw:Region.wanted oc (yielded ops a.tmps)=true) (ho:oc.op=.store ty x y) (hx:a.eval x=.pointer (some ⟨b,o,none⟩)) (hy:a.eval y=.int k v) (hc:(w.cell? ⟨b,o,none⟩).isSome=true) (hf:w.frozen? ⟨b,o,none⟩=false) (hz:(P.info? ty).map (·.size)=some 1) (hl:(l.setIfInBounds c true).getD c true=true)
 (h:wpAnyH P md ops Q S2 n (l.setIfInBounds c true) (a.put dst undef) (w.setCell ⟨b,o,none⟩ (.int k v))):wpAnyC P md ops Q S c (n+1) l a w :=
 ⟨fun h0=>(by rw [h0] at hr; cases hr),fun j hj=>by
  rw [hr] at hj
  obtain rfl:=xm1 hj
  have he:(execOp a.eval oc).run P w=.ok .skip (w.setCell ⟨b,o,none⟩ (.int k v)):=by
   unfold execOp
   simp only [ho,hx,hy]; have e:=run_storeAt_cell (P:=P) w b o ty k v hc hf hz; simp only [Sem.run_bind,e,Result.andThen_ok,Sem.run_pure]
  unfold wpOp
  simp only [hi,hw,if_true]; refine .inl ?_
  unfold Oper.wp
  rw [he]
  subst hdst
  exact ⟨fun hf=>(by rw [hl] at hf; cases hf),wpAnyC_rest n _ _ _ hl (wpAny_of_held n _ _ _ h)⟩⟩
theorem storeH {i:Nat} {oi:Oper} (dst:Option Tmp) (hdst:oi.dst=dst) {n:Nat} {l:Array Bool} {a:Act} {w:World} (k:IntKind) (v:Int) (b o:Nat) (ty:TypeId) (x y:Operand) (hr:Region.ready md ops l=[i]) (hi:ops[i]?=some oi)
 (hw:Region.wanted oi (yielded ops a.tmps)=true) (ho:oi.op=.store ty x y) (hx:a.eval x=.pointer (some ⟨b,o,none⟩)) (hy:a.eval y=.int k v) (hc:(w.cell? ⟨b,o,none⟩).isSome=true) (hf:w.frozen? ⟨b,o,none⟩=false) (hz:(P.info? ty).map (·.size)=some 1) (hS:S (w.setCell ⟨b,o,none⟩ (.int k v)))
 (h:wpAnyH P md ops Q S n (l.setIfInBounds i true) (a.put dst undef) (w.setCell ⟨b,o,none⟩ (.int k v))):wpAnyH P md ops Q S (n+1) l a w :=
 doesH dst hdst hr hi hw (by
  unfold execOp
  simp only [ho,hx,hy]; have e:=run_storeAt_cell (P:=P) w b o ty k v hc hf hz
  simp only [Sem.run_bind,e,Result.andThen_ok,Sem.run_pure]) hS h
theorem idxArr {o:Oper} {a:Act} (t e:TypeId) (n:Nat) (k:IntKind) (b off i:Nat) (x y:Operand) (hu:P.underlying t=some (.array n e)) (hsz:∀ w,(sizeOf e).run P w=.ok 1 w) (hi:i<n) (ho:o.op=.indexAddr t x y) (hx:a.eval x=.pointer (some ⟨b,off,none⟩)) (hy:a.eval y=.int k (i:Int)) (w:World) :
 (execOp a.eval o).run P w=.ok (.value (.pointer (some ⟨b,off+i,none⟩))) w:=by
 have e1:(Instr.indexAt t (.pointer (some ⟨b,off,none⟩)) (.int k (i:Int))).run P w=.ok (.pointer (some ⟨b,off+i,none⟩)) w:=by
  simp [Instr.indexAt,run_underlying hu,Instr.sureAddr,asIntOf,hsz,Addr.add_mid]
  intro hf
  omega
 unfold execOp
 simp only [ho,hx,hy,Sem.run_bind,e1,Result.andThen_ok,Sem.run_pure]
theorem idxSl {o:Oper} {a:Act} (t e:TypeId) (len cap:Nat) (k:IntKind) (ad:Addr) (i:Nat) (x y:Operand) (hu:P.underlying t=some (.slice e)) (hsz:∀ w,(sizeOf e).run P w=.ok 1 w) (hi:i<len) (ho:o.op=.indexAddr t x y) (hx:a.eval x=.slice (some ad) len cap) (hy:a.eval y=.int k (i:Int)) (w:World) :
 (execOp a.eval o).run P w=.ok (.value (.pointer (some (ad.add i)))) w:=by
 have e1:(Instr.indexAt t (.slice (some ad) len cap) (.int k (i:Int))).run P w=.ok (.pointer (some (ad.add i))) w:=by
  simp [Instr.indexAt,run_underlying hu,asIntOf,hsz]
  intro hf
  omega
 unfold execOp
 simp only [ho,hx,hy,Sem.run_bind,e1,Result.andThen_ok,Sem.run_pure]
end
end
def bl (l:List Int):Nat→Int:=fun j=>l.getD j 0
theorem Kr.setCell {w w':World} {m:Nat} {l:List (Nat × IntKind × Nat × (Nat→Int))} {R:List (Nat × Nat)} (h:Kr w m l R w') (l':List (Nat × IntKind × Nat × (Nat→Int))) (b:Nat) (k:IntKind) (n:Nat) (f:Nat→Int) (i:Nat) (hi:i<n) (x:Int) (hp:(b,k,n,f)∈l) (hl:∀ p∈l',p∈l) (hne:∀ p∈l',p.1≠b) (hlo:w.heap.size≤b) :
 Kr w m ((b,k,n,upd f i x)::l') R (w'.setCell ⟨b,i,none⟩ (.int k x)) :=
 ((h.loose l' b k n f hp hl hne hlo).poke b n mS i [.int k x]).settle R b k n (upd f i x) mS (fun _ hq=>mT _ hq) (fun q hq=>(h.apart _ hp q hq).symm) ((h.get _ _ _ _ hp).set i hi x)
theorem Kr.boxO {w w':World} {m:Nat} {l:List (Nat × IntKind × Nat × (Nat→Int))} {R:List (Nat × Nat)} (h:Kr w m l R w') (k:IntKind) (n:Nat) (f:Nat→Int) (o:Obj) (b:Nat) (hb:b=w'.heap.size) (hn:Has (w'.alloc o) b k n f):Kr w (b+1) ((b,k,n,f)::l) R (w'.alloc o):=by
 have hc:=h.call ((Below.refl w'.heap.size w').alloc (xnR _) o)
 refine ⟨fun p hp=>?_,fun q hq=>⟨(hc.room q hq).1,by have:=(hc.room q hq).2.1; have:=h.size; omega,(hc.room q hq).2.2⟩,fun p hp q hq=>?_,by simp; omega,by have:=h.base; have:=h.size; omega,hc.below⟩
 · rcases xc1 hp with rfl | hp
   · exact ⟨hn,by simp⟩
   · exact ⟨(hc.rows p hp).1,by have:=(hc.rows p hp).2; have:=h.size; omega⟩
 · rcases xc1 hp with rfl | hp
   · have:=(h.room q hq).2.1; have:=h.size; simp only; omega
   · exact h.apart p hp q hq
theorem has_marked (w:World) (k:IntKind) (n:Nat) (f:Nat→Int) (t:TypeId):Has (w.alloc (.cells (row k n f).toArray t ((row k n f).toArray.size,(row k n f).toArray.size+1))) w.heap.size k n f:=by
 have e:(w.alloc (.cells (row k n f).toArray t ((row k n f).toArray.size,(row k n f).toArray.size+1))).heap[w.heap.size]?=some (.cells (row k n f).toArray t ((row k n f).toArray.size,(row k n f).toArray.size+1)):=by
  show (w.heap.push _)[w.heap.size]?=_
  simp
 refine ⟨fun j hj=>?_,fun j hj=>?_⟩
 · simp only [World.cell?,e]
   simpa using row_get k n f j hj
 · unfold World.frozen?
   rw [e]
   simp [row_length]
   omega
theorem conv_const {P:Program} {o:Oper} {a:Act} {w:World} (t e:TypeId) (C:Array Value) (n c:Nat) (x:Operand) (ho:o.op=.convert t t x) (hx:a.eval x=.slice (some ⟨w.heap.size,0,none⟩) n c) (ht:P.underlying t=some (.slice e)) (he:P.underlying e=some (.int .u8)) :
 (execOp a.eval o).run P (w.alloc (.cells C e))=.ok (.value (.slice (some ⟨w.heap.size,0,none⟩) n c)) (w.alloc (.cells C e (C.size,C.size+1))):=by
 unfold execOp
 simp only [ho,hx,Sem.run_bind,Lib.run_convert_bytes_const w t e C n c ht he,Result.andThen_ok,Sem.run_pure]
theorem Kr.drewN {w w':World} {m:Nat} {l:List (Nat × IntKind × Nat × (Nat→Int))} {R:List (Nat × Nat)} (h:Kr w m l R w') {q:Nat}:Kr w m l R (w'.drewN q):=⟨fun p hp=>⟨⟨(h.rows p hp).1.cell,(h.rows p hp).1.free⟩,(h.rows p hp).2⟩,h.room,h.apart,h.size,h.base,below_drewN h.below⟩
theorem eqlI {P:Program} {o:Oper} {a:Act} (k:IntKind) (n n':Int) (t t':TypeId) (x y:Operand) (ho:o.op=.binOp .eql t x y t') (hx:a.eval x=.int k n) (hy:a.eval y=.int k n') (r:Bool) (hr:(n == n')=r) (w:World) :
 (execOp a.eval o).run P w=.ok (.value (.bool r)) w:=by
 unfold execOp
 simp only [ho,hx,hy,Sem.run_bind,eqGuard_at_int,binOp_eql,Sem.run_pure,Result.andThen_ok,hr]
end Go.Proofs.YtklnibmfpcmeeaaGreatDoor
