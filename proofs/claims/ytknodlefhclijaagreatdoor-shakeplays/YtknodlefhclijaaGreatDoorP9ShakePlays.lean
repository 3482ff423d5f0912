/- Texts of RefTimes Zb Rt Rb Dg Rd Re Rf Rc Ra, joined. -/
import Derived.Test.YtknodlefhclijaaGreatDoorP8ShakePlays
set_option maxRecDepth 20000
set_option maxHeartbeats 64000000
namespace Go.Proofs.YtknodlefhclijaaGreatDoor
open Go.RowKit
section
theorem kU (a b:Nat→Int) (ha:In 256 32 a) (hb:In 256 32 b) (w:World):Calls Tryz.prog 63 #[(.agg (row .u8 32 (a)).toArray),(.agg (row .u8 32 (b)).toArray)] w (Ans (kz a+kz b) w) :=
 (j4e a b ha hb w).mono fun _ _ ⟨f,he,hf,l⟩=>⟨f,he,⟨hf.1,q4p hf.2⟩,l⟩
theorem kY (a b:Nat→Int) (ha:In 256 32 a) (hb:In 256 32 b) (w:World):Calls Tryz.prog 64 #[(.agg (row .u8 32 (a)).toArray),(.agg (row .u8 32 (b)).toArray)] w (Ans (kz a-kz b) w) :=
 (j5w a b ha hb w).mono fun _ _ ⟨f,he,hf,l⟩=>⟨f,he,⟨hf.1,q4m hf.2⟩,l⟩
theorem yG (a b:Nat→Int) (ha:In 256 32 a) (hb:In 256 32 b) (w:World):Calls Tryz.prog 65 #[(.agg (row .u8 32 (a)).toArray),(.agg (row .u8 32 (b)).toArray)] w (Ans (kz a*kz b) w) :=
 (uL a b ha hb w).mono fun _ _ ⟨f,he,hf,l⟩=>⟨f,he,⟨hf.1,j6m hf.2⟩,l⟩
theorem q0k (a:Nat→Int) (ha:In 256 32 a) (w:World):Calls Tryz.prog 62 #[(.agg (row .u8 32 (a)).toArray)] w (Ans (kz a) w) :=
 (aF a ha w).mono fun _ _ ⟨f,he,hf,l⟩=>⟨f,he,⟨hf.1,q4o hf.2⟩,l⟩
theorem q4g (u:Nat→Int):(row .u8 32 u).set 31 (.int .u8 (u 31%128))=row .u8 32 (uX u):=by kernel_rfl
def SE (w0:World) (l:List (Nat × List Value)) (k B:Nat) (w:World):Prop:=∃ f:Nat→Int,Mm w0 (l.set k (B,row .u8 32 f)) w
theorem SE.call {w0 w w':World} {l:List (Nat × List Value)} {k B:Nat} (h:SE w0 l k B w) (b:Below w.heap.size w w'):SE w0 l k B w':=h.imp fun _ M=>M.call b
theorem SE.fill {w0 w:World} {l:List (Nat × List Value)} {k B:Nat} (h:SE w0 l k B w) (hk:k<l.length) (g:Nat→Int):Mm w0 (l.set k (B,row .u8 32 g)) (w.setCells B 0 (row .u8 32 g)):=by
 obtain ⟨f,M⟩:=h
 have:=M.rowK k (List.getElem?_set_self hk) g
 rwa [List.set_set] at this
theorem SE.there {w0 w:World} {l:List (Nat × List Value)} {k B:Nat} (h:SE w0 l k B w) (hk:k<l.length) (g:Nat→Int):w.there B 0 (row .u8 32 g).toArray.size:=by
 obtain ⟨f,M⟩:=h
 exact M.thereK k (List.getElem?_set_self hk) g
theorem SE.range {w0:World} {l:List (Nat × List Value)} {k B B':Nat} (j:Nat) {g:Nat→Int} (hne:k≠j) (hj:l[j]?=some (B',row .u8 32 g)):∀ w,SE w0 l k B w→w.rangeAt B' 0 (row .u8 32 g):=fun w ⟨_,M⟩ i v hv=>by
 have:=M.part (List.mem_of_getElem? ((List.getElem?_set_ne hne).trans hj)) 0 _ Jd i v hv
 rw [Addr.add_mid] at this
 exact this
section
variable {ops:Array Oper} {kQ:Exit→Act→World→Prop} {md:Region.Mode} {w0 w:World} {l:List (Nat × List Value)} {k B:Nat}
theorem hdT {id:Nat} {a:Act} {f:Nat→Int} (k:Nat) (M:Mm w0 l w) (h:∀ w',SE w0 l k B w'→wpAnyH Tryz.prog .any ops kQ (SE w0 l k B) ops.size (Array.replicate ops.size false) a w') (hk:l[k]?=some (B,row .u8 32 f):=by rfl) (hf:Tryz.prog.follows Departure.mixedOrders=true:=by kernel_rfl):Code.wp Tryz.prog (Code.region id ops true) kQ a w:=by
 have e:l.set k (B,row .u8 32 f)=l:=by
  obtain ⟨h1,h2⟩:=List.getElem?_eq_some_iff.1 hk; rw [← h2]; exact List.set_getElem_self h1
 have hS:SE w0 l k B w.drew:=⟨f,by rw [e]; exact M.drew⟩
 exact wD hf hS fun _=>h _ hS
theorem ldS {oi:Oper} {n B':Nat} {g:Nat→Int} {x:Operand} {lb:Array Bool} {a a':Act} (i d j:Nat) (hS:SE w0 l k B w) (h:wpAnyH Tryz.prog md ops kQ (SE w0 l k B) n (lb.setIfInBounds i true) a' w)
 (hi:ops[i]?=some oi:=by rfl) (hdst:oi.dst=some d:=by rfl) (hne:k≠j:=by decide) (hj:l[j]?=some (B',row .u8 32 g):=by rfl) (ho:oi.op=.load 23 x:=by rfl) (hx:a.eval x=.pointer (some ⟨B',0,none⟩):=by kernel_rfl) (hw:Region.wanted oi (yielded ops a.tmps)=true:=by kernel_rfl) (hs:Region.noSelect ops=true:=by kernel_rfl) (hf:Region.free md ops lb i=true:=by kernel_rfl) (hr:(Region.ready md ops lb).contains i=true:=by kernel_rfl)
 (hQ:∀ c a w,kQ (.panic c) (a.put (some d) (.agg (row .u8 32 (g)).toArray)) w→kQ (.panic c) a w:=by exact fun _ _ _ h=>h) (he:a.put (some d) (.agg (row .u8 32 (g)).toArray)=a':=by simp only [aP,lI,l0,lS] <;> rfl):wpAnyH Tryz.prog md ops kQ (SE w0 l k B) (n+1) lb a w:=by
 subst he
 exact q3f (some d) hdst 32 g B' 0 23 x _ hi ho hx hw hs hf hr hQ Tryz.underlying23 rfl (jJ _) hS (SE.range j hne hj) h
theorem clS {oi:Oper} {n:Nat} {lb:Array Bool} {a:Act} {a':(Nat→Int)→Act} {F:FuncId} {args:Array Value} {C:(Nat→Int)→Prop} (i d:Nat) (hS:SE w0 l k B w) (hc:∀ w,Calls Tryz.prog F args w fun e w'=>∃ r,e=.returned (.agg (row .u8 32 (r)).toArray)∧C r∧Below w.heap.size w w') (h:∀ w' r,C r→SE w0 l k B w'→wpAnyH Tryz.prog md ops kQ (SE w0 l k B) n (lb.setIfInBounds i true) (a' r) w')
 (hr:Region.ready md ops lb=[i]:=by kernel_rfl) (hi:ops[i]?=some oi:=by rfl) (hdst:oi.dst=some d:=by rfl) (hw:Region.wanted oi (yielded ops a.tmps)=true:=by kernel_rfl) (hf:∀ w,(execOp a.eval oi).run Tryz.prog w=.ok (.enter F args) w:=by intro _; kernel_rfl) (he:∀ r:Nat→Int,a.put (some d) (.agg (row .u8 32 (r)).toArray)=a' r:=by intro _; simp only [aP,lI,l0,lS] <;> rfl):wpAnyH Tryz.prog md ops kQ (SE w0 l k B) (n+1) lb a w :=
 j9g (some d) hdst hr hi hw hf (hc _) fun _ w' ⟨r,e,c,b⟩=>⟨_,e,hS.call b,by rw [he r]; exact h w' r c (hS.call b)⟩
theorem enS {oi:Oper} {n:Nat} {lb:Array Bool} {a:Act} {g:Nat→Int} {x y:Operand} (i:Nat) (hS:SE w0 l k B w) (h:∀ w',Mm w0 (l.set k (B,row .u8 32 g)) w'→kQ .normal a w') (hk:k<l.length:=by simp) (hr:Region.ready md ops lb=[i]:=by kernel_rfl) (hi:ops[i]?=some oi:=by rfl) (hdst:oi.dst=none:=by rfl) (hw:Region.wanted oi (yielded ops a.tmps)=true:=by kernel_rfl) (ho:oi.op=.store 23 x y:=by rfl) (hx:a.eval x=.pointer (some ⟨B,0,none⟩):=by kernel_rfl) (hy:a.eval y=(.agg (row .u8 32 (g)).toArray):=by rfl)
 (he:Region.ready md ops (lb.setIfInBounds i true)=[]:=by kernel_rfl):wpAnyH Tryz.prog md ops kQ (SE w0 l k B) (n+1) lb a w :=
 xX none hdst .u8 32 g B 23 x y hr hi hw ho hx hy (hS.there hk g) (jV _) ⟨g,hS.fill hk g⟩ (wE he (h _ (hS.fill hk g)) _)
end
theorem rC (k u:Nat→Int) (hk:In 256 32 k) (hu:In 256 32 u) (w:World) :
 Calls Tryz.prog 36 #[(.agg (row .u8 32 (k)).toArray),(.agg (row .u8 32 (u)).toArray)] w fun e w'=>∃ f:Nat→Int,e=.returned (.agg (row .u8 32 (f)).toArray)∧(In 256 32 f∧val 256 f 32=((tm k u).val:Int))∧Below w.heap.size w w':=by
 have M:=Mm.init w; replace M:=M.box (row .u8 32 k).toArray 23 (w.heap.size) rfl; replace M:=M.box (row .u8 32 u).toArray 23 (w.heap.size+1) Jf; replace M:=M.box jY 23 (w.heap.size+1+1) Jf
 replace M:Mm w [(w.heap.size+1+1,row .u8 32 (fun _=>0)),(w.heap.size+1,row .u8 32 (u)),(w.heap.size,row .u8 32 (k))] _:=M
 go_enter Tryz.func36,Tryz.ntmps36
 go_upto_region 1 with fail; refine unT (C:=fun r=>r=xC (k)) 2 M (fun w=>(j1v (k) (hk) w).mono fun _ _ ⟨e,b⟩=>⟨_,e,rfl,b⟩) ?_; clear M; rintro w1 B1 _ rfl M; have c1:=M.get (List.mem_of_getElem? (i:=2) rfl) 31 (.int .u8 (u 31)) rfl; have f1:=M.free (List.mem_of_getElem? (i:=2) rfl) 31 (by rw [jX]; decide); have e31:=aX (u 31) (hu 31 JK)
 replace M:=M.atK 2 rfl fun _ h=>h.set 31 (by rw [jX]; decide) (.int .u8 (bits BinOp.and IntKind.u8 (u 31) 127))
 rw [e31,q4g u] at M
 go_upto_region 3 with fail; clear e31 c1 f1; generalize World.setCell w1 ⟨w.heap.size+1,31,none⟩ (.int .u8 (u 31%128))=wm at M ⊢
 go_upto_region 3 with fail; refine unT 2 M (q0k (uX u) (j1p u hu)) ?_; clear M; intro w2 B2 f1 s1 M; go_upto_region 4 with fail; refine q8p (one 1) M ?_; clear M; intro w3 B3 M; go_upto_region 5 with fail; refine q8p (one 0) M ?_; clear M; intro w4 B4 M; go_upto_region 6 with fail; refine cpT 2 M ?_; clear M; intro w5 B5 M; go_upto_region 7 with fail; refine q8p (one 1) M ?_
 clear M; intro w6 B6 M; go_upto_region 8 with fail; refine q8p (j1s 65 219 1) M ?_; clear M; intro w7 B7 M
 have S5:=show Hid (stz (one 1) (one 0) f1 (one 1)=Ed.run cz (kz (uX u)) (gY (xC k)) 0) from by rw [aW,s1.2]; rfl
 have ix:=s1.1; have HX:=show Hid (kz f1=kz (uX u)) from s1.2; clear s1; go_wp2
 go_loopw [12] (fun i w'=>∃ (t:Nat) (z:Int) (a b c d:Nat→Int),t≤255∧z=254-(t:Int)∧i=.int .i64 z∧(In 256 32 a∧In 256 32 b∧In 256 32 c∧In 256 32 d)∧stz a b c d=Ed.run cz (kz (uX u)) (gY (xC k)) t ∧
  Mm w [(B7,row .u8 32 (j1s 65 219 1)),(B6,row .u8 32 (d)),(B5,row .u8 32 (c)),(B4,row .u8 32 (b)),(B3,row .u8 32 (a)),(B2,row .u8 32 (f1)),(B1,row .u8 32 (xC (k))),(w.heap.size+1+1,row .u8 32 (fun _=>0)),(w.heap.size+1,row .u8 32 (uX u)),(w.heap.size,row .u8 32 (k))] w') (fun i _=>(intOf i+1).toNat)
 case atStart=>exact ⟨0,254,_,_,_,_,by omega,by decide,rfl,⟨vY 1 JG JG,vY 0 JG JG,ix,vY 1 JG JG⟩,S5.out,M⟩
 case round =>
  clear M; obtain ⟨t,z,a,b,c,d,h255,hz,rfl,⟨ia,ib,ic,id⟩,hst,M⟩:=hrel; by_cases hlt:t<255
  · obtain ⟨s,hs,ht⟩:∃ s:Nat,s=254-t∧s≤254:=⟨254-t,rfl,by omega⟩
    obtain rfl:z=(s:Int):=by omega
    have c1:=M.get (List.mem_of_getElem? (i:=6) rfl) (s/8) (.int .u8 (xC k (s/8))) (xG _ _ _ _ JK); obtain ⟨x0,x1⟩:=j7u k hk (s/8) JK; have hb0:gY (xC k) (254-t)=decide (xC k (s/8)/2^(s%8)%2=1):=by rw [hs]; rfl
    generalize xC k (s/8)=x at c1 x0 x1 hb0; have hy:0≤x/2^(s%8)∧x/2^(s%8)<256:=⟨Int.ediv_nonneg x0 (Int.le_of_lt (vU 2 JG _)),Int.lt_of_le_of_lt (Int.ediv_le_self _ x0) x1⟩
    have hB:=j9l _ hy.1 hy.2; have g1:(0:Int)≤(s:Int):=by omega
    have g2:(s:Int)<255:=by omega
    cases hb:(bits BinOp.and IntKind.u8 (x/2^(s%8)) 1 == 1)
    · have HK:=show Hid (gY (xC k) (254-t)=false) from by
       rw [hb0,← hB]; have h:(bits BinOp.and IntKind.u8 (x/2^(s%8)) 1 == 1)=false:=hb; simp only [beq_eq_false_iff_ne,ne_eq] at h; exact decide_eq_false h
      have HS:=show Hid _ from hst; have HH:=show Hid (s=254-t∧t<255) from ⟨hs,hlt⟩; clear hst hB hb0 hz hs hlt h255 hy; go_upto_region 16 with fail; refine biT 4 3 M (kU (a) (b) (ia) (ib)) ?_; clear M; intro wa1 Ba1 fa1 sa1 M; go_upto_region 17 with fail; refine biT 5 4 M (kY (a) (b) (ia) (ib)) ?_; clear M; intro wa2 Ba2 fa2 sa2 M; go_upto_region 18 with fail
      refine biT 4 3 M (kU (c) (d) (ic) (id)) ?_; clear M; intro wa3 Ba3 fa3 sa3 M; go_upto_region 19 with fail; refine biT 5 4 M (kY (c) (d) (ic) (id)) ?_; clear M; intro wa4 Ba4 fa4 sa4 M; go_upto_region 20 with fail; refine biT 3 3 M (yG (fa1) (fa1) (sa1.1) (sa1.1)) ?_; clear M; intro wa5 Ba5 fa5 sa5 M; go_upto_region 21 with fail; refine biT 3 3 M (yG (fa2) (fa2) (sa2.1) (sa2.1)) ?_; clear M; intro wa6 Ba6 fa6 sa6 M; go_upto_region 22 with fail; refine biT 1 0 M (kY (fa5) (fa6) (sa5.1) (sa6.1)) ?_; clear M; intro wa7 Ba7 fa7 sa7 M; go_upto_region 23 with fail; refine biT 3 6 M (yG (fa4) (fa1) (sa4.1) (sa1.1)) ?_; clear M; intro wa8 Ba8 fa8 sa8 M; go_upto_region 24 with fail; refine biT 5 6 M (yG (fa3) (fa2) (sa3.1) (sa2.1)) ?_; clear M; intro wa9 Ba9 fa9 sa9 M; go_upto_region 25 with fail; refine biT 1 0 M (kU (fa8) (fa9) (sa8.1) (sa9.1)) ?_; clear M; intro wa10 Ba10 fa10 sa10 M; go_upto_region 26 with fail; refine biT 2 1 M (kY (fa8) (fa9) (sa8.1) (sa9.1)) ?_; clear M; intro wa11 Ba11 fa11 sa11 M; go_upto_region 27 with fail; refine asT 1 1 13 M (yG (fa10) (fa10) (sa10.1) (sa10.1)) ?_; clear M; intro wa12 fa12 sa12 M; go_upto_region 28 with fail; refine hdT 12 M ?_; clear M; intro wa13 hS; refine ldS 0 92 16 hS ?_; refine ldS 1 93 0 hS ?_; refine ldS 2 94 0 hS ?_; refine clS 3 95 hS (yG (fa11) (fa11) (sa11.1) (sa11.1)) ?_; clear hS; intro wa14 fa13 sa13 hS; refine clS 4 96 hS (yG (f1) (fa13) (ix) (sa13.1)) ?_; clear hS; intro wa15 fa14 sa14 hS; refine enS (g:=fa14) 5 hS ?_; clear hS; intro wa16 M; go_upto_region 29 with fail; refine asT 6 5 15 M (yG (fa5) (fa6) (sa5.1) (sa6.1)) ?_; clear M; intro wa17 fa15 sa15 M; go_upto_region 30 with fail; refine hdT 14 M ?_; clear M; intro wa18 hS; refine ldS 0 100 4 hS ?_; refine ldS 1 101 6 hS ?_; refine ldS 2 102 11 hS ?_; refine ldS 3 103 4 hS ?_; refine clS 4 104 hS (yG (j1s 65 219 1) (fa7) (j1r) (sa7.1)) ?_; clear hS; intro wa19 fa16 sa16 hS; refine clS 5 105 hS (kU (fa5) (fa16) (sa5.1) (sa16.1)) ?_; clear hS; intro wa20 fa17 sa17 hS; refine clS 6 106 hS (yG (fa7) (fa17) (sa7.1) (sa17.1)) ?_; clear hS; intro wa21 fa18 sa18 hS; refine enS (g:=fa18) 7 hS ?_; clear hS; intro wa22 M; have hN:stz (fa15) (fa18) (fa12) (fa14)=Ed.run cz (kz (uX u)) (gY (xC k)) (t+1):=by
       show _=Ed.swap (gY (xC k) (254-t)) (Ed.climb cz (kz (uX u)) (Ed.swap (gY (xC k) (254-t)) (Ed.run cz (kz (uX u)) (gY (xC k)) t)))
       rw [HK.out,← HS.out]; unfold stz Ed.swap Ed.climb; simp only [if_false,Bool.false_eq_true]; rw [sa18.2,sa17.2,sa16.2,sa15.2,sa14.2,sa13.2,sa12.2,sa11.2,sa10.2,sa9.2,sa8.2,sa7.2,sa6.2,sa5.2,sa4.2,sa3.2,sa2.2,sa1.2,HX.out,j5k]
      have HN:=show Hid _ from hN; have HI:=show Hid (In 256 32 (fa15)∧In 256 32 (fa18)∧In 256 32 (fa12)∧In 256 32 (fa14)) from ⟨sa15.1,sa18.1,sa12.1,sa14.1⟩; replace M:=M.sub _ (List.drop_sublist 11 _); clear hN sa1 sa2 sa3 sa4 sa5 sa6 sa7 sa8 sa9 sa10 sa11 sa12 sa13 sa14 sa15 sa16 sa17 sa18; go_wp2
      exact Xc
    have HK:=show Hid (gY (xC k) (254-t)=true) from by
     rw [hb0,← hB]; have h:(bits BinOp.and IntKind.u8 (x/2^(s%8)) 1 == 1)=true:=hb; simp only [beq_iff_eq] at h; exact decide_eq_true h
    have HS:=show Hid _ from hst; have HH:=show Hid (s=254-t∧t<255) from ⟨hs,hlt⟩; clear hst hB hb0 hz hs hlt h255 hy; go_upto_region 14 with fail; refine swT 2 4 M ?_; clear M; intro wb1 M; go_upto_region 15 with fail; refine swT 1 3 M ?_; clear M; intro wb2 M; go_upto_region 16 with fail; refine biT 4 3 M (kU (c) (d) (ic) (id)) ?_; clear M; intro wb3 Bb1 fb1 sb1 M
    go_upto_region 17 with fail; refine biT 5 4 M (kY (c) (d) (ic) (id)) ?_; clear M; intro wb4 Bb2 fb2 sb2 M; go_upto_region 18 with fail; refine biT 4 3 M (kU (a) (b) (ia) (ib)) ?_; clear M; intro wb5 Bb3 fb3 sb3 M; go_upto_region 19 with fail; refine biT 5 4 M (kY (a) (b) (ia) (ib)) ?_; clear M; intro wb6 Bb4 fb4 sb4 M; go_upto_region 20 with fail; refine biT 3 3 M (yG (fb1) (fb1) (sb1.1) (sb1.1)) ?_; clear M; intro wb7 Bb5 fb5 sb5 M; go_upto_region 21 with fail; refine biT 3 3 M (yG (fb2) (fb2) (sb2.1) (sb2.1)) ?_; clear M; intro wb8 Bb6 fb6 sb6 M; go_upto_region 22 with fail; refine biT 1 0 M (kY (fb5) (fb6) (sb5.1) (sb6.1)) ?_; clear M; intro wb9 Bb7 fb7 sb7 M; go_upto_region 23 with fail; refine biT 3 6 M (yG (fb4) (fb1) (sb4.1) (sb1.1)) ?_; clear M; intro wb10 Bb8 fb8 sb8 M; go_upto_region 24 with fail; refine biT 5 6 M (yG (fb3) (fb2) (sb3.1) (sb2.1)) ?_; clear M; intro wb11 Bb9 fb9 sb9 M; go_upto_region 25 with fail; refine biT 1 0 M (kU (fb8) (fb9) (sb8.1) (sb9.1)) ?_; clear M; intro wb12 Bb10 fb10 sb10 M; go_upto_region 26 with fail; refine biT 2 1 M (kY (fb8) (fb9) (sb8.1) (sb9.1)) ?_; clear M; intro wb13 Bb11 fb11 sb11 M; go_upto_region 27 with fail; refine asT 1 1 13 M (yG (fb10) (fb10) (sb10.1) (sb10.1)) ?_; clear M; intro wb14 fb12 sb12 M; go_upto_region 28 with fail; refine hdT 12 M ?_; clear M; intro wb15 hS; refine ldS 0 92 16 hS ?_; refine ldS 1 93 0 hS ?_; refine ldS 2 94 0 hS ?_; refine clS 3 95 hS (yG (fb11) (fb11) (sb11.1) (sb11.1)) ?_; clear hS; intro wb16 fb13 sb13 hS; refine clS 4 96 hS (yG (f1) (fb13) (ix) (sb13.1)) ?_; clear hS; intro wb17 fb14 sb14 hS; refine enS (g:=fb14) 5 hS ?_; clear hS; intro wb18 M; go_upto_region 29 with fail; refine asT 6 5 15 M (yG (fb5) (fb6) (sb5.1) (sb6.1)) ?_; clear M; intro wb19 fb15 sb15 M; go_upto_region 30 with fail; refine hdT 14 M ?_; clear M; intro wb20 hS; refine ldS 0 100 4 hS ?_; refine ldS 1 101 6 hS ?_; refine ldS 2 102 11 hS ?_; refine ldS 3 103 4 hS ?_; refine clS 4 104 hS (yG (j1s 65 219 1) (fb7) (j1r) (sb7.1)) ?_; clear hS; intro wb21 fb16 sb16 hS; refine clS 5 105 hS (kU (fb5) (fb16) (sb5.1) (sb16.1)) ?_; clear hS; intro wb22 fb17 sb17 hS; refine clS 6 106 hS (yG (fb7) (fb17) (sb7.1) (sb17.1)) ?_; clear hS; intro wb23 fb18 sb18 hS; refine enS (g:=fb18) 7 hS ?_; clear hS; intro wb24 M; go_upto_region 32 with fail; refine swT 13 15 M ?_; clear M; intro wb25 M; go_upto_region 33 with fail; refine swT 12 14 M ?_; clear M; intro wb26 M; have hN:stz (fb12) (fb14) (fb15) (fb18)=Ed.run cz (kz (uX u)) (gY (xC k)) (t+1):=by
     show _=Ed.swap (gY (xC k) (254-t)) (Ed.climb cz (kz (uX u)) (Ed.swap (gY (xC k) (254-t)) (Ed.run cz (kz (uX u)) (gY (xC k)) t)))
     rw [HK.out,← HS.out]; unfold stz Ed.swap Ed.climb; simp only [if_true]; rw [sb18.2,sb17.2,sb16.2,sb15.2,sb14.2,sb13.2,sb12.2,sb11.2,sb10.2,sb9.2,sb8.2,sb7.2,sb6.2,sb5.2,sb4.2,sb3.2,sb2.2,sb1.2,HX.out,j5k]
    have HN:=show Hid _ from hN; have HI:=show Hid (In 256 32 (fb12)∧In 256 32 (fb14)∧In 256 32 (fb15)∧In 256 32 (fb18)) from ⟨sb12.1,sb14.1,sb15.1,sb18.1⟩; replace M:=M.sub _ (List.drop_sublist 11 _); clear hN sb1 sb2 sb3 sb4 sb5 sb6 sb7 sb8 sb9 sb10 sb11 sb12 sb13 sb14 sb15 sb16 sb17 sb18; go_wp2
    exact Xc
  obtain rfl:t=255:=by omega
  obtain rfl:z=-1:=by omega
  have HS:=show Hid _ from hst; clear hst hz hlt h255; go_upto_region 34 with fail; refine hdT 7 M ?_; clear M; intro we1 hS; refine ldS 0 113 4 hS ?_; refine ldS 1 114 3 hS ?_; refine clS 2 115 hS (aH (b) (ib)) ?_; clear hS; intro we2 fe1 se1 hS; refine clS 3 116 hS (uL (a) (fe1) (ia) (se1.1)) ?_; clear hS; intro we3 fe2 se2 hS; refine enS (g:=fe2) 4 hS ?_; clear hS
  intro we4 M; have hv:val 256 fe2 32=((tm k u).val:Int):=by
   have e1:kz fe1=inz (kz b):=q4n se1.2; have e2:tm k u=kz a*inz (kz b):=by
    unfold tm; rw [← HS.out]; rfl
   rw [e2,← e1,se2.2,← vX,j7e]; rfl
  have HV:=show Hid _ from And.intro se2.1 hv; have hL:=M.below
  have hO:we4.rangeAt (w.heap.size+1+1) 0 (row .u8 32 fe2):=fun j v hv=>by have:=M.part (List.mem_of_getElem? (i:=7) rfl) 0 _ Jd j v hv; rw [Addr.add_mid] at this; exact this
  clear M hv se1 se2 HS; go_wp2; exact bRq (v:=(.agg (row .u8 32 (fe2)).toArray)) (jQ Tryz.results36 rfl hO Tryz.underlying23 rfl (jJ _)) rfl ⟨fe2,rfl,HV.out,hL⟩
theorem aV (k:Nat→Int) (hk:In 256 32 k) (w:World) :
 Calls Tryz.prog 20 #[(.agg (row .u8 32 (k)).toArray)] w fun e w'=>∃ f:Nat→Int,e=.returned (.agg (row .u8 32 (f)).toArray)∧(In 256 32 f∧val 256 f 32=((tm k (one 9)).val:Int))∧Below w.heap.size w w':=by
 have K:=Kq.init w; replace K:=K.box 32 k 23 (w.heap.size) rfl; replace K:=K.make 32 jY 23 (w.heap.size+1) Jf (jK _ _ _ Jf).there
 go_enter Tryz.func20,Tryz.ntmps20
 go_upto_region 1 with fail; refine wR (yrL 32 k (w.heap.size) 0 Tryz.underlying23 (jJ _) (K.whole _ _ mS) ?_); refine xpL (.agg (row .u8 32 (one 9)).toArray) ?_; refine xcL (rC k (one 9) hk (vY 9 JG JG) _) ?_; rintro e w1 ⟨f,rfl,s,l⟩; replace K:=K.call l; clear l; refine xeL ?_
 refine ysL .u8 32 f (w.heap.size+1) (K.roomy _ _ _ mS) (jV _) ?_; have HS:=show Hid _ from s; have hO:=(K.room _ mS).1; have hL:=(K.fill _ _ mS (row .u8 32 f)).below; clear K s; show Exit.then _ _ _ _ _; go_wp2
 exact bRq (v:=(.agg (row .u8 32 (f)).toArray)) (jQ Tryz.results20 rfl (Has.all hO .u8 f).range Tryz.underlying23 rfl (jJ _)) rfl ⟨f,rfl,HS.out,hL⟩
end
def lby (x:Fin QN):List Int:=(List.range 32).map (dig x.val)
theorem kH (x:Fin QN):(lby x).length=32:=by unfold lby; rw [List.length_map,List.length_range]
theorem cN (x:Fin QN):In 256 32 (bl (lby x)):=fun j hj=>by
 unfold lby
 rw [gW _ _ _ hj]
 exact rJ x.val 32 j hj
theorem cL (x:Fin QN):Byts (lby x):=by
 intro y hy
 unfold lby at hy
 obtain ⟨j,hj,rfl⟩:=List.mem_map.1 hy
 exact rJ x.val 32 j (List.mem_range.1 hj)
theorem j8t (x:Fin QN):val 256 (bl (lby x)) 32=(x.val:Int):=by
 have h1:val 256 (bl (lby x)) 32=val 256 (dig x.val) 32:=qZ 256 32 fun j hj=>by unfold lby; exact gW _ _ _ hj
 rw [h1,lV,Nat.mod_eq_of_lt (Nat.lt_trans x.isLt Jw)]
theorem j1q {f:Nat→Int} {x:Fin QN} (hf:In 256 32 f) (hv:val 256 f 32=(x.val:Int)):row .u8 32 f=row .u8 32 (bl (lby x)) :=
 yV .u8 32 (hH 256 JG f _ 32 hf (cN x) (by rw [hv,j8t]))
def LD:Lad:=⟨fun a=>lby (tm a (one 9)),fun a B=>if tm a (bl B)=0 then none else some (lby (tm a (bl B)))⟩
theorem yU (a:Nat→Int):(LD.pub a).length=32:=kH _
theorem uJ (a:Nat→Int):Byts (LD.pub a):=cL _
theorem x6h:LD.Bs:=⟨yU,uJ⟩
theorem nS (k:Nat→Int) (hk:In 256 32 k) (w:World) (hg:kGlob w) (ht:Trs w) :
 Calls Tryz.prog 14 #[(.agg (row .u8 32 (k)).toArray)] w fun e w'=>e=.returned (.agg (row .u8 32 (bl (LD.pub k))).toArray)∧Below w.heap.size w w' :=
 (j6a k hk w hg ht).mono fun _ _ ⟨f,he,⟨hf,hv⟩,l⟩=>⟨by rw [he,j1q hf hv]; rfl,l⟩
theorem j3y (k u:Nat→Int) (hk:In 256 32 k) (hu:In 256 32 u) (w:World) (hg:kGlob w) (ht:Trs w) :
 Calls Tryz.prog 48 #[(.agg (row .u8 32 (k)).toArray),(.agg (row .u8 32 (u)).toArray)] w fun e w'=>e=.returned (.tuple #[(.agg (row .u8 32 (bl (lby (tm k u)))).toArray),.int .i64 (if tm k u=0 then 20 else 0)])∧Below w.heap.size w w' :=
 (j5o k u hk hu w hg ht).mono fun _ _ ⟨f,he,⟨hf,hv⟩,l⟩=>⟨by rw [he,j1q hf hv],l⟩
theorem uV (k:Nat→Int) (hk:In 256 32 k) (w:World) :
 Calls Tryz.prog 20 #[(.agg (row .u8 32 (k)).toArray)] w fun e w'=>e=.returned (.agg (row .u8 32 (bl (LD.pub k))).toArray)∧Below w.heap.size w w' :=
 (aV k hk w).mono fun _ _ ⟨f,he,⟨hf,hv⟩,l⟩=>⟨by rw [he,j1q hf hv]; rfl,l⟩
theorem aS (k u:Nat→Int) (hk:In 256 32 k) (hu:In 256 32 u) (w:World) :
 Calls Tryz.prog 36 #[(.agg (row .u8 32 (k)).toArray),(.agg (row .u8 32 (u)).toArray)] w fun e w'=>e=.returned (.agg (row .u8 32 (bl (lby (tm k u)))).toArray)∧Below w.heap.size w w' :=
 (rC k u hk hu w).mono fun _ _ ⟨f,he,⟨hf,hv⟩,l⟩=>⟨by rw [he,j1q hf hv],l⟩
theorem q4k (x : Fin QN) : (∀ j, j < 32 → bl (lby x) j = 0) ↔ x = 0 := by
  rw [← gT _ (cN x), j8t]
  constructor
  · intro h
    exact Fin.ext (by have : x.val = 0 := by omega
                      rw [this]; rfl)
  · intro h
    rw [h]
    rfl
theorem j3e (r:Nat→Int) (hr:In 256 16 r) (w:World) :
 Calls Tryz.prog 136 #[(.agg (row .u8 16 (r)).toArray)] w fun e w'=>e=.returned (.agg (row .u8 16 (qJ r)).toArray)∧Below w.heap.size w w':=by
 go_enter Tryz.func136,Tryz.ntmps136
 go_wp2
 go_loopw [3] (fun i w'=>∃ (k:Nat) (f:Nat→Int),k≤16∧i=.int .i64 k∧TInv r (qJ r) w k f w') (fun i _=>16-(intOf i).toNat)
 case atStart=>exact ⟨0,r,by omega,rfl,⟨fun j hj=>by omega,fun _ _=>rfl,(Has.new w _ _ _ _ _ rfl).alloc _ Jf,xQ _ _ _ Jf,((Fr.refl w).alloc _).alloc _⟩⟩
 case round =>
  obtain ⟨k,f,hk,rfl,hI⟩:=hrel; by_cases hlt:k<16
  · have hx:=hr k hlt; have ef:=hI.rest k (xnR k); have c1:=hI.ha.cell k hlt; have f1:=hI.ha.free k hlt; have g1:(0:Int)≤(k:Int):=by omega
    have g2:(k:Int)<16:=by omega
    by_cases h3:k%4=3
    · have e2:qJ r k=r k%16:=by unfold qJ; rw [if_pos h3]
      have hb:=x1e (r k) hx; have hS:=hI.step hlt; rw [e2] at hS; rw [ef] at c1; have HS:=show Hid _ from hS
      have t1:(k:Int)%4=3:=by omega
      clear hI hS e2 ef; generalize r k=x at *; go_wp2; exact QW
    by_cases h0:k%4=0∧0<k
    · have e2:qJ r k=r k/4*4:=by unfold qJ; rw [if_neg h3,if_pos h0]
      have hb:=q6x (r k) hx; have hS:=hI.step hlt; rw [e2] at hS; rw [ef] at c1; have HS:=show Hid _ from hS
      have t1:(k:Int)%4=0:=by omega
      have t2:(k:Int)>0:=by omega
      clear hI hS e2 ef; generalize r k=x at *; go_wp2; exact QW
    have e2:qJ r k=r k:=by unfold qJ; rw [if_neg h3,if_neg h0]
    have HS:=show Hid _ from hI.skip e2; clear hI e2 ef c1 f1
    by_cases hz:k=0
    · subst hz; go_wp2; go_roundw
      case rel=>exact ⟨1,_,by omega,by go_num,HS.out⟩
      case measure=>simp [intOf]
    have t1:(k:Int)%4≠3:=by omega
    have t2:(k:Int)%4≠0:=by omega
    have t3:((k:Int)%4 == 3)=false:=by simp [t1]
    have t4:((k:Int)%4 == 0)=false:=by simp [t2]
    clear t1 t2; go_wp2; exact QW
  obtain rfl:k=16:=by omega
  have ha:=hI.ha.congr (g:=qJ r) (fun j hj=>hI.done j hj); have hz:=hI.hr; have hB:=(hI.fr.setAll (w.heap.size+1) JK (row .u8 16 (qJ r))).below; clear hI hlt hk; go_wp2_with (first | (refine yl (ha) Tryz.underlying120 (xP _) ?_) | (refine ys .u8 16 (qJ r) (sP (hz)) (xM _) ?_)); exact bRq (v:=(.agg (row .u8 16 (qJ r)).toArray)) (jQ Tryz.results136 rfl (Has.all hz.there .u8 _).range Tryz.underlying120 rfl (xP _)) rfl ⟨rfl,hB⟩
theorem aK (sp:Option Addr) (len cap:Nat) (z:Nat→Int) (hlen:16<len) (w:World) :
 Calls Tryz.prog 137 #[.slice sp len cap] w fun e w'=>e=.returned (.tuple #[(.agg (row .u8 17 (blk len z)).toArray),.int .i64 (dJ len)])∧Below w.heap.size w w':=by
 have eb:(row .u8 17 (blk len z))=row .u8 17 (fun _=>0):=yV _ _ fun j _=>by unfold blk; rw [if_neg JK]
 have ee:dJ len=2:=by unfold dJ; rw [if_neg JK]
 rw [eb,ee]
 have z0:Has ((w.alloc (.cells jF 158)).alloc (.cells jF 158)) w.heap.size .u8 17 (fun _=>0):=(jE _ _ _ rfl).alloc _ Jf
 have o0:Has ((w.alloc (.cells jF 158)).alloc (.cells jF 158)) (w.heap.size+1) .u8 17 (fun _=>0):=jE _ _ _ Jf
 have g0:Fr w 2 ((w.alloc (.cells jF 158)).alloc (.cells jF 158)):=((Fr.refl w).alloc _).alloc _
 have z1:=z0.setAll_other (w.heap.size+1) JK 0 (row .u8 17 (fun _=>0)); have o1:=Has.all o0.there .u8 (fun _=>0); have g1:=g0.setAll (w.heap.size+1) JK (row .u8 17 (fun _=>0)); have hB:=(g1.setAll w.heap.size (xnR _) (row .u8 17 (fun _=>0))).below
 have hl:(len:Int)>16:=by omega
 clear eb ee g0 g1 hlen z0
 go_enter Tryz.func137,Tryz.ntmps137
 have tok:True:=trivial
 go_upto_region 2 with (have _t:=tok; refine ys .u8 17 (fun _=>0) (yX (o0)) (qX _) ?_; clear tok)
 generalize (((w.alloc (.cells jF 158)).alloc (.cells jF 158)).setCells (w.heap.size+1) 0 (row .u8 17 (fun _=>0)))=w2 at *; clear o0
 go_wp2_with (first | (refine yl (o1) Tryz.underlying158 (jL _) ?_) | (refine ys .u8 17 (fun _=>0) (yX (z1)) (qX _) ?_))
 exact bRq (v:=.tuple #[(.agg (row .u8 17 (fun _=>0)).toArray),.int .i64 2]) (xN Tryz.results137 rfl rfl (Has.all z1.there .u8 _).range Tryz.underlying158 rfl (jL _)) rfl ⟨rfl,hB⟩
structure BI (sp:Option Addr) (len:Nat) (z:Nat→Int) (w:World) (k:Nat) (f:Nat→Int) (w':World):Prop where
 done:∀ j,j<k→f j=z j
 rest:∀ j,k≤j→f j=0
 src:Src w' sp len z
 ho:Has w' (w.heap.size+1) .u8 17 f
 hr:Has w' w.heap.size .u8 17 (fun _=>0)
 fr:Fr w 2 w'
theorem BI.step {sp:Option Addr} {len:Nat} {z:Nat→Int} {w:World} {k:Nat} {f:Nat→Int} {w':World} (h:BI sp len z w k f w') (hk:k<17) (hs:Src w sp len z):BI sp len z w (k+1) (upd f k (z k)) (w'.setCell ⟨w.heap.size+1,k,none⟩ (.int .u8 (z k))):=by
 have hf:=h.fr.set ⟨w.heap.size+1,k,none⟩ (.int .u8 (z k)) Jf
 refine ⟨fun j hj=>?_,fun j hj=>?_,hs.below hf.below (xnR _),h.ho.set k hk _,h.hr.set_other _ _ Jf,hf⟩
 · by_cases e:j=k
   · exact Zz
   exact Qm
 exact Qi
theorem cX (sp:Option Addr) (len cap:Nat) (z:Nat→Int) (hlen:len≤16) (w:World) (hs:Src w sp len z) :
 Calls Tryz.prog 137 #[.slice sp len cap] w fun e w'=>e=.returned (.tuple #[(.agg (row .u8 17 (blk len z)).toArray),.int .i64 (dJ len)])∧Below w.heap.size w w':=by
 have ee:dJ len=0:=by unfold dJ; rw [if_pos hlen]
 rw [ee]
 have z0:Has ((w.alloc (.cells jF 158)).alloc (.cells jF 158)) w.heap.size .u8 17 (fun _=>0):=(jE _ _ _ rfl).alloc _ Jf
 have o0:Has ((w.alloc (.cells jF 158)).alloc (.cells jF 158)) (w.heap.size+1) .u8 17 (fun _=>0):=jE _ _ _ Jf
 have g0:Fr w 2 ((w.alloc (.cells jF 158)).alloc (.cells jF 158)):=((Fr.refl w).alloc _).alloc _
 have g1:=g0.setAll (w.heap.size+1) JK (row .u8 17 (fun _=>0))
 have hI0:BI sp len z w 0 (fun _=>0) (((w.alloc (.cells jF 158)).alloc (.cells jF 158)).setCells (w.heap.size+1) 0 (row .u8 17 (fun _=>0))):=⟨fun j hj=>by omega,fun _ _=>rfl,hs.below g1.below (xnR _),Has.all o0.there .u8 (fun _=>0),z0.setAll_other (w.heap.size+1) JK 0 _,g1⟩
 have hl:¬ (len:Int)>16:=by omega
 clear ee g0 g1 z0
 go_enter Tryz.func137,Tryz.ntmps137
 have tok:True:=trivial
 go_upto_region 2 with (have _t:=tok; refine ys .u8 17 (fun _=>0) (yX (o0)) (qX _) ?_; clear tok)
 generalize (((w.alloc (.cells jF 158)).alloc (.cells jF 158)).setCells (w.heap.size+1) 0 (row .u8 17 (fun _=>0)))=w2 at *; clear o0; go_wp2
 go_loopw [5] (fun i w'=>∃ (k:Nat) (f:Nat→Int),k≤len∧i=.int .i64 k∧BI sp len z w k f w') (fun i _=>len-(intOf i).toNat)
 case atStart=>exact ⟨0,_,by omega,rfl,hI0⟩
 case round =>
  obtain ⟨k,f,hk,rfl,hI⟩:=hrel; clear hI0; have g1:(0:Int)≤(k:Int):=by omega
  by_cases hlt:k<len
  · obtain ⟨ad,rfl,c1⟩:=hI.src k hlt; have HS:=show Hid _ from hI.step JK hs; have c2:=hI.ho.cell k JK; have f2:=hI.ho.free k JK
    have g2:(k:Int)<(len:Int):=by omega
    have g3:(k:Int)<17:=by omega
    have HW:=show Hid _ from hs; clear hI hs; generalize f k=y at *; generalize z k=x at *; go_wp2
    exact QW
  obtain rfl:k=len:=by omega
  have c2:=hI.ho.cell k JK; have f2:=hI.ho.free k JK; have g3:(k:Int)<17:=by omega
  have hb:=(hI.ho.set k JK 1).congr (g:=blk k z) (fun j hj=>by
   unfold blk; rw [if_pos hlen]; by_cases e:j=k
   · subst e; rw [jP,if_neg JK,if_pos rfl]
   rw [jR _ _ _ _ e]; by_cases e2:j<k
   · rw [if_pos e2]; exact hI.done j e2
   rw [if_neg e2,if_neg e]; exact hI.rest j JK)
  have hz:=hI.hr.set_other ⟨w.heap.size+1,k,none⟩ (.int .u8 1) Jf; have hB:=((hI.fr.set ⟨w.heap.size+1,k,none⟩ (.int .u8 1) Jf).setAll w.heap.size (xnR _) (row .u8 17 (blk k z))).below; clear hI hs; generalize f k=y at *; go_upto_region 9 with fail; generalize wr.setCell ⟨w.heap.size+1,k,none⟩ (.int .u8 1)=w3 at *; clear c2 f2 g3 hlen hl; generalize hj:blk k z=g at *; go_wp2_with (first | (refine yl (hb) Tryz.underlying158 (jL _) ?_) | (refine ys .u8 17 (g) (yX (hz)) (qX _) ?_)); exact bRq (v:=.tuple #[(.agg (row .u8 17 (g)).toArray),.int .i64 0]) (xN Tryz.results137 rfl rfl (Has.all hz.there .u8 _).range Tryz.underlying158 rfl (jL _)) rfl ⟨by rw [hj],hB⟩
theorem j1m (sp:Option Addr) (len cap:Nat) (z:Nat→Int) (w:World) (hs:Src w sp len z) :
 Calls Tryz.prog 137 #[.slice sp len cap] w fun e w'=>e=.returned (.tuple #[(.agg (row .u8 17 (blk len z)).toArray),.int .i64 (dJ len)])∧Below w.heap.size w w':=by
 by_cases h:len≤16
 · exact cX sp len cap z h w hs
 exact aK sp len cap z JK w
def dgN (s A j:Nat):Nat:=A/2^(s*j)%2^s
def dg (s A:Nat):Nat→Int:=fun j=>((dgN s A j:Nat):Int)
theorem j2d (s A j:Nat):dgN s A j<2^s:=Nat.mod_lt _ (Nat.two_pow_pos s)
theorem x0u (s A n:Nat) (M:Int) (hM:M=((2^s:Nat):Int)):In M n (dg s A):=fun j _=>by
 have:=j2d s A j
 unfold dg
 omega
theorem q6m (s A i:Nat) (hs:0<s):dgN s A (i/s)/2^(i%s)%2=A/2^i%2:=by
 have h1:=Nat.mod_lt i hs
 have h2:s*(i/s)+i%s=i:=Nat.div_add_mod i s
 unfold dgN
 rw [← Nat.toNat_testBit,← Nat.toNat_testBit,Nat.testBit_mod_two_pow,Nat.testBit_div_two_pow,decide_eq_true h1,Bool.true_and,Nat.add_comm,h2]
theorem q5r (s A i j:Nat) (hs:0<s):dgN s (A%2^(i+1)) j=dgN s (A%2^i) j+(if j=i/s then 2^(i%s)*(A/2^i%2) else 0):=by
 have hr:=Nat.mod_lt i hs
 have hi:s*(i/s)+i%s=i:=Nat.div_add_mod i s
 have hX:A%2^i<2^i:=Nat.mod_lt _ (Nat.two_pow_pos i)
 have hb:A/2^i%2<2:=Nat.mod_lt _ JG
 rw [Nat.mod_pow_succ]
 unfold dgN
 generalize A%2^i=X at *; generalize A/2^i%2=b at *
 rcases Nat.lt_trichotomy j (i/s) with h | h | h
 · rw [if_neg JK,Nat.add_zero]; obtain ⟨q,hq⟩:∃ q,i/s=j+1+q:=⟨i/s-(j+1),by omega⟩
   have e:2^i*b=2^(s*j)*(2^s*(2^(s*q+i%s)*b)):=by
    have e1:i=s*j+(s+(s*q+i%s)):=by
     have e2:s*(j+1+q)=s*j+s+s*q:=by rw [Nat.mul_add,Nat.mul_add,Nat.mul_one]
     rw [hq,e2] at hi; omega
    conv=>lhs; rw [e1]
    rw [Nat.pow_add,Nat.pow_add 2 s,Nat.mul_assoc,Nat.mul_assoc]
   rw [e,Nat.add_mul_div_left _ _ (Nat.two_pow_pos _),Nat.add_mul_mod_self_left]
 · rw [if_pos h]; have e:2^i*b=2^(s*j)*(2^(i%s)*b):=by
    conv=>lhs; rw [← hi,← h]
    rw [Nat.pow_add,Nat.mul_assoc]
   have hx:X/2^(s*j)<2^(i%s):=by
    rw [Nat.div_lt_iff_lt_mul (Nat.two_pow_pos _),← Nat.pow_add,Nat.add_comm,h,hi]; exact hX
   have hs2:2^(i%s)+2^(i%s)≤2^s:=by
    rw [← Nat.two_mul,Nat.mul_comm,← Nat.pow_succ]; exact Nat.pow_le_pow_right JG JK
   have hy:2^(i%s)*b≤2^(i%s):=by
    have:=Nat.mul_le_mul_left (2^(i%s)) (show b≤1 by omega); omega
   rw [e,Nat.add_mul_div_left _ _ (Nat.two_pow_pos _),Nat.mod_eq_of_lt (a:=X/2^(s*j)+2^(i%s)*b) JK,Nat.mod_eq_of_lt (a:=X/2^(s*j)) JK]
 rw [if_neg JK,Nat.add_zero]
 have hle:i+1≤s*j:=by
  have e2:s*(i/s+1)≤s*j:=Nat.mul_le_mul_left s h; rw [Nat.mul_add,Nat.mul_one] at e2; omega
 have hp:2^(i+1)≤2^(s*j):=Nat.pow_le_pow_right JG hle
 rw [Nat.pow_succ] at hp
 have hy:2^i*b≤2^i:=by
  have:=Nat.mul_le_mul_left (2^i) (show b≤1 by omega); omega
 rw [Nat.div_eq_of_lt JK,Nat.div_eq_of_lt JK]
theorem q5q (s j:Nat):dgN s 0 j=0:=by unfold dgN; simp
theorem wW (s A j:Nat):dg s (A%2^0) j=0:=by unfold dg; rw [Nat.pow_zero,Nat.mod_one,q5q]; rfl
theorem lG (s A:Nat) (M:Int) (hM:M=((2^s:Nat):Int)):∀ n,val M (dg s A) n=((A%2^(s*n):Nat):Int)
 | 0=>by simp [val,Nat.mod_one]
 | n+1=>by
   simp only [val]
   rw [lG s A M hM n,hM,← Int.natCast_pow,← Nat.pow_mul,Nat.mul_add,Nat.mul_one,Nat.pow_add,Nat.mod_mul]
   unfold dg dgN
   rw [Int.natCast_add,Int.natCast_mul]
theorem wA (s n:Nat) (M:Int) (hM:M=((2^s:Nat):Int)) (f:Nat→Int) (hf:In M n f):∀ j,j<n→f j=dg s (val M f n).toNat j:=by
 have hp:(0:Int)<M:=by have:=Nat.two_pow_pos s; omega
 have hb:=qE M hp f n hf; refine hH M hp f _ n hf (x0u s _ n M hM) ?_
 rw [lG s _ M hM n,Nat.mod_eq_of_lt]
 · omega
 have e:M^n=((2^(s*n):Nat):Int):=by rw [hM,← Int.natCast_pow,← Nat.pow_mul]
 rw [e] at hb
 omega
theorem x2l (x y s:Nat) (hx:x<2^s):x ||| (2^s*y)=x+2^s*y:=by
 rw [Nat.or_comm,← Nat.two_pow_add_eq_or_of_lt hx y,Nat.add_comm]
theorem cF (w:World) (t:TypeId) (b:Nat) (hb:b=w.heap.size):Has (w.alloc (.cells j0h t)) b .i64 6 (fun _=>0):=Has.new w .i64 6 (fun _=>0) t b hb
theorem x0n (w:World):(Instr.makeSlice 113 (.int .i64 6) (.int .i64 6)).run Tryz.prog w=.ok (.slice (some ⟨w.heap.size,0,none⟩) 6 6) (w.alloc (.cells j0h 3)):=by kernel_rfl
def nb (a:Nat→Int):Nat:=(val 256 a 17).toNat
theorem x2o (a:Nat→Int) (ha:In 256 17 a):((nb a:Nat):Int)=val 256 a 17:=by
 have:=qE 256 JG a 17 ha
 unfold nb
 omega
theorem x0m (a:Nat→Int) (ha:In 256 17 a):nb a<2^136:=by
 have:=qE 256 JG a 17 ha
 rw [show (256:Int)^17=87112285931760246646623899502532662132736 from by decide] at this
 unfold nb
 omega
theorem x4u (a:Nat→Int) (ha:In 256 17 a) (j:Nat) (hj:j<17):a j=dg 8 (nb a) j:=wA 8 17 256 JG a ha j hj
structure DI (a:Nat→Int) (w:World) (k:Nat) (w':World):Prop where
 ha:Has w' w.heap.size .u8 17 a
 ht:Has w' (w.heap.size+1) .i64 6 (dg 26 (nb a%2^k))
 fr:Fr w 2 w'
theorem x6z (a:Nat→Int) (ha:In 256 17 a) (k:Nat) (hk:k<136):a (k/8)/2^(k%8)%2=((nb a/2^k%2:Nat):Int):=by
 rw [x4u a ha (k/8) JK,← q6m 8 (nb a) k JG]
 unfold dg
 rw [Int.natCast_emod,Int.natCast_ediv,Int.natCast_pow]
 rfl
theorem x0t (s A i j:Nat) (hs:0<s) (x:Int) (hx:x=dg s (A%2^i) (i/s)+((A/2^i%2:Nat):Int)*((2^(i%s):Nat):Int)):upd (dg s (A%2^i)) (i/s) x j=dg s (A%2^(i+1)) j:=by
 have e:=q5r s A i j hs
 by_cases c:j=i/s
 · subst c; rw [jP,hx]; rw [if_pos rfl] at e; unfold dg; rw [e,Int.natCast_add,Int.natCast_mul,Int.mul_comm]
 rw [jR _ _ _ _ c]
 rw [if_neg c] at e
 unfold dg
 rw [e,Nat.add_zero]
theorem DI.step {a:Nat→Int} {w:World} {k:Nat} {w':World} (h:DI a w k w') (hk:k<136) (x:Int) (hx:x=dg 26 (nb a%2^k) (k/26)+((nb a/2^k%2:Nat):Int)*((2^(k%26):Nat):Int)) :
 DI a w (k+1) ((w'.setCell ⟨w.heap.size+1,k/26,none⟩ (.int .i64 x)).drew) :=
 ⟨(h.ha.set_other _ _ Jf).drew,(Has.congr (h.ht.set (k/26) JK x) fun j _=>x0t 26 (nb a) k j JG x hx).drew,(h.fr.set _ _ Jf).drew⟩
theorem q6v:∀ x:Fin 256,bits BinOp.and IntKind.u8 (x.val:Int) 1=(x.val:Int)%2:=by decide +kernel
theorem and1 (x:Int) (h:0≤x∧x<256):bits BinOp.and IntKind.u8 x 1=x%2:=by
 obtain ⟨n,rfl⟩:=xiN h.1
 exact q6v ⟨n,by omega⟩
theorem x1v (x:Int) (h:0≤x∧x<256) (q:Nat):0≤x/2^q∧x/2^q<256:=by
 obtain ⟨n,rfl⟩:=xiN h.1
 have e:(n:Int)/2^q=((n/2^q:Nat):Int):=by rw [Int.natCast_ediv,Int.natCast_pow]; rfl
 have:=Nat.div_le_self n (2^q)
 rw [e]
 generalize n/2^q=y at *
 omega
theorem q1h (d:Nat) (hd:d<2^26) (x:Int) (h:0≤x∧x<256) (b:Nat) (q r:Nat) (hb:x/2^q%2=(b:Int)) (hr:r<26) :
 wrap64 ((d:Int)+wrap64 (wrap64 (bits BinOp.and IntKind.u8 (x/2^q) 1)*2^r))=(d:Int)+(b:Int)*((2^r:Nat):Int):=by
 have i:=x1v x h q
 rw [and1 _ i,hb]
 have hb2:b<2:=by omega
 have hp:2^r≤2^25:=Nat.pow_le_pow_right JG JK
 have e:(2:Int)^r=((2^r:Nat):Int):=by rw [Int.natCast_pow]; rfl
 rw [e]
 generalize 2^r=p at *
 have hc:b=0∨b=1:=by omega
 unfold wrap64
 rcases hc with rfl | rfl <;> omega
theorem gL (a:Nat→Int) (ha:In 256 17 a) (w:World) :
 Calls Tryz.prog 157 #[(.agg (row .u8 17 (a)).toArray)] w fun e w'=>∃ B:Nat,e=.returned (.slice (some ⟨B,0,none⟩) 6 6)∧(w.heap.size≤B∧B<w'.heap.size∧Has w' B .i64 6 (dg 26 (nb a)))∧Below w.heap.size w w':=by
 have hmk:=x0n
 go_enter Tryz.func157,Tryz.ntmps157
 go_wp2
 go_loopw [4] (fun i w'=>∃ k:Nat,k≤136∧i=.int .i64 k∧DI a w k w') (fun i _=>136-(intOf i).toNat)
 case atStart=>exact ⟨0,by omega,rfl,⟨(Has.new w _ _ _ _ _ rfl).alloc _ Jf,(cF _ _ _ Jf).congr (fun j _=>(wW 26 (nb a) j).symm),((Fr.refl w).alloc _).alloc _⟩⟩
 case round =>
  obtain ⟨k,hk,rfl,hI⟩:=hrel; clear hmk; by_cases hlt:k<136
  · have HS:=show Hid _ from fun x hx=>hI.step hlt x hx
    have c1:=hI.ha.cell (k/8) JK; have c2:=hI.ht.cell (k/26) JK; have f1:=hI.ht.free (k/26) JK; have i1:=ha (k/8) JK; have i2:=j2d 26 (nb a%2^k) (k/26); have hb:=x6z a ha k hlt; have g1:(0:Int)≤(k:Int):=by omega
    have g2:(k:Int)<136:=by omega
    have g3:((k:Int)/8).toNat=k/8:=by omega
    have g4:((k:Int)/26).toNat=k/26:=by omega
    have g5:((k:Int)%8).toNat=k%8:=by omega
    have g6:((k:Int)%26).toNat=k%26:=by omega
    have HE:=show Hid _ from q1h (dgN 26 (nb a%2^k) (k/26)) i2 (a (k/8)) i1 (nb a/2^k%2) (k%8) (k%26) hb (Nat.mod_lt _ JG); clear hI hb i2; generalize a (k/8)=x at *; go_wp2
    go_region; go_wp2; go_roundw
    case rel=>exact ⟨k+1,by omega,by go_num,HS.out _ HE.out⟩
    case measure=>simp [intOf]; omega
  obtain rfl:k=136:=by omega
  have hd:=hI.ht.congr (g:=dg 26 (nb a)) (fun j _=>by rw [Nat.mod_eq_of_lt (x0m a ha)]); go_wp2; go_ret; exact ⟨_,rfl,⟨by omega,by have:=hI.fr.size; omega,hd⟩,hI.fr.below⟩
abbrev D:Int:=67108864
theorem D5:D^5=1361129467683753853853498429727072845824:=by decide
def uC (f:Nat→Int) (k:Nat):Nat→Int:=fun j=>(if j<k∧j<5 then f j else 0)+(if j+5<k then 5*f (j+5) else 0)
theorem q7a (f:Nat→Int) (k:Nat) (hk:k<5):∀ j,upd (uC f k) k (uC f k k+f k) j=uC f (k+1) j:=fun j=>by
 unfold upd uC
 by_cases e:j=k
 · subst e
   simp [hk]
   omega
 · rw [if_neg e]
   by_cases c:j<k
   · have c2:j<k+1:=by omega
     have c3:¬ j+5<k:=by omega
     have c4:¬ j+5<k+1:=by omega
     simp [c,c2,c3,c4]
   · have c2:¬ j<k+1:=by omega
     have c3:¬ j+5<k:=by omega
     have c4:¬ j+5<k+1:=by omega
     simp [c,c2,c3,c4]
theorem q1y (f:Nat→Int) (k:Nat) (hk:5≤k):∀ j,upd (uC f k) (k-5) (uC f k (k-5)+5*f k) j=uC f (k+1) j:=fun j=>by
 unfold upd uC
 by_cases e:j=k-5
 · subst e
   have c0:¬ k-5+5<k:=by omega
   have c1:k-5+5<k+1:=by omega
   have c2:k-5+5=k:=by omega
   have c3:k-5<k:=by omega
   have c4:k-5<k+1:=by omega
   rw [if_pos rfl,if_neg c0,if_pos c1,c2,Int.add_zero]
   by_cases c5:k-5<5
   · rw [if_pos ⟨c3,c5⟩,if_pos ⟨c4,c5⟩]
   · rw [if_neg (fun h=>c5 h.2),if_neg (fun h=>c5 h.2)]
 · rw [if_neg e]
   have c1:(j<k∧j<5)↔(j<k+1∧j<5):=by omega
   have c2:(j+5<k)↔(j+5<k+1):=by omega
   simp only [c1,c2]
theorem fY (f:Nat→Int) (n k:Nat) (M:Int) (hn:0<n) (hf:∀ j,j<n→0≤f j∧f j≤M) (hk:k≤n) (j:Nat):0≤uC f k j∧uC f k j≤6*M:=by
 unfold uC
 have hM:=hf 0 JK
 by_cases c1:j<k∧j<5
 · have a:=hf j JK; by_cases c2:j+5<k
   · have b:=hf (j+5) JK; rw [if_pos c1,if_pos c2]; omega
   rw [if_pos c1,if_neg c2]; omega
 by_cases c2:j+5<k
 · have b:=hf (j+5) JK; rw [if_neg c1,if_pos c2]; omega
 rw [if_neg c1,if_neg c2]; omega
theorem j4m (l h:Int):(l+5*h)%Q=(l+1361129467683753853853498429727072845824*h)%Q:=by simp only [Q]; omega
theorem q1x (f:Nat→Int):val D (uC f 6) 5%Q=val D f 6%Q:=by
 have e:val D (uC f 6) 5=val D f 5+5*f 5:=by
  simp [val,uC]; simp only [D]; omega
 have e2:val D f 6=val D f 5+D^5*f 5:=rfl
 rw [e,e2,D5,j4m]
theorem j7q (f:Nat→Int):val D (uC f 11) 6%Q=val D f 11%Q:=by
 have e:val D (uC f 11) 6=val D f 5+5*val D (fun j=>f (5+j)) 6:=by
  simp [val,uC]; simp only [D]; omega
 have e2:=dV D f 5 6
 rw [show (5+6:Nat)=11 from rfl,D5] at e2
 rw [e,e2,j4m]
def num (B:Nat) (w:World):Int:=val D (fun j=>match w.cell? ⟨B,j,none⟩ with | some (.int _ n)=>n | _=>0) 5
theorem q4a {w:World} {B:Nat} {f:Nat→Int} (h:Has w B .i64 5 f):num B w=val D f 5:=qZ D 5 fun j hj=>by rw [h.cell j JK]
def mu2 (B:Nat) (r:Value) (w:World):Nat:=2*(num B w).toNat+(if 0<intOf r then 1 else 0)
structure RS (f:Nat→Int) (w w':World):Prop where
 hd:Has w' (w.heap.size+1) .i64 5 f
 hr:Has w' w.heap.size .u8 17 (fun _=>0)
 fr:Fr w 2 w'
theorem RS.set {f:Nat→Int} {w w':World} (h:RS f w w') (k:Nat) (hk:k<5) (x:Int):RS (upd f k x) w (w'.setCell ⟨w.heap.size+1,k,none⟩ (.int .i64 x)) :=
 ⟨h.hd.set k hk x,h.hr.set_other _ _ Jf,h.fr.set _ _ Jf⟩
structure RA (v:Int) (n B:Nat) (f:Nat→Int) (w w':World):Prop where
 cs:n=5∨n=6∨n=11
 big:∀ j,j<n→0≤f j∧f j≤(if n=11 then 72057594037927936 else if n=6 then 432345564227567616 else 2594073385365405696)
 eq:val D f n%Q=v%Q
 ht:Has w' B .i64 n f
 hB:B<w'.heap.size
 ne:B≠w.heap.size∧B≠w.heap.size+1
 rs:RS (fun _=>0) w w'
structure UI (n B U:Nat) (f:Nat→Int) (m k:Nat) (w w':World):Prop where
 ht:Has w' B .i64 n f
 hu:Has w' U .i64 m (uC f k)
 hB:B<w'.heap.size
 hU:U<w'.heap.size
 rs:RS (fun _=>0) w w'
theorem UI.low {n B U:Nat} {f:Nat→Int} {m k:Nat} {w w':World} (h:UI n B U f m k w w') (hk:k<5) (hm:5≤m) (hne:U≠B) (hlo:w.heap.size+2≤U) :
 UI n B U f m (k+1) w ((w'.setCell ⟨U,k,none⟩ (.int .i64 (uC f k k+f k))).drew) :=
 ⟨(h.ht.set_other _ _ (by simpa using hne)).drew,(Has.congr (h.hu.set k JK _) fun j _=>q7a f k hk j).drew,by have:=h.hB; simpa using this,by have:=h.hU; simpa using this,⟨(h.rs.hd.set_other _ _ Ji).drew,(h.rs.hr.set_other _ _ Ji).drew,(h.rs.fr.set _ _ Ji).drew⟩⟩
theorem UI.high {n B U:Nat} {f:Nat→Int} {m k:Nat} {w w':World} (h:UI n B U f m k w w') (hk:5≤k) (hkm:k-5<m) (hne:U≠B) (hlo:w.heap.size+2≤U) :
 UI n B U f m (k+1) w ((w'.setCell ⟨U,k-5,none⟩ (.int .i64 (uC f k (k-5)+5*f k))).drew) :=
 ⟨(h.ht.set_other _ _ (by simpa using hne)).drew,(Has.congr (h.hu.set (k-5) hkm _) fun j _=>q1y f k hk j).drew,by have:=h.hB; simpa using this,by have:=h.hU; simpa using this,⟨(h.rs.hd.set_other _ _ Ji).drew,(h.rs.hr.set_other _ _ Ji).drew,(h.rs.fr.set _ _ Ji).drew⟩⟩
structure CI (B:Nat) (f:Nat→Int) (k:Nat) (g:Nat→Int) (w w':World):Prop where
 done:∀ j,j<k→g j=f j
 ht:Has w' B .i64 5 f
 rs:RS g w w'
theorem CI.step {B:Nat} {f:Nat→Int} {k:Nat} {g:Nat→Int} {w w':World} (h:CI B f k g w w') (hk:k<5) (ne:B≠w.heap.size+1):CI B f (k+1) (upd g k (f k)) w (w'.setCell ⟨w.heap.size+1,k,none⟩ (.int .i64 (f k))):=by
 refine ⟨fun j hj=>?_,h.ht.set_other _ _ Ji,h.rs.set k hk _⟩
 by_cases e:j=k
 · exact Zz
 exact Qm
structure R2 (v:Int) (r:Int) (f:Nat→Int) (w w':World):Prop where
 r0:0≤r
 big:∀ j,j<5→0≤f j∧f j≤2594073385365405696
 eq:val D f 5%Q=v%Q
 inn:r=0→In D 5 f
 rs:RS f w w'
structure R3 (f:Nat→Int) (k:Nat) (r:Int) (g:Nat→Int) (w w':World):Prop where
 r0:0≤r
 r1:r≤137438953472
 done:∀ j,j<k→0≤g j∧g j<67108864
 rest:∀ j,k≤j→g j=f j
 eq:val D g k+D^k*r=val D f k
 rs:RS g w w'
theorem R3.step {f:Nat→Int} {k:Nat} {r:Int} {g:Nat→Int} {w w':World} (h:R3 f k r g w w') (hk:k<5) (hf:∀ j,j<5→0≤f j∧f j≤2594073385365405696) :
 R3 f (k+1) ((r+g k)/67108864) (upd g k ((r+g k)%67108864)) w (w'.setCell ⟨w.heap.size+1,k,none⟩ (.int .i64 ((r+g k)%67108864))):=by
 have r0:=h.r0; have r1:=h.r1; have e0:=h.rest k (xnR k); have b:=hf k hk
 rw [← e0] at b
 refine ⟨by omega,by omega,fun j hj=>?_,fun j hj=>?_,?_,h.rs.set k JK _⟩
 · by_cases e:j=k
   · subst e; rw [jP]; omega
   exact Qm
 · exact Qi
 rw [gK,gK,zK _ _ _ _ _ (xnR k),jP,Int.pow_succ,Int.mul_assoc,← e0]
 have e1:D^k*((r+g k)%67108864)+D^k*(D*((r+g k)/67108864))=D^k*r+D^k*g k:=by
  rw [← Int.mul_add,← Int.mul_add]; congr 1; simp only [D]; omega
 have e2:=h.eq
 omega
theorem R3.next {v:Int} {f:Nat→Int} {r r0:Int} {g:Nat→Int} {w w0 w':World} (h:R3 f 5 r g w w') (h2:R2 v r0 f w w0) :
 R2 v r (upd g 0 (g 0+5*r)) w (w'.setCell ⟨w.heap.size+1,0,none⟩ (.int .i64 (g 0+5*r))):=by
 have a0:=h.r0; have a1:=h.r1; have d0:=h.done 0 JK
 refine ⟨a0,fun j hj=>?_,?_,fun hr=>?_,h.rs.set 0 JK _⟩
 · by_cases e:j=0
   · subst e; rw [jP]; omega
   rw [jR _ _ _ _ e]; have:=h.done j hj; omega
 · rw [gH D g 0 _ 5 JK,← h2.eq,← h.eq,D5,Int.pow_zero,Int.one_mul,Int.one_mul]; simp only [Q]; omega
 subst hr
 have e:upd g 0 (g 0+5*0)=g:=by funext j; unfold upd; split <;> simp_all
 rw [e]
 exact fun j hj=>h.done j hj
theorem R3.less {v:Int} {f:Nat→Int} {r r0:Int} {g:Nat→Int} {w w0 w':World} (h:R3 f 5 r g w w') (h2:R2 v r0 f w w0) (hr:0<r0) :
 mu2 (w.heap.size+1) (.int .i64 r) (w'.setCell ⟨w.heap.size+1,0,none⟩ (.int .i64 (g 0+5*r)))<mu2 (w.heap.size+1) (.int .i64 r0) w0:=by
 have e:=h.eq; have a0:=h.r0; have b:=qE D JG g 5 h.done; have n1:=q4a (h.next h2).rs.hd; have n2:=q4a h2.rs.hd
 rw [gH D g 0 _ 5 JK,Int.pow_zero,Int.one_mul,Int.one_mul] at n1
 rw [D5] at e b
 show 2*(num _ _).toNat+(if 0<r then 1 else 0)<2*(num _ w0).toNat+(if 0<r0 then 1 else 0)
 rw [n1,n2,if_pos hr]
 by_cases h0:r=0
 · subst h0; rw [if_neg JK]; omega
 rw [if_pos JK]; omega
theorem v5 (f:Nat→Int):val D f 5=f 0+67108864*f 1+4503599627370496*f 2+302231454903657293676544*f 3+20282409603651670423947251286016*f 4:=by
 simp only [val,D]; omega
theorem q7i {f:Nat→Int} (h0:67108859≤f 0) (hf:In D 5 f) (h1:f 1=67108863) (h2:f 2=67108863) (h3:f 3=67108863) (h4:f 4=67108863):val D f 5=Q+(f 0-67108859)∧f 0-67108859<5:=by
 have:=hf 0 JK
 rw [v5,h1,h2,h3,h4]
 simp only [Q,D] at *
 omega
theorem x1o {f:Nat→Int} (hf:In D 5 f) (h:¬ (67108859≤f 0∧f 1=67108863∧f 2=67108863∧f 3=67108863∧f 4=67108863)):val D f 5<Q:=by
 have i0:=hf 0 JK; have i1:=hf 1 JK; have i2:=hf 2 JK; have i3:=hf 3 JK; have i4:=hf 4 JK
 rw [v5]
 simp only [Q,D] at *
 generalize f 0=x0 at *; generalize f 1=x1 at *; generalize f 2=x2 at *; generalize f 3=x3 at *; generalize f 4=x4 at *
 omega
structure R6 (V:Nat) (k:Nat) (dB O:Nat) (w w':World):Prop where
 ho:Has w' O .u8 17 (dg 8 (V%2^k))
 hg:Has w' dB .i64 5 (dg 26 V)
 hr:Has w' w.heap.size .u8 17 (fun _=>0)
 fr:Fr w 2 w'
theorem R6.step {V k dB O:Nat} {w w':World} (h:R6 V k dB O w w') (hk:k<130) (hO:w.heap.size<O) (hne:O≠dB) (x:Int) (hx:x=dg 8 (V%2^k) (k/8)+((V/2^k%2:Nat):Int)*((2^(k%8):Nat):Int)) :
 R6 V (k+1) dB O w ((w'.setCell ⟨O,k/8,none⟩ (.int .u8 x)).drew) :=
 ⟨(Has.congr (h.ho.set (k/8) JK x) fun j _=>x0t 8 V k j JG x hx).drew,(h.hg.set_other _ _ (by simpa using hne)).drew,(h.hr.set_other _ _ Ji).drew,(h.fr.set _ _ Ji).drew⟩
theorem cR (w:World) (t:TypeId) (b:Nat) (hb:b=w.heap.size):Has (w.alloc (.cells bJ t)) b .i64 5 (fun _=>0):=Has.new w .i64 5 (fun _=>0) t b hb
theorem x4y (w:World):(Instr.makeSlice 113 (.int .i64 5) (.int .i64 5)).run Tryz.prog w=.ok (.slice (some ⟨w.heap.size,0,none⟩) 5 5) (w.alloc (.cells bJ 3)):=by kernel_rfl
def x4s (x:Int):Nat→Int
 | 0=>x
 | _+1=>0
theorem q8n (V:Nat) (h:V<2^26):∀ j,x4s (V:Int) j=dg 26 V j
 | 0=>by show (V:Int)=((V/2^(26*0)%2^26:Nat):Int); rw [Nat.mul_zero,Nat.pow_zero,Nat.div_one,Nat.mod_eq_of_lt h]
 | j+1=>by
   show (0:Int)=((V/2^(26*(j+1))%2^26:Nat):Int)
   rw [Nat.div_eq_of_lt (xnL h (Nat.pow_le_pow_right JG JK))]
   rfl
theorem q6y (y:Nat) (h:y<2^26):bits BinOp.and IntKind.i64 (y:Int) 1=((y%2:Nat):Int):=by
 show IntKind.i64.wrap ((BitVec.ofInt 64 (y:Int) &&& BitVec.ofInt 64 ((1:Nat):Int)).toNat:Int)=_
 rw [BitVec.toNat_and,ofInt_u64 y JK,ofInt_u64 1 JK,Nat.and_one_is_mod,xw6]
 omega
theorem x3n (s A i:Nat):dgN s (A%2^i) (i/s)<2^(i%s):=by
 have hX:A%2^i<2^i:=Nat.mod_lt _ (Nat.two_pow_pos i)
 have hi:s*(i/s)+i%s=i:=Nat.div_add_mod i s
 unfold dgN
 refine Nat.lt_of_le_of_lt (Nat.mod_le _ _) ?_
 rw [Nat.div_lt_iff_lt_mul (Nat.two_pow_pos _),← Nat.pow_add,Nat.add_comm,hi]
 exact hX
theorem x3x (V k:Nat):bits BinOp.or IntKind.u8 (dg 8 (V%2^k) (k/8)) (bits BinOp.and IntKind.i64 (dg 26 V (k/26)/2^(k%26)) 1%256*2^(k%8)%256)=dg 8 (V%2^k) (k/8)+((V/2^k%2:Nat):Int)*((2^(k%8):Nat):Int):=by
 have hx:=x3n 8 V k; have hb:=q6m 26 V k JG; have hy:=j2d 26 V (k/26)
 have hp:2^(k%8)≤2^7:=Nat.pow_le_pow_right JG JK
 have e1:dg 26 V (k/26)/2^(k%26)=((dgN 26 V (k/26)/2^(k%26):Nat):Int):=by
  unfold dg; rw [Int.natCast_ediv,Int.natCast_pow]; rfl
 have hq:=Nat.div_le_self (dgN 26 V (k/26)) (2^(k%26))
 have e3:(2:Int)^(k%8)=((2^(k%8):Nat):Int):=by rw [Int.natCast_pow]; rfl
 have hor:=x2l (dgN 8 (V%2^k) (k/8)) (V/2^k%2) (k%8) hx
 have hb2:V/2^k%2<2:=Nat.mod_lt _ JG
 rw [e1,e3]
 unfold dg
 generalize dgN 8 (V%2^k) (k/8)=x at *; generalize dgN 26 V (k/26)/2^(k%26)=y at *; generalize dgN 26 V (k/26)=y0 at *; generalize V/2^k%2=b at *; generalize 2^(k%8)=p at *
 have e2:bits BinOp.and IntKind.i64 (y:Int) 1=(b:Int):=by rw [q6y y JK,hb]
 rw [e2]
 have hc:b=0∨b=1:=by omega
 have e4:(b:Int)%256*(p:Int)%256=((p*b:Nat):Int):=by rcases hc with rfl | rfl <;> simp <;> omega
 have hpb:p*b<256:=by rcases hc with rfl | rfl <;> omega
 rw [e4,u8_or_nat x (p*b) JK hpb,hor,Int.natCast_add,Int.natCast_mul,Int.mul_comm (p:Int)]
def x2u:Value→Nat
 | .slice _ l _=>l
 | _=>0
theorem fL (n B:Nat) (f:Nat→Int) (w:World) (hn:n=6∨n=11) (hf:∀ j,j<n→0≤f j∧f j≤72057594037927936) (hB:B<w.heap.size) (ht:Has w B .i64 n f) :
 Calls Tryz.prog 158 #[.slice (some ⟨B,0,none⟩) n n] w fun e w'=>∃ g:Nat→Int,e=.returned (.agg (row .u8 17 (g)).toArray)∧(In 256 17 g∧val 256 g 17=val D f n%Q)∧Below w.heap.size w w':=by
 have h0:RA (val D f n) n B f w ((w.alloc (.cells jF 158)).alloc (.cells bJ 3)) :=
  ⟨by omega,fun j hj=>by have:=hf j hj; rcases hn with rfl | rfl <;> simp <;> omega,rfl,(ht.alloc _ hB).alloc _ Ji,by simp; omega,by omega,⟨cR _ _ _ Jf,(jE _ _ _ rfl).alloc _ Jf,((Fr.refl w).alloc _).alloc _⟩⟩
 have hm5:=x4y; have hm6:=x0n; clear ht hf hn hB
 go_enter Tryz.func158,Tryz.ntmps158
 go_wp2
 go_loopw [0] (fun t w'=>∃ (n' B':Nat) (f':Nat→Int),t=.slice (some ⟨B',0,none⟩) n' n'∧RA (val D f n) n' B' f' w w') (fun t _=>x2u t)
 case atStart=>exact ⟨n,B,f,rfl,h0⟩
 case round =>
  obtain ⟨n',B',f',rfl,hI⟩:=hrel; clear h0; by_cases h11:n'=11
  · subst h11; have g0:B'<wr.heap.size:=hI.hB; obtain ⟨wo,rfl⟩:∃ wo:World,wo=wr:=⟨_,rfl⟩
    have hbig:∀ j,j<11→0≤f' j∧f' j≤72057594037927936:=hI.big; have hU0:UI 11 B' wo.heap.size f' 6 0 w (wo.alloc (.cells j0h 3)) :=
     ⟨hI.ht.alloc _ g0,(cF _ _ _ rfl).congr (fun j _=>by unfold uC; simp),by simp; omega,by simp,⟨hI.rs.hd.alloc _ Um,hI.rs.hr.alloc _ Um,⟨(hI.rs.fr.alloc _).below,by have:=hI.rs.fr.size; simp; omega⟩⟩⟩
    have heq:val D (uC f' 11) 6%Q=val D f n%Q:=(j7q f').trans hI.eq; have hlo:w.heap.size+2≤wo.heap.size:=hI.rs.fr.size; have hne:wo.heap.size≠B':=by omega
    have HQ:=show Hid _ from heq; have HB:=show Hid _ from hbig; clear hI heq hbig; go_wp2; generalize wo.alloc (.cells j0h 3)=w2 at *; generalize wo.heap.size=U at *
    go_loopw [5] (fun i w'=>∃ k:Nat,k≤11∧i=.int .i64 k∧UI 11 B' U f' 6 k w w') (fun i _=>11-(intOf i).toNat)
    case atStart=>exact ⟨0,by omega,rfl,hU0⟩
    case round =>
     obtain ⟨k,hk,rfl,hI⟩:=hrel; clear hU0; by_cases hlt:k<11
     · have b1:=HB.out k hlt; have g1:(0:Int)≤(k:Int):=by omega
       have g2:(k:Int)<11:=by omega
       have c1:=hI.ht.cell k hlt; by_cases hlo5:k<5
       · have HS:=show Hid _ from hI.low hlo5 JK hne hlo
         have b2:=fY f' 11 k 72057594037927936 JK HB.out JK k; have c2:=hI.hu.cell k JK; have f1:=hI.hu.free k JK; have g3:(k:Int)<5:=by omega
         have g4:(k:Int)<6:=by omega
         clear hI; generalize uC f' k k=x at *; generalize f' k=y at *; obtain ⟨x0,x1⟩:=b2; obtain ⟨y0,y1⟩:=b1; exact Xi
       have HS:=show Hid _ from hI.high JK JK hne hlo
       have b2:=fY f' 11 k 72057594037927936 JK HB.out JK (k-5); have c2:=hI.hu.cell (k-5) JK; have f1:=hI.hu.free (k-5) JK; have g3:¬ (k:Int)<5:=by omega
       have g4:(k:Int)-5<6:=by omega
       have g5:(0:Int)≤(k:Int)-5:=by omega
       have g6:((k:Int)-5).toNat=k-5:=by omega
       clear hI; generalize uC f' k (k-5)=x at *; generalize f' k=y at *; obtain ⟨x0,x1⟩:=b2; obtain ⟨y0,y1⟩:=b1; exact Xi
     obtain rfl:k=11:=by omega
     have HN:=show Hid (RA (val D f n) 6 U (uC f' 11) w wr) from ⟨by omega,fun j _=>by have:=fY f' 11 11 72057594037927936 JK HB.out (xnR _) j; simp; omega,HQ.out,hI.hu,hI.hU,by omega,hI.rs⟩; clear hI hlt hk; go_wp2
     go_roundw
     case rel=>exact ⟨6,U,_,rfl,HN.out⟩
     case measure=>simp [x2u]
  by_cases h6:n'=6
  · subst h6; clear h11; have g0:B'<wr.heap.size:=hI.hB; obtain ⟨wo,rfl⟩:∃ wo:World,wo=wr:=⟨_,rfl⟩
    have hbig:∀ j,j<6→0≤f' j∧f' j≤432345564227567616:=hI.big; have hU0:UI 6 B' wo.heap.size f' 5 0 w (wo.alloc (.cells bJ 3)) :=
     ⟨hI.ht.alloc _ g0,(cR _ _ _ rfl).congr (fun j _=>by unfold uC; simp),by simp; omega,by simp,⟨hI.rs.hd.alloc _ Um,hI.rs.hr.alloc _ Um,⟨(hI.rs.fr.alloc _).below,by have:=hI.rs.fr.size; simp; omega⟩⟩⟩
    have heq:val D (uC f' 6) 5%Q=val D f n%Q:=(q1x f').trans hI.eq; have hlo:w.heap.size+2≤wo.heap.size:=hI.rs.fr.size; have hne:wo.heap.size≠B':=by omega
    have HQ:=show Hid _ from heq; have HB:=show Hid _ from hbig; clear hI heq hbig; go_wp2; generalize wo.alloc (.cells bJ 3)=w2 at *; generalize wo.heap.size=U at *
    go_loopw [5] (fun i w'=>∃ k:Nat,k≤6∧i=.int .i64 k∧UI 6 B' U f' 5 k w w') (fun i _=>6-(intOf i).toNat)
    case atStart=>exact ⟨0,by omega,rfl,hU0⟩
    case round =>
     obtain ⟨k,hk,rfl,hI⟩:=hrel; clear hU0; by_cases hlt:k<6
     · have b1:=HB.out k hlt; have g1:(0:Int)≤(k:Int):=by omega
       have g2:(k:Int)<6:=by omega
       have c1:=hI.ht.cell k hlt; by_cases hlo5:k<5
       · have HS:=show Hid _ from hI.low hlo5 JK hne hlo
         have b2:=fY f' 6 k 432345564227567616 JK HB.out JK k; have c2:=hI.hu.cell k JK; have f1:=hI.hu.free k JK; have g3:(k:Int)<5:=by omega
         have g4:(k:Int)<5:=by omega
         clear hI; generalize uC f' k k=x at *; generalize f' k=y at *; obtain ⟨x0,x1⟩:=b2; obtain ⟨y0,y1⟩:=b1; exact Xi
       have HS:=show Hid _ from hI.high JK JK hne hlo
       have b2:=fY f' 6 k 432345564227567616 JK HB.out JK (k-5); have c2:=hI.hu.cell (k-5) JK; have f1:=hI.hu.free (k-5) JK; have g3:¬ (k:Int)<5:=by omega
       have g4:(k:Int)-5<5:=by omega
       have g5:(0:Int)≤(k:Int)-5:=by omega
       have g6:((k:Int)-5).toNat=k-5:=by omega
       clear hI; generalize uC f' k (k-5)=x at *; generalize f' k=y at *; obtain ⟨x0,x1⟩:=b2; obtain ⟨y0,y1⟩:=b1; exact Xi
     obtain rfl:k=6:=by omega
     have HN:=show Hid (RA (val D f n) 5 U (uC f' 6) w wr) from ⟨by omega,fun j _=>by have:=fY f' 6 6 432345564227567616 JK HB.out (xnR _) j; simp; omega,HQ.out,hI.hu,hI.hU,by omega,hI.rs⟩; clear hI hlt hk; go_wp2
     go_roundw
     case rel=>exact ⟨5,U,_,rfl,HN.out⟩
     case measure=>simp [x2u]
  obtain rfl:n'=5:=by have:=hI.cs; omega
  clear h11 h6 hm5 hm6; have hne:=hI.ne.2; have hC:CI B' f' 0 (fun _=>0) w wr:=⟨fun j hj=>by omega,hI.ht,hI.rs⟩
  have hbig:∀ j,j<5→0≤f' j∧f' j≤2594073385365405696:=hI.big; have HB:=show Hid _ from hbig; have HQ:=show Hid _ from hI.eq; clear hI hbig; go_wp2
  obtain ⟨w1,rfl⟩:∃ w1:World,w1=wr:=⟨_,rfl⟩
  go_loopw [6] (fun i w'=>∃ (k:Nat) (g:Nat→Int),k≤5∧i=.int .i64 k∧CI B' f' k g w w') (fun i _=>5-(intOf i).toNat)
  case atStart=>exact ⟨0,_,by omega,rfl,hC⟩
  case round =>
   obtain ⟨k,g,hk,rfl,hI⟩:=hrel; clear hC; by_cases hlt:k<5
   · have HS:=show Hid _ from hI.step hlt hne
     have c1:=hI.ht.cell k hlt; have c2:=hI.rs.hd.cell k hlt; have f1:=hI.rs.hd.free k hlt; have g1:(0:Int)≤(k:Int):=by omega
     have g2:(k:Int)<5:=by omega
     clear hI; generalize g k=x at *; generalize f' k=y at *; go_wp2; exact QW
   obtain rfl:k=5:=by omega
   have h2:R2 (val D f n) 1 g w wr:=⟨by decide,fun j hj=>by rw [hI.done j hj]; exact HB.out j hj,by rw [qZ D 5 (f:=g) (g:=f') (fun j hj=>hI.done j hj)]; exact HQ.out,fun h=>Vc,hI.rs⟩
   clear hI hlt hk HB HQ; go_wp2; obtain ⟨w2,rfl⟩:∃ w2:World,w2=wr:=⟨_,rfl⟩
   go_loopw [7] (fun r w'=>∃ (rv:Int) (f2:Nat→Int),r=.int .i64 rv∧R2 (val D f n) rv f2 w w') (fun r w'=>mu2 (w.heap.size+1) r w')
   case atStart=>exact ⟨1,_,rfl,h2⟩
   case round =>
    obtain ⟨rv,f2,rfl,hI⟩:=hrel; clear h2; by_cases hpos:0<rv
    · obtain ⟨w3,rfl⟩:∃ w3:World,w3=wr:=⟨_,rfl⟩
      have q1:rv>0:=hpos; go_wp2; go_loopw [7,8] (fun r i w'=>∃ (k:Nat) (rk:Int) (g:Nat→Int),k≤5∧i=.int .i64 k∧r=.int .i64 rk∧R3 f2 k rk g w w') (fun _ i _=>5-(intOf i).toNat)
      case atStart=>exact ⟨0,0,f2,by omega,rfl,rfl,⟨by omega,by omega,fun j hj=>by omega,fun _ _=>rfl,by simp [val],hI.rs⟩⟩
      case round =>
       obtain ⟨k,rk,g,hk,rfl,rfl,h3⟩:=hrel; by_cases hlt:k<5
       · have HS:=show Hid _ from h3.step hlt hI.big
         have c1:=h3.rs.hd.cell k JK; have f1:=h3.rs.hd.free k JK; have a0:=h3.r0; have a1:=h3.r1; have i1:0≤g k∧g k≤2594073385365405696:=by rw [h3.rest k (xnR k)]; exact hI.big k hlt
         have g1:(0:Int)≤(k:Int):=by omega
         have g2:(k:Int)<5:=by omega
         have HI:=show Hid _ from hI; clear h3 hI; generalize g k=x at *
         obtain ⟨x0,x1⟩:=i1; exact JJ
       obtain rfl:k=5:=by omega
       have HN:=show Hid _ from h3.next hI; have HL:=show Hid _ from h3.less hI hpos; have c1:=h3.rs.hd.cell 0 JK; have f1:=h3.rs.hd.free 0 JK; have a0:=h3.r0; have a1:=h3.r1; have i1:=h3.done 0 JK; clear h3 hI hlt hk; generalize g 0=x at *
       obtain ⟨x0,x1⟩:=i1; go_wp2; go_roundw
       case rel=>exact ⟨rk,_,rfl,HN.out⟩
       case measure=>exact HL.out
    obtain rfl:rv=0:=by have:=hI.r0; omega
    have hin:=hI.inn rfl; have c0:=hI.rs.hd.cell 0 JK; have c1:=hI.rs.hd.cell 1 JK; have c2:=hI.rs.hd.cell 2 JK; have c3:=hI.rs.hd.cell 3 JK; have c4:=hI.rs.hd.cell 4 JK; have i0:=hin 0 JK; by_cases hy:67108859≤f2 0∧f2 1=67108863∧f2 2=67108863∧f2 3=67108863∧f2 4=67108863
    · obtain ⟨y0,y1,y2,y3,y4⟩:=hy; obtain ⟨t1,t2⟩:=q7i y0 hin y1 y2 y3 y4; rw [y1] at c1; rw [y2] at c2; rw [y3] at c3; rw [y4] at c4; clear hpos; have i01:f2 0<67108864:=i0.2; clear i0; have hz:=hI.rs.hr.alloc (.cells #[.int .i64 (f2 0-67108859),.int .i64 0,.int .i64 0,.int .i64 0,.int .i64 0] 3) Um; have hF:Fr w 2 (wr.alloc (.cells #[.int .i64 (f2 0-67108859),.int .i64 0,.int .i64 0,.int .i64 0,.int .i64 0] 3)):=⟨(hI.rs.fr.alloc _).below,by have:=hI.rs.fr.size; simp; omega⟩
      have hdB:wr.heap.size<(wr.alloc (.cells #[.int .i64 (f2 0-67108859),.int .i64 0,.int .i64 0,.int .i64 0,.int .i64 0] 3)).heap.size:=by simp
      obtain ⟨V,hVe⟩:=xiN (show 0≤f2 0-67108859 by omega); have hG:Has (wr.alloc (.cells #[.int .i64 (f2 0-67108859),.int .i64 0,.int .i64 0,.int .i64 0,.int .i64 0] 3)) wr.heap.size .i64 5 (dg 26 V):=(Has.new wr .i64 5 (x4s (f2 0-67108859)) 3 _ rfl).congr (fun j _=>by rw [hVe]; exact q8n V JK j); have hV:V<2^130∧(V:Int)=val D f n%Q:=⟨by omega,by have e:=hI.eq; rw [t1] at e; rw [← e]; simp only [Q]; omega⟩
      clear hin hI t1 t2 y1 y2 y3 y4 hVe; go_upto_region 27 with fail; clear c0 c1 c2 c3 c4 y0 i01; generalize wr.alloc (.cells #[.int .i64 (f2 0-67108859),.int .i64 0,.int .i64 0,.int .i64 0,.int .i64 0] 3)=wz at *; generalize wr.heap.size=dB at *; have o0:=jE wz 158 wz.heap.size rfl; have hO:w.heap.size<wz.heap.size:=by have:=hF.size; omega
      have hne2:wz.heap.size≠dB:=by omega
      have r0:R6 V 0 (dB) wz.heap.size w ((wz.alloc (.cells jF 158)).setCells wz.heap.size 0 (row .u8 17 (fun _=>0))) :=
       ⟨(Has.all o0.there .u8 (fun _=>0)).congr Vt,(hG.alloc _ JK).setAll_other _ hne2 0 _,(hz.alloc _ JK).setAll_other _ JK 0 _,⟨jS (hF.alloc _).below _ JK 0 _,by rw [jN]; have:=hF.size; simp; omega⟩⟩
      have tok:True:=trivial; clear hz hG hF; go_wp2_with (have _t:=tok; refine ys .u8 17 (fun _=>0) (yX (o0)) (qX _) ?_; clear tok); generalize ((wz.alloc (.cells jF 158)).setCells wz.heap.size 0 (row .u8 17 (fun _=>0)))=wo at *; clear o0; generalize wz.heap.size=O at *; go_loopw [10] (fun i w'=>∃ k:Nat,k≤130∧i=.int .i64 k∧R6 V k (dB) O w w') (fun i _=>130-(intOf i).toNat)
      case atStart=>exact ⟨0,by omega,rfl,r0⟩
      case round =>
       obtain ⟨k,hk,rfl,hI⟩:=hrel; clear r0; by_cases hlt:k<130
       · exact QJ
       obtain rfl:k=130:=by omega
       exact QQ
    have hlt2:=x1o hin hy; have hpos2:=qE D JG f2 5 hin; obtain ⟨V,hVe⟩:=xiN hpos2.1; have hV:V<2^130∧(V:Int)=val D f n%Q:=⟨by rw [hVe] at hlt2; simp only [Q] at hlt2; omega,by rw [← hI.eq,hVe,Int.emod_eq_of_lt JK (by rw [← hVe]; exact hlt2)]⟩
    have hG:Has wr (w.heap.size+1) .i64 5 (dg 26 V):=hI.rs.hd.congr (fun j hj=>by rw [wA 26 5 D JG f2 hin j hj,hVe]; rfl); have hz:=hI.rs.hr; have hF:=hI.rs.fr; have hdB:w.heap.size+1<wr.heap.size:=by have:=hF.size; omega
    clear hI hin hlt2 hpos2 hVe; have hcs:f2 4≠67108863∨(f2 4=67108863∧(f2 3≠67108863∨(f2 3=67108863∧(f2 2≠67108863∨(f2 2=67108863∧(f2 1≠67108863∨(f2 1=67108863∧f2 0<67108859))))))):=by omega
    clear hy hpos i0; rcases hcs with q | ⟨q4,q | ⟨q3,q | ⟨q2,q | ⟨q1,q⟩⟩⟩⟩
    · have hq:(f2 4 == 67108863)=false:=by simp [q]
      go_upto_region 27 with fail; clear c0 c1 c2 c3 c4 q hq; have o0:=jE wr 158 wr.heap.size rfl; have hO:w.heap.size<wr.heap.size:=by have:=hF.size; omega
      have hne2:wr.heap.size≠w.heap.size+1:=by omega
      have r0:R6 V 0 (w.heap.size+1) wr.heap.size w ((wr.alloc (.cells jF 158)).setCells wr.heap.size 0 (row .u8 17 (fun _=>0))) :=
       ⟨(Has.all o0.there .u8 (fun _=>0)).congr Vt,(hG.alloc _ JK).setAll_other _ hne2 0 _,(hz.alloc _ JK).setAll_other _ JK 0 _,⟨jS (hF.alloc _).below _ JK 0 _,by rw [jN]; have:=hF.size; simp; omega⟩⟩
      have tok:True:=trivial; clear hz hG hF; go_wp2_with (have _t:=tok; refine ys .u8 17 (fun _=>0) (yX (o0)) (qX _) ?_; clear tok); generalize ((wr.alloc (.cells jF 158)).setCells wr.heap.size 0 (row .u8 17 (fun _=>0)))=wo at *; clear o0; generalize wr.heap.size=O at *; go_loopw [10] (fun i w'=>∃ k:Nat,k≤130∧i=.int .i64 k∧R6 V k (w.heap.size+1) O w w') (fun i _=>130-(intOf i).toNat)
      case atStart=>exact ⟨0,by omega,rfl,r0⟩
      case round =>
       obtain ⟨k,hk,rfl,hI⟩:=hrel; clear r0; by_cases hlt:k<130
       · exact QJ
       obtain rfl:k=130:=by omega
       exact QQ
    · rw [q4] at c4; have hq:(f2 3 == 67108863)=false:=by simp [q]
      go_upto_region 27 with fail; clear c0 c1 c2 c3 c4 q hq q4; have o0:=jE wr 158 wr.heap.size rfl; have hO:w.heap.size<wr.heap.size:=by have:=hF.size; omega
      have hne2:wr.heap.size≠w.heap.size+1:=by omega
      have r0:R6 V 0 (w.heap.size+1) wr.heap.size w ((wr.alloc (.cells jF 158)).setCells wr.heap.size 0 (row .u8 17 (fun _=>0))) :=
       ⟨(Has.all o0.there .u8 (fun _=>0)).congr Vt,(hG.alloc _ JK).setAll_other _ hne2 0 _,(hz.alloc _ JK).setAll_other _ JK 0 _,⟨jS (hF.alloc _).below _ JK 0 _,by rw [jN]; have:=hF.size; simp; omega⟩⟩
      have tok:True:=trivial; clear hz hG hF; go_wp2_with (have _t:=tok; refine ys .u8 17 (fun _=>0) (yX (o0)) (qX _) ?_; clear tok); generalize ((wr.alloc (.cells jF 158)).setCells wr.heap.size 0 (row .u8 17 (fun _=>0)))=wo at *; clear o0; generalize wr.heap.size=O at *; go_loopw [10] (fun i w'=>∃ k:Nat,k≤130∧i=.int .i64 k∧R6 V k (w.heap.size+1) O w w') (fun i _=>130-(intOf i).toNat)
      case atStart=>exact ⟨0,by omega,rfl,r0⟩
      case round =>
       obtain ⟨k,hk,rfl,hI⟩:=hrel; clear r0; by_cases hlt:k<130
       · exact QJ
       obtain rfl:k=130:=by omega
       exact QQ
    · rw [q4] at c4; rw [q3] at c3; have hq:(f2 2 == 67108863)=false:=by simp [q]
      go_upto_region 27 with fail; clear c0 c1 c2 c3 c4 q hq q4 q3; have o0:=jE wr 158 wr.heap.size rfl; have hO:w.heap.size<wr.heap.size:=by have:=hF.size; omega
      have hne2:wr.heap.size≠w.heap.size+1:=by omega
      have r0:R6 V 0 (w.heap.size+1) wr.heap.size w ((wr.alloc (.cells jF 158)).setCells wr.heap.size 0 (row .u8 17 (fun _=>0))) :=
       ⟨(Has.all o0.there .u8 (fun _=>0)).congr Vt,(hG.alloc _ JK).setAll_other _ hne2 0 _,(hz.alloc _ JK).setAll_other _ JK 0 _,⟨jS (hF.alloc _).below _ JK 0 _,by rw [jN]; have:=hF.size; simp; omega⟩⟩
      have tok:True:=trivial; clear hz hG hF; go_wp2_with (have _t:=tok; refine ys .u8 17 (fun _=>0) (yX (o0)) (qX _) ?_; clear tok); generalize ((wr.alloc (.cells jF 158)).setCells wr.heap.size 0 (row .u8 17 (fun _=>0)))=wo at *; clear o0; generalize wr.heap.size=O at *; go_loopw [10] (fun i w'=>∃ k:Nat,k≤130∧i=.int .i64 k∧R6 V k (w.heap.size+1) O w w') (fun i _=>130-(intOf i).toNat)
      case atStart=>exact ⟨0,by omega,rfl,r0⟩
      case round =>
       obtain ⟨k,hk,rfl,hI⟩:=hrel; clear r0; by_cases hlt:k<130
       · exact QJ
       obtain rfl:k=130:=by omega
       exact QQ
    · rw [q4] at c4; rw [q3] at c3; rw [q2] at c2; have hq:(f2 1 == 67108863)=false:=by simp [q]
      go_upto_region 27 with fail; clear c0 c1 c2 c3 c4 q hq q4 q3 q2; have o0:=jE wr 158 wr.heap.size rfl; have hO:w.heap.size<wr.heap.size:=by have:=hF.size; omega
      have hne2:wr.heap.size≠w.heap.size+1:=by omega
      have r0:R6 V 0 (w.heap.size+1) wr.heap.size w ((wr.alloc (.cells jF 158)).setCells wr.heap.size 0 (row .u8 17 (fun _=>0))) :=
       ⟨(Has.all o0.there .u8 (fun _=>0)).congr Vt,(hG.alloc _ JK).setAll_other _ hne2 0 _,(hz.alloc _ JK).setAll_other _ JK 0 _,⟨jS (hF.alloc _).below _ JK 0 _,by rw [jN]; have:=hF.size; simp; omega⟩⟩
      have tok:True:=trivial; clear hz hG hF; go_wp2_with (have _t:=tok; refine ys .u8 17 (fun _=>0) (yX (o0)) (qX _) ?_; clear tok); generalize ((wr.alloc (.cells jF 158)).setCells wr.heap.size 0 (row .u8 17 (fun _=>0)))=wo at *; clear o0; generalize wr.heap.size=O at *; go_loopw [10] (fun i w'=>∃ k:Nat,k≤130∧i=.int .i64 k∧R6 V k (w.heap.size+1) O w w') (fun i _=>130-(intOf i).toNat)
      case atStart=>exact ⟨0,by omega,rfl,r0⟩
      case round =>
       obtain ⟨k,hk,rfl,hI⟩:=hrel; clear r0; by_cases hlt:k<130
       · exact QJ
       obtain rfl:k=130:=by omega
       exact QQ
    rw [q4] at c4; rw [q3] at c3; rw [q2] at c2; rw [q1] at c1; have hq:¬ 67108859≤f2 0:=by omega
    go_upto_region 27 with fail; clear c0 c1 c2 c3 c4 q hq q4 q3 q2 q1; have o0:=jE wr 158 wr.heap.size rfl; have hO:w.heap.size<wr.heap.size:=by have:=hF.size; omega
    have hne2:wr.heap.size≠w.heap.size+1:=by omega
    have r0:R6 V 0 (w.heap.size+1) wr.heap.size w ((wr.alloc (.cells jF 158)).setCells wr.heap.size 0 (row .u8 17 (fun _=>0))) :=
     ⟨(Has.all o0.there .u8 (fun _=>0)).congr Vt,(hG.alloc _ JK).setAll_other _ hne2 0 _,(hz.alloc _ JK).setAll_other _ JK 0 _,⟨jS (hF.alloc _).below _ JK 0 _,by rw [jN]; have:=hF.size; simp; omega⟩⟩
    have tok:True:=trivial; clear hz hG hF; go_wp2_with (have _t:=tok; refine ys .u8 17 (fun _=>0) (yX (o0)) (qX _) ?_; clear tok); generalize ((wr.alloc (.cells jF 158)).setCells wr.heap.size 0 (row .u8 17 (fun _=>0)))=wo at *; clear o0; generalize wr.heap.size=O at *; go_loopw [10] (fun i w'=>∃ k:Nat,k≤130∧i=.int .i64 k∧R6 V k (w.heap.size+1) O w w') (fun i _=>130-(intOf i).toNat)
    case atStart=>exact ⟨0,by omega,rfl,r0⟩
    case round =>
     obtain ⟨k,hk,rfl,hI⟩:=hrel; clear r0; by_cases hlt:k<130
     · exact QJ
     obtain rfl:k=130:=by omega
     exact QQ
theorem uB (N:Nat):∀ j,0≤dg 26 N j∧dg 26 N j<67108864:=fun j=>by
 have:=j2d 26 N j
 unfold dg
 omega
theorem pP (a:Nat→Int) (ha:In 256 17 a):val D (dg 26 (nb a)) 6=val 256 a 17:=by
 rw [lG 26 (nb a) D JG 6,Nat.mod_eq_of_lt (xnL (x0m a ha) (Nat.pow_le_pow_right JG JG)),x2o a ha]
theorem j1l (a:Nat→Int) (ha:In 256 17 a) (w:World) :
 Calls Tryz.prog 159 #[(.agg (row .u8 17 (a)).toArray)] w fun e w'=>∃ f:Nat→Int,e=.returned (.agg (row .u8 17 (f)).toArray)∧(In 256 17 f∧val 256 f 17=val 256 a 17%Q)∧Below w.heap.size w w':=by
 have a0:Has ((w.alloc (.cells (row .u8 17 a).toArray 158)).alloc (.cells jF 158)) w.heap.size .u8 17 a:=(Has.new w _ _ _ _ _ rfl).alloc _ Jf
 have z0:Has ((w.alloc (.cells (row .u8 17 a).toArray 158)).alloc (.cells jF 158)) (w.heap.size+1) .u8 17 (fun _=>0):=jE _ _ _ Jf
 have g0:Fr w 2 ((w.alloc (.cells (row .u8 17 a).toArray 158)).alloc (.cells jF 158)):=((Fr.refl w).alloc _).alloc _
 go_enter Tryz.func159,Tryz.ntmps159
 go_wp2_with (refine yl (a0) Tryz.underlying158 (jL _) ?_)
 refine (gL a ha _).mono ?_; rintro e w1 ⟨B,rfl,hB,l1⟩; have g1:=g0.call l1; have z1:=z0.call g0 l1 JK
 go_wp2_with fail
 refine (fL 6 B (dg 26 (nb a)) _ (Or.inl rfl) (fun j _=>by have:=uB (nb a) j; omega) hB.2.1 hB.2.2).mono ?_
 rintro e w2 ⟨f,rfl,s2,l2⟩; have z2:=z1.call g1 l2 JK
 have hE:In 256 17 f∧val 256 f 17=val 256 a 17%Q:=⟨s2.1,by rw [s2.2,pP a ha]⟩
 have HE:=show Hid _ from hE; have hL:=((g1.call l2).setAll (w.heap.size+1) JK (row .u8 17 f)).below; clear hE s2 hB
 go_wp2_with (refine ys .u8 17 (f) (yX (z2)) (qX _) ?_)
 exact bRq (v:=(.agg (row .u8 17 (f)).toArray)) (jQ Tryz.results159 rfl (Has.all z2.there .u8 f).range Tryz.underlying158 rfl (jL f)) rfl ⟨f,rfl,HE.out,hL⟩
structure Two (a b:Nat→Int) (w w':World):Prop where
 ha:Has w' w.heap.size .u8 17 a
 hb:Has w' (w.heap.size+1) .u8 17 b
 hr:w'.there (w.heap.size+1+1) 0 17
 fr:Fr w 3 w'
theorem Two.call {a b:Nat→Int} {w w' w'':World} (h:Two a b w w') (l:Below w'.heap.size w' w''):Two a b w w'' :=
 ⟨h.ha.call h.fr l JK,h.hb.call h.fr l JK,xF h.hr l (by have:=h.fr.size; omega),h.fr.call l⟩
theorem Two.new (a b:Nat→Int) (w:World):Two a b w (((w.alloc (.cells (row .u8 17 a).toArray 158)).alloc (.cells (row .u8 17 b).toArray 158)).alloc (.cells jF 158)) :=
 ⟨((Has.new w _ _ _ _ _ rfl).alloc _ Jf).alloc _ Ji,(Has.new _ _ _ _ _ _ Jf).alloc _ Jf,(jE _ _ _ Jf).there,(((Fr.refl w).alloc _).alloc _).alloc _⟩
theorem aJ {w:World} {b:Nat} {g:Nat→Int} (h:w.there b 0 17):w.there b 0 (row .u8 17 g).toArray.size:=by rw [xA,jX]; exact h
def vE (a b:Nat→Int) (k:Nat):Nat→Int:=fun j=>if j<k then dg 26 (nb a) j+dg 26 (nb b) j else dg 26 (nb a) j
theorem j7r (a b:Nat→Int) (k:Nat):∀ j,upd (vE a b k) k (vE a b k k+dg 26 (nb b) k) j=vE a b (k+1) j:=fun j=>by
 unfold upd vE
 by_cases e:j=k
 · subst e; simp
 · rw [if_neg e]
   by_cases h:j<k
   · rw [if_pos h,if_pos JK]
   · rw [if_neg h,if_neg JK]
theorem nA (a b:Nat→Int) (k j:Nat):0≤vE a b k j∧vE a b k j<134217728:=by
 have h1:=uB (nb a) j; have h2:=uB (nb b) j
 unfold vE
 split <;> omega
theorem q1z (a b:Nat→Int) (ha:In 256 17 a) (hb:In 256 17 b):val D (vE a b 6) 6=val 256 a 17+val 256 b 17:=by
 rw [← pP a ha,← pP b hb]
 simp [val,vE]
 simp only [D]
 omega
structure TU (f g:Nat→Int) (B1 B2:Nat) (w w':World):Prop where
 h1:Has w' B1 .i64 6 f
 h2:Has w' B2 .i64 6 g
 hr:w'.there (w.heap.size+1+1) 0 17
 fr:Fr w 3 w'
 hi:B1<w'.heap.size
theorem TU.set {a b:Nat→Int} {B1 B2:Nat} {w w':World} {k:Nat} (h:TU (vE a b k) (dg 26 (nb b)) B1 B2 w w') (lo:w.heap.size+3≤B1) (ne:B1≠B2) (hk:k<6):TU (vE a b (k+1)) (dg 26 (nb b)) B1 B2 w ((w'.setCell ⟨B1,k,none⟩ (.int .i64 (vE a b k k+dg 26 (nb b) k))).drew):=by
 refine ⟨(Has.congr (h.h1.set k hk _) fun j _=>j7r a b k j).drew,(h.h2.set_other _ _ (by simpa using ne)).drew,fun j hj=>?_,(h.fr.set _ _ Ji).drew,by have:=h.hi; simpa using this⟩
 have hne:(⟨B1,k,none⟩:Addr)≠⟨w.heap.size+1+1,0+j,none⟩:=by intro h'; injection h'; omega
 exact Qo
theorem j5z (a b:Nat→Int) (ha:In 256 17 a) (hb:In 256 17 b) (w:World) :
 Calls Tryz.prog 139 #[(.agg (row .u8 17 (a)).toArray),(.agg (row .u8 17 (b)).toArray)] w fun e w'=>∃ f:Nat→Int,e=.returned (.agg (row .u8 17 (f)).toArray)∧(In 256 17 f∧val 256 f 17=(val 256 a 17+val 256 b 17)%Q)∧Below w.heap.size w w':=by
 have t0:=Two.new a b w; have a0:=t0.ha
 go_enter Tryz.func139,Tryz.ntmps139
 go_wp2_with (refine yl (a0) Tryz.underlying158 (jL _) ?_)
 refine (gL a ha _).mono ?_; rintro e w1 ⟨B1,rfl,h1,l1⟩; have t1:=t0.call l1
 have lo1:w.heap.size+3≤B1:=by have:=h1.1; simp at this; omega
 have b1:=t1.hb; clear t0 a0 l1
 go_wp2_with (refine yl (b1) Tryz.underlying158 (jL _) ?_)
 refine (gL b hb _).mono ?_; rintro e w2 ⟨B2,rfl,h2,l2⟩; have t2:=t1.call l2
 have ne:B1≠B2:=by have:=h1.2.1; have:=h2.1; omega
 have tu:TU (vE a b 0) (dg 26 (nb b)) B1 B2 w w2:=⟨(h1.2.2.below l2 h1.2.1).congr (fun j _=>by unfold vE; simp),h2.2.2,t2.hr,t2.fr,by have:=h1.2.1; have:=l2.size; omega⟩
 clear t1 t2 b1 h1 h2 l2; go_wp2
 go_loopw [7] (fun i w'=>∃ k:Nat,k≤6∧i=.int .i64 k∧TU (vE a b k) (dg 26 (nb b)) B1 B2 w w') (fun i _=>6-(intOf i).toNat)
 case atStart=>exact ⟨0,by omega,rfl,tu⟩
 case round =>
  obtain ⟨k,hk,rfl,hI⟩:=hrel; clear tu; by_cases hlt:k<6
  · have HS:=show Hid _ from hI.set lo1 ne hlt
    have c1:=hI.h1.cell k JK; have c2:=hI.h2.cell k JK; have f1:=hI.h1.free k JK; have i1:=nA a b k k; have i2:=uB (nb b) k; have g1:(0:Int)≤(k:Int):=by omega
    have g2:(k:Int)<6:=by omega
    clear hI; generalize vE a b k k=x at *; generalize dg 26 (nb b) k=y at *; obtain ⟨x0,x1⟩:=i1; obtain ⟨y0,y1⟩:=i2; exact Xi
  obtain rfl:k=6:=by omega
  clear hlt hk; go_wp2_with fail; refine (fL 6 B1 (vE a b 6) _ (Or.inl rfl) (fun j _=>by have:=nA a b 6 j; omega) hI.hi hI.h1).mono ?_; rintro e w3 ⟨f,rfl,s3,l3⟩; have hz:=xF hI.hr l3 (by have:=hI.fr.size; omega); have hE:In 256 17 f∧val 256 f 17=(val 256 a 17+val 256 b 17)%Q:=⟨s3.1,by rw [s3.2,q1z a b ha hb]⟩
  have HE:=show Hid _ from hE; have hL:=((hI.fr.call l3).setAll (w.heap.size+1+1) JK (row .u8 17 f)).below; clear hE s3 hI l3
  go_wp2_with (refine ys .u8 17 f (aJ hz) (qX _) ?_); exact bRq (v:=(.agg (row .u8 17 (f)).toArray)) (jQ Tryz.results139 rfl (Has.all hz .u8 f).range Tryz.underlying158 rfl (jL f)) rfl ⟨f,rfl,HE.out,hL⟩
end Go.Proofs.YtknodlefhclijaaGreatDoor
