/- Texts of Gk LawGuardOnce, joined. -/
import Derived.Test.YtknodedhcdpbiaaGreatDoorP4GuardOnce
import Derived.Deep.Onto
set_option maxRecDepth 20000
set_option maxHeartbeats 64000000
namespace Go.Proofs.YtknodedhcdpbiaaGreatDoor
open Go.RowKit
theorem cutHiR {P:Program} {t:TypeId} (ht:P.underlying t=some (.slice (P.elem t))) (hsz:∀ w,(sizeOf (P.elem t)).run P w=.ok 1 w) (g n cap k:Nat) (hk:k≤n) (hc:n≤cap) :
 ∃ ad:Addr,(∀ w,(Instr.sliceAt t (.slice (some ⟨g,0,none⟩) n cap) none (some (.int .i64 (k:Int))) none).run P w=.ok (.slice (some ad) k cap) w)∧∀ j,ad.add j=(⟨g,0,none⟩:Addr).add j:=by
 refine ⟨if cap=0 then ⟨g,0,none⟩ else (⟨g,0,none⟩:Addr).add (0*1),fun w=>?_,fun j=>?_⟩
 · rw [run_sliceAt_slice w t _ _ _ _ ht,run_slice_h w t (some ⟨g,0,none⟩) n cap ht .i64 (k:Int) (by omega) (by omega),hsz]
   simp only [Result.andThen,sliced,Int.toNat_natCast,Nat.sub_zero]
   split <;> rfl
 · split
   · rfl
   · rw [Nat.zero_mul,Addr.add_add,Nat.zero_add]
theorem cutLoR {P:Program} {t:TypeId} (ht:P.underlying t=some (.slice (P.elem t))) (hsz:∀ w,(sizeOf (P.elem t)).run P w=.ok 1 w) (g n cap k:Nat) (hk:k≤n) (_:n≤cap) :
 ∃ ad:Addr,(∀ w,(Instr.sliceAt t (.slice (some ⟨g,0,none⟩) n cap) (some (.int .i64 (k:Int))) none none).run P w=.ok (.slice (some ad) (n-k) (cap-k)) w)∧(k<cap→∀ j,ad.add j=(⟨g,0,none⟩:Addr).add (k+j)):=by
 refine ⟨if cap=k then ⟨g,0,none⟩ else (⟨g,0,none⟩:Addr).add (k*1),fun w=>?_,fun h j=>?_⟩
 · rw [run_sliceAt_slice w t _ _ _ _ ht,run_slice_l w t (some ⟨g,0,none⟩) n cap ht .i64 (k:Int) (by omega) (by omega),hsz]
   simp only [Result.andThen,sliced,Int.toNat_natCast]
   split <;> rfl
 · rw [if_neg (by omega),Nat.mul_one,Addr.add_add]
theorem row_take {w:World} {base:Nat} {e:TypeId} {n cap g:Nat} {xs:List Value} (V:w.ownsRow base e 1 (.slice (some ⟨g,0,none⟩) n cap) n xs) {ad:Addr} {k:Nat} (h:∀ j,ad.add j=(⟨g,0,none⟩:Addr).add j):∀ j u,(xs.take k)[j]?=some u→w.cell? (ad.add j)=some u:=fun j u hu=>by
 rw [h j]
 refine World.ownsRow.cells V (g:=g) rfl j u ?_
 rw [List.getElem?_take] at hu
 split at hu
 · exact hu
 · cases hu
theorem row_drop {w:World} {base:Nat} {e:TypeId} {n cap g:Nat} {xs:List Value} (V:w.ownsRow base e 1 (.slice (some ⟨g,0,none⟩) n cap) n xs) (hx:xs.length=n) (hc:n≤cap) {ad:Addr} {k:Nat} (h:k<cap→∀ j,ad.add j=(⟨g,0,none⟩:Addr).add (k+j)):∀ j u,(xs.drop k)[j]?=some u→w.cell? (ad.add j)=some u:=fun j u hu=>by
 rw [List.getElem?_drop] at hu
 have hl:k+j<xs.length:=by
  rcases Nat.lt_or_ge (k+j) xs.length with h1 | h1
  · exact h1
  · rw [List.getElem?_eq_none h1] at hu; cases hu
 rw [h (by omega) j]
 exact World.ownsRow.cells V (g:=g) rfl _ u hu
theorem one_take {xs:List Value} (h:∀ u∈xs,u.oneCell'=true) (k:Nat):∀ u∈xs.take k,u.oneCell'=true:=fun u hu=>h u (List.mem_of_mem_take hu)
theorem one_drop {xs:List Value} (h:∀ u∈xs,u.oneCell'=true) (k:Nat):∀ u∈xs.drop k,u.oneCell'=true:=fun u hu=>h u (List.mem_of_mem_drop hu)
structure WayI (x:Nat→Int) (w:World) (G:List (Nat × List Value)) (vs:List Value) (R:List Itm):Prop where
 len:vs.length=R.length
 one:∀ u∈vs,u.oneCell'=true
 at_:∀ (i:Nat) (m:Itm),R[i]?=some m→∃ (sq:Option Addr) (cq:Nat),vs[i]?=some (Value.slice sq (ibs x m).length cq)∧(ibs x m).length≤cq∧(sq=none→cq=0)∧Src w sq (ibs x m).length (bl (ibs x m))∧∀ b∈ob sq,b∈G.map Prod.fst
theorem WayI.nil (x:Nat→Int) (w:World):WayI x w [] [] []:=⟨rfl,fun _ h=>(by cases h),fun _ _ h=>(by cases h)⟩
theorem src_off {X:List Nat} {w w':World} {sp:Option Addr} {n:Nat} {z:Nat→Int} (h:Src w sp n z) (o:Off X w w') (hX:∀ b∈ob sp,b∉X):Src w' sp n z:=fun j hj=>by
 obtain ⟨ad,rfl,hc⟩:=h j hj
 exact ⟨ad,rfl,o.cell hc (by rw [add_block]; exact hX _ mS)⟩
theorem WayI.off {x:Nat→Int} {w w':World} {G:List (Nat × List Value)} {vs:List Value} {R:List Itm} {X:List Nat} (h:WayI x w G vs R) (o:Off X w w') (hX:∀ b∈X,b∉G.map Prod.fst):WayI x w' G vs R :=
 ⟨h.len,h.one,fun i m hm=>by
  obtain ⟨sq,cq,h1,h2,h3,h4,h5⟩:=h.at_ i m hm
  exact ⟨sq,cq,h1,h2,h3,src_off h4 o (fun b hb hx=>hX b hx (h5 b hb)),h5⟩⟩
theorem WayI.bel {x:Nat→Int} {w w':World} {G:List (Nat × List Value)} {vs:List Value} {R:List Itm} (h:WayI x w G vs R) (l:Below w.heap.size w w'):WayI x w' G vs R:=h.off (X:=[]) (Off.of_below l) (fun _ hb=>by cases hb)
theorem WayI.app {x:Nat→Int} {w:World} {G:List (Nat × List Value)} {vs:List Value} {R:List Itm} (h:WayI x w G vs R) {m:Itm} {sq:Option Addr} {cq base:Nat} (N:NewL w base (ibs x m) (.slice sq (ibs x m).length cq)):WayI x w (obs sq++G) (vs++[.slice sq (ibs x m).length cq]) (R++[m]):=by
 refine ⟨by rw [List.length_append,List.length_append,h.len]; rfl,fun u hu=>?_,fun i m' hm=>?_⟩
 · rcases List.mem_append.1 hu with hu | hu
   · exact h.one u hu
   · obtain rfl:=xm1 hu; rfl
 · by_cases hi:i<R.length
   · rw [List.getElem?_append_left hi] at hm
     obtain ⟨sp,cp,h1,h2,h3,h4,h5⟩:=h.at_ i m' hm
     exact ⟨sp,cp,by rw [List.getElem?_append_left (by rw [h.len]; exact hi)]; exact h1,h2,h3,h4,fun b hb=>by rw [List.map_append]; exact List.mem_append_right _ (h5 b hb)⟩
   · have hi:R.length≤i:=by omega
     rw [List.getElem?_append_right hi] at hm
     have e:i-R.length=0:=by
      rcases Nat.eq_zero_or_pos (i-R.length) with e | e
      · exact e
      · rw [List.getElem?_eq_none (by simp only [List.length_cons,List.length_nil]; omega)] at hm; cases hm
     rw [e] at hm
     obtain rfl:m=m':=by simpa using hm
     refine ⟨sq,cq,?_,NewF.le N,NewF.nilCap N,NewF.src N,fun b hb=>by rw [List.map_append,obs_fst]; exact List.mem_append_left _ hb⟩
     rw [List.getElem?_append_right (by rw [h.len]; exact hi),h.len,e]
     rfl
theorem getElem?_del {α:Type} (xs:List α) (k i:Nat) (hk:k<xs.length):(xs.take k++xs.drop (k+1))[i]?=xs[if i<k then i else i+1]?:=by
 have hl:(xs.take k).length=k:=by rw [List.length_take]; omega
 by_cases h:i<k
 · rw [if_pos h,List.getElem?_append_left (by omega),List.getElem?_take,if_pos h]
 · rw [if_neg h,List.getElem?_append_right (by omega),hl,List.getElem?_drop]
   congr 1
   omega
theorem WayI.del {x:Nat→Int} {w:World} {G:List (Nat × List Value)} {vs:List Value} {R:List Itm} (h:WayI x w G vs R) {k:Nat} (hk:k<R.length):WayI x w G (vs.take k++vs.drop (k+1)) (R.take k++R.drop (k+1)):=by
 have hl:=h.len
 refine ⟨by simp only [List.length_append,List.length_take,List.length_drop]; omega,fun u hu=>?_,fun i m hm=>?_⟩
 · rcases List.mem_append.1 hu with hu | hu
   · exact h.one u (List.mem_of_mem_take hu)
   · exact h.one u (List.mem_of_mem_drop hu)
 · rw [getElem?_del R k i hk] at hm
   obtain ⟨sp,cp,h1,h2⟩:=h.at_ _ m hm
   exact ⟨sp,cp,by rw [getElem?_del vs k i (by omega)]; exact h1,h2⟩
def itT (R:List Itm):List Value:=R.map fun m=>.string (txt m.t.length (bl m.t))
def itP (R:List Itm):List Value:=R.map fun m=>.int .i64 m.p
theorem itT_one (R:List Itm):∀ u∈itT R,u.oneCell'=true:=fun u hu=>by obtain ⟨m,_,rfl⟩:=List.mem_map.1 hu; rfl
theorem itP_one (R:List Itm):∀ u∈itP R,u.oneCell'=true:=fun u hu=>by obtain ⟨m,_,rfl⟩:=List.mem_map.1 hu; rfl
theorem itT_len (R:List Itm):(itT R).length=R.length:=List.length_map _
theorem itP_len (R:List Itm):(itP R).length=R.length:=List.length_map _
theorem itT_app (R:List Itm) (m:Itm):itT (R++[m])=itT R++[.string (txt m.t.length (bl m.t))]:=List.map_append
theorem itP_app (R:List Itm) (m:Itm):itP (R++[m])=itP R++[.int .i64 m.p]:=List.map_append
theorem itT_del (R:List Itm) (k:Nat):itT (R.take k++R.drop (k+1))=(itT R).take k++(itT R).drop (k+1):=by unfold itT; rw [List.map_append,List.map_take,List.map_drop]
theorem itP_del (R:List Itm) (k:Nat):itP (R.take k++R.drop (k+1))=(itP R).take k++(itP R).drop (k+1):=by unfold itP; rw [List.map_append,List.map_take,List.map_drop]
theorem itT_at {R:List Itm} {k:Nat} {m:Itm} (h:R[k]?=some m):(itT R)[k]?=some (.string (txt m.t.length (bl m.t))):=by unfold itT; rw [List.getElem?_map,h]; rfl
theorem itP_at {R:List Itm} {k:Nat} {m:Itm} (h:R[k]?=some m):(itP R)[k]?=some (.int .i64 m.p):=by unfold itP; rw [List.getElem?_map,h]; rfl
theorem del_split {R:List Itm} {k:Nat} {m:Itm} (h:R[k]?=some m):R=R.take k++m::R.drop (k+1):=by
 have hk:k<R.length:=by
  rcases Nat.lt_or_ge k R.length with h1 | h1
  · exact h1
  · rw [List.getElem?_eq_none h1] at h; cases h
 have e:R[k]=m:=by rw [List.getElem?_eq_getElem hk] at h; exact Option.some.inj h
 rw [← e,List.getElem_cons_drop,List.take_append_drop]
theorem Mm.rowNew {w0 w w':World} {l:List (Nat × List Value)} (M:Mm w0 l w) (b:Below w.heap.size w w') {sq:Option Addr} {n cap:Nat} {e:TypeId} {xs:List Value} (V:w'.ownsRow w.heap.size e 1 (.slice sq n cap) n xs):Mm w0 (obs sq++l) w':=by
 have M2:=M.call b
 cases sq with
 | none=>exact M2
 | some a =>
   have hl:=World.ownsRow.lt V a.block rfl; refine M2.addB (xnT M.below.size hl.1) hl.2 fun p hp=>?_
   have:=(M.rows p hp).2.2
   omega
theorem WayI.get {x:Nat→Int} {w:World} {G:List (Nat × List Value)} {vs:List Value} {R:List Itm} (h:WayI x w G vs R) {k:Nat} {m:Itm} {sq:Option Addr} {cq:Nat} (hm:R[k]?=some m) (hv:vs[k]?=some (.slice sq (ibs x m).length cq)):((ibs x m).length≤cq∧(sq=none→cq=0))∧Src w sq (ibs x m).length (bl (ibs x m))∧∀ b∈ob sq,b∈G.map Prod.fst:=by
 obtain ⟨sp,cp,h1,h2,h3,h4,h5⟩:=h.at_ k m hm
 rw [h1] at hv
 injection hv with hv
 injection hv with e1 _ e3
 subst e1 e3
 exact ⟨⟨h2,h3⟩,h4,h5⟩
theorem WayI.srcA {x:Nat→Int} {w w0:World} {G bs t:List (Nat × List Value)} {vs:List Value} {R:List Itm} (h:WayI x w G vs R) {k:Nat} {m:Itm} {sq:Option Addr} {cq:Nat} (hm:R[k]?=some m) (hv:vs[k]?=some (.slice sq (ibs x m).length cq)) (Mp:Mm w0 (bs++t) w) (hs:∀ p∈G,p∈t):SrcA (bs.map Prod.fst) w sq (ibs x m).length (bl (ibs x m)):=by
 obtain ⟨_,h4,h5⟩:=h.get hm hv
 exact ⟨h4,fun ad e _ hb=>Mp.awayG hs _ hb (h5 _ (by rw [e]; exact mS))⟩
theorem src_take {w:World} {sp:Option Addr} {b:List Int} {n:Nat} (h:Src w sp n (bl b)) (hn:n≤b.length):Src w sp (b.take n).length (bl (b.take n)):=fun j hj=>by
 rw [List.length_take] at hj
 obtain ⟨ad,e,hc⟩:=h j (by omega)
 refine ⟨ad,e,?_⟩
 have:bl (b.take n) j=bl b j:=by unfold bl; rw [List.getD_eq_getElem?_getD,List.getD_eq_getElem?_getD,List.getElem?_take,if_pos (by omega)]
 rw [this]
 exact hc
theorem neqT16 {P:Program} {o:Oper} {a:Act} (s s':ByteArray) (t t':TypeId) (x y:Operand) (ho:o.op=.binOp .neq t x y t') (hx:a.eval x=.string s) (hy:a.eval y=.string s') (h:s=s') (w:World):(execOp a.eval o).run P w=.ok (.value (.bool false)) w:=by
 subst h
 unfold execOp
 simp only [ho,hx,hy,Sem.run_bind,eqGuard_at_string,binOp_string_neq,Sem.run_pure,Result.andThen_ok,beq_self_eq_true,Bool.not_true]
theorem pull6 {α:Type} (x a b c d e f g t:List α):(x++(a++(b++(c++(d++(e++(f++(g++t)))))))).Perm (g++(x++(a++(b++(c++(d++(e++(f++t)))))))):=by
 have:=pull5 (x++a) b c d e f g t
 rw [List.append_assoc,List.append_assoc] at this
 exact this
theorem manyA:Many Tryz.prog 29 (.slice none 0 0) 24 1:=⟨by kernel_rfl⟩
theorem manyB:Many Tryz.prog 9 (.string ⟨#[]⟩) 16 1:=⟨by kernel_rfl⟩
theorem manyC:Many Tryz.prog 3 (.int .i64 0) 8 1:=⟨by kernel_rfl⟩
theorem law_GuardOnce {I:GrdI} (hK:GrdOK I) (hN:GrdNew I) (x y:Nat→Int) (hx:In 256 32 x) (hy:In 256 32 y) (sp:Option Addr) (cap:Nat) (l:List Opv) (hmax:l.length≤140737488351232) (w0:World) (hg:GGlob w0) (hin:OpsIn w0 140737488351232 sp l) :
 Calls Tryz.prog 4 #[.agg (row .u8 32 x).toArray,.agg (row .u8 32 y).toArray,.slice sp l.length cap] w0 fun e w'=>e=.returned (.bool true)∧Below w0.heap.size w0 w':=by
 have M:=Mm.init w0
 go_enter Tryz.func4,Tryz.ntmps4
 go_upto_region 0 with fail; refine wp_region_list ?_; have hlb:=(Below.refl w0.heap.size w0).alloc (xnR _) (.cells (row .u8 32 x).toArray 23); refine actL (w':=w0.alloc (.cells (row .u8 32 x).toArray 23)) (.pointer (some ⟨w0.heap.size,0,none⟩)) rfl (by kernel_rfl) ?_; simp only [aP,lI,l0,lS]; replace M:=M.box (row .u8 32 x).toArray 23 w0.heap.size rfl; clear hlb
 generalize w0.alloc (.cells (row .u8 32 x).toArray 23)=w1 at M  ⊢
 have hA_B1:w0.heap.size≤w0.heap.size:=xnR _
 generalize eB_:w0.heap.size=B1 at M hA_B1 ⊢
 replace hA_B1:w0.heap.size≤B1:=Nat.le_of_eq eB_
 clear eB_
 replace M:Mm w0 ((B1,row .u8 32 x)::([]:List (Nat × List Value))) w1:=M
 have hlb:=(Below.refl w1.heap.size w1).alloc (xnR _) (.cells (row .u8 32 y).toArray 23); refine actL (w':=w1.alloc (.cells (row .u8 32 y).toArray 23)) (.pointer (some ⟨w1.heap.size,0,none⟩)) rfl (by kernel_rfl) ?_; simp only [aP,lI,l0,lS]; replace M:=M.box (row .u8 32 y).toArray 23 w1.heap.size rfl; clear hlb; generalize w1.alloc (.cells (row .u8 32 y).toArray 23)=w2 at M  ⊢
 have hA_B2:w1.heap.size≤w1.heap.size:=xnR _
 generalize eB_:w1.heap.size=B2 at M hA_B2 ⊢
 replace hA_B2:w1.heap.size≤B2:=Nat.le_of_eq eB_
 clear eB_
 replace M:Mm w0 ((B2,row .u8 32 y)::(B1,row .u8 32 x)::([]:List (Nat × List Value))) w2:=M
 refine xpL (.bool false) ?_; refine xT ?_; go_upto_region 1 with fail; refine wp_region_list ?_; refine xcL (shown16_any hK hN _ (hg.mm M)) ?_; rintro e w3 ⟨rfl,l⟩; replace M:=M.call l; clear l; refine xeL ?_; refine xpL (.bool true) ?_; refine xT ?_; go_upto_region 2 with fail; refine wp_region_list ?_
 refine xaL (.agg (row .u8 32 x).toArray) (loadN 23 _ ⟨B1,0,none⟩ (row .u8 32 x) rfl rfl (fun _=>by kernel_rfl) (fun _=>by rw [row32]; kernel_rfl) (M.part (mT _ mS) 0 _ (by rw [List.drop_zero,List.take_length]))) ?_
 refine xaL (.agg (row .u8 32 y).toArray) (loadN 23 _ ⟨B2,0,none⟩ (row .u8 32 y) rfl rfl (fun _=>by kernel_rfl) (fun _=>by rw [row32]; kernel_rfl) (M.part mS 0 _ (by rw [List.drop_zero,List.take_length]))) ?_; have key:=hN w0 _ _ 0 x y hg (by unfold i64; decide) hx hy M; refine xcL key ?_; clear key; rintro e w4 ⟨v_,ba0,rfl,hIa,M',l⟩
 obtain ⟨Ra,rfl⟩:=hK.ptr _ _ _ _ hIa
 clear M; have M:=M'.perm (pull0 ([(B2,row .u8 32 y),(B1,row .u8 32 x)]:List (Nat × List Value)) ba0 ([]:List (Nat × List Value))).symm; clear M'; clear l
 replace M:Mm w0 ((B2,row .u8 32 y)::(B1,row .u8 32 x)::(ba0++([]:List (Nat × List Value)))) w4:=M
 refine xeL ?_; refine xpL (.pointer (some ⟨Ra,0,none⟩)) ?_; refine xT ?_; go_upto_region 3 with fail; refine wp_region_list ?_; refine xaL (.agg (row .u8 32 y).toArray) (loadN 23 _ ⟨B2,0,none⟩ (row .u8 32 y) rfl rfl (fun _=>by kernel_rfl) (fun _=>by rw [row32]; kernel_rfl) (M.part mS 0 _ (by rw [List.drop_zero,List.take_length]))) ?_
 refine xaL (.agg (row .u8 32 x).toArray) (loadN 23 _ ⟨B1,0,none⟩ (row .u8 32 x) rfl rfl (fun _=>by kernel_rfl) (fun _=>by rw [row32]; kernel_rfl) (M.part (mT _ mS) 0 _ (by rw [List.drop_zero,List.take_length]))) ?_; have key:=hN w0 _ _ 1 y x hg (by unfold i64; decide) hy hx M; refine xcL key ?_; clear key; rintro e w5 ⟨v_,bb0,rfl,hIb,M',l⟩
 obtain ⟨Rb,rfl⟩:=hK.ptr _ _ _ _ hIb
 clear M; have M:=M'.perm (pull0 ([(B2,row .u8 32 y),(B1,row .u8 32 x)]:List (Nat × List Value)) bb0 (ba0++([]:List (Nat × List Value)))).symm; clear M'; replace hIa:=hK.bel hIa l; clear l
 replace M:Mm w0 ((B2,row .u8 32 y)::(B1,row .u8 32 x)::(bb0++(ba0++([]:List (Nat × List Value))))) w5:=M
 refine xeL ?_; refine xpL (.pointer (some ⟨Rb,0,none⟩)) ?_; refine xT ?_; go_upto_region 4 with fail; refine wp_region_list ?_; refine xpL (.bool true) ?_; refine xpL (.bool false) ?_; refine xpL (.bool false) ?_; refine xpL (.pointer (some ⟨Ra,0,none⟩)) ?_; refine xpL (.bool false) ?_; refine xpL (.bool false) ?_; refine xpL (.bool false) ?_; refine xpL (.pointer (some ⟨Rb,0,none⟩)) ?_
 refine xpL (.bool false) ?_; refine xpL (.bool false) ?_; refine xT ?_; go_upto_region 6 with fail; refine wp_region_list ?_; have V_A:=World.ownsRow_lit (base:=w0.heap.size) (e:=29) (size:=1) w5 #[] 0 M.below.size (Nat.zero_le _) rfl; have hlb:=(Below.refl w5.heap.size w5).alloc (xnR _) (.cells #[] 29)
 refine actL (w':=w5.alloc (.cells #[] 29)) (.slice (some ⟨w5.heap.size,0,none⟩) 0 0) rfl (by kernel_rfl) ?_; simp only [aP,lI,l0,lS]; replace hIa:=hK.bel hIa hlb; replace hIb:=hK.bel hIb hlb
 have M':=M.rowNil #[] 29
 clear M hlb
 obtain ⟨sA0,hsu⟩:∃ su,su=(some ⟨w5.heap.size,0,none⟩:Option Addr):=⟨_,rfl⟩
 rw [← hsu] at M' V_A ⊢
 generalize w5.alloc (.cells #[] 29)=w6 at M' V_A hIa hIb ⊢; have M:=M'.perm (pull0 ([(B2,row .u8 32 y),(B1,row .u8 32 x)]:List (Nat × List Value)) (obs sA0) (bb0++(ba0++([]:List (Nat × List Value))))).symm; clear M' hsu
 replace M:Mm w0 ((B2,row .u8 32 y)::(B1,row .u8 32 x)::((obs sA0)++(bb0++(ba0++([]:List (Nat × List Value)))))) w6:=M
 refine xpL (.slice sA0 0 0) ?_; refine xT ?_; go_upto_region 7 with fail; refine wp_region_list ?_; have V_B:=World.ownsRow_lit (base:=w0.heap.size) (e:=9) (size:=1) w6 #[] 0 M.below.size (Nat.zero_le _) rfl; have hlb:=(Below.refl w6.heap.size w6).alloc (xnR _) (.cells #[] 9); refine actL (w':=w6.alloc (.cells #[] 9)) (.slice (some ⟨w6.heap.size,0,none⟩) 0 0) rfl (by kernel_rfl) ?_
 simp only [aP,lI,l0,lS]; replace hIa:=hK.bel hIa hlb; replace hIb:=hK.bel hIb hlb; replace V_A:=ownsRow_bel V_A hlb
 have M':=M.rowNil #[] 9
 clear M hlb
 obtain ⟨sB0,hsu⟩:∃ su,su=(some ⟨w6.heap.size,0,none⟩:Option Addr):=⟨_,rfl⟩
 rw [← hsu] at M' V_B ⊢
 generalize w6.alloc (.cells #[] 9)=w7 at M' V_B hIa hIb V_A ⊢; have M:=M'.perm (pull0 ([(B2,row .u8 32 y),(B1,row .u8 32 x)]:List (Nat × List Value)) (obs sB0) ((obs sA0)++(bb0++(ba0++([]:List (Nat × List Value)))))).symm; clear M' hsu
 replace M:Mm w0 ((B2,row .u8 32 y)::(B1,row .u8 32 x)::((obs sB0)++((obs sA0)++(bb0++(ba0++([]:List (Nat × List Value))))))) w7:=M
 refine xpL (.slice sB0 0 0) ?_; refine xT ?_; go_upto_region 8 with fail; refine wp_region_list ?_; have V_C:=World.ownsRow_lit (base:=w0.heap.size) (e:=3) (size:=1) w7 #[] 0 M.below.size (Nat.zero_le _) rfl; have hlb:=(Below.refl w7.heap.size w7).alloc (xnR _) (.cells #[] 3); refine actL (w':=w7.alloc (.cells #[] 3)) (.slice (some ⟨w7.heap.size,0,none⟩) 0 0) rfl (by kernel_rfl) ?_
 simp only [aP,lI,l0,lS]; replace hIa:=hK.bel hIa hlb; replace hIb:=hK.bel hIb hlb; replace V_A:=ownsRow_bel V_A hlb; replace V_B:=ownsRow_bel V_B hlb
 have M':=M.rowNil #[] 3
 clear M hlb
 obtain ⟨sC0,hsu⟩:∃ su,su=(some ⟨w7.heap.size,0,none⟩:Option Addr):=⟨_,rfl⟩
 rw [← hsu] at M' V_C ⊢
 generalize w7.alloc (.cells #[] 3)=w8 at M' V_C hIa hIb V_A V_B ⊢; have M:=M'.perm (pull0 ([(B2,row .u8 32 y),(B1,row .u8 32 x)]:List (Nat × List Value)) (obs sC0) ((obs sB0)++((obs sA0)++(bb0++(ba0++([]:List (Nat × List Value))))))).symm; clear M' hsu
 replace M:Mm w0 ((B2,row .u8 32 y)::(B1,row .u8 32 x)::((obs sC0)++((obs sB0)++((obs sA0)++(bb0++(ba0++([]:List (Nat × List Value)))))))) w8:=M
 refine xpL (.slice sC0 0 0) ?_; refine xT ?_; go_upto_region 9 with fail; refine wp_region_list ?_; refine xpL (.int .i64 0) ?_; refine xT ?_
 replace M:Mm w0 ((B2,row .u8 32 y)::(B1,row .u8 32 x)::((obs sB0)++((obs sC0)++((obs sA0)++(bb0++(ba0++([]:List (Nat × List Value)))))))) w8:=(M.perm (pull1 ([(B2,row .u8 32 y),(B1,row .u8 32 x)]:List (Nat × List Value)) (obs sC0) (obs sB0) ((obs sA0)++(bb0++(ba0++([]:List (Nat × List Value))))))).perm (pull0 ([(B2,row .u8 32 y),(B1,row .u8 32 x)]:List (Nat × List Value)) (obs sB0) ((obs sC0)++((obs sA0)++(bb0++(ba0++([]:List (Nat × List Value))))))).symm
 replace M:Mm w0 ((B2,row .u8 32 y)::(B1,row .u8 32 x)::((obs sA0)++((obs sB0)++((obs sC0)++(bb0++(ba0++([]:List (Nat × List Value)))))))) w8:=(M.perm (pull2 ([(B2,row .u8 32 y),(B1,row .u8 32 x)]:List (Nat × List Value)) (obs sB0) (obs sC0) (obs sA0) (bb0++(ba0++([]:List (Nat × List Value)))))).perm (pull0 ([(B2,row .u8 32 y),(B1,row .u8 32 x)]:List (Nat × List Value)) (obs sA0) ((obs sB0)++((obs sC0)++(bb0++(ba0++([]:List (Nat × List Value))))))).symm
 replace M:Mm w0 ((B2,row .u8 32 y)::(B1,row .u8 32 x)::(bb0++((obs sA0)++((obs sB0)++((obs sC0)++(ba0++([]:List (Nat × List Value)))))))) w8:=(M.perm (pull3 ([(B2,row .u8 32 y),(B1,row .u8 32 x)]:List (Nat × List Value)) (obs sA0) (obs sB0) (obs sC0) bb0 (ba0++([]:List (Nat × List Value))))).perm (pull0 ([(B2,row .u8 32 y),(B1,row .u8 32 x)]:List (Nat × List Value)) bb0 ((obs sA0)++((obs sB0)++((obs sC0)++(ba0++([]:List (Nat × List Value))))))).symm
 replace M:Mm w0 ((B2,row .u8 32 y)::(B1,row .u8 32 x)::(ba0++(bb0++((obs sA0)++((obs sB0)++((obs sC0)++([]:List (Nat × List Value)))))))) w8:=(M.perm (pull4 ([(B2,row .u8 32 y),(B1,row .u8 32 x)]:List (Nat × List Value)) bb0 (obs sA0) (obs sB0) (obs sC0) ba0 ([]:List (Nat × List Value)))).perm (pull0 ([(B2,row .u8 32 y),(B1,row .u8 32 x)]:List (Nat × List Value)) ba0 (bb0++((obs sA0)++((obs sB0)++((obs sC0)++([]:List (Nat × List Value))))))).symm
 have HI:=show Hid _ from (show SealI x (gat 0 x y 0 0) ([]:List Itm)∧I w8 (.pointer (some ⟨Ra,0,none⟩)) (gat 0 x y 0 0) ba0∧I w8 (.pointer (some ⟨Rb,0,none⟩)) (gat 1 y x 0 0) bb0∧w8.ownsRow w0.heap.size 29 1 (.slice sA0 0 0) 0 (([]:List Value))∧w8.ownsRow w0.heap.size 9 1 (.slice sB0 0 0) 0 (itT ([]:List Itm))∧w8.ownsRow w0.heap.size 3 1 (.slice sC0 0 0) 0 (itP ([]:List Itm))∧WayI x w8 ([]:List (Nat × List Value)) ([]:List Value) ([]:List Itm)∧Mm w0 ((B2,row .u8 32 y)::(B1,row .u8 32 x)::(([]:List (Nat × List Value))++(ba0++(bb0++(obs sA0++(obs sB0++(obs sC0++([]:List (Nat × List Value)))))))) ) w8 from ⟨SealI.nil hx hy,hIa,hIb,V_A,V_B,V_C,WayI.nil x _,M⟩)
 clear M hIa hIb V_A V_B V_C; go_wp2
 go_loopw [10,11,12,13] (fun va vb vc i w'=>∃ (q:Nat) (g:Grd) (R:List Itm) (GG:List (Nat × List Value)) (vs:List Value) (ga gb:List (Nat × List Value)) (sA sB sC:Option Addr) (cA cB cC:Nat),q≤30∧q≤l.length∧R.length=q∧va=.slice sA R.length cA∧vb=.slice sB R.length cB∧vc=.slice sC R.length cC∧i=.int .i64 (q:Int)∧SealI x g R∧I w' (.pointer (some ⟨Ra,0,none⟩)) g ga∧I w' (.pointer (some ⟨Rb,0,none⟩)) (gat 1 y x 0 0) gb∧w'.ownsRow w0.heap.size 29 1 (.slice sA R.length cA) R.length (vs)∧w'.ownsRow w0.heap.size 9 1 (.slice sB R.length cB) R.length (itT R)∧w'.ownsRow w0.heap.size 3 1 (.slice sC R.length cC) R.length (itP R)∧WayI x w' GG vs R∧Mm w0 ((B2,row .u8 32 y)::(B1,row .u8 32 x)::(GG++(ga++(gb++(obs sA++(obs sB++(obs sC++([]:List (Nat × List Value)))))))) ) w') (fun _ _ _ i _=>l.length-(intOf i).toNat)
 case atStart=>exact ⟨0,_,[],[],[],_,_,_,_,_,0,0,0,by omega,by omega,rfl,rfl,rfl,rfl,rfl,HI.out⟩
 case round =>
  clear HI
  obtain ⟨q,g,R,GG,vs,ga,gb,sA,sB,sC,cA,cB,cC,hq,hq2,hRq,rfl,rfl,rfl,rfl,hSe,hIa,hIb,V_A,V_B,V_C,Y_,M⟩:=hrel
  go_upto_region 10 with fail; refine wp_region_list ?_; refine xpL (.int .i64 (q:Int)) ?_; refine xpL (.slice sp l.length cap) ?_; refine xaL (.int .i64 ((l.length:Nat):Int)) (lenS _ 24 31 sp l.length cap rfl Tryz.underlying24 rfl _) ?_
  obtain ⟨b1,hb1⟩:∃ y_,y_=(decide ((q:Int)<((l.length:Nat):Int))):=⟨_,rfl⟩
  refine xaL (.bool b1) (lssI .i64 _ _ _ _ _ _ rfl rfl rfl b1 hb1.symm _) ?_; refine xpL (.bool b1) ?_
  refine mayL (b1) (.int .i64 (q:Int)) ((bif b1 then (.int .i64 (q:Int)) else undef)) (by cases b1 <;> rfl) (by cases b1 <;> rfl) (fun hc=>by cases b1 <;> first | (cases hc; done) | kernel_rfl) ?_
  simp only [aP,lI,l0,lS]
  obtain ⟨b2,hb2⟩:∃ y_,y_=(decide ((q:Int)<30)):=⟨_,rfl⟩
  refine mayL (b1) (.bool b2) ((bif b1 then (.bool b2) else undef)) (by cases b1 <;> rfl) (by cases b1 <;> rfl) (fun hc=>by cases b1 <;> first | (cases hc; done) | exact (lssI .i64 _ _ _ _ _ _ rfl rfl rfl b2 hb2.symm _)) ?_
  simp only [aP,lI,l0,lS]
  obtain ⟨b3,hb3⟩:∃ y_,y_=(b1&&b2):=⟨_,rfl⟩
  refine xaL (.bool b3) (by subst hb3; cases b1 <;> rfl) ?_; refine xT ?_
  cases b3 with
  | true =>
    have hlt:q<l.length∧q<30:=by
     simp only [hb1,hb2] at hb3
     simp at hb3
     omega
    try clear hb1
    try clear hb2
    try clear hb3
    obtain ⟨hlt,hlt2⟩:=hlt
    obtain ⟨vq,hvq⟩:∃ vq,l[q]?=some vq:=⟨_,List.getElem?_eq_getElem hlt⟩
    obtain ⟨ad,bp,bc,rfl,hoc,hov⟩:=hin q vq hvq
    have hkl:=kdn_lt vq.p 256 (by decide); go_upto_region 12 with fail; refine wp_region_list ?_; refine xpL (.slice (some ad) l.length cap) ?_; refine xpL (.int .i64 (q:Int)) ?_; refine readL (.pointer (some (ad.add (q*5)))) rfl (idxS16 24 31 5 _ _ ad q _ _ Tryz.underlying24 (fun _=>by kernel_rfl) hlt rfl rfl rfl _) ?_; simp only [aP,lI,l0,lS]
    refine xpL (.pointer (some ((ad.add (q*5)).add 2))) ?_; refine xaL (.int .i64 vq.p) (load1 3 _ ((ad.add (q*5)).add 2) _ rfl rfl (fun _=>by kernel_rfl) (cellS M.below (hoc 2 _ rfl))) ?_; refine xcL (kind16_any vq.p 256 (by decide) hov.p_i _) ?_; rintro e w9 ⟨rfl,l⟩; replace M:=M.call l; replace hIa:=hK.bel hIa l; replace hIb:=hK.bel hIb l; replace V_A:=ownsRow_bel V_A l
    replace V_B:=ownsRow_bel V_B l; replace V_C:=ownsRow_bel V_C l; replace Y_:=WayI.bel Y_ l; clear l; refine xeL ?_; refine xpL (.int .i64 ((kdn vq.p 256:Nat):Int)) ?_; refine xT ?_
    obtain ⟨p,hpe⟩:∃ p:Int,p=((kdn vq.p 256:Nat):Int):=⟨_,rfl⟩
    rw [← hpe]
    have hp:0≤p∧p≤255:=by omega
    have hpi:i64 p:=by unfold i64; omega
    go_upto_region 13 with fail; refine wp_region_list ?_; refine xpL (.slice (some ad) l.length cap) ?_; refine xpL (.int .i64 (q:Int)) ?_; refine readL (.pointer (some (ad.add (q*5)))) rfl (idxS16 24 31 5 _ _ ad q _ _ Tryz.underlying24 (fun _=>by kernel_rfl) hlt rfl rfl rfl _) ?_; simp only [aP,lI,l0,lS]; refine xpL (.pointer (some ((ad.add (q*5)).add 4))) ?_
    refine xaL (.slice bp vq.b.length bc) (load1 29 _ ((ad.add (q*5)).add 4) _ rfl rfl (fun _=>by kernel_rfl) (cellS M.below (hoc 4 _ rfl))) ?_; refine xpL (.slice bp vq.b.length bc) ?_; refine xT ?_
    by_cases h256:256<vq.b.length
    · go_upto_region 14 with fail
      refine wp_region_list ?_; refine xpL (.slice bp vq.b.length bc) ?_; refine xaL (.int .i64 ((vq.b.length:Nat):Int)) (lenS _ 29 5 bp vq.b.length bc rfl Tryz.underlying29 rfl _) ?_; refine xaL (.bool true) (gtrI .i64 _ _ _ _ _ _ rfl rfl rfl true (decide_eq_true (by omega)) _) ?_; refine xT ?_; go_upto_region 15 with fail; refine wp_region_list ?_; refine xpL (.slice bp vq.b.length bc) ?_
      obtain ⟨bp2,hrb,hsb,hnb⟩:=cut_hiN (P:=Tryz.prog) (t:=29) (by kernel_rfl) (fun _=>by kernel_rfl) bp vq.b.length bc 256 (by omega) hov.b_le hov.b_nil
      refine xaL (.slice bp2 256 bc) (cutHi _ _ _ _ _ _ rfl rfl rfl (hrb _)) ?_; refine xpL (.slice bp2 256 bc) ?_; refine xT ?_
      have hnu:bp2=none→bc=0:=hnb
      obtain ⟨u,hue⟩:∃ u:List Int,u=vq.b.take 256:=⟨_,rfl⟩
      have hul:u.length=256:=by rw [hue]; rw [List.length_take]; omega
      have hub:Byts u:=by rw [hue]; exact fun z hz=>hov.b_byts z (List.mem_of_mem_take hz)
      have hus:Src w0 bp2 u.length (bl u):=by rw [hue]; exact src_take (hsb _ _ hov.b_src) (by omega)
      have hu2:u.length≤256:=by omega
      rw [← hul]
      have hE:=hSe.E (by omega) hp hu2; have hB:=hSe.B (by omega) hp hu2
      obtain ⟨hmw,hSe2⟩:=hSe.next (by omega) hp hub hu2
      obtain ⟨m,hme⟩:∃ m:Itm,m=⟨p,g.cnt p,u⟩:=⟨_,rfl⟩
      rw [← hme] at hB hmw hSe2
      have hmt:m.t=u:=by rw [hme]
      have hmp:m.p=p:=by rw [hme]
      clear hue; go_upto_region 16 with fail; refine wp_region_list ?_; refine xpL (.pointer (some ⟨Ra,0,none⟩)) ?_; refine xpL (.int .i64 p) ?_; refine xpL (.slice bp2 u.length bc) ?_; have Mp:=M.perm (pull1 ([(B2,row .u8 32 y),(B1,row .u8 32 x)]:List (Nat × List Value)) GG ga (gb++((obs sA)++((obs sB)++((obs sC)++([]:List (Nat × List Value)))))))
      have key:=hK.sel w0 _ _ g ga _ p bp2 bc u hg hSe.w hpi hIa (by omega) (by have:=hov.b_le; omega) hnu hub Mp ((SrcA.of_old hus Mp.los).off (Off.of_below Mp.below))
      rw [hE] at key
      rw [hB] at key
      refine xcL key ?_; clear key; rintro e w10 ⟨p10,c10,ba1,rfl,N_10,hI_,M',o1⟩; replace hIb:=hK.off _ _ _ _ _ _ hIb o1 (Mp.awayG (fun p_ hp_=>by simp [hp_])); replace V_A:=ownsRow_away V_A o1 (Mp.awayS (fun p_ hp_=>by simp [hp_])); replace V_B:=ownsRow_away V_B o1 (Mp.awayS (fun p_ hp_=>by simp [hp_]))
      replace V_C:=ownsRow_away V_C o1 (Mp.awayS (fun p_ hp_=>by simp [hp_])); replace Y_:=WayI.off Y_ o1 (Mp.awayG (fun p_ hp_=>by simp [hp_])); clear o1 Mp M hIa; have hIa:=hI_; clear hI_
      have M:Mm w0 ((B2,row .u8 32 y)::(B1,row .u8 32 x)::(ba1++((obs p10)++(GG++(gb++((obs sA)++((obs sB)++((obs sC)++([]:List (Nat × List Value)))))))))) w10:=M'.perm (pullY ([(B2,row .u8 32 y),(B1,row .u8 32 x)]:List (Nat × List Value)) ba1 (obs p10) (GG++(gb++((obs sA)++((obs sB)++((obs sC)++([]:List (Nat × List Value))))))))
      clear M'; refine xeL ?_; refine xpL (.tuple #[.slice p10 ((ibs x m).length) c10,.int .i64 0]) ?_; refine xpL (.slice p10 ((ibs x m).length) c10) ?_; refine xpL (.int .i64 0) ?_; refine xpL (.slice p10 ((ibs x m).length) c10) ?_; refine xpL (.int .i64 0) ?_; refine xT ?_; go_upto_region 17 with fail; refine wp_region_list ?_; refine xpL (.int .i64 0) ?_
      refine xaL (.bool false) (neqI .i64 _ _ _ _ _ _ rfl rfl rfl false (bne_self_eq_false _) _) ?_; refine xT ?_; go_upto_region 19 with fail; refine wp_region_list ?_; refine xpL (.slice sA R.length cA) ?_; refine xpL (.slice p10 ((ibs x m).length) c10) ?_
      have S_1:=World.ownsRow.cells (World.ownsRow_lit (base:=w10.heap.size) (e:=29) (size:=1) w10 #[.slice p10 ((ibs x m).length) c10] 1 (xnR _) (by unfold maxLen; omega) rfl) (g:=w10.heap.size) rfl; have hlb:=(Below.refl w10.heap.size w10).alloc (xnR _) (.cells #[.slice p10 ((ibs x m).length) c10] 29)
      refine actL (w':=w10.alloc (.cells #[.slice p10 ((ibs x m).length) c10] 29)) (.slice (some ⟨w10.heap.size,0,none⟩) 1 1) rfl (by kernel_rfl) ?_; simp only [aP,lI,l0,lS]; replace hIa:=hK.bel hIa hlb; replace hIb:=hK.bel hIb hlb; replace V_A:=ownsRow_bel V_A hlb; replace V_B:=ownsRow_bel V_B hlb; replace V_C:=ownsRow_bel V_C hlb; replace Y_:=WayI.bel Y_ hlb
      replace N_10:=NewF.below N_10 hlb; replace M:=M.call hlb; clear hlb; generalize w10.alloc (.cells #[.slice p10 ((ibs x m).length) c10] 29)=w11 at M S_1 hIa hIb V_A V_B V_C Y_ N_10 ⊢; generalize w10.heap.size=bz at S_1 ⊢
      obtain ⟨v2,w12,hr,V2,hgr,hg2⟩:=run_append_OwnV (P:=Tryz.prog) (ty:=43) Tryz.underlying43 manyA rfl (by decide) V_A ⟨bz,0,none⟩ 1 1 [.slice p10 ((ibs x m).length) c10] rfl S_1 (fun u_ hu_=>by obtain rfl:=xm1 hu_; rfl) (by unfold maxLen; omega) (by omega) M.below.size
      have Mp:=M.perm (pull4 ([(B2,row .u8 32 y),(B1,row .u8 32 x)]:List (Nat × List Value)) ba1 (obs p10) GG gb (obs sA) ((obs sB)++((obs sC)++([]:List (Nat × List Value)))))
      obtain ⟨sA12,cA12,rfl,_,_⟩:=row_form16 V2
      have M':=Mp.rowApp V_A hgr V2 hg2 (xnR _)
      have oS:Off (ob sA) w11 w12:=(Off.refl (ob sA) w11).grown hgr (fun b_ hb_=>.inl ((ob_own _ _ _ _).1 hb_))
      replace hIa:=hK.off _ _ _ _ _ _ hIa oS (fun b_ hb_=>Mp.awayG (fun p_ hp_=>by simp [hp_]) b_ (by rw [obs_fst]; exact hb_)); replace hIb:=hK.off _ _ _ _ _ _ hIb oS (fun b_ hb_=>Mp.awayG (fun p_ hp_=>by simp [hp_]) b_ (by rw [obs_fst]; exact hb_)); replace V_B:=ownsRow_away V_B oS (fun b_ hb_=>Mp.awayS (fun p_ hp_=>by simp [hp_]) b_ (by rw [obs_fst]; exact hb_))
      replace V_C:=ownsRow_away V_C oS (fun b_ hb_=>Mp.awayS (fun p_ hp_=>by simp [hp_]) b_ (by rw [obs_fst]; exact hb_)); replace Y_:=WayI.off Y_ oS (fun b_ hb_=>Mp.awayG (fun p_ hp_=>by simp [hp_]) b_ (by rw [obs_fst]; exact hb_)); replace N_10:=NewF.offB N_10 oS (fun b_ hb_=>Mp.awayS (fun p_ hp_=>by simp [hp_]) b_ (by rw [obs_fst]; exact hb_))
      refine xaL _ (appendOp _ _ 43 _ _ _ rfl rfl rfl hr) ?_; clear hr hgr hg2 V_A S_1 oS Mp M; have V_A:=V2; clear V2
      have M:Mm w0 ((B2,row .u8 32 y)::(B1,row .u8 32 x)::((obs sA12)++(ba1++((obs p10)++(GG++(gb++((obs sB)++((obs sC)++([]:List (Nat × List Value)))))))))) w12:=M'.perm (pull0 ([(B2,row .u8 32 y),(B1,row .u8 32 x)]:List (Nat × List Value)) (obs sA12) (ba1++((obs p10)++(GG++(gb++((obs sB)++((obs sC)++([]:List (Nat × List Value))))))))).symm
      clear M'; refine xpL (.slice sA12 (R.length+1) cA12) ?_; refine xT ?_; go_upto_region 20 with fail; refine wp_region_list ?_; refine xpL (.slice sB R.length cB) ?_; refine xpL (.slice bp2 u.length bc) ?_
      refine xaL (.string (txt u.length (bl u))) (conv_txt 29 5 9 _ rfl Tryz.underlying29 Tryz.underlying5 Tryz.underlying9 bp2 u.length bc (bl u) rfl _ (hus.below M.below (xnR _)) (fun e=>by have h1:=hnu e; have h2:=(by have:=hov.b_le; omega); omega)) ?_
      have S_1:=World.ownsRow.cells (World.ownsRow_lit (base:=w12.heap.size) (e:=9) (size:=1) w12 #[.string (txt u.length (bl u))] 1 (xnR _) (by unfold maxLen; omega) rfl) (g:=w12.heap.size) rfl; have hlb:=(Below.refl w12.heap.size w12).alloc (xnR _) (.cells #[.string (txt u.length (bl u))] 9)
      refine actL (w':=w12.alloc (.cells #[.string (txt u.length (bl u))] 9)) (.slice (some ⟨w12.heap.size,0,none⟩) 1 1) rfl (by kernel_rfl) ?_; simp only [aP,lI,l0,lS]; replace hIa:=hK.bel hIa hlb; replace hIb:=hK.bel hIb hlb; replace V_B:=ownsRow_bel V_B hlb; replace V_C:=ownsRow_bel V_C hlb; replace Y_:=WayI.bel Y_ hlb; replace N_10:=NewF.below N_10 hlb
      replace V_A:=ownsRow_bel V_A hlb; replace M:=M.call hlb; clear hlb; generalize w12.alloc (.cells #[.string (txt u.length (bl u))] 9)=w13 at M S_1 hIa hIb V_B V_C Y_ N_10 V_A ⊢; generalize w12.heap.size=bz at S_1 ⊢
      obtain ⟨v2,w14,hr,V2,hgr,hg2⟩:=run_append_OwnV (P:=Tryz.prog) (ty:=44) Tryz.underlying44 manyB rfl (by decide) V_B ⟨bz,0,none⟩ 1 1 [.string (txt u.length (bl u))] rfl S_1 (fun u_ hu_=>by obtain rfl:=xm1 hu_; rfl) (by unfold maxLen; omega) (by omega) M.below.size
      have Mp:=M.perm (pull5 ([(B2,row .u8 32 y),(B1,row .u8 32 x)]:List (Nat × List Value)) (obs sA12) ba1 (obs p10) GG gb (obs sB) ((obs sC)++([]:List (Nat × List Value))))
      obtain ⟨sB14,cB14,rfl,_,_⟩:=row_form16 V2
      have M':=Mp.rowApp V_B hgr V2 hg2 (xnR _)
      have oS:Off (ob sB) w13 w14:=(Off.refl (ob sB) w13).grown hgr (fun b_ hb_=>.inl ((ob_own _ _ _ _).1 hb_))
      replace hIa:=hK.off _ _ _ _ _ _ hIa oS (fun b_ hb_=>Mp.awayG (fun p_ hp_=>by simp [hp_]) b_ (by rw [obs_fst]; exact hb_)); replace hIb:=hK.off _ _ _ _ _ _ hIb oS (fun b_ hb_=>Mp.awayG (fun p_ hp_=>by simp [hp_]) b_ (by rw [obs_fst]; exact hb_)); replace V_C:=ownsRow_away V_C oS (fun b_ hb_=>Mp.awayS (fun p_ hp_=>by simp [hp_]) b_ (by rw [obs_fst]; exact hb_))
      replace Y_:=WayI.off Y_ oS (fun b_ hb_=>Mp.awayG (fun p_ hp_=>by simp [hp_]) b_ (by rw [obs_fst]; exact hb_)); replace N_10:=NewF.offB N_10 oS (fun b_ hb_=>Mp.awayS (fun p_ hp_=>by simp [hp_]) b_ (by rw [obs_fst]; exact hb_)); replace V_A:=ownsRow_away V_A oS (fun b_ hb_=>Mp.awayS (fun p_ hp_=>by simp [hp_]) b_ (by rw [obs_fst]; exact hb_))
      refine xaL _ (appendOp _ _ 44 _ _ _ rfl rfl rfl hr) ?_; clear hr hgr hg2 V_B S_1 oS Mp M; have V_B:=V2; clear V2
      have M:Mm w0 ((B2,row .u8 32 y)::(B1,row .u8 32 x)::((obs sB14)++((obs sA12)++(ba1++((obs p10)++(GG++(gb++((obs sC)++([]:List (Nat × List Value)))))))))) w14:=M'.perm (pull0 ([(B2,row .u8 32 y),(B1,row .u8 32 x)]:List (Nat × List Value)) (obs sB14) ((obs sA12)++(ba1++((obs p10)++(GG++(gb++((obs sC)++([]:List (Nat × List Value))))))))).symm
      clear M'; refine xpL (.slice sB14 (R.length+1) cB14) ?_; refine xT ?_; go_upto_region 21 with fail; refine wp_region_list ?_; refine xpL (.slice sC R.length cC) ?_; refine xpL (.int .i64 p) ?_; have S_1:=World.ownsRow.cells (World.ownsRow_lit (base:=w14.heap.size) (e:=3) (size:=1) w14 #[.int .i64 p] 1 (xnR _) (by unfold maxLen; omega) rfl) (g:=w14.heap.size) rfl
      have hlb:=(Below.refl w14.heap.size w14).alloc (xnR _) (.cells #[.int .i64 p] 3); refine actL (w':=w14.alloc (.cells #[.int .i64 p] 3)) (.slice (some ⟨w14.heap.size,0,none⟩) 1 1) rfl (by kernel_rfl) ?_; simp only [aP,lI,l0,lS]; replace hIa:=hK.bel hIa hlb; replace hIb:=hK.bel hIb hlb; replace V_C:=ownsRow_bel V_C hlb; replace Y_:=WayI.bel Y_ hlb
      replace N_10:=NewF.below N_10 hlb; replace V_A:=ownsRow_bel V_A hlb; replace V_B:=ownsRow_bel V_B hlb; replace M:=M.call hlb; clear hlb; generalize w14.alloc (.cells #[.int .i64 p] 3)=w15 at M S_1 hIa hIb V_C Y_ N_10 V_A V_B ⊢; generalize w14.heap.size=bz at S_1 ⊢
      obtain ⟨v2,w16,hr,V2,hgr,hg2⟩:=run_append_OwnV (P:=Tryz.prog) (ty:=45) Tryz.underlying45 manyC rfl (by decide) V_C ⟨bz,0,none⟩ 1 1 [.int .i64 p] rfl S_1 (fun u_ hu_=>by obtain rfl:=xm1 hu_; rfl) (by unfold maxLen; omega) (by omega) M.below.size
      have Mp:=M.perm (pull6 ([(B2,row .u8 32 y),(B1,row .u8 32 x)]:List (Nat × List Value)) (obs sB14) (obs sA12) ba1 (obs p10) GG gb (obs sC) ([]:List (Nat × List Value)))
      obtain ⟨sC16,cC16,rfl,_,_⟩:=row_form16 V2
      have M':=Mp.rowApp V_C hgr V2 hg2 (xnR _)
      have oS:Off (ob sC) w15 w16:=(Off.refl (ob sC) w15).grown hgr (fun b_ hb_=>.inl ((ob_own _ _ _ _).1 hb_))
      replace hIa:=hK.off _ _ _ _ _ _ hIa oS (fun b_ hb_=>Mp.awayG (fun p_ hp_=>by simp [hp_]) b_ (by rw [obs_fst]; exact hb_)); replace hIb:=hK.off _ _ _ _ _ _ hIb oS (fun b_ hb_=>Mp.awayG (fun p_ hp_=>by simp [hp_]) b_ (by rw [obs_fst]; exact hb_)); replace Y_:=WayI.off Y_ oS (fun b_ hb_=>Mp.awayG (fun p_ hp_=>by simp [hp_]) b_ (by rw [obs_fst]; exact hb_))
      replace N_10:=NewF.offB N_10 oS (fun b_ hb_=>Mp.awayS (fun p_ hp_=>by simp [hp_]) b_ (by rw [obs_fst]; exact hb_)); replace V_A:=ownsRow_away V_A oS (fun b_ hb_=>Mp.awayS (fun p_ hp_=>by simp [hp_]) b_ (by rw [obs_fst]; exact hb_)); replace V_B:=ownsRow_away V_B oS (fun b_ hb_=>Mp.awayS (fun p_ hp_=>by simp [hp_]) b_ (by rw [obs_fst]; exact hb_))
      refine xaL _ (appendOp _ _ 45 _ _ _ rfl rfl rfl hr) ?_; clear hr hgr hg2 V_C S_1 oS Mp M; have V_C:=V2; clear V2
      have M:Mm w0 ((B2,row .u8 32 y)::(B1,row .u8 32 x)::((obs sC16)++((obs sB14)++((obs sA12)++(ba1++((obs p10)++(GG++(gb++([]:List (Nat × List Value)))))))))) w16:=M'.perm (pull0 ([(B2,row .u8 32 y),(B1,row .u8 32 x)]:List (Nat × List Value)) (obs sC16) ((obs sB14)++((obs sA12)++(ba1++((obs p10)++(GG++(gb++([]:List (Nat × List Value))))))))).symm
      clear M'; refine xpL (.slice sC16 (R.length+1) cC16) ?_; refine xT ?_
      replace M:Mm w0 ((B2,row .u8 32 y)::(B1,row .u8 32 x)::((obs sB14)++((obs sC16)++((obs sA12)++(ba1++((obs p10)++(GG++(gb++([]:List (Nat × List Value)))))))))) w16:=(M.perm (pull1 ([(B2,row .u8 32 y),(B1,row .u8 32 x)]:List (Nat × List Value)) (obs sC16) (obs sB14) ((obs sA12)++(ba1++((obs p10)++(GG++(gb++([]:List (Nat × List Value))))))))).perm (pull0 ([(B2,row .u8 32 y),(B1,row .u8 32 x)]:List (Nat × List Value)) (obs sB14) ((obs sC16)++((obs sA12)++(ba1++((obs p10)++(GG++(gb++([]:List (Nat × List Value))))))))).symm
      replace M:Mm w0 ((B2,row .u8 32 y)::(B1,row .u8 32 x)::((obs sA12)++((obs sB14)++((obs sC16)++(ba1++((obs p10)++(GG++(gb++([]:List (Nat × List Value)))))))))) w16:=(M.perm (pull2 ([(B2,row .u8 32 y),(B1,row .u8 32 x)]:List (Nat × List Value)) (obs sB14) (obs sC16) (obs sA12) (ba1++((obs p10)++(GG++(gb++([]:List (Nat × List Value)))))))).perm (pull0 ([(B2,row .u8 32 y),(B1,row .u8 32 x)]:List (Nat × List Value)) (obs sA12) ((obs sB14)++((obs sC16)++(ba1++((obs p10)++(GG++(gb++([]:List (Nat × List Value))))))))).symm
      replace M:Mm w0 ((B2,row .u8 32 y)::(B1,row .u8 32 x)::(gb++((obs sA12)++((obs sB14)++((obs sC16)++(ba1++((obs p10)++(GG++([]:List (Nat × List Value)))))))))) w16:=(M.perm (pull6 ([(B2,row .u8 32 y),(B1,row .u8 32 x)]:List (Nat × List Value)) (obs sA12) (obs sB14) (obs sC16) ba1 (obs p10) GG gb ([]:List (Nat × List Value)))).perm (pull0 ([(B2,row .u8 32 y),(B1,row .u8 32 x)]:List (Nat × List Value)) gb ((obs sA12)++((obs sB14)++((obs sC16)++(ba1++((obs p10)++(GG++([]:List (Nat × List Value))))))))).symm
      replace M:Mm w0 ((B2,row .u8 32 y)::(B1,row .u8 32 x)::(ba1++(gb++((obs sA12)++((obs sB14)++((obs sC16)++((obs p10)++(GG++([]:List (Nat × List Value)))))))))) w16:=(M.perm (pull4 ([(B2,row .u8 32 y),(B1,row .u8 32 x)]:List (Nat × List Value)) gb (obs sA12) (obs sB14) (obs sC16) ba1 ((obs p10)++(GG++([]:List (Nat × List Value)))))).perm (pull0 ([(B2,row .u8 32 y),(B1,row .u8 32 x)]:List (Nat × List Value)) ba1 (gb++((obs sA12)++((obs sB14)++((obs sC16)++((obs p10)++(GG++([]:List (Nat × List Value))))))))).symm
      replace M:Mm w0 ((B2,row .u8 32 y)::(B1,row .u8 32 x)::(GG++(ba1++(gb++((obs sA12)++((obs sB14)++((obs sC16)++((obs p10)++([]:List (Nat × List Value)))))))))) w16:=(M.perm (pull6 ([(B2,row .u8 32 y),(B1,row .u8 32 x)]:List (Nat × List Value)) ba1 gb (obs sA12) (obs sB14) (obs sC16) (obs p10) GG ([]:List (Nat × List Value)))).perm (pull0 ([(B2,row .u8 32 y),(B1,row .u8 32 x)]:List (Nat × List Value)) GG (ba1++(gb++((obs sA12)++((obs sB14)++((obs sC16)++((obs p10)++([]:List (Nat × List Value))))))))).symm
      replace M:Mm w0 ((B2,row .u8 32 y)::(B1,row .u8 32 x)::((obs p10)++(GG++(ba1++(gb++((obs sA12)++((obs sB14)++((obs sC16)++([]:List (Nat × List Value)))))))))) w16:=(M.perm (pull6 ([(B2,row .u8 32 y),(B1,row .u8 32 x)]:List (Nat × List Value)) GG ba1 gb (obs sA12) (obs sB14) (obs sC16) (obs p10) ([]:List (Nat × List Value)))).perm (pull0 ([(B2,row .u8 32 y),(B1,row .u8 32 x)]:List (Nat × List Value)) (obs p10) (GG++(ba1++(gb++((obs sA12)++((obs sB14)++((obs sC16)++([]:List (Nat × List Value))))))))).symm
      have hRl:(R++[m]).length=R.length+1:=by rw [List.length_append]; rfl
      have Y2:=Y_.app N_10
      replace V_B:w16.ownsRow w0.heap.size 9 1 (.slice sB14 (R++[m]).length cB14) (R++[m]).length (itT (R++[m])):=by rw [hRl,itT_app,hmt]; exact V_B
      replace V_C:w16.ownsRow w0.heap.size 3 1 (.slice sC16 (R++[m]).length cC16) (R++[m]).length (itP (R++[m])):=by rw [hRl,itP_app,hmp]; exact V_C
      replace V_A:w16.ownsRow w0.heap.size 29 1 (.slice sA12 (R++[m]).length cA12) (R++[m]).length ((vs++[.slice p10 (ibs x m).length c10])):=by rw [hRl]; exact V_A
      replace M:Mm w0 ((B2,row .u8 32 y)::(B1,row .u8 32 x)::((obs p10++GG)++(ba1++(gb++(obs sA12++(obs sB14++(obs sC16++([]:List (Nat × List Value)))))))) ) w16:=by rw [List.append_assoc]; exact M
      have HS:=show Hid _ from (show SealI x (gsN g p u.length) (R++[m])∧I w16 (.pointer (some ⟨Ra,0,none⟩)) (gsN g p u.length) ba1∧I w16 (.pointer (some ⟨Rb,0,none⟩)) (gat 1 y x 0 0) gb∧w16.ownsRow w0.heap.size 29 1 (.slice sA12 (R++[m]).length cA12) (R++[m]).length ((vs++[.slice p10 (ibs x m).length c10]))∧w16.ownsRow w0.heap.size 9 1 (.slice sB14 (R++[m]).length cB14) (R++[m]).length (itT (R++[m]))∧w16.ownsRow w0.heap.size 3 1 (.slice sC16 (R++[m]).length cC16) (R++[m]).length (itP (R++[m]))∧WayI x w16 (obs p10++GG) (vs++[.slice p10 (ibs x m).length c10]) (R++[m])∧Mm w0 ((B2,row .u8 32 y)::(B1,row .u8 32 x)::((obs p10++GG)++(ba1++(gb++(obs sA12++(obs sB14++(obs sC16++([]:List (Nat × List Value)))))))) ) w16 from ⟨hSe2,hIa,hIb,V_A,V_B,V_C,Y2,M⟩)
      clear M hIa hIb V_A V_B V_C Y_ Y2 N_10 hSe hSe2 hmt hmp hul hub hus hE hB hpe; go_wp2
      go_roundw
      case rel=>exact ⟨q+1,_,(R++[m]),(obs p10++GG),(vs++[.slice p10 (ibs x m).length c10]),ba1,gb,sA12,sB14,sC16,cA12,cB14,cC16,by omega,by omega,by omega,by rw [hRl],by rw [hRl],by rw [hRl],by go_num,HS.out⟩
      case measure=>simp [intOf]; omega
    · go_upto_region 14 with fail
      refine wp_region_list ?_; refine xpL (.slice bp vq.b.length bc) ?_; refine xaL (.int .i64 ((vq.b.length:Nat):Int)) (lenS _ 29 5 bp vq.b.length bc rfl Tryz.underlying29 rfl _) ?_; refine xaL (.bool false) (gtrI .i64 _ _ _ _ _ _ rfl rfl rfl false (decide_eq_false (by omega)) _) ?_; refine xT ?_; have hnu:=hov.b_nil
      obtain ⟨u,hue⟩:∃ u:List Int,u=vq.b:=⟨_,rfl⟩
      have hul:u.length=vq.b.length:=by rw [hue]
      have hub:Byts u:=by rw [hue]; exact hov.b_byts
      have hus:Src w0 bp u.length (bl u):=by rw [hue]; exact hov.b_src
      have hu2:u.length≤256:=by omega
      rw [← hul]
      have hE:=hSe.E (by omega) hp hu2; have hB:=hSe.B (by omega) hp hu2
      obtain ⟨hmw,hSe2⟩:=hSe.next (by omega) hp hub hu2
      obtain ⟨m,hme⟩:∃ m:Itm,m=⟨p,g.cnt p,u⟩:=⟨_,rfl⟩
      rw [← hme] at hB hmw hSe2
      have hmt:m.t=u:=by rw [hme]
      have hmp:m.p=p:=by rw [hme]
      clear hue; go_upto_region 16 with fail; refine wp_region_list ?_; refine xpL (.pointer (some ⟨Ra,0,none⟩)) ?_; refine xpL (.int .i64 p) ?_; refine xpL (.slice bp u.length bc) ?_; have Mp:=M.perm (pull1 ([(B2,row .u8 32 y),(B1,row .u8 32 x)]:List (Nat × List Value)) GG ga (gb++((obs sA)++((obs sB)++((obs sC)++([]:List (Nat × List Value)))))))
      have key:=hK.sel w0 _ _ g ga _ p bp bc u hg hSe.w hpi hIa (by omega) (by have:=hov.b_le; omega) hnu hub Mp ((SrcA.of_old hus Mp.los).off (Off.of_below Mp.below))
      rw [hE] at key
      rw [hB] at key
      refine xcL key ?_; clear key; rintro e w17 ⟨p17,c17,ba1,rfl,N_17,hI_,M',o1⟩; replace hIb:=hK.off _ _ _ _ _ _ hIb o1 (Mp.awayG (fun p_ hp_=>by simp [hp_])); replace V_A:=ownsRow_away V_A o1 (Mp.awayS (fun p_ hp_=>by simp [hp_])); replace V_B:=ownsRow_away V_B o1 (Mp.awayS (fun p_ hp_=>by simp [hp_]))
      replace V_C:=ownsRow_away V_C o1 (Mp.awayS (fun p_ hp_=>by simp [hp_])); replace Y_:=WayI.off Y_ o1 (Mp.awayG (fun p_ hp_=>by simp [hp_])); clear o1 Mp M hIa; have hIa:=hI_; clear hI_
      have M:Mm w0 ((B2,row .u8 32 y)::(B1,row .u8 32 x)::(ba1++((obs p17)++(GG++(gb++((obs sA)++((obs sB)++((obs sC)++([]:List (Nat × List Value)))))))))) w17:=M'.perm (pullY ([(B2,row .u8 32 y),(B1,row .u8 32 x)]:List (Nat × List Value)) ba1 (obs p17) (GG++(gb++((obs sA)++((obs sB)++((obs sC)++([]:List (Nat × List Value))))))))
      clear M'; refine xeL ?_; refine xpL (.tuple #[.slice p17 ((ibs x m).length) c17,.int .i64 0]) ?_; refine xpL (.slice p17 ((ibs x m).length) c17) ?_; refine xpL (.int .i64 0) ?_; refine xpL (.slice p17 ((ibs x m).length) c17) ?_; refine xpL (.int .i64 0) ?_; refine xT ?_; go_upto_region 17 with fail; refine wp_region_list ?_; refine xpL (.int .i64 0) ?_
      refine xaL (.bool false) (neqI .i64 _ _ _ _ _ _ rfl rfl rfl false (bne_self_eq_false _) _) ?_; refine xT ?_; go_upto_region 19 with fail; refine wp_region_list ?_; refine xpL (.slice sA R.length cA) ?_; refine xpL (.slice p17 ((ibs x m).length) c17) ?_
      have S_1:=World.ownsRow.cells (World.ownsRow_lit (base:=w17.heap.size) (e:=29) (size:=1) w17 #[.slice p17 ((ibs x m).length) c17] 1 (xnR _) (by unfold maxLen; omega) rfl) (g:=w17.heap.size) rfl; have hlb:=(Below.refl w17.heap.size w17).alloc (xnR _) (.cells #[.slice p17 ((ibs x m).length) c17] 29)
      refine actL (w':=w17.alloc (.cells #[.slice p17 ((ibs x m).length) c17] 29)) (.slice (some ⟨w17.heap.size,0,none⟩) 1 1) rfl (by kernel_rfl) ?_; simp only [aP,lI,l0,lS]; replace hIa:=hK.bel hIa hlb; replace hIb:=hK.bel hIb hlb; replace V_A:=ownsRow_bel V_A hlb; replace V_B:=ownsRow_bel V_B hlb; replace V_C:=ownsRow_bel V_C hlb; replace Y_:=WayI.bel Y_ hlb
      replace N_17:=NewF.below N_17 hlb; replace M:=M.call hlb; clear hlb; generalize w17.alloc (.cells #[.slice p17 ((ibs x m).length) c17] 29)=w18 at M S_1 hIa hIb V_A V_B V_C Y_ N_17 ⊢; generalize w17.heap.size=bz at S_1 ⊢
      obtain ⟨v2,w19,hr,V2,hgr,hg2⟩:=run_append_OwnV (P:=Tryz.prog) (ty:=43) Tryz.underlying43 manyA rfl (by decide) V_A ⟨bz,0,none⟩ 1 1 [.slice p17 ((ibs x m).length) c17] rfl S_1 (fun u_ hu_=>by obtain rfl:=xm1 hu_; rfl) (by unfold maxLen; omega) (by omega) M.below.size
      have Mp:=M.perm (pull4 ([(B2,row .u8 32 y),(B1,row .u8 32 x)]:List (Nat × List Value)) ba1 (obs p17) GG gb (obs sA) ((obs sB)++((obs sC)++([]:List (Nat × List Value)))))
      obtain ⟨sA19,cA19,rfl,_,_⟩:=row_form16 V2
      have M':=Mp.rowApp V_A hgr V2 hg2 (xnR _)
      have oS:Off (ob sA) w18 w19:=(Off.refl (ob sA) w18).grown hgr (fun b_ hb_=>.inl ((ob_own _ _ _ _).1 hb_))
      replace hIa:=hK.off _ _ _ _ _ _ hIa oS (fun b_ hb_=>Mp.awayG (fun p_ hp_=>by simp [hp_]) b_ (by rw [obs_fst]; exact hb_)); replace hIb:=hK.off _ _ _ _ _ _ hIb oS (fun b_ hb_=>Mp.awayG (fun p_ hp_=>by simp [hp_]) b_ (by rw [obs_fst]; exact hb_)); replace V_B:=ownsRow_away V_B oS (fun b_ hb_=>Mp.awayS (fun p_ hp_=>by simp [hp_]) b_ (by rw [obs_fst]; exact hb_))
      replace V_C:=ownsRow_away V_C oS (fun b_ hb_=>Mp.awayS (fun p_ hp_=>by simp [hp_]) b_ (by rw [obs_fst]; exact hb_)); replace Y_:=WayI.off Y_ oS (fun b_ hb_=>Mp.awayG (fun p_ hp_=>by simp [hp_]) b_ (by rw [obs_fst]; exact hb_)); replace N_17:=NewF.offB N_17 oS (fun b_ hb_=>Mp.awayS (fun p_ hp_=>by simp [hp_]) b_ (by rw [obs_fst]; exact hb_))
      refine xaL _ (appendOp _ _ 43 _ _ _ rfl rfl rfl hr) ?_; clear hr hgr hg2 V_A S_1 oS Mp M; have V_A:=V2; clear V2
      have M:Mm w0 ((B2,row .u8 32 y)::(B1,row .u8 32 x)::((obs sA19)++(ba1++((obs p17)++(GG++(gb++((obs sB)++((obs sC)++([]:List (Nat × List Value)))))))))) w19:=M'.perm (pull0 ([(B2,row .u8 32 y),(B1,row .u8 32 x)]:List (Nat × List Value)) (obs sA19) (ba1++((obs p17)++(GG++(gb++((obs sB)++((obs sC)++([]:List (Nat × List Value))))))))).symm
      clear M'; refine xpL (.slice sA19 (R.length+1) cA19) ?_; refine xT ?_; go_upto_region 20 with fail; refine wp_region_list ?_; refine xpL (.slice sB R.length cB) ?_; refine xpL (.slice bp u.length bc) ?_
      refine xaL (.string (txt u.length (bl u))) (conv_txt 29 5 9 _ rfl Tryz.underlying29 Tryz.underlying5 Tryz.underlying9 bp u.length bc (bl u) rfl _ (hus.below M.below (xnR _)) (fun e=>by have h1:=hnu e; have h2:=(by have:=hov.b_le; omega); omega)) ?_
      have S_1:=World.ownsRow.cells (World.ownsRow_lit (base:=w19.heap.size) (e:=9) (size:=1) w19 #[.string (txt u.length (bl u))] 1 (xnR _) (by unfold maxLen; omega) rfl) (g:=w19.heap.size) rfl; have hlb:=(Below.refl w19.heap.size w19).alloc (xnR _) (.cells #[.string (txt u.length (bl u))] 9)
      refine actL (w':=w19.alloc (.cells #[.string (txt u.length (bl u))] 9)) (.slice (some ⟨w19.heap.size,0,none⟩) 1 1) rfl (by kernel_rfl) ?_; simp only [aP,lI,l0,lS]; replace hIa:=hK.bel hIa hlb; replace hIb:=hK.bel hIb hlb; replace V_B:=ownsRow_bel V_B hlb; replace V_C:=ownsRow_bel V_C hlb; replace Y_:=WayI.bel Y_ hlb; replace N_17:=NewF.below N_17 hlb
      replace V_A:=ownsRow_bel V_A hlb; replace M:=M.call hlb; clear hlb; generalize w19.alloc (.cells #[.string (txt u.length (bl u))] 9)=w20 at M S_1 hIa hIb V_B V_C Y_ N_17 V_A ⊢; generalize w19.heap.size=bz at S_1 ⊢
      obtain ⟨v2,w21,hr,V2,hgr,hg2⟩:=run_append_OwnV (P:=Tryz.prog) (ty:=44) Tryz.underlying44 manyB rfl (by decide) V_B ⟨bz,0,none⟩ 1 1 [.string (txt u.length (bl u))] rfl S_1 (fun u_ hu_=>by obtain rfl:=xm1 hu_; rfl) (by unfold maxLen; omega) (by omega) M.below.size
      have Mp:=M.perm (pull5 ([(B2,row .u8 32 y),(B1,row .u8 32 x)]:List (Nat × List Value)) (obs sA19) ba1 (obs p17) GG gb (obs sB) ((obs sC)++([]:List (Nat × List Value))))
      obtain ⟨sB21,cB21,rfl,_,_⟩:=row_form16 V2
      have M':=Mp.rowApp V_B hgr V2 hg2 (xnR _)
      have oS:Off (ob sB) w20 w21:=(Off.refl (ob sB) w20).grown hgr (fun b_ hb_=>.inl ((ob_own _ _ _ _).1 hb_))
      replace hIa:=hK.off _ _ _ _ _ _ hIa oS (fun b_ hb_=>Mp.awayG (fun p_ hp_=>by simp [hp_]) b_ (by rw [obs_fst]; exact hb_)); replace hIb:=hK.off _ _ _ _ _ _ hIb oS (fun b_ hb_=>Mp.awayG (fun p_ hp_=>by simp [hp_]) b_ (by rw [obs_fst]; exact hb_)); replace V_C:=ownsRow_away V_C oS (fun b_ hb_=>Mp.awayS (fun p_ hp_=>by simp [hp_]) b_ (by rw [obs_fst]; exact hb_))
      replace Y_:=WayI.off Y_ oS (fun b_ hb_=>Mp.awayG (fun p_ hp_=>by simp [hp_]) b_ (by rw [obs_fst]; exact hb_)); replace N_17:=NewF.offB N_17 oS (fun b_ hb_=>Mp.awayS (fun p_ hp_=>by simp [hp_]) b_ (by rw [obs_fst]; exact hb_)); replace V_A:=ownsRow_away V_A oS (fun b_ hb_=>Mp.awayS (fun p_ hp_=>by simp [hp_]) b_ (by rw [obs_fst]; exact hb_))
      refine xaL _ (appendOp _ _ 44 _ _ _ rfl rfl rfl hr) ?_; clear hr hgr hg2 V_B S_1 oS Mp M; have V_B:=V2; clear V2
      have M:Mm w0 ((B2,row .u8 32 y)::(B1,row .u8 32 x)::((obs sB21)++((obs sA19)++(ba1++((obs p17)++(GG++(gb++((obs sC)++([]:List (Nat × List Value)))))))))) w21:=M'.perm (pull0 ([(B2,row .u8 32 y),(B1,row .u8 32 x)]:List (Nat × List Value)) (obs sB21) ((obs sA19)++(ba1++((obs p17)++(GG++(gb++((obs sC)++([]:List (Nat × List Value))))))))).symm
      clear M'; refine xpL (.slice sB21 (R.length+1) cB21) ?_; refine xT ?_; go_upto_region 21 with fail; refine wp_region_list ?_; refine xpL (.slice sC R.length cC) ?_; refine xpL (.int .i64 p) ?_; have S_1:=World.ownsRow.cells (World.ownsRow_lit (base:=w21.heap.size) (e:=3) (size:=1) w21 #[.int .i64 p] 1 (xnR _) (by unfold maxLen; omega) rfl) (g:=w21.heap.size) rfl
      have hlb:=(Below.refl w21.heap.size w21).alloc (xnR _) (.cells #[.int .i64 p] 3); refine actL (w':=w21.alloc (.cells #[.int .i64 p] 3)) (.slice (some ⟨w21.heap.size,0,none⟩) 1 1) rfl (by kernel_rfl) ?_; simp only [aP,lI,l0,lS]; replace hIa:=hK.bel hIa hlb; replace hIb:=hK.bel hIb hlb; replace V_C:=ownsRow_bel V_C hlb; replace Y_:=WayI.bel Y_ hlb
      replace N_17:=NewF.below N_17 hlb; replace V_A:=ownsRow_bel V_A hlb; replace V_B:=ownsRow_bel V_B hlb; replace M:=M.call hlb; clear hlb; generalize w21.alloc (.cells #[.int .i64 p] 3)=w22 at M S_1 hIa hIb V_C Y_ N_17 V_A V_B ⊢; generalize w21.heap.size=bz at S_1 ⊢
      obtain ⟨v2,w23,hr,V2,hgr,hg2⟩:=run_append_OwnV (P:=Tryz.prog) (ty:=45) Tryz.underlying45 manyC rfl (by decide) V_C ⟨bz,0,none⟩ 1 1 [.int .i64 p] rfl S_1 (fun u_ hu_=>by obtain rfl:=xm1 hu_; rfl) (by unfold maxLen; omega) (by omega) M.below.size
      have Mp:=M.perm (pull6 ([(B2,row .u8 32 y),(B1,row .u8 32 x)]:List (Nat × List Value)) (obs sB21) (obs sA19) ba1 (obs p17) GG gb (obs sC) ([]:List (Nat × List Value)))
      obtain ⟨sC23,cC23,rfl,_,_⟩:=row_form16 V2
      have M':=Mp.rowApp V_C hgr V2 hg2 (xnR _)
      have oS:Off (ob sC) w22 w23:=(Off.refl (ob sC) w22).grown hgr (fun b_ hb_=>.inl ((ob_own _ _ _ _).1 hb_))
      replace hIa:=hK.off _ _ _ _ _ _ hIa oS (fun b_ hb_=>Mp.awayG (fun p_ hp_=>by simp [hp_]) b_ (by rw [obs_fst]; exact hb_)); replace hIb:=hK.off _ _ _ _ _ _ hIb oS (fun b_ hb_=>Mp.awayG (fun p_ hp_=>by simp [hp_]) b_ (by rw [obs_fst]; exact hb_)); replace Y_:=WayI.off Y_ oS (fun b_ hb_=>Mp.awayG (fun p_ hp_=>by simp [hp_]) b_ (by rw [obs_fst]; exact hb_))
      replace N_17:=NewF.offB N_17 oS (fun b_ hb_=>Mp.awayS (fun p_ hp_=>by simp [hp_]) b_ (by rw [obs_fst]; exact hb_)); replace V_A:=ownsRow_away V_A oS (fun b_ hb_=>Mp.awayS (fun p_ hp_=>by simp [hp_]) b_ (by rw [obs_fst]; exact hb_)); replace V_B:=ownsRow_away V_B oS (fun b_ hb_=>Mp.awayS (fun p_ hp_=>by simp [hp_]) b_ (by rw [obs_fst]; exact hb_))
      refine xaL _ (appendOp _ _ 45 _ _ _ rfl rfl rfl hr) ?_; clear hr hgr hg2 V_C S_1 oS Mp M; have V_C:=V2; clear V2
      have M:Mm w0 ((B2,row .u8 32 y)::(B1,row .u8 32 x)::((obs sC23)++((obs sB21)++((obs sA19)++(ba1++((obs p17)++(GG++(gb++([]:List (Nat × List Value)))))))))) w23:=M'.perm (pull0 ([(B2,row .u8 32 y),(B1,row .u8 32 x)]:List (Nat × List Value)) (obs sC23) ((obs sB21)++((obs sA19)++(ba1++((obs p17)++(GG++(gb++([]:List (Nat × List Value))))))))).symm
      clear M'; refine xpL (.slice sC23 (R.length+1) cC23) ?_; refine xT ?_
      replace M:Mm w0 ((B2,row .u8 32 y)::(B1,row .u8 32 x)::((obs sB21)++((obs sC23)++((obs sA19)++(ba1++((obs p17)++(GG++(gb++([]:List (Nat × List Value)))))))))) w23:=(M.perm (pull1 ([(B2,row .u8 32 y),(B1,row .u8 32 x)]:List (Nat × List Value)) (obs sC23) (obs sB21) ((obs sA19)++(ba1++((obs p17)++(GG++(gb++([]:List (Nat × List Value))))))))).perm (pull0 ([(B2,row .u8 32 y),(B1,row .u8 32 x)]:List (Nat × List Value)) (obs sB21) ((obs sC23)++((obs sA19)++(ba1++((obs p17)++(GG++(gb++([]:List (Nat × List Value))))))))).symm
      replace M:Mm w0 ((B2,row .u8 32 y)::(B1,row .u8 32 x)::((obs sA19)++((obs sB21)++((obs sC23)++(ba1++((obs p17)++(GG++(gb++([]:List (Nat × List Value)))))))))) w23:=(M.perm (pull2 ([(B2,row .u8 32 y),(B1,row .u8 32 x)]:List (Nat × List Value)) (obs sB21) (obs sC23) (obs sA19) (ba1++((obs p17)++(GG++(gb++([]:List (Nat × List Value)))))))).perm (pull0 ([(B2,row .u8 32 y),(B1,row .u8 32 x)]:List (Nat × List Value)) (obs sA19) ((obs sB21)++((obs sC23)++(ba1++((obs p17)++(GG++(gb++([]:List (Nat × List Value))))))))).symm
      replace M:Mm w0 ((B2,row .u8 32 y)::(B1,row .u8 32 x)::(gb++((obs sA19)++((obs sB21)++((obs sC23)++(ba1++((obs p17)++(GG++([]:List (Nat × List Value)))))))))) w23:=(M.perm (pull6 ([(B2,row .u8 32 y),(B1,row .u8 32 x)]:List (Nat × List Value)) (obs sA19) (obs sB21) (obs sC23) ba1 (obs p17) GG gb ([]:List (Nat × List Value)))).perm (pull0 ([(B2,row .u8 32 y),(B1,row .u8 32 x)]:List (Nat × List Value)) gb ((obs sA19)++((obs sB21)++((obs sC23)++(ba1++((obs p17)++(GG++([]:List (Nat × List Value))))))))).symm
      replace M:Mm w0 ((B2,row .u8 32 y)::(B1,row .u8 32 x)::(ba1++(gb++((obs sA19)++((obs sB21)++((obs sC23)++((obs p17)++(GG++([]:List (Nat × List Value)))))))))) w23:=(M.perm (pull4 ([(B2,row .u8 32 y),(B1,row .u8 32 x)]:List (Nat × List Value)) gb (obs sA19) (obs sB21) (obs sC23) ba1 ((obs p17)++(GG++([]:List (Nat × List Value)))))).perm (pull0 ([(B2,row .u8 32 y),(B1,row .u8 32 x)]:List (Nat × List Value)) ba1 (gb++((obs sA19)++((obs sB21)++((obs sC23)++((obs p17)++(GG++([]:List (Nat × List Value))))))))).symm
      replace M:Mm w0 ((B2,row .u8 32 y)::(B1,row .u8 32 x)::(GG++(ba1++(gb++((obs sA19)++((obs sB21)++((obs sC23)++((obs p17)++([]:List (Nat × List Value)))))))))) w23:=(M.perm (pull6 ([(B2,row .u8 32 y),(B1,row .u8 32 x)]:List (Nat × List Value)) ba1 gb (obs sA19) (obs sB21) (obs sC23) (obs p17) GG ([]:List (Nat × List Value)))).perm (pull0 ([(B2,row .u8 32 y),(B1,row .u8 32 x)]:List (Nat × List Value)) GG (ba1++(gb++((obs sA19)++((obs sB21)++((obs sC23)++((obs p17)++([]:List (Nat × List Value))))))))).symm
      replace M:Mm w0 ((B2,row .u8 32 y)::(B1,row .u8 32 x)::((obs p17)++(GG++(ba1++(gb++((obs sA19)++((obs sB21)++((obs sC23)++([]:List (Nat × List Value)))))))))) w23:=(M.perm (pull6 ([(B2,row .u8 32 y),(B1,row .u8 32 x)]:List (Nat × List Value)) GG ba1 gb (obs sA19) (obs sB21) (obs sC23) (obs p17) ([]:List (Nat × List Value)))).perm (pull0 ([(B2,row .u8 32 y),(B1,row .u8 32 x)]:List (Nat × List Value)) (obs p17) (GG++(ba1++(gb++((obs sA19)++((obs sB21)++((obs sC23)++([]:List (Nat × List Value))))))))).symm
      have hRl:(R++[m]).length=R.length+1:=by rw [List.length_append]; rfl
      have Y2:=Y_.app N_17
      replace V_B:w23.ownsRow w0.heap.size 9 1 (.slice sB21 (R++[m]).length cB21) (R++[m]).length (itT (R++[m])):=by rw [hRl,itT_app,hmt]; exact V_B
      replace V_C:w23.ownsRow w0.heap.size 3 1 (.slice sC23 (R++[m]).length cC23) (R++[m]).length (itP (R++[m])):=by rw [hRl,itP_app,hmp]; exact V_C
      replace V_A:w23.ownsRow w0.heap.size 29 1 (.slice sA19 (R++[m]).length cA19) (R++[m]).length ((vs++[.slice p17 (ibs x m).length c17])):=by rw [hRl]; exact V_A
      replace M:Mm w0 ((B2,row .u8 32 y)::(B1,row .u8 32 x)::((obs p17++GG)++(ba1++(gb++(obs sA19++(obs sB21++(obs sC23++([]:List (Nat × List Value)))))))) ) w23:=by rw [List.append_assoc]; exact M
      have HS:=show Hid _ from (show SealI x (gsN g p u.length) (R++[m])∧I w23 (.pointer (some ⟨Ra,0,none⟩)) (gsN g p u.length) ba1∧I w23 (.pointer (some ⟨Rb,0,none⟩)) (gat 1 y x 0 0) gb∧w23.ownsRow w0.heap.size 29 1 (.slice sA19 (R++[m]).length cA19) (R++[m]).length ((vs++[.slice p17 (ibs x m).length c17]))∧w23.ownsRow w0.heap.size 9 1 (.slice sB21 (R++[m]).length cB21) (R++[m]).length (itT (R++[m]))∧w23.ownsRow w0.heap.size 3 1 (.slice sC23 (R++[m]).length cC23) (R++[m]).length (itP (R++[m]))∧WayI x w23 (obs p17++GG) (vs++[.slice p17 (ibs x m).length c17]) (R++[m])∧Mm w0 ((B2,row .u8 32 y)::(B1,row .u8 32 x)::((obs p17++GG)++(ba1++(gb++(obs sA19++(obs sB21++(obs sC23++([]:List (Nat × List Value)))))))) ) w23 from ⟨hSe2,hIa,hIb,V_A,V_B,V_C,Y2,M⟩)
      clear M hIa hIb V_A V_B V_C Y_ Y2 N_17 hSe hSe2 hmt hmp hul hub hus hE hB hpe; go_wp2
      go_roundw
      case rel=>exact ⟨q+1,_,(R++[m]),(obs p17++GG),(vs++[.slice p17 (ibs x m).length c17]),ba1,gb,sA19,sB21,sC23,cA19,cB21,cC23,by omega,by omega,by omega,by rw [hRl],by rw [hRl],by rw [hRl],by go_num,HS.out⟩
      case measure=>simp [intOf]; omega
  | false =>
    try clear hb1
    try clear hb2
    try clear hb3
    go_upto_region 22 with fail; refine wp_region_list ?_; refine xpL (.int .i64 0) ?_; refine xT ?_
    replace M:Mm w0 ((B2,row .u8 32 y)::(B1,row .u8 32 x)::((obs sC)++(GG++(ga++(gb++((obs sA)++((obs sB)++([]:List (Nat × List Value))))))))) wr:=(M.perm (pull5 ([(B2,row .u8 32 y),(B1,row .u8 32 x)]:List (Nat × List Value)) GG ga gb (obs sA) (obs sB) (obs sC) ([]:List (Nat × List Value)))).perm (pull0 ([(B2,row .u8 32 y),(B1,row .u8 32 x)]:List (Nat × List Value)) (obs sC) (GG++(ga++(gb++((obs sA)++((obs sB)++([]:List (Nat × List Value)))))))).symm
    replace M:Mm w0 ((B2,row .u8 32 y)::(B1,row .u8 32 x)::((obs sB)++((obs sC)++(GG++(ga++(gb++((obs sA)++([]:List (Nat × List Value))))))))) wr:=(M.perm (pull5 ([(B2,row .u8 32 y),(B1,row .u8 32 x)]:List (Nat × List Value)) (obs sC) GG ga gb (obs sA) (obs sB) ([]:List (Nat × List Value)))).perm (pull0 ([(B2,row .u8 32 y),(B1,row .u8 32 x)]:List (Nat × List Value)) (obs sB) ((obs sC)++(GG++(ga++(gb++((obs sA)++([]:List (Nat × List Value)))))))).symm
    replace M:Mm w0 ((B2,row .u8 32 y)::(B1,row .u8 32 x)::((obs sA)++((obs sB)++((obs sC)++(GG++(ga++(gb++([]:List (Nat × List Value))))))))) wr:=(M.perm (pull5 ([(B2,row .u8 32 y),(B1,row .u8 32 x)]:List (Nat × List Value)) (obs sB) (obs sC) GG ga gb (obs sA) ([]:List (Nat × List Value)))).perm (pull0 ([(B2,row .u8 32 y),(B1,row .u8 32 x)]:List (Nat × List Value)) (obs sA) ((obs sB)++((obs sC)++(GG++(ga++(gb++([]:List (Nat × List Value)))))))).symm
    replace M:Mm w0 ((B2,row .u8 32 y)::(B1,row .u8 32 x)::(gb++((obs sA)++((obs sB)++((obs sC)++(GG++(ga++([]:List (Nat × List Value))))))))) wr:=(M.perm (pull5 ([(B2,row .u8 32 y),(B1,row .u8 32 x)]:List (Nat × List Value)) (obs sA) (obs sB) (obs sC) GG ga gb ([]:List (Nat × List Value)))).perm (pull0 ([(B2,row .u8 32 y),(B1,row .u8 32 x)]:List (Nat × List Value)) gb ((obs sA)++((obs sB)++((obs sC)++(GG++(ga++([]:List (Nat × List Value)))))))).symm
    replace M:Mm w0 ((B2,row .u8 32 y)::(B1,row .u8 32 x)::(GG++(gb++((obs sA)++((obs sB)++((obs sC)++(ga++([]:List (Nat × List Value))))))))) wr:=(M.perm (pull4 ([(B2,row .u8 32 y),(B1,row .u8 32 x)]:List (Nat × List Value)) gb (obs sA) (obs sB) (obs sC) GG (ga++([]:List (Nat × List Value))))).perm (pull0 ([(B2,row .u8 32 y),(B1,row .u8 32 x)]:List (Nat × List Value)) GG (gb++((obs sA)++((obs sB)++((obs sC)++(ga++([]:List (Nat × List Value)))))))).symm
    replace M:Mm w0 ((B2,row .u8 32 y)::(B1,row .u8 32 x)::(ga++(GG++(gb++((obs sA)++((obs sB)++((obs sC)++([]:List (Nat × List Value))))))))) wr:=(M.perm (pull5 ([(B2,row .u8 32 y),(B1,row .u8 32 x)]:List (Nat × List Value)) GG gb (obs sA) (obs sB) (obs sC) ga ([]:List (Nat × List Value)))).perm (pull0 ([(B2,row .u8 32 y),(B1,row .u8 32 x)]:List (Nat × List Value)) ga (GG++(gb++((obs sA)++((obs sB)++((obs sC)++([]:List (Nat × List Value)))))))).symm
    replace M:Mm w0 ((B2,row .u8 32 y)::(B1,row .u8 32 x)::(GG++(gb++((obs sA)++((obs sB)++((obs sC)++([]:List (Nat × List Value)))))))) wr:=M.sub _ (List.cons_sublist_cons.2 (List.cons_sublist_cons.2 (List.sublist_append_right _ _)))
    have hOp:=OpenI.nil (R:=R) hx hy (fun m hm=>(hSe.all m hm).1) hSe.dif
    have HI:=show Hid _ from (show OpenI x (gat 1 y x 0 0) R∧I wr (.pointer (some ⟨Rb,0,none⟩)) (gat 1 y x 0 0) gb∧wr.ownsRow w0.heap.size 29 1 (.slice sA R.length cA) R.length (vs)∧wr.ownsRow w0.heap.size 9 1 (.slice sB R.length cB) R.length (itT R)∧wr.ownsRow w0.heap.size 3 1 (.slice sC R.length cC) R.length (itP R)∧WayI x wr GG vs R∧Mm w0 ((B2,row .u8 32 y)::(B1,row .u8 32 x)::(GG++(gb++(obs sA++(obs sB++(obs sC++([]:List (Nat × List Value))))))) ) wr from ⟨hOp,hIb,V_A,V_B,V_C,Y_,M⟩)
    have hR30:R.length≤30:=by omega
    clear M hIa hIb V_A V_B V_C Y_ hSe hOp; go_wp2
    go_loopw [10,11,12,18] (fun va vb vc i w'=>∃ (q:Nat) (h:Grd) (R:List Itm) (GG:List (Nat × List Value)) (vs:List Value) (gb:List (Nat × List Value)) (sA sB sC:Option Addr) (cA cB cC:Nat),q≤l.length∧R.length≤30∧va=.slice sA R.length cA∧vb=.slice sB R.length cB∧vc=.slice sC R.length cC∧i=.int .i64 (q:Int)∧OpenI x h R∧I w' (.pointer (some ⟨Rb,0,none⟩)) h gb∧w'.ownsRow w0.heap.size 29 1 (.slice sA R.length cA) R.length (vs)∧w'.ownsRow w0.heap.size 9 1 (.slice sB R.length cB) R.length (itT R)∧w'.ownsRow w0.heap.size 3 1 (.slice sC R.length cC) R.length (itP R)∧WayI x w' GG vs R∧Mm w0 ((B2,row .u8 32 y)::(B1,row .u8 32 x)::(GG++(gb++(obs sA++(obs sB++(obs sC++([]:List (Nat × List Value))))))) ) w') (fun _ _ _ i _=>l.length-(intOf i).toNat)
    case atStart=>exact ⟨0,_,R,GG,vs,_,_,_,_,_,_,_,by omega,hR30,rfl,rfl,rfl,rfl,HI.out⟩
    case round =>
     clear HI hR30 hRq hq hq2
     obtain ⟨q,h,R,GG,vs,gb,sA,sB,sC,cA,cB,cC,hq2,hR30,rfl,rfl,rfl,rfl,hOp,hIb,V_A,V_B,V_C,Y_,M⟩:=hrel
     go_upto_region 23 with fail; refine wp_region_list ?_; refine xpL (.int .i64 (q:Int)) ?_; refine xpL (.slice sp l.length cap) ?_; refine xaL (.int .i64 ((l.length:Nat):Int)) (lenS _ 24 31 sp l.length cap rfl Tryz.underlying24 rfl _) ?_
     obtain ⟨b4,hb4⟩:∃ y_,y_=(decide ((q:Int)<((l.length:Nat):Int))):=⟨_,rfl⟩
     refine xaL (.bool b4) (lssI .i64 _ _ _ _ _ _ rfl rfl rfl b4 hb4.symm _) ?_; refine xpL (.bool b4) ?_
     refine mayL (b4) (.slice sA R.length cA) ((bif b4 then (.slice sA R.length cA) else undef)) (by cases b4 <;> rfl) (by cases b4 <;> rfl) (fun hc=>by cases b4 <;> first | (cases hc; done) | kernel_rfl) ?_
     simp only [aP,lI,l0,lS]
     refine mayL (b4) (.int .i64 ((R.length:Nat):Int)) ((bif b4 then (.int .i64 ((R.length:Nat):Int)) else undef)) (by cases b4 <;> rfl) (by cases b4 <;> rfl) (fun hc=>by cases b4 <;> first | (cases hc; done) | exact (lenS _ 43 29 sA R.length cA rfl Tryz.underlying43 rfl _)) ?_
     simp only [aP,lI,l0,lS]
     obtain ⟨b5,hb5⟩:∃ y_,y_=(decide (((R.length:Nat):Int)>0)):=⟨_,rfl⟩
     refine mayL (b4) (.bool b5) ((bif b4 then (.bool b5) else undef)) (by cases b4 <;> rfl) (by cases b4 <;> rfl) (fun hc=>by cases b4 <;> first | (cases hc; done) | exact (gtrI .i64 _ _ _ _ _ _ rfl rfl rfl b5 hb5.symm _)) ?_
     simp only [aP,lI,l0,lS]
     obtain ⟨b6,hb6⟩:∃ y_,y_=(b4&&b5):=⟨_,rfl⟩
     refine xaL (.bool b6) (by subst hb6; cases b4 <;> rfl) ?_; refine xT ?_
     cases b6 with
     | true =>
       have hlt:q<l.length∧0<R.length:=by
        simp only [hb4,hb5] at hb6
        simp at hb6
        omega
       try clear hb4
       try clear hb5
       try clear hb6
       obtain ⟨hlt,hR0⟩:=hlt
       obtain ⟨vq,hvq⟩:∃ vq,l[q]?=some vq:=⟨_,List.getElem?_eq_getElem hlt⟩
       obtain ⟨ad,bp,bc,rfl,hoc,hov⟩:=hin q vq hvq
       have hkl:=kdn_lt vq.n R.length hR0
       obtain ⟨k,hkd⟩:∃ k:Nat,k=kdn vq.n R.length:=⟨_,rfl⟩
       rw [← hkd] at hkl
       have hk:k<R.length:=hkl
       obtain ⟨m,hm⟩:∃ m,R[k]?=some m:=⟨_,List.getElem?_eq_getElem hk⟩
       obtain ⟨sq,cq,hv,_,_,_,_⟩:=Y_.at_ k m hm
       obtain ⟨gA,rfl⟩:=row_some16 V_A hR0
       obtain ⟨gB,rfl⟩:=row_some16 V_B hR0
       obtain ⟨gC,rfl⟩:=row_some16 V_C hR0
       obtain ⟨_,_,e_,hcA,_⟩:=row_form16 V_A
       injection e_ with _ _ e_
       subst e_
       obtain ⟨_,_,e_,hcB,_⟩:=row_form16 V_B
       injection e_ with _ _ e_
       subst e_
       obtain ⟨_,_,e_,hcC,_⟩:=row_form16 V_C
       injection e_ with _ _ e_
       subst e_; have hmR:=List.mem_of_getElem? hm
       obtain ⟨ho1,ho2,ho3,ho4,ho5,ho6⟩:=hOp.ok hmR
       have hmw:=(hOp.all m hmR).1; have hil:=ibs_len x m; have hml:=hmw.l; go_upto_region 25 with fail; refine wp_region_list ?_; refine xpL (.slice (some ad) l.length cap) ?_; refine xpL (.int .i64 (q:Int)) ?_; refine readL (.pointer (some (ad.add (q*5)))) rfl (idxS16 24 31 5 _ _ ad q _ _ Tryz.underlying24 (fun _=>by kernel_rfl) hlt rfl rfl rfl _) ?_; simp only [aP,lI,l0,lS]
       refine xpL (.pointer (some ((ad.add (q*5)).add 3))) ?_; refine xaL (.int .i64 vq.n) (load1 3 _ ((ad.add (q*5)).add 3) _ rfl rfl (fun _=>by kernel_rfl) (cellS M.below (hoc 3 _ rfl))) ?_; refine xpL (.slice (some ⟨gA,0,none⟩) R.length cA) ?_; refine xaL (.int .i64 ((R.length:Nat):Int)) (lenS _ 43 29 (some ⟨gA,0,none⟩) R.length cA rfl Tryz.underlying43 rfl _) ?_
       refine xcL (kind16_any vq.n R.length hR0 hov.n_i _) ?_; rintro e w24 ⟨rfl,l⟩; replace M:=M.call l; replace hIb:=hK.bel hIb l; replace V_A:=ownsRow_bel V_A l; replace V_B:=ownsRow_bel V_B l; replace V_C:=ownsRow_bel V_C l; replace Y_:=WayI.bel Y_ l; clear l; refine xeL ?_
       rw [← hkd]
       refine xpL (.int .i64 ((k:Nat):Int)) ?_; refine xT ?_; go_upto_region 26 with fail; refine wp_region_list ?_; refine xpL (.pointer (some ⟨Rb,0,none⟩)) ?_; refine xpL (.slice (some ⟨gA,0,none⟩) R.length cA) ?_; refine xpL (.int .i64 ((k:Nat):Int)) ?_
       refine readL (.pointer (some ((⟨gA,0,none⟩:Addr).add (k*1)))) rfl (idxS16 43 29 1 _ _ ⟨gA,0,none⟩ k _ _ Tryz.underlying43 (fun _=>by kernel_rfl) hk rfl rfl rfl _) ?_; simp only [aP,lI,l0,lS]
       refine xaL (.slice sq ((ibs x m).length) cq) (load1 29 _ ((⟨gA,0,none⟩:Addr).add (k*1)) _ rfl rfl (fun _=>by kernel_rfl) (by have h_:=World.ownsRow.cells V_A (g:=gA) rfl _ _ (hv); rw [Nat.mul_one]; exact h_)) ?_
       have Mp:=M.perm (pull1 ([(B2,row .u8 32 y),(B1,row .u8 32 x)]:List (Nat × List Value)) GG gb ((obs (some ⟨gA,0,none⟩))++((obs (some ⟨gB,0,none⟩))++((obs (some ⟨gC,0,none⟩))++([]:List (Nat × List Value))))))
       have key:=hK.opn w0 _ _ h gb _ sq cq (ibs x m) hg hOp.w (gwl_ok (n:=30) hOp.len (by decide)) hIb (by omega) (Y_.get hm hv).1.1 (Y_.get hm hv).1.2 (ibs_byts x hmw) Mp (Y_.srcA hm hv Mp (fun p_ hp_=>by simp [hp_]))
       rw [ho1] at key
       rw [ho2] at key
       rw [ho3] at key
       rw [ho4] at key
       rw [ho5] at key
       refine xcL key ?_; clear key; rintro e w25 ⟨p25,c25,bb1,rfl,N_25,hI_,M',o1⟩; replace V_A:=ownsRow_away V_A o1 (Mp.awayS (fun p_ hp_=>by simp [hp_])); replace V_B:=ownsRow_away V_B o1 (Mp.awayS (fun p_ hp_=>by simp [hp_])); replace V_C:=ownsRow_away V_C o1 (Mp.awayS (fun p_ hp_=>by simp [hp_])); replace Y_:=WayI.off Y_ o1 (Mp.awayG (fun p_ hp_=>by simp [hp_]))
       clear o1 Mp M hIb; have hIb:=hI_; clear hI_
       have M:Mm w0 ((B2,row .u8 32 y)::(B1,row .u8 32 x)::(bb1++((obs p25)++(GG++((obs (some ⟨gA,0,none⟩))++((obs (some ⟨gB,0,none⟩))++((obs (some ⟨gC,0,none⟩))++([]:List (Nat × List Value))))))))) w25:=M'.perm (pullY ([(B2,row .u8 32 y),(B1,row .u8 32 x)]:List (Nat × List Value)) bb1 (obs p25) (GG++((obs (some ⟨gA,0,none⟩))++((obs (some ⟨gB,0,none⟩))++((obs (some ⟨gC,0,none⟩))++([]:List (Nat × List Value)))))))
       clear M'; refine xeL ?_; refine xpL (.tuple #[.int .i64 m.p,.int .i64 m.c,.slice p25 ((m.t).length) c25,.int .i64 0]) ?_; refine xpL (.int .i64 m.p) ?_; refine xpL (.int .i64 m.c) ?_; refine xpL (.slice p25 ((m.t).length) c25) ?_; refine xpL (.int .i64 0) ?_; refine xpL (.int .i64 m.p) ?_; refine xpL (.int .i64 m.c) ?_; refine xpL (.slice p25 ((m.t).length) c25) ?_
       refine xpL (.int .i64 0) ?_; refine xT ?_; go_upto_region 27 with fail; refine wp_region_list ?_; refine xpL (.pointer (some ⟨Rb,0,none⟩)) ?_; refine xpL (.slice (some ⟨gA,0,none⟩) R.length cA) ?_; refine xpL (.int .i64 ((k:Nat):Int)) ?_
       refine readL (.pointer (some ((⟨gA,0,none⟩:Addr).add (k*1)))) rfl (idxS16 43 29 1 _ _ ⟨gA,0,none⟩ k _ _ Tryz.underlying43 (fun _=>by kernel_rfl) hk rfl rfl rfl _) ?_; simp only [aP,lI,l0,lS]
       refine xaL (.slice sq ((ibs x m).length) cq) (load1 29 _ ((⟨gA,0,none⟩:Addr).add (k*1)) _ rfl rfl (fun _=>by kernel_rfl) (by have h_:=World.ownsRow.cells V_A (g:=gA) rfl _ _ (hv); rw [Nat.mul_one]; exact h_)) ?_
       have Mp:=M.perm (pull0 ([(B2,row .u8 32 y),(B1,row .u8 32 x)]:List (Nat × List Value)) bb1 ((obs p25)++(GG++((obs (some ⟨gA,0,none⟩))++((obs (some ⟨gB,0,none⟩))++((obs (some ⟨gC,0,none⟩))++([]:List (Nat × List Value))))))))
       have key:=hK.opn w0 _ _ (gmk h (irec x m)) bb1 _ sq cq (ibs x m) hg (hOp.w |> fun _=>ho5 ▸ gbN_w hOp.w (ibs x m)) (gwl_ok (n:=31) (ho5 ▸ gwl_opn (n:=30) hOp.len (ibs x m)) (by decide)) hIb (by omega) (Y_.get hm hv).1.1 (Y_.get hm hv).1.2 (ibs_byts x hmw) Mp (Y_.srcA hm hv Mp (fun p_ hp_=>by simp [hp_]))
       rw [(gb_err (h:=gmk h (irec x m)) (b:=ibs x m) (by rw [ho6]; decide)).1] at key
       rw [(gb_err (h:=gmk h (irec x m)) (b:=ibs x m) (by rw [ho6]; decide)).2.1] at key
       rw [(gb_err (h:=gmk h (irec x m)) (b:=ibs x m) (by rw [ho6]; decide)).2.2.1] at key
       rw [(gb_err (h:=gmk h (irec x m)) (b:=ibs x m) (by rw [ho6]; decide)).2.2.2] at key
       rw [ho6] at key
       refine xcL key ?_; clear key; rintro e w26 ⟨p26,c26,bb2,rfl,N_26,hI_,M',o1⟩; replace V_A:=ownsRow_away V_A o1 (Mp.awayS (fun p_ hp_=>by simp [hp_])); replace V_B:=ownsRow_away V_B o1 (Mp.awayS (fun p_ hp_=>by simp [hp_])); replace V_C:=ownsRow_away V_C o1 (Mp.awayS (fun p_ hp_=>by simp [hp_])); replace Y_:=WayI.off Y_ o1 (Mp.awayG (fun p_ hp_=>by simp [hp_]))
       replace N_25:=NewF.offB N_25 o1 (Mp.awayS (fun p_ hp_=>by simp [hp_])); clear o1 Mp M hIb; have hIb:=hI_; clear hI_
       have M:Mm w0 ((B2,row .u8 32 y)::(B1,row .u8 32 x)::(bb2++((obs p26)++((obs p25)++(GG++((obs (some ⟨gA,0,none⟩))++((obs (some ⟨gB,0,none⟩))++((obs (some ⟨gC,0,none⟩))++([]:List (Nat × List Value)))))))))) w26:=M'.perm (pullY ([(B2,row .u8 32 y),(B1,row .u8 32 x)]:List (Nat × List Value)) bb2 (obs p26) ((obs p25)++(GG++((obs (some ⟨gA,0,none⟩))++((obs (some ⟨gB,0,none⟩))++((obs (some ⟨gC,0,none⟩))++([]:List (Nat × List Value))))))))
       clear M'; refine xeL ?_; refine xpL (.tuple #[.int .i64 0,.int .i64 0,.slice p26 ((([]:List Int)).length) c26,.int .i64 140]) ?_; refine xpL (.int .i64 0) ?_; refine xpL (.int .i64 0) ?_; refine xpL (.slice p26 ((([]:List Int)).length) c26) ?_; refine xpL (.int .i64 140) ?_; refine xpL (.int .i64 0) ?_; refine xpL (.int .i64 0) ?_
       refine xpL (.slice p26 ((([]:List Int)).length) c26) ?_; refine xpL (.int .i64 140) ?_; refine xT ?_
       replace M:Mm w0 ((B2,row .u8 32 y)::(B1,row .u8 32 x)::(bb2++((obs p25)++(GG++((obs (some ⟨gA,0,none⟩))++((obs (some ⟨gB,0,none⟩))++((obs (some ⟨gC,0,none⟩))++([]:List (Nat × List Value))))))))) w26:=M.sub _ (List.cons_sublist_cons.2 (List.cons_sublist_cons.2 ((List.Sublist.refl _).append (List.sublist_append_right _ _))))
       clear N_26
       have hnn25:p25=none→m.t.length=0:=fun e_=>by have h1_:=NewF.nilCap N_25 e_; have h2_:=NewF.le N_25; omega
       go_upto_region 28 with fail
       refine wp_region_held_drew (S:=fun w'=>w'.ownsRow w0.heap.size 3 1 (.slice (some ⟨gC,0,none⟩) R.length cC) R.length (itP R)∧w'.ownsRow w0.heap.size 9 1 (.slice (some ⟨gB,0,none⟩) R.length cB) R.length (itT R)∧NewL w' _ m.t (.slice p25 m.t.length c25)) (by kernel_rfl) ⟨ownsRow_bel V_C (Below.refl _ _).drew,ownsRow_bel V_B (Below.refl _ _).drew,NewF.below N_25 (Below.refl _ _).drew⟩ ?_
       intro _; replace M:=M.drew; have hdr:=(Below.refl w26.heap.size w26).drew; replace hIb:=hK.bel hIb hdr; replace V_A:=ownsRow_bel V_A hdr; replace V_B:=ownsRow_bel V_B hdr; replace V_C:=ownsRow_bel V_C hdr; replace Y_:=WayI.bel Y_ hdr; replace N_25:=NewF.below N_25 hdr; clear hdr; generalize w26.drew=w27 at M hIb V_A V_B V_C Y_ N_25 ⊢
       refine xrH 0 137 rfl (.int .i64 0) (fun _ ⟨hVC,hVB,hNt⟩=>(by kernel_rfl)) ⟨V_C,V_B,N_25⟩ ?_; refine xrH 1 138 rfl (.bool false) (fun _ ⟨hVC,hVB,hNt⟩=>neqI .i64 _ _ _ _ _ _ rfl rfl rfl false (bne_self_eq_false _) _) ⟨V_C,V_B,N_25⟩ ?_; refine xrH 2 139 rfl (.bool false) (fun _ ⟨hVC,hVB,hNt⟩=>(by kernel_rfl)) ⟨V_C,V_B,N_25⟩ ?_
       refine xrH 3 140 rfl (.int .i64 m.p) (fun _ ⟨hVC,hVB,hNt⟩=>(by kernel_rfl)) ⟨V_C,V_B,N_25⟩ ?_; refine xrH 4 141 rfl (.slice (some ⟨gC,0,none⟩) R.length cC) (fun _ ⟨hVC,hVB,hNt⟩=>(by kernel_rfl)) ⟨V_C,V_B,N_25⟩ ?_; refine xrH 5 142 rfl (.int .i64 ((k:Nat):Int)) (fun _ ⟨hVC,hVB,hNt⟩=>(by kernel_rfl)) ⟨V_C,V_B,N_25⟩ ?_
       refine xrH 6 143 rfl (.pointer (some ((⟨gC,0,none⟩:Addr).add (k*1)))) (fun _ ⟨hVC,hVB,hNt⟩=>idxS16 45 3 1 _ _ ⟨gC,0,none⟩ k _ _ Tryz.underlying45 (fun _=>by kernel_rfl) hk rfl rfl rfl _) ⟨V_C,V_B,N_25⟩ ?_
       refine xrH 7 144 rfl (.int .i64 m.p) (fun _ ⟨hVC,hVB,hNt⟩=>load1 3 _ ((⟨gC,0,none⟩:Addr).add (k*1)) _ rfl rfl (fun _=>by kernel_rfl) (by have h_:=World.ownsRow.cells hVC (g:=gC) rfl _ _ (itP_at hm); rw [Nat.mul_one]; exact h_)) ⟨V_C,V_B,N_25⟩ ?_
       refine xrH 8 145 rfl (.bool false) (fun _ ⟨hVC,hVB,hNt⟩=>neqI .i64 _ _ _ _ _ _ rfl rfl rfl false (bne_self_eq_false _) _) ⟨V_C,V_B,N_25⟩ ?_; refine xrH 9 146 rfl (.bool false) (fun _ ⟨hVC,hVB,hNt⟩=>(by kernel_rfl)) ⟨V_C,V_B,N_25⟩ ?_; refine xrH 10 147 rfl (.bool false) (fun _ ⟨hVC,hVB,hNt⟩=>(by kernel_rfl)) ⟨V_C,V_B,N_25⟩ ?_
       refine xrH 11 148 rfl (.slice p25 ((m.t).length) c25) (fun _ ⟨hVC,hVB,hNt⟩=>(by kernel_rfl)) ⟨V_C,V_B,N_25⟩ ?_; refine xrH 12 149 rfl (.string (txt ((m.t).length) (bl m.t))) (fun _ ⟨hVC,hVB,hNt⟩=>conv_txt 29 5 9 _ rfl Tryz.underlying29 Tryz.underlying5 Tryz.underlying9 p25 ((m.t).length) c25 (bl m.t) rfl _ (NewF.src hNt) hnn25) ⟨V_C,V_B,N_25⟩ ?_
       refine xrH 13 150 rfl (.slice (some ⟨gB,0,none⟩) R.length cB) (fun _ ⟨hVC,hVB,hNt⟩=>(by kernel_rfl)) ⟨V_C,V_B,N_25⟩ ?_; refine xrH 14 151 rfl (.int .i64 ((k:Nat):Int)) (fun _ ⟨hVC,hVB,hNt⟩=>(by kernel_rfl)) ⟨V_C,V_B,N_25⟩ ?_
       refine xrH 15 152 rfl (.pointer (some ((⟨gB,0,none⟩:Addr).add (k*1)))) (fun _ ⟨hVC,hVB,hNt⟩=>idxS16 44 9 1 _ _ ⟨gB,0,none⟩ k _ _ Tryz.underlying44 (fun _=>by kernel_rfl) hk rfl rfl rfl _) ⟨V_C,V_B,N_25⟩ ?_
       refine xrH 16 153 rfl (.string (txt m.t.length (bl m.t))) (fun _ ⟨hVC,hVB,hNt⟩=>load1 9 _ ((⟨gB,0,none⟩:Addr).add (k*1)) _ rfl rfl (fun _=>by kernel_rfl) (by have h_:=World.ownsRow.cells hVB (g:=gB) rfl _ _ (itT_at hm); rw [Nat.mul_one]; exact h_)) ⟨V_C,V_B,N_25⟩ ?_
       refine xrH 17 154 rfl (.bool false) (fun _ ⟨hVC,hVB,hNt⟩=>neqT16 _ _ _ _ _ _ rfl rfl rfl rfl _) ⟨V_C,V_B,N_25⟩ ?_; refine xrH 18 155 rfl (.bool false) (fun _ ⟨hVC,hVB,hNt⟩=>(by kernel_rfl)) ⟨V_C,V_B,N_25⟩ ?_; refine xrH 19 156 rfl (.bool false) (fun _ ⟨hVC,hVB,hNt⟩=>(by kernel_rfl)) ⟨V_C,V_B,N_25⟩ ?_
       refine xrH 20 157 rfl (.int .i64 140) (fun _ ⟨hVC,hVB,hNt⟩=>(by kernel_rfl)) ⟨V_C,V_B,N_25⟩ ?_; refine xrH 21 158 rfl (.bool false) (fun _ ⟨hVC,hVB,hNt⟩=>neqI .i64 _ _ _ _ _ _ rfl rfl rfl false (bne_self_eq_false _) _) ⟨V_C,V_B,N_25⟩ ?_; refine xrH 22 159 rfl (.bool false) (fun _ ⟨hVC,hVB,hNt⟩=>(by kernel_rfl)) ⟨V_C,V_B,N_25⟩ ?_
       refine wpAnyH_done (by kernel_rfl) ?_ _
       first | show Exit.then _ _ _ _ _ | show Exit.inBlock _ _ _ _ _
       clear hnn25
       replace M:Mm w0 ((B2,row .u8 32 y)::(B1,row .u8 32 x)::(bb2++(GG++((obs (some ⟨gA,0,none⟩))++((obs (some ⟨gB,0,none⟩))++((obs (some ⟨gC,0,none⟩))++([]:List (Nat × List Value)))))))) w27:=M.sub _ (List.cons_sublist_cons.2 (List.cons_sublist_cons.2 ((List.Sublist.refl _).append (List.sublist_append_right _ _))))
       clear N_25
       have hkn:IntKind.i64.wrap ((k:Int)+1)=((k+1:Nat):Int):=by rw [xw6]; omega
       obtain ⟨ad1,hr1,ha1⟩:=cutHiR (P:=Tryz.prog) (t:=43) (by kernel_rfl) (fun _=>by kernel_rfl) gA R.length cA k (by omega) hcA
       obtain ⟨ad2,hr2,ha2⟩:=cutLoR (P:=Tryz.prog) (t:=43) (by kernel_rfl) (fun _=>by kernel_rfl) gA R.length cA (k+1) (by omega) hcA
       go_upto_region 30 with fail; refine wp_region_held_drew (S:=fun _=>True) (by kernel_rfl) trivial ?_; intro _; replace M:=M.drew; have hdr:=(Below.refl w27.heap.size w27).drew; replace hIb:=hK.bel hIb hdr; replace V_A:=ownsRow_bel V_A hdr; replace V_B:=ownsRow_bel V_B hdr; replace V_C:=ownsRow_bel V_C hdr; replace Y_:=WayI.bel Y_ hdr; clear hdr
       generalize w27.drew=w28 at M hIb V_A V_B V_C Y_ ⊢; refine xrH 1 161 rfl (.slice (some ⟨gA,0,none⟩) R.length cA) (fun _ _=>(by kernel_rfl)) trivial ?_; refine xrH 2 162 rfl (.int .i64 ((k:Nat):Int)) (fun _ _=>(by kernel_rfl)) trivial ?_; refine xrH 3 163 rfl (.slice (some ad1) k cA) (fun _ _=>cutHi _ _ _ _ _ _ rfl rfl rfl (hr1 _)) trivial ?_
       refine xrH 5 165 rfl (.slice (some ⟨gA,0,none⟩) R.length cA) (fun _ _=>(by kernel_rfl)) trivial ?_; refine xrH 6 166 rfl (.int .i64 ((k:Nat):Int)) (fun _ _=>(by kernel_rfl)) trivial ?_; refine xrH 7 167 rfl (.int .i64 ((k+1:Nat):Int)) (fun _ _=>addI .i64 _ _ _ _ _ _ _ rfl rfl rfl hkn _) trivial ?_
       refine xrH 8 168 rfl (.slice (some ad2) (R.length-(k+1)) (cA-(k+1))) (fun _ _=>cutOp _ _ _ _ _ _ rfl rfl rfl (hr2 _)) trivial ?_; have V0:=World.ownsRow_lit (base:=w28.heap.size) (e:=29) (size:=1) w28 #[] 0 (xnR _) (Nat.zero_le _) rfl; have hbl:=(Below.refl w28.heap.size w28).alloc (xnR _) (.cells #[] 29)
       refine onlyH (i:=0) (w':=w28.alloc (.cells #[] 29)) (some 160) rfl (.slice (some ⟨w28.heap.size,0,none⟩) 0 0) (by kernel_rfl) rfl rfl (by kernel_rfl) trivial ?_; simp only [aP,lI,l0,lS]; generalize w28.alloc (.cells #[] 29)=wz0 at V0 hbl ⊢; generalize (some ⟨w28.heap.size,0,none⟩:Option Addr)=sz0 at V0 ⊢
       obtain ⟨v1,wz1,hra,V1,hgr,-⟩:=run_append_OwnV (P:=Tryz.prog) (ty:=43) Tryz.underlying43 manyA rfl (by decide) V0 ad1 k cA (vs.take k) (by rw [List.length_take,Nat.mul_one,(Y_.len)]; omega) (row_take (ownsRow_bel V_A hbl) ha1) (one_take Y_.one k) (by unfold maxLen; omega) (by omega) hbl.size
       have hbl1:=Below.grown hbl hgr hbl.size (fun b_ hb_=>(World.ownsRow.lt V0 b_ hb_).1); refine onlyH (i:=4) (w':=wz1) (some 164) rfl v1 (by kernel_rfl) rfl rfl (appendOp _ _ 43 _ _ _ rfl rfl rfl hra) trivial ?_; simp only [aP,lI,l0,lS]; clear hra hgr V0 hbl
       obtain ⟨sz1,cz1,rfl,_,_⟩:=row_form16 V1
       obtain ⟨v2,wz2,hra,V2,hgr,-⟩:=run_append_OwnV (P:=Tryz.prog) (ty:=43) Tryz.underlying43 manyA rfl (by decide) V1 ad2 (R.length-(k+1)) (cA-(k+1)) (vs.drop (k+1)) (by rw [List.length_drop,Nat.mul_one,(Y_.len)]) (row_drop (ownsRow_bel V_A hbl1) (Y_.len) hcA ha2) (one_drop Y_.one (k+1)) (by unfold maxLen; omega) (by omega) hbl1.size
       have hbl2:=Below.grown hbl1 hgr hbl1.size (fun b_ hb_=>(World.ownsRow.lt V1 b_ hb_).1); refine onlyH (i:=9) (w':=wz2) (some 169) rfl v2 (by kernel_rfl) rfl rfl (appendOp _ _ 43 _ _ _ rfl rfl rfl hra) trivial ?_; simp only [aP,lI,l0,lS]; clear hra hgr V1 hbl1
       obtain ⟨sA9,cA9,rfl,_,_⟩:=row_form16 V2
       have M':=M.rowNew hbl2 V2
       replace V2:=World.ownsRow.mono V2 M.below.size; replace hIb:=hK.bel hIb hbl2; replace V_B:=ownsRow_bel V_B hbl2; replace V_C:=ownsRow_bel V_C hbl2; replace Y_:=WayI.bel Y_ hbl2
       have M2:=M'.sub (obs sA9++((B2,row .u8 32 y)::(B1,row .u8 32 x)::(bb2++(GG++((obs (some ⟨gB,0,none⟩))++((obs (some ⟨gC,0,none⟩))++([]:List (Nat × List Value)))))))) ((List.Sublist.refl _).append (List.cons_sublist_cons.2 (List.cons_sublist_cons.2 ((List.Sublist.refl _).append ((List.Sublist.refl _).append (List.sublist_append_right _ _)))))); clear M M' V_A hbl2
       have V_A:wz2.ownsRow w0.heap.size 29 1 (.slice sA9 (0+k+(R.length-(k+1))) cA9) (0+k+(R.length-(k+1))) (vs.take k++vs.drop (k+1)):=V2
       clear V2
       have M:Mm w0 ((B2,row .u8 32 y)::(B1,row .u8 32 x)::((obs sA9)++(bb2++(GG++((obs (some ⟨gB,0,none⟩))++((obs (some ⟨gC,0,none⟩))++([]:List (Nat × List Value)))))))) wz2:=M2.perm (pull0 ([(B2,row .u8 32 y),(B1,row .u8 32 x)]:List (Nat × List Value)) (obs sA9) (bb2++(GG++((obs (some ⟨gB,0,none⟩))++((obs (some ⟨gC,0,none⟩))++([]:List (Nat × List Value))))))).symm
       clear M2; generalize wz2=w30 at M V_A hIb V_B V_C Y_ ⊢; refine xrH 10 10 rfl (.slice sA9 (0+k+(R.length-(k+1))) cA9) (fun _ _=>(by kernel_rfl)) trivial ?_
       refine wpAnyH_done (by kernel_rfl) ?_ _
       first | show Exit.then _ _ _ _ _ | show Exit.inBlock _ _ _ _ _
       obtain ⟨ad1,hr1,ha1⟩:=cutHiR (P:=Tryz.prog) (t:=44) (by kernel_rfl) (fun _=>by kernel_rfl) gB R.length cB k (by omega) hcB
       obtain ⟨ad2,hr2,ha2⟩:=cutLoR (P:=Tryz.prog) (t:=44) (by kernel_rfl) (fun _=>by kernel_rfl) gB R.length cB (k+1) (by omega) hcB
       go_upto_region 31 with fail; refine wp_region_held_drew (S:=fun _=>True) (by kernel_rfl) trivial ?_; intro _; replace M:=M.drew; have hdr:=(Below.refl w30.heap.size w30).drew; replace hIb:=hK.bel hIb hdr; replace V_B:=ownsRow_bel V_B hdr; replace V_C:=ownsRow_bel V_C hdr; replace Y_:=WayI.bel Y_ hdr; replace V_A:=ownsRow_bel V_A hdr; clear hdr
       generalize w30.drew=w31 at M hIb V_B V_C Y_ V_A ⊢; refine xrH 1 171 rfl (.slice (some ⟨gB,0,none⟩) R.length cB) (fun _ _=>(by kernel_rfl)) trivial ?_; refine xrH 2 172 rfl (.int .i64 ((k:Nat):Int)) (fun _ _=>(by kernel_rfl)) trivial ?_; refine xrH 3 173 rfl (.slice (some ad1) k cB) (fun _ _=>cutHi _ _ _ _ _ _ rfl rfl rfl (hr1 _)) trivial ?_
       refine xrH 5 175 rfl (.slice (some ⟨gB,0,none⟩) R.length cB) (fun _ _=>(by kernel_rfl)) trivial ?_; refine xrH 6 176 rfl (.int .i64 ((k:Nat):Int)) (fun _ _=>(by kernel_rfl)) trivial ?_; refine xrH 7 177 rfl (.int .i64 ((k+1:Nat):Int)) (fun _ _=>addI .i64 _ _ _ _ _ _ _ rfl rfl rfl hkn _) trivial ?_
       refine xrH 8 178 rfl (.slice (some ad2) (R.length-(k+1)) (cB-(k+1))) (fun _ _=>cutOp _ _ _ _ _ _ rfl rfl rfl (hr2 _)) trivial ?_; have V0:=World.ownsRow_lit (base:=w31.heap.size) (e:=9) (size:=1) w31 #[] 0 (xnR _) (Nat.zero_le _) rfl; have hbl:=(Below.refl w31.heap.size w31).alloc (xnR _) (.cells #[] 9)
       refine onlyH (i:=0) (w':=w31.alloc (.cells #[] 9)) (some 170) rfl (.slice (some ⟨w31.heap.size,0,none⟩) 0 0) (by kernel_rfl) rfl rfl (by kernel_rfl) trivial ?_; simp only [aP,lI,l0,lS]; generalize w31.alloc (.cells #[] 9)=wz0 at V0 hbl ⊢; generalize (some ⟨w31.heap.size,0,none⟩:Option Addr)=sz0 at V0 ⊢
       obtain ⟨v1,wz1,hra,V1,hgr,-⟩:=run_append_OwnV (P:=Tryz.prog) (ty:=44) Tryz.underlying44 manyB rfl (by decide) V0 ad1 k cB ((itT R).take k) (by rw [List.length_take,Nat.mul_one,(itT_len R)]; omega) (row_take (ownsRow_bel V_B hbl) ha1) (one_take (itT_one R) k) (by unfold maxLen; omega) (by omega) hbl.size
       have hbl1:=Below.grown hbl hgr hbl.size (fun b_ hb_=>(World.ownsRow.lt V0 b_ hb_).1); refine onlyH (i:=4) (w':=wz1) (some 174) rfl v1 (by kernel_rfl) rfl rfl (appendOp _ _ 44 _ _ _ rfl rfl rfl hra) trivial ?_; simp only [aP,lI,l0,lS]; clear hra hgr V0 hbl
       obtain ⟨sz1,cz1,rfl,_,_⟩:=row_form16 V1
       obtain ⟨v2,wz2,hra,V2,hgr,-⟩:=run_append_OwnV (P:=Tryz.prog) (ty:=44) Tryz.underlying44 manyB rfl (by decide) V1 ad2 (R.length-(k+1)) (cB-(k+1)) ((itT R).drop (k+1)) (by rw [List.length_drop,Nat.mul_one,(itT_len R)]) (row_drop (ownsRow_bel V_B hbl1) (itT_len R) hcB ha2) (one_drop (itT_one R) (k+1)) (by unfold maxLen; omega) (by omega) hbl1.size
       have hbl2:=Below.grown hbl1 hgr hbl1.size (fun b_ hb_=>(World.ownsRow.lt V1 b_ hb_).1); refine onlyH (i:=9) (w':=wz2) (some 179) rfl v2 (by kernel_rfl) rfl rfl (appendOp _ _ 44 _ _ _ rfl rfl rfl hra) trivial ?_; simp only [aP,lI,l0,lS]; clear hra hgr V1 hbl1
       obtain ⟨sB9,cB9,rfl,_,_⟩:=row_form16 V2
       have M':=M.rowNew hbl2 V2
       replace V2:=World.ownsRow.mono V2 M.below.size; replace hIb:=hK.bel hIb hbl2; replace V_C:=ownsRow_bel V_C hbl2; replace Y_:=WayI.bel Y_ hbl2; replace V_A:=ownsRow_bel V_A hbl2
       have M2:=M'.sub (obs sB9++((B2,row .u8 32 y)::(B1,row .u8 32 x)::((obs sA9)++(bb2++(GG++((obs (some ⟨gC,0,none⟩))++([]:List (Nat × List Value)))))))) ((List.Sublist.refl _).append (List.cons_sublist_cons.2 (List.cons_sublist_cons.2 ((List.Sublist.refl _).append ((List.Sublist.refl _).append ((List.Sublist.refl _).append (List.sublist_append_right _ _)))))))
       clear M M' V_B hbl2
       have V_B:wz2.ownsRow w0.heap.size 9 1 (.slice sB9 (0+k+(R.length-(k+1))) cB9) (0+k+(R.length-(k+1))) ((itT R).take k++(itT R).drop (k+1)):=V2
       clear V2
       have M:Mm w0 ((B2,row .u8 32 y)::(B1,row .u8 32 x)::((obs sB9)++((obs sA9)++(bb2++(GG++((obs (some ⟨gC,0,none⟩))++([]:List (Nat × List Value)))))))) wz2:=M2.perm (pull0 ([(B2,row .u8 32 y),(B1,row .u8 32 x)]:List (Nat × List Value)) (obs sB9) ((obs sA9)++(bb2++(GG++((obs (some ⟨gC,0,none⟩))++([]:List (Nat × List Value))))))).symm
       clear M2; generalize wz2=w33 at M V_B hIb V_C Y_ V_A ⊢; refine xrH 10 11 rfl (.slice sB9 (0+k+(R.length-(k+1))) cB9) (fun _ _=>(by kernel_rfl)) trivial ?_
       refine wpAnyH_done (by kernel_rfl) ?_ _
       first | show Exit.then _ _ _ _ _ | show Exit.inBlock _ _ _ _ _
       obtain ⟨ad1,hr1,ha1⟩:=cutHiR (P:=Tryz.prog) (t:=45) (by kernel_rfl) (fun _=>by kernel_rfl) gC R.length cC k (by omega) hcC
       obtain ⟨ad2,hr2,ha2⟩:=cutLoR (P:=Tryz.prog) (t:=45) (by kernel_rfl) (fun _=>by kernel_rfl) gC R.length cC (k+1) (by omega) hcC
       go_upto_region 32 with fail; refine wp_region_held_drew (S:=fun _=>True) (by kernel_rfl) trivial ?_; intro _; replace M:=M.drew; have hdr:=(Below.refl w33.heap.size w33).drew; replace hIb:=hK.bel hIb hdr; replace V_C:=ownsRow_bel V_C hdr; replace Y_:=WayI.bel Y_ hdr; replace V_A:=ownsRow_bel V_A hdr; replace V_B:=ownsRow_bel V_B hdr; clear hdr
       generalize w33.drew=w34 at M hIb V_C Y_ V_A V_B ⊢; refine xrH 1 181 rfl (.slice (some ⟨gC,0,none⟩) R.length cC) (fun _ _=>(by kernel_rfl)) trivial ?_; refine xrH 2 182 rfl (.int .i64 ((k:Nat):Int)) (fun _ _=>(by kernel_rfl)) trivial ?_; refine xrH 3 183 rfl (.slice (some ad1) k cC) (fun _ _=>cutHi _ _ _ _ _ _ rfl rfl rfl (hr1 _)) trivial ?_
       refine xrH 5 185 rfl (.slice (some ⟨gC,0,none⟩) R.length cC) (fun _ _=>(by kernel_rfl)) trivial ?_; refine xrH 6 186 rfl (.int .i64 ((k:Nat):Int)) (fun _ _=>(by kernel_rfl)) trivial ?_; refine xrH 7 187 rfl (.int .i64 ((k+1:Nat):Int)) (fun _ _=>addI .i64 _ _ _ _ _ _ _ rfl rfl rfl hkn _) trivial ?_
       refine xrH 8 188 rfl (.slice (some ad2) (R.length-(k+1)) (cC-(k+1))) (fun _ _=>cutOp _ _ _ _ _ _ rfl rfl rfl (hr2 _)) trivial ?_; have V0:=World.ownsRow_lit (base:=w34.heap.size) (e:=3) (size:=1) w34 #[] 0 (xnR _) (Nat.zero_le _) rfl; have hbl:=(Below.refl w34.heap.size w34).alloc (xnR _) (.cells #[] 3)
       refine onlyH (i:=0) (w':=w34.alloc (.cells #[] 3)) (some 180) rfl (.slice (some ⟨w34.heap.size,0,none⟩) 0 0) (by kernel_rfl) rfl rfl (by kernel_rfl) trivial ?_; simp only [aP,lI,l0,lS]; generalize w34.alloc (.cells #[] 3)=wz0 at V0 hbl ⊢; generalize (some ⟨w34.heap.size,0,none⟩:Option Addr)=sz0 at V0 ⊢
       obtain ⟨v1,wz1,hra,V1,hgr,-⟩:=run_append_OwnV (P:=Tryz.prog) (ty:=45) Tryz.underlying45 manyC rfl (by decide) V0 ad1 k cC ((itP R).take k) (by rw [List.length_take,Nat.mul_one,(itP_len R)]; omega) (row_take (ownsRow_bel V_C hbl) ha1) (one_take (itP_one R) k) (by unfold maxLen; omega) (by omega) hbl.size
       have hbl1:=Below.grown hbl hgr hbl.size (fun b_ hb_=>(World.ownsRow.lt V0 b_ hb_).1); refine onlyH (i:=4) (w':=wz1) (some 184) rfl v1 (by kernel_rfl) rfl rfl (appendOp _ _ 45 _ _ _ rfl rfl rfl hra) trivial ?_; simp only [aP,lI,l0,lS]; clear hra hgr V0 hbl
       obtain ⟨sz1,cz1,rfl,_,_⟩:=row_form16 V1
       obtain ⟨v2,wz2,hra,V2,hgr,-⟩:=run_append_OwnV (P:=Tryz.prog) (ty:=45) Tryz.underlying45 manyC rfl (by decide) V1 ad2 (R.length-(k+1)) (cC-(k+1)) ((itP R).drop (k+1)) (by rw [List.length_drop,Nat.mul_one,(itP_len R)]) (row_drop (ownsRow_bel V_C hbl1) (itP_len R) hcC ha2) (one_drop (itP_one R) (k+1)) (by unfold maxLen; omega) (by omega) hbl1.size
       have hbl2:=Below.grown hbl1 hgr hbl1.size (fun b_ hb_=>(World.ownsRow.lt V1 b_ hb_).1); refine onlyH (i:=9) (w':=wz2) (some 189) rfl v2 (by kernel_rfl) rfl rfl (appendOp _ _ 45 _ _ _ rfl rfl rfl hra) trivial ?_; simp only [aP,lI,l0,lS]; clear hra hgr V1 hbl1
       obtain ⟨sC9,cC9,rfl,_,_⟩:=row_form16 V2
       have M':=M.rowNew hbl2 V2
       replace V2:=World.ownsRow.mono V2 M.below.size; replace hIb:=hK.bel hIb hbl2; replace Y_:=WayI.bel Y_ hbl2; replace V_A:=ownsRow_bel V_A hbl2; replace V_B:=ownsRow_bel V_B hbl2
       have M2:=M'.sub (obs sC9++((B2,row .u8 32 y)::(B1,row .u8 32 x)::((obs sB9)++((obs sA9)++(bb2++(GG++([]:List (Nat × List Value)))))))) ((List.Sublist.refl _).append (List.cons_sublist_cons.2 (List.cons_sublist_cons.2 ((List.Sublist.refl _).append ((List.Sublist.refl _).append ((List.Sublist.refl _).append ((List.Sublist.refl _).append (List.sublist_append_right _ _))))))))
       clear M M' V_C hbl2
       have V_C:wz2.ownsRow w0.heap.size 3 1 (.slice sC9 (0+k+(R.length-(k+1))) cC9) (0+k+(R.length-(k+1))) ((itP R).take k++(itP R).drop (k+1)):=V2
       clear V2
       have M:Mm w0 ((B2,row .u8 32 y)::(B1,row .u8 32 x)::((obs sC9)++((obs sB9)++((obs sA9)++(bb2++(GG++([]:List (Nat × List Value)))))))) wz2:=M2.perm (pull0 ([(B2,row .u8 32 y),(B1,row .u8 32 x)]:List (Nat × List Value)) (obs sC9) ((obs sB9)++((obs sA9)++(bb2++(GG++([]:List (Nat × List Value))))))).symm
       clear M2; generalize wz2=w36 at M V_C hIb Y_ V_A V_B ⊢; refine xrH 10 12 rfl (.slice sC9 (0+k+(R.length-(k+1))) cC9) (fun _ _=>(by kernel_rfl)) trivial ?_
       refine wpAnyH_done (by kernel_rfl) ?_ _
       first | show Exit.then _ _ _ _ _ | show Exit.inBlock _ _ _ _ _
       replace M:Mm w0 ((B2,row .u8 32 y)::(B1,row .u8 32 x)::((obs sB9)++((obs sC9)++((obs sA9)++(bb2++(GG++([]:List (Nat × List Value)))))))) w36:=(M.perm (pull1 ([(B2,row .u8 32 y),(B1,row .u8 32 x)]:List (Nat × List Value)) (obs sC9) (obs sB9) ((obs sA9)++(bb2++(GG++([]:List (Nat × List Value))))))).perm (pull0 ([(B2,row .u8 32 y),(B1,row .u8 32 x)]:List (Nat × List Value)) (obs sB9) ((obs sC9)++((obs sA9)++(bb2++(GG++([]:List (Nat × List Value))))))).symm
       replace M:Mm w0 ((B2,row .u8 32 y)::(B1,row .u8 32 x)::((obs sA9)++((obs sB9)++((obs sC9)++(bb2++(GG++([]:List (Nat × List Value)))))))) w36:=(M.perm (pull2 ([(B2,row .u8 32 y),(B1,row .u8 32 x)]:List (Nat × List Value)) (obs sB9) (obs sC9) (obs sA9) (bb2++(GG++([]:List (Nat × List Value)))))).perm (pull0 ([(B2,row .u8 32 y),(B1,row .u8 32 x)]:List (Nat × List Value)) (obs sA9) ((obs sB9)++((obs sC9)++(bb2++(GG++([]:List (Nat × List Value))))))).symm
       replace M:Mm w0 ((B2,row .u8 32 y)::(B1,row .u8 32 x)::(bb2++((obs sA9)++((obs sB9)++((obs sC9)++(GG++([]:List (Nat × List Value)))))))) w36:=(M.perm (pull3 ([(B2,row .u8 32 y),(B1,row .u8 32 x)]:List (Nat × List Value)) (obs sA9) (obs sB9) (obs sC9) bb2 (GG++([]:List (Nat × List Value))))).perm (pull0 ([(B2,row .u8 32 y),(B1,row .u8 32 x)]:List (Nat × List Value)) bb2 ((obs sA9)++((obs sB9)++((obs sC9)++(GG++([]:List (Nat × List Value))))))).symm
       replace M:Mm w0 ((B2,row .u8 32 y)::(B1,row .u8 32 x)::(GG++(bb2++((obs sA9)++((obs sB9)++((obs sC9)++([]:List (Nat × List Value)))))))) w36:=(M.perm (pull4 ([(B2,row .u8 32 y),(B1,row .u8 32 x)]:List (Nat × List Value)) bb2 (obs sA9) (obs sB9) (obs sC9) GG ([]:List (Nat × List Value)))).perm (pull0 ([(B2,row .u8 32 y),(B1,row .u8 32 x)]:List (Nat × List Value)) GG (bb2++((obs sA9)++((obs sB9)++((obs sC9)++([]:List (Nat × List Value))))))).symm
       have hRl:(R.take k++R.drop (k+1)).length=0+k+(R.length-(k+1)):=by simp only [List.length_append,List.length_take,List.length_drop]; omega
       have hOn:=OpenI.next (x:=x) (h:=h) (A:=R.take k) (m:=m) (B:=R.drop (k+1)) (by rw [← del_split hm]; exact hOp); have Y2:=Y_.del hk
       replace V_A:w36.ownsRow w0.heap.size 29 1 (.slice sA9 (R.take k++R.drop (k+1)).length cA9) (R.take k++R.drop (k+1)).length ((vs.take k++vs.drop (k+1))):=by rw [hRl]; exact V_A
       replace V_B:w36.ownsRow w0.heap.size 9 1 (.slice sB9 (R.take k++R.drop (k+1)).length cB9) (R.take k++R.drop (k+1)).length (itT (R.take k++R.drop (k+1))):=by rw [hRl,itT_del]; exact V_B
       replace V_C:w36.ownsRow w0.heap.size 3 1 (.slice sC9 (R.take k++R.drop (k+1)).length cC9) (R.take k++R.drop (k+1)).length (itP (R.take k++R.drop (k+1))):=by rw [hRl,itP_del]; exact V_C
       have HS:=show Hid _ from (show OpenI x (gmk h (irec x m)) (R.take k++R.drop (k+1))∧I w36 (.pointer (some ⟨Rb,0,none⟩)) (gmk h (irec x m)) bb2∧w36.ownsRow w0.heap.size 29 1 (.slice sA9 (R.take k++R.drop (k+1)).length cA9) (R.take k++R.drop (k+1)).length ((vs.take k++vs.drop (k+1)))∧w36.ownsRow w0.heap.size 9 1 (.slice sB9 (R.take k++R.drop (k+1)).length cB9) (R.take k++R.drop (k+1)).length (itT (R.take k++R.drop (k+1)))∧w36.ownsRow w0.heap.size 3 1 (.slice sC9 (R.take k++R.drop (k+1)).length cC9) (R.take k++R.drop (k+1)).length (itP (R.take k++R.drop (k+1)))∧WayI x w36 GG (vs.take k++vs.drop (k+1)) (R.take k++R.drop (k+1))∧Mm w0 ((B2,row .u8 32 y)::(B1,row .u8 32 x)::(GG++(bb2++(obs sA9++(obs sB9++(obs sC9++([]:List (Nat × List Value))))))) ) w36 from ⟨hOn,hIb,V_A,V_B,V_C,Y2,M⟩)
       clear M hIb V_A V_B V_C Y_ Y2 hOp hOn ho1 ho2 ho3 ho4 ho5 ho6 hkn hkd hkl; go_wp2
       go_roundw
       case rel=>exact ⟨q+1,_,(R.take k++R.drop (k+1)),GG,(vs.take k++vs.drop (k+1)),bb2,sA9,sB9,sC9,cA9,cB9,cC9,by omega,by omega,by rw [hRl],by rw [hRl],by rw [hRl],by go_num,HS.out⟩
       case measure=>simp [intOf]; omega
     | false =>
       try clear hb4
       try clear hb5
       try clear hb6
       go_upto_region 33 with fail; refine wp_region_list ?_; refine xpL (.bool true) ?_; refine xT ?_; have hbel:=M.below; clear M hIb V_A V_B V_C Y_; go_wp2; go_ret
       exact ⟨rfl,hbel⟩
end Go.Proofs.YtknodedhcdpbiaaGreatDoor
