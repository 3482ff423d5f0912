/- Texts of Ob Oc Od Fa Ga Gm Nw Gl Pd Id Bg Xb Gb Gd Kd Fq Pc Ge, joined. -/
import Derived.Test.YtknodedhcdpbiaaGreatDoorP3GuardEnds
import Derived.Deep.CutBlock
import Derived.Deep.DeepCutAuto
set_option maxRecDepth 20000
set_option maxHeartbeats 64000000
namespace Go.Proofs.YtknodedhcdpbiaaGreatDoor
open Go.RowKit
theorem Mm.there {w0 w:World} {l:List (Nat × List Value)} (h:Mm w0 l w) {b:Nat} {cs:List Value} (hp:(b,cs)∈l) (n:Nat) (hn:n=cs.length):w.there b 0 n:=fun j hj=>by
 rw [Nat.zero_add]
 exact ⟨h.isSome hp j (by omega),h.free hp j (by omega)⟩
theorem Mm.setAll {w0 w:World} {l:List (Nat × List Value)} {b:Nat} {cs:List Value} (h:Mm w0 ((b,cs)::l) w) (ds:List Value) (hd:ds.length=cs.length):Mm w0 ((b,ds)::l) (w.setCells b 0 ds):=by
 have hb:=h.rows _ mS; have hne:=(List.pairwise_cons.1 h.apart).1
 have hall:∀ j,j<ds.length→(w.cell? ⟨b,0+j,none⟩).isSome=true:=fun j hj=>by rw [Nat.zero_add]; exact h.isSome mS j (by omega)
 refine ⟨fun p hp=>?_,List.pairwise_cons.2 ⟨hne,(List.pairwise_cons.1 h.apart).2⟩,below_setAll h.below b hb.2.1 0 ds⟩
 rcases xc1 hp with rfl | hp
 · refine ⟨fun j hj=>⟨?_,by rw [World.frozen?_setCells]; exact (hb.1 j (by have hj':j<ds.length:=hj; show j<cs.length; omega)).2⟩,hb.2.1,by rw [size_setAll]; exact hb.2.2⟩
   simp only at hj ⊢
   have e:=World.cell?_setCells_in b ds 0 w hall j hj
   rw [Nat.zero_add] at e
   rw [e,List.getElem?_eq_getElem hj]
 · have h2:=h.rows p (mT _ hp)
   refine ⟨fun j hj=>⟨?_,by rw [World.frozen?_setCells]; exact (h2.1 j hj).2⟩,h2.2.1,by rw [size_setAll]; exact h2.2.2⟩
   rw [World.cell?_setCells_out b ds 0 w ⟨p.1,j,none⟩ (fun e _=>absurd e.symm (hne p hp))]
   exact (h2.1 j hj).1
theorem Off.setAll {X:List Nat} {w w1:World} (h:Off X w w1) {b:Nat} (hb:b∈X):∀ (o:Nat) (vs:List Value),Off X w (w1.setCells b o vs)
 | _,[]=>h
 | o,v::vs=>(h.set hb o v).setAll hb (o+1) vs
theorem Src.at {w:World} {ad:Addr} {n:Nat} {z:Nat→Int} (h:Src w (some ad) n z) (j:Nat) (hj:j<n):w.cell? (ad.add j)=some (.int .u8 (z j)):=by
 obtain ⟨ad',e,hc⟩:=h j hj
 injection e with e
 subst e
 exact hc
theorem cut_loA {P:Program} {t:TypeId} (ht:P.underlying t=some (.slice (P.elem t))) (hsz:∀ w,(sizeOf (P.elem t)).run P w=.ok 1 w) (sp:Option Addr) (len cap m:Nat) (hm:m≤len) (hc:len≤cap) (hn:sp=none→cap=0) :
 ∃ sp',(∀ w,(Instr.sliceAt t (.slice sp len cap) (some (.int .i64 (m:Int))) none none).run P w=.ok (.slice sp' (len-m) (cap-m)) w)∧(∀ X w z,SrcA X w sp len z→SrcA X w sp' (len-m) (fun j=>z (m+j)))∧(sp'=none→cap-m=0):=by
 refine ⟨if cap=m then sp else sp.map (·.add (m*1)),fun w=>?_,fun X w z h=>⟨fun j hj=>?_,fun ad e hp=>?_⟩,fun e=>?_⟩
 · rw [run_sliceAt_slice w t _ _ _ _ ht,run_slice_l w t sp len cap ht .i64 (m:Int) (by omega) (by omega),hsz]
   simp only [Result.andThen,sliced,Int.toNat_natCast]
 · obtain ⟨ad,rfl,hc'⟩:=h.1 (m+j) (by omega)
   rw [if_neg (by omega)]
   exact ⟨ad.add (m*1),rfl,by rw [Nat.mul_one,Addr.add_add]; exact hc'⟩
 · rw [if_neg (by omega)] at e
   cases sp with
   | none=>cases e
   | some a =>
     injection e with e
     subst e
     rw [add_block]
     exact h.2 a rfl (by omega)
 · by_cases hm:cap=m
   · omega
   · rw [if_neg hm] at e
     cases sp with
     | none=>have:=hn rfl; omega
     | some ad=>cases e
section
theorem storeP {P:Program} {o:Oper} {a:Act} {w:World} (cs:List Value) (b off:Nat) (ty:TypeId) (x y:Operand) (ho:o.op=.store ty x y) (hx:a.eval x=.pointer (some ⟨b,off,none⟩)) (hy:a.eval y=.agg cs.toArray) (ht:w.there b off cs.toArray.size) (hz:(P.info? ty).map (·.size)=some cs.toArray.size) (h1:∀ u∈cs,u.oneCell'=true) :
 (execOp a.eval o).run P w=.ok .skip (w.setCells b off cs):=by
 unfold execOp
 simp only [ho,hx,hy]; have e:=run_storeAt_mid (P:=P) w b off ty cs.toArray ht hz (all_oneCell_toArray h1); simp only [Sem.run_bind,e,Result.andThen_ok,Sem.run_pure]
def setL (cs:List Value):Nat→List Value→List Value
 | _,[]=>cs
 | o,v::vs=>setL (cs.set o v) (o+1) vs
section
variable {w0 w:World} {l:List (Nat × List Value)} {b:Nat} {cs:List Value}
theorem Mm.thereP (h:Mm w0 l w) (hp:(b,cs)∈l) (o n:Nat) (hn:o+n≤cs.length):w.there b o n:=fun j hj=>⟨h.isSome hp (o+j) (by omega),h.free hp (o+j) (by omega)⟩
theorem Mm.setPartG:∀ (ds:List Value) (o:Nat) (cs:List Value) (w:World),o+ds.length≤cs.length→Mm w0 ((b,cs)::l) w→Mm w0 ((b,setL cs o ds)::l) (w.setCells b o ds)
 | [],_,_,_,_,h=>h
 | v::vs,o,cs,w,hl,h=>by
   rw [List.length_cons] at hl
   exact Mm.setPartG vs (o+1) (cs.set o v) _ (by rw [List.length_set]; omega) (h.set o (by omega) v)
theorem Mm.setPart (h:Mm w0 ((b,cs)::l) w) (ds:List Value) (o:Nat) (hl:o+ds.length≤cs.length):Mm w0 ((b,setL cs o ds)::l) (w.setCells b o ds):=Mm.setPartG ds o cs w hl h
theorem Mm.perm {l':List (Nat × List Value)} (h:Mm w0 l w) (hp:l.Perm l'):Mm w0 l' w :=
 ⟨fun p hq=>h.rows p (hp.mem_iff.2 hq),hp.pairwise h.apart (fun e=>Ne.symm e),h.below⟩
theorem Mm.rot3 {p q r:Nat × List Value} (h:Mm w0 (p::q::r::l) w):Mm w0 (r::p::q::l) w :=
 h.perm (((List.Perm.swap r q l).cons p).trans (List.Perm.swap r p (q::l)))
theorem Mm.rot4 {p q r s:Nat × List Value} (h:Mm w0 (p::q::r::s::l) w):Mm w0 (s::p::q::r::l) w :=
 h.perm ((((List.Perm.swap s r l).cons q).trans (List.Perm.swap s q (r::l))).cons p |>.trans (List.Perm.swap s p (q::r::l)))
end
def ob:Option Addr→List Nat
 | some a=>[a.block]
 | none=>[]
theorem ob_own (sp:Option Addr) (n c:Nat) (b:Nat):(Value.slice sp n c).ownBlock=some b↔b∈ob sp:=by
 cases sp with
 | none=>exact ⟨fun h=>(by cases h),fun h=>(by cases h)⟩
 | some a =>
   constructor
   · intro h; injection h with h; subst h; exact mS
   · intro h; obtain rfl:=xm1 h; rfl
theorem ob_lt {w:World} {base size n:Nat} {e:TypeId} {vp:Option Addr} {vc:Nat} {xs:List Value} (h:w.ownsRow base e size (.slice vp n vc) n xs):∀ x∈ob vp,base≤x∧x<w.heap.size:=fun x hx=>World.ownsRow.lt h x ((ob_own vp n vc x).2 hx)
theorem Mm.drop2 {w0 w:World} {l:List (Nat × List Value)} {p q:Nat × List Value} (h:Mm w0 (p::q::l) w):Mm w0 (p::l) w:=h.sub _ (List.cons_sublist_cons.2 (List.sublist_cons_self q l))
theorem Off.and1 {X:List Nat} {w w1 w2:World} {b:Nat} (h:Off X w w1) (g:Off [b] w1 w2) (hb:b∈X∨w.heap.size≤b):Off X w w2 :=
 ⟨xnT h.size g.size,fun c hc hX=>(g.blk c (xnL hc h.size) (fun e=>by
  obtain rfl:=xm1 e
  rcases hb with h' | h'
  · exact hX h'
  · omega)).trans (h.blk c hc hX)⟩
theorem Own.off1 {w w':World} {base:Nat} {e:TypeId} {k:IntKind} {n:Nat} {f:Nat→Int} {v:Value} {b:Nat} (h:Own w base e k n f v) (o:Off [b] w w') (hb:b<base):Own w' base e k n f v :=
 ownsRow_off h o (fun x hx e=>by
  obtain rfl:=xm1 hx
  have h1:=(World.ownsRow.lt h _ e).1
  omega)
theorem retCell {P:Program} {fn:Func} {tmps:Array Value} {w:World} (t:Tmp) (ty:TypeId) (p:Addr) (cs:List Value) (hr:fn.results=#[.cell t ty]) (ha:tmps.getD t undef=.pointer (some p)) (hagg:∀ w,(isAgg ty).run P w=.ok true w) (hz:∀ w,(sizeOf ty).run P w=.ok cs.length w) (hc:∀ j v,cs[j]?=some v→w.cell? (p.add j)=some v) :
 (results fn tmps).run P w=.ok (.agg cs.toArray) w:=by
 have e:(loadVar ty p).run P w=.ok (.agg cs.toArray) w:=by simp [loadVar,Sem.run_bind,hagg,hz,run_loadCells_list w p cs hc]
 rw [Array.getD_eq_getD_getElem?] at ha
 simp [results,hr,ha,asAddr,e]
theorem retCellTmp {P:Program} {fn:Func} {tmps:Array Value} {w:World} (t t2:Tmp) (ty:TypeId) (p:Addr) (cs:List Value) (v:Value) (hr:fn.results=#[.cell t ty,.tmp t2]) (ha:tmps.getD t undef=.pointer (some p)) (hb:tmps.getD t2 undef=v) (hagg:∀ w,(isAgg ty).run P w=.ok true w) (hz:∀ w,(sizeOf ty).run P w=.ok cs.length w) (hc:∀ j v,cs[j]?=some v→w.cell? (p.add j)=some v) :
 (results fn tmps).run P w=.ok (.tuple #[.agg cs.toArray,v]) w:=by
 have e:(loadVar ty p).run P w=.ok (.agg cs.toArray) w:=by simp [loadVar,Sem.run_bind,hagg,hz,run_loadCells_list w p cs hc]
 rw [Array.getD_eq_getD_getElem?] at ha hb
 simp [results,hr,ha,hb,asAddr,e]
end
theorem Mm.boxC {w0 w:World} {l:List (Nat × List Value)} (h:Mm w0 l w) (c:Array Value) (t:TypeId) (f:Nat × Nat) (b:Nat) (hb:b=w.heap.size) (hf:c.size≤f.1):Mm w0 ((b,c.toList)::l) (w.alloc (.cells c t f)):=by
 subst hb; have hc:=h.call ((Below.refl w.heap.size w).alloc (xnR _) (.cells c t f))
 refine ⟨fun p hp=>?_,List.pairwise_cons.2 ⟨fun q hq e=>?_,h.apart⟩,hc.below⟩
 · rcases xc1 hp with rfl | hp
   · have e:(w.alloc (.cells c t f)).heap[w.heap.size]?=some (.cells c t f):=by
      show (w.heap.push _)[w.heap.size]?=_
      simp
     refine ⟨fun j hj=>⟨?_,?_⟩,h.below.size,by simp⟩
     · simp only [World.cell?,e]
       simp
     · have:j<c.size:=by simpa using hj
       unfold World.frozen?
       rw [e]
       simp
       omega
   · exact hc.rows p hp
 · have:=(h.rows q hq).2.2
   simp only at e
   omega
theorem Mm.src {w0 w:World} {l:List (Nat × List Value)} (h:Mm w0 l w) {b:Nat} {cs:List Value} (hp:(b,cs)∈l) (bs:List Int) (hc:cs=bs.map (Value.int .u8)):Src w (some ⟨b,0,none⟩) bs.length (bl bs):=fun j hj=>⟨_,rfl,by
 rw [Addr.add_mid,Nat.zero_add]
 refine h.get hp j _ ?_
 rw [hc,List.getElem?_map,List.getElem?_eq_getElem hj]
 show some (Value.int .u8 bs[j])=_
 unfold bl
 rw [List.getD_eq_getElem?_getD,List.getElem?_eq_getElem hj]
 rfl⟩
theorem Mm.srcRow {w0 w:World} {l:List (Nat × List Value)} (h:Mm w0 l w) {b:Nat} {cs:List Value} (hp:(b,cs)∈l) (o n:Nat) (f:Nat→Int) (hd:(cs.drop o).take (row .u8 n f).length=row .u8 n f):Src w (some ⟨b,o,none⟩) n f:=fun j hj=>⟨_,rfl,h.part hp o _ hd j _ (row_get .u8 n f j hj)⟩
def wtop (L:List Int):Int:=L.foldl max (-1)
def wchk (L:List Int) (n:Int):Int:=if n<0∨281474976710655<n then 1 else if n≤wtop L-1024∨n∈L then 140 else 0
def wmk (L:List Int) (n:Int):List Int:=if wchk L n=0 then L++[n] else L
structure WinL (L:List Int):Prop where
 ge:∀ x∈L,0≤x
 le:∀ x∈L,x≤281474976710655
 nd:L.Nodup
theorem foldl_max_ge:∀ (L:List Int) (t:Int),t≤L.foldl max t∧∀ x∈L,x≤L.foldl max t
 | [],t=>⟨Int.le_refl _,fun _ h=>by cases h⟩
 | y::L,t=>by
   have h:=foldl_max_ge L (max t y)
   refine ⟨Int.le_trans (Int.le_max_left _ _) h.1,fun x hx=>?_⟩
   rcases xc1 hx with rfl | hx
   · exact Int.le_trans (Int.le_max_right _ _) h.1
   · exact h.2 x hx
theorem foldl_max_mem:∀ (L:List Int) (t:Int),L.foldl max t=t∨L.foldl max t∈L
 | [],_=>.inl rfl
 | y::L,t=>by
   rcases foldl_max_mem L (max t y) with h | h
   · show L.foldl max (max t y)=t∨L.foldl max (max t y)∈y::L
     rw [h]
     rcases Int.le_total t y with h' | h'
     · rw [Int.max_eq_right h']; exact .inr mS
     · rw [Int.max_eq_left h']; exact .inl rfl
   · exact .inr (mT _ h)
theorem wtop_ge (L:List Int):-1≤wtop L:=(foldl_max_ge L (-1)).1
theorem wtop_le {L:List Int} {x:Int} (h:x∈L):x≤wtop L:=(foldl_max_ge L (-1)).2 x h
theorem wtop_mem (L:List Int):wtop L=-1∨wtop L∈L:=foldl_max_mem L (-1)
theorem wtop_app (L:List Int) (n:Int):wtop (L++[n])=max (wtop L) n:=by unfold wtop; rw [List.foldl_append]; rfl
theorem wtop_max {L:List Int} (h:WinL L):wtop L≤281474976710655:=by
 rcases wtop_mem L with e | e
 · omega
 · exact h.le _ e
theorem wchk_ok {L:List Int} {n:Int} (h:wchk L n=0):0≤n∧n≤281474976710655∧wtop L-1024<n∧n∉L:=by
 unfold wchk at h
 by_cases h1:n<0∨281474976710655<n
 · rw [if_pos h1] at h; cases h
 rw [if_neg h1] at h
 by_cases h2:n≤wtop L-1024∨n∈L
 · rw [if_pos h2] at h; cases h
 exact ⟨by omega,by omega,by have:=not_or.1 h2; omega,(not_or.1 h2).2⟩
theorem wchk_zero {L:List Int} {n:Int} (h0:0≤n) (h1:n≤281474976710655) (h2:wtop L-1024<n) (h3:n∉L):wchk L n=0:=by
 unfold wchk
 rw [if_neg (by omega),if_neg (by rintro (h | h); omega; exact h3 h)]
theorem wmk_ok {L:List Int} {n:Int} (h:wchk L n=0):wmk L n=L++[n]:=if_pos h
theorem wmk_err {L:List Int} {n:Int} (h:¬ wchk L n=0):wmk L n=L:=if_neg h
theorem wmk_w {L:List Int} (h:WinL L) (n:Int):WinL (wmk L n):=by
 by_cases hc:wchk L n=0
 · obtain ⟨h0,h1,_,h3⟩:=wchk_ok hc
   rw [wmk_ok hc]
   refine ⟨fun x hx=>?_,fun x hx=>?_,?_⟩
   · rcases List.mem_append.1 hx with hx | hx
     · exact h.ge x hx
     · rw [xm1 hx]; exact h0
   · rcases List.mem_append.1 hx with hx | hx
     · exact h.le x hx
     · rw [xm1 hx]; exact h1
   · rw [List.nodup_append]
     exact ⟨h.nd,List.nodup_cons.2 ⟨List.not_mem_nil,List.nodup_nil⟩,fun a ha b hb=>by rw [xm1 hb]; exact fun e=>h3 (e ▸ ha)⟩
 · rw [wmk_err hc]; exact h
theorem wmk_len (L:List Int) (n:Int):(wmk L n).length≤L.length+1:=by
 unfold wmk
 split
 · rw [List.length_append]; exact xnR _
 · omega
theorem winL_nil:WinL []:=⟨fun _ h=>(by cases h),fun _ h=>(by cases h),List.nodup_nil⟩
theorem wchk_marked {L:List Int} {n:Int} (hc:wchk L n=0):wchk (wmk L n) n=140:=by
 obtain ⟨h0,h1,_,_⟩:=wchk_ok hc
 rw [wmk_ok hc]
 unfold wchk
 rw [if_neg (by omega),if_pos (.inr (List.mem_append_right _ mS))]
def asl (k:Nat→Int) (n ad t:List Int):List Int:=(List.range (t.length+16)).map (aout k (bl n) ad.length (bl ad) t.length (bl t))
def apE (k:Nat→Int) (n ad b:List Int):Int:=aoE k (bl n) ad.length (bl ad) b.length (bl b)
def apT (k:Nat→Int) (n ad b:List Int):List Int:=(List.range (aoL k (bl n) ad.length (bl ad) b.length (bl b))).map (hxor k 1 (bl n) (bl b))
theorem asl_len (k:Nat→Int) (n ad t:List Int):(asl k n ad t).length=t.length+16:=by unfold asl; rw [List.length_map,List.length_range]
theorem asl_bl (k:Nat→Int) (n ad t:List Int) (j:Nat) (h:j<t.length+16):bl (asl k n ad t) j=aout k (bl n) ad.length (bl ad) t.length (bl t) j:=by unfold asl; rw [bl_range _ _ _ h]
theorem asl_byts {k:Nat→Int} {n ad t:List Int} (ht:Byts t):Byts (asl k n ad t):=fun x hx=>by
 obtain ⟨j,hj,rfl⟩:=List.mem_map.1 hx
 exact aout_in k (bl n) ad.length (bl ad) t.length (bl t) ht.bl j (List.mem_range.1 hj)
theorem apok_back (k:Nat→Int) (n ad t:List Int):aok k (bl n) ad.length (bl ad) (t.length+16) (bl (asl k n ad t)) :=
 (aok_congr (fun j hj=>asl_bl k n ad t j hj)).2 (aback_ok k (bl n) ad.length (bl ad) t.length (bl t))
theorem apE_back (k:Nat→Int) (n ad t:List Int):apE k n ad (asl k n ad t)=0:=by
 unfold apE aoE
 rw [asl_len,if_neg (by omega),if_pos (apok_back k n ad t)]
theorem apT_back (k:Nat→Int) (n ad t:List Int) (ht:Byts t):apT k n ad (asl k n ad t)=t:=by
 have hL:aoL k (bl n) ad.length (bl ad) (asl k n ad t).length (bl (asl k n ad t))=t.length:=by
  rw [asl_len]
  unfold aoL
  rw [if_pos (apok_back k n ad t)]
  omega
 unfold apT
 rw [hL]
 refine bl_ext (by rw [List.length_map,List.length_range]) fun j hj=>?_
 rw [List.length_map,List.length_range] at hj
 rw [bl_range _ _ _ hj]
 have h1:=aback_text k (bl n) ad.length (bl ad) t.length (bl t) ht.bl j hj
 have h2:hxor k 1 (bl n) (bl (asl k n ad t)) j=hxor k 1 (bl n) (aout k (bl n) ad.length (bl ad) t.length (bl t)) j:=by
  unfold hxor
  rw [asl_bl k n ad t j (by omega)]
 rw [h2,h1]
structure Grd where
 role:Int
 out:Kys
 inn:Kys
 cnt:Int→Int
 win:Int→Int→List Int
structure GrdW (g:Grd):Prop where
 role:g.role=0∨g.role=1
 out:KysW g.out
 inn:KysW g.inn
 cnt:∀ p,0≤g.cnt p∧g.cnt p≤281474976710656
 win:∀ e p,WinL (g.win e p)
 off:∀ e p,(e<g.inn.e-1∨g.inn.e<e)→g.win e p=[]
def gat (role:Int) (o i:Nat→Int) (mine its:Int):Grd:=⟨if role=1 then 1 else 0,yat o mine,yat i its,fun _=>0,fun _ _=>[]⟩
theorem gat_w (role:Int) {o i:Nat→Int} (ho:In 256 32 o) (hi:In 256 32 i) (mine its:Int):GrdW (gat role o i mine its) :=
 ⟨by show (if role=1 then (1:Int) else 0)=0∨(if role=1 then (1:Int) else 0)=1; split <;> simp,yat_w ho mine,yat_w hi its,fun _=>⟨Int.le_refl 0,show (0:Int)≤281474976710656 by decide⟩,fun _ _=>winL_nil,fun _ _ _=>rfl⟩
def gpk (g:Grd) (p:Int) (b:List Int):Pkt:=⟨3,g.role,p,g.out.e,g.cnt p,b⟩
def rno (p:Pkt):List Int:=p.path::(flst p.epo.toNat 2++(0::0::0::flst p.ctr.toNat 6))
theorem rno_len (p:Pkt):(rno p).length=12:=by unfold rno; simp [flst_length]
theorem rno_pno {p:Pkt} (hk:p.kind=3) (h:pok p=true):pno p=rno p:=by unfold pno; rw [if_pos ⟨hk,h⟩]; rfl
theorem hdr_phd {p:Pkt} (hk:p.kind=3) (h:pok p=true):phd p=hdr p:=by unfold phd; rw [if_pos ⟨hk,h⟩]
def gsE (g:Grd) (p:Int) (n:Nat):Int:=if ¬ (0≤p∧p≤255) then 1 else if 256<n then 2 else if 281474976710655<g.cnt p then 6 else 0
def gsT (g:Grd) (p:Int) (t:List Int):List Int:=asl (yof g.out.now) (rno (gpk g p [])) (hdr (gpk g p [])) t
def gsB (g:Grd) (p:Int) (t:List Int):List Int:=if gsE g p t.length=0 then pby (gpk g p (gsT g p t)) else []
def gcn (g:Grd) (p n:Int):Grd:={ g with cnt:=fun q=>if q=p then n else g.cnt q }
def gsN (g:Grd) (p:Int) (n:Nat):Grd:=if gsE g p n=0 then gcn g p (g.cnt p+1) else g
theorem gsE_ok {g:Grd} {p:Int} {n:Nat} (h:gsE g p n=0):(0≤p∧p≤255)∧n≤256∧g.cnt p≤281474976710655:=by
 unfold gsE at h
 by_cases h1:0≤p∧p≤255
 · rw [if_neg (fun c=>c h1)] at h
   by_cases h2:256<n
   · rw [if_pos h2] at h; cases h
   · rw [if_neg h2] at h
     by_cases h3:281474976710655<g.cnt p
     · rw [if_pos h3] at h; cases h
     · exact ⟨h1,by omega,by omega⟩
 · rw [if_pos h1] at h; cases h
theorem gsE_zero {g:Grd} {p:Int} {n:Nat} (h1:0≤p∧p≤255) (h2:n≤256) (h3:g.cnt p≤281474976710655):gsE g p n=0:=by
 unfold gsE
 rw [if_neg (fun c=>c h1),if_neg (by omega),if_neg (by omega)]
theorem gsE_arg {g:Grd} {p:Int} {n:Nat} (h1:¬ (0≤p∧p≤255)):gsE g p n=1:=if_pos h1
theorem gsE_long {g:Grd} {p:Int} {n:Nat} (h1:0≤p∧p≤255) (h2:256<n):gsE g p n=2:=by unfold gsE; rw [if_neg (fun c=>c h1),if_pos h2]
theorem gsE_end {g:Grd} {p:Int} {n:Nat} (h1:0≤p∧p≤255) (h2:n≤256) (h3:281474976710655<g.cnt p):gsE g p n=6:=by unfold gsE; rw [if_neg (fun c=>c h1),if_neg (by omega),if_pos h3]
theorem gsT_len (g:Grd) (p:Int) (t:List Int):(gsT g p t).length=t.length+16:=asl_len _ _ _ _
theorem gpk_ok {g:Grd} (hg:GrdW g) {p:Int} {t:List Int} (h:gsE g p t.length=0):pok (gpk g p (gsT g p t))=true:=by
 obtain ⟨h1,h2,h3⟩:=gsE_ok h
 have h4:=hg.role; have h5:=hg.out.lo; have h6:=hg.out.hi; have h7:=(hg.cnt p).1
 rw [pok_rec rfl]
 have hl:=gsT_len g p t
 exact decide_eq_true ⟨⟨show 0≤g.role by omega,show g.role≤1 by omega⟩,h1,⟨h5,h6⟩,⟨h7,h3⟩,show 16≤(gsT g p t).length by omega,show (gsT g p t).length≤272 by omega⟩
theorem gsB_ok {g:Grd} {p:Int} {t:List Int} (h:gsE g p t.length=0):gsB g p t=pby (gpk g p (gsT g p t)):=if_pos h
theorem gsB_err {g:Grd} {p:Int} {t:List Int} (h:¬ gsE g p t.length=0):gsB g p t=[]:=if_neg h
theorem gsB_pps {g:Grd} (hg:GrdW g) {p:Int} {t:List Int} (h:gsE g p t.length=0):pps (gsB g p t)=.ok (gpk g p (gsT g p t)):=by rw [gsB_ok h]; exact pps_pby _ (gpk_ok hg h)
theorem pby_rec {p:Pkt} (h:p.kind=3):pby p=hdr p++p.body:=by unfold pby; rw [if_pos h]
theorem gsB_len {g:Grd} {p:Int} {t:List Int} (h:gsE g p t.length=0):(gsB g p t).length=t.length+27:=by
 rw [gsB_ok h,pby_rec rfl,List.length_append,hdr_length]
 show 11+(gsT g p t).length=_
 rw [gsT_len]
 omega
theorem hdr_byts {p:Pkt} (hr:0≤p.role∧p.role<256) (hp:0≤p.path∧p.path<256):Byts (hdr p):=fun x hx=>by
 rcases xc1 hx with rfl | hx
 · exact ⟨by decide,by decide⟩
 rcases xc1 hx with rfl | hx
 · exact hr
 rcases xc1 hx with rfl | hx
 · exact hp
 rcases List.mem_append.1 hx with hx | hx
 · exact flst_byts _ _ x hx
 · exact flst_byts _ _ x hx
theorem gsB_byts {g:Grd} (hg:GrdW g) {p:Int} {t:List Int} (ht:Byts t):Byts (gsB g p t):=by
 by_cases h:gsE g p t.length=0
 · obtain ⟨h1,_,_⟩:=gsE_ok h
   have h4:=hg.role
   rw [gsB_ok h,pby_rec rfl]
   intro x hx
   rcases List.mem_append.1 hx with hx | hx
   · exact hdr_byts (p:=gpk g p (gsT g p t)) ⟨show 0≤g.role by omega,show g.role<256 by omega⟩ ⟨show 0≤p by omega,show p<256 by omega⟩ x hx
   · exact asl_byts ht x hx
 · rw [gsB_err h]
   intro x hx
   cases hx
theorem gcn_w {g:Grd} (hg:GrdW g) {p n:Int} (h:0≤n∧n≤281474976710656):GrdW (gcn g p n) :=
 ⟨hg.role,hg.out,hg.inn,fun q=>by
  show 0≤(if q=p then n else g.cnt q)∧(if q=p then n else g.cnt q)≤281474976710656
  split
  · exact h
  · exact hg.cnt q,hg.win,hg.off⟩
theorem gsN_w {g:Grd} (hg:GrdW g) (p:Int) (n:Nat):GrdW (gsN g p n):=by
 unfold gsN
 split
 · next h =>
   obtain ⟨_,_,h3⟩:=gsE_ok h
   have h4:=(hg.cnt p).1
   exact gcn_w hg ⟨by omega,by omega⟩
 · exact hg
def gkE (g:Grd) (p n:Int):Int:=if ¬ (0≤p∧p≤255)∨n<g.cnt p∨281474976710656<n then 1 else 0
def gkN (g:Grd) (p n:Int):Grd:=if gkE g p n=0 then gcn g p n else g
theorem gkN_w {g:Grd} (hg:GrdW g) (p n:Int):GrdW (gkN g p n):=by
 unfold gkN
 split
 · next h =>
   have h4:=(hg.cnt p).1
   unfold gkE at h
   split at h
   · cases h
   · next hh=>exact gcn_w hg ⟨by omega,by omega⟩
 · exact hg
def gaN (g:Grd):Grd:=if 65535≤g.out.e then g else { g with out:=yad g.out,cnt:=fun _=>0 }
theorem yad_w' {k:Kys} (h:KysW k):KysW (yad k):=by
 have h1:=h.lo; have h2:=h.hi
 by_cases c:65535≤k.e
 · rw [yad_end c]; exact h
 · rw [yad_on c]; exact ⟨show 0≤k.e+1 by omega,show k.e+1≤65535 by omega,kT_in _ _ _ _ _,h.now⟩
theorem gaN_w {g:Grd} (hg:GrdW g):GrdW (gaN g):=by
 unfold gaN
 split
 · exact hg
 · exact ⟨hg.role,yad_w' hg.out,hg.inn,fun _=>⟨Int.le_refl 0,show (0:Int)≤281474976710656 by decide⟩,hg.win,hg.off⟩
def goK (g:Grd) (p:Pkt):Nat→Int:=if p.epo=g.inn.e+1 then ynK g.inn else ykK g.inn p.epo
def goL (g:Grd) (p:Pkt):Int:=if p.epo=g.inn.e+1 then ynE g.inn else ykE g.inn p.epo
def goR (g:Grd) (p:Pkt):Int:=if ¬ p.kind=3∨p.role=g.role then 110 else if p.epo<g.inn.e-1∨g.inn.e+1<p.epo then 150 else if ¬ goL g p=0 then goL g p else if ¬ wchk (g.win p.epo p.path) p.ctr=0 then 140 else if ¬ apE (goK g p) (rno p) (hdr p) p.body=0 then 70 else 0
def goX (g:Grd) (p:Pkt):List Int:=apT (goK g p) (rno p) (hdr p) p.body
def gon (g:Grd):Grd:={ g with inn:=yad g.inn,win:=fun e q=>if e<g.inn.e then [] else g.win e q }
def gmk (g:Grd) (p:Pkt):Grd:={ g with win:=fun e q=>if e=p.epo∧q=p.path then wmk (g.win p.epo p.path) p.ctr else g.win e q }
def goN (g:Grd) (p:Pkt):Grd:=if goR g p=0 then gmk (if p.epo=g.inn.e+1 then gon g else g) p else g
theorem goR_ok {g:Grd} {p:Pkt} (h:goR g p=0):p.kind=3∧¬ p.role=g.role∧(g.inn.e-1≤p.epo∧p.epo≤g.inn.e+1)∧goL g p=0∧wchk (g.win p.epo p.path) p.ctr=0∧apE (goK g p) (rno p) (hdr p) p.body=0:=by
 unfold goR at h
 by_cases c1:¬ p.kind=3∨p.role=g.role
 · rw [if_pos c1] at h; cases h
 rw [if_neg c1] at h
 by_cases c2:p.epo<g.inn.e-1∨g.inn.e+1<p.epo
 · rw [if_pos c2] at h; cases h
 rw [if_neg c2] at h
 by_cases c3:goL g p=0
 · rw [if_neg (fun c=>c c3)] at h
   by_cases c4:wchk (g.win p.epo p.path) p.ctr=0
   · rw [if_neg (fun c=>c c4)] at h
     by_cases c5:apE (goK g p) (rno p) (hdr p) p.body=0
     · exact ⟨Decidable.byContradiction fun c=>c1 (.inl c),fun c=>c1 (.inr c),by omega,c3,c4,c5⟩
     · rw [if_pos c5] at h; cases h
   · rw [if_pos c4] at h; cases h
 · rw [if_pos c3] at h; exact absurd h c3
theorem goR_zero {g:Grd} {p:Pkt} (h1:p.kind=3) (h2:¬ p.role=g.role) (h3:g.inn.e-1≤p.epo∧p.epo≤g.inn.e+1) (h4:goL g p=0) (h5:wchk (g.win p.epo p.path) p.ctr=0) (h6:apE (goK g p) (rno p) (hdr p) p.body=0):goR g p=0:=by
 unfold goR
 rw [if_neg (by rintro (c | c); exact c h1; exact h2 c),if_neg (by omega),if_neg (fun c=>c h4),if_neg (fun c=>c h5),if_neg (fun c=>c h6)]
theorem goR_own {g:Grd} {p:Pkt} (h:p.role=g.role):goR g p=110:=if_pos (.inr h)
theorem goR_old {g:Grd} {p:Pkt} (h1:p.kind=3) (h2:¬ p.role=g.role) (h3:g.inn.e-1≤p.epo∧p.epo≤g.inn.e+1) (h4:goL g p=0) (h5:¬ wchk (g.win p.epo p.path) p.ctr=0):goR g p=140:=by
 unfold goR
 rw [if_neg (by rintro (c | c); exact c h1; exact h2 c),if_neg (by omega),if_neg (fun c=>c h4),if_pos h5]
theorem goR_far {g:Grd} {p:Pkt} (h1:p.kind=3) (h2:¬ p.role=g.role) (h3:p.epo<g.inn.e-1∨g.inn.e+1<p.epo):goR g p=150:=by
 unfold goR
 rw [if_neg (by rintro (c | c); exact c h1; exact h2 c),if_pos h3]
theorem goN_err {g:Grd} {p:Pkt} (h:¬ goR g p=0):goN g p=g:=if_neg h
theorem goN_ok {g:Grd} {p:Pkt} (h:goR g p=0):goN g p=gmk (if p.epo=g.inn.e+1 then gon g else g) p:=if_pos h
theorem goL_next {g:Grd} {p:Pkt} (h:goL g p=0) (he:p.epo=g.inn.e+1):¬ 65535≤g.inn.e:=fun c=>by
 unfold goL at h
 rw [if_pos he] at h
 unfold ynE at h
 rw [if_pos c] at h
 cases h
theorem gon_w {g:Grd} (hg:GrdW g) (h:¬ 65535≤g.inn.e):GrdW (gon g):=by
 refine ⟨hg.role,hg.out,yad_w' hg.inn,hg.cnt,fun e q=>?_,fun e q he=>?_⟩
 · show WinL (if e<g.inn.e then [] else g.win e q)
   split
   · exact winL_nil
   · exact hg.win e q
 · have h1:(gon g).inn.e=g.inn.e+1:=by show (yad g.inn).e=_; rw [yad_on h]
   rw [h1] at he
   show (if e<g.inn.e then [] else g.win e q)=[]
   split
   · rfl
   · exact hg.off e q (.inr (by omega))
theorem gmk_w {g:Grd} (hg:GrdW g) {p:Pkt} (h:g.inn.e-1≤p.epo∧p.epo≤g.inn.e):GrdW (gmk g p):=by
 refine ⟨hg.role,hg.out,hg.inn,hg.cnt,fun e q=>?_,fun e q he=>?_⟩
 · show WinL (if e=p.epo∧q=p.path then wmk (g.win p.epo p.path) p.ctr else g.win e q)
   split
   · exact wmk_w (hg.win _ _) _
   · exact hg.win e q
 · have he:e<g.inn.e-1∨g.inn.e<e:=he
   show (if e=p.epo∧q=p.path then wmk (g.win p.epo p.path) p.ctr else g.win e q)=[]
   rw [if_neg (by rintro ⟨c,_⟩; omega)]
   exact hg.off e q he
theorem goN_w {g:Grd} (hg:GrdW g) (p:Pkt):GrdW (goN g p):=by
 by_cases h:goR g p=0
 · obtain ⟨_,_,h3,h4,_,_⟩:=goR_ok h
   rw [goN_ok h]
   by_cases he:p.epo=g.inn.e+1
   · rw [if_pos he]
     have hn:=goL_next h4 he
     have h1:(gon g).inn.e=g.inn.e+1:=by show (yad g.inn).e=_; rw [yad_on hn]
     exact gmk_w (gon_w hg hn) ⟨by omega,by omega⟩
   · rw [if_neg he]
     exact gmk_w hg ⟨by omega,by omega⟩
 · rw [goN_err h]; exact hg
def gbE (g:Grd) (b:List Int):Int:=match pps b with
 | .error e=>e
 | .ok p=>goR g p
def gbP (g:Grd) (b:List Int):Int:=match pps b with
 | .error _=>0
 | .ok p=>if goR g p=0 then p.path else 0
def gbC (g:Grd) (b:List Int):Int:=match pps b with
 | .error _=>0
 | .ok p=>if goR g p=0 then p.ctr else 0
def gbT (g:Grd) (b:List Int):List Int:=match pps b with
 | .error _=>[]
 | .ok p=>if goR g p=0 then goX g p else []
def gbN (g:Grd) (b:List Int):Grd:=match pps b with
 | .error _=>g
 | .ok p=>goN g p
theorem gbN_w {g:Grd} (hg:GrdW g) (b:List Int):GrdW (gbN g b):=by
 unfold gbN
 split
 · exact hg
 · exact goN_w hg _
theorem gbE_of {g:Grd} {b:List Int} {p:Pkt} (h:pps b=.ok p):gbE g b=goR g p:=by unfold gbE; rw [h]
theorem gbN_of {g:Grd} {b:List Int} {p:Pkt} (h:pps b=.ok p):gbN g b=goN g p:=by unfold gbN; rw [h]
theorem gbP_of {g:Grd} {b:List Int} {p:Pkt} (h:pps b=.ok p) (h2:goR g p=0):gbP g b=p.path:=by unfold gbP; rw [h]; exact if_pos h2
theorem gbC_of {g:Grd} {b:List Int} {p:Pkt} (h:pps b=.ok p) (h2:goR g p=0):gbC g b=p.ctr:=by unfold gbC; rw [h]; exact if_pos h2
theorem gbT_of {g:Grd} {b:List Int} {p:Pkt} (h:pps b=.ok p) (h2:goR g p=0):gbT g b=goX g p:=by unfold gbT; rw [h]; exact if_pos h2
theorem open_seal {g h:Grd} {p:Int} {t:List Int} (ht:Byts t) (hr:¬ g.role=h.role) (he:h.inn.e-1≤g.out.e∧g.out.e≤h.inn.e+1) (hL:goL h (gpk g p (gsT g p t))=0) (hK:goK h (gpk g p (gsT g p t))=yof g.out.now) (hc:wchk (h.win g.out.e p) (g.cnt p)=0) :
 goR h (gpk g p (gsT g p t))=0∧goX h (gpk g p (gsT g p t))=t:=by
 have e1:apE (goK h (gpk g p (gsT g p t))) (rno (gpk g p (gsT g p t))) (hdr (gpk g p (gsT g p t))) (gpk g p (gsT g p t)).body=0:=by rw [hK]; exact apE_back _ _ _ t
 refine ⟨goR_zero rfl hr he hL hc e1,?_⟩
 unfold goX
 rw [hK]
 exact apT_back _ _ _ t ht
section
section
variable {w0 w:World} {g x t:List (Nat × List Value)}
theorem Mm.lts (h:Mm w0 (g++t) w):∀ b∈g.map Prod.fst,b<w.heap.size:=fun b hb=>by
 obtain ⟨p,hp,rfl⟩:=List.mem_map.1 hb
 exact (h.rows p (List.mem_append_left _ hp)).2.2
theorem Mm.beside (h:Mm w0 (g++t) w) {B:Nat} {c:List Value} (hB:(B,c)∈t):B∉g.map Prod.fst:=fun hb=>by
 obtain ⟨p,hp,e⟩:=List.mem_map.1 hb
 exact (List.pairwise_append.1 h.apart).2.2 p hp (B,c) hB e
end
section
variable {α:Type} (x a b c g t:List α)
theorem pull0:(x++(g++t)).Perm (g++(x++t)):=by
 rw [← List.append_assoc,← List.append_assoc]
 exact List.perm_append_comm.append_right t
theorem pull1:(x++(a++(g++t))).Perm (g++(x++(a++t))):=by
 have:=pull0 (x++a) g t
 rw [List.append_assoc,List.append_assoc] at this
 exact this
theorem pull2:(x++(a++(b++(g++t)))).Perm (g++(x++(a++(b++t)))):=by
 have:=pull1 (x++a) b g t
 rw [List.append_assoc,List.append_assoc] at this
 exact this
end
end
def NewF (w:World) (base n:Nat) (f:Nat→Int) (v:Value):Prop:=∃ sp cap,v=.slice sp n cap∧n≤cap∧(sp=none→cap=0)∧Src w sp n f∧∀ a,sp=some a→base≤a.block∧a.block<w.heap.size
theorem NewF.nil (w:World) (base:Nat) (f:Nat→Int):NewF w base 0 f (.slice none 0 0):=⟨none,0,rfl,xnR _,fun _=>rfl,fun j hj=>absurd hj (xnZ j),fun _ h=>by cases h⟩
theorem NewF.src {w:World} {base n:Nat} {f:Nat→Int} {sp:Option Addr} {cap:Nat} (h:NewF w base n f (.slice sp n cap)):Src w sp n f:=by
 obtain ⟨sp',cap',hv,_,_,hs,_⟩:=h
 injection hv with h1 _ _
 subst h1
 exact hs
theorem NewF.le {w:World} {base n:Nat} {f:Nat→Int} {sp:Option Addr} {cap:Nat} (h:NewF w base n f (.slice sp n cap)):n≤cap:=by
 obtain ⟨sp',cap',hv,hc,_⟩:=h
 injection hv with _ _ h3
 subst h3
 exact hc
theorem NewF.nilCap {w:World} {base n:Nat} {f:Nat→Int} {sp:Option Addr} {cap:Nat} (h:NewF w base n f (.slice sp n cap)):sp=none→cap=0:=by
 obtain ⟨sp',cap',hv,_,hn,_⟩:=h
 injection hv with h1 _ h3
 subst h1 h3
 exact hn
theorem NewF.bytes {w:World} {base n:Nat} {f:Nat→Int} {v:Value} (h:NewF w base n f v):∃ sp cap,v=.slice sp n cap∧n≤cap∧Src w sp n f:=by
 obtain ⟨sp,cap,hv,hc,_,hs,_⟩:=h
 exact ⟨sp,cap,hv,hc,hs⟩
theorem NewF.of_own {w:World} {base n:Nat} {f:Nat→Int} {v:Value} (h:Own w base 5 .u8 n f v):NewF w base n f v:=by
 obtain ⟨sp,cap,rfl,hc,hs⟩:=h.bytes
 exact ⟨sp,cap,rfl,hc,h.nilCap,hs,fun a e=>by subst e; exact World.ownsRow.lt h a.block rfl⟩
theorem NewF.at {w:World} {base n:Nat} {f:Nat→Int} {sp:Option Addr} {cap:Nat} (h:NewF w base n f (.slice sp n cap)):∀ a,sp=some a→base≤a.block∧a.block<w.heap.size:=by
 obtain ⟨sp',cap',hv,_,_,_,ha⟩:=h
 injection hv with h1 _ _
 subst h1
 exact ha
theorem NewF.congr {w:World} {base n:Nat} {f g:Nat→Int} {v:Value} (h:NewF w base n f v) (he:∀ j,j<n→f j=g j):NewF w base n g v:=by
 obtain ⟨sp,cap,hv,hc,hn,hs,ha⟩:=h
 exact ⟨sp,cap,hv,hc,hn,fun j hj=>by rw [← he j hj]; exact hs j hj,ha⟩
def NewL (w:World) (base:Nat) (l:List Int) (v:Value):Prop:=NewF w base l.length (bl l) v
theorem NewF.off {w w':World} {base n:Nat} {f:Nat→Int} {v:Value} {X:List Nat} (h:NewF w base n f v) (o:Off X w w') (hX:∀ b∈X,b<base):NewF w' base n f v:=by
 obtain ⟨sp,cap,hv,hc,hn,hs,ha⟩:=h
 have hsz:=o.size
 refine ⟨sp,cap,hv,hc,hn,fun j hj=>?_,fun a e=>⟨(ha a e).1,by have:=(ha a e).2; omega⟩⟩
 obtain ⟨p,hp,hcell⟩:=hs j hj
 exact ⟨p,hp,o.cell hcell (by rw [add_block]; exact fun hm=>by have:=hX _ hm; have:=(ha p hp).1; omega)⟩
theorem NewF.below {w w':World} {base n:Nat} {f:Nat→Int} {v:Value} (h:NewF w base n f v) (l:Below w.heap.size w w'):NewF w' base n f v:=h.off (X:=[]) (Off.of_below l) (fun _ hb=>by cases hb)
theorem NewF.lower {w:World} {base base' n:Nat} {f:Nat→Int} {v:Value} (h:NewF w base n f v) (hb:base'≤base):NewF w base' n f v:=by
 obtain ⟨sp,cap,hv,hc,hn,hs,ha⟩:=h
 exact ⟨sp,cap,hv,hc,hn,hs,fun a e=>⟨xnT hb (ha a e).1,(ha a e).2⟩⟩
section
def obs (sp:Option Addr):List (Nat × List Value):=(ob sp).map fun b=>(b,[])
theorem obs_fst (sp:Option Addr):(obs sp).map Prod.fst=ob sp:=by
 unfold obs
 rw [List.map_map]
 exact List.map_id _
theorem NewF.offB {w w':World} {base n:Nat} {f:Nat→Int} {sp:Option Addr} {cap:Nat} {X:List Nat} (h:NewF w base n f (.slice sp n cap)) (o:Off X w w') (hX:∀ b∈X,b∉ob sp):NewF w' base n f (.slice sp n cap):=by
 have hsz:=o.size
 refine ⟨sp,cap,rfl,h.le,h.nilCap,fun j hj=>?_,fun a e=>⟨(h.at a e).1,by have:=(h.at a e).2; omega⟩⟩
 obtain ⟨p,hp,hcell⟩:=h.src j hj
 exact ⟨p,hp,o.cell hcell (by rw [add_block]; exact fun hm=>hX _ hm (by rw [hp]; exact mS))⟩
theorem NewF.srcB {w:World} {base n:Nat} {f:Nat→Int} {sp:Option Addr} {cap:Nat} {X:List Nat} (h:NewF w base n f (.slice sp n cap)) (hX:∀ b∈X,b∉ob sp):SrcA X w sp n f :=
 ⟨h.src,fun a e _ hm=>hX _ hm (by rw [e]; exact mS)⟩
theorem Mm.awayG {w0 w:World} {x g t:List (Nat × List Value)} (h:Mm w0 (g++t) w) (hs:∀ p∈x,p∈t):∀ b∈g.map Prod.fst,b∉x.map Prod.fst:=fun b hb hx=>by
 obtain ⟨p,hp,rfl⟩:=List.mem_map.1 hx
 exact h.beside (hs p hp) hb
theorem Mm.awayS {w0 w:World} {g t:List (Nat × List Value)} {sp:Option Addr} (h:Mm w0 (g++t) w) (hs:∀ p∈obs sp,p∈t):∀ b∈g.map Prod.fst,b∉ob sp:=fun b hb=>by
 have:=h.awayG hs b hb
 rw [obs_fst] at this
 exact this
theorem Mm.awayC {w0 w:World} {x t:List (Nat × List Value)} {B:Nat} {c:List Value} (h:Mm w0 ((B,c)::t) w) (hs:∀ p∈x,p∈t):B∉x.map Prod.fst:=fun hx=>by
 obtain ⟨p,hp,e⟩:=List.mem_map.1 hx
 exact (List.pairwise_cons.1 h.apart).1 p (hs p hp) e.symm
theorem Mm.awayB {w0 w:World} {t:List (Nat × List Value)} {sp:Option Addr} {B:Nat} {c:List Value} (h:Mm w0 ((B,c)::t) w) (hs:∀ p∈obs sp,p∈t):B∉ob sp:=by
 have:=h.awayC hs
 rw [obs_fst] at this
 exact this
section
variable {α:Type} (x a b c d e g t:List α)
theorem pullY:(a++(b++(x++t))).Perm (x++(a++(b++t))):=by
 rw [← List.append_assoc a b,← List.append_assoc a b,← List.append_assoc,← List.append_assoc]
 exact List.perm_append_comm.append_right t
end
end
section
def SumOK:Prop:=∀ (k:Nat→Int),In 256 32 k→∀ (sp:Option Addr) (len cap:Nat),len≤281474976710656→len≤cap→∀ z:Nat→Int,In 256 len z→∀ w:World,Glob w→Src w sp len z →
 Calls Tryz.prog 56 #[(.agg (row .u8 32 (k)).toArray),.slice sp len cap] w fun e w'=>∃ f:Nat→Int,e=.returned (.agg (row .u8 16 (f)).toArray)∧(In 256 16 f∧val 256 f 16=ptag k len z)∧Below w.heap.size w w'
def SameOK:Prop:=∀ a b:Nat→Int,In 256 16 a→In 256 16 b→∀ w:World,Glob w →
 Calls Tryz.prog 67 #[(.agg (row .u8 16 (a)).toArray),(.agg (row .u8 16 (b)).toArray)] w fun e w'=>e=.returned (.bool (decide (val 256 a 16=val 256 b 16)))∧Below w.heap.size w w'
section
variable {w w' w'':World} {m:Nat} {l:List (Nat × IntKind × Nat × (Nat→Int))} {R:List (Nat × Nat)} {sp:Option Addr} {len:Nat} {z:Nat→Int}
end
end
structure AGlob (w:World):Prop where
 h:HGlob w
 c:Glob w
theorem AGlob.size {w:World} (g:AGlob w):8≤w.heap.size:=g.h.size
theorem AGlob.below {w w':World} (g:AGlob w) {B:Nat} (l:Below B w w') (hB:8≤B):AGlob w':=⟨g.h.below l hB,g.c.below l hB⟩
def ASealOK:Prop:=∀ (k n:Nat→Int),In 256 32 k→In 256 12 n→∀ (bp:Option Addr) (bl bc:Nat),bl≤140737488351232→bl≤bc→(bp=none→bc=0)→∀ b:Nat→Int,In 256 bl b→∀ (sp:Option Addr) (len cap:Nat),len≤140737488351232→len≤cap→(sp=none→cap=0)→∀ z:Nat→Int,In 256 len z→∀ w:World,AGlob w→Src w bp bl b→Src w sp len z →
 Calls Tryz.prog 24 #[(.agg (row .u8 32 (k)).toArray),(.agg (row .u8 12 (n)).toArray),.slice bp bl bc,.slice sp len cap] w fun e w'=>∃ B cap',e=.returned (.slice (some ⟨B,0,none⟩) (len+16) cap')∧(len+16≤cap'∧w.heap.size≤B∧B<w'.heap.size∧Has w' B .u8 (len+16) (aout k n bl b len z))∧Below w.heap.size w w'
def bplc (j:Nat):Int:=if j%4=0 then (pA (j/4):Int) else if j%4=1 then (pB (j/4):Int) else if j%4=2 then (pC (j/4):Int) else (pD (j/4):Int)
structure BGlob (w:World):Prop where
 first:∀ j,j<8→w.cell? ⟨5,j,none⟩=some (.int .u32 (iv j))
 order:∀ j,j<160→w.cell? ⟨7,j,none⟩=some (.int .u8 (sgL.getD j 0:Nat))
 place:∀ j,j<32→w.cell? ⟨6,j,none⟩=some (.int .u8 (bplc j))
 size:8≤w.heap.size
theorem BGlob.below {w w':World} (h:BGlob w) {B:Nat} (l:Below B w w') (hB:8≤B):BGlob w' :=
 ⟨fun j hj=>by rw [l.cell (p:=⟨5,j,none⟩) (xnL (show 5<8 by decide) hB)]; exact h.first j hj,fun j hj=>by rw [l.cell (p:=⟨7,j,none⟩) (xnL (show 7<8 by decide) hB)]; exact h.order j hj,fun j hj=>by rw [l.cell (p:=⟨6,j,none⟩) (xnL (show 6<8 by decide) hB)]; exact h.place j hj,xnT h.size l.size⟩
theorem BGlob.four {w:World} (h:BGlob w) (k:Nat) (hk:k<8):w.cell? ⟨6,k*4,none⟩=some (.int .u8 (pA k))∧w.cell? ⟨6,k*4+1,none⟩=some (.int .u8 (pB k))∧w.cell? ⟨6,k*4+2,none⟩=some (.int .u8 (pC k))∧w.cell? ⟨6,k*4+3,none⟩=some (.int .u8 (pD k)):=by
 have e1:bplc (k*4)=(pA k:Int):=by unfold bplc; rw [if_pos (by omega),show k*4/4=k by omega]
 have e2:bplc (k*4+1)=(pB k:Int):=by unfold bplc; rw [if_neg (by omega),if_pos (by omega),show (k*4+1)/4=k by omega]
 have e3:bplc (k*4+2)=(pC k:Int):=by unfold bplc; rw [if_neg (by omega),if_neg (by omega),if_pos (by omega),show (k*4+2)/4=k by omega]
 have e4:bplc (k*4+3)=(pD k:Int):=by unfold bplc; rw [if_neg (by omega),if_neg (by omega),if_neg (by omega),show (k*4+3)/4=k by omega]
 rw [← e1,← e2,← e3,← e4]
 exact ⟨h.place _ (by omega),h.place _ (by omega),h.place _ (by omega),h.place _ (by omega)⟩
theorem BGlob.sg {w:World} (h:BGlob w) (r i:Nat) (hr:r<10) (hi:i<16):w.cell? ⟨7,r*16+i,none⟩=some (.int .u8 (sg r i)):=by
 have e:(sgL.getD (r*16+i) 0:Nat)=Go.Proofs.YtknodedhcdpbiaaGreatDoor.sg r i:=by unfold Go.Proofs.YtknodedhcdpbiaaGreatDoor.sg; rw [Nat.mul_comm]
 rw [← e]
 exact h.order _ (by omega)
def pcs (p:Pkt) (bp:Option Addr) (bc:Nat):List Value:=[.int .i64 p.kind,.int .i64 p.role,.int .i64 p.path,.int .i64 p.epo,.int .i64 p.ctr,.slice bp p.body.length bc]
structure PV (w:World) (p:Pkt) (bp:Option Addr) (bc:Nat):Prop where
 src:Src w bp p.body.length (bl p.body)
 le:p.body.length≤bc
 nil:bp=none→bc=0
 max:p.body.length≤140737488351232
 byts:Byts p.body
 kind:i64 p.kind
 role:i64 p.role
 path:i64 p.path
 epo:i64 p.epo
 ctr:i64 p.ctr
theorem PV.below {w w':World} {p:Pkt} {bp:Option Addr} {bc:Nat} (h:PV w p bp bc) {B:Nat} (b:Below B w w') (hB:w.heap.size≤B):PV w' p bp bc :=
 ⟨h.src.below b hB,h.le,h.nil,h.max,h.byts,h.kind,h.role,h.path,h.epo,h.ctr⟩
def szs:Nat→Int
 | 3=>2
 | 4=>6
 | _=>1
structure PG (w:World):Prop where
 sz:∀ j,j<5→w.cell? ⟨0,j,none⟩=some (.int .i64 (szs j))
 size:8≤w.heap.size
theorem PG.below {w w':World} (h:PG w) {B:Nat} (l:Below B w w') (hB:8≤B):PG w' :=
 ⟨fun j hj=>by rw [l.cell (p:=⟨0,j,none⟩) (xnL (show 0<8 by decide) hB)]; exact h.sz j hj,by have:=h.size; have:=l.size; omega⟩
theorem PG.mm {w w':World} {l:List (Nat × List Value)} (g:PG w) (h:Mm w l w'):PG w':=g.below h.below g.size
theorem rmay_any (p:Pkt) (bp:Option Addr) (bc:Nat) (w:World):Calls Tryz.prog 43 #[.agg (pcs p bp bc).toArray] w fun e w'=>e=.returned (.bool (pok p))∧Below w.heap.size w w':=by
 have M:=Mm.init w
 unfold pcs
 go_enter Tryz.func43,Tryz.ntmps43
 go_upto_region 0 with fail; refine wp_region_list ?_; refine actL (w':=w.alloc (.cells #[.int .i64 p.kind,.int .i64 p.role,.int .i64 p.path,.int .i64 p.epo,.int .i64 p.ctr,.slice bp p.body.length bc] 70)) (.pointer (some ⟨w.heap.size,0,none⟩)) rfl (by kernel_rfl) ?_; simp only [aP,lI,l0,lS]
 replace M:=M.box #[.int .i64 p.kind,.int .i64 p.role,.int .i64 p.path,.int .i64 p.epo,.int .i64 p.ctr,.slice bp p.body.length bc] 70 w.heap.size rfl; generalize w.alloc (.cells #[.int .i64 p.kind,.int .i64 p.role,.int .i64 p.path,.int .i64 p.epo,.int .i64 p.ctr,.slice bp p.body.length bc] 70)=w1 at M ⊢; generalize w.heap.size=B1 at *
 replace M:Mm w [(B1,[.int .i64 p.kind,.int .i64 p.role,.int .i64 p.path,.int .i64 p.epo,.int .i64 p.ctr,.slice bp p.body.length bc])] w1:=M
 refine xpL (.bool false) ?_; refine xT ?_; go_upto_region 1 with fail; refine wp_region_list ?_; refine xpL (.pointer (some ⟨B1,0,none⟩)) ?_; refine xaL (.int .i64 p.kind) (load1 3 _ ⟨B1,0,none⟩ _ rfl rfl (fun _=>by kernel_rfl) (M.get mS 0 _ rfl)) ?_; refine xT ?_; go_upto_region 2 with fail; refine wp_region_list ?_
 obtain ⟨b1,hb1⟩:∃ y_,y_=((p.kind:Int) == (1:Int)):=⟨_,rfl⟩
 refine xaL (.bool b1) (eqlI .i64 _ _ _ _ _ _ rfl rfl rfl b1 hb1.symm _) ?_; refine xpL (.bool b1) ?_; refine xT ?_
 cases b1 with
 | true =>
   have k1:p.kind=1:=by simpa using hb1.symm
   go_upto_region 4 with fail; refine wp_region_list ?_; refine xpL (.pointer (some ⟨B1,5,none⟩)) ?_; refine xaL (.slice bp p.body.length bc) (load1 29 _ ⟨B1,5,none⟩ _ rfl rfl (fun _=>by kernel_rfl) (M.get mS 5 _ rfl)) ?_; refine xaL (.int .i64 ((p.body.length:Nat):Int)) (lenS _ 29 5 bp p.body.length bc rfl Tryz.underlying29 rfl _) ?_
   obtain ⟨b2,hb2⟩:∃ y_,y_=(decide (((p.body.length:Nat):Int)≥1)):=⟨_,rfl⟩
   refine xaL (.bool b2) (geqI .i64 _ _ _ _ _ _ rfl rfl rfl b2 hb2.symm _) ?_; refine xpL (.bool b2) ?_
   refine mayL (b2) (.pointer (some ⟨B1,5,none⟩)) ((bif b2 then (.pointer (some ⟨B1,5,none⟩)) else undef)) (by cases b2 <;> rfl) (by cases b2 <;> rfl) (fun hc=>by cases b2 <;> first | (cases hc; done) | kernel_rfl) ?_
   simp only [aP,lI,l0,lS]
   refine mayL (b2) (.slice bp p.body.length bc) ((bif b2 then (.slice bp p.body.length bc) else undef)) (by cases b2 <;> rfl) (by cases b2 <;> rfl) (fun hc=>by cases b2 <;> first | (cases hc; done) | exact (load1 29 _ ⟨B1,5,none⟩ _ rfl rfl (fun _=>by kernel_rfl) (M.get mS 5 _ rfl))) ?_
   simp only [aP,lI,l0,lS]
   refine mayL (b2) (.int .i64 ((p.body.length:Nat):Int)) ((bif b2 then (.int .i64 ((p.body.length:Nat):Int)) else undef)) (by cases b2 <;> rfl) (by cases b2 <;> rfl) (fun hc=>by cases b2 <;> first | (cases hc; done) | exact (lenS _ 29 5 bp p.body.length bc rfl Tryz.underlying29 rfl _)) ?_
   simp only [aP,lI,l0,lS]
   obtain ⟨b3,hb3⟩:∃ y_,y_=(decide (((p.body.length:Nat):Int)≤300)):=⟨_,rfl⟩
   refine mayL (b2) (.bool b3) ((bif b2 then (.bool b3) else undef)) (by cases b2 <;> rfl) (by cases b2 <;> rfl) (fun hc=>by cases b2 <;> first | (cases hc; done) | exact (leqI .i64 _ _ _ _ _ _ rfl rfl rfl b3 hb3.symm _)) ?_
   simp only [aP,lI,l0,lS]
   obtain ⟨b4,hb4⟩:∃ y_,y_=(b2&&b3):=⟨_,rfl⟩
   refine xaL (.bool b4) (by subst hb4; cases b2 <;> rfl) ?_; refine xpL (.bool b4) ?_
   refine mayL (b4) (.pointer (some ⟨B1,1,none⟩)) ((bif b4 then (.pointer (some ⟨B1,1,none⟩)) else undef)) (by cases b4 <;> rfl) (by cases b4 <;> rfl) (fun hc=>by cases b4 <;> first | (cases hc; done) | kernel_rfl) ?_
   simp only [aP,lI,l0,lS]
   refine mayL (b4) (.int .i64 p.role) ((bif b4 then (.int .i64 p.role) else undef)) (by cases b4 <;> rfl) (by cases b4 <;> rfl) (fun hc=>by cases b4 <;> first | (cases hc; done) | exact (load1 3 _ ⟨B1,1,none⟩ _ rfl rfl (fun _=>by kernel_rfl) (M.get mS 1 _ rfl))) ?_
   simp only [aP,lI,l0,lS]
   obtain ⟨b5,hb5⟩:∃ y_,y_=((p.role:Int) == (0:Int)):=⟨_,rfl⟩
   refine mayL (b4) (.bool b5) ((bif b4 then (.bool b5) else undef)) (by cases b4 <;> rfl) (by cases b4 <;> rfl) (fun hc=>by cases b4 <;> first | (cases hc; done) | exact (eqlI .i64 _ _ _ _ _ _ rfl rfl rfl b5 hb5.symm _)) ?_
   simp only [aP,lI,l0,lS]
   obtain ⟨b6,hb6⟩:∃ y_,y_=(b4&&b5):=⟨_,rfl⟩
   refine xaL (.bool b6) (by subst hb6; cases b4 <;> rfl) ?_; refine xpL (.bool b6) ?_
   refine mayL (b6) (.pointer (some ⟨B1,2,none⟩)) ((bif b6 then (.pointer (some ⟨B1,2,none⟩)) else undef)) (by cases b6 <;> rfl) (by cases b6 <;> rfl) (fun hc=>by cases b6 <;> first | (cases hc; done) | kernel_rfl) ?_
   simp only [aP,lI,l0,lS]
   refine mayL (b6) (.int .i64 p.path) ((bif b6 then (.int .i64 p.path) else undef)) (by cases b6 <;> rfl) (by cases b6 <;> rfl) (fun hc=>by cases b6 <;> first | (cases hc; done) | exact (load1 3 _ ⟨B1,2,none⟩ _ rfl rfl (fun _=>by kernel_rfl) (M.get mS 2 _ rfl))) ?_
   simp only [aP,lI,l0,lS]
   obtain ⟨b7,hb7⟩:∃ y_,y_=((p.path:Int) == (0:Int)):=⟨_,rfl⟩
   refine mayL (b6) (.bool b7) ((bif b6 then (.bool b7) else undef)) (by cases b6 <;> rfl) (by cases b6 <;> rfl) (fun hc=>by cases b6 <;> first | (cases hc; done) | exact (eqlI .i64 _ _ _ _ _ _ rfl rfl rfl b7 hb7.symm _)) ?_
   simp only [aP,lI,l0,lS]
   obtain ⟨b8,hb8⟩:∃ y_,y_=(b6&&b7):=⟨_,rfl⟩
   refine xaL (.bool b8) (by subst hb8; cases b6 <;> rfl) ?_; refine xpL (.bool b8) ?_
   refine mayL (b8) (.pointer (some ⟨B1,3,none⟩)) ((bif b8 then (.pointer (some ⟨B1,3,none⟩)) else undef)) (by cases b8 <;> rfl) (by cases b8 <;> rfl) (fun hc=>by cases b8 <;> first | (cases hc; done) | kernel_rfl) ?_
   simp only [aP,lI,l0,lS]
   refine mayL (b8) (.int .i64 p.epo) ((bif b8 then (.int .i64 p.epo) else undef)) (by cases b8 <;> rfl) (by cases b8 <;> rfl) (fun hc=>by cases b8 <;> first | (cases hc; done) | exact (load1 3 _ ⟨B1,3,none⟩ _ rfl rfl (fun _=>by kernel_rfl) (M.get mS 3 _ rfl))) ?_
   simp only [aP,lI,l0,lS]
   obtain ⟨b9,hb9⟩:∃ y_,y_=((p.epo:Int) == (0:Int)):=⟨_,rfl⟩
   refine mayL (b8) (.bool b9) ((bif b8 then (.bool b9) else undef)) (by cases b8 <;> rfl) (by cases b8 <;> rfl) (fun hc=>by cases b8 <;> first | (cases hc; done) | exact (eqlI .i64 _ _ _ _ _ _ rfl rfl rfl b9 hb9.symm _)) ?_
   simp only [aP,lI,l0,lS]
   obtain ⟨b10,hb10⟩:∃ y_,y_=(b8&&b9):=⟨_,rfl⟩
   refine xaL (.bool b10) (by subst hb10; cases b8 <;> rfl) ?_; refine xpL (.bool b10) ?_
   refine mayL (b10) (.pointer (some ⟨B1,4,none⟩)) ((bif b10 then (.pointer (some ⟨B1,4,none⟩)) else undef)) (by cases b10 <;> rfl) (by cases b10 <;> rfl) (fun hc=>by cases b10 <;> first | (cases hc; done) | kernel_rfl) ?_
   simp only [aP,lI,l0,lS]
   refine mayL (b10) (.int .i64 p.ctr) ((bif b10 then (.int .i64 p.ctr) else undef)) (by cases b10 <;> rfl) (by cases b10 <;> rfl) (fun hc=>by cases b10 <;> first | (cases hc; done) | exact (load1 3 _ ⟨B1,4,none⟩ _ rfl rfl (fun _=>by kernel_rfl) (M.get mS 4 _ rfl))) ?_
   simp only [aP,lI,l0,lS]
   obtain ⟨b11,hb11⟩:∃ y_,y_=((p.ctr:Int) == (0:Int)):=⟨_,rfl⟩
   refine mayL (b10) (.bool b11) ((bif b10 then (.bool b11) else undef)) (by cases b10 <;> rfl) (by cases b10 <;> rfl) (fun hc=>by cases b10 <;> first | (cases hc; done) | exact (eqlI .i64 _ _ _ _ _ _ rfl rfl rfl b11 hb11.symm _)) ?_
   simp only [aP,lI,l0,lS]
   obtain ⟨b12,hb12⟩:∃ y_,y_=(b10&&b11):=⟨_,rfl⟩
   refine xaL (.bool b12) (by subst hb12; cases b10 <;> rfl) ?_; refine xpL (.bool b12) ?_; refine xT ?_
   have hA:b12=pok p:=by
    rw [pok_hlo (by omega)]
    apply Bool.eq_iff_iff.2
    simp only [hb2,hb3,hb4,hb5,hb6,hb7,hb8,hb9,hb10,hb11,hb12,xbA,decide_eq_true_eq,beq_iff_eq]
    unfold Hlo
    omega
   replace hA:=show Hid _ from hA
   try clear hb1
   try clear hb2
   try clear hb3
   try clear hb4
   try clear hb5
   try clear hb6
   try clear hb7
   try clear hb8
   try clear hb9
   try clear hb10
   try clear hb11
   try clear hb12
   try clear k1
   try clear k2
   try clear k3
   go_wp2; go_ret
   exact ⟨by rw [← hA.out]; rfl,M.below⟩
 | false =>
   have k1:¬ p.kind=1:=by simpa using hb1.symm
   go_upto_region 3 with fail; refine wp_region_list ?_
   obtain ⟨b13,hb13⟩:∃ y_,y_=((p.kind:Int) == (2:Int)):=⟨_,rfl⟩
   refine xaL (.bool b13) (eqlI .i64 _ _ _ _ _ _ rfl rfl rfl b13 hb13.symm _) ?_; refine xpL (.bool b13) ?_; refine xT ?_
   cases b13 with
   | true =>
     have k2:p.kind=2:=by simpa using hb13.symm
     go_upto_region 4 with fail; refine wp_region_list ?_; refine xpL (.pointer (some ⟨B1,5,none⟩)) ?_; refine xaL (.slice bp p.body.length bc) (load1 29 _ ⟨B1,5,none⟩ _ rfl rfl (fun _=>by kernel_rfl) (M.get mS 5 _ rfl)) ?_; refine xaL (.int .i64 ((p.body.length:Nat):Int)) (lenS _ 29 5 bp p.body.length bc rfl Tryz.underlying29 rfl _) ?_
     obtain ⟨b14,hb14⟩:∃ y_,y_=(decide (((p.body.length:Nat):Int)≥1)):=⟨_,rfl⟩
     refine xaL (.bool b14) (geqI .i64 _ _ _ _ _ _ rfl rfl rfl b14 hb14.symm _) ?_; refine xpL (.bool b14) ?_
     refine mayL (b14) (.pointer (some ⟨B1,5,none⟩)) ((bif b14 then (.pointer (some ⟨B1,5,none⟩)) else undef)) (by cases b14 <;> rfl) (by cases b14 <;> rfl) (fun hc=>by cases b14 <;> first | (cases hc; done) | kernel_rfl) ?_
     simp only [aP,lI,l0,lS]
     refine mayL (b14) (.slice bp p.body.length bc) ((bif b14 then (.slice bp p.body.length bc) else undef)) (by cases b14 <;> rfl) (by cases b14 <;> rfl) (fun hc=>by cases b14 <;> first | (cases hc; done) | exact (load1 29 _ ⟨B1,5,none⟩ _ rfl rfl (fun _=>by kernel_rfl) (M.get mS 5 _ rfl))) ?_
     simp only [aP,lI,l0,lS]
     refine mayL (b14) (.int .i64 ((p.body.length:Nat):Int)) ((bif b14 then (.int .i64 ((p.body.length:Nat):Int)) else undef)) (by cases b14 <;> rfl) (by cases b14 <;> rfl) (fun hc=>by cases b14 <;> first | (cases hc; done) | exact (lenS _ 29 5 bp p.body.length bc rfl Tryz.underlying29 rfl _)) ?_
     simp only [aP,lI,l0,lS]
     obtain ⟨b15,hb15⟩:∃ y_,y_=(decide (((p.body.length:Nat):Int)≤300)):=⟨_,rfl⟩
     refine mayL (b14) (.bool b15) ((bif b14 then (.bool b15) else undef)) (by cases b14 <;> rfl) (by cases b14 <;> rfl) (fun hc=>by cases b14 <;> first | (cases hc; done) | exact (leqI .i64 _ _ _ _ _ _ rfl rfl rfl b15 hb15.symm _)) ?_
     simp only [aP,lI,l0,lS]
     obtain ⟨b16,hb16⟩:∃ y_,y_=(b14&&b15):=⟨_,rfl⟩
     refine xaL (.bool b16) (by subst hb16; cases b14 <;> rfl) ?_; refine xpL (.bool b16) ?_
     refine mayL (b16) (.pointer (some ⟨B1,1,none⟩)) ((bif b16 then (.pointer (some ⟨B1,1,none⟩)) else undef)) (by cases b16 <;> rfl) (by cases b16 <;> rfl) (fun hc=>by cases b16 <;> first | (cases hc; done) | kernel_rfl) ?_
     simp only [aP,lI,l0,lS]
     refine mayL (b16) (.int .i64 p.role) ((bif b16 then (.int .i64 p.role) else undef)) (by cases b16 <;> rfl) (by cases b16 <;> rfl) (fun hc=>by cases b16 <;> first | (cases hc; done) | exact (load1 3 _ ⟨B1,1,none⟩ _ rfl rfl (fun _=>by kernel_rfl) (M.get mS 1 _ rfl))) ?_
     simp only [aP,lI,l0,lS]
     obtain ⟨b17,hb17⟩:∃ y_,y_=((p.role:Int) == (0:Int)):=⟨_,rfl⟩
     refine mayL (b16) (.bool b17) ((bif b16 then (.bool b17) else undef)) (by cases b16 <;> rfl) (by cases b16 <;> rfl) (fun hc=>by cases b16 <;> first | (cases hc; done) | exact (eqlI .i64 _ _ _ _ _ _ rfl rfl rfl b17 hb17.symm _)) ?_
     simp only [aP,lI,l0,lS]
     obtain ⟨b18,hb18⟩:∃ y_,y_=(b16&&b17):=⟨_,rfl⟩
     refine xaL (.bool b18) (by subst hb18; cases b16 <;> rfl) ?_; refine xpL (.bool b18) ?_
     refine mayL (b18) (.pointer (some ⟨B1,2,none⟩)) ((bif b18 then (.pointer (some ⟨B1,2,none⟩)) else undef)) (by cases b18 <;> rfl) (by cases b18 <;> rfl) (fun hc=>by cases b18 <;> first | (cases hc; done) | kernel_rfl) ?_
     simp only [aP,lI,l0,lS]
     refine mayL (b18) (.int .i64 p.path) ((bif b18 then (.int .i64 p.path) else undef)) (by cases b18 <;> rfl) (by cases b18 <;> rfl) (fun hc=>by cases b18 <;> first | (cases hc; done) | exact (load1 3 _ ⟨B1,2,none⟩ _ rfl rfl (fun _=>by kernel_rfl) (M.get mS 2 _ rfl))) ?_
     simp only [aP,lI,l0,lS]
     obtain ⟨b19,hb19⟩:∃ y_,y_=((p.path:Int) == (0:Int)):=⟨_,rfl⟩
     refine mayL (b18) (.bool b19) ((bif b18 then (.bool b19) else undef)) (by cases b18 <;> rfl) (by cases b18 <;> rfl) (fun hc=>by cases b18 <;> first | (cases hc; done) | exact (eqlI .i64 _ _ _ _ _ _ rfl rfl rfl b19 hb19.symm _)) ?_
     simp only [aP,lI,l0,lS]
     obtain ⟨b20,hb20⟩:∃ y_,y_=(b18&&b19):=⟨_,rfl⟩
     refine xaL (.bool b20) (by subst hb20; cases b18 <;> rfl) ?_; refine xpL (.bool b20) ?_
     refine mayL (b20) (.pointer (some ⟨B1,3,none⟩)) ((bif b20 then (.pointer (some ⟨B1,3,none⟩)) else undef)) (by cases b20 <;> rfl) (by cases b20 <;> rfl) (fun hc=>by cases b20 <;> first | (cases hc; done) | kernel_rfl) ?_
     simp only [aP,lI,l0,lS]
     refine mayL (b20) (.int .i64 p.epo) ((bif b20 then (.int .i64 p.epo) else undef)) (by cases b20 <;> rfl) (by cases b20 <;> rfl) (fun hc=>by cases b20 <;> first | (cases hc; done) | exact (load1 3 _ ⟨B1,3,none⟩ _ rfl rfl (fun _=>by kernel_rfl) (M.get mS 3 _ rfl))) ?_
     simp only [aP,lI,l0,lS]
     obtain ⟨b21,hb21⟩:∃ y_,y_=((p.epo:Int) == (0:Int)):=⟨_,rfl⟩
     refine mayL (b20) (.bool b21) ((bif b20 then (.bool b21) else undef)) (by cases b20 <;> rfl) (by cases b20 <;> rfl) (fun hc=>by cases b20 <;> first | (cases hc; done) | exact (eqlI .i64 _ _ _ _ _ _ rfl rfl rfl b21 hb21.symm _)) ?_
     simp only [aP,lI,l0,lS]
     obtain ⟨b22,hb22⟩:∃ y_,y_=(b20&&b21):=⟨_,rfl⟩
     refine xaL (.bool b22) (by subst hb22; cases b20 <;> rfl) ?_; refine xpL (.bool b22) ?_
     refine mayL (b22) (.pointer (some ⟨B1,4,none⟩)) ((bif b22 then (.pointer (some ⟨B1,4,none⟩)) else undef)) (by cases b22 <;> rfl) (by cases b22 <;> rfl) (fun hc=>by cases b22 <;> first | (cases hc; done) | kernel_rfl) ?_
     simp only [aP,lI,l0,lS]
     refine mayL (b22) (.int .i64 p.ctr) ((bif b22 then (.int .i64 p.ctr) else undef)) (by cases b22 <;> rfl) (by cases b22 <;> rfl) (fun hc=>by cases b22 <;> first | (cases hc; done) | exact (load1 3 _ ⟨B1,4,none⟩ _ rfl rfl (fun _=>by kernel_rfl) (M.get mS 4 _ rfl))) ?_
     simp only [aP,lI,l0,lS]
     obtain ⟨b23,hb23⟩:∃ y_,y_=((p.ctr:Int) == (0:Int)):=⟨_,rfl⟩
     refine mayL (b22) (.bool b23) ((bif b22 then (.bool b23) else undef)) (by cases b22 <;> rfl) (by cases b22 <;> rfl) (fun hc=>by cases b22 <;> first | (cases hc; done) | exact (eqlI .i64 _ _ _ _ _ _ rfl rfl rfl b23 hb23.symm _)) ?_
     simp only [aP,lI,l0,lS]
     obtain ⟨b24,hb24⟩:∃ y_,y_=(b22&&b23):=⟨_,rfl⟩
     refine xaL (.bool b24) (by subst hb24; cases b22 <;> rfl) ?_; refine xpL (.bool b24) ?_; refine xT ?_
     have hA:b24=pok p:=by
      rw [pok_hlo (by omega)]
      apply Bool.eq_iff_iff.2
      simp only [hb14,hb15,hb16,hb17,hb18,hb19,hb20,hb21,hb22,hb23,hb24,xbA,decide_eq_true_eq,beq_iff_eq]
      unfold Hlo
      omega
     replace hA:=show Hid _ from hA
     try clear hb1
     try clear hb13
     try clear hb14
     try clear hb15
     try clear hb16
     try clear hb17
     try clear hb18
     try clear hb19
     try clear hb20
     try clear hb21
     try clear hb22
     try clear hb23
     try clear hb24
     try clear k1
     try clear k2
     try clear k3
     go_wp2; go_ret
     exact ⟨by rw [← hA.out]; rfl,M.below⟩
   | false =>
     have k2:¬ p.kind=2:=by simpa using hb13.symm
     go_upto_region 5 with fail; refine wp_region_list ?_
     obtain ⟨b25,hb25⟩:∃ y_,y_=((p.kind:Int) == (3:Int)):=⟨_,rfl⟩
     refine xaL (.bool b25) (eqlI .i64 _ _ _ _ _ _ rfl rfl rfl b25 hb25.symm _) ?_; refine xpL (.bool b25) ?_; refine xT ?_
     cases b25 with
     | true =>
       have k3:p.kind=3:=by simpa using hb25.symm
       go_upto_region 6 with fail; refine wp_region_list ?_; refine xpL (.pointer (some ⟨B1,1,none⟩)) ?_; refine xaL (.int .i64 p.role) (load1 3 _ ⟨B1,1,none⟩ _ rfl rfl (fun _=>by kernel_rfl) (M.get mS 1 _ rfl)) ?_
       obtain ⟨b26,hb26⟩:∃ y_,y_=(decide (p.role≥0)):=⟨_,rfl⟩
       refine xaL (.bool b26) (geqI .i64 _ _ _ _ _ _ rfl rfl rfl b26 hb26.symm _) ?_; refine xpL (.bool b26) ?_
       refine mayL (b26) (.pointer (some ⟨B1,1,none⟩)) ((bif b26 then (.pointer (some ⟨B1,1,none⟩)) else undef)) (by cases b26 <;> rfl) (by cases b26 <;> rfl) (fun hc=>by cases b26 <;> first | (cases hc; done) | kernel_rfl) ?_
       simp only [aP,lI,l0,lS]
       refine mayL (b26) (.int .i64 p.role) ((bif b26 then (.int .i64 p.role) else undef)) (by cases b26 <;> rfl) (by cases b26 <;> rfl) (fun hc=>by cases b26 <;> first | (cases hc; done) | exact (load1 3 _ ⟨B1,1,none⟩ _ rfl rfl (fun _=>by kernel_rfl) (M.get mS 1 _ rfl))) ?_
       simp only [aP,lI,l0,lS]
       obtain ⟨b27,hb27⟩:∃ y_,y_=(decide (p.role≤1)):=⟨_,rfl⟩
       refine mayL (b26) (.bool b27) ((bif b26 then (.bool b27) else undef)) (by cases b26 <;> rfl) (by cases b26 <;> rfl) (fun hc=>by cases b26 <;> first | (cases hc; done) | exact (leqI .i64 _ _ _ _ _ _ rfl rfl rfl b27 hb27.symm _)) ?_
       simp only [aP,lI,l0,lS]
       obtain ⟨b28,hb28⟩:∃ y_,y_=(b26&&b27):=⟨_,rfl⟩
       refine xaL (.bool b28) (by subst hb28; cases b26 <;> rfl) ?_; refine xpL (.bool b28) ?_
       refine mayL (b28) (.pointer (some ⟨B1,2,none⟩)) ((bif b28 then (.pointer (some ⟨B1,2,none⟩)) else undef)) (by cases b28 <;> rfl) (by cases b28 <;> rfl) (fun hc=>by cases b28 <;> first | (cases hc; done) | kernel_rfl) ?_
       simp only [aP,lI,l0,lS]
       refine mayL (b28) (.int .i64 p.path) ((bif b28 then (.int .i64 p.path) else undef)) (by cases b28 <;> rfl) (by cases b28 <;> rfl) (fun hc=>by cases b28 <;> first | (cases hc; done) | exact (load1 3 _ ⟨B1,2,none⟩ _ rfl rfl (fun _=>by kernel_rfl) (M.get mS 2 _ rfl))) ?_
       simp only [aP,lI,l0,lS]
       obtain ⟨b29,hb29⟩:∃ y_,y_=(decide (p.path≥0)):=⟨_,rfl⟩
       refine mayL (b28) (.bool b29) ((bif b28 then (.bool b29) else undef)) (by cases b28 <;> rfl) (by cases b28 <;> rfl) (fun hc=>by cases b28 <;> first | (cases hc; done) | exact (geqI .i64 _ _ _ _ _ _ rfl rfl rfl b29 hb29.symm _)) ?_
       simp only [aP,lI,l0,lS]
       obtain ⟨b30,hb30⟩:∃ y_,y_=(b28&&b29):=⟨_,rfl⟩
       refine xaL (.bool b30) (by subst hb30; cases b28 <;> rfl) ?_; refine xpL (.bool b30) ?_
       refine mayL (b30) (.pointer (some ⟨B1,2,none⟩)) ((bif b30 then (.pointer (some ⟨B1,2,none⟩)) else undef)) (by cases b30 <;> rfl) (by cases b30 <;> rfl) (fun hc=>by cases b30 <;> first | (cases hc; done) | kernel_rfl) ?_
       simp only [aP,lI,l0,lS]
       refine mayL (b30) (.int .i64 p.path) ((bif b30 then (.int .i64 p.path) else undef)) (by cases b30 <;> rfl) (by cases b30 <;> rfl) (fun hc=>by cases b30 <;> first | (cases hc; done) | exact (load1 3 _ ⟨B1,2,none⟩ _ rfl rfl (fun _=>by kernel_rfl) (M.get mS 2 _ rfl))) ?_
       simp only [aP,lI,l0,lS]
       obtain ⟨b31,hb31⟩:∃ y_,y_=(decide (p.path≤255)):=⟨_,rfl⟩
       refine mayL (b30) (.bool b31) ((bif b30 then (.bool b31) else undef)) (by cases b30 <;> rfl) (by cases b30 <;> rfl) (fun hc=>by cases b30 <;> first | (cases hc; done) | exact (leqI .i64 _ _ _ _ _ _ rfl rfl rfl b31 hb31.symm _)) ?_
       simp only [aP,lI,l0,lS]
       obtain ⟨b32,hb32⟩:∃ y_,y_=(b30&&b31):=⟨_,rfl⟩
       refine xaL (.bool b32) (by subst hb32; cases b30 <;> rfl) ?_; refine xpL (.bool b32) ?_
       refine mayL (b32) (.pointer (some ⟨B1,3,none⟩)) ((bif b32 then (.pointer (some ⟨B1,3,none⟩)) else undef)) (by cases b32 <;> rfl) (by cases b32 <;> rfl) (fun hc=>by cases b32 <;> first | (cases hc; done) | kernel_rfl) ?_
       simp only [aP,lI,l0,lS]
       refine mayL (b32) (.int .i64 p.epo) ((bif b32 then (.int .i64 p.epo) else undef)) (by cases b32 <;> rfl) (by cases b32 <;> rfl) (fun hc=>by cases b32 <;> first | (cases hc; done) | exact (load1 3 _ ⟨B1,3,none⟩ _ rfl rfl (fun _=>by kernel_rfl) (M.get mS 3 _ rfl))) ?_
       simp only [aP,lI,l0,lS]
       obtain ⟨b33,hb33⟩:∃ y_,y_=(decide (p.epo≥0)):=⟨_,rfl⟩
       refine mayL (b32) (.bool b33) ((bif b32 then (.bool b33) else undef)) (by cases b32 <;> rfl) (by cases b32 <;> rfl) (fun hc=>by cases b32 <;> first | (cases hc; done) | exact (geqI .i64 _ _ _ _ _ _ rfl rfl rfl b33 hb33.symm _)) ?_
       simp only [aP,lI,l0,lS]
       obtain ⟨b34,hb34⟩:∃ y_,y_=(b32&&b33):=⟨_,rfl⟩
       refine xaL (.bool b34) (by subst hb34; cases b32 <;> rfl) ?_; refine xpL (.bool b34) ?_
       refine mayL (b34) (.pointer (some ⟨B1,3,none⟩)) ((bif b34 then (.pointer (some ⟨B1,3,none⟩)) else undef)) (by cases b34 <;> rfl) (by cases b34 <;> rfl) (fun hc=>by cases b34 <;> first | (cases hc; done) | kernel_rfl) ?_
       simp only [aP,lI,l0,lS]
       refine mayL (b34) (.int .i64 p.epo) ((bif b34 then (.int .i64 p.epo) else undef)) (by cases b34 <;> rfl) (by cases b34 <;> rfl) (fun hc=>by cases b34 <;> first | (cases hc; done) | exact (load1 3 _ ⟨B1,3,none⟩ _ rfl rfl (fun _=>by kernel_rfl) (M.get mS 3 _ rfl))) ?_
       simp only [aP,lI,l0,lS]
       obtain ⟨b35,hb35⟩:∃ y_,y_=(decide (p.epo≤65535)):=⟨_,rfl⟩
       refine mayL (b34) (.bool b35) ((bif b34 then (.bool b35) else undef)) (by cases b34 <;> rfl) (by cases b34 <;> rfl) (fun hc=>by cases b34 <;> first | (cases hc; done) | exact (leqI .i64 _ _ _ _ _ _ rfl rfl rfl b35 hb35.symm _)) ?_
       simp only [aP,lI,l0,lS]
       obtain ⟨b36,hb36⟩:∃ y_,y_=(b34&&b35):=⟨_,rfl⟩
       refine xaL (.bool b36) (by subst hb36; cases b34 <;> rfl) ?_; refine xpL (.bool b36) ?_
       refine mayL (b36) (.pointer (some ⟨B1,4,none⟩)) ((bif b36 then (.pointer (some ⟨B1,4,none⟩)) else undef)) (by cases b36 <;> rfl) (by cases b36 <;> rfl) (fun hc=>by cases b36 <;> first | (cases hc; done) | kernel_rfl) ?_
       simp only [aP,lI,l0,lS]
       refine mayL (b36) (.int .i64 p.ctr) ((bif b36 then (.int .i64 p.ctr) else undef)) (by cases b36 <;> rfl) (by cases b36 <;> rfl) (fun hc=>by cases b36 <;> first | (cases hc; done) | exact (load1 3 _ ⟨B1,4,none⟩ _ rfl rfl (fun _=>by kernel_rfl) (M.get mS 4 _ rfl))) ?_
       simp only [aP,lI,l0,lS]
       obtain ⟨b37,hb37⟩:∃ y_,y_=(decide (p.ctr≥0)):=⟨_,rfl⟩
       refine mayL (b36) (.bool b37) ((bif b36 then (.bool b37) else undef)) (by cases b36 <;> rfl) (by cases b36 <;> rfl) (fun hc=>by cases b36 <;> first | (cases hc; done) | exact (geqI .i64 _ _ _ _ _ _ rfl rfl rfl b37 hb37.symm _)) ?_
       simp only [aP,lI,l0,lS]
       obtain ⟨b38,hb38⟩:∃ y_,y_=(b36&&b37):=⟨_,rfl⟩
       refine xaL (.bool b38) (by subst hb38; cases b36 <;> rfl) ?_; refine xpL (.bool b38) ?_
       refine mayL (b38) (.pointer (some ⟨B1,4,none⟩)) ((bif b38 then (.pointer (some ⟨B1,4,none⟩)) else undef)) (by cases b38 <;> rfl) (by cases b38 <;> rfl) (fun hc=>by cases b38 <;> first | (cases hc; done) | kernel_rfl) ?_
       simp only [aP,lI,l0,lS]
       refine mayL (b38) (.int .i64 p.ctr) ((bif b38 then (.int .i64 p.ctr) else undef)) (by cases b38 <;> rfl) (by cases b38 <;> rfl) (fun hc=>by cases b38 <;> first | (cases hc; done) | exact (load1 3 _ ⟨B1,4,none⟩ _ rfl rfl (fun _=>by kernel_rfl) (M.get mS 4 _ rfl))) ?_
       simp only [aP,lI,l0,lS]
       obtain ⟨b39,hb39⟩:∃ y_,y_=(decide (p.ctr≤281474976710655)):=⟨_,rfl⟩
       refine mayL (b38) (.bool b39) ((bif b38 then (.bool b39) else undef)) (by cases b38 <;> rfl) (by cases b38 <;> rfl) (fun hc=>by cases b38 <;> first | (cases hc; done) | exact (leqI .i64 _ _ _ _ _ _ rfl rfl rfl b39 hb39.symm _)) ?_
       simp only [aP,lI,l0,lS]
       obtain ⟨b40,hb40⟩:∃ y_,y_=(b38&&b39):=⟨_,rfl⟩
       refine xaL (.bool b40) (by subst hb40; cases b38 <;> rfl) ?_; refine xpL (.bool b40) ?_
       refine mayL (b40) (.pointer (some ⟨B1,5,none⟩)) ((bif b40 then (.pointer (some ⟨B1,5,none⟩)) else undef)) (by cases b40 <;> rfl) (by cases b40 <;> rfl) (fun hc=>by cases b40 <;> first | (cases hc; done) | kernel_rfl) ?_
       simp only [aP,lI,l0,lS]
       refine mayL (b40) (.slice bp p.body.length bc) ((bif b40 then (.slice bp p.body.length bc) else undef)) (by cases b40 <;> rfl) (by cases b40 <;> rfl) (fun hc=>by cases b40 <;> first | (cases hc; done) | exact (load1 29 _ ⟨B1,5,none⟩ _ rfl rfl (fun _=>by kernel_rfl) (M.get mS 5 _ rfl))) ?_
       simp only [aP,lI,l0,lS]
       refine mayL (b40) (.int .i64 ((p.body.length:Nat):Int)) ((bif b40 then (.int .i64 ((p.body.length:Nat):Int)) else undef)) (by cases b40 <;> rfl) (by cases b40 <;> rfl) (fun hc=>by cases b40 <;> first | (cases hc; done) | exact (lenS _ 29 5 bp p.body.length bc rfl Tryz.underlying29 rfl _)) ?_
       simp only [aP,lI,l0,lS]
       obtain ⟨b41,hb41⟩:∃ y_,y_=(decide (((p.body.length:Nat):Int)≥16)):=⟨_,rfl⟩
       refine mayL (b40) (.bool b41) ((bif b40 then (.bool b41) else undef)) (by cases b40 <;> rfl) (by cases b40 <;> rfl) (fun hc=>by cases b40 <;> first | (cases hc; done) | exact (geqI .i64 _ _ _ _ _ _ rfl rfl rfl b41 hb41.symm _)) ?_
       simp only [aP,lI,l0,lS]
       obtain ⟨b42,hb42⟩:∃ y_,y_=(b40&&b41):=⟨_,rfl⟩
       refine xaL (.bool b42) (by subst hb42; cases b40 <;> rfl) ?_; refine xpL (.bool b42) ?_
       refine mayL (b42) (.pointer (some ⟨B1,5,none⟩)) ((bif b42 then (.pointer (some ⟨B1,5,none⟩)) else undef)) (by cases b42 <;> rfl) (by cases b42 <;> rfl) (fun hc=>by cases b42 <;> first | (cases hc; done) | kernel_rfl) ?_
       simp only [aP,lI,l0,lS]
       refine mayL (b42) (.slice bp p.body.length bc) ((bif b42 then (.slice bp p.body.length bc) else undef)) (by cases b42 <;> rfl) (by cases b42 <;> rfl) (fun hc=>by cases b42 <;> first | (cases hc; done) | exact (load1 29 _ ⟨B1,5,none⟩ _ rfl rfl (fun _=>by kernel_rfl) (M.get mS 5 _ rfl))) ?_
       simp only [aP,lI,l0,lS]
       refine mayL (b42) (.int .i64 ((p.body.length:Nat):Int)) ((bif b42 then (.int .i64 ((p.body.length:Nat):Int)) else undef)) (by cases b42 <;> rfl) (by cases b42 <;> rfl) (fun hc=>by cases b42 <;> first | (cases hc; done) | exact (lenS _ 29 5 bp p.body.length bc rfl Tryz.underlying29 rfl _)) ?_
       simp only [aP,lI,l0,lS]
       obtain ⟨b43,hb43⟩:∃ y_,y_=(decide (((p.body.length:Nat):Int)≤272)):=⟨_,rfl⟩
       refine mayL (b42) (.bool b43) ((bif b42 then (.bool b43) else undef)) (by cases b42 <;> rfl) (by cases b42 <;> rfl) (fun hc=>by cases b42 <;> first | (cases hc; done) | exact (leqI .i64 _ _ _ _ _ _ rfl rfl rfl b43 hb43.symm _)) ?_
       simp only [aP,lI,l0,lS]
       obtain ⟨b44,hb44⟩:∃ y_,y_=(b42&&b43):=⟨_,rfl⟩
       refine xaL (.bool b44) (by subst hb44; cases b42 <;> rfl) ?_; refine xpL (.bool b44) ?_; refine xT ?_
       have hA:b44=pok p:=by
        rw [pok_rec k3]
        apply Bool.eq_iff_iff.2
        simp only [hb26,hb27,hb28,hb29,hb30,hb31,hb32,hb33,hb34,hb35,hb36,hb37,hb38,hb39,hb40,hb41,hb42,hb43,hb44,xbA,decide_eq_true_eq]
        unfold Rec
        omega
       replace hA:=show Hid _ from hA
       try clear hb1
       try clear hb13
       try clear hb25
       try clear hb26
       try clear hb27
       try clear hb28
       try clear hb29
       try clear hb30
       try clear hb31
       try clear hb32
       try clear hb33
       try clear hb34
       try clear hb35
       try clear hb36
       try clear hb37
       try clear hb38
       try clear hb39
       try clear hb40
       try clear hb41
       try clear hb42
       try clear hb43
       try clear hb44
       try clear k1
       try clear k2
       try clear k3
       go_wp2; go_ret
       exact ⟨by rw [← hA.out]; rfl,M.below⟩
     | false =>
       have k3:¬ p.kind=3:=by simpa using hb25.symm
       go_upto_region 7 with fail; refine wp_region_list ?_; refine xpL (.bool false) ?_; refine xT ?_
       have hA:false=pok p:=by
        rw [pok_none (by omega) k3]
       replace hA:=show Hid _ from hA
       try clear hb1
       try clear hb13
       try clear hb25
       try clear k1
       try clear k2
       try clear k3
       go_wp2; go_ret
       exact ⟨by rw [← hA.out]; rfl,M.below⟩
structure GGlob (w:World):Prop where
 a:AGlob w
 b:BGlob w
 p:PG w
theorem GGlob.size {w:World} (g:GGlob w):8≤w.heap.size:=g.b.size
theorem GGlob.below {w w':World} (g:GGlob w) (l:Below w.heap.size w w'):GGlob w':=⟨g.a.below l g.size,g.b.below l g.size,g.p.below l g.size⟩
theorem GGlob.mm {w w':World} (g:GGlob w) {l:List (Nat × List Value)} (h:Mm w l w'):GGlob w':=g.below h.below
def GrdI:=World→Value→Grd→List (Nat × List Value)→Prop
structure GrdOK (I:GrdI):Prop where
 ptr:∀ w v g bs,I w v g bs→∃ R,v=.pointer (some ⟨R,0,none⟩)
 off:∀ w w' v g bs X,I w v g bs→Off X w w'→(∀ b∈X,b∉bs.map Prod.fst)→I w' v g bs
 sel:∀ (w0 w:World) (v:Value) (g:Grd) (bs l:List (Nat × List Value)) (p:Int) (sp:Option Addr) (cap:Nat) (t:List Int),GGlob w0→GrdW g→i64 p→I w v g bs→t.length≤140737488351232→t.length≤cap→(sp=none→cap=0)→Byts t→Mm w0 (bs++l) w→SrcA (bs.map Prod.fst) w sp t.length (bl t) →
  Calls Tryz.prog 13 #[v,.int .i64 p,.slice sp t.length cap] w fun e w'=>∃ sq cq bs',e=.returned (.tuple #[.slice sq (gsB g p t).length cq,.int .i64 (gsE g p t.length)])∧NewL w' w.heap.size (gsB g p t) (.slice sq (gsB g p t).length cq)∧I w' v (gsN g p t.length) bs'∧Mm w0 (bs'++(obs sq++l)) w'∧Off (bs.map Prod.fst) w w'
 opn:∀ (w0 w:World) (v:Value) (g:Grd) (bs l:List (Nat × List Value)) (sp:Option Addr) (cap:Nat) (b:List Int),GGlob w0→GrdW g→(∀ e p,(g.win e p).length<1000000)→I w v g bs→b.length≤140737488351232→b.length≤cap→(sp=none→cap=0)→Byts b→Mm w0 (bs++l) w→SrcA (bs.map Prod.fst) w sp b.length (bl b) →
  Calls Tryz.prog 15 #[v,.slice sp b.length cap] w fun e w'=>∃ sq cq bs',e=.returned (.tuple #[.int .i64 (gbP g b),.int .i64 (gbC g b),.slice sq (gbT g b).length cq,.int .i64 (gbE g b)])∧NewL w' w.heap.size (gbT g b) (.slice sq (gbT g b).length cq)∧I w' v (gbN g b) bs'∧Mm w0 (bs'++(obs sq++l)) w'∧Off (bs.map Prod.fst) w w'
 adv:∀ (w0 w:World) (v:Value) (g:Grd) (bs l:List (Nat × List Value)),GGlob w0→GrdW g→I w v g bs→Mm w0 (bs++l) w →
  Calls Tryz.prog 11 #[v] w fun e w'=>∃ bs',e=.returned (.int .i64 (ynE g.out))∧I w' v (gaN g) bs'∧Mm w0 (bs'++l) w'∧Off (bs.map Prod.fst) w w'
 skp:∀ (w0 w:World) (v:Value) (g:Grd) (bs l:List (Nat × List Value)) (p n:Int),GrdW g→i64 p→i64 n→I w v g bs→Mm w0 (bs++l) w →
  Calls Tryz.prog 12 #[v,.int .i64 p,.int .i64 n] w fun e w'=>∃ bs',e=.returned (.int .i64 (gkE g p n))∧I w' v (gkN g p n) bs'∧Mm w0 (bs'++l) w'∧Off (bs.map Prod.fst) w w'
theorem GrdOK.bel {I:GrdI} (h:GrdOK I) {w w':World} {v:Value} {g:Grd} {bs:List (Nat × List Value)} (hI:I w v g bs) (l:Below w.heap.size w w'):I w' v g bs:=h.off w w' v g bs [] hI (Off.of_below l) (fun _ hb=>by cases hb)
def GrdNew (I:GrdI):Prop :=
 ∀ (w0 w:World) (l:List (Nat × List Value)) (role:Int) (o i:Nat→Int),GGlob w0→i64 role→In 256 32 o→In 256 32 i→Mm w0 l w →
  Calls Tryz.prog 9 #[.int .i64 role,.agg (row .u8 32 o).toArray,.agg (row .u8 32 i).toArray] w fun e w'=>∃ v bs,e=.returned v∧I w' v (gat role o i 0 0) bs∧Mm w0 (bs++l) w'∧Below w.heap.size w w'
structure Opp (g h:Grd):Prop where
 role:¬ g.role=h.role
 key:(g.out.e=h.inn.e∧h.inn.now=g.out.now)∨(g.out.e=h.inn.e+1∧g.out.now=ylt h.inn.now)∨(g.out.e=h.inn.e-1∧h.inn.has=true∧h.inn.last=g.out.now)
theorem Opp.epo {g h:Grd} (o:Opp g h):h.inn.e-1≤g.out.e∧g.out.e≤h.inn.e+1:=by
 rcases o.key with ⟨e,_⟩ | ⟨e,_⟩ | ⟨e,_⟩ <;> omega
theorem Opp.L {g h:Grd} (o:Opp g h) (hg:GrdW g) (p:Int) (b:List Int):goL h (gpk g p b)=0:=by
 have h1:=hg.out.hi
 show (if g.out.e=h.inn.e+1 then ynE h.inn else ykE h.inn g.out.e)=0
 rcases o.key with ⟨e,_⟩ | ⟨e,_⟩ | ⟨e,hh,_⟩
 · rw [if_neg (show ¬ g.out.e=h.inn.e+1 by omega)]
   exact ykE_now (show g.out.e=h.inn.e from e)
 · rw [if_pos (show g.out.e=h.inn.e+1 from e)]
   exact if_neg (by omega)
 · rw [if_neg (show ¬ g.out.e=h.inn.e+1 by omega)]
   exact ykE_last e hh
theorem Opp.K {g h:Grd} (o:Opp g h) (hg:GrdW g) (p:Int) (b:List Int):goK h (gpk g p b)=yof g.out.now:=by
 have h1:=hg.out.hi
 show (if g.out.e=h.inn.e+1 then ynK h.inn else ykK h.inn g.out.e)=yof g.out.now
 rcases o.key with ⟨e,k⟩ | ⟨e,k⟩ | ⟨e,hh,k⟩
 · rw [if_neg (show ¬ g.out.e=h.inn.e+1 by omega),← k]
   exact ykK_now (show g.out.e=h.inn.e from e)
 · rw [if_pos (show g.out.e=h.inn.e+1 from e),k]
   exact if_neg (by omega)
 · rw [if_neg (show ¬ g.out.e=h.inn.e+1 by omega),← k]
   exact ykK_last e hh
theorem Opp.opens {g h:Grd} (o:Opp g h) (hg:GrdW g) {p:Int} {t:List Int} (ht:Byts t) (hE:gsE g p t.length=0) (hc:wchk (h.win g.out.e p) (g.cnt p)=0) :
 gbE h (gsB g p t)=0∧gbP h (gsB g p t)=p∧gbC h (gsB g p t)=g.cnt p∧gbT h (gsB g p t)=t∧gbN h (gsB g p t)=goN h (gpk g p (gsT g p t))∧goR h (gpk g p (gsT g p t))=0:=by
 have hp:=gsB_pps hg hE
 obtain ⟨h1,h2⟩:=open_seal ht o.role o.epo (o.L hg p _) (o.K hg p _) hc
 exact ⟨(gbE_of hp).trans h1,gbP_of hp h1,gbC_of hp h1,(gbT_of hp h1).trans h2,gbN_of hp,h1⟩
theorem goR_again {h:Grd} {p:Pkt} (h0:goR h p=0):goR (goN h p) p=140:=by
 obtain ⟨h1,h2,h3,h4,h5,h6⟩:=goR_ok h0
 rw [goN_ok h0]
 have hw:wchk (wmk (h.win p.epo p.path) p.ctr) p.ctr=140:=wchk_marked h5
 by_cases he:p.epo=h.inn.e+1
 · rw [if_pos he]
   have hn:=goL_next h4 he
   have hi:(gmk (gon h) p).inn.e=h.inn.e+1:=by show (yad h.inn).e=_; rw [yad_on hn]
   have hwin:(gmk (gon h) p).win p.epo p.path=wmk (h.win p.epo p.path) p.ctr:=by
    show (if p.epo=p.epo∧p.path=p.path then wmk ((gon h).win p.epo p.path) p.ctr else _)=_
    rw [if_pos ⟨rfl,rfl⟩]
    show wmk (if p.epo<h.inn.e then [] else h.win p.epo p.path) p.ctr=_
    rw [if_neg (by omega)]
   refine goR_old h1 h2 (by rw [hi]; omega) ?_ (by rw [hwin,hw]; decide)
   unfold goL
   rw [if_neg (by rw [hi]; omega)]
   exact ykE_now (by rw [hi]; exact he)
 · rw [if_neg he]
   have hwin:(gmk h p).win p.epo p.path=wmk (h.win p.epo p.path) p.ctr:=by
    show (if p.epo=p.epo∧p.path=p.path then wmk (h.win p.epo p.path) p.ctr else _)=_
    rw [if_pos ⟨rfl,rfl⟩]
   exact goR_old h1 h2 h3 h4 (by rw [hwin,hw]; decide)
theorem gb_err {h:Grd} {b:List Int} (hE:¬ gbE h b=0):gbP h b=0∧gbC h b=0∧gbT h b=[]∧gbN h b=h:=by
 unfold gbE at hE
 unfold gbP gbC gbT gbN
 cases hp:pps b with
 | error e=>exact ⟨rfl,rfl,rfl,rfl⟩
 | ok p =>
   rw [hp] at hE
   have hE:¬ goR h p=0:=hE
   exact ⟨if_neg hE,if_neg hE,if_neg hE,goN_err hE⟩
theorem gbE_own {g h:Grd} (hg:GrdW g) {p:Int} {t:List Int} (hE:gsE g p t.length=0) (hr:g.role=h.role):gbE h (gsB g p t)=110:=(gbE_of (gsB_pps hg hE)).trans (goR_own hr)
theorem gsN_ok {g:Grd} {p:Int} {n:Nat} (h:gsE g p n=0):gsN g p n=gcn g p (g.cnt p+1):=if_pos h
theorem gsN_err {g:Grd} {p:Int} {n:Nat} (h:¬ gsE g p n=0):gsN g p n=g:=if_neg h
theorem goN_role (g:Grd) (p:Pkt):(goN g p).role=g.role:=by
 by_cases h:goR g p=0
 · rw [goN_ok h]
   by_cases e:p.epo=g.inn.e+1
   · rw [if_pos e]; rfl
   · rw [if_neg e]; rfl
 · rw [goN_err h]
theorem goN_now {g:Grd} {p:Pkt} (e:¬ p.epo=g.inn.e+1):(goN g p).inn=g.inn:=by
 by_cases h:goR g p=0
 · rw [goN_ok h,if_neg e]; rfl
 · rw [goN_err h]
theorem gkN_ok {g:Grd} {p n:Int} (h:gkE g p n=0):gkN g p n=gcn g p n:=if_pos h
theorem gaN_on {g:Grd} (h:¬ 65535≤g.out.e):gaN g={ g with out:=yad g.out,cnt:=fun _=>0 }:=if_neg h
def kdn (c:Int) (n:Nat):Nat:=(if c<0 then -(c+1) else c).toNat%n
theorem kdn_lt (c:Int) (n:Nat) (h:0<n):kdn c n<n:=Nat.mod_lt _ h
theorem row32 (f:Nat→Int):(row .u8 32 f).length=32:=row_length _ _ _
theorem setL_left:∀ (ds a rest:List Value),ds.length=a.length→setL (a++rest) 0 ds=ds++rest:=by
 have key:∀ (ds pre a rest:List Value),ds.length=a.length→setL (pre++(a++rest)) pre.length ds=pre++(ds++rest):=by
  intro ds
  induction ds with
  | nil =>
    intro pre a rest h
    have:a=[]:=List.eq_nil_of_length_eq_zero (by simpa using h.symm)
    subst this
    rfl
  | cons d ds ih =>
    intro pre a rest h
    cases a with
    | nil=>cases h
    | cons x a =>
      have h2:ds.length=a.length:=by simpa using h
      have e:(pre++(x::a++rest)).set pre.length d=(pre++[d])++(a++rest):=by simp
      show setL ((pre++(x::a++rest)).set pre.length d) (pre.length+1) ds=_
      rw [e]
      have:=ih (pre++[d]) a rest h2
      rw [List.length_append] at this
      rw [show pre.length+1=pre.length+[d].length from rfl,this]
      simp
 intro ds a rest h
 have:=key ds [] a rest h
 simpa using this
theorem setL_pre (pre:List Value):∀ (ds l:List Value) (o:Nat),setL (pre++l) (pre.length+o) ds=pre++setL l o ds
 | [],_,_=>rfl
 | d::ds,l,o=>by
   show setL ((pre++l).set (pre.length+o) d) (pre.length+o+1) ds=pre++setL (l.set o d) (o+1) ds
   rw [List.set_append_right _ _ (by omega),Nat.add_sub_cancel_left,Nat.add_assoc,setL_pre pre ds (l.set o d) (o+1)]
theorem flat_len (ps:List (List Value)) (ls:List Nat) (h:ps.map List.length=ls):ps.flatten.length=ls.sum:=by subst h; exact List.length_flatten
theorem flat_cut:∀ (ps:List (List Value)) (i:Nat) (p:List Value),ps[i]?=some p→∃ pre rest,ps.flatten=pre++(p++rest)∧pre.length=((ps.map List.length).take i).sum∧∀ ds,(ps.set i ds).flatten=pre++(ds++rest)
 | [],i,p,h=>by cases h
 | q::ps,0,p,h=>by
   obtain rfl:q=p:=by simpa using h
   exact ⟨[],ps.flatten,rfl,rfl,fun _=>rfl⟩
 | q::ps,i+1,p,h=>by
   obtain ⟨pre,rest,e1,e2,e3⟩:=flat_cut ps i p (by simpa using h)
   refine ⟨q++pre,rest,?_,?_,fun ds=>?_⟩
   · rw [List.flatten_cons,e1,List.append_assoc]
   · rw [List.length_append,e2]; simp
   · rw [List.set_cons_succ,List.flatten_cons,e3,List.append_assoc]
theorem flat_part (ps:List (List Value)) (ls:List Nat) (h:ps.map List.length=ls) (i o:Nat) (p:List Value) (hp:ps[i]?=some p) (ho:(ls.take i).sum=o):(ps.flatten.drop o).take p.length=p:=by
 subst h ho
 obtain ⟨pre,rest,e1,e2,_⟩:=flat_cut ps i p hp
 rw [e1,List.drop_left' e2,List.take_left]
theorem flat_get (ps:List (List Value)) (ls:List Nat) (h:ps.map List.length=ls) (i o:Nat) (v:Value) (hp:ps[i]?=some [v]) (ho:(ls.take i).sum=o):ps.flatten[o]?=some v:=by
 subst h ho
 obtain ⟨pre,rest,e1,e2,_⟩:=flat_cut ps i [v] hp
 rw [e1,← e2,List.getElem?_append_right (xnR _),Nat.sub_self]
 rfl
theorem flat_set (ps:List (List Value)) (ls:List Nat) (h:ps.map List.length=ls) (i o:Nat) (p ds:List Value) (hp:ps[i]?=some p) (ho:(ls.take i).sum=o) (hd:ds.length=p.length):setL ps.flatten o ds=(ps.set i ds).flatten:=by
 subst h ho
 obtain ⟨pre,rest,e1,e2,e3⟩:=flat_cut ps i p hp
 have:=setL_pre pre ds (p++rest) 0
 rw [Nat.add_zero,e2,setL_left _ _ _ hd] at this
 rw [e1,this,e3]
theorem flat_set1 (ps:List (List Value)) (ls:List Nat) (h:ps.map List.length=ls) (i o:Nat) (u v:Value) (hp:ps[i]?=some [u]) (ho:(ls.take i).sum=o):ps.flatten.set o v=(ps.set i [v]).flatten:=by
 have:=flat_set ps ls h i o [u] [v] hp ho rfl
 exact this
theorem Mm.neq {w0 w:World} {l:List (Nat × List Value)} (h:Mm w0 l w) {i j:Nat} {p q:Nat × List Value} (hi:l[i]?=some p) (hj:l[j]?=some q) (hij:i<j):p.1≠q.1:=by
 obtain ⟨i1,rfl⟩:=List.getElem?_eq_some_iff.1 hi
 obtain ⟨j1,rfl⟩:=List.getElem?_eq_some_iff.1 hj
 exact List.pairwise_iff_getElem.1 h.apart i j i1 j1 hij
section
section
variable {P:Program} {md:Region.Mode} {ops:Array Oper} {Q:Exit→Act→World→Prop} {S:World→Prop}
theorem actO {i:Nat} {oi:Oper} (dst:Option Tmp) (hdst:oi.dst=dst) {K:Act→World→Prop} {a:Act} {w w':World} (v:Value) (hi:ops[i]?=some oi) (hw:Region.wanted oi (yielded ops a.tmps)=true)
 (he:(execOp a.eval oi).run P w=.ok (.value v) w') (h:K (a.put dst v) w'):wpOp P ops Q i K a w:=by
 unfold wpOp
 simp only [hi,hw,if_true]; refine .inl ?_
 unfold Oper.wp
 rw [he]
 subst hdst
 exact h
theorem onlyH {i:Nat} {oi:Oper} (dst:Option Tmp) (hdst:oi.dst=dst) {fuel:Nat} {listed:Array Bool} {a:Act} {w w':World} (v:Value) (hr:Region.ready md ops listed=[i]) (hi:ops[i]?=some oi) (hw:Region.wanted oi (yielded ops a.tmps)=true)
 (he:(execOp a.eval oi).run P w=.ok (.value v) w') (hS:S w') (h:wpAnyH P md ops Q S fuel (listed.setIfInBounds i true) (a.put dst v) w'):wpAnyH P md ops Q S (fuel+1) listed a w :=
 ⟨fun h0=>(by rw [h0] at hr; cases hr),fun j hj=>by
  rw [hr] at hj
  obtain rfl:=xm1 hj
  exact actO dst hdst v hi hw he ⟨hS,h⟩⟩
end
end
def gone (x:Int):Nat→Int
 | 0=>x
 | _+1=>0
theorem gone_b (x:Int) (h0:0≤x) (h1:x<256):In 256 32 (gone x):=fun j _=>by
 cases j with
 | zero=>exact ⟨h0,h1⟩
 | succ j=>exact ⟨Int.le_refl _,show (0:Int)<256 by decide⟩
theorem kind16_any (c:Int) (n:Nat) (hn:0<n) (h1:i64 c) (w:World) :
 Calls Tryz.prog 10 #[.int .i64 c,.int .i64 (n:Int)] w fun e w'=>e=.returned (.int .i64 (kdn c n:Int))∧Below w.heap.size w w':=by
 unfold i64 at h1
 have M:=Mm.init w
 go_enter Tryz.func10,Tryz.ntmps10
 go_upto_region 0 with fail; refine wp_region_list ?_; refine xpL (.int .i64 0) ?_; refine xT ?_
 by_cases hc:c<0
 · go_upto_region 1 with fail
   refine wp_region_list ?_; refine xpL (.int .i64 c) ?_; refine xaL (.bool true) (lssI .i64 _ _ _ _ _ _ rfl rfl rfl true (decide_eq_true hc) _) ?_; refine xT ?_; go_upto_region 2 with fail; refine wp_region_list ?_; refine xpL (.int .i64 c) ?_; refine xaL (.int .i64 (c+1)) (addI .i64 _ _ _ _ _ _ _ rfl rfl rfl (by rw [xw6]; omega) _) ?_
   refine xaL (.int .i64 (-(c+1))) (negI .i64 _ _ _ _ rfl rfl (by rw [xw6]; omega) _) ?_; refine xpL (.int .i64 (-(c+1))) ?_; refine xT ?_
   have hrem:(-(c+1)).tmod (n:Int)=((kdn c n:Nat):Int):=by
    unfold kdn
    rw [if_pos hc]
    obtain ⟨m,hm⟩:∃ m:Nat,-(c+1)=(m:Int):=⟨(-(c+1)).toNat,by omega⟩
    rw [hm,Int.toNat_natCast]
    rfl
   go_upto_region 3 with fail; refine wp_region_list ?_; refine xpL (.int .i64 (-(c+1))) ?_; refine xpL (.int .i64 (n:Int)) ?_; refine xaL (.int .i64 ((kdn c n:Nat):Int)) (remI .i64 _ _ _ _ _ _ _ rfl rfl rfl (by omega) hrem _) ?_; refine xpL (.int .i64 ((kdn c n:Nat):Int)) ?_; refine xT ?_; have hB:=M.below; clear M; go_wp2; go_ret
   exact ⟨rfl,hB⟩
 · go_upto_region 1 with fail
   refine wp_region_list ?_; refine xpL (.int .i64 c) ?_; refine xaL (.bool false) (lssI .i64 _ _ _ _ _ _ rfl rfl rfl false (decide_eq_false hc) _) ?_; refine xT ?_
   have hrem:(c).tmod (n:Int)=((kdn c n:Nat):Int):=by
    unfold kdn
    rw [if_neg hc]
    obtain ⟨m,hm⟩:∃ m:Nat,c=(m:Int):=⟨(c).toNat,by omega⟩
    rw [hm,Int.toNat_natCast]
    rfl
   go_upto_region 3 with fail; refine wp_region_list ?_; refine xpL (.int .i64 c) ?_; refine xpL (.int .i64 (n:Int)) ?_; refine xaL (.int .i64 ((kdn c n:Nat):Int)) (remI .i64 _ _ _ _ _ _ _ rfl rfl rfl (by omega) hrem _) ?_; refine xpL (.int .i64 ((kdn c n:Nat):Int)) ?_; refine xT ?_; have hB:=M.below; clear M; go_wp2; go_ret
   exact ⟨rfl,hB⟩
end Go.Proofs.YtknodedhcdpbiaaGreatDoor
