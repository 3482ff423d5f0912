/- Texts of Va Qa Oa Ya Yo Mx My Ob Oc Od Yb Yd Za Words, joined. -/
import Derived.Test.YtklnibmfpcmeeaaGreatDoorP8ShakeAgrees
set_option maxRecDepth 20000
set_option maxHeartbeats 64000000
namespace Go.Proofs.YtklnibmfpcmeeaaGreatDoor
open Go.RowKit
def vsz (n:Nat):Nat:=if n<64 then 1 else if n<16384 then 2 else if n<1073741824 then 4 else 8
def vkd (k:Nat):Nat:=if k=1 then 0 else if k=2 then 1 else if k=4 then 2 else 3
def fby (n s j:Nat):Int:=((n/256^(s-1-j)%256:Nat):Int)
def vby (n j:Nat):Int:=fby n (vsz n) j+(if j=0 then ((64*vkd (vsz n):Nat):Int) else 0)
def tV (z:Nat→Int):Nat→Int
 | 0=>z 0%64
 | i+1=>tV z i*256+z (i+1)
def tK (b:Int):Nat:=2^(b/64).toNat
def tE (len:Nat) (z:Nat→Int):Int:=if len=0 then 3 else if len<tK (z 0) then 3 else if vsz (tV z (tK (z 0)-1)).toNat≠tK (z 0) then 90 else 0
def tN (len:Nat) (z:Nat→Int):Int:=if tE len z=0 then tV z (tK (z 0)-1) else 0
def vlst (n:Nat):List Int:=(List.range (vsz n)).map (vby n)
theorem bl_app (a b:List Int) (j:Nat):bl (a++b) j=if j<a.length then bl a j else bl b (j-a.length):=by
 unfold bl
 simp only [List.getD_eq_getElem?_getD,List.getElem?_append]
 split <;> rfl
def Byts (b:List Int):Prop:=∀ x∈b,0≤x∧x<256
theorem Byts.bl {b:List Int} (h:Byts b):In 256 b.length (bl b):=fun j hj=>by
 unfold Go.Proofs.YtklnibmfpcmeeaaGreatDoor.bl
 rw [List.getD_eq_getElem?_getD,List.getElem?_eq_getElem hj]
 exact h _ (List.getElem_mem hj)
theorem Byts.drop {b:List Int} (h:Byts b) (n:Nat):Byts (b.drop n):=fun x hx=>h x (List.mem_of_mem_drop hx)
theorem Byts.take {b:List Int} (h:Byts b) (n:Nat):Byts (b.take n):=fun x hx=>h x (List.mem_of_mem_take hx)
theorem bl_ext {a b:List Int} (hl:a.length=b.length) (h:∀ j,j<a.length→bl a j=bl b j):a=b:=by
 apply List.ext_getElem hl
 intro j h1 h2
 have:=h j h1
 unfold bl at this
 rw [List.getD_eq_getElem?_getD,List.getD_eq_getElem?_getD,List.getElem?_eq_getElem h1,List.getElem?_eq_getElem h2] at this
 exact this
theorem bl_take (b:List Int) (n j:Nat) (h:j<n):bl (b.take n) j=bl b j:=by
 unfold bl
 simp [h]
def nm (b:List Int):Except Int (Int × List Int):=if tE b.length (bl b)=0 then .ok (tN b.length (bl b),b.drop (tK (bl b 0))) else .error (tE b.length (bl b))
def MX:Int:=4611686018427387903
def rd:Nat→Int→List Int→Except Int (List (Int × Int) × List Int)
 | 0,_,b=>.ok ([],b)
 | n+1,last,b=>match nm b with
   | .error e=>.error e
   | .ok (g,b1)=>match nm b1 with
     | .error e=>.error e
     | .ok (l,b2)=>if MX-last<g∨MX-last-g<l then .error 100 else match rd n (last+g+l) b2 with
       | .error e=>.error e
       | .ok (rs,b3)=>.ok ((last+g,last+g+l)::rs,b3)
def tx (b:List Int):Except Int (List Int × List Int):=match nm b with
 | .error e=>.error e
 | .ok (n,r)=>if 128<n then .error 2 else if (r.length:Int)<n then .error 3 else .ok (r.take n.toNat,r.drop n.toNat)
def ren:List (Int × Int)→Int→List Int
 | [],_=>[]
 | p::l,last=>vlst (p.1-last).toNat++(vlst (p.2-p.1).toNat++ren l p.2)
def rok:List (Int × Int)→Int→Bool→Int→Bool
 | [],_,_,_=>true
 | p::l,fr,ab,upb=>!(decide (p.1<fr) || (ab&&p.1 == fr) || decide (p.2≤p.1) || decide (upb<p.2))&&rok l p.2 true upb
structure Frm where
 kind:Int
 pos:Int
 lim:Int
 rg:List (Int × Int)
 byt:List Int
 tok:List Int
def z8:List Int:=[0,0,0,0,0,0,0,0]
def nmb (n:Int):Bool:=decide (0≤n)&&decide (n≤MX)
def rise (l:List (Int × Int)) (fr:Int) (ab:Bool) (upb:Int):Bool:=rok l fr ab upb&&decide (l.length≤8)
def fkd (f:Frm):Bool :=
 if f.kind=1 then decide (1≤f.byt.length)&&decide (f.byt.length≤128)
 else if f.kind=2 then nmb f.pos&&nmb f.lim&&rise f.rg f.pos true MX
 else if f.kind=3∨f.kind=4 then f.pos == 0
 else if f.kind=5 then decide (f.pos≤65535)
 else if f.kind=6 then true
 else if f.kind=7 then nmb f.pos&&decide (0≤f.lim)&&decide (f.lim≤65535)&&rise f.rg 0 false f.pos
 else false
def foth (f:Frm):Bool :=
 (decide (f.kind≠1)&&decide (0<f.byt.length)) || (decide (f.kind≠2∧f.kind≠7)&&decide (f.lim≠0)) || (decide (f.kind≠2∧f.kind≠7)&&decide (0<f.rg.length)) || (decide (f.kind≠3∧f.kind≠4)&&decide (f.tok≠z8))
def fok (f:Frm):Bool:=fkd f&&!foth f&&nmb f.pos
def fbo (f:Frm):List Int :=
 if f.kind=3∨f.kind=4 then f.tok
 else vlst f.pos.toNat++(if f.kind=1 then vlst f.byt.length++f.byt else if f.kind=2∨f.kind=7 then vlst f.lim.toNat++(vlst f.rg.length++ren f.rg (if f.kind=2 then f.pos else 0)) else [])
def fen (f:Frm):List Int:=f.kind::fbo f
def fp (k:Int) (b:List Int):Except Int (Frm × List Int) :=
 if k=3∨k=4 then (if b.length<8 then .error 3 else .ok (⟨k,0,0,[],[],b.take 8⟩,b.drop 8))
 else match nm b with
  | .error e=>.error e
  | .ok (a,b1) =>
    if k=1 then (match tx b1 with
     | .error e=>.error e
     | .ok (t,b2)=>.ok (⟨k,a,0,[],t,z8⟩,b2))
    else if k=2∨k=7 then (match nm b1 with
     | .error e=>.error e
     | .ok (l,b2)=>match nm b2 with
       | .error e=>.error e
       | .ok (n,b3)=>if 8<n then .error 100 else match rd n.toNat (if k=2 then a else 0) b3 with
         | .error e=>.error e
         | .ok (rs,b4)=>.ok (⟨k,a,l,rs,[],z8⟩,b4))
    else .ok (⟨k,a,0,[],[],z8⟩,b1)
def enb:List Frm→List Int
 | []=>[]
 | f::l=>fen f++enb l
def en (l:List Frm):Except Int (List Int):=if 16<l.length then .error 2 else if l.all fok=false then .error 100 else if 256<(enb l).length then .error 2 else .ok (enb l)
theorem bl_app' (a b:List Int) (j:Nat):app (bl a) a.length (bl b) j=bl (a++b) j:=by
 rw [bl_app]
 rfl
theorem bl_range (n:Nat) (f:Nat→Int) (j:Nat) (h:j<n):bl ((List.range n).map f) j=f j:=by
 unfold bl
 simp [List.getD_eq_getElem?_getD,h]
structure Sym where
 h:Nat→Int
 c:Nat→Int
 k:Nat→Int
 has:Bool
 n:Nat
structure SymW (s:Sym):Prop where
 h:In 256 32 s.h
 c:In 256 32 s.c
 k:In 256 32 s.k
def smix (s:Sym) (b:List Int):Sym:={ s with h:=bhash (32+b.length) (app s.h 32 (bl b)) }
def skey (s:Sym) (b:List Int):Sym:={ s with c:=kA s.c b.length (bl b),k:=kB s.c b.length (bl b),has:=true,n:=0 }
def snz (n:Nat):Nat→Int:=fun j=>if j<4 then 0 else dig n (j-4)
theorem snz_in (n:Nat):In 256 12 (snz n):=fun j _=>by
 unfold snz
 split
 · exact ⟨Int.le_refl _,show (0:Int)<256 by decide⟩
 · exact dig_in n (j-4+1) _ (by omega)
def sout (s:Sym) (t:List Int):List Int:=if s.has=true then (List.range (t.length+16)).map (aout s.k (snz s.n) 32 s.h t.length (bl t)) else t
def snext (s:Sym):Sym:=if s.has=true then { s with n:=s.n+1 } else s
def sseal (s:Sym) (t:List Int):Sym:=smix (snext s) (sout s t)
def soE (s:Sym) (b:List Int):Int:=if s.has=true then aoE s.k (snz s.n) 32 s.h b.length (bl b) else 0
def soT (s:Sym) (b:List Int):List Int:=if s.has=true then (List.range (aoL s.k (snz s.n) 32 s.h b.length (bl b))).map (hxor s.k 1 (snz s.n) (bl b)) else b
def sopen (s:Sym) (b:List Int):Sym:=if soE s b=0 then smix (snext s) b else s
theorem aok_congr {k n:Nat→Int} {m:Nat} {b:Nat→Int} {len:Nat} {z y:Nat→Int} (h:∀ j,j<len→z j=y j):aok k n m b len z↔aok k n m b len y:=by
 unfold aok
 constructor
 · rintro ⟨h1,h2⟩
   refine ⟨h1,?_⟩
   rw [atg_congr k n m b b (len-16) y z (fun _ _=>rfl) (fun j hj=>(h j (by omega)).symm),h2]
   exact val_congr 256 16 fun j hj=>h _ (by omega)
 · rintro ⟨h1,h2⟩
   refine ⟨h1,?_⟩
   rw [atg_congr k n m b b (len-16) z y (fun _ _=>rfl) (fun j hj=>h j (by omega)),h2]
   exact val_congr 256 16 fun j hj=>(h _ (by omega)).symm
theorem sout_length (s:Sym) (t:List Int):(sout s t).length=if s.has=true then t.length+16 else t.length:=by
 unfold sout
 split
 · rw [List.length_map,List.length_range]
 · rfl
theorem sout_bl {s:Sym} (hs:s.has=true) (t:List Int) (j:Nat) (hj:j<t.length+16):bl (sout s t) j=aout s.k (snz s.n) 32 s.h t.length (bl t) j:=by
 unfold sout
 rw [if_pos hs,bl_range _ _ _ hj]
theorem sout_byts {s:Sym} {t:List Int} (ht:Byts t):Byts (sout s t):=by
 unfold sout
 split
 · intro x hx
   obtain ⟨j,hj,rfl⟩:=List.mem_map.1 hx
   exact aout_in s.k (snz s.n) 32 s.h t.length (bl t) ht.bl j (List.mem_range.1 hj)
 · exact ht
theorem soE_back (s:Sym) (t:List Int):soE s (sout s t)=0:=by
 unfold soE
 split
 · rename_i hs
   have hl:(sout s t).length=t.length+16:=by rw [sout_length,if_pos hs]
   have hc:=(aok_congr (k:=s.k) (n:=snz s.n) (m:=32) (b:=s.h) (len:=t.length+16) (fun j hj=>sout_bl hs t j hj)).2 (aback_ok s.k (snz s.n) 32 s.h t.length (bl t))
   rw [hl]
   unfold aoE
   rw [if_neg (by omega),if_pos hc]
 · rfl
theorem soT_back (s:Sym) (t:List Int) (ht:Byts t):soT s (sout s t)=t:=by
 unfold soT
 by_cases hs:s.has=true
 · rw [if_pos hs]
   have hl:(sout s t).length=t.length+16:=by rw [sout_length,if_pos hs]
   have hc:=(aok_congr (k:=s.k) (n:=snz s.n) (m:=32) (b:=s.h) (len:=t.length+16) (fun j hj=>sout_bl hs t j hj)).2 (aback_ok s.k (snz s.n) 32 s.h t.length (bl t))
   have hL:aoL s.k (snz s.n) 32 s.h (sout s t).length (bl (sout s t))=t.length:=by
    rw [hl]
    unfold aoL
    rw [if_pos hc]
    omega
   rw [hL]
   refine bl_ext (by rw [List.length_map,List.length_range]) fun j hj=>?_
   rw [List.length_map,List.length_range] at hj
   rw [bl_range _ _ _ hj]
   have h1:=aback_text s.k (snz s.n) 32 s.h t.length (bl t) ht.bl j hj
   have h2:hxor s.k 1 (snz s.n) (bl (sout s t)) j=hxor s.k 1 (snz s.n) (aout s.k (snz s.n) 32 s.h t.length (bl t)) j:=by
    unfold hxor
    rw [sout_bl hs t j (by omega)]
   rw [h2,h1]
 · rw [if_neg hs]
   unfold sout
   rw [if_neg hs]
theorem sopen_back (s:Sym) (t:List Int):sopen s (sout s t)=sseal s t:=by
 unfold sopen sseal
 rw [if_pos (soE_back s t)]
theorem smix_w {s:Sym} (h:SymW s) (b:List Int):SymW (smix s b):=⟨bhash_in _ _ _,h.c,h.k⟩
theorem snext_w {s:Sym} (h:SymW s):SymW (snext s):=by
 unfold snext
 split
 · exact ⟨h.h,h.c,h.k⟩
 · exact h
theorem sseal_w {s:Sym} (h:SymW s) (t:List Int):SymW (sseal s t):=smix_w (snext_w h) _
theorem sopen_w {s:Sym} (h:SymW s) (b:List Int):SymW (sopen s b):=by
 unfold sopen
 split
 · exact smix_w (snext_w h) _
 · exact h
theorem kA_in (k:Nat→Int) (len:Nat) (z:Nat→Int):In 256 32 (kA k len z):=kT_in _ _ _ _ _
theorem kB_in (k:Nat→Int) (len:Nat) (z:Nat→Int):In 256 32 (kB k len z):=kT_in _ _ _ _ _
theorem skey_w {s:Sym} (h:SymW s) (b:List Int):SymW (skey s b):=⟨h.h,kA_in _ _ _,kB_in _ _ _⟩
theorem smix_next (s:Sym) (b:List Int) (h:s.has=true):smix (snext s) b=smix ⟨s.h,s.c,s.k,s.has,s.n+1⟩ b:=by unfold snext; rw [if_pos h]
theorem soT_key {s:Sym} (h:s.has=true) (b:List Int):soT s b=(List.range (aoL s.k (snz s.n) 32 s.h b.length (bl b))).map (hxor s.k 1 (snz s.n) (bl b)):=by unfold soT; rw [if_pos h]
theorem soE_key {s:Sym} (h:s.has=true) (b:List Int):soE s b=aoE s.k (snz s.n) 32 s.h b.length (bl b):=by unfold soE; rw [if_pos h]
theorem soT_err {s:Sym} {b:List Int} (h:soE s b≠0):soT s b=[]:=by
 cases hh:s.has with
 | false=>exact absurd (by unfold soE; rw [hh]; rfl) h
 | true =>
   rw [soE_key hh] at h
   rw [soT_key hh]
   have:¬ aok s.k (snz s.n) 32 s.h b.length (bl b):=fun k=>h (by
    have h16:=k.1
    unfold aoE
    rw [if_neg (by omega),if_pos k])
   unfold aoL
   rw [if_neg this]
   rfl
section
section
variable {P:Program} {ops:Array Oper} {Q:Exit→Act→World→Prop} {md:Region.Mode} {S:World→Prop}
theorem storeAny {o:Oper} {a:Act} {w:World} (v:Value) (b j:Nat) (ty:TypeId) (x y:Operand) (ho:o.op=.store ty x y) (hx:a.eval x=.pointer (some ⟨b,j,none⟩)) (hy:a.eval y=v) (hv:v.cells=#[v]) (h1:v.oneCell'=true)
 (hc:(w.cell? ⟨b,j,none⟩).isSome=true) (hf:w.frozen? ⟨b,j,none⟩=false) (hz:(P.info? ty).map (·.size)=some 1):(execOp a.eval o).run P w=.ok .skip (w.setCell ⟨b,j,none⟩ v):=by
 have h0:∀ k:Nat,k < [v].length→k=0:=fun k hk=>by simpa using hk
 have hst:=run_storeCells_cells (P:=P) b j [v] 0 w (fun k hk=>by rw [h0 k hk]; simpa using hc) (fun k hk=>by rw [h0 k hk]; simpa using hf) (fun u hu=>by simp at hu; subst hu; exact h1)
 cases hq:P.info? ty with
 | none=>simp [hq] at hz
 | some i =>
   have hs:i.size=1:=by simp [hq] at hz; omega
   simp only [Nat.add_zero] at hst
   have e:(storeVar ty ⟨b,j,none⟩ v).run P w=.ok () (w.setCell ⟨b,j,none⟩ v):=by
    simp [storeVar,sizeOf,typeInfo,hq,hv,hs,hst,World.setCells]
   unfold execOp
   simp only [ho,hx,hy,Instr.storeAt,Instr.sureAddr,Sem.run_bind,Sem.run_pure,Result.andThen_ok,e]
theorem skipOpL {o:Oper} {rest:List Oper} {a:Act} {w w':World} (hw:Region.wanted o (yielded ops a.tmps)=true) (he:(execOp a.eval o).run P w=.ok .skip w') (h:wpList P ops Q rest (a.put o.dst undef) w'):wpList P ops Q (o::rest) a w:=by
 unfold wpList
 rw [if_pos hw]
 refine .inl ?_
 unfold Oper.wp
 rw [he]
 exact h
theorem load1 {o:Oper} {a:Act} {w:World} (ty:TypeId) (x:Operand) (p:Addr) (v:Value) (ho:o.op=.load ty x) (hx:a.eval x=.pointer (some p)) (hagg:∀ w,(isAgg ty).run P w=.ok false w) (hc:w.cell? p=some v):(execOp a.eval o).run P w=.ok (.value v) w:=by
 have e:(loadVar ty p).run P w=.ok v w:=by simp [loadVar,Sem.run_bind,hagg,hc]
 unfold execOp
 simp only [ho,hx,Instr.loadAt,Instr.sureAddr,Sem.run_bind,Sem.run_pure,Result.andThen_ok,e]
theorem loadN {o:Oper} {a:Act} {w:World} (ty:TypeId) (x:Operand) (p:Addr) (cs:List Value) (ho:o.op=.load ty x) (hx:a.eval x=.pointer (some p)) (hagg:∀ w,(isAgg ty).run P w=.ok true w) (hz:∀ w,(sizeOf ty).run P w=.ok cs.length w)
 (hc:∀ j v,cs[j]?=some v→w.cell? (p.add j)=some v):(execOp a.eval o).run P w=.ok (.value (.agg cs.toArray)) w:=by
 have e:(loadVar ty p).run P w=.ok (.agg cs.toArray) w:=by simp [loadVar,Sem.run_bind,hagg,hz,run_loadCells_list w p cs hc]
 unfold execOp
 simp only [ho,hx,Instr.loadAt,Instr.sureAddr,Sem.run_bind,Sem.run_pure,Result.andThen_ok,e]
end
theorem Own.src {w:World} {base:Nat} {e:TypeId} {n:Nat} {f:Nat→Int} {sp:Option Addr} {c:Nat} (h:Own w base e .u8 n f (.slice sp n c)):Src w sp n f:=by
 obtain ⟨sp',c',e,_,hs⟩:=h.bytes
 injection e with e1 _ _
 subst e1
 exact hs
structure Mm (w0:World) (l:List (Nat × List Value)) (w:World):Prop where
 rows:∀ p∈l,(∀ j,j<p.2.length→w.cell? ⟨p.1,j,none⟩=p.2[j]?∧w.frozen? ⟨p.1,j,none⟩=false)∧w0.heap.size≤p.1∧p.1<w.heap.size
 apart:l.Pairwise fun p q=>p.1≠q.1
 below:Below w0.heap.size w0 w
section
variable {w0 w w':World} {l:List (Nat × List Value)}
theorem Mm.init (w:World):Mm w [] w:=⟨fun _ h=>(by cases h),List.Pairwise.nil,Below.refl _ _⟩
theorem Mm.call (h:Mm w0 l w) (b:Below w.heap.size w w'):Mm w0 l w' :=
 ⟨fun p hp=>⟨fun j hj=>by
  have hlt:=(h.rows p hp).2.2
  rw [b.cell (p:=⟨p.1,j,none⟩) hlt,b.frozen (p:=⟨p.1,j,none⟩) hlt]
  exact (h.rows p hp).1 j hj,(h.rows p hp).2.1,xnL (h.rows p hp).2.2 b.size⟩,h.apart,h.below.trans (b.mono h.below.size)⟩
theorem Mm.drew (h:Mm w0 l w):Mm w0 l w.drew:=h.call (Below.refl _ _).drew
theorem Mm.sub (h:Mm w0 l w) (l':List (Nat × List Value)) (hl:l'.Sublist l):Mm w0 l' w:=⟨fun p hp=>h.rows p (hl.subset hp),h.apart.sublist hl,h.below⟩
theorem Mm.box (h:Mm w0 l w) (c:Array Value) (t:TypeId) (b:Nat) (hb:b=w.heap.size):Mm w0 ((b,c.toList)::l) (w.alloc (.cells c t)):=by
 subst hb; have hc:=h.call ((Below.refl w.heap.size w).alloc (xnR _) (.cells c t))
 refine ⟨fun p hp=>?_,List.pairwise_cons.2 ⟨fun q hq e=>?_,h.apart⟩,hc.below⟩
 · rcases xc1 hp with rfl | hp
   · refine ⟨fun j hj=>⟨?_,World.frozen?_alloc_at _ _ _ _ rfl⟩,h.below.size,by simp⟩
     rw [World.cell?_alloc_at _ _ _ _ rfl]
     simp
   · exact hc.rows p hp
 · have:=(h.rows q hq).2.2
   simp only at e
   omega
theorem Mm.get (h:Mm w0 l w) {b:Nat} {cs:List Value} (hp:(b,cs)∈l) (j:Nat) (v:Value) (hv:cs[j]?=some v):w.cell? ⟨b,j,none⟩=some v:=by
 have hj:j<cs.length:=by
  rcases Nat.lt_or_ge j cs.length with h' | h'
  · exact h'
  · rw [List.getElem?_eq_none h'] at hv; cases hv
 rw [((h.rows _ hp).1 j hj).1,hv]
theorem Mm.isSome (h:Mm w0 l w) {b:Nat} {cs:List Value} (hp:(b,cs)∈l) (j:Nat) (hj:j<cs.length):(w.cell? ⟨b,j,none⟩).isSome=true:=by
 rw [((h.rows _ hp).1 j hj).1,List.getElem?_eq_getElem hj]
 rfl
theorem Mm.free (h:Mm w0 l w) {b:Nat} {cs:List Value} (hp:(b,cs)∈l) (j:Nat) (hj:j<cs.length):w.frozen? ⟨b,j,none⟩=false:=((h.rows _ hp).1 j hj).2
theorem Mm.rangeAt (h:Mm w0 l w) {b:Nat} {cs:List Value} (hp:(b,cs)∈l):∀ j v,cs[j]?=some v→w.cell? ((⟨b,0,none⟩:Addr).add j)=some v:=fun j v hv=>by
 rw [Addr.add_mid,Nat.zero_add]
 exact h.get hp j v hv
theorem Mm.part (h:Mm w0 l w) {b:Nat} {cs:List Value} (hp:(b,cs)∈l) (o:Nat) (ds:List Value) (hd:(cs.drop o).take ds.length=ds):∀ j v,ds[j]?=some v→w.cell? ((⟨b,o,none⟩:Addr).add j)=some v:=fun j v hv=>by
 rw [Addr.add_mid]
 refine h.get hp (o+j) v ?_
 have hj:j<ds.length:=by
  rcases Nat.lt_or_ge j ds.length with h' | h'
  · exact h'
  · rw [List.getElem?_eq_none h'] at hv; cases hv
 rw [← hd,List.getElem?_take,if_pos hj,List.getElem?_drop] at hv
 exact hv
theorem size_setCell (w:World) (p:Addr) (v:Value):(w.setCell p v).heap.size=w.heap.size:=by simp
theorem Mm.set {b:Nat} {cs:List Value} (h:Mm w0 ((b,cs)::l) w) (j:Nat) (hj:j<cs.length) (v:Value):Mm w0 ((b,cs.set j v)::l) (w.setCell ⟨b,j,none⟩ v):=by
 have hb:=h.rows _ mS; have hne:=(List.pairwise_cons.1 h.apart).1
 refine ⟨fun p hp=>?_,List.pairwise_cons.2 ⟨hne,(List.pairwise_cons.1 h.apart).2⟩,below_setAll h.below b hb.2.1 j [v]⟩
 rcases xc1 hp with rfl | hp
 · refine ⟨fun i hi=>⟨?_,by rw [World.frozen?_setCell]; exact (hb.1 i (by simpa using hi)).2⟩,hb.2.1,by rw [size_setCell]; exact hb.2.2⟩
   simp only [List.length_set] at hi
   by_cases e:i=j
   · subst e
     rw [World.cell?_setCell_same' _ _ _ (h.isSome mS i hj),List.getElem?_set_self hj]
   · have e2:=World.cell?_setCell_other (w:=w) (v:=v) (a:=⟨b,j,none⟩) (b:=⟨b,i,none⟩) (by intro e'; injection e' with _ e'; exact e e'.symm)
     simp only
     rw [e2,List.getElem?_set_ne (Ne.symm e)]
     exact (hb.1 i hi).1
 · have h2:=h.rows p (mT _ hp)
   refine ⟨fun i hi=>⟨?_,by rw [World.frozen?_setCell]; exact (h2.1 i hi).2⟩,h2.2.1,by rw [size_setCell]; exact h2.2.2⟩
   rw [World.cell?_setCell_far _ _ _ _ (hne p hp)]
   exact (h2.1 i hi).1
theorem Mm.swap {p q:Nat × List Value} (h:Mm w0 (p::q::l) w):Mm w0 (q::p::l) w:=by
 obtain ⟨h1,h2⟩:=List.pairwise_cons.1 h.apart
 obtain ⟨h3,h4⟩:=List.pairwise_cons.1 h2
 refine ⟨fun x hx=>h.rows x ?_,List.pairwise_cons.2 ⟨fun x hx=>?_,List.pairwise_cons.2 ⟨fun x hx=>h1 x (mT _ hx),h4⟩⟩,h.below⟩
 · rcases xc1 hx with rfl | hx
   · exact mT _ mS
   · rcases xc1 hx with rfl | hx
     · exact mS
     · exact mT _ (mT _ hx)
 · rcases xc1 hx with rfl | hx
   · exact (h1 q mS).symm
   · exact h3 x hx
theorem Mm.grown (h:Mm w0 l w) {r:Option Nat} (g:w.grownBy w' r) (m:Nat) (hm:∀ p∈l,p.1<m) (h0:w0.heap.size≤m) (hz:m≤w.heap.size) (hr:∀ b,r=some b→m≤b):Mm w0 l w':=by
 have hb:Below m w w':=⟨g.os,g.tape,g.output,g.size,fun j hj=>g.block j (xnL hj hz) (fun e=>by have:=hr j e.symm; omega)⟩
 exact ⟨fun p hp=>⟨fun j hj=>by
  rw [hb.cell (p:=⟨p.1,j,none⟩) (hm p hp),hb.frozen (p:=⟨p.1,j,none⟩) (hm p hp)]
  exact (h.rows p hp).1 j hj,(h.rows p hp).2.1,xnL (h.rows p hp).2.2 g.size⟩,h.apart,h.below.trans (hb.mono h0)⟩
theorem Mm.lt (h:Mm w0 l w) {b:Nat} {cs:List Value} (hp:(b,cs)∈l):b<w.heap.size:=(h.rows _ hp).2.2
end
end
section
def i64 (n:Int):Prop:=-9223372036854775808≤n∧n<9223372036854775808
structure Off (X:List Nat) (w w':World):Prop where
 size:w.heap.size≤w'.heap.size
 blk:∀ b,b<w.heap.size→b∉X→w'.heap[b]?=w.heap[b]?
section
variable {X Y:List Nat} {w w1 w2:World}
theorem Off.refl (X:List Nat) (w:World):Off X w w:=⟨xnR _,fun _ _ _=>rfl⟩
theorem Off.trans (h:Off X w w1) (g:Off X w1 w2):Off X w w2:=⟨xnT h.size g.size,fun b hb hX=>(g.blk b (xnL hb h.size) hX).trans (h.blk b hb hX)⟩
theorem Off.mono (h:Off X w w1) (hX:∀ b∈X,b∈Y):Off Y w w1:=⟨h.size,fun b hb hY=>h.blk b hb fun e=>hY (hX b e)⟩
theorem Off.of_below (l:Below w.heap.size w w1):Off X w w1:=⟨l.size,fun b hb _=>l.block b hb⟩
theorem Off.below (h:Off X w w1) (l:Below w1.heap.size w1 w2):Off X w w2:=h.trans (.of_below l)
theorem Off.set (h:Off X w w1) {b:Nat} (hb:b∈X) (j:Nat) (v:Value):Off X w (w1.setCell ⟨b,j,none⟩ v) :=
 h.trans ⟨by simp,fun c _ hX=>by
  have:c≠b:=fun e=>hX (e ▸ hb)
  simp [World.setCell,Array.getElem?_modify,Ne.symm this]⟩
theorem Off.grown (h:Off X w w1) {r:Option Nat} (g:w1.grownBy w2 r) (hr:∀ b,r=some b→b∈X∨w.heap.size≤b):Off X w w2 :=
 ⟨xnT h.size g.size,fun b hb hX=>by
  rw [g.block b (xnL hb h.size) (fun e=>by
   rcases hr b e.symm with h' | h'
   · exact hX h'
   · omega)]
  exact h.blk b hb hX⟩
theorem Off.cell (h:Off X w w1) {p:Addr} {v:Value} (hc:w.cell? p=some v) (hX:p.block∉X):w1.cell? p=some v:=by
 rw [World.cell?_of_block (h.blk p.block (World.block_lt_of_cell? w p hc) hX)]
 exact hc
end
def SrcA (X:List Nat) (w:World) (sp:Option Addr) (n:Nat) (z:Nat→Int):Prop:=Src w sp n z∧∀ ad,sp=some ad→0<n→ad.block∉X
theorem add_block (p:Addr) (j:Nat):(p.add j).block=p.block:=by unfold Addr.add; split <;> rfl
theorem SrcA.off {X:List Nat} {w w':World} {sp:Option Addr} {n:Nat} {z:Nat→Int} (h:SrcA X w sp n z) (o:Off X w w'):SrcA X w' sp n z :=
 ⟨fun j hj=>by
  obtain ⟨ad,rfl,hc⟩:=h.1 j hj
  exact ⟨ad,rfl,o.cell hc (by rw [add_block]; exact h.2 ad rfl (by omega))⟩,h.2⟩
theorem SrcA.more {X:List Nat} {w:World} {sp:Option Addr} {n:Nat} {z:Nat→Int} (h:SrcA X w sp n z) (b:Nat) (hb:w.heap.size≤b):SrcA (b::X) w sp n z :=
 ⟨h.1,fun ad e hn hm=>by
  obtain ⟨ad',e',hc⟩:=h.1 0 hn
  rw [e] at e'
  injection e' with e'
  subst e'
  have:=World.block_lt_of_cell? w _ hc
  rw [add_block] at this
  rcases xc1 hm with rfl | hm
  · omega
  · exact h.2 ad e hn hm⟩
theorem SrcA.less {X Y:List Nat} {w:World} {sp:Option Addr} {n:Nat} {z:Nat→Int} (h:SrcA X w sp n z) (hY:∀ b∈Y,b∈X):SrcA Y w sp n z:=⟨h.1,fun ad e hn hm=>h.2 ad e hn (hY _ hm)⟩
theorem SrcA.of_old {X:List Nat} {w:World} {sp:Option Addr} {n:Nat} {z:Nat→Int} (h:Src w sp n z) (hX:∀ b∈X,w.heap.size≤b):SrcA X w sp n z :=
 ⟨h,fun ad e hn hm=>by
  obtain ⟨ad',e',hc⟩:=h 0 hn
  rw [e] at e'
  injection e' with e'
  subst e'
  have:=World.block_lt_of_cell? w _ hc
  rw [add_block] at this
  have:=hX _ hm
  omega⟩
section
variable {P:Program}
structure Many (P:Program) (e:TypeId) (z:Value) (bytes size:Nat):Prop where
 info:(P.info? e).map (fun i=>(i.zero,i.bytes,i.size))=some (some z,bytes,size)
end
end
theorem Mm.setAll {w0 w:World} {l:List (Nat × List Value)} {b:Nat} {cs:List Value} (h:Mm w0 ((b,cs)::l) w) (ds:List Value) (hd:ds.length=cs.length):Mm w0 ((b,ds)::l) (w.setCells b 0 ds):=by
 have hb:=h.rows _ mS; have hne:=(List.pairwise_cons.1 h.apart).1
 have hall:∀ j,j<ds.length→(w.cell? ⟨b,0+j,none⟩).isSome=true:=fun j hj=>by rw [Nat.zero_add]; exact h.isSome mS j (by omega)
 refine ⟨fun p hp=>?_,List.pairwise_cons.2 ⟨hne,(List.pairwise_cons.1 h.apart).2⟩,below_setAll h.below b hb.2.1 0 ds⟩
 rcases xc1 hp with rfl | hp
 · refine ⟨fun j hj=>⟨?_,by rw [World.frozen?_setCells]; exact (hb.1 j (by have hj':j<ds.length:=hj; show j<cs.length; omega)).2⟩,hb.2.1,by rw [size_setAll]; exact hb.2.2⟩
   simp only at hj ⊢
   have e:=World.cell?_setCells_in b ds 0 w hall j hj
   rw [Nat.zero_add] at e
   rw [e,List.getElem?_eq_getElem hj]
 · have h2:=h.rows p (mT _ hp)
   refine ⟨fun j hj=>⟨?_,by rw [World.frozen?_setCells]; exact (h2.1 j hj).2⟩,h2.2.1,by rw [size_setAll]; exact h2.2.2⟩
   rw [World.cell?_setCells_out b ds 0 w ⟨p.1,j,none⟩ (fun e _=>absurd e.symm (hne p hp))]
   exact (h2.1 j hj).1
theorem Off.setAll {X:List Nat} {w w1:World} (h:Off X w w1) {b:Nat} (hb:b∈X):∀ (o:Nat) (vs:List Value),Off X w (w1.setCells b o vs)
 | _,[]=>h
 | o,v::vs=>(h.set hb o v).setAll hb (o+1) vs
theorem Src.at {w:World} {ad:Addr} {n:Nat} {z:Nat→Int} (h:Src w (some ad) n z) (j:Nat) (hj:j<n):w.cell? (ad.add j)=some (.int .u8 (z j)):=by
 obtain ⟨ad',e,hc⟩:=h j hj
 injection e with e
 subst e
 exact hc
theorem cut_loA {P:Program} {t:TypeId} (ht:P.underlying t=some (.slice (P.elem t))) (hsz:∀ w,(sizeOf (P.elem t)).run P w=.ok 1 w) (sp:Option Addr) (len cap m:Nat) (hm:m≤len) (hc:len≤cap) (hn:sp=none→cap=0) :
 ∃ sp',(∀ w,(Instr.sliceAt t (.slice sp len cap) (some (.int .i64 (m:Int))) none none).run P w=.ok (.slice sp' (len-m) (cap-m)) w)∧(∀ X w z,SrcA X w sp len z→SrcA X w sp' (len-m) (fun j=>z (m+j)))∧(sp'=none→cap-m=0):=by
 refine ⟨if cap=m then sp else sp.map (·.add (m*1)),fun w=>?_,fun X w z h=>⟨fun j hj=>?_,fun ad e hp=>?_⟩,fun e=>?_⟩
 · rw [run_sliceAt_slice w t _ _ _ _ ht,run_slice_l w t sp len cap ht .i64 (m:Int) (by omega) (by omega),hsz]
   simp only [Result.andThen,sliced,Int.toNat_natCast]
 · obtain ⟨ad,rfl,hc'⟩:=h.1 (m+j) (by omega)
   rw [if_neg (by omega)]
   exact ⟨ad.add (m*1),rfl,by rw [Nat.mul_one,Addr.add_add]; exact hc'⟩
 · rw [if_neg (by omega)] at e
   cases sp with
   | none=>cases e
   | some a =>
     injection e with e
     subst e
     rw [add_block]
     exact h.2 a rfl (by omega)
 · by_cases hm:cap=m
   · omega
   · rw [if_neg hm] at e
     cases sp with
     | none=>have:=hn rfl; omega
     | some ad=>cases e
section
theorem storeP {P:Program} {o:Oper} {a:Act} {w:World} (cs:List Value) (b off:Nat) (ty:TypeId) (x y:Operand) (ho:o.op=.store ty x y) (hx:a.eval x=.pointer (some ⟨b,off,none⟩)) (hy:a.eval y=.agg cs.toArray) (ht:w.there b off cs.toArray.size) (hz:(P.info? ty).map (·.size)=some cs.toArray.size) (h1:∀ u∈cs,u.oneCell'=true) :
 (execOp a.eval o).run P w=.ok .skip (w.setCells b off cs):=by
 unfold execOp
 simp only [ho,hx,hy]; have e:=run_storeAt_mid (P:=P) w b off ty cs.toArray ht hz (all_oneCell_toArray h1); simp only [Sem.run_bind,e,Result.andThen_ok,Sem.run_pure]
def setL (cs:List Value):Nat→List Value→List Value
 | _,[]=>cs
 | o,v::vs=>setL (cs.set o v) (o+1) vs
section
variable {w0 w:World} {l:List (Nat × List Value)} {b:Nat} {cs:List Value}
theorem Mm.thereP (h:Mm w0 l w) (hp:(b,cs)∈l) (o n:Nat) (hn:o+n≤cs.length):w.there b o n:=fun j hj=>⟨h.isSome hp (o+j) (by omega),h.free hp (o+j) (by omega)⟩
theorem Mm.setPartG:∀ (ds:List Value) (o:Nat) (cs:List Value) (w:World),o+ds.length≤cs.length→Mm w0 ((b,cs)::l) w→Mm w0 ((b,setL cs o ds)::l) (w.setCells b o ds)
 | [],_,_,_,_,h=>h
 | v::vs,o,cs,w,hl,h=>by
   rw [List.length_cons] at hl
   exact Mm.setPartG vs (o+1) (cs.set o v) _ (by rw [List.length_set]; omega) (h.set o (by omega) v)
theorem Mm.setPart (h:Mm w0 ((b,cs)::l) w) (ds:List Value) (o:Nat) (hl:o+ds.length≤cs.length):Mm w0 ((b,setL cs o ds)::l) (w.setCells b o ds):=Mm.setPartG ds o cs w hl h
theorem Mm.perm {l':List (Nat × List Value)} (h:Mm w0 l w) (hp:l.Perm l'):Mm w0 l' w :=
 ⟨fun p hq=>h.rows p (hp.mem_iff.2 hq),hp.pairwise h.apart (fun e=>Ne.symm e),h.below⟩
theorem Mm.rot3 {p q r:Nat × List Value} (h:Mm w0 (p::q::r::l) w):Mm w0 (r::p::q::l) w :=
 h.perm (((List.Perm.swap r q l).cons p).trans (List.Perm.swap r p (q::l)))
theorem Mm.rot4 {p q r s:Nat × List Value} (h:Mm w0 (p::q::r::s::l) w):Mm w0 (s::p::q::r::l) w :=
 h.perm ((((List.Perm.swap s r l).cons q).trans (List.Perm.swap s q (r::l))).cons p |>.trans (List.Perm.swap s p (q::r::l)))
end
def ob:Option Addr→List Nat
 | some a=>[a.block]
 | none=>[]
theorem Mm.drop2 {w0 w:World} {l:List (Nat × List Value)} {p q:Nat × List Value} (h:Mm w0 (p::q::l) w):Mm w0 (p::l) w:=h.sub _ (List.cons_sublist_cons.2 (List.sublist_cons_self q l))
theorem Off.and1 {X:List Nat} {w w1 w2:World} {b:Nat} (h:Off X w w1) (g:Off [b] w1 w2) (hb:b∈X∨w.heap.size≤b):Off X w w2 :=
 ⟨xnT h.size g.size,fun c hc hX=>(g.blk c (xnL hc h.size) (fun e=>by
  obtain rfl:=xm1 e
  rcases hb with h' | h'
  · exact hX h'
  · omega)).trans (h.blk c hc hX)⟩
theorem retCell {P:Program} {fn:Func} {tmps:Array Value} {w:World} (t:Tmp) (ty:TypeId) (p:Addr) (cs:List Value) (hr:fn.results=#[.cell t ty]) (ha:tmps.getD t undef=.pointer (some p)) (hagg:∀ w,(isAgg ty).run P w=.ok true w) (hz:∀ w,(sizeOf ty).run P w=.ok cs.length w) (hc:∀ j v,cs[j]?=some v→w.cell? (p.add j)=some v) :
 (results fn tmps).run P w=.ok (.agg cs.toArray) w:=by
 have e:(loadVar ty p).run P w=.ok (.agg cs.toArray) w:=by simp [loadVar,Sem.run_bind,hagg,hz,run_loadCells_list w p cs hc]
 rw [Array.getD_eq_getD_getElem?] at ha
 simp [results,hr,ha,asAddr,e]
theorem retCellTmp {P:Program} {fn:Func} {tmps:Array Value} {w:World} (t t2:Tmp) (ty:TypeId) (p:Addr) (cs:List Value) (v:Value) (hr:fn.results=#[.cell t ty,.tmp t2]) (ha:tmps.getD t undef=.pointer (some p)) (hb:tmps.getD t2 undef=v) (hagg:∀ w,(isAgg ty).run P w=.ok true w) (hz:∀ w,(sizeOf ty).run P w=.ok cs.length w) (hc:∀ j v,cs[j]?=some v→w.cell? (p.add j)=some v) :
 (results fn tmps).run P w=.ok (.tuple #[.agg cs.toArray,v]) w:=by
 have e:(loadVar ty p).run P w=.ok (.agg cs.toArray) w:=by simp [loadVar,Sem.run_bind,hagg,hz,run_loadCells_list w p cs hc]
 rw [Array.getD_eq_getD_getElem?] at ha hb
 simp [results,hr,ha,hb,asAddr,e]
end
theorem Mm.boxC {w0 w:World} {l:List (Nat × List Value)} (h:Mm w0 l w) (c:Array Value) (t:TypeId) (f:Nat × Nat) (b:Nat) (hb:b=w.heap.size) (hf:c.size≤f.1):Mm w0 ((b,c.toList)::l) (w.alloc (.cells c t f)):=by
 subst hb; have hc:=h.call ((Below.refl w.heap.size w).alloc (xnR _) (.cells c t f))
 refine ⟨fun p hp=>?_,List.pairwise_cons.2 ⟨fun q hq e=>?_,h.apart⟩,hc.below⟩
 · rcases xc1 hp with rfl | hp
   · have e:(w.alloc (.cells c t f)).heap[w.heap.size]?=some (.cells c t f):=by
      show (w.heap.push _)[w.heap.size]?=_
      simp
     refine ⟨fun j hj=>⟨?_,?_⟩,h.below.size,by simp⟩
     · simp only [World.cell?,e]
       simp
     · have:j<c.size:=by simpa using hj
       unfold World.frozen?
       rw [e]
       simp
       omega
   · exact hc.rows p hp
 · have:=(h.rows q hq).2.2
   simp only at e
   omega
theorem Mm.src {w0 w:World} {l:List (Nat × List Value)} (h:Mm w0 l w) {b:Nat} {cs:List Value} (hp:(b,cs)∈l) (bs:List Int) (hc:cs=bs.map (Value.int .u8)):Src w (some ⟨b,0,none⟩) bs.length (bl bs):=fun j hj=>⟨_,rfl,by
 rw [Addr.add_mid,Nat.zero_add]
 refine h.get hp j _ ?_
 rw [hc,List.getElem?_map,List.getElem?_eq_getElem hj]
 show some (Value.int .u8 bs[j])=_
 unfold bl
 rw [List.getD_eq_getElem?_getD,List.getElem?_eq_getElem hj]
 rfl⟩
theorem Mm.srcRow {w0 w:World} {l:List (Nat × List Value)} (h:Mm w0 l w) {b:Nat} {cs:List Value} (hp:(b,cs)∈l) (o n:Nat) (f:Nat→Int) (hd:(cs.drop o).take (row .u8 n f).length=row .u8 n f):Src w (some ⟨b,o,none⟩) n f:=fun j hj=>⟨_,rfl,h.part hp o _ hd j _ (row_get .u8 n f j hj)⟩
def stc (s:Sym):List Value:=row .u8 32 s.h++(row .u8 32 s.c++(row .u8 32 s.k++[.bool s.has,.int .i64 (s.n:Int)]))
theorem row32 (f:Nat→Int):(row .u8 32 f).length=32:=row_length _ _ _
theorem stc_len (s:Sym):(stc s).length=98:=by unfold stc; simp [row_length]
theorem stc_h (s:Sym):((stc s).drop 0).take (row .u8 32 s.h).length=row .u8 32 s.h:=by unfold stc; rw [List.drop_zero,List.take_left]
theorem setL_left:∀ (ds a rest:List Value),ds.length=a.length→setL (a++rest) 0 ds=ds++rest:=by
 have key:∀ (ds pre a rest:List Value),ds.length=a.length→setL (pre++(a++rest)) pre.length ds=pre++(ds++rest):=by
  intro ds
  induction ds with
  | nil =>
    intro pre a rest h
    have:a=[]:=List.eq_nil_of_length_eq_zero (by simpa using h.symm)
    subst this
    rfl
  | cons d ds ih =>
    intro pre a rest h
    cases a with
    | nil=>cases h
    | cons x a =>
      have h2:ds.length=a.length:=by simpa using h
      have e:(pre++(x::a++rest)).set pre.length d=(pre++[d])++(a++rest):=by simp
      show setL ((pre++(x::a++rest)).set pre.length d) (pre.length+1) ds=_
      rw [e]
      have:=ih (pre++[d]) a rest h2
      rw [List.length_append] at this
      rw [show pre.length+1=pre.length+[d].length from rfl,this]
      simp
 intro ds a rest h
 have:=key ds [] a rest h
 simpa using this
theorem setL_pre (pre:List Value):∀ (ds l:List Value) (o:Nat),setL (pre++l) (pre.length+o) ds=pre++setL l o ds
 | [],_,_=>rfl
 | d::ds,l,o=>by
   show setL ((pre++l).set (pre.length+o) d) (pre.length+o+1) ds=pre++setL (l.set o d) (o+1) ds
   rw [List.set_append_right _ _ (by omega),Nat.add_sub_cancel_left,Nat.add_assoc,setL_pre pre ds (l.set o d) (o+1)]
theorem stc_setH (s:Sym) (f:Nat→Int):setL (stc s) 0 (row .u8 32 f)=stc { s with h:=f }:=by
 unfold stc
 exact setL_left _ _ _ (by rw [row32,row32])
theorem rmix_any (w0 w:World) (R:Nat) (l:List (Nat × List Value)) (s:Sym) (hw:In 256 32 s.h) (sp:Option Addr) (cap:Nat) (b:List Int) (hlen:b.length≤140737488351232) (hnil:sp=none→cap=0) (hb:Byts b) (M:Mm w0 ((R,stc s)::l) w) (hs:SrcA [R] w sp b.length (bl b)):Calls Tryz.prog 40 #[.pointer (some ⟨R,0,none⟩),.slice sp b.length cap] w fun e w'=>e=.returned (.tuple #[])∧Mm w0 ((R,stc (smix s b))::l) w'∧Off [R] w w':=by
 have hRw:=M.lt mS; have hR0:=M.below.size; have hwz:=xnR w.heap.size
 have hML0:∀ p∈l,p.1<w.heap.size:=fun p hp=>(M.rows p (mT _ hp)).2.2
 have OF:=Off.refl [R] w
 go_enter Tryz.func40,Tryz.ntmps40
 have hML:∀ p∈(R,stc s)::l,p.1<w.heap.size:=fun p hp=>by rcases xc1 hp with rfl | hp; exact hRw; exact hML0 p hp
 go_upto_region 0 with fail; refine wp_region_list ?_; refine xpL (.pointer (some ⟨R,0,none⟩)) ?_; refine actL (w':=w.alloc (.cells #[] 5)) (.slice (some ⟨w.heap.size,0,none⟩) 0 0) rfl (by kernel_rfl) ?_; simp only [aP,lI,l0,lS]
 have O_1:Own (w.alloc (.cells #[] 5)) w.heap.size 5 .u8 0 (fun _=>0) (.slice (some ⟨w.heap.size,0,none⟩) 0 0):=Own.lit w w.heap.size 5 .u8 0 (fun _=>0) hwz (by unfold maxLen; omega)
 have hlb:=(Below.refl w.heap.size w).alloc (xnR _) (.cells #[] 5); replace hwz:=xnT hwz hlb.size; replace M:=M.call hlb; replace OF:=OF.below hlb; clear hlb; generalize w.alloc (.cells #[] 5)=w1 at M O_1 hwz OF ⊢; generalize (some ⟨w.heap.size,0,none⟩:Option Addr)=p1 at O_1 ⊢; refine xpL (.pointer (some ⟨R,0,none⟩)) ?_; refine xpL (.pointer (some ⟨R,0,none⟩)) ?_
 refine xpL (.pointer (some ⟨R,0,none⟩)) ?_; refine xaL (.slice (some ⟨R,0,none⟩) 32 32) (cutAll 23 _ _ _ rfl rfl (by kernel_rfl)) ?_
 obtain ⟨v,w2,hr,O_2,hgr,_⟩:=run_append_Own (P:=Tryz.prog) (ty:=32) Tryz.underlying32 one8 O_1 (some ⟨R,0,none⟩) 32 32 s.h (M.srcRow mS 0 32 _ (stc_h s)) (fun e=>by cases e) (by unfold maxLen; omega) (by omega) hwz
 replace M:=M.grown hgr w.heap.size hML (by omega) hwz (fun b hb=>(World.ownsRow.lt O_1 b hb).1); replace OF:=OF.grown hgr (fun b hb=>.inr (World.ownsRow.lt O_1 b hb).1); replace hwz:=xnT hwz hgr.size; refine xaL v (appendOp _ _ 32 _ _ _ rfl rfl rfl hr) ?_; clear hr hgr O_1
 obtain ⟨p2,c2,rfl,_,_⟩:=O_2.bytes
 refine xpL (.slice sp b.length cap) ?_
 obtain ⟨v,w3,hr,O_3,hgr,_⟩:=run_append_Own (P:=Tryz.prog) (ty:=32) Tryz.underlying32 one8 O_2 sp b.length cap (bl b) (hs.off OF).1 hnil (by unfold maxLen; omega) (by omega) hwz
 replace M:=M.grown hgr w.heap.size hML (by omega) hwz (fun b hb=>(World.ownsRow.lt O_2 b hb).1); replace OF:=OF.grown hgr (fun b hb=>.inr (World.ownsRow.lt O_2 b hb).1); replace hwz:=xnT hwz hgr.size; refine xaL v (appendOp _ _ 32 _ _ _ rfl rfl rfl hr) ?_; clear hr hgr O_2
 obtain ⟨p3,c3,rfl,_,_⟩:=O_3.bytes
 have hzz:In 256 (0+32+b.length) (app (app (fun _=>0) 0 s.h) (0+32) (bl b)):=fun j hj=>by
  show 0≤app (app (fun _=>0) 0 s.h) (0+32) (bl b) j∧app (app (fun _=>0) 0 s.h) (0+32) (bl b) j<256
  unfold app
  split
  · rw [if_neg (by omega)]; exact hw (j-0) (by omega)
  · exact hb.bl (j-(0+32)) (by omega)
 have hzf:bhash (0+32+b.length) (app (app (fun _=>0) 0 s.h) (0+32) (bl b))=bhash (32+b.length) (app s.h 32 (bl b)):=by
  rw [show 0+32+b.length=32+b.length by omega]
  exact bhash_congr _ _ _ fun j hj=>by
   unfold app
   rw [show 0+32=32 from rfl]
   split
   · rw [if_neg (by omega),Nat.sub_zero]
   · rfl
 refine xcL (refHash_any p3 _ c3 (by omega) O_3.nilCap (app (app (fun _=>0) 0 s.h) (0+32) (bl b)) hzz _ O_3.src) ?_; rintro e w4 ⟨rfl,l1⟩; replace M:=M.call l1; replace OF:=OF.below l1
 rw [hzf]
 clear l1 hzf hzz O_3; refine xeL ?_; refine xpL (.pointer (some ⟨R,0,none⟩)) ?_; refine xpL (.pointer (some ⟨R,0,none⟩)) ?_; refine skipOpL rfl (storeP (row .u8 32 (bhash (32+b.length) (app s.h 32 (bl b)))) R 0 23 _ _ rfl rfl rfl (M.thereP mS 0 32 (by rw [stc_len]; decide)) (by kernel_rfl) (row_one .u8 32 (bhash (32+b.length) (app s.h 32 (bl b))))) ?_; simp only [Act.put]
 replace M:=M.setPart (row .u8 32 (bhash (32+b.length) (app s.h 32 (bl b)))) 0 (by rw [row32,stc_len]; decide)
 rw [stc_setH] at M
 replace OF:=OF.and1 ((Off.refl [R] _).setAll (b:=R) mS 0 (row .u8 32 (bhash (32+b.length) (app s.h 32 (bl b))))) (.inl mS); generalize w4.setCells R 0 (row .u8 32 (bhash (32+b.length) (app s.h 32 (bl b))))=w5 at M OF ⊢
 replace M:Mm w0 ((R,stc (⟨bhash (32+b.length) (app s.h 32 (bl b)),s.c,s.k,s.has,s.n⟩:Sym))::l) w5:=M
 exact ⟨rfl,.tuple #[],by kernel_rfl,rfl,M,OF⟩
def snoise:List Int:=[78,111,105,115,101,95,73,75,95,50,53,53,49,57,95,67,104,97,67,104,97,80,111,108,121,95,66,76,65,75,69,50,115]
def sbeg (f:Nat→Int):Sym:=⟨f,f,fun _=>0,false,0⟩
def snew:Sym:=sbeg (bhash 33 (bl snoise))
theorem snoise_in:Byts snoise:=by unfold Byts snoise; decide
theorem snew_w:SymW snew:=⟨bhash_in _ _ _,bhash_in _ _ _,fun _ _=>⟨Int.le_refl _,show (0:Int)<256 by decide⟩⟩
theorem rnew_any (w0 w:World) (l:List (Nat × List Value)) (M:Mm w0 l w) :
 Calls Tryz.prog 39 #[] w fun e w'=>∃ Q,e=.returned (.pointer (some ⟨Q,0,none⟩))∧w.heap.size≤Q∧Mm w0 ((Q,stc snew)::l) w'∧Below w.heap.size w w':=by
 obtain ⟨f,hf⟩:∃ f,f=bhash 33 (bl snoise):=⟨_,rfl⟩
 rw [show snew=sbeg f by rw [hf]; rfl]
 have OF:=Off.refl [] w; have hb0:=M.below
 go_enter Tryz.func39,Tryz.ntmps39
 go_upto_region 0 with fail; refine wp_region_list ?_; refine xpL (.pointer none) ?_; refine xT ?_; go_upto_region 1 with fail; refine wp_region_list ?_; refine actL (w':=w.alloc (.cells (row .u8 33 (bl snoise)).toArray 5)) (.slice (some ⟨w.heap.size,0,none⟩) 33 33) rfl (by kernel_rfl) ?_; simp only [aP,lI,l0,lS]
 refine xaL (.slice (some ⟨w.heap.size,0,none⟩) 33 33) (conv_const 32 5 (row .u8 33 (bl snoise)).toArray 33 33 _ rfl rfl Tryz.underlying32 Tryz.underlying5) ?_; have hsrc:=(has_marked w .u8 33 (bl snoise) 5).src0; have hlb:=(Below.refl w.heap.size w).alloc (xnR _) (.cells (row .u8 33 (bl snoise)).toArray 5 ((row .u8 33 (bl snoise)).toArray.size,(row .u8 33 (bl snoise)).toArray.size+1))
 replace M:=M.call hlb; replace OF:=OF.below hlb; clear hlb; generalize w.alloc (.cells (row .u8 33 (bl snoise)).toArray 5 ((row .u8 33 (bl snoise)).toArray.size,(row .u8 33 (bl snoise)).toArray.size+1))=w1 at M hsrc OF ⊢; refine xcL (refHash_any (some ⟨w.heap.size,0,none⟩) 33 33 (by decide) (fun e=>by cases e) (bl snoise) snoise_in.bl _ hsrc) ?_; rintro e w2 ⟨rfl,l1⟩
 replace M:=M.call l1; replace OF:=OF.below l1; clear l1 hsrc
 rw [← hf]
 refine xeL ?_; have hz0_:=OF.size; refine actL (w':=w2.alloc (.cells zu8_32 23)) (.pointer (some ⟨w2.heap.size,0,none⟩)) rfl (by kernel_rfl) ?_; simp only [aP,lI,l0,lS]; have hlb:=(Below.refl w2.heap.size w2).alloc (xnR _) (.cells zu8_32 23); replace OF:=OF.below hlb; clear hlb
 have hB_B3:w0.heap.size≤w2.heap.size:=M.below.size
 replace M:=M.box zu8_32 23 w2.heap.size rfl; generalize w2.alloc (.cells zu8_32 23)=w3 at M OF ⊢; generalize eB:w2.heap.size=B3 at M hB_B3  ⊢
 have hE_B3:w2.heap.size≤B3:=Nat.le_of_eq eB
 have hF_B3:B3≤w2.heap.size:=Nat.le_of_eq eB.symm
 clear eB
 replace M:Mm w0 ((B3,[.int .u8 0,.int .u8 0,.int .u8 0,.int .u8 0,.int .u8 0,.int .u8 0,.int .u8 0,.int .u8 0,.int .u8 0,.int .u8 0,.int .u8 0,.int .u8 0,.int .u8 0,.int .u8 0,.int .u8 0,.int .u8 0,.int .u8 0,.int .u8 0,.int .u8 0,.int .u8 0,.int .u8 0,.int .u8 0,.int .u8 0,.int .u8 0,.int .u8 0,.int .u8 0,.int .u8 0,.int .u8 0,.int .u8 0,.int .u8 0,.int .u8 0,.int .u8 0])::l) w3:=M
 have hW_B3:w.heap.size≤B3:=by omega
 clear hz0_; refine skipOpL rfl (storeP (row .u8 32 f) B3 0 23 _ _ rfl rfl rfl (M.thereP mS 0 32 (Nat.le_of_ble_eq_true rfl)) (by rw [List.size_toArray,row32]; kernel_rfl) (row_one .u8 32 _)) ?_; simp only [Act.put]; replace M:=M.setAll (row .u8 32 f) (by rw [row32]; rfl); replace OF:=OF.and1 ((Off.refl [B3] _).setAll mS 0 (row .u8 32 f)) (.inr (by omega))
 generalize w3.setCells B3 0 (row .u8 32 f)=w4 at M OF ⊢; refine xT ?_; go_upto_region 2 with fail; refine wp_region_list ?_; refine xaL (.agg (row .u8 32 f).toArray) (loadN 23 _ ⟨B3,0,none⟩ (row .u8 32 f) rfl rfl (fun _=>by kernel_rfl) (fun _=>by rw [row32]; kernel_rfl) (M.part mS 0 _ (by rw [List.drop_zero,List.take_length]))) ?_
 refine xaL (.agg (row .u8 32 f).toArray) (loadN 23 _ ⟨B3,0,none⟩ (row .u8 32 f) rfl rfl (fun _=>by kernel_rfl) (fun _=>by rw [row32]; kernel_rfl) (M.part mS 0 _ (by rw [List.drop_zero,List.take_length]))) ?_; refine xpL (.agg (stc (sbeg f)).toArray) ?_; refine actL (w':=w4.alloc (.cells (stc (sbeg f)).toArray 85)) (.pointer (some ⟨w4.heap.size,0,none⟩)) rfl (by kernel_rfl) ?_
 simp only [aP,lI,l0,lS]
 have hW_B5:w.heap.size≤w4.heap.size:=OF.size
 replace OF:=OF.below ((Below.refl w4.heap.size w4).alloc (xnR _) (.cells (stc (sbeg f)).toArray 85)); replace M:=M.box (stc (sbeg f)).toArray 85 w4.heap.size rfl; generalize w4.alloc (.cells (stc (sbeg f)).toArray 85)=w5 at M OF ⊢; generalize w4.heap.size=B5 at M hW_B5 ⊢
 replace M:Mm w0 ((B5,stc (sbeg f))::(B3,row .u8 32 f)::l) w5:=M
 refine xpL (.pointer (some ⟨B5,0,none⟩)) ?_; refine xT ?_; replace M:=M.drop2
 have hbel:Below w.heap.size w w5:=⟨M.below.os.trans hb0.os.symm,M.below.tape.trans hb0.tape.symm,M.below.output.trans hb0.output.symm,OF.size,fun b hb=>OF.blk b hb (fun h=>by cases h)⟩
 have HS:=show Hid _ from (And.intro hW_B5 (And.intro M hbel)); clear M OF hbel hW_B5; go_wp2; go_ret
 exact ⟨_,rfl,HS.out⟩
structure Lad where
 pub:(Nat→Int)→List Int
 dh:(Nat→Int)→List Int→Option (List Int)
structure Shk where
 role:Nat
 step:Nat
 sec:Nat→Int
 drw:Nat→Int
 its:List Int
 drn:List Int
 st:Sym
def shz:List Int:=List.replicate 32 0
def shBegin (a e:Nat→Int) (B:List Int):Shk:=⟨0,0,a,e,B,shz,smix snew B⟩
def shAwait (L:Lad) (b f:Nat→Int):Shk:=⟨1,0,b,f,shz,shz,smix snew (L.pub b)⟩
def shF (L:Lad) (s:Shk) (t:List Int):Except Int (List Int × Shk) :=
 if s.role≠0∨s.step≠0 then .error 4 else if 128<t.length then .error 2
 else match L.dh s.drw s.its with
  | none=>.error 20
  | some k=>match L.dh s.sec s.its with
    | none=>.error 20
    | some k'=>.ok (L.pub s.drw++(sout (skey (smix s.st (L.pub s.drw)) k) (L.pub s.sec)++sout (skey (sseal (skey (smix s.st (L.pub s.drw)) k) (L.pub s.sec)) k') t),{ s with st:=sseal (skey (sseal (skey (smix s.st (L.pub s.drw)) k) (L.pub s.sec)) k') t,step:=1 })
def shTF (L:Lad) (s:Shk) (b:List Int):Except Int (List Int × Shk) :=
 if s.role≠1∨s.step≠0 then .error 4 else if b.length<96 then .error 3 else if 224<b.length then .error 2
 else match L.dh s.sec (b.take 32) with
  | none=>.error 20
  | some k=>if soE (skey (smix s.st (b.take 32)) k) ((b.drop 32).take 48)≠0 then .error (soE (skey (smix s.st (b.take 32)) k) ((b.drop 32).take 48))
    else match L.dh s.sec (soT (skey (smix s.st (b.take 32)) k) ((b.drop 32).take 48)) with
     | none=>.error 20
     | some k'=>if soE (skey (sopen (skey (smix s.st (b.take 32)) k) ((b.drop 32).take 48)) k') (b.drop 80)≠0 then .error (soE (skey (sopen (skey (smix s.st (b.take 32)) k) ((b.drop 32).take 48)) k') (b.drop 80))
       else .ok (soT (skey (sopen (skey (smix s.st (b.take 32)) k) ((b.drop 32).take 48)) k') (b.drop 80),{ s with st:=sopen (skey (sopen (skey (smix s.st (b.take 32)) k) ((b.drop 32).take 48)) k') (b.drop 80),its:=soT (skey (smix s.st (b.take 32)) k) ((b.drop 32).take 48),drn:=b.take 32,step:=1 })
def shS (L:Lad) (s:Shk) (t:List Int):Except Int (List Int × Shk) :=
 if s.role≠1∨s.step≠1 then .error 4 else if 128<t.length then .error 2
 else match L.dh s.drw s.drn with
  | none=>.error 20
  | some k=>match L.dh s.drw s.its with
    | none=>.error 20
    | some k'=>.ok (L.pub s.drw++sout (skey (skey (smix s.st (L.pub s.drw)) k) k') t,{ s with st:=sseal (skey (skey (smix s.st (L.pub s.drw)) k) k') t,step:=2 })
def shTS (L:Lad) (s:Shk) (b:List Int):Except Int (List Int × Shk) :=
 if s.role≠0∨s.step≠1 then .error 4 else if b.length<48 then .error 3 else if 176<b.length then .error 2
 else match L.dh s.drw (b.take 32) with
  | none=>.error 20
  | some k=>match L.dh s.sec (b.take 32) with
    | none=>.error 20
    | some k'=>if soE (skey (skey (smix s.st (b.take 32)) k) k') (b.drop 32)≠0 then .error (soE (skey (skey (smix s.st (b.take 32)) k) k') (b.drop 32))
      else .ok (soT (skey (skey (smix s.st (b.take 32)) k) k') (b.drop 32),{ s with st:=sopen (skey (skey (smix s.st (b.take 32)) k) k') (b.drop 32),step:=2 })
structure Lad.Ok (L:Lad):Prop where
 len:∀ a,(L.pub a).length=32
 byt:∀ a,Byts (L.pub a)
 agr:∀ a b,∃ k,L.dh a (L.pub b)=some k∧L.dh b (L.pub a)=some k
theorem sout_len {s:Sym} (h:s.has=true) (t:List Int):(sout s t).length=t.length+16:=by rw [sout_length,if_pos h]
theorem shF_eq {L:Lad} {s:Shk} {t k k':List Int} (hr:s.role=0) (hs:s.step=0) (ht:t.length≤128) (h1:L.dh s.drw s.its=some k) (h2:L.dh s.sec s.its=some k') :
 shF L s t=.ok (L.pub s.drw++(sout (skey (smix s.st (L.pub s.drw)) k) (L.pub s.sec)++sout (skey (sseal (skey (smix s.st (L.pub s.drw)) k) (L.pub s.sec)) k') t),{ s with st:=sseal (skey (sseal (skey (smix s.st (L.pub s.drw)) k) (L.pub s.sec)) k') t,step:=1 }):=by
 unfold shF
 rw [if_neg (by omega),if_neg (by omega),h1,h2]
theorem shTF_back {L:Lad} (hL:L.Ok) {s:Shk} {x:Sym} {e a:Nat→Int} {t k k':List Int} (hr:s.role=1) (hs:s.step=0) (hx:s.st=x) (ht:t.length≤128) (hb:Byts t) (h1:L.dh s.sec (L.pub e)=some k) (h2:L.dh s.sec (L.pub a)=some k') :
 shTF L s (L.pub e++(sout (skey (smix x (L.pub e)) k) (L.pub a)++sout (skey (sseal (skey (smix x (L.pub e)) k) (L.pub a)) k') t))=.ok (t,{ s with st:=sseal (skey (sseal (skey (smix x (L.pub e)) k) (L.pub a)) k') t,its:=L.pub a,drn:=L.pub e,step:=1 }):=by
 subst hx; have l1:=hL.len e
 have l2:(sout (skey (smix s.st (L.pub e)) k) (L.pub a)).length=48:=by rw [sout_len rfl,hL.len]
 have l3:(sout (skey (sseal (skey (smix s.st (L.pub e)) k) (L.pub a)) k') t).length=t.length+16:=sout_len rfl t
 unfold shTF
 rw [if_neg (by omega),if_neg (by simp only [List.length_append]; omega),if_neg (by simp only [List.length_append]; omega),List.take_left' l1,h1,List.drop_left' l1,List.take_left' l2]
 simp only
 rw [if_neg (by rw [soE_back]; decide),soT_back _ _ (hL.byt a),h2,sopen_back]
 simp only
 rw [show (80:Nat)=32+48 from rfl,← List.drop_drop,List.drop_left' l1,List.drop_left' l2,if_neg (by rw [soE_back]; decide),soT_back _ _ hb,sopen_back]
theorem shS_eq {L:Lad} {s:Shk} {t k k':List Int} (hr:s.role=1) (hs:s.step=1) (ht:t.length≤128) (h1:L.dh s.drw s.drn=some k) (h2:L.dh s.drw s.its=some k') :
 shS L s t=.ok (L.pub s.drw++sout (skey (skey (smix s.st (L.pub s.drw)) k) k') t,{ s with st:=sseal (skey (skey (smix s.st (L.pub s.drw)) k) k') t,step:=2 }):=by
 unfold shS
 rw [if_neg (by omega),if_neg (by omega),h1,h2]
theorem shTS_back {L:Lad} (hL:L.Ok) {s:Shk} {x:Sym} {f:Nat→Int} {t k k':List Int} (hr:s.role=0) (hs:s.step=1) (hx:s.st=x) (ht:t.length≤128) (hb:Byts t) (h1:L.dh s.drw (L.pub f)=some k) (h2:L.dh s.sec (L.pub f)=some k') :
 shTS L s (L.pub f++sout (skey (skey (smix x (L.pub f)) k) k') t)=.ok (t,{ s with st:=sseal (skey (skey (smix x (L.pub f)) k) k') t,step:=2 }):=by
 subst hx; have l1:=hL.len f
 have l3:(sout (skey (skey (smix s.st (L.pub f)) k) k') t).length=t.length+16:=sout_len rfl t
 unfold shTS
 rw [if_neg (by omega),if_neg (by simp only [List.length_append]; omega),if_neg (by simp only [List.length_append]; omega),List.take_left' l1,h1,h2,List.drop_left' l1]
 simp only
 rw [if_neg (by rw [soE_back]; decide),soT_back _ _ hb,sopen_back]
theorem sh_agree {L:Lad} (hL:L.Ok) (a e b f:Nat→Int) (t r:List Int) (ht:t.length≤128) (hbt:Byts t) (hr:r.length≤128) (hbr:Byts r) :
 ∃ m1 A1 B1 m2 A2 B2,shF L (shBegin a e (L.pub b)) t=.ok (m1,A1)∧shTF L (shAwait L b f) m1=.ok (t,B1)∧shS L B1 r=.ok (m2,B2)∧shTS L A1 m2=.ok (r,A2)∧A2.st=B2.st∧A2.step=2∧B2.step=2∧B2.its=L.pub a:=by
 obtain ⟨k1,p1,q1⟩:=hL.agr e b
 obtain ⟨k2,p2,q2⟩:=hL.agr a b
 obtain ⟨k3,p3,q3⟩:=hL.agr f e
 obtain ⟨k4,p4,q4⟩:=hL.agr f a
 exact ⟨_,_,_,_,_,_,shF_eq rfl rfl ht p1 p2,shTF_back hL rfl rfl rfl ht hbt q1 q2,shS_eq rfl rfl hr p3 p4,shTS_back hL rfl rfl rfl hr hbr q3 q4,rfl,rfl,rfl,rfl⟩
theorem num_info (f:Nat→Int):(Tryz.prog.info? 116).map (·.size)=some (row .u64 4 f).length:=by rw [row_length]; kernel_rfl
theorem num_info' (f:Nat→Int):(Tryz.prog.info? 116).map (·.size)=some (row .u64 4 f).toArray.size:=by rw [List.size_toArray]; exact num_info f
theorem num_there {w:World} {b:Nat} {f g:Nat→Int} (h:Has w b .u64 4 f):w.there b 0 (row .u64 4 g).toArray.size:=by rw [List.size_toArray,row_length]; exact h.there
def Sums (a b n:Nat→Int) (cv:Int):Prop:=0≤cv∧cv≤1∧In W 4 n∧val W n 4+W^4*cv=val W a 4+val W b 4
def Differs (a b n:Nat→Int) (cv:Int):Prop:=0≤cv∧cv≤1∧In W 4 n∧val W n 4+val W b 4=val W a 4+W^4*cv
structure kPInv (a b:Nat→Int) (w:World) (k:Nat) (n:Nat→Int) (cv:Int) (w':World):Prop where
 c0:0≤cv
 c1:cv≤1
 inn:In W 4 n
 rest:∀ j,k≤j→n j=a j
 eq:val W n k+W^k*cv=val W a k+val W b k
 hn:Has w' w.heap.size .u64 4 n
 hb:Has w' (w.heap.size+1) .u64 4 b
 hr:Has w' (w.heap.size+1+1) .u64 4 (fun _=>0)
 below:Below w.heap.size w w'
theorem kPInv.step {a b:Nat→Int} {w:World} {k:Nat} {n:Nat→Int} {cv:Int} {w':World} (h:kPInv a b w k n cv w') (hbi:In W 4 b) (hk:k<4) :
 kPInv a b w (k+1) (upd n k (aLo (n k) (b k) cv)) (aHi (n k) (b k) cv) ((w'.setCell ⟨w.heap.size,k,none⟩ (.int .u64 (aLo (n k) (b k) cv))).drew):=by
 have i1:=h.inn k hk; have i2:=hbi k hk; have q0:=h.c0; have q1:=h.c1
 simp only [W] at i1 i2
 have l0:0≤aLo (n k) (b k) cv:=by unfold aLo; omega
 have l1:aLo (n k) (b k) cv<W:=by simp only [W]; unfold aLo; omega
 have es:aLo (n k) (b k) cv+W*aHi (n k) (b k) cv=n k+b k+cv:=by simp only [W]; unfold aLo aHi; omega
 refine ⟨by unfold aHi; omega,by unfold aHi; omega,h.inn.upd k _ l0 l1,fun j hj=>?_,?_,(h.hn.set k hk _).drew,(h.hb.set_other _ _ (by simp)).drew,(h.hr.set_other _ _ (by simp; omega)).drew,(h.below.setCell (by simp) _).drew⟩
 · rw [upd_other _ _ _ _ (by omega)]; exact h.rest j (by omega)
 · simp only [val]
   rw [val_upd _ _ _ _ _ (xnR k),upd_same,Int.pow_succ,Int.mul_assoc]
   have e1:W^k*aLo (n k) (b k) cv+W^k*(W*aHi (n k) (b k) cv)=W^k*n k+W^k*b k+W^k*cv:=by
    rw [← Int.mul_add,es,Int.mul_add,Int.mul_add]
   have e2:=h.eq; have e3:=h.rest k (xnR k)
   rw [← e3]
   omega
theorem kplus_any (a b:Nat→Int) (ha:In W 4 a) (hb:In W 4 b) (w:World) :
 Calls Tryz.prog 128 #[.agg (row .u64 4 a).toArray,.agg (row .u64 4 b).toArray] w fun e w'=>∃ (n:Nat→Int) (cv:Int),e=.returned (.tuple #[.agg (row .u64 4 n).toArray,.int .u64 cv]) ∧
  Sums a b n cv∧Below w.heap.size w w':=by
 go_enter Tryz.func128,Tryz.ntmps128
 go_wp2
 go_loopw [6,8] (fun c i w'=>∃ (k:Nat) (n:Nat→Int) (cv:Int),k≤4∧i=.int .i64 k∧c=.int .u64 cv∧kPInv a b w k n cv w') (fun _ i _=>4-(intOf i).toNat)
 case atStart =>
  exact ⟨0,a,0,by omega,rfl,rfl,⟨by omega,by omega,ha,fun _ _=>rfl,by simp [val],((Has.new w _ _ _ _ _ rfl).alloc _ (by simp)).alloc _ (by simp; omega),(Has.new _ _ _ _ _ _ (by simp)).alloc _ (by simp),Has.new _ .u64 4 (fun _=>0) _ _ (by simp),(((Below.refl _ _).alloc (xnR _) _).alloc (by simp) _).alloc (by simp; omega) _⟩⟩
 case round =>
  obtain ⟨k,n,cv,hk,rfl,rfl,hI⟩:=hrel
  by_cases hlt:k<4
  · have hS:=hI.step hb hlt
    have c1:=hI.hn.cell k hlt; have c2:=hI.hb.cell k hlt; have f1:=hI.hn.free k hlt; have b1:=(hI.inn k hlt).1; have b2:=(hb k hlt).1; have hadd:=add64 (n k) (b k) cv b1 b2 hI.c0 hI.c1
    have g1:(0:Int)≤(k:Int):=by omega
    have g2:(k:Int)<4:=by omega
    clear hI; generalize aLo (n k) (b k) cv=lo at *; generalize aHi (n k) (b k) cv=hi at *; generalize n k=x at *; generalize b k=y at *; go_wp2
    go_region
    go_wp2
    go_roundw
    case rel=>exact ⟨k+1,_,_,by omega,by go_num,rfl,hS⟩
    case measure=>simp [intOf]; omega
  · obtain rfl:k=4:=by omega
    have hT:=hI.hr.there
    go_wp2_with (first | (refine wpList_load_mid rfl 116 _ rfl (w.heap.size) 0 rfl (row .u64 4 (n)) _ (Has.range (hI.hn)) Tryz.underlying116 rfl (num_info _) ?_) | (refine wpList_store_mid rfl 116 _ _ rfl (w.heap.size+1+1) 0 (row .u64 4 (n)).toArray rfl rfl (num_there (hI.hr)) (num_info' _) (all_oneCell_toArray (row_one _ _ _)) ?_))
    exact bodyPost_ret (v:=.tuple #[.agg (row .u64 4 n).toArray,.int .u64 cv]) (results_row_tmp Tryz.results128 rfl rfl (Has.all hT .u64 n).range Tryz.underlying116 rfl (num_info n)) rfl ⟨n,cv,rfl,⟨hI.c0,hI.c1,hI.inn,hI.eq⟩,below_setAll hI.below _ (by omega) _ _⟩
structure MInv (a b:Nat→Int) (w:World) (k:Nat) (n:Nat→Int) (cv:Int) (w':World):Prop where
 c0:0≤cv
 c1:cv≤1
 inn:In W 4 n
 rest:∀ j,k≤j→n j=a j
 eq:val W n k+val W b k=val W a k+W^k*cv
 hn:Has w' w.heap.size .u64 4 n
 hb:Has w' (w.heap.size+1) .u64 4 b
 hr:Has w' (w.heap.size+1+1) .u64 4 (fun _=>0)
 below:Below w.heap.size w w'
theorem MInv.step {a b:Nat→Int} {w:World} {k:Nat} {n:Nat→Int} {cv:Int} {w':World} (h:MInv a b w k n cv w') (hbi:In W 4 b) (hk:k<4) :
 MInv a b w (k+1) (upd n k (sLo (n k) (b k) cv)) (sHi (n k) (b k) cv) ((w'.setCell ⟨w.heap.size,k,none⟩ (.int .u64 (sLo (n k) (b k) cv))).drew):=by
 have i1:=h.inn k hk; have i2:=hbi k hk; have q0:=h.c0; have q1:=h.c1
 simp only [W] at i1 i2
 have l0:0≤sLo (n k) (b k) cv:=by unfold sLo; omega
 have l1:sLo (n k) (b k) cv<W:=by simp only [W]; unfold sLo; omega
 have es:sLo (n k) (b k) cv+(b k+cv)=n k+W*sHi (n k) (b k) cv:=by simp only [W]; unfold sLo sHi; split <;> omega
 refine ⟨by unfold sHi; split <;> omega,by unfold sHi; split <;> omega,h.inn.upd k _ l0 l1,fun j hj=>?_,?_,(h.hn.set k hk _).drew,(h.hb.set_other _ _ (by simp)).drew,(h.hr.set_other _ _ (by simp; omega)).drew,(h.below.setCell (by simp) _).drew⟩
 · rw [upd_other _ _ _ _ (by omega)]; exact h.rest j (by omega)
 · simp only [val]
   rw [val_upd _ _ _ _ _ (xnR k),upd_same,Int.pow_succ,Int.mul_assoc]
   have e1:W^k*sLo (n k) (b k) cv+(W^k*b k+W^k*cv)=W^k*n k+W^k*(W*sHi (n k) (b k) cv):=by
    rw [← Int.mul_add,← Int.mul_add,es,Int.mul_add]
   have e2:=h.eq; have e3:=h.rest k (xnR k)
   rw [← e3]
   omega
theorem minus_any (a b:Nat→Int) (ha:In W 4 a) (hb:In W 4 b) (w:World) :
 Calls Tryz.prog 130 #[.agg (row .u64 4 a).toArray,.agg (row .u64 4 b).toArray] w fun e w'=>∃ (n:Nat→Int) (cv:Int),e=.returned (.tuple #[.agg (row .u64 4 n).toArray,.int .u64 cv]) ∧
  Differs a b n cv∧Below w.heap.size w w':=by
 go_enter Tryz.func130,Tryz.ntmps130
 go_wp2
 go_loopw [6,8] (fun c i w'=>∃ (k:Nat) (n:Nat→Int) (cv:Int),k≤4∧i=.int .i64 k∧c=.int .u64 cv∧MInv a b w k n cv w') (fun _ i _=>4-(intOf i).toNat)
 case atStart =>
  exact ⟨0,a,0,by omega,rfl,rfl,⟨by omega,by omega,ha,fun _ _=>rfl,by simp [val],((Has.new w _ _ _ _ _ rfl).alloc _ (by simp)).alloc _ (by simp; omega),(Has.new _ _ _ _ _ _ (by simp)).alloc _ (by simp),Has.new _ .u64 4 (fun _=>0) _ _ (by simp),(((Below.refl _ _).alloc (xnR _) _).alloc (by simp) _).alloc (by simp; omega) _⟩⟩
 case round =>
  obtain ⟨k,n,cv,hk,rfl,rfl,hI⟩:=hrel
  by_cases hlt:k<4
  · have hS:=hI.step hb hlt
    have c1:=hI.hn.cell k hlt; have c2:=hI.hb.cell k hlt; have f1:=hI.hn.free k hlt; have b1:=(hI.inn k hlt).1; have b2:=(hb k hlt).1; have hadd:=sub64 (n k) (b k) cv b1 b2 (hb k hlt).2 hI.c0 hI.c1
    have g1:(0:Int)≤(k:Int):=by omega
    have g2:(k:Int)<4:=by omega
    clear hI; generalize sLo (n k) (b k) cv=lo at *; generalize sHi (n k) (b k) cv=hi at *; generalize n k=x at *; generalize b k=y at *; go_wp2
    go_region
    go_wp2
    go_roundw
    case rel=>exact ⟨k+1,_,_,by omega,by go_num,rfl,hS⟩
    case measure=>simp [intOf]; omega
  · obtain rfl:k=4:=by omega
    have hT:=hI.hr.there
    go_wp2_with (first | (refine wpList_load_mid rfl 116 _ rfl (w.heap.size) 0 rfl (row .u64 4 (n)) _ (Has.range (hI.hn)) Tryz.underlying116 rfl (num_info _) ?_) | (refine wpList_store_mid rfl 116 _ _ rfl (w.heap.size+1+1) 0 (row .u64 4 (n)).toArray rfl rfl (num_there (hI.hr)) (num_info' _) (all_oneCell_toArray (row_one _ _ _)) ?_))
    exact bodyPost_ret (v:=.tuple #[.agg (row .u64 4 n).toArray,.int .u64 cv]) (results_row_tmp Tryz.results130 rfl rfl (Has.all hT .u64 n).range Tryz.underlying116 rfl (num_info n)) rfl ⟨n,cv,rfl,⟨hI.c0,hI.c1,hI.inn,hI.eq⟩,below_setAll hI.below _ (by omega) _ _⟩
end Go.Proofs.YtklnibmfpcmeeaaGreatDoor
