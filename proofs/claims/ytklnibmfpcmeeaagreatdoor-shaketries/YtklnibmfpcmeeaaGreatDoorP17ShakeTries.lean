/- Texts of Zb Ft Re Rc Pr Zc Pc Zd Ze Zk Pd Id Zr Gw Gx Wr, joined. -/
import Derived.Test.YtklnibmfpcmeeaaGreatDoorP16ShakeTries
import Derived.Lib.Bytes
import Derived.Lib.AppendZerosOnto
import Derived.Deep.DeepAppendWide
set_option maxRecDepth 20000
set_option maxHeartbeats 64000000
namespace Go.Proofs.YtklnibmfpcmeeaaGreatDoor
open Go.RowKit
def lby (x:Fin QN):List Int:=(List.range 32).map (dig x.val)
theorem lby_len (x:Fin QN):(lby x).length=32:=by unfold lby; rw [List.length_map,List.length_range]
theorem lby_in (x:Fin QN):In 256 32 (bl (lby x)):=fun j hj=>by
 unfold lby
 rw [bl_range _ _ _ hj]
 exact dig_in x.val 32 j hj
theorem lby_byts (x:Fin QN):Byts (lby x):=by
 intro y hy
 unfold lby at hy
 obtain ⟨j,hj,rfl⟩:=List.mem_map.1 hy
 exact dig_in x.val 32 j (List.mem_range.1 hj)
theorem lby_val (x:Fin QN):val 256 (bl (lby x)) 32=(x.val:Int):=by
 have h1:val 256 (bl (lby x)) 32=val 256 (dig x.val) 32:=val_congr 256 32 fun j hj=>by unfold lby; exact bl_range _ _ _ hj
 rw [h1,val_dig,Nat.mod_eq_of_lt (Nat.lt_trans x.isLt (by decide +kernel))]
theorem lby_of {f:Nat→Int} {x:Fin QN} (hf:In 256 32 f) (hv:val 256 f 32=(x.val:Int)):row .u8 32 f=row .u8 32 (bl (lby x)) :=
 row_congr .u8 32 (val_inj 256 (by decide) f _ 32 hf (lby_in x) (by rw [hv,lby_val]))
def LD:Lad:=⟨fun a=>lby (tm a (one 9)),fun a B=>if tm a (bl B)=0 then none else some (lby (tm a (bl B)))⟩
theorem LD_ok:LD.Ok:=by
 refine ⟨fun a=>lby_len _,fun a=>lby_byts _,fun a b=>⟨lby (tm a (bl (LD.pub b))),?_,?_⟩⟩
 · exact if_neg (tm_nine_ne b a _ (lby_in _) (lby_val _))
 · have e:tm a (bl (LD.pub b))=tm b (bl (LD.pub a)):=tm_agrees a b _ _ (lby_in _) (lby_val _) (lby_in _) (lby_val _)
   rw [e]
   exact if_neg (tm_nine_ne a b _ (lby_in _) (lby_val _))
theorem lpublic_any (k:Nat→Int) (hk:In 256 32 k) (w:World) (hg:kGlob w) (ht:Trs w) :
 Calls Tryz.prog 21 #[(.agg (row .u8 32 (k)).toArray)] w fun e w'=>e=.returned (.agg (row .u8 32 (bl (LD.pub k))).toArray)∧Below w.heap.size w w' :=
 (public_any k hk w hg ht).mono fun _ _ ⟨f,he,⟨hf,hv⟩,l⟩=>⟨by rw [he,lby_of hf hv]; rfl,l⟩
theorem lshared_any (k u:Nat→Int) (hk:In 256 32 k) (hu:In 256 32 u) (w:World) (hg:kGlob w) (ht:Trs w) :
 Calls Tryz.prog 62 #[(.agg (row .u8 32 (k)).toArray),(.agg (row .u8 32 (u)).toArray)] w fun e w'=>e=.returned (.tuple #[(.agg (row .u8 32 (bl (lby (tm k u)))).toArray),.int .i64 (if tm k u=0 then 20 else 0)])∧Below w.heap.size w w' :=
 (shared_any k u hk hu w hg ht).mono fun _ _ ⟨f,he,⟨hf,hv⟩,l⟩=>⟨by rw [he,lby_of hf hv],l⟩
theorem lrefpublic_any (k:Nat→Int) (hk:In 256 32 k) (w:World) :
 Calls Tryz.prog 19 #[(.agg (row .u8 32 (k)).toArray)] w fun e w'=>e=.returned (.agg (row .u8 32 (bl (LD.pub k))).toArray)∧Below w.heap.size w w' :=
 (refPublic_any k hk w).mono fun _ _ ⟨f,he,⟨hf,hv⟩,l⟩=>⟨by rw [he,lby_of hf hv]; rfl,l⟩
theorem flat_len (ps:List (List Value)) (ls:List Nat) (h:ps.map List.length=ls):ps.flatten.length=ls.sum:=by subst h; exact List.length_flatten
theorem flat_cut:∀ (ps:List (List Value)) (i:Nat) (p:List Value),ps[i]?=some p→∃ pre rest,ps.flatten=pre++(p++rest)∧pre.length=((ps.map List.length).take i).sum∧∀ ds,(ps.set i ds).flatten=pre++(ds++rest)
 | [],i,p,h=>by cases h
 | q::ps,0,p,h=>by
   obtain rfl:q=p:=by simpa using h
   exact ⟨[],ps.flatten,rfl,rfl,fun _=>rfl⟩
 | q::ps,i+1,p,h=>by
   obtain ⟨pre,rest,e1,e2,e3⟩:=flat_cut ps i p (by simpa using h)
   refine ⟨q++pre,rest,?_,?_,fun ds=>?_⟩
   · rw [List.flatten_cons,e1,List.append_assoc]
   · rw [List.length_append,e2]; simp
   · rw [List.set_cons_succ,List.flatten_cons,e3,List.append_assoc]
theorem flat_part (ps:List (List Value)) (ls:List Nat) (h:ps.map List.length=ls) (i o:Nat) (p:List Value) (hp:ps[i]?=some p) (ho:(ls.take i).sum=o):(ps.flatten.drop o).take p.length=p:=by
 subst h ho
 obtain ⟨pre,rest,e1,e2,_⟩:=flat_cut ps i p hp
 rw [e1,List.drop_left' e2,List.take_left]
theorem flat_get (ps:List (List Value)) (ls:List Nat) (h:ps.map List.length=ls) (i o:Nat) (v:Value) (hp:ps[i]?=some [v]) (ho:(ls.take i).sum=o):ps.flatten[o]?=some v:=by
 subst h ho
 obtain ⟨pre,rest,e1,e2,_⟩:=flat_cut ps i [v] hp
 rw [e1,← e2,List.getElem?_append_right (xnR _),Nat.sub_self]
 rfl
theorem flat_set (ps:List (List Value)) (ls:List Nat) (h:ps.map List.length=ls) (i o:Nat) (p ds:List Value) (hp:ps[i]?=some p) (ho:(ls.take i).sum=o) (hd:ds.length=p.length):setL ps.flatten o ds=(ps.set i ds).flatten:=by
 subst h ho
 obtain ⟨pre,rest,e1,e2,e3⟩:=flat_cut ps i p hp
 have:=setL_pre pre ds (p++rest) 0
 rw [Nat.add_zero,e2,setL_left _ _ _ hd] at this
 rw [e1,this,e3]
theorem flat_set1 (ps:List (List Value)) (ls:List Nat) (h:ps.map List.length=ls) (i o:Nat) (u v:Value) (hp:ps[i]?=some [u]) (ho:(ls.take i).sum=o):ps.flatten.set o v=(ps.set i [v]).flatten:=by
 have:=flat_set ps ls h i o [u] [v] hp ho rfl
 exact this
theorem flat_one (ps:List (List Value)) (h:∀ p∈ps,∀ u∈p,u.oneCell'=true):∀ u∈ps.flatten,u.oneCell'=true:=fun u hu=>by
 obtain ⟨p,hp,hu⟩:=List.mem_flatten.1 hu
 exact h p hp u hu
theorem Mm.srcA {w0 w:World} {l:List (Nat × List Value)} (h:Mm w0 l w) {b:Nat} {cs:List Value} (hp:(b,cs)∈l) (o n:Nat) (f:Nat→Int) (hd:(cs.drop o).take (row .u8 n f).length=row .u8 n f) (X:List Nat) (hX:b∉X):SrcA X w (some ⟨b,o,none⟩) n f :=
 ⟨h.srcRow hp o n f hd,fun ad e _ hm=>by cases e; exact hX hm⟩
theorem Mm.neq {w0 w:World} {l:List (Nat × List Value)} (h:Mm w0 l w) {i j:Nat} {p q:Nat × List Value} (hi:l[i]?=some p) (hj:l[j]?=some q) (hij:i<j):p.1≠q.1:=by
 obtain ⟨i1,rfl⟩:=List.getElem?_eq_some_iff.1 hi
 obtain ⟨j1,rfl⟩:=List.getElem?_eq_some_iff.1 hj
 exact List.pairwise_iff_getElem.1 h.apart i j i1 j1 hij
abbrev D:Int:=67108864
theorem v5 (f:Nat→Int):val D f 5=f 0+67108864*f 1+4503599627370496*f 2+302231454903657293676544*f 3+20282409603651670423947251286016*f 4:=by
 simp only [val,D]; omega
structure Two (a b:Nat→Int) (w w':World):Prop where
 ha:Has w' w.heap.size .u8 17 a
 hb:Has w' (w.heap.size+1) .u8 17 b
 hr:w'.there (w.heap.size+1+1) 0 17
 fr:Fr w 3 w'
theorem idxTag (b i:Nat) (hi:i<16) (w:World) {o:Oper} {a:Act} (x y:Operand) (ho:o.op=.indexAddr 51 x y) (hx:a.eval x=.pointer (some ⟨b,0,none⟩)) (hy:a.eval y=.int .i64 (i:Int)) :
 (execOp a.eval o).run Tryz.prog w=.ok (.value (.pointer (some ⟨b,i,none⟩))) w:=by
 have h:=idxArr (P:=Tryz.prog) 51 5 16 .i64 b 0 i x y Tryz.underlying51 (fun _=>by kernel_rfl) hi ho hx hy w
 rw [Nat.zero_add] at h
 exact h
def ekd (a b:Nat→Int):Int:=if tm a b=0 then 20 else 0
def skd (s:Sym) (a b:Nat→Int):Sym:=if tm a b=0 then s else skey s (lby (tm a b))
section
section
variable {P:Program} {md:Region.Mode} {ops:Array Oper} {Q:Exit→Act→World→Prop} {S:World→Prop}
theorem actO {i:Nat} {oi:Oper} (dst:Option Tmp) (hdst:oi.dst=dst) {K:Act→World→Prop} {a:Act} {w w':World} (v:Value) (hi:ops[i]?=some oi) (hw:Region.wanted oi (yielded ops a.tmps)=true)
 (he:(execOp a.eval oi).run P w=.ok (.value v) w') (h:K (a.put dst v) w'):wpOp P ops Q i K a w:=by
 unfold wpOp
 simp only [hi,hw,if_true]; refine .inl ?_
 unfold Oper.wp
 rw [he]
 subst hdst
 exact h
theorem onlyH {i:Nat} {oi:Oper} (dst:Option Tmp) (hdst:oi.dst=dst) {fuel:Nat} {listed:Array Bool} {a:Act} {w w':World} (v:Value) (hr:Region.ready md ops listed=[i]) (hi:ops[i]?=some oi) (hw:Region.wanted oi (yielded ops a.tmps)=true)
 (he:(execOp a.eval oi).run P w=.ok (.value v) w') (hS:S w') (h:wpAnyH P md ops Q S fuel (listed.setIfInBounds i true) (a.put dst v) w'):wpAnyH P md ops Q S (fuel+1) listed a w :=
 ⟨fun h0=>(by rw [h0] at hr; cases hr),fun j hj=>by
  rw [hr] at hj
  obtain rfl:=xm1 hj
  exact actO dst hdst v hi hw he ⟨hS,h⟩⟩
end
end
def ov (z:Nat→Int) (j:Nat):Nat→Int:=fun i=>if i<j then z i else 0
def shc (s:Shk) (Q:Nat):List Value:=[[.int .i64 (s.role:Int)],[.int .i64 (s.step:Int)],row .u8 32 s.sec,row .u8 32 s.drw,row .u8 32 (bl s.its),row .u8 32 (bl s.drn),[.pointer (some ⟨Q,0,none⟩)]].flatten
theorem rmix32 (w0 w:World) (R:Nat) (l:List (Nat × List Value)) (s:Sym) (hw:In 256 32 s.h) (sp:Option Addr) (cap:Nat) (b:List Int) (hl:b.length=32) (hb:Byts b) (hnil:sp=none→cap=0) (M:Mm w0 ((R,stc s)::l) w) (hs:SrcA [R] w sp 32 (bl b)) :
 Calls Tryz.prog 40 #[.pointer (some ⟨R,0,none⟩),.slice sp 32 cap] w fun e w'=>e=.returned (.tuple #[])∧Mm w0 ((R,stc (smix s b))::l) w'∧Off [R] w w':=by
 have:=rmix_any w0 w R l s hw sp cap b (by rw [hl]; decide) hnil hb M (by rw [hl]; exact hs)
 rw [hl] at this
 exact this
theorem rbegin_any (w0 w:World) (l:List (Nat × List Value)) (a d:Nat→Int) (B:List Int) (hB:B.length=32) (hBb:Byts B) (M:Mm w0 l w) :
 Calls Tryz.prog 23 #[(.agg (row .u8 32 (a)).toArray),(.agg (row .u8 32 (d)).toArray),(.agg (row .u8 32 (bl B)).toArray)] w fun e w'=>∃ R Q,e=.returned (.pointer (some ⟨R,0,none⟩))∧w.heap.size≤R∧w.heap.size≤Q∧Mm w0 ((R,shc (shBegin a d B) Q)::(Q,stc (shBegin a d B).st)::l) w'∧Below w.heap.size w w':=by
 have hb0:=M.below; have hwz:=xnR w.heap.size; have OF:=Off.refl [] w
 go_enter Tryz.func23,Tryz.ntmps23
 go_upto_region 0 with fail; refine wp_region_list ?_; have hlb:=(Below.refl w.heap.size w).alloc (xnR _) (.cells (row .u8 32 a).toArray 23); refine actL (w':=w.alloc (.cells (row .u8 32 a).toArray 23)) (.pointer (some ⟨w.heap.size,0,none⟩)) rfl (by kernel_rfl) ?_; simp only [aP,lI,l0,lS]; have hB_:=hwz; replace hwz:=xnT hwz hlb.size; replace OF:=OF.below hlb
 replace M:=M.box (row .u8 32 a).toArray 23 w.heap.size rfl; clear hlb; generalize w.alloc (.cells (row .u8 32 a).toArray 23)=w1 at M hwz OF ⊢; generalize eB_:w.heap.size=B1 at M ⊢
 have hB_B1:w.heap.size≤B1:=by rw [← eB_]; exact hB_
 clear hB_ eB_
 replace M:Mm w0 ((B1,row .u8 32 a)::l) w1:=M
 have hlb:=(Below.refl w1.heap.size w1).alloc (xnR _) (.cells (row .u8 32 d).toArray 23); refine actL (w':=w1.alloc (.cells (row .u8 32 d).toArray 23)) (.pointer (some ⟨w1.heap.size,0,none⟩)) rfl (by kernel_rfl) ?_; simp only [aP,lI,l0,lS]; have hB_:=hwz; replace hwz:=xnT hwz hlb.size; replace OF:=OF.below hlb; replace M:=M.box (row .u8 32 d).toArray 23 w1.heap.size rfl; clear hlb
 generalize w1.alloc (.cells (row .u8 32 d).toArray 23)=w2 at M hwz OF ⊢; generalize eB_:w1.heap.size=B2 at M ⊢
 have hB_B2:w.heap.size≤B2:=by rw [← eB_]; exact hB_
 clear hB_ eB_
 replace M:Mm w0 ((B2,row .u8 32 d)::(B1,row .u8 32 a)::l) w2:=M
 have hlb:=(Below.refl w2.heap.size w2).alloc (xnR _) (.cells (row .u8 32 (bl B)).toArray 23); refine actL (w':=w2.alloc (.cells (row .u8 32 (bl B)).toArray 23)) (.pointer (some ⟨w2.heap.size,0,none⟩)) rfl (by kernel_rfl) ?_; simp only [aP,lI,l0,lS]; have hB_:=hwz; replace hwz:=xnT hwz hlb.size; replace OF:=OF.below hlb
 replace M:=M.box (row .u8 32 (bl B)).toArray 23 w2.heap.size rfl; clear hlb; generalize w2.alloc (.cells (row .u8 32 (bl B)).toArray 23)=w3 at M hwz OF ⊢; generalize eB_:w2.heap.size=B3 at M ⊢
 have hB_B3:w.heap.size≤B3:=by rw [← eB_]; exact hB_
 clear hB_ eB_
 replace M:Mm w0 ((B3,row .u8 32 (bl B))::(B2,row .u8 32 d)::(B1,row .u8 32 a)::l) w3:=M
 refine xpL (.pointer none) ?_; refine xT ?_; go_upto_region 1 with fail; refine wp_region_held_drew (S:=fun w'=>Mm w0 ((B3,row .u8 32 (bl B))::(B2,row .u8 32 d)::(B1,row .u8 32 a)::l) w') (by kernel_rfl) M.drew ?_; clear M; intro M; have hdr:=(Below.refl w3.heap.size w3).drew; replace hwz:=xnT hwz hdr.size; replace OF:=OF.below hdr; clear hdr
 generalize w3.drew=w4 at M hwz OF ⊢; refine xrH 0 8 rfl (.agg (row .u8 32 a).toArray) (fun _ M=>loadN 23 _ ⟨B1,0,none⟩ (row .u8 32 a) rfl rfl (fun _=>by kernel_rfl) (fun _=>by rw [row32]; kernel_rfl) (M.part (mI 2 rfl) 0 _ (by rw [List.drop_zero,List.take_length]))) M ?_
 refine xrH 1 9 rfl (.agg (row .u8 32 d).toArray) (fun _ M=>loadN 23 _ ⟨B2,0,none⟩ (row .u8 32 d) rfl rfl (fun _=>by kernel_rfl) (fun _=>by rw [row32]; kernel_rfl) (M.part (mT _ mS) 0 _ (by rw [List.drop_zero,List.take_length]))) M ?_
 refine xrH 2 10 rfl (.agg (row .u8 32 (bl B)).toArray) (fun _ M=>loadN 23 _ ⟨B3,0,none⟩ (row .u8 32 (bl B)) rfl rfl (fun _=>by kernel_rfl) (fun _=>by rw [row32]; kernel_rfl) (M.part mS 0 _ (by rw [List.drop_zero,List.take_length]))) M ?_; have MH:=M; refine callH (i:=3) (some 11) rfl (by kernel_rfl) rfl rfl (fun _=>by kernel_rfl) (rnew_any w0 _ _ M) ?_
 rintro e w5 ⟨B5,rfl,hq_,M',l⟩; have hB_B5:=xnT hwz hq_; clear M hq_; have M:=M'; clear M'; replace MH:=MH.call l; replace hwz:=xnT hwz l.size; replace OF:=OF.below l; clear l
 refine ⟨_,rfl,MH,?_⟩
 simp only [aP,lI,l0,lS]; refine xrH 4 12 rfl (.agg ([[Value.int .i64 0],[Value.int .i64 0],row .u8 32 a,row .u8 32 d,row .u8 32 (bl B),row .u8 32 (fun _=>0),[Value.pointer (some ⟨B5,0,none⟩)]].flatten).toArray) (fun _ MH=>(by kernel_rfl)) MH ?_
 have hlb:=(Below.refl w5.heap.size w5).alloc (xnR _) (.cells ([[Value.int .i64 0],[Value.int .i64 0],row .u8 32 a,row .u8 32 d,row .u8 32 (bl B),row .u8 32 (fun _=>0),[Value.pointer (some ⟨B5,0,none⟩)]].flatten).toArray 68); replace MH:=MH.call hlb; refine onlyH (i:=5) (some 13) rfl (.pointer (some ⟨w5.heap.size,0,none⟩)) (by kernel_rfl) rfl rfl (by kernel_rfl) MH ?_
 simp only [aP,lI,l0,lS]; have hB_:=hwz; replace hwz:=xnT hwz hlb.size; replace OF:=OF.below hlb; replace M:=M.box ([[Value.int .i64 0],[Value.int .i64 0],row .u8 32 a,row .u8 32 d,row .u8 32 (bl B),row .u8 32 (fun _=>0),[Value.pointer (some ⟨B5,0,none⟩)]].flatten).toArray 68 w5.heap.size rfl; clear hlb
 generalize w5.alloc (.cells ([[Value.int .i64 0],[Value.int .i64 0],row .u8 32 a,row .u8 32 d,row .u8 32 (bl B),row .u8 32 (fun _=>0),[Value.pointer (some ⟨B5,0,none⟩)]].flatten).toArray 68)=w6 at M MH hwz OF ⊢; generalize eB_:w5.heap.size=B6 at M ⊢
 have hB_B6:w.heap.size≤B6:=by rw [← eB_]; exact hB_
 clear hB_ eB_
 replace M:Mm w0 ((B6,[[Value.int .i64 0],[Value.int .i64 0],row .u8 32 a,row .u8 32 d,row .u8 32 (bl B),row .u8 32 (fun _=>0),[Value.pointer (some ⟨B5,0,none⟩)]].flatten)::(B5,stc snew)::(B3,row .u8 32 (bl B))::(B2,row .u8 32 d)::(B1,row .u8 32 a)::l) w6:=M
 refine xrH 6 7 rfl (.pointer (some ⟨B6,0,none⟩)) (fun _ MH=>(by kernel_rfl)) MH ?_
 refine wpAnyH_done (by kernel_rfl) ?_ _
 first | show Exit.then _ _ _ _ _ | show Exit.inBlock _ _ _ _ _
 replace M:=M.swap; go_upto_region 2 with fail; refine wp_region_held_drew (S:=fun w'=>∃ cs_,Mm w0 ((B5,cs_)::(B6,[[Value.int .i64 0],[Value.int .i64 0],row .u8 32 a,row .u8 32 d,row .u8 32 (bl B),row .u8 32 (fun _=>0),[Value.pointer (some ⟨B5,0,none⟩)]].flatten)::(B3,row .u8 32 (bl B))::(B2,row .u8 32 d)::(B1,row .u8 32 a)::l) w') (by kernel_rfl) ⟨_,M.drew⟩ ?_
 intro _; replace M:=M.drew; have hdr:=(Below.refl w6.heap.size w6).drew; replace hwz:=xnT hwz hdr.size; replace OF:=OF.below hdr; clear hdr; generalize w6.drew=w7 at M hwz OF ⊢; refine xrH 0 14 rfl (.pointer (some ⟨B6,0,none⟩)) (fun _ ⟨_,M⟩=>(by kernel_rfl)) ⟨_,M⟩ ?_; refine xrH 1 15 rfl (.pointer (some ⟨B6,0,none⟩)) (fun _ ⟨_,M⟩=>(by kernel_rfl)) ⟨_,M⟩ ?_
 refine xrH 2 16 rfl (.pointer (some ⟨B6,130,none⟩)) (fun _ ⟨_,M⟩=>(by kernel_rfl)) ⟨_,M⟩ ?_; refine xrH 3 17 rfl (.pointer (some ⟨B5,0,none⟩)) (fun _ ⟨_,M⟩=>load1 66 _ ⟨B6,130,none⟩ _ rfl rfl (fun _=>by kernel_rfl) (M.get (mT _ mS) 130 _ (flat_get _ [1,1,32,32,32,32,1] (by simp [row_length]) 6 130 _ rfl rfl))) ⟨_,M⟩ ?_
 refine xrH 4 18 rfl (.slice (some ⟨B3,0,none⟩) 32 32) (fun _ ⟨_,M⟩=>cutAll 23 _ _ _ rfl rfl (by kernel_rfl)) ⟨_,M⟩ ?_
 refine callH (i:=5) (some 19) rfl (by kernel_rfl) rfl rfl (fun _=>by kernel_rfl) (rmix32 w0 _ B5 _ snew snew_w.h (some ⟨B3,0,none⟩) 32 B hB hBb (fun e=>by cases e) M (M.srcA (mI 2 rfl) 0 32 (bl B) (by rw [List.drop_zero,List.take_length]) [B5] (by rw [List.mem_singleton]; exact (M.neq (i:=0) (j:=2) rfl rfl (by decide)).symm))) ?_
 rintro e w8 ⟨rfl,M',o1⟩; clear M; have M:=M'; clear M'; replace hwz:=xnT hwz (Off.size o1); replace OF:=OF.and1 o1 (.inr (by omega)); clear o1
 refine ⟨_,rfl,⟨_,M⟩,?_⟩
 simp only [aP,lI,l0,lS]
 refine wpAnyH_done (by kernel_rfl) ?_ _
 first | show Exit.then _ _ _ _ _ | show Exit.inBlock _ _ _ _ _
 go_upto_region 3 with fail; refine wp_region_list ?_; refine xpL (.pointer (some ⟨B6,0,none⟩)) ?_; refine xpL (.pointer (some ⟨B6,0,none⟩)) ?_; refine xT ?_; replace M:=M.swap
 replace M:Mm w0 ((B6,[[Value.int .i64 0],[Value.int .i64 0],row .u8 32 a,row .u8 32 d,row .u8 32 (bl B),row .u8 32 (fun _=>0),[Value.pointer (some ⟨B5,0,none⟩)]].flatten)::(B5,stc (smix snew B))::l) w8:=M.sub _ (List.cons_sublist_cons.2 (List.cons_sublist_cons.2 (List.Sublist.cons _ (List.Sublist.cons _ (List.Sublist.cons _ (List.Sublist.refl _))))))
 have hbel:Below w.heap.size w w8:=⟨M.below.os.trans hb0.os.symm,M.below.tape.trans hb0.tape.symm,M.below.output.trans hb0.output.symm,OF.size,fun b hb=>OF.blk b hb (fun h=>by cases h)⟩
 replace M:Mm w0 ((B6,shc (shBegin a d B) B5)::(B5,stc (shBegin a d B).st)::l) w8:=M
 have HS:=show Hid _ from (And.intro hB_B6 (And.intro hB_B5 (And.intro M hbel))); clear M OF hbel hB_B6 hB_B5; go_wp2; go_ret
 first | exact ⟨B6,B5,rfl,HS.out⟩ | exact ⟨B6,rfl,HS.out.1,B5,HS.out.2⟩
theorem rawait_any (w0 w:World) (l:List (Nat × List Value)) (b f:Nat→Int) (hb:In 256 32 b) (M:Mm w0 l w) :
 Calls Tryz.prog 24 #[(.agg (row .u8 32 (b)).toArray),(.agg (row .u8 32 (f)).toArray)] w fun e w'=>∃ R Q,e=.returned (.pointer (some ⟨R,0,none⟩))∧w.heap.size≤R∧w.heap.size≤Q∧Mm w0 ((R,shc (shAwait LD b f) Q)::(Q,stc (shAwait LD b f).st)::l) w'∧Below w.heap.size w w':=by
 have hb0:=M.below; have hwz:=xnR w.heap.size; have OF:=Off.refl [] w
 go_enter Tryz.func24,Tryz.ntmps24
 go_upto_region 0 with fail; refine wp_region_list ?_; have hlb:=(Below.refl w.heap.size w).alloc (xnR _) (.cells (row .u8 32 b).toArray 23); refine actL (w':=w.alloc (.cells (row .u8 32 b).toArray 23)) (.pointer (some ⟨w.heap.size,0,none⟩)) rfl (by kernel_rfl) ?_; simp only [aP,lI,l0,lS]; have hB_:=hwz; replace hwz:=xnT hwz hlb.size; replace OF:=OF.below hlb
 replace M:=M.box (row .u8 32 b).toArray 23 w.heap.size rfl; clear hlb; generalize w.alloc (.cells (row .u8 32 b).toArray 23)=w1 at M hwz OF ⊢; generalize eB_:w.heap.size=B1 at M ⊢
 have hB_B1:w.heap.size≤B1:=by rw [← eB_]; exact hB_
 clear hB_ eB_
 replace M:Mm w0 ((B1,row .u8 32 b)::l) w1:=M
 have hlb:=(Below.refl w1.heap.size w1).alloc (xnR _) (.cells (row .u8 32 f).toArray 23); refine actL (w':=w1.alloc (.cells (row .u8 32 f).toArray 23)) (.pointer (some ⟨w1.heap.size,0,none⟩)) rfl (by kernel_rfl) ?_; simp only [aP,lI,l0,lS]; have hB_:=hwz; replace hwz:=xnT hwz hlb.size; replace OF:=OF.below hlb; replace M:=M.box (row .u8 32 f).toArray 23 w1.heap.size rfl; clear hlb
 generalize w1.alloc (.cells (row .u8 32 f).toArray 23)=w2 at M hwz OF ⊢; generalize eB_:w1.heap.size=B2 at M ⊢
 have hB_B2:w.heap.size≤B2:=by rw [← eB_]; exact hB_
 clear hB_ eB_
 replace M:Mm w0 ((B2,row .u8 32 f)::(B1,row .u8 32 b)::l) w2:=M
 refine xpL (.pointer none) ?_; refine xT ?_; go_upto_region 1 with fail; refine wp_region_held_drew (S:=fun w'=>Mm w0 ((B2,row .u8 32 f)::(B1,row .u8 32 b)::l) w') (by kernel_rfl) M.drew ?_; clear M; intro M; have hdr:=(Below.refl w2.heap.size w2).drew; replace hwz:=xnT hwz hdr.size; replace OF:=OF.below hdr; clear hdr; generalize w2.drew=w3 at M hwz OF ⊢
 refine xrH 0 7 rfl (.agg (row .u8 32 b).toArray) (fun _ M=>loadN 23 _ ⟨B1,0,none⟩ (row .u8 32 b) rfl rfl (fun _=>by kernel_rfl) (fun _=>by rw [row32]; kernel_rfl) (M.part (mT _ mS) 0 _ (by rw [List.drop_zero,List.take_length]))) M ?_
 refine xrH 1 8 rfl (.agg (row .u8 32 f).toArray) (fun _ M=>loadN 23 _ ⟨B2,0,none⟩ (row .u8 32 f) rfl rfl (fun _=>by kernel_rfl) (fun _=>by rw [row32]; kernel_rfl) (M.part mS 0 _ (by rw [List.drop_zero,List.take_length]))) M ?_; have MH:=M; refine callH (i:=2) (some 9) rfl (by kernel_rfl) rfl rfl (fun _=>by kernel_rfl) (rnew_any w0 _ _ M) ?_; rintro e w4 ⟨B4,rfl,hq_,M',l⟩
 have hB_B4:=xnT hwz hq_; clear M hq_; have M:=M'; clear M'; replace MH:=MH.call l; replace hwz:=xnT hwz l.size; replace OF:=OF.below l; clear l
 refine ⟨_,rfl,MH,?_⟩
 simp only [aP,lI,l0,lS]; refine xrH 3 10 rfl (.agg ([[Value.int .i64 1],[Value.int .i64 0],row .u8 32 b,row .u8 32 f,row .u8 32 (fun _=>0),row .u8 32 (fun _=>0),[Value.pointer (some ⟨B4,0,none⟩)]].flatten).toArray) (fun _ MH=>(by kernel_rfl)) MH ?_
 have hlb:=(Below.refl w4.heap.size w4).alloc (xnR _) (.cells ([[Value.int .i64 1],[Value.int .i64 0],row .u8 32 b,row .u8 32 f,row .u8 32 (fun _=>0),row .u8 32 (fun _=>0),[Value.pointer (some ⟨B4,0,none⟩)]].flatten).toArray 68); replace MH:=MH.call hlb; refine onlyH (i:=4) (some 11) rfl (.pointer (some ⟨w4.heap.size,0,none⟩)) (by kernel_rfl) rfl rfl (by kernel_rfl) MH ?_
 simp only [aP,lI,l0,lS]; have hB_:=hwz; replace hwz:=xnT hwz hlb.size; replace OF:=OF.below hlb; replace M:=M.box ([[Value.int .i64 1],[Value.int .i64 0],row .u8 32 b,row .u8 32 f,row .u8 32 (fun _=>0),row .u8 32 (fun _=>0),[Value.pointer (some ⟨B4,0,none⟩)]].flatten).toArray 68 w4.heap.size rfl; clear hlb
 generalize w4.alloc (.cells ([[Value.int .i64 1],[Value.int .i64 0],row .u8 32 b,row .u8 32 f,row .u8 32 (fun _=>0),row .u8 32 (fun _=>0),[Value.pointer (some ⟨B4,0,none⟩)]].flatten).toArray 68)=w5 at M MH hwz OF ⊢; generalize eB_:w4.heap.size=B5 at M ⊢
 have hB_B5:w.heap.size≤B5:=by rw [← eB_]; exact hB_
 clear hB_ eB_
 replace M:Mm w0 ((B5,[[Value.int .i64 1],[Value.int .i64 0],row .u8 32 b,row .u8 32 f,row .u8 32 (fun _=>0),row .u8 32 (fun _=>0),[Value.pointer (some ⟨B4,0,none⟩)]].flatten)::(B4,stc snew)::(B2,row .u8 32 f)::(B1,row .u8 32 b)::l) w5:=M
 refine xrH 5 5 rfl (.pointer (some ⟨B5,0,none⟩)) (fun _ MH=>(by kernel_rfl)) MH ?_
 refine wpAnyH_done (by kernel_rfl) ?_ _
 first | show Exit.then _ _ _ _ _ | show Exit.inBlock _ _ _ _ _
 go_upto_region 2 with fail; refine wp_region_list ?_; refine xaL (.agg (row .u8 32 b).toArray) (loadN 23 _ ⟨B1,0,none⟩ (row .u8 32 b) rfl rfl (fun _=>by kernel_rfl) (fun _=>by rw [row32]; kernel_rfl) (M.part (mI 3 rfl) 0 _ (by rw [List.drop_zero,List.take_length]))) ?_; refine xcL (lrefpublic_any b hb _) ?_; rintro e w6 ⟨rfl,l⟩; replace M:=M.call l; replace hwz:=xnT hwz l.size
 replace OF:=OF.below l; clear l; refine xeL ?_; have hlb:=(Below.refl w6.heap.size w6).alloc (xnR _) (.cells zu8_32 23); refine actL (w':=w6.alloc (.cells zu8_32 23)) (.pointer (some ⟨w6.heap.size,0,none⟩)) rfl (by kernel_rfl) ?_; simp only [aP,lI,l0,lS]; have hB_:=hwz; replace hwz:=xnT hwz hlb.size; replace OF:=OF.below hlb; replace M:=M.box zu8_32 23 w6.heap.size rfl
 clear hlb; generalize w6.alloc (.cells zu8_32 23)=w7 at M hwz OF ⊢; generalize eB_:w6.heap.size=B7 at M ⊢
 have hB_B7:w.heap.size≤B7:=by rw [← eB_]; exact hB_
 clear hB_ eB_
 replace M:Mm w0 ((B7,row .u8 32 (fun _=>0))::(B5,[[Value.int .i64 1],[Value.int .i64 0],row .u8 32 b,row .u8 32 f,row .u8 32 (fun _=>0),row .u8 32 (fun _=>0),[Value.pointer (some ⟨B4,0,none⟩)]].flatten)::(B4,stc snew)::(B2,row .u8 32 f)::(B1,row .u8 32 b)::l) w7:=M
 refine skipOpL rfl (storeP (row .u8 32 (bl (LD.pub b))) B7 0 23 _ _ rfl rfl rfl (M.thereP mS 0 32 (Nat.le_of_ble_eq_true rfl)) (by kernel_rfl) (row_one .u8 32 (bl (LD.pub b)))) ?_; simp only [Act.put]; replace M:=M.setAll (row .u8 32 (bl (LD.pub b))) (by first | (rw [row32,row32]; done) | (rw [row32]; rfl) | (rw [row32]; done))
 replace hwz:=xnT hwz (Off.size ((Off.refl [B7] _).setAll (b:=B7) mS 0 (row .u8 32 (bl (LD.pub b))))); replace OF:=OF.and1 ((Off.refl [B7] _).setAll (b:=B7) mS 0 (row .u8 32 (bl (LD.pub b)))) (.inr (by omega)); generalize w7.setCells B7 0 (row .u8 32 (bl (LD.pub b)))=w8 at M hwz OF ⊢; refine xT ?_; replace M:=M.rot3; go_upto_region 3 with fail
 refine wp_region_held_drew (S:=fun w'=>∃ cs_,Mm w0 ((B4,cs_)::(B7,row .u8 32 (bl (LD.pub b)))::(B5,[[Value.int .i64 1],[Value.int .i64 0],row .u8 32 b,row .u8 32 f,row .u8 32 (fun _=>0),row .u8 32 (fun _=>0),[Value.pointer (some ⟨B4,0,none⟩)]].flatten)::(B2,row .u8 32 f)::(B1,row .u8 32 b)::l) w') (by kernel_rfl) ⟨_,M.drew⟩ ?_; intro _; replace M:=M.drew
 have hdr:=(Below.refl w8.heap.size w8).drew; replace hwz:=xnT hwz hdr.size; replace OF:=OF.below hdr; clear hdr; generalize w8.drew=w9 at M hwz OF ⊢; refine xrH 0 14 rfl (.pointer (some ⟨B5,0,none⟩)) (fun _ ⟨_,M⟩=>(by kernel_rfl)) ⟨_,M⟩ ?_; refine xrH 1 15 rfl (.pointer (some ⟨B5,0,none⟩)) (fun _ ⟨_,M⟩=>(by kernel_rfl)) ⟨_,M⟩ ?_
 refine xrH 2 16 rfl (.pointer (some ⟨B5,130,none⟩)) (fun _ ⟨_,M⟩=>(by kernel_rfl)) ⟨_,M⟩ ?_; refine xrH 3 17 rfl (.pointer (some ⟨B4,0,none⟩)) (fun _ ⟨_,M⟩=>load1 66 _ ⟨B5,130,none⟩ _ rfl rfl (fun _=>by kernel_rfl) (M.get (mI 2 rfl) 130 _ (flat_get _ [1,1,32,32,32,32,1] (by simp [row_length]) 6 130 _ rfl rfl))) ⟨_,M⟩ ?_
 refine xrH 4 18 rfl (.slice (some ⟨B7,0,none⟩) 32 32) (fun _ ⟨_,M⟩=>cutAll 23 _ _ _ rfl rfl (by kernel_rfl)) ⟨_,M⟩ ?_
 refine callH (i:=5) (some 19) rfl (by kernel_rfl) rfl rfl (fun _=>by kernel_rfl) (rmix32 w0 _ B4 _ snew snew_w.h (some ⟨B7,0,none⟩) 32 (LD.pub b) (LD_ok.len b) (LD_ok.byt b) (fun e=>by cases e) M (M.srcA (mT _ mS) 0 32 (bl (LD.pub b)) (by rw [List.drop_zero,List.take_length]) [B4] (by rw [List.mem_singleton]; exact (M.neq (i:=0) (j:=1) rfl rfl (by decide)).symm))) ?_
 rintro e w10 ⟨rfl,M',o1⟩; clear M; have M:=M'; clear M'; replace hwz:=xnT hwz (Off.size o1); replace OF:=OF.and1 o1 (.inr (by omega)); clear o1
 refine ⟨_,rfl,⟨_,M⟩,?_⟩
 simp only [aP,lI,l0,lS]
 refine wpAnyH_done (by kernel_rfl) ?_ _
 first | show Exit.then _ _ _ _ _ | show Exit.inBlock _ _ _ _ _
 go_upto_region 4 with fail; refine wp_region_list ?_; refine xpL (.pointer (some ⟨B5,0,none⟩)) ?_; refine xpL (.pointer (some ⟨B5,0,none⟩)) ?_; refine xT ?_; replace M:=M.rot3
 replace M:Mm w0 ((B5,[[Value.int .i64 1],[Value.int .i64 0],row .u8 32 b,row .u8 32 f,row .u8 32 (fun _=>0),row .u8 32 (fun _=>0),[Value.pointer (some ⟨B4,0,none⟩)]].flatten)::(B4,stc (smix snew (LD.pub b)))::l) w10:=M.sub _ (List.cons_sublist_cons.2 (List.cons_sublist_cons.2 (List.Sublist.cons _ (List.Sublist.cons _ (List.Sublist.cons _ (List.Sublist.refl _))))))
 have hbel:Below w.heap.size w w10:=⟨M.below.os.trans hb0.os.symm,M.below.tape.trans hb0.tape.symm,M.below.output.trans hb0.output.symm,OF.size,fun b hb=>OF.blk b hb (fun h=>by cases h)⟩
 replace M:Mm w0 ((B5,shc (shAwait LD b f) B4)::(B4,stc (shAwait LD b f).st)::l) w10:=M
 have HS:=show Hid _ from (And.intro hB_B5 (And.intro hB_B4 (And.intro M hbel))); clear M OF hbel hB_B5 hB_B4; go_wp2; go_ret
 first | exact ⟨B5,B4,rfl,HS.out⟩ | exact ⟨B5,rfl,HS.out.1,B4,HS.out.2⟩
def shE:Except Int (List Int × Shk)→Int
 | .error e=>e
 | .ok _=>0
def shB:Except Int (List Int × Shk)→List Int
 | .error _=>[]
 | .ok p=>p.1
def shN (s:Shk):Except Int (List Int × Shk)→Shk
 | .error _=>s
 | .ok p=>p.2
structure ShkW (s:Shk):Prop where
 sec:In 256 32 s.sec
 drw:In 256 32 s.drw
 its:s.its.length=32∧Byts s.its
 drn:s.drn.length=32∧Byts s.drn
 st:SymW s.st
theorem skd_pos {a b:Nat→Int} (h:¬ tm a b=0) (s:Sym):skd s a b=skey s (lby (tm a b)):=if_neg h
theorem ekd_pos {a b:Nat→Int} (h:¬ tm a b=0):ekd a b=0:=if_neg h
theorem ekd_zero {a b:Nat→Int} (h:tm a b=0):ekd a b=20:=if_pos h
theorem LD_none {a:Nat→Int} {B:List Int} (h:tm a (bl B)=0):LD.dh a B=none:=if_pos h
theorem LD_some {a:Nat→Int} {B:List Int} (h:¬ tm a (bl B)=0):LD.dh a B=some (lby (tm a (bl B))):=if_neg h
theorem shF_state {s:Shk} {t:List Int} (h:s.role≠0∨s.step≠0):shF LD s t=.error 4:=by unfold shF; rw [if_pos h]
theorem shF_long {s:Shk} {t:List Int} (h:¬ (s.role≠0∨s.step≠0)) (hl:128<t.length):shF LD s t=.error 2:=by unfold shF; rw [if_neg h,if_pos hl]
theorem shF_z1 {s:Shk} {t:List Int} (h:¬ (s.role≠0∨s.step≠0)) (hl:¬ 128<t.length) (h1:tm s.drw (bl s.its)=0):shF LD s t=.error 20:=by unfold shF; rw [if_neg h,if_neg hl,LD_none h1]
theorem shF_z2 {s:Shk} {t:List Int} (h:¬ (s.role≠0∨s.step≠0)) (hl:¬ 128<t.length) (h1:¬ tm s.drw (bl s.its)=0) (h2:tm s.sec (bl s.its)=0):shF LD s t=.error 20:=by unfold shF; rw [if_neg h,if_neg hl,LD_some h1,LD_none h2]
theorem shS_state {s:Shk} {t:List Int} (h:s.role≠1∨s.step≠1):shS LD s t=.error 4:=by unfold shS; rw [if_pos h]
theorem shS_long {s:Shk} {t:List Int} (h:¬ (s.role≠1∨s.step≠1)) (hl:128<t.length):shS LD s t=.error 2:=by unfold shS; rw [if_neg h,if_pos hl]
theorem shS_z1 {s:Shk} {t:List Int} (h:¬ (s.role≠1∨s.step≠1)) (hl:¬ 128<t.length) (h1:tm s.drw (bl s.drn)=0):shS LD s t=.error 20:=by unfold shS; rw [if_neg h,if_neg hl,LD_none h1]
theorem shS_z2 {s:Shk} {t:List Int} (h:¬ (s.role≠1∨s.step≠1)) (hl:¬ 128<t.length) (h1:¬ tm s.drw (bl s.drn)=0) (h2:tm s.drw (bl s.its)=0):shS LD s t=.error 20:=by unfold shS; rw [if_neg h,if_neg hl,LD_some h1,LD_none h2]
theorem Byts.bl32 {b:List Int} (h:Byts b) (hl:b.length=32):In 256 32 (Go.Proofs.YtklnibmfpcmeeaaGreatDoor.bl b):=fun j hj=>h.bl j (by omega)
def shO (s:Shk):Bool:=decide (s.role=0∨0<s.step)
def shK (s:Shk):List Value:=if s.step=2 then [row .u8 32 (kA s.st.c 0 (bl [])),row .u8 32 (kB s.st.c 0 (bl []))].flatten else [row .u8 32 (fun _=>0),row .u8 32 (fun _=>0)].flatten
def shD (s:Shk):Bool:=decide (s.step=2)
section
def SumOK:Prop:=∀ (k:Nat→Int),In 256 32 k→∀ (sp:Option Addr) (len cap:Nat),len≤281474976710656→len≤cap→∀ z:Nat→Int,In 256 len z→∀ w:World,Glob w→Src w sp len z →
 Calls Tryz.prog 125 #[(.agg (row .u8 32 (k)).toArray),.slice sp len cap] w fun e w'=>∃ f:Nat→Int,e=.returned (.agg (row .u8 16 (f)).toArray)∧(In 256 16 f∧val 256 f 16=ptag k len z)∧Below w.heap.size w w'
def SameOK:Prop:=∀ a b:Nat→Int,In 256 16 a→In 256 16 b→∀ w:World,Glob w →
 Calls Tryz.prog 104 #[(.agg (row .u8 16 (a)).toArray),(.agg (row .u8 16 (b)).toArray)] w fun e w'=>e=.returned (.bool (decide (val 256 a 16=val 256 b 16)))∧Below w.heap.size w w'
section
variable {w w' w'':World} {m:Nat} {l:List (Nat × IntKind × Nat × (Nat→Int))} {R:List (Nat × Nat)} {sp:Option Addr} {len:Nat} {z:Nat→Int}
end
end
structure AGlob (w:World):Prop where
 h:HGlob w
 c:Glob w
theorem AGlob.size {w:World} (g:AGlob w):10≤w.heap.size:=g.h.size
theorem AGlob.below {w w':World} (g:AGlob w) {B:Nat} (l:Below B w w') (hB:10≤B):AGlob w':=⟨g.h.below l hB,g.c.below l hB⟩
def ASealOK:Prop:=∀ (k n:Nat→Int),In 256 32 k→In 256 12 n→∀ (bp:Option Addr) (bl bc:Nat),bl≤140737488351232→bl≤bc→(bp=none→bc=0)→∀ b:Nat→Int,In 256 bl b→∀ (sp:Option Addr) (len cap:Nat),len≤140737488351232→len≤cap→(sp=none→cap=0)→∀ z:Nat→Int,In 256 len z→∀ w:World,AGlob w→Src w bp bl b→Src w sp len z →
 Calls Tryz.prog 81 #[(.agg (row .u8 32 (k)).toArray),(.agg (row .u8 12 (n)).toArray),.slice bp bl bc,.slice sp len cap] w fun e w'=>∃ B cap',e=.returned (.slice (some ⟨B,0,none⟩) (len+16) cap')∧(len+16≤cap'∧w.heap.size≤B∧B<w'.heap.size∧Has w' B .u8 (len+16) (aout k n bl b len z))∧Below w.heap.size w w'
section
def vcap:Value→Nat
 | .slice _ _ c=>c
 | _=>0
section
variable {P:Program}
theorem run_append_Room {w:World} {base:Nat} {t ty e:TypeId} {k:IntKind} {bytes n:Nat} {f:Nat→Int} {v:Value} (ht:P.underlying t=some (.slice e)) (he:One P e k bytes) (h:Own w base e k n f v)
 (sp:Option Addr) (m c:Nat) (hv:Nat→Int) (hs:∀ j,j<m→∃ ad,sp=some ad∧w.cell? (ad.add j)=some (.int k (hv j))) (hz:sp=none→c=0) (hroom:n+m≤vcap v) :
 ∃ v' w',(Builtin.append_ #[t,t] ty #[v,.slice sp m c]).run P w=.ok v' w'∧Own w' base e k (n+m) (app f n hv) v'∧w.grownBy w' v.ownBlock∧vcap v'=vcap v∧v'.ownBlock=v.ownBlock:=by
 obtain ⟨i,hi,hq⟩:=Option.map_eq_some_iff.1 he.info
 simp only [Prod.mk.injEq] at hq
 obtain ⟨_,_,h3⟩:=hq
 cases sp with
 | none =>
   have hm:m=0:=by
    rcases Nat.eq_zero_or_pos m with h0 | h0
    · exact h0
    · obtain ⟨ad,e,_⟩:=hs 0 h0; cases e
   subst hm
   obtain rfl:=hz rfl
   exact ⟨v,w,run_append_owned_none (P:=P) (w:=w) base t ty e i 1 ht hi v n _ h,h.congr fun j hj=>by unfold app; rw [if_pos hj],⟨rfl,rfl,rfl,xnR _,fun _ _ _=>rfl⟩,rfl,rfl⟩
 | some ad =>
   have hnews:∀ j u,(row k m hv)[j]?=some u→w.cell? (ad.add j)=some u:=fun j u hu=>by
    obtain ⟨hj,rfl⟩:=row_get_some hu
    obtain ⟨ad',e',hc⟩:=hs j hj
    injection e' with e'
    subst e'
    exact hc
   have hml:(row k m hv).length=m*i.size:=by rw [row_length,h3,Nat.mul_one]
   have hlen:(row k n f++row k m hv).length=(n+m)*1:=by rw [List.length_append,row_length,row_length,Nat.mul_one]
   rcases h.2 with ⟨rfl,rfl⟩ | ⟨g,cap,cur,rfl,hbg,hgg,hnc,hcm,hcs,htake⟩
   · have hm:m=0:=by simp only [vcap] at hroom; omega
     subst hm
     refine ⟨.slice none 0 0,w,?_,h.congr fun j hj=>absurd hj (xnZ j),⟨rfl,rfl,rfl,xnR _,fun _ _ _=>rfl⟩,rfl,rfl⟩
     simp [Builtin.append_,run_underlying ht,sizeOf,typeInfo,hi,Builtin.lenOf,Builtin.firstCells,loadCells,loadCellsFrom]
   · have hroom':n+m≤cap:=hroom
     have hr2:=run_append_room (P:=P) w t ty e i ht hi g n cap cur hgg ad m c (row k m hv) hml hnews (row_one k m hv) hroom' (by rw [hml,hcs,h3]; omega)
     refine ⟨_,_,hr2,?_,⟨rfl,rfl,rfl,by simp,fun q _ hq=>setRow_other w g q _ (fun e=>hq (by simp [Value.ownBlock,e]))⟩,rfl,rfl⟩
     unfold Own
     rw [← row_app]
     rw [Nat.mul_one] at htake hcs
     refine ⟨hlen,.inr ⟨g,cap,_,rfl,hbg,setRow_heap w g cur _ e _ hgg,hroom',hcm,?_,?_⟩⟩
     · simp only [List.size_toArray,List.length_append,List.length_take,List.length_drop,Array.length_toList,row_length,h3,Nat.mul_one]
       omega
     · simp only [h3,Nat.mul_one,htake]
       have e2:n+m=(row k n f++row k m hv).length:=by rw [hlen,Nat.mul_one]
       rw [e2]
       exact List.take_left
theorem run_append_full {w:World} {t u ty e:TypeId} (ht:P.underlying t=some (.slice e)) (hu:P.underlying u=some (.int .i64)) (he:One P e .u8 1) (sp:Option Addr) (len:Nat) (z:Nat→Int) (hs:Src w sp len z) (m:Nat) (hm:m≤281474976710656) (hl:len+m+(len+m)/4+192≤281474976710656) :
 ∃ sp' cap' w',(Builtin.append_ #[t,u] ty #[.slice sp len len,.int .i64 (m:Int)]).run P w=.ok (.slice sp' (len+m) cap') w'∧len+m≤cap'∧Src w' sp' (len+m) (padz len z)∧Below w.heap.size w w'∧(sp'=none→cap'=0):=by
 obtain ⟨i,hi,hq⟩:=Option.map_eq_some_iff.1 he.info
 simp only [Prod.mk.injEq] at hq
 obtain ⟨h1,h2,h3⟩:=hq
 rcases Nat.eq_zero_or_pos m with h0 | h0
 · subst h0
   refine ⟨sp,len,w,?_,xnR _,hs.congr (fun j hj=>by unfold padz; rw [if_pos hj]),Below.refl _ _,fun e=>hs.none e⟩
   have hasI':∀ w,(asInt (.int .i64 0)).run P w=.ok 0 w:=fun w=>by simp [asInt,asIntOf]
   cases sp with
   | none=>simp [Builtin.append_,run_underlying ht,run_underlying hu,sizeOf,typeInfo,hi,h2,hasI',xw6]
   | some ad=>simp [Builtin.append_,run_underlying ht,run_underlying hu,sizeOf,typeInfo,hi,h2,hasI',xw6,storeCells]
 · have hold:(Builtin.firstCells i.size len (.slice sp len len)).run P w.drew=.ok (row .u8 len z).toArray w.drew:=by
    cases sp with
    | none =>
      obtain rfl:=hs.none rfl
      rfl
    | some ad =>
      rw [h3]
      exact run_firstCells_some (P:=P) w.drew 1 len ad len len (row .u8 len z) (by rw [row_length,Nat.mul_one]) (fun j u hj=>by
       obtain ⟨hjl,rfl⟩:=row_get_some hj
       obtain ⟨ad',he',hc⟩:=hs j hjl
       injection he' with he'
       subst he'
       exact hc)
   have hr:=Lib.run_append_grow_zeros (P:=P) w t u ty e i (.int .u8 0) .i64 .i64 ht hu hi h1 sp len len (row .u8 len z) hold m h0 (by rw [h3]; decide) (by omega) (by omega) (by rw [h2]; omega) (by rw [h2]; exact growslice_fits_wide (by omega) (by omega)); have hge:=grownCap_ge w (len+m) len e
   refine ⟨_,_,_,hr,hge,fun j hj=>⟨_,rfl,?_⟩,(Below.refl _ _).drew.alloc (xnR _) _,fun e=>by cases e⟩
   rw [Addr.add_mid,Nat.zero_add]
   show (w.drew.alloc _).cell? ⟨w.drew.heap.size,j,none⟩=_
   rw [World.cell?_alloc_at _ _ _ _ rfl,zeros_row]
   unfold padz
   by_cases ej:j<len
   · rw [if_pos ej]
     rw [Array.append_assoc,Array.getElem?_append_left (by rw [List.size_toArray,row_length]; exact ej)]
     simpa using row_get .u8 len z j ej
   · rw [if_neg ej]
     rw [Array.getElem?_append_left (by rw [Array.size_append,List.size_toArray,List.size_toArray,row_length,row_length]; exact hj),Array.getElem?_append_right (by rw [List.size_toArray,row_length]; omega),List.size_toArray,row_length]
     simpa using row_get .u8 m (fun _=>0) (j-len) (by omega)
end
section
variable {P:Program} {o:Oper} {a:Act}
theorem cut_full {t:TypeId} (ht:P.underlying t=some (.slice (P.elem t))) (hsz:∀ w,(sizeOf (P.elem t)).run P w=.ok 1 w) (sp:Option Addr) (len cap:Nat) (hc:len≤cap) :
 ∃ sp',(∀ w,(Instr.sliceAt t (.slice sp len cap) none (some (.int .i64 (len:Int))) (some (.int .i64 (len:Int)))).run P w=.ok (.slice sp' len len) w)∧∀ w z,Src w sp len z→Src w sp' len z:=by
 refine ⟨if len=0 then sp else sp.map (·.add (0*1)),fun w=>?_,fun w z h j hj=>?_⟩
 · rw [run_sliceAt_slice w t _ _ _ _ ht,run_slice_hm w t sp len cap ht .i64 .i64 (len:Int) (len:Int) (by omega) (by omega) (by omega),hsz]
   simp only [Result.andThen,sliced,Int.toNat_natCast,Nat.sub_zero]
 · obtain ⟨ad,rfl,hc'⟩:=h j (by omega)
   rw [if_neg (by omega)]
   exact ⟨ad.add (0*1),rfl,by rw [Nat.zero_mul,Addr.add_add,Nat.zero_add]; exact hc'⟩
theorem cutHMop {w:World} (t:TypeId) (x y z:Operand) (p q r v:Value) (ho:o.op=.slice t x none (some y) (some z)) (hx:a.eval x=p) (hy:a.eval y=q) (hz:a.eval z=r) (hr:(Instr.sliceAt t p none (some q) (some r)).run P w=.ok v w) :
 (execOp a.eval o).run P w=.ok (.value v) w:=by
 unfold execOp
 simp only [ho,hx,hy,hz,Option.map_some,Option.map_none,Sem.run_bind,hr,Result.andThen_ok,Sem.run_pure]
theorem appendNOp {w w':World} (s x:Operand) (t u:TypeId) (v n r:Value) (ho:o.op=.call { callee:=.builtin .append,args:=#[s,x],argTypes:=#[t,u] }) (hs:a.eval s=v) (hx:a.eval x=n) (hr:(Builtin.append_ #[t,u] o.type #[v,n]).run P w=.ok r w') :
 (execOp a.eval o).run P w=.ok (.value r) w':=by
 unfold execOp
 simp only [ho,resolve,invoke,builtin,Sem.run_bind,Sem.run_pure,Result.andThen_ok,List.map_toArray,List.map_cons,List.map_nil,hs,hx,hr]
end
end
def tot (ln:Nat→Nat):Nat→Nat
 | 0=>0
 | j+1=>tot ln j+ln j
def catz (ln:Nat→Nat) (zz:Nat→Nat→Int):Nat→Nat→Int
 | 0=>fun _=>0
 | j+1=>app (catz ln zz j) (tot ln j) (zz j)
theorem tot_mono (ln : Nat → Nat) {i : Nat} : ∀ {j : Nat}, i ≤ j → tot ln i ≤ tot ln j
  | 0, h => by obtain rfl : i = 0 := by omega
               exact xnR _
  | j + 1, h => by
    rcases Nat.lt_or_ge j i with h' | h'
    · obtain rfl : i = j + 1 := by omega
      exact xnR _
    · have := tot_mono ln h'
      show _ ≤ tot ln j + ln j
      omega
theorem loadSl {P:Program} {o:Oper} {a:Act} {w:World} (ty e:TypeId) (x:Operand) (p:Addr) (v:Value) (ho:o.op=.load ty x) (hx:a.eval x=.pointer (some p)) (hu:P.underlying ty=some (.slice e)) (hc:w.cell? p=some v):(execOp a.eval o).run P w=.ok (.value v) w:=by
 have hagg:(isAgg ty).run P w=.ok false w:=by
  unfold isAgg
  rw [Sem.run_bind,run_underlying hu w]
  rfl
 have e:(loadVar ty p).run P w=.ok v w:=by simp [loadVar,Sem.run_bind,hagg,hc]
 unfold execOp
 simp only [ho,hx,Instr.loadAt,Instr.sureAddr,Sem.run_bind,Sem.run_pure,Result.andThen_ok,e]
theorem cut_none (g n cap:Nat) (w:World):(Instr.sliceAt 32 (.slice (some ⟨g,0,none⟩) n cap) none (some (.int .i64 0)) none).run Tryz.prog w=.ok (.slice (some ⟨g,0,none⟩) 0 cap) w:=by
 rw [run_sliceAt_slice w 32 _ _ _ _ (by kernel_rfl),run_slice_h w 32 _ n cap (by kernel_rfl) .i64 0 (by omega) (by omega),show (sizeOf (Tryz.prog.elem 32)).run Tryz.prog w=.ok 1 w by kernel_rfl]
 simp [Result.andThen,sliced,Addr.add_mid]
theorem grow_any (n:Nat) (hn:n≤281474976710656) (w:World) :
 Calls Tryz.prog 83 #[.slice none 0 0,.int .i64 (n:Int)] w fun e w'=>∃ v,e=.returned v∧Own w' w.heap.size 5 .u8 0 (fun _=>0) v∧n≤vcap v∧Below w.heap.size w w':=by
 have h0:¬ (n:Int)<0:=by omega
 go_enter Tryz.func83,Tryz.ntmps83
 go_upto_region 3 with fail; clear h0; refine wp_region_list ?_; refine xpL (.int .i64 (n:Int)) ?_; refine xpL (.slice none 0 0) ?_; refine xpL (.int .i64 0) ?_; refine xpL (.slice none 0 0) ?_; refine xpL (.int .i64 0) ?_; refine xpL (.int .i64 0) ?_; refine xqL (.int .i64 (n:Int)) (fun w=>subI .i64 _ _ _ _ _ _ _ rfl rfl rfl (by rw [xw6]; omega) w) ?_; refine xpL (.int .i64 (n:Int)) ?_
 show Exit.then _ _ _ _ _
 rcases Nat.eq_zero_or_pos n with hz | hz
 · subst hz
   go_wp2; go_ret
   exact ⟨.slice none 0 0,rfl,World.ownsRow_nil w _ _ 1,xnR _,Below.refl _ _⟩
 · have g1:(0:Int)<(n:Int):=by omega
   go_upto_region 5 with fail; refine wp_region_list ?_; refine xpL (.slice none 0 0) ?_; refine xpL (.slice none 0 0) ?_; refine xpL (.int .i64 0) ?_; refine xpL (.slice none 0 0) ?_; refine xpL (.int .i64 (n:Int)) ?_
   have h1:(Tryz.prog.info? 5).map (fun i=>(i.zero,i.bytes,i.size))=some (some (.int .u8 0),1,1):=by kernel_rfl
   obtain ⟨i,hi,he⟩:=Option.map_eq_some_iff.1 h1
   simp only [Prod.mk.injEq] at he
   obtain ⟨e1,e2,e3⟩:=he
   have hr:∀ ty,_:=fun ty=>Lib.run_append_nil_zeros (P:=Tryz.prog) w 32 3 ty 5 i (.int .u8 0) .i64 .i64 Tryz.underlying32 Tryz.underlying3 hi e1 n (by omega) (by rw [e3]; decide) (by omega) (by rw [e2]; omega)
   refine actL _ rfl (appendNOp _ _ 32 3 _ _ _ rfl rfl rfl (hr _)) ?_; clear hr; have hge:=grownCap_ge w n 0 5; have hle:=grownCap_le_maxLen w n 0 5 (by unfold maxLen; omega)
   have hz1:(Value.int .u8 0).cells.size=1:=rfl
   have hsz:(Builtin.zeroCells (Value.int .u8 0).cells n++Builtin.zeroCells (Value.int .u8 0).cells (grownCap w n 0 5-n)).size=grownCap w n 0 5*1:=by
    rw [Array.size_append,size_zeroCells,size_zeroCells,hz1]
    omega
   have O:Own (w.drew.alloc (.cells (Builtin.zeroCells (Value.int .u8 0).cells n++Builtin.zeroCells (Value.int .u8 0).cells (grownCap w n 0 5-n)) 5)) w.heap.size 5 .u8 0 (fun _=>0) (.slice (some ⟨w.heap.size,0,none⟩) 0 (grownCap w n 0 5)) :=
    ⟨rfl,.inr ⟨w.heap.size,_,_,rfl,xnR _,heap_alloc_new w.drew _,Nat.zero_le _,hle,hsz,by rw [Nat.zero_mul,List.take_zero]; rfl⟩⟩
   have hB:Below w.heap.size w (w.drew.alloc (.cells (Builtin.zeroCells (Value.int .u8 0).cells n++Builtin.zeroCells (Value.int .u8 0).cells (grownCap w n 0 5-n)) 5)):=(Below.refl _ _).drew.alloc (xnR _) _
   generalize (w.drew.alloc (.cells (Builtin.zeroCells (Value.int .u8 0).cells n++Builtin.zeroCells (Value.int .u8 0).cells (grownCap w n 0 5-n)) 5))=w1 at O hB ⊢; clear hle hsz hz1 h1 hi e1 e2 e3; generalize grownCap w n 0 5=cp at O hge ⊢; generalize hg:w.heap.size=g at O hB ⊢; simp only [aP,lI,l0,lS]; refine xpL (.slice none 0 0) ?_; refine xpL (.int .i64 0) ?_
   refine xqL (.slice (some ⟨g,0,none⟩) 0 cp) (fun w'=>cutHi _ _ _ _ _ _ rfl rfl rfl (cut_none g n cp w')) ?_; refine xpL (.slice (some ⟨g,0,none⟩) 0 cp) ?_; subst hg; show Exit.then _ _ _ _ _; go_wp2; go_ret
   exact ⟨_,rfl,O,hge,hB⟩
structure CatIn (w:World) (p:Addr) (c:Nat) (sp:Nat→Option Addr) (ln cp:Nat→Nat) (zz:Nat→Nat→Int):Prop where
 cell:∀ j,j<c→w.cell? (p.add j)=some (.slice (sp j) (ln j) (cp j))
 src:∀ j,j<c→Src w (sp j) (ln j) (zz j)
 nil:∀ j,j<c→sp j=none→cp j=0
theorem CatIn.below {w w':World} {p:Addr} {c:Nat} {sp:Nat→Option Addr} {ln cp:Nat→Nat} {zz:Nat→Nat→Int} (h:CatIn w p c sp ln cp zz) (l:Below w.heap.size w w'):CatIn w' p c sp ln cp zz :=
 ⟨fun j hj=>by rw [l.cell (World.block_lt_of_cell? w _ (h.cell j hj))]; exact h.cell j hj,fun j hj=>(h.src j hj).below l (xnR _),h.nil⟩
structure CatI (w:World) (ln:Nat→Nat) (zz:Nat→Nat→Int) (c j:Nat) (s:Value) (w':World):Prop where
 own:Own w' w.heap.size 5 .u8 (tot ln j) (catz ln zz j) s
 room:tot ln c≤vcap s
 below:Below w.heap.size w w'
theorem concat_any (p:Addr) (c c':Nat) (sp:Nat→Option Addr) (ln cp:Nat→Nat) (zz:Nat→Nat→Int) (hc:c<1000000) (ht:tot ln c≤281474976710656) (w:World) (hin:CatIn w p c sp ln cp zz) :
 Calls Tryz.prog 52 #[.slice (some p) c c'] w fun e w'=>∃ v,e=.returned v∧Own w' w.heap.size 5 .u8 (tot ln c) (catz ln zz c) v∧Below w.heap.size w w':=by
 go_enter Tryz.func52,Tryz.ntmps52
 go_wp2
 go_loopw [3,11] (fun s i w'=>∃ j:Nat,j≤c∧s=.int .i64 ((tot ln j:Nat):Int)∧i=.int .i64 (j:Int)∧w=w') (fun _ i _=>c-(intOf i).toNat)
 case atStart=>exact ⟨0,Nat.zero_le _,rfl,rfl,rfl⟩
 case round =>
  obtain ⟨j,hj,rfl,rfl,rfl⟩:=hrel
  by_cases hlt:j<c
  · have g1:(j:Int)<(c:Int):=by omega
    have hm:tot ln j+ln j≤tot ln c:=tot_mono ln (show j+1≤c by omega)
    go_upto_region 4 with fail; refine wp_region_list ?_; refine xqL (.pointer (some (p.add j))) (fun w=>idxSl 105 32 c c' .i64 p j _ _ Tryz.underlying105 (fun _=>by kernel_rfl) hlt rfl rfl rfl w) ?_; refine xaL (.slice (sp j) (ln j) (cp j)) (loadSl 32 5 _ (p.add j) _ rfl rfl Tryz.underlying32 (hin.cell j hlt)) ?_; refine xpL (.slice (sp j) (ln j) (cp j)) ?_; show Exit.then _ _ _ _ _
    go_upto_region 5 with fail; refine wp_region_list ?_; refine xpL (.int .i64 ((tot ln j:Nat):Int)) ?_; refine xpL (.slice (sp j) (ln j) (cp j)) ?_; refine xqL (.int .i64 ((ln j:Nat):Int)) (fun w=>lenS _ 32 5 (sp j) (ln j) (cp j) rfl Tryz.underlying32 rfl w) ?_
    refine xqL (.int .i64 ((tot ln (j+1):Nat):Int)) (fun w=>addI .i64 _ _ _ _ _ _ _ rfl rfl rfl (by rw [xw6]; show _=((tot ln j+ln j:Nat):Int); omega) w) ?_
    refine xpL (.int .i64 ((tot ln (j+1):Nat):Int)) ?_; show Exit.then _ _ _ _ _
    have g2:¬ ((tot ln (j+1):Nat):Int)<0:=by omega
    clear hm; go_wp2
    go_roundw
    case rel=>exact ⟨j+1,by omega,rfl,by go_num,trivial⟩
    case measure=>simp [intOf]; omega
  · obtain rfl:j=c:=by omega
    have g1:¬ (j:Int)<(j:Int):=by omega
    clear hlt hj; go_upto_region 9 with fail; refine wp_region_list ?_; refine xpL (.int .i64 ((tot ln j:Nat):Int)) ?_; refine xcL (grow_any (tot ln j) ht _) ?_; rintro e w1 ⟨v,rfl,O,hro,hB⟩; refine xeL ?_; refine xpL v ?_
    have HI:CatI w ln zz j 0 v w1:=⟨O,hro,hB⟩
    clear O hro hB; show Exit.then _ _ _ _ _; go_wp2
    go_loopw [6,27] (fun s i w'=>∃ q:Nat,q≤j∧i=.int .i64 (q:Int)∧CatI w ln zz j q s w') (fun _ i _=>j-(intOf i).toNat)
    case atStart=>exact ⟨0,Nat.zero_le _,rfl,HI⟩
    case round =>
     clear HI
     obtain ⟨q,hq,rfl,HI⟩:=hrel
     by_cases hlt:q<j
     · have g2:(q:Int)<(j:Int):=by omega
       have hm:tot ln q+ln q≤tot ln j:=tot_mono ln (show q+1≤j by omega)
       go_upto_region 12 with fail; refine wp_region_list ?_; refine xqL (.pointer (some (p.add q))) (fun w=>idxSl 105 32 j c' .i64 p q _ _ Tryz.underlying105 (fun _=>by kernel_rfl) hlt rfl rfl rfl w) ?_; refine xaL (.slice (sp q) (ln q) (cp q)) (loadSl 32 5 _ (p.add q) _ rfl rfl Tryz.underlying32 ((hin.below HI.below).cell q hlt)) ?_; refine xpL (.slice (sp q) (ln q) (cp q)) ?_
       show Exit.then _ _ _ _ _; go_upto_region 13 with fail; refine wp_region_list ?_; refine xpL u6 ?_; refine xpL (.slice (sp q) (ln q) (cp q)) ?_
       obtain ⟨v',w2,hr,O,hg,hv,_⟩:=run_append_Room (P:=Tryz.prog) (ty:=32) Tryz.underlying32 one8 HI.own (sp q) (ln q) (cp q) (zz q) ((hin.below HI.below).src q hlt) (hin.nil q hlt) (xnT hm HI.room)
       refine xaL _ (appendOp _ _ 32 _ _ _ rfl rfl rfl hr) ?_; refine xpL v' ?_; have HS:=show Hid _ from (show CatI w ln zz j (q+1) v' w2 from ⟨O,by rw [hv]; exact HI.room,Below.grown HI.below hg HI.below.size (fun b hb=>(World.ownsRow.lt HI.own b hb).1)⟩); clear O hg hv hr HI hm
       show Exit.inBlock _ _ _ _ _
       go_wp2
       go_roundw
       case rel=>first | exact ⟨q+1,by omega,by go_num,HS.out⟩ | ((repeat apply Exists.intro); refine ⟨⟨q+1,by omega,?_,HS.out⟩,rfl⟩ <;> first | rfl | go_num)
       case measure=>simp [intOf]; omega
     · obtain rfl:q=j:=by omega
       have g2:¬ (q:Int)<(q:Int):=by omega
       have HS:=show Hid _ from HI; clear HI hlt hq; go_wp2; go_ret
       exact ⟨_,rfl,HS.out.own,HS.out.below⟩
theorem Has.head {w:World} {b:Nat} {k:IntKind} {n:Nat} {f:Nat→Int} (h:Has w b k n f) (m:Nat) (hm:m≤n):w.rangeAt b 0 (row k m f):=fun j v hv=>by
 obtain ⟨hj,rfl⟩:=row_get_some hv
 rw [Nat.zero_add]
 exact h.cell j (by omega)
theorem Kr.part {w w':World} {m:Nat} {l:List (Nat × IntKind × Nat × (Nat→Int))} {R:List (Nat × Nat)} (h:Kr w m l R w') (l':List (Nat × IntKind × Nat × (Nat→Int))) (b:Nat) (k:IntKind) (n:Nat) (f:Nat→Int) (o q:Nat) (ho:o+q≤n) (g:Nat→Int) (hp:(b,k,n,f)∈l) (hl:∀ p∈l',p∈l) (hne:∀ p∈l',p.1≠b) (hlo:w.heap.size≤b) :
 Kr w m ((b,k,n,over f o q g)::l') R (w'.setCells b o (row k q g)) :=
 ((h.loose l' b k n f hp hl hne hlo).poke b n mS o _).settle R b k n _ mS (fun _ hq=>mT _ hq) (fun q hq=>(h.apart _ hp q hq).symm) ((h.get _ _ _ _ hp).part o q ho g)
theorem Kr.headC {w w':World} {m:Nat} {l:List (Nat × IntKind × Nat × (Nat→Int))} {R:List (Nat × Nat)} {b:Nat} {k:IntKind} {n:Nat} {f:Nat→Int} (h:Kr w m ((b,k,n,f)::l) R w') (g:Nat→Int) (e:∀ j,j<n→f j=g j):Kr w m ((b,k,n,g)::l) R w' :=
 ⟨fun p hp=>by
  rcases xc1 hp with rfl | hp
  · exact ⟨(h.rows _ mS).1.congr e,(h.rows _ mS).2⟩
  · exact h.rows p (mT _ hp),h.room,fun p hp q hq=>by
  rcases xc1 hp with rfl | hp
  · exact h.apart _ mS q hq
  · exact h.apart p (mT _ hp) q hq,h.size,h.base,h.below⟩
def pk3 {α:Type} (a b c:α):Nat→α
 | 0=>a
 | 1=>b
 | _=>c
theorem tot3 (a b c:Nat):tot (pk3 a b c) 3=a+b+c:=by show 0+a+b+c=_; omega
theorem catIn3 {w:World} (C:Nat) (p1 p2 p3:Option Addr) (l1 l2 l3 c1 c2 c3:Nat) (z1 z2 z3:Nat→Int) (t:TypeId) (hC:C=w.heap.size) (h1:Src w p1 l1 z1) (h2:Src w p2 l2 z2) (h3:Src w p3 l3 z3) (n1:p1=none→c1=0) (n2:p2=none→c2=0) (n3:p3=none→c3=0) :
 CatIn (w.alloc (.cells #[.slice p1 l1 c1,.slice p2 l2 c2,.slice p3 l3 c3] t)) ⟨C,0,none⟩ 3 (pk3 p1 p2 p3) (pk3 l1 l2 l3) (pk3 c1 c2 c3) (pk3 z1 z2 z3):=by
 have hb:=(Below.refl w.heap.size w).alloc (xnR _) (.cells #[.slice p1 l1 c1,.slice p2 l2 c2,.slice p3 l3 c3] t)
 refine ⟨fun j hj=>?_,fun j hj=>?_,fun j hj=>?_⟩
 · rw [Addr.add_mid,World.cell?_alloc_at _ _ _ _ hC]
   match j,hj with
   | 0,_ | 1,_ | 2,_=>rfl
   | _+3,h=>omega
 · match j,hj with
   | 0,_=>exact h1.below hb (xnR _)
   | 1,_=>exact h2.below hb (xnR _)
   | 2,_=>exact h3.below hb (xnR _)
   | _+3,h=>omega
 · match j,hj with
   | 0,_=>exact n1
   | 1,_=>exact n2
   | 2,_=>exact n3
   | _+3,h=>omega
theorem put_raw16 (B o c:Nat) (x:Int) (y0 y1 y2 y3 y4 y5 y6 y7:Int) (w:World) (c0:w.cell? ⟨B,o,none⟩=some (.int .u8 y0)) (f0:w.frozen? ⟨B,o,none⟩=false) (c1:w.cell? ⟨B,o+1,none⟩=some (.int .u8 y1)) (f1:w.frozen? ⟨B,o+1,none⟩=false) (c2:w.cell? ⟨B,o+2,none⟩=some (.int .u8 y2)) (f2:w.frozen? ⟨B,o+2,none⟩=false) (c3:w.cell? ⟨B,o+3,none⟩=some (.int .u8 y3)) (f3:w.frozen? ⟨B,o+3,none⟩=false) (c4:w.cell? ⟨B,o+4,none⟩=some (.int .u8 y4)) (f4:w.frozen? ⟨B,o+4,none⟩=false) (c5:w.cell? ⟨B,o+5,none⟩=some (.int .u8 y5)) (f5:w.frozen? ⟨B,o+5,none⟩=false) (c6:w.cell? ⟨B,o+6,none⟩=some (.int .u8 y6)) (f6:w.frozen? ⟨B,o+6,none⟩=false) (c7:w.cell? ⟨B,o+7,none⟩=some (.int .u8 y7)) (f7:w.frozen? ⟨B,o+7,none⟩=false) :
 Calls Tryz.prog 109 #[.slice (some ⟨B,o,none⟩) 16 c,.int .u64 x] w fun e w'=>e=.returned (.tuple #[])∧w'=((((((((w.setCell ⟨B,o,none⟩ (.int .u8 (x%256))).setCell ⟨B,o+1,none⟩ (.int .u8 (x/256%256))).setCell ⟨B,o+2,none⟩ (.int .u8 (x/65536%256))).setCell ⟨B,o+3,none⟩ (.int .u8 (x/16777216%256))).setCell ⟨B,o+4,none⟩ (.int .u8 (x/4294967296%256))).setCell ⟨B,o+5,none⟩ (.int .u8 (x/1099511627776%256))).setCell ⟨B,o+6,none⟩ (.int .u8 (x/281474976710656%256))).setCell ⟨B,o+7,none⟩ (.int .u8 (x/72057594037927936%256))):=by
 go_enter Tryz.func109,Tryz.ntmps109
 go_wp2
 go_end0
 exact ⟨rfl,rfl⟩
theorem put16_any (B o n c:Nat) (g:Nat→Int) (x:Int) (ho:o+8≤n) (w:World) (h:Has w B .u8 n g) :
 Calls Tryz.prog 109 #[.slice (some ⟨B,o,none⟩) 16 c,.int .u64 x] w fun e w'=>e=.returned (.tuple #[])∧w'=w.setCells B o (row .u8 8 (byt x)) :=
 put_raw16 B o c x _ _ _ _ _ _ _ _ w (h.cell o (by omega)) (h.free o (by omega)) (h.cell (o+1) (by omega)) (h.free (o+1) (by omega)) (h.cell (o+2) (by omega)) (h.free (o+2) (by omega)) (h.cell (o+3) (by omega)) (h.free (o+3) (by omega)) (h.cell (o+4) (by omega)) (h.free (o+4) (by omega)) (h.cell (o+5) (by omega)) (h.free (o+5) (by omega)) (h.cell (o+6) (by omega)) (h.free (o+6) (by omega)) (h.cell (o+7) (by omega)) (h.free (o+7) (by omega))
end Go.Proofs.YtklnibmfpcmeeaaGreatDoor
