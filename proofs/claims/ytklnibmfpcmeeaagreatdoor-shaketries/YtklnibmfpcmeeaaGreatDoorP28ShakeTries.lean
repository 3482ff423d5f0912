/- Texts of Lq Yu LawShakeTries Opn Open13 Tb, joined. -/
import Derived.Test.YtklnibmfpcmeeaaGreatDoorP27ShakeTries
import Derived.ProofKit
import Derived.LaidMore
import Derived.OpenShut
import Derived.Deep.Strs
import Derived.Stop.Joined
import Derived.Test.YtklnibmfpcmeeaaGreatDoorRows
set_option maxRecDepth 20000
set_option maxHeartbeats 64000000
namespace Go.Proofs.YtklnibmfpcmeeaaGreatDoor
open Go.RowKit
def OldS (w:World) (H:List Int) (v:Value):Prop:=∃ sp cap,v=.slice sp H.length cap∧H.length≤cap∧(sp=none→cap=0)∧Src w sp H.length (bl H)
theorem OldS.keep {w:World} {sp:Option Addr} {cap n:Nat} {b:List Int} (hn:¬ n<b.length) (hc:b.length≤cap) (h0:sp=none→cap=0) (hs:Src w sp b.length (bl b)):OldS w (b.take n) (.slice sp b.length cap):=by
 have e:b.take n=b:=List.take_of_length_le (by omega)
 rw [e]
 exact ⟨sp,cap,rfl,hc,h0,hs⟩
theorem OldS.cut {w:World} {sp:Option Addr} {cap n:Nat} {b:List Int} (hn:n<b.length) (hc:b.length≤cap) (hs:Src w sp n (bl b)) (h0:0<n):OldS w (b.take n) (.slice sp n cap):=by
 have e:(b.take n).length=n:=by rw [List.length_take]; omega
 have hs':Src w sp (b.take n).length (bl (b.take n)):=by
  rw [e]
  exact hs.congr fun j hj=>bl_takeA b n j hj
 refine ⟨sp,cap,by rw [e],by omega,fun h=>?_,hs'⟩
 obtain ⟨_,h1,_⟩:=hs 0 h0
 rw [h] at h1
 cases h1
theorem pull4 {α:Type} (a b x t:List α):(a++(b++(x++t))).Perm (x++(a++(b++t))):=pull1 a b x t
theorem row_map (l:List Int):row .u8 l.length (bl l)=l.map (Value.int .u8):=by
 refine List.ext_getElem? fun j=>?_
 by_cases hj:j<l.length
 · rw [row_get .u8 l.length (bl l) j hj,List.getElem?_map,List.getElem?_eq_getElem hj]
   unfold bl
   rw [List.getD_eq_getElem?_getD,List.getElem?_eq_getElem hj]
   rfl
 · rw [List.getElem?_eq_none (by rw [row_length]; omega),List.getElem?_eq_none (by rw [List.length_map]; omega)]
theorem map_get8 (l:List Int) (j:Nat) (hj:j<l.length):(l.map (Value.int .u8))[j]?=some (.int .u8 (bl l j)):=by rw [← row_map]; exact row_get .u8 l.length (bl l) j hj
theorem bl_set (l:List Int) (j i:Nat) (x:Int) (hj:j<l.length):bl (l.set j x) i=if i=j then x else bl l i:=by
 unfold bl
 rw [List.getD_eq_getElem?_getD,List.getElem?_set,List.getD_eq_getElem?_getD]
 by_cases h:j=i
 · subst h
   rw [if_pos rfl,if_pos hj,if_pos rfl]
   rfl
 · rw [if_neg h,if_neg (fun e=>h e.symm)]
theorem Byts.set {l:List Int} (h:Byts l) (j:Nat) {x:Int} (hx:0≤x∧x<256):Byts (l.set j x):=fun y hy=>by
 rcases List.mem_or_eq_of_mem_set hy with h1 | rfl
 · exact h y h1
 · exact hx
theorem Mm.ofHas {w0 w:World} {l:List (Nat × List Value)} (h:Mm w0 l w) {g n:Nat} {f:Nat→Int} (H:Has w g .u8 n f) (h1:w0.heap.size≤g) (h2:g<w.heap.size) (h3:∀ p∈l,p.1≠g):Mm w0 ((g,row .u8 n f)::l) w:=by
 refine ⟨fun p hp=>?_,List.pairwise_cons.2 ⟨fun p hp=>(h3 p hp).symm,h.apart⟩,h.below⟩
 rcases xc1 hp with rfl | hp
 · refine ⟨fun j hj=>?_,h1,h2⟩
   rw [row_length] at hj
   exact ⟨by rw [H.cell j hj,row_get .u8 n f j hj],H.free j hj⟩
 · exact h.rows p hp
theorem shTF_turned {s:Shk} {e a:Nat→Int} {t k k' g:List Int} {x y:Sym} (hr:s.role=1) (hs:s.step=0) (ht:t.length≤128) (h1:LD.dh s.sec (LD.pub e)=some k) (h2:LD.dh s.sec (LD.pub a)=some k') (hx:x=skey (smix s.st (LD.pub e)) k) (hy:y=skey (sseal x (LD.pub a)) k') (hg:soE y g=70) (hl:g.length=t.length+16) :
 shTF LD s (LD.pub e++(sout x (LD.pub a)++g))=.error 70:=by
 have l1:=LD_ok.len e
 have l2:(sout x (LD.pub a)).length=48:=by rw [hx,sout_len rfl,LD_ok.len]
 unfold shTF
 rw [if_neg (by omega),if_neg (by simp only [List.length_append]; omega),if_neg (by simp only [List.length_append]; omega),List.take_left' l1,h1,List.drop_left' l1,List.take_left' l2]
 simp only
 rw [← hx,if_neg (by rw [soE_back]; decide),soT_back _ _ (LD_ok.byt a),h2,sopen_back]
 simp only
 rw [← hy,show (80:Nat)=32+48 from rfl,← List.drop_drop,List.drop_left' l1,List.drop_left' l2,hg,if_pos (by decide)]
theorem bl_eq {a b:List Int} (hl:a.length=b.length) (h:∀ j,j<b.length→bl a j=bl b j):a=b:=by
 apply List.ext_getElem hl
 intro j h1 h2
 have:=h j h2
 unfold bl at this
 rw [List.getD_eq_getElem?_getD,List.getD_eq_getElem?_getD,List.getElem?_eq_getElem h1,List.getElem?_eq_getElem h2] at this
 exact this
theorem sh_tries (a e b f:Nat→Int) (t:List Int) (ht:t.length≤128) (hbt:Byts t):∃ m A B,shF LD (shBegin a e (LD.pub b)) t=.ok (m,A)∧shTF LD (shAwait LD b f) m=.ok (t,B) ∧
 ∀ (g:List Int) (z:Nat→Int),g.length=m.length→Byts g→In 256 16 z→(¬ ∀ j,j<16→z j=0)→(∀ j,j<m.length-16→bl g j=bl m j)→(∀ j,j<16→bl g (m.length-16+j)=bits .xor .u8 (bl m (m.length-16+j)) (z j))→shTF LD (shAwait LD b f) g=.error 70:=by
 obtain ⟨k1,p1,q1⟩:=LD_ok.agr e b
 obtain ⟨k2,p2,q2⟩:=LD_ok.agr a b
 refine ⟨_,_,_,shF_eq rfl rfl ht p1 p2,shTF_back LD_ok rfl rfl rfl ht hbt q1 q2,fun g z hl hg hz hne hlo hhi=>?_⟩
 have l1:=LD_ok.len e
 obtain ⟨x,hx⟩:∃ x,x=skey (smix (shAwait LD b f).st (LD.pub e)) k1:=⟨_,rfl⟩
 obtain ⟨y,hy⟩:∃ y,y=skey (sseal x (LD.pub a)) k2:=⟨_,rfl⟩
 replace hl:g.length=(LD.pub e++(sout x (LD.pub a)++sout y t)).length:=by rw [hl,hy,hx]; rfl
 replace hlo:∀ j,j<(LD.pub e++(sout x (LD.pub a)++sout y t)).length-16→bl g j=bl (LD.pub e++(sout x (LD.pub a)++sout y t)) j:=by rw [hy,hx]; exact hlo
 replace hhi:∀ j,j<16→bl g ((LD.pub e++(sout x (LD.pub a)++sout y t)).length-16+j)=bits .xor .u8 (bl (LD.pub e++(sout x (LD.pub a)++sout y t)) ((LD.pub e++(sout x (LD.pub a)++sout y t)).length-16+j)) (z j):=by rw [hy,hx]; exact hhi
 have l2:(sout x (LD.pub a)).length=48:=by rw [hx,sout_len rfl,LD_ok.len]
 have l3:(sout y t).length=t.length+16:=by rw [hy]; exact sout_len rfl t
 have lm:(LD.pub e++(sout x (LD.pub a)++sout y t)).length=t.length+96:=by rw [List.length_append,List.length_append,l1,l2,l3]; omega
 rw [lm] at hl hlo hhi
 have hT:g.take 80=LD.pub e++sout x (LD.pub a):=by
  have lT:(LD.pub e++sout x (LD.pub a)).length=80:=by rw [List.length_append,l1,l2]
  refine bl_eq (by rw [List.length_take,lT]; omega) fun j hj=>?_
  rw [lT] at hj
  rw [← bl_takeA g 80 j hj,hlo j (by omega),← List.append_assoc,← bl_app',lT]
  unfold app
  rw [if_pos hj]
 have hD:∀ j,bl (LD.pub e++(sout x (LD.pub a)++sout y t)) (80+j)=bl (sout y t) j:=fun j=>by
  rw [← List.append_assoc,← bl_app',List.length_append,l1,l2]
  unfold app
  rw [if_neg (by omega),Nat.add_sub_cancel_left]
 have hgg:g=LD.pub e++(sout x (LD.pub a)++g.drop 80):=by rw [← List.append_assoc,← hT,List.take_append_drop]
 have h70:soE y (g.drop 80)=70:=soE_turned (s:=y) (by rw [hy]; rfl) t (g.drop 80) (by rw [List.length_drop]; omega) z hz hne (fun j hj=>by rw [← bl_dropA,hlo (80+j) (by omega),hD]) (fun j hj=>by
  rw [← bl_dropA,show 80+(t.length+j)=t.length+96-16+j by omega,hhi j hj,show t.length+96-16+j=80+(t.length+j) by omega,hD]) (hg.drop 80)
 rw [hgg]
 exact shTF_turned (t:=t) rfl rfl ht q1 q2 hx hy h70 (by rw [List.length_drop]; omega)
theorem idxTg13 (b i:Nat) (hi:i<16) (w:World) {o:Oper} {a:Act} (x y:Operand) (ho:o.op=.indexAddr 51 x y) (hx:a.eval x=.pointer (some ⟨b,0,none⟩)) (hy:a.eval y=.int .i64 (i:Int)) :
 (execOp a.eval o).run Tryz.prog w=.ok (.value (.pointer (some ⟨b,i,none⟩))) w:=by
 have h:=idxArr (P:=Tryz.prog) 51 5 16 .i64 b 0 i x y Tryz.underlying51 (fun _=>by kernel_rfl) hi ho hx hy w
 rw [Nat.zero_add] at h
 exact h
theorem law_ShakeTries {I:Value→Shk→List (Nat × List Value)→Prop} (hK:ShkOK I) (a d b f:Nat→Int) (wr:Bool) (ha:In 256 32 a) (hd:In 256 32 d) (hb:In 256 32 b) (hf:In 256 32 f) (O:List Int) (hO:O.length=32) (hOb:Byts O) (spT:Option Addr) (capT:Nat) (text:List Int) (maxT:text.length≤140737488351232) (leT:text.length≤capT) (nilT:spT=none→capT=0) (bytT:Byts text) (z:Nat→Int) (hz:In 256 16 z) (w0:World) (hg:HGlob13 w0) (srcT:Src w0 spT text.length (bl text)) :
 Calls Tryz.prog 5 #[.agg ([row .u8 32 a,row .u8 32 d,row .u8 32 b,row .u8 32 f,[.bool wr],row .u8 32 (bl O)].flatten).toArray,.slice spT text.length capT,.agg (row .u8 16 z).toArray] w0 fun e w'=>e=.returned (.bool true)∧Below w0.heap.size w0 w':=by
 have byT_:=bytT.take 128
 have lenT_:(text.take 128).length≤128:=by rw [List.length_take]; omega
 obtain ⟨tx,htx⟩:∃ tx,tx=text.take 128:=⟨_,rfl⟩
 rw [← htx] at byT_ lenT_
 replace htx:=show Hid _ from htx
 obtain ⟨m1,xA1,xB1,h1,h2,h3⟩:=sh_tries a d b f tx lenT_ byT_
 obtain ⟨l1,y1,_,hwxA1⟩:=shF_ok h1 byT_ (shBegin_w ha hd (LD_ok.len b) (LD_ok.byt b))
 have hwb:=shAwait_w hb hf; have hwxB1:=shTF_okw h2 y1 hwb
 have e3:shTF LD (shAwait LD b f) (m1.take 95)=.error 3:=shTF_short (by show ¬ (1≠1∨0≠0); omega) (by rw [List.length_take]; omega)
 have e2:shTF LD (shAwait LD b f) (szs 225)=.error 2:=shTF_long (by show ¬ (1≠1∨0≠0); omega) (by rw [szs_len]; decide) (by rw [szs_len]; decide)
 have k0:shK (shAwait LD b f)=[row .u8 32 (fun _=>0),row .u8 32 (fun _=>0)].flatten:=if_neg (show ¬ (0:Nat)=2 by decide)
 have d0:shD (shAwait LD b f)=false:=decide_eq_false (show ¬ (0:Nat)=2 by decide)
 have g1:96≤m1.length∧m1.length≤1000:=by omega
 clear l1; replace h1:=show Hid _ from h1; replace h2:=show Hid _ from h2; replace h3:=show Hid _ from h3; replace e3:=show Hid _ from e3; replace e2:=show Hid _ from e2; replace k0:=show Hid _ from k0; replace d0:=show Hid _ from d0; have M:=Mm.init w0
 go_enter Tryz.func5,Tryz.ntmps5
 go_upto_region 0 with fail; refine wp_region_list ?_; have hlb:=(Below.refl w0.heap.size w0).alloc (xnR _) (.cells ([row .u8 32 a,row .u8 32 d,row .u8 32 b,row .u8 32 f,[Value.bool wr],row .u8 32 (bl O)].flatten).toArray 25)
 refine actL (w':=w0.alloc (.cells ([row .u8 32 a,row .u8 32 d,row .u8 32 b,row .u8 32 f,[Value.bool wr],row .u8 32 (bl O)].flatten).toArray 25)) (.pointer (some ⟨w0.heap.size,0,none⟩)) rfl (by kernel_rfl) ?_; simp only [aP,lI,l0,lS]; replace M:=M.box ([row .u8 32 a,row .u8 32 d,row .u8 32 b,row .u8 32 f,[Value.bool wr],row .u8 32 (bl O)].flatten).toArray 25 w0.heap.size rfl
 clear hlb; generalize w0.alloc (.cells ([row .u8 32 a,row .u8 32 d,row .u8 32 b,row .u8 32 f,[Value.bool wr],row .u8 32 (bl O)].flatten).toArray 25)=w1 at M  ⊢
 have hA_B1:w0.heap.size≤w0.heap.size:=xnR _
 generalize eB_:w0.heap.size=B1 at M hA_B1 ⊢
 replace hA_B1:w0.heap.size≤B1:=Nat.le_of_eq eB_
 clear eB_
 replace M:Mm w0 ((B1,[row .u8 32 a,row .u8 32 d,row .u8 32 b,row .u8 32 f,[Value.bool wr],row .u8 32 (bl O)].flatten)::([]:List (Nat × List Value))) w1:=M
 have hlb:=(Below.refl w1.heap.size w1).alloc (xnR _) (.cells (row .u8 16 z).toArray 51); refine actL (w':=w1.alloc (.cells (row .u8 16 z).toArray 51)) (.pointer (some ⟨w1.heap.size,0,none⟩)) rfl (by kernel_rfl) ?_; simp only [aP,lI,l0,lS]; replace M:=M.box (row .u8 16 z).toArray 51 w1.heap.size rfl; clear hlb; generalize w1.alloc (.cells (row .u8 16 z).toArray 51)=w2 at M  ⊢
 have hA_B2:w1.heap.size≤w1.heap.size:=xnR _
 generalize eB_:w1.heap.size=B2 at M hA_B2 ⊢
 replace hA_B2:w1.heap.size≤B2:=Nat.le_of_eq eB_
 clear eB_
 replace M:Mm w0 ((B2,row .u8 16 z)::(B1,[row .u8 32 a,row .u8 32 d,row .u8 32 b,row .u8 32 f,[Value.bool wr],row .u8 32 (bl O)].flatten)::([]:List (Nat × List Value))) w2:=M
 refine xpL (.bool false) ?_; refine xT ?_; go_upto_region 1 with fail; refine wp_region_list ?_; refine xcL (shown13_any hK _ (hg.mm M)) ?_; rintro e w3 ⟨rfl,l⟩; replace M:=M.call l; clear l; refine xeL ?_; refine xpL (.bool true) ?_; refine xT ?_; go_upto_region 2 with fail; refine wp_region_list ?_; refine xpL (.pointer (some ⟨B1,128,none⟩)) ?_; replace M:=M.swap
 refine skipOpL rfl (storeAny (.bool false) B1 128 4 _ _ rfl rfl rfl rfl rfl (M.isSome mS 128 (by rw [flat_len _ [32,32,32,32,1,32] (by kernel_rfl)]; decide)) (M.free mS 128 (by rw [flat_len _ [32,32,32,32,1,32] (by kernel_rfl)]; decide)) (by kernel_rfl)) ?_
 simp only [Act.put]; replace M:=M.set 128 (by rw [flat_len _ [32,32,32,32,1,32] (by kernel_rfl)]; decide) (.bool false)
 rw [flat_set1 _ [32,32,32,32,1,32] (by kernel_rfl) 4 128 _ (.bool false) rfl rfl] at M
 generalize w3.setCell ⟨B1,128,none⟩ (.bool false)=w4 at M  ⊢
 replace M:Mm w0 ((B1,[row .u8 32 a,row .u8 32 d,row .u8 32 b,row .u8 32 f,[Value.bool false],row .u8 32 (bl O)].flatten)::(B2,row .u8 16 z)::([]:List (Nat × List Value))) w4:=M
 refine xT ?_; go_upto_region 3 with fail; refine wp_region_list ?_
 refine xaL (.agg ([row .u8 32 a,row .u8 32 d,row .u8 32 b,row .u8 32 f,[Value.bool false],row .u8 32 (bl O)].flatten).toArray) (loadN 25 _ ⟨B1,0,none⟩ ([row .u8 32 a,row .u8 32 d,row .u8 32 b,row .u8 32 f,[Value.bool false],row .u8 32 (bl O)].flatten) rfl rfl (fun _=>by kernel_rfl) (fun _=>by rw [flat_len _ [32,32,32,32,1,32] (by kernel_rfl)]; kernel_rfl) (M.part mS 0 _ (flat_mid [] [row .u8 32 a,row .u8 32 d,row .u8 32 b,row .u8 32 f,[Value.bool false],row .u8 32 (bl O)] [] 0 (by kernel_rfl)))) ?_
 refine xcL (two13_any hK w0 _ _ a d b f false O ha hd hb hf hO hOb hg M) ?_; rintro e w5 ⟨va_,ba0,vb_,bb0,Rc,Qc,Rd,Qd,rfl,hIa,hIb,M'⟩; clear M
 replace hIa:I va_ (shBegin a d (LD.pub b)) ba0:=hIa
 obtain ⟨Ra,rfl⟩:=hK.ptr _ _ _ hIa
 obtain ⟨Rb,rfl⟩:=hK.ptr _ _ _ hIb
 have M2:Mm w0 (bb0++(ba0++(([(B1,[row .u8 32 a,row .u8 32 d,row .u8 32 b,row .u8 32 f,[Value.bool false],row .u8 32 (bl O)].flatten),(B2,row .u8 16 z)]:List (Nat × List Value))++([]:List (Nat × List Value))))) w5:=M'.sub _ (List.Sublist.cons _ (List.Sublist.cons _ (List.Sublist.cons _ (List.Sublist.cons _ (List.Sublist.refl _)))))
 clear M'; have hqb:=M2.lts
 have M:Mm w0 (([(B1,[row .u8 32 a,row .u8 32 d,row .u8 32 b,row .u8 32 f,[Value.bool false],row .u8 32 (bl O)].flatten),(B2,row .u8 16 z)]:List (Nat × List Value))++(bb0++(ba0++([]:List (Nat × List Value))))) w5:=M2.perm (pull4 bb0 ba0 ([(B1,[row .u8 32 a,row .u8 32 d,row .u8 32 b,row .u8 32 f,[Value.bool false],row .u8 32 (bl O)].flatten),(B2,row .u8 16 z)]:List (Nat × List Value)) ([]:List (Nat × List Value)))
 have hqa:=(M2.perm (pull0 bb0 ba0 (([(B1,[row .u8 32 a,row .u8 32 d,row .u8 32 b,row .u8 32 f,[Value.bool false],row .u8 32 (bl O)].flatten),(B2,row .u8 16 z)]:List (Nat × List Value))++([]:List (Nat × List Value))))).lts; clear M2
 have hWa:ShkW (shBegin a d (LD.pub b)):=shBegin_w ha hd (LD_ok.len b) (LD_ok.byt b)
 have hWb:ShkW (shAwait LD b f):=shAwait_w hb hf
 have hbz_a:=xnR w5.heap.size; have hbz_b:=xnR w5.heap.size
 replace M:Mm w0 ((B1,[row .u8 32 a,row .u8 32 d,row .u8 32 b,row .u8 32 f,[Value.bool false],row .u8 32 (bl O)].flatten)::(B2,row .u8 16 z)::(bb0++(ba0++([]:List (Nat × List Value))))) w5:=M
 refine xeL ?_; refine xpL (.tuple #[.pointer (some ⟨Ra,0,none⟩),.pointer (some ⟨Rb,0,none⟩),.pointer (some ⟨Rc,0,none⟩),.pointer (some ⟨Rd,0,none⟩)]) ?_; refine xpL (.pointer (some ⟨Ra,0,none⟩)) ?_; refine xpL (.pointer (some ⟨Rb,0,none⟩)) ?_; refine xpL (.pointer (some ⟨Rc,0,none⟩)) ?_; refine xpL (.pointer (some ⟨Rd,0,none⟩)) ?_; refine xpL (.pointer (some ⟨Ra,0,none⟩)) ?_
 refine xpL (.pointer (some ⟨Rb,0,none⟩)) ?_; refine xpL (.pointer (some ⟨Rc,0,none⟩)) ?_; refine xpL (.pointer (some ⟨Rd,0,none⟩)) ?_; refine xT ?_; go_upto_region 4 with fail; refine wp_region_list ?_; refine xpL (.bool true) ?_; refine xpL (.bool false) ?_; refine xpL (.bool false) ?_; refine xpL (.pointer (some ⟨Ra,0,none⟩)) ?_; refine xpL (.bool false) ?_; refine xpL (.bool false) ?_
 refine xpL (.bool false) ?_; refine xpL (.pointer (some ⟨Rb,0,none⟩)) ?_; refine xpL (.bool false) ?_; refine xpL (.bool false) ?_; refine xT ?_; replace M:=M.tail
 replace M:Mm w0 ((B2,row .u8 16 z)::(bb0++(ba0++([]:List (Nat × List Value))))) w5:=M
 by_cases hz0:val 256 z 16=val 256 (fun _=>0) 16
 · replace hz0:=show Hid _ from hz0
   go_upto_region 6 with fail; refine wp_region_list ?_; refine xaL (.agg (row .u8 16 z).toArray) (loadN 51 _ ⟨B2,0,none⟩ (row .u8 16 z) rfl rfl (fun _=>by kernel_rfl) (fun _=>by rw [row_length]; kernel_rfl) (M.part mS 0 _ (by rw [List.drop_zero,List.take_length]))) ?_; refine xpL (.agg (row .u8 16 (fun _=>0)).toArray) ?_
   refine xaL (.bool true) (eqlV 16 z (fun _=>0) 51 5 _ _ _ rfl rfl rfl Tryz.underlying51 Tryz.underlying5 (fun _=>by kernel_rfl) (by kernel_rfl) hz (fun _ _=>⟨Int.le_refl _,show (0:Int)<256 by decide⟩) true (decide_eq_true hz0.out) _) ?_; refine xT ?_; go_upto_region 7 with fail; refine wp_region_list ?_; refine xpL (.bool true) ?_; refine xT ?_; have hbel:=M.below
   clear M hbz_a hbz_b; go_wp2; go_ret
   exact ⟨rfl,hbel⟩
 · replace hz0:=show Hid _ from hz0
   go_upto_region 6 with fail; refine wp_region_list ?_; refine xaL (.agg (row .u8 16 z).toArray) (loadN 51 _ ⟨B2,0,none⟩ (row .u8 16 z) rfl rfl (fun _=>by kernel_rfl) (fun _=>by rw [row_length]; kernel_rfl) (M.part mS 0 _ (by rw [List.drop_zero,List.take_length]))) ?_; refine xpL (.agg (row .u8 16 (fun _=>0)).toArray) ?_
   refine xaL (.bool false) (eqlV 16 z (fun _=>0) 51 5 _ _ _ rfl rfl rfl Tryz.underlying51 Tryz.underlying5 (fun _=>by kernel_rfl) (by kernel_rfl) hz (fun _ _=>⟨Int.le_refl _,show (0:Int)<256 by decide⟩) false (decide_eq_false hz0.out) _) ?_; refine xT ?_; go_upto_region 8 with fail; refine wp_region_list ?_; refine xpL (.slice spT text.length capT) ?_
   refine xaL (.int .i64 ((text.length:Nat):Int)) (lenS _ 32 5 spT text.length capT rfl Tryz.underlying32 rfl _) ?_
   obtain ⟨b1,hb1⟩:∃ y_,y_=(decide (((text.length:Nat):Int)>128)):=⟨_,rfl⟩
   refine xaL (.bool b1) (gtrI .i64 _ _ _ _ _ _ rfl rfl rfl b1 hb1.symm _) ?_; refine xT ?_
   go_upto_if 50 with fail
   go_cut [1] from 51 (fun v_ wx=>OldS w0 (tx) v_∧w5=wx)
   case first =>
    cases b1 with
    | true =>
      have hc_:128<text.length:=by have:=of_decide_eq_true hb1.symm; omega
      try clear hb1
      go_upto_region 9 with fail; refine wp_region_list ?_; refine xpL (.slice spT text.length capT) ?_
      obtain ⟨p6,hr_6,hs_6⟩:=cut_hiA (P:=Tryz.prog) (t:=32) (by kernel_rfl) (fun _=>by kernel_rfl) spT text.length capT 128 (by omega) leT (by decide)
      refine xaL (.slice p6 128 capT) (cutHi _ _ _ _ _ _ rfl rfl rfl (hr_6 _)) ?_; refine xpL (.slice p6 128 capT) ?_; refine xT ?_; have HO:=show Hid _ from (OldS.cut hc_ leT (hs_6 [] _ _ ⟨srcT,fun _ _ _ h=>by cases h⟩).1 (by decide)); clear hc_; go_wp2
      go_meet
      exact ⟨by rw [htx.out]; exact HO.out,rfl⟩
    | false =>
      have hc_:¬ 128<text.length:=by have:=of_decide_eq_false hb1.symm; omega
      try clear hb1
      have HO:=show Hid _ from (OldS.keep hc_ leT nilT srcT); clear hc_; go_wp2
      go_meet
      exact ⟨by rw [htx.out]; exact HO.out,rfl⟩
   case rest =>
    try clear hb1
    obtain ⟨⟨spT_,capT_,rfl,leT_,nilT_,srcT_⟩,rfl⟩:=hcut
    go_upto_region 10 with fail; refine wp_region_list ?_; refine xpL (.pointer (some ⟨Ra,0,none⟩)) ?_; refine xpL (.slice spT_ ((tx).length) capT_) ?_; have Mp:=M.perm (pull1 ([(B2,row .u8 16 z)]:List (Nat × List Value)) bb0 ba0 ([]:List (Nat × List Value)))
    have key:=hK.fst w0 _ _ (shBegin a d (LD.pub b)) ba0 _ hg hIa hWa spT_ capT_ tx (by have:=lenT_; omega) leT_ nilT_ byT_ Mp ((SrcA.of_old srcT_ Mp.los).off (Off.of_below Mp.below))
    rw [h1.out] at key
    simp only [shE,shB,shN] at key
    refine xcL key ?_; clear key; rintro e w7 ⟨⟨v7,rfl,N_7⟩,ba1,hI_,hsub,M',o1⟩
    have hq_:∀ b∈ba1.map Prod.fst,b<_:=fun b hb=>by
     obtain ⟨p,hp,rfl⟩:=List.mem_map.1 hb
     exact hqa _ (hsub p hp)
    have hs_7_a:=hbz_a; replace hbz_a:=xnT hbz_a o1.size; have hs_7_b:=hbz_b; replace hbz_b:=xnT hbz_b o1.size; clear o1 hsub Mp M hIa hqa; have hIa:=hI_; have hqa:=hq_; clear hI_ hq_
    replace hWa:ShkW xA1:=hwxA1
    have M:Mm w0 ((B2,row .u8 16 z)::(bb0++(ba1++([]:List (Nat × List Value))))) w7:=M'.perm (pull1 ([(B2,row .u8 16 z)]:List (Nat × List Value)) bb0 ba1 ([]:List (Nat × List Value))).symm
    clear M'
    try clear ba0
    obtain ⟨p7,c7,rfl,hcc_7,hnn_7,_,_⟩:=id N_7
    refine xeL ?_; refine xpL (.tuple #[.slice p7 ((m1).length) c7,.int .i64 0]) ?_; refine xpL (.slice p7 ((m1).length) c7) ?_; refine xpL (.int .i64 0) ?_; refine xpL (.slice p7 ((m1).length) c7) ?_; refine xpL (.int .i64 0) ?_; refine xT ?_; go_upto_region 11 with fail; refine wp_region_list ?_; refine xpL (.int .i64 0) ?_
    refine xaL (.bool false) (neqI .i64 _ _ _ _ _ _ rfl rfl rfl false (by decide) _) ?_; refine xpL (.bool false) ?_; refine xpL (.slice p7 ((m1).length) c7) ?_; refine readL (.int .i64 (((m1).length:Nat):Int)) rfl (lenS _ 32 5 p7 ((m1).length) c7 rfl Tryz.underlying32 rfl _) ?_; simp only [aP,lI,l0,lS]
    refine xaL (.bool false) (lssI .i64 _ _ _ _ _ _ rfl rfl rfl false (decide_eq_false (by omega)) _) ?_; refine xpL (.bool false) ?_; refine xT ?_
    have hML:∀ p∈(B2,row .u8 16 z)::(bb0++(ba1++([]:List (Nat × List Value)))),p.1<w7.heap.size:=fun p hp=>(M.rows p hp).2.2
    have hax:=NewF.at N_7; have hw0:=M.below.size; go_upto_region 13 with fail; refine wp_region_list ?_; refine actL (w':=w7.alloc (.cells #[] 5)) (.slice (some ⟨w7.heap.size,0,none⟩) 0 0) rfl (by kernel_rfl) ?_; simp only [aP,lI,l0,lS]
    have O_1:OwnL (w7.alloc (.cells #[] 5)) w7.heap.size [] (.slice (some ⟨w7.heap.size,0,none⟩) 0 0):=Own.lit w7 w7.heap.size 5 .u8 0 (bl []) (xnR _) (by unfold maxLen; omega)
    have hlb:=(Below.refl w7.heap.size w7).alloc (xnR _) (.cells #[] 5); replace M:=M.call hlb; have hNb:=(Mm.init w7).call hlb; have O_0:=NewF.below N_7 hlb; have hwa:=hlb.size; clear hlb; generalize w7.alloc (.cells #[] 5)=w9 at M hNb O_1 O_0 hwa ⊢; generalize (some ⟨w7.heap.size,0,none⟩:Option Addr)=p1 at O_1 ⊢; refine xpL (.slice p7 ((m1).length) c7) ?_
    obtain ⟨v,w10,hr,O_3,hgr,_⟩:=run_append_Own (P:=Tryz.prog) (ty:=32) Tryz.underlying32 one8 O_1 p7 m1.length c7 (bl m1) (NewF.src O_0) hnn_7 (by rw [List.length_nil]; unfold maxLen; omega) (by rw [List.length_nil]; omega) hwa
    replace M:=M.grown hgr w7.heap.size hML hw0 hwa (fun b hb=>(World.ownsRow.lt O_1 b hb).1); replace hNb:=hNb.grown hgr w7.heap.size (fun p hp=>by cases hp) (xnR _) hwa (fun b hb=>(World.ownsRow.lt O_1 b hb).1)
    replace O_3:OwnL w10 w7.heap.size m1 v:=OwnL.app (a:=[]) O_3
    refine xaL v (appendOp _ _ 32 _ _ _ rfl rfl rfl hr) ?_; replace hNb:=hNb.below; clear hr hgr O_1 O_0
    obtain ⟨g,cg,rfl,hg1,hg2,Hg⟩:=Own.has O_3 (by omega)
    have hgc:=Own.le O_3; refine xpL (.slice (some ⟨g,0,none⟩) m1.length cg) ?_; refine xT ?_; replace hbz_a:=xnT hbz_a hNb.size; replace hbz_b:=xnT hbz_b hNb.size; replace N_7:=NewF.below N_7 hNb
    have S_q:SrcA [g] w10 p7 m1.length (bl m1):=⟨NewF.src N_7,fun ad e _ hm=>by
     obtain h:=xm1 hm
     have h1:=hax ad e
     omega⟩
    replace M:=M.ofHas Hg (by omega) hg2 (fun p hp e=>by have:=hML p hp; omega)
    rw [row_map] at M
    clear O_3 Hg hNb hML N_7
    replace M:Mm w0 ((g,m1.map (Value.int .u8))::(B2,row .u8 16 z)::(bb0++(ba1++([]:List (Nat × List Value))))) w10:=M
    go_upto_region 14 with fail; refine wp_region_list ?_; refine xpL (.int .i64 0) ?_; refine xT ?_; have HI:=show Hid _ from (And.intro M (And.intro S_q (xnR w10.heap.size))); clear M S_q; replace hbz_a:=show Hid _ from hbz_a; replace hbz_b:=show Hid _ from hbz_b; replace hax:=show Hid _ from hax; go_wp2
    go_loopw [15] (fun i w'=>∃ (q:Nat) (fq:List Int),q≤16∧i=.int .i64 (q:Int)∧fq.length=m1.length∧Byts fq∧(∀ j,j<m1.length-16→bl fq j=bl m1 j)∧(∀ j,j<q→bl fq (m1.length-16+j)=bits .xor .u8 (bl m1 (m1.length-16+j)) (z j))∧(∀ j,q≤j→bl fq (m1.length-16+j)=bl m1 (m1.length-16+j))∧Mm w0 ((g,fq.map (Value.int .u8))::(B2,row .u8 16 z)::(bb0++(ba1++([]:List (Nat × List Value))))) w'∧SrcA [g] w' p7 m1.length (bl m1)∧w10.heap.size≤w'.heap.size) (fun i _=>16-(intOf i).toNat)
    case atStart=>exact ⟨0,m1,by omega,rfl,rfl,y1,fun _ _=>rfl,fun j hj=>by omega,fun _ _=>rfl,HI.out⟩
    case round =>
     clear HI
     obtain ⟨q,f',hq,rfl,hfl,hfb,hflo,hfhi,hfre,M,S_q,hzz⟩:=hrel
     by_cases hlt:q<16
     · have hlq:m1.length-16+q<m1.length:=by omega
       go_upto_region 15 with fail; refine wp_region_list ?_; refine xpL (.int .i64 (q:Int)) ?_; refine xaL (.bool true) (lssI .i64 _ _ _ _ _ _ rfl rfl rfl true (decide_eq_true (by omega)) _) ?_; refine xT ?_; go_upto_region 17 with fail; replace S_q:=S_q.off (Off.of_below (Below.refl wr.heap.size wr).drew); replace hzz:=xnT hzz (Below.refl wr.heap.size wr).drew.size
       refine wp_region_C (S:=fun w'=>Mm w0 ((g,f'.map (Value.int .u8))::(B2,row .u8 16 z)::(bb0++(ba1++([]:List (Nat × List Value))))) w') 19 (by kernel_rfl) M.drew ?_; clear M; intro M; generalize wr.drew=w3_ at M S_q hzz ⊢; refine xpC 0 73 (.slice (some ⟨g,0,none⟩) m1.length cg) M ?_; refine xpC 1 74 (.slice (some ⟨g,0,none⟩) m1.length cg) M ?_
       refine xqC 2 75 rfl (.int .i64 (m1.length:Int)) (fun w=>lenS _ 32 5 (some ⟨g,0,none⟩) m1.length cg rfl Tryz.underlying32 rfl w) M ?_; refine xqC 3 76 rfl (.int .i64 ((m1.length-16:Nat):Int)) (fun w=>subI .i64 _ _ _ _ _ _ _ rfl rfl rfl (by rw [xw6]; omega) w) M ?_; refine xpC 4 77 (.int .i64 (q:Int)) M ?_
       refine xqC 5 78 rfl (.int .i64 ((m1.length-16+q:Nat):Int)) (fun w=>addI .i64 _ _ _ _ _ _ _ rfl rfl rfl (by rw [xw6]; omega) w) M ?_; refine xpC 6 79 (.slice (some ⟨g,0,none⟩) m1.length cg) M ?_; refine xpC 7 80 (.slice (some ⟨g,0,none⟩) m1.length cg) M ?_
       refine xqC 8 81 rfl (.int .i64 (m1.length:Int)) (fun w=>lenS _ 32 5 (some ⟨g,0,none⟩) m1.length cg rfl Tryz.underlying32 rfl w) M ?_; refine xqC 9 82 rfl (.int .i64 ((m1.length-16:Nat):Int)) (fun w=>subI .i64 _ _ _ _ _ _ _ rfl rfl rfl (by rw [xw6]; omega) w) M ?_; refine xpC 10 83 (.int .i64 (q:Int)) M ?_
       refine xqC 11 84 rfl (.int .i64 ((m1.length-16+q:Nat):Int)) (fun w=>addI .i64 _ _ _ _ _ _ _ rfl rfl rfl (by rw [xw6]; omega) w) M ?_; refine xqC 12 85 rfl (.pointer (some ⟨g,m1.length-16+q,none⟩)) (fun w'=>idxO g m1.length cg (m1.length-16+q) hlq w' _ _ rfl rfl rfl) M ?_
       refine cellC (i:=13) (some 86) rfl .u8 (.int .u8 (bl f' (m1.length-16+q))) g (m1.length-16+q) 5 _ rfl rfl (by kernel_rfl) rfl rfl rfl (by kernel_rfl) (by kernel_rfl) (by kernel_rfl) (by kernel_rfl) (fun _ _ _ h=>h) Tryz.underlying5 M (fun _ h=>h.get mS _ _ (map_get8 f' (m1.length-16+q) (by omega))) ?_; simp only [aP,lI,l0,lS]
       refine xpC 14 87 (.int .i64 (q:Int)) M ?_; refine xqC 15 88 rfl (.pointer (some ⟨B2,q,none⟩)) (fun w'=>idxTg13 B2 q hlt w' _ _ rfl rfl rfl) M ?_
       refine cellC (i:=16) (some 89) rfl .u8 (.int .u8 (z q)) B2 (q) 5 _ rfl rfl (by kernel_rfl) rfl rfl rfl (by kernel_rfl) (by kernel_rfl) (by kernel_rfl) (by kernel_rfl) (fun _ _ _ h=>h) Tryz.underlying5 M (fun _ h=>h.get (mT _ mS) q _ (row_get .u8 16 z q hlt)) ?_; simp only [aP,lI,l0,lS]
       refine xqC 17 90 rfl (.int .u8 (bits .xor .u8 (bl f' (m1.length-16+q)) (z q))) (fun w=>xorI .u8 _ _ _ _ _ _ _ rfl rfl rfl rfl w) M ?_; refine xqC 18 91 rfl (.pointer (some ⟨g,m1.length-16+q,none⟩)) (fun w'=>idxO g m1.length cg (m1.length-16+q) hlq w' _ _ rfl rfl rfl) M ?_; have hcell:=M.get mS (m1.length-16+q) _ (map_get8 f' (m1.length-16+q) (by omega))
       refine storeC (S2:=fun _=>True) none rfl .u8 (bits .xor .u8 (bl f' (m1.length-16+q)) (z q)) g (m1.length-16+q) 5 _ _ (by kernel_rfl) rfl rfl rfl rfl rfl (by rw [hcell]; rfl) (M.free mS (m1.length-16+q) (by rw [List.length_map]; omega)) (by kernel_rfl) (by kernel_rfl) ?_; simp only [Act.put]
       refine wpAnyH_done (by kernel_rfl) ?_ _
       clear hcell; replace M:=M.set (m1.length-16+q) (by rw [List.length_map]; omega) (.int .u8 (bits .xor .u8 (bl f' (m1.length-16+q)) (z q)))
       rw [← List.map_set] at M
       have o_:=(Off.refl [g] w3_).set (b:=g) mS (m1.length-16+q) (.int .u8 (bits .xor .u8 (bl f' (m1.length-16+q)) (z q))); replace S_q:=S_q.off o_; replace hzz:=xnT hzz o_.size; clear o_; have hXi:=u8_xor_in (bl f' (m1.length-16+q)) (z q) (hfb.bl (m1.length-16+q) (by omega)) (hz q hlt)
       have hjf:m1.length-16+q<f'.length:=by omega
       have HS:=show Hid _ from (show (f'.set (m1.length-16+q) (bits .xor .u8 (bl f' (m1.length-16+q)) (z q))).length=m1.length∧Byts (f'.set (m1.length-16+q) (bits .xor .u8 (bl f' (m1.length-16+q)) (z q)))∧(∀ j,j<m1.length-16→bl (f'.set (m1.length-16+q) (bits .xor .u8 (bl f' (m1.length-16+q)) (z q))) j=bl m1 j)∧(∀ j,j<(q+1)→bl (f'.set (m1.length-16+q) (bits .xor .u8 (bl f' (m1.length-16+q)) (z q))) (m1.length-16+j)=bits .xor .u8 (bl m1 (m1.length-16+j)) (z j))∧(∀ j,(q+1)≤j→bl (f'.set (m1.length-16+q) (bits .xor .u8 (bl f' (m1.length-16+q)) (z q))) (m1.length-16+j)=bl m1 (m1.length-16+j))∧Mm w0 ((g,(f'.set (m1.length-16+q) (bits .xor .u8 (bl f' (m1.length-16+q)) (z q))).map (Value.int .u8))::(B2,row .u8 16 z)::(bb0++(ba1++([]:List (Nat × List Value))))) (w3_.setCell ⟨g,m1.length-16+q,none⟩ (.int .u8 (bits .xor .u8 (bl f' (m1.length-16+q)) (z q))))∧SrcA [g] (w3_.setCell ⟨g,m1.length-16+q,none⟩ (.int .u8 (bits .xor .u8 (bl f' (m1.length-16+q)) (z q)))) p7 m1.length (bl m1)∧w10.heap.size≤(w3_.setCell ⟨g,m1.length-16+q,none⟩ (.int .u8 (bits .xor .u8 (bl f' (m1.length-16+q)) (z q)))).heap.size from ⟨by rw [List.length_set]; exact hfl,hfb.set _ hXi,fun j hj=>by rw [bl_set _ _ _ _ hjf,if_neg (by omega)]; exact hflo j hj,fun j hj=>by
        rw [bl_set _ _ _ _ hjf]
        by_cases e:j=q
        · subst e; rw [if_pos rfl,hfre j (xnR _)]
        · rw [if_neg (by omega)]; exact hfhi j (by omega),fun j hj=>by rw [bl_set _ _ _ _ hjf,if_neg (by omega)]; exact hfre j (by omega),M,S_q,hzz⟩)
       clear M S_q hzz hfb hflo hfhi hfre hXi hjf; generalize w3_.setCell ⟨g,m1.length-16+q,none⟩ (.int .u8 (bits .xor .u8 (bl f' (m1.length-16+q)) (z q)))=w4_ at HS ⊢; generalize f'.set (m1.length-16+q) (bits .xor .u8 (bl f' (m1.length-16+q)) (z q))=f'' at HS; go_wp2
       go_roundw
       case rel=>first | exact ⟨q+1,f'',by omega,by go_num,HS.out⟩ | ((repeat apply Exists.intro); refine ⟨⟨q+1,f'',by omega,by go_num,HS.out⟩,rfl⟩)
       case measure=>simp [intOf]; omega
     · obtain rfl:q=16:=by omega
       go_upto_region 15 with fail; refine wp_region_list ?_; refine xpL (.int .i64 ((16:Nat):Int)) ?_; refine xaL (.bool false) (lssI .i64 _ _ _ _ _ _ rfl rfl rfl false (by decide) _) ?_; refine xT ?_; have h70:=h3.out f' z hfl hfb hz (fun h=>hz0.out (val_congr 256 16 (fun j hj=>h j hj))) hflo hfhi; clear hflo hfhi hfre; replace h70:=show Hid _ from h70
       replace hbz_a:=xnT hbz_a.out hzz; replace hbz_b:=xnT hbz_b.out hzz
       have N_7:NewL wr _ m1 (.slice p7 m1.length c7):=⟨p7,c7,rfl,hcc_7,hnn_7,S_q.1,fun a_ e=>⟨(hax.out a_ e).1,by have:=(hax.out a_ e).2; omega⟩⟩
       clear S_q hax; go_upto_region 18 with fail; refine wp_region_list ?_; refine xpL (.pointer (some ⟨Rb,0,none⟩)) ?_; refine xpL (.slice (some ⟨g,0,none⟩) m1.length cg) ?_; have Mp:=M.perm (pull0 ([(g,f'.map (Value.int .u8)),(B2,row .u8 16 z)]:List (Nat × List Value)) bb0 (ba1++([]:List (Nat × List Value))))
       have key:=hK.tfs w0 _ _ (shAwait LD b f) bb0 _ hg hIb hWb (some ⟨g,0,none⟩) cg f' (by omega) (by omega) (fun e=>by cases e) hfb Mp (show SrcA _ _ _ _ _ from ⟨(M.src mS f' rfl),fun ad e _=>by cases e; exact Mp.beside mS⟩)
       rw [h70.out] at key
       simp only [shE,shB,shN] at key
       rw [hfl] at key
       refine xcL key ?_; clear key; rintro e w11 ⟨⟨v11,rfl,N_11⟩,bb1,hI_,hsub,M',o1⟩
       have hq_:∀ b∈bb1.map Prod.fst,b<_:=fun b hb=>by
        obtain ⟨p,hp,rfl⟩:=List.mem_map.1 hb
        exact hqb _ (hsub p hp)
       have hs_11_a:=hbz_a; replace hbz_a:=xnT hbz_a o1.size; have hs_11_b:=hbz_b; replace hbz_b:=xnT hbz_b o1.size; replace N_7:=NewF.off N_7 o1 (fun b_ hb_=>xnL (hqb b_ hb_) hs_7_b); clear o1 hsub Mp M hIb hqb; have hIb:=hI_; have hqb:=hq_; clear hI_ hq_
       replace hWb:ShkW (shAwait LD b f):=hwb
       have M:Mm w0 ((g,f'.map (Value.int .u8))::(B2,row .u8 16 z)::(bb1++(ba1++([]:List (Nat × List Value))))) w11:=M'.perm (pull0 ([(g,f'.map (Value.int .u8)),(B2,row .u8 16 z)]:List (Nat × List Value)) bb1 (ba1++([]:List (Nat × List Value)))).symm
       clear M'
       try clear bb0
       obtain ⟨p11,c11,rfl,hcc_11,hnn_11,_,_⟩:=id N_11
       refine xeL ?_; refine xpL (.tuple #[.slice p11 (([]:List Int).length) c11,.int .i64 70]) ?_; refine xpL (.slice p11 (([]:List Int).length) c11) ?_; refine xpL (.int .i64 70) ?_; refine xpL (.slice p11 (([]:List Int).length) c11) ?_; refine xpL (.int .i64 70) ?_; refine xT ?_; go_upto_region 19 with fail; refine wp_region_list ?_; refine xpL (.pointer (some ⟨Rb,0,none⟩)) ?_
       refine xpL (.slice p7 ((m1).length) c7) ?_
       obtain ⟨p12,hr_12,hc_12⟩:=cut_hiA (P:=Tryz.prog) (t:=32) (by kernel_rfl) (fun _=>by kernel_rfl) p7 ((m1).length) c7 95 (by omega) hcc_7 (by decide)
       have h95:(m1.take 95).length=95:=by rw [List.length_take]; omega
       refine xaL (.slice p12 95 c7) (cutHi _ _ _ _ _ _ rfl rfl rfl (hr_12 _)) ?_; have Mp:=M.perm (pull0 ([(g,f'.map (Value.int .u8)),(B2,row .u8 16 z)]:List (Nat × List Value)) bb1 (ba1++([]:List (Nat × List Value))))
       have key:=hK.tfs w0 _ _ (shAwait LD b f) bb1 _ hg hIb hWb p12 c7 (m1.take 95) (by rw [h95]; decide) (by rw [h95]; have:=hcc_7; omega) (fun e=>by obtain ⟨_,h,_⟩:=(hc_12 [] _ _ ⟨NewF.src N_7,fun _ _ _ h=>by cases h⟩).1 0 (by decide); rw [e] at h; cases h) (y1.take 95) Mp (by rw [h95]; exact (show SrcA _ _ _ _ _ from ⟨(hc_12 _ _ _ (NewF.srcA N_7 (fun b_ hb_=>xnL (hqb b_ hb_) hs_7_b))).1.congr (fun j hj=>bl_takeA _ _ _ hj),(hc_12 _ _ _ (NewF.srcA N_7 (fun b_ hb_=>xnL (hqb b_ hb_) hs_7_b))).2⟩))
       rw [e3.out] at key
       simp only [shE,shB,shN] at key
       rw [h95] at key
       refine xcL key ?_; clear key; rintro e w13 ⟨⟨v13,rfl,N_13⟩,bb2,hI_,hsub,M',o1⟩
       have hq_:∀ b∈bb2.map Prod.fst,b<_:=fun b hb=>by
        obtain ⟨p,hp,rfl⟩:=List.mem_map.1 hb
        exact hqb _ (hsub p hp)
       have hs_13_a:=hbz_a; replace hbz_a:=xnT hbz_a o1.size; have hs_13_b:=hbz_b; replace hbz_b:=xnT hbz_b o1.size; replace N_7:=NewF.off N_7 o1 (fun b_ hb_=>xnL (hqb b_ hb_) hs_7_b); replace N_11:=NewF.off N_11 o1 (fun b_ hb_=>xnL (hqb b_ hb_) hs_11_b); clear o1 hsub Mp M hIb hqb; have hIb:=hI_; have hqb:=hq_; clear hI_ hq_
       replace hWb:ShkW (shAwait LD b f):=hwb
       have M:Mm w0 ((g,f'.map (Value.int .u8))::(B2,row .u8 16 z)::(bb2++(ba1++([]:List (Nat × List Value))))) w13:=M'.perm (pull0 ([(g,f'.map (Value.int .u8)),(B2,row .u8 16 z)]:List (Nat × List Value)) bb2 (ba1++([]:List (Nat × List Value)))).symm
       clear M'
       try clear bb1
       obtain ⟨p13,c13,rfl,hcc_13,hnn_13,_,_⟩:=id N_13
       refine xeL ?_; refine xpL (.tuple #[.slice p13 (([]:List Int).length) c13,.int .i64 3]) ?_; refine xpL (.slice p13 (([]:List Int).length) c13) ?_; refine xpL (.int .i64 3) ?_; refine xpL (.slice p13 (([]:List Int).length) c13) ?_; refine xpL (.int .i64 3) ?_; refine xT ?_; go_upto_region 20 with fail; refine wp_region_list ?_; refine xpL (.pointer (some ⟨Rb,0,none⟩)) ?_
       have hlb:=(Below.refl w13.heap.size w13).alloc (xnR _) (.cells (row .u8 225 (bl (szs 225))).toArray 5); refine actL (w':=w13.alloc (.cells (row .u8 225 (bl (szs 225))).toArray 5)) (.slice (some ⟨w13.heap.size,0,none⟩) 225 225) rfl (by kernel_rfl) ?_; simp only [aP,lI,l0,lS]; replace hbz_a:=xnT hbz_a hlb.size; replace hbz_b:=xnT hbz_b hlb.size
       replace N_7:=NewF.below N_7 hlb; replace N_11:=NewF.below N_11 hlb; replace N_13:=NewF.below N_13 hlb; replace M:=M.box (row .u8 225 (bl (szs 225))).toArray 5 w13.heap.size rfl; clear hlb; generalize w13.alloc (.cells (row .u8 225 (bl (szs 225))).toArray 5)=w14 at M hbz_a hbz_b N_7 N_11 N_13 ⊢
       have hA_B14:w13.heap.size≤w13.heap.size:=xnR _
       generalize eB_:w13.heap.size=B14 at M hA_B14 ⊢
       replace hA_B14:w13.heap.size≤B14:=Nat.le_of_eq eB_
       clear eB_
       replace M:Mm w0 ((B14,row .u8 225 (bl (szs 225)))::(g,f'.map (Value.int .u8))::(B2,row .u8 16 z)::(bb2++(ba1++([]:List (Nat × List Value))))) w14:=M
       have Mp:=M.perm (pull0 ([(B14,row .u8 225 (bl (szs 225))),(g,f'.map (Value.int .u8)),(B2,row .u8 16 z)]:List (Nat × List Value)) bb2 (ba1++([]:List (Nat × List Value))))
       have key:=hK.tfs w0 _ _ (shAwait LD b f) bb2 _ hg hIb hWb (some ⟨B14,0,none⟩) 225 (szs 225) (by rw [szs_len]; decide) (by rw [szs_len]; decide) (fun e=>by cases e) (szs_byts 225) Mp (show SrcA _ _ _ _ _ from ⟨(by rw [szs_len]; exact M.srcRow mS 0 225 _ (by rw [List.drop_zero,List.take_length])),fun ad e _=>by cases e; exact Mp.beside mS⟩)
       rw [e2.out] at key
       simp only [shE,shB,shN] at key
       refine xcL key ?_; clear key; rintro e w15 ⟨⟨v15,rfl,N_15⟩,bb3,hI_,hsub,M',o1⟩
       have hq_:∀ b∈bb3.map Prod.fst,b<_:=fun b hb=>by
        obtain ⟨p,hp,rfl⟩:=List.mem_map.1 hb
        exact hqb _ (hsub p hp)
       have hs_15_a:=hbz_a; replace hbz_a:=xnT hbz_a o1.size; have hs_15_b:=hbz_b; replace hbz_b:=xnT hbz_b o1.size; replace N_7:=NewF.off N_7 o1 (fun b_ hb_=>xnL (hqb b_ hb_) hs_7_b); replace N_11:=NewF.off N_11 o1 (fun b_ hb_=>xnL (hqb b_ hb_) hs_11_b); replace N_13:=NewF.off N_13 o1 (fun b_ hb_=>xnL (hqb b_ hb_) hs_13_b); clear o1 hsub Mp M hIb hqb; have hIb:=hI_
       have hqb:=hq_; clear hI_ hq_
       replace hWb:ShkW (shAwait LD b f):=hwb
       have M:Mm w0 ((B14,row .u8 225 (bl (szs 225)))::(g,f'.map (Value.int .u8))::(B2,row .u8 16 z)::(bb3++(ba1++([]:List (Nat × List Value))))) w15:=M'.perm (pull0 ([(B14,row .u8 225 (bl (szs 225))),(g,f'.map (Value.int .u8)),(B2,row .u8 16 z)]:List (Nat × List Value)) bb3 (ba1++([]:List (Nat × List Value)))).symm
       clear M'
       try clear bb2
       obtain ⟨p15,c15,rfl,hcc_15,hnn_15,_,_⟩:=id N_15
       refine xeL ?_; refine xpL (.tuple #[.slice p15 (([]:List Int).length) c15,.int .i64 2]) ?_; refine xpL (.slice p15 (([]:List Int).length) c15) ?_; refine xpL (.int .i64 2) ?_; refine xpL (.slice p15 (([]:List Int).length) c15) ?_; refine xpL (.int .i64 2) ?_; refine xT ?_; go_upto_region 21 with fail; refine wp_region_list ?_; refine xpL (.pointer (some ⟨Rb,0,none⟩)) ?_
       have Mp:=M.perm (pull0 ([(B14,row .u8 225 (bl (szs 225))),(g,f'.map (Value.int .u8)),(B2,row .u8 16 z)]:List (Nat × List Value)) bb3 (ba1++([]:List (Nat × List Value)))); have key:=hK.kys w0 _ _ (shAwait LD b f) bb3 _ hg hIb hWb Mp
       rw [k0.out,d0.out] at key
       clear Mp; refine xcL (key) ?_; rintro e w16 ⟨rfl,l⟩; replace M:=M.call l; replace hbz_a:=xnT hbz_a l.size; replace hbz_b:=xnT hbz_b l.size; replace N_7:=NewF.below N_7 l; replace N_11:=NewF.below N_11 l; replace N_13:=NewF.below N_13 l; replace N_15:=NewF.below N_15 l; clear l; refine xeL ?_; clear key
       refine xpL (.tuple #[.agg ([row .u8 32 (fun _=>0),row .u8 32 (fun _=>0)].flatten).toArray,.bool false]) ?_; refine xpL (.agg ([row .u8 32 (fun _=>0),row .u8 32 (fun _=>0)].flatten).toArray) ?_; refine xpL (.bool false) ?_; have hnew:=Below.refl w16.heap.size w16
       have hlb:=(Below.refl w16.heap.size w16).alloc (xnR _) (.cells ([row .u8 32 (fun _=>0),row .u8 32 (fun _=>0)].flatten).toArray 41); refine actL (w':=w16.alloc (.cells ([row .u8 32 (fun _=>0),row .u8 32 (fun _=>0)].flatten).toArray 41)) (.pointer (some ⟨w16.heap.size,0,none⟩)) rfl (by kernel_rfl) ?_; simp only [aP,lI,l0,lS]
       replace hnew:=hnew.trans (hlb.mono hnew.size); replace M:=M.box ([row .u8 32 (fun _=>0),row .u8 32 (fun _=>0)].flatten).toArray 41 w16.heap.size rfl; clear hlb; generalize w16.alloc (.cells ([row .u8 32 (fun _=>0),row .u8 32 (fun _=>0)].flatten).toArray 41)=w17 at M hnew ⊢
       have hA_B17:w16.heap.size≤w16.heap.size:=xnR _
       generalize eB_:w16.heap.size=B17 at M hA_B17 ⊢
       replace hA_B17:w16.heap.size≤B17:=Nat.le_of_eq eB_
       clear eB_
       replace M:Mm w0 ((B17,[row .u8 32 (fun _=>0),row .u8 32 (fun _=>0)].flatten)::(B14,row .u8 225 (bl (szs 225)))::(g,f'.map (Value.int .u8))::(B2,row .u8 16 z)::(bb3++(ba1++([]:List (Nat × List Value))))) w17:=M
       refine skipOpL rfl (storeP ([row .u8 32 (fun _=>0),row .u8 32 (fun _=>0)].flatten) B17 0 41 _ _ rfl rfl rfl (M.thereP mS 0 64 (by rw [flat_len _ [32,32] (by kernel_rfl)]; decide)) (by rw [List.size_toArray,flat_len _ [32,32] (by kernel_rfl)]; kernel_rfl) (flat_one _ (fun p_ hp_=>by
        simp only [List.mem_cons,List.not_mem_nil,or_false] at hp_
        rcases hp_ with rfl | rfl <;> first | exact row_one .u8 32 _ | exact pcs12_one _ | (intro u hu; obtain rfl:=xm1 hu; rfl)))) ?_
       simp only [Act.put]; replace M:=M.setAll ([row .u8 32 (fun _=>0),row .u8 32 (fun _=>0)].flatten) (by first | (rw [flat_len _ [32,32] (by kernel_rfl),flat_len _ [32,32] (by kernel_rfl)]; done) | (rw [flat_len _ [32,32] (by kernel_rfl)]; done)); replace hnew:=below_setAll hnew B17 (by have:=hnew.size; omega) 0 ([row .u8 32 (fun _=>0),row .u8 32 (fun _=>0)].flatten)
       generalize w17.setCells B17 0 ([row .u8 32 (fun _=>0),row .u8 32 (fun _=>0)].flatten)=w18 at M hnew ⊢; refine xpL (.bool false) ?_; refine xT ?_; replace hbz_a:=xnT hbz_a hnew.size; replace hbz_b:=xnT hbz_b hnew.size; replace N_7:=NewF.below N_7 hnew; replace N_11:=NewF.below N_11 hnew; replace N_13:=NewF.below N_13 hnew; replace N_15:=NewF.below N_15 hnew; clear hnew
       go_upto_region 22 with fail; refine wp_region_list ?_; refine xpL (.pointer (some ⟨Rb,0,none⟩)) ?_; refine xpL (.slice p7 ((m1).length) c7) ?_
       have Mp:=M.perm (pull0 ([(B17,[row .u8 32 (fun _=>0),row .u8 32 (fun _=>0)].flatten),(B14,row .u8 225 (bl (szs 225))),(g,f'.map (Value.int .u8)),(B2,row .u8 16 z)]:List (Nat × List Value)) bb3 (ba1++([]:List (Nat × List Value))))
       have key:=hK.tfs w0 _ _ (shAwait LD b f) bb3 _ hg hIb hWb p7 c7 m1 (by omega) hcc_7 hnn_7 y1 Mp (NewF.srcA N_7 (fun b_ hb_=>xnL (hqb b_ hb_) hs_7_b))
       rw [h2.out] at key
       simp only [shE,shB,shN] at key
       refine xcL key ?_; clear key; rintro e w19 ⟨⟨v19,rfl,N_19⟩,bb4,hI_,hsub,M',o1⟩
       have hq_:∀ b∈bb4.map Prod.fst,b<_:=fun b hb=>by
        obtain ⟨p,hp,rfl⟩:=List.mem_map.1 hb
        exact hqb _ (hsub p hp)
       have hs_19_a:=hbz_a; replace hbz_a:=xnT hbz_a o1.size; have hs_19_b:=hbz_b; replace hbz_b:=xnT hbz_b o1.size; replace N_7:=NewF.off N_7 o1 (fun b_ hb_=>xnL (hqb b_ hb_) hs_7_b); replace N_11:=NewF.off N_11 o1 (fun b_ hb_=>xnL (hqb b_ hb_) hs_11_b); replace N_13:=NewF.off N_13 o1 (fun b_ hb_=>xnL (hqb b_ hb_) hs_13_b)
       replace N_15:=NewF.off N_15 o1 (fun b_ hb_=>xnL (hqb b_ hb_) hs_15_b); clear o1 hsub Mp M hIb hqb; have hIb:=hI_; have hqb:=hq_; clear hI_ hq_
       replace hWb:ShkW xB1:=hwxB1
       have M:Mm w0 ((B17,[row .u8 32 (fun _=>0),row .u8 32 (fun _=>0)].flatten)::(B14,row .u8 225 (bl (szs 225)))::(g,f'.map (Value.int .u8))::(B2,row .u8 16 z)::(bb4++(ba1++([]:List (Nat × List Value))))) w19:=M'.perm (pull0 ([(B17,[row .u8 32 (fun _=>0),row .u8 32 (fun _=>0)].flatten),(B14,row .u8 225 (bl (szs 225))),(g,f'.map (Value.int .u8)),(B2,row .u8 16 z)]:List (Nat × List Value)) bb4 (ba1++([]:List (Nat × List Value)))).symm
       clear M'
       try clear bb3
       obtain ⟨p19,c19,rfl,hcc_19,hnn_19,_,_⟩:=id N_19
       refine xeL ?_; refine xpL (.tuple #[.slice p19 ((tx).length) c19,.int .i64 0]) ?_; refine xpL (.slice p19 ((tx).length) c19) ?_; refine xpL (.int .i64 0) ?_; refine xpL (.slice p19 ((tx).length) c19) ?_; refine xpL (.int .i64 0) ?_; refine xT ?_; go_upto_region 23 with fail; refine wp_region_list ?_; refine xpL (.int .i64 70) ?_
       refine xaL (.bool true) (eqlI .i64 _ _ _ _ _ _ rfl rfl rfl true (by decide) _) ?_; refine xpL (.bool true) ?_; refine xpL (.int .i64 3) ?_; refine xaL (.bool true) (eqlI .i64 _ _ _ _ _ _ rfl rfl rfl true (by decide) _) ?_; refine xpL (.bool true) ?_; refine xpL (.bool true) ?_; refine xpL (.int .i64 2) ?_; refine xaL (.bool true) (eqlI .i64 _ _ _ _ _ _ rfl rfl rfl true (by decide) _) ?_
       refine xpL (.bool true) ?_; refine xpL (.bool true) ?_; refine xpL (.bool false) ?_; refine xpL (.bool true) ?_; refine xpL (.bool true) ?_; refine xpL (.bool true) ?_; refine xpL (.int .i64 0) ?_; refine xaL (.bool true) (eqlI .i64 _ _ _ _ _ _ rfl rfl rfl true (by decide) _) ?_; refine xpL (.bool true) ?_; refine xpL (.bool true) ?_; refine xpL (.slice p19 ((tx).length) c19) ?_
       refine readL (.string (txt ((tx).length) (bl tx))) rfl (conv_txt 32 5 9 _ rfl Tryz.underlying32 Tryz.underlying5 Tryz.underlying9 p19 ((tx).length) c19 (bl tx) rfl _ (NewF.src N_19) (fun e=>by have h1:=hnn_19 e; have h2:=hcc_19; omega)) ?_; simp only [aP,lI,l0,lS]; refine xpL (.slice spT_ ((tx).length) capT_) ?_
       refine readL (.string (txt ((tx).length) (bl tx))) rfl (conv_txt 32 5 9 _ rfl Tryz.underlying32 Tryz.underlying5 Tryz.underlying9 spT_ ((tx).length) capT_ (bl tx) rfl _ (srcT_.below M.below (xnR _)) (fun e=>by have h1:=nilT_ e; have h2:=leT_; omega)) ?_; simp only [aP,lI,l0,lS]; refine xaL (.bool true) (eqlS _ _ _ _ _ _ rfl rfl rfl rfl _) ?_; refine xpL (.bool true) ?_
       refine xpL (.bool true) ?_; refine xT ?_; have hbel:=M.below; clear M hbz_a hbz_b N_7 N_11 N_13 N_15 N_19; go_wp2; go_ret
       exact ⟨rfl,hbel⟩
section
open Go.ChangeShapes Go.WideShapes Go.ChangeAt Go.WideMaps Go.WideElems Go.RowKit
def intAt:Option Value→Int
 | some (.int _ n)=>n
 | _=>0
theorem mapM_every {α β:Type} (g:α→Option β) (h:α→β):∀ l:List α,(∀ i∈l,g i=some (h i))→l.mapM g=some (l.map h)
 | [],_=>rfl
 | x::l,hh=>by
   rw [List.mapM_cons,hh x (by simp),mapM_every g h l (fun i hi=>hh i (by simp [hi]))]
   rfl
def litR {H:Type} (k:IntKind) (n:Nat) (f:Nat→Int):DataW H:=.agg ((List.range n).map fun j=>.lit (.int k (f j)))
section
variable {H:Type} {enc:TypeId × Value→H} {P:Program} {w:World} {base:Nat} {sp:Nat→Bool} {held:Bool}
theorem open_row {t e:TypeId} {n:Nat} {k:IntKind} (hu:P.underlying t=some (.array n e)) (he:P.underlying e=some (.int k)) (hct:P.cellsOf t=n) (hce:P.cellsOf e=1) {fuel:Nat} {cs:List Value} {x:DataW H × List MemPlace}
 (h:DataW.trod enc P w base sp held fuel t cs=some x):∃ f:Nat→Int,(∀ j,j<n→(Lit.int k (f j)).wf=true)∧cs=row k n f∧x=(litR k n f,[]):=by
 obtain ⟨xs,m,_,hx,hl,hn,hel⟩:=DataW.trod_array hu h
 rw [hct] at hl
 have hcell:∀ i,i<n→∃ v,cs[i]?=some (.int k v)∧xs[i]?=some (.lit (.int k v),[])∧(Lit.int k v).wf=true:=by
  intro i hi; have e1:=hel i hi
  rw [hce,Nat.mul_one] at e1
  have hxi:i<xs.length:=by omega
  rw [List.getElem?_eq_getElem hxi] at e1
  obtain ⟨v,e2,e3,e4⟩:=DataW.trod_int he e1
  refine ⟨v,?_,by rw [List.getElem?_eq_getElem hxi,e3],e4⟩
  have hci:i<cs.length:=by omega
  have e5:(cs.drop i).take 1=[cs[i]]:=by rw [List.drop_eq_getElem_cons hci,List.take_succ_cons,List.take_zero]
  rw [e5] at e2
  rw [List.getElem?_eq_getElem hci]
  simpa using e2
 refine ⟨fun i=>intAt cs[i]?,fun i hi=>?_,?_,?_⟩
 · obtain ⟨v,e1,_,e3⟩:=hcell i hi
   dsimp only
   rw [e1]; exact e3
 · refine List.ext_getElem? fun i=>?_
   by_cases hi:i<n
   · obtain ⟨v,e1,_,_⟩:=hcell i hi
     rw [row_get k n _ i hi,e1]; rfl
   · rw [List.getElem?_eq_none (by omega),List.getElem?_eq_none (by rw [row_length]; omega)]
 · rw [hx]
   congr 1
   · unfold litR
     congr 1
     refine List.ext_getElem? fun i=>?_
     by_cases hi:i<n
     · obtain ⟨v,e1,e2,_⟩:=hcell i hi
       rw [List.getElem?_map,e2,List.getElem?_map,List.getElem?_range hi]
       simp only [Option.map_some]
       rw [e1]
       rfl
     · rw [List.getElem?_eq_none (by simp [hn]; omega),List.getElem?_eq_none (by simp; omega)]
   · refine List.flatMap_eq_nil_iff.2 fun y hy=>?_
     obtain ⟨i,hi⟩:=List.mem_iff_getElem?.1 hy
     have hin:i<n:=by have:=(List.getElem?_eq_some_iff.1 hi).1; omega
     obtain ⟨v,_,e2,_⟩:=hcell i hin
     rw [e2] at hi
     rw [← Option.some.inj hi]
theorem shut_row {t e:TypeId} {n:Nat} {k:IntKind} (hu:P.underlying t=some (.array n e)) (he:P.underlying e=some (.int k)) (hct:P.cellsOf t=n) (hce:P.cellsOf e=1) (f:Nat→Int) (hf:∀ j,j<n→(Lit.int k (f j)).wf=true) :
 DataW.trod enc P w base sp held 2 t (row k n f)=some (litR k n f,[]):=by
 show DataW.trod enc P w base sp held (1+1) t (row k n f)=_
 unfold DataW.trod
 rw [hu]
 simp only [row_length,hct,if_true,hce,Nat.mul_one]
 rw [mapM_every _ (fun i=>((.lit (.int k (f i)):DataW H),([]:List MemPlace))) (List.range n) (fun i hi=>?_)]
 · simp only [Option.map_some,List.map_map,litR]
   congr 2
   exact List.flatMap_eq_nil_iff.2 fun y hy=>by
    obtain ⟨i,_,rfl⟩:=List.mem_map.1 hy
    rfl
 · have hi':=List.mem_range.1 hi
   have e1:((row k n f).drop i).take 1=[.int k (f i)]:=by
    have hl:i<(row k n f).length:=by rw [row_length]; exact hi'
    rw [List.drop_eq_getElem_cons hl]
    have:=row_get k n f i hi'
    rw [List.getElem?_eq_getElem hl] at this
    simp [Option.some.inj this]
   rw [e1]
   simp [DataW.trod,he,hf i hi']
theorem open_array {t e:TypeId} {n:Nat} {k:IntKind} (hu:P.underlying t=some (.array n e)) (he:P.underlying e=some (.int k)) (hct:P.cellsOf t=n) (hce:P.cellsOf e=1) {r:Reach} {b0:Nat} {v:Value} {d:DataW H} {p:List MemPlace}
 (hv:Value.okWide P w r b0 t v) (h:DataW.Trod enc P w base sp held t v d p):∃ f:Nat→Int,(∀ j,j<n→(Lit.int k (f j)).wf=true)∧v=.agg (row k n f).toArray∧d=litR k n f∧p=[]:=by
 simp only [Value.okWide,hu] at hv
 obtain ⟨cs,rfl,_,_⟩:=hv
 obtain ⟨fuel,hf⟩:=h
 obtain ⟨f,h1,h2,h3⟩:=open_row hu he hct hce hf
 simp only [Prod.mk.injEq] at h3
 refine ⟨f,h1,?_,h3.1,h3.2⟩
 congr 1
 exact Array.toList_inj.1 h2
theorem shut_array {t e:TypeId} {n:Nat} {k:IntKind} (hu:P.underlying t=some (.array n e)) (he:P.underlying e=some (.int k)) (hct:P.cellsOf t=n) (hce:P.cellsOf e=1) (f:Nat→Int) (hf:∀ j,j<n→(Lit.int k (f j)).wf=true) :
 DataW.Trod enc P w base sp held t (.agg (row k n f).toArray) (litR k n f) []:=⟨2,shut_row hu he hct hce f hf⟩
end
theorem wf_u8 {n:Int}:(Lit.int .u8 n).wf=true↔0≤n∧n<256:=by
 simp [Lit.wf,IntKind.min,IntKind.max,IntKind.signed,IntKind.bits]
 omega
theorem litR_inj {H:Type} {k:IntKind} {n:Nat} {f g:Nat→Int} (h:(litR k n f:DataW H)=litR k n g) (j:Nat) (hj:j<n):f j=g j:=by
 unfold litR at h
 injection h with h
 have e:=congrArg (fun l=>l[j]?) h
 simp only [List.getElem?_map,List.getElem?_range hj,Option.map_some,Option.some.injEq] at e
 injection e with e
 injection e
end
section
open Go.ChangeShapes Go.WideShapes Go.ChangeAt Go.WideMaps Go.WideElems Go.RowKit
theorem own:ownKnob Tryz.prog.godebug=none:=by kernel_rfl
theorem cellsByte:Tryz.prog.cellsOf 5=1:=by kernel_rfl
theorem cellsTag:Tryz.prog.cellsOf 51=16:=by kernel_rfl
def tagNought:Value:=.agg zu8_16
theorem laidOut:laidOutB Tryz.prog=true:=by kernel_rfl
structure Fit (H:Type) (Q:TypeId→DataW H→Prop) (m:Nat):Prop where
 bytes:∀ a b,Q 32 (.slice a b)→a.length≤m
section
variable {H:Type} {enc:TypeId × Value→H} {W:World} {Q:TypeId→DataW H→Prop} {m:Nat}
theorem field_of {fs:Array Field} {l:List (TypeId × Nat)} (h:fs.toList.map (fun f=>(f.type,f.offset))=l) (i:Nat) (t:TypeId) (o:Nat) (hi:l[i]?=some (t,o)):∃ f,fs[i]?=some f∧f.type=t∧f.offset=o:=by
 rw [← h,List.getElem?_map] at hi
 obtain ⟨f,h1,h2⟩:=Option.map_eq_some_iff.1 hi
 injection h2 with h2 h3
 exact ⟨f,by simpa using h1,h2,h3⟩
theorem open_octets (F:Fit H Q m) {fuel:Nat} {cs:List Value} {x:DataW H × List MemPlace} (h:DataW.trod enc Tryz.prog W 0 (fun _=>true) true fuel 32 cs=some x) (hq:Q 32 x.1) :
 ∃ (sp:Option Addr) (cap:Nat) (bs:List Int),cs=[.slice sp bs.length cap]∧Src W sp bs.length (bl bs)∧bs.length≤cap∧(sp=none→cap=0)∧bs.length≤m∧Byts bs:=by
 rcases open_ints Tryz.underlying32 Tryz.underlying5 cellsByte h with ⟨rfl,rfl⟩ | ⟨ad,len,cap,zs,rfl,_,hle,hmax,hall,rfl,hcell,hwf⟩
 · exact ⟨none,0,[],rfl,fun j hj=>absurd hj (xnZ j),xnR _,fun _=>rfl,Nat.zero_le _,fun x hx=>(by cases hx)⟩
 · simp only [if_true] at hall
   have hm:=F.bytes _ _ hq
   simp only [lits,List.length_map,List.length_take] at hm
   have hl:(zs.take len).length=len:=by rw [List.length_take]; omega
   refine ⟨some ad,cap,zs.take len,by rw [hl],fun j hj=>⟨ad,rfl,?_⟩,by rw [hl]; exact hle,fun e=>(by cases e),by rw [hl]; omega,fun y hy=>wf_u8.1 (hwf y (List.mem_of_mem_take hy))⟩
   rw [hl] at hj
   rw [bl_take _ _ _ hj]
   exact hcell j (by omega)
end
def Wok {H:Type} (t:TypeId) (d:DataW H):Prop:=∀ n∈d.weights Tryz.prog t,n≤reachBytes
theorem fitWok (H:Type):Fit H Wok 140737488351232 where
 bytes a b h:=by
  have h1:=h ((a.length+b.length)*Tryz.prog.bytesOf 5) (by simp only [DataW.weights,Tryz.underlying32]; exact mS)
  rw [show Tryz.prog.bytesOf 5=1 by kernel_rfl] at h1
  simp only [reachBytes] at h1
  omega
theorem cellsKey13:Tryz.prog.cellsOf 23=32:=by kernel_rfl
theorem cellsBool13:Tryz.prog.cellsOf 4=1:=by kernel_rfl
theorem fields13:(Tryz.prog.fieldsOf 25).toList.map (fun f=>(f.type,f.offset))=[(23,0),(23,32),(23,64),(23,96),(4,128),(23,129)]:=by kernel_rfl
theorem split6 (cs:List Value) (hl:cs.length=161):cs=[(cs.drop 0).take 32,(cs.drop 32).take 32,(cs.drop 64).take 32,(cs.drop 96).take 32,(cs.drop 128).take 1,(cs.drop 129).take 32].flatten:=by
 have h:∀ (o n:Nat) (r:List Value),r=cs.drop (o+n)→cs.drop o=(cs.drop o).take n++r:=fun o n r e=>by
  rw [e,← List.drop_drop,List.take_append_drop]
 have e6:cs.drop 129=(cs.drop 129).take 32++[]:=h 129 32 [] (by rw [List.drop_eq_nil_of_le (by omega)])
 have e5:=h 128 1 _ e6.symm; have e4:=h 96 32 _ e5.symm; have e3:=h 64 32 _ e4.symm; have e2:=h 32 32 _ e3.symm; have e1:=h 0 32 _ e2.symm
 rw [List.drop_zero] at e1
 exact e1
def l32 (o:Nat→Int):List Int:=(List.range 32).map o
theorem l32_row (o:Nat→Int):row .u8 32 o=row .u8 32 (bl (l32 o)):=row_congr .u8 32 fun j hj=>(bl_range 32 o j hj).symm
theorem l32_byts {o:Nat→Int} (h:In 256 32 o):Byts (l32 o):=fun x hx=>by
 obtain ⟨j,hj,rfl⟩:=List.mem_map.1 hx
 exact h j (List.mem_range.1 hj)
theorem in_u8 {n:Nat} {f:Nat→Int} (h:∀ j,j<n→(Lit.int .u8 (f j)).wf=true):In 256 n f:=fun j hj=>wf_u8.1 (h j hj)
theorem arg_ends {H:Type} {enc:TypeId × Value→H} {W:World} {r:Reach} {b0:Nat} {v:Value} {d:DataW H} {p:List MemPlace} (hv:Value.okWide Tryz.prog W r b0 25 v) (h:DataW.Trod enc Tryz.prog W 0 (fun _=>true) true 25 v d p) :
 ∃ (a e b f:Nat→Int) (wr:Bool) (O:List Int),v=.agg ([row .u8 32 a,row .u8 32 e,row .u8 32 b,row .u8 32 f,[.bool wr],row .u8 32 (bl O)].flatten).toArray∧In 256 32 a∧In 256 32 e∧In 256 32 b∧In 256 32 f∧O.length=32∧Byts O:=by
 have hu:Tryz.prog.underlying 25=some (.struct (Tryz.prog.fieldsOf 25)):=by kernel_rfl
 simp only [Value.okWide,hu] at hv
 obtain ⟨cs,rfl,_⟩:=hv
 obtain ⟨fuel,h⟩:=h
 obtain ⟨xs,n,_,_,hl,hlen,hf⟩:=DataW.trod_struct (fs:=Tryz.prog.fieldsOf 25) (by kernel_rfl) h
 have hs:xs.length=6:=by rw [hlen]; kernel_rfl
 rw [show Tryz.prog.cellsOf 25=161 by kernel_rfl] at hl
 have hk:∀ i o,i<6→[(23,0),(23,32),(23,64),(23,96),(4,128),(23,129)][i]?=some (23,o)→∃ g:Nat→Int,((Value.agg cs).cells.toList.drop o).take 32=row .u8 32 g∧In 256 32 g:=fun i o hi hio=>by
  obtain ⟨f,e,t,ho⟩:=field_of fields13 i 23 o hio
  have g:=hf i f e
  rw [t,ho,cellsKey13,List.getElem?_eq_getElem (by omega)] at g
  obtain ⟨x,w,q,_⟩:=open_row Tryz.underlying23 Tryz.underlying5 cellsKey13 cellsByte g
  exact ⟨x,q,in_u8 w⟩
 obtain ⟨a,qa,ia⟩:=hk 0 0 (by decide) rfl
 obtain ⟨e,qe,ie⟩:=hk 1 32 (by decide) rfl
 obtain ⟨b,qb,ib⟩:=hk 2 64 (by decide) rfl
 obtain ⟨f,qf,jf⟩:=hk 3 96 (by decide) rfl
 obtain ⟨o,qo,io⟩:=hk 5 129 (by decide) rfl
 obtain ⟨fb,eb,tb,ob⟩:=field_of fields13 4 4 128 rfl
 have g:=hf 4 fb eb
 rw [tb,ob,cellsBool13,List.getElem?_eq_getElem (by omega)] at g
 obtain ⟨wr,qw,_⟩:=DataW.trod_bool Tryz.underlying4 g
 have key:=split6 _ hl
 rw [qa,qe,qb,qf,qw,qo,l32_row o] at key
 refine ⟨a,e,b,f,wr,l32 o,?_,ia,ie,ib,jf,by unfold l32; rw [List.length_map,List.length_range],l32_byts io⟩
 exact congrArg Value.agg (by rw [← key]; rfl)
section
variable {H:Type} {enc:TypeId × Value→H} {W:World} {Q:TypeId→DataW H→Prop} {m:Nat}
theorem again {t:TypeId} (hr:Tryz.prog.readableRec t=true) (hrow:t<Tryz.prog.types.size) {v:Value} {d:DataW H} {p:List MemPlace} (h:DataW.Trod enc Tryz.prog W 0 (fun _=>true) true t v d p) (W':World) (hb:Below W.heap.size W W'):DataW.Trod enc Tryz.prog W' 0 (fun b=>decide (b<W.heap.size)) true t v d p :=
 hb.trod laidOut hr hrow h (by obtain ⟨fuel,hf⟩:=h; exact fun x hx=>DataW.trod_lt _ _ _ _ hf x hx)
theorem arg_bytes (F:Fit H Q m) {r:Reach} {b0:Nat} {v:Value} {d:DataW H} {p:List MemPlace} (hv:Value.okWide Tryz.prog W r b0 32 v) (h:DataW.Trod enc Tryz.prog W 0 (fun _=>true) true 32 v d p) (hq:Q 32 d) :
 ∃ (sp:Option Addr) (cap:Nat) (bs:List Int),v=.slice sp bs.length cap∧Src W sp bs.length (bl bs)∧bs.length≤cap∧(sp=none→cap=0)∧bs.length≤m∧Byts bs:=by
 obtain ⟨sp,len,cap,rfl⟩:=okWide_slice Tryz.underlying32 hv
 obtain ⟨fuel,hf⟩:=h
 obtain ⟨sp',cap',bs,h1,h2⟩:=open_octets F hf hq
 simp [Value.cells] at h1
 obtain ⟨rfl,rfl,rfl⟩:=h1
 exact ⟨_,_,bs,rfl,h2⟩
end
end
section
open Go.ChangeShapes Go.WideShapes Go.ChangeAt Go.WideMaps Go.WideElems Go.RowKit
theorem open_table {H:Type} {enc:TypeId × Value→H} {P:Program} {w:World} {base:Nat} {sp:Nat→Bool} {held:Bool} {fuel:Nat} {cs:List Value} {q:List MemPlace} {d:DataW H} {t r e:TypeId} {k:IntKind} {n m:Nat} (hu:P.underlying t=some (.array n r)) (hr:P.underlying r=some (.array m e)) (he:P.underlying e=some (.int k)) (cr:P.cellsOf r=m) (ce:P.cellsOf e=1) (hm:0<m)
 (g:Nat→Int) (hd:d=.agg ((List.range n).map fun i=>litR k m (fun j=>g (m*i+j)))) (h:DataW.trod enc P w base sp held fuel t cs=some (d,q)):∀ j,j<n*m→cs[j]?=some (.int k (g j)):=by
 obtain ⟨xs,_,_,hx,_,hn,hel⟩:=DataW.trod_array hu h
 intro j hj
 have hi:j/m<n:=(Nat.div_lt_iff_lt_mul hm).2 hj
 have hjm:j%m<m:=Nat.mod_lt _ hm
 have hdm:j/m*m+j%m=j:=Nat.div_add_mod' j m
 have e1:=hel (j/m) hi
 rw [cr] at e1
 have hxi:j/m<xs.length:=by rw [hn]; exact hi
 rw [List.getElem?_eq_getElem hxi] at e1
 obtain ⟨f,_,e2,e3⟩:=open_row hr he cr ce e1
 simp only [Prod.mk.injEq] at hx
 rw [hd] at hx
 have hx1:((List.range n).map fun i=>(litR k m (fun j=>g (m*i+j)):DataW H))=xs.map (·.1):=by
  have:=hx.1
  injection this
 have e6:(xs.map (·.1))[j/m]?=some (litR k m f):=by rw [List.getElem?_map,List.getElem?_eq_getElem hxi,e3]; rfl
 rw [← hx1,List.getElem?_map,List.getElem?_range hi] at e6
 simp only [Option.map_some,Option.some.injEq] at e6
 have e7:=litR_inj e6 (j%m) hjm
 have e8:((cs.drop (j/m*m)).take m)[j%m]?=some (.int k (f (j%m))):=by rw [e2]; exact row_get _ _ _ _ hjm
 rw [List.getElem?_take,if_pos hjm,List.getElem?_drop,hdm] at e8
 rw [e8,← e7,Nat.mul_comm m,hdm]
end
end Go.Proofs.YtklnibmfpcmeeaaGreatDoor
