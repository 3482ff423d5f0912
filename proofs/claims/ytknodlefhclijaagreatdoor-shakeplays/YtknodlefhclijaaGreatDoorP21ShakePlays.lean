/- Texts of Zo LawShakePlays Opn Open13 Tb Door13, joined. -/
import Derived.Test.YtknodlefhclijaaGreatDoorP20ShakePlays
import Derived.Deep.DeepCutAuto
import Derived.ProofKit
import Derived.LaidMore
import Derived.OpenShut
import Derived.Deep.Strs
import Derived.Stop.Joined
import Derived.Test.YtknodlefhclijaaGreatDoorRows
set_option maxRecDepth 100000
set_option maxHeartbeats 64000000
namespace Go.Proofs.YtknodlefhclijaaGreatDoor
open Go.RowKit
section
def Tx13 (w0:World) (X:List (Nat × List Value)) (v:Value) (b:List Int) (w:World):Prop :=
 ∃ sp cap,v=.slice sp b.length cap∧b.length≤cap∧(sp=none→cap=0)∧Src w sp b.length (bl b)∧∀ ad,sp=some ad→0<b.length→ad.block<w0.heap.size∨(ad.block,[])∈X
def Al13 (w0:World) (X:List (Nat × List Value)) (T:List (Value × List Int)) (w:World):Prop:=∀ p∈T,Tx13 w0 X p.1 p.2 w
def P13 (I:Value→Shk→List (Nat × List Value)→Prop) (w0:World) (va vc vb vd:Value) (X:List (Nat × List Value)) (s t:Shk) (w:World):Prop :=
 ∃ Rc Rd ga gb Qc Qd u,vc=.pointer (some ⟨Rc,0,none⟩)∧vd=.pointer (some ⟨Rd,0,none⟩)∧yY s∧yY t∧yY u∧I va s ga∧I vb u gb∧Mm w0 (X++(ga++((Rc,shc t Qc)::(Qc,stc t.st)::(gb++[(Rd,shc u Qd),(Qd,stc u.st)])))) w
theorem vV {α:Type} (x y z:List α):(x++(y++z)).Perm (y++(x++z)):=by
 rw [← List.append_assoc,← List.append_assoc]
 exact List.perm_append_comm.append_right z
theorem P13.below {I:Value→Shk→List (Nat × List Value)→Prop} {w0 w:World} {va vc vb vd:Value} {X:List (Nat × List Value)} {s t:Shk} (h:P13 I w0 va vc vb vd X s t w):Below w0.heap.size w0 w:=by
 obtain ⟨_,_,_,_,_,_,_,_,_,_,_,_,_,_,M⟩:=h
 exact M.below
theorem P13.swap {I:Value→Shk→List (Nat × List Value)→Prop} {w0 w:World} {va vc vb vd:Value} {X:List (Nat × List Value)} {s:Shk} (h:P13 I w0 va vc vb vd X s s w):∃ u,P13 I w0 vb vd va vc X u u w:=by
 obtain ⟨Rc,Rd,ga,gb,Qc,Qd,u,e1,e2,h1,_,h3,h4,h5,M⟩:=h
 refine ⟨u,Rd,Rc,gb,ga,Qd,Qc,s,e2,e1,h3,h3,h1,h5,h4,M.perm ((List.Perm.append_left X ?_))⟩
 have e:=vV (ga++[(Rc,shc s Qc),(Qc,stc s.st)]) (gb++[(Rd,shc u Qd),(Qd,stc u.st)]) []
 simpa only [List.append_assoc,List.cons_append,List.nil_append,List.append_nil] using e
theorem P13.call {I:Value→Shk→List (Nat × List Value)→Prop} {w0 w:World} {va vc vb vd:Value} {X:List (Nat × List Value)} {s t:Shk} {w':World} (h:P13 I w0 va vc vb vd X s t w) (l:Below w.heap.size w w'):P13 I w0 va vc vb vd X s t w':=by
 obtain ⟨Rc,Rd,ga,gb,Qc,Qd,u,e1,e2,h1,h2,h3,h4,h5,M⟩:=h
 exact ⟨Rc,Rd,ga,gb,Qc,Qd,u,e1,e2,h1,h2,h3,h4,h5,M.call l⟩
theorem Tx13.off {w0 w w':World} {X G R:List (Nat × List Value)} {v:Value} {b:List Int} (M:Mm w0 (X++(G++R)) w) (o:Off (G.map Prod.fst) w w') (h:Tx13 w0 X v b w):Tx13 w0 X v b w'∧∃ sp cap,v=.slice sp b.length cap∧b.length≤cap∧(sp=none→cap=0)∧SrcA (G.map Prod.fst) w sp b.length (bl b):=by
 obtain ⟨sp,cap,rfl,h1,h2,h3,h4⟩:=h
 have hA:SrcA (G.map Prod.fst) w sp b.length (bl b):=⟨h3,fun ad e hn hm=>by
  obtain ⟨p,hp,e2⟩:=List.mem_map.1 hm; rcases h4 ad e hn with h5 | h5
  · have:=(M.rows p (List.mem_append_right _ (List.mem_append_left _ hp))).2.1; omega
  exact (List.pairwise_append.1 M.apart).2.2 _ h5 p (List.mem_append_left _ hp) e2.symm⟩
 exact ⟨⟨sp,cap,rfl,h1,h2,(hA.off o).1,h4⟩,sp,cap,rfl,h1,h2,hA⟩
theorem Al13.call {w0 w w':World} {X:List (Nat × List Value)} {T:List (Value × List Int)} (h:Al13 w0 X T w) (l:Below w.heap.size w w'):Al13 w0 X T w':=fun p hp=>by
 obtain ⟨sp,cap,e,h1,h2,h3,h4⟩:=h p hp
 exact ⟨sp,cap,e,h1,h2,((show SrcA [] w sp _ _ from ⟨h3,fun _ _ _ h=>by cases h⟩).off (Off.of_below l)).1,h4⟩
theorem Al13.more {w0 w:World} {X Y:List (Nat × List Value)} {T:List (Value × List Int)} (h:Al13 w0 X T w) (hs:∀ p∈X,p∈Y):Al13 w0 Y T w:=fun p hp=>by
 obtain ⟨sp,cap,e,h1,h2,h3,h4⟩:=h p hp
 exact ⟨sp,cap,e,h1,h2,h3,fun ad e hn=>(h4 ad e hn).imp id (hs _)⟩
theorem Al13.cons {w0 w:World} {X:List (Nat × List Value)} {T:List (Value × List Int)} {v:Value} {b:List Int} (h:Tx13 w0 X v b w) (g:Al13 w0 X T w):Al13 w0 X ((v,b)::T) w:=fun p hp=>by
 rcases xc1 hp with rfl | hp
 · exact h
 · exact g p hp
theorem Tx13.old {w0 w:World} {X:List (Nat × List Value)} {b:List Int} {sp:Option Addr} {cap:Nat} (l:Below w0.heap.size w0 w) (h1:b.length≤cap) (h2:sp=none→cap=0) (h3:Src w0 sp b.length (bl b)):Tx13 w0 X (.slice sp b.length cap) b w :=
 ⟨sp,cap,rfl,h1,h2,h3.below l (xnR _),fun ad e hn=>by
  obtain ⟨ad',e',hc⟩:=h3 0 hn
  rw [e] at e'
  injection e' with e'
  subst e'
  have:=World.block_lt_of_cell? w0 _ hc
  rw [tT] at this
  exact .inl this⟩
theorem Mm.cons13 {w0 w:World} {L:List (Nat × List Value)} {g:Nat} (M:Mm w0 L w) (h0:∀ p∈L,p.1≠g) (h1:w0.heap.size≤g) (h2:g<w.heap.size):Mm w0 ((g,[])::L) w :=
 ⟨fun p hp=>by
  rcases xc1 hp with rfl | hp
  · exact ⟨fun j hj=>absurd hj (xnZ j),h1,h2⟩
  · exact M.rows p hp,List.pairwise_cons.2 ⟨fun p hp e=>h0 p hp e.symm,M.apart⟩,M.below⟩
theorem Mm.new13 {w0 w:World} {X L:List (Nat × List Value)} {z:Nat} {v:Value} {b:List Int} {T:List (Value × List Int)} (M:Mm w0 (X++L) w) (hz:∀ p∈X++L,p.1<z) (h0:w0.heap.size≤z) (hT:Al13 w0 X T w) (N:vA w z b v):∃ X',Mm w0 (X'++L) w∧Al13 w0 X' ((v,b)::T) w:=by
 obtain ⟨sp,cap,rfl,h1,h2,h3,h4⟩:=N
 cases sp with
 | none=>exact ⟨X,M,Al13.cons ⟨none,cap,rfl,h1,h2,h3,fun ad e=>by cases e⟩ hT⟩
 | some ad =>
   have h5:=h4 ad rfl; refine ⟨(ad.block,[])::X,M.cons13 (fun p hp e=>by have:=hz p hp; omega) JK h5.2,Al13.cons ⟨some ad,cap,rfl,h1,h2,h3,fun a e _=>?_⟩ (hT.more fun p hp=>mT _ hp)⟩; injection e with e
   subst e; exact .inr mS
theorem P13.new {I:Value→Shk→List (Nat × List Value)→Prop} {w0 w:World} {va vc vb vd:Value} {X:List (Nat × List Value)} {s t:Shk} {w':World} {T:List (Value × List Int)} {v:Value} {b:List Int} (h:P13 I w0 va vc vb vd X s t w) (hT:Al13 w0 X T w) (l:Below w.heap.size w w') (N:vA w' w.heap.size b v):∃ X',P13 I w0 va vc vb vd X' s t w'∧Al13 w0 X' ((v,b)::T) w':=by
 obtain ⟨Rc,Rd,ga,gb,Qc,Qd,u,e1,e2,h1,h2,h3,h4,h5,M⟩:=h
 obtain ⟨X',M',hT'⟩:=(M.call l).new13 (fun p hp=>(M.rows p hp).2.2) M.below.size (hT.call l) N
 exact ⟨X',⟨Rc,Rd,ga,gb,Qc,Qd,u,e1,e2,h1,h2,h3,h4,h5,M'⟩,hT'⟩
theorem x0h {s:Shk} {b:List Int} {k:Nat} (hw:yY s) (hb:Byts b):yY (shN s (sh4 LD k s b)):=by
 unfold sh4
 split
 · exact q2z hw b
 split
 · exact j5q hw b hb
 split
 · exact q2w hw b
 exact j5p hw b
theorem q3c {s:Shk} {b:List Int} {k:Nat} (hw:yY s) (hb:Byts b) (hk:k=0∨k=2) (he:shE (sh4 LD k s b)=0):Byts (shB (sh4 LD k s b))∧(shB (sh4 LD k s b)).length≤1000:=by
 rcases hk with rfl | rfl
 · change shE (shF LD s b)=0 at he; show Byts (shB (shF LD s b))∧(shB (shF LD s b)).length≤1000
   by_cases c1:s.role≠0∨s.step≠0
   · rw [gZ c1] at he; cases he
   by_cases c2:128<b.length
   · rw [mR c1 c2] at he; cases he
   cases e:shF LD s b with
   | error x=>exact ⟨fun y hy=>(by cases hy),Nat.zero_le _⟩
   | ok p =>
     obtain ⟨m,A⟩:=p; obtain ⟨l1,y1,_⟩:=q3a e hb hw; exact ⟨y1,by show m.length≤1000; omega⟩
 change shE (shS LD s b)=0 at he
 show Byts (shB (shS LD s b))∧(shB (shS LD s b)).length≤1000
 by_cases c1:s.role≠1∨s.step≠1
 · rw [kN c1] at he; cases he
 by_cases c2:128<b.length
 · rw [mF c1 c2] at he; cases he
 cases e:shS LD s b with
 | error x=>exact ⟨fun y hy=>(by cases hy),Nat.zero_le _⟩
 | ok p =>
   obtain ⟨m,A⟩:=p; obtain ⟨l1,y1,_⟩:=q2x e hb hw; exact ⟨y1,by show m.length≤1000; omega⟩
theorem x3m {I:Value→Shk→List (Nat × List Value)→Prop} (hK:dZ I) {w0 w:World} {va vc vb vd:Value} {X:List (Nat × List Value)} {s t:Shk} {T:List (Value × List Int)} {v:Value} {b:List Int} (hg:HGlob13 w0) (k:Nat) (hk:k<4) (h:P13 I w0 va vc vb vd X s t w) (hT:Al13 w0 X T w) (hv:(v,b)∈T) (hb:Byts b) (hlen:b.length≤140737488351232) :
 Calls Tryz.prog 7 #[va,.int .i64 (k:Int),v] w fun e w'=>∃ u X',e=.returned (.tuple #[u,.int .i64 (shE (sh4 LD k s b))])∧P13 I w0 va vc vb vd X' (shN s (sh4 LD k s b)) t w'∧Al13 w0 X' ((u,shB (sh4 LD k s b))::T) w':=by
 obtain ⟨Rc,Rd,ga,gb,Qc,Qd,u,e1,e2,h1,h2,h3,h4,h5,M⟩:=h
 obtain ⟨sp,cap,rfl,hle,hnil,hA⟩:∃ sp cap,v=.slice sp b.length cap∧b.length≤cap∧(sp=none→cap=0)∧SrcA (ga.map Prod.fst) w sp b.length (bl b):=(Tx13.off M (Off.refl _ _) (hT _ hv)).2
 refine (q5o hK k hk w0 w va s ga _ hg h4 h1 sp cap b hlen hle hnil hb (M.perm (vV X ga _)) hA).mono ?_; rintro e w' ⟨⟨x,rfl,N⟩,bs,hI,hsub,M',oo⟩; have M2:=M'.perm (vV bs X _)
 obtain ⟨X',M3,hT'⟩:=M2.new13 (z:=w.heap.size) (fun p hp=>by
  rcases List.mem_append.1 hp with hp | hp
  · exact (M.rows p (List.mem_append_left _ hp)).2.2
  rcases List.mem_append.1 hp with hp | hp
  · obtain ⟨q,hq,e⟩:=List.mem_map.1 (hsub p hp); rw [← e]; exact (M.rows q (List.mem_append_right _ (List.mem_append_left _ hq))).2.2
  exact (M.rows p (List.mem_append_right _ (List.mem_append_right _ hp))).2.2) M.below.size (fun p hp=>(Tx13.off M oo (hT p hp)).1) N
 exact ⟨x,X',rfl,⟨Rc,Rd,bs,gb,Qc,Qd,u,e1,e2,x0h h1 hb,h2,h3,hI,h5,M3⟩,hT'⟩
theorem q8e {I:Value→Shk→List (Nat × List Value)→Prop} {w0 w:World} {va vc vb vd:Value} {X:List (Nat × List Value)} {s t:Shk} {T:List (Value × List Int)} {v:Value} {b:List Int} (k:Nat) (hk:k<4) (h:P13 I w0 va vc vb vd X s t w) (hT:Al13 w0 X T w) (hv:(v,b)∈T) (hb:Byts b) (hlen:b.length≤140737488351232) :
 Calls Tryz.prog 8 #[vc,.int .i64 (k:Int),v] w fun e w'=>∃ u,e=.returned (.tuple #[u,.int .i64 (shE (sh4 LD k t b))])∧vA w' w.heap.size (shB (sh4 LD k t b)) u∧P13 I w0 va vc vb vd X s (shN t (sh4 LD k t b)) w'∧Al13 w0 X T w':=by
 obtain ⟨Rc,Rd,ga,gb,Qc,Qd,u,rfl,e2,h1,h2,h3,h4,h5,M⟩:=h
 have M1:Mm w0 (X++([(Rc,shc t Qc),(Qc,stc t.st)]++(ga++(gb++[(Rd,shc u Qd),(Qd,stc u.st)])))) w:=M.perm (List.Perm.append_left X (vV ga [(Rc,shc t Qc),(Qc,stc t.st)] _))
 obtain ⟨sp,cap,rfl,hle,hnil,hA⟩:∃ sp cap,v=.slice sp b.length cap∧b.length≤cap∧(sp=none→cap=0)∧SrcA [Rc,Qc] w sp b.length (bl b):=(Tx13.off M1 (Off.refl _ _) (hT _ hv)).2
 refine (q0q k hk w0 w Rc Qc _ t h2 sp cap b hlen hle hnil hb (M1.perm (vV X _ _)) hA).mono ?_; rintro e w' ⟨⟨x,rfl,N⟩,Q',M',oo⟩
 have M2:Mm w0 (X++([(Rc,shc (shN t (sh4 LD k t b)) Q'),(Q',stc (shN t (sh4 LD k t b)).st)]++(ga++(gb++[(Rd,shc u Qd),(Qd,stc u.st)])))) w':=Mm.perm (l:=[(Rc,shc (shN t (sh4 LD k t b)) Q'),(Q',stc (shN t (sh4 LD k t b)).st)]++(X++(ga++(gb++[(Rd,shc u Qd),(Qd,stc u.st)])))) M' (vV _ X _)
 exact ⟨x,rfl,NewF.of_own N,⟨Rc,Rd,ga,gb,Q',Qd,u,rfl,e2,h1,x0h h2 hb,h3,h4,h5,M2.perm (List.Perm.append_left X (vV _ ga _))⟩,fun p hp=>(Tx13.off M1 (oo.mono fun b hb=>by obtain rfl:=xm1 hb; exact mS) (hT p hp)).1⟩
theorem x2v {I:Value→Shk→List (Nat × List Value)→Prop} (hK:dZ I) {w0 w:World} {va vc vb vd:Value} {X:List (Nat × List Value)} {s t:Shk} (hg:HGlob13 w0) (h:P13 I w0 va vc vb vd X s t w) :
 Calls Tryz.prog 9 #[va] w fun e w'=>e=.returned (.tuple #[.agg (shK s).toArray,.bool (shD s)])∧Below w.heap.size w w':=by
 obtain ⟨Rc,Rd,ga,gb,Qc,Qd,u,rfl,e2,h1,h2,h3,h4,h5,M⟩:=h
 exact hK.kys w0 w va s ga _ hg h4 h1 (M.perm (vV X ga _))
theorem x2j {I:Value→Shk→List (Nat × List Value)→Prop} (hK:dZ I) {w0 w:World} {va vc vb vd:Value} {X:List (Nat × List Value)} {s t:Shk} (hg:HGlob13 w0) (h:P13 I w0 va vc vb vd X s t w) :
 Calls Tryz.prog 11 #[va] w fun e w'=>e=.returned (.tuple #[(.agg (row .u8 32 (bl s.its)).toArray),.bool (shO s)])∧Below w.heap.size w w':=by
 obtain ⟨Rc,Rd,ga,gb,Qc,Qd,u,rfl,e2,h1,h2,h3,h4,h5,M⟩:=h
 exact hK.oth w0 w va s ga _ hg h4 (M.perm (vV X ga _))
theorem x2w {I:Value→Shk→List (Nat × List Value)→Prop} {w0 w:World} {va vc vb vd:Value} {X:List (Nat × List Value)} {s t:Shk} (h:P13 I w0 va vc vb vd X s t w) :
 Calls Tryz.prog 10 #[vc] w fun e w'=>e=.returned (.tuple #[.agg (shK t).toArray,.bool (shD t)])∧Below w.heap.size w w':=by
 obtain ⟨Rc,Rd,ga,gb,Qc,Qd,u,rfl,e2,h1,h2,h3,h4,h5,M⟩:=h
 exact q0i w0 w Rc Qc (X++(ga++(gb++[(Rd,shc u Qd),(Qd,stc u.st)]))) t h2 ((M.perm (List.Perm.append_left X (vV ga [(Rc,shc t Qc),(Qc,stc t.st)] _))).perm (vV X _ _))
theorem x2k {I:Value→Shk→List (Nat × List Value)→Prop} {w0 w:World} {va vc vb vd:Value} {X:List (Nat × List Value)} {s t:Shk} (h:P13 I w0 va vc vb vd X s t w) :
 Calls Tryz.prog 12 #[vc] w fun e w'=>e=.returned (.tuple #[(.agg (row .u8 32 (bl t.its)).toArray),.bool (shO t)])∧Below w.heap.size w w':=by
 obtain ⟨Rc,Rd,ga,gb,Qc,Qd,u,rfl,e2,h1,h2,h3,h4,h5,M⟩:=h
 exact j5t w0 w Rc Qc (X++(ga++(gb++[(Rd,shc u Qd),(Qd,stc u.st)]))) t ((M.perm (List.Perm.append_left X (vV ga [(Rc,shc t Qc),(Qc,stc t.st)] _))).perm (vV X _ _))
theorem q7n {I:Value→Shk→List (Nat × List Value)→Prop} (hK:dZ I) {w0:World} {l:List (Nat × List Value)} {A B:Shk} {e:Ending} {w:World} (h:TwP I w0 l A B e w) (hA:yY A) (hB:yY B):∃ Ra Rc Rb Rd s,e=.returned (.tuple #[.pointer (some ⟨Ra,0,none⟩),.pointer (some ⟨Rb,0,none⟩),.pointer (some ⟨Rc,0,none⟩),.pointer (some ⟨Rd,0,none⟩)])∧P13 I w0 (.pointer (some ⟨Ra,0,none⟩)) (.pointer (some ⟨Rc,0,none⟩)) (.pointer (some ⟨Rb,0,none⟩)) (.pointer (some ⟨Rd,0,none⟩)) [] s s w:=by
 obtain ⟨va,ba,vb,bb,Rc,Qc,Rd,Qd,rfl,h4,h5,M⟩:=h
 obtain ⟨Ra,rfl⟩:=hK.ptr _ _ _ h4
 obtain ⟨Rb,rfl⟩:=hK.ptr _ _ _ h5
 refine ⟨Ra,Rc,Rb,Rd,A,rfl,Rc,Rd,ba,bb,Qc,Qd,B,rfl,rfl,hA,hA,hB,h4,h5,?_⟩
 have M1:Mm w0 ([(Rd,shc B Qd),(Qd,stc B.st)]++([(Rc,shc A Qc),(Qc,stc A.st)]++(bb++ba))) w:=M.sub _ (by
  refine List.Sublist.append (List.Sublist.refl _) (List.Sublist.append (List.Sublist.refl _) (List.Sublist.append (List.Sublist.refl _) ?_)); exact List.sublist_append_left ba l)
 refine M1.perm (List.perm_append_comm.trans ?_)
 have e:=(List.perm_append_comm (l₁:=[(Rc,shc A Qc),(Qc,stc A.st)]++bb) (l₂:=ba)).append_right [(Rd,shc B Qd),(Qd,stc B.st)]
 simpa only [List.append_assoc,List.cons_append,List.nil_append,List.append_nil] using e
theorem P13.ws {I:Value→Shk→List (Nat × List Value)→Prop} {w0 w:World} {va vc vb vd:Value} {X:List (Nat × List Value)} {s t:Shk} (h:P13 I w0 va vc vb vd X s t w):yY s:=by
 obtain ⟨_,_,_,_,_,_,_,_,_,h1,_⟩:=h
 exact h1
theorem Al13.at {w0 w:World} {X:List (Nat × List Value)} {T:List (Value × List Int)} {sp:Option Addr} {cap:Nat} {b:List Int} (h:Al13 w0 X T w) (hm:(.slice sp b.length cap,b)∈T):b.length≤cap∧(sp=none→cap=0)∧Src w sp b.length (bl b):=by
 obtain ⟨sp',cap',e,h1,h2,h3,_⟩:=h _ hm
 injection e with e1 _ e3
 subst e1 e3
 exact ⟨h1,h2,h3⟩
theorem Al13.shape {w0 w:World} {X:List (Nat × List Value)} {T:List (Value × List Int)} {v:Value} {b:List Int} (h:Al13 w0 X ((v,b)::T) w):∃ sp cap,v=.slice sp b.length cap:=by
 obtain ⟨sp,cap,e,_⟩:=h _ mS
 exact ⟨sp,cap,e⟩
theorem q5w {w:World} {sp:Option Addr} {cap:Nat} {b:List Int} (hnil:sp=none→cap=0) (hs:Src w sp b.length (bl b)) (hlen:b.length≤140737488351232) :
 ∃ sq cq wb,(Builtin.append_ #[32,32] 32 #[.slice (some ⟨w.heap.size,0,none⟩) 0 0,.slice sp b.length cap]).run Tryz.prog (w.alloc (.cells #[] 5))=.ok (.slice sq b.length cq) wb∧OwnL wb w.heap.size b (.slice sq b.length cq)∧Below w.heap.size w wb:=by
 have O_1:OwnL (w.alloc (.cells #[] 5)) w.heap.size [] (.slice (some ⟨w.heap.size,0,none⟩) 0 0):=Own.lit w w.heap.size 5 .u8 0 (bl []) (xnR _) Jj
 have hlb:=(Below.refl w.heap.size w).alloc (xnR _) (.cells #[] 5); have hwa:=hlb.size
 obtain ⟨v,wb,hr,O_3,hgr,_⟩:=jH (P:=Tryz.prog) (ty:=32) Tryz.underlying32 vG O_1 sp b.length cap (bl b) (hs.below hlb (xnR _)) hnil (by rw [List.length_nil]; unfold maxLen; omega) (by rw [List.length_nil]; omega) hwa
 have hN:=(((Mm.init w).call hlb).grown hgr w.heap.size (fun p hp=>by cases hp) (xnR _) hwa (fun b hb=>(World.ownsRow.lt O_1 b hb).1)).below
 replace O_3:OwnL wb w.heap.size b v:=OwnL.app (a:=[]) O_3
 obtain ⟨sq,cq,rfl,_⟩:=id (NewF.of_own O_3)
 exact ⟨sq,cq,wb,hr,O_3,hN⟩
theorem nP {P:Program} {o:Oper} {a:Act} (k:IntKind) (n n':Int) (t t':TypeId) (x y:Operand) (ho:o.op=.binOp .eql t x y t') (hx:a.eval x=.int k n) (hy:a.eval y=.int k n') (r:Bool) (hr:(n == n')=r) (w:World) :
 (execOp a.eval o).run P w=.ok (.value (.bool r)) w:=by
 unfold execOp
 simp only [ho,hx,hy,Sem.run_bind,eqGuard_at_int,binOp_eql,Sem.run_pure,xO,hr]
theorem q7f (n:Nat):0≤IntKind.u8.wrap (1*2^min ((n:Nat):Int).toNat IntKind.u8.bits)∧IntKind.u8.wrap (1*2^min ((n:Nat):Int).toNat IntKind.u8.bits)<256:=by
 rw [IntKind.wrap_u8]
 omega
theorem q8q {o:Oper} {a:Act} (f g:Nat→Int) (x y:Operand) (ho:o.op=.binOp .neq 41 x y 41) (hx:a.eval x=.agg ([row .u8 32 f,row .u8 32 g].flatten).toArray) (hy:a.eval y=.agg ([row .u8 32 f,row .u8 32 g].flatten).toArray) (w:World) :
 (execOp a.eval o).run Tryz.prog w=.ok (.value (.bool false)) w:=by
 have e1:(binOp .neq 41 (.agg ([row .u8 32 f,row .u8 32 g].flatten).toArray) (.agg ([row .u8 32 f,row .u8 32 g].flatten).toArray)).run Tryz.prog w=.ok (.bool false) w:=by
  rw [run_neq_struct,q5n]; rfl
 unfold execOp
 simp only [ho,hx,hy,Sem.run_bind,run_eqGuard_agg (P:=Tryz.prog) w .neq 41 x y _ _ JU,xO,e1,Sem.run_pure]
theorem q7s (s:Shk):∃ f g,shK s=[row .u8 32 f,row .u8 32 g].flatten:=by
 unfold shK
 split
 · exact ⟨_,_,rfl⟩
 exact ⟨_,_,rfl⟩
theorem q4c {P:Program} {o:Oper} {a:Act} (n:Nat) (k:IntKind) (f g:Nat→Int) (t e t':TypeId) (x y:Operand) (ho:o.op=.binOp .neq t x y t') (hx:a.eval x=.agg (row k n f).toArray) (hy:a.eval y=.agg (row k n g).toArray)
 (ht:P.underlying t=some (.array n e)) (he:P.underlying e=some (.int k)) (hsz:∀ w,(sizeOf e).run P w=.ok 1 w) (hm:P.eqGuardType P.depth t=false) (h:∀ j,j<n→f j=g j) (w:World) :
 (execOp a.eval o).run P w=.ok (.value (.bool false)) w:=by
 rw [← yV k n h] at hy
 have e1:(binOp .neq t (.agg (row k n f).toArray) (.agg (row k n f).toArray)).run P w=.ok (.bool false) w:=by
  rw [run_neq_struct,mJ w 9998 t e n k ht he hsz f]; rfl
 unfold execOp
 simp only [ho,hx,hy,Sem.run_bind,run_eqGuard_agg w .neq t x y _ _ hm,xO,e1,Sem.run_pure]
section
variable {P:Program} {o:Oper} {a:Act}
theorem x4n (k yk:IntKind) (n y r:Int) (t t':TypeId) (x x':Operand) (ho:o.op=.binOp .shl t x x' t') (hx:a.eval x=.int k n) (hy:a.eval x'=.int yk y) (h0:0≤y) (hr:k.wrap (n*2^min y.toNat k.bits)=r) (w:World):(execOp a.eval o).run P w=.ok (.value (.int k r)) w:=by
 exact Xw
theorem x0r (k:IntKind) (n n':Int) (t t':TypeId) (x y:Operand) (ho:o.op=.binOp .gtr t x y t') (hx:a.eval x=.int k n) (hy:a.eval y=.int k n') (r:Bool) (hr:decide (n>n')=r) (w:World):(execOp a.eval o).run P w=.ok (.value (.bool r)) w:=by
 unfold execOp
 simp only [ho,hx,hy,Sem.run_bind,eqGuard_at_int,binOp_gtr,Sem.run_pure,xO,hr]
theorem q5g (k:IntKind) (n n':Int) (t t':TypeId) (x y:Operand) (ho:o.op=.binOp .geq t x y t') (hx:a.eval x=.int k n) (hy:a.eval y=.int k n') (r:Bool) (hr:decide (n≥n')=r) (w:World):(execOp a.eval o).run P w=.ok (.value (.bool r)) w:=by
 unfold execOp
 simp only [ho,hx,hy,Sem.run_bind,eqGuard_at_int,binOp_geq,Sem.run_pure,xO,hr]
end
theorem q4b {P:Program} {o:Oper} {a:Act} (s s':ByteArray) (t t':TypeId) (x y:Operand) (ho:o.op=.binOp .neq t x y t') (hx:a.eval x=.string s) (hy:a.eval y=.string s') (h:s=s') (w:World):(execOp a.eval o).run P w=.ok (.value (.bool false)) w:=by
 subst h
 unfold execOp
 simp only [ho,hx,hy,Sem.run_bind,eqGuard_at_string,binOp_string_neq,Sem.run_pure,xO,beq_self_eq_true,Bool.not_true]
theorem q4d {P:Program} {o:Oper} {a:Act} (p:Bool) (t t':TypeId) (x y:Operand) (ho:o.op=.binOp .neq t x y t') (hx:a.eval x=.bool p) (hy:a.eval y=.bool p) (ht:P.underlying t=some .bool) (w:World):(execOp a.eval o).run P w=.ok (.value (.bool false)) w:=by
 unfold execOp
 simp only [ho,hx,hy,Sem.run_bind,eqGuard_at_bool,run_neq_bool w t p p ht,Sem.run_pure,xO,beq_self_eq_true,Bool.not_true]
end
theorem cB {I:Value→Shk→List (Nat × List Value)→Prop} (hK:dZ I) (a d b f:Nat→Int) (wr:Bool) (ha:In 256 32 a) (hd:In 256 32 d) (hb:In 256 32 b) (hf:In 256 32 f) (O:List Int) (hO:O.length=32) (hOb:Byts O) (sp:Option Addr) (cap:Nat) (l:List Opv) (_maxl:l.length≤140737488351232) (w0:World) (hg:HGlob13 w0) (hin:q7d w0 140737488351232 sp l) :
 Calls Tryz.prog 3 #[.agg ([row .u8 32 a,row .u8 32 d,row .u8 32 b,row .u8 32 f,[.bool wr],row .u8 32 (bl O)].flatten).toArray,.slice sp l.length cap] w0 fun e w'=>e=.returned (.bool true)∧Below w0.heap.size w0 w':=by
 have M:=Mm.init w0
 have hWa:yY (qS a d (bif wr then O else LD.pub b)):=kL ha hd (by cases wr; exact yU b; exact hO) (by cases wr; exact uJ b; exact hOb)
 go_enter Tryz.func3,Tryz.ntmps3
 go_upto_region 0 with fail; refine wR ?_; have hlb:=(Below.refl w0.heap.size w0).alloc (xnR _) (.cells (kf6 a d b f wr (bl O)).toArray 25)
 refine xaL (w':=w0.alloc (.cells (kf6 a d b f wr (bl O)).toArray 25)) (.pointer (some ⟨w0.heap.size,0,none⟩)) JU ?_; replace M:=M.box (kf6 a d b f wr (bl O)).toArray 25 w0.heap.size rfl
 clear hlb; generalize w0.alloc (.cells (kf6 a d b f wr (bl O)).toArray 25)=w1 at M  ⊢
 have hA_B1:w0.heap.size≤w0.heap.size:=xnR _
 generalize eB_:w0.heap.size=B1 at M hA_B1 ⊢
 replace hA_B1:w0.heap.size≤B1:=Nat.le_of_eq eB_
 clear eB_
 refine xmL (xT ?_); go_upto_region 1 with fail; refine wR ?_; refine xcL (j2w hK _ (hg.mm M)) ?_; rintro e w2 ⟨rfl,l⟩; replace M:=M.call l; clear l; refine xeL ?_; refine xmL (xT ?_); go_upto_region 2 with fail; refine wR ?_
 refine xaL (.agg (kf6 a d b f wr (bl O)).toArray) (jD 25 _ ⟨B1,0,none⟩ (kf6 a d b f wr (bl O)) rfl rfl JW (fun _=>by rw [qY _ [32,32,32,32,1,32] JU]; kernel_rfl) (M.part mS 0 _ (yW [] [row .u8 32 a,row .u8 32 d,row .u8 32 b,row .u8 32 f,[Value.bool wr],row .u8 32 (bl O)] [] 0 JU))) ?_
 refine xcL (j9w hK w0 _ _ a d b f wr O ha hd hb hf hO hOb hg M) ?_; rintro e w3 h_; clear M
 obtain ⟨Ra,Rc,Rb,Rd,s0,rfl,hP⟩:=q7n hK h_ hWa (sL hb hf)
 clear h_ hWa; refine xeL ?_; refine xm3 ?_; refine xm2 ?_
 refine xm2 ?_; refine xm2 (xT ?_); go_upto_region 3 with fail; refine wR (xmL ?_); refine xpL (.bool false) ?_; refine xmL ?_; refine xpL (.pointer (some ⟨Ra,0,none⟩)) ?_
 refine xpL (.bool false) ?_; refine xpL (.bool false) ?_; refine xmL ?_; refine xpL (.pointer (some ⟨Rb,0,none⟩)) ?_; refine xpL (.bool false) ?_; refine xpL (.bool false) (xT ?_); go_upto_region 5 with fail; refine wR (xaL (w':=w3.alloc (.cells #[] 5)) (.slice (some ⟨w3.heap.size,0,none⟩) 0 0) JU ?_)
 refine xmL (xT ?_); have l:=(Below.refl w3.heap.size w3).alloc (xnR _) (.cells #[] 5); replace hP:=hP.call l
 have hT:Al13 w0 [] [(.slice (some ⟨w3.heap.size,0,none⟩) ([]:List Int).length 0,[])] (w3.alloc (.cells #[] 5)):=Al13.cons ⟨_,_,rfl,xnR _,fun e=>(by cases e),fun j hj=>absurd hj (xnZ j),fun _ _ h=>absurd h (Nat.lt_irrefl 0)⟩ (fun p hp=>by cases hp)
 clear l; generalize w3.alloc (.cells #[] 5)=w4 at hP hT ⊢; go_upto_region 6 with fail; refine wR (xmL ?_); refine xT ?_; have HI:=show Hid _ from (And.intro hP hT); clear hP hT; go_wp2
 go_loopw [10,11] (fun lv i w'=>∃ (q:Nat) (ll:List Int) (sl:Option Addr) (cl:Nat) (X:List (Nat × List Value)) (s:Shk),q≤8∧i=.int .i64 (q:Int)∧lv=.slice sl ll.length cl∧Byts ll∧ll.length≤1000∧P13 I w0 (.pointer (some ⟨Ra,0,none⟩)) (.pointer (some ⟨Rc,0,none⟩)) (.pointer (some ⟨Rb,0,none⟩)) (.pointer (some ⟨Rd,0,none⟩)) X s s w'∧Al13 w0 X [(.slice sl ll.length cl,ll)] w') (fun _ i _=>8-(intOf i).toNat)
 case atStart=>exact ⟨0,[],_,_,[],s0,by omega,rfl,rfl,fun _ h=>Vc,Nat.zero_le _,HI.out.1,HI.out.2⟩
 case round =>
  clear HI; obtain ⟨q,ll,sl,cl,X,s,hq,rfl,rfl,hbl,hll,hP,hT⟩:=hrel; by_cases hlt:q<l.length
  · by_cases hlt8:q<8
    · obtain ⟨v,hv⟩:∃ v,l[q]?=some v:=⟨_,gE hlt⟩
      obtain ⟨ad,bp,bc,rfl,hoc,hov⟩:=hin q v hv; go_upto_region 7 with fail; refine wR (xm2 ?_); refine xaL _ (gQ _ 26 35 _ _ _ rfl Tryz.underlying26 rfl _) ?_; refine xaL (.bool true) (gP .i64 _ _ _ _ _ _ rfl rfl rfl true (decide_eq_true JK) _) ?_; refine xmL ?_; refine xpL (.int .i64 (q:Int)) ?_; refine xaL (.bool true) (gP .i64 _ _ _ _ _ _ rfl rfl rfl true (decide_eq_true JK) _) ?_; refine xpL (.bool true) (xT ?_); go_upto_region 9 with fail; refine wR (xm2 ?_); refine zV (.pointer (some (ad.add (q*4)))) rfl (fE 26 35 4 _ _ ad q _ _ Tryz.underlying26 JW hlt rfl rfl rfl _) (nL ?_); refine xpL (.pointer (some ((ad.add (q*4)).add 0))) ?_; refine xaL _ (qL 3 _ ((ad.add (q*4)).add 0) _ rfl rfl JW (tA hP.below (hoc 0 _ rfl))) ?_; refine xcL (j6p v.k 8 JG hov.k_i wr) ?_; rintro e w5 ⟨rfl,l⟩; replace hP:=hP.call l; replace hT:=hT.call l; clear l; refine xeL ?_; generalize kdn v.k 8=kz at ⊢; refine xmL (xT ?_); skip; go_upto_region 10 with fail; refine wR (xm2 ?_); refine zV (.pointer (some (ad.add (q*4)))) rfl (fE 26 35 4 _ _ ad q _ _ Tryz.underlying26 JW hlt rfl rfl rfl _) (nL ?_); refine xpL (.pointer (some ((ad.add (q*4)).add 1))) ?_; refine xaL _ (qL 32 _ ((ad.add (q*4)).add 1) _ rfl rfl JW (tA hP.below (hoc 1 _ rfl))) ?_; refine xmL (xT ?_); obtain ⟨od,hod⟩:∃ b_,b_=decide (kz%2=1):=⟨_,rfl⟩
      go_upto_region 11 with fail; refine wR (xmL ?_); refine xaL (.int .i64 ((kz%2:Nat):Int)) (mU .i64 _ _ _ _ _ _ _ rfl rfl rfl JG UX _) ?_; refine xaL (.bool od) (nP .i64 _ _ _ _ _ _ rfl rfl rfl od (by rw [hod,Bool.eq_iff_iff,beq_iff_eq,decide_eq_true_iff]; omega) _) ?_; refine xmL ?_; refine uW (od) (.slice (some ad) l.length cap) ((bif od then (.slice (some ad) l.length cap) else undef)) VW VW Uh (nL ?_); refine uW (od) (.int .i64 (q:Int)) ((bif od then (.int .i64 (q:Int)) else undef)) VW VW Uh (nL ?_); refine uW (od) (.pointer (some (ad.add (q*4)))) ((bif od then (.pointer (some (ad.add (q*4)))) else undef)) VW VW (fun hc=>by cases od <;> first | (cases hc; done) | exact (fE 26 35 4 _ _ ad q _ _ Tryz.underlying26 JW hlt rfl rfl rfl _)) (nL ?_); refine uW (od) (.pointer (some ((ad.add (q*4)).add 2))) ((bif od then (.pointer (some ((ad.add (q*4)).add 2))) else undef)) VW VW Uh (nL ?_); refine uW (od) (.bool v.o) ((bif od then (.bool v.o) else undef)) VW VW (fun hc=>by cases od <;> first | (cases hc; done) | exact (qL 4 _ ((ad.add (q*4)).add 2) _ rfl rfl JW (tA hP.below (hoc 2 _ rfl)))) (nL ?_); obtain ⟨b1,hb1⟩:∃ y_,y_=(!v.o):=⟨_,rfl⟩
      refine uW (od) (.bool b1) ((bif od then (.bool b1) else undef)) VW VW (fun hc=>by cases od <;> first | (cases hc; done) | exact (by subst hb1; cases v.o <;> rfl)) (nL ?_); obtain ⟨b2,hb2⟩:∃ y_,y_=(od&&b1):=⟨_,rfl⟩
      refine xaL (.bool b2) (by subst hb2; cases od <;> rfl) (xT ?_)
      try clear hod hb2
      go_upto_if 80 with fail; go_cut [13] (fun tv wx=>∃ (sq:Option Addr) (b:List Int) (cq:Nat) (Y:List (Nat × List Value)),tv=.slice sq b.length cq∧Byts b∧b.length≤140737488351232∧P13 I w0 (.pointer (some ⟨Ra,0,none⟩)) (.pointer (some ⟨Rc,0,none⟩)) (.pointer (some ⟨Rb,0,none⟩)) (.pointer (some ⟨Rd,0,none⟩)) Y s s wx∧Al13 w0 Y [(.slice sq b.length cq,b),(.slice sl ll.length cl,ll)] wx)
      case first =>
       cases b2 with
       | true =>
         go_upto_region 12 with fail; refine wR (xaL (w':=w5.alloc (.cells #[] 5)) (.slice (some ⟨w5.heap.size,0,none⟩) 0 0) JU ?_); refine xmL ?_; obtain ⟨sq12,cq12,w6,hr,hO,hl⟩:=q5w (w:=w5) (hT.at mS).2.1 (hT.at mS).2.2 JK; refine xaL (.slice sq12 ll.length cq12) (jW _ _ 32 _ _ _ rfl rfl rfl hr) ?_; clear hr; refine xmL (xT ?_); have hbw:Below w0.heap.size w0 w6:=hP.below.trans (hl.mono hP.below.size); by_cases hB:0≤v.t
         · by_cases hL:0<ll.length
           · obtain ⟨m,hm⟩:∃ m:Nat,v.t=(m:Int):=⟨v.t.toNat,by omega⟩
             go_upto_region 13 with fail; refine wR (xm2 ?_); refine zV (.pointer (some (ad.add (q*4)))) rfl (fE 26 35 4 _ _ ad q _ _ Tryz.underlying26 JW hlt rfl rfl rfl _) (nL ?_); refine xpL (.pointer (some ((ad.add (q*4)).add 3))) ?_; refine xaL _ (qL 3 _ ((ad.add (q*4)).add 3) _ rfl rfl JW (tA hbw (hoc 3 _ rfl))) ?_; refine xaL (.bool true) (q5g .i64 _ _ _ _ _ _ rfl rfl rfl true (decide_eq_true JK) _) ?_; refine xmL ?_; refine xpL (.slice sq12 ll.length cq12) ?_; refine xaL _ (gQ _ 32 5 _ _ _ rfl Tryz.underlying32 rfl _) ?_; refine xaL (.bool true) (x0r .i64 _ _ _ _ _ _ rfl rfl rfl true (decide_eq_true JK) _) ?_; refine xpL (.bool true) (xT ?_); go_upto_region 14 with fail; refine wR (xmL ?_); refine xmL ?_; refine zV (.pointer (some (ad.add (q*4)))) rfl (fE 26 35 4 _ _ ad q _ _ Tryz.underlying26 JW hlt rfl rfl rfl _) (nL ?_); refine xpL (.pointer (some ((ad.add (q*4)).add 3))) ?_; refine xaL _ (qL 3 _ ((ad.add (q*4)).add 3) _ rfl rfl JW (tA hbw (hoc 3 _ rfl))) ?_; refine xmL ?_; refine xaL _ (gQ _ 32 5 _ _ _ rfl Tryz.underlying32 rfl _) ?_; refine xaL (.int .i64 ((8*ll.length:Nat):Int)) (aM .i64 _ _ _ _ _ _ _ rfl rfl rfl Yj _) ?_; refine zV (.int .i64 ((m%(8*ll.length):Nat):Int)) rfl (mU .i64 _ _ _ _ _ _ _ rfl rfl rfl JK (by rw [hm]; rfl) _) (nL ?_); refine xmL (xT ?_); have hn:m%(8*ll.length)<8*ll.length:=Nat.mod_lt _ JK; generalize m%(8*ll.length)=n at hn ⊢; obtain ⟨g,cg_,eg,hg1,hg2,Hg⟩:=Own.has hO JK; have hgc:=Own.le hO; injection eg with e1_ _ e3_
             subst e1_ e3_; have N:=(Mm.of (w0:=w5) hl).ofHas Hg hg1 hg2 (fun p hp=>by cases hp); rw [j8a] at N; clear Hg hO hbw; have hj:n/8<ll.length:=by omega
             go_upto_region 15 with fail; refine hdC 13 N ?_; clear N; intro N; generalize w6.drew=wc_ at N ⊢; refine xmC 0 104 N ?_; refine xmC 1 105 N ?_; refine xqC 2 106 rfl (.int .i64 ((n/8:Nat):Int)) KG N ?_; refine xmC 3 107 N ?_; refine xmC 4 108 N ?_; refine xqC 5 109 rfl (.int .i64 ((n/8:Nat):Int)) KG N ?_; refine xqC 6 110 rfl (.pointer (some ⟨g,n/8,none⟩)) Wy N ?_; refine ycC 7 111 (.int .u8 (bl ll (n/8))) g (n/8) Tryz.underlying5 N (fun _ h=>h.get mS _ _ (j3w ll (n/8) hj)) ?_; refine xmC 8 112 N ?_; refine xqC 9 113 rfl (.int .i64 ((n%8:Nat):Int)) Yg N ?_; refine xqC 10 114 rfl (.int .u8 (IntKind.u8.wrap (1*2^min ((n%8:Nat):Int).toNat IntKind.u8.bits))) (fun w=>x4n .u8 .i64 _ _ _ _ _ _ _ rfl rfl rfl JK rfl w) N ?_; refine xqC 11 115 rfl _ UK N ?_; refine xqC 12 116 rfl (.pointer (some ⟨g,n/8,none⟩)) Wy N ?_; have hcell:=N.get mS (n/8) _ (j3w ll (n/8) hj); refine gJ (S2:=fun _=>True) none rfl .u8 (bits .xor .u8 (bl ll (n/8)) (IntKind.u8.wrap (1*2^min ((n%8:Nat):Int).toNat IntKind.u8.bits))) g (n/8) 5 _ _ JU rfl rfl rfl rfl rfl (by rw [hcell]; rfl) (N.free mS (n/8) Wu) JU JU ?_; simp only [Act.put]; refine wE JU ?_ _; clear hcell; replace N:=N.set (n/8) Wu (.int .u8 (bits .xor .u8 (bl ll (n/8)) (IntKind.u8.wrap (1*2^min ((n%8:Nat):Int).toNat IntKind.u8.bits)))); rw [← List.map_set] at N; have hXi:=aL _ _ (hbl.bl (n/8) hj) (q7f (n%8)); have hb2:Byts (ll.set (n/8) (bits .xor .u8 (bl ll (n/8)) (IntKind.u8.wrap (1*2^min ((n%8:Nat):Int).toNat IntKind.u8.bits)))):=hbl.set _ hXi; have hl2:(ll.set (n/8) (bits .xor .u8 (bl ll (n/8)) (IntKind.u8.wrap (1*2^min ((n%8:Nat):Int).toNat IntKind.u8.bits)))).length=ll.length:=List.length_set; generalize ll.set (n/8) (bits .xor .u8 (bl ll (n/8)) (IntKind.u8.wrap (1*2^min ((n%8:Nat):Int).toNat IntKind.u8.bits)))=b at N hb2 hl2; generalize wc_.setCell ⟨g,n/8,none⟩ (.int .u8 (bits .xor .u8 (bl ll (n/8)) (IntKind.u8.wrap (1*2^min ((n%8:Nat):Int).toNat IntKind.u8.bits))))=wd_ at N ⊢; have hlt2:=(N.rows _ mS).2.2; have N2:vA wd_ w5.heap.size b (.slice (some ⟨g,0,none⟩) b.length cq12):=⟨_,cq12,rfl,by omega,fun e=>(by cases e),N.src mS _ rfl,fun a e=>by cases e; exact ⟨hg1,hlt2⟩⟩
             obtain ⟨Y,hP2,hT2⟩:=hP.new hT N.below N2; have HS:=show Hid _ from (And.intro hP2 hT2); clear hP hT hP2 hT2 hl N N2 hXi hlt2; go_wp2
             go_meet; exact ⟨_,b,cq12,Y,by rw [hl2],hb2,by omega,HS.out.1,HS.out.2⟩
           go_upto_region 13 with fail; refine wR (xm2 ?_); refine zV (.pointer (some (ad.add (q*4)))) rfl (fE 26 35 4 _ _ ad q _ _ Tryz.underlying26 JW hlt rfl rfl rfl _) (nL ?_); refine xpL (.pointer (some ((ad.add (q*4)).add 3))) ?_; refine xaL _ (qL 3 _ ((ad.add (q*4)).add 3) _ rfl rfl JW (tA hbw (hoc 3 _ rfl))) ?_; refine xaL (.bool true) (q5g .i64 _ _ _ _ _ _ rfl rfl rfl true (decide_eq_true JK) _) ?_; refine xmL ?_; refine xpL (.slice sq12 ll.length cq12) ?_; refine xaL _ (gQ _ 32 5 _ _ _ rfl Tryz.underlying32 rfl _) ?_; refine xaL (.bool false) (x0r .i64 _ _ _ _ _ _ rfl rfl rfl false (decide_eq_false JK) _) ?_; refine xpL (.bool false) (xT ?_); obtain ⟨Y,hP2,hT2⟩:=hP.new hT hl (NewF.of_own hO); exact Xa
         go_upto_region 13 with fail; refine wR (xm2 ?_); refine zV (.pointer (some (ad.add (q*4)))) rfl (fE 26 35 4 _ _ ad q _ _ Tryz.underlying26 JW hlt rfl rfl rfl _) (nL ?_); refine xpL (.pointer (some ((ad.add (q*4)).add 3))) ?_; refine xaL _ (qL 3 _ ((ad.add (q*4)).add 3) _ rfl rfl JW (tA hbw (hoc 3 _ rfl))) ?_; refine xaL (.bool false) (q5g .i64 _ _ _ _ _ _ rfl rfl rfl false (decide_eq_false JK) _) ?_; refine xmL ?_; with_reducible refine bM ?_ ?_
         · rfl
         simp only [aP,lI,l0,lS]; with_reducible refine bM ?_ ?_
         · rfl
         simp only [aP,lI,l0,lS]; with_reducible refine bM ?_ ?_
         · rfl
         simp only [aP,lI,l0,lS]; refine xpL (.bool false) (xT ?_); obtain ⟨Y,hP2,hT2⟩:=hP.new hT hl (NewF.of_own hO); exact Xa
       | false =>
         have HS:=show Hid _ from (And.intro hP (Al13.cons (Tx13.old hP.below hov.b_le hov.b_nil hov.b_src) hT)); clear hP hT; go_wp2
         go_meet; exact ⟨bp,v.b,bc,X,rfl,hov.b_byts,hov.b_max,HS.out.1,HS.out.2⟩
      case rest =>
       clear hP hT hoc hov; obtain ⟨sq,b,cq,Y,rfl,hbb,hbn,hP,hT⟩:=hcut; go_upto_region 16 with fail; refine wR (xm2 ?_); refine xm2 (xT ?_); obtain ⟨f1,hf1⟩:∃ b_,b_=decide (kz%4=1):=⟨_,rfl⟩
       obtain ⟨f2,hf2⟩:∃ b_,b_=decide (kz%4=2):=⟨_,rfl⟩
       obtain ⟨f3,hf3⟩:∃ b_,b_=decide ((kz:Int)<4):=⟨_,rfl⟩
       go_upto_region 17 with fail; refine wR (xmL ?_); refine xaL (.int .i64 ((kz%4:Nat):Int)) (mU .i64 _ _ _ _ _ _ _ rfl rfl rfl JG UX _) ?_; refine xaL (.bool f1) (nP .i64 _ _ _ _ _ _ rfl rfl rfl f1 (by rw [hf1,Bool.eq_iff_iff,beq_iff_eq,decide_eq_true_iff]; omega) _) ?_; refine xmL ?_; refine uW (!f1) (.int .i64 ((kz:Nat):Int)) ((bif f1 then undef else (.int .i64 ((kz:Nat):Int)))) Kj Kj (fun hc=>by cases f1 <;> first | (cases hc; done) | kernel_rfl) (nL ?_); refine uW (!f1) (.int .i64 ((kz%4:Nat):Int)) ((bif f1 then undef else (.int .i64 ((kz%4:Nat):Int)))) Kj Kj (fun hc=>by cases f1 <;> first | (cases hc; done) | exact (mU .i64 _ _ _ _ _ _ _ rfl rfl rfl JG UX _)) (nL ?_); refine uW (!f1) (.bool f2) ((bif f1 then undef else (.bool f2))) Kj Kj (fun hc=>by cases f1 <;> first | (cases hc; done) | exact (nP .i64 _ _ _ _ _ _ rfl rfl rfl f2 (by rw [hf2,Bool.eq_iff_iff,beq_iff_eq,decide_eq_true_iff]; omega) _)) (nL ?_); obtain ⟨b3,hb3⟩:∃ y_,y_=(f1 || f2):=⟨_,rfl⟩
       refine xaL (.bool b3) (by subst hb3; cases f1 <;> rfl) ?_; refine xmL ?_; refine xaL (.bool f3) (gP .i64 _ _ _ _ _ _ rfl rfl rfl f3 hf3.symm _) ?_; obtain ⟨f4,hf4⟩:∃ b_,b_=(b3 == f3):=⟨_,rfl⟩
       refine xaL (.bool f4) (x6s _ _ _ _ _ _ rfl rfl rfl Tryz.underlying4 f4 hf4.symm _) (xT ?_)
       try clear hf4
       try clear hb3
       try clear hf1 hf2 hf3
       go_upto_if 129 with fail; go_cut [15,16] (fun vx vy wx=>∃ (Rx Ry Rx' Ry':Nat) (u:Shk),vx=.pointer (some ⟨Rx,0,none⟩)∧vy=.pointer (some ⟨Ry,0,none⟩)∧P13 I w0 (.pointer (some ⟨Rx,0,none⟩)) (.pointer (some ⟨Ry,0,none⟩)) (.pointer (some ⟨Rx',0,none⟩)) (.pointer (some ⟨Ry',0,none⟩)) Y u u wx∧(∀ X u w',P13 I w0 (.pointer (some ⟨Rx,0,none⟩)) (.pointer (some ⟨Ry,0,none⟩)) (.pointer (some ⟨Rx',0,none⟩)) (.pointer (some ⟨Ry',0,none⟩)) X u u w'→∃ u',P13 I w0 (.pointer (some ⟨Ra,0,none⟩)) (.pointer (some ⟨Rc,0,none⟩)) (.pointer (some ⟨Rb,0,none⟩)) (.pointer (some ⟨Rd,0,none⟩)) X u' u' w')∧wc=wx)
       case first =>
        cases f4 with
        | true =>
          obtain ⟨u,hP2⟩:=hP.swap; go_upto_region 18 with fail; refine wR (xm2 ?_); refine xm2 (xT ?_); have HS:=show Hid _ from hP2; clear hP hT hP2; go_wp2
          go_meet; exact ⟨Rb,Rd,Ra,Rc,u,rfl,rfl,HS.out,fun _ _ _ h=>h.swap,rfl⟩
        | false =>
          have HS:=show Hid _ from hP; clear hP hT; go_wp2
          go_meet; exact ⟨Ra,Rc,Rb,Rd,s,rfl,rfl,HS.out,fun _ u_ _ h=>⟨u_,h⟩,rfl⟩
       case rest =>
        clear hP; obtain ⟨Rx,Ry,Rx',Ry',u,rfl,rfl,hP,hback,rfl⟩:=hcut; go_upto_region 19 with fail; refine wR (xaL (w':=wc.alloc (.cells #[] 5)) (.slice (some ⟨wc.heap.size,0,none⟩) 0 0) JU ?_); refine xmL ?_; obtain ⟨sq19,cq19,w7,hr,hO,hl⟩:=q5w (w:=wc) (hT.at mS).2.1 (hT.at mS).2.2 JK; refine xaL (.slice sq19 b.length cq19) (jW _ _ 32 _ _ _ rfl rfl rfl hr) ?_; clear hr; refine xmL (xT ?_); obtain ⟨Z0,hP2,hT2⟩:=hP.new hT hl (NewF.of_own hO); clear hP hT hO hl; have hP:=hP2; have hT:=hT2; clear hP2 hT2; have hWu:=hP.ws; go_upto_region 20 with fail; refine wR (xm2 ?_); refine xaL (.int .i64 ((kz%4:Nat):Int)) (mU .i64 _ _ _ _ _ _ _ rfl rfl rfl JG UX _) ?_; refine xmL ?_; refine xcL (x3m hK hg (kz%4) (Nat.mod_lt _ JG) hP hT mS hbb hbn) ?_; rintro e w8 ⟨um,Z,rfl,hP',hT'⟩; clear hP hT; have hP:=hP'; have hT:=hT'; clear hP' hT'; obtain ⟨sm,cm,rfl⟩:=hT.shape; refine xeL ?_; refine xm3 ?_; refine xm2 (xT ?_); go_upto_region 21 with fail; refine wR (xm2 ?_); refine xaL (.int .i64 ((kz%4:Nat):Int)) (mU .i64 _ _ _ _ _ _ _ rfl rfl rfl JG UX _) ?_; refine xmL ?_; refine xcL (q8e (kz%4) (Nat.mod_lt _ JG) hP hT (mI 2 rfl) hbb hbn) ?_; rintro e w9 ⟨un,rfl,N_n,hP',hT'⟩; clear hP hT; have hP:=hP'; have hT:=hT'; clear hP' hT'; obtain ⟨sn,cn,rfl,hnc,hnn,_,_⟩:=id N_n; refine xeL ?_; refine xm3 ?_; refine xm2 (xT ?_); have hsent:kz%2=0→shE (sh4 LD (kz%4) u b)=0→Byts (shB (sh4 LD (kz%4) u b))∧(shB (sh4 LD (kz%4) u b)).length≤1000:=fun h_=>q3c hWu hbb JK
        generalize sh4 LD (kz%4) u b=r at hP hT N_n hsent hnc ⊢; generalize shN u r=u2 at hP; obtain ⟨kf,kg,hkfg⟩:=q7s u2; go_upto_region 22 with fail; refine wR (xmL ?_); have key:=x2v hK hg hP; rw [hkfg] at key; refine xcL key ?_; clear key; rintro e w10 ⟨rfl,l⟩; replace hP:=hP.call l; replace hT:=hT.call l; replace N_n:=N_n.below l; clear l; refine xeL ?_; refine xm3 ?_; refine xaL (w':=w10.alloc (.cells (kf2 (fun _=>0) (fun _=>0)).toArray 41)) (.pointer (some ⟨w10.heap.size,0,none⟩)) JU ?_; have K22:=(Mm.init w10).box (kf2 (fun _=>0) (fun _=>0)).toArray 41 w10.heap.size rfl; generalize w10.alloc (.cells (kf2 (fun _=>0) (fun _=>0)).toArray 41)=w11 at K22 ⊢; refine jG rfl (jC (kf2 kf kg) w10.heap.size 0 41 _ _ rfl rfl rfl (K22.thereP mS 0 64 Vx) Vn (zF _ (fun p_ hp_=>by
         simp only [List.mem_cons,List.not_mem_nil,or_false] at hp_; rcases hp_ with rfl | rfl <;> exact jT .u8 32 _))) ?_
        simp only [Act.put]; replace K22:=K22.setAll (kf2 kf kg) Wj; generalize w11.setCells w10.heap.size 0 (kf2 kf kg)=w12 at K22 ⊢; have l:=K22.below; replace hP:=hP.call l; replace hT:=hT.call l; replace N_n:=N_n.below l; clear l; refine xpL (.bool (shD u2)) (xT ?_); go_upto_region 23 with fail; refine wR (xmL ?_); have key:=x2w hP; rw [hkfg] at key; refine xcL key ?_; clear key; rintro e w13 ⟨rfl,l⟩; replace hP:=hP.call l; replace hT:=hT.call l; replace N_n:=N_n.below l; replace K22:=K22.call l; clear l; refine xeL ?_; refine xm3 ?_; refine xaL (w':=w13.alloc (.cells (kf2 (fun _=>0) (fun _=>0)).toArray 41)) (.pointer (some ⟨w13.heap.size,0,none⟩)) JU ?_; have K24:=(Mm.init w13).box (kf2 (fun _=>0) (fun _=>0)).toArray 41 w13.heap.size rfl; generalize w13.alloc (.cells (kf2 (fun _=>0) (fun _=>0)).toArray 41)=w14 at K24 ⊢; refine jG rfl (jC (kf2 kf kg) w13.heap.size 0 41 _ _ rfl rfl rfl (K24.thereP mS 0 64 Vx) Vn (zF _ (fun p_ hp_=>by
         simp only [List.mem_cons,List.not_mem_nil,or_false] at hp_; rcases hp_ with rfl | rfl <;> exact jT .u8 32 _))) ?_
        simp only [Act.put]; replace K24:=K24.setAll (kf2 kf kg) Wj; generalize w14.setCells w13.heap.size 0 (kf2 kf kg)=w15 at K24 ⊢; have l:=K24.below; replace hP:=hP.call l; replace hT:=hT.call l; replace N_n:=N_n.below l; replace K22:=K22.call l; clear l; refine xpL (.bool (shD u2)) (xT ?_); go_upto_region 24 with fail; refine wR (xmL ?_); refine xcL (x2j hK hg hP) ?_; rintro e w16 ⟨rfl,l⟩; replace hP:=hP.call l; replace hT:=hT.call l; replace N_n:=N_n.below l; replace K22:=K22.call l; replace K24:=K24.call l; clear l; refine xeL ?_; refine xm3 ?_; refine xaL (w':=w16.alloc (.cells (row .u8 32 (fun _=>0)).toArray 23)) (.pointer (some ⟨w16.heap.size,0,none⟩)) JU ?_; have K26:=(Mm.init w16).box (row .u8 32 (fun _=>0)).toArray 23 w16.heap.size rfl; generalize w16.alloc (.cells (row .u8 32 (fun _=>0)).toArray 23)=w17 at K26 ⊢; refine jG rfl (jC (row .u8 32 (bl u2.its)) w16.heap.size 0 23 _ _ rfl rfl rfl (K26.thereP mS 0 32 (by exact Nat.le_of_eq (xY _).symm)) (by rw [xA,xY]; kernel_rfl) (jT .u8 32 _)) ?_; simp only [Act.put]; replace K26:=K26.setAll (row .u8 32 (bl u2.its)) (by rw [xY]; exact (xY _).symm); generalize w17.setCells w16.heap.size 0 (row .u8 32 (bl u2.its))=w18 at K26 ⊢; have l:=K26.below; replace hP:=hP.call l; replace hT:=hT.call l; replace N_n:=N_n.below l; replace K22:=K22.call l; replace K24:=K24.call l; clear l; refine xmL ?_; refine xT ?_; go_upto_region 25 with fail; refine wR (xmL ?_); refine xcL (x2k hP) ?_; rintro e w19 ⟨rfl,l⟩; replace hP:=hP.call l; replace hT:=hT.call l; replace N_n:=N_n.below l; replace K22:=K22.call l; replace K24:=K24.call l; replace K26:=K26.call l; clear l; refine xeL ?_; refine xm3 ?_; refine xaL (w':=w19.alloc (.cells (row .u8 32 (fun _=>0)).toArray 23)) (.pointer (some ⟨w19.heap.size,0,none⟩)) JU ?_; have K28:=(Mm.init w19).box (row .u8 32 (fun _=>0)).toArray 23 w19.heap.size rfl; generalize w19.alloc (.cells (row .u8 32 (fun _=>0)).toArray 23)=w20 at K28 ⊢; refine jG rfl (jC (row .u8 32 (bl u2.its)) w19.heap.size 0 23 _ _ rfl rfl rfl (K28.thereP mS 0 32 (by exact Nat.le_of_eq (xY _).symm)) (by rw [xA,xY]; kernel_rfl) (jT .u8 32 _)) ?_; simp only [Act.put]; replace K28:=K28.setAll (row .u8 32 (bl u2.its)) (by rw [xY]; exact (xY _).symm); generalize w20.setCells w19.heap.size 0 (row .u8 32 (bl u2.its))=w21 at K28 ⊢; have l:=K28.below; replace hP:=hP.call l; replace hT:=hT.call l; replace N_n:=N_n.below l; replace K22:=K22.call l; replace K24:=K24.call l; replace K26:=K26.call l; clear l; refine xmL (xT ?_); go_upto_region 26 with fail; refine wR (xmL ?_); refine zV (.string (txt (shB r).length (bl (shB r)))) rfl (vB 32 5 9 _ rfl Tryz.underlying32 Tryz.underlying5 Tryz.underlying9 sm (shB r).length cm (bl (shB r)) rfl _ (hT.at mS).2.2 (fun e_=>by have h1_:=(hT.at mS).2.1 e_; have h2_:=(hT.at mS).1; omega)) (nL ?_); refine xmL ?_; refine zV (.string (txt (shB r).length (bl (shB r)))) rfl (vB 32 5 9 _ rfl Tryz.underlying32 Tryz.underlying5 Tryz.underlying9 sn (shB r).length cn (bl (shB r)) rfl _ (NewF.src N_n) (fun e_=>by have h1_:=hnn e_; have h2_:=hnc; omega)) (nL ?_); refine xaL (.bool false) (q4b _ _ _ _ _ _ rfl rfl rfl rfl _) ?_; refine xmL ?_; refine xpL (.int .i64 (shE r)) ?_; refine xpL (.int .i64 (shE r)) ?_; refine xaL (.bool false) (xE .i64 _ _ _ _ _ _ rfl rfl rfl false Jf _) ?_; refine xpL (.bool false) ?_; refine xmL ?_; refine xaL (.agg (kf2 kf kg).toArray) (jD 41 _ ⟨w10.heap.size,0,none⟩ (kf2 kf kg) rfl rfl JW VQ (K22.part mS 0 _ Jd)) ?_; refine xaL (.agg (kf2 kf kg).toArray) (jD 41 _ ⟨w13.heap.size,0,none⟩ (kf2 kf kg) rfl rfl JW VQ (K24.part mS 0 _ Jd)) ?_; refine xaL (.bool false) (q8q kf kg _ _ rfl rfl rfl _) ?_; refine xpL (.bool false) ?_; refine xmL ?_; refine xpL (.bool (shD u2)) ?_; refine xpL (.bool (shD u2)) ?_; refine xaL (.bool false) (q4d _ _ _ _ _ rfl rfl rfl Tryz.underlying4 _) ?_; refine xpL (.bool false) ?_; refine xmL ?_; refine xaL (.agg (row .u8 32 (bl u2.its)).toArray) (jD 23 _ ⟨w16.heap.size,0,none⟩ (row .u8 32 (bl u2.its)) rfl rfl JW JH (K26.part mS 0 _ Jd)) ?_; refine xaL (.agg (row .u8 32 (bl u2.its)).toArray) (jD 23 _ ⟨w19.heap.size,0,none⟩ (row .u8 32 (bl u2.its)) rfl rfl JW JH (K28.part mS 0 _ Jd)) ?_; refine xaL (.bool false) (q4c 32 .u8 (bl u2.its) (bl u2.its) 23 5 _ _ _ rfl rfl rfl Tryz.underlying23 Tryz.underlying5 JW JU (fun _ _=>rfl) _) ?_; refine xpL (.bool false) ?_; refine xmL ?_; refine xpL (.bool (shO u2)) ?_; refine xpL (.bool (shO u2)) ?_; refine xaL (.bool false) (q4d _ _ _ _ _ rfl rfl rfl Tryz.underlying4 _) ?_; refine xpL (.bool false) ?_; refine xmL ?_; refine xpL (.slice sq19 b.length cq19) ?_; refine xaL (.string (txt b.length (bl b))) (vB 32 5 9 _ rfl Tryz.underlying32 Tryz.underlying5 Tryz.underlying9 sq19 b.length cq19 (bl b) rfl _ (hT.at (mT _ mS)).2.2 (fun e_=>by have h1_:=(hT.at (mT _ mS)).2.1 e_; have h2_:=(hT.at (mT _ mS)).1; omega)) ?_; refine xpL (.slice sq b.length cq) ?_; refine xaL (.string (txt b.length (bl b))) (vB 32 5 9 _ rfl Tryz.underlying32 Tryz.underlying5 Tryz.underlying9 sq b.length cq (bl b) rfl _ (hT.at (mI 2 rfl)).2.2 (fun e_=>by have h1_:=(hT.at (mI 2 rfl)).2.1 e_; have h2_:=(hT.at (mI 2 rfl)).1; omega)) ?_; refine xaL (.bool false) (q4b _ _ _ _ _ _ rfl rfl rfl rfl _) ?_; refine xpL (.bool false) (xT ?_); obtain ⟨u',hPn⟩:=hback _ _ _ hP; clear hP hback K22 K24 K26 K28 N_n; by_cases hk2:kz%2=0
        · by_cases he:shE r=0
          · go_upto_region 28 with fail; refine wR (xmL ?_); refine xaL (.int .i64 ((kz%2:Nat):Int)) (mU .i64 _ _ _ _ _ _ _ rfl rfl rfl JG UX _) ?_; refine xaL (.bool true) (nP .i64 _ _ _ _ _ _ rfl rfl rfl true (beq_iff_eq.2 JK) _) ?_; refine xmL ?_; refine xpL (.int .i64 (shE r)) ?_; refine xaL (.bool true) (nP .i64 _ _ _ _ _ _ rfl rfl rfl true (beq_iff_eq.2 he) _) ?_; refine xpL (.bool true) (xT ?_); go_upto_region 29 with fail; refine wR ?_; refine xm2 (xT ?_); obtain ⟨hs1,hs2⟩:=hsent JK he; have HS:=show Hid _ from (And.intro hPn (show Al13 w0 _ [(.slice sm (shB r).length cm,(shB r))] _ from fun p hp=>hT p (by obtain rfl:=xm1 hp; exact mS))); clear hPn hT; go_wp2
            go_roundw
            case rel=>first | exact ⟨q+1,(shB r),sm,cm,_,u',by omega,by go_num,rfl,hs1,hs2,HS.out.1,HS.out.2⟩ | ((repeat apply Exists.intro); exact ⟨⟨q+1,(shB r),sm,cm,_,u',by omega,by go_num,rfl,hs1,hs2,HS.out.1,HS.out.2⟩,rfl⟩)
            case measure=>simp [intOf]; omega
          go_upto_region 28 with fail; refine wR (xmL ?_); refine xaL (.int .i64 ((kz%2:Nat):Int)) (mU .i64 _ _ _ _ _ _ _ rfl rfl rfl JG UX _) ?_; refine xaL (.bool true) (nP .i64 _ _ _ _ _ _ rfl rfl rfl true (beq_iff_eq.2 JK) _) ?_; refine xmL ?_; refine xpL (.int .i64 (shE r)) ?_; refine xaL (.bool false) (nP .i64 _ _ _ _ _ _ rfl rfl rfl false (beq_eq_false_iff_ne.2 he) _) ?_; refine xpL (.bool false) (xT ?_); have HS:=show Hid _ from (And.intro hPn (show Al13 w0 _ [(.slice sl ll.length cl,ll)] _ from fun p hp=>hT p (by obtain rfl:=xm1 hp; exact mT _ (mI 2 rfl)))); clear hPn hT; go_wp2
          exact ZX
        go_upto_region 28 with fail; refine wR (xmL ?_); refine xaL (.int .i64 ((kz%2:Nat):Int)) (mU .i64 _ _ _ _ _ _ _ rfl rfl rfl JG UX _) ?_; refine xaL (.bool false) (nP .i64 _ _ _ _ _ _ rfl rfl rfl false (beq_eq_false_iff_ne.2 JK) _) ?_; refine xmL ?_; with_reducible refine bM ?_ ?_
        · rfl
        simp only [aP,lI,l0,lS]; with_reducible refine bM ?_ ?_
        · rfl
        simp only [aP,lI,l0,lS]; refine xpL (.bool false) (xT ?_); have HS:=show Hid _ from (And.intro hPn (show Al13 w0 _ [(.slice sl ll.length cl,ll)] _ from fun p hp=>hT p (by obtain rfl:=xm1 hp; exact mT _ (mI 2 rfl)))); clear hPn hT; go_wp2
        exact ZX
    go_upto_region 7 with fail; refine wR (xm2 ?_); refine xaL _ (gQ _ 26 35 _ _ _ rfl Tryz.underlying26 rfl _) ?_; refine xaL (.bool true) (gP .i64 _ _ _ _ _ _ rfl rfl rfl true (decide_eq_true JK) _) ?_; refine xmL ?_; refine xpL (.int .i64 (q:Int)) ?_; refine xaL (.bool false) (gP .i64 _ _ _ _ _ _ rfl rfl rfl false (decide_eq_false JK) _) ?_; exact Xb
  go_upto_region 7 with fail; refine wR (xm2 ?_); refine xaL _ (gQ _ 26 35 _ _ _ rfl Tryz.underlying26 rfl _) ?_; refine xaL (.bool false) (gP .i64 _ _ _ _ _ _ rfl rfl rfl false (decide_eq_false JK) _) ?_; refine xmL ?_; with_reducible refine bM ?_ ?_
  · rfl
  simp only [aP,lI,l0,lS]; with_reducible refine bM ?_ ?_
  · rfl
  simp only [aP,lI,l0,lS]; exact Xb
section
open Go.ChangeShapes Go.WideShapes Go.ChangeAt Go.WideMaps Go.WideElems Go.RowKit
def x5c:Option Value→Int
 | some (.int _ n)=>n
 | _=>0
def tX {H:Type} (k:IntKind) (n:Nat) (f:Nat→Int):DataW H:=.agg ((List.range n).map fun j=>.lit (.int k (f j)))
section
variable {H:Type} {enc:TypeId × Value→H} {P:Program} {w:World} {base:Nat} {sp:Nat→Bool} {held:Bool}
theorem vP {t e:TypeId} {n:Nat} {k:IntKind} (hu:P.underlying t=some (.array n e)) (he:P.underlying e=some (.int k)) (hct:P.cellsOf t=n) (hce:P.cellsOf e=1) {fuel:Nat} {cs:List Value} {x:DataW H × List MemPlace}
 (h:DataW.trod enc P w base sp held fuel t cs=some x):∃ f:Nat→Int,(∀ j,j<n→(Lit.int k (f j)).wf=true)∧cs=row k n f∧x=(tX k n f,[]):=by
 obtain ⟨xs,m,_,hx,hl,hn,hel⟩:=DataW.trod_array hu h
 rw [hct] at hl
 have hcell:∀ i,i<n→∃ v,cs[i]?=some (.int k v)∧xs[i]?=some (.lit (.int k v),[])∧(Lit.int k v).wf=true:=by
  intro i hi; have e1:=hel i hi; rw [hce,Nat.mul_one] at e1; have hxi:i<xs.length:=by omega
  rw [gE hxi] at e1; obtain ⟨v,e2,e3,e4⟩:=DataW.trod_int he e1; refine ⟨v,?_,by rw [gE hxi,e3],e4⟩; have hci:i<cs.length:=by omega
  have e5:(cs.drop i).take 1=[cs[i]]:=by rw [List.drop_eq_getElem_cons hci,List.take_succ_cons,List.take_zero]
  rw [e5] at e2; rw [gE hci]; simpa using e2
 refine ⟨fun i=>x5c cs[i]?,fun i hi=>?_,?_,?_⟩
 · obtain ⟨v,e1,_,e3⟩:=hcell i hi; dsimp only; rw [e1]; exact e3
 · refine List.ext_getElem? fun i=>?_
   by_cases hi:i<n
   · obtain ⟨v,e1,_,_⟩:=hcell i hi; rw [xG k n _ i hi,e1]; rfl
   rw [List.getElem?_eq_none JK,List.getElem?_eq_none KV]
 rw [hx]
 congr 1
 · unfold tX; congr 1; refine List.ext_getElem? fun i=>?_
   by_cases hi:i<n
   · obtain ⟨v,e1,e2,_⟩:=hcell i hi; rw [List.getElem?_map,e2,List.getElem?_map,List.getElem?_range hi]; simp only [Option.map_some]; rw [e1]; rfl
   rw [List.getElem?_eq_none (by simp [hn]; omega),List.getElem?_eq_none Ji]
 refine List.flatMap_eq_nil_iff.2 fun y hy=>?_
 obtain ⟨i,hi⟩:=List.mem_iff_getElem?.1 hy
 have hin:i<n:=by have:=(List.getElem?_eq_some_iff.1 hi).1; omega
 obtain ⟨v,_,e2,_⟩:=hcell i hin
 rw [e2] at hi
 rw [← Option.some.inj hi]
end
theorem wf_u8 {n:Int}:(Lit.int .u8 n).wf=true↔0≤n∧n<256:=by
 simp [Lit.wf,IntKind.min,IntKind.max,IntKind.signed,IntKind.bits]
 omega
theorem wf_i64 {n:Int}:(Lit.int .i64 n).wf=true↔-9223372036854775808≤n∧n≤9223372036854775807:=by
 simp [Lit.wf,IntKind.min,IntKind.max,IntKind.signed,IntKind.bits]
theorem gD {H:Type} {k:IntKind} {n:Nat} {f g:Nat→Int} (h:(tX k n f:DataW H)=tX k n g) (j:Nat) (hj:j<n):f j=g j:=by
 unfold tX at h
 injection h with h
 have e:=congrArg (fun l=>l[j]?) h
 simp only [List.getElem?_map,List.getElem?_range hj,Option.map_some,Option.some.injEq] at e
 injection e with e
 injection e
end
section
open Go.ChangeShapes Go.WideShapes Go.ChangeAt Go.WideMaps Go.WideElems Go.RowKit
theorem own:ownKnob Tryz.prog.godebug=none:=by kernel_rfl
theorem dE:Tryz.prog.cellsOf 5=1:=by kernel_rfl
theorem q8u:laidOutB Tryz.prog=true:=by kernel_rfl
structure Fit (H:Type) (Q:TypeId→DataW H→Prop) (m:Nat):Prop where
 bytes:∀ a b,Q 32 (.slice a b)→a.length≤m
 rowOp:∀ a b,Q 26 (.slice a b)→a.length≤m∧∀ d∈a,Q 35 d
 elOp:∀ l,Q 35 (.agg l)→(∀ d,l[1]?=some d→Q 32 d)
section
variable {H:Type} {enc:TypeId × Value→H} {W:World} {Q:TypeId→DataW H→Prop} {m:Nat}
theorem tZ {fs:Array Field} {l:List (TypeId × Nat)} (h:fs.toList.map (fun f=>(f.type,f.offset))=l) (i:Nat) (t:TypeId) (o:Nat) (hi:l[i]?=some (t,o)):∃ f,fs[i]?=some f∧f.type=t∧f.offset=o:=by
 rw [← h,List.getElem?_map] at hi
 obtain ⟨f,h1,h2⟩:=Option.map_eq_some_iff.1 hi
 injection h2 with h2 h3
 exact ⟨f,by simpa using h1,h2,h3⟩
theorem j3u (F:Fit H Q m) {fuel:Nat} {cs:List Value} {x:DataW H × List MemPlace} (h:DataW.trod enc Tryz.prog W 0 (fun _=>true) true fuel 32 cs=some x) (hq:Q 32 x.1) :
 ∃ (sp:Option Addr) (cap:Nat) (bs:List Int),cs=[.slice sp bs.length cap]∧Src W sp bs.length (bl bs)∧bs.length≤cap∧(sp=none→cap=0)∧bs.length≤m∧Byts bs:=by
 rcases open_ints Tryz.underlying32 Tryz.underlying5 dE h with ⟨rfl,rfl⟩ | ⟨ad,len,cap,zs,rfl,_,hle,hmax,hall,rfl,hcell,hwf⟩
 · exact ⟨none,0,[],rfl,fun j hj=>absurd hj (xnZ j),xnR _,fun _=>rfl,Nat.zero_le _,fun x hx=>(by cases hx)⟩
 simp only [if_true] at hall
 have hm:=F.bytes _ _ hq
 simp only [lits,List.length_map,List.length_take] at hm
 have hl:(zs.take len).length=len:=by rw [List.length_take]; omega
 refine ⟨some ad,cap,zs.take len,by rw [hl],fun j hj=>⟨ad,rfl,?_⟩,by rw [hl]; exact hle,fun e=>(by cases e),by rw [hl]; omega,fun y hy=>wf_u8.1 (hwf y (List.mem_of_mem_take hy))⟩
 rw [hl] at hj
 rw [q9j _ _ _ hj]
 exact hcell j JK
theorem q4z {n:Int} (h:(Lit.int .i64 n).wf=true):i64 n:=by have:=wf_i64.1 h; unfold i64; omega
theorem pT:(Tryz.prog.fieldsOf 35).toList.map (fun f=>(f.type,f.offset))=[(3,0),(32,1),(4,2),(3,3)]:=by kernel_rfl
theorem q8m (F:Fit H Q m) {fuel:Nat} {cs:List Value} {x:DataW H × List MemPlace} (h:DataW.trod enc Tryz.prog W 0 (fun _=>true) true fuel 35 cs=some x) (hq:Q 35 x.1) :
 ∃ (v:Opv) (bp:Option Addr) (bc:Nat),cs=Opc v bp bc∧OpV W m v bp bc:=by
 obtain ⟨xs,n,_,hx,hl,hlen,hf⟩:=DataW.trod_struct (fs:=Tryz.prog.fieldsOf 35) JU h
 have hn:Tryz.prog.cellsOf 35=4:=by kernel_rfl
 have hc0:Tryz.prog.cellsOf 4=1:=by kernel_rfl
 have hc1:Tryz.prog.cellsOf 32=1:=by kernel_rfl
 have hc2:Tryz.prog.cellsOf 3=1:=by kernel_rfl
 have hs:xs.length=4:=by rw [hlen]; kernel_rfl
 rw [hn] at hl
 rw [hx] at hq
 have hq2:=F.elOp _ hq
 match cs,hl with
 | [c0,c1,c2,c3],_ =>
   obtain ⟨f0,e0,t0,o0⟩:=tZ pT 0 3 0 rfl; have g0:=hf 0 f0 e0; rw [t0,o0,hc2,gE JK] at g0; obtain ⟨f1,e1,t1,o1⟩:=tZ pT 1 32 1 rfl; have g1:=hf 1 f1 e1; rw [t1,o1,hc1,gE JK] at g1; obtain ⟨f2,e2,t2,o2⟩:=tZ pT 2 4 2 rfl; have g2:=hf 2 f2 e2; rw [t2,o2,hc0,gE JK] at g2; obtain ⟨f3,e3,t3,o3⟩:=tZ pT 3 3 3 rfl; have g3:=hf 3 f3 e3; rw [t3,o3,hc2,gE JK] at g3; obtain ⟨x_k,q0,_,w0⟩:=DataW.trod_int Tryz.underlying3 g0; obtain ⟨bp,bc,x_b,q1,b11,b12,b13,b14,b15⟩:=j3u F g1 (hq2 _ (by rw [List.getElem?_map,gE (show 1<xs.length by omega)]; rfl)); obtain ⟨x_o,q2,_⟩:=DataW.trod_bool Tryz.underlying4 g2; obtain ⟨x_t,q3,_,w3⟩:=DataW.trod_int Tryz.underlying3 g3; simp at q0 q1 q2 q3; exact ⟨⟨x_k,x_b,x_o,x_t⟩,bp,bc,by rw [q0,q1,q2,q3]; rfl,⟨q4z w0,b11,b12,b13,b14,b15,q4z w3⟩⟩
theorem q3u (F:Fit H Q m) {fuel:Nat} {cs:List Value} {x:DataW H × List MemPlace} (h:DataW.trod enc Tryz.prog W 0 (fun _=>true) true fuel 26 cs=some x) (hq:Q 26 x.1) :
 ∃ (sp:Option Addr) (cap:Nat) (l:List Opv),cs=[.slice sp l.length cap]∧q7d W m sp l∧l.length≤cap∧(sp=none→cap=0)∧l.length≤m:=by
 rcases DataW.trod_slice Tryz.underlying26 h with ⟨rfl,rfl⟩ | ⟨a,len,cap,elems,rest,n,_,rfl,rfl,hb,hl,hm,hlen,hel,_,_⟩
 · exact ⟨none,0,[],rfl,fun j v hv=>(by simp at hv),xnR _,fun _=>rfl,Nat.zero_le _⟩
 have hc:Tryz.prog.cellsOf 35=4:=by kernel_rfl
 have hq2:=F.rowOp _ _ hq
 rw [List.length_map] at hq2
 have key:∀ k,k≤len→∃ l:List Opv,l.length=k∧∀ j v,l[j]?=some v→∃ ad bp bc,(some a:Option Addr)=some ad∧(∀ k x,(Opc v bp bc)[k]?=some x→W.cell? ((ad.add (j*4)).add k)=some x)∧OpV W m v bp bc:=by
  intro k
  induction k with
  | zero=>exact fun _=>⟨[],rfl,fun j f hj=>by simp at hj⟩
  | succ k ih =>
    intro hk; obtain ⟨l,h1,h2⟩:=ih JK; have h3:=hel k JK; rw [hc,gE JK] at h3; obtain ⟨cs,h4,h5⟩:=Option.bind_eq_some_iff.1 h3; obtain ⟨v,bp,bc,rfl,hv⟩:=q8m F h5 (hq2.2 _ (List.mem_map_of_mem (List.getElem_mem JK))); obtain ⟨_,_,h6⟩:=World.cells?_some h4; refine ⟨l++[v],by rw [List.length_append,h1]; rfl,fun j g hj=>?_⟩; by_cases hjk:j<l.length
    · rw [List.getElem?_append_left hjk] at hj; exact h2 j g hj
    rw [List.getElem?_append_right JK] at hj; have hj0:j=k:=by
     rcases Nat.lt_or_ge (j-l.length) 1 with h' | h'
     · omega
     rw [List.getElem?_eq_none (by simpa using h')] at hj; cases hj
    subst hj0; rw [h1,Nat.sub_self] at hj; injection hj with hj
    subst hj; refine ⟨a,bp,bc,rfl,fun i v hiv=>?_,hv⟩; have hi:i<4:=by
     rcases Nat.lt_or_ge i 4 with h' | h'
     · exact h'
     rw [List.getElem?_eq_none (by exact h')] at hiv; cases hiv
    rw [h6 i hi]; exact hiv
 obtain ⟨l,h1,h2⟩:=key len (xnR _)
 exact ⟨some a,cap,l,by rw [h1],h2,by omega,fun e=>(by cases e),by omega⟩
end
def Wok {H:Type} (t:TypeId) (d:DataW H):Prop:=∀ n∈d.weights Tryz.prog t,n≤reachBytes
theorem nG {H:Type} {P:Program} {e:TypeId} {d:DataW H} {n:Nat} (hn:n∈d.weights P e):∀ {l:List (DataW H)},d∈l→n∈DataW.weightsAll P e l
 | x::l,h=>by
   simp only [DataW.weightsAll,List.mem_append]
   rcases xc1 h with rfl | h
   · exact .inl hn
   · exact .inr (nG hn h)
theorem x3i (H:Type):Fit H Wok 140737488351232 where
 bytes a b h:=by
  have h1:=h ((a.length+b.length)*Tryz.prog.bytesOf 5) (by simp only [DataW.weights,Tryz.underlying32]; exact mS); rw [show Tryz.prog.bytesOf 5=1 by kernel_rfl] at h1; simp only [reachBytes] at h1; omega
 rowOp a b h:=by
  have h1:=h ((a.length+b.length)*Tryz.prog.bytesOf 35) (by simp only [DataW.weights,Tryz.underlying26]; exact mS); rw [show Tryz.prog.bytesOf 35=48 by kernel_rfl] at h1; simp only [reachBytes] at h1; refine ⟨by omega,fun d hd n hn=>h n ?_⟩; simp only [DataW.weights,Tryz.underlying26]; exact mT _ (List.mem_append_left _ (nG hn hd))
 elOp l h:=by
  have hu:Tryz.prog.underlying 35=some (.struct (Tryz.prog.fieldsOf 35)):=by kernel_rfl
  have ht:(Tryz.prog.fieldsOf 35).toList.map (·.type)=[3,32,4,3]:=by kernel_rfl
  have e:∀ n∈DataW.weightsEach Tryz.prog [3,32,4,3] l,n≤reachBytes:=fun n hn=>h n (by simp only [DataW.weights,hu,ht]; exact hn)
  exact fun d hd n hn=>e n (DataW.weights_mem_each (j:=1) rfl hd n hn)
theorem eR:Tryz.prog.cellsOf 23=32:=by kernel_rfl
theorem j4q:Tryz.prog.cellsOf 4=1:=by kernel_rfl
theorem j4o:(Tryz.prog.fieldsOf 25).toList.map (fun f=>(f.type,f.offset))=[(23,0),(23,32),(23,64),(23,96),(4,128),(23,129)]:=by kernel_rfl
theorem x1s (cs:List Value) (hl:cs.length=161):cs=[(cs.drop 0).take 32,(cs.drop 32).take 32,(cs.drop 64).take 32,(cs.drop 96).take 32,(cs.drop 128).take 1,(cs.drop 129).take 32].flatten:=by
 have h:∀ (o n:Nat) (r:List Value),r=cs.drop (o+n)→cs.drop o=(cs.drop o).take n++r:=fun o n r e=>by
  rw [e,← List.drop_drop,List.take_append_drop]
 have e6:cs.drop 129=(cs.drop 129).take 32++[]:=h 129 32 [] (by rw [List.drop_eq_nil_of_le JK])
 have e5:=h 128 1 _ e6.symm; have e4:=h 96 32 _ e5.symm; have e3:=h 64 32 _ e4.symm; have e2:=h 32 32 _ e3.symm; have e1:=h 0 32 _ e2.symm
 rw [List.drop_zero] at e1
 exact e1
def l32 (o:Nat→Int):List Int:=(List.range 32).map o
theorem q8v (o:Nat→Int):row .u8 32 o=row .u8 32 (bl (l32 o)):=yV .u8 32 fun j hj=>(gW 32 o j hj).symm
theorem q4l {o:Nat→Int} (h:In 256 32 o):Byts (l32 o):=fun x hx=>by
 obtain ⟨j,hj,rfl⟩:=List.mem_map.1 hx
 exact h j (List.mem_range.1 hj)
theorem x5d {n:Nat} {f:Nat→Int} (h:∀ j,j<n→(Lit.int .u8 (f j)).wf=true):In 256 n f:=fun j hj=>wf_u8.1 (h j hj)
theorem q6t {H:Type} {enc:TypeId × Value→H} {W:World} {r:Reach} {b0:Nat} {v:Value} {d:DataW H} {p:List MemPlace} (hv:Value.okWide Tryz.prog W r b0 25 v) (h:DataW.Trod enc Tryz.prog W 0 (fun _=>true) true 25 v d p) :
 ∃ (a e b f:Nat→Int) (wr:Bool) (O:List Int),v=.agg ([row .u8 32 a,row .u8 32 e,row .u8 32 b,row .u8 32 f,[.bool wr],row .u8 32 (bl O)].flatten).toArray∧In 256 32 a∧In 256 32 e∧In 256 32 b∧In 256 32 f∧O.length=32∧Byts O:=by
 have hu:Tryz.prog.underlying 25=some (.struct (Tryz.prog.fieldsOf 25)):=by kernel_rfl
 simp only [Value.okWide,hu] at hv
 obtain ⟨cs,rfl,_⟩:=hv
 obtain ⟨fuel,h⟩:=h
 obtain ⟨xs,n,_,_,hl,hlen,hf⟩:=DataW.trod_struct (fs:=Tryz.prog.fieldsOf 25) JU h
 have hs:xs.length=6:=by rw [hlen]; kernel_rfl
 rw [show Tryz.prog.cellsOf 25=161 by kernel_rfl] at hl
 have hk:∀ i o,i<6→[(23,0),(23,32),(23,64),(23,96),(4,128),(23,129)][i]?=some (23,o)→∃ g:Nat→Int,((Value.agg cs).cells.toList.drop o).take 32=row .u8 32 g∧In 256 32 g:=fun i o hi hio=>by
  obtain ⟨f,e,t,ho⟩:=tZ j4o i 23 o hio; have g:=hf i f e; rw [t,ho,eR,gE JK] at g; obtain ⟨x,w,q,_⟩:=vP Tryz.underlying23 Tryz.underlying5 eR dE g; exact ⟨x,q,x5d w⟩
 obtain ⟨a,qa,ia⟩:=hk 0 0 JG rfl
 obtain ⟨e,qe,ie⟩:=hk 1 32 JG rfl
 obtain ⟨b,qb,ib⟩:=hk 2 64 JG rfl
 obtain ⟨f,qf,jf⟩:=hk 3 96 JG rfl
 obtain ⟨o,qo,io⟩:=hk 5 129 JG rfl
 obtain ⟨fb,eb,tb,ob⟩:=tZ j4o 4 4 128 rfl
 have g:=hf 4 fb eb
 rw [tb,ob,j4q,gE JK] at g
 obtain ⟨wr,qw,_⟩:=DataW.trod_bool Tryz.underlying4 g
 have key:=x1s _ hl
 rw [qa,qe,qb,qf,qw,qo,q8v o] at key
 refine ⟨a,e,b,f,wr,l32 o,?_,ia,ie,ib,jf,by unfold l32; rw [List.length_map,List.length_range],q4l io⟩
 exact congrArg Value.agg (by rw [← key]; rfl)
section
variable {H:Type} {enc:TypeId × Value→H} {W:World} {Q:TypeId→DataW H→Prop} {m:Nat}
theorem x1f {t:TypeId} (hr:Tryz.prog.readableRec t=true) (hrow:t<Tryz.prog.types.size) {v:Value} {d:DataW H} {p:List MemPlace} (h:DataW.Trod enc Tryz.prog W 0 (fun _=>true) true t v d p) (W':World) (hb:Below W.heap.size W W'):DataW.Trod enc Tryz.prog W' 0 (fun b=>decide (b<W.heap.size)) true t v d p :=
 hb.trod q8u hr hrow h (by obtain ⟨fuel,hf⟩:=h; exact fun x hx=>DataW.trod_lt _ _ _ _ hf x hx)
theorem q9n (F:Fit H Q m) {r:Reach} {b0:Nat} {v:Value} {d:DataW H} {p:List MemPlace} (hv:Value.okWide Tryz.prog W r b0 26 v) (h:DataW.Trod enc Tryz.prog W 0 (fun _=>true) true 26 v d p) (hq:Q 26 d) :
 ∃ (sp:Option Addr) (cap:Nat) (l:List Opv),v=.slice sp l.length cap∧q7d W m sp l∧l.length≤cap∧(sp=none→cap=0)∧l.length≤m:=by
 obtain ⟨sp,len,cap,rfl⟩:=okWide_slice Tryz.underlying26 hv
 obtain ⟨fuel,hf⟩:=h
 obtain ⟨sp',cap',l,h1,h2⟩:=q3u F hf hq
 simp [Value.cells] at h1
 obtain ⟨rfl,rfl,rfl⟩:=h1
 exact ⟨_,_,l,rfl,h2⟩
end
end
section
open Go.ChangeShapes Go.WideShapes Go.ChangeAt Go.WideMaps Go.WideElems Go.RowKit
theorem fB {H:Type} {enc:TypeId × Value→H} {P:Program} {w:World} {base:Nat} {sp:Nat→Bool} {held:Bool} {fuel:Nat} {cs:List Value} {q:List MemPlace} {d:DataW H} {t r e:TypeId} {k:IntKind} {n m:Nat} (hu:P.underlying t=some (.array n r)) (hr:P.underlying r=some (.array m e)) (he:P.underlying e=some (.int k)) (cr:P.cellsOf r=m) (ce:P.cellsOf e=1) (hm:0<m)
 (g:Nat→Int) (hd:d=.agg ((List.range n).map fun i=>tX k m (fun j=>g (m*i+j)))) (h:DataW.trod enc P w base sp held fuel t cs=some (d,q)):∀ j,j<n*m→cs[j]?=some (.int k (g j)):=by
 obtain ⟨xs,_,_,hx,_,hn,hel⟩:=DataW.trod_array hu h
 intro j hj
 have hi:j/m<n:=(Nat.div_lt_iff_lt_mul hm).2 hj
 have hjm:j%m<m:=Nat.mod_lt _ hm
 have hdm:j/m*m+j%m=j:=Nat.div_add_mod' j m
 have e1:=hel (j/m) hi
 rw [cr] at e1
 have hxi:j/m<xs.length:=by rw [hn]; exact hi
 rw [gE hxi] at e1
 obtain ⟨f,_,e2,e3⟩:=vP hr he cr ce e1
 simp only [Prod.mk.injEq] at hx
 rw [hd] at hx
 have hx1:((List.range n).map fun i=>(tX k m (fun j=>g (m*i+j)):DataW H))=xs.map (·.1):=by
  have:=hx.1; injection this
 have e6:(xs.map (·.1))[j/m]?=some (tX k m f):=by rw [List.getElem?_map,gE hxi,e3]; rfl
 rw [← hx1,List.getElem?_map,List.getElem?_range hi] at e6
 simp only [Option.map_some,Option.some.injEq] at e6
 have e7:=gD e6 (j%m) hjm
 have e8:((cs.drop (j/m*m)).take m)[j%m]?=some (.int k (f (j%m))):=by rw [e2]; exact xG _ _ _ _ hjm
 rw [List.getElem?_take,if_pos hjm,List.getElem?_drop,hdm] at e8
 rw [e8,← e7,Nat.mul_comm m,hdm]
end
section
open Go.ChangeShapes Go.WideShapes Go.ChangeAt Go.WideMaps Go.WideElems Go.RowKit
theorem x6y:Tryz.prog.cellsOf 138=8:=by kernel_rfl
theorem x5x:Tryz.prog.cellsOf 118=1:=by kernel_rfl
theorem x3p:Tryz.prog.cellsOf 5=1:=by kernel_rfl
theorem x6x:Tryz.prog.cellsOf 119=16:=by kernel_rfl
theorem x6w:Tryz.prog.cellsOf 180=4:=by kernel_rfl
theorem x6v:Tryz.prog.cellsOf 154=4:=by kernel_rfl
theorem x6u:Tryz.prog.cellsOf 3=1:=by kernel_rfl
theorem x5w:Tryz.prog.cellsOf 191=4:=by kernel_rfl
theorem x5v:Tryz.prog.cellsOf 120=16:=by kernel_rfl
theorem x5u:Tryz.prog.cellsOf 187=3:=by kernel_rfl
theorem q6c:Tryz.prog.cellsOf 54=1:=by kernel_rfl
theorem x0w:Tryz.prog.cellsOf 105=4:=by kernel_rfl
theorem gDZ0 : Tryz.prog.globalNamed "sheave/blake.iv" = some 2 := by kernel_rfl
theorem tDZ0:(Tryz.prog.globals[2]?).map (·.type)=some 138:=by kernel_rfl
theorem gDZ1 : Tryz.prog.globalNamed "sheave/blake.rows" = some 5 := by kernel_rfl
theorem tDZ1:(Tryz.prog.globals[5]?).map (·.type)=some 179:=by kernel_rfl
theorem gDZ2 : Tryz.prog.globalNamed "sheave/blake.places" = some 4 := by kernel_rfl
theorem tDZ2:(Tryz.prog.globals[4]?).map (·.type)=some 181:=by kernel_rfl
theorem gDZ3 : Tryz.prog.globalNamed "sheave/chacha.first" = some 6 := by kernel_rfl
theorem tDZ3:(Tryz.prog.globals[6]?).map (·.type)=some 154:=by kernel_rfl
theorem gDZ4 : Tryz.prog.globalNamed "sheave/chacha.places" = some 7 := by kernel_rfl
theorem tDZ4:(Tryz.prog.globals[7]?).map (·.type)=some 192:=by kernel_rfl
theorem gDZ5 : Tryz.prog.globalNamed "sheave/clamp.kept" = some 8 := by kernel_rfl
theorem tDZ5:(Tryz.prog.globals[8]?).map (·.type)=some 120:=by kernel_rfl
theorem gDZ6 : Tryz.prog.globalNamed "sheave/clamp.modulus" = some 9 := by kernel_rfl
theorem tDZ6:(Tryz.prog.globals[9]?).map (·.type)=some 187:=by kernel_rfl
theorem gDZ7 : Tryz.prog.globalNamed "sheave/curve.prime" = some 3 := by kernel_rfl
theorem tDZ7:(Tryz.prog.globals[3]?).map (·.type)=some 105:=by kernel_rfl
theorem gDZ8 : Tryz.prog.globalNamed "sheave/curve.power" = some 1 := by kernel_rfl
theorem tDZ8:(Tryz.prog.globals[1]?).map (·.type)=some 105:=by kernel_rfl
theorem gDZ9 : Tryz.prog.globalNamed "sheave/ladder.trims" = some 0 := by kernel_rfl
theorem tDZ9:(Tryz.prog.globals[0]?).map (·.type)=some 101:=by kernel_rfl
theorem x5y:Tryz.prog.cellsOf 101=6:=by kernel_rfl
theorem x5z:Tryz.prog.cellsOf 100=3:=by kernel_rfl
theorem x6a:Tryz.prog.cellsOf 3=1:=by kernel_rfl
theorem wV {H:Type} {enc:TypeId × Value→H} {W:World} {base:Nat} {sp:Nat→Bool} {held:Bool} {fuel:Nat} {c0 c1 c2:Value} {a k s:Int} {x:DataW H × List MemPlace} (hd:x.1=.agg [.lit (.int .i64 a),.lit (.int .u8 k),.lit (.int .u8 s)])
 (h:DataW.trod enc Tryz.prog W base sp held fuel 100 [c0,c1,c2]=some x):c0=.int .i64 a∧c1=.int .u8 k∧c2=.int .u8 s:=by
 obtain ⟨ys,m,_,hx,_,hn,hel⟩:=DataW.trod_struct Tryz.underlying100 h
 have h0:=hel 0 _ rfl; have h1:=hel 1 _ rfl; have h2:=hel 2 _ rfl
 simp [x6a,dE] at h0 h1 h2
 match ys,hn with
 | [y0,y1,y2],_ =>
   obtain ⟨n0,e0,z0,_⟩:=DataW.trod_int Tryz.underlying3 h0; obtain ⟨n1,e1,z1,_⟩:=DataW.trod_int Tryz.underlying5 h1; obtain ⟨n2,e2,z2,_⟩:=DataW.trod_int Tryz.underlying5 h2; rw [hx,z0,z1,z2] at hd; simp only [List.map_cons,List.map_nil,DataW.agg.injEq,List.cons.injEq,DataW.lit.injEq,Lit.int.injEq,true_and,and_true] at hd; obtain ⟨rfl,rfl,rfl⟩:=hd; simp only [List.cons.injEq,and_true] at e0 e1 e2; exact ⟨e0,e1,e2⟩
theorem j6f {H:Type} {enc:TypeId × Value→H} {W:World} {base:Nat} {sp:Nat→Bool} {held:Bool} {fuel:Nat} {cs:Array Value} {q:List MemPlace}
 (h:DataW.trod enc Tryz.prog W base sp held fuel 101 cs.toList=some (Rows.laid_sheave_ladder_trims,q)) :
 cs.toList=[.int .i64 0,.int .u8 248,.int .u8 0,.int .i64 31,.int .u8 127,.int .u8 64]:=by
 obtain ⟨xs,m,_,hx,hl,hn,hel⟩:=DataW.trod_array Tryz.underlying101 h
 rw [x5y] at hl
 have h0:=hel 0 JK; have h1:=hel 1 JK
 rw [x5z] at h0 h1
 generalize cs.toList=l at *
 match l,hl,xs,hn with
 | [c0,c1,c2,c3,c4,c5],_,[x0,x1],_ =>
   simp only [Prod.mk.injEq,Rows.laid_sheave_ladder_trims,List.map_cons,List.map_nil,DataW.agg.injEq,List.cons.injEq,and_true] at hx; obtain ⟨rfl,rfl,rfl⟩:=wV hx.1.1.symm h0; obtain ⟨rfl,rfl,rfl⟩:=wV hx.1.2.symm h1; rfl
def wM {H : Type} : List (String × DataW H) := [("sheave/blake.iv", Rows.laid_sheave_blake_iv), ("sheave/blake.rows", Rows.laid_sheave_blake_rows), ("sheave/blake.places", Rows.laid_sheave_blake_places), ("sheave/chacha.first", Rows.laid_sheave_chacha_first), ("sheave/chacha.places", Rows.laid_sheave_chacha_places), ("sheave/clamp.kept", Rows.laid_sheave_clamp_kept), ("sheave/clamp.modulus", Rows.laid_sheave_clamp_modulus), ("sheave/curve.prime", Rows.laid_sheave_curve_prime), ("sheave/curve.power", Rows.laid_sheave_curve_power), ("sheave/ladder.trims", Rows.laid_sheave_ladder_trims)]
theorem aD {W:World} (h:laidMetH Tryz.prog wM W):HGlob13 W:=by
 rw [MakeChecks.laidMetH_plain _ _ _ JU] at h
 obtain ⟨ps,⟨g0,t0,cs0,f0,p0,q0,hg0,ht0,hv0,hd0,⟨g1,t1,cs1,f1,p1,q1,hg1,ht1,hv1,hd1,⟨g2,t2,cs2,f2,p2,q2,hg2,ht2,hv2,hd2,⟨g3,t3,cs3,f3,p3,q3,hg3,ht3,hv3,hd3,⟨g4,t4,cs4,f4,p4,q4,hg4,ht4,hv4,hd4,⟨g5,t5,cs5,f5,p5,q5,hg5,ht5,hv5,hd5,⟨g6,t6,cs6,f6,p6,q6,hg6,ht6,hv6,hd6,⟨g7,t7,cs7,f7,p7,q7,hg7,ht7,hv7,hd7,⟨g8,t8,cs8,f8,p8,q8,hg8,ht8,hv8,hd8,⟨g9,t9,cs9,f9,p9,q9,hg9,ht9,hv9,hd9,_,_⟩,_⟩,_⟩,_⟩,_⟩,_⟩,_⟩,_⟩,_⟩,_⟩,_,_⟩:=h
 obtain rfl:=Option.some.inj (gDZ0.symm.trans hg0)
 obtain rfl:=Option.some.inj (tDZ0.symm.trans ht0)
 obtain rfl:=Option.some.inj (gDZ1.symm.trans hg1)
 obtain rfl:=Option.some.inj (tDZ1.symm.trans ht1)
 obtain rfl:=Option.some.inj (gDZ2.symm.trans hg2)
 obtain rfl:=Option.some.inj (tDZ2.symm.trans ht2)
 obtain rfl:=Option.some.inj (gDZ3.symm.trans hg3)
 obtain rfl:=Option.some.inj (tDZ3.symm.trans ht3)
 obtain rfl:=Option.some.inj (gDZ4.symm.trans hg4)
 obtain rfl:=Option.some.inj (tDZ4.symm.trans ht4)
 obtain rfl:=Option.some.inj (gDZ5.symm.trans hg5)
 obtain rfl:=Option.some.inj (tDZ5.symm.trans ht5)
 obtain rfl:=Option.some.inj (gDZ6.symm.trans hg6)
 obtain rfl:=Option.some.inj (tDZ6.symm.trans ht6)
 obtain rfl:=Option.some.inj (gDZ7.symm.trans hg7)
 obtain rfl:=Option.some.inj (tDZ7.symm.trans ht7)
 obtain rfl:=Option.some.inj (gDZ8.symm.trans hg8)
 obtain rfl:=Option.some.inj (tDZ8.symm.trans ht8)
 obtain rfl:=Option.some.inj (gDZ9.symm.trans hg9)
 obtain rfl:=Option.some.inj (tDZ9.symm.trans ht9)
 obtain ⟨F0,_,eA0,eB0⟩:=vP Tryz.underlying138 Tryz.underlying118 x6y x5x hd0
 simp only [Prod.mk.injEq] at eB0
 have eF0:=gD (show (tX .u32 8 iv:DataW _)=tX .u32 8 F0 from eB0.1)
 have c_blake_iv:∀ j,j<8→W.cell? ⟨2,j,none⟩=some (.int .u32 (iv j)):=fun j hj=>by
  rw [World.var?_cell hg0 hv0 j,eF0 j hj]; have:=xG .u32 8 F0 j hj; rw [← eA0] at this; simpa using this
 have s0:=World.block_lt_of_cell? W _ (c_blake_iv 0 JG); have b1:=fB (n:=10) (m:=16) Tryz.underlying179 Tryz.underlying119 Tryz.underlying5 x6x x3p JG (fun j=>((sgL.getD j 0:Nat):Int)) (by rfl) hd1
 have c_blake_rows:∀ j,j<160→W.cell? ⟨5,j,none⟩=some (.int .u8 ((fun j=>((sgL.getD j 0:Nat):Int)) j)):=fun j hj=>by
  rw [World.var?_cell hg1 hv1 j]; simpa using b1 j hj
 have s1:=World.block_lt_of_cell? W _ (c_blake_rows 0 JG); have b2:=fB (n:=8) (m:=4) Tryz.underlying181 Tryz.underlying180 Tryz.underlying5 x6w x3p JG eL (by rfl) hd2
 have c_blake_places:∀ j,j<32→W.cell? ⟨4,j,none⟩=some (.int .u8 (eL j)):=fun j hj=>by
  rw [World.var?_cell hg2 hv2 j]; simpa using b2 j hj
 have s2:=World.block_lt_of_cell? W _ (c_blake_places 0 JG)
 obtain ⟨F3,_,eA3,eB3⟩:=vP Tryz.underlying154 Tryz.underlying118 x6v x5x hd3
 simp only [Prod.mk.injEq] at eB3
 have eF3:=gD (show (tX .u32 4 q5c:DataW _)=tX .u32 4 F3 from eB3.1)
 have c_chacha_first:∀ j,j<4→W.cell? ⟨6,j,none⟩=some (.int .u32 (q5c j)):=fun j hj=>by
  rw [World.var?_cell hg3 hv3 j,eF3 j hj]; have:=xG .u32 4 F3 j hj; rw [← eA3] at this; simpa using this
 have s3:=World.block_lt_of_cell? W _ (c_chacha_first 0 JG); have b4:=fB (n:=8) (m:=4) Tryz.underlying192 Tryz.underlying191 Tryz.underlying3 x5w x6u JG plc (by rfl) hd4
 have c_chacha_places:∀ j,j<32→W.cell? ⟨7,j,none⟩=some (.int .i64 (plc j)):=fun j hj=>by
  rw [World.var?_cell hg4 hv4 j]; simpa using b4 j hj
 have s4:=World.block_lt_of_cell? W _ (c_chacha_places 0 JG)
 obtain ⟨F5,_,eA5,eB5⟩:=vP Tryz.underlying120 Tryz.underlying5 x5v x3p hd5
 simp only [Prod.mk.injEq] at eB5
 have eF5:=gD (show (tX .u8 16 sQ:DataW _)=tX .u8 16 F5 from eB5.1)
 have c_clamp_kept:∀ j,j<16→W.cell? ⟨8,j,none⟩=some (.int .u8 (sQ j)):=fun j hj=>by
  rw [World.var?_cell hg5 hv5 j,eF5 j hj]; have:=xG .u8 16 F5 j hj; rw [← eA5] at this; simpa using this
 have s5:=World.block_lt_of_cell? W _ (c_clamp_kept 0 JG)
 obtain ⟨F6,_,eA6,eB6⟩:=vP Tryz.underlying187 Tryz.underlying54 x5u q6c hd6
 simp only [Prod.mk.injEq] at eB6
 have eF6:=gD (show (tX .u64 3 qW:DataW _)=tX .u64 3 F6 from eB6.1)
 have c_clamp_modulus:∀ j,j<3→W.cell? ⟨9,j,none⟩=some (.int .u64 (qW j)):=fun j hj=>by
  rw [World.var?_cell hg6 hv6 j,eF6 j hj]; have:=xG .u64 3 F6 j hj; rw [← eA6] at this; simpa using this
 have s6:=World.block_lt_of_cell? W _ (c_clamp_modulus 0 JG)
 obtain ⟨F7,_,eA7,eB7⟩:=vP Tryz.underlying105 Tryz.underlying54 x0w q6c hd7
 simp only [Prod.mk.injEq] at eB7
 have eF7:=gD (show (tX .u64 4 pW:DataW _)=tX .u64 4 F7 from eB7.1)
 have c_curve_prime:∀ j,j<4→W.cell? ⟨3,j,none⟩=some (.int .u64 (pW j)):=fun j hj=>by
  rw [World.var?_cell hg7 hv7 j,eF7 j hj]; have:=xG .u64 4 F7 j hj; rw [← eA7] at this; simpa using this
 have s7:=World.block_lt_of_cell? W _ (c_curve_prime 0 JG)
 obtain ⟨F8,_,eA8,eB8⟩:=vP Tryz.underlying105 Tryz.underlying54 x0w q6c hd8
 simp only [Prod.mk.injEq] at eB8
 have eF8:=gD (show (tX .u64 4 eW:DataW _)=tX .u64 4 F8 from eB8.1)
 have c_curve_power:∀ j,j<4→W.cell? ⟨1,j,none⟩=some (.int .u64 (eW j)):=fun j hj=>by
  rw [World.var?_cell hg8 hv8 j,eF8 j hj]; have:=xG .u64 4 F8 j hj; rw [← eA8] at this; simpa using this
 have s8:=World.block_lt_of_cell? W _ (c_curve_power 0 JG); have b9:=j6f hd9
 have c_ladder_trims:∀ j,W.cell? ⟨0,j,none⟩=cs9.toList[j]?:=fun j=>by
  rw [World.var?_cell hg9 hv9 j]; simp
 rw [b9] at c_ladder_trims
 have s9:=World.block_lt_of_cell? W _ (c_ladder_trims 0)
 have hsz:10≤W.heap.size:=by dsimp only at s0 s1 s2 s3 s4 s5 s6 s7 s8 s9; omega
 exact ⟨⟨⟨⟨c_chacha_first,c_chacha_places,hsz⟩,⟨c_clamp_modulus,c_clamp_kept,hsz⟩⟩,⟨c_blake_iv,c_blake_rows,c_blake_places,hsz⟩⟩,⟨c_curve_prime,c_curve_power,hsz⟩,⟨c_ladder_trims 0,c_ladder_trims 1,c_ladder_trims 2,c_ladder_trims 3,c_ladder_trims 4,c_ladder_trims 5⟩⟩
theorem j7f (os:Os) (args:Array Value):laidMet Tryz.prog wM ((World.doorLaid Tryz.prog 160 os).forCall (fun _ _=>0) ⟨#[],args,[]⟩).memory:=laidMet_of_run' 8 JU JU
theorem q1e (os:Os) (args:Array Value):laidMetH Tryz.prog wM ((World.doorLaid Tryz.prog 160 os).forCall (fun _ _=>0) ⟨#[],args,[]⟩).memory :=
 laidMetH_of_parts3 (fuel:=8) (j7f os args) JU JU
end
end Go.Proofs.YtknodlefhclijaaGreatDoor
