/- Texts of Aw Ay Opn Open21, joined. -/
import Derived.Test.YtmedjdadhmdpgaaP5SchedFastest
import Derived.Test.YtmedjdadhmdpgaaP2SchedFastest
import Derived.ProofKit
import Derived.LaidMore
import Derived.OpenShut
import Derived.Deep.Strs
import Derived.Stop.Joined
import Derived.Test.YtmedjdadhmdpgaaRows
set_option maxRecDepth 20000
set_option maxHeartbeats 64000000
namespace Go.Proofs.Ytmedjdadhmdpgaa
open Go.RowKit
theorem sav_is (s:Sch) (id:Int):sav s id=decide ((sgf s id).rs.length<(sgf s id).win):=by
 unfold sav sgf
 cases sfd s.L id <;> rfl
theorem idxI21 (ad:Addr) (len cap i:Nat) (hi:i<len) {o:Oper} {a:Act} (x y:Operand) (ho:o.op=.indexAddr 29 x y) (hx:a.eval x=.slice (some ad) len cap) (hy:a.eval y=.int .i64 (i:Int)) (w:World):(execOp a.eval o).run Try.prog w=.ok (.value (.pointer (some (ad.add i)))) w:=by
 have h:=idxSm 29 3 len cap 1 .i64 ad i x y Try.underlying29 (fun _=>by kernel_rfl) hi ho hx hy w
 rw [Nat.mul_one] at h
 exact h
theorem bl_over {l:List Int} {i:Nat} (h:l.length≤i):bl l i=0:=by
 unfold bl
 rw [List.getD_eq_getElem?_getD,List.getElem?_eq_none h]
 rfl
def ahd (s:Sch) (x:Int):Int:=if s.last<x then x-s.last-1 else 18446744073709551616+x-s.last-1
def plt (s:Sch) (a r:List Int) (i j:Nat):Bool:=if s.tu=true then decide (ahd s (bl a i)<ahd s (bl a j)) else decide (bl r i<bl r j)
def Pst (s:Sch) (a r:List Int) (i:Nat) (best:Int):Prop :=
 (best=-1∧spk s a r i=(-1,0))∨∃ j:Nat,j<i∧best=(j:Int)∧0≤bl a j∧bl a j<9223372036854775808∧(spk s a r i).1=bl a j∧(s.tu=false→(spk s a r i).2=bl r j)
theorem Pst.skip {s:Sch} {a r:List Int} {i:Nat} {best:Int} (h:Pst s a r i best) (hs:sav s (bl a i)=false):Pst s a r (i+1) best:=by
 have e:spk s a r (i+1)=spk s a r i:=by show spb s _ _ _=_; unfold spb; rw [hs,if_neg (by decide)]
 unfold Pst
 rw [e]
 rcases h with h | ⟨j,h1,h2⟩
 · exact .inl h
 · exact .inr ⟨j,by omega,h2⟩
theorem Pst.takes {s:Sch} (hw:SchW s) {a r:List Int} {i:Nat} {best:Int} (h:Pst s a r i best) (hs:sav s (bl a i)=true) (hb:best<0∨∃ j:Nat,best=(j:Int)∧plt s a r i j=true):Pst s a r (i+1) (i:Int):=by
 have hin:=sav_in hw hs; have hl1:=hw.l1
 refine .inr ⟨i,by omega,rfl,hin.1,hin.2,?_⟩
 show (spb s (spk s a r i) (bl a i) (bl r i)).1=_∧(_→(spb s (spk s a r i) (bl a i) (bl r i)).2=_)
 unfold spb
 rw [hs,if_pos rfl]
 rcases h with ⟨h1,h2⟩ | ⟨j,h1,h2,h3,h4,h5,h6⟩
 · rw [h2]
   by_cases t:s.tu=true
   · rw [if_pos t,if_pos (.inl (by show (-1:Int)<0; decide))]
     exact ⟨rfl,fun e=>by rw [t] at e; cases e⟩
   · rw [if_neg t,if_pos (.inl (by show (-1:Int)<0; decide))]
     exact ⟨rfl,fun _=>rfl⟩
 · obtain hb | ⟨j',e,hp⟩:=hb
   · omega
   · obtain rfl:j'=j:=by omega
     unfold plt at hp
     by_cases t:s.tu=true
     · rw [if_pos t] at hp ⊢
       have hp:=of_decide_eq_true hp
       unfold ahd at hp
       rw [h5,if_pos (by split at hp <;> split at hp <;> omega)]
       exact ⟨rfl,fun e=>by rw [t] at e; cases e⟩
     · rw [if_neg t] at hp ⊢
       have hp:=of_decide_eq_true hp
       have t':s.tu=false:=by cases h:s.tu with | true=>exact absurd h t | false=>rfl
       rw [h6 t',if_pos (.inr hp)]
       exact ⟨rfl,fun _=>rfl⟩
theorem Pst.keeps {s:Sch} (hw:SchW s) {a r:List Int} {i:Nat} {j:Nat} (h:Pst s a r i (j:Int)) (hs:sav s (bl a i)=true) (hp:plt s a r i j=false):Pst s a r (i+1) (j:Int):=by
 have hin:=sav_in hw hs; have hl1:=hw.l1
 rcases h with ⟨h1,h2⟩ | ⟨j',h1,h2,h3,h4,h5,h6⟩
 · omega
 · obtain rfl:j=j':=by omega
   have e:spk s a r (i+1)=spk s a r i:=by
    show spb s (spk s a r i) (bl a i) (bl r i)=_
    unfold spb
    rw [hs,if_pos rfl]
    unfold plt at hp
    by_cases t:s.tu=true
    · rw [if_pos t] at hp ⊢
      have hp:=of_decide_eq_false hp
      unfold ahd at hp
      rw [h5,if_neg (by split at hp <;> split at hp <;> omega)]
    · rw [if_neg t] at hp ⊢
      have hp:=of_decide_eq_false hp
      have t':s.tu=false:=by cases h:s.tu with | true=>exact absurd h t | false=>rfl
      rw [h6 t',h5,if_neg (by omega)]
   refine .inr ⟨j,by omega,rfl,h3,h4,?_⟩
   rw [e]
   exact ⟨h5,h6⟩
theorem vroom21_any (w:World) (B:Nat) (n win:Nat) (sr:Option Addr) (cr:Nat) (c0:w.cell? ⟨B,0,none⟩=some (.int .i64 (win:Int))) (c2:w.cell? ⟨B,2,none⟩=some (.slice sr n cr)) :
 Calls Try.prog 47 #[.pointer (some ⟨B,0,none⟩)] w fun e w'=>e=.returned (.bool (decide (n<win)))∧Below w.heap.size w w':=by
 have M:=Mm.init w
 go_enter Try.func47,Try.ntmps47
 go_upto_region 0 with fail; refine wp_region_list ?_; refine xpL (.bool false) ?_; refine xT ?_; go_upto_region 1 with fail; have hdr:=(Below.refl w.heap.size w).drew; replace M:=M.drew; clear hdr; refine wp_region_held_drew (S:=fun w'=>Below w.heap.size w w') (by kernel_rfl) M.below ?_; intro _; generalize w.drew=w1 at M ⊢
 refine xrH 0 3 rfl (.pointer (some ⟨B,0,none⟩)) (fun _ hS=>(by kernel_rfl)) M.below ?_; refine xrH 1 4 rfl (.pointer (some ⟨B,0,none⟩)) (fun _ hS=>(by kernel_rfl)) M.below ?_; refine xrH 2 5 rfl (.pointer (some ⟨B,2,none⟩)) (fun _ hS=>(by kernel_rfl)) M.below ?_
 refine xrH 3 6 rfl (.slice sr n cr) (fun _ hS=>load1 61 _ ⟨B,2,none⟩ _ rfl rfl (fun _=>by kernel_rfl) (cell21 hS c2)) M.below ?_; refine xrH 4 7 rfl (.int .i64 ((n:Nat):Int)) (fun _ hS=>lenS _ 61 72 sr n cr rfl Try.underlying61 rfl _) M.below ?_; refine xrH 5 8 rfl (.pointer (some ⟨B,0,none⟩)) (fun _ hS=>(by kernel_rfl)) M.below ?_
 refine xrH 6 9 rfl (.pointer (some ⟨B,0,none⟩)) (fun _ hS=>(by kernel_rfl)) M.below ?_; refine xrH 7 10 rfl (.pointer (some ⟨B,0,none⟩)) (fun _ hS=>(by kernel_rfl)) M.below ?_; refine xrH 8 11 rfl (.int .i64 ((win:Nat):Int)) (fun _ hS=>load1 3 _ ⟨B,0,none⟩ _ rfl rfl (fun _=>by kernel_rfl) (cell21 hS c0)) M.below ?_
 refine xrH 9 12 rfl (.bool (decide (n<win))) (fun _ hS=>lssI .i64 _ _ _ _ _ _ rfl rfl rfl (decide (n<win)) (by rw [decide_eq_decide]; omega) _) M.below ?_; refine xrH 10 2 rfl (.bool (decide (n<win))) (fun _ hS=>(by kernel_rfl)) M.below ?_
 refine wpAnyH_done (by kernel_rfl) ?_ _
 first | show Exit.then _ _ _ _ _ | show Exit.inBlock _ _ _ _ _
 have hbel:=M.below; clear M ; go_wp2; go_ret
 exact ⟨rfl,hbel⟩
theorem vtat21_any (r:List Int) (sr:Option Addr) (cr:Nat) (hrl:r.length<140737488355328) (w:World) (Sr:SrcI w sr r.length (bl r)) (i:Nat) :
 Calls Try.prog 52 #[.slice sr r.length cr,.int .i64 (i:Int)] w fun e w'=>e=.returned (.int .i64 (bl r i))∧Below w.heap.size w w':=by
 have M:=Mm.init w
 go_enter Try.func52,Try.ntmps52
 go_upto_region 0 with fail; refine wp_region_list ?_; refine xpL (.int .i64 0) ?_; refine xT ?_
 by_cases hir:i<r.length
 · go_upto_region 1 with fail
   refine wp_region_list ?_; refine xpL (.int .i64 (i:Int)) ?_; refine xpL (.slice sr r.length cr) ?_; refine xaL (.int .i64 ((r.length:Nat):Int)) (lenS _ 29 3 sr r.length cr rfl Try.underlying29 rfl _) ?_; refine xaL (.bool true) (lssI .i64 _ _ _ _ _ _ rfl rfl rfl true (decide_eq_true (by omega)) _) ?_; refine xT ?_
   obtain ⟨adr,hadr⟩:=SrcI.some21 Sr (by omega)
   subst hadr; go_upto_region 2 with fail; refine wp_region_list ?_; refine xpL (.slice (some adr) r.length cr) ?_; refine xpL (.int .i64 (i:Int)) ?_; refine xaL (.pointer (some (adr.add i))) (idxI21 adr _ _ i hir _ _ rfl rfl rfl _) ?_; refine xaL (.int .i64 (bl r i)) (load1 3 _ (adr.add i) _ rfl rfl (fun _=>by kernel_rfl) ((Sr.below M.below (xnR _)).atE21 rfl hir)) ?_
   refine xpL (.int .i64 (bl r i)) ?_; refine xT ?_; have hbel:=M.below; clear M ; go_wp2; go_ret
   exact ⟨rfl,hbel⟩
 · go_upto_region 1 with fail
   refine wp_region_list ?_; refine xpL (.int .i64 (i:Int)) ?_; refine xpL (.slice sr r.length cr) ?_; refine xaL (.int .i64 ((r.length:Nat):Int)) (lenS _ 29 3 sr r.length cr rfl Try.underlying29 rfl _) ?_; refine xaL (.bool false) (lssI .i64 _ _ _ _ _ _ rfl rfl rfl false (decide_eq_false (by omega)) _) ?_; refine xT ?_; go_upto_region 3 with fail; refine wp_region_list ?_
   refine xpL (.int .i64 0) ?_; refine xT ?_; have hE:=show Hid _ from (show bl r i=0 from bl_over (by omega)); have hbel:=M.below; clear M ; go_wp2; go_ret
   exact ⟨by rw [hE.out]; try rfl,hbel⟩
theorem vr1_any (r:List Int) (sr:Option Addr) (cr:Nat) (hrl:r.length<140737488355328) (c:Nat) (w:World) (hc:w.cell? ⟨c,0,none⟩=some (.slice sr r.length cr)) (Sr:SrcI w sr r.length (bl r)) (i j:Nat) :
 Calls Try.prog 51 #[.int .i64 (i:Int),.int .i64 (j:Int),.pointer (some ⟨c,0,none⟩)] w fun e w'=>e=.returned (.bool (decide (bl r i<bl r j)))∧Below w.heap.size w w':=by
 have M:=Mm.init w
 go_enter Try.func51,Try.ntmps51
 go_upto_region 0 with fail; refine wp_region_list ?_; refine xpL (.bool false) ?_; refine xT ?_; go_upto_region 1 with fail; have hdr:=(Below.refl w.heap.size w).drew; replace M:=M.drew; clear hdr; refine wp_region_held_drew (S:=fun w'=>Below w.heap.size w w') (by kernel_rfl) M.below ?_; intro _; generalize w.drew=w1 at M ⊢
 refine xrH 0 6 rfl (.slice sr r.length cr) (fun _ hS=>load1 29 _ ⟨c,0,none⟩ _ rfl rfl (fun _=>by kernel_rfl) (cell21 hS hc)) M.below ?_; refine xrH 1 7 rfl (.int .i64 (i:Int)) (fun _ hS=>(by kernel_rfl)) M.below ?_; refine xrH 3 9 rfl (.slice sr r.length cr) (fun _ hS=>load1 29 _ ⟨c,0,none⟩ _ rfl rfl (fun _=>by kernel_rfl) (cell21 hS hc)) M.below ?_
 refine xrH 4 10 rfl (.int .i64 (j:Int)) (fun _ hS=>(by kernel_rfl)) M.below ?_; have key:=vtat21_any r sr cr hrl w1 (Sr.below M.below (xnR _)) i; refine callH (i:=2) (some 8) rfl (by kernel_rfl) rfl rfl (fun _=>by kernel_rfl) key ?_; clear key; rintro e w3 ⟨rfl,l_⟩; replace M:=M.call l_
 clear l_
 refine ⟨_,rfl,M.below,?_⟩
 simp only [aP,lI,l0,lS]; have key:=vtat21_any r sr cr hrl w3 (Sr.below M.below (xnR _)) j; refine callH (i:=5) (some 11) rfl (by kernel_rfl) rfl rfl (fun _=>by kernel_rfl) key ?_; clear key; rintro e w5 ⟨rfl,l_⟩; replace M:=M.call l_
 clear l_
 refine ⟨_,rfl,M.below,?_⟩
 simp only [aP,lI,l0,lS]; refine xrH 6 12 rfl (.bool (decide (bl r i<bl r j))) (fun _ hS=>lssI .i64 _ _ _ _ _ _ rfl rfl rfl (decide (bl r i<bl r j)) rfl _) M.below ?_; refine xrH 7 5 rfl (.bool (decide (bl r i<bl r j))) (fun _ hS=>(by kernel_rfl)) M.below ?_
 refine wpAnyH_done (by kernel_rfl) ?_ _
 first | show Exit.then _ _ _ _ _ | show Exit.inBlock _ _ _ _ _
 have hbel:=M.below; clear M ; go_wp2; go_ret
 exact ⟨rfl,hbel⟩
theorem vr2_any (a:List Int) (sa:Option Addr) (ca:Nat) (hal:a.length<140737488355328) (s:Sch) (hw:SchW s) (R c d:Nat) (w:World) (hc:w.cell? ⟨c,0,none⟩=some (.slice sa a.length ca)) (hd:w.cell? ⟨d,0,none⟩=some (.pointer (some ⟨R,0,none⟩))) (hR:w.cell? ⟨R,1,none⟩=some (.int .u64 (s.last+1))) (Sa:SrcI w sa a.length (bl a)) (i:Nat) (hi:i<a.length) (hx:0≤bl a i∧bl a i<9223372036854775808) :
 Calls Try.prog 53 #[.int .i64 (i:Int),.pointer (some ⟨c,0,none⟩),.pointer (some ⟨d,0,none⟩)] w fun e w'=>e=.returned (.int .u64 (ahd s (bl a i)))∧Below w.heap.size w w':=by
 obtain ⟨adr,hadr⟩:=SrcI.some21 Sa (by omega)
 subst hadr; have hl1:=hw.l1; have hl2:=hw.l2; have M:=Mm.init w
 go_enter Try.func53,Try.ntmps53
 go_upto_region 0 with fail; refine wp_region_list ?_; refine xpL (.int .u64 0) ?_; refine xT ?_; go_upto_region 1 with fail; have hdr:=(Below.refl w.heap.size w).drew; replace M:=M.drew; clear hdr; refine wp_region_held_drew (S:=fun w'=>Below w.heap.size w w') (by kernel_rfl) M.below ?_; intro _; generalize w.drew=w1 at M ⊢
 refine xrH 0 5 rfl (.slice (some adr) a.length ca) (fun _ hS=>load1 29 _ ⟨c,0,none⟩ _ rfl rfl (fun _=>by kernel_rfl) (cell21 hS hc)) M.below ?_; refine xrH 1 6 rfl (.int .i64 (i:Int)) (fun _ hS=>(by kernel_rfl)) M.below ?_; refine xrH 2 7 rfl (.pointer (some (adr.add i))) (fun _ hS=>idxI21 adr _ _ i hi _ _ rfl rfl rfl _) M.below ?_
 refine xrH 3 8 rfl (.int .i64 (bl a i)) (fun _ hS=>load1 3 _ (adr.add i) _ rfl rfl (fun _=>by kernel_rfl) ((Sa.below hS (xnR _)).atE21 rfl hi)) M.below ?_; refine xrH 4 9 rfl (.int .u64 (bl a i)) (fun _ hS=>convI .i64 .u64 _ _ _ _ _ rfl rfl Try.underlying52 (by kernel_rfl) rfl (by rw [IntKind.wrap_u64]; omega) _) M.below ?_
 refine xrH 5 10 rfl (.pointer (some ⟨R,0,none⟩)) (fun _ hS=>load1 24 _ ⟨d,0,none⟩ _ rfl rfl (fun _=>by kernel_rfl) (cell21 hS hd)) M.below ?_; refine xrH 6 11 rfl (.pointer (some ⟨R,0,none⟩)) (fun _ hS=>(by kernel_rfl)) M.below ?_; refine xrH 7 12 rfl (.pointer (some ⟨R,1,none⟩)) (fun _ hS=>(by kernel_rfl)) M.below ?_
 refine xrH 8 13 rfl (.int .u64 (s.last+1)) (fun _ hS=>load1 52 _ ⟨R,1,none⟩ _ rfl rfl (fun _=>by kernel_rfl) (cell21 hS hR)) M.below ?_; refine xrH 9 14 rfl (.int .u64 (ahd s (bl a i))) (fun _ hS=>subI .u64 _ _ _ _ _ _ _ rfl rfl rfl (by rw [IntKind.wrap_u64]; unfold ahd; split <;> omega) _) M.below ?_
 refine xrH 10 4 rfl (.int .u64 (ahd s (bl a i))) (fun _ hS=>(by kernel_rfl)) M.below ?_
 refine wpAnyH_done (by kernel_rfl) ?_ _
 first | show Exit.then _ _ _ _ _ | show Exit.inBlock _ _ _ _ _
 have hbel:=M.below; clear M ; go_wp2; go_ret
 exact ⟨rfl,hbel⟩
theorem vr3_any (a:List Int) (sa:Option Addr) (ca:Nat) (hal:a.length<140737488355328) (s:Sch) (hw:SchW s) (R c d:Nat) (w:World) (hc:w.cell? ⟨c,0,none⟩=some (.slice sa a.length ca)) (hd:w.cell? ⟨d,0,none⟩=some (.pointer (some ⟨R,0,none⟩))) (hR:w.cell? ⟨R,1,none⟩=some (.int .u64 (s.last+1))) (Sa:SrcI w sa a.length (bl a)) (g:Nat) (hg:w.cell? ⟨g,0,none⟩=some (.func (.func 53) #[] #[.pointer (some ⟨c,0,none⟩),.pointer (some ⟨d,0,none⟩)])) (i j:Nat) (hi:i<a.length) (hx:0≤bl a i∧bl a i<9223372036854775808) (hj:j<a.length) (hy:0≤bl a j∧bl a j<9223372036854775808) :
 Calls Try.prog 54 #[.int .i64 (i:Int),.int .i64 (j:Int),.pointer (some ⟨g,0,none⟩)] w fun e w'=>e=.returned (.bool (decide (ahd s (bl a i)<ahd s (bl a j))))∧Below w.heap.size w w':=by
 have M:=Mm.init w
 go_enter Try.func54,Try.ntmps54
 go_upto_region 0 with fail; refine wp_region_list ?_; refine xpL (.bool false) ?_; refine xT ?_; go_upto_region 1 with fail; have hdr:=(Below.refl w.heap.size w).drew; replace M:=M.drew; clear hdr; refine wp_region_held_drew (S:=fun w'=>Below w.heap.size w w') (by kernel_rfl) M.below ?_; intro _; generalize w.drew=w1 at M ⊢
 refine xrH 0 6 rfl (.func (.func 53) #[] #[.pointer (some ⟨c,0,none⟩),.pointer (some ⟨d,0,none⟩)]) (fun _ hS=>load1 89 _ ⟨g,0,none⟩ _ rfl rfl (fun _=>by kernel_rfl) (cell21 hS hg)) M.below ?_; refine xrH 1 7 rfl (.int .i64 (i:Int)) (fun _ hS=>(by kernel_rfl)) M.below ?_
 refine xrH 3 9 rfl (.func (.func 53) #[] #[.pointer (some ⟨c,0,none⟩),.pointer (some ⟨d,0,none⟩)]) (fun _ hS=>load1 89 _ ⟨g,0,none⟩ _ rfl rfl (fun _=>by kernel_rfl) (cell21 hS hg)) M.below ?_; refine xrH 4 10 rfl (.int .i64 (j:Int)) (fun _ hS=>(by kernel_rfl)) M.below ?_
 have key:=vr2_any a sa ca hal s hw R c d w1 (cell21 M.below hc) (cell21 M.below hd) (cell21 M.below hR) (Sa.below M.below (xnR _)) i hi hx; refine callH (i:=2) (some 8) rfl (by kernel_rfl) rfl rfl (fun _=>by kernel_rfl) key ?_; clear key; rintro e w2 ⟨rfl,l_⟩; replace M:=M.call l_
 clear l_
 refine ⟨_,rfl,M.below,?_⟩
 simp only [aP,lI,l0,lS]; have key:=vr2_any a sa ca hal s hw R c d w2 (cell21 M.below hc) (cell21 M.below hd) (cell21 M.below hR) (Sa.below M.below (xnR _)) j hj hy; refine callH (i:=5) (some 11) rfl (by kernel_rfl) rfl rfl (fun _=>by kernel_rfl) key ?_; clear key; rintro e w3 ⟨rfl,l_⟩; replace M:=M.call l_
 clear l_
 refine ⟨_,rfl,M.below,?_⟩
 simp only [aP,lI,l0,lS]; refine xrH 6 12 rfl (.bool (decide (ahd s (bl a i)<ahd s (bl a j)))) (fun _ hS=>lssI .u64 _ _ _ _ _ _ rfl rfl rfl (decide (ahd s (bl a i)<ahd s (bl a j))) rfl _) M.below ?_; refine xrH 7 5 rfl (.bool (decide (ahd s (bl a i)<ahd s (bl a j)))) (fun _ hS=>(by kernel_rfl)) M.below ?_
 refine wpAnyH_done (by kernel_rfl) ?_ _
 first | show Exit.then _ _ _ _ _ | show Exit.inBlock _ _ _ _ _
 have hbel:=M.below; clear M ; go_wp2; go_ret
 exact ⟨rfl,hbel⟩
structure Rul (w:World) (fv:Value) (lt:Nat→Nat→Bool) (a:List Int):Prop where
 is:∃ K c,fv=.func (.func K) #[] #[.pointer (some ⟨c,0,none⟩)]∧(K=51∨K=54)∧∀ w',Below w.heap.size w w'→∀ i j:Nat,i<a.length→0≤bl a i∧bl a i<9223372036854775808→j<a.length→0≤bl a j∧bl a j<9223372036854775808→Calls Try.prog K #[.int .i64 (i:Int),.int .i64 (j:Int),.pointer (some ⟨c,0,none⟩)] w' fun e w''=>e=.returned (.bool (lt i j))∧Below w'.heap.size w' w''
theorem vrul21_any (a:List Int) (sa:Option Addr) (ca:Nat) (hal:a.length<140737488355328) (r:List Int) (sr:Option Addr) (cr:Nat) (hrl:r.length<140737488355328) (s:Sch) (hw:SchW s) (p:Int) (hp:s.tu=decide (p=1)) (R:Nat) (w:World) (hR0:w.cell? ⟨R,0,none⟩=some (.int .i64 p)) (hR:w.cell? ⟨R,1,none⟩=some (.int .u64 (s.last+1))) (Sa:SrcI w sa a.length (bl a)) (Sr:SrcI w sr r.length (bl r)) :
 Calls Try.prog 46 #[.pointer (some ⟨R,0,none⟩),.slice sa a.length ca,.slice sr r.length cr] w fun e w'=>∃ fv,e=.returned fv∧Rul w' fv (plt s a r) a∧Below w.heap.size w w':=by
 have M:=Mm.init w
 go_enter Try.func46,Try.ntmps46
 go_upto_region 0 with fail; refine wp_region_list ?_; refine actL (w':=w.alloc (.cells #[.pointer (some ⟨R,0,none⟩)] 24)) (.pointer (some ⟨w.heap.size,0,none⟩)) rfl (by kernel_rfl) ?_; simp only [aP,lI,l0,lS]
 have hB_B1:w.heap.size≤w.heap.size:=M.below.size
 replace M:=M.box #[.pointer (some ⟨R,0,none⟩)] 24 w.heap.size rfl; generalize w.alloc (.cells #[.pointer (some ⟨R,0,none⟩)] 24)=w1 at M  ⊢; generalize eB:w.heap.size=B1 at M hB_B1  ⊢
 have hE_B1:w.heap.size≤B1:=Nat.le_of_eq eB
 have hF_B1:B1≤w.heap.size:=Nat.le_of_eq eB.symm
 clear eB
 replace M:Mm w ((B1,[.pointer (some ⟨R,0,none⟩)])::([]:List (Nat × List Value))) w1:=M
 refine actL (w':=w1.alloc (.cells #[.slice sa a.length ca] 29)) (.pointer (some ⟨w1.heap.size,0,none⟩)) rfl (by kernel_rfl) ?_; simp only [aP,lI,l0,lS]
 have hB_B2:w.heap.size≤w1.heap.size:=M.below.size
 replace M:=M.box #[.slice sa a.length ca] 29 w1.heap.size rfl; generalize w1.alloc (.cells #[.slice sa a.length ca] 29)=w2 at M  ⊢; generalize eB:w1.heap.size=B2 at M hB_B2  ⊢
 have hE_B2:w1.heap.size≤B2:=Nat.le_of_eq eB
 have hF_B2:B2≤w1.heap.size:=Nat.le_of_eq eB.symm
 clear eB
 replace M:Mm w ((B2,[.slice sa a.length ca])::(B1,[.pointer (some ⟨R,0,none⟩)])::([]:List (Nat × List Value))) w2:=M
 refine actL (w':=w2.alloc (.cells #[.slice sr r.length cr] 29)) (.pointer (some ⟨w2.heap.size,0,none⟩)) rfl (by kernel_rfl) ?_; simp only [aP,lI,l0,lS]
 have hB_B3:w.heap.size≤w2.heap.size:=M.below.size
 replace M:=M.box #[.slice sr r.length cr] 29 w2.heap.size rfl; generalize w2.alloc (.cells #[.slice sr r.length cr] 29)=w3 at M  ⊢; generalize eB:w2.heap.size=B3 at M hB_B3  ⊢
 have hE_B3:w2.heap.size≤B3:=Nat.le_of_eq eB
 have hF_B3:B3≤w2.heap.size:=Nat.le_of_eq eB.symm
 clear eB
 replace M:Mm w ((B3,[.slice sr r.length cr])::(B2,[.slice sa a.length ca])::(B1,[.pointer (some ⟨R,0,none⟩)])::([]:List (Nat × List Value))) w3:=M
 refine xpL (.nilFunc) ?_; refine xT ?_
 by_cases hp1:¬ p=1
 · have ht:s.tu=false:=by rw [hp]; exact decide_eq_false hp1
   go_upto_region 1 with fail; refine wp_region_list ?_; refine xaL (.pointer (some ⟨R,0,none⟩)) (load1 24 _ ⟨B1,0,none⟩ _ rfl rfl (fun _=>by kernel_rfl) (M.get (mI 2 rfl) 0 _ rfl)) ?_; refine xpL (.pointer (some ⟨R,0,none⟩)) ?_; refine xpL (.pointer (some ⟨R,0,none⟩)) ?_; refine xaL (.int .i64 p) (load1 3 _ ⟨R,0,none⟩ _ rfl rfl (fun _=>by kernel_rfl) (cell21 M.below hR0)) ?_
   refine xaL (.bool true) (neqI .i64 _ _ _ _ _ _ rfl rfl rfl true (bne_iff_ne.2 hp1) _) ?_; refine xT ?_; go_upto_region 2 with fail; refine wp_region_list ?_; refine xpL (.func (.func 51) #[] #[.pointer (some ⟨B3,0,none⟩)]) ?_; refine xpL (.func (.func 51) #[] #[.pointer (some ⟨B3,0,none⟩)]) ?_; refine xT ?_
   have hF:=show Hid _ from (show Rul w3 (.func (.func 51) #[] #[.pointer (some ⟨B3,0,none⟩)]) (plt s a r) a from ⟨_,_,rfl,.inl rfl,fun w' l_ i j hi hx hj hy=>by
    have hpl:plt s a r i j=_:=if_neg (by rw [ht]; decide)
    rw [hpl]
    exact vr1_any r sr cr hrl B3 w' (cell21 l_ (M.get mS 0 _ rfl)) (Sr.below (M.below.trans (l_.mono M.below.size)) (xnR _)) i j⟩)
   have hbel:=show Hid _ from M.below; clear M; go_wp2; go_ret
   exact ⟨_,rfl,hF.out,hbel.out⟩
 · replace hp1:=Classical.not_not.1 hp1
   have ht:s.tu=true:=by rw [hp]; exact decide_eq_true hp1
   go_upto_region 1 with fail; refine wp_region_list ?_; refine xaL (.pointer (some ⟨R,0,none⟩)) (load1 24 _ ⟨B1,0,none⟩ _ rfl rfl (fun _=>by kernel_rfl) (M.get (mI 2 rfl) 0 _ rfl)) ?_; refine xpL (.pointer (some ⟨R,0,none⟩)) ?_; refine xpL (.pointer (some ⟨R,0,none⟩)) ?_; refine xaL (.int .i64 p) (load1 3 _ ⟨R,0,none⟩ _ rfl rfl (fun _=>by kernel_rfl) (cell21 M.below hR0)) ?_
   refine xaL (.bool false) (neqI .i64 _ _ _ _ _ _ rfl rfl rfl false (by rw [bne_eq_false_iff_eq]; exact hp1) _) ?_; refine xT ?_; go_upto_region 3 with fail; refine wp_region_list ?_; refine xpL (.func (.func 53) #[] #[.pointer (some ⟨B2,0,none⟩),.pointer (some ⟨B1,0,none⟩)]) ?_
   refine actL (w':=w3.alloc (.cells #[.nilFunc] 89)) (.pointer (some ⟨w3.heap.size,0,none⟩)) rfl (by kernel_rfl) ?_; simp only [aP,lI,l0,lS]
   have hB_B4:w.heap.size≤w3.heap.size:=M.below.size
   replace M:=M.box #[.nilFunc] 89 w3.heap.size rfl; generalize w3.alloc (.cells #[.nilFunc] 89)=w4 at M  ⊢; generalize eB:w3.heap.size=B4 at M hB_B4  ⊢
   have hE_B4:w3.heap.size≤B4:=Nat.le_of_eq eB
   have hF_B4:B4≤w3.heap.size:=Nat.le_of_eq eB.symm
   clear eB
   replace M:Mm w ((B4,[.nilFunc])::(B3,[.slice sr r.length cr])::(B2,[.slice sa a.length ca])::(B1,[.pointer (some ⟨R,0,none⟩)])::([]:List (Nat × List Value))) w4:=M
   refine skipOpL rfl (storeAny (.func (.func 53) #[] #[.pointer (some ⟨B2,0,none⟩),.pointer (some ⟨B1,0,none⟩)]) B4 0 89 _ _ rfl rfl rfl rfl rfl (M.isSome mS 0 (by simp)) (M.free mS 0 (by simp)) (by kernel_rfl)) ?_; simp only [Act.put]; replace M:=M.set 0 (by simp) (.func (.func 53) #[] #[.pointer (some ⟨B2,0,none⟩),.pointer (some ⟨B1,0,none⟩)])
   generalize w4.setCell ⟨B4,0,none⟩ (.func (.func 53) #[] #[.pointer (some ⟨B2,0,none⟩),.pointer (some ⟨B1,0,none⟩)])=w5 at M  ⊢
   replace M:Mm w ((B4,[.func (.func 53) #[] #[.pointer (some ⟨B2,0,none⟩),.pointer (some ⟨B1,0,none⟩)]])::(B3,[.slice sr r.length cr])::(B2,[.slice sa a.length ca])::(B1,[.pointer (some ⟨R,0,none⟩)])::([]:List (Nat × List Value))) w5:=M
   refine xT ?_; go_upto_region 4 with fail; refine wp_region_list ?_; refine xpL (.func (.func 54) #[] #[.pointer (some ⟨B4,0,none⟩)]) ?_; refine xpL (.func (.func 54) #[] #[.pointer (some ⟨B4,0,none⟩)]) ?_; refine xT ?_
   have hF:=show Hid _ from (show Rul w5 (.func (.func 54) #[] #[.pointer (some ⟨B4,0,none⟩)]) (plt s a r) a from ⟨_,_,rfl,.inr rfl,fun w' l_ i j hi hx hj hy=>by
    have hpl:plt s a r i j=_:=if_pos ht
    rw [hpl]
    exact vr3_any a sa ca hal s hw R B2 B1 w' (cell21 l_ (M.get (mI 2 rfl) 0 _ rfl)) (cell21 l_ (M.get (mI 3 rfl) 0 _ rfl)) (cell21 (M.below.trans (l_.mono M.below.size)) hR) (Sa.below (M.below.trans (l_.mono M.below.size)) (xnR _)) B4 (cell21 l_ (M.get mS 0 _ rfl)) i j hi hx hj hy⟩)
   have hbel:=show Hid _ from M.below; clear M; go_wp2; go_ret
   exact ⟨_,rfl,hF.out,hbel.out⟩
theorem PIn.last {w:World} {s:Sch} {p:Int} {m:Option Nat} {E:Pes} {C:List (Nat × List Value)} (h:PIn w s p m E C) (x:Int):PIn w { s with last:=x } p m E C:=⟨h.pol,h.map,h.lst,h.ok,h.ck⟩
theorem Pst.noneD {s:Sch} {a r:List Int} {best:Int} (h:Pst s a r a.length best) (hb:best<0):spA s a r=0∧spB s a r=false∧spc s a r=s:=by
 rcases h with ⟨h1,h2⟩ | ⟨j,h1,h2,_⟩
 · have e:spN s a r=-1:=by unfold spN; rw [h2]
   unfold spA spB spc
   rw [e]
   exact ⟨rfl,rfl,rfl⟩
 · omega
theorem Pst.someD {s:Sch} {a r:List Int} {best:Int} (h:Pst s a r a.length best) (hb:¬ best<0):∃ j:Nat,best=(j:Int)∧j<a.length∧0≤bl a j∧bl a j<9223372036854775808∧spA s a r=bl a j∧spB s a r=true∧spc s a r={ s with last:=bl a j }:=by
 rcases h with ⟨h1,h2⟩ | ⟨j,h1,h2,h3,h4,h5,_⟩
 · omega
 · have e:spN s a r=bl a j:=by unfold spN; rw [h5]
   refine ⟨j,h2,h1,h3,h4,?_⟩
   unfold spA spB spc
   rw [e,if_neg (by omega),if_neg (by omega),decide_eq_true h3]
   exact ⟨rfl,rfl,rfl⟩
theorem vpck21_any (w0 w:World) (R:Nat) (p:Int) (m:Option Nat) (E:Pes) (C l:List (Nat × List Value)) (s:Sch) (hI:PIn w s p m E C) (hw:SchW s) (M:Mm w0 (pow R s p m E++(C++l)) w) (a:List Int) (sa:Option Addr) (ca:Nat) (hal:a.length<140737488355328) (Sa:SrcI w sa a.length (bl a)) (hai:∀ x∈a,i64 x) (hab:∀ b∈(pow R s p m E).map Prod.fst,a≠[]→b∉ob sa) (r:List Int) (sr:Option Addr) (cr:Nat) (hrl:r.length<140737488355328) (Sr:SrcI w sr r.length (bl r)) :
 Calls Try.prog 23 #[.pointer (some ⟨R,0,none⟩),.slice sa a.length ca,.slice sr r.length cr] w fun e w'=>e=.returned (.tuple #[.int .i64 (spA s a r),.bool (spB s a r)])∧PIn w' (spc s a r) p m E C∧Mm w0 (pow R (spc s a r) p m E++(C++l)) w'∧Off ((pow R s p m E).map Prod.fst) w w':=by
 have MR:Mm w0 ((R,prc s p m)::((mbk m++gp E)++(C++l))) w:=M
 have hR0:=MR.get mS 0 _ rfl; have hR1:=MR.get mS 1 _ rfl; have M0:=show Hid _ from M; clear M MR; have M:=Mm.init w
 go_enter Try.func23,Try.ntmps23
 go_upto_region 0 with fail; refine wp_region_list ?_; refine xpL (.int .i64 0) ?_; refine xpL (.bool false) ?_; refine xT ?_; go_upto_region 1 with fail; refine wp_region_list ?_; refine xpL (.pointer (some ⟨R,0,none⟩)) ?_; refine xpL (.slice sa a.length ca) ?_; refine xpL (.slice sr r.length cr) ?_; have key:=vrul21_any a sa ca hal r sr cr hrl s hw p hI.pol R _ hR0 hR1 Sa Sr
 refine xcL key ?_; clear key; rintro e w2 ⟨fv,rfl,hrul,l_⟩; replace M:=M.call l_
 obtain ⟨K,cf,rfl,hk,hs⟩:=hrul.is
 clear hrul; clear l_; refine xeL ?_; refine xpL (.func (.func K) #[] #[.pointer (some ⟨cf,0,none⟩)]) ?_; refine xT ?_; have hB0:=M.below; have hI1:=hI.below hB0; have MM:=show Hid _ from M0.out.call hB0; have Sa1:=Sa.below hB0 (xnR _); clear M M0 Sa hR0 hR1; have M:=Mm.init w2; go_upto_region 2 with fail; refine wp_region_list ?_; refine xpL (.int .i64 (-1)) ?_; refine xT ?_
 go_upto_region 3 with fail; refine wp_region_list ?_; refine xpL (.slice sa a.length ca) ?_; refine xaL (.int .i64 ((a.length:Nat):Int)) (lenS _ 29 3 sa a.length ca rfl Try.underlying29 rfl _) ?_; refine xpL (.int .i64 0) ?_; refine xT ?_; clear M; go_wp2
 go_loopw [9,18] (fun b_ v_ w'=>∃ (i:Nat) (best:Int),i≤a.length∧b_=.int .i64 best∧v_=.int .i64 (i:Int)∧Hid (Pst s a r i best)∧Below w2.heap.size w2 w') (fun b_ v_ _=>a.length-(intOf v_).toNat)
 case atStart=>exact ⟨0,-1,Nat.zero_le _,rfl,rfl,(show Hid _ from .inl ⟨rfl,rfl⟩),Below.refl _ _⟩
 case round =>
  obtain ⟨i,best,hi,rfl,rfl,hP,hB⟩:=hrel
  have M:=(Mm.init w2).call hB
  by_cases hil:i<a.length
  · go_upto_region 4 with fail
    refine wp_region_list ?_; refine xaL (.bool true) (lssI .i64 _ _ _ _ _ _ rfl rfl rfl true (decide_eq_true (by omega)) _) ?_; refine xT ?_
    obtain ⟨ada,hada⟩:=SrcI.some21 Sa1 (by omega)
    subst hada; have hii:=bl_i64 hai i; go_upto_region 5 with fail; refine wp_region_list ?_; refine xpL (.int .i64 (i:Int)) ?_; refine xaL (.pointer (some (ada.add i))) (idxI21 ada _ _ i hil _ _ rfl rfl rfl _) ?_; refine xaL (.int .i64 (bl a i)) (load1 3 _ (ada.add i) _ rfl rfl (fun _=>by kernel_rfl) ((Sa1.below M.below (xnR _)).atE21 rfl hil)) ?_; refine xpL (.int .i64 (i:Int)) ?_
    refine xpL (.int .i64 (bl a i)) ?_; refine xT ?_
    cases hsv:sav s (bl a i) with
    | false =>
      replace hsv:=show Hid _ from hsv; go_upto_region 6 with fail; refine wp_region_list ?_; refine xpL (.pointer (some ⟨R,0,none⟩)) ?_; refine xpL (.int .i64 (bl a i)) ?_; have key:=vat21_any w0 wr R p m E C l s (hI1.below M.below) (MM.out.call M.below) (bl a i) hii; refine xcL key ?_; clear key; rintro e w4 ⟨B,d,X,rfl,M',P,hdf,hck,lb,hbk⟩; have c0:=M'.get mS 0 _ rfl
      have c2:=M'.get mS 2 _ rfl; replace M:=M.call lb; clear M' P hck hbk lb
      have hsv2:decide (d.Z.length<d.win)=false:=by
       have h_:=sav_is s (bl a i)
       rw [hsv.out,← hdf] at h_
       rw [h_]
       show _=decide ((d.Z.map Prod.fst).length<d.win)
       rw [List.length_map]
      refine xeL ?_; have key_:=vroom21_any w4 B d.Z.length d.win d.sr d.cr c0 c2
      rw [hsv2] at key_
      have key:=key_; refine xcL key ?_; clear key; rintro e w6 ⟨rfl,l_⟩; replace M:=M.call l_
      clear l_; refine xeL ?_; clear key_ c0 c2 hsv2 hdf; refine xpL (.bool false) ?_
      with_reducible refine skipL ?_ ?_
      · rfl
      simp only [aP,lI,l0,lS]
      with_reducible refine skipL ?_ ?_
      · rfl
      simp only [aP,lI,l0,lS]
      with_reducible refine skipL ?_ ?_
      · rfl
      simp only [aP,lI,l0,lS]
      with_reducible refine skipL ?_ ?_
      · rfl
      simp only [aP,lI,l0,lS]
      with_reducible refine skipL ?_ ?_
      · rfl
      simp only [aP,lI,l0,lS]
      with_reducible refine skipL ?_ ?_
      · rfl
      simp only [aP,lI,l0,lS]
      with_reducible refine skipL ?_ ?_
      · rfl
      simp only [aP,lI,l0,lS]
      with_reducible refine skipL ?_ ?_
      · rfl
      simp only [aP,lI,l0,lS]; refine xpL (.bool false) ?_; refine xT ?_; have hP2:=show Hid _ from hP.out.skip hsv.out; have HS:=show Hid _ from M.below; clear M hP; go_wp2
      go_roundw
      case rel=>exact ⟨i+1,best,by omega,rfl,by go_num,hP2,HS.out⟩
      case measure=>simp [intOf]; omega
    | true =>
      replace hsv:=show Hid _ from hsv; have hxi:=sav_in hw hsv.out
      by_cases hb0:best<0
      · go_upto_region 6 with fail
        refine wp_region_list ?_; refine xpL (.pointer (some ⟨R,0,none⟩)) ?_; refine xpL (.int .i64 (bl a i)) ?_; have key:=vat21_any w0 wr R p m E C l s (hI1.below M.below) (MM.out.call M.below) (bl a i) hii; refine xcL key ?_; clear key; rintro e w8 ⟨B,d,X,rfl,M',P,hdf,hck,lb,hbk⟩; have c0:=M'.get mS 0 _ rfl; have c2:=M'.get mS 2 _ rfl; replace M:=M.call lb
        clear M' P hck hbk lb
        have hsv2:decide (d.Z.length<d.win)=true:=by
         have h_:=sav_is s (bl a i)
         rw [hsv.out,← hdf] at h_
         rw [h_]
         show _=decide ((d.Z.map Prod.fst).length<d.win)
         rw [List.length_map]
        refine xeL ?_; have key_:=vroom21_any w8 B d.Z.length d.win d.sr d.cr c0 c2
        rw [hsv2] at key_
        have key:=key_; refine xcL key ?_; clear key; rintro e w10 ⟨rfl,l_⟩; replace M:=M.call l_
        clear l_; refine xeL ?_; clear key_ c0 c2 hsv2 hdf; refine xpL (.bool true) ?_; refine xpL (.int .i64 best) ?_; refine xaL (.bool true) (lssI .i64 _ _ _ _ _ _ rfl rfl rfl true (decide_eq_true hb0) _) ?_; refine xpL (.bool true) ?_
        with_reducible refine skipL ?_ ?_
        · rfl
        simp only [aP,lI,l0,lS]
        with_reducible refine skipL ?_ ?_
        · rfl
        simp only [aP,lI,l0,lS]
        with_reducible refine skipL ?_ ?_
        · rfl
        simp only [aP,lI,l0,lS]
        with_reducible refine skipL ?_ ?_
        · rfl
        simp only [aP,lI,l0,lS]; refine xpL (.bool true) ?_; refine xpL (.bool true) ?_; refine xT ?_; go_upto_region 7 with fail; refine wp_region_list ?_; refine xpL (.int .i64 (i:Int)) ?_; refine xpL (.int .i64 (i:Int)) ?_; refine xT ?_; have hP2:=show Hid _ from hP.out.takes hw hsv.out (.inl hb0); have HS:=show Hid _ from M.below; clear M hP; go_wp2
        go_roundw
        case rel=>exact ⟨i+1,(i:Int),by omega,rfl,by go_num,hP2,HS.out⟩
        case measure=>simp [intOf]; omega
      · obtain ⟨j,rfl,hji,hxj⟩:∃ j:Nat,best=(j:Int)∧j<i∧0≤bl a j∧bl a j<9223372036854775808:=by
         rcases hP.out with ⟨h1,_⟩ | ⟨j,h1,h2,h3,h4,_⟩
         · omega
         · exact ⟨j,h2,h1,h3,h4⟩
        cases hpl:plt s a r i j with
        | true =>
          replace hpl:=show Hid _ from hpl; go_upto_region 6 with fail; refine wp_region_list ?_; refine xpL (.pointer (some ⟨R,0,none⟩)) ?_; refine xpL (.int .i64 (bl a i)) ?_; have key:=vat21_any w0 wr R p m E C l s (hI1.below M.below) (MM.out.call M.below) (bl a i) hii; refine xcL key ?_; clear key; rintro e w12 ⟨B,d,X,rfl,M',P,hdf,hck,lb,hbk⟩; have c0:=M'.get mS 0 _ rfl
          have c2:=M'.get mS 2 _ rfl; replace M:=M.call lb; clear M' P hck hbk lb
          have hsv2:decide (d.Z.length<d.win)=true:=by
           have h_:=sav_is s (bl a i)
           rw [hsv.out,← hdf] at h_
           rw [h_]
           show _=decide ((d.Z.map Prod.fst).length<d.win)
           rw [List.length_map]
          refine xeL ?_; have key_:=vroom21_any w12 B d.Z.length d.win d.sr d.cr c0 c2
          rw [hsv2] at key_
          have key:=key_; refine xcL key ?_; clear key; rintro e w14 ⟨rfl,l_⟩; replace M:=M.call l_
          clear l_; refine xeL ?_; clear key_ c0 c2 hsv2 hdf; refine xpL (.bool true) ?_; refine xpL (.int .i64 (j:Int)) ?_; refine xaL (.bool false) (lssI .i64 _ _ _ _ _ _ rfl rfl rfl false (decide_eq_false hb0) _) ?_; refine xpL (.bool false) ?_; refine xpL (.func (.func K) #[] #[.pointer (some ⟨cf,0,none⟩)]) ?_; refine xpL (.int .i64 (i:Int)) ?_; refine xpL (.int .i64 (j:Int)) ?_
          have key:=hs w14 M.below i j hil hxi (by omega) hxj
          rw [hpl.out] at key
          refine callL rfl (fun _=>by rcases hk with rfl | rfl <;> kernel_rfl) key ?_; clear key; rintro e w15 ⟨rfl,l_⟩; replace M:=M.call l_; clear l_
          refine ⟨_,rfl,?_⟩
          simp only [aP,lI,l0,lS]; refine xpL (.bool true) ?_; refine xpL (.bool true) ?_; refine xT ?_; go_upto_region 7 with fail; refine wp_region_list ?_; refine xpL (.int .i64 (i:Int)) ?_; refine xpL (.int .i64 (i:Int)) ?_; refine xT ?_; have hP2:=show Hid _ from hP.out.takes hw hsv.out (.inr ⟨j,rfl,hpl.out⟩); have HS:=show Hid _ from M.below; clear M hP; go_wp2
          go_roundw
          case rel=>exact ⟨i+1,(i:Int),by omega,rfl,by go_num,hP2,HS.out⟩
          case measure=>simp [intOf]; omega
        | false =>
          replace hpl:=show Hid _ from hpl; go_upto_region 6 with fail; refine wp_region_list ?_; refine xpL (.pointer (some ⟨R,0,none⟩)) ?_; refine xpL (.int .i64 (bl a i)) ?_; have key:=vat21_any w0 wr R p m E C l s (hI1.below M.below) (MM.out.call M.below) (bl a i) hii; refine xcL key ?_; clear key; rintro e w17 ⟨B,d,X,rfl,M',P,hdf,hck,lb,hbk⟩; have c0:=M'.get mS 0 _ rfl
          have c2:=M'.get mS 2 _ rfl; replace M:=M.call lb; clear M' P hck hbk lb
          have hsv2:decide (d.Z.length<d.win)=true:=by
           have h_:=sav_is s (bl a i)
           rw [hsv.out,← hdf] at h_
           rw [h_]
           show _=decide ((d.Z.map Prod.fst).length<d.win)
           rw [List.length_map]
          refine xeL ?_; have key_:=vroom21_any w17 B d.Z.length d.win d.sr d.cr c0 c2
          rw [hsv2] at key_
          have key:=key_; refine xcL key ?_; clear key; rintro e w19 ⟨rfl,l_⟩; replace M:=M.call l_
          clear l_; refine xeL ?_; clear key_ c0 c2 hsv2 hdf; refine xpL (.bool true) ?_; refine xpL (.int .i64 (j:Int)) ?_; refine xaL (.bool false) (lssI .i64 _ _ _ _ _ _ rfl rfl rfl false (decide_eq_false hb0) _) ?_; refine xpL (.bool false) ?_; refine xpL (.func (.func K) #[] #[.pointer (some ⟨cf,0,none⟩)]) ?_; refine xpL (.int .i64 (i:Int)) ?_; refine xpL (.int .i64 (j:Int)) ?_
          have key:=hs w19 M.below i j hil hxi (by omega) hxj
          rw [hpl.out] at key
          refine callL rfl (fun _=>by rcases hk with rfl | rfl <;> kernel_rfl) key ?_; clear key; rintro e w20 ⟨rfl,l_⟩; replace M:=M.call l_; clear l_
          refine ⟨_,rfl,?_⟩
          simp only [aP,lI,l0,lS]; refine xpL (.bool false) ?_; refine xpL (.bool false) ?_; refine xT ?_; have hP2:=show Hid _ from hP.out.keeps hw hsv.out hpl.out; have HS:=show Hid _ from M.below; clear M hP; go_wp2
          go_roundw
          case rel=>exact ⟨i+1,(j:Int),by omega,rfl,by go_num,hP2,HS.out⟩
          case measure=>simp [intOf]; omega
  · obtain rfl:i=a.length:=by omega
    go_upto_region 4 with fail; refine wp_region_list ?_; refine xaL (.bool false) (lssI .i64 _ _ _ _ _ _ rfl rfl rfl false (decide_eq_false (by omega)) _) ?_; refine xT ?_
    by_cases hb0:best<0
    · go_upto_region 9 with fail
      refine wp_region_list ?_; refine xpL (.int .i64 best) ?_; refine xaL (.bool true) (lssI .i64 _ _ _ _ _ _ rfl rfl rfl true (decide_eq_true hb0) _) ?_; refine xT ?_; go_upto_region 10 with fail; refine wp_region_list ?_; refine xpL (.int .i64 0) ?_; refine xpL (.bool false) ?_; refine xT ?_
      obtain ⟨e1,e2,e3⟩:=hP.out.noneD hb0
      have HE:=show Hid _ from (And.intro e1 (And.intro e2 e3)); have HS:=show Hid _ from (And.intro (hI1.below M.below) (And.intro (MM.out.call M.below) ((Off.of_below (X:=(pow R s p m E).map Prod.fst) hB0).below M.below))); clear M MM hI hI1 e1 e2 e3; go_wp2; go_ret2
      rw [HE.out.1,HE.out.2.1,HE.out.2.2]
      exact ⟨rfl,HS.out⟩
    · go_upto_region 9 with fail
      refine wp_region_list ?_; refine xpL (.int .i64 best) ?_; refine xaL (.bool false) (lssI .i64 _ _ _ _ _ _ rfl rfl rfl false (decide_eq_false hb0) _) ?_; refine xT ?_
      obtain ⟨j,rfl,hj,hx0,hx1,e1,e2,e3⟩:=hP.out.someD hb0
      have HE:=show Hid _ from (And.intro e1 (And.intro e2 e3)); clear e1 e2 e3 hP
      obtain ⟨ada,hada⟩:=SrcI.some21 Sa1 (by omega)
      subst hada
      have hRa:R∉ob (some ada):=hab R (mS) (fun e=>by rw [e] at hj; exact xnZ _ hj)
      have hI2:=hI1.below M.below; have Sa2:=Sa1.below M.below (xnR _); have OF:=(Off.of_below (X:=(pow R s p m E).map Prod.fst) hB0).below M.below
      have MF:Mm w0 ((R,[.int .i64 p,.int .u64 (s.last+1),.map m])::((mbk m++gp E)++(C++l))) wr:=MM.out.call M.below
      clear M MM hI hI1; have M:=MF; clear MF; go_upto_region 11 with fail; refine wp_region_list ?_; refine xpL (.pointer (some ⟨R,0,none⟩)) ?_; refine xpL (.slice (some ada) a.length ca) ?_; refine xpL (.int .i64 (j:Int)) ?_; refine xaL (.pointer (some (ada.add j))) (idxI21 ada _ _ j hj _ _ rfl rfl rfl _) ?_
      refine xaL (.int .i64 (bl a j)) (load1 3 _ (ada.add j) _ rfl rfl (fun _=>by kernel_rfl) (Sa2.atE21 rfl hj)) ?_; refine xaL (.int .u64 (bl a j)) (convI .i64 .u64 _ _ _ _ _ rfl rfl Try.underlying52 (by kernel_rfl) rfl (by rw [IntKind.wrap_u64]; omega) _) ?_; refine xaL (.int .u64 (bl a j+1)) (addI .u64 _ _ _ _ _ _ _ rfl rfl rfl (by rw [IntKind.wrap_u64]; omega) _) ?_
      refine xpL (.pointer (some ⟨R,0,none⟩)) ?_; refine xpL (.pointer (some ⟨R,1,none⟩)) ?_; refine skipOpL rfl (storeAny (.int .u64 (bl a j+1)) R 1 52 _ _ rfl rfl rfl rfl rfl (M.isSome mS 1 (by simp)) (M.free mS 1 (by simp)) (by kernel_rfl)) ?_; simp only [Act.put]; replace M:=M.set 1 (by simp) (.int .u64 (bl a j+1))
      replace OF:=OF.trans (((Off.refl [R] _).set (b:=R) mS 1 (.int .u64 (bl a j+1))).mono (fun b_ hb_=>by rw [xm1 hb_]; exact mS)); replace Sa2:=Sa2.off ((Off.refl [R] _).set (b:=R) mS 1 (.int .u64 (bl a j+1))) (fun ad_ e_ _ hm_=>hRa (by rw [← xm1 hm_,e_]; exact mS))
      replace hI2:=hI2.off ((Off.refl [R] _).set (b:=R) mS 1 (.int .u64 (bl a j+1))) (fun q_ hq_ hm_=>M.awayC (x:=mbk m) (fun p_ hp_=>by simp [hp_]) (xm1 hm_ ▸ mem_bl hq_)) (fun b_ hb_=>by obtain rfl:=xm1 hb_; exact M.awayC (fun p_ hp_=>by simp [hp_])) (fun b_ hb_=>by obtain rfl:=xm1 hb_; exact M.awayC (fun p_ hp_=>by simp [hp_]))
      generalize wr.setCell ⟨R,1,none⟩ (.int .u64 (bl a j+1))=w21 at M OF Sa2 hI2 ⊢
      replace M:Mm w0 ((R,[.int .i64 p,.int .u64 (bl a j+1),.map m])::((mbk m++gp E)++(C++l))) w21:=M
      refine xT ?_; go_upto_region 12 with fail; refine wp_region_list ?_; refine xpL (.slice (some ada) a.length ca) ?_; refine xpL (.int .i64 (j:Int)) ?_; refine xaL (.pointer (some (ada.add j))) (idxI21 ada _ _ j hj _ _ rfl rfl rfl _) ?_; refine xaL (.int .i64 (bl a j)) (load1 3 _ (ada.add j) _ rfl rfl (fun _=>by kernel_rfl) (Sa2.atE21 rfl hj)) ?_; refine xpL (.int .i64 (bl a j)) ?_
      refine xpL (.bool true) ?_; refine xT ?_; have HS:=show Hid _ from (show PIn w21 { s with last:=bl a j } p m E C∧Mm w0 (pow R { s with last:=bl a j } p m E++(C++l)) w21∧_ from ⟨hI2.last _,M,OF⟩); clear M OF hI2 Sa2 Sa1; go_wp2; go_ret2
      rw [HE.out.1,HE.out.2.1,HE.out.2.2]
      exact ⟨rfl,HS.out⟩
def PX21 (w:World) (v:Value) (s:Sch) (bs:List (Nat × List Value)):Prop:=∃ R p m E C,v=.pointer (some ⟨R,0,none⟩)∧bs=pow R s p m E++C∧PIn w s p m E C
theorem mem_map_l {a b:List (Nat × List Value)} {x:Nat} (h:x∈a.map Prod.fst):x∈(a++b).map Prod.fst:=by
 rw [List.map_append]
 exact List.mem_append_left _ h
theorem Off.wide21 {a b:List (Nat × List Value)} {w w':World} (o:Off (a.map Prod.fst) w w'):Off ((a++b).map Prod.fst) w w':=o.mono fun _ h=>mem_map_l h
theorem Mm.swap21 {w0 w:World} {a b c l:List (Nat × List Value)} (M:Mm w0 (a++(b++(c++l))) w):Mm w0 ((a++c)++(b++l)) w:=by
 rw [List.append_assoc]
 exact M.perm ((sw21 b c l).append_left a)
theorem Mm.join21 {w0 w:World} {a c l:List (Nat × List Value)} (M:Mm w0 (a++(c++l)) w):Mm w0 ((a++c)++l) w:=by
 rw [List.append_assoc]
 exact M
theorem vsch_any:SchOK PX21 where
 ptr:=fun _ _ _ _ ⟨R,_,_,_,_,h,_⟩=>⟨R,h⟩
 off:=fun w w' v s bs X ⟨R,p,m,E,C,h1,h2,h3⟩ o hX=>by
  subst h2
  refine ⟨R,p,m,E,C,h1,rfl,h3.off o (fun q hq hm=>hX q.1 hm ?_) (fun b hb hm=>hX b hb ?_) (fun b hb hm=>hX b hb ?_)⟩
  · exact mem_bl (List.mem_append_left _ (mT _ (List.mem_append_left _ hq)))
  · obtain ⟨q,hq,rfl⟩:=List.mem_map.1 hm
    exact mem_bl (List.mem_append_left _ (mT _ (List.mem_append_right _ hq)))
  · obtain ⟨q,hq,rfl⟩:=List.mem_map.1 hm
    exact mem_bl (List.mem_append_right _ hq)
 new:=fun w0 w l p _ M=>(vnew21_any w0 w l p M).mono fun e w' ⟨R,he,hI,hM,hb⟩=>⟨_,_,he,⟨R,p,none,[],[],rfl,rfl,hI⟩,by rw [List.append_nil]; exact hM,hb⟩
 opn:=fun w0 w v s bs l id hw hs hi ⟨R,p,m,E,C,h1,h2,h3⟩ M=>by
  subst h1 h2
  rw [List.append_assoc] at M
  exact (vopn21_any w0 w R p m E C l s h3 hs M id hi).mono fun e w' ⟨m',E',he,hI,hM,ho⟩=>⟨_,he,⟨R,p,m',E',C,rfl,rfl,hI⟩,hM.join21,ho.wide21⟩
 cls:=fun w0 w v s bs l id hw hs hi ⟨R,p,m,E,C,h1,h2,h3⟩ M=>by
  subst h1 h2
  rw [List.append_assoc] at M
  exact (vcls21_any w0 w R p m E C l s h3 hw hs M id hi).mono fun e w' ⟨sq,cq,E',he,hN,hI,hM,ho⟩=>⟨sq,cq,_,he,hN,⟨R,p,m,E',C,rfl,rfl,hI⟩,hM.swap21,ho.wide21⟩
 snt:=fun w0 w v s bs l id c now k sk ck hw hs hi _ _ hk hkv N hks ⟨R,p,m,E,C,h1,h2,h3⟩ M=>by
  subst h1 h2
  rw [List.append_assoc] at M
  exact (vsnt21_any w0 w R p m E C l s h3 hw hs M id hi c now k sk ck hk N fun b hb=>hks b (mem_map_l hb)).mono fun e w' ⟨D,E',he,hI,hM,ho⟩=>⟨_,he,⟨R,p,m,E',D++C,rfl,rfl,hI⟩,by
   have h:=hM
   rw [← List.append_assoc D] at h
   exact h.join21,ho.wide21⟩
 got:=fun w0 w v s bs l id top k sk ck now hw hs hi _ _ hk hkv N hks ⟨R,p,m,E,C,h1,h2,h3⟩ M=>by
  subst h1 h2
  rw [List.append_assoc] at M
  exact (vgot21_any w0 w R p m E C l s h3 hw hs M id hi top now k sk ck hk N).mono fun e w' ⟨sq,cq,E',he,hN,hI,hM,ho⟩=>⟨sq,cq,_,he,hN,⟨R,p,m,E',C,rfl,rfl,hI⟩,hM.swap21,ho.wide21⟩
 lat:=fun w0 w v s bs l id now age hw hs hi _ _ ⟨R,p,m,E,C,h1,h2,h3⟩ M=>by
  subst h1 h2
  rw [List.append_assoc] at M
  exact (vlat21_any w0 w R p m E C l s h3 hw hs M id hi now age).mono fun e w' ⟨sq,cq,E',he,hN,hI,hM,ho⟩=>⟨sq,cq,_,he,hN,⟨R,p,m,E',C,rfl,rfl,hI⟩,hM.swap21,ho.wide21⟩
 pck:=fun w0 w v s bs l a sa ca r sr cr hw hs ha _ _ hai Sa hab hr _ _ hri Sr hrb ⟨R,p,m,E,C,h1,h2,h3⟩ M=>by
  subst h1 h2
  rw [List.append_assoc] at M
  exact (vpck21_any w0 w R p m E C l s h3 hw M a sa ca ha Sa hai (fun b hb=>hab b (mem_map_l hb)) r sr cr hr Sr).mono fun e w' ⟨he,hI,hM,ho⟩=>⟨_,he,⟨R,p,m,E,C,rfl,rfl,hI⟩,hM.join21,ho.wide21⟩
 win:=fun w0 w v s bs l id hw hs hi ⟨R,p,m,E,C,h1,h2,h3⟩ M=>by
  subst h1 h2
  rw [List.append_assoc] at M
  exact vwin21_any w0 w R p m E C l s h3 M id hi
 und:=fun w0 w v s bs l id hw hs hi ⟨R,p,m,E,C,h1,h2,h3⟩ M=>by
  subst h1 h2
  rw [List.append_assoc] at M
  exact vund21_any w0 w R p m E C l s h3 M id hi
section
open Go.ChangeShapes Go.WideShapes Go.ChangeAt Go.WideMaps Go.WideElems Go.RowKit
section
variable {H:Type} {enc:TypeId × Value→H} {P:Program} {w:World} {base:Nat} {sp:Nat→Bool} {held:Bool}
end
theorem wf_i64 {n:Int}:(Lit.int .i64 n).wf=true↔-9223372036854775808≤n∧n≤9223372036854775807:=by
 simp [Lit.wf,IntKind.min,IntKind.max,IntKind.signed,IntKind.bits]
end
section
open Go.ChangeShapes Go.WideShapes Go.ChangeAt Go.WideMaps Go.WideElems Go.RowKit
theorem own:ownKnob Try.prog.godebug=none:=by kernel_rfl
theorem cellsInt:Try.prog.cellsOf 3=1:=by kernel_rfl
theorem laidOut:laidOutB Try.prog=true:=by kernel_rfl
structure Fit (H:Type) (Q:TypeId→DataW H→Prop) (m:Nat):Prop where
 ints:∀ a b,Q 29 (.slice a b)→a.length≤m
 rngs:∀ a b,Q 28 (.slice a b)→a.length≤m
 rowOp:∀ a b,Q 22 (.slice a b)→a.length≤m∧∀ d∈a,Q 31 d
 elOp:∀ l,Q 31 (.agg l)→(∀ d,l[4]?=some d→Q 28 d)∧(∀ d,l[5]?=some d→Q 29 d)∧(∀ d,l[6]?=some d→Q 29 d)
theorem i64_of {n:Int} (h:(Lit.int .i64 n).wf=true):i64 n:=by have:=wf_i64.1 h; unfold i64; omega
def Wok {H:Type} (t:TypeId) (d:DataW H):Prop:=∀ n∈d.weights Try.prog t,n≤reachBytes
theorem weights_all {H:Type} {P:Program} {e:TypeId} {d:DataW H} {n:Nat} (hn:n∈d.weights P e):∀ {l:List (DataW H)},d∈l→n∈DataW.weightsAll P e l
 | x::l,h=>by
   simp only [DataW.weightsAll,List.mem_append]
   rcases xc1 h with rfl | h
   · exact .inl hn
   · exact .inr (weights_all hn h)
theorem fitWok (H:Type):Fit H Wok 140737488351232 where
 ints a b h:=by
  have h1:=h ((a.length+b.length)*Try.prog.bytesOf 3) (by simp only [DataW.weights,Try.underlying29]; exact mS)
  rw [show Try.prog.bytesOf 3=8 by kernel_rfl] at h1
  simp only [reachBytes] at h1
  omega
 rngs a b h:=by
  have h1:=h ((a.length+b.length)*Try.prog.bytesOf 38) (by simp only [DataW.weights,Try.underlying28]; exact mS)
  rw [show Try.prog.bytesOf 38=16 by kernel_rfl] at h1
  simp only [reachBytes] at h1
  omega
 rowOp a b h:=by
  have h1:=h ((a.length+b.length)*Try.prog.bytesOf 31) (by simp only [DataW.weights,Try.underlying22]; exact mS)
  rw [show Try.prog.bytesOf 31=104 by kernel_rfl] at h1
  simp only [reachBytes] at h1
  refine ⟨by omega,fun d hd n hn=>h n ?_⟩
  simp only [DataW.weights,Try.underlying22]
  exact mT _ (List.mem_append_left _ (weights_all hn hd))
 elOp l h:=by
  have hu:Try.prog.underlying 31=some (.struct (Try.prog.fieldsOf 31)):=by kernel_rfl
  have ht:(Try.prog.fieldsOf 31).toList.map (·.type)=[3,3,3,3,28,29,29]:=by kernel_rfl
  have e:∀ n∈DataW.weightsEach Try.prog [3,3,3,3,28,29,29] l,n≤reachBytes:=fun n hn=>h n (by simp only [DataW.weights,hu,ht]; exact hn)
  exact ⟨fun d hd n hn=>e n (DataW.weights_mem_each (j:=4) rfl hd n hn),fun d hd n hn=>e n (DataW.weights_mem_each (j:=5) rfl hd n hn),fun d hd n hn=>e n (DataW.weights_mem_each (j:=6) rfl hd n hn)⟩
section
variable {H:Type} {enc:TypeId × Value→H} {W:World} {Q:TypeId→DataW H→Prop} {m:Nat}
theorem again {t:TypeId} (hr:Try.prog.readableRec t=true) (hrow:t<Try.prog.types.size) {v:Value} {d:DataW H} {p:List MemPlace} (h:DataW.Trod enc Try.prog W 0 (fun _=>true) true t v d p) (W':World) (hb:Below W.heap.size W W'):DataW.Trod enc Try.prog W' 0 (fun b=>decide (b<W.heap.size)) true t v d p :=
 hb.trod laidOut hr hrow h (by obtain ⟨fuel,hf⟩:=h; exact fun x hx=>DataW.trod_lt _ _ _ _ hf x hx)
theorem open_nums (F:Fit H Q m) {fuel:Nat} {cs:List Value} {x:DataW H × List MemPlace} (h:DataW.trod enc Try.prog W 0 (fun _=>true) true fuel 29 cs=some x) (hq:Q 29 x.1) :
 ∃ (sp:Option Addr) (cap:Nat) (l:List Int),cs=[.slice sp l.length cap]∧(SrcI W sp l.length (bl l)∧∀ x∈l,i64 x)∧l.length≤cap∧(sp=none→cap=0)∧l.length≤m:=by
 rcases open_ints Try.underlying29 Try.underlying3 cellsInt h with ⟨rfl,rfl⟩ | ⟨ad,len,cap,zs,rfl,_,hle,hmax,hall,rfl,hcell,hwf⟩
 · exact ⟨none,0,[],rfl,⟨fun j hj=>absurd hj (xnZ j),fun x hx=>(by cases hx)⟩,xnR _,fun _=>rfl,Nat.zero_le _⟩
 · simp only [if_true] at hall
   have hm:=F.ints _ _ hq
   simp only [lits,List.length_map,List.length_take] at hm
   have hl:(zs.take len).length=len:=by rw [List.length_take]; omega
   refine ⟨some ad,cap,zs.take len,by rw [hl],⟨fun j hj=>⟨ad,rfl,?_⟩,fun y hy=>i64_of (hwf y (List.mem_of_mem_take hy))⟩,by rw [hl]; exact hle,fun e=>(by cases e),by rw [hl]; omega⟩
   rw [hl] at hj
   rw [bl_take _ _ _ hj]
   exact hcell j (by omega)
theorem arg_ints (F:Fit H Q m) {r:Reach} {b0:Nat} {v:Value} {d:DataW H} {p:List MemPlace} (hv:Value.okWide Try.prog W r b0 29 v) (h:DataW.Trod enc Try.prog W 0 (fun _=>true) true 29 v d p) (hq:Q 29 d) :
 ∃ (sp:Option Addr) (cap:Nat) (l:List Int),v=.slice sp l.length cap∧(SrcI W sp l.length (bl l)∧∀ x∈l,i64 x)∧l.length≤cap∧(sp=none→cap=0)∧l.length≤m:=by
 obtain ⟨sp,len,cap,rfl⟩:=okWide_slice Try.underlying29 hv
 obtain ⟨fuel,hf⟩:=h
 obtain ⟨sp',cap',l,h1,h2⟩:=open_nums F hf hq
 simp [Value.cells] at h1
 obtain ⟨rfl,rfl,rfl⟩:=h1
 exact ⟨_,_,l,rfl,h2⟩
end
end
end Go.Proofs.Ytmedjdadhmdpgaa
