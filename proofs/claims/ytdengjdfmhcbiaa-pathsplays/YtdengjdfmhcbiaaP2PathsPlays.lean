/- Texts of Ui Uj Hz Nb Nv Uk Ul Um, joined. -/
import Derived.Test.YtdengjdfmhcbiaaP1PathsPlays
import Derived.Deep.Cut
set_option maxRecDepth 20000
set_option maxHeartbeats 64000000
namespace Go.Proofs.Ytdengjdfmhcbiaa
open Go.RowKit
theorem cellP {w w':World} (l:Below w.heap.size w w') {p:Addr} {u:Value} (h:w.cell? p=some u):w'.cell? p=some u:=by
 rw [l.cell (World.block_lt_of_cell? w _ h)]
 exact h
theorem rowCellP {w:World} {base:Nat} {e:TypeId} {size n g cap:Nat} {sp:Option Addr} {xs:List Value} (V:w.ownsRow base e size (.slice sp n cap) n xs) (hsp:sp=some ⟨g,0,none⟩) {j:Nat} {u:Value} (hu:xs[j]?=some u):w.cell? ⟨g,j,none⟩=some u:=by
 subst hsp
 have:=World.ownsRow.cells V (g:=g) rfl j u hu
 rw [Addr.add_mid,Nat.zero_add] at this
 exact this
theorem idxP13 (g len cap i:Nat) (sp:Option Addr) (hsp:sp=some ⟨g,0,none⟩) (hi:i<len) {o:Oper} {a:Act} (x y:Operand) (ho:o.op=.indexAddr 27 x y) (hx:a.eval x=.slice sp len cap) (hy:a.eval y=.int .i64 (i:Int)) (w:World):(execOp a.eval o).run Try.prog w=.ok (.value (.pointer (some ⟨g,i*13,none⟩))) w:=by
 subst hsp; have h:=idxSm 27 57 len cap 13 .i64 ⟨g,0,none⟩ i x y Try.underlying27 (fun _=>by kernel_rfl) hi ho hx hy w
 rw [Addr.add_mid,Nat.zero_add] at h
 exact h
def plI (L:Prs) (id:Int):Int:=if 0≤id∧plc L id.toNat<L.length then ((plc L id.toNat:Nat):Int) else -1
theorem plI_hit {L:Prs} {id:Int} {i:Nat} {q:Nat × Pth} (h:L[i]?=some q) (he:((q.1:Nat):Int)=id) (hb:∀ j r,j<i→L[j]?=some r→((r.1:Nat):Int)≠id):plI L id=(i:Int):=by
 subst he
 have hp:plc L q.1=i:=plc_at (p:=q.2) h fun j r hj hr e=>hb j r hj hr (by rw [e])
 unfold plI
 rw [Int.toNat_natCast,hp,if_pos ⟨Int.natCast_nonneg _,(List.getElem?_eq_some_iff.1 h).1⟩]
theorem plI_miss {L:Prs} {id:Int} (hb:∀ j r,j<L.length→L[j]?=some r→((r.1:Nat):Int)≠id):plI L id=-1:=by
 unfold plI
 refine if_neg fun h=>?_
 obtain ⟨p,hp⟩:=plc_in h.2
 exact hb _ _ h.2 hp (by show ((id.toNat:Nat):Int)=id; omega)
theorem plI_cases {L:Prs} (h:PrsW L) (id:Int):(plI L id=-1∧tof L (pix id)=pnone)∨∃ i p,plI L id=((i:Nat):Int)∧i<L.length∧L[i]?=some (pix id,p)∧plc L (pix id)=i∧tof L (pix id)=p∧0≤id∧id≤255:=by
 by_cases c:0≤id∧plc L id.toNat<L.length
 · right
   obtain ⟨p,hp⟩:=plc_in c.2
   have h1:=h.i _ (List.mem_of_getElem? hp)
   have h1':id.toNat<256:=h1
   have hx:pix id=id.toNat:=if_pos ⟨c.1,by omega⟩
   rw [hx]
   exact ⟨_,p,if_pos c,c.2,hp,rfl,tof_in hp,c.1,by omega⟩
 · left
   refine ⟨if_neg c,tof_out ?_⟩
   refine Nat.le_antisymm (plc_le _ _) (Nat.le_of_not_lt fun d=>?_)
   obtain ⟨p,hp⟩:=plc_in d
   have h1:=h.i _ (List.mem_of_getElem? hp)
   have h1':pix id<256:=h1
   have hr:0≤id∧id≤255:=Decidable.byContradiction fun e=>by unfold pix at h1'; rw [if_neg e] at h1'; omega
   have hx:pix id=id.toNat:=if_pos hr
   rw [hx] at d
   exact c ⟨hr.1,d⟩
theorem dat20_any (w:World) (base R:Nat) (L:Prs) (sp:Option Addr) (cap:Nat) (hl:L.length≤256) (CR:w.cell? ⟨R,0,none⟩=some (.slice sp L.length cap)) (V:w.ownsRow base 57 13 (.slice sp L.length cap) L.length (prc L)) (id:Int) :
 Calls Try.prog 38 #[.pointer (some ⟨R,0,none⟩),.int .i64 id] w fun e w'=>e=.returned (.int .i64 (plI L id))∧Below w.heap.size w w':=by
 have M:=Mm.init w
 go_enter Try.func38,Try.ntmps38
 go_upto_region 0 with fail; refine wp_region_list ?_; refine xpL (.int .i64 0) ?_; refine xT ?_; go_upto_region 1 with fail; refine wp_region_list ?_; refine xpL (.int .i64 0) ?_; refine xT ?_; have HI:=show Hid _ from M.below; clear M; go_wp2
 go_loopw [5] (fun v_ w'=>∃ i:Nat,i≤L.length∧v_=.int .i64 (i:Int)∧(∀ j r,j<i→L[j]?=some r→((r.1:Nat):Int)≠id)∧w=w') (fun v_ _=>L.length-(intOf v_).toNat)
 case atStart=>exact ⟨0,Nat.zero_le _,rfl,fun _ _ h=>absurd h (xnZ _),rfl⟩
 case round =>
  clear HI
  obtain ⟨i,hi,rfl,hb,rfl⟩:=hrel
  have M:=Mm.init w
  by_cases hil:i<L.length
  · obtain ⟨q,hq⟩:∃ q,L[i]?=some q:=⟨_,List.getElem?_eq_getElem hil⟩
    obtain ⟨g,hg⟩:∃ g,sp=some ⟨g,0,none⟩:=by
     rcases V.2 with ⟨_,h0_⟩ | ⟨g,c_,cur_,hv_,_⟩
     · omega
     · injection hv_ with hv_ _ _
       exact ⟨g,hv_⟩
    go_upto_region 2 with fail; refine wp_region_list ?_; refine xpL (.int .i64 (i:Int)) ?_; refine xpL (.pointer (some ⟨R,0,none⟩)) ?_; refine xpL (.pointer (some ⟨R,0,none⟩)) ?_; refine xpL (.pointer (some ⟨R,0,none⟩)) ?_; refine xaL (.slice sp L.length cap) (load1 27 _ ⟨R,0,none⟩ _ rfl rfl (fun _=>by kernel_rfl) (CR)) ?_
    refine xaL (.int .i64 ((L.length:Nat):Int)) (lenS _ 27 57 sp L.length cap rfl Try.underlying27 rfl _) ?_; refine xaL (.bool true) (lssI .i64 _ _ _ _ _ _ rfl rfl rfl true (decide_eq_true (by omega)) _) ?_; refine xT ?_
    by_cases he:((q.1:Nat):Int)=id
    · go_upto_region 4 with fail
      refine wp_region_list ?_; refine xpL (.pointer (some ⟨R,0,none⟩)) ?_; refine xpL (.pointer (some ⟨R,0,none⟩)) ?_; refine xpL (.pointer (some ⟨R,0,none⟩)) ?_; refine xaL (.slice sp L.length cap) (load1 27 _ ⟨R,0,none⟩ _ rfl rfl (fun _=>by kernel_rfl) (CR)) ?_; refine xpL (.int .i64 (i:Int)) ?_
      refine xaL (.pointer (some ⟨g,i*13,none⟩)) (idxP13 g _ _ i sp hg (List.getElem?_eq_some_iff.1 hq).1 _ _ rfl rfl rfl _) ?_; refine xpL (.pointer (some ⟨g,i*13+0,none⟩)) ?_; refine xaL (.int .i64 ((q.1:Nat):Int)) (load1 3 _ ⟨g,i*13+0,none⟩ _ rfl rfl (fun _=>by kernel_rfl) (rowCellP V hg ((prc_get hq (by decide)).trans rfl))) ?_; refine xpL (.int .i64 id) ?_
      refine xaL (.bool true) (eqlI .i64 _ _ _ _ _ _ rfl rfl rfl true (beq_iff_eq.2 he) _) ?_; refine xT ?_; go_upto_region 5 with fail; refine wp_region_list ?_; refine xpL (.int .i64 (i:Int)) ?_; refine xpL (.int .i64 (i:Int)) ?_; refine xT ?_; have hE:=show Hid _ from plI_hit hq he hb; have hbel:=M.below; clear M; go_wp2; go_ret
      exact ⟨by rw [hE.out]; try rfl,hbel⟩
    · go_upto_region 4 with fail
      refine wp_region_list ?_; refine xpL (.pointer (some ⟨R,0,none⟩)) ?_; refine xpL (.pointer (some ⟨R,0,none⟩)) ?_; refine xpL (.pointer (some ⟨R,0,none⟩)) ?_; refine xaL (.slice sp L.length cap) (load1 27 _ ⟨R,0,none⟩ _ rfl rfl (fun _=>by kernel_rfl) (CR)) ?_; refine xpL (.int .i64 (i:Int)) ?_
      refine xaL (.pointer (some ⟨g,i*13,none⟩)) (idxP13 g _ _ i sp hg (List.getElem?_eq_some_iff.1 hq).1 _ _ rfl rfl rfl _) ?_; refine xpL (.pointer (some ⟨g,i*13+0,none⟩)) ?_; refine xaL (.int .i64 ((q.1:Nat):Int)) (load1 3 _ ⟨g,i*13+0,none⟩ _ rfl rfl (fun _=>by kernel_rfl) (rowCellP V hg ((prc_get hq (by decide)).trans rfl))) ?_; refine xpL (.int .i64 id) ?_
      refine xaL (.bool false) (eqlI .i64 _ _ _ _ _ _ rfl rfl rfl false (beq_eq_false_iff_ne.2 he) _) ?_; refine xT ?_; clear M; go_wp2
      go_roundw
      case rel=>exact ⟨i+1,by omega,by go_num,fun j r hj hr=>by
       rcases Nat.lt_or_ge j i with h_ | h_
       · exact hb j r h_ hr
       · obtain rfl:j=i:=by omega
         rw [hq] at hr
         obtain rfl:=Option.some.inj hr
         exact he,by first | trivial | rfl⟩
      case measure=>simp [intOf]; omega
  · go_upto_region 2 with fail
    refine wp_region_list ?_; refine xpL (.int .i64 (i:Int)) ?_; refine xpL (.pointer (some ⟨R,0,none⟩)) ?_; refine xpL (.pointer (some ⟨R,0,none⟩)) ?_; refine xpL (.pointer (some ⟨R,0,none⟩)) ?_; refine xaL (.slice sp L.length cap) (load1 27 _ ⟨R,0,none⟩ _ rfl rfl (fun _=>by kernel_rfl) (CR)) ?_
    refine xaL (.int .i64 ((L.length:Nat):Int)) (lenS _ 27 57 sp L.length cap rfl Try.underlying27 rfl _) ?_; refine xaL (.bool false) (lssI .i64 _ _ _ _ _ _ rfl rfl rfl false (decide_eq_false (by omega)) _) ?_; refine xT ?_; go_upto_region 6 with fail; refine wp_region_list ?_; refine xpL (.int .i64 (-1)) ?_; refine xT ?_
    have hE:=show Hid _ from plI_miss (id:=id) fun j r hj hr=>hb j r (by omega) hr; have hbel:=M.below; clear M; go_wp2; go_ret
    exact ⟨by rw [hE.out]; try rfl,hbel⟩
theorem dsta20_any (w:World) (base R:Nat) (L:Prs) (sp:Option Addr) (cap:Nat) (hl:L.length≤256) (CR:w.cell? ⟨R,0,none⟩=some (.slice sp L.length cap)) (V:w.ownsRow base 57 13 (.slice sp L.length cap) L.length (prc L)) (hw:PrsW L) (id:Int) :
 Calls Try.prog 29 #[.pointer (some ⟨R,0,none⟩),.int .i64 id] w fun e w'=>e=.returned (.int .i64 ((pst (tof L) id:Nat):Int))∧Below w.heap.size w w':=by
 have M:=Mm.init w
 go_enter Try.func29,Try.ntmps29
 go_upto_region 0 with fail; refine wp_region_list ?_; refine xpL (.int .i64 0) ?_; refine xT ?_; go_upto_region 1 with fail; refine wp_region_list ?_; refine xpL (.pointer (some ⟨R,0,none⟩)) ?_; refine xpL (.int .i64 id) ?_; have key:=dat20_any w base R L sp cap hl CR V id; refine xcL key ?_; clear key; rintro e w1 ⟨rfl,l_⟩; replace M:=M.call l_; replace CR:=cellP l_ CR
 replace V:=ownsRow_bel V l_; clear l_; refine xeL ?_; refine xpL (.int .i64 (plI L id)) ?_; refine xT ?_
 rcases plI_cases hw id with ⟨h1,h2⟩ | ⟨i,p,h1,h2,h3,h4,h5,h6,h7⟩
 · rw [h1]
   go_upto_region 2 with fail; refine wp_region_list ?_; refine xpL (.int .i64 (-1)) ?_; refine xaL (.bool true) (lssI .i64 _ _ _ _ _ _ rfl rfl rfl true (by decide) _) ?_; refine xT ?_; go_upto_region 3 with fail; refine wp_region_list ?_; refine xpL (.int .i64 0) ?_; refine xT ?_; have hE:=show Hid _ from (show pst (tof L) id=0 by unfold pst; rw [h2]; rfl); have hbel:=M.below; clear M
   go_wp2; go_ret
   exact ⟨by rw [hE.out]; try rfl,hbel⟩
 · rw [h1]
   obtain ⟨g,hg⟩:∃ g,sp=some ⟨g,0,none⟩:=by
    rcases V.2 with ⟨_,h0_⟩ | ⟨g,c_,cur_,hv_,_⟩
    · omega
    · injection hv_ with hv_ _ _
      exact ⟨g,hv_⟩
   go_upto_region 2 with fail; refine wp_region_list ?_; refine xpL (.int .i64 ((i:Nat):Int)) ?_; refine xaL (.bool false) (lssI .i64 _ _ _ _ _ _ rfl rfl rfl false (decide_eq_false (by omega)) _) ?_; refine xT ?_; go_upto_region 4 with fail; refine wp_region_list ?_; refine xpL (.pointer (some ⟨R,0,none⟩)) ?_; refine xpL (.pointer (some ⟨R,0,none⟩)) ?_
   refine xpL (.pointer (some ⟨R,0,none⟩)) ?_; refine xaL (.slice sp L.length cap) (load1 27 _ ⟨R,0,none⟩ _ rfl rfl (fun _=>by kernel_rfl) (CR)) ?_; refine xpL (.int .i64 ((i:Nat):Int)) ?_; refine xaL (.pointer (some ⟨g,i*13,none⟩)) (idxP13 g _ _ i sp hg (List.getElem?_eq_some_iff.1 h3).1 _ _ rfl rfl rfl _) ?_; refine xpL (.pointer (some ⟨g,i*13+1,none⟩)) ?_
   refine readL (.int .i64 (((pix id,p).2.st:Nat):Int)) rfl (load1 3 _ ⟨g,i*13+1,none⟩ _ rfl rfl (fun _=>by kernel_rfl) (rowCellP V hg ((prc_get h3 (by decide)).trans rfl))) ?_; simp only [aP,lI,l0,lS]; refine xpL (.int .i64 (((pix id,p).2.st:Nat):Int)) ?_; refine xT ?_; have hE:=show Hid _ from (show pst (tof L) id=p.st by unfold pst; rw [h5]); have hbel:=M.below
   clear M; go_wp2; go_ret
   exact ⟨by rw [hE.out]; try rfl,hbel⟩
theorem drtt20_any (w:World) (base R:Nat) (L:Prs) (sp:Option Addr) (cap:Nat) (hl:L.length≤256) (CR:w.cell? ⟨R,0,none⟩=some (.slice sp L.length cap)) (V:w.ownsRow base 57 13 (.slice sp L.length cap) L.length (prc L)) (hw:PrsW L) (id:Int) :
 Calls Try.prog 31 #[.pointer (some ⟨R,0,none⟩),.int .i64 id] w fun e w'=>e=.returned (.int .i64 ((prt (tof L) id:Nat):Int))∧Below w.heap.size w w':=by
 have M:=Mm.init w
 go_enter Try.func31,Try.ntmps31
 go_upto_region 0 with fail; refine wp_region_list ?_; refine xpL (.int .i64 0) ?_; refine xT ?_; go_upto_region 1 with fail; refine wp_region_list ?_; refine xpL (.pointer (some ⟨R,0,none⟩)) ?_; refine xpL (.int .i64 id) ?_; have key:=dat20_any w base R L sp cap hl CR V id; refine xcL key ?_; clear key; rintro e w1 ⟨rfl,l_⟩; replace M:=M.call l_; replace CR:=cellP l_ CR
 replace V:=ownsRow_bel V l_; clear l_; refine xeL ?_; refine xpL (.int .i64 (plI L id)) ?_; refine xT ?_
 rcases plI_cases hw id with ⟨h1,h2⟩ | ⟨i,p,h1,h2,h3,h4,h5,h6,h7⟩
 · rw [h1]
   go_upto_region 2 with fail; refine wp_region_list ?_; refine xpL (.int .i64 (-1)) ?_; refine xaL (.bool true) (lssI .i64 _ _ _ _ _ _ rfl rfl rfl true (by decide) _) ?_; refine xT ?_; go_upto_region 3 with fail; refine wp_region_list ?_; refine xpL (.int .i64 0) ?_; refine xT ?_; have hE:=show Hid _ from (show prt (tof L) id=0 by unfold prt; rw [h2]; rfl); have hbel:=M.below; clear M
   go_wp2; go_ret
   exact ⟨by rw [hE.out]; try rfl,hbel⟩
 · rw [h1]
   obtain ⟨g,hg⟩:∃ g,sp=some ⟨g,0,none⟩:=by
    rcases V.2 with ⟨_,h0_⟩ | ⟨g,c_,cur_,hv_,_⟩
    · omega
    · injection hv_ with hv_ _ _
      exact ⟨g,hv_⟩
   go_upto_region 2 with fail; refine wp_region_list ?_; refine xpL (.int .i64 ((i:Nat):Int)) ?_; refine xaL (.bool false) (lssI .i64 _ _ _ _ _ _ rfl rfl rfl false (decide_eq_false (by omega)) _) ?_; refine xT ?_; go_upto_region 4 with fail; refine wp_region_list ?_; refine xpL (.pointer (some ⟨R,0,none⟩)) ?_; refine xpL (.pointer (some ⟨R,0,none⟩)) ?_
   refine xpL (.pointer (some ⟨R,0,none⟩)) ?_; refine xaL (.slice sp L.length cap) (load1 27 _ ⟨R,0,none⟩ _ rfl rfl (fun _=>by kernel_rfl) (CR)) ?_; refine xpL (.int .i64 ((i:Nat):Int)) ?_; refine xaL (.pointer (some ⟨g,i*13,none⟩)) (idxP13 g _ _ i sp hg (List.getElem?_eq_some_iff.1 h3).1 _ _ rfl rfl rfl _) ?_; refine xpL (.pointer (some ⟨g,i*13+2,none⟩)) ?_
   refine readL (.int .i64 (((pix id,p).2.rt:Nat):Int)) rfl (load1 3 _ ⟨g,i*13+2,none⟩ _ rfl rfl (fun _=>by kernel_rfl) (rowCellP V hg ((prc_get h3 (by decide)).trans rfl))) ?_; simp only [aP,lI,l0,lS]; refine xpL (.int .i64 (((pix id,p).2.rt:Nat):Int)) ?_; refine xT ?_; have hE:=show Hid _ from (show prt (tof L) id=p.rt by unfold prt; rw [h5]); have hbel:=M.below
   clear M; go_wp2; go_ret
   exact ⟨by rw [hE.out]; try rfl,hbel⟩
theorem pix_nat9 {n:Nat} (h:n<256):pix ((n:Nat):Int)=n:=by
 unfold pix
 rw [if_pos (by omega),Int.toNat_natCast]
def prowP (t:Ptb) (s n:Nat):List Int:=((List.range n).filter fun k=>(t k).st == s).map fun k:Nat=>(k:Int)
theorem prowP_all (t:Ptb) (s:Nat):prowP t s 256=prow t s:=rfl
theorem prowP_yes {t:Ptb} {s n:Nat} (h:(t n).st=s):prowP t s (n+1)=prowP t s n++[((n:Nat):Int)]:=by
 unfold prowP
 rw [List.range_succ,List.filter_append,List.map_append,List.filter_cons_of_pos (by rw [h]; exact beq_self_eq_true s)]
 rfl
theorem prowP_no {t:Ptb} {s n:Nat} (h:(t n).st≠s):prowP t s (n+1)=prowP t s n:=by
 unfold prowP
 rw [List.range_succ,List.filter_append,List.map_append,List.filter_cons_of_neg (by simpa using h)]
 simp
theorem prowP_le (t:Ptb) (s n:Nat):(prowP t s n).length≤n:=by
 unfold prowP
 rw [List.length_map]
 exact xnT (List.length_filter_le _ _) (Nat.le_of_eq List.length_range)
theorem drow20_any (w:World) (base R:Nat) (L:Prs) (sp:Option Addr) (cap:Nat) (hl:L.length≤256) (CR:w.cell? ⟨R,0,none⟩=some (.slice sp L.length cap)) (V:w.ownsRow base 57 13 (.slice sp L.length cap) L.length (prc L)) (hw:PrsW L) (s:Nat) :
 Calls Try.prog 37 #[.pointer (some ⟨R,0,none⟩),.int .i64 ((s:Nat):Int)] w fun e w'=>∃ sq cq,e=.returned (.slice sq (prow (tof L) s).length cq)∧NewI w' w.heap.size (prow (tof L) s) (.slice sq (prow (tof L) s).length cq)∧Below w.heap.size w w':=by
 have M:=Mm.init w
 go_enter Try.func37,Try.ntmps37
 go_upto_region 0 with fail; refine wp_region_list ?_; refine xpL (.slice none 0 0) ?_; refine xT ?_; go_upto_region 1 with fail; refine wp_region_list ?_; refine xpL (.slice none 0 0) ?_; refine xT ?_; go_upto_region 2 with fail; refine wp_region_list ?_; refine xpL (.int .i64 0) ?_; refine xT ?_
 have HI:=show Hid _ from (show OwnI w w.heap.size (prowP (tof L) s 0) (.slice none (prowP (tof L) s 0).length 0)∧Below w.heap.size w w from ⟨⟨rfl,.inl ⟨rfl,rfl⟩⟩,M.below⟩); clear M; go_wp2
 go_loopw [5,6] (fun l_ v_ w'=>∃ (j:Nat) (sq:Option Addr) (cq:Nat),j≤256∧l_=.slice sq (prowP (tof L) s j).length cq∧v_=.int .i64 (j:Int)∧OwnI w' w.heap.size (prowP (tof L) s j) (.slice sq (prowP (tof L) s j).length cq)∧Below w.heap.size w w') (fun _ v_ _=>256-(intOf v_).toNat)
 case atStart=>exact ⟨0,none,0,by omega,rfl,rfl,HI.out⟩
 case round =>
  clear HI
  obtain ⟨j,sq,cq,hj,rfl,rfl,V_l,hB⟩:=hrel
  have M:=(Mm.init w).call hB; clear hB; have hpl:=prowP_le (tof L) s j
  by_cases hj2:j<256
  · go_upto_region 3 with fail
    refine wp_region_list ?_; refine xpL (.int .i64 ((j:Nat):Int)) ?_; refine xaL (.bool true) (leqI .i64 _ _ _ _ _ _ rfl rfl rfl true (decide_eq_true (by omega)) _) ?_; refine xT ?_
    by_cases he:(tof L j).st=s
    · go_upto_region 5 with fail
      refine wp_region_list ?_; refine xpL (.pointer (some ⟨R,0,none⟩)) ?_; refine xpL (.int .i64 ((j:Nat):Int)) ?_; have key:=dsta20_any wr base R L sp cap hl (cellP M.below CR) (ownsRow_bel V M.below) hw ((j:Nat):Int)
      rw [show pst (tof L) ((j:Nat):Int)=(tof L j).st from congrArg (fun k_=>(tof L k_).st) (pix_nat9 hj2)] at key
      refine xcL key ?_; clear key; rintro e w1 ⟨rfl,l_⟩; replace M:=M.call l_; replace V_l:=Own.below V_l l_; clear l_; refine xeL ?_; refine xpL (.int .i64 ((s:Nat):Int)) ?_; refine xaL (.bool true) (eqlI .i64 _ _ _ _ _ _ rfl rfl rfl true (beq_iff_eq.2 (by rw [he])) _) ?_; refine xT ?_; go_upto_region 6 with fail; refine wp_region_list ?_
      refine xpL (.slice sq ((prowP (tof L) s j).length) cq) ?_; refine xpL (.int .i64 ((j:Nat):Int)) ?_; have hlb:=(Below.refl w1.heap.size w1).alloc (xnR _) (.cells (row .i64 [((j:Nat):Int)].length (bl [((j:Nat):Int)])).toArray 3); have S_n:=SrcI.lit w1 [((j:Nat):Int)] (show 1≤16 by decide)
      refine actL (w':=w1.alloc (.cells (row .i64 [((j:Nat):Int)].length (bl [((j:Nat):Int)])).toArray 3)) (.slice (some ⟨w1.heap.size,0,none⟩) 1 1) rfl (by kernel_rfl) ?_; simp only [aP,lI,l0,lS]; replace M:=M.call hlb; replace V_l:=Own.below V_l hlb; clear hlb
      generalize w1.alloc (.cells (row .i64 [((j:Nat):Int)].length (bl [((j:Nat):Int)])).toArray 3)=w2 at M S_n V_l ⊢; generalize (some ⟨w1.heap.size,0,none⟩:Option Addr)=pn at S_n ⊢
      obtain ⟨v_,w3,hr,O2,hgr,_⟩:=run_append_Own (P:=Try.prog) (ty:=38) Try.underlying38 one64 V_l pn 1 1 (bl [((j:Nat):Int)]) S_n (fun e=>by obtain ⟨_,h,_⟩:=S_n 0 Nat.zero_lt_one; rw [e] at h; cases h) (by unfold maxLen; omega) (by omega) M.below.size
      replace M:=M.grownN hgr (fun b hb=>⟨(World.ownsRow.lt V_l b hb).1,fun _ h_=>by cases h_⟩); refine xaL v_ (appendOp _ _ 38 _ _ _ rfl rfl rfl hr) ?_
      replace O2:OwnI w3 w.heap.size ((prowP (tof L) s j)++[((j:Nat):Int)]) v_:=OwnI.app O2
      clear hr hgr V_l S_n; have V_l:=O2; clear O2
      obtain ⟨sq2,cq2,rfl,_⟩:=V_l.isSlice
      refine xpL (.slice sq2 (((prowP (tof L) s j)++[((j:Nat):Int)]).length) cq2) ?_; refine xT ?_
      rw [← prowP_yes he] at V_l ⊢
      have HS:=show Hid _ from (show OwnI w3 w.heap.size (prowP (tof L) s (j+1)) (.slice sq2 (prowP (tof L) s (j+1)).length cq2)∧Below w.heap.size w w3 from ⟨V_l,M.below⟩); clear M V_l; go_wp2
      go_roundw
      case rel=>exact ⟨j+1,sq2,cq2,by omega,rfl,by go_num,HS.out⟩
      case measure=>simp [intOf]; omega
    · go_upto_region 5 with fail
      refine wp_region_list ?_; refine xpL (.pointer (some ⟨R,0,none⟩)) ?_; refine xpL (.int .i64 ((j:Nat):Int)) ?_; have key:=dsta20_any wr base R L sp cap hl (cellP M.below CR) (ownsRow_bel V M.below) hw ((j:Nat):Int)
      rw [show pst (tof L) ((j:Nat):Int)=(tof L j).st from congrArg (fun k_=>(tof L k_).st) (pix_nat9 hj2)] at key
      refine xcL key ?_; clear key; rintro e w4 ⟨rfl,l_⟩; replace M:=M.call l_; replace V_l:=Own.below V_l l_; clear l_; refine xeL ?_; refine xpL (.int .i64 ((s:Nat):Int)) ?_; refine xaL (.bool false) (eqlI .i64 _ _ _ _ _ _ rfl rfl rfl false (beq_eq_false_iff_ne.2 (fun e_=>he (Int.ofNat.inj e_))) _) ?_; refine xT ?_
      rw [← prowP_no he] at V_l ⊢
      have HS:=show Hid _ from (show OwnI w4 w.heap.size (prowP (tof L) s (j+1)) (.slice sq (prowP (tof L) s (j+1)).length cq)∧Below w.heap.size w w4 from ⟨V_l,M.below⟩); clear M V_l; go_wp2
      go_roundw
      case rel=>exact ⟨j+1,sq,cq,by omega,rfl,by go_num,HS.out⟩
      case measure=>simp [intOf]; omega
  · obtain rfl:j=256:=by omega
    rw [prowP_all] at V_l ⊢
    go_upto_region 3 with fail; refine wp_region_list ?_; refine xpL (.int .i64 ((256:Nat):Int)) ?_; refine xaL (.bool false) (leqI .i64 _ _ _ _ _ _ rfl rfl rfl false (decide_eq_false (by omega)) _) ?_; refine xT ?_; go_upto_region 7 with fail; refine wp_region_list ?_; refine xpL (.slice sq ((prow (tof L) s).length) cq) ?_; refine xpL (.slice sq ((prow (tof L) s).length) cq) ?_; refine xT ?_
    have HS:=show Hid _ from (And.intro (NewI.of_own V_l) M.below); clear M V_l; go_wp2; go_ret
    first | exact ⟨sq,cq,rfl,HS.out⟩ | exact ⟨rfl,sq,cq,HS.out⟩
theorem dliv20_any (w:World) (base R:Nat) (L:Prs) (sp:Option Addr) (cap:Nat) (hl:L.length≤256) (CR:w.cell? ⟨R,0,none⟩=some (.slice sp L.length cap)) (V:w.ownsRow base 57 13 (.slice sp L.length cap) L.length (prc L)) (hw:PrsW L) :
 Calls Try.prog 27 #[.pointer (some ⟨R,0,none⟩)] w fun e w'=>∃ sq cq,e=.returned (.slice sq (prow (tof L) 2).length cq)∧NewI w' w.heap.size (prow (tof L) 2) (.slice sq (prow (tof L) 2).length cq)∧Below w.heap.size w w':=by
 have M:=Mm.init w
 go_enter Try.func27,Try.ntmps27
 go_upto_region 0 with fail; refine wp_region_list ?_; refine xpL (.slice none 0 0) ?_; refine xT ?_; go_upto_region 1 with fail; refine wp_region_list ?_; refine xpL (.pointer (some ⟨R,0,none⟩)) ?_; have key:=drow20_any w base R L sp cap hl (cellP M.below CR) (ownsRow_bel V M.below) hw 2; refine xcL key ?_; clear key; rintro e w1 ⟨sq1,cq1,rfl,N_1,l_⟩; replace M:=M.call l_; clear l_
 refine xeL ?_; refine xpL (.slice sq1 ((prow (tof L) 2).length) cq1) ?_; refine xT ?_; have HS:=show Hid _ from (And.intro N_1 M.below); clear M N_1; go_wp2; go_ret
 first | exact ⟨_,_,rfl,HS.out⟩ | exact ⟨rfl,_,_,HS.out⟩
theorem dmay20_any (w:World) (base R:Nat) (L:Prs) (sp:Option Addr) (cap:Nat) (hl:L.length≤256) (CR:w.cell? ⟨R,0,none⟩=some (.slice sp L.length cap)) (V:w.ownsRow base 57 13 (.slice sp L.length cap) L.length (prc L)) (hw:PrsW L) (id:Int) :
 Calls Try.prog 33 #[.pointer (some ⟨R,0,none⟩),.int .i64 id] w fun e w'=>e=.returned (.int .i64 ((pmay (tof L) id:Nat):Int))∧Below w.heap.size w w':=by
 have hpc:=prow_len (tof L)
 have hp1:(prow (tof L) 1).length≤256:=prowP_le _ _ 256
 have hp2:(prow (tof L) 2).length≤256:=prowP_le _ _ 256
 have M:=Mm.init w
 go_enter Try.func33,Try.ntmps33
 go_upto_region 0 with fail; refine wp_region_list ?_; refine xpL (.int .i64 0) ?_; refine xT ?_
 by_cases hd1:id<0
 · go_upto_region 1 with fail
   refine wp_region_list ?_; refine xpL (.int .i64 id) ?_; refine xaL (.bool true) (lssI .i64 _ _ _ _ _ _ rfl rfl rfl true (decide_eq_true (by omega)) _) ?_; refine xpL (.bool true) ?_
   with_reducible refine skipL ?_ ?_
   · rfl
   simp only [aP,lI,l0,lS]
   with_reducible refine skipL ?_ ?_
   · rfl
   simp only [aP,lI,l0,lS]; refine xpL (.bool true) ?_; refine xT ?_; go_upto_region 2 with fail; refine wp_region_list ?_; refine xpL (.int .i64 1) ?_; refine xT ?_; have hE:=show Hid _ from (show pmay (tof L) id=1 from if_pos (.inl hd1)); have hbel:=M.below; clear M; go_wp2; go_ret
   exact ⟨by rw [hE.out]; try rfl,hbel⟩
 · by_cases hd2:255<id
   · go_upto_region 1 with fail
     refine wp_region_list ?_; refine xpL (.int .i64 id) ?_; refine xaL (.bool false) (lssI .i64 _ _ _ _ _ _ rfl rfl rfl false (decide_eq_false (by omega)) _) ?_; refine xpL (.bool false) ?_; refine xpL (.int .i64 id) ?_; refine xaL (.bool true) (gtrI .i64 _ _ _ _ _ _ rfl rfl rfl true (decide_eq_true (by omega)) _) ?_; refine xpL (.bool true) ?_; refine xT ?_; go_upto_region 2 with fail
     refine wp_region_list ?_; refine xpL (.int .i64 1) ?_; refine xT ?_; have hE:=show Hid _ from (show pmay (tof L) id=1 from if_pos (.inr hd2)); have hbel:=M.below; clear M; go_wp2; go_ret
     exact ⟨by rw [hE.out]; try rfl,hbel⟩
   · go_upto_region 1 with fail
     refine wp_region_list ?_; refine xpL (.int .i64 id) ?_; refine xaL (.bool false) (lssI .i64 _ _ _ _ _ _ rfl rfl rfl false (decide_eq_false (by omega)) _) ?_; refine xpL (.bool false) ?_; refine xpL (.int .i64 id) ?_; refine xaL (.bool false) (gtrI .i64 _ _ _ _ _ _ rfl rfl rfl false (decide_eq_false (by omega)) _) ?_; refine xpL (.bool false) ?_; refine xT ?_
     rcases plI_cases hw id with ⟨h1,h2⟩ | ⟨i,p,h1,h2,h3,h4,h5,h6,h7⟩
     · go_upto_region 3 with fail
       refine wp_region_list ?_; refine xpL (.pointer (some ⟨R,0,none⟩)) ?_; refine xpL (.int .i64 id) ?_; have key:=dat20_any w base R L sp cap hl (cellP M.below CR) (ownsRow_bel V M.below) id
       rw [h1] at key
       refine xcL key ?_; clear key; rintro e w2 ⟨rfl,l_⟩; replace M:=M.call l_; clear l_; refine xeL ?_; refine xaL (.bool false) (geqI .i64 _ _ _ _ _ _ rfl rfl rfl false (by decide) _) ?_; refine xT ?_
       by_cases hc:16≤pcn (tof L)
       · go_upto_region 5 with fail
         refine wp_region_list ?_; refine xpL (.pointer (some ⟨R,0,none⟩)) ?_; have key:=dliv20_any w2 base R L sp cap hl (cellP M.below CR) (ownsRow_bel V M.below) hw; refine xcL key ?_; clear key; rintro e w3 ⟨sq3,cq3,rfl,N_3,l_⟩; replace M:=M.call l_; clear l_ N_3; refine xeL ?_
         refine readL (.int .i64 (((prow (tof L) 2).length:Nat):Int)) rfl (lenS _ 38 3 sq3 ((prow (tof L) 2).length) cq3 rfl Try.underlying38 rfl _) ?_; simp only [aP,lI,l0,lS]; refine xpL (.pointer (some ⟨R,0,none⟩)) ?_; have key:=drow20_any w3 base R L sp cap hl (cellP M.below CR) (ownsRow_bel V M.below) hw 1; refine xcL key ?_; clear key; rintro e w4 ⟨sq4,cq4,rfl,N_4,l_⟩
         replace M:=M.call l_; clear l_; refine xeL ?_; refine readL (.int .i64 (((prow (tof L) 1).length:Nat):Int)) rfl (lenS _ 38 3 sq4 ((prow (tof L) 1).length) cq4 rfl Try.underlying38 rfl _) ?_; simp only [aP,lI,l0,lS]; refine readL (.int .i64 ((pcn (tof L):Nat):Int)) rfl (addI .i64 _ _ _ _ _ _ _ rfl rfl rfl (by rw [xw6]; omega) _) ?_; simp only [aP,lI,l0,lS]
         refine xaL (.bool true) (geqI .i64 _ _ _ _ _ _ rfl rfl rfl true (decide_eq_true (by omega)) _) ?_; refine xT ?_; clear N_4; go_upto_region 6 with fail; refine wp_region_list ?_; refine xpL (.int .i64 2) ?_; refine xT ?_; have hE:=show Hid _ from (show pmay (tof L) id=2 from (if_neg (by omega)).trans ((if_neg (fun h_=>h_ (by rw [h2]; rfl))).trans (if_pos hc))); have hbel:=M.below
         clear M; go_wp2; go_ret
         exact ⟨by rw [hE.out]; try rfl,hbel⟩
       · go_upto_region 5 with fail
         refine wp_region_list ?_; refine xpL (.pointer (some ⟨R,0,none⟩)) ?_; have key:=dliv20_any w2 base R L sp cap hl (cellP M.below CR) (ownsRow_bel V M.below) hw; refine xcL key ?_; clear key; rintro e w5 ⟨sq5,cq5,rfl,N_5,l_⟩; replace M:=M.call l_; clear l_ N_5; refine xeL ?_
         refine readL (.int .i64 (((prow (tof L) 2).length:Nat):Int)) rfl (lenS _ 38 3 sq5 ((prow (tof L) 2).length) cq5 rfl Try.underlying38 rfl _) ?_; simp only [aP,lI,l0,lS]; refine xpL (.pointer (some ⟨R,0,none⟩)) ?_; have key:=drow20_any w5 base R L sp cap hl (cellP M.below CR) (ownsRow_bel V M.below) hw 1; refine xcL key ?_; clear key; rintro e w6 ⟨sq6,cq6,rfl,N_6,l_⟩
         replace M:=M.call l_; clear l_; refine xeL ?_; refine readL (.int .i64 (((prow (tof L) 1).length:Nat):Int)) rfl (lenS _ 38 3 sq6 ((prow (tof L) 1).length) cq6 rfl Try.underlying38 rfl _) ?_; simp only [aP,lI,l0,lS]; refine readL (.int .i64 ((pcn (tof L):Nat):Int)) rfl (addI .i64 _ _ _ _ _ _ _ rfl rfl rfl (by rw [xw6]; omega) _) ?_; simp only [aP,lI,l0,lS]
         refine xaL (.bool false) (geqI .i64 _ _ _ _ _ _ rfl rfl rfl false (decide_eq_false (by omega)) _) ?_; refine xT ?_; clear N_6; go_upto_region 7 with fail; refine wp_region_list ?_; refine xpL (.int .i64 0) ?_; refine xT ?_; have hE:=show Hid _ from (show pmay (tof L) id=0 from (if_neg (by omega)).trans ((if_neg (fun h_=>h_ (by rw [h2]; rfl))).trans (if_neg hc)))
         have hbel:=M.below; clear M; go_wp2; go_ret
         exact ⟨by rw [hE.out]; try rfl,hbel⟩
     · go_upto_region 3 with fail
       refine wp_region_list ?_; refine xpL (.pointer (some ⟨R,0,none⟩)) ?_; refine xpL (.int .i64 id) ?_; have key:=dat20_any w base R L sp cap hl (cellP M.below CR) (ownsRow_bel V M.below) id
       rw [h1] at key
       refine xcL key ?_; clear key; rintro e w1 ⟨rfl,l_⟩; replace M:=M.call l_; clear l_; refine xeL ?_; refine xaL (.bool true) (geqI .i64 _ _ _ _ _ _ rfl rfl rfl true (decide_eq_true (by omega)) _) ?_; refine xT ?_; go_upto_region 4 with fail; refine wp_region_list ?_; refine xpL (.int .i64 201) ?_; refine xT ?_
       have hE:=show Hid _ from (show pmay (tof L) id=201 from (if_neg (by omega)).trans (if_pos (by rw [h5,← h5]; exact fun e_=>by have h_:=(tof_st hw (pix id)).1 e_; omega))); have hbel:=M.below; clear M; go_wp2; go_ret
       exact ⟨by rw [hE.out]; try rfl,hbel⟩
section
section
variable {P:Program} {ops:Array Oper} {Q:Exit→Act→World→Prop} {md:Region.Mode} {S S2:World→Prop} {c:Nat}
theorem readC {i:Nat} {oi oc:Oper} (dst:Option Tmp) (hdst:oi.dst=dst) {n:Nat} {l:Array Bool} {a:Act} {w:World} (v:Value) (hi:ops[i]?=some oi) (hc:ops[c]?=some oc) (hwait:(oc.after.any fun e=>Region.binds md e&&e.on == i)=true)
 (hw:Region.wanted oi (yielded ops a.tmps)=true) (hv:∀ w,S w→(execOp a.eval oi).run P w=.ok (.value v) w)
 (hs:Region.noSelect ops=true) (hf:Region.free md ops l i=true) (hl:l.getD c true=false) (hr:(Region.ready md ops l).contains i=true)
 (hQ:∀ p a w,Q (.panic p) (a.put dst v) w→Q (.panic p) a w) (hS:S w)
 (h:wpAnyC P md ops Q S c n (l.setIfInBounds i true) (a.put dst v) w):wpAnyC P md ops Q S c (n+1) l a w:=by
 subst hdst
 exact wpAnyC_take hi hc hwait hs hf hl hr hQ (.inl ⟨hw,hv⟩) hS h
theorem skipC (dst:Option Tmp) {oc:Oper} (hdst:oc.dst=dst) {n:Nat} {l:Array Bool} {a:Act} {w w':World} (hr:Region.ready md ops l=[c]) (hi:ops[c]?=some oc)
 (hw:Region.wanted oc (yielded ops a.tmps)=true) (he:(execOp a.eval oc).run P w=.ok .skip w') (hl:(l.setIfInBounds c true).getD c true=true)
 (h:wpAnyH P md ops Q S2 n (l.setIfInBounds c true) (a.put dst undef) w'):wpAnyC P md ops Q S c (n+1) l a w :=
 ⟨fun h0=>(by rw [h0] at hr; cases hr),fun j hj=>by
  rw [hr] at hj
  obtain rfl:=xm1 hj
  unfold wpOp
  simp only [hi,hw,if_true]; refine .inl ?_
  unfold Oper.wp
  rw [he]
  subst hdst
  exact ⟨fun hf=>(by rw [hl] at hf; cases hf),wpAnyC_rest n _ _ _ hl (wpAny_of_held n _ _ _ h)⟩⟩
theorem onlyC {i:Nat} {oi:Oper} (dst:Option Tmp) (hdst:oi.dst=dst) {n:Nat} {l:Array Bool} {a:Act} {w w':World} (v:Value) (hr:Region.ready md ops l=[i]) (hi:ops[i]?=some oi) (hw:Region.wanted oi (yielded ops a.tmps)=true)
 (he:(execOp a.eval oi).run P w=.ok (.value v) w') (hS:S w') (h:wpAnyC P md ops Q S c n (l.setIfInBounds i true) (a.put dst v) w'):wpAnyC P md ops Q S c (n+1) l a w :=
 ⟨fun h0=>(by rw [h0] at hr; cases hr),fun j hj=>by
  rw [hr] at hj
  obtain rfl:=xm1 hj
  exact actO dst hdst v hi hw he ⟨fun _=>hS,h⟩⟩
end
end
theorem Mm.setObs {w0 w:World} {l:List (Nat × List Value)} {g:Nat} {base:Nat} {e:TypeId} {size n cap:Nat} {xs:List Value} (M:Mm w0 (obs (some ⟨g,0,none⟩)++l) w) (V:w.ownsRow base e size (.slice (some ⟨g,0,none⟩) n cap) n xs) (h0:w0.heap.size≤base) (j:Nat) (hj:j<xs.length) (u:Value) :
 ((w.cell? ⟨g,j,none⟩).isSome=true∧w.frozen? ⟨g,j,none⟩=false)∧Mm w0 (obs (some ⟨g,0,none⟩)++l) (w.setCell ⟨g,j,none⟩ u):=by
 have M':Mm w0 ((g,[])::l) w:=M
 have M2:=M'.tail.ofRow V (g:=g) rfl h0 (fun p hp e=>(List.pairwise_cons.1 M'.apart).1 p hp e.symm)
 exact ⟨⟨M2.isSome mS j hj,M2.free mS j hj⟩,(M2.set j hj u).untell⟩
section
section
variable {P:Program}
theorem idxSlE {o:Oper} {a:Act} (t e:TypeId) (len cap:Nat) (k:IntKind) (sp:Option Addr) (ad:Addr) (hsp:sp=some ad) (i:Nat) (x y:Operand) (hu:P.underlying t=some (.slice e)) (hsz:∀ w,(sizeOf e).run P w=.ok 1 w) (hi:i<len) (ho:o.op=.indexAddr t x y) (hx:a.eval x=.slice sp len cap) (hy:a.eval y=.int k (i:Int)) (w:World) :
 (execOp a.eval o).run P w=.ok (.value (.pointer (some (ad.add i)))) w:=by
 subst hsp
 exact idxSl t e len cap k ad i x y hu hsz hi ho hx hy w
end
theorem Mm.putRow {w0 w:World} {l:List (Nat × List Value)} {g:Nat} {base:Nat} {e:TypeId} {size n cap:Nat} {xs:List Value} {sp:Option Addr} (M:Mm w0 (obs sp++l) w) (V:w.ownsRow base e size (.slice sp n cap) n xs) (hsp:sp=some ⟨g,0,none⟩) (h0:w0.heap.size≤base) (j:Nat) (hj:j<xs.length) (u:Value) :
 ((w.cell? ⟨g,j,none⟩).isSome=true∧w.frozen? ⟨g,j,none⟩=false)∧Mm w0 (obs sp++l) (w.setCell ⟨g,j,none⟩ u)∧(w.setCell ⟨g,j,none⟩ u).ownsRow base e size (.slice sp n cap) n (xs.set j u)∧Off (ob sp) w (w.setCell ⟨g,j,none⟩ u):=by
 subst hsp
 obtain ⟨h1,h2⟩:=M.setObs V h0 j hj u
 exact ⟨h1,h2,ownsRow_put V j u,(Off.refl _ w).set (b:=g) mS j u⟩
theorem pullZ18 {α:Type} (a b x t:List α):(x++(a++(b++t))).Perm (a++(b++(x++t))):=by
 have h:=pull0 x (a++b) t
 rw [List.append_assoc,List.append_assoc] at h
 exact h
end
theorem quo8 (x:Int) (h0:0≤x) (h1:x≤1000000000000000000):IntKind.i64.wrap (x.tdiv 8)=x/8:=by
 rw [Int.tdiv_eq_ediv_of_nonneg h0,xw6]
 omega
theorem nodup_num:∀ {l:List Nat},l.Nodup→(∀ k∈l,k<256)→l.length=pnum (fun k=>decide (k∈l)) 256
 | [],_,_=>(pnum_none fun _ _=>decide_eq_false List.not_mem_nil).symm
 | a::l,h,hk=>by
   have h1:=List.nodup_cons.1 h
   rw [List.length_cons,nodup_num h1.2 fun k hk'=>hk k (mT _ hk')]
   refine (pnum_one (k:=a) (decide_eq_false h1.1) (decide_eq_true mS) (fun i hi=>?_) (hk a mS)).symm
   rw [decide_eq_decide,List.mem_cons]
   exact ⟨fun e=>.inr e,fun e=>e.resolve_left hi⟩
theorem PrsW.len {L:Prs} (h:PrsW L):L.length≤256:=by
 have h1:=nodup_num h.d fun k hk=>by
  obtain ⟨q,hq,rfl⟩:=List.mem_map.1 hk
  exact h.i q hq
 rw [List.length_map] at h1
 rw [h1]
 exact pnum_le _ _
def DSt (w0 w w':World) (R:Nat) (l:List (Nat × List Value)) (sp:Option Addr) (t:Ptb):Prop:=∃ (L':Prs) (sp':Option Addr) (cap':Nat),tof L'=t∧PrsW L'∧Mm w0 ((R,[.slice sp' L'.length cap'])::(obs sp'++l)) w'∧w'.ownsRow w0.heap.size 57 13 (.slice sp' L'.length cap') L'.length (prc L')∧Off (R::ob sp) w w'
theorem drem20_any (w0 w:World) (R:Nat) (l:List (Nat × List Value)) (L:Prs) (sp:Option Addr) (cap:Nat) (hw:PrsW L) (M:Mm w0 ((R,[.slice sp L.length cap])::(obs sp++l)) w) (V:w.ownsRow w0.heap.size 57 13 (.slice sp L.length cap) L.length (prc L)) (id:Int) :
 Calls Try.prog 20 #[.pointer (some ⟨R,0,none⟩),.int .i64 id] w fun e w'=>e=.returned (.int .i64 ((prE (tof L) id:Nat):Int))∧DSt w0 w w' R l sp (prm (tof L) id):=by
 have hl:=hw.len; have OF:=Off.refl (R::ob sp) w
 go_enter Try.func20,Try.ntmps20
 go_upto_region 0 with fail; refine wp_region_list ?_; refine xpL (.int .i64 0) ?_; refine xT ?_
 rcases plI_cases hw id with ⟨h1,h2⟩ | ⟨i,p,h1,h2,h3,h4,h5,h6,h7⟩
 · go_upto_region 1 with fail
   refine wp_region_list ?_; refine xpL (.pointer (some ⟨R,0,none⟩)) ?_; refine xpL (.int .i64 id) ?_; have key:=dat20_any w w0.heap.size R L sp cap hl (M.get mS 0 _ rfl) V id
   rw [h1] at key
   refine xcL key ?_; clear key; rintro e w1 ⟨rfl,l_⟩; replace M:=M.call l_; replace V:=ownsRow_bel V l_; replace OF:=OF.below l_; clear l_; refine xeL ?_; refine xpL (.int .i64 (-1)) ?_; refine xT ?_; go_upto_region 2 with fail; refine wp_region_list ?_; refine xpL (.int .i64 (-1)) ?_; refine xaL (.bool true) (lssI .i64 _ _ _ _ _ _ rfl rfl rfl true (by decide) _) ?_
   refine xpL (.bool true) ?_
   with_reducible refine skipL ?_ ?_
   · rfl
   simp only [aP,lI,l0,lS]
   with_reducible refine skipL ?_ ?_
   · rfl
   simp only [aP,lI,l0,lS]
   with_reducible refine skipL ?_ ?_
   · rfl
   simp only [aP,lI,l0,lS]
   with_reducible refine skipL ?_ ?_
   · rfl
   simp only [aP,lI,l0,lS]
   with_reducible refine skipL ?_ ?_
   · rfl
   simp only [aP,lI,l0,lS]
   with_reducible refine skipL ?_ ?_
   · rfl
   simp only [aP,lI,l0,lS]
   with_reducible refine skipL ?_ ?_
   · rfl
   simp only [aP,lI,l0,lS]
   with_reducible refine skipL ?_ ?_
   · rfl
   simp only [aP,lI,l0,lS]
   with_reducible refine skipL ?_ ?_
   · rfl
   simp only [aP,lI,l0,lS]
   with_reducible refine skipL ?_ ?_
   · rfl
   simp only [aP,lI,l0,lS]
   with_reducible refine skipL ?_ ?_
   · rfl
   simp only [aP,lI,l0,lS]
   with_reducible refine skipL ?_ ?_
   · rfl
   simp only [aP,lI,l0,lS]
   with_reducible refine skipL ?_ ?_
   · rfl
   simp only [aP,lI,l0,lS]
   with_reducible refine skipL ?_ ?_
   · rfl
   simp only [aP,lI,l0,lS]
   with_reducible refine skipL ?_ ?_
   · rfl
   simp only [aP,lI,l0,lS]
   with_reducible refine skipL ?_ ?_
   · rfl
   simp only [aP,lI,l0,lS]
   with_reducible refine skipL ?_ ?_
   · rfl
   simp only [aP,lI,l0,lS]
   with_reducible refine skipL ?_ ?_
   · rfl
   simp only [aP,lI,l0,lS]
   with_reducible refine skipL ?_ ?_
   · rfl
   simp only [aP,lI,l0,lS]
   with_reducible refine skipL ?_ ?_
   · rfl
   simp only [aP,lI,l0,lS]; refine xpL (.bool true) ?_; refine xT ?_; go_upto_region 3 with fail; refine wp_region_list ?_; refine xpL (.int .i64 200) ?_; refine xT ?_; have HS:=show Hid _ from (show DSt w0 w w1 R l sp (prm (tof L) id) from ⟨L,sp,cap,(show tof L=prm (tof L) id from (if_neg (by rw [h2]; first | decide | (intro h_; omega))).symm),hw,M,V,OF⟩)
   have hE:=show Hid _ from (show prE (tof L) id=200 from if_neg (by rw [h2]; decide)); clear M V OF; go_wp2; go_ret
   exact ⟨by rw [hE.out]; try rfl,HS.out⟩
 · have hlt:=(List.getElem?_eq_some_iff.1 h3).1
   go_upto_region 1 with fail; refine wp_region_list ?_; refine xpL (.pointer (some ⟨R,0,none⟩)) ?_; refine xpL (.int .i64 id) ?_; have key:=dat20_any w w0.heap.size R L sp cap hl (M.get mS 0 _ rfl) V id
   rw [h1] at key
   refine xcL key ?_; clear key; rintro e w2 ⟨rfl,l_⟩; replace M:=M.call l_; replace V:=ownsRow_bel V l_; replace OF:=OF.below l_; clear l_; refine xeL ?_; refine xpL (.int .i64 ((i:Nat):Int)) ?_; refine xT ?_
   obtain ⟨g,hg⟩:∃ g,sp=some ⟨g,0,none⟩:=by
    rcases V.2 with ⟨_,h0_⟩ | ⟨g,c_,cur_,hv_,_⟩
    · omega
    · injection hv_ with hv_ _ _
      exact ⟨g,hv_⟩
   obtain hs | hs | hs:p.st=1∨p.st=2∨(p.st≠1∧p.st≠2):=by omega
   · go_upto_region 2 with fail
     refine wp_region_list ?_; refine xpL (.int .i64 ((i:Nat):Int)) ?_; refine xaL (.bool false) (lssI .i64 _ _ _ _ _ _ rfl rfl rfl false (decide_eq_false (by omega)) _) ?_; refine xpL (.bool false) ?_; refine xpL (.pointer (some ⟨R,0,none⟩)) ?_; refine xpL (.pointer (some ⟨R,0,none⟩)) ?_; refine xpL (.pointer (some ⟨R,0,none⟩)) ?_
     refine xaL (.slice sp L.length cap) (load1 27 _ ⟨R,0,none⟩ _ rfl rfl (fun _=>by kernel_rfl) (M.get mS 0 _ rfl)) ?_; refine xpL (.int .i64 ((i:Nat):Int)) ?_; refine xaL (.pointer (some ⟨g,i*13,none⟩)) (idxP13 g _ _ i sp hg (List.getElem?_eq_some_iff.1 h3).1 _ _ rfl rfl rfl _) ?_; refine xpL (.pointer (some ⟨g,i*13+1,none⟩)) ?_
     refine readL (.int .i64 (((pix id,p).2.st:Nat):Int)) rfl (load1 3 _ ⟨g,i*13+1,none⟩ _ rfl rfl (fun _=>by kernel_rfl) (rowCellP V hg ((prc_get h3 (by decide)).trans rfl))) ?_; simp only [aP,lI,l0,lS]; refine xaL (.bool false) (neqI .i64 _ _ _ _ _ _ rfl rfl rfl false (by rw [bne_eq_false_iff_eq]; omega) _) ?_; refine xpL (.bool false) ?_
     with_reducible refine skipL ?_ ?_
     · rfl
     simp only [aP,lI,l0,lS]
     with_reducible refine skipL ?_ ?_
     · rfl
     simp only [aP,lI,l0,lS]
     with_reducible refine skipL ?_ ?_
     · rfl
     simp only [aP,lI,l0,lS]
     with_reducible refine skipL ?_ ?_
     · rfl
     simp only [aP,lI,l0,lS]
     with_reducible refine skipL ?_ ?_
     · rfl
     simp only [aP,lI,l0,lS]
     with_reducible refine skipL ?_ ?_
     · rfl
     simp only [aP,lI,l0,lS]
     with_reducible refine skipL ?_ ?_
     · rfl
     simp only [aP,lI,l0,lS]
     with_reducible refine skipL ?_ ?_
     · rfl
     simp only [aP,lI,l0,lS]
     with_reducible refine skipL ?_ ?_
     · rfl
     simp only [aP,lI,l0,lS]; refine xpL (.bool false) ?_; refine xpL (.bool false) ?_; refine xT ?_; go_upto_region 4 with fail; refine wp_region_list ?_; refine xpL (.pointer (some ⟨R,0,none⟩)) ?_; refine xpL (.pointer (some ⟨R,0,none⟩)) ?_; refine xpL (.pointer (some ⟨R,0,none⟩)) ?_
     refine xaL (.slice sp L.length cap) (load1 27 _ ⟨R,0,none⟩ _ rfl rfl (fun _=>by kernel_rfl) (M.get mS 0 _ rfl)) ?_; refine xpL (.int .i64 ((i:Nat):Int)) ?_; refine xaL (.pointer (some ⟨g,i*13,none⟩)) (idxP13 g _ _ i sp hg (List.getElem?_eq_some_iff.1 h3).1 _ _ rfl rfl rfl _) ?_; refine xpL (.pointer (some ⟨g,i*13+1,none⟩)) ?_
     obtain ⟨hsf,M',V2,oS⟩:=(M.perm (pull0 [(R,[Value.slice sp L.length cap])] (obs sp) l)).putRow V hg (xnR _) (i*13+1) (by rw [prc_len]; omega) (.int .i64 3)
     refine skipOpL rfl (storeAny (.int .i64 3) g (i*13+1) 3 _ _ rfl rfl rfl rfl rfl hsf.1 hsf.2 (by kernel_rfl)) ?_; simp only [Act.put]; replace OF:=OF.trans (oS.mono (fun x_ hx_=>mT _ hx_)); clear M hsf oS V
     rw [prc_set h3 _ (pix id,{ p with st:=3 }) (by decide) rfl] at V2
     have V:=V2; clear V2; generalize w2.setCell ⟨g,i*13+1,none⟩ (.int .i64 3)=w3 at M' V OF ⊢; have M:=M'.perm (pull0 [(R,[Value.slice sp L.length cap])] (obs sp) l).symm; clear M'; refine xT ?_; go_upto_region 5 with fail; refine wp_region_list ?_; refine xpL (.int .i64 0) ?_; refine xT ?_; have hE:=show Hid _ from (show prE (tof L) id=0 from if_pos (by rw [h5]; omega))
     have hT:tof (L.set i (pix id,{ p with st:=3 }))=prm (tof L) id:=by
      have h_:=tof_set (L:=L) (k:=pix id) (by rw [h4]; exact h3) { p with st:=3 }
      rw [h4] at h_
      rw [h_]
      refine (Eq.trans (if_pos (by rw [h5]; omega)) ?_).symm
      rw [h5]
     have hlen:(L.set i (pix id,{ p with st:=3 })).length=L.length:=List.length_set
     rw [← hlen] at M V
     have HS:=show Hid _ from (show DSt w0 w w3 R l sp (prm (tof L) id) from ⟨(L.set i (pix id,{ p with st:=3 })),sp,cap,hT,hw.set h3 (show (3:Nat)≠0 by decide),M,V,OF⟩); clear M V OF; go_wp2; go_ret
     exact ⟨by rw [hE.out]; try rfl,HS.out⟩
   · go_upto_region 2 with fail
     refine wp_region_list ?_; refine xpL (.int .i64 ((i:Nat):Int)) ?_; refine xaL (.bool false) (lssI .i64 _ _ _ _ _ _ rfl rfl rfl false (decide_eq_false (by omega)) _) ?_; refine xpL (.bool false) ?_; refine xpL (.pointer (some ⟨R,0,none⟩)) ?_; refine xpL (.pointer (some ⟨R,0,none⟩)) ?_; refine xpL (.pointer (some ⟨R,0,none⟩)) ?_
     refine xaL (.slice sp L.length cap) (load1 27 _ ⟨R,0,none⟩ _ rfl rfl (fun _=>by kernel_rfl) (M.get mS 0 _ rfl)) ?_; refine xpL (.int .i64 ((i:Nat):Int)) ?_; refine xaL (.pointer (some ⟨g,i*13,none⟩)) (idxP13 g _ _ i sp hg (List.getElem?_eq_some_iff.1 h3).1 _ _ rfl rfl rfl _) ?_; refine xpL (.pointer (some ⟨g,i*13+1,none⟩)) ?_
     refine readL (.int .i64 (((pix id,p).2.st:Nat):Int)) rfl (load1 3 _ ⟨g,i*13+1,none⟩ _ rfl rfl (fun _=>by kernel_rfl) (rowCellP V hg ((prc_get h3 (by decide)).trans rfl))) ?_; simp only [aP,lI,l0,lS]; refine xaL (.bool true) (neqI .i64 _ _ _ _ _ _ rfl rfl rfl true (bne_iff_ne.2 (by omega)) _) ?_; refine xpL (.bool true) ?_; refine xpL (.pointer (some ⟨R,0,none⟩)) ?_
     refine xpL (.pointer (some ⟨R,0,none⟩)) ?_; refine xpL (.pointer (some ⟨R,0,none⟩)) ?_; refine xaL (.slice sp L.length cap) (load1 27 _ ⟨R,0,none⟩ _ rfl rfl (fun _=>by kernel_rfl) (M.get mS 0 _ rfl)) ?_; refine xpL (.int .i64 ((i:Nat):Int)) ?_; refine xaL (.pointer (some ⟨g,i*13,none⟩)) (idxP13 g _ _ i sp hg (List.getElem?_eq_some_iff.1 h3).1 _ _ rfl rfl rfl _) ?_
     refine xpL (.pointer (some ⟨g,i*13+1,none⟩)) ?_; refine readL (.int .i64 (((pix id,p).2.st:Nat):Int)) rfl (load1 3 _ ⟨g,i*13+1,none⟩ _ rfl rfl (fun _=>by kernel_rfl) (rowCellP V hg ((prc_get h3 (by decide)).trans rfl))) ?_; simp only [aP,lI,l0,lS]; refine xaL (.bool false) (neqI .i64 _ _ _ _ _ _ rfl rfl rfl false (by rw [bne_eq_false_iff_eq]; omega) _) ?_
     refine xpL (.bool false) ?_; refine xpL (.bool false) ?_; refine xT ?_; go_upto_region 4 with fail; refine wp_region_list ?_; refine xpL (.pointer (some ⟨R,0,none⟩)) ?_; refine xpL (.pointer (some ⟨R,0,none⟩)) ?_; refine xpL (.pointer (some ⟨R,0,none⟩)) ?_; refine xaL (.slice sp L.length cap) (load1 27 _ ⟨R,0,none⟩ _ rfl rfl (fun _=>by kernel_rfl) (M.get mS 0 _ rfl)) ?_
     refine xpL (.int .i64 ((i:Nat):Int)) ?_; refine xaL (.pointer (some ⟨g,i*13,none⟩)) (idxP13 g _ _ i sp hg (List.getElem?_eq_some_iff.1 h3).1 _ _ rfl rfl rfl _) ?_; refine xpL (.pointer (some ⟨g,i*13+1,none⟩)) ?_
     obtain ⟨hsf,M',V2,oS⟩:=(M.perm (pull0 [(R,[Value.slice sp L.length cap])] (obs sp) l)).putRow V hg (xnR _) (i*13+1) (by rw [prc_len]; omega) (.int .i64 3)
     refine skipOpL rfl (storeAny (.int .i64 3) g (i*13+1) 3 _ _ rfl rfl rfl rfl rfl hsf.1 hsf.2 (by kernel_rfl)) ?_; simp only [Act.put]; replace OF:=OF.trans (oS.mono (fun x_ hx_=>mT _ hx_)); clear M hsf oS V
     rw [prc_set h3 _ (pix id,{ p with st:=3 }) (by decide) rfl] at V2
     have V:=V2; clear V2; generalize w2.setCell ⟨g,i*13+1,none⟩ (.int .i64 3)=w4 at M' V OF ⊢; have M:=M'.perm (pull0 [(R,[Value.slice sp L.length cap])] (obs sp) l).symm; clear M'; refine xT ?_; go_upto_region 5 with fail; refine wp_region_list ?_; refine xpL (.int .i64 0) ?_; refine xT ?_; have hE:=show Hid _ from (show prE (tof L) id=0 from if_pos (by rw [h5]; omega))
     have hT:tof (L.set i (pix id,{ p with st:=3 }))=prm (tof L) id:=by
      have h_:=tof_set (L:=L) (k:=pix id) (by rw [h4]; exact h3) { p with st:=3 }
      rw [h4] at h_
      rw [h_]
      refine (Eq.trans (if_pos (by rw [h5]; omega)) ?_).symm
      rw [h5]
     have hlen:(L.set i (pix id,{ p with st:=3 })).length=L.length:=List.length_set
     rw [← hlen] at M V
     have HS:=show Hid _ from (show DSt w0 w w4 R l sp (prm (tof L) id) from ⟨(L.set i (pix id,{ p with st:=3 })),sp,cap,hT,hw.set h3 (show (3:Nat)≠0 by decide),M,V,OF⟩); clear M V OF; go_wp2; go_ret
     exact ⟨by rw [hE.out]; try rfl,HS.out⟩
   · go_upto_region 2 with fail
     refine wp_region_list ?_; refine xpL (.int .i64 ((i:Nat):Int)) ?_; refine xaL (.bool false) (lssI .i64 _ _ _ _ _ _ rfl rfl rfl false (decide_eq_false (by omega)) _) ?_; refine xpL (.bool false) ?_; refine xpL (.pointer (some ⟨R,0,none⟩)) ?_; refine xpL (.pointer (some ⟨R,0,none⟩)) ?_; refine xpL (.pointer (some ⟨R,0,none⟩)) ?_
     refine xaL (.slice sp L.length cap) (load1 27 _ ⟨R,0,none⟩ _ rfl rfl (fun _=>by kernel_rfl) (M.get mS 0 _ rfl)) ?_; refine xpL (.int .i64 ((i:Nat):Int)) ?_; refine xaL (.pointer (some ⟨g,i*13,none⟩)) (idxP13 g _ _ i sp hg (List.getElem?_eq_some_iff.1 h3).1 _ _ rfl rfl rfl _) ?_; refine xpL (.pointer (some ⟨g,i*13+1,none⟩)) ?_
     refine readL (.int .i64 (((pix id,p).2.st:Nat):Int)) rfl (load1 3 _ ⟨g,i*13+1,none⟩ _ rfl rfl (fun _=>by kernel_rfl) (rowCellP V hg ((prc_get h3 (by decide)).trans rfl))) ?_; simp only [aP,lI,l0,lS]; refine xaL (.bool true) (neqI .i64 _ _ _ _ _ _ rfl rfl rfl true (bne_iff_ne.2 (by omega)) _) ?_; refine xpL (.bool true) ?_; refine xpL (.pointer (some ⟨R,0,none⟩)) ?_
     refine xpL (.pointer (some ⟨R,0,none⟩)) ?_; refine xpL (.pointer (some ⟨R,0,none⟩)) ?_; refine xaL (.slice sp L.length cap) (load1 27 _ ⟨R,0,none⟩ _ rfl rfl (fun _=>by kernel_rfl) (M.get mS 0 _ rfl)) ?_; refine xpL (.int .i64 ((i:Nat):Int)) ?_; refine xaL (.pointer (some ⟨g,i*13,none⟩)) (idxP13 g _ _ i sp hg (List.getElem?_eq_some_iff.1 h3).1 _ _ rfl rfl rfl _) ?_
     refine xpL (.pointer (some ⟨g,i*13+1,none⟩)) ?_; refine readL (.int .i64 (((pix id,p).2.st:Nat):Int)) rfl (load1 3 _ ⟨g,i*13+1,none⟩ _ rfl rfl (fun _=>by kernel_rfl) (rowCellP V hg ((prc_get h3 (by decide)).trans rfl))) ?_; simp only [aP,lI,l0,lS]; refine xaL (.bool true) (neqI .i64 _ _ _ _ _ _ rfl rfl rfl true (bne_iff_ne.2 (by omega)) _) ?_; refine xpL (.bool true) ?_
     refine xpL (.bool true) ?_; refine xT ?_; go_upto_region 3 with fail; refine wp_region_list ?_; refine xpL (.int .i64 200) ?_; refine xT ?_; have HS:=show Hid _ from (show DSt w0 w w2 R l sp (prm (tof L) id) from ⟨L,sp,cap,(show tof L=prm (tof L) id from (if_neg (by rw [h5]; first | decide | (intro h_; omega))).symm),hw,M,V,OF⟩)
     have hE:=show Hid _ from (show prE (tof L) id=200 from if_neg (by rw [h5]; intro h_; omega)); clear M V OF; go_wp2; go_ret
     exact ⟨by rw [hE.out]; try rfl,HS.out⟩
theorem dsam20_any (w0 w:World) (R:Nat) (l:List (Nat × List Value)) (L:Prs) (sp:Option Addr) (cap:Nat) (hw:PrsW L) (M:Mm w0 ((R,[.slice sp L.length cap])::(obs sp++l)) w) (V:w.ownsRow w0.heap.size 57 13 (.slice sp L.length cap) L.length (prc L)) (hW:PtbW (tof L)) (id n:Int) (hn:i64 n) :
 Calls Try.prog 22 #[.pointer (some ⟨R,0,none⟩),.int .i64 id,.int .i64 n] w fun e w'=>e=.returned (.tuple #[])∧DSt w0 w w' R l sp (psm (tof L) id n):=by
 unfold i64 at hn
 have hl:=hw.len; have OF:=Off.refl (R::ob sp) w
 go_enter Try.func22,Try.ntmps22
 rcases plI_cases hw id with ⟨h1,h2⟩ | ⟨i,p,h1,h2,h3,h4,h5,h6,h7⟩
 · go_upto_region 0 with fail
   refine wp_region_list ?_; refine xpL (.pointer (some ⟨R,0,none⟩)) ?_; refine xpL (.int .i64 id) ?_; have key:=dat20_any w w0.heap.size R L sp cap hl (M.get mS 0 _ rfl) V id
   rw [h1] at key
   refine xcL key ?_; clear key; rintro e w1 ⟨rfl,l_⟩; replace M:=M.call l_; replace V:=ownsRow_bel V l_; replace OF:=OF.below l_; clear l_; refine xeL ?_; refine xpL (.int .i64 (-1)) ?_; refine xT ?_; go_upto_region 1 with fail; refine wp_region_list ?_; refine xpL (.int .i64 (-1)) ?_; refine xaL (.bool true) (lssI .i64 _ _ _ _ _ _ rfl rfl rfl true (by decide) _) ?_
   refine xpL (.bool true) ?_
   with_reducible refine skipL ?_ ?_
   · rfl
   simp only [aP,lI,l0,lS]
   with_reducible refine skipL ?_ ?_
   · rfl
   simp only [aP,lI,l0,lS]
   with_reducible refine skipL ?_ ?_
   · rfl
   simp only [aP,lI,l0,lS]
   with_reducible refine skipL ?_ ?_
   · rfl
   simp only [aP,lI,l0,lS]
   with_reducible refine skipL ?_ ?_
   · rfl
   simp only [aP,lI,l0,lS]
   with_reducible refine skipL ?_ ?_
   · rfl
   simp only [aP,lI,l0,lS]
   with_reducible refine skipL ?_ ?_
   · rfl
   simp only [aP,lI,l0,lS]
   with_reducible refine skipL ?_ ?_
   · rfl
   simp only [aP,lI,l0,lS]
   with_reducible refine skipL ?_ ?_
   · rfl
   simp only [aP,lI,l0,lS]; refine xpL (.bool true) ?_; refine xpL (.bool true) ?_
   with_reducible refine skipL ?_ ?_
   · rfl
   simp only [aP,lI,l0,lS]
   with_reducible refine skipL ?_ ?_
   · rfl
   simp only [aP,lI,l0,lS]; refine xpL (.bool true) ?_; refine xT ?_; have HS:=show Hid _ from (show DSt w0 w w1 R l sp (psm (tof L) id n) from ⟨L,sp,cap,(show tof L=psm (tof L) id n from (if_neg (by rw [h2]; intro h_; first | omega | exact absurd h_.1 (by decide))).symm),hw,M,V,OF⟩); clear M V OF; go_wp2
   first | exact ⟨rfl,.tuple #[],by kernel_rfl,rfl,HS.out⟩ | (go_ret; exact ⟨rfl,HS.out⟩)
 · have hlt:=(List.getElem?_eq_some_iff.1 h3).1
   have hpw:=(hW.w (pix id)).r
   rw [h5] at hpw
   go_upto_region 0 with fail; refine wp_region_list ?_; refine xpL (.pointer (some ⟨R,0,none⟩)) ?_; refine xpL (.int .i64 id) ?_; have key:=dat20_any w w0.heap.size R L sp cap hl (M.get mS 0 _ rfl) V id
   rw [h1] at key
   refine xcL key ?_; clear key; rintro e w2 ⟨rfl,l_⟩; replace M:=M.call l_; replace V:=ownsRow_bel V l_; replace OF:=OF.below l_; clear l_; refine xeL ?_; refine xpL (.int .i64 ((i:Nat):Int)) ?_; refine xT ?_
   obtain ⟨g,hg⟩:∃ g,sp=some ⟨g,0,none⟩:=by
    rcases V.2 with ⟨_,h0_⟩ | ⟨g,c_,cur_,hv_,_⟩
    · omega
    · injection hv_ with hv_ _ _
      exact ⟨g,hv_⟩
   by_cases hs:p.st=2
   · by_cases hn0:n<0
     · go_upto_region 1 with fail
       refine wp_region_list ?_; refine xpL (.int .i64 ((i:Nat):Int)) ?_; refine xaL (.bool false) (lssI .i64 _ _ _ _ _ _ rfl rfl rfl false (decide_eq_false (by omega)) _) ?_; refine xpL (.bool false) ?_; refine xpL (.pointer (some ⟨R,0,none⟩)) ?_; refine xpL (.pointer (some ⟨R,0,none⟩)) ?_; refine xpL (.pointer (some ⟨R,0,none⟩)) ?_
       refine xaL (.slice sp L.length cap) (load1 27 _ ⟨R,0,none⟩ _ rfl rfl (fun _=>by kernel_rfl) (M.get mS 0 _ rfl)) ?_; refine xpL (.int .i64 ((i:Nat):Int)) ?_; refine xaL (.pointer (some ⟨g,i*13,none⟩)) (idxP13 g _ _ i sp hg (List.getElem?_eq_some_iff.1 h3).1 _ _ rfl rfl rfl _) ?_; refine xpL (.pointer (some ⟨g,i*13+1,none⟩)) ?_
       refine readL (.int .i64 (((pix id,p).2.st:Nat):Int)) rfl (load1 3 _ ⟨g,i*13+1,none⟩ _ rfl rfl (fun _=>by kernel_rfl) (rowCellP V hg ((prc_get h3 (by decide)).trans rfl))) ?_; simp only [aP,lI,l0,lS]; refine xaL (.bool false) (neqI .i64 _ _ _ _ _ _ rfl rfl rfl false (by rw [bne_eq_false_iff_eq]; omega) _) ?_; refine xpL (.bool false) ?_; refine xpL (.bool false) ?_
       refine xpL (.int .i64 n) ?_; refine xaL (.bool true) (lssI .i64 _ _ _ _ _ _ rfl rfl rfl true (decide_eq_true (by omega)) _) ?_; refine xpL (.bool true) ?_; refine xT ?_
       have HS:=show Hid _ from (show DSt w0 w w2 R l sp (psm (tof L) id n) from ⟨L,sp,cap,(show tof L=psm (tof L) id n from (if_neg (by rw [h5]; intro h_; first | omega | exact absurd h_.1 (by decide))).symm),hw,M,V,OF⟩); clear M V OF; go_wp2
       first | exact ⟨rfl,.tuple #[],by kernel_rfl,rfl,HS.out⟩ | (go_ret; exact ⟨rfl,HS.out⟩)
     · go_upto_region 1 with fail
       refine wp_region_list ?_; refine xpL (.int .i64 ((i:Nat):Int)) ?_; refine xaL (.bool false) (lssI .i64 _ _ _ _ _ _ rfl rfl rfl false (decide_eq_false (by omega)) _) ?_; refine xpL (.bool false) ?_; refine xpL (.pointer (some ⟨R,0,none⟩)) ?_; refine xpL (.pointer (some ⟨R,0,none⟩)) ?_; refine xpL (.pointer (some ⟨R,0,none⟩)) ?_
       refine xaL (.slice sp L.length cap) (load1 27 _ ⟨R,0,none⟩ _ rfl rfl (fun _=>by kernel_rfl) (M.get mS 0 _ rfl)) ?_; refine xpL (.int .i64 ((i:Nat):Int)) ?_; refine xaL (.pointer (some ⟨g,i*13,none⟩)) (idxP13 g _ _ i sp hg (List.getElem?_eq_some_iff.1 h3).1 _ _ rfl rfl rfl _) ?_; refine xpL (.pointer (some ⟨g,i*13+1,none⟩)) ?_
       refine readL (.int .i64 (((pix id,p).2.st:Nat):Int)) rfl (load1 3 _ ⟨g,i*13+1,none⟩ _ rfl rfl (fun _=>by kernel_rfl) (rowCellP V hg ((prc_get h3 (by decide)).trans rfl))) ?_; simp only [aP,lI,l0,lS]; refine xaL (.bool false) (neqI .i64 _ _ _ _ _ _ rfl rfl rfl false (by rw [bne_eq_false_iff_eq]; omega) _) ?_; refine xpL (.bool false) ?_; refine xpL (.bool false) ?_
       refine xpL (.int .i64 n) ?_; refine xaL (.bool false) (lssI .i64 _ _ _ _ _ _ rfl rfl rfl false (decide_eq_false (by omega)) _) ?_; refine xpL (.bool false) ?_; refine xT ?_; go_upto_region 2 with fail; have hdr:=(Below.refl w2.heap.size w2).drew; replace M:=M.drew; replace V:=ownsRow_bel V hdr; replace OF:=OF.below hdr; clear hdr
       refine wp_region_C (S:=fun w'=>Mm w0 ((R,[.slice sp L.length cap])::(obs sp++l)) w'∧w'.ownsRow w0.heap.size 57 13 (.slice sp L.length cap) L.length (prc L)) 21 (by kernel_rfl) ⟨M,V⟩ ?_; intro _; generalize w2.drew=w3 at M V OF ⊢
       refine readC (i:=0) (some 27) rfl (.pointer (some ⟨R,0,none⟩)) rfl rfl (by kernel_rfl) rfl (fun _ hS=>(by kernel_rfl)) (by kernel_rfl) (by kernel_rfl) (by kernel_rfl) (by kernel_rfl) (fun _ _ _ h=>h) ⟨M,V⟩ ?_; simp only [aP,lI,l0,lS]
       refine readC (i:=1) (some 28) rfl (.pointer (some ⟨R,0,none⟩)) rfl rfl (by kernel_rfl) rfl (fun _ hS=>(by kernel_rfl)) (by kernel_rfl) (by kernel_rfl) (by kernel_rfl) (by kernel_rfl) (fun _ _ _ h=>h) ⟨M,V⟩ ?_; simp only [aP,lI,l0,lS]
       refine readC (i:=2) (some 29) rfl (.pointer (some ⟨R,0,none⟩)) rfl rfl (by kernel_rfl) rfl (fun _ hS=>(by kernel_rfl)) (by kernel_rfl) (by kernel_rfl) (by kernel_rfl) (by kernel_rfl) (fun _ _ _ h=>h) ⟨M,V⟩ ?_; simp only [aP,lI,l0,lS]
       refine readC (i:=3) (some 30) rfl (.slice sp L.length cap) rfl rfl (by kernel_rfl) rfl (fun _ hS=>load1 27 _ ⟨R,0,none⟩ _ rfl rfl (fun _=>by kernel_rfl) (hS.1.get mS 0 _ rfl)) (by kernel_rfl) (by kernel_rfl) (by kernel_rfl) (by kernel_rfl) (fun _ _ _ h=>h) ⟨M,V⟩ ?_; simp only [aP,lI,l0,lS]
       refine readC (i:=4) (some 31) rfl (.int .i64 ((i:Nat):Int)) rfl rfl (by kernel_rfl) rfl (fun _ hS=>(by kernel_rfl)) (by kernel_rfl) (by kernel_rfl) (by kernel_rfl) (by kernel_rfl) (fun _ _ _ h=>h) ⟨M,V⟩ ?_; simp only [aP,lI,l0,lS]
       refine readC (i:=5) (some 32) rfl (.pointer (some ⟨R,0,none⟩)) rfl rfl (by kernel_rfl) rfl (fun _ hS=>(by kernel_rfl)) (by kernel_rfl) (by kernel_rfl) (by kernel_rfl) (by kernel_rfl) (fun _ _ _ h=>h) ⟨M,V⟩ ?_; simp only [aP,lI,l0,lS]
       refine readC (i:=6) (some 33) rfl (.pointer (some ⟨R,0,none⟩)) rfl rfl (by kernel_rfl) rfl (fun _ hS=>(by kernel_rfl)) (by kernel_rfl) (by kernel_rfl) (by kernel_rfl) (by kernel_rfl) (fun _ _ _ h=>h) ⟨M,V⟩ ?_; simp only [aP,lI,l0,lS]
       refine readC (i:=7) (some 34) rfl (.pointer (some ⟨R,0,none⟩)) rfl rfl (by kernel_rfl) rfl (fun _ hS=>(by kernel_rfl)) (by kernel_rfl) (by kernel_rfl) (by kernel_rfl) (by kernel_rfl) (fun _ _ _ h=>h) ⟨M,V⟩ ?_; simp only [aP,lI,l0,lS]
       refine readC (i:=8) (some 35) rfl (.slice sp L.length cap) rfl rfl (by kernel_rfl) rfl (fun _ hS=>load1 27 _ ⟨R,0,none⟩ _ rfl rfl (fun _=>by kernel_rfl) (hS.1.get mS 0 _ rfl)) (by kernel_rfl) (by kernel_rfl) (by kernel_rfl) (by kernel_rfl) (fun _ _ _ h=>h) ⟨M,V⟩ ?_; simp only [aP,lI,l0,lS]
       refine readC (i:=9) (some 36) rfl (.int .i64 ((i:Nat):Int)) rfl rfl (by kernel_rfl) rfl (fun _ hS=>(by kernel_rfl)) (by kernel_rfl) (by kernel_rfl) (by kernel_rfl) (by kernel_rfl) (fun _ _ _ h=>h) ⟨M,V⟩ ?_; simp only [aP,lI,l0,lS]
       refine readC (i:=10) (some 37) rfl (.pointer (some ⟨g,i*13,none⟩)) rfl rfl (by kernel_rfl) rfl (fun _ hS=>idxP13 g _ _ i sp hg (List.getElem?_eq_some_iff.1 h3).1 _ _ rfl rfl rfl _) (by kernel_rfl) (by kernel_rfl) (by kernel_rfl) (by kernel_rfl) (fun _ _ _ h=>h) ⟨M,V⟩ ?_; simp only [aP,lI,l0,lS]
       refine readC (i:=11) (some 38) rfl (.pointer (some ⟨g,i*13+2,none⟩)) rfl rfl (by kernel_rfl) rfl (fun _ hS=>(by kernel_rfl)) (by kernel_rfl) (by kernel_rfl) (by kernel_rfl) (by kernel_rfl) (fun _ _ _ h=>h) ⟨M,V⟩ ?_; simp only [aP,lI,l0,lS]
       refine readC (i:=12) (some 39) rfl (.int .i64 (((pix id,p).2.rt:Nat):Int)) rfl rfl (by kernel_rfl) rfl (fun _ hS=>load1 3 _ ⟨g,i*13+2,none⟩ _ rfl rfl (fun _=>by kernel_rfl) (rowCellP hS.2 hg ((prc_get h3 (by decide)).trans rfl))) (by kernel_rfl) (by kernel_rfl) (by kernel_rfl) (by kernel_rfl) (fun _ _ _ h=>h) ⟨M,V⟩ ?_; simp only [aP,lI,l0,lS]
       refine readC (i:=13) (some 40) rfl (.int .i64 (7*((p.rt:Nat):Int))) rfl rfl (by kernel_rfl) rfl (fun _ hS=>mulI .i64 _ _ _ _ _ _ _ rfl rfl rfl (by rw [xw6]; omega) _) (by kernel_rfl) (by kernel_rfl) (by kernel_rfl) (by kernel_rfl) (fun _ _ _ h=>h) ⟨M,V⟩ ?_; simp only [aP,lI,l0,lS]
       refine readC (i:=14) (some 41) rfl (.int .i64 n) rfl rfl (by kernel_rfl) rfl (fun _ hS=>(by kernel_rfl)) (by kernel_rfl) (by kernel_rfl) (by kernel_rfl) (by kernel_rfl) (fun _ _ _ h=>h) ⟨M,V⟩ ?_; simp only [aP,lI,l0,lS]
       refine readC (i:=15) (some 42) rfl (.int .i64 (min n 1099511627776)) rfl rfl (by kernel_rfl) rfl (fun _ hS=>minI .i64 .i64 _ _ _ _ _ _ _ rfl rfl rfl (by split <;> omega) _) (by kernel_rfl) (by kernel_rfl) (by kernel_rfl) (by kernel_rfl) (fun _ _ _ h=>h) ⟨M,V⟩ ?_; simp only [aP,lI,l0,lS]
       refine readC (i:=16) (some 43) rfl (.int .i64 (7*((p.rt:Nat):Int)+min n 1099511627776)) rfl rfl (by kernel_rfl) rfl (fun _ hS=>addI .i64 _ _ _ _ _ _ _ rfl rfl rfl (by rw [xw6]; omega) _) (by kernel_rfl) (by kernel_rfl) (by kernel_rfl) (by kernel_rfl) (fun _ _ _ h=>h) ⟨M,V⟩ ?_; simp only [aP,lI,l0,lS]
       refine readC (i:=17) (some 44) rfl (.int .i64 ((7*((p.rt:Nat):Int)+min n 1099511627776)/8)) rfl rfl (by kernel_rfl) rfl (fun _ hS=>quoI .i64 _ 8 _ _ _ _ _ rfl rfl rfl (by decide) (quo8 _ (by omega) (by omega)) _) (by kernel_rfl) (by kernel_rfl) (by kernel_rfl) (by kernel_rfl) (fun _ _ _ h=>h) ⟨M,V⟩ ?_; simp only [aP,lI,l0,lS]
       refine readC (i:=18) (some 45) rfl (.int .i64 ((psR p.rt n:Nat):Int)) rfl rfl (by kernel_rfl) rfl (fun _ hS=>maxI .i64 .i64 _ _ _ _ _ _ _ rfl rfl rfl (by unfold psR; split <;> omega) _) (by kernel_rfl) (by kernel_rfl) (by kernel_rfl) (by kernel_rfl) (fun _ _ _ h=>h) ⟨M,V⟩ ?_; simp only [aP,lI,l0,lS]
       refine xqC 19 46 rfl (.pointer (some ⟨g,i*13,none⟩)) (fun _=>idxP13 g _ _ i sp hg (List.getElem?_eq_some_iff.1 h3).1 _ _ rfl rfl rfl _) ⟨M,V⟩ ?_; refine readC (i:=20) (some 47) rfl (.pointer (some ⟨g,i*13+2,none⟩)) rfl rfl (by kernel_rfl) rfl (fun _ hS=>(by kernel_rfl)) (by kernel_rfl) (by kernel_rfl) (by kernel_rfl) (by kernel_rfl) (fun _ _ _ h=>h) ⟨M,V⟩ ?_
       simp only [aP,lI,l0,lS]
       obtain ⟨hsf,M',V2,oS⟩:=(M.perm (pull0 [(R,[Value.slice sp L.length cap])] (obs sp) l)).putRow V hg (xnR _) (i*13+2) (by rw [prc_len]; omega) (.int .i64 ((psR p.rt n:Nat):Int))
       refine skipC (S2:=fun _=>True) none rfl (by kernel_rfl) rfl rfl (storeAny (.int .i64 ((psR p.rt n:Nat):Int)) g (i*13+2) 3 _ _ rfl rfl rfl rfl rfl hsf.1 hsf.2 (by kernel_rfl)) (by kernel_rfl) ?_; simp only [Act.put]; replace OF:=OF.trans (oS.mono (fun x_ hx_=>mT _ hx_)); clear M hsf oS V
       rw [prc_set h3 _ (pix id,{ p with rt:=psR p.rt n }) (by decide) rfl] at V2
       have V:=V2; clear V2; generalize w3.setCell ⟨g,i*13+2,none⟩ (.int .i64 ((psR p.rt n:Nat):Int))=w4 at M' V OF ⊢; have M:=M'.perm (pull0 [(R,[Value.slice sp L.length cap])] (obs sp) l).symm; clear M'
       refine wpAnyH_done (by kernel_rfl) ?_ _
       have hT:tof (L.set i (pix id,{ p with rt:=psR p.rt n }))=psm (tof L) id n:=by
        have h_:=tof_set (L:=L) (k:=pix id) (by rw [h4]; exact h3) { p with rt:=psR p.rt n }
        rw [h4] at h_
        rw [h_]
        refine (Eq.trans (if_pos (by rw [h5]; omega)) ?_).symm
        rw [h5]
       have hlen:(L.set i (pix id,{ p with rt:=psR p.rt n })).length=L.length:=List.length_set
       rw [← hlen] at M V
       have HS:=show Hid _ from (show DSt w0 w w4 R l sp (psm (tof L) id n) from ⟨(L.set i (pix id,{ p with rt:=psR p.rt n })),sp,cap,hT,hw.set h3 (show p.st≠0 by omega),M,V,OF⟩); clear M V OF
       exact ⟨rfl,.tuple #[],by kernel_rfl,rfl,HS.out⟩
   · go_upto_region 1 with fail
     refine wp_region_list ?_; refine xpL (.int .i64 ((i:Nat):Int)) ?_; refine xaL (.bool false) (lssI .i64 _ _ _ _ _ _ rfl rfl rfl false (decide_eq_false (by omega)) _) ?_; refine xpL (.bool false) ?_; refine xpL (.pointer (some ⟨R,0,none⟩)) ?_; refine xpL (.pointer (some ⟨R,0,none⟩)) ?_; refine xpL (.pointer (some ⟨R,0,none⟩)) ?_
     refine xaL (.slice sp L.length cap) (load1 27 _ ⟨R,0,none⟩ _ rfl rfl (fun _=>by kernel_rfl) (M.get mS 0 _ rfl)) ?_; refine xpL (.int .i64 ((i:Nat):Int)) ?_; refine xaL (.pointer (some ⟨g,i*13,none⟩)) (idxP13 g _ _ i sp hg (List.getElem?_eq_some_iff.1 h3).1 _ _ rfl rfl rfl _) ?_; refine xpL (.pointer (some ⟨g,i*13+1,none⟩)) ?_
     refine readL (.int .i64 (((pix id,p).2.st:Nat):Int)) rfl (load1 3 _ ⟨g,i*13+1,none⟩ _ rfl rfl (fun _=>by kernel_rfl) (rowCellP V hg ((prc_get h3 (by decide)).trans rfl))) ?_; simp only [aP,lI,l0,lS]; refine xaL (.bool true) (neqI .i64 _ _ _ _ _ _ rfl rfl rfl true (bne_iff_ne.2 (by omega)) _) ?_; refine xpL (.bool true) ?_; refine xpL (.bool true) ?_
     with_reducible refine skipL ?_ ?_
     · rfl
     simp only [aP,lI,l0,lS]
     with_reducible refine skipL ?_ ?_
     · rfl
     simp only [aP,lI,l0,lS]; refine xpL (.bool true) ?_; refine xT ?_; have HS:=show Hid _ from (show DSt w0 w w2 R l sp (psm (tof L) id n) from ⟨L,sp,cap,(show tof L=psm (tof L) id n from (if_neg (by rw [h5]; intro h_; first | omega | exact absurd h_.1 (by decide))).symm),hw,M,V,OF⟩); clear M V OF; go_wp2
     first | exact ⟨rfl,.tuple #[],by kernel_rfl,rfl,HS.out⟩ | (go_ret; exact ⟨rfl,HS.out⟩)
theorem run_equalIn_rowD {P:Program} (w:World) (d:Nat) (t e:TypeId) (n:Nat) (k:IntKind) (ht:P.underlying t=some (.array n e)) (he:P.underlying e=some (.int k)) (hsz:∀ w,(sizeOf e).run P w=.ok 1 w) (f g:Nat→Int) :
 (Op.equalIn (d+2) t (.agg (row k n f).toArray) (.agg (row k n g).toArray)).run P w=.ok ((List.range' 0 n 1).all fun i=>f i == g i) w:=by
 rw [Op.equalIn]
 simp only [Sem.run_bind,run_underlying ht,Result.andThen_ok,hsz,Std.Legacy.Range.forIn_eq_forIn_range',Std.Legacy.Range.size,Nat.sub_zero,Nat.add_sub_cancel,Nat.div_one]
 have hl:∀ i∈List.range' 0 n 1,i<n:=fun i hi=>by simpa using (List.mem_range'_1.1 hi).2
 generalize List.range' 0 n 1=l at hl ⊢
 induction l with
 | nil=>simp
 | cons i l ih =>
   have hi:i<n:=hl i (by simp)
   have px:(part e (row k n f).toArray (i*1)).run P w=.ok (.int k (f i)) w:=by
    simp [part,isAgg,run_underlying he,row_get k n f i hi]
   have py:(part e (row k n g).toArray (i*1)).run P w=.ok (.int k (g i)) w:=by
    simp [part,isAgg,run_underlying he,row_get k n g i hi]
   have pe:(Op.equalIn (d+1) e (.int k (f i)) (.int k (g i))).run P w=.ok (f i == g i) w:=by
    rw [run_equalIn_int w d e k k _ _ he]
   rw [List.all_cons]
   cases hb:(f i == g i)
   · simp only [List.forIn_cons,Sem.run_bind,px,py,pe,hb,Result.andThen_ok,Bool.not_false,if_true,Sem.run_pure,Bool.false_and]
   · simp only [List.forIn_cons,Sem.run_bind,px,py,pe,hb,Result.andThen_ok,Bool.not_true,Bool.false_eq_true,if_false,Sem.run_pure,Bool.true_and]
     exact ih fun j hj=>hl j (by simp [hj])
theorem peq_range (f g:Nat→Int):((List.range' 0 8 1).all fun i=>f i == g i)=peq f g:=rfl
theorem neqT8 {o:Oper} {a:Act} (f g:Nat→Int) (x y:Operand) (ho:o.op=.binOp .neq 30 x y 30) (hx:a.eval x=tok8 f) (hy:a.eval y=tok8 g) (w:World) :
 (execOp a.eval o).run Try.prog w=.ok (.value (.bool (!peq f g))) w:=by
 have e1:(binOp .neq 30 (tok8 f) (tok8 g)).run Try.prog w=.ok (.bool (!peq f g)) w:=by
  unfold tok8
  rw [run_neq_struct,run_equalIn_rowD w 9998 30 5 8 .u8 Try.underlying30 Try.underlying5 (fun _=>by kernel_rfl) f g,peq_range]
  rfl
 unfold execOp
 simp only [ho,hx,hy,Sem.run_bind,show ∀ w,(eqGuard .neq 30 x y (tok8 f) (tok8 g)).run Try.prog w=.ok () w from fun w=>run_eqGuard_agg w .neq 30 x y _ _ (by kernel_rfl),Result.andThen_ok,e1,Sem.run_pure]
theorem rowTok {w:World} {base:Nat} {e:TypeId} {n g cap:Nat} {sp:Option Addr} {L:Prs} (V:w.ownsRow base e 13 (.slice sp n cap) n (prc L)) (hsp:sp=some ⟨g,0,none⟩) {i:Nat} {q:Nat × Pth} (hi:L[i]?=some q):∀ j u,[Value.int .u8 (q.2.tk 0),.int .u8 (q.2.tk 1),.int .u8 (q.2.tk 2),.int .u8 (q.2.tk 3),.int .u8 (q.2.tk 4),.int .u8 (q.2.tk 5),.int .u8 (q.2.tk 6),.int .u8 (q.2.tk 7)][j]?=some u→w.cell? ((⟨g,i*13+5,none⟩:Addr).add j)=some u:=by
 intro j u hu
 have hj:j<8:=(List.getElem?_eq_some_iff.1 hu).1
 rw [Addr.add_mid]
 refine rowCellP V hsp ?_
 rw [Nat.add_assoc,prc_get hi (by omega),← hu]
 obtain rfl | rfl | rfl | rfl | rfl | rfl | rfl | rfl:j=0∨j=1∨j=2∨j=3∨j=4∨j=5∨j=6∨j=7:=by omega
 all_goals rfl
theorem dans20_any (w0 w:World) (R:Nat) (l:List (Nat × List Value)) (L:Prs) (sp:Option Addr) (cap:Nat) (hw:PrsW L) (M:Mm w0 ((R,[.slice sp L.length cap])::(obs sp++l)) w) (V:w.ownsRow w0.heap.size 57 13 (.slice sp L.length cap) L.length (prc L)) (id:Int) (tk:Nat→Int) :
 Calls Try.prog 18 #[.pointer (some ⟨R,0,none⟩),.int .i64 id,.agg #[.int .u8 (tk 0),.int .u8 (tk 1),.int .u8 (tk 2),.int .u8 (tk 3),.int .u8 (tk 4),.int .u8 (tk 5),.int .u8 (tk 6),.int .u8 (tk 7)]] w fun e w'=>e=.returned (.bool (pans (tof L) id tk))∧DSt w0 w w' R l sp (pant (tof L) id tk):=by
 have hl:=hw.len; have OF:=Off.refl (R::ob sp) w
 go_enter Try.func18,Try.ntmps18
 go_upto_region 0 with fail; refine wp_region_list ?_; have hlb:=(Below.refl w.heap.size w).alloc (xnR _) (.cells #[.int .u8 (tk 0),.int .u8 (tk 1),.int .u8 (tk 2),.int .u8 (tk 3),.int .u8 (tk 4),.int .u8 (tk 5),.int .u8 (tk 6),.int .u8 (tk 7)] 30)
 refine actL (w':=w.alloc (.cells #[.int .u8 (tk 0),.int .u8 (tk 1),.int .u8 (tk 2),.int .u8 (tk 3),.int .u8 (tk 4),.int .u8 (tk 5),.int .u8 (tk 6),.int .u8 (tk 7)] 30)) (.pointer (some ⟨w.heap.size,0,none⟩)) rfl (by kernel_rfl) ?_; simp only [aP,lI,l0,lS]; replace V:=ownsRow_bel V hlb; replace OF:=OF.below hlb
 replace M:=M.box #[.int .u8 (tk 0),.int .u8 (tk 1),.int .u8 (tk 2),.int .u8 (tk 3),.int .u8 (tk 4),.int .u8 (tk 5),.int .u8 (tk 6),.int .u8 (tk 7)] 30 w.heap.size rfl; clear hlb; generalize w.alloc (.cells #[.int .u8 (tk 0),.int .u8 (tk 1),.int .u8 (tk 2),.int .u8 (tk 3),.int .u8 (tk 4),.int .u8 (tk 5),.int .u8 (tk 6),.int .u8 (tk 7)] 30)=w1 at M V OF ⊢
 generalize w.heap.size=B1 at M ⊢
 replace M:Mm w0 ((B1,[.int .u8 (tk 0),.int .u8 (tk 1),.int .u8 (tk 2),.int .u8 (tk 3),.int .u8 (tk 4),.int .u8 (tk 5),.int .u8 (tk 6),.int .u8 (tk 7)])::(R,[.slice sp L.length cap])::(obs sp++l)) w1:=M
 refine xpL (.bool false) ?_; refine xT ?_
 rcases plI_cases hw id with ⟨h1,h2⟩ | ⟨i,p,h1,h2,h3,h4,h5,h6,h7⟩
 · go_upto_region 1 with fail
   refine wp_region_list ?_; refine xpL (.pointer (some ⟨R,0,none⟩)) ?_; refine xpL (.int .i64 id) ?_; have key:=dat20_any w1 w0.heap.size R L sp cap hl (M.get (mT _ mS) 0 _ rfl) V id
   rw [h1] at key
   refine xcL key ?_; clear key; rintro e w2 ⟨rfl,l_⟩; replace M:=M.call l_; replace V:=ownsRow_bel V l_; replace OF:=OF.below l_; clear l_; refine xeL ?_; refine xpL (.int .i64 (-1)) ?_; refine xT ?_; go_upto_region 2 with fail; have hdr:=(Below.refl w2.heap.size w2).drew; replace M:=M.drew; replace V:=ownsRow_bel V hdr; replace OF:=OF.below hdr; clear hdr
   refine wp_region_held_drew (S:=fun w'=>Mm w0 ((B1,[.int .u8 (tk 0),.int .u8 (tk 1),.int .u8 (tk 2),.int .u8 (tk 3),.int .u8 (tk 4),.int .u8 (tk 5),.int .u8 (tk 6),.int .u8 (tk 7)])::(R,[.slice sp L.length cap])::(obs sp++l)) w'∧w'.ownsRow w0.heap.size 57 13 (.slice sp L.length cap) L.length (prc L)) (by kernel_rfl) ⟨M,V⟩ ?_; intro _; generalize w2.drew=w3 at M V OF ⊢
   refine xrH 0 11 rfl (.int .i64 (-1)) (fun _ ⟨M,V⟩=>(by kernel_rfl)) ⟨M,V⟩ ?_; refine xrH 1 12 rfl (.bool true) (fun _ ⟨M,V⟩=>lssI .i64 _ _ _ _ _ _ rfl rfl rfl true (by decide) _) ⟨M,V⟩ ?_; refine xrH 2 13 rfl (.bool true) (fun _ ⟨M,V⟩=>(by kernel_rfl)) ⟨M,V⟩ ?_
   refine mayH (i:=3) (some 14) rfl false undef undef rfl rfl rfl (fun hc=>by cases hc) (by kernel_rfl) (by kernel_rfl) (by kernel_rfl) (fun _ _ _ h=>h) ⟨M,V⟩ ?_; simp only [aP,lI,l0,lS]; refine mayH (i:=4) (some 15) rfl false undef undef rfl rfl rfl (fun hc=>by cases hc) (by kernel_rfl) (by kernel_rfl) (by kernel_rfl) (fun _ _ _ h=>h) ⟨M,V⟩ ?_; simp only [aP,lI,l0,lS]
   refine mayH (i:=5) (some 16) rfl false undef undef rfl rfl rfl (fun hc=>by cases hc) (by kernel_rfl) (by kernel_rfl) (by kernel_rfl) (fun _ _ _ h=>h) ⟨M,V⟩ ?_; simp only [aP,lI,l0,lS]; refine mayH (i:=6) (some 17) rfl false undef undef rfl rfl rfl (fun hc=>by cases hc) (by kernel_rfl) (by kernel_rfl) (by kernel_rfl) (fun _ _ _ h=>h) ⟨M,V⟩ ?_; simp only [aP,lI,l0,lS]
   refine mayH (i:=7) (some 18) rfl false undef undef rfl rfl rfl (fun hc=>by cases hc) (by kernel_rfl) (by kernel_rfl) (by kernel_rfl) (fun _ _ _ h=>h) ⟨M,V⟩ ?_; simp only [aP,lI,l0,lS]; refine mayH (i:=8) (some 19) rfl false undef undef rfl rfl rfl (fun hc=>by cases hc) (by kernel_rfl) (by kernel_rfl) (by kernel_rfl) (fun _ _ _ h=>h) ⟨M,V⟩ ?_; simp only [aP,lI,l0,lS]
   refine mayH (i:=9) (some 20) rfl false undef undef rfl rfl rfl (fun hc=>by cases hc) (by kernel_rfl) (by kernel_rfl) (by kernel_rfl) (fun _ _ _ h=>h) ⟨M,V⟩ ?_; simp only [aP,lI,l0,lS]; refine mayH (i:=10) (some 21) rfl false undef undef rfl rfl rfl (fun hc=>by cases hc) (by kernel_rfl) (by kernel_rfl) (by kernel_rfl) (fun _ _ _ h=>h) ⟨M,V⟩ ?_; simp only [aP,lI,l0,lS]
   refine mayH (i:=11) (some 22) rfl false undef undef rfl rfl rfl (fun hc=>by cases hc) (by kernel_rfl) (by kernel_rfl) (by kernel_rfl) (fun _ _ _ h=>h) ⟨M,V⟩ ?_; simp only [aP,lI,l0,lS]; refine xrH 12 23 rfl (.bool true) (fun _ ⟨M,V⟩=>(by kernel_rfl)) ⟨M,V⟩ ?_; refine xrH 13 24 rfl (.bool true) (fun _ ⟨M,V⟩=>(by kernel_rfl)) ⟨M,V⟩ ?_
   refine mayH (i:=14) (some 25) rfl false undef undef rfl rfl rfl (fun hc=>by cases hc) (by kernel_rfl) (by kernel_rfl) (by kernel_rfl) (fun _ _ _ h=>h) ⟨M,V⟩ ?_; simp only [aP,lI,l0,lS]; refine mayH (i:=15) (some 26) rfl false undef undef rfl rfl rfl (fun hc=>by cases hc) (by kernel_rfl) (by kernel_rfl) (by kernel_rfl) (fun _ _ _ h=>h) ⟨M,V⟩ ?_; simp only [aP,lI,l0,lS]
   refine mayH (i:=16) (some 27) rfl false undef undef rfl rfl rfl (fun hc=>by cases hc) (by kernel_rfl) (by kernel_rfl) (by kernel_rfl) (fun _ _ _ h=>h) ⟨M,V⟩ ?_; simp only [aP,lI,l0,lS]; refine mayH (i:=17) (some 28) rfl false undef undef rfl rfl rfl (fun hc=>by cases hc) (by kernel_rfl) (by kernel_rfl) (by kernel_rfl) (fun _ _ _ h=>h) ⟨M,V⟩ ?_; simp only [aP,lI,l0,lS]
   refine mayH (i:=18) (some 29) rfl false undef undef rfl rfl rfl (fun hc=>by cases hc) (by kernel_rfl) (by kernel_rfl) (by kernel_rfl) (fun _ _ _ h=>h) ⟨M,V⟩ ?_; simp only [aP,lI,l0,lS]; refine mayH (i:=19) (some 30) rfl false undef undef rfl rfl rfl (fun hc=>by cases hc) (by kernel_rfl) (by kernel_rfl) (by kernel_rfl) (fun _ _ _ h=>h) ⟨M,V⟩ ?_; simp only [aP,lI,l0,lS]
   refine mayH (i:=20) (some 31) rfl false undef undef rfl rfl rfl (fun hc=>by cases hc) (by kernel_rfl) (by kernel_rfl) (by kernel_rfl) (fun _ _ _ h=>h) ⟨M,V⟩ ?_; simp only [aP,lI,l0,lS]; refine mayH (i:=21) (some 32) rfl false undef undef rfl rfl rfl (fun hc=>by cases hc) (by kernel_rfl) (by kernel_rfl) (by kernel_rfl) (fun _ _ _ h=>h) ⟨M,V⟩ ?_; simp only [aP,lI,l0,lS]
   refine mayH (i:=22) (some 33) rfl false undef undef rfl rfl rfl (fun hc=>by cases hc) (by kernel_rfl) (by kernel_rfl) (by kernel_rfl) (fun _ _ _ h=>h) ⟨M,V⟩ ?_; simp only [aP,lI,l0,lS]; refine mayH (i:=23) (some 34) rfl false undef undef rfl rfl rfl (fun hc=>by cases hc) (by kernel_rfl) (by kernel_rfl) (by kernel_rfl) (fun _ _ _ h=>h) ⟨M,V⟩ ?_; simp only [aP,lI,l0,lS]
   refine xrH 24 35 rfl (.bool true) (fun _ ⟨M,V⟩=>(by kernel_rfl)) ⟨M,V⟩ ?_
   refine wpAnyH_done (by kernel_rfl) ?_ _
   first | show Exit.then _ _ _ _ _ | show Exit.inBlock _ _ _ _ _
   go_upto_region 3 with fail; refine wp_region_list ?_; refine xpL (.bool false) ?_; refine xT ?_; have hP:=show Hid _ from (show pans (tof L) id tk=false from (by unfold pans; rw [h2]; rfl)); have HS:=show Hid _ from (show DSt w0 w w3 R l sp (pant (tof L) id tk) from ⟨L,sp,cap,(if_neg (by rw [hP.out]; decide)).symm,hw,M.tail,V,OF⟩); clear M V OF; go_wp2; go_ret
   exact ⟨by rw [hP.out]; try rfl,HS.out⟩
 · have hlt:=(List.getElem?_eq_some_iff.1 h3).1
   go_upto_region 1 with fail; refine wp_region_list ?_; refine xpL (.pointer (some ⟨R,0,none⟩)) ?_; refine xpL (.int .i64 id) ?_; have key:=dat20_any w1 w0.heap.size R L sp cap hl (M.get (mT _ mS) 0 _ rfl) V id
   rw [h1] at key
   refine xcL key ?_; clear key; rintro e w4 ⟨rfl,l_⟩; replace M:=M.call l_; replace V:=ownsRow_bel V l_; replace OF:=OF.below l_; clear l_; refine xeL ?_; refine xpL (.int .i64 ((i:Nat):Int)) ?_; refine xT ?_
   obtain ⟨g,hg⟩:∃ g,sp=some ⟨g,0,none⟩:=by
    rcases V.2 with ⟨_,h0_⟩ | ⟨g,c_,cur_,hv_,_⟩
    · omega
    · injection hv_ with hv_ _ _
      exact ⟨g,hv_⟩
   by_cases hs:p.st=1
   · by_cases hpe:peq p.tk tk=true
     · go_upto_region 2 with fail
       have hdr:=(Below.refl w4.heap.size w4).drew; replace M:=M.drew; replace V:=ownsRow_bel V hdr; replace OF:=OF.below hdr; clear hdr
       refine wp_region_held_drew (S:=fun w'=>Mm w0 ((B1,[.int .u8 (tk 0),.int .u8 (tk 1),.int .u8 (tk 2),.int .u8 (tk 3),.int .u8 (tk 4),.int .u8 (tk 5),.int .u8 (tk 6),.int .u8 (tk 7)])::(R,[.slice sp L.length cap])::(obs sp++l)) w'∧w'.ownsRow w0.heap.size 57 13 (.slice sp L.length cap) L.length (prc L)) (by kernel_rfl) ⟨M,V⟩ ?_; intro _; generalize w4.drew=w7 at M V OF ⊢
       refine xrH 0 11 rfl (.int .i64 ((i:Nat):Int)) (fun _ ⟨M,V⟩=>(by kernel_rfl)) ⟨M,V⟩ ?_; refine xrH 1 12 rfl (.bool false) (fun _ ⟨M,V⟩=>lssI .i64 _ _ _ _ _ _ rfl rfl rfl false (decide_eq_false (by omega)) _) ⟨M,V⟩ ?_; refine xrH 2 13 rfl (.bool false) (fun _ ⟨M,V⟩=>(by kernel_rfl)) ⟨M,V⟩ ?_
       refine xrH 3 14 rfl (.pointer (some ⟨R,0,none⟩)) (fun _ ⟨M,V⟩=>(by kernel_rfl)) ⟨M,V⟩ ?_; refine xrH 4 15 rfl (.pointer (some ⟨R,0,none⟩)) (fun _ ⟨M,V⟩=>(by kernel_rfl)) ⟨M,V⟩ ?_; refine xrH 5 16 rfl (.pointer (some ⟨R,0,none⟩)) (fun _ ⟨M,V⟩=>(by kernel_rfl)) ⟨M,V⟩ ?_
       refine xrH 6 17 rfl (.slice sp L.length cap) (fun _ ⟨M,V⟩=>load1 27 _ ⟨R,0,none⟩ _ rfl rfl (fun _=>by kernel_rfl) (M.get (mT _ mS) 0 _ rfl)) ⟨M,V⟩ ?_; refine xrH 7 18 rfl (.int .i64 ((i:Nat):Int)) (fun _ ⟨M,V⟩=>(by kernel_rfl)) ⟨M,V⟩ ?_
       refine xrH 8 19 rfl (.pointer (some ⟨g,i*13,none⟩)) (fun _ ⟨M,V⟩=>idxP13 g _ _ i sp hg (List.getElem?_eq_some_iff.1 h3).1 _ _ rfl rfl rfl _) ⟨M,V⟩ ?_; refine xrH 9 20 rfl (.pointer (some ⟨g,i*13+1,none⟩)) (fun _ ⟨M,V⟩=>(by kernel_rfl)) ⟨M,V⟩ ?_
       refine xrH 10 21 rfl (.int .i64 (((pix id,p).2.st:Nat):Int)) (fun _ ⟨M,V⟩=>load1 3 _ ⟨g,i*13+1,none⟩ _ rfl rfl (fun _=>by kernel_rfl) (rowCellP V hg ((prc_get h3 (by decide)).trans rfl))) ⟨M,V⟩ ?_; refine xrH 11 22 rfl (.bool false) (fun _ ⟨M,V⟩=>neqI .i64 _ _ _ _ _ _ rfl rfl rfl false (by rw [bne_eq_false_iff_eq]; omega) _) ⟨M,V⟩ ?_
       refine xrH 12 23 rfl (.bool false) (fun _ ⟨M,V⟩=>(by kernel_rfl)) ⟨M,V⟩ ?_; refine xrH 13 24 rfl (.bool false) (fun _ ⟨M,V⟩=>(by kernel_rfl)) ⟨M,V⟩ ?_; refine xrH 14 25 rfl (.pointer (some ⟨R,0,none⟩)) (fun _ ⟨M,V⟩=>(by kernel_rfl)) ⟨M,V⟩ ?_; refine xrH 15 26 rfl (.pointer (some ⟨R,0,none⟩)) (fun _ ⟨M,V⟩=>(by kernel_rfl)) ⟨M,V⟩ ?_
       refine xrH 16 27 rfl (.pointer (some ⟨R,0,none⟩)) (fun _ ⟨M,V⟩=>(by kernel_rfl)) ⟨M,V⟩ ?_; refine xrH 17 28 rfl (.slice sp L.length cap) (fun _ ⟨M,V⟩=>load1 27 _ ⟨R,0,none⟩ _ rfl rfl (fun _=>by kernel_rfl) (M.get (mT _ mS) 0 _ rfl)) ⟨M,V⟩ ?_; refine xrH 18 29 rfl (.int .i64 ((i:Nat):Int)) (fun _ ⟨M,V⟩=>(by kernel_rfl)) ⟨M,V⟩ ?_
       refine xrH 19 30 rfl (.pointer (some ⟨g,i*13,none⟩)) (fun _ ⟨M,V⟩=>idxP13 g _ _ i sp hg (List.getElem?_eq_some_iff.1 h3).1 _ _ rfl rfl rfl _) ⟨M,V⟩ ?_; refine xrH 20 31 rfl (.pointer (some ⟨g,i*13+5,none⟩)) (fun _ ⟨M,V⟩=>(by kernel_rfl)) ⟨M,V⟩ ?_
       refine xrH 21 32 rfl (.agg #[.int .u8 (p.tk 0),.int .u8 (p.tk 1),.int .u8 (p.tk 2),.int .u8 (p.tk 3),.int .u8 (p.tk 4),.int .u8 (p.tk 5),.int .u8 (p.tk 6),.int .u8 (p.tk 7)]) (fun _ ⟨M,V⟩=>loadN 30 _ ⟨g,i*13+5,none⟩ [.int .u8 (p.tk 0),.int .u8 (p.tk 1),.int .u8 (p.tk 2),.int .u8 (p.tk 3),.int .u8 (p.tk 4),.int .u8 (p.tk 5),.int .u8 (p.tk 6),.int .u8 (p.tk 7)] rfl rfl (fun _=>by kernel_rfl) (fun _=>by kernel_rfl) (rowTok V hg h3)) ⟨M,V⟩ ?_
       refine xrH 22 33 rfl (.agg #[.int .u8 (tk 0),.int .u8 (tk 1),.int .u8 (tk 2),.int .u8 (tk 3),.int .u8 (tk 4),.int .u8 (tk 5),.int .u8 (tk 6),.int .u8 (tk 7)]) (fun _ ⟨M,V⟩=>loadN 30 _ ⟨B1,0,none⟩ [.int .u8 (tk 0),.int .u8 (tk 1),.int .u8 (tk 2),.int .u8 (tk 3),.int .u8 (tk 4),.int .u8 (tk 5),.int .u8 (tk 6),.int .u8 (tk 7)] rfl rfl (fun _=>by kernel_rfl) (fun _=>by kernel_rfl) (M.rangeAt mS)) ⟨M,V⟩ ?_
       refine xrH 23 34 rfl (.bool false) (fun _ ⟨M,V⟩=>(by rw [show (Value.bool false)=.bool (!peq p.tk tk) by rw [hpe]; rfl]; exact neqT8 p.tk tk _ _ rfl rfl rfl _)) ⟨M,V⟩ ?_
       refine xrH 24 35 rfl (.bool false) (fun _ ⟨M,V⟩=>(by kernel_rfl)) ⟨M,V⟩ ?_
       refine wpAnyH_done (by kernel_rfl) ?_ _
       first | show Exit.then _ _ _ _ _ | show Exit.inBlock _ _ _ _ _
       go_upto_region 4 with fail; refine wp_region_list ?_; refine xpL (.pointer (some ⟨R,0,none⟩)) ?_; refine xpL (.pointer (some ⟨R,0,none⟩)) ?_; refine xpL (.pointer (some ⟨R,0,none⟩)) ?_; refine xaL (.slice sp L.length cap) (load1 27 _ ⟨R,0,none⟩ _ rfl rfl (fun _=>by kernel_rfl) (M.get (mT _ mS) 0 _ rfl)) ?_; refine xpL (.int .i64 ((i:Nat):Int)) ?_
       refine xaL (.pointer (some ⟨g,i*13,none⟩)) (idxP13 g _ _ i sp hg (List.getElem?_eq_some_iff.1 h3).1 _ _ rfl rfl rfl _) ?_; refine xpL (.pointer (some ⟨g,i*13+1,none⟩)) ?_
       obtain ⟨hsf,M',V2,oS⟩:=(M.perm (pull0 ([(B1,[.int .u8 (tk 0),.int .u8 (tk 1),.int .u8 (tk 2),.int .u8 (tk 3),.int .u8 (tk 4),.int .u8 (tk 5),.int .u8 (tk 6),.int .u8 (tk 7)]),(R,[.slice sp L.length cap])]:List (Nat × List Value)) (obs sp) l)).putRow V hg (xnR _) (i*13+1) (by rw [prc_len]; omega) (.int .i64 2)
       refine skipOpL rfl (storeAny (.int .i64 2) g (i*13+1) 3 _ _ rfl rfl rfl rfl rfl hsf.1 hsf.2 (by kernel_rfl)) ?_; simp only [Act.put]; replace OF:=OF.trans (oS.mono (fun x_ hx_=>mT _ hx_)); clear M hsf oS V
       rw [prc_set h3 _ (pix id,{ p with st:=2 }) (by decide) rfl] at V2
       have V:=V2; clear V2; generalize w7.setCell ⟨g,i*13+1,none⟩ (.int .i64 2)=w8 at M' V OF ⊢; have M:=M'.perm (pull0 ([(B1,[.int .u8 (tk 0),.int .u8 (tk 1),.int .u8 (tk 2),.int .u8 (tk 3),.int .u8 (tk 4),.int .u8 (tk 5),.int .u8 (tk 6),.int .u8 (tk 7)]),(R,[.slice sp L.length cap])]:List (Nat × List Value)) (obs sp) l).symm; clear M'; refine xT ?_
       go_upto_region 5 with fail; refine wp_region_list ?_; refine xpL (.bool true) ?_; refine xT ?_; have hP:=show Hid _ from (show pans (tof L) id tk=true from (by unfold pans; rw [h5,hpe,decide_eq_true hs]; rfl))
       have hT:tof (L.set i (pix id,{ p with st:=2 }))=pant (tof L) id tk:=by
        have h_:=tof_set (L:=L) (k:=pix id) (by rw [h4]; exact h3) { p with st:=2 }
        rw [h4] at h_
        rw [h_]
        refine (Eq.trans (if_pos hP.out) ?_).symm
        rw [h5]
       have hlen:(L.set i (pix id,{ p with st:=2 })).length=L.length:=List.length_set
       replace M:=M.tail
       rw [← hlen] at M V
       have HS:=show Hid _ from (show DSt w0 w w8 R l sp (pant (tof L) id tk) from ⟨(L.set i (pix id,{ p with st:=2 })),sp,cap,hT,hw.set h3 (show (2:Nat)≠0 by decide),M,V,OF⟩); clear M V OF; go_wp2; go_ret
       exact ⟨by rw [hP.out]; try rfl,HS.out⟩
     · rw [Bool.not_eq_true] at hpe
       go_upto_region 2 with fail; have hdr:=(Below.refl w4.heap.size w4).drew; replace M:=M.drew; replace V:=ownsRow_bel V hdr; replace OF:=OF.below hdr; clear hdr
       refine wp_region_held_drew (S:=fun w'=>Mm w0 ((B1,[.int .u8 (tk 0),.int .u8 (tk 1),.int .u8 (tk 2),.int .u8 (tk 3),.int .u8 (tk 4),.int .u8 (tk 5),.int .u8 (tk 6),.int .u8 (tk 7)])::(R,[.slice sp L.length cap])::(obs sp++l)) w'∧w'.ownsRow w0.heap.size 57 13 (.slice sp L.length cap) L.length (prc L)) (by kernel_rfl) ⟨M,V⟩ ?_; intro _; generalize w4.drew=w6 at M V OF ⊢
       refine xrH 0 11 rfl (.int .i64 ((i:Nat):Int)) (fun _ ⟨M,V⟩=>(by kernel_rfl)) ⟨M,V⟩ ?_; refine xrH 1 12 rfl (.bool false) (fun _ ⟨M,V⟩=>lssI .i64 _ _ _ _ _ _ rfl rfl rfl false (decide_eq_false (by omega)) _) ⟨M,V⟩ ?_; refine xrH 2 13 rfl (.bool false) (fun _ ⟨M,V⟩=>(by kernel_rfl)) ⟨M,V⟩ ?_
       refine xrH 3 14 rfl (.pointer (some ⟨R,0,none⟩)) (fun _ ⟨M,V⟩=>(by kernel_rfl)) ⟨M,V⟩ ?_; refine xrH 4 15 rfl (.pointer (some ⟨R,0,none⟩)) (fun _ ⟨M,V⟩=>(by kernel_rfl)) ⟨M,V⟩ ?_; refine xrH 5 16 rfl (.pointer (some ⟨R,0,none⟩)) (fun _ ⟨M,V⟩=>(by kernel_rfl)) ⟨M,V⟩ ?_
       refine xrH 6 17 rfl (.slice sp L.length cap) (fun _ ⟨M,V⟩=>load1 27 _ ⟨R,0,none⟩ _ rfl rfl (fun _=>by kernel_rfl) (M.get (mT _ mS) 0 _ rfl)) ⟨M,V⟩ ?_; refine xrH 7 18 rfl (.int .i64 ((i:Nat):Int)) (fun _ ⟨M,V⟩=>(by kernel_rfl)) ⟨M,V⟩ ?_
       refine xrH 8 19 rfl (.pointer (some ⟨g,i*13,none⟩)) (fun _ ⟨M,V⟩=>idxP13 g _ _ i sp hg (List.getElem?_eq_some_iff.1 h3).1 _ _ rfl rfl rfl _) ⟨M,V⟩ ?_; refine xrH 9 20 rfl (.pointer (some ⟨g,i*13+1,none⟩)) (fun _ ⟨M,V⟩=>(by kernel_rfl)) ⟨M,V⟩ ?_
       refine xrH 10 21 rfl (.int .i64 (((pix id,p).2.st:Nat):Int)) (fun _ ⟨M,V⟩=>load1 3 _ ⟨g,i*13+1,none⟩ _ rfl rfl (fun _=>by kernel_rfl) (rowCellP V hg ((prc_get h3 (by decide)).trans rfl))) ⟨M,V⟩ ?_; refine xrH 11 22 rfl (.bool false) (fun _ ⟨M,V⟩=>neqI .i64 _ _ _ _ _ _ rfl rfl rfl false (by rw [bne_eq_false_iff_eq]; omega) _) ⟨M,V⟩ ?_
       refine xrH 12 23 rfl (.bool false) (fun _ ⟨M,V⟩=>(by kernel_rfl)) ⟨M,V⟩ ?_; refine xrH 13 24 rfl (.bool false) (fun _ ⟨M,V⟩=>(by kernel_rfl)) ⟨M,V⟩ ?_; refine xrH 14 25 rfl (.pointer (some ⟨R,0,none⟩)) (fun _ ⟨M,V⟩=>(by kernel_rfl)) ⟨M,V⟩ ?_; refine xrH 15 26 rfl (.pointer (some ⟨R,0,none⟩)) (fun _ ⟨M,V⟩=>(by kernel_rfl)) ⟨M,V⟩ ?_
       refine xrH 16 27 rfl (.pointer (some ⟨R,0,none⟩)) (fun _ ⟨M,V⟩=>(by kernel_rfl)) ⟨M,V⟩ ?_; refine xrH 17 28 rfl (.slice sp L.length cap) (fun _ ⟨M,V⟩=>load1 27 _ ⟨R,0,none⟩ _ rfl rfl (fun _=>by kernel_rfl) (M.get (mT _ mS) 0 _ rfl)) ⟨M,V⟩ ?_; refine xrH 18 29 rfl (.int .i64 ((i:Nat):Int)) (fun _ ⟨M,V⟩=>(by kernel_rfl)) ⟨M,V⟩ ?_
       refine xrH 19 30 rfl (.pointer (some ⟨g,i*13,none⟩)) (fun _ ⟨M,V⟩=>idxP13 g _ _ i sp hg (List.getElem?_eq_some_iff.1 h3).1 _ _ rfl rfl rfl _) ⟨M,V⟩ ?_; refine xrH 20 31 rfl (.pointer (some ⟨g,i*13+5,none⟩)) (fun _ ⟨M,V⟩=>(by kernel_rfl)) ⟨M,V⟩ ?_
       refine xrH 21 32 rfl (.agg #[.int .u8 (p.tk 0),.int .u8 (p.tk 1),.int .u8 (p.tk 2),.int .u8 (p.tk 3),.int .u8 (p.tk 4),.int .u8 (p.tk 5),.int .u8 (p.tk 6),.int .u8 (p.tk 7)]) (fun _ ⟨M,V⟩=>loadN 30 _ ⟨g,i*13+5,none⟩ [.int .u8 (p.tk 0),.int .u8 (p.tk 1),.int .u8 (p.tk 2),.int .u8 (p.tk 3),.int .u8 (p.tk 4),.int .u8 (p.tk 5),.int .u8 (p.tk 6),.int .u8 (p.tk 7)] rfl rfl (fun _=>by kernel_rfl) (fun _=>by kernel_rfl) (rowTok V hg h3)) ⟨M,V⟩ ?_
       refine xrH 22 33 rfl (.agg #[.int .u8 (tk 0),.int .u8 (tk 1),.int .u8 (tk 2),.int .u8 (tk 3),.int .u8 (tk 4),.int .u8 (tk 5),.int .u8 (tk 6),.int .u8 (tk 7)]) (fun _ ⟨M,V⟩=>loadN 30 _ ⟨B1,0,none⟩ [.int .u8 (tk 0),.int .u8 (tk 1),.int .u8 (tk 2),.int .u8 (tk 3),.int .u8 (tk 4),.int .u8 (tk 5),.int .u8 (tk 6),.int .u8 (tk 7)] rfl rfl (fun _=>by kernel_rfl) (fun _=>by kernel_rfl) (M.rangeAt mS)) ⟨M,V⟩ ?_
       refine xrH 23 34 rfl (.bool true) (fun _ ⟨M,V⟩=>(by rw [show (Value.bool true)=.bool (!peq p.tk tk) by rw [hpe]; rfl]; exact neqT8 p.tk tk _ _ rfl rfl rfl _)) ⟨M,V⟩ ?_
       refine xrH 24 35 rfl (.bool true) (fun _ ⟨M,V⟩=>(by kernel_rfl)) ⟨M,V⟩ ?_
       refine wpAnyH_done (by kernel_rfl) ?_ _
       first | show Exit.then _ _ _ _ _ | show Exit.inBlock _ _ _ _ _
       go_upto_region 3 with fail; refine wp_region_list ?_; refine xpL (.bool false) ?_; refine xT ?_; have hP:=show Hid _ from (show pans (tof L) id tk=false from (by unfold pans; rw [h5,hpe,Bool.and_false])); have HS:=show Hid _ from (show DSt w0 w w6 R l sp (pant (tof L) id tk) from ⟨L,sp,cap,(if_neg (by rw [hP.out]; decide)).symm,hw,M.tail,V,OF⟩); clear M V OF; go_wp2; go_ret
       exact ⟨by rw [hP.out]; try rfl,HS.out⟩
   · go_upto_region 2 with fail
     have hdr:=(Below.refl w4.heap.size w4).drew; replace M:=M.drew; replace V:=ownsRow_bel V hdr; replace OF:=OF.below hdr; clear hdr
     refine wp_region_held_drew (S:=fun w'=>Mm w0 ((B1,[.int .u8 (tk 0),.int .u8 (tk 1),.int .u8 (tk 2),.int .u8 (tk 3),.int .u8 (tk 4),.int .u8 (tk 5),.int .u8 (tk 6),.int .u8 (tk 7)])::(R,[.slice sp L.length cap])::(obs sp++l)) w'∧w'.ownsRow w0.heap.size 57 13 (.slice sp L.length cap) L.length (prc L)) (by kernel_rfl) ⟨M,V⟩ ?_; intro _; generalize w4.drew=w5 at M V OF ⊢
     refine xrH 0 11 rfl (.int .i64 ((i:Nat):Int)) (fun _ ⟨M,V⟩=>(by kernel_rfl)) ⟨M,V⟩ ?_; refine xrH 1 12 rfl (.bool false) (fun _ ⟨M,V⟩=>lssI .i64 _ _ _ _ _ _ rfl rfl rfl false (decide_eq_false (by omega)) _) ⟨M,V⟩ ?_; refine xrH 2 13 rfl (.bool false) (fun _ ⟨M,V⟩=>(by kernel_rfl)) ⟨M,V⟩ ?_
     refine xrH 3 14 rfl (.pointer (some ⟨R,0,none⟩)) (fun _ ⟨M,V⟩=>(by kernel_rfl)) ⟨M,V⟩ ?_; refine xrH 4 15 rfl (.pointer (some ⟨R,0,none⟩)) (fun _ ⟨M,V⟩=>(by kernel_rfl)) ⟨M,V⟩ ?_; refine xrH 5 16 rfl (.pointer (some ⟨R,0,none⟩)) (fun _ ⟨M,V⟩=>(by kernel_rfl)) ⟨M,V⟩ ?_
     refine xrH 6 17 rfl (.slice sp L.length cap) (fun _ ⟨M,V⟩=>load1 27 _ ⟨R,0,none⟩ _ rfl rfl (fun _=>by kernel_rfl) (M.get (mT _ mS) 0 _ rfl)) ⟨M,V⟩ ?_; refine xrH 7 18 rfl (.int .i64 ((i:Nat):Int)) (fun _ ⟨M,V⟩=>(by kernel_rfl)) ⟨M,V⟩ ?_
     refine xrH 8 19 rfl (.pointer (some ⟨g,i*13,none⟩)) (fun _ ⟨M,V⟩=>idxP13 g _ _ i sp hg (List.getElem?_eq_some_iff.1 h3).1 _ _ rfl rfl rfl _) ⟨M,V⟩ ?_; refine xrH 9 20 rfl (.pointer (some ⟨g,i*13+1,none⟩)) (fun _ ⟨M,V⟩=>(by kernel_rfl)) ⟨M,V⟩ ?_
     refine xrH 10 21 rfl (.int .i64 (((pix id,p).2.st:Nat):Int)) (fun _ ⟨M,V⟩=>load1 3 _ ⟨g,i*13+1,none⟩ _ rfl rfl (fun _=>by kernel_rfl) (rowCellP V hg ((prc_get h3 (by decide)).trans rfl))) ⟨M,V⟩ ?_; refine xrH 11 22 rfl (.bool true) (fun _ ⟨M,V⟩=>neqI .i64 _ _ _ _ _ _ rfl rfl rfl true (bne_iff_ne.2 (by omega)) _) ⟨M,V⟩ ?_
     refine xrH 12 23 rfl (.bool true) (fun _ ⟨M,V⟩=>(by kernel_rfl)) ⟨M,V⟩ ?_; refine xrH 13 24 rfl (.bool true) (fun _ ⟨M,V⟩=>(by kernel_rfl)) ⟨M,V⟩ ?_; refine mayH (i:=14) (some 25) rfl false undef undef rfl rfl rfl (fun hc=>by cases hc) (by kernel_rfl) (by kernel_rfl) (by kernel_rfl) (fun _ _ _ h=>h) ⟨M,V⟩ ?_; simp only [aP,lI,l0,lS]
     refine mayH (i:=15) (some 26) rfl false undef undef rfl rfl rfl (fun hc=>by cases hc) (by kernel_rfl) (by kernel_rfl) (by kernel_rfl) (fun _ _ _ h=>h) ⟨M,V⟩ ?_; simp only [aP,lI,l0,lS]; refine mayH (i:=16) (some 27) rfl false undef undef rfl rfl rfl (fun hc=>by cases hc) (by kernel_rfl) (by kernel_rfl) (by kernel_rfl) (fun _ _ _ h=>h) ⟨M,V⟩ ?_; simp only [aP,lI,l0,lS]
     refine mayH (i:=17) (some 28) rfl false undef undef rfl rfl rfl (fun hc=>by cases hc) (by kernel_rfl) (by kernel_rfl) (by kernel_rfl) (fun _ _ _ h=>h) ⟨M,V⟩ ?_; simp only [aP,lI,l0,lS]; refine mayH (i:=18) (some 29) rfl false undef undef rfl rfl rfl (fun hc=>by cases hc) (by kernel_rfl) (by kernel_rfl) (by kernel_rfl) (fun _ _ _ h=>h) ⟨M,V⟩ ?_; simp only [aP,lI,l0,lS]
     refine mayH (i:=19) (some 30) rfl false undef undef rfl rfl rfl (fun hc=>by cases hc) (by kernel_rfl) (by kernel_rfl) (by kernel_rfl) (fun _ _ _ h=>h) ⟨M,V⟩ ?_; simp only [aP,lI,l0,lS]; refine mayH (i:=20) (some 31) rfl false undef undef rfl rfl rfl (fun hc=>by cases hc) (by kernel_rfl) (by kernel_rfl) (by kernel_rfl) (fun _ _ _ h=>h) ⟨M,V⟩ ?_; simp only [aP,lI,l0,lS]
     refine mayH (i:=21) (some 32) rfl false undef undef rfl rfl rfl (fun hc=>by cases hc) (by kernel_rfl) (by kernel_rfl) (by kernel_rfl) (fun _ _ _ h=>h) ⟨M,V⟩ ?_; simp only [aP,lI,l0,lS]; refine mayH (i:=22) (some 33) rfl false undef undef rfl rfl rfl (fun hc=>by cases hc) (by kernel_rfl) (by kernel_rfl) (by kernel_rfl) (fun _ _ _ h=>h) ⟨M,V⟩ ?_; simp only [aP,lI,l0,lS]
     refine mayH (i:=23) (some 34) rfl false undef undef rfl rfl rfl (fun hc=>by cases hc) (by kernel_rfl) (by kernel_rfl) (by kernel_rfl) (fun _ _ _ h=>h) ⟨M,V⟩ ?_; simp only [aP,lI,l0,lS]; refine xrH 24 35 rfl (.bool true) (fun _ ⟨M,V⟩=>(by kernel_rfl)) ⟨M,V⟩ ?_
     refine wpAnyH_done (by kernel_rfl) ?_ _
     first | show Exit.then _ _ _ _ _ | show Exit.inBlock _ _ _ _ _
     go_upto_region 3 with fail; refine wp_region_list ?_; refine xpL (.bool false) ?_; refine xT ?_; have hP:=show Hid _ from (show pans (tof L) id tk=false from (by unfold pans; rw [h5,decide_eq_false hs]; rfl)); have HS:=show Hid _ from (show DSt w0 w w5 R l sp (pant (tof L) id tk) from ⟨L,sp,cap,(if_neg (by rw [hP.out]; decide)).symm,hw,M.tail,V,OF⟩); clear M V OF; go_wp2; go_ret
     exact ⟨by rw [hP.out]; try rfl,HS.out⟩
end Go.Proofs.Ytdengjdfmhcbiaa
