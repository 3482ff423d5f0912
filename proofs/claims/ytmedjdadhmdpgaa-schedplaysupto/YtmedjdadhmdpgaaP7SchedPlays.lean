/- Texts of An, joined. -/
import Derived.Test.YtmedjdadhmdpgaaP6SchedPlays
set_option maxRecDepth 20000
set_option maxHeartbeats 64000000
namespace Go.Proofs.Ytmedjdadhmdpgaa
open Go.RowKit
theorem DIn.last21 {w:World} {s:Sch} {L:List Dfl} {sf:Option Addr} {cf:Nat} (h:DIn w s L sf cf) (x:Int):DIn w { s with last:=x } L sf cf:=⟨h.V,h.A,h.lst⟩
theorem spk_skip {s:Sch} {a r:List Int} {i:Nat} (h:sav s (bl a i)=false):spk s a r (i+1)=spk s a r i:=by
 show spb s _ _ _=_
 unfold spb
 rw [if_neg (by rw [h]; decide)]
theorem spk_quick {s:Sch} {a r:List Int} {i:Nat} (h:sav s (bl a i)=true) (ht:s.tu=false) (hc:(spk s a r i).1<0∨bl r i<(spk s a r i).2):spk s a r (i+1)=(bl a i,bl r i):=by
 show spb s _ _ _=_
 unfold spb
 rw [if_pos h,if_neg (by rw [ht]; decide),if_pos hc]
theorem spk_slow {s:Sch} {a r:List Int} {i:Nat} (h:sav s (bl a i)=true) (ht:s.tu=false) (hc:¬ ((spk s a r i).1<0∨bl r i<(spk s a r i).2)):spk s a r (i+1)=spk s a r i:=by
 show spb s _ _ _=_
 unfold spb
 rw [if_pos h,if_neg (by rw [ht]; decide),if_neg hc]
def trn (s:Sch) (a r:List Int) (i:Nat):Prop:=(spk s a r i).1<0∨(s.last<bl a i∧¬ s.last<(spk s a r i).1)∨((s.last<bl a i↔s.last<(spk s a r i).1)∧bl a i<(spk s a r i).1)
theorem spk_turn {s:Sch} {a r:List Int} {i:Nat} (h:sav s (bl a i)=true) (ht:s.tu=true) (hc:trn s a r i):spk s a r (i+1)=(bl a i,(spk s a r i).2):=by
 show spb s _ _ _=_
 unfold spb
 rw [if_pos h,if_pos ht]
 exact if_pos hc
theorem spk_stay {s:Sch} {a r:List Int} {i:Nat} (h:sav s (bl a i)=true) (ht:s.tu=true) (hc:¬ trn s a r i):spk s a r (i+1)=spk s a r i:=by
 show spb s _ _ _=_
 unfold spb
 rw [if_pos h,if_pos ht]
 exact if_neg hc
theorem dpck21_any (w0 w:World) (R:Nat) (L:List Dfl) (sf:Option Addr) (cf:Nat) (l:List (Nat × List Value)) (s:Sch) (hI:DIn w s L sf cf) (hsz_:ssz s<1000000000) (M:Mm w0 ((R,drc s sf L.length cf)::(obs sf++(gf L++l))) w) (a:List Int) (sa:Option Addr) (ca:Nat) (hal:a.length<140737488355328) (Sa:SrcI w sa a.length (bl a)) (r:List Int) (sr:Option Addr) (cr:Nat) (hrl:r.length<140737488355328) (Sr:SrcI w sr r.length (bl r)) :
 Calls Try.prog 24 #[.pointer (some ⟨R,0,none⟩),.slice sa a.length ca,.slice sr r.length cr] w fun e w'=>e=.returned (.tuple #[.int .i64 (spA s a r),.bool (spB s a r)])∧DIn w' (spc s a r) L sf cf∧Mm w0 ((R,drc (spc s a r) sf L.length cf)::(obs sf++(gf L++l))) w'∧Off (R::(ob sf++(gf L).map Prod.fst)) w w':=by
 have hln:L.length<1000000000:=by have:=hI.len; omega
 have hR0:=M.get mS 0 _ rfl; have hR1:=M.get mS 1 _ rfl; have hR2:=M.get mS 2 _ rfl; have M0:=show Hid _ from M; clear M; have M:=Mm.init w
 go_enter Try.func24,Try.ntmps24
 go_upto_region 0 with fail; refine wp_region_list ?_; refine xpL (.int .i64 0) ?_; refine xpL (.bool false) ?_; refine xT ?_; go_upto_region 1 with fail; refine wp_region_list ?_; refine xpL (.int .i64 (-1)) ?_; refine xT ?_; go_upto_region 2 with fail; refine wp_region_list ?_; refine xpL (.int .i64 0) ?_; refine xT ?_; go_upto_region 3 with fail; refine wp_region_list ?_
 refine xpL (.int .i64 0) ?_; refine xT ?_; clear M; go_wp2
 go_loopw [8,9,10] (fun b_ c_ v_ w'=>∃ (i:Nat),i≤a.length∧b_=.int .i64 (spk s a r i).1∧c_=.int .i64 (spk s a r i).2∧v_=.int .i64 (i:Int)∧Below w.heap.size w w') (fun b_ c_ v_ _=>a.length-(intOf v_).toNat)
 case atStart=>exact ⟨0,Nat.zero_le _,rfl,rfl,rfl,Below.refl _ _⟩
 case round =>
  obtain ⟨i,hi,rfl,rfl,rfl,hB⟩:=hrel
  have M:=(Mm.init w).call hB
  by_cases hil:i<a.length
  · go_upto_region 4 with fail
    refine wp_region_list ?_; refine xpL (.int .i64 (i:Int)) ?_; refine xpL (.slice sa a.length ca) ?_; refine xaL (.int .i64 ((a.length:Nat):Int)) (lenS _ 29 3 sa a.length ca rfl Try.underlying29 rfl _) ?_; refine xaL (.bool true) (lssI .i64 _ _ _ _ _ _ rfl rfl rfl true (decide_eq_true (by omega)) _) ?_; refine xT ?_
    obtain ⟨ada,hada⟩:=SrcI.some21 Sa (by omega)
    subst hada; go_upto_region 6 with fail; refine wp_region_list ?_; refine xpL (.pointer (some ⟨R,0,none⟩)) ?_; refine xpL (.slice (some ada) a.length ca) ?_; refine xpL (.int .i64 (i:Int)) ?_; refine xaL (.pointer (some (ada.add i))) (idxI21 ada _ _ i hil _ _ rfl rfl rfl _) ?_
    refine xaL (.int .i64 (bl a i)) (load1 3 _ (ada.add i) _ rfl rfl (fun _=>by kernel_rfl) ((Sa.below M.below (xnR _)).atE21 rfl hil)) ?_; have key:=dat21_any wr 0 R L sf cf hln (cell21 M.below hR2) (ownsRow_bel hI.V M.below) (bl a i); refine xcL key ?_; clear key; rintro e w2 ⟨rfl,l_⟩; replace M:=M.call l_
    clear l_; refine xeL ?_; refine xpL (.int .i64 (sat L (bl a i))) ?_; refine xT ?_
    rcases sat_cases L (bl a i) with ⟨h1,h2,h3⟩ | ⟨A,d,B,h1,h2,h3,h4,h5⟩
    · rw [h1]
      have hsv:sav s (bl a i)=false:=by unfold sav; rw [hI.lst,h2]
      clear h1 h2 h3; go_upto_region 7 with fail; have hdr:=(Below.refl w2.heap.size w2).drew; replace M:=M.drew; clear hdr; refine wp_region_held_drew (S:=fun w'=>Below w.heap.size w w') (by kernel_rfl) M.below ?_; intro _; generalize w2.drew=w3 at M ⊢; refine xrH 0 27 rfl (.int .i64 (-1)) (fun _ hS=>(by kernel_rfl)) M.below ?_
      refine xrH 1 28 rfl (.bool true) (fun _ hS=>lssI .i64 _ _ _ _ _ _ rfl rfl rfl true (by decide) _) M.below ?_; refine xrH 2 29 rfl (.bool true) (fun _ hS=>(by kernel_rfl)) M.below ?_; refine mayH (i:=3) (some 30) rfl false undef undef rfl rfl rfl (fun hc=>by cases hc) (by kernel_rfl) (by kernel_rfl) (by kernel_rfl) (fun _ _ _ h=>h) M.below ?_; simp only [aP,lI,l0,lS]
      refine mayH (i:=4) (some 31) rfl false undef undef rfl rfl rfl (fun hc=>by cases hc) (by kernel_rfl) (by kernel_rfl) (by kernel_rfl) (fun _ _ _ h=>h) M.below ?_; simp only [aP,lI,l0,lS]; refine mayH (i:=5) (some 32) rfl false undef undef rfl rfl rfl (fun hc=>by cases hc) (by kernel_rfl) (by kernel_rfl) (by kernel_rfl) (fun _ _ _ h=>h) M.below ?_; simp only [aP,lI,l0,lS]
      refine mayH (i:=6) (some 33) rfl false undef undef rfl rfl rfl (fun hc=>by cases hc) (by kernel_rfl) (by kernel_rfl) (by kernel_rfl) (fun _ _ _ h=>h) M.below ?_; simp only [aP,lI,l0,lS]; refine mayH (i:=7) (some 34) rfl false undef undef rfl rfl rfl (fun hc=>by cases hc) (by kernel_rfl) (by kernel_rfl) (by kernel_rfl) (fun _ _ _ h=>h) M.below ?_; simp only [aP,lI,l0,lS]
      refine mayH (i:=8) (some 35) rfl false undef undef rfl rfl rfl (fun hc=>by cases hc) (by kernel_rfl) (by kernel_rfl) (by kernel_rfl) (fun _ _ _ h=>h) M.below ?_; simp only [aP,lI,l0,lS]; refine mayH (i:=9) (some 36) rfl false undef undef rfl rfl rfl (fun hc=>by cases hc) (by kernel_rfl) (by kernel_rfl) (by kernel_rfl) (fun _ _ _ h=>h) M.below ?_; simp only [aP,lI,l0,lS]
      refine mayH (i:=10) (some 37) rfl false undef undef rfl rfl rfl (fun hc=>by cases hc) (by kernel_rfl) (by kernel_rfl) (by kernel_rfl) (fun _ _ _ h=>h) M.below ?_; simp only [aP,lI,l0,lS]; refine mayH (i:=11) (some 38) rfl false undef undef rfl rfl rfl (fun hc=>by cases hc) (by kernel_rfl) (by kernel_rfl) (by kernel_rfl) (fun _ _ _ h=>h) M.below ?_; simp only [aP,lI,l0,lS]
      refine mayH (i:=12) (some 39) rfl false undef undef rfl rfl rfl (fun hc=>by cases hc) (by kernel_rfl) (by kernel_rfl) (by kernel_rfl) (fun _ _ _ h=>h) M.below ?_; simp only [aP,lI,l0,lS]; refine mayH (i:=13) (some 40) rfl false undef undef rfl rfl rfl (fun hc=>by cases hc) (by kernel_rfl) (by kernel_rfl) (by kernel_rfl) (fun _ _ _ h=>h) M.below ?_; simp only [aP,lI,l0,lS]
      refine mayH (i:=14) (some 41) rfl false undef undef rfl rfl rfl (fun hc=>by cases hc) (by kernel_rfl) (by kernel_rfl) (by kernel_rfl) (fun _ _ _ h=>h) M.below ?_; simp only [aP,lI,l0,lS]; refine mayH (i:=15) (some 42) rfl false undef undef rfl rfl rfl (fun hc=>by cases hc) (by kernel_rfl) (by kernel_rfl) (by kernel_rfl) (fun _ _ _ h=>h) M.below ?_; simp only [aP,lI,l0,lS]
      refine mayH (i:=16) (some 43) rfl false undef undef rfl rfl rfl (fun hc=>by cases hc) (by kernel_rfl) (by kernel_rfl) (by kernel_rfl) (fun _ _ _ h=>h) M.below ?_; simp only [aP,lI,l0,lS]; refine mayH (i:=17) (some 44) rfl false undef undef rfl rfl rfl (fun hc=>by cases hc) (by kernel_rfl) (by kernel_rfl) (by kernel_rfl) (fun _ _ _ h=>h) M.below ?_; simp only [aP,lI,l0,lS]
      refine mayH (i:=18) (some 45) rfl false undef undef rfl rfl rfl (fun hc=>by cases hc) (by kernel_rfl) (by kernel_rfl) (by kernel_rfl) (fun _ _ _ h=>h) M.below ?_; simp only [aP,lI,l0,lS]; refine mayH (i:=19) (some 46) rfl false undef undef rfl rfl rfl (fun hc=>by cases hc) (by kernel_rfl) (by kernel_rfl) (by kernel_rfl) (fun _ _ _ h=>h) M.below ?_; simp only [aP,lI,l0,lS]
      refine mayH (i:=20) (some 47) rfl false undef undef rfl rfl rfl (fun hc=>by cases hc) (by kernel_rfl) (by kernel_rfl) (by kernel_rfl) (fun _ _ _ h=>h) M.below ?_; simp only [aP,lI,l0,lS]; refine xrH 21 48 rfl (.bool true) (fun _ hS=>(by kernel_rfl)) M.below ?_
      refine wpAnyH_done (by kernel_rfl) ?_ _
      first | show Exit.then _ _ _ _ _ | show Exit.inBlock _ _ _ _ _
      have hk:=show Hid _ from (spk_skip (r:=r) hsv); have HS:=show Hid _ from M.below; clear M; go_wp2
      go_roundw
      case rel=>exact ⟨i+1,by omega,by rw [hk.out],by rw [hk.out],by go_num,HS.out⟩
      case measure=>simp [intOf]; omega
    · rw [h4]
      have h6:L[A.length]?=some d:=by rw [h1,List.getElem?_append_right (xnR _),Nat.sub_self]; rfl
      obtain ⟨g,hg⟩:=row_some5 hI.V (by have:=(List.getElem?_eq_some_iff.1 h6).1; omega)
      have hsv:sav s (bl a i)=decide (d.Z.length<d.win):=by
       unfold sav
       rw [hI.lst,h5]
       show decide ((d.Z.map Prod.fst).length<d.win)=_
       rw [List.length_map]
      clear h1 h2 h3 h4 h5
      by_cases hz:d.Z.length<d.win
      · rw [decide_eq_true hz] at hsv
        go_upto_region 7 with fail; have hdr:=(Below.refl w2.heap.size w2).drew; replace M:=M.drew; clear hdr; refine wp_region_held_drew (S:=fun w'=>Below w.heap.size w w') (by kernel_rfl) M.below ?_; intro _; generalize w2.drew=w5 at M ⊢; refine xrH 0 27 rfl (.int .i64 ((A.length:Nat):Int)) (fun _ hS=>(by kernel_rfl)) M.below ?_
        refine xrH 1 28 rfl (.bool false) (fun _ hS=>lssI .i64 _ _ _ _ _ _ rfl rfl rfl false (decide_eq_false (by omega)) _) M.below ?_; refine xrH 2 29 rfl (.bool false) (fun _ hS=>(by kernel_rfl)) M.below ?_; refine xrH 3 30 rfl (.pointer (some ⟨R,0,none⟩)) (fun _ hS=>(by kernel_rfl)) M.below ?_; refine xrH 4 31 rfl (.pointer (some ⟨R,0,none⟩)) (fun _ hS=>(by kernel_rfl)) M.below ?_
        refine xrH 5 32 rfl (.pointer (some ⟨R,2,none⟩)) (fun _ hS=>(by kernel_rfl)) M.below ?_; refine xrH 6 33 rfl (.slice sf L.length cf) (fun _ hS=>load1 56 _ ⟨R,2,none⟩ _ rfl rfl (fun _=>by kernel_rfl) (cell21 hS hR2)) M.below ?_; refine xrH 7 34 rfl (.int .i64 ((A.length:Nat):Int)) (fun _ hS=>(by kernel_rfl)) M.below ?_
        refine xrH 8 35 rfl (.pointer (some ⟨g,A.length*5,none⟩)) (fun _ hS=>idxF5 g _ _ A.length sf hg (List.getElem?_eq_some_iff.1 h6).1 _ _ rfl rfl rfl _) M.below ?_; refine xrH 9 36 rfl (.pointer (some ⟨g,A.length*5+4,none⟩)) (fun _ hS=>(by kernel_rfl)) M.below ?_
        refine xrH 10 37 rfl (.slice d.sr d.Z.length d.cr) (fun _ hS=>load1 64 _ ⟨g,A.length*5+4,none⟩ _ rfl rfl (fun _=>by kernel_rfl) (row_cell5 (ownsRow_bel hI.V hS) hg (fcs_get h6 rfl))) M.below ?_; refine xrH 11 38 rfl (.int .i64 ((d.Z.length:Nat):Int)) (fun _ hS=>lenS _ 64 74 d.sr d.Z.length d.cr rfl Try.underlying64 rfl _) M.below ?_
        refine xrH 12 39 rfl (.pointer (some ⟨R,0,none⟩)) (fun _ hS=>(by kernel_rfl)) M.below ?_; refine xrH 13 40 rfl (.pointer (some ⟨R,0,none⟩)) (fun _ hS=>(by kernel_rfl)) M.below ?_; refine xrH 14 41 rfl (.pointer (some ⟨R,2,none⟩)) (fun _ hS=>(by kernel_rfl)) M.below ?_
        refine xrH 15 42 rfl (.slice sf L.length cf) (fun _ hS=>load1 56 _ ⟨R,2,none⟩ _ rfl rfl (fun _=>by kernel_rfl) (cell21 hS hR2)) M.below ?_; refine xrH 16 43 rfl (.int .i64 ((A.length:Nat):Int)) (fun _ hS=>(by kernel_rfl)) M.below ?_
        refine xrH 17 44 rfl (.pointer (some ⟨g,A.length*5,none⟩)) (fun _ hS=>idxF5 g _ _ A.length sf hg (List.getElem?_eq_some_iff.1 h6).1 _ _ rfl rfl rfl _) M.below ?_; refine xrH 18 45 rfl (.pointer (some ⟨g,A.length*5+1,none⟩)) (fun _ hS=>(by kernel_rfl)) M.below ?_
        refine xrH 19 46 rfl (.int .i64 ((d.win:Nat):Int)) (fun _ hS=>load1 3 _ ⟨g,A.length*5+1,none⟩ _ rfl rfl (fun _=>by kernel_rfl) (row_cell5 (ownsRow_bel hI.V hS) hg (fcs_get h6 rfl))) M.below ?_; refine xrH 20 47 rfl (.bool false) (fun _ hS=>geqI .i64 _ _ _ _ _ _ rfl rfl rfl false (decide_eq_false (by omega)) _) M.below ?_
        refine xrH 21 48 rfl (.bool false) (fun _ hS=>(by kernel_rfl)) M.below ?_
        refine wpAnyH_done (by kernel_rfl) ?_ _
        first | show Exit.then _ _ _ _ _ | show Exit.inBlock _ _ _ _ _
        go_upto_region 8 with fail; refine wp_region_list ?_; refine xpL (.int .i64 0) ?_; refine xT ?_
        by_cases hir:i<r.length
        · go_upto_region 9 with fail
          refine wp_region_list ?_; refine xpL (.int .i64 (i:Int)) ?_; refine xpL (.slice sr r.length cr) ?_; refine xaL (.int .i64 ((r.length:Nat):Int)) (lenS _ 29 3 sr r.length cr rfl Try.underlying29 rfl _) ?_; refine xaL (.bool true) (lssI .i64 _ _ _ _ _ _ rfl rfl rfl true (decide_eq_true (by omega)) _) ?_; refine xT ?_
          obtain ⟨adr,hadr⟩:=SrcI.some21 Sr (by omega)
          subst hadr; go_upto_region 10 with fail; refine wp_region_list ?_; refine xpL (.slice (some adr) r.length cr) ?_; refine xpL (.int .i64 (i:Int)) ?_; refine xaL (.pointer (some (adr.add i))) (idxI21 adr _ _ i hir _ _ rfl rfl rfl _) ?_; refine xaL (.int .i64 (bl r i)) (load1 3 _ (adr.add i) _ rfl rfl (fun _=>by kernel_rfl) ((Sr.below M.below (xnR _)).atE21 rfl hir)) ?_
          refine xpL (.int .i64 (bl r i)) ?_; refine xT ?_
          have hcc:bl r i=bl r i:=rfl
          cases htu:s.tu with
          | false =>
            have hdp:dpo s=0:=by unfold dpo; rw [htu]; rfl
            go_upto_region 11 with fail; refine wp_region_list ?_; refine xpL (.pointer (some ⟨R,0,none⟩)) ?_; refine xpL (.pointer (some ⟨R,0,none⟩)) ?_; refine xpL (.pointer (some ⟨R,0,none⟩)) ?_; refine xaL (.int .i64 (dpo s)) (load1 3 _ ⟨R,0,none⟩ _ rfl rfl (fun _=>by kernel_rfl) (cell21 M.below hR0)) ?_
            refine xaL (.bool true) (eqlI .i64 _ _ _ _ _ _ rfl rfl rfl true (beq_iff_eq.2 (hdp)) _) ?_; refine xT ?_
            by_cases hb0:(spk s a r i).1<0
            · go_upto_region 12 with fail
              refine wp_region_list ?_; refine xpL (.int .i64 ((spk s a r i).1)) ?_; refine xaL (.bool true) (lssI .i64 _ _ _ _ _ _ rfl rfl rfl true (decide_eq_true hb0) _) ?_; refine xpL (.bool true) ?_
              with_reducible refine skipL ?_ ?_
              · rfl
              simp only [aP,lI,l0,lS]
              with_reducible refine skipL ?_ ?_
              · rfl
              simp only [aP,lI,l0,lS]
              with_reducible refine skipL ?_ ?_
              · rfl
              simp only [aP,lI,l0,lS]; refine xpL (.bool true) ?_; refine xT ?_; go_upto_region 13 with fail; refine wp_region_list ?_; refine xpL (.slice (some ada) a.length ca) ?_; refine xpL (.int .i64 (i:Int)) ?_; refine xaL (.pointer (some (ada.add i))) (idxI21 ada _ _ i hil _ _ rfl rfl rfl _) ?_
              refine xaL (.int .i64 (bl a i)) (load1 3 _ (ada.add i) _ rfl rfl (fun _=>by kernel_rfl) ((Sa.below M.below (xnR _)).atE21 rfl hil)) ?_; refine xpL (.int .i64 (bl a i)) ?_; refine xT ?_; go_upto_region 14 with fail; refine wp_region_list ?_; refine xpL (.int .i64 (bl r i)) ?_; refine xpL (.int .i64 (bl r i)) ?_; refine xT ?_; have hk0:=spk_quick hsv htu (.inl hb0)
              rw [hcc] at hk0
              have hk:=show Hid _ from hk0; have HS:=show Hid _ from M.below; clear M; go_wp2
              go_roundw
              case rel=>exact ⟨i+1,by omega,by rw [hk.out],by rw [hk.out],by go_num,HS.out⟩
              case measure=>simp [intOf]; omega
            · by_cases hb1:bl r i<(spk s a r i).2
              · go_upto_region 12 with fail
                refine wp_region_list ?_; refine xpL (.int .i64 ((spk s a r i).1)) ?_; refine xaL (.bool false) (lssI .i64 _ _ _ _ _ _ rfl rfl rfl false (decide_eq_false hb0) _) ?_; refine xpL (.bool false) ?_; refine xpL (.int .i64 (bl r i)) ?_; refine xpL (.int .i64 ((spk s a r i).2)) ?_; refine xaL (.bool true) (lssI .i64 _ _ _ _ _ _ rfl rfl rfl true (decide_eq_true hb1) _) ?_
                refine xpL (.bool true) ?_; refine xT ?_; go_upto_region 13 with fail; refine wp_region_list ?_; refine xpL (.slice (some ada) a.length ca) ?_; refine xpL (.int .i64 (i:Int)) ?_; refine xaL (.pointer (some (ada.add i))) (idxI21 ada _ _ i hil _ _ rfl rfl rfl _) ?_
                refine xaL (.int .i64 (bl a i)) (load1 3 _ (ada.add i) _ rfl rfl (fun _=>by kernel_rfl) ((Sa.below M.below (xnR _)).atE21 rfl hil)) ?_; refine xpL (.int .i64 (bl a i)) ?_; refine xT ?_; go_upto_region 14 with fail; refine wp_region_list ?_; refine xpL (.int .i64 (bl r i)) ?_; refine xpL (.int .i64 (bl r i)) ?_; refine xT ?_
                have hk0:=spk_quick hsv htu (.inr (by rw [hcc]; exact hb1))
                rw [hcc] at hk0
                have hk:=show Hid _ from hk0; have HS:=show Hid _ from M.below; clear M; go_wp2
                go_roundw
                case rel=>exact ⟨i+1,by omega,by rw [hk.out],by rw [hk.out],by go_num,HS.out⟩
                case measure=>simp [intOf]; omega
              · go_upto_region 12 with fail
                refine wp_region_list ?_; refine xpL (.int .i64 ((spk s a r i).1)) ?_; refine xaL (.bool false) (lssI .i64 _ _ _ _ _ _ rfl rfl rfl false (decide_eq_false hb0) _) ?_; refine xpL (.bool false) ?_; refine xpL (.int .i64 (bl r i)) ?_; refine xpL (.int .i64 ((spk s a r i).2)) ?_; refine xaL (.bool false) (lssI .i64 _ _ _ _ _ _ rfl rfl rfl false (decide_eq_false hb1) _) ?_
                refine xpL (.bool false) ?_; refine xT ?_; have hk:=show Hid _ from (spk_slow hsv htu (by rw [hcc]; exact fun h=>h.elim hb0 hb1)); have HS:=show Hid _ from M.below; clear M; go_wp2
                go_roundw
                case rel=>exact ⟨i+1,by omega,by rw [hk.out],by rw [hk.out],by go_num,HS.out⟩
                case measure=>simp [intOf]; omega
          | true =>
            have hdp:dpo s≠0:=by unfold dpo; rw [htu]; decide
            go_upto_region 11 with fail; refine wp_region_list ?_; refine xpL (.pointer (some ⟨R,0,none⟩)) ?_; refine xpL (.pointer (some ⟨R,0,none⟩)) ?_; refine xpL (.pointer (some ⟨R,0,none⟩)) ?_; refine xaL (.int .i64 (dpo s)) (load1 3 _ ⟨R,0,none⟩ _ rfl rfl (fun _=>by kernel_rfl) (cell21 M.below hR0)) ?_
            refine xaL (.bool false) (eqlI .i64 _ _ _ _ _ _ rfl rfl rfl false (beq_eq_false_iff_ne.2 (hdp)) _) ?_; refine xT ?_
            by_cases hb0:(spk s a r i).1<0
            · go_upto_region 15 with fail
              have hdr:=(Below.refl w5.heap.size w5).drew; replace M:=M.drew; clear hdr; refine wp_region_held_drew (S:=fun w'=>Below w.heap.size w w') (by kernel_rfl) M.below ?_; intro _; generalize w5.drew=w6 at M ⊢; refine xrH 0 74 rfl (.slice (some ada) a.length ca) (fun _ hS=>(by kernel_rfl)) M.below ?_
              refine xrH 1 75 rfl (.int .i64 (i:Int)) (fun _ hS=>(by kernel_rfl)) M.below ?_; refine xrH 2 76 rfl (.pointer (some (ada.add i))) (fun _ hS=>idxI21 ada _ _ i hil _ _ rfl rfl rfl _) M.below ?_; refine xrH 3 77 rfl (.int .i64 (bl a i)) (fun _ hS=>load1 3 _ (ada.add i) _ rfl rfl (fun _=>by kernel_rfl) ((Sa.below hS (xnR _)).atE21 rfl hil)) M.below ?_
              refine xrH 4 78 rfl (.pointer (some ⟨R,0,none⟩)) (fun _ hS=>(by kernel_rfl)) M.below ?_; refine xrH 5 79 rfl (.pointer (some ⟨R,0,none⟩)) (fun _ hS=>(by kernel_rfl)) M.below ?_; refine xrH 6 80 rfl (.pointer (some ⟨R,1,none⟩)) (fun _ hS=>(by kernel_rfl)) M.below ?_
              refine xrH 7 81 rfl (.int .i64 s.last) (fun _ hS=>load1 3 _ ⟨R,1,none⟩ _ rfl rfl (fun _=>by kernel_rfl) (cell21 hS hR1)) M.below ?_; refine xrH 8 82 rfl (.bool (decide (bl a i>s.last))) (fun _ hS=>gtrI .i64 _ _ _ _ _ _ rfl rfl rfl (decide (bl a i>s.last)) rfl _) M.below ?_; refine xrH 9 13 rfl (.bool (decide (bl a i>s.last))) (fun _ hS=>(by kernel_rfl)) M.below ?_
              refine wpAnyH_done (by kernel_rfl) ?_ _
              first | show Exit.then _ _ _ _ _ | show Exit.inBlock _ _ _ _ _
              go_upto_region 16 with fail; refine wp_region_list ?_; refine xpL (.int .i64 ((spk s a r i).1)) ?_; refine xpL (.pointer (some ⟨R,0,none⟩)) ?_; refine xpL (.pointer (some ⟨R,0,none⟩)) ?_; refine xpL (.pointer (some ⟨R,1,none⟩)) ?_; refine xaL (.int .i64 s.last) (load1 3 _ ⟨R,1,none⟩ _ rfl rfl (fun _=>by kernel_rfl) (cell21 M.below hR1)) ?_
              refine readL (.bool (decide ((spk s a r i).1>s.last))) rfl (gtrI .i64 _ _ _ _ _ _ rfl rfl rfl (decide ((spk s a r i).1>s.last)) rfl _) ?_; simp only [aP,lI,l0,lS]; refine xpL (.bool (decide ((spk s a r i).1>s.last))) ?_; refine xT ?_; go_upto_region 17 with fail; refine wp_region_list ?_; refine xpL (.int .i64 ((spk s a r i).1)) ?_
              refine xaL (.bool true) (lssI .i64 _ _ _ _ _ _ rfl rfl rfl true (decide_eq_true hb0) _) ?_; refine xpL (.bool true) ?_
              with_reducible refine skipL ?_ ?_
              · rfl
              simp only [aP,lI,l0,lS]
              with_reducible refine skipL ?_ ?_
              · rfl
              simp only [aP,lI,l0,lS]
              with_reducible refine skipL ?_ ?_
              · rfl
              simp only [aP,lI,l0,lS]
              with_reducible refine skipL ?_ ?_
              · rfl
              simp only [aP,lI,l0,lS]
              with_reducible refine skipL ?_ ?_
              · rfl
              simp only [aP,lI,l0,lS]; refine xpL (.bool true) ?_; refine xpL (.bool true) ?_
              with_reducible refine skipL ?_ ?_
              · rfl
              simp only [aP,lI,l0,lS]
              with_reducible refine skipL ?_ ?_
              · rfl
              simp only [aP,lI,l0,lS]
              with_reducible refine skipL ?_ ?_
              · rfl
              simp only [aP,lI,l0,lS]
              with_reducible refine skipL ?_ ?_
              · rfl
              simp only [aP,lI,l0,lS]
              with_reducible refine skipL ?_ ?_
              · rfl
              simp only [aP,lI,l0,lS]
              with_reducible refine skipL ?_ ?_
              · rfl
              simp only [aP,lI,l0,lS]
              with_reducible refine skipL ?_ ?_
              · rfl
              simp only [aP,lI,l0,lS]
              with_reducible refine skipL ?_ ?_
              · rfl
              simp only [aP,lI,l0,lS]
              with_reducible refine skipL ?_ ?_
              · rfl
              simp only [aP,lI,l0,lS]
              with_reducible refine skipL ?_ ?_
              · rfl
              simp only [aP,lI,l0,lS]
              with_reducible refine skipL ?_ ?_
              · rfl
              simp only [aP,lI,l0,lS]; refine xpL (.bool true) ?_; refine xT ?_; go_upto_region 18 with fail; refine wp_region_list ?_; refine xpL (.slice (some ada) a.length ca) ?_; refine xpL (.int .i64 (i:Int)) ?_; refine xaL (.pointer (some (ada.add i))) (idxI21 ada _ _ i hil _ _ rfl rfl rfl _) ?_
              refine xaL (.int .i64 (bl a i)) (load1 3 _ (ada.add i) _ rfl rfl (fun _=>by kernel_rfl) ((Sa.below M.below (xnR _)).atE21 rfl hil)) ?_; refine xpL (.int .i64 (bl a i)) ?_; refine xT ?_; have hk:=show Hid _ from (spk_turn hsv htu (.inl hb0)); have HS:=show Hid _ from M.below; clear M; go_wp2
              go_roundw
              case rel=>exact ⟨i+1,by omega,by rw [hk.out],by rw [hk.out],by go_num,HS.out⟩
              case measure=>simp [intOf]; omega
            · by_cases hA:bl a i>s.last
              · by_cases hF:(spk s a r i).1>s.last
                · go_upto_region 15 with fail
                  have hdr:=(Below.refl w5.heap.size w5).drew; replace M:=M.drew; clear hdr; refine wp_region_held_drew (S:=fun w'=>Below w.heap.size w w') (by kernel_rfl) M.below ?_; intro _; generalize w5.drew=w7 at M ⊢; refine xrH 0 74 rfl (.slice (some ada) a.length ca) (fun _ hS=>(by kernel_rfl)) M.below ?_
                  refine xrH 1 75 rfl (.int .i64 (i:Int)) (fun _ hS=>(by kernel_rfl)) M.below ?_; refine xrH 2 76 rfl (.pointer (some (ada.add i))) (fun _ hS=>idxI21 ada _ _ i hil _ _ rfl rfl rfl _) M.below ?_; refine xrH 3 77 rfl (.int .i64 (bl a i)) (fun _ hS=>load1 3 _ (ada.add i) _ rfl rfl (fun _=>by kernel_rfl) ((Sa.below hS (xnR _)).atE21 rfl hil)) M.below ?_
                  refine xrH 4 78 rfl (.pointer (some ⟨R,0,none⟩)) (fun _ hS=>(by kernel_rfl)) M.below ?_; refine xrH 5 79 rfl (.pointer (some ⟨R,0,none⟩)) (fun _ hS=>(by kernel_rfl)) M.below ?_; refine xrH 6 80 rfl (.pointer (some ⟨R,1,none⟩)) (fun _ hS=>(by kernel_rfl)) M.below ?_
                  refine xrH 7 81 rfl (.int .i64 s.last) (fun _ hS=>load1 3 _ ⟨R,1,none⟩ _ rfl rfl (fun _=>by kernel_rfl) (cell21 hS hR1)) M.below ?_; refine xrH 8 82 rfl (.bool true) (fun _ hS=>gtrI .i64 _ _ _ _ _ _ rfl rfl rfl true (decide_eq_true hA) _) M.below ?_; refine xrH 9 13 rfl (.bool true) (fun _ hS=>(by kernel_rfl)) M.below ?_
                  refine wpAnyH_done (by kernel_rfl) ?_ _
                  first | show Exit.then _ _ _ _ _ | show Exit.inBlock _ _ _ _ _
                  go_upto_region 16 with fail; refine wp_region_list ?_; refine xpL (.int .i64 ((spk s a r i).1)) ?_; refine xpL (.pointer (some ⟨R,0,none⟩)) ?_; refine xpL (.pointer (some ⟨R,0,none⟩)) ?_; refine xpL (.pointer (some ⟨R,1,none⟩)) ?_; refine xaL (.int .i64 s.last) (load1 3 _ ⟨R,1,none⟩ _ rfl rfl (fun _=>by kernel_rfl) (cell21 M.below hR1)) ?_
                  refine xaL (.bool true) (gtrI .i64 _ _ _ _ _ _ rfl rfl rfl true (decide_eq_true hF) _) ?_; refine xpL (.bool true) ?_; refine xT ?_
                  by_cases hL:bl a i<(spk s a r i).1
                  · go_upto_region 17 with fail
                    refine wp_region_list ?_; refine xpL (.int .i64 ((spk s a r i).1)) ?_; refine xaL (.bool false) (lssI .i64 _ _ _ _ _ _ rfl rfl rfl false (decide_eq_false hb0) _) ?_; refine xpL (.bool false) ?_; refine xpL (.bool true) ?_; refine xpL (.bool true) ?_; refine xpL (.bool true) ?_; refine xpL (.bool false) ?_; refine xpL (.bool false) ?_; refine xpL (.bool false) ?_
                    refine xpL (.bool false) ?_; refine xpL (.bool true) ?_; refine xpL (.bool true) ?_; refine xpL (.bool true) ?_; refine xpL (.bool true) ?_; refine xpL (.slice (some ada) a.length ca) ?_; refine xpL (.int .i64 (i:Int)) ?_; refine xaL (.pointer (some (ada.add i))) (idxI21 ada _ _ i hil _ _ rfl rfl rfl _) ?_
                    refine xaL (.int .i64 (bl a i)) (load1 3 _ (ada.add i) _ rfl rfl (fun _=>by kernel_rfl) ((Sa.below M.below (xnR _)).atE21 rfl hil)) ?_; refine xpL (.int .i64 ((spk s a r i).1)) ?_; refine xaL (.bool true) (lssI .i64 _ _ _ _ _ _ rfl rfl rfl true (decide_eq_true hL) _) ?_; refine xpL (.bool true) ?_; refine xpL (.bool true) ?_; refine xT ?_; go_upto_region 18 with fail
                    refine wp_region_list ?_; refine xpL (.slice (some ada) a.length ca) ?_; refine xpL (.int .i64 (i:Int)) ?_; refine xaL (.pointer (some (ada.add i))) (idxI21 ada _ _ i hil _ _ rfl rfl rfl _) ?_; refine xaL (.int .i64 (bl a i)) (load1 3 _ (ada.add i) _ rfl rfl (fun _=>by kernel_rfl) ((Sa.below M.below (xnR _)).atE21 rfl hil)) ?_; refine xpL (.int .i64 (bl a i)) ?_
                    refine xT ?_; have hk:=show Hid _ from (spk_turn hsv htu (.inr (.inr ⟨(⟨fun _=>hF,fun _=>hA⟩),hL⟩))); have HS:=show Hid _ from M.below; clear M; go_wp2
                    go_roundw
                    case rel=>exact ⟨i+1,by omega,by rw [hk.out],by rw [hk.out],by go_num,HS.out⟩
                    case measure=>simp [intOf]; omega
                  · go_upto_region 17 with fail
                    refine wp_region_list ?_; refine xpL (.int .i64 ((spk s a r i).1)) ?_; refine xaL (.bool false) (lssI .i64 _ _ _ _ _ _ rfl rfl rfl false (decide_eq_false hb0) _) ?_; refine xpL (.bool false) ?_; refine xpL (.bool true) ?_; refine xpL (.bool true) ?_; refine xpL (.bool true) ?_; refine xpL (.bool false) ?_; refine xpL (.bool false) ?_; refine xpL (.bool false) ?_
                    refine xpL (.bool false) ?_; refine xpL (.bool true) ?_; refine xpL (.bool true) ?_; refine xpL (.bool true) ?_; refine xpL (.bool true) ?_; refine xpL (.slice (some ada) a.length ca) ?_; refine xpL (.int .i64 (i:Int)) ?_; refine xaL (.pointer (some (ada.add i))) (idxI21 ada _ _ i hil _ _ rfl rfl rfl _) ?_
                    refine xaL (.int .i64 (bl a i)) (load1 3 _ (ada.add i) _ rfl rfl (fun _=>by kernel_rfl) ((Sa.below M.below (xnR _)).atE21 rfl hil)) ?_; refine xpL (.int .i64 ((spk s a r i).1)) ?_; refine xaL (.bool false) (lssI .i64 _ _ _ _ _ _ rfl rfl rfl false (decide_eq_false hL) _) ?_; refine xpL (.bool false) ?_; refine xpL (.bool false) ?_; refine xT ?_
                    have hk:=show Hid _ from (spk_stay hsv htu (fun h=>by rcases h with h | ⟨hx,hy⟩ | ⟨_,h⟩; exact hb0 h; exact hy hF; exact hL h)); have HS:=show Hid _ from M.below; clear M; go_wp2
                    go_roundw
                    case rel=>exact ⟨i+1,by omega,by rw [hk.out],by rw [hk.out],by go_num,HS.out⟩
                    case measure=>simp [intOf]; omega
                · go_upto_region 15 with fail
                  have hdr:=(Below.refl w5.heap.size w5).drew; replace M:=M.drew; clear hdr; refine wp_region_held_drew (S:=fun w'=>Below w.heap.size w w') (by kernel_rfl) M.below ?_; intro _; generalize w5.drew=w8 at M ⊢; refine xrH 0 74 rfl (.slice (some ada) a.length ca) (fun _ hS=>(by kernel_rfl)) M.below ?_
                  refine xrH 1 75 rfl (.int .i64 (i:Int)) (fun _ hS=>(by kernel_rfl)) M.below ?_; refine xrH 2 76 rfl (.pointer (some (ada.add i))) (fun _ hS=>idxI21 ada _ _ i hil _ _ rfl rfl rfl _) M.below ?_; refine xrH 3 77 rfl (.int .i64 (bl a i)) (fun _ hS=>load1 3 _ (ada.add i) _ rfl rfl (fun _=>by kernel_rfl) ((Sa.below hS (xnR _)).atE21 rfl hil)) M.below ?_
                  refine xrH 4 78 rfl (.pointer (some ⟨R,0,none⟩)) (fun _ hS=>(by kernel_rfl)) M.below ?_; refine xrH 5 79 rfl (.pointer (some ⟨R,0,none⟩)) (fun _ hS=>(by kernel_rfl)) M.below ?_; refine xrH 6 80 rfl (.pointer (some ⟨R,1,none⟩)) (fun _ hS=>(by kernel_rfl)) M.below ?_
                  refine xrH 7 81 rfl (.int .i64 s.last) (fun _ hS=>load1 3 _ ⟨R,1,none⟩ _ rfl rfl (fun _=>by kernel_rfl) (cell21 hS hR1)) M.below ?_; refine xrH 8 82 rfl (.bool true) (fun _ hS=>gtrI .i64 _ _ _ _ _ _ rfl rfl rfl true (decide_eq_true hA) _) M.below ?_; refine xrH 9 13 rfl (.bool true) (fun _ hS=>(by kernel_rfl)) M.below ?_
                  refine wpAnyH_done (by kernel_rfl) ?_ _
                  first | show Exit.then _ _ _ _ _ | show Exit.inBlock _ _ _ _ _
                  go_upto_region 16 with fail; refine wp_region_list ?_; refine xpL (.int .i64 ((spk s a r i).1)) ?_; refine xpL (.pointer (some ⟨R,0,none⟩)) ?_; refine xpL (.pointer (some ⟨R,0,none⟩)) ?_; refine xpL (.pointer (some ⟨R,1,none⟩)) ?_; refine xaL (.int .i64 s.last) (load1 3 _ ⟨R,1,none⟩ _ rfl rfl (fun _=>by kernel_rfl) (cell21 M.below hR1)) ?_
                  refine xaL (.bool false) (gtrI .i64 _ _ _ _ _ _ rfl rfl rfl false (decide_eq_false hF) _) ?_; refine xpL (.bool false) ?_; refine xT ?_; go_upto_region 17 with fail; refine wp_region_list ?_; refine xpL (.int .i64 ((spk s a r i).1)) ?_; refine xaL (.bool false) (lssI .i64 _ _ _ _ _ _ rfl rfl rfl false (decide_eq_false hb0) _) ?_; refine xpL (.bool false) ?_
                  refine xpL (.bool true) ?_; refine xpL (.bool true) ?_; refine xpL (.bool false) ?_; refine xpL (.bool true) ?_; refine xpL (.bool true) ?_; refine xpL (.bool true) ?_; refine xpL (.bool true) ?_
                  with_reducible refine skipL ?_ ?_
                  · rfl
                  simp only [aP,lI,l0,lS]
                  with_reducible refine skipL ?_ ?_
                  · rfl
                  simp only [aP,lI,l0,lS]
                  with_reducible refine skipL ?_ ?_
                  · rfl
                  simp only [aP,lI,l0,lS]
                  with_reducible refine skipL ?_ ?_
                  · rfl
                  simp only [aP,lI,l0,lS]
                  with_reducible refine skipL ?_ ?_
                  · rfl
                  simp only [aP,lI,l0,lS]
                  with_reducible refine skipL ?_ ?_
                  · rfl
                  simp only [aP,lI,l0,lS]
                  with_reducible refine skipL ?_ ?_
                  · rfl
                  simp only [aP,lI,l0,lS]
                  with_reducible refine skipL ?_ ?_
                  · rfl
                  simp only [aP,lI,l0,lS]
                  with_reducible refine skipL ?_ ?_
                  · rfl
                  simp only [aP,lI,l0,lS]
                  with_reducible refine skipL ?_ ?_
                  · rfl
                  simp only [aP,lI,l0,lS]
                  with_reducible refine skipL ?_ ?_
                  · rfl
                  simp only [aP,lI,l0,lS]; refine xpL (.bool true) ?_; refine xT ?_; go_upto_region 18 with fail; refine wp_region_list ?_; refine xpL (.slice (some ada) a.length ca) ?_; refine xpL (.int .i64 (i:Int)) ?_; refine xaL (.pointer (some (ada.add i))) (idxI21 ada _ _ i hil _ _ rfl rfl rfl _) ?_
                  refine xaL (.int .i64 (bl a i)) (load1 3 _ (ada.add i) _ rfl rfl (fun _=>by kernel_rfl) ((Sa.below M.below (xnR _)).atE21 rfl hil)) ?_; refine xpL (.int .i64 (bl a i)) ?_; refine xT ?_; have hk:=show Hid _ from (spk_turn hsv htu (.inr (.inl ⟨hA,hF⟩))); have HS:=show Hid _ from M.below; clear M; go_wp2
                  go_roundw
                  case rel=>exact ⟨i+1,by omega,by rw [hk.out],by rw [hk.out],by go_num,HS.out⟩
                  case measure=>simp [intOf]; omega
              · by_cases hF:(spk s a r i).1>s.last
                · go_upto_region 15 with fail
                  have hdr:=(Below.refl w5.heap.size w5).drew; replace M:=M.drew; clear hdr; refine wp_region_held_drew (S:=fun w'=>Below w.heap.size w w') (by kernel_rfl) M.below ?_; intro _; generalize w5.drew=w9 at M ⊢; refine xrH 0 74 rfl (.slice (some ada) a.length ca) (fun _ hS=>(by kernel_rfl)) M.below ?_
                  refine xrH 1 75 rfl (.int .i64 (i:Int)) (fun _ hS=>(by kernel_rfl)) M.below ?_; refine xrH 2 76 rfl (.pointer (some (ada.add i))) (fun _ hS=>idxI21 ada _ _ i hil _ _ rfl rfl rfl _) M.below ?_; refine xrH 3 77 rfl (.int .i64 (bl a i)) (fun _ hS=>load1 3 _ (ada.add i) _ rfl rfl (fun _=>by kernel_rfl) ((Sa.below hS (xnR _)).atE21 rfl hil)) M.below ?_
                  refine xrH 4 78 rfl (.pointer (some ⟨R,0,none⟩)) (fun _ hS=>(by kernel_rfl)) M.below ?_; refine xrH 5 79 rfl (.pointer (some ⟨R,0,none⟩)) (fun _ hS=>(by kernel_rfl)) M.below ?_; refine xrH 6 80 rfl (.pointer (some ⟨R,1,none⟩)) (fun _ hS=>(by kernel_rfl)) M.below ?_
                  refine xrH 7 81 rfl (.int .i64 s.last) (fun _ hS=>load1 3 _ ⟨R,1,none⟩ _ rfl rfl (fun _=>by kernel_rfl) (cell21 hS hR1)) M.below ?_; refine xrH 8 82 rfl (.bool false) (fun _ hS=>gtrI .i64 _ _ _ _ _ _ rfl rfl rfl false (decide_eq_false hA) _) M.below ?_; refine xrH 9 13 rfl (.bool false) (fun _ hS=>(by kernel_rfl)) M.below ?_
                  refine wpAnyH_done (by kernel_rfl) ?_ _
                  first | show Exit.then _ _ _ _ _ | show Exit.inBlock _ _ _ _ _
                  go_upto_region 16 with fail; refine wp_region_list ?_; refine xpL (.int .i64 ((spk s a r i).1)) ?_; refine xpL (.pointer (some ⟨R,0,none⟩)) ?_; refine xpL (.pointer (some ⟨R,0,none⟩)) ?_; refine xpL (.pointer (some ⟨R,1,none⟩)) ?_; refine xaL (.int .i64 s.last) (load1 3 _ ⟨R,1,none⟩ _ rfl rfl (fun _=>by kernel_rfl) (cell21 M.below hR1)) ?_
                  refine xaL (.bool true) (gtrI .i64 _ _ _ _ _ _ rfl rfl rfl true (decide_eq_true hF) _) ?_; refine xpL (.bool true) ?_; refine xT ?_; go_upto_region 17 with fail; refine wp_region_list ?_; refine xpL (.int .i64 ((spk s a r i).1)) ?_; refine xaL (.bool false) (lssI .i64 _ _ _ _ _ _ rfl rfl rfl false (decide_eq_false hb0) _) ?_; refine xpL (.bool false) ?_
                  refine xpL (.bool false) ?_; refine xpL (.bool false) ?_
                  with_reducible refine skipL ?_ ?_
                  · rfl
                  simp only [aP,lI,l0,lS]
                  with_reducible refine skipL ?_ ?_
                  · rfl
                  simp only [aP,lI,l0,lS]; refine xpL (.bool false) ?_; refine xpL (.bool false) ?_; refine xpL (.bool false) ?_; refine xpL (.bool false) ?_; refine xpL (.bool true) ?_; refine xpL (.bool false) ?_; refine xpL (.bool false) ?_
                  with_reducible refine skipL ?_ ?_
                  · rfl
                  simp only [aP,lI,l0,lS]
                  with_reducible refine skipL ?_ ?_
                  · rfl
                  simp only [aP,lI,l0,lS]
                  with_reducible refine skipL ?_ ?_
                  · rfl
                  simp only [aP,lI,l0,lS]
                  with_reducible refine skipL ?_ ?_
                  · rfl
                  simp only [aP,lI,l0,lS]
                  with_reducible refine skipL ?_ ?_
                  · rfl
                  simp only [aP,lI,l0,lS]
                  with_reducible refine skipL ?_ ?_
                  · rfl
                  simp only [aP,lI,l0,lS]; refine xpL (.bool false) ?_; refine xpL (.bool false) ?_; refine xT ?_; have hk:=show Hid _ from (spk_stay hsv htu (fun h=>by rcases h with h | ⟨hx,_⟩ | ⟨hx,_⟩; exact hb0 h; exact hA hx; exact hA (hx.2 hF))); have HS:=show Hid _ from M.below; clear M; go_wp2
                  go_roundw
                  case rel=>exact ⟨i+1,by omega,by rw [hk.out],by rw [hk.out],by go_num,HS.out⟩
                  case measure=>simp [intOf]; omega
                · go_upto_region 15 with fail
                  have hdr:=(Below.refl w5.heap.size w5).drew; replace M:=M.drew; clear hdr; refine wp_region_held_drew (S:=fun w'=>Below w.heap.size w w') (by kernel_rfl) M.below ?_; intro _; generalize w5.drew=w10 at M ⊢; refine xrH 0 74 rfl (.slice (some ada) a.length ca) (fun _ hS=>(by kernel_rfl)) M.below ?_
                  refine xrH 1 75 rfl (.int .i64 (i:Int)) (fun _ hS=>(by kernel_rfl)) M.below ?_; refine xrH 2 76 rfl (.pointer (some (ada.add i))) (fun _ hS=>idxI21 ada _ _ i hil _ _ rfl rfl rfl _) M.below ?_; refine xrH 3 77 rfl (.int .i64 (bl a i)) (fun _ hS=>load1 3 _ (ada.add i) _ rfl rfl (fun _=>by kernel_rfl) ((Sa.below hS (xnR _)).atE21 rfl hil)) M.below ?_
                  refine xrH 4 78 rfl (.pointer (some ⟨R,0,none⟩)) (fun _ hS=>(by kernel_rfl)) M.below ?_; refine xrH 5 79 rfl (.pointer (some ⟨R,0,none⟩)) (fun _ hS=>(by kernel_rfl)) M.below ?_; refine xrH 6 80 rfl (.pointer (some ⟨R,1,none⟩)) (fun _ hS=>(by kernel_rfl)) M.below ?_
                  refine xrH 7 81 rfl (.int .i64 s.last) (fun _ hS=>load1 3 _ ⟨R,1,none⟩ _ rfl rfl (fun _=>by kernel_rfl) (cell21 hS hR1)) M.below ?_; refine xrH 8 82 rfl (.bool false) (fun _ hS=>gtrI .i64 _ _ _ _ _ _ rfl rfl rfl false (decide_eq_false hA) _) M.below ?_; refine xrH 9 13 rfl (.bool false) (fun _ hS=>(by kernel_rfl)) M.below ?_
                  refine wpAnyH_done (by kernel_rfl) ?_ _
                  first | show Exit.then _ _ _ _ _ | show Exit.inBlock _ _ _ _ _
                  go_upto_region 16 with fail; refine wp_region_list ?_; refine xpL (.int .i64 ((spk s a r i).1)) ?_; refine xpL (.pointer (some ⟨R,0,none⟩)) ?_; refine xpL (.pointer (some ⟨R,0,none⟩)) ?_; refine xpL (.pointer (some ⟨R,1,none⟩)) ?_; refine xaL (.int .i64 s.last) (load1 3 _ ⟨R,1,none⟩ _ rfl rfl (fun _=>by kernel_rfl) (cell21 M.below hR1)) ?_
                  refine xaL (.bool false) (gtrI .i64 _ _ _ _ _ _ rfl rfl rfl false (decide_eq_false hF) _) ?_; refine xpL (.bool false) ?_; refine xT ?_
                  by_cases hL:bl a i<(spk s a r i).1
                  · go_upto_region 17 with fail
                    refine wp_region_list ?_; refine xpL (.int .i64 ((spk s a r i).1)) ?_; refine xaL (.bool false) (lssI .i64 _ _ _ _ _ _ rfl rfl rfl false (decide_eq_false hb0) _) ?_; refine xpL (.bool false) ?_; refine xpL (.bool false) ?_; refine xpL (.bool false) ?_
                    with_reducible refine skipL ?_ ?_
                    · rfl
                    simp only [aP,lI,l0,lS]
                    with_reducible refine skipL ?_ ?_
                    · rfl
                    simp only [aP,lI,l0,lS]; refine xpL (.bool false) ?_; refine xpL (.bool false) ?_; refine xpL (.bool false) ?_; refine xpL (.bool false) ?_; refine xpL (.bool false) ?_; refine xpL (.bool true) ?_; refine xpL (.bool true) ?_; refine xpL (.slice (some ada) a.length ca) ?_; refine xpL (.int .i64 (i:Int)) ?_
                    refine xaL (.pointer (some (ada.add i))) (idxI21 ada _ _ i hil _ _ rfl rfl rfl _) ?_; refine xaL (.int .i64 (bl a i)) (load1 3 _ (ada.add i) _ rfl rfl (fun _=>by kernel_rfl) ((Sa.below M.below (xnR _)).atE21 rfl hil)) ?_; refine xpL (.int .i64 ((spk s a r i).1)) ?_; refine xaL (.bool true) (lssI .i64 _ _ _ _ _ _ rfl rfl rfl true (decide_eq_true hL) _) ?_
                    refine xpL (.bool true) ?_; refine xpL (.bool true) ?_; refine xT ?_; go_upto_region 18 with fail; refine wp_region_list ?_; refine xpL (.slice (some ada) a.length ca) ?_; refine xpL (.int .i64 (i:Int)) ?_; refine xaL (.pointer (some (ada.add i))) (idxI21 ada _ _ i hil _ _ rfl rfl rfl _) ?_
                    refine xaL (.int .i64 (bl a i)) (load1 3 _ (ada.add i) _ rfl rfl (fun _=>by kernel_rfl) ((Sa.below M.below (xnR _)).atE21 rfl hil)) ?_; refine xpL (.int .i64 (bl a i)) ?_; refine xT ?_; have hk:=show Hid _ from (spk_turn hsv htu (.inr (.inr ⟨(⟨fun h=>absurd h hA,fun h=>absurd h hF⟩),hL⟩))); have HS:=show Hid _ from M.below; clear M; go_wp2
                    go_roundw
                    case rel=>exact ⟨i+1,by omega,by rw [hk.out],by rw [hk.out],by go_num,HS.out⟩
                    case measure=>simp [intOf]; omega
                  · go_upto_region 17 with fail
                    refine wp_region_list ?_; refine xpL (.int .i64 ((spk s a r i).1)) ?_; refine xaL (.bool false) (lssI .i64 _ _ _ _ _ _ rfl rfl rfl false (decide_eq_false hb0) _) ?_; refine xpL (.bool false) ?_; refine xpL (.bool false) ?_; refine xpL (.bool false) ?_
                    with_reducible refine skipL ?_ ?_
                    · rfl
                    simp only [aP,lI,l0,lS]
                    with_reducible refine skipL ?_ ?_
                    · rfl
                    simp only [aP,lI,l0,lS]; refine xpL (.bool false) ?_; refine xpL (.bool false) ?_; refine xpL (.bool false) ?_; refine xpL (.bool false) ?_; refine xpL (.bool false) ?_; refine xpL (.bool true) ?_; refine xpL (.bool true) ?_; refine xpL (.slice (some ada) a.length ca) ?_; refine xpL (.int .i64 (i:Int)) ?_
                    refine xaL (.pointer (some (ada.add i))) (idxI21 ada _ _ i hil _ _ rfl rfl rfl _) ?_; refine xaL (.int .i64 (bl a i)) (load1 3 _ (ada.add i) _ rfl rfl (fun _=>by kernel_rfl) ((Sa.below M.below (xnR _)).atE21 rfl hil)) ?_; refine xpL (.int .i64 ((spk s a r i).1)) ?_; refine xaL (.bool false) (lssI .i64 _ _ _ _ _ _ rfl rfl rfl false (decide_eq_false hL) _) ?_
                    refine xpL (.bool false) ?_; refine xpL (.bool false) ?_; refine xT ?_; have hk:=show Hid _ from (spk_stay hsv htu (fun h=>by rcases h with h | ⟨hx,hy⟩ | ⟨_,h⟩; exact hb0 h; exact hA hx; exact hL h)); have HS:=show Hid _ from M.below; clear M; go_wp2
                    go_roundw
                    case rel=>exact ⟨i+1,by omega,by rw [hk.out],by rw [hk.out],by go_num,HS.out⟩
                    case measure=>simp [intOf]; omega
        · go_upto_region 9 with fail
          refine wp_region_list ?_; refine xpL (.int .i64 (i:Int)) ?_; refine xpL (.slice sr r.length cr) ?_; refine xaL (.int .i64 ((r.length:Nat):Int)) (lenS _ 29 3 sr r.length cr rfl Try.underlying29 rfl _) ?_; refine xaL (.bool false) (lssI .i64 _ _ _ _ _ _ rfl rfl rfl false (decide_eq_false (by omega)) _) ?_; refine xT ?_
          have hcc:bl r i=0:=bl_over (by omega)
          cases htu:s.tu with
          | false =>
            have hdp:dpo s=0:=by unfold dpo; rw [htu]; rfl
            go_upto_region 11 with fail; refine wp_region_list ?_; refine xpL (.pointer (some ⟨R,0,none⟩)) ?_; refine xpL (.pointer (some ⟨R,0,none⟩)) ?_; refine xpL (.pointer (some ⟨R,0,none⟩)) ?_; refine xaL (.int .i64 (dpo s)) (load1 3 _ ⟨R,0,none⟩ _ rfl rfl (fun _=>by kernel_rfl) (cell21 M.below hR0)) ?_
            refine xaL (.bool true) (eqlI .i64 _ _ _ _ _ _ rfl rfl rfl true (beq_iff_eq.2 (hdp)) _) ?_; refine xT ?_
            by_cases hb0:(spk s a r i).1<0
            · go_upto_region 12 with fail
              refine wp_region_list ?_; refine xpL (.int .i64 ((spk s a r i).1)) ?_; refine xaL (.bool true) (lssI .i64 _ _ _ _ _ _ rfl rfl rfl true (decide_eq_true hb0) _) ?_; refine xpL (.bool true) ?_
              with_reducible refine skipL ?_ ?_
              · rfl
              simp only [aP,lI,l0,lS]
              with_reducible refine skipL ?_ ?_
              · rfl
              simp only [aP,lI,l0,lS]
              with_reducible refine skipL ?_ ?_
              · rfl
              simp only [aP,lI,l0,lS]; refine xpL (.bool true) ?_; refine xT ?_; go_upto_region 13 with fail; refine wp_region_list ?_; refine xpL (.slice (some ada) a.length ca) ?_; refine xpL (.int .i64 (i:Int)) ?_; refine xaL (.pointer (some (ada.add i))) (idxI21 ada _ _ i hil _ _ rfl rfl rfl _) ?_
              refine xaL (.int .i64 (bl a i)) (load1 3 _ (ada.add i) _ rfl rfl (fun _=>by kernel_rfl) ((Sa.below M.below (xnR _)).atE21 rfl hil)) ?_; refine xpL (.int .i64 (bl a i)) ?_; refine xT ?_; go_upto_region 14 with fail; refine wp_region_list ?_; refine xpL (.int .i64 0) ?_; refine xpL (.int .i64 0) ?_; refine xT ?_; have hk0:=spk_quick hsv htu (.inl hb0)
              rw [hcc] at hk0
              have hk:=show Hid _ from hk0; have HS:=show Hid _ from M.below; clear M; go_wp2
              go_roundw
              case rel=>exact ⟨i+1,by omega,by rw [hk.out],by rw [hk.out],by go_num,HS.out⟩
              case measure=>simp [intOf]; omega
            · by_cases hb1:0<(spk s a r i).2
              · go_upto_region 12 with fail
                refine wp_region_list ?_; refine xpL (.int .i64 ((spk s a r i).1)) ?_; refine xaL (.bool false) (lssI .i64 _ _ _ _ _ _ rfl rfl rfl false (decide_eq_false hb0) _) ?_; refine xpL (.bool false) ?_; refine xpL (.int .i64 0) ?_; refine xpL (.int .i64 ((spk s a r i).2)) ?_; refine xaL (.bool true) (lssI .i64 _ _ _ _ _ _ rfl rfl rfl true (decide_eq_true hb1) _) ?_
                refine xpL (.bool true) ?_; refine xT ?_; go_upto_region 13 with fail; refine wp_region_list ?_; refine xpL (.slice (some ada) a.length ca) ?_; refine xpL (.int .i64 (i:Int)) ?_; refine xaL (.pointer (some (ada.add i))) (idxI21 ada _ _ i hil _ _ rfl rfl rfl _) ?_
                refine xaL (.int .i64 (bl a i)) (load1 3 _ (ada.add i) _ rfl rfl (fun _=>by kernel_rfl) ((Sa.below M.below (xnR _)).atE21 rfl hil)) ?_; refine xpL (.int .i64 (bl a i)) ?_; refine xT ?_; go_upto_region 14 with fail; refine wp_region_list ?_; refine xpL (.int .i64 0) ?_; refine xpL (.int .i64 0) ?_; refine xT ?_; have hk0:=spk_quick hsv htu (.inr (by rw [hcc]; exact hb1))
                rw [hcc] at hk0
                have hk:=show Hid _ from hk0; have HS:=show Hid _ from M.below; clear M; go_wp2
                go_roundw
                case rel=>exact ⟨i+1,by omega,by rw [hk.out],by rw [hk.out],by go_num,HS.out⟩
                case measure=>simp [intOf]; omega
              · go_upto_region 12 with fail
                refine wp_region_list ?_; refine xpL (.int .i64 ((spk s a r i).1)) ?_; refine xaL (.bool false) (lssI .i64 _ _ _ _ _ _ rfl rfl rfl false (decide_eq_false hb0) _) ?_; refine xpL (.bool false) ?_; refine xpL (.int .i64 0) ?_; refine xpL (.int .i64 ((spk s a r i).2)) ?_; refine xaL (.bool false) (lssI .i64 _ _ _ _ _ _ rfl rfl rfl false (decide_eq_false hb1) _) ?_
                refine xpL (.bool false) ?_; refine xT ?_; have hk:=show Hid _ from (spk_slow hsv htu (by rw [hcc]; exact fun h=>h.elim hb0 hb1)); have HS:=show Hid _ from M.below; clear M; go_wp2
                go_roundw
                case rel=>exact ⟨i+1,by omega,by rw [hk.out],by rw [hk.out],by go_num,HS.out⟩
                case measure=>simp [intOf]; omega
          | true =>
            have hdp:dpo s≠0:=by unfold dpo; rw [htu]; decide
            go_upto_region 11 with fail; refine wp_region_list ?_; refine xpL (.pointer (some ⟨R,0,none⟩)) ?_; refine xpL (.pointer (some ⟨R,0,none⟩)) ?_; refine xpL (.pointer (some ⟨R,0,none⟩)) ?_; refine xaL (.int .i64 (dpo s)) (load1 3 _ ⟨R,0,none⟩ _ rfl rfl (fun _=>by kernel_rfl) (cell21 M.below hR0)) ?_
            refine xaL (.bool false) (eqlI .i64 _ _ _ _ _ _ rfl rfl rfl false (beq_eq_false_iff_ne.2 (hdp)) _) ?_; refine xT ?_
            by_cases hb0:(spk s a r i).1<0
            · go_upto_region 15 with fail
              have hdr:=(Below.refl w5.heap.size w5).drew; replace M:=M.drew; clear hdr; refine wp_region_held_drew (S:=fun w'=>Below w.heap.size w w') (by kernel_rfl) M.below ?_; intro _; generalize w5.drew=w11 at M ⊢; refine xrH 0 74 rfl (.slice (some ada) a.length ca) (fun _ hS=>(by kernel_rfl)) M.below ?_
              refine xrH 1 75 rfl (.int .i64 (i:Int)) (fun _ hS=>(by kernel_rfl)) M.below ?_; refine xrH 2 76 rfl (.pointer (some (ada.add i))) (fun _ hS=>idxI21 ada _ _ i hil _ _ rfl rfl rfl _) M.below ?_; refine xrH 3 77 rfl (.int .i64 (bl a i)) (fun _ hS=>load1 3 _ (ada.add i) _ rfl rfl (fun _=>by kernel_rfl) ((Sa.below hS (xnR _)).atE21 rfl hil)) M.below ?_
              refine xrH 4 78 rfl (.pointer (some ⟨R,0,none⟩)) (fun _ hS=>(by kernel_rfl)) M.below ?_; refine xrH 5 79 rfl (.pointer (some ⟨R,0,none⟩)) (fun _ hS=>(by kernel_rfl)) M.below ?_; refine xrH 6 80 rfl (.pointer (some ⟨R,1,none⟩)) (fun _ hS=>(by kernel_rfl)) M.below ?_
              refine xrH 7 81 rfl (.int .i64 s.last) (fun _ hS=>load1 3 _ ⟨R,1,none⟩ _ rfl rfl (fun _=>by kernel_rfl) (cell21 hS hR1)) M.below ?_; refine xrH 8 82 rfl (.bool (decide (bl a i>s.last))) (fun _ hS=>gtrI .i64 _ _ _ _ _ _ rfl rfl rfl (decide (bl a i>s.last)) rfl _) M.below ?_; refine xrH 9 13 rfl (.bool (decide (bl a i>s.last))) (fun _ hS=>(by kernel_rfl)) M.below ?_
              refine wpAnyH_done (by kernel_rfl) ?_ _
              first | show Exit.then _ _ _ _ _ | show Exit.inBlock _ _ _ _ _
              go_upto_region 16 with fail; refine wp_region_list ?_; refine xpL (.int .i64 ((spk s a r i).1)) ?_; refine xpL (.pointer (some ⟨R,0,none⟩)) ?_; refine xpL (.pointer (some ⟨R,0,none⟩)) ?_; refine xpL (.pointer (some ⟨R,1,none⟩)) ?_; refine xaL (.int .i64 s.last) (load1 3 _ ⟨R,1,none⟩ _ rfl rfl (fun _=>by kernel_rfl) (cell21 M.below hR1)) ?_
              refine readL (.bool (decide ((spk s a r i).1>s.last))) rfl (gtrI .i64 _ _ _ _ _ _ rfl rfl rfl (decide ((spk s a r i).1>s.last)) rfl _) ?_; simp only [aP,lI,l0,lS]; refine xpL (.bool (decide ((spk s a r i).1>s.last))) ?_; refine xT ?_; go_upto_region 17 with fail; refine wp_region_list ?_; refine xpL (.int .i64 ((spk s a r i).1)) ?_
              refine xaL (.bool true) (lssI .i64 _ _ _ _ _ _ rfl rfl rfl true (decide_eq_true hb0) _) ?_; refine xpL (.bool true) ?_
              with_reducible refine skipL ?_ ?_
              · rfl
              simp only [aP,lI,l0,lS]
              with_reducible refine skipL ?_ ?_
              · rfl
              simp only [aP,lI,l0,lS]
              with_reducible refine skipL ?_ ?_
              · rfl
              simp only [aP,lI,l0,lS]
              with_reducible refine skipL ?_ ?_
              · rfl
              simp only [aP,lI,l0,lS]
              with_reducible refine skipL ?_ ?_
              · rfl
              simp only [aP,lI,l0,lS]; refine xpL (.bool true) ?_; refine xpL (.bool true) ?_
              with_reducible refine skipL ?_ ?_
              · rfl
              simp only [aP,lI,l0,lS]
              with_reducible refine skipL ?_ ?_
              · rfl
              simp only [aP,lI,l0,lS]
              with_reducible refine skipL ?_ ?_
              · rfl
              simp only [aP,lI,l0,lS]
              with_reducible refine skipL ?_ ?_
              · rfl
              simp only [aP,lI,l0,lS]
              with_reducible refine skipL ?_ ?_
              · rfl
              simp only [aP,lI,l0,lS]
              with_reducible refine skipL ?_ ?_
              · rfl
              simp only [aP,lI,l0,lS]
              with_reducible refine skipL ?_ ?_
              · rfl
              simp only [aP,lI,l0,lS]
              with_reducible refine skipL ?_ ?_
              · rfl
              simp only [aP,lI,l0,lS]
              with_reducible refine skipL ?_ ?_
              · rfl
              simp only [aP,lI,l0,lS]
              with_reducible refine skipL ?_ ?_
              · rfl
              simp only [aP,lI,l0,lS]
              with_reducible refine skipL ?_ ?_
              · rfl
              simp only [aP,lI,l0,lS]; refine xpL (.bool true) ?_; refine xT ?_; go_upto_region 18 with fail; refine wp_region_list ?_; refine xpL (.slice (some ada) a.length ca) ?_; refine xpL (.int .i64 (i:Int)) ?_; refine xaL (.pointer (some (ada.add i))) (idxI21 ada _ _ i hil _ _ rfl rfl rfl _) ?_
              refine xaL (.int .i64 (bl a i)) (load1 3 _ (ada.add i) _ rfl rfl (fun _=>by kernel_rfl) ((Sa.below M.below (xnR _)).atE21 rfl hil)) ?_; refine xpL (.int .i64 (bl a i)) ?_; refine xT ?_; have hk:=show Hid _ from (spk_turn hsv htu (.inl hb0)); have HS:=show Hid _ from M.below; clear M; go_wp2
              go_roundw
              case rel=>exact ⟨i+1,by omega,by rw [hk.out],by rw [hk.out],by go_num,HS.out⟩
              case measure=>simp [intOf]; omega
            · by_cases hA:bl a i>s.last
              · by_cases hF:(spk s a r i).1>s.last
                · go_upto_region 15 with fail
                  have hdr:=(Below.refl w5.heap.size w5).drew; replace M:=M.drew; clear hdr; refine wp_region_held_drew (S:=fun w'=>Below w.heap.size w w') (by kernel_rfl) M.below ?_; intro _; generalize w5.drew=w12 at M ⊢; refine xrH 0 74 rfl (.slice (some ada) a.length ca) (fun _ hS=>(by kernel_rfl)) M.below ?_
                  refine xrH 1 75 rfl (.int .i64 (i:Int)) (fun _ hS=>(by kernel_rfl)) M.below ?_; refine xrH 2 76 rfl (.pointer (some (ada.add i))) (fun _ hS=>idxI21 ada _ _ i hil _ _ rfl rfl rfl _) M.below ?_; refine xrH 3 77 rfl (.int .i64 (bl a i)) (fun _ hS=>load1 3 _ (ada.add i) _ rfl rfl (fun _=>by kernel_rfl) ((Sa.below hS (xnR _)).atE21 rfl hil)) M.below ?_
                  refine xrH 4 78 rfl (.pointer (some ⟨R,0,none⟩)) (fun _ hS=>(by kernel_rfl)) M.below ?_; refine xrH 5 79 rfl (.pointer (some ⟨R,0,none⟩)) (fun _ hS=>(by kernel_rfl)) M.below ?_; refine xrH 6 80 rfl (.pointer (some ⟨R,1,none⟩)) (fun _ hS=>(by kernel_rfl)) M.below ?_
                  refine xrH 7 81 rfl (.int .i64 s.last) (fun _ hS=>load1 3 _ ⟨R,1,none⟩ _ rfl rfl (fun _=>by kernel_rfl) (cell21 hS hR1)) M.below ?_; refine xrH 8 82 rfl (.bool true) (fun _ hS=>gtrI .i64 _ _ _ _ _ _ rfl rfl rfl true (decide_eq_true hA) _) M.below ?_; refine xrH 9 13 rfl (.bool true) (fun _ hS=>(by kernel_rfl)) M.below ?_
                  refine wpAnyH_done (by kernel_rfl) ?_ _
                  first | show Exit.then _ _ _ _ _ | show Exit.inBlock _ _ _ _ _
                  go_upto_region 16 with fail; refine wp_region_list ?_; refine xpL (.int .i64 ((spk s a r i).1)) ?_; refine xpL (.pointer (some ⟨R,0,none⟩)) ?_; refine xpL (.pointer (some ⟨R,0,none⟩)) ?_; refine xpL (.pointer (some ⟨R,1,none⟩)) ?_; refine xaL (.int .i64 s.last) (load1 3 _ ⟨R,1,none⟩ _ rfl rfl (fun _=>by kernel_rfl) (cell21 M.below hR1)) ?_
                  refine xaL (.bool true) (gtrI .i64 _ _ _ _ _ _ rfl rfl rfl true (decide_eq_true hF) _) ?_; refine xpL (.bool true) ?_; refine xT ?_
                  by_cases hL:bl a i<(spk s a r i).1
                  · go_upto_region 17 with fail
                    refine wp_region_list ?_; refine xpL (.int .i64 ((spk s a r i).1)) ?_; refine xaL (.bool false) (lssI .i64 _ _ _ _ _ _ rfl rfl rfl false (decide_eq_false hb0) _) ?_; refine xpL (.bool false) ?_; refine xpL (.bool true) ?_; refine xpL (.bool true) ?_; refine xpL (.bool true) ?_; refine xpL (.bool false) ?_; refine xpL (.bool false) ?_; refine xpL (.bool false) ?_
                    refine xpL (.bool false) ?_; refine xpL (.bool true) ?_; refine xpL (.bool true) ?_; refine xpL (.bool true) ?_; refine xpL (.bool true) ?_; refine xpL (.slice (some ada) a.length ca) ?_; refine xpL (.int .i64 (i:Int)) ?_; refine xaL (.pointer (some (ada.add i))) (idxI21 ada _ _ i hil _ _ rfl rfl rfl _) ?_
                    refine xaL (.int .i64 (bl a i)) (load1 3 _ (ada.add i) _ rfl rfl (fun _=>by kernel_rfl) ((Sa.below M.below (xnR _)).atE21 rfl hil)) ?_; refine xpL (.int .i64 ((spk s a r i).1)) ?_; refine xaL (.bool true) (lssI .i64 _ _ _ _ _ _ rfl rfl rfl true (decide_eq_true hL) _) ?_; refine xpL (.bool true) ?_; refine xpL (.bool true) ?_; refine xT ?_; go_upto_region 18 with fail
                    refine wp_region_list ?_; refine xpL (.slice (some ada) a.length ca) ?_; refine xpL (.int .i64 (i:Int)) ?_; refine xaL (.pointer (some (ada.add i))) (idxI21 ada _ _ i hil _ _ rfl rfl rfl _) ?_; refine xaL (.int .i64 (bl a i)) (load1 3 _ (ada.add i) _ rfl rfl (fun _=>by kernel_rfl) ((Sa.below M.below (xnR _)).atE21 rfl hil)) ?_; refine xpL (.int .i64 (bl a i)) ?_
                    refine xT ?_; have hk:=show Hid _ from (spk_turn hsv htu (.inr (.inr ⟨(⟨fun _=>hF,fun _=>hA⟩),hL⟩))); have HS:=show Hid _ from M.below; clear M; go_wp2
                    go_roundw
                    case rel=>exact ⟨i+1,by omega,by rw [hk.out],by rw [hk.out],by go_num,HS.out⟩
                    case measure=>simp [intOf]; omega
                  · go_upto_region 17 with fail
                    refine wp_region_list ?_; refine xpL (.int .i64 ((spk s a r i).1)) ?_; refine xaL (.bool false) (lssI .i64 _ _ _ _ _ _ rfl rfl rfl false (decide_eq_false hb0) _) ?_; refine xpL (.bool false) ?_; refine xpL (.bool true) ?_; refine xpL (.bool true) ?_; refine xpL (.bool true) ?_; refine xpL (.bool false) ?_; refine xpL (.bool false) ?_; refine xpL (.bool false) ?_
                    refine xpL (.bool false) ?_; refine xpL (.bool true) ?_; refine xpL (.bool true) ?_; refine xpL (.bool true) ?_; refine xpL (.bool true) ?_; refine xpL (.slice (some ada) a.length ca) ?_; refine xpL (.int .i64 (i:Int)) ?_; refine xaL (.pointer (some (ada.add i))) (idxI21 ada _ _ i hil _ _ rfl rfl rfl _) ?_
                    refine xaL (.int .i64 (bl a i)) (load1 3 _ (ada.add i) _ rfl rfl (fun _=>by kernel_rfl) ((Sa.below M.below (xnR _)).atE21 rfl hil)) ?_; refine xpL (.int .i64 ((spk s a r i).1)) ?_; refine xaL (.bool false) (lssI .i64 _ _ _ _ _ _ rfl rfl rfl false (decide_eq_false hL) _) ?_; refine xpL (.bool false) ?_; refine xpL (.bool false) ?_; refine xT ?_
                    have hk:=show Hid _ from (spk_stay hsv htu (fun h=>by rcases h with h | ⟨hx,hy⟩ | ⟨_,h⟩; exact hb0 h; exact hy hF; exact hL h)); have HS:=show Hid _ from M.below; clear M; go_wp2
                    go_roundw
                    case rel=>exact ⟨i+1,by omega,by rw [hk.out],by rw [hk.out],by go_num,HS.out⟩
                    case measure=>simp [intOf]; omega
                · go_upto_region 15 with fail
                  have hdr:=(Below.refl w5.heap.size w5).drew; replace M:=M.drew; clear hdr; refine wp_region_held_drew (S:=fun w'=>Below w.heap.size w w') (by kernel_rfl) M.below ?_; intro _; generalize w5.drew=w13 at M ⊢; refine xrH 0 74 rfl (.slice (some ada) a.length ca) (fun _ hS=>(by kernel_rfl)) M.below ?_
                  refine xrH 1 75 rfl (.int .i64 (i:Int)) (fun _ hS=>(by kernel_rfl)) M.below ?_; refine xrH 2 76 rfl (.pointer (some (ada.add i))) (fun _ hS=>idxI21 ada _ _ i hil _ _ rfl rfl rfl _) M.below ?_; refine xrH 3 77 rfl (.int .i64 (bl a i)) (fun _ hS=>load1 3 _ (ada.add i) _ rfl rfl (fun _=>by kernel_rfl) ((Sa.below hS (xnR _)).atE21 rfl hil)) M.below ?_
                  refine xrH 4 78 rfl (.pointer (some ⟨R,0,none⟩)) (fun _ hS=>(by kernel_rfl)) M.below ?_; refine xrH 5 79 rfl (.pointer (some ⟨R,0,none⟩)) (fun _ hS=>(by kernel_rfl)) M.below ?_; refine xrH 6 80 rfl (.pointer (some ⟨R,1,none⟩)) (fun _ hS=>(by kernel_rfl)) M.below ?_
                  refine xrH 7 81 rfl (.int .i64 s.last) (fun _ hS=>load1 3 _ ⟨R,1,none⟩ _ rfl rfl (fun _=>by kernel_rfl) (cell21 hS hR1)) M.below ?_; refine xrH 8 82 rfl (.bool true) (fun _ hS=>gtrI .i64 _ _ _ _ _ _ rfl rfl rfl true (decide_eq_true hA) _) M.below ?_; refine xrH 9 13 rfl (.bool true) (fun _ hS=>(by kernel_rfl)) M.below ?_
                  refine wpAnyH_done (by kernel_rfl) ?_ _
                  first | show Exit.then _ _ _ _ _ | show Exit.inBlock _ _ _ _ _
                  go_upto_region 16 with fail; refine wp_region_list ?_; refine xpL (.int .i64 ((spk s a r i).1)) ?_; refine xpL (.pointer (some ⟨R,0,none⟩)) ?_; refine xpL (.pointer (some ⟨R,0,none⟩)) ?_; refine xpL (.pointer (some ⟨R,1,none⟩)) ?_; refine xaL (.int .i64 s.last) (load1 3 _ ⟨R,1,none⟩ _ rfl rfl (fun _=>by kernel_rfl) (cell21 M.below hR1)) ?_
                  refine xaL (.bool false) (gtrI .i64 _ _ _ _ _ _ rfl rfl rfl false (decide_eq_false hF) _) ?_; refine xpL (.bool false) ?_; refine xT ?_; go_upto_region 17 with fail; refine wp_region_list ?_; refine xpL (.int .i64 ((spk s a r i).1)) ?_; refine xaL (.bool false) (lssI .i64 _ _ _ _ _ _ rfl rfl rfl false (decide_eq_false hb0) _) ?_; refine xpL (.bool false) ?_
                  refine xpL (.bool true) ?_; refine xpL (.bool true) ?_; refine xpL (.bool false) ?_; refine xpL (.bool true) ?_; refine xpL (.bool true) ?_; refine xpL (.bool true) ?_; refine xpL (.bool true) ?_
                  with_reducible refine skipL ?_ ?_
                  · rfl
                  simp only [aP,lI,l0,lS]
                  with_reducible refine skipL ?_ ?_
                  · rfl
                  simp only [aP,lI,l0,lS]
                  with_reducible refine skipL ?_ ?_
                  · rfl
                  simp only [aP,lI,l0,lS]
                  with_reducible refine skipL ?_ ?_
                  · rfl
                  simp only [aP,lI,l0,lS]
                  with_reducible refine skipL ?_ ?_
                  · rfl
                  simp only [aP,lI,l0,lS]
                  with_reducible refine skipL ?_ ?_
                  · rfl
                  simp only [aP,lI,l0,lS]
                  with_reducible refine skipL ?_ ?_
                  · rfl
                  simp only [aP,lI,l0,lS]
                  with_reducible refine skipL ?_ ?_
                  · rfl
                  simp only [aP,lI,l0,lS]
                  with_reducible refine skipL ?_ ?_
                  · rfl
                  simp only [aP,lI,l0,lS]
                  with_reducible refine skipL ?_ ?_
                  · rfl
                  simp only [aP,lI,l0,lS]
                  with_reducible refine skipL ?_ ?_
                  · rfl
                  simp only [aP,lI,l0,lS]; refine xpL (.bool true) ?_; refine xT ?_; go_upto_region 18 with fail; refine wp_region_list ?_; refine xpL (.slice (some ada) a.length ca) ?_; refine xpL (.int .i64 (i:Int)) ?_; refine xaL (.pointer (some (ada.add i))) (idxI21 ada _ _ i hil _ _ rfl rfl rfl _) ?_
                  refine xaL (.int .i64 (bl a i)) (load1 3 _ (ada.add i) _ rfl rfl (fun _=>by kernel_rfl) ((Sa.below M.below (xnR _)).atE21 rfl hil)) ?_; refine xpL (.int .i64 (bl a i)) ?_; refine xT ?_; have hk:=show Hid _ from (spk_turn hsv htu (.inr (.inl ⟨hA,hF⟩))); have HS:=show Hid _ from M.below; clear M; go_wp2
                  go_roundw
                  case rel=>exact ⟨i+1,by omega,by rw [hk.out],by rw [hk.out],by go_num,HS.out⟩
                  case measure=>simp [intOf]; omega
              · by_cases hF:(spk s a r i).1>s.last
                · go_upto_region 15 with fail
                  have hdr:=(Below.refl w5.heap.size w5).drew; replace M:=M.drew; clear hdr; refine wp_region_held_drew (S:=fun w'=>Below w.heap.size w w') (by kernel_rfl) M.below ?_; intro _; generalize w5.drew=w14 at M ⊢; refine xrH 0 74 rfl (.slice (some ada) a.length ca) (fun _ hS=>(by kernel_rfl)) M.below ?_
                  refine xrH 1 75 rfl (.int .i64 (i:Int)) (fun _ hS=>(by kernel_rfl)) M.below ?_; refine xrH 2 76 rfl (.pointer (some (ada.add i))) (fun _ hS=>idxI21 ada _ _ i hil _ _ rfl rfl rfl _) M.below ?_; refine xrH 3 77 rfl (.int .i64 (bl a i)) (fun _ hS=>load1 3 _ (ada.add i) _ rfl rfl (fun _=>by kernel_rfl) ((Sa.below hS (xnR _)).atE21 rfl hil)) M.below ?_
                  refine xrH 4 78 rfl (.pointer (some ⟨R,0,none⟩)) (fun _ hS=>(by kernel_rfl)) M.below ?_; refine xrH 5 79 rfl (.pointer (some ⟨R,0,none⟩)) (fun _ hS=>(by kernel_rfl)) M.below ?_; refine xrH 6 80 rfl (.pointer (some ⟨R,1,none⟩)) (fun _ hS=>(by kernel_rfl)) M.below ?_
                  refine xrH 7 81 rfl (.int .i64 s.last) (fun _ hS=>load1 3 _ ⟨R,1,none⟩ _ rfl rfl (fun _=>by kernel_rfl) (cell21 hS hR1)) M.below ?_; refine xrH 8 82 rfl (.bool false) (fun _ hS=>gtrI .i64 _ _ _ _ _ _ rfl rfl rfl false (decide_eq_false hA) _) M.below ?_; refine xrH 9 13 rfl (.bool false) (fun _ hS=>(by kernel_rfl)) M.below ?_
                  refine wpAnyH_done (by kernel_rfl) ?_ _
                  first | show Exit.then _ _ _ _ _ | show Exit.inBlock _ _ _ _ _
                  go_upto_region 16 with fail; refine wp_region_list ?_; refine xpL (.int .i64 ((spk s a r i).1)) ?_; refine xpL (.pointer (some ⟨R,0,none⟩)) ?_; refine xpL (.pointer (some ⟨R,0,none⟩)) ?_; refine xpL (.pointer (some ⟨R,1,none⟩)) ?_; refine xaL (.int .i64 s.last) (load1 3 _ ⟨R,1,none⟩ _ rfl rfl (fun _=>by kernel_rfl) (cell21 M.below hR1)) ?_
                  refine xaL (.bool true) (gtrI .i64 _ _ _ _ _ _ rfl rfl rfl true (decide_eq_true hF) _) ?_; refine xpL (.bool true) ?_; refine xT ?_; go_upto_region 17 with fail; refine wp_region_list ?_; refine xpL (.int .i64 ((spk s a r i).1)) ?_; refine xaL (.bool false) (lssI .i64 _ _ _ _ _ _ rfl rfl rfl false (decide_eq_false hb0) _) ?_; refine xpL (.bool false) ?_
                  refine xpL (.bool false) ?_; refine xpL (.bool false) ?_
                  with_reducible refine skipL ?_ ?_
                  · rfl
                  simp only [aP,lI,l0,lS]
                  with_reducible refine skipL ?_ ?_
                  · rfl
                  simp only [aP,lI,l0,lS]; refine xpL (.bool false) ?_; refine xpL (.bool false) ?_; refine xpL (.bool false) ?_; refine xpL (.bool false) ?_; refine xpL (.bool true) ?_; refine xpL (.bool false) ?_; refine xpL (.bool false) ?_
                  with_reducible refine skipL ?_ ?_
                  · rfl
                  simp only [aP,lI,l0,lS]
                  with_reducible refine skipL ?_ ?_
                  · rfl
                  simp only [aP,lI,l0,lS]
                  with_reducible refine skipL ?_ ?_
                  · rfl
                  simp only [aP,lI,l0,lS]
                  with_reducible refine skipL ?_ ?_
                  · rfl
                  simp only [aP,lI,l0,lS]
                  with_reducible refine skipL ?_ ?_
                  · rfl
                  simp only [aP,lI,l0,lS]
                  with_reducible refine skipL ?_ ?_
                  · rfl
                  simp only [aP,lI,l0,lS]; refine xpL (.bool false) ?_; refine xpL (.bool false) ?_; refine xT ?_; have hk:=show Hid _ from (spk_stay hsv htu (fun h=>by rcases h with h | ⟨hx,_⟩ | ⟨hx,_⟩; exact hb0 h; exact hA hx; exact hA (hx.2 hF))); have HS:=show Hid _ from M.below; clear M; go_wp2
                  go_roundw
                  case rel=>exact ⟨i+1,by omega,by rw [hk.out],by rw [hk.out],by go_num,HS.out⟩
                  case measure=>simp [intOf]; omega
                · go_upto_region 15 with fail
                  have hdr:=(Below.refl w5.heap.size w5).drew; replace M:=M.drew; clear hdr; refine wp_region_held_drew (S:=fun w'=>Below w.heap.size w w') (by kernel_rfl) M.below ?_; intro _; generalize w5.drew=w15 at M ⊢; refine xrH 0 74 rfl (.slice (some ada) a.length ca) (fun _ hS=>(by kernel_rfl)) M.below ?_
                  refine xrH 1 75 rfl (.int .i64 (i:Int)) (fun _ hS=>(by kernel_rfl)) M.below ?_; refine xrH 2 76 rfl (.pointer (some (ada.add i))) (fun _ hS=>idxI21 ada _ _ i hil _ _ rfl rfl rfl _) M.below ?_; refine xrH 3 77 rfl (.int .i64 (bl a i)) (fun _ hS=>load1 3 _ (ada.add i) _ rfl rfl (fun _=>by kernel_rfl) ((Sa.below hS (xnR _)).atE21 rfl hil)) M.below ?_
                  refine xrH 4 78 rfl (.pointer (some ⟨R,0,none⟩)) (fun _ hS=>(by kernel_rfl)) M.below ?_; refine xrH 5 79 rfl (.pointer (some ⟨R,0,none⟩)) (fun _ hS=>(by kernel_rfl)) M.below ?_; refine xrH 6 80 rfl (.pointer (some ⟨R,1,none⟩)) (fun _ hS=>(by kernel_rfl)) M.below ?_
                  refine xrH 7 81 rfl (.int .i64 s.last) (fun _ hS=>load1 3 _ ⟨R,1,none⟩ _ rfl rfl (fun _=>by kernel_rfl) (cell21 hS hR1)) M.below ?_; refine xrH 8 82 rfl (.bool false) (fun _ hS=>gtrI .i64 _ _ _ _ _ _ rfl rfl rfl false (decide_eq_false hA) _) M.below ?_; refine xrH 9 13 rfl (.bool false) (fun _ hS=>(by kernel_rfl)) M.below ?_
                  refine wpAnyH_done (by kernel_rfl) ?_ _
                  first | show Exit.then _ _ _ _ _ | show Exit.inBlock _ _ _ _ _
                  go_upto_region 16 with fail; refine wp_region_list ?_; refine xpL (.int .i64 ((spk s a r i).1)) ?_; refine xpL (.pointer (some ⟨R,0,none⟩)) ?_; refine xpL (.pointer (some ⟨R,0,none⟩)) ?_; refine xpL (.pointer (some ⟨R,1,none⟩)) ?_; refine xaL (.int .i64 s.last) (load1 3 _ ⟨R,1,none⟩ _ rfl rfl (fun _=>by kernel_rfl) (cell21 M.below hR1)) ?_
                  refine xaL (.bool false) (gtrI .i64 _ _ _ _ _ _ rfl rfl rfl false (decide_eq_false hF) _) ?_; refine xpL (.bool false) ?_; refine xT ?_
                  by_cases hL:bl a i<(spk s a r i).1
                  · go_upto_region 17 with fail
                    refine wp_region_list ?_; refine xpL (.int .i64 ((spk s a r i).1)) ?_; refine xaL (.bool false) (lssI .i64 _ _ _ _ _ _ rfl rfl rfl false (decide_eq_false hb0) _) ?_; refine xpL (.bool false) ?_; refine xpL (.bool false) ?_; refine xpL (.bool false) ?_
                    with_reducible refine skipL ?_ ?_
                    · rfl
                    simp only [aP,lI,l0,lS]
                    with_reducible refine skipL ?_ ?_
                    · rfl
                    simp only [aP,lI,l0,lS]; refine xpL (.bool false) ?_; refine xpL (.bool false) ?_; refine xpL (.bool false) ?_; refine xpL (.bool false) ?_; refine xpL (.bool false) ?_; refine xpL (.bool true) ?_; refine xpL (.bool true) ?_; refine xpL (.slice (some ada) a.length ca) ?_; refine xpL (.int .i64 (i:Int)) ?_
                    refine xaL (.pointer (some (ada.add i))) (idxI21 ada _ _ i hil _ _ rfl rfl rfl _) ?_; refine xaL (.int .i64 (bl a i)) (load1 3 _ (ada.add i) _ rfl rfl (fun _=>by kernel_rfl) ((Sa.below M.below (xnR _)).atE21 rfl hil)) ?_; refine xpL (.int .i64 ((spk s a r i).1)) ?_; refine xaL (.bool true) (lssI .i64 _ _ _ _ _ _ rfl rfl rfl true (decide_eq_true hL) _) ?_
                    refine xpL (.bool true) ?_; refine xpL (.bool true) ?_; refine xT ?_; go_upto_region 18 with fail; refine wp_region_list ?_; refine xpL (.slice (some ada) a.length ca) ?_; refine xpL (.int .i64 (i:Int)) ?_; refine xaL (.pointer (some (ada.add i))) (idxI21 ada _ _ i hil _ _ rfl rfl rfl _) ?_
                    refine xaL (.int .i64 (bl a i)) (load1 3 _ (ada.add i) _ rfl rfl (fun _=>by kernel_rfl) ((Sa.below M.below (xnR _)).atE21 rfl hil)) ?_; refine xpL (.int .i64 (bl a i)) ?_; refine xT ?_; have hk:=show Hid _ from (spk_turn hsv htu (.inr (.inr ⟨(⟨fun h=>absurd h hA,fun h=>absurd h hF⟩),hL⟩))); have HS:=show Hid _ from M.below; clear M; go_wp2
                    go_roundw
                    case rel=>exact ⟨i+1,by omega,by rw [hk.out],by rw [hk.out],by go_num,HS.out⟩
                    case measure=>simp [intOf]; omega
                  · go_upto_region 17 with fail
                    refine wp_region_list ?_; refine xpL (.int .i64 ((spk s a r i).1)) ?_; refine xaL (.bool false) (lssI .i64 _ _ _ _ _ _ rfl rfl rfl false (decide_eq_false hb0) _) ?_; refine xpL (.bool false) ?_; refine xpL (.bool false) ?_; refine xpL (.bool false) ?_
                    with_reducible refine skipL ?_ ?_
                    · rfl
                    simp only [aP,lI,l0,lS]
                    with_reducible refine skipL ?_ ?_
                    · rfl
                    simp only [aP,lI,l0,lS]; refine xpL (.bool false) ?_; refine xpL (.bool false) ?_; refine xpL (.bool false) ?_; refine xpL (.bool false) ?_; refine xpL (.bool false) ?_; refine xpL (.bool true) ?_; refine xpL (.bool true) ?_; refine xpL (.slice (some ada) a.length ca) ?_; refine xpL (.int .i64 (i:Int)) ?_
                    refine xaL (.pointer (some (ada.add i))) (idxI21 ada _ _ i hil _ _ rfl rfl rfl _) ?_; refine xaL (.int .i64 (bl a i)) (load1 3 _ (ada.add i) _ rfl rfl (fun _=>by kernel_rfl) ((Sa.below M.below (xnR _)).atE21 rfl hil)) ?_; refine xpL (.int .i64 ((spk s a r i).1)) ?_; refine xaL (.bool false) (lssI .i64 _ _ _ _ _ _ rfl rfl rfl false (decide_eq_false hL) _) ?_
                    refine xpL (.bool false) ?_; refine xpL (.bool false) ?_; refine xT ?_; have hk:=show Hid _ from (spk_stay hsv htu (fun h=>by rcases h with h | ⟨hx,hy⟩ | ⟨_,h⟩; exact hb0 h; exact hA hx; exact hL h)); have HS:=show Hid _ from M.below; clear M; go_wp2
                    go_roundw
                    case rel=>exact ⟨i+1,by omega,by rw [hk.out],by rw [hk.out],by go_num,HS.out⟩
                    case measure=>simp [intOf]; omega
      · rw [decide_eq_false hz] at hsv
        go_upto_region 7 with fail; have hdr:=(Below.refl w2.heap.size w2).drew; replace M:=M.drew; clear hdr; refine wp_region_held_drew (S:=fun w'=>Below w.heap.size w w') (by kernel_rfl) M.below ?_; intro _; generalize w2.drew=w4 at M ⊢; refine xrH 0 27 rfl (.int .i64 ((A.length:Nat):Int)) (fun _ hS=>(by kernel_rfl)) M.below ?_
        refine xrH 1 28 rfl (.bool false) (fun _ hS=>lssI .i64 _ _ _ _ _ _ rfl rfl rfl false (decide_eq_false (by omega)) _) M.below ?_; refine xrH 2 29 rfl (.bool false) (fun _ hS=>(by kernel_rfl)) M.below ?_; refine xrH 3 30 rfl (.pointer (some ⟨R,0,none⟩)) (fun _ hS=>(by kernel_rfl)) M.below ?_; refine xrH 4 31 rfl (.pointer (some ⟨R,0,none⟩)) (fun _ hS=>(by kernel_rfl)) M.below ?_
        refine xrH 5 32 rfl (.pointer (some ⟨R,2,none⟩)) (fun _ hS=>(by kernel_rfl)) M.below ?_; refine xrH 6 33 rfl (.slice sf L.length cf) (fun _ hS=>load1 56 _ ⟨R,2,none⟩ _ rfl rfl (fun _=>by kernel_rfl) (cell21 hS hR2)) M.below ?_; refine xrH 7 34 rfl (.int .i64 ((A.length:Nat):Int)) (fun _ hS=>(by kernel_rfl)) M.below ?_
        refine xrH 8 35 rfl (.pointer (some ⟨g,A.length*5,none⟩)) (fun _ hS=>idxF5 g _ _ A.length sf hg (List.getElem?_eq_some_iff.1 h6).1 _ _ rfl rfl rfl _) M.below ?_; refine xrH 9 36 rfl (.pointer (some ⟨g,A.length*5+4,none⟩)) (fun _ hS=>(by kernel_rfl)) M.below ?_
        refine xrH 10 37 rfl (.slice d.sr d.Z.length d.cr) (fun _ hS=>load1 64 _ ⟨g,A.length*5+4,none⟩ _ rfl rfl (fun _=>by kernel_rfl) (row_cell5 (ownsRow_bel hI.V hS) hg (fcs_get h6 rfl))) M.below ?_; refine xrH 11 38 rfl (.int .i64 ((d.Z.length:Nat):Int)) (fun _ hS=>lenS _ 64 74 d.sr d.Z.length d.cr rfl Try.underlying64 rfl _) M.below ?_
        refine xrH 12 39 rfl (.pointer (some ⟨R,0,none⟩)) (fun _ hS=>(by kernel_rfl)) M.below ?_; refine xrH 13 40 rfl (.pointer (some ⟨R,0,none⟩)) (fun _ hS=>(by kernel_rfl)) M.below ?_; refine xrH 14 41 rfl (.pointer (some ⟨R,2,none⟩)) (fun _ hS=>(by kernel_rfl)) M.below ?_
        refine xrH 15 42 rfl (.slice sf L.length cf) (fun _ hS=>load1 56 _ ⟨R,2,none⟩ _ rfl rfl (fun _=>by kernel_rfl) (cell21 hS hR2)) M.below ?_; refine xrH 16 43 rfl (.int .i64 ((A.length:Nat):Int)) (fun _ hS=>(by kernel_rfl)) M.below ?_
        refine xrH 17 44 rfl (.pointer (some ⟨g,A.length*5,none⟩)) (fun _ hS=>idxF5 g _ _ A.length sf hg (List.getElem?_eq_some_iff.1 h6).1 _ _ rfl rfl rfl _) M.below ?_; refine xrH 18 45 rfl (.pointer (some ⟨g,A.length*5+1,none⟩)) (fun _ hS=>(by kernel_rfl)) M.below ?_
        refine xrH 19 46 rfl (.int .i64 ((d.win:Nat):Int)) (fun _ hS=>load1 3 _ ⟨g,A.length*5+1,none⟩ _ rfl rfl (fun _=>by kernel_rfl) (row_cell5 (ownsRow_bel hI.V hS) hg (fcs_get h6 rfl))) M.below ?_; refine xrH 20 47 rfl (.bool true) (fun _ hS=>geqI .i64 _ _ _ _ _ _ rfl rfl rfl true (decide_eq_true (by omega)) _) M.below ?_
        refine xrH 21 48 rfl (.bool true) (fun _ hS=>(by kernel_rfl)) M.below ?_
        refine wpAnyH_done (by kernel_rfl) ?_ _
        first | show Exit.then _ _ _ _ _ | show Exit.inBlock _ _ _ _ _
        have hk:=show Hid _ from (spk_skip (r:=r) hsv); have HS:=show Hid _ from M.below; clear M; go_wp2
        go_roundw
        case rel=>exact ⟨i+1,by omega,by rw [hk.out],by rw [hk.out],by go_num,HS.out⟩
        case measure=>simp [intOf]; omega
  · obtain rfl:i=a.length:=by omega
    go_upto_region 4 with fail; refine wp_region_list ?_; refine xpL (.int .i64 ((a.length:Nat):Int)) ?_; refine xpL (.slice sa a.length ca) ?_; refine xaL (.int .i64 ((a.length:Nat):Int)) (lenS _ 29 3 sa a.length ca rfl Try.underlying29 rfl _) ?_; refine xaL (.bool false) (lssI .i64 _ _ _ _ _ _ rfl rfl rfl false (decide_eq_false (by omega)) _) ?_; refine xT ?_
    have hnn:spN s a r=(spk s a r a.length).1:=rfl
    by_cases hb0:(spk s a r a.length).1<0
    · go_upto_region 19 with fail
      refine wp_region_list ?_; refine xpL (.int .i64 ((spk s a r a.length).1)) ?_; refine xaL (.bool true) (lssI .i64 _ _ _ _ _ _ rfl rfl rfl true (decide_eq_true hb0) _) ?_; refine xT ?_; go_upto_region 20 with fail; refine wp_region_list ?_; refine xpL (.int .i64 0) ?_; refine xpL (.bool false) ?_; refine xT ?_
      have HE:=show Hid _ from (show spA s a r=0∧spB s a r=false∧spc s a r=s by unfold spA spB spc; rw [hnn]; exact ⟨if_pos hb0,decide_eq_false (by omega),if_pos hb0⟩); have HS:=show Hid _ from (And.intro (hI.below M.below) (And.intro (M0.out.call M.below) (Off.of_below (X:=R::(ob sf++(gf L).map Prod.fst)) M.below))); clear M M0 hI hnn; go_wp2; go_ret2
      rw [HE.out.1,HE.out.2.1,HE.out.2.2]
      exact ⟨rfl,HS.out⟩
    · go_upto_region 19 with fail
      refine wp_region_list ?_; refine xpL (.int .i64 ((spk s a r a.length).1)) ?_; refine xaL (.bool false) (lssI .i64 _ _ _ _ _ _ rfl rfl rfl false (decide_eq_false hb0) _) ?_; refine xT ?_
      have HE:=show Hid _ from (show spA s a r=(spk s a r a.length).1∧spB s a r=true∧spc s a r={ s with last:=(spk s a r a.length).1 } by unfold spA spB spc; rw [hnn]; exact ⟨if_neg hb0,decide_eq_true (by omega),if_neg hb0⟩); have hI2:=hI.below M.below; have OF:=Off.of_below (X:=R::(ob sf++(gf L).map Prod.fst)) M.below
      have MF:Mm w0 ((R,[.int .i64 (dpo s),.int .i64 s.last,.slice sf L.length cf])::(obs sf++(gf L++l))) wr:=M0.out.call M.below
      clear M M0 hI hnn; have M:=MF; clear MF; go_upto_region 21 with fail; refine wp_region_list ?_; refine xpL (.pointer (some ⟨R,0,none⟩)) ?_; refine xpL (.int .i64 ((spk s a r a.length).1)) ?_; refine xpL (.pointer (some ⟨R,0,none⟩)) ?_; refine xpL (.pointer (some ⟨R,1,none⟩)) ?_
      refine skipOpL rfl (storeAny (.int .i64 ((spk s a r a.length).1)) R 1 3 _ _ rfl rfl rfl rfl rfl (M.isSome mS 1 (by simp)) (M.free mS 1 (by simp)) (by kernel_rfl)) ?_; simp only [Act.put]; replace M:=M.set 1 (by simp) (.int .i64 ((spk s a r a.length).1))
      replace OF:=OF.trans (((Off.refl [R] _).set (b:=R) mS 1 (.int .i64 ((spk s a r a.length).1))).mono (fun b_ hb_=>by rw [xm1 hb_]; exact mS))
      replace hI2:=hI2.off ((Off.refl [R] _).set (b:=R) mS 1 (.int .i64 ((spk s a r a.length).1))) (fun b_ hb_=>by obtain rfl:=xm1 hb_; exact M.awayB (fun p_ hp_=>by simp [hp_])) (fun b_ hb_=>by obtain rfl:=xm1 hb_; exact M.awayC (fun p_ hp_=>by simp [hp_])); generalize wr.setCell ⟨R,1,none⟩ (.int .i64 ((spk s a r a.length).1))=w16 at M OF hI2 ⊢
      replace M:Mm w0 ((R,[.int .i64 (dpo s),.int .i64 ((spk s a r a.length).1),.slice sf L.length cf])::(obs sf++(gf L++l))) w16:=M
      refine xT ?_; go_upto_region 22 with fail; refine wp_region_list ?_; refine xpL (.int .i64 ((spk s a r a.length).1)) ?_; refine xpL (.int .i64 ((spk s a r a.length).1)) ?_; refine xpL (.bool true) ?_; refine xT ?_
      have HS:=show Hid _ from (show DIn w16 { s with last:=(spk s a r a.length).1 } L sf cf∧Mm w0 ((R,drc { s with last:=(spk s a r a.length).1 } sf L.length cf)::(obs sf++(gf L++l))) w16∧_ from ⟨hI2.last21 _,M,OF⟩); clear M OF hI2; go_wp2; go_ret2
      rw [HE.out.1,HE.out.2.1,HE.out.2.2]
      exact ⟨rfl,HS.out⟩
end Go.Proofs.Ytmedjdadhmdpgaa
