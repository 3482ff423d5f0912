/- Texts of Fk LawWindowPlays Fl Fm Fn Fq, joined. -/
import Derived.Test.YtglnmmajgedinaaP3WindowPlays
import Derived.Test.YtglnmmajgedinaaP1WindowPlays
set_option maxRecDepth 20000
set_option maxHeartbeats 64000000
namespace Go.Proofs.Ytglnmmajgedinaa
open Go.RowKit
section
def dbk (R : Nat) (L : List Int) (v : Value) : List (Nat × List Value) := (R, [v]) :: (obk v).map (fun g => (g, row .i64 L.length (bl L)))
theorem dbk_fst (R : Nat) (L : List Int) (v : Value) : (dbk R L v).map Prod.fst = R :: obk v := by
  unfold dbk
  rw [List.map_cons, List.map_map]
  congr 1
  exact List.map_id _
def DI (w0 w : World) (u : Value) (L : List Int) (bs : List (Nat × List Value)) : Prop :=
  ∃ R sp cap base, u = .pointer (some ⟨R, 0, none⟩) ∧ bs = dbk R L (.slice sp L.length cap) ∧ w0.heap.size ≤ base ∧ base ≤ w.heap.size ∧ OwnI w base L (.slice sp L.length cap)
section
variable {w0 w w' : World} {u : Value} {L : List Int} {bs l : List (Nat × List Value)} {X : List Nat}
theorem DI.ptr (h : DI w0 w u L bs) : ∃ R, u = .pointer (some ⟨R, 0, none⟩) := by
  obtain ⟨R, _, _, _, e, _⟩ := h
  exact ⟨R, e⟩
theorem DI.off (h : DI w0 w u L bs) (o : Off X w w') (hX : ∀ b ∈ X, b ∉ bs.map Prod.fst) : DI w0 w' u L bs := by
  obtain ⟨R, sp, cap, base, rfl, rfl, h1, h2, O⟩ := h
  refine ⟨R, sp, cap, base, rfl, rfl, h1, Nat.le_trans h2 o.size, ownsRow_off O o fun b hb e => hX b hb ?_⟩
  rw [dbk_fst]
  exact mT _ (obk_mem e)
theorem DI.below (h : DI w0 w u L bs) (b : Below w.heap.size w w') : DI w0 w' u L bs := h.off (X := []) (Off.of_below b) (fun _ hb => by cases hb)
theorem DI.nil {R : Nat} (h : w0.heap.size ≤ w.heap.size) : DI w0 w (.pointer (some ⟨R, 0, none⟩)) [] [(R, [.slice none 0 0])] :=
  ⟨R, none, 0, w.heap.size, rfl, rfl, h, Nat.le_refl _, ⟨rfl, .inl ⟨rfl, rfl⟩⟩⟩
theorem Mm.away {x g t : List (Nat × List Value)} (h : Mm w0 (g ++ t) w) (hs : ∀ p ∈ x, p ∈ t) : ∀ b ∈ g.map Prod.fst, b ∉ x.map Prod.fst := fun b hb hx => by
  obtain ⟨p, hp, rfl⟩ := List.mem_map.1 hx
  exact h.beside (hs p hp) hb
theorem Mm.own {R base : Nat} {v : Value} (h : Mm w0 ((R, [v]) :: l) w) (O : OwnI w base L v) (h0 : w0.heap.size ≤ base) (hne : ∀ g, v.ownBlock = some g → ∀ p ∈ ((R, [v]) :: l), p.1 ≠ g) : Mm w0 (dbk R L v ++ l) w := by
  unfold dbk obk
  cases hb : v.ownBlock with
  | none => exact h
  | some g => exact (h.ofRow O hb h0 (hne g hb)).swap
theorem DI.parts (h : DI w0 w u L bs) (hW : WinL L) (hL : L.length < 1000000) (M : Mm w0 (bs ++ l) w) : ∃ R sp cap base, u = .pointer (some ⟨R, 0, none⟩) ∧ bs = dbk R L (.slice sp L.length cap) ∧ w0.heap.size ≤ base ∧ base ≤ w.heap.size ∧ OwnI w base L (.slice sp L.length cap) ∧ WinI w sp L ∧ Mm w0 ((R, [.slice sp L.length cap]) :: l) w ∧ ∀ g, (Value.slice sp L.length cap).ownBlock = some g → ∀ p ∈ ((R, [Value.slice sp L.length cap]) :: l), p.1 ≠ g := by
  obtain ⟨R, sp, cap, base, rfl, rfl, h1, h2, O⟩ := h
  refine ⟨R, sp, cap, base, rfl, rfl, h1, h2, O, ⟨?_, by omega, hW⟩, M.sub _ (List.Sublist.cons_cons _ (List.sublist_append_right _ l)), fun g hg p hp e => ?_⟩
  · obtain ⟨sp', c', e, hs⟩ := O.slice
    injection e with e1 _ _
    subst e1
    exact hs
  · have ha := M.apart
    unfold dbk obk at ha
    rw [hg] at ha
    have h1 := List.pairwise_cons.1 ha
    rcases List.mem_cons.1 hp with rfl | hp
    · exact h1.1 (g, _) mS e
    · exact (List.pairwise_cons.1 h1.2).1 p hp e.symm
end
section
variable (w0 w : World) (u : Value) (L : List Int) (bs l : List (Nat × List Value))
theorem dtop (hW : WinL L) (hL : L.length < 1000000) (h : DI w0 w u L bs) (M : Mm w0 (bs ++ l) w) :
    Calls Try.prog 16 #[u] w fun e w' => e = .returned (.int .i64 (wtop L)) ∧ Below w.heap.size w w' := by
  obtain ⟨R, sp, cap, base, rfl, rfl, _, _, _, hI, M1, _⟩ := h.parts hW hL M
  exact rtop_any w0 w R l L sp cap hI M1
theorem dcnt (hW : WinL L) (hL : L.length < 1000000) (h : DI w0 w u L bs) (M : Mm w0 (bs ++ l) w) :
    Calls Try.prog 18 #[u] w fun e w' => e = .returned (.int .i64 ((wcnt L : Nat) : Int)) ∧ Below w.heap.size w w' := by
  obtain ⟨R, sp, cap, base, rfl, rfl, _, _, _, hI, M1, _⟩ := h.parts hW hL M
  exact rcount_any w0 w R l L sp cap hI M1
theorem dchk (n : Int) (hW : WinL L) (hL : L.length < 1000000) (h : DI w0 w u L bs) (M : Mm w0 (bs ++ l) w) :
    Calls Try.prog 14 #[u, .int .i64 n] w fun e w' => e = .returned (.int .i64 (wchk L n)) ∧ Below w.heap.size w w' := by
  obtain ⟨R, sp, cap, base, rfl, rfl, _, _, _, hI, M1, _⟩ := h.parts hW hL M
  exact rcheck14_any w0 w R l L sp cap n hI M1
theorem dbel (most : Int) (hW : WinL L) (hL : L.length < 1000000) (h : DI w0 w u L bs) (M : Mm w0 (bs ++ l) w) :
    Calls Try.prog 20 #[u, .int .i64 most] w fun e w' => (∃ v, e = .returned v ∧ NewW w' w.heap.size (wbel L most) v) ∧ Below w.heap.size w w' := by
  obtain ⟨R, sp, cap, base, rfl, rfl, _, _, _, hI, M1, _⟩ := h.parts hW hL M
  exact rbelow14_any w0 w R l L sp cap most hI M1
theorem dmrk (n : Int) (hW : WinL L) (hL : L.length < 1000000) (h : DI w0 w u L bs) (M : Mm w0 (bs ++ l) w) :
    Calls Try.prog 12 #[u, .int .i64 n] w fun e w' => e = .returned (.int .i64 (wchk L n)) ∧ ∃ bs', DI w0 w' u (wmk L n) bs' ∧ (∀ p ∈ bs', p.1 ∈ bs.map Prod.fst ∨ w.heap.size ≤ p.1) ∧ Mm w0 (bs' ++ l) w' ∧ Off (bs.map Prod.fst) w w' := by
  obtain ⟨R, sp, cap, base, rfl, rfl, h1, h2, O, hI, M1, hsep⟩ := h.parts hW hL M
  refine (rmark14_any w0 w R l L sp cap n base h2 h1 (by omega) hI O hsep M1).mono fun e w' ⟨he, sp', cap', M', O', hown, off⟩ => ⟨he, dbk R (wmk L n) (.slice sp' (wmk L n).length cap'), ⟨R, sp', cap', base, rfl, rfl, h1, Nat.le_trans h2 off.size, O'⟩, fun p hp => ?_, M'.own O' h1 fun g hg p hp e => ?_, by rw [dbk_fst]; exact off⟩
  · have hp' : p.1 ∈ (dbk R (wmk L n) (.slice sp' (wmk L n).length cap')).map Prod.fst := List.mem_map_of_mem hp
    rw [dbk_fst] at hp' ⊢
    rcases List.mem_cons.1 hp' with e1 | e1
    · exact .inl (by rw [e1]; exact mS)
    · unfold obk at e1
      cases hb : (Value.slice sp' (wmk L n).length cap').ownBlock with
      | none => rw [hb] at e1; cases e1
      | some g =>
        rw [hb] at e1
        have e2 := List.mem_singleton.1 e1
        rcases hown g hb with e3 | e3
        · exact .inl (mT _ (by rw [e2]; exact obk_mem e3))
        · exact .inr (by omega)
  · rcases hown g hg with e3 | e3
    · rcases List.mem_cons.1 hp with rfl | hp
      · exact hsep g e3 _ mS e
      · exact hsep g e3 p (mT _ hp) e
    · rcases List.mem_cons.1 hp with rfl | hp
      · have := M1.lt mS
        simp only at e
        omega
      · have := (M1.rows p (mT _ hp)).2.2
        omega
theorem dcln (hW : WinL L) (hL : L.length < 1000000) (h : DI w0 w u L bs) (M : Mm w0 (bs ++ l) w) :
    Calls Try.prog 10 #[u] w fun e w' => ∃ u' bs', e = .returned u' ∧ DI w0 w' u' L bs' ∧ (∀ p ∈ bs', w.heap.size ≤ p.1) ∧ Mm w0 (bs' ++ (bs ++ l)) w' ∧ Below w.heap.size w w' := by
  obtain ⟨R, sp, cap, base, rfl, rfl, h1, h2, O, hI, M1, hsep⟩ := h.parts hW hL M
  refine (rclone14_any w0 w R ((obk (.slice sp L.length cap)).map (fun g => (g, row .i64 L.length (bl L))) ++ l) L sp cap O.nilCap hI M).mono fun e w' ⟨Q, sp', cap', he, hQ, M', O', hgQ, hB⟩ => ⟨_, dbk Q L (.slice sp' L.length cap'), he, ⟨Q, sp', cap', w.heap.size, rfl, rfl, M.below.size, hB.size, O'⟩, fun p hp => ?_, M'.own O' M.below.size fun g hg p hp e => ?_, hB⟩
  · have hp' : p.1 ∈ (dbk Q L (.slice sp' L.length cap')).map Prod.fst := List.mem_map_of_mem hp
    rw [dbk_fst] at hp'
    rcases List.mem_cons.1 hp' with e1 | e1
    · omega
    · unfold obk at e1
      cases hb : (Value.slice sp' L.length cap').ownBlock with
      | none => rw [hb] at e1; cases e1
      | some g =>
        rw [hb] at e1
        have e2 := List.mem_singleton.1 e1
        have := (World.ownsRow.lt O' g hb).1
        omega
  · have hge := (World.ownsRow.lt O' g hg).1
    rcases List.mem_cons.1 hp with rfl | hp
    · exact hgQ g hg e.symm
    · have := (M.rows p hp).2.2
      omega
end
theorem NewW.rng {w : World} {base : Nat} {l : List (Int × Int)} {ad : Addr} {cap : Nat} (h : NewW w base l (.slice (some ad) l.length cap)) {i : Nat} {p : Int × Int} (hi : l[i]? = some p) : ∀ j u, [Value.int .i64 p.1, Value.int .i64 p.2][j]? = some u → w.cell? ((ad.add (i * 2)).add j) = some u := by
  obtain ⟨ad', e, h0, h1⟩ := h.at hi
  injection e with e
  subst e
  intro j u hu
  rcases j with _ | _ | j
  · obtain rfl := Option.some.inj hu; exact h0
  · obtain rfl := Option.some.inj hu; exact h1
  · cases hu
theorem neqRg {o : Oper} {a : Act} (f g : Int) (x y : Operand) (ho : o.op = .binOp .neq 36 x y 36) (hx : a.eval x = .agg #[.int .i64 f, .int .i64 g]) (hy : a.eval y = .agg #[.int .i64 f, .int .i64 g]) (w : World) :
    (execOp a.eval o).run Try.prog w = .ok (.value (.bool false)) w := by
  have e1 : (binOp .neq 36 (.agg #[.int .i64 f, .int .i64 g]) (.agg #[.int .i64 f, .int .i64 g])).run Try.prog w = .ok (.bool false) w := by
    rw [run_neq_struct, eqRange]
    rfl
  unfold execOp
  simp only [ho, hx, hy, Sem.run_bind, run_eqGuard_agg (P := Try.prog) w .neq 36 x y _ _ (by kernel_rfl), Result.andThen_ok, e1, Sem.run_pure]
end
theorem wbl_len (L : List Int) (most : Int) : ∀ (k : Nat) (l : List (Int × Int)) (last : Int), (wbl L most k l last).length ≤ l.length + k
  | 0, l, _ => Nat.le_refl _
  | k + 1, l, last => by
    unfold wbl
    split
    · omega
    · cases h : wput most (wnx L last) l with
      | none => simp only; omega
      | some l' =>
        have h1 := wput_len h
        have h2 := wbl_len L most k l' (wnx L last)
        simp only
        omega
theorem wbel_len (L : List Int) (most : Int) : (wbel L most).length ≤ L.length + 1 := by
  have := wbl_len L most (L.length + 1) [] (wtop L)
  unfold wbel
  rw [List.length_nil] at this
  omega
theorem law_WindowPlays {I : Value → List Int → List (Nat × List Value) → Prop} (hK : WinOK I) (hC : WinCl I) (sp : Option Addr) (cap : Nat) (l : List Int) (_hnl : l.length ≤ 140737488351232) (_hcl : l.length ≤ cap) (hl : ∀ x ∈ l, i64 x) (sq : Option Addr) (cq : Nat) (asks : List Int) (_hnasks : asks.length ≤ 140737488351232) (_hcasks : asks.length ≤ cq) (hla : ∀ x ∈ asks, i64 x) (most : Int) (hmo : i64 most) (w0 : World) (hs : SrcI w0 sp l.length (bl l)) (hsa : SrcI w0 sq asks.length (bl asks)) :
    Calls Try.prog 3 #[.slice sp l.length cap, .slice sq asks.length cq, .int .i64 most] w0 fun e w' => e = .returned (.bool true) ∧ Below w0.heap.size w0 w' := by
  have M := Mm.init w0
  go_enter Try.func3, Try.ntmps3
  have hL0 : ([] : List Int).length < 1000000 := by decide
  go_upto_region 0 with fail
  refine wp_region_list ?_
  refine readL (.bool false) rfl (by kernel_rfl) ?_
  simp only [aP, lI, l0, lS]
  first | show Exit.then _ _ _ _ _ | show Exit.inBlock _ _ _ _ _
  go_upto_region 1 with fail
  refine wp_region_list ?_
  refine callL rfl (fun _ => by kernel_rfl) (shown14_any hK _) ?_
  rintro e w1 ⟨rfl, l⟩
  replace M := M.call l
  clear l
  refine ⟨_, rfl, ?_⟩
  simp only [aP, lI, l0, lS]
  refine readL (.bool true) rfl (by kernel_rfl) ?_
  simp only [aP, lI, l0, lS]
  first | show Exit.then _ _ _ _ _ | show Exit.inBlock _ _ _ _ _
  go_upto_region 2 with fail
  refine wp_region_list ?_
  have key := hK.new w0 _ _ M
  refine callL rfl (fun _ => by kernel_rfl) key ?_
  clear key
  rintro e w2 ⟨v_, ba0, rfl, hIa, M', l⟩
  obtain ⟨Ra, rfl⟩ := hK.ptr _ _ _ hIa
  clear M
  have M := M'.perm (pull0 ([] : List (Nat × List Value)) ba0 ([] : List (Nat × List Value))).symm
  clear M'
  clear l
  replace M : Mm w0 ((ba0 ++ ([] : List (Nat × List Value)))) w2 := M
  refine ⟨_, rfl, ?_⟩
  simp only [aP, lI, l0, lS]
  refine readL (.pointer (some ⟨Ra, 0, none⟩)) rfl (by kernel_rfl) ?_
  simp only [aP, lI, l0, lS]
  first | show Exit.then _ _ _ _ _ | show Exit.inBlock _ _ _ _ _
  go_upto_region 3 with fail
  refine wp_region_list ?_
  refine readL (.agg #[.slice none 0 0]) rfl (by kernel_rfl) ?_
  simp only [aP, lI, l0, lS]
  refine actL (w' := w2.alloc (.cells #[.slice none 0 0] 28)) (.pointer (some ⟨w2.heap.size, 0, none⟩)) rfl (by kernel_rfl) ?_
  simp only [aP, lI, l0, lS]
  have hB_B3 : w0.heap.size ≤ w2.heap.size := M.below.size
  replace M := M.box #[.slice none 0 0] 28 w2.heap.size rfl
  generalize w2.alloc (.cells #[.slice none 0 0] 28) = w3 at M  ⊢
  generalize eB : w2.heap.size = B3 at M hB_B3  ⊢
  have hE_B3 : w2.heap.size ≤ B3 := Nat.le_of_eq eB
  have hF_B3 : B3 ≤ w2.heap.size := Nat.le_of_eq eB.symm
  clear eB
  replace M : Mm w0 ((B3, [.slice none 0 0]) :: (ba0 ++ ([] : List (Nat × List Value)))) w3 := M
  obtain ⟨by0, D_y, M'⟩ : ∃ by0, DI w0 w3 (.pointer (some ⟨B3, 0, none⟩)) [] by0 ∧ Mm w0 (by0 ++ (ba0 ++ ([] : List (Nat × List Value)))) w3 := ⟨_, DI.nil M.below.size, M⟩
  clear M
  have M := M'
  clear M'
  refine readL (.pointer (some ⟨B3, 0, none⟩)) rfl (by kernel_rfl) ?_
  simp only [aP, lI, l0, lS]
  first | show Exit.then _ _ _ _ _ | show Exit.inBlock _ _ _ _ _
  go_upto_region 4 with fail
  refine wp_region_list ?_
  refine readL (.bool true) rfl (by kernel_rfl) ?_
  simp only [aP, lI, l0, lS]
  refine readL (.bool false) rfl (by kernel_rfl) ?_
  simp only [aP, lI, l0, lS]
  refine readL (.bool false) rfl (by kernel_rfl) ?_
  simp only [aP, lI, l0, lS]
  refine readL (.pointer (some ⟨Ra, 0, none⟩)) rfl (by kernel_rfl) ?_
  simp only [aP, lI, l0, lS]
  refine readL (.bool false) rfl (by kernel_rfl) ?_
  simp only [aP, lI, l0, lS]
  refine readL (.bool false) rfl (by kernel_rfl) ?_
  simp only [aP, lI, l0, lS]
  first | show Exit.then _ _ _ _ _ | show Exit.inBlock _ _ _ _ _
  go_upto_region 6 with fail
  refine wp_region_list ?_
  refine readL (.pointer (some ⟨Ra, 0, none⟩)) rfl (by kernel_rfl) ?_
  simp only [aP, lI, l0, lS]
  have Mp := M.perm (pull1 ([] : List (Nat × List Value)) by0 ba0 ([] : List (Nat × List Value)))
  have key := hC w0 _ _ ([]) ba0 _ winL_nil hIa Mp
  clear Mp
  refine callL rfl (fun _ => by kernel_rfl) key ?_
  clear key
  rintro e w4 ⟨v_, bc4c, rfl, hI_, -, M', l⟩
  replace D_y := DI.below D_y l
  clear l M
  have hIc := hI_
  clear hI_
  obtain ⟨Rbc4c, rfl⟩ := hK.ptr _ _ _ hIc
  have M : Mm w0 ((bc4c ++ (ba0 ++ (by0 ++ ([] : List (Nat × List Value)))))) w4 := M'
  clear M'
  refine ⟨_, rfl, ?_⟩
  simp only [aP, lI, l0, lS]
  refine readL (.pointer (some ⟨Rbc4c, 0, none⟩)) rfl (by kernel_rfl) ?_
  simp only [aP, lI, l0, lS]
  first | show Exit.then _ _ _ _ _ | show Exit.inBlock _ _ _ _ _
  go_upto_region 7 with fail
  refine wp_region_list ?_
  refine readL (.pointer (some ⟨B3, 0, none⟩)) rfl (by kernel_rfl) ?_
  simp only [aP, lI, l0, lS]
  have Mp := M.perm (pull2 ([] : List (Nat × List Value)) bc4c ba0 by0 ([] : List (Nat × List Value)))
  have key := dcln w0 _ _ ([]) by0 _ winL_nil (by omega) D_y Mp
  clear Mp
  refine callL rfl (fun _ => by kernel_rfl) key ?_
  clear key
  rintro e w5 ⟨v_, bd5c, rfl, hI_, -, M', l⟩
  replace D_y := DI.below D_y l
  clear l M
  have D_d := hI_
  clear hI_
  obtain ⟨Rbd5c, rfl⟩ := DI.ptr D_d
  have M : Mm w0 ((bd5c ++ (by0 ++ (bc4c ++ (ba0 ++ ([] : List (Nat × List Value))))))) w5 := M'
  clear M'
  refine ⟨_, rfl, ?_⟩
  simp only [aP, lI, l0, lS]
  refine readL (.pointer (some ⟨Rbd5c, 0, none⟩)) rfl (by kernel_rfl) ?_
  simp only [aP, lI, l0, lS]
  first | show Exit.then _ _ _ _ _ | show Exit.inBlock _ _ _ _ _
  go_upto_region 8 with fail
  refine wp_region_list ?_
  refine readL (.int .i64 0) rfl (by kernel_rfl) ?_
  simp only [aP, lI, l0, lS]
  first | show Exit.then _ _ _ _ _ | show Exit.inBlock _ _ _ _ _
  have HI := show Hid _ from (show WinL ([] : List Int) ∧ WinL ([] : List Int) ∧ (([] : List Int)).length ≤ 0 ∧ (([] : List Int)).length ≤ 0 ∧ I (.pointer (some ⟨Ra, 0, none⟩)) ([] : List Int) ba0 ∧ I (.pointer (some ⟨Rbc4c, 0, none⟩)) ([] : List Int) bc4c ∧ DI w0 w5 (.pointer (some ⟨B3, 0, none⟩)) ([] : List Int) by0 ∧ DI w0 w5 (.pointer (some ⟨Rbd5c, 0, none⟩)) ([] : List Int) bd5c ∧ Mm w0 (bd5c ++ (by0 ++ (bc4c ++ (ba0 ++ ([] : List (Nat × List Value)))))) w5 from ⟨winL_nil, winL_nil, Nat.le_refl _, Nat.le_refl _, hIa, hIc, D_y, D_d, M⟩)
  clear M hIa hIc D_y D_d
  go_wp2
  go_loopw [10, 11, 12] (fun c d i w' => ∃ (q : Nat) (L K : List Int) (gd gy gc ga : List (Nat × List Value)), q ≤ 150 ∧ q ≤ l.length ∧ i = .int .i64 (q : Int) ∧ WinL L ∧ WinL K ∧ (L).length ≤ q ∧ (K).length ≤ q ∧ I (.pointer (some ⟨Ra, 0, none⟩)) L ga ∧ I c K gc ∧ DI w0 w' (.pointer (some ⟨B3, 0, none⟩)) L gy ∧ DI w0 w' d K gd ∧ Mm w0 (gd ++ (gy ++ (gc ++ (ga ++ ([] : List (Nat × List Value)))))) w') (fun _ _ i _ => l.length - (intOf i).toNat)
  case atStart => exact ⟨0, _, _, _, _, _, _, by omega, by omega, rfl, HI.out⟩
  case round =>
    clear HI
    obtain ⟨q, L, K, gd, gy, gc, ga, hq, hq2, rfl, hW, hV, hLn, hKn, hIa, hIc, D_y, D_d, M⟩ := hrel
    obtain ⟨Rc, rfl⟩ := hK.ptr _ _ _ hIc
    obtain ⟨Rd, rfl⟩ := DI.ptr D_d
    go_upto_region 9 with fail
    refine wp_region_list ?_
    refine readL (.int .i64 (q : Int)) rfl (by kernel_rfl) ?_
    simp only [aP, lI, l0, lS]
    refine readL (.slice sp l.length cap) rfl (by kernel_rfl) ?_
    simp only [aP, lI, l0, lS]
    refine readL (.int .i64 ((l.length : Nat) : Int)) rfl (lenS _ 22 3 sp l.length cap rfl Try.underlying22 rfl _) ?_
    simp only [aP, lI, l0, lS]
    obtain ⟨b1, hb1⟩ : ∃ y_, y_ = (decide ((q : Int) < ((l.length : Nat) : Int))) := ⟨_, rfl⟩
    refine readL (.bool b1) rfl (lssI .i64 _ _ _ _ _ _ rfl rfl rfl b1 hb1.symm _) ?_
    simp only [aP, lI, l0, lS]
    refine readL (.bool b1) rfl (by kernel_rfl) ?_
    simp only [aP, lI, l0, lS]
    refine mayL (b1) (.int .i64 (q : Int)) ((bif b1 then (.int .i64 (q : Int)) else undef)) (by cases b1 <;> rfl) (by cases b1 <;> rfl) (fun hc => by cases b1 <;> first | (cases hc; done) | kernel_rfl) ?_
    simp only [aP, lI, l0, lS]
    obtain ⟨b2, hb2⟩ : ∃ y_, y_ = (decide ((q : Int) < 150)) := ⟨_, rfl⟩
    refine mayL (b1) (.bool b2) ((bif b1 then (.bool b2) else undef)) (by cases b1 <;> rfl) (by cases b1 <;> rfl) (fun hc => by cases b1 <;> first | (cases hc; done) | exact (lssI .i64 _ _ _ _ _ _ rfl rfl rfl b2 hb2.symm _)) ?_
    simp only [aP, lI, l0, lS]
    obtain ⟨b3, hb3⟩ : ∃ y_, y_ = (b1 && b2) := ⟨_, rfl⟩
    refine readL (.bool b3) rfl (by subst hb3; cases b1 <;> rfl) ?_
    simp only [aP, lI, l0, lS]
    first | show Exit.then _ _ _ _ _ | show Exit.inBlock _ _ _ _ _
    cases b3 with
    | true =>
      have hlt_l : q < l.length ∧ q < 150 := by
        simp only [hb1, hb2] at hb3
        simp at hb3
        omega
      try clear hb1
      try clear hb2
      try clear hb3
      obtain ⟨hlt_l, hlt2⟩ := hlt_l
      have hLn2 := wmk_len L (bl l q)
      obtain ⟨adl, rfl, _⟩ := hs q hlt_l
      go_upto_region 11 with fail
      refine wp_region_held_drew (S := fun w' => Below w0.heap.size w0 w') (by kernel_rfl) M.drew.below ?_
      intro _
      replace M := M.drew
      have hdr := (Below.refl wr.heap.size wr).drew
      replace D_y := DI.below D_y hdr
      replace D_d := DI.below D_d hdr
      clear hdr
      generalize wr.drew = w6 at M D_y D_d ⊢
      refine readHg (i := 0) (some 40) rfl (.pointer (some ⟨Ra, 0, none⟩)) rfl rfl (fun _ hS => (by kernel_rfl)) M.below ?_
      simp only [aP, lI, l0, lS]
      refine readHg (i := 1) (some 41) rfl (.slice (some adl) l.length cap) rfl rfl (fun _ hS => (by kernel_rfl)) M.below ?_
      simp only [aP, lI, l0, lS]
      refine readHg (i := 2) (some 42) rfl (.int .i64 (q : Int)) rfl rfl (fun _ hS => (by kernel_rfl)) M.below ?_
      simp only [aP, lI, l0, lS]
      refine readHg (i := 3) (some 43) rfl (.pointer (some (adl.add q))) rfl rfl (fun _ hS => idxSl 22 3 l.length cap .i64 adl q _ _ Try.underlying22 (fun _ => by kernel_rfl) hlt_l rfl rfl rfl _) M.below ?_
      simp only [aP, lI, l0, lS]
      refine readHg (i := 4) (some 44) rfl (.int .i64 (bl l q)) rfl rfl (fun _ hS => load1 3 _ (adl.add q) _ rfl rfl (fun _ => by kernel_rfl) ((hs.below hS (Nat.le_refl _)).at q hlt_l)) M.below ?_
      simp only [aP, lI, l0, lS]
      refine readHg (i := 6) (some 46) rfl (.pointer (some ⟨B3, 0, none⟩)) rfl rfl (fun _ hS => (by kernel_rfl)) M.below ?_
      simp only [aP, lI, l0, lS]
      refine readHg (i := 7) (some 47) rfl (.slice (some adl) l.length cap) rfl rfl (fun _ hS => (by kernel_rfl)) M.below ?_
      simp only [aP, lI, l0, lS]
      refine readHg (i := 8) (some 48) rfl (.int .i64 (q : Int)) rfl rfl (fun _ hS => (by kernel_rfl)) M.below ?_
      simp only [aP, lI, l0, lS]
      refine readHg (i := 9) (some 49) rfl (.pointer (some (adl.add q))) rfl rfl (fun _ hS => idxSl 22 3 l.length cap .i64 adl q _ _ Try.underlying22 (fun _ => by kernel_rfl) hlt_l rfl rfl rfl _) M.below ?_
      simp only [aP, lI, l0, lS]
      refine readHg (i := 10) (some 50) rfl (.int .i64 (bl l q)) rfl rfl (fun _ hS => load1 3 _ (adl.add q) _ rfl rfl (fun _ => by kernel_rfl) ((hs.below hS (Nat.le_refl _)).at q hlt_l)) M.below ?_
      simp only [aP, lI, l0, lS]
      have Mp := M.perm (pull3 ([] : List (Nat × List Value)) gd gy gc ga ([] : List (Nat × List Value)))
      have key := hK.mrk w0 _ _ L ga _ (bl l q) hW (by omega) (hl _ (bl_mem hlt_l)) hIa Mp
      refine callH (i := 5) (some 45) rfl (by kernel_rfl) rfl rfl (fun _ => by kernel_rfl) key ?_
      clear key
      rintro e w7 ⟨rfl, ba1, hI_, -, M', o1⟩
      replace D_y := DI.off D_y o1 (Mp.away (fun p hp => by simp [hp]))
      replace D_d := DI.off D_d o1 (Mp.away (fun p hp => by simp [hp]))
      clear o1 Mp M hIa
      have hIa := hI_
      clear hI_
      have M : Mm w0 ((gd ++ (gy ++ (gc ++ (ba1 ++ ([] : List (Nat × List Value))))))) w7 := M'.perm (pull3 ([] : List (Nat × List Value)) gd gy gc ba1 ([] : List (Nat × List Value))).symm
      clear M'
      refine ⟨_, rfl, M.below, ?_⟩
      simp only [aP, lI, l0, lS]
      have Mp := M.perm (pull1 ([] : List (Nat × List Value)) gd gy (gc ++ (ba1 ++ ([] : List (Nat × List Value)))))
      have key := dmrk w0 _ _ L gy _ (bl l q) hW (by omega) D_y Mp
      refine callH (i := 11) (some 51) rfl (by kernel_rfl) rfl rfl (fun _ => by kernel_rfl) key ?_
      clear key
      rintro e w8 ⟨rfl, by1, hI_, -, M', o1⟩
      replace D_d := DI.off D_d o1 (Mp.away (fun p hp => by simp [hp]))
      clear o1 Mp M D_y
      have D_y := hI_
      clear hI_
      have M : Mm w0 ((gd ++ (by1 ++ (gc ++ (ba1 ++ ([] : List (Nat × List Value))))))) w8 := M'.perm (pull1 ([] : List (Nat × List Value)) gd by1 (gc ++ (ba1 ++ ([] : List (Nat × List Value))))).symm
      clear M'
      refine ⟨_, rfl, M.below, ?_⟩
      simp only [aP, lI, l0, lS]
      refine readHg (i := 12) (some 52) rfl (.bool false) rfl rfl (fun _ hS => neqI .i64 _ _ _ _ _ _ rfl rfl rfl false (by simp) _) M.below ?_
      simp only [aP, lI, l0, lS]
      refine readHg (i := 13) (some 53) rfl (.bool false) rfl rfl (fun _ hS => (by kernel_rfl)) M.below ?_
      simp only [aP, lI, l0, lS]
      refine readHg (i := 14) (some 54) rfl (.pointer (some ⟨Rc, 0, none⟩)) rfl rfl (fun _ hS => (by kernel_rfl)) M.below ?_
      simp only [aP, lI, l0, lS]
      refine readHg (i := 15) (some 55) rfl (.bool false) rfl rfl (fun _ hS => (by kernel_rfl)) M.below ?_
      simp only [aP, lI, l0, lS]
      refine readHg (i := 16) (some 56) rfl (.bool false) rfl rfl (fun _ hS => (by kernel_rfl)) M.below ?_
      simp only [aP, lI, l0, lS]
      refine wpAnyH_done (by kernel_rfl) ?_ _
      first | show Exit.then _ _ _ _ _ | show Exit.inBlock _ _ _ _ _
      by_cases hlt_asks : q < asks.length
      · obtain ⟨adasks, rfl, _⟩ := hsa q hlt_asks
        go_upto_region 13 with fail
        refine wp_region_held_drew (S := fun w' => Below w0.heap.size w0 w') (by kernel_rfl) M.drew.below ?_
        intro _
        replace M := M.drew
        have hdr := (Below.refl w8.heap.size w8).drew
        replace D_y := DI.below D_y hdr
        replace D_d := DI.below D_d hdr
        clear hdr
        generalize w8.drew = w9 at M D_y D_d ⊢
        refine readHg (i := 0) (some 57) rfl (.int .i64 (q : Int)) rfl rfl (fun _ hS => (by kernel_rfl)) M.below ?_
        simp only [aP, lI, l0, lS]
        refine readHg (i := 1) (some 58) rfl (.slice (some adasks) asks.length cq) rfl rfl (fun _ hS => (by kernel_rfl)) M.below ?_
        simp only [aP, lI, l0, lS]
        refine readHg (i := 2) (some 59) rfl (.int .i64 ((asks.length : Nat) : Int)) rfl rfl (fun _ hS => lenS _ 22 3 (some adasks) asks.length cq rfl Try.underlying22 rfl _) M.below ?_
        simp only [aP, lI, l0, lS]
        refine readHg (i := 3) (some 60) rfl (.bool true) rfl rfl (fun _ hS => lssI .i64 _ _ _ _ _ _ rfl rfl rfl true (decide_eq_true (by omega)) _) M.below ?_
        simp only [aP, lI, l0, lS]
        refine readHg (i := 4) (some 61) rfl (.bool true) rfl rfl (fun _ hS => (by kernel_rfl)) M.below ?_
        simp only [aP, lI, l0, lS]
        refine readHg (i := 5) (some 62) rfl (.pointer (some ⟨Ra, 0, none⟩)) rfl rfl (fun _ hS => (by kernel_rfl)) M.below ?_
        simp only [aP, lI, l0, lS]
        refine readHg (i := 6) (some 63) rfl (.slice (some adasks) asks.length cq) rfl rfl (fun _ hS => (by kernel_rfl)) M.below ?_
        simp only [aP, lI, l0, lS]
        refine readHg (i := 7) (some 64) rfl (.int .i64 (q : Int)) rfl rfl (fun _ hS => (by kernel_rfl)) M.below ?_
        simp only [aP, lI, l0, lS]
        refine readHg (i := 8) (some 65) rfl (.pointer (some (adasks.add q))) rfl rfl (fun _ hS => idxSl 22 3 asks.length cq .i64 adasks q _ _ Try.underlying22 (fun _ => by kernel_rfl) hlt_asks rfl rfl rfl _) M.below ?_
        simp only [aP, lI, l0, lS]
        refine readHg (i := 9) (some 66) rfl (.int .i64 (bl asks q)) rfl rfl (fun _ hS => load1 3 _ (adasks.add q) _ rfl rfl (fun _ => by kernel_rfl) ((hsa.below hS (Nat.le_refl _)).at q hlt_asks)) M.below ?_
        simp only [aP, lI, l0, lS]
        refine readHg (i := 11) (some 68) rfl (.pointer (some ⟨B3, 0, none⟩)) rfl rfl (fun _ hS => (by kernel_rfl)) M.below ?_
        simp only [aP, lI, l0, lS]
        refine readHg (i := 12) (some 69) rfl (.slice (some adasks) asks.length cq) rfl rfl (fun _ hS => (by kernel_rfl)) M.below ?_
        simp only [aP, lI, l0, lS]
        refine readHg (i := 13) (some 70) rfl (.int .i64 (q : Int)) rfl rfl (fun _ hS => (by kernel_rfl)) M.below ?_
        simp only [aP, lI, l0, lS]
        refine readHg (i := 14) (some 71) rfl (.pointer (some (adasks.add q))) rfl rfl (fun _ hS => idxSl 22 3 asks.length cq .i64 adasks q _ _ Try.underlying22 (fun _ => by kernel_rfl) hlt_asks rfl rfl rfl _) M.below ?_
        simp only [aP, lI, l0, lS]
        refine readHg (i := 15) (some 72) rfl (.int .i64 (bl asks q)) rfl rfl (fun _ hS => load1 3 _ (adasks.add q) _ rfl rfl (fun _ => by kernel_rfl) ((hsa.below hS (Nat.le_refl _)).at q hlt_asks)) M.below ?_
        simp only [aP, lI, l0, lS]
        have Mp := M.perm (pull3 ([] : List (Nat × List Value)) gd by1 gc ba1 ([] : List (Nat × List Value)))
        have key := hK.chk w0 _ _ (wmk L (bl l q)) ba1 _ (bl asks q) (wmk_w hW (bl l q)) (hla _ (bl_mem hlt_asks)) hIa Mp
        clear Mp
        refine callH (i := 10) (some 67) rfl (by kernel_rfl) rfl rfl (fun _ => by kernel_rfl) key ?_
        clear key
        rintro e w10 ⟨rfl, l⟩
        replace M := M.call l
        replace D_y := DI.below D_y l
        replace D_d := DI.below D_d l
        clear l
        refine ⟨_, rfl, M.below, ?_⟩
        simp only [aP, lI, l0, lS]
        have Mp := M.perm (pull1 ([] : List (Nat × List Value)) gd by1 (gc ++ (ba1 ++ ([] : List (Nat × List Value)))))
        have key := dchk w0 _ _ (wmk L (bl l q)) by1 _ (bl asks q) (wmk_w hW (bl l q)) (by omega) D_y Mp
        clear Mp
        refine callH (i := 16) (some 73) rfl (by kernel_rfl) rfl rfl (fun _ => by kernel_rfl) key ?_
        clear key
        rintro e w11 ⟨rfl, l⟩
        replace M := M.call l
        replace D_y := DI.below D_y l
        replace D_d := DI.below D_d l
        clear l
        refine ⟨_, rfl, M.below, ?_⟩
        simp only [aP, lI, l0, lS]
        refine readHg (i := 17) (some 74) rfl (.bool false) rfl rfl (fun _ hS => neqI .i64 _ _ _ _ _ _ rfl rfl rfl false (by simp) _) M.below ?_
        simp only [aP, lI, l0, lS]
        refine readHg (i := 18) (some 75) rfl (.bool false) rfl rfl (fun _ hS => (by kernel_rfl)) M.below ?_
        simp only [aP, lI, l0, lS]
        refine wpAnyH_done (by kernel_rfl) ?_ _
        first | show Exit.then _ _ _ _ _ | show Exit.inBlock _ _ _ _ _
        go_upto_region 15 with fail
        refine wp_region_list ?_
        refine readL (.pointer (some ⟨Ra, 0, none⟩)) rfl (by kernel_rfl) ?_
        simp only [aP, lI, l0, lS]
        have Mp := M.perm (pull3 ([] : List (Nat × List Value)) gd by1 gc ba1 ([] : List (Nat × List Value)))
        have key := hK.top w0 _ _ (wmk L (bl l q)) ba1 _ (wmk_w hW (bl l q)) hIa Mp
        clear Mp
        refine callL rfl (fun _ => by kernel_rfl) key ?_
        clear key
        rintro e w12 ⟨rfl, l⟩
        replace M := M.call l
        replace D_y := DI.below D_y l
        replace D_d := DI.below D_d l
        clear l
        refine ⟨_, rfl, ?_⟩
        simp only [aP, lI, l0, lS]
        refine readL (.pointer (some ⟨B3, 0, none⟩)) rfl (by kernel_rfl) ?_
        simp only [aP, lI, l0, lS]
        have Mp := M.perm (pull1 ([] : List (Nat × List Value)) gd by1 (gc ++ (ba1 ++ ([] : List (Nat × List Value)))))
        have key := dtop w0 _ _ (wmk L (bl l q)) by1 _ (wmk_w hW (bl l q)) (by omega) D_y Mp
        clear Mp
        refine callL rfl (fun _ => by kernel_rfl) key ?_
        clear key
        rintro e w13 ⟨rfl, l⟩
        replace M := M.call l
        replace D_y := DI.below D_y l
        replace D_d := DI.below D_d l
        clear l
        refine ⟨_, rfl, ?_⟩
        simp only [aP, lI, l0, lS]
        refine readL (.bool false) rfl (neqI .i64 _ _ _ _ _ _ rfl rfl rfl false (by simp) _) ?_
        simp only [aP, lI, l0, lS]
        refine readL (.bool false) rfl (by kernel_rfl) ?_
        simp only [aP, lI, l0, lS]
        refine readL (.pointer (some ⟨Ra, 0, none⟩)) rfl (by kernel_rfl) ?_
        simp only [aP, lI, l0, lS]
        have Mp := M.perm (pull3 ([] : List (Nat × List Value)) gd by1 gc ba1 ([] : List (Nat × List Value)))
        have key := hK.cnt w0 _ _ (wmk L (bl l q)) ba1 _ (wmk_w hW (bl l q)) hIa Mp
        clear Mp
        refine callL rfl (fun _ => by kernel_rfl) key ?_
        clear key
        rintro e w14 ⟨rfl, l⟩
        replace M := M.call l
        replace D_y := DI.below D_y l
        replace D_d := DI.below D_d l
        clear l
        refine ⟨_, rfl, ?_⟩
        simp only [aP, lI, l0, lS]
        refine readL (.pointer (some ⟨B3, 0, none⟩)) rfl (by kernel_rfl) ?_
        simp only [aP, lI, l0, lS]
        have Mp := M.perm (pull1 ([] : List (Nat × List Value)) gd by1 (gc ++ (ba1 ++ ([] : List (Nat × List Value)))))
        have key := dcnt w0 _ _ (wmk L (bl l q)) by1 _ (wmk_w hW (bl l q)) (by omega) D_y Mp
        clear Mp
        refine callL rfl (fun _ => by kernel_rfl) key ?_
        clear key
        rintro e w15 ⟨rfl, l⟩
        replace M := M.call l
        replace D_y := DI.below D_y l
        replace D_d := DI.below D_d l
        clear l
        refine ⟨_, rfl, ?_⟩
        simp only [aP, lI, l0, lS]
        refine readL (.bool false) rfl (neqI .i64 _ _ _ _ _ _ rfl rfl rfl false (by simp) _) ?_
        simp only [aP, lI, l0, lS]
        refine readL (.bool false) rfl (by kernel_rfl) ?_
        simp only [aP, lI, l0, lS]
        refine readL (.bool false) rfl (by kernel_rfl) ?_
        simp only [aP, lI, l0, lS]
        refine readL (.pointer (some ⟨Rc, 0, none⟩)) rfl (by kernel_rfl) ?_
        simp only [aP, lI, l0, lS]
        have Mp := M.perm (pull2 ([] : List (Nat × List Value)) gd by1 gc (ba1 ++ ([] : List (Nat × List Value))))
        have key := hK.top w0 _ _ K gc _ hV hIc Mp
        clear Mp
        refine callL rfl (fun _ => by kernel_rfl) key ?_
        clear key
        rintro e w16 ⟨rfl, l⟩
        replace M := M.call l
        replace D_y := DI.below D_y l
        replace D_d := DI.below D_d l
        clear l
        refine ⟨_, rfl, ?_⟩
        simp only [aP, lI, l0, lS]
        refine readL (.pointer (some ⟨Rd, 0, none⟩)) rfl (by kernel_rfl) ?_
        simp only [aP, lI, l0, lS]
        have Mp := M.perm (pull0 ([] : List (Nat × List Value)) gd (by1 ++ (gc ++ (ba1 ++ ([] : List (Nat × List Value))))))
        have key := dtop w0 _ _ K gd _ hV (by omega) D_d Mp
        clear Mp
        refine callL rfl (fun _ => by kernel_rfl) key ?_
        clear key
        rintro e w17 ⟨rfl, l⟩
        replace M := M.call l
        replace D_y := DI.below D_y l
        replace D_d := DI.below D_d l
        clear l
        refine ⟨_, rfl, ?_⟩
        simp only [aP, lI, l0, lS]
        refine readL (.bool false) rfl (neqI .i64 _ _ _ _ _ _ rfl rfl rfl false (by simp) _) ?_
        simp only [aP, lI, l0, lS]
        refine readL (.bool false) rfl (by kernel_rfl) ?_
        simp only [aP, lI, l0, lS]
        refine readL (.bool false) rfl (by kernel_rfl) ?_
        simp only [aP, lI, l0, lS]
        refine readL (.pointer (some ⟨Rc, 0, none⟩)) rfl (by kernel_rfl) ?_
        simp only [aP, lI, l0, lS]
        have Mp := M.perm (pull2 ([] : List (Nat × List Value)) gd by1 gc (ba1 ++ ([] : List (Nat × List Value))))
        have key := hK.cnt w0 _ _ K gc _ hV hIc Mp
        clear Mp
        refine callL rfl (fun _ => by kernel_rfl) key ?_
        clear key
        rintro e w18 ⟨rfl, l⟩
        replace M := M.call l
        replace D_y := DI.below D_y l
        replace D_d := DI.below D_d l
        clear l
        refine ⟨_, rfl, ?_⟩
        simp only [aP, lI, l0, lS]
        refine readL (.pointer (some ⟨Rd, 0, none⟩)) rfl (by kernel_rfl) ?_
        simp only [aP, lI, l0, lS]
        have Mp := M.perm (pull0 ([] : List (Nat × List Value)) gd (by1 ++ (gc ++ (ba1 ++ ([] : List (Nat × List Value))))))
        have key := dcnt w0 _ _ K gd _ hV (by omega) D_d Mp
        clear Mp
        refine callL rfl (fun _ => by kernel_rfl) key ?_
        clear key
        rintro e w19 ⟨rfl, l⟩
        replace M := M.call l
        replace D_y := DI.below D_y l
        replace D_d := DI.below D_d l
        clear l
        refine ⟨_, rfl, ?_⟩
        simp only [aP, lI, l0, lS]
        refine readL (.bool false) rfl (neqI .i64 _ _ _ _ _ _ rfl rfl rfl false (by simp) _) ?_
        simp only [aP, lI, l0, lS]
        refine readL (.bool false) rfl (by kernel_rfl) ?_
        simp only [aP, lI, l0, lS]
        first | show Exit.then _ _ _ _ _ | show Exit.inBlock _ _ _ _ _
        by_cases h9 : q % 10 = 9
        · go_upto_region 17 with fail
          refine wp_region_list ?_
          refine readL (.int .i64 (q : Int)) rfl (by kernel_rfl) ?_
          simp only [aP, lI, l0, lS]
          refine readL (.int .i64 ((q % 10 : Nat) : Int)) rfl (remI .i64 _ _ _ _ _ _ _ rfl rfl rfl (by decide) (Int.ofNat_tmod q 10).symm _) ?_
          simp only [aP, lI, l0, lS]
          refine readL (.bool true) rfl (eqlI .i64 _ _ _ _ _ _ rfl rfl rfl true (by rw [h9]; rfl) _) ?_
          simp only [aP, lI, l0, lS]
          first | show Exit.then _ _ _ _ _ | show Exit.inBlock _ _ _ _ _
          go_upto_region 18 with fail
          refine wp_region_list ?_
          refine readL (.pointer (some ⟨Ra, 0, none⟩)) rfl (by kernel_rfl) ?_
          simp only [aP, lI, l0, lS]
          have Mp := M.perm (pull3 ([] : List (Nat × List Value)) gd by1 gc ba1 ([] : List (Nat × List Value)))
          have key := hC w0 _ _ (wmk L (bl l q)) ba1 _ (wmk_w hW (bl l q)) hIa Mp
          clear Mp
          refine callL rfl (fun _ => by kernel_rfl) key ?_
          clear key
          rintro e w20 ⟨v_, bc20c, rfl, hI_, -, M', l⟩
          replace D_y := DI.below D_y l
          replace D_d := DI.below D_d l
          clear l M hIc
          have hIc := hI_
          clear hI_
          obtain ⟨Rbc20c, rfl⟩ := hK.ptr _ _ _ hIc
          replace M' := M'.sub _ ((List.Sublist.refl _).append ((List.Sublist.refl _).append ((List.Sublist.refl _).append ((List.Sublist.refl _).append ((List.Sublist.refl _).append (List.sublist_append_right _ _))))))
          have M : Mm w0 ((bc20c ++ (ba1 ++ (gd ++ (by1 ++ ([] : List (Nat × List Value))))))) w20 := M'
          clear M'
          refine ⟨_, rfl, ?_⟩
          simp only [aP, lI, l0, lS]
          refine readL (.pointer (some ⟨Rbc20c, 0, none⟩)) rfl (by kernel_rfl) ?_
          simp only [aP, lI, l0, lS]
          first | show Exit.then _ _ _ _ _ | show Exit.inBlock _ _ _ _ _
          go_upto_region 19 with fail
          refine wp_region_list ?_
          refine readL (.pointer (some ⟨B3, 0, none⟩)) rfl (by kernel_rfl) ?_
          simp only [aP, lI, l0, lS]
          have Mp := M.perm (pull3 ([] : List (Nat × List Value)) bc20c ba1 gd by1 ([] : List (Nat × List Value)))
          have key := dcln w0 _ _ (wmk L (bl l q)) by1 _ (wmk_w hW (bl l q)) (by omega) D_y Mp
          clear Mp
          refine callL rfl (fun _ => by kernel_rfl) key ?_
          clear key
          rintro e w21 ⟨v_, bd21c, rfl, hI_, -, M', l⟩
          replace D_y := DI.below D_y l
          clear l M D_d
          have D_d := hI_
          clear hI_
          obtain ⟨Rbd21c, rfl⟩ := DI.ptr D_d
          replace M' := M'.sub _ ((List.Sublist.refl _).append ((List.Sublist.refl _).append ((List.Sublist.refl _).append ((List.Sublist.refl _).append ((List.Sublist.refl _).append (List.sublist_append_right _ _))))))
          have M : Mm w0 ((bd21c ++ (by1 ++ (bc20c ++ (ba1 ++ ([] : List (Nat × List Value))))))) w21 := M'
          clear M'
          refine ⟨_, rfl, ?_⟩
          simp only [aP, lI, l0, lS]
          refine readL (.pointer (some ⟨Rbd21c, 0, none⟩)) rfl (by kernel_rfl) ?_
          simp only [aP, lI, l0, lS]
          first | show Exit.then _ _ _ _ _ | show Exit.inBlock _ _ _ _ _
          have HS := show Hid _ from (show WinL (wmk L (bl l q)) ∧ WinL (wmk L (bl l q)) ∧ (wmk L (bl l q)).length ≤ (q + 1) ∧ (wmk L (bl l q)).length ≤ (q + 1) ∧ I (.pointer (some ⟨Ra, 0, none⟩)) (wmk L (bl l q)) ba1 ∧ I (.pointer (some ⟨Rbc20c, 0, none⟩)) (wmk L (bl l q)) bc20c ∧ DI w0 w21 (.pointer (some ⟨B3, 0, none⟩)) (wmk L (bl l q)) by1 ∧ DI w0 w21 (.pointer (some ⟨Rbd21c, 0, none⟩)) (wmk L (bl l q)) bd21c ∧ Mm w0 (bd21c ++ (by1 ++ (bc20c ++ (ba1 ++ ([] : List (Nat × List Value)))))) w21 from ⟨wmk_w hW _, wmk_w hW _, by omega, by omega, hIa, hIc, D_y, D_d, M⟩)
          clear M hIa hIc D_y D_d h9
          go_wp2
          go_roundw
          case rel => exact ⟨q + 1, _, _, _, _, _, _, by omega, by omega, by go_num, HS.out⟩
          case measure => simp [intOf]; omega
        · go_upto_region 17 with fail
          refine wp_region_list ?_
          refine readL (.int .i64 (q : Int)) rfl (by kernel_rfl) ?_
          simp only [aP, lI, l0, lS]
          refine readL (.int .i64 ((q % 10 : Nat) : Int)) rfl (remI .i64 _ _ _ _ _ _ _ rfl rfl rfl (by decide) (Int.ofNat_tmod q 10).symm _) ?_
          simp only [aP, lI, l0, lS]
          refine readL (.bool false) rfl (eqlI .i64 _ _ _ _ _ _ rfl rfl rfl false (by rw [beq_eq_false_iff_ne]; omega) _) ?_
          simp only [aP, lI, l0, lS]
          first | show Exit.then _ _ _ _ _ | show Exit.inBlock _ _ _ _ _
          have HS := show Hid _ from (show WinL (wmk L (bl l q)) ∧ WinL K ∧ (wmk L (bl l q)).length ≤ (q + 1) ∧ (K).length ≤ (q + 1) ∧ I (.pointer (some ⟨Ra, 0, none⟩)) (wmk L (bl l q)) ba1 ∧ I (.pointer (some ⟨Rc, 0, none⟩)) K gc ∧ DI w0 w19 (.pointer (some ⟨B3, 0, none⟩)) (wmk L (bl l q)) by1 ∧ DI w0 w19 (.pointer (some ⟨Rd, 0, none⟩)) K gd ∧ Mm w0 (gd ++ (by1 ++ (gc ++ (ba1 ++ ([] : List (Nat × List Value)))))) w19 from ⟨wmk_w hW _, hV, by omega, by omega, hIa, hIc, D_y, D_d, M⟩)
          clear M hIa hIc D_y D_d h9
          go_wp2
          go_roundw
          case rel => exact ⟨q + 1, _, _, _, _, _, _, by omega, by omega, by go_num, HS.out⟩
          case measure => simp [intOf]; omega
      · go_upto_region 13 with fail
        refine wp_region_held_drew (S := fun w' => Below w0.heap.size w0 w') (by kernel_rfl) M.drew.below ?_
        intro _
        replace M := M.drew
        have hdr := (Below.refl w8.heap.size w8).drew
        replace D_y := DI.below D_y hdr
        replace D_d := DI.below D_d hdr
        clear hdr
        generalize w8.drew = w22 at M D_y D_d ⊢
        refine readHg (i := 0) (some 57) rfl (.int .i64 (q : Int)) rfl rfl (fun _ hS => (by kernel_rfl)) M.below ?_
        simp only [aP, lI, l0, lS]
        refine readHg (i := 1) (some 58) rfl (.slice sq asks.length cq) rfl rfl (fun _ hS => (by kernel_rfl)) M.below ?_
        simp only [aP, lI, l0, lS]
        refine readHg (i := 2) (some 59) rfl (.int .i64 ((asks.length : Nat) : Int)) rfl rfl (fun _ hS => lenS _ 22 3 sq asks.length cq rfl Try.underlying22 rfl _) M.below ?_
        simp only [aP, lI, l0, lS]
        refine readHg (i := 3) (some 60) rfl (.bool false) rfl rfl (fun _ hS => lssI .i64 _ _ _ _ _ _ rfl rfl rfl false (decide_eq_false (by omega)) _) M.below ?_
        simp only [aP, lI, l0, lS]
        refine readHg (i := 4) (some 61) rfl (.bool false) rfl rfl (fun _ hS => (by kernel_rfl)) M.below ?_
        simp only [aP, lI, l0, lS]
        refine mayH (i := 5) (some 62) rfl false undef undef rfl rfl rfl (fun hc => by cases hc) (by kernel_rfl) (by kernel_rfl) (by kernel_rfl) (fun _ _ _ h => h) M.below ?_
        simp only [aP, lI, l0, lS]
        refine mayH (i := 6) (some 63) rfl false undef undef rfl rfl rfl (fun hc => by cases hc) (by kernel_rfl) (by kernel_rfl) (by kernel_rfl) (fun _ _ _ h => h) M.below ?_
        simp only [aP, lI, l0, lS]
        refine mayH (i := 7) (some 64) rfl false undef undef rfl rfl rfl (fun hc => by cases hc) (by kernel_rfl) (by kernel_rfl) (by kernel_rfl) (fun _ _ _ h => h) M.below ?_
        simp only [aP, lI, l0, lS]
        refine mayH (i := 8) (some 65) rfl false undef undef rfl rfl rfl (fun hc => by cases hc) (by kernel_rfl) (by kernel_rfl) (by kernel_rfl) (fun _ _ _ h => h) M.below ?_
        simp only [aP, lI, l0, lS]
        refine mayH (i := 9) (some 66) rfl false undef undef rfl rfl rfl (fun hc => by cases hc) (by kernel_rfl) (by kernel_rfl) (by kernel_rfl) (fun _ _ _ h => h) M.below ?_
        simp only [aP, lI, l0, lS]
        refine mayH (i := 11) (some 68) rfl false undef undef rfl rfl rfl (fun hc => by cases hc) (by kernel_rfl) (by kernel_rfl) (by kernel_rfl) (fun _ _ _ h => h) M.below ?_
        simp only [aP, lI, l0, lS]
        refine mayH (i := 12) (some 69) rfl false undef undef rfl rfl rfl (fun hc => by cases hc) (by kernel_rfl) (by kernel_rfl) (by kernel_rfl) (fun _ _ _ h => h) M.below ?_
        simp only [aP, lI, l0, lS]
        refine mayH (i := 13) (some 70) rfl false undef undef rfl rfl rfl (fun hc => by cases hc) (by kernel_rfl) (by kernel_rfl) (by kernel_rfl) (fun _ _ _ h => h) M.below ?_
        simp only [aP, lI, l0, lS]
        refine mayH (i := 14) (some 71) rfl false undef undef rfl rfl rfl (fun hc => by cases hc) (by kernel_rfl) (by kernel_rfl) (by kernel_rfl) (fun _ _ _ h => h) M.below ?_
        simp only [aP, lI, l0, lS]
        refine mayH (i := 15) (some 72) rfl false undef undef rfl rfl rfl (fun hc => by cases hc) (by kernel_rfl) (by kernel_rfl) (by kernel_rfl) (fun _ _ _ h => h) M.below ?_
        simp only [aP, lI, l0, lS]
        refine mayH (i := 10) (some 67) rfl false undef undef rfl rfl rfl (fun hc => by cases hc) (by kernel_rfl) (by kernel_rfl) (by kernel_rfl) (fun _ _ _ h => h) M.below ?_
        simp only [aP, lI, l0, lS]
        refine mayH (i := 16) (some 73) rfl false undef undef rfl rfl rfl (fun hc => by cases hc) (by kernel_rfl) (by kernel_rfl) (by kernel_rfl) (fun _ _ _ h => h) M.below ?_
        simp only [aP, lI, l0, lS]
        refine mayH (i := 17) (some 74) rfl false undef undef rfl rfl rfl (fun hc => by cases hc) (by kernel_rfl) (by kernel_rfl) (by kernel_rfl) (fun _ _ _ h => h) M.below ?_
        simp only [aP, lI, l0, lS]
        refine readHg (i := 18) (some 75) rfl (.bool false) rfl rfl (fun _ hS => (by kernel_rfl)) M.below ?_
        simp only [aP, lI, l0, lS]
        refine wpAnyH_done (by kernel_rfl) ?_ _
        first | show Exit.then _ _ _ _ _ | show Exit.inBlock _ _ _ _ _
        go_upto_region 15 with fail
        refine wp_region_list ?_
        refine readL (.pointer (some ⟨Ra, 0, none⟩)) rfl (by kernel_rfl) ?_
        simp only [aP, lI, l0, lS]
        have Mp := M.perm (pull3 ([] : List (Nat × List Value)) gd by1 gc ba1 ([] : List (Nat × List Value)))
        have key := hK.top w0 _ _ (wmk L (bl l q)) ba1 _ (wmk_w hW (bl l q)) hIa Mp
        clear Mp
        refine callL rfl (fun _ => by kernel_rfl) key ?_
        clear key
        rintro e w23 ⟨rfl, l⟩
        replace M := M.call l
        replace D_y := DI.below D_y l
        replace D_d := DI.below D_d l
        clear l
        refine ⟨_, rfl, ?_⟩
        simp only [aP, lI, l0, lS]
        refine readL (.pointer (some ⟨B3, 0, none⟩)) rfl (by kernel_rfl) ?_
        simp only [aP, lI, l0, lS]
        have Mp := M.perm (pull1 ([] : List (Nat × List Value)) gd by1 (gc ++ (ba1 ++ ([] : List (Nat × List Value)))))
        have key := dtop w0 _ _ (wmk L (bl l q)) by1 _ (wmk_w hW (bl l q)) (by omega) D_y Mp
        clear Mp
        refine callL rfl (fun _ => by kernel_rfl) key ?_
        clear key
        rintro e w24 ⟨rfl, l⟩
        replace M := M.call l
        replace D_y := DI.below D_y l
        replace D_d := DI.below D_d l
        clear l
        refine ⟨_, rfl, ?_⟩
        simp only [aP, lI, l0, lS]
        refine readL (.bool false) rfl (neqI .i64 _ _ _ _ _ _ rfl rfl rfl false (by simp) _) ?_
        simp only [aP, lI, l0, lS]
        refine readL (.bool false) rfl (by kernel_rfl) ?_
        simp only [aP, lI, l0, lS]
        refine readL (.pointer (some ⟨Ra, 0, none⟩)) rfl (by kernel_rfl) ?_
        simp only [aP, lI, l0, lS]
        have Mp := M.perm (pull3 ([] : List (Nat × List Value)) gd by1 gc ba1 ([] : List (Nat × List Value)))
        have key := hK.cnt w0 _ _ (wmk L (bl l q)) ba1 _ (wmk_w hW (bl l q)) hIa Mp
        clear Mp
        refine callL rfl (fun _ => by kernel_rfl) key ?_
        clear key
        rintro e w25 ⟨rfl, l⟩
        replace M := M.call l
        replace D_y := DI.below D_y l
        replace D_d := DI.below D_d l
        clear l
        refine ⟨_, rfl, ?_⟩
        simp only [aP, lI, l0, lS]
        refine readL (.pointer (some ⟨B3, 0, none⟩)) rfl (by kernel_rfl) ?_
        simp only [aP, lI, l0, lS]
        have Mp := M.perm (pull1 ([] : List (Nat × List Value)) gd by1 (gc ++ (ba1 ++ ([] : List (Nat × List Value)))))
        have key := dcnt w0 _ _ (wmk L (bl l q)) by1 _ (wmk_w hW (bl l q)) (by omega) D_y Mp
        clear Mp
        refine callL rfl (fun _ => by kernel_rfl) key ?_
        clear key
        rintro e w26 ⟨rfl, l⟩
        replace M := M.call l
        replace D_y := DI.below D_y l
        replace D_d := DI.below D_d l
        clear l
        refine ⟨_, rfl, ?_⟩
        simp only [aP, lI, l0, lS]
        refine readL (.bool false) rfl (neqI .i64 _ _ _ _ _ _ rfl rfl rfl false (by simp) _) ?_
        simp only [aP, lI, l0, lS]
        refine readL (.bool false) rfl (by kernel_rfl) ?_
        simp only [aP, lI, l0, lS]
        refine readL (.bool false) rfl (by kernel_rfl) ?_
        simp only [aP, lI, l0, lS]
        refine readL (.pointer (some ⟨Rc, 0, none⟩)) rfl (by kernel_rfl) ?_
        simp only [aP, lI, l0, lS]
        have Mp := M.perm (pull2 ([] : List (Nat × List Value)) gd by1 gc (ba1 ++ ([] : List (Nat × List Value))))
        have key := hK.top w0 _ _ K gc _ hV hIc Mp
        clear Mp
        refine callL rfl (fun _ => by kernel_rfl) key ?_
        clear key
        rintro e w27 ⟨rfl, l⟩
        replace M := M.call l
        replace D_y := DI.below D_y l
        replace D_d := DI.below D_d l
        clear l
        refine ⟨_, rfl, ?_⟩
        simp only [aP, lI, l0, lS]
        refine readL (.pointer (some ⟨Rd, 0, none⟩)) rfl (by kernel_rfl) ?_
        simp only [aP, lI, l0, lS]
        have Mp := M.perm (pull0 ([] : List (Nat × List Value)) gd (by1 ++ (gc ++ (ba1 ++ ([] : List (Nat × List Value))))))
        have key := dtop w0 _ _ K gd _ hV (by omega) D_d Mp
        clear Mp
        refine callL rfl (fun _ => by kernel_rfl) key ?_
        clear key
        rintro e w28 ⟨rfl, l⟩
        replace M := M.call l
        replace D_y := DI.below D_y l
        replace D_d := DI.below D_d l
        clear l
        refine ⟨_, rfl, ?_⟩
        simp only [aP, lI, l0, lS]
        refine readL (.bool false) rfl (neqI .i64 _ _ _ _ _ _ rfl rfl rfl false (by simp) _) ?_
        simp only [aP, lI, l0, lS]
        refine readL (.bool false) rfl (by kernel_rfl) ?_
        simp only [aP, lI, l0, lS]
        refine readL (.bool false) rfl (by kernel_rfl) ?_
        simp only [aP, lI, l0, lS]
        refine readL (.pointer (some ⟨Rc, 0, none⟩)) rfl (by kernel_rfl) ?_
        simp only [aP, lI, l0, lS]
        have Mp := M.perm (pull2 ([] : List (Nat × List Value)) gd by1 gc (ba1 ++ ([] : List (Nat × List Value))))
        have key := hK.cnt w0 _ _ K gc _ hV hIc Mp
        clear Mp
        refine callL rfl (fun _ => by kernel_rfl) key ?_
        clear key
        rintro e w29 ⟨rfl, l⟩
        replace M := M.call l
        replace D_y := DI.below D_y l
        replace D_d := DI.below D_d l
        clear l
        refine ⟨_, rfl, ?_⟩
        simp only [aP, lI, l0, lS]
        refine readL (.pointer (some ⟨Rd, 0, none⟩)) rfl (by kernel_rfl) ?_
        simp only [aP, lI, l0, lS]
        have Mp := M.perm (pull0 ([] : List (Nat × List Value)) gd (by1 ++ (gc ++ (ba1 ++ ([] : List (Nat × List Value))))))
        have key := dcnt w0 _ _ K gd _ hV (by omega) D_d Mp
        clear Mp
        refine callL rfl (fun _ => by kernel_rfl) key ?_
        clear key
        rintro e w30 ⟨rfl, l⟩
        replace M := M.call l
        replace D_y := DI.below D_y l
        replace D_d := DI.below D_d l
        clear l
        refine ⟨_, rfl, ?_⟩
        simp only [aP, lI, l0, lS]
        refine readL (.bool false) rfl (neqI .i64 _ _ _ _ _ _ rfl rfl rfl false (by simp) _) ?_
        simp only [aP, lI, l0, lS]
        refine readL (.bool false) rfl (by kernel_rfl) ?_
        simp only [aP, lI, l0, lS]
        first | show Exit.then _ _ _ _ _ | show Exit.inBlock _ _ _ _ _
        by_cases h9 : q % 10 = 9
        · go_upto_region 17 with fail
          refine wp_region_list ?_
          refine readL (.int .i64 (q : Int)) rfl (by kernel_rfl) ?_
          simp only [aP, lI, l0, lS]
          refine readL (.int .i64 ((q % 10 : Nat) : Int)) rfl (remI .i64 _ _ _ _ _ _ _ rfl rfl rfl (by decide) (Int.ofNat_tmod q 10).symm _) ?_
          simp only [aP, lI, l0, lS]
          refine readL (.bool true) rfl (eqlI .i64 _ _ _ _ _ _ rfl rfl rfl true (by rw [h9]; rfl) _) ?_
          simp only [aP, lI, l0, lS]
          first | show Exit.then _ _ _ _ _ | show Exit.inBlock _ _ _ _ _
          go_upto_region 18 with fail
          refine wp_region_list ?_
          refine readL (.pointer (some ⟨Ra, 0, none⟩)) rfl (by kernel_rfl) ?_
          simp only [aP, lI, l0, lS]
          have Mp := M.perm (pull3 ([] : List (Nat × List Value)) gd by1 gc ba1 ([] : List (Nat × List Value)))
          have key := hC w0 _ _ (wmk L (bl l q)) ba1 _ (wmk_w hW (bl l q)) hIa Mp
          clear Mp
          refine callL rfl (fun _ => by kernel_rfl) key ?_
          clear key
          rintro e w31 ⟨v_, bc31c, rfl, hI_, -, M', l⟩
          replace D_y := DI.below D_y l
          replace D_d := DI.below D_d l
          clear l M hIc
          have hIc := hI_
          clear hI_
          obtain ⟨Rbc31c, rfl⟩ := hK.ptr _ _ _ hIc
          replace M' := M'.sub _ ((List.Sublist.refl _).append ((List.Sublist.refl _).append ((List.Sublist.refl _).append ((List.Sublist.refl _).append ((List.Sublist.refl _).append (List.sublist_append_right _ _))))))
          have M : Mm w0 ((bc31c ++ (ba1 ++ (gd ++ (by1 ++ ([] : List (Nat × List Value))))))) w31 := M'
          clear M'
          refine ⟨_, rfl, ?_⟩
          simp only [aP, lI, l0, lS]
          refine readL (.pointer (some ⟨Rbc31c, 0, none⟩)) rfl (by kernel_rfl) ?_
          simp only [aP, lI, l0, lS]
          first | show Exit.then _ _ _ _ _ | show Exit.inBlock _ _ _ _ _
          go_upto_region 19 with fail
          refine wp_region_list ?_
          refine readL (.pointer (some ⟨B3, 0, none⟩)) rfl (by kernel_rfl) ?_
          simp only [aP, lI, l0, lS]
          have Mp := M.perm (pull3 ([] : List (Nat × List Value)) bc31c ba1 gd by1 ([] : List (Nat × List Value)))
          have key := dcln w0 _ _ (wmk L (bl l q)) by1 _ (wmk_w hW (bl l q)) (by omega) D_y Mp
          clear Mp
          refine callL rfl (fun _ => by kernel_rfl) key ?_
          clear key
          rintro e w32 ⟨v_, bd32c, rfl, hI_, -, M', l⟩
          replace D_y := DI.below D_y l
          clear l M D_d
          have D_d := hI_
          clear hI_
          obtain ⟨Rbd32c, rfl⟩ := DI.ptr D_d
          replace M' := M'.sub _ ((List.Sublist.refl _).append ((List.Sublist.refl _).append ((List.Sublist.refl _).append ((List.Sublist.refl _).append ((List.Sublist.refl _).append (List.sublist_append_right _ _))))))
          have M : Mm w0 ((bd32c ++ (by1 ++ (bc31c ++ (ba1 ++ ([] : List (Nat × List Value))))))) w32 := M'
          clear M'
          refine ⟨_, rfl, ?_⟩
          simp only [aP, lI, l0, lS]
          refine readL (.pointer (some ⟨Rbd32c, 0, none⟩)) rfl (by kernel_rfl) ?_
          simp only [aP, lI, l0, lS]
          first | show Exit.then _ _ _ _ _ | show Exit.inBlock _ _ _ _ _
          have HS := show Hid _ from (show WinL (wmk L (bl l q)) ∧ WinL (wmk L (bl l q)) ∧ (wmk L (bl l q)).length ≤ (q + 1) ∧ (wmk L (bl l q)).length ≤ (q + 1) ∧ I (.pointer (some ⟨Ra, 0, none⟩)) (wmk L (bl l q)) ba1 ∧ I (.pointer (some ⟨Rbc31c, 0, none⟩)) (wmk L (bl l q)) bc31c ∧ DI w0 w32 (.pointer (some ⟨B3, 0, none⟩)) (wmk L (bl l q)) by1 ∧ DI w0 w32 (.pointer (some ⟨Rbd32c, 0, none⟩)) (wmk L (bl l q)) bd32c ∧ Mm w0 (bd32c ++ (by1 ++ (bc31c ++ (ba1 ++ ([] : List (Nat × List Value)))))) w32 from ⟨wmk_w hW _, wmk_w hW _, by omega, by omega, hIa, hIc, D_y, D_d, M⟩)
          clear M hIa hIc D_y D_d h9
          go_wp2
          go_roundw
          case rel => exact ⟨q + 1, _, _, _, _, _, _, by omega, by omega, by go_num, HS.out⟩
          case measure => simp [intOf]; omega
        · go_upto_region 17 with fail
          refine wp_region_list ?_
          refine readL (.int .i64 (q : Int)) rfl (by kernel_rfl) ?_
          simp only [aP, lI, l0, lS]
          refine readL (.int .i64 ((q % 10 : Nat) : Int)) rfl (remI .i64 _ _ _ _ _ _ _ rfl rfl rfl (by decide) (Int.ofNat_tmod q 10).symm _) ?_
          simp only [aP, lI, l0, lS]
          refine readL (.bool false) rfl (eqlI .i64 _ _ _ _ _ _ rfl rfl rfl false (by rw [beq_eq_false_iff_ne]; omega) _) ?_
          simp only [aP, lI, l0, lS]
          first | show Exit.then _ _ _ _ _ | show Exit.inBlock _ _ _ _ _
          have HS := show Hid _ from (show WinL (wmk L (bl l q)) ∧ WinL K ∧ (wmk L (bl l q)).length ≤ (q + 1) ∧ (K).length ≤ (q + 1) ∧ I (.pointer (some ⟨Ra, 0, none⟩)) (wmk L (bl l q)) ba1 ∧ I (.pointer (some ⟨Rc, 0, none⟩)) K gc ∧ DI w0 w30 (.pointer (some ⟨B3, 0, none⟩)) (wmk L (bl l q)) by1 ∧ DI w0 w30 (.pointer (some ⟨Rd, 0, none⟩)) K gd ∧ Mm w0 (gd ++ (by1 ++ (gc ++ (ba1 ++ ([] : List (Nat × List Value)))))) w30 from ⟨wmk_w hW _, hV, by omega, by omega, hIa, hIc, D_y, D_d, M⟩)
          clear M hIa hIc D_y D_d h9
          go_wp2
          go_roundw
          case rel => exact ⟨q + 1, _, _, _, _, _, _, by omega, by omega, by go_num, HS.out⟩
          case measure => simp [intOf]; omega
    | false =>
      try clear hb1
      try clear hb2
      try clear hb3
      go_upto_region 20 with fail
      refine wp_region_list ?_
      refine readL (.pointer (some ⟨Ra, 0, none⟩)) rfl (by kernel_rfl) ?_
      simp only [aP, lI, l0, lS]
      refine readL (.int .i64 most) rfl (by kernel_rfl) ?_
      simp only [aP, lI, l0, lS]
      have Mp := M.perm (pull3 ([] : List (Nat × List Value)) gd gy gc ga ([] : List (Nat × List Value)))
      have key := hK.bel w0 _ _ L ga _ most hW hmo hIa Mp
      clear Mp
      refine callL rfl (fun _ => by kernel_rfl) key ?_
      clear key
      rintro e w33 ⟨⟨v_, rfl, N_33⟩, l⟩
      replace M := M.call l
      replace D_y := DI.below D_y l
      replace D_d := DI.below D_d l
      clear l
      obtain ⟨p33, c33, rfl, hcc_33⟩ := NewW.slice N_33
      refine ⟨_, rfl, ?_⟩
      simp only [aP, lI, l0, lS]
      refine readL (.slice p33 ((wbel L most).length) c33) rfl (by kernel_rfl) ?_
      simp only [aP, lI, l0, lS]
      first | show Exit.then _ _ _ _ _ | show Exit.inBlock _ _ _ _ _
      go_upto_region 21 with fail
      refine wp_region_list ?_
      refine readL (.pointer (some ⟨B3, 0, none⟩)) rfl (by kernel_rfl) ?_
      simp only [aP, lI, l0, lS]
      refine readL (.int .i64 most) rfl (by kernel_rfl) ?_
      simp only [aP, lI, l0, lS]
      have Mp := M.perm (pull1 ([] : List (Nat × List Value)) gd gy (gc ++ (ga ++ ([] : List (Nat × List Value)))))
      have key := dbel w0 _ _ L gy _ most hW (by omega) D_y Mp
      clear Mp
      refine callL rfl (fun _ => by kernel_rfl) key ?_
      clear key
      rintro e w34 ⟨⟨v_, rfl, N_34⟩, l⟩
      replace M := M.call l
      replace D_y := DI.below D_y l
      replace D_d := DI.below D_d l
      replace N_33 := NewW.below N_33 l
      clear l
      obtain ⟨p34, c34, rfl, hcc_34⟩ := NewW.slice N_34
      refine ⟨_, rfl, ?_⟩
      simp only [aP, lI, l0, lS]
      refine readL (.slice p34 ((wbel L most).length) c34) rfl (by kernel_rfl) ?_
      simp only [aP, lI, l0, lS]
      first | show Exit.then _ _ _ _ _ | show Exit.inBlock _ _ _ _ _
      go_upto_region 22 with fail
      refine wp_region_list ?_
      refine readL (.slice p33 ((wbel L most).length) c33) rfl (by kernel_rfl) ?_
      simp only [aP, lI, l0, lS]
      refine readL (.int .i64 (((wbel L most).length : Nat) : Int)) rfl (lenS _ 33 36 p33 ((wbel L most).length) c33 rfl Try.underlying33 rfl _) ?_
      simp only [aP, lI, l0, lS]
      refine readL (.slice p34 ((wbel L most).length) c34) rfl (by kernel_rfl) ?_
      simp only [aP, lI, l0, lS]
      refine readL (.int .i64 (((wbel L most).length : Nat) : Int)) rfl (lenS _ 33 36 p34 ((wbel L most).length) c34 rfl Try.underlying33 rfl _) ?_
      simp only [aP, lI, l0, lS]
      refine readL (.bool false) rfl (neqI .i64 _ _ _ _ _ _ rfl rfl rfl false (by simp) _) ?_
      simp only [aP, lI, l0, lS]
      first | show Exit.then _ _ _ _ _ | show Exit.inBlock _ _ _ _ _
      have hrl := wbel_len L most
      generalize wbel L most = rl at N_33 N_34 hrl hcc_33 hcc_34 ⊢
      go_upto_region 24 with fail
      refine wp_region_list ?_
      refine readL (.int .i64 0) rfl (by kernel_rfl) ?_
      simp only [aP, lI, l0, lS]
      first | show Exit.then _ _ _ _ _ | show Exit.inBlock _ _ _ _ _
      obtain ⟨b1_, N1⟩ : ∃ b_, NewW w34 b_ rl (.slice p33 rl.length c33) := ⟨_, N_33⟩
      obtain ⟨b2_, N2⟩ : ∃ b_, NewW w34 b_ rl (.slice p34 rl.length c34) := ⟨_, N_34⟩
      have HI := show Hid _ from (And.intro N1 (And.intro N2 M.below))
      clear M N_33 N_34 N1 N2 D_y D_d hIa hIc
      go_wp2
      go_loopw [15] (fun i w' => ∃ i' : Nat, i' ≤ rl.length ∧ i = .int .i64 (i' : Int) ∧ NewW w' b1_ rl (.slice p33 rl.length c33) ∧ NewW w' b2_ rl (.slice p34 rl.length c34) ∧ Below w0.heap.size w0 w') (fun i _ => rl.length - (intOf i).toNat)
      case atStart => exact ⟨0, Nat.zero_le _, rfl, HI.out⟩
      case round =>
        clear HI
        obtain ⟨i, hi, rfl, N1, N2, hB⟩ := hrel
        by_cases hil : i < rl.length
        · obtain ⟨pr, hpr⟩ : ∃ pr, rl[i]? = some pr := ⟨_, List.getElem?_eq_getElem hil⟩
          obtain ⟨adr33, rfl, _, _⟩ := NewW.at N1 hpr
          obtain ⟨adr34, rfl, _, _⟩ := NewW.at N2 hpr
          have M := (Mm.init w0).call hB
          go_upto_region 25 with fail
          refine wp_region_list ?_
          refine readL (.int .i64 (i : Int)) rfl (by kernel_rfl) ?_
          simp only [aP, lI, l0, lS]
          refine readL (.slice (some adr33) rl.length c33) rfl (by kernel_rfl) ?_
          simp only [aP, lI, l0, lS]
          refine readL (.int .i64 ((rl.length : Nat) : Int)) rfl (lenS _ 33 36 (some adr33) rl.length c33 rfl Try.underlying33 rfl _) ?_
          simp only [aP, lI, l0, lS]
          refine readL (.bool true) rfl (lssI .i64 _ _ _ _ _ _ rfl rfl rfl true (decide_eq_true (by omega)) _) ?_
          simp only [aP, lI, l0, lS]
          first | show Exit.then _ _ _ _ _ | show Exit.inBlock _ _ _ _ _
          have N_1 := N1
          have N_2 := N2
          clear N1 N2
          go_upto_region 27 with fail
          refine wp_region_held_drew (S := fun w' => NewW w' b1_ rl (.slice (some adr33) rl.length c33) ∧ NewW w' b2_ rl (.slice (some adr34) rl.length c34)) (by kernel_rfl) ⟨NewW.below N_1 (Below.refl _ _).drew, NewW.below N_2 (Below.refl _ _).drew⟩ ?_
          intro _
          replace M := M.drew
          have hdr := (Below.refl wr.heap.size wr).drew
          replace N_1 := NewW.below N_1 hdr
          replace N_2 := NewW.below N_2 hdr
          clear hdr
          generalize wr.drew = w35 at M N_1 N_2 ⊢
          refine readHg (i := 0) (some 126) rfl (.slice (some adr33) rl.length c33) rfl rfl (fun _ ⟨hS1, hS2⟩ => (by kernel_rfl)) ⟨N_1, N_2⟩ ?_
          simp only [aP, lI, l0, lS]
          refine readHg (i := 1) (some 127) rfl (.int .i64 (i : Int)) rfl rfl (fun _ ⟨hS1, hS2⟩ => (by kernel_rfl)) ⟨N_1, N_2⟩ ?_
          simp only [aP, lI, l0, lS]
          refine readHg (i := 2) (some 128) rfl (.pointer (some (adr33.add (i * 2)))) rfl rfl (fun _ ⟨hS1, hS2⟩ => idxR2 adr33 _ _ i hil _ _ rfl rfl rfl _) ⟨N_1, N_2⟩ ?_
          simp only [aP, lI, l0, lS]
          refine readHg (i := 3) (some 129) rfl (.agg #[.int .i64 pr.1, .int .i64 pr.2]) rfl rfl (fun _ ⟨hS1, hS2⟩ => loadN 36 _ (adr33.add (i * 2)) [.int .i64 pr.1, .int .i64 pr.2] rfl rfl (fun _ => by kernel_rfl) (fun _ => by kernel_rfl) (NewW.rng hS1 hpr)) ⟨N_1, N_2⟩ ?_
          simp only [aP, lI, l0, lS]
          refine readHg (i := 4) (some 130) rfl (.slice (some adr34) rl.length c34) rfl rfl (fun _ ⟨hS1, hS2⟩ => (by kernel_rfl)) ⟨N_1, N_2⟩ ?_
          simp only [aP, lI, l0, lS]
          refine readHg (i := 5) (some 131) rfl (.int .i64 (i : Int)) rfl rfl (fun _ ⟨hS1, hS2⟩ => (by kernel_rfl)) ⟨N_1, N_2⟩ ?_
          simp only [aP, lI, l0, lS]
          refine readHg (i := 6) (some 132) rfl (.pointer (some (adr34.add (i * 2)))) rfl rfl (fun _ ⟨hS1, hS2⟩ => idxR2 adr34 _ _ i hil _ _ rfl rfl rfl _) ⟨N_1, N_2⟩ ?_
          simp only [aP, lI, l0, lS]
          refine readHg (i := 7) (some 133) rfl (.agg #[.int .i64 pr.1, .int .i64 pr.2]) rfl rfl (fun _ ⟨hS1, hS2⟩ => loadN 36 _ (adr34.add (i * 2)) [.int .i64 pr.1, .int .i64 pr.2] rfl rfl (fun _ => by kernel_rfl) (fun _ => by kernel_rfl) (NewW.rng hS2 hpr)) ⟨N_1, N_2⟩ ?_
          simp only [aP, lI, l0, lS]
          refine readHg (i := 8) (some 134) rfl (.bool false) rfl rfl (fun _ ⟨hS1, hS2⟩ => neqRg _ _ _ _ rfl rfl rfl _) ⟨N_1, N_2⟩ ?_
          simp only [aP, lI, l0, lS]
          refine wpAnyH_done (by kernel_rfl) ?_ _
          first | show Exit.then _ _ _ _ _ | show Exit.inBlock _ _ _ _ _
          have HS := show Hid _ from (And.intro N_1 (And.intro N_2 M.below))
          clear M N_1 N_2
          go_wp2
          go_roundw
          case rel => exact ⟨i + 1, by omega, by go_num, HS.out⟩
          case measure => simp [intOf]; omega
        · have M := (Mm.init w0).call hB
          clear N1 N2
          go_upto_region 25 with fail
          refine wp_region_list ?_
          refine readL (.int .i64 (i : Int)) rfl (by kernel_rfl) ?_
          simp only [aP, lI, l0, lS]
          refine readL (.slice p33 rl.length c33) rfl (by kernel_rfl) ?_
          simp only [aP, lI, l0, lS]
          refine readL (.int .i64 ((rl.length : Nat) : Int)) rfl (lenS _ 33 36 p33 rl.length c33 rfl Try.underlying33 rfl _) ?_
          simp only [aP, lI, l0, lS]
          refine readL (.bool false) rfl (lssI .i64 _ _ _ _ _ _ rfl rfl rfl false (decide_eq_false (by omega)) _) ?_
          simp only [aP, lI, l0, lS]
          first | show Exit.then _ _ _ _ _ | show Exit.inBlock _ _ _ _ _
          go_upto_region 29 with fail
          refine wp_region_list ?_
          refine readL (.bool true) rfl (by kernel_rfl) ?_
          simp only [aP, lI, l0, lS]
          first | show Exit.then _ _ _ _ _ | show Exit.inBlock _ _ _ _ _
          have hbel := M.below
          clear M 
          go_wp2
          go_ret
          exact ⟨rfl, hbel⟩
theorem wlt_all {L : List Int} {c : Int} (h : ∀ x ∈ L, x < c) : wlt L c = L.length := by
  unfold wlt
  rw [List.filter_eq_self.2 (fun x hx => decide_eq_true (h x hx))]
theorem wcnt_lt (c : Int) : ∀ L : List Int, (L.filter (fun x => decide (c < x))).length + wlt L (c + 1) = L.length
  | [] => rfl
  | x :: L => by
    have ih := wcnt_lt c L
    unfold wlt at ih ⊢
    by_cases h : c < x
    · rw [List.filter_cons_of_pos (by simpa using h), List.filter_cons_of_neg (by simp; omega), List.length_cons, List.length_cons]
      omega
    · rw [List.filter_cons_of_neg (by simpa using h), List.filter_cons_of_pos (by simp; omega), List.length_cons, List.length_cons]
      omega
theorem wnx_hit {L : List Int} {last : Int} (h : WinL L) (hm : last - 1 ∈ L) (hs : wtop L - 1024 < last - 1) : wnx L last = last - 1 := by
  have h1 := wnx_ge (last := last) hm (by omega) hs
  have h0 := h.ge _ hm
  have h2 := (wnx_mem (L := L) (last := last) (by omega)).2.1
  omega
theorem wnx_skip {L : List Int} {last : Int} (h : ¬ (last - 1 ∈ L ∧ wtop L - 1024 < last - 1)) : wnx L last = wnx L (last - 1) := by
  have key : ∀ x, (x < last ∧ x ∈ L ∧ wtop L - 1024 < x) ↔ (x < last - 1 ∧ x ∈ L ∧ wtop L - 1024 < x) := fun x => by
    constructor
    · rintro ⟨h1, h2, h3⟩
      refine ⟨?_, h2, h3⟩
      by_cases e : x = last - 1
      · subst e; exact absurd ⟨h2, h3⟩ h
      · omega
    · rintro ⟨h1, h2, h3⟩
      exact ⟨by omega, h2, h3⟩
  by_cases a : wnx L last < 0
  · by_cases b : wnx L (last - 1) < 0
    · have := wnx_lo L last
      have := wnx_lo L (last - 1)
      omega
    · have hb := wnx_mem b
      have := wnx_ge hb.1 (by omega) hb.2.2 (last := last)
      omega
  · have ha := wnx_mem a
    have h1 := (key _).1 ⟨ha.2.1, ha.1, ha.2.2⟩
    have h2 := wnx_ge (last := last - 1) h1.2.1 h1.1 h1.2.2
    have hb := wnx_mem (L := L) (last := last - 1) (by omega)
    have h3 := wnx_ge hb.1 (by omega) hb.2.2 (last := last)
    omega
theorem wnx_end {L : List Int} {last : Int} (h : last ≤ wtop L - 1023 ∨ last ≤ 0) (hW : WinL L) : wnx L last < 0 := Decidable.byContradiction fun hn => by
  have h1 := wnx_mem hn
  have h2 := hW.ge _ h1.1
  omega
structure Bts (W : Nat → Nat) (f : Nat → Bool) : Prop where
  lt : ∀ i, i < 16 → W i < 2 ^ 64
  bit : ∀ i b, i < 16 → b < 64 → (W i).testBit b = f (64 * i + b)
def wsee (L : List Int) (k : Nat) : Bool := decide (wtop L - (k : Int) ∈ L)
theorem Bts.nil : Bts (fun _ => 0) (wsee []) := ⟨fun _ _ => by decide, fun i b _ _ => by rw [Nat.zero_testBit]; exact (decide_eq_false (by simp)).symm⟩
theorem Bts.congr {W : Nat → Nat} {f g : Nat → Bool} (h : Bts W f) (e : ∀ k, k < 1024 → f k = g k) : Bts W g := ⟨h.lt, fun i b hi hb => by rw [h.bit i b hi hb]; exact e _ (by omega)⟩
theorem Bts.at {W : Nat → Nat} {f : Nat → Bool} (h : Bts W f) (k : Nat) (hk : k < 1024) : (W (k / 64)).testBit (k % 64) = f k := by
  rw [h.bit _ _ (by omega) (by omega)]
  congr 1
  omega
theorem Bts.put {W V : Nat → Nat} {f : Nat → Bool} (h : Bts W f) (k : Nat) (hV : ∀ i, i < 16 → V i = if i = k / 64 then W i ||| 2 ^ (k % 64) else W i) : Bts V (fun j => decide (j = k) || f j) := by
  refine ⟨fun i hi => ?_, fun i b hi hb => ?_⟩
  · rw [hV i hi]
    split
    · exact Nat.or_lt_two_pow (h.lt i hi) (Nat.pow_lt_pow_right (by decide) (by omega))
    · exact h.lt i hi
  · rw [hV i hi]
    split
    · next e =>
      rw [Nat.testBit_or, h.bit i b hi hb, Nat.testBit_two_pow, Bool.or_comm]
      congr 1
      exact decide_eq_decide.2 (by omega)
    · next e =>
      rw [h.bit i b hi hb, decide_eq_false (by omega), Bool.false_or]
def wup (W : Nat → Nat) (d i : Nat) : Nat := if d / 64 ≤ i then W (i - d / 64) * 2 ^ (d % 64) % 2 ^ 64 else 0
def wdn (W : Nat → Nat) (d i : Nat) : Nat := if d / 64 < i then W (i - d / 64 - 1) / 2 ^ (64 - d % 64) else 0
def wst (W : Nat → Nat) (d i : Nat) : Nat := wup W d i ||| wdn W d i
theorem wup_lt (W : Nat → Nat) (d i : Nat) : wup W d i < 2 ^ 64 := by
  unfold wup
  split
  · exact Nat.mod_lt _ (by decide)
  · decide
theorem Bts.div_lt {W : Nat → Nat} {f : Nat → Bool} (h : Bts W f) (i e : Nat) (hi : i < 16) : W i / 2 ^ e < 2 ^ 64 := Nat.lt_of_le_of_lt (Nat.div_le_self _ _) (h.lt i hi)
theorem Bts.up {W : Nat → Nat} {f : Nat → Bool} (h : Bts W f) (d : Nat) : Bts (wst W d) (fun k => decide (d ≤ k) && f (k - d)) := by
  refine ⟨fun i hi => ?_, fun i b hi hb => ?_⟩
  · refine Nat.or_lt_two_pow (wup_lt W d i) ?_
    unfold wdn
    split
    · exact h.div_lt _ _ (by omega)
    · decide
  · have e1 : (wup W d i).testBit b = (decide (64 * (d / 64) + d % 64 ≤ 64 * i + b ∧ d % 64 ≤ b) && f (64 * i + b - d)) := by
      unfold wup
      by_cases c : d / 64 ≤ i
      · rw [if_pos c, Nat.testBit_mod_two_pow, decide_eq_true hb, Bool.true_and, Nat.testBit_mul_two_pow]
        by_cases c2 : d % 64 ≤ b
        · rw [decide_eq_true (show b ≥ d % 64 from c2), Bool.true_and, h.bit _ _ (by omega) (by omega), decide_eq_true (by omega), Bool.true_and]
          congr 1
          omega
        · rw [decide_eq_false (show ¬ b ≥ d % 64 from c2), Bool.false_and, decide_eq_false (by omega), Bool.false_and]
      · rw [if_neg c, Nat.zero_testBit, decide_eq_false (by omega), Bool.false_and]
    have e2 : (wdn W d i).testBit b = (decide (64 * (d / 64) + d % 64 ≤ 64 * i + b ∧ b < d % 64) && f (64 * i + b - d)) := by
      unfold wdn
      by_cases c : d / 64 < i
      · rw [if_pos c, Nat.testBit_div_two_pow]
        by_cases c2 : b < d % 64
        · rw [h.bit _ _ (by omega) (by omega), decide_eq_true (by omega), Bool.true_and]
          congr 1
          omega
        · rw [Nat.testBit_lt_two_pow (Nat.lt_of_lt_of_le (h.lt _ (by omega)) (Nat.pow_le_pow_right (by decide) (by omega))), decide_eq_false (by omega), Bool.false_and]
      · rw [if_neg c, Nat.zero_testBit, decide_eq_false (by omega), Bool.false_and]
    unfold wst
    rw [Nat.testBit_or, e1, e2, ← Bool.and_or_distrib_right]
    congr 1
    rw [← Bool.decide_or]
    exact decide_eq_decide.2 (by omega)
theorem wsee_put {L : List Int} {n : Int} {k : Nat} (hk : wtop L - n = (k : Int)) (j : Nat) : (decide (j = k) || wsee L j) = wsee (L ++ [n]) j := by
  unfold wsee
  rw [← Bool.decide_or, wtop_app, show max (wtop L) n = wtop L by omega]
  refine decide_eq_decide.2 ?_
  rw [List.mem_append, List.mem_singleton]
  constructor
  · rintro (h | h)
    · exact .inr (by omega)
    · exact .inl h
  · rintro (h | h)
    · exact .inr h
    · exact .inl (by omega)
theorem wsee_up {L : List Int} {n : Int} {d : Nat} (hd : n - wtop L = (d : Int)) (h1 : 1 ≤ d) (j : Nat) : (decide (j = 0) || (decide (d ≤ j) && wsee L (j - d))) = wsee (L ++ [n]) j := by
  unfold wsee
  rw [← Bool.decide_and, ← Bool.decide_or, wtop_app, show max (wtop L) n = n by omega]
  refine decide_eq_decide.2 ?_
  rw [List.mem_append, List.mem_singleton]
  constructor
  · rintro (h | ⟨h, h2⟩)
    · exact .inr (by omega)
    · refine .inl ?_
      rw [show n - (j : Int) = wtop L - ((j - d : Nat) : Int) by omega]
      exact h2
  · rintro (h | h)
    · have := wtop_le h
      refine .inr ⟨by omega, ?_⟩
      rw [show wtop L - ((j - d : Nat) : Int) = n - (j : Int) by omega]
      exact h
    · exact .inl (by omega)
def Wds (W : Nat → Nat) (L : List Int) : Prop := Bts W (wsee L)
theorem Wds.at {W : Nat → Nat} {L : List Int} (h : Wds W L) {n : Int} {k : Nat} (hk : wtop L - n = (k : Int)) (hlt : k < 1024) : (W (k / 64)).testBit (k % 64) = decide (n ∈ L) := by
  rw [Bts.at h k hlt]
  unfold wsee
  rw [← hk]
  exact decide_eq_decide.2 (by rw [show wtop L - (wtop L - n) = n by omega])
def fct (f : Nat → Bool) : Nat → Nat
  | 0 => 0
  | n + 1 => fct f n + (if f n then 1 else 0)
theorem fct_succ (f : Nat → Bool) (n : Nat) : fct f (n + 1) = fct f n + (if f n then 1 else 0) := rfl
theorem fct_le (f : Nat → Bool) : ∀ n, fct f n ≤ n
  | 0 => Nat.le_refl _
  | n + 1 => by
    have := fct_le f n
    unfold fct
    split <;> omega
theorem fct_add (f : Nat → Bool) (m : Nat) : ∀ n, fct f (m + n) = fct f m + fct (fun j => f (m + j)) n
  | 0 => rfl
  | n + 1 => by
    have ih := fct_add f m n
    rw [show m + (n + 1) = m + n + 1 by omega, fct_succ, fct_succ, ih]
    omega
theorem fct_congr {f g : Nat → Bool} : ∀ n, (∀ j, j < n → f j = g j) → fct f n = fct g n
  | 0, _ => rfl
  | n + 1, h => by
    rw [fct_succ, fct_succ, fct_congr n (fun j hj => h j (by omega)), h n (by omega)]
theorem fct_see (L : List Int) (hL : WinL L) : ∀ n : Nat, wlt L (wtop L + 1) = wlt L (wtop L + 1 - (n : Int)) + fct (wsee L) n
  | 0 => by rw [show wtop L + 1 - ((0 : Nat) : Int) = wtop L + 1 by omega]; rfl
  | n + 1 => by
    rw [fct_see L hL n, fct_succ, show wtop L + 1 - ((n + 1 : Nat) : Int) = wtop L - (n : Int) by omega, show wtop L + 1 - (n : Int) = wtop L - (n : Int) + 1 by omega]
    by_cases hm : wtop L - (n : Int) ∈ L
    · rw [show wsee L n = true from decide_eq_true hm, if_pos rfl, wlt_step (nx := wtop L - (n : Int)) (by omega) hL.nd hm (fun x _ hx => by omega)]
      omega
    · rw [show wsee L n = false from decide_eq_false hm, if_neg (by decide), wlt_same (nx := wtop L - (n : Int)) (by omega) hm (fun x _ hx => by omega)]
      omega
theorem fct_cnt {L : List Int} (h : WinL L) : fct (wsee L) 1024 = wcnt L := by
  have h1 := fct_see L h 1024
  have h2 := wcnt_lt (wtop L - 1024) L
  have h3 : wlt L (wtop L + 1) = L.length := wlt_all fun x hx => by have := wtop_le hx; omega
  rw [show wtop L + 1 - ((1024 : Nat) : Int) = wtop L - 1024 + 1 by omega] at h1
  unfold wcnt
  omega
def pc64 (x : Nat) : Nat := fct x.testBit 64
theorem Bts.sum {W : Nat → Nat} {f : Nat → Bool} (h : Bts W f) (j : Nat) (hj : j < 16) : fct f (64 * j) + pc64 (W j) = fct f (64 * (j + 1)) := by
  rw [show 64 * (j + 1) = 64 * j + 64 by omega, fct_add]
  unfold pc64
  rw [fct_congr 64 (fun b hb => h.bit j b hj hb)]
theorem shr64 (x e : Nat) (he : e ≤ 64) : (x : Int) / 2 ^ min ((e : Nat) : Int).toNat IntKind.u64.bits = ((x / 2 ^ e : Nat) : Int) := by
  have h1 : min ((e : Nat) : Int).toNat IntKind.u64.bits = e := by
    show min ((e : Nat) : Int).toNat 64 = e
    omega
  rw [h1]
  norm_cast
theorem shl64 (x e : Nat) (he : e ≤ 64) : IntKind.u64.wrap ((x : Int) * 2 ^ min ((e : Nat) : Int).toNat IntKind.u64.bits) = ((x * 2 ^ e % 2 ^ 64 : Nat) : Int) := by
  have h1 : min ((e : Nat) : Int).toNat IntKind.u64.bits = e := by
    show min ((e : Nat) : Int).toNat 64 = e
    omega
  rw [h1, show (x : Int) * 2 ^ e = ((x * 2 ^ e : Nat) : Int) by norm_cast, IntKind.wrap_u64]
  omega
theorem and64 (x y : Nat) (hx : x < 2 ^ 64) (hy : y < 2 ^ 64) : bits .and .u64 (x : Int) (y : Int) = ((x &&& y : Nat) : Int) := by
  have key : (BitVec.ofInt 64 (x : Int) &&& BitVec.ofInt 64 (y : Int)).toNat = x &&& y := by
    rw [BitVec.toNat_and, BitVec.toNat_ofInt, BitVec.toNat_ofInt, show ((x : Int) % ((2 ^ 64 : Nat) : Int)).toNat = x by omega, show ((y : Int) % ((2 ^ 64 : Nat) : Int)).toNat = y by omega]
  show IntKind.u64.wrap ((BitVec.ofInt 64 (x : Int) &&& BitVec.ofInt 64 (y : Int)).toNat : Nat) = _
  rw [key, IntKind.wrap_u64]
  have := Nat.and_lt_two_pow x hy
  omega
theorem or64 (x y : Nat) (hx : x < 2 ^ 64) (hy : y < 2 ^ 64) : bits .or .u64 (x : Int) (y : Int) = ((x ||| y : Nat) : Int) := by
  have key : (BitVec.ofInt 64 (x : Int) ||| BitVec.ofInt 64 (y : Int)).toNat = x ||| y := by
    rw [BitVec.toNat_or, BitVec.toNat_ofInt, BitVec.toNat_ofInt, show ((x : Int) % ((2 ^ 64 : Nat) : Int)).toNat = x by omega, show ((y : Int) % ((2 ^ 64 : Nat) : Int)).toNat = y by omega]
  show IntKind.u64.wrap ((BitVec.ofInt 64 (x : Int) ||| BitVec.ofInt 64 (y : Int)).toNat : Nat) = _
  rw [key, IntKind.wrap_u64]
  have := Nat.or_lt_two_pow hx hy
  omega
theorem and_i64 (x : Nat) (hx : x < 2 ^ 63) : bits .and .i64 (x : Int) 127 = ((x % 128 : Nat) : Int) := by
  have h127 : (BitVec.ofInt 64 127).toNat = 2 ^ 7 - 1 := by decide
  have key : (BitVec.ofInt 64 (x : Int) &&& BitVec.ofInt 64 127).toNat = x % 2 ^ 7 := by
    rw [BitVec.toNat_and, BitVec.toNat_ofInt, h127, Nat.and_two_pow_sub_one_eq_mod, show ((x : Int) % ((2 ^ 64 : Nat) : Int)).toNat = x by omega]
  show IntKind.i64.wrap ((BitVec.ofInt 64 (x : Int) &&& BitVec.ofInt 64 127).toNat : Nat) = _
  rw [key, IntKind.wrap_i64]
  omega
theorem bit64 (x e : Nat) (hx : x < 2 ^ 64) : bits .and .u64 ((x / 2 ^ e : Nat) : Int) 1 = (if x.testBit e then 1 else 0) := by
  rw [show (1 : Int) = ((1 : Nat) : Int) from rfl, and64 _ 1 (Nat.lt_of_le_of_lt (Nat.div_le_self _ _) hx) (by decide), Nat.and_one_is_mod]
  rw [Nat.testBit_eq_decide_div_mod_eq]
  by_cases h : x / 2 ^ e % 2 = 1
  · rw [h, decide_eq_true rfl]; rfl
  · rw [decide_eq_false h, show x / 2 ^ e % 2 = 0 by omega]; rfl
def rep8 (d : Nat) : Nat → Nat
  | 0 => 0
  | k + 1 => d + 256 * rep8 d k
theorem and_byte (a b c d : Nat) (ha : a < 256) (hc : c < 256) : (a + 256 * b) &&& (c + 256 * d) = (a &&& c) + 256 * (b &&& d) := by
  have h1 : ((a + 256 * b) &&& (c + 256 * d)) % 2 ^ 8 = a &&& c := by
    rw [Nat.and_mod_two_pow, show (a + 256 * b) % 2 ^ 8 = a by omega, show (c + 256 * d) % 2 ^ 8 = c by omega]
  have h2 : ((a + 256 * b) &&& (c + 256 * d)) / 2 ^ 8 = b &&& d := by
    rw [Nat.and_div_two_pow, show (a + 256 * b) / 2 ^ 8 = b by omega, show (c + 256 * d) / 2 ^ 8 = d by omega]
  omega
def oc1 (x m : Nat) : Nat := (x / 2 &&& m) + (x &&& m)
def oc2 (x m : Nat) : Nat := (x / 4 &&& m) + (x &&& m)
def oc3 (x m : Nat) : Nat := (x / 16 + x) &&& m
theorem oc1_b : ∀ b, b < 256 → ∀ e, e < 2 → ((b / 2 + 128 * e) &&& 85) = (b / 2 &&& 85) ∧ oc1 b 85 < 256 := by decide +kernel
theorem oc2_b : ∀ b, b < 256 → ∀ e, e < 4 → ((b / 4 + 64 * e) &&& 51) = (b / 4 &&& 51) ∧ oc2 b 51 < 256 := by decide +kernel
theorem oc3_b : ∀ b, b < 69 → ∀ e, e < 5 → ((b / 16 + b + 16 * e) &&& 15) = oc3 b 15 := by decide +kernel
theorem oc_b : ∀ b, b < 256 → oc2 (oc1 b 85) 51 < 69 ∧ oc2 (oc1 b 85) 51 % 16 < 5 ∧ oc3 (oc2 (oc1 b 85) 51) 15 = fct b.testBit 8 := by decide +kernel
theorem oc1_step (b c m : Nat) (hb : b < 256) : oc1 (b + 256 * c) (85 + 256 * m) = oc1 b 85 + 256 * oc1 c m := by
  unfold oc1
  rw [show (b + 256 * c) / 2 = (b / 2 + 128 * (c % 2)) + 256 * (c / 2) by omega, and_byte _ _ _ _ (by omega) (by decide), and_byte _ _ _ _ hb (by decide), (oc1_b b hb (c % 2) (by omega)).1]
  omega
theorem oc2_step (b c m : Nat) (hb : b < 256) : oc2 (b + 256 * c) (51 + 256 * m) = oc2 b 51 + 256 * oc2 c m := by
  unfold oc2
  rw [show (b + 256 * c) / 4 = (b / 4 + 64 * (c % 4)) + 256 * (c / 4) by omega, and_byte _ _ _ _ (by omega) (by decide), and_byte _ _ _ _ hb (by decide), (oc2_b b hb (c % 4) (by omega)).1]
  omega
theorem oc3_step (b c m : Nat) (hb : b < 69) (hc : c % 16 < 5) : oc3 (b + 256 * c) (15 + 256 * m) = oc3 b 15 + 256 * oc3 c m := by
  have e := oc3_b b hb (c % 16) hc
  unfold oc3 at e ⊢
  rw [show (b + 256 * c) / 16 + (b + 256 * c) = (b / 16 + b + 16 * (c % 16)) + 256 * (c / 16 + c) by omega, and_byte _ _ _ _ (by omega) (by decide), e]
def ocs : Nat → Nat → Nat
  | 0, _ => 0
  | k + 1, x => fct (x % 256).testBit 8 + 256 * ocs k (x / 256)
theorem oc_all : ∀ (k x : Nat), x < 256 ^ k → oc2 (oc1 x (rep8 85 k)) (rep8 51 k) % 16 < 5 ∧ oc3 (oc2 (oc1 x (rep8 85 k)) (rep8 51 k)) (rep8 15 k) = ocs k x
  | 0, x, hx => by
    obtain rfl : x = 0 := by simpa using hx
    decide
  | k + 1, x, hx => by
    have hx' : x / 256 < 256 ^ k := by rw [Nat.pow_succ] at hx; omega
    obtain ⟨ih1, ih2⟩ := oc_all k (x / 256) hx'
    obtain ⟨b1, b2, b3⟩ := oc_b (x % 256) (by omega)
    have l1 := (oc1_b (x % 256) (by omega) 0 (by decide)).2
    have l2 := (oc2_b (oc1 (x % 256) 85) l1 0 (by decide)).2
    have e : oc2 (oc1 x (rep8 85 (k + 1))) (rep8 51 (k + 1)) = oc2 (oc1 (x % 256) 85) 51 + 256 * oc2 (oc1 (x / 256) (rep8 85 k)) (rep8 51 k) := by
      show oc2 (oc1 x (85 + 256 * rep8 85 k)) (51 + 256 * rep8 51 k) = _
      rw [show oc1 x (85 + 256 * rep8 85 k) = oc1 (x % 256 + 256 * (x / 256)) (85 + 256 * rep8 85 k) by rw [Nat.mod_add_div], oc1_step _ _ _ (by omega), oc2_step _ _ _ l1]
    rw [e]
    refine ⟨by omega, ?_⟩
    show oc3 _ (15 + 256 * rep8 15 k) = fct (x % 256).testBit 8 + 256 * ocs k (x / 256)
    rw [oc3_step _ _ _ b1 ih1, b3, ih2]
theorem ocs_pc : ∀ k x : Nat, fct x.testBit (8 * (k + 1)) = fct (x % 256).testBit 8 + fct (x / 256).testBit (8 * k) := fun k x => by
  rw [show 8 * (k + 1) = 8 + 8 * k by omega, fct_add, show (256 : Nat) = 2 ^ 8 from rfl]
  congr 1
  · exact fct_congr 8 fun j hj => by rw [Nat.testBit_mod_two_pow, decide_eq_true hj, Bool.true_and]
  · exact fct_congr _ fun j _ => by rw [Nat.testBit_div_two_pow, Nat.add_comm]
def osm : Nat → Nat → Nat
  | 0, _ => 0
  | k + 1, x => fct (x % 256).testBit 8 + osm k (x / 256)
theorem osm_pc : ∀ k x : Nat, fct x.testBit (8 * k) = osm k x
  | 0, _ => rfl
  | k + 1, x => by rw [ocs_pc, osm_pc k]; rfl
def oc4 (x : Nat) : Nat := x + x / 256
def oc5 (x : Nat) : Nat := x + x / 65536
def oc6 (x : Nat) : Nat := x + x / 4294967296
theorem oc_sum (a b c d e f g h : Nat) (ha : a ≤ 8) (hb : b ≤ 8) (hc : c ≤ 8) (hd : d ≤ 8) (he : e ≤ 8) (hf : f ≤ 8) (hg : g ≤ 8) (hh : h ≤ 8) :
    oc6 (oc5 (oc4 (a + 256 * (b + 256 * (c + 256 * (d + 256 * (e + 256 * (f + 256 * (g + 256 * h))))))))) % 128 = a + b + c + d + e + f + g + h := by
  have h4 : oc4 (a + 256 * (b + 256 * (c + 256 * (d + 256 * (e + 256 * (f + 256 * (g + 256 * h))))))) = (a + b) + 256 * ((b + c) + 256 * ((c + d) + 256 * ((d + e) + 256 * ((e + f) + 256 * ((f + g) + 256 * ((g + h) + 256 * h)))))) := by unfold oc4; omega
  have h5 : oc5 ((a + b) + 256 * ((b + c) + 256 * ((c + d) + 256 * ((d + e) + 256 * ((e + f) + 256 * ((f + g) + 256 * ((g + h) + 256 * h))))))) = (a + b + c + d) + 256 * ((b + c + d + e) + 256 * ((c + d + e + f) + 256 * ((d + e + f + g) + 256 * ((e + f + g + h) + 256 * ((f + g + h) + 256 * ((g + h) + 256 * h)))))) := by unfold oc5; omega
  have h6 : ((a + b + c + d) + 256 * ((b + c + d + e) + 256 * ((c + d + e + f) + 256 * ((d + e + f + g) + 256 * ((e + f + g + h) + 256 * ((f + g + h) + 256 * ((g + h) + 256 * h))))))) / 4294967296 = (e + f + g + h) + 256 * ((f + g + h) + 256 * ((g + h) + 256 * h)) := by omega
  rw [h4, h5]
  unfold oc6
  rw [h6]
  clear h4 h5 h6
  omega
theorem oc_pc (x : Nat) (hx : x < 2 ^ 64) : oc6 (oc5 (oc4 (oc3 (oc2 (oc1 x 6148914691236517205) 3689348814741910323) 1085102592571150095))) % 128 = pc64 x := by
  have e := (oc_all 8 x (by simpa using hx)).2
  rw [show rep8 85 8 = 6148914691236517205 from rfl, show rep8 51 8 = 3689348814741910323 from rfl, show rep8 15 8 = 1085102592571150095 from rfl] at e
  rw [e]
  unfold pc64
  rw [show (64 : Nat) = 8 * 8 from rfl, osm_pc]
  show oc6 (oc5 (oc4 (_ + 256 * (_ + 256 * (_ + 256 * (_ + 256 * (_ + 256 * (_ + 256 * (_ + 256 * (_ + 256 * 0)))))))))) % 128 = _
  rw [Nat.mul_zero, Nat.add_zero, oc_sum _ _ _ _ _ _ _ _ (fct_le _ _) (fct_le _ _) (fct_le _ _) (fct_le _ _) (fct_le _ _) (fct_le _ _) (fct_le _ _) (fct_le _ _)]
  show _ = _ + (_ + (_ + (_ + (_ + (_ + (_ + (_ + 0)))))))
  omega
theorem oc1_lt (x : Nat) : oc1 x 6148914691236517205 < 2 ^ 64 := by
  have h1 := Nat.and_le_right (n := x / 2) (m := 6148914691236517205)
  have h2 := Nat.and_le_right (n := x) (m := 6148914691236517205)
  unfold oc1
  omega
theorem oc2_lt (x : Nat) : oc2 x 3689348814741910323 ≤ 7378697629483820646 := by
  have h1 := Nat.and_le_right (n := x / 4) (m := 3689348814741910323)
  have h2 := Nat.and_le_right (n := x) (m := 3689348814741910323)
  unfold oc2
  omega
theorem oc3_lt (x : Nat) : oc3 x 1085102592571150095 ≤ 1085102592571150095 := Nat.and_le_right
theorem setL_left : ∀ (ds a rest : List Value), ds.length = a.length → setL (a ++ rest) 0 ds = ds ++ rest := by
  have key : ∀ (ds pre a rest : List Value), ds.length = a.length → setL (pre ++ (a ++ rest)) pre.length ds = pre ++ (ds ++ rest) := by
    intro ds
    induction ds with
    | nil =>
      intro pre a rest h
      have : a = [] := List.eq_nil_of_length_eq_zero (by simpa using h.symm)
      subst this
      rfl
    | cons d ds ih =>
      intro pre a rest h
      cases a with
      | nil => cases h
      | cons x a =>
        have h2 : ds.length = a.length := by simpa using h
        have e : (pre ++ (x :: a ++ rest)).set pre.length d = (pre ++ [d]) ++ (a ++ rest) := by simp
        show setL ((pre ++ (x :: a ++ rest)).set pre.length d) (pre.length + 1) ds = _
        rw [e]
        have := ih (pre ++ [d]) a rest h2
        rw [List.length_append] at this
        rw [show pre.length + 1 = pre.length + [d].length from rfl, this]
        simp
  intro ds a rest h
  have := key ds [] a rest h
  simpa using this
theorem setL_pre (pre : List Value) : ∀ (ds l : List Value) (o : Nat), setL (pre ++ l) (pre.length + o) ds = pre ++ setL l o ds
  | [], _, _ => rfl
  | d :: ds, l, o => by
    show setL ((pre ++ l).set (pre.length + o) d) (pre.length + o + 1) ds = pre ++ setL (l.set o d) (o + 1) ds
    rw [List.set_append_right _ _ (by omega), Nat.add_sub_cancel_left, Nat.add_assoc, setL_pre pre ds (l.set o d) (o + 1)]
end Go.Proofs.Ytglnmmajgedinaa
