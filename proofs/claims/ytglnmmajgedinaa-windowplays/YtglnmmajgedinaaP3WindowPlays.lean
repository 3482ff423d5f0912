/- Texts of Ff Gm Fg Fh Fi, joined. -/
import Derived.Test.YtglnmmajgedinaaP2WindowPlays
import Derived.Test.YtglnmmajgedinaaP1WindowPlays
import Derived.Laws.StructEq
import Derived.Laws.Small
set_option maxRecDepth 20000
set_option maxHeartbeats 64000000
namespace Go.Proofs.Ytglnmmajgedinaa
open Go.RowKit
def wrc : List (Int × Int) → List Value
  | [] => []
  | p :: l => .int .i64 p.1 :: .int .i64 p.2 :: wrc l
theorem wrc_len : ∀ l : List (Int × Int), (wrc l).length = l.length * 2
  | [] => rfl
  | _ :: l => by show (wrc l).length + 1 + 1 = (l.length + 1) * 2; rw [wrc_len l]; omega
theorem wrc_one : ∀ (l : List (Int × Int)), ∀ u ∈ wrc l, u.oneCell' = true
  | [], _, h => by cases h
  | p :: l, u, h => by
    rcases List.mem_cons.1 h with rfl | h
    · rfl
    rcases List.mem_cons.1 h with rfl | h
    · rfl
    exact wrc_one l u h
theorem manyW : Many Try.prog 36 (.agg #[.int .i64 0, .int .i64 0]) 16 2 := ⟨by kernel_rfl⟩
theorem Mm.ofRow {w0 w : World} {l : List (Nat × List Value)} (h : Mm w0 l w) {base : Nat} {e : TypeId} {size n : Nat} {xs : List Value} {v : Value} {g : Nat} (hr : w.ownsRow base e size v n xs) (hg : v.ownBlock = some g) (h0 : w0.heap.size ≤ base) (hne : ∀ p ∈ l, p.1 ≠ g) : Mm w0 ((g, xs) :: l) w := by
  have hlt := World.ownsRow.lt hr g hg
  refine ⟨fun p hp => ?_, List.pairwise_cons.2 ⟨fun p hp => (hne p hp).symm, h.apart⟩, h.below⟩
  rcases List.mem_cons.1 hp with rfl | hp
  · refine ⟨fun j hj => ⟨?_, ?_⟩, by simp only; omega, hlt.2⟩
    · have := World.ownsRow.cells hr hg j _ (List.getElem?_eq_getElem hj)
      rw [Addr.add_mid, Nat.zero_add] at this
      rw [this, List.getElem?_eq_getElem hj]
    · rcases hr.2 with ⟨rfl, _⟩ | ⟨g', cap, cur, rfl, _, hgg, _⟩
      · cases hg
      · obtain rfl : g' = g := by simpa [Value.ownBlock] using hg
        unfold World.frozen?
        simp only
        rw [hgg]
        simp
  · exact h.rows p hp
theorem row_lit (w : World) (base : Nat) (a b : Int) (hb : base ≤ w.heap.size) : (w.alloc (.cells #[.int .i64 a, .int .i64 b] 36)).ownsRow base 36 2 (.slice (some ⟨w.heap.size, 0, none⟩) 1 1) 1 [.int .i64 a, .int .i64 b] :=
  ⟨rfl, .inr ⟨w.heap.size, 1, _, rfl, hb, heap_alloc_new w _, Nat.le_refl _, by unfold maxLen; omega, rfl, rfl⟩⟩
theorem idxSm {P : Program} {o : Oper} {a : Act} (t e : TypeId) (len cap m : Nat) (k : IntKind) (ad : Addr) (i : Nat) (x y : Operand) (hu : P.underlying t = some (.slice e)) (hsz : ∀ w, (sizeOf e).run P w = .ok m w) (hi : i < len) (ho : o.op = .indexAddr t x y) (hx : a.eval x = .slice (some ad) len cap) (hy : a.eval y = .int k (i : Int)) (w : World) :
    (execOp a.eval o).run P w = .ok (.value (.pointer (some (ad.add (i * m))))) w := by
  have e1 : (Instr.indexAt t (.slice (some ad) len cap) (.int k (i : Int))).run P w = .ok (.pointer (some (ad.add (i * m)))) w := by
    simp [Instr.indexAt, run_underlying hu, asIntOf, hsz]
    intro hf
    omega
  unfold execOp
  simp only [ho, hx, hy, Sem.run_bind, e1, Result.andThen_ok, Sem.run_pure]
theorem idxR (g len cap : Nat) (hi : 0 < len) {o : Oper} {a : Act} (x y : Operand) (ho : o.op = .indexAddr 33 x y) (hx : a.eval x = .slice (some ⟨g, 0, none⟩) len cap) (hy : a.eval y = .int .i64 0) (w : World) : (execOp a.eval o).run Try.prog w = .ok (.value (.pointer (some ⟨g, 0, none⟩))) w :=
  idxSm 33 36 len cap 2 .i64 ⟨g, 0, none⟩ 0 x y Try.underlying33 (fun _ => by kernel_rfl) hi ho hx hy w
theorem row_slice {w : World} {base : Nat} {e : TypeId} {size n : Nat} {xs : List Value} {v : Value} (h : w.ownsRow base e size v n xs) (hn : 0 < n) : ∃ g cap, v = .slice (some ⟨g, 0, none⟩) n cap ∧ n ≤ cap := by
  rcases h.2 with ⟨rfl, h0⟩ | ⟨g, cap, cur, rfl, _, _, hc, _⟩
  · omega
  · exact ⟨g, cap, rfl, hc⟩
def wnj (L : List Int) (last : Int) (j : Nat) : Int := (L.take j).foldl (fun nx x => if x < last ∧ nx < x ∧ wtop L - 1024 < x then x else nx) (-1)
theorem wnj_step {L : List Int} {last : Int} {j : Nat} (h : j < L.length) : wnj L last (j + 1) = if bl L j < last ∧ wnj L last j < bl L j ∧ wtop L - 1024 < bl L j then bl L j else wnj L last j := by
  unfold wnj
  rw [take_bl h, List.foldl_append]
  rfl
theorem wnj_all (L : List Int) (last : Int) : wnj L last L.length = wnx L last := by unfold wnj wnx; rw [List.take_length]
def LV (l : List (Int × Int)) (v : Value) (own : List (Nat × List Value)) : Prop := (l = [] ∧ v = .slice none 0 0 ∧ own = []) ∨ (∃ g cap, l ≠ [] ∧ v = .slice (some ⟨g, 0, none⟩) l.length cap ∧ l.length ≤ cap ∧ own = [(g, wrc l)])
def NewW (w : World) (base : Nat) (l : List (Int × Int)) (v : Value) : Prop := ∃ sp cap, v = .slice sp l.length cap ∧ l.length ≤ cap ∧ (sp = none → cap = 0) ∧ (∀ j u, (wrc l)[j]? = some u → ∃ ad, sp = some ad ∧ w.cell? (ad.add j) = some u) ∧ ∀ a, sp = some a → base ≤ a.block ∧ a.block < w.heap.size
theorem LV.new {w w' : World} {l : List (Int × Int)} {v : Value} {own : List (Nat × List Value)} (h : LV l v own) (N : Mm w own w') : NewW w' w.heap.size l v := by
  rcases h with ⟨rfl, rfl, rfl⟩ | ⟨g, cap, _, rfl, hc, rfl⟩
  · exact ⟨none, 0, rfl, Nat.le_refl _, fun _ => rfl, fun j u hu => (by cases hu), fun a e => (by cases e)⟩
  · exact ⟨some ⟨g, 0, none⟩, cap, rfl, hc, fun e => (by cases e), fun j u hu => ⟨_, rfl, N.rangeAt mS j u hu⟩, fun a e => by cases e; exact ⟨N.lo mS, N.lt mS⟩⟩
theorem wbl_stop {L : List Int} {most : Int} {k : Nat} {l : List (Int × Int)} {last : Int} (h : wnx L last < 0) : wbl L most k l last = l := by
  cases k with
  | zero => rfl
  | succ k => unfold wbl; rw [if_pos h]
theorem wbl_full {L : List Int} {most : Int} {k : Nat} {l : List (Int × Int)} {last : Int} (h : ¬ wnx L last < 0) (hp : wput most (wnx L last) l = none) : wbl L most (k + 1) l last = l := by unfold wbl; rw [if_neg h, hp]
theorem wbl_more {L : List Int} {most : Int} {k : Nat} {l l' : List (Int × Int)} {last : Int} (h : ¬ wnx L last < 0) (hp : wput most (wnx L last) l = some l') : wbl L most (k + 1) l last = wbl L most k l' (wnx L last) := by rw [wbl, if_neg h, hp]
theorem wput_wide {most nx a b : Int} {t : List (Int × Int)} (h : a = nx + 1) : wput most nx ((a, b) :: t) = some ((nx, b) :: t) := if_pos h
theorem wput_new {most nx a b : Int} {t : List (Int × Int)} (h : ¬ a = nx + 1) (hm : ¬ most ≤ (((a, b) :: t).length : Int)) : wput most nx ((a, b) :: t) = some ((nx, nx + 1) :: (a, b) :: t) := by unfold wput; simp only; rw [if_neg h, if_neg hm]
theorem wput_full {most nx a b : Int} {t : List (Int × Int)} (h : ¬ a = nx + 1) (hm : most ≤ (((a, b) :: t).length : Int)) : wput most nx ((a, b) :: t) = none := by unfold wput; simp only; rw [if_neg h, if_pos hm]
theorem wput_nil {most nx : Int} (hm : ¬ most ≤ 0) : wput most nx [] = some [(nx, nx + 1)] := if_neg hm
theorem wput_nilfull {most nx : Int} (hm : most ≤ 0) : wput most nx [] = none := if_pos hm
theorem rbelow14_any (w0 w : World) (R : Nat) (l : List (Nat × List Value)) (L : List Int) (sp : Option Addr) (cap : Nat) (most : Int) (hI : WinI w sp L) (M : Mm w0 ((R, [.slice sp L.length cap]) :: l) w) :
    Calls Try.prog 20 #[.pointer (some ⟨R, 0, none⟩), .int .i64 most] w fun e w' => (∃ v, e = .returned v ∧ NewW w' w.heap.size (wbel L most) v) ∧ Below w.heap.size w w' := by
  have hLn := hI.len
  go_enter Try.func20, Try.ntmps20
  have hT1 := wtop_ge L
  have hT2 := wtop_max hI.win
  have hM0 := M.below.size
  have hML : ∀ p ∈ ((R, [Value.slice sp L.length cap]) :: l), p.1 < w.heap.size := fun p hp => (M.rows p hp).2.2
  have N := Mm.init w
  go_upto_region 0 with fail
  refine wp_region_list ?_
  refine readL (.slice none 0 0) rfl (by kernel_rfl) ?_
  simp only [aP, lI, l0, lS]
  first | show Exit.then _ _ _ _ _ | show Exit.inBlock _ _ _ _ _
  go_upto_region 1 with fail
  refine wp_region_list ?_
  refine readL (.slice none 0 0) rfl (by kernel_rfl) ?_
  simp only [aP, lI, l0, lS]
  first | show Exit.then _ _ _ _ _ | show Exit.inBlock _ _ _ _ _
  go_upto_region 2 with fail
  refine wp_region_list ?_
  refine readL (.pointer (some ⟨R, 0, none⟩)) rfl (by kernel_rfl) ?_
  simp only [aP, lI, l0, lS]
  refine callL rfl (fun _ => by kernel_rfl) (rtop_any w0 _ R _ L sp cap (hI.below N.below) M) ?_
  rintro e w1 ⟨rfl, l⟩
  replace M := M.call l
  replace N := N.call l
  clear l
  refine ⟨_, rfl, ?_⟩
  simp only [aP, lI, l0, lS]
  refine readL (.int .i64 (wtop L)) rfl (by kernel_rfl) ?_
  simp only [aP, lI, l0, lS]
  first | show Exit.then _ _ _ _ _ | show Exit.inBlock _ _ _ _ _
  have HI := show Hid _ from (And.intro M N)
  clear M N
  go_wp2
  go_loopw [5, 6] (fun vl la w' => ∃ (k : Nat) (rl : List (Int × Int)) (last : Int) (own : List (Nat × List Value)) (lv : Value), la = .int .i64 last ∧ wlt L last < k ∧ wbl L most k rl last = wbel L most ∧ rl.length + wlt L last ≤ L.length ∧ -1 ≤ last ∧ LV rl lv own ∧ lv = vl ∧ Mm w0 ((R, [.slice sp L.length cap]) :: l) w' ∧ Mm w own w') (fun _ la _ => (intOf la + 1).toNat)
  case atStart => exact ⟨L.length + 1, [], wtop L, [], .slice none 0 0, rfl, by have := wlt_le L (wtop L); omega, rfl, by have := wlt_le L (wtop L); simpa using this, hT1, .inl ⟨rfl, rfl, rfl⟩, rfl, HI.out⟩
  case round =>
    clear HI
    obtain ⟨k, rl, last, own, lv, rfl, hk, hbel, hrl, hlast, hV, rfl, M, N⟩ := hrel
    obtain ⟨k, rfl⟩ : ∃ k', k = k' + 1 := ⟨k - 1, by omega⟩
    replace hbel := show Hid _ from hbel
    by_cases h0 : L.length = 0
    · go_upto_region 3 with fail
      refine wp_region_list ?_
      refine readL (.pointer (some ⟨R, 0, none⟩)) rfl (by kernel_rfl) ?_
      simp only [aP, lI, l0, lS]
      refine readL (.pointer (some ⟨R, 0, none⟩)) rfl (by kernel_rfl) ?_
      simp only [aP, lI, l0, lS]
      refine readL (.pointer (some ⟨R, 0, none⟩)) rfl (by kernel_rfl) ?_
      simp only [aP, lI, l0, lS]
      refine readL (.slice sp L.length cap) rfl (load1 22 _ ⟨R, 0, none⟩ _ rfl rfl (fun _ => by kernel_rfl) (M.get mS 0 _ rfl)) ?_
      simp only [aP, lI, l0, lS]
      refine readL (.int .i64 ((L.length : Nat) : Int)) rfl (lenS _ 22 3 sp L.length cap rfl Try.underlying22 rfl _) ?_
      simp only [aP, lI, l0, lS]
      refine readL (.bool false) rfl (gtrI .i64 _ _ _ _ _ _ rfl rfl rfl false (decide_eq_false (by omega)) _) ?_
      simp only [aP, lI, l0, lS]
      first | show Exit.then _ _ _ _ _ | show Exit.inBlock _ _ _ _ _
      obtain rfl : L = [] := List.eq_nil_of_length_eq_zero h0
      go_upto_region 16 with fail
      refine wp_region_list ?_
      refine readL (lv) rfl (by kernel_rfl) ?_
      simp only [aP, lI, l0, lS]
      refine readL (lv) rfl (by kernel_rfl) ?_
      simp only [aP, lI, l0, lS]
      first | show Exit.then _ _ _ _ _ | show Exit.inBlock _ _ _ _ _
      have hE := show Hid _ from (hbel.out.symm.trans (wbl_stop (show wnx [] last < 0 by show (-1 : Int) < 0; decide)))
      have HS := show Hid _ from (And.intro (LV.new hV N) N.below)
      clear M N hI hV
      go_wp2
      go_ret
      exact ⟨⟨_, rfl, by rw [hE.out]; exact HS.out.1⟩, HS.out.2⟩
    · go_upto_region 3 with fail
      refine wp_region_list ?_
      refine readL (.pointer (some ⟨R, 0, none⟩)) rfl (by kernel_rfl) ?_
      simp only [aP, lI, l0, lS]
      refine readL (.pointer (some ⟨R, 0, none⟩)) rfl (by kernel_rfl) ?_
      simp only [aP, lI, l0, lS]
      refine readL (.pointer (some ⟨R, 0, none⟩)) rfl (by kernel_rfl) ?_
      simp only [aP, lI, l0, lS]
      refine readL (.slice sp L.length cap) rfl (load1 22 _ ⟨R, 0, none⟩ _ rfl rfl (fun _ => by kernel_rfl) (M.get mS 0 _ rfl)) ?_
      simp only [aP, lI, l0, lS]
      refine readL (.int .i64 ((L.length : Nat) : Int)) rfl (lenS _ 22 3 sp L.length cap rfl Try.underlying22 rfl _) ?_
      simp only [aP, lI, l0, lS]
      refine readL (.bool true) rfl (gtrI .i64 _ _ _ _ _ _ rfl rfl rfl true (decide_eq_true (by omega)) _) ?_
      simp only [aP, lI, l0, lS]
      first | show Exit.then _ _ _ _ _ | show Exit.inBlock _ _ _ _ _
      go_upto_region 4 with fail
      refine wp_region_list ?_
      refine readL (.int .i64 (-1)) rfl (by kernel_rfl) ?_
      simp only [aP, lI, l0, lS]
      first | show Exit.then _ _ _ _ _ | show Exit.inBlock _ _ _ _ _
      go_upto_region 5 with fail
      refine wp_region_list ?_
      refine readL (.int .i64 0) rfl (by kernel_rfl) ?_
      simp only [aP, lI, l0, lS]
      first | show Exit.then _ _ _ _ _ | show Exit.inBlock _ _ _ _ _
      have HJ := show Hid _ from (And.intro M N)
      clear M N
      go_wp2
      go_loopw [7, 8] (fun nx i w' => ∃ j : Nat, j ≤ L.length ∧ nx = .int .i64 (wnj L last j) ∧ i = .int .i64 (j : Int) ∧ Mm w0 ((R, [.slice sp L.length cap]) :: l) w' ∧ Mm w own w') (fun _ i _ => L.length - (intOf i).toNat)
      case atStart => exact ⟨0, Nat.zero_le _, rfl, rfl, HJ.out⟩
      case round =>
        clear HJ
        obtain ⟨j, hj, rfl, rfl, M, N⟩ := hrel
        by_cases hlt : j < L.length
        · obtain ⟨ad, rfl, _⟩ := hI.src j hlt
          by_cases h1 : bl L j < last
          · by_cases h2 : wnj L last j < bl L j
            · by_cases h3 : wtop L - 1024 < bl L j
              · go_upto_region 6 with fail
                refine wp_region_list ?_
                refine readL (.int .i64 (j : Int)) rfl (by kernel_rfl) ?_
                simp only [aP, lI, l0, lS]
                refine readL (.pointer (some ⟨R, 0, none⟩)) rfl (by kernel_rfl) ?_
                simp only [aP, lI, l0, lS]
                refine readL (.pointer (some ⟨R, 0, none⟩)) rfl (by kernel_rfl) ?_
                simp only [aP, lI, l0, lS]
                refine readL (.pointer (some ⟨R, 0, none⟩)) rfl (by kernel_rfl) ?_
                simp only [aP, lI, l0, lS]
                refine readL (.slice (some ad) L.length cap) rfl (load1 22 _ ⟨R, 0, none⟩ _ rfl rfl (fun _ => by kernel_rfl) (M.get mS 0 _ rfl)) ?_
                simp only [aP, lI, l0, lS]
                refine readL (.int .i64 ((L.length : Nat) : Int)) rfl (lenS _ 22 3 (some ad) L.length cap rfl Try.underlying22 rfl _) ?_
                simp only [aP, lI, l0, lS]
                refine readL (.bool true) rfl (lssI .i64 _ _ _ _ _ _ rfl rfl rfl true (decide_eq_true (by omega)) _) ?_
                simp only [aP, lI, l0, lS]
                first | show Exit.then _ _ _ _ _ | show Exit.inBlock _ _ _ _ _
                go_upto_region 8 with fail
                refine wp_region_held_drew (S := fun w' => Mm w0 ((R, [.slice (some ad) L.length cap]) :: l) w' ∧ Mm w own w') (by kernel_rfl) ⟨M.drew, N.drew⟩ ?_
                clear M N
                intro hS_
                obtain ⟨M, N⟩ := hS_
                generalize wr.drew = w6 at M N ⊢
                refine readHg (i := 0) (some 26) rfl (.pointer (some ⟨R, 0, none⟩)) rfl rfl (fun _ ⟨M, N⟩ => (by kernel_rfl)) ⟨M, N⟩ ?_
                simp only [aP, lI, l0, lS]
                refine readHg (i := 1) (some 27) rfl (.pointer (some ⟨R, 0, none⟩)) rfl rfl (fun _ ⟨M, N⟩ => (by kernel_rfl)) ⟨M, N⟩ ?_
                simp only [aP, lI, l0, lS]
                refine readHg (i := 2) (some 28) rfl (.pointer (some ⟨R, 0, none⟩)) rfl rfl (fun _ ⟨M, N⟩ => (by kernel_rfl)) ⟨M, N⟩ ?_
                simp only [aP, lI, l0, lS]
                refine readHg (i := 3) (some 29) rfl (.slice (some ad) L.length cap) rfl rfl (fun _ ⟨M, N⟩ => load1 22 _ ⟨R, 0, none⟩ _ rfl rfl (fun _ => by kernel_rfl) (M.get mS 0 _ rfl)) ⟨M, N⟩ ?_
                simp only [aP, lI, l0, lS]
                refine readHg (i := 4) (some 30) rfl (.int .i64 (j : Int)) rfl rfl (fun _ ⟨M, N⟩ => (by kernel_rfl)) ⟨M, N⟩ ?_
                simp only [aP, lI, l0, lS]
                refine readHg (i := 5) (some 31) rfl (.pointer (some (ad.add j))) rfl rfl (fun _ ⟨M, N⟩ => idxSl 22 3 L.length cap .i64 ad j _ _ Try.underlying22 (fun _ => by kernel_rfl) hlt rfl rfl rfl _) ⟨M, N⟩ ?_
                simp only [aP, lI, l0, lS]
                refine readHg (i := 6) (some 32) rfl (.int .i64 (bl L j)) rfl rfl (fun _ ⟨M, N⟩ => load1 3 _ (ad.add j) _ rfl rfl (fun _ => by kernel_rfl) (((hI.below N.below).src.at j hlt))) ⟨M, N⟩ ?_
                simp only [aP, lI, l0, lS]
                refine readHg (i := 7) (some 33) rfl (.int .i64 last) rfl rfl (fun _ ⟨M, N⟩ => (by kernel_rfl)) ⟨M, N⟩ ?_
                simp only [aP, lI, l0, lS]
                refine readHg (i := 8) (some 34) rfl (.bool true) rfl rfl (fun _ ⟨M, N⟩ => lssI .i64 _ _ _ _ _ _ rfl rfl rfl true (decide_eq_true (by omega)) _) ⟨M, N⟩ ?_
                simp only [aP, lI, l0, lS]
                refine readHg (i := 9) (some 35) rfl (.bool true) rfl rfl (fun _ ⟨M, N⟩ => (by kernel_rfl)) ⟨M, N⟩ ?_
                simp only [aP, lI, l0, lS]
                refine readHg (i := 10) (some 36) rfl (.pointer (some ⟨R, 0, none⟩)) rfl rfl (fun _ ⟨M, N⟩ => (by kernel_rfl)) ⟨M, N⟩ ?_
                simp only [aP, lI, l0, lS]
                refine readHg (i := 11) (some 37) rfl (.pointer (some ⟨R, 0, none⟩)) rfl rfl (fun _ ⟨M, N⟩ => (by kernel_rfl)) ⟨M, N⟩ ?_
                simp only [aP, lI, l0, lS]
                refine readHg (i := 12) (some 38) rfl (.pointer (some ⟨R, 0, none⟩)) rfl rfl (fun _ ⟨M, N⟩ => (by kernel_rfl)) ⟨M, N⟩ ?_
                simp only [aP, lI, l0, lS]
                refine readHg (i := 13) (some 39) rfl (.slice (some ad) L.length cap) rfl rfl (fun _ ⟨M, N⟩ => load1 22 _ ⟨R, 0, none⟩ _ rfl rfl (fun _ => by kernel_rfl) (M.get mS 0 _ rfl)) ⟨M, N⟩ ?_
                simp only [aP, lI, l0, lS]
                refine readHg (i := 14) (some 40) rfl (.int .i64 (j : Int)) rfl rfl (fun _ ⟨M, N⟩ => (by kernel_rfl)) ⟨M, N⟩ ?_
                simp only [aP, lI, l0, lS]
                refine readHg (i := 15) (some 41) rfl (.pointer (some (ad.add j))) rfl rfl (fun _ ⟨M, N⟩ => idxSl 22 3 L.length cap .i64 ad j _ _ Try.underlying22 (fun _ => by kernel_rfl) hlt rfl rfl rfl _) ⟨M, N⟩ ?_
                simp only [aP, lI, l0, lS]
                refine readHg (i := 16) (some 42) rfl (.int .i64 (bl L j)) rfl rfl (fun _ ⟨M, N⟩ => load1 3 _ (ad.add j) _ rfl rfl (fun _ => by kernel_rfl) (((hI.below N.below).src.at j hlt))) ⟨M, N⟩ ?_
                simp only [aP, lI, l0, lS]
                refine readHg (i := 17) (some 43) rfl (.int .i64 (wnj L last j)) rfl rfl (fun _ ⟨M, N⟩ => (by kernel_rfl)) ⟨M, N⟩ ?_
                simp only [aP, lI, l0, lS]
                refine readHg (i := 18) (some 44) rfl (.bool true) rfl rfl (fun _ ⟨M, N⟩ => gtrI .i64 _ _ _ _ _ _ rfl rfl rfl true (decide_eq_true (by omega)) _) ⟨M, N⟩ ?_
                simp only [aP, lI, l0, lS]
                refine readHg (i := 19) (some 45) rfl (.bool true) rfl rfl (fun _ ⟨M, N⟩ => (by kernel_rfl)) ⟨M, N⟩ ?_
                simp only [aP, lI, l0, lS]
                refine readHg (i := 20) (some 46) rfl (.bool true) rfl rfl (fun _ ⟨M, N⟩ => (by kernel_rfl)) ⟨M, N⟩ ?_
                simp only [aP, lI, l0, lS]
                refine readHg (i := 21) (some 47) rfl (.pointer (some ⟨R, 0, none⟩)) rfl rfl (fun _ ⟨M, N⟩ => (by kernel_rfl)) ⟨M, N⟩ ?_
                simp only [aP, lI, l0, lS]
                refine readHg (i := 22) (some 48) rfl (.pointer (some ⟨R, 0, none⟩)) rfl rfl (fun _ ⟨M, N⟩ => (by kernel_rfl)) ⟨M, N⟩ ?_
                simp only [aP, lI, l0, lS]
                refine readHg (i := 23) (some 49) rfl (.pointer (some ⟨R, 0, none⟩)) rfl rfl (fun _ ⟨M, N⟩ => (by kernel_rfl)) ⟨M, N⟩ ?_
                simp only [aP, lI, l0, lS]
                refine readHg (i := 24) (some 50) rfl (.slice (some ad) L.length cap) rfl rfl (fun _ ⟨M, N⟩ => load1 22 _ ⟨R, 0, none⟩ _ rfl rfl (fun _ => by kernel_rfl) (M.get mS 0 _ rfl)) ⟨M, N⟩ ?_
                simp only [aP, lI, l0, lS]
                refine readHg (i := 25) (some 51) rfl (.int .i64 (j : Int)) rfl rfl (fun _ ⟨M, N⟩ => (by kernel_rfl)) ⟨M, N⟩ ?_
                simp only [aP, lI, l0, lS]
                refine readHg (i := 26) (some 52) rfl (.pointer (some (ad.add j))) rfl rfl (fun _ ⟨M, N⟩ => idxSl 22 3 L.length cap .i64 ad j _ _ Try.underlying22 (fun _ => by kernel_rfl) hlt rfl rfl rfl _) ⟨M, N⟩ ?_
                simp only [aP, lI, l0, lS]
                refine readHg (i := 27) (some 53) rfl (.int .i64 (bl L j)) rfl rfl (fun _ ⟨M, N⟩ => load1 3 _ (ad.add j) _ rfl rfl (fun _ => by kernel_rfl) (((hI.below N.below).src.at j hlt))) ⟨M, N⟩ ?_
                simp only [aP, lI, l0, lS]
                refine readHg (i := 28) (some 54) rfl (.pointer (some ⟨R, 0, none⟩)) rfl rfl (fun _ ⟨M, N⟩ => (by kernel_rfl)) ⟨M, N⟩ ?_
                simp only [aP, lI, l0, lS]
                refine callH (i := 29) (some 55) rfl (by kernel_rfl) rfl rfl (fun _ => by kernel_rfl) (rtop_any w0 _ R _ L (some ad) cap (hI.below N.below) M) ?_
                rintro e w7 ⟨rfl, l⟩
                replace M := M.call l
                replace N := N.call l
                clear l
                refine ⟨_, rfl, ⟨M, N⟩, ?_⟩
                simp only [aP, lI, l0, lS]
                refine readHg (i := 30) (some 56) rfl (.int .i64 ((wtop L) - 1024)) rfl rfl (fun _ ⟨M, N⟩ => subI .i64 _ _ _ _ _ _ _ rfl rfl rfl (by rw [IntKind.wrap_i64]; omega) _) ⟨M, N⟩ ?_
                simp only [aP, lI, l0, lS]
                refine readHg (i := 31) (some 57) rfl (.bool true) rfl rfl (fun _ ⟨M, N⟩ => gtrI .i64 _ _ _ _ _ _ rfl rfl rfl true (decide_eq_true (by omega)) _) ⟨M, N⟩ ?_
                simp only [aP, lI, l0, lS]
                refine readHg (i := 32) (some 58) rfl (.bool true) rfl rfl (fun _ ⟨M, N⟩ => (by kernel_rfl)) ⟨M, N⟩ ?_
                simp only [aP, lI, l0, lS]
                refine wpAnyH_done (by kernel_rfl) ?_ _
                first | show Exit.then _ _ _ _ _ | show Exit.inBlock _ _ _ _ _
                go_upto_region 9 with fail
                refine wp_region_list ?_
                refine readL (.pointer (some ⟨R, 0, none⟩)) rfl (by kernel_rfl) ?_
                simp only [aP, lI, l0, lS]
                refine readL (.pointer (some ⟨R, 0, none⟩)) rfl (by kernel_rfl) ?_
                simp only [aP, lI, l0, lS]
                refine readL (.pointer (some ⟨R, 0, none⟩)) rfl (by kernel_rfl) ?_
                simp only [aP, lI, l0, lS]
                refine readL (.slice (some ad) L.length cap) rfl (load1 22 _ ⟨R, 0, none⟩ _ rfl rfl (fun _ => by kernel_rfl) (M.get mS 0 _ rfl)) ?_
                simp only [aP, lI, l0, lS]
                refine readL (.int .i64 (j : Int)) rfl (by kernel_rfl) ?_
                simp only [aP, lI, l0, lS]
                refine readL (.pointer (some (ad.add j))) rfl (idxSl 22 3 L.length cap .i64 ad j _ _ Try.underlying22 (fun _ => by kernel_rfl) hlt rfl rfl rfl _) ?_
                simp only [aP, lI, l0, lS]
                refine readL (.int .i64 (bl L j)) rfl (load1 3 _ (ad.add j) _ rfl rfl (fun _ => by kernel_rfl) (((hI.below N.below).src.at j hlt))) ?_
                simp only [aP, lI, l0, lS]
                refine readL (.int .i64 (bl L j)) rfl (by kernel_rfl) ?_
                simp only [aP, lI, l0, lS]
                first | show Exit.then _ _ _ _ _ | show Exit.inBlock _ _ _ _ _
                have hk := show Hid _ from (show wnj L last (j + 1) = bl L j by rw [wnj_step hlt, if_pos (by omega)])
                have HS := show Hid _ from (And.intro M N)
                clear M N hI
                go_wp2
                go_roundw
                case rel => exact ⟨j + 1, by omega, by rw [hk.out], by go_num, HS.out⟩
                case measure => simp [intOf]; omega
              · go_upto_region 6 with fail
                refine wp_region_list ?_
                refine readL (.int .i64 (j : Int)) rfl (by kernel_rfl) ?_
                simp only [aP, lI, l0, lS]
                refine readL (.pointer (some ⟨R, 0, none⟩)) rfl (by kernel_rfl) ?_
                simp only [aP, lI, l0, lS]
                refine readL (.pointer (some ⟨R, 0, none⟩)) rfl (by kernel_rfl) ?_
                simp only [aP, lI, l0, lS]
                refine readL (.pointer (some ⟨R, 0, none⟩)) rfl (by kernel_rfl) ?_
                simp only [aP, lI, l0, lS]
                refine readL (.slice (some ad) L.length cap) rfl (load1 22 _ ⟨R, 0, none⟩ _ rfl rfl (fun _ => by kernel_rfl) (M.get mS 0 _ rfl)) ?_
                simp only [aP, lI, l0, lS]
                refine readL (.int .i64 ((L.length : Nat) : Int)) rfl (lenS _ 22 3 (some ad) L.length cap rfl Try.underlying22 rfl _) ?_
                simp only [aP, lI, l0, lS]
                refine readL (.bool true) rfl (lssI .i64 _ _ _ _ _ _ rfl rfl rfl true (decide_eq_true (by omega)) _) ?_
                simp only [aP, lI, l0, lS]
                first | show Exit.then _ _ _ _ _ | show Exit.inBlock _ _ _ _ _
                go_upto_region 8 with fail
                refine wp_region_held_drew (S := fun w' => Mm w0 ((R, [.slice (some ad) L.length cap]) :: l) w' ∧ Mm w own w') (by kernel_rfl) ⟨M.drew, N.drew⟩ ?_
                clear M N
                intro hS_
                obtain ⟨M, N⟩ := hS_
                generalize wr.drew = w4 at M N ⊢
                refine readHg (i := 0) (some 26) rfl (.pointer (some ⟨R, 0, none⟩)) rfl rfl (fun _ ⟨M, N⟩ => (by kernel_rfl)) ⟨M, N⟩ ?_
                simp only [aP, lI, l0, lS]
                refine readHg (i := 1) (some 27) rfl (.pointer (some ⟨R, 0, none⟩)) rfl rfl (fun _ ⟨M, N⟩ => (by kernel_rfl)) ⟨M, N⟩ ?_
                simp only [aP, lI, l0, lS]
                refine readHg (i := 2) (some 28) rfl (.pointer (some ⟨R, 0, none⟩)) rfl rfl (fun _ ⟨M, N⟩ => (by kernel_rfl)) ⟨M, N⟩ ?_
                simp only [aP, lI, l0, lS]
                refine readHg (i := 3) (some 29) rfl (.slice (some ad) L.length cap) rfl rfl (fun _ ⟨M, N⟩ => load1 22 _ ⟨R, 0, none⟩ _ rfl rfl (fun _ => by kernel_rfl) (M.get mS 0 _ rfl)) ⟨M, N⟩ ?_
                simp only [aP, lI, l0, lS]
                refine readHg (i := 4) (some 30) rfl (.int .i64 (j : Int)) rfl rfl (fun _ ⟨M, N⟩ => (by kernel_rfl)) ⟨M, N⟩ ?_
                simp only [aP, lI, l0, lS]
                refine readHg (i := 5) (some 31) rfl (.pointer (some (ad.add j))) rfl rfl (fun _ ⟨M, N⟩ => idxSl 22 3 L.length cap .i64 ad j _ _ Try.underlying22 (fun _ => by kernel_rfl) hlt rfl rfl rfl _) ⟨M, N⟩ ?_
                simp only [aP, lI, l0, lS]
                refine readHg (i := 6) (some 32) rfl (.int .i64 (bl L j)) rfl rfl (fun _ ⟨M, N⟩ => load1 3 _ (ad.add j) _ rfl rfl (fun _ => by kernel_rfl) (((hI.below N.below).src.at j hlt))) ⟨M, N⟩ ?_
                simp only [aP, lI, l0, lS]
                refine readHg (i := 7) (some 33) rfl (.int .i64 last) rfl rfl (fun _ ⟨M, N⟩ => (by kernel_rfl)) ⟨M, N⟩ ?_
                simp only [aP, lI, l0, lS]
                refine readHg (i := 8) (some 34) rfl (.bool true) rfl rfl (fun _ ⟨M, N⟩ => lssI .i64 _ _ _ _ _ _ rfl rfl rfl true (decide_eq_true (by omega)) _) ⟨M, N⟩ ?_
                simp only [aP, lI, l0, lS]
                refine readHg (i := 9) (some 35) rfl (.bool true) rfl rfl (fun _ ⟨M, N⟩ => (by kernel_rfl)) ⟨M, N⟩ ?_
                simp only [aP, lI, l0, lS]
                refine readHg (i := 10) (some 36) rfl (.pointer (some ⟨R, 0, none⟩)) rfl rfl (fun _ ⟨M, N⟩ => (by kernel_rfl)) ⟨M, N⟩ ?_
                simp only [aP, lI, l0, lS]
                refine readHg (i := 11) (some 37) rfl (.pointer (some ⟨R, 0, none⟩)) rfl rfl (fun _ ⟨M, N⟩ => (by kernel_rfl)) ⟨M, N⟩ ?_
                simp only [aP, lI, l0, lS]
                refine readHg (i := 12) (some 38) rfl (.pointer (some ⟨R, 0, none⟩)) rfl rfl (fun _ ⟨M, N⟩ => (by kernel_rfl)) ⟨M, N⟩ ?_
                simp only [aP, lI, l0, lS]
                refine readHg (i := 13) (some 39) rfl (.slice (some ad) L.length cap) rfl rfl (fun _ ⟨M, N⟩ => load1 22 _ ⟨R, 0, none⟩ _ rfl rfl (fun _ => by kernel_rfl) (M.get mS 0 _ rfl)) ⟨M, N⟩ ?_
                simp only [aP, lI, l0, lS]
                refine readHg (i := 14) (some 40) rfl (.int .i64 (j : Int)) rfl rfl (fun _ ⟨M, N⟩ => (by kernel_rfl)) ⟨M, N⟩ ?_
                simp only [aP, lI, l0, lS]
                refine readHg (i := 15) (some 41) rfl (.pointer (some (ad.add j))) rfl rfl (fun _ ⟨M, N⟩ => idxSl 22 3 L.length cap .i64 ad j _ _ Try.underlying22 (fun _ => by kernel_rfl) hlt rfl rfl rfl _) ⟨M, N⟩ ?_
                simp only [aP, lI, l0, lS]
                refine readHg (i := 16) (some 42) rfl (.int .i64 (bl L j)) rfl rfl (fun _ ⟨M, N⟩ => load1 3 _ (ad.add j) _ rfl rfl (fun _ => by kernel_rfl) (((hI.below N.below).src.at j hlt))) ⟨M, N⟩ ?_
                simp only [aP, lI, l0, lS]
                refine readHg (i := 17) (some 43) rfl (.int .i64 (wnj L last j)) rfl rfl (fun _ ⟨M, N⟩ => (by kernel_rfl)) ⟨M, N⟩ ?_
                simp only [aP, lI, l0, lS]
                refine readHg (i := 18) (some 44) rfl (.bool true) rfl rfl (fun _ ⟨M, N⟩ => gtrI .i64 _ _ _ _ _ _ rfl rfl rfl true (decide_eq_true (by omega)) _) ⟨M, N⟩ ?_
                simp only [aP, lI, l0, lS]
                refine readHg (i := 19) (some 45) rfl (.bool true) rfl rfl (fun _ ⟨M, N⟩ => (by kernel_rfl)) ⟨M, N⟩ ?_
                simp only [aP, lI, l0, lS]
                refine readHg (i := 20) (some 46) rfl (.bool true) rfl rfl (fun _ ⟨M, N⟩ => (by kernel_rfl)) ⟨M, N⟩ ?_
                simp only [aP, lI, l0, lS]
                refine readHg (i := 21) (some 47) rfl (.pointer (some ⟨R, 0, none⟩)) rfl rfl (fun _ ⟨M, N⟩ => (by kernel_rfl)) ⟨M, N⟩ ?_
                simp only [aP, lI, l0, lS]
                refine readHg (i := 22) (some 48) rfl (.pointer (some ⟨R, 0, none⟩)) rfl rfl (fun _ ⟨M, N⟩ => (by kernel_rfl)) ⟨M, N⟩ ?_
                simp only [aP, lI, l0, lS]
                refine readHg (i := 23) (some 49) rfl (.pointer (some ⟨R, 0, none⟩)) rfl rfl (fun _ ⟨M, N⟩ => (by kernel_rfl)) ⟨M, N⟩ ?_
                simp only [aP, lI, l0, lS]
                refine readHg (i := 24) (some 50) rfl (.slice (some ad) L.length cap) rfl rfl (fun _ ⟨M, N⟩ => load1 22 _ ⟨R, 0, none⟩ _ rfl rfl (fun _ => by kernel_rfl) (M.get mS 0 _ rfl)) ⟨M, N⟩ ?_
                simp only [aP, lI, l0, lS]
                refine readHg (i := 25) (some 51) rfl (.int .i64 (j : Int)) rfl rfl (fun _ ⟨M, N⟩ => (by kernel_rfl)) ⟨M, N⟩ ?_
                simp only [aP, lI, l0, lS]
                refine readHg (i := 26) (some 52) rfl (.pointer (some (ad.add j))) rfl rfl (fun _ ⟨M, N⟩ => idxSl 22 3 L.length cap .i64 ad j _ _ Try.underlying22 (fun _ => by kernel_rfl) hlt rfl rfl rfl _) ⟨M, N⟩ ?_
                simp only [aP, lI, l0, lS]
                refine readHg (i := 27) (some 53) rfl (.int .i64 (bl L j)) rfl rfl (fun _ ⟨M, N⟩ => load1 3 _ (ad.add j) _ rfl rfl (fun _ => by kernel_rfl) (((hI.below N.below).src.at j hlt))) ⟨M, N⟩ ?_
                simp only [aP, lI, l0, lS]
                refine readHg (i := 28) (some 54) rfl (.pointer (some ⟨R, 0, none⟩)) rfl rfl (fun _ ⟨M, N⟩ => (by kernel_rfl)) ⟨M, N⟩ ?_
                simp only [aP, lI, l0, lS]
                refine callH (i := 29) (some 55) rfl (by kernel_rfl) rfl rfl (fun _ => by kernel_rfl) (rtop_any w0 _ R _ L (some ad) cap (hI.below N.below) M) ?_
                rintro e w5 ⟨rfl, l⟩
                replace M := M.call l
                replace N := N.call l
                clear l
                refine ⟨_, rfl, ⟨M, N⟩, ?_⟩
                simp only [aP, lI, l0, lS]
                refine readHg (i := 30) (some 56) rfl (.int .i64 ((wtop L) - 1024)) rfl rfl (fun _ ⟨M, N⟩ => subI .i64 _ _ _ _ _ _ _ rfl rfl rfl (by rw [IntKind.wrap_i64]; omega) _) ⟨M, N⟩ ?_
                simp only [aP, lI, l0, lS]
                refine readHg (i := 31) (some 57) rfl (.bool false) rfl rfl (fun _ ⟨M, N⟩ => gtrI .i64 _ _ _ _ _ _ rfl rfl rfl false (decide_eq_false (by omega)) _) ⟨M, N⟩ ?_
                simp only [aP, lI, l0, lS]
                refine readHg (i := 32) (some 58) rfl (.bool false) rfl rfl (fun _ ⟨M, N⟩ => (by kernel_rfl)) ⟨M, N⟩ ?_
                simp only [aP, lI, l0, lS]
                refine wpAnyH_done (by kernel_rfl) ?_ _
                first | show Exit.then _ _ _ _ _ | show Exit.inBlock _ _ _ _ _
                have hk := show Hid _ from (show wnj L last (j + 1) = wnj L last j by rw [wnj_step hlt, if_neg (by omega)])
                have HS := show Hid _ from (And.intro M N)
                clear M N hI
                go_wp2
                go_roundw
                case rel => exact ⟨j + 1, by omega, by rw [hk.out], by go_num, HS.out⟩
                case measure => simp [intOf]; omega
            · go_upto_region 6 with fail
              refine wp_region_list ?_
              refine readL (.int .i64 (j : Int)) rfl (by kernel_rfl) ?_
              simp only [aP, lI, l0, lS]
              refine readL (.pointer (some ⟨R, 0, none⟩)) rfl (by kernel_rfl) ?_
              simp only [aP, lI, l0, lS]
              refine readL (.pointer (some ⟨R, 0, none⟩)) rfl (by kernel_rfl) ?_
              simp only [aP, lI, l0, lS]
              refine readL (.pointer (some ⟨R, 0, none⟩)) rfl (by kernel_rfl) ?_
              simp only [aP, lI, l0, lS]
              refine readL (.slice (some ad) L.length cap) rfl (load1 22 _ ⟨R, 0, none⟩ _ rfl rfl (fun _ => by kernel_rfl) (M.get mS 0 _ rfl)) ?_
              simp only [aP, lI, l0, lS]
              refine readL (.int .i64 ((L.length : Nat) : Int)) rfl (lenS _ 22 3 (some ad) L.length cap rfl Try.underlying22 rfl _) ?_
              simp only [aP, lI, l0, lS]
              refine readL (.bool true) rfl (lssI .i64 _ _ _ _ _ _ rfl rfl rfl true (decide_eq_true (by omega)) _) ?_
              simp only [aP, lI, l0, lS]
              first | show Exit.then _ _ _ _ _ | show Exit.inBlock _ _ _ _ _
              go_upto_region 8 with fail
              refine wp_region_held_drew (S := fun w' => Mm w0 ((R, [.slice (some ad) L.length cap]) :: l) w' ∧ Mm w own w') (by kernel_rfl) ⟨M.drew, N.drew⟩ ?_
              clear M N
              intro hS_
              obtain ⟨M, N⟩ := hS_
              generalize wr.drew = w3 at M N ⊢
              refine readHg (i := 0) (some 26) rfl (.pointer (some ⟨R, 0, none⟩)) rfl rfl (fun _ ⟨M, N⟩ => (by kernel_rfl)) ⟨M, N⟩ ?_
              simp only [aP, lI, l0, lS]
              refine readHg (i := 1) (some 27) rfl (.pointer (some ⟨R, 0, none⟩)) rfl rfl (fun _ ⟨M, N⟩ => (by kernel_rfl)) ⟨M, N⟩ ?_
              simp only [aP, lI, l0, lS]
              refine readHg (i := 2) (some 28) rfl (.pointer (some ⟨R, 0, none⟩)) rfl rfl (fun _ ⟨M, N⟩ => (by kernel_rfl)) ⟨M, N⟩ ?_
              simp only [aP, lI, l0, lS]
              refine readHg (i := 3) (some 29) rfl (.slice (some ad) L.length cap) rfl rfl (fun _ ⟨M, N⟩ => load1 22 _ ⟨R, 0, none⟩ _ rfl rfl (fun _ => by kernel_rfl) (M.get mS 0 _ rfl)) ⟨M, N⟩ ?_
              simp only [aP, lI, l0, lS]
              refine readHg (i := 4) (some 30) rfl (.int .i64 (j : Int)) rfl rfl (fun _ ⟨M, N⟩ => (by kernel_rfl)) ⟨M, N⟩ ?_
              simp only [aP, lI, l0, lS]
              refine readHg (i := 5) (some 31) rfl (.pointer (some (ad.add j))) rfl rfl (fun _ ⟨M, N⟩ => idxSl 22 3 L.length cap .i64 ad j _ _ Try.underlying22 (fun _ => by kernel_rfl) hlt rfl rfl rfl _) ⟨M, N⟩ ?_
              simp only [aP, lI, l0, lS]
              refine readHg (i := 6) (some 32) rfl (.int .i64 (bl L j)) rfl rfl (fun _ ⟨M, N⟩ => load1 3 _ (ad.add j) _ rfl rfl (fun _ => by kernel_rfl) (((hI.below N.below).src.at j hlt))) ⟨M, N⟩ ?_
              simp only [aP, lI, l0, lS]
              refine readHg (i := 7) (some 33) rfl (.int .i64 last) rfl rfl (fun _ ⟨M, N⟩ => (by kernel_rfl)) ⟨M, N⟩ ?_
              simp only [aP, lI, l0, lS]
              refine readHg (i := 8) (some 34) rfl (.bool true) rfl rfl (fun _ ⟨M, N⟩ => lssI .i64 _ _ _ _ _ _ rfl rfl rfl true (decide_eq_true (by omega)) _) ⟨M, N⟩ ?_
              simp only [aP, lI, l0, lS]
              refine readHg (i := 9) (some 35) rfl (.bool true) rfl rfl (fun _ ⟨M, N⟩ => (by kernel_rfl)) ⟨M, N⟩ ?_
              simp only [aP, lI, l0, lS]
              refine readHg (i := 10) (some 36) rfl (.pointer (some ⟨R, 0, none⟩)) rfl rfl (fun _ ⟨M, N⟩ => (by kernel_rfl)) ⟨M, N⟩ ?_
              simp only [aP, lI, l0, lS]
              refine readHg (i := 11) (some 37) rfl (.pointer (some ⟨R, 0, none⟩)) rfl rfl (fun _ ⟨M, N⟩ => (by kernel_rfl)) ⟨M, N⟩ ?_
              simp only [aP, lI, l0, lS]
              refine readHg (i := 12) (some 38) rfl (.pointer (some ⟨R, 0, none⟩)) rfl rfl (fun _ ⟨M, N⟩ => (by kernel_rfl)) ⟨M, N⟩ ?_
              simp only [aP, lI, l0, lS]
              refine readHg (i := 13) (some 39) rfl (.slice (some ad) L.length cap) rfl rfl (fun _ ⟨M, N⟩ => load1 22 _ ⟨R, 0, none⟩ _ rfl rfl (fun _ => by kernel_rfl) (M.get mS 0 _ rfl)) ⟨M, N⟩ ?_
              simp only [aP, lI, l0, lS]
              refine readHg (i := 14) (some 40) rfl (.int .i64 (j : Int)) rfl rfl (fun _ ⟨M, N⟩ => (by kernel_rfl)) ⟨M, N⟩ ?_
              simp only [aP, lI, l0, lS]
              refine readHg (i := 15) (some 41) rfl (.pointer (some (ad.add j))) rfl rfl (fun _ ⟨M, N⟩ => idxSl 22 3 L.length cap .i64 ad j _ _ Try.underlying22 (fun _ => by kernel_rfl) hlt rfl rfl rfl _) ⟨M, N⟩ ?_
              simp only [aP, lI, l0, lS]
              refine readHg (i := 16) (some 42) rfl (.int .i64 (bl L j)) rfl rfl (fun _ ⟨M, N⟩ => load1 3 _ (ad.add j) _ rfl rfl (fun _ => by kernel_rfl) (((hI.below N.below).src.at j hlt))) ⟨M, N⟩ ?_
              simp only [aP, lI, l0, lS]
              refine readHg (i := 17) (some 43) rfl (.int .i64 (wnj L last j)) rfl rfl (fun _ ⟨M, N⟩ => (by kernel_rfl)) ⟨M, N⟩ ?_
              simp only [aP, lI, l0, lS]
              refine readHg (i := 18) (some 44) rfl (.bool false) rfl rfl (fun _ ⟨M, N⟩ => gtrI .i64 _ _ _ _ _ _ rfl rfl rfl false (decide_eq_false (by omega)) _) ⟨M, N⟩ ?_
              simp only [aP, lI, l0, lS]
              refine readHg (i := 19) (some 45) rfl (.bool false) rfl rfl (fun _ ⟨M, N⟩ => (by kernel_rfl)) ⟨M, N⟩ ?_
              simp only [aP, lI, l0, lS]
              refine readHg (i := 20) (some 46) rfl (.bool false) rfl rfl (fun _ ⟨M, N⟩ => (by kernel_rfl)) ⟨M, N⟩ ?_
              simp only [aP, lI, l0, lS]
              refine mayH (i := 21) (some 47) rfl false undef undef rfl rfl rfl (fun hc => by cases hc) (by kernel_rfl) (by kernel_rfl) (by kernel_rfl) (fun _ _ _ h => h) ⟨M, N⟩ ?_
              simp only [aP, lI, l0, lS]
              refine mayH (i := 22) (some 48) rfl false undef undef rfl rfl rfl (fun hc => by cases hc) (by kernel_rfl) (by kernel_rfl) (by kernel_rfl) (fun _ _ _ h => h) ⟨M, N⟩ ?_
              simp only [aP, lI, l0, lS]
              refine mayH (i := 23) (some 49) rfl false undef undef rfl rfl rfl (fun hc => by cases hc) (by kernel_rfl) (by kernel_rfl) (by kernel_rfl) (fun _ _ _ h => h) ⟨M, N⟩ ?_
              simp only [aP, lI, l0, lS]
              refine mayH (i := 24) (some 50) rfl false undef undef rfl rfl rfl (fun hc => by cases hc) (by kernel_rfl) (by kernel_rfl) (by kernel_rfl) (fun _ _ _ h => h) ⟨M, N⟩ ?_
              simp only [aP, lI, l0, lS]
              refine mayH (i := 25) (some 51) rfl false undef undef rfl rfl rfl (fun hc => by cases hc) (by kernel_rfl) (by kernel_rfl) (by kernel_rfl) (fun _ _ _ h => h) ⟨M, N⟩ ?_
              simp only [aP, lI, l0, lS]
              refine mayH (i := 26) (some 52) rfl false undef undef rfl rfl rfl (fun hc => by cases hc) (by kernel_rfl) (by kernel_rfl) (by kernel_rfl) (fun _ _ _ h => h) ⟨M, N⟩ ?_
              simp only [aP, lI, l0, lS]
              refine mayH (i := 27) (some 53) rfl false undef undef rfl rfl rfl (fun hc => by cases hc) (by kernel_rfl) (by kernel_rfl) (by kernel_rfl) (fun _ _ _ h => h) ⟨M, N⟩ ?_
              simp only [aP, lI, l0, lS]
              refine mayH (i := 28) (some 54) rfl false undef undef rfl rfl rfl (fun hc => by cases hc) (by kernel_rfl) (by kernel_rfl) (by kernel_rfl) (fun _ _ _ h => h) ⟨M, N⟩ ?_
              simp only [aP, lI, l0, lS]
              refine mayH (i := 29) (some 55) rfl false undef undef rfl rfl rfl (fun hc => by cases hc) (by kernel_rfl) (by kernel_rfl) (by kernel_rfl) (fun _ _ _ h => h) ⟨M, N⟩ ?_
              simp only [aP, lI, l0, lS]
              refine mayH (i := 30) (some 56) rfl false undef undef rfl rfl rfl (fun hc => by cases hc) (by kernel_rfl) (by kernel_rfl) (by kernel_rfl) (fun _ _ _ h => h) ⟨M, N⟩ ?_
              simp only [aP, lI, l0, lS]
              refine mayH (i := 31) (some 57) rfl false undef undef rfl rfl rfl (fun hc => by cases hc) (by kernel_rfl) (by kernel_rfl) (by kernel_rfl) (fun _ _ _ h => h) ⟨M, N⟩ ?_
              simp only [aP, lI, l0, lS]
              refine readHg (i := 32) (some 58) rfl (.bool false) rfl rfl (fun _ ⟨M, N⟩ => (by kernel_rfl)) ⟨M, N⟩ ?_
              simp only [aP, lI, l0, lS]
              refine wpAnyH_done (by kernel_rfl) ?_ _
              first | show Exit.then _ _ _ _ _ | show Exit.inBlock _ _ _ _ _
              have hk := show Hid _ from (show wnj L last (j + 1) = wnj L last j by rw [wnj_step hlt, if_neg (by omega)])
              have HS := show Hid _ from (And.intro M N)
              clear M N hI
              go_wp2
              go_roundw
              case rel => exact ⟨j + 1, by omega, by rw [hk.out], by go_num, HS.out⟩
              case measure => simp [intOf]; omega
          · go_upto_region 6 with fail
            refine wp_region_list ?_
            refine readL (.int .i64 (j : Int)) rfl (by kernel_rfl) ?_
            simp only [aP, lI, l0, lS]
            refine readL (.pointer (some ⟨R, 0, none⟩)) rfl (by kernel_rfl) ?_
            simp only [aP, lI, l0, lS]
            refine readL (.pointer (some ⟨R, 0, none⟩)) rfl (by kernel_rfl) ?_
            simp only [aP, lI, l0, lS]
            refine readL (.pointer (some ⟨R, 0, none⟩)) rfl (by kernel_rfl) ?_
            simp only [aP, lI, l0, lS]
            refine readL (.slice (some ad) L.length cap) rfl (load1 22 _ ⟨R, 0, none⟩ _ rfl rfl (fun _ => by kernel_rfl) (M.get mS 0 _ rfl)) ?_
            simp only [aP, lI, l0, lS]
            refine readL (.int .i64 ((L.length : Nat) : Int)) rfl (lenS _ 22 3 (some ad) L.length cap rfl Try.underlying22 rfl _) ?_
            simp only [aP, lI, l0, lS]
            refine readL (.bool true) rfl (lssI .i64 _ _ _ _ _ _ rfl rfl rfl true (decide_eq_true (by omega)) _) ?_
            simp only [aP, lI, l0, lS]
            first | show Exit.then _ _ _ _ _ | show Exit.inBlock _ _ _ _ _
            go_upto_region 8 with fail
            refine wp_region_held_drew (S := fun w' => Mm w0 ((R, [.slice (some ad) L.length cap]) :: l) w' ∧ Mm w own w') (by kernel_rfl) ⟨M.drew, N.drew⟩ ?_
            clear M N
            intro hS_
            obtain ⟨M, N⟩ := hS_
            generalize wr.drew = w2 at M N ⊢
            refine readHg (i := 0) (some 26) rfl (.pointer (some ⟨R, 0, none⟩)) rfl rfl (fun _ ⟨M, N⟩ => (by kernel_rfl)) ⟨M, N⟩ ?_
            simp only [aP, lI, l0, lS]
            refine readHg (i := 1) (some 27) rfl (.pointer (some ⟨R, 0, none⟩)) rfl rfl (fun _ ⟨M, N⟩ => (by kernel_rfl)) ⟨M, N⟩ ?_
            simp only [aP, lI, l0, lS]
            refine readHg (i := 2) (some 28) rfl (.pointer (some ⟨R, 0, none⟩)) rfl rfl (fun _ ⟨M, N⟩ => (by kernel_rfl)) ⟨M, N⟩ ?_
            simp only [aP, lI, l0, lS]
            refine readHg (i := 3) (some 29) rfl (.slice (some ad) L.length cap) rfl rfl (fun _ ⟨M, N⟩ => load1 22 _ ⟨R, 0, none⟩ _ rfl rfl (fun _ => by kernel_rfl) (M.get mS 0 _ rfl)) ⟨M, N⟩ ?_
            simp only [aP, lI, l0, lS]
            refine readHg (i := 4) (some 30) rfl (.int .i64 (j : Int)) rfl rfl (fun _ ⟨M, N⟩ => (by kernel_rfl)) ⟨M, N⟩ ?_
            simp only [aP, lI, l0, lS]
            refine readHg (i := 5) (some 31) rfl (.pointer (some (ad.add j))) rfl rfl (fun _ ⟨M, N⟩ => idxSl 22 3 L.length cap .i64 ad j _ _ Try.underlying22 (fun _ => by kernel_rfl) hlt rfl rfl rfl _) ⟨M, N⟩ ?_
            simp only [aP, lI, l0, lS]
            refine readHg (i := 6) (some 32) rfl (.int .i64 (bl L j)) rfl rfl (fun _ ⟨M, N⟩ => load1 3 _ (ad.add j) _ rfl rfl (fun _ => by kernel_rfl) (((hI.below N.below).src.at j hlt))) ⟨M, N⟩ ?_
            simp only [aP, lI, l0, lS]
            refine readHg (i := 7) (some 33) rfl (.int .i64 last) rfl rfl (fun _ ⟨M, N⟩ => (by kernel_rfl)) ⟨M, N⟩ ?_
            simp only [aP, lI, l0, lS]
            refine readHg (i := 8) (some 34) rfl (.bool false) rfl rfl (fun _ ⟨M, N⟩ => lssI .i64 _ _ _ _ _ _ rfl rfl rfl false (decide_eq_false (by omega)) _) ⟨M, N⟩ ?_
            simp only [aP, lI, l0, lS]
            refine readHg (i := 9) (some 35) rfl (.bool false) rfl rfl (fun _ ⟨M, N⟩ => (by kernel_rfl)) ⟨M, N⟩ ?_
            simp only [aP, lI, l0, lS]
            refine mayH (i := 10) (some 36) rfl false undef undef rfl rfl rfl (fun hc => by cases hc) (by kernel_rfl) (by kernel_rfl) (by kernel_rfl) (fun _ _ _ h => h) ⟨M, N⟩ ?_
            simp only [aP, lI, l0, lS]
            refine mayH (i := 11) (some 37) rfl false undef undef rfl rfl rfl (fun hc => by cases hc) (by kernel_rfl) (by kernel_rfl) (by kernel_rfl) (fun _ _ _ h => h) ⟨M, N⟩ ?_
            simp only [aP, lI, l0, lS]
            refine mayH (i := 12) (some 38) rfl false undef undef rfl rfl rfl (fun hc => by cases hc) (by kernel_rfl) (by kernel_rfl) (by kernel_rfl) (fun _ _ _ h => h) ⟨M, N⟩ ?_
            simp only [aP, lI, l0, lS]
            refine mayH (i := 13) (some 39) rfl false undef undef rfl rfl rfl (fun hc => by cases hc) (by kernel_rfl) (by kernel_rfl) (by kernel_rfl) (fun _ _ _ h => h) ⟨M, N⟩ ?_
            simp only [aP, lI, l0, lS]
            refine mayH (i := 14) (some 40) rfl false undef undef rfl rfl rfl (fun hc => by cases hc) (by kernel_rfl) (by kernel_rfl) (by kernel_rfl) (fun _ _ _ h => h) ⟨M, N⟩ ?_
            simp only [aP, lI, l0, lS]
            refine mayH (i := 15) (some 41) rfl false undef undef rfl rfl rfl (fun hc => by cases hc) (by kernel_rfl) (by kernel_rfl) (by kernel_rfl) (fun _ _ _ h => h) ⟨M, N⟩ ?_
            simp only [aP, lI, l0, lS]
            refine mayH (i := 16) (some 42) rfl false undef undef rfl rfl rfl (fun hc => by cases hc) (by kernel_rfl) (by kernel_rfl) (by kernel_rfl) (fun _ _ _ h => h) ⟨M, N⟩ ?_
            simp only [aP, lI, l0, lS]
            refine mayH (i := 17) (some 43) rfl false undef undef rfl rfl rfl (fun hc => by cases hc) (by kernel_rfl) (by kernel_rfl) (by kernel_rfl) (fun _ _ _ h => h) ⟨M, N⟩ ?_
            simp only [aP, lI, l0, lS]
            refine mayH (i := 18) (some 44) rfl false undef undef rfl rfl rfl (fun hc => by cases hc) (by kernel_rfl) (by kernel_rfl) (by kernel_rfl) (fun _ _ _ h => h) ⟨M, N⟩ ?_
            simp only [aP, lI, l0, lS]
            refine readHg (i := 19) (some 45) rfl (.bool false) rfl rfl (fun _ ⟨M, N⟩ => (by kernel_rfl)) ⟨M, N⟩ ?_
            simp only [aP, lI, l0, lS]
            refine readHg (i := 20) (some 46) rfl (.bool false) rfl rfl (fun _ ⟨M, N⟩ => (by kernel_rfl)) ⟨M, N⟩ ?_
            simp only [aP, lI, l0, lS]
            refine mayH (i := 21) (some 47) rfl false undef undef rfl rfl rfl (fun hc => by cases hc) (by kernel_rfl) (by kernel_rfl) (by kernel_rfl) (fun _ _ _ h => h) ⟨M, N⟩ ?_
            simp only [aP, lI, l0, lS]
            refine mayH (i := 22) (some 48) rfl false undef undef rfl rfl rfl (fun hc => by cases hc) (by kernel_rfl) (by kernel_rfl) (by kernel_rfl) (fun _ _ _ h => h) ⟨M, N⟩ ?_
            simp only [aP, lI, l0, lS]
            refine mayH (i := 23) (some 49) rfl false undef undef rfl rfl rfl (fun hc => by cases hc) (by kernel_rfl) (by kernel_rfl) (by kernel_rfl) (fun _ _ _ h => h) ⟨M, N⟩ ?_
            simp only [aP, lI, l0, lS]
            refine mayH (i := 24) (some 50) rfl false undef undef rfl rfl rfl (fun hc => by cases hc) (by kernel_rfl) (by kernel_rfl) (by kernel_rfl) (fun _ _ _ h => h) ⟨M, N⟩ ?_
            simp only [aP, lI, l0, lS]
            refine mayH (i := 25) (some 51) rfl false undef undef rfl rfl rfl (fun hc => by cases hc) (by kernel_rfl) (by kernel_rfl) (by kernel_rfl) (fun _ _ _ h => h) ⟨M, N⟩ ?_
            simp only [aP, lI, l0, lS]
            refine mayH (i := 26) (some 52) rfl false undef undef rfl rfl rfl (fun hc => by cases hc) (by kernel_rfl) (by kernel_rfl) (by kernel_rfl) (fun _ _ _ h => h) ⟨M, N⟩ ?_
            simp only [aP, lI, l0, lS]
            refine mayH (i := 27) (some 53) rfl false undef undef rfl rfl rfl (fun hc => by cases hc) (by kernel_rfl) (by kernel_rfl) (by kernel_rfl) (fun _ _ _ h => h) ⟨M, N⟩ ?_
            simp only [aP, lI, l0, lS]
            refine mayH (i := 28) (some 54) rfl false undef undef rfl rfl rfl (fun hc => by cases hc) (by kernel_rfl) (by kernel_rfl) (by kernel_rfl) (fun _ _ _ h => h) ⟨M, N⟩ ?_
            simp only [aP, lI, l0, lS]
            refine mayH (i := 29) (some 55) rfl false undef undef rfl rfl rfl (fun hc => by cases hc) (by kernel_rfl) (by kernel_rfl) (by kernel_rfl) (fun _ _ _ h => h) ⟨M, N⟩ ?_
            simp only [aP, lI, l0, lS]
            refine mayH (i := 30) (some 56) rfl false undef undef rfl rfl rfl (fun hc => by cases hc) (by kernel_rfl) (by kernel_rfl) (by kernel_rfl) (fun _ _ _ h => h) ⟨M, N⟩ ?_
            simp only [aP, lI, l0, lS]
            refine mayH (i := 31) (some 57) rfl false undef undef rfl rfl rfl (fun hc => by cases hc) (by kernel_rfl) (by kernel_rfl) (by kernel_rfl) (fun _ _ _ h => h) ⟨M, N⟩ ?_
            simp only [aP, lI, l0, lS]
            refine readHg (i := 32) (some 58) rfl (.bool false) rfl rfl (fun _ ⟨M, N⟩ => (by kernel_rfl)) ⟨M, N⟩ ?_
            simp only [aP, lI, l0, lS]
            refine wpAnyH_done (by kernel_rfl) ?_ _
            first | show Exit.then _ _ _ _ _ | show Exit.inBlock _ _ _ _ _
            have hk := show Hid _ from (show wnj L last (j + 1) = wnj L last j by rw [wnj_step hlt, if_neg (by omega)])
            have HS := show Hid _ from (And.intro M N)
            clear M N hI
            go_wp2
            go_roundw
            case rel => exact ⟨j + 1, by omega, by rw [hk.out], by go_num, HS.out⟩
            case measure => simp [intOf]; omega
        · obtain rfl : j = L.length := by omega
          rw [wnj_all]
          go_upto_region 6 with fail
          refine wp_region_list ?_
          refine readL (.int .i64 (L.length : Int)) rfl (by kernel_rfl) ?_
          simp only [aP, lI, l0, lS]
          refine readL (.pointer (some ⟨R, 0, none⟩)) rfl (by kernel_rfl) ?_
          simp only [aP, lI, l0, lS]
          refine readL (.pointer (some ⟨R, 0, none⟩)) rfl (by kernel_rfl) ?_
          simp only [aP, lI, l0, lS]
          refine readL (.pointer (some ⟨R, 0, none⟩)) rfl (by kernel_rfl) ?_
          simp only [aP, lI, l0, lS]
          refine readL (.slice sp L.length cap) rfl (load1 22 _ ⟨R, 0, none⟩ _ rfl rfl (fun _ => by kernel_rfl) (M.get mS 0 _ rfl)) ?_
          simp only [aP, lI, l0, lS]
          refine readL (.int .i64 ((L.length : Nat) : Int)) rfl (lenS _ 22 3 sp L.length cap rfl Try.underlying22 rfl _) ?_
          simp only [aP, lI, l0, lS]
          refine readL (.bool false) rfl (lssI .i64 _ _ _ _ _ _ rfl rfl rfl false (decide_eq_false (by omega)) _) ?_
          simp only [aP, lI, l0, lS]
          first | show Exit.then _ _ _ _ _ | show Exit.inBlock _ _ _ _ _
          by_cases hn : wnx L last < 0
          · go_upto_region 10 with fail
            refine wp_region_list ?_
            refine readL (.int .i64 (wnx L last)) rfl (by kernel_rfl) ?_
            simp only [aP, lI, l0, lS]
            refine readL (.bool true) rfl (lssI .i64 _ _ _ _ _ _ rfl rfl rfl true (decide_eq_true hn) _) ?_
            simp only [aP, lI, l0, lS]
            first | show Exit.then _ _ _ _ _ | show Exit.inBlock _ _ _ _ _
            go_upto_region 16 with fail
            refine wp_region_list ?_
            refine readL (lv) rfl (by kernel_rfl) ?_
            simp only [aP, lI, l0, lS]
            refine readL (lv) rfl (by kernel_rfl) ?_
            simp only [aP, lI, l0, lS]
            first | show Exit.then _ _ _ _ _ | show Exit.inBlock _ _ _ _ _
            have hE := show Hid _ from (hbel.out.symm.trans (wbl_stop hn))
            have HS := show Hid _ from (And.intro (LV.new hV N) N.below)
            clear M N hI hV
            go_wp2
            go_ret
            exact ⟨⟨_, rfl, by rw [hE.out]; exact HS.out.1⟩, HS.out.2⟩
          · go_upto_region 10 with fail
            refine wp_region_list ?_
            refine readL (.int .i64 (wnx L last)) rfl (by kernel_rfl) ?_
            simp only [aP, lI, l0, lS]
            refine readL (.bool false) rfl (lssI .i64 _ _ _ _ _ _ rfl rfl rfl false (decide_eq_false hn) _) ?_
            simp only [aP, lI, l0, lS]
            first | show Exit.then _ _ _ _ _ | show Exit.inBlock _ _ _ _ _
            obtain ⟨hm1, hm2, hm3⟩ := wnx_mem hn
            have hx0 := hI.win.ge _ hm1
            have hx1 := hI.win.le _ hm1
            have hlt2 := wnx_lt hn
            rcases hV with hV | hV
            · obtain ⟨rfl, rfl, rfl⟩ := hV
              go_upto_region 11 with fail
              refine wp_region_list ?_
              refine readL (.slice none 0 0) rfl (by kernel_rfl) ?_
              simp only [aP, lI, l0, lS]
              refine readL (.int .i64 ((0 : Nat) : Int)) rfl (lenS _ 33 36 none 0 0 rfl Try.underlying33 rfl _) ?_
              simp only [aP, lI, l0, lS]
              refine readL (.bool false) rfl (gtrI .i64 _ _ _ _ _ _ rfl rfl rfl false (by decide) _) ?_
              simp only [aP, lI, l0, lS]
              refine readL (.bool false) rfl (by kernel_rfl) ?_
              simp only [aP, lI, l0, lS]
              with_reducible refine skipL ?_ ?_
              · rfl
              simp only [aP, lI, l0, lS]
              with_reducible refine skipL ?_ ?_
              · rfl
              simp only [aP, lI, l0, lS]
              with_reducible refine skipL ?_ ?_
              · rfl
              simp only [aP, lI, l0, lS]
              with_reducible refine skipL ?_ ?_
              · rfl
              simp only [aP, lI, l0, lS]
              with_reducible refine skipL ?_ ?_
              · rfl
              simp only [aP, lI, l0, lS]
              with_reducible refine skipL ?_ ?_
              · rfl
              simp only [aP, lI, l0, lS]
              with_reducible refine skipL ?_ ?_
              · rfl
              simp only [aP, lI, l0, lS]
              refine readL (.bool false) rfl (by kernel_rfl) ?_
              simp only [aP, lI, l0, lS]
              first | show Exit.then _ _ _ _ _ | show Exit.inBlock _ _ _ _ _
              by_cases hmo : most ≤ 0
              · go_upto_region 13 with fail
                refine wp_region_list ?_
                refine readL (.slice none 0 0) rfl (by kernel_rfl) ?_
                simp only [aP, lI, l0, lS]
                refine readL (.int .i64 ((0 : Nat) : Int)) rfl (lenS _ 33 36 none 0 0 rfl Try.underlying33 rfl _) ?_
                simp only [aP, lI, l0, lS]
                refine readL (.int .i64 most) rfl (by kernel_rfl) ?_
                simp only [aP, lI, l0, lS]
                refine readL (.bool true) rfl (geqI .i64 _ _ _ _ _ _ rfl rfl rfl true (decide_eq_true (by omega)) _) ?_
                simp only [aP, lI, l0, lS]
                first | show Exit.then _ _ _ _ _ | show Exit.inBlock _ _ _ _ _
                have hV : LV [] (.slice none 0 0) [] := .inl ⟨rfl, rfl, rfl⟩
                go_upto_region 16 with fail
                refine wp_region_list ?_
                refine readL (.slice none 0 0) rfl (by kernel_rfl) ?_
                simp only [aP, lI, l0, lS]
                refine readL (.slice none 0 0) rfl (by kernel_rfl) ?_
                simp only [aP, lI, l0, lS]
                first | show Exit.then _ _ _ _ _ | show Exit.inBlock _ _ _ _ _
                have hE := show Hid _ from (hbel.out.symm.trans (wbl_full hn (wput_nilfull hmo)))
                have HS := show Hid _ from (And.intro (LV.new hV N) N.below)
                clear M N hI hV
                go_wp2
                go_ret
                exact ⟨⟨_, rfl, by rw [hE.out]; exact HS.out.1⟩, HS.out.2⟩
              · go_upto_region 13 with fail
                refine wp_region_list ?_
                refine readL (.slice none 0 0) rfl (by kernel_rfl) ?_
                simp only [aP, lI, l0, lS]
                refine readL (.int .i64 ((0 : Nat) : Int)) rfl (lenS _ 33 36 none 0 0 rfl Try.underlying33 rfl _) ?_
                simp only [aP, lI, l0, lS]
                refine readL (.int .i64 most) rfl (by kernel_rfl) ?_
                simp only [aP, lI, l0, lS]
                refine readL (.bool false) rfl (geqI .i64 _ _ _ _ _ _ rfl rfl rfl false (decide_eq_false (by omega)) _) ?_
                simp only [aP, lI, l0, lS]
                first | show Exit.then _ _ _ _ _ | show Exit.inBlock _ _ _ _ _
                go_upto_region 14 with fail
                refine wp_region_list ?_
                refine readL (.int .i64 (wnx L last)) rfl (by kernel_rfl) ?_
                simp only [aP, lI, l0, lS]
                refine readL (.int .i64 (wnx L last)) rfl (by kernel_rfl) ?_
                simp only [aP, lI, l0, lS]
                refine readL (.int .i64 ((wnx L last) + 1)) rfl (addI .i64 _ _ _ _ _ _ _ rfl rfl rfl (by rw [IntKind.wrap_i64]; omega) _) ?_
                simp only [aP, lI, l0, lS]
                refine readL (.agg #[.int .i64 (wnx L last), .int .i64 (wnx L last + 1)]) rfl (by kernel_rfl) ?_
                simp only [aP, lI, l0, lS]
                have V_1 := row_lit wr wr.heap.size (wnx L last) (wnx L last + 1) (Nat.le_refl _)
                have hbz := N.below.size
                have hNz : ∀ p ∈ ([] : List (Nat × List Value)), p.1 < wr.heap.size := fun p hp => (N.rows p hp).2.2
                have hMz : ∀ p ∈ ((R, [Value.slice sp L.length cap]) :: l), p.1 < wr.heap.size := fun p hp => (M.rows p hp).2.2
                have hlb := (Below.refl wr.heap.size wr).alloc (Nat.le_refl _) (.cells #[.int .i64 (wnx L last), .int .i64 (wnx L last + 1)] 36)
                refine actL (w' := wr.alloc (.cells #[.int .i64 (wnx L last), .int .i64 (wnx L last + 1)] 36)) (.slice (some ⟨wr.heap.size, 0, none⟩) 1 1) rfl (by kernel_rfl) ?_
                simp only [aP, lI, l0, lS]
                replace M := M.call hlb
                replace N := N.call hlb
                have hwz := hlb.size
                clear hlb
                generalize wr.alloc (.cells #[.int .i64 (wnx L last), .int .i64 (wnx L last + 1)] 36) = w8 at M N V_1 hwz ⊢
                have hbb : wr.heap.size ≤ wr.heap.size := Nat.le_refl _
                generalize wr.heap.size = bz at V_1 hbz hNz hMz hwz hbb ⊢
                refine readL (.slice none 0 0) rfl (by kernel_rfl) ?_
                simp only [aP, lI, l0, lS]
                refine actL (w' := w8) (.slice (some ⟨bz, 0, none⟩) 1 1) rfl (by kernel_rfl) ?_
                simp only [aP, lI, l0, lS]
                have N2 : Mm w [(bz, wrc [(wnx L last, wnx L last + 1)])] w8 := Mm.ofRow (Mm.of N.below) V_1 rfl hbz (fun p hp => by cases hp)
                refine readL (.slice (some ⟨bz, 0, none⟩) 1 1) rfl (by kernel_rfl) ?_
                simp only [aP, lI, l0, lS]
                first | show Exit.then _ _ _ _ _ | show Exit.inBlock _ _ _ _ _
                clear N V_1
                go_upto_region 15 with fail
                refine wp_region_list ?_
                refine readL (.int .i64 (wnx L last)) rfl (by kernel_rfl) ?_
                simp only [aP, lI, l0, lS]
                refine readL (.int .i64 (wnx L last)) rfl (by kernel_rfl) ?_
                simp only [aP, lI, l0, lS]
                first | show Exit.then _ _ _ _ _ | show Exit.inBlock _ _ _ _ _
                have hk2 := show Hid _ from ((wbl_more (k := k) hn (wput_nil hmo)).symm.trans hbel.out)
                have HS := show Hid _ from (And.intro (show LV [(wnx L last, wnx L last + 1)] (.slice (some ⟨bz, 0, none⟩) 1 1) [(bz, wrc [(wnx L last, wnx L last + 1)])] from .inr ⟨bz, 1, by simp, rfl, Nat.le_refl _, rfl⟩) (And.intro M N2))
                clear M N2 hI hm1
                go_wp2
                go_roundw
                case rel => exact ⟨k, [(wnx L last, wnx L last + 1)], wnx L last, [(bz, wrc [(wnx L last, wnx L last + 1)])], _, rfl, by omega, hk2.out, by simp only [List.length_cons, List.length_nil] at hrl ⊢; omega, by omega, HS.out.1, rfl, HS.out.2⟩
                case measure => simp [intOf]; omega
            · obtain ⟨g, cap2, hne, rfl, hc2, rfl⟩ := hV
              obtain ⟨⟨a, b⟩, t, rfl⟩ := List.exists_cons_of_ne_nil hne
              clear hne
              by_cases ha : a = wnx L last + 1
              · go_upto_region 11 with fail
                refine wp_region_list ?_
                refine readL (.slice (some ⟨g, 0, none⟩) (((a, b) :: t).length) cap2) rfl (by kernel_rfl) ?_
                simp only [aP, lI, l0, lS]
                refine readL (.int .i64 ((((a, b) :: t).length : Nat) : Int)) rfl (lenS _ 33 36 (some ⟨g, 0, none⟩) (((a, b) :: t).length) cap2 rfl Try.underlying33 rfl _) ?_
                simp only [aP, lI, l0, lS]
                refine readL (.bool true) rfl (gtrI .i64 _ _ _ _ _ _ rfl rfl rfl true (decide_eq_true (by rw [List.length_cons]; omega)) _) ?_
                simp only [aP, lI, l0, lS]
                refine readL (.bool true) rfl (by kernel_rfl) ?_
                simp only [aP, lI, l0, lS]
                refine readL (.slice (some ⟨g, 0, none⟩) (((a, b) :: t).length) cap2) rfl (by kernel_rfl) ?_
                simp only [aP, lI, l0, lS]
                refine readL (.pointer (some ⟨g, 0, none⟩)) rfl (idxR g _ _ (Nat.succ_pos _) _ _ rfl rfl rfl _) ?_
                simp only [aP, lI, l0, lS]
                refine readL (.pointer (some ⟨g, 0, none⟩)) rfl (by kernel_rfl) ?_
                simp only [aP, lI, l0, lS]
                refine readL (.int .i64 a) rfl (load1 3 _ ⟨g, 0, none⟩ _ rfl rfl (fun _ => by kernel_rfl) (N.get mS 0 _ rfl)) ?_
                simp only [aP, lI, l0, lS]
                refine readL (.int .i64 (wnx L last)) rfl (by kernel_rfl) ?_
                simp only [aP, lI, l0, lS]
                refine readL (.int .i64 ((wnx L last) + 1)) rfl (addI .i64 _ _ _ _ _ _ _ rfl rfl rfl (by rw [IntKind.wrap_i64]; omega) _) ?_
                simp only [aP, lI, l0, lS]
                refine readL (.bool true) rfl (eqlI .i64 _ _ _ _ _ _ rfl rfl rfl true (by rw [beq_iff_eq]; exact ha) _) ?_
                simp only [aP, lI, l0, lS]
                refine readL (.bool true) rfl (by kernel_rfl) ?_
                simp only [aP, lI, l0, lS]
                first | show Exit.then _ _ _ _ _ | show Exit.inBlock _ _ _ _ _
                go_upto_region 12 with fail
                refine wp_region_list ?_
                refine readL (.slice (some ⟨g, 0, none⟩) (((a, b) :: t).length) cap2) rfl (by kernel_rfl) ?_
                simp only [aP, lI, l0, lS]
                refine readL (.int .i64 (wnx L last)) rfl (by kernel_rfl) ?_
                simp only [aP, lI, l0, lS]
                refine readL (.pointer (some ⟨g, 0, none⟩)) rfl (idxR g _ _ (Nat.succ_pos _) _ _ rfl rfl rfl _) ?_
                simp only [aP, lI, l0, lS]
                refine readL (.pointer (some ⟨g, 0, none⟩)) rfl (by kernel_rfl) ?_
                simp only [aP, lI, l0, lS]
                have hgw := N.lo mS
                refine skipOpL rfl (storeAny (.int .i64 (wnx L last)) g 0 3 _ _ rfl rfl rfl rfl rfl (N.isSome mS 0 (Nat.succ_pos _)) (N.free mS 0 (Nat.succ_pos _)) (by kernel_rfl)) ?_
                simp only [Act.put]
                have oG := (Off.refl [g] wr).set (b := g) mS 0 (.int .i64 (wnx L last))
                replace M := M.off oG (fun b hb => by obtain rfl := List.mem_singleton.1 hb; have := hM0; omega) (fun p hp hm => by have h1 := hML p hp; have h2 := List.mem_singleton.1 hm; omega) ⟨rfl, rfl, rfl⟩
                replace N := N.set 0 (Nat.succ_pos _) (.int .i64 (wnx L last))
                clear oG
                generalize wr.setCell ⟨g, 0, none⟩ (.int .i64 (wnx L last)) = w10 at M N ⊢
                replace N : Mm w [(g, wrc ((wnx L last, b) :: t))] w10 := N
                first | show Exit.then _ _ _ _ _ | show Exit.inBlock _ _ _ _ _
                have N2 := N
                clear N
                go_upto_region 15 with fail
                refine wp_region_list ?_
                refine readL (.int .i64 (wnx L last)) rfl (by kernel_rfl) ?_
                simp only [aP, lI, l0, lS]
                refine readL (.int .i64 (wnx L last)) rfl (by kernel_rfl) ?_
                simp only [aP, lI, l0, lS]
                first | show Exit.then _ _ _ _ _ | show Exit.inBlock _ _ _ _ _
                have hk2 := show Hid _ from ((wbl_more (k := k) hn (wput_wide ha)).symm.trans hbel.out)
                have HS := show Hid _ from (And.intro (show LV ((wnx L last, b) :: t) (.slice (some ⟨g, 0, none⟩) ((a, b) :: t).length cap2) [(g, wrc ((wnx L last, b) :: t))] from .inr ⟨g, cap2, by simp, rfl, hc2, rfl⟩) (And.intro M N2))
                clear M N2 hI hm1
                go_wp2
                go_roundw
                case rel => exact ⟨k, ((wnx L last, b) :: t), wnx L last, [(g, wrc ((wnx L last, b) :: t))], _, rfl, by omega, hk2.out, by simp only [List.length_cons] at hrl ⊢; omega, by omega, HS.out.1, rfl, HS.out.2⟩
                case measure => simp [intOf]; omega
              · go_upto_region 11 with fail
                refine wp_region_list ?_
                refine readL (.slice (some ⟨g, 0, none⟩) (((a, b) :: t).length) cap2) rfl (by kernel_rfl) ?_
                simp only [aP, lI, l0, lS]
                refine readL (.int .i64 ((((a, b) :: t).length : Nat) : Int)) rfl (lenS _ 33 36 (some ⟨g, 0, none⟩) (((a, b) :: t).length) cap2 rfl Try.underlying33 rfl _) ?_
                simp only [aP, lI, l0, lS]
                refine readL (.bool true) rfl (gtrI .i64 _ _ _ _ _ _ rfl rfl rfl true (decide_eq_true (by rw [List.length_cons]; omega)) _) ?_
                simp only [aP, lI, l0, lS]
                refine readL (.bool true) rfl (by kernel_rfl) ?_
                simp only [aP, lI, l0, lS]
                refine readL (.slice (some ⟨g, 0, none⟩) (((a, b) :: t).length) cap2) rfl (by kernel_rfl) ?_
                simp only [aP, lI, l0, lS]
                refine readL (.pointer (some ⟨g, 0, none⟩)) rfl (idxR g _ _ (Nat.succ_pos _) _ _ rfl rfl rfl _) ?_
                simp only [aP, lI, l0, lS]
                refine readL (.pointer (some ⟨g, 0, none⟩)) rfl (by kernel_rfl) ?_
                simp only [aP, lI, l0, lS]
                refine readL (.int .i64 a) rfl (load1 3 _ ⟨g, 0, none⟩ _ rfl rfl (fun _ => by kernel_rfl) (N.get mS 0 _ rfl)) ?_
                simp only [aP, lI, l0, lS]
                refine readL (.int .i64 (wnx L last)) rfl (by kernel_rfl) ?_
                simp only [aP, lI, l0, lS]
                refine readL (.int .i64 ((wnx L last) + 1)) rfl (addI .i64 _ _ _ _ _ _ _ rfl rfl rfl (by rw [IntKind.wrap_i64]; omega) _) ?_
                simp only [aP, lI, l0, lS]
                refine readL (.bool false) rfl (eqlI .i64 _ _ _ _ _ _ rfl rfl rfl false (by rw [beq_eq_false_iff_ne]; exact ha) _) ?_
                simp only [aP, lI, l0, lS]
                refine readL (.bool false) rfl (by kernel_rfl) ?_
                simp only [aP, lI, l0, lS]
                first | show Exit.then _ _ _ _ _ | show Exit.inBlock _ _ _ _ _
                by_cases hmo : most ≤ (((a, b) :: t).length : Int)
                · go_upto_region 13 with fail
                  refine wp_region_list ?_
                  refine readL (.slice (some ⟨g, 0, none⟩) (((a, b) :: t).length) cap2) rfl (by kernel_rfl) ?_
                  simp only [aP, lI, l0, lS]
                  refine readL (.int .i64 ((((a, b) :: t).length : Nat) : Int)) rfl (lenS _ 33 36 (some ⟨g, 0, none⟩) (((a, b) :: t).length) cap2 rfl Try.underlying33 rfl _) ?_
                  simp only [aP, lI, l0, lS]
                  refine readL (.int .i64 most) rfl (by kernel_rfl) ?_
                  simp only [aP, lI, l0, lS]
                  refine readL (.bool true) rfl (geqI .i64 _ _ _ _ _ _ rfl rfl rfl true (decide_eq_true hmo) _) ?_
                  simp only [aP, lI, l0, lS]
                  first | show Exit.then _ _ _ _ _ | show Exit.inBlock _ _ _ _ _
                  have hV : LV ((a, b) :: t) (.slice (some ⟨g, 0, none⟩) ((a, b) :: t).length cap2) [(g, wrc ((a, b) :: t))] := .inr ⟨g, cap2, by simp, rfl, hc2, rfl⟩
                  go_upto_region 16 with fail
                  refine wp_region_list ?_
                  refine readL (.slice (some ⟨g, 0, none⟩) (((a, b) :: t).length) cap2) rfl (by kernel_rfl) ?_
                  simp only [aP, lI, l0, lS]
                  refine readL (.slice (some ⟨g, 0, none⟩) (((a, b) :: t).length) cap2) rfl (by kernel_rfl) ?_
                  simp only [aP, lI, l0, lS]
                  first | show Exit.then _ _ _ _ _ | show Exit.inBlock _ _ _ _ _
                  have hE := show Hid _ from (hbel.out.symm.trans (wbl_full hn (wput_full ha hmo)))
                  have HS := show Hid _ from (And.intro (LV.new hV N) N.below)
                  clear M N hI hV
                  go_wp2
                  go_ret
                  exact ⟨⟨_, rfl, by rw [hE.out]; exact HS.out.1⟩, HS.out.2⟩
                · go_upto_region 13 with fail
                  refine wp_region_list ?_
                  refine readL (.slice (some ⟨g, 0, none⟩) (((a, b) :: t).length) cap2) rfl (by kernel_rfl) ?_
                  simp only [aP, lI, l0, lS]
                  refine readL (.int .i64 ((((a, b) :: t).length : Nat) : Int)) rfl (lenS _ 33 36 (some ⟨g, 0, none⟩) (((a, b) :: t).length) cap2 rfl Try.underlying33 rfl _) ?_
                  simp only [aP, lI, l0, lS]
                  refine readL (.int .i64 most) rfl (by kernel_rfl) ?_
                  simp only [aP, lI, l0, lS]
                  refine readL (.bool false) rfl (geqI .i64 _ _ _ _ _ _ rfl rfl rfl false (decide_eq_false hmo) _) ?_
                  simp only [aP, lI, l0, lS]
                  first | show Exit.then _ _ _ _ _ | show Exit.inBlock _ _ _ _ _
                  go_upto_region 14 with fail
                  refine wp_region_list ?_
                  refine readL (.int .i64 (wnx L last)) rfl (by kernel_rfl) ?_
                  simp only [aP, lI, l0, lS]
                  refine readL (.int .i64 (wnx L last)) rfl (by kernel_rfl) ?_
                  simp only [aP, lI, l0, lS]
                  refine readL (.int .i64 ((wnx L last) + 1)) rfl (addI .i64 _ _ _ _ _ _ _ rfl rfl rfl (by rw [IntKind.wrap_i64]; omega) _) ?_
                  simp only [aP, lI, l0, lS]
                  refine readL (.agg #[.int .i64 (wnx L last), .int .i64 (wnx L last + 1)]) rfl (by kernel_rfl) ?_
                  simp only [aP, lI, l0, lS]
                  have V_1 := row_lit wr wr.heap.size (wnx L last) (wnx L last + 1) (Nat.le_refl _)
                  have hbz := N.below.size
                  have hNz : ∀ p ∈ [(g, wrc ((a, b) :: t))], p.1 < wr.heap.size := fun p hp => (N.rows p hp).2.2
                  have hMz : ∀ p ∈ ((R, [Value.slice sp L.length cap]) :: l), p.1 < wr.heap.size := fun p hp => (M.rows p hp).2.2
                  have hlb := (Below.refl wr.heap.size wr).alloc (Nat.le_refl _) (.cells #[.int .i64 (wnx L last), .int .i64 (wnx L last + 1)] 36)
                  refine actL (w' := wr.alloc (.cells #[.int .i64 (wnx L last), .int .i64 (wnx L last + 1)] 36)) (.slice (some ⟨wr.heap.size, 0, none⟩) 1 1) rfl (by kernel_rfl) ?_
                  simp only [aP, lI, l0, lS]
                  replace M := M.call hlb
                  replace N := N.call hlb
                  have hwz := hlb.size
                  clear hlb
                  generalize wr.alloc (.cells #[.int .i64 (wnx L last), .int .i64 (wnx L last + 1)] 36) = w11 at M N V_1 hwz ⊢
                  have hbb : wr.heap.size ≤ wr.heap.size := Nat.le_refl _
                  generalize wr.heap.size = bz at V_1 hbz hNz hMz hwz hbb ⊢
                  refine readL (.slice (some ⟨g, 0, none⟩) (((a, b) :: t).length) cap2) rfl (by kernel_rfl) ?_
                  simp only [aP, lI, l0, lS]
                  obtain ⟨v, w12, hr, V_2, hgr, hg2⟩ := run_append_OwnV (P := Try.prog) (ty := 33) Try.underlying33 manyW rfl (by decide) V_1 ⟨g, 0, none⟩ ((a, b) :: t).length cap2 (wrc ((a, b) :: t)) (wrc_len _) (N.rangeAt mS) (wrc_one _) (by unfold maxLen; omega) (by omega) hwz
                  have hb1 : ∀ b_, (Value.slice (some ⟨bz, 0, none⟩) 1 1).ownBlock = some b_ → bz ≤ b_ := fun b_ hb_ => (World.ownsRow.lt V_1 b_ hb_).1
                  replace M := M.grown hgr bz hMz (Nat.le_trans hM0 hbz) hwz hb1
                  have N3 := (Mm.of (w0 := w) N.below).grown hgr bz (fun p hp => by cases hp) hbz hwz hb1
                  refine actL v rfl (appendOp _ _ 33 _ _ _ rfl rfl rfl hr) ?_
                  simp only [aP, lI, l0, lS]
                  obtain ⟨g2, cap3, rfl, hc3⟩ := row_slice V_2 (by omega)
                  have N2 : Mm w [(g2, wrc ((wnx L last, wnx L last + 1) :: (a, b) :: t))] w12 := Mm.ofRow N3 V_2 rfl hbz (fun p hp => by cases hp)
                  clear hr hgr V_1 V_2 hg2 N N3
                  refine readL (.slice (some ⟨g2, 0, none⟩) (1 + ((a, b) :: t).length) cap3) rfl (by kernel_rfl) ?_
                  simp only [aP, lI, l0, lS]
                  first | show Exit.then _ _ _ _ _ | show Exit.inBlock _ _ _ _ _
                  go_upto_region 15 with fail
                  refine wp_region_list ?_
                  refine readL (.int .i64 (wnx L last)) rfl (by kernel_rfl) ?_
                  simp only [aP, lI, l0, lS]
                  refine readL (.int .i64 (wnx L last)) rfl (by kernel_rfl) ?_
                  simp only [aP, lI, l0, lS]
                  first | show Exit.then _ _ _ _ _ | show Exit.inBlock _ _ _ _ _
                  have hk2 := show Hid _ from ((wbl_more (k := k) hn (wput_new ha hmo)).symm.trans hbel.out)
                  have HS := show Hid _ from (And.intro (show LV ((wnx L last, wnx L last + 1) :: (a, b) :: t) (.slice (some ⟨g2, 0, none⟩) (1 + ((a, b) :: t).length) cap3) [(g2, wrc ((wnx L last, wnx L last + 1) :: (a, b) :: t))] from .inr ⟨g2, cap3, by simp, by rw [Nat.add_comm]; rfl, by rw [List.length_cons]; omega, rfl⟩) (And.intro M N2))
                  clear M N2 hI hm1
                  go_wp2
                  go_roundw
                  case rel => exact ⟨k, ((wnx L last, wnx L last + 1) :: (a, b) :: t), wnx L last, [(g2, wrc ((wnx L last, wnx L last + 1) :: (a, b) :: t))], _, rfl, by omega, hk2.out, by simp only [List.length_cons] at hrl ⊢; omega, by omega, HS.out.1, rfl, HS.out.2⟩
                  case measure => simp [intOf]; omega
section
section
variable {w0 w : World} {g x t : List (Nat × List Value)}
theorem Mm.lts (h : Mm w0 (g ++ t) w) : ∀ b ∈ g.map Prod.fst, b < w.heap.size := fun b hb => by
  obtain ⟨p, hp, rfl⟩ := List.mem_map.1 hb
  exact (h.rows p (List.mem_append_left _ hp)).2.2
theorem Mm.beside (h : Mm w0 (g ++ t) w) {B : Nat} {c : List Value} (hB : (B, c) ∈ t) : B ∉ g.map Prod.fst := fun hb => by
  obtain ⟨p, hp, e⟩ := List.mem_map.1 hb
  exact (List.pairwise_append.1 h.apart).2.2 p hp (B, c) hB e
end
section
variable {α : Type} (x a b c g t : List α)
theorem pull0 : (x ++ (g ++ t)).Perm (g ++ (x ++ t)) := by
  rw [← List.append_assoc, ← List.append_assoc]
  exact List.perm_append_comm.append_right t
theorem pull1 : (x ++ (a ++ (g ++ t))).Perm (g ++ (x ++ (a ++ t))) := by
  have := pull0 (x ++ a) g t
  rw [List.append_assoc, List.append_assoc] at this
  exact this
theorem pull2 : (x ++ (a ++ (b ++ (g ++ t)))).Perm (g ++ (x ++ (a ++ (b ++ t)))) := by
  have := pull1 (x ++ a) b g t
  rw [List.append_assoc, List.append_assoc] at this
  exact this
theorem pull3 : (x ++ (a ++ (b ++ (c ++ (g ++ t))))).Perm (g ++ (x ++ (a ++ (b ++ (c ++ t))))) := by
  have := pull2 (x ++ a) b c g t
  rw [List.append_assoc, List.append_assoc] at this
  exact this
end
end
structure WinOK (I : Value → List Int → List (Nat × List Value) → Prop) : Prop where
  ptr : ∀ v L bs, I v L bs → ∃ R, v = .pointer (some ⟨R, 0, none⟩)
  new : ∀ (w0 w : World) (l : List (Nat × List Value)), Mm w0 l w →
    Calls Try.prog 8 #[] w fun e w' => ∃ v bs, e = .returned v ∧ I v [] bs ∧ Mm w0 (bs ++ l) w' ∧ Below w.heap.size w w'
  chk : ∀ (w0 w : World) (v : Value) (L : List Int) (bs l : List (Nat × List Value)) (n : Int), WinL L → i64 n → I v L bs → Mm w0 (bs ++ l) w →
    Calls Try.prog 13 #[v, .int .i64 n] w fun e w' => e = .returned (.int .i64 (wchk L n)) ∧ Below w.heap.size w w'
  mrk : ∀ (w0 w : World) (v : Value) (L : List Int) (bs l : List (Nat × List Value)) (n : Int), WinL L → L.length < 1000000 → i64 n → I v L bs → Mm w0 (bs ++ l) w →
    Calls Try.prog 11 #[v, .int .i64 n] w fun e w' => e = .returned (.int .i64 (wchk L n)) ∧ ∃ bs', I v (wmk L n) bs' ∧ (∀ p ∈ bs', p.1 ∈ bs.map Prod.fst ∨ w.heap.size ≤ p.1) ∧ Mm w0 (bs' ++ l) w' ∧ Off (bs.map Prod.fst) w w'
  top : ∀ (w0 w : World) (v : Value) (L : List Int) (bs l : List (Nat × List Value)), WinL L → I v L bs → Mm w0 (bs ++ l) w →
    Calls Try.prog 15 #[v] w fun e w' => e = .returned (.int .i64 (wtop L)) ∧ Below w.heap.size w w'
  cnt : ∀ (w0 w : World) (v : Value) (L : List Int) (bs l : List (Nat × List Value)), WinL L → I v L bs → Mm w0 (bs ++ l) w →
    Calls Try.prog 17 #[v] w fun e w' => e = .returned (.int .i64 ((wcnt L : Nat) : Int)) ∧ Below w.heap.size w w'
  bel : ∀ (w0 w : World) (v : Value) (L : List Int) (bs l : List (Nat × List Value)) (most : Int), WinL L → i64 most → I v L bs → Mm w0 (bs ++ l) w →
    Calls Try.prog 19 #[v, .int .i64 most] w fun e w' => (∃ u, e = .returned u ∧ NewW w' w.heap.size (wbel L most) u) ∧ Below w.heap.size w w'
def WinCl (I : Value → List Int → List (Nat × List Value) → Prop) : Prop :=
  ∀ (w0 w : World) (v : Value) (L : List Int) (bs l : List (Nat × List Value)), WinL L → I v L bs → Mm w0 (bs ++ l) w →
    Calls Try.prog 9 #[v] w fun e w' => ∃ v' bs', e = .returned v' ∧ I v' L bs' ∧ (∀ p ∈ bs', w.heap.size ≤ p.1) ∧ Mm w0 (bs' ++ (bs ++ l)) w' ∧ Below w.heap.size w w'
theorem NewW.off {w w' : World} {base : Nat} {l : List (Int × Int)} {v : Value} {X : List Nat} (h : NewW w base l v) (o : Off X w w') (hX : ∀ b ∈ X, b < base) : NewW w' base l v := by
  obtain ⟨sp, cap, hv, hc, hn, hs, ha⟩ := h
  have hsz := o.size
  refine ⟨sp, cap, hv, hc, hn, fun j u hu => ?_, fun a e => ⟨(ha a e).1, by have := (ha a e).2; omega⟩⟩
  obtain ⟨p, hp, hcell⟩ := hs j u hu
  exact ⟨p, hp, o.cell hcell (by rw [add_block]; exact fun hm => by have := hX _ hm; have := (ha p hp).1; omega)⟩
theorem NewW.below {w w' : World} {base : Nat} {l : List (Int × Int)} {v : Value} (h : NewW w base l v) (b : Below w.heap.size w w') : NewW w' base l v := h.off (X := []) (Off.of_below b) (fun _ hb => by cases hb)
theorem NewW.slice {w : World} {base : Nat} {l : List (Int × Int)} {v : Value} (h : NewW w base l v) : ∃ sp cap, v = .slice sp l.length cap ∧ l.length ≤ cap := by
  obtain ⟨sp, cap, hv, hc, _⟩ := h
  exact ⟨sp, cap, hv, hc⟩
theorem wrc_get : ∀ (l : List (Int × Int)) (i : Nat) (p : Int × Int), l[i]? = some p → (wrc l)[i * 2]? = some (.int .i64 p.1) ∧ (wrc l)[i * 2 + 1]? = some (.int .i64 p.2)
  | [], _, _, h => by cases h
  | q :: l, 0, p, h => by
    obtain rfl : q = p := by simpa using h
    exact ⟨rfl, rfl⟩
  | q :: l, i + 1, p, h => by
    have := wrc_get l i p (by simpa using h)
    rw [show (i + 1) * 2 = i * 2 + 1 + 1 by omega]
    exact this
theorem NewW.at {w : World} {base : Nat} {l : List (Int × Int)} {sp : Option Addr} {cap : Nat} (h : NewW w base l (.slice sp l.length cap)) {i : Nat} {p : Int × Int} (hi : l[i]? = some p) : ∃ ad, sp = some ad ∧ w.cell? ((ad.add (i * 2)).add 0) = some (.int .i64 p.1) ∧ w.cell? ((ad.add (i * 2)).add 1) = some (.int .i64 p.2) := by
  obtain ⟨sp', cap', hv, _, _, hs, _⟩ := h
  injection hv with h1 _ _
  subst h1
  obtain ⟨g1, g2⟩ := wrc_get l i p hi
  obtain ⟨ad, rfl, c1⟩ := hs _ _ g1
  obtain ⟨ad', e, c2⟩ := hs _ _ g2
  injection e with e
  subst e
  exact ⟨ad, rfl, by rw [Addr.add_add, Nat.add_zero]; exact c1, by rw [Addr.add_add]; exact c2⟩
theorem idxR2 (ad : Addr) (len cap i : Nat) (hi : i < len) {o : Oper} {a : Act} (x y : Operand) (ho : o.op = .indexAddr 33 x y) (hx : a.eval x = .slice (some ad) len cap) (hy : a.eval y = .int .i64 (i : Int)) (w : World) : (execOp a.eval o).run Try.prog w = .ok (.value (.pointer (some (ad.add (i * 2))))) w :=
  idxSm 33 36 len cap 2 .i64 ad i x y Try.underlying33 (fun _ => by kernel_rfl) hi ho hx hy w
theorem range_n : (Try.prog.fieldsOf 36).toList.map Field.name = ["From", "To"] := by kernel_rfl
theorem range_t : (Try.prog.fieldsOf 36).toList.map Field.type = [3, 3] := by kernel_rfl
theorem range_o : (Try.prog.fieldsOf 36).toList.map Field.offset = [0, 1] := by kernel_rfl
theorem two_of14 {l : List Field} {n1 n2 : String} {t1 t2 : TypeId} {o1 o2 : Nat} (hn : l.map Field.name = [n1, n2]) (ht : l.map Field.type = [t1, t2]) (ho : l.map Field.offset = [o1, o2]) : ∃ a b : Field, l = [a, b] ∧ a.name = n1 ∧ b.name = n2 ∧ a.type = t1 ∧ b.type = t2 ∧ a.offset = o1 ∧ b.offset = o2 := by
  rcases l with _ | ⟨a, _ | ⟨b, _ | ⟨c, l⟩⟩⟩
  · simp at hn
  · simp at hn
  · simp only [List.map_cons, List.map_nil, List.cons.injEq, and_true] at hn ht ho
    exact ⟨a, b, rfl, hn.1, hn.2, ht.1, ht.2, ho.1, ho.2⟩
  · simp at hn
theorem eqRange (x y : Int) (w : World) : (Op.equalIn (9999 + 1) 36 (.agg #[.int .i64 x, .int .i64 y]) (.agg #[.int .i64 x, .int .i64 y])).run Try.prog w = .ok true w := by
  rw [run_equalIn_struct w 9999 36 _ _ (by kernel_rfl) (by kernel_rfl)]
  obtain ⟨a, b, e, n1, n2, t1, t2, o1, o2⟩ := two_of14 range_n range_t range_o
  rw [e]
  have p1 : (part 3 #[.int .i64 x, .int .i64 y] 0).run Try.prog w = .ok (.int .i64 x) w := by kernel_rfl
  have p2 : (part 3 #[.int .i64 x, .int .i64 y] 1).run Try.prog w = .ok (.int .i64 y) w := by kernel_rfl
  have q : ∀ z : Int, (Op.equalIn (9998 + 1) 3 (.int .i64 z) (.int .i64 z)).run Try.prog w = .ok true w := fun z => by rw [run_equalIn_int w 9998 3 .i64 .i64 z z Try.underlying3, beq_self_eq_true]
  have m1 : a.name ≠ "_" := by rw [n1]; decide
  have m2 : b.name ≠ "_" := by rw [n2]; decide
  have q1 := q x
  have q2 := q y
  simp only [Op.eqFields, m1, m2, t1, t2, o1, o2, ne_eq, not_false_eq_true, if_true, Sem.run_bind, p1, p2, q1, q2, Result.andThen_ok, Bool.not_true, Bool.false_eq_true, if_false, Sem.run_pure]
theorem eqlRg {o : Oper} {a : Act} (f g f' g' : Int) (x y : Operand) (ho : o.op = .binOp .eql 36 x y 36) (hx : a.eval x = .agg #[.int .i64 f, .int .i64 g]) (hy : a.eval y = .agg #[.int .i64 f', .int .i64 g']) (h1 : f = f') (h2 : g = g') (w : World) :
    (execOp a.eval o).run Try.prog w = .ok (.value (.bool true)) w := by
  subst h1 h2
  have e1 : (binOp .eql 36 (.agg #[.int .i64 f, .int .i64 g]) (.agg #[.int .i64 f, .int .i64 g])).run Try.prog w = .ok (.bool true) w := by
    rw [run_eql_struct, eqRange]
    rfl
  unfold execOp
  simp only [ho, hx, hy, Sem.run_bind, run_eqGuard_agg (P := Try.prog) w .eql 36 x y _ _ (by kernel_rfl), Result.andThen_ok, e1, Sem.run_pure]
theorem shown14_any {I : Value → List Int → List (Nat × List Value) → Prop} (hK : WinOK I) (w0 : World) :
    Calls Try.prog 7 #[] w0 fun e w' => e = .returned (.bool true) ∧ Below w0.heap.size w0 w' := by
  have M := Mm.init w0
  go_enter Try.func7, Try.ntmps7
  go_upto_region 0 with fail
  refine wp_region_list ?_
  refine readL (.bool false) rfl (by kernel_rfl) ?_
  simp only [aP, lI, l0]
  first | show Exit.then _ _ _ _ _ | show Exit.inBlock _ _ _ _ _
  go_upto_region 1 with fail
  refine wp_region_list ?_
  have key := hK.new w0 _ _ M
  refine callL rfl (fun _ => by kernel_rfl) key ?_
  clear key
  rintro e w1 ⟨v_, ba0, rfl, hIa, M', l⟩
  obtain ⟨Ra, rfl⟩ := hK.ptr _ _ _ hIa
  clear M
  have M := M'.perm (pull0 ([] : List (Nat × List Value)) ba0 ([] : List (Nat × List Value))).symm
  clear M'
  clear l
  replace M : Mm w0 ((ba0 ++ ([] : List (Nat × List Value)))) w1 := M
  refine ⟨_, rfl, ?_⟩
  simp only [aP, lI, l0, lS]
  refine readL (.pointer (some ⟨Ra, 0, none⟩)) rfl (by kernel_rfl) ?_
  simp only [aP, lI, l0, lS]
  first | show Exit.then _ _ _ _ _ | show Exit.inBlock _ _ _ _ _
  go_upto_region 2 with fail
  refine wp_region_list ?_
  refine readL (.pointer (some ⟨Ra, 0, none⟩)) rfl (by kernel_rfl) ?_
  simp only [aP, lI, l0, lS]
  refine readL (.bool false) rfl (by kernel_rfl) ?_
  simp only [aP, lI, l0, lS]
  first | show Exit.then _ _ _ _ _ | show Exit.inBlock _ _ _ _ _
  go_upto_region 4 with fail
  refine wp_region_list ?_
  refine readL (.pointer (some ⟨Ra, 0, none⟩)) rfl (by kernel_rfl) ?_
  simp only [aP, lI, l0, lS]
  have Mp := M.perm (pull0 ([] : List (Nat × List Value)) ba0 ([] : List (Nat × List Value)))
  have key := hK.top w0 _ _ ([]) ba0 _ winL_nil hIa Mp
  clear Mp
  rw [show wtop [] = (-1) by decide] at key
  refine callL rfl (fun _ => by kernel_rfl) key ?_
  clear key
  rintro e w2 ⟨rfl, l⟩
  replace M := M.call l
  clear l
  refine ⟨_, rfl, ?_⟩
  simp only [aP, lI, l0, lS]
  refine readL (.int .i64 (-1)) rfl (by kernel_rfl) ?_
  simp only [aP, lI, l0, lS]
  first | show Exit.then _ _ _ _ _ | show Exit.inBlock _ _ _ _ _
  go_upto_region 5 with fail
  refine wp_region_list ?_
  refine readL (.pointer (some ⟨Ra, 0, none⟩)) rfl (by kernel_rfl) ?_
  simp only [aP, lI, l0, lS]
  have Mp := M.perm (pull0 ([] : List (Nat × List Value)) ba0 ([] : List (Nat × List Value)))
  have key := hK.mrk w0 _ _ ([]) ba0 _ 5 winL_nil (by decide) (by unfold i64; decide) hIa Mp
  rw [show wchk [] 5 = 0 by decide, show wmk [] 5 = [5] by decide] at key
  refine callL rfl (fun _ => by kernel_rfl) key ?_
  clear key
  rintro e w3 ⟨rfl, ba1, hI_, hsub, M', o1⟩
  clear o1 hsub Mp M hIa
  have hIa := hI_
  clear hI_
  have M : Mm w0 ((ba1 ++ ([] : List (Nat × List Value)))) w3 := M'.perm (pull0 ([] : List (Nat × List Value)) ba1 ([] : List (Nat × List Value))).symm
  clear M'
  refine ⟨_, rfl, ?_⟩
  simp only [aP, lI, l0, lS]
  refine readL (.int .i64 0) rfl (by kernel_rfl) ?_
  simp only [aP, lI, l0, lS]
  first | show Exit.then _ _ _ _ _ | show Exit.inBlock _ _ _ _ _
  go_upto_region 6 with fail
  refine wp_region_list ?_
  refine readL (.pointer (some ⟨Ra, 0, none⟩)) rfl (by kernel_rfl) ?_
  simp only [aP, lI, l0, lS]
  have Mp := M.perm (pull0 ([] : List (Nat × List Value)) ba1 ([] : List (Nat × List Value)))
  have key := hK.mrk w0 _ _ ([5]) ba1 _ 5 (wmk_w winL_nil 5) (by decide) (by unfold i64; decide) hIa Mp
  rw [show wchk [5] 5 = 140 by decide, show wmk [5] 5 = [5] by decide] at key
  refine callL rfl (fun _ => by kernel_rfl) key ?_
  clear key
  rintro e w4 ⟨rfl, ba2, hI_, hsub, M', o1⟩
  clear o1 hsub Mp M hIa
  have hIa := hI_
  clear hI_
  have M : Mm w0 ((ba2 ++ ([] : List (Nat × List Value)))) w4 := M'.perm (pull0 ([] : List (Nat × List Value)) ba2 ([] : List (Nat × List Value))).symm
  clear M'
  refine ⟨_, rfl, ?_⟩
  simp only [aP, lI, l0, lS]
  refine readL (.int .i64 140) rfl (by kernel_rfl) ?_
  simp only [aP, lI, l0, lS]
  first | show Exit.then _ _ _ _ _ | show Exit.inBlock _ _ _ _ _
  go_upto_region 7 with fail
  refine wp_region_list ?_
  refine readL (.pointer (some ⟨Ra, 0, none⟩)) rfl (by kernel_rfl) ?_
  simp only [aP, lI, l0, lS]
  have Mp := M.perm (pull0 ([] : List (Nat × List Value)) ba2 ([] : List (Nat × List Value)))
  have key := hK.mrk w0 _ _ ([5]) ba2 _ 3 (wmk_w winL_nil 5) (by decide) (by unfold i64; decide) hIa Mp
  rw [show wchk [5] 3 = 0 by decide, show wmk [5] 3 = [5, 3] by decide] at key
  refine callL rfl (fun _ => by kernel_rfl) key ?_
  clear key
  rintro e w5 ⟨rfl, ba3, hI_, hsub, M', o1⟩
  clear o1 hsub Mp M hIa
  have hIa := hI_
  clear hI_
  have M : Mm w0 ((ba3 ++ ([] : List (Nat × List Value)))) w5 := M'.perm (pull0 ([] : List (Nat × List Value)) ba3 ([] : List (Nat × List Value))).symm
  clear M'
  refine ⟨_, rfl, ?_⟩
  simp only [aP, lI, l0, lS]
  refine readL (.int .i64 0) rfl (by kernel_rfl) ?_
  simp only [aP, lI, l0, lS]
  first | show Exit.then _ _ _ _ _ | show Exit.inBlock _ _ _ _ _
  go_upto_region 8 with fail
  refine wp_region_list ?_
  refine readL (.pointer (some ⟨Ra, 0, none⟩)) rfl (by kernel_rfl) ?_
  simp only [aP, lI, l0, lS]
  have Mp := M.perm (pull0 ([] : List (Nat × List Value)) ba3 ([] : List (Nat × List Value)))
  have hq_6_a := Mp.lts
  have key := hK.bel w0 _ _ ([5, 3]) ba3 _ 8 (wmk_w (wmk_w winL_nil 5) 3) (by unfold i64; decide) hIa Mp
  clear Mp
  rw [show wbel [5, 3] 8 = [(3, 4)] by decide] at key
  refine callL rfl (fun _ => by kernel_rfl) key ?_
  clear key
  rintro e w6 ⟨⟨v_, rfl, N_6⟩, l⟩
  replace M := M.call l
  clear l
  obtain ⟨p6, c6, rfl, hcc_6⟩ := NewW.slice N_6
  refine ⟨_, rfl, ?_⟩
  simp only [aP, lI, l0, lS]
  refine readL (.slice p6 (([(3, 4)] : List (Int × Int)).length) c6) rfl (by kernel_rfl) ?_
  simp only [aP, lI, l0, lS]
  first | show Exit.then _ _ _ _ _ | show Exit.inBlock _ _ _ _ _
  go_upto_region 9 with fail
  refine wp_region_list ?_
  refine readL (.pointer (some ⟨Ra, 0, none⟩)) rfl (by kernel_rfl) ?_
  simp only [aP, lI, l0, lS]
  have Mp := M.perm (pull0 ([] : List (Nat × List Value)) ba3 ([] : List (Nat × List Value)))
  have key := hK.top w0 _ _ ([5, 3]) ba3 _ (wmk_w (wmk_w winL_nil 5) 3) hIa Mp
  clear Mp
  rw [show wtop [5, 3] = 5 by decide] at key
  refine callL rfl (fun _ => by kernel_rfl) key ?_
  clear key
  rintro e w7 ⟨rfl, l⟩
  replace M := M.call l
  replace N_6 := NewW.below N_6 l
  clear l
  refine ⟨_, rfl, ?_⟩
  simp only [aP, lI, l0, lS]
  refine readL (.int .i64 5) rfl (by kernel_rfl) ?_
  simp only [aP, lI, l0, lS]
  first | show Exit.then _ _ _ _ _ | show Exit.inBlock _ _ _ _ _
  go_upto_region 10 with fail
  refine wp_region_list ?_
  refine readL (.pointer (some ⟨Ra, 0, none⟩)) rfl (by kernel_rfl) ?_
  simp only [aP, lI, l0, lS]
  have Mp := M.perm (pull0 ([] : List (Nat × List Value)) ba3 ([] : List (Nat × List Value)))
  have key := hK.cnt w0 _ _ ([5, 3]) ba3 _ (wmk_w (wmk_w winL_nil 5) 3) hIa Mp
  clear Mp
  rw [show wcnt [5, 3] = 2 by decide] at key
  refine callL rfl (fun _ => by kernel_rfl) key ?_
  clear key
  rintro e w8 ⟨rfl, l⟩
  replace M := M.call l
  replace N_6 := NewW.below N_6 l
  clear l
  refine ⟨_, rfl, ?_⟩
  simp only [aP, lI, l0, lS]
  refine readL (.int .i64 ((2 : Nat) : Int)) rfl (by kernel_rfl) ?_
  simp only [aP, lI, l0, lS]
  first | show Exit.then _ _ _ _ _ | show Exit.inBlock _ _ _ _ _
  go_upto_region 11 with fail
  refine wp_region_list ?_
  refine readL (.pointer (some ⟨Ra, 0, none⟩)) rfl (by kernel_rfl) ?_
  simp only [aP, lI, l0, lS]
  have Mp := M.perm (pull0 ([] : List (Nat × List Value)) ba3 ([] : List (Nat × List Value)))
  have key := hK.mrk w0 _ _ ([5, 3]) ba3 _ 1029 (wmk_w (wmk_w winL_nil 5) 3) (by decide) (by unfold i64; decide) hIa Mp
  rw [show wchk [5, 3] 1029 = 0 by decide, show wmk [5, 3] 1029 = [5, 3, 1029] by decide] at key
  refine callL rfl (fun _ => by kernel_rfl) key ?_
  clear key
  rintro e w9 ⟨rfl, ba4, hI_, hsub, M', o1⟩
  replace N_6 := NewW.off N_6 o1 hq_6_a
  clear o1 hsub Mp M hIa
  have hIa := hI_
  clear hI_
  have M : Mm w0 ((ba4 ++ ([] : List (Nat × List Value)))) w9 := M'.perm (pull0 ([] : List (Nat × List Value)) ba4 ([] : List (Nat × List Value))).symm
  clear M'
  refine ⟨_, rfl, ?_⟩
  simp only [aP, lI, l0, lS]
  refine readL (.int .i64 0) rfl (by kernel_rfl) ?_
  simp only [aP, lI, l0, lS]
  first | show Exit.then _ _ _ _ _ | show Exit.inBlock _ _ _ _ _
  go_upto_region 12 with fail
  refine wp_region_list ?_
  refine readL (.int .i64 (-1)) rfl (by kernel_rfl) ?_
  simp only [aP, lI, l0, lS]
  refine readL (.bool true) rfl (eqlI .i64 _ _ _ _ _ _ rfl rfl rfl true (by decide) _) ?_
  simp only [aP, lI, l0, lS]
  refine readL (.bool true) rfl (by kernel_rfl) ?_
  simp only [aP, lI, l0, lS]
  refine readL (.int .i64 0) rfl (by kernel_rfl) ?_
  simp only [aP, lI, l0, lS]
  refine readL (.bool true) rfl (eqlI .i64 _ _ _ _ _ _ rfl rfl rfl true (by decide) _) ?_
  simp only [aP, lI, l0, lS]
  refine readL (.bool true) rfl (by kernel_rfl) ?_
  simp only [aP, lI, l0, lS]
  refine readL (.bool true) rfl (by kernel_rfl) ?_
  simp only [aP, lI, l0, lS]
  refine readL (.int .i64 140) rfl (by kernel_rfl) ?_
  simp only [aP, lI, l0, lS]
  refine readL (.bool true) rfl (eqlI .i64 _ _ _ _ _ _ rfl rfl rfl true (by decide) _) ?_
  simp only [aP, lI, l0, lS]
  refine readL (.bool true) rfl (by kernel_rfl) ?_
  simp only [aP, lI, l0, lS]
  refine readL (.bool true) rfl (by kernel_rfl) ?_
  simp only [aP, lI, l0, lS]
  refine readL (.int .i64 0) rfl (by kernel_rfl) ?_
  simp only [aP, lI, l0, lS]
  refine readL (.bool true) rfl (eqlI .i64 _ _ _ _ _ _ rfl rfl rfl true (by decide) _) ?_
  simp only [aP, lI, l0, lS]
  refine readL (.bool true) rfl (by kernel_rfl) ?_
  simp only [aP, lI, l0, lS]
  refine readL (.bool true) rfl (by kernel_rfl) ?_
  simp only [aP, lI, l0, lS]
  refine readL (.int .i64 5) rfl (by kernel_rfl) ?_
  simp only [aP, lI, l0, lS]
  refine readL (.bool true) rfl (eqlI .i64 _ _ _ _ _ _ rfl rfl rfl true (by decide) _) ?_
  simp only [aP, lI, l0, lS]
  refine readL (.bool true) rfl (by kernel_rfl) ?_
  simp only [aP, lI, l0, lS]
  refine readL (.bool true) rfl (by kernel_rfl) ?_
  simp only [aP, lI, l0, lS]
  refine readL (.int .i64 ((2 : Nat) : Int)) rfl (by kernel_rfl) ?_
  simp only [aP, lI, l0, lS]
  refine readL (.bool true) rfl (eqlI .i64 _ _ _ _ _ _ rfl rfl rfl true (by decide) _) ?_
  simp only [aP, lI, l0, lS]
  refine readL (.bool true) rfl (by kernel_rfl) ?_
  simp only [aP, lI, l0, lS]
  refine readL (.bool true) rfl (by kernel_rfl) ?_
  simp only [aP, lI, l0, lS]
  refine readL (.slice p6 (([(3, 4)] : List (Int × Int)).length) c6) rfl (by kernel_rfl) ?_
  simp only [aP, lI, l0, lS]
  refine readL (.int .i64 ((([(3, 4)] : List (Int × Int)).length : Nat) : Int)) rfl (lenS _ 33 36 p6 (([(3, 4)] : List (Int × Int)).length) c6 rfl Try.underlying33 rfl _) ?_
  simp only [aP, lI, l0, lS]
  refine readL (.bool true) rfl (eqlI .i64 _ _ _ _ _ _ rfl rfl rfl true (by decide) _) ?_
  simp only [aP, lI, l0, lS]
  refine readL (.bool true) rfl (by kernel_rfl) ?_
  simp only [aP, lI, l0, lS]
  refine readL (.bool true) rfl (by kernel_rfl) ?_
  simp only [aP, lI, l0, lS]
  refine readL (.slice p6 (([(3, 4)] : List (Int × Int)).length) c6) rfl (by kernel_rfl) ?_
  simp only [aP, lI, l0, lS]
  obtain ⟨ad, rfl, hc0, hc1⟩ := NewW.at (i := 0) (p := (3, 4)) N_6 rfl
  refine readL (.pointer (some (ad.add (0 * 2)))) rfl (idxR2 ad _ _ 0 (by decide) _ _ rfl rfl rfl _) ?_
  simp only [aP, lI, l0, lS]
  refine readL (.agg #[.int .i64 3, .int .i64 4]) rfl (loadN 36 _ (ad.add (0 * 2)) [.int .i64 3, .int .i64 4] rfl rfl (fun _ => by kernel_rfl) (fun _ => by kernel_rfl) (fun j u hu => by rcases j with _ | _ | j <;> simp at hu; all_goals (subst hu; assumption))) ?_
  simp only [aP, lI, l0, lS]
  refine readL (.agg #[.int .i64 3, .int .i64 4]) rfl (by kernel_rfl) ?_
  simp only [aP, lI, l0, lS]
  refine readL (.bool true) rfl (eqlRg _ _ _ _ _ _ rfl rfl rfl rfl rfl _) ?_
  simp only [aP, lI, l0, lS]
  refine readL (.bool true) rfl (by kernel_rfl) ?_
  simp only [aP, lI, l0, lS]
  refine readL (.bool true) rfl (by kernel_rfl) ?_
  simp only [aP, lI, l0, lS]
  refine readL (.int .i64 0) rfl (by kernel_rfl) ?_
  simp only [aP, lI, l0, lS]
  refine readL (.bool true) rfl (eqlI .i64 _ _ _ _ _ _ rfl rfl rfl true (by decide) _) ?_
  simp only [aP, lI, l0, lS]
  refine readL (.bool true) rfl (by kernel_rfl) ?_
  simp only [aP, lI, l0, lS]
  refine readL (.bool true) rfl (by kernel_rfl) ?_
  simp only [aP, lI, l0, lS]
  refine readL (.pointer (some ⟨Ra, 0, none⟩)) rfl (by kernel_rfl) ?_
  simp only [aP, lI, l0, lS]
  have Mp := M.perm (pull0 ([] : List (Nat × List Value)) ba4 ([] : List (Nat × List Value)))
  have key := hK.chk w0 _ _ ([5, 3, 1029]) ba4 _ 5 (wmk_w (wmk_w (wmk_w winL_nil 5) 3) 1029) (by unfold i64; decide) hIa Mp
  clear Mp
  rw [show wchk [5, 3, 1029] 5 = 140 by decide] at key
  refine callL rfl (fun _ => by kernel_rfl) key ?_
  clear key
  rintro e w10 ⟨rfl, l⟩
  replace M := M.call l
  replace N_6 := NewW.below N_6 l
  clear l
  refine ⟨_, rfl, ?_⟩
  simp only [aP, lI, l0, lS]
  refine readL (.bool true) rfl (eqlI .i64 _ _ _ _ _ _ rfl rfl rfl true (by decide) _) ?_
  simp only [aP, lI, l0, lS]
  refine readL (.bool true) rfl (by kernel_rfl) ?_
  simp only [aP, lI, l0, lS]
  refine readL (.bool true) rfl (by kernel_rfl) ?_
  simp only [aP, lI, l0, lS]
  refine readL (.pointer (some ⟨Ra, 0, none⟩)) rfl (by kernel_rfl) ?_
  simp only [aP, lI, l0, lS]
  have Mp := M.perm (pull0 ([] : List (Nat × List Value)) ba4 ([] : List (Nat × List Value)))
  have key := hK.chk w0 _ _ ([5, 3, 1029]) ba4 _ 6 (wmk_w (wmk_w (wmk_w winL_nil 5) 3) 1029) (by unfold i64; decide) hIa Mp
  clear Mp
  rw [show wchk [5, 3, 1029] 6 = 0 by decide] at key
  refine callL rfl (fun _ => by kernel_rfl) key ?_
  clear key
  rintro e w11 ⟨rfl, l⟩
  replace M := M.call l
  replace N_6 := NewW.below N_6 l
  clear l
  refine ⟨_, rfl, ?_⟩
  simp only [aP, lI, l0, lS]
  refine readL (.bool true) rfl (eqlI .i64 _ _ _ _ _ _ rfl rfl rfl true (by decide) _) ?_
  simp only [aP, lI, l0, lS]
  refine readL (.bool true) rfl (by kernel_rfl) ?_
  simp only [aP, lI, l0, lS]
  refine readL (.bool true) rfl (by kernel_rfl) ?_
  simp only [aP, lI, l0, lS]
  refine readL (.pointer (some ⟨Ra, 0, none⟩)) rfl (by kernel_rfl) ?_
  simp only [aP, lI, l0, lS]
  have Mp := M.perm (pull0 ([] : List (Nat × List Value)) ba4 ([] : List (Nat × List Value)))
  have key := hK.chk w0 _ _ ([5, 3, 1029]) ba4 _ (-1) (wmk_w (wmk_w (wmk_w winL_nil 5) 3) 1029) (by unfold i64; decide) hIa Mp
  clear Mp
  rw [show wchk [5, 3, 1029] (-1) = 1 by decide] at key
  refine callL rfl (fun _ => by kernel_rfl) key ?_
  clear key
  rintro e w12 ⟨rfl, l⟩
  replace M := M.call l
  replace N_6 := NewW.below N_6 l
  clear l
  refine ⟨_, rfl, ?_⟩
  simp only [aP, lI, l0, lS]
  refine readL (.bool true) rfl (eqlI .i64 _ _ _ _ _ _ rfl rfl rfl true (by decide) _) ?_
  simp only [aP, lI, l0, lS]
  refine readL (.bool true) rfl (by kernel_rfl) ?_
  simp only [aP, lI, l0, lS]
  refine readL (.bool true) rfl (by kernel_rfl) ?_
  simp only [aP, lI, l0]
  first | show Exit.then _ _ _ _ _ | show Exit.inBlock _ _ _ _ _
  have hbel := M.below
  clear M N_6
  go_wp2
  go_ret
  exact ⟨rfl, hbel⟩
end Go.Proofs.Ytglnmmajgedinaa
