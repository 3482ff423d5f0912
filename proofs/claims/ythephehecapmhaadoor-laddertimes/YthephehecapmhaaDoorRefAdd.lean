/- What the document's own Add and Sub answer. -/
import Derived.Test.YthephehecapmhaaDoorRefCanon
namespace Go.Proofs.YthephehecapmhaaDoor
open Go.RowKit

/-- Two rows of digits, and room for the answer. -/
structure TU (f g : Nat → Int) (B1 B2 : Nat) (w w' : World) : Prop where
  h1 : Has w' B1 .i64 32 f
  h2 : Has w' B2 .i64 32 g
  hr : w'.there (w.heap.size + 1 + 1) 0 32
  fr : Fr w 3 w'
  hi : B1 < w'.heap.size
theorem TU.set {f g : Nat → Int} {B1 B2 : Nat} {w w' : World} (h : TU f g B1 B2 w w') (lo : w.heap.size + 3 ≤ B1) (ne : B1 ≠ B2) (k : Nat) (hk : k < 32) (x : Int) : TU (upd f k x) g B1 B2 w ((w'.setCell ⟨B1, k, none⟩ (.int .i64 x)).drew) :=
  ⟨(h.h1.set k hk x).drew, (h.h2.set_other _ _ (by simpa using ne)).drew, fun j hj => by
    have hne : (⟨B1, k, none⟩ : Addr) ≠ ⟨w.heap.size + 1 + 1, 0 + j, none⟩ := by intro h'; injection h'; omega
    show ((w'.setCell _ _).cell? _).isSome = true ∧ (w'.setCell _ _).frozen? _ = false
    rw [World.cell?_setCell_other _ _ _ _ hne, World.frozen?_setCell]; exact h.hr j hj, (h.fr.set _ _ (by simp; omega)).drew, by have := h.hi; simpa using this⟩

def addTo (a b : Nat → Int) (k : Nat) : Nat → Int := fun j => dig a j + (if j < k then dig b j else 0)
def subTo (a b : Nat → Int) (k : Nat) : Nat → Int := fun j => dig a j + (if j < k then 4 * pD j - dig b j else 0)
theorem addTo_step (a b : Nat → Int) (k : Nat) : upd (addTo a b k) k (addTo a b k k + dig b k) = addTo a b (k + 1) := by
  funext j
  unfold upd addTo
  by_cases e : j = k
  · subst e; simp
  · rw [if_neg e]
    by_cases h : j < k
    · rw [if_pos h, if_pos (by omega)]
    · rw [if_neg h, if_neg (by omega)]
theorem subTo_step (a b : Nat → Int) (k : Nat) : upd (subTo a b k) k (subTo a b k k + 4 * pD k - dig b k) = subTo a b (k + 1) := by
  funext j
  unfold upd subTo
  by_cases e : j = k
  · subst e; simp; omega
  · rw [if_neg e]
    by_cases h : j < k
    · rw [if_pos h, if_pos (by omega)]
    · rw [if_neg h, if_neg (by omega)]
theorem dig_nought (a : Nat → Int) (j : Nat) (h : ¬ j < 16) : dig a j = 0 := by unfold dig; rw [if_neg h]
theorem addTo_val (a b : Nat → Int) : val D (addTo a b 16) 32 = val 256 a 32 + val 256 b 32 := by
  rw [← val_dig32 a, ← val_dig32 b]
  have e : val D (addTo a b 16) 32 = val D (fun j => dig a j + 1 * dig b j) 32 := val_congr D 32 fun j _ => by
    unfold addTo
    split
    · omega
    · rename_i h; rw [dig_nought b j h]; omega
  rw [e, val_add]; omega
theorem subTo_val (a b : Nat → Int) : val D (subTo a b 16) 32 % Q = (val 256 a 32 - val 256 b 32) % Q := by
  rw [← val_dig32 a, ← val_dig32 b]
  have e : val D (subTo a b 16) 32 = val D (fun j => (dig a j + 4 * (fun i => if i < 16 then pD i else 0) j) + (-1) * dig b j) 32 := val_congr D 32 fun j _ => by
    unfold subTo
    by_cases h : j < 16
    · simp only [if_pos h]; omega
    · simp only [if_neg h]; rw [dig_nought b j h]; omega
  have e2 : val D (fun i => if i < 16 then pD i else 0) 32 = Q := by decide
  rw [e, val_add, val_add, e2]
  simp only [Q]
  omega

theorem addTo_bound (a b : Nat → Int) (ha : In 256 32 a) (hb : In 256 32 b) (k j : Nat) : 0 ≤ addTo a b k j ∧ addTo a b k j ≤ 131072 := by
  have h1 := dig_in a ha j; have h2 := dig_in b hb j
  unfold addTo; split <;> omega
theorem subTo_bound (a b : Nat → Int) (ha : In 256 32 a) (hb : In 256 32 b) (k j : Nat) (_hk : k ≤ 16) : 0 ≤ subTo a b k j ∧ subTo a b k j ≤ 524288 := by
  have h1 := dig_in a ha j; have h2 := dig_in b hb j; have h3 := pD_in j
  have h4 : 32767 ≤ pD j := by unfold pD; split <;> (try split) <;> omega
  unfold subTo; split <;> omega

set_option maxRecDepth 10000 in
set_option maxHeartbeats 2000000 in
theorem refAdd_any (a b : Nat → Int) (ha : In 256 32 a) (hb : In 256 32 b) (w : World) :
    Calls Tryd.prog 24 #[(.agg (row .u8 32 (a)).toArray), (.agg (row .u8 32 (b)).toArray)] w fun e w' => ∃ f : Nat → Int, e = .returned (.agg (row .u8 32 (f)).toArray) ∧ (In 256 32 f ∧ val 256 f 32 = (val 256 a 32 + val 256 b 32) % Q) ∧ Below w.heap.size w w' := by
  have t0 := Two.new a b w
  have a0 := t0.ha
  go_enter Tryd.func24, Tryd.ntmps24
  go_wp2_with (refine wpList_load_mid rfl 23 _ rfl (w.heap.size) 0 rfl (row .u8 32 (a)) _ (Has.range (a0)) Tryd.underlying23 rfl (key_info _) ?_)
  refine (digits_any a ha _).mono ?_
  rintro e w1 ⟨B1, rfl, h1, l1⟩
  have t1 := t0.call l1
  have lo1 : w.heap.size + 3 ≤ B1 := by have := h1.1; simp at this; omega
  have b1 := t1.hb
  clear t0 a0 l1
  go_wp2_with (refine wpList_load_mid rfl 23 _ rfl (w.heap.size + 1) 0 rfl (row .u8 32 (b)) _ (Has.range (b1)) Tryd.underlying23 rfl (key_info _) ?_)
  refine (digits_any b hb _).mono ?_
  rintro e w2 ⟨B2, rfl, h2, l2⟩
  have t2 := t1.call l2
  have ne : B1 ≠ B2 := by have := h1.2.1; have := h2.1; omega
  have tu : TU (dig a) (dig b) B1 B2 w w2 := ⟨h1.2.2.below l2 h1.2.1, h2.2.2, t2.hr, t2.fr, by have := h1.2.1; have := l2.size; omega⟩
  clear t1 t2 b1 h1 h2 l2
  go_wp2
  go_loopw [7] (fun i w' => ∃ k : Nat, k ≤ 16 ∧ i = .int .i64 k ∧ TU (addTo a b k) (dig b) B1 B2 w w') (fun i _ => 16 - (intOf i).toNat)
  case atStart => exact ⟨0, by omega, rfl, by rw [show addTo a b 0 = dig a from by funext j; unfold addTo; simp]; exact tu⟩
  case round =>
    obtain ⟨k, hk, rfl, hI⟩ := hrel
    clear tu
    by_cases hlt : k < 16
    · have HS := show Hid (TU (addTo a b (k + 1)) (dig b) B1 B2 w ((wr.setCell ⟨B1, k, none⟩ (.int .i64 (addTo a b k k + dig b k))).drew)) from by rw [← addTo_step]; exact hI.set lo1 ne k (by omega) _
      have c1 := hI.h1.cell k (by omega)
      have c2 := hI.h2.cell k (by omega)
      have f1 := hI.h1.free k (by omega)
      have i1 := addTo_bound a b ha hb k k
      have i2 := dig_in b hb k
      have g1 : (0 : Int) ≤ (k : Int) := by omega
      have g2 : (k : Int) < 16 := by omega
      clear hI
      generalize addTo a b k k = x at *
      generalize dig b k = y at *
      obtain ⟨x0, x1⟩ := i1
      obtain ⟨y0, y1⟩ := i2
      go_wp2
      go_region
      go_wp2
      go_roundw
      case rel => exact ⟨k + 1, by omega, by go_num, HS.out⟩
      case measure => simp [intOf]; omega
    · obtain rfl : k = 16 := by omega
      clear hlt hk
      go_wp2_with fail
      refine (reduce_any (addTo a b 16) B1 _ (fun j _ => by have := addTo_bound a b ha hb 16 j; omega) hI.hi hI.h1).mono ?_
      rintro e w3 ⟨f, rfl, s3, l3⟩
      have hz := there_below hI.hr l3 (by omega)
      have hE : In 256 32 f ∧ val 256 f 32 = (val 256 a 32 + val 256 b 32) % Q := ⟨s3.1, by rw [s3.2, addTo_val]⟩
      have HE := show Hid _ from hE
      have hL := below_setAll (hI.fr.below.trans (l3.mono (by omega))) (w.heap.size + 1 + 1) (by omega) 0 (row .u8 32 f)
      clear hE s3 hI l3
      go_wp2_with (refine wpList_store_mid rfl 23 _ _ rfl (w.heap.size + 1 + 1) 0 (row .u8 32 f).toArray rfl rfl (key_there' hz) (key_info' _) (all_oneCell_toArray (row_one _ _ _)) ?_)
      exact bodyPost_ret (v := (.agg (row .u8 32 (f)).toArray)) (results_row Tryd.results24 rfl (Has.all hz .u8 f).range Tryd.underlying23 rfl (key_info f)) rfl ⟨f, rfl, HE.out, hL⟩

set_option maxRecDepth 10000 in
set_option maxHeartbeats 4000000 in
theorem refSub_any (a b : Nat → Int) (ha : In 256 32 a) (hb : In 256 32 b) (w : World) :
    Calls Tryd.prog 25 #[(.agg (row .u8 32 (a)).toArray), (.agg (row .u8 32 (b)).toArray)] w fun e w' => ∃ f : Nat → Int, e = .returned (.agg (row .u8 32 (f)).toArray) ∧ (In 256 32 f ∧ val 256 f 32 = (val 256 a 32 - val 256 b 32) % Q) ∧ Below w.heap.size w w' := by
  have t0 := Two.new a b w
  have a0 := t0.ha
  go_enter Tryd.func25, Tryd.ntmps25
  go_wp2_with (refine wpList_load_mid rfl 23 _ rfl (w.heap.size) 0 rfl (row .u8 32 (a)) _ (Has.range (a0)) Tryd.underlying23 rfl (key_info _) ?_)
  refine (digits_any a ha _).mono ?_
  rintro e w1 ⟨B1, rfl, h1, l1⟩
  have t1 := t0.call l1
  have lo1 : w.heap.size + 3 ≤ B1 := by have := h1.1; simp at this; omega
  have b1 := t1.hb
  clear t0 a0 l1
  go_wp2_with (refine wpList_load_mid rfl 23 _ rfl (w.heap.size + 1) 0 rfl (row .u8 32 (b)) _ (Has.range (b1)) Tryd.underlying23 rfl (key_info _) ?_)
  refine (digits_any b hb _).mono ?_
  rintro e w2 ⟨B2, rfl, h2, l2⟩
  have t2 := t1.call l2
  have ne : B1 ≠ B2 := by have := h1.2.1; have := h2.1; omega
  have tu : TU (dig a) (dig b) B1 B2 w w2 := ⟨h1.2.2.below l2 h1.2.1, h2.2.2, t2.hr, t2.fr, by have := h1.2.1; have := l2.size; omega⟩
  clear t1 t2 b1 h1 h2 l2
  go_wp2
  go_loopw [7] (fun i w' => ∃ k : Nat, k ≤ 16 ∧ i = .int .i64 k ∧ TU (subTo a b k) (dig b) B1 B2 w w') (fun i _ => 16 - (intOf i).toNat)
  case atStart => exact ⟨0, by omega, rfl, by rw [show subTo a b 0 = dig a from by funext j; unfold subTo; simp]; exact tu⟩
  case round =>
    obtain ⟨k, hk, rfl, hI⟩ := hrel
    clear tu
    by_cases hlt : k < 16
    · have HS := show Hid (TU (subTo a b (k + 1)) (dig b) B1 B2 w ((wr.setCell ⟨B1, k, none⟩ (.int .i64 (subTo a b k k + 4 * pD k - dig b k))).drew)) from by rw [← subTo_step]; exact hI.set lo1 ne k (by omega) _
      have c1 := hI.h1.cell k (by omega)
      have c2 := hI.h2.cell k (by omega)
      have f1 := hI.h1.free k (by omega)
      have i1 := subTo_bound a b ha hb k k hk
      have i2 := dig_in b hb k
      have i3 := pD_in k
      have g1 : (0 : Int) ≤ (k : Int) := by omega
      have g2 : (k : Int) < 16 := by omega
      have g3 : (k : Int) < 32 := by omega
      have HP := show Hid _ from fun W' => refPrime_any k hlt W'
      clear hI
      generalize subTo a b k k = x at *
      generalize dig b k = y at *
      generalize pD k = p at *
      obtain ⟨x0, x1⟩ := i1
      obtain ⟨y0, y1⟩ := i2
      obtain ⟨p0, p1⟩ := i3
      have v1 : IntKind.i64.wrap (4 * p) = 4 * p := by rw [IntKind.wrap_i64]; omega
      have v2 : IntKind.i64.wrap (x + 4 * p) = x + 4 * p := by rw [IntKind.wrap_i64]; omega
      have v3 : IntKind.i64.wrap (x + 4 * p - y) = x + 4 * p - y := by rw [IntKind.wrap_i64]; omega
      go_wp2
      go_region_with (go_at_call 39; refine (HP.out _).mono ?_; rintro e w' ⟨rfl, rfl⟩)
      all_goals
        go_wp2
        go_roundw
        case rel => exact ⟨k + 1, by omega, by go_num, HS.out⟩
        case measure => simp [intOf]; omega
    · obtain rfl : k = 16 := by omega
      clear hlt hk
      go_wp2_with fail
      refine (reduce_any (subTo a b 16) B1 _ (fun j _ => by have := subTo_bound a b ha hb 16 j (Nat.le_refl _); omega) hI.hi hI.h1).mono ?_
      rintro e w3 ⟨f, rfl, s3, l3⟩
      have hz := there_below hI.hr l3 (by omega)
      have hE : In 256 32 f ∧ val 256 f 32 = (val 256 a 32 - val 256 b 32) % Q := ⟨s3.1, by rw [s3.2, subTo_val]⟩
      have HE := show Hid _ from hE
      have hL := below_setAll (hI.fr.below.trans (l3.mono (by omega))) (w.heap.size + 1 + 1) (by omega) 0 (row .u8 32 f)
      clear hE s3 hI l3
      go_wp2_with (refine wpList_store_mid rfl 23 _ _ rfl (w.heap.size + 1 + 1) 0 (row .u8 32 f).toArray rfl rfl (key_there' hz) (key_info' _) (all_oneCell_toArray (row_one _ _ _)) ?_)
      exact bodyPost_ret (v := (.agg (row .u8 32 (f)).toArray)) (results_row Tryd.results25 rfl (Has.all hz .u8 f).range Tryd.underlying23 rfl (key_info f)) rfl ⟨f, rfl, HE.out, hL⟩
end Go.Proofs.YthephehecapmhaaDoor
