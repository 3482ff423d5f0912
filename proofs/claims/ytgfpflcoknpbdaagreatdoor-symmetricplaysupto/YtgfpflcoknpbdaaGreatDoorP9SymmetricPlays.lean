/- Texts of Az Bb, joined. -/
import Derived.Test.YtgfpflcoknpbdaaGreatDoorP1SymmetricPlays
import Derived.Test.YtgfpflcoknpbdaaGreatDoorP4SymmetricPlays
import Derived.Test.YtgfpflcoknpbdaaGreatDoorP6SymmetricPlays
set_option maxRecDepth 20000
set_option maxHeartbeats 64000000
namespace Go.Proofs.YtgfpflcoknpbdaaGreatDoor
open Go.RowKit
section
theorem zeros_row (k : IntKind) (m : Nat) : Builtin.zeroCells (Value.int k 0).cells m = (row k m (fun _ => 0)).toArray := by
  refine Array.toList_inj.1 ?_
  unfold Builtin.zeroCells row
  simp [Value.cells, Nat.mod_one]
section
variable {P : Program}
theorem run_append_zeros {w : World} {base : Nat} {t u ty e : TypeId} {k : IntKind} {bytes n : Nat} {f : Nat → Int} {v : Value} (ht : P.underlying t = some (.slice e)) (hu : P.underlying u = some (.int .i64)) (he : One P e k bytes) (h : Own w base e k n f v)
    (m : Nat) (hm0 : m < 9223372036854775808) (h63 : n + m ≤ maxLen) (hb : (n + m) * bytes ≤ 140737488355328) (hbase : base ≤ w.heap.size) :
    ∃ v' w', (Builtin.append_ #[t, u] ty #[v, .int .i64 (m : Int)]).run P w = .ok v' w' ∧ Own w' base e k (n + m) (app f n (fun _ => 0)) v' ∧ w.grownBy w' v.ownBlock ∧ (∀ g, v'.ownBlock = some g → v.ownBlock = some g ∨ g = w.heap.size) := by
  obtain ⟨i, hi, hq⟩ := Option.map_eq_some_iff.1 he.info
  simp only [Prod.mk.injEq] at hq
  obtain ⟨h1, h2, h3⟩ := hq
  have hw : IntKind.i64.wrap (m : Int) = (m : Int) := by rw [IntKind.wrap_i64]; omega
  have hasI : ∀ w, (asInt (.int .i64 (m : Int))).run P w = .ok (m : Int) w := fun w => by simp [asInt, asIntOf]
  have hneg : ¬ ((m : Int) < 0) := by omega
  have hbm : m * bytes ≤ 140737488355328 := Nat.le_trans (Nat.mul_le_mul_right _ (Nat.le_add_left _ _)) hb
  have h48 : ¬ (281474976710656 < (m : Int) * (bytes : Int)) := by
    have : ((m * bytes : Nat) : Int) ≤ 140737488355328 := by omega
    rw [Int.natCast_mul] at this
    omega
  have hsmall : n + m ≤ 9223372036854775807 := by simp only [maxLen] at h63; omega
  have h63' : ¬ (9223372036854775807 < ((n : Int) + (m : Int))) := by omega
  have hzc : Builtin.zeroCells (Value.int k 0).cells m = (row k m (fun _ => 0)).toArray := zeros_row k m
  have hlen : (row k n f ++ row k m (fun _ => 0)).length = (n + m) * 1 := by rw [List.length_append, row_length, row_length, Nat.mul_one]
  have hval : row k n f ++ row k m (fun _ => 0) = row k (n + m) (app f n (fun _ => 0)) := row_app k n m f _
  have grown : ∀ (old : Nat), old < n + m → ∀ (rw_ : Option Nat),
      Own (w.drew.alloc (.cells ((row k n f).toArray ++ (row k m (fun _ => 0)).toArray ++ Builtin.zeroCells (Value.int k 0).cells (grownCap w (n + m) old e - (n + m))) e)) base e k (n + m) (app f n (fun _ => 0))
        (.slice (some ⟨w.heap.size, 0, none⟩) (n + m) (grownCap w (n + m) old e)) ∧
      w.grownBy (w.drew.alloc (.cells ((row k n f).toArray ++ (row k m (fun _ => 0)).toArray ++ Builtin.zeroCells (Value.int k 0).cells (grownCap w (n + m) old e - (n + m))) e)) rw_ := by
    intro old ho rw_
    have hge := grownCap_ge w (n + m) old e
    have hcm : grownCap w (n + m) old e ≤ maxLen := grownCap_le_maxLen w (n + m) old e h63
    have hz1 : (Value.int k 0).cells.size = 1 := rfl
    unfold Own
    rw [← hval]
    refine ⟨⟨hlen, .inr ⟨w.heap.size, _, _, rfl, hbase, heap_alloc_new w.drew _, hge, hcm, ?_, ?_⟩⟩, ⟨rfl, rfl, rfl, by simp, fun q hq _ => heap_alloc_old w.drew _ hq⟩⟩
    · simp only [Array.size_append, List.size_toArray, size_zeroCells, hz1, row_length]
      omega
    · simp only [Array.toList_append, List.append_assoc]
      rw [← List.append_assoc, ← hlen]
      exact List.take_left
  rcases h.2 with ⟨rfl, rfl⟩ | ⟨g, cap, cur, rfl, hbg, hg, hnc, hcm, hcs, htake⟩
  · by_cases hm : m = 0
    · subst hm
      refine ⟨.slice none 0 0, w, ?_, h.congr (fun j hj => by omega), ⟨rfl, rfl, rfl, Nat.le_refl _, fun _ _ _ => rfl⟩, fun g hg => .inl hg⟩
      have hasI' : ∀ w, (asInt (.int .i64 0)).run P w = .ok 0 w := hasI
      simp [Builtin.append_, run_underlying ht, run_underlying hu, sizeOf, typeInfo, zeroValue, hi, h1, h2, hasI', IntKind.wrap_i64]
    · have h48' : ¬ (281474976710656 < Builtin.nextslicecap m 0 * bytes) := by rw [nextslicecap_zero (by omega)]; omega
      have hgr := grown 0 (by omega) (Value.ownBlock (.slice none 0 0))
      refine ⟨_, _, ?_, hgr.1, hgr.2, fun g hg => ?_⟩
      · simp only [Nat.zero_add] at h63' ⊢
        simp [Builtin.append_, run_underlying ht, run_underlying hu, sizeOf, typeInfo, zeroValue, hi, h1, h2, h3, hasI, hw, hneg, h48, hm, hzc, h48', Question.forced, run_firstCells_none, newRow, grownCap, row]
        intro hh
        omega
      · injection hg with hg
        exact .inr hg.symm
  · by_cases hroom : n + m ≤ cap
    · have hst := run_storeCells_at P g n e (row k m (fun _ => 0)) 0 cur w hg (by rw [row_length, hcs]; omega) (row_one k m _)
      simp only [Nat.add_zero, row_length] at hst
      rw [Nat.mul_one] at htake hcs
      refine ⟨.slice (some ⟨g, 0, none⟩) (n + m) cap, w.setRow g (cur.toList.take n ++ row k m (fun _ => 0) ++ cur.toList.drop (n + m)).toArray, ?_, ?_, ?_, fun g' hg' => .inl hg'⟩
      · by_cases hm : m = 0
        · subst hm
          have hasI' : ∀ w, (asInt (.int .i64 0)).run P w = .ok 0 w := hasI
          have hst' : (storeCells { block := g, off := n, spot := none } []).run P w = _ := hst
          simp [Builtin.append_, run_underlying ht, run_underlying hu, sizeOf, typeInfo, zeroValue, hi, h1, h2, h3, hasI', IntKind.wrap_i64, hnc, Addr.add_lit, hst']
        · simp [Builtin.append_, run_underlying ht, run_underlying hu, sizeOf, typeInfo, zeroValue, hi, h1, h2, h3, hasI, hw, hneg, h48, hroom, hm, hzc, Addr.add_lit, hst]
      · unfold Own
        rw [← hval]
        refine ⟨hlen, .inr ⟨g, cap, _, rfl, hbg, setRow_heap w g cur _ e _ hg, hroom, hcm, ?_, ?_⟩⟩
        · simp only [List.size_toArray, List.length_append, List.length_take, List.length_drop, Array.length_toList, row_length]
          omega
        · rw [htake, ← hlen]
          exact List.take_left
      · exact ⟨rfl, rfl, rfl, by simp, fun k _ hk => setRow_other w g k _ (fun e => hk (by simp [Value.ownBlock, e]))⟩
    · have hm : m ≠ 0 := by omega
      have h48' : ¬ (281474976710656 < Builtin.nextslicecap (n + m) cap * bytes) := by have := growslice_fits (need := n + m) (old := cap) (by omega) hb; omega
      have hfo := run_firstCells_some (P := P) w.drew 1 n ⟨g, 0, none⟩ n cap (row k n f) (by rw [row_length, Nat.mul_one]) (by simpa using World.ownsRow.cells h (g := g) rfl)
      have hgr := grown cap (by omega) (Value.ownBlock (.slice (some ⟨g, 0, none⟩) n cap))
      refine ⟨_, _, ?_, hgr.1, hgr.2, fun g hg => ?_⟩
      · simp [Builtin.append_, run_underlying ht, run_underlying hu, sizeOf, typeInfo, zeroValue, hi, h1, h2, h3, hasI, hw, hneg, h48, hroom, hm, hzc, h63', h48', Question.forced, hfo, newRow, grownCap]
        congr 2
        apply Array.ext'
        simp [List.append_assoc]
      · injection hg with hg
        exact .inr hg.symm
end
end
def bkk (kl : Nat) (key : Nat → Int) : Nat → Int := fun j => if kl ≤ 64 then (if j < kl then key j else 0) else if j < 32 then bhash kl key j else 0
def bxx (c : Int) (k : Nat → Int) : Nat → Int := fun j => bits .xor .u8 (k j) c
def bmac (kl : Nat) (key : Nat → Int) (len : Nat) (z : Nat → Int) : Nat → Int := bhash 96 (app (bxx 92 (bkk kl key)) 64 (bhash (64 + len) (app (bxx 54 (bkk kl key)) 64 z)))
theorem bhash_in (len : Nat) (z : Nat → Int) (n : Nat) : In 256 n (bhash len z) := bsum_in _ _ _ _ _ _
theorem bkk_in (kl : Nat) (key : Nat → Int) (hk : In 256 kl key) (n : Nat) : In 256 n (bkk kl key) := fun j _ => by
  unfold bkk
  split
  · split
    · exact hk j (by assumption)
    · omega
  · split
    · exact bhash_in kl key 32 j (by assumption)
    · omega
theorem bxx_in (c : Int) (hc : 0 ≤ c ∧ c < 256) (k : Nat → Int) (n : Nat) (hk : In 256 n k) : In 256 n (bxx c k) := fun j hj => by
  unfold bxx
  obtain ⟨x, hx⟩ := Int.eq_ofNat_of_zero_le (hk j hj).1
  obtain ⟨y, rfl⟩ := Int.eq_ofNat_of_zero_le hc.1
  have h1 := (hk j hj).2
  rw [hx] at h1 ⊢
  have h : x ^^^ y < 2 ^ 8 := Nat.xor_lt_two_pow (by omega) (by omega)
  rw [u8_xor_nat x y (by omega) (by omega)]
  omega
theorem app_in (n m : Nat) (f g : Nat → Int) (hf : In 256 n f) (hg : In 256 m g) : In 256 (n + m) (app f n g) := fun j hj => by
  unfold app
  split
  · exact hf j (by assumption)
  · exact hg _ (by omega)
theorem btx_congr (kl : Nat) (key key' : Nat → Int) (len : Nat) (z y : Nat → Int) (hk : ∀ j, j < kl → key j = key' j) (h : ∀ j, j < len → z j = y j) : btx kl key len z = btx kl key' len y := by
  funext j
  unfold btx
  by_cases e : kl = 0
  · rw [if_pos e, if_pos e]
    by_cases e1 : j < len
    · rw [if_pos e1, if_pos e1, h j e1]
    · rw [if_neg e1, if_neg e1]
  · rw [if_neg e, if_neg e]
    by_cases e1 : j < 64
    · rw [if_pos e1, if_pos e1]
      by_cases e2 : j < kl
      · rw [if_pos e2, if_pos e2, hk j e2]
      · rw [if_neg e2, if_neg e2]
    · rw [if_neg e1, if_neg e1]
      by_cases e2 : j < 64 + len
      · rw [if_pos e2, if_pos e2, h _ (by omega)]
      · rw [if_neg e2, if_neg e2]
theorem bH_congr (kl : Nat) (key key' : Nat → Int) (size len : Nat) (z y : Nat → Int) (hk : ∀ j, j < kl → key j = key' j) (h : ∀ j, j < len → z j = y j) : ∀ i, bH kl key size len z i = bH kl key' size len y i
  | 0 => rfl
  | i + 1 => by
    unfold bH
    rw [bH_congr kl key key' size len z y hk h i, btx_congr kl key key' len z y hk h]
theorem bsum_congr (kl : Nat) (key key' : Nat → Int) (size len : Nat) (z y : Nat → Int) (hk : ∀ j, j < kl → key j = key' j) (h : ∀ j, j < len → z j = y j) : bsum kl key size len z = bsum kl key' size len y := by
  funext j
  unfold bsum
  rw [bH_congr kl key key' size len z y hk h]
theorem bhash_congr (len : Nat) (z y : Nat → Int) (h : ∀ j, j < len → z j = y j) : bhash len z = bhash len y := bsum_congr _ _ _ _ _ _ _ (fun _ _ => rfl) h
end Go.Proofs.YtgfpflcoknpbdaaGreatDoor
