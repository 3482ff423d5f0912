/- A word of eight bytes within a row, and a word's bytes, written into one. -/
import Derived.Test.YthephehecapmhabDoorWo
import Derived.Test.YthephehecapmhabDoorWp
namespace Go.Proofs.YthephehecapmhabDoor
open Go.RowKit

/-- A word's bytes. -/
def byt (x : Int) : Nat → Int
  | 0 => x % 256
  | 1 => x / 256 % 256
  | 2 => x / 65536 % 256
  | 3 => x / 16777216 % 256
  | 4 => x / 4294967296 % 256
  | 5 => x / 1099511627776 % 256
  | 6 => x / 281474976710656 % 256
  | 7 => x / 72057594037927936 % 256
  | _ + 8 => 0
theorem byt_in (x : Int) : In 256 8 (byt x)
  | 0, _ => by show 0 ≤ x % 256 ∧ x % 256 < 256; omega
  | 1, _ => by show 0 ≤ x / 256 % 256 ∧ x / 256 % 256 < 256; omega
  | 2, _ => by show 0 ≤ x / 65536 % 256 ∧ x / 65536 % 256 < 256; omega
  | 3, _ => by show 0 ≤ x / 16777216 % 256 ∧ x / 16777216 % 256 < 256; omega
  | 4, _ => by show 0 ≤ x / 4294967296 % 256 ∧ x / 4294967296 % 256 < 256; omega
  | 5, _ => by show 0 ≤ x / 1099511627776 % 256 ∧ x / 1099511627776 % 256 < 256; omega
  | 6, _ => by show 0 ≤ x / 281474976710656 % 256 ∧ x / 281474976710656 % 256 < 256; omega
  | 7, _ => by show 0 ≤ x / 72057594037927936 % 256 ∧ x / 72057594037927936 % 256 < 256; omega
  | _ + 8, h => by omega
theorem val_byt (x : Int) (h0 : 0 ≤ x) (h1 : x < W) : val 256 (byt x) 8 = x := by
  simp only [W] at h1
  have h := bytes_of x h0 h1
  simp only [val, byt]
  omega
theorem word8 (a : Nat → Int) (o : Nat) : val 256 (fun j => a (o + j)) 8 = a o + a (o + 1) * 256 + a (o + 2) * 65536 + a (o + 3) * 16777216 + a (o + 4) * 4294967296 + a (o + 5) * 1099511627776 + a (o + 6) * 281474976710656 + a (o + 7) * 72057594037927936 := by
  simp only [val, Nat.add_zero]
  omega
theorem of_any (B o n c : Nat) (a : Nat → Int) (ho : o + 8 ≤ n) (ha : In 256 n a) (w : World) (h : Has w B .u8 n a) :
    Calls Tryd.prog 36 #[.slice (some ⟨B, o, none⟩) 8 c] w fun e w' => e = .returned (.int .u64 (val 256 (fun j => a (o + j)) 8)) ∧ Below w.heap.size w w' := by
  rw [word8]
  exact of_raw B o c _ _ _ _ _ _ _ _ (ha o (by omega)) (ha (o + 1) (by omega)) (ha (o + 2) (by omega)) (ha (o + 3) (by omega)) (ha (o + 4) (by omega)) (ha (o + 5) (by omega)) (ha (o + 6) (by omega)) (ha (o + 7) (by omega)) w
    (h.cell o (by omega)) (h.cell (o + 1) (by omega)) (h.cell (o + 2) (by omega)) (h.cell (o + 3) (by omega)) (h.cell (o + 4) (by omega)) (h.cell (o + 5) (by omega)) (h.cell (o + 6) (by omega)) (h.cell (o + 7) (by omega))
theorem of_quiet (B o n c : Nat) (a : Nat → Int) (ho : o + 8 ≤ n) (ha : In 256 n a) (w : World) (h : Has w B .u8 n a) :
    Calls Tryd.prog 36 #[.slice (some ⟨B, o, none⟩) 8 c] w fun e w' => ∃ q, e = .returned (.int .u64 (val 256 (fun j => a (o + j)) 8)) ∧ w' = w.drewN q := by
  rw [word8]
  exact of_same B o c _ _ _ _ _ _ _ _ (ha o (by omega)) (ha (o + 1) (by omega)) (ha (o + 2) (by omega)) (ha (o + 3) (by omega)) (ha (o + 4) (by omega)) (ha (o + 5) (by omega)) (ha (o + 6) (by omega)) (ha (o + 7) (by omega)) w
    (h.cell o (by omega)) (h.cell (o + 1) (by omega)) (h.cell (o + 2) (by omega)) (h.cell (o + 3) (by omega)) (h.cell (o + 4) (by omega)) (h.cell (o + 5) (by omega)) (h.cell (o + 6) (by omega)) (h.cell (o + 7) (by omega))
theorem put_any (B o n c : Nat) (g : Nat → Int) (x : Int) (ho : o + 8 ≤ n) (w : World) (h : Has w B .u8 n g) :
    Calls Tryd.prog 33 #[.slice (some ⟨B, o, none⟩) 8 c, .int .u64 x] w fun e w' => e = .returned (.tuple #[]) ∧ w' = w.setCells B o (row .u8 8 (byt x)) :=
  put_raw B o c x _ _ _ _ _ _ _ _ w (h.cell o (by omega)) (h.free o (by omega)) (h.cell (o + 1) (by omega)) (h.free (o + 1) (by omega)) (h.cell (o + 2) (by omega)) (h.free (o + 2) (by omega)) (h.cell (o + 3) (by omega)) (h.free (o + 3) (by omega)) (h.cell (o + 4) (by omega)) (h.free (o + 4) (by omega)) (h.cell (o + 5) (by omega)) (h.free (o + 5) (by omega)) (h.cell (o + 6) (by omega)) (h.free (o + 6) (by omega)) (h.cell (o + 7) (by omega)) (h.free (o + 7) (by omega))

/-- Part of a row, written anew. -/
def over (f : Nat → Int) (o m : Nat) (g : Nat → Int) : Nat → Int := fun j => if o ≤ j ∧ j < o + m then g (j - o) else f j
theorem Has.part {w : World} {b : Nat} {k : IntKind} {n : Nat} {f : Nat → Int} (h : Has w b k n f) (o m : Nat) (ho : o + m ≤ n) (g : Nat → Int) : Has (w.setCells b o (row k m g)) b k n (over f o m g) := by
  have ht : w.there b o m := fun j hj => by rw [h.cell (o + j) (by omega)]; exact ⟨rfl, h.free (o + j) (by omega)⟩
  refine ⟨fun j hj => ?_, fun j hj => by rw [World.frozen?_setCells]; exact h.free j hj⟩
  unfold over
  by_cases e : o ≤ j ∧ j < o + m
  · rw [if_pos e]
    have := World.rangeAt_setCells_same w b o (row k m g) (by rw [row_length]; exact ht) (j - o) _ (row_get k m g (j - o) (by omega))
    rw [show o + (j - o) = j by omega] at this
    exact this
  · rw [if_neg e]
    have hr : w.rangeAt b j [.int k (f j)] := fun i v hv => by
      rcases i with _ | i
      · obtain rfl : Value.int k (f j) = v := by simpa using hv
        exact h.cell j hj
      · simp at hv
    exact World.rangeAt_setCells_apart hr b o (row k m g) (Or.inr (by rw [row_length]; simp only [List.length_cons, List.length_nil]; omega)) 0 _ rfl
theorem over_in {M : Int} {n o m : Nat} {f g : Nat → Int} (hf : In M n f) (hg : In M m g) : In M n (over f o m g) := fun j hj => by
  unfold over
  split
  · exact hg _ (by omega)
  · exact hf j hj
end Go.Proofs.YthephehecapmhabDoor
