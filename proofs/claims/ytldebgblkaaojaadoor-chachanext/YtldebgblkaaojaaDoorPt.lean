/- Parts of rows, and draws: plain facts, no program stands in them. -/
import Derived.Test.YtldebgblkaaojaaDoorBase
import Derived.Deep.QuietTactic
namespace Go.Proofs.YtldebgblkaaojaaDoor
open Go.RowKit

theorem below_drewN {B : Nat} {w w' : World} (h : Below B w w') {n : Nat} : Below B w (w'.drewN n) := ⟨h.os, h.tape, h.output, h.size, h.block⟩

/-- Part of a row, written anew. -/
def over (f : Nat → Int) (o m : Nat) (g : Nat → Int) : Nat → Int := fun j => if o ≤ j ∧ j < o + m then g (j - o) else f j
theorem Has.part {w : World} {b : Nat} {k : IntKind} {n : Nat} {f : Nat → Int} (h : Has w b k n f) (o m : Nat) (ho : o + m ≤ n) (g : Nat → Int) : Has (w.setCells b o (row k m g)) b k n (over f o m g) := by
  have ht : w.there b o m := fun j hj => by rw [h.cell (o + j) (by omega)]; exact ⟨rfl, h.free (o + j) (by omega)⟩
  refine ⟨fun j hj => ?_, fun j hj => by rw [World.frozen?_setCells]; exact h.free j hj⟩
  unfold over
  by_cases e : o ≤ j ∧ j < o + m
  · rw [if_pos e]
    have := World.rangeAt_setCells_same w b o (row k m g) (by rw [row_length]; exact ht) (j - o) _ (row_get k m g (j - o) (by omega))
    rw [show o + (j - o) = j by omega] at this
    exact this
  · rw [if_neg e]
    have hr : w.rangeAt b j [.int k (f j)] := fun i v hv => by
      rcases i with _ | i
      · obtain rfl : Value.int k (f j) = v := by simpa using hv
        exact h.cell j hj
      · simp at hv
    exact World.rangeAt_setCells_apart hr b o (row k m g) (Or.inr (by rw [row_length]; simp only [List.length_cons, List.length_nil]; omega)) 0 _ rfl
theorem over_in {M : Int} {n o m : Nat} {f g : Nat → Int} (hf : In M n f) (hg : In M m g) : In M n (over f o m g) := fun j hj => by
  unfold over
  split
  · exact hg _ (by omega)
  · exact hf j hj

theorem val_split (M : Int) (f : Nat → Int) (n : Nat) : ∀ k, val M f (n + k) = val M f n + M ^ n * val M (fun j => f (n + j)) k
  | 0 => by simp [val]
  | k + 1 => by
    rw [← Nat.add_assoc]
    simp only [val]
    rw [val_split M f n k, Int.mul_add, ← Int.mul_assoc, Int.pow_add]
    omega
end Go.Proofs.YtldebgblkaaojaaDoor
