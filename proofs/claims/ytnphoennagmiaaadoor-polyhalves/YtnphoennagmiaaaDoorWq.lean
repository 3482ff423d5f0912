/- A word of eight bytes within a row, and a word's bytes, written into one. -/
import Derived.Test.YtnphoennagmiaaaDoorWo
import Derived.Test.YtnphoennagmiaaaDoorWp
import Derived.Test.YtnphoennagmiaaaDoorPt
namespace Go.Proofs.YtnphoennagmiaaaDoor
open Go.RowKit

/-- A word's bytes. -/
def byt (x : Int) : Nat → Int
  | 0 => x % 256
  | 1 => x / 256 % 256
  | 2 => x / 65536 % 256
  | 3 => x / 16777216 % 256
  | 4 => x / 4294967296 % 256
  | 5 => x / 1099511627776 % 256
  | 6 => x / 281474976710656 % 256
  | 7 => x / 72057594037927936 % 256
  | _ + 8 => 0
theorem byt_in (x : Int) : In 256 8 (byt x)
  | 0, _ => by show 0 ≤ x % 256 ∧ x % 256 < 256; omega
  | 1, _ => by show 0 ≤ x / 256 % 256 ∧ x / 256 % 256 < 256; omega
  | 2, _ => by show 0 ≤ x / 65536 % 256 ∧ x / 65536 % 256 < 256; omega
  | 3, _ => by show 0 ≤ x / 16777216 % 256 ∧ x / 16777216 % 256 < 256; omega
  | 4, _ => by show 0 ≤ x / 4294967296 % 256 ∧ x / 4294967296 % 256 < 256; omega
  | 5, _ => by show 0 ≤ x / 1099511627776 % 256 ∧ x / 1099511627776 % 256 < 256; omega
  | 6, _ => by show 0 ≤ x / 281474976710656 % 256 ∧ x / 281474976710656 % 256 < 256; omega
  | 7, _ => by show 0 ≤ x / 72057594037927936 % 256 ∧ x / 72057594037927936 % 256 < 256; omega
  | _ + 8, h => by omega
theorem val_byt (x : Int) (h0 : 0 ≤ x) (h1 : x < W) : val 256 (byt x) 8 = x := by
  simp only [W] at h1
  have h := bytes_of x h0 h1
  simp only [val, byt]
  omega
theorem word8 (a : Nat → Int) (o : Nat) : val 256 (fun j => a (o + j)) 8 = a o + a (o + 1) * 256 + a (o + 2) * 65536 + a (o + 3) * 16777216 + a (o + 4) * 4294967296 + a (o + 5) * 1099511627776 + a (o + 6) * 281474976710656 + a (o + 7) * 72057594037927936 := by
  simp only [val, Nat.add_zero]
  omega
theorem of_any (B o n c : Nat) (a : Nat → Int) (ho : o + 8 ≤ n) (ha : In 256 n a) (w : World) (h : Has w B .u8 n a) :
    Calls Tryd.prog 40 #[.slice (some ⟨B, o, none⟩) 8 c] w fun e w' => e = .returned (.int .u64 (val 256 (fun j => a (o + j)) 8)) ∧ Below w.heap.size w w' := by
  rw [word8]
  exact of_raw B o c _ _ _ _ _ _ _ _ (ha o (by omega)) (ha (o + 1) (by omega)) (ha (o + 2) (by omega)) (ha (o + 3) (by omega)) (ha (o + 4) (by omega)) (ha (o + 5) (by omega)) (ha (o + 6) (by omega)) (ha (o + 7) (by omega)) w
    (h.cell o (by omega)) (h.cell (o + 1) (by omega)) (h.cell (o + 2) (by omega)) (h.cell (o + 3) (by omega)) (h.cell (o + 4) (by omega)) (h.cell (o + 5) (by omega)) (h.cell (o + 6) (by omega)) (h.cell (o + 7) (by omega))
theorem of_quiet (B o n c : Nat) (a : Nat → Int) (ho : o + 8 ≤ n) (ha : In 256 n a) (w : World) (h : Has w B .u8 n a) :
    Calls Tryd.prog 40 #[.slice (some ⟨B, o, none⟩) 8 c] w fun e w' => ∃ q, e = .returned (.int .u64 (val 256 (fun j => a (o + j)) 8)) ∧ w' = w.drewN q := by
  rw [word8]
  exact of_same B o c _ _ _ _ _ _ _ _ (ha o (by omega)) (ha (o + 1) (by omega)) (ha (o + 2) (by omega)) (ha (o + 3) (by omega)) (ha (o + 4) (by omega)) (ha (o + 5) (by omega)) (ha (o + 6) (by omega)) (ha (o + 7) (by omega)) w
    (h.cell o (by omega)) (h.cell (o + 1) (by omega)) (h.cell (o + 2) (by omega)) (h.cell (o + 3) (by omega)) (h.cell (o + 4) (by omega)) (h.cell (o + 5) (by omega)) (h.cell (o + 6) (by omega)) (h.cell (o + 7) (by omega))
theorem put_any (B o n c : Nat) (g : Nat → Int) (x : Int) (ho : o + 8 ≤ n) (w : World) (h : Has w B .u8 n g) :
    Calls Tryd.prog 41 #[.slice (some ⟨B, o, none⟩) 8 c, .int .u64 x] w fun e w' => e = .returned (.tuple #[]) ∧ w' = w.setCells B o (row .u8 8 (byt x)) :=
  put_raw B o c x _ _ _ _ _ _ _ _ w (h.cell o (by omega)) (h.free o (by omega)) (h.cell (o + 1) (by omega)) (h.free (o + 1) (by omega)) (h.cell (o + 2) (by omega)) (h.free (o + 2) (by omega)) (h.cell (o + 3) (by omega)) (h.free (o + 3) (by omega)) (h.cell (o + 4) (by omega)) (h.free (o + 4) (by omega)) (h.cell (o + 5) (by omega)) (h.free (o + 5) (by omega)) (h.cell (o + 6) (by omega)) (h.free (o + 6) (by omega)) (h.cell (o + 7) (by omega)) (h.free (o + 7) (by omega))
end Go.Proofs.YtnphoennagmiaaaDoor
