/- The document's example of Times, reckoned; the points 0 and 1; secrets whose lowest bits are cleared. -/
import Derived.Test.YthephehecapmhabDoorKey
namespace Go.Proofs.YthephehecapmhabDoor
open Go.RowKit

def txt1 : ByteArray := ⟨#[97, 53, 52, 54, 101, 51, 54, 98, 102, 48, 53, 50, 55, 99, 57, 100, 51, 98, 49, 54, 49, 53, 52, 98, 56, 50, 52, 54, 53, 101, 100, 100, 54, 50, 49, 52, 52, 99, 48, 97, 99, 49, 102, 99, 53, 97, 49, 56, 53, 48, 54, 97, 50, 50, 52, 52, 98, 97, 52, 52, 57, 97, 99, 52]⟩
def txt2 : ByteArray := ⟨#[101, 54, 100, 98, 54, 56, 54, 55, 53, 56, 51, 48, 51, 48, 100, 98, 51, 53, 57, 52, 99, 49, 97, 52, 50, 52, 98, 49, 53, 102, 55, 99, 55, 50, 54, 54, 50, 52, 101, 99, 50, 54, 98, 51, 51, 53, 51, 98, 49, 48, 97, 57, 48, 51, 97, 54, 100, 48, 97, 98, 49, 99, 52, 99]⟩
def txt3 : ByteArray := ⟨#[99, 51, 100, 97, 53, 53, 51, 55, 57, 100, 101, 57, 99, 54, 57, 48, 56, 101, 57, 52, 101, 97, 52, 100, 102, 50, 56, 100, 48, 56, 52, 102, 51, 50, 101, 99, 99, 102, 48, 51, 52, 57, 49, 99, 55, 49, 102, 55, 53, 52, 98, 52, 48, 55, 53, 53, 55, 55, 97, 50, 56, 53, 53, 50]⟩

/-- What a ladder answers hangs on the bits below 255 alone. -/
theorem run_congr (x : Fin QN) {p q : Nat → Bool} (h : ∀ t, t < 255 → p t = q t) : ∀ i, Ed.run cz x p i = Ed.run cz x q i
  | 0 => rfl
  | i + 1 => by
    show Ed.step cz x (p (254 - i)) (Ed.run cz x p i) = Ed.step cz x (q (254 - i)) (Ed.run cz x q i)
    rw [run_congr x h i, h (254 - i) (by omega)]
theorem ex_bits : ∀ t : Fin 255, kbit (trim (kfun txt1 64)) t.val = Nat.testBit 31029842492115040904895560451863089656472772604678260265531221036453811406496 t.val := by decide +kernel
theorem ex_u : val 256 (mask (kfun txt2 64)) 32 = 34426434033919594451155107781188821651316167215306631574996226621102155684838 := by decide +kernel
theorem ex_r : val 256 (kfun txt3 64) 32 = 37325765543539916631701301279660700968428932651319597985674090122993663859395 := by decide +kernel
theorem ex_ev : ev 34426434033919594451155107781188821651316167215306631574996226621102155684838 31029842492115040904895560451863089656472772604678260265531221036453811406496 255 1 0 34426434033919594451155107781188821651316167215306631574996226621102155684838 1 = (40720446656044610887007743526168351200949085573335588056034522313589005102685, 1913421194926468280838932077950181047858614286606652195677699455974229136423) := by decide +kernel
def exX : Fin QN := ⟨34426434033919594451155107781188821651316167215306631574996226621102155684838, by decide⟩
def exA : Fin QN := ⟨40720446656044610887007743526168351200949085573335588056034522313589005102685, by decide⟩
def exB : Fin QN := ⟨1913421194926468280838932077950181047858614286606652195677699455974229136423, by decide⟩
def exR : Fin QN := ⟨37325765543539916631701301279660700968428932651319597985674090122993663859395, by decide⟩
theorem ex_ab : exA = exR * exB := by decide +kernel
theorem ex_b : exB ≠ 0 := by decide +kernel
theorem ex_tm : ((tm (kfun txt1 64) (kfun txt2 64)).val : Int) = val 256 (kfun txt3 64) 32 := by
  have hx : kz (mask (kfun txt2 64)) = exX := by unfold kz; rw [ex_u]; decide +kernel
  have hr : Ed.run cz exX (kbit (trim (kfun txt1 64))) 255 = Ed.run cz exX (fun t => Nat.testBit 31029842492115040904895560451863089656472772604678260265531221036453811406496 t) 255 := run_congr exX (fun t ht => ex_bits ⟨t, ht⟩) 255
  obtain ⟨ha, hb⟩ := ev_run exX _ _ _ ex_ev
  have e : tm (kfun txt1 64) (kfun txt2 64) = exR := by
    unfold tm Ed.out
    rw [hx, hr, show (Ed.run cz exX (fun t => Nat.testBit 31029842492115040904895560451863089656472772604678260265531221036453811406496 t) 255).a = exA from Fin.ext ha, show (Ed.run cz exX (fun t => Nat.testBit 31029842492115040904895560451863089656472772604678260265531221036453811406496 t) 255).b = exB from Fin.ext hb, ex_ab, Fin.mul_assoc, inz_inv _ ex_b, Fin.mul_one]
  rw [e, ex_r]
  rfl

theorem trim_bit0 (k : Nat → Int) : kbit (trim k) 0 = false := by
  unfold kbit
  show decide (k 0 / 8 * 8 / 2 ^ 0 % 2 = 1) = false
  refine decide_eq_false ?_
  omega
theorem trim_bit1 (k : Nat → Int) : kbit (trim k) 1 = false := by
  unfold kbit
  show decide (k 0 / 8 * 8 / 2 ^ 1 % 2 = 1) = false
  refine decide_eq_false ?_
  omega
theorem trim_bit2 (k : Nat → Int) : kbit (trim k) 2 = false := by
  unfold kbit
  show decide (k 0 / 8 * 8 / 2 ^ 2 % 2 = 1) = false
  refine decide_eq_false ?_
  omega
theorem trim_bit254 (k : Nat → Int) : kbit (trim k) 254 = true := by
  unfold kbit
  show decide ((k 31 % 64 + 64) / 2 ^ 6 % 2 = 1) = true
  refine decide_eq_true ?_
  omega
theorem tm_nought (k u : Nat → Int) (h : kz (mask u) = 0) : tm k u = 0 := by
  unfold tm
  rw [h]
  exact Ed.nought inz inz_zero cz _
theorem tm_small (k u : Nat → Int) (h : kz (mask u) * kz (mask u) = 1) : tm k u = 0 := by
  unfold tm
  exact Ed.small inz inz_zero h cz _ (trim_bit0 k) (trim_bit1 k)
theorem kz_of (f : Nat → Int) (x : Int) (y : Fin QN) (h : val 256 f 32 = x) (e : fz x = y) : kz f = y := by unfold kz; rw [h, e]
theorem tm_at0 (k : Nat → Int) : tm k (one 0) = 0 := tm_nought k _ (kz_of _ 0 0 (by decide +kernel) (by decide +kernel))
theorem tm_at1 (k : Nat → Int) : tm k (one 1) = 0 := tm_small k _ (by rw [kz_of _ 1 1 (by decide +kernel) (by decide +kernel)]; decide +kernel)
end Go.Proofs.YthephehecapmhabDoor
