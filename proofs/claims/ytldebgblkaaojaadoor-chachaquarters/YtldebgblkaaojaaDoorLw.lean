/- What the statements' walks want: a stream's key, counter and nonce in one block; slices that stand; plain facts on what is laid over. -/
import Derived.Test.YtldebgblkaaojaaDoorHg
import Derived.Test.YtldebgblkaaojaaDoorOw
import Derived.Test.YtldebgblkaaojaaDoorEr
namespace Go.Proofs.YtldebgblkaaojaaDoor
open Go.RowKit

/-- A key, a counter, a nonce, one behind the other. -/
def strm (k : Nat → Int) (c : Int) (n : Nat → Int) : List Value := row .u8 32 k ++ .int .u32 c :: row .u8 12 n
structure Str (w : World) (b : Nat) (k : Nat → Int) (c : Int) (n : Nat → Int) : Prop where
  key : w.rangeAt b 0 (row .u8 32 k)
  ctr : w.cell? ⟨b, 32, none⟩ = some (.int .u32 c)
  non : w.rangeAt b 33 (row .u8 12 n)
  lt : b < w.heap.size
theorem Str.new (w : World) (k : Nat → Int) (c : Int) (n : Nat → Int) (t : TypeId) : Str (w.alloc (.cells (strm k c n).toArray t)) w.heap.size k c n := by
  have h : ∀ i, (w.alloc (.cells (strm k c n).toArray t)).cell? ⟨w.heap.size, i, none⟩ = (strm k c n)[i]? := fun i => by rw [World.cell?_alloc_at _ _ _ _ rfl]; simp
  refine ⟨fun j v hv => ?_, ?_, fun j v hv => ?_, by simp⟩
  · obtain ⟨hj, rfl⟩ := row_get_some hv
    rw [Nat.zero_add, h]
    unfold strm
    rw [List.getElem?_append_left (by rw [row_length]; exact hj)]
    exact row_get _ _ _ _ hj
  · rw [h]
    unfold strm
    rw [List.getElem?_append_right (by rw [row_length]; exact Nat.le_refl _), row_length]
    rfl
  · obtain ⟨hj, rfl⟩ := row_get_some hv
    rw [h]
    unfold strm
    rw [List.getElem?_append_right (by rw [row_length]; omega), row_length, show 33 + j - 32 = j + 1 by omega, List.getElem?_cons_succ]
    exact row_get _ _ _ _ hj
theorem Str.below {w w' : World} {b : Nat} {k : Nat → Int} {c : Int} {n : Nat → Int} (h : Str w b k c n) (l : Below w.heap.size w w') : Str w' b k c n :=
  ⟨fun j v hv => by rw [l.cell (p := ⟨b, 0 + j, none⟩) h.lt]; exact h.key j v hv, by rw [l.cell (p := ⟨b, 32, none⟩) h.lt]; exact h.ctr, fun j v hv => by rw [l.cell (p := ⟨b, 33 + j, none⟩) h.lt]; exact h.non j v hv, Nat.lt_of_lt_of_le h.lt l.size⟩

/-- The stream's block, the slices of L, and what stood in w. -/
structure HL (w : World) (b : Nat) (k : Nat → Int) (c : Int) (n : Nat → Int) (L : List (Option Addr × Nat × (Nat → Int))) (w' : World) : Prop where
  st : Str w' b k c n
  src : ∀ p ∈ L, Src w' p.1 p.2.1 p.2.2
  below : Below w.heap.size w w'
theorem HL.call {w : World} {b : Nat} {k : Nat → Int} {c : Int} {n : Nat → Int} {L : List (Option Addr × Nat × (Nat → Int))} {w' w'' : World} (h : HL w b k c n L w') (l : Below w'.heap.size w' w'') : HL w b k c n L w'' :=
  ⟨h.st.below l, fun p hp => (h.src p hp).below l (Nat.le_refl _), h.below.trans (l.mono h.below.size)⟩
theorem HL.drew {w : World} {b : Nat} {k : Nat → Int} {c : Int} {n : Nat → Int} {L : List (Option Addr × Nat × (Nat → Int))} {w' : World} (h : HL w b k c n L w') : HL w b k c n L w'.drew := h.call (Below.refl _ _).drew
theorem HL.add {w : World} {b : Nat} {k : Nat → Int} {c : Int} {n : Nat → Int} {L : List (Option Addr × Nat × (Nat → Int))} {w' : World} (h : HL w b k c n L w') (sp : Option Addr) (len : Nat) (z : Nat → Int) (hs : Src w' sp len z) : HL w b k c n ((sp, len, z) :: L) w' :=
  ⟨h.st, fun p hp => by
    rcases List.mem_cons.1 hp with rfl | hp
    · exact hs
    · exact h.src p hp, h.below⟩
theorem HL.get {w : World} {b : Nat} {k : Nat → Int} {c : Int} {n : Nat → Int} {L : List (Option Addr × Nat × (Nat → Int))} {w' : World} (h : HL w b k c n L w') (sp : Option Addr) (len : Nat) (z : Nat → Int) (hp : (sp, len, z) ∈ L) : Src w' sp len z := h.src _ hp
theorem Src.none {w : World} {sp : Option Addr} {len : Nat} {z : Nat → Int} (h : Src w sp len z) : sp = none → len = 0 := fun e => by
  rcases Nat.eq_zero_or_pos len with h0 | h0
  · exact h0
  · obtain ⟨ad, he, _⟩ := h 0 h0
    rw [e] at he
    cases he

section
variable {P : Program} {o : Oper} {a : Act}
theorem negI (k : IntKind) (n r : Int) (t : TypeId) (x : Operand) (ho : o.op = .unOp .neg t x) (hx : a.eval x = .int k n) (hr : k.wrap (0 - n) = r) (w : World) : (execOp a.eval o).run P w = .ok (.value (.int k r)) w := by
  unfold execOp
  simp only [ho, hx, Op.unary, Op.intArith, Sem.run_bind, Sem.run_pure, Result.andThen_ok, hr]
/-- The first bytes of a slice, and what stands behind them. -/
theorem cut_hi {t : TypeId} (ht : P.underlying t = some (.slice (P.elem t))) (hsz : ∀ w, (sizeOf (P.elem t)).run P w = .ok 1 w) (sp : Option Addr) (len cap m : Nat) (hm : m ≤ len) (hc : len ≤ cap) :
    ∃ sp', (∀ w, (Instr.sliceAt t (.slice sp len cap) none (some (.int .i64 (m : Int))) none).run P w = .ok (.slice sp' m cap) w) ∧ ∀ w z, Src w sp len z → Src w sp' m z := by
  refine ⟨if cap = 0 then sp else sp.map (·.add (0 * 1)), fun w => ?_, fun w z h j hj => ?_⟩
  · rw [run_sliceAt_slice w t _ _ _ _ ht, run_slice_h w t sp len cap ht .i64 (m : Int) (by omega) (by omega), hsz]
    simp only [Result.andThen, sliced, Int.toNat_natCast, Nat.sub_zero]
  · obtain ⟨ad, rfl, hc'⟩ := h j (by omega)
    rw [if_neg (by omega)]
    exact ⟨ad.add (0 * 1), rfl, by rw [Nat.zero_mul, Addr.add_add, Nat.zero_add]; exact hc'⟩
theorem cut_lo {t : TypeId} (ht : P.underlying t = some (.slice (P.elem t))) (hsz : ∀ w, (sizeOf (P.elem t)).run P w = .ok 1 w) (sp : Option Addr) (len cap m : Nat) (hm : m ≤ len) (hc : len ≤ cap) :
    ∃ sp', (∀ w, (Instr.sliceAt t (.slice sp len cap) (some (.int .i64 (m : Int))) none none).run P w = .ok (.slice sp' (len - m) (cap - m)) w) ∧ ∀ w z, Src w sp len z → Src w sp' (len - m) (fun j => z (m + j)) := by
  refine ⟨if cap = m then sp else sp.map (·.add (m * 1)), fun w => ?_, fun w z h j hj => ?_⟩
  · rw [run_sliceAt_slice w t _ _ _ _ ht, run_slice_l w t sp len cap ht .i64 (m : Int) (by omega) (by omega), hsz]
    simp only [Result.andThen, sliced, Int.toNat_natCast]
  · obtain ⟨ad, rfl, hc'⟩ := h (m + j) (by omega)
    rw [if_neg (by omega)]
    exact ⟨ad.add (m * 1), rfl, by rw [Nat.mul_one, Addr.add_add]; exact hc'⟩
end

theorem xor_nought (y : Int) (hy : 0 ≤ y ∧ y < 256) : bits .xor .u8 0 y = y := by
  obtain ⟨y, rfl⟩ := Int.eq_ofNat_of_zero_le hy.1
  have h := u8_xor_nat 0 y (by omega) (by omega)
  rw [Nat.zero_xor] at h
  exact h
theorem xor_twice (x y : Int) (hx : 0 ≤ x ∧ x < 256) (hy : 0 ≤ y ∧ y < 256) : bits .xor .u8 (bits .xor .u8 x y) y = x := by
  obtain ⟨x, rfl⟩ := Int.eq_ofNat_of_zero_le hx.1
  obtain ⟨y, rfl⟩ := Int.eq_ofNat_of_zero_le hy.1
  rw [u8_xor_nat x y (by omega) (by omega), u8_xor_nat _ y (Nat.xor_lt_two_pow (n := 8) (by omega) (by omega)) (by omega), Nat.xor_assoc, Nat.xor_self, Nat.xor_zero]
theorem hxor_twice (k : Nat → Int) (c : Int) (n z : Nat → Int) (m : Nat) (hz : In 256 m z) (j : Nat) (hj : j < m) : hxor k c n (hxor k c n z) j = z j :=
  xor_twice _ _ (hz j hj) (hblk_in _ _ _ 64 _ (Nat.mod_lt _ (by decide)))
theorem hxor_next (k : Nat → Int) (c : Int) (n z : Nat → Int) (j : Nat) : hxor k c n z (64 + j) = hxor k (had c 1) n (fun i => z (64 + i)) j := by
  unfold hxor had
  rw [show (64 + j) % 64 = j % 64 by omega, show (64 + j) / 64 = 1 + j / 64 by omega, show (c + ((1 + j / 64 : Nat) : Int)) % 4294967296 = ((c + 1) % 4294967296 + ((j / 64 : Nat) : Int)) % 4294967296 by omega]
theorem hxor_noughts (k : Nat → Int) (c : Int) (hc : 0 ≤ c ∧ c < V) (n : Nat → Int) (j : Nat) (hj : j < 64) : hxor k c n (fun _ => 0) j = hblk k c n j := by
  unfold hxor
  rw [show j / 64 = 0 by omega, show j % 64 = j by omega, show (c + ((0 : Nat) : Int)) % 4294967296 = c by simp only [V] at hc; omega]
  exact xor_nought _ (hblk_in _ _ _ 64 _ hj)
theorem txt_noughts (k : Nat → Int) (c : Int) (hc : 0 ≤ c ∧ c < V) (n : Nat → Int) : txt 64 (hblk k c n) ++ txt 64 (hblk k (had c 1) n) = txt 128 (hxor k c n (fun _ => 0)) := by
  rw [← txt_add 64 64, txt_congr (fun j hj => (hxor_noughts k c hc n j hj).symm), txt_congr (n := 64) (z := hblk k (had c 1) n) (y := fun j => hxor k c n (fun _ => 0) (64 + j)) (fun j hj => by rw [hxor_next]; exact (hxor_noughts k (had c 1) (had_in c 1) n j hj).symm)]
end Go.Proofs.YtldebgblkaaojaaDoor
