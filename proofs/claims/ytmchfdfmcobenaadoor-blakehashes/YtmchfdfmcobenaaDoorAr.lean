/- Single operations on numbers, slices and texts, as steps of a walk; no program stands in them. -/
import Derived.Test.YtmchfdfmcobenaaDoorHold
import Derived.Test.YtmchfdfmcobenaaDoorGn
import Derived.Laws.BytesArg
import Derived.Laws.Concat
namespace Go.Proofs.YtmchfdfmcobenaaDoor
open Go.RowKit

section
variable {P : Program} {o : Oper} {a : Act}
theorem addI (k : IntKind) (n n' r : Int) (t t' : TypeId) (x y : Operand) (ho : o.op = .binOp .add t x y t') (hx : a.eval x = .int k n) (hy : a.eval y = .int k n') (hr : k.wrap (n + n') = r) (w : World) : (execOp a.eval o).run P w = .ok (.value (.int k r)) w := by
  unfold execOp
  simp only [ho, hx, hy, Sem.run_bind, eqGuard_at_int, binOp_add, Op.intArith, Sem.run_pure, Result.andThen_ok, hr]
theorem subI (k : IntKind) (n n' r : Int) (t t' : TypeId) (x y : Operand) (ho : o.op = .binOp .sub t x y t') (hx : a.eval x = .int k n) (hy : a.eval y = .int k n') (hr : k.wrap (n - n') = r) (w : World) : (execOp a.eval o).run P w = .ok (.value (.int k r)) w := by
  unfold execOp
  simp only [ho, hx, hy, Sem.run_bind, eqGuard_at_int, binOp_sub, Op.intArith, Sem.run_pure, Result.andThen_ok, hr]
theorem mulI (k : IntKind) (n n' r : Int) (t t' : TypeId) (x y : Operand) (ho : o.op = .binOp .mul t x y t') (hx : a.eval x = .int k n) (hy : a.eval y = .int k n') (hr : k.wrap (n * n') = r) (w : World) : (execOp a.eval o).run P w = .ok (.value (.int k r)) w := by
  unfold execOp
  simp only [ho, hx, hy, Sem.run_bind, eqGuard_at_int, binOp_mul, Op.intArith, Sem.run_pure, Result.andThen_ok, hr]
theorem xorI (k : IntKind) (n n' r : Int) (t t' : TypeId) (x y : Operand) (ho : o.op = .binOp .xor t x y t') (hx : a.eval x = .int k n) (hy : a.eval y = .int k n') (hr : bits .xor k n n' = r) (w : World) : (execOp a.eval o).run P w = .ok (.value (.int k r)) w := by
  unfold execOp
  simp only [ho, hx, hy, Sem.run_bind, eqGuard_at_int, binOp_xor, intBits_xor, Sem.run_pure, Result.andThen_ok, hr]
theorem remI (k : IntKind) (n n' r : Int) (t t' : TypeId) (x y : Operand) (ho : o.op = .binOp .rem t x y t') (hx : a.eval x = .int k n) (hy : a.eval y = .int k n') (h0 : n' ≠ 0) (hr : n.tmod n' = r) (w : World) : (execOp a.eval o).run P w = .ok (.value (.int k r)) w := by
  unfold execOp
  simp only [ho, hx, hy, Sem.run_bind, eqGuard_at_int, binOp_rem, Op.intDiv, if_neg h0, Sem.run_pure, Result.andThen_ok, hr]
theorem quoI (k : IntKind) (n n' r : Int) (t t' : TypeId) (x y : Operand) (ho : o.op = .binOp .quo t x y t') (hx : a.eval x = .int k n) (hy : a.eval y = .int k n') (h0 : n' ≠ 0) (hr : k.wrap (n.tdiv n') = r) (w : World) : (execOp a.eval o).run P w = .ok (.value (.int k r)) w := by
  unfold execOp
  simp only [ho, hx, hy, Sem.run_bind, eqGuard_at_int, binOp_quo, Op.intDiv, if_neg h0, Sem.run_pure, Result.andThen_ok, hr]
theorem shrI (k yk : IntKind) (n y r : Int) (t t' : TypeId) (x x' : Operand) (ho : o.op = .binOp .shr t x x' t') (hx : a.eval x = .int k n) (hy : a.eval x' = .int yk y) (h0 : 0 ≤ y) (hr : n / 2 ^ min y.toNat k.bits = r) (w : World) : (execOp a.eval o).run P w = .ok (.value (.int k r)) w := by
  unfold execOp
  simp only [ho, hx, hy, Sem.run_bind, eqGuard_at_int, binOp_shr, shift_shr_any k yk n y h0, Sem.run_pure, Result.andThen_ok, hr]
theorem convI (k k' : IntKind) (n r : Int) (t t' : TypeId) (x : Operand) (ho : o.op = .convert t t' x) (ht : (P.underlying t).isSome = true) (ht' : P.underlying t' = some (.int k')) (hk : P.intKind t' = k') (hx : a.eval x = .int k n) (hr : k'.wrap n = r) (w : World) : (execOp a.eval o).run P w = .ok (.value (.int k' r)) w := by
  subst hk
  unfold execOp
  simp only [ho, hx, Sem.run_bind, run_convert_int w t t' k n ht ht', Sem.run_pure, Result.andThen_ok, hr]
theorem lssI (k : IntKind) (n n' : Int) (t t' : TypeId) (x y : Operand) (ho : o.op = .binOp .lss t x y t') (hx : a.eval x = .int k n) (hy : a.eval y = .int k n') (r : Bool) (hr : decide (n < n') = r) (w : World) : (execOp a.eval o).run P w = .ok (.value (.bool r)) w := by
  unfold execOp
  simp only [ho, hx, hy, Sem.run_bind, eqGuard_at_int, binOp_lss, Sem.run_pure, Result.andThen_ok, hr]
theorem neqI (k : IntKind) (n n' : Int) (t t' : TypeId) (x y : Operand) (ho : o.op = .binOp .neq t x y t') (hx : a.eval x = .int k n) (hy : a.eval y = .int k n') (r : Bool) (hr : (n != n') = r) (w : World) : (execOp a.eval o).run P w = .ok (.value (.bool r)) w := by
  unfold execOp
  simp only [ho, hx, hy, Sem.run_bind, eqGuard_at_int, binOp_neq, Sem.run_pure, Result.andThen_ok, hr]
theorem lenS (x : Operand) (t e : TypeId) (sp : Option Addr) (n c : Nat) (ho : o.op = .call { callee := .builtin .len, args := #[x], argTypes := #[t] }) (ht : P.underlying t = some (.slice e)) (hx : a.eval x = .slice sp n c) (w : World) : (execOp a.eval o).run P w = .ok (.value (.int .i64 (n : Int))) w := by
  simp [execOp, ho, resolve, invoke, builtin, hx, Builtin.len_, run_underlying ht, goInt]
theorem minI (k k' : IntKind) (n n' r : Int) (x y : Operand) (t t' : TypeId) (ho : o.op = .call { callee := .builtin .min, args := #[x, y], argTypes := #[t, t'] }) (hx : a.eval x = .int k n) (hy : a.eval y = .int k' n') (hr : (if n' < n then n' else n) = r) (w : World) : (execOp a.eval o).run P w = .ok (.value (.int k r)) w := by
  simp [execOp, ho, resolve, invoke, builtin, hx, hy, run_min_int2, hr]
/-- A slice of a slice. -/
theorem cutOp {w : World} (t : TypeId) (x y : Operand) (p q v : Value) (ho : o.op = .slice t x (some y) none none) (hx : a.eval x = p) (hy : a.eval y = q) (hr : (Instr.sliceAt t p (some q) none none).run P w = .ok v w) :
    (execOp a.eval o).run P w = .ok (.value v) w := by
  unfold execOp
  simp only [ho, hx, hy, Option.map_some, Option.map_none, Sem.run_bind, hr, Result.andThen_ok, Sem.run_pure]
theorem cutHi {w : World} (t : TypeId) (x y : Operand) (p q v : Value) (ho : o.op = .slice t x none (some y) none) (hx : a.eval x = p) (hy : a.eval y = q) (hr : (Instr.sliceAt t p none (some q) none).run P w = .ok v w) :
    (execOp a.eval o).run P w = .ok (.value v) w := by
  unfold execOp
  simp only [ho, hx, hy, Option.map_some, Option.map_none, Sem.run_bind, hr, Result.andThen_ok, Sem.run_pure]
theorem cutAll {w : World} (t : TypeId) (x : Operand) (p v : Value) (ho : o.op = .slice t x none none none) (hx : a.eval x = p) (hr : (Instr.sliceAt t p none none none).run P w = .ok v w) :
    (execOp a.eval o).run P w = .ok (.value v) w := by
  unfold execOp
  simp only [ho, hx, Option.map_none, Sem.run_bind, hr, Result.andThen_ok, Sem.run_pure]

/-- Bytes as a text. -/
def txt (n : Nat) (z : Nat → Int) : ByteArray := strOfNums ((List.range n).map z)
theorem txt_congr {n : Nat} {z y : Nat → Int} (h : ∀ j, j < n → z j = y j) : txt n z = txt n y := by
  unfold txt
  rw [List.map_congr_left fun j hj => h j (List.mem_range.1 hj)]
theorem txt_size (n : Nat) (z : Nat → Int) : (txt n z).size = n := by unfold txt; rw [strOfNums_size]; simp
theorem txt_add (n m : Nat) (z : Nat → Int) : txt n z ++ txt m (fun j => z (n + j)) = txt (n + m) z := by
  unfold txt strOfNums
  rw [List.range_add, List.map_append, List.map_append, List.map_map (l := List.range m)]
  ext1
  simp [ByteArray.data_append, Function.comp_def]
theorem conv_txt (t e dst : TypeId) (x : Operand) (ho : o.op = .convert t dst x) (ht : P.underlying t = some (.slice e)) (he : P.underlying e = some (.int .u8)) (hd : P.underlying dst = some .string) (sp : Option Addr) (len cap : Nat) (z : Nat → Int) (hx : a.eval x = .slice sp len cap) (w : World) (hs : Src w sp len z) (hn : sp = none → len = 0) :
    (execOp a.eval o).run P w = .ok (.value (.string (txt len z))) w := by
  have h : (convert t dst (.slice sp len cap)).run P w = .ok (.string (txt len z)) w := by
    cases sp with
    | none =>
      obtain rfl := hn rfl
      rw [run_convert_bytes_nil w t e ht he 0 cap dst hd]
      rfl
    | some ad =>
      have hl : (loadCells ad len).run P w = .ok (((List.range len).map z).map (Value.int .u8)).toArray w := by
        have := run_loadCells_list (P := P) w ad (((List.range len).map z).map (Value.int .u8)) (fun j v hj => by
          rw [List.map_map] at hj
          have hjl : j < len := by
            have := (List.getElem?_eq_some_iff.1 hj).1
            simpa using this
          obtain ⟨ad', he', hc⟩ := hs j hjl
          injection he' with he'
          subst he'
          rw [hc, ← hj]
          simp [hjl])
        simpa using this
      rw [run_convert_bytes_string w t dst e _ len cap ht he hd, run_bytesToString w ad len cap _ hl, foldl_push_bytes]
      simp [txt, strOfNums, ByteArray.empty, ByteArray.emptyWithCapacity]
      rfl
  unfold execOp
  simp only [ho, hx, Sem.run_bind, h, Result.andThen_ok, Sem.run_pure]
theorem eqlS (s s' : ByteArray) (t t' : TypeId) (x y : Operand) (ho : o.op = .binOp .eql t x y t') (hx : a.eval x = .string s) (hy : a.eval y = .string s') (h : s = s') (w : World) : (execOp a.eval o).run P w = .ok (.value (.bool true)) w := by
  subst h
  unfold execOp
  simp only [ho, hx, hy, Sem.run_bind, eqGuard_at_string, binOp_string_eql, Sem.run_pure, Result.andThen_ok, beq_self_eq_true]
theorem addS (s s' r : ByteArray) (t t' : TypeId) (x y : Operand) (ho : o.op = .binOp .add t x y t') (hx : a.eval x = .string s) (hy : a.eval y = .string s') (hs : s.size + s'.size ≤ 9223372036854775807) (h : s ++ s' = r) (w : World) : (execOp a.eval o).run P w = .ok (.value (.string r)) w := by
  subst h
  unfold execOp
  simp only [ho, hx, hy, Sem.run_bind, eqGuard_at_string, binOp_string_add, run_string_add_sum w s s' hs, Sem.run_pure, Result.andThen_ok]
end

section
variable {P : Program} {ops : Array Oper} {Q : Exit → Act → World → Prop} {md : Region.Mode} {S : World → Prop}
/-- What only looks at memory that S speaks of is taken first. -/
theorem readH {i : Nat} {oi : Oper} (dst : Option Tmp) (hdst : oi.dst = dst) {fuel : Nat} {listed : Array Bool} {a : Act} {w : World} (v : Value) (hi : ops[i]? = some oi) (hw : Region.wanted oi (yielded ops a.tmps) = true)
    (hv : ∀ w, S w → (execOp a.eval oi).run P w = .ok (.value v) w)
    (hs : Region.noSelect ops = true) (hf : Region.free md ops listed i = true) (hr : (Region.ready md ops listed).contains i = true)
    (hQ : ∀ c a w, Q (.panic c) (a.put dst v) w → Q (.panic c) a w) (hS : S w)
    (h : wpAnyH P md ops Q S fuel (listed.setIfInBounds i true) (a.put dst v) w) : wpAnyH P md ops Q S (fuel + 1) listed a w := by
  subst hdst
  exact wpAnyH_take hi hs hf hr hQ (Or.inl ⟨hw, hv⟩) hS h
/-- One cell is loaded, wherever it lies. -/
theorem cellPH {i : Nat} {oi : Oper} (dst : Option Tmp) (hdst : oi.dst = dst) {fuel : Nat} {listed : Array Bool} {a : Act} {w : World} (k : IntKind) (v : Value) (p : Addr) (ty : TypeId) (x : Operand) (hi : ops[i]? = some oi)
    (ho : oi.op = .load ty x) (hx : a.eval x = .pointer (some p)) (hw : Region.wanted oi (yielded ops a.tmps) = true)
    (hs : Region.noSelect ops = true) (hf : Region.free md ops listed i = true) (hr : (Region.ready md ops listed).contains i = true)
    (hQ : ∀ c a w, Q (.panic c) (a.put dst v) w → Q (.panic c) a w)
    (hu : P.underlying ty = some (.int k))
    (hS : S w) (hh : ∀ w, S w → w.cell? p = some v)
    (h : wpAnyH P md ops Q S fuel (listed.setIfInBounds i true) (a.put dst v) w) : wpAnyH P md ops Q S (fuel + 1) listed a w := by
  refine readH dst hdst v hi hw (fun w hw' => ?_) hs hf hr hQ hS h
  have hagg : (isAgg ty).run P w = .ok false w := by
    unfold isAgg
    rw [Sem.run_bind, run_underlying hu w]
    rfl
  have e : (loadVar ty p).run P w = .ok v w := by simp [loadVar, Sem.run_bind, hagg, hh w hw']
  unfold execOp
  simp only [ho, hx, Instr.loadAt, Instr.sureAddr, Sem.run_bind, Sem.run_pure, Result.andThen_ok, e]
theorem readL {o : Oper} {rest : List Oper} {a : Act} {w : World} (v : Value) (hw : Region.wanted o (yielded ops a.tmps) = true) (hv : (execOp a.eval o).run P w = .ok (.value v) w)
    (h : wpList P ops Q rest (a.put o.dst v) w) : wpList P ops Q (o :: rest) a w := by
  unfold wpList
  rw [if_pos hw]
  refine .inl ?_
  unfold Oper.wp
  rw [hv]
  exact h
theorem storeL {o' : Oper} {rest : List Oper} {a : Act} {w : World} (k : IntKind) (v : Int) (b o : Nat) (ty : TypeId) (x y : Operand) (hw : Region.wanted o' (yielded ops a.tmps) = true) (ho : o'.op = .store ty x y) (hx : a.eval x = .pointer (some ⟨b, o, none⟩)) (hy : a.eval y = .int k v)
    (hc : (w.cell? ⟨b, o, none⟩).isSome = true) (hf : w.frozen? ⟨b, o, none⟩ = false) (hz : (P.info? ty).map (·.size) = some 1)
    (h : wpList P ops Q rest (a.put o'.dst undef) (w.setCell ⟨b, o, none⟩ (.int k v))) : wpList P ops Q (o' :: rest) a w := by
  unfold wpList
  rw [if_pos hw]
  refine .inl ?_
  have he : (execOp a.eval o').run P w = .ok .skip (w.setCell ⟨b, o, none⟩ (.int k v)) := by
    unfold execOp
    simp only [ho, hx, hy]
    have e := run_storeAt_cell (P := P) w b o ty k v hc hf hz
    simp only [Sem.run_bind, e, Result.andThen_ok, Sem.run_pure]
  unfold Oper.wp
  rw [he]
  exact h
end
theorem Has.src {w : World} {b n : Nat} {f : Nat → Int} (h : Has w b .u8 n f) (o len : Nat) (ho : o + len ≤ n) : Src w (some ⟨b, o, none⟩) len (fun j => f (o + j)) := fun j hj => ⟨_, rfl, by rw [Addr.add_mid]; exact h.cell (o + j) (by omega)⟩
theorem Has.src0 {w : World} {b n : Nat} {f : Nat → Int} (h : Has w b .u8 n f) : Src w (some ⟨b, 0, none⟩) n f := fun j hj => ⟨_, rfl, by rw [Addr.add_mid, Nat.zero_add]; exact h.cell j hj⟩
theorem Src.congr {w : World} {sp : Option Addr} {len : Nat} {z y : Nat → Int} (h : Src w sp len z) (e : ∀ j, j < len → z j = y j) : Src w sp len y := fun j hj => by
  obtain ⟨ad, h1, h2⟩ := h j hj
  exact ⟨ad, h1, by rw [← e j hj]; exact h2⟩
end Go.Proofs.YtmchfdfmcobenaaDoor
