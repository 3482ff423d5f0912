/- Texts of Qj Qm Qn Qo LawFramesCuts Oc Pc Qr Qs Qp, joined. -/
import Derived.Test.YteaamgjlkohfcaaP1FramesCuts
import Derived.Defers
import Derived.Recover
namespace Go.Proofs.Yteaamgjlkohfcaa
open Go.RowKit

/-- Ranges as cells. -/
def rcl : List (Int × Int) → List Value
  | [] => []
  | p :: l => .int .i64 p.1 :: .int .i64 p.2 :: rcl l
theorem rcl_app (a b : List (Int × Int)) : rcl (a ++ b) = rcl a ++ rcl b := by
  induction a with
  | nil => rfl
  | cons p a ih => show _ :: _ :: rcl (a ++ b) = _ :: _ :: (rcl a ++ rcl b); rw [ih]
theorem rcl_at : ∀ (l : List (Int × Int)) (j : Nat), j < l.length → (rcl l)[j * 2]? = some (.int .i64 (rgz l j).1) ∧ (rcl l)[j * 2 + 1]? = some (.int .i64 (rgz l j).2)
  | [], j, h => absurd h (Nat.not_lt_zero j)
  | p :: l, 0, _ => ⟨rfl, rfl⟩
  | p :: l, j + 1, h => by
    have ih := rcl_at l j (by simpa using h)
    have e1 : (j + 1) * 2 = j * 2 + 1 + 1 := by omega
    rw [e1]
    show (rcl l)[j * 2]? = some (.int .i64 (rgz l j).1) ∧ (rcl l)[j * 2 + 1]? = some (.int .i64 (rgz l j).2)
    exact ih
theorem Rg.of_own {w : World} {base : Nat} {e : TypeId} {rs : List (Int × Int)} {sp : Option Addr} {n c : Nat} (h : w.ownsRow base e 2 (.slice sp n c) n (rcl rs)) : Rg w sp rs := fun j hj => by
  have h1 := rcl_at rs j hj
  rcases h.2 with ⟨hv, h0⟩ | ⟨g, cap, cur, hv, _⟩
  · have hl := h.1
    rw [h0] at hl
    have : rcl rs = [] := List.eq_nil_of_length_eq_zero (by omega)
    rw [this] at h1
    cases h1.1
  · injection hv with e1 e2 e3
    subst e1
    refine ⟨_, rfl, World.ownsRow.cells h (g := g) rfl _ _ h1.1, ?_⟩
    rw [Addr.add_add]
    exact World.ownsRow.cells h (g := g) rfl _ _ h1.2
theorem ranges_many : Many Try.prog 43 (.agg #[.int .i64 0, .int .i64 0]) 16 2 := ⟨by kernel_rfl⟩
theorem own_nil_le {w : World} {base size n : Nat} {e : TypeId} {sp : Option Addr} {c : Nat} {xs : List Value} (h : w.ownsRow base e size (.slice sp n c) n xs) : n ≤ c ∧ (sp = none → c = 0) ∧ ∀ ad, sp = some ad → base ≤ ad.block := by
  rcases h.2 with ⟨hv, h0⟩ | ⟨g, cap, cur, hv, hb, _, h5, _⟩
  · injection hv with e1 e2 e3
    subst e1 e3
    exact ⟨by omega, fun _ => rfl, fun _ e => by cases e⟩
  · injection hv with e1 e2 e3
    subst e1 e3
    exact ⟨h5, fun e => (by cases e), fun ad e => by injection e with e; subst e; exact hb⟩
theorem own_slice {w : World} {base size n : Nat} {e : TypeId} {v : Value} {xs : List Value} (h : w.ownsRow base e size v n xs) : ∃ sp c, v = .slice sp n c := by
  rcases h.2 with ⟨hv, h0⟩ | ⟨g, cap, cur, hv, _⟩
  · subst h0; exact ⟨_, _, hv⟩
  · exact ⟨_, _, hv⟩
def rdk (rs : List (Int × Int)) : Except Int (List (Int × Int) × List Int) → Except Int (List (Int × Int) × List Int)
  | .error e => .error e
  | .ok (q, r) => .ok (rs ++ q, r)
theorem rdk_nil (x : Except Int (List (Int × Int) × List Int)) : rdk [] x = x := by
  rcases x with e | ⟨q, r⟩ <;> rfl
theorem rdk_one (rs : List (Int × Int)) (p : Int × Int) (x : Except Int (List (Int × Int) × List Int)) : rdk rs (rcons p x) = rdk (rs ++ [p]) x := by
  rcases x with e | ⟨q, r⟩
  · rfl
  · show Except.ok (rs ++ p :: q, r) = Except.ok (rs ++ [p] ++ q, r)
    rw [List.append_assoc]
    rfl
end Go.Proofs.Yteaamgjlkohfcaa

namespace Go.Proofs.Yteaamgjlkohfcaa
open Go.RowKit

/-- A frame with where its ranges and its bytes lie. -/
structure Dt where
  f : Frm
  rp : Option Addr
  rc : Nat
  bp : Option Addr
  bc : Nat
def dcl : List Dt → List Value
  | [] => []
  | d :: l => fcs d.f d.rp d.rc d.bp d.bc ++ dcl l
theorem dcl_app (a b : List Dt) : dcl (a ++ b) = dcl a ++ dcl b := by
  induction a with
  | nil => rfl
  | cons d a ih => show fcs _ _ _ _ _ ++ dcl (a ++ b) = _; rw [ih, ← List.append_assoc]; rfl
theorem dcl_at : ∀ (l : List Dt) (j : Nat) (d : Dt) (k : Nat) (v : Value), l[j]? = some d → (fcs d.f d.rp d.rc d.bp d.bc)[k]? = some v → (dcl l)[j * 13 + k]? = some v
  | [], j, d, k, v, h, _ => by simp at h
  | e :: l, 0, d, k, v, h, hv => by
    injection h with h
    subst h
    have hk : k < 13 := by
      rcases Nat.lt_or_ge k 13 with h' | h'
      · exact h'
      · rw [List.getElem?_eq_none (by exact h')] at hv; cases hv
    rw [Nat.zero_mul, Nat.zero_add]
    show (fcs _ _ _ _ _ ++ dcl l)[k]? = some v
    rw [List.getElem?_append_left (by exact hk)]
    exact hv
  | e :: l, j + 1, d, k, v, h, hv => by
    have ih := dcl_at l j d k v h hv
    show (fcs _ _ _ _ _ ++ dcl l)[(j + 1) * 13 + k]? = some v
    rw [List.getElem?_append_right (by show 13 ≤ _; omega), show (j + 1) * 13 + k - (fcs e.f e.rp e.rc e.bp e.bc).length = j * 13 + k by show (j + 1) * 13 + k - 13 = _; omega]
    exact ih
theorem Frs.of_own {w : World} {base : Nat} {e : TypeId} {ds : List Dt} {sp : Option Addr} {n c : Nat} (h : w.ownsRow base e 13 (.slice sp n c) n (dcl ds)) (hd : ∀ d ∈ ds, FV w d.f d.rp d.rc d.bp d.bc) : Frs w sp (ds.map (·.f)) := fun j f hj => by
  rw [List.getElem?_map] at hj
  obtain ⟨d, hd1, rfl⟩ := Option.map_eq_some_iff.1 hj
  have h0 := dcl_at ds j d 0 _ hd1 rfl
  rcases h.2 with ⟨hv, h0'⟩ | ⟨g, cap, cur, hv, _⟩
  · have hl := h.1
    rw [h0'] at hl
    have : dcl ds = [] := List.eq_nil_of_length_eq_zero (by omega)
    rw [this] at h0
    cases h0
  · injection hv with e1 e2 e3
    subst e1
    refine ⟨_, d.rp, d.rc, d.bp, d.bc, rfl, fun k v hk => ?_, hd d (List.mem_of_getElem? hd1)⟩
    rw [Addr.add_add]
    exact World.ownsRow.cells h (g := g) rfl _ _ (dcl_at ds j d k v hd1 hk)
theorem frames_many : Many Try.prog 26 (.agg #[.int .i64 0, .int .i64 0, .int .i64 0, .slice none 0 0, .slice none 0 0, .int .u8 0, .int .u8 0, .int .u8 0, .int .u8 0, .int .u8 0, .int .u8 0, .int .u8 0, .int .u8 0]) 80 13 := ⟨by kernel_rfl⟩
def ob : Option Addr → List Nat
  | some a => [a.block]
  | none => []
theorem ob_own (sp : Option Addr) (n c : Nat) (b : Nat) : (Value.slice sp n c).ownBlock = some b ↔ b ∈ ob sp := by
  cases sp with
  | none => exact ⟨fun h => (by cases h), fun h => (by cases h)⟩
  | some a =>
    constructor
    · intro h; injection h with h; subst h; exact List.mem_cons_self
    · intro h; obtain rfl := List.mem_singleton.1 h; rfl
def dck (fs : List Frm) : Except Int (List Frm) → Except Int (List Frm)
  | .error e => .error e
  | .ok q => .ok (fs ++ q)
def dcons (f : Frm) : Except Int (List Frm) → Except Int (List Frm)
  | .error e => .error e
  | .ok q => .ok (f :: q)
theorem dck_nil (x : Except Int (List Frm)) : dck [] x = x := by cases x <;> rfl
theorem dck_one (fs : List Frm) (f : Frm) (x : Except Int (List Frm)) : dck fs (dcons f x) = dck (fs ++ [f]) x := by
  cases x with
  | error e => rfl
  | ok q => show Except.ok (fs ++ f :: q) = Except.ok (fs ++ [f] ++ q); rw [List.append_assoc]; rfl
theorem dc_kind {n : Nat} {k : Int} {b : List Int} (h : k < 1 ∨ 7 < k) : dc (n + 1) (k :: b) = .error 100 := by unfold dc; rw [if_pos h]
theorem dc_err {n : Nat} {k : Int} {b : List Int} {e : Int} (h : ¬ (k < 1 ∨ 7 < k)) (h2 : fp k b = .error e) : dc (n + 1) (k :: b) = .error e := by unfold dc; rw [if_neg h, h2]
theorem dc_bad {n : Nat} {k : Int} {b r : List Int} {f : Frm} (h : ¬ (k < 1 ∨ 7 < k)) (h2 : fp k b = .ok (f, r)) (h3 : fok f = false) : dc (n + 1) (k :: b) = .error 100 := by unfold dc; rw [if_neg h, h2]; simp only; rw [if_pos h3]
theorem dc_one {n : Nat} {k : Int} {b r : List Int} {f : Frm} (h : ¬ (k < 1 ∨ 7 < k)) (h2 : fp k b = .ok (f, r)) (h3 : fok f = true) : dc (n + 1) (k :: b) = dcons f (dc n r) := by
  generalize hx : dc n r = x
  unfold dc
  rw [if_neg h, h2]
  simp only
  rw [h3, if_neg (by decide), hx]
  cases x <;> rfl
theorem dc_end (n : Nat) : dc n [] = .ok [] := by cases n <;> rfl
end Go.Proofs.Yteaamgjlkohfcaa

namespace Go.Proofs.Yteaamgjlkohfcaa
open Go.RowKit

theorem bl_tail (x : Int) (t : List Int) (j : Nat) : bl (x :: t) (1 + j) = bl t j := by rw [Nat.add_comm]; rfl
theorem ob_lt {w : World} {base size n : Nat} {e : TypeId} {vp : Option Addr} {vc : Nat} {xs : List Value} (h : w.ownsRow base e size (.slice vp n vc) n xs) : ∀ x ∈ ob vp, base ≤ x ∧ x < w.heap.size := fun x hx => World.ownsRow.lt h x ((ob_own vp n vc x).2 hx)

end Go.Proofs.Yteaamgjlkohfcaa

namespace Go.Proofs.Yteaamgjlkohfcaa
open Go.RowKit

theorem Mm.boxC {w0 w : World} {l : List (Nat × List Value)} (h : Mm w0 l w) (c : Array Value) (t : TypeId) (f : Nat × Nat) (b : Nat) (hb : b = w.heap.size) (hf : c.size ≤ f.1) : Mm w0 ((b, c.toList) :: l) (w.alloc (.cells c t f)) := by
  subst hb
  have hc := h.call ((Below.refl w.heap.size w).alloc (Nat.le_refl _) (.cells c t f))
  refine ⟨fun p hp => ?_, List.pairwise_cons.2 ⟨fun q hq e => ?_, h.apart⟩, hc.below⟩
  · rcases List.mem_cons.1 hp with rfl | hp
    · have e : (w.alloc (.cells c t f)).heap[w.heap.size]? = some (.cells c t f) := by
        show (w.heap.push _)[w.heap.size]? = _
        simp
      refine ⟨fun j hj => ⟨?_, ?_⟩, h.below.size, by simp⟩
      · simp only [World.cell?, e]
        simp
      · have : j < c.size := by simpa using hj
        unfold World.frozen?
        rw [e]
        simp
        omega
    · exact hc.rows p hp
  · have := (h.rows q hq).2.2
    simp only at e
    omega
theorem Mm.src {w0 w : World} {l : List (Nat × List Value)} (h : Mm w0 l w) {b : Nat} {cs : List Value} (hp : (b, cs) ∈ l) (bs : List Int) (hc : cs = bs.map (Value.int .u8)) : Src w (some ⟨b, 0, none⟩) bs.length (bl bs) := fun j hj => ⟨_, rfl, by
  rw [Addr.add_mid, Nat.zero_add]
  refine h.get hp j _ ?_
  rw [hc, List.getElem?_map, List.getElem?_eq_getElem hj]
  show some (Value.int .u8 bs[j]) = _
  unfold bl
  rw [List.getD_eq_getElem?_getD, List.getElem?_eq_getElem hj]
  rfl⟩
theorem Mm.frs {w0 w : World} {l : List (Nat × List Value)} (h : Mm w0 l w) {b : Nat} {cs : List Value} (hp : (b, cs) ∈ l) (ds : List Dt) (hc : cs = dcl ds) (hd : ∀ d ∈ ds, FV w d.f d.rp d.rc d.bp d.bc) : Frs w (some ⟨b, 0, none⟩) (ds.map (·.f)) := fun j f hj => by
  rw [List.getElem?_map] at hj
  obtain ⟨d, hd1, rfl⟩ := Option.map_eq_some_iff.1 hj
  refine ⟨_, d.rp, d.rc, d.bp, d.bc, rfl, fun k v hk => ?_, hd d (List.mem_of_getElem? hd1)⟩
  rw [Addr.add_add, Addr.add_mid, Nat.zero_add]
  exact h.get hp _ v (by rw [hc]; exact dcl_at ds j d k v hd1 hk)
theorem Mm.rg {w0 w : World} {l : List (Nat × List Value)} (h : Mm w0 l w) {b : Nat} {cs : List Value} (hp : (b, cs) ∈ l) (rs : List (Int × Int)) (hc : cs = rcl rs) : Rg w (some ⟨b, 0, none⟩) rs := fun j hj => by
  have h1 := rcl_at rs j hj
  rw [← hc] at h1
  exact ⟨_, rfl, by rw [Addr.add_mid, Nat.zero_add]; exact h.get hp _ _ h1.1, by rw [Addr.add_add, Addr.add_mid, Nat.zero_add]; exact h.get hp _ _ h1.2⟩
theorem exL_ok {α : Type} (l : List α) : exL (Except.ok l) = l := rfl
theorem exE_ok {α : Type} (l : α) : exE (Except.ok l) = 0 := rfl
theorem exL_er {α : Type} (e : Int) : exL (Except.error e : Except Int (List α)) = [] := rfl
theorem exE_er {α : Type} (e : Int) : exE (Except.error e : Except Int α) = e := rfl
theorem en_ne {l : List Frm} {e : Int} (h : en l = .error e) : e ≠ 0 := by
  unfold en at h
  split at h
  · injection h with h; subst h; decide
  · split at h
    · injection h with h; subst h; decide
    · split at h
      · injection h with h; subst h; decide
      · cases h
theorem en_ok {l : List Frm} {x : List Int} (h : en l = .ok x) : l.length ≤ 16 ∧ l.all fok = true ∧ x = enb l ∧ x.length ≤ 256 := by
  unfold en at h
  split at h
  · cases h
  · split at h
    · cases h
    · split at h
      · cases h
      · rename_i h1 h2 h3
        injection h with h
        subst h
        exact ⟨by omega, by simpa using h2, rfl, by omega⟩
theorem ren_byts : ∀ (l : List (Int × Int)) (fr : Int) (ab : Bool) (up : Int), 0 ≤ fr → up ≤ MX → rok l fr ab up = true → Byts (ren l fr)
  | [], _, _, _, _, _, _ => fun x hx => by cases hx
  | p :: l, fr, ab, up, h0, hu, h => by
    obtain ⟨h1, h2, h3, h4⟩ := rok_cons h
    unfold MX at hu
    exact (vlst_byts _ (by omega)).app ((vlst_byts _ (by omega)).app (ren_byts l p.2 true up (by omega) hu h4))
theorem one_byts (k : Int) (hk : 0 ≤ k ∧ k < 256) {b : List Int} (h : Byts b) : Byts (k :: b) := fun x hx => by
  rcases List.mem_cons.1 hx with rfl | hx
  · exact hk
  · exact h x hx
theorem fen_byts (f : Frm) (h : Ok f) (hw : FrW f) : Byts (fen f) := by
  have nilB : Byts [] := fun x hx => by cases hx
  cases h using Ok.elim with
  | data a t h h1 h2 => exact one_byts 1 (by omega) ((vlst_byts a.toNat (by omega)).app ((vlst_byts t.length (by omega)).app hw.byt))
  | ack a l rs h hl hr h8 => exact one_byts 2 (by omega) ((vlst_byts a.toNat (by omega)).app ((vlst_byts l.toNat (by omega)).app ((vlst_byts rs.length (by omega)).app (ren_byts rs a true MX (by omega) (Int.le_refl _) hr))))
  | tok k t hk =>
    refine one_byts k (by omega) ?_
    show Byts (fbo ⟨k, 0, 0, [], [], t⟩)
    unfold fbo
    rw [if_pos hk]
    exact hw.tok
  | upd a h => exact one_byts 5 (by omega) ((vlst_byts a.toNat (by omega)).app nilB)
  | close a h => exact one_byts 6 (by omega) ((vlst_byts a.toNat (by omega)).app nilB)
  | got a l rs h hl hr h8 => exact one_byts 7 (by omega) ((vlst_byts a.toNat (by omega)).app ((vlst_byts l.toNat (by omega)).app ((vlst_byts rs.length (by omega)).app (ren_byts rs 0 false a (by omega) (by unfold MX; omega) hr))))
theorem enb_byts : ∀ (l : List Frm), l.all fok = true → (∀ f ∈ l, FrW f) → Byts (enb l)
  | [], _, _ => fun x hx => by cases hx
  | f :: l, h, hw => by
    rw [List.all_cons, Bool.and_eq_true] at h
    exact (fen_byts f ((fok_iff f).1 h.1) (hw f List.mem_cons_self)).app (enb_byts l h.2 fun g hg => hw g (List.mem_cons_of_mem _ hg))
theorem en_byts {l : List Frm} {x : List Int} (hw : ∀ f ∈ l, FrW f) (h : en l = .ok x) : Byts x := by
  obtain ⟨_, h2, h3, _⟩ := en_ok h
  rw [h3]
  exact enb_byts l h2 hw
set_option maxRecDepth 10000 in
set_option maxHeartbeats 32000000 in
theorem shown10 (hE : EncodeOK) (hD : DecodeOK) (w : World) : Calls Try.prog 9 #[] w fun e w' => e = .returned (.bool true) ∧ Below w.heap.size w w' := by
  have M := Mm.init w
  go_enter Try.func9, Try.ntmps9
  go_upto_region 1 with fail
  refine wp_region_list ?_
  refine actL (w' := w.alloc (.cells #[.int .u8 97, .int .u8 98] 5)) (.slice (some ⟨w.heap.size, 0, none⟩) 2 2) rfl (by kernel_rfl) ?_
  simp only [aP, lI, l0, lS]
  refine actL (w' := w.alloc (.cells #[.int .u8 97, .int .u8 98] 5 ((#[.int .u8 97, .int .u8 98] : Array Value).size, (#[.int .u8 97, .int .u8 98] : Array Value).size + 1))) (.slice (some ⟨w.heap.size, 0, none⟩) 2 2) rfl (conv_const 23 5 #[.int .u8 97, .int .u8 98] 2 2 _ rfl rfl Try.underlying23 Try.underlying5) ?_
  simp only [aP, lI, l0, lS]
  replace M := M.boxC #[.int .u8 97, .int .u8 98] 5 (((#[.int .u8 97, .int .u8 98] : Array Value)).size, ((#[.int .u8 97, .int .u8 98] : Array Value)).size + 1) w.heap.size rfl (Nat.le_refl _)
  generalize w.alloc (.cells #[.int .u8 97, .int .u8 98] 5 ((#[.int .u8 97, .int .u8 98] : Array Value).size, (#[.int .u8 97, .int .u8 98] : Array Value).size + 1)) = w1 at M  ⊢
  generalize w.heap.size = B1 at *
  replace M : Mm w [(B1, [.int .u8 97, .int .u8 98])] w1 := M
  refine readL (.agg #[.int .i64 1, .int .i64 5, .int .i64 0, .slice none 0 0, .slice (some ⟨B1, 0, none⟩) 2 2, .int .u8 0, .int .u8 0, .int .u8 0, .int .u8 0, .int .u8 0, .int .u8 0, .int .u8 0, .int .u8 0]) rfl (by kernel_rfl) ?_
  simp only [aP, lI, l0, lS]
  refine readL (.agg #[.int .i64 6, .int .i64 7, .int .i64 0, .slice none 0 0, .slice none 0 0, .int .u8 0, .int .u8 0, .int .u8 0, .int .u8 0, .int .u8 0, .int .u8 0, .int .u8 0, .int .u8 0]) rfl (by kernel_rfl) ?_
  simp only [aP, lI, l0, lS]
  refine actL (w' := w1.alloc (.cells #[.int .i64 1, .int .i64 5, .int .i64 0, .slice none 0 0, .slice (some ⟨B1, 0, none⟩) 2 2, .int .u8 0, .int .u8 0, .int .u8 0, .int .u8 0, .int .u8 0, .int .u8 0, .int .u8 0, .int .u8 0, .int .i64 6, .int .i64 7, .int .i64 0, .slice none 0 0, .slice none 0 0, .int .u8 0, .int .u8 0, .int .u8 0, .int .u8 0, .int .u8 0, .int .u8 0, .int .u8 0, .int .u8 0] 26)) (.slice (some ⟨w1.heap.size, 0, none⟩) 2 2) rfl (by kernel_rfl) ?_
  simp only [aP, lI, l0, lS]
  replace M := M.box #[.int .i64 1, .int .i64 5, .int .i64 0, .slice none 0 0, .slice (some ⟨B1, 0, none⟩) 2 2, .int .u8 0, .int .u8 0, .int .u8 0, .int .u8 0, .int .u8 0, .int .u8 0, .int .u8 0, .int .u8 0, .int .i64 6, .int .i64 7, .int .i64 0, .slice none 0 0, .slice none 0 0, .int .u8 0, .int .u8 0, .int .u8 0, .int .u8 0, .int .u8 0, .int .u8 0, .int .u8 0, .int .u8 0] 26 w1.heap.size rfl
  generalize w1.alloc (.cells #[.int .i64 1, .int .i64 5, .int .i64 0, .slice none 0 0, .slice (some ⟨B1, 0, none⟩) 2 2, .int .u8 0, .int .u8 0, .int .u8 0, .int .u8 0, .int .u8 0, .int .u8 0, .int .u8 0, .int .u8 0, .int .i64 6, .int .i64 7, .int .i64 0, .slice none 0 0, .slice none 0 0, .int .u8 0, .int .u8 0, .int .u8 0, .int .u8 0, .int .u8 0, .int .u8 0, .int .u8 0, .int .u8 0] 26) = w2 at M  ⊢
  generalize w1.heap.size = B2 at *
  replace M : Mm w [(B2, [.int .i64 1, .int .i64 5, .int .i64 0, .slice none 0 0, .slice (some ⟨B1, 0, none⟩) 2 2, .int .u8 0, .int .u8 0, .int .u8 0, .int .u8 0, .int .u8 0, .int .u8 0, .int .u8 0, .int .u8 0, .int .i64 6, .int .i64 7, .int .i64 0, .slice none 0 0, .slice none 0 0, .int .u8 0, .int .u8 0, .int .u8 0, .int .u8 0, .int .u8 0, .int .u8 0, .int .u8 0, .int .u8 0]), (B1, [.int .u8 97, .int .u8 98])] w2 := M
  have hF : Frs w2 (some ⟨B2, 0, none⟩) [⟨1, 5, 0, [], [97, 98], z8⟩, ⟨6, 7, 0, [], [], z8⟩] := M.frs List.mem_cons_self [⟨⟨1, 5, 0, [], [97, 98], z8⟩, none, 0, some ⟨B1, 0, none⟩, 2⟩, ⟨⟨6, 7, 0, [], [], z8⟩, none, 0, none, 0⟩] rfl (fun d hd => by
    rcases List.mem_cons.1 hd with rfl | hd
    · exact ⟨fun j hj => absurd hj (Nat.not_lt_zero j), Nat.le_refl _, fun _ => rfl, Nat.zero_le _, M.src (List.mem_cons_of_mem _ List.mem_cons_self) [97, 98] rfl, Nat.le_refl _, fun e => (by cases e), show (2 : Nat) ≤ 140737488351232 by decide, ⟨show Byts [97, 98] by intro x hx; simp at hx; omega, z8_w, rfl⟩, show i64 1 by unfold i64; decide, show i64 5 by unfold i64; decide, show i64 0 by unfold i64; decide⟩
    · obtain rfl := List.mem_singleton.1 hd
      exact fv_nil _ _ _ _ (by unfold i64; decide) (by unfold i64; decide) z8_w rfl)
  refine callL rfl (fun _ => by kernel_rfl) (hE (some ⟨B2, 0, none⟩) 2 ([⟨1, 5, 0, [], [97, 98], z8⟩, ⟨6, 7, 0, [], [], z8⟩]) _ (by decide) (by decide) (fun e => by cases e) hF) ?_
  rintro e w3 ⟨⟨v3, rfl, O_3⟩, l⟩
  replace M := M.call l
  clear l
  rw [show en ([⟨1, 5, 0, [], [97, 98], z8⟩, ⟨6, 7, 0, [], [], z8⟩]) = Except.ok [1, 5, 2, 97, 98, 6, 7] from by kernel_rfl] at O_3
  rw [show exE (en ([⟨1, 5, 0, [], [97, 98], z8⟩, ⟨6, 7, 0, [], [], z8⟩])) = 0 from by kernel_rfl]
  obtain ⟨p3, c3, rfl, _, _⟩ := O_3.bytes
  refine ⟨_, rfl, ?_⟩
  simp only [aP, lI, l0, lS]
  refine readL (.tuple #[.slice p3 ((exL (Except.ok [1, 5, 2, 97, 98, 6, 7])).length) c3, .int .i64 0]) rfl (by kernel_rfl) ?_
  simp only [aP, lI, l0, lS]
  refine readL (.slice p3 ((exL (Except.ok [1, 5, 2, 97, 98, 6, 7])).length) c3) rfl (by kernel_rfl) ?_
  simp only [aP, lI, l0, lS]
  refine readL (.int .i64 0) rfl (by kernel_rfl) ?_
  simp only [aP, lI, l0, lS]
  refine readL (.slice p3 ((exL (Except.ok [1, 5, 2, 97, 98, 6, 7])).length) c3) rfl (by kernel_rfl) ?_
  simp only [aP, lI, l0, lS]
  refine readL (.int .i64 0) rfl (by kernel_rfl) ?_
  simp only [aP, lI, l0, lS]
  first | show Exit.then _ _ _ _ _ | show Exit.inBlock _ _ _ _ _
  go_upto_region 2 with fail
  refine wp_region_list ?_
  refine readL (.agg #[.int .i64 6, .int .i64 8]) rfl (by kernel_rfl) ?_
  simp only [aP, lI, l0, lS]
  refine readL (.agg #[.int .i64 10, .int .i64 11]) rfl (by kernel_rfl) ?_
  simp only [aP, lI, l0, lS]
  refine actL (w' := w3.alloc (.cells #[.int .i64 6, .int .i64 8, .int .i64 10, .int .i64 11] 43)) (.slice (some ⟨w3.heap.size, 0, none⟩) 2 2) rfl (by kernel_rfl) ?_
  simp only [aP, lI, l0, lS]
  have hlb := (Below.refl w3.heap.size w3).alloc (Nat.le_refl _) (.cells #[.int .i64 6, .int .i64 8, .int .i64 10, .int .i64 11] 43)
  replace O_3 := O_3.below hlb
  clear hlb
  replace M := M.box #[.int .i64 6, .int .i64 8, .int .i64 10, .int .i64 11] 43 w3.heap.size rfl
  generalize w3.alloc (.cells #[.int .i64 6, .int .i64 8, .int .i64 10, .int .i64 11] 43) = w4 at M O_3 ⊢
  generalize w3.heap.size = B4 at *
  replace M : Mm w [(B4, [.int .i64 6, .int .i64 8, .int .i64 10, .int .i64 11]), (B2, [.int .i64 1, .int .i64 5, .int .i64 0, .slice none 0 0, .slice (some ⟨B1, 0, none⟩) 2 2, .int .u8 0, .int .u8 0, .int .u8 0, .int .u8 0, .int .u8 0, .int .u8 0, .int .u8 0, .int .u8 0, .int .i64 6, .int .i64 7, .int .i64 0, .slice none 0 0, .slice none 0 0, .int .u8 0, .int .u8 0, .int .u8 0, .int .u8 0, .int .u8 0, .int .u8 0, .int .u8 0, .int .u8 0]), (B1, [.int .u8 97, .int .u8 98])] w4 := M
  refine readL (.agg #[.int .i64 2, .int .i64 5, .int .i64 9, .slice (some ⟨B4, 0, none⟩) 2 2, .slice none 0 0, .int .u8 0, .int .u8 0, .int .u8 0, .int .u8 0, .int .u8 0, .int .u8 0, .int .u8 0, .int .u8 0]) rfl (by kernel_rfl) ?_
  simp only [aP, lI, l0, lS]
  refine actL (w' := w4.alloc (.cells #[.int .i64 2, .int .i64 5, .int .i64 9, .slice (some ⟨B4, 0, none⟩) 2 2, .slice none 0 0, .int .u8 0, .int .u8 0, .int .u8 0, .int .u8 0, .int .u8 0, .int .u8 0, .int .u8 0, .int .u8 0] 26)) (.slice (some ⟨w4.heap.size, 0, none⟩) 1 1) rfl (by kernel_rfl) ?_
  simp only [aP, lI, l0, lS]
  have hlb := (Below.refl w4.heap.size w4).alloc (Nat.le_refl _) (.cells #[.int .i64 2, .int .i64 5, .int .i64 9, .slice (some ⟨B4, 0, none⟩) 2 2, .slice none 0 0, .int .u8 0, .int .u8 0, .int .u8 0, .int .u8 0, .int .u8 0, .int .u8 0, .int .u8 0, .int .u8 0] 26)
  replace O_3 := O_3.below hlb
  clear hlb
  replace M := M.box #[.int .i64 2, .int .i64 5, .int .i64 9, .slice (some ⟨B4, 0, none⟩) 2 2, .slice none 0 0, .int .u8 0, .int .u8 0, .int .u8 0, .int .u8 0, .int .u8 0, .int .u8 0, .int .u8 0, .int .u8 0] 26 w4.heap.size rfl
  generalize w4.alloc (.cells #[.int .i64 2, .int .i64 5, .int .i64 9, .slice (some ⟨B4, 0, none⟩) 2 2, .slice none 0 0, .int .u8 0, .int .u8 0, .int .u8 0, .int .u8 0, .int .u8 0, .int .u8 0, .int .u8 0, .int .u8 0] 26) = w5 at M O_3 ⊢
  generalize w4.heap.size = B5 at *
  replace M : Mm w [(B5, [.int .i64 2, .int .i64 5, .int .i64 9, .slice (some ⟨B4, 0, none⟩) 2 2, .slice none 0 0, .int .u8 0, .int .u8 0, .int .u8 0, .int .u8 0, .int .u8 0, .int .u8 0, .int .u8 0, .int .u8 0]), (B4, [.int .i64 6, .int .i64 8, .int .i64 10, .int .i64 11]), (B2, [.int .i64 1, .int .i64 5, .int .i64 0, .slice none 0 0, .slice (some ⟨B1, 0, none⟩) 2 2, .int .u8 0, .int .u8 0, .int .u8 0, .int .u8 0, .int .u8 0, .int .u8 0, .int .u8 0, .int .u8 0, .int .i64 6, .int .i64 7, .int .i64 0, .slice none 0 0, .slice none 0 0, .int .u8 0, .int .u8 0, .int .u8 0, .int .u8 0, .int .u8 0, .int .u8 0, .int .u8 0, .int .u8 0]), (B1, [.int .u8 97, .int .u8 98])] w5 := M
  have hF : Frs w5 (some ⟨B5, 0, none⟩) [⟨2, 5, 9, [(6, 8), (10, 11)], [], z8⟩] := M.frs List.mem_cons_self [⟨⟨2, 5, 9, [(6, 8), (10, 11)], [], z8⟩, some ⟨B4, 0, none⟩, 2, none, 0⟩] rfl (fun d hd => by
    obtain rfl := List.mem_singleton.1 hd
    exact ⟨M.rg (List.mem_cons_of_mem _ List.mem_cons_self) [(6, 8), (10, 11)] rfl, Nat.le_refl _, fun e => (by cases e), show (2 : Nat) ≤ 140737488351232 by decide, fun j hj => absurd hj (Nat.not_lt_zero j), Nat.le_refl _, fun _ => rfl, Nat.zero_le _, ⟨fun x hx => (by cases hx), z8_w, rfl⟩, show i64 2 by unfold i64; decide, show i64 5 by unfold i64; decide, show i64 9 by unfold i64; decide⟩)
  refine callL rfl (fun _ => by kernel_rfl) (hE (some ⟨B5, 0, none⟩) 1 ([⟨2, 5, 9, [(6, 8), (10, 11)], [], z8⟩]) _ (by decide) (by decide) (fun e => by cases e) hF) ?_
  rintro e w6 ⟨⟨v6, rfl, O_6⟩, l⟩
  replace M := M.call l
  replace O_3 := O_3.below l
  clear l
  rw [show en ([⟨2, 5, 9, [(6, 8), (10, 11)], [], z8⟩]) = Except.ok [2, 5, 9, 2, 1, 2, 2, 1] from by kernel_rfl] at O_6
  rw [show exE (en ([⟨2, 5, 9, [(6, 8), (10, 11)], [], z8⟩])) = 0 from by kernel_rfl]
  obtain ⟨p6, c6, rfl, _, _⟩ := O_6.bytes
  refine ⟨_, rfl, ?_⟩
  simp only [aP, lI, l0, lS]
  refine readL (.tuple #[.slice p6 ((exL (Except.ok [2, 5, 9, 2, 1, 2, 2, 1])).length) c6, .int .i64 0]) rfl (by kernel_rfl) ?_
  simp only [aP, lI, l0, lS]
  refine readL (.slice p6 ((exL (Except.ok [2, 5, 9, 2, 1, 2, 2, 1])).length) c6) rfl (by kernel_rfl) ?_
  simp only [aP, lI, l0, lS]
  refine readL (.int .i64 0) rfl (by kernel_rfl) ?_
  simp only [aP, lI, l0, lS]
  refine readL (.slice p6 ((exL (Except.ok [2, 5, 9, 2, 1, 2, 2, 1])).length) c6) rfl (by kernel_rfl) ?_
  simp only [aP, lI, l0, lS]
  refine readL (.int .i64 0) rfl (by kernel_rfl) ?_
  simp only [aP, lI, l0, lS]
  first | show Exit.then _ _ _ _ _ | show Exit.inBlock _ _ _ _ _
  go_upto_region 3 with fail
  refine wp_region_list ?_
  refine actL (w' := w6.alloc (.cells #[.int .u8 1, .int .u8 5, .int .u8 0] 5)) (.slice (some ⟨w6.heap.size, 0, none⟩) 3 3) rfl (by kernel_rfl) ?_
  simp only [aP, lI, l0, lS]
  have hlb := (Below.refl w6.heap.size w6).alloc (Nat.le_refl _) (.cells #[.int .u8 1, .int .u8 5, .int .u8 0] 5)
  replace O_3 := O_3.below hlb
  replace O_6 := O_6.below hlb
  clear hlb
  replace M := M.box #[.int .u8 1, .int .u8 5, .int .u8 0] 5 w6.heap.size rfl
  generalize w6.alloc (.cells #[.int .u8 1, .int .u8 5, .int .u8 0] 5) = w7 at M O_3 O_6 ⊢
  generalize w6.heap.size = B7 at *
  replace M : Mm w [(B7, [.int .u8 1, .int .u8 5, .int .u8 0]), (B5, [.int .i64 2, .int .i64 5, .int .i64 9, .slice (some ⟨B4, 0, none⟩) 2 2, .slice none 0 0, .int .u8 0, .int .u8 0, .int .u8 0, .int .u8 0, .int .u8 0, .int .u8 0, .int .u8 0, .int .u8 0]), (B4, [.int .i64 6, .int .i64 8, .int .i64 10, .int .i64 11]), (B2, [.int .i64 1, .int .i64 5, .int .i64 0, .slice none 0 0, .slice (some ⟨B1, 0, none⟩) 2 2, .int .u8 0, .int .u8 0, .int .u8 0, .int .u8 0, .int .u8 0, .int .u8 0, .int .u8 0, .int .u8 0, .int .i64 6, .int .i64 7, .int .i64 0, .slice none 0 0, .slice none 0 0, .int .u8 0, .int .u8 0, .int .u8 0, .int .u8 0, .int .u8 0, .int .u8 0, .int .u8 0, .int .u8 0]), (B1, [.int .u8 97, .int .u8 98])] w7 := M
  refine callL rfl (fun _ => by kernel_rfl) (hD (some ⟨B7, 0, none⟩) 3 ([1, 5, 0]) _ (by decide) (by decide) (fun e => by cases e) (by intro x hx; simp at hx; omega) (M.src List.mem_cons_self [1, 5, 0] rfl)) ?_
  rintro e w8 ⟨⟨p8, c8, rfl, hle8, hnil8, F_8⟩, l⟩
  replace M := M.call l
  replace O_3 := O_3.below l
  replace O_6 := O_6.below l
  clear l
  rw [show de ([1, 5, 0]) = .error 100 from by kernel_rfl] at F_8 hle8
  rw [show de ([1, 5, 0]) = .error 100 from by kernel_rfl]
  refine ⟨_, rfl, ?_⟩
  simp only [aP, lI, l0, lS]
  refine readL (.tuple #[.slice p8 ((exL (.error 100 : Except Int (List Frm))).length) c8, .int .i64 100]) rfl (by kernel_rfl) ?_
  simp only [aP, lI, l0, lS]
  refine readL (.slice p8 ((exL (.error 100 : Except Int (List Frm))).length) c8) rfl (by kernel_rfl) ?_
  simp only [aP, lI, l0, lS]
  refine readL (.int .i64 100) rfl (by kernel_rfl) ?_
  simp only [aP, lI, l0, lS]
  refine readL (.slice p8 ((exL (.error 100 : Except Int (List Frm))).length) c8) rfl (by kernel_rfl) ?_
  simp only [aP, lI, l0, lS]
  refine readL (.int .i64 100) rfl (by kernel_rfl) ?_
  simp only [aP, lI, l0, lS]
  first | show Exit.then _ _ _ _ _ | show Exit.inBlock _ _ _ _ _
  go_upto_region 4 with fail
  refine wp_region_list ?_
  refine actL (w' := w8.alloc (.cells #[.int .u8 8] 5)) (.slice (some ⟨w8.heap.size, 0, none⟩) 1 1) rfl (by kernel_rfl) ?_
  simp only [aP, lI, l0, lS]
  have hlb := (Below.refl w8.heap.size w8).alloc (Nat.le_refl _) (.cells #[.int .u8 8] 5)
  replace O_3 := O_3.below hlb
  replace O_6 := O_6.below hlb
  replace F_8 := F_8.below hlb (Nat.le_refl _)
  clear hlb
  replace M := M.box #[.int .u8 8] 5 w8.heap.size rfl
  generalize w8.alloc (.cells #[.int .u8 8] 5) = w9 at M O_3 O_6 F_8 ⊢
  generalize w8.heap.size = B9 at *
  replace M : Mm w [(B9, [.int .u8 8]), (B7, [.int .u8 1, .int .u8 5, .int .u8 0]), (B5, [.int .i64 2, .int .i64 5, .int .i64 9, .slice (some ⟨B4, 0, none⟩) 2 2, .slice none 0 0, .int .u8 0, .int .u8 0, .int .u8 0, .int .u8 0, .int .u8 0, .int .u8 0, .int .u8 0, .int .u8 0]), (B4, [.int .i64 6, .int .i64 8, .int .i64 10, .int .i64 11]), (B2, [.int .i64 1, .int .i64 5, .int .i64 0, .slice none 0 0, .slice (some ⟨B1, 0, none⟩) 2 2, .int .u8 0, .int .u8 0, .int .u8 0, .int .u8 0, .int .u8 0, .int .u8 0, .int .u8 0, .int .u8 0, .int .i64 6, .int .i64 7, .int .i64 0, .slice none 0 0, .slice none 0 0, .int .u8 0, .int .u8 0, .int .u8 0, .int .u8 0, .int .u8 0, .int .u8 0, .int .u8 0, .int .u8 0]), (B1, [.int .u8 97, .int .u8 98])] w9 := M
  refine callL rfl (fun _ => by kernel_rfl) (hD (some ⟨B9, 0, none⟩) 1 ([8]) _ (by decide) (by decide) (fun e => by cases e) (by intro x hx; simp at hx; omega) (M.src List.mem_cons_self [8] rfl)) ?_
  rintro e w10 ⟨⟨p10, c10, rfl, hle10, hnil10, F_10⟩, l⟩
  replace M := M.call l
  replace O_3 := O_3.below l
  replace O_6 := O_6.below l
  replace F_8 := F_8.below l (Nat.le_refl _)
  clear l
  rw [show de ([8]) = .error 100 from by kernel_rfl] at F_10 hle10
  rw [show de ([8]) = .error 100 from by kernel_rfl]
  refine ⟨_, rfl, ?_⟩
  simp only [aP, lI, l0, lS]
  refine readL (.tuple #[.slice p10 ((exL (.error 100 : Except Int (List Frm))).length) c10, .int .i64 100]) rfl (by kernel_rfl) ?_
  simp only [aP, lI, l0, lS]
  refine readL (.slice p10 ((exL (.error 100 : Except Int (List Frm))).length) c10) rfl (by kernel_rfl) ?_
  simp only [aP, lI, l0, lS]
  refine readL (.int .i64 100) rfl (by kernel_rfl) ?_
  simp only [aP, lI, l0, lS]
  refine readL (.slice p10 ((exL (.error 100 : Except Int (List Frm))).length) c10) rfl (by kernel_rfl) ?_
  simp only [aP, lI, l0, lS]
  refine readL (.int .i64 100) rfl (by kernel_rfl) ?_
  simp only [aP, lI, l0, lS]
  first | show Exit.then _ _ _ _ _ | show Exit.inBlock _ _ _ _ _
  go_upto_region 5 with fail
  refine wp_region_list ?_
  refine actL (w' := w10.alloc (.cells #[.int .u8 6, .int .u8 64, .int .u8 7] 5)) (.slice (some ⟨w10.heap.size, 0, none⟩) 3 3) rfl (by kernel_rfl) ?_
  simp only [aP, lI, l0, lS]
  have hlb := (Below.refl w10.heap.size w10).alloc (Nat.le_refl _) (.cells #[.int .u8 6, .int .u8 64, .int .u8 7] 5)
  replace O_3 := O_3.below hlb
  replace O_6 := O_6.below hlb
  replace F_8 := F_8.below hlb (Nat.le_refl _)
  replace F_10 := F_10.below hlb (Nat.le_refl _)
  clear hlb
  replace M := M.box #[.int .u8 6, .int .u8 64, .int .u8 7] 5 w10.heap.size rfl
  generalize w10.alloc (.cells #[.int .u8 6, .int .u8 64, .int .u8 7] 5) = w11 at M O_3 O_6 F_8 F_10 ⊢
  generalize w10.heap.size = B11 at *
  replace M : Mm w [(B11, [.int .u8 6, .int .u8 64, .int .u8 7]), (B9, [.int .u8 8]), (B7, [.int .u8 1, .int .u8 5, .int .u8 0]), (B5, [.int .i64 2, .int .i64 5, .int .i64 9, .slice (some ⟨B4, 0, none⟩) 2 2, .slice none 0 0, .int .u8 0, .int .u8 0, .int .u8 0, .int .u8 0, .int .u8 0, .int .u8 0, .int .u8 0, .int .u8 0]), (B4, [.int .i64 6, .int .i64 8, .int .i64 10, .int .i64 11]), (B2, [.int .i64 1, .int .i64 5, .int .i64 0, .slice none 0 0, .slice (some ⟨B1, 0, none⟩) 2 2, .int .u8 0, .int .u8 0, .int .u8 0, .int .u8 0, .int .u8 0, .int .u8 0, .int .u8 0, .int .u8 0, .int .i64 6, .int .i64 7, .int .i64 0, .slice none 0 0, .slice none 0 0, .int .u8 0, .int .u8 0, .int .u8 0, .int .u8 0, .int .u8 0, .int .u8 0, .int .u8 0, .int .u8 0]), (B1, [.int .u8 97, .int .u8 98])] w11 := M
  refine callL rfl (fun _ => by kernel_rfl) (hD (some ⟨B11, 0, none⟩) 3 ([6, 64, 7]) _ (by decide) (by decide) (fun e => by cases e) (by intro x hx; simp at hx; omega) (M.src List.mem_cons_self [6, 64, 7] rfl)) ?_
  rintro e w12 ⟨⟨p12, c12, rfl, hle12, hnil12, F_12⟩, l⟩
  replace M := M.call l
  replace O_3 := O_3.below l
  replace O_6 := O_6.below l
  replace F_8 := F_8.below l (Nat.le_refl _)
  replace F_10 := F_10.below l (Nat.le_refl _)
  clear l
  rw [show de ([6, 64, 7]) = .error 90 from by kernel_rfl] at F_12 hle12
  rw [show de ([6, 64, 7]) = .error 90 from by kernel_rfl]
  refine ⟨_, rfl, ?_⟩
  simp only [aP, lI, l0, lS]
  refine readL (.tuple #[.slice p12 ((exL (.error 90 : Except Int (List Frm))).length) c12, .int .i64 90]) rfl (by kernel_rfl) ?_
  simp only [aP, lI, l0, lS]
  refine readL (.slice p12 ((exL (.error 90 : Except Int (List Frm))).length) c12) rfl (by kernel_rfl) ?_
  simp only [aP, lI, l0, lS]
  refine readL (.int .i64 90) rfl (by kernel_rfl) ?_
  simp only [aP, lI, l0, lS]
  refine readL (.slice p12 ((exL (.error 90 : Except Int (List Frm))).length) c12) rfl (by kernel_rfl) ?_
  simp only [aP, lI, l0, lS]
  refine readL (.int .i64 90) rfl (by kernel_rfl) ?_
  simp only [aP, lI, l0, lS]
  first | show Exit.then _ _ _ _ _ | show Exit.inBlock _ _ _ _ _
  go_upto_region 6 with fail
  refine wp_region_list ?_
  refine actL (w' := w12.alloc (.cells #[.int .u8 1, .int .u8 5, .int .u8 2, .int .u8 97] 5)) (.slice (some ⟨w12.heap.size, 0, none⟩) 4 4) rfl (by kernel_rfl) ?_
  simp only [aP, lI, l0, lS]
  have hlb := (Below.refl w12.heap.size w12).alloc (Nat.le_refl _) (.cells #[.int .u8 1, .int .u8 5, .int .u8 2, .int .u8 97] 5)
  replace O_3 := O_3.below hlb
  replace O_6 := O_6.below hlb
  replace F_8 := F_8.below hlb (Nat.le_refl _)
  replace F_10 := F_10.below hlb (Nat.le_refl _)
  replace F_12 := F_12.below hlb (Nat.le_refl _)
  clear hlb
  replace M := M.box #[.int .u8 1, .int .u8 5, .int .u8 2, .int .u8 97] 5 w12.heap.size rfl
  generalize w12.alloc (.cells #[.int .u8 1, .int .u8 5, .int .u8 2, .int .u8 97] 5) = w13 at M O_3 O_6 F_8 F_10 F_12 ⊢
  generalize w12.heap.size = B13 at *
  replace M : Mm w [(B13, [.int .u8 1, .int .u8 5, .int .u8 2, .int .u8 97]), (B11, [.int .u8 6, .int .u8 64, .int .u8 7]), (B9, [.int .u8 8]), (B7, [.int .u8 1, .int .u8 5, .int .u8 0]), (B5, [.int .i64 2, .int .i64 5, .int .i64 9, .slice (some ⟨B4, 0, none⟩) 2 2, .slice none 0 0, .int .u8 0, .int .u8 0, .int .u8 0, .int .u8 0, .int .u8 0, .int .u8 0, .int .u8 0, .int .u8 0]), (B4, [.int .i64 6, .int .i64 8, .int .i64 10, .int .i64 11]), (B2, [.int .i64 1, .int .i64 5, .int .i64 0, .slice none 0 0, .slice (some ⟨B1, 0, none⟩) 2 2, .int .u8 0, .int .u8 0, .int .u8 0, .int .u8 0, .int .u8 0, .int .u8 0, .int .u8 0, .int .u8 0, .int .i64 6, .int .i64 7, .int .i64 0, .slice none 0 0, .slice none 0 0, .int .u8 0, .int .u8 0, .int .u8 0, .int .u8 0, .int .u8 0, .int .u8 0, .int .u8 0, .int .u8 0]), (B1, [.int .u8 97, .int .u8 98])] w13 := M
  refine callL rfl (fun _ => by kernel_rfl) (hD (some ⟨B13, 0, none⟩) 4 ([1, 5, 2, 97]) _ (by decide) (by decide) (fun e => by cases e) (by intro x hx; simp at hx; omega) (M.src List.mem_cons_self [1, 5, 2, 97] rfl)) ?_
  rintro e w14 ⟨⟨p14, c14, rfl, hle14, hnil14, F_14⟩, l⟩
  replace M := M.call l
  replace O_3 := O_3.below l
  replace O_6 := O_6.below l
  replace F_8 := F_8.below l (Nat.le_refl _)
  replace F_10 := F_10.below l (Nat.le_refl _)
  replace F_12 := F_12.below l (Nat.le_refl _)
  clear l
  rw [show de ([1, 5, 2, 97]) = .error 3 from by kernel_rfl] at F_14 hle14
  rw [show de ([1, 5, 2, 97]) = .error 3 from by kernel_rfl]
  refine ⟨_, rfl, ?_⟩
  simp only [aP, lI, l0, lS]
  refine readL (.tuple #[.slice p14 ((exL (.error 3 : Except Int (List Frm))).length) c14, .int .i64 3]) rfl (by kernel_rfl) ?_
  simp only [aP, lI, l0, lS]
  refine readL (.slice p14 ((exL (.error 3 : Except Int (List Frm))).length) c14) rfl (by kernel_rfl) ?_
  simp only [aP, lI, l0, lS]
  refine readL (.int .i64 3) rfl (by kernel_rfl) ?_
  simp only [aP, lI, l0, lS]
  refine readL (.slice p14 ((exL (.error 3 : Except Int (List Frm))).length) c14) rfl (by kernel_rfl) ?_
  simp only [aP, lI, l0, lS]
  refine readL (.int .i64 3) rfl (by kernel_rfl) ?_
  simp only [aP, lI, l0, lS]
  first | show Exit.then _ _ _ _ _ | show Exit.inBlock _ _ _ _ _
  go_upto_region 7 with fail
  refine wp_region_list ?_
  refine readL (.slice p3 ((exL (Except.ok [1, 5, 2, 97, 98, 6, 7])).length) c3) rfl (by kernel_rfl) ?_
  simp only [aP, lI, l0, lS]
  refine readL (.string (txt ((exL (Except.ok [1, 5, 2, 97, 98, 6, 7])).length) (bl (exL (Except.ok [1, 5, 2, 97, 98, 6, 7]))))) rfl (conv_txt 23 5 9 _ rfl Try.underlying23 Try.underlying5 Try.underlying9 p3 ((exL (Except.ok [1, 5, 2, 97, 98, 6, 7])).length) c3 (bl (exL (Except.ok [1, 5, 2, 97, 98, 6, 7]))) rfl _ O_3.src (fun e => by have h1 := O_3.nilCap e; have h2 := O_3.le; omega)) ?_
  simp only [aP, lI, l0, lS]
  refine readL (.bool true) rfl (eqlS _ _ _ _ _ _ rfl rfl rfl (by kernel_rfl) _) ?_
  simp only [aP, lI, l0, lS]
  refine readL (.bool true) rfl (by kernel_rfl) ?_
  simp only [aP, lI, l0, lS]
  refine readL (.int .i64 0) rfl (by kernel_rfl) ?_
  simp only [aP, lI, l0, lS]
  refine readL (.bool true) rfl (eqlI .i64 _ _ _ _ _ _ rfl rfl rfl true (by decide) _) ?_
  simp only [aP, lI, l0, lS]
  refine readL (.bool true) rfl (by kernel_rfl) ?_
  simp only [aP, lI, l0, lS]
  refine readL (.bool true) rfl (by kernel_rfl) ?_
  simp only [aP, lI, l0, lS]
  refine readL (.slice p6 ((exL (Except.ok [2, 5, 9, 2, 1, 2, 2, 1])).length) c6) rfl (by kernel_rfl) ?_
  simp only [aP, lI, l0, lS]
  refine readL (.string (txt ((exL (Except.ok [2, 5, 9, 2, 1, 2, 2, 1])).length) (bl (exL (Except.ok [2, 5, 9, 2, 1, 2, 2, 1]))))) rfl (conv_txt 23 5 9 _ rfl Try.underlying23 Try.underlying5 Try.underlying9 p6 ((exL (Except.ok [2, 5, 9, 2, 1, 2, 2, 1])).length) c6 (bl (exL (Except.ok [2, 5, 9, 2, 1, 2, 2, 1]))) rfl _ O_6.src (fun e => by have h1 := O_6.nilCap e; have h2 := O_6.le; omega)) ?_
  simp only [aP, lI, l0, lS]
  refine readL (.bool true) rfl (eqlS _ _ _ _ _ _ rfl rfl rfl (by kernel_rfl) _) ?_
  simp only [aP, lI, l0, lS]
  refine readL (.bool true) rfl (by kernel_rfl) ?_
  simp only [aP, lI, l0, lS]
  refine readL (.bool true) rfl (by kernel_rfl) ?_
  simp only [aP, lI, l0, lS]
  refine readL (.int .i64 0) rfl (by kernel_rfl) ?_
  simp only [aP, lI, l0, lS]
  refine readL (.bool true) rfl (eqlI .i64 _ _ _ _ _ _ rfl rfl rfl true (by decide) _) ?_
  simp only [aP, lI, l0, lS]
  refine readL (.bool true) rfl (by kernel_rfl) ?_
  simp only [aP, lI, l0, lS]
  refine readL (.bool true) rfl (by kernel_rfl) ?_
  simp only [aP, lI, l0, lS]
  refine readL (.int .i64 100) rfl (by kernel_rfl) ?_
  simp only [aP, lI, l0, lS]
  refine readL (.bool true) rfl (eqlI .i64 _ _ _ _ _ _ rfl rfl rfl true (by decide) _) ?_
  simp only [aP, lI, l0, lS]
  refine readL (.bool true) rfl (by kernel_rfl) ?_
  simp only [aP, lI, l0, lS]
  refine readL (.bool true) rfl (by kernel_rfl) ?_
  simp only [aP, lI, l0, lS]
  refine readL (.int .i64 100) rfl (by kernel_rfl) ?_
  simp only [aP, lI, l0, lS]
  refine readL (.bool true) rfl (eqlI .i64 _ _ _ _ _ _ rfl rfl rfl true (by decide) _) ?_
  simp only [aP, lI, l0, lS]
  refine readL (.bool true) rfl (by kernel_rfl) ?_
  simp only [aP, lI, l0, lS]
  refine readL (.bool true) rfl (by kernel_rfl) ?_
  simp only [aP, lI, l0, lS]
  refine readL (.int .i64 90) rfl (by kernel_rfl) ?_
  simp only [aP, lI, l0, lS]
  refine readL (.bool true) rfl (eqlI .i64 _ _ _ _ _ _ rfl rfl rfl true (by decide) _) ?_
  simp only [aP, lI, l0, lS]
  refine readL (.bool true) rfl (by kernel_rfl) ?_
  simp only [aP, lI, l0, lS]
  refine readL (.bool true) rfl (by kernel_rfl) ?_
  simp only [aP, lI, l0, lS]
  refine readL (.int .i64 3) rfl (by kernel_rfl) ?_
  simp only [aP, lI, l0, lS]
  refine readL (.bool true) rfl (eqlI .i64 _ _ _ _ _ _ rfl rfl rfl true (by decide) _) ?_
  simp only [aP, lI, l0, lS]
  refine readL (.bool true) rfl (by kernel_rfl) ?_
  simp only [aP, lI, l0, lS]
  refine readL (.bool true) rfl (by kernel_rfl) ?_
  simp only [aP, lI, l0]
  first | show Exit.then _ _ _ _ _ | show Exit.inBlock _ _ _ _ _
  go_wp2
  go_ret
  exact ⟨rfl, M.below⟩
end Go.Proofs.Yteaamgjlkohfcaa

namespace Go.Proofs.Yteaamgjlkohfcaa
open Go.RowKit

set_option maxRecDepth 10000 in
set_option maxHeartbeats 32000000 in
theorem law_FramesCuts (_hCk : CheckOK) (_hSz : SizeOK) (hE : EncodeOK) (hD : DecodeOK) (f : Frm) (rp : Option Addr) (rc : Nat) (bp : Option Addr) (bc : Nat) (cut : Int) (hcu : -9223372036854775808 ≤ cut ∧ cut < 9223372036854775808) (w : World) (hf : FV w f rp rc bp bc) : Calls Try.prog 8 #[.agg (fcs f rp rc bp bc).toArray, .int .i64 cut] w fun e w' => e = .returned (.bool true) ∧ Below w.heap.size w w' := by
  have M := Mm.init w
  have hw : ∀ g ∈ [f], FrW g := fun g hg => by obtain rfl := List.mem_singleton.1 hg; exact hf.wf
  unfold fcs
  go_enter Try.func8, Try.ntmps8
  go_upto_region 0 with fail
  refine wp_region_list ?_
  refine actL (w' := w.alloc (.cells #[.int .i64 f.kind, .int .i64 f.pos, .int .i64 f.lim, .slice rp f.rg.length rc, .slice bp f.byt.length bc, .int .u8 (bl f.tok 0), .int .u8 (bl f.tok 1), .int .u8 (bl f.tok 2), .int .u8 (bl f.tok 3), .int .u8 (bl f.tok 4), .int .u8 (bl f.tok 5), .int .u8 (bl f.tok 6), .int .u8 (bl f.tok 7)] 26)) (.pointer (some ⟨w.heap.size, 0, none⟩)) rfl (by kernel_rfl) ?_
  simp only [aP, lI, l0, lS]
  replace M := M.box #[.int .i64 f.kind, .int .i64 f.pos, .int .i64 f.lim, .slice rp f.rg.length rc, .slice bp f.byt.length bc, .int .u8 (bl f.tok 0), .int .u8 (bl f.tok 1), .int .u8 (bl f.tok 2), .int .u8 (bl f.tok 3), .int .u8 (bl f.tok 4), .int .u8 (bl f.tok 5), .int .u8 (bl f.tok 6), .int .u8 (bl f.tok 7)] 26 w.heap.size rfl
  generalize w.alloc (.cells #[.int .i64 f.kind, .int .i64 f.pos, .int .i64 f.lim, .slice rp f.rg.length rc, .slice bp f.byt.length bc, .int .u8 (bl f.tok 0), .int .u8 (bl f.tok 1), .int .u8 (bl f.tok 2), .int .u8 (bl f.tok 3), .int .u8 (bl f.tok 4), .int .u8 (bl f.tok 5), .int .u8 (bl f.tok 6), .int .u8 (bl f.tok 7)] 26) = w1 at M ⊢
  generalize w.heap.size = B1 at *
  replace M : Mm w [(B1, [.int .i64 f.kind, .int .i64 f.pos, .int .i64 f.lim, .slice rp f.rg.length rc, .slice bp f.byt.length bc, .int .u8 (bl f.tok 0), .int .u8 (bl f.tok 1), .int .u8 (bl f.tok 2), .int .u8 (bl f.tok 3), .int .u8 (bl f.tok 4), .int .u8 (bl f.tok 5), .int .u8 (bl f.tok 6), .int .u8 (bl f.tok 7)])] w1 := M
  refine readL (.bool false) rfl (by kernel_rfl) ?_
  simp only [aP, lI, l0, lS]
  first | show Exit.then _ _ _ _ _ | show Exit.inBlock _ _ _ _ _
  go_upto_region 1 with fail
  refine wp_region_list ?_
  have hC : Calls Try.prog 9 #[] w1 (fun e w' => e = .returned (.bool true) ∧ Below w1.heap.size w1 w') := (shown10 hE hD _)
  refine callL rfl (fun _ => by kernel_rfl) (hC) ?_
  rintro e w2 ⟨rfl, l⟩
  replace M := M.call l
  refine ⟨_, rfl, ?_⟩
  clear l hC
  simp only [aP, lI, l0, lS]
  refine readL (.bool true) rfl (by kernel_rfl) ?_
  simp only [aP, lI, l0, lS]
  first | show Exit.then _ _ _ _ _ | show Exit.inBlock _ _ _ _ _
  cases hen : en [f] with
  | error er =>
    go_upto_region 2 with fail
    refine wp_region_list ?_
    refine readL (.agg #[.int .i64 f.kind, .int .i64 f.pos, .int .i64 f.lim, .slice rp f.rg.length rc, .slice bp f.byt.length bc, .int .u8 (bl f.tok 0), .int .u8 (bl f.tok 1), .int .u8 (bl f.tok 2), .int .u8 (bl f.tok 3), .int .u8 (bl f.tok 4), .int .u8 (bl f.tok 5), .int .u8 (bl f.tok 6), .int .u8 (bl f.tok 7)]) rfl (loadN 26 _ ⟨B1, 0, none⟩ [.int .i64 f.kind, .int .i64 f.pos, .int .i64 f.lim, .slice rp f.rg.length rc, .slice bp f.byt.length bc, .int .u8 (bl f.tok 0), .int .u8 (bl f.tok 1), .int .u8 (bl f.tok 2), .int .u8 (bl f.tok 3), .int .u8 (bl f.tok 4), .int .u8 (bl f.tok 5), .int .u8 (bl f.tok 6), .int .u8 (bl f.tok 7)] rfl rfl (fun _ => by kernel_rfl) (fun _ => by kernel_rfl) (M.rangeAt List.mem_cons_self)) ?_
    simp only [aP, lI, l0, lS]
    refine actL (w' := w2.alloc (.cells #[.int .i64 f.kind, .int .i64 f.pos, .int .i64 f.lim, .slice rp f.rg.length rc, .slice bp f.byt.length bc, .int .u8 (bl f.tok 0), .int .u8 (bl f.tok 1), .int .u8 (bl f.tok 2), .int .u8 (bl f.tok 3), .int .u8 (bl f.tok 4), .int .u8 (bl f.tok 5), .int .u8 (bl f.tok 6), .int .u8 (bl f.tok 7)] 26)) (.slice (some ⟨w2.heap.size, 0, none⟩) 1 1) rfl (by kernel_rfl) ?_
    simp only [aP, lI, l0, lS]
    replace M := M.box #[.int .i64 f.kind, .int .i64 f.pos, .int .i64 f.lim, .slice rp f.rg.length rc, .slice bp f.byt.length bc, .int .u8 (bl f.tok 0), .int .u8 (bl f.tok 1), .int .u8 (bl f.tok 2), .int .u8 (bl f.tok 3), .int .u8 (bl f.tok 4), .int .u8 (bl f.tok 5), .int .u8 (bl f.tok 6), .int .u8 (bl f.tok 7)] 26 w2.heap.size rfl
    generalize w2.alloc (.cells #[.int .i64 f.kind, .int .i64 f.pos, .int .i64 f.lim, .slice rp f.rg.length rc, .slice bp f.byt.length bc, .int .u8 (bl f.tok 0), .int .u8 (bl f.tok 1), .int .u8 (bl f.tok 2), .int .u8 (bl f.tok 3), .int .u8 (bl f.tok 4), .int .u8 (bl f.tok 5), .int .u8 (bl f.tok 6), .int .u8 (bl f.tok 7)] 26) = w3 at M  ⊢
    generalize w2.heap.size = B3 at *
    replace M : Mm w [(B3, [.int .i64 f.kind, .int .i64 f.pos, .int .i64 f.lim, .slice rp f.rg.length rc, .slice bp f.byt.length bc, .int .u8 (bl f.tok 0), .int .u8 (bl f.tok 1), .int .u8 (bl f.tok 2), .int .u8 (bl f.tok 3), .int .u8 (bl f.tok 4), .int .u8 (bl f.tok 5), .int .u8 (bl f.tok 6), .int .u8 (bl f.tok 7)]), (B1, [.int .i64 f.kind, .int .i64 f.pos, .int .i64 f.lim, .slice rp f.rg.length rc, .slice bp f.byt.length bc, .int .u8 (bl f.tok 0), .int .u8 (bl f.tok 1), .int .u8 (bl f.tok 2), .int .u8 (bl f.tok 3), .int .u8 (bl f.tok 4), .int .u8 (bl f.tok 5), .int .u8 (bl f.tok 6), .int .u8 (bl f.tok 7)])] w3 := M
    have hF : Frs w3 (some ⟨B3, 0, none⟩) [f] := M.frs List.mem_cons_self [⟨f, rp, rc, bp, bc⟩] (List.append_nil _).symm (fun d hd => by
      obtain rfl := List.mem_singleton.1 hd
      exact hf.below M.below (Nat.le_refl _))
    refine callL rfl (fun _ => by kernel_rfl) (hE (some ⟨B3, 0, none⟩) 1 ([f]) _ (show 1 ≤ 140737488351232 by decide) (Nat.le_refl 1) (fun e => by cases e) hF) ?_
    rintro e w4 ⟨⟨v4, rfl, O_4⟩, l⟩
    replace M := M.call l
    clear l
    rw [hen] at O_4
    rw [hen]
    simp only [exL_er, exE_er] at O_4 ⊢
    obtain ⟨p4, c4, rfl, _, _⟩ := O_4.bytes
    refine ⟨_, rfl, ?_⟩
    simp only [aP, lI, l0, lS]
    refine readL (.tuple #[.slice p4 (([] : List Int).length) c4, .int .i64 er]) rfl (by kernel_rfl) ?_
    simp only [aP, lI, l0, lS]
    refine readL (.slice p4 (([] : List Int).length) c4) rfl (by kernel_rfl) ?_
    simp only [aP, lI, l0, lS]
    refine readL (.int .i64 er) rfl (by kernel_rfl) ?_
    simp only [aP, lI, l0, lS]
    refine readL (.slice p4 (([] : List Int).length) c4) rfl (by kernel_rfl) ?_
    simp only [aP, lI, l0, lS]
    refine readL (.int .i64 er) rfl (by kernel_rfl) ?_
    simp only [aP, lI, l0, lS]
    first | show Exit.then _ _ _ _ _ | show Exit.inBlock _ _ _ _ _
    have hne := en_ne hen
    have hnb : (er != 0) = true := by simpa using hne
    go_upto_region 3 with fail
    refine wp_region_list ?_
    refine readL (.int .i64 er) rfl (by kernel_rfl) ?_
    simp only [aP, lI, l0, lS]
    refine readL (.bool true) rfl (neqI .i64 _ _ _ _ _ _ rfl rfl rfl true hnb _) ?_
    simp only [aP, lI, l0, lS]
    refine readL (.bool true) rfl (by kernel_rfl) ?_
    simp only [aP, lI, l0, lS]
    with_reducible refine skipL ?_ ?_
    · rfl
    simp only [aP, lI, l0, lS]
    with_reducible refine skipL ?_ ?_
    · rfl
    simp only [aP, lI, l0, lS]
    with_reducible refine skipL ?_ ?_
    · rfl
    simp only [aP, lI, l0, lS]
    refine readL (.bool true) rfl (by kernel_rfl) ?_
    simp only [aP, lI, l0, lS]
    first | show Exit.then _ _ _ _ _ | show Exit.inBlock _ _ _ _ _
    go_upto_region 4 with fail
    refine wp_region_list ?_
    refine readL (.bool true) rfl (by kernel_rfl) ?_
    simp only [aP, lI, l0, lS]
    refine readL (.bool true) rfl (by kernel_rfl) ?_
    simp only [aP, lI, l0, lS]
    refine readL (.int .i64 er) rfl (by kernel_rfl) ?_
    simp only [aP, lI, l0, lS]
    refine readL (.bool true) rfl (neqI .i64 _ _ _ _ _ _ rfl rfl rfl true hnb _) ?_
    simp only [aP, lI, l0, lS]
    refine readL (.bool true) rfl (by kernel_rfl) ?_
    simp only [aP, lI, l0, lS]
    refine readL (.bool true) rfl (by kernel_rfl) ?_
    simp only [aP, lI, l0, lS]
    first | show Exit.then _ _ _ _ _ | show Exit.inBlock _ _ _ _ _
    clear hne hnb
    go_wp2
    go_ret
    exact ⟨rfl, M.below⟩
  | ok x =>
    go_upto_region 2 with fail
    refine wp_region_list ?_
    refine readL (.agg #[.int .i64 f.kind, .int .i64 f.pos, .int .i64 f.lim, .slice rp f.rg.length rc, .slice bp f.byt.length bc, .int .u8 (bl f.tok 0), .int .u8 (bl f.tok 1), .int .u8 (bl f.tok 2), .int .u8 (bl f.tok 3), .int .u8 (bl f.tok 4), .int .u8 (bl f.tok 5), .int .u8 (bl f.tok 6), .int .u8 (bl f.tok 7)]) rfl (loadN 26 _ ⟨B1, 0, none⟩ [.int .i64 f.kind, .int .i64 f.pos, .int .i64 f.lim, .slice rp f.rg.length rc, .slice bp f.byt.length bc, .int .u8 (bl f.tok 0), .int .u8 (bl f.tok 1), .int .u8 (bl f.tok 2), .int .u8 (bl f.tok 3), .int .u8 (bl f.tok 4), .int .u8 (bl f.tok 5), .int .u8 (bl f.tok 6), .int .u8 (bl f.tok 7)] rfl rfl (fun _ => by kernel_rfl) (fun _ => by kernel_rfl) (M.rangeAt List.mem_cons_self)) ?_
    simp only [aP, lI, l0, lS]
    refine actL (w' := w2.alloc (.cells #[.int .i64 f.kind, .int .i64 f.pos, .int .i64 f.lim, .slice rp f.rg.length rc, .slice bp f.byt.length bc, .int .u8 (bl f.tok 0), .int .u8 (bl f.tok 1), .int .u8 (bl f.tok 2), .int .u8 (bl f.tok 3), .int .u8 (bl f.tok 4), .int .u8 (bl f.tok 5), .int .u8 (bl f.tok 6), .int .u8 (bl f.tok 7)] 26)) (.slice (some ⟨w2.heap.size, 0, none⟩) 1 1) rfl (by kernel_rfl) ?_
    simp only [aP, lI, l0, lS]
    replace M := M.box #[.int .i64 f.kind, .int .i64 f.pos, .int .i64 f.lim, .slice rp f.rg.length rc, .slice bp f.byt.length bc, .int .u8 (bl f.tok 0), .int .u8 (bl f.tok 1), .int .u8 (bl f.tok 2), .int .u8 (bl f.tok 3), .int .u8 (bl f.tok 4), .int .u8 (bl f.tok 5), .int .u8 (bl f.tok 6), .int .u8 (bl f.tok 7)] 26 w2.heap.size rfl
    generalize w2.alloc (.cells #[.int .i64 f.kind, .int .i64 f.pos, .int .i64 f.lim, .slice rp f.rg.length rc, .slice bp f.byt.length bc, .int .u8 (bl f.tok 0), .int .u8 (bl f.tok 1), .int .u8 (bl f.tok 2), .int .u8 (bl f.tok 3), .int .u8 (bl f.tok 4), .int .u8 (bl f.tok 5), .int .u8 (bl f.tok 6), .int .u8 (bl f.tok 7)] 26) = w5 at M  ⊢
    generalize w2.heap.size = B5 at *
    replace M : Mm w [(B5, [.int .i64 f.kind, .int .i64 f.pos, .int .i64 f.lim, .slice rp f.rg.length rc, .slice bp f.byt.length bc, .int .u8 (bl f.tok 0), .int .u8 (bl f.tok 1), .int .u8 (bl f.tok 2), .int .u8 (bl f.tok 3), .int .u8 (bl f.tok 4), .int .u8 (bl f.tok 5), .int .u8 (bl f.tok 6), .int .u8 (bl f.tok 7)]), (B1, [.int .i64 f.kind, .int .i64 f.pos, .int .i64 f.lim, .slice rp f.rg.length rc, .slice bp f.byt.length bc, .int .u8 (bl f.tok 0), .int .u8 (bl f.tok 1), .int .u8 (bl f.tok 2), .int .u8 (bl f.tok 3), .int .u8 (bl f.tok 4), .int .u8 (bl f.tok 5), .int .u8 (bl f.tok 6), .int .u8 (bl f.tok 7)])] w5 := M
    have hF : Frs w5 (some ⟨B5, 0, none⟩) [f] := M.frs List.mem_cons_self [⟨f, rp, rc, bp, bc⟩] (List.append_nil _).symm (fun d hd => by
      obtain rfl := List.mem_singleton.1 hd
      exact hf.below M.below (Nat.le_refl _))
    refine callL rfl (fun _ => by kernel_rfl) (hE (some ⟨B5, 0, none⟩) 1 ([f]) _ (show 1 ≤ 140737488351232 by decide) (Nat.le_refl 1) (fun e => by cases e) hF) ?_
    rintro e w6 ⟨⟨v6, rfl, O_6⟩, l⟩
    replace M := M.call l
    clear l
    rw [hen] at O_6
    rw [hen]
    simp only [exL_ok, exE_ok] at O_6 ⊢
    obtain ⟨p6, c6, rfl, _, _⟩ := O_6.bytes
    refine ⟨_, rfl, ?_⟩
    simp only [aP, lI, l0, lS]
    refine readL (.tuple #[.slice p6 x.length c6, .int .i64 0]) rfl (by kernel_rfl) ?_
    simp only [aP, lI, l0, lS]
    refine readL (.slice p6 x.length c6) rfl (by kernel_rfl) ?_
    simp only [aP, lI, l0, lS]
    refine readL (.int .i64 0) rfl (by kernel_rfl) ?_
    simp only [aP, lI, l0, lS]
    refine readL (.slice p6 x.length c6) rfl (by kernel_rfl) ?_
    simp only [aP, lI, l0, lS]
    refine readL (.int .i64 0) rfl (by kernel_rfl) ?_
    simp only [aP, lI, l0, lS]
    first | show Exit.then _ _ _ _ _ | show Exit.inBlock _ _ _ _ _
    obtain ⟨hx1, hx2, hx3, hx4⟩ := en_ok hen
    have hx5 : 2 ≤ x.length := by
      have h1 : fok f = true := by simpa using hx2
      have h2 := fbo_pos f ((fok_iff f).1 h1) hf.wf.eight
      rw [hx3]
      show 2 ≤ (fen f ++ []).length
      rw [List.append_nil]
      show 2 ≤ (fbo f).length + 1
      omega
    clear hx1 hx2 hx3
    go_upto_region 3 with fail
    refine wp_region_list ?_
    refine readL (.int .i64 0) rfl (by kernel_rfl) ?_
    simp only [aP, lI, l0, lS]
    refine readL (.bool false) rfl (neqI .i64 _ _ _ _ _ _ rfl rfl rfl false (by decide) _) ?_
    simp only [aP, lI, l0, lS]
    refine readL (.bool false) rfl (by kernel_rfl) ?_
    simp only [aP, lI, l0, lS]
    refine readL (.slice p6 x.length c6) rfl (by kernel_rfl) ?_
    simp only [aP, lI, l0, lS]
    refine readL (.int .i64 ((x.length : Nat) : Int)) rfl (lenS _ 23 5 p6 x.length c6 rfl Try.underlying23 rfl _) ?_
    simp only [aP, lI, l0, lS]
    refine readL (.bool false) rfl (lssI .i64 _ _ _ _ _ _ rfl rfl rfl false (decide_eq_false (by omega)) _) ?_
    simp only [aP, lI, l0, lS]
    refine readL (.bool false) rfl (by kernel_rfl) ?_
    simp only [aP, lI, l0, lS]
    first | show Exit.then _ _ _ _ _ | show Exit.inBlock _ _ _ _ _
    by_cases hc : cut < 0
    · go_upto_region 5 with fail
      refine wp_region_list ?_
      refine readL (.int .i64 cut) rfl (by kernel_rfl) ?_
      simp only [aP, lI, l0, lS]
      refine readL (.bool true) rfl (lssI .i64 _ _ _ _ _ _ rfl rfl rfl true (decide_eq_true hc) _) ?_
      simp only [aP, lI, l0, lS]
      first | show Exit.then _ _ _ _ _ | show Exit.inBlock _ _ _ _ _
      go_upto_region 6 with fail
      refine wp_region_list ?_
      refine readL (.int .i64 cut) rfl (by kernel_rfl) ?_
      simp only [aP, lI, l0, lS]
      refine readL (.int .i64 (cut + 1)) rfl (addI .i64 _ _ _ _ _ _ _ rfl rfl rfl (by rw [IntKind.wrap_i64]; omega) _) ?_
      simp only [aP, lI, l0, lS]
      refine readL (.int .i64 (-(cut + 1))) rfl (negI .i64 _ _ _ _ rfl rfl (by rw [IntKind.wrap_i64]; omega) _) ?_
      simp only [aP, lI, l0, lS]
      refine readL (.int .i64 (-(cut + 1))) rfl (by kernel_rfl) ?_
      simp only [aP, lI, l0, lS]
      first | show Exit.then _ _ _ _ _ | show Exit.inBlock _ _ _ _ _
      obtain ⟨kk, hkk, hkl⟩ : ∃ kk : Nat, Int.tmod (-(cut + 1)) ((x.length : Int) - 1) = (kk : Int) ∧ kk < x.length - 1 := by
        have h1 := Int.emod_nonneg (-(cut + 1)) (show ((x.length : Int) - 1) ≠ 0 by omega)
        have h2 := Int.emod_lt_of_pos (-(cut + 1)) (show 0 < ((x.length : Int) - 1) by omega)
        refine ⟨(-(cut + 1) % ((x.length : Int) - 1)).toNat, ?_, by omega⟩
        rw [Int.tmod_eq_emod_of_nonneg (by omega)]
        omega
      go_upto_region 7 with fail
      refine wp_region_list ?_
      refine readL (.slice p6 x.length c6) rfl (by kernel_rfl) ?_
      simp only [aP, lI, l0, lS]
      refine readL (.int .i64 (-(cut + 1))) rfl (by kernel_rfl) ?_
      simp only [aP, lI, l0, lS]
      refine readL (.slice p6 x.length c6) rfl (by kernel_rfl) ?_
      simp only [aP, lI, l0, lS]
      refine readL (.int .i64 ((x.length : Nat) : Int)) rfl (lenS _ 23 5 p6 x.length c6 rfl Try.underlying23 rfl _) ?_
      simp only [aP, lI, l0, lS]
      refine readL (.int .i64 ((x.length : Int) - 1)) rfl (subI .i64 _ _ _ _ _ _ _ rfl rfl rfl (by rw [IntKind.wrap_i64]; omega) _) ?_
      simp only [aP, lI, l0, lS]
      refine readL (.int .i64 (kk : Int)) rfl (remI .i64 _ _ _ _ _ _ _ rfl rfl rfl (by omega) hkk _) ?_
      simp only [aP, lI, l0, lS]
      refine readL (.int .i64 ((1 + kk : Nat) : Int)) rfl (addI .i64 _ _ _ _ _ _ _ rfl rfl rfl (by rw [IntKind.wrap_i64]; omega) _) ?_
      simp only [aP, lI, l0, lS]
      obtain ⟨cp, hcut, hcs, hcn⟩ := cut_hiN (P := Try.prog) (t := 23) (by kernel_rfl) (fun _ => by kernel_rfl) p6 x.length c6 (1 + kk) (by omega) O_6.le O_6.nilCap
      have hlk : (x.take (1 + kk)).length = 1 + kk := by rw [List.length_take]; omega
      refine readL (.slice cp ((x.take (1 + kk)).length) c6) rfl (by rw [hlk]; exact cutHi _ _ _ _ _ _ rfl rfl rfl (hcut _)) ?_
      simp only [aP, lI, l0, lS]
      refine callL rfl (fun _ => by kernel_rfl) (hD cp c6 (x.take (1 + kk)) _ (by omega) (by have := O_6.le; omega) hcn ((en_byts hw hen).take _) (show Src _ cp (x.take (1 + kk)).length (bl (x.take (1 + kk))) by rw [hlk]; exact (hcs _ _ O_6.src).congr fun j hj => (bl_take x (1 + kk) j hj).symm)) ?_
      rintro e w7 ⟨⟨p7, c7, rfl, hle7, hnil7, F_7⟩, l⟩
      replace M := M.call l
      replace O_6 := O_6.below l
      clear l
      rw [de_cut f hf.wf x hen (1 + kk) (by omega) (by omega)] at F_7 hle7
      rw [de_cut f hf.wf x hen (1 + kk) (by omega) (by omega)]
      simp only [exL_er, exE_er] at F_7 hle7 ⊢
      refine ⟨_, rfl, ?_⟩
      simp only [aP, lI, l0, lS]
      refine readL (.tuple #[.slice p7 ((([] : List Frm)).length) c7, .int .i64 3]) rfl (by kernel_rfl) ?_
      simp only [aP, lI, l0, lS]
      refine readL (.slice p7 ((([] : List Frm)).length) c7) rfl (by kernel_rfl) ?_
      simp only [aP, lI, l0, lS]
      refine readL (.int .i64 3) rfl (by kernel_rfl) ?_
      simp only [aP, lI, l0, lS]
      refine readL (.slice p7 ((([] : List Frm)).length) c7) rfl (by kernel_rfl) ?_
      simp only [aP, lI, l0, lS]
      refine readL (.int .i64 3) rfl (by kernel_rfl) ?_
      simp only [aP, lI, l0, lS]
      first | show Exit.then _ _ _ _ _ | show Exit.inBlock _ _ _ _ _
      go_upto_region 8 with fail
      refine wp_region_list ?_
      refine readL (.bool true) rfl (by kernel_rfl) ?_
      simp only [aP, lI, l0, lS]
      refine readL (.bool true) rfl (by kernel_rfl) ?_
      simp only [aP, lI, l0, lS]
      refine readL (.int .i64 3) rfl (by kernel_rfl) ?_
      simp only [aP, lI, l0, lS]
      refine readL (.bool true) rfl (eqlI .i64 _ _ _ _ _ _ rfl rfl rfl true (by decide) _) ?_
      simp only [aP, lI, l0, lS]
      refine readL (.bool true) rfl (by kernel_rfl) ?_
      simp only [aP, lI, l0, lS]
      refine readL (.bool true) rfl (by kernel_rfl) ?_
      simp only [aP, lI, l0, lS]
      refine readL (.slice p7 ((([] : List Frm)).length) c7) rfl (by kernel_rfl) ?_
      simp only [aP, lI, l0, lS]
      refine readL (.int .i64 (((([] : List Frm)).length : Nat) : Int)) rfl (lenS _ 32 26 p7 ((([] : List Frm)).length) c7 rfl Try.underlying32 rfl _) ?_
      simp only [aP, lI, l0, lS]
      refine readL (.bool true) rfl (eqlI .i64 _ _ _ _ _ _ rfl rfl rfl true (by rfl) _) ?_
      simp only [aP, lI, l0, lS]
      refine readL (.bool true) rfl (by kernel_rfl) ?_
      simp only [aP, lI, l0, lS]
      refine readL (.bool true) rfl (by kernel_rfl) ?_
      simp only [aP, lI, l0, lS]
      first | show Exit.then _ _ _ _ _ | show Exit.inBlock _ _ _ _ _
      clear hkk hkl hx4 hx5
      go_wp2
      go_ret
      exact ⟨rfl, M.below⟩
    · go_upto_region 5 with fail
      refine wp_region_list ?_
      refine readL (.int .i64 cut) rfl (by kernel_rfl) ?_
      simp only [aP, lI, l0, lS]
      refine readL (.bool false) rfl (lssI .i64 _ _ _ _ _ _ rfl rfl rfl false (decide_eq_false hc) _) ?_
      simp only [aP, lI, l0, lS]
      first | show Exit.then _ _ _ _ _ | show Exit.inBlock _ _ _ _ _
      obtain ⟨kk, hkk, hkl⟩ : ∃ kk : Nat, Int.tmod cut ((x.length : Int) - 1) = (kk : Int) ∧ kk < x.length - 1 := by
        have h1 := Int.emod_nonneg cut (show ((x.length : Int) - 1) ≠ 0 by omega)
        have h2 := Int.emod_lt_of_pos cut (show 0 < ((x.length : Int) - 1) by omega)
        refine ⟨(cut % ((x.length : Int) - 1)).toNat, ?_, by omega⟩
        rw [Int.tmod_eq_emod_of_nonneg (by omega)]
        omega
      go_upto_region 7 with fail
      refine wp_region_list ?_
      refine readL (.slice p6 x.length c6) rfl (by kernel_rfl) ?_
      simp only [aP, lI, l0, lS]
      refine readL (.int .i64 cut) rfl (by kernel_rfl) ?_
      simp only [aP, lI, l0, lS]
      refine readL (.slice p6 x.length c6) rfl (by kernel_rfl) ?_
      simp only [aP, lI, l0, lS]
      refine readL (.int .i64 ((x.length : Nat) : Int)) rfl (lenS _ 23 5 p6 x.length c6 rfl Try.underlying23 rfl _) ?_
      simp only [aP, lI, l0, lS]
      refine readL (.int .i64 ((x.length : Int) - 1)) rfl (subI .i64 _ _ _ _ _ _ _ rfl rfl rfl (by rw [IntKind.wrap_i64]; omega) _) ?_
      simp only [aP, lI, l0, lS]
      refine readL (.int .i64 (kk : Int)) rfl (remI .i64 _ _ _ _ _ _ _ rfl rfl rfl (by omega) hkk _) ?_
      simp only [aP, lI, l0, lS]
      refine readL (.int .i64 ((1 + kk : Nat) : Int)) rfl (addI .i64 _ _ _ _ _ _ _ rfl rfl rfl (by rw [IntKind.wrap_i64]; omega) _) ?_
      simp only [aP, lI, l0, lS]
      obtain ⟨cp, hcut, hcs, hcn⟩ := cut_hiN (P := Try.prog) (t := 23) (by kernel_rfl) (fun _ => by kernel_rfl) p6 x.length c6 (1 + kk) (by omega) O_6.le O_6.nilCap
      have hlk : (x.take (1 + kk)).length = 1 + kk := by rw [List.length_take]; omega
      refine readL (.slice cp ((x.take (1 + kk)).length) c6) rfl (by rw [hlk]; exact cutHi _ _ _ _ _ _ rfl rfl rfl (hcut _)) ?_
      simp only [aP, lI, l0, lS]
      refine callL rfl (fun _ => by kernel_rfl) (hD cp c6 (x.take (1 + kk)) _ (by omega) (by have := O_6.le; omega) hcn ((en_byts hw hen).take _) (show Src _ cp (x.take (1 + kk)).length (bl (x.take (1 + kk))) by rw [hlk]; exact (hcs _ _ O_6.src).congr fun j hj => (bl_take x (1 + kk) j hj).symm)) ?_
      rintro e w8 ⟨⟨p8, c8, rfl, hle8, hnil8, F_8⟩, l⟩
      replace M := M.call l
      replace O_6 := O_6.below l
      clear l
      rw [de_cut f hf.wf x hen (1 + kk) (by omega) (by omega)] at F_8 hle8
      rw [de_cut f hf.wf x hen (1 + kk) (by omega) (by omega)]
      simp only [exL_er, exE_er] at F_8 hle8 ⊢
      refine ⟨_, rfl, ?_⟩
      simp only [aP, lI, l0, lS]
      refine readL (.tuple #[.slice p8 ((([] : List Frm)).length) c8, .int .i64 3]) rfl (by kernel_rfl) ?_
      simp only [aP, lI, l0, lS]
      refine readL (.slice p8 ((([] : List Frm)).length) c8) rfl (by kernel_rfl) ?_
      simp only [aP, lI, l0, lS]
      refine readL (.int .i64 3) rfl (by kernel_rfl) ?_
      simp only [aP, lI, l0, lS]
      refine readL (.slice p8 ((([] : List Frm)).length) c8) rfl (by kernel_rfl) ?_
      simp only [aP, lI, l0, lS]
      refine readL (.int .i64 3) rfl (by kernel_rfl) ?_
      simp only [aP, lI, l0, lS]
      first | show Exit.then _ _ _ _ _ | show Exit.inBlock _ _ _ _ _
      go_upto_region 8 with fail
      refine wp_region_list ?_
      refine readL (.bool true) rfl (by kernel_rfl) ?_
      simp only [aP, lI, l0, lS]
      refine readL (.bool true) rfl (by kernel_rfl) ?_
      simp only [aP, lI, l0, lS]
      refine readL (.int .i64 3) rfl (by kernel_rfl) ?_
      simp only [aP, lI, l0, lS]
      refine readL (.bool true) rfl (eqlI .i64 _ _ _ _ _ _ rfl rfl rfl true (by decide) _) ?_
      simp only [aP, lI, l0, lS]
      refine readL (.bool true) rfl (by kernel_rfl) ?_
      simp only [aP, lI, l0, lS]
      refine readL (.bool true) rfl (by kernel_rfl) ?_
      simp only [aP, lI, l0, lS]
      refine readL (.slice p8 ((([] : List Frm)).length) c8) rfl (by kernel_rfl) ?_
      simp only [aP, lI, l0, lS]
      refine readL (.int .i64 (((([] : List Frm)).length : Nat) : Int)) rfl (lenS _ 32 26 p8 ((([] : List Frm)).length) c8 rfl Try.underlying32 rfl _) ?_
      simp only [aP, lI, l0, lS]
      refine readL (.bool true) rfl (eqlI .i64 _ _ _ _ _ _ rfl rfl rfl true (by rfl) _) ?_
      simp only [aP, lI, l0, lS]
      refine readL (.bool true) rfl (by kernel_rfl) ?_
      simp only [aP, lI, l0, lS]
      refine readL (.bool true) rfl (by kernel_rfl) ?_
      simp only [aP, lI, l0, lS]
      first | show Exit.then _ _ _ _ _ | show Exit.inBlock _ _ _ _ _
      clear hkk hkl hx4 hx5
      go_wp2
      go_ret
      exact ⟨rfl, M.below⟩
end Go.Proofs.Yteaamgjlkohfcaa

namespace Go.Proofs.Yteaamgjlkohfcaa
open Go.RowKit

/-- Some cells of a block are stored. -/
theorem storeP {P : Program} {o : Oper} {a : Act} {w : World} (cs : List Value) (b off : Nat) (ty : TypeId) (x y : Operand) (ho : o.op = .store ty x y) (hx : a.eval x = .pointer (some ⟨b, off, none⟩)) (hy : a.eval y = .agg cs.toArray) (ht : w.there b off cs.toArray.size) (hz : (P.info? ty).map (·.size) = some cs.toArray.size) (h1 : ∀ u ∈ cs, u.oneCell' = true) :
    (execOp a.eval o).run P w = .ok .skip (w.setCells b off cs) := by
  unfold execOp
  simp only [ho, hx, hy]
  have e := run_storeAt_mid (P := P) w b off ty cs.toArray ht hz (all_oneCell_toArray h1)
  simp only [Sem.run_bind, e, Result.andThen_ok, Sem.run_pure]
def setL (cs : List Value) : Nat → List Value → List Value
  | _, [] => cs
  | o, v :: vs => setL (cs.set o v) (o + 1) vs
section
variable {w0 w : World} {l : List (Nat × List Value)} {b : Nat} {cs : List Value}
theorem Mm.thereP (h : Mm w0 l w) (hp : (b, cs) ∈ l) (o n : Nat) (hn : o + n ≤ cs.length) : w.there b o n := fun j hj => ⟨h.isSome hp (o + j) (by omega), h.free hp (o + j) (by omega)⟩
theorem Mm.setPartG : ∀ (ds : List Value) (o : Nat) (cs : List Value) (w : World), o + ds.length ≤ cs.length → Mm w0 ((b, cs) :: l) w → Mm w0 ((b, setL cs o ds) :: l) (w.setCells b o ds)
  | [], _, _, _, _, h => h
  | v :: vs, o, cs, w, hl, h => by
    rw [List.length_cons] at hl
    exact Mm.setPartG vs (o + 1) (cs.set o v) _ (by rw [List.length_set]; omega) (h.set o (by omega) v)
theorem Mm.setPart (h : Mm w0 ((b, cs) :: l) w) (ds : List Value) (o : Nat) (hl : o + ds.length ≤ cs.length) : Mm w0 ((b, setL cs o ds) :: l) (w.setCells b o ds) := Mm.setPartG ds o cs w hl h
theorem Mm.perm {l' : List (Nat × List Value)} (h : Mm w0 l w) (hp : l.Perm l') : Mm w0 l' w :=
  ⟨fun p hq => h.rows p (hp.mem_iff.2 hq), hp.pairwise h.apart (fun e => Ne.symm e), h.below⟩
theorem Mm.rot3 {p q r : Nat × List Value} (h : Mm w0 (p :: q :: r :: l) w) : Mm w0 (r :: p :: q :: l) w :=
  h.perm (((List.Perm.swap r q l).cons p).trans (List.Perm.swap r p (q :: l)))
end
end Go.Proofs.Yteaamgjlkohfcaa

namespace Go.Proofs.Yteaamgjlkohfcaa
open Go.RowKit
section
variable {P : Program} {md : Region.Mode} {ops : Array Oper} {Q : Exit → Act → World → Prop} {S : World → Prop}
theorem panicL {o : Oper} {rest : List Oper} {a : Act} {w : World} (v : Value) (hw : Region.wanted o (yielded ops a.tmps) = true) (he : (execOp a.eval o).run P w = .halt (.panic v) w)
    (h : Q (.panic [{ v, recovered := false }]) a w) : wpList P ops Q (o :: rest) a w := by
  unfold wpList
  rw [if_pos hw]
  refine .inl ?_
  unfold Oper.wp
  rw [he]
  exact h
theorem deferL {o : Oper} {rest : List Oper} {a : Act} {w : World} (d : Deferred) (hw : Region.wanted o (yielded ops a.tmps) = true) (he : (execOp a.eval o).run P w = .ok (.defer d) w)
    (h : wpList P ops Q rest ({ a with defers := d :: a.defers }.put o.dst undef) w) : wpList P ops Q (o :: rest) a w := by
  unfold wpList
  rw [if_pos hw]
  refine .inl ?_
  unfold Oper.wp
  rw [he]
  exact h
/-- A call that hands something back, or panics. -/
theorem callPL {o : Oper} {f : FuncId} {args : Array Value} {R : Ending → World → Prop} {rest : List Oper} {a : Act} {w : World} (hw : Region.wanted o (yielded ops a.tmps) = true)
    (he : ∀ w, (execOp a.eval o).run P w = .ok (.enter f args) w) (hc : Calls P f args w R)
    (hK : ∀ e w', R e w' → (∃ v, e = .returned v ∧ wpList P ops Q rest (a.put o.dst v) w') ∨ ∃ c, e = .panicked c ∧ Q (.panic c) a w') : wpList P ops Q (o :: rest) a w := by
  unfold wpList
  rw [if_pos hw]
  refine .inl ?_
  unfold Oper.wp
  rw [he w]
  exact hc.mono fun e w' hR => by
    rcases hK e w' hR with ⟨v, rfl, h⟩ | ⟨c, rfl, h⟩
    · exact h
    · exact h
theorem callPH {i : Nat} {oi : Oper} (dst : Option Tmp) (hdst : oi.dst = dst) {f : FuncId} {args : Array Value} {R : Ending → World → Prop} {fuel : Nat} {listed : Array Bool} {a : Act} {w : World} (hr : Region.ready md ops listed = [i]) (hi : ops[i]? = some oi)
    (hw : Region.wanted oi (yielded ops a.tmps) = true) (he : ∀ w, (execOp a.eval oi).run P w = .ok (.enter f args) w) (hc : Calls P f args w R)
    (hK : ∀ e w', R e w' → (∃ v, e = .returned v ∧ S w' ∧ wpAnyH P md ops Q S fuel (listed.setIfInBounds i true) (a.put dst v) w') ∨ ∃ c, e = .panicked c ∧ Q (.panic c) a w') : wpAnyH P md ops Q S (fuel + 1) listed a w :=
  ⟨fun h0 => (by rw [h0] at hr; cases hr), fun j hj => by
    rw [hr] at hj
    obtain rfl := List.mem_singleton.1 hj
    unfold wpOp
    simp only [hi, hw, if_true]
    refine .inl ?_
    unfold Oper.wp
    rw [he w]
    exact hc.mono fun e w' hR => by
      rcases hK e w' hR with ⟨v, rfl, h⟩ | ⟨c, rfl, h⟩
      · subst hdst
        exact h
      · exact h⟩
/-- The one operation that may come up yields something, and may change the world. -/
theorem actO {i : Nat} {oi : Oper} (dst : Option Tmp) (hdst : oi.dst = dst) {K : Act → World → Prop} {a : Act} {w w' : World} (v : Value) (hi : ops[i]? = some oi) (hw : Region.wanted oi (yielded ops a.tmps) = true)
    (he : (execOp a.eval oi).run P w = .ok (.value v) w') (h : K (a.put dst v) w') : wpOp P ops Q i K a w := by
  unfold wpOp
  simp only [hi, hw, if_true]
  refine .inl ?_
  unfold Oper.wp
  rw [he]
  subst hdst
  exact h
theorem callPO {i : Nat} {oi : Oper} (dst : Option Tmp) (hdst : oi.dst = dst) {K : Act → World → Prop} {f : FuncId} {args : Array Value} {R : Ending → World → Prop} {a : Act} {w : World} (hi : ops[i]? = some oi) (hw : Region.wanted oi (yielded ops a.tmps) = true)
    (he : ∀ w, (execOp a.eval oi).run P w = .ok (.enter f args) w) (hc : Calls P f args w R)
    (hK : ∀ e w', R e w' → (∃ v, e = .returned v ∧ K (a.put dst v) w') ∨ ∃ c, e = .panicked c ∧ Q (.panic c) a w') : wpOp P ops Q i K a w := by
  unfold wpOp
  simp only [hi, hw, if_true]
  refine .inl ?_
  unfold Oper.wp
  rw [he w]
  exact hc.mono fun e w' hR => by
    rcases hK e w' hR with ⟨v, rfl, h⟩ | ⟨c, rfl, h⟩
    · subst hdst
      exact h
    · exact h
theorem onlyH {i : Nat} {oi : Oper} (dst : Option Tmp) (hdst : oi.dst = dst) {fuel : Nat} {listed : Array Bool} {a : Act} {w w' : World} (v : Value) (hr : Region.ready md ops listed = [i]) (hi : ops[i]? = some oi) (hw : Region.wanted oi (yielded ops a.tmps) = true)
    (he : (execOp a.eval oi).run P w = .ok (.value v) w') (hS : S w') (h : wpAnyH P md ops Q S fuel (listed.setIfInBounds i true) (a.put dst v) w') : wpAnyH P md ops Q S (fuel + 1) listed a w :=
  ⟨fun h0 => (by rw [h0] at hr; cases hr), fun j hj => by
    rw [hr] at hj
    obtain rfl := List.mem_singleton.1 hj
    exact actO dst hdst v hi hw he ⟨hS, h⟩⟩
/-- How a body that has laid its deferred call ends: it comes back (none), or panics. -/
def Dpost (K : Option (List PanicEntry) → Act → World → Prop) : Exit → Act → World → Prop
  | .normal, a, w | .ret, a, w => K none a w
  | .panic c, a, w => K (some c) a w
  | _, _, _ => False
def modeOf : Option (List PanicEntry) → FrameMode
  | none => .returning
  | some c => .panicking c
theorem calls_door {f : FuncId} {fn : Func} {c : Code} {args : Array Value} {w : World} {R : Ending → World → Prop} (K : Option (List PanicEntry) → Act → World → Prop)
    (hf : P.funcs[f]? = some fn) (hb : fn.body = some c) (hK : ∀ o a w', K o a w' → Leaves P fn a.tmps R a.defers (modeOf o) w')
    (h : c.wp P (Dpost K) { tmps := args ++ Array.replicate (fn.ntmps - args.size) undef, defers := [] } w) : Calls P f args w R :=
  calls_of_wp_defers hf hb (Code.wp_mono (fun e a w q => by
    cases e with
    | normal => exact hK _ _ _ q
    | ret => exact hK _ _ _ q
    | panic c => exact hK _ _ _ q
    | exit id => exact q.elim
    | goto l => exact q.elim
    | outgrown => exact q.elim) h)
/-- One deferred call stands there: it comes back, whether it has caught a panic or not. -/
theorem leaves_one {fn : Func} {tmps : Array Value} {R : Ending → World → Prop} {fv : Fn} {cap dargs : Array Value} {o : Option (List PanicEntry)} {w : World} {f : FuncId} {args : Array Value}
    (hi : (invoke (.fn fv cap) dargs).run P w = .ok (.enter f args) w) {T : World → Prop}
    (h : CallsD P f args (modeOf o) w fun e u' w' => e = .returned (.tuple #[]) ∧ settle u' = .returning ∧ T w')
    (hT : ∀ w', T w' → ∃ v, (results fn tmps).run P w' = .ok v w' ∧ R (.returned v) w') : Leaves P fn tmps R [{ target := .fn fv cap, args := dargs }] (modeOf o) w := by
  refine leaves_cons (f := f) (args := args) (by cases o <;> simp [modeOf]) hi (h.mono ?_)
  rintro e u' w' ⟨rfl, hu, ht⟩
  show Leaves P fn tmps R [] (settle u') w'
  rw [hu]
  exact hT w' ht
end
end Go.Proofs.Yteaamgjlkohfcaa

namespace Go.Proofs.Yteaamgjlkohfcaa
open Go.RowKit

/-- A panic with an error's number. -/
abbrev Pe (c : Int) : PanicEntry := { v := .iface 28 (.int .i64 c), recovered := false }
theorem Mm.drop2 {w0 w : World} {l : List (Nat × List Value)} {p q : Nat × List Value} (h : Mm w0 (p :: q :: l) w) : Mm w0 (p :: l) w := h.sub _ (List.cons_sublist_cons.2 (List.sublist_cons_self q l))
theorem Off.lessN {X Y : List Nat} {w w1 : World} (h : Off Y w w1) (hY : ∀ b ∈ Y, b ∈ X ∨ w.heap.size ≤ b) : Off X w w1 :=
  ⟨h.size, fun b hb hX => h.blk b hb fun e => (hY b e).elim hX (fun h' => by omega)⟩
/-- What is left in a reader: bytes of one's own. -/
def Lft (w0 : World) (R : Nat) (l : List (Nat × List Value)) (w : World) (r : List Int) (w' : World) : Prop := ∃ p c, Mm w0 ((R, [.slice p r.length c]) :: l) w' ∧ Off [R] w w' ∧ OwnL w' w.heap.size r (.slice p r.length c)
def Pan (w0 : World) (R : Nat) (l : List (Nat × List Value)) (c : Int) (e : Ending) (w' : World) : Prop := e = .panicked [Pe c] ∧ ∃ s, Mm w0 ((R, [s]) :: l) w'
theorem retCell {P : Program} {fn : Func} {tmps : Array Value} {w : World} (t : Tmp) (ty : TypeId) (p : Addr) (cs : List Value) (hr : fn.results = #[.cell t ty]) (ha : tmps.getD t undef = .pointer (some p)) (hagg : ∀ w, (isAgg ty).run P w = .ok true w) (hz : ∀ w, (sizeOf ty).run P w = .ok cs.length w) (hc : ∀ j v, cs[j]? = some v → w.cell? (p.add j) = some v) :
    (results fn tmps).run P w = .ok (.agg cs.toArray) w := by
  have e : (loadVar ty p).run P w = .ok (.agg cs.toArray) w := by simp [loadVar, Sem.run_bind, hagg, hz, run_loadCells_list w p cs hc]
  rw [Array.getD_eq_getD_getElem?] at ha
  simp [results, hr, ha, asAddr, e]

set_option maxRecDepth 10000 in
set_option maxHeartbeats 32000000 in
theorem stop_ok (w : World) : Calls Try.prog 48 #[.int .i64 0] w fun e w' => e = .returned (.tuple #[]) ∧ w' = w := by
  go_enter Try.func48, Try.ntmps48
  go_upto_region 0 with fail
  refine wp_region_list ?_
  refine readL (.int .i64 0) rfl (by kernel_rfl) ?_
  simp only [aP, lI, l0, lS]
  refine readL (.bool false) rfl (neqI .i64 _ _ _ _ _ _ rfl rfl rfl false (by decide) _) ?_
  simp only [aP, lI, l0, lS]
  first | show Exit.then _ _ _ _ _ | show Exit.inBlock _ _ _ _ _
  go_wp2
  refine bodyPost_end (v := .tuple #[]) (by kernel_rfl) rfl ?_
  exact ⟨rfl, rfl⟩

set_option maxRecDepth 10000 in
set_option maxHeartbeats 32000000 in
theorem stop_bad (c : Int) (hc : c ≠ 0) (w : World) : Calls Try.prog 48 #[.int .i64 c] w fun e w' => e = .panicked [Pe c] ∧ w' = w := by
  go_enter Try.func48, Try.ntmps48
  go_upto_region 0 with fail
  refine wp_region_list ?_
  refine readL (.int .i64 c) rfl (by kernel_rfl) ?_
  simp only [aP, lI, l0, lS]
  refine readL (.bool true) rfl (neqI .i64 _ _ _ _ _ _ rfl rfl rfl true (by simpa using hc) _) ?_
  simp only [aP, lI, l0, lS]
  first | show Exit.then _ _ _ _ _ | show Exit.inBlock _ _ _ _ _
  go_upto_region 1 with fail
  refine wp_region_list ?_
  refine readL (.int .i64 c) rfl (by kernel_rfl) ?_
  simp only [aP, lI, l0, lS]
  refine readL (.iface 28 (.int .i64 c)) rfl (by kernel_rfl) ?_
  simp only [aP, lI, l0, lS]
  refine panicL (.iface 28 (.int .i64 c)) rfl (by kernel_rfl) ?_
  exact ⟨rfl, rfl, rfl⟩

def NumP (w0 : World) (R : Nat) (l : List (Nat × List Value)) (b : List Int) (w : World) (e : Ending) (w' : World) : Prop := (lE b = 0 ∧ e = .returned (.int .i64 (lN b)) ∧ Lft w0 R l w (lR b) w') ∨ (lE b ≠ 0 ∧ Pan w0 R l (lE b) e w')

set_option maxRecDepth 10000 in
set_option maxHeartbeats 32000000 in
theorem fnumber_any (w0 w : World) (R : Nat) (l : List (Nat × List Value)) (sp : Option Addr) (cap : Nat) (b : List Int) (hlen : b.length ≤ 256) (hcap : b.length ≤ cap) (hnil : sp = none → cap = 0) (hb : Byts b) (M : Mm w0 ((R, [.slice sp b.length cap]) :: l) w) (hs : Src w sp b.length (bl b)) :
    Calls Try.prog 44 #[.pointer (some ⟨R, 0, none⟩)] w fun e w' => NumP w0 R l b w e w' := by
  have hlow : ∀ x ∈ [R], x < w.heap.size := fun x hx => by obtain rfl := List.mem_singleton.1 hx; exact M.lt List.mem_cons_self
  go_enter Try.func44, Try.ntmps44
  go_upto_region 0 with fail
  refine wp_region_list ?_
  refine readL (.int .i64 0) rfl (by kernel_rfl) ?_
  simp only [aP, lI, l0, lS]
  first | show Exit.then _ _ _ _ _ | show Exit.inBlock _ _ _ _ _
  go_upto_region 1 with fail
  refine wp_region_list ?_
  refine readL (.pointer (some ⟨R, 0, none⟩)) rfl (by kernel_rfl) ?_
  simp only [aP, lI, l0, lS]
  refine readL (.pointer (some ⟨R, 0, none⟩)) rfl (by kernel_rfl) ?_
  simp only [aP, lI, l0, lS]
  refine readL (.pointer (some ⟨R, 0, none⟩)) rfl (by kernel_rfl) ?_
  simp only [aP, lI, l0, lS]
  refine readL (.slice sp b.length cap) rfl (load1 23 _ ⟨R, 0, none⟩ _ rfl rfl (fun _ => by kernel_rfl) (M.get List.mem_cons_self 0 _ rfl)) ?_
  simp only [aP, lI, l0, lS]
  refine callL rfl (fun _ => by kernel_rfl) (vtakevar_own sp b.length cap (by omega) hcap hnil (bl b) hb.bl _ hs) ?_
  rintro e w1 ⟨⟨v, rfl, O⟩, l1⟩
  replace M := M.call l1
  have OF : Off [R] w w1 := Off.of_below l1
  clear l1
  have O_1 : OwnL w1 w.heap.size (lR b) v := by unfold OwnL; rw [lR_len]; exact Own.congr O fun j hj => lR_bl b j hj
  obtain ⟨p1, c1, rfl, _, _⟩ := O_1.bytes
  clear O
  have e1 : tN b.length (bl b) = lN b := rfl
  have e2 : tE b.length (bl b) = lE b := rfl
  refine ⟨_, rfl, ?_⟩
  simp only [aP, lI, l0, lS]
  rw [e1, e2]
  clear e1 e2
  refine readL (.tuple #[.int .i64 (lN b), .slice p1 ((lR b).length) c1, .int .i64 (lE b)]) rfl (by kernel_rfl) ?_
  simp only [aP, lI, l0, lS]
  refine readL (.int .i64 (lN b)) rfl (by kernel_rfl) ?_
  simp only [aP, lI, l0, lS]
  refine readL (.slice p1 ((lR b).length) c1) rfl (by kernel_rfl) ?_
  simp only [aP, lI, l0, lS]
  refine readL (.int .i64 (lE b)) rfl (by kernel_rfl) ?_
  simp only [aP, lI, l0, lS]
  refine readL (.int .i64 (lN b)) rfl (by kernel_rfl) ?_
  simp only [aP, lI, l0, lS]
  refine readL (.slice p1 ((lR b).length) c1) rfl (by kernel_rfl) ?_
  simp only [aP, lI, l0, lS]
  refine readL (.int .i64 (lE b)) rfl (by kernel_rfl) ?_
  simp only [aP, lI, l0, lS]
  first | show Exit.then _ _ _ _ _ | show Exit.inBlock _ _ _ _ _
  by_cases h : lE b = 0
  · have HA := show Hid _ from h
    rw [h]
    clear h
    go_upto_region 2 with fail
    refine wp_region_list ?_
    refine readL (.int .i64 0) rfl (by kernel_rfl) ?_
    simp only [aP, lI, l0, lS]
    refine callL rfl (fun _ => by kernel_rfl) (stop_ok _) ?_
    rintro e w2 ⟨rfl, hw⟩
    subst hw
    refine ⟨_, rfl, ?_⟩
    simp only [aP, lI, l0, lS]
    first | show Exit.then _ _ _ _ _ | show Exit.inBlock _ _ _ _ _
    go_upto_region 3 with fail
    refine wp_region_list ?_
    refine readL (.pointer (some ⟨R, 0, none⟩)) rfl (by kernel_rfl) ?_
    simp only [aP, lI, l0, lS]
    refine readL (.slice p1 ((lR b).length) c1) rfl (by kernel_rfl) ?_
    simp only [aP, lI, l0, lS]
    refine readL (.pointer (some ⟨R, 0, none⟩)) rfl (by kernel_rfl) ?_
    simp only [aP, lI, l0, lS]
    refine readL (.pointer (some ⟨R, 0, none⟩)) rfl (by kernel_rfl) ?_
    simp only [aP, lI, l0, lS]
    refine skipOpL rfl (storeAny (.slice p1 ((lR b).length) c1) R 0 23 _ _ rfl rfl rfl rfl rfl (M.isSome List.mem_cons_self 0 (by simp)) (M.free List.mem_cons_self 0 (by simp)) (by kernel_rfl)) ?_
    simp only [Act.put]
    replace M := M.set 0 (by simp) (.slice p1 ((lR b).length) c1)
    replace OF := OF.trans ((Off.refl [R] _).set List.mem_cons_self 0 (.slice p1 ((lR b).length) c1))
    replace O_1 := ownsRow_low O_1 ((Off.refl [R] _).set List.mem_cons_self 0 (.slice p1 ((lR b).length) c1)) hlow
    generalize w2.setCell ⟨R, 0, none⟩ (.slice p1 ((lR b).length) c1) = w3 at M OF O_1 ⊢
    replace M : Mm w0 ((R, [.slice p1 ((lR b).length) c1]) :: l) w3 := M
    first | show Exit.then _ _ _ _ _ | show Exit.inBlock _ _ _ _ _
    go_upto_region 4 with fail
    refine wp_region_list ?_
    refine readL (.int .i64 (lN b)) rfl (by kernel_rfl) ?_
    simp only [aP, lI, l0, lS]
    refine readL (.int .i64 (lN b)) rfl (by kernel_rfl) ?_
    simp only [aP, lI, l0, lS]
    first | show Exit.then _ _ _ _ _ | show Exit.inBlock _ _ _ _ _
    go_wp2
    go_ret
    exact .inl ⟨HA.out, rfl, p1, c1, M, OF, O_1⟩
  · go_upto_region 2 with fail
    refine wp_region_list ?_
    refine readL (.int .i64 (lE b)) rfl (by kernel_rfl) ?_
    simp only [aP, lI, l0, lS]
    refine callPL rfl (fun _ => by kernel_rfl) (stop_bad _ h _) ?_
    rintro e w4 ⟨rfl, hw⟩
    subst hw
    right
    refine ⟨_, rfl, ?_⟩
    exact ⟨rfl, .inr ⟨h, rfl, _, M⟩⟩

def TxtP (w0 : World) (R : Nat) (l : List (Nat × List Value)) (b : List Int) (w : World) (e : Ending) (w' : World) : Prop := (qE b = 0 ∧ ∃ pt ct, e = .returned (.slice pt (qT b).length ct) ∧ OwnL w' w.heap.size (qT b) (.slice pt (qT b).length ct) ∧ Lft w0 R l w (qR b) w') ∨ (qE b ≠ 0 ∧ Pan w0 R l (qE b) e w')

set_option maxRecDepth 10000 in
set_option maxHeartbeats 32000000 in
theorem ftext_any (w0 w : World) (R : Nat) (l : List (Nat × List Value)) (sp : Option Addr) (cap : Nat) (b : List Int) (hlen : b.length ≤ 256) (hcap : b.length ≤ cap) (hnil : sp = none → cap = 0) (hb : Byts b) (M : Mm w0 ((R, [.slice sp b.length cap]) :: l) w) (hs : Src w sp b.length (bl b)) :
    Calls Try.prog 45 #[.pointer (some ⟨R, 0, none⟩)] w fun e w' => TxtP w0 R l b w e w' := by
  have hlow : ∀ x ∈ [R], x < w.heap.size := fun x hx => by obtain rfl := List.mem_singleton.1 hx; exact M.lt List.mem_cons_self
  go_enter Try.func45, Try.ntmps45
  go_upto_region 0 with fail
  refine wp_region_list ?_
  refine readL (.slice none 0 0) rfl (by kernel_rfl) ?_
  simp only [aP, lI, l0, lS]
  first | show Exit.then _ _ _ _ _ | show Exit.inBlock _ _ _ _ _
  go_upto_region 1 with fail
  refine wp_region_list ?_
  refine readL (.pointer (some ⟨R, 0, none⟩)) rfl (by kernel_rfl) ?_
  simp only [aP, lI, l0, lS]
  refine readL (.pointer (some ⟨R, 0, none⟩)) rfl (by kernel_rfl) ?_
  simp only [aP, lI, l0, lS]
  refine readL (.pointer (some ⟨R, 0, none⟩)) rfl (by kernel_rfl) ?_
  simp only [aP, lI, l0, lS]
  refine readL (.slice sp b.length cap) rfl (load1 23 _ ⟨R, 0, none⟩ _ rfl rfl (fun _ => by kernel_rfl) (M.get List.mem_cons_self 0 _ rfl)) ?_
  simp only [aP, lI, l0, lS]
  refine callL rfl (fun _ => by kernel_rfl) (vtakebytes_own sp b.length cap (by omega) hcap hnil (bl b) hb.bl 128 ⟨by decide, by decide⟩ _ hs) ?_
  rintro e w1 ⟨⟨tt, vv, rfl, O1, O2⟩, l1⟩
  replace M := M.call l1
  have OF : Off [R] w w1 := Off.of_below l1
  obtain ⟨q1, q2, q3, q4⟩ := q_len b hb
  have O_1 : OwnL w1 w.heap.size (qT b) tt := by unfold OwnL; rw [q1]; exact Own.congr O1 q3
  have O_2 : OwnL w1 w.heap.size (qR b) vv := by unfold OwnL; rw [q2]; exact Own.congr O2 q4
  obtain ⟨p1, c1, rfl, _, _⟩ := O_1.bytes
  obtain ⟨p2, c2, rfl, _, _⟩ := O_2.bytes
  have e3 : xE b.length (bl b) 128 = qE b := rfl
  clear l1 O1 O2 q1 q2 q3 q4
  refine ⟨_, rfl, ?_⟩
  simp only [aP, lI, l0, lS]
  rw [e3]
  clear e3
  refine readL (.tuple #[.slice p1 ((qT b).length) c1, .slice p2 ((qR b).length) c2, .int .i64 (qE b)]) rfl (by kernel_rfl) ?_
  simp only [aP, lI, l0, lS]
  refine readL (.slice p1 ((qT b).length) c1) rfl (by kernel_rfl) ?_
  simp only [aP, lI, l0, lS]
  refine readL (.slice p2 ((qR b).length) c2) rfl (by kernel_rfl) ?_
  simp only [aP, lI, l0, lS]
  refine readL (.int .i64 (qE b)) rfl (by kernel_rfl) ?_
  simp only [aP, lI, l0, lS]
  refine readL (.slice p1 ((qT b).length) c1) rfl (by kernel_rfl) ?_
  simp only [aP, lI, l0, lS]
  refine readL (.slice p2 ((qR b).length) c2) rfl (by kernel_rfl) ?_
  simp only [aP, lI, l0, lS]
  refine readL (.int .i64 (qE b)) rfl (by kernel_rfl) ?_
  simp only [aP, lI, l0, lS]
  first | show Exit.then _ _ _ _ _ | show Exit.inBlock _ _ _ _ _
  by_cases h : qE b = 0
  · have HA := show Hid _ from h
    rw [h]
    clear h
    go_upto_region 2 with fail
    refine wp_region_list ?_
    refine readL (.int .i64 0) rfl (by kernel_rfl) ?_
    simp only [aP, lI, l0, lS]
    refine callL rfl (fun _ => by kernel_rfl) (stop_ok _) ?_
    rintro e w2 ⟨rfl, hw⟩
    subst hw
    refine ⟨_, rfl, ?_⟩
    simp only [aP, lI, l0, lS]
    first | show Exit.then _ _ _ _ _ | show Exit.inBlock _ _ _ _ _
    go_upto_region 3 with fail
    refine wp_region_list ?_
    refine readL (.pointer (some ⟨R, 0, none⟩)) rfl (by kernel_rfl) ?_
    simp only [aP, lI, l0, lS]
    refine readL (.slice p2 ((qR b).length) c2) rfl (by kernel_rfl) ?_
    simp only [aP, lI, l0, lS]
    refine readL (.pointer (some ⟨R, 0, none⟩)) rfl (by kernel_rfl) ?_
    simp only [aP, lI, l0, lS]
    refine readL (.pointer (some ⟨R, 0, none⟩)) rfl (by kernel_rfl) ?_
    simp only [aP, lI, l0, lS]
    refine skipOpL rfl (storeAny (.slice p2 ((qR b).length) c2) R 0 23 _ _ rfl rfl rfl rfl rfl (M.isSome List.mem_cons_self 0 (by simp)) (M.free List.mem_cons_self 0 (by simp)) (by kernel_rfl)) ?_
    simp only [Act.put]
    replace M := M.set 0 (by simp) (.slice p2 ((qR b).length) c2)
    replace OF := OF.trans ((Off.refl [R] _).set List.mem_cons_self 0 (.slice p2 ((qR b).length) c2))
    replace O_1 := ownsRow_low O_1 ((Off.refl [R] _).set List.mem_cons_self 0 (.slice p2 ((qR b).length) c2)) hlow
    replace O_2 := ownsRow_low O_2 ((Off.refl [R] _).set List.mem_cons_self 0 (.slice p2 ((qR b).length) c2)) hlow
    generalize w2.setCell ⟨R, 0, none⟩ (.slice p2 ((qR b).length) c2) = w3 at M OF O_1 O_2 ⊢
    replace M : Mm w0 ((R, [.slice p2 ((qR b).length) c2]) :: l) w3 := M
    first | show Exit.then _ _ _ _ _ | show Exit.inBlock _ _ _ _ _
    go_upto_region 4 with fail
    refine wp_region_list ?_
    refine readL (.slice p1 ((qT b).length) c1) rfl (by kernel_rfl) ?_
    simp only [aP, lI, l0, lS]
    refine readL (.slice p1 ((qT b).length) c1) rfl (by kernel_rfl) ?_
    simp only [aP, lI, l0, lS]
    first | show Exit.then _ _ _ _ _ | show Exit.inBlock _ _ _ _ _
    go_wp2
    go_ret
    exact .inl ⟨HA.out, p1, c1, rfl, O_1, p2, c2, M, OF, O_2⟩
  · go_upto_region 2 with fail
    refine wp_region_list ?_
    refine readL (.int .i64 (qE b)) rfl (by kernel_rfl) ?_
    simp only [aP, lI, l0, lS]
    refine callPL rfl (fun _ => by kernel_rfl) (stop_bad _ h _) ?_
    rintro e w4 ⟨rfl, hw⟩
    subst hw
    right
    refine ⟨_, rfl, ?_⟩
    exact ⟨rfl, .inr ⟨h, rfl, _, M⟩⟩

set_option maxRecDepth 10000 in
set_option maxHeartbeats 32000000 in
theorem fkind_any (w0 w : World) (R : Nat) (l : List (Nat × List Value)) (ad : Addr) (c : Nat) (x : Int) (bt : List Int) (hc : bt.length + 1 ≤ c) (hx : 0 ≤ x ∧ x < 256) (M : Mm w0 ((R, [.slice (some ad) (bt.length + 1) c]) :: l) w) (hcell : w.cell? (ad.add 0) = some (.int .u8 x)) :
    Calls Try.prog 43 #[.pointer (some ⟨R, 0, none⟩)] w fun e w' => e = .returned (.int .i64 x) ∧ ∃ cq, Mm w0 ((R, [.slice cq bt.length (c - 1)]) :: l) w' ∧ Off [R] w w' ∧ (∀ X w z, SrcA X w (some ad) (bt.length + 1) z → SrcA X w cq bt.length (fun j => z (1 + j))) ∧ (cq = none → c - 1 = 0) := by
  have OF := Off.refl [R] w
  go_enter Try.func43, Try.ntmps43
  go_upto_region 0 with fail
  refine wp_region_list ?_
  refine readL (.int .i64 0) rfl (by kernel_rfl) ?_
  simp only [aP, lI, l0, lS]
  first | show Exit.then _ _ _ _ _ | show Exit.inBlock _ _ _ _ _
  go_upto_region 1 with fail
  refine wp_region_list ?_
  refine readL (.pointer (some ⟨R, 0, none⟩)) rfl (by kernel_rfl) ?_
  simp only [aP, lI, l0, lS]
  refine readL (.pointer (some ⟨R, 0, none⟩)) rfl (by kernel_rfl) ?_
  simp only [aP, lI, l0, lS]
  refine readL (.pointer (some ⟨R, 0, none⟩)) rfl (by kernel_rfl) ?_
  simp only [aP, lI, l0, lS]
  refine readL (.slice (some ad) (bt.length + 1) c) rfl (load1 23 _ ⟨R, 0, none⟩ _ rfl rfl (fun _ => by kernel_rfl) (M.get List.mem_cons_self 0 _ rfl)) ?_
  simp only [aP, lI, l0, lS]
  refine readL (.pointer (some (ad.add 0))) rfl (idxSl 23 5 (bt.length + 1) c .i64 ad 0 _ _ Try.underlying23 (fun _ => by kernel_rfl) (by omega) rfl rfl rfl _) ?_
  simp only [aP, lI, l0, lS]
  refine readL (.int .u8 x) rfl (load1 5 _ (ad.add 0) _ rfl rfl (fun _ => by kernel_rfl) (hcell)) ?_
  simp only [aP, lI, l0, lS]
  refine readL (.int .u8 x) rfl (by kernel_rfl) ?_
  simp only [aP, lI, l0, lS]
  first | show Exit.then _ _ _ _ _ | show Exit.inBlock _ _ _ _ _
  go_upto_region 2 with fail
  refine wp_region_list ?_
  refine readL (.pointer (some ⟨R, 0, none⟩)) rfl (by kernel_rfl) ?_
  simp only [aP, lI, l0, lS]
  refine readL (.pointer (some ⟨R, 0, none⟩)) rfl (by kernel_rfl) ?_
  simp only [aP, lI, l0, lS]
  refine readL (.pointer (some ⟨R, 0, none⟩)) rfl (by kernel_rfl) ?_
  simp only [aP, lI, l0, lS]
  refine readL (.pointer (some ⟨R, 0, none⟩)) rfl (by kernel_rfl) ?_
  simp only [aP, lI, l0, lS]
  refine readL (.slice (some ad) (bt.length + 1) c) rfl (load1 23 _ ⟨R, 0, none⟩ _ rfl rfl (fun _ => by kernel_rfl) (M.get List.mem_cons_self 0 _ rfl)) ?_
  simp only [aP, lI, l0, lS]
  obtain ⟨cq, hcut, hcs, hcn⟩ := cut_loA (P := Try.prog) (t := 23) (by kernel_rfl) (fun _ => by kernel_rfl) (some ad) (bt.length + 1) c 1 (by omega) hc (fun e => by cases e)
  refine readL (.slice cq bt.length (c - 1)) rfl (cutOp _ _ _ _ _ _ rfl rfl rfl (hcut _)) ?_
  simp only [aP, lI, l0, lS]
  refine readL (.pointer (some ⟨R, 0, none⟩)) rfl (by kernel_rfl) ?_
  simp only [aP, lI, l0, lS]
  refine readL (.pointer (some ⟨R, 0, none⟩)) rfl (by kernel_rfl) ?_
  simp only [aP, lI, l0, lS]
  refine skipOpL rfl (storeAny (.slice cq bt.length (c - 1)) R 0 23 _ _ rfl rfl rfl rfl rfl (M.isSome List.mem_cons_self 0 (by simp)) (M.free List.mem_cons_self 0 (by simp)) (by kernel_rfl)) ?_
  simp only [Act.put]
  replace M := M.set 0 (by simp) (.slice cq bt.length (c - 1))
  replace OF := OF.trans ((Off.refl [R] _).set List.mem_cons_self 0 (.slice cq bt.length (c - 1)))
  generalize w.setCell ⟨R, 0, none⟩ (.slice cq bt.length (c - 1)) = w1 at M OF ⊢
  replace M : Mm w0 ((R, [.slice cq bt.length (c - 1)]) :: l) w1 := M
  first | show Exit.then _ _ _ _ _ | show Exit.inBlock _ _ _ _ _
  go_upto_region 3 with fail
  refine wp_region_list ?_
  refine readL (.int .u8 x) rfl (by kernel_rfl) ?_
  simp only [aP, lI, l0, lS]
  refine readL (.int .i64 x) rfl (convI .u8 .i64 _ _ _ _ _ rfl (by kernel_rfl) Try.underlying3 (by kernel_rfl) rfl (by rw [IntKind.wrap_i64]; omega) _) ?_
  simp only [aP, lI, l0, lS]
  refine readL (.int .i64 x) rfl (by kernel_rfl) ?_
  simp only [aP, lI, l0, lS]
  first | show Exit.then _ _ _ _ _ | show Exit.inBlock _ _ _ _ _
  go_wp2
  go_ret
  exact ⟨rfl, cq, M, OF, hcs, hcn⟩

def NxtP (w0 : World) (R : Nat) (l : List (Nat × List Value)) (last : Int) (b : List Int) (w : World) (e : Ending) (w' : World) : Prop :=
  (lE b = 0 ∧ lE (lR b) = 0 ∧ ¬ (MX - last < lN b ∨ MX - last - lN b < lN (lR b)) ∧ e = .returned (.agg #[.int .i64 (last + lN b), .int .i64 (last + lN b + lN (lR b))]) ∧ Lft w0 R l w (lR (lR b)) w') ∨ (∃ c, (∀ n, rd (n + 1) last b = .error c) ∧ Pan w0 R l c e w')

set_option maxRecDepth 10000 in
set_option maxHeartbeats 32000000 in
theorem fnext_any (w0 w : World) (R : Nat) (l : List (Nat × List Value)) (sp : Option Addr) (cap : Nat) (b : List Int) (hlen : b.length ≤ 256) (hcap : b.length ≤ cap) (hnil : sp = none → cap = 0) (hb : Byts b) (last : Int) (hl0 : 0 ≤ last) (hl1 : last ≤ 4611686018427387903) (M : Mm w0 ((R, [.slice sp b.length cap]) :: l) w) (hs : Src w sp b.length (bl b)) :
    Calls Try.prog 56 #[.pointer (some ⟨R, 0, none⟩), .int .i64 last] w fun e w' => NxtP w0 R l last b w e w' := by
  go_enter Try.func56, Try.ntmps56
  go_upto_region 0 with fail
  refine wp_region_list ?_
  refine actL (w' := w.alloc (.cells #[.int .i64 0, .int .i64 0] 43)) (.pointer (some ⟨w.heap.size, 0, none⟩)) rfl (by kernel_rfl) ?_
  simp only [aP, lI, l0, lS]
  have hB_B1 : w0.heap.size ≤ w.heap.size := M.below.size
  have hB1b := (Below.refl w.heap.size w).alloc (Nat.le_refl _) (.cells #[.int .i64 0, .int .i64 0] 43)
  have hRw := M.lt List.mem_cons_self
  replace M := M.box #[.int .i64 0, .int .i64 0] 43 w.heap.size rfl
  generalize w.alloc (.cells #[.int .i64 0, .int .i64 0] 43) = w1 at M hB1b ⊢
  generalize eB : w.heap.size = B1 at M hB_B1 ⊢
  have hE_B1 : w.heap.size ≤ B1 := Nat.le_of_eq eB
  have hF_B1 : B1 ≤ w.heap.size := Nat.le_of_eq eB.symm
  clear eB
  replace M : Mm w0 ((B1, [.int .i64 0, .int .i64 0]) :: (R, [.slice sp b.length cap]) :: l) w1 := M
  first | show Exit.then _ _ _ _ _ | show Exit.inBlock _ _ _ _ _
  have OF : Off [R, B1] w w1 := Off.of_below hB1b
  have hRB := M.lt (List.mem_cons_of_mem _ List.mem_cons_self)
  have hBlt := M.lt List.mem_cons_self
  have hB := hB1b
  go_upto_region 1 with fail
  refine wp_region_list ?_
  refine readL (.pointer (some ⟨R, 0, none⟩)) rfl (by kernel_rfl) ?_
  simp only [aP, lI, l0, lS]
  replace M := M.swap
  refine callPL rfl (fun _ => by kernel_rfl) (fnumber_any w0 _ R _ _ _ b hlen hcap hnil hb M (hs.below hB (Nat.le_refl _))) ?_
  rintro e w2 (⟨h2, rfl, p2, c2, M', o2, O_2⟩ | ⟨h2, rfl, s2, M'⟩)
  rotate_left
  · right
    refine ⟨_, rfl, ?_⟩
    exact ⟨rfl, .inr ⟨_, fun n => rd_gap h2, rfl, s2, M'.drop2⟩⟩
  left
  clear M
  have M := M'
  clear M'
  have hc2 := O_2.le
  have hn2 := O_2.nilCap
  have hl2 := lR_le b
  have hb2 := lR_byts hb
  have ho2 := o2.size
  replace OF := OF.trans (o2.mono (Y := [R, B1]) (fun x hx => by obtain rfl := List.mem_singleton.1 hx; exact List.mem_cons_self))
  refine ⟨_, rfl, ?_⟩
  simp only [aP, lI, l0, lS]
  refine readL (.int .i64 (lN b)) rfl (by kernel_rfl) ?_
  simp only [aP, lI, l0, lS]
  first | show Exit.then _ _ _ _ _ | show Exit.inBlock _ _ _ _ _
  go_upto_region 2 with fail
  refine wp_region_list ?_
  refine readL (.pointer (some ⟨R, 0, none⟩)) rfl (by kernel_rfl) ?_
  simp only [aP, lI, l0, lS]
  refine callPL rfl (fun _ => by kernel_rfl) (fnumber_any w0 _ R _ _ _ (lR b) (Nat.le_trans (lR_le b) hlen) hc2 hn2 hb2 M O_2.src) ?_
  rintro e w3 (⟨h3, rfl, p3, c3, M', o3, O_3⟩ | ⟨h3, rfl, s3, M'⟩)
  rotate_left
  · right
    refine ⟨_, rfl, ?_⟩
    exact ⟨rfl, .inr ⟨_, fun n => rd_len h2 h3, rfl, s3, M'.drop2⟩⟩
  left
  clear M
  have M := M'
  clear M'
  have hc3 := O_3.le
  have hn3 := O_3.nilCap
  have hl3 := lR_le (lR b)
  have hb3 := lR_byts hb2
  have ho3 := o3.size
  replace OF := OF.trans (o3.mono (Y := [R, B1]) (fun x hx => by obtain rfl := List.mem_singleton.1 hx; exact List.mem_cons_self))
  refine ⟨_, rfl, ?_⟩
  simp only [aP, lI, l0, lS]
  refine readL (.int .i64 (lN (lR b))) rfl (by kernel_rfl) ?_
  simp only [aP, lI, l0, lS]
  first | show Exit.then _ _ _ _ _ | show Exit.inBlock _ _ _ _ _
  have hg1 := lN_pos hb h2
  have hg2 := lN_pos hb2 h3
  go_upto_region 3 with fail
  refine wp_region_list ?_
  refine readL (.int .i64 last) rfl (by kernel_rfl) ?_
  simp only [aP, lI, l0, lS]
  refine readL (.int .i64 (4611686018427387903 - last)) rfl (subI .i64 _ _ _ _ _ _ _ rfl rfl rfl (by rw [IntKind.wrap_i64]; omega) _) ?_
  simp only [aP, lI, l0, lS]
  refine readL (.int .i64 (lN b)) rfl (by kernel_rfl) ?_
  simp only [aP, lI, l0, lS]
  refine readL (.int .i64 ((4611686018427387903 - last) - (lN b))) rfl (subI .i64 _ _ _ _ _ _ _ rfl rfl rfl (by rw [IntKind.wrap_i64]; omega) _) ?_
  simp only [aP, lI, l0, lS]
  refine readL (.int .i64 ((4611686018427387903 - last) - (lN b))) rfl (by kernel_rfl) ?_
  simp only [aP, lI, l0, lS]
  first | show Exit.then _ _ _ _ _ | show Exit.inBlock _ _ _ _ _
  by_cases hfar : MX - last < lN b ∨ MX - last - lN b < lN (lR b)
  · go_upto_region 4 with fail
    refine wp_region_list ?_
    refine readL (.int .i64 (lN (lR b))) rfl (by kernel_rfl) ?_
    simp only [aP, lI, l0, lS]
    refine readL (.int .i64 ((4611686018427387903 - last) - (lN b))) rfl (by kernel_rfl) ?_
    simp only [aP, lI, l0, lS]
    refine readL (.bool true) rfl (gtrI .i64 _ _ _ _ _ _ rfl rfl rfl true (decide_eq_true (by unfold MX at hfar; omega)) _) ?_
    simp only [aP, lI, l0, lS]
    first | show Exit.then _ _ _ _ _ | show Exit.inBlock _ _ _ _ _
    go_upto_region 5 with fail
    refine wp_region_list ?_
    refine readL (.iface 28 (.int .i64 100)) rfl (by kernel_rfl) ?_
    simp only [aP, lI, l0, lS]
    refine panicL (.iface 28 (.int .i64 100)) rfl (by kernel_rfl) ?_
    exact ⟨rfl, .inr ⟨_, fun n => rd_far h2 h3 hfar, rfl, _, M.drop2⟩⟩
  · go_upto_region 4 with fail
    refine wp_region_list ?_
    refine readL (.int .i64 (lN (lR b))) rfl (by kernel_rfl) ?_
    simp only [aP, lI, l0, lS]
    refine readL (.int .i64 ((4611686018427387903 - last) - (lN b))) rfl (by kernel_rfl) ?_
    simp only [aP, lI, l0, lS]
    refine readL (.bool false) rfl (gtrI .i64 _ _ _ _ _ _ rfl rfl rfl false (decide_eq_false (by unfold MX at hfar; omega)) _) ?_
    simp only [aP, lI, l0, lS]
    first | show Exit.then _ _ _ _ _ | show Exit.inBlock _ _ _ _ _
    go_upto_region 6 with fail
    refine wp_region_list ?_
    refine readL (.int .i64 last) rfl (by kernel_rfl) ?_
    simp only [aP, lI, l0, lS]
    refine readL (.int .i64 (lN b)) rfl (by kernel_rfl) ?_
    simp only [aP, lI, l0, lS]
    refine readL (.int .i64 (last + lN b)) rfl (addI .i64 _ _ _ _ _ _ _ rfl rfl rfl (by unfold MX at hfar; rw [IntKind.wrap_i64]; omega) _) ?_
    simp only [aP, lI, l0, lS]
    refine readL (.int .i64 (last + lN b)) rfl (by kernel_rfl) ?_
    simp only [aP, lI, l0, lS]
    first | show Exit.then _ _ _ _ _ | show Exit.inBlock _ _ _ _ _
    have hlow2 : ∀ x ∈ [R, B1], x < w2.heap.size := fun x hx => by rcases List.mem_cons.1 hx with rfl | hx; omega; obtain rfl := List.mem_singleton.1 hx; omega
    go_upto_region 7 with fail
    refine wp_region_list ?_
    refine readL (.int .i64 (last + lN b)) rfl (by kernel_rfl) ?_
    simp only [aP, lI, l0, lS]
    refine readL (.int .i64 (last + lN b)) rfl (by kernel_rfl) ?_
    simp only [aP, lI, l0, lS]
    refine readL (.int .i64 (lN (lR b))) rfl (by kernel_rfl) ?_
    simp only [aP, lI, l0, lS]
    refine readL (.int .i64 (last + lN b + lN (lR b))) rfl (addI .i64 _ _ _ _ _ _ _ rfl rfl rfl (by unfold MX at hfar; rw [IntKind.wrap_i64]; omega) _) ?_
    simp only [aP, lI, l0, lS]
    refine readL (.agg #[.int .i64 (last + lN b), .int .i64 (last + lN b + lN (lR b))]) rfl (by kernel_rfl) ?_
    simp only [aP, lI, l0, lS]
    replace M := M.swap
    refine skipOpL rfl (storeP [.int .i64 (last + lN b), .int .i64 (last + lN b + lN (lR b))] B1 0 43 _ _ rfl rfl rfl (M.thereP List.mem_cons_self 0 2 (Nat.le_of_ble_eq_true rfl)) (by kernel_rfl) (List.all_eq_true.1 (rfl : ([.int .i64 (last + lN b), .int .i64 (last + lN b + lN (lR b))] : List Value).all (fun u => u.oneCell') = true))) ?_
    simp only [Act.put]
    replace M := M.setPart [.int .i64 (last + lN b), .int .i64 (last + lN b + lN (lR b))] 0 (Nat.le_of_ble_eq_true rfl)
    replace OF := OF.trans ((Off.refl [R, B1] _).setAll (List.mem_cons_of_mem _ List.mem_cons_self) 0 [.int .i64 (last + lN b), .int .i64 (last + lN b + lN (lR b))])
    replace O_3 := ownsRow_low O_3 ((Off.refl [R, B1] _).setAll (List.mem_cons_of_mem _ List.mem_cons_self) 0 [.int .i64 (last + lN b), .int .i64 (last + lN b + lN (lR b))]) hlow2
    generalize w3.setCells B1 0 [.int .i64 (last + lN b), .int .i64 (last + lN b + lN (lR b))] = w4 at M OF O_3 ⊢
    replace M : Mm w0 ((B1, [.int .i64 (last + lN b), .int .i64 (last + lN b + lN (lR b))]) :: (R, [.slice p3 ((lR (lR b)).length) c3]) :: l) w4 := M
    first | show Exit.then _ _ _ _ _ | show Exit.inBlock _ _ _ _ _
    replace M := M.swap
    have HS := show Hid _ from (And.intro h2 (And.intro h3 (And.intro hfar (And.intro M (And.intro OF O_3)))))
    clear M OF O_3 hfar h2 h3
    go_wp2
    have c1 := HS.out.2.2.2.1.part (List.mem_cons_of_mem _ List.mem_cons_self) 0 [.int .i64 (last + lN b), .int .i64 (last + lN b + lN (lR b))] rfl
    refine bodyPost_ret (v := .agg #[.int .i64 (last + lN b), .int .i64 (last + lN b + lN (lR b))]) (retCell 4 43 ⟨B1, 0, none⟩ [.int .i64 (last + lN b), .int .i64 (last + lN b + lN (lR b))] rfl rfl (fun _ => by kernel_rfl) (fun _ => by kernel_rfl) c1) rfl ?_
    exact .inl ⟨HS.out.1, HS.out.2.1, HS.out.2.2.1, rfl, _, _, HS.out.2.2.2.1.drop2, HS.out.2.2.2.2.1.lessN (fun x hx => by rcases List.mem_cons.1 hx with rfl | hx; exact .inl List.mem_cons_self; obtain rfl := List.mem_singleton.1 hx; exact .inr hE_B1), Own.lower (show OwnL _ _ (lR (lR b)) _ from HS.out.2.2.2.2.2) (by omega)⟩
end Go.Proofs.Yteaamgjlkohfcaa

namespace Go.Proofs.Yteaamgjlkohfcaa
open Go.RowKit

theorem Off.and1 {X : List Nat} {w w1 w2 : World} {b : Nat} (h : Off X w w1) (g : Off [b] w1 w2) (hb : b ∈ X ∨ w.heap.size ≤ b) : Off X w w2 :=
  ⟨Nat.le_trans h.size g.size, fun c hc hX => (g.blk c (Nat.lt_of_lt_of_le hc h.size) (fun e => by
    obtain rfl := List.mem_singleton.1 e
    rcases hb with h' | h'
    · exact hX h'
    · omega)).trans (h.blk c hc hX)⟩
theorem run_copy_part {P : Program} {o : Oper} {a : Act} {w : World} (d s : Operand) (dT sT elem : TypeId) (ho : o.op = .call { callee := .builtin .copy, args := #[d, s], argTypes := #[dT, sT] }) (hu : P.underlying dT = some (.slice elem)) (hsz : (P.info? elem).map (·.size) = some 1)
    (b dLen dCap sLen sCap m : Nat) (z : Nat → Int) (ad : Addr) (hd : a.eval d = .slice (some ⟨b, 0, none⟩) dLen dCap) (hs : a.eval s = .slice (some ad) sLen sCap) (hmin : m = Nat.min sLen dLen) (hb : w.there b 0 m) (hc : Src w (some ad) m z) :
    (execOp a.eval o).run P w = .ok (.value (.int .i64 (m : Int))) (w.setCells b 0 (row .u8 m z)) := by
  have hrun := run_copy_cells (P := P) w dT sT o.type elem b 0 dLen dCap ad sLen sCap (row .u8 m z) hu hsz (by rw [row_length]; exact hmin) (fun j v hv => by
    obtain ⟨hj, rfl⟩ := row_get_some hv
    obtain ⟨ad', he, hc'⟩ := hc j hj
    injection he with he
    subst he
    exact hc') (fun j hj => by rw [row_length] at hj; exact (hb j hj).1) (fun j hj => by rw [row_length] at hj; exact (hb j hj).2) (row_one .u8 m z)
  rw [row_length] at hrun
  simp [execOp, ho, resolve, invoke, builtin, hd, hs, hrun, Result.andThen, goInt]
def tk8 (b : List Int) : List Value := [.int .u8 (bl b 0), .int .u8 (bl b 1), .int .u8 (bl b 2), .int .u8 (bl b 3), .int .u8 (bl b 4), .int .u8 (bl b 5), .int .u8 (bl b 6), .int .u8 (bl b 7)]
def TokP (w0 : World) (R : Nat) (l : List (Nat × List Value)) (sp : Option Addr) (cap : Nat) (b : List Int) (w : World) (e : Ending) (w' : World) : Prop :=
  (8 ≤ b.length ∧ e = .returned (.agg (tk8 b).toArray) ∧ ∃ cq, Mm w0 ((R, [.slice cq (b.length - 8) (cap - 8)]) :: l) w' ∧ Off [R] w w' ∧ (∀ X w z, SrcA X w sp b.length z → SrcA X w cq (b.length - 8) (fun j => z (8 + j))) ∧ (cq = none → cap - 8 = 0)) ∨ (b.length < 8 ∧ Pan w0 R l 3 e w')

set_option maxRecDepth 10000 in
set_option maxHeartbeats 32000000 in
theorem ftoken_any (w0 w : World) (R : Nat) (l : List (Nat × List Value)) (sp : Option Addr) (cap : Nat) (b : List Int) (hlen : b.length ≤ 256) (hcap : b.length ≤ cap) (hnil : sp = none → cap = 0) (M : Mm w0 ((R, [.slice sp b.length cap]) :: l) w) (hs : Src w sp b.length (bl b)) :
    Calls Try.prog 47 #[.pointer (some ⟨R, 0, none⟩)] w fun e w' => TokP w0 R l sp cap b w e w' := by
  have OF := Off.refl [R] w
  have hRw := M.lt List.mem_cons_self
  go_enter Try.func47, Try.ntmps47
  go_upto_region 0 with fail
  refine wp_region_list ?_
  refine actL (w' := w.alloc (.cells #[.int .u8 0, .int .u8 0, .int .u8 0, .int .u8 0, .int .u8 0, .int .u8 0, .int .u8 0, .int .u8 0] 24)) (.pointer (some ⟨w.heap.size, 0, none⟩)) rfl (by kernel_rfl) ?_
  simp only [aP, lI, l0, lS]
  have hlb := (Below.refl w.heap.size w).alloc (Nat.le_refl _) (.cells #[.int .u8 0, .int .u8 0, .int .u8 0, .int .u8 0, .int .u8 0, .int .u8 0, .int .u8 0, .int .u8 0] 24)
  replace OF := OF.below hlb
  have hb1 := hlb
  have hz1 := hlb.size
  clear hlb
  have hB_B1 : w0.heap.size ≤ w.heap.size := M.below.size
  replace M := M.box #[.int .u8 0, .int .u8 0, .int .u8 0, .int .u8 0, .int .u8 0, .int .u8 0, .int .u8 0, .int .u8 0] 24 w.heap.size rfl
  generalize w.alloc (.cells #[.int .u8 0, .int .u8 0, .int .u8 0, .int .u8 0, .int .u8 0, .int .u8 0, .int .u8 0, .int .u8 0] 24) = w1 at M OF hb1 hz1 ⊢
  generalize eB : w.heap.size = B1 at M hB_B1  ⊢
  have hE_B1 : w.heap.size ≤ B1 := Nat.le_of_eq eB
  have hF_B1 : B1 ≤ w.heap.size := Nat.le_of_eq eB.symm
  clear eB
  replace M : Mm w0 ((B1, [.int .u8 0, .int .u8 0, .int .u8 0, .int .u8 0, .int .u8 0, .int .u8 0, .int .u8 0, .int .u8 0]) :: (R, [.slice sp b.length cap]) :: l) w1 := M
  first | show Exit.then _ _ _ _ _ | show Exit.inBlock _ _ _ _ _
  go_upto_region 1 with fail
  refine wp_region_list ?_
  refine actL (w' := w1.alloc (.cells #[.int .u8 0, .int .u8 0, .int .u8 0, .int .u8 0, .int .u8 0, .int .u8 0, .int .u8 0, .int .u8 0] 24)) (.pointer (some ⟨w1.heap.size, 0, none⟩)) rfl (by kernel_rfl) ?_
  simp only [aP, lI, l0, lS]
  have hlb := (Below.refl w1.heap.size w1).alloc (Nat.le_refl _) (.cells #[.int .u8 0, .int .u8 0, .int .u8 0, .int .u8 0, .int .u8 0, .int .u8 0, .int .u8 0, .int .u8 0] 24)
  replace OF := OF.below hlb
  have hb2 := hlb
  clear hlb
  have hB_B2 : w0.heap.size ≤ w1.heap.size := M.below.size
  replace M := M.box #[.int .u8 0, .int .u8 0, .int .u8 0, .int .u8 0, .int .u8 0, .int .u8 0, .int .u8 0, .int .u8 0] 24 w1.heap.size rfl
  generalize w1.alloc (.cells #[.int .u8 0, .int .u8 0, .int .u8 0, .int .u8 0, .int .u8 0, .int .u8 0, .int .u8 0, .int .u8 0] 24) = w2 at M OF hb2 ⊢
  generalize eB : w1.heap.size = B2 at M hB_B2  ⊢
  have hE_B2 : w1.heap.size ≤ B2 := Nat.le_of_eq eB
  have hF_B2 : B2 ≤ w1.heap.size := Nat.le_of_eq eB.symm
  clear eB
  replace M : Mm w0 ((B2, [.int .u8 0, .int .u8 0, .int .u8 0, .int .u8 0, .int .u8 0, .int .u8 0, .int .u8 0, .int .u8 0]) :: (B1, [.int .u8 0, .int .u8 0, .int .u8 0, .int .u8 0, .int .u8 0, .int .u8 0, .int .u8 0, .int .u8 0]) :: (R, [.slice sp b.length cap]) :: l) w2 := M
  first | show Exit.then _ _ _ _ _ | show Exit.inBlock _ _ _ _ _
  have hS0 : Src w2 sp b.length (bl b) := ((hs.below hb1 (Nat.le_refl _)).below hb2 (Nat.le_refl _))
  go_upto_region 2 with fail
  refine wp_region_held_drew (S := fun w' => ∃ cs, Mm w0 ((B2, cs) :: (B1, [.int .u8 0, .int .u8 0, .int .u8 0, .int .u8 0, .int .u8 0, .int .u8 0, .int .u8 0, .int .u8 0]) :: (R, [.slice sp b.length cap]) :: l) w') (by kernel_rfl) ⟨_, M.drew⟩ ?_
  intro _
  replace M := M.drew
  replace OF := OF.below (Below.refl _ _).drew
  replace hS0 : Src w2.drew sp b.length (bl b) := hS0.below (Below.refl w2.heap.size w2).drew (Nat.le_refl _)
  have hdz : w2.heap.size ≤ w2.drew.heap.size := (Below.refl w2.heap.size w2).drew.size
  generalize w2.drew = w3 at M OF hS0 hdz ⊢
  refine readH (i := 0) (some 5) rfl (.slice (some ⟨B2, 0, none⟩) 8 8) rfl rfl (fun _ _ => cutAll 24 _ _ _ rfl rfl (by kernel_rfl)) (by kernel_rfl) (by kernel_rfl) (by kernel_rfl) (fun _ _ _ h => h) ⟨_, M⟩ ?_
  simp only [aP, lI, l0, lS]
  refine readH (i := 1) (some 6) rfl (.pointer (some ⟨R, 0, none⟩)) rfl rfl (fun _ _ => by kernel_rfl) (by kernel_rfl) (by kernel_rfl) (by kernel_rfl) (fun _ _ _ h => h) ⟨_, M⟩ ?_
  simp only [aP, lI, l0, lS]
  refine readH (i := 2) (some 7) rfl (.pointer (some ⟨R, 0, none⟩)) rfl rfl (fun _ _ => by kernel_rfl) (by kernel_rfl) (by kernel_rfl) (by kernel_rfl) (fun _ _ _ h => h) ⟨_, M⟩ ?_
  simp only [aP, lI, l0, lS]
  refine readH (i := 3) (some 8) rfl (.pointer (some ⟨R, 0, none⟩)) rfl rfl (fun _ _ => by kernel_rfl) (by kernel_rfl) (by kernel_rfl) (by kernel_rfl) (fun _ _ _ h => h) ⟨_, M⟩ ?_
  simp only [aP, lI, l0, lS]
  refine readH (i := 4) (some 9) rfl (.slice sp b.length cap) rfl rfl (fun _ hS => by obtain ⟨cs, M⟩ := hS; exact load1 23 _ ⟨R, 0, none⟩ _ rfl rfl (fun _ => by kernel_rfl) (M.get (List.mem_cons_of_mem _ (List.mem_cons_of_mem _ List.mem_cons_self)) 0 _ rfl)) (by kernel_rfl) (by kernel_rfl) (by kernel_rfl) (fun _ _ _ h => h) ⟨_, M⟩ ?_
  simp only [aP, lI, l0, lS]
  by_cases h8 : b.length < 8
  · 
    have M2 := Mm.setPart M (row .u8 b.length (bl b)) 0 (by rw [row_length]; show 0 + b.length ≤ 8; omega)
    refine onlyH (i := 5) (some 10) rfl (.int .i64 (b.length : Int)) (by kernel_rfl) rfl rfl (run_copy_src _ _ 23 23 5 rfl Try.underlying23 (by kernel_rfl) B2 8 8 b.length cap 8 sp (bl b) rfl rfl (by omega) (by omega) (M.thereP List.mem_cons_self 0 8 (Nat.le_of_ble_eq_true rfl)) hS0) ⟨_, M2⟩ ?_
    simp only [aP, lI, l0, lS]
    clear M OF hS0
    generalize w3.setCells B2 0 (row .u8 b.length (bl b)) = w4 at M2 ⊢
    have M := M2
    clear M2
    refine readH (i := 6) (some 4) rfl (.int .i64 (b.length : Int)) rfl rfl (fun _ _ => by kernel_rfl) (by kernel_rfl) (by kernel_rfl) (by kernel_rfl) (fun _ _ _ h => h) ⟨_, M⟩ ?_
    simp only [aP, lI, l0, lS]
    refine wpAnyH_done (by kernel_rfl) ?_ _
    first | show Exit.then _ _ _ _ _ | show Exit.inBlock _ _ _ _ _
    go_upto_region 3 with fail
    refine wp_region_list ?_
    refine readL (.int .i64 (b.length : Int)) rfl (by kernel_rfl) ?_
    simp only [aP, lI, l0, lS]
    refine readL (.bool true) rfl (lssI .i64 _ _ _ _ _ _ rfl rfl rfl true (decide_eq_true (by omega)) _) ?_
    simp only [aP, lI, l0, lS]
    first | show Exit.then _ _ _ _ _ | show Exit.inBlock _ _ _ _ _
    go_upto_region 4 with fail
    refine wp_region_list ?_
    refine readL (.iface 28 (.int .i64 3)) rfl (by kernel_rfl) ?_
    simp only [aP, lI, l0, lS]
    refine panicL (.iface 28 (.int .i64 3)) rfl (by kernel_rfl) ?_
    exact ⟨rfl, .inr ⟨h8, rfl, _, M.rot3.drop2.drop2⟩⟩
  · obtain ⟨ad, rfl, _⟩ := hS0 0 (by omega)
    have hS8 : Src w3 (some ad) 8 (bl b) := fun j hj => hS0 j (by omega)
    have M2 : Mm w0 ((B2, tk8 b) :: (B1, [.int .u8 0, .int .u8 0, .int .u8 0, .int .u8 0, .int .u8 0, .int .u8 0, .int .u8 0, .int .u8 0]) :: (R, [.slice (some ad) b.length cap]) :: l) (w3.setCells B2 0 (row .u8 8 (bl b))) := Mm.setPart M (row .u8 8 (bl b)) 0 (Nat.le_of_ble_eq_true rfl)
    refine onlyH (i := 5) (some 10) rfl (.int .i64 8) (by kernel_rfl) rfl rfl (run_copy_part _ _ 23 23 5 rfl Try.underlying23 (by kernel_rfl) B2 8 8 b.length cap 8 (bl b) ad rfl rfl (Nat.min_eq_right (by omega)).symm (M.thereP List.mem_cons_self 0 8 (Nat.le_of_ble_eq_true rfl)) hS8) ⟨_, M2⟩ ?_
    simp only [aP, lI, l0, lS]
    replace OF := OF.and1 ((Off.refl [B2] _).setAll (b := B2) List.mem_cons_self 0 (row .u8 8 (bl b))) (.inr (by omega))
    clear M hS0 hS8
    generalize w3.setCells B2 0 (row .u8 8 (bl b)) = w4 at M2 OF ⊢
    have M := M2
    clear M2
    refine readH (i := 6) (some 4) rfl (.int .i64 8) rfl rfl (fun _ _ => by kernel_rfl) (by kernel_rfl) (by kernel_rfl) (by kernel_rfl) (fun _ _ _ h => h) ⟨_, M⟩ ?_
    simp only [aP, lI, l0, lS]
    refine wpAnyH_done (by kernel_rfl) ?_ _
    first | show Exit.then _ _ _ _ _ | show Exit.inBlock _ _ _ _ _
    replace M : Mm w0 ((B2, [.int .u8 (bl b 0), .int .u8 (bl b 1), .int .u8 (bl b 2), .int .u8 (bl b 3), .int .u8 (bl b 4), .int .u8 (bl b 5), .int .u8 (bl b 6), .int .u8 (bl b 7)]) :: (B1, [.int .u8 0, .int .u8 0, .int .u8 0, .int .u8 0, .int .u8 0, .int .u8 0, .int .u8 0, .int .u8 0]) :: (R, [.slice (some ad) b.length cap]) :: l) w4 := M
    go_upto_region 3 with fail
    refine wp_region_list ?_
    refine readL (.int .i64 8) rfl (by kernel_rfl) ?_
    simp only [aP, lI, l0, lS]
    refine readL (.bool false) rfl (lssI .i64 _ _ _ _ _ _ rfl rfl rfl false (by decide) _) ?_
    simp only [aP, lI, l0, lS]
    first | show Exit.then _ _ _ _ _ | show Exit.inBlock _ _ _ _ _
    go_upto_region 5 with fail
    refine wp_region_list ?_
    refine readL (.pointer (some ⟨R, 0, none⟩)) rfl (by kernel_rfl) ?_
    simp only [aP, lI, l0, lS]
    refine readL (.pointer (some ⟨R, 0, none⟩)) rfl (by kernel_rfl) ?_
    simp only [aP, lI, l0, lS]
    refine readL (.pointer (some ⟨R, 0, none⟩)) rfl (by kernel_rfl) ?_
    simp only [aP, lI, l0, lS]
    refine readL (.pointer (some ⟨R, 0, none⟩)) rfl (by kernel_rfl) ?_
    simp only [aP, lI, l0, lS]
    refine readL (.slice (some ad) b.length cap) rfl (load1 23 _ ⟨R, 0, none⟩ _ rfl rfl (fun _ => by kernel_rfl) (M.get (List.mem_cons_of_mem _ (List.mem_cons_of_mem _ List.mem_cons_self)) 0 _ rfl)) ?_
    simp only [aP, lI, l0, lS]
    refine readL (.int .i64 8) rfl (by kernel_rfl) ?_
    simp only [aP, lI, l0, lS]
    obtain ⟨cq, hcut, hcs, hcn⟩ := cut_loA (P := Try.prog) (t := 23) (by kernel_rfl) (fun _ => by kernel_rfl) (some ad) b.length cap 8 (by omega) hcap (fun e => by cases e)
    refine readL (.slice cq (b.length - 8) (cap - 8)) rfl (cutOp _ _ _ _ _ _ rfl rfl rfl (hcut _)) ?_
    simp only [aP, lI, l0, lS]
    refine readL (.pointer (some ⟨R, 0, none⟩)) rfl (by kernel_rfl) ?_
    simp only [aP, lI, l0, lS]
    refine readL (.pointer (some ⟨R, 0, none⟩)) rfl (by kernel_rfl) ?_
    simp only [aP, lI, l0, lS]
    replace M := M.rot3
    refine skipOpL rfl (storeAny (.slice cq (b.length - 8) (cap - 8)) R 0 23 _ _ rfl rfl rfl rfl rfl (M.isSome List.mem_cons_self 0 (by simp)) (M.free List.mem_cons_self 0 (by simp)) (by kernel_rfl)) ?_
    simp only [Act.put]
    replace M := M.set 0 (by simp) (.slice cq (b.length - 8) (cap - 8))
    replace OF := OF.and1 ((Off.refl [R] _).set (b := R) List.mem_cons_self 0 (.slice cq (b.length - 8) (cap - 8))) (.inl List.mem_cons_self)
    generalize w4.setCell ⟨R, 0, none⟩ (.slice cq (b.length - 8) (cap - 8)) = w3 at M OF ⊢
    replace M : Mm w0 ((R, [.slice cq (b.length - 8) (cap - 8)]) :: (B2, [.int .u8 (bl b 0), .int .u8 (bl b 1), .int .u8 (bl b 2), .int .u8 (bl b 3), .int .u8 (bl b 4), .int .u8 (bl b 5), .int .u8 (bl b 6), .int .u8 (bl b 7)]) :: (B1, [.int .u8 0, .int .u8 0, .int .u8 0, .int .u8 0, .int .u8 0, .int .u8 0, .int .u8 0, .int .u8 0]) :: l) w3 := M
    first | show Exit.then _ _ _ _ _ | show Exit.inBlock _ _ _ _ _
    go_upto_region 6 with fail
    refine wp_region_list ?_
    refine readL (.agg #[.int .u8 (bl b 0), .int .u8 (bl b 1), .int .u8 (bl b 2), .int .u8 (bl b 3), .int .u8 (bl b 4), .int .u8 (bl b 5), .int .u8 (bl b 6), .int .u8 (bl b 7)]) rfl (loadN 24 _ ⟨B2, 0, none⟩ [.int .u8 (bl b 0), .int .u8 (bl b 1), .int .u8 (bl b 2), .int .u8 (bl b 3), .int .u8 (bl b 4), .int .u8 (bl b 5), .int .u8 (bl b 6), .int .u8 (bl b 7)] rfl rfl (fun _ => by kernel_rfl) (fun _ => by kernel_rfl) (M.rangeAt (List.mem_cons_of_mem _ List.mem_cons_self))) ?_
    simp only [aP, lI, l0, lS]
    replace M := M.rot3
    refine skipOpL rfl (storeP [.int .u8 (bl b 0), .int .u8 (bl b 1), .int .u8 (bl b 2), .int .u8 (bl b 3), .int .u8 (bl b 4), .int .u8 (bl b 5), .int .u8 (bl b 6), .int .u8 (bl b 7)] B1 0 24 _ _ rfl rfl rfl (M.thereP List.mem_cons_self 0 8 (Nat.le_of_ble_eq_true rfl)) (by kernel_rfl) (List.all_eq_true.1 (rfl : ([.int .u8 (bl b 0), .int .u8 (bl b 1), .int .u8 (bl b 2), .int .u8 (bl b 3), .int .u8 (bl b 4), .int .u8 (bl b 5), .int .u8 (bl b 6), .int .u8 (bl b 7)] : List Value).all (fun u => u.oneCell') = true))) ?_
    simp only [Act.put]
    replace M := M.setPart [.int .u8 (bl b 0), .int .u8 (bl b 1), .int .u8 (bl b 2), .int .u8 (bl b 3), .int .u8 (bl b 4), .int .u8 (bl b 5), .int .u8 (bl b 6), .int .u8 (bl b 7)] 0 (Nat.le_of_ble_eq_true rfl)
    replace OF := OF.and1 ((Off.refl [B1] _).setAll (b := B1) List.mem_cons_self 0 [.int .u8 (bl b 0), .int .u8 (bl b 1), .int .u8 (bl b 2), .int .u8 (bl b 3), .int .u8 (bl b 4), .int .u8 (bl b 5), .int .u8 (bl b 6), .int .u8 (bl b 7)]) (.inr (by omega))
    generalize w3.setCells B1 0 [.int .u8 (bl b 0), .int .u8 (bl b 1), .int .u8 (bl b 2), .int .u8 (bl b 3), .int .u8 (bl b 4), .int .u8 (bl b 5), .int .u8 (bl b 6), .int .u8 (bl b 7)] = w4 at M OF ⊢
    replace M : Mm w0 ((B1, [.int .u8 (bl b 0), .int .u8 (bl b 1), .int .u8 (bl b 2), .int .u8 (bl b 3), .int .u8 (bl b 4), .int .u8 (bl b 5), .int .u8 (bl b 6), .int .u8 (bl b 7)]) :: (R, [.slice cq (b.length - 8) (cap - 8)]) :: (B2, [.int .u8 (bl b 0), .int .u8 (bl b 1), .int .u8 (bl b 2), .int .u8 (bl b 3), .int .u8 (bl b 4), .int .u8 (bl b 5), .int .u8 (bl b 6), .int .u8 (bl b 7)]) :: l) w4 := M
    first | show Exit.then _ _ _ _ _ | show Exit.inBlock _ _ _ _ _
    replace M := M.swap
    have HS := show Hid _ from (And.intro M OF)
    have c1 := M.part (List.mem_cons_of_mem _ List.mem_cons_self) 0 (tk8 b) rfl
    clear M OF
    go_wp2
    refine bodyPost_ret (v := .agg (tk8 b).toArray) (retCell 2 24 ⟨B1, 0, none⟩ (tk8 b) rfl rfl (fun _ => by kernel_rfl) (fun _ => by kernel_rfl) c1) rfl ?_
    exact .inl ⟨by omega, rfl, cq, HS.out.1.drop2.drop2, HS.out.2, hcs, hcn⟩

def rgs (last : Int) (b : List Int) : Except Int (List (Int × Int) × List Int) := match nm b with
  | .error e => .error e
  | .ok (n, b1) => if 8 < n then .error 100 else rd n.toNat last b1
theorem rgs_err {last : Int} {b : List Int} (h : lE b ≠ 0) : rgs last b = .error (lE b) := by unfold rgs; rw [nm_err h]
theorem rgs_nine {last : Int} {b : List Int} (h : lE b = 0) (h8 : 8 < lN b) : rgs last b = .error 100 := by unfold rgs; rw [nm_ok h]; simp only; rw [if_pos h8]
theorem rgs_rd {last : Int} {b : List Int} (h : lE b = 0) (h8 : ¬ 8 < lN b) : rgs last b = rd (lN b).toNat last (lR b) := by unfold rgs; rw [nm_ok h]; simp only; rw [if_neg h8]
def RngP (w0 : World) (R : Nat) (l : List (Nat × List Value)) (last : Int) (b : List Int) (w : World) (e : Ending) (w' : World) : Prop :=
  (∃ rs r vp vc, rgs last b = .ok (rs, r) ∧ rs.length ≤ 8 ∧ r.length ≤ b.length ∧ Byts r ∧ e = .returned (.slice vp rs.length vc) ∧ w'.ownsRow w.heap.size 43 2 (.slice vp rs.length vc) rs.length (rcl rs) ∧ Lft w0 R l w r w') ∨ (∃ c, rgs last b = .error c ∧ Pan w0 R l c e w')

set_option maxRecDepth 10000 in
set_option maxHeartbeats 32000000 in
theorem franges_any (w0 w : World) (R : Nat) (l : List (Nat × List Value)) (sp : Option Addr) (cap : Nat) (b : List Int) (hlen : b.length ≤ 256) (hcap : b.length ≤ cap) (hnil : sp = none → cap = 0) (hb : Byts b) (last : Int) (hla : 0 ≤ last) (hlz : last ≤ 4611686018427387903) (M : Mm w0 ((R, [.slice sp b.length cap]) :: l) w) (hs : Src w sp b.length (bl b)) :
    Calls Try.prog 46 #[.pointer (some ⟨R, 0, none⟩), .int .i64 last] w fun e w' => RngP w0 R l last b w e w' := by
  have hRw := M.lt List.mem_cons_self
  have hw0 := M.below.size
  have hll : ∀ p ∈ l, p.1 < w.heap.size := fun p hp => (M.rows p (List.mem_cons_of_mem _ hp)).2.2
  go_enter Try.func46, Try.ntmps46
  go_upto_region 0 with fail
  refine wp_region_list ?_
  refine readL (.slice none 0 0) rfl (by kernel_rfl) ?_
  simp only [aP, lI, l0, lS]
  first | show Exit.then _ _ _ _ _ | show Exit.inBlock _ _ _ _ _
  go_upto_region 1 with fail
  refine wp_region_list ?_
  refine readL (.pointer (some ⟨R, 0, none⟩)) rfl (by kernel_rfl) ?_
  simp only [aP, lI, l0, lS]
  refine callPL rfl (fun _ => by kernel_rfl) (fnumber_any w0 _ R _ _ _ b hlen hcap hnil hb M hs) ?_
  rintro e w1 (⟨h1, rfl, p1, c1, M', o1, O_1⟩ | ⟨h1, rfl, s1, M'⟩)
  rotate_left
  · right
    refine ⟨_, rfl, ?_⟩
    exact ⟨rfl, .inr ⟨_, rgs_err h1, rfl, s1, M'⟩⟩
  left
  clear M
  have M := M'
  clear M'
  have hc1 := O_1.le
  have hn1 := O_1.nilCap
  have hl1 := lR_le b
  have hb1 := lR_byts hb
  have ho1 := o1.size
  have OF := o1
  refine ⟨_, rfl, ?_⟩
  simp only [aP, lI, l0, lS]
  refine readL (.int .i64 (lN b)) rfl (by kernel_rfl) ?_
  simp only [aP, lI, l0, lS]
  first | show Exit.then _ _ _ _ _ | show Exit.inBlock _ _ _ _ _
  by_cases h8 : 8 < lN b
  · go_upto_region 2 with fail
    refine wp_region_list ?_
    refine readL (.int .i64 (lN b)) rfl (by kernel_rfl) ?_
    simp only [aP, lI, l0, lS]
    refine readL (.bool true) rfl (gtrI .i64 _ _ _ _ _ _ rfl rfl rfl true (decide_eq_true h8) _) ?_
    simp only [aP, lI, l0, lS]
    first | show Exit.then _ _ _ _ _ | show Exit.inBlock _ _ _ _ _
    go_upto_region 3 with fail
    refine wp_region_list ?_
    refine readL (.iface 28 (.int .i64 100)) rfl (by kernel_rfl) ?_
    simp only [aP, lI, l0, lS]
    refine panicL (.iface 28 (.int .i64 100)) rfl (by kernel_rfl) ?_
    exact ⟨rfl, .inr ⟨_, rgs_nine h1 h8, rfl, _, M⟩⟩
  · go_upto_region 2 with fail
    refine wp_region_list ?_
    refine readL (.int .i64 (lN b)) rfl (by kernel_rfl) ?_
    simp only [aP, lI, l0, lS]
    refine readL (.bool false) rfl (gtrI .i64 _ _ _ _ _ _ rfl rfl rfl false (decide_eq_false h8) _) ?_
    simp only [aP, lI, l0, lS]
    first | show Exit.then _ _ _ _ _ | show Exit.inBlock _ _ _ _ _
    go_upto_region 4 with fail
    refine wp_region_list ?_
    refine readL (.slice none 0 0) rfl (by kernel_rfl) ?_
    simp only [aP, lI, l0, lS]
    first | show Exit.then _ _ _ _ _ | show Exit.inBlock _ _ _ _ _
    go_upto_region 5 with fail
    refine wp_region_list ?_
    refine readL (.int .i64 (lN b)) rfl (by kernel_rfl) ?_
    simp only [aP, lI, l0, lS]
    refine readL (.int .i64 0) rfl (by kernel_rfl) ?_
    simp only [aP, lI, l0, lS]
    first | show Exit.then _ _ _ _ _ | show Exit.inBlock _ _ _ _ _
    have hp1 := lN_pos hb h1
    have hrg := rgs_rd (last := last) h1 h8
    obtain ⟨n, hn⟩ := Int.eq_ofNat_of_zero_le hp1.1
    rw [hn, Int.toNat_natCast] at hrg
    rw [hn] at h8 ⊢
    obtain ⟨a1, ha1⟩ : ∃ x, x = lR b := ⟨_, rfl⟩
    have HI := show Hid _ from (And.intro M (And.intro OF O_1))
    clear M OF O_1
    go_wp2
    go_loopw [1, 6, 14] (fun fw lw i w' => ∃ (j : Nat) (rs : List (Int × Int)) (bb : List Int) (la : Int) (p : Option Addr) (c : Nat) (vp : Option Addr) (vc : Nat), j ≤ n ∧ fw = .int .i64 la ∧ lw = .slice vp j vc ∧ i = .int .i64 (j : Int) ∧ rd n last (lR b) = rdk rs (rd (n - j) la bb) ∧ Mm w0 ((R, [.slice p bb.length c]) :: l) w' ∧ Off [R] w w' ∧ OwnL w' w.heap.size bb (.slice p bb.length c) ∧ Byts bb ∧ bb.length ≤ b.length ∧ w'.ownsRow w.heap.size 43 2 (.slice vp j vc) j (rcl rs) ∧ 0 ≤ la ∧ la ≤ 4611686018427387903 ∧ rs.length = j) (fun _ _ i _ => n - (intOf i).toNat)
    case atStart => exact ⟨0, [], _, last, _, _, none, 0, Nat.zero_le _, rfl, rfl, rfl, (rdk_nil _).symm, HI.out.1, HI.out.2.1, HI.out.2.2, hb1, hl1, World.ownsRow_nil _ _ _ 2, hla, hlz, rfl⟩
    case round =>
      clear HI
      obtain ⟨j, rs, bb, la, p, c, vp, vc, hj, rfl, rfl, rfl, hrd, M, OF, O_0, hbb, hbl, V_0, hq1, hq2, hrl⟩ := hrel
      have hVlt : ∀ g, (Value.slice vp j vc).ownBlock = some g → w.heap.size ≤ g ∧ g < wr.heap.size := fun g hg => World.ownsRow.lt V_0 g hg
      have hws := OF.size
      by_cases hlt : j < n
      · have g1 : (j : Int) < (n : Int) := by omega
        obtain ⟨m, hm⟩ : ∃ m, n - j = m + 1 := ⟨n - j - 1, by omega⟩
        rw [hm] at hrd
        go_upto_region 6 with fail
        refine wp_region_list ?_
        refine readL (.bool true) rfl (lssI .i64 _ _ _ _ _ _ rfl rfl rfl true (decide_eq_true g1) _) ?_
        simp only [aP, lI, l0, lS]
        first | show Exit.then _ _ _ _ _ | show Exit.inBlock _ _ _ _ _
        go_upto_region 7 with fail
        refine wp_region_list ?_
        refine readL (.pointer (some ⟨R, 0, none⟩)) rfl (by kernel_rfl) ?_
        simp only [aP, lI, l0, lS]
        refine readL (.int .i64 la) rfl (by kernel_rfl) ?_
        simp only [aP, lI, l0, lS]
        refine callPL rfl (fun _ => by kernel_rfl) (fnext_any w0 _ R _ _ _ bb (by omega) O_0.le O_0.nilCap hbb la hq1 hq2 M O_0.src) ?_
        rintro e w2 (⟨c1, c2, hfar, rfl, p1, cp1, M', o1, O_1⟩ | ⟨code, hcode, rfl, s1, M'⟩)
        rotate_left
        · right
          refine ⟨_, rfl, ?_⟩
          rw [hcode m] at hrd
          exact ⟨rfl, .inr ⟨code, by rw [hrg, hrd]; rfl, rfl, s1, M'⟩⟩
        left
        clear M O_0
        have M := M'
        clear M'
        have hg1 := lN_pos hbb c1
        have hg2 := lN_pos (lR_byts hbb) c2
        have hb1 := lR_byts (lR_byts hbb)
        have hlb1 := lR_le bb
        have hlb2 := lR_le (lR bb)
        have ho1 := o1.size
        have hOlt : ∀ g, (Value.slice p1 (lR (lR bb)).length cp1).ownBlock = some g → wr.heap.size ≤ g ∧ g < w2.heap.size := fun g hg => World.ownsRow.lt O_1 g hg
        rw [rd_one c1 c2 hfar, rdk_one] at hrd
        unfold MX at hfar
        replace V_0 := ownsRow_off V_0 o1 (fun x hx e => by obtain rfl := List.mem_singleton.1 hx; have h1 := hVlt _ e; omega)
        replace OF := OF.trans o1
        clear o1
        refine ⟨_, rfl, ?_⟩
        simp only [aP, lI, l0, lS]
        refine actL (w' := w2.alloc (.cells #[.int .i64 0, .int .i64 0] 43)) (.pointer (some ⟨w2.heap.size, 0, none⟩)) rfl (by kernel_rfl) ?_
        simp only [aP, lI, l0, lS]
        have hlb := (Below.refl w2.heap.size w2).alloc (Nat.le_refl _) (.cells #[.int .i64 0, .int .i64 0] 43)
        replace OF := OF.below hlb
        replace V_0 := ownsRow_low (X := []) V_0 (Off.of_below hlb) (fun _ h => by cases h)
        replace O_1 := O_1.below hlb
        clear hlb
        have hB_B3 : w0.heap.size ≤ w2.heap.size := M.below.size
        replace M := M.box #[.int .i64 0, .int .i64 0] 43 w2.heap.size rfl
        generalize w2.alloc (.cells #[.int .i64 0, .int .i64 0] 43) = w3 at M OF V_0 O_1 ⊢
        generalize eB : w2.heap.size = B3 at M hB_B3  ⊢
        have hE_B3 : w2.heap.size ≤ B3 := Nat.le_of_eq eB
        have hF_B3 : B3 ≤ w2.heap.size := Nat.le_of_eq eB.symm
        clear eB
        replace M : Mm w0 ((B3, [.int .i64 0, .int .i64 0]) :: (R, [.slice p1 ((lR (lR bb)).length) cp1]) :: l) w3 := M
        refine skipOpL rfl (storeP [.int .i64 (la + lN bb), .int .i64 (la + lN bb + lN (lR bb))] B3 0 43 _ _ rfl rfl rfl (M.thereP List.mem_cons_self 0 2 (Nat.le_of_ble_eq_true rfl)) (by kernel_rfl) (List.all_eq_true.1 (rfl : ([.int .i64 (la + lN bb), .int .i64 (la + lN bb + lN (lR bb))] : List Value).all (fun u => u.oneCell') = true))) ?_
        simp only [Act.put]
        replace M := M.setPart [.int .i64 (la + lN bb), .int .i64 (la + lN bb + lN (lR bb))] 0 (Nat.le_of_ble_eq_true rfl)
        replace OF := OF.and1 ((Off.refl [B3] _).setAll (b := B3) List.mem_cons_self 0 [.int .i64 (la + lN bb), .int .i64 (la + lN bb + lN (lR bb))]) (.inr (by omega))
        replace V_0 := ownsRow_off V_0 ((Off.refl [B3] _).setAll (b := B3) List.mem_cons_self 0 [.int .i64 (la + lN bb), .int .i64 (la + lN bb + lN (lR bb))]) (fun x hx e => by obtain rfl := List.mem_singleton.1 hx; have h1 := hVlt _ e; omega)
        replace O_1 : OwnL _ _ _ _ := ownsRow_off O_1 ((Off.refl [B3] _).setAll (b := B3) List.mem_cons_self 0 [.int .i64 (la + lN bb), .int .i64 (la + lN bb + lN (lR bb))]) (fun x hx e => by obtain rfl := List.mem_singleton.1 hx; have h1 := hOlt _ e; omega)
        generalize w3.setCells B3 0 [.int .i64 (la + lN bb), .int .i64 (la + lN bb + lN (lR bb))] = w4 at M OF V_0 O_1 ⊢
        replace M : Mm w0 ((B3, [.int .i64 (la + lN bb), .int .i64 (la + lN bb + lN (lR bb))]) :: (R, [.slice p1 ((lR (lR bb)).length) cp1]) :: l) w4 := M
        first | show Exit.then _ _ _ _ _ | show Exit.inBlock _ _ _ _ _
        go_upto_region 8 with fail
        refine wp_region_list ?_
        refine readL (.slice vp j vc) rfl (by kernel_rfl) ?_
        simp only [aP, lI, l0, lS]
        refine readL (.agg #[.int .i64 (la + lN bb), .int .i64 (la + lN bb + lN (lR bb))]) rfl (loadN 43 _ ⟨B3, 0, none⟩ [.int .i64 (la + lN bb), .int .i64 (la + lN bb + lN (lR bb))] rfl rfl (fun _ => by kernel_rfl) (fun _ => by kernel_rfl) (M.rangeAt List.mem_cons_self)) ?_
        simp only [aP, lI, l0, lS]
        refine actL (w' := w4.alloc (.cells #[.int .i64 (la + lN bb), .int .i64 (la + lN bb + lN (lR bb))] 43)) (.slice (some ⟨w4.heap.size, 0, none⟩) 1 1) rfl (by kernel_rfl) ?_
        simp only [aP, lI, l0, lS]
        have hlb := (Below.refl w4.heap.size w4).alloc (Nat.le_refl _) (.cells #[.int .i64 (la + lN bb), .int .i64 (la + lN bb + lN (lR bb))] 43)
        replace M := M.call hlb
        replace OF := OF.below hlb
        replace V_0 := ownsRow_low (X := []) V_0 (Off.of_below hlb) (fun _ h => by cases h)
        replace O_1 := O_1.below hlb
        have hcell : ∀ j u, ([.int .i64 (la + lN bb), .int .i64 (la + lN bb + lN (lR bb))] : List Value)[j]? = some u → (w4.alloc (.cells #[.int .i64 (la + lN bb), .int .i64 (la + lN bb + lN (lR bb))] 43)).cell? ((⟨w4.heap.size, 0, none⟩ : Addr).add j) = some u := fun j u hu => by rw [Addr.add_mid, Nat.zero_add, World.cell?_alloc_at _ _ _ _ rfl]; simpa using hu
        clear hlb
        generalize w4.alloc (.cells #[.int .i64 (la + lN bb), .int .i64 (la + lN bb + lN (lR bb))] 43) = w5 at M hcell OF V_0 O_1 ⊢
        generalize (⟨w4.heap.size, 0, none⟩ : Addr) = an at hcell ⊢
        obtain ⟨v, w6, hr, V_6, hgr, _⟩ := run_append_OwnV (P := Try.prog) (ty := 22) Try.underlying22 ranges_many rfl (by decide) V_0 an 1 1 [.int .i64 (la + lN bb), .int .i64 (la + lN bb + lN (lR bb))] rfl hcell (List.all_eq_true.1 (rfl : ([.int .i64 (la + lN bb), .int .i64 (la + lN bb + lN (lR bb))] : List Value).all (fun u => u.oneCell') = true)) (by unfold maxLen; omega) (by omega) OF.size
        have hofM : Off (ob vp) w5 w6 := (Off.refl _ _).grown hgr (fun b hb => .inl ((ob_own _ _ _ _).1 hb))
        replace M := M.off hofM (fun x hx => by have h1 := hVlt _ ((ob_own _ _ _ _).2 hx); omega) (fun q hq hx => by
          have h1 := hVlt _ ((ob_own vp j vc _).2 hx)
          rcases List.mem_cons.1 hq with rfl | hq
          · simp only at h1; omega
          · rcases List.mem_cons.1 hq with rfl | hq
            · simp only at h1; omega
            · have h2 := hll q hq; omega) ⟨hgr.os, hgr.tape, hgr.output⟩
        replace OF := OF.grown hgr (fun b hb => .inr (hVlt b hb).1)
        replace O_1 := Own.grown (show OwnL _ _ (lR (lR bb)) _ from O_1) hgr (fun g hg => (hVlt g hg).2)
        refine actL v rfl (appendOp _ _ 22 _ _ _ rfl rfl rfl hr) ?_
        simp only [aP, lI, l0, lS]
        clear hr hgr V_0 hcell hofM
        obtain ⟨vp6, vc6, rfl⟩ := own_slice V_6
        refine readL (.slice vp6 (j + 1) vc6) rfl (by kernel_rfl) ?_
        simp only [aP, lI, l0, lS]
        first | show Exit.then _ _ _ _ _ | show Exit.inBlock _ _ _ _ _
        go_upto_region 9 with fail
        refine wp_region_list ?_
        refine readL (.pointer (some ⟨B3, 1, none⟩)) rfl (by kernel_rfl) ?_
        simp only [aP, lI, l0, lS]
        refine readL (.int .i64 (la + lN bb + lN (lR bb))) rfl (load1 3 _ ⟨B3, 1, none⟩ _ rfl rfl (fun _ => by kernel_rfl) (M.get List.mem_cons_self 1 _ rfl)) ?_
        simp only [aP, lI, l0, lS]
        refine readL (.int .i64 (la + lN bb + lN (lR bb))) rfl (by kernel_rfl) ?_
        simp only [aP, lI, l0, lS]
        first | show Exit.then _ _ _ _ _ | show Exit.inBlock _ _ _ _ _
        replace M := M.tail
        rw [show rcl rs ++ [.int .i64 (la + lN bb), .int .i64 (la + lN bb + lN (lR bb))] = rcl (rs ++ [(la + lN bb, la + lN bb + lN (lR bb))]) from (rcl_app rs [(la + lN bb, la + lN bb + lN (lR bb))]).symm] at V_6
        rw [show m = n - (j + 1) by omega] at hrd
        have HS := show Hid _ from (And.intro hrd (And.intro M (And.intro OF (And.intro (Own.lower (show OwnL _ _ (lR (lR bb)) _ from O_1) hws) (And.intro hb1 (And.intro (show (lR (lR bb)).length ≤ b.length by omega) (And.intro V_6 (And.intro (show 0 ≤ la + lN bb + lN (lR bb) by omega) (And.intro (show la + lN bb + lN (lR bb) ≤ 4611686018427387903 by omega) (show (rs ++ [(la + lN bb, la + lN bb + lN (lR bb))]).length = j + 1 by rw [List.length_append, hrl]; rfl))))))))))
        clear hrd M OF O_1 V_6 hfar
        go_wp2
        go_roundw
        case rel => first | exact ⟨j + 1, _, _, _, _, _, vp6, vc6, by omega, rfl, rfl, by go_num, HS.out⟩ | ((repeat apply Exists.intro); refine ⟨⟨j + 1, _, _, _, _, _, vp6, vc6, by omega, rfl, rfl, ?_, HS.out⟩, rfl⟩ <;> first | rfl | go_num)
        case measure => simp [intOf]; omega
      · obtain rfl : j = n := by omega
        have g1 : ¬ (j : Int) < (j : Int) := by omega
        rw [Nat.sub_self] at hrd
        replace hrd : rd j last (lR b) = .ok (rs ++ [], bb) := hrd
        rw [List.append_nil] at hrd
        rw [hrd] at hrg
        go_upto_region 6 with fail
        refine wp_region_list ?_
        refine readL (.bool false) rfl (lssI .i64 _ _ _ _ _ _ rfl rfl rfl false (decide_eq_false g1) _) ?_
        simp only [aP, lI, l0, lS]
        first | show Exit.then _ _ _ _ _ | show Exit.inBlock _ _ _ _ _
        go_upto_region 11 with fail
        refine wp_region_list ?_
        refine readL (.slice vp j vc) rfl (by kernel_rfl) ?_
        simp only [aP, lI, l0, lS]
        refine readL (.slice vp j vc) rfl (by kernel_rfl) ?_
        simp only [aP, lI, l0, lS]
        first | show Exit.then _ _ _ _ _ | show Exit.inBlock _ _ _ _ _
        have HS := show Hid _ from (And.intro hrg (And.intro V_0 (And.intro M (And.intro OF O_0))))
        have h88 : j ≤ 8 := by omega
        clear M OF O_0 V_0 hrd hrg
        subst hrl
        go_wp2
        go_ret
        exact .inl ⟨rs, bb, vp, vc, HS.out.1, h88, hbl, hbb, rfl, HS.out.2.1, p, c, HS.out.2.2⟩
end Go.Proofs.Yteaamgjlkohfcaa

namespace Go.Proofs.Yteaamgjlkohfcaa
open Go.RowKit

def inb (n a b : Int) : Bool := decide (n ≥ a) && decide (n ≤ b)
theorem inb_iff {n a b : Int} : inb n a b = true ↔ a ≤ n ∧ n ≤ b := by unfold inb; simp
theorem inb_and {x y : Bool} {n a b : Int} (h : (x && y) = true) (hx : x = inb n a b) : a ≤ n ∧ n ≤ b := by
  subst hx
  exact inb_iff.1 (Bool.and_eq_true_iff.1 h).1
def blk (a l : Int) (rn bn : Nat) (z : Nat → Int) : Bool := (((a == 0 && l == 0) && (((rn : Nat) : Int) == 0)) && (((bn : Nat) : Int) == 0)) && decide (val 256 z 8 = val 256 (fun _ => 0) 8)
def rup : List (Int × Int) → Int → Int → Bool
  | [], _, _ => true
  | p :: l, fr, up => !((decide (p.1 < fr) || decide (p.2 ≤ p.1)) || decide (p.2 > up)) && rup l (p.2 + 1) up
theorem rup_true : ∀ (l : List (Int × Int)) (fr up : Int), rup l (fr + 1) up = rok l fr true up
  | [], _, _ => rfl
  | p :: l, fr, up => by
    unfold rup rok
    rw [rup_true l p.2 up]
    congr 2
    rw [Bool.eq_iff_iff]
    simp
    omega
theorem rup_false (l : List (Int × Int)) (fr up : Int) : rup l fr up = rok l fr false up := by
  cases l with
  | nil => rfl
  | cons p l =>
    unfold rup rok
    rw [rup_true l p.2 up]
    congr 2
    rw [Bool.eq_iff_iff]
    simp
def rsg (l : List (Int × Int)) (fr up : Int) : Bool := decide (l.length ≤ 8) && rup l fr up
theorem rsg_true (l : List (Int × Int)) (fr up : Int) : rsg l (fr + 1) up = rise l fr true up := by unfold rsg rise; rw [rup_true, Bool.and_comm]
theorem rsg_false (l : List (Int × Int)) (fr up : Int) : rsg l fr up = rise l fr false up := by unfold rsg rise; rw [rup_false, Bool.and_comm]

set_option maxRecDepth 10000 in
set_option maxHeartbeats 32000000 in
theorem within_any (n least most : Int) (w : World) :
    Calls Try.prog 27 #[.int .i64 n, .int .i64 least, .int .i64 most] w fun e w' => e = .returned (.bool (inb n least most)) ∧ Below w.heap.size w w' := by
  have M := Mm.init w
  go_enter Try.func27, Try.ntmps27
  go_upto_region 0 with fail
  refine wp_region_list ?_
  refine readL (.bool false) rfl (by kernel_rfl) ?_
  simp only [aP, lI, l0, lS]
  first | show Exit.then _ _ _ _ _ | show Exit.inBlock _ _ _ _ _
  go_upto_region 1 with fail
  refine wp_region_list ?_
  refine readL (.int .i64 n) rfl (by kernel_rfl) ?_
  simp only [aP, lI, l0, lS]
  refine readL (.int .i64 least) rfl (by kernel_rfl) ?_
  simp only [aP, lI, l0, lS]
  obtain ⟨b1, hb1⟩ : ∃ y_, y_ = (decide (n ≥ least)) := ⟨_, rfl⟩
  refine readL (.bool b1) rfl (geqI .i64 _ _ _ _ _ _ rfl rfl rfl b1 hb1.symm _) ?_
  simp only [aP, lI, l0, lS]
  refine readL (.bool b1) rfl (by kernel_rfl) ?_
  simp only [aP, lI, l0, lS]
  refine mayL (b1) (.int .i64 n) ((bif b1 then (.int .i64 n) else undef)) (by cases b1 <;> rfl) (by cases b1 <;> rfl) (fun hc => by cases b1 <;> first | (cases hc; done) | kernel_rfl) ?_
  simp only [aP, lI, l0, lS]
  refine mayL (b1) (.int .i64 most) ((bif b1 then (.int .i64 most) else undef)) (by cases b1 <;> rfl) (by cases b1 <;> rfl) (fun hc => by cases b1 <;> first | (cases hc; done) | kernel_rfl) ?_
  simp only [aP, lI, l0, lS]
  obtain ⟨b2, hb2⟩ : ∃ y_, y_ = (decide (n ≤ most)) := ⟨_, rfl⟩
  refine mayL (b1) (.bool b2) ((bif b1 then (.bool b2) else undef)) (by cases b1 <;> rfl) (by cases b1 <;> rfl) (fun hc => by cases b1 <;> first | (cases hc; done) | exact (leqI .i64 _ _ _ _ _ _ rfl rfl rfl b2 hb2.symm _)) ?_
  simp only [aP, lI, l0, lS]
  obtain ⟨b3, hb3⟩ : ∃ y_, y_ = (b1 && b2) := ⟨_, rfl⟩
  refine readL (.bool b3) rfl (by subst hb3; cases b1 <;> rfl) ?_
  simp only [aP, lI, l0, lS]
  refine readL (.bool b3) rfl (by kernel_rfl) ?_
  simp only [aP, lI, l0, lS]
  first | show Exit.then _ _ _ _ _ | show Exit.inBlock _ _ _ _ _
  have hK := show Hid _ from (show b3 = inb n least most by simp only [hb1, hb2, hb3]; rfl)
  try clear hb1
  try clear hb2
  try clear hb3
  go_wp2
  go_ret
  exact ⟨by rw [← hK.out] <;> rfl, M.below⟩

set_option maxRecDepth 10000 in
set_option maxHeartbeats 32000000 in
theorem blank_any (a l : Int) (rp : Option Addr) (rn rc : Nat) (bp : Option Addr) (bn bc : Nat) (z : Nat → Int) (hz : In 256 8 z) (w : World) :
    Calls Try.prog 28 #[.agg #[.int .i64 0, .int .i64 a, .int .i64 l, .slice rp rn rc, .slice bp bn bc, .int .u8 (z 0), .int .u8 (z 1), .int .u8 (z 2), .int .u8 (z 3), .int .u8 (z 4), .int .u8 (z 5), .int .u8 (z 6), .int .u8 (z 7)]] w fun e w' => e = .returned (.bool (blk a l rn bn z)) ∧ Below w.heap.size w w' := by
  have M := Mm.init w
  go_enter Try.func28, Try.ntmps28
  go_upto_region 0 with fail
  refine wp_region_list ?_
  refine actL (w' := w.alloc (.cells #[.int .i64 0, .int .i64 a, .int .i64 l, .slice rp rn rc, .slice bp bn bc, .int .u8 (z 0), .int .u8 (z 1), .int .u8 (z 2), .int .u8 (z 3), .int .u8 (z 4), .int .u8 (z 5), .int .u8 (z 6), .int .u8 (z 7)] 26)) (.pointer (some ⟨w.heap.size, 0, none⟩)) rfl (by kernel_rfl) ?_
  simp only [aP, lI, l0, lS]
  have hB_B1 : w.heap.size ≤ w.heap.size := M.below.size
  replace M := M.box #[.int .i64 0, .int .i64 a, .int .i64 l, .slice rp rn rc, .slice bp bn bc, .int .u8 (z 0), .int .u8 (z 1), .int .u8 (z 2), .int .u8 (z 3), .int .u8 (z 4), .int .u8 (z 5), .int .u8 (z 6), .int .u8 (z 7)] 26 w.heap.size rfl
  generalize w.alloc (.cells #[.int .i64 0, .int .i64 a, .int .i64 l, .slice rp rn rc, .slice bp bn bc, .int .u8 (z 0), .int .u8 (z 1), .int .u8 (z 2), .int .u8 (z 3), .int .u8 (z 4), .int .u8 (z 5), .int .u8 (z 6), .int .u8 (z 7)] 26) = w1 at M  ⊢
  generalize eB : w.heap.size = B1 at M hB_B1 ⊢
  have hE_B1 : w.heap.size ≤ B1 := Nat.le_of_eq eB
  have hF_B1 : B1 ≤ w.heap.size := Nat.le_of_eq eB.symm
  clear eB
  replace M : Mm w ([(B1, [.int .i64 0, .int .i64 a, .int .i64 l, .slice rp rn rc, .slice bp bn bc, .int .u8 (z 0), .int .u8 (z 1), .int .u8 (z 2), .int .u8 (z 3), .int .u8 (z 4), .int .u8 (z 5), .int .u8 (z 6), .int .u8 (z 7)])]) w1 := M
  refine readL (.bool false) rfl (by kernel_rfl) ?_
  simp only [aP, lI, l0, lS]
  first | show Exit.then _ _ _ _ _ | show Exit.inBlock _ _ _ _ _
  obtain ⟨b1, hb1⟩ : ∃ y_, y_ = (decide (val 256 z 8 = val 256 (fun _ => 0) 8)) := ⟨_, rfl⟩
  go_upto_region 1 with fail
  refine wp_region_list ?_
  refine readL (.pointer (some ⟨B1, 1, none⟩)) rfl (by kernel_rfl) ?_
  simp only [aP, lI, l0, lS]
  refine readL (.int .i64 a) rfl (load1 3 _ ⟨B1, 1, none⟩ _ rfl rfl (fun _ => by kernel_rfl) (M.get List.mem_cons_self 1 _ rfl)) ?_
  simp only [aP, lI, l0, lS]
  obtain ⟨b2, hb2⟩ : ∃ y_, y_ = ((a : Int) == (0 : Int)) := ⟨_, rfl⟩
  refine readL (.bool b2) rfl (eqlI .i64 _ _ _ _ _ _ rfl rfl rfl b2 hb2.symm _) ?_
  simp only [aP, lI, l0, lS]
  refine readL (.bool b2) rfl (by kernel_rfl) ?_
  simp only [aP, lI, l0, lS]
  refine mayL (b2) (.pointer (some ⟨B1, 2, none⟩)) ((bif b2 then (.pointer (some ⟨B1, 2, none⟩)) else undef)) (by cases b2 <;> rfl) (by cases b2 <;> rfl) (fun hc => by cases b2 <;> first | (cases hc; done) | kernel_rfl) ?_
  simp only [aP, lI, l0, lS]
  refine mayL (b2) (.int .i64 l) ((bif b2 then (.int .i64 l) else undef)) (by cases b2 <;> rfl) (by cases b2 <;> rfl) (fun hc => by cases b2 <;> first | (cases hc; done) | exact (load1 3 _ ⟨B1, 2, none⟩ _ rfl rfl (fun _ => by kernel_rfl) (M.get List.mem_cons_self 2 _ rfl))) ?_
  simp only [aP, lI, l0, lS]
  obtain ⟨b3, hb3⟩ : ∃ y_, y_ = ((l : Int) == (0 : Int)) := ⟨_, rfl⟩
  refine mayL (b2) (.bool b3) ((bif b2 then (.bool b3) else undef)) (by cases b2 <;> rfl) (by cases b2 <;> rfl) (fun hc => by cases b2 <;> first | (cases hc; done) | exact (eqlI .i64 _ _ _ _ _ _ rfl rfl rfl b3 hb3.symm _)) ?_
  simp only [aP, lI, l0, lS]
  obtain ⟨b4, hb4⟩ : ∃ y_, y_ = (b2 && b3) := ⟨_, rfl⟩
  refine readL (.bool b4) rfl (by subst hb4; cases b2 <;> rfl) ?_
  simp only [aP, lI, l0, lS]
  refine readL (.bool b4) rfl (by kernel_rfl) ?_
  simp only [aP, lI, l0, lS]
  refine mayL (b4) (.pointer (some ⟨B1, 3, none⟩)) ((bif b4 then (.pointer (some ⟨B1, 3, none⟩)) else undef)) (by cases b4 <;> rfl) (by cases b4 <;> rfl) (fun hc => by cases b4 <;> first | (cases hc; done) | kernel_rfl) ?_
  simp only [aP, lI, l0, lS]
  refine mayL (b4) (.slice rp rn rc) ((bif b4 then (.slice rp rn rc) else undef)) (by cases b4 <;> rfl) (by cases b4 <;> rfl) (fun hc => by cases b4 <;> first | (cases hc; done) | exact (load1 22 _ ⟨B1, 3, none⟩ _ rfl rfl (fun _ => by kernel_rfl) (M.get List.mem_cons_self 3 _ rfl))) ?_
  simp only [aP, lI, l0, lS]
  refine mayL (b4) (.int .i64 ((rn : Nat) : Int)) ((bif b4 then (.int .i64 ((rn : Nat) : Int)) else undef)) (by cases b4 <;> rfl) (by cases b4 <;> rfl) (fun hc => by cases b4 <;> first | (cases hc; done) | exact (lenS _ 22 43 rp rn rc rfl Try.underlying22 rfl _)) ?_
  simp only [aP, lI, l0, lS]
  obtain ⟨b5, hb5⟩ : ∃ y_, y_ = ((((rn : Nat) : Int) : Int) == (0 : Int)) := ⟨_, rfl⟩
  refine mayL (b4) (.bool b5) ((bif b4 then (.bool b5) else undef)) (by cases b4 <;> rfl) (by cases b4 <;> rfl) (fun hc => by cases b4 <;> first | (cases hc; done) | exact (eqlI .i64 _ _ _ _ _ _ rfl rfl rfl b5 hb5.symm _)) ?_
  simp only [aP, lI, l0, lS]
  obtain ⟨b6, hb6⟩ : ∃ y_, y_ = (b4 && b5) := ⟨_, rfl⟩
  refine readL (.bool b6) rfl (by subst hb6; cases b4 <;> rfl) ?_
  simp only [aP, lI, l0, lS]
  refine readL (.bool b6) rfl (by kernel_rfl) ?_
  simp only [aP, lI, l0, lS]
  refine mayL (b6) (.pointer (some ⟨B1, 4, none⟩)) ((bif b6 then (.pointer (some ⟨B1, 4, none⟩)) else undef)) (by cases b6 <;> rfl) (by cases b6 <;> rfl) (fun hc => by cases b6 <;> first | (cases hc; done) | kernel_rfl) ?_
  simp only [aP, lI, l0, lS]
  refine mayL (b6) (.slice bp bn bc) ((bif b6 then (.slice bp bn bc) else undef)) (by cases b6 <;> rfl) (by cases b6 <;> rfl) (fun hc => by cases b6 <;> first | (cases hc; done) | exact (load1 23 _ ⟨B1, 4, none⟩ _ rfl rfl (fun _ => by kernel_rfl) (M.get List.mem_cons_self 4 _ rfl))) ?_
  simp only [aP, lI, l0, lS]
  refine mayL (b6) (.int .i64 ((bn : Nat) : Int)) ((bif b6 then (.int .i64 ((bn : Nat) : Int)) else undef)) (by cases b6 <;> rfl) (by cases b6 <;> rfl) (fun hc => by cases b6 <;> first | (cases hc; done) | exact (lenS _ 23 5 bp bn bc rfl Try.underlying23 rfl _)) ?_
  simp only [aP, lI, l0, lS]
  obtain ⟨b7, hb7⟩ : ∃ y_, y_ = ((((bn : Nat) : Int) : Int) == (0 : Int)) := ⟨_, rfl⟩
  refine mayL (b6) (.bool b7) ((bif b6 then (.bool b7) else undef)) (by cases b6 <;> rfl) (by cases b6 <;> rfl) (fun hc => by cases b6 <;> first | (cases hc; done) | exact (eqlI .i64 _ _ _ _ _ _ rfl rfl rfl b7 hb7.symm _)) ?_
  simp only [aP, lI, l0, lS]
  obtain ⟨b8, hb8⟩ : ∃ y_, y_ = (b6 && b7) := ⟨_, rfl⟩
  refine readL (.bool b8) rfl (by subst hb8; cases b6 <;> rfl) ?_
  simp only [aP, lI, l0, lS]
  refine readL (.bool b8) rfl (by kernel_rfl) ?_
  simp only [aP, lI, l0, lS]
  refine mayL (b8) (.pointer (some ⟨B1, 5, none⟩)) ((bif b8 then (.pointer (some ⟨B1, 5, none⟩)) else undef)) (by cases b8 <;> rfl) (by cases b8 <;> rfl) (fun hc => by cases b8 <;> first | (cases hc; done) | kernel_rfl) ?_
  simp only [aP, lI, l0, lS]
  refine mayL (b8) (.agg #[.int .u8 (z 0), .int .u8 (z 1), .int .u8 (z 2), .int .u8 (z 3), .int .u8 (z 4), .int .u8 (z 5), .int .u8 (z 6), .int .u8 (z 7)]) ((bif b8 then (.agg #[.int .u8 (z 0), .int .u8 (z 1), .int .u8 (z 2), .int .u8 (z 3), .int .u8 (z 4), .int .u8 (z 5), .int .u8 (z 6), .int .u8 (z 7)]) else undef)) (by cases b8 <;> rfl) (by cases b8 <;> rfl) (fun hc => by cases b8 <;> first | (cases hc; done) | exact (loadN 24 _ ⟨B1, 5, none⟩ [.int .u8 (z 0), .int .u8 (z 1), .int .u8 (z 2), .int .u8 (z 3), .int .u8 (z 4), .int .u8 (z 5), .int .u8 (z 6), .int .u8 (z 7)] rfl rfl (fun _ => by kernel_rfl) (fun _ => by kernel_rfl) (M.part List.mem_cons_self 5 _ rfl))) ?_
  simp only [aP, lI, l0, lS]
  refine mayL (b8) (.agg #[.int .u8 0, .int .u8 0, .int .u8 0, .int .u8 0, .int .u8 0, .int .u8 0, .int .u8 0, .int .u8 0]) ((bif b8 then (.agg #[.int .u8 0, .int .u8 0, .int .u8 0, .int .u8 0, .int .u8 0, .int .u8 0, .int .u8 0, .int .u8 0]) else undef)) (by cases b8 <;> rfl) (by cases b8 <;> rfl) (fun hc => by cases b8 <;> first | (cases hc; done) | kernel_rfl) ?_
  simp only [aP, lI, l0, lS]
  refine mayL (b8) (.bool b1) ((bif b8 then (.bool b1) else undef)) (by cases b8 <;> rfl) (by cases b8 <;> rfl) (fun hc => by cases b8 <;> first | (cases hc; done) | exact (eqlV 8 z (fun _ => 0) 24 5 _ _ _ rfl rfl rfl Try.underlying24 Try.underlying5 (fun _ => by kernel_rfl) (by kernel_rfl) hz (fun _ _ => ⟨Int.le_refl _, show (0 : Int) < 256 by decide⟩) b1 hb1.symm _)) ?_
  simp only [aP, lI, l0, lS]
  obtain ⟨b9, hb9⟩ : ∃ y_, y_ = (b8 && b1) := ⟨_, rfl⟩
  refine readL (.bool b9) rfl (by subst hb9; cases b8 <;> rfl) ?_
  simp only [aP, lI, l0, lS]
  refine readL (.bool b9) rfl (by kernel_rfl) ?_
  simp only [aP, lI, l0, lS]
  first | show Exit.then _ _ _ _ _ | show Exit.inBlock _ _ _ _ _
  have hK := show Hid _ from (show b9 = blk a l rn bn z by simp only [hb1, hb2, hb3, hb4, hb5, hb6, hb7, hb8, hb9]; rfl)
  try clear hb1
  try clear hb2
  try clear hb3
  try clear hb4
  try clear hb5
  try clear hb6
  try clear hb7
  try clear hb8
  try clear hb9
  go_wp2
  go_ret
  exact ⟨by rw [← hK.out] <;> rfl, M.below⟩

set_option maxRecDepth 10000 in
set_option maxHeartbeats 32000000 in
theorem rising_any (sp : Option Addr) (cap : Nat) (l : List (Int × Int)) (hlen : l.length ≤ 4611686018427387904) (fr up : Int) (hfr : 0 ≤ fr) (hup : up ≤ 4611686018427387903) (w : World) (hR : Rg w sp l) :
    Calls Try.prog 29 #[.slice sp l.length cap, .int .i64 fr, .int .i64 up] w fun e w' => e = .returned (.bool (rsg l fr up)) ∧ Below w.heap.size w w' := by
  have M := Mm.init w
  go_enter Try.func29, Try.ntmps29
  go_upto_region 0 with fail
  refine wp_region_list ?_
  refine readL (.bool false) rfl (by kernel_rfl) ?_
  simp only [aP, lI, l0, lS]
  first | show Exit.then _ _ _ _ _ | show Exit.inBlock _ _ _ _ _
  by_cases h8 : 8 < l.length
  · go_upto_region 1 with fail
    refine wp_region_list ?_
    refine readL (.slice sp l.length cap) rfl (by kernel_rfl) ?_
    simp only [aP, lI, l0, lS]
    refine readL (.int .i64 ((l.length : Nat) : Int)) rfl (lenS _ 22 43 sp l.length cap rfl Try.underlying22 rfl _) ?_
    simp only [aP, lI, l0, lS]
    refine readL (.bool true) rfl (gtrI .i64 _ _ _ _ _ _ rfl rfl rfl true (decide_eq_true (by omega)) _) ?_
    simp only [aP, lI, l0, lS]
    first | show Exit.then _ _ _ _ _ | show Exit.inBlock _ _ _ _ _
    go_upto_region 2 with fail
    refine wp_region_list ?_
    refine readL (.bool false) rfl (by kernel_rfl) ?_
    simp only [aP, lI, l0, lS]
    first | show Exit.then _ _ _ _ _ | show Exit.inBlock _ _ _ _ _
    have hK := show Hid _ from (show false = rsg l fr up by unfold rsg; rw [decide_eq_false (by omega)]; rfl)
    go_wp2
    go_ret
    exact ⟨by rw [← hK.out] <;> rfl, M.below⟩
  · go_upto_region 1 with fail
    refine wp_region_list ?_
    refine readL (.slice sp l.length cap) rfl (by kernel_rfl) ?_
    simp only [aP, lI, l0, lS]
    refine readL (.int .i64 ((l.length : Nat) : Int)) rfl (lenS _ 22 43 sp l.length cap rfl Try.underlying22 rfl _) ?_
    simp only [aP, lI, l0, lS]
    refine readL (.bool false) rfl (gtrI .i64 _ _ _ _ _ _ rfl rfl rfl false (decide_eq_false (by omega)) _) ?_
    simp only [aP, lI, l0, lS]
    first | show Exit.then _ _ _ _ _ | show Exit.inBlock _ _ _ _ _
    go_upto_region 3 with fail
    refine wp_region_list ?_
    refine readL (.slice sp l.length cap) rfl (by kernel_rfl) ?_
    simp only [aP, lI, l0, lS]
    refine readL (.int .i64 ((l.length : Nat) : Int)) rfl (lenS _ 22 43 sp l.length cap rfl Try.underlying22 rfl _) ?_
    simp only [aP, lI, l0, lS]
    refine readL (.int .i64 0) rfl (by kernel_rfl) ?_
    simp only [aP, lI, l0, lS]
    first | show Exit.then _ _ _ _ _ | show Exit.inBlock _ _ _ _ _
    have HI := show Hid _ from M
    clear M
    go_wp2
    go_loopw [1, 14] (fun fw i w' => ∃ (j : Nat) (f2 : Int), j ≤ l.length ∧ fw = .int .i64 f2 ∧ i = .int .i64 (j : Int) ∧ Mm w [] w' ∧ rup l fr up = rup (l.drop j) f2 up ∧ 0 ≤ f2) (fun _ i _ => l.length - (intOf i).toNat)
    case atStart => exact ⟨0, fr, Nat.zero_le _, rfl, rfl, HI.out, rfl, hfr⟩
    case round =>
      clear HI
      obtain ⟨j, f2, hj, rfl, rfl, M, hK, hf2⟩ := hrel
      by_cases hlt : j < l.length
      · obtain ⟨ad, rfl, _⟩ := hR j hlt
        have g1 : (j : Int) < ((l.length : Nat) : Int) := by omega
        go_upto_region 4 with fail
        refine wp_region_list ?_
        refine readL (.bool true) rfl (lssI .i64 _ _ _ _ _ _ rfl rfl rfl true (decide_eq_true g1) _) ?_
        simp only [aP, lI, l0, lS]
        first | show Exit.then _ _ _ _ _ | show Exit.inBlock _ _ _ _ _
        go_upto_region 5 with fail
        refine wp_region_list ?_
        refine readL (.pointer (some (ad.add (j * 2)))) rfl (idxN 22 43 2 l.length cap ad j _ _ Try.underlying22 (fun _ => by kernel_rfl) hlt rfl rfl rfl _) ?_
        simp only [aP, lI, l0, lS]
        refine readL (.agg #[.int .i64 ((rgz l j).1), .int .i64 ((rgz l j).2)]) rfl (loadN 43 _ (ad.add (j * 2)) [.int .i64 ((rgz l j).1), .int .i64 ((rgz l j).2)] rfl rfl (fun _ => by kernel_rfl) (fun _ => by kernel_rfl) (rg2 ((hR.below M.below (Nat.le_refl _)).at j hlt))) ?_
        simp only [aP, lI, l0, lS]
        refine actL (w' := wr.alloc (.cells #[.int .i64 0, .int .i64 0] 43)) (.pointer (some ⟨wr.heap.size, 0, none⟩)) rfl (by kernel_rfl) ?_
        simp only [aP, lI, l0, lS]
        have hB_B1 : w.heap.size ≤ wr.heap.size := M.below.size
        replace M := M.box #[.int .i64 0, .int .i64 0] 43 wr.heap.size rfl
        generalize wr.alloc (.cells #[.int .i64 0, .int .i64 0] 43) = w1 at M  ⊢
        generalize eB : wr.heap.size = B1 at M hB_B1 ⊢
        have hE_B1 : wr.heap.size ≤ B1 := Nat.le_of_eq eB
        have hF_B1 : B1 ≤ wr.heap.size := Nat.le_of_eq eB.symm
        clear eB
        replace M : Mm w ([(B1, [.int .i64 0, .int .i64 0])]) w1 := M
        refine skipOpL rfl (storeP [.int .i64 ((rgz l j).1), .int .i64 ((rgz l j).2)] B1 0 43 _ _ rfl rfl rfl (M.thereP List.mem_cons_self 0 2 (Nat.le_of_ble_eq_true rfl)) (by kernel_rfl) (List.all_eq_true.1 (rfl : ([.int .i64 ((rgz l j).1), .int .i64 ((rgz l j).2)] : List Value).all (fun u => u.oneCell') = true))) ?_
        simp only [Act.put]
        replace M := M.setPart [.int .i64 ((rgz l j).1), .int .i64 ((rgz l j).2)] 0 (Nat.le_of_ble_eq_true rfl)
        generalize w1.setCells B1 0 [.int .i64 ((rgz l j).1), .int .i64 ((rgz l j).2)] = w2 at M  ⊢
        replace M : Mm w ([(B1, [.int .i64 ((rgz l j).1), .int .i64 ((rgz l j).2)])]) w2 := M
        first | show Exit.then _ _ _ _ _ | show Exit.inBlock _ _ _ _ _
        go_upto_region 6 with fail
        refine wp_region_list ?_
        refine readL (.pointer (some ⟨B1, 0, none⟩)) rfl (by kernel_rfl) ?_
        simp only [aP, lI, l0, lS]
        refine readL (.int .i64 ((rgz l j).1)) rfl (load1 3 _ ⟨B1, 0, none⟩ _ rfl rfl (fun _ => by kernel_rfl) (M.get List.mem_cons_self 0 _ rfl)) ?_
        simp only [aP, lI, l0, lS]
        refine readL (.int .i64 f2) rfl (by kernel_rfl) ?_
        simp only [aP, lI, l0, lS]
        obtain ⟨b1, hb1⟩ : ∃ y_, y_ = (decide (((rgz l j).1) < f2)) := ⟨_, rfl⟩
        refine readL (.bool b1) rfl (lssI .i64 _ _ _ _ _ _ rfl rfl rfl b1 hb1.symm _) ?_
        simp only [aP, lI, l0, lS]
        refine readL (.bool b1) rfl (by kernel_rfl) ?_
        simp only [aP, lI, l0, lS]
        refine mayL (!b1) (.pointer (some ⟨B1, 1, none⟩)) ((bif b1 then undef else (.pointer (some ⟨B1, 1, none⟩)))) (by cases b1 <;> rfl) (by cases b1 <;> rfl) (fun hc => by cases b1 <;> first | (cases hc; done) | kernel_rfl) ?_
        simp only [aP, lI, l0, lS]
        refine mayL (!b1) (.int .i64 ((rgz l j).2)) ((bif b1 then undef else (.int .i64 ((rgz l j).2)))) (by cases b1 <;> rfl) (by cases b1 <;> rfl) (fun hc => by cases b1 <;> first | (cases hc; done) | exact (load1 3 _ ⟨B1, 1, none⟩ _ rfl rfl (fun _ => by kernel_rfl) (M.get List.mem_cons_self 1 _ rfl))) ?_
        simp only [aP, lI, l0, lS]
        refine mayL (!b1) (.pointer (some ⟨B1, 0, none⟩)) ((bif b1 then undef else (.pointer (some ⟨B1, 0, none⟩)))) (by cases b1 <;> rfl) (by cases b1 <;> rfl) (fun hc => by cases b1 <;> first | (cases hc; done) | kernel_rfl) ?_
        simp only [aP, lI, l0, lS]
        refine mayL (!b1) (.int .i64 ((rgz l j).1)) ((bif b1 then undef else (.int .i64 ((rgz l j).1)))) (by cases b1 <;> rfl) (by cases b1 <;> rfl) (fun hc => by cases b1 <;> first | (cases hc; done) | exact (load1 3 _ ⟨B1, 0, none⟩ _ rfl rfl (fun _ => by kernel_rfl) (M.get List.mem_cons_self 0 _ rfl))) ?_
        simp only [aP, lI, l0, lS]
        obtain ⟨b2, hb2⟩ : ∃ y_, y_ = (decide (((rgz l j).2) ≤ ((rgz l j).1))) := ⟨_, rfl⟩
        refine mayL (!b1) (.bool b2) ((bif b1 then undef else (.bool b2))) (by cases b1 <;> rfl) (by cases b1 <;> rfl) (fun hc => by cases b1 <;> first | (cases hc; done) | exact (leqI .i64 _ _ _ _ _ _ rfl rfl rfl b2 hb2.symm _)) ?_
        simp only [aP, lI, l0, lS]
        obtain ⟨b3, hb3⟩ : ∃ y_, y_ = (b1 || b2) := ⟨_, rfl⟩
        refine readL (.bool b3) rfl (by subst hb3; cases b1 <;> rfl) ?_
        simp only [aP, lI, l0, lS]
        refine readL (.bool b3) rfl (by kernel_rfl) ?_
        simp only [aP, lI, l0, lS]
        refine mayL (!b3) (.pointer (some ⟨B1, 1, none⟩)) ((bif b3 then undef else (.pointer (some ⟨B1, 1, none⟩)))) (by cases b3 <;> rfl) (by cases b3 <;> rfl) (fun hc => by cases b3 <;> first | (cases hc; done) | kernel_rfl) ?_
        simp only [aP, lI, l0, lS]
        refine mayL (!b3) (.int .i64 ((rgz l j).2)) ((bif b3 then undef else (.int .i64 ((rgz l j).2)))) (by cases b3 <;> rfl) (by cases b3 <;> rfl) (fun hc => by cases b3 <;> first | (cases hc; done) | exact (load1 3 _ ⟨B1, 1, none⟩ _ rfl rfl (fun _ => by kernel_rfl) (M.get List.mem_cons_self 1 _ rfl))) ?_
        simp only [aP, lI, l0, lS]
        refine mayL (!b3) (.int .i64 up) ((bif b3 then undef else (.int .i64 up))) (by cases b3 <;> rfl) (by cases b3 <;> rfl) (fun hc => by cases b3 <;> first | (cases hc; done) | kernel_rfl) ?_
        simp only [aP, lI, l0, lS]
        obtain ⟨b4, hb4⟩ : ∃ y_, y_ = (decide (((rgz l j).2) > up)) := ⟨_, rfl⟩
        refine mayL (!b3) (.bool b4) ((bif b3 then undef else (.bool b4))) (by cases b3 <;> rfl) (by cases b3 <;> rfl) (fun hc => by cases b3 <;> first | (cases hc; done) | exact (gtrI .i64 _ _ _ _ _ _ rfl rfl rfl b4 hb4.symm _)) ?_
        simp only [aP, lI, l0, lS]
        obtain ⟨b5, hb5⟩ : ∃ y_, y_ = (b3 || b4) := ⟨_, rfl⟩
        refine readL (.bool b5) rfl (by subst hb5; cases b3 <;> rfl) ?_
        simp only [aP, lI, l0, lS]
        first | show Exit.then _ _ _ _ _ | show Exit.inBlock _ _ _ _ _
        have hrup : rup (l.drop j) f2 up = (!b5 && rup (l.drop (j + 1)) ((rgz l j).2 + 1) up) := by
          rw [drop_rgz l j hlt]
          show (!((decide ((rgz l j).1 < f2) || decide ((rgz l j).2 ≤ (rgz l j).1)) || decide ((rgz l j).2 > up)) && _) = _
          simp only [hb1, hb2, hb3, hb4, hb5]
        rw [hrup] at hK
        clear hrup
        cases b5 with
        | true =>
          try clear hb1
          try clear hb2
          try clear hb3
          try clear hb4
          try clear hb5
          go_upto_region 7 with fail
          refine wp_region_list ?_
          refine readL (.bool false) rfl (by kernel_rfl) ?_
          simp only [aP, lI, l0, lS]
          first | show Exit.then _ _ _ _ _ | show Exit.inBlock _ _ _ _ _
          have hK := show Hid _ from (show false = rsg l fr up by unfold rsg; rw [hK]; simp)
          go_wp2
          go_ret
          exact ⟨by rw [← hK.out] <;> rfl, M.below⟩
        | false =>
          have hup2 : (rgz l j).2 ≤ up := by
            have h1 := hb5
            simp only [hb1, hb2, hb3, hb4] at h1
            have h2 := (Bool.or_eq_false_iff.1 h1.symm).2
            have := of_decide_eq_false h2
            omega
          have hlo : 0 ≤ (rgz l j).2 + 1 := by
            have h1 := hb5
            simp only [hb1, hb2, hb3, hb4] at h1
            have h2 := Bool.or_eq_false_iff.1 (Bool.or_eq_false_iff.1 h1.symm).1
            have h3 := of_decide_eq_false h2.1
            have h4 := of_decide_eq_false h2.2
            omega
          try clear hb1
          try clear hb2
          try clear hb3
          try clear hb4
          try clear hb5
          rw [Bool.not_false, Bool.true_and] at hK
          go_upto_region 8 with fail
          refine wp_region_list ?_
          refine readL (.pointer (some ⟨B1, 1, none⟩)) rfl (by kernel_rfl) ?_
          simp only [aP, lI, l0, lS]
          refine readL (.int .i64 ((rgz l j).2)) rfl (load1 3 _ ⟨B1, 1, none⟩ _ rfl rfl (fun _ => by kernel_rfl) (M.get List.mem_cons_self 1 _ rfl)) ?_
          simp only [aP, lI, l0, lS]
          refine readL (.int .i64 (((rgz l j).2) + 1)) rfl (addI .i64 _ _ _ _ _ _ _ rfl rfl rfl (by rw [IntKind.wrap_i64]; omega) _) ?_
          simp only [aP, lI, l0, lS]
          refine readL (.int .i64 (((rgz l j).2) + 1)) rfl (by kernel_rfl) ?_
          simp only [aP, lI, l0, lS]
          first | show Exit.then _ _ _ _ _ | show Exit.inBlock _ _ _ _ _
          replace M := M.tail
          have HS := show Hid _ from (And.intro M (And.intro hK hlo))
          clear M hK hup2 hlo
          go_wp2
          go_roundw
          case rel => first | exact ⟨j + 1, _, by omega, rfl, by go_num, HS.out⟩ | ((repeat apply Exists.intro); refine ⟨⟨j + 1, _, by omega, rfl, ?_, HS.out⟩, rfl⟩ <;> first | rfl | go_num)
          case measure => simp [intOf]; omega
      · obtain rfl : j = l.length := by omega
        have g1 : ¬ ((l.length : Nat) : Int) < ((l.length : Nat) : Int) := by omega
        rw [List.drop_length] at hK
        go_upto_region 4 with fail
        refine wp_region_list ?_
        refine readL (.bool false) rfl (lssI .i64 _ _ _ _ _ _ rfl rfl rfl false (decide_eq_false g1) _) ?_
        simp only [aP, lI, l0, lS]
        first | show Exit.then _ _ _ _ _ | show Exit.inBlock _ _ _ _ _
        go_upto_region 10 with fail
        refine wp_region_list ?_
        refine readL (.bool true) rfl (by kernel_rfl) ?_
        simp only [aP, lI, l0, lS]
        first | show Exit.then _ _ _ _ _ | show Exit.inBlock _ _ _ _ _
        have hK := show Hid _ from (show true = rsg l fr up by unfold rsg; rw [hK, decide_eq_true (by omega)]; rfl)
        go_wp2
        go_ret
        exact ⟨by rw [← hK.out] <;> rfl, M.below⟩

theorem blk_iff {a l : Int} {rn bn : Nat} {z : Nat → Int} : blk a l rn bn z = true ↔ a = 0 ∧ l = 0 ∧ rn = 0 ∧ bn = 0 ∧ val 256 z 8 = val 256 (fun _ => 0) 8 := by
  unfold blk
  simp
  omega
theorem tok_z8 {t : List Int} (h : t.length = 8) (hb : Byts t) : val 256 (bl t) 8 = val 256 (fun _ => 0) 8 ↔ t = z8 := by
  have := tok_val t h hb
  by_cases e : t = z8
  · subst e; exact ⟨fun _ => rfl, fun _ => rfl⟩
  · rw [decide_eq_true e] at this
    constructor
    · intro h'; rw [decide_eq_true h'] at this; cases this
    · intro h'; exact absurd h' e

set_option maxRecDepth 10000 in
set_option maxHeartbeats 32000000 in
theorem maybe_any (f : Frm) (rp : Option Addr) (rc : Nat) (bp : Option Addr) (bc : Nat) (w : World) (hf : FV w f rp rc bp bc) :
    Calls Try.prog 19 #[.agg (fcs f rp rc bp bc).toArray] w fun e w' => e = .returned (.bool (fok f)) ∧ Below w.heap.size w w' := by
  have M := Mm.init w
  have htok : In 256 8 (bl f.tok) := by have := hf.wf.tok.bl; rw [hf.wf.eight] at this; exact this
  unfold fcs
  go_enter Try.func19, Try.ntmps19
  go_upto_region 0 with fail
  refine wp_region_list ?_
  refine actL (w' := w.alloc (.cells #[.int .i64 f.kind, .int .i64 f.pos, .int .i64 f.lim, .slice rp f.rg.length rc, .slice bp f.byt.length bc, .int .u8 (bl f.tok 0), .int .u8 (bl f.tok 1), .int .u8 (bl f.tok 2), .int .u8 (bl f.tok 3), .int .u8 (bl f.tok 4), .int .u8 (bl f.tok 5), .int .u8 (bl f.tok 6), .int .u8 (bl f.tok 7)] 26)) (.pointer (some ⟨w.heap.size, 0, none⟩)) rfl (by kernel_rfl) ?_
  simp only [aP, lI, l0, lS]
  have hB_B1 : w.heap.size ≤ w.heap.size := M.below.size
  replace M := M.box #[.int .i64 f.kind, .int .i64 f.pos, .int .i64 f.lim, .slice rp f.rg.length rc, .slice bp f.byt.length bc, .int .u8 (bl f.tok 0), .int .u8 (bl f.tok 1), .int .u8 (bl f.tok 2), .int .u8 (bl f.tok 3), .int .u8 (bl f.tok 4), .int .u8 (bl f.tok 5), .int .u8 (bl f.tok 6), .int .u8 (bl f.tok 7)] 26 w.heap.size rfl
  generalize w.alloc (.cells #[.int .i64 f.kind, .int .i64 f.pos, .int .i64 f.lim, .slice rp f.rg.length rc, .slice bp f.byt.length bc, .int .u8 (bl f.tok 0), .int .u8 (bl f.tok 1), .int .u8 (bl f.tok 2), .int .u8 (bl f.tok 3), .int .u8 (bl f.tok 4), .int .u8 (bl f.tok 5), .int .u8 (bl f.tok 6), .int .u8 (bl f.tok 7)] 26) = w1 at M  ⊢
  generalize eB : w.heap.size = B1 at M hB_B1 ⊢
  have hE_B1 : w.heap.size ≤ B1 := Nat.le_of_eq eB
  have hF_B1 : B1 ≤ w.heap.size := Nat.le_of_eq eB.symm
  clear eB
  replace M : Mm w ([(B1, [.int .i64 f.kind, .int .i64 f.pos, .int .i64 f.lim, .slice rp f.rg.length rc, .slice bp f.byt.length bc, .int .u8 (bl f.tok 0), .int .u8 (bl f.tok 1), .int .u8 (bl f.tok 2), .int .u8 (bl f.tok 3), .int .u8 (bl f.tok 4), .int .u8 (bl f.tok 5), .int .u8 (bl f.tok 6), .int .u8 (bl f.tok 7)])]) w1 := M
  refine readL (.bool false) rfl (by kernel_rfl) ?_
  simp only [aP, lI, l0, lS]
  first | show Exit.then _ _ _ _ _ | show Exit.inBlock _ _ _ _ _
  go_upto_region 1 with fail
  refine wp_region_list ?_
  refine readL (.pointer (some ⟨B1, 0, none⟩)) rfl (by kernel_rfl) ?_
  simp only [aP, lI, l0, lS]
  refine readL (.int .i64 f.kind) rfl (load1 3 _ ⟨B1, 0, none⟩ _ rfl rfl (fun _ => by kernel_rfl) (M.get List.mem_cons_self 0 _ rfl)) ?_
  simp only [aP, lI, l0, lS]
  first | show Exit.then _ _ _ _ _ | show Exit.inBlock _ _ _ _ _
  go_upto_region 2 with fail
  refine wp_region_list ?_
  obtain ⟨b1, hb1⟩ : ∃ y_, y_ = ((f.kind : Int) == (1 : Int)) := ⟨_, rfl⟩
  refine readL (.bool b1) rfl (eqlI .i64 _ _ _ _ _ _ rfl rfl rfl b1 hb1.symm _) ?_
  simp only [aP, lI, l0, lS]
  refine readL (.bool b1) rfl (by kernel_rfl) ?_
  simp only [aP, lI, l0, lS]
  first | show Exit.then _ _ _ _ _ | show Exit.inBlock _ _ _ _ _
  cases b1 with
  | true =>
    have k1 : f.kind = 1 := by simpa using hb1.symm
    go_upto_region 3 with fail
    refine wp_region_list ?_
    refine readL (.pointer (some ⟨B1, 1, none⟩)) rfl (by kernel_rfl) ?_
    simp only [aP, lI, l0, lS]
    refine readL (.int .i64 f.pos) rfl (load1 3 _ ⟨B1, 1, none⟩ _ rfl rfl (fun _ => by kernel_rfl) (M.get List.mem_cons_self 1 _ rfl)) ?_
    simp only [aP, lI, l0, lS]
    obtain ⟨b2, hb2⟩ : ∃ y_, y_ = (inb f.pos 0 4611686018427387903) := ⟨_, rfl⟩
    have hC : Calls Try.prog 27 #[.int .i64 f.pos, .int .i64 0, .int .i64 4611686018427387903] w1 (fun e w' => e = .returned (.bool b2) ∧ Below w1.heap.size w1 w') := (by rw [hb2]; exact within_any _ _ _ _)
    refine callL rfl (fun _ => by kernel_rfl) (hC) ?_
    rintro e w2 ⟨rfl, l⟩
    replace M := M.call l
    refine ⟨_, rfl, ?_⟩
    clear l hC
    simp only [aP, lI, l0, lS]
    refine readL (.bool b2) rfl (by kernel_rfl) ?_
    simp only [aP, lI, l0, lS]
    refine mayL (b2) (.pointer (some ⟨B1, 4, none⟩)) ((bif b2 then (.pointer (some ⟨B1, 4, none⟩)) else undef)) (by cases b2 <;> rfl) (by cases b2 <;> rfl) (fun hc => by cases b2 <;> first | (cases hc; done) | kernel_rfl) ?_
    simp only [aP, lI, l0, lS]
    refine mayL (b2) (.slice bp f.byt.length bc) ((bif b2 then (.slice bp f.byt.length bc) else undef)) (by cases b2 <;> rfl) (by cases b2 <;> rfl) (fun hc => by cases b2 <;> first | (cases hc; done) | exact (load1 23 _ ⟨B1, 4, none⟩ _ rfl rfl (fun _ => by kernel_rfl) (M.get List.mem_cons_self 4 _ rfl))) ?_
    simp only [aP, lI, l0, lS]
    refine mayL (b2) (.int .i64 ((f.byt.length : Nat) : Int)) ((bif b2 then (.int .i64 ((f.byt.length : Nat) : Int)) else undef)) (by cases b2 <;> rfl) (by cases b2 <;> rfl) (fun hc => by cases b2 <;> first | (cases hc; done) | exact (lenS _ 23 5 bp f.byt.length bc rfl Try.underlying23 rfl _)) ?_
    simp only [aP, lI, l0, lS]
    obtain ⟨b3, hb3⟩ : ∃ y_, y_ = (inb ((f.byt.length : Nat) : Int) 1 128) := ⟨_, rfl⟩
    have hC : Calls Try.prog 27 #[.int .i64 ((f.byt.length : Nat) : Int), .int .i64 1, .int .i64 128] w2 (fun e w' => e = .returned (.bool b3) ∧ Below w2.heap.size w2 w') := (by rw [hb3]; exact within_any _ _ _ _)
    refine mayCallL (b2) (.bool b3) ((bif b2 then (.bool b3) else undef)) 27 #[.int .i64 ((f.byt.length : Nat) : Int), .int .i64 1, .int .i64 128] (by cases b2 <;> rfl) (by cases b2 <;> rfl) (fun hc => by cases b2 <;> first | (cases hc; done) | (intro _; kernel_rfl)) (fun _ => hC) ?_
    intro w3 l
    replace M := M.call l
    clear l hC
    simp only [aP, lI, l0, lS]
    obtain ⟨b4, hb4⟩ : ∃ y_, y_ = (b2 && b3) := ⟨_, rfl⟩
    refine readL (.bool b4) rfl (by subst hb4; cases b2 <;> rfl) ?_
    simp only [aP, lI, l0, lS]
    refine readL (.bool b4) rfl (by kernel_rfl) ?_
    simp only [aP, lI, l0, lS]
    refine mayL (b4) (.pointer (some ⟨B1, 2, none⟩)) ((bif b4 then (.pointer (some ⟨B1, 2, none⟩)) else undef)) (by cases b4 <;> rfl) (by cases b4 <;> rfl) (fun hc => by cases b4 <;> first | (cases hc; done) | kernel_rfl) ?_
    simp only [aP, lI, l0, lS]
    refine mayL (b4) (.int .i64 f.lim) ((bif b4 then (.int .i64 f.lim) else undef)) (by cases b4 <;> rfl) (by cases b4 <;> rfl) (fun hc => by cases b4 <;> first | (cases hc; done) | exact (load1 3 _ ⟨B1, 2, none⟩ _ rfl rfl (fun _ => by kernel_rfl) (M.get List.mem_cons_self 2 _ rfl))) ?_
    simp only [aP, lI, l0, lS]
    refine mayL (b4) (.pointer (some ⟨B1, 3, none⟩)) ((bif b4 then (.pointer (some ⟨B1, 3, none⟩)) else undef)) (by cases b4 <;> rfl) (by cases b4 <;> rfl) (fun hc => by cases b4 <;> first | (cases hc; done) | kernel_rfl) ?_
    simp only [aP, lI, l0, lS]
    refine mayL (b4) (.slice rp f.rg.length rc) ((bif b4 then (.slice rp f.rg.length rc) else undef)) (by cases b4 <;> rfl) (by cases b4 <;> rfl) (fun hc => by cases b4 <;> first | (cases hc; done) | exact (load1 22 _ ⟨B1, 3, none⟩ _ rfl rfl (fun _ => by kernel_rfl) (M.get List.mem_cons_self 3 _ rfl))) ?_
    simp only [aP, lI, l0, lS]
    refine mayL (b4) (.pointer (some ⟨B1, 5, none⟩)) ((bif b4 then (.pointer (some ⟨B1, 5, none⟩)) else undef)) (by cases b4 <;> rfl) (by cases b4 <;> rfl) (fun hc => by cases b4 <;> first | (cases hc; done) | kernel_rfl) ?_
    simp only [aP, lI, l0, lS]
    refine mayL (b4) (.agg #[.int .u8 (bl f.tok 0), .int .u8 (bl f.tok 1), .int .u8 (bl f.tok 2), .int .u8 (bl f.tok 3), .int .u8 (bl f.tok 4), .int .u8 (bl f.tok 5), .int .u8 (bl f.tok 6), .int .u8 (bl f.tok 7)]) ((bif b4 then (.agg #[.int .u8 (bl f.tok 0), .int .u8 (bl f.tok 1), .int .u8 (bl f.tok 2), .int .u8 (bl f.tok 3), .int .u8 (bl f.tok 4), .int .u8 (bl f.tok 5), .int .u8 (bl f.tok 6), .int .u8 (bl f.tok 7)]) else undef)) (by cases b4 <;> rfl) (by cases b4 <;> rfl) (fun hc => by cases b4 <;> first | (cases hc; done) | exact (loadN 24 _ ⟨B1, 5, none⟩ [.int .u8 (bl f.tok 0), .int .u8 (bl f.tok 1), .int .u8 (bl f.tok 2), .int .u8 (bl f.tok 3), .int .u8 (bl f.tok 4), .int .u8 (bl f.tok 5), .int .u8 (bl f.tok 6), .int .u8 (bl f.tok 7)] rfl rfl (fun _ => by kernel_rfl) (fun _ => by kernel_rfl) (M.part List.mem_cons_self 5 _ rfl))) ?_
    simp only [aP, lI, l0, lS]
    refine mayL (b4) (.agg #[.int .i64 0, .int .i64 0, .int .i64 f.lim, .slice rp f.rg.length rc, .slice none 0 0, .int .u8 (bl f.tok 0), .int .u8 (bl f.tok 1), .int .u8 (bl f.tok 2), .int .u8 (bl f.tok 3), .int .u8 (bl f.tok 4), .int .u8 (bl f.tok 5), .int .u8 (bl f.tok 6), .int .u8 (bl f.tok 7)]) ((bif b4 then (.agg #[.int .i64 0, .int .i64 0, .int .i64 f.lim, .slice rp f.rg.length rc, .slice none 0 0, .int .u8 (bl f.tok 0), .int .u8 (bl f.tok 1), .int .u8 (bl f.tok 2), .int .u8 (bl f.tok 3), .int .u8 (bl f.tok 4), .int .u8 (bl f.tok 5), .int .u8 (bl f.tok 6), .int .u8 (bl f.tok 7)]) else undef)) (by cases b4 <;> rfl) (by cases b4 <;> rfl) (fun hc => by cases b4 <;> first | (cases hc; done) | kernel_rfl) ?_
    simp only [aP, lI, l0, lS]
    obtain ⟨b5, hb5⟩ : ∃ y_, y_ = (blk 0 f.lim f.rg.length 0 (bl f.tok)) := ⟨_, rfl⟩
    have hC : Calls Try.prog 28 #[.agg #[.int .i64 0, .int .i64 0, .int .i64 f.lim, .slice rp f.rg.length rc, .slice none 0 0, .int .u8 (bl f.tok 0), .int .u8 (bl f.tok 1), .int .u8 (bl f.tok 2), .int .u8 (bl f.tok 3), .int .u8 (bl f.tok 4), .int .u8 (bl f.tok 5), .int .u8 (bl f.tok 6), .int .u8 (bl f.tok 7)]] w3 (fun e w' => e = .returned (.bool b5) ∧ Below w3.heap.size w3 w') := (by rw [hb5]; exact blank_any _ _ _ _ _ _ _ _ (bl f.tok) htok _)
    refine mayCallL (b4) (.bool b5) ((bif b4 then (.bool b5) else undef)) 28 #[.agg #[.int .i64 0, .int .i64 0, .int .i64 f.lim, .slice rp f.rg.length rc, .slice none 0 0, .int .u8 (bl f.tok 0), .int .u8 (bl f.tok 1), .int .u8 (bl f.tok 2), .int .u8 (bl f.tok 3), .int .u8 (bl f.tok 4), .int .u8 (bl f.tok 5), .int .u8 (bl f.tok 6), .int .u8 (bl f.tok 7)]] (by cases b4 <;> rfl) (by cases b4 <;> rfl) (fun hc => by cases b4 <;> first | (cases hc; done) | (intro _; kernel_rfl)) (fun _ => hC) ?_
    intro w4 l
    replace M := M.call l
    clear l hC
    simp only [aP, lI, l0, lS]
    obtain ⟨b6, hb6⟩ : ∃ y_, y_ = (b4 && b5) := ⟨_, rfl⟩
    refine readL (.bool b6) rfl (by subst hb6; cases b4 <;> rfl) ?_
    simp only [aP, lI, l0, lS]
    refine readL (.bool b6) rfl (by kernel_rfl) ?_
    simp only [aP, lI, l0, lS]
    first | show Exit.then _ _ _ _ _ | show Exit.inBlock _ _ _ _ _
    have hK := show Hid _ from (show b6 = fok f by
      have e8 := tok_z8 hf.wf.eight hf.wf.tok
      have mxe : MX = 4611686018427387903 := rfl
      have n1 := @nmb_iff f.pos
      have n2 := @nmb_iff f.lim
      rw [hb6, hb5, hb4, hb3, hb2]
      rw [Bool.eq_iff_iff]
      unfold fok fkd foth
      simp only [k1, Bool.and_eq_true, Bool.not_eq_true', Bool.or_eq_false_iff, Bool.and_eq_false_iff, inb_iff, blk_iff, nmb_iff, decide_eq_true_eq, decide_eq_false_iff_not, if_true, ne_eq, e8, mxe]
      grind)
    try clear hb1
    try clear hb2
    try clear hb3
    try clear hb4
    try clear hb5
    try clear hb6
    try clear k1
    try clear k2
    try clear k3
    try clear k4
    try clear k5
    try clear k6
    try clear k7
    go_wp2
    go_ret
    exact ⟨by rw [← hK.out] <;> rfl, M.below⟩
  | false =>
    have k1 : ¬ f.kind = 1 := by simpa using hb1.symm
    go_upto_region 4 with fail
    refine wp_region_list ?_
    obtain ⟨b7, hb7⟩ : ∃ y_, y_ = ((f.kind : Int) == (2 : Int)) := ⟨_, rfl⟩
    refine readL (.bool b7) rfl (eqlI .i64 _ _ _ _ _ _ rfl rfl rfl b7 hb7.symm _) ?_
    simp only [aP, lI, l0, lS]
    refine readL (.bool b7) rfl (by kernel_rfl) ?_
    simp only [aP, lI, l0, lS]
    first | show Exit.then _ _ _ _ _ | show Exit.inBlock _ _ _ _ _
    cases b7 with
    | true =>
      have k2 : f.kind = 2 := by simpa using hb7.symm
      go_upto_region 5 with fail
      refine wp_region_list ?_
      refine readL (.pointer (some ⟨B1, 1, none⟩)) rfl (by kernel_rfl) ?_
      simp only [aP, lI, l0, lS]
      refine readL (.int .i64 f.pos) rfl (load1 3 _ ⟨B1, 1, none⟩ _ rfl rfl (fun _ => by kernel_rfl) (M.get List.mem_cons_self 1 _ rfl)) ?_
      simp only [aP, lI, l0, lS]
      obtain ⟨b8, hb8⟩ : ∃ y_, y_ = (inb f.pos 0 4611686018427387903) := ⟨_, rfl⟩
      have hC : Calls Try.prog 27 #[.int .i64 f.pos, .int .i64 0, .int .i64 4611686018427387903] w1 (fun e w' => e = .returned (.bool b8) ∧ Below w1.heap.size w1 w') := (by rw [hb8]; exact within_any _ _ _ _)
      refine callL rfl (fun _ => by kernel_rfl) (hC) ?_
      rintro e w5 ⟨rfl, l⟩
      replace M := M.call l
      refine ⟨_, rfl, ?_⟩
      clear l hC
      simp only [aP, lI, l0, lS]
      refine readL (.bool b8) rfl (by kernel_rfl) ?_
      simp only [aP, lI, l0, lS]
      refine mayL (b8) (.pointer (some ⟨B1, 2, none⟩)) ((bif b8 then (.pointer (some ⟨B1, 2, none⟩)) else undef)) (by cases b8 <;> rfl) (by cases b8 <;> rfl) (fun hc => by cases b8 <;> first | (cases hc; done) | kernel_rfl) ?_
      simp only [aP, lI, l0, lS]
      refine mayL (b8) (.int .i64 f.lim) ((bif b8 then (.int .i64 f.lim) else undef)) (by cases b8 <;> rfl) (by cases b8 <;> rfl) (fun hc => by cases b8 <;> first | (cases hc; done) | exact (load1 3 _ ⟨B1, 2, none⟩ _ rfl rfl (fun _ => by kernel_rfl) (M.get List.mem_cons_self 2 _ rfl))) ?_
      simp only [aP, lI, l0, lS]
      obtain ⟨b9, hb9⟩ : ∃ y_, y_ = (inb f.lim 0 4611686018427387903) := ⟨_, rfl⟩
      have hC : Calls Try.prog 27 #[.int .i64 f.lim, .int .i64 0, .int .i64 4611686018427387903] w5 (fun e w' => e = .returned (.bool b9) ∧ Below w5.heap.size w5 w') := (by rw [hb9]; exact within_any _ _ _ _)
      refine mayCallL (b8) (.bool b9) ((bif b8 then (.bool b9) else undef)) 27 #[.int .i64 f.lim, .int .i64 0, .int .i64 4611686018427387903] (by cases b8 <;> rfl) (by cases b8 <;> rfl) (fun hc => by cases b8 <;> first | (cases hc; done) | (intro _; kernel_rfl)) (fun _ => hC) ?_
      intro w6 l
      replace M := M.call l
      clear l hC
      simp only [aP, lI, l0, lS]
      obtain ⟨b10, hb10⟩ : ∃ y_, y_ = (b8 && b9) := ⟨_, rfl⟩
      refine readL (.bool b10) rfl (by subst hb10; cases b8 <;> rfl) ?_
      simp only [aP, lI, l0, lS]
      refine readL (.bool b10) rfl (by kernel_rfl) ?_
      simp only [aP, lI, l0, lS]
      refine mayL (b10) (.pointer (some ⟨B1, 3, none⟩)) ((bif b10 then (.pointer (some ⟨B1, 3, none⟩)) else undef)) (by cases b10 <;> rfl) (by cases b10 <;> rfl) (fun hc => by cases b10 <;> first | (cases hc; done) | kernel_rfl) ?_
      simp only [aP, lI, l0, lS]
      refine mayL (b10) (.slice rp f.rg.length rc) ((bif b10 then (.slice rp f.rg.length rc) else undef)) (by cases b10 <;> rfl) (by cases b10 <;> rfl) (fun hc => by cases b10 <;> first | (cases hc; done) | exact (load1 22 _ ⟨B1, 3, none⟩ _ rfl rfl (fun _ => by kernel_rfl) (M.get List.mem_cons_self 3 _ rfl))) ?_
      simp only [aP, lI, l0, lS]
      refine mayL (b10) (.pointer (some ⟨B1, 1, none⟩)) ((bif b10 then (.pointer (some ⟨B1, 1, none⟩)) else undef)) (by cases b10 <;> rfl) (by cases b10 <;> rfl) (fun hc => by cases b10 <;> first | (cases hc; done) | kernel_rfl) ?_
      simp only [aP, lI, l0, lS]
      refine mayL (b10) (.int .i64 f.pos) ((bif b10 then (.int .i64 f.pos) else undef)) (by cases b10 <;> rfl) (by cases b10 <;> rfl) (fun hc => by cases b10 <;> first | (cases hc; done) | exact (load1 3 _ ⟨B1, 1, none⟩ _ rfl rfl (fun _ => by kernel_rfl) (M.get List.mem_cons_self 1 _ rfl))) ?_
      simp only [aP, lI, l0, lS]
      refine mayL (b10) (.int .i64 (f.pos + 1)) ((bif b10 then (.int .i64 (f.pos + 1)) else undef)) (by cases b10 <;> rfl) (by cases b10 <;> rfl) (fun hc => by cases b10 <;> first | (cases hc; done) | exact (addI .i64 _ _ _ _ _ _ _ rfl rfl rfl (by have hg := inb_and hb10.symm hb8; rw [IntKind.wrap_i64]; omega) _)) ?_
      simp only [aP, lI, l0, lS]
      obtain ⟨b11, hb11⟩ : ∃ y_, y_ = (rsg f.rg (f.pos + 1) 4611686018427387903) := ⟨_, rfl⟩
      have hC : (b10) = true → Calls Try.prog 29 #[.slice rp f.rg.length rc, .int .i64 (f.pos + 1), .int .i64 4611686018427387903] w6 (fun e w' => e = .returned (.bool b11) ∧ Below w6.heap.size w6 w') := fun hc => (by rw [hb11]; exact rising_any rp rc f.rg (by have := hf.rmax; omega) _ _ (by have hg := inb_and (hb10.symm.trans hc) hb8; omega) (by decide) _ (hf.rg.below M.below (Nat.le_refl _)))
      refine mayCallL (b10) (.bool b11) ((bif b10 then (.bool b11) else undef)) 29 #[.slice rp f.rg.length rc, .int .i64 (f.pos + 1), .int .i64 4611686018427387903] (by cases b10 <;> rfl) (by cases b10 <;> rfl) (fun hc => by cases b10 <;> first | (cases hc; done) | (intro _; kernel_rfl)) hC ?_
      intro w7 l
      replace M := M.call l
      clear l hC
      simp only [aP, lI, l0, lS]
      obtain ⟨b12, hb12⟩ : ∃ y_, y_ = (b10 && b11) := ⟨_, rfl⟩
      refine readL (.bool b12) rfl (by subst hb12; cases b10 <;> rfl) ?_
      simp only [aP, lI, l0, lS]
      refine readL (.bool b12) rfl (by kernel_rfl) ?_
      simp only [aP, lI, l0, lS]
      refine mayL (b12) (.pointer (some ⟨B1, 4, none⟩)) ((bif b12 then (.pointer (some ⟨B1, 4, none⟩)) else undef)) (by cases b12 <;> rfl) (by cases b12 <;> rfl) (fun hc => by cases b12 <;> first | (cases hc; done) | kernel_rfl) ?_
      simp only [aP, lI, l0, lS]
      refine mayL (b12) (.slice bp f.byt.length bc) ((bif b12 then (.slice bp f.byt.length bc) else undef)) (by cases b12 <;> rfl) (by cases b12 <;> rfl) (fun hc => by cases b12 <;> first | (cases hc; done) | exact (load1 23 _ ⟨B1, 4, none⟩ _ rfl rfl (fun _ => by kernel_rfl) (M.get List.mem_cons_self 4 _ rfl))) ?_
      simp only [aP, lI, l0, lS]
      refine mayL (b12) (.pointer (some ⟨B1, 5, none⟩)) ((bif b12 then (.pointer (some ⟨B1, 5, none⟩)) else undef)) (by cases b12 <;> rfl) (by cases b12 <;> rfl) (fun hc => by cases b12 <;> first | (cases hc; done) | kernel_rfl) ?_
      simp only [aP, lI, l0, lS]
      refine mayL (b12) (.agg #[.int .u8 (bl f.tok 0), .int .u8 (bl f.tok 1), .int .u8 (bl f.tok 2), .int .u8 (bl f.tok 3), .int .u8 (bl f.tok 4), .int .u8 (bl f.tok 5), .int .u8 (bl f.tok 6), .int .u8 (bl f.tok 7)]) ((bif b12 then (.agg #[.int .u8 (bl f.tok 0), .int .u8 (bl f.tok 1), .int .u8 (bl f.tok 2), .int .u8 (bl f.tok 3), .int .u8 (bl f.tok 4), .int .u8 (bl f.tok 5), .int .u8 (bl f.tok 6), .int .u8 (bl f.tok 7)]) else undef)) (by cases b12 <;> rfl) (by cases b12 <;> rfl) (fun hc => by cases b12 <;> first | (cases hc; done) | exact (loadN 24 _ ⟨B1, 5, none⟩ [.int .u8 (bl f.tok 0), .int .u8 (bl f.tok 1), .int .u8 (bl f.tok 2), .int .u8 (bl f.tok 3), .int .u8 (bl f.tok 4), .int .u8 (bl f.tok 5), .int .u8 (bl f.tok 6), .int .u8 (bl f.tok 7)] rfl rfl (fun _ => by kernel_rfl) (fun _ => by kernel_rfl) (M.part List.mem_cons_self 5 _ rfl))) ?_
      simp only [aP, lI, l0, lS]
      refine mayL (b12) (.agg #[.int .i64 0, .int .i64 0, .int .i64 0, .slice none 0 0, .slice bp f.byt.length bc, .int .u8 (bl f.tok 0), .int .u8 (bl f.tok 1), .int .u8 (bl f.tok 2), .int .u8 (bl f.tok 3), .int .u8 (bl f.tok 4), .int .u8 (bl f.tok 5), .int .u8 (bl f.tok 6), .int .u8 (bl f.tok 7)]) ((bif b12 then (.agg #[.int .i64 0, .int .i64 0, .int .i64 0, .slice none 0 0, .slice bp f.byt.length bc, .int .u8 (bl f.tok 0), .int .u8 (bl f.tok 1), .int .u8 (bl f.tok 2), .int .u8 (bl f.tok 3), .int .u8 (bl f.tok 4), .int .u8 (bl f.tok 5), .int .u8 (bl f.tok 6), .int .u8 (bl f.tok 7)]) else undef)) (by cases b12 <;> rfl) (by cases b12 <;> rfl) (fun hc => by cases b12 <;> first | (cases hc; done) | kernel_rfl) ?_
      simp only [aP, lI, l0, lS]
      obtain ⟨b13, hb13⟩ : ∃ y_, y_ = (blk 0 0 0 f.byt.length (bl f.tok)) := ⟨_, rfl⟩
      have hC : Calls Try.prog 28 #[.agg #[.int .i64 0, .int .i64 0, .int .i64 0, .slice none 0 0, .slice bp f.byt.length bc, .int .u8 (bl f.tok 0), .int .u8 (bl f.tok 1), .int .u8 (bl f.tok 2), .int .u8 (bl f.tok 3), .int .u8 (bl f.tok 4), .int .u8 (bl f.tok 5), .int .u8 (bl f.tok 6), .int .u8 (bl f.tok 7)]] w7 (fun e w' => e = .returned (.bool b13) ∧ Below w7.heap.size w7 w') := (by rw [hb13]; exact blank_any _ _ _ _ _ _ _ _ (bl f.tok) htok _)
      refine mayCallL (b12) (.bool b13) ((bif b12 then (.bool b13) else undef)) 28 #[.agg #[.int .i64 0, .int .i64 0, .int .i64 0, .slice none 0 0, .slice bp f.byt.length bc, .int .u8 (bl f.tok 0), .int .u8 (bl f.tok 1), .int .u8 (bl f.tok 2), .int .u8 (bl f.tok 3), .int .u8 (bl f.tok 4), .int .u8 (bl f.tok 5), .int .u8 (bl f.tok 6), .int .u8 (bl f.tok 7)]] (by cases b12 <;> rfl) (by cases b12 <;> rfl) (fun hc => by cases b12 <;> first | (cases hc; done) | (intro _; kernel_rfl)) (fun _ => hC) ?_
      intro w8 l
      replace M := M.call l
      clear l hC
      simp only [aP, lI, l0, lS]
      obtain ⟨b14, hb14⟩ : ∃ y_, y_ = (b12 && b13) := ⟨_, rfl⟩
      refine readL (.bool b14) rfl (by subst hb14; cases b12 <;> rfl) ?_
      simp only [aP, lI, l0, lS]
      refine readL (.bool b14) rfl (by kernel_rfl) ?_
      simp only [aP, lI, l0, lS]
      first | show Exit.then _ _ _ _ _ | show Exit.inBlock _ _ _ _ _
      have hK := show Hid _ from (show b14 = fok f by
        have e8 := tok_z8 hf.wf.eight hf.wf.tok
        have mxe : MX = 4611686018427387903 := rfl
        have n1 := @nmb_iff f.pos
        have n2 := @nmb_iff f.lim
        rw [hb14, hb13, hb12, hb11, hb10, hb9, hb8]
        rw [Bool.eq_iff_iff]
        unfold fok fkd foth
        simp only [k2, Bool.and_eq_true, Bool.not_eq_true', Bool.or_eq_false_iff, Bool.and_eq_false_iff, inb_iff, blk_iff, rsg_true, nmb_iff, decide_eq_false_iff_not, if_true, ne_eq, e8, mxe]
        grind)
      try clear hb1
      try clear hb7
      try clear hb8
      try clear hb9
      try clear hb10
      try clear hb11
      try clear hb12
      try clear hb13
      try clear hb14
      try clear k1
      try clear k2
      try clear k3
      try clear k4
      try clear k5
      try clear k6
      try clear k7
      go_wp2
      go_ret
      exact ⟨by rw [← hK.out] <;> rfl, M.below⟩
    | false =>
      have k2 : ¬ f.kind = 2 := by simpa using hb7.symm
      go_upto_region 6 with fail
      refine wp_region_list ?_
      obtain ⟨b15, hb15⟩ : ∃ y_, y_ = ((f.kind : Int) == (3 : Int)) := ⟨_, rfl⟩
      refine readL (.bool b15) rfl (eqlI .i64 _ _ _ _ _ _ rfl rfl rfl b15 hb15.symm _) ?_
      simp only [aP, lI, l0, lS]
      refine readL (.bool b15) rfl (by kernel_rfl) ?_
      simp only [aP, lI, l0, lS]
      first | show Exit.then _ _ _ _ _ | show Exit.inBlock _ _ _ _ _
      cases b15 with
      | true =>
        have k3 : f.kind = 3 := by simpa using hb15.symm
        go_upto_region 8 with fail
        refine wp_region_list ?_
        refine readL (.pointer (some ⟨B1, 1, none⟩)) rfl (by kernel_rfl) ?_
        simp only [aP, lI, l0, lS]
        refine readL (.int .i64 f.pos) rfl (load1 3 _ ⟨B1, 1, none⟩ _ rfl rfl (fun _ => by kernel_rfl) (M.get List.mem_cons_self 1 _ rfl)) ?_
        simp only [aP, lI, l0, lS]
        refine readL (.pointer (some ⟨B1, 2, none⟩)) rfl (by kernel_rfl) ?_
        simp only [aP, lI, l0, lS]
        refine readL (.int .i64 f.lim) rfl (load1 3 _ ⟨B1, 2, none⟩ _ rfl rfl (fun _ => by kernel_rfl) (M.get List.mem_cons_self 2 _ rfl)) ?_
        simp only [aP, lI, l0, lS]
        refine readL (.pointer (some ⟨B1, 3, none⟩)) rfl (by kernel_rfl) ?_
        simp only [aP, lI, l0, lS]
        refine readL (.slice rp f.rg.length rc) rfl (load1 22 _ ⟨B1, 3, none⟩ _ rfl rfl (fun _ => by kernel_rfl) (M.get List.mem_cons_self 3 _ rfl)) ?_
        simp only [aP, lI, l0, lS]
        refine readL (.pointer (some ⟨B1, 4, none⟩)) rfl (by kernel_rfl) ?_
        simp only [aP, lI, l0, lS]
        refine readL (.slice bp f.byt.length bc) rfl (load1 23 _ ⟨B1, 4, none⟩ _ rfl rfl (fun _ => by kernel_rfl) (M.get List.mem_cons_self 4 _ rfl)) ?_
        simp only [aP, lI, l0, lS]
        refine readL (.agg #[.int .i64 0, .int .i64 f.pos, .int .i64 f.lim, .slice rp f.rg.length rc, .slice bp f.byt.length bc, .int .u8 0, .int .u8 0, .int .u8 0, .int .u8 0, .int .u8 0, .int .u8 0, .int .u8 0, .int .u8 0]) rfl (by kernel_rfl) ?_
        simp only [aP, lI, l0, lS]
        obtain ⟨b16, hb16⟩ : ∃ y_, y_ = (blk f.pos f.lim f.rg.length f.byt.length (fun _ => 0)) := ⟨_, rfl⟩
        have hC : Calls Try.prog 28 #[.agg #[.int .i64 0, .int .i64 f.pos, .int .i64 f.lim, .slice rp f.rg.length rc, .slice bp f.byt.length bc, .int .u8 0, .int .u8 0, .int .u8 0, .int .u8 0, .int .u8 0, .int .u8 0, .int .u8 0, .int .u8 0]] w1 (fun e w' => e = .returned (.bool b16) ∧ Below w1.heap.size w1 w') := (by rw [hb16]; exact blank_any _ _ _ _ _ _ _ _ (fun _ => 0) (fun _ _ => ⟨Int.le_refl _, show (0 : Int) < 256 by decide⟩) _)
        refine callL rfl (fun _ => by kernel_rfl) (hC) ?_
        rintro e w9 ⟨rfl, l⟩
        replace M := M.call l
        refine ⟨_, rfl, ?_⟩
        clear l hC
        simp only [aP, lI, l0, lS]
        refine readL (.bool b16) rfl (by kernel_rfl) ?_
        simp only [aP, lI, l0, lS]
        first | show Exit.then _ _ _ _ _ | show Exit.inBlock _ _ _ _ _
        have hK := show Hid _ from (show b16 = fok f by
          have e8 := tok_z8 hf.wf.eight hf.wf.tok
          have mxe : MX = 4611686018427387903 := rfl
          have n1 := @nmb_iff f.pos
          have n2 := @nmb_iff f.lim
          rw [hb16]
          rw [Bool.eq_iff_iff]
          unfold fok fkd foth
          simp only [k3, Bool.and_eq_true, Bool.not_eq_true', Bool.or_eq_false_iff, Bool.and_eq_false_iff, blk_iff, nmb_iff, decide_eq_false_iff_not, ne_eq, mxe]
          grind)
        try clear hb1
        try clear hb7
        try clear hb15
        try clear hb16
        try clear k1
        try clear k2
        try clear k3
        try clear k4
        try clear k5
        try clear k6
        try clear k7
        go_wp2
        go_ret
        exact ⟨by rw [← hK.out] <;> rfl, M.below⟩
      | false =>
        have k3 : ¬ f.kind = 3 := by simpa using hb15.symm
        go_upto_region 7 with fail
        refine wp_region_list ?_
        obtain ⟨b17, hb17⟩ : ∃ y_, y_ = ((f.kind : Int) == (4 : Int)) := ⟨_, rfl⟩
        refine readL (.bool b17) rfl (eqlI .i64 _ _ _ _ _ _ rfl rfl rfl b17 hb17.symm _) ?_
        simp only [aP, lI, l0, lS]
        refine readL (.bool b17) rfl (by kernel_rfl) ?_
        simp only [aP, lI, l0, lS]
        first | show Exit.then _ _ _ _ _ | show Exit.inBlock _ _ _ _ _
        cases b17 with
        | true =>
          have k4 : f.kind = 4 := by simpa using hb17.symm
          go_upto_region 8 with fail
          refine wp_region_list ?_
          refine readL (.pointer (some ⟨B1, 1, none⟩)) rfl (by kernel_rfl) ?_
          simp only [aP, lI, l0, lS]
          refine readL (.int .i64 f.pos) rfl (load1 3 _ ⟨B1, 1, none⟩ _ rfl rfl (fun _ => by kernel_rfl) (M.get List.mem_cons_self 1 _ rfl)) ?_
          simp only [aP, lI, l0, lS]
          refine readL (.pointer (some ⟨B1, 2, none⟩)) rfl (by kernel_rfl) ?_
          simp only [aP, lI, l0, lS]
          refine readL (.int .i64 f.lim) rfl (load1 3 _ ⟨B1, 2, none⟩ _ rfl rfl (fun _ => by kernel_rfl) (M.get List.mem_cons_self 2 _ rfl)) ?_
          simp only [aP, lI, l0, lS]
          refine readL (.pointer (some ⟨B1, 3, none⟩)) rfl (by kernel_rfl) ?_
          simp only [aP, lI, l0, lS]
          refine readL (.slice rp f.rg.length rc) rfl (load1 22 _ ⟨B1, 3, none⟩ _ rfl rfl (fun _ => by kernel_rfl) (M.get List.mem_cons_self 3 _ rfl)) ?_
          simp only [aP, lI, l0, lS]
          refine readL (.pointer (some ⟨B1, 4, none⟩)) rfl (by kernel_rfl) ?_
          simp only [aP, lI, l0, lS]
          refine readL (.slice bp f.byt.length bc) rfl (load1 23 _ ⟨B1, 4, none⟩ _ rfl rfl (fun _ => by kernel_rfl) (M.get List.mem_cons_self 4 _ rfl)) ?_
          simp only [aP, lI, l0, lS]
          refine readL (.agg #[.int .i64 0, .int .i64 f.pos, .int .i64 f.lim, .slice rp f.rg.length rc, .slice bp f.byt.length bc, .int .u8 0, .int .u8 0, .int .u8 0, .int .u8 0, .int .u8 0, .int .u8 0, .int .u8 0, .int .u8 0]) rfl (by kernel_rfl) ?_
          simp only [aP, lI, l0, lS]
          obtain ⟨b18, hb18⟩ : ∃ y_, y_ = (blk f.pos f.lim f.rg.length f.byt.length (fun _ => 0)) := ⟨_, rfl⟩
          have hC : Calls Try.prog 28 #[.agg #[.int .i64 0, .int .i64 f.pos, .int .i64 f.lim, .slice rp f.rg.length rc, .slice bp f.byt.length bc, .int .u8 0, .int .u8 0, .int .u8 0, .int .u8 0, .int .u8 0, .int .u8 0, .int .u8 0, .int .u8 0]] w1 (fun e w' => e = .returned (.bool b18) ∧ Below w1.heap.size w1 w') := (by rw [hb18]; exact blank_any _ _ _ _ _ _ _ _ (fun _ => 0) (fun _ _ => ⟨Int.le_refl _, show (0 : Int) < 256 by decide⟩) _)
          refine callL rfl (fun _ => by kernel_rfl) (hC) ?_
          rintro e w10 ⟨rfl, l⟩
          replace M := M.call l
          refine ⟨_, rfl, ?_⟩
          clear l hC
          simp only [aP, lI, l0, lS]
          refine readL (.bool b18) rfl (by kernel_rfl) ?_
          simp only [aP, lI, l0, lS]
          first | show Exit.then _ _ _ _ _ | show Exit.inBlock _ _ _ _ _
          have hK := show Hid _ from (show b18 = fok f by
            have e8 := tok_z8 hf.wf.eight hf.wf.tok
            have mxe : MX = 4611686018427387903 := rfl
            have n1 := @nmb_iff f.pos
            have n2 := @nmb_iff f.lim
            rw [hb18]
            rw [Bool.eq_iff_iff]
            unfold fok fkd foth
            simp only [k4, Bool.and_eq_true, Bool.not_eq_true', Bool.or_eq_false_iff, Bool.and_eq_false_iff, blk_iff, nmb_iff, decide_eq_false_iff_not, ne_eq, mxe]
            grind)
          try clear hb1
          try clear hb7
          try clear hb15
          try clear hb17
          try clear hb18
          try clear k1
          try clear k2
          try clear k3
          try clear k4
          try clear k5
          try clear k6
          try clear k7
          go_wp2
          go_ret
          exact ⟨by rw [← hK.out] <;> rfl, M.below⟩
        | false =>
          have k4 : ¬ f.kind = 4 := by simpa using hb17.symm
          go_upto_region 9 with fail
          refine wp_region_list ?_
          obtain ⟨b19, hb19⟩ : ∃ y_, y_ = ((f.kind : Int) == (5 : Int)) := ⟨_, rfl⟩
          refine readL (.bool b19) rfl (eqlI .i64 _ _ _ _ _ _ rfl rfl rfl b19 hb19.symm _) ?_
          simp only [aP, lI, l0, lS]
          refine readL (.bool b19) rfl (by kernel_rfl) ?_
          simp only [aP, lI, l0, lS]
          first | show Exit.then _ _ _ _ _ | show Exit.inBlock _ _ _ _ _
          cases b19 with
          | true =>
            have k5 : f.kind = 5 := by simpa using hb19.symm
            go_upto_region 10 with fail
            refine wp_region_list ?_
            refine readL (.pointer (some ⟨B1, 1, none⟩)) rfl (by kernel_rfl) ?_
            simp only [aP, lI, l0, lS]
            refine readL (.int .i64 f.pos) rfl (load1 3 _ ⟨B1, 1, none⟩ _ rfl rfl (fun _ => by kernel_rfl) (M.get List.mem_cons_self 1 _ rfl)) ?_
            simp only [aP, lI, l0, lS]
            obtain ⟨b20, hb20⟩ : ∃ y_, y_ = (inb f.pos 0 65535) := ⟨_, rfl⟩
            have hC : Calls Try.prog 27 #[.int .i64 f.pos, .int .i64 0, .int .i64 65535] w1 (fun e w' => e = .returned (.bool b20) ∧ Below w1.heap.size w1 w') := (by rw [hb20]; exact within_any _ _ _ _)
            refine callL rfl (fun _ => by kernel_rfl) (hC) ?_
            rintro e w11 ⟨rfl, l⟩
            replace M := M.call l
            refine ⟨_, rfl, ?_⟩
            clear l hC
            simp only [aP, lI, l0, lS]
            refine readL (.bool b20) rfl (by kernel_rfl) ?_
            simp only [aP, lI, l0, lS]
            refine mayL (b20) (.pointer (some ⟨B1, 2, none⟩)) ((bif b20 then (.pointer (some ⟨B1, 2, none⟩)) else undef)) (by cases b20 <;> rfl) (by cases b20 <;> rfl) (fun hc => by cases b20 <;> first | (cases hc; done) | kernel_rfl) ?_
            simp only [aP, lI, l0, lS]
            refine mayL (b20) (.int .i64 f.lim) ((bif b20 then (.int .i64 f.lim) else undef)) (by cases b20 <;> rfl) (by cases b20 <;> rfl) (fun hc => by cases b20 <;> first | (cases hc; done) | exact (load1 3 _ ⟨B1, 2, none⟩ _ rfl rfl (fun _ => by kernel_rfl) (M.get List.mem_cons_self 2 _ rfl))) ?_
            simp only [aP, lI, l0, lS]
            refine mayL (b20) (.pointer (some ⟨B1, 3, none⟩)) ((bif b20 then (.pointer (some ⟨B1, 3, none⟩)) else undef)) (by cases b20 <;> rfl) (by cases b20 <;> rfl) (fun hc => by cases b20 <;> first | (cases hc; done) | kernel_rfl) ?_
            simp only [aP, lI, l0, lS]
            refine mayL (b20) (.slice rp f.rg.length rc) ((bif b20 then (.slice rp f.rg.length rc) else undef)) (by cases b20 <;> rfl) (by cases b20 <;> rfl) (fun hc => by cases b20 <;> first | (cases hc; done) | exact (load1 22 _ ⟨B1, 3, none⟩ _ rfl rfl (fun _ => by kernel_rfl) (M.get List.mem_cons_self 3 _ rfl))) ?_
            simp only [aP, lI, l0, lS]
            refine mayL (b20) (.pointer (some ⟨B1, 4, none⟩)) ((bif b20 then (.pointer (some ⟨B1, 4, none⟩)) else undef)) (by cases b20 <;> rfl) (by cases b20 <;> rfl) (fun hc => by cases b20 <;> first | (cases hc; done) | kernel_rfl) ?_
            simp only [aP, lI, l0, lS]
            refine mayL (b20) (.slice bp f.byt.length bc) ((bif b20 then (.slice bp f.byt.length bc) else undef)) (by cases b20 <;> rfl) (by cases b20 <;> rfl) (fun hc => by cases b20 <;> first | (cases hc; done) | exact (load1 23 _ ⟨B1, 4, none⟩ _ rfl rfl (fun _ => by kernel_rfl) (M.get List.mem_cons_self 4 _ rfl))) ?_
            simp only [aP, lI, l0, lS]
            refine mayL (b20) (.pointer (some ⟨B1, 5, none⟩)) ((bif b20 then (.pointer (some ⟨B1, 5, none⟩)) else undef)) (by cases b20 <;> rfl) (by cases b20 <;> rfl) (fun hc => by cases b20 <;> first | (cases hc; done) | kernel_rfl) ?_
            simp only [aP, lI, l0, lS]
            refine mayL (b20) (.agg #[.int .u8 (bl f.tok 0), .int .u8 (bl f.tok 1), .int .u8 (bl f.tok 2), .int .u8 (bl f.tok 3), .int .u8 (bl f.tok 4), .int .u8 (bl f.tok 5), .int .u8 (bl f.tok 6), .int .u8 (bl f.tok 7)]) ((bif b20 then (.agg #[.int .u8 (bl f.tok 0), .int .u8 (bl f.tok 1), .int .u8 (bl f.tok 2), .int .u8 (bl f.tok 3), .int .u8 (bl f.tok 4), .int .u8 (bl f.tok 5), .int .u8 (bl f.tok 6), .int .u8 (bl f.tok 7)]) else undef)) (by cases b20 <;> rfl) (by cases b20 <;> rfl) (fun hc => by cases b20 <;> first | (cases hc; done) | exact (loadN 24 _ ⟨B1, 5, none⟩ [.int .u8 (bl f.tok 0), .int .u8 (bl f.tok 1), .int .u8 (bl f.tok 2), .int .u8 (bl f.tok 3), .int .u8 (bl f.tok 4), .int .u8 (bl f.tok 5), .int .u8 (bl f.tok 6), .int .u8 (bl f.tok 7)] rfl rfl (fun _ => by kernel_rfl) (fun _ => by kernel_rfl) (M.part List.mem_cons_self 5 _ rfl))) ?_
            simp only [aP, lI, l0, lS]
            refine mayL (b20) (.agg #[.int .i64 0, .int .i64 0, .int .i64 f.lim, .slice rp f.rg.length rc, .slice bp f.byt.length bc, .int .u8 (bl f.tok 0), .int .u8 (bl f.tok 1), .int .u8 (bl f.tok 2), .int .u8 (bl f.tok 3), .int .u8 (bl f.tok 4), .int .u8 (bl f.tok 5), .int .u8 (bl f.tok 6), .int .u8 (bl f.tok 7)]) ((bif b20 then (.agg #[.int .i64 0, .int .i64 0, .int .i64 f.lim, .slice rp f.rg.length rc, .slice bp f.byt.length bc, .int .u8 (bl f.tok 0), .int .u8 (bl f.tok 1), .int .u8 (bl f.tok 2), .int .u8 (bl f.tok 3), .int .u8 (bl f.tok 4), .int .u8 (bl f.tok 5), .int .u8 (bl f.tok 6), .int .u8 (bl f.tok 7)]) else undef)) (by cases b20 <;> rfl) (by cases b20 <;> rfl) (fun hc => by cases b20 <;> first | (cases hc; done) | kernel_rfl) ?_
            simp only [aP, lI, l0, lS]
            obtain ⟨b21, hb21⟩ : ∃ y_, y_ = (blk 0 f.lim f.rg.length f.byt.length (bl f.tok)) := ⟨_, rfl⟩
            have hC : Calls Try.prog 28 #[.agg #[.int .i64 0, .int .i64 0, .int .i64 f.lim, .slice rp f.rg.length rc, .slice bp f.byt.length bc, .int .u8 (bl f.tok 0), .int .u8 (bl f.tok 1), .int .u8 (bl f.tok 2), .int .u8 (bl f.tok 3), .int .u8 (bl f.tok 4), .int .u8 (bl f.tok 5), .int .u8 (bl f.tok 6), .int .u8 (bl f.tok 7)]] w11 (fun e w' => e = .returned (.bool b21) ∧ Below w11.heap.size w11 w') := (by rw [hb21]; exact blank_any _ _ _ _ _ _ _ _ (bl f.tok) htok _)
            refine mayCallL (b20) (.bool b21) ((bif b20 then (.bool b21) else undef)) 28 #[.agg #[.int .i64 0, .int .i64 0, .int .i64 f.lim, .slice rp f.rg.length rc, .slice bp f.byt.length bc, .int .u8 (bl f.tok 0), .int .u8 (bl f.tok 1), .int .u8 (bl f.tok 2), .int .u8 (bl f.tok 3), .int .u8 (bl f.tok 4), .int .u8 (bl f.tok 5), .int .u8 (bl f.tok 6), .int .u8 (bl f.tok 7)]] (by cases b20 <;> rfl) (by cases b20 <;> rfl) (fun hc => by cases b20 <;> first | (cases hc; done) | (intro _; kernel_rfl)) (fun _ => hC) ?_
            intro w12 l
            replace M := M.call l
            clear l hC
            simp only [aP, lI, l0, lS]
            obtain ⟨b22, hb22⟩ : ∃ y_, y_ = (b20 && b21) := ⟨_, rfl⟩
            refine readL (.bool b22) rfl (by subst hb22; cases b20 <;> rfl) ?_
            simp only [aP, lI, l0, lS]
            refine readL (.bool b22) rfl (by kernel_rfl) ?_
            simp only [aP, lI, l0, lS]
            first | show Exit.then _ _ _ _ _ | show Exit.inBlock _ _ _ _ _
            have hK := show Hid _ from (show b22 = fok f by
              have e8 := tok_z8 hf.wf.eight hf.wf.tok
              have mxe : MX = 4611686018427387903 := rfl
              have n1 := @nmb_iff f.pos
              have n2 := @nmb_iff f.lim
              rw [hb22, hb21, hb20]
              rw [Bool.eq_iff_iff]
              unfold fok fkd foth
              simp only [k5, Bool.and_eq_true, Bool.not_eq_true', Bool.or_eq_false_iff, Bool.and_eq_false_iff, inb_iff, blk_iff, nmb_iff, decide_eq_false_iff_not, if_true, ne_eq, e8, mxe]
              grind)
            try clear hb1
            try clear hb7
            try clear hb15
            try clear hb17
            try clear hb19
            try clear hb20
            try clear hb21
            try clear hb22
            try clear k1
            try clear k2
            try clear k3
            try clear k4
            try clear k5
            try clear k6
            try clear k7
            go_wp2
            go_ret
            exact ⟨by rw [← hK.out] <;> rfl, M.below⟩
          | false =>
            have k5 : ¬ f.kind = 5 := by simpa using hb19.symm
            go_upto_region 11 with fail
            refine wp_region_list ?_
            obtain ⟨b23, hb23⟩ : ∃ y_, y_ = ((f.kind : Int) == (6 : Int)) := ⟨_, rfl⟩
            refine readL (.bool b23) rfl (eqlI .i64 _ _ _ _ _ _ rfl rfl rfl b23 hb23.symm _) ?_
            simp only [aP, lI, l0, lS]
            refine readL (.bool b23) rfl (by kernel_rfl) ?_
            simp only [aP, lI, l0, lS]
            first | show Exit.then _ _ _ _ _ | show Exit.inBlock _ _ _ _ _
            cases b23 with
            | true =>
              have k6 : f.kind = 6 := by simpa using hb23.symm
              go_upto_region 12 with fail
              refine wp_region_list ?_
              refine readL (.pointer (some ⟨B1, 1, none⟩)) rfl (by kernel_rfl) ?_
              simp only [aP, lI, l0, lS]
              refine readL (.int .i64 f.pos) rfl (load1 3 _ ⟨B1, 1, none⟩ _ rfl rfl (fun _ => by kernel_rfl) (M.get List.mem_cons_self 1 _ rfl)) ?_
              simp only [aP, lI, l0, lS]
              obtain ⟨b24, hb24⟩ : ∃ y_, y_ = (inb f.pos 0 4611686018427387903) := ⟨_, rfl⟩
              have hC : Calls Try.prog 27 #[.int .i64 f.pos, .int .i64 0, .int .i64 4611686018427387903] w1 (fun e w' => e = .returned (.bool b24) ∧ Below w1.heap.size w1 w') := (by rw [hb24]; exact within_any _ _ _ _)
              refine callL rfl (fun _ => by kernel_rfl) (hC) ?_
              rintro e w13 ⟨rfl, l⟩
              replace M := M.call l
              refine ⟨_, rfl, ?_⟩
              clear l hC
              simp only [aP, lI, l0, lS]
              refine readL (.bool b24) rfl (by kernel_rfl) ?_
              simp only [aP, lI, l0, lS]
              refine mayL (b24) (.pointer (some ⟨B1, 2, none⟩)) ((bif b24 then (.pointer (some ⟨B1, 2, none⟩)) else undef)) (by cases b24 <;> rfl) (by cases b24 <;> rfl) (fun hc => by cases b24 <;> first | (cases hc; done) | kernel_rfl) ?_
              simp only [aP, lI, l0, lS]
              refine mayL (b24) (.int .i64 f.lim) ((bif b24 then (.int .i64 f.lim) else undef)) (by cases b24 <;> rfl) (by cases b24 <;> rfl) (fun hc => by cases b24 <;> first | (cases hc; done) | exact (load1 3 _ ⟨B1, 2, none⟩ _ rfl rfl (fun _ => by kernel_rfl) (M.get List.mem_cons_self 2 _ rfl))) ?_
              simp only [aP, lI, l0, lS]
              refine mayL (b24) (.pointer (some ⟨B1, 3, none⟩)) ((bif b24 then (.pointer (some ⟨B1, 3, none⟩)) else undef)) (by cases b24 <;> rfl) (by cases b24 <;> rfl) (fun hc => by cases b24 <;> first | (cases hc; done) | kernel_rfl) ?_
              simp only [aP, lI, l0, lS]
              refine mayL (b24) (.slice rp f.rg.length rc) ((bif b24 then (.slice rp f.rg.length rc) else undef)) (by cases b24 <;> rfl) (by cases b24 <;> rfl) (fun hc => by cases b24 <;> first | (cases hc; done) | exact (load1 22 _ ⟨B1, 3, none⟩ _ rfl rfl (fun _ => by kernel_rfl) (M.get List.mem_cons_self 3 _ rfl))) ?_
              simp only [aP, lI, l0, lS]
              refine mayL (b24) (.pointer (some ⟨B1, 4, none⟩)) ((bif b24 then (.pointer (some ⟨B1, 4, none⟩)) else undef)) (by cases b24 <;> rfl) (by cases b24 <;> rfl) (fun hc => by cases b24 <;> first | (cases hc; done) | kernel_rfl) ?_
              simp only [aP, lI, l0, lS]
              refine mayL (b24) (.slice bp f.byt.length bc) ((bif b24 then (.slice bp f.byt.length bc) else undef)) (by cases b24 <;> rfl) (by cases b24 <;> rfl) (fun hc => by cases b24 <;> first | (cases hc; done) | exact (load1 23 _ ⟨B1, 4, none⟩ _ rfl rfl (fun _ => by kernel_rfl) (M.get List.mem_cons_self 4 _ rfl))) ?_
              simp only [aP, lI, l0, lS]
              refine mayL (b24) (.pointer (some ⟨B1, 5, none⟩)) ((bif b24 then (.pointer (some ⟨B1, 5, none⟩)) else undef)) (by cases b24 <;> rfl) (by cases b24 <;> rfl) (fun hc => by cases b24 <;> first | (cases hc; done) | kernel_rfl) ?_
              simp only [aP, lI, l0, lS]
              refine mayL (b24) (.agg #[.int .u8 (bl f.tok 0), .int .u8 (bl f.tok 1), .int .u8 (bl f.tok 2), .int .u8 (bl f.tok 3), .int .u8 (bl f.tok 4), .int .u8 (bl f.tok 5), .int .u8 (bl f.tok 6), .int .u8 (bl f.tok 7)]) ((bif b24 then (.agg #[.int .u8 (bl f.tok 0), .int .u8 (bl f.tok 1), .int .u8 (bl f.tok 2), .int .u8 (bl f.tok 3), .int .u8 (bl f.tok 4), .int .u8 (bl f.tok 5), .int .u8 (bl f.tok 6), .int .u8 (bl f.tok 7)]) else undef)) (by cases b24 <;> rfl) (by cases b24 <;> rfl) (fun hc => by cases b24 <;> first | (cases hc; done) | exact (loadN 24 _ ⟨B1, 5, none⟩ [.int .u8 (bl f.tok 0), .int .u8 (bl f.tok 1), .int .u8 (bl f.tok 2), .int .u8 (bl f.tok 3), .int .u8 (bl f.tok 4), .int .u8 (bl f.tok 5), .int .u8 (bl f.tok 6), .int .u8 (bl f.tok 7)] rfl rfl (fun _ => by kernel_rfl) (fun _ => by kernel_rfl) (M.part List.mem_cons_self 5 _ rfl))) ?_
              simp only [aP, lI, l0, lS]
              refine mayL (b24) (.agg #[.int .i64 0, .int .i64 0, .int .i64 f.lim, .slice rp f.rg.length rc, .slice bp f.byt.length bc, .int .u8 (bl f.tok 0), .int .u8 (bl f.tok 1), .int .u8 (bl f.tok 2), .int .u8 (bl f.tok 3), .int .u8 (bl f.tok 4), .int .u8 (bl f.tok 5), .int .u8 (bl f.tok 6), .int .u8 (bl f.tok 7)]) ((bif b24 then (.agg #[.int .i64 0, .int .i64 0, .int .i64 f.lim, .slice rp f.rg.length rc, .slice bp f.byt.length bc, .int .u8 (bl f.tok 0), .int .u8 (bl f.tok 1), .int .u8 (bl f.tok 2), .int .u8 (bl f.tok 3), .int .u8 (bl f.tok 4), .int .u8 (bl f.tok 5), .int .u8 (bl f.tok 6), .int .u8 (bl f.tok 7)]) else undef)) (by cases b24 <;> rfl) (by cases b24 <;> rfl) (fun hc => by cases b24 <;> first | (cases hc; done) | kernel_rfl) ?_
              simp only [aP, lI, l0, lS]
              obtain ⟨b25, hb25⟩ : ∃ y_, y_ = (blk 0 f.lim f.rg.length f.byt.length (bl f.tok)) := ⟨_, rfl⟩
              have hC : Calls Try.prog 28 #[.agg #[.int .i64 0, .int .i64 0, .int .i64 f.lim, .slice rp f.rg.length rc, .slice bp f.byt.length bc, .int .u8 (bl f.tok 0), .int .u8 (bl f.tok 1), .int .u8 (bl f.tok 2), .int .u8 (bl f.tok 3), .int .u8 (bl f.tok 4), .int .u8 (bl f.tok 5), .int .u8 (bl f.tok 6), .int .u8 (bl f.tok 7)]] w13 (fun e w' => e = .returned (.bool b25) ∧ Below w13.heap.size w13 w') := (by rw [hb25]; exact blank_any _ _ _ _ _ _ _ _ (bl f.tok) htok _)
              refine mayCallL (b24) (.bool b25) ((bif b24 then (.bool b25) else undef)) 28 #[.agg #[.int .i64 0, .int .i64 0, .int .i64 f.lim, .slice rp f.rg.length rc, .slice bp f.byt.length bc, .int .u8 (bl f.tok 0), .int .u8 (bl f.tok 1), .int .u8 (bl f.tok 2), .int .u8 (bl f.tok 3), .int .u8 (bl f.tok 4), .int .u8 (bl f.tok 5), .int .u8 (bl f.tok 6), .int .u8 (bl f.tok 7)]] (by cases b24 <;> rfl) (by cases b24 <;> rfl) (fun hc => by cases b24 <;> first | (cases hc; done) | (intro _; kernel_rfl)) (fun _ => hC) ?_
              intro w14 l
              replace M := M.call l
              clear l hC
              simp only [aP, lI, l0, lS]
              obtain ⟨b26, hb26⟩ : ∃ y_, y_ = (b24 && b25) := ⟨_, rfl⟩
              refine readL (.bool b26) rfl (by subst hb26; cases b24 <;> rfl) ?_
              simp only [aP, lI, l0, lS]
              refine readL (.bool b26) rfl (by kernel_rfl) ?_
              simp only [aP, lI, l0, lS]
              first | show Exit.then _ _ _ _ _ | show Exit.inBlock _ _ _ _ _
              have hK := show Hid _ from (show b26 = fok f by
                have e8 := tok_z8 hf.wf.eight hf.wf.tok
                have mxe : MX = 4611686018427387903 := rfl
                have n1 := @nmb_iff f.pos
                have n2 := @nmb_iff f.lim
                rw [hb26, hb25, hb24]
                rw [Bool.eq_iff_iff]
                unfold fok fkd foth
                simp only [k6, Bool.and_eq_true, Bool.not_eq_true', Bool.or_eq_false_iff, Bool.and_eq_false_iff, inb_iff, blk_iff, nmb_iff, decide_eq_false_iff_not, if_true, ne_eq, e8, mxe]
                grind)
              try clear hb1
              try clear hb7
              try clear hb15
              try clear hb17
              try clear hb19
              try clear hb23
              try clear hb24
              try clear hb25
              try clear hb26
              try clear k1
              try clear k2
              try clear k3
              try clear k4
              try clear k5
              try clear k6
              try clear k7
              go_wp2
              go_ret
              exact ⟨by rw [← hK.out] <;> rfl, M.below⟩
            | false =>
              have k6 : ¬ f.kind = 6 := by simpa using hb23.symm
              go_upto_region 13 with fail
              refine wp_region_list ?_
              obtain ⟨b27, hb27⟩ : ∃ y_, y_ = ((f.kind : Int) == (7 : Int)) := ⟨_, rfl⟩
              refine readL (.bool b27) rfl (eqlI .i64 _ _ _ _ _ _ rfl rfl rfl b27 hb27.symm _) ?_
              simp only [aP, lI, l0, lS]
              refine readL (.bool b27) rfl (by kernel_rfl) ?_
              simp only [aP, lI, l0, lS]
              first | show Exit.then _ _ _ _ _ | show Exit.inBlock _ _ _ _ _
              cases b27 with
              | true =>
                have k7 : f.kind = 7 := by simpa using hb27.symm
                go_upto_region 14 with fail
                refine wp_region_list ?_
                refine readL (.pointer (some ⟨B1, 1, none⟩)) rfl (by kernel_rfl) ?_
                simp only [aP, lI, l0, lS]
                refine readL (.int .i64 f.pos) rfl (load1 3 _ ⟨B1, 1, none⟩ _ rfl rfl (fun _ => by kernel_rfl) (M.get List.mem_cons_self 1 _ rfl)) ?_
                simp only [aP, lI, l0, lS]
                obtain ⟨b28, hb28⟩ : ∃ y_, y_ = (inb f.pos 0 4611686018427387903) := ⟨_, rfl⟩
                have hC : Calls Try.prog 27 #[.int .i64 f.pos, .int .i64 0, .int .i64 4611686018427387903] w1 (fun e w' => e = .returned (.bool b28) ∧ Below w1.heap.size w1 w') := (by rw [hb28]; exact within_any _ _ _ _)
                refine callL rfl (fun _ => by kernel_rfl) (hC) ?_
                rintro e w15 ⟨rfl, l⟩
                replace M := M.call l
                refine ⟨_, rfl, ?_⟩
                clear l hC
                simp only [aP, lI, l0, lS]
                refine readL (.bool b28) rfl (by kernel_rfl) ?_
                simp only [aP, lI, l0, lS]
                refine mayL (b28) (.pointer (some ⟨B1, 2, none⟩)) ((bif b28 then (.pointer (some ⟨B1, 2, none⟩)) else undef)) (by cases b28 <;> rfl) (by cases b28 <;> rfl) (fun hc => by cases b28 <;> first | (cases hc; done) | kernel_rfl) ?_
                simp only [aP, lI, l0, lS]
                refine mayL (b28) (.int .i64 f.lim) ((bif b28 then (.int .i64 f.lim) else undef)) (by cases b28 <;> rfl) (by cases b28 <;> rfl) (fun hc => by cases b28 <;> first | (cases hc; done) | exact (load1 3 _ ⟨B1, 2, none⟩ _ rfl rfl (fun _ => by kernel_rfl) (M.get List.mem_cons_self 2 _ rfl))) ?_
                simp only [aP, lI, l0, lS]
                obtain ⟨b29, hb29⟩ : ∃ y_, y_ = (inb f.lim 0 65535) := ⟨_, rfl⟩
                have hC : Calls Try.prog 27 #[.int .i64 f.lim, .int .i64 0, .int .i64 65535] w15 (fun e w' => e = .returned (.bool b29) ∧ Below w15.heap.size w15 w') := (by rw [hb29]; exact within_any _ _ _ _)
                refine mayCallL (b28) (.bool b29) ((bif b28 then (.bool b29) else undef)) 27 #[.int .i64 f.lim, .int .i64 0, .int .i64 65535] (by cases b28 <;> rfl) (by cases b28 <;> rfl) (fun hc => by cases b28 <;> first | (cases hc; done) | (intro _; kernel_rfl)) (fun _ => hC) ?_
                intro w16 l
                replace M := M.call l
                clear l hC
                simp only [aP, lI, l0, lS]
                obtain ⟨b30, hb30⟩ : ∃ y_, y_ = (b28 && b29) := ⟨_, rfl⟩
                refine readL (.bool b30) rfl (by subst hb30; cases b28 <;> rfl) ?_
                simp only [aP, lI, l0, lS]
                refine readL (.bool b30) rfl (by kernel_rfl) ?_
                simp only [aP, lI, l0, lS]
                refine mayL (b30) (.pointer (some ⟨B1, 3, none⟩)) ((bif b30 then (.pointer (some ⟨B1, 3, none⟩)) else undef)) (by cases b30 <;> rfl) (by cases b30 <;> rfl) (fun hc => by cases b30 <;> first | (cases hc; done) | kernel_rfl) ?_
                simp only [aP, lI, l0, lS]
                refine mayL (b30) (.slice rp f.rg.length rc) ((bif b30 then (.slice rp f.rg.length rc) else undef)) (by cases b30 <;> rfl) (by cases b30 <;> rfl) (fun hc => by cases b30 <;> first | (cases hc; done) | exact (load1 22 _ ⟨B1, 3, none⟩ _ rfl rfl (fun _ => by kernel_rfl) (M.get List.mem_cons_self 3 _ rfl))) ?_
                simp only [aP, lI, l0, lS]
                refine mayL (b30) (.pointer (some ⟨B1, 1, none⟩)) ((bif b30 then (.pointer (some ⟨B1, 1, none⟩)) else undef)) (by cases b30 <;> rfl) (by cases b30 <;> rfl) (fun hc => by cases b30 <;> first | (cases hc; done) | kernel_rfl) ?_
                simp only [aP, lI, l0, lS]
                refine mayL (b30) (.int .i64 f.pos) ((bif b30 then (.int .i64 f.pos) else undef)) (by cases b30 <;> rfl) (by cases b30 <;> rfl) (fun hc => by cases b30 <;> first | (cases hc; done) | exact (load1 3 _ ⟨B1, 1, none⟩ _ rfl rfl (fun _ => by kernel_rfl) (M.get List.mem_cons_self 1 _ rfl))) ?_
                simp only [aP, lI, l0, lS]
                obtain ⟨b31, hb31⟩ : ∃ y_, y_ = (rsg f.rg 0 f.pos) := ⟨_, rfl⟩
                have hC : (b30) = true → Calls Try.prog 29 #[.slice rp f.rg.length rc, .int .i64 0, .int .i64 f.pos] w16 (fun e w' => e = .returned (.bool b31) ∧ Below w16.heap.size w16 w') := fun hc => (by rw [hb31]; exact rising_any rp rc f.rg (by have := hf.rmax; omega) _ _ (Int.le_refl _) (inb_and (hb30.symm.trans hc) hb28).2 _ (hf.rg.below M.below (Nat.le_refl _)))
                refine mayCallL (b30) (.bool b31) ((bif b30 then (.bool b31) else undef)) 29 #[.slice rp f.rg.length rc, .int .i64 0, .int .i64 f.pos] (by cases b30 <;> rfl) (by cases b30 <;> rfl) (fun hc => by cases b30 <;> first | (cases hc; done) | (intro _; kernel_rfl)) hC ?_
                intro w17 l
                replace M := M.call l
                clear l hC
                simp only [aP, lI, l0, lS]
                obtain ⟨b32, hb32⟩ : ∃ y_, y_ = (b30 && b31) := ⟨_, rfl⟩
                refine readL (.bool b32) rfl (by subst hb32; cases b30 <;> rfl) ?_
                simp only [aP, lI, l0, lS]
                refine readL (.bool b32) rfl (by kernel_rfl) ?_
                simp only [aP, lI, l0, lS]
                refine mayL (b32) (.pointer (some ⟨B1, 4, none⟩)) ((bif b32 then (.pointer (some ⟨B1, 4, none⟩)) else undef)) (by cases b32 <;> rfl) (by cases b32 <;> rfl) (fun hc => by cases b32 <;> first | (cases hc; done) | kernel_rfl) ?_
                simp only [aP, lI, l0, lS]
                refine mayL (b32) (.slice bp f.byt.length bc) ((bif b32 then (.slice bp f.byt.length bc) else undef)) (by cases b32 <;> rfl) (by cases b32 <;> rfl) (fun hc => by cases b32 <;> first | (cases hc; done) | exact (load1 23 _ ⟨B1, 4, none⟩ _ rfl rfl (fun _ => by kernel_rfl) (M.get List.mem_cons_self 4 _ rfl))) ?_
                simp only [aP, lI, l0, lS]
                refine mayL (b32) (.pointer (some ⟨B1, 5, none⟩)) ((bif b32 then (.pointer (some ⟨B1, 5, none⟩)) else undef)) (by cases b32 <;> rfl) (by cases b32 <;> rfl) (fun hc => by cases b32 <;> first | (cases hc; done) | kernel_rfl) ?_
                simp only [aP, lI, l0, lS]
                refine mayL (b32) (.agg #[.int .u8 (bl f.tok 0), .int .u8 (bl f.tok 1), .int .u8 (bl f.tok 2), .int .u8 (bl f.tok 3), .int .u8 (bl f.tok 4), .int .u8 (bl f.tok 5), .int .u8 (bl f.tok 6), .int .u8 (bl f.tok 7)]) ((bif b32 then (.agg #[.int .u8 (bl f.tok 0), .int .u8 (bl f.tok 1), .int .u8 (bl f.tok 2), .int .u8 (bl f.tok 3), .int .u8 (bl f.tok 4), .int .u8 (bl f.tok 5), .int .u8 (bl f.tok 6), .int .u8 (bl f.tok 7)]) else undef)) (by cases b32 <;> rfl) (by cases b32 <;> rfl) (fun hc => by cases b32 <;> first | (cases hc; done) | exact (loadN 24 _ ⟨B1, 5, none⟩ [.int .u8 (bl f.tok 0), .int .u8 (bl f.tok 1), .int .u8 (bl f.tok 2), .int .u8 (bl f.tok 3), .int .u8 (bl f.tok 4), .int .u8 (bl f.tok 5), .int .u8 (bl f.tok 6), .int .u8 (bl f.tok 7)] rfl rfl (fun _ => by kernel_rfl) (fun _ => by kernel_rfl) (M.part List.mem_cons_self 5 _ rfl))) ?_
                simp only [aP, lI, l0, lS]
                refine mayL (b32) (.agg #[.int .i64 0, .int .i64 0, .int .i64 0, .slice none 0 0, .slice bp f.byt.length bc, .int .u8 (bl f.tok 0), .int .u8 (bl f.tok 1), .int .u8 (bl f.tok 2), .int .u8 (bl f.tok 3), .int .u8 (bl f.tok 4), .int .u8 (bl f.tok 5), .int .u8 (bl f.tok 6), .int .u8 (bl f.tok 7)]) ((bif b32 then (.agg #[.int .i64 0, .int .i64 0, .int .i64 0, .slice none 0 0, .slice bp f.byt.length bc, .int .u8 (bl f.tok 0), .int .u8 (bl f.tok 1), .int .u8 (bl f.tok 2), .int .u8 (bl f.tok 3), .int .u8 (bl f.tok 4), .int .u8 (bl f.tok 5), .int .u8 (bl f.tok 6), .int .u8 (bl f.tok 7)]) else undef)) (by cases b32 <;> rfl) (by cases b32 <;> rfl) (fun hc => by cases b32 <;> first | (cases hc; done) | kernel_rfl) ?_
                simp only [aP, lI, l0, lS]
                obtain ⟨b33, hb33⟩ : ∃ y_, y_ = (blk 0 0 0 f.byt.length (bl f.tok)) := ⟨_, rfl⟩
                have hC : Calls Try.prog 28 #[.agg #[.int .i64 0, .int .i64 0, .int .i64 0, .slice none 0 0, .slice bp f.byt.length bc, .int .u8 (bl f.tok 0), .int .u8 (bl f.tok 1), .int .u8 (bl f.tok 2), .int .u8 (bl f.tok 3), .int .u8 (bl f.tok 4), .int .u8 (bl f.tok 5), .int .u8 (bl f.tok 6), .int .u8 (bl f.tok 7)]] w17 (fun e w' => e = .returned (.bool b33) ∧ Below w17.heap.size w17 w') := (by rw [hb33]; exact blank_any _ _ _ _ _ _ _ _ (bl f.tok) htok _)
                refine mayCallL (b32) (.bool b33) ((bif b32 then (.bool b33) else undef)) 28 #[.agg #[.int .i64 0, .int .i64 0, .int .i64 0, .slice none 0 0, .slice bp f.byt.length bc, .int .u8 (bl f.tok 0), .int .u8 (bl f.tok 1), .int .u8 (bl f.tok 2), .int .u8 (bl f.tok 3), .int .u8 (bl f.tok 4), .int .u8 (bl f.tok 5), .int .u8 (bl f.tok 6), .int .u8 (bl f.tok 7)]] (by cases b32 <;> rfl) (by cases b32 <;> rfl) (fun hc => by cases b32 <;> first | (cases hc; done) | (intro _; kernel_rfl)) (fun _ => hC) ?_
                intro w18 l
                replace M := M.call l
                clear l hC
                simp only [aP, lI, l0, lS]
                obtain ⟨b34, hb34⟩ : ∃ y_, y_ = (b32 && b33) := ⟨_, rfl⟩
                refine readL (.bool b34) rfl (by subst hb34; cases b32 <;> rfl) ?_
                simp only [aP, lI, l0, lS]
                refine readL (.bool b34) rfl (by kernel_rfl) ?_
                simp only [aP, lI, l0, lS]
                first | show Exit.then _ _ _ _ _ | show Exit.inBlock _ _ _ _ _
                have hK := show Hid _ from (show b34 = fok f by
                  have e8 := tok_z8 hf.wf.eight hf.wf.tok
                  have mxe : MX = 4611686018427387903 := rfl
                  have n1 := @nmb_iff f.pos
                  have n2 := @nmb_iff f.lim
                  rw [hb34, hb33, hb32, hb31, hb30, hb29, hb28]
                  rw [Bool.eq_iff_iff]
                  unfold fok fkd foth
                  simp only [k7, Bool.and_eq_true, Bool.not_eq_true', Bool.or_eq_false_iff, Bool.and_eq_false_iff, inb_iff, blk_iff, rsg_false, nmb_iff, decide_eq_false_iff_not, if_true, ne_eq, e8, mxe]
                  grind)
                try clear hb1
                try clear hb7
                try clear hb15
                try clear hb17
                try clear hb19
                try clear hb23
                try clear hb27
                try clear hb28
                try clear hb29
                try clear hb30
                try clear hb31
                try clear hb32
                try clear hb33
                try clear hb34
                try clear k1
                try clear k2
                try clear k3
                try clear k4
                try clear k5
                try clear k6
                try clear k7
                go_wp2
                go_ret
                exact ⟨by rw [← hK.out] <;> rfl, M.below⟩
              | false =>
                have k7 : ¬ f.kind = 7 := by simpa using hb27.symm
                go_upto_region 15 with fail
                refine wp_region_list ?_
                refine readL (.bool false) rfl (by kernel_rfl) ?_
                simp only [aP, lI, l0, lS]
                first | show Exit.then _ _ _ _ _ | show Exit.inBlock _ _ _ _ _
                have hK := show Hid _ from (show false = fok f by
                  have e8 := tok_z8 hf.wf.eight hf.wf.tok
                  have mxe : MX = 4611686018427387903 := rfl
                  have n1 := @nmb_iff f.pos
                  have n2 := @nmb_iff f.lim
                  rw [Bool.eq_iff_iff]
                  unfold fok fkd foth
                  simp only [k1, k2, k3, k4, k5, k6, k7, Bool.and_eq_true, Bool.not_eq_true', Bool.or_eq_false_iff, Bool.and_eq_false_iff, nmb_iff, decide_eq_false_iff_not, if_false, ne_eq, mxe]
                  grind)
                try clear hb1
                try clear hb7
                try clear hb15
                try clear hb17
                try clear hb19
                try clear hb23
                try clear hb27
                try clear k1
                try clear k2
                try clear k3
                try clear k4
                try clear k5
                try clear k6
                try clear k7
                go_wp2
                go_ret
                exact ⟨by rw [← hK.out] <;> rfl, M.below⟩

set_option maxRecDepth 10000 in
set_option maxHeartbeats 32000000 in
theorem vcheck_any : CheckOK := by
  intro f rp rc bp bc w hf
  have M := Mm.init w
  have fold : (.agg #[.int .i64 f.kind, .int .i64 f.pos, .int .i64 f.lim, .slice rp f.rg.length rc, .slice bp f.byt.length bc, .int .u8 (bl f.tok 0), .int .u8 (bl f.tok 1), .int .u8 (bl f.tok 2), .int .u8 (bl f.tok 3), .int .u8 (bl f.tok 4), .int .u8 (bl f.tok 5), .int .u8 (bl f.tok 6), .int .u8 (bl f.tok 7)] : Value) = .agg (fcs f rp rc bp bc).toArray := rfl
  rw [← fold]
  go_enter Try.func10, Try.ntmps10
  go_upto_region 0 with fail
  refine wp_region_list ?_
  refine actL (w' := w.alloc (.cells #[.int .i64 f.kind, .int .i64 f.pos, .int .i64 f.lim, .slice rp f.rg.length rc, .slice bp f.byt.length bc, .int .u8 (bl f.tok 0), .int .u8 (bl f.tok 1), .int .u8 (bl f.tok 2), .int .u8 (bl f.tok 3), .int .u8 (bl f.tok 4), .int .u8 (bl f.tok 5), .int .u8 (bl f.tok 6), .int .u8 (bl f.tok 7)] 26)) (.pointer (some ⟨w.heap.size, 0, none⟩)) rfl (by kernel_rfl) ?_
  simp only [aP, lI, l0, lS]
  have hB_B1 : w.heap.size ≤ w.heap.size := M.below.size
  replace M := M.box #[.int .i64 f.kind, .int .i64 f.pos, .int .i64 f.lim, .slice rp f.rg.length rc, .slice bp f.byt.length bc, .int .u8 (bl f.tok 0), .int .u8 (bl f.tok 1), .int .u8 (bl f.tok 2), .int .u8 (bl f.tok 3), .int .u8 (bl f.tok 4), .int .u8 (bl f.tok 5), .int .u8 (bl f.tok 6), .int .u8 (bl f.tok 7)] 26 w.heap.size rfl
  generalize w.alloc (.cells #[.int .i64 f.kind, .int .i64 f.pos, .int .i64 f.lim, .slice rp f.rg.length rc, .slice bp f.byt.length bc, .int .u8 (bl f.tok 0), .int .u8 (bl f.tok 1), .int .u8 (bl f.tok 2), .int .u8 (bl f.tok 3), .int .u8 (bl f.tok 4), .int .u8 (bl f.tok 5), .int .u8 (bl f.tok 6), .int .u8 (bl f.tok 7)] 26) = w1 at M  ⊢
  generalize eB : w.heap.size = B1 at M hB_B1 ⊢
  have hE_B1 : w.heap.size ≤ B1 := Nat.le_of_eq eB
  have hF_B1 : B1 ≤ w.heap.size := Nat.le_of_eq eB.symm
  clear eB
  replace M : Mm w ([(B1, [.int .i64 f.kind, .int .i64 f.pos, .int .i64 f.lim, .slice rp f.rg.length rc, .slice bp f.byt.length bc, .int .u8 (bl f.tok 0), .int .u8 (bl f.tok 1), .int .u8 (bl f.tok 2), .int .u8 (bl f.tok 3), .int .u8 (bl f.tok 4), .int .u8 (bl f.tok 5), .int .u8 (bl f.tok 6), .int .u8 (bl f.tok 7)])]) w1 := M
  refine readL (.int .i64 0) rfl (by kernel_rfl) ?_
  simp only [aP, lI, l0, lS]
  first | show Exit.then _ _ _ _ _ | show Exit.inBlock _ _ _ _ _
  cases hok : fok f with
  | true =>
    go_upto_region 1 with fail
    refine wp_region_list ?_
    refine readL (.agg #[.int .i64 f.kind, .int .i64 f.pos, .int .i64 f.lim, .slice rp f.rg.length rc, .slice bp f.byt.length bc, .int .u8 (bl f.tok 0), .int .u8 (bl f.tok 1), .int .u8 (bl f.tok 2), .int .u8 (bl f.tok 3), .int .u8 (bl f.tok 4), .int .u8 (bl f.tok 5), .int .u8 (bl f.tok 6), .int .u8 (bl f.tok 7)]) rfl (loadN 26 _ ⟨B1, 0, none⟩ [.int .i64 f.kind, .int .i64 f.pos, .int .i64 f.lim, .slice rp f.rg.length rc, .slice bp f.byt.length bc, .int .u8 (bl f.tok 0), .int .u8 (bl f.tok 1), .int .u8 (bl f.tok 2), .int .u8 (bl f.tok 3), .int .u8 (bl f.tok 4), .int .u8 (bl f.tok 5), .int .u8 (bl f.tok 6), .int .u8 (bl f.tok 7)] rfl rfl (fun _ => by kernel_rfl) (fun _ => by kernel_rfl) (M.rangeAt List.mem_cons_self)) ?_
    simp only [aP, lI, l0, lS]
    have hC : Calls Try.prog 19 #[.agg #[.int .i64 f.kind, .int .i64 f.pos, .int .i64 f.lim, .slice rp f.rg.length rc, .slice bp f.byt.length bc, .int .u8 (bl f.tok 0), .int .u8 (bl f.tok 1), .int .u8 (bl f.tok 2), .int .u8 (bl f.tok 3), .int .u8 (bl f.tok 4), .int .u8 (bl f.tok 5), .int .u8 (bl f.tok 6), .int .u8 (bl f.tok 7)]] w1 (fun e w' => e = .returned (.bool true) ∧ Below w1.heap.size w1 w') := (by rw [← hok]; exact maybe_any f rp rc bp bc _ (hf.below M.below (Nat.le_refl _)))
    refine callL rfl (fun _ => by kernel_rfl) (hC) ?_
    rintro e w2 ⟨rfl, l⟩
    replace M := M.call l
    refine ⟨_, rfl, ?_⟩
    clear l hC
    simp only [aP, lI, l0, lS]
    refine readL (.bool false) rfl (by kernel_rfl) ?_
    simp only [aP, lI, l0, lS]
    first | show Exit.then _ _ _ _ _ | show Exit.inBlock _ _ _ _ _
    go_upto_region 3 with fail
    refine wp_region_list ?_
    refine readL (.int .i64 0) rfl (by kernel_rfl) ?_
    simp only [aP, lI, l0, lS]
    first | show Exit.then _ _ _ _ _ | show Exit.inBlock _ _ _ _ _
    have hK := show Hid _ from (fchk_ok hok)
    clear hok
    go_wp2
    go_ret
    exact ⟨by rw [hK.out] <;> rfl, M.below⟩
  | false =>
    go_upto_region 1 with fail
    refine wp_region_list ?_
    refine readL (.agg #[.int .i64 f.kind, .int .i64 f.pos, .int .i64 f.lim, .slice rp f.rg.length rc, .slice bp f.byt.length bc, .int .u8 (bl f.tok 0), .int .u8 (bl f.tok 1), .int .u8 (bl f.tok 2), .int .u8 (bl f.tok 3), .int .u8 (bl f.tok 4), .int .u8 (bl f.tok 5), .int .u8 (bl f.tok 6), .int .u8 (bl f.tok 7)]) rfl (loadN 26 _ ⟨B1, 0, none⟩ [.int .i64 f.kind, .int .i64 f.pos, .int .i64 f.lim, .slice rp f.rg.length rc, .slice bp f.byt.length bc, .int .u8 (bl f.tok 0), .int .u8 (bl f.tok 1), .int .u8 (bl f.tok 2), .int .u8 (bl f.tok 3), .int .u8 (bl f.tok 4), .int .u8 (bl f.tok 5), .int .u8 (bl f.tok 6), .int .u8 (bl f.tok 7)] rfl rfl (fun _ => by kernel_rfl) (fun _ => by kernel_rfl) (M.rangeAt List.mem_cons_self)) ?_
    simp only [aP, lI, l0, lS]
    have hC : Calls Try.prog 19 #[.agg #[.int .i64 f.kind, .int .i64 f.pos, .int .i64 f.lim, .slice rp f.rg.length rc, .slice bp f.byt.length bc, .int .u8 (bl f.tok 0), .int .u8 (bl f.tok 1), .int .u8 (bl f.tok 2), .int .u8 (bl f.tok 3), .int .u8 (bl f.tok 4), .int .u8 (bl f.tok 5), .int .u8 (bl f.tok 6), .int .u8 (bl f.tok 7)]] w1 (fun e w' => e = .returned (.bool false) ∧ Below w1.heap.size w1 w') := (by rw [← hok]; exact maybe_any f rp rc bp bc _ (hf.below M.below (Nat.le_refl _)))
    refine callL rfl (fun _ => by kernel_rfl) (hC) ?_
    rintro e w3 ⟨rfl, l⟩
    replace M := M.call l
    refine ⟨_, rfl, ?_⟩
    clear l hC
    simp only [aP, lI, l0, lS]
    refine readL (.bool true) rfl (by kernel_rfl) ?_
    simp only [aP, lI, l0, lS]
    first | show Exit.then _ _ _ _ _ | show Exit.inBlock _ _ _ _ _
    go_upto_region 2 with fail
    refine wp_region_list ?_
    refine readL (.int .i64 100) rfl (by kernel_rfl) ?_
    simp only [aP, lI, l0, lS]
    first | show Exit.then _ _ _ _ _ | show Exit.inBlock _ _ _ _ _
    have hK := show Hid _ from (fchk_bad hok)
    clear hok
    go_wp2
    go_ret
    exact ⟨by rw [hK.out] <;> rfl, M.below⟩
end Go.Proofs.Yteaamgjlkohfcaa
