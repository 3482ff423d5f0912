/- Texts of Qt, joined. -/
import Derived.Test.YteaamgjlkohfcaaP4FramesReads
namespace Go.Proofs.Yteaamgjlkohfcaa
open Go.RowKit

def FrQ (X : List Nat) (w0 : World) (R : Nat) (l : List (Nat × List Value)) (x : Int) (bt : List Int) (w : World) (e : Ending) (w' : World) : Prop :=
  (∃ f r sp cap rp rc bp bc, ¬ (x < 1 ∨ 7 < x) ∧ fp x bt = .ok (f, r) ∧ fok f = true ∧ r.length ≤ bt.length ∧ Byts r ∧ e = .returned (.agg (fcs f rp rc bp bc).toArray) ∧ Mm w0 ((R, [.slice sp r.length cap]) :: l) w' ∧ Off [R] w w' ∧ r.length ≤ cap ∧ (sp = none → cap = 0) ∧ SrcA (R :: X) w' sp r.length (bl r) ∧ FA (R :: X) w' f rp rc bp bc)
  ∨ (∃ c, (∀ m, dc (m + 1) (x :: bt) = .error c) ∧ Pan w0 R l c e w')
theorem fp_rgs {k : Int} {b : List Int} (hk : ¬ (k = 3 ∨ k = 4)) (h1 : ¬ k = 1) (h2 : k = 2 ∨ k = 7) (h : lE b = 0) (h' : lE (lR b) = 0) : fp k b = match rgs (if k = 2 then lN b else 0) (lR (lR b)) with
    | .error e => .error e
    | .ok (rs, r) => .ok (⟨k, lN b, lN (lR b), rs, [], z8⟩, r) := by
  unfold fp rgs
  rw [if_neg hk, nm_ok h]
  simp only
  rw [if_neg h1, if_pos h2, nm_ok h']
  simp only
  rcases nm (lR (lR b)) with e | ⟨n, b3⟩
  · rfl
  · simp only
    by_cases c : 8 < n
    · rw [if_pos c, if_pos c]
    · rw [if_neg c, if_neg c]
      rcases rd n.toNat (if k = 2 then lN b else 0) b3 with e | ⟨rs, r⟩ <;> rfl
theorem fok_none {f : Frm} (h : f.kind < 1 ∨ 7 < f.kind) : fok f = false := by
  cases hf : fok f with
  | false => rfl
  | true =>
    have := (fok_iff f).1 hf
    cases this using Ok.elim with
    | data => simp only at h; omega
    | ack => simp only at h; omega
    | tok k t hk => simp only at h; omega
    | upd => simp only at h; omega
    | close => simp only at h; omega
    | got => simp only at h; omega

set_option maxRecDepth 10000 in
set_option maxHeartbeats 32000000 in
theorem fframe1 (X : List Nat) (w0 w : World) (R : Nat) (l : List (Nat × List Value)) (ad : Addr) (c : Nat) (bt : List Int) (hX : ∀ y ∈ X, y < w.heap.size) (hlen : bt.length ≤ 255) (hc : bt.length + 1 ≤ c) (hbt : Byts bt) (M : Mm w0 ((R, [.slice (some ad) (bt.length + 1) c]) :: l) w) (A_0 : SrcA (R :: X) w (some ad) (bt.length + 1) (bl (1 :: bt))) :
    Calls Try.prog 36 #[.pointer (some ⟨R, 0, none⟩)] w fun e w' => FrQ X w0 R l 1 bt w e w' := by
  have hx : 0 ≤ (1 : Int) ∧ (1 : Int) < 256 := ⟨by decide, by decide⟩
  have OF := Off.refl [R] w
  have hRw := M.lt List.mem_cons_self
  go_enter Try.func36, Try.ntmps36
  go_upto_region 0 with fail
  refine wp_region_list ?_
  refine actL (w' := w.alloc (.cells #[.int .i64 0, .int .i64 0, .int .i64 0, .slice none 0 0, .slice none 0 0, .int .u8 0, .int .u8 0, .int .u8 0, .int .u8 0, .int .u8 0, .int .u8 0, .int .u8 0, .int .u8 0] 26)) (.pointer (some ⟨w.heap.size, 0, none⟩)) rfl (by kernel_rfl) ?_
  simp only [aP, lI, l0, lS]
  have hlb := (Below.refl w.heap.size w).alloc (Nat.le_refl _) (.cells #[.int .i64 0, .int .i64 0, .int .i64 0, .slice none 0 0, .slice none 0 0, .int .u8 0, .int .u8 0, .int .u8 0, .int .u8 0, .int .u8 0, .int .u8 0, .int .u8 0, .int .u8 0] 26)
  replace OF := OF.below hlb
  replace A_0 := (A_0.more w.heap.size (Nat.le_refl _)).off (Off.of_below hlb)
  clear hlb
  have hB_B1 : w0.heap.size ≤ w.heap.size := M.below.size
  replace M := M.box #[.int .i64 0, .int .i64 0, .int .i64 0, .slice none 0 0, .slice none 0 0, .int .u8 0, .int .u8 0, .int .u8 0, .int .u8 0, .int .u8 0, .int .u8 0, .int .u8 0, .int .u8 0] 26 w.heap.size rfl
  generalize w.alloc (.cells #[.int .i64 0, .int .i64 0, .int .i64 0, .slice none 0 0, .slice none 0 0, .int .u8 0, .int .u8 0, .int .u8 0, .int .u8 0, .int .u8 0, .int .u8 0, .int .u8 0, .int .u8 0] 26) = w1 at M OF A_0 ⊢
  generalize eB : w.heap.size = B1 at M hB_B1 A_0 ⊢
  have hE_B1 : w.heap.size ≤ B1 := Nat.le_of_eq eB
  have hF_B1 : B1 ≤ w.heap.size := Nat.le_of_eq eB.symm
  clear eB
  replace M : Mm w0 ((B1, [.int .i64 0, .int .i64 0, .int .i64 0, .slice none 0 0, .slice none 0 0, .int .u8 0, .int .u8 0, .int .u8 0, .int .u8 0, .int .u8 0, .int .u8 0, .int .u8 0, .int .u8 0]) :: (R, [.slice (some ad) (bt.length + 1) c]) :: l) w1 := M
  first | show Exit.then _ _ _ _ _ | show Exit.inBlock _ _ _ _ _
  have hB1s := M.lt List.mem_cons_self
  go_upto_region 1 with fail
  refine wp_region_list ?_
  refine readL (.pointer (some ⟨R, 0, none⟩)) rfl (by kernel_rfl) ?_
  simp only [aP, lI, l0, lS]
  replace M := M.swap
  refine callL rfl (fun _ => by kernel_rfl) (fkind_any w0 _ R _ ad c 1 bt hc hx M (A_0.1.at 0 (by omega))) ?_
  rintro e w2 ⟨rfl, cq, M', o1, hcs, hcn⟩
  clear M
  have M := M'
  clear M'
  replace OF := OF.trans o1
  replace A_0 := A_0.off (o1.mono (fun y hy => by obtain rfl := List.mem_singleton.1 hy; simp))
  replace A_0 : SrcA (B1 :: R :: X) w2 cq bt.length (bl bt) := ⟨(hcs _ _ _ A_0).1.congr fun j _ => bl_tail 1 bt j, (hcs _ _ _ A_0).2⟩
  have hz1 := o1.size
  clear o1 hcs
  refine ⟨_, rfl, ?_⟩
  simp only [aP, lI, l0, lS]
  refine readL (.agg #[.int .i64 1, .int .i64 0, .int .i64 0, .slice none 0 0, .slice none 0 0, .int .u8 0, .int .u8 0, .int .u8 0, .int .u8 0, .int .u8 0, .int .u8 0, .int .u8 0, .int .u8 0]) rfl (by kernel_rfl) ?_
  simp only [aP, lI, l0, lS]
  refine actL (w' := w2.alloc (.cells #[.int .i64 0, .int .i64 0, .int .i64 0, .slice none 0 0, .slice none 0 0, .int .u8 0, .int .u8 0, .int .u8 0, .int .u8 0, .int .u8 0, .int .u8 0, .int .u8 0, .int .u8 0] 26)) (.pointer (some ⟨w2.heap.size, 0, none⟩)) rfl (by kernel_rfl) ?_
  simp only [aP, lI, l0, lS]
  have hlb := (Below.refl w2.heap.size w2).alloc (Nat.le_refl _) (.cells #[.int .i64 0, .int .i64 0, .int .i64 0, .slice none 0 0, .slice none 0 0, .int .u8 0, .int .u8 0, .int .u8 0, .int .u8 0, .int .u8 0, .int .u8 0, .int .u8 0, .int .u8 0] 26)
  replace OF := OF.below hlb
  replace A_0 := (A_0.more w2.heap.size (Nat.le_refl _)).off (Off.of_below hlb)
  clear hlb
  have hB_B3 : w0.heap.size ≤ w2.heap.size := M.below.size
  replace M := M.box #[.int .i64 0, .int .i64 0, .int .i64 0, .slice none 0 0, .slice none 0 0, .int .u8 0, .int .u8 0, .int .u8 0, .int .u8 0, .int .u8 0, .int .u8 0, .int .u8 0, .int .u8 0] 26 w2.heap.size rfl
  generalize w2.alloc (.cells #[.int .i64 0, .int .i64 0, .int .i64 0, .slice none 0 0, .slice none 0 0, .int .u8 0, .int .u8 0, .int .u8 0, .int .u8 0, .int .u8 0, .int .u8 0, .int .u8 0, .int .u8 0] 26) = w3 at M OF A_0 ⊢
  generalize eB : w2.heap.size = B3 at M hB_B3 A_0 ⊢
  have hE_B3 : w2.heap.size ≤ B3 := Nat.le_of_eq eB
  have hF_B3 : B3 ≤ w2.heap.size := Nat.le_of_eq eB.symm
  clear eB
  replace M : Mm w0 ((B3, [.int .i64 0, .int .i64 0, .int .i64 0, .slice none 0 0, .slice none 0 0, .int .u8 0, .int .u8 0, .int .u8 0, .int .u8 0, .int .u8 0, .int .u8 0, .int .u8 0, .int .u8 0]) :: (R, [.slice cq bt.length (c - 1)]) :: (B1, [.int .i64 0, .int .i64 0, .int .i64 0, .slice none 0 0, .slice none 0 0, .int .u8 0, .int .u8 0, .int .u8 0, .int .u8 0, .int .u8 0, .int .u8 0, .int .u8 0, .int .u8 0]) :: l) w3 := M
  refine skipOpL rfl (storeP [.int .i64 1, .int .i64 0, .int .i64 0, .slice none 0 0, .slice none 0 0, .int .u8 0, .int .u8 0, .int .u8 0, .int .u8 0, .int .u8 0, .int .u8 0, .int .u8 0, .int .u8 0] B3 0 26 _ _ rfl rfl rfl (M.thereP List.mem_cons_self 0 13 (Nat.le_of_ble_eq_true rfl)) (by kernel_rfl) (List.all_eq_true.1 (rfl : ([.int .i64 1, .int .i64 0, .int .i64 0, .slice none 0 0, .slice none 0 0, .int .u8 0, .int .u8 0, .int .u8 0, .int .u8 0, .int .u8 0, .int .u8 0, .int .u8 0, .int .u8 0] : List Value).all (fun u => u.oneCell') = true))) ?_
  simp only [Act.put]
  replace M := M.setPart [.int .i64 1, .int .i64 0, .int .i64 0, .slice none 0 0, .slice none 0 0, .int .u8 0, .int .u8 0, .int .u8 0, .int .u8 0, .int .u8 0, .int .u8 0, .int .u8 0, .int .u8 0] 0 (Nat.le_of_ble_eq_true rfl)
  replace OF := OF.and1 ((Off.refl [B3] _).setAll (b := B3) List.mem_cons_self 0 [.int .i64 1, .int .i64 0, .int .i64 0, .slice none 0 0, .slice none 0 0, .int .u8 0, .int .u8 0, .int .u8 0, .int .u8 0, .int .u8 0, .int .u8 0, .int .u8 0, .int .u8 0]) (.inr (by omega))
  replace A_0 := A_0.off (((Off.refl [B3] _).setAll (b := B3) List.mem_cons_self 0 [.int .i64 1, .int .i64 0, .int .i64 0, .slice none 0 0, .slice none 0 0, .int .u8 0, .int .u8 0, .int .u8 0, .int .u8 0, .int .u8 0, .int .u8 0, .int .u8 0, .int .u8 0]).mono (fun x hx => by obtain rfl := List.mem_singleton.1 hx; simp))
  generalize w3.setCells B3 0 [.int .i64 1, .int .i64 0, .int .i64 0, .slice none 0 0, .slice none 0 0, .int .u8 0, .int .u8 0, .int .u8 0, .int .u8 0, .int .u8 0, .int .u8 0, .int .u8 0, .int .u8 0] = w4 at M OF A_0 ⊢
  replace M : Mm w0 ((B3, [.int .i64 1, .int .i64 0, .int .i64 0, .slice none 0 0, .slice none 0 0, .int .u8 0, .int .u8 0, .int .u8 0, .int .u8 0, .int .u8 0, .int .u8 0, .int .u8 0, .int .u8 0]) :: (R, [.slice cq bt.length (c - 1)]) :: (B1, [.int .i64 0, .int .i64 0, .int .i64 0, .slice none 0 0, .slice none 0 0, .int .u8 0, .int .u8 0, .int .u8 0, .int .u8 0, .int .u8 0, .int .u8 0, .int .u8 0, .int .u8 0]) :: l) w4 := M
  first | show Exit.then _ _ _ _ _ | show Exit.inBlock _ _ _ _ _
  have hFs := M.lt List.mem_cons_self
  have hlowX : ∀ y ∈ B3 :: B1 :: R :: X, y < w4.heap.size := fun y hy => by
    rcases List.mem_cons.1 hy with rfl | hy
    · exact hFs
    · rcases List.mem_cons.1 hy with rfl | hy
      · omega
      · rcases List.mem_cons.1 hy with rfl | hy
        · omega
        · have h1 := hX y hy; omega
  have OH := Off.refl [R, B3, B1] w4
  go_upto_region 2 with fail
  refine wp_region_list ?_
  refine readL (.pointer (some ⟨B3, 0, none⟩)) rfl (by kernel_rfl) ?_
  simp only [aP, lI, l0, lS]
  refine readL (.int .i64 1) rfl (load1 3 _ ⟨B3, 0, none⟩ _ rfl rfl (fun _ => by kernel_rfl) (M.get List.mem_cons_self 0 _ rfl)) ?_
  simp only [aP, lI, l0, lS]
  first | show Exit.then _ _ _ _ _ | show Exit.inBlock _ _ _ _ _
  go_upto_region 3 with fail
  refine wp_region_list ?_
  refine readL (.bool true) rfl (eqlI .i64 _ _ _ _ _ _ rfl rfl rfl true (by decide) _) ?_
  simp only [aP, lI, l0, lS]
  refine readL (.bool true) rfl (by kernel_rfl) ?_
  simp only [aP, lI, l0, lS]
  first | show Exit.then _ _ _ _ _ | show Exit.inBlock _ _ _ _ _
  go_upto_region 4 with fail
  refine wp_region_list ?_
  refine readL (.pointer (some ⟨R, 0, none⟩)) rfl (by kernel_rfl) ?_
  simp only [aP, lI, l0, lS]
  replace M := M.swap
  have hOH5 := OH.size
  refine callPL rfl (fun _ => by kernel_rfl) (fnumber_any w0 _ R _ _ _ bt (by omega) (by omega) hcn hbt M A_0.1) ?_
  rintro e w5 (⟨h5, rfl, p5, c5, M', o5, O_5⟩ | ⟨h5, rfl, s5, M'⟩)
  rotate_left
  · right
    refine ⟨_, rfl, ?_⟩
    exact ⟨rfl, .inr ⟨_, fun m => dc_err (by decide) (fp_err (by decide) h5), rfl, _, M'.drop2.drop2⟩⟩
  left
  clear M
  have M := M'
  clear M'
  have hl5 := lR_le bt
  have hb5 := lR_byts hbt
  have ho5 := o5.size
  clear A_0
  replace OF := OF.trans o5
  replace OH := OH.trans (o5.mono (fun y hy => by obtain rfl := List.mem_singleton.1 hy; simp))
  clear o5
  have A_5 : SrcA (B3 :: B1 :: R :: X) w5 p5 (lR bt).length (bl (lR bt)) := SrcA.of_own O_5 (fun y hy => by have h1 := hlowX y hy; omega)
  have hc5 := O_5.le
  have hn5 := O_5.nilCap
  clear O_5
  refine ⟨_, rfl, ?_⟩
  simp only [aP, lI, l0, lS]
  refine readL (.pointer (some ⟨B3, 1, none⟩)) rfl (by kernel_rfl) ?_
  simp only [aP, lI, l0, lS]
  replace M := M.swap
  refine skipOpL rfl (storeAny (.int .i64 (lN bt)) B3 1 3 _ _ rfl rfl rfl rfl rfl (M.isSome List.mem_cons_self 1 (by simp)) (M.free List.mem_cons_self 1 (by simp)) (by kernel_rfl)) ?_
  simp only [Act.put]
  replace M := M.set 1 (by simp) (.int .i64 (lN bt))
  replace OF := OF.and1 ((Off.refl [B3] _).set (b := B3) List.mem_cons_self 1 (.int .i64 (lN bt))) (.inr (by omega))
  replace OH := OH.and1 ((Off.refl [B3] _).set (b := B3) List.mem_cons_self 1 (.int .i64 (lN bt))) (.inl (by simp))
  replace A_5 := A_5.off (((Off.refl [B3] _).set (b := B3) List.mem_cons_self 1 (.int .i64 (lN bt))).mono (fun x hx => by obtain rfl := List.mem_singleton.1 hx; simp))
  generalize w5.setCell ⟨B3, 1, none⟩ (.int .i64 (lN bt)) = w6 at M OF OH A_5 ⊢
  replace M : Mm w0 ((B3, [.int .i64 1, .int .i64 (lN bt), .int .i64 0, .slice none 0 0, .slice none 0 0, .int .u8 0, .int .u8 0, .int .u8 0, .int .u8 0, .int .u8 0, .int .u8 0, .int .u8 0, .int .u8 0]) :: (R, [.slice p5 ((lR bt).length) c5]) :: (B1, [.int .i64 0, .int .i64 0, .int .i64 0, .slice none 0 0, .slice none 0 0, .int .u8 0, .int .u8 0, .int .u8 0, .int .u8 0, .int .u8 0, .int .u8 0, .int .u8 0, .int .u8 0]) :: l) w6 := M
  first | show Exit.then _ _ _ _ _ | show Exit.inBlock _ _ _ _ _
  go_upto_region 5 with fail
  refine wp_region_list ?_
  refine readL (.pointer (some ⟨R, 0, none⟩)) rfl (by kernel_rfl) ?_
  simp only [aP, lI, l0, lS]
  replace M := M.swap
  have hOH7 := OH.size
  refine callPL rfl (fun _ => by kernel_rfl) (ftext_any w0 _ R _ _ _ (lR bt) (by omega) hc5 hn5 hb5 M A_5.1) ?_
  rintro e w7 (⟨h7, pt, ct, rfl, O_t, p7, c7, M', o7, O_7⟩ | ⟨h7, rfl, s7, M'⟩)
  rotate_left
  · right
    refine ⟨_, rfl, ?_⟩
    exact ⟨rfl, .inr ⟨_, fun m => dc_err (by decide) (by rw [fp_data h5, tx_err h7]), rfl, _, M'.drop2.drop2⟩⟩
  left
  clear M
  have M := M'
  clear M'
  have hl7 := qR_le (lR bt)
  have hb7 := qR_byts hb5
  have ho7 := o7.size
  clear A_5
  replace OF := OF.trans o7
  replace OH := OH.trans (o7.mono (fun y hy => by obtain rfl := List.mem_singleton.1 hy; simp))
  clear o7
  have A_7 : SrcA (B3 :: B1 :: R :: X) w7 p7 (qR (lR bt)).length (bl (qR (lR bt))) := SrcA.of_own O_7 (fun y hy => by have h1 := hlowX y hy; omega)
  have hc7 := O_7.le
  have hn7 := O_7.nilCap
  clear O_7
  have hfp : fp 1 bt = .ok (⟨1, lN bt, 0, [], qT (lR bt), z8⟩, qR (lR bt)) := by rw [fp_data h5, tx_ok h7]
  have A_f : FA (B3 :: B1 :: R :: X) w7 ⟨1, lN bt, 0, [], qT (lR bt), z8⟩ none 0 pt ct := ⟨⟨fun j hj => absurd hj (Nat.not_lt_zero j), Nat.le_refl _, fun _ => rfl, Nat.zero_le _, O_t.src, O_t.le, O_t.nilCap, Nat.le_trans (qT_le _) (by decide), ⟨qT_byts hb5, z8_w, rfl⟩, show i64 1 by unfold i64; decide, i64_lN hbt h5, show i64 0 by unfold i64; decide⟩, fun _ e => (by cases e), (SrcA.of_own O_t (fun y hy => by have h1 := hlowX y hy; omega)).2⟩
  clear O_t
  refine ⟨_, rfl, ?_⟩
  simp only [aP, lI, l0, lS]
  refine readL (.pointer (some ⟨B3, 4, none⟩)) rfl (by kernel_rfl) ?_
  simp only [aP, lI, l0, lS]
  replace M := M.swap
  refine skipOpL rfl (storeAny (.slice pt ((qT (lR bt)).length) ct) B3 4 23 _ _ rfl rfl rfl rfl rfl (M.isSome List.mem_cons_self 4 (by simp)) (M.free List.mem_cons_self 4 (by simp)) (by kernel_rfl)) ?_
  simp only [Act.put]
  replace M := M.set 4 (by simp) (.slice pt ((qT (lR bt)).length) ct)
  replace OF := OF.and1 ((Off.refl [B3] _).set (b := B3) List.mem_cons_self 4 (.slice pt ((qT (lR bt)).length) ct)) (.inr (by omega))
  replace OH := OH.and1 ((Off.refl [B3] _).set (b := B3) List.mem_cons_self 4 (.slice pt ((qT (lR bt)).length) ct)) (.inl (by simp))
  replace A_7 := A_7.off (((Off.refl [B3] _).set (b := B3) List.mem_cons_self 4 (.slice pt ((qT (lR bt)).length) ct)).mono (fun x hx => by obtain rfl := List.mem_singleton.1 hx; simp))
  replace A_f := A_f.off (((Off.refl [B3] _).set (b := B3) List.mem_cons_self 4 (.slice pt ((qT (lR bt)).length) ct)).mono (fun x hx => by obtain rfl := List.mem_singleton.1 hx; simp))
  generalize w7.setCell ⟨B3, 4, none⟩ (.slice pt ((qT (lR bt)).length) ct) = w8 at M OF OH A_7 A_f ⊢
  replace M : Mm w0 ((B3, [.int .i64 1, .int .i64 (lN bt), .int .i64 0, .slice none 0 0, .slice pt ((qT (lR bt)).length) ct, .int .u8 0, .int .u8 0, .int .u8 0, .int .u8 0, .int .u8 0, .int .u8 0, .int .u8 0, .int .u8 0]) :: (R, [.slice p7 ((qR (lR bt)).length) c7]) :: (B1, [.int .i64 0, .int .i64 0, .int .i64 0, .slice none 0 0, .slice none 0 0, .int .u8 0, .int .u8 0, .int .u8 0, .int .u8 0, .int .u8 0, .int .u8 0, .int .u8 0, .int .u8 0]) :: l) w8 := M
  first | show Exit.then _ _ _ _ _ | show Exit.inBlock _ _ _ _ _
  go_upto_region 20 with fail
  refine wp_region_list ?_
  refine readL (.agg #[.int .i64 1, .int .i64 (lN bt), .int .i64 0, .slice none 0 0, .slice pt ((qT (lR bt)).length) ct, .int .u8 0, .int .u8 0, .int .u8 0, .int .u8 0, .int .u8 0, .int .u8 0, .int .u8 0, .int .u8 0]) rfl (loadN 26 _ ⟨B3, 0, none⟩ [.int .i64 1, .int .i64 (lN bt), .int .i64 0, .slice none 0 0, .slice pt ((qT (lR bt)).length) ct, .int .u8 0, .int .u8 0, .int .u8 0, .int .u8 0, .int .u8 0, .int .u8 0, .int .u8 0, .int .u8 0] rfl rfl (fun _ => by kernel_rfl) (fun _ => by kernel_rfl) (M.rangeAt List.mem_cons_self)) ?_
  simp only [aP, lI, l0, lS]
  have hC : Calls Try.prog 10 #[.agg #[.int .i64 1, .int .i64 (lN bt), .int .i64 0, .slice none 0 0, .slice pt ((qT (lR bt)).length) ct, .int .u8 0, .int .u8 0, .int .u8 0, .int .u8 0, .int .u8 0, .int .u8 0, .int .u8 0, .int .u8 0]] w8 (fun e w' => e = .returned (.int .i64 (fchk ⟨1, lN bt, 0, [], qT (lR bt), z8⟩)) ∧ Below w8.heap.size w8 w') := vcheck_any ⟨1, lN bt, 0, [], qT (lR bt), z8⟩ none 0 pt ct _ A_f.fv
  refine callL rfl (fun _ => by kernel_rfl) (hC) ?_
  rintro e w9 ⟨rfl, l⟩
  replace M := M.call l
  refine ⟨_, rfl, ?_⟩
  replace OF := OF.below l
  replace OH := OH.below l
  replace A_7 := A_7.off (Off.of_below l)
  replace A_f := A_f.off (Off.of_below l)
  clear l hC
  simp only [aP, lI, l0, lS]
  cases hok : fok ⟨1, lN bt, 0, [], qT (lR bt), z8⟩ with
  | false =>
    have e1 := fchk_bad hok
    refine callPL rfl (fun _ => by kernel_rfl) (stop_bad (fchk ⟨1, lN bt, 0, [], qT (lR bt), z8⟩) (by rw [e1]; decide) _) ?_
    rintro e w10 ⟨rfl, hw⟩
    subst hw
    right
    refine ⟨_, rfl, ?_⟩
    rw [e1]
    replace M := M.swap
    exact ⟨rfl, .inr ⟨100, fun m => dc_bad (by decide) hfp hok, rfl, _, M.drop2.drop2⟩⟩
  | true =>
    have e1 := fchk_ok hok
    rw [e1]
    clear e1
    refine callL rfl (fun _ => by kernel_rfl) (stop_ok _) ?_
    rintro e w10 ⟨rfl, hw⟩
    subst hw
    refine ⟨_, rfl, ?_⟩
    simp only [aP, lI, l0, lS]
    first | show Exit.then _ _ _ _ _ | show Exit.inBlock _ _ _ _ _
    go_upto_region 21 with fail
    refine wp_region_list ?_
    refine readL (.agg #[.int .i64 1, .int .i64 (lN bt), .int .i64 0, .slice none 0 0, .slice pt ((qT (lR bt)).length) ct, .int .u8 0, .int .u8 0, .int .u8 0, .int .u8 0, .int .u8 0, .int .u8 0, .int .u8 0, .int .u8 0]) rfl (loadN 26 _ ⟨B3, 0, none⟩ [.int .i64 1, .int .i64 (lN bt), .int .i64 0, .slice none 0 0, .slice pt ((qT (lR bt)).length) ct, .int .u8 0, .int .u8 0, .int .u8 0, .int .u8 0, .int .u8 0, .int .u8 0, .int .u8 0, .int .u8 0] rfl rfl (fun _ => by kernel_rfl) (fun _ => by kernel_rfl) (M.rangeAt List.mem_cons_self)) ?_
    simp only [aP, lI, l0, lS]
    replace M := M.rot3
    refine skipOpL rfl (storeP [.int .i64 1, .int .i64 (lN bt), .int .i64 0, .slice none 0 0, .slice pt ((qT (lR bt)).length) ct, .int .u8 0, .int .u8 0, .int .u8 0, .int .u8 0, .int .u8 0, .int .u8 0, .int .u8 0, .int .u8 0] B1 0 26 _ _ rfl rfl rfl (M.thereP List.mem_cons_self 0 13 (Nat.le_of_ble_eq_true rfl)) (by kernel_rfl) (List.all_eq_true.1 (rfl : ([.int .i64 1, .int .i64 (lN bt), .int .i64 0, .slice none 0 0, .slice pt ((qT (lR bt)).length) ct, .int .u8 0, .int .u8 0, .int .u8 0, .int .u8 0, .int .u8 0, .int .u8 0, .int .u8 0, .int .u8 0] : List Value).all (fun u => u.oneCell') = true))) ?_
    simp only [Act.put]
    replace M := M.setPart [.int .i64 1, .int .i64 (lN bt), .int .i64 0, .slice none 0 0, .slice pt ((qT (lR bt)).length) ct, .int .u8 0, .int .u8 0, .int .u8 0, .int .u8 0, .int .u8 0, .int .u8 0, .int .u8 0, .int .u8 0] 0 (Nat.le_of_ble_eq_true rfl)
    replace OF := OF.and1 ((Off.refl [B1] _).setAll (b := B1) List.mem_cons_self 0 [.int .i64 1, .int .i64 (lN bt), .int .i64 0, .slice none 0 0, .slice pt ((qT (lR bt)).length) ct, .int .u8 0, .int .u8 0, .int .u8 0, .int .u8 0, .int .u8 0, .int .u8 0, .int .u8 0, .int .u8 0]) (.inr (by omega))
    replace OH := OH.and1 ((Off.refl [B1] _).setAll (b := B1) List.mem_cons_self 0 [.int .i64 1, .int .i64 (lN bt), .int .i64 0, .slice none 0 0, .slice pt ((qT (lR bt)).length) ct, .int .u8 0, .int .u8 0, .int .u8 0, .int .u8 0, .int .u8 0, .int .u8 0, .int .u8 0, .int .u8 0]) (.inl (by simp))
    replace A_7 := A_7.off (((Off.refl [B1] _).setAll (b := B1) List.mem_cons_self 0 [.int .i64 1, .int .i64 (lN bt), .int .i64 0, .slice none 0 0, .slice pt ((qT (lR bt)).length) ct, .int .u8 0, .int .u8 0, .int .u8 0, .int .u8 0, .int .u8 0, .int .u8 0, .int .u8 0, .int .u8 0]).mono (fun x hx => by obtain rfl := List.mem_singleton.1 hx; simp))
    replace A_f := A_f.off (((Off.refl [B1] _).setAll (b := B1) List.mem_cons_self 0 [.int .i64 1, .int .i64 (lN bt), .int .i64 0, .slice none 0 0, .slice pt ((qT (lR bt)).length) ct, .int .u8 0, .int .u8 0, .int .u8 0, .int .u8 0, .int .u8 0, .int .u8 0, .int .u8 0, .int .u8 0]).mono (fun x hx => by obtain rfl := List.mem_singleton.1 hx; simp))
    generalize w10.setCells B1 0 [.int .i64 1, .int .i64 (lN bt), .int .i64 0, .slice none 0 0, .slice pt ((qT (lR bt)).length) ct, .int .u8 0, .int .u8 0, .int .u8 0, .int .u8 0, .int .u8 0, .int .u8 0, .int .u8 0, .int .u8 0] = w11 at M OF OH A_7 A_f ⊢
    replace M : Mm w0 ((B1, [.int .i64 1, .int .i64 (lN bt), .int .i64 0, .slice none 0 0, .slice pt ((qT (lR bt)).length) ct, .int .u8 0, .int .u8 0, .int .u8 0, .int .u8 0, .int .u8 0, .int .u8 0, .int .u8 0, .int .u8 0]) :: (B3, [.int .i64 1, .int .i64 (lN bt), .int .i64 0, .slice none 0 0, .slice pt ((qT (lR bt)).length) ct, .int .u8 0, .int .u8 0, .int .u8 0, .int .u8 0, .int .u8 0, .int .u8 0, .int .u8 0, .int .u8 0]) :: (R, [.slice p7 ((qR (lR bt)).length) c7]) :: l) w11 := M
    first | show Exit.then _ _ _ _ _ | show Exit.inBlock _ _ _ _ _
    replace M := M.rot3
    have HS := show Hid _ from (And.intro M (And.intro OF (And.intro A_7 A_f)))
    have c1 := M.part (List.mem_cons_of_mem _ List.mem_cons_self) 0 (fcs ⟨1, lN bt, 0, [], qT (lR bt), z8⟩ none 0 pt ct) rfl
    clear M OF A_7 A_f
    go_wp2
    refine bodyPost_ret (v := .agg (fcs ⟨1, lN bt, 0, [], qT (lR bt), z8⟩ none 0 pt ct).toArray) (retCell 2 26 ⟨B1, 0, none⟩ (fcs ⟨1, lN bt, 0, [], qT (lR bt), z8⟩ none 0 pt ct) rfl rfl (fun _ => by kernel_rfl) (fun _ => by kernel_rfl) c1) rfl ?_
    exact .inl ⟨⟨1, lN bt, 0, [], qT (lR bt), z8⟩, qR (lR bt), _, _, none, 0, pt, ct, by decide, hfp, hok, by omega, hb7, rfl, HS.out.1.drop2.drop2, HS.out.2.1, hc7, hn7, HS.out.2.2.1.less (fun y hy => by rcases List.mem_cons.1 hy with rfl | hy; simp; simp [hy]), HS.out.2.2.2.less (fun y hy => by rcases List.mem_cons.1 hy with rfl | hy; simp; simp [hy])⟩

set_option maxRecDepth 10000 in
set_option maxHeartbeats 32000000 in
theorem fframe2 (X : List Nat) (w0 w : World) (R : Nat) (l : List (Nat × List Value)) (ad : Addr) (c : Nat) (bt : List Int) (hX : ∀ y ∈ X, y < w.heap.size) (hlen : bt.length ≤ 255) (hc : bt.length + 1 ≤ c) (hbt : Byts bt) (M : Mm w0 ((R, [.slice (some ad) (bt.length + 1) c]) :: l) w) (A_0 : SrcA (R :: X) w (some ad) (bt.length + 1) (bl (2 :: bt))) :
    Calls Try.prog 36 #[.pointer (some ⟨R, 0, none⟩)] w fun e w' => FrQ X w0 R l 2 bt w e w' := by
  have hx : 0 ≤ (2 : Int) ∧ (2 : Int) < 256 := ⟨by decide, by decide⟩
  have OF := Off.refl [R] w
  have hRw := M.lt List.mem_cons_self
  go_enter Try.func36, Try.ntmps36
  go_upto_region 0 with fail
  refine wp_region_list ?_
  refine actL (w' := w.alloc (.cells #[.int .i64 0, .int .i64 0, .int .i64 0, .slice none 0 0, .slice none 0 0, .int .u8 0, .int .u8 0, .int .u8 0, .int .u8 0, .int .u8 0, .int .u8 0, .int .u8 0, .int .u8 0] 26)) (.pointer (some ⟨w.heap.size, 0, none⟩)) rfl (by kernel_rfl) ?_
  simp only [aP, lI, l0, lS]
  have hlb := (Below.refl w.heap.size w).alloc (Nat.le_refl _) (.cells #[.int .i64 0, .int .i64 0, .int .i64 0, .slice none 0 0, .slice none 0 0, .int .u8 0, .int .u8 0, .int .u8 0, .int .u8 0, .int .u8 0, .int .u8 0, .int .u8 0, .int .u8 0] 26)
  replace OF := OF.below hlb
  replace A_0 := (A_0.more w.heap.size (Nat.le_refl _)).off (Off.of_below hlb)
  clear hlb
  have hB_B1 : w0.heap.size ≤ w.heap.size := M.below.size
  replace M := M.box #[.int .i64 0, .int .i64 0, .int .i64 0, .slice none 0 0, .slice none 0 0, .int .u8 0, .int .u8 0, .int .u8 0, .int .u8 0, .int .u8 0, .int .u8 0, .int .u8 0, .int .u8 0] 26 w.heap.size rfl
  generalize w.alloc (.cells #[.int .i64 0, .int .i64 0, .int .i64 0, .slice none 0 0, .slice none 0 0, .int .u8 0, .int .u8 0, .int .u8 0, .int .u8 0, .int .u8 0, .int .u8 0, .int .u8 0, .int .u8 0] 26) = w1 at M OF A_0 ⊢
  generalize eB : w.heap.size = B1 at M hB_B1 A_0 ⊢
  have hE_B1 : w.heap.size ≤ B1 := Nat.le_of_eq eB
  have hF_B1 : B1 ≤ w.heap.size := Nat.le_of_eq eB.symm
  clear eB
  replace M : Mm w0 ((B1, [.int .i64 0, .int .i64 0, .int .i64 0, .slice none 0 0, .slice none 0 0, .int .u8 0, .int .u8 0, .int .u8 0, .int .u8 0, .int .u8 0, .int .u8 0, .int .u8 0, .int .u8 0]) :: (R, [.slice (some ad) (bt.length + 1) c]) :: l) w1 := M
  first | show Exit.then _ _ _ _ _ | show Exit.inBlock _ _ _ _ _
  have hB1s := M.lt List.mem_cons_self
  go_upto_region 1 with fail
  refine wp_region_list ?_
  refine readL (.pointer (some ⟨R, 0, none⟩)) rfl (by kernel_rfl) ?_
  simp only [aP, lI, l0, lS]
  replace M := M.swap
  refine callL rfl (fun _ => by kernel_rfl) (fkind_any w0 _ R _ ad c 2 bt hc hx M (A_0.1.at 0 (by omega))) ?_
  rintro e w2 ⟨rfl, cq, M', o1, hcs, hcn⟩
  clear M
  have M := M'
  clear M'
  replace OF := OF.trans o1
  replace A_0 := A_0.off (o1.mono (fun y hy => by obtain rfl := List.mem_singleton.1 hy; simp))
  replace A_0 : SrcA (B1 :: R :: X) w2 cq bt.length (bl bt) := ⟨(hcs _ _ _ A_0).1.congr fun j _ => bl_tail 2 bt j, (hcs _ _ _ A_0).2⟩
  have hz1 := o1.size
  clear o1 hcs
  refine ⟨_, rfl, ?_⟩
  simp only [aP, lI, l0, lS]
  refine readL (.agg #[.int .i64 2, .int .i64 0, .int .i64 0, .slice none 0 0, .slice none 0 0, .int .u8 0, .int .u8 0, .int .u8 0, .int .u8 0, .int .u8 0, .int .u8 0, .int .u8 0, .int .u8 0]) rfl (by kernel_rfl) ?_
  simp only [aP, lI, l0, lS]
  refine actL (w' := w2.alloc (.cells #[.int .i64 0, .int .i64 0, .int .i64 0, .slice none 0 0, .slice none 0 0, .int .u8 0, .int .u8 0, .int .u8 0, .int .u8 0, .int .u8 0, .int .u8 0, .int .u8 0, .int .u8 0] 26)) (.pointer (some ⟨w2.heap.size, 0, none⟩)) rfl (by kernel_rfl) ?_
  simp only [aP, lI, l0, lS]
  have hlb := (Below.refl w2.heap.size w2).alloc (Nat.le_refl _) (.cells #[.int .i64 0, .int .i64 0, .int .i64 0, .slice none 0 0, .slice none 0 0, .int .u8 0, .int .u8 0, .int .u8 0, .int .u8 0, .int .u8 0, .int .u8 0, .int .u8 0, .int .u8 0] 26)
  replace OF := OF.below hlb
  replace A_0 := (A_0.more w2.heap.size (Nat.le_refl _)).off (Off.of_below hlb)
  clear hlb
  have hB_B3 : w0.heap.size ≤ w2.heap.size := M.below.size
  replace M := M.box #[.int .i64 0, .int .i64 0, .int .i64 0, .slice none 0 0, .slice none 0 0, .int .u8 0, .int .u8 0, .int .u8 0, .int .u8 0, .int .u8 0, .int .u8 0, .int .u8 0, .int .u8 0] 26 w2.heap.size rfl
  generalize w2.alloc (.cells #[.int .i64 0, .int .i64 0, .int .i64 0, .slice none 0 0, .slice none 0 0, .int .u8 0, .int .u8 0, .int .u8 0, .int .u8 0, .int .u8 0, .int .u8 0, .int .u8 0, .int .u8 0] 26) = w3 at M OF A_0 ⊢
  generalize eB : w2.heap.size = B3 at M hB_B3 A_0 ⊢
  have hE_B3 : w2.heap.size ≤ B3 := Nat.le_of_eq eB
  have hF_B3 : B3 ≤ w2.heap.size := Nat.le_of_eq eB.symm
  clear eB
  replace M : Mm w0 ((B3, [.int .i64 0, .int .i64 0, .int .i64 0, .slice none 0 0, .slice none 0 0, .int .u8 0, .int .u8 0, .int .u8 0, .int .u8 0, .int .u8 0, .int .u8 0, .int .u8 0, .int .u8 0]) :: (R, [.slice cq bt.length (c - 1)]) :: (B1, [.int .i64 0, .int .i64 0, .int .i64 0, .slice none 0 0, .slice none 0 0, .int .u8 0, .int .u8 0, .int .u8 0, .int .u8 0, .int .u8 0, .int .u8 0, .int .u8 0, .int .u8 0]) :: l) w3 := M
  refine skipOpL rfl (storeP [.int .i64 2, .int .i64 0, .int .i64 0, .slice none 0 0, .slice none 0 0, .int .u8 0, .int .u8 0, .int .u8 0, .int .u8 0, .int .u8 0, .int .u8 0, .int .u8 0, .int .u8 0] B3 0 26 _ _ rfl rfl rfl (M.thereP List.mem_cons_self 0 13 (Nat.le_of_ble_eq_true rfl)) (by kernel_rfl) (List.all_eq_true.1 (rfl : ([.int .i64 2, .int .i64 0, .int .i64 0, .slice none 0 0, .slice none 0 0, .int .u8 0, .int .u8 0, .int .u8 0, .int .u8 0, .int .u8 0, .int .u8 0, .int .u8 0, .int .u8 0] : List Value).all (fun u => u.oneCell') = true))) ?_
  simp only [Act.put]
  replace M := M.setPart [.int .i64 2, .int .i64 0, .int .i64 0, .slice none 0 0, .slice none 0 0, .int .u8 0, .int .u8 0, .int .u8 0, .int .u8 0, .int .u8 0, .int .u8 0, .int .u8 0, .int .u8 0] 0 (Nat.le_of_ble_eq_true rfl)
  replace OF := OF.and1 ((Off.refl [B3] _).setAll (b := B3) List.mem_cons_self 0 [.int .i64 2, .int .i64 0, .int .i64 0, .slice none 0 0, .slice none 0 0, .int .u8 0, .int .u8 0, .int .u8 0, .int .u8 0, .int .u8 0, .int .u8 0, .int .u8 0, .int .u8 0]) (.inr (by omega))
  replace A_0 := A_0.off (((Off.refl [B3] _).setAll (b := B3) List.mem_cons_self 0 [.int .i64 2, .int .i64 0, .int .i64 0, .slice none 0 0, .slice none 0 0, .int .u8 0, .int .u8 0, .int .u8 0, .int .u8 0, .int .u8 0, .int .u8 0, .int .u8 0, .int .u8 0]).mono (fun x hx => by obtain rfl := List.mem_singleton.1 hx; simp))
  generalize w3.setCells B3 0 [.int .i64 2, .int .i64 0, .int .i64 0, .slice none 0 0, .slice none 0 0, .int .u8 0, .int .u8 0, .int .u8 0, .int .u8 0, .int .u8 0, .int .u8 0, .int .u8 0, .int .u8 0] = w4 at M OF A_0 ⊢
  replace M : Mm w0 ((B3, [.int .i64 2, .int .i64 0, .int .i64 0, .slice none 0 0, .slice none 0 0, .int .u8 0, .int .u8 0, .int .u8 0, .int .u8 0, .int .u8 0, .int .u8 0, .int .u8 0, .int .u8 0]) :: (R, [.slice cq bt.length (c - 1)]) :: (B1, [.int .i64 0, .int .i64 0, .int .i64 0, .slice none 0 0, .slice none 0 0, .int .u8 0, .int .u8 0, .int .u8 0, .int .u8 0, .int .u8 0, .int .u8 0, .int .u8 0, .int .u8 0]) :: l) w4 := M
  first | show Exit.then _ _ _ _ _ | show Exit.inBlock _ _ _ _ _
  have hFs := M.lt List.mem_cons_self
  have hlowX : ∀ y ∈ B3 :: B1 :: R :: X, y < w4.heap.size := fun y hy => by
    rcases List.mem_cons.1 hy with rfl | hy
    · exact hFs
    · rcases List.mem_cons.1 hy with rfl | hy
      · omega
      · rcases List.mem_cons.1 hy with rfl | hy
        · omega
        · have h1 := hX y hy; omega
  have OH := Off.refl [R, B3, B1] w4
  go_upto_region 2 with fail
  refine wp_region_list ?_
  refine readL (.pointer (some ⟨B3, 0, none⟩)) rfl (by kernel_rfl) ?_
  simp only [aP, lI, l0, lS]
  refine readL (.int .i64 2) rfl (load1 3 _ ⟨B3, 0, none⟩ _ rfl rfl (fun _ => by kernel_rfl) (M.get List.mem_cons_self 0 _ rfl)) ?_
  simp only [aP, lI, l0, lS]
  first | show Exit.then _ _ _ _ _ | show Exit.inBlock _ _ _ _ _
  go_upto_region 3 with fail
  refine wp_region_list ?_
  refine readL (.bool false) rfl (eqlI .i64 _ _ _ _ _ _ rfl rfl rfl false (by decide) _) ?_
  simp only [aP, lI, l0, lS]
  refine readL (.bool false) rfl (by kernel_rfl) ?_
  simp only [aP, lI, l0, lS]
  first | show Exit.then _ _ _ _ _ | show Exit.inBlock _ _ _ _ _
  go_upto_region 6 with fail
  refine wp_region_list ?_
  refine readL (.bool true) rfl (eqlI .i64 _ _ _ _ _ _ rfl rfl rfl true (by decide) _) ?_
  simp only [aP, lI, l0, lS]
  refine readL (.bool true) rfl (by kernel_rfl) ?_
  simp only [aP, lI, l0, lS]
  first | show Exit.then _ _ _ _ _ | show Exit.inBlock _ _ _ _ _
  go_upto_region 7 with fail
  refine wp_region_list ?_
  refine readL (.pointer (some ⟨R, 0, none⟩)) rfl (by kernel_rfl) ?_
  simp only [aP, lI, l0, lS]
  replace M := M.swap
  have hOH5 := OH.size
  refine callPL rfl (fun _ => by kernel_rfl) (fnumber_any w0 _ R _ _ _ bt (by omega) (by omega) hcn hbt M A_0.1) ?_
  rintro e w5 (⟨h5, rfl, p5, c5, M', o5, O_5⟩ | ⟨h5, rfl, s5, M'⟩)
  rotate_left
  · right
    refine ⟨_, rfl, ?_⟩
    exact ⟨rfl, .inr ⟨_, fun m => dc_err (by decide) (fp_err (by decide) h5), rfl, _, M'.drop2.drop2⟩⟩
  left
  clear M
  have M := M'
  clear M'
  have hl5 := lR_le bt
  have hb5 := lR_byts hbt
  have ho5 := o5.size
  clear A_0
  replace OF := OF.trans o5
  replace OH := OH.trans (o5.mono (fun y hy => by obtain rfl := List.mem_singleton.1 hy; simp))
  clear o5
  have A_5 : SrcA (B3 :: B1 :: R :: X) w5 p5 (lR bt).length (bl (lR bt)) := SrcA.of_own O_5 (fun y hy => by have h1 := hlowX y hy; omega)
  have hc5 := O_5.le
  have hn5 := O_5.nilCap
  clear O_5
  refine ⟨_, rfl, ?_⟩
  simp only [aP, lI, l0, lS]
  refine readL (.pointer (some ⟨B3, 1, none⟩)) rfl (by kernel_rfl) ?_
  simp only [aP, lI, l0, lS]
  replace M := M.swap
  refine skipOpL rfl (storeAny (.int .i64 (lN bt)) B3 1 3 _ _ rfl rfl rfl rfl rfl (M.isSome List.mem_cons_self 1 (by simp)) (M.free List.mem_cons_self 1 (by simp)) (by kernel_rfl)) ?_
  simp only [Act.put]
  replace M := M.set 1 (by simp) (.int .i64 (lN bt))
  replace OF := OF.and1 ((Off.refl [B3] _).set (b := B3) List.mem_cons_self 1 (.int .i64 (lN bt))) (.inr (by omega))
  replace OH := OH.and1 ((Off.refl [B3] _).set (b := B3) List.mem_cons_self 1 (.int .i64 (lN bt))) (.inl (by simp))
  replace A_5 := A_5.off (((Off.refl [B3] _).set (b := B3) List.mem_cons_self 1 (.int .i64 (lN bt))).mono (fun x hx => by obtain rfl := List.mem_singleton.1 hx; simp))
  generalize w5.setCell ⟨B3, 1, none⟩ (.int .i64 (lN bt)) = w6 at M OF OH A_5 ⊢
  replace M : Mm w0 ((B3, [.int .i64 2, .int .i64 (lN bt), .int .i64 0, .slice none 0 0, .slice none 0 0, .int .u8 0, .int .u8 0, .int .u8 0, .int .u8 0, .int .u8 0, .int .u8 0, .int .u8 0, .int .u8 0]) :: (R, [.slice p5 ((lR bt).length) c5]) :: (B1, [.int .i64 0, .int .i64 0, .int .i64 0, .slice none 0 0, .slice none 0 0, .int .u8 0, .int .u8 0, .int .u8 0, .int .u8 0, .int .u8 0, .int .u8 0, .int .u8 0, .int .u8 0]) :: l) w6 := M
  first | show Exit.then _ _ _ _ _ | show Exit.inBlock _ _ _ _ _
  go_upto_region 8 with fail
  refine wp_region_list ?_
  refine readL (.pointer (some ⟨R, 0, none⟩)) rfl (by kernel_rfl) ?_
  simp only [aP, lI, l0, lS]
  replace M := M.swap
  have hOH7 := OH.size
  refine callPL rfl (fun _ => by kernel_rfl) (fnumber_any w0 _ R _ _ _ (lR bt) (by omega) hc5 hn5 hb5 M A_5.1) ?_
  rintro e w7 (⟨h7, rfl, p7, c7, M', o7, O_7⟩ | ⟨h7, rfl, s7, M'⟩)
  rotate_left
  · right
    refine ⟨_, rfl, ?_⟩
    exact ⟨rfl, .inr ⟨_, fun m => dc_err (by decide) (fp_lim (by decide) (by decide) (by decide) h5 h7), rfl, _, M'.drop2.drop2⟩⟩
  left
  clear M
  have M := M'
  clear M'
  have hl7 := lR_le (lR bt)
  have hb7 := lR_byts hb5
  have ho7 := o7.size
  clear A_5
  replace OF := OF.trans o7
  replace OH := OH.trans (o7.mono (fun y hy => by obtain rfl := List.mem_singleton.1 hy; simp))
  clear o7
  have A_7 : SrcA (B3 :: B1 :: R :: X) w7 p7 (lR (lR bt)).length (bl (lR (lR bt))) := SrcA.of_own O_7 (fun y hy => by have h1 := hlowX y hy; omega)
  have hc7 := O_7.le
  have hn7 := O_7.nilCap
  clear O_7
  refine ⟨_, rfl, ?_⟩
  simp only [aP, lI, l0, lS]
  refine readL (.pointer (some ⟨B3, 2, none⟩)) rfl (by kernel_rfl) ?_
  simp only [aP, lI, l0, lS]
  replace M := M.swap
  refine skipOpL rfl (storeAny (.int .i64 (lN (lR bt))) B3 2 3 _ _ rfl rfl rfl rfl rfl (M.isSome List.mem_cons_self 2 (by simp)) (M.free List.mem_cons_self 2 (by simp)) (by kernel_rfl)) ?_
  simp only [Act.put]
  replace M := M.set 2 (by simp) (.int .i64 (lN (lR bt)))
  replace OF := OF.and1 ((Off.refl [B3] _).set (b := B3) List.mem_cons_self 2 (.int .i64 (lN (lR bt)))) (.inr (by omega))
  replace OH := OH.and1 ((Off.refl [B3] _).set (b := B3) List.mem_cons_self 2 (.int .i64 (lN (lR bt)))) (.inl (by simp))
  replace A_7 := A_7.off (((Off.refl [B3] _).set (b := B3) List.mem_cons_self 2 (.int .i64 (lN (lR bt)))).mono (fun x hx => by obtain rfl := List.mem_singleton.1 hx; simp))
  generalize w7.setCell ⟨B3, 2, none⟩ (.int .i64 (lN (lR bt))) = w8 at M OF OH A_7 ⊢
  replace M : Mm w0 ((B3, [.int .i64 2, .int .i64 (lN bt), .int .i64 (lN (lR bt)), .slice none 0 0, .slice none 0 0, .int .u8 0, .int .u8 0, .int .u8 0, .int .u8 0, .int .u8 0, .int .u8 0, .int .u8 0, .int .u8 0]) :: (R, [.slice p7 ((lR (lR bt)).length) c7]) :: (B1, [.int .i64 0, .int .i64 0, .int .i64 0, .slice none 0 0, .slice none 0 0, .int .u8 0, .int .u8 0, .int .u8 0, .int .u8 0, .int .u8 0, .int .u8 0, .int .u8 0, .int .u8 0]) :: l) w8 := M
  first | show Exit.then _ _ _ _ _ | show Exit.inBlock _ _ _ _ _
  go_upto_region 9 with fail
  refine wp_region_list ?_
  refine readL (.pointer (some ⟨R, 0, none⟩)) rfl (by kernel_rfl) ?_
  simp only [aP, lI, l0, lS]
  refine readL (.pointer (some ⟨B3, 1, none⟩)) rfl (by kernel_rfl) ?_
  simp only [aP, lI, l0, lS]
  refine readL (.int .i64 (lN bt)) rfl (load1 3 _ ⟨B3, 1, none⟩ _ rfl rfl (fun _ => by kernel_rfl) (M.get List.mem_cons_self 1 _ rfl)) ?_
  simp only [aP, lI, l0, lS]
  replace M := M.swap
  have hOH9 := OH.size
  have hpa := lN_pos hbt h5
  have hfr := fp_rgs (k := 2) (by decide) (by decide) (by decide) h5 h7
  rw [if_pos rfl] at hfr
  refine callPL rfl (fun _ => by kernel_rfl) (franges_any w0 _ R _ _ _ (lR (lR bt)) (by omega) hc7 hn7 hb7 (lN bt) (by omega) (by omega) M A_7.1) ?_
  rintro e w9 (⟨rs, r, vp, vc, hrg, h8, hlr, hbr, rfl, V, p9, c9, M', o9, O_9⟩ | ⟨code, hrg, rfl, s9, M'⟩)
  rotate_left
  · right
    refine ⟨_, rfl, ?_⟩
    exact ⟨rfl, .inr ⟨_, fun m => dc_err (by decide) (by rw [hfr, hrg]), rfl, _, M'.drop2.drop2⟩⟩
  left
  clear M
  have M := M'
  clear M'
  have ho9 := o9.size
  clear A_7
  replace OF := OF.trans o9
  replace OH := OH.trans (o9.mono (fun y hy => by obtain rfl := List.mem_singleton.1 hy; simp))
  clear o9
  have A_9 : SrcA (B3 :: B1 :: R :: X) w9 p9 (r).length (bl r) := SrcA.of_own O_9 (fun y hy => by have h1 := hlowX y hy; omega)
  have hc9 := O_9.le
  have hn9 := O_9.nilCap
  clear O_9
  have hV2 := own_nil_le V
  have hfp : fp 2 bt = .ok (⟨2, lN bt, lN (lR bt), rs, [], z8⟩, r) := by rw [hfr, hrg]
  have A_f : FA (B3 :: B1 :: R :: X) w9 ⟨2, lN bt, lN (lR bt), rs, [], z8⟩ vp vc none 0 := ⟨⟨Rg.of_own V, hV2.1, hV2.2.1, show rs.length ≤ 140737488351232 by omega, fun j hj => absurd hj (Nat.not_lt_zero j), Nat.le_refl _, fun _ => rfl, Nat.zero_le _, ⟨fun x hx => (by cases hx), z8_w, rfl⟩, show i64 2 by unfold i64; decide, i64_lN hbt h5, i64_lN (lR_byts hbt) h7⟩, fun ad e _ hm => by have h5 := hV2.2.2 ad e; have h6 := hlowX _ hm; omega, fun _ e => (by cases e)⟩
  clear V hV2 hfr hrg
  refine ⟨_, rfl, ?_⟩
  simp only [aP, lI, l0, lS]
  refine readL (.pointer (some ⟨B3, 3, none⟩)) rfl (by kernel_rfl) ?_
  simp only [aP, lI, l0, lS]
  replace M := M.swap
  refine skipOpL rfl (storeAny (.slice vp rs.length vc) B3 3 22 _ _ rfl rfl rfl rfl rfl (M.isSome List.mem_cons_self 3 (by simp)) (M.free List.mem_cons_self 3 (by simp)) (by kernel_rfl)) ?_
  simp only [Act.put]
  replace M := M.set 3 (by simp) (.slice vp rs.length vc)
  replace OF := OF.and1 ((Off.refl [B3] _).set (b := B3) List.mem_cons_self 3 (.slice vp rs.length vc)) (.inr (by omega))
  replace OH := OH.and1 ((Off.refl [B3] _).set (b := B3) List.mem_cons_self 3 (.slice vp rs.length vc)) (.inl (by simp))
  replace A_9 := A_9.off (((Off.refl [B3] _).set (b := B3) List.mem_cons_self 3 (.slice vp rs.length vc)).mono (fun x hx => by obtain rfl := List.mem_singleton.1 hx; simp))
  replace A_f := A_f.off (((Off.refl [B3] _).set (b := B3) List.mem_cons_self 3 (.slice vp rs.length vc)).mono (fun x hx => by obtain rfl := List.mem_singleton.1 hx; simp))
  generalize w9.setCell ⟨B3, 3, none⟩ (.slice vp rs.length vc) = w10 at M OF OH A_9 A_f ⊢
  replace M : Mm w0 ((B3, [.int .i64 2, .int .i64 (lN bt), .int .i64 (lN (lR bt)), .slice vp rs.length vc, .slice none 0 0, .int .u8 0, .int .u8 0, .int .u8 0, .int .u8 0, .int .u8 0, .int .u8 0, .int .u8 0, .int .u8 0]) :: (R, [.slice p9 ((r).length) c9]) :: (B1, [.int .i64 0, .int .i64 0, .int .i64 0, .slice none 0 0, .slice none 0 0, .int .u8 0, .int .u8 0, .int .u8 0, .int .u8 0, .int .u8 0, .int .u8 0, .int .u8 0, .int .u8 0]) :: l) w10 := M
  first | show Exit.then _ _ _ _ _ | show Exit.inBlock _ _ _ _ _
  go_upto_region 20 with fail
  refine wp_region_list ?_
  refine readL (.agg #[.int .i64 2, .int .i64 (lN bt), .int .i64 (lN (lR bt)), .slice vp rs.length vc, .slice none 0 0, .int .u8 0, .int .u8 0, .int .u8 0, .int .u8 0, .int .u8 0, .int .u8 0, .int .u8 0, .int .u8 0]) rfl (loadN 26 _ ⟨B3, 0, none⟩ [.int .i64 2, .int .i64 (lN bt), .int .i64 (lN (lR bt)), .slice vp rs.length vc, .slice none 0 0, .int .u8 0, .int .u8 0, .int .u8 0, .int .u8 0, .int .u8 0, .int .u8 0, .int .u8 0, .int .u8 0] rfl rfl (fun _ => by kernel_rfl) (fun _ => by kernel_rfl) (M.rangeAt List.mem_cons_self)) ?_
  simp only [aP, lI, l0, lS]
  have hC : Calls Try.prog 10 #[.agg #[.int .i64 2, .int .i64 (lN bt), .int .i64 (lN (lR bt)), .slice vp rs.length vc, .slice none 0 0, .int .u8 0, .int .u8 0, .int .u8 0, .int .u8 0, .int .u8 0, .int .u8 0, .int .u8 0, .int .u8 0]] w10 (fun e w' => e = .returned (.int .i64 (fchk ⟨2, lN bt, lN (lR bt), rs, [], z8⟩)) ∧ Below w10.heap.size w10 w') := vcheck_any ⟨2, lN bt, lN (lR bt), rs, [], z8⟩ vp vc none 0 _ A_f.fv
  refine callL rfl (fun _ => by kernel_rfl) (hC) ?_
  rintro e w11 ⟨rfl, l⟩
  replace M := M.call l
  refine ⟨_, rfl, ?_⟩
  replace OF := OF.below l
  replace OH := OH.below l
  replace A_9 := A_9.off (Off.of_below l)
  replace A_f := A_f.off (Off.of_below l)
  clear l hC
  simp only [aP, lI, l0, lS]
  cases hok : fok ⟨2, lN bt, lN (lR bt), rs, [], z8⟩ with
  | false =>
    have e1 := fchk_bad hok
    refine callPL rfl (fun _ => by kernel_rfl) (stop_bad (fchk ⟨2, lN bt, lN (lR bt), rs, [], z8⟩) (by rw [e1]; decide) _) ?_
    rintro e w12 ⟨rfl, hw⟩
    subst hw
    right
    refine ⟨_, rfl, ?_⟩
    rw [e1]
    replace M := M.swap
    exact ⟨rfl, .inr ⟨100, fun m => dc_bad (by decide) hfp hok, rfl, _, M.drop2.drop2⟩⟩
  | true =>
    have e1 := fchk_ok hok
    rw [e1]
    clear e1
    refine callL rfl (fun _ => by kernel_rfl) (stop_ok _) ?_
    rintro e w12 ⟨rfl, hw⟩
    subst hw
    refine ⟨_, rfl, ?_⟩
    simp only [aP, lI, l0, lS]
    first | show Exit.then _ _ _ _ _ | show Exit.inBlock _ _ _ _ _
    go_upto_region 21 with fail
    refine wp_region_list ?_
    refine readL (.agg #[.int .i64 2, .int .i64 (lN bt), .int .i64 (lN (lR bt)), .slice vp rs.length vc, .slice none 0 0, .int .u8 0, .int .u8 0, .int .u8 0, .int .u8 0, .int .u8 0, .int .u8 0, .int .u8 0, .int .u8 0]) rfl (loadN 26 _ ⟨B3, 0, none⟩ [.int .i64 2, .int .i64 (lN bt), .int .i64 (lN (lR bt)), .slice vp rs.length vc, .slice none 0 0, .int .u8 0, .int .u8 0, .int .u8 0, .int .u8 0, .int .u8 0, .int .u8 0, .int .u8 0, .int .u8 0] rfl rfl (fun _ => by kernel_rfl) (fun _ => by kernel_rfl) (M.rangeAt List.mem_cons_self)) ?_
    simp only [aP, lI, l0, lS]
    replace M := M.rot3
    refine skipOpL rfl (storeP [.int .i64 2, .int .i64 (lN bt), .int .i64 (lN (lR bt)), .slice vp rs.length vc, .slice none 0 0, .int .u8 0, .int .u8 0, .int .u8 0, .int .u8 0, .int .u8 0, .int .u8 0, .int .u8 0, .int .u8 0] B1 0 26 _ _ rfl rfl rfl (M.thereP List.mem_cons_self 0 13 (Nat.le_of_ble_eq_true rfl)) (by kernel_rfl) (List.all_eq_true.1 (rfl : ([.int .i64 2, .int .i64 (lN bt), .int .i64 (lN (lR bt)), .slice vp rs.length vc, .slice none 0 0, .int .u8 0, .int .u8 0, .int .u8 0, .int .u8 0, .int .u8 0, .int .u8 0, .int .u8 0, .int .u8 0] : List Value).all (fun u => u.oneCell') = true))) ?_
    simp only [Act.put]
    replace M := M.setPart [.int .i64 2, .int .i64 (lN bt), .int .i64 (lN (lR bt)), .slice vp rs.length vc, .slice none 0 0, .int .u8 0, .int .u8 0, .int .u8 0, .int .u8 0, .int .u8 0, .int .u8 0, .int .u8 0, .int .u8 0] 0 (Nat.le_of_ble_eq_true rfl)
    replace OF := OF.and1 ((Off.refl [B1] _).setAll (b := B1) List.mem_cons_self 0 [.int .i64 2, .int .i64 (lN bt), .int .i64 (lN (lR bt)), .slice vp rs.length vc, .slice none 0 0, .int .u8 0, .int .u8 0, .int .u8 0, .int .u8 0, .int .u8 0, .int .u8 0, .int .u8 0, .int .u8 0]) (.inr (by omega))
    replace OH := OH.and1 ((Off.refl [B1] _).setAll (b := B1) List.mem_cons_self 0 [.int .i64 2, .int .i64 (lN bt), .int .i64 (lN (lR bt)), .slice vp rs.length vc, .slice none 0 0, .int .u8 0, .int .u8 0, .int .u8 0, .int .u8 0, .int .u8 0, .int .u8 0, .int .u8 0, .int .u8 0]) (.inl (by simp))
    replace A_9 := A_9.off (((Off.refl [B1] _).setAll (b := B1) List.mem_cons_self 0 [.int .i64 2, .int .i64 (lN bt), .int .i64 (lN (lR bt)), .slice vp rs.length vc, .slice none 0 0, .int .u8 0, .int .u8 0, .int .u8 0, .int .u8 0, .int .u8 0, .int .u8 0, .int .u8 0, .int .u8 0]).mono (fun x hx => by obtain rfl := List.mem_singleton.1 hx; simp))
    replace A_f := A_f.off (((Off.refl [B1] _).setAll (b := B1) List.mem_cons_self 0 [.int .i64 2, .int .i64 (lN bt), .int .i64 (lN (lR bt)), .slice vp rs.length vc, .slice none 0 0, .int .u8 0, .int .u8 0, .int .u8 0, .int .u8 0, .int .u8 0, .int .u8 0, .int .u8 0, .int .u8 0]).mono (fun x hx => by obtain rfl := List.mem_singleton.1 hx; simp))
    generalize w12.setCells B1 0 [.int .i64 2, .int .i64 (lN bt), .int .i64 (lN (lR bt)), .slice vp rs.length vc, .slice none 0 0, .int .u8 0, .int .u8 0, .int .u8 0, .int .u8 0, .int .u8 0, .int .u8 0, .int .u8 0, .int .u8 0] = w13 at M OF OH A_9 A_f ⊢
    replace M : Mm w0 ((B1, [.int .i64 2, .int .i64 (lN bt), .int .i64 (lN (lR bt)), .slice vp rs.length vc, .slice none 0 0, .int .u8 0, .int .u8 0, .int .u8 0, .int .u8 0, .int .u8 0, .int .u8 0, .int .u8 0, .int .u8 0]) :: (B3, [.int .i64 2, .int .i64 (lN bt), .int .i64 (lN (lR bt)), .slice vp rs.length vc, .slice none 0 0, .int .u8 0, .int .u8 0, .int .u8 0, .int .u8 0, .int .u8 0, .int .u8 0, .int .u8 0, .int .u8 0]) :: (R, [.slice p9 ((r).length) c9]) :: l) w13 := M
    first | show Exit.then _ _ _ _ _ | show Exit.inBlock _ _ _ _ _
    replace M := M.rot3
    have HS := show Hid _ from (And.intro M (And.intro OF (And.intro A_9 A_f)))
    have c1 := M.part (List.mem_cons_of_mem _ List.mem_cons_self) 0 (fcs ⟨2, lN bt, lN (lR bt), rs, [], z8⟩ vp vc none 0) rfl
    clear M OF A_9 A_f
    go_wp2
    refine bodyPost_ret (v := .agg (fcs ⟨2, lN bt, lN (lR bt), rs, [], z8⟩ vp vc none 0).toArray) (retCell 2 26 ⟨B1, 0, none⟩ (fcs ⟨2, lN bt, lN (lR bt), rs, [], z8⟩ vp vc none 0) rfl rfl (fun _ => by kernel_rfl) (fun _ => by kernel_rfl) c1) rfl ?_
    exact .inl ⟨⟨2, lN bt, lN (lR bt), rs, [], z8⟩, r, _, _, vp, vc, none, 0, by decide, hfp, hok, by omega, hbr, rfl, HS.out.1.drop2.drop2, HS.out.2.1, hc9, hn9, HS.out.2.2.1.less (fun y hy => by rcases List.mem_cons.1 hy with rfl | hy; simp; simp [hy]), HS.out.2.2.2.less (fun y hy => by rcases List.mem_cons.1 hy with rfl | hy; simp; simp [hy])⟩

set_option maxRecDepth 10000 in
set_option maxHeartbeats 32000000 in
theorem fframe3 (X : List Nat) (w0 w : World) (R : Nat) (l : List (Nat × List Value)) (ad : Addr) (c : Nat) (bt : List Int) (hX : ∀ y ∈ X, y < w.heap.size) (hlen : bt.length ≤ 255) (hc : bt.length + 1 ≤ c) (hbt : Byts bt) (M : Mm w0 ((R, [.slice (some ad) (bt.length + 1) c]) :: l) w) (A_0 : SrcA (R :: X) w (some ad) (bt.length + 1) (bl (3 :: bt))) :
    Calls Try.prog 36 #[.pointer (some ⟨R, 0, none⟩)] w fun e w' => FrQ X w0 R l 3 bt w e w' := by
  have hx : 0 ≤ (3 : Int) ∧ (3 : Int) < 256 := ⟨by decide, by decide⟩
  have OF := Off.refl [R] w
  have hRw := M.lt List.mem_cons_self
  go_enter Try.func36, Try.ntmps36
  go_upto_region 0 with fail
  refine wp_region_list ?_
  refine actL (w' := w.alloc (.cells #[.int .i64 0, .int .i64 0, .int .i64 0, .slice none 0 0, .slice none 0 0, .int .u8 0, .int .u8 0, .int .u8 0, .int .u8 0, .int .u8 0, .int .u8 0, .int .u8 0, .int .u8 0] 26)) (.pointer (some ⟨w.heap.size, 0, none⟩)) rfl (by kernel_rfl) ?_
  simp only [aP, lI, l0, lS]
  have hlb := (Below.refl w.heap.size w).alloc (Nat.le_refl _) (.cells #[.int .i64 0, .int .i64 0, .int .i64 0, .slice none 0 0, .slice none 0 0, .int .u8 0, .int .u8 0, .int .u8 0, .int .u8 0, .int .u8 0, .int .u8 0, .int .u8 0, .int .u8 0] 26)
  replace OF := OF.below hlb
  replace A_0 := (A_0.more w.heap.size (Nat.le_refl _)).off (Off.of_below hlb)
  clear hlb
  have hB_B1 : w0.heap.size ≤ w.heap.size := M.below.size
  replace M := M.box #[.int .i64 0, .int .i64 0, .int .i64 0, .slice none 0 0, .slice none 0 0, .int .u8 0, .int .u8 0, .int .u8 0, .int .u8 0, .int .u8 0, .int .u8 0, .int .u8 0, .int .u8 0] 26 w.heap.size rfl
  generalize w.alloc (.cells #[.int .i64 0, .int .i64 0, .int .i64 0, .slice none 0 0, .slice none 0 0, .int .u8 0, .int .u8 0, .int .u8 0, .int .u8 0, .int .u8 0, .int .u8 0, .int .u8 0, .int .u8 0] 26) = w1 at M OF A_0 ⊢
  generalize eB : w.heap.size = B1 at M hB_B1 A_0 ⊢
  have hE_B1 : w.heap.size ≤ B1 := Nat.le_of_eq eB
  have hF_B1 : B1 ≤ w.heap.size := Nat.le_of_eq eB.symm
  clear eB
  replace M : Mm w0 ((B1, [.int .i64 0, .int .i64 0, .int .i64 0, .slice none 0 0, .slice none 0 0, .int .u8 0, .int .u8 0, .int .u8 0, .int .u8 0, .int .u8 0, .int .u8 0, .int .u8 0, .int .u8 0]) :: (R, [.slice (some ad) (bt.length + 1) c]) :: l) w1 := M
  first | show Exit.then _ _ _ _ _ | show Exit.inBlock _ _ _ _ _
  have hB1s := M.lt List.mem_cons_self
  go_upto_region 1 with fail
  refine wp_region_list ?_
  refine readL (.pointer (some ⟨R, 0, none⟩)) rfl (by kernel_rfl) ?_
  simp only [aP, lI, l0, lS]
  replace M := M.swap
  refine callL rfl (fun _ => by kernel_rfl) (fkind_any w0 _ R _ ad c 3 bt hc hx M (A_0.1.at 0 (by omega))) ?_
  rintro e w2 ⟨rfl, cq, M', o1, hcs, hcn⟩
  clear M
  have M := M'
  clear M'
  replace OF := OF.trans o1
  replace A_0 := A_0.off (o1.mono (fun y hy => by obtain rfl := List.mem_singleton.1 hy; simp))
  replace A_0 : SrcA (B1 :: R :: X) w2 cq bt.length (bl bt) := ⟨(hcs _ _ _ A_0).1.congr fun j _ => bl_tail 3 bt j, (hcs _ _ _ A_0).2⟩
  have hz1 := o1.size
  clear o1 hcs
  refine ⟨_, rfl, ?_⟩
  simp only [aP, lI, l0, lS]
  refine readL (.agg #[.int .i64 3, .int .i64 0, .int .i64 0, .slice none 0 0, .slice none 0 0, .int .u8 0, .int .u8 0, .int .u8 0, .int .u8 0, .int .u8 0, .int .u8 0, .int .u8 0, .int .u8 0]) rfl (by kernel_rfl) ?_
  simp only [aP, lI, l0, lS]
  refine actL (w' := w2.alloc (.cells #[.int .i64 0, .int .i64 0, .int .i64 0, .slice none 0 0, .slice none 0 0, .int .u8 0, .int .u8 0, .int .u8 0, .int .u8 0, .int .u8 0, .int .u8 0, .int .u8 0, .int .u8 0] 26)) (.pointer (some ⟨w2.heap.size, 0, none⟩)) rfl (by kernel_rfl) ?_
  simp only [aP, lI, l0, lS]
  have hlb := (Below.refl w2.heap.size w2).alloc (Nat.le_refl _) (.cells #[.int .i64 0, .int .i64 0, .int .i64 0, .slice none 0 0, .slice none 0 0, .int .u8 0, .int .u8 0, .int .u8 0, .int .u8 0, .int .u8 0, .int .u8 0, .int .u8 0, .int .u8 0] 26)
  replace OF := OF.below hlb
  replace A_0 := (A_0.more w2.heap.size (Nat.le_refl _)).off (Off.of_below hlb)
  clear hlb
  have hB_B3 : w0.heap.size ≤ w2.heap.size := M.below.size
  replace M := M.box #[.int .i64 0, .int .i64 0, .int .i64 0, .slice none 0 0, .slice none 0 0, .int .u8 0, .int .u8 0, .int .u8 0, .int .u8 0, .int .u8 0, .int .u8 0, .int .u8 0, .int .u8 0] 26 w2.heap.size rfl
  generalize w2.alloc (.cells #[.int .i64 0, .int .i64 0, .int .i64 0, .slice none 0 0, .slice none 0 0, .int .u8 0, .int .u8 0, .int .u8 0, .int .u8 0, .int .u8 0, .int .u8 0, .int .u8 0, .int .u8 0] 26) = w3 at M OF A_0 ⊢
  generalize eB : w2.heap.size = B3 at M hB_B3 A_0 ⊢
  have hE_B3 : w2.heap.size ≤ B3 := Nat.le_of_eq eB
  have hF_B3 : B3 ≤ w2.heap.size := Nat.le_of_eq eB.symm
  clear eB
  replace M : Mm w0 ((B3, [.int .i64 0, .int .i64 0, .int .i64 0, .slice none 0 0, .slice none 0 0, .int .u8 0, .int .u8 0, .int .u8 0, .int .u8 0, .int .u8 0, .int .u8 0, .int .u8 0, .int .u8 0]) :: (R, [.slice cq bt.length (c - 1)]) :: (B1, [.int .i64 0, .int .i64 0, .int .i64 0, .slice none 0 0, .slice none 0 0, .int .u8 0, .int .u8 0, .int .u8 0, .int .u8 0, .int .u8 0, .int .u8 0, .int .u8 0, .int .u8 0]) :: l) w3 := M
  refine skipOpL rfl (storeP [.int .i64 3, .int .i64 0, .int .i64 0, .slice none 0 0, .slice none 0 0, .int .u8 0, .int .u8 0, .int .u8 0, .int .u8 0, .int .u8 0, .int .u8 0, .int .u8 0, .int .u8 0] B3 0 26 _ _ rfl rfl rfl (M.thereP List.mem_cons_self 0 13 (Nat.le_of_ble_eq_true rfl)) (by kernel_rfl) (List.all_eq_true.1 (rfl : ([.int .i64 3, .int .i64 0, .int .i64 0, .slice none 0 0, .slice none 0 0, .int .u8 0, .int .u8 0, .int .u8 0, .int .u8 0, .int .u8 0, .int .u8 0, .int .u8 0, .int .u8 0] : List Value).all (fun u => u.oneCell') = true))) ?_
  simp only [Act.put]
  replace M := M.setPart [.int .i64 3, .int .i64 0, .int .i64 0, .slice none 0 0, .slice none 0 0, .int .u8 0, .int .u8 0, .int .u8 0, .int .u8 0, .int .u8 0, .int .u8 0, .int .u8 0, .int .u8 0] 0 (Nat.le_of_ble_eq_true rfl)
  replace OF := OF.and1 ((Off.refl [B3] _).setAll (b := B3) List.mem_cons_self 0 [.int .i64 3, .int .i64 0, .int .i64 0, .slice none 0 0, .slice none 0 0, .int .u8 0, .int .u8 0, .int .u8 0, .int .u8 0, .int .u8 0, .int .u8 0, .int .u8 0, .int .u8 0]) (.inr (by omega))
  replace A_0 := A_0.off (((Off.refl [B3] _).setAll (b := B3) List.mem_cons_self 0 [.int .i64 3, .int .i64 0, .int .i64 0, .slice none 0 0, .slice none 0 0, .int .u8 0, .int .u8 0, .int .u8 0, .int .u8 0, .int .u8 0, .int .u8 0, .int .u8 0, .int .u8 0]).mono (fun x hx => by obtain rfl := List.mem_singleton.1 hx; simp))
  generalize w3.setCells B3 0 [.int .i64 3, .int .i64 0, .int .i64 0, .slice none 0 0, .slice none 0 0, .int .u8 0, .int .u8 0, .int .u8 0, .int .u8 0, .int .u8 0, .int .u8 0, .int .u8 0, .int .u8 0] = w4 at M OF A_0 ⊢
  replace M : Mm w0 ((B3, [.int .i64 3, .int .i64 0, .int .i64 0, .slice none 0 0, .slice none 0 0, .int .u8 0, .int .u8 0, .int .u8 0, .int .u8 0, .int .u8 0, .int .u8 0, .int .u8 0, .int .u8 0]) :: (R, [.slice cq bt.length (c - 1)]) :: (B1, [.int .i64 0, .int .i64 0, .int .i64 0, .slice none 0 0, .slice none 0 0, .int .u8 0, .int .u8 0, .int .u8 0, .int .u8 0, .int .u8 0, .int .u8 0, .int .u8 0, .int .u8 0]) :: l) w4 := M
  first | show Exit.then _ _ _ _ _ | show Exit.inBlock _ _ _ _ _
  have hFs := M.lt List.mem_cons_self
  have hlowX : ∀ y ∈ B3 :: B1 :: R :: X, y < w4.heap.size := fun y hy => by
    rcases List.mem_cons.1 hy with rfl | hy
    · exact hFs
    · rcases List.mem_cons.1 hy with rfl | hy
      · omega
      · rcases List.mem_cons.1 hy with rfl | hy
        · omega
        · have h1 := hX y hy; omega
  have OH := Off.refl [R, B3, B1] w4
  go_upto_region 2 with fail
  refine wp_region_list ?_
  refine readL (.pointer (some ⟨B3, 0, none⟩)) rfl (by kernel_rfl) ?_
  simp only [aP, lI, l0, lS]
  refine readL (.int .i64 3) rfl (load1 3 _ ⟨B3, 0, none⟩ _ rfl rfl (fun _ => by kernel_rfl) (M.get List.mem_cons_self 0 _ rfl)) ?_
  simp only [aP, lI, l0, lS]
  first | show Exit.then _ _ _ _ _ | show Exit.inBlock _ _ _ _ _
  go_upto_region 3 with fail
  refine wp_region_list ?_
  refine readL (.bool false) rfl (eqlI .i64 _ _ _ _ _ _ rfl rfl rfl false (by decide) _) ?_
  simp only [aP, lI, l0, lS]
  refine readL (.bool false) rfl (by kernel_rfl) ?_
  simp only [aP, lI, l0, lS]
  first | show Exit.then _ _ _ _ _ | show Exit.inBlock _ _ _ _ _
  go_upto_region 6 with fail
  refine wp_region_list ?_
  refine readL (.bool false) rfl (eqlI .i64 _ _ _ _ _ _ rfl rfl rfl false (by decide) _) ?_
  simp only [aP, lI, l0, lS]
  refine readL (.bool false) rfl (by kernel_rfl) ?_
  simp only [aP, lI, l0, lS]
  first | show Exit.then _ _ _ _ _ | show Exit.inBlock _ _ _ _ _
  go_upto_region 10 with fail
  refine wp_region_list ?_
  refine readL (.bool true) rfl (eqlI .i64 _ _ _ _ _ _ rfl rfl rfl true (by decide) _) ?_
  simp only [aP, lI, l0, lS]
  refine readL (.bool true) rfl (by kernel_rfl) ?_
  simp only [aP, lI, l0, lS]
  first | show Exit.then _ _ _ _ _ | show Exit.inBlock _ _ _ _ _
  go_upto_region 12 with fail
  refine wp_region_list ?_
  refine readL (.pointer (some ⟨R, 0, none⟩)) rfl (by kernel_rfl) ?_
  simp only [aP, lI, l0, lS]
  replace M := M.swap
  have hOH5 := OH.size
  refine callPL rfl (fun _ => by kernel_rfl) (ftoken_any w0 _ R _ _ _ bt (by omega) (by omega) hcn M A_0.1) ?_
  rintro e w5 (⟨h5, rfl, p5, M', o5, hcs, hn5⟩ | ⟨h5, rfl, s5, M'⟩)
  rotate_left
  · right
    refine ⟨_, rfl, ?_⟩
    exact ⟨rfl, .inr ⟨_, fun m => dc_err (by decide) (by unfold fp; rw [if_pos (by decide), if_pos h5]), rfl, _, M'.drop2.drop2⟩⟩
  left
  clear M
  have M := M'
  clear M'
  have e8 : (bt.drop 8).length = bt.length - 8 := List.length_drop
  have ho5 := o5.size
  obtain ⟨t, ht⟩ : ∃ t, t = bt.take 8 := ⟨_, rfl⟩
  have e9 : tk8 bt = tk8 t := by subst ht; unfold tk8; rw [bl_take bt 8 0 (by decide), bl_take bt 8 1 (by decide), bl_take bt 8 2 (by decide), bl_take bt 8 3 (by decide), bl_take bt 8 4 (by decide), bl_take bt 8 5 (by decide), bl_take bt 8 6 (by decide), bl_take bt 8 7 (by decide)]
  replace OF := OF.trans o5
  replace OH := OH.trans (o5.mono (fun y hy => by obtain rfl := List.mem_singleton.1 hy; simp))
  replace A_0 := A_0.off (o5.mono (fun y hy => by obtain rfl := List.mem_singleton.1 hy; simp))
  clear o5
  replace A_0 : SrcA (B3 :: B1 :: R :: X) w5 p5 (bt.drop 8).length (bl (bt.drop 8)) := by rw [e8]; exact ⟨(hcs _ _ _ A_0).1.congr fun j _ => (bl_drop bt 8 j).symm, (hcs _ _ _ A_0).2⟩
  rw [← e8] at M
  have hc5 : (bt.drop 8).length ≤ c - 1 - 8 := by rw [e8]; omega
  clear hcs
  have hfp : fp 3 bt = .ok (⟨3, 0, 0, [], [], t⟩, bt.drop 8) := by subst ht; unfold fp; rw [if_pos (by decide), if_neg (by omega)]
  have A_f : FA (B3 :: B1 :: R :: X) w5 ⟨3, 0, 0, [], [], t⟩ none 0 none 0 := fa_nil _ _ _ _ _ (by unfold i64; decide) (by unfold i64; decide) (by subst ht; exact hbt.take 8) (by subst ht; rw [List.length_take]; omega)
  refine ⟨_, rfl, ?_⟩
  rw [e9]
  clear e9
  unfold tk8
  simp only [aP, lI, l0, lS]
  refine readL (.pointer (some ⟨B3, 5, none⟩)) rfl (by kernel_rfl) ?_
  simp only [aP, lI, l0, lS]
  replace M := M.swap
  refine skipOpL rfl (storeP [.int .u8 (bl t 0), .int .u8 (bl t 1), .int .u8 (bl t 2), .int .u8 (bl t 3), .int .u8 (bl t 4), .int .u8 (bl t 5), .int .u8 (bl t 6), .int .u8 (bl t 7)] B3 5 24 _ _ rfl rfl rfl (M.thereP List.mem_cons_self 5 8 (Nat.le_of_ble_eq_true rfl)) (by kernel_rfl) (List.all_eq_true.1 (rfl : ([.int .u8 (bl t 0), .int .u8 (bl t 1), .int .u8 (bl t 2), .int .u8 (bl t 3), .int .u8 (bl t 4), .int .u8 (bl t 5), .int .u8 (bl t 6), .int .u8 (bl t 7)] : List Value).all (fun u => u.oneCell') = true))) ?_
  simp only [Act.put]
  replace M := M.setPart [.int .u8 (bl t 0), .int .u8 (bl t 1), .int .u8 (bl t 2), .int .u8 (bl t 3), .int .u8 (bl t 4), .int .u8 (bl t 5), .int .u8 (bl t 6), .int .u8 (bl t 7)] 5 (Nat.le_of_ble_eq_true rfl)
  replace OF := OF.and1 ((Off.refl [B3] _).setAll (b := B3) List.mem_cons_self 5 [.int .u8 (bl t 0), .int .u8 (bl t 1), .int .u8 (bl t 2), .int .u8 (bl t 3), .int .u8 (bl t 4), .int .u8 (bl t 5), .int .u8 (bl t 6), .int .u8 (bl t 7)]) (.inr (by omega))
  replace A_0 := A_0.off (((Off.refl [B3] _).setAll (b := B3) List.mem_cons_self 5 [.int .u8 (bl t 0), .int .u8 (bl t 1), .int .u8 (bl t 2), .int .u8 (bl t 3), .int .u8 (bl t 4), .int .u8 (bl t 5), .int .u8 (bl t 6), .int .u8 (bl t 7)]).mono (fun x hx => by obtain rfl := List.mem_singleton.1 hx; simp))
  replace OH := OH.and1 ((Off.refl [B3] _).setAll (b := B3) List.mem_cons_self 5 [.int .u8 (bl t 0), .int .u8 (bl t 1), .int .u8 (bl t 2), .int .u8 (bl t 3), .int .u8 (bl t 4), .int .u8 (bl t 5), .int .u8 (bl t 6), .int .u8 (bl t 7)]) (.inl (by simp))
  replace A_f := A_f.off (((Off.refl [B3] _).setAll (b := B3) List.mem_cons_self 5 [.int .u8 (bl t 0), .int .u8 (bl t 1), .int .u8 (bl t 2), .int .u8 (bl t 3), .int .u8 (bl t 4), .int .u8 (bl t 5), .int .u8 (bl t 6), .int .u8 (bl t 7)]).mono (fun x hx => by obtain rfl := List.mem_singleton.1 hx; simp))
  generalize w5.setCells B3 5 [.int .u8 (bl t 0), .int .u8 (bl t 1), .int .u8 (bl t 2), .int .u8 (bl t 3), .int .u8 (bl t 4), .int .u8 (bl t 5), .int .u8 (bl t 6), .int .u8 (bl t 7)] = w6 at M OF A_0 OH A_f ⊢
  replace M : Mm w0 ((B3, [.int .i64 3, .int .i64 0, .int .i64 0, .slice none 0 0, .slice none 0 0, .int .u8 (bl t 0), .int .u8 (bl t 1), .int .u8 (bl t 2), .int .u8 (bl t 3), .int .u8 (bl t 4), .int .u8 (bl t 5), .int .u8 (bl t 6), .int .u8 (bl t 7)]) :: (R, [.slice p5 ((bt.drop 8).length) (c - 1 - 8)]) :: (B1, [.int .i64 0, .int .i64 0, .int .i64 0, .slice none 0 0, .slice none 0 0, .int .u8 0, .int .u8 0, .int .u8 0, .int .u8 0, .int .u8 0, .int .u8 0, .int .u8 0, .int .u8 0]) :: l) w6 := M
  first | show Exit.then _ _ _ _ _ | show Exit.inBlock _ _ _ _ _
  go_upto_region 20 with fail
  refine wp_region_list ?_
  refine readL (.agg #[.int .i64 3, .int .i64 0, .int .i64 0, .slice none 0 0, .slice none 0 0, .int .u8 (bl t 0), .int .u8 (bl t 1), .int .u8 (bl t 2), .int .u8 (bl t 3), .int .u8 (bl t 4), .int .u8 (bl t 5), .int .u8 (bl t 6), .int .u8 (bl t 7)]) rfl (loadN 26 _ ⟨B3, 0, none⟩ [.int .i64 3, .int .i64 0, .int .i64 0, .slice none 0 0, .slice none 0 0, .int .u8 (bl t 0), .int .u8 (bl t 1), .int .u8 (bl t 2), .int .u8 (bl t 3), .int .u8 (bl t 4), .int .u8 (bl t 5), .int .u8 (bl t 6), .int .u8 (bl t 7)] rfl rfl (fun _ => by kernel_rfl) (fun _ => by kernel_rfl) (M.rangeAt List.mem_cons_self)) ?_
  simp only [aP, lI, l0, lS]
  have hC : Calls Try.prog 10 #[.agg #[.int .i64 3, .int .i64 0, .int .i64 0, .slice none 0 0, .slice none 0 0, .int .u8 (bl t 0), .int .u8 (bl t 1), .int .u8 (bl t 2), .int .u8 (bl t 3), .int .u8 (bl t 4), .int .u8 (bl t 5), .int .u8 (bl t 6), .int .u8 (bl t 7)]] w6 (fun e w' => e = .returned (.int .i64 (fchk ⟨3, 0, 0, [], [], t⟩)) ∧ Below w6.heap.size w6 w') := vcheck_any ⟨3, 0, 0, [], [], t⟩ none 0 none 0 _ A_f.fv
  refine callL rfl (fun _ => by kernel_rfl) (hC) ?_
  rintro e w7 ⟨rfl, l⟩
  replace M := M.call l
  refine ⟨_, rfl, ?_⟩
  replace OF := OF.below l
  replace A_0 := A_0.off (Off.of_below l)
  replace OH := OH.below l
  replace A_f := A_f.off (Off.of_below l)
  clear l hC
  simp only [aP, lI, l0, lS]
  cases hok : fok ⟨3, 0, 0, [], [], t⟩ with
  | false =>
    have e1 := fchk_bad hok
    refine callPL rfl (fun _ => by kernel_rfl) (stop_bad (fchk ⟨3, 0, 0, [], [], t⟩) (by rw [e1]; decide) _) ?_
    rintro e w8 ⟨rfl, hw⟩
    subst hw
    right
    refine ⟨_, rfl, ?_⟩
    rw [e1]
    replace M := M.swap
    exact ⟨rfl, .inr ⟨100, fun m => dc_bad (by decide) hfp hok, rfl, _, M.drop2.drop2⟩⟩
  | true =>
    have e1 := fchk_ok hok
    rw [e1]
    clear e1
    refine callL rfl (fun _ => by kernel_rfl) (stop_ok _) ?_
    rintro e w8 ⟨rfl, hw⟩
    subst hw
    refine ⟨_, rfl, ?_⟩
    simp only [aP, lI, l0, lS]
    first | show Exit.then _ _ _ _ _ | show Exit.inBlock _ _ _ _ _
    go_upto_region 21 with fail
    refine wp_region_list ?_
    refine readL (.agg #[.int .i64 3, .int .i64 0, .int .i64 0, .slice none 0 0, .slice none 0 0, .int .u8 (bl t 0), .int .u8 (bl t 1), .int .u8 (bl t 2), .int .u8 (bl t 3), .int .u8 (bl t 4), .int .u8 (bl t 5), .int .u8 (bl t 6), .int .u8 (bl t 7)]) rfl (loadN 26 _ ⟨B3, 0, none⟩ [.int .i64 3, .int .i64 0, .int .i64 0, .slice none 0 0, .slice none 0 0, .int .u8 (bl t 0), .int .u8 (bl t 1), .int .u8 (bl t 2), .int .u8 (bl t 3), .int .u8 (bl t 4), .int .u8 (bl t 5), .int .u8 (bl t 6), .int .u8 (bl t 7)] rfl rfl (fun _ => by kernel_rfl) (fun _ => by kernel_rfl) (M.rangeAt List.mem_cons_self)) ?_
    simp only [aP, lI, l0, lS]
    replace M := M.rot3
    refine skipOpL rfl (storeP [.int .i64 3, .int .i64 0, .int .i64 0, .slice none 0 0, .slice none 0 0, .int .u8 (bl t 0), .int .u8 (bl t 1), .int .u8 (bl t 2), .int .u8 (bl t 3), .int .u8 (bl t 4), .int .u8 (bl t 5), .int .u8 (bl t 6), .int .u8 (bl t 7)] B1 0 26 _ _ rfl rfl rfl (M.thereP List.mem_cons_self 0 13 (Nat.le_of_ble_eq_true rfl)) (by kernel_rfl) (List.all_eq_true.1 (rfl : ([.int .i64 3, .int .i64 0, .int .i64 0, .slice none 0 0, .slice none 0 0, .int .u8 (bl t 0), .int .u8 (bl t 1), .int .u8 (bl t 2), .int .u8 (bl t 3), .int .u8 (bl t 4), .int .u8 (bl t 5), .int .u8 (bl t 6), .int .u8 (bl t 7)] : List Value).all (fun u => u.oneCell') = true))) ?_
    simp only [Act.put]
    replace M := M.setPart [.int .i64 3, .int .i64 0, .int .i64 0, .slice none 0 0, .slice none 0 0, .int .u8 (bl t 0), .int .u8 (bl t 1), .int .u8 (bl t 2), .int .u8 (bl t 3), .int .u8 (bl t 4), .int .u8 (bl t 5), .int .u8 (bl t 6), .int .u8 (bl t 7)] 0 (Nat.le_of_ble_eq_true rfl)
    replace OF := OF.and1 ((Off.refl [B1] _).setAll (b := B1) List.mem_cons_self 0 [.int .i64 3, .int .i64 0, .int .i64 0, .slice none 0 0, .slice none 0 0, .int .u8 (bl t 0), .int .u8 (bl t 1), .int .u8 (bl t 2), .int .u8 (bl t 3), .int .u8 (bl t 4), .int .u8 (bl t 5), .int .u8 (bl t 6), .int .u8 (bl t 7)]) (.inr (by omega))
    replace A_0 := A_0.off (((Off.refl [B1] _).setAll (b := B1) List.mem_cons_self 0 [.int .i64 3, .int .i64 0, .int .i64 0, .slice none 0 0, .slice none 0 0, .int .u8 (bl t 0), .int .u8 (bl t 1), .int .u8 (bl t 2), .int .u8 (bl t 3), .int .u8 (bl t 4), .int .u8 (bl t 5), .int .u8 (bl t 6), .int .u8 (bl t 7)]).mono (fun x hx => by obtain rfl := List.mem_singleton.1 hx; simp))
    replace OH := OH.and1 ((Off.refl [B1] _).setAll (b := B1) List.mem_cons_self 0 [.int .i64 3, .int .i64 0, .int .i64 0, .slice none 0 0, .slice none 0 0, .int .u8 (bl t 0), .int .u8 (bl t 1), .int .u8 (bl t 2), .int .u8 (bl t 3), .int .u8 (bl t 4), .int .u8 (bl t 5), .int .u8 (bl t 6), .int .u8 (bl t 7)]) (.inl (by simp))
    replace A_f := A_f.off (((Off.refl [B1] _).setAll (b := B1) List.mem_cons_self 0 [.int .i64 3, .int .i64 0, .int .i64 0, .slice none 0 0, .slice none 0 0, .int .u8 (bl t 0), .int .u8 (bl t 1), .int .u8 (bl t 2), .int .u8 (bl t 3), .int .u8 (bl t 4), .int .u8 (bl t 5), .int .u8 (bl t 6), .int .u8 (bl t 7)]).mono (fun x hx => by obtain rfl := List.mem_singleton.1 hx; simp))
    generalize w8.setCells B1 0 [.int .i64 3, .int .i64 0, .int .i64 0, .slice none 0 0, .slice none 0 0, .int .u8 (bl t 0), .int .u8 (bl t 1), .int .u8 (bl t 2), .int .u8 (bl t 3), .int .u8 (bl t 4), .int .u8 (bl t 5), .int .u8 (bl t 6), .int .u8 (bl t 7)] = w9 at M OF A_0 OH A_f ⊢
    replace M : Mm w0 ((B1, [.int .i64 3, .int .i64 0, .int .i64 0, .slice none 0 0, .slice none 0 0, .int .u8 (bl t 0), .int .u8 (bl t 1), .int .u8 (bl t 2), .int .u8 (bl t 3), .int .u8 (bl t 4), .int .u8 (bl t 5), .int .u8 (bl t 6), .int .u8 (bl t 7)]) :: (B3, [.int .i64 3, .int .i64 0, .int .i64 0, .slice none 0 0, .slice none 0 0, .int .u8 (bl t 0), .int .u8 (bl t 1), .int .u8 (bl t 2), .int .u8 (bl t 3), .int .u8 (bl t 4), .int .u8 (bl t 5), .int .u8 (bl t 6), .int .u8 (bl t 7)]) :: (R, [.slice p5 ((bt.drop 8).length) (c - 1 - 8)]) :: l) w9 := M
    first | show Exit.then _ _ _ _ _ | show Exit.inBlock _ _ _ _ _
    replace M := M.rot3
    have HS := show Hid _ from (And.intro M (And.intro OF (And.intro A_0 A_f)))
    have c1 := M.part (List.mem_cons_of_mem _ List.mem_cons_self) 0 (fcs ⟨3, 0, 0, [], [], t⟩ none 0 none 0) rfl
    clear M OF A_0 A_f
    go_wp2
    refine bodyPost_ret (v := .agg (fcs ⟨3, 0, 0, [], [], t⟩ none 0 none 0).toArray) (retCell 2 26 ⟨B1, 0, none⟩ (fcs ⟨3, 0, 0, [], [], t⟩ none 0 none 0) rfl rfl (fun _ => by kernel_rfl) (fun _ => by kernel_rfl) c1) rfl ?_
    exact .inl ⟨⟨3, 0, 0, [], [], t⟩, bt.drop 8, _, _, none, 0, none, 0, by decide, hfp, hok, by omega, (hbt.drop 8), rfl, HS.out.1.drop2.drop2, HS.out.2.1, hc5, hn5, HS.out.2.2.1.less (fun y hy => by rcases List.mem_cons.1 hy with rfl | hy; simp; simp [hy]), HS.out.2.2.2.less (fun y hy => by rcases List.mem_cons.1 hy with rfl | hy; simp; simp [hy])⟩

set_option maxRecDepth 10000 in
set_option maxHeartbeats 32000000 in
theorem fframe4 (X : List Nat) (w0 w : World) (R : Nat) (l : List (Nat × List Value)) (ad : Addr) (c : Nat) (bt : List Int) (hX : ∀ y ∈ X, y < w.heap.size) (hlen : bt.length ≤ 255) (hc : bt.length + 1 ≤ c) (hbt : Byts bt) (M : Mm w0 ((R, [.slice (some ad) (bt.length + 1) c]) :: l) w) (A_0 : SrcA (R :: X) w (some ad) (bt.length + 1) (bl (4 :: bt))) :
    Calls Try.prog 36 #[.pointer (some ⟨R, 0, none⟩)] w fun e w' => FrQ X w0 R l 4 bt w e w' := by
  have hx : 0 ≤ (4 : Int) ∧ (4 : Int) < 256 := ⟨by decide, by decide⟩
  have OF := Off.refl [R] w
  have hRw := M.lt List.mem_cons_self
  go_enter Try.func36, Try.ntmps36
  go_upto_region 0 with fail
  refine wp_region_list ?_
  refine actL (w' := w.alloc (.cells #[.int .i64 0, .int .i64 0, .int .i64 0, .slice none 0 0, .slice none 0 0, .int .u8 0, .int .u8 0, .int .u8 0, .int .u8 0, .int .u8 0, .int .u8 0, .int .u8 0, .int .u8 0] 26)) (.pointer (some ⟨w.heap.size, 0, none⟩)) rfl (by kernel_rfl) ?_
  simp only [aP, lI, l0, lS]
  have hlb := (Below.refl w.heap.size w).alloc (Nat.le_refl _) (.cells #[.int .i64 0, .int .i64 0, .int .i64 0, .slice none 0 0, .slice none 0 0, .int .u8 0, .int .u8 0, .int .u8 0, .int .u8 0, .int .u8 0, .int .u8 0, .int .u8 0, .int .u8 0] 26)
  replace OF := OF.below hlb
  replace A_0 := (A_0.more w.heap.size (Nat.le_refl _)).off (Off.of_below hlb)
  clear hlb
  have hB_B1 : w0.heap.size ≤ w.heap.size := M.below.size
  replace M := M.box #[.int .i64 0, .int .i64 0, .int .i64 0, .slice none 0 0, .slice none 0 0, .int .u8 0, .int .u8 0, .int .u8 0, .int .u8 0, .int .u8 0, .int .u8 0, .int .u8 0, .int .u8 0] 26 w.heap.size rfl
  generalize w.alloc (.cells #[.int .i64 0, .int .i64 0, .int .i64 0, .slice none 0 0, .slice none 0 0, .int .u8 0, .int .u8 0, .int .u8 0, .int .u8 0, .int .u8 0, .int .u8 0, .int .u8 0, .int .u8 0] 26) = w1 at M OF A_0 ⊢
  generalize eB : w.heap.size = B1 at M hB_B1 A_0 ⊢
  have hE_B1 : w.heap.size ≤ B1 := Nat.le_of_eq eB
  have hF_B1 : B1 ≤ w.heap.size := Nat.le_of_eq eB.symm
  clear eB
  replace M : Mm w0 ((B1, [.int .i64 0, .int .i64 0, .int .i64 0, .slice none 0 0, .slice none 0 0, .int .u8 0, .int .u8 0, .int .u8 0, .int .u8 0, .int .u8 0, .int .u8 0, .int .u8 0, .int .u8 0]) :: (R, [.slice (some ad) (bt.length + 1) c]) :: l) w1 := M
  first | show Exit.then _ _ _ _ _ | show Exit.inBlock _ _ _ _ _
  have hB1s := M.lt List.mem_cons_self
  go_upto_region 1 with fail
  refine wp_region_list ?_
  refine readL (.pointer (some ⟨R, 0, none⟩)) rfl (by kernel_rfl) ?_
  simp only [aP, lI, l0, lS]
  replace M := M.swap
  refine callL rfl (fun _ => by kernel_rfl) (fkind_any w0 _ R _ ad c 4 bt hc hx M (A_0.1.at 0 (by omega))) ?_
  rintro e w2 ⟨rfl, cq, M', o1, hcs, hcn⟩
  clear M
  have M := M'
  clear M'
  replace OF := OF.trans o1
  replace A_0 := A_0.off (o1.mono (fun y hy => by obtain rfl := List.mem_singleton.1 hy; simp))
  replace A_0 : SrcA (B1 :: R :: X) w2 cq bt.length (bl bt) := ⟨(hcs _ _ _ A_0).1.congr fun j _ => bl_tail 4 bt j, (hcs _ _ _ A_0).2⟩
  have hz1 := o1.size
  clear o1 hcs
  refine ⟨_, rfl, ?_⟩
  simp only [aP, lI, l0, lS]
  refine readL (.agg #[.int .i64 4, .int .i64 0, .int .i64 0, .slice none 0 0, .slice none 0 0, .int .u8 0, .int .u8 0, .int .u8 0, .int .u8 0, .int .u8 0, .int .u8 0, .int .u8 0, .int .u8 0]) rfl (by kernel_rfl) ?_
  simp only [aP, lI, l0, lS]
  refine actL (w' := w2.alloc (.cells #[.int .i64 0, .int .i64 0, .int .i64 0, .slice none 0 0, .slice none 0 0, .int .u8 0, .int .u8 0, .int .u8 0, .int .u8 0, .int .u8 0, .int .u8 0, .int .u8 0, .int .u8 0] 26)) (.pointer (some ⟨w2.heap.size, 0, none⟩)) rfl (by kernel_rfl) ?_
  simp only [aP, lI, l0, lS]
  have hlb := (Below.refl w2.heap.size w2).alloc (Nat.le_refl _) (.cells #[.int .i64 0, .int .i64 0, .int .i64 0, .slice none 0 0, .slice none 0 0, .int .u8 0, .int .u8 0, .int .u8 0, .int .u8 0, .int .u8 0, .int .u8 0, .int .u8 0, .int .u8 0] 26)
  replace OF := OF.below hlb
  replace A_0 := (A_0.more w2.heap.size (Nat.le_refl _)).off (Off.of_below hlb)
  clear hlb
  have hB_B3 : w0.heap.size ≤ w2.heap.size := M.below.size
  replace M := M.box #[.int .i64 0, .int .i64 0, .int .i64 0, .slice none 0 0, .slice none 0 0, .int .u8 0, .int .u8 0, .int .u8 0, .int .u8 0, .int .u8 0, .int .u8 0, .int .u8 0, .int .u8 0] 26 w2.heap.size rfl
  generalize w2.alloc (.cells #[.int .i64 0, .int .i64 0, .int .i64 0, .slice none 0 0, .slice none 0 0, .int .u8 0, .int .u8 0, .int .u8 0, .int .u8 0, .int .u8 0, .int .u8 0, .int .u8 0, .int .u8 0] 26) = w3 at M OF A_0 ⊢
  generalize eB : w2.heap.size = B3 at M hB_B3 A_0 ⊢
  have hE_B3 : w2.heap.size ≤ B3 := Nat.le_of_eq eB
  have hF_B3 : B3 ≤ w2.heap.size := Nat.le_of_eq eB.symm
  clear eB
  replace M : Mm w0 ((B3, [.int .i64 0, .int .i64 0, .int .i64 0, .slice none 0 0, .slice none 0 0, .int .u8 0, .int .u8 0, .int .u8 0, .int .u8 0, .int .u8 0, .int .u8 0, .int .u8 0, .int .u8 0]) :: (R, [.slice cq bt.length (c - 1)]) :: (B1, [.int .i64 0, .int .i64 0, .int .i64 0, .slice none 0 0, .slice none 0 0, .int .u8 0, .int .u8 0, .int .u8 0, .int .u8 0, .int .u8 0, .int .u8 0, .int .u8 0, .int .u8 0]) :: l) w3 := M
  refine skipOpL rfl (storeP [.int .i64 4, .int .i64 0, .int .i64 0, .slice none 0 0, .slice none 0 0, .int .u8 0, .int .u8 0, .int .u8 0, .int .u8 0, .int .u8 0, .int .u8 0, .int .u8 0, .int .u8 0] B3 0 26 _ _ rfl rfl rfl (M.thereP List.mem_cons_self 0 13 (Nat.le_of_ble_eq_true rfl)) (by kernel_rfl) (List.all_eq_true.1 (rfl : ([.int .i64 4, .int .i64 0, .int .i64 0, .slice none 0 0, .slice none 0 0, .int .u8 0, .int .u8 0, .int .u8 0, .int .u8 0, .int .u8 0, .int .u8 0, .int .u8 0, .int .u8 0] : List Value).all (fun u => u.oneCell') = true))) ?_
  simp only [Act.put]
  replace M := M.setPart [.int .i64 4, .int .i64 0, .int .i64 0, .slice none 0 0, .slice none 0 0, .int .u8 0, .int .u8 0, .int .u8 0, .int .u8 0, .int .u8 0, .int .u8 0, .int .u8 0, .int .u8 0] 0 (Nat.le_of_ble_eq_true rfl)
  replace OF := OF.and1 ((Off.refl [B3] _).setAll (b := B3) List.mem_cons_self 0 [.int .i64 4, .int .i64 0, .int .i64 0, .slice none 0 0, .slice none 0 0, .int .u8 0, .int .u8 0, .int .u8 0, .int .u8 0, .int .u8 0, .int .u8 0, .int .u8 0, .int .u8 0]) (.inr (by omega))
  replace A_0 := A_0.off (((Off.refl [B3] _).setAll (b := B3) List.mem_cons_self 0 [.int .i64 4, .int .i64 0, .int .i64 0, .slice none 0 0, .slice none 0 0, .int .u8 0, .int .u8 0, .int .u8 0, .int .u8 0, .int .u8 0, .int .u8 0, .int .u8 0, .int .u8 0]).mono (fun x hx => by obtain rfl := List.mem_singleton.1 hx; simp))
  generalize w3.setCells B3 0 [.int .i64 4, .int .i64 0, .int .i64 0, .slice none 0 0, .slice none 0 0, .int .u8 0, .int .u8 0, .int .u8 0, .int .u8 0, .int .u8 0, .int .u8 0, .int .u8 0, .int .u8 0] = w4 at M OF A_0 ⊢
  replace M : Mm w0 ((B3, [.int .i64 4, .int .i64 0, .int .i64 0, .slice none 0 0, .slice none 0 0, .int .u8 0, .int .u8 0, .int .u8 0, .int .u8 0, .int .u8 0, .int .u8 0, .int .u8 0, .int .u8 0]) :: (R, [.slice cq bt.length (c - 1)]) :: (B1, [.int .i64 0, .int .i64 0, .int .i64 0, .slice none 0 0, .slice none 0 0, .int .u8 0, .int .u8 0, .int .u8 0, .int .u8 0, .int .u8 0, .int .u8 0, .int .u8 0, .int .u8 0]) :: l) w4 := M
  first | show Exit.then _ _ _ _ _ | show Exit.inBlock _ _ _ _ _
  have hFs := M.lt List.mem_cons_self
  have hlowX : ∀ y ∈ B3 :: B1 :: R :: X, y < w4.heap.size := fun y hy => by
    rcases List.mem_cons.1 hy with rfl | hy
    · exact hFs
    · rcases List.mem_cons.1 hy with rfl | hy
      · omega
      · rcases List.mem_cons.1 hy with rfl | hy
        · omega
        · have h1 := hX y hy; omega
  have OH := Off.refl [R, B3, B1] w4
  go_upto_region 2 with fail
  refine wp_region_list ?_
  refine readL (.pointer (some ⟨B3, 0, none⟩)) rfl (by kernel_rfl) ?_
  simp only [aP, lI, l0, lS]
  refine readL (.int .i64 4) rfl (load1 3 _ ⟨B3, 0, none⟩ _ rfl rfl (fun _ => by kernel_rfl) (M.get List.mem_cons_self 0 _ rfl)) ?_
  simp only [aP, lI, l0, lS]
  first | show Exit.then _ _ _ _ _ | show Exit.inBlock _ _ _ _ _
  go_upto_region 3 with fail
  refine wp_region_list ?_
  refine readL (.bool false) rfl (eqlI .i64 _ _ _ _ _ _ rfl rfl rfl false (by decide) _) ?_
  simp only [aP, lI, l0, lS]
  refine readL (.bool false) rfl (by kernel_rfl) ?_
  simp only [aP, lI, l0, lS]
  first | show Exit.then _ _ _ _ _ | show Exit.inBlock _ _ _ _ _
  go_upto_region 6 with fail
  refine wp_region_list ?_
  refine readL (.bool false) rfl (eqlI .i64 _ _ _ _ _ _ rfl rfl rfl false (by decide) _) ?_
  simp only [aP, lI, l0, lS]
  refine readL (.bool false) rfl (by kernel_rfl) ?_
  simp only [aP, lI, l0, lS]
  first | show Exit.then _ _ _ _ _ | show Exit.inBlock _ _ _ _ _
  go_upto_region 10 with fail
  refine wp_region_list ?_
  refine readL (.bool false) rfl (eqlI .i64 _ _ _ _ _ _ rfl rfl rfl false (by decide) _) ?_
  simp only [aP, lI, l0, lS]
  refine readL (.bool false) rfl (by kernel_rfl) ?_
  simp only [aP, lI, l0, lS]
  first | show Exit.then _ _ _ _ _ | show Exit.inBlock _ _ _ _ _
  go_upto_region 11 with fail
  refine wp_region_list ?_
  refine readL (.bool true) rfl (eqlI .i64 _ _ _ _ _ _ rfl rfl rfl true (by decide) _) ?_
  simp only [aP, lI, l0, lS]
  refine readL (.bool true) rfl (by kernel_rfl) ?_
  simp only [aP, lI, l0, lS]
  first | show Exit.then _ _ _ _ _ | show Exit.inBlock _ _ _ _ _
  go_upto_region 12 with fail
  refine wp_region_list ?_
  refine readL (.pointer (some ⟨R, 0, none⟩)) rfl (by kernel_rfl) ?_
  simp only [aP, lI, l0, lS]
  replace M := M.swap
  have hOH5 := OH.size
  refine callPL rfl (fun _ => by kernel_rfl) (ftoken_any w0 _ R _ _ _ bt (by omega) (by omega) hcn M A_0.1) ?_
  rintro e w5 (⟨h5, rfl, p5, M', o5, hcs, hn5⟩ | ⟨h5, rfl, s5, M'⟩)
  rotate_left
  · right
    refine ⟨_, rfl, ?_⟩
    exact ⟨rfl, .inr ⟨_, fun m => dc_err (by decide) (by unfold fp; rw [if_pos (by decide), if_pos h5]), rfl, _, M'.drop2.drop2⟩⟩
  left
  clear M
  have M := M'
  clear M'
  have e8 : (bt.drop 8).length = bt.length - 8 := List.length_drop
  have ho5 := o5.size
  obtain ⟨t, ht⟩ : ∃ t, t = bt.take 8 := ⟨_, rfl⟩
  have e9 : tk8 bt = tk8 t := by subst ht; unfold tk8; rw [bl_take bt 8 0 (by decide), bl_take bt 8 1 (by decide), bl_take bt 8 2 (by decide), bl_take bt 8 3 (by decide), bl_take bt 8 4 (by decide), bl_take bt 8 5 (by decide), bl_take bt 8 6 (by decide), bl_take bt 8 7 (by decide)]
  replace OF := OF.trans o5
  replace OH := OH.trans (o5.mono (fun y hy => by obtain rfl := List.mem_singleton.1 hy; simp))
  replace A_0 := A_0.off (o5.mono (fun y hy => by obtain rfl := List.mem_singleton.1 hy; simp))
  clear o5
  replace A_0 : SrcA (B3 :: B1 :: R :: X) w5 p5 (bt.drop 8).length (bl (bt.drop 8)) := by rw [e8]; exact ⟨(hcs _ _ _ A_0).1.congr fun j _ => (bl_drop bt 8 j).symm, (hcs _ _ _ A_0).2⟩
  rw [← e8] at M
  have hc5 : (bt.drop 8).length ≤ c - 1 - 8 := by rw [e8]; omega
  clear hcs
  have hfp : fp 4 bt = .ok (⟨4, 0, 0, [], [], t⟩, bt.drop 8) := by subst ht; unfold fp; rw [if_pos (by decide), if_neg (by omega)]
  have A_f : FA (B3 :: B1 :: R :: X) w5 ⟨4, 0, 0, [], [], t⟩ none 0 none 0 := fa_nil _ _ _ _ _ (by unfold i64; decide) (by unfold i64; decide) (by subst ht; exact hbt.take 8) (by subst ht; rw [List.length_take]; omega)
  refine ⟨_, rfl, ?_⟩
  rw [e9]
  clear e9
  unfold tk8
  simp only [aP, lI, l0, lS]
  refine readL (.pointer (some ⟨B3, 5, none⟩)) rfl (by kernel_rfl) ?_
  simp only [aP, lI, l0, lS]
  replace M := M.swap
  refine skipOpL rfl (storeP [.int .u8 (bl t 0), .int .u8 (bl t 1), .int .u8 (bl t 2), .int .u8 (bl t 3), .int .u8 (bl t 4), .int .u8 (bl t 5), .int .u8 (bl t 6), .int .u8 (bl t 7)] B3 5 24 _ _ rfl rfl rfl (M.thereP List.mem_cons_self 5 8 (Nat.le_of_ble_eq_true rfl)) (by kernel_rfl) (List.all_eq_true.1 (rfl : ([.int .u8 (bl t 0), .int .u8 (bl t 1), .int .u8 (bl t 2), .int .u8 (bl t 3), .int .u8 (bl t 4), .int .u8 (bl t 5), .int .u8 (bl t 6), .int .u8 (bl t 7)] : List Value).all (fun u => u.oneCell') = true))) ?_
  simp only [Act.put]
  replace M := M.setPart [.int .u8 (bl t 0), .int .u8 (bl t 1), .int .u8 (bl t 2), .int .u8 (bl t 3), .int .u8 (bl t 4), .int .u8 (bl t 5), .int .u8 (bl t 6), .int .u8 (bl t 7)] 5 (Nat.le_of_ble_eq_true rfl)
  replace OF := OF.and1 ((Off.refl [B3] _).setAll (b := B3) List.mem_cons_self 5 [.int .u8 (bl t 0), .int .u8 (bl t 1), .int .u8 (bl t 2), .int .u8 (bl t 3), .int .u8 (bl t 4), .int .u8 (bl t 5), .int .u8 (bl t 6), .int .u8 (bl t 7)]) (.inr (by omega))
  replace A_0 := A_0.off (((Off.refl [B3] _).setAll (b := B3) List.mem_cons_self 5 [.int .u8 (bl t 0), .int .u8 (bl t 1), .int .u8 (bl t 2), .int .u8 (bl t 3), .int .u8 (bl t 4), .int .u8 (bl t 5), .int .u8 (bl t 6), .int .u8 (bl t 7)]).mono (fun x hx => by obtain rfl := List.mem_singleton.1 hx; simp))
  replace OH := OH.and1 ((Off.refl [B3] _).setAll (b := B3) List.mem_cons_self 5 [.int .u8 (bl t 0), .int .u8 (bl t 1), .int .u8 (bl t 2), .int .u8 (bl t 3), .int .u8 (bl t 4), .int .u8 (bl t 5), .int .u8 (bl t 6), .int .u8 (bl t 7)]) (.inl (by simp))
  replace A_f := A_f.off (((Off.refl [B3] _).setAll (b := B3) List.mem_cons_self 5 [.int .u8 (bl t 0), .int .u8 (bl t 1), .int .u8 (bl t 2), .int .u8 (bl t 3), .int .u8 (bl t 4), .int .u8 (bl t 5), .int .u8 (bl t 6), .int .u8 (bl t 7)]).mono (fun x hx => by obtain rfl := List.mem_singleton.1 hx; simp))
  generalize w5.setCells B3 5 [.int .u8 (bl t 0), .int .u8 (bl t 1), .int .u8 (bl t 2), .int .u8 (bl t 3), .int .u8 (bl t 4), .int .u8 (bl t 5), .int .u8 (bl t 6), .int .u8 (bl t 7)] = w6 at M OF A_0 OH A_f ⊢
  replace M : Mm w0 ((B3, [.int .i64 4, .int .i64 0, .int .i64 0, .slice none 0 0, .slice none 0 0, .int .u8 (bl t 0), .int .u8 (bl t 1), .int .u8 (bl t 2), .int .u8 (bl t 3), .int .u8 (bl t 4), .int .u8 (bl t 5), .int .u8 (bl t 6), .int .u8 (bl t 7)]) :: (R, [.slice p5 ((bt.drop 8).length) (c - 1 - 8)]) :: (B1, [.int .i64 0, .int .i64 0, .int .i64 0, .slice none 0 0, .slice none 0 0, .int .u8 0, .int .u8 0, .int .u8 0, .int .u8 0, .int .u8 0, .int .u8 0, .int .u8 0, .int .u8 0]) :: l) w6 := M
  first | show Exit.then _ _ _ _ _ | show Exit.inBlock _ _ _ _ _
  go_upto_region 20 with fail
  refine wp_region_list ?_
  refine readL (.agg #[.int .i64 4, .int .i64 0, .int .i64 0, .slice none 0 0, .slice none 0 0, .int .u8 (bl t 0), .int .u8 (bl t 1), .int .u8 (bl t 2), .int .u8 (bl t 3), .int .u8 (bl t 4), .int .u8 (bl t 5), .int .u8 (bl t 6), .int .u8 (bl t 7)]) rfl (loadN 26 _ ⟨B3, 0, none⟩ [.int .i64 4, .int .i64 0, .int .i64 0, .slice none 0 0, .slice none 0 0, .int .u8 (bl t 0), .int .u8 (bl t 1), .int .u8 (bl t 2), .int .u8 (bl t 3), .int .u8 (bl t 4), .int .u8 (bl t 5), .int .u8 (bl t 6), .int .u8 (bl t 7)] rfl rfl (fun _ => by kernel_rfl) (fun _ => by kernel_rfl) (M.rangeAt List.mem_cons_self)) ?_
  simp only [aP, lI, l0, lS]
  have hC : Calls Try.prog 10 #[.agg #[.int .i64 4, .int .i64 0, .int .i64 0, .slice none 0 0, .slice none 0 0, .int .u8 (bl t 0), .int .u8 (bl t 1), .int .u8 (bl t 2), .int .u8 (bl t 3), .int .u8 (bl t 4), .int .u8 (bl t 5), .int .u8 (bl t 6), .int .u8 (bl t 7)]] w6 (fun e w' => e = .returned (.int .i64 (fchk ⟨4, 0, 0, [], [], t⟩)) ∧ Below w6.heap.size w6 w') := vcheck_any ⟨4, 0, 0, [], [], t⟩ none 0 none 0 _ A_f.fv
  refine callL rfl (fun _ => by kernel_rfl) (hC) ?_
  rintro e w7 ⟨rfl, l⟩
  replace M := M.call l
  refine ⟨_, rfl, ?_⟩
  replace OF := OF.below l
  replace A_0 := A_0.off (Off.of_below l)
  replace OH := OH.below l
  replace A_f := A_f.off (Off.of_below l)
  clear l hC
  simp only [aP, lI, l0, lS]
  cases hok : fok ⟨4, 0, 0, [], [], t⟩ with
  | false =>
    have e1 := fchk_bad hok
    refine callPL rfl (fun _ => by kernel_rfl) (stop_bad (fchk ⟨4, 0, 0, [], [], t⟩) (by rw [e1]; decide) _) ?_
    rintro e w8 ⟨rfl, hw⟩
    subst hw
    right
    refine ⟨_, rfl, ?_⟩
    rw [e1]
    replace M := M.swap
    exact ⟨rfl, .inr ⟨100, fun m => dc_bad (by decide) hfp hok, rfl, _, M.drop2.drop2⟩⟩
  | true =>
    have e1 := fchk_ok hok
    rw [e1]
    clear e1
    refine callL rfl (fun _ => by kernel_rfl) (stop_ok _) ?_
    rintro e w8 ⟨rfl, hw⟩
    subst hw
    refine ⟨_, rfl, ?_⟩
    simp only [aP, lI, l0, lS]
    first | show Exit.then _ _ _ _ _ | show Exit.inBlock _ _ _ _ _
    go_upto_region 21 with fail
    refine wp_region_list ?_
    refine readL (.agg #[.int .i64 4, .int .i64 0, .int .i64 0, .slice none 0 0, .slice none 0 0, .int .u8 (bl t 0), .int .u8 (bl t 1), .int .u8 (bl t 2), .int .u8 (bl t 3), .int .u8 (bl t 4), .int .u8 (bl t 5), .int .u8 (bl t 6), .int .u8 (bl t 7)]) rfl (loadN 26 _ ⟨B3, 0, none⟩ [.int .i64 4, .int .i64 0, .int .i64 0, .slice none 0 0, .slice none 0 0, .int .u8 (bl t 0), .int .u8 (bl t 1), .int .u8 (bl t 2), .int .u8 (bl t 3), .int .u8 (bl t 4), .int .u8 (bl t 5), .int .u8 (bl t 6), .int .u8 (bl t 7)] rfl rfl (fun _ => by kernel_rfl) (fun _ => by kernel_rfl) (M.rangeAt List.mem_cons_self)) ?_
    simp only [aP, lI, l0, lS]
    replace M := M.rot3
    refine skipOpL rfl (storeP [.int .i64 4, .int .i64 0, .int .i64 0, .slice none 0 0, .slice none 0 0, .int .u8 (bl t 0), .int .u8 (bl t 1), .int .u8 (bl t 2), .int .u8 (bl t 3), .int .u8 (bl t 4), .int .u8 (bl t 5), .int .u8 (bl t 6), .int .u8 (bl t 7)] B1 0 26 _ _ rfl rfl rfl (M.thereP List.mem_cons_self 0 13 (Nat.le_of_ble_eq_true rfl)) (by kernel_rfl) (List.all_eq_true.1 (rfl : ([.int .i64 4, .int .i64 0, .int .i64 0, .slice none 0 0, .slice none 0 0, .int .u8 (bl t 0), .int .u8 (bl t 1), .int .u8 (bl t 2), .int .u8 (bl t 3), .int .u8 (bl t 4), .int .u8 (bl t 5), .int .u8 (bl t 6), .int .u8 (bl t 7)] : List Value).all (fun u => u.oneCell') = true))) ?_
    simp only [Act.put]
    replace M := M.setPart [.int .i64 4, .int .i64 0, .int .i64 0, .slice none 0 0, .slice none 0 0, .int .u8 (bl t 0), .int .u8 (bl t 1), .int .u8 (bl t 2), .int .u8 (bl t 3), .int .u8 (bl t 4), .int .u8 (bl t 5), .int .u8 (bl t 6), .int .u8 (bl t 7)] 0 (Nat.le_of_ble_eq_true rfl)
    replace OF := OF.and1 ((Off.refl [B1] _).setAll (b := B1) List.mem_cons_self 0 [.int .i64 4, .int .i64 0, .int .i64 0, .slice none 0 0, .slice none 0 0, .int .u8 (bl t 0), .int .u8 (bl t 1), .int .u8 (bl t 2), .int .u8 (bl t 3), .int .u8 (bl t 4), .int .u8 (bl t 5), .int .u8 (bl t 6), .int .u8 (bl t 7)]) (.inr (by omega))
    replace A_0 := A_0.off (((Off.refl [B1] _).setAll (b := B1) List.mem_cons_self 0 [.int .i64 4, .int .i64 0, .int .i64 0, .slice none 0 0, .slice none 0 0, .int .u8 (bl t 0), .int .u8 (bl t 1), .int .u8 (bl t 2), .int .u8 (bl t 3), .int .u8 (bl t 4), .int .u8 (bl t 5), .int .u8 (bl t 6), .int .u8 (bl t 7)]).mono (fun x hx => by obtain rfl := List.mem_singleton.1 hx; simp))
    replace OH := OH.and1 ((Off.refl [B1] _).setAll (b := B1) List.mem_cons_self 0 [.int .i64 4, .int .i64 0, .int .i64 0, .slice none 0 0, .slice none 0 0, .int .u8 (bl t 0), .int .u8 (bl t 1), .int .u8 (bl t 2), .int .u8 (bl t 3), .int .u8 (bl t 4), .int .u8 (bl t 5), .int .u8 (bl t 6), .int .u8 (bl t 7)]) (.inl (by simp))
    replace A_f := A_f.off (((Off.refl [B1] _).setAll (b := B1) List.mem_cons_self 0 [.int .i64 4, .int .i64 0, .int .i64 0, .slice none 0 0, .slice none 0 0, .int .u8 (bl t 0), .int .u8 (bl t 1), .int .u8 (bl t 2), .int .u8 (bl t 3), .int .u8 (bl t 4), .int .u8 (bl t 5), .int .u8 (bl t 6), .int .u8 (bl t 7)]).mono (fun x hx => by obtain rfl := List.mem_singleton.1 hx; simp))
    generalize w8.setCells B1 0 [.int .i64 4, .int .i64 0, .int .i64 0, .slice none 0 0, .slice none 0 0, .int .u8 (bl t 0), .int .u8 (bl t 1), .int .u8 (bl t 2), .int .u8 (bl t 3), .int .u8 (bl t 4), .int .u8 (bl t 5), .int .u8 (bl t 6), .int .u8 (bl t 7)] = w9 at M OF A_0 OH A_f ⊢
    replace M : Mm w0 ((B1, [.int .i64 4, .int .i64 0, .int .i64 0, .slice none 0 0, .slice none 0 0, .int .u8 (bl t 0), .int .u8 (bl t 1), .int .u8 (bl t 2), .int .u8 (bl t 3), .int .u8 (bl t 4), .int .u8 (bl t 5), .int .u8 (bl t 6), .int .u8 (bl t 7)]) :: (B3, [.int .i64 4, .int .i64 0, .int .i64 0, .slice none 0 0, .slice none 0 0, .int .u8 (bl t 0), .int .u8 (bl t 1), .int .u8 (bl t 2), .int .u8 (bl t 3), .int .u8 (bl t 4), .int .u8 (bl t 5), .int .u8 (bl t 6), .int .u8 (bl t 7)]) :: (R, [.slice p5 ((bt.drop 8).length) (c - 1 - 8)]) :: l) w9 := M
    first | show Exit.then _ _ _ _ _ | show Exit.inBlock _ _ _ _ _
    replace M := M.rot3
    have HS := show Hid _ from (And.intro M (And.intro OF (And.intro A_0 A_f)))
    have c1 := M.part (List.mem_cons_of_mem _ List.mem_cons_self) 0 (fcs ⟨4, 0, 0, [], [], t⟩ none 0 none 0) rfl
    clear M OF A_0 A_f
    go_wp2
    refine bodyPost_ret (v := .agg (fcs ⟨4, 0, 0, [], [], t⟩ none 0 none 0).toArray) (retCell 2 26 ⟨B1, 0, none⟩ (fcs ⟨4, 0, 0, [], [], t⟩ none 0 none 0) rfl rfl (fun _ => by kernel_rfl) (fun _ => by kernel_rfl) c1) rfl ?_
    exact .inl ⟨⟨4, 0, 0, [], [], t⟩, bt.drop 8, _, _, none, 0, none, 0, by decide, hfp, hok, by omega, (hbt.drop 8), rfl, HS.out.1.drop2.drop2, HS.out.2.1, hc5, hn5, HS.out.2.2.1.less (fun y hy => by rcases List.mem_cons.1 hy with rfl | hy; simp; simp [hy]), HS.out.2.2.2.less (fun y hy => by rcases List.mem_cons.1 hy with rfl | hy; simp; simp [hy])⟩

set_option maxRecDepth 10000 in
set_option maxHeartbeats 32000000 in
theorem fframe5 (X : List Nat) (w0 w : World) (R : Nat) (l : List (Nat × List Value)) (ad : Addr) (c : Nat) (bt : List Int) (hX : ∀ y ∈ X, y < w.heap.size) (hlen : bt.length ≤ 255) (hc : bt.length + 1 ≤ c) (hbt : Byts bt) (M : Mm w0 ((R, [.slice (some ad) (bt.length + 1) c]) :: l) w) (A_0 : SrcA (R :: X) w (some ad) (bt.length + 1) (bl (5 :: bt))) :
    Calls Try.prog 36 #[.pointer (some ⟨R, 0, none⟩)] w fun e w' => FrQ X w0 R l 5 bt w e w' := by
  have hx : 0 ≤ (5 : Int) ∧ (5 : Int) < 256 := ⟨by decide, by decide⟩
  have OF := Off.refl [R] w
  have hRw := M.lt List.mem_cons_self
  go_enter Try.func36, Try.ntmps36
  go_upto_region 0 with fail
  refine wp_region_list ?_
  refine actL (w' := w.alloc (.cells #[.int .i64 0, .int .i64 0, .int .i64 0, .slice none 0 0, .slice none 0 0, .int .u8 0, .int .u8 0, .int .u8 0, .int .u8 0, .int .u8 0, .int .u8 0, .int .u8 0, .int .u8 0] 26)) (.pointer (some ⟨w.heap.size, 0, none⟩)) rfl (by kernel_rfl) ?_
  simp only [aP, lI, l0, lS]
  have hlb := (Below.refl w.heap.size w).alloc (Nat.le_refl _) (.cells #[.int .i64 0, .int .i64 0, .int .i64 0, .slice none 0 0, .slice none 0 0, .int .u8 0, .int .u8 0, .int .u8 0, .int .u8 0, .int .u8 0, .int .u8 0, .int .u8 0, .int .u8 0] 26)
  replace OF := OF.below hlb
  replace A_0 := (A_0.more w.heap.size (Nat.le_refl _)).off (Off.of_below hlb)
  clear hlb
  have hB_B1 : w0.heap.size ≤ w.heap.size := M.below.size
  replace M := M.box #[.int .i64 0, .int .i64 0, .int .i64 0, .slice none 0 0, .slice none 0 0, .int .u8 0, .int .u8 0, .int .u8 0, .int .u8 0, .int .u8 0, .int .u8 0, .int .u8 0, .int .u8 0] 26 w.heap.size rfl
  generalize w.alloc (.cells #[.int .i64 0, .int .i64 0, .int .i64 0, .slice none 0 0, .slice none 0 0, .int .u8 0, .int .u8 0, .int .u8 0, .int .u8 0, .int .u8 0, .int .u8 0, .int .u8 0, .int .u8 0] 26) = w1 at M OF A_0 ⊢
  generalize eB : w.heap.size = B1 at M hB_B1 A_0 ⊢
  have hE_B1 : w.heap.size ≤ B1 := Nat.le_of_eq eB
  have hF_B1 : B1 ≤ w.heap.size := Nat.le_of_eq eB.symm
  clear eB
  replace M : Mm w0 ((B1, [.int .i64 0, .int .i64 0, .int .i64 0, .slice none 0 0, .slice none 0 0, .int .u8 0, .int .u8 0, .int .u8 0, .int .u8 0, .int .u8 0, .int .u8 0, .int .u8 0, .int .u8 0]) :: (R, [.slice (some ad) (bt.length + 1) c]) :: l) w1 := M
  first | show Exit.then _ _ _ _ _ | show Exit.inBlock _ _ _ _ _
  have hB1s := M.lt List.mem_cons_self
  go_upto_region 1 with fail
  refine wp_region_list ?_
  refine readL (.pointer (some ⟨R, 0, none⟩)) rfl (by kernel_rfl) ?_
  simp only [aP, lI, l0, lS]
  replace M := M.swap
  refine callL rfl (fun _ => by kernel_rfl) (fkind_any w0 _ R _ ad c 5 bt hc hx M (A_0.1.at 0 (by omega))) ?_
  rintro e w2 ⟨rfl, cq, M', o1, hcs, hcn⟩
  clear M
  have M := M'
  clear M'
  replace OF := OF.trans o1
  replace A_0 := A_0.off (o1.mono (fun y hy => by obtain rfl := List.mem_singleton.1 hy; simp))
  replace A_0 : SrcA (B1 :: R :: X) w2 cq bt.length (bl bt) := ⟨(hcs _ _ _ A_0).1.congr fun j _ => bl_tail 5 bt j, (hcs _ _ _ A_0).2⟩
  have hz1 := o1.size
  clear o1 hcs
  refine ⟨_, rfl, ?_⟩
  simp only [aP, lI, l0, lS]
  refine readL (.agg #[.int .i64 5, .int .i64 0, .int .i64 0, .slice none 0 0, .slice none 0 0, .int .u8 0, .int .u8 0, .int .u8 0, .int .u8 0, .int .u8 0, .int .u8 0, .int .u8 0, .int .u8 0]) rfl (by kernel_rfl) ?_
  simp only [aP, lI, l0, lS]
  refine actL (w' := w2.alloc (.cells #[.int .i64 0, .int .i64 0, .int .i64 0, .slice none 0 0, .slice none 0 0, .int .u8 0, .int .u8 0, .int .u8 0, .int .u8 0, .int .u8 0, .int .u8 0, .int .u8 0, .int .u8 0] 26)) (.pointer (some ⟨w2.heap.size, 0, none⟩)) rfl (by kernel_rfl) ?_
  simp only [aP, lI, l0, lS]
  have hlb := (Below.refl w2.heap.size w2).alloc (Nat.le_refl _) (.cells #[.int .i64 0, .int .i64 0, .int .i64 0, .slice none 0 0, .slice none 0 0, .int .u8 0, .int .u8 0, .int .u8 0, .int .u8 0, .int .u8 0, .int .u8 0, .int .u8 0, .int .u8 0] 26)
  replace OF := OF.below hlb
  replace A_0 := (A_0.more w2.heap.size (Nat.le_refl _)).off (Off.of_below hlb)
  clear hlb
  have hB_B3 : w0.heap.size ≤ w2.heap.size := M.below.size
  replace M := M.box #[.int .i64 0, .int .i64 0, .int .i64 0, .slice none 0 0, .slice none 0 0, .int .u8 0, .int .u8 0, .int .u8 0, .int .u8 0, .int .u8 0, .int .u8 0, .int .u8 0, .int .u8 0] 26 w2.heap.size rfl
  generalize w2.alloc (.cells #[.int .i64 0, .int .i64 0, .int .i64 0, .slice none 0 0, .slice none 0 0, .int .u8 0, .int .u8 0, .int .u8 0, .int .u8 0, .int .u8 0, .int .u8 0, .int .u8 0, .int .u8 0] 26) = w3 at M OF A_0 ⊢
  generalize eB : w2.heap.size = B3 at M hB_B3 A_0 ⊢
  have hE_B3 : w2.heap.size ≤ B3 := Nat.le_of_eq eB
  have hF_B3 : B3 ≤ w2.heap.size := Nat.le_of_eq eB.symm
  clear eB
  replace M : Mm w0 ((B3, [.int .i64 0, .int .i64 0, .int .i64 0, .slice none 0 0, .slice none 0 0, .int .u8 0, .int .u8 0, .int .u8 0, .int .u8 0, .int .u8 0, .int .u8 0, .int .u8 0, .int .u8 0]) :: (R, [.slice cq bt.length (c - 1)]) :: (B1, [.int .i64 0, .int .i64 0, .int .i64 0, .slice none 0 0, .slice none 0 0, .int .u8 0, .int .u8 0, .int .u8 0, .int .u8 0, .int .u8 0, .int .u8 0, .int .u8 0, .int .u8 0]) :: l) w3 := M
  refine skipOpL rfl (storeP [.int .i64 5, .int .i64 0, .int .i64 0, .slice none 0 0, .slice none 0 0, .int .u8 0, .int .u8 0, .int .u8 0, .int .u8 0, .int .u8 0, .int .u8 0, .int .u8 0, .int .u8 0] B3 0 26 _ _ rfl rfl rfl (M.thereP List.mem_cons_self 0 13 (Nat.le_of_ble_eq_true rfl)) (by kernel_rfl) (List.all_eq_true.1 (rfl : ([.int .i64 5, .int .i64 0, .int .i64 0, .slice none 0 0, .slice none 0 0, .int .u8 0, .int .u8 0, .int .u8 0, .int .u8 0, .int .u8 0, .int .u8 0, .int .u8 0, .int .u8 0] : List Value).all (fun u => u.oneCell') = true))) ?_
  simp only [Act.put]
  replace M := M.setPart [.int .i64 5, .int .i64 0, .int .i64 0, .slice none 0 0, .slice none 0 0, .int .u8 0, .int .u8 0, .int .u8 0, .int .u8 0, .int .u8 0, .int .u8 0, .int .u8 0, .int .u8 0] 0 (Nat.le_of_ble_eq_true rfl)
  replace OF := OF.and1 ((Off.refl [B3] _).setAll (b := B3) List.mem_cons_self 0 [.int .i64 5, .int .i64 0, .int .i64 0, .slice none 0 0, .slice none 0 0, .int .u8 0, .int .u8 0, .int .u8 0, .int .u8 0, .int .u8 0, .int .u8 0, .int .u8 0, .int .u8 0]) (.inr (by omega))
  replace A_0 := A_0.off (((Off.refl [B3] _).setAll (b := B3) List.mem_cons_self 0 [.int .i64 5, .int .i64 0, .int .i64 0, .slice none 0 0, .slice none 0 0, .int .u8 0, .int .u8 0, .int .u8 0, .int .u8 0, .int .u8 0, .int .u8 0, .int .u8 0, .int .u8 0]).mono (fun x hx => by obtain rfl := List.mem_singleton.1 hx; simp))
  generalize w3.setCells B3 0 [.int .i64 5, .int .i64 0, .int .i64 0, .slice none 0 0, .slice none 0 0, .int .u8 0, .int .u8 0, .int .u8 0, .int .u8 0, .int .u8 0, .int .u8 0, .int .u8 0, .int .u8 0] = w4 at M OF A_0 ⊢
  replace M : Mm w0 ((B3, [.int .i64 5, .int .i64 0, .int .i64 0, .slice none 0 0, .slice none 0 0, .int .u8 0, .int .u8 0, .int .u8 0, .int .u8 0, .int .u8 0, .int .u8 0, .int .u8 0, .int .u8 0]) :: (R, [.slice cq bt.length (c - 1)]) :: (B1, [.int .i64 0, .int .i64 0, .int .i64 0, .slice none 0 0, .slice none 0 0, .int .u8 0, .int .u8 0, .int .u8 0, .int .u8 0, .int .u8 0, .int .u8 0, .int .u8 0, .int .u8 0]) :: l) w4 := M
  first | show Exit.then _ _ _ _ _ | show Exit.inBlock _ _ _ _ _
  have hFs := M.lt List.mem_cons_self
  have hlowX : ∀ y ∈ B3 :: B1 :: R :: X, y < w4.heap.size := fun y hy => by
    rcases List.mem_cons.1 hy with rfl | hy
    · exact hFs
    · rcases List.mem_cons.1 hy with rfl | hy
      · omega
      · rcases List.mem_cons.1 hy with rfl | hy
        · omega
        · have h1 := hX y hy; omega
  have OH := Off.refl [R, B3, B1] w4
  go_upto_region 2 with fail
  refine wp_region_list ?_
  refine readL (.pointer (some ⟨B3, 0, none⟩)) rfl (by kernel_rfl) ?_
  simp only [aP, lI, l0, lS]
  refine readL (.int .i64 5) rfl (load1 3 _ ⟨B3, 0, none⟩ _ rfl rfl (fun _ => by kernel_rfl) (M.get List.mem_cons_self 0 _ rfl)) ?_
  simp only [aP, lI, l0, lS]
  first | show Exit.then _ _ _ _ _ | show Exit.inBlock _ _ _ _ _
  go_upto_region 3 with fail
  refine wp_region_list ?_
  refine readL (.bool false) rfl (eqlI .i64 _ _ _ _ _ _ rfl rfl rfl false (by decide) _) ?_
  simp only [aP, lI, l0, lS]
  refine readL (.bool false) rfl (by kernel_rfl) ?_
  simp only [aP, lI, l0, lS]
  first | show Exit.then _ _ _ _ _ | show Exit.inBlock _ _ _ _ _
  go_upto_region 6 with fail
  refine wp_region_list ?_
  refine readL (.bool false) rfl (eqlI .i64 _ _ _ _ _ _ rfl rfl rfl false (by decide) _) ?_
  simp only [aP, lI, l0, lS]
  refine readL (.bool false) rfl (by kernel_rfl) ?_
  simp only [aP, lI, l0, lS]
  first | show Exit.then _ _ _ _ _ | show Exit.inBlock _ _ _ _ _
  go_upto_region 10 with fail
  refine wp_region_list ?_
  refine readL (.bool false) rfl (eqlI .i64 _ _ _ _ _ _ rfl rfl rfl false (by decide) _) ?_
  simp only [aP, lI, l0, lS]
  refine readL (.bool false) rfl (by kernel_rfl) ?_
  simp only [aP, lI, l0, lS]
  first | show Exit.then _ _ _ _ _ | show Exit.inBlock _ _ _ _ _
  go_upto_region 11 with fail
  refine wp_region_list ?_
  refine readL (.bool false) rfl (eqlI .i64 _ _ _ _ _ _ rfl rfl rfl false (by decide) _) ?_
  simp only [aP, lI, l0, lS]
  refine readL (.bool false) rfl (by kernel_rfl) ?_
  simp only [aP, lI, l0, lS]
  first | show Exit.then _ _ _ _ _ | show Exit.inBlock _ _ _ _ _
  go_upto_region 13 with fail
  refine wp_region_list ?_
  refine readL (.bool true) rfl (eqlI .i64 _ _ _ _ _ _ rfl rfl rfl true (by decide) _) ?_
  simp only [aP, lI, l0, lS]
  refine readL (.bool true) rfl (by kernel_rfl) ?_
  simp only [aP, lI, l0, lS]
  first | show Exit.then _ _ _ _ _ | show Exit.inBlock _ _ _ _ _
  go_upto_region 15 with fail
  refine wp_region_list ?_
  refine readL (.pointer (some ⟨R, 0, none⟩)) rfl (by kernel_rfl) ?_
  simp only [aP, lI, l0, lS]
  replace M := M.swap
  have hOH5 := OH.size
  refine callPL rfl (fun _ => by kernel_rfl) (fnumber_any w0 _ R _ _ _ bt (by omega) (by omega) hcn hbt M A_0.1) ?_
  rintro e w5 (⟨h5, rfl, p5, c5, M', o5, O_5⟩ | ⟨h5, rfl, s5, M'⟩)
  rotate_left
  · right
    refine ⟨_, rfl, ?_⟩
    exact ⟨rfl, .inr ⟨_, fun m => dc_err (by decide) (fp_err (by decide) h5), rfl, _, M'.drop2.drop2⟩⟩
  left
  clear M
  have M := M'
  clear M'
  have hl5 := lR_le bt
  have hb5 := lR_byts hbt
  have ho5 := o5.size
  clear A_0
  replace OF := OF.trans o5
  replace OH := OH.trans (o5.mono (fun y hy => by obtain rfl := List.mem_singleton.1 hy; simp))
  clear o5
  have A_5 : SrcA (B3 :: B1 :: R :: X) w5 p5 (lR bt).length (bl (lR bt)) := SrcA.of_own O_5 (fun y hy => by have h1 := hlowX y hy; omega)
  have hc5 := O_5.le
  have hn5 := O_5.nilCap
  clear O_5
  refine ⟨_, rfl, ?_⟩
  simp only [aP, lI, l0, lS]
  refine readL (.pointer (some ⟨B3, 1, none⟩)) rfl (by kernel_rfl) ?_
  simp only [aP, lI, l0, lS]
  replace M := M.swap
  refine skipOpL rfl (storeAny (.int .i64 (lN bt)) B3 1 3 _ _ rfl rfl rfl rfl rfl (M.isSome List.mem_cons_self 1 (by simp)) (M.free List.mem_cons_self 1 (by simp)) (by kernel_rfl)) ?_
  simp only [Act.put]
  replace M := M.set 1 (by simp) (.int .i64 (lN bt))
  replace OF := OF.and1 ((Off.refl [B3] _).set (b := B3) List.mem_cons_self 1 (.int .i64 (lN bt))) (.inr (by omega))
  replace OH := OH.and1 ((Off.refl [B3] _).set (b := B3) List.mem_cons_self 1 (.int .i64 (lN bt))) (.inl (by simp))
  replace A_5 := A_5.off (((Off.refl [B3] _).set (b := B3) List.mem_cons_self 1 (.int .i64 (lN bt))).mono (fun x hx => by obtain rfl := List.mem_singleton.1 hx; simp))
  generalize w5.setCell ⟨B3, 1, none⟩ (.int .i64 (lN bt)) = w6 at M OF OH A_5 ⊢
  replace M : Mm w0 ((B3, [.int .i64 5, .int .i64 (lN bt), .int .i64 0, .slice none 0 0, .slice none 0 0, .int .u8 0, .int .u8 0, .int .u8 0, .int .u8 0, .int .u8 0, .int .u8 0, .int .u8 0, .int .u8 0]) :: (R, [.slice p5 ((lR bt).length) c5]) :: (B1, [.int .i64 0, .int .i64 0, .int .i64 0, .slice none 0 0, .slice none 0 0, .int .u8 0, .int .u8 0, .int .u8 0, .int .u8 0, .int .u8 0, .int .u8 0, .int .u8 0, .int .u8 0]) :: l) w6 := M
  first | show Exit.then _ _ _ _ _ | show Exit.inBlock _ _ _ _ _
  have hfp : fp 5 bt = .ok (⟨5, lN bt, 0, [], [], z8⟩, lR bt) := fp_plain (by decide) (by decide) (by decide) h5
  have A_f : FA (B3 :: B1 :: R :: X) w6 ⟨5, lN bt, 0, [], [], z8⟩ none 0 none 0 := fa_nil _ _ _ _ _ (by unfold i64; decide) (i64_lN hbt h5) z8_w rfl
  go_upto_region 20 with fail
  refine wp_region_list ?_
  refine readL (.agg #[.int .i64 5, .int .i64 (lN bt), .int .i64 0, .slice none 0 0, .slice none 0 0, .int .u8 0, .int .u8 0, .int .u8 0, .int .u8 0, .int .u8 0, .int .u8 0, .int .u8 0, .int .u8 0]) rfl (loadN 26 _ ⟨B3, 0, none⟩ [.int .i64 5, .int .i64 (lN bt), .int .i64 0, .slice none 0 0, .slice none 0 0, .int .u8 0, .int .u8 0, .int .u8 0, .int .u8 0, .int .u8 0, .int .u8 0, .int .u8 0, .int .u8 0] rfl rfl (fun _ => by kernel_rfl) (fun _ => by kernel_rfl) (M.rangeAt List.mem_cons_self)) ?_
  simp only [aP, lI, l0, lS]
  have hC : Calls Try.prog 10 #[.agg #[.int .i64 5, .int .i64 (lN bt), .int .i64 0, .slice none 0 0, .slice none 0 0, .int .u8 0, .int .u8 0, .int .u8 0, .int .u8 0, .int .u8 0, .int .u8 0, .int .u8 0, .int .u8 0]] w6 (fun e w' => e = .returned (.int .i64 (fchk ⟨5, lN bt, 0, [], [], z8⟩)) ∧ Below w6.heap.size w6 w') := vcheck_any ⟨5, lN bt, 0, [], [], z8⟩ none 0 none 0 _ A_f.fv
  refine callL rfl (fun _ => by kernel_rfl) (hC) ?_
  rintro e w7 ⟨rfl, l⟩
  replace M := M.call l
  refine ⟨_, rfl, ?_⟩
  replace OF := OF.below l
  replace OH := OH.below l
  replace A_5 := A_5.off (Off.of_below l)
  replace A_f := A_f.off (Off.of_below l)
  clear l hC
  simp only [aP, lI, l0, lS]
  cases hok : fok ⟨5, lN bt, 0, [], [], z8⟩ with
  | false =>
    have e1 := fchk_bad hok
    refine callPL rfl (fun _ => by kernel_rfl) (stop_bad (fchk ⟨5, lN bt, 0, [], [], z8⟩) (by rw [e1]; decide) _) ?_
    rintro e w8 ⟨rfl, hw⟩
    subst hw
    right
    refine ⟨_, rfl, ?_⟩
    rw [e1]
    replace M := M.swap
    exact ⟨rfl, .inr ⟨100, fun m => dc_bad (by decide) hfp hok, rfl, _, M.drop2.drop2⟩⟩
  | true =>
    have e1 := fchk_ok hok
    rw [e1]
    clear e1
    refine callL rfl (fun _ => by kernel_rfl) (stop_ok _) ?_
    rintro e w8 ⟨rfl, hw⟩
    subst hw
    refine ⟨_, rfl, ?_⟩
    simp only [aP, lI, l0, lS]
    first | show Exit.then _ _ _ _ _ | show Exit.inBlock _ _ _ _ _
    go_upto_region 21 with fail
    refine wp_region_list ?_
    refine readL (.agg #[.int .i64 5, .int .i64 (lN bt), .int .i64 0, .slice none 0 0, .slice none 0 0, .int .u8 0, .int .u8 0, .int .u8 0, .int .u8 0, .int .u8 0, .int .u8 0, .int .u8 0, .int .u8 0]) rfl (loadN 26 _ ⟨B3, 0, none⟩ [.int .i64 5, .int .i64 (lN bt), .int .i64 0, .slice none 0 0, .slice none 0 0, .int .u8 0, .int .u8 0, .int .u8 0, .int .u8 0, .int .u8 0, .int .u8 0, .int .u8 0, .int .u8 0] rfl rfl (fun _ => by kernel_rfl) (fun _ => by kernel_rfl) (M.rangeAt List.mem_cons_self)) ?_
    simp only [aP, lI, l0, lS]
    replace M := M.rot3
    refine skipOpL rfl (storeP [.int .i64 5, .int .i64 (lN bt), .int .i64 0, .slice none 0 0, .slice none 0 0, .int .u8 0, .int .u8 0, .int .u8 0, .int .u8 0, .int .u8 0, .int .u8 0, .int .u8 0, .int .u8 0] B1 0 26 _ _ rfl rfl rfl (M.thereP List.mem_cons_self 0 13 (Nat.le_of_ble_eq_true rfl)) (by kernel_rfl) (List.all_eq_true.1 (rfl : ([.int .i64 5, .int .i64 (lN bt), .int .i64 0, .slice none 0 0, .slice none 0 0, .int .u8 0, .int .u8 0, .int .u8 0, .int .u8 0, .int .u8 0, .int .u8 0, .int .u8 0, .int .u8 0] : List Value).all (fun u => u.oneCell') = true))) ?_
    simp only [Act.put]
    replace M := M.setPart [.int .i64 5, .int .i64 (lN bt), .int .i64 0, .slice none 0 0, .slice none 0 0, .int .u8 0, .int .u8 0, .int .u8 0, .int .u8 0, .int .u8 0, .int .u8 0, .int .u8 0, .int .u8 0] 0 (Nat.le_of_ble_eq_true rfl)
    replace OF := OF.and1 ((Off.refl [B1] _).setAll (b := B1) List.mem_cons_self 0 [.int .i64 5, .int .i64 (lN bt), .int .i64 0, .slice none 0 0, .slice none 0 0, .int .u8 0, .int .u8 0, .int .u8 0, .int .u8 0, .int .u8 0, .int .u8 0, .int .u8 0, .int .u8 0]) (.inr (by omega))
    replace OH := OH.and1 ((Off.refl [B1] _).setAll (b := B1) List.mem_cons_self 0 [.int .i64 5, .int .i64 (lN bt), .int .i64 0, .slice none 0 0, .slice none 0 0, .int .u8 0, .int .u8 0, .int .u8 0, .int .u8 0, .int .u8 0, .int .u8 0, .int .u8 0, .int .u8 0]) (.inl (by simp))
    replace A_5 := A_5.off (((Off.refl [B1] _).setAll (b := B1) List.mem_cons_self 0 [.int .i64 5, .int .i64 (lN bt), .int .i64 0, .slice none 0 0, .slice none 0 0, .int .u8 0, .int .u8 0, .int .u8 0, .int .u8 0, .int .u8 0, .int .u8 0, .int .u8 0, .int .u8 0]).mono (fun x hx => by obtain rfl := List.mem_singleton.1 hx; simp))
    replace A_f := A_f.off (((Off.refl [B1] _).setAll (b := B1) List.mem_cons_self 0 [.int .i64 5, .int .i64 (lN bt), .int .i64 0, .slice none 0 0, .slice none 0 0, .int .u8 0, .int .u8 0, .int .u8 0, .int .u8 0, .int .u8 0, .int .u8 0, .int .u8 0, .int .u8 0]).mono (fun x hx => by obtain rfl := List.mem_singleton.1 hx; simp))
    generalize w8.setCells B1 0 [.int .i64 5, .int .i64 (lN bt), .int .i64 0, .slice none 0 0, .slice none 0 0, .int .u8 0, .int .u8 0, .int .u8 0, .int .u8 0, .int .u8 0, .int .u8 0, .int .u8 0, .int .u8 0] = w9 at M OF OH A_5 A_f ⊢
    replace M : Mm w0 ((B1, [.int .i64 5, .int .i64 (lN bt), .int .i64 0, .slice none 0 0, .slice none 0 0, .int .u8 0, .int .u8 0, .int .u8 0, .int .u8 0, .int .u8 0, .int .u8 0, .int .u8 0, .int .u8 0]) :: (B3, [.int .i64 5, .int .i64 (lN bt), .int .i64 0, .slice none 0 0, .slice none 0 0, .int .u8 0, .int .u8 0, .int .u8 0, .int .u8 0, .int .u8 0, .int .u8 0, .int .u8 0, .int .u8 0]) :: (R, [.slice p5 ((lR bt).length) c5]) :: l) w9 := M
    first | show Exit.then _ _ _ _ _ | show Exit.inBlock _ _ _ _ _
    replace M := M.rot3
    have HS := show Hid _ from (And.intro M (And.intro OF (And.intro A_5 A_f)))
    have c1 := M.part (List.mem_cons_of_mem _ List.mem_cons_self) 0 (fcs ⟨5, lN bt, 0, [], [], z8⟩ none 0 none 0) rfl
    clear M OF A_5 A_f
    go_wp2
    refine bodyPost_ret (v := .agg (fcs ⟨5, lN bt, 0, [], [], z8⟩ none 0 none 0).toArray) (retCell 2 26 ⟨B1, 0, none⟩ (fcs ⟨5, lN bt, 0, [], [], z8⟩ none 0 none 0) rfl rfl (fun _ => by kernel_rfl) (fun _ => by kernel_rfl) c1) rfl ?_
    exact .inl ⟨⟨5, lN bt, 0, [], [], z8⟩, lR bt, _, _, none, 0, none, 0, by decide, hfp, hok, by omega, hb5, rfl, HS.out.1.drop2.drop2, HS.out.2.1, hc5, hn5, HS.out.2.2.1.less (fun y hy => by rcases List.mem_cons.1 hy with rfl | hy; simp; simp [hy]), HS.out.2.2.2.less (fun y hy => by rcases List.mem_cons.1 hy with rfl | hy; simp; simp [hy])⟩

set_option maxRecDepth 10000 in
set_option maxHeartbeats 32000000 in
theorem fframe6 (X : List Nat) (w0 w : World) (R : Nat) (l : List (Nat × List Value)) (ad : Addr) (c : Nat) (bt : List Int) (hX : ∀ y ∈ X, y < w.heap.size) (hlen : bt.length ≤ 255) (hc : bt.length + 1 ≤ c) (hbt : Byts bt) (M : Mm w0 ((R, [.slice (some ad) (bt.length + 1) c]) :: l) w) (A_0 : SrcA (R :: X) w (some ad) (bt.length + 1) (bl (6 :: bt))) :
    Calls Try.prog 36 #[.pointer (some ⟨R, 0, none⟩)] w fun e w' => FrQ X w0 R l 6 bt w e w' := by
  have hx : 0 ≤ (6 : Int) ∧ (6 : Int) < 256 := ⟨by decide, by decide⟩
  have OF := Off.refl [R] w
  have hRw := M.lt List.mem_cons_self
  go_enter Try.func36, Try.ntmps36
  go_upto_region 0 with fail
  refine wp_region_list ?_
  refine actL (w' := w.alloc (.cells #[.int .i64 0, .int .i64 0, .int .i64 0, .slice none 0 0, .slice none 0 0, .int .u8 0, .int .u8 0, .int .u8 0, .int .u8 0, .int .u8 0, .int .u8 0, .int .u8 0, .int .u8 0] 26)) (.pointer (some ⟨w.heap.size, 0, none⟩)) rfl (by kernel_rfl) ?_
  simp only [aP, lI, l0, lS]
  have hlb := (Below.refl w.heap.size w).alloc (Nat.le_refl _) (.cells #[.int .i64 0, .int .i64 0, .int .i64 0, .slice none 0 0, .slice none 0 0, .int .u8 0, .int .u8 0, .int .u8 0, .int .u8 0, .int .u8 0, .int .u8 0, .int .u8 0, .int .u8 0] 26)
  replace OF := OF.below hlb
  replace A_0 := (A_0.more w.heap.size (Nat.le_refl _)).off (Off.of_below hlb)
  clear hlb
  have hB_B1 : w0.heap.size ≤ w.heap.size := M.below.size
  replace M := M.box #[.int .i64 0, .int .i64 0, .int .i64 0, .slice none 0 0, .slice none 0 0, .int .u8 0, .int .u8 0, .int .u8 0, .int .u8 0, .int .u8 0, .int .u8 0, .int .u8 0, .int .u8 0] 26 w.heap.size rfl
  generalize w.alloc (.cells #[.int .i64 0, .int .i64 0, .int .i64 0, .slice none 0 0, .slice none 0 0, .int .u8 0, .int .u8 0, .int .u8 0, .int .u8 0, .int .u8 0, .int .u8 0, .int .u8 0, .int .u8 0] 26) = w1 at M OF A_0 ⊢
  generalize eB : w.heap.size = B1 at M hB_B1 A_0 ⊢
  have hE_B1 : w.heap.size ≤ B1 := Nat.le_of_eq eB
  have hF_B1 : B1 ≤ w.heap.size := Nat.le_of_eq eB.symm
  clear eB
  replace M : Mm w0 ((B1, [.int .i64 0, .int .i64 0, .int .i64 0, .slice none 0 0, .slice none 0 0, .int .u8 0, .int .u8 0, .int .u8 0, .int .u8 0, .int .u8 0, .int .u8 0, .int .u8 0, .int .u8 0]) :: (R, [.slice (some ad) (bt.length + 1) c]) :: l) w1 := M
  first | show Exit.then _ _ _ _ _ | show Exit.inBlock _ _ _ _ _
  have hB1s := M.lt List.mem_cons_self
  go_upto_region 1 with fail
  refine wp_region_list ?_
  refine readL (.pointer (some ⟨R, 0, none⟩)) rfl (by kernel_rfl) ?_
  simp only [aP, lI, l0, lS]
  replace M := M.swap
  refine callL rfl (fun _ => by kernel_rfl) (fkind_any w0 _ R _ ad c 6 bt hc hx M (A_0.1.at 0 (by omega))) ?_
  rintro e w2 ⟨rfl, cq, M', o1, hcs, hcn⟩
  clear M
  have M := M'
  clear M'
  replace OF := OF.trans o1
  replace A_0 := A_0.off (o1.mono (fun y hy => by obtain rfl := List.mem_singleton.1 hy; simp))
  replace A_0 : SrcA (B1 :: R :: X) w2 cq bt.length (bl bt) := ⟨(hcs _ _ _ A_0).1.congr fun j _ => bl_tail 6 bt j, (hcs _ _ _ A_0).2⟩
  have hz1 := o1.size
  clear o1 hcs
  refine ⟨_, rfl, ?_⟩
  simp only [aP, lI, l0, lS]
  refine readL (.agg #[.int .i64 6, .int .i64 0, .int .i64 0, .slice none 0 0, .slice none 0 0, .int .u8 0, .int .u8 0, .int .u8 0, .int .u8 0, .int .u8 0, .int .u8 0, .int .u8 0, .int .u8 0]) rfl (by kernel_rfl) ?_
  simp only [aP, lI, l0, lS]
  refine actL (w' := w2.alloc (.cells #[.int .i64 0, .int .i64 0, .int .i64 0, .slice none 0 0, .slice none 0 0, .int .u8 0, .int .u8 0, .int .u8 0, .int .u8 0, .int .u8 0, .int .u8 0, .int .u8 0, .int .u8 0] 26)) (.pointer (some ⟨w2.heap.size, 0, none⟩)) rfl (by kernel_rfl) ?_
  simp only [aP, lI, l0, lS]
  have hlb := (Below.refl w2.heap.size w2).alloc (Nat.le_refl _) (.cells #[.int .i64 0, .int .i64 0, .int .i64 0, .slice none 0 0, .slice none 0 0, .int .u8 0, .int .u8 0, .int .u8 0, .int .u8 0, .int .u8 0, .int .u8 0, .int .u8 0, .int .u8 0] 26)
  replace OF := OF.below hlb
  replace A_0 := (A_0.more w2.heap.size (Nat.le_refl _)).off (Off.of_below hlb)
  clear hlb
  have hB_B3 : w0.heap.size ≤ w2.heap.size := M.below.size
  replace M := M.box #[.int .i64 0, .int .i64 0, .int .i64 0, .slice none 0 0, .slice none 0 0, .int .u8 0, .int .u8 0, .int .u8 0, .int .u8 0, .int .u8 0, .int .u8 0, .int .u8 0, .int .u8 0] 26 w2.heap.size rfl
  generalize w2.alloc (.cells #[.int .i64 0, .int .i64 0, .int .i64 0, .slice none 0 0, .slice none 0 0, .int .u8 0, .int .u8 0, .int .u8 0, .int .u8 0, .int .u8 0, .int .u8 0, .int .u8 0, .int .u8 0] 26) = w3 at M OF A_0 ⊢
  generalize eB : w2.heap.size = B3 at M hB_B3 A_0 ⊢
  have hE_B3 : w2.heap.size ≤ B3 := Nat.le_of_eq eB
  have hF_B3 : B3 ≤ w2.heap.size := Nat.le_of_eq eB.symm
  clear eB
  replace M : Mm w0 ((B3, [.int .i64 0, .int .i64 0, .int .i64 0, .slice none 0 0, .slice none 0 0, .int .u8 0, .int .u8 0, .int .u8 0, .int .u8 0, .int .u8 0, .int .u8 0, .int .u8 0, .int .u8 0]) :: (R, [.slice cq bt.length (c - 1)]) :: (B1, [.int .i64 0, .int .i64 0, .int .i64 0, .slice none 0 0, .slice none 0 0, .int .u8 0, .int .u8 0, .int .u8 0, .int .u8 0, .int .u8 0, .int .u8 0, .int .u8 0, .int .u8 0]) :: l) w3 := M
  refine skipOpL rfl (storeP [.int .i64 6, .int .i64 0, .int .i64 0, .slice none 0 0, .slice none 0 0, .int .u8 0, .int .u8 0, .int .u8 0, .int .u8 0, .int .u8 0, .int .u8 0, .int .u8 0, .int .u8 0] B3 0 26 _ _ rfl rfl rfl (M.thereP List.mem_cons_self 0 13 (Nat.le_of_ble_eq_true rfl)) (by kernel_rfl) (List.all_eq_true.1 (rfl : ([.int .i64 6, .int .i64 0, .int .i64 0, .slice none 0 0, .slice none 0 0, .int .u8 0, .int .u8 0, .int .u8 0, .int .u8 0, .int .u8 0, .int .u8 0, .int .u8 0, .int .u8 0] : List Value).all (fun u => u.oneCell') = true))) ?_
  simp only [Act.put]
  replace M := M.setPart [.int .i64 6, .int .i64 0, .int .i64 0, .slice none 0 0, .slice none 0 0, .int .u8 0, .int .u8 0, .int .u8 0, .int .u8 0, .int .u8 0, .int .u8 0, .int .u8 0, .int .u8 0] 0 (Nat.le_of_ble_eq_true rfl)
  replace OF := OF.and1 ((Off.refl [B3] _).setAll (b := B3) List.mem_cons_self 0 [.int .i64 6, .int .i64 0, .int .i64 0, .slice none 0 0, .slice none 0 0, .int .u8 0, .int .u8 0, .int .u8 0, .int .u8 0, .int .u8 0, .int .u8 0, .int .u8 0, .int .u8 0]) (.inr (by omega))
  replace A_0 := A_0.off (((Off.refl [B3] _).setAll (b := B3) List.mem_cons_self 0 [.int .i64 6, .int .i64 0, .int .i64 0, .slice none 0 0, .slice none 0 0, .int .u8 0, .int .u8 0, .int .u8 0, .int .u8 0, .int .u8 0, .int .u8 0, .int .u8 0, .int .u8 0]).mono (fun x hx => by obtain rfl := List.mem_singleton.1 hx; simp))
  generalize w3.setCells B3 0 [.int .i64 6, .int .i64 0, .int .i64 0, .slice none 0 0, .slice none 0 0, .int .u8 0, .int .u8 0, .int .u8 0, .int .u8 0, .int .u8 0, .int .u8 0, .int .u8 0, .int .u8 0] = w4 at M OF A_0 ⊢
  replace M : Mm w0 ((B3, [.int .i64 6, .int .i64 0, .int .i64 0, .slice none 0 0, .slice none 0 0, .int .u8 0, .int .u8 0, .int .u8 0, .int .u8 0, .int .u8 0, .int .u8 0, .int .u8 0, .int .u8 0]) :: (R, [.slice cq bt.length (c - 1)]) :: (B1, [.int .i64 0, .int .i64 0, .int .i64 0, .slice none 0 0, .slice none 0 0, .int .u8 0, .int .u8 0, .int .u8 0, .int .u8 0, .int .u8 0, .int .u8 0, .int .u8 0, .int .u8 0]) :: l) w4 := M
  first | show Exit.then _ _ _ _ _ | show Exit.inBlock _ _ _ _ _
  have hFs := M.lt List.mem_cons_self
  have hlowX : ∀ y ∈ B3 :: B1 :: R :: X, y < w4.heap.size := fun y hy => by
    rcases List.mem_cons.1 hy with rfl | hy
    · exact hFs
    · rcases List.mem_cons.1 hy with rfl | hy
      · omega
      · rcases List.mem_cons.1 hy with rfl | hy
        · omega
        · have h1 := hX y hy; omega
  have OH := Off.refl [R, B3, B1] w4
  go_upto_region 2 with fail
  refine wp_region_list ?_
  refine readL (.pointer (some ⟨B3, 0, none⟩)) rfl (by kernel_rfl) ?_
  simp only [aP, lI, l0, lS]
  refine readL (.int .i64 6) rfl (load1 3 _ ⟨B3, 0, none⟩ _ rfl rfl (fun _ => by kernel_rfl) (M.get List.mem_cons_self 0 _ rfl)) ?_
  simp only [aP, lI, l0, lS]
  first | show Exit.then _ _ _ _ _ | show Exit.inBlock _ _ _ _ _
  go_upto_region 3 with fail
  refine wp_region_list ?_
  refine readL (.bool false) rfl (eqlI .i64 _ _ _ _ _ _ rfl rfl rfl false (by decide) _) ?_
  simp only [aP, lI, l0, lS]
  refine readL (.bool false) rfl (by kernel_rfl) ?_
  simp only [aP, lI, l0, lS]
  first | show Exit.then _ _ _ _ _ | show Exit.inBlock _ _ _ _ _
  go_upto_region 6 with fail
  refine wp_region_list ?_
  refine readL (.bool false) rfl (eqlI .i64 _ _ _ _ _ _ rfl rfl rfl false (by decide) _) ?_
  simp only [aP, lI, l0, lS]
  refine readL (.bool false) rfl (by kernel_rfl) ?_
  simp only [aP, lI, l0, lS]
  first | show Exit.then _ _ _ _ _ | show Exit.inBlock _ _ _ _ _
  go_upto_region 10 with fail
  refine wp_region_list ?_
  refine readL (.bool false) rfl (eqlI .i64 _ _ _ _ _ _ rfl rfl rfl false (by decide) _) ?_
  simp only [aP, lI, l0, lS]
  refine readL (.bool false) rfl (by kernel_rfl) ?_
  simp only [aP, lI, l0, lS]
  first | show Exit.then _ _ _ _ _ | show Exit.inBlock _ _ _ _ _
  go_upto_region 11 with fail
  refine wp_region_list ?_
  refine readL (.bool false) rfl (eqlI .i64 _ _ _ _ _ _ rfl rfl rfl false (by decide) _) ?_
  simp only [aP, lI, l0, lS]
  refine readL (.bool false) rfl (by kernel_rfl) ?_
  simp only [aP, lI, l0, lS]
  first | show Exit.then _ _ _ _ _ | show Exit.inBlock _ _ _ _ _
  go_upto_region 13 with fail
  refine wp_region_list ?_
  refine readL (.bool false) rfl (eqlI .i64 _ _ _ _ _ _ rfl rfl rfl false (by decide) _) ?_
  simp only [aP, lI, l0, lS]
  refine readL (.bool false) rfl (by kernel_rfl) ?_
  simp only [aP, lI, l0, lS]
  first | show Exit.then _ _ _ _ _ | show Exit.inBlock _ _ _ _ _
  go_upto_region 14 with fail
  refine wp_region_list ?_
  refine readL (.bool true) rfl (eqlI .i64 _ _ _ _ _ _ rfl rfl rfl true (by decide) _) ?_
  simp only [aP, lI, l0, lS]
  refine readL (.bool true) rfl (by kernel_rfl) ?_
  simp only [aP, lI, l0, lS]
  first | show Exit.then _ _ _ _ _ | show Exit.inBlock _ _ _ _ _
  go_upto_region 15 with fail
  refine wp_region_list ?_
  refine readL (.pointer (some ⟨R, 0, none⟩)) rfl (by kernel_rfl) ?_
  simp only [aP, lI, l0, lS]
  replace M := M.swap
  have hOH5 := OH.size
  refine callPL rfl (fun _ => by kernel_rfl) (fnumber_any w0 _ R _ _ _ bt (by omega) (by omega) hcn hbt M A_0.1) ?_
  rintro e w5 (⟨h5, rfl, p5, c5, M', o5, O_5⟩ | ⟨h5, rfl, s5, M'⟩)
  rotate_left
  · right
    refine ⟨_, rfl, ?_⟩
    exact ⟨rfl, .inr ⟨_, fun m => dc_err (by decide) (fp_err (by decide) h5), rfl, _, M'.drop2.drop2⟩⟩
  left
  clear M
  have M := M'
  clear M'
  have hl5 := lR_le bt
  have hb5 := lR_byts hbt
  have ho5 := o5.size
  clear A_0
  replace OF := OF.trans o5
  replace OH := OH.trans (o5.mono (fun y hy => by obtain rfl := List.mem_singleton.1 hy; simp))
  clear o5
  have A_5 : SrcA (B3 :: B1 :: R :: X) w5 p5 (lR bt).length (bl (lR bt)) := SrcA.of_own O_5 (fun y hy => by have h1 := hlowX y hy; omega)
  have hc5 := O_5.le
  have hn5 := O_5.nilCap
  clear O_5
  refine ⟨_, rfl, ?_⟩
  simp only [aP, lI, l0, lS]
  refine readL (.pointer (some ⟨B3, 1, none⟩)) rfl (by kernel_rfl) ?_
  simp only [aP, lI, l0, lS]
  replace M := M.swap
  refine skipOpL rfl (storeAny (.int .i64 (lN bt)) B3 1 3 _ _ rfl rfl rfl rfl rfl (M.isSome List.mem_cons_self 1 (by simp)) (M.free List.mem_cons_self 1 (by simp)) (by kernel_rfl)) ?_
  simp only [Act.put]
  replace M := M.set 1 (by simp) (.int .i64 (lN bt))
  replace OF := OF.and1 ((Off.refl [B3] _).set (b := B3) List.mem_cons_self 1 (.int .i64 (lN bt))) (.inr (by omega))
  replace OH := OH.and1 ((Off.refl [B3] _).set (b := B3) List.mem_cons_self 1 (.int .i64 (lN bt))) (.inl (by simp))
  replace A_5 := A_5.off (((Off.refl [B3] _).set (b := B3) List.mem_cons_self 1 (.int .i64 (lN bt))).mono (fun x hx => by obtain rfl := List.mem_singleton.1 hx; simp))
  generalize w5.setCell ⟨B3, 1, none⟩ (.int .i64 (lN bt)) = w6 at M OF OH A_5 ⊢
  replace M : Mm w0 ((B3, [.int .i64 6, .int .i64 (lN bt), .int .i64 0, .slice none 0 0, .slice none 0 0, .int .u8 0, .int .u8 0, .int .u8 0, .int .u8 0, .int .u8 0, .int .u8 0, .int .u8 0, .int .u8 0]) :: (R, [.slice p5 ((lR bt).length) c5]) :: (B1, [.int .i64 0, .int .i64 0, .int .i64 0, .slice none 0 0, .slice none 0 0, .int .u8 0, .int .u8 0, .int .u8 0, .int .u8 0, .int .u8 0, .int .u8 0, .int .u8 0, .int .u8 0]) :: l) w6 := M
  first | show Exit.then _ _ _ _ _ | show Exit.inBlock _ _ _ _ _
  have hfp : fp 6 bt = .ok (⟨6, lN bt, 0, [], [], z8⟩, lR bt) := fp_plain (by decide) (by decide) (by decide) h5
  have A_f : FA (B3 :: B1 :: R :: X) w6 ⟨6, lN bt, 0, [], [], z8⟩ none 0 none 0 := fa_nil _ _ _ _ _ (by unfold i64; decide) (i64_lN hbt h5) z8_w rfl
  go_upto_region 20 with fail
  refine wp_region_list ?_
  refine readL (.agg #[.int .i64 6, .int .i64 (lN bt), .int .i64 0, .slice none 0 0, .slice none 0 0, .int .u8 0, .int .u8 0, .int .u8 0, .int .u8 0, .int .u8 0, .int .u8 0, .int .u8 0, .int .u8 0]) rfl (loadN 26 _ ⟨B3, 0, none⟩ [.int .i64 6, .int .i64 (lN bt), .int .i64 0, .slice none 0 0, .slice none 0 0, .int .u8 0, .int .u8 0, .int .u8 0, .int .u8 0, .int .u8 0, .int .u8 0, .int .u8 0, .int .u8 0] rfl rfl (fun _ => by kernel_rfl) (fun _ => by kernel_rfl) (M.rangeAt List.mem_cons_self)) ?_
  simp only [aP, lI, l0, lS]
  have hC : Calls Try.prog 10 #[.agg #[.int .i64 6, .int .i64 (lN bt), .int .i64 0, .slice none 0 0, .slice none 0 0, .int .u8 0, .int .u8 0, .int .u8 0, .int .u8 0, .int .u8 0, .int .u8 0, .int .u8 0, .int .u8 0]] w6 (fun e w' => e = .returned (.int .i64 (fchk ⟨6, lN bt, 0, [], [], z8⟩)) ∧ Below w6.heap.size w6 w') := vcheck_any ⟨6, lN bt, 0, [], [], z8⟩ none 0 none 0 _ A_f.fv
  refine callL rfl (fun _ => by kernel_rfl) (hC) ?_
  rintro e w7 ⟨rfl, l⟩
  replace M := M.call l
  refine ⟨_, rfl, ?_⟩
  replace OF := OF.below l
  replace OH := OH.below l
  replace A_5 := A_5.off (Off.of_below l)
  replace A_f := A_f.off (Off.of_below l)
  clear l hC
  simp only [aP, lI, l0, lS]
  cases hok : fok ⟨6, lN bt, 0, [], [], z8⟩ with
  | false =>
    have e1 := fchk_bad hok
    refine callPL rfl (fun _ => by kernel_rfl) (stop_bad (fchk ⟨6, lN bt, 0, [], [], z8⟩) (by rw [e1]; decide) _) ?_
    rintro e w8 ⟨rfl, hw⟩
    subst hw
    right
    refine ⟨_, rfl, ?_⟩
    rw [e1]
    replace M := M.swap
    exact ⟨rfl, .inr ⟨100, fun m => dc_bad (by decide) hfp hok, rfl, _, M.drop2.drop2⟩⟩
  | true =>
    have e1 := fchk_ok hok
    rw [e1]
    clear e1
    refine callL rfl (fun _ => by kernel_rfl) (stop_ok _) ?_
    rintro e w8 ⟨rfl, hw⟩
    subst hw
    refine ⟨_, rfl, ?_⟩
    simp only [aP, lI, l0, lS]
    first | show Exit.then _ _ _ _ _ | show Exit.inBlock _ _ _ _ _
    go_upto_region 21 with fail
    refine wp_region_list ?_
    refine readL (.agg #[.int .i64 6, .int .i64 (lN bt), .int .i64 0, .slice none 0 0, .slice none 0 0, .int .u8 0, .int .u8 0, .int .u8 0, .int .u8 0, .int .u8 0, .int .u8 0, .int .u8 0, .int .u8 0]) rfl (loadN 26 _ ⟨B3, 0, none⟩ [.int .i64 6, .int .i64 (lN bt), .int .i64 0, .slice none 0 0, .slice none 0 0, .int .u8 0, .int .u8 0, .int .u8 0, .int .u8 0, .int .u8 0, .int .u8 0, .int .u8 0, .int .u8 0] rfl rfl (fun _ => by kernel_rfl) (fun _ => by kernel_rfl) (M.rangeAt List.mem_cons_self)) ?_
    simp only [aP, lI, l0, lS]
    replace M := M.rot3
    refine skipOpL rfl (storeP [.int .i64 6, .int .i64 (lN bt), .int .i64 0, .slice none 0 0, .slice none 0 0, .int .u8 0, .int .u8 0, .int .u8 0, .int .u8 0, .int .u8 0, .int .u8 0, .int .u8 0, .int .u8 0] B1 0 26 _ _ rfl rfl rfl (M.thereP List.mem_cons_self 0 13 (Nat.le_of_ble_eq_true rfl)) (by kernel_rfl) (List.all_eq_true.1 (rfl : ([.int .i64 6, .int .i64 (lN bt), .int .i64 0, .slice none 0 0, .slice none 0 0, .int .u8 0, .int .u8 0, .int .u8 0, .int .u8 0, .int .u8 0, .int .u8 0, .int .u8 0, .int .u8 0] : List Value).all (fun u => u.oneCell') = true))) ?_
    simp only [Act.put]
    replace M := M.setPart [.int .i64 6, .int .i64 (lN bt), .int .i64 0, .slice none 0 0, .slice none 0 0, .int .u8 0, .int .u8 0, .int .u8 0, .int .u8 0, .int .u8 0, .int .u8 0, .int .u8 0, .int .u8 0] 0 (Nat.le_of_ble_eq_true rfl)
    replace OF := OF.and1 ((Off.refl [B1] _).setAll (b := B1) List.mem_cons_self 0 [.int .i64 6, .int .i64 (lN bt), .int .i64 0, .slice none 0 0, .slice none 0 0, .int .u8 0, .int .u8 0, .int .u8 0, .int .u8 0, .int .u8 0, .int .u8 0, .int .u8 0, .int .u8 0]) (.inr (by omega))
    replace OH := OH.and1 ((Off.refl [B1] _).setAll (b := B1) List.mem_cons_self 0 [.int .i64 6, .int .i64 (lN bt), .int .i64 0, .slice none 0 0, .slice none 0 0, .int .u8 0, .int .u8 0, .int .u8 0, .int .u8 0, .int .u8 0, .int .u8 0, .int .u8 0, .int .u8 0]) (.inl (by simp))
    replace A_5 := A_5.off (((Off.refl [B1] _).setAll (b := B1) List.mem_cons_self 0 [.int .i64 6, .int .i64 (lN bt), .int .i64 0, .slice none 0 0, .slice none 0 0, .int .u8 0, .int .u8 0, .int .u8 0, .int .u8 0, .int .u8 0, .int .u8 0, .int .u8 0, .int .u8 0]).mono (fun x hx => by obtain rfl := List.mem_singleton.1 hx; simp))
    replace A_f := A_f.off (((Off.refl [B1] _).setAll (b := B1) List.mem_cons_self 0 [.int .i64 6, .int .i64 (lN bt), .int .i64 0, .slice none 0 0, .slice none 0 0, .int .u8 0, .int .u8 0, .int .u8 0, .int .u8 0, .int .u8 0, .int .u8 0, .int .u8 0, .int .u8 0]).mono (fun x hx => by obtain rfl := List.mem_singleton.1 hx; simp))
    generalize w8.setCells B1 0 [.int .i64 6, .int .i64 (lN bt), .int .i64 0, .slice none 0 0, .slice none 0 0, .int .u8 0, .int .u8 0, .int .u8 0, .int .u8 0, .int .u8 0, .int .u8 0, .int .u8 0, .int .u8 0] = w9 at M OF OH A_5 A_f ⊢
    replace M : Mm w0 ((B1, [.int .i64 6, .int .i64 (lN bt), .int .i64 0, .slice none 0 0, .slice none 0 0, .int .u8 0, .int .u8 0, .int .u8 0, .int .u8 0, .int .u8 0, .int .u8 0, .int .u8 0, .int .u8 0]) :: (B3, [.int .i64 6, .int .i64 (lN bt), .int .i64 0, .slice none 0 0, .slice none 0 0, .int .u8 0, .int .u8 0, .int .u8 0, .int .u8 0, .int .u8 0, .int .u8 0, .int .u8 0, .int .u8 0]) :: (R, [.slice p5 ((lR bt).length) c5]) :: l) w9 := M
    first | show Exit.then _ _ _ _ _ | show Exit.inBlock _ _ _ _ _
    replace M := M.rot3
    have HS := show Hid _ from (And.intro M (And.intro OF (And.intro A_5 A_f)))
    have c1 := M.part (List.mem_cons_of_mem _ List.mem_cons_self) 0 (fcs ⟨6, lN bt, 0, [], [], z8⟩ none 0 none 0) rfl
    clear M OF A_5 A_f
    go_wp2
    refine bodyPost_ret (v := .agg (fcs ⟨6, lN bt, 0, [], [], z8⟩ none 0 none 0).toArray) (retCell 2 26 ⟨B1, 0, none⟩ (fcs ⟨6, lN bt, 0, [], [], z8⟩ none 0 none 0) rfl rfl (fun _ => by kernel_rfl) (fun _ => by kernel_rfl) c1) rfl ?_
    exact .inl ⟨⟨6, lN bt, 0, [], [], z8⟩, lR bt, _, _, none, 0, none, 0, by decide, hfp, hok, by omega, hb5, rfl, HS.out.1.drop2.drop2, HS.out.2.1, hc5, hn5, HS.out.2.2.1.less (fun y hy => by rcases List.mem_cons.1 hy with rfl | hy; simp; simp [hy]), HS.out.2.2.2.less (fun y hy => by rcases List.mem_cons.1 hy with rfl | hy; simp; simp [hy])⟩

set_option maxRecDepth 10000 in
set_option maxHeartbeats 32000000 in
theorem fframe7 (X : List Nat) (w0 w : World) (R : Nat) (l : List (Nat × List Value)) (ad : Addr) (c : Nat) (bt : List Int) (hX : ∀ y ∈ X, y < w.heap.size) (hlen : bt.length ≤ 255) (hc : bt.length + 1 ≤ c) (hbt : Byts bt) (M : Mm w0 ((R, [.slice (some ad) (bt.length + 1) c]) :: l) w) (A_0 : SrcA (R :: X) w (some ad) (bt.length + 1) (bl (7 :: bt))) :
    Calls Try.prog 36 #[.pointer (some ⟨R, 0, none⟩)] w fun e w' => FrQ X w0 R l 7 bt w e w' := by
  have hx : 0 ≤ (7 : Int) ∧ (7 : Int) < 256 := ⟨by decide, by decide⟩
  have OF := Off.refl [R] w
  have hRw := M.lt List.mem_cons_self
  go_enter Try.func36, Try.ntmps36
  go_upto_region 0 with fail
  refine wp_region_list ?_
  refine actL (w' := w.alloc (.cells #[.int .i64 0, .int .i64 0, .int .i64 0, .slice none 0 0, .slice none 0 0, .int .u8 0, .int .u8 0, .int .u8 0, .int .u8 0, .int .u8 0, .int .u8 0, .int .u8 0, .int .u8 0] 26)) (.pointer (some ⟨w.heap.size, 0, none⟩)) rfl (by kernel_rfl) ?_
  simp only [aP, lI, l0, lS]
  have hlb := (Below.refl w.heap.size w).alloc (Nat.le_refl _) (.cells #[.int .i64 0, .int .i64 0, .int .i64 0, .slice none 0 0, .slice none 0 0, .int .u8 0, .int .u8 0, .int .u8 0, .int .u8 0, .int .u8 0, .int .u8 0, .int .u8 0, .int .u8 0] 26)
  replace OF := OF.below hlb
  replace A_0 := (A_0.more w.heap.size (Nat.le_refl _)).off (Off.of_below hlb)
  clear hlb
  have hB_B1 : w0.heap.size ≤ w.heap.size := M.below.size
  replace M := M.box #[.int .i64 0, .int .i64 0, .int .i64 0, .slice none 0 0, .slice none 0 0, .int .u8 0, .int .u8 0, .int .u8 0, .int .u8 0, .int .u8 0, .int .u8 0, .int .u8 0, .int .u8 0] 26 w.heap.size rfl
  generalize w.alloc (.cells #[.int .i64 0, .int .i64 0, .int .i64 0, .slice none 0 0, .slice none 0 0, .int .u8 0, .int .u8 0, .int .u8 0, .int .u8 0, .int .u8 0, .int .u8 0, .int .u8 0, .int .u8 0] 26) = w1 at M OF A_0 ⊢
  generalize eB : w.heap.size = B1 at M hB_B1 A_0 ⊢
  have hE_B1 : w.heap.size ≤ B1 := Nat.le_of_eq eB
  have hF_B1 : B1 ≤ w.heap.size := Nat.le_of_eq eB.symm
  clear eB
  replace M : Mm w0 ((B1, [.int .i64 0, .int .i64 0, .int .i64 0, .slice none 0 0, .slice none 0 0, .int .u8 0, .int .u8 0, .int .u8 0, .int .u8 0, .int .u8 0, .int .u8 0, .int .u8 0, .int .u8 0]) :: (R, [.slice (some ad) (bt.length + 1) c]) :: l) w1 := M
  first | show Exit.then _ _ _ _ _ | show Exit.inBlock _ _ _ _ _
  have hB1s := M.lt List.mem_cons_self
  go_upto_region 1 with fail
  refine wp_region_list ?_
  refine readL (.pointer (some ⟨R, 0, none⟩)) rfl (by kernel_rfl) ?_
  simp only [aP, lI, l0, lS]
  replace M := M.swap
  refine callL rfl (fun _ => by kernel_rfl) (fkind_any w0 _ R _ ad c 7 bt hc hx M (A_0.1.at 0 (by omega))) ?_
  rintro e w2 ⟨rfl, cq, M', o1, hcs, hcn⟩
  clear M
  have M := M'
  clear M'
  replace OF := OF.trans o1
  replace A_0 := A_0.off (o1.mono (fun y hy => by obtain rfl := List.mem_singleton.1 hy; simp))
  replace A_0 : SrcA (B1 :: R :: X) w2 cq bt.length (bl bt) := ⟨(hcs _ _ _ A_0).1.congr fun j _ => bl_tail 7 bt j, (hcs _ _ _ A_0).2⟩
  have hz1 := o1.size
  clear o1 hcs
  refine ⟨_, rfl, ?_⟩
  simp only [aP, lI, l0, lS]
  refine readL (.agg #[.int .i64 7, .int .i64 0, .int .i64 0, .slice none 0 0, .slice none 0 0, .int .u8 0, .int .u8 0, .int .u8 0, .int .u8 0, .int .u8 0, .int .u8 0, .int .u8 0, .int .u8 0]) rfl (by kernel_rfl) ?_
  simp only [aP, lI, l0, lS]
  refine actL (w' := w2.alloc (.cells #[.int .i64 0, .int .i64 0, .int .i64 0, .slice none 0 0, .slice none 0 0, .int .u8 0, .int .u8 0, .int .u8 0, .int .u8 0, .int .u8 0, .int .u8 0, .int .u8 0, .int .u8 0] 26)) (.pointer (some ⟨w2.heap.size, 0, none⟩)) rfl (by kernel_rfl) ?_
  simp only [aP, lI, l0, lS]
  have hlb := (Below.refl w2.heap.size w2).alloc (Nat.le_refl _) (.cells #[.int .i64 0, .int .i64 0, .int .i64 0, .slice none 0 0, .slice none 0 0, .int .u8 0, .int .u8 0, .int .u8 0, .int .u8 0, .int .u8 0, .int .u8 0, .int .u8 0, .int .u8 0] 26)
  replace OF := OF.below hlb
  replace A_0 := (A_0.more w2.heap.size (Nat.le_refl _)).off (Off.of_below hlb)
  clear hlb
  have hB_B3 : w0.heap.size ≤ w2.heap.size := M.below.size
  replace M := M.box #[.int .i64 0, .int .i64 0, .int .i64 0, .slice none 0 0, .slice none 0 0, .int .u8 0, .int .u8 0, .int .u8 0, .int .u8 0, .int .u8 0, .int .u8 0, .int .u8 0, .int .u8 0] 26 w2.heap.size rfl
  generalize w2.alloc (.cells #[.int .i64 0, .int .i64 0, .int .i64 0, .slice none 0 0, .slice none 0 0, .int .u8 0, .int .u8 0, .int .u8 0, .int .u8 0, .int .u8 0, .int .u8 0, .int .u8 0, .int .u8 0] 26) = w3 at M OF A_0 ⊢
  generalize eB : w2.heap.size = B3 at M hB_B3 A_0 ⊢
  have hE_B3 : w2.heap.size ≤ B3 := Nat.le_of_eq eB
  have hF_B3 : B3 ≤ w2.heap.size := Nat.le_of_eq eB.symm
  clear eB
  replace M : Mm w0 ((B3, [.int .i64 0, .int .i64 0, .int .i64 0, .slice none 0 0, .slice none 0 0, .int .u8 0, .int .u8 0, .int .u8 0, .int .u8 0, .int .u8 0, .int .u8 0, .int .u8 0, .int .u8 0]) :: (R, [.slice cq bt.length (c - 1)]) :: (B1, [.int .i64 0, .int .i64 0, .int .i64 0, .slice none 0 0, .slice none 0 0, .int .u8 0, .int .u8 0, .int .u8 0, .int .u8 0, .int .u8 0, .int .u8 0, .int .u8 0, .int .u8 0]) :: l) w3 := M
  refine skipOpL rfl (storeP [.int .i64 7, .int .i64 0, .int .i64 0, .slice none 0 0, .slice none 0 0, .int .u8 0, .int .u8 0, .int .u8 0, .int .u8 0, .int .u8 0, .int .u8 0, .int .u8 0, .int .u8 0] B3 0 26 _ _ rfl rfl rfl (M.thereP List.mem_cons_self 0 13 (Nat.le_of_ble_eq_true rfl)) (by kernel_rfl) (List.all_eq_true.1 (rfl : ([.int .i64 7, .int .i64 0, .int .i64 0, .slice none 0 0, .slice none 0 0, .int .u8 0, .int .u8 0, .int .u8 0, .int .u8 0, .int .u8 0, .int .u8 0, .int .u8 0, .int .u8 0] : List Value).all (fun u => u.oneCell') = true))) ?_
  simp only [Act.put]
  replace M := M.setPart [.int .i64 7, .int .i64 0, .int .i64 0, .slice none 0 0, .slice none 0 0, .int .u8 0, .int .u8 0, .int .u8 0, .int .u8 0, .int .u8 0, .int .u8 0, .int .u8 0, .int .u8 0] 0 (Nat.le_of_ble_eq_true rfl)
  replace OF := OF.and1 ((Off.refl [B3] _).setAll (b := B3) List.mem_cons_self 0 [.int .i64 7, .int .i64 0, .int .i64 0, .slice none 0 0, .slice none 0 0, .int .u8 0, .int .u8 0, .int .u8 0, .int .u8 0, .int .u8 0, .int .u8 0, .int .u8 0, .int .u8 0]) (.inr (by omega))
  replace A_0 := A_0.off (((Off.refl [B3] _).setAll (b := B3) List.mem_cons_self 0 [.int .i64 7, .int .i64 0, .int .i64 0, .slice none 0 0, .slice none 0 0, .int .u8 0, .int .u8 0, .int .u8 0, .int .u8 0, .int .u8 0, .int .u8 0, .int .u8 0, .int .u8 0]).mono (fun x hx => by obtain rfl := List.mem_singleton.1 hx; simp))
  generalize w3.setCells B3 0 [.int .i64 7, .int .i64 0, .int .i64 0, .slice none 0 0, .slice none 0 0, .int .u8 0, .int .u8 0, .int .u8 0, .int .u8 0, .int .u8 0, .int .u8 0, .int .u8 0, .int .u8 0] = w4 at M OF A_0 ⊢
  replace M : Mm w0 ((B3, [.int .i64 7, .int .i64 0, .int .i64 0, .slice none 0 0, .slice none 0 0, .int .u8 0, .int .u8 0, .int .u8 0, .int .u8 0, .int .u8 0, .int .u8 0, .int .u8 0, .int .u8 0]) :: (R, [.slice cq bt.length (c - 1)]) :: (B1, [.int .i64 0, .int .i64 0, .int .i64 0, .slice none 0 0, .slice none 0 0, .int .u8 0, .int .u8 0, .int .u8 0, .int .u8 0, .int .u8 0, .int .u8 0, .int .u8 0, .int .u8 0]) :: l) w4 := M
  first | show Exit.then _ _ _ _ _ | show Exit.inBlock _ _ _ _ _
  have hFs := M.lt List.mem_cons_self
  have hlowX : ∀ y ∈ B3 :: B1 :: R :: X, y < w4.heap.size := fun y hy => by
    rcases List.mem_cons.1 hy with rfl | hy
    · exact hFs
    · rcases List.mem_cons.1 hy with rfl | hy
      · omega
      · rcases List.mem_cons.1 hy with rfl | hy
        · omega
        · have h1 := hX y hy; omega
  have OH := Off.refl [R, B3, B1] w4
  go_upto_region 2 with fail
  refine wp_region_list ?_
  refine readL (.pointer (some ⟨B3, 0, none⟩)) rfl (by kernel_rfl) ?_
  simp only [aP, lI, l0, lS]
  refine readL (.int .i64 7) rfl (load1 3 _ ⟨B3, 0, none⟩ _ rfl rfl (fun _ => by kernel_rfl) (M.get List.mem_cons_self 0 _ rfl)) ?_
  simp only [aP, lI, l0, lS]
  first | show Exit.then _ _ _ _ _ | show Exit.inBlock _ _ _ _ _
  go_upto_region 3 with fail
  refine wp_region_list ?_
  refine readL (.bool false) rfl (eqlI .i64 _ _ _ _ _ _ rfl rfl rfl false (by decide) _) ?_
  simp only [aP, lI, l0, lS]
  refine readL (.bool false) rfl (by kernel_rfl) ?_
  simp only [aP, lI, l0, lS]
  first | show Exit.then _ _ _ _ _ | show Exit.inBlock _ _ _ _ _
  go_upto_region 6 with fail
  refine wp_region_list ?_
  refine readL (.bool false) rfl (eqlI .i64 _ _ _ _ _ _ rfl rfl rfl false (by decide) _) ?_
  simp only [aP, lI, l0, lS]
  refine readL (.bool false) rfl (by kernel_rfl) ?_
  simp only [aP, lI, l0, lS]
  first | show Exit.then _ _ _ _ _ | show Exit.inBlock _ _ _ _ _
  go_upto_region 10 with fail
  refine wp_region_list ?_
  refine readL (.bool false) rfl (eqlI .i64 _ _ _ _ _ _ rfl rfl rfl false (by decide) _) ?_
  simp only [aP, lI, l0, lS]
  refine readL (.bool false) rfl (by kernel_rfl) ?_
  simp only [aP, lI, l0, lS]
  first | show Exit.then _ _ _ _ _ | show Exit.inBlock _ _ _ _ _
  go_upto_region 11 with fail
  refine wp_region_list ?_
  refine readL (.bool false) rfl (eqlI .i64 _ _ _ _ _ _ rfl rfl rfl false (by decide) _) ?_
  simp only [aP, lI, l0, lS]
  refine readL (.bool false) rfl (by kernel_rfl) ?_
  simp only [aP, lI, l0, lS]
  first | show Exit.then _ _ _ _ _ | show Exit.inBlock _ _ _ _ _
  go_upto_region 13 with fail
  refine wp_region_list ?_
  refine readL (.bool false) rfl (eqlI .i64 _ _ _ _ _ _ rfl rfl rfl false (by decide) _) ?_
  simp only [aP, lI, l0, lS]
  refine readL (.bool false) rfl (by kernel_rfl) ?_
  simp only [aP, lI, l0, lS]
  first | show Exit.then _ _ _ _ _ | show Exit.inBlock _ _ _ _ _
  go_upto_region 14 with fail
  refine wp_region_list ?_
  refine readL (.bool false) rfl (eqlI .i64 _ _ _ _ _ _ rfl rfl rfl false (by decide) _) ?_
  simp only [aP, lI, l0, lS]
  refine readL (.bool false) rfl (by kernel_rfl) ?_
  simp only [aP, lI, l0, lS]
  first | show Exit.then _ _ _ _ _ | show Exit.inBlock _ _ _ _ _
  go_upto_region 16 with fail
  refine wp_region_list ?_
  refine readL (.bool true) rfl (eqlI .i64 _ _ _ _ _ _ rfl rfl rfl true (by decide) _) ?_
  simp only [aP, lI, l0, lS]
  refine readL (.bool true) rfl (by kernel_rfl) ?_
  simp only [aP, lI, l0, lS]
  first | show Exit.then _ _ _ _ _ | show Exit.inBlock _ _ _ _ _
  go_upto_region 17 with fail
  refine wp_region_list ?_
  refine readL (.pointer (some ⟨R, 0, none⟩)) rfl (by kernel_rfl) ?_
  simp only [aP, lI, l0, lS]
  replace M := M.swap
  have hOH5 := OH.size
  refine callPL rfl (fun _ => by kernel_rfl) (fnumber_any w0 _ R _ _ _ bt (by omega) (by omega) hcn hbt M A_0.1) ?_
  rintro e w5 (⟨h5, rfl, p5, c5, M', o5, O_5⟩ | ⟨h5, rfl, s5, M'⟩)
  rotate_left
  · right
    refine ⟨_, rfl, ?_⟩
    exact ⟨rfl, .inr ⟨_, fun m => dc_err (by decide) (fp_err (by decide) h5), rfl, _, M'.drop2.drop2⟩⟩
  left
  clear M
  have M := M'
  clear M'
  have hl5 := lR_le bt
  have hb5 := lR_byts hbt
  have ho5 := o5.size
  clear A_0
  replace OF := OF.trans o5
  replace OH := OH.trans (o5.mono (fun y hy => by obtain rfl := List.mem_singleton.1 hy; simp))
  clear o5
  have A_5 : SrcA (B3 :: B1 :: R :: X) w5 p5 (lR bt).length (bl (lR bt)) := SrcA.of_own O_5 (fun y hy => by have h1 := hlowX y hy; omega)
  have hc5 := O_5.le
  have hn5 := O_5.nilCap
  clear O_5
  refine ⟨_, rfl, ?_⟩
  simp only [aP, lI, l0, lS]
  refine readL (.pointer (some ⟨B3, 1, none⟩)) rfl (by kernel_rfl) ?_
  simp only [aP, lI, l0, lS]
  replace M := M.swap
  refine skipOpL rfl (storeAny (.int .i64 (lN bt)) B3 1 3 _ _ rfl rfl rfl rfl rfl (M.isSome List.mem_cons_self 1 (by simp)) (M.free List.mem_cons_self 1 (by simp)) (by kernel_rfl)) ?_
  simp only [Act.put]
  replace M := M.set 1 (by simp) (.int .i64 (lN bt))
  replace OF := OF.and1 ((Off.refl [B3] _).set (b := B3) List.mem_cons_self 1 (.int .i64 (lN bt))) (.inr (by omega))
  replace OH := OH.and1 ((Off.refl [B3] _).set (b := B3) List.mem_cons_self 1 (.int .i64 (lN bt))) (.inl (by simp))
  replace A_5 := A_5.off (((Off.refl [B3] _).set (b := B3) List.mem_cons_self 1 (.int .i64 (lN bt))).mono (fun x hx => by obtain rfl := List.mem_singleton.1 hx; simp))
  generalize w5.setCell ⟨B3, 1, none⟩ (.int .i64 (lN bt)) = w6 at M OF OH A_5 ⊢
  replace M : Mm w0 ((B3, [.int .i64 7, .int .i64 (lN bt), .int .i64 0, .slice none 0 0, .slice none 0 0, .int .u8 0, .int .u8 0, .int .u8 0, .int .u8 0, .int .u8 0, .int .u8 0, .int .u8 0, .int .u8 0]) :: (R, [.slice p5 ((lR bt).length) c5]) :: (B1, [.int .i64 0, .int .i64 0, .int .i64 0, .slice none 0 0, .slice none 0 0, .int .u8 0, .int .u8 0, .int .u8 0, .int .u8 0, .int .u8 0, .int .u8 0, .int .u8 0, .int .u8 0]) :: l) w6 := M
  first | show Exit.then _ _ _ _ _ | show Exit.inBlock _ _ _ _ _
  go_upto_region 18 with fail
  refine wp_region_list ?_
  refine readL (.pointer (some ⟨R, 0, none⟩)) rfl (by kernel_rfl) ?_
  simp only [aP, lI, l0, lS]
  replace M := M.swap
  have hOH7 := OH.size
  refine callPL rfl (fun _ => by kernel_rfl) (fnumber_any w0 _ R _ _ _ (lR bt) (by omega) hc5 hn5 hb5 M A_5.1) ?_
  rintro e w7 (⟨h7, rfl, p7, c7, M', o7, O_7⟩ | ⟨h7, rfl, s7, M'⟩)
  rotate_left
  · right
    refine ⟨_, rfl, ?_⟩
    exact ⟨rfl, .inr ⟨_, fun m => dc_err (by decide) (fp_lim (by decide) (by decide) (by decide) h5 h7), rfl, _, M'.drop2.drop2⟩⟩
  left
  clear M
  have M := M'
  clear M'
  have hl7 := lR_le (lR bt)
  have hb7 := lR_byts hb5
  have ho7 := o7.size
  clear A_5
  replace OF := OF.trans o7
  replace OH := OH.trans (o7.mono (fun y hy => by obtain rfl := List.mem_singleton.1 hy; simp))
  clear o7
  have A_7 : SrcA (B3 :: B1 :: R :: X) w7 p7 (lR (lR bt)).length (bl (lR (lR bt))) := SrcA.of_own O_7 (fun y hy => by have h1 := hlowX y hy; omega)
  have hc7 := O_7.le
  have hn7 := O_7.nilCap
  clear O_7
  refine ⟨_, rfl, ?_⟩
  simp only [aP, lI, l0, lS]
  refine readL (.pointer (some ⟨B3, 2, none⟩)) rfl (by kernel_rfl) ?_
  simp only [aP, lI, l0, lS]
  replace M := M.swap
  refine skipOpL rfl (storeAny (.int .i64 (lN (lR bt))) B3 2 3 _ _ rfl rfl rfl rfl rfl (M.isSome List.mem_cons_self 2 (by simp)) (M.free List.mem_cons_self 2 (by simp)) (by kernel_rfl)) ?_
  simp only [Act.put]
  replace M := M.set 2 (by simp) (.int .i64 (lN (lR bt)))
  replace OF := OF.and1 ((Off.refl [B3] _).set (b := B3) List.mem_cons_self 2 (.int .i64 (lN (lR bt)))) (.inr (by omega))
  replace OH := OH.and1 ((Off.refl [B3] _).set (b := B3) List.mem_cons_self 2 (.int .i64 (lN (lR bt)))) (.inl (by simp))
  replace A_7 := A_7.off (((Off.refl [B3] _).set (b := B3) List.mem_cons_self 2 (.int .i64 (lN (lR bt)))).mono (fun x hx => by obtain rfl := List.mem_singleton.1 hx; simp))
  generalize w7.setCell ⟨B3, 2, none⟩ (.int .i64 (lN (lR bt))) = w8 at M OF OH A_7 ⊢
  replace M : Mm w0 ((B3, [.int .i64 7, .int .i64 (lN bt), .int .i64 (lN (lR bt)), .slice none 0 0, .slice none 0 0, .int .u8 0, .int .u8 0, .int .u8 0, .int .u8 0, .int .u8 0, .int .u8 0, .int .u8 0, .int .u8 0]) :: (R, [.slice p7 ((lR (lR bt)).length) c7]) :: (B1, [.int .i64 0, .int .i64 0, .int .i64 0, .slice none 0 0, .slice none 0 0, .int .u8 0, .int .u8 0, .int .u8 0, .int .u8 0, .int .u8 0, .int .u8 0, .int .u8 0, .int .u8 0]) :: l) w8 := M
  first | show Exit.then _ _ _ _ _ | show Exit.inBlock _ _ _ _ _
  go_upto_region 19 with fail
  refine wp_region_list ?_
  refine readL (.pointer (some ⟨R, 0, none⟩)) rfl (by kernel_rfl) ?_
  simp only [aP, lI, l0, lS]
  replace M := M.swap
  have hOH9 := OH.size
  have hpa := lN_pos hbt h5
  have hfr := fp_rgs (k := 7) (by decide) (by decide) (by decide) h5 h7
  rw [if_neg (by decide)] at hfr
  refine callPL rfl (fun _ => by kernel_rfl) (franges_any w0 _ R _ _ _ (lR (lR bt)) (by omega) hc7 hn7 hb7 0 (by omega) (by omega) M A_7.1) ?_
  rintro e w9 (⟨rs, r, vp, vc, hrg, h8, hlr, hbr, rfl, V, p9, c9, M', o9, O_9⟩ | ⟨code, hrg, rfl, s9, M'⟩)
  rotate_left
  · right
    refine ⟨_, rfl, ?_⟩
    exact ⟨rfl, .inr ⟨_, fun m => dc_err (by decide) (by rw [hfr, hrg]), rfl, _, M'.drop2.drop2⟩⟩
  left
  clear M
  have M := M'
  clear M'
  have ho9 := o9.size
  clear A_7
  replace OF := OF.trans o9
  replace OH := OH.trans (o9.mono (fun y hy => by obtain rfl := List.mem_singleton.1 hy; simp))
  clear o9
  have A_9 : SrcA (B3 :: B1 :: R :: X) w9 p9 (r).length (bl r) := SrcA.of_own O_9 (fun y hy => by have h1 := hlowX y hy; omega)
  have hc9 := O_9.le
  have hn9 := O_9.nilCap
  clear O_9
  have hV2 := own_nil_le V
  have hfp : fp 7 bt = .ok (⟨7, lN bt, lN (lR bt), rs, [], z8⟩, r) := by rw [hfr, hrg]
  have A_f : FA (B3 :: B1 :: R :: X) w9 ⟨7, lN bt, lN (lR bt), rs, [], z8⟩ vp vc none 0 := ⟨⟨Rg.of_own V, hV2.1, hV2.2.1, show rs.length ≤ 140737488351232 by omega, fun j hj => absurd hj (Nat.not_lt_zero j), Nat.le_refl _, fun _ => rfl, Nat.zero_le _, ⟨fun x hx => (by cases hx), z8_w, rfl⟩, show i64 7 by unfold i64; decide, i64_lN hbt h5, i64_lN (lR_byts hbt) h7⟩, fun ad e _ hm => by have h5 := hV2.2.2 ad e; have h6 := hlowX _ hm; omega, fun _ e => (by cases e)⟩
  clear V hV2 hfr hrg
  refine ⟨_, rfl, ?_⟩
  simp only [aP, lI, l0, lS]
  refine readL (.pointer (some ⟨B3, 3, none⟩)) rfl (by kernel_rfl) ?_
  simp only [aP, lI, l0, lS]
  replace M := M.swap
  refine skipOpL rfl (storeAny (.slice vp rs.length vc) B3 3 22 _ _ rfl rfl rfl rfl rfl (M.isSome List.mem_cons_self 3 (by simp)) (M.free List.mem_cons_self 3 (by simp)) (by kernel_rfl)) ?_
  simp only [Act.put]
  replace M := M.set 3 (by simp) (.slice vp rs.length vc)
  replace OF := OF.and1 ((Off.refl [B3] _).set (b := B3) List.mem_cons_self 3 (.slice vp rs.length vc)) (.inr (by omega))
  replace OH := OH.and1 ((Off.refl [B3] _).set (b := B3) List.mem_cons_self 3 (.slice vp rs.length vc)) (.inl (by simp))
  replace A_9 := A_9.off (((Off.refl [B3] _).set (b := B3) List.mem_cons_self 3 (.slice vp rs.length vc)).mono (fun x hx => by obtain rfl := List.mem_singleton.1 hx; simp))
  replace A_f := A_f.off (((Off.refl [B3] _).set (b := B3) List.mem_cons_self 3 (.slice vp rs.length vc)).mono (fun x hx => by obtain rfl := List.mem_singleton.1 hx; simp))
  generalize w9.setCell ⟨B3, 3, none⟩ (.slice vp rs.length vc) = w10 at M OF OH A_9 A_f ⊢
  replace M : Mm w0 ((B3, [.int .i64 7, .int .i64 (lN bt), .int .i64 (lN (lR bt)), .slice vp rs.length vc, .slice none 0 0, .int .u8 0, .int .u8 0, .int .u8 0, .int .u8 0, .int .u8 0, .int .u8 0, .int .u8 0, .int .u8 0]) :: (R, [.slice p9 ((r).length) c9]) :: (B1, [.int .i64 0, .int .i64 0, .int .i64 0, .slice none 0 0, .slice none 0 0, .int .u8 0, .int .u8 0, .int .u8 0, .int .u8 0, .int .u8 0, .int .u8 0, .int .u8 0, .int .u8 0]) :: l) w10 := M
  first | show Exit.then _ _ _ _ _ | show Exit.inBlock _ _ _ _ _
  go_upto_region 20 with fail
  refine wp_region_list ?_
  refine readL (.agg #[.int .i64 7, .int .i64 (lN bt), .int .i64 (lN (lR bt)), .slice vp rs.length vc, .slice none 0 0, .int .u8 0, .int .u8 0, .int .u8 0, .int .u8 0, .int .u8 0, .int .u8 0, .int .u8 0, .int .u8 0]) rfl (loadN 26 _ ⟨B3, 0, none⟩ [.int .i64 7, .int .i64 (lN bt), .int .i64 (lN (lR bt)), .slice vp rs.length vc, .slice none 0 0, .int .u8 0, .int .u8 0, .int .u8 0, .int .u8 0, .int .u8 0, .int .u8 0, .int .u8 0, .int .u8 0] rfl rfl (fun _ => by kernel_rfl) (fun _ => by kernel_rfl) (M.rangeAt List.mem_cons_self)) ?_
  simp only [aP, lI, l0, lS]
  have hC : Calls Try.prog 10 #[.agg #[.int .i64 7, .int .i64 (lN bt), .int .i64 (lN (lR bt)), .slice vp rs.length vc, .slice none 0 0, .int .u8 0, .int .u8 0, .int .u8 0, .int .u8 0, .int .u8 0, .int .u8 0, .int .u8 0, .int .u8 0]] w10 (fun e w' => e = .returned (.int .i64 (fchk ⟨7, lN bt, lN (lR bt), rs, [], z8⟩)) ∧ Below w10.heap.size w10 w') := vcheck_any ⟨7, lN bt, lN (lR bt), rs, [], z8⟩ vp vc none 0 _ A_f.fv
  refine callL rfl (fun _ => by kernel_rfl) (hC) ?_
  rintro e w11 ⟨rfl, l⟩
  replace M := M.call l
  refine ⟨_, rfl, ?_⟩
  replace OF := OF.below l
  replace OH := OH.below l
  replace A_9 := A_9.off (Off.of_below l)
  replace A_f := A_f.off (Off.of_below l)
  clear l hC
  simp only [aP, lI, l0, lS]
  cases hok : fok ⟨7, lN bt, lN (lR bt), rs, [], z8⟩ with
  | false =>
    have e1 := fchk_bad hok
    refine callPL rfl (fun _ => by kernel_rfl) (stop_bad (fchk ⟨7, lN bt, lN (lR bt), rs, [], z8⟩) (by rw [e1]; decide) _) ?_
    rintro e w12 ⟨rfl, hw⟩
    subst hw
    right
    refine ⟨_, rfl, ?_⟩
    rw [e1]
    replace M := M.swap
    exact ⟨rfl, .inr ⟨100, fun m => dc_bad (by decide) hfp hok, rfl, _, M.drop2.drop2⟩⟩
  | true =>
    have e1 := fchk_ok hok
    rw [e1]
    clear e1
    refine callL rfl (fun _ => by kernel_rfl) (stop_ok _) ?_
    rintro e w12 ⟨rfl, hw⟩
    subst hw
    refine ⟨_, rfl, ?_⟩
    simp only [aP, lI, l0, lS]
    first | show Exit.then _ _ _ _ _ | show Exit.inBlock _ _ _ _ _
    go_upto_region 21 with fail
    refine wp_region_list ?_
    refine readL (.agg #[.int .i64 7, .int .i64 (lN bt), .int .i64 (lN (lR bt)), .slice vp rs.length vc, .slice none 0 0, .int .u8 0, .int .u8 0, .int .u8 0, .int .u8 0, .int .u8 0, .int .u8 0, .int .u8 0, .int .u8 0]) rfl (loadN 26 _ ⟨B3, 0, none⟩ [.int .i64 7, .int .i64 (lN bt), .int .i64 (lN (lR bt)), .slice vp rs.length vc, .slice none 0 0, .int .u8 0, .int .u8 0, .int .u8 0, .int .u8 0, .int .u8 0, .int .u8 0, .int .u8 0, .int .u8 0] rfl rfl (fun _ => by kernel_rfl) (fun _ => by kernel_rfl) (M.rangeAt List.mem_cons_self)) ?_
    simp only [aP, lI, l0, lS]
    replace M := M.rot3
    refine skipOpL rfl (storeP [.int .i64 7, .int .i64 (lN bt), .int .i64 (lN (lR bt)), .slice vp rs.length vc, .slice none 0 0, .int .u8 0, .int .u8 0, .int .u8 0, .int .u8 0, .int .u8 0, .int .u8 0, .int .u8 0, .int .u8 0] B1 0 26 _ _ rfl rfl rfl (M.thereP List.mem_cons_self 0 13 (Nat.le_of_ble_eq_true rfl)) (by kernel_rfl) (List.all_eq_true.1 (rfl : ([.int .i64 7, .int .i64 (lN bt), .int .i64 (lN (lR bt)), .slice vp rs.length vc, .slice none 0 0, .int .u8 0, .int .u8 0, .int .u8 0, .int .u8 0, .int .u8 0, .int .u8 0, .int .u8 0, .int .u8 0] : List Value).all (fun u => u.oneCell') = true))) ?_
    simp only [Act.put]
    replace M := M.setPart [.int .i64 7, .int .i64 (lN bt), .int .i64 (lN (lR bt)), .slice vp rs.length vc, .slice none 0 0, .int .u8 0, .int .u8 0, .int .u8 0, .int .u8 0, .int .u8 0, .int .u8 0, .int .u8 0, .int .u8 0] 0 (Nat.le_of_ble_eq_true rfl)
    replace OF := OF.and1 ((Off.refl [B1] _).setAll (b := B1) List.mem_cons_self 0 [.int .i64 7, .int .i64 (lN bt), .int .i64 (lN (lR bt)), .slice vp rs.length vc, .slice none 0 0, .int .u8 0, .int .u8 0, .int .u8 0, .int .u8 0, .int .u8 0, .int .u8 0, .int .u8 0, .int .u8 0]) (.inr (by omega))
    replace OH := OH.and1 ((Off.refl [B1] _).setAll (b := B1) List.mem_cons_self 0 [.int .i64 7, .int .i64 (lN bt), .int .i64 (lN (lR bt)), .slice vp rs.length vc, .slice none 0 0, .int .u8 0, .int .u8 0, .int .u8 0, .int .u8 0, .int .u8 0, .int .u8 0, .int .u8 0, .int .u8 0]) (.inl (by simp))
    replace A_9 := A_9.off (((Off.refl [B1] _).setAll (b := B1) List.mem_cons_self 0 [.int .i64 7, .int .i64 (lN bt), .int .i64 (lN (lR bt)), .slice vp rs.length vc, .slice none 0 0, .int .u8 0, .int .u8 0, .int .u8 0, .int .u8 0, .int .u8 0, .int .u8 0, .int .u8 0, .int .u8 0]).mono (fun x hx => by obtain rfl := List.mem_singleton.1 hx; simp))
    replace A_f := A_f.off (((Off.refl [B1] _).setAll (b := B1) List.mem_cons_self 0 [.int .i64 7, .int .i64 (lN bt), .int .i64 (lN (lR bt)), .slice vp rs.length vc, .slice none 0 0, .int .u8 0, .int .u8 0, .int .u8 0, .int .u8 0, .int .u8 0, .int .u8 0, .int .u8 0, .int .u8 0]).mono (fun x hx => by obtain rfl := List.mem_singleton.1 hx; simp))
    generalize w12.setCells B1 0 [.int .i64 7, .int .i64 (lN bt), .int .i64 (lN (lR bt)), .slice vp rs.length vc, .slice none 0 0, .int .u8 0, .int .u8 0, .int .u8 0, .int .u8 0, .int .u8 0, .int .u8 0, .int .u8 0, .int .u8 0] = w13 at M OF OH A_9 A_f ⊢
    replace M : Mm w0 ((B1, [.int .i64 7, .int .i64 (lN bt), .int .i64 (lN (lR bt)), .slice vp rs.length vc, .slice none 0 0, .int .u8 0, .int .u8 0, .int .u8 0, .int .u8 0, .int .u8 0, .int .u8 0, .int .u8 0, .int .u8 0]) :: (B3, [.int .i64 7, .int .i64 (lN bt), .int .i64 (lN (lR bt)), .slice vp rs.length vc, .slice none 0 0, .int .u8 0, .int .u8 0, .int .u8 0, .int .u8 0, .int .u8 0, .int .u8 0, .int .u8 0, .int .u8 0]) :: (R, [.slice p9 ((r).length) c9]) :: l) w13 := M
    first | show Exit.then _ _ _ _ _ | show Exit.inBlock _ _ _ _ _
    replace M := M.rot3
    have HS := show Hid _ from (And.intro M (And.intro OF (And.intro A_9 A_f)))
    have c1 := M.part (List.mem_cons_of_mem _ List.mem_cons_self) 0 (fcs ⟨7, lN bt, lN (lR bt), rs, [], z8⟩ vp vc none 0) rfl
    clear M OF A_9 A_f
    go_wp2
    refine bodyPost_ret (v := .agg (fcs ⟨7, lN bt, lN (lR bt), rs, [], z8⟩ vp vc none 0).toArray) (retCell 2 26 ⟨B1, 0, none⟩ (fcs ⟨7, lN bt, lN (lR bt), rs, [], z8⟩ vp vc none 0) rfl rfl (fun _ => by kernel_rfl) (fun _ => by kernel_rfl) c1) rfl ?_
    exact .inl ⟨⟨7, lN bt, lN (lR bt), rs, [], z8⟩, r, _, _, vp, vc, none, 0, by decide, hfp, hok, by omega, hbr, rfl, HS.out.1.drop2.drop2, HS.out.2.1, hc9, hn9, HS.out.2.2.1.less (fun y hy => by rcases List.mem_cons.1 hy with rfl | hy; simp; simp [hy]), HS.out.2.2.2.less (fun y hy => by rcases List.mem_cons.1 hy with rfl | hy; simp; simp [hy])⟩

set_option maxRecDepth 10000 in
set_option maxHeartbeats 32000000 in
theorem fframe0 (X : List Nat) (w0 w : World) (R : Nat) (l : List (Nat × List Value)) (ad : Addr) (c : Nat) (bt : List Int) (hX : ∀ y ∈ X, y < w.heap.size) (hlen : bt.length ≤ 255) (hc : bt.length + 1 ≤ c) (x : Int) (hx : 0 ≤ x ∧ x < 256) (hxx : x < 1 ∨ 7 < x) (M : Mm w0 ((R, [.slice (some ad) (bt.length + 1) c]) :: l) w) (A_0 : SrcA (R :: X) w (some ad) (bt.length + 1) (bl (x :: bt))) :
    Calls Try.prog 36 #[.pointer (some ⟨R, 0, none⟩)] w fun e w' => FrQ X w0 R l x bt w e w' := by
  have OF := Off.refl [R] w
  have hRw := M.lt List.mem_cons_self
  go_enter Try.func36, Try.ntmps36
  go_upto_region 0 with fail
  refine wp_region_list ?_
  refine actL (w' := w.alloc (.cells #[.int .i64 0, .int .i64 0, .int .i64 0, .slice none 0 0, .slice none 0 0, .int .u8 0, .int .u8 0, .int .u8 0, .int .u8 0, .int .u8 0, .int .u8 0, .int .u8 0, .int .u8 0] 26)) (.pointer (some ⟨w.heap.size, 0, none⟩)) rfl (by kernel_rfl) ?_
  simp only [aP, lI, l0, lS]
  have hlb := (Below.refl w.heap.size w).alloc (Nat.le_refl _) (.cells #[.int .i64 0, .int .i64 0, .int .i64 0, .slice none 0 0, .slice none 0 0, .int .u8 0, .int .u8 0, .int .u8 0, .int .u8 0, .int .u8 0, .int .u8 0, .int .u8 0, .int .u8 0] 26)
  replace OF := OF.below hlb
  replace A_0 := (A_0.more w.heap.size (Nat.le_refl _)).off (Off.of_below hlb)
  clear hlb
  have hB_B1 : w0.heap.size ≤ w.heap.size := M.below.size
  replace M := M.box #[.int .i64 0, .int .i64 0, .int .i64 0, .slice none 0 0, .slice none 0 0, .int .u8 0, .int .u8 0, .int .u8 0, .int .u8 0, .int .u8 0, .int .u8 0, .int .u8 0, .int .u8 0] 26 w.heap.size rfl
  generalize w.alloc (.cells #[.int .i64 0, .int .i64 0, .int .i64 0, .slice none 0 0, .slice none 0 0, .int .u8 0, .int .u8 0, .int .u8 0, .int .u8 0, .int .u8 0, .int .u8 0, .int .u8 0, .int .u8 0] 26) = w1 at M OF A_0 ⊢
  generalize eB : w.heap.size = B1 at M hB_B1 A_0 ⊢
  have hE_B1 : w.heap.size ≤ B1 := Nat.le_of_eq eB
  have hF_B1 : B1 ≤ w.heap.size := Nat.le_of_eq eB.symm
  clear eB
  replace M : Mm w0 ((B1, [.int .i64 0, .int .i64 0, .int .i64 0, .slice none 0 0, .slice none 0 0, .int .u8 0, .int .u8 0, .int .u8 0, .int .u8 0, .int .u8 0, .int .u8 0, .int .u8 0, .int .u8 0]) :: (R, [.slice (some ad) (bt.length + 1) c]) :: l) w1 := M
  first | show Exit.then _ _ _ _ _ | show Exit.inBlock _ _ _ _ _
  have hB1s := M.lt List.mem_cons_self
  go_upto_region 1 with fail
  refine wp_region_list ?_
  refine readL (.pointer (some ⟨R, 0, none⟩)) rfl (by kernel_rfl) ?_
  simp only [aP, lI, l0, lS]
  replace M := M.swap
  refine callL rfl (fun _ => by kernel_rfl) (fkind_any w0 _ R _ ad c x bt hc hx M (A_0.1.at 0 (by omega))) ?_
  rintro e w2 ⟨rfl, cq, M', o1, hcs, hcn⟩
  clear M
  have M := M'
  clear M'
  replace OF := OF.trans o1
  replace A_0 := A_0.off (o1.mono (fun y hy => by obtain rfl := List.mem_singleton.1 hy; simp))
  replace A_0 : SrcA (B1 :: R :: X) w2 cq bt.length (bl bt) := ⟨(hcs _ _ _ A_0).1.congr fun j _ => bl_tail x bt j, (hcs _ _ _ A_0).2⟩
  have hz1 := o1.size
  clear o1 hcs
  refine ⟨_, rfl, ?_⟩
  simp only [aP, lI, l0, lS]
  refine readL (.agg #[.int .i64 x, .int .i64 0, .int .i64 0, .slice none 0 0, .slice none 0 0, .int .u8 0, .int .u8 0, .int .u8 0, .int .u8 0, .int .u8 0, .int .u8 0, .int .u8 0, .int .u8 0]) rfl (by kernel_rfl) ?_
  simp only [aP, lI, l0, lS]
  refine actL (w' := w2.alloc (.cells #[.int .i64 0, .int .i64 0, .int .i64 0, .slice none 0 0, .slice none 0 0, .int .u8 0, .int .u8 0, .int .u8 0, .int .u8 0, .int .u8 0, .int .u8 0, .int .u8 0, .int .u8 0] 26)) (.pointer (some ⟨w2.heap.size, 0, none⟩)) rfl (by kernel_rfl) ?_
  simp only [aP, lI, l0, lS]
  have hlb := (Below.refl w2.heap.size w2).alloc (Nat.le_refl _) (.cells #[.int .i64 0, .int .i64 0, .int .i64 0, .slice none 0 0, .slice none 0 0, .int .u8 0, .int .u8 0, .int .u8 0, .int .u8 0, .int .u8 0, .int .u8 0, .int .u8 0, .int .u8 0] 26)
  replace OF := OF.below hlb
  replace A_0 := (A_0.more w2.heap.size (Nat.le_refl _)).off (Off.of_below hlb)
  clear hlb
  have hB_B3 : w0.heap.size ≤ w2.heap.size := M.below.size
  replace M := M.box #[.int .i64 0, .int .i64 0, .int .i64 0, .slice none 0 0, .slice none 0 0, .int .u8 0, .int .u8 0, .int .u8 0, .int .u8 0, .int .u8 0, .int .u8 0, .int .u8 0, .int .u8 0] 26 w2.heap.size rfl
  generalize w2.alloc (.cells #[.int .i64 0, .int .i64 0, .int .i64 0, .slice none 0 0, .slice none 0 0, .int .u8 0, .int .u8 0, .int .u8 0, .int .u8 0, .int .u8 0, .int .u8 0, .int .u8 0, .int .u8 0] 26) = w3 at M OF A_0 ⊢
  generalize eB : w2.heap.size = B3 at M hB_B3 A_0 ⊢
  have hE_B3 : w2.heap.size ≤ B3 := Nat.le_of_eq eB
  have hF_B3 : B3 ≤ w2.heap.size := Nat.le_of_eq eB.symm
  clear eB
  replace M : Mm w0 ((B3, [.int .i64 0, .int .i64 0, .int .i64 0, .slice none 0 0, .slice none 0 0, .int .u8 0, .int .u8 0, .int .u8 0, .int .u8 0, .int .u8 0, .int .u8 0, .int .u8 0, .int .u8 0]) :: (R, [.slice cq bt.length (c - 1)]) :: (B1, [.int .i64 0, .int .i64 0, .int .i64 0, .slice none 0 0, .slice none 0 0, .int .u8 0, .int .u8 0, .int .u8 0, .int .u8 0, .int .u8 0, .int .u8 0, .int .u8 0, .int .u8 0]) :: l) w3 := M
  refine skipOpL rfl (storeP [.int .i64 x, .int .i64 0, .int .i64 0, .slice none 0 0, .slice none 0 0, .int .u8 0, .int .u8 0, .int .u8 0, .int .u8 0, .int .u8 0, .int .u8 0, .int .u8 0, .int .u8 0] B3 0 26 _ _ rfl rfl rfl (M.thereP List.mem_cons_self 0 13 (Nat.le_of_ble_eq_true rfl)) (by kernel_rfl) (List.all_eq_true.1 (rfl : ([.int .i64 x, .int .i64 0, .int .i64 0, .slice none 0 0, .slice none 0 0, .int .u8 0, .int .u8 0, .int .u8 0, .int .u8 0, .int .u8 0, .int .u8 0, .int .u8 0, .int .u8 0] : List Value).all (fun u => u.oneCell') = true))) ?_
  simp only [Act.put]
  replace M := M.setPart [.int .i64 x, .int .i64 0, .int .i64 0, .slice none 0 0, .slice none 0 0, .int .u8 0, .int .u8 0, .int .u8 0, .int .u8 0, .int .u8 0, .int .u8 0, .int .u8 0, .int .u8 0] 0 (Nat.le_of_ble_eq_true rfl)
  replace OF := OF.and1 ((Off.refl [B3] _).setAll (b := B3) List.mem_cons_self 0 [.int .i64 x, .int .i64 0, .int .i64 0, .slice none 0 0, .slice none 0 0, .int .u8 0, .int .u8 0, .int .u8 0, .int .u8 0, .int .u8 0, .int .u8 0, .int .u8 0, .int .u8 0]) (.inr (by omega))
  replace A_0 := A_0.off (((Off.refl [B3] _).setAll (b := B3) List.mem_cons_self 0 [.int .i64 x, .int .i64 0, .int .i64 0, .slice none 0 0, .slice none 0 0, .int .u8 0, .int .u8 0, .int .u8 0, .int .u8 0, .int .u8 0, .int .u8 0, .int .u8 0, .int .u8 0]).mono (fun x hx => by obtain rfl := List.mem_singleton.1 hx; simp))
  generalize w3.setCells B3 0 [.int .i64 x, .int .i64 0, .int .i64 0, .slice none 0 0, .slice none 0 0, .int .u8 0, .int .u8 0, .int .u8 0, .int .u8 0, .int .u8 0, .int .u8 0, .int .u8 0, .int .u8 0] = w4 at M OF A_0 ⊢
  replace M : Mm w0 ((B3, [.int .i64 x, .int .i64 0, .int .i64 0, .slice none 0 0, .slice none 0 0, .int .u8 0, .int .u8 0, .int .u8 0, .int .u8 0, .int .u8 0, .int .u8 0, .int .u8 0, .int .u8 0]) :: (R, [.slice cq bt.length (c - 1)]) :: (B1, [.int .i64 0, .int .i64 0, .int .i64 0, .slice none 0 0, .slice none 0 0, .int .u8 0, .int .u8 0, .int .u8 0, .int .u8 0, .int .u8 0, .int .u8 0, .int .u8 0, .int .u8 0]) :: l) w4 := M
  first | show Exit.then _ _ _ _ _ | show Exit.inBlock _ _ _ _ _
  have hFs := M.lt List.mem_cons_self
  have hlowX : ∀ y ∈ B3 :: B1 :: R :: X, y < w4.heap.size := fun y hy => by
    rcases List.mem_cons.1 hy with rfl | hy
    · exact hFs
    · rcases List.mem_cons.1 hy with rfl | hy
      · omega
      · rcases List.mem_cons.1 hy with rfl | hy
        · omega
        · have h1 := hX y hy; omega
  have OH := Off.refl [R, B3, B1] w4
  go_upto_region 2 with fail
  refine wp_region_list ?_
  refine readL (.pointer (some ⟨B3, 0, none⟩)) rfl (by kernel_rfl) ?_
  simp only [aP, lI, l0, lS]
  refine readL (.int .i64 x) rfl (load1 3 _ ⟨B3, 0, none⟩ _ rfl rfl (fun _ => by kernel_rfl) (M.get List.mem_cons_self 0 _ rfl)) ?_
  simp only [aP, lI, l0, lS]
  first | show Exit.then _ _ _ _ _ | show Exit.inBlock _ _ _ _ _
  go_upto_region 3 with fail
  refine wp_region_list ?_
  refine readL (.bool false) rfl (eqlI .i64 _ _ _ _ _ _ rfl rfl rfl false (by simp; omega) _) ?_
  simp only [aP, lI, l0, lS]
  refine readL (.bool false) rfl (by kernel_rfl) ?_
  simp only [aP, lI, l0, lS]
  first | show Exit.then _ _ _ _ _ | show Exit.inBlock _ _ _ _ _
  go_upto_region 6 with fail
  refine wp_region_list ?_
  refine readL (.bool false) rfl (eqlI .i64 _ _ _ _ _ _ rfl rfl rfl false (by simp; omega) _) ?_
  simp only [aP, lI, l0, lS]
  refine readL (.bool false) rfl (by kernel_rfl) ?_
  simp only [aP, lI, l0, lS]
  first | show Exit.then _ _ _ _ _ | show Exit.inBlock _ _ _ _ _
  go_upto_region 10 with fail
  refine wp_region_list ?_
  refine readL (.bool false) rfl (eqlI .i64 _ _ _ _ _ _ rfl rfl rfl false (by simp; omega) _) ?_
  simp only [aP, lI, l0, lS]
  refine readL (.bool false) rfl (by kernel_rfl) ?_
  simp only [aP, lI, l0, lS]
  first | show Exit.then _ _ _ _ _ | show Exit.inBlock _ _ _ _ _
  go_upto_region 11 with fail
  refine wp_region_list ?_
  refine readL (.bool false) rfl (eqlI .i64 _ _ _ _ _ _ rfl rfl rfl false (by simp; omega) _) ?_
  simp only [aP, lI, l0, lS]
  refine readL (.bool false) rfl (by kernel_rfl) ?_
  simp only [aP, lI, l0, lS]
  first | show Exit.then _ _ _ _ _ | show Exit.inBlock _ _ _ _ _
  go_upto_region 13 with fail
  refine wp_region_list ?_
  refine readL (.bool false) rfl (eqlI .i64 _ _ _ _ _ _ rfl rfl rfl false (by simp; omega) _) ?_
  simp only [aP, lI, l0, lS]
  refine readL (.bool false) rfl (by kernel_rfl) ?_
  simp only [aP, lI, l0, lS]
  first | show Exit.then _ _ _ _ _ | show Exit.inBlock _ _ _ _ _
  go_upto_region 14 with fail
  refine wp_region_list ?_
  refine readL (.bool false) rfl (eqlI .i64 _ _ _ _ _ _ rfl rfl rfl false (by simp; omega) _) ?_
  simp only [aP, lI, l0, lS]
  refine readL (.bool false) rfl (by kernel_rfl) ?_
  simp only [aP, lI, l0, lS]
  first | show Exit.then _ _ _ _ _ | show Exit.inBlock _ _ _ _ _
  go_upto_region 16 with fail
  refine wp_region_list ?_
  refine readL (.bool false) rfl (eqlI .i64 _ _ _ _ _ _ rfl rfl rfl false (by simp; omega) _) ?_
  simp only [aP, lI, l0, lS]
  refine readL (.bool false) rfl (by kernel_rfl) ?_
  simp only [aP, lI, l0, lS]
  first | show Exit.then _ _ _ _ _ | show Exit.inBlock _ _ _ _ _
  have A_f : FA (B3 :: B1 :: R :: X) w4 ⟨x, 0, 0, [], [], z8⟩ none 0 none 0 := fa_nil _ _ _ _ _ (by unfold i64; omega) (by unfold i64; decide) z8_w rfl
  go_upto_region 20 with fail
  refine wp_region_list ?_
  refine readL (.agg #[.int .i64 x, .int .i64 0, .int .i64 0, .slice none 0 0, .slice none 0 0, .int .u8 0, .int .u8 0, .int .u8 0, .int .u8 0, .int .u8 0, .int .u8 0, .int .u8 0, .int .u8 0]) rfl (loadN 26 _ ⟨B3, 0, none⟩ [.int .i64 x, .int .i64 0, .int .i64 0, .slice none 0 0, .slice none 0 0, .int .u8 0, .int .u8 0, .int .u8 0, .int .u8 0, .int .u8 0, .int .u8 0, .int .u8 0, .int .u8 0] rfl rfl (fun _ => by kernel_rfl) (fun _ => by kernel_rfl) (M.rangeAt List.mem_cons_self)) ?_
  simp only [aP, lI, l0, lS]
  have hC : Calls Try.prog 10 #[.agg #[.int .i64 x, .int .i64 0, .int .i64 0, .slice none 0 0, .slice none 0 0, .int .u8 0, .int .u8 0, .int .u8 0, .int .u8 0, .int .u8 0, .int .u8 0, .int .u8 0, .int .u8 0]] w4 (fun e w' => e = .returned (.int .i64 (fchk ⟨x, 0, 0, [], [], z8⟩)) ∧ Below w4.heap.size w4 w') := vcheck_any ⟨x, 0, 0, [], [], z8⟩ none 0 none 0 _ A_f.fv
  refine callL rfl (fun _ => by kernel_rfl) (hC) ?_
  rintro e w5 ⟨rfl, l⟩
  replace M := M.call l
  refine ⟨_, rfl, ?_⟩
  replace OF := OF.below l
  replace A_0 := A_0.off (Off.of_below l)
  replace OH := OH.below l
  replace A_f := A_f.off (Off.of_below l)
  clear l hC
  simp only [aP, lI, l0, lS]
  have e1 := fchk_bad (fok_none (f := ⟨x, 0, 0, [], [], z8⟩) hxx)
  refine callPL rfl (fun _ => by kernel_rfl) (stop_bad (fchk ⟨x, 0, 0, [], [], z8⟩) (by rw [e1]; decide) _) ?_
  rintro e w6 ⟨rfl, hw⟩
  subst hw
  right
  refine ⟨_, rfl, ?_⟩
  rw [e1]
  replace M := M.swap
  exact ⟨rfl, .inr ⟨100, fun m => dc_kind hxx, rfl, _, M.drop2.drop2⟩⟩

theorem fframe_any (X : List Nat) (w0 w : World) (R : Nat) (l : List (Nat × List Value)) (ad : Addr) (c : Nat) (bt : List Int) (hX : ∀ y ∈ X, y < w.heap.size) (hlen : bt.length ≤ 255) (hc : bt.length + 1 ≤ c) (x : Int) (hx : 0 ≤ x ∧ x < 256) (hbt : Byts bt) (M : Mm w0 ((R, [.slice (some ad) (bt.length + 1) c]) :: l) w) (A_0 : SrcA (R :: X) w (some ad) (bt.length + 1) (bl (x :: bt))) :
    Calls Try.prog 36 #[.pointer (some ⟨R, 0, none⟩)] w fun e w' => FrQ X w0 R l x bt w e w' := by
  by_cases hxx : x < 1 ∨ 7 < x
  · exact fframe0 X w0 w R l ad c bt hX hlen hc x hx hxx M A_0
  · have : x = 1 ∨ x = 2 ∨ x = 3 ∨ x = 4 ∨ x = 5 ∨ x = 6 ∨ x = 7 := by omega
    rcases this with rfl | rfl | rfl | rfl | rfl | rfl | rfl
    · exact fframe1 X w0 w R l ad c bt hX hlen hc hbt M A_0
    · exact fframe2 X w0 w R l ad c bt hX hlen hc hbt M A_0
    · exact fframe3 X w0 w R l ad c bt hX hlen hc hbt M A_0
    · exact fframe4 X w0 w R l ad c bt hX hlen hc hbt M A_0
    · exact fframe5 X w0 w R l ad c bt hX hlen hc hbt M A_0
    · exact fframe6 X w0 w R l ad c bt hX hlen hc hbt M A_0
    · exact fframe7 X w0 w R l ad c bt hX hlen hc hbt M A_0
end Go.Proofs.Yteaamgjlkohfcaa
