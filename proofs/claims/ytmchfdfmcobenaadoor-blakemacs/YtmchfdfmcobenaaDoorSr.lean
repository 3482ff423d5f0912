/- A slice that is handed in, and its bytes copied; no program stands in this. -/
import Derived.Test.YtmchfdfmcobenaaDoorFloat
namespace Go.Proofs.YtmchfdfmcobenaaDoor
open Go.RowKit

/-- A slice's first bytes, wherever they lie. -/
def Src (w : World) (sp : Option Addr) (len : Nat) (z : Nat → Int) : Prop := ∀ j, j < len → ∃ ad, sp = some ad ∧ w.cell? (ad.add j) = some (.int .u8 (z j))
theorem Src.below {w w' : World} {sp : Option Addr} {len : Nat} {z : Nat → Int} (h : Src w sp len z) {B : Nat} (l : Below B w w') (hB : w.heap.size ≤ B) : Src w' sp len z := fun j hj => by
  obtain ⟨ad, he, hc⟩ := h j hj
  have hb := World.block_lt_of_cell? w _ hc
  exact ⟨ad, he, by rw [l.cell (p := ad.add j) (Nat.lt_of_lt_of_le hb hB)]; exact hc⟩


section
variable {P : Program}
theorem run_copy_src {o : Oper} {a : Act} {w : World} (d s : Operand) (dT sT elem : TypeId) (ho : o.op = .call { callee := .builtin .copy, args := #[d, s], argTypes := #[dT, sT] }) (hu : P.underlying dT = some (.slice elem)) (hsz : (P.info? elem).map (·.size) = some 1)
    (b dLen dCap len cap n : Nat) (sp : Option Addr) (z : Nat → Int) (hd : a.eval d = .slice (some ⟨b, 0, none⟩) dLen dCap) (hs : a.eval s = .slice sp len cap) (hl : len ≤ dLen) (hn : len ≤ n) (hb : w.there b 0 n) (hc : Src w sp len z) :
    (execOp a.eval o).run P w = .ok (.value (.int .i64 (len : Int))) (w.setCells b 0 (row .u8 len z)) := by
  by_cases h0 : len = 0
  · subst h0
    have hrun := run_copy_none (P := P) w dT sT o.type elem (some ⟨b, 0, none⟩) sp dLen dCap 0 cap hu hsz (Nat.zero_min _)
    simp [execOp, ho, resolve, invoke, builtin, hd, hs, hrun, Result.andThen, goInt, row, World.setCells]
  · obtain ⟨ad, rfl, _⟩ := hc 0 (by omega)
    have hrun := run_copy_cells (P := P) w dT sT o.type elem b 0 dLen dCap ad len cap (row .u8 len z) hu hsz (by rw [row_length]; exact (Nat.min_eq_left hl).symm) (fun j v hv => by
      obtain ⟨hj, rfl⟩ := row_get_some hv
      obtain ⟨ad', he, hc'⟩ := hc j hj
      injection he with he
      subst he
      exact hc') (fun j hj => by rw [row_length] at hj; exact (hb j (by omega)).1) (fun j hj => by rw [row_length] at hj; exact (hb j (by omega)).2) (row_one .u8 len z)
    rw [row_length] at hrun
    simp [execOp, ho, resolve, invoke, builtin, hd, hs, hrun, Result.andThen, goInt]
end
end Go.Proofs.YtmchfdfmcobenaaDoor
