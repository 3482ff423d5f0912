/-
  DERIVED. GIVEN WITH THE SEED: THE PROGRAM's TIES (one call each: nine closed facts by the kernel) AND EACH ROW's TIE, after the 31st guide's Derived/Test/Toyas{Tie, Card}.lean. No idea stands in it: it is a product of the set-up. Laid BY PROGRAM, IN A SANDBOX (cutbox-door.mjs). By AI agents, Wed Nov 11 2026. No macro, syntax, notation, axiom, sorry.
-/
import Derived.Test.YtgfpflcoknpbdaaDoorRows
import Derived.LaidByTextLater
import Derived.SevenTiedAt
import Derived.LaidSub
import Derived.LaidOnce
namespace Go.Proofs.YtgfpflcoknpbdaaDoor
open Go
set_option maxRecDepth 100000
theorem seatTie1 : Tryd.prog.laidByTextLater [("sheave/blake.iv", Rows.laid_sheave_blake_iv), ("sheave/blake.rows", Rows.laid_sheave_blake_rows), ("sheave/blake.places", Rows.laid_sheave_blake_places), ("sheave/chacha.first", Rows.laid_sheave_chacha_first), ("sheave/chacha.places", Rows.laid_sheave_chacha_places), ("sheave/clamp.kept", Rows.laid_sheave_clamp_kept), ("sheave/clamp.modulus", Rows.laid_sheave_clamp_modulus)] [.data, .data, .data, .data, .data, .data, .data] true :=
  Program.laidByTextLater_by_one 70 8 161 (by kernel_rfl) (by kernel_rfl) (by kernel_rfl) (by kernel_rfl) (by kernel_rfl) (by kernel_rfl) (fun _ _ => by kernel_rfl)
theorem noOwnUnsafe : Tryd.pinned.checked.prog.headLifts.contains "ownunsafe" = false := by kernel_rfl
theorem tie : Tryd.prog.laidByTextLater [("sheave/blake.iv", Rows.laid_sheave_blake_iv), ("sheave/blake.rows", Rows.laid_sheave_blake_rows), ("sheave/blake.places", Rows.laid_sheave_blake_places), ("sheave/chacha.first", Rows.laid_sheave_chacha_first), ("sheave/chacha.places", Rows.laid_sheave_chacha_places), ("sheave/clamp.kept", Rows.laid_sheave_clamp_kept), ("sheave/clamp.modulus", Rows.laid_sheave_clamp_modulus)] [.data, .data, .data, .data, .data, .data, .data] true :=
  Program.laidByTextLater.sub seatTie1 ["sheave/blake.iv", "sheave/blake.rows", "sheave/blake.places", "sheave/chacha.first", "sheave/chacha.places", "sheave/clamp.kept", "sheave/clamp.modulus"] (by kernel_rfl) (by kernel_rfl)
theorem symmetricAgrees_row_tie : Rows.symmetricAgreesRow.laidByTextAt .later Tryd.pinned [.data, .data, .data, .data, .data, .data, .data] true :=
  OpenClaim.laidByTextAt_later rfl rfl tie noOwnUnsafe
theorem symmetricForged_row_tie : Rows.symmetricForgedRow.laidByTextAt .later Tryd.pinned [.data, .data, .data, .data, .data, .data, .data] true :=
  OpenClaim.laidByTextAt_later rfl rfl tie noOwnUnsafe
theorem symmetricAgreesUpto_row_tie : Rows.symmetricAgreesUptoRow.laidByTextAt .later Tryd.pinned [.data, .data, .data, .data, .data, .data, .data] true :=
  OpenClaim.laidByTextAt_later rfl rfl tie noOwnUnsafe
theorem symmetricForgedUpto_row_tie : Rows.symmetricForgedUptoRow.laidByTextAt .later Tryd.pinned [.data, .data, .data, .data, .data, .data, .data] true :=
  OpenClaim.laidByTextAt_later rfl rfl tie noOwnUnsafe
end Go.Proofs.YtgfpflcoknpbdaaDoor
