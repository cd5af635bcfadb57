/-
  DERIVED. GIVEN WITH THE SEED: THE PROGRAM's TIES (one call each: nine closed facts by the kernel) AND EACH ROW's TIE, after the 31st guide's Derived/Test/Toyas{Tie, Card}.lean. No idea stands in it: it is a product of the set-up. Laid BY PROGRAM, IN A SANDBOX (cutbox-door.mjs). By AI agents, Wed Nov 11 2026. No macro, syntax, notation, axiom, sorry.
-/
import Derived.Test.YtdcbabgcbkdlhaaGreatDoorRows
import Derived.LaidByTextLater
import Derived.SevenTiedAt
import Derived.LaidSub
import Derived.LaidOnce
namespace Go.Proofs.YtdcbabgcbkdlhaaGreatDoor
open Go
set_option maxRecDepth 100000
theorem seatTie1 : Tryz.prog.laidByTextLater [("clapboard/quant.steps", Rows.laid_clapboard_quant_steps), ("clapboard/scan.order", Rows.laid_clapboard_scan_order), ("clapboard/wave.waves", Rows.laid_clapboard_wave_waves), ("clapboard/block.acts", Rows.laid_clapboard_block_acts)] [.data, .data, .data, .data] true :=
  Program.laidByTextLater_by_one 40 8 22 (by kernel_rfl) (by kernel_rfl) (by kernel_rfl) (by kernel_rfl) (by kernel_rfl) (by kernel_rfl) (fun _ _ => by kernel_rfl)
theorem noOwnUnsafe : Tryz.pinned.checked.prog.headLifts.contains "ownunsafe" = false := by kernel_rfl
theorem tie : Tryz.prog.laidByTextLater [("clapboard/quant.steps", Rows.laid_clapboard_quant_steps), ("clapboard/scan.order", Rows.laid_clapboard_scan_order), ("clapboard/wave.waves", Rows.laid_clapboard_wave_waves), ("clapboard/block.acts", Rows.laid_clapboard_block_acts)] [.data, .data, .data, .data] true :=
  Program.laidByTextLater.sub seatTie1 ["clapboard/quant.steps", "clapboard/scan.order", "clapboard/wave.waves", "clapboard/block.acts"] (by kernel_rfl) (by kernel_rfl)
theorem blockPredicts_row_tie : Rows.blockPredictsRow.laidByTextAt .later Tryz.pinned [.data, .data, .data, .data] true :=
  OpenClaim.laidByTextAt_later rfl rfl tie noOwnUnsafe
theorem blockPredictsUpto_row_tie : Rows.blockPredictsUptoRow.laidByTextAt .later Tryz.pinned [.data, .data, .data, .data] true :=
  OpenClaim.laidByTextAt_later rfl rfl tie noOwnUnsafe
end Go.Proofs.YtdcbabgcbkdlhaaGreatDoor
