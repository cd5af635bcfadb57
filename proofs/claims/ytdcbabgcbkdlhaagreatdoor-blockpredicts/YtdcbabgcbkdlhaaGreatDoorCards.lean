/-
  DERIVED. GIVEN WITH THE SEED: THE CARDS: each row of YtdcbabgcbkdlhaaGreatDoorRows.lean that lists a variable, with what it lists TIED to the program's text (the seventh form; the later family's looks); each row that meets fmt, with fmt's text TOLD by the authors' own Lean function (tested against real Go, not proved from fmt's source: count such statements apart). THE CARD IS WHAT COUNTS. Prove the row's statement (the work); the ties are given (YtdcbabgcbkdlhaaGreatDoorTie.lean); close each card by the builder's one call (the guide's Derived/Test/ToyasCard.lean, 'card_holds'). Laid BY PROGRAM, IN A SANDBOX (cutbox-door.mjs). By AI agents, Wed Nov 11 2026. No macro, syntax, notation, axiom, sorry.
-/
import Derived.Test.YtdcbabgcbkdlhaaGreatDoorRows
import GoSem.ClaimSeven
namespace Go.Proofs.YtdcbabgcbkdlhaaGreatDoor
namespace Rows

/-- THE TIED CARD OF 'clapboardlaw12.BlockPredicts'. -/
def blockPredictsCard : Claim7 := { stood := { row := blockPredictsRow, standIns := [], harness := (true, "2b88cae2e58e56e7416c90fadadcf274cf1083a18abc26004397c0efb983c646"), looks := false }, kinds := [], alts := [], laidByText := true, laidKinds := [.data, .data, .data, .data], laidTests := true, laidLooks := .later }
def BlockPredictsCardSaid : Prop := Claim7.holds Tryz.pinned (.plain (OpenSpec.ofChange blockPredictsSpec)) blockPredictsCard

/-- THE SECOND FORM's CARD OF 'clapboardlaw12.BlockPredicts'. -/
def blockPredictsUptoCard : Claim7 := { stood := { row := blockPredictsUptoRow, standIns := [], harness := (true, "2b88cae2e58e56e7416c90fadadcf274cf1083a18abc26004397c0efb983c646"), looks := false }, kinds := [], alts := [], laidByText := true, laidKinds := [.data, .data, .data, .data], laidTests := true, laidLooks := .later }
def BlockPredictsUptoCardSaid : Prop := Claim7.holds Tryz.pinned (.plain (OpenSpec.upto blockPredictsSpec)) blockPredictsUptoCard
end Rows
end Go.Proofs.YtdcbabgcbkdlhaaGreatDoor
