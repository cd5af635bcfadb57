/-
  DERIVED. GIVEN WITH THE SEED: THE CARDS: each row of YtdcbabgcbkdlhaaDoorRows.lean that lists a variable, with what it lists TIED to the program's text (the seventh form; the later family's looks); each row that meets fmt, with fmt's text TOLD by the authors' own Lean function (tested against real Go, not proved from fmt's source: count such statements apart). THE CARD IS WHAT COUNTS. Prove the row's statement (the work); the ties are given (YtdcbabgcbkdlhaaDoorTie.lean); close each card by the builder's one call (the guide's Derived/Test/ToyasCard.lean, 'card_holds'). Laid BY PROGRAM, IN A SANDBOX (cutbox-door.mjs). By AI agents, Wed Nov 11 2026. No macro, syntax, notation, axiom, sorry.
-/
import Derived.Test.YtdcbabgcbkdlhaaDoorRows
import GoSem.ClaimSeven
namespace Go.Proofs.YtdcbabgcbkdlhaaDoor
namespace Rows

/-- THE TIED CARD OF 'clapboardlaw12.BlockTells'. -/
def blockTellsCard : Claim7 := { stood := { row := blockTellsRow, standIns := [], harness := (true, "c46f271516a2205ccbbbdb1e7a643df2159465239b6787cc62155f0746ea90e8"), looks := false }, kinds := [], alts := [], laidByText := true, laidKinds := [.data, .data, .data, .data], laidTests := true, laidLooks := .later }
def BlockTellsCardSaid : Prop := Claim7.holds Tryd.pinned (.plain (OpenSpec.ofChange blockTellsSpec)) blockTellsCard

/-- THE TIED CARD OF 'clapboardlaw12.BlockBack'. -/
def blockBackCard : Claim7 := { stood := { row := blockBackRow, standIns := [], harness := (true, "c46f271516a2205ccbbbdb1e7a643df2159465239b6787cc62155f0746ea90e8"), looks := false }, kinds := [], alts := [], laidByText := true, laidKinds := [.data, .data, .data, .data], laidTests := true, laidLooks := .later }
def BlockBackCardSaid : Prop := Claim7.holds Tryd.pinned (.plain (OpenSpec.ofChange blockBackSpec)) blockBackCard

/-- THE TIED CARD OF 'clapboardlaw12.BlockNear'. -/
def blockNearCard : Claim7 := { stood := { row := blockNearRow, standIns := [], harness := (true, "c46f271516a2205ccbbbdb1e7a643df2159465239b6787cc62155f0746ea90e8"), looks := false }, kinds := [], alts := [], laidByText := true, laidKinds := [.data, .data, .data, .data], laidTests := true, laidLooks := .later }
def BlockNearCardSaid : Prop := Claim7.holds Tryd.pinned (.plain (OpenSpec.ofChange blockNearSpec)) blockNearCard

/-- THE TIED CARD OF 'clapboardlaw12.BlockPlain'. -/
def blockPlainCard : Claim7 := { stood := { row := blockPlainRow, standIns := [], harness := (true, "c46f271516a2205ccbbbdb1e7a643df2159465239b6787cc62155f0746ea90e8"), looks := false }, kinds := [], alts := [], laidByText := true, laidKinds := [.data, .data, .data, .data], laidTests := true, laidLooks := .later }
def BlockPlainCardSaid : Prop := Claim7.holds Tryd.pinned (.plain (OpenSpec.ofChange blockPlainSpec)) blockPlainCard

/-- THE TIED CARD OF 'clapboardlaw12.BlockStill'. -/
def blockStillCard : Claim7 := { stood := { row := blockStillRow, standIns := [], harness := (true, "c46f271516a2205ccbbbdb1e7a643df2159465239b6787cc62155f0746ea90e8"), looks := false }, kinds := [], alts := [], laidByText := true, laidKinds := [.data, .data, .data, .data], laidTests := true, laidLooks := .later }
def BlockStillCardSaid : Prop := Claim7.holds Tryd.pinned (.plain (OpenSpec.ofChange blockStillSpec)) blockStillCard

/-- THE TIED CARD OF 'clapboardlaw12.BlockRefuses'. -/
def blockRefusesCard : Claim7 := { stood := { row := blockRefusesRow, standIns := [], harness := (true, "c46f271516a2205ccbbbdb1e7a643df2159465239b6787cc62155f0746ea90e8"), looks := false }, kinds := [], alts := [], laidByText := true, laidKinds := [.data, .data, .data, .data], laidTests := true, laidLooks := .later }
def BlockRefusesCardSaid : Prop := Claim7.holds Tryd.pinned (.plain (OpenSpec.ofChange blockRefusesSpec)) blockRefusesCard

/-- THE SECOND FORM's CARD OF 'clapboardlaw12.BlockTells'. -/
def blockTellsUptoCard : Claim7 := { stood := { row := blockTellsUptoRow, standIns := [], harness := (true, "c46f271516a2205ccbbbdb1e7a643df2159465239b6787cc62155f0746ea90e8"), looks := false }, kinds := [], alts := [], laidByText := true, laidKinds := [.data, .data, .data, .data], laidTests := true, laidLooks := .later }
def BlockTellsUptoCardSaid : Prop := Claim7.holds Tryd.pinned (.plain (OpenSpec.upto blockTellsSpec)) blockTellsUptoCard

/-- THE SECOND FORM's CARD OF 'clapboardlaw12.BlockBack'. -/
def blockBackUptoCard : Claim7 := { stood := { row := blockBackUptoRow, standIns := [], harness := (true, "c46f271516a2205ccbbbdb1e7a643df2159465239b6787cc62155f0746ea90e8"), looks := false }, kinds := [], alts := [], laidByText := true, laidKinds := [.data, .data, .data, .data], laidTests := true, laidLooks := .later }
def BlockBackUptoCardSaid : Prop := Claim7.holds Tryd.pinned (.plain (OpenSpec.upto blockBackSpec)) blockBackUptoCard

/-- THE SECOND FORM's CARD OF 'clapboardlaw12.BlockNear'. -/
def blockNearUptoCard : Claim7 := { stood := { row := blockNearUptoRow, standIns := [], harness := (true, "c46f271516a2205ccbbbdb1e7a643df2159465239b6787cc62155f0746ea90e8"), looks := false }, kinds := [], alts := [], laidByText := true, laidKinds := [.data, .data, .data, .data], laidTests := true, laidLooks := .later }
def BlockNearUptoCardSaid : Prop := Claim7.holds Tryd.pinned (.plain (OpenSpec.upto blockNearSpec)) blockNearUptoCard

/-- THE SECOND FORM's CARD OF 'clapboardlaw12.BlockPlain'. -/
def blockPlainUptoCard : Claim7 := { stood := { row := blockPlainUptoRow, standIns := [], harness := (true, "c46f271516a2205ccbbbdb1e7a643df2159465239b6787cc62155f0746ea90e8"), looks := false }, kinds := [], alts := [], laidByText := true, laidKinds := [.data, .data, .data, .data], laidTests := true, laidLooks := .later }
def BlockPlainUptoCardSaid : Prop := Claim7.holds Tryd.pinned (.plain (OpenSpec.upto blockPlainSpec)) blockPlainUptoCard

/-- THE SECOND FORM's CARD OF 'clapboardlaw12.BlockStill'. -/
def blockStillUptoCard : Claim7 := { stood := { row := blockStillUptoRow, standIns := [], harness := (true, "c46f271516a2205ccbbbdb1e7a643df2159465239b6787cc62155f0746ea90e8"), looks := false }, kinds := [], alts := [], laidByText := true, laidKinds := [.data, .data, .data, .data], laidTests := true, laidLooks := .later }
def BlockStillUptoCardSaid : Prop := Claim7.holds Tryd.pinned (.plain (OpenSpec.upto blockStillSpec)) blockStillUptoCard

/-- THE SECOND FORM's CARD OF 'clapboardlaw12.BlockRefuses'. -/
def blockRefusesUptoCard : Claim7 := { stood := { row := blockRefusesUptoRow, standIns := [], harness := (true, "c46f271516a2205ccbbbdb1e7a643df2159465239b6787cc62155f0746ea90e8"), looks := false }, kinds := [], alts := [], laidByText := true, laidKinds := [.data, .data, .data, .data], laidTests := true, laidLooks := .later }
def BlockRefusesUptoCardSaid : Prop := Claim7.holds Tryd.pinned (.plain (OpenSpec.upto blockRefusesSpec)) blockRefusesUptoCard
end Rows
end Go.Proofs.YtdcbabgcbkdlhaaDoor
