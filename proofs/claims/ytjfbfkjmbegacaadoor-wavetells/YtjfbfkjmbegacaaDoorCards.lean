/-
  DERIVED. GIVEN WITH THE SEED: THE CARDS: each row of YtjfbfkjmbegacaaDoorRows.lean that lists a variable, with what it lists TIED to the program's text (the seventh form; the later family's looks); each row that meets fmt, with fmt's text TOLD by the authors' own Lean function (tested against real Go, not proved from fmt's source: count such statements apart). THE CARD IS WHAT COUNTS. Prove the row's statement (the work); the ties are given (YtjfbfkjmbegacaaDoorTie.lean); close each card by the builder's one call (the guide's Derived/Test/ToyasCard.lean, 'card_holds'). Laid BY PROGRAM, IN A SANDBOX (cutbox-door.mjs). By AI agents, Wed Nov 11 2026. No macro, syntax, notation, axiom, sorry.
-/
import Derived.Test.YtjfbfkjmbegacaaDoorRows
import GoSem.ClaimSeven
namespace Go.Proofs.YtjfbfkjmbegacaaDoor
namespace Rows

/-- THE TIED CARD OF 'clapboardlaw04.WaveTells'. -/
def waveTellsCard : Claim7 := { stood := { row := waveTellsRow, standIns := [], harness := (true, "9f1b38b9fa5671d740452fb9d61bed272688b0a2a209167e2175e0795dcff904"), looks := false }, kinds := [], alts := [], laidByText := true, laidKinds := [.data], laidTests := true, laidLooks := .later }
def WaveTellsCardSaid : Prop := Claim7.holds Tryd.pinned (.plain (OpenSpec.ofChange waveTellsSpec)) waveTellsCard

/-- THE TIED CARD OF 'clapboardlaw04.WaveBack'. -/
def waveBackCard : Claim7 := { stood := { row := waveBackRow, standIns := [], harness := (true, "9f1b38b9fa5671d740452fb9d61bed272688b0a2a209167e2175e0795dcff904"), looks := false }, kinds := [], alts := [], laidByText := true, laidKinds := [.data], laidTests := true, laidLooks := .later }
def WaveBackCardSaid : Prop := Claim7.holds Tryd.pinned (.plain (OpenSpec.ofChange waveBackSpec)) waveBackCard

/-- THE TIED CARD OF 'clapboardlaw04.WaveNear'. -/
def waveNearCard : Claim7 := { stood := { row := waveNearRow, standIns := [], harness := (true, "9f1b38b9fa5671d740452fb9d61bed272688b0a2a209167e2175e0795dcff904"), looks := false }, kinds := [], alts := [], laidByText := true, laidKinds := [.data], laidTests := true, laidLooks := .later }
def WaveNearCardSaid : Prop := Claim7.holds Tryd.pinned (.plain (OpenSpec.ofChange waveNearSpec)) waveNearCard

/-- THE TIED CARD OF 'clapboardlaw04.WaveAdds'. -/
def waveAddsCard : Claim7 := { stood := { row := waveAddsRow, standIns := [], harness := (true, "9f1b38b9fa5671d740452fb9d61bed272688b0a2a209167e2175e0795dcff904"), looks := false }, kinds := [], alts := [], laidByText := true, laidKinds := [.data], laidTests := true, laidLooks := .later }
def WaveAddsCardSaid : Prop := Claim7.holds Tryd.pinned (.plain (OpenSpec.ofChange waveAddsSpec)) waveAddsCard

/-- THE TIED CARD OF 'clapboardlaw04.WaveFlat'. -/
def waveFlatCard : Claim7 := { stood := { row := waveFlatRow, standIns := [], harness := (true, "9f1b38b9fa5671d740452fb9d61bed272688b0a2a209167e2175e0795dcff904"), looks := false }, kinds := [], alts := [], laidByText := true, laidKinds := [.data], laidTests := true, laidLooks := .later }
def WaveFlatCardSaid : Prop := Claim7.holds Tryd.pinned (.plain (OpenSpec.ofChange waveFlatSpec)) waveFlatCard

/-- THE TIED CARD OF 'clapboardlaw04.WaveRows'. -/
def waveRowsCard : Claim7 := { stood := { row := waveRowsRow, standIns := [], harness := (true, "9f1b38b9fa5671d740452fb9d61bed272688b0a2a209167e2175e0795dcff904"), looks := false }, kinds := [], alts := [], laidByText := true, laidKinds := [.data], laidTests := true, laidLooks := .later }
def WaveRowsCardSaid : Prop := Claim7.holds Tryd.pinned (.plain (OpenSpec.ofChange waveRowsSpec)) waveRowsCard

/-- THE SECOND FORM's CARD OF 'clapboardlaw04.WaveTells'. -/
def waveTellsUptoCard : Claim7 := { stood := { row := waveTellsUptoRow, standIns := [], harness := (true, "9f1b38b9fa5671d740452fb9d61bed272688b0a2a209167e2175e0795dcff904"), looks := false }, kinds := [], alts := [], laidByText := true, laidKinds := [.data], laidTests := true, laidLooks := .later }
def WaveTellsUptoCardSaid : Prop := Claim7.holds Tryd.pinned (.plain (OpenSpec.upto waveTellsSpec)) waveTellsUptoCard

/-- THE SECOND FORM's CARD OF 'clapboardlaw04.WaveBack'. -/
def waveBackUptoCard : Claim7 := { stood := { row := waveBackUptoRow, standIns := [], harness := (true, "9f1b38b9fa5671d740452fb9d61bed272688b0a2a209167e2175e0795dcff904"), looks := false }, kinds := [], alts := [], laidByText := true, laidKinds := [.data], laidTests := true, laidLooks := .later }
def WaveBackUptoCardSaid : Prop := Claim7.holds Tryd.pinned (.plain (OpenSpec.upto waveBackSpec)) waveBackUptoCard

/-- THE SECOND FORM's CARD OF 'clapboardlaw04.WaveNear'. -/
def waveNearUptoCard : Claim7 := { stood := { row := waveNearUptoRow, standIns := [], harness := (true, "9f1b38b9fa5671d740452fb9d61bed272688b0a2a209167e2175e0795dcff904"), looks := false }, kinds := [], alts := [], laidByText := true, laidKinds := [.data], laidTests := true, laidLooks := .later }
def WaveNearUptoCardSaid : Prop := Claim7.holds Tryd.pinned (.plain (OpenSpec.upto waveNearSpec)) waveNearUptoCard

/-- THE SECOND FORM's CARD OF 'clapboardlaw04.WaveAdds'. -/
def waveAddsUptoCard : Claim7 := { stood := { row := waveAddsUptoRow, standIns := [], harness := (true, "9f1b38b9fa5671d740452fb9d61bed272688b0a2a209167e2175e0795dcff904"), looks := false }, kinds := [], alts := [], laidByText := true, laidKinds := [.data], laidTests := true, laidLooks := .later }
def WaveAddsUptoCardSaid : Prop := Claim7.holds Tryd.pinned (.plain (OpenSpec.upto waveAddsSpec)) waveAddsUptoCard

/-- THE SECOND FORM's CARD OF 'clapboardlaw04.WaveFlat'. -/
def waveFlatUptoCard : Claim7 := { stood := { row := waveFlatUptoRow, standIns := [], harness := (true, "9f1b38b9fa5671d740452fb9d61bed272688b0a2a209167e2175e0795dcff904"), looks := false }, kinds := [], alts := [], laidByText := true, laidKinds := [.data], laidTests := true, laidLooks := .later }
def WaveFlatUptoCardSaid : Prop := Claim7.holds Tryd.pinned (.plain (OpenSpec.upto waveFlatSpec)) waveFlatUptoCard

/-- THE SECOND FORM's CARD OF 'clapboardlaw04.WaveRows'. -/
def waveRowsUptoCard : Claim7 := { stood := { row := waveRowsUptoRow, standIns := [], harness := (true, "9f1b38b9fa5671d740452fb9d61bed272688b0a2a209167e2175e0795dcff904"), looks := false }, kinds := [], alts := [], laidByText := true, laidKinds := [.data], laidTests := true, laidLooks := .later }
def WaveRowsUptoCardSaid : Prop := Claim7.holds Tryd.pinned (.plain (OpenSpec.upto waveRowsSpec)) waveRowsUptoCard
end Rows
end Go.Proofs.YtjfbfkjmbegacaaDoor
