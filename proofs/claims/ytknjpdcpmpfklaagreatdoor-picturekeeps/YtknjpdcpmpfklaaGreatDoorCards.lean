/-
  DERIVED. GIVEN WITH THE SEED: THE CARDS: each row of YtknjpdcpmpfklaaGreatDoorRows.lean that lists a variable, with what it lists TIED to the program's text (the seventh form; the later family's looks); each row that meets fmt, with fmt's text TOLD by the authors' own Lean function (tested against real Go, not proved from fmt's source: count such statements apart). THE CARD IS WHAT COUNTS. Prove the row's statement (the work); the ties are given (YtknjpdcpmpfklaaGreatDoorTie.lean); close each card by the builder's one call (the guide's Derived/Test/ToyasCard.lean, 'card_holds'). Laid BY PROGRAM, IN A SANDBOX (cutbox-door.mjs). By AI agents, Wed Nov 11 2026. No macro, syntax, notation, axiom, sorry.
-/
import Derived.Test.YtknjpdcpmpfklaaGreatDoorRows
import GoSem.ClaimSeven
namespace Go.Proofs.YtknjpdcpmpfklaaGreatDoor
namespace Rows

/-- THE TIED CARD OF 'clapboardlaw13.PictureTells'. -/
def pictureTellsCard : Claim7 := { stood := { row := pictureTellsRow, standIns := [], harness := (true, "079ad52b30e68e07d5fcda316d9825e40970f4e7c62b0d6b8e9e37b0d6e84aba"), looks := false }, kinds := [], alts := [], laidByText := true, laidKinds := [.data, .data, .data, .data], laidTests := true, laidLooks := .later }
def PictureTellsCardSaid : Prop := Claim7.holds Tryz.pinned (.plain (OpenSpec.ofChange pictureTellsSpec)) pictureTellsCard

/-- THE TIED CARD OF 'clapboardlaw13.PictureKeeps'. -/
def pictureKeepsCard : Claim7 := { stood := { row := pictureKeepsRow, standIns := [], harness := (true, "079ad52b30e68e07d5fcda316d9825e40970f4e7c62b0d6b8e9e37b0d6e84aba"), looks := false }, kinds := [], alts := [], laidByText := true, laidKinds := [.data, .data, .data, .data], laidTests := true, laidLooks := .later }
def PictureKeepsCardSaid : Prop := Claim7.holds Tryz.pinned (.plain (OpenSpec.ofChange pictureKeepsSpec)) pictureKeepsCard

/-- THE TIED CARD OF 'clapboardlaw13.PictureEnds'. -/
def pictureEndsCard : Claim7 := { stood := { row := pictureEndsRow, standIns := [], harness := (true, "079ad52b30e68e07d5fcda316d9825e40970f4e7c62b0d6b8e9e37b0d6e84aba"), looks := false }, kinds := [], alts := [], laidByText := true, laidKinds := [.data, .data, .data, .data], laidTests := true, laidLooks := .later }
def PictureEndsCardSaid : Prop := Claim7.holds Tryz.pinned (.plain (OpenSpec.ofChange pictureEndsSpec)) pictureEndsCard

/-- THE TIED CARD OF 'clapboardlaw13.PictureStill'. -/
def pictureStillCard : Claim7 := { stood := { row := pictureStillRow, standIns := [], harness := (true, "079ad52b30e68e07d5fcda316d9825e40970f4e7c62b0d6b8e9e37b0d6e84aba"), looks := false }, kinds := [], alts := [], laidByText := true, laidKinds := [.data, .data, .data, .data], laidTests := true, laidLooks := .later }
def PictureStillCardSaid : Prop := Claim7.holds Tryz.pinned (.plain (OpenSpec.ofChange pictureStillSpec)) pictureStillCard

/-- THE TIED CARD OF 'clapboardlaw13.PictureNeeds'. -/
def pictureNeedsCard : Claim7 := { stood := { row := pictureNeedsRow, standIns := [], harness := (true, "079ad52b30e68e07d5fcda316d9825e40970f4e7c62b0d6b8e9e37b0d6e84aba"), looks := false }, kinds := [], alts := [], laidByText := true, laidKinds := [.data, .data, .data, .data], laidTests := true, laidLooks := .later }
def PictureNeedsCardSaid : Prop := Claim7.holds Tryz.pinned (.plain (OpenSpec.ofChange pictureNeedsSpec)) pictureNeedsCard

/-- THE SECOND FORM's CARD OF 'clapboardlaw13.PictureTells'. -/
def pictureTellsUptoCard : Claim7 := { stood := { row := pictureTellsUptoRow, standIns := [], harness := (true, "079ad52b30e68e07d5fcda316d9825e40970f4e7c62b0d6b8e9e37b0d6e84aba"), looks := false }, kinds := [], alts := [], laidByText := true, laidKinds := [.data, .data, .data, .data], laidTests := true, laidLooks := .later }
def PictureTellsUptoCardSaid : Prop := Claim7.holds Tryz.pinned (.plain (OpenSpec.upto pictureTellsSpec)) pictureTellsUptoCard

/-- THE SECOND FORM's CARD OF 'clapboardlaw13.PictureKeeps'. -/
def pictureKeepsUptoCard : Claim7 := { stood := { row := pictureKeepsUptoRow, standIns := [], harness := (true, "079ad52b30e68e07d5fcda316d9825e40970f4e7c62b0d6b8e9e37b0d6e84aba"), looks := false }, kinds := [], alts := [], laidByText := true, laidKinds := [.data, .data, .data, .data], laidTests := true, laidLooks := .later }
def PictureKeepsUptoCardSaid : Prop := Claim7.holds Tryz.pinned (.plain (OpenSpec.upto pictureKeepsSpec)) pictureKeepsUptoCard

/-- THE SECOND FORM's CARD OF 'clapboardlaw13.PictureEnds'. -/
def pictureEndsUptoCard : Claim7 := { stood := { row := pictureEndsUptoRow, standIns := [], harness := (true, "079ad52b30e68e07d5fcda316d9825e40970f4e7c62b0d6b8e9e37b0d6e84aba"), looks := false }, kinds := [], alts := [], laidByText := true, laidKinds := [.data, .data, .data, .data], laidTests := true, laidLooks := .later }
def PictureEndsUptoCardSaid : Prop := Claim7.holds Tryz.pinned (.plain (OpenSpec.upto pictureEndsSpec)) pictureEndsUptoCard

/-- THE SECOND FORM's CARD OF 'clapboardlaw13.PictureStill'. -/
def pictureStillUptoCard : Claim7 := { stood := { row := pictureStillUptoRow, standIns := [], harness := (true, "079ad52b30e68e07d5fcda316d9825e40970f4e7c62b0d6b8e9e37b0d6e84aba"), looks := false }, kinds := [], alts := [], laidByText := true, laidKinds := [.data, .data, .data, .data], laidTests := true, laidLooks := .later }
def PictureStillUptoCardSaid : Prop := Claim7.holds Tryz.pinned (.plain (OpenSpec.upto pictureStillSpec)) pictureStillUptoCard

/-- THE SECOND FORM's CARD OF 'clapboardlaw13.PictureNeeds'. -/
def pictureNeedsUptoCard : Claim7 := { stood := { row := pictureNeedsUptoRow, standIns := [], harness := (true, "079ad52b30e68e07d5fcda316d9825e40970f4e7c62b0d6b8e9e37b0d6e84aba"), looks := false }, kinds := [], alts := [], laidByText := true, laidKinds := [.data, .data, .data, .data], laidTests := true, laidLooks := .later }
def PictureNeedsUptoCardSaid : Prop := Claim7.holds Tryz.pinned (.plain (OpenSpec.upto pictureNeedsSpec)) pictureNeedsUptoCard
end Rows
end Go.Proofs.YtknjpdcpmpfklaaGreatDoor
