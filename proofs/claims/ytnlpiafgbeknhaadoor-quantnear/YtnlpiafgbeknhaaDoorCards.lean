/-
  DERIVED. GIVEN WITH THE SEED: THE CARDS: each row of YtnlpiafgbeknhaaDoorRows.lean that lists a variable, with what it lists TIED to the program's text (the seventh form; the later family's looks); each row that meets fmt, with fmt's text TOLD by the authors' own Lean function (tested against real Go, not proved from fmt's source: count such statements apart). THE CARD IS WHAT COUNTS. Prove the row's statement (the work); the ties are given (YtnlpiafgbeknhaaDoorTie.lean); close each card by the builder's one call (the guide's Derived/Test/ToyasCard.lean, 'card_holds'). Laid BY PROGRAM, IN A SANDBOX (cutbox-door.mjs). By AI agents, Wed Nov 11 2026. No macro, syntax, notation, axiom, sorry.
-/
import Derived.Test.YtnlpiafgbeknhaaDoorRows
import GoSem.ClaimSeven
namespace Go.Proofs.YtnlpiafgbeknhaaDoor
namespace Rows

/-- THE TIED CARD OF 'clapboardlaw05.QuantTells'. -/
def quantTellsCard : Claim7 := { stood := { row := quantTellsRow, standIns := [], harness := (true, "2eeefd0486f43143b1f990f85791fe0b3748c561b22e125dd462d2ac66086b78"), looks := false }, kinds := [], alts := [], laidByText := true, laidKinds := [.data], laidTests := true, laidLooks := .later }
def QuantTellsCardSaid : Prop := Claim7.holds Tryd.pinned (.plain (OpenSpec.ofChange quantTellsSpec)) quantTellsCard

/-- THE TIED CARD OF 'clapboardlaw05.QuantNear'. -/
def quantNearCard : Claim7 := { stood := { row := quantNearRow, standIns := [], harness := (true, "2eeefd0486f43143b1f990f85791fe0b3748c561b22e125dd462d2ac66086b78"), looks := false }, kinds := [], alts := [], laidByText := true, laidKinds := [.data], laidTests := true, laidLooks := .later }
def QuantNearCardSaid : Prop := Claim7.holds Tryd.pinned (.plain (OpenSpec.ofChange quantNearSpec)) quantNearCard

/-- THE TIED CARD OF 'clapboardlaw05.QuantWaves'. -/
def quantWavesCard : Claim7 := { stood := { row := quantWavesRow, standIns := [], harness := (true, "2eeefd0486f43143b1f990f85791fe0b3748c561b22e125dd462d2ac66086b78"), looks := false }, kinds := [], alts := [], laidByText := true, laidKinds := [.data, .data], laidTests := true, laidLooks := .later }
def QuantWavesCardSaid : Prop := Claim7.holds Tryd.pinned (.plain (OpenSpec.ofChange quantWavesSpec)) quantWavesCard

/-- THE TIED CARD OF 'clapboardlaw05.QuantRises'. -/
def quantRisesCard : Claim7 := { stood := { row := quantRisesRow, standIns := [], harness := (true, "2eeefd0486f43143b1f990f85791fe0b3748c561b22e125dd462d2ac66086b78"), looks := false }, kinds := [], alts := [], laidByText := true, laidKinds := [.data], laidTests := true, laidLooks := .later }
def QuantRisesCardSaid : Prop := Claim7.holds Tryd.pinned (.plain (OpenSpec.ofChange quantRisesSpec)) quantRisesCard

/-- THE TIED CARD OF 'clapboardlaw05.QuantCoarse'. -/
def quantCoarseCard : Claim7 := { stood := { row := quantCoarseRow, standIns := [], harness := (true, "2eeefd0486f43143b1f990f85791fe0b3748c561b22e125dd462d2ac66086b78"), looks := false }, kinds := [], alts := [], laidByText := true, laidKinds := [.data], laidTests := true, laidLooks := .later }
def QuantCoarseCardSaid : Prop := Claim7.holds Tryd.pinned (.plain (OpenSpec.ofChange quantCoarseSpec)) quantCoarseCard

/-- THE TIED CARD OF 'clapboardlaw05.QuantLittle'. -/
def quantLittleCard : Claim7 := { stood := { row := quantLittleRow, standIns := [], harness := (true, "2eeefd0486f43143b1f990f85791fe0b3748c561b22e125dd462d2ac66086b78"), looks := false }, kinds := [], alts := [], laidByText := true, laidKinds := [.data], laidTests := true, laidLooks := .later }
def QuantLittleCardSaid : Prop := Claim7.holds Tryd.pinned (.plain (OpenSpec.ofChange quantLittleSpec)) quantLittleCard

/-- THE SECOND FORM's CARD OF 'clapboardlaw05.QuantTells'. -/
def quantTellsUptoCard : Claim7 := { stood := { row := quantTellsUptoRow, standIns := [], harness := (true, "2eeefd0486f43143b1f990f85791fe0b3748c561b22e125dd462d2ac66086b78"), looks := false }, kinds := [], alts := [], laidByText := true, laidKinds := [.data], laidTests := true, laidLooks := .later }
def QuantTellsUptoCardSaid : Prop := Claim7.holds Tryd.pinned (.plain (OpenSpec.upto quantTellsSpec)) quantTellsUptoCard

/-- THE SECOND FORM's CARD OF 'clapboardlaw05.QuantNear'. -/
def quantNearUptoCard : Claim7 := { stood := { row := quantNearUptoRow, standIns := [], harness := (true, "2eeefd0486f43143b1f990f85791fe0b3748c561b22e125dd462d2ac66086b78"), looks := false }, kinds := [], alts := [], laidByText := true, laidKinds := [.data], laidTests := true, laidLooks := .later }
def QuantNearUptoCardSaid : Prop := Claim7.holds Tryd.pinned (.plain (OpenSpec.upto quantNearSpec)) quantNearUptoCard

/-- THE SECOND FORM's CARD OF 'clapboardlaw05.QuantWaves'. -/
def quantWavesUptoCard : Claim7 := { stood := { row := quantWavesUptoRow, standIns := [], harness := (true, "2eeefd0486f43143b1f990f85791fe0b3748c561b22e125dd462d2ac66086b78"), looks := false }, kinds := [], alts := [], laidByText := true, laidKinds := [.data, .data], laidTests := true, laidLooks := .later }
def QuantWavesUptoCardSaid : Prop := Claim7.holds Tryd.pinned (.plain (OpenSpec.upto quantWavesSpec)) quantWavesUptoCard

/-- THE SECOND FORM's CARD OF 'clapboardlaw05.QuantRises'. -/
def quantRisesUptoCard : Claim7 := { stood := { row := quantRisesUptoRow, standIns := [], harness := (true, "2eeefd0486f43143b1f990f85791fe0b3748c561b22e125dd462d2ac66086b78"), looks := false }, kinds := [], alts := [], laidByText := true, laidKinds := [.data], laidTests := true, laidLooks := .later }
def QuantRisesUptoCardSaid : Prop := Claim7.holds Tryd.pinned (.plain (OpenSpec.upto quantRisesSpec)) quantRisesUptoCard

/-- THE SECOND FORM's CARD OF 'clapboardlaw05.QuantCoarse'. -/
def quantCoarseUptoCard : Claim7 := { stood := { row := quantCoarseUptoRow, standIns := [], harness := (true, "2eeefd0486f43143b1f990f85791fe0b3748c561b22e125dd462d2ac66086b78"), looks := false }, kinds := [], alts := [], laidByText := true, laidKinds := [.data], laidTests := true, laidLooks := .later }
def QuantCoarseUptoCardSaid : Prop := Claim7.holds Tryd.pinned (.plain (OpenSpec.upto quantCoarseSpec)) quantCoarseUptoCard

/-- THE SECOND FORM's CARD OF 'clapboardlaw05.QuantLittle'. -/
def quantLittleUptoCard : Claim7 := { stood := { row := quantLittleUptoRow, standIns := [], harness := (true, "2eeefd0486f43143b1f990f85791fe0b3748c561b22e125dd462d2ac66086b78"), looks := false }, kinds := [], alts := [], laidByText := true, laidKinds := [.data], laidTests := true, laidLooks := .later }
def QuantLittleUptoCardSaid : Prop := Claim7.holds Tryd.pinned (.plain (OpenSpec.upto quantLittleSpec)) quantLittleUptoCard
end Rows
end Go.Proofs.YtnlpiafgbeknhaaDoor
