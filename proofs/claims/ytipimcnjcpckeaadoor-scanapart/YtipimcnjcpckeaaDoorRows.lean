/-
  NARROWER THAN 'FOR EVERY INPUT', by the rows' own cells (each row's printed sentence says how): ScanTells: laid · ScanReads: laid · ScanBack: laid · ScanPlaces: laid · ScanOne: laid · ScanApart: laid.
  DERIVED. THE GIVEN ROWS OF THIS SEAT. 6 by the template 'for every input the law returns true; each argument reads behind the call as it read before'; 0 by the template 'total and deterministic' (their statements: YtipimcnjcpckeaaDoorTotals.lean).
  GIVEN WITH THE SEED: the statements are not yours to turn. If you find one false, say at which input.
  Laid BY PROGRAM, IN A SANDBOX (cutbox-rows.mjs): the forced cells as the released guide's own fill.sh prints them over the translation ebbc0c7f1acea407… (all of the seat's roots in one cut). By AI agents, Wed Nov 11 2026. No macro, syntax, notation, axiom, sorry.
-/
import Derived.Test.YtipimcnjcpckeaaDoorChecked
import GoSem.Claim
import GoSem.ClaimJoined
import GoSem.ClaimMapViews
import Derived.JoinedTies
import Derived.KernelRfl
namespace Go.Proofs.YtipimcnjcpckeaaDoor
/- THE CELL 'sum', in the pinned program and in every row, IS THE sha256 OF THE DUMP (.gsa) THAT YtipimcnjcpckeaaDoorProg.lean LOADS. Nothing in Lean hashes anything: it is a label: what it is worth is what the hold of that sum in a sandbox is worth. -/
noncomputable def Tryd.pinned : Pinned := { name := "ytipimcnjcpckeaadoor", sum := "ebbc0c7f1acea40727df9e26b953f1d09269fd462c2100402a6a69466b2bd473", checked := Tryd.checked }
namespace Rows
def none {H : Type} : Left H := { results := [], args := [] }

/- WHAT THE LISTED PACKAGE-LEVEL VARIABLES READ AS WHEN THE CALL BEGINS. Each datum BY PROGRAM (the guide's laid-datum.mjs) off the statement by which the dump's own 'gosem.cut.vars' lays the variable. In a bare row this is a premise. The card (YtipimcnjcpckeaaDoorCards.lean) ties it to the program's text. -/
def laid_clapboard_scan_order {H : Type} : DataW H := .agg [.lit (.int .i64 0), .lit (.int .i64 1), .lit (.int .i64 4), .lit (.int .i64 8), .lit (.int .i64 5), .lit (.int .i64 2), .lit (.int .i64 3), .lit (.int .i64 6), .lit (.int .i64 9), .lit (.int .i64 12), .lit (.int .i64 13), .lit (.int .i64 10), .lit (.int .i64 7), .lit (.int .i64 11), .lit (.int .i64 14), .lit (.int .i64 15)]

/-- 'clapboardlaw06.ScanTells': WHATEVER THE INPUT: true; the input reads as it did. -/
def scanTellsSpec : ChangeSpec := { name := "scanTells", fn := fun _ => fun
  | [d] => { results := [.lit (.bool true)], args := [d] }
  | _ => none }
def scanTellsRow : OpenClaim := { program := "ytipimcnjcpckeaadoor", sum := "ebbc0c7f1acea40727df9e26b953f1d09269fd462c2100402a6a69466b2bd473", func := "clapboard/clapboardlaw06.ScanTells", spec := "scanTells", unfollowed := true, recurses := true, named := ["clapboard/scan.order"], apart := false, laid := [("clapboard/scan.order", laid_clapboard_scan_order)] }
def ScanTellsSaid : Prop := scanTellsRow.holds Tryd.pinned (OpenSpec.ofChange scanTellsSpec)

/-- ITS FALSE NEIGHBOUR: 'it returns false'. Refute it at one input. -/
def scanTellsWrong : ChangeSpec := { name := "scanTells", fn := fun _ => fun
  | [d] => { results := [.lit (.bool false)], args := [d] }
  | _ => none }
def ScanTellsWrongFalsely : Prop := scanTellsRow.holds Tryd.pinned (OpenSpec.ofChange scanTellsWrong)

/-- 'clapboardlaw06.ScanReads': WHATEVER THE INPUT: true; the input reads as it did. -/
def scanReadsSpec : ChangeSpec := { name := "scanReads", fn := fun _ => fun
  | [d1, d2] => { results := [.lit (.bool true)], args := [d1, d2] }
  | _ => none }
def scanReadsRow : OpenClaim := { program := "ytipimcnjcpckeaadoor", sum := "ebbc0c7f1acea40727df9e26b953f1d09269fd462c2100402a6a69466b2bd473", func := "clapboard/clapboardlaw06.ScanReads", spec := "scanReads", unfollowed := true, recurses := true, named := ["clapboard/scan.order"], apart := false, laid := [("clapboard/scan.order", laid_clapboard_scan_order)] }
def ScanReadsSaid : Prop := scanReadsRow.holds Tryd.pinned (OpenSpec.ofChange scanReadsSpec)

/-- ITS FALSE NEIGHBOUR: 'it returns false'. Refute it at one input. -/
def scanReadsWrong : ChangeSpec := { name := "scanReads", fn := fun _ => fun
  | [d1, d2] => { results := [.lit (.bool false)], args := [d1, d2] }
  | _ => none }
def ScanReadsWrongFalsely : Prop := scanReadsRow.holds Tryd.pinned (OpenSpec.ofChange scanReadsWrong)

/-- 'clapboardlaw06.ScanBack': WHATEVER THE INPUT: true; the input reads as it did. -/
def scanBackSpec : ChangeSpec := { name := "scanBack", fn := fun _ => fun
  | [d] => { results := [.lit (.bool true)], args := [d] }
  | _ => none }
def scanBackRow : OpenClaim := { program := "ytipimcnjcpckeaadoor", sum := "ebbc0c7f1acea40727df9e26b953f1d09269fd462c2100402a6a69466b2bd473", func := "clapboard/clapboardlaw06.ScanBack", spec := "scanBack", unfollowed := true, recurses := true, named := ["clapboard/scan.order"], apart := false, laid := [("clapboard/scan.order", laid_clapboard_scan_order)] }
def ScanBackSaid : Prop := scanBackRow.holds Tryd.pinned (OpenSpec.ofChange scanBackSpec)

/-- ITS FALSE NEIGHBOUR: 'it returns false'. Refute it at one input. -/
def scanBackWrong : ChangeSpec := { name := "scanBack", fn := fun _ => fun
  | [d] => { results := [.lit (.bool false)], args := [d] }
  | _ => none }
def ScanBackWrongFalsely : Prop := scanBackRow.holds Tryd.pinned (OpenSpec.ofChange scanBackWrong)

/-- 'clapboardlaw06.ScanPlaces': WHATEVER THE INPUT: true; the input reads as it did. -/
def scanPlacesSpec : ChangeSpec := { name := "scanPlaces", fn := fun _ => fun
  | [d1, d2, d3] => { results := [.lit (.bool true)], args := [d1, d2, d3] }
  | _ => none }
def scanPlacesRow : OpenClaim := { program := "ytipimcnjcpckeaadoor", sum := "ebbc0c7f1acea40727df9e26b953f1d09269fd462c2100402a6a69466b2bd473", func := "clapboard/clapboardlaw06.ScanPlaces", spec := "scanPlaces", unfollowed := true, recurses := true, named := ["clapboard/scan.order"], apart := false, laid := [("clapboard/scan.order", laid_clapboard_scan_order)] }
def ScanPlacesSaid : Prop := scanPlacesRow.holds Tryd.pinned (OpenSpec.ofChange scanPlacesSpec)

/-- ITS FALSE NEIGHBOUR: 'it returns false'. Refute it at one input. -/
def scanPlacesWrong : ChangeSpec := { name := "scanPlaces", fn := fun _ => fun
  | [d1, d2, d3] => { results := [.lit (.bool false)], args := [d1, d2, d3] }
  | _ => none }
def ScanPlacesWrongFalsely : Prop := scanPlacesRow.holds Tryd.pinned (OpenSpec.ofChange scanPlacesWrong)

/-- 'clapboardlaw06.ScanOne': WHATEVER THE INPUT: true; the input reads as it did. -/
def scanOneSpec : ChangeSpec := { name := "scanOne", fn := fun _ => fun
  | [d1, d2, d3] => { results := [.lit (.bool true)], args := [d1, d2, d3] }
  | _ => none }
def scanOneRow : OpenClaim := { program := "ytipimcnjcpckeaadoor", sum := "ebbc0c7f1acea40727df9e26b953f1d09269fd462c2100402a6a69466b2bd473", func := "clapboard/clapboardlaw06.ScanOne", spec := "scanOne", unfollowed := true, recurses := true, named := ["clapboard/scan.order"], apart := false, laid := [("clapboard/scan.order", laid_clapboard_scan_order)] }
def ScanOneSaid : Prop := scanOneRow.holds Tryd.pinned (OpenSpec.ofChange scanOneSpec)

/-- ITS FALSE NEIGHBOUR: 'it returns false'. Refute it at one input. -/
def scanOneWrong : ChangeSpec := { name := "scanOne", fn := fun _ => fun
  | [d1, d2, d3] => { results := [.lit (.bool false)], args := [d1, d2, d3] }
  | _ => none }
def ScanOneWrongFalsely : Prop := scanOneRow.holds Tryd.pinned (OpenSpec.ofChange scanOneWrong)

/-- 'clapboardlaw06.ScanApart': WHATEVER THE INPUT: true; the input reads as it did. -/
def scanApartSpec : ChangeSpec := { name := "scanApart", fn := fun _ => fun
  | [d1, d2] => { results := [.lit (.bool true)], args := [d1, d2] }
  | _ => none }
def scanApartRow : OpenClaim := { program := "ytipimcnjcpckeaadoor", sum := "ebbc0c7f1acea40727df9e26b953f1d09269fd462c2100402a6a69466b2bd473", func := "clapboard/clapboardlaw06.ScanApart", spec := "scanApart", unfollowed := true, recurses := true, named := ["clapboard/scan.order"], apart := false, laid := [("clapboard/scan.order", laid_clapboard_scan_order)] }
def ScanApartSaid : Prop := scanApartRow.holds Tryd.pinned (OpenSpec.ofChange scanApartSpec)

/-- ITS FALSE NEIGHBOUR: 'it returns false'. Refute it at one input. -/
def scanApartWrong : ChangeSpec := { name := "scanApart", fn := fun _ => fun
  | [d1, d2] => { results := [.lit (.bool false)], args := [d1, d2] }
  | _ => none }
def ScanApartWrongFalsely : Prop := scanApartRow.holds Tryd.pinned (OpenSpec.ofChange scanApartWrong)

/- THE SECOND FORM. 'bulk': how many values and letters a reading holds, each counted each time it is reached (what is shared counts as often as it is met; a slice's spare places count too). A statement '..UptoSaid' is the law's where the arguments, and the package variables that the reading takes, are together of bulk at most 1048576: NARROWER than '..Said'. Prove '..Said' where nothing that the law and all that it calls make is longer than what came in: it says more and counts as full. Else prove '..UptoSaid'. A law counts once. -/
mutual
def uptoBulk {H : Type} : DataW H → Nat
  | .lit (.string bytes) => bytes.length + 1
  | .lit _ => 1
  | .nil => 1
  | .ptr d => uptoBulk d + 1
  | .slice elems spare => uptoBulkAll elems + uptoBulkAll spare + 1
  | .agg parts => uptoBulkAll parts + 1
  | .iface _ d => uptoBulk d + 1
  | .map entries => uptoBulkEntries entries + 1
  | .held _ => 1
def uptoBulkAll {H : Type} : List (DataW H) → Nat
  | [] => 0
  | d :: r => uptoBulk d + uptoBulkAll r
def uptoBulkEntries {H : Type} : List (Lit × DataW H) → Nat
  | [] => 0
  | x :: r => uptoBulkEntry x + uptoBulkEntries r
def uptoBulkEntry {H : Type} : Lit × DataW H → Nat
  | (.string bytes, d) => bytes.length + uptoBulk d + 1
  | (_, d) => uptoBulk d + 1
 end
def uptoSmall : (H : Type) → List (DataW H) → Bool := fun _ ds => decide (uptoBulkAll ds ≤ 1048576)
def OpenSpec.upto (s : _root_.Go.ChangeSpec) : _root_.Go.OpenSpec := { _root_.Go.OpenSpec.ofChange s with cond := some uptoSmall }

/-- 'clapboardlaw06.ScanTells', WHERE WHAT IT READS IS OF BULK AT MOST 1048576: true; the input reads as it did. -/
def scanTellsUptoRow : OpenClaim := { program := "ytipimcnjcpckeaadoor", sum := "ebbc0c7f1acea40727df9e26b953f1d09269fd462c2100402a6a69466b2bd473", func := "clapboard/clapboardlaw06.ScanTells", spec := "scanTells", unfollowed := true, recurses := true, named := ["clapboard/scan.order"], apart := false, laid := [("clapboard/scan.order", laid_clapboard_scan_order)], narrowed := true }
def ScanTellsUptoSaid : Prop := scanTellsUptoRow.holds Tryd.pinned (OpenSpec.upto scanTellsSpec)

/-- 'clapboardlaw06.ScanReads', WHERE WHAT IT READS IS OF BULK AT MOST 1048576: true; the input reads as it did. -/
def scanReadsUptoRow : OpenClaim := { program := "ytipimcnjcpckeaadoor", sum := "ebbc0c7f1acea40727df9e26b953f1d09269fd462c2100402a6a69466b2bd473", func := "clapboard/clapboardlaw06.ScanReads", spec := "scanReads", unfollowed := true, recurses := true, named := ["clapboard/scan.order"], apart := false, laid := [("clapboard/scan.order", laid_clapboard_scan_order)], narrowed := true }
def ScanReadsUptoSaid : Prop := scanReadsUptoRow.holds Tryd.pinned (OpenSpec.upto scanReadsSpec)

/-- 'clapboardlaw06.ScanBack', WHERE WHAT IT READS IS OF BULK AT MOST 1048576: true; the input reads as it did. -/
def scanBackUptoRow : OpenClaim := { program := "ytipimcnjcpckeaadoor", sum := "ebbc0c7f1acea40727df9e26b953f1d09269fd462c2100402a6a69466b2bd473", func := "clapboard/clapboardlaw06.ScanBack", spec := "scanBack", unfollowed := true, recurses := true, named := ["clapboard/scan.order"], apart := false, laid := [("clapboard/scan.order", laid_clapboard_scan_order)], narrowed := true }
def ScanBackUptoSaid : Prop := scanBackUptoRow.holds Tryd.pinned (OpenSpec.upto scanBackSpec)

/-- 'clapboardlaw06.ScanPlaces', WHERE WHAT IT READS IS OF BULK AT MOST 1048576: true; the input reads as it did. -/
def scanPlacesUptoRow : OpenClaim := { program := "ytipimcnjcpckeaadoor", sum := "ebbc0c7f1acea40727df9e26b953f1d09269fd462c2100402a6a69466b2bd473", func := "clapboard/clapboardlaw06.ScanPlaces", spec := "scanPlaces", unfollowed := true, recurses := true, named := ["clapboard/scan.order"], apart := false, laid := [("clapboard/scan.order", laid_clapboard_scan_order)], narrowed := true }
def ScanPlacesUptoSaid : Prop := scanPlacesUptoRow.holds Tryd.pinned (OpenSpec.upto scanPlacesSpec)

/-- 'clapboardlaw06.ScanOne', WHERE WHAT IT READS IS OF BULK AT MOST 1048576: true; the input reads as it did. -/
def scanOneUptoRow : OpenClaim := { program := "ytipimcnjcpckeaadoor", sum := "ebbc0c7f1acea40727df9e26b953f1d09269fd462c2100402a6a69466b2bd473", func := "clapboard/clapboardlaw06.ScanOne", spec := "scanOne", unfollowed := true, recurses := true, named := ["clapboard/scan.order"], apart := false, laid := [("clapboard/scan.order", laid_clapboard_scan_order)], narrowed := true }
def ScanOneUptoSaid : Prop := scanOneUptoRow.holds Tryd.pinned (OpenSpec.upto scanOneSpec)

/-- 'clapboardlaw06.ScanApart', WHERE WHAT IT READS IS OF BULK AT MOST 1048576: true; the input reads as it did. -/
def scanApartUptoRow : OpenClaim := { program := "ytipimcnjcpckeaadoor", sum := "ebbc0c7f1acea40727df9e26b953f1d09269fd462c2100402a6a69466b2bd473", func := "clapboard/clapboardlaw06.ScanApart", spec := "scanApart", unfollowed := true, recurses := true, named := ["clapboard/scan.order"], apart := false, laid := [("clapboard/scan.order", laid_clapboard_scan_order)], narrowed := true }
def ScanApartUptoSaid : Prop := scanApartUptoRow.holds Tryd.pinned (OpenSpec.upto scanApartSpec)

end Rows
end Go.Proofs.YtipimcnjcpckeaaDoor
