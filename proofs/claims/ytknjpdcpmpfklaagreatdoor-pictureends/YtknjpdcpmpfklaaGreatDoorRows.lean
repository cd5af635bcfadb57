/-
  NARROWER THAN 'FOR EVERY INPUT', by the rows' own cells (each row's printed sentence says how): PictureTells: laid · PictureKeeps: laid · PictureEnds: laid · PictureStill: laid · PictureNeeds: laid.
  DERIVED. THE GIVEN ROWS OF THIS SEAT. 5 by the template 'for every input the law returns true; each argument reads behind the call as it read before'; 0 by the template 'total and deterministic' (their statements: YtknjpdcpmpfklaaGreatDoorTotals.lean).
  GIVEN WITH THE SEED: the statements are not yours to turn. If you find one false, say at which input.
  Laid BY PROGRAM, IN A SANDBOX (cutbox-rows.mjs): the forced cells as the released guide's own fill.sh prints them over the translation aa17e59501846223… (all of the seat's roots in one cut). By AI agents, Wed Nov 11 2026. No macro, syntax, notation, axiom, sorry.
-/
import Derived.Test.YtknjpdcpmpfklaaGreatDoorChecked
import GoSem.Claim
import GoSem.ClaimJoined
import GoSem.ClaimMapViews
import Derived.JoinedTies
import Derived.KernelRfl
namespace Go.Proofs.YtknjpdcpmpfklaaGreatDoor
/- THE CELL 'sum', in the pinned program and in every row, IS THE sha256 OF THE DUMP (.gsa) THAT YtknjpdcpmpfklaaGreatDoorProg.lean LOADS. Nothing in Lean hashes anything: it is a label: what it is worth is what the hold of that sum in a sandbox is worth. -/
noncomputable def Tryz.pinned : Pinned := { name := "ytknjpdcpmpfklaagreatdoor", sum := "aa17e59501846223d3c60609ec877ea749f1cd46773f981e5998f152a3554271", checked := Tryz.checked }
namespace Rows
def none {H : Type} : Left H := { results := [], args := [] }

/- WHAT THE LISTED PACKAGE-LEVEL VARIABLES READ AS WHEN THE CALL BEGINS. Each datum BY PROGRAM (the guide's laid-datum.mjs) off the statement by which the dump's own 'gosem.cut.vars' lays the variable. In a bare row this is a premise. The card (YtknjpdcpmpfklaaGreatDoorCards.lean) ties it to the program's text. -/
def laid_clapboard_quant_steps {H : Type} : DataW H := .agg [.lit (.int .i64 1), .lit (.int .i64 2), .lit (.int .i64 3), .lit (.int .i64 4), .lit (.int .i64 5), .lit (.int .i64 6), .lit (.int .i64 8), .lit (.int .i64 10), .lit (.int .i64 12), .lit (.int .i64 16), .lit (.int .i64 20), .lit (.int .i64 24), .lit (.int .i64 32), .lit (.int .i64 40), .lit (.int .i64 48), .lit (.int .i64 64), .lit (.int .i64 80), .lit (.int .i64 96), .lit (.int .i64 128), .lit (.int .i64 160), .lit (.int .i64 192)]
def laid_clapboard_scan_order {H : Type} : DataW H := .agg [.lit (.int .i64 0), .lit (.int .i64 1), .lit (.int .i64 4), .lit (.int .i64 8), .lit (.int .i64 5), .lit (.int .i64 2), .lit (.int .i64 3), .lit (.int .i64 6), .lit (.int .i64 9), .lit (.int .i64 12), .lit (.int .i64 13), .lit (.int .i64 10), .lit (.int .i64 7), .lit (.int .i64 11), .lit (.int .i64 14), .lit (.int .i64 15)]
def laid_clapboard_wave_waves {H : Type} : DataW H := .agg [.agg [.lit (.int .i64 1), .lit (.int .i64 1), .lit (.int .i64 1), .lit (.int .i64 1)], .agg [.lit (.int .i64 1), .lit (.int .i64 1), .lit (.int .i64 (-1)), .lit (.int .i64 (-1))], .agg [.lit (.int .i64 1), .lit (.int .i64 (-1)), .lit (.int .i64 (-1)), .lit (.int .i64 1)], .agg [.lit (.int .i64 1), .lit (.int .i64 (-1)), .lit (.int .i64 1), .lit (.int .i64 (-1))]]
def laid_clapboard_block_acts {H : Type} : DataW H := .agg [.agg [.lit (.int .i64 0), .lit (.bool false), .lit (.bool false)], .agg [.lit (.int .i64 0), .lit (.bool false), .lit (.bool false)], .agg [.lit (.int .i64 0), .lit (.bool false), .lit (.bool false)], .agg [.lit (.int .i64 0), .lit (.bool false), .lit (.bool false)], .agg [.lit (.int .i64 1), .lit (.bool true), .lit (.bool false)], .agg [.lit (.int .i64 2), .lit (.bool false), .lit (.bool true)], .agg [.lit (.int .i64 2), .lit (.bool true), .lit (.bool true)]]

/-- 'clapboardlaw13.PictureTells': WHATEVER THE INPUT: true; the input reads as it did. -/
def pictureTellsSpec : ChangeSpec := { name := "pictureTells", fn := fun _ => fun
  | [d1, d2, d3, d4, d5] => { results := [.lit (.bool true)], args := [d1, d2, d3, d4, d5] }
  | _ => none }
def pictureTellsRow : OpenClaim := { program := "ytknjpdcpmpfklaagreatdoor", sum := "aa17e59501846223d3c60609ec877ea749f1cd46773f981e5998f152a3554271", func := "clapboard/clapboardlaw13.PictureTells", spec := "pictureTells", inPlace := ["internal/bytealg.MakeNoZero"], unfollowed := true, recurses := true, named := ["clapboard/block.acts", "clapboard/scan.order", "clapboard/quant.steps", "clapboard/wave.waves"], plainKeys := false, apart := false, laid := [("clapboard/quant.steps", laid_clapboard_quant_steps), ("clapboard/scan.order", laid_clapboard_scan_order), ("clapboard/wave.waves", laid_clapboard_wave_waves), ("clapboard/block.acts", laid_clapboard_block_acts)] }
def PictureTellsSaid : Prop := pictureTellsRow.holds Tryz.pinned (OpenSpec.ofChange pictureTellsSpec)

/-- ITS FALSE NEIGHBOUR: 'it returns false'. Refute it at one input. -/
def pictureTellsWrong : ChangeSpec := { name := "pictureTells", fn := fun _ => fun
  | [d1, d2, d3, d4, d5] => { results := [.lit (.bool false)], args := [d1, d2, d3, d4, d5] }
  | _ => none }
def PictureTellsWrongFalsely : Prop := pictureTellsRow.holds Tryz.pinned (OpenSpec.ofChange pictureTellsWrong)

/-- 'clapboardlaw13.PictureKeeps': WHATEVER THE INPUT: true; the input reads as it did. -/
def pictureKeepsSpec : ChangeSpec := { name := "pictureKeeps", fn := fun _ => fun
  | [d1, d2, d3, d4, d5, d6, d7] => { results := [.lit (.bool true)], args := [d1, d2, d3, d4, d5, d6, d7] }
  | _ => none }
def pictureKeepsRow : OpenClaim := { program := "ytknjpdcpmpfklaagreatdoor", sum := "aa17e59501846223d3c60609ec877ea749f1cd46773f981e5998f152a3554271", func := "clapboard/clapboardlaw13.PictureKeeps", spec := "pictureKeeps", inPlace := ["internal/bytealg.MakeNoZero"], unfollowed := true, recurses := true, named := ["clapboard/block.acts", "clapboard/scan.order", "clapboard/quant.steps", "clapboard/wave.waves"], plainKeys := false, apart := false, laid := [("clapboard/quant.steps", laid_clapboard_quant_steps), ("clapboard/scan.order", laid_clapboard_scan_order), ("clapboard/wave.waves", laid_clapboard_wave_waves), ("clapboard/block.acts", laid_clapboard_block_acts)] }
def PictureKeepsSaid : Prop := pictureKeepsRow.holds Tryz.pinned (OpenSpec.ofChange pictureKeepsSpec)

/-- ITS FALSE NEIGHBOUR: 'it returns false'. Refute it at one input. -/
def pictureKeepsWrong : ChangeSpec := { name := "pictureKeeps", fn := fun _ => fun
  | [d1, d2, d3, d4, d5, d6, d7] => { results := [.lit (.bool false)], args := [d1, d2, d3, d4, d5, d6, d7] }
  | _ => none }
def PictureKeepsWrongFalsely : Prop := pictureKeepsRow.holds Tryz.pinned (OpenSpec.ofChange pictureKeepsWrong)

/-- 'clapboardlaw13.PictureEnds': WHATEVER THE INPUT: true; the input reads as it did. -/
def pictureEndsSpec : ChangeSpec := { name := "pictureEnds", fn := fun _ => fun
  | [d1, d2, d3, d4] => { results := [.lit (.bool true)], args := [d1, d2, d3, d4] }
  | _ => none }
def pictureEndsRow : OpenClaim := { program := "ytknjpdcpmpfklaagreatdoor", sum := "aa17e59501846223d3c60609ec877ea749f1cd46773f981e5998f152a3554271", func := "clapboard/clapboardlaw13.PictureEnds", spec := "pictureEnds", inPlace := ["internal/bytealg.MakeNoZero"], unfollowed := true, recurses := true, named := ["clapboard/block.acts", "clapboard/scan.order", "clapboard/quant.steps", "clapboard/wave.waves"], plainKeys := false, apart := false, laid := [("clapboard/quant.steps", laid_clapboard_quant_steps), ("clapboard/scan.order", laid_clapboard_scan_order), ("clapboard/wave.waves", laid_clapboard_wave_waves), ("clapboard/block.acts", laid_clapboard_block_acts)] }
def PictureEndsSaid : Prop := pictureEndsRow.holds Tryz.pinned (OpenSpec.ofChange pictureEndsSpec)

/-- ITS FALSE NEIGHBOUR: 'it returns false'. Refute it at one input. -/
def pictureEndsWrong : ChangeSpec := { name := "pictureEnds", fn := fun _ => fun
  | [d1, d2, d3, d4] => { results := [.lit (.bool false)], args := [d1, d2, d3, d4] }
  | _ => none }
def PictureEndsWrongFalsely : Prop := pictureEndsRow.holds Tryz.pinned (OpenSpec.ofChange pictureEndsWrong)

/-- 'clapboardlaw13.PictureStill': WHATEVER THE INPUT: true; the input reads as it did. -/
def pictureStillSpec : ChangeSpec := { name := "pictureStill", fn := fun _ => fun
  | [d1, d2, d3, d4] => { results := [.lit (.bool true)], args := [d1, d2, d3, d4] }
  | _ => none }
def pictureStillRow : OpenClaim := { program := "ytknjpdcpmpfklaagreatdoor", sum := "aa17e59501846223d3c60609ec877ea749f1cd46773f981e5998f152a3554271", func := "clapboard/clapboardlaw13.PictureStill", spec := "pictureStill", inPlace := ["internal/bytealg.MakeNoZero"], unfollowed := true, recurses := true, named := ["clapboard/block.acts", "clapboard/scan.order", "clapboard/quant.steps", "clapboard/wave.waves"], plainKeys := false, apart := false, laid := [("clapboard/quant.steps", laid_clapboard_quant_steps), ("clapboard/scan.order", laid_clapboard_scan_order), ("clapboard/wave.waves", laid_clapboard_wave_waves), ("clapboard/block.acts", laid_clapboard_block_acts)] }
def PictureStillSaid : Prop := pictureStillRow.holds Tryz.pinned (OpenSpec.ofChange pictureStillSpec)

/-- ITS FALSE NEIGHBOUR: 'it returns false'. Refute it at one input. -/
def pictureStillWrong : ChangeSpec := { name := "pictureStill", fn := fun _ => fun
  | [d1, d2, d3, d4] => { results := [.lit (.bool false)], args := [d1, d2, d3, d4] }
  | _ => none }
def PictureStillWrongFalsely : Prop := pictureStillRow.holds Tryz.pinned (OpenSpec.ofChange pictureStillWrong)

/-- 'clapboardlaw13.PictureNeeds': WHATEVER THE INPUT: true; the input reads as it did. -/
def pictureNeedsSpec : ChangeSpec := { name := "pictureNeeds", fn := fun _ => fun
  | [d1, d2, d3, d4, d5] => { results := [.lit (.bool true)], args := [d1, d2, d3, d4, d5] }
  | _ => none }
def pictureNeedsRow : OpenClaim := { program := "ytknjpdcpmpfklaagreatdoor", sum := "aa17e59501846223d3c60609ec877ea749f1cd46773f981e5998f152a3554271", func := "clapboard/clapboardlaw13.PictureNeeds", spec := "pictureNeeds", inPlace := ["internal/bytealg.MakeNoZero"], unfollowed := true, recurses := true, named := ["clapboard/block.acts", "clapboard/scan.order", "clapboard/quant.steps", "clapboard/wave.waves"], plainKeys := false, apart := false, laid := [("clapboard/quant.steps", laid_clapboard_quant_steps), ("clapboard/scan.order", laid_clapboard_scan_order), ("clapboard/wave.waves", laid_clapboard_wave_waves), ("clapboard/block.acts", laid_clapboard_block_acts)] }
def PictureNeedsSaid : Prop := pictureNeedsRow.holds Tryz.pinned (OpenSpec.ofChange pictureNeedsSpec)

/-- ITS FALSE NEIGHBOUR: 'it returns false'. Refute it at one input. -/
def pictureNeedsWrong : ChangeSpec := { name := "pictureNeeds", fn := fun _ => fun
  | [d1, d2, d3, d4, d5] => { results := [.lit (.bool false)], args := [d1, d2, d3, d4, d5] }
  | _ => none }
def PictureNeedsWrongFalsely : Prop := pictureNeedsRow.holds Tryz.pinned (OpenSpec.ofChange pictureNeedsWrong)

/- THE SECOND FORM. 'bulk': how many values and letters a reading holds, each counted each time it is reached (what is shared counts as often as it is met; a slice's spare places count too). A statement '..UptoSaid' is the law's where the arguments, and the package variables that the reading takes, are together of bulk at most 1048576: NARROWER than '..Said'. Prove '..Said' where nothing that the law and all that it calls make is longer than what came in: it says more and counts as full. Else prove '..UptoSaid'. A law counts once. -/
mutual
def uptoBulk {H : Type} : DataW H → Nat
  | .lit (.string bytes) => bytes.length + 1
  | .lit _ => 1
  | .nil => 1
  | .ptr d => uptoBulk d + 1
  | .slice elems spare => uptoBulkAll elems + uptoBulkAll spare + 1
  | .agg parts => uptoBulkAll parts + 1
  | .iface _ d => uptoBulk d + 1
  | .map entries => uptoBulkEntries entries + 1
  | .held _ => 1
def uptoBulkAll {H : Type} : List (DataW H) → Nat
  | [] => 0
  | d :: r => uptoBulk d + uptoBulkAll r
def uptoBulkEntries {H : Type} : List (Lit × DataW H) → Nat
  | [] => 0
  | x :: r => uptoBulkEntry x + uptoBulkEntries r
def uptoBulkEntry {H : Type} : Lit × DataW H → Nat
  | (.string bytes, d) => bytes.length + uptoBulk d + 1
  | (_, d) => uptoBulk d + 1
 end
def uptoSmall : (H : Type) → List (DataW H) → Bool := fun _ ds => decide (uptoBulkAll ds ≤ 1048576)
def OpenSpec.upto (s : _root_.Go.ChangeSpec) : _root_.Go.OpenSpec := { _root_.Go.OpenSpec.ofChange s with cond := some uptoSmall }

/-- 'clapboardlaw13.PictureTells', WHERE WHAT IT READS IS OF BULK AT MOST 1048576: true; the input reads as it did. -/
def pictureTellsUptoRow : OpenClaim := { program := "ytknjpdcpmpfklaagreatdoor", sum := "aa17e59501846223d3c60609ec877ea749f1cd46773f981e5998f152a3554271", func := "clapboard/clapboardlaw13.PictureTells", spec := "pictureTells", inPlace := ["internal/bytealg.MakeNoZero"], unfollowed := true, recurses := true, named := ["clapboard/block.acts", "clapboard/scan.order", "clapboard/quant.steps", "clapboard/wave.waves"], plainKeys := false, apart := false, laid := [("clapboard/quant.steps", laid_clapboard_quant_steps), ("clapboard/scan.order", laid_clapboard_scan_order), ("clapboard/wave.waves", laid_clapboard_wave_waves), ("clapboard/block.acts", laid_clapboard_block_acts)], narrowed := true }
def PictureTellsUptoSaid : Prop := pictureTellsUptoRow.holds Tryz.pinned (OpenSpec.upto pictureTellsSpec)

/-- 'clapboardlaw13.PictureKeeps', WHERE WHAT IT READS IS OF BULK AT MOST 1048576: true; the input reads as it did. -/
def pictureKeepsUptoRow : OpenClaim := { program := "ytknjpdcpmpfklaagreatdoor", sum := "aa17e59501846223d3c60609ec877ea749f1cd46773f981e5998f152a3554271", func := "clapboard/clapboardlaw13.PictureKeeps", spec := "pictureKeeps", inPlace := ["internal/bytealg.MakeNoZero"], unfollowed := true, recurses := true, named := ["clapboard/block.acts", "clapboard/scan.order", "clapboard/quant.steps", "clapboard/wave.waves"], plainKeys := false, apart := false, laid := [("clapboard/quant.steps", laid_clapboard_quant_steps), ("clapboard/scan.order", laid_clapboard_scan_order), ("clapboard/wave.waves", laid_clapboard_wave_waves), ("clapboard/block.acts", laid_clapboard_block_acts)], narrowed := true }
def PictureKeepsUptoSaid : Prop := pictureKeepsUptoRow.holds Tryz.pinned (OpenSpec.upto pictureKeepsSpec)

/-- 'clapboardlaw13.PictureEnds', WHERE WHAT IT READS IS OF BULK AT MOST 1048576: true; the input reads as it did. -/
def pictureEndsUptoRow : OpenClaim := { program := "ytknjpdcpmpfklaagreatdoor", sum := "aa17e59501846223d3c60609ec877ea749f1cd46773f981e5998f152a3554271", func := "clapboard/clapboardlaw13.PictureEnds", spec := "pictureEnds", inPlace := ["internal/bytealg.MakeNoZero"], unfollowed := true, recurses := true, named := ["clapboard/block.acts", "clapboard/scan.order", "clapboard/quant.steps", "clapboard/wave.waves"], plainKeys := false, apart := false, laid := [("clapboard/quant.steps", laid_clapboard_quant_steps), ("clapboard/scan.order", laid_clapboard_scan_order), ("clapboard/wave.waves", laid_clapboard_wave_waves), ("clapboard/block.acts", laid_clapboard_block_acts)], narrowed := true }
def PictureEndsUptoSaid : Prop := pictureEndsUptoRow.holds Tryz.pinned (OpenSpec.upto pictureEndsSpec)

/-- 'clapboardlaw13.PictureStill', WHERE WHAT IT READS IS OF BULK AT MOST 1048576: true; the input reads as it did. -/
def pictureStillUptoRow : OpenClaim := { program := "ytknjpdcpmpfklaagreatdoor", sum := "aa17e59501846223d3c60609ec877ea749f1cd46773f981e5998f152a3554271", func := "clapboard/clapboardlaw13.PictureStill", spec := "pictureStill", inPlace := ["internal/bytealg.MakeNoZero"], unfollowed := true, recurses := true, named := ["clapboard/block.acts", "clapboard/scan.order", "clapboard/quant.steps", "clapboard/wave.waves"], plainKeys := false, apart := false, laid := [("clapboard/quant.steps", laid_clapboard_quant_steps), ("clapboard/scan.order", laid_clapboard_scan_order), ("clapboard/wave.waves", laid_clapboard_wave_waves), ("clapboard/block.acts", laid_clapboard_block_acts)], narrowed := true }
def PictureStillUptoSaid : Prop := pictureStillUptoRow.holds Tryz.pinned (OpenSpec.upto pictureStillSpec)

/-- 'clapboardlaw13.PictureNeeds', WHERE WHAT IT READS IS OF BULK AT MOST 1048576: true; the input reads as it did. -/
def pictureNeedsUptoRow : OpenClaim := { program := "ytknjpdcpmpfklaagreatdoor", sum := "aa17e59501846223d3c60609ec877ea749f1cd46773f981e5998f152a3554271", func := "clapboard/clapboardlaw13.PictureNeeds", spec := "pictureNeeds", inPlace := ["internal/bytealg.MakeNoZero"], unfollowed := true, recurses := true, named := ["clapboard/block.acts", "clapboard/scan.order", "clapboard/quant.steps", "clapboard/wave.waves"], plainKeys := false, apart := false, laid := [("clapboard/quant.steps", laid_clapboard_quant_steps), ("clapboard/scan.order", laid_clapboard_scan_order), ("clapboard/wave.waves", laid_clapboard_wave_waves), ("clapboard/block.acts", laid_clapboard_block_acts)], narrowed := true }
def PictureNeedsUptoSaid : Prop := pictureNeedsUptoRow.holds Tryz.pinned (OpenSpec.upto pictureNeedsSpec)

end Rows
end Go.Proofs.YtknjpdcpmpfklaaGreatDoor
