/-
  NARROWER THAN 'FOR EVERY INPUT', by the rows' own cells (each row's printed sentence says how): BlockTells: laid · BlockBack: laid · BlockNear: laid · BlockPlain: laid · BlockStill: laid · BlockRefuses: laid.
  DERIVED. THE GIVEN ROWS OF THIS SEAT. 6 by the template 'for every input the law returns true; each argument reads behind the call as it read before'; 0 by the template 'total and deterministic' (their statements: YtdcbabgcbkdlhaaDoorTotals.lean).
  GIVEN WITH THE SEED: the statements are not yours to turn. If you find one false, say at which input.
  Laid BY PROGRAM, IN A SANDBOX (cutbox-rows.mjs): the forced cells as the released guide's own fill.sh prints them over the translation 540d98bbbc571a31… (all of the seat's roots in one cut). By AI agents, Wed Nov 11 2026. No macro, syntax, notation, axiom, sorry.
-/
import Derived.Test.YtdcbabgcbkdlhaaDoorChecked
import GoSem.Claim
import GoSem.ClaimJoined
import GoSem.ClaimMapViews
import Derived.JoinedTies
import Derived.KernelRfl
namespace Go.Proofs.YtdcbabgcbkdlhaaDoor
/- THE CELL 'sum', in the pinned program and in every row, IS THE sha256 OF THE DUMP (.gsa) THAT YtdcbabgcbkdlhaaDoorProg.lean LOADS. Nothing in Lean hashes anything: it is a label: what it is worth is what the hold of that sum in a sandbox is worth. -/
noncomputable def Tryd.pinned : Pinned := { name := "ytdcbabgcbkdlhaadoor", sum := "540d98bbbc571a31393a2cc0b93c4e34c69da666ba98e726f4cf0ac62b7c47d3", checked := Tryd.checked }
namespace Rows
def none {H : Type} : Left H := { results := [], args := [] }

/- WHAT THE LISTED PACKAGE-LEVEL VARIABLES READ AS WHEN THE CALL BEGINS. Each datum BY PROGRAM (the guide's laid-datum.mjs) off the statement by which the dump's own 'gosem.cut.vars' lays the variable. In a bare row this is a premise. The card (YtdcbabgcbkdlhaaDoorCards.lean) ties it to the program's text. -/
def laid_clapboard_quant_steps {H : Type} : DataW H := .agg [.lit (.int .i64 1), .lit (.int .i64 2), .lit (.int .i64 3), .lit (.int .i64 4), .lit (.int .i64 5), .lit (.int .i64 6), .lit (.int .i64 8), .lit (.int .i64 10), .lit (.int .i64 12), .lit (.int .i64 16), .lit (.int .i64 20), .lit (.int .i64 24), .lit (.int .i64 32), .lit (.int .i64 40), .lit (.int .i64 48), .lit (.int .i64 64), .lit (.int .i64 80), .lit (.int .i64 96), .lit (.int .i64 128), .lit (.int .i64 160), .lit (.int .i64 192)]
def laid_clapboard_scan_order {H : Type} : DataW H := .agg [.lit (.int .i64 0), .lit (.int .i64 1), .lit (.int .i64 4), .lit (.int .i64 8), .lit (.int .i64 5), .lit (.int .i64 2), .lit (.int .i64 3), .lit (.int .i64 6), .lit (.int .i64 9), .lit (.int .i64 12), .lit (.int .i64 13), .lit (.int .i64 10), .lit (.int .i64 7), .lit (.int .i64 11), .lit (.int .i64 14), .lit (.int .i64 15)]
def laid_clapboard_wave_waves {H : Type} : DataW H := .agg [.agg [.lit (.int .i64 1), .lit (.int .i64 1), .lit (.int .i64 1), .lit (.int .i64 1)], .agg [.lit (.int .i64 1), .lit (.int .i64 1), .lit (.int .i64 (-1)), .lit (.int .i64 (-1))], .agg [.lit (.int .i64 1), .lit (.int .i64 (-1)), .lit (.int .i64 (-1)), .lit (.int .i64 1)], .agg [.lit (.int .i64 1), .lit (.int .i64 (-1)), .lit (.int .i64 1), .lit (.int .i64 (-1))]]
def laid_clapboard_block_acts {H : Type} : DataW H := .agg [.agg [.lit (.int .i64 0), .lit (.bool false), .lit (.bool false)], .agg [.lit (.int .i64 0), .lit (.bool false), .lit (.bool false)], .agg [.lit (.int .i64 0), .lit (.bool false), .lit (.bool false)], .agg [.lit (.int .i64 0), .lit (.bool false), .lit (.bool false)], .agg [.lit (.int .i64 1), .lit (.bool true), .lit (.bool false)], .agg [.lit (.int .i64 2), .lit (.bool false), .lit (.bool true)], .agg [.lit (.int .i64 2), .lit (.bool true), .lit (.bool true)]]

/-- 'clapboardlaw12.BlockTells': WHATEVER THE INPUT: true; the input reads as it did. -/
def blockTellsSpec : ChangeSpec := { name := "blockTells", fn := fun _ => fun
  | [d1, d2, d3, d4, d5] => { results := [.lit (.bool true)], args := [d1, d2, d3, d4, d5] }
  | _ => none }
def blockTellsRow : OpenClaim := { program := "ytdcbabgcbkdlhaadoor", sum := "540d98bbbc571a31393a2cc0b93c4e34c69da666ba98e726f4cf0ac62b7c47d3", func := "clapboard/clapboardlaw12.BlockTells", spec := "blockTells", unfollowed := true, recurses := true, named := ["clapboard/block.acts", "clapboard/scan.order", "clapboard/quant.steps", "clapboard/wave.waves"], apart := false, laid := [("clapboard/quant.steps", laid_clapboard_quant_steps), ("clapboard/scan.order", laid_clapboard_scan_order), ("clapboard/wave.waves", laid_clapboard_wave_waves), ("clapboard/block.acts", laid_clapboard_block_acts)] }
def BlockTellsSaid : Prop := blockTellsRow.holds Tryd.pinned (OpenSpec.ofChange blockTellsSpec)

/-- ITS FALSE NEIGHBOUR: 'it returns false'. Refute it at one input. -/
def blockTellsWrong : ChangeSpec := { name := "blockTells", fn := fun _ => fun
  | [d1, d2, d3, d4, d5] => { results := [.lit (.bool false)], args := [d1, d2, d3, d4, d5] }
  | _ => none }
def BlockTellsWrongFalsely : Prop := blockTellsRow.holds Tryd.pinned (OpenSpec.ofChange blockTellsWrong)

/-- 'clapboardlaw12.BlockBack': WHATEVER THE INPUT: true; the input reads as it did. -/
def blockBackSpec : ChangeSpec := { name := "blockBack", fn := fun _ => fun
  | [d1, d2, d3, d4] => { results := [.lit (.bool true)], args := [d1, d2, d3, d4] }
  | _ => none }
def blockBackRow : OpenClaim := { program := "ytdcbabgcbkdlhaadoor", sum := "540d98bbbc571a31393a2cc0b93c4e34c69da666ba98e726f4cf0ac62b7c47d3", func := "clapboard/clapboardlaw12.BlockBack", spec := "blockBack", unfollowed := true, recurses := true, named := ["clapboard/block.acts", "clapboard/scan.order", "clapboard/quant.steps", "clapboard/wave.waves"], apart := false, laid := [("clapboard/quant.steps", laid_clapboard_quant_steps), ("clapboard/scan.order", laid_clapboard_scan_order), ("clapboard/wave.waves", laid_clapboard_wave_waves), ("clapboard/block.acts", laid_clapboard_block_acts)] }
def BlockBackSaid : Prop := blockBackRow.holds Tryd.pinned (OpenSpec.ofChange blockBackSpec)

/-- ITS FALSE NEIGHBOUR: 'it returns false'. Refute it at one input. -/
def blockBackWrong : ChangeSpec := { name := "blockBack", fn := fun _ => fun
  | [d1, d2, d3, d4] => { results := [.lit (.bool false)], args := [d1, d2, d3, d4] }
  | _ => none }
def BlockBackWrongFalsely : Prop := blockBackRow.holds Tryd.pinned (OpenSpec.ofChange blockBackWrong)

/-- 'clapboardlaw12.BlockNear': WHATEVER THE INPUT: true; the input reads as it did. -/
def blockNearSpec : ChangeSpec := { name := "blockNear", fn := fun _ => fun
  | [d1, d2, d3] => { results := [.lit (.bool true)], args := [d1, d2, d3] }
  | _ => none }
def blockNearRow : OpenClaim := { program := "ytdcbabgcbkdlhaadoor", sum := "540d98bbbc571a31393a2cc0b93c4e34c69da666ba98e726f4cf0ac62b7c47d3", func := "clapboard/clapboardlaw12.BlockNear", spec := "blockNear", unfollowed := true, recurses := true, named := ["clapboard/block.acts", "clapboard/scan.order", "clapboard/quant.steps", "clapboard/wave.waves"], apart := false, laid := [("clapboard/quant.steps", laid_clapboard_quant_steps), ("clapboard/scan.order", laid_clapboard_scan_order), ("clapboard/wave.waves", laid_clapboard_wave_waves), ("clapboard/block.acts", laid_clapboard_block_acts)] }
def BlockNearSaid : Prop := blockNearRow.holds Tryd.pinned (OpenSpec.ofChange blockNearSpec)

/-- ITS FALSE NEIGHBOUR: 'it returns false'. Refute it at one input. -/
def blockNearWrong : ChangeSpec := { name := "blockNear", fn := fun _ => fun
  | [d1, d2, d3] => { results := [.lit (.bool false)], args := [d1, d2, d3] }
  | _ => none }
def BlockNearWrongFalsely : Prop := blockNearRow.holds Tryd.pinned (OpenSpec.ofChange blockNearWrong)

/-- 'clapboardlaw12.BlockPlain': WHATEVER THE INPUT: true; the input reads as it did. -/
def blockPlainSpec : ChangeSpec := { name := "blockPlain", fn := fun _ => fun
  | [d1, d2, d3] => { results := [.lit (.bool true)], args := [d1, d2, d3] }
  | _ => none }
def blockPlainRow : OpenClaim := { program := "ytdcbabgcbkdlhaadoor", sum := "540d98bbbc571a31393a2cc0b93c4e34c69da666ba98e726f4cf0ac62b7c47d3", func := "clapboard/clapboardlaw12.BlockPlain", spec := "blockPlain", unfollowed := true, recurses := true, named := ["clapboard/block.acts", "clapboard/scan.order", "clapboard/quant.steps", "clapboard/wave.waves"], apart := false, laid := [("clapboard/quant.steps", laid_clapboard_quant_steps), ("clapboard/scan.order", laid_clapboard_scan_order), ("clapboard/wave.waves", laid_clapboard_wave_waves), ("clapboard/block.acts", laid_clapboard_block_acts)] }
def BlockPlainSaid : Prop := blockPlainRow.holds Tryd.pinned (OpenSpec.ofChange blockPlainSpec)

/-- ITS FALSE NEIGHBOUR: 'it returns false'. Refute it at one input. -/
def blockPlainWrong : ChangeSpec := { name := "blockPlain", fn := fun _ => fun
  | [d1, d2, d3] => { results := [.lit (.bool false)], args := [d1, d2, d3] }
  | _ => none }
def BlockPlainWrongFalsely : Prop := blockPlainRow.holds Tryd.pinned (OpenSpec.ofChange blockPlainWrong)

/-- 'clapboardlaw12.BlockStill': WHATEVER THE INPUT: true; the input reads as it did. -/
def blockStillSpec : ChangeSpec := { name := "blockStill", fn := fun _ => fun
  | [d1, d2, d3, d4, d5, d6] => { results := [.lit (.bool true)], args := [d1, d2, d3, d4, d5, d6] }
  | _ => none }
def blockStillRow : OpenClaim := { program := "ytdcbabgcbkdlhaadoor", sum := "540d98bbbc571a31393a2cc0b93c4e34c69da666ba98e726f4cf0ac62b7c47d3", func := "clapboard/clapboardlaw12.BlockStill", spec := "blockStill", unfollowed := true, recurses := true, named := ["clapboard/block.acts", "clapboard/scan.order", "clapboard/quant.steps", "clapboard/wave.waves"], apart := false, laid := [("clapboard/quant.steps", laid_clapboard_quant_steps), ("clapboard/scan.order", laid_clapboard_scan_order), ("clapboard/wave.waves", laid_clapboard_wave_waves), ("clapboard/block.acts", laid_clapboard_block_acts)] }
def BlockStillSaid : Prop := blockStillRow.holds Tryd.pinned (OpenSpec.ofChange blockStillSpec)

/-- ITS FALSE NEIGHBOUR: 'it returns false'. Refute it at one input. -/
def blockStillWrong : ChangeSpec := { name := "blockStill", fn := fun _ => fun
  | [d1, d2, d3, d4, d5, d6] => { results := [.lit (.bool false)], args := [d1, d2, d3, d4, d5, d6] }
  | _ => none }
def BlockStillWrongFalsely : Prop := blockStillRow.holds Tryd.pinned (OpenSpec.ofChange blockStillWrong)

/-- 'clapboardlaw12.BlockRefuses': WHATEVER THE INPUT: true; the input reads as it did. -/
def blockRefusesSpec : ChangeSpec := { name := "blockRefuses", fn := fun _ => fun
  | [d1, d2, d3, d4, d5, d6] => { results := [.lit (.bool true)], args := [d1, d2, d3, d4, d5, d6] }
  | _ => none }
def blockRefusesRow : OpenClaim := { program := "ytdcbabgcbkdlhaadoor", sum := "540d98bbbc571a31393a2cc0b93c4e34c69da666ba98e726f4cf0ac62b7c47d3", func := "clapboard/clapboardlaw12.BlockRefuses", spec := "blockRefuses", unfollowed := true, recurses := true, named := ["clapboard/block.acts", "clapboard/scan.order", "clapboard/quant.steps", "clapboard/wave.waves"], apart := false, laid := [("clapboard/quant.steps", laid_clapboard_quant_steps), ("clapboard/scan.order", laid_clapboard_scan_order), ("clapboard/wave.waves", laid_clapboard_wave_waves), ("clapboard/block.acts", laid_clapboard_block_acts)] }
def BlockRefusesSaid : Prop := blockRefusesRow.holds Tryd.pinned (OpenSpec.ofChange blockRefusesSpec)

/-- ITS FALSE NEIGHBOUR: 'it returns false'. Refute it at one input. -/
def blockRefusesWrong : ChangeSpec := { name := "blockRefuses", fn := fun _ => fun
  | [d1, d2, d3, d4, d5, d6] => { results := [.lit (.bool false)], args := [d1, d2, d3, d4, d5, d6] }
  | _ => none }
def BlockRefusesWrongFalsely : Prop := blockRefusesRow.holds Tryd.pinned (OpenSpec.ofChange blockRefusesWrong)

/- THE SECOND FORM. 'bulk': how many values and letters a reading holds, each counted each time it is reached (what is shared counts as often as it is met; a slice's spare places count too). A statement '..UptoSaid' is the law's where the arguments, and the package variables that the reading takes, are together of bulk at most 1048576: NARROWER than '..Said'. Prove '..Said' where nothing that the law and all that it calls make is longer than what came in: it says more and counts as full. Else prove '..UptoSaid'. A law counts once. -/
mutual
def uptoBulk {H : Type} : DataW H → Nat
  | .lit (.string bytes) => bytes.length + 1
  | .lit _ => 1
  | .nil => 1
  | .ptr d => uptoBulk d + 1
  | .slice elems spare => uptoBulkAll elems + uptoBulkAll spare + 1
  | .agg parts => uptoBulkAll parts + 1
  | .iface _ d => uptoBulk d + 1
  | .map entries => uptoBulkEntries entries + 1
  | .held _ => 1
def uptoBulkAll {H : Type} : List (DataW H) → Nat
  | [] => 0
  | d :: r => uptoBulk d + uptoBulkAll r
def uptoBulkEntries {H : Type} : List (Lit × DataW H) → Nat
  | [] => 0
  | x :: r => uptoBulkEntry x + uptoBulkEntries r
def uptoBulkEntry {H : Type} : Lit × DataW H → Nat
  | (.string bytes, d) => bytes.length + uptoBulk d + 1
  | (_, d) => uptoBulk d + 1
 end
def uptoSmall : (H : Type) → List (DataW H) → Bool := fun _ ds => decide (uptoBulkAll ds ≤ 1048576)
def OpenSpec.upto (s : _root_.Go.ChangeSpec) : _root_.Go.OpenSpec := { _root_.Go.OpenSpec.ofChange s with cond := some uptoSmall }

/-- 'clapboardlaw12.BlockTells', WHERE WHAT IT READS IS OF BULK AT MOST 1048576: true; the input reads as it did. -/
def blockTellsUptoRow : OpenClaim := { program := "ytdcbabgcbkdlhaadoor", sum := "540d98bbbc571a31393a2cc0b93c4e34c69da666ba98e726f4cf0ac62b7c47d3", func := "clapboard/clapboardlaw12.BlockTells", spec := "blockTells", unfollowed := true, recurses := true, named := ["clapboard/block.acts", "clapboard/scan.order", "clapboard/quant.steps", "clapboard/wave.waves"], apart := false, laid := [("clapboard/quant.steps", laid_clapboard_quant_steps), ("clapboard/scan.order", laid_clapboard_scan_order), ("clapboard/wave.waves", laid_clapboard_wave_waves), ("clapboard/block.acts", laid_clapboard_block_acts)], narrowed := true }
def BlockTellsUptoSaid : Prop := blockTellsUptoRow.holds Tryd.pinned (OpenSpec.upto blockTellsSpec)

/-- 'clapboardlaw12.BlockBack', WHERE WHAT IT READS IS OF BULK AT MOST 1048576: true; the input reads as it did. -/
def blockBackUptoRow : OpenClaim := { program := "ytdcbabgcbkdlhaadoor", sum := "540d98bbbc571a31393a2cc0b93c4e34c69da666ba98e726f4cf0ac62b7c47d3", func := "clapboard/clapboardlaw12.BlockBack", spec := "blockBack", unfollowed := true, recurses := true, named := ["clapboard/block.acts", "clapboard/scan.order", "clapboard/quant.steps", "clapboard/wave.waves"], apart := false, laid := [("clapboard/quant.steps", laid_clapboard_quant_steps), ("clapboard/scan.order", laid_clapboard_scan_order), ("clapboard/wave.waves", laid_clapboard_wave_waves), ("clapboard/block.acts", laid_clapboard_block_acts)], narrowed := true }
def BlockBackUptoSaid : Prop := blockBackUptoRow.holds Tryd.pinned (OpenSpec.upto blockBackSpec)

/-- 'clapboardlaw12.BlockNear', WHERE WHAT IT READS IS OF BULK AT MOST 1048576: true; the input reads as it did. -/
def blockNearUptoRow : OpenClaim := { program := "ytdcbabgcbkdlhaadoor", sum := "540d98bbbc571a31393a2cc0b93c4e34c69da666ba98e726f4cf0ac62b7c47d3", func := "clapboard/clapboardlaw12.BlockNear", spec := "blockNear", unfollowed := true, recurses := true, named := ["clapboard/block.acts", "clapboard/scan.order", "clapboard/quant.steps", "clapboard/wave.waves"], apart := false, laid := [("clapboard/quant.steps", laid_clapboard_quant_steps), ("clapboard/scan.order", laid_clapboard_scan_order), ("clapboard/wave.waves", laid_clapboard_wave_waves), ("clapboard/block.acts", laid_clapboard_block_acts)], narrowed := true }
def BlockNearUptoSaid : Prop := blockNearUptoRow.holds Tryd.pinned (OpenSpec.upto blockNearSpec)

/-- 'clapboardlaw12.BlockPlain', WHERE WHAT IT READS IS OF BULK AT MOST 1048576: true; the input reads as it did. -/
def blockPlainUptoRow : OpenClaim := { program := "ytdcbabgcbkdlhaadoor", sum := "540d98bbbc571a31393a2cc0b93c4e34c69da666ba98e726f4cf0ac62b7c47d3", func := "clapboard/clapboardlaw12.BlockPlain", spec := "blockPlain", unfollowed := true, recurses := true, named := ["clapboard/block.acts", "clapboard/scan.order", "clapboard/quant.steps", "clapboard/wave.waves"], apart := false, laid := [("clapboard/quant.steps", laid_clapboard_quant_steps), ("clapboard/scan.order", laid_clapboard_scan_order), ("clapboard/wave.waves", laid_clapboard_wave_waves), ("clapboard/block.acts", laid_clapboard_block_acts)], narrowed := true }
def BlockPlainUptoSaid : Prop := blockPlainUptoRow.holds Tryd.pinned (OpenSpec.upto blockPlainSpec)

/-- 'clapboardlaw12.BlockStill', WHERE WHAT IT READS IS OF BULK AT MOST 1048576: true; the input reads as it did. -/
def blockStillUptoRow : OpenClaim := { program := "ytdcbabgcbkdlhaadoor", sum := "540d98bbbc571a31393a2cc0b93c4e34c69da666ba98e726f4cf0ac62b7c47d3", func := "clapboard/clapboardlaw12.BlockStill", spec := "blockStill", unfollowed := true, recurses := true, named := ["clapboard/block.acts", "clapboard/scan.order", "clapboard/quant.steps", "clapboard/wave.waves"], apart := false, laid := [("clapboard/quant.steps", laid_clapboard_quant_steps), ("clapboard/scan.order", laid_clapboard_scan_order), ("clapboard/wave.waves", laid_clapboard_wave_waves), ("clapboard/block.acts", laid_clapboard_block_acts)], narrowed := true }
def BlockStillUptoSaid : Prop := blockStillUptoRow.holds Tryd.pinned (OpenSpec.upto blockStillSpec)

/-- 'clapboardlaw12.BlockRefuses', WHERE WHAT IT READS IS OF BULK AT MOST 1048576: true; the input reads as it did. -/
def blockRefusesUptoRow : OpenClaim := { program := "ytdcbabgcbkdlhaadoor", sum := "540d98bbbc571a31393a2cc0b93c4e34c69da666ba98e726f4cf0ac62b7c47d3", func := "clapboard/clapboardlaw12.BlockRefuses", spec := "blockRefuses", unfollowed := true, recurses := true, named := ["clapboard/block.acts", "clapboard/scan.order", "clapboard/quant.steps", "clapboard/wave.waves"], apart := false, laid := [("clapboard/quant.steps", laid_clapboard_quant_steps), ("clapboard/scan.order", laid_clapboard_scan_order), ("clapboard/wave.waves", laid_clapboard_wave_waves), ("clapboard/block.acts", laid_clapboard_block_acts)], narrowed := true }
def BlockRefusesUptoSaid : Prop := blockRefusesUptoRow.holds Tryd.pinned (OpenSpec.upto blockRefusesSpec)

end Rows
end Go.Proofs.YtdcbabgcbkdlhaaDoor
