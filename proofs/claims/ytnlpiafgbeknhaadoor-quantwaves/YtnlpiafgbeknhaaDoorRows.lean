/-
  NARROWER THAN 'FOR EVERY INPUT', by the rows' own cells (each row's printed sentence says how): QuantTells: laid · QuantNear: laid · QuantWaves: laid · QuantRises: laid · QuantCoarse: laid · QuantLittle: laid.
  DERIVED. THE GIVEN ROWS OF THIS SEAT. 6 by the template 'for every input the law returns true; each argument reads behind the call as it read before'; 0 by the template 'total and deterministic' (their statements: YtnlpiafgbeknhaaDoorTotals.lean).
  GIVEN WITH THE SEED: the statements are not yours to turn. If you find one false, say at which input.
  Laid BY PROGRAM, IN A SANDBOX (cutbox-rows.mjs): the forced cells as the released guide's own fill.sh prints them over the translation 62d1eefb8a0af2e2… (all of the seat's roots in one cut). By AI agents, Wed Nov 11 2026. No macro, syntax, notation, axiom, sorry.
-/
import Derived.Test.YtnlpiafgbeknhaaDoorChecked
import GoSem.Claim
import GoSem.ClaimJoined
import GoSem.ClaimMapViews
import Derived.JoinedTies
import Derived.KernelRfl
namespace Go.Proofs.YtnlpiafgbeknhaaDoor
/- THE CELL 'sum', in the pinned program and in every row, IS THE sha256 OF THE DUMP (.gsa) THAT YtnlpiafgbeknhaaDoorProg.lean LOADS. Nothing in Lean hashes anything: it is a label: what it is worth is what the hold of that sum in a sandbox is worth. -/
noncomputable def Tryd.pinned : Pinned := { name := "ytnlpiafgbeknhaadoor", sum := "62d1eefb8a0af2e2e2b082ed6355491b66661b1e7e0ff9b076665ad97ed31a98", checked := Tryd.checked }
namespace Rows
def none {H : Type} : Left H := { results := [], args := [] }

/- WHAT THE LISTED PACKAGE-LEVEL VARIABLES READ AS WHEN THE CALL BEGINS. Each datum BY PROGRAM (the guide's laid-datum.mjs) off the statement by which the dump's own 'gosem.cut.vars' lays the variable. In a bare row this is a premise. The card (YtnlpiafgbeknhaaDoorCards.lean) ties it to the program's text. -/
def laid_clapboard_quant_steps {H : Type} : DataW H := .agg [.lit (.int .i64 1), .lit (.int .i64 2), .lit (.int .i64 3), .lit (.int .i64 4), .lit (.int .i64 5), .lit (.int .i64 6), .lit (.int .i64 8), .lit (.int .i64 10), .lit (.int .i64 12), .lit (.int .i64 16), .lit (.int .i64 20), .lit (.int .i64 24), .lit (.int .i64 32), .lit (.int .i64 40), .lit (.int .i64 48), .lit (.int .i64 64), .lit (.int .i64 80), .lit (.int .i64 96), .lit (.int .i64 128), .lit (.int .i64 160), .lit (.int .i64 192)]
def laid_clapboard_wave_waves {H : Type} : DataW H := .agg [.agg [.lit (.int .i64 1), .lit (.int .i64 1), .lit (.int .i64 1), .lit (.int .i64 1)], .agg [.lit (.int .i64 1), .lit (.int .i64 1), .lit (.int .i64 (-1)), .lit (.int .i64 (-1))], .agg [.lit (.int .i64 1), .lit (.int .i64 (-1)), .lit (.int .i64 (-1)), .lit (.int .i64 1)], .agg [.lit (.int .i64 1), .lit (.int .i64 (-1)), .lit (.int .i64 1), .lit (.int .i64 (-1))]]

/-- 'clapboardlaw05.QuantTells': WHATEVER THE INPUT: true; the input reads as it did. -/
def quantTellsSpec : ChangeSpec := { name := "quantTells", fn := fun _ => fun
  | [d1, d2] => { results := [.lit (.bool true)], args := [d1, d2] }
  | _ => none }
def quantTellsRow : OpenClaim := { program := "ytnlpiafgbeknhaadoor", sum := "62d1eefb8a0af2e2e2b082ed6355491b66661b1e7e0ff9b076665ad97ed31a98", func := "clapboard/clapboardlaw05.QuantTells", spec := "quantTells", unfollowed := true, recurses := true, named := ["clapboard/quant.steps"], apart := false, laid := [("clapboard/quant.steps", laid_clapboard_quant_steps)] }
def QuantTellsSaid : Prop := quantTellsRow.holds Tryd.pinned (OpenSpec.ofChange quantTellsSpec)

/-- ITS FALSE NEIGHBOUR: 'it returns false'. Refute it at one input. -/
def quantTellsWrong : ChangeSpec := { name := "quantTells", fn := fun _ => fun
  | [d1, d2] => { results := [.lit (.bool false)], args := [d1, d2] }
  | _ => none }
def QuantTellsWrongFalsely : Prop := quantTellsRow.holds Tryd.pinned (OpenSpec.ofChange quantTellsWrong)

/-- 'clapboardlaw05.QuantNear': WHATEVER THE INPUT: true; the input reads as it did. -/
def quantNearSpec : ChangeSpec := { name := "quantNear", fn := fun _ => fun
  | [d1, d2] => { results := [.lit (.bool true)], args := [d1, d2] }
  | _ => none }
def quantNearRow : OpenClaim := { program := "ytnlpiafgbeknhaadoor", sum := "62d1eefb8a0af2e2e2b082ed6355491b66661b1e7e0ff9b076665ad97ed31a98", func := "clapboard/clapboardlaw05.QuantNear", spec := "quantNear", unfollowed := true, recurses := true, named := ["clapboard/quant.steps"], apart := false, laid := [("clapboard/quant.steps", laid_clapboard_quant_steps)] }
def QuantNearSaid : Prop := quantNearRow.holds Tryd.pinned (OpenSpec.ofChange quantNearSpec)

/-- ITS FALSE NEIGHBOUR: 'it returns false'. Refute it at one input. -/
def quantNearWrong : ChangeSpec := { name := "quantNear", fn := fun _ => fun
  | [d1, d2] => { results := [.lit (.bool false)], args := [d1, d2] }
  | _ => none }
def QuantNearWrongFalsely : Prop := quantNearRow.holds Tryd.pinned (OpenSpec.ofChange quantNearWrong)

/-- 'clapboardlaw05.QuantWaves': WHATEVER THE INPUT: true; the input reads as it did. -/
def quantWavesSpec : ChangeSpec := { name := "quantWaves", fn := fun _ => fun
  | [d1, d2] => { results := [.lit (.bool true)], args := [d1, d2] }
  | _ => none }
def quantWavesRow : OpenClaim := { program := "ytnlpiafgbeknhaadoor", sum := "62d1eefb8a0af2e2e2b082ed6355491b66661b1e7e0ff9b076665ad97ed31a98", func := "clapboard/clapboardlaw05.QuantWaves", spec := "quantWaves", unfollowed := true, recurses := true, named := ["clapboard/quant.steps", "clapboard/wave.waves"], apart := false, laid := [("clapboard/quant.steps", laid_clapboard_quant_steps), ("clapboard/wave.waves", laid_clapboard_wave_waves)] }
def QuantWavesSaid : Prop := quantWavesRow.holds Tryd.pinned (OpenSpec.ofChange quantWavesSpec)

/-- ITS FALSE NEIGHBOUR: 'it returns false'. Refute it at one input. -/
def quantWavesWrong : ChangeSpec := { name := "quantWaves", fn := fun _ => fun
  | [d1, d2] => { results := [.lit (.bool false)], args := [d1, d2] }
  | _ => none }
def QuantWavesWrongFalsely : Prop := quantWavesRow.holds Tryd.pinned (OpenSpec.ofChange quantWavesWrong)

/-- 'clapboardlaw05.QuantRises': WHATEVER THE INPUT: true; the input reads as it did. -/
def quantRisesSpec : ChangeSpec := { name := "quantRises", fn := fun _ => fun
  | [d1, d2, d3] => { results := [.lit (.bool true)], args := [d1, d2, d3] }
  | _ => none }
def quantRisesRow : OpenClaim := { program := "ytnlpiafgbeknhaadoor", sum := "62d1eefb8a0af2e2e2b082ed6355491b66661b1e7e0ff9b076665ad97ed31a98", func := "clapboard/clapboardlaw05.QuantRises", spec := "quantRises", unfollowed := true, recurses := true, named := ["clapboard/quant.steps"], apart := false, laid := [("clapboard/quant.steps", laid_clapboard_quant_steps)] }
def QuantRisesSaid : Prop := quantRisesRow.holds Tryd.pinned (OpenSpec.ofChange quantRisesSpec)

/-- ITS FALSE NEIGHBOUR: 'it returns false'. Refute it at one input. -/
def quantRisesWrong : ChangeSpec := { name := "quantRises", fn := fun _ => fun
  | [d1, d2, d3] => { results := [.lit (.bool false)], args := [d1, d2, d3] }
  | _ => none }
def QuantRisesWrongFalsely : Prop := quantRisesRow.holds Tryd.pinned (OpenSpec.ofChange quantRisesWrong)

/-- 'clapboardlaw05.QuantCoarse': WHATEVER THE INPUT: true; the input reads as it did. -/
def quantCoarseSpec : ChangeSpec := { name := "quantCoarse", fn := fun _ => fun
  | [d1, d2, d3] => { results := [.lit (.bool true)], args := [d1, d2, d3] }
  | _ => none }
def quantCoarseRow : OpenClaim := { program := "ytnlpiafgbeknhaadoor", sum := "62d1eefb8a0af2e2e2b082ed6355491b66661b1e7e0ff9b076665ad97ed31a98", func := "clapboard/clapboardlaw05.QuantCoarse", spec := "quantCoarse", unfollowed := true, recurses := true, named := ["clapboard/quant.steps"], apart := false, laid := [("clapboard/quant.steps", laid_clapboard_quant_steps)] }
def QuantCoarseSaid : Prop := quantCoarseRow.holds Tryd.pinned (OpenSpec.ofChange quantCoarseSpec)

/-- ITS FALSE NEIGHBOUR: 'it returns false'. Refute it at one input. -/
def quantCoarseWrong : ChangeSpec := { name := "quantCoarse", fn := fun _ => fun
  | [d1, d2, d3] => { results := [.lit (.bool false)], args := [d1, d2, d3] }
  | _ => none }
def QuantCoarseWrongFalsely : Prop := quantCoarseRow.holds Tryd.pinned (OpenSpec.ofChange quantCoarseWrong)

/-- 'clapboardlaw05.QuantLittle': WHATEVER THE INPUT: true; the input reads as it did. -/
def quantLittleSpec : ChangeSpec := { name := "quantLittle", fn := fun _ => fun
  | [d1, d2] => { results := [.lit (.bool true)], args := [d1, d2] }
  | _ => none }
def quantLittleRow : OpenClaim := { program := "ytnlpiafgbeknhaadoor", sum := "62d1eefb8a0af2e2e2b082ed6355491b66661b1e7e0ff9b076665ad97ed31a98", func := "clapboard/clapboardlaw05.QuantLittle", spec := "quantLittle", unfollowed := true, recurses := true, named := ["clapboard/quant.steps"], apart := false, laid := [("clapboard/quant.steps", laid_clapboard_quant_steps)] }
def QuantLittleSaid : Prop := quantLittleRow.holds Tryd.pinned (OpenSpec.ofChange quantLittleSpec)

/-- ITS FALSE NEIGHBOUR: 'it returns false'. Refute it at one input. -/
def quantLittleWrong : ChangeSpec := { name := "quantLittle", fn := fun _ => fun
  | [d1, d2] => { results := [.lit (.bool false)], args := [d1, d2] }
  | _ => none }
def QuantLittleWrongFalsely : Prop := quantLittleRow.holds Tryd.pinned (OpenSpec.ofChange quantLittleWrong)

/- THE SECOND FORM. 'bulk': how many values and letters a reading holds, each counted each time it is reached (what is shared counts as often as it is met; a slice's spare places count too). A statement '..UptoSaid' is the law's where the arguments, and the package variables that the reading takes, are together of bulk at most 1048576: NARROWER than '..Said'. Prove '..Said' where nothing that the law and all that it calls make is longer than what came in: it says more and counts as full. Else prove '..UptoSaid'. A law counts once. -/
mutual
def uptoBulk {H : Type} : DataW H → Nat
  | .lit (.string bytes) => bytes.length + 1
  | .lit _ => 1
  | .nil => 1
  | .ptr d => uptoBulk d + 1
  | .slice elems spare => uptoBulkAll elems + uptoBulkAll spare + 1
  | .agg parts => uptoBulkAll parts + 1
  | .iface _ d => uptoBulk d + 1
  | .map entries => uptoBulkEntries entries + 1
  | .held _ => 1
def uptoBulkAll {H : Type} : List (DataW H) → Nat
  | [] => 0
  | d :: r => uptoBulk d + uptoBulkAll r
def uptoBulkEntries {H : Type} : List (Lit × DataW H) → Nat
  | [] => 0
  | x :: r => uptoBulkEntry x + uptoBulkEntries r
def uptoBulkEntry {H : Type} : Lit × DataW H → Nat
  | (.string bytes, d) => bytes.length + uptoBulk d + 1
  | (_, d) => uptoBulk d + 1
 end
def uptoSmall : (H : Type) → List (DataW H) → Bool := fun _ ds => decide (uptoBulkAll ds ≤ 1048576)
def OpenSpec.upto (s : _root_.Go.ChangeSpec) : _root_.Go.OpenSpec := { _root_.Go.OpenSpec.ofChange s with cond := some uptoSmall }

/-- 'clapboardlaw05.QuantTells', WHERE WHAT IT READS IS OF BULK AT MOST 1048576: true; the input reads as it did. -/
def quantTellsUptoRow : OpenClaim := { program := "ytnlpiafgbeknhaadoor", sum := "62d1eefb8a0af2e2e2b082ed6355491b66661b1e7e0ff9b076665ad97ed31a98", func := "clapboard/clapboardlaw05.QuantTells", spec := "quantTells", unfollowed := true, recurses := true, named := ["clapboard/quant.steps"], apart := false, laid := [("clapboard/quant.steps", laid_clapboard_quant_steps)], narrowed := true }
def QuantTellsUptoSaid : Prop := quantTellsUptoRow.holds Tryd.pinned (OpenSpec.upto quantTellsSpec)

/-- 'clapboardlaw05.QuantNear', WHERE WHAT IT READS IS OF BULK AT MOST 1048576: true; the input reads as it did. -/
def quantNearUptoRow : OpenClaim := { program := "ytnlpiafgbeknhaadoor", sum := "62d1eefb8a0af2e2e2b082ed6355491b66661b1e7e0ff9b076665ad97ed31a98", func := "clapboard/clapboardlaw05.QuantNear", spec := "quantNear", unfollowed := true, recurses := true, named := ["clapboard/quant.steps"], apart := false, laid := [("clapboard/quant.steps", laid_clapboard_quant_steps)], narrowed := true }
def QuantNearUptoSaid : Prop := quantNearUptoRow.holds Tryd.pinned (OpenSpec.upto quantNearSpec)

/-- 'clapboardlaw05.QuantWaves', WHERE WHAT IT READS IS OF BULK AT MOST 1048576: true; the input reads as it did. -/
def quantWavesUptoRow : OpenClaim := { program := "ytnlpiafgbeknhaadoor", sum := "62d1eefb8a0af2e2e2b082ed6355491b66661b1e7e0ff9b076665ad97ed31a98", func := "clapboard/clapboardlaw05.QuantWaves", spec := "quantWaves", unfollowed := true, recurses := true, named := ["clapboard/quant.steps", "clapboard/wave.waves"], apart := false, laid := [("clapboard/quant.steps", laid_clapboard_quant_steps), ("clapboard/wave.waves", laid_clapboard_wave_waves)], narrowed := true }
def QuantWavesUptoSaid : Prop := quantWavesUptoRow.holds Tryd.pinned (OpenSpec.upto quantWavesSpec)

/-- 'clapboardlaw05.QuantRises', WHERE WHAT IT READS IS OF BULK AT MOST 1048576: true; the input reads as it did. -/
def quantRisesUptoRow : OpenClaim := { program := "ytnlpiafgbeknhaadoor", sum := "62d1eefb8a0af2e2e2b082ed6355491b66661b1e7e0ff9b076665ad97ed31a98", func := "clapboard/clapboardlaw05.QuantRises", spec := "quantRises", unfollowed := true, recurses := true, named := ["clapboard/quant.steps"], apart := false, laid := [("clapboard/quant.steps", laid_clapboard_quant_steps)], narrowed := true }
def QuantRisesUptoSaid : Prop := quantRisesUptoRow.holds Tryd.pinned (OpenSpec.upto quantRisesSpec)

/-- 'clapboardlaw05.QuantCoarse', WHERE WHAT IT READS IS OF BULK AT MOST 1048576: true; the input reads as it did. -/
def quantCoarseUptoRow : OpenClaim := { program := "ytnlpiafgbeknhaadoor", sum := "62d1eefb8a0af2e2e2b082ed6355491b66661b1e7e0ff9b076665ad97ed31a98", func := "clapboard/clapboardlaw05.QuantCoarse", spec := "quantCoarse", unfollowed := true, recurses := true, named := ["clapboard/quant.steps"], apart := false, laid := [("clapboard/quant.steps", laid_clapboard_quant_steps)], narrowed := true }
def QuantCoarseUptoSaid : Prop := quantCoarseUptoRow.holds Tryd.pinned (OpenSpec.upto quantCoarseSpec)

/-- 'clapboardlaw05.QuantLittle', WHERE WHAT IT READS IS OF BULK AT MOST 1048576: true; the input reads as it did. -/
def quantLittleUptoRow : OpenClaim := { program := "ytnlpiafgbeknhaadoor", sum := "62d1eefb8a0af2e2e2b082ed6355491b66661b1e7e0ff9b076665ad97ed31a98", func := "clapboard/clapboardlaw05.QuantLittle", spec := "quantLittle", unfollowed := true, recurses := true, named := ["clapboard/quant.steps"], apart := false, laid := [("clapboard/quant.steps", laid_clapboard_quant_steps)], narrowed := true }
def QuantLittleUptoSaid : Prop := quantLittleUptoRow.holds Tryd.pinned (OpenSpec.upto quantLittleSpec)

end Rows
end Go.Proofs.YtnlpiafgbeknhaaDoor
