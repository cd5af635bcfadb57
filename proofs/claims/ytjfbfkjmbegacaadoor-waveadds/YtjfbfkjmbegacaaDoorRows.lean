/-
  NARROWER THAN 'FOR EVERY INPUT', by the rows' own cells (each row's printed sentence says how): WaveTells: laid · WaveBack: laid · WaveNear: laid · WaveAdds: laid · WaveFlat: laid · WaveRows: laid.
  DERIVED. THE GIVEN ROWS OF THIS SEAT. 6 by the template 'for every input the law returns true; each argument reads behind the call as it read before'; 0 by the template 'total and deterministic' (their statements: YtjfbfkjmbegacaaDoorTotals.lean).
  GIVEN WITH THE SEED: the statements are not yours to turn. If you find one false, say at which input.
  Laid BY PROGRAM, IN A SANDBOX (cutbox-rows.mjs): the forced cells as the released guide's own fill.sh prints them over the translation b34a48d8a67d0f2b… (all of the seat's roots in one cut). By AI agents, Wed Nov 11 2026. No macro, syntax, notation, axiom, sorry.
-/
import Derived.Test.YtjfbfkjmbegacaaDoorChecked
import GoSem.Claim
import GoSem.ClaimJoined
import GoSem.ClaimMapViews
import Derived.JoinedTies
import Derived.KernelRfl
namespace Go.Proofs.YtjfbfkjmbegacaaDoor
/- THE CELL 'sum', in the pinned program and in every row, IS THE sha256 OF THE DUMP (.gsa) THAT YtjfbfkjmbegacaaDoorProg.lean LOADS. Nothing in Lean hashes anything: it is a label: what it is worth is what the hold of that sum in a sandbox is worth. -/
noncomputable def Tryd.pinned : Pinned := { name := "ytjfbfkjmbegacaadoor", sum := "b34a48d8a67d0f2bbe55ad89f10c83f05d23892e631983e479c532ad3fab2bd2", checked := Tryd.checked }
namespace Rows
def none {H : Type} : Left H := { results := [], args := [] }

/- WHAT THE LISTED PACKAGE-LEVEL VARIABLES READ AS WHEN THE CALL BEGINS. Each datum BY PROGRAM (the guide's laid-datum.mjs) off the statement by which the dump's own 'gosem.cut.vars' lays the variable. In a bare row this is a premise. The card (YtjfbfkjmbegacaaDoorCards.lean) ties it to the program's text. -/
def laid_clapboard_wave_waves {H : Type} : DataW H := .agg [.agg [.lit (.int .i64 1), .lit (.int .i64 1), .lit (.int .i64 1), .lit (.int .i64 1)], .agg [.lit (.int .i64 1), .lit (.int .i64 1), .lit (.int .i64 (-1)), .lit (.int .i64 (-1))], .agg [.lit (.int .i64 1), .lit (.int .i64 (-1)), .lit (.int .i64 (-1)), .lit (.int .i64 1)], .agg [.lit (.int .i64 1), .lit (.int .i64 (-1)), .lit (.int .i64 1), .lit (.int .i64 (-1))]]

/-- 'clapboardlaw04.WaveTells': WHATEVER THE INPUT: true; the input reads as it did. -/
def waveTellsSpec : ChangeSpec := { name := "waveTells", fn := fun _ => fun
  | [d1, d2] => { results := [.lit (.bool true)], args := [d1, d2] }
  | _ => none }
def waveTellsRow : OpenClaim := { program := "ytjfbfkjmbegacaadoor", sum := "b34a48d8a67d0f2bbe55ad89f10c83f05d23892e631983e479c532ad3fab2bd2", func := "clapboard/clapboardlaw04.WaveTells", spec := "waveTells", named := ["clapboard/wave.waves"], apart := false, laid := [("clapboard/wave.waves", laid_clapboard_wave_waves)] }
def WaveTellsSaid : Prop := waveTellsRow.holds Tryd.pinned (OpenSpec.ofChange waveTellsSpec)

/-- ITS FALSE NEIGHBOUR: 'it returns false'. Refute it at one input. -/
def waveTellsWrong : ChangeSpec := { name := "waveTells", fn := fun _ => fun
  | [d1, d2] => { results := [.lit (.bool false)], args := [d1, d2] }
  | _ => none }
def WaveTellsWrongFalsely : Prop := waveTellsRow.holds Tryd.pinned (OpenSpec.ofChange waveTellsWrong)

/-- 'clapboardlaw04.WaveBack': WHATEVER THE INPUT: true; the input reads as it did. -/
def waveBackSpec : ChangeSpec := { name := "waveBack", fn := fun _ => fun
  | [d] => { results := [.lit (.bool true)], args := [d] }
  | _ => none }
def waveBackRow : OpenClaim := { program := "ytjfbfkjmbegacaadoor", sum := "b34a48d8a67d0f2bbe55ad89f10c83f05d23892e631983e479c532ad3fab2bd2", func := "clapboard/clapboardlaw04.WaveBack", spec := "waveBack", named := ["clapboard/wave.waves"], apart := false, laid := [("clapboard/wave.waves", laid_clapboard_wave_waves)] }
def WaveBackSaid : Prop := waveBackRow.holds Tryd.pinned (OpenSpec.ofChange waveBackSpec)

/-- ITS FALSE NEIGHBOUR: 'it returns false'. Refute it at one input. -/
def waveBackWrong : ChangeSpec := { name := "waveBack", fn := fun _ => fun
  | [d] => { results := [.lit (.bool false)], args := [d] }
  | _ => none }
def WaveBackWrongFalsely : Prop := waveBackRow.holds Tryd.pinned (OpenSpec.ofChange waveBackWrong)

/-- 'clapboardlaw04.WaveNear': WHATEVER THE INPUT: true; the input reads as it did. -/
def waveNearSpec : ChangeSpec := { name := "waveNear", fn := fun _ => fun
  | [d1, d2, d3] => { results := [.lit (.bool true)], args := [d1, d2, d3] }
  | _ => none }
def waveNearRow : OpenClaim := { program := "ytjfbfkjmbegacaadoor", sum := "b34a48d8a67d0f2bbe55ad89f10c83f05d23892e631983e479c532ad3fab2bd2", func := "clapboard/clapboardlaw04.WaveNear", spec := "waveNear", named := ["clapboard/wave.waves"], apart := false, laid := [("clapboard/wave.waves", laid_clapboard_wave_waves)] }
def WaveNearSaid : Prop := waveNearRow.holds Tryd.pinned (OpenSpec.ofChange waveNearSpec)

/-- ITS FALSE NEIGHBOUR: 'it returns false'. Refute it at one input. -/
def waveNearWrong : ChangeSpec := { name := "waveNear", fn := fun _ => fun
  | [d1, d2, d3] => { results := [.lit (.bool false)], args := [d1, d2, d3] }
  | _ => none }
def WaveNearWrongFalsely : Prop := waveNearRow.holds Tryd.pinned (OpenSpec.ofChange waveNearWrong)

/-- 'clapboardlaw04.WaveAdds': WHATEVER THE INPUT: true; the input reads as it did. -/
def waveAddsSpec : ChangeSpec := { name := "waveAdds", fn := fun _ => fun
  | [d1, d2] => { results := [.lit (.bool true)], args := [d1, d2] }
  | _ => none }
def waveAddsRow : OpenClaim := { program := "ytjfbfkjmbegacaadoor", sum := "b34a48d8a67d0f2bbe55ad89f10c83f05d23892e631983e479c532ad3fab2bd2", func := "clapboard/clapboardlaw04.WaveAdds", spec := "waveAdds", named := ["clapboard/wave.waves"], apart := false, laid := [("clapboard/wave.waves", laid_clapboard_wave_waves)] }
def WaveAddsSaid : Prop := waveAddsRow.holds Tryd.pinned (OpenSpec.ofChange waveAddsSpec)

/-- ITS FALSE NEIGHBOUR: 'it returns false'. Refute it at one input. -/
def waveAddsWrong : ChangeSpec := { name := "waveAdds", fn := fun _ => fun
  | [d1, d2] => { results := [.lit (.bool false)], args := [d1, d2] }
  | _ => none }
def WaveAddsWrongFalsely : Prop := waveAddsRow.holds Tryd.pinned (OpenSpec.ofChange waveAddsWrong)

/-- 'clapboardlaw04.WaveFlat': WHATEVER THE INPUT: true; the input reads as it did. -/
def waveFlatSpec : ChangeSpec := { name := "waveFlat", fn := fun _ => fun
  | [d1, d2] => { results := [.lit (.bool true)], args := [d1, d2] }
  | _ => none }
def waveFlatRow : OpenClaim := { program := "ytjfbfkjmbegacaadoor", sum := "b34a48d8a67d0f2bbe55ad89f10c83f05d23892e631983e479c532ad3fab2bd2", func := "clapboard/clapboardlaw04.WaveFlat", spec := "waveFlat", named := ["clapboard/wave.waves"], apart := false, laid := [("clapboard/wave.waves", laid_clapboard_wave_waves)] }
def WaveFlatSaid : Prop := waveFlatRow.holds Tryd.pinned (OpenSpec.ofChange waveFlatSpec)

/-- ITS FALSE NEIGHBOUR: 'it returns false'. Refute it at one input. -/
def waveFlatWrong : ChangeSpec := { name := "waveFlat", fn := fun _ => fun
  | [d1, d2] => { results := [.lit (.bool false)], args := [d1, d2] }
  | _ => none }
def WaveFlatWrongFalsely : Prop := waveFlatRow.holds Tryd.pinned (OpenSpec.ofChange waveFlatWrong)

/-- 'clapboardlaw04.WaveRows': WHATEVER THE INPUT: true; the input reads as it did. -/
def waveRowsSpec : ChangeSpec := { name := "waveRows", fn := fun _ => fun
  | [d1, d2, d3, d4] => { results := [.lit (.bool true)], args := [d1, d2, d3, d4] }
  | _ => none }
def waveRowsRow : OpenClaim := { program := "ytjfbfkjmbegacaadoor", sum := "b34a48d8a67d0f2bbe55ad89f10c83f05d23892e631983e479c532ad3fab2bd2", func := "clapboard/clapboardlaw04.WaveRows", spec := "waveRows", named := ["clapboard/wave.waves"], apart := false, laid := [("clapboard/wave.waves", laid_clapboard_wave_waves)] }
def WaveRowsSaid : Prop := waveRowsRow.holds Tryd.pinned (OpenSpec.ofChange waveRowsSpec)

/-- ITS FALSE NEIGHBOUR: 'it returns false'. Refute it at one input. -/
def waveRowsWrong : ChangeSpec := { name := "waveRows", fn := fun _ => fun
  | [d1, d2, d3, d4] => { results := [.lit (.bool false)], args := [d1, d2, d3, d4] }
  | _ => none }
def WaveRowsWrongFalsely : Prop := waveRowsRow.holds Tryd.pinned (OpenSpec.ofChange waveRowsWrong)

/- THE SECOND FORM. 'bulk': how many values and letters a reading holds, each counted each time it is reached (what is shared counts as often as it is met; a slice's spare places count too). A statement '..UptoSaid' is the law's where the arguments, and the package variables that the reading takes, are together of bulk at most 1048576: NARROWER than '..Said'. Prove '..Said' where nothing that the law and all that it calls make is longer than what came in: it says more and counts as full. Else prove '..UptoSaid'. A law counts once. -/
mutual
def uptoBulk {H : Type} : DataW H → Nat
  | .lit (.string bytes) => bytes.length + 1
  | .lit _ => 1
  | .nil => 1
  | .ptr d => uptoBulk d + 1
  | .slice elems spare => uptoBulkAll elems + uptoBulkAll spare + 1
  | .agg parts => uptoBulkAll parts + 1
  | .iface _ d => uptoBulk d + 1
  | .map entries => uptoBulkEntries entries + 1
  | .held _ => 1
def uptoBulkAll {H : Type} : List (DataW H) → Nat
  | [] => 0
  | d :: r => uptoBulk d + uptoBulkAll r
def uptoBulkEntries {H : Type} : List (Lit × DataW H) → Nat
  | [] => 0
  | x :: r => uptoBulkEntry x + uptoBulkEntries r
def uptoBulkEntry {H : Type} : Lit × DataW H → Nat
  | (.string bytes, d) => bytes.length + uptoBulk d + 1
  | (_, d) => uptoBulk d + 1
 end
def uptoSmall : (H : Type) → List (DataW H) → Bool := fun _ ds => decide (uptoBulkAll ds ≤ 1048576)
def OpenSpec.upto (s : _root_.Go.ChangeSpec) : _root_.Go.OpenSpec := { _root_.Go.OpenSpec.ofChange s with cond := some uptoSmall }

/-- 'clapboardlaw04.WaveTells', WHERE WHAT IT READS IS OF BULK AT MOST 1048576: true; the input reads as it did. -/
def waveTellsUptoRow : OpenClaim := { program := "ytjfbfkjmbegacaadoor", sum := "b34a48d8a67d0f2bbe55ad89f10c83f05d23892e631983e479c532ad3fab2bd2", func := "clapboard/clapboardlaw04.WaveTells", spec := "waveTells", named := ["clapboard/wave.waves"], apart := false, laid := [("clapboard/wave.waves", laid_clapboard_wave_waves)], narrowed := true }
def WaveTellsUptoSaid : Prop := waveTellsUptoRow.holds Tryd.pinned (OpenSpec.upto waveTellsSpec)

/-- 'clapboardlaw04.WaveBack', WHERE WHAT IT READS IS OF BULK AT MOST 1048576: true; the input reads as it did. -/
def waveBackUptoRow : OpenClaim := { program := "ytjfbfkjmbegacaadoor", sum := "b34a48d8a67d0f2bbe55ad89f10c83f05d23892e631983e479c532ad3fab2bd2", func := "clapboard/clapboardlaw04.WaveBack", spec := "waveBack", named := ["clapboard/wave.waves"], apart := false, laid := [("clapboard/wave.waves", laid_clapboard_wave_waves)], narrowed := true }
def WaveBackUptoSaid : Prop := waveBackUptoRow.holds Tryd.pinned (OpenSpec.upto waveBackSpec)

/-- 'clapboardlaw04.WaveNear', WHERE WHAT IT READS IS OF BULK AT MOST 1048576: true; the input reads as it did. -/
def waveNearUptoRow : OpenClaim := { program := "ytjfbfkjmbegacaadoor", sum := "b34a48d8a67d0f2bbe55ad89f10c83f05d23892e631983e479c532ad3fab2bd2", func := "clapboard/clapboardlaw04.WaveNear", spec := "waveNear", named := ["clapboard/wave.waves"], apart := false, laid := [("clapboard/wave.waves", laid_clapboard_wave_waves)], narrowed := true }
def WaveNearUptoSaid : Prop := waveNearUptoRow.holds Tryd.pinned (OpenSpec.upto waveNearSpec)

/-- 'clapboardlaw04.WaveAdds', WHERE WHAT IT READS IS OF BULK AT MOST 1048576: true; the input reads as it did. -/
def waveAddsUptoRow : OpenClaim := { program := "ytjfbfkjmbegacaadoor", sum := "b34a48d8a67d0f2bbe55ad89f10c83f05d23892e631983e479c532ad3fab2bd2", func := "clapboard/clapboardlaw04.WaveAdds", spec := "waveAdds", named := ["clapboard/wave.waves"], apart := false, laid := [("clapboard/wave.waves", laid_clapboard_wave_waves)], narrowed := true }
def WaveAddsUptoSaid : Prop := waveAddsUptoRow.holds Tryd.pinned (OpenSpec.upto waveAddsSpec)

/-- 'clapboardlaw04.WaveFlat', WHERE WHAT IT READS IS OF BULK AT MOST 1048576: true; the input reads as it did. -/
def waveFlatUptoRow : OpenClaim := { program := "ytjfbfkjmbegacaadoor", sum := "b34a48d8a67d0f2bbe55ad89f10c83f05d23892e631983e479c532ad3fab2bd2", func := "clapboard/clapboardlaw04.WaveFlat", spec := "waveFlat", named := ["clapboard/wave.waves"], apart := false, laid := [("clapboard/wave.waves", laid_clapboard_wave_waves)], narrowed := true }
def WaveFlatUptoSaid : Prop := waveFlatUptoRow.holds Tryd.pinned (OpenSpec.upto waveFlatSpec)

/-- 'clapboardlaw04.WaveRows', WHERE WHAT IT READS IS OF BULK AT MOST 1048576: true; the input reads as it did. -/
def waveRowsUptoRow : OpenClaim := { program := "ytjfbfkjmbegacaadoor", sum := "b34a48d8a67d0f2bbe55ad89f10c83f05d23892e631983e479c532ad3fab2bd2", func := "clapboard/clapboardlaw04.WaveRows", spec := "waveRows", named := ["clapboard/wave.waves"], apart := false, laid := [("clapboard/wave.waves", laid_clapboard_wave_waves)], narrowed := true }
def WaveRowsUptoSaid : Prop := waveRowsUptoRow.holds Tryd.pinned (OpenSpec.upto waveRowsSpec)

end Rows
end Go.Proofs.YtjfbfkjmbegacaaDoor
