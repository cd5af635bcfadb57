/-
  No cell of these rows narrows 'for every input' (looked for: loops, veiled, ifaces, maps, wideKeys, modest, calm, conditions, laid).
  DERIVED. THE GIVEN ROWS OF THIS SEAT. 6 by the template 'for every input the law returns true; each argument reads behind the call as it read before'; 0 by the template 'total and deterministic' (their statements: YtomkodoclnbaoaaTotals.lean).
  GIVEN WITH THE SEED: the statements are not yours to turn. If you find one false, say at which input.
  Laid BY PROGRAM, IN A SANDBOX (cutbox-rows.mjs): the forced cells as the released guide's own fill.sh prints them over the translation eac9cb6b65c0fe88… (all of the seat's roots in one cut). By AI agents, Wed Nov 11 2026. No macro, syntax, notation, axiom, sorry.
-/
import Derived.Test.YtomkodoclnbaoaaChecked
import GoSem.Claim
import GoSem.ClaimJoined
import GoSem.ClaimMapViews
import Derived.JoinedTies
import Derived.KernelRfl
namespace Go.Proofs.Ytomkodoclnbaoaa
/- THE CELL 'sum', in the pinned program and in every row, IS THE sha256 OF THE DUMP (.gsa) THAT YtomkodoclnbaoaaProg.lean LOADS. Nothing in Lean hashes anything: it is a label: what it is worth is what the hold of that sum in a sandbox is worth. -/
noncomputable def Try.pinned : Pinned := { name := "ytomkodoclnbaoaa", sum := "eac9cb6b65c0fe88e5d64678ba437df85c284fcfe92f3c15b79c36ecbaedc86b", checked := Try.checked }
namespace Rows
def none {H : Type} : Left H := { results := [], args := [] }

/-- 'clapboardlaw07.PlaneTells': WHATEVER THE INPUT: true; the input reads as it did. -/
def planeTellsSpec : ChangeSpec := { name := "planeTells", fn := fun _ => fun
  | [d1, d2, d3, d4, d5, d6] => { results := [.lit (.bool true)], args := [d1, d2, d3, d4, d5, d6] }
  | _ => none }
def planeTellsRow : OpenClaim := { program := "ytomkodoclnbaoaa", sum := "eac9cb6b65c0fe88e5d64678ba437df85c284fcfe92f3c15b79c36ecbaedc86b", func := "clapboard/clapboardlaw07.PlaneTells", spec := "planeTells", inPlace := ["internal/bytealg.MakeNoZero"], apart := false }
def PlaneTellsSaid : Prop := planeTellsRow.holds Try.pinned (OpenSpec.ofChange planeTellsSpec)

/-- ITS FALSE NEIGHBOUR: 'it returns false'. Refute it at one input. -/
def planeTellsWrong : ChangeSpec := { name := "planeTells", fn := fun _ => fun
  | [d1, d2, d3, d4, d5, d6] => { results := [.lit (.bool false)], args := [d1, d2, d3, d4, d5, d6] }
  | _ => none }
def PlaneTellsWrongFalsely : Prop := planeTellsRow.holds Try.pinned (OpenSpec.ofChange planeTellsWrong)

/-- 'clapboardlaw07.PlaneLays': WHATEVER THE INPUT: true; the input reads as it did. -/
def planeLaysSpec : ChangeSpec := { name := "planeLays", fn := fun _ => fun
  | [d1, d2, d3, d4, d5, d6, d7] => { results := [.lit (.bool true)], args := [d1, d2, d3, d4, d5, d6, d7] }
  | _ => none }
def planeLaysRow : OpenClaim := { program := "ytomkodoclnbaoaa", sum := "eac9cb6b65c0fe88e5d64678ba437df85c284fcfe92f3c15b79c36ecbaedc86b", func := "clapboard/clapboardlaw07.PlaneLays", spec := "planeLays", inPlace := ["internal/bytealg.MakeNoZero"], apart := false }
def PlaneLaysSaid : Prop := planeLaysRow.holds Try.pinned (OpenSpec.ofChange planeLaysSpec)

/-- ITS FALSE NEIGHBOUR: 'it returns false'. Refute it at one input. -/
def planeLaysWrong : ChangeSpec := { name := "planeLays", fn := fun _ => fun
  | [d1, d2, d3, d4, d5, d6, d7] => { results := [.lit (.bool false)], args := [d1, d2, d3, d4, d5, d6, d7] }
  | _ => none }
def PlaneLaysWrongFalsely : Prop := planeLaysRow.holds Try.pinned (OpenSpec.ofChange planeLaysWrong)

/-- 'clapboardlaw07.PlaneCopies': WHATEVER THE INPUT: true; the input reads as it did. -/
def planeCopiesSpec : ChangeSpec := { name := "planeCopies", fn := fun _ => fun
  | [d1, d2, d3, d4] => { results := [.lit (.bool true)], args := [d1, d2, d3, d4] }
  | _ => none }
def planeCopiesRow : OpenClaim := { program := "ytomkodoclnbaoaa", sum := "eac9cb6b65c0fe88e5d64678ba437df85c284fcfe92f3c15b79c36ecbaedc86b", func := "clapboard/clapboardlaw07.PlaneCopies", spec := "planeCopies", inPlace := ["internal/bytealg.MakeNoZero"], apart := false }
def PlaneCopiesSaid : Prop := planeCopiesRow.holds Try.pinned (OpenSpec.ofChange planeCopiesSpec)

/-- ITS FALSE NEIGHBOUR: 'it returns false'. Refute it at one input. -/
def planeCopiesWrong : ChangeSpec := { name := "planeCopies", fn := fun _ => fun
  | [d1, d2, d3, d4] => { results := [.lit (.bool false)], args := [d1, d2, d3, d4] }
  | _ => none }
def PlaneCopiesWrongFalsely : Prop := planeCopiesRow.holds Try.pinned (OpenSpec.ofChange planeCopiesWrong)

/-- 'clapboardlaw07.PlaneEdges': WHATEVER THE INPUT: true; the input reads as it did. -/
def planeEdgesSpec : ChangeSpec := { name := "planeEdges", fn := fun _ => fun
  | [d1, d2, d3, d4, d5, d6] => { results := [.lit (.bool true)], args := [d1, d2, d3, d4, d5, d6] }
  | _ => none }
def planeEdgesRow : OpenClaim := { program := "ytomkodoclnbaoaa", sum := "eac9cb6b65c0fe88e5d64678ba437df85c284fcfe92f3c15b79c36ecbaedc86b", func := "clapboard/clapboardlaw07.PlaneEdges", spec := "planeEdges", inPlace := ["internal/bytealg.MakeNoZero"], apart := false }
def PlaneEdgesSaid : Prop := planeEdgesRow.holds Try.pinned (OpenSpec.ofChange planeEdgesSpec)

/-- ITS FALSE NEIGHBOUR: 'it returns false'. Refute it at one input. -/
def planeEdgesWrong : ChangeSpec := { name := "planeEdges", fn := fun _ => fun
  | [d1, d2, d3, d4, d5, d6] => { results := [.lit (.bool false)], args := [d1, d2, d3, d4, d5, d6] }
  | _ => none }
def PlaneEdgesWrongFalsely : Prop := planeEdgesRow.holds Try.pinned (OpenSpec.ofChange planeEdgesWrong)

/-- 'clapboardlaw07.PlaneNew': WHATEVER THE INPUT: true; the input reads as it did. -/
def planeNewSpec : ChangeSpec := { name := "planeNew", fn := fun _ => fun
  | [d1, d2, d3, d4, d5, d6, d7] => { results := [.lit (.bool true)], args := [d1, d2, d3, d4, d5, d6, d7] }
  | _ => none }
def planeNewRow : OpenClaim := { program := "ytomkodoclnbaoaa", sum := "eac9cb6b65c0fe88e5d64678ba437df85c284fcfe92f3c15b79c36ecbaedc86b", func := "clapboard/clapboardlaw07.PlaneNew", spec := "planeNew", inPlace := ["internal/bytealg.MakeNoZero"], apart := false }
def PlaneNewSaid : Prop := planeNewRow.holds Try.pinned (OpenSpec.ofChange planeNewSpec)

/-- ITS FALSE NEIGHBOUR: 'it returns false'. Refute it at one input. -/
def planeNewWrong : ChangeSpec := { name := "planeNew", fn := fun _ => fun
  | [d1, d2, d3, d4, d5, d6, d7] => { results := [.lit (.bool false)], args := [d1, d2, d3, d4, d5, d6, d7] }
  | _ => none }
def PlaneNewWrongFalsely : Prop := planeNewRow.holds Try.pinned (OpenSpec.ofChange planeNewWrong)

/-- 'clapboardlaw07.PlaneFar': WHATEVER THE INPUT: true; the input reads as it did. -/
def planeFarSpec : ChangeSpec := { name := "planeFar", fn := fun _ => fun
  | [d1, d2, d3, d4, d5] => { results := [.lit (.bool true)], args := [d1, d2, d3, d4, d5] }
  | _ => none }
def planeFarRow : OpenClaim := { program := "ytomkodoclnbaoaa", sum := "eac9cb6b65c0fe88e5d64678ba437df85c284fcfe92f3c15b79c36ecbaedc86b", func := "clapboard/clapboardlaw07.PlaneFar", spec := "planeFar", inPlace := ["internal/bytealg.MakeNoZero"], apart := false }
def PlaneFarSaid : Prop := planeFarRow.holds Try.pinned (OpenSpec.ofChange planeFarSpec)

/-- ITS FALSE NEIGHBOUR: 'it returns false'. Refute it at one input. -/
def planeFarWrong : ChangeSpec := { name := "planeFar", fn := fun _ => fun
  | [d1, d2, d3, d4, d5] => { results := [.lit (.bool false)], args := [d1, d2, d3, d4, d5] }
  | _ => none }
def PlaneFarWrongFalsely : Prop := planeFarRow.holds Try.pinned (OpenSpec.ofChange planeFarWrong)

/- THE SECOND FORM. 'bulk': how many values and letters a reading holds, each counted each time it is reached (what is shared counts as often as it is met; a slice's spare places count too). A statement '..UptoSaid' is the law's where the arguments, and the package variables that the reading takes, are together of bulk at most 1048576: NARROWER than '..Said'. Prove '..Said' where nothing that the law and all that it calls make is longer than what came in: it says more and counts as full. Else prove '..UptoSaid'. A law counts once. -/
mutual
def uptoBulk {H : Type} : DataW H → Nat
  | .lit (.string bytes) => bytes.length + 1
  | .lit _ => 1
  | .nil => 1
  | .ptr d => uptoBulk d + 1
  | .slice elems spare => uptoBulkAll elems + uptoBulkAll spare + 1
  | .agg parts => uptoBulkAll parts + 1
  | .iface _ d => uptoBulk d + 1
  | .map entries => uptoBulkEntries entries + 1
  | .held _ => 1
def uptoBulkAll {H : Type} : List (DataW H) → Nat
  | [] => 0
  | d :: r => uptoBulk d + uptoBulkAll r
def uptoBulkEntries {H : Type} : List (Lit × DataW H) → Nat
  | [] => 0
  | x :: r => uptoBulkEntry x + uptoBulkEntries r
def uptoBulkEntry {H : Type} : Lit × DataW H → Nat
  | (.string bytes, d) => bytes.length + uptoBulk d + 1
  | (_, d) => uptoBulk d + 1
 end
def uptoSmall : (H : Type) → List (DataW H) → Bool := fun _ ds => decide (uptoBulkAll ds ≤ 1048576)
def OpenSpec.upto (s : _root_.Go.ChangeSpec) : _root_.Go.OpenSpec := { _root_.Go.OpenSpec.ofChange s with cond := some uptoSmall }

/-- 'clapboardlaw07.PlaneTells', WHERE WHAT IT READS IS OF BULK AT MOST 1048576: true; the input reads as it did. -/
def planeTellsUptoRow : OpenClaim := { program := "ytomkodoclnbaoaa", sum := "eac9cb6b65c0fe88e5d64678ba437df85c284fcfe92f3c15b79c36ecbaedc86b", func := "clapboard/clapboardlaw07.PlaneTells", spec := "planeTells", inPlace := ["internal/bytealg.MakeNoZero"], apart := false, narrowed := true }
def PlaneTellsUptoSaid : Prop := planeTellsUptoRow.holds Try.pinned (OpenSpec.upto planeTellsSpec)

/-- 'clapboardlaw07.PlaneLays', WHERE WHAT IT READS IS OF BULK AT MOST 1048576: true; the input reads as it did. -/
def planeLaysUptoRow : OpenClaim := { program := "ytomkodoclnbaoaa", sum := "eac9cb6b65c0fe88e5d64678ba437df85c284fcfe92f3c15b79c36ecbaedc86b", func := "clapboard/clapboardlaw07.PlaneLays", spec := "planeLays", inPlace := ["internal/bytealg.MakeNoZero"], apart := false, narrowed := true }
def PlaneLaysUptoSaid : Prop := planeLaysUptoRow.holds Try.pinned (OpenSpec.upto planeLaysSpec)

/-- 'clapboardlaw07.PlaneCopies', WHERE WHAT IT READS IS OF BULK AT MOST 1048576: true; the input reads as it did. -/
def planeCopiesUptoRow : OpenClaim := { program := "ytomkodoclnbaoaa", sum := "eac9cb6b65c0fe88e5d64678ba437df85c284fcfe92f3c15b79c36ecbaedc86b", func := "clapboard/clapboardlaw07.PlaneCopies", spec := "planeCopies", inPlace := ["internal/bytealg.MakeNoZero"], apart := false, narrowed := true }
def PlaneCopiesUptoSaid : Prop := planeCopiesUptoRow.holds Try.pinned (OpenSpec.upto planeCopiesSpec)

/-- 'clapboardlaw07.PlaneEdges', WHERE WHAT IT READS IS OF BULK AT MOST 1048576: true; the input reads as it did. -/
def planeEdgesUptoRow : OpenClaim := { program := "ytomkodoclnbaoaa", sum := "eac9cb6b65c0fe88e5d64678ba437df85c284fcfe92f3c15b79c36ecbaedc86b", func := "clapboard/clapboardlaw07.PlaneEdges", spec := "planeEdges", inPlace := ["internal/bytealg.MakeNoZero"], apart := false, narrowed := true }
def PlaneEdgesUptoSaid : Prop := planeEdgesUptoRow.holds Try.pinned (OpenSpec.upto planeEdgesSpec)

/-- 'clapboardlaw07.PlaneNew', WHERE WHAT IT READS IS OF BULK AT MOST 1048576: true; the input reads as it did. -/
def planeNewUptoRow : OpenClaim := { program := "ytomkodoclnbaoaa", sum := "eac9cb6b65c0fe88e5d64678ba437df85c284fcfe92f3c15b79c36ecbaedc86b", func := "clapboard/clapboardlaw07.PlaneNew", spec := "planeNew", inPlace := ["internal/bytealg.MakeNoZero"], apart := false, narrowed := true }
def PlaneNewUptoSaid : Prop := planeNewUptoRow.holds Try.pinned (OpenSpec.upto planeNewSpec)

/-- 'clapboardlaw07.PlaneFar', WHERE WHAT IT READS IS OF BULK AT MOST 1048576: true; the input reads as it did. -/
def planeFarUptoRow : OpenClaim := { program := "ytomkodoclnbaoaa", sum := "eac9cb6b65c0fe88e5d64678ba437df85c284fcfe92f3c15b79c36ecbaedc86b", func := "clapboard/clapboardlaw07.PlaneFar", spec := "planeFar", inPlace := ["internal/bytealg.MakeNoZero"], apart := false, narrowed := true }
def PlaneFarUptoSaid : Prop := planeFarUptoRow.holds Try.pinned (OpenSpec.upto planeFarSpec)

end Rows
end Go.Proofs.Ytomkodoclnbaoaa
