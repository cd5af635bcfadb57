/-
  No cell of these rows narrows 'for every input' (looked for: loops, veiled, ifaces, maps, wideKeys, modest, calm, conditions, laid).
  DERIVED. THE GIVEN ROWS OF THIS SEAT. 6 by the template 'for every input the law returns true; each argument reads behind the call as it read before'; 0 by the template 'total and deterministic' (their statements: YtdggilbgjijfmaaTotals.lean).
  GIVEN WITH THE SEED: the statements are not yours to turn. If you find one false, say at which input.
  Laid BY PROGRAM, IN A SANDBOX (cutbox-rows.mjs): the forced cells as the released guide's own fill.sh prints them over the translation 659c74d4cfcb2d49… (all of the seat's roots in one cut). By AI agents, Wed Nov 11 2026. No macro, syntax, notation, axiom, sorry.
-/
import Derived.Test.YtdggilbgjijfmaaChecked
import GoSem.Claim
import GoSem.ClaimJoined
import GoSem.ClaimMapViews
import Derived.JoinedTies
import Derived.KernelRfl
namespace Go.Proofs.Ytdggilbgjijfmaa
/- THE CELL 'sum', in the pinned program and in every row, IS THE sha256 OF THE DUMP (.gsa) THAT YtdggilbgjijfmaaProg.lean LOADS. Nothing in Lean hashes anything: it is a label: what it is worth is what the hold of that sum in a sandbox is worth. -/
noncomputable def Try.pinned : Pinned := { name := "ytdggilbgjijfmaa", sum := "659c74d4cfcb2d497600b3683d47fde013e21d88b375e1abd9f11df7bd858be6", checked := Try.checked }
namespace Rows
def none {H : Type} : Left H := { results := [], args := [] }

/-- 'clapboardlaw08.IntraTells': WHATEVER THE INPUT: true; the input reads as it did. -/
def intraTellsSpec : ChangeSpec := { name := "intraTells", fn := fun _ => fun
  | [d1, d2, d3, d4, d5, d6] => { results := [.lit (.bool true)], args := [d1, d2, d3, d4, d5, d6] }
  | _ => none }
def intraTellsRow : OpenClaim := { program := "ytdggilbgjijfmaa", sum := "659c74d4cfcb2d497600b3683d47fde013e21d88b375e1abd9f11df7bd858be6", func := "clapboard/clapboardlaw08.IntraTells", spec := "intraTells", inPlace := ["internal/bytealg.MakeNoZero"], unfollowed := true, recurses := true, apart := false }
def IntraTellsSaid : Prop := intraTellsRow.holds Try.pinned (OpenSpec.ofChange intraTellsSpec)

/-- ITS FALSE NEIGHBOUR: 'it returns false'. Refute it at one input. -/
def intraTellsWrong : ChangeSpec := { name := "intraTells", fn := fun _ => fun
  | [d1, d2, d3, d4, d5, d6] => { results := [.lit (.bool false)], args := [d1, d2, d3, d4, d5, d6] }
  | _ => none }
def IntraTellsWrongFalsely : Prop := intraTellsRow.holds Try.pinned (OpenSpec.ofChange intraTellsWrong)

/-- 'clapboardlaw08.IntraSamples': WHATEVER THE INPUT: true; the input reads as it did. -/
def intraSamplesSpec : ChangeSpec := { name := "intraSamples", fn := fun _ => fun
  | [d1, d2, d3, d4, d5, d6] => { results := [.lit (.bool true)], args := [d1, d2, d3, d4, d5, d6] }
  | _ => none }
def intraSamplesRow : OpenClaim := { program := "ytdggilbgjijfmaa", sum := "659c74d4cfcb2d497600b3683d47fde013e21d88b375e1abd9f11df7bd858be6", func := "clapboard/clapboardlaw08.IntraSamples", spec := "intraSamples", inPlace := ["internal/bytealg.MakeNoZero"], unfollowed := true, recurses := true, apart := false }
def IntraSamplesSaid : Prop := intraSamplesRow.holds Try.pinned (OpenSpec.ofChange intraSamplesSpec)

/-- ITS FALSE NEIGHBOUR: 'it returns false'. Refute it at one input. -/
def intraSamplesWrong : ChangeSpec := { name := "intraSamples", fn := fun _ => fun
  | [d1, d2, d3, d4, d5, d6] => { results := [.lit (.bool false)], args := [d1, d2, d3, d4, d5, d6] }
  | _ => none }
def IntraSamplesWrongFalsely : Prop := intraSamplesRow.holds Try.pinned (OpenSpec.ofChange intraSamplesWrong)

/-- 'clapboardlaw08.IntraBest': WHATEVER THE INPUT: true; the input reads as it did. -/
def intraBestSpec : ChangeSpec := { name := "intraBest", fn := fun _ => fun
  | [d1, d2, d3, d4, d5, d6] => { results := [.lit (.bool true)], args := [d1, d2, d3, d4, d5, d6] }
  | _ => none }
def intraBestRow : OpenClaim := { program := "ytdggilbgjijfmaa", sum := "659c74d4cfcb2d497600b3683d47fde013e21d88b375e1abd9f11df7bd858be6", func := "clapboard/clapboardlaw08.IntraBest", spec := "intraBest", inPlace := ["internal/bytealg.MakeNoZero"], unfollowed := true, recurses := true, apart := false }
def IntraBestSaid : Prop := intraBestRow.holds Try.pinned (OpenSpec.ofChange intraBestSpec)

/-- ITS FALSE NEIGHBOUR: 'it returns false'. Refute it at one input. -/
def intraBestWrong : ChangeSpec := { name := "intraBest", fn := fun _ => fun
  | [d1, d2, d3, d4, d5, d6] => { results := [.lit (.bool false)], args := [d1, d2, d3, d4, d5, d6] }
  | _ => none }
def IntraBestWrongFalsely : Prop := intraBestRow.holds Try.pinned (OpenSpec.ofChange intraBestWrong)

/-- 'clapboardlaw08.IntraCosts': WHATEVER THE INPUT: true; the input reads as it did. -/
def intraCostsSpec : ChangeSpec := { name := "intraCosts", fn := fun _ => fun
  | [d1, d2, d3] => { results := [.lit (.bool true)], args := [d1, d2, d3] }
  | _ => none }
def intraCostsRow : OpenClaim := { program := "ytdggilbgjijfmaa", sum := "659c74d4cfcb2d497600b3683d47fde013e21d88b375e1abd9f11df7bd858be6", func := "clapboard/clapboardlaw08.IntraCosts", spec := "intraCosts", inPlace := ["internal/bytealg.MakeNoZero"], unfollowed := true, recurses := true, apart := false }
def IntraCostsSaid : Prop := intraCostsRow.holds Try.pinned (OpenSpec.ofChange intraCostsSpec)

/-- ITS FALSE NEIGHBOUR: 'it returns false'. Refute it at one input. -/
def intraCostsWrong : ChangeSpec := { name := "intraCosts", fn := fun _ => fun
  | [d1, d2, d3] => { results := [.lit (.bool false)], args := [d1, d2, d3] }
  | _ => none }
def IntraCostsWrongFalsely : Prop := intraCostsRow.holds Try.pinned (OpenSpec.ofChange intraCostsWrong)

/-- 'clapboardlaw08.IntraFlat': WHATEVER THE INPUT: true; the input reads as it did. -/
def intraFlatSpec : ChangeSpec := { name := "intraFlat", fn := fun _ => fun
  | [d1, d2, d3, d4, d5, d6] => { results := [.lit (.bool true)], args := [d1, d2, d3, d4, d5, d6] }
  | _ => none }
def intraFlatRow : OpenClaim := { program := "ytdggilbgjijfmaa", sum := "659c74d4cfcb2d497600b3683d47fde013e21d88b375e1abd9f11df7bd858be6", func := "clapboard/clapboardlaw08.IntraFlat", spec := "intraFlat", inPlace := ["internal/bytealg.MakeNoZero"], unfollowed := true, recurses := true, apart := false }
def IntraFlatSaid : Prop := intraFlatRow.holds Try.pinned (OpenSpec.ofChange intraFlatSpec)

/-- ITS FALSE NEIGHBOUR: 'it returns false'. Refute it at one input. -/
def intraFlatWrong : ChangeSpec := { name := "intraFlat", fn := fun _ => fun
  | [d1, d2, d3, d4, d5, d6] => { results := [.lit (.bool false)], args := [d1, d2, d3, d4, d5, d6] }
  | _ => none }
def IntraFlatWrongFalsely : Prop := intraFlatRow.holds Try.pinned (OpenSpec.ofChange intraFlatWrong)

/-- 'clapboardlaw08.IntraRefuses': WHATEVER THE INPUT: true; the input reads as it did. -/
def intraRefusesSpec : ChangeSpec := { name := "intraRefuses", fn := fun _ => fun
  | [d1, d2, d3, d4, d5, d6, d7] => { results := [.lit (.bool true)], args := [d1, d2, d3, d4, d5, d6, d7] }
  | _ => none }
def intraRefusesRow : OpenClaim := { program := "ytdggilbgjijfmaa", sum := "659c74d4cfcb2d497600b3683d47fde013e21d88b375e1abd9f11df7bd858be6", func := "clapboard/clapboardlaw08.IntraRefuses", spec := "intraRefuses", inPlace := ["internal/bytealg.MakeNoZero"], unfollowed := true, recurses := true, apart := false }
def IntraRefusesSaid : Prop := intraRefusesRow.holds Try.pinned (OpenSpec.ofChange intraRefusesSpec)

/-- ITS FALSE NEIGHBOUR: 'it returns false'. Refute it at one input. -/
def intraRefusesWrong : ChangeSpec := { name := "intraRefuses", fn := fun _ => fun
  | [d1, d2, d3, d4, d5, d6, d7] => { results := [.lit (.bool false)], args := [d1, d2, d3, d4, d5, d6, d7] }
  | _ => none }
def IntraRefusesWrongFalsely : Prop := intraRefusesRow.holds Try.pinned (OpenSpec.ofChange intraRefusesWrong)

/- THE SECOND FORM. 'bulk': how many values and letters a reading holds, each counted each time it is reached (what is shared counts as often as it is met; a slice's spare places count too). A statement '..UptoSaid' is the law's where the arguments, and the package variables that the reading takes, are together of bulk at most 1048576: NARROWER than '..Said'. Prove '..Said' where nothing that the law and all that it calls make is longer than what came in: it says more and counts as full. Else prove '..UptoSaid'. A law counts once. -/
mutual
def uptoBulk {H : Type} : DataW H → Nat
  | .lit (.string bytes) => bytes.length + 1
  | .lit _ => 1
  | .nil => 1
  | .ptr d => uptoBulk d + 1
  | .slice elems spare => uptoBulkAll elems + uptoBulkAll spare + 1
  | .agg parts => uptoBulkAll parts + 1
  | .iface _ d => uptoBulk d + 1
  | .map entries => uptoBulkEntries entries + 1
  | .held _ => 1
def uptoBulkAll {H : Type} : List (DataW H) → Nat
  | [] => 0
  | d :: r => uptoBulk d + uptoBulkAll r
def uptoBulkEntries {H : Type} : List (Lit × DataW H) → Nat
  | [] => 0
  | x :: r => uptoBulkEntry x + uptoBulkEntries r
def uptoBulkEntry {H : Type} : Lit × DataW H → Nat
  | (.string bytes, d) => bytes.length + uptoBulk d + 1
  | (_, d) => uptoBulk d + 1
 end
def uptoSmall : (H : Type) → List (DataW H) → Bool := fun _ ds => decide (uptoBulkAll ds ≤ 1048576)
def OpenSpec.upto (s : _root_.Go.ChangeSpec) : _root_.Go.OpenSpec := { _root_.Go.OpenSpec.ofChange s with cond := some uptoSmall }

/-- 'clapboardlaw08.IntraTells', WHERE WHAT IT READS IS OF BULK AT MOST 1048576: true; the input reads as it did. -/
def intraTellsUptoRow : OpenClaim := { program := "ytdggilbgjijfmaa", sum := "659c74d4cfcb2d497600b3683d47fde013e21d88b375e1abd9f11df7bd858be6", func := "clapboard/clapboardlaw08.IntraTells", spec := "intraTells", inPlace := ["internal/bytealg.MakeNoZero"], unfollowed := true, recurses := true, apart := false, narrowed := true }
def IntraTellsUptoSaid : Prop := intraTellsUptoRow.holds Try.pinned (OpenSpec.upto intraTellsSpec)

/-- 'clapboardlaw08.IntraSamples', WHERE WHAT IT READS IS OF BULK AT MOST 1048576: true; the input reads as it did. -/
def intraSamplesUptoRow : OpenClaim := { program := "ytdggilbgjijfmaa", sum := "659c74d4cfcb2d497600b3683d47fde013e21d88b375e1abd9f11df7bd858be6", func := "clapboard/clapboardlaw08.IntraSamples", spec := "intraSamples", inPlace := ["internal/bytealg.MakeNoZero"], unfollowed := true, recurses := true, apart := false, narrowed := true }
def IntraSamplesUptoSaid : Prop := intraSamplesUptoRow.holds Try.pinned (OpenSpec.upto intraSamplesSpec)

/-- 'clapboardlaw08.IntraBest', WHERE WHAT IT READS IS OF BULK AT MOST 1048576: true; the input reads as it did. -/
def intraBestUptoRow : OpenClaim := { program := "ytdggilbgjijfmaa", sum := "659c74d4cfcb2d497600b3683d47fde013e21d88b375e1abd9f11df7bd858be6", func := "clapboard/clapboardlaw08.IntraBest", spec := "intraBest", inPlace := ["internal/bytealg.MakeNoZero"], unfollowed := true, recurses := true, apart := false, narrowed := true }
def IntraBestUptoSaid : Prop := intraBestUptoRow.holds Try.pinned (OpenSpec.upto intraBestSpec)

/-- 'clapboardlaw08.IntraCosts', WHERE WHAT IT READS IS OF BULK AT MOST 1048576: true; the input reads as it did. -/
def intraCostsUptoRow : OpenClaim := { program := "ytdggilbgjijfmaa", sum := "659c74d4cfcb2d497600b3683d47fde013e21d88b375e1abd9f11df7bd858be6", func := "clapboard/clapboardlaw08.IntraCosts", spec := "intraCosts", inPlace := ["internal/bytealg.MakeNoZero"], unfollowed := true, recurses := true, apart := false, narrowed := true }
def IntraCostsUptoSaid : Prop := intraCostsUptoRow.holds Try.pinned (OpenSpec.upto intraCostsSpec)

/-- 'clapboardlaw08.IntraFlat', WHERE WHAT IT READS IS OF BULK AT MOST 1048576: true; the input reads as it did. -/
def intraFlatUptoRow : OpenClaim := { program := "ytdggilbgjijfmaa", sum := "659c74d4cfcb2d497600b3683d47fde013e21d88b375e1abd9f11df7bd858be6", func := "clapboard/clapboardlaw08.IntraFlat", spec := "intraFlat", inPlace := ["internal/bytealg.MakeNoZero"], unfollowed := true, recurses := true, apart := false, narrowed := true }
def IntraFlatUptoSaid : Prop := intraFlatUptoRow.holds Try.pinned (OpenSpec.upto intraFlatSpec)

/-- 'clapboardlaw08.IntraRefuses', WHERE WHAT IT READS IS OF BULK AT MOST 1048576: true; the input reads as it did. -/
def intraRefusesUptoRow : OpenClaim := { program := "ytdggilbgjijfmaa", sum := "659c74d4cfcb2d497600b3683d47fde013e21d88b375e1abd9f11df7bd858be6", func := "clapboard/clapboardlaw08.IntraRefuses", spec := "intraRefuses", inPlace := ["internal/bytealg.MakeNoZero"], unfollowed := true, recurses := true, apart := false, narrowed := true }
def IntraRefusesUptoSaid : Prop := intraRefusesUptoRow.holds Try.pinned (OpenSpec.upto intraRefusesSpec)

end Rows
end Go.Proofs.Ytdggilbgjijfmaa
