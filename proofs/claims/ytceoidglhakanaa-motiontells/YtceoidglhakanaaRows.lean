/-
  No cell of these rows narrows 'for every input' (looked for: loops, veiled, ifaces, maps, wideKeys, modest, calm, conditions, laid).
  DERIVED. THE GIVEN ROWS OF THIS SEAT. 6 by the template 'for every input the law returns true; each argument reads behind the call as it read before'; 0 by the template 'total and deterministic' (their statements: YtceoidglhakanaaTotals.lean).
  GIVEN WITH THE SEED: the statements are not yours to turn. If you find one false, say at which input.
  Laid BY PROGRAM, IN A SANDBOX (cutbox-rows.mjs): the forced cells as the released guide's own fill.sh prints them over the translation 60cdabdbf592f2db… (all of the seat's roots in one cut). By AI agents, Wed Nov 11 2026. No macro, syntax, notation, axiom, sorry.
-/
import Derived.Test.YtceoidglhakanaaChecked
import GoSem.Claim
import GoSem.ClaimJoined
import GoSem.ClaimMapViews
import Derived.JoinedTies
import Derived.KernelRfl
namespace Go.Proofs.Ytceoidglhakanaa
/- THE CELL 'sum', in the pinned program and in every row, IS THE sha256 OF THE DUMP (.gsa) THAT YtceoidglhakanaaProg.lean LOADS. Nothing in Lean hashes anything: it is a label: what it is worth is what the hold of that sum in a sandbox is worth. -/
noncomputable def Try.pinned : Pinned := { name := "ytceoidglhakanaa", sum := "60cdabdbf592f2db377fb4028fcb680451254df738e204a595492a353a101766", checked := Try.checked }
namespace Rows
def none {H : Type} : Left H := { results := [], args := [] }

/-- 'clapboardlaw09.MotionTells': WHATEVER THE INPUT: true; the input reads as it did. -/
def motionTellsSpec : ChangeSpec := { name := "motionTells", fn := fun _ => fun
  | [d1, d2, d3, d4, d5, d6, d7] => { results := [.lit (.bool true)], args := [d1, d2, d3, d4, d5, d6, d7] }
  | _ => none }
def motionTellsRow : OpenClaim := { program := "ytceoidglhakanaa", sum := "60cdabdbf592f2db377fb4028fcb680451254df738e204a595492a353a101766", func := "clapboard/clapboardlaw09.MotionTells", spec := "motionTells", inPlace := ["internal/bytealg.MakeNoZero"], unfollowed := true, recurses := true, apart := false }
def MotionTellsSaid : Prop := motionTellsRow.holds Try.pinned (OpenSpec.ofChange motionTellsSpec)

/-- ITS FALSE NEIGHBOUR: 'it returns false'. Refute it at one input. -/
def motionTellsWrong : ChangeSpec := { name := "motionTells", fn := fun _ => fun
  | [d1, d2, d3, d4, d5, d6, d7] => { results := [.lit (.bool false)], args := [d1, d2, d3, d4, d5, d6, d7] }
  | _ => none }
def MotionTellsWrongFalsely : Prop := motionTellsRow.holds Try.pinned (OpenSpec.ofChange motionTellsWrong)

/-- 'clapboardlaw09.MotionSearches': WHATEVER THE INPUT: true; the input reads as it did. -/
def motionSearchesSpec : ChangeSpec := { name := "motionSearches", fn := fun _ => fun
  | [d1, d2, d3, d4, d5, d6] => { results := [.lit (.bool true)], args := [d1, d2, d3, d4, d5, d6] }
  | _ => none }
def motionSearchesRow : OpenClaim := { program := "ytceoidglhakanaa", sum := "60cdabdbf592f2db377fb4028fcb680451254df738e204a595492a353a101766", func := "clapboard/clapboardlaw09.MotionSearches", spec := "motionSearches", inPlace := ["internal/bytealg.MakeNoZero"], unfollowed := true, recurses := true, apart := false }
def MotionSearchesSaid : Prop := motionSearchesRow.holds Try.pinned (OpenSpec.ofChange motionSearchesSpec)

/-- ITS FALSE NEIGHBOUR: 'it returns false'. Refute it at one input. -/
def motionSearchesWrong : ChangeSpec := { name := "motionSearches", fn := fun _ => fun
  | [d1, d2, d3, d4, d5, d6] => { results := [.lit (.bool false)], args := [d1, d2, d3, d4, d5, d6] }
  | _ => none }
def MotionSearchesWrongFalsely : Prop := motionSearchesRow.holds Try.pinned (OpenSpec.ofChange motionSearchesWrong)

/-- 'clapboardlaw09.MotionStays': WHATEVER THE INPUT: true; the input reads as it did. -/
def motionStaysSpec : ChangeSpec := { name := "motionStays", fn := fun _ => fun
  | [d1, d2, d3, d4, d5, d6, d7] => { results := [.lit (.bool true)], args := [d1, d2, d3, d4, d5, d6, d7] }
  | _ => none }
def motionStaysRow : OpenClaim := { program := "ytceoidglhakanaa", sum := "60cdabdbf592f2db377fb4028fcb680451254df738e204a595492a353a101766", func := "clapboard/clapboardlaw09.MotionStays", spec := "motionStays", inPlace := ["internal/bytealg.MakeNoZero"], unfollowed := true, recurses := true, apart := false }
def MotionStaysSaid : Prop := motionStaysRow.holds Try.pinned (OpenSpec.ofChange motionStaysSpec)

/-- ITS FALSE NEIGHBOUR: 'it returns false'. Refute it at one input. -/
def motionStaysWrong : ChangeSpec := { name := "motionStays", fn := fun _ => fun
  | [d1, d2, d3, d4, d5, d6, d7] => { results := [.lit (.bool false)], args := [d1, d2, d3, d4, d5, d6, d7] }
  | _ => none }
def MotionStaysWrongFalsely : Prop := motionStaysRow.holds Try.pinned (OpenSpec.ofChange motionStaysWrong)

/-- 'clapboardlaw09.MotionFinds': WHATEVER THE INPUT: true; the input reads as it did. -/
def motionFindsSpec : ChangeSpec := { name := "motionFinds", fn := fun _ => fun
  | [d1, d2, d3, d4, d5, d6, d7] => { results := [.lit (.bool true)], args := [d1, d2, d3, d4, d5, d6, d7] }
  | _ => none }
def motionFindsRow : OpenClaim := { program := "ytceoidglhakanaa", sum := "60cdabdbf592f2db377fb4028fcb680451254df738e204a595492a353a101766", func := "clapboard/clapboardlaw09.MotionFinds", spec := "motionFinds", inPlace := ["internal/bytealg.MakeNoZero"], unfollowed := true, recurses := true, apart := false }
def MotionFindsSaid : Prop := motionFindsRow.holds Try.pinned (OpenSpec.ofChange motionFindsSpec)

/-- ITS FALSE NEIGHBOUR: 'it returns false'. Refute it at one input. -/
def motionFindsWrong : ChangeSpec := { name := "motionFinds", fn := fun _ => fun
  | [d1, d2, d3, d4, d5, d6, d7] => { results := [.lit (.bool false)], args := [d1, d2, d3, d4, d5, d6, d7] }
  | _ => none }
def MotionFindsWrongFalsely : Prop := motionFindsRow.holds Try.pinned (OpenSpec.ofChange motionFindsWrong)

/-- 'clapboardlaw09.MotionFlat': WHATEVER THE INPUT: true; the input reads as it did. -/
def motionFlatSpec : ChangeSpec := { name := "motionFlat", fn := fun _ => fun
  | [d1, d2, d3, d4, d5, d6, d7, d8] => { results := [.lit (.bool true)], args := [d1, d2, d3, d4, d5, d6, d7, d8] }
  | _ => none }
def motionFlatRow : OpenClaim := { program := "ytceoidglhakanaa", sum := "60cdabdbf592f2db377fb4028fcb680451254df738e204a595492a353a101766", func := "clapboard/clapboardlaw09.MotionFlat", spec := "motionFlat", inPlace := ["internal/bytealg.MakeNoZero"], unfollowed := true, recurses := true, apart := false }
def MotionFlatSaid : Prop := motionFlatRow.holds Try.pinned (OpenSpec.ofChange motionFlatSpec)

/-- ITS FALSE NEIGHBOUR: 'it returns false'. Refute it at one input. -/
def motionFlatWrong : ChangeSpec := { name := "motionFlat", fn := fun _ => fun
  | [d1, d2, d3, d4, d5, d6, d7, d8] => { results := [.lit (.bool false)], args := [d1, d2, d3, d4, d5, d6, d7, d8] }
  | _ => none }
def MotionFlatWrongFalsely : Prop := motionFlatRow.holds Try.pinned (OpenSpec.ofChange motionFlatWrong)

/-- 'clapboardlaw09.MotionRefuses': WHATEVER THE INPUT: true; the input reads as it did. -/
def motionRefusesSpec : ChangeSpec := { name := "motionRefuses", fn := fun _ => fun
  | [d1, d2, d3, d4, d5, d6, d7] => { results := [.lit (.bool true)], args := [d1, d2, d3, d4, d5, d6, d7] }
  | _ => none }
def motionRefusesRow : OpenClaim := { program := "ytceoidglhakanaa", sum := "60cdabdbf592f2db377fb4028fcb680451254df738e204a595492a353a101766", func := "clapboard/clapboardlaw09.MotionRefuses", spec := "motionRefuses", inPlace := ["internal/bytealg.MakeNoZero"], unfollowed := true, recurses := true, apart := false }
def MotionRefusesSaid : Prop := motionRefusesRow.holds Try.pinned (OpenSpec.ofChange motionRefusesSpec)

/-- ITS FALSE NEIGHBOUR: 'it returns false'. Refute it at one input. -/
def motionRefusesWrong : ChangeSpec := { name := "motionRefuses", fn := fun _ => fun
  | [d1, d2, d3, d4, d5, d6, d7] => { results := [.lit (.bool false)], args := [d1, d2, d3, d4, d5, d6, d7] }
  | _ => none }
def MotionRefusesWrongFalsely : Prop := motionRefusesRow.holds Try.pinned (OpenSpec.ofChange motionRefusesWrong)

/- THE SECOND FORM. 'bulk': how many values and letters a reading holds, each counted each time it is reached (what is shared counts as often as it is met; a slice's spare places count too). A statement '..UptoSaid' is the law's where the arguments, and the package variables that the reading takes, are together of bulk at most 1048576: NARROWER than '..Said'. Prove '..Said' where nothing that the law and all that it calls make is longer than what came in: it says more and counts as full. Else prove '..UptoSaid'. A law counts once. -/
mutual
def uptoBulk {H : Type} : DataW H → Nat
  | .lit (.string bytes) => bytes.length + 1
  | .lit _ => 1
  | .nil => 1
  | .ptr d => uptoBulk d + 1
  | .slice elems spare => uptoBulkAll elems + uptoBulkAll spare + 1
  | .agg parts => uptoBulkAll parts + 1
  | .iface _ d => uptoBulk d + 1
  | .map entries => uptoBulkEntries entries + 1
  | .held _ => 1
def uptoBulkAll {H : Type} : List (DataW H) → Nat
  | [] => 0
  | d :: r => uptoBulk d + uptoBulkAll r
def uptoBulkEntries {H : Type} : List (Lit × DataW H) → Nat
  | [] => 0
  | x :: r => uptoBulkEntry x + uptoBulkEntries r
def uptoBulkEntry {H : Type} : Lit × DataW H → Nat
  | (.string bytes, d) => bytes.length + uptoBulk d + 1
  | (_, d) => uptoBulk d + 1
 end
def uptoSmall : (H : Type) → List (DataW H) → Bool := fun _ ds => decide (uptoBulkAll ds ≤ 1048576)
def OpenSpec.upto (s : _root_.Go.ChangeSpec) : _root_.Go.OpenSpec := { _root_.Go.OpenSpec.ofChange s with cond := some uptoSmall }

/-- 'clapboardlaw09.MotionTells', WHERE WHAT IT READS IS OF BULK AT MOST 1048576: true; the input reads as it did. -/
def motionTellsUptoRow : OpenClaim := { program := "ytceoidglhakanaa", sum := "60cdabdbf592f2db377fb4028fcb680451254df738e204a595492a353a101766", func := "clapboard/clapboardlaw09.MotionTells", spec := "motionTells", inPlace := ["internal/bytealg.MakeNoZero"], unfollowed := true, recurses := true, apart := false, narrowed := true }
def MotionTellsUptoSaid : Prop := motionTellsUptoRow.holds Try.pinned (OpenSpec.upto motionTellsSpec)

/-- 'clapboardlaw09.MotionSearches', WHERE WHAT IT READS IS OF BULK AT MOST 1048576: true; the input reads as it did. -/
def motionSearchesUptoRow : OpenClaim := { program := "ytceoidglhakanaa", sum := "60cdabdbf592f2db377fb4028fcb680451254df738e204a595492a353a101766", func := "clapboard/clapboardlaw09.MotionSearches", spec := "motionSearches", inPlace := ["internal/bytealg.MakeNoZero"], unfollowed := true, recurses := true, apart := false, narrowed := true }
def MotionSearchesUptoSaid : Prop := motionSearchesUptoRow.holds Try.pinned (OpenSpec.upto motionSearchesSpec)

/-- 'clapboardlaw09.MotionStays', WHERE WHAT IT READS IS OF BULK AT MOST 1048576: true; the input reads as it did. -/
def motionStaysUptoRow : OpenClaim := { program := "ytceoidglhakanaa", sum := "60cdabdbf592f2db377fb4028fcb680451254df738e204a595492a353a101766", func := "clapboard/clapboardlaw09.MotionStays", spec := "motionStays", inPlace := ["internal/bytealg.MakeNoZero"], unfollowed := true, recurses := true, apart := false, narrowed := true }
def MotionStaysUptoSaid : Prop := motionStaysUptoRow.holds Try.pinned (OpenSpec.upto motionStaysSpec)

/-- 'clapboardlaw09.MotionFinds', WHERE WHAT IT READS IS OF BULK AT MOST 1048576: true; the input reads as it did. -/
def motionFindsUptoRow : OpenClaim := { program := "ytceoidglhakanaa", sum := "60cdabdbf592f2db377fb4028fcb680451254df738e204a595492a353a101766", func := "clapboard/clapboardlaw09.MotionFinds", spec := "motionFinds", inPlace := ["internal/bytealg.MakeNoZero"], unfollowed := true, recurses := true, apart := false, narrowed := true }
def MotionFindsUptoSaid : Prop := motionFindsUptoRow.holds Try.pinned (OpenSpec.upto motionFindsSpec)

/-- 'clapboardlaw09.MotionFlat', WHERE WHAT IT READS IS OF BULK AT MOST 1048576: true; the input reads as it did. -/
def motionFlatUptoRow : OpenClaim := { program := "ytceoidglhakanaa", sum := "60cdabdbf592f2db377fb4028fcb680451254df738e204a595492a353a101766", func := "clapboard/clapboardlaw09.MotionFlat", spec := "motionFlat", inPlace := ["internal/bytealg.MakeNoZero"], unfollowed := true, recurses := true, apart := false, narrowed := true }
def MotionFlatUptoSaid : Prop := motionFlatUptoRow.holds Try.pinned (OpenSpec.upto motionFlatSpec)

/-- 'clapboardlaw09.MotionRefuses', WHERE WHAT IT READS IS OF BULK AT MOST 1048576: true; the input reads as it did. -/
def motionRefusesUptoRow : OpenClaim := { program := "ytceoidglhakanaa", sum := "60cdabdbf592f2db377fb4028fcb680451254df738e204a595492a353a101766", func := "clapboard/clapboardlaw09.MotionRefuses", spec := "motionRefuses", inPlace := ["internal/bytealg.MakeNoZero"], unfollowed := true, recurses := true, apart := false, narrowed := true }
def MotionRefusesUptoSaid : Prop := motionRefusesUptoRow.holds Try.pinned (OpenSpec.upto motionRefusesSpec)

end Rows
end Go.Proofs.Ytceoidglhakanaa
