/-
  No cell of these rows narrows 'for every input' (looked for: loops, veiled, ifaces, maps, wideKeys, modest, calm, conditions, laid).
  DERIVED. THE GIVEN ROWS OF THIS SEAT. 8 by the template 'for every input the law returns true; each argument reads behind the call as it read before'; 0 by the template 'total and deterministic' (their statements: YtbfmjomekkcpcaaTotals.lean).
  GIVEN WITH THE SEED: the statements are not yours to turn. If you find one false, say at which input.
  Laid BY PROGRAM, IN A SANDBOX (cutbox-rows.mjs): the forced cells as the released guide's own fill.sh prints them over the translation e5c309987c225c99… (all of the seat's roots in one cut). By AI agents, Wed Nov 11 2026. No macro, syntax, notation, axiom, sorry.
-/
import Derived.Test.YtbfmjomekkcpcaaChecked
import GoSem.Claim
import GoSem.ClaimJoined
import GoSem.ClaimMapViews
import Derived.JoinedTies
import Derived.KernelRfl
namespace Go.Proofs.Ytbfmjomekkcpcaa
/- THE CELL 'sum', in the pinned program and in every row, IS THE sha256 OF THE DUMP (.gsa) THAT YtbfmjomekkcpcaaProg.lean LOADS. Nothing in Lean hashes anything: it is a label: what it is worth is what the hold of that sum in a sandbox is worth. -/
noncomputable def Try.pinned : Pinned := { name := "ytbfmjomekkcpcaa", sum := "e5c309987c225c996a7c2b4e2f3d4eb9ddcd4748e9c9377750db5ad4e1d4c9dd", checked := Try.checked }
namespace Rows
def none {H : Type} : Left H := { results := [], args := [] }

/-- 'clapboardlaw01.BitsNames': WHATEVER THE INPUT: true; the input reads as it did. -/
def bitsNamesSpec : ChangeSpec := { name := "bitsNames", fn := fun _ => fun
  | [] => { results := [.lit (.bool true)], args := [] }
  | _ => none }
def bitsNamesRow : OpenClaim := { program := "ytbfmjomekkcpcaa", sum := "e5c309987c225c996a7c2b4e2f3d4eb9ddcd4748e9c9377750db5ad4e1d4c9dd", func := "clapboard/clapboardlaw01.BitsNames", spec := "bitsNames", unfollowed := true, recurses := true, apart := false }
def BitsNamesSaid : Prop := bitsNamesRow.holds Try.pinned (OpenSpec.ofChange bitsNamesSpec)

/-- ITS FALSE NEIGHBOUR: 'it returns false'. Refute it at one input. -/
def bitsNamesWrong : ChangeSpec := { name := "bitsNames", fn := fun _ => fun
  | [] => { results := [.lit (.bool false)], args := [] }
  | _ => none }
def BitsNamesWrongFalsely : Prop := bitsNamesRow.holds Try.pinned (OpenSpec.ofChange bitsNamesWrong)

/-- 'clapboardlaw01.BitsWrite': WHATEVER THE INPUT: true; the input reads as it did. -/
def bitsWriteSpec : ChangeSpec := { name := "bitsWrite", fn := fun _ => fun
  | [d] => { results := [.lit (.bool true)], args := [d] }
  | _ => none }
def bitsWriteRow : OpenClaim := { program := "ytbfmjomekkcpcaa", sum := "e5c309987c225c996a7c2b4e2f3d4eb9ddcd4748e9c9377750db5ad4e1d4c9dd", func := "clapboard/clapboardlaw01.BitsWrite", spec := "bitsWrite", unfollowed := true, recurses := true, apart := false }
def BitsWriteSaid : Prop := bitsWriteRow.holds Try.pinned (OpenSpec.ofChange bitsWriteSpec)

/-- ITS FALSE NEIGHBOUR: 'it returns false'. Refute it at one input. -/
def bitsWriteWrong : ChangeSpec := { name := "bitsWrite", fn := fun _ => fun
  | [d] => { results := [.lit (.bool false)], args := [d] }
  | _ => none }
def BitsWriteWrongFalsely : Prop := bitsWriteRow.holds Try.pinned (OpenSpec.ofChange bitsWriteWrong)

/-- 'clapboardlaw01.BitsRead': WHATEVER THE INPUT: true; the input reads as it did. -/
def bitsReadSpec : ChangeSpec := { name := "bitsRead", fn := fun _ => fun
  | [d1, d2] => { results := [.lit (.bool true)], args := [d1, d2] }
  | _ => none }
def bitsReadRow : OpenClaim := { program := "ytbfmjomekkcpcaa", sum := "e5c309987c225c996a7c2b4e2f3d4eb9ddcd4748e9c9377750db5ad4e1d4c9dd", func := "clapboard/clapboardlaw01.BitsRead", spec := "bitsRead", unfollowed := true, recurses := true, apart := false }
def BitsReadSaid : Prop := bitsReadRow.holds Try.pinned (OpenSpec.ofChange bitsReadSpec)

/-- ITS FALSE NEIGHBOUR: 'it returns false'. Refute it at one input. -/
def bitsReadWrong : ChangeSpec := { name := "bitsRead", fn := fun _ => fun
  | [d1, d2] => { results := [.lit (.bool false)], args := [d1, d2] }
  | _ => none }
def BitsReadWrongFalsely : Prop := bitsReadRow.holds Try.pinned (OpenSpec.ofChange bitsReadWrong)

/-- 'clapboardlaw01.BitsLost': WHATEVER THE INPUT: true; the input reads as it did. -/
def bitsLostSpec : ChangeSpec := { name := "bitsLost", fn := fun _ => fun
  | [d1, d2, d3] => { results := [.lit (.bool true)], args := [d1, d2, d3] }
  | _ => none }
def bitsLostRow : OpenClaim := { program := "ytbfmjomekkcpcaa", sum := "e5c309987c225c996a7c2b4e2f3d4eb9ddcd4748e9c9377750db5ad4e1d4c9dd", func := "clapboard/clapboardlaw01.BitsLost", spec := "bitsLost", unfollowed := true, recurses := true, apart := false }
def BitsLostSaid : Prop := bitsLostRow.holds Try.pinned (OpenSpec.ofChange bitsLostSpec)

/-- ITS FALSE NEIGHBOUR: 'it returns false'. Refute it at one input. -/
def bitsLostWrong : ChangeSpec := { name := "bitsLost", fn := fun _ => fun
  | [d1, d2, d3] => { results := [.lit (.bool false)], args := [d1, d2, d3] }
  | _ => none }
def BitsLostWrongFalsely : Prop := bitsLostRow.holds Try.pinned (OpenSpec.ofChange bitsLostWrong)

/-- 'clapboardlaw01.BitsNil': WHATEVER THE INPUT: true; the input reads as it did. -/
def bitsNilSpec : ChangeSpec := { name := "bitsNil", fn := fun _ => fun
  | [d1, d2] => { results := [.lit (.bool true)], args := [d1, d2] }
  | _ => none }
def bitsNilRow : OpenClaim := { program := "ytbfmjomekkcpcaa", sum := "e5c309987c225c996a7c2b4e2f3d4eb9ddcd4748e9c9377750db5ad4e1d4c9dd", func := "clapboard/clapboardlaw01.BitsNil", spec := "bitsNil", unfollowed := true, recurses := true, apart := false }
def BitsNilSaid : Prop := bitsNilRow.holds Try.pinned (OpenSpec.ofChange bitsNilSpec)

/-- ITS FALSE NEIGHBOUR: 'it returns false'. Refute it at one input. -/
def bitsNilWrong : ChangeSpec := { name := "bitsNil", fn := fun _ => fun
  | [d1, d2] => { results := [.lit (.bool false)], args := [d1, d2] }
  | _ => none }
def BitsNilWrongFalsely : Prop := bitsNilRow.holds Try.pinned (OpenSpec.ofChange bitsNilWrong)

/-- 'clapboardlaw01.BitsMany': WHATEVER THE INPUT: true; the input reads as it did. -/
def bitsManySpec : ChangeSpec := { name := "bitsMany", fn := fun _ => fun
  | [d1, d2, d3] => { results := [.lit (.bool true)], args := [d1, d2, d3] }
  | _ => none }
def bitsManyRow : OpenClaim := { program := "ytbfmjomekkcpcaa", sum := "e5c309987c225c996a7c2b4e2f3d4eb9ddcd4748e9c9377750db5ad4e1d4c9dd", func := "clapboard/clapboardlaw01.BitsMany", spec := "bitsMany", unfollowed := true, recurses := true, apart := false }
def BitsManySaid : Prop := bitsManyRow.holds Try.pinned (OpenSpec.ofChange bitsManySpec)

/-- ITS FALSE NEIGHBOUR: 'it returns false'. Refute it at one input. -/
def bitsManyWrong : ChangeSpec := { name := "bitsMany", fn := fun _ => fun
  | [d1, d2, d3] => { results := [.lit (.bool false)], args := [d1, d2, d3] }
  | _ => none }
def BitsManyWrongFalsely : Prop := bitsManyRow.holds Try.pinned (OpenSpec.ofChange bitsManyWrong)

/-- 'clapboardlaw01.BitsFirst': WHATEVER THE INPUT: true; the input reads as it did. -/
def bitsFirstSpec : ChangeSpec := { name := "bitsFirst", fn := fun _ => fun
  | [d1, d2] => { results := [.lit (.bool true)], args := [d1, d2] }
  | _ => none }
def bitsFirstRow : OpenClaim := { program := "ytbfmjomekkcpcaa", sum := "e5c309987c225c996a7c2b4e2f3d4eb9ddcd4748e9c9377750db5ad4e1d4c9dd", func := "clapboard/clapboardlaw01.BitsFirst", spec := "bitsFirst", unfollowed := true, recurses := true, apart := false }
def BitsFirstSaid : Prop := bitsFirstRow.holds Try.pinned (OpenSpec.ofChange bitsFirstSpec)

/-- ITS FALSE NEIGHBOUR: 'it returns false'. Refute it at one input. -/
def bitsFirstWrong : ChangeSpec := { name := "bitsFirst", fn := fun _ => fun
  | [d1, d2] => { results := [.lit (.bool false)], args := [d1, d2] }
  | _ => none }
def BitsFirstWrongFalsely : Prop := bitsFirstRow.holds Try.pinned (OpenSpec.ofChange bitsFirstWrong)

/-- 'clapboardlaw01.BitsLow': WHATEVER THE INPUT: true; the input reads as it did. -/
def bitsLowSpec : ChangeSpec := { name := "bitsLow", fn := fun _ => fun
  | [d1, d2, d3] => { results := [.lit (.bool true)], args := [d1, d2, d3] }
  | _ => none }
def bitsLowRow : OpenClaim := { program := "ytbfmjomekkcpcaa", sum := "e5c309987c225c996a7c2b4e2f3d4eb9ddcd4748e9c9377750db5ad4e1d4c9dd", func := "clapboard/clapboardlaw01.BitsLow", spec := "bitsLow", unfollowed := true, recurses := true, apart := false }
def BitsLowSaid : Prop := bitsLowRow.holds Try.pinned (OpenSpec.ofChange bitsLowSpec)

/-- ITS FALSE NEIGHBOUR: 'it returns false'. Refute it at one input. -/
def bitsLowWrong : ChangeSpec := { name := "bitsLow", fn := fun _ => fun
  | [d1, d2, d3] => { results := [.lit (.bool false)], args := [d1, d2, d3] }
  | _ => none }
def BitsLowWrongFalsely : Prop := bitsLowRow.holds Try.pinned (OpenSpec.ofChange bitsLowWrong)

/- THE SECOND FORM. 'bulk': how many values and letters a reading holds, each counted each time it is reached (what is shared counts as often as it is met; a slice's spare places count too). A statement '..UptoSaid' is the law's where the arguments, and the package variables that the reading takes, are together of bulk at most 1048576: NARROWER than '..Said'. Prove '..Said' where nothing that the law and all that it calls make is longer than what came in: it says more and counts as full. Else prove '..UptoSaid'. A law counts once. -/
mutual
def uptoBulk {H : Type} : DataW H → Nat
  | .lit (.string bytes) => bytes.length + 1
  | .lit _ => 1
  | .nil => 1
  | .ptr d => uptoBulk d + 1
  | .slice elems spare => uptoBulkAll elems + uptoBulkAll spare + 1
  | .agg parts => uptoBulkAll parts + 1
  | .iface _ d => uptoBulk d + 1
  | .map entries => uptoBulkEntries entries + 1
  | .held _ => 1
def uptoBulkAll {H : Type} : List (DataW H) → Nat
  | [] => 0
  | d :: r => uptoBulk d + uptoBulkAll r
def uptoBulkEntries {H : Type} : List (Lit × DataW H) → Nat
  | [] => 0
  | x :: r => uptoBulkEntry x + uptoBulkEntries r
def uptoBulkEntry {H : Type} : Lit × DataW H → Nat
  | (.string bytes, d) => bytes.length + uptoBulk d + 1
  | (_, d) => uptoBulk d + 1
 end
def uptoSmall : (H : Type) → List (DataW H) → Bool := fun _ ds => decide (uptoBulkAll ds ≤ 1048576)
def OpenSpec.upto (s : _root_.Go.ChangeSpec) : _root_.Go.OpenSpec := { _root_.Go.OpenSpec.ofChange s with cond := some uptoSmall }

/-- 'clapboardlaw01.BitsNames', WHERE WHAT IT READS IS OF BULK AT MOST 1048576: true; the input reads as it did. -/
def bitsNamesUptoRow : OpenClaim := { program := "ytbfmjomekkcpcaa", sum := "e5c309987c225c996a7c2b4e2f3d4eb9ddcd4748e9c9377750db5ad4e1d4c9dd", func := "clapboard/clapboardlaw01.BitsNames", spec := "bitsNames", unfollowed := true, recurses := true, apart := false, narrowed := true }
def BitsNamesUptoSaid : Prop := bitsNamesUptoRow.holds Try.pinned (OpenSpec.upto bitsNamesSpec)

/-- 'clapboardlaw01.BitsWrite', WHERE WHAT IT READS IS OF BULK AT MOST 1048576: true; the input reads as it did. -/
def bitsWriteUptoRow : OpenClaim := { program := "ytbfmjomekkcpcaa", sum := "e5c309987c225c996a7c2b4e2f3d4eb9ddcd4748e9c9377750db5ad4e1d4c9dd", func := "clapboard/clapboardlaw01.BitsWrite", spec := "bitsWrite", unfollowed := true, recurses := true, apart := false, narrowed := true }
def BitsWriteUptoSaid : Prop := bitsWriteUptoRow.holds Try.pinned (OpenSpec.upto bitsWriteSpec)

/-- 'clapboardlaw01.BitsRead', WHERE WHAT IT READS IS OF BULK AT MOST 1048576: true; the input reads as it did. -/
def bitsReadUptoRow : OpenClaim := { program := "ytbfmjomekkcpcaa", sum := "e5c309987c225c996a7c2b4e2f3d4eb9ddcd4748e9c9377750db5ad4e1d4c9dd", func := "clapboard/clapboardlaw01.BitsRead", spec := "bitsRead", unfollowed := true, recurses := true, apart := false, narrowed := true }
def BitsReadUptoSaid : Prop := bitsReadUptoRow.holds Try.pinned (OpenSpec.upto bitsReadSpec)

/-- 'clapboardlaw01.BitsLost', WHERE WHAT IT READS IS OF BULK AT MOST 1048576: true; the input reads as it did. -/
def bitsLostUptoRow : OpenClaim := { program := "ytbfmjomekkcpcaa", sum := "e5c309987c225c996a7c2b4e2f3d4eb9ddcd4748e9c9377750db5ad4e1d4c9dd", func := "clapboard/clapboardlaw01.BitsLost", spec := "bitsLost", unfollowed := true, recurses := true, apart := false, narrowed := true }
def BitsLostUptoSaid : Prop := bitsLostUptoRow.holds Try.pinned (OpenSpec.upto bitsLostSpec)

/-- 'clapboardlaw01.BitsNil', WHERE WHAT IT READS IS OF BULK AT MOST 1048576: true; the input reads as it did. -/
def bitsNilUptoRow : OpenClaim := { program := "ytbfmjomekkcpcaa", sum := "e5c309987c225c996a7c2b4e2f3d4eb9ddcd4748e9c9377750db5ad4e1d4c9dd", func := "clapboard/clapboardlaw01.BitsNil", spec := "bitsNil", unfollowed := true, recurses := true, apart := false, narrowed := true }
def BitsNilUptoSaid : Prop := bitsNilUptoRow.holds Try.pinned (OpenSpec.upto bitsNilSpec)

/-- 'clapboardlaw01.BitsMany', WHERE WHAT IT READS IS OF BULK AT MOST 1048576: true; the input reads as it did. -/
def bitsManyUptoRow : OpenClaim := { program := "ytbfmjomekkcpcaa", sum := "e5c309987c225c996a7c2b4e2f3d4eb9ddcd4748e9c9377750db5ad4e1d4c9dd", func := "clapboard/clapboardlaw01.BitsMany", spec := "bitsMany", unfollowed := true, recurses := true, apart := false, narrowed := true }
def BitsManyUptoSaid : Prop := bitsManyUptoRow.holds Try.pinned (OpenSpec.upto bitsManySpec)

/-- 'clapboardlaw01.BitsFirst', WHERE WHAT IT READS IS OF BULK AT MOST 1048576: true; the input reads as it did. -/
def bitsFirstUptoRow : OpenClaim := { program := "ytbfmjomekkcpcaa", sum := "e5c309987c225c996a7c2b4e2f3d4eb9ddcd4748e9c9377750db5ad4e1d4c9dd", func := "clapboard/clapboardlaw01.BitsFirst", spec := "bitsFirst", unfollowed := true, recurses := true, apart := false, narrowed := true }
def BitsFirstUptoSaid : Prop := bitsFirstUptoRow.holds Try.pinned (OpenSpec.upto bitsFirstSpec)

/-- 'clapboardlaw01.BitsLow', WHERE WHAT IT READS IS OF BULK AT MOST 1048576: true; the input reads as it did. -/
def bitsLowUptoRow : OpenClaim := { program := "ytbfmjomekkcpcaa", sum := "e5c309987c225c996a7c2b4e2f3d4eb9ddcd4748e9c9377750db5ad4e1d4c9dd", func := "clapboard/clapboardlaw01.BitsLow", spec := "bitsLow", unfollowed := true, recurses := true, apart := false, narrowed := true }
def BitsLowUptoSaid : Prop := bitsLowUptoRow.holds Try.pinned (OpenSpec.upto bitsLowSpec)

end Rows
end Go.Proofs.Ytbfmjomekkcpcaa
