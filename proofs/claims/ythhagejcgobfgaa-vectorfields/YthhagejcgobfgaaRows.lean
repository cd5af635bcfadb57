/-
  No cell of these rows narrows 'for every input' (looked for: loops, veiled, ifaces, maps, wideKeys, modest, calm, conditions, laid).
  DERIVED. THE GIVEN ROWS OF THIS SEAT. 7 by the template 'for every input the law returns true; each argument reads behind the call as it read before'; 0 by the template 'total and deterministic' (their statements: YthhagejcgobfgaaTotals.lean).
  GIVEN WITH THE SEED: the statements are not yours to turn. If you find one false, say at which input.
  Laid BY PROGRAM, IN A SANDBOX (cutbox-rows.mjs): the forced cells as the released guide's own fill.sh prints them over the translation 1a0a7f68dd3adce5… (all of the seat's roots in one cut). By AI agents, Wed Nov 11 2026. No macro, syntax, notation, axiom, sorry.
-/
import Derived.Test.YthhagejcgobfgaaChecked
import GoSem.Claim
import GoSem.ClaimJoined
import GoSem.ClaimMapViews
import Derived.JoinedTies
import Derived.KernelRfl
namespace Go.Proofs.Ythhagejcgobfgaa
/- THE CELL 'sum', in the pinned program and in every row, IS THE sha256 OF THE DUMP (.gsa) THAT YthhagejcgobfgaaProg.lean LOADS. Nothing in Lean hashes anything: it is a label: what it is worth is what the hold of that sum in a sandbox is worth. -/
noncomputable def Try.pinned : Pinned := { name := "ythhagejcgobfgaa", sum := "1a0a7f68dd3adce5f1d545a62d3797121c5394c8dff324dab96cf071077af293", checked := Try.checked }
namespace Rows
def none {H : Type} : Left H := { results := [], args := [] }

/-- 'clapboardlaw10.VectorFields': WHATEVER THE INPUT: true; the input reads as it did. -/
def vectorFieldsSpec : ChangeSpec := { name := "vectorFields", fn := fun _ => fun
  | [d1, d2, d3, d4, d5] => { results := [.lit (.bool true)], args := [d1, d2, d3, d4, d5] }
  | _ => none }
def vectorFieldsRow : OpenClaim := { program := "ythhagejcgobfgaa", sum := "1a0a7f68dd3adce5f1d545a62d3797121c5394c8dff324dab96cf071077af293", func := "clapboard/clapboardlaw10.VectorFields", spec := "vectorFields", unfollowed := true, recurses := true, plainKeys := false, apart := false }
def VectorFieldsSaid : Prop := vectorFieldsRow.holds Try.pinned (OpenSpec.ofChange vectorFieldsSpec)

/-- ITS FALSE NEIGHBOUR: 'it returns false'. Refute it at one input. -/
def vectorFieldsWrong : ChangeSpec := { name := "vectorFields", fn := fun _ => fun
  | [d1, d2, d3, d4, d5] => { results := [.lit (.bool false)], args := [d1, d2, d3, d4, d5] }
  | _ => none }
def VectorFieldsWrongFalsely : Prop := vectorFieldsRow.holds Try.pinned (OpenSpec.ofChange vectorFieldsWrong)

/-- 'clapboardlaw10.VectorWrites': WHATEVER THE INPUT: true; the input reads as it did. -/
def vectorWritesSpec : ChangeSpec := { name := "vectorWrites", fn := fun _ => fun
  | [d1, d2, d3] => { results := [.lit (.bool true)], args := [d1, d2, d3] }
  | _ => none }
def vectorWritesRow : OpenClaim := { program := "ythhagejcgobfgaa", sum := "1a0a7f68dd3adce5f1d545a62d3797121c5394c8dff324dab96cf071077af293", func := "clapboard/clapboardlaw10.VectorWrites", spec := "vectorWrites", unfollowed := true, recurses := true, plainKeys := false, apart := false }
def VectorWritesSaid : Prop := vectorWritesRow.holds Try.pinned (OpenSpec.ofChange vectorWritesSpec)

/-- ITS FALSE NEIGHBOUR: 'it returns false'. Refute it at one input. -/
def vectorWritesWrong : ChangeSpec := { name := "vectorWrites", fn := fun _ => fun
  | [d1, d2, d3] => { results := [.lit (.bool false)], args := [d1, d2, d3] }
  | _ => none }
def VectorWritesWrongFalsely : Prop := vectorWritesRow.holds Try.pinned (OpenSpec.ofChange vectorWritesWrong)

/-- 'clapboardlaw10.VectorBack': WHATEVER THE INPUT: true; the input reads as it did. -/
def vectorBackSpec : ChangeSpec := { name := "vectorBack", fn := fun _ => fun
  | [d1, d2] => { results := [.lit (.bool true)], args := [d1, d2] }
  | _ => none }
def vectorBackRow : OpenClaim := { program := "ythhagejcgobfgaa", sum := "1a0a7f68dd3adce5f1d545a62d3797121c5394c8dff324dab96cf071077af293", func := "clapboard/clapboardlaw10.VectorBack", spec := "vectorBack", unfollowed := true, recurses := true, plainKeys := false, apart := false }
def VectorBackSaid : Prop := vectorBackRow.holds Try.pinned (OpenSpec.ofChange vectorBackSpec)

/-- ITS FALSE NEIGHBOUR: 'it returns false'. Refute it at one input. -/
def vectorBackWrong : ChangeSpec := { name := "vectorBack", fn := fun _ => fun
  | [d1, d2] => { results := [.lit (.bool false)], args := [d1, d2] }
  | _ => none }
def VectorBackWrongFalsely : Prop := vectorBackRow.holds Try.pinned (OpenSpec.ofChange vectorBackWrong)

/-- 'clapboardlaw10.VectorMedians': WHATEVER THE INPUT: true; the input reads as it did. -/
def vectorMediansSpec : ChangeSpec := { name := "vectorMedians", fn := fun _ => fun
  | [d1, d2, d3] => { results := [.lit (.bool true)], args := [d1, d2, d3] }
  | _ => none }
def vectorMediansRow : OpenClaim := { program := "ythhagejcgobfgaa", sum := "1a0a7f68dd3adce5f1d545a62d3797121c5394c8dff324dab96cf071077af293", func := "clapboard/clapboardlaw10.VectorMedians", spec := "vectorMedians", unfollowed := true, recurses := true, plainKeys := false, apart := false }
def VectorMediansSaid : Prop := vectorMediansRow.holds Try.pinned (OpenSpec.ofChange vectorMediansSpec)

/-- ITS FALSE NEIGHBOUR: 'it returns false'. Refute it at one input. -/
def vectorMediansWrong : ChangeSpec := { name := "vectorMedians", fn := fun _ => fun
  | [d1, d2, d3] => { results := [.lit (.bool false)], args := [d1, d2, d3] }
  | _ => none }
def VectorMediansWrongFalsely : Prop := vectorMediansRow.holds Try.pinned (OpenSpec.ofChange vectorMediansWrong)

/-- 'clapboardlaw10.VectorNil': WHATEVER THE INPUT: true; the input reads as it did. -/
def vectorNilSpec : ChangeSpec := { name := "vectorNil", fn := fun _ => fun
  | [d1, d2, d3] => { results := [.lit (.bool true)], args := [d1, d2, d3] }
  | _ => none }
def vectorNilRow : OpenClaim := { program := "ythhagejcgobfgaa", sum := "1a0a7f68dd3adce5f1d545a62d3797121c5394c8dff324dab96cf071077af293", func := "clapboard/clapboardlaw10.VectorNil", spec := "vectorNil", unfollowed := true, recurses := true, plainKeys := false, apart := false }
def VectorNilSaid : Prop := vectorNilRow.holds Try.pinned (OpenSpec.ofChange vectorNilSpec)

/-- ITS FALSE NEIGHBOUR: 'it returns false'. Refute it at one input. -/
def vectorNilWrong : ChangeSpec := { name := "vectorNil", fn := fun _ => fun
  | [d1, d2, d3] => { results := [.lit (.bool false)], args := [d1, d2, d3] }
  | _ => none }
def VectorNilWrongFalsely : Prop := vectorNilRow.holds Try.pinned (OpenSpec.ofChange vectorNilWrong)

/-- 'clapboardlaw10.VectorLays': WHATEVER THE INPUT: true; the input reads as it did. -/
def vectorLaysSpec : ChangeSpec := { name := "vectorLays", fn := fun _ => fun
  | [d1, d2, d3, d4, d5, d6, d7] => { results := [.lit (.bool true)], args := [d1, d2, d3, d4, d5, d6, d7] }
  | _ => none }
def vectorLaysRow : OpenClaim := { program := "ythhagejcgobfgaa", sum := "1a0a7f68dd3adce5f1d545a62d3797121c5394c8dff324dab96cf071077af293", func := "clapboard/clapboardlaw10.VectorLays", spec := "vectorLays", unfollowed := true, recurses := true, plainKeys := false, apart := false }
def VectorLaysSaid : Prop := vectorLaysRow.holds Try.pinned (OpenSpec.ofChange vectorLaysSpec)

/-- ITS FALSE NEIGHBOUR: 'it returns false'. Refute it at one input. -/
def vectorLaysWrong : ChangeSpec := { name := "vectorLays", fn := fun _ => fun
  | [d1, d2, d3, d4, d5, d6, d7] => { results := [.lit (.bool false)], args := [d1, d2, d3, d4, d5, d6, d7] }
  | _ => none }
def VectorLaysWrongFalsely : Prop := vectorLaysRow.holds Try.pinned (OpenSpec.ofChange vectorLaysWrong)

/-- 'clapboardlaw10.VectorSame': WHATEVER THE INPUT: true; the input reads as it did. -/
def vectorSameSpec : ChangeSpec := { name := "vectorSame", fn := fun _ => fun
  | [d1, d2, d3] => { results := [.lit (.bool true)], args := [d1, d2, d3] }
  | _ => none }
def vectorSameRow : OpenClaim := { program := "ythhagejcgobfgaa", sum := "1a0a7f68dd3adce5f1d545a62d3797121c5394c8dff324dab96cf071077af293", func := "clapboard/clapboardlaw10.VectorSame", spec := "vectorSame", unfollowed := true, recurses := true, plainKeys := false, apart := false }
def VectorSameSaid : Prop := vectorSameRow.holds Try.pinned (OpenSpec.ofChange vectorSameSpec)

/-- ITS FALSE NEIGHBOUR: 'it returns false'. Refute it at one input. -/
def vectorSameWrong : ChangeSpec := { name := "vectorSame", fn := fun _ => fun
  | [d1, d2, d3] => { results := [.lit (.bool false)], args := [d1, d2, d3] }
  | _ => none }
def VectorSameWrongFalsely : Prop := vectorSameRow.holds Try.pinned (OpenSpec.ofChange vectorSameWrong)

/- THE SECOND FORM. 'bulk': how many values and letters a reading holds, each counted each time it is reached (what is shared counts as often as it is met; a slice's spare places count too). A statement '..UptoSaid' is the law's where the arguments, and the package variables that the reading takes, are together of bulk at most 1048576: NARROWER than '..Said'. Prove '..Said' where nothing that the law and all that it calls make is longer than what came in: it says more and counts as full. Else prove '..UptoSaid'. A law counts once. -/
mutual
def uptoBulk {H : Type} : DataW H → Nat
  | .lit (.string bytes) => bytes.length + 1
  | .lit _ => 1
  | .nil => 1
  | .ptr d => uptoBulk d + 1
  | .slice elems spare => uptoBulkAll elems + uptoBulkAll spare + 1
  | .agg parts => uptoBulkAll parts + 1
  | .iface _ d => uptoBulk d + 1
  | .map entries => uptoBulkEntries entries + 1
  | .held _ => 1
def uptoBulkAll {H : Type} : List (DataW H) → Nat
  | [] => 0
  | d :: r => uptoBulk d + uptoBulkAll r
def uptoBulkEntries {H : Type} : List (Lit × DataW H) → Nat
  | [] => 0
  | x :: r => uptoBulkEntry x + uptoBulkEntries r
def uptoBulkEntry {H : Type} : Lit × DataW H → Nat
  | (.string bytes, d) => bytes.length + uptoBulk d + 1
  | (_, d) => uptoBulk d + 1
 end
def uptoSmall : (H : Type) → List (DataW H) → Bool := fun _ ds => decide (uptoBulkAll ds ≤ 1048576)
def OpenSpec.upto (s : _root_.Go.ChangeSpec) : _root_.Go.OpenSpec := { _root_.Go.OpenSpec.ofChange s with cond := some uptoSmall }

/-- 'clapboardlaw10.VectorFields', WHERE WHAT IT READS IS OF BULK AT MOST 1048576: true; the input reads as it did. -/
def vectorFieldsUptoRow : OpenClaim := { program := "ythhagejcgobfgaa", sum := "1a0a7f68dd3adce5f1d545a62d3797121c5394c8dff324dab96cf071077af293", func := "clapboard/clapboardlaw10.VectorFields", spec := "vectorFields", unfollowed := true, recurses := true, plainKeys := false, apart := false, narrowed := true }
def VectorFieldsUptoSaid : Prop := vectorFieldsUptoRow.holds Try.pinned (OpenSpec.upto vectorFieldsSpec)

/-- 'clapboardlaw10.VectorWrites', WHERE WHAT IT READS IS OF BULK AT MOST 1048576: true; the input reads as it did. -/
def vectorWritesUptoRow : OpenClaim := { program := "ythhagejcgobfgaa", sum := "1a0a7f68dd3adce5f1d545a62d3797121c5394c8dff324dab96cf071077af293", func := "clapboard/clapboardlaw10.VectorWrites", spec := "vectorWrites", unfollowed := true, recurses := true, plainKeys := false, apart := false, narrowed := true }
def VectorWritesUptoSaid : Prop := vectorWritesUptoRow.holds Try.pinned (OpenSpec.upto vectorWritesSpec)

/-- 'clapboardlaw10.VectorBack', WHERE WHAT IT READS IS OF BULK AT MOST 1048576: true; the input reads as it did. -/
def vectorBackUptoRow : OpenClaim := { program := "ythhagejcgobfgaa", sum := "1a0a7f68dd3adce5f1d545a62d3797121c5394c8dff324dab96cf071077af293", func := "clapboard/clapboardlaw10.VectorBack", spec := "vectorBack", unfollowed := true, recurses := true, plainKeys := false, apart := false, narrowed := true }
def VectorBackUptoSaid : Prop := vectorBackUptoRow.holds Try.pinned (OpenSpec.upto vectorBackSpec)

/-- 'clapboardlaw10.VectorMedians', WHERE WHAT IT READS IS OF BULK AT MOST 1048576: true; the input reads as it did. -/
def vectorMediansUptoRow : OpenClaim := { program := "ythhagejcgobfgaa", sum := "1a0a7f68dd3adce5f1d545a62d3797121c5394c8dff324dab96cf071077af293", func := "clapboard/clapboardlaw10.VectorMedians", spec := "vectorMedians", unfollowed := true, recurses := true, plainKeys := false, apart := false, narrowed := true }
def VectorMediansUptoSaid : Prop := vectorMediansUptoRow.holds Try.pinned (OpenSpec.upto vectorMediansSpec)

/-- 'clapboardlaw10.VectorNil', WHERE WHAT IT READS IS OF BULK AT MOST 1048576: true; the input reads as it did. -/
def vectorNilUptoRow : OpenClaim := { program := "ythhagejcgobfgaa", sum := "1a0a7f68dd3adce5f1d545a62d3797121c5394c8dff324dab96cf071077af293", func := "clapboard/clapboardlaw10.VectorNil", spec := "vectorNil", unfollowed := true, recurses := true, plainKeys := false, apart := false, narrowed := true }
def VectorNilUptoSaid : Prop := vectorNilUptoRow.holds Try.pinned (OpenSpec.upto vectorNilSpec)

/-- 'clapboardlaw10.VectorLays', WHERE WHAT IT READS IS OF BULK AT MOST 1048576: true; the input reads as it did. -/
def vectorLaysUptoRow : OpenClaim := { program := "ythhagejcgobfgaa", sum := "1a0a7f68dd3adce5f1d545a62d3797121c5394c8dff324dab96cf071077af293", func := "clapboard/clapboardlaw10.VectorLays", spec := "vectorLays", unfollowed := true, recurses := true, plainKeys := false, apart := false, narrowed := true }
def VectorLaysUptoSaid : Prop := vectorLaysUptoRow.holds Try.pinned (OpenSpec.upto vectorLaysSpec)

/-- 'clapboardlaw10.VectorSame', WHERE WHAT IT READS IS OF BULK AT MOST 1048576: true; the input reads as it did. -/
def vectorSameUptoRow : OpenClaim := { program := "ythhagejcgobfgaa", sum := "1a0a7f68dd3adce5f1d545a62d3797121c5394c8dff324dab96cf071077af293", func := "clapboard/clapboardlaw10.VectorSame", spec := "vectorSame", unfollowed := true, recurses := true, plainKeys := false, apart := false, narrowed := true }
def VectorSameUptoSaid : Prop := vectorSameUptoRow.holds Try.pinned (OpenSpec.upto vectorSameSpec)

end Rows
end Go.Proofs.Ythhagejcgobfgaa
