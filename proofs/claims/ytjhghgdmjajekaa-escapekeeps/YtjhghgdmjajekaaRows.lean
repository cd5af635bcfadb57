/-
  No cell of these rows narrows 'for every input' (looked for: loops, veiled, ifaces, maps, wideKeys, modest, calm, conditions, laid).
  DERIVED. THE GIVEN ROWS OF THIS SEAT. 6 by the template 'for every input the law returns true; each argument reads behind the call as it read before'; 0 by the template 'total and deterministic' (their statements: YtjhghgdmjajekaaTotals.lean).
  GIVEN WITH THE SEED: the statements are not yours to turn. If you find one false, say at which input.
  Laid BY PROGRAM, IN A SANDBOX (cutbox-rows.mjs): the forced cells as the released guide's own fill.sh prints them over the translation b8250428193869d5… (all of the seat's roots in one cut). By AI agents, Wed Nov 11 2026. No macro, syntax, notation, axiom, sorry.
-/
import Derived.Test.YtjhghgdmjajekaaChecked
import GoSem.Claim
import GoSem.ClaimJoined
import GoSem.ClaimMapViews
import Derived.JoinedTies
import Derived.KernelRfl
namespace Go.Proofs.Ytjhghgdmjajekaa
/- THE CELL 'sum', in the pinned program and in every row, IS THE sha256 OF THE DUMP (.gsa) THAT YtjhghgdmjajekaaProg.lean LOADS. Nothing in Lean hashes anything: it is a label: what it is worth is what the hold of that sum in a sandbox is worth. -/
noncomputable def Try.pinned : Pinned := { name := "ytjhghgdmjajekaa", sum := "b8250428193869d514ec8b1a49cacde160365488da61d0080cba485a938d1c20", checked := Try.checked }
namespace Rows
def none {H : Type} : Left H := { results := [], args := [] }

/-- 'clapboardlaw02.EscapeTells': WHATEVER THE INPUT: true; the input reads as it did. -/
def escapeTellsSpec : ChangeSpec := { name := "escapeTells", fn := fun _ => fun
  | [d] => { results := [.lit (.bool true)], args := [d] }
  | _ => none }
def escapeTellsRow : OpenClaim := { program := "ytjhghgdmjajekaa", sum := "b8250428193869d514ec8b1a49cacde160365488da61d0080cba485a938d1c20", func := "clapboard/clapboardlaw02.EscapeTells", spec := "escapeTells", unfollowed := true, recurses := true, apart := false }
def EscapeTellsSaid : Prop := escapeTellsRow.holds Try.pinned (OpenSpec.ofChange escapeTellsSpec)

/-- ITS FALSE NEIGHBOUR: 'it returns false'. Refute it at one input. -/
def escapeTellsWrong : ChangeSpec := { name := "escapeTells", fn := fun _ => fun
  | [d] => { results := [.lit (.bool false)], args := [d] }
  | _ => none }
def EscapeTellsWrongFalsely : Prop := escapeTellsRow.holds Try.pinned (OpenSpec.ofChange escapeTellsWrong)

/-- 'clapboardlaw02.EscapeSplits': WHATEVER THE INPUT: true; the input reads as it did. -/
def escapeSplitsSpec : ChangeSpec := { name := "escapeSplits", fn := fun _ => fun
  | [d1, d2] => { results := [.lit (.bool true)], args := [d1, d2] }
  | _ => none }
def escapeSplitsRow : OpenClaim := { program := "ytjhghgdmjajekaa", sum := "b8250428193869d514ec8b1a49cacde160365488da61d0080cba485a938d1c20", func := "clapboard/clapboardlaw02.EscapeSplits", spec := "escapeSplits", unfollowed := true, recurses := true, apart := false }
def EscapeSplitsSaid : Prop := escapeSplitsRow.holds Try.pinned (OpenSpec.ofChange escapeSplitsSpec)

/-- ITS FALSE NEIGHBOUR: 'it returns false'. Refute it at one input. -/
def escapeSplitsWrong : ChangeSpec := { name := "escapeSplits", fn := fun _ => fun
  | [d1, d2] => { results := [.lit (.bool false)], args := [d1, d2] }
  | _ => none }
def EscapeSplitsWrongFalsely : Prop := escapeSplitsRow.holds Try.pinned (OpenSpec.ofChange escapeSplitsWrong)

/-- 'clapboardlaw02.EscapeBack': WHATEVER THE INPUT: true; the input reads as it did. -/
def escapeBackSpec : ChangeSpec := { name := "escapeBack", fn := fun _ => fun
  | [d] => { results := [.lit (.bool true)], args := [d] }
  | _ => none }
def escapeBackRow : OpenClaim := { program := "ytjhghgdmjajekaa", sum := "b8250428193869d514ec8b1a49cacde160365488da61d0080cba485a938d1c20", func := "clapboard/clapboardlaw02.EscapeBack", spec := "escapeBack", unfollowed := true, recurses := true, apart := false }
def EscapeBackSaid : Prop := escapeBackRow.holds Try.pinned (OpenSpec.ofChange escapeBackSpec)

/-- ITS FALSE NEIGHBOUR: 'it returns false'. Refute it at one input. -/
def escapeBackWrong : ChangeSpec := { name := "escapeBack", fn := fun _ => fun
  | [d] => { results := [.lit (.bool false)], args := [d] }
  | _ => none }
def EscapeBackWrongFalsely : Prop := escapeBackRow.holds Try.pinned (OpenSpec.ofChange escapeBackWrong)

/-- 'clapboardlaw02.EscapeJoined': WHATEVER THE INPUT: true; the input reads as it did. -/
def escapeJoinedSpec : ChangeSpec := { name := "escapeJoined", fn := fun _ => fun
  | [d1, d2] => { results := [.lit (.bool true)], args := [d1, d2] }
  | _ => none }
def escapeJoinedRow : OpenClaim := { program := "ytjhghgdmjajekaa", sum := "b8250428193869d514ec8b1a49cacde160365488da61d0080cba485a938d1c20", func := "clapboard/clapboardlaw02.EscapeJoined", spec := "escapeJoined", unfollowed := true, recurses := true, apart := false }
def EscapeJoinedSaid : Prop := escapeJoinedRow.holds Try.pinned (OpenSpec.ofChange escapeJoinedSpec)

/-- ITS FALSE NEIGHBOUR: 'it returns false'. Refute it at one input. -/
def escapeJoinedWrong : ChangeSpec := { name := "escapeJoined", fn := fun _ => fun
  | [d1, d2] => { results := [.lit (.bool false)], args := [d1, d2] }
  | _ => none }
def EscapeJoinedWrongFalsely : Prop := escapeJoinedRow.holds Try.pinned (OpenSpec.ofChange escapeJoinedWrong)

/-- 'clapboardlaw02.EscapePlain': WHATEVER THE INPUT: true; the input reads as it did. -/
def escapePlainSpec : ChangeSpec := { name := "escapePlain", fn := fun _ => fun
  | [d1, d2] => { results := [.lit (.bool true)], args := [d1, d2] }
  | _ => none }
def escapePlainRow : OpenClaim := { program := "ytjhghgdmjajekaa", sum := "b8250428193869d514ec8b1a49cacde160365488da61d0080cba485a938d1c20", func := "clapboard/clapboardlaw02.EscapePlain", spec := "escapePlain", unfollowed := true, recurses := true, apart := false }
def EscapePlainSaid : Prop := escapePlainRow.holds Try.pinned (OpenSpec.ofChange escapePlainSpec)

/-- ITS FALSE NEIGHBOUR: 'it returns false'. Refute it at one input. -/
def escapePlainWrong : ChangeSpec := { name := "escapePlain", fn := fun _ => fun
  | [d1, d2] => { results := [.lit (.bool false)], args := [d1, d2] }
  | _ => none }
def EscapePlainWrongFalsely : Prop := escapePlainRow.holds Try.pinned (OpenSpec.ofChange escapePlainWrong)

/-- 'clapboardlaw02.EscapeKeeps': WHATEVER THE INPUT: true; the input reads as it did. -/
def escapeKeepsSpec : ChangeSpec := { name := "escapeKeeps", fn := fun _ => fun
  | [d] => { results := [.lit (.bool true)], args := [d] }
  | _ => none }
def escapeKeepsRow : OpenClaim := { program := "ytjhghgdmjajekaa", sum := "b8250428193869d514ec8b1a49cacde160365488da61d0080cba485a938d1c20", func := "clapboard/clapboardlaw02.EscapeKeeps", spec := "escapeKeeps", unfollowed := true, recurses := true, apart := false }
def EscapeKeepsSaid : Prop := escapeKeepsRow.holds Try.pinned (OpenSpec.ofChange escapeKeepsSpec)

/-- ITS FALSE NEIGHBOUR: 'it returns false'. Refute it at one input. -/
def escapeKeepsWrong : ChangeSpec := { name := "escapeKeeps", fn := fun _ => fun
  | [d] => { results := [.lit (.bool false)], args := [d] }
  | _ => none }
def EscapeKeepsWrongFalsely : Prop := escapeKeepsRow.holds Try.pinned (OpenSpec.ofChange escapeKeepsWrong)

/- THE SECOND FORM. 'bulk': how many values and letters a reading holds, each counted each time it is reached (what is shared counts as often as it is met; a slice's spare places count too). A statement '..UptoSaid' is the law's where the arguments, and the package variables that the reading takes, are together of bulk at most 1048576: NARROWER than '..Said'. Prove '..Said' where nothing that the law and all that it calls make is longer than what came in: it says more and counts as full. Else prove '..UptoSaid'. A law counts once. -/
mutual
def uptoBulk {H : Type} : DataW H → Nat
  | .lit (.string bytes) => bytes.length + 1
  | .lit _ => 1
  | .nil => 1
  | .ptr d => uptoBulk d + 1
  | .slice elems spare => uptoBulkAll elems + uptoBulkAll spare + 1
  | .agg parts => uptoBulkAll parts + 1
  | .iface _ d => uptoBulk d + 1
  | .map entries => uptoBulkEntries entries + 1
  | .held _ => 1
def uptoBulkAll {H : Type} : List (DataW H) → Nat
  | [] => 0
  | d :: r => uptoBulk d + uptoBulkAll r
def uptoBulkEntries {H : Type} : List (Lit × DataW H) → Nat
  | [] => 0
  | x :: r => uptoBulkEntry x + uptoBulkEntries r
def uptoBulkEntry {H : Type} : Lit × DataW H → Nat
  | (.string bytes, d) => bytes.length + uptoBulk d + 1
  | (_, d) => uptoBulk d + 1
 end
def uptoSmall : (H : Type) → List (DataW H) → Bool := fun _ ds => decide (uptoBulkAll ds ≤ 1048576)
def OpenSpec.upto (s : _root_.Go.ChangeSpec) : _root_.Go.OpenSpec := { _root_.Go.OpenSpec.ofChange s with cond := some uptoSmall }

/-- 'clapboardlaw02.EscapeTells', WHERE WHAT IT READS IS OF BULK AT MOST 1048576: true; the input reads as it did. -/
def escapeTellsUptoRow : OpenClaim := { program := "ytjhghgdmjajekaa", sum := "b8250428193869d514ec8b1a49cacde160365488da61d0080cba485a938d1c20", func := "clapboard/clapboardlaw02.EscapeTells", spec := "escapeTells", unfollowed := true, recurses := true, apart := false, narrowed := true }
def EscapeTellsUptoSaid : Prop := escapeTellsUptoRow.holds Try.pinned (OpenSpec.upto escapeTellsSpec)

/-- 'clapboardlaw02.EscapeSplits', WHERE WHAT IT READS IS OF BULK AT MOST 1048576: true; the input reads as it did. -/
def escapeSplitsUptoRow : OpenClaim := { program := "ytjhghgdmjajekaa", sum := "b8250428193869d514ec8b1a49cacde160365488da61d0080cba485a938d1c20", func := "clapboard/clapboardlaw02.EscapeSplits", spec := "escapeSplits", unfollowed := true, recurses := true, apart := false, narrowed := true }
def EscapeSplitsUptoSaid : Prop := escapeSplitsUptoRow.holds Try.pinned (OpenSpec.upto escapeSplitsSpec)

/-- 'clapboardlaw02.EscapeBack', WHERE WHAT IT READS IS OF BULK AT MOST 1048576: true; the input reads as it did. -/
def escapeBackUptoRow : OpenClaim := { program := "ytjhghgdmjajekaa", sum := "b8250428193869d514ec8b1a49cacde160365488da61d0080cba485a938d1c20", func := "clapboard/clapboardlaw02.EscapeBack", spec := "escapeBack", unfollowed := true, recurses := true, apart := false, narrowed := true }
def EscapeBackUptoSaid : Prop := escapeBackUptoRow.holds Try.pinned (OpenSpec.upto escapeBackSpec)

/-- 'clapboardlaw02.EscapeJoined', WHERE WHAT IT READS IS OF BULK AT MOST 1048576: true; the input reads as it did. -/
def escapeJoinedUptoRow : OpenClaim := { program := "ytjhghgdmjajekaa", sum := "b8250428193869d514ec8b1a49cacde160365488da61d0080cba485a938d1c20", func := "clapboard/clapboardlaw02.EscapeJoined", spec := "escapeJoined", unfollowed := true, recurses := true, apart := false, narrowed := true }
def EscapeJoinedUptoSaid : Prop := escapeJoinedUptoRow.holds Try.pinned (OpenSpec.upto escapeJoinedSpec)

/-- 'clapboardlaw02.EscapePlain', WHERE WHAT IT READS IS OF BULK AT MOST 1048576: true; the input reads as it did. -/
def escapePlainUptoRow : OpenClaim := { program := "ytjhghgdmjajekaa", sum := "b8250428193869d514ec8b1a49cacde160365488da61d0080cba485a938d1c20", func := "clapboard/clapboardlaw02.EscapePlain", spec := "escapePlain", unfollowed := true, recurses := true, apart := false, narrowed := true }
def EscapePlainUptoSaid : Prop := escapePlainUptoRow.holds Try.pinned (OpenSpec.upto escapePlainSpec)

/-- 'clapboardlaw02.EscapeKeeps', WHERE WHAT IT READS IS OF BULK AT MOST 1048576: true; the input reads as it did. -/
def escapeKeepsUptoRow : OpenClaim := { program := "ytjhghgdmjajekaa", sum := "b8250428193869d514ec8b1a49cacde160365488da61d0080cba485a938d1c20", func := "clapboard/clapboardlaw02.EscapeKeeps", spec := "escapeKeeps", unfollowed := true, recurses := true, apart := false, narrowed := true }
def EscapeKeepsUptoSaid : Prop := escapeKeepsUptoRow.holds Try.pinned (OpenSpec.upto escapeKeepsSpec)

end Rows
end Go.Proofs.Ytjhghgdmjajekaa
