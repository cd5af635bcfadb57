/- A slice of bytes among the arguments, opened to its cells. -/
import Derived.Test.YtbfmjomekkcpcaaArgs
import Derived.ProofKit
namespace Go.Proofs.Ytbfmjomekkcpcaa
open Go.ChangeShapes Go.WideShapes Go.ChangeAt Go.RowKit

theorem bytes_open {H : Type} {enc : TypeId × Value → H} {w : World} {base : Nat} {held : Bool} {fuel : Nat} {v : Value} {x : DataW H × List MemPlace}
    (h : DataW.trod enc Try.prog w base (fun _ => true) held fuel 30 [v] = some x) : ∃ l : List Nat, l.length ≤ maxLen ∧ BytesArg w v l := by
  rcases open_ints Try.underlying30 Try.underlying5 (by kernel_rfl) h with ⟨hcs, _⟩ | ⟨a, len, cap, zs, hcs, _, hl, hm, hz, _, hcell, hwz⟩
  · simp at hcs
    subst hcs
    exact ⟨[], Nat.zero_le _, none, 0, rfl, by simp, by simp⟩
  · simp at hcs
    subst hcs
    have hrow : (some a = none ∧ len = 0 ∧ cap = 0 ∧ zs = []) ∨ ∃ x, some a = some x ∧ len ≤ cap ∧ cap ≤ maxLen ∧ zs.length = cap ∧ (∀ i, i < zs.length → w.cell? (x.add i) = some (.int .u8 (zs.getD i 0))) ∧ ∀ n ∈ zs, (Lit.int .u8 n).wf = true :=
      .inr ⟨a, rfl, hl, hm, by simpa using hz, hcell, hwz⟩
    obtain ⟨l, hll, hb⟩ := BytesArg.of_row hrow
    exact ⟨l, by omega, hb⟩
end Go.Proofs.Ytbfmjomekkcpcaa
