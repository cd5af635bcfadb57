/- An array of ints among the arguments, opened to its numbers. -/
import Derived.Test.YtipimcnjcpckeaaDoorBk
import Derived.ProofKit
import Derived.OpenShut
namespace Go.Proofs.YtipimcnjcpckeaaDoor
open Go.ChangeShapes Go.WideShapes Go.ChangeAt Go.RowKit

section
variable {H : Type} {enc : TypeId × Value → H} {P : Program} {w : World} {base : Nat} {spare : Nat → Bool} {held : Bool}

/-- The number at a place. -/
def intAt (cs : List Value) (i : Nat) : Int := match cs[i]? with
  | some (.int _ z) => z
  | _ => 0

theorem cells_ints {t e : TypeId} {n fuel : Nat} {k : IntKind} {cs : List Value} {x : DataW H × List MemPlace} (ht : P.underlying t = some (.array n e)) (he : P.underlying e = some (.int k)) (hce : P.cellsOf e = 1) (hct : P.cellsOf t = n)
    (h : DataW.trod enc P w base spare held fuel t cs = some x) : cs.length = n ∧ ∀ i, i < n → cs[i]? = some (.int k (intAt cs i)) ∧ (Lit.int k (intAt cs i)).wf = true := by
  obtain ⟨xs, m, _, _, hl, hn, hel⟩ := DataW.trod_array ht h
  refine ⟨by rw [hl, hct], fun i hi => ?_⟩
  have h1 := hel i hi
  rw [hce, Nat.mul_one, List.getElem?_eq_getElem (by omega)] at h1
  obtain ⟨z, hz, _, hw⟩ := DataW.trod_int he h1
  have h2 : cs[i]? = some (.int k z) := by
    have := congrArg (·[0]?) hz
    simpa [List.getElem?_take, List.getElem?_drop] using this
  have h3 : intAt cs i = z := by unfold intAt; rw [h2]
  rw [h3]; exact ⟨h2, hw⟩

theorem arr_open {r : Reach} {b0 : Nat} {t e : TypeId} {n : Nat} {v : Value} {d : DataW H} {ps : List MemPlace} (ht : P.underlying t = some (.array n e)) (he : P.underlying e = some (.int .i64)) (hce : P.cellsOf e = 1) (hct : P.cellsOf t = n)
    (hval : Value.okWide P w r b0 t v) (h : DataW.Trod enc P w base spare held t v d ps) : ∃ b : Nat → Int, v = .agg (arrL n b).toArray ∧ ∀ i, i < n → -9223372036854775808 ≤ b i ∧ b i ≤ 9223372036854775807 := by
  obtain ⟨cs, rfl, _, _⟩ : ∃ cs, v = .agg cs ∧ cs.size = P.cellsOf t ∧ Row.okWide P w r b0 t cs := by simpa [Value.okWide, ht] using hval
  obtain ⟨fuel, hf⟩ := h
  obtain ⟨hl, hc⟩ := cells_ints ht he hce hct (cs := cs.toList) hf
  refine ⟨intAt cs.toList, ?_, fun i hi => ?_⟩
  · congr 1
    apply Array.ext'
    apply List.ext_getElem?
    intro i
    by_cases hi : i < n
    · rw [(hc i hi).1]; exact (arrL_at hi).symm
    · rw [List.getElem?_eq_none (by omega), List.getElem?_eq_none (by simp [arrL_length]; omega)]
  · have := bounds_i64 (hc i hi).2
    omega
end
end Go.Proofs.YtipimcnjcpckeaaDoor
