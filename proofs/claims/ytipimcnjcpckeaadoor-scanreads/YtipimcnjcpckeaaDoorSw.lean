/- A function that ends with marks of loops over functions. No program in it. -/
import Derived.Test.YtipimcnjcpckeaaDoorSf
import Derived.RangeFuncLeaves
import Derived.RangeFuncRecord
namespace Go.Proofs.YtipimcnjcpckeaaDoor
open Go.RowKit

/-- The marks' blocks are shut, one behind the other. -/
def shut : List Nat → World → World
  | [], w => w
  | D :: ms, w => shut ms (w.putObj D (.deferred none))
def Opens : List Nat → World → Prop
  | [], _ => True
  | D :: ms, w => w.heap[D]? = some (.deferred (some [])) ∧ Opens ms (w.putObj D (.deferred none))

def endM (P : Program) (fn : Func) (N : Nat) (R : Ending → World → Prop) : (Exit → (Nat → Value) → World → Prop)
  | .normal, F, w | .ret, F, w => ∃ ms, F N = markV ms ∧ Opens ms w ∧ ∀ a, Fr N F a → ∃ v, (results fn a.tmps).run P (shut ms w) = .ok v (shut ms w) ∧ R (.returned v) (shut ms w)
  | _, _, _ => False

theorem leaves_marks {P : Program} {fn : Func} {tmps : Array Value} {R : Ending → World → Prop} : ∀ (ms : List Nat) (w : World), Opens ms w → (∃ v, (results fn tmps).run P (shut ms w) = .ok v (shut ms w) ∧ R (.returned v) (shut ms w)) →
    LeavesInM Fence.wide 0 P fn tmps R (ms.map fun D => { target := .collected D, args := #[] }) .returning w := by
  intro ms
  induction ms with
  | nil =>
    intro w _ h
    exact h
  | cons D ms ih =>
    intro w ho h
    exact ⟨by simp, .inl ⟨D, _, rfl, run_takeDeferred ho.1, ih _ ho.2 h⟩⟩

theorem calls_wm {P : Program} {f : FuncId} {fn : Func} {c : Code} {args : List Value} {w : World} {R : Ending → World → Prop} (N : Nat) (hf : P.funcs[f]? = some fn) (hb : fn.body = some c) (hn : fn.ntmps = N) (hl : args.length ≤ N)
    (h : wq none P N c (endM P fn N R) (argF args) w) : Calls P f args.toArray w R := by
  refine callsIn_wide (n := 0).1 ?_
  refine callsIn_of_wp_marks hf hb trivial ?_
  subst hn
  have hs : (args.toArray ++ Array.replicate (fn.ntmps - args.toArray.size) undef).size = fn.ntmps := by simp; omega
  have hu : argF args fn.ntmps = undef := by
    unfold argF
    rw [List.getD_eq_getElem?_getD, List.getElem?_eq_none hl]; rfl
  refine wpIn_mono (h _ ⟨hs, by rw [hu]; rfl, fun t _ => ?_⟩) ?_
  · unfold argF
    simp only [Array.getD_eq_getD_getElem?, List.getD_eq_getElem?_getD]
    by_cases h1 : t < args.length
    · rw [Array.getElem?_append_left (by simpa using h1)]; simp
    · rw [Array.getElem?_append_right (by simp; omega), List.getElem?_eq_none (by omega)]
      by_cases h2 : t < fn.ntmps
      · rw [Array.getElem?_replicate]; split <;> rfl
      · rw [Array.getElem?_eq_none (by simp; omega)]
  · rintro e a' w' ⟨F', hF, hq⟩
    cases e <;> first
      | (obtain ⟨ms, hm, ho, hr⟩ := hq
         show LeavesInM Fence.wide 0 P fn a'.tmps R a'.defers .returning w'
         rw [hF.defers, hm, marked, marksOf_markV]
         exact leaves_marks ms w' ho (hr a' hF))
      | exact hq.elim
end Go.Proofs.YtipimcnjcpckeaaDoor
