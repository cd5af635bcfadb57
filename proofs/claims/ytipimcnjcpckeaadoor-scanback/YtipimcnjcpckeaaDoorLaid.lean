/- Package variables that are laid by their text: arrays of ints, and arrays of such. -/
import Derived.Test.YtipimcnjcpckeaaDoorRows
import Derived.Test.YtipimcnjcpckeaaDoorOpA
import Derived.LaidMore
import Derived.Stop.Joined
namespace Go.Proofs.YtipimcnjcpckeaaDoor
open Go.ChangeShapes Go.WideShapes Go.ChangeAt Go.RowKit

def litI {H : Type} (x : Int) : DataW H := .lit (.int .i64 x)
theorem Tryd.c1 : Tryd.prog.cellsOf 3 = 1 := by kernel_rfl

theorem ints_of {W : World} {f : Nat} {t : TypeId} {n : Nat} {l : List Int} {cs : List Value} {p : List MemPlace} (hu : Tryd.prog.underlying t = some (.array n 3)) (hc : Tryd.prog.cellsOf t = n)
    (hd : DataW.trod (fun _ => ()) Tryd.prog W 0 (fun _ => true) false f t cs = some (.agg (l.map litI), p)) : ∀ i, i < n → cs[i]? = some (.int .i64 (l.getD i 0)) := by
  obtain ⟨xs, m, rfl, hx, hl, hn, hel⟩ := DataW.trod_array hu hd
  rw [hc] at hl
  simp only [Prod.mk.injEq, DataW.agg.injEq] at hx
  intro i hi
  have h2 := hel i hi
  rw [Tryd.c1, Nat.mul_one, List.getElem?_eq_getElem (by omega)] at h2
  obtain ⟨z, hz, hdz, _⟩ := DataW.trod_int Tryd.underlying3 h2
  have h3 : cs[i]? = some (.int .i64 z) := by
    have := congrArg (·[0]?) hz
    simpa [List.getElem?_take, List.getElem?_drop] using this
  have e2 : (xs.map (·.1))[i]? = some (.lit (.int .i64 z)) := by
    rw [List.getElem?_map, List.getElem?_eq_getElem (by omega), hdz]; rfl
  rw [← hx.1, List.getElem?_map] at e2
  rw [h3, List.getD_eq_getElem?_getD]
  cases hq : l[i]? with
  | none => rw [hq] at e2; cases e2
  | some y =>
    rw [hq] at e2
    simp only [Option.map_some, Option.some.injEq, litI, DataW.lit.injEq, Lit.int.injEq, true_and] at e2
    subst e2; rfl

/-- Rows of ints. -/
theorem rows_of {W : World} {f : Nat} {t r : TypeId} {n m : Nat} {l : List (List Int)} {cs : List Value} {p : List MemPlace} (hu : Tryd.prog.underlying t = some (.array n r)) (hr : Tryd.prog.underlying r = some (.array m 3)) (hcr : Tryd.prog.cellsOf r = m)
    (hd : DataW.trod (fun _ => ()) Tryd.prog W 0 (fun _ => true) false f t cs = some (.agg (l.map fun q => .agg (q.map litI)), p)) : ∀ u c, u < n → c < m → cs[u * m + c]? = some (.int .i64 ((l.getD u []).getD c 0)) := by
  obtain ⟨xs, k, rfl, hx, hl, hn, hel⟩ := DataW.trod_array hu hd
  simp only [Prod.mk.injEq, DataW.agg.injEq] at hx
  intro u c hu hc2
  have h1 := hel u hu
  rw [hcr, List.getElem?_eq_getElem (by omega)] at h1
  have e1 : (xs.map (·.1))[u]? = some xs[u].1 := by rw [List.getElem?_map, List.getElem?_eq_getElem (by omega)]; rfl
  rw [← hx.1, List.getElem?_map] at e1
  cases hq : l[u]? with
  | none => rw [hq] at e1; cases e1
  | some y =>
    rw [hq] at e1
    simp only [Option.map_some, Option.some.injEq] at e1
    have h2 : DataW.trod (fun _ => ()) Tryd.prog W 0 (fun _ => true) false k r ((cs.drop (u * m)).take m) = some (.agg (y.map litI), xs[u].2) := by
      rw [h1, e1]
    have h3 := ints_of hr hcr h2 c hc2
    rw [List.getElem?_take, if_pos hc2, List.getElem?_drop] at h3
    rw [h3, show l.getD u [] = y by rw [List.getD_eq_getElem?_getD, hq]; rfl]
end Go.Proofs.YtipimcnjcpckeaaDoor
