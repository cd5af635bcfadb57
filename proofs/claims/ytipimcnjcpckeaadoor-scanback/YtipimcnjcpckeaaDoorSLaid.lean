/- The order lies as the program's text lays it. -/
import Derived.Test.YtipimcnjcpckeaaDoorRows
import Derived.Test.YtipimcnjcpckeaaDoorScn
import Derived.Test.YtipimcnjcpckeaaDoorLaid
namespace Go.Proofs.YtipimcnjcpckeaaDoor
open Go.ChangeShapes Go.WideShapes Go.ChangeAt Go.RowKit

def lays : List (String × DataW Unit) := [("clapboard/scan.order", Rows.laid_clapboard_scan_order)]
theorem Tryd.gOrder : Tryd.prog.globalNamed "clapboard/scan.order" = some 0 := by kernel_rfl
theorem Tryd.tOrder : (Tryd.prog.globals[0]?).map (·.type) = some 22 := by kernel_rfl
theorem lays_met (os : Os) (args : Array Value) : laidMetH Tryd.prog lays ((World.doorLaid Tryd.prog 400 os).forCall (fun _ _ => 0) ⟨#[], args, []⟩).memory :=
  laidMetH_of_parts3 (fuel := 8) (laidMet_of_run' 8 (by kernel_rfl) (by kernel_rfl)) (by kernel_rfl) (by kernel_rfl)
theorem Tryd.c16o : Tryd.prog.cellsOf 22 = 16 := by kernel_rfl
theorem ints_many {W : World} {f : Nat} {t : TypeId} {n : Nat} {l : List Int} {cs : List Value} {p : List MemPlace} (hu : Tryd.prog.underlying t = some (.array n 3)) (hc : Tryd.prog.cellsOf t = n)
    (hd : DataW.trod (fun _ => ()) Tryd.prog W 0 (fun _ => true) false f t cs = some (.agg (l.map litI), p)) : cs.length = n := by
  obtain ⟨xs, m, rfl, hx, hl, hn, hel⟩ := DataW.trod_array hu hd
  rw [hc] at hl
  exact hl
theorem var_block {W : World} {n : String} {g : Nat} {cs : Array Value} (hg : Tryd.prog.globalNamed n = some g) (h : W.var? Tryd.prog n = some cs) : ∃ t f, W.heap[g]? = some (.cells cs t f) := by
  simp only [World.var?, hg, Option.bind_some] at h
  cases ho : W.heap[g]? with
  | none => simp [ho] at h
  | some o =>
    cases o <;> simp [ho] at h
    subst h; exact ⟨_, _, rfl⟩
theorem order_at {W : World} {f : Nat} {cs : Array Value} {p : List MemPlace} (hv : World.var? Tryd.prog W "clapboard/scan.order" = some cs)
    (hd : DataW.trod (fun _ => ()) Tryd.prog W 0 (fun _ => true) false f 22 cs.toList = some (Rows.laid_clapboard_scan_order, p)) : ScanIn W := by
  have key := ints_of (l := [0, 1, 4, 8, 5, 2, 3, 6, 9, 12, 13, 10, 7, 11, 14, 15]) Tryd.underlying22 Tryd.c16o hd
  have hlen := ints_many (l := [0, 1, 4, 8, 5, 2, 3, 6, 9, 12, 13, 10, 7, 11, 14, 15]) Tryd.underlying22 Tryd.c16o hd
  obtain ⟨t, fz, hb⟩ := var_block Tryd.gOrder hv
  have e : cs = (arrL 16 ordB).toArray := by
    apply Array.ext'
    apply List.ext_getElem?
    intro i
    by_cases hi : i < 16
    · rw [key i hi]
      show _ = (arrL 16 ordB)[i]?
      rw [arrL_at hi]
      have e2 : ∀ i, i < 16 → ([0, 1, 4, 8, 5, 2, 3, 6, 9, 12, 13, 10, 7, 11, 14, 15] : List Int).getD i 0 = ordB i := by decide
      rw [e2 i hi]
    · rw [List.getElem?_eq_none (by omega)]
      show _ = (arrL 16 ordB)[i]?
      rw [List.getElem?_eq_none (by rw [arrL_length]; omega)]
  rw [e] at hb
  exact ⟨t, fz, hb⟩
theorem order_of {W : World} (h : laidMetH Tryd.prog lays W) : ScanIn W := by
  rw [MakeChecks.laidMetH_plain _ _ _ (by kernel_rfl)] at h
  obtain ⟨ps, ⟨g0, t0, cs0, f0, p0, q0, hg0, ht0, hv0, hd0, _, _⟩, _, _⟩ := h
  obtain rfl := Option.some.inj (Tryd.gOrder.symm.trans hg0)
  obtain rfl := Option.some.inj (Tryd.tOrder.symm.trans ht0)
  exact order_at hv0 hd0
end Go.Proofs.YtipimcnjcpckeaaDoor
