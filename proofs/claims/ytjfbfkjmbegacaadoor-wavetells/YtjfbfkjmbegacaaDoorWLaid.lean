/- The waves lie as the program's text lays them. -/
import Derived.Test.YtjfbfkjmbegacaaDoorRows
import Derived.Test.YtjfbfkjmbegacaaDoorWx
import Derived.Test.YtjfbfkjmbegacaaDoorOpA
import Derived.LaidMore
import Derived.Stop.Joined
namespace Go.Proofs.YtjfbfkjmbegacaaDoor
open Go.ChangeShapes Go.WideShapes Go.ChangeAt Go.RowKit

def lays : List (String × DataW Unit) := [("clapboard/wave.waves", Rows.laid_clapboard_wave_waves)]

theorem Tryd.gWaves : Tryd.prog.globalNamed "clapboard/wave.waves" = some 0 := by kernel_rfl
theorem Tryd.tWaves : (Tryd.prog.globals[0]?).map (·.type) = some 40 := by kernel_rfl

theorem lays_met (os : Os) (args : Array Value) : laidMetH Tryd.prog lays ((World.doorLaid Tryd.prog 400 os).forCall (fun _ _ => 0) ⟨#[], args, []⟩).memory :=
  laidMetH_of_parts3 (fuel := 8) (laidMet_of_run' 8 (by kernel_rfl) (by kernel_rfl)) (by kernel_rfl) (by kernel_rfl)

theorem waves_of {W : World} (h : laidMetH Tryd.prog lays W) : Waves W := by
  rw [MakeChecks.laidMetH_plain _ _ _ (by kernel_rfl)] at h
  obtain ⟨ps, ⟨g0, t0, cs0, f0, p0, q0, hg0, ht0, hv0, hd0, _, _⟩, _, _⟩ := h
  obtain rfl := Option.some.inj (Tryd.gWaves.symm.trans hg0)
  obtain rfl := Option.some.inj (Tryd.tWaves.symm.trans ht0)
  obtain ⟨xs, m, rfl, hx, hl, hn, hel⟩ := DataW.trod_array Tryd.underlying40 hd0
  have c4 : Tryd.prog.cellsOf 35 = 4 := by kernel_rfl
  have c16 : Tryd.prog.cellsOf 40 = 16 := by kernel_rfl
  have c1 : Tryd.prog.cellsOf 3 = 1 := by kernel_rfl
  rw [c16] at hl
  simp only [Prod.mk.injEq, Rows.laid_clapboard_wave_waves, DataW.agg.injEq] at hx
  have key : ∀ u c, u < 4 → c < 4 → cs0.toList[u * 4 + c]? = some (.int .i64 (wv u c)) := by
    intro u c hu hc
    have h1 := hel u hu
    rw [c4, List.getElem?_eq_getElem (by omega)] at h1
    obtain ⟨ys, m1, _, hy, hl1, hn1, hel1⟩ := DataW.trod_array Tryd.underlying35 h1
    have h2 := hel1 c hc
    rw [c1, Nat.mul_one, List.getElem?_eq_getElem (by omega)] at h2
    obtain ⟨z, hz, hd, _⟩ := DataW.trod_int Tryd.underlying3 h2
    have h3 : cs0.toList[u * 4 + c]? = some (.int .i64 z) := by
      have := congrArg (·[0]?) hz
      simpa [List.getElem?_take, List.getElem?_drop, hc] using this
    have e1 : (xs.map (·.1))[u]? = some (.agg (ys.map (·.1))) := by
      rw [List.getElem?_map, List.getElem?_eq_getElem (by omega), hy]; rfl
    have e2 : (ys.map (·.1))[c]? = some (.lit (.int .i64 z)) := by
      rw [List.getElem?_map, List.getElem?_eq_getElem (by omega), hd]; rfl
    rw [← hx.1] at e1
    have hu4 : u = 0 ∨ u = 1 ∨ u = 2 ∨ u = 3 := by omega
    have hc4 : c = 0 ∨ c = 1 ∨ c = 2 ∨ c = 3 := by omega
    have e3 : z = wv u c := by
      rcases hu4 with rfl | rfl | rfl | rfl <;> simp only [List.getElem?_cons_zero, List.getElem?_cons_succ, Option.some.injEq, DataW.agg.injEq] at e1 <;> rw [← e1] at e2 <;>
        rcases hc4 with rfl | rfl | rfl | rfl <;> simp only [List.getElem?_cons_zero, List.getElem?_cons_succ, Option.some.injEq, DataW.lit.injEq, Lit.int.injEq, true_and] at e2 <;> rw [← e2] <;> rfl
    rw [h3, e3]
  have cell : ∀ i, i < 16 → W.cell? ⟨0, i, none⟩ = some (.int .i64 (wv 0 i)) := by
    intro i hi
    have h1 := World.var?_cell hg0 hv0 i
    have h2 := key (i / 4) (i % 4) (by omega) (by omega)
    rw [← wv_flat, show i / 4 * 4 + i % 4 = i by omega] at h2
    rw [h1]
    simpa using h2
  exact ⟨World.block_lt_of_cell? W _ (cell 0 (by omega)), cell⟩
end Go.Proofs.YtjfbfkjmbegacaaDoor
