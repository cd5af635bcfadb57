/- The steps, and the waves, lie as the program's text lays them. -/
import Derived.Test.YtnlpiafgbeknhaaDoorRows
import Derived.Test.YtnlpiafgbeknhaaDoorQx
import Derived.Test.YtnlpiafgbeknhaaDoorLaid
namespace Go.Proofs.YtnlpiafgbeknhaaDoor
open Go.ChangeShapes Go.WideShapes Go.ChangeAt Go.RowKit

def lays : List (String × DataW Unit) := [("clapboard/quant.steps", Rows.laid_clapboard_quant_steps)]
def laysW : List (String × DataW Unit) := [("clapboard/quant.steps", Rows.laid_clapboard_quant_steps), ("clapboard/wave.waves", Rows.laid_clapboard_wave_waves)]

theorem Tryd.gSteps : Tryd.prog.globalNamed "clapboard/quant.steps" = some 0 := by kernel_rfl
theorem Tryd.tSteps : (Tryd.prog.globals[0]?).map (·.type) = some 40 := by kernel_rfl
theorem Tryd.gWaves : Tryd.prog.globalNamed "clapboard/wave.waves" = some 1 := by kernel_rfl
theorem Tryd.tWaves : (Tryd.prog.globals[1]?).map (·.type) = some 46 := by kernel_rfl

theorem lays_met (os : Os) (args : Array Value) : laidMetH Tryd.prog lays ((World.doorLaid Tryd.prog 400 os).forCall (fun _ _ => 0) ⟨#[], args, []⟩).memory :=
  laidMetH_of_parts3 (fuel := 8) (laidMet_of_run' 8 (by kernel_rfl) (by kernel_rfl)) (by kernel_rfl) (by kernel_rfl)
theorem laysW_met (os : Os) (args : Array Value) : laidMetH Tryd.prog laysW ((World.doorLaid Tryd.prog 400 os).forCall (fun _ _ => 0) ⟨#[], args, []⟩).memory :=
  laidMetH_of_parts3 (fuel := 8) (laidMet_of_run' 8 (by kernel_rfl) (by kernel_rfl)) (by kernel_rfl) (by kernel_rfl)

theorem Tryd.c21 : Tryd.prog.cellsOf 40 = 21 := by kernel_rfl
theorem Tryd.c4 : Tryd.prog.cellsOf 45 = 4 := by kernel_rfl
theorem steps_at {W : World} {f : Nat} {cs : Array Value} {p : List MemPlace} (hv : World.var? Tryd.prog W "clapboard/quant.steps" = some cs)
    (hd : DataW.trod (fun _ => ()) Tryd.prog W 0 (fun _ => true) false f 40 cs.toList = some (Rows.laid_clapboard_quant_steps, p)) : StepsAt W := by
  have key := ints_of (l := stl) Tryd.underlying40 Tryd.c21 hd
  have cell : ∀ i, i < 21 → W.cell? ⟨0, i, none⟩ = some (.int .i64 (stl.getD i 0)) := by
    intro i hi
    rw [World.var?_cell Tryd.gSteps hv i]
    simpa using key i hi
  exact ⟨World.block_lt_of_cell? W _ (cell 0 (by omega)), cell⟩
theorem waves_at {W : World} {f : Nat} {cs : Array Value} {p : List MemPlace} (hv : World.var? Tryd.prog W "clapboard/wave.waves" = some cs)
    (hd : DataW.trod (fun _ => ()) Tryd.prog W 0 (fun _ => true) false f 46 cs.toList = some (Rows.laid_clapboard_wave_waves, p)) : Waves W := by
  have key := rows_of (l := [[1, 1, 1, 1], [1, 1, -1, -1], [1, -1, -1, 1], [1, -1, 1, -1]]) Tryd.underlying46 Tryd.underlying45 Tryd.c4 hd
  have cell : ∀ i, i < 16 → W.cell? ⟨1, i, none⟩ = some (.int .i64 (wv 0 i)) := by
    intro i hi
    rw [World.var?_cell Tryd.gWaves hv i]
    have h2 := key (i / 4) (i % 4) (by omega) (by omega)
    rw [show i / 4 * 4 + i % 4 = i by omega] at h2
    have e : ∀ i, i < 16 → (([[1, 1, 1, 1], [1, 1, -1, -1], [1, -1, -1, 1], [1, -1, 1, -1]] : List (List Int)).getD (i / 4) []).getD (i % 4) 0 = wv 0 i := by decide
    rw [e i hi] at h2
    simpa using h2
  exact ⟨World.block_lt_of_cell? W _ (cell 0 (by omega)), cell⟩
theorem steps_of {W : World} (h : laidMetH Tryd.prog lays W) : StepsAt W := by
  rw [MakeChecks.laidMetH_plain _ _ _ (by kernel_rfl)] at h
  obtain ⟨ps, ⟨g0, t0, cs0, f0, p0, q0, hg0, ht0, hv0, hd0, _, _⟩, _, _⟩ := h
  obtain rfl := Option.some.inj (Tryd.gSteps.symm.trans hg0)
  obtain rfl := Option.some.inj (Tryd.tSteps.symm.trans ht0)
  exact steps_at hv0 hd0
theorem both_of {W : World} (h : laidMetH Tryd.prog laysW W) : StepsAt W ∧ Waves W := by
  rw [MakeChecks.laidMetH_plain _ _ _ (by kernel_rfl)] at h
  obtain ⟨ps, ⟨g0, t0, cs0, f0, p0, q0, hg0, ht0, hv0, hd0, ⟨g1, t1, cs1, f1, p1, q1, hg1, ht1, hv1, hd1, _, _⟩, _⟩, _, _⟩ := h
  obtain rfl := Option.some.inj (Tryd.gSteps.symm.trans hg0)
  obtain rfl := Option.some.inj (Tryd.tSteps.symm.trans ht0)
  obtain rfl := Option.some.inj (Tryd.gWaves.symm.trans hg1)
  obtain rfl := Option.some.inj (Tryd.tWaves.symm.trans ht1)
  exact ⟨steps_at hv0 hd0, waves_at hv1 hd1⟩
end Go.Proofs.YtnlpiafgbeknhaaDoor
