/- A slice of blocks among the arguments, opened to its numbers. -/
import Derived.Test.YtipimcnjcpckeaaDoorSm16
import Derived.Test.YtipimcnjcpckeaaDoorOpA
import Derived.Deep.Slices
namespace Go.Proofs.YtipimcnjcpckeaaDoor
open Go.ChangeShapes Go.WideShapes Go.ChangeAt Go.RowKit Go.Deep

theorem Tryd.cells16 : Tryd.prog.cellsOf 22 = 16 := by kernel_rfl
theorem Tryd.cells1 : Tryd.prog.cellsOf 3 = 1 := by kernel_rfl

section
variable {H : Type} {enc : TypeId × Value → H} {w : World} {base : Nat} {spare : Nat → Bool} {held : Bool}
theorem mats_open {fuel : Nat} {v : Value} {x : DataW H × List MemPlace} (h : DataW.trod enc Tryd.prog w base spare held fuel 49 [v] = some x) :
    ∃ (T : Nat → Prop) (ms : List (Nat → Int)), Mat w T v ms ∧ ∀ i, T i → i < w.heap.size := by
  rcases open_slice Tryd.underlying49 h with ⟨hcs, _⟩ | ⟨a, len, cap, m, n, D, Pl, hcs, hb, hl, hm, hmm, hx, hi⟩
  · simp at hcs
    subst hcs
    exact ⟨noB, [], ⟨none, 0, rfl, fun _ h => h.elim, fun h => absurd h (Nat.lt_irrefl 0)⟩, fun _ h => h.elim⟩
  · simp at hcs
    subst hcs
    rw [Tryd.cells16] at hi
    have hle : len ≤ m := by rw [hmm]; split <;> omega
    have hq : ∀ i, i < len → ∃ q : Nat → Int, ∀ j, j < 16 → w.cell? ((a.add (i * 16)).add j) = some (.int .i64 (q j)) := by
      intro i hil
      obtain ⟨cs', hc, ht⟩ := hi i (by omega)
      obtain ⟨_, hlen, hat⟩ := World.cells?_some hc
      obtain ⟨hl2, hcl⟩ := cells_ints Tryd.underlying22 Tryd.underlying3 Tryd.cells1 Tryd.cells16 ht
      refine ⟨intAt cs', fun j hj => ?_⟩
      rw [hat j hj]; exact (hcl j hj).1
    obtain ⟨f, hf⟩ := choose_lt hq
    by_cases hpos : 0 < len
    · obtain ⟨b, off, spot⟩ := a
      have hs := World.cell?_spot (hf 0 hpos 0 (by omega))
      have hspot : spot = none := by simpa [Addr.add] using hs
      subst hspot
      have hcell : ∀ i, i < len → ∀ j, j < 16 → w.cell? ⟨b, off + i * 16 + j, none⟩ = some (.int .i64 (f i j)) := fun i hil j hj => by
        have := hf i hil j hj
        rwa [Addr.add_lit, Addr.add_lit] at this
      have hlt : b < w.heap.size := World.block_lt_of_cell? w _ (hcell 0 hpos 0 (by omega))
      refine ⟨onB b, (List.range len).map f, ⟨some ⟨b, off, none⟩, cap, by simp, onB_live hlt, fun _ => ⟨b, off, rfl, rfl, fun i hi2 j hj => ?_⟩⟩, fun i hi2 => onB_live hlt i hi2⟩
      have hil : i < len := by simpa using hi2
      rw [hcell i hil j hj]
      simp [List.getD, hil]
    · have h0 : len = 0 := by omega
      subst h0
      exact ⟨noB, [], ⟨some a, cap, rfl, fun _ h => h.elim, fun h => absurd h (Nat.lt_irrefl 0)⟩, fun _ h => h.elim⟩
end
end Go.Proofs.YtipimcnjcpckeaaDoor
