/- A slice of bytes among the arguments, opened to its cells. -/
import Derived.Test.YtipimcnjcpckeaaDoorBv
import Derived.ProofKit
import Derived.OpenShut
namespace Go.Proofs.YtipimcnjcpckeaaDoor
open Go.ChangeShapes Go.WideShapes Go.ChangeAt Go.RowKit

section
variable {H : Type} {enc : TypeId × Value → H} {w : World} {base : Nat} {spare : Nat → Bool} {held : Bool}

theorem BytesArg.of_row {a : Option Addr} {len cap : Nat} {zs : List Int}
    (h : (a = none ∧ len = 0 ∧ cap = 0 ∧ zs = []) ∨ ∃ x, a = some x ∧ len ≤ cap ∧ cap ≤ maxLen ∧ len ≤ zs.length ∧ (∀ i, i < zs.length → w.cell? (x.add i) = some (.int .u8 (zs.getD i 0))) ∧ ∀ n ∈ zs, (Lit.int .u8 n).wf = true) :
    ∃ l : List Nat, BytesArg w (.slice a len cap) l := by
  rcases h with ⟨rfl, rfl, rfl, rfl⟩ | ⟨x, rfl, hlc, hcm, hz, hcell, hwf⟩
  · exact ⟨[], BytesArg.nil w⟩
  · have hlen : ((zs.take len).map Int.toNat).length = len := by simp; omega
    refine ⟨(zs.take len).map Int.toNat, some x, cap, by rw [hlen], by rw [hlen]; exact hlc, hcm, by simp, ?_, ?_⟩
    · intro y hy
      obtain ⟨z, hz1, rfl⟩ := List.mem_map.1 hy
      have := bounds_u8 (hwf z (List.mem_of_mem_take hz1))
      omega
    · intro hpos
      rw [hlen] at hpos
      have hpos' : 0 < zs.length := by omega
      obtain ⟨b, off, rfl, hc⟩ := ints_at hcell hpos'
      refine ⟨b, off, rfl, World.block_lt_of_cell? w _ (hc 0 hpos'), fun i hi => ?_⟩
      rw [hlen] at hi
      have hi' : i < zs.length := by omega
      rw [hc i hi']
      have hwi := bounds_u8 (hwf zs[i] (List.getElem_mem hi'))
      simp [List.getD, hi', hi]
      omega

theorem bytes_open {fuel : Nat} {v : Value} {x : DataW H × List MemPlace}
    (h : DataW.trod enc Tryd.prog w base spare held fuel 25 [v] = some x) : ∃ l : List Nat, BytesArg w v l := by
  rcases open_ints Tryd.underlying25 Tryd.underlying5 (by kernel_rfl) h with ⟨hcs, _⟩ | ⟨a, len, cap, zs, hcs, _, hl, hm, hz, _, hcell, hwz⟩
  · simp at hcs
    subst hcs
    exact ⟨[], BytesArg.nil w⟩
  · simp at hcs
    subst hcs
    exact BytesArg.of_row (.inr ⟨a, rfl, hl, hm, by have := hz; split at this <;> omega, hcell, hwz⟩)

end
end Go.Proofs.YtipimcnjcpckeaaDoor
