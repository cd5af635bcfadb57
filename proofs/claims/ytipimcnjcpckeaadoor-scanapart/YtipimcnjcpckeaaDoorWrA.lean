/- A new writer; what is kept of all that was there; bytes that a call has made as a text. -/
import Derived.Test.YtipimcnjcpckeaaDoorRd5
namespace Go.Proofs.YtipimcnjcpckeaaDoor
open Go.RowKit

theorem WrIs.new (w : World) : WrIs (w.alloc (.cells #[.slice none 0 0, .int .i64 0] 27)) w.heap.size none [] := by
  refine ⟨.slice none 0 0, heap_alloc_new w _, World.ownsRow_nil _ _ _ _, rfl, by simp⟩

/-- What is kept of all that was there ahead of a block of the call's own is kept. -/
theorem Kept.own {S : Nat → Prop} {w w' : World} {o : Obj} (h : Kept S (w.alloc o) w') (hs : ∀ k, k < w.heap.size → ¬ S k) : Kept (fun _ => False) w w' := by
  refine ⟨h.os, h.tape, h.output, ?_, fun k hk _ => ?_⟩
  · have := h.size; simp at this; omega
  · exact (h.block k (by simp; omega) (hs k hk)).trans (Below.heap_alloc w o k hk)

theorem SliceOf.of_new {w : World} {g : Nat} {l : List Nat} (h : w.heap[g]? = some (.cells (byteVals l).toArray 5 (0, 0))) : SliceOf w (.slice (some ⟨g, 0, none⟩) l.length l.length) l := by
  refine ⟨_, _, rfl, fun _ => ⟨⟨g, 0, none⟩, rfl, fun j u hj => ?_⟩⟩
  rw [Addr.add_lit, cell_of_heap h]
  simpa using hj

theorem Kept.all {w w' : World} (h : Kept (fun _ => False) w w') : Below w.heap.size w w' := h.below (Nat.le_refl _) (fun _ _ x => x)

theorem run_text {w : World} {g : Nat} {l : List Nat} (h : w.heap[g]? = some (.cells (byteVals l).toArray 5 (0, 0))) (cap : Nat) :
    (convert 25 9 (.slice (some ⟨g, 0, none⟩) l.length cap)).run Tryd.prog w = .ok (.string (textOf l)) w := by
  rw [run_convert_bytes_string w 25 9 5 _ _ _ Tryd.underlying25 Tryd.underlying5 Tryd.underlying9]
  have hl := run_loadCells_list (P := Tryd.prog) w ⟨g, 0, none⟩ (byteVals l) (by intro j v hj; rw [Addr.add_lit, cell_of_heap h]; simpa using hj)
  rw [byteVals_length] at hl
  have e : (byteVals l).toArray = ((l.map fun n : Nat => (n : Int)).map (Value.int .u8)).toArray := by simp [byteVals]
  rw [e] at hl
  exact run_bytesToString w ⟨g, 0, none⟩ l.length cap _ hl
end Go.Proofs.YtipimcnjcpckeaaDoor
