/- A slice of parts among the arguments, opened to its cells. -/
import Derived.Test.YtbfmjomekkcpcaaParts
import Derived.ProofKit
import Derived.Deep.Slices
namespace Go.Proofs.Ytbfmjomekkcpcaa
open Go.ChangeShapes Go.WideShapes Go.ChangeAt Go.RowKit Go.Deep

instance : Inhabited Pt := ⟨⟨0, 0, 0⟩⟩

theorem Try.cellsPart : Try.prog.cellsOf 25 = 3 := by kernel_rfl

theorem Try.cellsInt : Try.prog.cellsOf 3 = 1 := by kernel_rfl

section
variable {H : Type} {enc : TypeId × Value → H} {w : World} {base : Nat} {spare : Nat → Bool} {held : Bool}

theorem part_cells {n : Nat} {a : Addr} {cs : List Value} {x : DataW H × List MemPlace} (hc : w.cells? base a 3 = some cs) (h : DataW.trod enc Try.prog w base spare held n 25 cs = some x) :
    ∃ q : Pt, w.cell? a = some (.int .i64 q.kind) ∧ w.cell? (a.add 1) = some (.int .i64 q.n) ∧ w.cell? (a.add 2) = some (.int .i64 q.k) := by
  obtain ⟨_, hlen, hat⟩ := World.cells?_some hc
  obtain ⟨xs, n', _, _, _, hxl, hf⟩ := DataW.trod_struct Try.underlying25 h
  have hxl3 : xs.length = 3 := hxl
  have t0 : DataW.trod enc Try.prog w base spare held n' 3 ((cs.drop 0).take (Try.prog.cellsOf 3)) = xs[0]? := hf 0 _ rfl
  have t1 : DataW.trod enc Try.prog w base spare held n' 3 ((cs.drop 1).take (Try.prog.cellsOf 3)) = xs[1]? := hf 1 _ rfl
  have t2 : DataW.trod enc Try.prog w base spare held n' 3 ((cs.drop 2).take (Try.prog.cellsOf 3)) = xs[2]? := hf 2 _ rfl
  rw [Try.cellsInt] at t0 t1 t2
  match cs, hlen with
  | [c0, c1, c2], _ =>
    rw [List.getElem?_eq_getElem (show 0 < xs.length by omega)] at t0
    rw [List.getElem?_eq_getElem (show 1 < xs.length by omega)] at t1
    rw [List.getElem?_eq_getElem (show 2 < xs.length by omega)] at t2
    obtain ⟨m0, e0, -, -⟩ := DataW.trod_int Try.underlying3 t0
    obtain ⟨m1, e1, -, -⟩ := DataW.trod_int Try.underlying3 t1
    obtain ⟨m2, e2, -, -⟩ := DataW.trod_int Try.underlying3 t2
    simp at e0 e1 e2
    subst e0 e1 e2
    have a0 := hat 0 (by omega)
    have a1 := hat 1 (by omega)
    have a2 := hat 2 (by omega)
    have hz : a.add 0 = a := by obtain ⟨b, off, spot⟩ := a; cases spot <;> simp [Addr.add]
    rw [hz] at a0
    exact ⟨⟨m0, m1, m2⟩, a0, a1, a2⟩

theorem parts_open {fuel : Nat} {v : Value} {x : DataW H × List MemPlace} (h : DataW.trod enc Try.prog w base spare held fuel 23 [v] = some x) :
    ∃ ps : List Pt, PartsArg w v ps ∧ ps.length ≤ maxLen := by
  rcases open_slice Try.underlying23 h with ⟨hcs, _⟩ | ⟨a, len, cap, m, n, D, Pl, hcs, hb, hl, hm, hmm, hx, hi⟩
  · simp at hcs
    subst hcs
    exact ⟨[], ⟨none, 0, rfl, fun h => by simp at h⟩, Nat.zero_le _⟩
  · simp at hcs
    subst hcs
    rw [Try.cellsPart] at hi
    have hle : len ≤ m := by rw [hmm]; split <;> omega
    have hq : ∀ i, i < len → ∃ q : Pt, w.cell? (a.add (i * 3)) = some (.int .i64 q.kind) ∧ w.cell? ((a.add (i * 3)).add 1) = some (.int .i64 q.n) ∧ w.cell? ((a.add (i * 3)).add 2) = some (.int .i64 q.k) := by
      intro i hil
      obtain ⟨cs', hc, ht⟩ := hi i (by omega)
      exact part_cells hc ht
    obtain ⟨f, hf⟩ := choose_lt hq
    refine ⟨(List.range len).map f, ⟨some a, cap, by simp, fun hpos => ?_⟩, by simp; omega⟩
    have hpos' : 0 < len := by simpa using hpos
    obtain ⟨b, off, spot⟩ := a
    have hs := World.cell?_spot (hf 0 hpos').1
    have hspot : spot = none := by simpa [Addr.add] using hs
    subst hspot
    refine ⟨b, off, rfl, World.block_lt_of_cell? w ⟨b, off + 0 * 3, none⟩ (by rw [← Addr.add_lit]; exact (hf 0 hpos').1), fun i hi2 q hq2 => ?_⟩
    have hil : i < len := by simpa using hi2
    have e : q = f i := by simp [hil] at hq2; exact hq2.symm
    subst e
    obtain ⟨g0, g1, g2⟩ := hf i hil
    rw [Addr.add_lit] at g0 g1 g2
    rw [Addr.add_lit] at g1 g2
    exact ⟨g0, g1, g2⟩
end
end Go.Proofs.Ytbfmjomekkcpcaa
