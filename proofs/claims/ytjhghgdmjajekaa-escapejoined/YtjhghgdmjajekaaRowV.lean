/- A row of slices of the call's own, which point to units that were there; append of a list of units. -/
import Derived.Test.YtjhghgdmjajekaaSm
import Derived.Deep.Slices
namespace Go.Proofs.Ytjhghgdmjajekaa
open Go.RowKit Go.Deep

def RowV (w0 w : World) (v : Value) (us : List (List Nat)) : Prop :=
  (∃ ps : List (Value × List Nat), ps.map (·.2) = us ∧ w.ownsRow w0.heap.size 22 1 v ps.length (ps.map (·.1)) ∧ ∀ q ∈ ps, BytesArg w0 q.1 q.2) ∧ Kept (fun _ => False) w0 w

theorem RowV.units {w0 w : World} {v : Value} {us : List (List Nat)} (h : RowV w0 w v us) : UnitsArg w v us := by
  obtain ⟨⟨ps, rfl, h2, h3⟩, k⟩ := h
  rcases h2.2 with ⟨rfl, h0⟩ | ⟨g, cap, cur, rfl, hb, hg, hc, hm, hs, ht⟩
  · have hl : ps = [] := List.eq_nil_of_length_eq_zero h0
    subst hl
    exact ⟨none, 0, rfl, Nat.le_refl _, Nat.zero_le _, fun _ => rfl, by simp⟩
  · refine ⟨some ⟨g, 0, none⟩, cap, by simp, by simpa using hc, hm, by simp, fun hpos => ⟨g, 0, rfl, lt_of_heap hg, fun i hi => ?_⟩⟩
    have hi' : i < ps.length := by simpa using hi
    refine ⟨ps[i].1, ?_, ?_⟩
    · rw [Nat.zero_add, h2.cellAt i (by omega)]; simp [hi']
    · have := (h3 ps[i] (List.getElem_mem hi')).all k
      simpa [List.getD, hi'] using this

/-- The cells of a slice of units, as pairs. -/
theorem UnitsArg.pairs {w : World} {v : Value} {us : List (List Nat)} (h : UnitsArg w v us) :
    ∃ (ps : List (Value × List Nat)) (a : Option Addr) (cap : Nat), ps.map (·.2) = us ∧ v = .slice a ps.length cap ∧ (a = none → cap = 0) ∧ ps.length ≤ cap ∧ (∀ q ∈ ps, BytesArg w q.1 q.2) ∧
      (0 < ps.length → ∃ b off, a = some ⟨b, off, none⟩ ∧ b < w.heap.size ∧ ∀ j u, (ps.map (·.1))[j]? = some u → w.cell? ⟨b, off + j, none⟩ = some u) := by
  obtain ⟨a, cap, rfl, h1, h2, h3, hc⟩ := h
  by_cases hp : 0 < us.length
  · obtain ⟨b, off, rfl, hb, hx⟩ := hc hp
    obtain ⟨f, hf⟩ := choose_lt (fun i (hi : i < us.length) => hx i hi)
    refine ⟨(List.range us.length).map fun i => (f i, us.getD i []), _, cap, ?_, by simp, by simp, by simpa using h1, ?_, fun _ => ⟨b, off, rfl, hb, ?_⟩⟩
    · apply List.ext_getElem
      · simp
      · intro i h1 h2
        simp [List.getD, h2]
    · intro q hq
      obtain ⟨i, hi, rfl⟩ := List.mem_map.1 hq
      exact (hf i (by simpa using hi)).2
    · intro j u hj
      have hjl : j < us.length := by
        have := (List.getElem?_eq_some_iff.1 hj).1
        simpa using this
      simp [hjl] at hj
      subst hj
      exact (hf j hjl).1
  · have hu : us = [] := List.eq_nil_of_length_eq_zero (by omega)
    subst hu
    exact ⟨[], a, cap, rfl, rfl, h3, h1, by simp, by simp⟩

theorem RowV.nil {w0 w : World} (k : Kept (fun _ => False) w0 w) : RowV w0 (w.alloc (.cells #[] 22)) (.slice (some ⟨w.heap.size, 0, none⟩) 0 0) [] :=
  ⟨⟨[], rfl, ⟨rfl, .inr ⟨w.heap.size, 0, #[], rfl, k.size, heap_alloc_new w _, Nat.le_refl _, Nat.zero_le _, rfl, rfl⟩⟩, by simp⟩, k.alloc _⟩

theorem run_append_units (w0 w : World) (ty : TypeId) (v x : Value) (us ts : List (List Nat)) (hown : RowV w0 w v us) (hx : UnitsArg w0 x ts) (hl : us.length + ts.length < 4294967296) :
    ∃ v' w', (Builtin.append_ #[29, 29] ty #[v, x]).run Try.prog w = .ok v' w' ∧ RowV w0 w' v' (us ++ ts) := by
  obtain ⟨i0, hi, hz0, hz1, hz2⟩ := info_parts Try.info_sl
  obtain ⟨⟨ps, rfl, h2, h3⟩, k⟩ := hown
  obtain ⟨qs, a, cap, rfl, rfl, hn, hcap, hq, hc⟩ := hx.pairs
  cases a with
  | none =>
    have hc0 := hn rfl
    subst hc0
    have hq0 : qs = [] := List.eq_nil_of_length_eq_zero (by omega)
    subst hq0
    exact ⟨v, w, run_append_owned_none w w0.heap.size _ ty _ i0 1 Try.underlying29 hi v _ _ h2, ⟨ps, by simp, h2, h3⟩, k⟩
  | some ad =>
    have hcells : ∀ j u, (qs.map (·.1))[j]? = some u → w.cell? (ad.add j) = some u := by
      intro j u hj
      have hjl : j < qs.length := by
        have := (List.getElem?_eq_some_iff.1 hj).1
        simpa using this
      obtain ⟨b, off, e, hb, hcc⟩ := hc (by omega)
      cases e
      rw [Addr.add_lit]
      exact (World.cell?_of_block (a := ⟨b, off + j, none⟩) (k.block b hb id)).trans (hcc j u hj)
    have h1c : ∀ u ∈ qs.map (·.1), u.oneCell' = true := by
      intro u hu
      obtain ⟨q, hqm, rfl⟩ := List.mem_map.1 hu
      obtain ⟨xa, xc, e⟩ := (hq q hqm).shape
      rw [e]; rfl
    simp only [List.length_map] at hl
    have hlm : ps.length + qs.length ≤ maxLen := by unfold maxLen; omega
    obtain ⟨v', w', hr, ho, hg, _⟩ := run_append_own (P := Try.prog) w w0.heap.size 29 ty 22 i0 (.slice none 0 0) 1 24 Try.underlying29 hi hz0 hz1 hz2 rfl (by decide) v ps.length (ps.map (·.1)) h2 ad qs.length cap (qs.map (·.1))
      (by simp) hcells h1c hlm (by omega) k.size
    refine ⟨v', w', hr, ⟨ps ++ qs, by simp, by simpa using ho, ?_⟩, k.grown hg (fun b hb hlt => by have := (h2.lt b hb).1; omega)⟩
    intro q hqm
    rcases List.mem_append.1 hqm with h | h
    · exact h3 q h
    · exact hq q h

theorem wpList_append_units (w0 w : World) {ops : Array Oper} {rest : List Oper} {o : Oper} {a : Act} {Q : Exit → Act → World → Prop} (hgd : o.guard = none) (s x : Operand)
    (ho : o.op = .call { callee := .builtin .append, args := #[s, x], argTypes := #[29, 29] })
    (v y : Value) (us ts : List (List Nat)) (hs : a.eval s = v) (hown : RowV w0 w v us) (hx : a.eval x = y) (hy : UnitsArg w0 y ts) (hl : us.length + ts.length < 4294967296)
    (h : ∀ v' w', RowV w0 w' v' (us ++ ts) → wpList Try.prog ops Q rest (a.put o.dst v') w') : wpList Try.prog ops Q (o :: rest) a w := by
  refine wpList_plain hgd fun K hK => ?_
  obtain ⟨v', w', hr, h2⟩ := run_append_units w0 w o.type v y us ts hown hy hl
  unfold Oper.wp execOp
  simp only [ho, resolve, invoke, builtin, Sem.run_bind, Sem.run_pure, Result.andThen_ok, List.map_toArray, List.map_cons, List.map_nil, hs, hx, hr]
  exact hK _ _ (h v' w' h2)

/-- append of bytes, at a step of a region that draws its order. -/
theorem step_append_bytes (w : World) {ops : Array Oper} {o : Oper} {a : Act} {K : Act → World → Prop} {Q : Exit → Act → World → Prop} {E : Prop} (hw : Region.wanted o (yielded ops a.tmps) = true) (s x : Operand)
    (ho : o.op = .call { callee := .builtin .append, args := #[s, x], argTypes := #[22, 22] })
    (B : Nat) (v y : Value) (l m : List Nat) (hs : a.eval s = v) (hown : Row w B v l) (hx : a.eval x = y) (hy : BytesArg w y m) (hl : l.length + m.length < 1099511627776) (hB : B ≤ w.heap.size)
    (h : ∀ v' w', Appended w w' B v v' (l ++ m) → K (a.put o.dst v') w') : if Region.wanted o (yielded ops a.tmps) = true then Oper.wp Try.prog o a w K Q else E := by
  rw [if_pos hw]
  obtain ⟨v', w', hr, h2⟩ := run_append_bytes w o.type B v y l m hown hy hl hB
  unfold Oper.wp execOp
  simp only [ho, resolve, invoke, builtin, Sem.run_bind, Sem.run_pure, Result.andThen_ok, List.map_toArray, List.map_cons, List.map_nil, hs, hx, hr]
  exact h v' w' h2
end Go.Proofs.Ytjhghgdmjajekaa
