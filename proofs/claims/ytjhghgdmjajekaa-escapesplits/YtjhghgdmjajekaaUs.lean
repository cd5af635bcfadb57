/- Lists of units in memory: those that came in, and those that a call makes. -/
import Derived.Test.YtjhghgdmjajekaaNx
namespace Go.Proofs.Ytjhghgdmjajekaa
open Go.RowKit

theorem Try.info_sl : (Try.prog.info? 22).map (fun i => (i.zero, i.size, i.bytes)) = some (some (.slice none 0 0), 1, 24) := by kernel_rfl

/-- A slice of units that can be read. -/
def UnitsArg (w : World) (v : Value) (us : List (List Nat)) : Prop :=
  ∃ a cap, v = .slice a us.length cap ∧ us.length ≤ cap ∧ cap ≤ maxLen ∧ (a = none → cap = 0) ∧
    (0 < us.length → ∃ b off, a = some ⟨b, off, none⟩ ∧ b < w.heap.size ∧ ∀ i, i < us.length → ∃ x, w.cell? ⟨b, off + i, none⟩ = some x ∧ BytesArg w x (us.getD i []))

theorem UnitsArg.all {w w' : World} {v : Value} {us : List (List Nat)} (h : UnitsArg w v us) (k : Kept (fun _ => False) w w') : UnitsArg w' v us := by
  obtain ⟨a, cap, rfl, h1, h2, h3, hc⟩ := h
  refine ⟨a, cap, rfl, h1, h2, h3, fun hpos => ?_⟩
  obtain ⟨b, off, rfl, hb, hx⟩ := hc hpos
  refine ⟨b, off, rfl, Nat.lt_of_lt_of_le hb k.size, fun i hi => ?_⟩
  obtain ⟨x, hx1, hx2⟩ := hx i hi
  exact ⟨x, (World.cell?_of_block (k.block b hb id)).trans hx1, hx2.all k⟩

/-- A row of units of the call's own, which lie in rows of its own too. -/
def RowU (w : World) (B : Nat) (v : Value) (us : List (List Nat)) : Prop :=
  ∃ ps : List (Value × List Nat), ps.map (·.2) = us ∧ w.ownsRow B 22 1 v ps.length (ps.map (·.1)) ∧ ∀ q ∈ ps, Row w B q.1 q.2

theorem RowU.nil (w : World) (B : Nat) : RowU w B (.slice none 0 0) [] := ⟨[], rfl, World.ownsRow_nil w B _ _, by simp⟩

theorem ownsRow_at {w w' : World} {S : Nat → Prop} {B size n : Nat} {e : TypeId} {v : Value} {xs : List Value} (h : w.ownsRow B e size v n xs) (k : Kept S w w') (hs : ∀ g, v.ownBlock = some g → ¬ S g) : w'.ownsRow B e size v n xs := by
  obtain ⟨h0, h1⟩ := h
  refine ⟨h0, ?_⟩
  rcases h1 with hn | ⟨g, cap, cur, rfl, hb, hg, rest⟩
  · exact .inl hn
  · exact .inr ⟨g, cap, cur, rfl, hb, k.at hg (hs g rfl), rest⟩

theorem RowU.kept {S : Nat → Prop} {w w' : World} {B : Nat} {v : Value} {us : List (List Nat)} (h : RowU w B v us) (k : Kept S w w') (hs : ∀ g, S g → ∀ c e f, w.heap[g]? = some (.cells c e f) → e ≠ 5 ∧ e ≠ 22) : RowU w' B v us := by
  obtain ⟨ps, h1, h2, h3⟩ := h
  refine ⟨ps, h1, ownsRow_at h2 k ?_, fun q hq => (h3 q hq).kept k ?_⟩
  · intro g hg hS
    rcases h2.2 with ⟨rfl, _⟩ | ⟨g', cap, cur, rfl, _, hh, _⟩
    · cases hg
    · simp [Value.ownBlock] at hg; subst hg
      exact (hs _ hS _ _ _ hh).2 rfl
  · intro g hg hS
    obtain ⟨⟨_, hr⟩, _⟩ := h3 q hq
    rcases hr with ⟨e, _⟩ | ⟨g', cap, cur, e, _, hh, _⟩
    · rw [e] at hg; cases hg
    · rw [e] at hg; simp [Value.ownBlock] at hg; subst hg
      exact (hs _ hS _ _ _ hh).1 rfl

theorem RowU.all {w w' : World} {B : Nat} {v : Value} {us : List (List Nat)} (h : RowU w B v us) (k : Kept (fun _ => False) w w') : RowU w' B v us := h.kept k (fun _ h => h.elim)

theorem RowU.units {w : World} {B : Nat} {v : Value} {us : List (List Nat)} (h : RowU w B v us) : UnitsArg w v us := by
  obtain ⟨ps, rfl, h2, h3⟩ := h
  rcases h2.2 with ⟨rfl, h0⟩ | ⟨g, cap, cur, rfl, hb, hg, hc, hm, hs, ht⟩
  · have hl : ps = [] := List.eq_nil_of_length_eq_zero h0
    subst hl
    exact ⟨none, 0, rfl, Nat.le_refl _, Nat.zero_le _, fun _ => rfl, by simp⟩
  · refine ⟨some ⟨g, 0, none⟩, cap, by simp, by simpa using hc, hm, by simp, fun hpos => ⟨g, 0, rfl, lt_of_heap hg, fun i hi => ?_⟩⟩
    have hi' : i < ps.length := by simpa using hi
    refine ⟨ps[i].1, ?_, ?_⟩
    · rw [Nat.zero_add, h2.cellAt i (by omega)]; simp [hi']
    · have := (h3 ps[i] (List.getElem_mem hi')).bytes
      simpa [List.getD, hi'] using this

/-- append of one unit. -/
theorem run_append_unit (w : World) (ty : TypeId) (B : Nat) (v x y : Value) (us : List (List Nat)) (u : List Nat) (hown : RowU w B v us) (hx : Row w B x u) (ad : Addr) (hy : y = .slice (some ad) 1 1) (hc : w.cell? ad = some x) (hl : us.length < 4294967296) (hB : B ≤ w.heap.size) :
    ∃ v' w', (Builtin.append_ #[29, 29] ty #[v, y]).run Try.prog w = .ok v' w' ∧ RowU w' B v' (us ++ [u]) ∧ w.grownBy w' v.ownBlock := by
  obtain ⟨i0, hi, hz0, hz1, hz2⟩ := info_parts Try.info_sl
  subst hy
  obtain ⟨ps, rfl, h2, h3⟩ := hown
  have hlm : ps.length + 1 ≤ maxLen := by simp at hl; unfold maxLen; omega
  have h1c : ∀ u ∈ [x], u.oneCell' = true := by
    intro u hu
    simp at hu
    subst hu
    rcases hx.1.2 with ⟨rfl, _⟩ | ⟨g, cap, cur, rfl, _⟩ <;> rfl
  obtain ⟨v', w', hr, ho, hg, _⟩ := run_append_own (P := Try.prog) w B 29 ty 22 i0 (.slice none 0 0) 1 24 Try.underlying29 hi hz0 hz1 hz2 rfl (by decide) v ps.length (ps.map (·.1)) h2 ad 1 1 [x]
    rfl (by intro j u hj; match j, hj with | 0, hj => simp at hj; subst hj; have e : ad.add 0 = ad := by { obtain ⟨b, off, spot⟩ := ad; cases spot <;> simp [Addr.add] }; rw [e]; exact hc) h1c hlm (by simp at hl; omega) hB
  refine ⟨v', w', hr, ⟨ps ++ [(x, u)], by simp, by simpa using ho, ?_⟩, hg⟩
  have keep : ∀ q : Value × List Nat, Row w B q.1 q.2 → Row w' B q.1 q.2 := by
    intro q hq
    refine hq.kept (S := fun k => v.ownBlock = some k) ⟨hg.os, hg.tape, hg.output, hg.size, fun k hk hn => hg.block k hk (fun e => hn e.symm)⟩ ?_
    intro g e1 e2
    rcases h2.2 with ⟨rfl, _⟩ | ⟨g', cap, cur, rfl, _, hh, _⟩
    · cases e2
    · simp [Value.ownBlock] at e2; subst e2
      rcases hq.1.2 with ⟨e, _⟩ | ⟨g'', cap', cur', e, _, hh', _⟩
      · rw [e] at e1; cases e1
      · rw [e] at e1; simp [Value.ownBlock] at e1; subst e1
        rw [hh] at hh'
        simp at hh'
  intro q hq
  rcases List.mem_append.1 hq with h | h
  · exact keep q (h3 q h)
  · simp at h; subst h; exact keep (x, u) hx

theorem wpList_append_unit (w : World) {ops : Array Oper} {rest : List Oper} {o : Oper} {a : Act} {Q : Exit → Act → World → Prop} (hgd : o.guard = none) (s x : Operand)
    (ho : o.op = .call { callee := .builtin .append, args := #[s, x], argTypes := #[29, 29] })
    (B : Nat) (v y z : Value) (us : List (List Nat)) (u : List Nat) (hs : a.eval s = v) (hown : RowU w B v us) (hz : Row w B z u) (ad : Addr) (hx : a.eval x = y) (hy : y = .slice (some ad) 1 1) (hc : w.cell? ad = some z) (hl : us.length < 4294967296) (hB : B ≤ w.heap.size)
    (h : ∀ v' w', RowU w' B v' (us ++ [u]) → w.grownBy w' v.ownBlock → wpList Try.prog ops Q rest (a.put o.dst v') w') : wpList Try.prog ops Q (o :: rest) a w := by
  refine wpList_plain hgd fun K hK => ?_
  obtain ⟨v', w', hr, h2, h3⟩ := run_append_unit w o.type B v z y us u hown hz ad hy hc hl hB
  unfold Oper.wp execOp
  simp only [ho, resolve, invoke, builtin, Sem.run_bind, Sem.run_pure, Result.andThen_ok, List.map_toArray, List.map_cons, List.map_nil, hs, hx, hr]
  exact hK _ _ (h v' w' h2 h3)

theorem RowU.lt {w : World} {B : Nat} {v : Value} {us : List (List Nat)} (h : RowU w B v us) : ∀ k, v.ownBlock = some k → B ≤ k ∧ k < w.heap.size := by
  obtain ⟨ps, _, h2, _⟩ := h; exact h2.lt

/-- Behind w0 there is a list of units of its own; of what was there in w0 nothing has turned. -/
def OwnU (w0 w : World) (v : Value) (us : List (List Nat)) : Prop := RowU w w0.heap.size v us ∧ Kept (fun _ => False) w0 w

theorem OwnU.all {w0 w w' : World} {v : Value} {us : List (List Nat)} (h : OwnU w0 w v us) (k : Kept (fun _ => False) w w') : OwnU w0 w' v us := ⟨h.1.all k, h.2.trans k (fun _ _ x => x)⟩

theorem OwnU.grown {w0 w w' : World} {v v' : Value} {us us' : List (List Nat)} (h : OwnU w0 w v us) (h1 : RowU w' w0.heap.size v' us') (h2 : w.grownBy w' v.ownBlock) : OwnU w0 w' v' us' :=
  ⟨h1, h.2.grown h2 (fun k hk hlt => by have := (h.1.lt k hk).1; omega)⟩

/-- What a call that may make units leaves. -/
def MayU (w : World) (r : Option (List (List Nat))) (e : Ending) (w' : World) : Prop := ∃ v, e = .returned (.tuple #[v, .int .i64 (code r)]) ∧ OwnU w w' v (r.getD [])

theorem MayU.no {w w' : World} {r : Option (List (List Nat))} (h : r = none) (k : Kept (fun _ => False) w w') : MayU w r (.returned (.tuple #[.slice none 0 0, .int .i64 20])) w' := by
  subst h; exact ⟨_, rfl, RowU.nil _ _, k⟩
theorem MayU.yes {w w' : World} {v : Value} {us : List (List Nat)} {r : Option (List (List Nat))} (h : r = some us) (o : OwnU w w' v us) : MayU w r (.returned (.tuple #[v, .int .i64 0])) w' := by
  subst h; exact ⟨_, rfl, o⟩
end Go.Proofs.Ytjhghgdmjajekaa
