/- What VectorFields reaches of my texts, part 2. -/
import Derived.Test.YthhagejcgobfgaaVectorFieldsA
namespace Go.Proofs.Ythhagejcgobfgaa
open Go.RowKit

/-- Who holds the row: the latest of these operations (the latest first) that is listed. -/
def hold (L : Nat → Bool) (v : Nat → Value) (C : Nat → List Nat) (vI : Value) (lI : List Nat) : List Nat → Value × List Nat
  | [] => (vI, lI)
  | x :: r => if L x = true then (v x, C x) else hold L v C vI lI r

/-- They are listed in their order. -/
def Closed (L : Nat → Bool) : List Nat → Prop
  | [] => True
  | [_] => True
  | y :: x :: r => (L y = true → L x = true) ∧ Closed L (x :: r)

theorem Closed.later {L : Nat → Bool} : ∀ {ys : List Nat} {x : Nat} {r : List Nat}, Closed L (ys ++ x :: r) → L x = false → ∀ y ∈ ys, L y = false := by
  intro ys
  induction ys with
  | nil => intro x r _ _ y hy; cases hy
  | cons z zs ih =>
    intro x r h hx y hy
    have hrec : Closed L (zs ++ x :: r) := by
      cases zs with
      | nil => exact h.2
      | cons z' zs' => exact h.2
    have hzs := ih hrec hx
    rcases List.mem_cons.1 hy with rfl | hy
    · cases hz : L y with
      | false => rfl
      | true =>
        cases zs with
        | nil => have := h.1 hz; rw [hx] at this; cases this
        | cons z' zs' => have := h.1 hz; rw [hzs z' (by simp)] at this; cases this
    · exact hzs y hy

theorem hold_later {L : Nat → Bool} {v : Nat → Value} {C : Nat → List Nat} {vI : Value} {lI : List Nat} : ∀ {ys r : List Nat}, (∀ y ∈ ys, L y = false) → hold L v C vI lI (ys ++ r) = hold L v C vI lI r := by
  intro ys
  induction ys with
  | nil => intro r _; rfl
  | cons z zs ih =>
    intro r h
    simp only [List.cons_append, hold]
    rw [if_neg (by rw [h z (by simp)]; decide)]
    exact ih (fun y hy => h y (by simp [hy]))

theorem Closed.up {L : Nat → Bool} : ∀ {X : List Nat} {i : Nat}, Closed L X → (∀ ys x r, X = ys ++ i :: x :: r → L x = true) → Closed (upL L i) X := by
  intro X
  induction X with
  | nil => intro i _ _; exact trivial
  | cons y r ih =>
    intro i h hp
    cases r with
    | nil => exact trivial
    | cons x r =>
      refine ⟨fun hy => ?_, ih h.2 fun ys x' r' e => hp (y :: ys) x' r' (by rw [e]; rfl)⟩
      unfold upL at hy ⊢
      by_cases hx : x = i
      · rw [if_pos hx]
      · rw [if_neg hx]
        by_cases hyi : y = i
        · subst hyi; exact hp [] x r rfl
        · rw [if_neg hyi] at hy; exact h.1 hy

theorem Closed.up_other {L : Nat → Bool} {X : List Nat} {i : Nat} (h : Closed L X) (hi : i ∉ X) : Closed (upL L i) X :=
  h.up fun ys x r e => absurd (by rw [e]; simp) hi

theorem hold_up_other {L : Nat → Bool} {v : Nat → Value} {C : Nat → List Nat} {vI : Value} {lI : List Nat} {i : Nat} {x : Value} : ∀ {X : List Nat}, i ∉ X → hold (upL L i) (upV v i x) C vI lI X = hold L v C vI lI X := by
  intro X
  induction X with
  | nil => intro _; rfl
  | cons y r ih =>
    intro hi
    have hy : y ≠ i := fun e => hi (by simp [e])
    simp only [hold]
    rw [show upL L i y = L y from if_neg hy, show upV v i x y = v y from if_neg hy, ih (fun h => hi (by simp [h]))]

/-- The invariant. -/
def OwnJ (w0 : World) (S0 : Nat → Prop) (B : Nat) (vI : Value) (lI : List Nat) (X : List Nat) (C : Nat → List Nat) (G : Nat → Value → World → Prop) (L : Nat → Bool) (v : Nat → Value) (w : World) : Prop :=
  ∃ S : Nat → Prop, (∀ k, S k → k < w.heap.size) ∧ (∀ k, S k → S0 k ∨ w0.heap.size ≤ k) ∧ Kept S w0 w ∧ Closed L X ∧ (∀ j, L j = true → ∀ w', Kept S w w' → G j (v j) w') ∧
    Row w B (hold L v C vI lI X).1 (hold L v C vI lI X).2 ∧ (∀ g, (hold L v C vI lI X).1.ownBlock = some g → S g)

/-- What is asked of an operation that leaves the row alone. -/
theorem StepJ.other {os : List Oper} {P : Program} {D : List (Option Tmp)} {w0 : World} {S0 : Nat → Prop} {B : Nat} {vI : Value} {lI X : List Nat} {C : Nat → List Nat} {G : Nat → Value → World → Prop} {a0 : Act} {i : Nat} {o : Oper} (hi : i ∉ X)
    (h : ∀ (S : Nat → Prop) (a : Act) (w : World), (∀ k, S k → k < w.heap.size) → (∀ w', Kept S w w' → Kept S0 w0 w') → (∀ t, some t ∉ D → a.eval (.tmp t) = a0.eval (.tmp t)) → (∀ t, late os t i = true → a.eval (.tmp t) = a0.eval (.tmp t)) →
      Deps D (fun j x w => ∀ w', Kept S w w' → G j x w') a w o.after.toList → (∀ x, X.head? = some x → ∀ e ∈ o.after.toList, e.on = x → Region.binds .any e = true → ∀ d, D.getD x none = some d → Row w B (a.eval (.tmp d)) (C x)) →
      (goes D o a = true → Yields P a.eval o w (fun x w' => (∀ w'', Kept S w' w'' → G i x w'') ∧ Kept (fun _ => False) w w')) ∧ (goes D o a = false → ∀ w', Kept S w w' → G i undef w')) :
    StepJ os P D (OwnJ w0 S0 B vI lI X C G) a0 i o := by
  intro L v a w ⟨S, hlt, h0, hk, hcl, hg, hrow, hown⟩ hli hedges hout hhere hlate
  have hR : ∀ w', Kept S w w' → Kept S0 w0 w' := fun w' k => (hk.trans k (fun _ _ x => x)).mono (fun b hb hS => by
    rcases h0 b hS with h | h
    · exact h
    · omega)
  have hdeps : Deps D (fun j x w => ∀ w', Kept S w w' → G j x w') a w o.after.toList := Deps.mk fun e he hb d hd => by
    have hL := hedges e he hb
    have hDe : D[e.on]? = some (some d) := by
      cases hx : D[e.on]? with
      | none => simp [List.getD, hx] at hd
      | some y => simp [List.getD, hx] at hd; rw [hd]
    rw [hhere e.on d hL hDe]
    exact hg e.on hL
  have hr : ∀ x, X.head? = some x → ∀ e ∈ o.after.toList, e.on = x → Region.binds .any e = true → ∀ d, D.getD x none = some d → Row w B (a.eval (.tmp d)) (C x) := by
    intro x hx e he hex hb d hd
    subst hex
    have hL := hedges e he hb
    have hDe : D[e.on]? = some (some d) := by
      cases hx : D[e.on]? with
      | none => simp [List.getD, hx] at hd
      | some y => simp [List.getD, hx] at hd; rw [hd]
    rw [hhere e.on d hL hDe]
    cases X with
    | nil => cases hx
    | cons y r =>
      simp at hx
      subst hx
      simpa [hold, hL] using hrow
  obtain ⟨s1, s2⟩ := h S a w hlt hR hout hlate hdeps hr
  have fin : ∀ (x : Value) (w' : World), (∀ w'', Kept S w' w'' → G i x w'') → Kept (fun _ => False) w w' → OwnJ w0 S0 B vI lI X C G (upL L i) (upV v i x) w' := by
    intro x w' hG hkk
    refine ⟨S, fun k hS => Nat.lt_of_lt_of_le (hlt k hS) hkk.size, h0, hk.trans hkk (fun _ _ f => f.elim), hcl.up_other hi, fun j hj w'' k => ?_, ?_, ?_⟩
    · by_cases hji : j = i
      · subst hji; rw [show upV v j x j = x from if_pos rfl]; exact hG w'' k
      · rw [show upL L i j = L j from if_neg hji] at hj
        rw [show upV v i x j = v j from if_neg hji]
        exact hg j hj w'' ((hkk.mono (S' := S) (fun _ _ f => f.elim)).trans k (fun _ _ f => f))
    · rw [hold_up_other hi]; exact hrow.all hkk
    · rw [hold_up_other hi]; exact hown
  refine ⟨fun hgo => ?_, fun hgo => fin undef w (s2 hgo) (Kept.refl _ _)⟩
  have := s1 hgo
  revert this
  unfold Yields
  generalize (execOp a.eval o).run P w = r
  intro hh
  cases r with
  | ok n w' =>
    cases n <;> simp only at hh ⊢ <;> first
      | exact fin _ _ hh.1 hh.2
      | exact hh.elim
      | exact Calls.mono hh (fun e w'' ⟨y, he, hk⟩ => ⟨y, he, fin _ _ hk.1 hk.2⟩)
  | halt x w' => exact hh.elim

/-- Who held the row: the first of these, or whoever came with it. -/
def Prev (D : List (Option Tmp)) (C : Nat → List Nat) (vI : Value) (lI : List Nat) (a : Act) (p : Value) (lp : List Nat) : List Nat → Prop
  | [] => p = vI ∧ lp = lI
  | x :: _ => lp = C x ∧ ∀ d, D.getD x none = some d → p = a.eval (.tmp d)

/-- What is asked of an operation that takes the row on: p is who held it. -/
theorem StepJ.own {os : List Oper} {P : Program} {D : List (Option Tmp)} {w0 : World} {S0 : Nat → Prop} {B : Nat} {vI : Value} {lI X : List Nat} {C : Nat → List Nat} {G : Nat → Value → World → Prop} {a0 : Act} {i : Nat} {o : Oper} (ys r : List Nat) (hX : X = ys ++ i :: r) (hnd : i ∉ ys ∧ i ∉ r)
    (hr : ∀ x, r.head? = some x → ∃ e ∈ o.after.toList, e.on = x ∧ Region.binds .any e = true ∧ ∃ d, D.getD x none = some d) (hG : ∀ x w, G i x w)
    (h : ∀ (S : Nat → Prop) (a : Act) (w : World), (∀ k, S k → k < w.heap.size) → (∀ w', Kept S w w' → Kept S0 w0 w') → (∀ t, some t ∉ D → a.eval (.tmp t) = a0.eval (.tmp t)) → (∀ t, late os t i = true → a.eval (.tmp t) = a0.eval (.tmp t)) →
      Deps D (fun j x w => ∀ w', Kept S w w' → G j x w') a w o.after.toList → ∀ (p : Value) (lp : List Nat), Row w B p lp →
      Prev D C vI lI a p lp r →
      goes D o a = true ∧ Yields P a.eval o w (fun x w' => Row w' B x (C i) ∧ Kept (fun k => p.ownBlock = some k) w w' ∧ (x.ownBlock = p.ownBlock ∨ ∀ g, x.ownBlock = some g → w.heap.size ≤ g))) :
    StepJ os P D (OwnJ w0 S0 B vI lI X C G) a0 i o := by
  intro L v a w ⟨S, hlt, h0, hk, hcl, hg, hrow, hown⟩ hli hedges hout hhere hlate
  subst hX
  have hlater := hcl.later hli
  have hhold : hold L v C vI lI (ys ++ i :: r) = hold L v C vI lI r := by
    rw [hold_later hlater]
    show (if L i = true then (v i, C i) else hold L v C vI lI r) = hold L v C vI lI r
    rw [if_neg (by rw [hli]; decide)]
  rw [hhold] at hrow hown
  have hR : ∀ w', Kept S w w' → Kept S0 w0 w' := fun w' k => (hk.trans k (fun _ _ x => x)).mono (fun b hb hS => by
    rcases h0 b hS with h | h
    · exact h
    · omega)
  have hat : ∀ (j : Nat) (d : Tmp), D.getD j none = some d → D[j]? = some (some d) := by
    intro j d hd
    cases hx : D[j]? with
    | none => simp [List.getD, hx] at hd
    | some y => simp [List.getD, hx] at hd; rw [hd]
  have hdeps : Deps D (fun j x w => ∀ w', Kept S w w' → G j x w') a w o.after.toList := Deps.mk fun e he hb d hd => by
    have hL := hedges e he hb
    rw [hhere e.on d hL (hat e.on d hd)]
    exact hg e.on hL
  have hlx : ∀ x, r.head? = some x → L x = true := by
    intro x hx
    obtain ⟨e, he, rfl, hb, _⟩ := hr x hx
    exact hedges e he hb
  have hp : Prev D C vI lI a (hold L v C vI lI r).1 (hold L v C vI lI r).2 r := by
    clear hhold hrow hown hcl h
    cases r with
    | nil => exact ⟨rfl, rfl⟩
    | cons x r' =>
      have hL := hlx x rfl
      have e1 : hold L v C vI lI (x :: r') = (v x, C x) := by
        show (if L x = true then (v x, C x) else hold L v C vI lI r') = _
        rw [if_pos hL]
      refine ⟨by rw [e1], fun d hd => ?_⟩
      rw [e1, hhere x d hL (hat x d hd)]
  obtain ⟨hgo, hy⟩ := h S a w hlt hR hout hlate hdeps _ _ hrow hp
  generalize (hold L v C vI lI r).1 = p at *
  have fin : ∀ (x : Value) (w' : World), Row w' B x (C i) → Kept (fun k => p.ownBlock = some k) w w' → (x.ownBlock = p.ownBlock ∨ ∀ g, x.ownBlock = some g → w.heap.size ≤ g) → OwnJ w0 S0 B vI lI (ys ++ i :: r) C G (upL L i) (upV v i x) w' := by
    intro x w' hrx hkk hwh
    have hkS : Kept S w w' := hkk.mono (fun k _ e => hown k e)
    refine ⟨fun k => S k ∨ x.ownBlock = some k, ?_, ?_, ?_, ?_, ?_, ?_, ?_⟩
    · rintro k (hS | hx)
      · exact Nat.lt_of_lt_of_le (hlt k hS) hkk.size
      · exact (hrx.lt k hx).2
    · rintro k (hS | hx)
      · exact h0 k hS
      · rcases hwh with e | e
        · exact h0 k (hown k (by rw [← e]; exact hx))
        · exact .inr (Nat.le_trans hk.size (e k hx))
    · exact (hk.trans hkS (fun _ _ x => x)).mono (fun _ _ x => .inl x)
    · refine hcl.up fun ys' x' r' e => ?_
      -- the two ways to part the list are one
      have key : ∀ (zs ys' : List Nat) (x' : Nat) (r r' : List Nat), i ∉ zs → i ∉ ys' → zs ++ i :: r = ys' ++ i :: x' :: r' → r = x' :: r' := by
        intro zs
        induction zs with
        | nil =>
          intro ys' x' r r' _ hy e
          cases ys' with
          | nil => simpa using e
          | cons z zs => simp at e; exact absurd e.1 (fun h => hy (by simp [h]))
        | cons z zs ih =>
          intro ys' x' r r' hz hy e
          cases ys' with
          | nil => simp at e; exact absurd e.1.symm (fun h => hz (by simp [h]))
          | cons y ys'' => simp at e; exact ih ys'' x' r r' (fun h => hz (by simp [h])) (fun h => hy (by simp [h])) e.2
      have hin : i ∉ ys' := by
        intro hm
        have hc : (ys ++ i :: r).count i = 1 := by rw [List.count_append, List.count_eq_zero_of_not_mem hnd.1, List.count_cons_self, List.count_eq_zero_of_not_mem hnd.2]
        rw [e, List.count_append, List.count_cons_self] at hc
        have := List.count_pos_iff.2 hm
        omega
      have := key ys ys' x' r r' hnd.1 hin e
      subst this
      exact hlx x' rfl
    · intro j hj w'' k
      by_cases hji : j = i
      · subst hji; exact hG _ _
      · rw [show upL L i j = L j from if_neg hji] at hj
        rw [show upV v i x j = v j from if_neg hji]
        refine hg j hj w'' (hkS.trans k fun b hb hS => ?_)
        rcases hS with hS | hx
        · exact hS
        · rcases hwh with e | e
          · exact hown b (by rw [← e]; exact hx)
          · have := e b hx; omega
    · have e : hold (upL L i) (upV v i x) C vI lI (ys ++ i :: r) = (x, C i) := by
        rw [hold_later (fun y hym => by rw [show upL L i y = L y from if_neg (fun h : y = i => hnd.1 (by rw [← h]; exact hym))]; exact hlater y hym)]
        show (if upL L i i = true then (upV v i x i, C i) else _) = _
        rw [if_pos (show upL L i i = true from if_pos rfl), show upV v i x i = x from if_pos rfl]
      rw [e]; exact hrx
    · have e : hold (upL L i) (upV v i x) C vI lI (ys ++ i :: r) = (x, C i) := by
        rw [hold_later (fun y hym => by rw [show upL L i y = L y from if_neg (fun h : y = i => hnd.1 (by rw [← h]; exact hym))]; exact hlater y hym)]
        show (if upL L i i = true then (upV v i x i, C i) else _) = _
        rw [if_pos (show upL L i i = true from if_pos rfl), show upV v i x i = x from if_pos rfl]
      rw [e]
      intro g hgx
      exact .inr hgx
  refine ⟨fun _ => ?_, fun hno => ?_⟩
  · revert hy
    unfold Yields
    generalize (execOp a.eval o).run P w = res
    intro hh
    cases res with
    | ok n w' =>
      cases n <;> simp only at hh ⊢ <;> first
        | exact fin _ _ hh.1 hh.2.1 hh.2.2
        | exact hh.elim
        | exact Calls.mono hh (fun e w'' ⟨y, he, hk⟩ => ⟨y, he, fin _ _ hk.1 hk.2.1 hk.2.2⟩)
    | halt x w' => exact hh.elim
  · rw [hgo] at hno; cases hno


section
variable {os : List Oper} {P : Program} {D : List (Option Tmp)} {w0 : World} {S0 : Nat → Prop} {B : Nat} {vI : Value} {lI X : List Nat} {C : Nat → List Nat} {Gs : List Pd} {a0 : Act} {i : Nat} {o : Oper}

theorem StepJ.one (hi : i ∉ X) (hg : o.guard = none)
    (h : ∀ (S : Nat → Prop) (a : Act) (w : World), (∀ k, S k → k < w.heap.size) → (∀ w', Kept S w w' → Kept S0 w0 w') → (∀ t, some t ∉ D → a.eval (.tmp t) = a0.eval (.tmp t)) → (∀ t, late os t i = true → a.eval (.tmp t) = a0.eval (.tmp t)) →
      Deps D (fun j x w => ∀ w', Kept S w w' → Said Gs j x w') a w o.after.toList → (∀ x, X.head? = some x → ∀ e ∈ o.after.toList, e.on = x → Region.binds .any e = true → ∀ d, D.getD x none = some d → Row w B (a.eval (.tmp d)) (C x)) →
      Yields P a.eval o w (fun x w' => (∀ w'', Kept S w' w'' → Said Gs i x w'') ∧ Kept (fun _ => False) w w')) :
    StepJ os P D (OwnJ w0 S0 B vI lI X C (Said Gs)) a0 i o :=
  StepJ.other hi fun S a w hlt hR hout hlate hD hrow => ⟨fun _ => h S a w hlt hR hout hlate hD hrow, fun hno => by unfold goes at hno; rw [hg] at hno; cases hno⟩

theorem goes_of {a : Act} {j : Nat} {want : Bool} {d : Tmp} (hg : o.guard = some (j, want)) (hd : D.getD j none = some d) (h : a.eval (.tmp d) = .bool want) : goes D o a = true := by
  unfold goes
  rw [hg]
  simp only [hd, h]
  simp

theorem StepJ.when (hi : i ∉ X) (j : Nat) (want : Bool) (d : Tmp) (hg : o.guard = some (j, want)) (hd : D.getD j none = some d)
    (h : ∀ (S : Nat → Prop) (a : Act) (w : World), (∀ k, S k → k < w.heap.size) → (∀ w', Kept S w w' → Kept S0 w0 w') → (∀ t, some t ∉ D → a.eval (.tmp t) = a0.eval (.tmp t)) → (∀ t, late os t i = true → a.eval (.tmp t) = a0.eval (.tmp t)) →
      Deps D (fun j x w => ∀ w', Kept S w w' → Said Gs j x w') a w o.after.toList → (∀ x, X.head? = some x → ∀ e ∈ o.after.toList, e.on = x → Region.binds .any e = true → ∀ d, D.getD x none = some d → Row w B (a.eval (.tmp d)) (C x)) →
      a.eval (.tmp d) = .bool want ∧ Yields P a.eval o w (fun x w' => (∀ w'', Kept S w' w'' → Said Gs i x w'') ∧ Kept (fun _ => False) w w')) :
    StepJ os P D (OwnJ w0 S0 B vI lI X C (Said Gs)) a0 i o :=
  StepJ.other hi fun S a w hlt hR hout hlate hD hrow => by
    obtain ⟨h1, h2⟩ := h S a w hlt hR hout hlate hD hrow
    exact ⟨fun _ => h2, fun hno => by rw [goes_of hg hd h1] at hno; cases hno⟩

end

end Go.Proofs.Ythhagejcgobfgaa
namespace Go.Proofs.Ythhagejcgobfgaa
open Go.RowKit

/-- Bytes up to some place. -/
theorem BytesArg.upto {w : World} {v : Value} {l : List Nat} (h : BytesArg w v l) (j : Nat) (hj : j ≤ l.length) (k : IntKind) :
    ∃ v', (Instr.sliceAt 38 v none (some (.int k (j : Int))) none).run Try.prog w = .ok v' w ∧ BytesArg w v' (l.take j) := by
  obtain ⟨a, cap, rfl, h1, h2, h3, h256, hc⟩ := h
  have hb : ¬ cap < j := by omega
  have hb0 : BytesArg w (.slice a l.length cap) l := ⟨a, cap, rfl, h1, h2, h3, h256, hc⟩
  obtain ⟨i0, hi, hz0, hz1, hz2⟩ := info_parts Try.info_u8
  refine ⟨.slice a j cap, ?_, ?_⟩
  · cases a with
    | none => simp [Instr.sliceAt, Instr.slice, Instr.sliceBounds, Instr.sliceBound, asIntOf, run_underlying Try.underlying38, sizeOf, typeInfo, hi, hb]
    | some ad => simp [Instr.sliceAt, Instr.slice, Instr.sliceBounds, Instr.sliceBound, asIntOf, run_underlying Try.underlying38, sizeOf, typeInfo, hi, hb, Addr.add]
  · have := hb0.cut 0 j cap (Nat.zero_le _) hj (by omega) h2 a (fun _ => by cases a with | none => rfl | some ad => simp [Addr.add]) h3
    simpa using this

end Go.Proofs.Ythhagejcgobfgaa
namespace Go.Proofs.Ythhagejcgobfgaa
open Go.RowKit

def Owb (w : World) (T : Nat → Prop) (v : Value) (l : List Nat) : Prop := Row w 0 v l ∧ ∀ i, T i ↔ v.ownBlock = some i
theorem Owb.nil (w : World) : Owb w noB (.slice none 0 0) [] := ⟨Row.nil w 0, fun i => ⟨fun h => h.elim, fun h => by cases h⟩⟩
theorem Owb.live {w : World} {T : Nat → Prop} {v : Value} {l : List Nat} (h : Owb w T v l) : Live w T := fun i hi => (h.1.lt i ((h.2 i).1 hi)).2
theorem Owb.byt {w : World} {T : Nat → Prop} {v : Value} {l : List Nat} (h : Owb w T v l) : Byt w T v l := ⟨h.1.bytes, h.live, fun _ a n c e => (h.2 a.block).2 (by rw [e]; rfl)⟩
theorem Owb.all {S : Nat → Prop} {w w' : World} {T : Nat → Prop} {v : Value} {l : List Nat} (h : Owb w T v l) (k : Kept S w w') (ha : Apart T S) : Owb w' T v l := ⟨h.1.kept k (fun g hg => ha g ((h.2 g).2 hg)), h.2⟩
theorem Owb.one {w : World} {T : Nat → Prop} {v : Value} {l : List Nat} (h : Owb w T v l) : v.oneCell' = true := h.byt.one
theorem Owb.oneC {w : World} {T : Nat → Prop} {v : Value} {l : List Nat} (h : Owb w T v l) : oneC v = true := h.byt.oneC
theorem Owb.cells {w : World} {T : Nat → Prop} {v : Value} {l : List Nat} (h : Owb w T v l) : Cells w T := fun i hi => by
  have hv := (h.2 i).1 hi
  rcases h.1.1.2 with ⟨rfl, _⟩ | ⟨g, cap, cur, rfl, _, hg, _⟩
  · cases hv
  · cases hv; exact ⟨_, hg, rfl⟩
theorem Owb.row {A B : World} {row : Option Nat} {n : Nat} {T : Nat → Prop} {v : Value} {l : List Nat} (h : Owb A T v l) (hg : A.grownBy B row) (hr : RowNew n A row) : Owb B T v l := h.all (kept_row hg) (h.cells.apart hr)
theorem Owb.lt256 {w : World} {T : Nat → Prop} {v : Value} {l : List Nat} (h : Owb w T v l) : ∀ x ∈ l, x < 256 := h.1.2
theorem Owb.of {w : World} {v : Value} {l : List Nat} (h : Row w 0 v l) : Owb w (fun i => v.ownBlock = some i) v l := ⟨h, fun _ => Iff.rfl⟩
theorem Byt.lt256 {w : World} {T : Nat → Prop} {v : Value} {l : List Nat} (h : Byt w T v l) : ∀ x ∈ l, x < 256 := h.1.lt256

def bytAddr (v : Value) (j : Nat) : Value := match v with
  | .slice (some a) _ _ => .pointer (some (a.add j))
  | _ => undef
section
variable {ρ : Operand → Value} {o : Oper} {w : World} {R : Value → World → Prop}
theorem Byt.at_ {w : World} {T : Nat → Prop} {v : Value} {l : List Nat} {j : Nat} (hb : Byt w T v l) (hj : j < l.length) : ∃ a, bytAddr v j = .pointer (some a) ∧ w.cell? a = some (.int .u8 (l.getD j 0 : Nat)) := by
  obtain ⟨⟨a, cap, rfl, _, _, _, _, hc⟩, _⟩ := hb
  obtain ⟨b, off, rfl, _, hcell⟩ := hc (by omega)
  exact ⟨⟨b, off + j, none⟩, by rw [bytAddr, Addr.add_lit], hcell j hj⟩
end

end Go.Proofs.Ythhagejcgobfgaa
namespace Go.Proofs.Ythhagejcgobfgaa
open Go.RowKit

def Arr (w : World) (p : Nat) (t : TypeId) (n : Nat) (b : Nat → Int) : Prop := w.heap[p]? = some (.cells (arrL n b).toArray t (0, 0))
def ArrT (t : TypeId) (n : Nat) : Prop := Try.prog.underlying t = some (.array n 3) ∧ (Try.prog.info? t).map (·.size) = some n ∧ ∀ w, (zeroValue t).run Try.prog w = .ok (.agg (arrL n (fun _ => 0)).toArray) w
theorem ArrT.of {t : TypeId} {n : Nat} (hu : Try.prog.underlying t = some (.array n 3)) (hi : (Try.prog.info? t).map (fun i => (i.zero, i.size)) = some (some (.agg (Array.replicate n (.int .i64 0))), n)) : ArrT t n :=
  ⟨hu, (zero_of_info hi).2, by rw [arrL_zero]; exact (zero_of_info hi).1⟩
theorem ArrT.size {t : TypeId} {n : Nat} (h : ArrT t n) (b : Nat → Int) : (Try.prog.info? t).map (·.size) = some (arrL n b).toArray.size := by rw [List.size_toArray, arrL_length]; exact h.2.1

section
variable {w w' : World} {p n : Nat} {t : TypeId} {b c : Nat → Int}
theorem Arr.all {S : Nat → Prop} (h : Arr w p t n b) (k : Kept S w w') (hn : ¬ S p) : Arr w' p t n b := k.at h hn
theorem Arr.congr (h : Arr w p t n b) (e : ∀ i, i < n → b i = c i) : Arr w p t n c := by unfold Arr at *; rw [← arrL_congr e]; exact h
theorem Arr.cell (h : Arr w p t n b) {i : Nat} (hi : i < n) : w.cell? ⟨p, i, none⟩ = some (.int .i64 (b i)) := by
  rw [cell_of_heap h, List.getElem?_toArray]; exact arrL_at hi
theorem Arr.lt (h : Arr w p t n b) : p < w.heap.size := lt_of_heap h
theorem Arr.set (h : Arr w p t n b) (k : Nat) (x : Int) : Arr (w.setCell ⟨p, k, none⟩ (.int .i64 x)) p t n (upd b k x) := by
  unfold Arr; rw [heap_setCell_same _ _ _ _ h, arrL_set]
theorem Arr.new (w : World) (t : TypeId) (n : Nat) (b : Nat → Int) : Arr (w.alloc (.cells (arrL n b).toArray t)) w.heap.size t n b := heap_alloc_new w _
end



section
variable {ro : Option Nat} {P : Program} {ρ : Operand → Value} {o : Oper} {w : World} {R : Value → World → Prop}
theorem y_buildL {t : TypeId} {l : List (Nat × Operand)} {l' : List (Nat × Value)} {cells : Array Value} {v : Value} (ho : o.op = .build t l.toArray) (hl : l.map (fun p => (p.1, ρ p.2)) = l') (hc : P.built t l' = some cells) (hv : .agg cells = v) (h : R v w) : Yields P ρ o w R := by
  subst hl
  exact y_buildR ho (by rw [← hc]; congr 1; simp) hv h
theorem bpN : ([] : List (Nat × Operand)).map (fun p => (p.1, ρ p.2)) = [] := rfl
theorem bpC {i : Nat} {x : Operand} {v : Value} {xs : List (Nat × Operand)} {vs : List (Nat × Value)} (h : ρ x = v) (h2 : xs.map (fun p => (p.1, ρ p.2)) = vs) : ((i, x) :: xs).map (fun p => (p.1, ρ p.2)) = (i, v) :: vs := by simp [h, ← h2]
end
end Go.Proofs.Ythhagejcgobfgaa
namespace Go.Proofs.Ythhagejcgobfgaa
open Go.RowKit

/-- The first k places told anew. -/
def upto (k : Nat) (b c : Nat → Int) : Nat → Int := fun i => if i < k then c i else b i
theorem upto_zero (b c : Nat → Int) : upto 0 b c = b := by funext i; simp [upto]
theorem upto_set (k : Nat) (b c : Nat → Int) : upd (upto k b c) k (c k) = upto (k + 1) b c := by
  funext i
  unfold upd upto
  by_cases h : i = k
  · subst h; simp
  · rw [if_neg h]
    by_cases h2 : i < k
    · rw [if_pos h2, if_pos (by omega)]
    · rw [if_neg h2, if_neg (by omega)]
theorem Blk.first {w : World} {p : Nat} {t : TypeId} {b c : Nat → Int} (h : Blk w p t b) : Blk w p t (upto 0 b c) := by rw [upto_zero]; exact h
theorem Blk.next {w : World} {p : Nat} {t : TypeId} {b c : Nat → Int} {k : Nat} {x : Int} (h : Blk w p t (upd (upto k b c) k x)) (e : x = c k) : Blk w p t (upto (k + 1) b c) := by rw [← upto_set, ← e]; exact h
end Go.Proofs.Ythhagejcgobfgaa
namespace Go.Proofs.Ythhagejcgobfgaa
open Go.RowKit
/-- A frame that can be read. -/
def FrmV (w : World) (v : Value) (f : FD) : Prop := ∃ (a b c : Value) (Ta Tb Tc : Nat → Prop), v = .agg #[.int .i64 f.W, .int .i64 f.H, a, b, c] ∧ Owb w Ta a f.p0 ∧ Owb w Tb b f.p1 ∧ Owb w Tc c f.p2
theorem FrmV.all {w w' : World} {v : Value} {f : FD} (h : FrmV w v f) (k : Kept (fun _ => False) w w') : FrmV w' v f := by
  obtain ⟨a, b, c, Ta, Tb, Tc, e, h1, h2, h3⟩ := h
  exact ⟨a, b, c, Ta, Tb, Tc, e, h1.all k Apart.none, h2.all k Apart.none, h3.all k Apart.none⟩
theorem Stc.apart {w : World} {p : Nat} {t : TypeId} {vs : List Value} {T : Nat → Prop} {v : Value} {l : List Nat} (h : Stc w p t vs) (ho : Owb w T v l) (ht : t ≠ 5) : Apart (onB p) T := fun i hi hT => by
  cases hi
  have hv := (ho.2 _).1 hT
  rcases ho.1.1.2 with ⟨rfl, _⟩ | ⟨g, cap, cur, rfl, _, hg, _⟩
  · cases hv
  · cases hv
    have h' := h
    unfold Stc at h'
    rw [h'] at hg
    cases hg; exact ht rfl
end Go.Proofs.Ythhagejcgobfgaa
namespace Go.Proofs.Ythhagejcgobfgaa
open Go.RowKit

/-- A part of a slice of bytes: from l, up to h, its room up to m. -/
def subV (v : Value) (l h m : Nat) : Value := match v with
  | .slice a _ _ => .slice (if m = l then a else a.map (·.add l)) (h - l) (m - l)
  | _ => undef
def capV : Value → Nat
  | .slice _ _ c => c
  | _ => 0
theorem Byt.cap {w : World} {T : Nat → Prop} {v : Value} {l : List Nat} (h : Byt w T v l) : l.length ≤ capV v ∧ capV v ≤ maxLen := by
  obtain ⟨⟨a, cap, rfl, h1, h2, _⟩, _⟩ := h; exact ⟨h1, h2⟩
theorem Byt.sub {w : World} {T : Nat → Prop} {v : Value} {l : List Nat} (hb : Byt w T v l) {i j m : Nat} (h1 : i ≤ j) (h2 : j ≤ m) (h3 : j ≤ l.length) (h4 : m ≤ capV v) : Byt w T (subV v i j m) ((l.drop i).take (j - i)) := by
  have hc := hb.cap
  obtain ⟨hB, hL, hT⟩ := hb
  obtain ⟨a, cap, rfl, k1, k2, k3, k4, k5⟩ := hB
  have hB : BytesArg w (.slice a l.length cap) l := ⟨a, cap, rfl, k1, k2, k3, k4, k5⟩
  have hm : m ≤ cap := h4
  refine ⟨hB.cut i j (m - i) h1 h3 (by omega) (by omega) (if m = i then a else a.map (fun z : Addr => z.add i)) (fun hp => by rw [if_neg (by omega)]) (fun h0 => ?_), hL, fun hp a' n c e => ?_⟩
  · split at h0
    · omega
    · have : a = none := by cases a <;> simp_all
      have := k3 this; omega
  · have hlen : 0 < j - i := by
      have : ((l.drop i).take (j - i)).length = j - i := by simp; omega
      omega
    simp only [subV] at e
    rw [if_neg (by omega)] at e
    cases a with
    | none => simp at e
    | some a0 =>
      simp at e
      obtain ⟨e1, _, _⟩ := e
      have hblk : a'.block = a0.block := by rw [← e1]; unfold Addr.add; split <;> rfl
      rw [hblk]
      exact hT (by omega) a0 _ _ rfl
section
variable {ro : Option Nat} {N : Nat} {Q : (Exit → (Nat → Value) → World → Prop)} {F : Nat → Value} {w : World} {o : Oper}
end
end Go.Proofs.Ythhagejcgobfgaa
namespace Go.Proofs.Ythhagejcgobfgaa
open Go.RowKit



def arrV (p k : Nat) : Value := .slice (some (if 4 = k then ⟨p, 0, none⟩ else ⟨p, k, none⟩)) (4 - k) (4 - k)
theorem Stc.bytes {w : World} {p t : Nat} {a b c d : Nat} (h : Stc w p t [.int .u8 (a : Int), .int .u8 (b : Int), .int .u8 (c : Int), .int .u8 (d : Int)]) (ha : a < 256) (hb : b < 256) (hc : c < 256) (hd : d < 256) {k : Nat} (hk : k ≤ 4) : Byt w (onB p) (arrV p k) ([a, b, c, d].drop k) := by
  have hl : ([a, b, c, d].drop k).length = 4 - k := by simp
  refine ⟨⟨some (if 4 = k then ⟨p, 0, none⟩ else ⟨p, k, none⟩), 4 - k, by rw [hl]; rfl, by omega, Nat.le_trans (Nat.sub_le 4 k) (by decide), (fun e => by cases e), ?_, fun hp => ⟨p, k, by rw [if_neg (by omega)], h.lt, fun i hi => ?_⟩⟩, onB_live h.lt, fun _ a' n c' e => ?_⟩
  · intro x hx
    have := List.mem_of_mem_drop hx
    simp at this
    omega
  · rw [hl] at hi
    have hc := h.cell (i := k + i) (v := .int .u8 (([a, b, c, d].drop k).getD i 0 : Nat)) (by
      have : k = 0 ∨ k = 1 ∨ k = 2 ∨ k = 3 := by omega
      have hi4 : i = 0 ∨ i = 1 ∨ i = 2 ∨ i = 3 := by omega
      rcases this with rfl | rfl | rfl | rfl <;> rcases hi4 with rfl | rfl | rfl | rfl <;> first | rfl | omega)
    exact hc
  · unfold arrV at e
    simp only [Value.slice.injEq, Option.some.injEq] at e
    rw [← e.1]
    split <;> rfl

end Go.Proofs.Ythhagejcgobfgaa
namespace Go.Proofs.Ythhagejcgobfgaa
open Go.RowKit

/-- A function that is asked with a number below n, in whatever world in which nothing that was there has changed. -/
def Ask1 (w : World) (n : Nat) (v : Value) (g : Nat → Int) : Prop :=
  ∃ (f : FuncId) (cs : List Value), v = .func (.func f) #[] cs.toArray ∧ (∀ args w, (callFunc f args).run Try.prog w = .ok (.enter f args) w) ∧
    ∀ w', Kept (fun _ => False) w w' → ∀ k : Nat, k < n → Calls Try.prog f (.int .i64 (k : Int) :: cs).toArray w' fun e w'' => e = .returned (.int .i64 (g k)) ∧ Kept (fun _ => False) w' w''
theorem Ask1.all {w w' : World} {n : Nat} {v : Value} {g : Nat → Int} (h : Ask1 w n v g) (k : Kept (fun _ => False) w w') : Ask1 w' n v g := by
  obtain ⟨f, cs, e, hf, h⟩ := h
  exact ⟨f, cs, e, hf, fun w2 k2 => h w2 (k.trans k2 (fun _ _ x => x))⟩
/-- .. with two. -/
def Ask2 (w : World) (n : Nat) (v : Value) (g : Nat → Nat → Int) : Prop :=
  ∃ (f : FuncId) (cs : List Value), v = .func (.func f) #[] cs.toArray ∧ (∀ args w, (callFunc f args).run Try.prog w = .ok (.enter f args) w) ∧
    ∀ w', Kept (fun _ => False) w w' → ∀ i k : Nat, i < n → k < n → Calls Try.prog f (.int .i64 (i : Int) :: .int .i64 (k : Int) :: cs).toArray w' fun e w'' => e = .returned (.int .i64 (g i k)) ∧ Kept (fun _ => False) w' w''
theorem Ask2.all {w w' : World} {n : Nat} {v : Value} {g : Nat → Nat → Int} (h : Ask2 w n v g) (k : Kept (fun _ => False) w w') : Ask2 w' n v g := by
  obtain ⟨f, cs, e, hf, h⟩ := h
  exact ⟨f, cs, e, hf, fun w2 k2 => h w2 (k.trans k2 (fun _ _ x => x))⟩
end Go.Proofs.Ythhagejcgobfgaa
namespace Go.Proofs.Ythhagejcgobfgaa
open Go.RowKit

theorem retB {a b : Bool} (h : a = b) : Ending.returned (.bool a) = .returned (.bool b) := by rw [h]
theorem Arr.first {w : World} {p n : Nat} {t : TypeId} {b c : Nat → Int} (h : Arr w p t n b) : Arr w p t n (upto 0 b c) := by rw [upto_zero]; exact h
theorem Arr.next {w : World} {p n : Nat} {t : TypeId} {b c : Nat → Int} {k : Nat} {x : Int} (h : Arr w p t n (upd (upto k b c) k x)) (e : x = c k) : Arr w p t n (upto (k + 1) b c) := by rw [← upto_set, ← e]; exact h
/-- Four functions, one a mode. -/
def Fns (w : World) (v : Value) (g : Nat → Nat → Nat → Int) : Prop := ∃ c : Nat → Value, v = .agg #[c 0, c 1, c 2, c 3] ∧ ∀ m, m < 4 → Ask2 w 4 (c m) (g m)
theorem Fns.all {w w' : World} {v : Value} {g : Nat → Nat → Nat → Int} (h : Fns w v g) (k : Kept (fun _ => False) w w') : Fns w' v g := by
  obtain ⟨c, e, h⟩ := h; exact ⟨c, e, fun m hm => (h m hm).all k⟩
end Go.Proofs.Ythhagejcgobfgaa
namespace Go.Proofs.Ythhagejcgobfgaa
open Go.RowKit
theorem stcT_vector : StcT Try.prog 33 2 := ⟨_, Try.underlying33, rfl, by kernel_rfl⟩
set_option maxHeartbeats 4000000 in
set_option maxRecDepth 100000 in
theorem mref_check (X Y : Int) (w0 : World) :
    Calls Try.prog 32 #[.agg #[.int .i64 (X), .int .i64 (Y)]] w0 fun e w' => e = .returned (.int .i64 (vecE X Y)) ∧ Kept (fun _ => False) w0 w' := by
  refine calls_wq (args := [.agg #[.int .i64 (X), .int .i64 (Y)]]) 21 Try.func32 rfl rfl (Nat.le_of_ble_eq_true rfl) ?_
  have K0 := Kept.refl (fun _ => False) w0
  refine wq_seq ?_
  refine wq_region ?_
  refine wl_box_stc (vs := [.int .i64 (X), .int .i64 (Y)]) rfl rfl rfl rfl fun p1 w2 B4 g5 k3 => ?_
  have gr6 : Grew w0 noB (onB p1) := Grew.new K0 g5
  have K7 := K0.trans k3 (fun _ _ x => x.elim)
  refine wl_v (.int .i64 (0)) rfl rfl (y_asg rfl rfl ⟨rfl, rfl⟩) ?_
  refine wl_nil fun F8 hF9 => ?_
  have s10 : F8 21 = undef := (hF9 21).trans rfl
  have s11 : F8 1 = .pointer (some ⟨p1, 0, none⟩) := (hF9 1).trans rfl
  clear hF9
  refine then_normal ?_
  refine wq_seq ?_
  refine wq_seq ?_
  by_cases d12 : (X) < (-31)
  · skip
    refine wq_region ?_
    refine wl_v (.pointer (some ⟨p1, 0, none⟩)) rfl rfl (y_fieldR (n := 1) rfl s11 Try.underlying33 rfl (by kernel_rfl) (by decide) rfl ⟨rfl, rfl⟩) ?_
    refine wl_v (.int .i64 (X)) rfl rfl (y_ld_stc rfl rfl Try.underlying3 B4 rfl rfl ⟨rfl, rfl⟩) ?_
    refine wl_v (.bool true) rfl rfl (y_lss rfl rfl rfl (decide_eq_true d12) ⟨rfl, rfl⟩) ?_
    refine wl_v (.bool true) rfl rfl (y_mov rfl rfl ⟨rfl, rfl⟩) ?_
    refine wl_unless 3 false 6 rfl rfl rfl (Or.inl rfl) rfl ?_
    refine wl_unless 3 false 6 rfl rfl rfl (Or.inl rfl) rfl ?_
    refine wl_unless 3 false 6 rfl rfl rfl (Or.inl rfl) rfl ?_
    refine wl_v (.bool true) rfl rfl (y_pickT rfl rfl rfl ⟨rfl, rfl⟩) ?_
    refine wl_v (.bool true) rfl rfl (y_mov rfl rfl ⟨rfl, rfl⟩) ?_
    refine wl_unless 8 false 11 rfl rfl rfl (Or.inl rfl) rfl ?_
    refine wl_unless 8 false 11 rfl rfl rfl (Or.inl rfl) rfl ?_
    refine wl_unless 8 false 11 rfl rfl rfl (Or.inl rfl) rfl ?_
    refine wl_v (.bool true) rfl rfl (y_pickT rfl rfl rfl ⟨rfl, rfl⟩) ?_
    refine wl_v (.bool true) rfl rfl (y_mov rfl rfl ⟨rfl, rfl⟩) ?_
    refine wl_unless 13 false 16 rfl rfl rfl (Or.inl rfl) rfl ?_
    refine wl_unless 13 false 16 rfl rfl rfl (Or.inl rfl) rfl ?_
    refine wl_unless 13 false 16 rfl rfl rfl (Or.inl rfl) rfl ?_
    refine wl_v (.bool true) rfl rfl (y_pickT rfl rfl rfl ⟨rfl, rfl⟩) ?_
    refine wl_nil fun F13 hF14 => ?_
    have s15 : F13 21 = undef := (hF14 21).trans s10
    have s16 : F13 20 = .bool true := (hF14 20).trans rfl
    clear hF14
    refine then_normal ?_
    refine wq_cond (t := true) s16 (fun _ => ?_) (fun e => by cases e)
    refine wq_seq ?_
    refine wq_region ?_
    refine wl_v (.int .i64 (90)) rfl rfl (y_asg rfl rfl ⟨rfl, rfl⟩) ?_
    refine wl_nil fun F17 hF18 => ?_
    have s19 : F17 21 = undef := (hF18 21).trans s15
    have s20 : F17 2 = .int .i64 (90) := (hF18 2).trans rfl
    clear hF18
    refine then_normal ?_
    refine wq_ret ?_
    refine then_ret ?_
    exact end_tmp (v := .int .i64 (90)) s19 rfl rfl s20 ⟨(by first | rw [vecE_yes (by unfold vecOk; omega)] | rw [vecE_no (by unfold vecOk; omega)]), K7⟩
  · skip
    by_cases d21 : (31) < (X)
    · skip
      refine wq_region ?_
      refine wl_v (.pointer (some ⟨p1, 0, none⟩)) rfl rfl (y_fieldR (n := 1) rfl s11 Try.underlying33 rfl (by kernel_rfl) (by decide) rfl ⟨rfl, rfl⟩) ?_
      refine wl_v (.int .i64 (X)) rfl rfl (y_ld_stc rfl rfl Try.underlying3 B4 rfl rfl ⟨rfl, rfl⟩) ?_
      refine wl_v (.bool false) rfl rfl (y_lss rfl rfl rfl (decide_eq_false d12) ⟨rfl, rfl⟩) ?_
      refine wl_v (.bool false) rfl rfl (y_mov rfl rfl ⟨rfl, rfl⟩) ?_
      refine wl_vw (.pointer (some ⟨p1, 0, none⟩)) 3 false 6 rfl rfl rfl rfl rfl (y_fieldR (n := 1) rfl s11 Try.underlying33 rfl (by kernel_rfl) (by decide) rfl ⟨rfl, rfl⟩) ?_
      refine wl_vw (.int .i64 (X)) 3 false 6 rfl rfl rfl rfl rfl (y_ld_stc rfl rfl Try.underlying3 B4 rfl rfl ⟨rfl, rfl⟩) ?_
      refine wl_vw (.bool true) 3 false 6 rfl rfl rfl rfl rfl (y_gtr rfl rfl rfl (decide_eq_true d21) ⟨rfl, rfl⟩) ?_
      refine wl_v (.bool true) rfl rfl (y_pickF rfl rfl rfl ⟨rfl, rfl⟩) ?_
      refine wl_v (.bool true) rfl rfl (y_mov rfl rfl ⟨rfl, rfl⟩) ?_
      refine wl_unless 8 false 11 rfl rfl rfl (Or.inl rfl) rfl ?_
      refine wl_unless 8 false 11 rfl rfl rfl (Or.inl rfl) rfl ?_
      refine wl_unless 8 false 11 rfl rfl rfl (Or.inl rfl) rfl ?_
      refine wl_v (.bool true) rfl rfl (y_pickT rfl rfl rfl ⟨rfl, rfl⟩) ?_
      refine wl_v (.bool true) rfl rfl (y_mov rfl rfl ⟨rfl, rfl⟩) ?_
      refine wl_unless 13 false 16 rfl rfl rfl (Or.inl rfl) rfl ?_
      refine wl_unless 13 false 16 rfl rfl rfl (Or.inl rfl) rfl ?_
      refine wl_unless 13 false 16 rfl rfl rfl (Or.inl rfl) rfl ?_
      refine wl_v (.bool true) rfl rfl (y_pickT rfl rfl rfl ⟨rfl, rfl⟩) ?_
      refine wl_nil fun F22 hF23 => ?_
      have s24 : F22 21 = undef := (hF23 21).trans s10
      have s25 : F22 20 = .bool true := (hF23 20).trans rfl
      clear hF23
      refine then_normal ?_
      refine wq_cond (t := true) s25 (fun _ => ?_) (fun e => by cases e)
      refine wq_seq ?_
      refine wq_region ?_
      refine wl_v (.int .i64 (90)) rfl rfl (y_asg rfl rfl ⟨rfl, rfl⟩) ?_
      refine wl_nil fun F26 hF27 => ?_
      have s28 : F26 21 = undef := (hF27 21).trans s24
      have s29 : F26 2 = .int .i64 (90) := (hF27 2).trans rfl
      clear hF27
      refine then_normal ?_
      refine wq_ret ?_
      refine then_ret ?_
      exact end_tmp (v := .int .i64 (90)) s28 rfl rfl s29 ⟨(by first | rw [vecE_yes (by unfold vecOk; omega)] | rw [vecE_no (by unfold vecOk; omega)]), K7⟩
    · skip
      by_cases d30 : (Y) < (-31)
      · skip
        refine wq_region ?_
        refine wl_v (.pointer (some ⟨p1, 0, none⟩)) rfl rfl (y_fieldR (n := 1) rfl s11 Try.underlying33 rfl (by kernel_rfl) (by decide) rfl ⟨rfl, rfl⟩) ?_
        refine wl_v (.int .i64 (X)) rfl rfl (y_ld_stc rfl rfl Try.underlying3 B4 rfl rfl ⟨rfl, rfl⟩) ?_
        refine wl_v (.bool false) rfl rfl (y_lss rfl rfl rfl (decide_eq_false d12) ⟨rfl, rfl⟩) ?_
        refine wl_v (.bool false) rfl rfl (y_mov rfl rfl ⟨rfl, rfl⟩) ?_
        refine wl_vw (.pointer (some ⟨p1, 0, none⟩)) 3 false 6 rfl rfl rfl rfl rfl (y_fieldR (n := 1) rfl s11 Try.underlying33 rfl (by kernel_rfl) (by decide) rfl ⟨rfl, rfl⟩) ?_
        refine wl_vw (.int .i64 (X)) 3 false 6 rfl rfl rfl rfl rfl (y_ld_stc rfl rfl Try.underlying3 B4 rfl rfl ⟨rfl, rfl⟩) ?_
        refine wl_vw (.bool false) 3 false 6 rfl rfl rfl rfl rfl (y_gtr rfl rfl rfl (decide_eq_false d21) ⟨rfl, rfl⟩) ?_
        refine wl_v (.bool false) rfl rfl (y_pickF rfl rfl rfl ⟨rfl, rfl⟩) ?_
        refine wl_v (.bool false) rfl rfl (y_mov rfl rfl ⟨rfl, rfl⟩) ?_
        refine wl_vw (.pointer (some ⟨p1, 1, none⟩)) 8 false 11 rfl rfl rfl rfl rfl (y_fieldR (n := 1) rfl s11 Try.underlying33 rfl (by kernel_rfl) (by decide) rfl ⟨rfl, rfl⟩) ?_
        refine wl_vw (.int .i64 (Y)) 8 false 11 rfl rfl rfl rfl rfl (y_ld_stc rfl rfl Try.underlying3 B4 rfl rfl ⟨rfl, rfl⟩) ?_
        refine wl_vw (.bool true) 8 false 11 rfl rfl rfl rfl rfl (y_lss rfl rfl rfl (decide_eq_true d30) ⟨rfl, rfl⟩) ?_
        refine wl_v (.bool true) rfl rfl (y_pickF rfl rfl rfl ⟨rfl, rfl⟩) ?_
        refine wl_v (.bool true) rfl rfl (y_mov rfl rfl ⟨rfl, rfl⟩) ?_
        refine wl_unless 13 false 16 rfl rfl rfl (Or.inl rfl) rfl ?_
        refine wl_unless 13 false 16 rfl rfl rfl (Or.inl rfl) rfl ?_
        refine wl_unless 13 false 16 rfl rfl rfl (Or.inl rfl) rfl ?_
        refine wl_v (.bool true) rfl rfl (y_pickT rfl rfl rfl ⟨rfl, rfl⟩) ?_
        refine wl_nil fun F31 hF32 => ?_
        have s33 : F31 21 = undef := (hF32 21).trans s10
        have s34 : F31 20 = .bool true := (hF32 20).trans rfl
        clear hF32
        refine then_normal ?_
        refine wq_cond (t := true) s34 (fun _ => ?_) (fun e => by cases e)
        refine wq_seq ?_
        refine wq_region ?_
        refine wl_v (.int .i64 (90)) rfl rfl (y_asg rfl rfl ⟨rfl, rfl⟩) ?_
        refine wl_nil fun F35 hF36 => ?_
        have s37 : F35 21 = undef := (hF36 21).trans s33
        have s38 : F35 2 = .int .i64 (90) := (hF36 2).trans rfl
        clear hF36
        refine then_normal ?_
        refine wq_ret ?_
        refine then_ret ?_
        exact end_tmp (v := .int .i64 (90)) s37 rfl rfl s38 ⟨(by first | rw [vecE_yes (by unfold vecOk; omega)] | rw [vecE_no (by unfold vecOk; omega)]), K7⟩
      · skip
        refine wq_region ?_
        refine wl_v (.pointer (some ⟨p1, 0, none⟩)) rfl rfl (y_fieldR (n := 1) rfl s11 Try.underlying33 rfl (by kernel_rfl) (by decide) rfl ⟨rfl, rfl⟩) ?_
        refine wl_v (.int .i64 (X)) rfl rfl (y_ld_stc rfl rfl Try.underlying3 B4 rfl rfl ⟨rfl, rfl⟩) ?_
        refine wl_v (.bool false) rfl rfl (y_lss rfl rfl rfl (decide_eq_false d12) ⟨rfl, rfl⟩) ?_
        refine wl_v (.bool false) rfl rfl (y_mov rfl rfl ⟨rfl, rfl⟩) ?_
        refine wl_vw (.pointer (some ⟨p1, 0, none⟩)) 3 false 6 rfl rfl rfl rfl rfl (y_fieldR (n := 1) rfl s11 Try.underlying33 rfl (by kernel_rfl) (by decide) rfl ⟨rfl, rfl⟩) ?_
        refine wl_vw (.int .i64 (X)) 3 false 6 rfl rfl rfl rfl rfl (y_ld_stc rfl rfl Try.underlying3 B4 rfl rfl ⟨rfl, rfl⟩) ?_
        refine wl_vw (.bool false) 3 false 6 rfl rfl rfl rfl rfl (y_gtr rfl rfl rfl (decide_eq_false d21) ⟨rfl, rfl⟩) ?_
        refine wl_v (.bool false) rfl rfl (y_pickF rfl rfl rfl ⟨rfl, rfl⟩) ?_
        refine wl_v (.bool false) rfl rfl (y_mov rfl rfl ⟨rfl, rfl⟩) ?_
        refine wl_vw (.pointer (some ⟨p1, 1, none⟩)) 8 false 11 rfl rfl rfl rfl rfl (y_fieldR (n := 1) rfl s11 Try.underlying33 rfl (by kernel_rfl) (by decide) rfl ⟨rfl, rfl⟩) ?_
        refine wl_vw (.int .i64 (Y)) 8 false 11 rfl rfl rfl rfl rfl (y_ld_stc rfl rfl Try.underlying3 B4 rfl rfl ⟨rfl, rfl⟩) ?_
        refine wl_vw (.bool false) 8 false 11 rfl rfl rfl rfl rfl (y_lss rfl rfl rfl (decide_eq_false d30) ⟨rfl, rfl⟩) ?_
        refine wl_v (.bool false) rfl rfl (y_pickF rfl rfl rfl ⟨rfl, rfl⟩) ?_
        refine wl_v (.bool false) rfl rfl (y_mov rfl rfl ⟨rfl, rfl⟩) ?_
        refine wl_vw (.pointer (some ⟨p1, 1, none⟩)) 13 false 16 rfl rfl rfl rfl rfl (y_fieldR (n := 1) rfl s11 Try.underlying33 rfl (by kernel_rfl) (by decide) rfl ⟨rfl, rfl⟩) ?_
        refine wl_vw (.int .i64 (Y)) 13 false 16 rfl rfl rfl rfl rfl (y_ld_stc rfl rfl Try.underlying3 B4 rfl rfl ⟨rfl, rfl⟩) ?_
        refine wl_vw (.bool (decide ((31) < (Y)))) 13 false 16 rfl rfl rfl rfl rfl (y_gtr rfl rfl rfl rfl ⟨rfl, rfl⟩) ?_
        refine wl_v (.bool (decide ((31) < (Y)))) rfl rfl (y_pickF rfl rfl rfl ⟨rfl, rfl⟩) ?_
        refine wl_nil fun F39 hF40 => ?_
        have s41 : F39 21 = undef := (hF40 21).trans s10
        have s42 : F39 20 = .bool (decide ((31) < (Y))) := (hF40 20).trans rfl
        clear hF40
        refine then_normal ?_
        refine wq_cond s42 (fun c43 => ?_) (fun c43 => ?_)
        · replace c43 := of_decide_eq_true c43
          refine wq_seq ?_
          refine wq_region ?_
          refine wl_v (.int .i64 (90)) rfl rfl (y_asg rfl rfl ⟨rfl, rfl⟩) ?_
          refine wl_nil fun F44 hF45 => ?_
          have s46 : F44 21 = undef := (hF45 21).trans s41
          have s47 : F44 2 = .int .i64 (90) := (hF45 2).trans rfl
          clear hF45
          refine then_normal ?_
          refine wq_ret ?_
          refine then_ret ?_
          exact end_tmp (v := .int .i64 (90)) s46 rfl rfl s47 ⟨(by first | rw [vecE_yes (by unfold vecOk; omega)] | rw [vecE_no (by unfold vecOk; omega)]), K7⟩
        · replace c43 := of_decide_eq_false c43
          refine wq_skip ?_
          refine then_normal ?_
          refine wq_seq ?_
          refine wq_region ?_
          refine wl_v (.int .i64 (0)) rfl rfl (y_asg rfl rfl ⟨rfl, rfl⟩) ?_
          refine wl_nil fun F48 hF49 => ?_
          have s50 : F48 21 = undef := (hF49 21).trans s41
          have s51 : F48 2 = .int .i64 (0) := (hF49 2).trans rfl
          clear hF49
          refine then_normal ?_
          refine wq_ret ?_
          exact end_tmp (v := .int .i64 (0)) s50 rfl rfl s51 ⟨(by first | rw [vecE_yes (by unfold vecOk; omega)] | rw [vecE_no (by unfold vecOk; omega)]), K7⟩

end Go.Proofs.Ythhagejcgobfgaa
namespace Go.Proofs.Ythhagejcgobfgaa
open Go.RowKit

theorem Byt.row {A B : World} {row : Option Nat} {n : Nat} {T : Nat → Prop} {v : Value} {l : List Nat} (h : Byt A T v l) (hg : A.grownBy B row) (hr : RowNew n A row) : Byt B T v l := by
  obtain ⟨⟨a, cap, rfl, h1, h2, h3, hl, hc⟩, hL, hT⟩ := h
  have k := kept_row hg
  refine ⟨⟨a, cap, rfl, h1, h2, h3, hl, fun hpos => ?_⟩, hL.mono k, hT⟩
  obtain ⟨b, off, rfl, hb, hcell⟩ := hc hpos
  refine ⟨b, off, rfl, Nat.lt_of_lt_of_le hb k.size, fun i hi => (World.cell?_of_block (k.block b hb fun e => ?_)).trans (hcell i hi)⟩
  obtain ⟨_, o, ho, hn⟩ := hr b e.symm
  have := hcell 0 hpos
  unfold World.cell? at this
  simp only at this
  rw [ho] at this
  cases o <;> simp_all [Obj.isCells]
theorem Mrk.far {w : World} {D : Nat} {T : Nat → Prop} (hd : w.heap.size ≤ D) (hL : Live w T) : Apart (onB D) T := fun i hi ht => by
  cases hi
  exact absurd (hL _ ht) (by omega)



section
variable {P : Program} {ρ : Operand → Value} {o : Oper} {w : World} {R : Value → World → Prop}
theorem y_noNil {t t' : TypeId} {x y : Operand} {a : Addr} (ho : o.op = .binOp .eql t x y t') (hx : ρ x = .pointer (some a)) (hy : ρ y = .pointer none) {d : TypeId} (hu : P.underlying t = some (.pointer d)) (h : R (.bool false) w) : Yields P ρ o w R :=
  y_of (v := .bool false) (w' := w) (by
    have hq : P.underlying t = some (.pointer (P.pointee t)) := by simp [Program.pointee, hu]
    simp [execOp, ho, hx, hy, run_eql_pointer_nil w t (some a) hq, go_sem]) h
end
end Go.Proofs.Ythhagejcgobfgaa
namespace Go.Proofs.Ythhagejcgobfgaa
open Go.RowKit

/-- What is asked of one operation. U tells which operation uses an answer up. -/
def StepU (U : Nat → Option Nat) (P : Program) (R : World → Prop) (D : List (Option Tmp)) (G H : Nat → Value → World → Prop) (a0 : Act) (i : Nat) (o : Oper) : Prop :=
  ∀ (a : Act) (w : World), R w → (∀ t, some t ∉ D → a.eval (.tmp t) = a0.eval (.tmp t)) → Deps D (fun j v w => (U j = none ∨ U j = some i) → G j v w) a w o.after.toList →
    (goes D o a = true → Yields P a.eval o w (fun v w' => G i v w' ∧ R w' ∧ (∀ j x, j ≠ i → U j ≠ some i → G j x w → G j x w') ∧ (∀ j x, U j ≠ some i → H j x w → H j x w') ∧ ∀ j d, U j = some i → D[j]? = some (some d) → H j (a.eval (.tmp d)) w')) ∧ (goes D o a = false → G i undef w ∧ ∀ j, U j ≠ some i)
def StepsU (U : Nat → Option Nat) (P : Program) (R : World → Prop) (D : List (Option Tmp)) (G H : Nat → Value → World → Prop) (a0 : Act) : Nat → List Oper → Prop
  | _, [] => True
  | i, o :: r => StepU U P R D G H a0 i o ∧ StepsU U P R D G H a0 (i + 1) r
theorem StepsU.at {U : Nat → Option Nat} {P : Program} {R : World → Prop} {D : List (Option Tmp)} {G H : Nat → Value → World → Prop} {a0 : Act} : ∀ {i : Nat} {os : List Oper}, StepsU U P R D G H a0 i os → ∀ k o, os[k]? = some o → StepU U P R D G H a0 (i + k) o := by
  intro i os
  induction os generalizing i with
  | nil => intro _ k o h; simp at h
  | cons x r ih =>
    intro h k o hk
    cases k with
    | zero => simp at hk; subst hk; exact h.1
    | succ k =>
      simp at hk
      have := ih h.2 k o hk
      rwa [show i + 1 + k = i + (k + 1) by omega] at this
end Go.Proofs.Ythhagejcgobfgaa
namespace Go.Proofs.Ythhagejcgobfgaa
open Go.RowKit

/-- Which operation uses an answer up. -/
def usedBy (l : List (Nat × Nat)) (j : Nat) : Option Nat := (l.find? fun q => q.1 == j).map (·.2)
theorem usedBy_mem {l : List (Nat × Nat)} {j k : Nat} (h : usedBy l j = some k) : (j, k) ∈ l := by
  unfold usedBy at h
  cases hf : l.find? fun q => q.1 == j with
  | none => rw [hf] at h; cases h
  | some q =>
    rw [hf] at h
    cases h
    have h1 := List.find?_some hf
    have h2 := List.mem_of_find?_eq_some hf
    have : q.1 = j := by simpa using h1
    rw [← this]; exact h2
def noUse (l : List (Nat × Nat)) (i : Nat) : Bool := l.all fun q => q.2 != i
theorem noUse_at {l : List (Nat × Nat)} {i : Nat} (h : noUse l i = true) (j : Nat) : usedBy l j ≠ some i := fun e => by
  have := List.all_eq_true.1 h _ (usedBy_mem e)
  simp at this
def oneUse (l : List (Nat × Nat)) (i j : Nat) : Bool := l.all fun q => q.2 != i || q.1 == j
theorem oneUse_at {l : List (Nat × Nat)} {i j : Nat} (h : oneUse l i j = true) {j' : Nat} (e : usedBy l j' = some i) : j' = j := by
  have := List.all_eq_true.1 h _ (usedBy_mem e)
  simpa using this
/-- What is told to operation i. -/
def Told (l : List (Nat × Nat)) (Gs : List Pd) (i : Nat) : Nat → Value → World → Prop := fun j v w => (usedBy l j = none ∨ usedBy l j = some i) → Said Gs j v w
/-- What operation i leaves. -/
def Left (l : List (Nat × Nat)) (D : List (Option Tmp)) (Gs Hs : List Pd) (w0 : World) (i : Nat) (ρ : Operand → Value) (w : World) (v : Value) (w' : World) : Prop :=
  Said Gs i v w' ∧ Kept (fun _ => False) w0 w' ∧ (∀ j x, j ≠ i → usedBy l j ≠ some i → Said Gs j x w → Said Gs j x w') ∧ (∀ j x, usedBy l j ≠ some i → Said Hs j x w → Said Hs j x w') ∧ ∀ j d, usedBy l j = some i → D[j]? = some (some d) → Said Hs j (ρ (.tmp d)) w'
section
variable {P : Program} {N : Nat} {F : Nat → Value} {w : World} {Q : Exit → (Nat → Value) → World → Prop}

def StepFU (l : List (Nat × Nat)) (N : Nat) (P : Program) (D : List (Option Tmp)) (Gs Hs : List Pd) (F0 : Nat → Value) (w0 : World) (i : Nat) (o : Oper) : Prop :=
  ∀ (F : Nat → Value) (w : World), Kept (fun _ => False) w0 w → (∀ t, Nat.blt t N = true → some t ∉ D → F t = F0 t) → DepsF D (Told l Gs i) F w o.after.toList →
    match o.guard with
    | none => Yields P (ev F) o w (Left l D Gs Hs w0 i (ev F) w)
    | some (j, want) => ∃ d, D.getD j none = some d ∧
      ((F d = .bool want ∧ Yields P (ev F) o w (Left l D Gs Hs w0 i (ev F) w)) ∨ ((F d = .bool (!want) ∨ F d = undef) ∧ Said Gs i undef w ∧ noUse l i = true))
def StepsFU (l : List (Nat × Nat)) (N : Nat) (P : Program) (D : List (Option Tmp)) (Gs Hs : List Pd) (F0 : Nat → Value) (w0 : World) : Nat → List Oper → Prop
  | _, [] => True
  | i, o :: r => StepFU l N P D Gs Hs F0 w0 i o ∧ StepsFU l N P D Gs Hs F0 w0 (i + 1) r
theorem StepFU.step {l : List (Nat × Nat)} {D : List (Option Tmp)} {Gs Hs : List Pd} {w0 : World} {i : Nat} {o : Oper} {a0 : Act} (ha : Fr N F a0) (h : StepFU l N P D Gs Hs F w0 i o) : StepU (usedBy l) P (Kept (fun _ => False) w0) D (Said Gs) (Said Hs) a0 i o := by
  intro a w hR hout hD
  have h1 := h (fun t => a.tmps.getD t undef) w hR (fun t hb ht => by rw [← ha.at' t hb]; exact hout t ht) hD.toF
  rw [← eval_ev a] at h1
  unfold goes
  cases hg : o.guard with
  | none => rw [hg] at h1; exact ⟨fun _ => h1, fun e => by cases e⟩
  | some g =>
    obtain ⟨j, want⟩ := g
    rw [hg] at h1
    obtain ⟨d, hd, h1⟩ := h1
    simp only [hd]
    have hev : a.eval (.tmp d) = a.tmps.getD d undef := rfl
    rcases h1 with ⟨hv, hy⟩ | ⟨hv, hs⟩
    · rw [hev, hv]; exact ⟨fun _ => hy, fun e => by simp at e⟩
    · refine ⟨fun e => ?_, fun _ => ⟨hs.1, noUse_at hs.2⟩⟩
      rcases hv with hv | hv
      · rw [hev, hv] at e; cases want <;> simp at e
      · rw [hev, hv] at e; simp [undef] at e
theorem StepsFU.steps {l : List (Nat × Nat)} {D : List (Option Tmp)} {Gs Hs : List Pd} {w0 : World} {a0 : Act} (ha : Fr N F a0) : ∀ {os : List Oper} {i : Nat}, StepsFU l N P D Gs Hs F w0 i os → StepsU (usedBy l) P (Kept (fun _ => False) w0) D (Said Gs) (Said Hs) a0 i os := by
  intro os
  induction os with
  | nil => intro i _; exact trivial
  | cons o r ih => intro i h; exact ⟨h.1.step ha, ih h.2⟩
theorem left_plain {l : List (Nat × Nat)} {D : List (Option Tmp)} {Gs Hs : List Pd} {w0 w w' : World} {i : Nat} {ρ : Operand → Value} {v : Value} (hn : noUse l i = true) (hR : Kept (fun _ => False) w0 w) (h : Said Gs i v w' ∧ Kept (fun _ => False) w w') : Left l D Gs Hs w0 i ρ w v w' :=
  ⟨h.1, hR.trans h.2 (fun _ _ x => x), fun j _ _ _ hj => (Gs.getD j Pd.any).stays _ _ _ hj h.2, fun j _ _ hj => (Hs.getD j Pd.any).stays _ _ _ hj h.2, fun j _ e => absurd e (noUse_at hn j)⟩
theorem Yields.mono' {ρ : Operand → Value} {o : Oper} {R R' : Value → World → Prop} (h : Yields P ρ o w R) (hr : ∀ v w', R v w' → R' v w') : Yields P ρ o w R' := by
  revert h
  unfold Yields
  generalize (execOp ρ o).run P w = r
  intro h
  cases r with
  | ok n w' =>
    cases n <;> simp only at h ⊢ <;> first
      | exact hr _ _ h
      | exact h.elim
      | exact Calls.mono h (fun e w'' ⟨y, he, hk⟩ => ⟨y, he, hr _ _ hk⟩)
  | halt y w' => exact h.elim
theorem StepFU.one {l : List (Nat × Nat)} {D : List (Option Tmp)} {Gs Hs : List Pd} {F0 : Nat → Value} {w0 : World} {i : Nat} {o : Oper} (hn : noUse l i = true) (hg : o.guard = none)
    (h : ∀ (F : Nat → Value) (w : World), Kept (fun _ => False) w0 w → (∀ t, Nat.blt t N = true → some t ∉ D → F t = F0 t) → DepsF D (Told l Gs i) F w o.after.toList → Yields P (ev F) o w (fun v w' => Said Gs i v w' ∧ Kept (fun _ => False) w w')) : StepFU l N P D Gs Hs F0 w0 i o := by
  intro F w h1 h2 h3
  rw [hg]
  exact (h F w h1 h2 h3).mono' fun _ _ x => left_plain hn h1 x
theorem StepFU.when {l : List (Nat × Nat)} {D : List (Option Tmp)} {Gs Hs : List Pd} {F0 : Nat → Value} {w0 : World} {i : Nat} {o : Oper} (hn : noUse l i = true) (j : Nat) (want : Bool) (d : Tmp) (hg : o.guard = some (j, want)) (hd : D.getD j none = some d)
    (h : ∀ (F : Nat → Value) (w : World), Kept (fun _ => False) w0 w → (∀ t, Nat.blt t N = true → some t ∉ D → F t = F0 t) → DepsF D (Told l Gs i) F w o.after.toList → F d = .bool want ∧ Yields P (ev F) o w (fun v w' => Said Gs i v w' ∧ Kept (fun _ => False) w w')) : StepFU l N P D Gs Hs F0 w0 i o := by
  intro F w h1 h2 h3
  rw [hg]
  obtain ⟨hv, hy⟩ := h F w h1 h2 h3
  exact ⟨d, hd, .inl ⟨hv, hy.mono' fun _ _ x => left_plain hn h1 x⟩⟩
def Pd.under (Ty : TypeId → Prop) (p : Pd) : Prop := ∀ v w w' S, p.says v w → Kept S w w' → (∀ i, S i → ∀ c e f, w.heap[i]? = some (.cells c e f) → Ty e) → p.says v w'
theorem under_any {Ty : TypeId → Prop} : Pd.any.under Ty := fun _ _ _ _ _ _ _ => trivial
def AllUnder (Ty : TypeId → Prop) (skip : Nat → Bool) : Nat → List Pd → Prop
  | _, [] => True
  | k, p :: r => (skip k = true ∨ p.under Ty) ∧ AllUnder Ty skip (k + 1) r
theorem AllUnder.at {Ty : TypeId → Prop} {skip : Nat → Bool} : ∀ {Gs : List Pd} {k : Nat}, AllUnder Ty skip k Gs → ∀ j, skip (k + j) = false → (Gs.getD j Pd.any).under Ty := by
  intro Gs
  induction Gs with
  | nil => intro k _ j _; exact under_any
  | cons p r ih =>
    intro k h j hj
    cases j with
    | zero =>
      rcases h.1 with e | e
      · rw [Nat.add_zero] at hj; rw [hj] at e; cases e
      · exact e
    | succ j => exact ih h.2 j (by rw [show k + 1 + j = k + (j + 1) by omega]; exact hj)
/-- The operation that uses an answer up: it turns blocks that were made here. -/
theorem StepFU.turn {l : List (Nat × Nat)} {D : List (Option Tmp)} {Gs Hs : List Pd} {F0 : Nat → Value} {w0 : World} {i : Nat} {o : Oper} (j : Nat) (d : Tmp) (Ty : TypeId → Prop) (hg : o.guard = none) (hd : D[j]? = some (some d)) (h1u : oneUse l i j = true) (hu : AllUnder Ty (fun q => decide (q = i ∨ usedBy l q = some i)) 0 Gs) (hu2 : AllUnder Ty (fun q => decide (usedBy l q = some i)) 0 Hs)
    (h : ∀ (F : Nat → Value) (w : World), Kept (fun _ => False) w0 w → (∀ t, Nat.blt t N = true → some t ∉ D → F t = F0 t) → DepsF D (Told l Gs i) F w o.after.toList →
      Yields P (ev F) o w (fun v w' => Said Gs i v w' ∧ Said Hs j (F d) w' ∧ ∃ S, Kept S w w' ∧ (∀ x, S x → w0.heap.size ≤ x) ∧ ∀ x, S x → ∀ c e f, w.heap[x]? = some (.cells c e f) → Ty e)) : StepFU l N P D Gs Hs F0 w0 i o := by
  intro F w h1 h2 h3
  rw [hg]
  refine (h F w h1 h2 h3).mono' fun v w' ⟨hs, hs2, S, k, hn, ht⟩ => ⟨hs, h1.trans k (fun x hx hS => absurd (hn x hS) (by omega)), fun q x hj hU hx => ?_, fun q x hU hx => ?_, fun q d' hU hq => ?_⟩
  · exact hu.at q (by rw [Nat.zero_add]; exact decide_eq_false (fun e => e.elim hj hU)) x w w' S hx k ht
  · exact hu2.at q (by rw [Nat.zero_add]; exact decide_eq_false hU) x w w' S hx k ht
  · have e := oneUse_at h1u hU
    subst e
    rw [hd] at hq
    cases hq
    exact hs2

end
end Go.Proofs.Ythhagejcgobfgaa
namespace Go.Proofs.Ythhagejcgobfgaa
open Go.RowKit

/-- What is said of an operation: what it answers; that it turns the block of operation j; that it makes a block that holds zs until operation k, and us from then on; that it turns a block that was there. -/
inductive Pc where
  | eq (v : Value)
  | turn (j : Nat)
  | blk (t : TypeId) (zs : List Value) (k : Nat) (us : List Value)
  | told (p : Nat) (t : TypeId) (zs us : List Value)
def Pc.none : Pc := .eq undef
def isBlk : Pc → Bool
  | .blk _ _ _ _ => true
  | _ => false
def HoldC (n0 : Nat) (p : Pc) (L : Nat → Bool) (v : Value) (w : World) : Prop := match p with
  | .eq x => v = x
  | .turn _ => True
  | .told _ _ _ _ => True
  | .blk t zs k us => ∃ q, v = .pointer (some ⟨q, 0, none⟩) ∧ n0 ≤ q ∧ Stc w q t (if L k = true then us else zs)
/-- The blocks that were there and are turned: they are there, and none is another one. -/
def NotTold (p : Nat) : List Pc → Prop
  | [] => True
  | .told q _ _ _ :: r => p ≠ q ∧ NotTold p r
  | .eq _ :: r => NotTold p r
  | .turn _ :: r => NotTold p r
  | .blk _ _ _ _ :: r => NotTold p r
def Olds (S : Nat → Prop) (w0 : World) : List Pc → Prop
  | [] => True
  | .told p t zs _ :: r => (S p ∧ Stc w0 p t zs ∧ NotTold p r) ∧ Olds S w0 r
  | .eq _ :: r => Olds S w0 r
  | .turn _ :: r => Olds S w0 r
  | .blk _ _ _ _ :: r => Olds S w0 r
theorem NotTold.at {p : Nat} : ∀ {Gs : List Pc}, NotTold p Gs → ∀ i q t zs us, Gs.getD i Pc.none = .told q t zs us → p ≠ q := by
  intro Gs
  induction Gs with
  | nil => intro _ i q t zs us h; cases h
  | cons g r ih =>
    intro h i q t zs us e
    cases i with
    | zero =>
      have e : g = .told q t zs us := by simpa using e
      subst e; exact h.1
    | succ i =>
      have e : r.getD i Pc.none = .told q t zs us := by simpa using e
      cases g <;> first | exact ih h.2 i q t zs us e | exact ih h i q t zs us e
theorem Olds.at {S : Nat → Prop} {w0 : World} : ∀ {Gs : List Pc}, Olds S w0 Gs → ∀ i p t zs us, Gs.getD i Pc.none = .told p t zs us → S p ∧ Stc w0 p t zs := by
  intro Gs
  induction Gs with
  | nil => intro _ i q t zs us h; cases h
  | cons g r ih =>
    intro h i q t zs us e
    cases i with
    | zero =>
      have e : g = .told q t zs us := by simpa using e
      subst e; exact ⟨h.1.1, h.1.2.1⟩
    | succ i =>
      have e : r.getD i Pc.none = .told q t zs us := by simpa using e
      cases g <;> first | exact ih h.2 i q t zs us e | exact ih h i q t zs us e
theorem Olds.ne {S : Nat → Prop} {w0 : World} : ∀ {Gs : List Pc}, Olds S w0 Gs → ∀ i j p t zs us p' t' zs' us', i ≠ j → Gs.getD i Pc.none = .told p t zs us → Gs.getD j Pc.none = .told p' t' zs' us' → p ≠ p' := by
  intro Gs
  induction Gs with
  | nil => intro _ i j p t zs us p' t' zs' us' _ h; cases h
  | cons g r ih =>
    intro h i j p t zs us p' t' zs' us' hij e1 e2
    cases i with
    | zero =>
      have e1 : g = .told p t zs us := by simpa using e1
      subst e1
      cases j with
      | zero => exact absurd rfl hij
      | succ j => exact h.1.2.2.at j p' t' zs' us' (by simpa using e2)
    | succ i =>
      cases j with
      | zero =>
        have e2 : g = .told p' t' zs' us' := by simpa using e2
        subst e2
        exact fun e => h.1.2.2.at i p t zs us (by simpa using e1) e.symm
      | succ j =>
        have hr : Olds S w0 r := by cases g <;> first | exact h.2 | exact h
        exact ih hr i j p t zs us p' t' zs' us' (fun e => hij (by rw [e])) (by simpa using e1) (by simpa using e2)
structure JC (S : Nat → Prop) (w0 : World) (Gs : List Pc) (L : Nat → Bool) (v : Nat → Value) (w : World) : Prop where
  kept : Kept S w0 w
  olds : ∀ i p t zs us, Gs.getD i Pc.none = .told p t zs us → Stc w p t (if L i = true then us else zs)
  holds : ∀ i, L i = true → HoldC w0.heap.size (Gs.getD i Pc.none) L (v i) w
  apart : ∀ i j, i ≠ j → L i = true → L j = true → isBlk (Gs.getD i Pc.none) = true → isBlk (Gs.getD j Pc.none) = true → v i ≠ v j
  clos : ∀ k j, L k = true → Gs.getD k Pc.none = .turn j → L j = true
/-- Each block is turned by one operation, that waits for it. -/
def wfAt (os : List Oper) (D : List (Option Tmp)) (Gs : List Pc) (i : Nat) : Pc → Bool
  | .eq _ => true
  | .told _ _ _ _ => true
  | .turn j => (match Gs.getD j Pc.none with | .blk _ _ k _ => k == i | _ => false) && (match D.getD j none with | some _ => true | none => false) && (match os[i]? with | some o => waitsOn o j | none => false)
  | .blk _ _ k _ => match Gs.getD k Pc.none with | .turn j => j == i | _ => false
def wfC (os : List Oper) (D : List (Option Tmp)) (Gs : List Pc) : Bool := (List.range Gs.length).all fun i => wfAt os D Gs i (Gs.getD i Pc.none)
theorem wfC_at {os : List Oper} {D : List (Option Tmp)} {Gs : List Pc} (h : wfC os D Gs = true) (i : Nat) : wfAt os D Gs i (Gs.getD i Pc.none) = true := by
  by_cases hi : i < Gs.length
  · exact List.all_eq_true.1 h i (List.mem_range.2 hi)
  · have : Gs.getD i Pc.none = Pc.none := by simp [List.getD, List.getElem?_eq_none (show Gs.length ≤ i by omega)]
    rw [this]; rfl
theorem wf_blk {os : List Oper} {D : List (Option Tmp)} {Gs : List Pc} (h : wfC os D Gs = true) {i k : Nat} {t : TypeId} {zs us : List Value} (e : Gs.getD i Pc.none = .blk t zs k us) : Gs.getD k Pc.none = .turn i := by
  have := wfC_at h i
  rw [e] at this
  simp only [wfAt] at this
  split at this
  · rename_i j hj; rw [hj]; have : j = i := by simpa using this
    rw [this]
  · cases this

/-- What is told to operation i of those that it waits for. -/
def ToldC (n0 : Nat) (Gs : List Pc) (i : Nat) : Nat → Value → World → Prop := fun j v w => match Gs.getD j Pc.none with
  | .eq x => v = x
  | .turn _ => True
  | .told _ _ _ _ => True
  | .blk t zs k _ => k = i → ∃ q, v = .pointer (some ⟨q, 0, none⟩) ∧ n0 ≤ q ∧ Stc w q t zs
def LeftC (Gs : List Pc) (D : List (Option Tmp)) (i : Nat) (ρ : Operand → Value) (w : World) (v : Value) (w' : World) : Prop := match Gs.getD i Pc.none with
  | .eq x => v = x ∧ Kept (fun _ => False) w w'
  | .blk t zs _ _ => ∃ q, v = .pointer (some ⟨q, 0, none⟩) ∧ w.heap.size ≤ q ∧ Stc w' q t zs ∧ Kept (fun _ => False) w w'
  | .told p t _ us => Stc w' p t us ∧ Kept (onB p) w w'
  | .turn j => ∃ d q, D.getD j none = some d ∧ ρ (.tmp d) = .pointer (some ⟨q, 0, none⟩) ∧ (∀ t zs us, Gs.getD j Pc.none = .blk t zs i us → Stc w' q t us) ∧ Kept (onB q) w w'
section
variable {P : Program} {N : Nat} {F : Nat → Value} {w : World} {Q : Exit → (Nat → Value) → World → Prop}
def StepFC (S : Nat → Prop) (N : Nat) (P : Program) (D : List (Option Tmp)) (Gs : List Pc) (F0 : Nat → Value) (w0 : World) (i : Nat) (o : Oper) : Prop :=
  ∀ (F : Nat → Value) (w : World), Kept S w0 w → (∀ t, Nat.blt t N = true → some t ∉ D → F t = F0 t) → DepsF D (ToldC w0.heap.size Gs i) F w o.after.toList → (∀ p t zs us, Gs.getD i Pc.none = .told p t zs us → Stc w p t zs) →
    match o.guard with
    | none => Yields P (ev F) o w (LeftC Gs D i (ev F) w)
    | some (j, want) => ∃ d, D.getD j none = some d ∧
      ((F d = .bool want ∧ Yields P (ev F) o w (LeftC Gs D i (ev F) w)) ∨ ((F d = .bool (!want) ∨ F d = undef) ∧ Gs.getD i Pc.none = .eq undef))
def StepsFC (S : Nat → Prop) (N : Nat) (P : Program) (D : List (Option Tmp)) (Gs : List Pc) (F0 : Nat → Value) (w0 : World) : Nat → List Oper → Prop
  | _, [] => True
  | i, o :: r => StepFC S N P D Gs F0 w0 i o ∧ StepsFC S N P D Gs F0 w0 (i + 1) r
theorem StepFC.one {S : Nat → Prop} {D : List (Option Tmp)} {Gs : List Pc} {F0 : Nat → Value} {w0 : World} {i : Nat} {o : Oper} (hg : o.guard = none)
    (h : ∀ (F : Nat → Value) (w : World), Kept S w0 w → (∀ t, Nat.blt t N = true → some t ∉ D → F t = F0 t) → DepsF D (ToldC w0.heap.size Gs i) F w o.after.toList → Yields P (ev F) o w (LeftC Gs D i (ev F) w)) : StepFC S N P D Gs F0 w0 i o := by
  intro F w h1 h2 h3 _
  rw [hg]
  exact h F w h1 h2 h3
theorem StepFC.old {S : Nat → Prop} {D : List (Option Tmp)} {Gs : List Pc} {F0 : Nat → Value} {w0 : World} {i p : Nat} {t : TypeId} {zs us : List Value} {o : Oper} (hg : o.guard = none) (he : Gs.getD i Pc.none = .told p t zs us)
    (h : ∀ (F : Nat → Value) (w : World), Kept S w0 w → (∀ t, Nat.blt t N = true → some t ∉ D → F t = F0 t) → DepsF D (ToldC w0.heap.size Gs i) F w o.after.toList → Stc w p t zs → Yields P (ev F) o w (fun _ w' => Stc w' p t us ∧ Kept (onB p) w w')) : StepFC S N P D Gs F0 w0 i o := by
  intro F w h1 h2 h3 h4
  rw [hg]
  refine (h F w h1 h2 h3 (h4 _ _ _ _ he)).mono' fun v w' hx => ?_
  unfold LeftC
  rw [he]; exact hx
theorem StepFC.when {S : Nat → Prop} {D : List (Option Tmp)} {Gs : List Pc} {F0 : Nat → Value} {w0 : World} {i : Nat} {o : Oper} (j : Nat) (want : Bool) (d : Tmp) (hg : o.guard = some (j, want)) (hd : D.getD j none = some d)
    (h : ∀ (F : Nat → Value) (w : World), Kept S w0 w → (∀ t, Nat.blt t N = true → some t ∉ D → F t = F0 t) → DepsF D (ToldC w0.heap.size Gs i) F w o.after.toList → F d = .bool want ∧ Yields P (ev F) o w (LeftC Gs D i (ev F) w)) : StepFC S N P D Gs F0 w0 i o := by
  intro F w h1 h2 h3 _
  rw [hg]
  exact ⟨d, hd, .inl (h F w h1 h2 h3)⟩
theorem upL_here {L : Nat → Bool} {i : Nat} : upL L i i = true := if_pos rfl
theorem upL_ne {L : Nat → Bool} {i j : Nat} (h : j ≠ i) : upL L i j = L j := if_neg h
theorem upV_here {v : Nat → Value} {i : Nat} {x : Value} : upV v i x i = x := if_pos rfl
theorem upV_ne {v : Nat → Value} {i j : Nat} {x : Value} (h : j ≠ i) : upV v i x j = v j := if_neg h
theorem getElem_getD {α : Type} {l : List α} {d x : α} {i : Nat} (h : l.getD i d = x) (hn : x ≠ d) : l[i]? = some x := by
  unfold List.getD at h
  cases hq : l[i]? with
  | none => rw [hq] at h; exact absurd h.symm hn
  | some y => rw [hq] at h; simpa using h

/-- One more operation that is no turn. -/
theorem JC.more {S : Nat → Prop} {os : List Oper} {D : List (Option Tmp)} {Gs : List Pc} {w0 w w' : World} {L : Nat → Bool} {v : Nat → Value} {i : Nat} {x : Value} (hwf : wfC os D Gs = true) (h : JC S w0 Gs L v w) (hi : L i = false) (k : Kept (fun _ => False) w w')
    (hnt : ∀ j, Gs.getD i Pc.none ≠ .turn j) (hnd : ∀ p t zs us, Gs.getD i Pc.none ≠ .told p t zs us) (hx : HoldC w0.heap.size (Gs.getD i Pc.none) (upL L i) x w') (hb : isBlk (Gs.getD i Pc.none) = true → ∃ q, x = .pointer (some ⟨q, 0, none⟩) ∧ w.heap.size ≤ q) : JC S w0 Gs (upL L i) (upV v i x) w' := by
  have hkeep : ∀ j, L j = true → HoldC w0.heap.size (Gs.getD j Pc.none) (upL L i) (v j) w' := by
    intro j hj
    have := h.holds j hj
    revert this
    cases e : Gs.getD j Pc.none with
    | eq y => exact id
    | turn y => exact id
    | told y1 y2 y3 y4 => exact id
    | blk t zs kk us =>
      rintro ⟨q, e1, e2, e3⟩
      have hki : kk ≠ i := fun e' => hnt j (by rw [← e']; exact wf_blk hwf e)
      refine ⟨q, e1, e2, ?_⟩
      rw [upL_ne hki]
      exact e3.all k id
  refine ⟨h.kept.trans k (fun _ _ x => x.elim), fun j p t zs us hj => ?_, fun j hj => ?_, fun a b hab ha hb' hA hB => ?_, fun a b ha hab => ?_⟩
  · have hji : j ≠ i := fun e => hnd p t zs us (by rw [← e]; exact hj)
    rw [upL_ne hji]
    exact (h.olds j p t zs us hj).all k id
  · by_cases hji : j = i
    · subst hji; rw [upV_here]; exact hx
    · rw [upL_ne hji] at hj; rw [upV_ne hji]; exact hkeep j hj
  · have hnew : ∀ c, c ≠ i → L c = true → isBlk (Gs.getD c Pc.none) = true → isBlk (Gs.getD i Pc.none) = true → v c ≠ x := by
      intro c _ hc hC hI e
      obtain ⟨q, e1, e2⟩ := hb hI
      have := h.holds c hc
      revert this hC
      cases e' : Gs.getD c Pc.none with
      | eq y => intro hC; cases hC
      | turn y => intro hC; cases hC
      | told y1 y2 y3 y4 => intro hC; cases hC
      | blk t zs kk us =>
        rintro - ⟨q', f1, f2, f3⟩
        rw [f1, e1] at e
        cases e
        have := f3.lt
        omega
    by_cases hai : a = i
    · subst hai
      have hba : b ≠ a := fun e => hab e.symm
      rw [upL_ne hba] at hb'
      rw [upV_here, upV_ne hba]
      exact fun e => hnew b hba hb' hB hA e.symm
    · rw [upL_ne hai] at ha
      rw [upV_ne hai]
      by_cases hbi : b = i
      · subst hbi; rw [upV_here]; exact hnew a hai ha hA hB
      · rw [upL_ne hbi] at hb'; rw [upV_ne hbi]; exact h.apart a b hab ha hb' hA hB
  · by_cases hai : a = i
    · subst hai; exact absurd hab (hnt b)
    · rw [upL_ne hai] at ha
      have := h.clos a b ha hab
      by_cases hbi : b = i
      · subst hbi; exact upL_here
      · rw [upL_ne hbi]; exact this
/-- One more turn. -/
theorem JC.turned {S : Nat → Prop} {os : List Oper} {D : List (Option Tmp)} {Gs : List Pc} {w0 w w' : World} {L : Nat → Bool} {v : Nat → Value} {i j q : Nat} {x : Value} (hwf : wfC os D Gs = true) (hO : Olds S w0 Gs) (h : JC S w0 Gs L v w) (hi : L i = false) (hj : L j = true) (he : Gs.getD i Pc.none = .turn j)
    (hv : v j = .pointer (some ⟨q, 0, none⟩)) (hq : ∀ t zs us, Gs.getD j Pc.none = .blk t zs i us → Stc w' q t us) (k : Kept (onB q) w w') : JC S w0 Gs (upL L i) (upV v i x) w' := by
  have hw := wfC_at hwf i
  rw [he] at hw
  simp only [wfAt, Bool.and_eq_true] at hw
  have hn0 : w0.heap.size ≤ q := by
    have := h.holds j hj
    revert this
    obtain ⟨⟨h1, _⟩, _⟩ := hw
    cases e : Gs.getD j Pc.none with
    | eq y => rw [e] at h1; cases h1
    | turn y => rw [e] at h1; cases h1
    | told y1 y2 y3 y4 => rw [e] at h1; cases h1
    | blk t zs kk us =>
      rintro ⟨q', e1, e2, _⟩
      rw [hv] at e1; cases e1; exact e2
  have hjB : isBlk (Gs.getD j Pc.none) = true := by
    obtain ⟨⟨h1, _⟩, _⟩ := hw
    cases e : Gs.getD j Pc.none with
    | eq y => rw [e] at h1; cases h1
    | turn y => rw [e] at h1; cases h1
    | told y1 y2 y3 y4 => rw [e] at h1; cases h1
    | blk t zs kk us => rfl
  refine ⟨h.kept.trans k (fun b hb e => by cases e; omega), fun a p t zs us ha => ?_, fun a ha => ?_, fun a b hab ha hb hA hB => ?_, fun a b ha hab => ?_⟩
  · have hai : a ≠ i := fun e => by rw [e, he] at ha; cases ha
    rw [upL_ne hai]
    exact (h.olds a p t zs us ha).all k (fun e => by have := (hO.at a p t zs us ha).2.lt; rw [show p = q from e] at this; omega)
  · by_cases hai : a = i
    · subst hai; rw [upV_here, he]; exact trivial
    · rw [upL_ne hai] at ha; rw [upV_ne hai]
      have := h.holds a ha
      revert this
      cases e : Gs.getD a Pc.none with
      | eq y => exact id
      | turn y => exact id
      | told y1 y2 y3 y4 => exact id
      | blk t zs kk us =>
        rintro ⟨q', e1, e2, e3⟩
        have hk := wf_blk hwf e
        by_cases haj : a = j
        · subst haj
          have hki : kk = i := by
            obtain ⟨⟨h1, _⟩, _⟩ := hw
            rw [e] at h1; simpa using h1
          subst hki
          rw [hv] at e1; cases e1
          refine ⟨q, hv, hn0, ?_⟩
          rw [if_pos upL_here]
          exact hq t zs us e
        · have hki : kk ≠ i := fun e' => by rw [e', he] at hk; cases hk; exact haj rfl
          refine ⟨q', e1, e2, ?_⟩
          rw [upL_ne hki]
          refine e3.all k (fun e' => ?_)
          have := h.apart a j haj ha hj (by rw [e]; rfl) hjB
          rw [e1, hv] at this
          exact this (by rw [show q' = q from e'])
  · have hni : ∀ c, isBlk (Gs.getD c Pc.none) = true → c ≠ i := fun c hc e => by rw [e, he] at hc; cases hc
    rw [upV_ne (hni a hA), upV_ne (hni b hB)]
    rw [upL_ne (hni a hA)] at ha
    rw [upL_ne (hni b hB)] at hb
    exact h.apart a b hab ha hb hA hB
  · by_cases hai : a = i
    · subst hai
      rw [he] at hab; cases hab
      by_cases hji : j = a
      · subst hji; exact upL_here
      · rw [upL_ne hji]; exact hj
    · rw [upL_ne hai] at ha
      have := h.clos a b ha hab
      by_cases hbi : b = i
      · subst hbi; exact upL_here
      · rw [upL_ne hbi]; exact this

/-- One more turn of a block that was there. -/
theorem JC.oldTurned {S : Nat → Prop} {os : List Oper} {D : List (Option Tmp)} {Gs : List Pc} {w0 w w' : World} {L : Nat → Bool} {v : Nat → Value} {i p : Nat} {t : TypeId} {zs us : List Value} {x : Value} (hwf : wfC os D Gs = true) (hO : Olds S w0 Gs) (h : JC S w0 Gs L v w) (he : Gs.getD i Pc.none = .told p t zs us)
    (hq : Stc w' p t us) (k : Kept (onB p) w w') : JC S w0 Gs (upL L i) (upV v i x) w' := by
  have hp := hO.at i p t zs us he
  have hni : ∀ c, isBlk (Gs.getD c Pc.none) = true → c ≠ i := fun c hc e => by rw [e, he] at hc; cases hc
  refine ⟨h.kept.trans k (fun b hb e => by cases e; exact hp.1), fun a p' t' zs' us' ha => ?_, fun a ha => ?_, fun a b hab ha hb hA hB => ?_, fun a b ha hab => ?_⟩
  · by_cases hai : a = i
    · subst hai
      rw [he] at ha; cases ha
      rw [if_pos upL_here]; exact hq
    · rw [upL_ne hai]
      exact (h.olds a p' t' zs' us' ha).all k (fun e => hO.ne a i p' t' zs' us' p t zs us hai ha he e)
  · by_cases hai : a = i
    · subst hai; rw [upV_here, he]; exact trivial
    · rw [upL_ne hai] at ha; rw [upV_ne hai]
      have := h.holds a ha
      revert this
      cases e : Gs.getD a Pc.none with
      | eq y => exact id
      | turn y => exact id
      | told y1 y2 y3 y4 => exact id
      | blk t zs kk us =>
        rintro ⟨q', e1, e2, e3⟩
        have hk := wf_blk hwf e
        have hki : kk ≠ i := fun e' => by rw [e', he] at hk; cases hk
        refine ⟨q', e1, e2, ?_⟩
        rw [upL_ne hki]
        exact e3.all k (fun e' => by have := hp.2.lt; rw [show q' = p from e'] at e2; omega)
  · rw [upV_ne (hni a hA), upV_ne (hni b hB)]
    rw [upL_ne (hni a hA)] at ha
    rw [upL_ne (hni b hB)] at hb
    exact h.apart a b hab ha hb hA hB
  · have hai : a ≠ i := fun e => by rw [e, he] at hab; cases hab
    rw [upL_ne hai] at ha
    have := h.clos a b ha hab
    by_cases hbi : b = i
    · subst hbi; exact upL_here
    · rw [upL_ne hbi]; exact this

theorem StepFC.step {S : Nat → Prop} {os : List Oper} {D : List (Option Tmp)} {Gs : List Pc} {w0 : World} {i : Nat} {o : Oper} {a0 : Act} (hwf : wfC os D Gs = true) (hO : Olds S w0 Gs) (ho : os[i]? = some o) (ha : Fr N F a0) (h : StepFC S N P D Gs F w0 i o) : StepJ os P D (JC S w0 Gs) a0 i o := by
  intro L v a w hJ hi hdone hout hhere _
  have hdeps : DepsF D (ToldC w0.heap.size Gs i) (fun t => a.tmps.getD t undef) w o.after.toList := by
    refine Deps.toF (Deps.mk fun e he hb d hd => ?_)
    have hl := hdone e he hb
    have hDe := getElem_getD hd (by simp)
    have hv := hhere e.on d hl hDe
    rw [hv]
    have := hJ.holds e.on hl
    unfold ToldC
    revert this
    cases e' : Gs.getD e.on Pc.none with
    | eq y => exact id
    | turn y => exact id
    | told y1 y2 y3 y4 => exact id
    | blk t zs kk us =>
      rintro ⟨q, e1, e2, e3⟩ hk
      refine ⟨q, e1, e2, ?_⟩
      subst hk
      rw [hi, if_neg (by simp)] at e3
      exact e3
  have h1 := h (fun t => a.tmps.getD t undef) w hJ.kept (fun t hb ht => by rw [← ha.at' t hb]; exact hout t ht) hdeps (fun p t zs us e => by have := hJ.olds i p t zs us e; rw [hi, if_neg (by simp)] at this; exact this)
  rw [← eval_ev a] at h1
  have hleft : ∀ x w', LeftC Gs D i a.eval w x w' → JC S w0 Gs (upL L i) (upV v i x) w' := by
    intro x w' hx
    unfold LeftC at hx
    cases e : Gs.getD i Pc.none with
    | eq y =>
      rw [e] at hx
      exact hJ.more hwf hi hx.2 (fun j hj => by rw [e] at hj; cases hj) (fun _ _ _ _ hj => by rw [e] at hj; cases hj) (by rw [e]; exact hx.1) (by rw [e]; intro hb; cases hb)
    | blk t zs kk us =>
      rw [e] at hx
      obtain ⟨q, e1, e2, e3, e4⟩ := hx
      have hk := wf_blk hwf e
      have hki : kk ≠ i := fun e' => by rw [e', e] at hk; cases hk
      have hLk : L kk = false := by
        cases hq : L kk with
        | false => rfl
        | true => have := hJ.clos kk i hq hk; rw [hi] at this; cases this
      refine hJ.more hwf hi e4 (fun j hj => by rw [e] at hj; cases hj) (fun _ _ _ _ hj => by rw [e] at hj; cases hj) ?_ (fun _ => ⟨q, e1, e2⟩)
      rw [e]
      refine ⟨q, e1, Nat.le_trans hJ.kept.size e2, ?_⟩
      rw [upL_ne hki, hLk, if_neg (by simp)]
      exact e3
    | told p t zs us =>
      rw [e] at hx
      exact hJ.oldTurned hwf hO e hx.1 hx.2
    | turn j =>
      rw [e] at hx
      obtain ⟨d, q, hd, e1, e2, e3⟩ := hx
      have hw := wfC_at hwf i
      rw [e] at hw
      simp only [wfAt, Bool.and_eq_true, ho] at hw
      obtain ⟨ed, hed, hb, hon⟩ := waitsOn_iff.1 hw.2
      have hLj := hdone ed hed hb
      rw [hon] at hLj
      have hv := hhere j d hLj (getElem_getD hd (by simp))
      exact hJ.turned hwf hO hi hLj e (by rw [← hv]; exact e1) e2 e3
  unfold goes
  cases hg : o.guard with
  | none => rw [hg] at h1; exact ⟨fun _ => h1.mono' hleft, fun e => by cases e⟩
  | some g =>
    obtain ⟨j, want⟩ := g
    rw [hg] at h1
    obtain ⟨d, hd, h1⟩ := h1
    simp only [hd]
    have hev : a.eval (.tmp d) = a.tmps.getD d undef := rfl
    rcases h1 with ⟨hv, hy⟩ | ⟨hv, hs⟩
    · rw [hev, hv]; exact ⟨fun _ => hy.mono' hleft, fun e => by simp at e⟩
    · refine ⟨fun e => ?_, fun _ => hJ.more hwf hi (Kept.refl _ _) (fun j hj => by rw [hs] at hj; cases hj) (fun _ _ _ _ hj => by rw [hs] at hj; cases hj) (by rw [hs]; rfl) (by rw [hs]; intro hb; cases hb)⟩
      rcases hv with hv | hv
      · rw [hev, hv] at e; cases want <;> simp at e
      · rw [hev, hv] at e; simp [undef] at e
theorem StepsFC.steps {S : Nat → Prop} {all : List Oper} {D : List (Option Tmp)} {Gs : List Pc} {w0 : World} {a0 : Act} (hwf : wfC all D Gs = true) (hO : Olds S w0 Gs) (ha : Fr N F a0) : ∀ {os : List Oper} {i : Nat}, (∀ k o, os[k]? = some o → all[i + k]? = some o) → StepsFC S N P D Gs F w0 i os → StepsJ all P D (JC S w0 Gs) a0 i os := by
  intro os
  induction os with
  | nil => intro i _ _; exact trivial
  | cons o r ih =>
    intro i hat h
    exact ⟨h.1.step hwf hO (hat 0 o rfl) ha, ih (fun k o' hk => by have := hat (k + 1) o' hk; rwa [show i + (k + 1) = i + 1 + k by omega] at this) h.2⟩
end
end Go.Proofs.Ythhagejcgobfgaa
namespace Go.Proofs.Ythhagejcgobfgaa
open Go.RowKit

def sameVec (a b c d : Int) : Bool := decide (a = c) && decide (b = d)
theorem sameVec_self (a b : Int) : sameVec a b a b = true := by unfold sameVec; simp
theorem Try.vecFields : (Try.prog.fieldsOf 33).toList.map (fun f => (f.name, f.type, f.offset)) = [("X", 3, 0), ("Y", 3, 1)] := by kernel_rfl
theorem part_int (w : World) (xs : Array Value) (i : Nat) (z : Int) (h : xs[i]? = some (.int .i64 z)) : (part 3 xs i).run Try.prog w = .ok (.int .i64 z) w := by
  simp [part, isAgg, run_underlying Try.underlying3, h]
theorem run_same_vec (w : World) (a b c d : Int) : (Op.equalIn 10000 33 (.agg #[.int .i64 a, .int .i64 b]) (.agg #[.int .i64 c, .int .i64 d])).run Try.prog w = .ok (sameVec a b c d) w := by
  rw [run_equalIn_struct w 9999 _ _ _ (by kernel_rfl) (by kernel_rfl)]
  have hf := Try.vecFields
  generalize (Try.prog.fieldsOf 33).toList = fs at hf
  have hlen : fs.length = 2 := by simpa using congrArg List.length hf
  have p1 := part_int w #[.int .i64 a, .int .i64 b] 0 a rfl
  have p2 := part_int w #[.int .i64 c, .int .i64 d] 0 c rfl
  have p3 := part_int w #[.int .i64 a, .int .i64 b] 1 b rfl
  have p4 := part_int w #[.int .i64 c, .int .i64 d] 1 d rfl
  match fs, hlen with
  | [f0, f1], _ =>
    simp only [List.map_cons, List.map_nil, List.cons.injEq, Prod.mk.injEq, and_true] at hf
    obtain ⟨⟨n0, t0, o0⟩, ⟨n1, t1, o1⟩⟩ := hf
    simp only [Op.eqFields, n0, t0, o0, n1, t1, o1]
    rw [if_pos (by decide), if_pos (by decide)]
    simp only [Sem.run_bind, p1, p2, Result.andThen_ok, run_equalIn_int w 9998 3 .i64 .i64 _ _ Try.underlying3]
    unfold sameVec
    by_cases h1 : a = c
    · subst h1
      simp only [beq_self_eq_true, Bool.not_true, Bool.false_eq_true, if_false, Sem.run_bind, p3, p4, Result.andThen_ok, run_equalIn_int w 9998 3 .i64 .i64 _ _ Try.underlying3]
      by_cases h2 : b = d
      · subst h2; simp
      · have : (b == d) = false := by simpa using h2
        simp [this, h2]
    · have : (a == c) = false := by simpa using h1
      simp [this, h1]
theorem Try.guard_vec : Try.prog.eqGuardType Try.prog.depth 33 = false := by kernel_rfl
section
variable {ρ : Operand → Value} {o : Oper} {w : World} {R : Value → World → Prop}
theorem y_eqlVec {t' : TypeId} {x y : Operand} {a b c d : Int} {q : Bool} (ho : o.op = .binOp .eql 33 x y t') (hx : ρ x = .agg #[.int .i64 a, .int .i64 b]) (hy : ρ y = .agg #[.int .i64 c, .int .i64 d]) (hr : sameVec a b c d = q) (h : R (.bool q) w) : Yields Try.prog ρ o w R :=
  y_of (v := .bool (sameVec a b c d)) (w' := w) (by simp only [execOp, ho, hx, hy, Sem.run_bind, run_eqGuard_agg w .eql _ _ _ _ _ Try.guard_vec, run_eql_struct, run_same_vec, Result.andThen_ok, Sem.run_pure]) (by rw [hr]; exact h)
theorem y_neqVec {t' : TypeId} {x y : Operand} {a b c d : Int} {q : Bool} (ho : o.op = .binOp .neq 33 x y t') (hx : ρ x = .agg #[.int .i64 a, .int .i64 b]) (hy : ρ y = .agg #[.int .i64 c, .int .i64 d]) (hr : (!sameVec a b c d) = q) (h : R (.bool q) w) : Yields Try.prog ρ o w R :=
  y_of (v := .bool (!sameVec a b c d)) (w' := w) (by simp only [execOp, ho, hx, hy, Sem.run_bind, run_eqGuard_agg w .neq _ _ _ _ _ Try.guard_vec, run_neq_struct, run_same_vec, Result.andThen_ok, Sem.run_pure]) (by rw [hr]; exact h)
end

def Cin (w : World) (T : Nat → Prop) (p : Nat) (n : Int) : Prop := T = onB p ∧ Cel w p 3 (.int .i64 n)
theorem Cin.live {w : World} {T : Nat → Prop} {p : Nat} {n : Int} (h : Cin w T p n) : Live w T := by
  obtain ⟨rfl, h⟩ := h; exact onB_live h.lt
theorem Cin.all {S : Nat → Prop} {w w' : World} {T : Nat → Prop} {p : Nat} {n : Int} (h : Cin w T p n) (k : Kept S w w') (ha : Apart T S) : Cin w' T p n := by
  obtain ⟨rfl, h⟩ := h; exact ⟨rfl, h.all k (ha p rfl)⟩
theorem Cin.cells {w : World} {T : Nat → Prop} {p : Nat} {n : Int} (h : Cin w T p n) : Cells w T := by
  obtain ⟨rfl, h⟩ := h; exact h.cells
theorem Cin.row {A B : World} {row : Option Nat} {m p : Nat} {T : Nat → Prop} {n : Int} (h : Cin A T p n) (hg : A.grownBy B row) (hr : RowNew m A row) : Cin B T p n := h.all (kept_row hg) (h.cells.apart hr)

set_option maxHeartbeats 4000000 in
set_option maxRecDepth 100000 in
theorem mo_mayGo (n : Int) (w0 : World) :
    Calls Try.prog 46 #[.int .i64 (n)] w0 fun e w' => e = .returned (.bool (decide (-31 ≤ n ∧ n ≤ 31))) ∧ Kept (fun _ => False) w0 w' := by
  refine calls_wq (args := [.int .i64 (n)]) 9 Try.func46 rfl rfl (Nat.le_of_ble_eq_true rfl) ?_
  have K0 := Kept.refl (fun _ => False) w0
  refine wq_seq ?_
  refine wq_region ?_
  refine wl_v (.bool false) rfl rfl (y_asg rfl rfl ⟨rfl, rfl⟩) ?_
  refine wl_nil fun F1 hF2 => ?_
  have s3 : F1 0 = .int .i64 (n) := (hF2 0).trans rfl
  have s4 : F1 9 = undef := (hF2 9).trans rfl
  clear hF2
  refine then_normal ?_
  refine wq_seq ?_
  by_cases d5 : (-31) ≤ (n)
  · skip
    refine wq_region ?_
    refine wl_v (.int .i64 (n)) rfl rfl (y_mov rfl s3 ⟨rfl, rfl⟩) ?_
    refine wl_v (.bool true) rfl rfl (y_geq rfl rfl rfl (decide_eq_true d5) ⟨rfl, rfl⟩) ?_
    refine wl_v (.bool true) rfl rfl (y_mov rfl rfl ⟨rfl, rfl⟩) ?_
    refine wl_vw (.int .i64 (n)) 2 true 5 rfl rfl rfl rfl rfl (y_mov rfl s3 ⟨rfl, rfl⟩) ?_
    refine wl_vw (.bool (decide ((n) ≤ (31)))) 2 true 5 rfl rfl rfl rfl rfl (y_leq rfl rfl rfl rfl ⟨rfl, rfl⟩) ?_
    refine wl_v (.bool (decide ((n) ≤ (31)))) rfl rfl (y_pickT rfl rfl rfl ⟨rfl, rfl⟩) ?_
    refine wl_v (.bool (decide ((n) ≤ (31)))) rfl rfl (y_asg rfl rfl ⟨rfl, rfl⟩) ?_
    refine wl_nil fun F6 hF7 => ?_
    have s8 : F6 9 = undef := (hF7 9).trans s4
    have s9 : F6 2 = .bool (decide ((n) ≤ (31))) := (hF7 2).trans rfl
    clear hF7
    refine then_normal ?_
    refine wq_ret ?_
    exact end_tmp (v := .bool (decide ((n) ≤ (31)))) s8 rfl rfl s9 ⟨(retB (by first | exact (decide_eq_true (by omega)).symm | exact (decide_eq_false (by omega)).symm | exact decide_eq_decide.2 (by omega))), K0⟩
  · skip
    refine wq_region ?_
    refine wl_v (.int .i64 (n)) rfl rfl (y_mov rfl s3 ⟨rfl, rfl⟩) ?_
    refine wl_v (.bool false) rfl rfl (y_geq rfl rfl rfl (decide_eq_false d5) ⟨rfl, rfl⟩) ?_
    refine wl_v (.bool false) rfl rfl (y_mov rfl rfl ⟨rfl, rfl⟩) ?_
    refine wl_unless 2 true 5 rfl rfl rfl (Or.inl rfl) rfl ?_
    refine wl_unless 2 true 5 rfl rfl rfl (Or.inl rfl) rfl ?_
    refine wl_v (.bool false) rfl rfl (y_pickF rfl rfl rfl ⟨rfl, rfl⟩) ?_
    refine wl_v (.bool false) rfl rfl (y_asg rfl rfl ⟨rfl, rfl⟩) ?_
    refine wl_nil fun F10 hF11 => ?_
    have s12 : F10 9 = undef := (hF11 9).trans s4
    have s13 : F10 2 = .bool false := (hF11 2).trans rfl
    clear hF11
    refine then_normal ?_
    refine wq_ret ?_
    exact end_tmp (v := .bool false) s12 rfl rfl s13 ⟨(retB (by first | exact (decide_eq_true (by omega)).symm | exact (decide_eq_false (by omega)).symm | exact decide_eq_decide.2 (by omega))), K0⟩
set_option maxHeartbeats 4000000 in
set_option maxRecDepth 100000 in
theorem mo_check (X Y : Int) (w0 : World) :
    Calls Try.prog 31 #[.agg #[.int .i64 (X), .int .i64 (Y)]] w0 fun e w' => e = .returned (.int .i64 (vecE X Y)) ∧ Kept (fun _ => False) w0 w' := by
  refine calls_wq (args := [.agg #[.int .i64 (X), .int .i64 (Y)]]) 13 Try.func31 rfl rfl (Nat.le_of_ble_eq_true rfl) ?_
  have K0 := Kept.refl (fun _ => False) w0
  refine wq_seq ?_
  refine wq_region ?_
  refine wl_box_stc (vs := [.int .i64 (X), .int .i64 (Y)]) rfl rfl rfl rfl fun p1 w2 B4 g5 k3 => ?_
  have gr6 : Grew w0 noB (onB p1) := Grew.new K0 g5
  have K7 := K0.trans k3 (fun _ _ x => x.elim)
  refine wl_v (.int .i64 (0)) rfl rfl (y_asg rfl rfl ⟨rfl, rfl⟩) ?_
  refine wl_nil fun F8 hF9 => ?_
  have s10 : F8 13 = undef := (hF9 13).trans rfl
  have s11 : F8 1 = .pointer (some ⟨p1, 0, none⟩) := (hF9 1).trans rfl
  clear hF9
  refine then_normal ?_
  refine wq_seq ?_
  refine wq_seq ?_
  by_cases d12 : -31 ≤ (X) ∧ (X) ≤ 31
  · skip
    by_cases d13 : -31 ≤ (Y) ∧ (Y) ≤ 31
    · skip
      refine wq_region ?_
      refine wl_v (.pointer (some ⟨p1, 0, none⟩)) rfl rfl (y_fieldR (n := 1) rfl s11 Try.underlying33 rfl (by kernel_rfl) (by decide) rfl ⟨rfl, rfl⟩) ?_
      refine wl_v (.int .i64 (X)) rfl rfl (y_ld_stc rfl rfl Try.underlying3 B4 rfl rfl ⟨rfl, rfl⟩) ?_
      refine wl_call (R := fun v_ w_ => v_ = .bool true ∧ Kept (fun _ => False) w2 w_) rfl rfl (y_cs rfl rfl rfl (fun _ _ => by kernel_rfl) (ev_func _) (vsC rfl vsN) (mo_mayGo (X)  _   ) (fun e_ w_ h_ => ⟨_, h_.1, (congrArg Value.bool (decide_eq_true d12)), h_.2⟩)) ?_
      rintro _ w14 ⟨rfl, k15⟩
      have B16 := B4.all k15 id
      have K17 := K7.trans k15 (fun _ _ x => x.elim)
      refine wl_v (.bool false) rfl rfl (y_not rfl rfl rfl ⟨rfl, rfl⟩) ?_
      refine wl_v (.bool false) rfl rfl (y_mov rfl rfl ⟨rfl, rfl⟩) ?_
      refine wl_vw (.pointer (some ⟨p1, 1, none⟩)) 4 false 7 rfl rfl rfl rfl rfl (y_fieldR (n := 1) rfl s11 Try.underlying33 rfl (by kernel_rfl) (by decide) rfl ⟨rfl, rfl⟩) ?_
      refine wl_vw (.int .i64 (Y)) 4 false 7 rfl rfl rfl rfl rfl (y_ld_stc rfl rfl Try.underlying3 B16 rfl rfl ⟨rfl, rfl⟩) ?_
      refine wl_callw (R := fun v_ w_ => v_ = .bool true ∧ Kept (fun _ => False) w14 w_) 4 false 7 rfl rfl rfl rfl rfl (y_cs rfl rfl rfl (fun _ _ => by kernel_rfl) (ev_func _) (vsC rfl vsN) (mo_mayGo (Y)  _   ) (fun e_ w_ h_ => ⟨_, h_.1, (congrArg Value.bool (decide_eq_true d13)), h_.2⟩)) ?_
      rintro _ w18 ⟨rfl, k19⟩
      have B20 := B16.all k19 id
      have K21 := K17.trans k19 (fun _ _ x => x.elim)
      refine wl_vw (.bool false) 4 false 7 rfl rfl rfl rfl rfl (y_not rfl rfl rfl ⟨rfl, rfl⟩) ?_
      refine wl_v (.bool false) rfl rfl (y_pickF rfl rfl rfl ⟨rfl, rfl⟩) ?_
      refine wl_nil fun F22 hF23 => ?_
      have s24 : F22 13 = undef := (hF23 13).trans s10
      have s25 : F22 12 = .bool false := (hF23 12).trans rfl
      clear hF23
      refine then_normal ?_
      refine wq_cond (t := false) s25 (fun e => by cases e) (fun _ => ?_)
      refine wq_skip ?_
      refine then_normal ?_
      refine wq_seq ?_
      refine wq_region ?_
      refine wl_v (.int .i64 (0)) rfl rfl (y_asg rfl rfl ⟨rfl, rfl⟩) ?_
      refine wl_nil fun F26 hF27 => ?_
      have s28 : F26 13 = undef := (hF27 13).trans s24
      have s29 : F26 2 = .int .i64 (0) := (hF27 2).trans rfl
      clear hF27
      refine then_normal ?_
      refine wq_ret ?_
      exact end_tmp (v := .int .i64 (0)) s28 rfl rfl s29 ⟨(by first | rw [vecE_yes (by unfold vecOk; omega)] | rw [vecE_no (by unfold vecOk; omega)]), K21⟩
    · skip
      refine wq_region ?_
      refine wl_v (.pointer (some ⟨p1, 0, none⟩)) rfl rfl (y_fieldR (n := 1) rfl s11 Try.underlying33 rfl (by kernel_rfl) (by decide) rfl ⟨rfl, rfl⟩) ?_
      refine wl_v (.int .i64 (X)) rfl rfl (y_ld_stc rfl rfl Try.underlying3 B4 rfl rfl ⟨rfl, rfl⟩) ?_
      refine wl_call (R := fun v_ w_ => v_ = .bool true ∧ Kept (fun _ => False) w2 w_) rfl rfl (y_cs rfl rfl rfl (fun _ _ => by kernel_rfl) (ev_func _) (vsC rfl vsN) (mo_mayGo (X)  _   ) (fun e_ w_ h_ => ⟨_, h_.1, (congrArg Value.bool (decide_eq_true d12)), h_.2⟩)) ?_
      rintro _ w30 ⟨rfl, k31⟩
      have B32 := B4.all k31 id
      have K33 := K7.trans k31 (fun _ _ x => x.elim)
      refine wl_v (.bool false) rfl rfl (y_not rfl rfl rfl ⟨rfl, rfl⟩) ?_
      refine wl_v (.bool false) rfl rfl (y_mov rfl rfl ⟨rfl, rfl⟩) ?_
      refine wl_vw (.pointer (some ⟨p1, 1, none⟩)) 4 false 7 rfl rfl rfl rfl rfl (y_fieldR (n := 1) rfl s11 Try.underlying33 rfl (by kernel_rfl) (by decide) rfl ⟨rfl, rfl⟩) ?_
      refine wl_vw (.int .i64 (Y)) 4 false 7 rfl rfl rfl rfl rfl (y_ld_stc rfl rfl Try.underlying3 B32 rfl rfl ⟨rfl, rfl⟩) ?_
      refine wl_callw (R := fun v_ w_ => v_ = .bool false ∧ Kept (fun _ => False) w30 w_) 4 false 7 rfl rfl rfl rfl rfl (y_cs rfl rfl rfl (fun _ _ => by kernel_rfl) (ev_func _) (vsC rfl vsN) (mo_mayGo (Y)  _   ) (fun e_ w_ h_ => ⟨_, h_.1, (congrArg Value.bool (decide_eq_false d13)), h_.2⟩)) ?_
      rintro _ w34 ⟨rfl, k35⟩
      have B36 := B32.all k35 id
      have K37 := K33.trans k35 (fun _ _ x => x.elim)
      refine wl_vw (.bool true) 4 false 7 rfl rfl rfl rfl rfl (y_not rfl rfl rfl ⟨rfl, rfl⟩) ?_
      refine wl_v (.bool true) rfl rfl (y_pickF rfl rfl rfl ⟨rfl, rfl⟩) ?_
      refine wl_nil fun F38 hF39 => ?_
      have s40 : F38 13 = undef := (hF39 13).trans s10
      have s41 : F38 12 = .bool true := (hF39 12).trans rfl
      clear hF39
      refine then_normal ?_
      refine wq_cond (t := true) s41 (fun _ => ?_) (fun e => by cases e)
      refine wq_seq ?_
      refine wq_region ?_
      refine wl_v (.int .i64 (90)) rfl rfl (y_asg rfl rfl ⟨rfl, rfl⟩) ?_
      refine wl_nil fun F42 hF43 => ?_
      have s44 : F42 13 = undef := (hF43 13).trans s40
      have s45 : F42 2 = .int .i64 (90) := (hF43 2).trans rfl
      clear hF43
      refine then_normal ?_
      refine wq_ret ?_
      refine then_ret ?_
      exact end_tmp (v := .int .i64 (90)) s44 rfl rfl s45 ⟨(by first | rw [vecE_yes (by unfold vecOk; omega)] | rw [vecE_no (by unfold vecOk; omega)]), K37⟩
  · skip
    refine wq_region ?_
    refine wl_v (.pointer (some ⟨p1, 0, none⟩)) rfl rfl (y_fieldR (n := 1) rfl s11 Try.underlying33 rfl (by kernel_rfl) (by decide) rfl ⟨rfl, rfl⟩) ?_
    refine wl_v (.int .i64 (X)) rfl rfl (y_ld_stc rfl rfl Try.underlying3 B4 rfl rfl ⟨rfl, rfl⟩) ?_
    refine wl_call (R := fun v_ w_ => v_ = .bool false ∧ Kept (fun _ => False) w2 w_) rfl rfl (y_cs rfl rfl rfl (fun _ _ => by kernel_rfl) (ev_func _) (vsC rfl vsN) (mo_mayGo (X)  _   ) (fun e_ w_ h_ => ⟨_, h_.1, (congrArg Value.bool (decide_eq_false d12)), h_.2⟩)) ?_
    rintro _ w46 ⟨rfl, k47⟩
    have B48 := B4.all k47 id
    have K49 := K7.trans k47 (fun _ _ x => x.elim)
    refine wl_v (.bool true) rfl rfl (y_not rfl rfl rfl ⟨rfl, rfl⟩) ?_
    refine wl_v (.bool true) rfl rfl (y_mov rfl rfl ⟨rfl, rfl⟩) ?_
    refine wl_unless 4 false 7 rfl rfl rfl (Or.inl rfl) rfl ?_
    refine wl_unless 4 false 7 rfl rfl rfl (Or.inl rfl) rfl ?_
    refine wl_unless 4 false 7 rfl rfl rfl (Or.inl rfl) rfl ?_
    refine wl_unless 4 false 7 rfl rfl rfl (Or.inl rfl) rfl ?_
    refine wl_v (.bool true) rfl rfl (y_pickT rfl rfl rfl ⟨rfl, rfl⟩) ?_
    refine wl_nil fun F50 hF51 => ?_
    have s52 : F50 13 = undef := (hF51 13).trans s10
    have s53 : F50 12 = .bool true := (hF51 12).trans rfl
    clear hF51
    refine then_normal ?_
    refine wq_cond (t := true) s53 (fun _ => ?_) (fun e => by cases e)
    refine wq_seq ?_
    refine wq_region ?_
    refine wl_v (.int .i64 (90)) rfl rfl (y_asg rfl rfl ⟨rfl, rfl⟩) ?_
    refine wl_nil fun F54 hF55 => ?_
    have s56 : F54 13 = undef := (hF55 13).trans s52
    have s57 : F54 2 = .int .i64 (90) := (hF55 2).trans rfl
    clear hF55
    refine then_normal ?_
    refine wq_ret ?_
    refine then_ret ?_
    exact end_tmp (v := .int .i64 (90)) s56 rfl rfl s57 ⟨(by first | rw [vecE_yes (by unfold vecOk; omega)] | rw [vecE_no (by unfold vecOk; omega)]), K49⟩
end Go.Proofs.Ythhagejcgobfgaa
namespace Go.Proofs.Ythhagejcgobfgaa
open Go.RowKit

theorem between_never (a b c : Int) (h : False) (w0 : World) : Calls Try.prog 47 #[.int .i64 a, .int .i64 b, .int .i64 c] w0 fun e w' => e = .returned (.int .i64 (med a b c)) ∧ Kept (fun _ => False) w0 w' := h.elim
set_option maxHeartbeats 4000000 in
set_option maxRecDepth 100000 in
theorem vref_between0 (a b c : Int) (w0 : World) (h : a ≤ b) :
    Calls Try.prog 47 #[.int .i64 (a), .int .i64 (b), .int .i64 (c)] w0 fun e w' => e = .returned (.int .i64 (med a b c)) ∧ Kept (fun _ => False) w0 w' := by
  refine calls_wq (args := [.int .i64 (a), .int .i64 (b), .int .i64 (c)]) 19 Try.func47 rfl rfl (Nat.le_of_ble_eq_true rfl) ?_
  have K0 := Kept.refl (fun _ => False) w0
  refine wq_seq ?_
  refine wq_region ?_
  refine wl_v (.int .i64 (0)) rfl rfl (y_asg rfl rfl ⟨rfl, rfl⟩) ?_
  refine wl_nil fun F1 hF2 => ?_
  have s3 : F1 0 = .int .i64 (a) := (hF2 0).trans rfl
  have s4 : F1 1 = .int .i64 (b) := (hF2 1).trans rfl
  have s5 : F1 2 = .int .i64 (c) := (hF2 2).trans rfl
  have s6 : F1 19 = undef := (hF2 19).trans rfl
  clear hF2
  refine then_normal ?_
  refine wq_seq ?_
  refine wq_seq ?_
  refine wq_region ?_
  refine wl_v (.int .i64 (a)) rfl rfl (y_mov rfl s3 ⟨rfl, rfl⟩) ?_
  refine wl_v (.int .i64 (b)) rfl rfl (y_mov rfl s4 ⟨rfl, rfl⟩) ?_
  refine wl_v (.bool (decide ((b) < (a)))) rfl rfl (y_gtr rfl rfl rfl rfl ⟨rfl, rfl⟩) ?_
  refine wl_nil fun F7 hF8 => ?_
  have s9 : F7 0 = .int .i64 (a) := (hF8 0).trans s3
  have s10 : F7 1 = .int .i64 (b) := (hF8 1).trans s4
  have s11 : F7 2 = .int .i64 (c) := (hF8 2).trans s5
  have s12 : F7 19 = undef := (hF8 19).trans s6
  have s13 : F7 9 = .bool (decide ((b) < (a))) := (hF8 9).trans rfl
  clear hF8
  refine then_normal ?_
  refine wq_cond s13 (fun c14 => ?_) (fun c14 => ?_)
  · replace c14 := of_decide_eq_true c14
    refine wq_seq ?_
    refine wq_region ?_
    refine wl_v (.int .i64 (b)) rfl rfl (y_mov rfl s10 ⟨rfl, rfl⟩) ?_
    refine wl_v (.int .i64 (a)) rfl rfl (y_mov rfl s9 ⟨rfl, rfl⟩) ?_
    refine wl_v (.int .i64 (c)) rfl rfl (y_mov rfl s11 ⟨rfl, rfl⟩) ?_
    refine wl_call (R := fun v_ w_ => v_ = .int .i64 (med (b) (a) (c)) ∧ Kept (fun _ => False) w0 w_) rfl rfl (y_cs rfl rfl rfl (fun _ _ => by kernel_rfl) (ev_func _) (vsC rfl (vsC rfl (vsC rfl vsN))) (between_never b a c (by omega) _) (fun e_ w_ h_ => ⟨_, h_.1, rfl, h_.2⟩)) ?_
    rintro _ w15 ⟨rfl, k16⟩
    have K17 := K0.trans k16 (fun _ _ x => x.elim)
    refine wl_v (.int .i64 (med (b) (a) (c))) rfl rfl (y_asg rfl rfl ⟨rfl, rfl⟩) ?_
    refine wl_nil fun F18 hF19 => ?_
    have s20 : F18 19 = undef := (hF19 19).trans s12
    have s21 : F18 6 = .int .i64 (med (b) (a) (c)) := (hF19 6).trans rfl
    clear hF19
    refine then_normal ?_
    refine wq_ret ?_
    refine then_ret ?_
    exact end_tmp (v := .int .i64 (med (b) (a) (c))) s20 rfl rfl s21 ⟨(by first | rfl | rw [med_swap]), K17⟩
  · replace c14 := of_decide_eq_false c14
    refine wq_skip ?_
    refine then_normal ?_
    refine wq_seq ?_
    refine wq_region ?_
    refine wl_v (.int .i64 (a)) rfl rfl (y_mov rfl s9 ⟨rfl, rfl⟩) ?_
    refine wl_v (.int .i64 (b)) rfl rfl (y_mov rfl s10 ⟨rfl, rfl⟩) ?_
    refine wl_v (.int .i64 (c)) rfl rfl (y_mov rfl s11 ⟨rfl, rfl⟩) ?_
    refine wl_v (.int .i64 (min (b) (c))) rfl rfl (y_minR rfl rfl rfl rfl ⟨rfl, rfl⟩) ?_
    refine wl_v (.int .i64 (med a b c)) rfl rfl (y_maxR rfl rfl rfl ((by unfold med; omega)) ⟨rfl, rfl⟩) ?_
    refine wl_v (.int .i64 (med a b c)) rfl rfl (y_asg rfl rfl ⟨rfl, rfl⟩) ?_
    refine wl_nil fun F22 hF23 => ?_
    have s24 : F22 19 = undef := (hF23 19).trans s12
    have s25 : F22 6 = .int .i64 (med a b c) := (hF23 6).trans rfl
    clear hF23
    refine then_normal ?_
    refine wq_ret ?_
    exact end_tmp (v := .int .i64 (med a b c)) s24 rfl rfl s25 ⟨(by first | rfl | rw [med_swap]), K0⟩
set_option maxHeartbeats 4000000 in
set_option maxRecDepth 100000 in
theorem vref_between (a b c : Int) (w0 : World) :
    Calls Try.prog 47 #[.int .i64 (a), .int .i64 (b), .int .i64 (c)] w0 fun e w' => e = .returned (.int .i64 (med a b c)) ∧ Kept (fun _ => False) w0 w' := by
  refine calls_wq (args := [.int .i64 (a), .int .i64 (b), .int .i64 (c)]) 19 Try.func47 rfl rfl (Nat.le_of_ble_eq_true rfl) ?_
  have K0 := Kept.refl (fun _ => False) w0
  refine wq_seq ?_
  refine wq_region ?_
  refine wl_v (.int .i64 (0)) rfl rfl (y_asg rfl rfl ⟨rfl, rfl⟩) ?_
  refine wl_nil fun F1 hF2 => ?_
  have s3 : F1 0 = .int .i64 (a) := (hF2 0).trans rfl
  have s4 : F1 1 = .int .i64 (b) := (hF2 1).trans rfl
  have s5 : F1 2 = .int .i64 (c) := (hF2 2).trans rfl
  have s6 : F1 19 = undef := (hF2 19).trans rfl
  clear hF2
  refine then_normal ?_
  refine wq_seq ?_
  refine wq_seq ?_
  refine wq_region ?_
  refine wl_v (.int .i64 (a)) rfl rfl (y_mov rfl s3 ⟨rfl, rfl⟩) ?_
  refine wl_v (.int .i64 (b)) rfl rfl (y_mov rfl s4 ⟨rfl, rfl⟩) ?_
  refine wl_v (.bool (decide ((b) < (a)))) rfl rfl (y_gtr rfl rfl rfl rfl ⟨rfl, rfl⟩) ?_
  refine wl_nil fun F7 hF8 => ?_
  have s9 : F7 0 = .int .i64 (a) := (hF8 0).trans s3
  have s10 : F7 1 = .int .i64 (b) := (hF8 1).trans s4
  have s11 : F7 2 = .int .i64 (c) := (hF8 2).trans s5
  have s12 : F7 19 = undef := (hF8 19).trans s6
  have s13 : F7 9 = .bool (decide ((b) < (a))) := (hF8 9).trans rfl
  clear hF8
  refine then_normal ?_
  refine wq_cond s13 (fun c14 => ?_) (fun c14 => ?_)
  · replace c14 := of_decide_eq_true c14
    refine wq_seq ?_
    refine wq_region ?_
    refine wl_v (.int .i64 (b)) rfl rfl (y_mov rfl s10 ⟨rfl, rfl⟩) ?_
    refine wl_v (.int .i64 (a)) rfl rfl (y_mov rfl s9 ⟨rfl, rfl⟩) ?_
    refine wl_v (.int .i64 (c)) rfl rfl (y_mov rfl s11 ⟨rfl, rfl⟩) ?_
    refine wl_call (R := fun v_ w_ => v_ = .int .i64 (med (b) (a) (c)) ∧ Kept (fun _ => False) w0 w_) rfl rfl (y_cs rfl rfl rfl (fun _ _ => by kernel_rfl) (ev_func _) (vsC rfl (vsC rfl (vsC rfl vsN))) (vref_between0 b a c _ (by omega)) (fun e_ w_ h_ => ⟨_, h_.1, rfl, h_.2⟩)) ?_
    rintro _ w15 ⟨rfl, k16⟩
    have K17 := K0.trans k16 (fun _ _ x => x.elim)
    refine wl_v (.int .i64 (med (b) (a) (c))) rfl rfl (y_asg rfl rfl ⟨rfl, rfl⟩) ?_
    refine wl_nil fun F18 hF19 => ?_
    have s20 : F18 19 = undef := (hF19 19).trans s12
    have s21 : F18 6 = .int .i64 (med (b) (a) (c)) := (hF19 6).trans rfl
    clear hF19
    refine then_normal ?_
    refine wq_ret ?_
    refine then_ret ?_
    exact end_tmp (v := .int .i64 (med (b) (a) (c))) s20 rfl rfl s21 ⟨(by first | rfl | rw [med_swap]), K17⟩
  · replace c14 := of_decide_eq_false c14
    refine wq_skip ?_
    refine then_normal ?_
    refine wq_seq ?_
    refine wq_region ?_
    refine wl_v (.int .i64 (a)) rfl rfl (y_mov rfl s9 ⟨rfl, rfl⟩) ?_
    refine wl_v (.int .i64 (b)) rfl rfl (y_mov rfl s10 ⟨rfl, rfl⟩) ?_
    refine wl_v (.int .i64 (c)) rfl rfl (y_mov rfl s11 ⟨rfl, rfl⟩) ?_
    refine wl_v (.int .i64 (min (b) (c))) rfl rfl (y_minR rfl rfl rfl rfl ⟨rfl, rfl⟩) ?_
    refine wl_v (.int .i64 (med a b c)) rfl rfl (y_maxR rfl rfl rfl ((by unfold med; omega)) ⟨rfl, rfl⟩) ?_
    refine wl_v (.int .i64 (med a b c)) rfl rfl (y_asg rfl rfl ⟨rfl, rfl⟩) ?_
    refine wl_nil fun F22 hF23 => ?_
    have s24 : F22 19 = undef := (hF23 19).trans s12
    have s25 : F22 6 = .int .i64 (med a b c) := (hF23 6).trans rfl
    clear hF23
    refine then_normal ?_
    refine wq_ret ?_
    exact end_tmp (v := .int .i64 (med a b c)) s24 rfl rfl s25 ⟨(by first | rfl | rw [med_swap]), K0⟩
set_option maxHeartbeats 4000000 in
set_option maxRecDepth 100000 in
theorem vref_median (a b c d m n : Int) (w0 : World) :
    Calls Try.prog 33 #[.agg #[.int .i64 (a), .int .i64 (b)], .agg #[.int .i64 (c), .int .i64 (d)], .agg #[.int .i64 (m), .int .i64 (n)]] w0 fun e w' => e = .returned (.agg #[.int .i64 (med a c m), .int .i64 (med b d n)]) ∧ Kept (fun _ => False) w0 w' := by
  refine calls_wq (args := [.agg #[.int .i64 (a), .int .i64 (b)], .agg #[.int .i64 (c), .int .i64 (d)], .agg #[.int .i64 (m), .int .i64 (n)]]) 22 Try.func33 rfl rfl (Nat.le_of_ble_eq_true rfl) ?_
  have K0 := Kept.refl (fun _ => False) w0
  refine wq_seq ?_
  refine wq_region ?_
  refine wl_box_stc (vs := [.int .i64 (a), .int .i64 (b)]) rfl rfl rfl rfl fun p1 w2 B4 g5 k3 => ?_
  have gr6 : Grew w0 noB (onB p1) := Grew.new K0 g5
  have K7 := K0.trans k3 (fun _ _ x => x.elim)
  refine wl_box_stc (vs := [.int .i64 (c), .int .i64 (d)]) rfl rfl rfl rfl fun p8 w9 B11 g12 k10 => ?_
  have gr13 : Grew w0 noB (onB p8) := Grew.new K7 g12
  have ap14 : Apart (onB p8) (onB p1) := Apart.new g12 (onB_live (B4).lt)
  have B15 := B4.all k10 id
  have K16 := K7.trans k10 (fun _ _ x => x.elim)
  refine wl_box_stc (vs := [.int .i64 (m), .int .i64 (n)]) rfl rfl rfl rfl fun p17 w18 B20 g21 k19 => ?_
  have gr22 : Grew w0 noB (onB p17) := Grew.new K16 g21
  have ap23 : Apart (onB p17) (onB p1) := Apart.new g21 (onB_live (B15).lt)
  have ap24 : Apart (onB p17) (onB p8) := Apart.new g21 (onB_live (B11).lt)
  have B25 := B15.all k19 id
  have B26 := B11.all k19 id
  have K27 := K16.trans k19 (fun _ _ x => x.elim)
  refine wl_alloc_stc (n := 2) (vs := [.int .i64 (0), .int .i64 (0)]) rfl rfl rfl (by kernel_rfl) fun p28 w29 B31 g32 k30 => ?_
  have gr33 : Grew w0 noB (onB p28) := Grew.new K27 g32
  have ap34 : Apart (onB p28) (onB p1) := Apart.new g32 (onB_live (B25).lt)
  have ap35 : Apart (onB p28) (onB p8) := Apart.new g32 (onB_live (B26).lt)
  have ap36 : Apart (onB p28) (onB p17) := Apart.new g32 (onB_live (B20).lt)
  have B37 := B25.all k30 id
  have B38 := B26.all k30 id
  have B39 := B20.all k30 id
  have K40 := K27.trans k30 (fun _ _ x => x.elim)
  refine wl_nil fun F41 hF42 => ?_
  have s43 : F41 22 = undef := (hF42 22).trans rfl
  have s44 : F41 3 = .pointer (some ⟨p1, 0, none⟩) := (hF42 3).trans rfl
  have s45 : F41 4 = .pointer (some ⟨p8, 0, none⟩) := (hF42 4).trans rfl
  have s46 : F41 5 = .pointer (some ⟨p17, 0, none⟩) := (hF42 5).trans rfl
  have s47 : F41 6 = .pointer (some ⟨p28, 0, none⟩) := (hF42 6).trans rfl
  clear hF42
  refine then_normal ?_
  refine wq_seq ?_
  refine wq_tail 15 [some 7, some 8, some 9, some 10, some 11, some 12, some 13, some 14, some 15, some 16, some 17, some 18, some 19, some 20, some 21] [Pd.eq (.pointer (some ⟨p1, 0, none⟩)), Pd.eq (.int .i64 (a)), Pd.eq (.pointer (some ⟨p8, 0, none⟩)), Pd.eq (.int .i64 (c)), Pd.eq (.pointer (some ⟨p17, 0, none⟩)), Pd.eq (.int .i64 (m)), Pd.eq (.int .i64 (med (a) (c) (m))), Pd.eq (.pointer (some ⟨p1, 1, none⟩)), Pd.eq (.int .i64 (b)), Pd.eq (.pointer (some ⟨p8, 1, none⟩)), Pd.eq (.int .i64 (d)), Pd.eq (.pointer (some ⟨p17, 1, none⟩)), Pd.eq (.int .i64 (n)), Pd.eq (.int .i64 (med (b) (d) (n))), Pd.eq (.agg #[.int .i64 (med (a) (c) (m)), .int .i64 (med (b) (d) (n))])] (by kernel_rfl) (by kernel_rfl) (by kernel_rfl) ?_ ?_
  · refine stepsF_cons ?_ ?_
    · refine StepF.one rfl fun F_ w_ hR hout hD => ?_
      exact (y_fieldR (n := 1) rfl ((hout 3 rfl (by decide)).trans s44) Try.underlying33 rfl (by kernel_rfl) (by decide) rfl ⟨rfl, Kept.refl _ _⟩)
    refine stepsF_cons ?_ ?_
    · refine StepF.one rfl fun F_ w_ hR hout hD => ?_
      have g7 : F_ 7 = .pointer (some ⟨p1, 0, none⟩) := (hD.get 0 rfl rfl rfl)
      exact (y_ld_stc rfl g7 Try.underlying3 (B37.all hR id) rfl rfl ⟨rfl, Kept.refl _ _⟩)
    refine stepsF_cons ?_ ?_
    · refine StepF.one rfl fun F_ w_ hR hout hD => ?_
      exact (y_fieldR (n := 1) rfl ((hout 4 rfl (by decide)).trans s45) Try.underlying33 rfl (by kernel_rfl) (by decide) rfl ⟨rfl, Kept.refl _ _⟩)
    refine stepsF_cons ?_ ?_
    · refine StepF.one rfl fun F_ w_ hR hout hD => ?_
      have g9 : F_ 9 = .pointer (some ⟨p8, 0, none⟩) := (hD.get 0 rfl rfl rfl)
      exact (y_ld_stc rfl g9 Try.underlying3 (B38.all hR id) rfl rfl ⟨rfl, Kept.refl _ _⟩)
    refine stepsF_cons ?_ ?_
    · refine StepF.one rfl fun F_ w_ hR hout hD => ?_
      exact (y_fieldR (n := 1) rfl ((hout 5 rfl (by decide)).trans s46) Try.underlying33 rfl (by kernel_rfl) (by decide) rfl ⟨rfl, Kept.refl _ _⟩)
    refine stepsF_cons ?_ ?_
    · refine StepF.one rfl fun F_ w_ hR hout hD => ?_
      have g11 : F_ 11 = .pointer (some ⟨p17, 0, none⟩) := (hD.get 0 rfl rfl rfl)
      exact (y_ld_stc rfl g11 Try.underlying3 (B39.all hR id) rfl rfl ⟨rfl, Kept.refl _ _⟩)
    refine stepsF_cons ?_ ?_
    · refine StepF.one rfl fun F_ w_ hR hout hD => ?_
      have g8 : F_ 8 = .int .i64 (a) := (hD.get 0 rfl rfl rfl)
      have g10 : F_ 10 = .int .i64 (c) := (hD.get 1 rfl rfl rfl)
      have g12 : F_ 12 = .int .i64 (m) := (hD.get 2 rfl rfl rfl)
      exact (y_cs rfl rfl rfl (fun _ _ => by kernel_rfl) (ev_func _) (vsC g8 (vsC g10 (vsC g12 vsN))) (vref_between (a) (c) (m)  _   ) (fun e_ w_ h_ => ⟨_, h_.1, rfl, h_.2⟩))
    refine stepsF_cons ?_ ?_
    · refine StepF.one rfl fun F_ w_ hR hout hD => ?_
      exact (y_fieldR (n := 1) rfl ((hout 3 rfl (by decide)).trans s44) Try.underlying33 rfl (by kernel_rfl) (by decide) rfl ⟨rfl, Kept.refl _ _⟩)
    refine stepsF_cons ?_ ?_
    · refine StepF.one rfl fun F_ w_ hR hout hD => ?_
      have g14 : F_ 14 = .pointer (some ⟨p1, 1, none⟩) := (hD.get 0 rfl rfl rfl)
      exact (y_ld_stc rfl g14 Try.underlying3 (B37.all hR id) rfl rfl ⟨rfl, Kept.refl _ _⟩)
    refine stepsF_cons ?_ ?_
    · refine StepF.one rfl fun F_ w_ hR hout hD => ?_
      exact (y_fieldR (n := 1) rfl ((hout 4 rfl (by decide)).trans s45) Try.underlying33 rfl (by kernel_rfl) (by decide) rfl ⟨rfl, Kept.refl _ _⟩)
    refine stepsF_cons ?_ ?_
    · refine StepF.one rfl fun F_ w_ hR hout hD => ?_
      have g16 : F_ 16 = .pointer (some ⟨p8, 1, none⟩) := (hD.get 0 rfl rfl rfl)
      exact (y_ld_stc rfl g16 Try.underlying3 (B38.all hR id) rfl rfl ⟨rfl, Kept.refl _ _⟩)
    refine stepsF_cons ?_ ?_
    · refine StepF.one rfl fun F_ w_ hR hout hD => ?_
      exact (y_fieldR (n := 1) rfl ((hout 5 rfl (by decide)).trans s46) Try.underlying33 rfl (by kernel_rfl) (by decide) rfl ⟨rfl, Kept.refl _ _⟩)
    refine stepsF_cons ?_ ?_
    · refine StepF.one rfl fun F_ w_ hR hout hD => ?_
      have g18 : F_ 18 = .pointer (some ⟨p17, 1, none⟩) := (hD.get 0 rfl rfl rfl)
      exact (y_ld_stc rfl g18 Try.underlying3 (B39.all hR id) rfl rfl ⟨rfl, Kept.refl _ _⟩)
    refine stepsF_cons ?_ ?_
    · refine StepF.one rfl fun F_ w_ hR hout hD => ?_
      have g15 : F_ 15 = .int .i64 (b) := (hD.get 0 rfl rfl rfl)
      have g17 : F_ 17 = .int .i64 (d) := (hD.get 1 rfl rfl rfl)
      have g19 : F_ 19 = .int .i64 (n) := (hD.get 2 rfl rfl rfl)
      exact (y_cs rfl rfl rfl (fun _ _ => by kernel_rfl) (ev_func _) (vsC g15 (vsC g17 (vsC g19 vsN))) (vref_between (b) (d) (n)  _   ) (fun e_ w_ h_ => ⟨_, h_.1, rfl, h_.2⟩))
    refine stepsF_cons ?_ ?_
    · refine StepF.one rfl fun F_ w_ hR hout hD => ?_
      have g13 : F_ 13 = .int .i64 (med (a) (c) (m)) := (hD.get 0 rfl rfl rfl)
      have g20 : F_ 20 = .int .i64 (med (b) (d) (n)) := (hD.get 1 rfl rfl rfl)
      exact (y_buildL (l' := [(0, .int .i64 (med (a) (c) (m))), (1, .int .i64 (med (b) (d) (n)))]) (cells := #[.int .i64 (med (a) (c) (m)), .int .i64 (med (b) (d) (n))]) rfl (bpC g13 (bpC g20 bpN)) (by kernel_rfl) rfl ⟨rfl, Kept.refl _ _⟩)
    exact stepsF_nil
  intro v48 F49 w50 k51 G52 hF53
  have B55 := B37.all k51 id
  have B56 := B38.all k51 id
  have B57 := B39.all k51 id
  have B58 := B31.all k51 id
  have K59 := K40.trans k51 (fun _ _ x => x.elim)
  have s60 : F49 22 = undef := (hF53 22).trans s43
  have s61 : F49 6 = .pointer (some ⟨p28, 0, none⟩) := (hF53 6).trans s47
  have s62 : F49 21 = .agg #[.int .i64 (med (a) (c) (m)), .int .i64 (med (b) (d) (n))] := (hF53 21).trans (G52 14 (by decide))
  clear G52 hF53
  refine wl_store_stc (us := [.int .i64 (med (a) (c) (m)), .int .i64 (med (b) (d) (n))]) stcT_vector rfl rfl rfl s61 s62 B58 rfl (oneI rfl (oneI rfl oneN)) fun w63 B64 k65 => ?_
  have B66 := B55.all k65 (fun x => (((ap34).symm) p1 rfl x))
  have B67 := B56.all k65 (fun x => (((ap35).symm) p8 rfl x))
  have B68 := B57.all k65 (fun x => (((ap36).symm) p17 rfl x))
  have K69 := K59.trans k65 (Grew.ok (S := fun _ => False) gr33 noB_le)
  refine wl_nil fun F70 hF71 => ?_
  have s72 : F70 22 = undef := (hF71 22).trans s60
  have s73 : F70 6 = .pointer (some ⟨p28, 0, none⟩) := (hF71 6).trans s61
  clear hF71
  refine then_normal ?_
  refine wq_ret ?_
  exact end_stc (vs := [.int .i64 (med (a) (c) (m)), .int .i64 (med (b) (d) (n))]) stcT_vector s72 rfl rfl s73 B64 ⟨rfl, K69⟩
end Go.Proofs.Ythhagejcgobfgaa
namespace Go.Proofs.Ythhagejcgobfgaa
open Go.RowKit

def Rdi.ty (e : TypeId) : Prop := e = 79 ∨ e = 5
def Rfi.ty (e : TypeId) : Prop := e = 52
instance (e : TypeId) : Decidable (Rdi.ty e) := by unfold Rdi.ty; infer_instance
instance (e : TypeId) : Decidable (Rfi.ty e) := by unfold Rfi.ty; infer_instance
theorem Rdi.at {w : World} {T : Nat → Prop} {p : Nat} {l : List Nat} {st : Option Nat} (h : Rdi w T p l st) (x : Nat) (hx : T x) : ∃ c e f, w.heap[x]? = some (.cells c e f) ∧ Rdi.ty e := by
  obtain ⟨_, g, rfl, h⟩ := h
  have hr : ∃ a b, RdAt w p g l a b := by
    cases st with
    | none => obtain ⟨a, h⟩ := h; exact ⟨a, _, h⟩
    | some a => exact ⟨a, _, h.2⟩
  obtain ⟨a, b, h1, h2, _⟩ := hr
  rcases hx with rfl | rfl
  · exact ⟨_, _, _, h1, .inl rfl⟩
  · exact ⟨_, _, _, h2, .inr rfl⟩
theorem Rfi.at {w : World} {T : Nat → Prop} {p : Nat} {l : List Nat} {st : Option Nat} (h : Rfi w T p l st) (x : Nat) (hx : T x) : ∃ c e f, w.heap[x]? = some (.cells c e f) ∧ Rfi.ty e := by
  obtain ⟨_, _, rfl, h⟩ := h
  have hr : ∃ a b, RfAt w p l a b := by
    cases st with
    | none => obtain ⟨a, _, h⟩ := h; exact ⟨a, _, h⟩
    | some a => exact ⟨a, _, h.2⟩
  obtain ⟨a, b, h1⟩ := hr
  cases hx
  exact ⟨_, _, _, h1, rfl⟩
end Go.Proofs.Ythhagejcgobfgaa
namespace Go.Proofs.Ythhagejcgobfgaa
open Go.RowKit

/-- A kind of row: the slice's type, its elements', how many cells each has, the cells of an element, the one that is there when it is made. -/
structure RowT (α : Type) where
  t : TypeId
  e : TypeId
  k : Nat
  by_ : Nat
  enc : α → List Value
  d : α
  z : Value
class RowT.Ok {α : Type} (r : RowT α) : Prop where
  slice : Try.prog.underlying r.t = some (.slice r.e)
  info : (Try.prog.info? r.e).map (fun i => (i.zero, i.size, i.bytes)) = some (some r.z, r.k, r.by_)
  cells : r.z.cells.toList = r.enc r.d
  pos : 0 < r.k
  len : ∀ x, (r.enc x).length = r.k
  one : ∀ x, ∀ u ∈ r.enc x, u.oneCell' = true
  small : r.by_ ≤ 64

section
variable {α : Type} {r : RowT α}
theorem flat_len [h : r.Ok] (l : List α) : (l.flatMap r.enc).length = l.length * r.k := by
  induction l with
  | nil => simp
  | cons x l ih => rw [List.flatMap_cons, List.length_append, ih, h.len, List.length_cons, Nat.add_mul]; omega
theorem flat_at [h : r.Ok] (l : List α) (i j : Nat) (hi : i < l.length) (hj : j < r.k) : (l.flatMap r.enc)[i * r.k + j]? = (r.enc (l.getD i r.d))[j]? := by
  induction l generalizing i with
  | nil => simp at hi
  | cons x l ih =>
    rw [List.flatMap_cons]
    cases i with
    | zero => rw [Nat.zero_mul, Nat.zero_add, List.getElem?_append_left (by rw [h.len]; exact hj)]; rfl
    | succ i =>
      have hi' : i < l.length := by simpa using hi
      rw [List.getElem?_append_right (by rw [h.len, Nat.add_mul]; omega), h.len, show (i + 1) * r.k + j - r.k = i * r.k + j by rw [Nat.add_mul]; omega, ih i hi']
      rfl
theorem flat_set [h : r.Ok] (l : List α) (i : Nat) (u : α) (hi : i < l.length) : (l.set i u).flatMap r.enc = (l.flatMap r.enc).take (i * r.k) ++ r.enc u ++ (l.flatMap r.enc).drop (i * r.k + r.k) := by
  induction l generalizing i with
  | nil => simp at hi
  | cons x l ih =>
    cases i with
    | zero =>
      rw [List.set_cons_zero, List.flatMap_cons, List.flatMap_cons, Nat.zero_mul, Nat.zero_add, List.take_zero, List.nil_append]
      congr 1
      rw [List.drop_append_of_le_length (by rw [h.len]; exact Nat.le_refl _), List.drop_of_length_le (by rw [h.len]; exact Nat.le_refl _), List.nil_append]
    | succ i =>
      have hi' : i < l.length := by simpa using hi
      have hx := h.len x
      rw [List.set_cons_succ, List.flatMap_cons, List.flatMap_cons, ih i hi']
      rw [List.take_append, List.drop_append, hx, show (i + 1) * r.k - r.k = i * r.k by rw [Nat.add_mul]; omega, show (i + 1) * r.k + r.k - r.k = i * r.k + r.k by rw [Nat.add_mul]; omega]
      have t1 : (r.enc x).take ((i + 1) * r.k) = r.enc x := List.take_of_length_le (by rw [hx, Nat.add_mul]; omega)
      have t2 : (r.enc x).drop ((i + 1) * r.k + r.k) = [] := List.drop_of_length_le (by rw [hx, Nat.add_mul]; omega)
      rw [t1, t2]
      simp
theorem flat_rep [h : r.Ok] (n : Nat) : (madeCells r.z.cells (n * r.k)).toList = (List.replicate n r.d).flatMap r.enc := by
  have hzs : r.z.cells.size = r.k := by rw [← Array.length_toList, h.cells, h.len]
  apply List.ext_getElem?
  intro m
  by_cases hm : m < n * r.k
  · have hk := h.pos
    have hi : m / r.k < n := Nat.div_lt_of_lt_mul (by rwa [Nat.mul_comm])
    have hj : m % r.k < r.k := Nat.mod_lt _ hk
    have e := flat_at (r := r) (List.replicate n r.d) (m / r.k) (m % r.k) (by simpa using hi) hj
    rw [show m / r.k * r.k + m % r.k = m by rw [Nat.mul_comm]; exact Nat.div_add_mod m r.k] at e
    have e2 : (List.replicate n r.d).getD (m / r.k) r.d = r.d := by simp [List.getD, hi]
    rw [e2, ← h.cells] at e
    rw [e]
    have hjz : m % r.k < r.z.cells.size := by rw [hzs]; exact hj
    simp only [madeCells, Array.toList_map, Array.toList_range, List.getElem?_map, List.getElem?_range hm, Option.map_some, hzs, Array.getElem?_toList]
    rw [getElem!_pos r.z.cells (m % r.k) hjz, Array.getElem?_eq_getElem hjz]
  · rw [List.getElem?_eq_none (by rw [Array.length_toList, size_madeCells]; omega), List.getElem?_eq_none (by rw [flat_len (r := r)]; simp; omega)]

/-- A row that can be read. -/
def RoA (r : RowT α) (w : World) (T : Nat → Prop) (v : Value) (l : List α) : Prop :=
  ∃ a cap, v = .slice a l.length cap ∧ l.length ≤ cap ∧ cap ≤ maxLen ∧ (a = none → cap = 0) ∧ Live w T ∧
    (0 < l.length → ∃ b off, a = some ⟨b, off, none⟩ ∧ T b ∧ ∀ j u, (l.flatMap r.enc)[j]? = some u → w.cell? ⟨b, off + j, none⟩ = some u)
theorem RoA.nil (r : RowT α) (w : World) : RoA r w noB (.slice none 0 0) [] := ⟨none, 0, rfl, Nat.le_refl _, by unfold maxLen; omega, fun _ => rfl, fun _ h => h.elim, fun h => absurd h (by simp)⟩
theorem RoA.live {w : World} {T : Nat → Prop} {v : Value} {l : List α} (h : RoA r w T v l) : Live w T := by obtain ⟨_, _, _, _, _, _, h, _⟩ := h; exact h
theorem RoA.all {S : Nat → Prop} {w w' : World} {T : Nat → Prop} {v : Value} {l : List α} (h : RoA r w T v l) (k : Kept S w w') (ha : Apart T S) : RoA r w' T v l := by
  obtain ⟨a, cap, rfl, h1, h2, h3, hL, hc⟩ := h
  refine ⟨a, cap, rfl, h1, h2, h3, hL.mono k, fun hp => ?_⟩
  obtain ⟨b, off, rfl, hb, hcell⟩ := hc hp
  exact ⟨b, off, rfl, hb, fun j u hj => (World.cell?_of_block (k.block b (hL b hb) (ha b hb))).trans (hcell j u hj)⟩
theorem RoA.row {A B : World} {row : Option Nat} {n : Nat} {T : Nat → Prop} {v : Value} {l : List α} [hk : r.Ok] (h : RoA r A T v l) (hg : A.grownBy B row) (hr : RowNew n A row) : RoA r B T v l := by
  obtain ⟨a, cap, rfl, h1, h2, h3, hL, hc⟩ := h
  have k := kept_row hg
  refine ⟨a, cap, rfl, h1, h2, h3, hL.mono k, fun hp => ?_⟩
  obtain ⟨b, off, rfl, hb, hcell⟩ := hc hp
  have h0 : 0 < (l.flatMap r.enc).length := by rw [flat_len (r := r)]; exact Nat.mul_pos hp hk.pos
  refine ⟨b, off, rfl, hb, fun j u hj => (World.cell?_of_block (k.block b (hL b hb) fun e => ?_)).trans (hcell j u hj)⟩
  obtain ⟨_, o, ho, hn⟩ := hr b e.symm
  have := hcell 0 _ (List.getElem?_eq_getElem h0)
  unfold World.cell? at this
  simp only at this
  rw [ho] at this
  cases o <;> simp_all [Obj.isCells]
theorem RoA.one {w : World} {T : Nat → Prop} {v : Value} {l : List α} (h : RoA r w T v l) : v.oneCell' = true := by obtain ⟨a, cap, rfl, _⟩ := h; rfl
theorem RoA.oneC {w : World} {T : Nat → Prop} {v : Value} {l : List α} (h : RoA r w T v l) : oneC v = true := by obtain ⟨a, cap, rfl, _⟩ := h; rfl
theorem Byt.slc {w : World} {T : Nat → Prop} {v : Value} {l : List Nat} (h : Byt w T v l) : ∃ a n c, v = .slice a n c := by obtain ⟨⟨a, cap, rfl, _⟩, _⟩ := h; exact ⟨_, _, _, rfl⟩
theorem Owb.slc {w : World} {T : Nat → Prop} {v : Value} {l : List Nat} (h : Owb w T v l) : ∃ a n c, v = .slice a n c := h.byt.slc
/-- A row of the call's own. -/
def RoO (r : RowT α) (w : World) (T : Nat → Prop) (v : Value) (l : List α) : Prop := w.ownsRow 0 r.e r.k v l.length (l.flatMap r.enc) ∧ ∀ i, T i ↔ v.ownBlock = some i
theorem RoO.nil (r : RowT α) (w : World) : RoO r w noB (.slice none 0 0) [] := ⟨World.ownsRow_nil w 0 r.e r.k, fun i => ⟨fun h => h.elim, fun h => by cases h⟩⟩
theorem RoO.live {w : World} {T : Nat → Prop} {v : Value} {l : List α} (h : RoO r w T v l) : Live w T := fun i hi => (h.1.lt i ((h.2 i).1 hi)).2
theorem RoO.all {S : Nat → Prop} {w w' : World} {T : Nat → Prop} {v : Value} {l : List α} (h : RoO r w T v l) (k : Kept S w w') (ha : Apart T S) : RoO r w' T v l := by
  refine ⟨⟨h.1.1, ?_⟩, h.2⟩
  rcases h.1.2 with hn | ⟨g, cap, cur, rfl, hb, hg, rest⟩
  · exact .inl hn
  · exact .inr ⟨g, cap, cur, rfl, hb, k.at hg (ha g ((h.2 g).2 rfl)), rest⟩
theorem RoO.roa {w : World} {T : Nat → Prop} {v : Value} {l : List α} (h : RoO r w T v l) : RoA r w T v l := by
  have hL := h.live
  rcases h.1.2 with ⟨rfl, h0⟩ | ⟨g, cap, cur, rfl, hb, hg, h1, h2, h3, h4⟩
  · have : l = [] := List.eq_nil_of_length_eq_zero h0
    subst this
    exact ⟨none, 0, rfl, Nat.le_refl _, by unfold maxLen; omega, fun _ => rfl, hL, fun h => absurd h (by simp)⟩
  · refine ⟨some ⟨g, 0, none⟩, cap, rfl, h1, h2, by simp, hL, fun _ => ⟨g, 0, rfl, (h.2 g).2 rfl, fun j u hj => ?_⟩⟩
    have := h.1.cells (g := g) rfl j u hj
    rwa [Addr.add_lit] at this
theorem RoO.cells {w : World} {T : Nat → Prop} {v : Value} {l : List α} (h : RoO r w T v l) : Cells w T := fun i hi => by
  have hv := (h.2 i).1 hi
  rcases h.1.2 with ⟨rfl, _⟩ | ⟨g, cap, cur, rfl, _, hg, _⟩
  · cases hv
  · cases hv; exact ⟨_, hg, rfl⟩
theorem RoO.row {A B : World} {row : Option Nat} {n : Nat} {T : Nat → Prop} {v : Value} {l : List α} (h : RoO r A T v l) (hg : A.grownBy B row) (hr : RowNew n A row) : RoO r B T v l := h.all (kept_row hg) (h.cells.apart hr)
theorem RoO.of {w : World} {v : Value} {l : List α} (h : w.ownsRow 0 r.e r.k v l.length (l.flatMap r.enc)) : RoO r w (fun i => v.ownBlock = some i) v l := ⟨h, fun _ => Iff.rfl⟩
theorem RoO.one {w : World} {T : Nat → Prop} {v : Value} {l : List α} (h : RoO r w T v l) : v.oneCell' = true := h.roa.one
theorem RoA.slc {w : World} {T : Nat → Prop} {v : Value} {l : List α} (h : RoA r w T v l) : ∃ a n c, v = .slice a n c := by obtain ⟨a, cap, rfl, _⟩ := h; exact ⟨_, _, _, rfl⟩
theorem RoO.slc {w : World} {T : Nat → Prop} {v : Value} {l : List α} (h : RoO r w T v l) : ∃ a n c, v = .slice a n c := h.roa.slc
theorem RoO.oneC {w : World} {T : Nat → Prop} {v : Value} {l : List α} (h : RoO r w T v l) : oneC v = true := h.roa.oneC
end

section
variable {α : Type} {r : RowT α} {ρ : Operand → Value} {o : Oper} {w : World} {R : Value → World → Prop}
theorem y_atRo {x ix : Operand} {T : Nat → Prop} {v : Value} {l : List α} {k : IntKind} [hk : r.Ok] (j : Nat) {i : Int} (ho : o.op = .indexAddr r.t x ix) (hx : ρ x = v) (hi : ρ ix = .int k i) (hij : i = (j : Int)) (hb : RoA r w T v l) (hj : j < l.length) (h : R (bytAddr v (j * r.k)) w) : Yields Try.prog ρ o w R := by
  subst hij
  obtain ⟨a, cap, rfl, _, _, _, _, hc⟩ := hb
  obtain ⟨b, off, rfl, _, _⟩ := hc (by omega)
  obtain ⟨i0, hi0, hz0, hz1, hz2⟩ := info_parts hk.info
  exact y_val (v := bytAddr (.slice (some ⟨b, off, none⟩) l.length cap) (j * r.k)) (w' := w) (by simp [execOp, ho, hx, hi, Instr.indexAt, run_underlying hk.slice, asIntOf, sizeOf, typeInfo, hi0, hz1, hj, bytAddr]) h
theorem RoA.shape {T : Nat → Prop} {v : Value} {l : List α} {j : Nat} (hb : RoA r w T v l) (hj : j < l.length) (m : Nat) : ∃ b off, bytAddr v m = .pointer (some ⟨b, off + m, none⟩) ∧ ∀ n, bytAddr v n = .pointer (some ⟨b, off + n, none⟩) := by
  obtain ⟨a, cap, rfl, _, _, _, _, hc⟩ := hb
  obtain ⟨b, off, rfl, _, _⟩ := hc (by omega)
  exact ⟨b, off, by rw [bytAddr, Addr.add_lit], fun n => by rw [bytAddr, Addr.add_lit]⟩
theorem y_fieldRo {s : TypeId} {x : Operand} {T : Nat → Prop} {v : Value} {l : List α} {fs : Array Field} {i m n m' j : Nat} {f : Field} (ho : o.op = .fieldAddr s x i) (hx : ρ x = bytAddr v m) (hb : RoA r w T v l) (hj : j < l.length) (hu : Try.prog.underlying s = some (.struct fs)) (hf : fs[i]? = some f) (hs : (Try.prog.info? f.type).map (·.size) = some n) (hn : n ≠ 0) (hoff : m + f.offset = m')
    (h : R (bytAddr v m') w) : Yields Try.prog ρ o w R := by
  obtain ⟨b, off, e1, e2⟩ := hb.shape hj m
  exact y_fieldR ho (hx.trans e1) hu hf hs hn (off' := off + m') (by omega) (by rw [← e2]; exact h)
theorem y_ldRo {x : Operand} {T : Nat → Prop} {v u : Value} {l : List α} {ty : TypeId} {d : TypeDesc} [hk : r.Ok] (j m : Nat) (ho : o.op = .load ty x) (hx : ρ x = bytAddr v (j * r.k + m)) (hb : RoA r w T v l) (hj : j < l.length) (hm : m < r.k) (hu : (r.enc (l.getD j r.d))[m]? = some u) (ht : Try.prog.underlying ty = some d) (hd : plainD d = true) (h : R u w) : Yields Try.prog ρ o w R := by
  obtain ⟨a, cap, rfl, _, _, _, _, hc⟩ := hb
  obtain ⟨b, off, rfl, _, hcell⟩ := hc (by omega)
  have e := hcell (j * r.k + m) u (by rw [flat_at (r := r) l j m hj hm]; exact hu)
  exact y_ldA ho (hx.trans (by rw [bytAddr, Addr.add_lit])) ht hd e h
theorem y_ldRoP {x : Operand} {T : Nat → Prop} {v : Value} {l : List α} {ty : TypeId} {n : Nat} {us : List Value} [hk : r.Ok] (j m : Nat) (hT : StcT Try.prog ty n) (ho : o.op = .load ty x) (hx : ρ x = bytAddr v (j * r.k + m)) (hb : RoA r w T v l) (hj : j < l.length) (hm : m + n ≤ r.k) (hu : ((r.enc (l.getD j r.d)).drop m).take n = us) (h : R (.agg us.toArray) w) : Yields Try.prog ρ o w R := by
  subst hu
  obtain ⟨a, cap, rfl, _, _, _, _, hc⟩ := hb
  obtain ⟨b, off, rfl, _, hcell⟩ := hc (by omega)
  obtain ⟨d, hu, hd, hs⟩ := hT
  have hlen : (((r.enc (l.getD j r.d)).drop m).take n).length = n := by rw [List.length_take, List.length_drop, hk.len]; omega
  have e := run_loadVar_mid (P := Try.prog) w b (off + (j * r.k + m)) ty (((r.enc (l.getD j r.d)).drop m).take n) d (fun q u hq => by
    have hqn : q < n := by have := (List.getElem?_eq_some_iff.1 hq).1; omega
    rw [show off + (j * r.k + m) + q = off + (j * r.k + (m + q)) by omega]
    refine hcell (j * r.k + (m + q)) u ?_
    rw [flat_at (r := r) l j (m + q) hj (by omega)]
    rwa [List.getElem?_take, if_pos hqn, List.getElem?_drop] at hq) hu hd (by rw [hlen]; exact hs)
  have hx' : ρ x = .pointer (some ⟨b, off + (j * r.k + m), none⟩) := by rw [hx, bytAddr, Addr.add_lit]
  exact y_val (v := .agg (((r.enc (l.getD j r.d)).drop m).take n).toArray) (w' := w) (by simp only [execOp, ho, hx', Instr.loadAt, Instr.sureAddr, Sem.run_bind, Sem.run_pure, Result.andThen_ok, e]) h
theorem y_lenRo {c : Call} {x : Operand} {T : Nat → Prop} {v : Value} {l : List α} [hk : r.Ok] (ho : o.op = .call c) (hc : c = { callee := .builtin .len, args := #[x], argTypes := #[r.t] }) (hx : ρ x = v) (hb : RoA r w T v l) (h : R (.int .i64 ((l.length : Nat) : Int)) w) : Yields Try.prog ρ o w R := by
  subst hc
  obtain ⟨a, cap, rfl, _⟩ := hb
  exact y_len ho rfl rfl rfl hk.slice hx h
end

section
variable {α : Type} {r : RowT α} {ro : Option Nat} {N : Nat} {Q : (Exit → (Nat → Value) → World → Prop)} {F : Nat → Value} {w : World} {o : Oper}
theorem wl_setRo {ops : Array Oper} {rest : List Oper} {x y : Operand} {T : Nat → Prop} {v val : Value} {l : List α} {u : α} [hk : r.Ok] (j : Nat) (hg : o.guard = none) (hdn : o.dst = none) (ho : o.op = .store r.e x y) (hx : ev (cutF N F) x = bytAddr v (j * r.k)) (hy : ev (cutF N F) y = val) (hv : val.cells.toList = r.enc u) (hB : RoO r w T v l) (hj : j < l.length)
    (h : ∀ w', RoO r w' T v (l.set j u) → Kept T w w' → wl ro Try.prog N ops Q rest F w') : wl ro Try.prog N ops Q (o :: rest) F w := by
  have hc := hB
  rcases hB.1.2 with ⟨rfl, h0⟩ | ⟨g, cap, cur, rfl, hb, hgg, hnc, hcm, hcs, htake⟩
  · omega
  · obtain ⟨i0, hi0, hz0, hz1, hz2⟩ := info_parts hk.info
    have hx' : ev (cutF N F) x = .pointer (some ⟨g, j * r.k, none⟩) := by rw [hx, bytAddr, Addr.add_lit, Nat.zero_add]
    have hle : j * r.k + r.k ≤ l.length * r.k := by rw [← Nat.succ_mul]; exact Nat.mul_le_mul_right _ hj
    have hcap : l.length * r.k ≤ cap * r.k := Nat.mul_le_mul_right _ hnc
    have hul := hk.len u
    have hst := run_storeCells_at Try.prog g (j * r.k) r.e (r.enc u) 0 cur w hgg (by omega) (hk.one u)
    have hvs : val.cells.size = r.k := by rw [← Array.length_toList, hv, hul]
    simp only [Nat.add_zero] at hst
    refine wl_op hg (by rw [hdn]; rfl) ?_
    have e : (execOp (ev (cutF N F)) o).run Try.prog w = .ok .skip (w.setRow g (cur.toList.take (j * r.k) ++ r.enc u ++ cur.toList.drop (j * r.k + (r.enc u).length)).toArray) ∨ (execOp (ev (cutF N F)) o).run Try.prog w = .ok (.value undef) (w.setRow g (cur.toList.take (j * r.k) ++ r.enc u ++ cur.toList.drop (j * r.k + (r.enc u).length)).toArray) := by
      have hsv : (storeVar r.e ⟨g, j * r.k, none⟩ val).run Try.prog w = .ok () (w.setRow g (cur.toList.take (j * r.k) ++ r.enc u ++ cur.toList.drop (j * r.k + (r.enc u).length)).toArray) := by
        rw [← hv] at hst ⊢
        simp [storeVar, sizeOf, typeInfo, hi0, hz1, hvs, hst]
      left
      simp only [execOp, ho, hx', hy, Instr.storeAt, Instr.sureAddr, Sem.run_bind, Sem.run_pure, Result.andThen_ok, hsv]
    have hset := flat_set (r := r) l j u hj
    have hrow : RoO r (w.setRow g (cur.toList.take (j * r.k) ++ r.enc u ++ cur.toList.drop (j * r.k + (r.enc u).length)).toArray) T (.slice (some ⟨g, 0, none⟩) l.length cap) (l.set j u) := by
      refine ⟨⟨by rw [flat_len (r := r)], .inr ⟨g, cap, _, by rw [List.length_set], hb, setRow_heap _ _ _ _ _ _ hgg, by rw [List.length_set]; exact hnc, hcm, ?_, ?_⟩⟩, hB.2⟩
      · simp; omega
      · rw [List.length_set, hset, ← htake]
        have hcl : cur.toList.length = cap * r.k := by simpa using hcs
        have hpl : (cur.toList.take (j * r.k) ++ r.enc u).length = j * r.k + r.k := by rw [List.length_append, List.length_take, hul]; omega
        rw [List.toList_toArray, List.take_append, List.take_of_length_le (by rw [hpl]; exact hle), hpl, List.take_take, Nat.min_eq_left (by omega), List.drop_take, hul]
    unfold Yields
    rw [hdn]
    rcases e with e | e <;> rw [e] <;> exact h _ hrow ((Kept.refl T w).setRow g (fun _ => (hB.2 g).2 rfl) _)
theorem wl_makeRo {ops : Array Oper} {rest : List Oper} {x y : Operand} {kl kc : IntKind} {n : Nat} {i j : Int} [hk : r.Ok] (hg : o.guard = none) (hd : fits N o.dst = true) (ho : o.op = .makeSlice r.t x y) (hx : ev (cutF N F) x = .int kl i) (hy : ev (cutF N F) y = .int kc j) (hi : i = (n : Int)) (hj : j = (n : Int)) (hn : n < 1099511627776)
    (h : ∀ v w' T, RoO r w' T v (List.replicate n r.d) → Grew w noB T → Kept (fun _ => False) w w' → wl ro Try.prog N ops Q rest (putF F o.dst v) w') : wl ro Try.prog N ops Q (o :: rest) F w := by
  subst hi; subst hj
  obtain ⟨i0, hi0, hz0, hz1, hz2⟩ := info_parts hk.info
  have hsm := hk.small
  have hr := run_make (P := Try.prog) w r.t r.e i0 r.z hk.slice hi0 hz0 kl kc n n (by omega) (Int.le_refl _) (by
    rw [hz2]
    have h1 : r.by_ * n ≤ 64 * 1099511627776 := Nat.mul_le_mul hsm (by omega)
    have h2 : ((r.by_ * n : Nat) : Int) = (r.by_ : Int) * (n : Int) := Int.natCast_mul _ _
    omega) (by omega)
  simp only [Int.toNat_natCast, hz1] at hr
  refine wl_op hg hd (y_val (v := .slice (some ⟨w.heap.size, 0, none⟩) n n) (w' := w.alloc (.cells (madeCells r.z.cells (n * r.k)) r.e)) (by simp [execOp, ho, hx, hy, hr]) (h _ _ _ (RoO.of ⟨by rw [flat_len (r := r)], .inr ⟨w.heap.size, n, _, by rw [List.length_replicate], Nat.zero_le _, heap_alloc_new _ _, by rw [List.length_replicate]; exact Nat.le_refl _, by unfold maxLen; omega, size_madeCells _ _, ?_⟩⟩) (fun i hi => .inr ?_) ((Kept.refl _ _).alloc _)))
  · rw [← flat_rep (r := r) n, List.length_replicate, List.take_of_length_le (by rw [Array.length_toList, size_madeCells]; exact Nat.le_refl _)]
  · cases hi; exact Nat.le_refl _
end
end Go.Proofs.Ythhagejcgobfgaa
namespace Go.Proofs.Ythhagejcgobfgaa
open Go.RowKit

structure Vc where
  X : Int
  Y : Int
def rVec : RowT Vc := { t := 57, e := 33, k := 2, by_ := 16, enc := fun x => [.int .i64 x.X, .int .i64 x.Y], d := ⟨0, 0⟩, z := .agg #[.int .i64 0, .int .i64 0] }
theorem one_two {a b : Int} : ∀ u ∈ [Value.int .i64 a, Value.int .i64 b], u.oneCell' = true := fun u hu => by
  rcases List.mem_cons.1 hu with rfl | hu
  · rfl
  · rcases List.mem_cons.1 hu with rfl | hu
    · rfl
    · cases hu
instance rVec_ok : RowT.Ok rVec := ⟨Try.underlying57, by kernel_rfl, rfl, by decide, fun _ => rfl, fun _ => one_two, by decide⟩

def vfL (f : VF) : List Vc := (List.range (f.w * f.h).toNat).map fun (i : Nat) => ⟨f.X ((i : Int) % f.w) ((i : Int) / f.w), f.Y ((i : Int) % f.w) ((i : Int) / f.w)⟩
theorem vfL_length (f : VF) : (vfL f).length = (f.w * f.h).toNat := by unfold vfL; simp
theorem in_lt {f : VF} (k : OkV f) {x y : Int} (h : inV f x y) : 0 ≤ y * f.w + x ∧ y * f.w + x < f.w * f.h ∧ f.w * f.h ≤ 256 := by
  obtain ⟨h1, h2, h3, h4⟩ := h
  have hw := k.w; have hh := k.h
  have a1 : 0 ≤ y * f.w := Int.mul_nonneg h3 (by omega)
  have a2 : (y + 1) * f.w ≤ f.h * f.w := Int.mul_le_mul_of_nonneg_right (by omega) (by omega)
  have a3 : f.w * f.h ≤ 16 * 16 := Int.mul_le_mul hw.2 hh.2 (by omega) (by omega)
  rw [Int.add_mul, Int.one_mul, Int.mul_comm f.h] at a2
  omega
theorem in_div {f : VF} {x y : Int} (h : inV f x y) : (y * f.w + x) % f.w = x ∧ (y * f.w + x) / f.w = y := by
  obtain ⟨h1, h2, h3, h4⟩ := h
  constructor
  · rw [Int.add_comm, Int.add_mul_emod_self_right]; exact Int.emod_eq_of_lt h1 h2
  · rw [Int.add_comm, Int.add_mul_ediv_right _ _ (by omega), Int.ediv_eq_zero_of_lt h1 h2, Int.zero_add]
theorem vfL_at {f : VF} (k : OkV f) {x y : Int} (h : inV f x y) : (vfL f).getD (y * f.w + x).toNat ⟨0, 0⟩ = ⟨f.X x y, f.Y x y⟩ := by
  have hl := in_lt k h
  have hd := in_div h
  have e : (((y * f.w + x).toNat : Nat) : Int) = y * f.w + x := Int.toNat_of_nonneg hl.1
  unfold vfL
  rw [List.getD_eq_getElem?_getD, List.getElem?_map, List.getElem?_range (by omega)]
  simp only [Option.map_some, Option.getD_some, e, hd.1, hd.2]
theorem vfL_lay {f : VF} (k : OkV f) {x y : Int} (h : inV f x y) (X Y : Int) : (vfL f).set (y * f.w + x).toNat ⟨X, Y⟩ = vfL (layV f x y X Y) := by
  have hl := in_lt k h
  have hd := in_div h
  have hw := k.w
  apply List.ext_getElem?
  intro i
  have e : (((y * f.w + x).toNat : Nat) : Int) = y * f.w + x := Int.toNat_of_nonneg hl.1
  by_cases hi : i < (f.w * f.h).toNat
  · have e2 : (vfL (layV f x y X Y))[i]? = some ⟨(layV f x y X Y).X ((i : Int) % f.w) ((i : Int) / f.w), (layV f x y X Y).Y ((i : Int) % f.w) ((i : Int) / f.w)⟩ := by
      show ((List.range (f.w * f.h).toNat).map _)[i]? = _
      rw [List.getElem?_map, List.getElem?_range hi]; rfl
    rw [e2]
    by_cases hx : i = (y * f.w + x).toNat
    · subst hx
      rw [List.getElem?_set_self (by rw [vfL_length]; omega), e, hd.1, hd.2]
      unfold layV; simp
    · rw [List.getElem?_set_ne (fun e => hx e.symm)]
      have e3 : (vfL f)[i]? = some ⟨f.X ((i : Int) % f.w) ((i : Int) / f.w), f.Y ((i : Int) % f.w) ((i : Int) / f.w)⟩ := by
        unfold vfL; rw [List.getElem?_map, List.getElem?_range hi]; rfl
      rw [e3]
      have hn : ¬ ((i : Int) % f.w = x ∧ (i : Int) / f.w = y) := fun ⟨m1, m2⟩ => hx (by
        have := Int.mul_ediv_add_emod (i : Int) f.w
        rw [m1, m2, Int.mul_comm] at this
        omega)
      unfold layV; simp only [if_neg hn]
  · rw [List.getElem?_eq_none (by rw [List.length_set, vfL_length]; omega), List.getElem?_eq_none (by rw [vfL_length]; show (f.w * f.h).toNat ≤ i; omega)]
theorem vfL_new (w h : Int) : List.replicate (w * h).toNat (⟨0, 0⟩ : Vc) = vfL (newV w h) := by
  unfold vfL newV
  apply List.ext_getElem?
  intro i
  by_cases hi : i < (w * h).toNat
  · simp [hi]
  · simp [hi]

/-- The document's field. -/
def Vfr (w : World) (T : Nat → Prop) (p : Nat) (f : VF) : Prop := ∃ v T2, (∀ i, T i ↔ (onB p i ∨ T2 i)) ∧ Stc w p 69 [.int .i64 f.w, .int .i64 f.h, v] ∧ RoO rVec w T2 v (vfL f) ∧ Apart (onB p) T2 ∧ OkV f
theorem Vfr.live {w : World} {T : Nat → Prop} {p : Nat} {f : VF} (h : Vfr w T p f) : Live w T := by
  obtain ⟨v, T2, hT, h1, h2, _⟩ := h
  exact fun i hi => ((hT i).1 hi).elim (fun e => by cases e; exact h1.lt) (fun e => h2.live i e)
theorem Vfr.all {S : Nat → Prop} {w w' : World} {T : Nat → Prop} {p : Nat} {f : VF} (h : Vfr w T p f) (k : Kept S w w') (ha : Apart T S) : Vfr w' T p f := by
  obtain ⟨v, T2, hT, h1, h2, h3, h4⟩ := h
  exact ⟨v, T2, hT, h1.all k (ha p ((hT p).2 (Or.inl rfl))), h2.all k (fun i hi => ha i ((hT i).2 (Or.inr hi))), h3, h4⟩
theorem Vfr.ok {w : World} {T : Nat → Prop} {p : Nat} {f : VF} (h : Vfr w T p f) : OkV f := by obtain ⟨_, _, _, _, _, _, h⟩ := h; exact h
/-- One, or none. -/
def Vfo (w : World) (T : Nat → Prop) (v : Value) (o : Option VF) : Prop := match o with
  | none => v = .pointer none ∧ T = noB
  | some f => ∃ p, v = .pointer (some ⟨p, 0, none⟩) ∧ Vfr w T p f
theorem Vfo.nil (w : World) : Vfo w noB (.pointer none) none := ⟨rfl, rfl⟩
theorem Vfo.live {w : World} {T : Nat → Prop} {v : Value} {o : Option VF} (h : Vfo w T v o) : Live w T := by
  cases o with
  | none => obtain ⟨_, rfl⟩ := h; exact fun _ h => h.elim
  | some f => obtain ⟨p, _, h⟩ := h; exact h.live
theorem Vfo.all {S : Nat → Prop} {w w' : World} {T : Nat → Prop} {v : Value} {o : Option VF} (h : Vfo w T v o) (k : Kept S w w') (ha : Apart T S) : Vfo w' T v o := by
  cases o with
  | none => exact h
  | some f => obtain ⟨p, e, h⟩ := h; exact ⟨p, e, h.all k ha⟩
theorem Vfo.ok {w : World} {T : Nat → Prop} {v : Value} {f : VF} (h : Vfo w T v (some f)) : OkV f := by obtain ⟨_, _, h⟩ := h; exact h.ok
def optV (m n : Int) : Option VF := if sidesOk m n then some (newV m n) else none
def newVE (m n : Int) : Int := if sidesOk m n then 0 else 1
theorem optV_yes {m n : Int} (h : sidesOk m n) : optV m n = some (newV m n) := if_pos h
theorem optV_no {m n : Int} (h : ¬ sidesOk m n) : optV m n = none := if_neg h
theorem newVE_yes {m n : Int} (h : sidesOk m n) : newVE m n = 0 := if_pos h
theorem newVE_no {m n : Int} (h : ¬ sidesOk m n) : newVE m n = 1 := if_neg h
theorem sides_mul {m n : Int} (h : sidesOk m n) : 1 ≤ m * n ∧ m * n ≤ 256 := by
  obtain ⟨h1, h2, h3, h4⟩ := h
  have a := Int.mul_le_mul h1 h3 (by omega) (by omega)
  have b := Int.mul_le_mul h2 h4 (by omega) (by omega)
  omega

set_option maxHeartbeats 4000000 in
set_option maxRecDepth 100000 in
theorem mref_vnew (m n : Int) (w0 : World) :
    Calls Try.prog 12 #[.int .i64 (m), .int .i64 (n)] w0 fun e w' => ∃ (v1 : Value) (T1 : Nat → Prop), e = .returned (.tuple #[v1, .int .i64 (newVE m n)]) ∧ Kept (fun _ => False) w0 w' ∧ (Vfo w' T1 v1 ((optV m n)) ∧ Grew w0 noB T1) := by
  refine calls_wq (args := [.int .i64 (m), .int .i64 (n)]) 28 Try.func12 rfl rfl (Nat.le_of_ble_eq_true rfl) ?_
  have K0 := Kept.refl (fun _ => False) w0
  refine wq_seq ?_
  refine wq_region ?_
  refine wl_v (.pointer none) rfl rfl (y_asg rfl rfl ⟨rfl, rfl⟩) ?_
  refine wl_v (.int .i64 (0)) rfl rfl (y_asg rfl rfl ⟨rfl, rfl⟩) ?_
  refine wl_nil fun F1 hF2 => ?_
  have s3 : F1 0 = .int .i64 (m) := (hF2 0).trans rfl
  have s4 : F1 1 = .int .i64 (n) := (hF2 1).trans rfl
  have s5 : F1 28 = undef := (hF2 28).trans rfl
  clear hF2
  refine then_normal ?_
  refine wq_seq ?_
  refine wq_seq ?_
  by_cases d6 : (m) < (1)
  · skip
    refine wq_region ?_
    refine wl_v (.int .i64 (m)) rfl rfl (y_mov rfl s3 ⟨rfl, rfl⟩) ?_
    refine wl_v (.bool true) rfl rfl (y_lss rfl rfl rfl (decide_eq_true d6) ⟨rfl, rfl⟩) ?_
    refine wl_v (.bool true) rfl rfl (y_mov rfl rfl ⟨rfl, rfl⟩) ?_
    refine wl_unless 2 false 8 rfl rfl rfl (Or.inl rfl) rfl ?_
    refine wl_unless 2 false 8 rfl rfl rfl (Or.inl rfl) rfl ?_
    refine wl_v (.bool true) rfl rfl (y_pickT rfl rfl rfl ⟨rfl, rfl⟩) ?_
    refine wl_v (.bool true) rfl rfl (y_mov rfl rfl ⟨rfl, rfl⟩) ?_
    refine wl_unless 6 false 12 rfl rfl rfl (Or.inl rfl) rfl ?_
    refine wl_unless 6 false 12 rfl rfl rfl (Or.inl rfl) rfl ?_
    refine wl_v (.bool true) rfl rfl (y_pickT rfl rfl rfl ⟨rfl, rfl⟩) ?_
    refine wl_v (.bool true) rfl rfl (y_mov rfl rfl ⟨rfl, rfl⟩) ?_
    refine wl_unless 10 false 16 rfl rfl rfl (Or.inl rfl) rfl ?_
    refine wl_unless 10 false 16 rfl rfl rfl (Or.inl rfl) rfl ?_
    refine wl_v (.bool true) rfl rfl (y_pickT rfl rfl rfl ⟨rfl, rfl⟩) ?_
    refine wl_nil fun F7 hF8 => ?_
    have s9 : F7 0 = .int .i64 (m) := (hF8 0).trans s3
    have s10 : F7 1 = .int .i64 (n) := (hF8 1).trans s4
    have s11 : F7 28 = undef := (hF8 28).trans s5
    have s12 : F7 19 = .bool true := (hF8 19).trans rfl
    clear hF8
    refine then_normal ?_
    refine wq_cond (t := true) s12 (fun _ => ?_) (fun e => by cases e)
    refine wq_seq ?_
    refine wq_region ?_
    refine wl_v (.pointer none) rfl rfl (y_asg rfl rfl ⟨rfl, rfl⟩) ?_
    refine wl_v (.int .i64 (1)) rfl rfl (y_asg rfl rfl ⟨rfl, rfl⟩) ?_
    refine wl_nil fun F13 hF14 => ?_
    have s15 : F13 28 = undef := (hF14 28).trans s11
    have s16 : F13 4 = .pointer none := (hF14 4).trans rfl
    have s17 : F13 5 = .int .i64 (1) := (hF14 5).trans rfl
    clear hF14
    refine then_normal ?_
    refine wq_ret ?_
    refine then_ret ?_
    exact end_2 s15 rfl (res_tmp (v := .pointer none) rfl s16) (res_tmp (v := .int .i64 (1)) rfl s17) ⟨(.pointer none), noB, (by first | rw [newVE_yes hs] | rw [newVE_no (by unfold sidesOk; omega)]), K0, ⟨(by first | (rw [optV_yes hs]; exact (Vfo.nil _)) | (rw [optV_no (by unfold sidesOk; omega)]; exact (Vfo.nil _))), (Grew.refl _ _)⟩⟩
  · skip
    by_cases d18 : (16) < (m)
    · skip
      refine wq_region ?_
      refine wl_v (.int .i64 (m)) rfl rfl (y_mov rfl s3 ⟨rfl, rfl⟩) ?_
      refine wl_v (.bool false) rfl rfl (y_lss rfl rfl rfl (decide_eq_false d6) ⟨rfl, rfl⟩) ?_
      refine wl_v (.bool false) rfl rfl (y_mov rfl rfl ⟨rfl, rfl⟩) ?_
      refine wl_vw (.int .i64 (m)) 2 false 8 rfl rfl rfl rfl rfl (y_mov rfl s3 ⟨rfl, rfl⟩) ?_
      refine wl_vw (.bool true) 2 false 8 rfl rfl rfl rfl rfl (y_gtr rfl rfl rfl (decide_eq_true d18) ⟨rfl, rfl⟩) ?_
      refine wl_v (.bool true) rfl rfl (y_pickF rfl rfl rfl ⟨rfl, rfl⟩) ?_
      refine wl_v (.bool true) rfl rfl (y_mov rfl rfl ⟨rfl, rfl⟩) ?_
      refine wl_unless 6 false 12 rfl rfl rfl (Or.inl rfl) rfl ?_
      refine wl_unless 6 false 12 rfl rfl rfl (Or.inl rfl) rfl ?_
      refine wl_v (.bool true) rfl rfl (y_pickT rfl rfl rfl ⟨rfl, rfl⟩) ?_
      refine wl_v (.bool true) rfl rfl (y_mov rfl rfl ⟨rfl, rfl⟩) ?_
      refine wl_unless 10 false 16 rfl rfl rfl (Or.inl rfl) rfl ?_
      refine wl_unless 10 false 16 rfl rfl rfl (Or.inl rfl) rfl ?_
      refine wl_v (.bool true) rfl rfl (y_pickT rfl rfl rfl ⟨rfl, rfl⟩) ?_
      refine wl_nil fun F19 hF20 => ?_
      have s21 : F19 0 = .int .i64 (m) := (hF20 0).trans s3
      have s22 : F19 1 = .int .i64 (n) := (hF20 1).trans s4
      have s23 : F19 28 = undef := (hF20 28).trans s5
      have s24 : F19 19 = .bool true := (hF20 19).trans rfl
      clear hF20
      refine then_normal ?_
      refine wq_cond (t := true) s24 (fun _ => ?_) (fun e => by cases e)
      refine wq_seq ?_
      refine wq_region ?_
      refine wl_v (.pointer none) rfl rfl (y_asg rfl rfl ⟨rfl, rfl⟩) ?_
      refine wl_v (.int .i64 (1)) rfl rfl (y_asg rfl rfl ⟨rfl, rfl⟩) ?_
      refine wl_nil fun F25 hF26 => ?_
      have s27 : F25 28 = undef := (hF26 28).trans s23
      have s28 : F25 4 = .pointer none := (hF26 4).trans rfl
      have s29 : F25 5 = .int .i64 (1) := (hF26 5).trans rfl
      clear hF26
      refine then_normal ?_
      refine wq_ret ?_
      refine then_ret ?_
      exact end_2 s27 rfl (res_tmp (v := .pointer none) rfl s28) (res_tmp (v := .int .i64 (1)) rfl s29) ⟨(.pointer none), noB, (by first | rw [newVE_yes hs] | rw [newVE_no (by unfold sidesOk; omega)]), K0, ⟨(by first | (rw [optV_yes hs]; exact (Vfo.nil _)) | (rw [optV_no (by unfold sidesOk; omega)]; exact (Vfo.nil _))), (Grew.refl _ _)⟩⟩
    · skip
      by_cases d30 : (n) < (1)
      · skip
        refine wq_region ?_
        refine wl_v (.int .i64 (m)) rfl rfl (y_mov rfl s3 ⟨rfl, rfl⟩) ?_
        refine wl_v (.bool false) rfl rfl (y_lss rfl rfl rfl (decide_eq_false d6) ⟨rfl, rfl⟩) ?_
        refine wl_v (.bool false) rfl rfl (y_mov rfl rfl ⟨rfl, rfl⟩) ?_
        refine wl_vw (.int .i64 (m)) 2 false 8 rfl rfl rfl rfl rfl (y_mov rfl s3 ⟨rfl, rfl⟩) ?_
        refine wl_vw (.bool false) 2 false 8 rfl rfl rfl rfl rfl (y_gtr rfl rfl rfl (decide_eq_false d18) ⟨rfl, rfl⟩) ?_
        refine wl_v (.bool false) rfl rfl (y_pickF rfl rfl rfl ⟨rfl, rfl⟩) ?_
        refine wl_v (.bool false) rfl rfl (y_mov rfl rfl ⟨rfl, rfl⟩) ?_
        refine wl_vw (.int .i64 (n)) 6 false 12 rfl rfl rfl rfl rfl (y_mov rfl s4 ⟨rfl, rfl⟩) ?_
        refine wl_vw (.bool true) 6 false 12 rfl rfl rfl rfl rfl (y_lss rfl rfl rfl (decide_eq_true d30) ⟨rfl, rfl⟩) ?_
        refine wl_v (.bool true) rfl rfl (y_pickF rfl rfl rfl ⟨rfl, rfl⟩) ?_
        refine wl_v (.bool true) rfl rfl (y_mov rfl rfl ⟨rfl, rfl⟩) ?_
        refine wl_unless 10 false 16 rfl rfl rfl (Or.inl rfl) rfl ?_
        refine wl_unless 10 false 16 rfl rfl rfl (Or.inl rfl) rfl ?_
        refine wl_v (.bool true) rfl rfl (y_pickT rfl rfl rfl ⟨rfl, rfl⟩) ?_
        refine wl_nil fun F31 hF32 => ?_
        have s33 : F31 0 = .int .i64 (m) := (hF32 0).trans s3
        have s34 : F31 1 = .int .i64 (n) := (hF32 1).trans s4
        have s35 : F31 28 = undef := (hF32 28).trans s5
        have s36 : F31 19 = .bool true := (hF32 19).trans rfl
        clear hF32
        refine then_normal ?_
        refine wq_cond (t := true) s36 (fun _ => ?_) (fun e => by cases e)
        refine wq_seq ?_
        refine wq_region ?_
        refine wl_v (.pointer none) rfl rfl (y_asg rfl rfl ⟨rfl, rfl⟩) ?_
        refine wl_v (.int .i64 (1)) rfl rfl (y_asg rfl rfl ⟨rfl, rfl⟩) ?_
        refine wl_nil fun F37 hF38 => ?_
        have s39 : F37 28 = undef := (hF38 28).trans s35
        have s40 : F37 4 = .pointer none := (hF38 4).trans rfl
        have s41 : F37 5 = .int .i64 (1) := (hF38 5).trans rfl
        clear hF38
        refine then_normal ?_
        refine wq_ret ?_
        refine then_ret ?_
        exact end_2 s39 rfl (res_tmp (v := .pointer none) rfl s40) (res_tmp (v := .int .i64 (1)) rfl s41) ⟨(.pointer none), noB, (by first | rw [newVE_yes hs] | rw [newVE_no (by unfold sidesOk; omega)]), K0, ⟨(by first | (rw [optV_yes hs]; exact (Vfo.nil _)) | (rw [optV_no (by unfold sidesOk; omega)]; exact (Vfo.nil _))), (Grew.refl _ _)⟩⟩
      · skip
        refine wq_region ?_
        refine wl_v (.int .i64 (m)) rfl rfl (y_mov rfl s3 ⟨rfl, rfl⟩) ?_
        refine wl_v (.bool false) rfl rfl (y_lss rfl rfl rfl (decide_eq_false d6) ⟨rfl, rfl⟩) ?_
        refine wl_v (.bool false) rfl rfl (y_mov rfl rfl ⟨rfl, rfl⟩) ?_
        refine wl_vw (.int .i64 (m)) 2 false 8 rfl rfl rfl rfl rfl (y_mov rfl s3 ⟨rfl, rfl⟩) ?_
        refine wl_vw (.bool false) 2 false 8 rfl rfl rfl rfl rfl (y_gtr rfl rfl rfl (decide_eq_false d18) ⟨rfl, rfl⟩) ?_
        refine wl_v (.bool false) rfl rfl (y_pickF rfl rfl rfl ⟨rfl, rfl⟩) ?_
        refine wl_v (.bool false) rfl rfl (y_mov rfl rfl ⟨rfl, rfl⟩) ?_
        refine wl_vw (.int .i64 (n)) 6 false 12 rfl rfl rfl rfl rfl (y_mov rfl s4 ⟨rfl, rfl⟩) ?_
        refine wl_vw (.bool false) 6 false 12 rfl rfl rfl rfl rfl (y_lss rfl rfl rfl (decide_eq_false d30) ⟨rfl, rfl⟩) ?_
        refine wl_v (.bool false) rfl rfl (y_pickF rfl rfl rfl ⟨rfl, rfl⟩) ?_
        refine wl_v (.bool false) rfl rfl (y_mov rfl rfl ⟨rfl, rfl⟩) ?_
        refine wl_vw (.int .i64 (n)) 10 false 16 rfl rfl rfl rfl rfl (y_mov rfl s4 ⟨rfl, rfl⟩) ?_
        refine wl_vw (.bool (decide ((16) < (n)))) 10 false 16 rfl rfl rfl rfl rfl (y_gtr rfl rfl rfl rfl ⟨rfl, rfl⟩) ?_
        refine wl_v (.bool (decide ((16) < (n)))) rfl rfl (y_pickF rfl rfl rfl ⟨rfl, rfl⟩) ?_
        refine wl_nil fun F42 hF43 => ?_
        have s44 : F42 0 = .int .i64 (m) := (hF43 0).trans s3
        have s45 : F42 1 = .int .i64 (n) := (hF43 1).trans s4
        have s46 : F42 28 = undef := (hF43 28).trans s5
        have s47 : F42 19 = .bool (decide ((16) < (n))) := (hF43 19).trans rfl
        clear hF43
        refine then_normal ?_
        refine wq_cond s47 (fun c48 => ?_) (fun c48 => ?_)
        · replace c48 := of_decide_eq_true c48
          refine wq_seq ?_
          refine wq_region ?_
          refine wl_v (.pointer none) rfl rfl (y_asg rfl rfl ⟨rfl, rfl⟩) ?_
          refine wl_v (.int .i64 (1)) rfl rfl (y_asg rfl rfl ⟨rfl, rfl⟩) ?_
          refine wl_nil fun F49 hF50 => ?_
          have s51 : F49 28 = undef := (hF50 28).trans s46
          have s52 : F49 4 = .pointer none := (hF50 4).trans rfl
          have s53 : F49 5 = .int .i64 (1) := (hF50 5).trans rfl
          clear hF50
          refine then_normal ?_
          refine wq_ret ?_
          refine then_ret ?_
          exact end_2 s51 rfl (res_tmp (v := .pointer none) rfl s52) (res_tmp (v := .int .i64 (1)) rfl s53) ⟨(.pointer none), noB, (by first | rw [newVE_yes hs] | rw [newVE_no (by unfold sidesOk; omega)]), K0, ⟨(by first | (rw [optV_yes hs]; exact (Vfo.nil _)) | (rw [optV_no (by unfold sidesOk; omega)]; exact (Vfo.nil _))), (Grew.refl _ _)⟩⟩
        · replace c48 := of_decide_eq_false c48
          refine wq_skip ?_
          refine then_normal ?_
          refine wq_seq ?_
          have hs : sidesOk m n := ⟨by omega, by omega, by omega, by omega⟩
          have hmn := sides_mul hs
          refine wq_region ?_
          refine wl_v (.int .i64 (m)) rfl rfl (y_mov rfl s44 ⟨rfl, rfl⟩) ?_
          refine wl_v (.int .i64 (n)) rfl rfl (y_mov rfl s45 ⟨rfl, rfl⟩) ?_
          refine wl_v (.int .i64 (m)) rfl rfl (y_mov rfl s44 ⟨rfl, rfl⟩) ?_
          refine wl_v (.int .i64 (n)) rfl rfl (y_mov rfl s45 ⟨rfl, rfl⟩) ?_
          refine wl_v (.int .i64 ((m) * (n))) rfl rfl (y_mul rfl rfl rfl (i64_i rfl (by omega)) ⟨rfl, rfl⟩) ?_
          refine wl_makeRo (r := rVec) (n := ((m) * (n)).toNat) rfl rfl rfl rfl rfl (by omega) (by omega) (by omega) fun v54 w55 T59 B57 g58 k56 => ?_
          have gr60 : Grew w0 noB (T59) := Grew.new K0 g58
          have K61 := K0.trans k56 (fun _ _ x => x.elim)
          refine wl_v (.agg #[.int .i64 (m), .int .i64 (n), v54]) rfl rfl (y_buildL (l' := [(0, .int .i64 (m)), (1, .int .i64 (n)), (2, v54)]) (cells := #[.int .i64 (m), .int .i64 (n), v54]) rfl (bpC rfl (bpC rfl (bpC rfl bpN))) (by obtain ⟨_, _, _, e0_⟩ := (B57).slc; rw [e0_]; kernel_rfl) rfl ⟨rfl, rfl⟩) ?_
          refine wl_box_stc (vs := [.int .i64 (m), .int .i64 (n), v54]) rfl rfl rfl rfl fun p62 w63 B65 g66 k64 => ?_
          have gr67 : Grew w0 noB (onB p62) := Grew.new K61 g66
          have ap68 : Apart (onB p62) (T59) := Apart.new g66 (B57).live
          have B69 := B57.all k64 Apart.none
          have K70 := K61.trans k64 (fun _ _ x => x.elim)
          refine wl_v (.pointer (some ⟨p62, 0, none⟩)) rfl rfl (y_asg rfl rfl ⟨rfl, rfl⟩) ?_
          refine wl_v (.int .i64 (0)) rfl rfl (y_asg rfl rfl ⟨rfl, rfl⟩) ?_
          refine wl_nil fun F71 hF72 => ?_
          have s73 : F71 28 = undef := (hF72 28).trans s46
          have s74 : F71 4 = .pointer (some ⟨p62, 0, none⟩) := (hF72 4).trans rfl
          have s75 : F71 5 = .int .i64 (0) := (hF72 5).trans rfl
          clear hF72
          refine then_normal ?_
          refine wq_ret ?_
          have B76 : Vfo w63 (fun i => (onB p62) i ∨ ((T59) i)) (.pointer (some ⟨p62, 0, none⟩)) (some (newV m n)) := ⟨_, rfl, _, _, fun i => Iff.rfl, B65, (by rw [← vfL_new]; exact B69), ap68, okV_new hs⟩
          have gr77 : Grew w0 (noB) (fun i => (onB p62) i ∨ ((T59) i)) := fun i h => h.elim (fun y => gr67 i y) (fun y => gr60 i y)
          exact end_2 s73 rfl (res_tmp (v := .pointer (some ⟨p62, 0, none⟩)) rfl s74) (res_tmp (v := .int .i64 (0)) rfl s75) ⟨(.pointer (some ⟨p62, 0, none⟩)), (fun i => (onB p62) i ∨ ((T59) i)), (by first | rw [newVE_yes hs] | rw [newVE_no (by unfold sidesOk; omega)]), K70, ⟨(by first | (rw [optV_yes hs]; exact B76) | (rw [optV_no (by unfold sidesOk; omega)]; exact B76)), gr77⟩⟩

set_option maxHeartbeats 4000000 in
set_option maxRecDepth 100000 in
theorem mref_vget (v : Value) (f : VF) (x y : Int) (T_q : Nat → Prop) (w0 : World) (h_q : Vfo w0 T_q v ((some f))) :
    Calls Try.prog 34 #[v, .int .i64 (x), .int .i64 (y)] w0 fun e w' => e = .returned (.agg #[.int .i64 (f.X x y), .int .i64 (f.Y x y)]) ∧ Kept (fun _ => False) w0 w' := by
  refine calls_wq (args := [v, .int .i64 (x), .int .i64 (y)]) 44 Try.func34 rfl rfl (Nat.le_of_ble_eq_true rfl) ?_
  have K0 := Kept.refl (fun _ => False) w0
  have g_q := Grew.refl w0 T_q
  obtain ⟨p, rfl, c, T2, hT, hp, hr, hap, ok⟩ := h_q
  have gr1 : Grew w0 (T_q) (onB p) := fun i h => g_q i ((fun i h => (hT i).2 (Or.inl h)) i h)
  have gr2 : Grew w0 (T_q) (T2) := fun i h => g_q i ((fun i h => (hT i).2 (Or.inr h)) i h)
  have ap3 : Apart (onB p) (T2) := hap
  refine wq_seq ?_
  refine wq_region ?_
  refine wl_alloc_stc (n := 2) (vs := [.int .i64 (0), .int .i64 (0)]) rfl rfl rfl (by kernel_rfl) fun p4 w5 B7 g8 k6 => ?_
  have gr9 : Grew w0 noB (onB p4) := Grew.new K0 g8
  have ap10 : Apart (onB p4) (onB p) := Apart.new g8 (onB_live (hp).lt)
  have ap11 : Apart (onB p4) (T2) := Apart.new g8 (hr).live
  have B12 := hp.all k6 id
  have B13 := hr.all k6 Apart.none
  have K14 := K0.trans k6 (fun _ _ x => x.elim)
  refine wl_nil fun F15 hF16 => ?_
  have s17 : F15 0 = .pointer (some ⟨p, 0, none⟩) := (hF16 0).trans rfl
  have s18 : F15 1 = .int .i64 (x) := (hF16 1).trans rfl
  have s19 : F15 2 = .int .i64 (y) := (hF16 2).trans rfl
  have s20 : F15 44 = undef := (hF16 44).trans rfl
  have s21 : F15 6 = .pointer (some ⟨p4, 0, none⟩) := (hF16 6).trans rfl
  clear hF16
  refine then_normal ?_
  refine wq_seq ?_
  refine wq_seq ?_
  by_cases d22 : (x) < (0)
  · skip
    refine wq_region ?_
    refine wl_v (.int .i64 (x)) rfl rfl (y_mov rfl s18 ⟨rfl, rfl⟩) ?_
    refine wl_v (.bool true) rfl rfl (y_lss rfl rfl rfl (decide_eq_true d22) ⟨rfl, rfl⟩) ?_
    refine wl_v (.bool true) rfl rfl (y_mov rfl rfl ⟨rfl, rfl⟩) ?_
    refine wl_unless 2 false 9 rfl rfl rfl (Or.inl rfl) rfl ?_
    refine wl_unless 2 false 9 rfl rfl rfl (Or.inl rfl) rfl ?_
    refine wl_unless 2 false 9 rfl rfl rfl (Or.inl rfl) rfl ?_
    refine wl_unless 2 false 9 rfl rfl rfl (Or.inl rfl) rfl ?_
    refine wl_unless 2 false 9 rfl rfl rfl (Or.inl rfl) rfl ?_
    refine wl_unless 2 false 9 rfl rfl rfl (Or.inl rfl) rfl ?_
    refine wl_v (.bool true) rfl rfl (y_pickT rfl rfl rfl ⟨rfl, rfl⟩) ?_
    refine wl_v (.bool true) rfl rfl (y_mov rfl rfl ⟨rfl, rfl⟩) ?_
    refine wl_unless 10 false 17 rfl rfl rfl (Or.inl rfl) rfl ?_
    refine wl_unless 10 false 17 rfl rfl rfl (Or.inl rfl) rfl ?_
    refine wl_v (.bool true) rfl rfl (y_pickT rfl rfl rfl ⟨rfl, rfl⟩) ?_
    refine wl_v (.bool true) rfl rfl (y_mov rfl rfl ⟨rfl, rfl⟩) ?_
    refine wl_unless 14 false 21 rfl rfl rfl (Or.inl rfl) rfl ?_
    refine wl_unless 14 false 21 rfl rfl rfl (Or.inl rfl) rfl ?_
    refine wl_unless 14 false 21 rfl rfl rfl (Or.inl rfl) rfl ?_
    refine wl_unless 14 false 21 rfl rfl rfl (Or.inl rfl) rfl ?_
    refine wl_unless 14 false 21 rfl rfl rfl (Or.inl rfl) rfl ?_
    refine wl_unless 14 false 21 rfl rfl rfl (Or.inl rfl) rfl ?_
    refine wl_v (.bool true) rfl rfl (y_pickT rfl rfl rfl ⟨rfl, rfl⟩) ?_
    refine wl_nil fun F23 hF24 => ?_
    have s25 : F23 0 = .pointer (some ⟨p, 0, none⟩) := (hF24 0).trans s17
    have s26 : F23 1 = .int .i64 (x) := (hF24 1).trans s18
    have s27 : F23 2 = .int .i64 (y) := (hF24 2).trans s19
    have s28 : F23 44 = undef := (hF24 44).trans s20
    have s29 : F23 6 = .pointer (some ⟨p4, 0, none⟩) := (hF24 6).trans s21
    have s30 : F23 28 = .bool true := (hF24 28).trans rfl
    clear hF24
    refine then_normal ?_
    refine wq_cond (t := true) s30 (fun _ => ?_) (fun e => by cases e)
    refine wq_seq ?_
    have hno : ¬ inV f x y := by unfold inV; omega
    refine wq_region ?_
    refine wl_v (.agg #[.int .i64 (0), .int .i64 (0)]) rfl rfl (y_buildL (l' := []) (cells := #[.int .i64 (0), .int .i64 (0)]) rfl bpN (by kernel_rfl) rfl ⟨rfl, rfl⟩) ?_
    refine wl_store_stc (us := [.int .i64 (0), .int .i64 (0)]) stcT_vector rfl rfl rfl s29 rfl B7 rfl (oneI rfl (oneI rfl oneN)) fun w31 B32 k33 => ?_
    have B34 := B12.all k33 (fun x => (((ap10).symm) p rfl x))
    have B35 := B13.all k33 (fun i h x => (((ap11).symm) i h x))
    have K36 := K14.trans k33 (Grew.ok (S := fun _ => False) gr9 noB_le)
    refine wl_nil fun F37 hF38 => ?_
    have s39 : F37 44 = undef := (hF38 44).trans s28
    have s40 : F37 6 = .pointer (some ⟨p4, 0, none⟩) := (hF38 6).trans s29
    clear hF38
    refine then_normal ?_
    refine wq_ret ?_
    refine then_ret ?_
    exact end_stc (vs := [.int .i64 (0), .int .i64 (0)]) stcT_vector s39 rfl rfl s40 B32 ⟨(by first | rw [vfL_at ok hin] | rw [(ok.out x y hno).1, (ok.out x y hno).2]), K36⟩
  · skip
    by_cases d41 : (f.w) ≤ (x)
    · skip
      refine wq_region ?_
      refine wl_v (.int .i64 (x)) rfl rfl (y_mov rfl s18 ⟨rfl, rfl⟩) ?_
      refine wl_v (.bool false) rfl rfl (y_lss rfl rfl rfl (decide_eq_false d22) ⟨rfl, rfl⟩) ?_
      refine wl_v (.bool false) rfl rfl (y_mov rfl rfl ⟨rfl, rfl⟩) ?_
      refine wl_vw (.int .i64 (x)) 2 false 9 rfl rfl rfl rfl rfl (y_mov rfl s18 ⟨rfl, rfl⟩) ?_
      refine wl_vw (.pointer (some ⟨p, 0, none⟩)) 2 false 9 rfl rfl rfl rfl rfl (y_mov rfl s17 ⟨rfl, rfl⟩) ?_
      refine wl_vw (.pointer (some ⟨p, 0, none⟩)) 2 false 9 rfl rfl rfl rfl rfl (y_nilc rfl rfl ⟨rfl, rfl⟩) ?_
      refine wl_vw (.pointer (some ⟨p, 0, none⟩)) 2 false 9 rfl rfl rfl rfl rfl (y_fieldR (n := 1) rfl rfl Try.underlying69 rfl (by kernel_rfl) (by decide) rfl ⟨rfl, rfl⟩) ?_
      refine wl_vw (.int .i64 (f.w)) 2 false 9 rfl rfl rfl rfl rfl (y_ld_stc rfl rfl Try.underlying3 B12 rfl rfl ⟨rfl, rfl⟩) ?_
      refine wl_vw (.bool true) 2 false 9 rfl rfl rfl rfl rfl (y_geq rfl rfl rfl (decide_eq_true d41) ⟨rfl, rfl⟩) ?_
      refine wl_v (.bool true) rfl rfl (y_pickF rfl rfl rfl ⟨rfl, rfl⟩) ?_
      refine wl_v (.bool true) rfl rfl (y_mov rfl rfl ⟨rfl, rfl⟩) ?_
      refine wl_unless 10 false 17 rfl rfl rfl (Or.inl rfl) rfl ?_
      refine wl_unless 10 false 17 rfl rfl rfl (Or.inl rfl) rfl ?_
      refine wl_v (.bool true) rfl rfl (y_pickT rfl rfl rfl ⟨rfl, rfl⟩) ?_
      refine wl_v (.bool true) rfl rfl (y_mov rfl rfl ⟨rfl, rfl⟩) ?_
      refine wl_unless 14 false 21 rfl rfl rfl (Or.inl rfl) rfl ?_
      refine wl_unless 14 false 21 rfl rfl rfl (Or.inl rfl) rfl ?_
      refine wl_unless 14 false 21 rfl rfl rfl (Or.inl rfl) rfl ?_
      refine wl_unless 14 false 21 rfl rfl rfl (Or.inl rfl) rfl ?_
      refine wl_unless 14 false 21 rfl rfl rfl (Or.inl rfl) rfl ?_
      refine wl_unless 14 false 21 rfl rfl rfl (Or.inl rfl) rfl ?_
      refine wl_v (.bool true) rfl rfl (y_pickT rfl rfl rfl ⟨rfl, rfl⟩) ?_
      refine wl_nil fun F42 hF43 => ?_
      have s44 : F42 0 = .pointer (some ⟨p, 0, none⟩) := (hF43 0).trans s17
      have s45 : F42 1 = .int .i64 (x) := (hF43 1).trans s18
      have s46 : F42 2 = .int .i64 (y) := (hF43 2).trans s19
      have s47 : F42 44 = undef := (hF43 44).trans s20
      have s48 : F42 6 = .pointer (some ⟨p4, 0, none⟩) := (hF43 6).trans s21
      have s49 : F42 28 = .bool true := (hF43 28).trans rfl
      clear hF43
      refine then_normal ?_
      refine wq_cond (t := true) s49 (fun _ => ?_) (fun e => by cases e)
      refine wq_seq ?_
      have hno : ¬ inV f x y := by unfold inV; omega
      refine wq_region ?_
      refine wl_v (.agg #[.int .i64 (0), .int .i64 (0)]) rfl rfl (y_buildL (l' := []) (cells := #[.int .i64 (0), .int .i64 (0)]) rfl bpN (by kernel_rfl) rfl ⟨rfl, rfl⟩) ?_
      refine wl_store_stc (us := [.int .i64 (0), .int .i64 (0)]) stcT_vector rfl rfl rfl s48 rfl B7 rfl (oneI rfl (oneI rfl oneN)) fun w50 B51 k52 => ?_
      have B53 := B12.all k52 (fun x => (((ap10).symm) p rfl x))
      have B54 := B13.all k52 (fun i h x => (((ap11).symm) i h x))
      have K55 := K14.trans k52 (Grew.ok (S := fun _ => False) gr9 noB_le)
      refine wl_nil fun F56 hF57 => ?_
      have s58 : F56 44 = undef := (hF57 44).trans s47
      have s59 : F56 6 = .pointer (some ⟨p4, 0, none⟩) := (hF57 6).trans s48
      clear hF57
      refine then_normal ?_
      refine wq_ret ?_
      refine then_ret ?_
      exact end_stc (vs := [.int .i64 (0), .int .i64 (0)]) stcT_vector s58 rfl rfl s59 B51 ⟨(by first | rw [vfL_at ok hin] | rw [(ok.out x y hno).1, (ok.out x y hno).2]), K55⟩
    · skip
      by_cases d60 : (y) < (0)
      · skip
        refine wq_region ?_
        refine wl_v (.int .i64 (x)) rfl rfl (y_mov rfl s18 ⟨rfl, rfl⟩) ?_
        refine wl_v (.bool false) rfl rfl (y_lss rfl rfl rfl (decide_eq_false d22) ⟨rfl, rfl⟩) ?_
        refine wl_v (.bool false) rfl rfl (y_mov rfl rfl ⟨rfl, rfl⟩) ?_
        refine wl_vw (.int .i64 (x)) 2 false 9 rfl rfl rfl rfl rfl (y_mov rfl s18 ⟨rfl, rfl⟩) ?_
        refine wl_vw (.pointer (some ⟨p, 0, none⟩)) 2 false 9 rfl rfl rfl rfl rfl (y_mov rfl s17 ⟨rfl, rfl⟩) ?_
        refine wl_vw (.pointer (some ⟨p, 0, none⟩)) 2 false 9 rfl rfl rfl rfl rfl (y_nilc rfl rfl ⟨rfl, rfl⟩) ?_
        refine wl_vw (.pointer (some ⟨p, 0, none⟩)) 2 false 9 rfl rfl rfl rfl rfl (y_fieldR (n := 1) rfl rfl Try.underlying69 rfl (by kernel_rfl) (by decide) rfl ⟨rfl, rfl⟩) ?_
        refine wl_vw (.int .i64 (f.w)) 2 false 9 rfl rfl rfl rfl rfl (y_ld_stc rfl rfl Try.underlying3 B12 rfl rfl ⟨rfl, rfl⟩) ?_
        refine wl_vw (.bool false) 2 false 9 rfl rfl rfl rfl rfl (y_geq rfl rfl rfl (decide_eq_false d41) ⟨rfl, rfl⟩) ?_
        refine wl_v (.bool false) rfl rfl (y_pickF rfl rfl rfl ⟨rfl, rfl⟩) ?_
        refine wl_v (.bool false) rfl rfl (y_mov rfl rfl ⟨rfl, rfl⟩) ?_
        refine wl_vw (.int .i64 (y)) 10 false 17 rfl rfl rfl rfl rfl (y_mov rfl s19 ⟨rfl, rfl⟩) ?_
        refine wl_vw (.bool true) 10 false 17 rfl rfl rfl rfl rfl (y_lss rfl rfl rfl (decide_eq_true d60) ⟨rfl, rfl⟩) ?_
        refine wl_v (.bool true) rfl rfl (y_pickF rfl rfl rfl ⟨rfl, rfl⟩) ?_
        refine wl_v (.bool true) rfl rfl (y_mov rfl rfl ⟨rfl, rfl⟩) ?_
        refine wl_unless 14 false 21 rfl rfl rfl (Or.inl rfl) rfl ?_
        refine wl_unless 14 false 21 rfl rfl rfl (Or.inl rfl) rfl ?_
        refine wl_unless 14 false 21 rfl rfl rfl (Or.inl rfl) rfl ?_
        refine wl_unless 14 false 21 rfl rfl rfl (Or.inl rfl) rfl ?_
        refine wl_unless 14 false 21 rfl rfl rfl (Or.inl rfl) rfl ?_
        refine wl_unless 14 false 21 rfl rfl rfl (Or.inl rfl) rfl ?_
        refine wl_v (.bool true) rfl rfl (y_pickT rfl rfl rfl ⟨rfl, rfl⟩) ?_
        refine wl_nil fun F61 hF62 => ?_
        have s63 : F61 0 = .pointer (some ⟨p, 0, none⟩) := (hF62 0).trans s17
        have s64 : F61 1 = .int .i64 (x) := (hF62 1).trans s18
        have s65 : F61 2 = .int .i64 (y) := (hF62 2).trans s19
        have s66 : F61 44 = undef := (hF62 44).trans s20
        have s67 : F61 6 = .pointer (some ⟨p4, 0, none⟩) := (hF62 6).trans s21
        have s68 : F61 28 = .bool true := (hF62 28).trans rfl
        clear hF62
        refine then_normal ?_
        refine wq_cond (t := true) s68 (fun _ => ?_) (fun e => by cases e)
        refine wq_seq ?_
        have hno : ¬ inV f x y := by unfold inV; omega
        refine wq_region ?_
        refine wl_v (.agg #[.int .i64 (0), .int .i64 (0)]) rfl rfl (y_buildL (l' := []) (cells := #[.int .i64 (0), .int .i64 (0)]) rfl bpN (by kernel_rfl) rfl ⟨rfl, rfl⟩) ?_
        refine wl_store_stc (us := [.int .i64 (0), .int .i64 (0)]) stcT_vector rfl rfl rfl s67 rfl B7 rfl (oneI rfl (oneI rfl oneN)) fun w69 B70 k71 => ?_
        have B72 := B12.all k71 (fun x => (((ap10).symm) p rfl x))
        have B73 := B13.all k71 (fun i h x => (((ap11).symm) i h x))
        have K74 := K14.trans k71 (Grew.ok (S := fun _ => False) gr9 noB_le)
        refine wl_nil fun F75 hF76 => ?_
        have s77 : F75 44 = undef := (hF76 44).trans s66
        have s78 : F75 6 = .pointer (some ⟨p4, 0, none⟩) := (hF76 6).trans s67
        clear hF76
        refine then_normal ?_
        refine wq_ret ?_
        refine then_ret ?_
        exact end_stc (vs := [.int .i64 (0), .int .i64 (0)]) stcT_vector s77 rfl rfl s78 B70 ⟨(by first | rw [vfL_at ok hin] | rw [(ok.out x y hno).1, (ok.out x y hno).2]), K74⟩
      · skip
        refine wq_region ?_
        refine wl_v (.int .i64 (x)) rfl rfl (y_mov rfl s18 ⟨rfl, rfl⟩) ?_
        refine wl_v (.bool false) rfl rfl (y_lss rfl rfl rfl (decide_eq_false d22) ⟨rfl, rfl⟩) ?_
        refine wl_v (.bool false) rfl rfl (y_mov rfl rfl ⟨rfl, rfl⟩) ?_
        refine wl_vw (.int .i64 (x)) 2 false 9 rfl rfl rfl rfl rfl (y_mov rfl s18 ⟨rfl, rfl⟩) ?_
        refine wl_vw (.pointer (some ⟨p, 0, none⟩)) 2 false 9 rfl rfl rfl rfl rfl (y_mov rfl s17 ⟨rfl, rfl⟩) ?_
        refine wl_vw (.pointer (some ⟨p, 0, none⟩)) 2 false 9 rfl rfl rfl rfl rfl (y_nilc rfl rfl ⟨rfl, rfl⟩) ?_
        refine wl_vw (.pointer (some ⟨p, 0, none⟩)) 2 false 9 rfl rfl rfl rfl rfl (y_fieldR (n := 1) rfl rfl Try.underlying69 rfl (by kernel_rfl) (by decide) rfl ⟨rfl, rfl⟩) ?_
        refine wl_vw (.int .i64 (f.w)) 2 false 9 rfl rfl rfl rfl rfl (y_ld_stc rfl rfl Try.underlying3 B12 rfl rfl ⟨rfl, rfl⟩) ?_
        refine wl_vw (.bool false) 2 false 9 rfl rfl rfl rfl rfl (y_geq rfl rfl rfl (decide_eq_false d41) ⟨rfl, rfl⟩) ?_
        refine wl_v (.bool false) rfl rfl (y_pickF rfl rfl rfl ⟨rfl, rfl⟩) ?_
        refine wl_v (.bool false) rfl rfl (y_mov rfl rfl ⟨rfl, rfl⟩) ?_
        refine wl_vw (.int .i64 (y)) 10 false 17 rfl rfl rfl rfl rfl (y_mov rfl s19 ⟨rfl, rfl⟩) ?_
        refine wl_vw (.bool false) 10 false 17 rfl rfl rfl rfl rfl (y_lss rfl rfl rfl (decide_eq_false d60) ⟨rfl, rfl⟩) ?_
        refine wl_v (.bool false) rfl rfl (y_pickF rfl rfl rfl ⟨rfl, rfl⟩) ?_
        refine wl_v (.bool false) rfl rfl (y_mov rfl rfl ⟨rfl, rfl⟩) ?_
        refine wl_vw (.int .i64 (y)) 14 false 21 rfl rfl rfl rfl rfl (y_mov rfl s19 ⟨rfl, rfl⟩) ?_
        refine wl_vw (.pointer (some ⟨p, 0, none⟩)) 14 false 21 rfl rfl rfl rfl rfl (y_mov rfl s17 ⟨rfl, rfl⟩) ?_
        refine wl_vw (.pointer (some ⟨p, 0, none⟩)) 14 false 21 rfl rfl rfl rfl rfl (y_nilc rfl rfl ⟨rfl, rfl⟩) ?_
        refine wl_vw (.pointer (some ⟨p, 1, none⟩)) 14 false 21 rfl rfl rfl rfl rfl (y_fieldR (n := 1) rfl rfl Try.underlying69 rfl (by kernel_rfl) (by decide) rfl ⟨rfl, rfl⟩) ?_
        refine wl_vw (.int .i64 (f.h)) 14 false 21 rfl rfl rfl rfl rfl (y_ld_stc rfl rfl Try.underlying3 B12 rfl rfl ⟨rfl, rfl⟩) ?_
        refine wl_vw (.bool (decide ((f.h) ≤ (y)))) 14 false 21 rfl rfl rfl rfl rfl (y_geq rfl rfl rfl rfl ⟨rfl, rfl⟩) ?_
        refine wl_v (.bool (decide ((f.h) ≤ (y)))) rfl rfl (y_pickF rfl rfl rfl ⟨rfl, rfl⟩) ?_
        refine wl_nil fun F79 hF80 => ?_
        have s81 : F79 0 = .pointer (some ⟨p, 0, none⟩) := (hF80 0).trans s17
        have s82 : F79 1 = .int .i64 (x) := (hF80 1).trans s18
        have s83 : F79 2 = .int .i64 (y) := (hF80 2).trans s19
        have s84 : F79 44 = undef := (hF80 44).trans s20
        have s85 : F79 6 = .pointer (some ⟨p4, 0, none⟩) := (hF80 6).trans s21
        have s86 : F79 28 = .bool (decide ((f.h) ≤ (y))) := (hF80 28).trans rfl
        clear hF80
        refine then_normal ?_
        refine wq_cond s86 (fun c87 => ?_) (fun c87 => ?_)
        · replace c87 := of_decide_eq_true c87
          refine wq_seq ?_
          have hno : ¬ inV f x y := by unfold inV; omega
          refine wq_region ?_
          refine wl_v (.agg #[.int .i64 (0), .int .i64 (0)]) rfl rfl (y_buildL (l' := []) (cells := #[.int .i64 (0), .int .i64 (0)]) rfl bpN (by kernel_rfl) rfl ⟨rfl, rfl⟩) ?_
          refine wl_store_stc (us := [.int .i64 (0), .int .i64 (0)]) stcT_vector rfl rfl rfl s85 rfl B7 rfl (oneI rfl (oneI rfl oneN)) fun w88 B89 k90 => ?_
          have B91 := B12.all k90 (fun x => (((ap10).symm) p rfl x))
          have B92 := B13.all k90 (fun i h x => (((ap11).symm) i h x))
          have K93 := K14.trans k90 (Grew.ok (S := fun _ => False) gr9 noB_le)
          refine wl_nil fun F94 hF95 => ?_
          have s96 : F94 44 = undef := (hF95 44).trans s84
          have s97 : F94 6 = .pointer (some ⟨p4, 0, none⟩) := (hF95 6).trans s85
          clear hF95
          refine then_normal ?_
          refine wq_ret ?_
          refine then_ret ?_
          exact end_stc (vs := [.int .i64 (0), .int .i64 (0)]) stcT_vector s96 rfl rfl s97 B89 ⟨(by first | rw [vfL_at ok hin] | rw [(ok.out x y hno).1, (ok.out x y hno).2]), K93⟩
        · replace c87 := of_decide_eq_false c87
          refine wq_skip ?_
          refine then_normal ?_
          refine wq_seq ?_
          have hin : inV f x y := ⟨by omega, by omega, by omega, by omega⟩
          have hl := in_lt ok hin
          have hw := ok.w
          have hlen := vfL_length f
          refine wq_tail 14 [some 30, some 31, some 32, some 33, some 34, some 35, some 36, some 37, some 38, some 39, some 40, some 41, some 42, some 43] [Pd.eq (.pointer (some ⟨p, 0, none⟩)), Pd.eq (.pointer (some ⟨p, 0, none⟩)), Pd.eq (.pointer (some ⟨p, 2, none⟩)), Pd.eq (c), Pd.eq (.int .i64 (y)), Pd.eq (.pointer (some ⟨p, 0, none⟩)), Pd.eq (.pointer (some ⟨p, 0, none⟩)), Pd.eq (.pointer (some ⟨p, 0, none⟩)), Pd.eq (.int .i64 (f.w)), Pd.eq (.int .i64 ((y) * (f.w))), Pd.eq (.int .i64 (x)), Pd.eq (.int .i64 (((y) * (f.w)) + (x))), Pd.eq (bytAddr (c) (((((y) * (f.w)) + (x)).toNat) * 2)), Pd.eq (.agg #[.int .i64 (((vfL f).getD ((((y) * (f.w)) + (x)).toNat) ⟨0, 0⟩).X), .int .i64 (((vfL f).getD ((((y) * (f.w)) + (x)).toNat) ⟨0, 0⟩).Y)])] (by kernel_rfl) (by kernel_rfl) (by kernel_rfl) ?_ ?_
          · refine stepsF_cons ?_ ?_
            · refine StepF.one rfl fun F_ w_ hR hout hD => ?_
              exact (y_mov rfl ((hout 0 rfl (by decide)).trans s81) ⟨rfl, Kept.refl _ _⟩)
            refine stepsF_cons ?_ ?_
            · refine StepF.one rfl fun F_ w_ hR hout hD => ?_
              have g30 : F_ 30 = .pointer (some ⟨p, 0, none⟩) := (hD.get 0 rfl rfl rfl)
              exact (y_nilc rfl g30 ⟨rfl, Kept.refl _ _⟩)
            refine stepsF_cons ?_ ?_
            · refine StepF.one rfl fun F_ w_ hR hout hD => ?_
              have g31 : F_ 31 = .pointer (some ⟨p, 0, none⟩) := (hD.get 0 rfl rfl rfl)
              exact (y_fieldR (n := 1) rfl g31 Try.underlying69 rfl (by kernel_rfl) (by decide) rfl ⟨rfl, Kept.refl _ _⟩)
            refine stepsF_cons ?_ ?_
            · refine StepF.one rfl fun F_ w_ hR hout hD => ?_
              have g32 : F_ 32 = .pointer (some ⟨p, 2, none⟩) := (hD.get 0 rfl rfl rfl)
              exact (y_ld_stc rfl g32 Try.underlying57 (B12.all hR id) rfl rfl ⟨rfl, Kept.refl _ _⟩)
            refine stepsF_cons ?_ ?_
            · refine StepF.one rfl fun F_ w_ hR hout hD => ?_
              exact (y_mov rfl ((hout 2 rfl (by decide)).trans s83) ⟨rfl, Kept.refl _ _⟩)
            refine stepsF_cons ?_ ?_
            · refine StepF.one rfl fun F_ w_ hR hout hD => ?_
              exact (y_mov rfl ((hout 0 rfl (by decide)).trans s81) ⟨rfl, Kept.refl _ _⟩)
            refine stepsF_cons ?_ ?_
            · refine StepF.one rfl fun F_ w_ hR hout hD => ?_
              have g35 : F_ 35 = .pointer (some ⟨p, 0, none⟩) := (hD.get 0 rfl rfl rfl)
              exact (y_nilc rfl g35 ⟨rfl, Kept.refl _ _⟩)
            refine stepsF_cons ?_ ?_
            · refine StepF.one rfl fun F_ w_ hR hout hD => ?_
              have g36 : F_ 36 = .pointer (some ⟨p, 0, none⟩) := (hD.get 0 rfl rfl rfl)
              exact (y_fieldR (n := 1) rfl g36 Try.underlying69 rfl (by kernel_rfl) (by decide) rfl ⟨rfl, Kept.refl _ _⟩)
            refine stepsF_cons ?_ ?_
            · refine StepF.one rfl fun F_ w_ hR hout hD => ?_
              have g37 : F_ 37 = .pointer (some ⟨p, 0, none⟩) := (hD.get 0 rfl rfl rfl)
              exact (y_ld_stc rfl g37 Try.underlying3 (B12.all hR id) rfl rfl ⟨rfl, Kept.refl _ _⟩)
            refine stepsF_cons ?_ ?_
            · refine StepF.one rfl fun F_ w_ hR hout hD => ?_
              have g34 : F_ 34 = .int .i64 (y) := (hD.get 0 rfl rfl rfl)
              have g38 : F_ 38 = .int .i64 (f.w) := (hD.get 1 rfl rfl rfl)
              exact (y_mul rfl g34 g38 (i64_i rfl (by omega)) ⟨rfl, Kept.refl _ _⟩)
            refine stepsF_cons ?_ ?_
            · refine StepF.one rfl fun F_ w_ hR hout hD => ?_
              exact (y_mov rfl ((hout 1 rfl (by decide)).trans s82) ⟨rfl, Kept.refl _ _⟩)
            refine stepsF_cons ?_ ?_
            · refine StepF.one rfl fun F_ w_ hR hout hD => ?_
              have g39 : F_ 39 = .int .i64 ((y) * (f.w)) := (hD.get 0 rfl rfl rfl)
              have g40 : F_ 40 = .int .i64 (x) := (hD.get 1 rfl rfl rfl)
              exact (y_add rfl g39 g40 (i64_i rfl (by omega)) ⟨rfl, Kept.refl _ _⟩)
            refine stepsF_cons ?_ ?_
            · refine StepF.one rfl fun F_ w_ hR hout hD => ?_
              have g33 : F_ 33 = c := (hD.get 0 rfl rfl rfl)
              have g41 : F_ 41 = .int .i64 (((y) * (f.w)) + (x)) := (hD.get 1 rfl rfl rfl)
              exact (y_atRo (r := rVec) ((((y) * (f.w)) + (x)).toNat) rfl g33 g41 (by omega) ((B13.all hR Apart.none)).roa (by omega) ⟨rfl, Kept.refl _ _⟩)
            refine stepsF_cons ?_ ?_
            · refine StepF.one rfl fun F_ w_ hR hout hD => ?_
              have g42 : F_ 42 = bytAddr (c) (((((y) * (f.w)) + (x)).toNat) * 2) := (hD.get 0 rfl rfl rfl)
              exact (y_ldRoP (r := rVec) (n := 2) ((((y) * (f.w)) + (x)).toNat) 0 stcT_vector rfl g42 ((B13.all hR Apart.none)).roa (by omega) (by decide) rfl ⟨rfl, Kept.refl _ _⟩)
            exact stepsF_nil
          intro v98 F99 w100 k101 G102 hF103
          have B105 := B12.all k101 id
          have B106 := B13.all k101 Apart.none
          have B107 := B7.all k101 id
          have K108 := K14.trans k101 (fun _ _ x => x.elim)
          have s109 : F99 44 = undef := (hF103 44).trans s84
          have s110 : F99 6 = .pointer (some ⟨p4, 0, none⟩) := (hF103 6).trans s85
          have s111 : F99 43 = .agg #[.int .i64 (((vfL f).getD ((((y) * (f.w)) + (x)).toNat) ⟨0, 0⟩).X), .int .i64 (((vfL f).getD ((((y) * (f.w)) + (x)).toNat) ⟨0, 0⟩).Y)] := (hF103 43).trans (G102 13 (by decide))
          clear G102 hF103
          refine wl_store_stc (us := [.int .i64 (((vfL f).getD ((((y) * (f.w)) + (x)).toNat) ⟨0, 0⟩).X), .int .i64 (((vfL f).getD ((((y) * (f.w)) + (x)).toNat) ⟨0, 0⟩).Y)]) stcT_vector rfl rfl rfl s110 s111 B107 rfl (oneI rfl (oneI rfl oneN)) fun w112 B113 k114 => ?_
          have B115 := B105.all k114 (fun x => (((ap10).symm) p rfl x))
          have B116 := B106.all k114 (fun i h x => (((ap11).symm) i h x))
          have K117 := K108.trans k114 (Grew.ok (S := fun _ => False) gr9 noB_le)
          refine wl_nil fun F118 hF119 => ?_
          have s120 : F118 44 = undef := (hF119 44).trans s109
          have s121 : F118 6 = .pointer (some ⟨p4, 0, none⟩) := (hF119 6).trans s110
          clear hF119
          refine then_normal ?_
          refine wq_ret ?_
          exact end_stc (vs := [.int .i64 (((vfL f).getD ((((y) * (f.w)) + (x)).toNat) ⟨0, 0⟩).X), .int .i64 (((vfL f).getD ((((y) * (f.w)) + (x)).toNat) ⟨0, 0⟩).Y)]) stcT_vector s120 rfl rfl s121 B113 ⟨(by first | rw [vfL_at ok hin] | rw [(ok.out x y hno).1, (ok.out x y hno).2]), K117⟩

set_option maxHeartbeats 4000000 in
set_option maxRecDepth 100000 in
theorem mref_vset (v : Value) (f : VF) (x y X Y : Int) (T_q : Nat → Prop) (w0 : World) (h_q : Vfo w0 T_q v ((some f))) :
    Calls Try.prog 14 #[v, .int .i64 (x), .int .i64 (y), .agg #[.int .i64 (X), .int .i64 (Y)]] w0 fun e w' => ∃ (T_q' : Nat → Prop), e = .returned (.int .i64 (setE f x y X Y)) ∧ Kept (T_q) w0 w' ∧ (Vfo w' T_q' v ((some (setV f x y X Y))) ∧ Grew w0 T_q T_q') := by
  refine calls_wq (args := [v, .int .i64 (x), .int .i64 (y), .agg #[.int .i64 (X), .int .i64 (Y)]]) 48 Try.func14 rfl rfl (Nat.le_of_ble_eq_true rfl) ?_
  have K0 := Kept.refl (T_q) w0
  have g_q := Grew.refl w0 T_q
  obtain ⟨p, rfl, c, T2, hT, hp, hr, hap, ok⟩ := h_q
  have gr1 : Grew w0 (T_q) (onB p) := fun i h => g_q i ((fun i h => (hT i).2 (Or.inl h)) i h)
  have gr2 : Grew w0 (T_q) (T2) := fun i h => g_q i ((fun i h => (hT i).2 (Or.inr h)) i h)
  have ap3 : Apart (onB p) (T2) := hap
  refine wq_seq ?_
  refine wq_region ?_
  refine wl_box_stc (vs := [.int .i64 (X), .int .i64 (Y)]) rfl rfl rfl rfl fun p4 w5 B7 g8 k6 => ?_
  have gr9 : Grew w0 noB (onB p4) := Grew.new K0 g8
  have ap10 : Apart (onB p4) (onB p) := Apart.new g8 (onB_live (hp).lt)
  have ap11 : Apart (onB p4) (T2) := Apart.new g8 (hr).live
  have B12 := hp.all k6 id
  have B13 := hr.all k6 Apart.none
  have K14 := K0.trans k6 (fun _ _ x => x.elim)
  refine wl_v (.int .i64 (0)) rfl rfl (y_asg rfl rfl ⟨rfl, rfl⟩) ?_
  refine wl_nil fun F15 hF16 => ?_
  have s17 : F15 0 = .pointer (some ⟨p, 0, none⟩) := (hF16 0).trans rfl
  have s18 : F15 1 = .int .i64 (x) := (hF16 1).trans rfl
  have s19 : F15 2 = .int .i64 (y) := (hF16 2).trans rfl
  have s20 : F15 48 = undef := (hF16 48).trans rfl
  have s21 : F15 7 = .pointer (some ⟨p4, 0, none⟩) := (hF16 7).trans rfl
  clear hF16
  refine then_normal ?_
  refine wq_seq ?_
  refine wq_seq ?_
  by_cases d22 : (x) < (0)
  · skip
    refine wq_region ?_
    refine wl_v (.int .i64 (x)) rfl rfl (y_mov rfl s18 ⟨rfl, rfl⟩) ?_
    refine wl_v (.bool true) rfl rfl (y_lss rfl rfl rfl (decide_eq_true d22) ⟨rfl, rfl⟩) ?_
    refine wl_v (.bool true) rfl rfl (y_mov rfl rfl ⟨rfl, rfl⟩) ?_
    refine wl_unless 2 false 11 rfl rfl rfl (Or.inl rfl) rfl ?_
    refine wl_unless 2 false 11 rfl rfl rfl (Or.inl rfl) rfl ?_
    refine wl_unless 2 false 11 rfl rfl rfl (Or.inl rfl) rfl ?_
    refine wl_unless 2 false 11 rfl rfl rfl (Or.inl rfl) rfl ?_
    refine wl_unless 2 false 11 rfl rfl rfl (Or.inl rfl) rfl ?_
    refine wl_unless 2 false 11 rfl rfl rfl (Or.inl rfl) rfl ?_
    refine wl_v (.bool true) rfl rfl (y_pickT rfl rfl rfl ⟨rfl, rfl⟩) ?_
    refine wl_v (.bool true) rfl rfl (y_mov rfl rfl ⟨rfl, rfl⟩) ?_
    refine wl_unless 10 false 19 rfl rfl rfl (Or.inl rfl) rfl ?_
    refine wl_unless 10 false 19 rfl rfl rfl (Or.inl rfl) rfl ?_
    refine wl_v (.bool true) rfl rfl (y_pickT rfl rfl rfl ⟨rfl, rfl⟩) ?_
    refine wl_v (.bool true) rfl rfl (y_mov rfl rfl ⟨rfl, rfl⟩) ?_
    refine wl_unless 14 false 23 rfl rfl rfl (Or.inl rfl) rfl ?_
    refine wl_unless 14 false 23 rfl rfl rfl (Or.inl rfl) rfl ?_
    refine wl_unless 14 false 23 rfl rfl rfl (Or.inl rfl) rfl ?_
    refine wl_unless 14 false 23 rfl rfl rfl (Or.inl rfl) rfl ?_
    refine wl_unless 14 false 23 rfl rfl rfl (Or.inl rfl) rfl ?_
    refine wl_unless 14 false 23 rfl rfl rfl (Or.inl rfl) rfl ?_
    refine wl_v (.bool true) rfl rfl (y_pickT rfl rfl rfl ⟨rfl, rfl⟩) ?_
    refine wl_nil fun F23 hF24 => ?_
    have s25 : F23 0 = .pointer (some ⟨p, 0, none⟩) := (hF24 0).trans s17
    have s26 : F23 1 = .int .i64 (x) := (hF24 1).trans s18
    have s27 : F23 2 = .int .i64 (y) := (hF24 2).trans s19
    have s28 : F23 48 = undef := (hF24 48).trans s20
    have s29 : F23 7 = .pointer (some ⟨p4, 0, none⟩) := (hF24 7).trans s21
    have s30 : F23 30 = .bool true := (hF24 30).trans rfl
    clear hF24
    refine then_normal ?_
    refine wq_cond (t := true) s30 (fun _ => ?_) (fun e => by cases e)
    refine wq_seq ?_
    have hno : ¬ inV f x y := by unfold inV; omega
    refine wq_region ?_
    refine wl_v (.int .i64 (1)) rfl rfl (y_asg rfl rfl ⟨rfl, rfl⟩) ?_
    refine wl_nil fun F31 hF32 => ?_
    have s33 : F31 48 = undef := (hF32 48).trans s28
    have s34 : F31 8 = .int .i64 (1) := (hF32 8).trans rfl
    clear hF32
    refine then_normal ?_
    refine wq_ret ?_
    refine then_ret ?_
    have B35 : Vfo w5 (fun i => (onB p) i ∨ ((T2) i)) (.pointer (some ⟨p, 0, none⟩)) (some (setV f x y X Y)) := (by first | (rw [(set_yes hin hv).2]; exact ⟨_, rfl, _, _, fun i => Iff.rfl, B12, (by rw [← vfL_lay ok hin]; exact B13), ap3, okV_lay ok hin hv⟩) | (rw [(set_none hin hvn).2]; exact ⟨_, rfl, _, _, fun i => Iff.rfl, B12, B13, ap3, ok⟩) | (rw [(set_no hno).2]; exact ⟨_, rfl, _, _, fun i => Iff.rfl, B12, B13, ap3, ok⟩))
    have gr36 : Grew w0 (T_q) (fun i => (onB p) i ∨ ((T2) i)) := fun i h => h.elim (fun y => gr1 i y) (fun y => gr2 i y)
    have ap37 : Apart (fun i => (onB p) i ∨ ((T2) i)) (onB p4) := fun i h => h.elim (fun y => ((ap10).symm) i y) (fun y => ((ap11).symm) i y)
    exact end_tmp (v := .int .i64 (1)) s33 rfl rfl s34 ⟨(fun i => (onB p) i ∨ ((T2) i)), (by first | rw [(set_yes hin hv).1] | rw [(set_none hin hvn).1] | rw [(set_no hno).1]), K14, ⟨B35, gr36⟩⟩
  · skip
    by_cases d38 : (f.w) ≤ (x)
    · skip
      refine wq_region ?_
      refine wl_v (.int .i64 (x)) rfl rfl (y_mov rfl s18 ⟨rfl, rfl⟩) ?_
      refine wl_v (.bool false) rfl rfl (y_lss rfl rfl rfl (decide_eq_false d22) ⟨rfl, rfl⟩) ?_
      refine wl_v (.bool false) rfl rfl (y_mov rfl rfl ⟨rfl, rfl⟩) ?_
      refine wl_vw (.int .i64 (x)) 2 false 11 rfl rfl rfl rfl rfl (y_mov rfl s18 ⟨rfl, rfl⟩) ?_
      refine wl_vw (.pointer (some ⟨p, 0, none⟩)) 2 false 11 rfl rfl rfl rfl rfl (y_mov rfl s17 ⟨rfl, rfl⟩) ?_
      refine wl_vw (.pointer (some ⟨p, 0, none⟩)) 2 false 11 rfl rfl rfl rfl rfl (y_nilc rfl rfl ⟨rfl, rfl⟩) ?_
      refine wl_vw (.pointer (some ⟨p, 0, none⟩)) 2 false 11 rfl rfl rfl rfl rfl (y_fieldR (n := 1) rfl rfl Try.underlying69 rfl (by kernel_rfl) (by decide) rfl ⟨rfl, rfl⟩) ?_
      refine wl_vw (.int .i64 (f.w)) 2 false 11 rfl rfl rfl rfl rfl (y_ld_stc rfl rfl Try.underlying3 B12 rfl rfl ⟨rfl, rfl⟩) ?_
      refine wl_vw (.bool true) 2 false 11 rfl rfl rfl rfl rfl (y_geq rfl rfl rfl (decide_eq_true d38) ⟨rfl, rfl⟩) ?_
      refine wl_v (.bool true) rfl rfl (y_pickF rfl rfl rfl ⟨rfl, rfl⟩) ?_
      refine wl_v (.bool true) rfl rfl (y_mov rfl rfl ⟨rfl, rfl⟩) ?_
      refine wl_unless 10 false 19 rfl rfl rfl (Or.inl rfl) rfl ?_
      refine wl_unless 10 false 19 rfl rfl rfl (Or.inl rfl) rfl ?_
      refine wl_v (.bool true) rfl rfl (y_pickT rfl rfl rfl ⟨rfl, rfl⟩) ?_
      refine wl_v (.bool true) rfl rfl (y_mov rfl rfl ⟨rfl, rfl⟩) ?_
      refine wl_unless 14 false 23 rfl rfl rfl (Or.inl rfl) rfl ?_
      refine wl_unless 14 false 23 rfl rfl rfl (Or.inl rfl) rfl ?_
      refine wl_unless 14 false 23 rfl rfl rfl (Or.inl rfl) rfl ?_
      refine wl_unless 14 false 23 rfl rfl rfl (Or.inl rfl) rfl ?_
      refine wl_unless 14 false 23 rfl rfl rfl (Or.inl rfl) rfl ?_
      refine wl_unless 14 false 23 rfl rfl rfl (Or.inl rfl) rfl ?_
      refine wl_v (.bool true) rfl rfl (y_pickT rfl rfl rfl ⟨rfl, rfl⟩) ?_
      refine wl_nil fun F39 hF40 => ?_
      have s41 : F39 0 = .pointer (some ⟨p, 0, none⟩) := (hF40 0).trans s17
      have s42 : F39 1 = .int .i64 (x) := (hF40 1).trans s18
      have s43 : F39 2 = .int .i64 (y) := (hF40 2).trans s19
      have s44 : F39 48 = undef := (hF40 48).trans s20
      have s45 : F39 7 = .pointer (some ⟨p4, 0, none⟩) := (hF40 7).trans s21
      have s46 : F39 30 = .bool true := (hF40 30).trans rfl
      clear hF40
      refine then_normal ?_
      refine wq_cond (t := true) s46 (fun _ => ?_) (fun e => by cases e)
      refine wq_seq ?_
      have hno : ¬ inV f x y := by unfold inV; omega
      refine wq_region ?_
      refine wl_v (.int .i64 (1)) rfl rfl (y_asg rfl rfl ⟨rfl, rfl⟩) ?_
      refine wl_nil fun F47 hF48 => ?_
      have s49 : F47 48 = undef := (hF48 48).trans s44
      have s50 : F47 8 = .int .i64 (1) := (hF48 8).trans rfl
      clear hF48
      refine then_normal ?_
      refine wq_ret ?_
      refine then_ret ?_
      have B51 : Vfo w5 (fun i => (onB p) i ∨ ((T2) i)) (.pointer (some ⟨p, 0, none⟩)) (some (setV f x y X Y)) := (by first | (rw [(set_yes hin hv).2]; exact ⟨_, rfl, _, _, fun i => Iff.rfl, B12, (by rw [← vfL_lay ok hin]; exact B13), ap3, okV_lay ok hin hv⟩) | (rw [(set_none hin hvn).2]; exact ⟨_, rfl, _, _, fun i => Iff.rfl, B12, B13, ap3, ok⟩) | (rw [(set_no hno).2]; exact ⟨_, rfl, _, _, fun i => Iff.rfl, B12, B13, ap3, ok⟩))
      have gr52 : Grew w0 (T_q) (fun i => (onB p) i ∨ ((T2) i)) := fun i h => h.elim (fun y => gr1 i y) (fun y => gr2 i y)
      have ap53 : Apart (fun i => (onB p) i ∨ ((T2) i)) (onB p4) := fun i h => h.elim (fun y => ((ap10).symm) i y) (fun y => ((ap11).symm) i y)
      exact end_tmp (v := .int .i64 (1)) s49 rfl rfl s50 ⟨(fun i => (onB p) i ∨ ((T2) i)), (by first | rw [(set_yes hin hv).1] | rw [(set_none hin hvn).1] | rw [(set_no hno).1]), K14, ⟨B51, gr52⟩⟩
    · skip
      by_cases d54 : (y) < (0)
      · skip
        refine wq_region ?_
        refine wl_v (.int .i64 (x)) rfl rfl (y_mov rfl s18 ⟨rfl, rfl⟩) ?_
        refine wl_v (.bool false) rfl rfl (y_lss rfl rfl rfl (decide_eq_false d22) ⟨rfl, rfl⟩) ?_
        refine wl_v (.bool false) rfl rfl (y_mov rfl rfl ⟨rfl, rfl⟩) ?_
        refine wl_vw (.int .i64 (x)) 2 false 11 rfl rfl rfl rfl rfl (y_mov rfl s18 ⟨rfl, rfl⟩) ?_
        refine wl_vw (.pointer (some ⟨p, 0, none⟩)) 2 false 11 rfl rfl rfl rfl rfl (y_mov rfl s17 ⟨rfl, rfl⟩) ?_
        refine wl_vw (.pointer (some ⟨p, 0, none⟩)) 2 false 11 rfl rfl rfl rfl rfl (y_nilc rfl rfl ⟨rfl, rfl⟩) ?_
        refine wl_vw (.pointer (some ⟨p, 0, none⟩)) 2 false 11 rfl rfl rfl rfl rfl (y_fieldR (n := 1) rfl rfl Try.underlying69 rfl (by kernel_rfl) (by decide) rfl ⟨rfl, rfl⟩) ?_
        refine wl_vw (.int .i64 (f.w)) 2 false 11 rfl rfl rfl rfl rfl (y_ld_stc rfl rfl Try.underlying3 B12 rfl rfl ⟨rfl, rfl⟩) ?_
        refine wl_vw (.bool false) 2 false 11 rfl rfl rfl rfl rfl (y_geq rfl rfl rfl (decide_eq_false d38) ⟨rfl, rfl⟩) ?_
        refine wl_v (.bool false) rfl rfl (y_pickF rfl rfl rfl ⟨rfl, rfl⟩) ?_
        refine wl_v (.bool false) rfl rfl (y_mov rfl rfl ⟨rfl, rfl⟩) ?_
        refine wl_vw (.int .i64 (y)) 10 false 19 rfl rfl rfl rfl rfl (y_mov rfl s19 ⟨rfl, rfl⟩) ?_
        refine wl_vw (.bool true) 10 false 19 rfl rfl rfl rfl rfl (y_lss rfl rfl rfl (decide_eq_true d54) ⟨rfl, rfl⟩) ?_
        refine wl_v (.bool true) rfl rfl (y_pickF rfl rfl rfl ⟨rfl, rfl⟩) ?_
        refine wl_v (.bool true) rfl rfl (y_mov rfl rfl ⟨rfl, rfl⟩) ?_
        refine wl_unless 14 false 23 rfl rfl rfl (Or.inl rfl) rfl ?_
        refine wl_unless 14 false 23 rfl rfl rfl (Or.inl rfl) rfl ?_
        refine wl_unless 14 false 23 rfl rfl rfl (Or.inl rfl) rfl ?_
        refine wl_unless 14 false 23 rfl rfl rfl (Or.inl rfl) rfl ?_
        refine wl_unless 14 false 23 rfl rfl rfl (Or.inl rfl) rfl ?_
        refine wl_unless 14 false 23 rfl rfl rfl (Or.inl rfl) rfl ?_
        refine wl_v (.bool true) rfl rfl (y_pickT rfl rfl rfl ⟨rfl, rfl⟩) ?_
        refine wl_nil fun F55 hF56 => ?_
        have s57 : F55 0 = .pointer (some ⟨p, 0, none⟩) := (hF56 0).trans s17
        have s58 : F55 1 = .int .i64 (x) := (hF56 1).trans s18
        have s59 : F55 2 = .int .i64 (y) := (hF56 2).trans s19
        have s60 : F55 48 = undef := (hF56 48).trans s20
        have s61 : F55 7 = .pointer (some ⟨p4, 0, none⟩) := (hF56 7).trans s21
        have s62 : F55 30 = .bool true := (hF56 30).trans rfl
        clear hF56
        refine then_normal ?_
        refine wq_cond (t := true) s62 (fun _ => ?_) (fun e => by cases e)
        refine wq_seq ?_
        have hno : ¬ inV f x y := by unfold inV; omega
        refine wq_region ?_
        refine wl_v (.int .i64 (1)) rfl rfl (y_asg rfl rfl ⟨rfl, rfl⟩) ?_
        refine wl_nil fun F63 hF64 => ?_
        have s65 : F63 48 = undef := (hF64 48).trans s60
        have s66 : F63 8 = .int .i64 (1) := (hF64 8).trans rfl
        clear hF64
        refine then_normal ?_
        refine wq_ret ?_
        refine then_ret ?_
        have B67 : Vfo w5 (fun i => (onB p) i ∨ ((T2) i)) (.pointer (some ⟨p, 0, none⟩)) (some (setV f x y X Y)) := (by first | (rw [(set_yes hin hv).2]; exact ⟨_, rfl, _, _, fun i => Iff.rfl, B12, (by rw [← vfL_lay ok hin]; exact B13), ap3, okV_lay ok hin hv⟩) | (rw [(set_none hin hvn).2]; exact ⟨_, rfl, _, _, fun i => Iff.rfl, B12, B13, ap3, ok⟩) | (rw [(set_no hno).2]; exact ⟨_, rfl, _, _, fun i => Iff.rfl, B12, B13, ap3, ok⟩))
        have gr68 : Grew w0 (T_q) (fun i => (onB p) i ∨ ((T2) i)) := fun i h => h.elim (fun y => gr1 i y) (fun y => gr2 i y)
        have ap69 : Apart (fun i => (onB p) i ∨ ((T2) i)) (onB p4) := fun i h => h.elim (fun y => ((ap10).symm) i y) (fun y => ((ap11).symm) i y)
        exact end_tmp (v := .int .i64 (1)) s65 rfl rfl s66 ⟨(fun i => (onB p) i ∨ ((T2) i)), (by first | rw [(set_yes hin hv).1] | rw [(set_none hin hvn).1] | rw [(set_no hno).1]), K14, ⟨B67, gr68⟩⟩
      · skip
        refine wq_region ?_
        refine wl_v (.int .i64 (x)) rfl rfl (y_mov rfl s18 ⟨rfl, rfl⟩) ?_
        refine wl_v (.bool false) rfl rfl (y_lss rfl rfl rfl (decide_eq_false d22) ⟨rfl, rfl⟩) ?_
        refine wl_v (.bool false) rfl rfl (y_mov rfl rfl ⟨rfl, rfl⟩) ?_
        refine wl_vw (.int .i64 (x)) 2 false 11 rfl rfl rfl rfl rfl (y_mov rfl s18 ⟨rfl, rfl⟩) ?_
        refine wl_vw (.pointer (some ⟨p, 0, none⟩)) 2 false 11 rfl rfl rfl rfl rfl (y_mov rfl s17 ⟨rfl, rfl⟩) ?_
        refine wl_vw (.pointer (some ⟨p, 0, none⟩)) 2 false 11 rfl rfl rfl rfl rfl (y_nilc rfl rfl ⟨rfl, rfl⟩) ?_
        refine wl_vw (.pointer (some ⟨p, 0, none⟩)) 2 false 11 rfl rfl rfl rfl rfl (y_fieldR (n := 1) rfl rfl Try.underlying69 rfl (by kernel_rfl) (by decide) rfl ⟨rfl, rfl⟩) ?_
        refine wl_vw (.int .i64 (f.w)) 2 false 11 rfl rfl rfl rfl rfl (y_ld_stc rfl rfl Try.underlying3 B12 rfl rfl ⟨rfl, rfl⟩) ?_
        refine wl_vw (.bool false) 2 false 11 rfl rfl rfl rfl rfl (y_geq rfl rfl rfl (decide_eq_false d38) ⟨rfl, rfl⟩) ?_
        refine wl_v (.bool false) rfl rfl (y_pickF rfl rfl rfl ⟨rfl, rfl⟩) ?_
        refine wl_v (.bool false) rfl rfl (y_mov rfl rfl ⟨rfl, rfl⟩) ?_
        refine wl_vw (.int .i64 (y)) 10 false 19 rfl rfl rfl rfl rfl (y_mov rfl s19 ⟨rfl, rfl⟩) ?_
        refine wl_vw (.bool false) 10 false 19 rfl rfl rfl rfl rfl (y_lss rfl rfl rfl (decide_eq_false d54) ⟨rfl, rfl⟩) ?_
        refine wl_v (.bool false) rfl rfl (y_pickF rfl rfl rfl ⟨rfl, rfl⟩) ?_
        refine wl_v (.bool false) rfl rfl (y_mov rfl rfl ⟨rfl, rfl⟩) ?_
        refine wl_vw (.int .i64 (y)) 14 false 23 rfl rfl rfl rfl rfl (y_mov rfl s19 ⟨rfl, rfl⟩) ?_
        refine wl_vw (.pointer (some ⟨p, 0, none⟩)) 14 false 23 rfl rfl rfl rfl rfl (y_mov rfl s17 ⟨rfl, rfl⟩) ?_
        refine wl_vw (.pointer (some ⟨p, 0, none⟩)) 14 false 23 rfl rfl rfl rfl rfl (y_nilc rfl rfl ⟨rfl, rfl⟩) ?_
        refine wl_vw (.pointer (some ⟨p, 1, none⟩)) 14 false 23 rfl rfl rfl rfl rfl (y_fieldR (n := 1) rfl rfl Try.underlying69 rfl (by kernel_rfl) (by decide) rfl ⟨rfl, rfl⟩) ?_
        refine wl_vw (.int .i64 (f.h)) 14 false 23 rfl rfl rfl rfl rfl (y_ld_stc rfl rfl Try.underlying3 B12 rfl rfl ⟨rfl, rfl⟩) ?_
        refine wl_vw (.bool (decide ((f.h) ≤ (y)))) 14 false 23 rfl rfl rfl rfl rfl (y_geq rfl rfl rfl rfl ⟨rfl, rfl⟩) ?_
        refine wl_v (.bool (decide ((f.h) ≤ (y)))) rfl rfl (y_pickF rfl rfl rfl ⟨rfl, rfl⟩) ?_
        refine wl_nil fun F70 hF71 => ?_
        have s72 : F70 0 = .pointer (some ⟨p, 0, none⟩) := (hF71 0).trans s17
        have s73 : F70 1 = .int .i64 (x) := (hF71 1).trans s18
        have s74 : F70 2 = .int .i64 (y) := (hF71 2).trans s19
        have s75 : F70 48 = undef := (hF71 48).trans s20
        have s76 : F70 7 = .pointer (some ⟨p4, 0, none⟩) := (hF71 7).trans s21
        have s77 : F70 30 = .bool (decide ((f.h) ≤ (y))) := (hF71 30).trans rfl
        clear hF71
        refine then_normal ?_
        refine wq_cond s77 (fun c78 => ?_) (fun c78 => ?_)
        · replace c78 := of_decide_eq_true c78
          refine wq_seq ?_
          have hno : ¬ inV f x y := by unfold inV; omega
          refine wq_region ?_
          refine wl_v (.int .i64 (1)) rfl rfl (y_asg rfl rfl ⟨rfl, rfl⟩) ?_
          refine wl_nil fun F79 hF80 => ?_
          have s81 : F79 48 = undef := (hF80 48).trans s75
          have s82 : F79 8 = .int .i64 (1) := (hF80 8).trans rfl
          clear hF80
          refine then_normal ?_
          refine wq_ret ?_
          refine then_ret ?_
          have B83 : Vfo w5 (fun i => (onB p) i ∨ ((T2) i)) (.pointer (some ⟨p, 0, none⟩)) (some (setV f x y X Y)) := (by first | (rw [(set_yes hin hv).2]; exact ⟨_, rfl, _, _, fun i => Iff.rfl, B12, (by rw [← vfL_lay ok hin]; exact B13), ap3, okV_lay ok hin hv⟩) | (rw [(set_none hin hvn).2]; exact ⟨_, rfl, _, _, fun i => Iff.rfl, B12, B13, ap3, ok⟩) | (rw [(set_no hno).2]; exact ⟨_, rfl, _, _, fun i => Iff.rfl, B12, B13, ap3, ok⟩))
          have gr84 : Grew w0 (T_q) (fun i => (onB p) i ∨ ((T2) i)) := fun i h => h.elim (fun y => gr1 i y) (fun y => gr2 i y)
          have ap85 : Apart (fun i => (onB p) i ∨ ((T2) i)) (onB p4) := fun i h => h.elim (fun y => ((ap10).symm) i y) (fun y => ((ap11).symm) i y)
          exact end_tmp (v := .int .i64 (1)) s81 rfl rfl s82 ⟨(fun i => (onB p) i ∨ ((T2) i)), (by first | rw [(set_yes hin hv).1] | rw [(set_none hin hvn).1] | rw [(set_no hno).1]), K14, ⟨B83, gr84⟩⟩
        · replace c78 := of_decide_eq_false c78
          refine wq_skip ?_
          refine then_normal ?_
          refine wq_seq ?_
          refine wq_seq ?_
          have hin : inV f x y := ⟨by omega, by omega, by omega, by omega⟩
          refine wq_region ?_
          refine wl_v (.agg #[.int .i64 (X), .int .i64 (Y)]) rfl rfl (y_load_stc stcT_vector rfl s76 B7 ⟨rfl, rfl⟩) ?_
          refine wl_call (R := fun v_ w_ => v_ = .int .i64 (vecE (X) (Y)) ∧ Kept (fun _ => False) w5 w_) rfl rfl (y_cs rfl rfl rfl (fun _ _ => by kernel_rfl) (ev_func _) (vsC rfl vsN) (mref_check (X) (Y)  _   ) (fun e_ w_ h_ => ⟨_, h_.1, rfl, h_.2⟩)) ?_
          rintro _ w86 ⟨rfl, k87⟩
          have B88 := B12.all k87 id
          have B89 := B13.all k87 Apart.none
          have B90 := B7.all k87 id
          have K91 := K14.trans k87 (fun _ _ x => x.elim)
          refine wl_v (.bool (decide ((vecE (X) (Y)) ≠ (0)))) rfl rfl (y_neqI rfl rfl rfl rfl ⟨rfl, rfl⟩) ?_
          refine wl_nil fun F92 hF93 => ?_
          have s94 : F92 0 = .pointer (some ⟨p, 0, none⟩) := (hF93 0).trans s72
          have s95 : F92 1 = .int .i64 (x) := (hF93 1).trans s73
          have s96 : F92 2 = .int .i64 (y) := (hF93 2).trans s74
          have s97 : F92 48 = undef := (hF93 48).trans s75
          have s98 : F92 7 = .pointer (some ⟨p4, 0, none⟩) := (hF93 7).trans s76
          have s99 : F92 33 = .bool (decide ((vecE (X) (Y)) ≠ (0))) := (hF93 33).trans rfl
          clear hF93
          refine then_normal ?_
          refine wq_cond s99 (fun c100 => ?_) (fun c100 => ?_)
          · replace c100 := of_decide_eq_true c100
            refine wq_seq ?_
            have hvn : ¬ vecOk X Y := fun h => absurd ((vecE_iff X Y).2 h) (by assumption)
            refine wq_region ?_
            refine wl_v (.int .i64 (90)) rfl rfl (y_asg rfl rfl ⟨rfl, rfl⟩) ?_
            refine wl_nil fun F101 hF102 => ?_
            have s103 : F101 48 = undef := (hF102 48).trans s97
            have s104 : F101 8 = .int .i64 (90) := (hF102 8).trans rfl
            clear hF102
            refine then_normal ?_
            refine wq_ret ?_
            refine then_ret ?_
            have B105 : Vfo w86 (fun i => (onB p) i ∨ ((T2) i)) (.pointer (some ⟨p, 0, none⟩)) (some (setV f x y X Y)) := (by first | (rw [(set_yes hin hv).2]; exact ⟨_, rfl, _, _, fun i => Iff.rfl, B88, (by rw [← vfL_lay ok hin]; exact B89), ap3, okV_lay ok hin hv⟩) | (rw [(set_none hin hvn).2]; exact ⟨_, rfl, _, _, fun i => Iff.rfl, B88, B89, ap3, ok⟩) | (rw [(set_no hno).2]; exact ⟨_, rfl, _, _, fun i => Iff.rfl, B88, B89, ap3, ok⟩))
            have gr106 : Grew w0 (T_q) (fun i => (onB p) i ∨ ((T2) i)) := fun i h => h.elim (fun y => gr1 i y) (fun y => gr2 i y)
            have ap107 : Apart (fun i => (onB p) i ∨ ((T2) i)) (onB p4) := fun i h => h.elim (fun y => ((ap10).symm) i y) (fun y => ((ap11).symm) i y)
            exact end_tmp (v := .int .i64 (90)) s103 rfl rfl s104 ⟨(fun i => (onB p) i ∨ ((T2) i)), (by first | rw [(set_yes hin hv).1] | rw [(set_none hin hvn).1] | rw [(set_no hno).1]), K91, ⟨B105, gr106⟩⟩
          · replace c100 := of_decide_eq_false c100
            refine wq_skip ?_
            refine then_normal ?_
            refine wq_seq ?_
            have hv : vecOk X Y := (vecE_iff X Y).1 (by first | assumption | (apply Decidable.byContradiction; assumption))
            have hl := in_lt ok hin
            have hw := ok.w
            have hlen := vfL_length f
            refine wq_tail 14 [some 34, some 35, some 36, some 37, some 38, some 39, some 40, some 41, some 42, some 43, some 44, some 45, some 46, some 47] [Pd.eq (.pointer (some ⟨p, 0, none⟩)), Pd.eq (.pointer (some ⟨p, 0, none⟩)), Pd.eq (.pointer (some ⟨p, 2, none⟩)), Pd.eq (c), Pd.eq (.int .i64 (y)), Pd.eq (.pointer (some ⟨p, 0, none⟩)), Pd.eq (.pointer (some ⟨p, 0, none⟩)), Pd.eq (.pointer (some ⟨p, 0, none⟩)), Pd.eq (.int .i64 (f.w)), Pd.eq (.int .i64 ((y) * (f.w))), Pd.eq (.int .i64 (x)), Pd.eq (.int .i64 (((y) * (f.w)) + (x))), Pd.eq (.agg #[.int .i64 (X), .int .i64 (Y)]), Pd.eq (bytAddr (c) (((((y) * (f.w)) + (x)).toNat) * 2))] (by kernel_rfl) (by kernel_rfl) (by kernel_rfl) ?_ ?_
            · refine stepsF_cons ?_ ?_
              · refine StepF.one rfl fun F_ w_ hR hout hD => ?_
                exact (y_mov rfl ((hout 0 rfl (by decide)).trans s94) ⟨rfl, Kept.refl _ _⟩)
              refine stepsF_cons ?_ ?_
              · refine StepF.one rfl fun F_ w_ hR hout hD => ?_
                have g34 : F_ 34 = .pointer (some ⟨p, 0, none⟩) := (hD.get 0 rfl rfl rfl)
                exact (y_nilc rfl g34 ⟨rfl, Kept.refl _ _⟩)
              refine stepsF_cons ?_ ?_
              · refine StepF.one rfl fun F_ w_ hR hout hD => ?_
                have g35 : F_ 35 = .pointer (some ⟨p, 0, none⟩) := (hD.get 0 rfl rfl rfl)
                exact (y_fieldR (n := 1) rfl g35 Try.underlying69 rfl (by kernel_rfl) (by decide) rfl ⟨rfl, Kept.refl _ _⟩)
              refine stepsF_cons ?_ ?_
              · refine StepF.one rfl fun F_ w_ hR hout hD => ?_
                have g36 : F_ 36 = .pointer (some ⟨p, 2, none⟩) := (hD.get 0 rfl rfl rfl)
                exact (y_ld_stc rfl g36 Try.underlying57 (B88.all hR id) rfl rfl ⟨rfl, Kept.refl _ _⟩)
              refine stepsF_cons ?_ ?_
              · refine StepF.one rfl fun F_ w_ hR hout hD => ?_
                exact (y_mov rfl ((hout 2 rfl (by decide)).trans s96) ⟨rfl, Kept.refl _ _⟩)
              refine stepsF_cons ?_ ?_
              · refine StepF.one rfl fun F_ w_ hR hout hD => ?_
                exact (y_mov rfl ((hout 0 rfl (by decide)).trans s94) ⟨rfl, Kept.refl _ _⟩)
              refine stepsF_cons ?_ ?_
              · refine StepF.one rfl fun F_ w_ hR hout hD => ?_
                have g39 : F_ 39 = .pointer (some ⟨p, 0, none⟩) := (hD.get 0 rfl rfl rfl)
                exact (y_nilc rfl g39 ⟨rfl, Kept.refl _ _⟩)
              refine stepsF_cons ?_ ?_
              · refine StepF.one rfl fun F_ w_ hR hout hD => ?_
                have g40 : F_ 40 = .pointer (some ⟨p, 0, none⟩) := (hD.get 0 rfl rfl rfl)
                exact (y_fieldR (n := 1) rfl g40 Try.underlying69 rfl (by kernel_rfl) (by decide) rfl ⟨rfl, Kept.refl _ _⟩)
              refine stepsF_cons ?_ ?_
              · refine StepF.one rfl fun F_ w_ hR hout hD => ?_
                have g41 : F_ 41 = .pointer (some ⟨p, 0, none⟩) := (hD.get 0 rfl rfl rfl)
                exact (y_ld_stc rfl g41 Try.underlying3 (B88.all hR id) rfl rfl ⟨rfl, Kept.refl _ _⟩)
              refine stepsF_cons ?_ ?_
              · refine StepF.one rfl fun F_ w_ hR hout hD => ?_
                have g38 : F_ 38 = .int .i64 (y) := (hD.get 0 rfl rfl rfl)
                have g42 : F_ 42 = .int .i64 (f.w) := (hD.get 1 rfl rfl rfl)
                exact (y_mul rfl g38 g42 (i64_i rfl (by omega)) ⟨rfl, Kept.refl _ _⟩)
              refine stepsF_cons ?_ ?_
              · refine StepF.one rfl fun F_ w_ hR hout hD => ?_
                exact (y_mov rfl ((hout 1 rfl (by decide)).trans s95) ⟨rfl, Kept.refl _ _⟩)
              refine stepsF_cons ?_ ?_
              · refine StepF.one rfl fun F_ w_ hR hout hD => ?_
                have g43 : F_ 43 = .int .i64 ((y) * (f.w)) := (hD.get 0 rfl rfl rfl)
                have g44 : F_ 44 = .int .i64 (x) := (hD.get 1 rfl rfl rfl)
                exact (y_add rfl g43 g44 (i64_i rfl (by omega)) ⟨rfl, Kept.refl _ _⟩)
              refine stepsF_cons ?_ ?_
              · refine StepF.one rfl fun F_ w_ hR hout hD => ?_
                exact (y_load_stc stcT_vector rfl ((hout 7 rfl (by decide)).trans s98) (B90.all hR id) ⟨rfl, Kept.refl _ _⟩)
              refine stepsF_cons ?_ ?_
              · refine StepF.one rfl fun F_ w_ hR hout hD => ?_
                have g37 : F_ 37 = c := (hD.get 0 rfl rfl rfl)
                have g45 : F_ 45 = .int .i64 (((y) * (f.w)) + (x)) := (hD.get 1 rfl rfl rfl)
                exact (y_atRo (r := rVec) ((((y) * (f.w)) + (x)).toNat) rfl g37 g45 (by omega) ((B89.all hR Apart.none)).roa (by omega) ⟨rfl, Kept.refl _ _⟩)
              exact stepsF_nil
            intro v108 F109 w110 k111 G112 hF113
            have B115 := B88.all k111 id
            have B116 := B89.all k111 Apart.none
            have B117 := B90.all k111 id
            have K118 := K91.trans k111 (fun _ _ x => x.elim)
            have s119 : F109 48 = undef := (hF113 48).trans s97
            have s120 : F109 46 = .agg #[.int .i64 (X), .int .i64 (Y)] := (hF113 46).trans (G112 12 (by decide))
            have s121 : F109 47 = bytAddr (c) (((((y) * (f.w)) + (x)).toNat) * 2) := (hF113 47).trans (G112 13 (by decide))
            clear G112 hF113
            refine wl_setRo (r := rVec) (u := ⟨X, Y⟩) ((((y) * (f.w)) + (x)).toNat) rfl rfl rfl s121 s120 rfl B116 (by omega) fun w122 B123 k124 => ?_
            have B125 := B115.all k124 (fun x => ((ap3) p rfl x))
            have B126 := B117.all k124 (fun x => ((ap11) p4 rfl x))
            have K127 := K118.trans k124 (Grew.ok (S := T_q) gr2 (fun _ x => x))
            refine wl_nil fun F128 hF129 => ?_
            have s130 : F128 48 = undef := (hF129 48).trans s119
            clear hF129
            refine then_normal ?_
            refine wq_seq ?_
            refine wq_region ?_
            refine wl_v (.int .i64 (0)) rfl rfl (y_asg rfl rfl ⟨rfl, rfl⟩) ?_
            refine wl_nil fun F131 hF132 => ?_
            have s133 : F131 48 = undef := (hF132 48).trans s130
            have s134 : F131 8 = .int .i64 (0) := (hF132 8).trans rfl
            clear hF132
            refine then_normal ?_
            refine wq_ret ?_
            have B135 : Vfo w122 (fun i => (onB p) i ∨ ((T2) i)) (.pointer (some ⟨p, 0, none⟩)) (some (setV f x y X Y)) := (by first | (rw [(set_yes hin hv).2]; exact ⟨_, rfl, _, _, fun i => Iff.rfl, B125, (by rw [← vfL_lay ok hin]; exact B123), ap3, okV_lay ok hin hv⟩) | (rw [(set_none hin hvn).2]; exact ⟨_, rfl, _, _, fun i => Iff.rfl, B125, B123, ap3, ok⟩) | (rw [(set_no hno).2]; exact ⟨_, rfl, _, _, fun i => Iff.rfl, B125, B123, ap3, ok⟩))
            have gr136 : Grew w0 (T_q) (fun i => (onB p) i ∨ ((T2) i)) := fun i h => h.elim (fun y => gr1 i y) (fun y => gr2 i y)
            have ap137 : Apart (fun i => (onB p) i ∨ ((T2) i)) (onB p4) := fun i h => h.elim (fun y => ((ap10).symm) i y) (fun y => ((ap11).symm) i y)
            exact end_tmp (v := .int .i64 (0)) s133 rfl rfl s134 ⟨(fun i => (onB p) i ∨ ((T2) i)), (by first | rw [(set_yes hin hv).1] | rw [(set_none hin hvn).1] | rw [(set_no hno).1]), K127, ⟨B135, gr136⟩⟩

set_option maxHeartbeats 4000000 in
set_option maxRecDepth 100000 in
theorem mref_vguess (v : Value) (f : VF) (x y : Int) (T_q : Nat → Prop) (w0 : World) (h_q : Vfo w0 T_q v ((some f))) :
    Calls Try.prog 16 #[v, .int .i64 (x), .int .i64 (y)] w0 fun e w' => e = .returned (.agg #[.int .i64 (gX f x y), .int .i64 (gY f x y)]) ∧ Kept (fun _ => False) w0 w' := by
  refine calls_wq (args := [v, .int .i64 (x), .int .i64 (y)]) 39 Try.func16 rfl rfl (Nat.le_of_ble_eq_true rfl) ?_
  have K0 := Kept.refl (fun _ => False) w0
  have ok := h_q.ok
  have g_q := Grew.refl w0 T_q
  refine wq_seq ?_
  refine wq_region ?_
  refine wl_alloc_stc (n := 2) (vs := [.int .i64 (0), .int .i64 (0)]) rfl rfl rfl (by kernel_rfl) fun p1 w2 B4 g5 k3 => ?_
  have gr6 : Grew w0 noB (onB p1) := Grew.new K0 g5
  have ap7 : Apart (onB p1) (T_q) := Apart.new g5 (h_q).live
  have B8 := h_q.all k3 Apart.none
  have K9 := K0.trans k3 (fun _ _ x => x.elim)
  refine wl_nil fun F10 hF11 => ?_
  have s12 : F10 0 = v := (hF11 0).trans rfl
  have s13 : F10 1 = .int .i64 (x) := (hF11 1).trans rfl
  have s14 : F10 2 = .int .i64 (y) := (hF11 2).trans rfl
  have s15 : F10 39 = undef := (hF11 39).trans rfl
  have s16 : F10 6 = .pointer (some ⟨p1, 0, none⟩) := (hF11 6).trans rfl
  clear hF11
  refine then_normal ?_
  refine wq_seq ?_
  refine wq_seq ?_
  by_cases d17 : (x) < (-5)
  · skip
    refine wq_region ?_
    refine wl_v (.int .i64 (x)) rfl rfl (y_mov rfl s13 ⟨rfl, rfl⟩) ?_
    refine wl_v (.bool true) rfl rfl (y_lss rfl rfl rfl (decide_eq_true d17) ⟨rfl, rfl⟩) ?_
    refine wl_v (.bool true) rfl rfl (y_mov rfl rfl ⟨rfl, rfl⟩) ?_
    refine wl_unless 2 false 9 rfl rfl rfl (Or.inl rfl) rfl ?_
    refine wl_unless 2 false 9 rfl rfl rfl (Or.inl rfl) rfl ?_
    refine wl_v (.bool true) rfl rfl (y_pickT rfl rfl rfl ⟨rfl, rfl⟩) ?_
    refine wl_v (.bool true) rfl rfl (y_mov rfl rfl ⟨rfl, rfl⟩) ?_
    refine wl_unless 6 false 13 rfl rfl rfl (Or.inl rfl) rfl ?_
    refine wl_unless 6 false 13 rfl rfl rfl (Or.inl rfl) rfl ?_
    refine wl_v (.bool true) rfl rfl (y_pickT rfl rfl rfl ⟨rfl, rfl⟩) ?_
    refine wl_v (.bool true) rfl rfl (y_mov rfl rfl ⟨rfl, rfl⟩) ?_
    refine wl_unless 10 false 17 rfl rfl rfl (Or.inl rfl) rfl ?_
    refine wl_unless 10 false 17 rfl rfl rfl (Or.inl rfl) rfl ?_
    refine wl_v (.bool true) rfl rfl (y_pickT rfl rfl rfl ⟨rfl, rfl⟩) ?_
    refine wl_nil fun F18 hF19 => ?_
    have s20 : F18 0 = v := (hF19 0).trans s12
    have s21 : F18 1 = .int .i64 (x) := (hF19 1).trans s13
    have s22 : F18 2 = .int .i64 (y) := (hF19 2).trans s14
    have s23 : F18 39 = undef := (hF19 39).trans s15
    have s24 : F18 6 = .pointer (some ⟨p1, 0, none⟩) := (hF19 6).trans s16
    have s25 : F18 20 = .bool true := (hF19 20).trans rfl
    clear hF19
    refine then_normal ?_
    refine wq_cond (t := true) s25 (fun _ => ?_) (fun e => by cases e)
    refine wq_seq ?_
    refine wq_region ?_
    refine wl_v (.agg #[.int .i64 (0), .int .i64 (0)]) rfl rfl (y_buildL (l' := []) (cells := #[.int .i64 (0), .int .i64 (0)]) rfl bpN (by kernel_rfl) rfl ⟨rfl, rfl⟩) ?_
    refine wl_store_stc (us := [.int .i64 (0), .int .i64 (0)]) stcT_vector rfl rfl rfl s24 rfl B4 rfl (oneI rfl (oneI rfl oneN)) fun w26 B27 k28 => ?_
    have B29 := B8.all k28 (fun i h x => (((ap7).symm) i h x))
    have K30 := K9.trans k28 (Grew.ok (S := fun _ => False) gr6 noB_le)
    refine wl_nil fun F31 hF32 => ?_
    have s33 : F31 39 = undef := (hF32 39).trans s23
    have s34 : F31 6 = .pointer (some ⟨p1, 0, none⟩) := (hF32 6).trans s24
    clear hF32
    refine then_normal ?_
    refine wq_ret ?_
    refine then_ret ?_
    exact end_stc (vs := [.int .i64 (0), .int .i64 (0)]) stcT_vector s33 rfl rfl s34 B27 ⟨(by first | rfl | rw [(guess_far ok (by omega)).1, (guess_far ok (by omega)).2]), K30⟩
  · skip
    by_cases d35 : (100) < (x)
    · skip
      refine wq_region ?_
      refine wl_v (.int .i64 (x)) rfl rfl (y_mov rfl s13 ⟨rfl, rfl⟩) ?_
      refine wl_v (.bool false) rfl rfl (y_lss rfl rfl rfl (decide_eq_false d17) ⟨rfl, rfl⟩) ?_
      refine wl_v (.bool false) rfl rfl (y_mov rfl rfl ⟨rfl, rfl⟩) ?_
      refine wl_vw (.int .i64 (x)) 2 false 9 rfl rfl rfl rfl rfl (y_mov rfl s13 ⟨rfl, rfl⟩) ?_
      refine wl_vw (.bool true) 2 false 9 rfl rfl rfl rfl rfl (y_gtr rfl rfl rfl (decide_eq_true d35) ⟨rfl, rfl⟩) ?_
      refine wl_v (.bool true) rfl rfl (y_pickF rfl rfl rfl ⟨rfl, rfl⟩) ?_
      refine wl_v (.bool true) rfl rfl (y_mov rfl rfl ⟨rfl, rfl⟩) ?_
      refine wl_unless 6 false 13 rfl rfl rfl (Or.inl rfl) rfl ?_
      refine wl_unless 6 false 13 rfl rfl rfl (Or.inl rfl) rfl ?_
      refine wl_v (.bool true) rfl rfl (y_pickT rfl rfl rfl ⟨rfl, rfl⟩) ?_
      refine wl_v (.bool true) rfl rfl (y_mov rfl rfl ⟨rfl, rfl⟩) ?_
      refine wl_unless 10 false 17 rfl rfl rfl (Or.inl rfl) rfl ?_
      refine wl_unless 10 false 17 rfl rfl rfl (Or.inl rfl) rfl ?_
      refine wl_v (.bool true) rfl rfl (y_pickT rfl rfl rfl ⟨rfl, rfl⟩) ?_
      refine wl_nil fun F36 hF37 => ?_
      have s38 : F36 0 = v := (hF37 0).trans s12
      have s39 : F36 1 = .int .i64 (x) := (hF37 1).trans s13
      have s40 : F36 2 = .int .i64 (y) := (hF37 2).trans s14
      have s41 : F36 39 = undef := (hF37 39).trans s15
      have s42 : F36 6 = .pointer (some ⟨p1, 0, none⟩) := (hF37 6).trans s16
      have s43 : F36 20 = .bool true := (hF37 20).trans rfl
      clear hF37
      refine then_normal ?_
      refine wq_cond (t := true) s43 (fun _ => ?_) (fun e => by cases e)
      refine wq_seq ?_
      refine wq_region ?_
      refine wl_v (.agg #[.int .i64 (0), .int .i64 (0)]) rfl rfl (y_buildL (l' := []) (cells := #[.int .i64 (0), .int .i64 (0)]) rfl bpN (by kernel_rfl) rfl ⟨rfl, rfl⟩) ?_
      refine wl_store_stc (us := [.int .i64 (0), .int .i64 (0)]) stcT_vector rfl rfl rfl s42 rfl B4 rfl (oneI rfl (oneI rfl oneN)) fun w44 B45 k46 => ?_
      have B47 := B8.all k46 (fun i h x => (((ap7).symm) i h x))
      have K48 := K9.trans k46 (Grew.ok (S := fun _ => False) gr6 noB_le)
      refine wl_nil fun F49 hF50 => ?_
      have s51 : F49 39 = undef := (hF50 39).trans s41
      have s52 : F49 6 = .pointer (some ⟨p1, 0, none⟩) := (hF50 6).trans s42
      clear hF50
      refine then_normal ?_
      refine wq_ret ?_
      refine then_ret ?_
      exact end_stc (vs := [.int .i64 (0), .int .i64 (0)]) stcT_vector s51 rfl rfl s52 B45 ⟨(by first | rfl | rw [(guess_far ok (by omega)).1, (guess_far ok (by omega)).2]), K48⟩
    · skip
      by_cases d53 : (y) < (-5)
      · skip
        refine wq_region ?_
        refine wl_v (.int .i64 (x)) rfl rfl (y_mov rfl s13 ⟨rfl, rfl⟩) ?_
        refine wl_v (.bool false) rfl rfl (y_lss rfl rfl rfl (decide_eq_false d17) ⟨rfl, rfl⟩) ?_
        refine wl_v (.bool false) rfl rfl (y_mov rfl rfl ⟨rfl, rfl⟩) ?_
        refine wl_vw (.int .i64 (x)) 2 false 9 rfl rfl rfl rfl rfl (y_mov rfl s13 ⟨rfl, rfl⟩) ?_
        refine wl_vw (.bool false) 2 false 9 rfl rfl rfl rfl rfl (y_gtr rfl rfl rfl (decide_eq_false d35) ⟨rfl, rfl⟩) ?_
        refine wl_v (.bool false) rfl rfl (y_pickF rfl rfl rfl ⟨rfl, rfl⟩) ?_
        refine wl_v (.bool false) rfl rfl (y_mov rfl rfl ⟨rfl, rfl⟩) ?_
        refine wl_vw (.int .i64 (y)) 6 false 13 rfl rfl rfl rfl rfl (y_mov rfl s14 ⟨rfl, rfl⟩) ?_
        refine wl_vw (.bool true) 6 false 13 rfl rfl rfl rfl rfl (y_lss rfl rfl rfl (decide_eq_true d53) ⟨rfl, rfl⟩) ?_
        refine wl_v (.bool true) rfl rfl (y_pickF rfl rfl rfl ⟨rfl, rfl⟩) ?_
        refine wl_v (.bool true) rfl rfl (y_mov rfl rfl ⟨rfl, rfl⟩) ?_
        refine wl_unless 10 false 17 rfl rfl rfl (Or.inl rfl) rfl ?_
        refine wl_unless 10 false 17 rfl rfl rfl (Or.inl rfl) rfl ?_
        refine wl_v (.bool true) rfl rfl (y_pickT rfl rfl rfl ⟨rfl, rfl⟩) ?_
        refine wl_nil fun F54 hF55 => ?_
        have s56 : F54 0 = v := (hF55 0).trans s12
        have s57 : F54 1 = .int .i64 (x) := (hF55 1).trans s13
        have s58 : F54 2 = .int .i64 (y) := (hF55 2).trans s14
        have s59 : F54 39 = undef := (hF55 39).trans s15
        have s60 : F54 6 = .pointer (some ⟨p1, 0, none⟩) := (hF55 6).trans s16
        have s61 : F54 20 = .bool true := (hF55 20).trans rfl
        clear hF55
        refine then_normal ?_
        refine wq_cond (t := true) s61 (fun _ => ?_) (fun e => by cases e)
        refine wq_seq ?_
        refine wq_region ?_
        refine wl_v (.agg #[.int .i64 (0), .int .i64 (0)]) rfl rfl (y_buildL (l' := []) (cells := #[.int .i64 (0), .int .i64 (0)]) rfl bpN (by kernel_rfl) rfl ⟨rfl, rfl⟩) ?_
        refine wl_store_stc (us := [.int .i64 (0), .int .i64 (0)]) stcT_vector rfl rfl rfl s60 rfl B4 rfl (oneI rfl (oneI rfl oneN)) fun w62 B63 k64 => ?_
        have B65 := B8.all k64 (fun i h x => (((ap7).symm) i h x))
        have K66 := K9.trans k64 (Grew.ok (S := fun _ => False) gr6 noB_le)
        refine wl_nil fun F67 hF68 => ?_
        have s69 : F67 39 = undef := (hF68 39).trans s59
        have s70 : F67 6 = .pointer (some ⟨p1, 0, none⟩) := (hF68 6).trans s60
        clear hF68
        refine then_normal ?_
        refine wq_ret ?_
        refine then_ret ?_
        exact end_stc (vs := [.int .i64 (0), .int .i64 (0)]) stcT_vector s69 rfl rfl s70 B63 ⟨(by first | rfl | rw [(guess_far ok (by omega)).1, (guess_far ok (by omega)).2]), K66⟩
      · skip
        refine wq_region ?_
        refine wl_v (.int .i64 (x)) rfl rfl (y_mov rfl s13 ⟨rfl, rfl⟩) ?_
        refine wl_v (.bool false) rfl rfl (y_lss rfl rfl rfl (decide_eq_false d17) ⟨rfl, rfl⟩) ?_
        refine wl_v (.bool false) rfl rfl (y_mov rfl rfl ⟨rfl, rfl⟩) ?_
        refine wl_vw (.int .i64 (x)) 2 false 9 rfl rfl rfl rfl rfl (y_mov rfl s13 ⟨rfl, rfl⟩) ?_
        refine wl_vw (.bool false) 2 false 9 rfl rfl rfl rfl rfl (y_gtr rfl rfl rfl (decide_eq_false d35) ⟨rfl, rfl⟩) ?_
        refine wl_v (.bool false) rfl rfl (y_pickF rfl rfl rfl ⟨rfl, rfl⟩) ?_
        refine wl_v (.bool false) rfl rfl (y_mov rfl rfl ⟨rfl, rfl⟩) ?_
        refine wl_vw (.int .i64 (y)) 6 false 13 rfl rfl rfl rfl rfl (y_mov rfl s14 ⟨rfl, rfl⟩) ?_
        refine wl_vw (.bool false) 6 false 13 rfl rfl rfl rfl rfl (y_lss rfl rfl rfl (decide_eq_false d53) ⟨rfl, rfl⟩) ?_
        refine wl_v (.bool false) rfl rfl (y_pickF rfl rfl rfl ⟨rfl, rfl⟩) ?_
        refine wl_v (.bool false) rfl rfl (y_mov rfl rfl ⟨rfl, rfl⟩) ?_
        refine wl_vw (.int .i64 (y)) 10 false 17 rfl rfl rfl rfl rfl (y_mov rfl s14 ⟨rfl, rfl⟩) ?_
        refine wl_vw (.bool (decide ((100) < (y)))) 10 false 17 rfl rfl rfl rfl rfl (y_gtr rfl rfl rfl rfl ⟨rfl, rfl⟩) ?_
        refine wl_v (.bool (decide ((100) < (y)))) rfl rfl (y_pickF rfl rfl rfl ⟨rfl, rfl⟩) ?_
        refine wl_nil fun F71 hF72 => ?_
        have s73 : F71 0 = v := (hF72 0).trans s12
        have s74 : F71 1 = .int .i64 (x) := (hF72 1).trans s13
        have s75 : F71 2 = .int .i64 (y) := (hF72 2).trans s14
        have s76 : F71 39 = undef := (hF72 39).trans s15
        have s77 : F71 6 = .pointer (some ⟨p1, 0, none⟩) := (hF72 6).trans s16
        have s78 : F71 20 = .bool (decide ((100) < (y))) := (hF72 20).trans rfl
        clear hF72
        refine then_normal ?_
        refine wq_cond s78 (fun c79 => ?_) (fun c79 => ?_)
        · replace c79 := of_decide_eq_true c79
          refine wq_seq ?_
          refine wq_region ?_
          refine wl_v (.agg #[.int .i64 (0), .int .i64 (0)]) rfl rfl (y_buildL (l' := []) (cells := #[.int .i64 (0), .int .i64 (0)]) rfl bpN (by kernel_rfl) rfl ⟨rfl, rfl⟩) ?_
          refine wl_store_stc (us := [.int .i64 (0), .int .i64 (0)]) stcT_vector rfl rfl rfl s77 rfl B4 rfl (oneI rfl (oneI rfl oneN)) fun w80 B81 k82 => ?_
          have B83 := B8.all k82 (fun i h x => (((ap7).symm) i h x))
          have K84 := K9.trans k82 (Grew.ok (S := fun _ => False) gr6 noB_le)
          refine wl_nil fun F85 hF86 => ?_
          have s87 : F85 39 = undef := (hF86 39).trans s76
          have s88 : F85 6 = .pointer (some ⟨p1, 0, none⟩) := (hF86 6).trans s77
          clear hF86
          refine then_normal ?_
          refine wq_ret ?_
          refine then_ret ?_
          exact end_stc (vs := [.int .i64 (0), .int .i64 (0)]) stcT_vector s87 rfl rfl s88 B81 ⟨(by first | rfl | rw [(guess_far ok (by omega)).1, (guess_far ok (by omega)).2]), K84⟩
        · replace c79 := of_decide_eq_false c79
          refine wq_skip ?_
          refine then_normal ?_
          refine wq_seq ?_
          refine wq_region ?_
          refine wl_v (v) rfl rfl (y_mov rfl s73 ⟨rfl, rfl⟩) ?_
          refine wl_v (.int .i64 (x)) rfl rfl (y_mov rfl s74 ⟨rfl, rfl⟩) ?_
          refine wl_v (.int .i64 ((x) - (1))) rfl rfl (y_sub rfl rfl rfl (i64_i rfl (by omega)) ⟨rfl, rfl⟩) ?_
          refine wl_v (.int .i64 (y)) rfl rfl (y_mov rfl s75 ⟨rfl, rfl⟩) ?_
          refine wl_call (R := fun v_ w_ => v_ = .agg #[.int .i64 ((f).X ((x) - (1)) (y)), .int .i64 ((f).Y ((x) - (1)) (y))] ∧ Kept (fun _ => False) w2 w_) rfl rfl (y_cs rfl rfl rfl (fun _ _ => by kernel_rfl) (ev_func _) (vsC rfl (vsC rfl (vsC rfl vsN))) (mref_vget (v) (f) ((x) - (1)) (y) (T_q) _  B8 ) (fun e_ w_ h_ => ⟨_, h_.1, rfl, h_.2⟩)) ?_
          rintro _ w89 ⟨rfl, k90⟩
          have B91 := B8.all k90 Apart.none
          have B92 := B4.all k90 id
          have K93 := K9.trans k90 (fun _ _ x => x.elim)
          refine wl_v (v) rfl rfl (y_mov rfl s73 ⟨rfl, rfl⟩) ?_
          refine wl_v (.int .i64 (x)) rfl rfl (y_mov rfl s74 ⟨rfl, rfl⟩) ?_
          refine wl_v (.int .i64 (y)) rfl rfl (y_mov rfl s75 ⟨rfl, rfl⟩) ?_
          refine wl_v (.int .i64 ((y) - (1))) rfl rfl (y_sub rfl rfl rfl (i64_i rfl (by omega)) ⟨rfl, rfl⟩) ?_
          refine wl_call (R := fun v_ w_ => v_ = .agg #[.int .i64 ((f).X (x) ((y) - (1))), .int .i64 ((f).Y (x) ((y) - (1)))] ∧ Kept (fun _ => False) w89 w_) rfl rfl (y_cs rfl rfl rfl (fun _ _ => by kernel_rfl) (ev_func _) (vsC rfl (vsC rfl (vsC rfl vsN))) (mref_vget (v) (f) (x) ((y) - (1)) (T_q) _  B91 ) (fun e_ w_ h_ => ⟨_, h_.1, rfl, h_.2⟩)) ?_
          rintro _ w94 ⟨rfl, k95⟩
          have B96 := B91.all k95 Apart.none
          have B97 := B92.all k95 id
          have K98 := K93.trans k95 (fun _ _ x => x.elim)
          refine wl_v (v) rfl rfl (y_mov rfl s73 ⟨rfl, rfl⟩) ?_
          refine wl_v (.int .i64 (x)) rfl rfl (y_mov rfl s74 ⟨rfl, rfl⟩) ?_
          refine wl_v (.int .i64 ((x) + (1))) rfl rfl (y_add rfl rfl rfl (i64_i rfl (by omega)) ⟨rfl, rfl⟩) ?_
          refine wl_v (.int .i64 (y)) rfl rfl (y_mov rfl s75 ⟨rfl, rfl⟩) ?_
          refine wl_v (.int .i64 ((y) - (1))) rfl rfl (y_sub rfl rfl rfl (i64_i rfl (by omega)) ⟨rfl, rfl⟩) ?_
          refine wl_call (R := fun v_ w_ => v_ = .agg #[.int .i64 ((f).X ((x) + (1)) ((y) - (1))), .int .i64 ((f).Y ((x) + (1)) ((y) - (1)))] ∧ Kept (fun _ => False) w94 w_) rfl rfl (y_cs rfl rfl rfl (fun _ _ => by kernel_rfl) (ev_func _) (vsC rfl (vsC rfl (vsC rfl vsN))) (mref_vget (v) (f) ((x) + (1)) ((y) - (1)) (T_q) _  B96 ) (fun e_ w_ h_ => ⟨_, h_.1, rfl, h_.2⟩)) ?_
          rintro _ w99 ⟨rfl, k100⟩
          have B101 := B96.all k100 Apart.none
          have B102 := B97.all k100 id
          have K103 := K98.trans k100 (fun _ _ x => x.elim)
          refine wl_call (R := fun v_ w_ => v_ = .agg #[.int .i64 (med ((f).X ((x) - (1)) (y)) ((f).X (x) ((y) - (1))) ((f).X ((x) + (1)) ((y) - (1)))), .int .i64 (med ((f).Y ((x) - (1)) (y)) ((f).Y (x) ((y) - (1))) ((f).Y ((x) + (1)) ((y) - (1))))] ∧ Kept (fun _ => False) w99 w_) rfl rfl (y_cs rfl rfl rfl (fun _ _ => by kernel_rfl) (ev_func _) (vsC rfl (vsC rfl (vsC rfl vsN))) (vref_median ((f).X ((x) - (1)) (y)) ((f).Y ((x) - (1)) (y)) ((f).X (x) ((y) - (1))) ((f).Y (x) ((y) - (1))) ((f).X ((x) + (1)) ((y) - (1))) ((f).Y ((x) + (1)) ((y) - (1)))  _   ) (fun e_ w_ h_ => ⟨_, h_.1, rfl, h_.2⟩)) ?_
          rintro _ w104 ⟨rfl, k105⟩
          have B106 := B101.all k105 Apart.none
          have B107 := B102.all k105 id
          have K108 := K103.trans k105 (fun _ _ x => x.elim)
          refine wl_store_stc (us := [.int .i64 (med ((f).X ((x) - (1)) (y)) ((f).X (x) ((y) - (1))) ((f).X ((x) + (1)) ((y) - (1)))), .int .i64 (med ((f).Y ((x) - (1)) (y)) ((f).Y (x) ((y) - (1))) ((f).Y ((x) + (1)) ((y) - (1))))]) stcT_vector rfl rfl rfl s77 rfl B107 rfl (oneI rfl (oneI rfl oneN)) fun w109 B110 k111 => ?_
          have B112 := B106.all k111 (fun i h x => (((ap7).symm) i h x))
          have K113 := K108.trans k111 (Grew.ok (S := fun _ => False) gr6 noB_le)
          refine wl_nil fun F114 hF115 => ?_
          have s116 : F114 39 = undef := (hF115 39).trans s76
          have s117 : F114 6 = .pointer (some ⟨p1, 0, none⟩) := (hF115 6).trans s77
          clear hF115
          refine then_normal ?_
          refine wq_ret ?_
          exact end_stc (vs := [.int .i64 (med ((f).X ((x) - (1)) (y)) ((f).X (x) ((y) - (1))) ((f).X ((x) + (1)) ((y) - (1)))), .int .i64 (med ((f).Y ((x) - (1)) (y)) ((f).Y (x) ((y) - (1))) ((f).Y ((x) + (1)) ((y) - (1))))]) stcT_vector s116 rfl rfl s117 B110 ⟨(by first | rfl | rw [(guess_far ok (by omega)).1, (guess_far ok (by omega)).2]), K113⟩
end Go.Proofs.Ythhagejcgobfgaa
