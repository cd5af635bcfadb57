/- What PictureStill reaches of my texts, part 3. -/
import Derived.Test.YtknjpdcpmpfklaaGreatDoorPictureStillB
set_option maxRecDepth 100000
set_option maxHeartbeats 4000000
set_option maxRecDepth 100000
namespace Go.Proofs.YtknjpdcpmpfklaaGreatDoor
open Go.RowKit
def hold (L : Nat → Bool) (v : Nat → Value) (C : Nat → List Nat) (vI : Value) (lI : List Nat) : List Nat → Value × List Nat
  | [] => (vI, lI)
  | x :: r => if L x = true then (v x, C x) else hold L v C vI lI r
def Closed (L : Nat → Bool) : List Nat → Prop
  | [] => True
  | [_] => True
  | y :: x :: r => (L y = true → L x = true) ∧ Closed L (x :: r)
theorem Closed.later {L : Nat → Bool} : ∀ {ys : List Nat} {x : Nat} {r : List Nat}, Closed L (ys ++ x :: r) → L x = false → ∀ y ∈ ys, L y = false := by
  intro ys
  induction ys with
  | nil => intro x r _ _ y hy; cases hy
  | cons z zs ih =>
    intro x r h hx y hy
    have hrec : Closed L (zs ++ x :: r) := by
      cases zs with
      | nil => exact h.2
      | cons z' zs' => exact h.2
    have hzs := ih hrec hx
    rcases List.mem_cons.1 hy with rfl | hy
    · cases hz : L y with
      | false => rfl
      | true =>
        cases zs with
        | nil => have := h.1 hz; rw [hx] at this; cases this
        | cons z' zs' => have := h.1 hz; rw [hzs z' (by simp)] at this; cases this
    · exact hzs y hy
theorem hold_later {L : Nat → Bool} {v : Nat → Value} {C : Nat → List Nat} {vI : Value} {lI : List Nat} : ∀ {ys r : List Nat}, (∀ y ∈ ys, L y = false) → hold L v C vI lI (ys ++ r) = hold L v C vI lI r := by
  intro ys
  induction ys with
  | nil => intro r _; rfl
  | cons z zs ih =>
    intro r h
    simp only [List.cons_append, hold]
    rw [if_neg (by rw [h z (by simp)]; decide)]
    exact ih (fun y hy => h y (by simp [hy]))
theorem Closed.up {L : Nat → Bool} : ∀ {X : List Nat} {i : Nat}, Closed L X → (∀ ys x r, X = ys ++ i :: x :: r → L x = true) → Closed (upL L i) X := by
  intro X
  induction X with
  | nil => intro i _ _; exact trivial
  | cons y r ih =>
    intro i h hp
    cases r with
    | nil => exact trivial
    | cons x r =>
      refine ⟨fun hy => ?_, ih h.2 fun ys x' r' e => hp (y :: ys) x' r' (by rw [e]; rfl)⟩
      unfold upL at hy ⊢
      by_cases hx : x = i
      · rw [if_pos hx]
      · rw [if_neg hx]
        by_cases hyi : y = i
        · subst hyi; exact hp [] x r rfl
        · rw [if_neg hyi] at hy; exact h.1 hy
theorem Closed.up_other {L : Nat → Bool} {X : List Nat} {i : Nat} (h : Closed L X) (hi : i ∉ X) : Closed (upL L i) X :=
  h.up fun ys x r e => absurd (by rw [e]; simp) hi
theorem hold_up_other {L : Nat → Bool} {v : Nat → Value} {C : Nat → List Nat} {vI : Value} {lI : List Nat} {i : Nat} {x : Value} : ∀ {X : List Nat}, i ∉ X → hold (upL L i) (upV v i x) C vI lI X = hold L v C vI lI X := by
  intro X
  induction X with
  | nil => intro _; rfl
  | cons y r ih =>
    intro hi
    have hy : y ≠ i := fun e => hi (by simp [e])
    simp only [hold]
    rw [show upL L i y = L y from if_neg hy, show upV v i x y = v y from if_neg hy, ih (fun h => hi (by simp [h]))]
def OwnJ (w0 : World) (S0 : Nat → Prop) (B : Nat) (vI : Value) (lI : List Nat) (X : List Nat) (C : Nat → List Nat) (G : Nat → Value → World → Prop) (L : Nat → Bool) (v : Nat → Value) (w : World) : Prop :=
  ∃ S : Nat → Prop, (∀ k, S k → k < w.heap.size) ∧ (∀ k, S k → S0 k ∨ w0.heap.size ≤ k) ∧ Kept S w0 w ∧ Closed L X ∧ (∀ j, L j = true → ∀ w', Kept S w w' → G j (v j) w') ∧
    Row w B (hold L v C vI lI X).1 (hold L v C vI lI X).2 ∧ (∀ g, (hold L v C vI lI X).1.ownBlock = some g → S g)
theorem StepJ.other {os : List Oper} {P : Program} {D : List (Option Tmp)} {w0 : World} {S0 : Nat → Prop} {B : Nat} {vI : Value} {lI X : List Nat} {C : Nat → List Nat} {G : Nat → Value → World → Prop} {a0 : Act} {i : Nat} {o : Oper} (hi : i ∉ X)
    (h : ∀ (S : Nat → Prop) (a : Act) (w : World), (∀ k, S k → k < w.heap.size) → (∀ w', Kept S w w' → Kept S0 w0 w') → (∀ t, some t ∉ D → a.eval (.tmp t) = a0.eval (.tmp t)) → (∀ t, late os t i = true → a.eval (.tmp t) = a0.eval (.tmp t)) →
      Deps D (fun j x w => ∀ w', Kept S w w' → G j x w') a w o.after.toList → (∀ x, X.head? = some x → ∀ e ∈ o.after.toList, e.on = x → Region.binds .any e = true → ∀ d, D.getD x none = some d → Row w B (a.eval (.tmp d)) (C x)) →
      (goes D o a = true → Yields P a.eval o w (fun x w' => (∀ w'', Kept S w' w'' → G i x w'') ∧ Kept (fun _ => False) w w')) ∧ (goes D o a = false → ∀ w', Kept S w w' → G i undef w')) :
    StepJ os P D (OwnJ w0 S0 B vI lI X C G) a0 i o := by
  intro L v a w ⟨S, hlt, h0, hk, hcl, hg, hrow, hown⟩ hli hedges hout hhere hlate
  have hR : ∀ w', Kept S w w' → Kept S0 w0 w' := fun w' k => (hk.trans k (fun _ _ x => x)).mono (fun b hb hS => by
    rcases h0 b hS with h | h
    · exact h
    · omega)
  have hdeps : Deps D (fun j x w => ∀ w', Kept S w w' → G j x w') a w o.after.toList := Deps.mk fun e he hb d hd => by
    have hL := hedges e he hb
    have hDe : D[e.on]? = some (some d) := by
      cases hx : D[e.on]? with
      | none => simp [List.getD, hx] at hd
      | some y => simp [List.getD, hx] at hd; rw [hd]
    rw [hhere e.on d hL hDe]
    exact hg e.on hL
  have hr : ∀ x, X.head? = some x → ∀ e ∈ o.after.toList, e.on = x → Region.binds .any e = true → ∀ d, D.getD x none = some d → Row w B (a.eval (.tmp d)) (C x) := by
    intro x hx e he hex hb d hd
    subst hex
    have hL := hedges e he hb
    have hDe : D[e.on]? = some (some d) := by
      cases hx : D[e.on]? with
      | none => simp [List.getD, hx] at hd
      | some y => simp [List.getD, hx] at hd; rw [hd]
    rw [hhere e.on d hL hDe]
    cases X with
    | nil => cases hx
    | cons y r =>
      simp at hx
      subst hx
      simpa [hold, hL] using hrow
  obtain ⟨s1, s2⟩ := h S a w hlt hR hout hlate hdeps hr
  have fin : ∀ (x : Value) (w' : World), (∀ w'', Kept S w' w'' → G i x w'') → Kept (fun _ => False) w w' → OwnJ w0 S0 B vI lI X C G (upL L i) (upV v i x) w' := by
    intro x w' hG hkk
    refine ⟨S, fun k hS => Nat.lt_of_lt_of_le (hlt k hS) hkk.size, h0, hk.trans hkk (fun _ _ f => f.elim), hcl.up_other hi, fun j hj w'' k => ?_, ?_, ?_⟩
    · by_cases hji : j = i
      · subst hji; rw [show upV v j x j = x from if_pos rfl]; exact hG w'' k
      · rw [show upL L i j = L j from if_neg hji] at hj
        rw [show upV v i x j = v j from if_neg hji]
        exact hg j hj w'' ((hkk.mono (S' := S) (fun _ _ f => f.elim)).trans k (fun _ _ f => f))
    · rw [hold_up_other hi]; exact hrow.all hkk
    · rw [hold_up_other hi]; exact hown
  refine ⟨fun hgo => ?_, fun hgo => fin undef w (s2 hgo) (Kept.refl _ _)⟩
  have := s1 hgo
  revert this
  unfold Yields
  generalize (execOp a.eval o).run P w = r
  intro hh
  cases r with
  | ok n w' =>
    cases n <;> simp only at hh ⊢ <;> first
      | exact fin _ _ hh.1 hh.2
      | exact hh.elim
      | exact Calls.mono hh (fun e w'' ⟨y, he, hk⟩ => ⟨y, he, fin _ _ hk.1 hk.2⟩)
  | halt x w' => exact hh.elim
def Prev (D : List (Option Tmp)) (C : Nat → List Nat) (vI : Value) (lI : List Nat) (a : Act) (p : Value) (lp : List Nat) : List Nat → Prop
  | [] => p = vI ∧ lp = lI
  | x :: _ => lp = C x ∧ ∀ d, D.getD x none = some d → p = a.eval (.tmp d)
theorem StepJ.own {os : List Oper} {P : Program} {D : List (Option Tmp)} {w0 : World} {S0 : Nat → Prop} {B : Nat} {vI : Value} {lI X : List Nat} {C : Nat → List Nat} {G : Nat → Value → World → Prop} {a0 : Act} {i : Nat} {o : Oper} (ys r : List Nat) (hX : X = ys ++ i :: r) (hnd : i ∉ ys ∧ i ∉ r)
    (hr : ∀ x, r.head? = some x → ∃ e ∈ o.after.toList, e.on = x ∧ Region.binds .any e = true ∧ ∃ d, D.getD x none = some d) (hG : ∀ x w, G i x w)
    (h : ∀ (S : Nat → Prop) (a : Act) (w : World), (∀ k, S k → k < w.heap.size) → (∀ w', Kept S w w' → Kept S0 w0 w') → (∀ t, some t ∉ D → a.eval (.tmp t) = a0.eval (.tmp t)) → (∀ t, late os t i = true → a.eval (.tmp t) = a0.eval (.tmp t)) →
      Deps D (fun j x w => ∀ w', Kept S w w' → G j x w') a w o.after.toList → ∀ (p : Value) (lp : List Nat), Row w B p lp →
      Prev D C vI lI a p lp r →
      goes D o a = true ∧ Yields P a.eval o w (fun x w' => Row w' B x (C i) ∧ Kept (fun k => p.ownBlock = some k) w w' ∧ (x.ownBlock = p.ownBlock ∨ ∀ g, x.ownBlock = some g → w.heap.size ≤ g))) :
    StepJ os P D (OwnJ w0 S0 B vI lI X C G) a0 i o := by
  intro L v a w ⟨S, hlt, h0, hk, hcl, hg, hrow, hown⟩ hli hedges hout hhere hlate
  subst hX
  have hlater := hcl.later hli
  have hhold : hold L v C vI lI (ys ++ i :: r) = hold L v C vI lI r := by
    rw [hold_later hlater]
    show (if L i = true then (v i, C i) else hold L v C vI lI r) = hold L v C vI lI r
    rw [if_neg (by rw [hli]; decide)]
  rw [hhold] at hrow hown
  have hR : ∀ w', Kept S w w' → Kept S0 w0 w' := fun w' k => (hk.trans k (fun _ _ x => x)).mono (fun b hb hS => by
    rcases h0 b hS with h | h
    · exact h
    · omega)
  have hat : ∀ (j : Nat) (d : Tmp), D.getD j none = some d → D[j]? = some (some d) := by
    intro j d hd
    cases hx : D[j]? with
    | none => simp [List.getD, hx] at hd
    | some y => simp [List.getD, hx] at hd; rw [hd]
  have hdeps : Deps D (fun j x w => ∀ w', Kept S w w' → G j x w') a w o.after.toList := Deps.mk fun e he hb d hd => by
    have hL := hedges e he hb
    rw [hhere e.on d hL (hat e.on d hd)]
    exact hg e.on hL
  have hlx : ∀ x, r.head? = some x → L x = true := by
    intro x hx
    obtain ⟨e, he, rfl, hb, _⟩ := hr x hx
    exact hedges e he hb
  have hp : Prev D C vI lI a (hold L v C vI lI r).1 (hold L v C vI lI r).2 r := by
    clear hhold hrow hown hcl h
    cases r with
    | nil => exact ⟨rfl, rfl⟩
    | cons x r' =>
      have hL := hlx x rfl
      have e1 : hold L v C vI lI (x :: r') = (v x, C x) := by
        show (if L x = true then (v x, C x) else hold L v C vI lI r') = _
        rw [if_pos hL]
      refine ⟨by rw [e1], fun d hd => ?_⟩
      rw [e1, hhere x d hL (hat x d hd)]
  obtain ⟨hgo, hy⟩ := h S a w hlt hR hout hlate hdeps _ _ hrow hp
  generalize (hold L v C vI lI r).1 = p at *
  have fin : ∀ (x : Value) (w' : World), Row w' B x (C i) → Kept (fun k => p.ownBlock = some k) w w' → (x.ownBlock = p.ownBlock ∨ ∀ g, x.ownBlock = some g → w.heap.size ≤ g) → OwnJ w0 S0 B vI lI (ys ++ i :: r) C G (upL L i) (upV v i x) w' := by
    intro x w' hrx hkk hwh
    have hkS : Kept S w w' := hkk.mono (fun k _ e => hown k e)
    refine ⟨fun k => S k ∨ x.ownBlock = some k, ?_, ?_, ?_, ?_, ?_, ?_, ?_⟩
    · rintro k (hS | hx)
      · exact Nat.lt_of_lt_of_le (hlt k hS) hkk.size
      · exact (hrx.lt k hx).2
    · rintro k (hS | hx)
      · exact h0 k hS
      · rcases hwh with e | e
        · exact h0 k (hown k (by rw [← e]; exact hx))
        · exact .inr (Nat.le_trans hk.size (e k hx))
    · exact (hk.trans hkS (fun _ _ x => x)).mono (fun _ _ x => .inl x)
    · refine hcl.up fun ys' x' r' e => ?_
      -- the two ways to part the list are one
      have key : ∀ (zs ys' : List Nat) (x' : Nat) (r r' : List Nat), i ∉ zs → i ∉ ys' → zs ++ i :: r = ys' ++ i :: x' :: r' → r = x' :: r' := by
        intro zs
        induction zs with
        | nil =>
          intro ys' x' r r' _ hy e
          cases ys' with
          | nil => simpa using e
          | cons z zs => simp at e; exact absurd e.1 (fun h => hy (by simp [h]))
        | cons z zs ih =>
          intro ys' x' r r' hz hy e
          cases ys' with
          | nil => simp at e; exact absurd e.1.symm (fun h => hz (by simp [h]))
          | cons y ys'' => simp at e; exact ih ys'' x' r r' (fun h => hz (by simp [h])) (fun h => hy (by simp [h])) e.2
      have hin : i ∉ ys' := by
        intro hm
        have hc : (ys ++ i :: r).count i = 1 := by rw [List.count_append, List.count_eq_zero_of_not_mem hnd.1, List.count_cons_self, List.count_eq_zero_of_not_mem hnd.2]
        rw [e, List.count_append, List.count_cons_self] at hc
        have := List.count_pos_iff.2 hm
        omega
      have := key ys ys' x' r r' hnd.1 hin e
      subst this
      exact hlx x' rfl
    · intro j hj w'' k
      by_cases hji : j = i
      · subst hji; exact hG _ _
      · rw [show upL L i j = L j from if_neg hji] at hj
        rw [show upV v i x j = v j from if_neg hji]
        refine hg j hj w'' (hkS.trans k fun b hb hS => ?_)
        rcases hS with hS | hx
        · exact hS
        · rcases hwh with e | e
          · exact hown b (by rw [← e]; exact hx)
          · have := e b hx; omega
    · have e : hold (upL L i) (upV v i x) C vI lI (ys ++ i :: r) = (x, C i) := by
        rw [hold_later (fun y hym => by rw [show upL L i y = L y from if_neg (fun h : y = i => hnd.1 (by rw [← h]; exact hym))]; exact hlater y hym)]
        show (if upL L i i = true then (upV v i x i, C i) else _) = _
        rw [if_pos (show upL L i i = true from if_pos rfl), show upV v i x i = x from if_pos rfl]
      rw [e]; exact hrx
    · have e : hold (upL L i) (upV v i x) C vI lI (ys ++ i :: r) = (x, C i) := by
        rw [hold_later (fun y hym => by rw [show upL L i y = L y from if_neg (fun h : y = i => hnd.1 (by rw [← h]; exact hym))]; exact hlater y hym)]
        show (if upL L i i = true then (upV v i x i, C i) else _) = _
        rw [if_pos (show upL L i i = true from if_pos rfl), show upV v i x i = x from if_pos rfl]
      rw [e]
      intro g hgx
      exact .inr hgx
  refine ⟨fun _ => ?_, fun hno => ?_⟩
  · revert hy
    unfold Yields
    generalize (execOp a.eval o).run P w = res
    intro hh
    cases res with
    | ok n w' =>
      cases n <;> simp only at hh ⊢ <;> first
        | exact fin _ _ hh.1 hh.2.1 hh.2.2
        | exact hh.elim
        | exact Calls.mono hh (fun e w'' ⟨y, he, hk⟩ => ⟨y, he, fin _ _ hk.1 hk.2.1 hk.2.2⟩)
    | halt x w' => exact hh.elim
  · rw [hgo] at hno; cases hno
section
variable {os : List Oper} {P : Program} {D : List (Option Tmp)} {w0 : World} {S0 : Nat → Prop} {B : Nat} {vI : Value} {lI X : List Nat} {C : Nat → List Nat} {Gs : List Pd} {a0 : Act} {i : Nat} {o : Oper}
theorem StepJ.one (hi : i ∉ X) (hg : o.guard = none)
    (h : ∀ (S : Nat → Prop) (a : Act) (w : World), (∀ k, S k → k < w.heap.size) → (∀ w', Kept S w w' → Kept S0 w0 w') → (∀ t, some t ∉ D → a.eval (.tmp t) = a0.eval (.tmp t)) → (∀ t, late os t i = true → a.eval (.tmp t) = a0.eval (.tmp t)) →
      Deps D (fun j x w => ∀ w', Kept S w w' → Said Gs j x w') a w o.after.toList → (∀ x, X.head? = some x → ∀ e ∈ o.after.toList, e.on = x → Region.binds .any e = true → ∀ d, D.getD x none = some d → Row w B (a.eval (.tmp d)) (C x)) →
      Yields P a.eval o w (fun x w' => (∀ w'', Kept S w' w'' → Said Gs i x w'') ∧ Kept (fun _ => False) w w')) :
    StepJ os P D (OwnJ w0 S0 B vI lI X C (Said Gs)) a0 i o :=
  StepJ.other hi fun S a w hlt hR hout hlate hD hrow => ⟨fun _ => h S a w hlt hR hout hlate hD hrow, fun hno => by unfold goes at hno; rw [hg] at hno; cases hno⟩
end
end Go.Proofs.YtknjpdcpmpfklaaGreatDoor
set_option maxRecDepth 100000
namespace Go.Proofs.YtknjpdcpmpfklaaGreatDoor
open Go.RowKit
theorem byteVals_zeros (n : Nat) : (madeCells (Value.int .u8 0).cells n).toList = byteVals (List.replicate n 0) := by
  unfold madeCells byteVals Value.cells
  rw [List.map_replicate]
  apply List.ext_getElem?
  intro i
  by_cases h : i < n
  · simp [h, Nat.mod_one]
  · simp [h]
theorem run_make_bytes (w : World) (kl kc : IntKind) (n : Nat) (hn : n < 1099511627776) :
    (Instr.makeSlice 26 (.int kl (n : Int)) (.int kc (n : Int))).run Tryz.prog w = .ok (.slice (some ⟨w.heap.size, 0, none⟩) n n) (w.alloc (.cells (byteVals (List.replicate n 0)).toArray 5)) := by
  obtain ⟨i0, hi, hz0, hz1, hz2⟩ := info_parts Tryz.info_u8
  have hr := run_make (P := Tryz.prog) w 26 5 i0 (.int .u8 0) Tryz.underlying26 hi hz0 kl kc n n (by omega) (Int.le_refl _) (by rw [hz2]; omega) (by omega)
  simp only [Int.toNat_natCast, hz1, Nat.mul_one] at hr
  rw [hr, ← byteVals_zeros]
theorem zeros_lt (n : Nat) : ∀ x ∈ List.replicate n 0, x < 256 := by intro x hx; have := (List.mem_replicate.1 hx).2; omega
theorem row_zeros (w : World) (B n : Nat) (hB : B ≤ w.heap.size) (hn : n < 1099511627776) : Row (w.alloc (.cells (byteVals (List.replicate n 0)).toArray 5)) B (.slice (some ⟨w.heap.size, 0, none⟩) n n) (List.replicate n 0) := by
  have h := Row.of_new (B := B) (l := List.replicate n 0) (heap_alloc_new w _) hB (by rw [List.length_replicate]; unfold maxLen; omega) (zeros_lt n)
  rwa [List.length_replicate] at h
theorem y_make {ρ : Operand → Value} {o : Oper} {w : World} {R : Value → World → Prop} {x y : Operand} {kl kc : IntKind} {n : Nat} (ho : o.op = .makeSlice 26 x y) (hx : ρ x = .int kl (n : Int)) (hy : ρ y = .int kc (n : Int)) (hn : n < 1099511627776)
    (h : R (.slice (some ⟨w.heap.size, 0, none⟩) n n) (w.alloc (.cells (byteVals (List.replicate n 0)).toArray 5))) : Yields Tryz.prog ρ o w R :=
  y_val (by simp [execOp, ho, hx, hy, run_make_bytes w kl kc n hn]) h
theorem y_built1 {ρ : Operand → Value} {o : Oper} {w : World} {R : Value → World → Prop} {x : Operand} {c : Nat} (ho : o.op = .buildSlice 26 1 #[(0, x)]) (hx : ρ x = .int .u8 (c : Int))
    (h : R (.slice (some ⟨w.heap.size, 0, none⟩) 1 1) (w.alloc (.cells (byteVals [c]).toArray 5))) : Yields Tryz.prog ρ o w R :=
  y_val (v := .slice (some ⟨w.heap.size, 0, none⟩) 1 1) (w' := w.alloc (.cells (byteVals [c]).toArray 5)) (by simp [execOp, ho, hx, go_sem]; rfl) h
theorem BytesArg.upto {w : World} {v : Value} {l : List Nat} (h : BytesArg w v l) (j : Nat) (hj : j ≤ l.length) (k : IntKind) :
    ∃ v', (Instr.sliceAt 26 v none (some (.int k (j : Int))) none).run Tryz.prog w = .ok v' w ∧ BytesArg w v' (l.take j) := by
  obtain ⟨a, cap, rfl, h1, h2, h3, h256, hc⟩ := h
  have hb : ¬ cap < j := by omega
  have hb0 : BytesArg w (.slice a l.length cap) l := ⟨a, cap, rfl, h1, h2, h3, h256, hc⟩
  obtain ⟨i0, hi, hz0, hz1, hz2⟩ := info_parts Tryz.info_u8
  refine ⟨.slice a j cap, ?_, ?_⟩
  · cases a with
    | none => simp [Instr.sliceAt, Instr.slice, Instr.sliceBounds, Instr.sliceBound, asIntOf, run_underlying Tryz.underlying26, sizeOf, typeInfo, hi, hb]
    | some ad => simp [Instr.sliceAt, Instr.slice, Instr.sliceBounds, Instr.sliceBound, asIntOf, run_underlying Tryz.underlying26, sizeOf, typeInfo, hi, hb, Addr.add]
  · have := hb0.cut 0 j cap (Nat.zero_le _) hj (by omega) h2 a (fun _ => by cases a with | none => rfl | some ad => simp [Addr.add]) h3
    simpa using this
end Go.Proofs.YtknjpdcpmpfklaaGreatDoor
set_option maxRecDepth 100000
namespace Go.Proofs.YtknjpdcpmpfklaaGreatDoor
open Go.RowKit
def Owb (w : World) (T : Nat → Prop) (v : Value) (l : List Nat) : Prop := Row w 0 v l ∧ ∀ i, T i ↔ v.ownBlock = some i
theorem Owb.nil (w : World) : Owb w noB (.slice none 0 0) [] := ⟨Row.nil w 0, fun i => ⟨fun h => h.elim, fun h => by cases h⟩⟩
theorem Owb.live {w : World} {T : Nat → Prop} {v : Value} {l : List Nat} (h : Owb w T v l) : Live w T := fun i hi => (h.1.lt i ((h.2 i).1 hi)).2
theorem Owb.byt {w : World} {T : Nat → Prop} {v : Value} {l : List Nat} (h : Owb w T v l) : Byt w T v l := ⟨h.1.bytes, h.live, fun _ a n c e => (h.2 a.block).2 (by rw [e]; rfl)⟩
theorem Owb.all {S : Nat → Prop} {w w' : World} {T : Nat → Prop} {v : Value} {l : List Nat} (h : Owb w T v l) (k : Kept S w w') (ha : Apart T S) : Owb w' T v l := ⟨h.1.kept k (fun g hg => ha g ((h.2 g).2 hg)), h.2⟩
theorem Owb.one {w : World} {T : Nat → Prop} {v : Value} {l : List Nat} (h : Owb w T v l) : v.oneCell' = true := h.byt.one
theorem Owb.oneC {w : World} {T : Nat → Prop} {v : Value} {l : List Nat} (h : Owb w T v l) : oneC v = true := h.byt.oneC
theorem Owb.cells {w : World} {T : Nat → Prop} {v : Value} {l : List Nat} (h : Owb w T v l) : Cells w T := fun i hi => by
  have hv := (h.2 i).1 hi
  rcases h.1.1.2 with ⟨rfl, _⟩ | ⟨g, cap, cur, rfl, _, hg, _⟩
  · cases hv
  · cases hv; exact ⟨_, hg, rfl⟩
theorem Owb.row {A B : World} {row : Option Nat} {n : Nat} {T : Nat → Prop} {v : Value} {l : List Nat} (h : Owb A T v l) (hg : A.grownBy B row) (hr : RowNew n A row) : Owb B T v l := h.all (kept_row hg) (h.cells.apart hr)
theorem Owb.lt256 {w : World} {T : Nat → Prop} {v : Value} {l : List Nat} (h : Owb w T v l) : ∀ x ∈ l, x < 256 := h.1.2
theorem Owb.of {w : World} {v : Value} {l : List Nat} (h : Row w 0 v l) : Owb w (fun i => v.ownBlock = some i) v l := ⟨h, fun _ => Iff.rfl⟩
theorem Byt.lt256 {w : World} {T : Nat → Prop} {v : Value} {l : List Nat} (h : Byt w T v l) : ∀ x ∈ l, x < 256 := h.1.lt256
def bytAddr (v : Value) (j : Nat) : Value := match v with
  | .slice (some a) _ _ => .pointer (some (a.add j))
  | _ => undef
section
variable {ρ : Operand → Value} {o : Oper} {w : World} {R : Value → World → Prop}
theorem y_atB {x ix : Operand} {T : Nat → Prop} {v : Value} {l : List Nat} {k : IntKind} (j : Nat) {i : Int} (ho : o.op = .indexAddr 26 x ix) (hx : ρ x = v) (hi : ρ ix = .int k i) (hij : i = (j : Int)) (hb : Byt w T v l) (hj : j < l.length) (h : R (bytAddr v j) w) : Yields Tryz.prog ρ o w R := by
  subst hij
  obtain ⟨⟨a, cap, rfl, _, _, _, _, hc⟩, _⟩ := hb
  obtain ⟨b, off, rfl, _, _⟩ := hc (by omega)
  obtain ⟨i0, hi0, hz0, hz1, hz2⟩ := info_parts Tryz.info_u8
  exact y_val (v := bytAddr (.slice (some ⟨b, off, none⟩) l.length cap) j) (w' := w) (by simp [execOp, ho, hx, hi, Instr.indexAt, run_underlying Tryz.underlying26, asIntOf, sizeOf, typeInfo, hi0, hz1, hj, bytAddr]) h
theorem Byt.at_ {w : World} {T : Nat → Prop} {v : Value} {l : List Nat} {j : Nat} (hb : Byt w T v l) (hj : j < l.length) : ∃ a, bytAddr v j = .pointer (some a) ∧ w.cell? a = some (.int .u8 (l.getD j 0 : Nat)) := by
  obtain ⟨⟨a, cap, rfl, _, _, _, _, hc⟩, _⟩ := hb
  obtain ⟨b, off, rfl, _, hcell⟩ := hc (by omega)
  exact ⟨⟨b, off + j, none⟩, by rw [bytAddr, Addr.add_lit], hcell j hj⟩
theorem y_ldB {x : Operand} {T : Nat → Prop} {v : Value} {l : List Nat} {j : Nat} (ho : o.op = .load 5 x) (hx : ρ x = bytAddr v j) (hb : Byt w T v l) (hj : j < l.length) (h : R (.int .u8 ((l.getD j 0 : Nat) : Int)) w) : Yields Tryz.prog ρ o w R := by
  obtain ⟨a, ha, hc⟩ := hb.at_ hj
  exact y_ldA ho (hx.trans ha) Tryz.underlying5 rfl hc h
end
theorem run_append_where (w : World) (ty : TypeId) (v x : Value) (l m : List Nat) (hown : Row w 0 v l) (hx : BytesArg w x m) (hl : l.length + m.length < 1099511627776) :
    ∃ v' w', (Builtin.append_ #[26, 26] ty #[v, x]).run Tryz.prog w = .ok v' w' ∧ Appended w w' 0 v v' (l ++ m) ∧ (v'.ownBlock = v.ownBlock ∨ ∀ i, v'.ownBlock = some i → w.heap.size ≤ i) := by
  obtain ⟨v', w', hr, hA⟩ := run_append_bytes w ty 0 v x l m hown hx hl (Nat.zero_le _)
  refine ⟨v', w', hr, hA, ?_⟩
  obtain ⟨i0, hi, hz0, hz1, hz2⟩ := info_parts Tryz.info_u8
  obtain ⟨a, cap, rfl, h1, h2, h3, h256, hc⟩ := hx
  rcases hown.1.2 with ⟨rfl, h0⟩ | ⟨g, cp, cur, rfl, hb, hg, hnc, hcm, hcs, htake⟩
  · -- none yet: whatever there is is new
    right
    intro i hi'
    have hnil : l = [] := List.eq_nil_of_length_eq_zero h0
    subst hnil
    obtain ⟨v2, w2, hr2, hA2⟩ := run_append_bytes w ty w.heap.size (.slice none 0 0) (.slice a m.length cap) [] m (Row.nil w _) ⟨a, cap, rfl, h1, h2, h3, h256, hc⟩ (by simpa using hl) (Nat.le_refl _)
    rw [hr] at hr2
    cases hr2
    exact (hA2.1.lt i hi').1
  · cases a with
    | none =>
      have hc0 := h3 rfl
      subst hc0
      have hm : m = [] := List.eq_nil_of_length_eq_zero (by omega)
      subst hm
      left
      have hr2 := run_append_owned_none (P := Tryz.prog) w 0 26 ty _ i0 1 Tryz.underlying26 hi (.slice (some ⟨g, 0, none⟩) l.length cp) _ _ hown.1
      simp only [List.length_nil] at hr
      rw [hr2] at hr
      cases hr; rfl
    | some ad =>
      have hcells : ∀ j u, (byteVals m)[j]? = some u → w.cell? (ad.add j) = some u := by
        intro j u hj
        have hjl : j < m.length := by
          have := (List.getElem?_eq_some_iff.1 hj).1
          rwa [byteVals_length] at this
        obtain ⟨b, off, he, hb, hcell⟩ := hc (by omega)
        cases he
        rw [Addr.add_lit, hcell j hjl, ← hj, byteVals_at m j hjl]
      by_cases hroom : l.length + m.length ≤ cp
      · left
        have hr2 := run_append_room (P := Tryz.prog) w 26 ty 5 i0 Tryz.underlying26 hi g l.length cp cur hg ad m.length cap (byteVals m) (by rw [hz1, byteVals_length]; omega) hcells (byteVals_one m) hroom (by rw [hz1, byteVals_length, hcs]; omega)
        rw [hr2] at hr
        cases hr; rfl
      · right
        intro i hi'
        have hr2 := run_append_grow (P := Tryz.prog) w 26 ty 5 i0 (.int .u8 0) Tryz.underlying26 hi hz0 ⟨g, 0, none⟩ l.length cp (byteVals l) (by rw [hz1, byteVals_length]; omega) (hown.1.cells rfl) ad m.length cap (byteVals m) (by rw [hz1, byteVals_length]; omega) hcells (by omega) (by omega) (growslice_fits (by omega) (by rw [hz2]; omega))
        rw [hr2] at hr
        cases hr
        cases hi'; exact Nat.le_refl _
section
variable {ro : Option Nat} {N : Nat} {Q : (Exit → (Nat → Value) → World → Prop)} {F : Nat → Value} {w : World} {o : Oper}
theorem wl_makeB {ops : Array Oper} {rest : List Oper} {x y : Operand} {kl kc : IntKind} {n : Nat} {i j : Int} (hg : o.guard = none) (hd : fits N o.dst = true) (ho : o.op = .makeSlice 26 x y) (hx : ev (cutF N F) x = .int kl i) (hy : ev (cutF N F) y = .int kc j) (hi : i = (n : Int)) (hj : j = (n : Int)) (hn : n < 1099511627776)
    (h : ∀ v w' T, Owb w' T v (List.replicate n 0) → Grew w noB T → Kept (fun _ => False) w w' → wl ro Tryz.prog N ops Q rest (putF F o.dst v) w') : wl ro Tryz.prog N ops Q (o :: rest) F w := by
  subst hi; subst hj
  refine wl_op hg hd (y_make ho hx hy hn (h _ _ _ (Owb.of (row_zeros w 0 n (Nat.zero_le _) hn)) (fun i hi => .inr ?_) ((Kept.refl _ _).alloc _)))
  cases hi; exact Nat.le_refl _
theorem wl_builtB0 {ops : Array Oper} {rest : List Oper} (hg : o.guard = none) (hd : fits N o.dst = true) (ho : o.op = .buildSlice 26 0 #[])
    (h : ∀ v w' T, Owb w' T v [] → Grew w noB T → Kept (fun _ => False) w w' → wl ro Tryz.prog N ops Q rest (putF F o.dst v) w') : wl ro Tryz.prog N ops Q (o :: rest) F w := by
  refine wl_op hg hd (y_val (v := .slice (some ⟨w.heap.size, 0, none⟩) 0 0) (w' := w.alloc (.cells (byteVals []).toArray 5)) (by simp [execOp, ho, go_sem]; rfl) (h _ _ _ (Owb.of (Row.of_new (B := 0) (l := []) (heap_alloc_new w _) (Nat.zero_le _) (Nat.zero_le _) (by simp))) (fun i hi => .inr ?_) ((Kept.refl _ _).alloc _)))
  cases hi; exact Nat.le_refl _
theorem wl_builtB1 {ops : Array Oper} {rest : List Oper} {x : Operand} {n : Nat} {z : Int} (hg : o.guard = none) (hd : fits N o.dst = true) (ho : o.op = .buildSlice 26 1 #[(0, x)]) (hx : ev (cutF N F) x = .int .u8 z) (hz : z = (n : Int)) (hn : n < 256)
    (h : ∀ v w' T, Owb w' T v [n] → Grew w noB T → Kept (fun _ => False) w w' → wl ro Tryz.prog N ops Q rest (putF F o.dst v) w') : wl ro Tryz.prog N ops Q (o :: rest) F w := by
  subst hz
  refine wl_op hg hd (y_built1 ho hx (h _ _ _ (Owb.of (Row.of_new (B := 0) (l := [n]) (heap_alloc_new w _) (Nat.zero_le _) (show 1 ≤ maxLen by decide) (by simpa using hn))) (fun i hi => .inr ?_) ((Kept.refl _ _).alloc _)))
  cases hi; exact Nat.le_refl _
theorem wl_appendB {ops : Array Oper} {rest : List Oper} {c : Call} {x y : Operand} {T U : Nat → Prop} {v u : Value} {l m : List Nat} (hg : o.guard = none) (hd : fits N o.dst = true) (ho : o.op = .call c) (hc : c = { callee := .builtin .append, args := #[x, y], argTypes := #[26, 26] }) (hx : ev (cutF N F) x = v) (hy : ev (cutF N F) y = u) (hv : Owb w T v l) (hu : Byt w U u m) (hl : l.length + m.length < 1099511627776)
    (h : ∀ v' w' T', Owb w' T' v' (l ++ m) → Grew w T T' → Kept T w w' → wl ro Tryz.prog N ops Q rest (putF F o.dst v') w') : wl ro Tryz.prog N ops Q (o :: rest) F w := by
  subst hc
  obtain ⟨v', w', hr, hA, hw⟩ := run_append_where w o.type v u l m hv.1 hu.1 hl
  refine wl_op hg hd (y_val (v := v') (w' := w') (by simp [execOp, ho, resolve, invoke, builtin, hx, hy, hr]) (h v' w' _ (Owb.of hA.1) (fun i hi => ?_) ((Kept.refl T w).grown hA.2 (fun k e _ => (hv.2 k).2 e))))
  rcases hw with hw | hw
  · exact .inl ((hv.2 i).2 (hw ▸ hi))
  · exact .inr (hw i hi)
theorem wl_copyB {ops : Array Oper} {rest : List Oper} {c : Call} {x y : Operand} {T U : Nat → Prop} {v u : Value} {l m : List Nat} (hg : o.guard = none) (hd : fits N o.dst = true) (ho : o.op = .call c) (hc : c = { callee := .builtin .copy, args := #[x, y], argTypes := #[26, 26] }) (hx : ev (cutF N F) x = v) (hy : ev (cutF N F) y = u) (hv : Owb w T v l) (hu : Byt w U u m) (hl : l.length = m.length)
    (h : ∀ w', Owb w' T v m → Kept T w w' → wl ro Tryz.prog N ops Q rest (putF F o.dst (.int .i64 ((m.length : Nat) : Int))) w') : wl ro Tryz.prog N ops Q (o :: rest) F w := by
  subst hc
  have hsz : (Tryz.prog.info? 5).map (·.size) = some 1 := by
    obtain ⟨i0, hi0, hz0, hz1, hz2⟩ := info_parts Tryz.info_u8
    rw [hi0]; simp [hz1]
  obtain ⟨⟨a, cap, rfl, h1, h2, h3, h256, hcu⟩, _⟩ := hu
  obtain ⟨sa, scap, hsv⟩ := hv.1.shape
  by_cases h0 : m.length = 0
  · have hm : m = [] := List.eq_nil_of_length_eq_zero h0
    subst hm
    have hnil : l = [] := List.eq_nil_of_length_eq_zero hl
    subst hnil
    have hrun := run_copy_none (P := Tryz.prog) w 26 26 o.type 5 sa a 0 scap 0 cap Tryz.underlying26 hsz rfl
    refine wl_op hg hd (y_val (v := .int .i64 0) (w' := w) (by simp [execOp, ho, resolve, invoke, builtin, hx, hy, hsv, hrun, Result.andThen]; rfl) (h w hv (Kept.refl _ _)))
  · obtain ⟨b, off, rfl, _, hcell⟩ := hcu (by omega)
    rcases hv.1.1.2 with ⟨rfl, hz⟩ | ⟨g, cp, cur, rfl, hb, hgg, hnc, hcm, hcs, htake⟩
    · omega
    · have hrun := run_copy_row (P := Tryz.prog) w 26 26 o.type 5 g 0 l.length cp ⟨b, off, none⟩ m.length cap cur 5 (byteVals m) Tryz.underlying26 hsz hgg (by rw [byteVals_length, hl]; simp) (fun j u hj => by
        have hjl : j < m.length := by
          have := (List.getElem?_eq_some_iff.1 hj).1
          rwa [byteVals_length] at this
        rw [Addr.add_lit, hcell j hjl, ← hj, byteVals_at m j hjl]) (by rw [byteVals_length]; omega) (byteVals_one m)
      refine wl_op hg hd (y_val (v := .int .i64 ((m.length : Nat) : Int)) (w' := w.setRow g (cur.toList.take 0 ++ (byteVals m ++ cur.toList.drop (0 + (byteVals m).length))).toArray) (by simp [execOp, ho, resolve, invoke, builtin, hx, hy, hrun, Result.andThen, byteVals_length]; rfl) (h _ ⟨⟨⟨?_, .inr ⟨g, cp, _, ?_, Nat.zero_le _, setRow_heap w g cur _ _ _ hgg, ?_, hcm, ?_, ?_⟩⟩, h256⟩, hv.2⟩ ((Kept.refl T w).setRow g (fun _ => (hv.2 g).2 rfl) _)))
      · rw [byteVals_length]; omega
      · rw [hl]
      · omega
      · simp [byteVals_length]; omega
      · simp [byteVals_length]
end
end Go.Proofs.YtknjpdcpmpfklaaGreatDoor
set_option maxRecDepth 100000
namespace Go.Proofs.YtknjpdcpmpfklaaGreatDoor
open Go.RowKit
theorem stcT_frame : StcT Tryz.prog 29 5 := ⟨_, Tryz.underlying29, rfl, by kernel_rfl⟩
end Go.Proofs.YtknjpdcpmpfklaaGreatDoor
set_option maxRecDepth 100000
namespace Go.Proofs.YtknjpdcpmpfklaaGreatDoor
open Go.RowKit
theorem u8_byte (n : Int) : IntKind.u8.wrap (min (max n 0) 255) = ((byteI n : Nat) : Int) := by
  unfold byteI IntKind.wrap; simp [IntKind.signed, IntKind.bits]; omega
theorem fref_same (a : FD) (a0 a1 a2 : Value) (b : FD) (b0 b1 b2 : Value) (T_a0 : Nat → Prop) (T_a1 : Nat → Prop) (T_a2 : Nat → Prop) (T_b0 : Nat → Prop) (T_b1 : Nat → Prop) (T_b2 : Nat → Prop) (w0 : World) (h_a0 : Byt w0 T_a0 a0 ((a).p0)) (h_a1 : Byt w0 T_a1 a1 ((a).p1)) (h_a2 : Byt w0 T_a2 a2 ((a).p2)) (h_b0 : Byt w0 T_b0 b0 ((b).p0)) (h_b1 : Byt w0 T_b1 b1 ((b).p1)) (h_b2 : Byt w0 T_b2 b2 ((b).p2)) :
  Calls Tryz.prog 15 #[.agg #[.int .i64 ((a).W), .int .i64 ((a).H), a0, a1, a2], .agg #[.int .i64 ((b).W), .int .i64 ((b).H), b0, b1, b2]] w0 fun e w' => e = .returned (.bool (sameF a b)) ∧ Kept (fun _ => False) w0 w' := by
 refine calls_wq (args := [.agg #[iv (a.W), iv (a.H), a0, a1, a2], .agg #[iv (b.W), iv (b.H), b0, b1, b2]]) 52 Tryz.func15 rfl rfl (Nat.le_of_ble_eq_true rfl) ?_
 have K0 := Kept.refl (fun _ => False) w0
 have g_a0 := Grew.refl w0 T_a0
 have g_a1 := Grew.refl w0 T_a1
 have g_a2 := Grew.refl w0 T_a2
 have g_b0 := Grew.refl w0 T_b0
 have g_b1 := Grew.refl w0 T_b1
 have g_b2 := Grew.refl w0 T_b2
 refine wq_seq (wq_region (wl_box_stc (vs := [iv (a.W), iv (a.H), a0, a1, a2]) rfl rfl rfl rfl fun p1 w2 B4 g5 k3 => ?_))
 have B13 := h_a0.all k3 Apart.none
 have B14 := h_a1.all k3 Apart.none
 have B15 := h_a2.all k3 Apart.none
 have B16 := h_b0.all k3 Apart.none
 have B17 := h_b1.all k3 Apart.none
 have B18 := h_b2.all k3 Apart.none
 have K19 := K0.tr k3
 refine wl_box_stc (vs := [iv (b.W), iv (b.H), b0, b1, b2]) rfl rfl rfl rfl fun p20 w21 B23 g24 k22 => ?_
 have B33 := B13.all k22 Apart.none
 have B34 := B14.all k22 Apart.none
 have B35 := B15.all k22 Apart.none
 have B36 := B16.all k22 Apart.none
 have B37 := B17.all k22 Apart.none
 have B38 := B18.all k22 Apart.none
 have B39 := B4.all k22 id
 have K40 := K19.tr k22
 refine wl_v (.bool false) rfl rfl (y_asg rfl rfl rr) (wl_nil fun F41 hF42 => ?_)
 have s43 : F41 52 = undef := (hF42 52).trans rfl
 have s44 : F41 2 = pt p1 0 := (hF42 2).trans rfl
 have s45 : F41 3 = pt p20 0 := (hF42 3).trans rfl
 clear hF42
 refine then_normal (wq_seq ?_)
 rcases Bool.eq_false_or_eq_true ((textOf (a.p0)).toList == (textOf (b.p0)).toList) with d46 | d46
 ·skip
  rcases Bool.eq_false_or_eq_true ((textOf (a.p1)).toList == (textOf (b.p1)).toList) with d47 | d47
  ·skip
   refine wq_region (wl_v (pt p1 2) rfl rfl (y_fieldR (n := 3) rfl s44 Tryz.underlying29 rfl (by kernel_rfl) (by decide) rfl rr) (wl_v (pt p1 2) rfl rfl (y_atR 0 (s := 1) rfl rfl rfl (by omega) Tryz.underlying27 (by omega) (by kernel_rfl) (by omega) rr) (wl_v a0 rfl rfl (y_ld_stc rfl rfl Tryz.underlying26 B39 rfl rfl rr) (wl_v (.string (textOf (a.p0))) rfl rfl (y_text rfl (bytes_at rfl B33) rr) (wl_v (pt p20 2) rfl rfl (y_fieldR (n := 3) rfl s45 Tryz.underlying29 rfl (by kernel_rfl) (by decide) rfl rr) (wl_v (pt p20 2) rfl rfl (y_atR 0 (s := 1) rfl rfl rfl (by omega) Tryz.underlying27 (by omega) (by kernel_rfl) (by omega) rr) (wl_v b0 rfl rfl (y_ld_stc rfl rfl Tryz.underlying26 B23 rfl rfl rr) (wl_v (.string (textOf (b.p0))) rfl rfl (y_text rfl (bytes_at rfl B36) rr) (wl_v (.bool true) rfl rfl (y_eqlS rfl rfl rfl d46 rr) (wl_v (.bool true) rfl rfl (y_mov rfl rfl rr) (wl_vw (pt p1 2) 9 true 15 rfl rfl rfl rfl rfl (y_fieldR (n := 3) rfl s44 Tryz.underlying29 rfl (by kernel_rfl) (by decide) rfl rr) ?_)))))))))))
   refine wl_vw (pt p1 3) 9 true 15 rfl rfl rfl rfl rfl (y_atR 1 (s := 1) rfl rfl rfl (by omega) Tryz.underlying27 (by omega) (by kernel_rfl) (by omega) rr) (wl_vw a1 9 true 15 rfl rfl rfl rfl rfl (y_ld_stc rfl rfl Tryz.underlying26 B39 rfl rfl rr) (wl_vw (.string (textOf (a.p1))) 9 true 15 rfl rfl rfl rfl rfl (y_text rfl (bytes_at rfl B34) rr) (wl_vw (pt p20 2) 9 true 15 rfl rfl rfl rfl rfl (y_fieldR (n := 3) rfl s45 Tryz.underlying29 rfl (by kernel_rfl) (by decide) rfl rr) (wl_vw (pt p20 3) 9 true 15 rfl rfl rfl rfl rfl (y_atR 1 (s := 1) rfl rfl rfl (by omega) Tryz.underlying27 (by omega) (by kernel_rfl) (by omega) rr) (wl_vw b1 9 true 15 rfl rfl rfl rfl rfl (y_ld_stc rfl rfl Tryz.underlying26 B23 rfl rfl rr) (wl_vw (.string (textOf (b.p1))) 9 true 15 rfl rfl rfl rfl rfl (y_text rfl (bytes_at rfl B37) rr) (wl_vw (.bool true) 9 true 15 rfl rfl rfl rfl rfl (y_eqlS rfl rfl rfl d47 rr) (wl_v (.bool true) rfl rfl (y_pickT rfl rfl rfl rr) (wl_v (.bool true) rfl rfl (y_mov rfl rfl rr) (wl_vw (pt p1 2) 20 true 26 rfl rfl rfl rfl rfl (y_fieldR (n := 3) rfl s44 Tryz.underlying29 rfl (by kernel_rfl) (by decide) rfl rr) (wl_vw (pt p1 4) 20 true 26 rfl rfl rfl rfl rfl (y_atR 2 (s := 1) rfl rfl rfl (by omega) Tryz.underlying27 (by omega) (by kernel_rfl) (by omega) rr) ?_)))))))))))
   refine wl_vw a2 20 true 26 rfl rfl rfl rfl rfl (y_ld_stc rfl rfl Tryz.underlying26 B39 rfl rfl rr) (wl_vw (.string (textOf (a.p2))) 20 true 26 rfl rfl rfl rfl rfl (y_text rfl (bytes_at rfl B35) rr) (wl_vw (pt p20 2) 20 true 26 rfl rfl rfl rfl rfl (y_fieldR (n := 3) rfl s45 Tryz.underlying29 rfl (by kernel_rfl) (by decide) rfl rr) (wl_vw (pt p20 4) 20 true 26 rfl rfl rfl rfl rfl (y_atR 2 (s := 1) rfl rfl rfl (by omega) Tryz.underlying27 (by omega) (by kernel_rfl) (by omega) rr) (wl_vw b2 20 true 26 rfl rfl rfl rfl rfl (y_ld_stc rfl rfl Tryz.underlying26 B23 rfl rfl rr) (wl_vw (.string (textOf (b.p2))) 20 true 26 rfl rfl rfl rfl rfl (y_text rfl (bytes_at rfl B38) rr) (wl_vw (.bool ((textOf (a.p2)).toList == (textOf (b.p2)).toList)) 20 true 26 rfl rfl rfl rfl rfl (y_eqlS rfl rfl rfl rfl rr) (wl_v (.bool ((textOf (a.p2)).toList == (textOf (b.p2)).toList)) rfl rfl (y_pickT rfl rfl rfl rr) (wl_v (.bool ((textOf (a.p2)).toList == (textOf (b.p2)).toList)) rfl rfl (y_asg rfl rfl rr) (wl_nil fun F48 hF49 => ?_)))))))))
   obtain ⟨s50, s51, s52⟩ := t3 hF49 52 s43 2 s44 3 s45
   have s53 : F48 5 = .bool ((textOf (a.p2)).toList == (textOf (b.p2)).toList) := (hF49 5).trans rfl
   clear hF49
   refine then_normal (wq_seq ?_)
   by_cases d54 : (a.W) = (b.W)
   ·skip
    by_cases d55 : (a.H) = (b.H)
    ·skip
     refine wq_region (wl_v (pt p1 0) rfl rfl (y_fieldR (n := 1) rfl s51 Tryz.underlying29 rfl (by kernel_rfl) (by decide) rfl rr) (wl_v (iv (a.W)) rfl rfl (y_ld_stc rfl rfl Tryz.underlying3 B39 rfl rfl rr) (wl_v (pt p20 0) rfl rfl (y_fieldR (n := 1) rfl s52 Tryz.underlying29 rfl (by kernel_rfl) (by decide) rfl rr) (wl_v (iv (b.W)) rfl rfl (y_ld_stc rfl rfl Tryz.underlying3 B23 rfl rfl rr) (wl_v (.bool true) rfl rfl (y_eqlI rfl rfl rfl (decide_eq_true d54) rr) (wl_v (.bool true) rfl rfl (y_mov rfl rfl rr) (wl_vw (pt p1 1) 5 true 42 rfl rfl rfl rfl rfl (y_fieldR (n := 1) rfl s51 Tryz.underlying29 rfl (by kernel_rfl) (by decide) rfl rr) (wl_vw (iv (a.H)) 5 true 42 rfl rfl rfl rfl rfl (y_ld_stc rfl rfl Tryz.underlying3 B39 rfl rfl rr) (wl_vw (pt p20 1) 5 true 42 rfl rfl rfl rfl rfl (y_fieldR (n := 1) rfl s52 Tryz.underlying29 rfl (by kernel_rfl) (by decide) rfl rr) (wl_vw (iv (b.H)) 5 true 42 rfl rfl rfl rfl rfl (y_ld_stc rfl rfl Tryz.underlying3 B23 rfl rfl rr) (wl_vw (.bool true) 5 true 42 rfl rfl rfl rfl rfl (y_eqlI rfl rfl rfl (decide_eq_true d55) rr) ?_)))))))))))
     refine wl_v (.bool true) rfl rfl (y_pickT rfl rfl rfl rr) (wl_v (.bool true) rfl rfl (y_mov rfl rfl rr) (wl_vw (.bool ((textOf (a.p2)).toList == (textOf (b.p2)).toList)) 12 true 49 rfl rfl rfl rfl rfl (y_mov rfl s53 rr) (wl_v (.bool ((textOf (a.p2)).toList == (textOf (b.p2)).toList)) rfl rfl (y_pickT rfl rfl rfl rr) (wl_v (.bool ((textOf (a.p2)).toList == (textOf (b.p2)).toList)) rfl rfl (y_asg rfl rfl rr) (wl_nil fun F56 hF57 => ?_)))))
     have s58 := (hF57 52).trans s50
     have s59 : F56 4 = .bool ((textOf (a.p2)).toList == (textOf (b.p2)).toList) := (hF57 4).trans rfl
     clear hF57
     refine then_normal (wq_ret ?_)
     exact end_tmp (v := .bool ((textOf (a.p2)).toList == (textOf (b.p2)).toList)) s58 rfl rfl s59 ⟨(by first | rw [sameF_0 (by assumption)] | rw [sameF_1 (by assumption)] | rw [sameF_W (by assumption)] | rw [sameF_H (by assumption)] | rw [sameF_2 (by assumption) (by assumption) (by assumption) (by assumption)]), K40⟩
    ·skip
     refine wq_region (wl_v (pt p1 0) rfl rfl (y_fieldR (n := 1) rfl s51 Tryz.underlying29 rfl (by kernel_rfl) (by decide) rfl rr) (wl_v (iv (a.W)) rfl rfl (y_ld_stc rfl rfl Tryz.underlying3 B39 rfl rfl rr) (wl_v (pt p20 0) rfl rfl (y_fieldR (n := 1) rfl s52 Tryz.underlying29 rfl (by kernel_rfl) (by decide) rfl rr) (wl_v (iv (b.W)) rfl rfl (y_ld_stc rfl rfl Tryz.underlying3 B23 rfl rfl rr) (wl_v (.bool true) rfl rfl (y_eqlI rfl rfl rfl (decide_eq_true d54) rr) (wl_v (.bool true) rfl rfl (y_mov rfl rfl rr) (wl_vw (pt p1 1) 5 true 42 rfl rfl rfl rfl rfl (y_fieldR (n := 1) rfl s51 Tryz.underlying29 rfl (by kernel_rfl) (by decide) rfl rr) (wl_vw (iv (a.H)) 5 true 42 rfl rfl rfl rfl rfl (y_ld_stc rfl rfl Tryz.underlying3 B39 rfl rfl rr) (wl_vw (pt p20 1) 5 true 42 rfl rfl rfl rfl rfl (y_fieldR (n := 1) rfl s52 Tryz.underlying29 rfl (by kernel_rfl) (by decide) rfl rr) (wl_vw (iv (b.H)) 5 true 42 rfl rfl rfl rfl rfl (y_ld_stc rfl rfl Tryz.underlying3 B23 rfl rfl rr) (wl_vw (.bool false) 5 true 42 rfl rfl rfl rfl rfl (y_eqlI rfl rfl rfl (decide_eq_false d55) rr) ?_)))))))))))
     refine wl_v (.bool false) rfl rfl (y_pickT rfl rfl rfl rr) (wl_v (.bool false) rfl rfl (y_mov rfl rfl rr) (wl_unless 12 true 49 rfl rfl rfl (Or.inl rfl) rfl (wl_v (.bool false) rfl rfl (y_pickF rfl rfl rfl rr) (wl_v (.bool false) rfl rfl (y_asg rfl rfl rr) (wl_nil fun F60 hF61 => ?_)))))
     have s62 := (hF61 52).trans s50
     have s63 : F60 4 = .bool false := (hF61 4).trans rfl
     clear hF61
     refine then_normal (wq_ret ?_)
     exact end_tmp (v := .bool false) s62 rfl rfl s63 ⟨(by first | rw [sameF_0 (by assumption)] | rw [sameF_1 (by assumption)] | rw [sameF_W (by assumption)] | rw [sameF_H (by assumption)] | rw [sameF_2 (by assumption) (by assumption) (by assumption) (by assumption)]), K40⟩
   ·skip
    refine wq_region (wl_v (pt p1 0) rfl rfl (y_fieldR (n := 1) rfl s51 Tryz.underlying29 rfl (by kernel_rfl) (by decide) rfl rr) (wl_v (iv (a.W)) rfl rfl (y_ld_stc rfl rfl Tryz.underlying3 B39 rfl rfl rr) (wl_v (pt p20 0) rfl rfl (y_fieldR (n := 1) rfl s52 Tryz.underlying29 rfl (by kernel_rfl) (by decide) rfl rr) (wl_v (iv (b.W)) rfl rfl (y_ld_stc rfl rfl Tryz.underlying3 B23 rfl rfl rr) (wl_v (.bool false) rfl rfl (y_eqlI rfl rfl rfl (decide_eq_false d54) rr) (wl_v (.bool false) rfl rfl (y_mov rfl rfl rr) (wl_unless 5 true 42 rfl rfl rfl (Or.inl rfl) rfl (wl_unless 5 true 42 rfl rfl rfl (Or.inl rfl) rfl (wl_unless 5 true 42 rfl rfl rfl (Or.inl rfl) rfl (wl_unless 5 true 42 rfl rfl rfl (Or.inl rfl) rfl (wl_unless 5 true 42 rfl rfl rfl (Or.inl rfl) rfl ?_)))))))))))
    refine wl_v (.bool false) rfl rfl (y_pickF rfl rfl rfl rr) (wl_v (.bool false) rfl rfl (y_mov rfl rfl rr) (wl_unless 12 true 49 rfl rfl rfl (Or.inl rfl) rfl (wl_v (.bool false) rfl rfl (y_pickF rfl rfl rfl rr) (wl_v (.bool false) rfl rfl (y_asg rfl rfl rr) (wl_nil fun F64 hF65 => ?_)))))
    have s66 := (hF65 52).trans s50
    have s67 : F64 4 = .bool false := (hF65 4).trans rfl
    clear hF65
    refine then_normal (wq_ret ?_)
    exact end_tmp (v := .bool false) s66 rfl rfl s67 ⟨(by first | rw [sameF_0 (by assumption)] | rw [sameF_1 (by assumption)] | rw [sameF_W (by assumption)] | rw [sameF_H (by assumption)] | rw [sameF_2 (by assumption) (by assumption) (by assumption) (by assumption)]), K40⟩
  ·skip
   refine wq_region (wl_v (pt p1 2) rfl rfl (y_fieldR (n := 3) rfl s44 Tryz.underlying29 rfl (by kernel_rfl) (by decide) rfl rr) (wl_v (pt p1 2) rfl rfl (y_atR 0 (s := 1) rfl rfl rfl (by omega) Tryz.underlying27 (by omega) (by kernel_rfl) (by omega) rr) (wl_v a0 rfl rfl (y_ld_stc rfl rfl Tryz.underlying26 B39 rfl rfl rr) (wl_v (.string (textOf (a.p0))) rfl rfl (y_text rfl (bytes_at rfl B33) rr) (wl_v (pt p20 2) rfl rfl (y_fieldR (n := 3) rfl s45 Tryz.underlying29 rfl (by kernel_rfl) (by decide) rfl rr) (wl_v (pt p20 2) rfl rfl (y_atR 0 (s := 1) rfl rfl rfl (by omega) Tryz.underlying27 (by omega) (by kernel_rfl) (by omega) rr) (wl_v b0 rfl rfl (y_ld_stc rfl rfl Tryz.underlying26 B23 rfl rfl rr) (wl_v (.string (textOf (b.p0))) rfl rfl (y_text rfl (bytes_at rfl B36) rr) (wl_v (.bool true) rfl rfl (y_eqlS rfl rfl rfl d46 rr) (wl_v (.bool true) rfl rfl (y_mov rfl rfl rr) (wl_vw (pt p1 2) 9 true 15 rfl rfl rfl rfl rfl (y_fieldR (n := 3) rfl s44 Tryz.underlying29 rfl (by kernel_rfl) (by decide) rfl rr) ?_)))))))))))
   refine wl_vw (pt p1 3) 9 true 15 rfl rfl rfl rfl rfl (y_atR 1 (s := 1) rfl rfl rfl (by omega) Tryz.underlying27 (by omega) (by kernel_rfl) (by omega) rr) (wl_vw a1 9 true 15 rfl rfl rfl rfl rfl (y_ld_stc rfl rfl Tryz.underlying26 B39 rfl rfl rr) (wl_vw (.string (textOf (a.p1))) 9 true 15 rfl rfl rfl rfl rfl (y_text rfl (bytes_at rfl B34) rr) (wl_vw (pt p20 2) 9 true 15 rfl rfl rfl rfl rfl (y_fieldR (n := 3) rfl s45 Tryz.underlying29 rfl (by kernel_rfl) (by decide) rfl rr) (wl_vw (pt p20 3) 9 true 15 rfl rfl rfl rfl rfl (y_atR 1 (s := 1) rfl rfl rfl (by omega) Tryz.underlying27 (by omega) (by kernel_rfl) (by omega) rr) (wl_vw b1 9 true 15 rfl rfl rfl rfl rfl (y_ld_stc rfl rfl Tryz.underlying26 B23 rfl rfl rr) (wl_vw (.string (textOf (b.p1))) 9 true 15 rfl rfl rfl rfl rfl (y_text rfl (bytes_at rfl B37) rr) (wl_vw (.bool false) 9 true 15 rfl rfl rfl rfl rfl (y_eqlS rfl rfl rfl d47 rr) (wl_v (.bool false) rfl rfl (y_pickT rfl rfl rfl rr) (wl_v (.bool false) rfl rfl (y_mov rfl rfl rr) (wl_unless 20 true 26 rfl rfl rfl (Or.inl rfl) rfl (wl_unless 20 true 26 rfl rfl rfl (Or.inl rfl) rfl ?_)))))))))))
   refine wl_unless 20 true 26 rfl rfl rfl (Or.inl rfl) rfl (wl_unless 20 true 26 rfl rfl rfl (Or.inl rfl) rfl (wl_unless 20 true 26 rfl rfl rfl (Or.inl rfl) rfl (wl_unless 20 true 26 rfl rfl rfl (Or.inl rfl) rfl (wl_unless 20 true 26 rfl rfl rfl (Or.inl rfl) rfl (wl_unless 20 true 26 rfl rfl rfl (Or.inl rfl) rfl (wl_unless 20 true 26 rfl rfl rfl (Or.inl rfl) rfl (wl_v (.bool false) rfl rfl (y_pickF rfl rfl rfl rr) (wl_v (.bool false) rfl rfl (y_asg rfl rfl rr) (wl_nil fun F68 hF69 => ?_)))))))))
   obtain ⟨s70, s71, s72⟩ := t3 hF69 52 s43 2 s44 3 s45
   have s73 : F68 5 = .bool false := (hF69 5).trans rfl
   clear hF69
   refine then_normal (wq_seq ?_)
   by_cases d74 : (a.W) = (b.W)
   ·skip
    by_cases d75 : (a.H) = (b.H)
    ·skip
     refine wq_region (wl_v (pt p1 0) rfl rfl (y_fieldR (n := 1) rfl s71 Tryz.underlying29 rfl (by kernel_rfl) (by decide) rfl rr) (wl_v (iv (a.W)) rfl rfl (y_ld_stc rfl rfl Tryz.underlying3 B39 rfl rfl rr) (wl_v (pt p20 0) rfl rfl (y_fieldR (n := 1) rfl s72 Tryz.underlying29 rfl (by kernel_rfl) (by decide) rfl rr) (wl_v (iv (b.W)) rfl rfl (y_ld_stc rfl rfl Tryz.underlying3 B23 rfl rfl rr) (wl_v (.bool true) rfl rfl (y_eqlI rfl rfl rfl (decide_eq_true d74) rr) (wl_v (.bool true) rfl rfl (y_mov rfl rfl rr) (wl_vw (pt p1 1) 5 true 42 rfl rfl rfl rfl rfl (y_fieldR (n := 1) rfl s71 Tryz.underlying29 rfl (by kernel_rfl) (by decide) rfl rr) (wl_vw (iv (a.H)) 5 true 42 rfl rfl rfl rfl rfl (y_ld_stc rfl rfl Tryz.underlying3 B39 rfl rfl rr) (wl_vw (pt p20 1) 5 true 42 rfl rfl rfl rfl rfl (y_fieldR (n := 1) rfl s72 Tryz.underlying29 rfl (by kernel_rfl) (by decide) rfl rr) (wl_vw (iv (b.H)) 5 true 42 rfl rfl rfl rfl rfl (y_ld_stc rfl rfl Tryz.underlying3 B23 rfl rfl rr) (wl_vw (.bool true) 5 true 42 rfl rfl rfl rfl rfl (y_eqlI rfl rfl rfl (decide_eq_true d75) rr) ?_)))))))))))
     refine wl_v (.bool true) rfl rfl (y_pickT rfl rfl rfl rr) (wl_v (.bool true) rfl rfl (y_mov rfl rfl rr) (wl_vw (.bool false) 12 true 49 rfl rfl rfl rfl rfl (y_mov rfl s73 rr) (wl_v (.bool false) rfl rfl (y_pickT rfl rfl rfl rr) (wl_v (.bool false) rfl rfl (y_asg rfl rfl rr) (wl_nil fun F76 hF77 => ?_)))))
     have s78 := (hF77 52).trans s70
     have s79 : F76 4 = .bool false := (hF77 4).trans rfl
     clear hF77
     refine then_normal (wq_ret ?_)
     exact end_tmp (v := .bool false) s78 rfl rfl s79 ⟨(by first | rw [sameF_0 (by assumption)] | rw [sameF_1 (by assumption)] | rw [sameF_W (by assumption)] | rw [sameF_H (by assumption)] | rw [sameF_2 (by assumption) (by assumption) (by assumption) (by assumption)]), K40⟩
    ·skip
     refine wq_region (wl_v (pt p1 0) rfl rfl (y_fieldR (n := 1) rfl s71 Tryz.underlying29 rfl (by kernel_rfl) (by decide) rfl rr) (wl_v (iv (a.W)) rfl rfl (y_ld_stc rfl rfl Tryz.underlying3 B39 rfl rfl rr) (wl_v (pt p20 0) rfl rfl (y_fieldR (n := 1) rfl s72 Tryz.underlying29 rfl (by kernel_rfl) (by decide) rfl rr) (wl_v (iv (b.W)) rfl rfl (y_ld_stc rfl rfl Tryz.underlying3 B23 rfl rfl rr) (wl_v (.bool true) rfl rfl (y_eqlI rfl rfl rfl (decide_eq_true d74) rr) (wl_v (.bool true) rfl rfl (y_mov rfl rfl rr) (wl_vw (pt p1 1) 5 true 42 rfl rfl rfl rfl rfl (y_fieldR (n := 1) rfl s71 Tryz.underlying29 rfl (by kernel_rfl) (by decide) rfl rr) (wl_vw (iv (a.H)) 5 true 42 rfl rfl rfl rfl rfl (y_ld_stc rfl rfl Tryz.underlying3 B39 rfl rfl rr) (wl_vw (pt p20 1) 5 true 42 rfl rfl rfl rfl rfl (y_fieldR (n := 1) rfl s72 Tryz.underlying29 rfl (by kernel_rfl) (by decide) rfl rr) (wl_vw (iv (b.H)) 5 true 42 rfl rfl rfl rfl rfl (y_ld_stc rfl rfl Tryz.underlying3 B23 rfl rfl rr) (wl_vw (.bool false) 5 true 42 rfl rfl rfl rfl rfl (y_eqlI rfl rfl rfl (decide_eq_false d75) rr) ?_)))))))))))
     refine wl_v (.bool false) rfl rfl (y_pickT rfl rfl rfl rr) (wl_v (.bool false) rfl rfl (y_mov rfl rfl rr) (wl_unless 12 true 49 rfl rfl rfl (Or.inl rfl) rfl (wl_v (.bool false) rfl rfl (y_pickF rfl rfl rfl rr) (wl_v (.bool false) rfl rfl (y_asg rfl rfl rr) (wl_nil fun F80 hF81 => ?_)))))
     have s82 := (hF81 52).trans s70
     have s83 : F80 4 = .bool false := (hF81 4).trans rfl
     clear hF81
     refine then_normal (wq_ret ?_)
     exact end_tmp (v := .bool false) s82 rfl rfl s83 ⟨(by first | rw [sameF_0 (by assumption)] | rw [sameF_1 (by assumption)] | rw [sameF_W (by assumption)] | rw [sameF_H (by assumption)] | rw [sameF_2 (by assumption) (by assumption) (by assumption) (by assumption)]), K40⟩
   ·skip
    refine wq_region (wl_v (pt p1 0) rfl rfl (y_fieldR (n := 1) rfl s71 Tryz.underlying29 rfl (by kernel_rfl) (by decide) rfl rr) (wl_v (iv (a.W)) rfl rfl (y_ld_stc rfl rfl Tryz.underlying3 B39 rfl rfl rr) (wl_v (pt p20 0) rfl rfl (y_fieldR (n := 1) rfl s72 Tryz.underlying29 rfl (by kernel_rfl) (by decide) rfl rr) (wl_v (iv (b.W)) rfl rfl (y_ld_stc rfl rfl Tryz.underlying3 B23 rfl rfl rr) (wl_v (.bool false) rfl rfl (y_eqlI rfl rfl rfl (decide_eq_false d74) rr) (wl_v (.bool false) rfl rfl (y_mov rfl rfl rr) (wl_unless 5 true 42 rfl rfl rfl (Or.inl rfl) rfl (wl_unless 5 true 42 rfl rfl rfl (Or.inl rfl) rfl (wl_unless 5 true 42 rfl rfl rfl (Or.inl rfl) rfl (wl_unless 5 true 42 rfl rfl rfl (Or.inl rfl) rfl (wl_unless 5 true 42 rfl rfl rfl (Or.inl rfl) rfl ?_)))))))))))
    refine wl_v (.bool false) rfl rfl (y_pickF rfl rfl rfl rr) (wl_v (.bool false) rfl rfl (y_mov rfl rfl rr) (wl_unless 12 true 49 rfl rfl rfl (Or.inl rfl) rfl (wl_v (.bool false) rfl rfl (y_pickF rfl rfl rfl rr) (wl_v (.bool false) rfl rfl (y_asg rfl rfl rr) (wl_nil fun F84 hF85 => ?_)))))
    have s86 := (hF85 52).trans s70
    have s87 : F84 4 = .bool false := (hF85 4).trans rfl
    clear hF85
    refine then_normal (wq_ret ?_)
    exact end_tmp (v := .bool false) s86 rfl rfl s87 ⟨(by first | rw [sameF_0 (by assumption)] | rw [sameF_1 (by assumption)] | rw [sameF_W (by assumption)] | rw [sameF_H (by assumption)] | rw [sameF_2 (by assumption) (by assumption) (by assumption) (by assumption)]), K40⟩
 ·skip
  refine wq_region (wl_v (pt p1 2) rfl rfl (y_fieldR (n := 3) rfl s44 Tryz.underlying29 rfl (by kernel_rfl) (by decide) rfl rr) (wl_v (pt p1 2) rfl rfl (y_atR 0 (s := 1) rfl rfl rfl (by omega) Tryz.underlying27 (by omega) (by kernel_rfl) (by omega) rr) (wl_v a0 rfl rfl (y_ld_stc rfl rfl Tryz.underlying26 B39 rfl rfl rr) (wl_v (.string (textOf (a.p0))) rfl rfl (y_text rfl (bytes_at rfl B33) rr) (wl_v (pt p20 2) rfl rfl (y_fieldR (n := 3) rfl s45 Tryz.underlying29 rfl (by kernel_rfl) (by decide) rfl rr) (wl_v (pt p20 2) rfl rfl (y_atR 0 (s := 1) rfl rfl rfl (by omega) Tryz.underlying27 (by omega) (by kernel_rfl) (by omega) rr) (wl_v b0 rfl rfl (y_ld_stc rfl rfl Tryz.underlying26 B23 rfl rfl rr) (wl_v (.string (textOf (b.p0))) rfl rfl (y_text rfl (bytes_at rfl B36) rr) (wl_v (.bool false) rfl rfl (y_eqlS rfl rfl rfl d46 rr) (wl_v (.bool false) rfl rfl (y_mov rfl rfl rr) (wl_unless 9 true 15 rfl rfl rfl (Or.inl rfl) rfl ?_)))))))))))
  refine wl_unless 9 true 15 rfl rfl rfl (Or.inl rfl) rfl (wl_unless 9 true 15 rfl rfl rfl (Or.inl rfl) rfl (wl_unless 9 true 15 rfl rfl rfl (Or.inl rfl) rfl (wl_unless 9 true 15 rfl rfl rfl (Or.inl rfl) rfl (wl_unless 9 true 15 rfl rfl rfl (Or.inl rfl) rfl (wl_unless 9 true 15 rfl rfl rfl (Or.inl rfl) rfl (wl_unless 9 true 15 rfl rfl rfl (Or.inl rfl) rfl (wl_unless 9 true 15 rfl rfl rfl (Or.inl rfl) rfl (wl_v (.bool false) rfl rfl (y_pickF rfl rfl rfl rr) (wl_v (.bool false) rfl rfl (y_mov rfl rfl rr) (wl_unless 20 true 26 rfl rfl rfl (Or.inl rfl) rfl (wl_unless 20 true 26 rfl rfl rfl (Or.inl rfl) rfl ?_)))))))))))
  refine wl_unless 20 true 26 rfl rfl rfl (Or.inl rfl) rfl (wl_unless 20 true 26 rfl rfl rfl (Or.inl rfl) rfl (wl_unless 20 true 26 rfl rfl rfl (Or.inl rfl) rfl (wl_unless 20 true 26 rfl rfl rfl (Or.inl rfl) rfl (wl_unless 20 true 26 rfl rfl rfl (Or.inl rfl) rfl (wl_unless 20 true 26 rfl rfl rfl (Or.inl rfl) rfl (wl_unless 20 true 26 rfl rfl rfl (Or.inl rfl) rfl (wl_v (.bool false) rfl rfl (y_pickF rfl rfl rfl rr) (wl_v (.bool false) rfl rfl (y_asg rfl rfl rr) (wl_nil fun F88 hF89 => ?_)))))))))
  obtain ⟨s90, s91, s92⟩ := t3 hF89 52 s43 2 s44 3 s45
  have s93 : F88 5 = .bool false := (hF89 5).trans rfl
  clear hF89
  refine then_normal (wq_seq ?_)
  by_cases d94 : (a.W) = (b.W)
  ·skip
   by_cases d95 : (a.H) = (b.H)
   ·skip
    refine wq_region (wl_v (pt p1 0) rfl rfl (y_fieldR (n := 1) rfl s91 Tryz.underlying29 rfl (by kernel_rfl) (by decide) rfl rr) (wl_v (iv (a.W)) rfl rfl (y_ld_stc rfl rfl Tryz.underlying3 B39 rfl rfl rr) (wl_v (pt p20 0) rfl rfl (y_fieldR (n := 1) rfl s92 Tryz.underlying29 rfl (by kernel_rfl) (by decide) rfl rr) (wl_v (iv (b.W)) rfl rfl (y_ld_stc rfl rfl Tryz.underlying3 B23 rfl rfl rr) (wl_v (.bool true) rfl rfl (y_eqlI rfl rfl rfl (decide_eq_true d94) rr) (wl_v (.bool true) rfl rfl (y_mov rfl rfl rr) (wl_vw (pt p1 1) 5 true 42 rfl rfl rfl rfl rfl (y_fieldR (n := 1) rfl s91 Tryz.underlying29 rfl (by kernel_rfl) (by decide) rfl rr) (wl_vw (iv (a.H)) 5 true 42 rfl rfl rfl rfl rfl (y_ld_stc rfl rfl Tryz.underlying3 B39 rfl rfl rr) (wl_vw (pt p20 1) 5 true 42 rfl rfl rfl rfl rfl (y_fieldR (n := 1) rfl s92 Tryz.underlying29 rfl (by kernel_rfl) (by decide) rfl rr) (wl_vw (iv (b.H)) 5 true 42 rfl rfl rfl rfl rfl (y_ld_stc rfl rfl Tryz.underlying3 B23 rfl rfl rr) (wl_vw (.bool true) 5 true 42 rfl rfl rfl rfl rfl (y_eqlI rfl rfl rfl (decide_eq_true d95) rr) ?_)))))))))))
    refine wl_v (.bool true) rfl rfl (y_pickT rfl rfl rfl rr) (wl_v (.bool true) rfl rfl (y_mov rfl rfl rr) (wl_vw (.bool false) 12 true 49 rfl rfl rfl rfl rfl (y_mov rfl s93 rr) (wl_v (.bool false) rfl rfl (y_pickT rfl rfl rfl rr) (wl_v (.bool false) rfl rfl (y_asg rfl rfl rr) (wl_nil fun F96 hF97 => ?_)))))
    have s98 := (hF97 52).trans s90
    have s99 : F96 4 = .bool false := (hF97 4).trans rfl
    clear hF97
    refine then_normal (wq_ret ?_)
    exact end_tmp (v := .bool false) s98 rfl rfl s99 ⟨(by first | rw [sameF_0 (by assumption)] | rw [sameF_1 (by assumption)] | rw [sameF_W (by assumption)] | rw [sameF_H (by assumption)] | rw [sameF_2 (by assumption) (by assumption) (by assumption) (by assumption)]), K40⟩
   ·skip
    refine wq_region (wl_v (pt p1 0) rfl rfl (y_fieldR (n := 1) rfl s91 Tryz.underlying29 rfl (by kernel_rfl) (by decide) rfl rr) (wl_v (iv (a.W)) rfl rfl (y_ld_stc rfl rfl Tryz.underlying3 B39 rfl rfl rr) (wl_v (pt p20 0) rfl rfl (y_fieldR (n := 1) rfl s92 Tryz.underlying29 rfl (by kernel_rfl) (by decide) rfl rr) (wl_v (iv (b.W)) rfl rfl (y_ld_stc rfl rfl Tryz.underlying3 B23 rfl rfl rr) (wl_v (.bool true) rfl rfl (y_eqlI rfl rfl rfl (decide_eq_true d94) rr) (wl_v (.bool true) rfl rfl (y_mov rfl rfl rr) (wl_vw (pt p1 1) 5 true 42 rfl rfl rfl rfl rfl (y_fieldR (n := 1) rfl s91 Tryz.underlying29 rfl (by kernel_rfl) (by decide) rfl rr) (wl_vw (iv (a.H)) 5 true 42 rfl rfl rfl rfl rfl (y_ld_stc rfl rfl Tryz.underlying3 B39 rfl rfl rr) (wl_vw (pt p20 1) 5 true 42 rfl rfl rfl rfl rfl (y_fieldR (n := 1) rfl s92 Tryz.underlying29 rfl (by kernel_rfl) (by decide) rfl rr) (wl_vw (iv (b.H)) 5 true 42 rfl rfl rfl rfl rfl (y_ld_stc rfl rfl Tryz.underlying3 B23 rfl rfl rr) (wl_vw (.bool false) 5 true 42 rfl rfl rfl rfl rfl (y_eqlI rfl rfl rfl (decide_eq_false d95) rr) ?_)))))))))))
    refine wl_v (.bool false) rfl rfl (y_pickT rfl rfl rfl rr) (wl_v (.bool false) rfl rfl (y_mov rfl rfl rr) (wl_unless 12 true 49 rfl rfl rfl (Or.inl rfl) rfl (wl_v (.bool false) rfl rfl (y_pickF rfl rfl rfl rr) (wl_v (.bool false) rfl rfl (y_asg rfl rfl rr) (wl_nil fun F100 hF101 => ?_)))))
    have s102 := (hF101 52).trans s90
    have s103 : F100 4 = .bool false := (hF101 4).trans rfl
    clear hF101
    refine then_normal (wq_ret ?_)
    exact end_tmp (v := .bool false) s102 rfl rfl s103 ⟨(by first | rw [sameF_0 (by assumption)] | rw [sameF_1 (by assumption)] | rw [sameF_W (by assumption)] | rw [sameF_H (by assumption)] | rw [sameF_2 (by assumption) (by assumption) (by assumption) (by assumption)]), K40⟩
  ·skip
   refine wq_region (wl_v (pt p1 0) rfl rfl (y_fieldR (n := 1) rfl s91 Tryz.underlying29 rfl (by kernel_rfl) (by decide) rfl rr) (wl_v (iv (a.W)) rfl rfl (y_ld_stc rfl rfl Tryz.underlying3 B39 rfl rfl rr) (wl_v (pt p20 0) rfl rfl (y_fieldR (n := 1) rfl s92 Tryz.underlying29 rfl (by kernel_rfl) (by decide) rfl rr) (wl_v (iv (b.W)) rfl rfl (y_ld_stc rfl rfl Tryz.underlying3 B23 rfl rfl rr) (wl_v (.bool false) rfl rfl (y_eqlI rfl rfl rfl (decide_eq_false d94) rr) (wl_v (.bool false) rfl rfl (y_mov rfl rfl rr) (wl_unless 5 true 42 rfl rfl rfl (Or.inl rfl) rfl (wl_unless 5 true 42 rfl rfl rfl (Or.inl rfl) rfl (wl_unless 5 true 42 rfl rfl rfl (Or.inl rfl) rfl (wl_unless 5 true 42 rfl rfl rfl (Or.inl rfl) rfl (wl_unless 5 true 42 rfl rfl rfl (Or.inl rfl) rfl ?_)))))))))))
   refine wl_v (.bool false) rfl rfl (y_pickF rfl rfl rfl rr) (wl_v (.bool false) rfl rfl (y_mov rfl rfl rr) (wl_unless 12 true 49 rfl rfl rfl (Or.inl rfl) rfl (wl_v (.bool false) rfl rfl (y_pickF rfl rfl rfl rr) (wl_v (.bool false) rfl rfl (y_asg rfl rfl rr) (wl_nil fun F104 hF105 => ?_)))))
   have s106 := (hF105 52).trans s90
   have s107 : F104 4 = .bool false := (hF105 4).trans rfl
   clear hF105
   refine then_normal (wq_ret ?_)
   exact end_tmp (v := .bool false) s106 rfl rfl s107 ⟨(by first | rw [sameF_0 (by assumption)] | rw [sameF_1 (by assumption)] | rw [sameF_W (by assumption)] | rw [sameF_H (by assumption)] | rw [sameF_2 (by assumption) (by assumption) (by assumption) (by assumption)]), K40⟩
end Go.Proofs.YtknjpdcpmpfklaaGreatDoor
set_option maxRecDepth 100000
namespace Go.Proofs.YtknjpdcpmpfklaaGreatDoor
open Go.RowKit
def FrmV (w : World) (v : Value) (f : FD) : Prop := ∃ (a b c : Value) (Ta Tb Tc : Nat → Prop), v = .agg #[.int .i64 f.W, .int .i64 f.H, a, b, c] ∧ Owb w Ta a f.p0 ∧ Owb w Tb b f.p1 ∧ Owb w Tc c f.p2
theorem FrmV.all {w w' : World} {v : Value} {f : FD} (h : FrmV w v f) (k : Kept (fun _ => False) w w') : FrmV w' v f := by
  obtain ⟨a, b, c, Ta, Tb, Tc, e, h1, h2, h3⟩ := h
  exact ⟨a, b, c, Ta, Tb, Tc, e, h1.all k Apart.none, h2.all k Apart.none, h3.all k Apart.none⟩
theorem Stc.apart {w : World} {p : Nat} {t : TypeId} {vs : List Value} {T : Nat → Prop} {v : Value} {l : List Nat} (h : Stc w p t vs) (ho : Owb w T v l) (ht : t ≠ 5) : Apart (onB p) T := fun i hi hT => by
  cases hi
  have hv := (ho.2 _).1 hT
  rcases ho.1.1.2 with ⟨rfl, _⟩ | ⟨g, cap, cur, rfl, _, hg, _⟩
  · cases hv
  · cases hv
    have h' := h
    unfold Stc at h'
    rw [h'] at hg
    cases hg; exact ht rfl
theorem y_alloc_stc {P : Program} {ρ : Operand → Value} {o : Oper} {w : World} {R : Value → World → Prop} {t : TypeId} {n : Nat} {vs : List Value} (ho : o.op = .alloc t) (hi : (P.info? t).map (fun i => (i.zero, i.size)) = some (some (.agg vs.toArray), n)) (h : R (.pointer (some ⟨w.heap.size, 0, none⟩)) (w.alloc (.cells vs.toArray t))) : Yields P ρ o w R :=
  y_of (v := .pointer (some ⟨w.heap.size, 0, none⟩)) (w' := w.alloc (.cells vs.toArray t)) (by simp [execOp, ho, (zero_of_info hi).1, go_sem]) h
theorem u8_mod (n : Nat) : IntKind.u8.wrap ((n : Nat) : Int) = ((n % 256 : Nat) : Int) := by
  unfold IntKind.wrap; simp [IntKind.signed, IntKind.bits]
theorem u8_small {n : Nat} (h : n < 256) : IntKind.u8.wrap ((n : Nat) : Int) = ((n : Nat) : Int) := by rw [u8_mod, Nat.mod_eq_of_lt h]
theorem flaw_frame (w h : Nat) (v : Value) (l : List Nat) (T_b : Nat → Prop) (w0 : World) (hw : w < 256) (hh : h < 256) (h_b : Byt w0 T_b v (l)) :
  Calls Tryz.prog 20 #[.int .u8 (((w : Nat) : Int)), .int .u8 (((h : Nat) : Int)), v] w0 fun e w' => ∃ (v1 : Value) (T1 : Nat → Prop) (v2 : Value) (T2 : Nat → Prop) (v3 : Value) (T3 : Nat → Prop), e = .returned (.agg #[.int .i64 ((mkF w h l).W), .int .i64 ((mkF w h l).H), v1, v2, v3]) ∧ Kept (fun _ => False) w0 w' ∧ (Owb w' T1 v1 ((mkF w h l).p0) ∧ Grew w0 noB T1) ∧ (Owb w' T2 v2 ((mkF w h l).p1) ∧ Grew w0 noB T2) ∧ (Owb w' T3 v3 ((mkF w h l).p2) ∧ Grew w0 noB T3) ∧ Apart T1 T2 ∧ Apart T1 T3 ∧ Apart T2 T3 := by
 refine calls_wq (args := [.int .u8 ((w : Nat) : Int), .int .u8 ((h : Nat) : Int), v]) 72 Tryz.func20 rfl rfl (Nat.le_of_ble_eq_true rfl) ?_
 have K0 := Kept.refl (fun _ => False) w0
 obtain ⟨A, hA⟩ : ∃ A, A = sd w := ⟨_, rfl⟩
 obtain ⟨B, hB⟩ : ∃ B, B = sd h := ⟨_, rfl⟩
 obtain ⟨N, hN⟩ : ∃ N, N = A * B := ⟨_, rfl⟩
 have hF : mkF w h l = ⟨(A : Nat), (B : Nat), smps l 0 N, smps l 1 (N / 4), smps l 2 (N / 4)⟩ := by rw [hN, hA, hB]; rfl
 have hA2 : A = 8 * (1 + w % 3) := hA
 have hB2 : B = 8 * (1 + h % 3) := hB
 have hN2 : N ≤ 24 * 24 := by rw [hN]; exact Nat.mul_le_mul (by omega) (by omega)
 have g_b := Grew.refl w0 T_b
 refine wq_seq (wq_region (wl_alloc_stc (n := 5) (vs := [iv 0, iv 0, .slice none 0 0, .slice none 0 0, .slice none 0 0]) rfl rfl rfl (by kernel_rfl) fun p1 w2 B4 g5 k3 => ?_))
 have gr6 : Grew w0 noB (onB p1) := Grew.new K0 g5
 have B8 := h_b.all k3 Apart.none
 have K9 := K0.tr k3
 refine wl_nil fun F10 hF11 => ?_
 have s12 : F10 0 = .int .u8 ((w : Nat) : Int) := (hF11 0).trans rfl
 have s13 : F10 1 = .int .u8 ((h : Nat) : Int) := (hF11 1).trans rfl
 have s14 : F10 2 = v := (hF11 2).trans rfl
 have s15 : F10 72 = undef := (hF11 72).trans rfl
 have s16 : F10 6 = pt p1 0 := (hF11 6).trans rfl
 clear hF11
 refine then_normal (wq_seq (wq_region (wl_mv rfl rfl rfl s12 (wl_v (iv ((w : Nat) : Int)) rfl rfl (y_convR rfl rfl Tryz.underlying5 Tryz.underlying3 (i64_i rfl (by omega)) rr) (wl_v (iv (((w % 3) : Nat) : Int)) rfl rfl (y_rem rfl rfl rfl (by first | decide | omega) (rem_nat w 3) rr) (wl_v (iv ((1 + (w % 3) : Nat) : Int)) rfl rfl (y_add rfl rfl rfl (i64_n (by omega) (by omega)) rr) (wl_v (iv ((A : Nat) : Int)) rfl rfl (y_mul rfl rfl rfl (i64_n (by omega) (by omega)) rr) (wl_mv rfl rfl rfl s13 (wl_v (iv ((h : Nat) : Int)) rfl rfl (y_convR rfl rfl Tryz.underlying5 Tryz.underlying3 (i64_i rfl (by omega)) rr) (wl_v (iv (((h % 3) : Nat) : Int)) rfl rfl (y_rem rfl rfl rfl (by first | decide | omega) (rem_nat h 3) rr) (wl_v (iv ((1 + (h % 3) : Nat) : Int)) rfl rfl (y_add rfl rfl rfl (i64_n (by omega) (by omega)) rr) ?_)))))))))))
 refine wl_v (iv ((B : Nat) : Int)) rfl rfl (y_mul rfl rfl rfl (i64_n (by omega) (by omega)) rr) (wl_v (.agg #[iv ((A : Nat) : Int), iv ((B : Nat) : Int), .slice none 0 0, .slice none 0 0, .slice none 0 0]) rfl rfl (y_buildL (l' := [(0, iv ((A : Nat) : Int)), (1, iv ((B : Nat) : Int))]) (cells := #[iv ((A : Nat) : Int), iv ((B : Nat) : Int), .slice none 0 0, .slice none 0 0, .slice none 0 0]) rfl (bpC rfl (bpC rfl bpN)) (by kernel_rfl) rfl rr) (wl_alloc_stc (n := 5) (vs := [iv 0, iv 0, .slice none 0 0, .slice none 0 0, .slice none 0 0]) rfl rfl rfl (by kernel_rfl) fun p17 w18 B20 g21 k19 => ?_))
 have gr22 : Grew w0 noB (onB p17) := Grew.new K9 g21
 have ap23 : Apart (onB p17) T_b := Apart.new g21 B8.live
 have ap24 : Apart (onB p17) (onB p1) := Apart.new g21 (onB_live B4.lt)
 have B25 := B8.all k19 Apart.none
 have B26 := B4.all k19 id
 have K27 := K9.tr k19
 refine wl_store_stc (us := [iv ((A : Nat) : Int), iv ((B : Nat) : Int), .slice none 0 0, .slice none 0 0, .slice none 0 0]) stcT_frame rfl rfl rfl rfl rfl B20 rfl (oneI rfl (oneI rfl (oneI rfl (oneI rfl (oneI rfl oneN))))) fun w28 B29 k30 => ?_
 have B31 := B25.all k30 ap23.symm
 have B32 := B26.all k30 (ap24.symm p1 rfl)
 have K33 := K27.trans k30 (Grew.ok (S := fun _ => False) gr22 noB_le)
 refine wl_nil fun F34 hF35 => ?_
 obtain ⟨s36, s37, s38⟩ := t3 hF35 2 s14 72 s15 6 s16
 have s39 : F34 7 = pt p17 0 := (hF35 7).trans rfl
 clear hF35
 refine then_normal (wq_seq (wq_seq (wq_region (wl_v (iv 0) rfl rfl (y_asg rfl rfl rr) (wl_nil fun F40 hF41 => ?_)))))
 obtain ⟨s42, s43, s44, s45⟩ := t4 hF41 2 s36 72 s37 6 s38 7 s39
 have s46 : F40 8 = iv 0 := (hF41 8).trans rfl
 clear hF41
 refine then_normal (wq_block (wq_rounds 4 (wqr_step (wq_seq (wq_seq (wq_region (wl_mv rfl rfl rfl s46 (wl_v (.bool true) rfl rfl (y_lss rfl rfl rfl rfl rr) (wl_nil fun F47 hF48 => ?_)))))))))
 obtain ⟨s49, s50, s51, s52, s53⟩ := t5 hF48 2 s42 72 s43 6 s44 7 s45 8 s46
 have s54 : F47 24 = .bool true := (hF48 24).trans rfl
 clear hF48
 refine then_normal ?_
 refine wq_cond (t := true) s54 (fun _ => ?_) (fun e => by cases e)
 refine wq_skip (then_normal (wq_seq (wq_block (wq_seq (wq_region (wl_v (pt p17 0) rfl rfl (y_fieldR (n := 1) rfl s52 Tryz.underlying29 rfl (by kernel_rfl) (by decide) rfl rr) (wl_v (iv ((A : Nat) : Int)) rfl rfl (y_ld_stc rfl rfl Tryz.underlying3 B29 rfl rfl rr) (wl_v (pt p17 1) rfl rfl (y_fieldR (n := 1) rfl s52 Tryz.underlying29 rfl (by kernel_rfl) (by decide) rfl rr) (wl_v (iv ((B : Nat) : Int)) rfl rfl (y_ld_stc rfl rfl Tryz.underlying3 B29 rfl rfl rr) (wl_v (iv ((N : Nat) : Int)) rfl rfl (y_mul rfl rfl rfl (i64_n (by rw [hN, Int.natCast_mul]) (by omega)) rr) (wl_v (iv ((N : Nat) : Int)) rfl rfl (y_asg rfl rfl rr) ?_)))))))))))
 refine wl_nil fun F55 hF56 => ?_
 obtain ⟨s57, s58, s59, s60, s61⟩ := t5 hF56 2 s49 72 s50 6 s51 7 s52 8 s53
 have s62 : F55 9 = iv ((N : Nat) : Int) := (hF56 9).trans rfl
 clear hF56
 refine then_normal (wq_seq (wq_seq (wq_region (wl_mv rfl rfl rfl s61 (wl_v (.bool false) rfl rfl (y_gtr rfl rfl rfl rfl rr) (wl_nil fun F63 hF64 => ?_))))))
 obtain ⟨s65, s66, s67, s68, s69, s70⟩ := t6 hF64 2 s57 72 s58 6 s59 7 s60 8 s61 9 s62
 have s71 : F63 33 = .bool false := (hF64 33).trans rfl
 clear hF64
 refine then_normal ?_
 refine wq_cond (t := false) s71 (fun e => by cases e) (fun _ => ?_)
 refine wq_skip (then_normal (wq_seq ?_))
 have hpn := pn_le N 0
 have s72 : F63 9 = iv (((pn N 0) : Nat) : Int) := s70.trans (congrArg (Value.int .i64) rfl)
 refine wq_region (wl_v (iv 0) rfl rfl (y_asg rfl rfl rr) (wl_nil fun F73 hF74 => ?_))
 obtain ⟨s75, s76, s77, s78, s79, s80⟩ := t6 hF74 2 s65 72 s66 6 s67 7 s68 8 s69 9 s72
 have s81 : F73 10 = iv 0 := (hF74 10).trans rfl
 clear hF74
 refine then_normal (wq_block (wq_loop (fun nn FF ww => ∃ (i : Nat), ∃ (q0 : Value), ∃ (T82 : Nat → Prop), (i ≤ (pn N 0)) ∧ nn = (pn N 0) - i ∧ FF 2 = v ∧ FF 6 = pt p1 0 ∧ FF 7 = pt p17 0 ∧ FF 8 = iv 0 ∧ FF 9 = iv (((pn N 0) : Nat) : Int) ∧ FF 72 = undef ∧ FF 10 = iv ((i : Nat) : Int) ∧ Kept (fun _ => False) w0 ww ∧ Byt ww T_b v l ∧ Stc ww p1 29 [iv 0, iv 0, .slice none 0 0, .slice none 0 0, .slice none 0 0] ∧ Stc ww p17 29 [iv ((A : Nat) : Int), iv ((B : Nat) : Int), q0, .slice none 0 0, .slice none 0 0] ∧ Owb ww T82 q0 (smps l 0 i) ∧ Grew w0 noB T82 ∧ Apart T82 T_b ∧ Apart T82 (onB p1) ∧ Apart T82 (onB p17)) ((pn N 0) - 0) ⟨0, (.slice none 0 0), noB, by omega, rfl, s75, s77, s78, s79, s80, s76, s81, K33, B31, B32, B29, (Owb.nil _), (Grew.refl _ _), Apart.none.symm, Apart.none.symm, Apart.none.symm⟩ ?_))
 rintro n86 F83 w84 ⟨i, q0, T82, i87, hn86, s88, s89, s90, s91, s92, s93, s94, K85, B95, B96, B97, B98, gr99, ap100, ap101, ap102⟩
 refine wq_seq (wq_seq (wq_region (wl_mv rfl rfl rfl s94 (wl_mv rfl rfl rfl s92 (wl_v (.bool (decide (((i : Nat) : Int) < (((pn N 0) : Nat) : Int)))) rfl rfl (y_lss rfl rfl rfl rfl rr) (wl_nil fun F103 hF104 => ?_))))))
 obtain ⟨s105, s106, s107, s108, s109, s110, s111⟩ := t7 hF104 2 s88 6 s89 7 s90 8 s91 9 s92 72 s93 10 s94
 have s112 : F103 38 = .bool (decide (((i : Nat) : Int) < (((pn N 0) : Nat) : Int))) := (hF104 38).trans rfl
 clear hF104
 refine then_normal ?_
 refine wq_cond s112 (fun c113 => ?_) (fun c113 => ?_)
 ·replace c113 := of_decide_eq_true c113
  refine wq_skip (then_normal (wq_seq (wq_block (wq_seq (wq_region (wl_mv rfl rfl rfl s111 (wl_v (iv ((i * 3 : Nat) : Int)) rfl rfl (y_mul rfl rfl rfl (i64_n (by omega) (by omega)) rr) (wl_v (.int .u8 (((i * 3 % 256) : Nat) : Int)) rfl rfl (y_convR rfl rfl Tryz.underlying3 Tryz.underlying5 (u8_mod (i * 3)) rr) (wl_v (.int .u8 (((i * 3 % 256) : Nat) : Int)) rfl rfl (y_asg rfl rfl rr) (wl_nil fun F114 hF115 => ?_))))))))))
  obtain ⟨s116, s117, s118, s119, s120, s121, s122⟩ := t7 hF115 2 s105 6 s106 7 s107 8 s108 9 s109 72 s110 10 s111
  have s123 : F114 11 = .int .u8 (((i * 3 % 256) : Nat) : Int) := (hF115 11).trans rfl
  clear hF115
  refine then_normal (wq_seq (wq_seq (wq_region (wl_mv rfl rfl rfl s116 (wl_v (iv ((l.length : Nat) : Int)) rfl rfl (y_lenV rfl rfl rfl B95 rr) (wl_v (.bool (decide (0 < ((l.length : Nat) : Int)))) rfl rfl (y_gtr rfl rfl rfl rfl rr) (wl_nil fun F124 hF125 => ?_)))))))
  obtain ⟨s126, s127, s128, s129, s130, s131, s132, s133⟩ := t8 hF125 2 s116 6 s117 7 s118 8 s119 9 s120 72 s121 10 s122 11 s123
  have s134 : F124 46 = .bool (decide (0 < ((l.length : Nat) : Int))) := (hF125 46).trans rfl
  clear hF125
  refine then_normal ?_
  refine wq_cond s134 (fun c135 => ?_) (fun c135 => ?_)
  ·replace c135 := of_decide_eq_true c135
   refine wq_region (wl_mv rfl rfl rfl s126 (wl_mv rfl rfl rfl s132 (wl_mv rfl rfl rfl s129 (wl_v (iv ((0 : Nat) : Int)) rfl rfl (y_mul rfl rfl rfl (i64_n (by omega) (by omega)) rr) (wl_v (iv ((i + 0 : Nat) : Int)) rfl rfl (y_add rfl rfl rfl (i64_n (by omega) (by omega)) rr) (wl_mv rfl rfl rfl s126 (wl_v (iv ((l.length : Nat) : Int)) rfl rfl (y_lenV rfl rfl rfl B95 rr) (wl_v (iv ((((i + 7 * 0) % l.length) : Nat) : Int)) rfl rfl (y_rem rfl rfl rfl (by first | decide | omega) (rem_nat (i + 7 * 0) l.length) rr) (wl_v (bytAddr v ((i + 7 * 0) % l.length)) rfl rfl (y_atB ((i + 7 * 0) % l.length) rfl rfl rfl (by omega) B95 (Nat.mod_lt _ (by omega)) rr) ?_)))))))))
   have u136 := getD_lt B95.lt256 ((i + 7 * 0) % l.length)
   refine wl_v (.int .u8 ((l.getD ((i + 7 * 0) % l.length) 0 : Nat) : Int)) rfl rfl (y_ldB rfl rfl B95 (Nat.mod_lt _ (by omega)) rr) (wl_mv rfl rfl rfl s132 (wl_v (iv (((i / 16) : Nat) : Int)) rfl rfl (y_quo rfl rfl rfl (by first | decide | omega) (i64_n (quo_nat i 16) (by omega)) rr) (wl_v (.int .u8 (((i / 16) : Nat) : Int)) rfl rfl (y_convR rfl rfl Tryz.underlying3 Tryz.underlying5 (u8_small (by omega)) rr) (wl_v (.int .u8 ((smp l 0 i : Nat) : Int)) rfl rfl (y_add rfl rfl rfl (by rw [smp_some (by omega)]; exact u8_mod _) rr) (wl_v (.int .u8 ((smp l 0 i : Nat) : Int)) rfl rfl (y_asg rfl rfl rr) (wl_nil fun F137 hF138 => ?_))))))
   obtain ⟨s139, s140, s141, s142, s143, s144, s145⟩ := t7 hF138 2 s126 6 s127 7 s128 8 s129 9 s130 72 s131 10 s132
   have s146 : F137 11 = .int .u8 ((smp l 0 i : Nat) : Int) := (hF138 11).trans rfl
   clear hF138
   refine then_normal ?_
   have hsm := smp_lt l 0 i
   have hsl := smps_length l 0 i
   refine wq_region (wl_mv rfl rfl rfl s142 (wl_mv rfl rfl rfl s142 (wl_v (pt p17 2) rfl rfl (y_fieldR (n := 3) rfl s141 Tryz.underlying29 rfl (by kernel_rfl) (by decide) rfl rr) (wl_v (pt p17 2) rfl rfl (y_atR 0 (s := 1) rfl rfl rfl (by omega) Tryz.underlying27 (by omega) (by kernel_rfl) (by omega) rr) (wl_v q0 rfl rfl (y_ld_stc rfl rfl Tryz.underlying26 B97 rfl rfl rr) (wl_mv rfl rfl rfl s146 (wl_builtB1 (n := smp l 0 i) rfl rfl rfl rfl (by omega) (by omega) fun v147 w148 T152 B150 g151 k149 => ?_)))))))
   have B158 := B95.all k149 Apart.none
   have B159 := B96.all k149 id
   have B160 := B97.all k149 id
   have B161 := B98.all k149 Apart.none
   have K162 := K85.tr k149
   refine wl_appendB rfl rfl rfl rfl rfl rfl B161 B150.byt (by first | omega | (simp; done) | (simp; omega)) fun v163 w164 T168 B166 g167 k165 => ?_
   have gr169 := Grew.trans gr99 K162 g167
   have ap170 : Apart T168 T_b := ap100.grew g167 B158.live
   have ap171 : Apart T168 (onB p1) := ap101.grew g167 (onB_live B159.lt)
   have ap172 : Apart T168 (onB p17) := ap102.grew g167 (onB_live B160.lt)
   have B174 := B158.all k165 ap100.symm
   have B175 := B159.all k165 (ap101.symm p1 rfl)
   have B176 := B160.all k165 (ap102.symm p17 rfl)
   have K178 := K162.trans k165 (Grew.ok (S := fun _ => False) gr99 noB_le)
   refine wl_v (pt p17 2) rfl rfl (y_fieldR (n := 3) rfl s141 Tryz.underlying29 rfl (by kernel_rfl) (by decide) rfl rr) (wl_v (pt p17 2) rfl rfl (y_atR 0 (s := 1) rfl rfl rfl (by omega) Tryz.underlying27 (by omega) (by kernel_rfl) (by omega) rr) (wl_set_stc rfl rfl rfl rfl rfl B176 rfl B166.oneC (by kernel_rfl) fun w179 B180 k181 => ?_))
   replace B180 : Stc w179 p17 29 [iv ((A : Nat) : Int), iv ((B : Nat) : Int), v163, .slice none 0 0, .slice none 0 0] := B180
   have B182 := B174.all k181 ap23.symm
   have B183 := B175.all k181 (ap24.symm p1 rfl)
   have B185 := B166.all k181 ap172
   have K186 := K178.trans k181 (Grew.ok (S := fun _ => False) gr22 noB_le)
   refine wl_nil fun F187 hF188 => ?_
   obtain ⟨s189, s190, s191, s192, s193, s194, s195⟩ := t7 hF188 2 s139 6 s140 7 s141 8 s142 9 s143 72 s144 10 s145
   clear hF188
   refine in_normal (then_normal (wq_region (wl_mv rfl rfl rfl s195 (wl_v (iv ((i + 1 : Nat) : Int)) rfl rfl (y_add rfl rfl rfl (i64_n (by omega) (by omega)) rr) (wl_v (iv ((i + 1 : Nat) : Int)) rfl rfl (y_asg rfl rfl rr) (wl_nil fun F196 hF197 => ?_))))))
   obtain ⟨s198, s199, s200, s201, s202, s203⟩ := t6 hF197 2 s189 6 s190 7 s191 8 s192 9 s193 72 s194
   have s204 : F196 10 = iv ((i + 1 : Nat) : Int) := (hF197 10).trans rfl
   clear hF197
   exact then_normal ⟨((pn N 0) - (i + 1)), by omega, i + 1, v163, T168, by omega, rfl, s198, s199, s200, s201, s202, s203, s204, K186, B182, B183, B180, (by rw [smps_succ]; exact B185), gr169, ap170, ap171, ap172⟩
  ·replace c135 := of_decide_eq_false c135
   refine wq_skip (then_normal ?_)
   have hsm := smp_lt l 0 i
   have hsl := smps_length l 0 i
   have s205 : F124 11 = .int .u8 ((smp l 0 i : Nat) : Int) := s133.trans (congrArg (Value.int .u8) (by rw [smp_none (by omega)]))
   refine wq_region (wl_mv rfl rfl rfl s129 (wl_mv rfl rfl rfl s129 (wl_v (pt p17 2) rfl rfl (y_fieldR (n := 3) rfl s128 Tryz.underlying29 rfl (by kernel_rfl) (by decide) rfl rr) (wl_v (pt p17 2) rfl rfl (y_atR 0 (s := 1) rfl rfl rfl (by omega) Tryz.underlying27 (by omega) (by kernel_rfl) (by omega) rr) (wl_v q0 rfl rfl (y_ld_stc rfl rfl Tryz.underlying26 B97 rfl rfl rr) (wl_mv rfl rfl rfl s205 (wl_builtB1 (n := smp l 0 i) rfl rfl rfl rfl (by omega) (by omega) fun v206 w207 T211 B209 g210 k208 => ?_)))))))
   have B217 := B95.all k208 Apart.none
   have B218 := B96.all k208 id
   have B219 := B97.all k208 id
   have B220 := B98.all k208 Apart.none
   have K221 := K85.tr k208
   refine wl_appendB rfl rfl rfl rfl rfl rfl B220 B209.byt (by first | omega | (simp; done) | (simp; omega)) fun v222 w223 T227 B225 g226 k224 => ?_
   have gr228 := Grew.trans gr99 K221 g226
   have ap229 : Apart T227 T_b := ap100.grew g226 B217.live
   have ap230 : Apart T227 (onB p1) := ap101.grew g226 (onB_live B218.lt)
   have ap231 : Apart T227 (onB p17) := ap102.grew g226 (onB_live B219.lt)
   have B233 := B217.all k224 ap100.symm
   have B234 := B218.all k224 (ap101.symm p1 rfl)
   have B235 := B219.all k224 (ap102.symm p17 rfl)
   have K237 := K221.trans k224 (Grew.ok (S := fun _ => False) gr99 noB_le)
   refine wl_v (pt p17 2) rfl rfl (y_fieldR (n := 3) rfl s128 Tryz.underlying29 rfl (by kernel_rfl) (by decide) rfl rr) (wl_v (pt p17 2) rfl rfl (y_atR 0 (s := 1) rfl rfl rfl (by omega) Tryz.underlying27 (by omega) (by kernel_rfl) (by omega) rr) (wl_set_stc rfl rfl rfl rfl rfl B235 rfl B225.oneC (by kernel_rfl) fun w238 B239 k240 => ?_))
   replace B239 : Stc w238 p17 29 [iv ((A : Nat) : Int), iv ((B : Nat) : Int), v222, .slice none 0 0, .slice none 0 0] := B239
   have B241 := B233.all k240 ap23.symm
   have B242 := B234.all k240 (ap24.symm p1 rfl)
   have B244 := B225.all k240 ap231
   have K245 := K237.trans k240 (Grew.ok (S := fun _ => False) gr22 noB_le)
   refine wl_nil fun F246 hF247 => ?_
   obtain ⟨s248, s249, s250, s251, s252, s253, s254⟩ := t7 hF247 2 s126 6 s127 7 s128 8 s129 9 s130 72 s131 10 s132
   clear hF247
   refine in_normal (then_normal (wq_region (wl_mv rfl rfl rfl s254 (wl_v (iv ((i + 1 : Nat) : Int)) rfl rfl (y_add rfl rfl rfl (i64_n (by omega) (by omega)) rr) (wl_v (iv ((i + 1 : Nat) : Int)) rfl rfl (y_asg rfl rfl rr) (wl_nil fun F255 hF256 => ?_))))))
   obtain ⟨s257, s258, s259, s260, s261, s262⟩ := t6 hF256 2 s248 6 s249 7 s250 8 s251 9 s252 72 s253
   have s263 : F255 10 = iv ((i + 1 : Nat) : Int) := (hF256 10).trans rfl
   clear hF256
   exact then_normal ⟨((pn N 0) - (i + 1)), by omega, i + 1, v222, T227, by omega, rfl, s257, s258, s259, s260, s261, s262, s263, K245, B241, B242, B239, (by rw [smps_succ]; exact B244), gr228, ap229, ap230, ap231⟩
 ·replace c113 := of_decide_eq_false c113
  refine wq_exit (then_exit (then_exit ?_))
  have l264 : (pn N 0) = i := by omega
  subst l264
  refine in_here (in_normal (then_normal (wq_region (wl_mv rfl rfl rfl s108 (wl_v (iv ((1 : Nat) : Int)) rfl rfl (y_add rfl rfl rfl (i64_n (by omega) (by omega)) rr) (wl_v (iv ((1 : Nat) : Int)) rfl rfl (y_asg rfl rfl rr) (wl_nil fun F265 hF266 => ?_)))))))
  obtain ⟨s267, s268, s269, s270⟩ := t4 hF266 2 s105 6 s106 7 s107 72 s110
  have s271 : F265 8 = iv ((1 : Nat) : Int) := (hF266 8).trans rfl
  clear hF266
  refine then_normal (wqr_step (wq_seq (wq_seq (wq_region (wl_mv rfl rfl rfl s271 (wl_v (.bool true) rfl rfl (y_lss rfl rfl rfl rfl rr) (wl_nil fun F272 hF273 => ?_)))))))
  obtain ⟨s274, s275, s276, s277, s278⟩ := t5 hF273 2 s267 6 s268 7 s269 72 s270 8 s271
  have s279 : F272 24 = .bool true := (hF273 24).trans rfl
  clear hF273
  refine then_normal ?_
  refine wq_cond (t := true) s279 (fun _ => ?_) (fun e => by cases e)
  refine wq_skip (then_normal (wq_seq (wq_block (wq_seq (wq_region (wl_v (pt p17 0) rfl rfl (y_fieldR (n := 1) rfl s276 Tryz.underlying29 rfl (by kernel_rfl) (by decide) rfl rr) (wl_v (iv ((A : Nat) : Int)) rfl rfl (y_ld_stc rfl rfl Tryz.underlying3 B97 rfl rfl rr) (wl_v (pt p17 1) rfl rfl (y_fieldR (n := 1) rfl s276 Tryz.underlying29 rfl (by kernel_rfl) (by decide) rfl rr) (wl_v (iv ((B : Nat) : Int)) rfl rfl (y_ld_stc rfl rfl Tryz.underlying3 B97 rfl rfl rr) (wl_v (iv ((N : Nat) : Int)) rfl rfl (y_mul rfl rfl rfl (i64_n (by rw [hN, Int.natCast_mul]) (by omega)) rr) (wl_v (iv ((N : Nat) : Int)) rfl rfl (y_asg rfl rfl rr) ?_)))))))))))
  refine wl_nil fun F280 hF281 => ?_
  obtain ⟨s282, s283, s284, s285, s286⟩ := t5 hF281 2 s274 6 s275 7 s276 72 s277 8 s278
  have s287 : F280 9 = iv ((N : Nat) : Int) := (hF281 9).trans rfl
  clear hF281
  refine then_normal (wq_seq (wq_seq (wq_region (wl_mv rfl rfl rfl s286 (wl_v (.bool true) rfl rfl (y_gtr rfl rfl rfl rfl rr) (wl_nil fun F288 hF289 => ?_))))))
  obtain ⟨s290, s291, s292, s293, s294, s295⟩ := t6 hF289 2 s282 6 s283 7 s284 72 s285 8 s286 9 s287
  have s296 : F288 33 = .bool true := (hF289 33).trans rfl
  clear hF289
  refine then_normal ?_
  refine wq_cond (t := true) s296 (fun _ => ?_) (fun e => by cases e)
  refine wq_region (wl_mv rfl rfl rfl s295 (wl_v (iv (((N / 4) : Nat) : Int)) rfl rfl (y_quo rfl rfl rfl (by first | decide | omega) (i64_n (quo_nat N 4) (by omega)) rr) (wl_v (iv (((N / 4) : Nat) : Int)) rfl rfl (y_asg rfl rfl rr) (wl_nil fun F297 hF298 => ?_))))
  obtain ⟨s299, s300, s301, s302, s303⟩ := t5 hF298 2 s290 6 s291 7 s292 72 s293 8 s294
  have s304 : F297 9 = iv (((N / 4) : Nat) : Int) := (hF298 9).trans rfl
  clear hF298
  refine then_normal (wq_seq ?_)
  have hpn := pn_le N 1
  have s305 : F297 9 = iv (((pn N 1) : Nat) : Int) := s304.trans (congrArg (Value.int .i64) rfl)
  refine wq_region (wl_v (iv 0) rfl rfl (y_asg rfl rfl rr) (wl_nil fun F306 hF307 => ?_))
  obtain ⟨s308, s309, s310, s311, s312, s313⟩ := t6 hF307 2 s299 6 s300 7 s301 72 s302 8 s303 9 s305
  have s314 : F306 10 = iv 0 := (hF307 10).trans rfl
  clear hF307
  refine then_normal (wq_block (wq_loop (fun nn FF ww => ∃ (i : Nat), ∃ (q1 : Value), ∃ (T315 : Nat → Prop), (i ≤ (pn N 1)) ∧ nn = (pn N 1) - i ∧ FF 2 = v ∧ FF 6 = pt p1 0 ∧ FF 7 = pt p17 0 ∧ FF 8 = iv ((1 : Nat) : Int) ∧ FF 9 = iv (((pn N 1) : Nat) : Int) ∧ FF 72 = undef ∧ FF 10 = iv ((i : Nat) : Int) ∧ Kept (fun _ => False) w0 ww ∧ Byt ww T_b v l ∧ Stc ww p1 29 [iv 0, iv 0, .slice none 0 0, .slice none 0 0, .slice none 0 0] ∧ Stc ww p17 29 [iv ((A : Nat) : Int), iv ((B : Nat) : Int), q0, q1, .slice none 0 0] ∧ Owb ww T82 q0 (smps l 0 (pn N 0)) ∧ Owb ww T315 q1 (smps l 1 i) ∧ Grew w0 noB T315 ∧ Apart T315 T_b ∧ Apart T315 (onB p1) ∧ Apart T315 (onB p17) ∧ Apart T315 T82) ((pn N 1) - 0) ⟨0, (.slice none 0 0), noB, by omega, rfl, s308, s309, s310, s312, s313, s311, s314, K85, B95, B96, B97, B98, (Owb.nil _), (Grew.refl _ _), Apart.none.symm, Apart.none.symm, Apart.none.symm, Apart.none.symm⟩ ?_))
  rintro n319 F316 w317 ⟨i, q1, T315, i320, hn319, s321, s322, s323, s324, s325, s326, s327, K318, B328, B329, B330, B331, B332, gr333, ap334, ap335, ap336, ap337⟩
  refine wq_seq (wq_seq (wq_region (wl_mv rfl rfl rfl s327 (wl_mv rfl rfl rfl s325 (wl_v (.bool (decide (((i : Nat) : Int) < (((pn N 1) : Nat) : Int)))) rfl rfl (y_lss rfl rfl rfl rfl rr) (wl_nil fun F338 hF339 => ?_))))))
  obtain ⟨s340, s341, s342, s343, s344, s345, s346⟩ := t7 hF339 2 s321 6 s322 7 s323 8 s324 9 s325 72 s326 10 s327
  have s347 : F338 38 = .bool (decide (((i : Nat) : Int) < (((pn N 1) : Nat) : Int))) := (hF339 38).trans rfl
  clear hF339
  refine then_normal ?_
  refine wq_cond s347 (fun c348 => ?_) (fun c348 => ?_)
  ·replace c348 := of_decide_eq_true c348
   refine wq_skip (then_normal (wq_seq (wq_block (wq_seq (wq_region (wl_mv rfl rfl rfl s346 (wl_v (iv ((i * 3 : Nat) : Int)) rfl rfl (y_mul rfl rfl rfl (i64_n (by omega) (by omega)) rr) (wl_v (.int .u8 (((i * 3 % 256) : Nat) : Int)) rfl rfl (y_convR rfl rfl Tryz.underlying3 Tryz.underlying5 (u8_mod (i * 3)) rr) (wl_v (.int .u8 (((i * 3 % 256) : Nat) : Int)) rfl rfl (y_asg rfl rfl rr) (wl_nil fun F349 hF350 => ?_))))))))))
   obtain ⟨s351, s352, s353, s354, s355, s356, s357⟩ := t7 hF350 2 s340 6 s341 7 s342 8 s343 9 s344 72 s345 10 s346
   have s358 : F349 11 = .int .u8 (((i * 3 % 256) : Nat) : Int) := (hF350 11).trans rfl
   clear hF350
   refine then_normal (wq_seq (wq_seq (wq_region (wl_mv rfl rfl rfl s351 (wl_v (iv ((l.length : Nat) : Int)) rfl rfl (y_lenV rfl rfl rfl B328 rr) (wl_v (.bool (decide (0 < ((l.length : Nat) : Int)))) rfl rfl (y_gtr rfl rfl rfl rfl rr) (wl_nil fun F359 hF360 => ?_)))))))
   obtain ⟨s361, s362, s363, s364, s365, s366, s367, s368⟩ := t8 hF360 2 s351 6 s352 7 s353 8 s354 9 s355 72 s356 10 s357 11 s358
   have s369 : F359 46 = .bool (decide (0 < ((l.length : Nat) : Int))) := (hF360 46).trans rfl
   clear hF360
   refine then_normal ?_
   refine wq_cond s369 (fun c370 => ?_) (fun c370 => ?_)
   ·replace c370 := of_decide_eq_true c370
    refine wq_region (wl_mv rfl rfl rfl s361 (wl_mv rfl rfl rfl s367 (wl_mv rfl rfl rfl s364 (wl_v (iv ((7 : Nat) : Int)) rfl rfl (y_mul rfl rfl rfl (i64_n (by omega) (by omega)) rr) (wl_v (iv ((i + 7 : Nat) : Int)) rfl rfl (y_add rfl rfl rfl (i64_n (by omega) (by omega)) rr) (wl_mv rfl rfl rfl s361 (wl_v (iv ((l.length : Nat) : Int)) rfl rfl (y_lenV rfl rfl rfl B328 rr) (wl_v (iv ((((i + 7 * 1) % l.length) : Nat) : Int)) rfl rfl (y_rem rfl rfl rfl (by first | decide | omega) (rem_nat (i + 7 * 1) l.length) rr) (wl_v (bytAddr v ((i + 7 * 1) % l.length)) rfl rfl (y_atB ((i + 7 * 1) % l.length) rfl rfl rfl (by omega) B328 (Nat.mod_lt _ (by omega)) rr) ?_)))))))))
    have u371 := getD_lt B328.lt256 ((i + 7 * 1) % l.length)
    refine wl_v (.int .u8 ((l.getD ((i + 7 * 1) % l.length) 0 : Nat) : Int)) rfl rfl (y_ldB rfl rfl B328 (Nat.mod_lt _ (by omega)) rr) (wl_mv rfl rfl rfl s367 (wl_v (iv (((i / 16) : Nat) : Int)) rfl rfl (y_quo rfl rfl rfl (by first | decide | omega) (i64_n (quo_nat i 16) (by omega)) rr) (wl_v (.int .u8 (((i / 16) : Nat) : Int)) rfl rfl (y_convR rfl rfl Tryz.underlying3 Tryz.underlying5 (u8_small (by omega)) rr) (wl_v (.int .u8 ((smp l 1 i : Nat) : Int)) rfl rfl (y_add rfl rfl rfl (by rw [smp_some (by omega)]; exact u8_mod _) rr) (wl_v (.int .u8 ((smp l 1 i : Nat) : Int)) rfl rfl (y_asg rfl rfl rr) (wl_nil fun F372 hF373 => ?_))))))
    obtain ⟨s374, s375, s376, s377, s378, s379, s380⟩ := t7 hF373 2 s361 6 s362 7 s363 8 s364 9 s365 72 s366 10 s367
    have s381 : F372 11 = .int .u8 ((smp l 1 i : Nat) : Int) := (hF373 11).trans rfl
    clear hF373
    refine then_normal ?_
    have hsm := smp_lt l 1 i
    have hsl := smps_length l 1 i
    refine wq_region (wl_mv rfl rfl rfl s377 (wl_mv rfl rfl rfl s377 (wl_v (pt p17 2) rfl rfl (y_fieldR (n := 3) rfl s376 Tryz.underlying29 rfl (by kernel_rfl) (by decide) rfl rr) (wl_v (pt p17 3) rfl rfl (y_atR 1 (s := 1) rfl rfl rfl (by omega) Tryz.underlying27 (by omega) (by kernel_rfl) (by omega) rr) (wl_v q1 rfl rfl (y_ld_stc rfl rfl Tryz.underlying26 B330 rfl rfl rr) (wl_mv rfl rfl rfl s381 (wl_builtB1 (n := smp l 1 i) rfl rfl rfl rfl (by omega) (by omega) fun v382 w383 T387 B385 g386 k384 => ?_)))))))
    have B394 := B328.all k384 Apart.none
    have B395 := B329.all k384 id
    have B396 := B330.all k384 id
    have B397 := B331.all k384 Apart.none
    have B398 := B332.all k384 Apart.none
    have K399 := K318.tr k384
    refine wl_appendB rfl rfl rfl rfl rfl rfl B398 B385.byt (by first | omega | (simp; done) | (simp; omega)) fun v400 w401 T405 B403 g404 k402 => ?_
    have gr406 := Grew.trans gr333 K399 g404
    have ap407 : Apart T405 T_b := ap334.grew g404 B394.live
    have ap408 : Apart T405 (onB p1) := ap335.grew g404 (onB_live B395.lt)
    have ap409 : Apart T405 (onB p17) := ap336.grew g404 (onB_live B396.lt)
    have ap410 : Apart T405 T82 := ap337.grew g404 B397.live
    have B412 := B394.all k402 ap334.symm
    have B413 := B395.all k402 (ap335.symm p1 rfl)
    have B414 := B396.all k402 (ap336.symm p17 rfl)
    have B415 := B397.all k402 ap337.symm
    have K417 := K399.trans k402 (Grew.ok (S := fun _ => False) gr333 noB_le)
    refine wl_v (pt p17 2) rfl rfl (y_fieldR (n := 3) rfl s376 Tryz.underlying29 rfl (by kernel_rfl) (by decide) rfl rr) (wl_v (pt p17 3) rfl rfl (y_atR 1 (s := 1) rfl rfl rfl (by omega) Tryz.underlying27 (by omega) (by kernel_rfl) (by omega) rr) (wl_set_stc rfl rfl rfl rfl rfl B414 rfl B403.oneC (by kernel_rfl) fun w418 B419 k420 => ?_))
    replace B419 : Stc w418 p17 29 [iv ((A : Nat) : Int), iv ((B : Nat) : Int), q0, v400, .slice none 0 0] := B419
    have B421 := B412.all k420 ap23.symm
    have B422 := B413.all k420 (ap24.symm p1 rfl)
    have B423 := B415.all k420 ap102
    have B425 := B403.all k420 ap409
    have K426 := K417.trans k420 (Grew.ok (S := fun _ => False) gr22 noB_le)
    refine wl_nil fun F427 hF428 => ?_
    obtain ⟨s429, s430, s431, s432, s433, s434, s435⟩ := t7 hF428 2 s374 6 s375 7 s376 8 s377 9 s378 72 s379 10 s380
    clear hF428
    refine in_normal (then_normal (wq_region (wl_mv rfl rfl rfl s435 (wl_v (iv ((i + 1 : Nat) : Int)) rfl rfl (y_add rfl rfl rfl (i64_n (by omega) (by omega)) rr) (wl_v (iv ((i + 1 : Nat) : Int)) rfl rfl (y_asg rfl rfl rr) (wl_nil fun F436 hF437 => ?_))))))
    obtain ⟨s438, s439, s440, s441, s442, s443⟩ := t6 hF437 2 s429 6 s430 7 s431 8 s432 9 s433 72 s434
    have s444 : F436 10 = iv ((i + 1 : Nat) : Int) := (hF437 10).trans rfl
    clear hF437
    exact then_normal ⟨((pn N 1) - (i + 1)), by omega, i + 1, v400, T405, by omega, rfl, s438, s439, s440, s441, s442, s443, s444, K426, B421, B422, B419, B423, (by rw [smps_succ]; exact B425), gr406, ap407, ap408, ap409, ap410⟩
   ·replace c370 := of_decide_eq_false c370
    refine wq_skip (then_normal ?_)
    have hsm := smp_lt l 1 i
    have hsl := smps_length l 1 i
    have s445 : F359 11 = .int .u8 ((smp l 1 i : Nat) : Int) := s368.trans (congrArg (Value.int .u8) (by rw [smp_none (by omega)]))
    refine wq_region (wl_mv rfl rfl rfl s364 (wl_mv rfl rfl rfl s364 (wl_v (pt p17 2) rfl rfl (y_fieldR (n := 3) rfl s363 Tryz.underlying29 rfl (by kernel_rfl) (by decide) rfl rr) (wl_v (pt p17 3) rfl rfl (y_atR 1 (s := 1) rfl rfl rfl (by omega) Tryz.underlying27 (by omega) (by kernel_rfl) (by omega) rr) (wl_v q1 rfl rfl (y_ld_stc rfl rfl Tryz.underlying26 B330 rfl rfl rr) (wl_mv rfl rfl rfl s445 (wl_builtB1 (n := smp l 1 i) rfl rfl rfl rfl (by omega) (by omega) fun v446 w447 T451 B449 g450 k448 => ?_)))))))
    have B458 := B328.all k448 Apart.none
    have B459 := B329.all k448 id
    have B460 := B330.all k448 id
    have B461 := B331.all k448 Apart.none
    have B462 := B332.all k448 Apart.none
    have K463 := K318.tr k448
    refine wl_appendB rfl rfl rfl rfl rfl rfl B462 B449.byt (by first | omega | (simp; done) | (simp; omega)) fun v464 w465 T469 B467 g468 k466 => ?_
    have gr470 := Grew.trans gr333 K463 g468
    have ap471 : Apart T469 T_b := ap334.grew g468 B458.live
    have ap472 : Apart T469 (onB p1) := ap335.grew g468 (onB_live B459.lt)
    have ap473 : Apart T469 (onB p17) := ap336.grew g468 (onB_live B460.lt)
    have ap474 : Apart T469 T82 := ap337.grew g468 B461.live
    have B476 := B458.all k466 ap334.symm
    have B477 := B459.all k466 (ap335.symm p1 rfl)
    have B478 := B460.all k466 (ap336.symm p17 rfl)
    have B479 := B461.all k466 ap337.symm
    have K481 := K463.trans k466 (Grew.ok (S := fun _ => False) gr333 noB_le)
    refine wl_v (pt p17 2) rfl rfl (y_fieldR (n := 3) rfl s363 Tryz.underlying29 rfl (by kernel_rfl) (by decide) rfl rr) (wl_v (pt p17 3) rfl rfl (y_atR 1 (s := 1) rfl rfl rfl (by omega) Tryz.underlying27 (by omega) (by kernel_rfl) (by omega) rr) (wl_set_stc rfl rfl rfl rfl rfl B478 rfl B467.oneC (by kernel_rfl) fun w482 B483 k484 => ?_))
    replace B483 : Stc w482 p17 29 [iv ((A : Nat) : Int), iv ((B : Nat) : Int), q0, v464, .slice none 0 0] := B483
    have B485 := B476.all k484 ap23.symm
    have B486 := B477.all k484 (ap24.symm p1 rfl)
    have B487 := B479.all k484 ap102
    have B489 := B467.all k484 ap473
    have K490 := K481.trans k484 (Grew.ok (S := fun _ => False) gr22 noB_le)
    refine wl_nil fun F491 hF492 => ?_
    obtain ⟨s493, s494, s495, s496, s497, s498, s499⟩ := t7 hF492 2 s361 6 s362 7 s363 8 s364 9 s365 72 s366 10 s367
    clear hF492
    refine in_normal (then_normal (wq_region (wl_mv rfl rfl rfl s499 (wl_v (iv ((i + 1 : Nat) : Int)) rfl rfl (y_add rfl rfl rfl (i64_n (by omega) (by omega)) rr) (wl_v (iv ((i + 1 : Nat) : Int)) rfl rfl (y_asg rfl rfl rr) (wl_nil fun F500 hF501 => ?_))))))
    obtain ⟨s502, s503, s504, s505, s506, s507⟩ := t6 hF501 2 s493 6 s494 7 s495 8 s496 9 s497 72 s498
    have s508 : F500 10 = iv ((i + 1 : Nat) : Int) := (hF501 10).trans rfl
    clear hF501
    exact then_normal ⟨((pn N 1) - (i + 1)), by omega, i + 1, v464, T469, by omega, rfl, s502, s503, s504, s505, s506, s507, s508, K490, B485, B486, B483, B487, (by rw [smps_succ]; exact B489), gr470, ap471, ap472, ap473, ap474⟩
  ·replace c348 := of_decide_eq_false c348
   refine wq_exit (then_exit (then_exit ?_))
   have l509 : (pn N 1) = i := by omega
   subst l509
   refine in_here (in_normal (then_normal (wq_region (wl_mv rfl rfl rfl s343 (wl_v (iv ((2 : Nat) : Int)) rfl rfl (y_add rfl rfl rfl (i64_n (by omega) (by omega)) rr) (wl_v (iv ((2 : Nat) : Int)) rfl rfl (y_asg rfl rfl rr) (wl_nil fun F510 hF511 => ?_)))))))
   obtain ⟨s512, s513, s514, s515⟩ := t4 hF511 2 s340 6 s341 7 s342 72 s345
   have s516 : F510 8 = iv ((2 : Nat) : Int) := (hF511 8).trans rfl
   clear hF511
   refine then_normal (wqr_step (wq_seq (wq_seq (wq_region (wl_mv rfl rfl rfl s516 (wl_v (.bool true) rfl rfl (y_lss rfl rfl rfl rfl rr) (wl_nil fun F517 hF518 => ?_)))))))
   obtain ⟨s519, s520, s521, s522, s523⟩ := t5 hF518 2 s512 6 s513 7 s514 72 s515 8 s516
   have s524 : F517 24 = .bool true := (hF518 24).trans rfl
   clear hF518
   refine then_normal ?_
   refine wq_cond (t := true) s524 (fun _ => ?_) (fun e => by cases e)
   refine wq_skip (then_normal (wq_seq (wq_block (wq_seq (wq_region (wl_v (pt p17 0) rfl rfl (y_fieldR (n := 1) rfl s521 Tryz.underlying29 rfl (by kernel_rfl) (by decide) rfl rr) (wl_v (iv ((A : Nat) : Int)) rfl rfl (y_ld_stc rfl rfl Tryz.underlying3 B330 rfl rfl rr) (wl_v (pt p17 1) rfl rfl (y_fieldR (n := 1) rfl s521 Tryz.underlying29 rfl (by kernel_rfl) (by decide) rfl rr) (wl_v (iv ((B : Nat) : Int)) rfl rfl (y_ld_stc rfl rfl Tryz.underlying3 B330 rfl rfl rr) (wl_v (iv ((N : Nat) : Int)) rfl rfl (y_mul rfl rfl rfl (i64_n (by rw [hN, Int.natCast_mul]) (by omega)) rr) (wl_v (iv ((N : Nat) : Int)) rfl rfl (y_asg rfl rfl rr) ?_)))))))))))
   refine wl_nil fun F525 hF526 => ?_
   obtain ⟨s527, s528, s529, s530, s531⟩ := t5 hF526 2 s519 6 s520 7 s521 72 s522 8 s523
   have s532 : F525 9 = iv ((N : Nat) : Int) := (hF526 9).trans rfl
   clear hF526
   refine then_normal (wq_seq (wq_seq (wq_region (wl_mv rfl rfl rfl s531 (wl_v (.bool true) rfl rfl (y_gtr rfl rfl rfl rfl rr) (wl_nil fun F533 hF534 => ?_))))))
   obtain ⟨s535, s536, s537, s538, s539, s540⟩ := t6 hF534 2 s527 6 s528 7 s529 72 s530 8 s531 9 s532
   have s541 : F533 33 = .bool true := (hF534 33).trans rfl
   clear hF534
   refine then_normal ?_
   refine wq_cond (t := true) s541 (fun _ => ?_) (fun e => by cases e)
   refine wq_region (wl_mv rfl rfl rfl s540 (wl_v (iv (((N / 4) : Nat) : Int)) rfl rfl (y_quo rfl rfl rfl (by first | decide | omega) (i64_n (quo_nat N 4) (by omega)) rr) (wl_v (iv (((N / 4) : Nat) : Int)) rfl rfl (y_asg rfl rfl rr) (wl_nil fun F542 hF543 => ?_))))
   obtain ⟨s544, s545, s546, s547, s548⟩ := t5 hF543 2 s535 6 s536 7 s537 72 s538 8 s539
   have s549 : F542 9 = iv (((N / 4) : Nat) : Int) := (hF543 9).trans rfl
   clear hF543
   refine then_normal (wq_seq ?_)
   have hpn := pn_le N 2
   have s550 : F542 9 = iv (((pn N 2) : Nat) : Int) := s549.trans (congrArg (Value.int .i64) rfl)
   refine wq_region (wl_v (iv 0) rfl rfl (y_asg rfl rfl rr) (wl_nil fun F551 hF552 => ?_))
   obtain ⟨s553, s554, s555, s556, s557, s558⟩ := t6 hF552 2 s544 6 s545 7 s546 72 s547 8 s548 9 s550
   have s559 : F551 10 = iv 0 := (hF552 10).trans rfl
   clear hF552
   refine then_normal (wq_block (wq_loop (fun nn FF ww => ∃ (i : Nat), ∃ (q2 : Value), ∃ (T560 : Nat → Prop), (i ≤ (pn N 2)) ∧ nn = (pn N 2) - i ∧ FF 2 = v ∧ FF 6 = pt p1 0 ∧ FF 7 = pt p17 0 ∧ FF 8 = iv ((2 : Nat) : Int) ∧ FF 9 = iv (((pn N 2) : Nat) : Int) ∧ FF 72 = undef ∧ FF 10 = iv ((i : Nat) : Int) ∧ Kept (fun _ => False) w0 ww ∧ Byt ww T_b v l ∧ Stc ww p1 29 [iv 0, iv 0, .slice none 0 0, .slice none 0 0, .slice none 0 0] ∧ Stc ww p17 29 [iv ((A : Nat) : Int), iv ((B : Nat) : Int), q0, q1, q2] ∧ Owb ww T82 q0 (smps l 0 (pn N 0)) ∧ Owb ww T315 q1 (smps l 1 (pn N 1)) ∧ Owb ww T560 q2 (smps l 2 i) ∧ Grew w0 noB T560 ∧ Apart T560 T_b ∧ Apart T560 (onB p1) ∧ Apart T560 (onB p17) ∧ Apart T560 T82 ∧ Apart T560 T315) ((pn N 2) - 0) ⟨0, (.slice none 0 0), noB, by omega, rfl, s553, s554, s555, s557, s558, s556, s559, K318, B328, B329, B330, B331, B332, (Owb.nil _), (Grew.refl _ _), Apart.none.symm, Apart.none.symm, Apart.none.symm, Apart.none.symm, Apart.none.symm⟩ ?_))
   rintro n564 F561 w562 ⟨i, q2, T560, i565, hn564, s566, s567, s568, s569, s570, s571, s572, K563, B573, B574, B575, B576, B577, B578, gr579, ap580, ap581, ap582, ap583, ap584⟩
   refine wq_seq (wq_seq (wq_region (wl_mv rfl rfl rfl s572 (wl_mv rfl rfl rfl s570 (wl_v (.bool (decide (((i : Nat) : Int) < (((pn N 2) : Nat) : Int)))) rfl rfl (y_lss rfl rfl rfl rfl rr) (wl_nil fun F585 hF586 => ?_))))))
   obtain ⟨s587, s588, s589, s590, s591, s592, s593⟩ := t7 hF586 2 s566 6 s567 7 s568 8 s569 9 s570 72 s571 10 s572
   have s594 : F585 38 = .bool (decide (((i : Nat) : Int) < (((pn N 2) : Nat) : Int))) := (hF586 38).trans rfl
   clear hF586
   refine then_normal ?_
   refine wq_cond s594 (fun c595 => ?_) (fun c595 => ?_)
   ·replace c595 := of_decide_eq_true c595
    refine wq_skip (then_normal (wq_seq (wq_block (wq_seq (wq_region (wl_mv rfl rfl rfl s593 (wl_v (iv ((i * 3 : Nat) : Int)) rfl rfl (y_mul rfl rfl rfl (i64_n (by omega) (by omega)) rr) (wl_v (.int .u8 (((i * 3 % 256) : Nat) : Int)) rfl rfl (y_convR rfl rfl Tryz.underlying3 Tryz.underlying5 (u8_mod (i * 3)) rr) (wl_v (.int .u8 (((i * 3 % 256) : Nat) : Int)) rfl rfl (y_asg rfl rfl rr) (wl_nil fun F596 hF597 => ?_))))))))))
    obtain ⟨s598, s599, s600, s601, s602, s603, s604⟩ := t7 hF597 2 s587 6 s588 7 s589 8 s590 9 s591 72 s592 10 s593
    have s605 : F596 11 = .int .u8 (((i * 3 % 256) : Nat) : Int) := (hF597 11).trans rfl
    clear hF597
    refine then_normal (wq_seq (wq_seq (wq_region (wl_mv rfl rfl rfl s598 (wl_v (iv ((l.length : Nat) : Int)) rfl rfl (y_lenV rfl rfl rfl B573 rr) (wl_v (.bool (decide (0 < ((l.length : Nat) : Int)))) rfl rfl (y_gtr rfl rfl rfl rfl rr) (wl_nil fun F606 hF607 => ?_)))))))
    obtain ⟨s608, s609, s610, s611, s612, s613, s614, s615⟩ := t8 hF607 2 s598 6 s599 7 s600 8 s601 9 s602 72 s603 10 s604 11 s605
    have s616 : F606 46 = .bool (decide (0 < ((l.length : Nat) : Int))) := (hF607 46).trans rfl
    clear hF607
    refine then_normal ?_
    refine wq_cond s616 (fun c617 => ?_) (fun c617 => ?_)
    ·replace c617 := of_decide_eq_true c617
     refine wq_region (wl_mv rfl rfl rfl s608 (wl_mv rfl rfl rfl s614 (wl_mv rfl rfl rfl s611 (wl_v (iv ((14 : Nat) : Int)) rfl rfl (y_mul rfl rfl rfl (i64_n (by omega) (by omega)) rr) (wl_v (iv ((i + 14 : Nat) : Int)) rfl rfl (y_add rfl rfl rfl (i64_n (by omega) (by omega)) rr) (wl_mv rfl rfl rfl s608 (wl_v (iv ((l.length : Nat) : Int)) rfl rfl (y_lenV rfl rfl rfl B573 rr) (wl_v (iv ((((i + 7 * 2) % l.length) : Nat) : Int)) rfl rfl (y_rem rfl rfl rfl (by first | decide | omega) (rem_nat (i + 7 * 2) l.length) rr) (wl_v (bytAddr v ((i + 7 * 2) % l.length)) rfl rfl (y_atB ((i + 7 * 2) % l.length) rfl rfl rfl (by omega) B573 (Nat.mod_lt _ (by omega)) rr) ?_)))))))))
     have u618 := getD_lt B573.lt256 ((i + 7 * 2) % l.length)
     refine wl_v (.int .u8 ((l.getD ((i + 7 * 2) % l.length) 0 : Nat) : Int)) rfl rfl (y_ldB rfl rfl B573 (Nat.mod_lt _ (by omega)) rr) (wl_mv rfl rfl rfl s614 (wl_v (iv (((i / 16) : Nat) : Int)) rfl rfl (y_quo rfl rfl rfl (by first | decide | omega) (i64_n (quo_nat i 16) (by omega)) rr) (wl_v (.int .u8 (((i / 16) : Nat) : Int)) rfl rfl (y_convR rfl rfl Tryz.underlying3 Tryz.underlying5 (u8_small (by omega)) rr) (wl_v (.int .u8 ((smp l 2 i : Nat) : Int)) rfl rfl (y_add rfl rfl rfl (by rw [smp_some (by omega)]; exact u8_mod _) rr) (wl_v (.int .u8 ((smp l 2 i : Nat) : Int)) rfl rfl (y_asg rfl rfl rr) (wl_nil fun F619 hF620 => ?_))))))
     obtain ⟨s621, s622, s623, s624, s625, s626, s627⟩ := t7 hF620 2 s608 6 s609 7 s610 8 s611 9 s612 72 s613 10 s614
     have s628 : F619 11 = .int .u8 ((smp l 2 i : Nat) : Int) := (hF620 11).trans rfl
     clear hF620
     refine then_normal ?_
     have hsm := smp_lt l 2 i
     have hsl := smps_length l 2 i
     refine wq_region (wl_mv rfl rfl rfl s624 (wl_mv rfl rfl rfl s624 (wl_v (pt p17 2) rfl rfl (y_fieldR (n := 3) rfl s623 Tryz.underlying29 rfl (by kernel_rfl) (by decide) rfl rr) (wl_v (pt p17 4) rfl rfl (y_atR 2 (s := 1) rfl rfl rfl (by omega) Tryz.underlying27 (by omega) (by kernel_rfl) (by omega) rr) (wl_v q2 rfl rfl (y_ld_stc rfl rfl Tryz.underlying26 B575 rfl rfl rr) (wl_mv rfl rfl rfl s628 (wl_builtB1 (n := smp l 2 i) rfl rfl rfl rfl (by omega) (by omega) fun v629 w630 T634 B632 g633 k631 => ?_)))))))
     have B642 := B573.all k631 Apart.none
     have B643 := B574.all k631 id
     have B644 := B575.all k631 id
     have B645 := B576.all k631 Apart.none
     have B646 := B577.all k631 Apart.none
     have B647 := B578.all k631 Apart.none
     have K648 := K563.tr k631
     refine wl_appendB rfl rfl rfl rfl rfl rfl B647 B632.byt (by first | omega | (simp; done) | (simp; omega)) fun v649 w650 T654 B652 g653 k651 => ?_
     have gr655 := Grew.trans gr579 K648 g653
     have ap656 : Apart T654 T_b := ap580.grew g653 B642.live
     have ap657 : Apart T654 (onB p1) := ap581.grew g653 (onB_live B643.lt)
     have ap658 : Apart T654 (onB p17) := ap582.grew g653 (onB_live B644.lt)
     have ap659 : Apart T654 T82 := ap583.grew g653 B645.live
     have ap660 : Apart T654 T315 := ap584.grew g653 B646.live
     have B662 := B642.all k651 ap580.symm
     have B663 := B643.all k651 (ap581.symm p1 rfl)
     have B664 := B644.all k651 (ap582.symm p17 rfl)
     have B665 := B645.all k651 ap583.symm
     have B666 := B646.all k651 ap584.symm
     have K668 := K648.trans k651 (Grew.ok (S := fun _ => False) gr579 noB_le)
     refine wl_v (pt p17 2) rfl rfl (y_fieldR (n := 3) rfl s623 Tryz.underlying29 rfl (by kernel_rfl) (by decide) rfl rr) (wl_v (pt p17 4) rfl rfl (y_atR 2 (s := 1) rfl rfl rfl (by omega) Tryz.underlying27 (by omega) (by kernel_rfl) (by omega) rr) (wl_set_stc rfl rfl rfl rfl rfl B664 rfl B652.oneC (by kernel_rfl) fun w669 B670 k671 => ?_))
     replace B670 : Stc w669 p17 29 [iv ((A : Nat) : Int), iv ((B : Nat) : Int), q0, q1, v649] := B670
     have B672 := B662.all k671 ap23.symm
     have B673 := B663.all k671 (ap24.symm p1 rfl)
     have B674 := B665.all k671 ap102
     have B675 := B666.all k671 ap336
     have B677 := B652.all k671 ap658
     have K678 := K668.trans k671 (Grew.ok (S := fun _ => False) gr22 noB_le)
     refine wl_nil fun F679 hF680 => ?_
     obtain ⟨s681, s682, s683, s684, s685, s686, s687⟩ := t7 hF680 2 s621 6 s622 7 s623 8 s624 9 s625 72 s626 10 s627
     clear hF680
     refine in_normal (then_normal (wq_region (wl_mv rfl rfl rfl s687 (wl_v (iv ((i + 1 : Nat) : Int)) rfl rfl (y_add rfl rfl rfl (i64_n (by omega) (by omega)) rr) (wl_v (iv ((i + 1 : Nat) : Int)) rfl rfl (y_asg rfl rfl rr) (wl_nil fun F688 hF689 => ?_))))))
     obtain ⟨s690, s691, s692, s693, s694, s695⟩ := t6 hF689 2 s681 6 s682 7 s683 8 s684 9 s685 72 s686
     have s696 : F688 10 = iv ((i + 1 : Nat) : Int) := (hF689 10).trans rfl
     clear hF689
     exact then_normal ⟨((pn N 2) - (i + 1)), by omega, i + 1, v649, T654, by omega, rfl, s690, s691, s692, s693, s694, s695, s696, K678, B672, B673, B670, B674, B675, (by rw [smps_succ]; exact B677), gr655, ap656, ap657, ap658, ap659, ap660⟩
    ·replace c617 := of_decide_eq_false c617
     refine wq_skip (then_normal ?_)
     have hsm := smp_lt l 2 i
     have hsl := smps_length l 2 i
     have s697 : F606 11 = .int .u8 ((smp l 2 i : Nat) : Int) := s615.trans (congrArg (Value.int .u8) (by rw [smp_none (by omega)]))
     refine wq_region (wl_mv rfl rfl rfl s611 (wl_mv rfl rfl rfl s611 (wl_v (pt p17 2) rfl rfl (y_fieldR (n := 3) rfl s610 Tryz.underlying29 rfl (by kernel_rfl) (by decide) rfl rr) (wl_v (pt p17 4) rfl rfl (y_atR 2 (s := 1) rfl rfl rfl (by omega) Tryz.underlying27 (by omega) (by kernel_rfl) (by omega) rr) (wl_v q2 rfl rfl (y_ld_stc rfl rfl Tryz.underlying26 B575 rfl rfl rr) (wl_mv rfl rfl rfl s697 (wl_builtB1 (n := smp l 2 i) rfl rfl rfl rfl (by omega) (by omega) fun v698 w699 T703 B701 g702 k700 => ?_)))))))
     have B711 := B573.all k700 Apart.none
     have B712 := B574.all k700 id
     have B713 := B575.all k700 id
     have B714 := B576.all k700 Apart.none
     have B715 := B577.all k700 Apart.none
     have B716 := B578.all k700 Apart.none
     have K717 := K563.tr k700
     refine wl_appendB rfl rfl rfl rfl rfl rfl B716 B701.byt (by first | omega | (simp; done) | (simp; omega)) fun v718 w719 T723 B721 g722 k720 => ?_
     have gr724 := Grew.trans gr579 K717 g722
     have ap725 : Apart T723 T_b := ap580.grew g722 B711.live
     have ap726 : Apart T723 (onB p1) := ap581.grew g722 (onB_live B712.lt)
     have ap727 : Apart T723 (onB p17) := ap582.grew g722 (onB_live B713.lt)
     have ap728 : Apart T723 T82 := ap583.grew g722 B714.live
     have ap729 : Apart T723 T315 := ap584.grew g722 B715.live
     have B731 := B711.all k720 ap580.symm
     have B732 := B712.all k720 (ap581.symm p1 rfl)
     have B733 := B713.all k720 (ap582.symm p17 rfl)
     have B734 := B714.all k720 ap583.symm
     have B735 := B715.all k720 ap584.symm
     have K737 := K717.trans k720 (Grew.ok (S := fun _ => False) gr579 noB_le)
     refine wl_v (pt p17 2) rfl rfl (y_fieldR (n := 3) rfl s610 Tryz.underlying29 rfl (by kernel_rfl) (by decide) rfl rr) (wl_v (pt p17 4) rfl rfl (y_atR 2 (s := 1) rfl rfl rfl (by omega) Tryz.underlying27 (by omega) (by kernel_rfl) (by omega) rr) (wl_set_stc rfl rfl rfl rfl rfl B733 rfl B721.oneC (by kernel_rfl) fun w738 B739 k740 => ?_))
     replace B739 : Stc w738 p17 29 [iv ((A : Nat) : Int), iv ((B : Nat) : Int), q0, q1, v718] := B739
     have B741 := B731.all k740 ap23.symm
     have B742 := B732.all k740 (ap24.symm p1 rfl)
     have B743 := B734.all k740 ap102
     have B744 := B735.all k740 ap336
     have B746 := B721.all k740 ap727
     have K747 := K737.trans k740 (Grew.ok (S := fun _ => False) gr22 noB_le)
     refine wl_nil fun F748 hF749 => ?_
     obtain ⟨s750, s751, s752, s753, s754, s755, s756⟩ := t7 hF749 2 s608 6 s609 7 s610 8 s611 9 s612 72 s613 10 s614
     clear hF749
     refine in_normal (then_normal (wq_region (wl_mv rfl rfl rfl s756 (wl_v (iv ((i + 1 : Nat) : Int)) rfl rfl (y_add rfl rfl rfl (i64_n (by omega) (by omega)) rr) (wl_v (iv ((i + 1 : Nat) : Int)) rfl rfl (y_asg rfl rfl rr) (wl_nil fun F757 hF758 => ?_))))))
     obtain ⟨s759, s760, s761, s762, s763, s764⟩ := t6 hF758 2 s750 6 s751 7 s752 8 s753 9 s754 72 s755
     have s765 : F757 10 = iv ((i + 1 : Nat) : Int) := (hF758 10).trans rfl
     clear hF758
     exact then_normal ⟨((pn N 2) - (i + 1)), by omega, i + 1, v718, T723, by omega, rfl, s759, s760, s761, s762, s763, s764, s765, K747, B741, B742, B739, B743, B744, (by rw [smps_succ]; exact B746), gr724, ap725, ap726, ap727, ap728, ap729⟩
   ·replace c595 := of_decide_eq_false c595
    refine wq_exit (then_exit (then_exit ?_))
    have l766 : (pn N 2) = i := by omega
    subst l766
    refine in_here (in_normal (then_normal (wq_region (wl_mv rfl rfl rfl s590 (wl_v (iv ((3 : Nat) : Int)) rfl rfl (y_add rfl rfl rfl (i64_n (by omega) (by omega)) rr) (wl_v (iv ((3 : Nat) : Int)) rfl rfl (y_asg rfl rfl rr) (wl_nil fun F767 hF768 => ?_)))))))
    obtain ⟨s770, s771, s772⟩ := t3 hF768 6 s588 7 s589 72 s592
    have s773 : F767 8 = iv ((3 : Nat) : Int) := (hF768 8).trans rfl
    clear hF768
    refine then_normal (wqr_step (wq_seq (wq_seq (wq_region (wl_mv rfl rfl rfl s773 (wl_v (.bool false) rfl rfl (y_lss rfl rfl rfl rfl rr) (wl_nil fun F774 hF775 => ?_)))))))
    obtain ⟨s777, s778, s779⟩ := t3 hF775 6 s770 7 s771 72 s772
    have s781 : F774 24 = .bool false := (hF775 24).trans rfl
    clear hF775
    refine then_normal ?_
    refine wq_cond (t := false) s781 (fun e => by cases e) (fun _ => ?_)
    refine wq_exit (then_exit (then_exit (in_here (then_normal (wq_seq (wq_region (wl_v (.agg #[iv ((A : Nat) : Int), iv ((B : Nat) : Int), q0, q1, q2]) rfl rfl (y_load_stc stcT_frame rfl s778 B575 rr) (wl_store_stc (us := [iv ((A : Nat) : Int), iv ((B : Nat) : Int), q0, q1, q2]) stcT_frame rfl rfl rfl s777 rfl B574 rfl (oneI rfl (oneI rfl (oneI B576.one (oneI B577.one (oneI B578.one oneN))))) fun w782 B783 k784 => ?_))))))))
    have B787 := B576.all k784 ap101
    have B788 := B577.all k784 ap335
    have B789 := B578.all k784 ap581
    have K790 := K563.trans k784 (Grew.ok (S := fun _ => False) gr6 noB_le)
    refine wl_nil fun F791 hF792 => ?_
    obtain ⟨s793, s794⟩ := t2 hF792 6 s777 72 s779
    clear hF792
    refine then_normal (wq_ret ?_)
    exact end_stc (vs := [iv ((A : Nat) : Int), iv ((B : Nat) : Int), q0, q1, q2]) stcT_frame s794 rfl rfl s793 B783 ⟨q0, T82, q1, T315, q2, T560, (by rw [hF]), K790, ⟨(by rw [hF]; exact B787), gr99⟩, ⟨(by rw [hF]; exact B788), gr333⟩, ⟨(by rw [hF]; exact B789), gr579⟩, ap337.symm, ap583.symm, ap584.symm⟩
end Go.Proofs.YtknjpdcpmpfklaaGreatDoor
set_option maxRecDepth 100000
namespace Go.Proofs.YtknjpdcpmpfklaaGreatDoor
open Go.RowKit
def subV (v : Value) (l h m : Nat) : Value := match v with
  | .slice a _ _ => .slice (if m = l then a else a.map (·.add l)) (h - l) (m - l)
  | _ => undef
def capV : Value → Nat
  | .slice _ _ c => c
  | _ => 0
theorem Byt.cap {w : World} {T : Nat → Prop} {v : Value} {l : List Nat} (h : Byt w T v l) : l.length ≤ capV v ∧ capV v ≤ maxLen := by
  obtain ⟨⟨a, cap, rfl, h1, h2, _⟩, _⟩ := h; exact ⟨h1, h2⟩
theorem Byt.sub {w : World} {T : Nat → Prop} {v : Value} {l : List Nat} (hb : Byt w T v l) {i j m : Nat} (h1 : i ≤ j) (h2 : j ≤ m) (h3 : j ≤ l.length) (h4 : m ≤ capV v) : Byt w T (subV v i j m) ((l.drop i).take (j - i)) := by
  have hc := hb.cap
  obtain ⟨hB, hL, hT⟩ := hb
  obtain ⟨a, cap, rfl, k1, k2, k3, k4, k5⟩ := hB
  have hB : BytesArg w (.slice a l.length cap) l := ⟨a, cap, rfl, k1, k2, k3, k4, k5⟩
  have hm : m ≤ cap := h4
  refine ⟨hB.cut i j (m - i) h1 h3 (by omega) (by omega) (if m = i then a else a.map (fun z : Addr => z.add i)) (fun hp => by rw [if_neg (by omega)]) (fun h0 => ?_), hL, fun hp a' n c e => ?_⟩
  · split at h0
    · omega
    · have : a = none := by cases a <;> simp_all
      have := k3 this; omega
  · have hlen : 0 < j - i := by
      have : ((l.drop i).take (j - i)).length = j - i := by simp; omega
      omega
    simp only [subV] at e
    rw [if_neg (by omega)] at e
    cases a with
    | none => simp at e
    | some a0 =>
      simp at e
      obtain ⟨e1, _, _⟩ := e
      have hblk : a'.block = a0.block := by rw [← e1]; unfold Addr.add; split <;> rfl
      rw [hblk]
      exact hT (by omega) a0 _ _ rfl
theorem sub_addr {w : World} {T : Nat → Prop} {v : Value} {l : List Nat} (hb : Byt w T v l) {i j m : Nat} (t : Nat) (h2 : j ≤ m) (h3 : j ≤ l.length) (ht : t < j - i) : bytAddr (subV v i j m) t = bytAddr v (i + t) := by
  obtain ⟨⟨a, cap, rfl, _, _, _, _, k5⟩, _⟩ := hb
  obtain ⟨b, off, rfl, _, _⟩ := k5 (by omega)
  simp only [subV, bytAddr]
  rw [if_neg (by omega)]
  simp [Addr.add_lit, Nat.add_assoc]
section
variable {ρ : Operand → Value} {o : Oper} {w : World} {R : Value → World → Prop}
theorem y_cut3 {x lo hi mx : Operand} {T : Nat → Prop} {v : Value} {l : List Nat} {kl kh km : IntKind} (i j m : Nat) {il ih im : Int} (ho : o.op = .slice 26 x (some lo) (some hi) (some mx)) (hx : ρ x = v) (hl : ρ lo = .int kl il) (hh : ρ hi = .int kh ih) (hm : ρ mx = .int km im) (e1 : il = (i : Int)) (e2 : ih = (j : Int)) (e3 : im = (m : Int)) (hb : Byt w T v l) (h1 : i ≤ j) (h2 : j ≤ m) (h3 : m ≤ l.length) (h : R (subV v i j m) w) : Yields Tryz.prog ρ o w R := by
  subst e1; subst e2; subst e3
  have hc := hb.cap
  obtain ⟨⟨a, cap, rfl, k1, _⟩, _⟩ := hb
  obtain ⟨i0, hi0, hz0, hz1, hz2⟩ := info_parts Tryz.info_u8
  have hmc : m ≤ cap := by omega
  refine y_val (v := subV (.slice a l.length cap) i j m) (w' := w) ?_ h
  have b1 : (Instr.sliceBounds true l.length cap (some (.int kl (i : Int))) (some (.int kh (j : Int))) (some (.int km (m : Int)))).run Tryz.prog w = .ok (i, j, m) w := by
    simp [Instr.sliceBounds, Instr.sliceBound, asIntOf, hmc, h1, h2]
  simp [execOp, ho, hx, hl, hh, hm, Instr.sliceAt, Instr.slice, run_underlying Tryz.underlying26, b1, sizeOf, typeInfo, hi0, hz1, subV]
theorem y_atS {x ix : Operand} {T : Nat → Prop} {v : Value} {l : List Nat} {k : IntKind} {i j m : Nat} (t : Nat) {it : Int} (ho : o.op = .indexAddr 26 x ix) (hx : ρ x = subV v i j m) (hi : ρ ix = .int k it) (hij : it = (t : Int)) (hb : Byt w T v l) (h1 : i ≤ j) (h2 : j ≤ m) (h3 : j ≤ l.length) (h4 : m ≤ capV v) (ht : t < j - i) (h : R (bytAddr v (i + t)) w) : Yields Tryz.prog ρ o w R := by
  have hl : ((l.drop i).take (j - i)).length = j - i := by simp; omega
  refine y_atB t ho hx hi hij (hb.sub h1 h2 h3 h4) (by rw [hl]; exact ht) ?_
  rw [sub_addr hb t h2 h3 ht]; exact h
theorem sub_len {w : World} {T : Nat → Prop} {v : Value} {l : List Nat} (hb : Byt w T v l) (i j m : Nat) : ∃ a, subV v i j m = .slice a (j - i) (m - i) := by
  obtain ⟨⟨a, cap, rfl, _⟩, _⟩ := hb
  exact ⟨_, rfl⟩
theorem y_lenS {c : Call} {x : Operand} {T : Nat → Prop} {v : Value} {l : List Nat} {i j m : Nat} (ho : o.op = .call c) (hc : c = { callee := .builtin .len, args := #[x], argTypes := #[26] }) (hx : ρ x = subV v i j m) (hb : Byt w T v l) (h : R (.int .i64 ((j - i : Nat) : Int)) w) : Yields Tryz.prog ρ o w R := by
  subst hc
  obtain ⟨a, e⟩ := sub_len hb i j m
  rw [e] at hx
  exact y_len ho rfl rfl rfl Tryz.underlying26 hx h
end
end Go.Proofs.YtknjpdcpmpfklaaGreatDoor
set_option maxRecDepth 100000
namespace Go.Proofs.YtknjpdcpmpfklaaGreatDoor
open Go.RowKit
section
variable {ρ : Operand → Value} {o : Oper} {w : World} {R : Value → World → Prop}
theorem y_ldPl {t : TypeId} {x : Operand} {p k : Nat} {vs : List Value} {a b c : Value} (ho : o.op = .load 27 x) (hx : ρ x = .pointer (some ⟨p, k, none⟩)) (hB : Stc w p t vs) (h0 : vs[k]? = some a) (h1 : vs[k + 1]? = some b) (h2 : vs[k + 2]? = some c) (h : R (.agg #[a, b, c]) w) : Yields Tryz.prog ρ o w R := by
  have hr : w.rangeAt p k [a, b, c] := by
    intro j v hj
    match j, hj with
    | 0, hj => obtain rfl : a = v := by simpa using hj
               exact hB.cell h0
    | 1, hj => obtain rfl : b = v := by simpa using hj
               exact hB.cell h1
    | 2, hj => obtain rfl : c = v := by simpa using hj
               exact hB.cell h2
    | n + 3, hj => simp at hj
  refine y_val (v := .agg #[a, b, c]) (w' := w) ?_ h
  simp only [execOp, ho, hx, Sem.run_bind, run_loadAt_mid w p k 27 [a, b, c] _ hr Tryz.underlying27 rfl (by kernel_rfl), Result.andThen_ok, Sem.run_pure]
theorem y_ixPl {x y : Operand} {k : IntKind} {cs : Array Value} {v : Value} (j : Nat) (ho : o.op = .index 27 x y) (hx : ρ x = .agg cs) (hy : ρ y = .int k (j : Int)) (hj : j < 3) (hv : cs[j]? = some v) (h : R v w) : Yields Tryz.prog ρ o w R := by
  have hs : (Tryz.prog.info? 26).map (·.size) = some 1 := by kernel_rfl
  cases hq : Tryz.prog.info? 26 with
  | none => simp [hq] at hs
  | some i =>
    have hs' : i.size = 1 := by simpa [hq] using hs
    have hp : (part 26 cs j).run Tryz.prog w = .ok v w := by simp [part, isAgg, run_underlying Tryz.underlying26, hv]
    have h1 : (0 : Int) ≤ (j : Int) := by omega
    have h2 : (j : Int) < 3 := by omega
    exact y_val (v := v) (w' := w) (by simp [execOp, ho, hx, hy, Instr.index, run_underlying Tryz.underlying27, asIntOf, sizeOf, typeInfo, hq, hs', hj, hp]) h
theorem y_cut2L {x lo : Operand} {T : Nat → Prop} {v : Value} {l : List Nat} {kl : IntKind} {i j m : Nat} (k : Nat) {il : Int} (ho : o.op = .slice 26 x (some lo) none none) (hx : ρ x = subV v i j m) (hl : ρ lo = .int kl il) (e1 : il = (k : Int)) (hb : Byt w T v l) (h1 : k ≤ j - i) (h : R (subV (subV v i j m) k (j - i) (m - i)) w) : Yields Tryz.prog ρ o w R := by
  subst e1
  obtain ⟨a, e⟩ := sub_len hb i j m
  obtain ⟨i0, hi0, hz0, hz1, hz2⟩ := info_parts Tryz.info_u8
  refine y_val (v := subV (subV v i j m) k (j - i) (m - i)) (w' := w) ?_ h
  rw [e] at hx ⊢
  have b1 : (Instr.sliceBounds true (j - i) (m - i) (some (.int kl (k : Int))) none none).run Tryz.prog w = .ok (k, j - i, m - i) w := by
    simp [Instr.sliceBounds, Instr.sliceBound, asIntOf, h1]
  simp [execOp, ho, hx, hl, Instr.sliceAt, Instr.slice, run_underlying Tryz.underlying26, b1, sizeOf, typeInfo, hi0, hz1, subV]
theorem y_cut2H {x hi : Operand} {T : Nat → Prop} {v : Value} {l : List Nat} {kl : IntKind} {i j m : Nat} (k : Nat) {il : Int} (ho : o.op = .slice 26 x none (some hi) none) (hx : ρ x = subV v i j m) (hl : ρ hi = .int kl il) (e1 : il = (k : Int)) (hb : Byt w T v l) (h1 : k ≤ m - i) (h : R (subV (subV v i j m) 0 k (m - i)) w) : Yields Tryz.prog ρ o w R := by
  subst e1
  obtain ⟨a, e⟩ := sub_len hb i j m
  obtain ⟨i0, hi0, hz0, hz1, hz2⟩ := info_parts Tryz.info_u8
  refine y_val (v := subV (subV v i j m) 0 k (m - i)) (w' := w) ?_ h
  rw [e] at hx ⊢
  have b1 : (Instr.sliceBounds true (j - i) (m - i) none (some (.int kl (k : Int))) none).run Tryz.prog w = .ok (0, k, m - i) w := by
    simp [Instr.sliceBounds, Instr.sliceBound, asIntOf, h1]
  simp [execOp, ho, hx, hl, Instr.sliceAt, Instr.slice, run_underlying Tryz.underlying26, b1, sizeOf, typeInfo, hi0, hz1, subV]
theorem y_cut3T {x hi mx : Operand} {T : Nat → Prop} {v : Value} {l : List Nat} {kh km : IntKind} (j m : Nat) {ih im : Int} (ho : o.op = .slice 26 x none (some hi) (some mx)) (hx : ρ x = v) (hh : ρ hi = .int kh ih) (hm : ρ mx = .int km im) (e2 : ih = (j : Int)) (e3 : im = (m : Int)) (hb : Byt w T v l) (h2 : j ≤ m) (h4 : m ≤ l.length) (h : R (subV v 0 j m) w) : Yields Tryz.prog ρ o w R := by
  subst e2; subst e3
  obtain ⟨⟨a, cap, rfl, k1, _⟩, _⟩ := hb
  obtain ⟨i0, hi0, hz0, hz1, hz2⟩ := info_parts Tryz.info_u8
  have hmc : m ≤ cap := by omega
  refine y_val (v := subV (.slice a l.length cap) 0 j m) (w' := w) ?_ h
  have b1 : (Instr.sliceBounds true l.length cap none (some (.int kh (j : Int))) (some (.int km (m : Int)))).run Tryz.prog w = .ok (0, j, m) w := by
    simp [Instr.sliceBounds, Instr.sliceBound, asIntOf, hmc, h2]
  simp [execOp, ho, hx, hh, hm, Instr.sliceAt, Instr.slice, run_underlying Tryz.underlying26, b1, sizeOf, typeInfo, hi0, hz1, subV]
end
def PartAt (x v : Value) (off n : Nat) : Prop := ∃ d cp, x = .slice d n cp ∧ (0 < n → ∀ g nn cc, v = .slice (some ⟨g, 0, none⟩) nn cc → d = some ⟨g, off, none⟩)
theorem part_sub {w : World} {T : Nat → Prop} {v : Value} {l : List Nat} (hb : Byt w T v l) {i j m : Nat} (h2 : j ≤ m) : PartAt (subV v i j m) v i (j - i) := by
  obtain ⟨⟨a, cap, rfl, k1, k2, k3, k4, k5⟩, k6⟩ := hb
  clear k3 k4 k5 k6
  refine ⟨_, _, rfl, fun hp g nn cc e => ?_⟩
  cases e
  rw [if_neg (by omega)]
  simp [Addr.add_lit]
theorem part_sub2 {w : World} {T : Nat → Prop} {v : Value} {l : List Nat} (hb : Byt w T v l) {i j m k q r : Nat} (h2 : j ≤ m) (h3 : q ≤ j - i) (hr : r = i + k) : PartAt (subV (subV v i j m) k q (m - i)) v r (q - k) := by
  subst hr
  obtain ⟨⟨a, cap, rfl, k1, k2, k3, k4, k5⟩, k6⟩ := hb
  clear k3 k4 k5 k6
  refine ⟨_, _, rfl, fun hp g nn cc e => ?_⟩
  cases e
  rw [if_neg (by omega), if_neg (by omega)]
  simp [Addr.add_lit]
section
variable {ro : Option Nat} {N : Nat} {Q : (Exit → (Nat → Value) → World → Prop)} {F : Nat → Value} {w : World} {o : Oper}
theorem run_copyM {ρ : Operand → Value} {c : Call} {x y : Operand} {T U : Nat → Prop} {v u : Value} {l m : List Nat} {off n : Nat} (ho : o.op = .call c) (hc : c = { callee := .builtin .copy, args := #[x, y], argTypes := #[26, 26] }) (hx : PartAt (ρ x) v off n) (hy : ρ y = u) (hv : Owb w T v l) (hu : Byt w U u m) (hoff : off + n ≤ l.length) :
    ∃ w', (execOp ρ o).run Tryz.prog w = .ok (.value (.int .i64 ((min n m.length : Nat) : Int))) w' ∧ Owb w' T v (l.take off ++ (m.take n ++ l.drop (off + min n m.length))) ∧ Kept T w w' := by
  subst hc
  have hsz : (Tryz.prog.info? 5).map (·.size) = some 1 := by
    obtain ⟨i0, hi0, hz0, hz1, hz2⟩ := info_parts Tryz.info_u8
    rw [hi0]; simp [hz1]
  have hlen : (l.take off ++ (m.take n ++ l.drop (off + min n m.length))).length = l.length := by simp; omega
  have hml : (m.take n).length = min n m.length := by simp
  have hall : ∀ y ∈ l.take off ++ (m.take n ++ l.drop (off + min n m.length)), y < 256 := by
    intro y hy
    rcases List.mem_append.1 hy with h' | h'
    · exact hv.lt256 y (List.mem_of_mem_take h')
    · rcases List.mem_append.1 h' with h' | h'
      · exact hu.lt256 y (List.mem_of_mem_take h')
      · exact hv.lt256 y (List.mem_of_mem_drop h')
  obtain ⟨d, cp, hxx, hd⟩ := hx
  by_cases h0 : min n m.length = 0
  · have h0' : min m.length n = 0 := by omega
    obtain ⟨⟨a, cap, rfl, k1, k2, k3, h256, hcu⟩, _⟩ := hu
    clear hcu hd
    have hm : m.take n = [] := List.eq_nil_of_length_eq_zero (by omega)
    have hrun := run_copy_none (P := Tryz.prog) w 26 26 o.type 5 d a n cp m.length cap Tryz.underlying26 hsz h0'
    refine ⟨w, by rw [h0]; simp [execOp, ho, resolve, invoke, builtin, hxx, hy, hrun, Result.andThen]; rfl, ?_, Kept.refl _ _⟩
    rw [h0, hm, List.nil_append, Nat.add_zero, List.take_append_drop]; exact hv
  · have hm0 : 0 < m.length := by omega
    have hn0 : 0 < n := by omega
    obtain ⟨⟨a, cap, rfl, k1, k2, k3, h256, hcu⟩, hu2⟩ := hu
    clear k3 hu2
    obtain ⟨b, o1, rfl, hb1, hcell⟩ := hcu hm0
    clear hcu
    replace hd := hd hn0
    rcases hv.1.1.2 with ⟨rfl, hz⟩ | ⟨g, cp2, cur, rfl, hb, hgg, hnc, hcm, hcs, htake⟩
    · omega
    · obtain rfl := hd g _ _ rfl
      have hbl : (byteVals (m.take n)).length = min n m.length := by rw [byteVals_length, hml]
      have hrun := run_copy_row (P := Tryz.prog) w 26 26 o.type 5 g off n cp ⟨b, o1, none⟩ m.length cap cur 5 (byteVals (m.take n)) Tryz.underlying26 hsz hgg (by rw [hbl]; show min n m.length = min m.length n; omega) (fun t u ht => by
        have hjl : t < (m.take n).length := by
          have := (List.getElem?_eq_some_iff.1 ht).1
          rwa [byteVals_length] at this
        rw [Addr.add_lit, hcell t (by omega), ← ht, byteVals_at (m.take n) t hjl]
        rw [show (m.take n).getD t 0 = m.getD t 0 by simp [List.getD, show t < n by omega]]) (by rw [hbl]; omega) (byteVals_one _)
      refine ⟨w.setRow g (cur.toList.take off ++ byteVals (m.take n) ++ cur.toList.drop (off + (byteVals (m.take n)).length)).toArray, by simp [execOp, ho, resolve, invoke, builtin, hxx, hy, hrun, Result.andThen, hbl]; rfl, ⟨⟨⟨?_, .inr ⟨g, cp2, _, ?_, hb, setRow_heap w g cur _ _ _ hgg, ?_, hcm, ?_, ?_⟩⟩, hall⟩, hv.2⟩, (Kept.refl T w).setRow g (fun _ => (hv.2 g).2 rfl) _⟩
      · rw [byteVals_length]; omega
      · rw [hlen]
      · omega
      · simp [byteVals_length]; omega
      · have htk : cur.toList.take l.length = byteVals l := by simpa using htake
        have hcl : cur.toList = byteVals l ++ cur.toList.drop l.length := by rw [← htk, List.take_append_drop]
        rw [hcl]
        generalize cur.toList.drop l.length = rest2
        have hli : off ≤ (byteVals l).length := by rw [byteVals_length]; omega
        have hlj : off + (byteVals (m.take n)).length ≤ (byteVals l).length := by rw [hbl, byteVals_length]; omega
        rw [List.take_append_of_le_length hli, List.drop_append_of_le_length hlj, hlen, Nat.mul_one]
        have e2 : byteVals (l.take off ++ (m.take n ++ l.drop (off + min n m.length))) = (byteVals l).take off ++ (byteVals (m.take n) ++ (byteVals l).drop (off + (byteVals (m.take n)).length)) := by
          rw [hbl]
          simp [byteVals, List.map_take, List.map_drop]
        rw [e2]
        have e3 : ((byteVals l).take off ++ byteVals (m.take n) ++ ((byteVals l).drop (off + (byteVals (m.take n)).length) ++ rest2)) = ((byteVals l).take off ++ (byteVals (m.take n) ++ (byteVals l).drop (off + (byteVals (m.take n)).length))) ++ rest2 := by simp
        rw [e3, List.take_append_of_le_length (by simp [byteVals_length]; omega)]
        rw [List.take_of_length_le (by simp [byteVals_length]; omega)]
theorem wl_copyM {ops : Array Oper} {rest : List Oper} {c : Call} {x y : Operand} {T U : Nat → Prop} {v u : Value} {l m : List Nat} {off n : Nat} {X : Value} (hg : o.guard = none) (hd : fits N o.dst = true) (ho : o.op = .call c) (hc : c = { callee := .builtin .copy, args := #[x, y], argTypes := #[26, 26] }) (hxX : ev (cutF N F) x = X) (hp : PartAt X v off n) (hy : ev (cutF N F) y = u) (hv : Owb w T v l) (hu : Byt w U u m) (hoff : off + n ≤ l.length)
    (h : ∀ w', Owb w' T v (l.take off ++ (m.take n ++ l.drop (off + min n m.length))) → Kept T w w' → wl ro Tryz.prog N ops Q rest (putF F o.dst (.int .i64 ((min n m.length : Nat) : Int))) w') : wl ro Tryz.prog N ops Q (o :: rest) F w := by
  obtain ⟨w', hr, h1, h2⟩ := run_copyM ho hc (by rw [hxX]; exact hp) hy hv hu hoff
  exact wl_op hg hd (y_val hr (h w' h1 h2))
end
theorem stcT_by4 : StcT Tryz.prog 123 4 := ⟨_, Tryz.underlying123, rfl, by kernel_rfl⟩
def arrV (p k : Nat) : Value := .slice (some (if 4 = k then ⟨p, 0, none⟩ else ⟨p, k, none⟩)) (4 - k) (4 - k)
theorem Stc.bytes {w : World} {p t : Nat} {a b c d : Nat} (h : Stc w p t [.int .u8 (a : Int), .int .u8 (b : Int), .int .u8 (c : Int), .int .u8 (d : Int)]) (ha : a < 256) (hb : b < 256) (hc : c < 256) (hd : d < 256) {k : Nat} (hk : k ≤ 4) : Byt w (onB p) (arrV p k) ([a, b, c, d].drop k) := by
  have hl : ([a, b, c, d].drop k).length = 4 - k := by simp
  refine ⟨⟨some (if 4 = k then ⟨p, 0, none⟩ else ⟨p, k, none⟩), 4 - k, by rw [hl]; rfl, by omega, Nat.le_trans (Nat.sub_le 4 k) (by decide), (fun e => by cases e), ?_, fun hp => ⟨p, k, by rw [if_neg (by omega)], h.lt, fun i hi => ?_⟩⟩, onB_live h.lt, fun _ a' n c' e => ?_⟩
  · intro x hx
    have := List.mem_of_mem_drop hx
    simp at this
    omega
  · rw [hl] at hi
    have hc := h.cell (i := k + i) (v := .int .u8 (([a, b, c, d].drop k).getD i 0 : Nat)) (by
      have : k = 0 ∨ k = 1 ∨ k = 2 ∨ k = 3 := by omega
      have hi4 : i = 0 ∨ i = 1 ∨ i = 2 ∨ i = 3 := by omega
      rcases this with rfl | rfl | rfl | rfl <;> rcases hi4 with rfl | rfl | rfl | rfl <;> first | rfl | omega)
    exact hc
  · unfold arrV at e
    simp only [Value.slice.injEq, Option.some.injEq] at e
    rw [← e.1]
    split <;> rfl
section
variable {ρ : Operand → Value} {o : Oper} {w : World} {R : Value → World → Prop}
theorem y_cutA {x lo : Operand} {p : Nat} {kl : IntKind} (k : Nat) {il : Int} (ho : o.op = .slice 123 x (some lo) none none) (hx : ρ x = .pointer (some ⟨p, 0, none⟩)) (hl : ρ lo = .int kl il) (e1 : il = (k : Int)) (hk : k ≤ 4) (h : R (arrV p k) w) : Yields Tryz.prog ρ o w R := by
  subst e1
  obtain ⟨i0, hi0, hz0, hz1, hz2⟩ := info_parts Tryz.info_u8
  refine y_val (v := arrV p k) (w' := w) ?_ h
  have b1 : (Instr.sliceBounds false 4 4 (some (.int kl (k : Int))) none none).run Tryz.prog w = .ok (k, 4, 4) w := by
    simp [Instr.sliceBounds, Instr.sliceBound, asIntOf, hk]
  simp [execOp, ho, hx, hl, Instr.sliceAt, Instr.sureAddr, run_underlying Tryz.underlying123, b1, sizeOf, typeInfo, hi0, hz1, arrV, Addr.add_lit]
end
theorem digits_bytes : ∀ (n t : Nat) (acc : List Nat), (∀ x ∈ acc, x < 256) → ∃ l : List Nat, Extern.BytealgMakeNoZero.digits n t (byteVals acc).toArray = (byteVals l).toArray ∧ (∀ x ∈ l, x < 256) ∧ l.length = acc.length + n
  | 0, _, acc, h => ⟨acc, rfl, h, rfl⟩
  | n + 1, t, acc, h => by
    obtain ⟨l, h1, h2, h3⟩ := digits_bytes n (t / 256) (acc ++ [t % 256]) (by
      intro x hx
      rcases List.mem_append.1 hx with hx | hx
      · exact h x hx
      · simp at hx; omega)
    refine ⟨l, ?_, h2, by simp at h3; omega⟩
    rw [Extern.BytealgMakeNoZero.digits, ← h1]
    congr 1
    simp [byteVals]
theorem run_makeNoZero_bytes (w : World) (n : Nat) (hn : n < 1099511627776) :
    ∃ cs : Array Value, (Extern.BytealgMakeNoZero.makeNoZero #[3] #[26] #[.int .i64 n]).run Tryz.prog w = .ok (.slice (some ⟨w.heap.size, 0, none⟩) n cs.size) (w.drew.drew.alloc (.cells cs 5)) ∧ n ≤ cs.size ∧ cs.size ≤ maxLen ∧ ∃ l : List Nat, cs = (byteVals l).toArray ∧ (∀ x ∈ l, x < 256) ∧ l.length = cs.size := by
  obtain ⟨cs, hr, h1, h2⟩ := Lib.run_makeNoZero (P := Tryz.prog) w #[3] 26 5 Tryz.underlying26 n (by omega)
  refine ⟨cs, hr, h1, h2 (Nat.le_trans (Nat.le_of_lt hn) (by decide)), ?_⟩
  have h0 : ¬ (n : Int) < 0 := by omega
  have h3 : ¬ (281474976710656 : Int) < (n : Int) := by omega
  have hd : Extern.BytealgMakeNoZero.makeNoZero #[3] #[26] #[.int .i64 n] = underlying 26 >>= _ := rfl
  have hr2 := hr
  rw [hd] at hr2
  simp [run_underlying Tryz.underlying26, h0, h3, Question.forced, newRow] at hr2
  have e := congrArg (fun W : World => W.heap[w.drew.drew.heap.size]?) hr2.2
  simp only [heap_alloc_new] at e
  have e2 := (Obj.cells.inj (Option.some.inj e)).1
  rw [hr2.1] at e2
  obtain ⟨T, hT⟩ : ∃ T, Extern.BytealgMakeNoZero.digits cs.size T #[] = cs := ⟨_, e2⟩
  obtain ⟨l, k1, k2, k3⟩ := digits_bytes cs.size T [] (by simp)
  exact ⟨l, hT.symm.trans k1, k2, by simpa using k3⟩
theorem wl_mnz {ro : Option Nat} {N : Nat} {Q : (Exit → (Nat → Value) → World → Prop)} {F : Nat → Value} {w : World} {o : Oper} {ops : Array Oper} {rest : List Oper} {c : Call} {x : Operand} {f : FuncId} {fn : Func} {n : Nat} {i : Int} (hg : o.guard = none) (hd : fits N o.dst = true) (ho : o.op = .call c) (hc : c = { callee := .value (.func f), args := #[x], argTypes := #[3] }) (hx : ev (cutF N F) x = .int .i64 i) (hi : i = (n : Int)) (hn : n < 1099511627776)
    (hf : Tryz.prog.funcs[f]? = some fn) (hname : (fn.name == "runtime.NumGoroutine") = false) (hb : fn.body.isNone = true) (hnx : Extern.findNext fn = none) (he : Extern.find fn = some (Extern.BytealgMakeNoZero.makeNoZero #[3] #[26]))
    (h : ∀ v w' T (l : List Nat), Owb w' T v l → l.length = n → Grew w noB T → Kept (fun _ => False) w w' → wl ro Tryz.prog N ops Q rest (putF F o.dst v) w') : wl ro Tryz.prog N ops Q (o :: rest) F w := by
  subst hc; subst hi
  obtain ⟨cs, hrun, hle, hmx, hcap⟩ := run_makeNoZero_bytes w n hn
  obtain ⟨J, hJ, hJ2, hJ3⟩ := hcap
  have hcall : (callFunc f #[.int .i64 (n : Int)]).run Tryz.prog w = .ok (.value (.slice (some ⟨w.heap.size, 0, none⟩) n cs.size)) (w.drew.drew.alloc (.cells cs 5)) := by
    rw [run_callFunc_extern hf hname hb hnx he, hrun]; rfl
  have hsz : cs.size = J.length := by rw [hJ]; simp [byteVals_length]
  refine wl_op hg hd (y_val (v := .slice (some ⟨w.heap.size, 0, none⟩) n cs.size) (w' := w.drew.drew.alloc (.cells cs 5)) (by simp [execOp, ho, resolve, ev_func, Deferred.ofValue, invoke, hx, hcall]) (h _ _ _ (J.take n) (Owb.of ⟨⟨by rw [byteVals_length]; omega, .inr ⟨w.heap.size, cs.size, cs, by rw [List.length_take, Nat.min_eq_left (by omega)], Nat.zero_le _, ?_, by rw [List.length_take]; omega, hmx, by omega, ?_⟩⟩, fun y hy => hJ2 y (List.mem_of_mem_take hy)⟩) (by rw [List.length_take]; omega) (fun i hi => .inr ?_) (((Kept.refl _ w).drew.drew).alloc _)))
  · exact heap_alloc_new w.drew.drew _
  · rw [hJ, List.length_take, Nat.min_eq_left (by omega), Nat.mul_one]
    simp [byteVals, List.map_take]
  · cases hi; exact Nat.le_refl _
end Go.Proofs.YtknjpdcpmpfklaaGreatDoor
set_option maxRecDepth 100000
namespace Go.Proofs.YtknjpdcpmpfklaaGreatDoor
open Go.RowKit
theorem ps_clamped (n a b : Int) (w0 : World) :
  Calls Tryz.prog 116 #[.int .i64 (n), .int .i64 (a), .int .i64 (b)] w0 fun e w' => e = .returned (.int .i64 (max a (min n b))) ∧ Kept (fun _ => False) w0 w' := by
 refine calls_wq (args := [iv n, iv a, iv b]) 12 Tryz.func116 rfl rfl (Nat.le_of_ble_eq_true rfl) ?_
 have K0 := Kept.refl (fun _ => False) w0
 refine wq_seq (wq_region (wl_v (iv 0) rfl rfl (y_asg rfl rfl rr) (wl_nil fun F1 hF2 => ?_)))
 have s3 : F1 0 = iv n := (hF2 0).trans rfl
 have s4 : F1 1 = iv a := (hF2 1).trans rfl
 have s5 : F1 2 = iv b := (hF2 2).trans rfl
 have s6 : F1 12 = undef := (hF2 12).trans rfl
 clear hF2
 refine then_normal (wq_seq (wq_region (wl_mv rfl rfl rfl s4 (wl_mv rfl rfl rfl s3 (wl_mv rfl rfl rfl s5 (wl_v (iv (min n b)) rfl rfl (y_minR rfl rfl rfl rfl rr) (wl_v (iv (max a (min n b))) rfl rfl (y_maxR rfl rfl rfl rfl rr) (wl_v (iv (max a (min n b))) rfl rfl (y_asg rfl rfl rr) (wl_nil fun F7 hF8 => ?_)))))))))
 have s9 := (hF8 12).trans s6
 have s10 : F7 6 = iv (max a (min n b)) := (hF8 6).trans rfl
 clear hF8
 refine then_normal (wq_ret ?_)
 exact end_tmp (v := iv (max a (min n b))) s9 rfl rfl s10 ⟨rfl, K0⟩
theorem ps_side (n : Int) (w0 : World) :
  Calls Tryz.prog 51 #[.int .i64 (n)] w0 fun e w' => e = .returned (.bool (sideB n)) ∧ Kept (fun _ => False) w0 w' := by
 refine calls_wq (args := [iv n]) 14 Tryz.func51 rfl rfl (Nat.le_of_ble_eq_true rfl) ?_
 have K0 := Kept.refl (fun _ => False) w0
 refine wq_seq (wq_region (wl_v (.bool false) rfl rfl (y_asg rfl rfl rr) (wl_nil fun F1 hF2 => ?_)))
 have s3 : F1 0 = iv n := (hF2 0).trans rfl
 have s4 : F1 14 = undef := (hF2 14).trans rfl
 clear hF2
 refine then_normal (wq_seq ?_)
 by_cases d5 : 8 ≤ n
 ·skip
  by_cases d6 : n ≤ 64
  ·skip
   refine wq_region (wl_mv rfl rfl rfl s3 (wl_v (.bool true) rfl rfl (y_geq rfl rfl rfl (decide_eq_true d5) rr) (wl_v (.bool true) rfl rfl (y_mov rfl rfl rr) (wl_vw (iv n) 2 true 5 rfl rfl rfl rfl rfl (y_mov rfl s3 rr) (wl_vw (.bool true) 2 true 5 rfl rfl rfl rfl rfl (y_leq rfl rfl rfl (decide_eq_true d6) rr) (wl_v (.bool true) rfl rfl (y_pickT rfl rfl rfl rr) (wl_v (.bool true) rfl rfl (y_mov rfl rfl rr) (wl_vw (iv n) 6 true 9 rfl rfl rfl rfl rfl (y_mov rfl s3 rr) (wl_vw (iv (Int.tmod n 8)) 6 true 9 rfl rfl rfl rfl rfl (y_rem rfl rfl rfl (by first | decide | omega) rfl rr) (wl_vw (.bool (decide ((Int.tmod n 8) = 0))) 6 true 9 rfl rfl rfl rfl rfl (y_eqlI rfl rfl rfl rfl rr) (wl_v (.bool (decide ((Int.tmod n 8) = 0))) rfl rfl (y_pickT rfl rfl rfl rr) ?_)))))))))))
   refine wl_v (.bool (decide ((Int.tmod n 8) = 0))) rfl rfl (y_asg rfl rfl rr) (wl_nil fun F7 hF8 => ?_)
   have s9 := (hF8 14).trans s4
   have s10 : F7 2 = .bool (decide ((Int.tmod n 8) = 0)) := (hF8 2).trans rfl
   clear hF8
   refine then_normal (wq_ret ?_)
   exact end_tmp (v := .bool (decide ((Int.tmod n 8) = 0))) s9 rfl rfl s10 ⟨(by first | rw [sideB_low (by omega)] | rw [sideB_high (by omega)] | rw [sideB_mid (by omega) (by omega)]), K0⟩
  ·skip
   refine wq_region (wl_mv rfl rfl rfl s3 (wl_v (.bool true) rfl rfl (y_geq rfl rfl rfl (decide_eq_true d5) rr) (wl_v (.bool true) rfl rfl (y_mov rfl rfl rr) (wl_vw (iv n) 2 true 5 rfl rfl rfl rfl rfl (y_mov rfl s3 rr) (wl_vw (.bool false) 2 true 5 rfl rfl rfl rfl rfl (y_leq rfl rfl rfl (decide_eq_false d6) rr) (wl_v (.bool false) rfl rfl (y_pickT rfl rfl rfl rr) (wl_v (.bool false) rfl rfl (y_mov rfl rfl rr) (wl_unless 6 true 9 rfl rfl rfl (Or.inl rfl) rfl (wl_unless 6 true 9 rfl rfl rfl (Or.inl rfl) rfl (wl_unless 6 true 9 rfl rfl rfl (Or.inl rfl) rfl (wl_v (.bool false) rfl rfl (y_pickF rfl rfl rfl rr) ?_)))))))))))
   refine wl_v (.bool false) rfl rfl (y_asg rfl rfl rr) (wl_nil fun F11 hF12 => ?_)
   have s13 := (hF12 14).trans s4
   have s14 : F11 2 = .bool false := (hF12 2).trans rfl
   clear hF12
   refine then_normal (wq_ret ?_)
   exact end_tmp (v := .bool false) s13 rfl rfl s14 ⟨(by first | rw [sideB_low (by omega)] | rw [sideB_high (by omega)] | rw [sideB_mid (by omega) (by omega)]), K0⟩
 ·skip
  refine wq_region (wl_mv rfl rfl rfl s3 (wl_v (.bool false) rfl rfl (y_geq rfl rfl rfl (decide_eq_false d5) rr) (wl_v (.bool false) rfl rfl (y_mov rfl rfl rr) (wl_unless 2 true 5 rfl rfl rfl (Or.inl rfl) rfl (wl_unless 2 true 5 rfl rfl rfl (Or.inl rfl) rfl (wl_v (.bool false) rfl rfl (y_pickF rfl rfl rfl rr) (wl_v (.bool false) rfl rfl (y_mov rfl rfl rr) (wl_unless 6 true 9 rfl rfl rfl (Or.inl rfl) rfl (wl_unless 6 true 9 rfl rfl rfl (Or.inl rfl) rfl (wl_unless 6 true 9 rfl rfl rfl (Or.inl rfl) rfl (wl_v (.bool false) rfl rfl (y_pickF rfl rfl rfl rr) ?_)))))))))))
  refine wl_v (.bool false) rfl rfl (y_asg rfl rfl rr) (wl_nil fun F15 hF16 => ?_)
  have s17 := (hF16 14).trans s4
  have s18 : F15 2 = .bool false := (hF16 2).trans rfl
  clear hF16
  refine then_normal (wq_ret ?_)
  exact end_tmp (v := .bool false) s17 rfl rfl s18 ⟨(by first | rw [sideB_low (by omega)] | rw [sideB_high (by omega)] | rw [sideB_mid (by omega) (by omega)]), K0⟩
def sidesF (f : FD) (p : Int) : Int × Int := if p = 0 then (f.W, f.H) else (Int.tdiv f.W 2, Int.tdiv f.H 2)
theorem ps_sides (p : Int) (f : FD) (f0 f1 f2 : Value) (T_f0 : Nat → Prop) (T_f1 : Nat → Prop) (T_f2 : Nat → Prop) (w0 : World) (hw : 0 ≤ f.W ∧ f.W ≤ 64) (hh : 0 ≤ f.H ∧ f.H ≤ 64) (_h_f0 : Byt w0 T_f0 f0 ((f).p0)) (_h_f1 : Byt w0 T_f1 f1 ((f).p1)) (_h_f2 : Byt w0 T_f2 f2 ((f).p2)) :
  Calls Tryz.prog 52 #[.agg #[.int .i64 ((f).W), .int .i64 ((f).H), f0, f1, f2], .int .i64 (p)] w0 fun e w' => e = .returned (.tuple #[.int .i64 ((sidesF f p).1), .int .i64 ((sidesF f p).2)]) ∧ Kept (fun _ => False) w0 w' := by
 refine calls_wq (args := [.agg #[iv (f.W), iv (f.H), f0, f1, f2], iv p]) 18 Tryz.func52 rfl rfl (Nat.le_of_ble_eq_true rfl) ?_
 have K0 := Kept.refl (fun _ => False) w0
 have g_f0 := Grew.refl w0 T_f0
 have g_f1 := Grew.refl w0 T_f1
 have g_f2 := Grew.refl w0 T_f2
 refine wq_seq (wq_region (wl_box_stc (vs := [iv (f.W), iv (f.H), f0, f1, f2]) rfl rfl rfl rfl fun p1 w2 B4 g5 k3 => ?_))
 have K13 := K0.tr k3
 refine wl_v (iv 0) rfl rfl (y_asg rfl rfl rr) (wl_v (iv 0) rfl rfl (y_asg rfl rfl rr) (wl_nil fun F14 hF15 => ?_))
 have s16 : F14 1 = iv p := (hF15 1).trans rfl
 have s17 : F14 18 = undef := (hF15 18).trans rfl
 have s18 : F14 2 = pt p1 0 := (hF15 2).trans rfl
 clear hF15
 refine then_normal (wq_seq (wq_seq (wq_region (wl_mv rfl rfl rfl s16 (wl_v (.bool (decide (p = 0))) rfl rfl (y_eqlI rfl rfl rfl rfl rr) (wl_nil fun F19 hF20 => ?_))))))
 obtain ⟨s21, s22⟩ := t2 hF20 18 s17 2 s18
 have s23 : F19 7 = .bool (decide (p = 0)) := (hF20 7).trans rfl
 clear hF20
 refine then_normal ?_
 refine wq_cond s23 (fun c24 => ?_) (fun c24 => ?_)
 ·replace c24 := of_decide_eq_true c24
  refine wq_seq ?_
  refine wq_said [some 8, some 9, some 10, some 11, some 4, some 5] [Pd.eq (pt p1 0), Pd.eq (iv (f.W)), Pd.eq (pt p1 1), Pd.eq (iv (f.H)), Pd.eq (iv (f.W)), Pd.eq (iv (f.H))] (by kernel_rfl) (by kernel_rfl) ?_ ?_
  ·refine stepsF_cons ?_ ?_
   ·refine StepF.one rfl fun F_ w_ hR hout hD => ?_
    exact (y_fieldR (n := 1) rfl ((hout 2 rfl (by decide)).trans s22) Tryz.underlying29 rfl (by kernel_rfl) (by decide) rfl ⟨rfl, Kept.refl _ _⟩)
   refine stepsF_cons ?_ ?_
   ·refine StepF.one rfl fun F_ w_ hR hout hD => ?_
    have g8 : F_ 8 = pt p1 0 := (hD.get 0 rfl rfl rfl)
    exact (y_ld_stc rfl g8 Tryz.underlying3 (B4.all hR id) rfl rfl ⟨rfl, Kept.refl _ _⟩)
   refine stepsF_cons ?_ ?_
   ·refine StepF.one rfl fun F_ w_ hR hout hD => ?_
    exact (y_fieldR (n := 1) rfl ((hout 2 rfl (by decide)).trans s22) Tryz.underlying29 rfl (by kernel_rfl) (by decide) rfl ⟨rfl, Kept.refl _ _⟩)
   refine stepsF_cons ?_ ?_
   ·refine StepF.one rfl fun F_ w_ hR hout hD => ?_
    have g10 : F_ 10 = pt p1 1 := (hD.get 0 rfl rfl rfl)
    exact (y_ld_stc rfl g10 Tryz.underlying3 (B4.all hR id) rfl rfl ⟨rfl, Kept.refl _ _⟩)
   refine stepsF_cons ?_ ?_
   ·refine StepF.one rfl fun F_ w_ hR hout hD => ?_
    have g9 : F_ 9 = iv (f.W) := (hD.get 0 rfl rfl rfl)
    exact (y_asg rfl g9 ⟨rfl, Kept.refl _ _⟩)
   refine stepsF_cons ?_ ?_
   ·refine StepF.one rfl fun F_ w_ hR hout hD => ?_
    have g11 : F_ 11 = iv (f.H) := (hD.get 0 rfl rfl rfl)
    exact (y_asg rfl g11 ⟨rfl, Kept.refl _ _⟩)
   exact stepsF_nil
  intro v25 F26 w27 k28 G29 hF30
  have K36 := K13.tr k28
  have s37 := (hF30 18).trans s21
  have s38 : F26 4 = iv (f.W) := (hF30 4).trans (G29 4 (by decide))
  have s39 : F26 5 = iv (f.H) := (hF30 5).trans (G29 5 (by decide))
  clear G29 hF30
  refine then_normal (wq_ret (then_ret ?_))
  exact end_2 s37 rfl (res_tmp (v := iv (f.W)) rfl s38) (res_tmp (v := iv (f.H)) rfl s39) ⟨(by unfold sidesF; first | rw [if_pos (by assumption)] | rw [if_neg (by assumption)]), K36⟩
 ·replace c24 := of_decide_eq_false c24
  refine wq_skip (then_normal (wq_seq ?_))
  refine wq_said [some 12, some 13, some 14, some 15, some 16, some 17, some 4, some 5] [Pd.eq (pt p1 0), Pd.eq (iv (f.W)), Pd.eq (iv (Int.tdiv f.W 2)), Pd.eq (pt p1 1), Pd.eq (iv (f.H)), Pd.eq (iv (Int.tdiv f.H 2)), Pd.eq (iv (Int.tdiv f.W 2)), Pd.eq (iv (Int.tdiv f.H 2))] (by kernel_rfl) (by kernel_rfl) ?_ ?_
  ·refine stepsF_cons ?_ ?_
   ·refine StepF.one rfl fun F_ w_ hR hout hD => ?_
    exact (y_fieldR (n := 1) rfl ((hout 2 rfl (by decide)).trans s22) Tryz.underlying29 rfl (by kernel_rfl) (by decide) rfl ⟨rfl, Kept.refl _ _⟩)
   refine stepsF_cons ?_ ?_
   ·refine StepF.one rfl fun F_ w_ hR hout hD => ?_
    have g12 : F_ 12 = pt p1 0 := (hD.get 0 rfl rfl rfl)
    exact (y_ld_stc rfl g12 Tryz.underlying3 (B4.all hR id) rfl rfl ⟨rfl, Kept.refl _ _⟩)
   refine stepsF_cons ?_ ?_
   ·refine StepF.one rfl fun F_ w_ hR hout hD => ?_
    have g13 : F_ 13 = iv (f.W) := (hD.get 0 rfl rfl rfl)
    exact (y_quo rfl g13 rfl (by first | decide | omega) (i64_i rfl (by rw [tdiv2 (by omega)]; omega)) ⟨rfl, Kept.refl _ _⟩)
   refine stepsF_cons ?_ ?_
   ·refine StepF.one rfl fun F_ w_ hR hout hD => ?_
    exact (y_fieldR (n := 1) rfl ((hout 2 rfl (by decide)).trans s22) Tryz.underlying29 rfl (by kernel_rfl) (by decide) rfl ⟨rfl, Kept.refl _ _⟩)
   refine stepsF_cons ?_ ?_
   ·refine StepF.one rfl fun F_ w_ hR hout hD => ?_
    have g15 : F_ 15 = pt p1 1 := (hD.get 0 rfl rfl rfl)
    exact (y_ld_stc rfl g15 Tryz.underlying3 (B4.all hR id) rfl rfl ⟨rfl, Kept.refl _ _⟩)
   refine stepsF_cons ?_ ?_
   ·refine StepF.one rfl fun F_ w_ hR hout hD => ?_
    have g16 : F_ 16 = iv (f.H) := (hD.get 0 rfl rfl rfl)
    exact (y_quo rfl g16 rfl (by first | decide | omega) (i64_i rfl (by rw [tdiv2 (by omega)]; omega)) ⟨rfl, Kept.refl _ _⟩)
   refine stepsF_cons ?_ ?_
   ·refine StepF.one rfl fun F_ w_ hR hout hD => ?_
    have g14 : F_ 14 = iv (Int.tdiv f.W 2) := (hD.get 0 rfl rfl rfl)
    exact (y_asg rfl g14 ⟨rfl, Kept.refl _ _⟩)
   refine stepsF_cons ?_ ?_
   ·refine StepF.one rfl fun F_ w_ hR hout hD => ?_
    have g17 : F_ 17 = iv (Int.tdiv f.H 2) := (hD.get 0 rfl rfl rfl)
    exact (y_asg rfl g17 ⟨rfl, Kept.refl _ _⟩)
   exact stepsF_nil
  intro v40 F41 w42 k43 G44 hF45
  have K51 := K13.tr k43
  have s52 := (hF45 18).trans s21
  have s53 : F41 4 = iv (Int.tdiv f.W 2) := (hF45 4).trans (G44 6 (by decide))
  have s54 : F41 5 = iv (Int.tdiv f.H 2) := (hF45 5).trans (G44 7 (by decide))
  clear G44 hF45
  refine then_normal (wq_ret ?_)
  exact end_2 s52 rfl (res_tmp (v := iv (Int.tdiv f.W 2)) rfl s53) (res_tmp (v := iv (Int.tdiv f.H 2)) rfl s54) ⟨(by unfold sidesF; first | rw [if_pos (by assumption)] | rw [if_neg (by assumption)]), K51⟩
theorem quarter {w h : Int} (h1 : w % 8 = 0) (h2 : h % 8 = 0) (hw : 0 ≤ w) (hh : 0 ≤ h) : Int.tdiv w 2 * Int.tdiv h 2 = w * h / 4 := by
  rw [tdiv2 hw, tdiv2 hh]
  obtain ⟨a, rfl⟩ : ∃ a, w = 2 * a := ⟨w / 2, by omega⟩
  obtain ⟨b, rfl⟩ : ∃ b, h = 2 * b := ⟨h / 2, by omega⟩
  rw [show 2 * a / 2 = a by omega, show 2 * b / 2 = b by omega, show 2 * a * (2 * b) = 4 * (a * b) by rw [Int.mul_assoc, Int.mul_left_comm a 2 b, ← Int.mul_assoc]; rfl]
  omega
theorem sides_area {f : FD} (hw : sideB f.W = true) (hh : sideB f.H = true) (p : Int) : 0 ≤ (sidesF f p).1 * (sidesF f p).2 ∧ (sidesF f p).1 * (sidesF f p).2 ≤ 4096 ∧ (sidesF f p).1 * (sidesF f p).2 = (if p = 0 then f.W * f.H else f.W * f.H / 4) := by
  have h := area_bounds hw hh
  have h1 := (sideB_iff _).1 hw
  have h2 := (sideB_iff _).1 hh
  unfold sidesF
  by_cases hp : p = 0
  · rw [if_pos hp, if_pos hp]; refine ⟨?_, ?_, rfl⟩ <;> (dsimp only; omega)
  · rw [if_neg hp, if_neg hp]
    have q := quarter h1.2.2 h2.2.2 (by omega) (by omega)
    dsimp only
    rw [q]; refine ⟨?_, ?_, rfl⟩ <;> omega
theorem check_parts {f : FD} (hw : sideB f.W = true) (hh : sideB f.H = true) : okF f ↔ (f.p0.length : Int) = (sidesF f ((0 : Nat) : Int)).1 * (sidesF f ((0 : Nat) : Int)).2 ∧ (f.p1.length : Int) = (sidesF f ((1 : Nat) : Int)).1 * (sidesF f ((1 : Nat) : Int)).2 ∧ (f.p2.length : Int) = (sidesF f ((2 : Nat) : Int)).1 * (sidesF f ((2 : Nat) : Int)).2 := by
  have har := area_bounds hw hh
  rw [(sides_area hw hh _).2.2, (sides_area hw hh _).2.2, (sides_area hw hh _).2.2, if_pos (show ((0 : Nat) : Int) = 0 from rfl), if_neg (by decide), if_neg (by decide)]
  unfold okF
  rw [tdiv4 (by omega)]
  exact ⟨fun h => h.2.2, fun h => ⟨hw, hh, h⟩⟩
theorem check_yes {f : FD} (hw : sideB f.W = true) (hh : sideB f.H = true) (h0 : (f.p0.length : Int) = (sidesF f ((0 : Nat) : Int)).1 * (sidesF f ((0 : Nat) : Int)).2) (h1 : (f.p1.length : Int) = (sidesF f ((1 : Nat) : Int)).1 * (sidesF f ((1 : Nat) : Int)).2) (h2 : (f.p2.length : Int) = (sidesF f ((2 : Nat) : Int)).1 * (sidesF f ((2 : Nat) : Int)).2) : checkE f = 0 := checkE_ok ((check_parts hw hh).2 ⟨h0, h1, h2⟩)
theorem check_no0 {f : FD} (hw : sideB f.W = true) (hh : sideB f.H = true) (h : (f.p0.length : Int) ≠ (sidesF f ((0 : Nat) : Int)).1 * (sidesF f ((0 : Nat) : Int)).2) : checkE f = 70 := checkE_no fun k => h ((check_parts hw hh).1 k).1
theorem check_no1 {f : FD} (hw : sideB f.W = true) (hh : sideB f.H = true) (h : (f.p1.length : Int) ≠ (sidesF f ((1 : Nat) : Int)).1 * (sidesF f ((1 : Nat) : Int)).2) : checkE f = 70 := checkE_no fun k => h ((check_parts hw hh).1 k).2.1
theorem check_no2 {f : FD} (hw : sideB f.W = true) (hh : sideB f.H = true) (h : (f.p2.length : Int) ≠ (sidesF f ((2 : Nat) : Int)).1 * (sidesF f ((2 : Nat) : Int)).2) : checkE f = 70 := checkE_no fun k => h ((check_parts hw hh).1 k).2.2
theorem pl_check (f : FD) (f0 f1 f2 : Value) (T_f0 : Nat → Prop) (T_f1 : Nat → Prop) (T_f2 : Nat → Prop) (w0 : World) (h_f0 : Byt w0 T_f0 f0 ((f).p0)) (h_f1 : Byt w0 T_f1 f1 ((f).p1)) (h_f2 : Byt w0 T_f2 f2 ((f).p2)) :
  Calls Tryz.prog 19 #[.agg #[.int .i64 ((f).W), .int .i64 ((f).H), f0, f1, f2]] w0 fun e w' => e = .returned (.int .i64 (checkE f)) ∧ Kept (fun _ => False) w0 w' := by
 refine calls_wq (args := [.agg #[iv (f.W), iv (f.H), f0, f1, f2]]) 36 Tryz.func19 rfl rfl (Nat.le_of_ble_eq_true rfl) ?_
 have K0 := Kept.refl (fun _ => False) w0
 have g_f0 := Grew.refl w0 T_f0
 have g_f1 := Grew.refl w0 T_f1
 have g_f2 := Grew.refl w0 T_f2
 refine wq_seq (wq_region (wl_box_stc (vs := [iv (f.W), iv (f.H), f0, f1, f2]) rfl rfl rfl rfl fun p1 w2 B4 g5 k3 => ?_))
 have B10 := h_f0.all k3 Apart.none
 have B11 := h_f1.all k3 Apart.none
 have B12 := h_f2.all k3 Apart.none
 have K13 := K0.tr k3
 refine wl_v (iv 0) rfl rfl (y_asg rfl rfl rr) (wl_nil fun F14 hF15 => ?_)
 have s16 : F14 36 = undef := (hF15 36).trans rfl
 have s17 : F14 1 = pt p1 0 := (hF15 1).trans rfl
 clear hF15
 refine then_normal (wq_seq (wq_seq ?_))
 rcases Bool.eq_false_or_eq_true (sideB (f.W)) with d18 | d18
 ·skip
  rcases Bool.eq_false_or_eq_true (sideB (f.H)) with d19 | d19
  ·skip
   refine wq_region (wl_v (pt p1 0) rfl rfl (y_fieldR (n := 1) rfl s17 Tryz.underlying29 rfl (by kernel_rfl) (by decide) rfl rr) (wl_v (iv (f.W)) rfl rfl (y_ld_stc rfl rfl Tryz.underlying3 B4 rfl rfl rr) (wl_call (R := fun v_ w_ => v_ = .bool true ∧ Kept (fun _ => False) w2 w_) rfl rfl (y_cs rfl rfl rfl (fun _ _ => by kernel_rfl) (ev_func _) (vsC rfl vsN) (ps_side (f.W)  _   ) (fun e_ w_ h_ => ⟨_, h_.1, (congrArg Value.bool d18), h_.2⟩)) ?_)))
   rintro _ w20 ⟨rfl, k21⟩
   have B22 := B10.all k21 Apart.none
   have B23 := B11.all k21 Apart.none
   have B24 := B12.all k21 Apart.none
   have B25 := B4.all k21 id
   have K26 := K13.tr k21
   refine wl_v (.bool false) rfl rfl (y_not rfl rfl rfl rr) (wl_v (.bool false) rfl rfl (y_mov rfl rfl rr) (wl_vw (pt p1 1) 4 false 11 rfl rfl rfl rfl rfl (y_fieldR (n := 1) rfl s17 Tryz.underlying29 rfl (by kernel_rfl) (by decide) rfl rr) (wl_vw (iv (f.H)) 4 false 11 rfl rfl rfl rfl rfl (y_ld_stc rfl rfl Tryz.underlying3 B25 rfl rfl rr) (wl_callw (R := fun v_ w_ => v_ = .bool true ∧ Kept (fun _ => False) w20 w_) 4 false 11 rfl rfl rfl rfl rfl (y_cs rfl rfl rfl (fun _ _ => by kernel_rfl) (ev_func _) (vsC rfl vsN) (ps_side (f.H)  _   ) (fun e_ w_ h_ => ⟨_, h_.1, (congrArg Value.bool d19), h_.2⟩)) ?_))))
   rintro _ w27 ⟨rfl, k28⟩
   have B29 := B22.all k28 Apart.none
   have B30 := B23.all k28 Apart.none
   have B31 := B24.all k28 Apart.none
   have B32 := B25.all k28 id
   have K33 := K26.tr k28
   refine wl_vw (.bool false) 4 false 11 rfl rfl rfl rfl rfl (y_not rfl rfl rfl rr) (wl_v (.bool false) rfl rfl (y_pickF rfl rfl rfl rr) (wl_nil fun F34 hF35 => ?_))
   obtain ⟨s36, s37⟩ := t2 hF35 36 s16 1 s17
   have s38 : F34 16 = .bool false := (hF35 16).trans rfl
   clear hF35
   refine then_normal ?_
   refine wq_cond (t := false) s38 (fun e => by cases e) (fun _ => ?_)
   refine wq_skip (then_normal (wq_seq (wq_seq ?_)))
   have hsw : sideB f.W = true := by assumption
   have hsh : sideB f.H = true := by assumption
   have hws := (sideB_iff _).1 hsw
   have hhs := (sideB_iff _).1 hsh
   have hA := sides_area hsw hsh
   have har := area_bounds hsw hsh
   refine wq_region (wl_v (pt p1 2) rfl rfl (y_fieldR (n := 3) rfl s37 Tryz.underlying29 rfl (by kernel_rfl) (by decide) rfl rr) (wl_v (.agg #[f0, f1, f2]) rfl rfl (y_ldPl rfl rfl B32 rfl rfl rfl rr) (wl_v (iv 0) rfl rfl (y_mov rfl rfl rr) (wl_nil fun F39 hF40 => ?_))))
   obtain ⟨s41, s42⟩ := t2 hF40 36 s36 1 s37
   have s43 : F39 18 = .agg #[f0, f1, f2] := (hF40 18).trans rfl
   have s44 : F39 19 = iv 0 := (hF40 19).trans rfl
   clear hF40
   refine then_normal (wq_block (wq_rounds 4 (wqr_step (wq_seq (wq_region (wl_v (.bool true) rfl rfl (y_lss rfl s44 rfl rfl rr) (wl_nil fun F45 hF46 => ?_)))))))
   obtain ⟨s47, s48, s49, s50⟩ := t4 hF46 36 s41 1 s42 18 s43 19 s44
   have s51 : F45 20 = .bool true := (hF46 20).trans rfl
   clear hF46
   refine then_normal (wq_seq ?_)
   refine wq_cond (t := true) s51 (fun _ => ?_) (fun e => by cases e)
   refine wq_skip (then_normal (wq_seq (wq_block (wq_seq (wq_region (wl_mv rfl rfl rfl s50 (wl_v f0 rfl rfl (y_ixPl 0 rfl s49 s50 (by decide) rfl rr) (wl_v (iv 0) rfl rfl (y_asg rfl rfl rr) (wl_v f0 rfl rfl (y_asg rfl rfl rr) (wl_nil fun F52 hF53 => ?_))))))))))
   obtain ⟨s54, s55, s56, s57⟩ := t4 hF53 36 s47 1 s48 18 s49 19 s50
   have s58 : F52 3 = iv 0 := (hF53 3).trans rfl
   have s59 : F52 4 = f0 := (hF53 4).trans rfl
   clear hF53
   refine then_normal (wq_seq (wq_region (wl_v (.agg #[iv (f.W), iv (f.H), f0, f1, f2]) rfl rfl (y_load_stc stcT_frame rfl s55 B32 rr) (wl_mv rfl rfl rfl s58 (wl_cs rfl rfl rfl rfl rfl (fun _ _ => by kernel_rfl) (vsC rfl (vsC rfl vsN)) (ps_sides 0 f f0 f1 f2 T_f0 T_f1 T_f2 _ (by omega) (by omega) B29 B30 B31 ) fun w60 k61 => ?_)))))
   have B62 := B29.all k61 Apart.none
   have B63 := B30.all k61 Apart.none
   have B64 := B31.all k61 Apart.none
   have B65 := B32.all k61 id
   have K66 := K33.tr k61
   refine wl_v (.tuple #[iv ((sidesF f 0).1), iv ((sidesF f 0).2)]) rfl rfl (y_mov rfl rfl rr) (wl_v (iv ((sidesF f 0).1)) rfl rfl (y_ext rfl rfl rfl rr) (wl_v (iv ((sidesF f 0).2)) rfl rfl (y_ext rfl rfl rfl rr) (wl_v (iv ((sidesF f 0).1)) rfl rfl (y_asg rfl rfl rr) (wl_v (iv ((sidesF f 0).2)) rfl rfl (y_asg rfl rfl rr) (wl_nil fun F67 hF68 => ?_)))))
   obtain ⟨s69, s70, s71, s72, s73⟩ := t5 hF68 36 s54 1 s55 18 s56 19 s57 4 s59
   have s74 : F67 5 = iv ((sidesF f 0).1) := (hF68 5).trans rfl
   have s75 : F67 6 = iv ((sidesF f 0).2) := (hF68 6).trans rfl
   clear hF68
   refine then_normal (wq_seq (wq_region (wl_mv rfl rfl rfl s73 (wl_v (iv (((f.p0).length : Nat) : Int)) rfl rfl (y_lenV rfl rfl rfl B62 rr) (wl_mv rfl rfl rfl s74 (wl_mv rfl rfl rfl s75 (wl_v (iv ((sidesF f ((0 : Nat) : Int)).1 * (sidesF f ((0 : Nat) : Int)).2)) rfl rfl (y_mul rfl rfl rfl (i64_i rfl ⟨Int.le_trans (by decide) (hA _).1, Int.le_trans (hA _).2.1 (by decide)⟩) rr) (wl_v (.bool (decide ((((f.p0).length : Nat) : Int) ≠ ((sidesF f ((0 : Nat) : Int)).1 * (sidesF f ((0 : Nat) : Int)).2)))) rfl rfl (y_neqI rfl rfl rfl rfl rr) (wl_nil fun F76 hF77 => ?_)))))))))
   obtain ⟨s78, s79, s80, s81⟩ := t4 hF77 36 s69 1 s70 18 s71 19 s72
   have s82 : F76 34 = .bool (decide ((((f.p0).length : Nat) : Int) ≠ ((sidesF f ((0 : Nat) : Int)).1 * (sidesF f ((0 : Nat) : Int)).2))) := (hF77 34).trans rfl
   clear hF77
   refine then_normal ?_
   refine wq_cond s82 (fun c83 => ?_) (fun c83 => ?_)
   ·replace c83 := of_decide_eq_true c83
    refine wq_seq (wq_region (wl_v (iv 70) rfl rfl (y_asg rfl rfl rr) (wl_nil fun F84 hF85 => ?_)))
    have s86 := (hF85 36).trans s78
    have s87 : F84 2 = iv 70 := (hF85 2).trans rfl
    clear hF85
    refine then_normal (wq_ret (in_ret (then_ret (then_ret (in_ret (then_ret ?_))))))
    exact end_tmp (v := iv 70) s86 rfl rfl s87 ⟨(by first | rw [check_yes hsw hsh (by first | assumption | (apply Decidable.byContradiction; assumption)) (by first | assumption | (apply Decidable.byContradiction; assumption)) (by first | assumption | (apply Decidable.byContradiction; assumption))] | rw [check_no0 hsw hsh (by assumption)] | rw [check_no1 hsw hsh (by assumption)] | rw [check_no2 hsw hsh (by assumption)] | rw [checkE_no (by rintro ⟨h1, h2, h3, h4, h5⟩; simp_all; done)]), K66⟩
   ·replace c83 := of_decide_eq_false c83
    refine wq_skip (in_normal (then_normal (wq_region (wl_v (iv ((1 : Nat) : Int)) rfl rfl (y_add rfl s81 rfl (i64_n (by omega) (by omega)) rr) (wl_v (iv ((1 : Nat) : Int)) rfl rfl (y_mov rfl rfl rr) (wl_nil fun F88 hF89 => ?_))))))
    obtain ⟨s90, s91, s92⟩ := t3 hF89 36 s78 1 s79 18 s80
    have s93 : F88 19 = iv ((1 : Nat) : Int) := (hF89 19).trans rfl
    clear hF89
    refine then_normal (wqr_step (wq_seq (wq_region (wl_v (.bool true) rfl rfl (y_lss rfl s93 rfl rfl rr) (wl_nil fun F94 hF95 => ?_)))))
    obtain ⟨s96, s97, s98, s99⟩ := t4 hF95 36 s90 1 s91 18 s92 19 s93
    have s100 : F94 20 = .bool true := (hF95 20).trans rfl
    clear hF95
    refine then_normal (wq_seq ?_)
    refine wq_cond (t := true) s100 (fun _ => ?_) (fun e => by cases e)
    refine wq_skip (then_normal (wq_seq (wq_block (wq_seq (wq_region (wl_mv rfl rfl rfl s99 (wl_v f1 rfl rfl (y_ixPl 1 rfl s98 s99 (by decide) rfl rr) (wl_v (iv ((1 : Nat) : Int)) rfl rfl (y_asg rfl rfl rr) (wl_v f1 rfl rfl (y_asg rfl rfl rr) (wl_nil fun F101 hF102 => ?_))))))))))
    obtain ⟨s103, s104, s105, s106⟩ := t4 hF102 36 s96 1 s97 18 s98 19 s99
    have s107 : F101 3 = iv ((1 : Nat) : Int) := (hF102 3).trans rfl
    have s108 : F101 4 = f1 := (hF102 4).trans rfl
    clear hF102
    refine then_normal (wq_seq (wq_region (wl_v (.agg #[iv (f.W), iv (f.H), f0, f1, f2]) rfl rfl (y_load_stc stcT_frame rfl s104 B65 rr) (wl_mv rfl rfl rfl s107 (wl_cs rfl rfl rfl rfl rfl (fun _ _ => by kernel_rfl) (vsC rfl (vsC rfl vsN)) (ps_sides ((1 : Nat) : Int) f f0 f1 f2 T_f0 T_f1 T_f2 _ (by omega) (by omega) B62 B63 B64 ) fun w109 k110 => ?_)))))
    have B111 := B62.all k110 Apart.none
    have B112 := B63.all k110 Apart.none
    have B113 := B64.all k110 Apart.none
    have B114 := B65.all k110 id
    have K115 := K66.tr k110
    refine wl_v (.tuple #[iv ((sidesF f ((1 : Nat) : Int)).1), iv ((sidesF f ((1 : Nat) : Int)).2)]) rfl rfl (y_mov rfl rfl rr) (wl_v (iv ((sidesF f ((1 : Nat) : Int)).1)) rfl rfl (y_ext rfl rfl rfl rr) (wl_v (iv ((sidesF f ((1 : Nat) : Int)).2)) rfl rfl (y_ext rfl rfl rfl rr) (wl_v (iv ((sidesF f ((1 : Nat) : Int)).1)) rfl rfl (y_asg rfl rfl rr) (wl_v (iv ((sidesF f ((1 : Nat) : Int)).2)) rfl rfl (y_asg rfl rfl rr) (wl_nil fun F116 hF117 => ?_)))))
    obtain ⟨s118, s119, s120, s121, s122⟩ := t5 hF117 36 s103 1 s104 18 s105 19 s106 4 s108
    have s123 : F116 5 = iv ((sidesF f ((1 : Nat) : Int)).1) := (hF117 5).trans rfl
    have s124 : F116 6 = iv ((sidesF f ((1 : Nat) : Int)).2) := (hF117 6).trans rfl
    clear hF117
    refine then_normal (wq_seq (wq_region (wl_mv rfl rfl rfl s122 (wl_v (iv (((f.p1).length : Nat) : Int)) rfl rfl (y_lenV rfl rfl rfl B112 rr) (wl_mv rfl rfl rfl s123 (wl_mv rfl rfl rfl s124 (wl_v (iv ((sidesF f ((1 : Nat) : Int)).1 * (sidesF f ((1 : Nat) : Int)).2)) rfl rfl (y_mul rfl rfl rfl (i64_i rfl ⟨Int.le_trans (by decide) (hA _).1, Int.le_trans (hA _).2.1 (by decide)⟩) rr) (wl_v (.bool (decide ((((f.p1).length : Nat) : Int) ≠ ((sidesF f ((1 : Nat) : Int)).1 * (sidesF f ((1 : Nat) : Int)).2)))) rfl rfl (y_neqI rfl rfl rfl rfl rr) (wl_nil fun F125 hF126 => ?_)))))))))
    obtain ⟨s127, s128, s129, s130⟩ := t4 hF126 36 s118 1 s119 18 s120 19 s121
    have s131 : F125 34 = .bool (decide ((((f.p1).length : Nat) : Int) ≠ ((sidesF f ((1 : Nat) : Int)).1 * (sidesF f ((1 : Nat) : Int)).2))) := (hF126 34).trans rfl
    clear hF126
    refine then_normal ?_
    refine wq_cond s131 (fun c132 => ?_) (fun c132 => ?_)
    ·replace c132 := of_decide_eq_true c132
     refine wq_seq (wq_region (wl_v (iv 70) rfl rfl (y_asg rfl rfl rr) (wl_nil fun F133 hF134 => ?_)))
     have s135 := (hF134 36).trans s127
     have s136 : F133 2 = iv 70 := (hF134 2).trans rfl
     clear hF134
     refine then_normal (wq_ret (in_ret (then_ret (then_ret (in_ret (then_ret ?_))))))
     exact end_tmp (v := iv 70) s135 rfl rfl s136 ⟨(by first | rw [check_yes hsw hsh (by first | assumption | (apply Decidable.byContradiction; assumption)) (by first | assumption | (apply Decidable.byContradiction; assumption)) (by first | assumption | (apply Decidable.byContradiction; assumption))] | rw [check_no0 hsw hsh (by assumption)] | rw [check_no1 hsw hsh (by assumption)] | rw [check_no2 hsw hsh (by assumption)] | rw [checkE_no (by rintro ⟨h1, h2, h3, h4, h5⟩; simp_all; done)]), K115⟩
    ·replace c132 := of_decide_eq_false c132
     refine wq_skip (in_normal (then_normal (wq_region (wl_v (iv ((2 : Nat) : Int)) rfl rfl (y_add rfl s130 rfl (i64_n (by omega) (by omega)) rr) (wl_v (iv ((2 : Nat) : Int)) rfl rfl (y_mov rfl rfl rr) (wl_nil fun F137 hF138 => ?_))))))
     obtain ⟨s139, s140, s141⟩ := t3 hF138 36 s127 1 s128 18 s129
     have s142 : F137 19 = iv ((2 : Nat) : Int) := (hF138 19).trans rfl
     clear hF138
     refine then_normal (wqr_step (wq_seq (wq_region (wl_v (.bool true) rfl rfl (y_lss rfl s142 rfl rfl rr) (wl_nil fun F143 hF144 => ?_)))))
     obtain ⟨s145, s146, s147, s148⟩ := t4 hF144 36 s139 1 s140 18 s141 19 s142
     have s149 : F143 20 = .bool true := (hF144 20).trans rfl
     clear hF144
     refine then_normal (wq_seq ?_)
     refine wq_cond (t := true) s149 (fun _ => ?_) (fun e => by cases e)
     refine wq_skip (then_normal (wq_seq (wq_block (wq_seq (wq_region (wl_mv rfl rfl rfl s148 (wl_v f2 rfl rfl (y_ixPl 2 rfl s147 s148 (by decide) rfl rr) (wl_v (iv ((2 : Nat) : Int)) rfl rfl (y_asg rfl rfl rr) (wl_v f2 rfl rfl (y_asg rfl rfl rr) (wl_nil fun F150 hF151 => ?_))))))))))
     obtain ⟨s152, s153, s155⟩ := t3 hF151 36 s145 1 s146 19 s148
     have s156 : F150 3 = iv ((2 : Nat) : Int) := (hF151 3).trans rfl
     have s157 : F150 4 = f2 := (hF151 4).trans rfl
     clear hF151
     refine then_normal (wq_seq (wq_region (wl_v (.agg #[iv (f.W), iv (f.H), f0, f1, f2]) rfl rfl (y_load_stc stcT_frame rfl s153 B114 rr) (wl_mv rfl rfl rfl s156 (wl_cs rfl rfl rfl rfl rfl (fun _ _ => by kernel_rfl) (vsC rfl (vsC rfl vsN)) (ps_sides ((2 : Nat) : Int) f f0 f1 f2 T_f0 T_f1 T_f2 _ (by omega) (by omega) B111 B112 B113 ) fun w158 k159 => ?_)))))
     have B162 := B113.all k159 Apart.none
     have K164 := K115.tr k159
     refine wl_v (.tuple #[iv ((sidesF f ((2 : Nat) : Int)).1), iv ((sidesF f ((2 : Nat) : Int)).2)]) rfl rfl (y_mov rfl rfl rr) (wl_v (iv ((sidesF f ((2 : Nat) : Int)).1)) rfl rfl (y_ext rfl rfl rfl rr) (wl_v (iv ((sidesF f ((2 : Nat) : Int)).2)) rfl rfl (y_ext rfl rfl rfl rr) (wl_v (iv ((sidesF f ((2 : Nat) : Int)).1)) rfl rfl (y_asg rfl rfl rr) (wl_v (iv ((sidesF f ((2 : Nat) : Int)).2)) rfl rfl (y_asg rfl rfl rr) (wl_nil fun F165 hF166 => ?_)))))
     obtain ⟨s167, s170, s171⟩ := t3 hF166 36 s152 19 s155 4 s157
     have s172 : F165 5 = iv ((sidesF f ((2 : Nat) : Int)).1) := (hF166 5).trans rfl
     have s173 : F165 6 = iv ((sidesF f ((2 : Nat) : Int)).2) := (hF166 6).trans rfl
     clear hF166
     refine then_normal (wq_seq (wq_region (wl_mv rfl rfl rfl s171 (wl_v (iv (((f.p2).length : Nat) : Int)) rfl rfl (y_lenV rfl rfl rfl B162 rr) (wl_mv rfl rfl rfl s172 (wl_mv rfl rfl rfl s173 (wl_v (iv ((sidesF f ((2 : Nat) : Int)).1 * (sidesF f ((2 : Nat) : Int)).2)) rfl rfl (y_mul rfl rfl rfl (i64_i rfl ⟨Int.le_trans (by decide) (hA _).1, Int.le_trans (hA _).2.1 (by decide)⟩) rr) (wl_v (.bool (decide ((((f.p2).length : Nat) : Int) ≠ ((sidesF f ((2 : Nat) : Int)).1 * (sidesF f ((2 : Nat) : Int)).2)))) rfl rfl (y_neqI rfl rfl rfl rfl rr) (wl_nil fun F174 hF175 => ?_)))))))))
     obtain ⟨s176, s179⟩ := t2 hF175 36 s167 19 s170
     have s180 : F174 34 = .bool (decide ((((f.p2).length : Nat) : Int) ≠ ((sidesF f ((2 : Nat) : Int)).1 * (sidesF f ((2 : Nat) : Int)).2))) := (hF175 34).trans rfl
     clear hF175
     refine then_normal ?_
     refine wq_cond s180 (fun c181 => ?_) (fun c181 => ?_)
     ·replace c181 := of_decide_eq_true c181
      refine wq_seq (wq_region (wl_v (iv 70) rfl rfl (y_asg rfl rfl rr) (wl_nil fun F182 hF183 => ?_)))
      have s184 := (hF183 36).trans s176
      have s185 : F182 2 = iv 70 := (hF183 2).trans rfl
      clear hF183
      refine then_normal (wq_ret (in_ret (then_ret (then_ret (in_ret (then_ret ?_))))))
      exact end_tmp (v := iv 70) s184 rfl rfl s185 ⟨(by first | rw [check_yes hsw hsh (by first | assumption | (apply Decidable.byContradiction; assumption)) (by first | assumption | (apply Decidable.byContradiction; assumption)) (by first | assumption | (apply Decidable.byContradiction; assumption))] | rw [check_no0 hsw hsh (by assumption)] | rw [check_no1 hsw hsh (by assumption)] | rw [check_no2 hsw hsh (by assumption)] | rw [checkE_no (by rintro ⟨h1, h2, h3, h4, h5⟩; simp_all; done)]), K164⟩
     ·replace c181 := of_decide_eq_false c181
      refine wq_skip (in_normal (then_normal (wq_region (wl_v (iv ((3 : Nat) : Int)) rfl rfl (y_add rfl s179 rfl (i64_n (by omega) (by omega)) rr) (wl_v (iv ((3 : Nat) : Int)) rfl rfl (y_mov rfl rfl rr) (wl_nil fun F186 hF187 => ?_))))))
      have s188 := (hF187 36).trans s176
      have s191 : F186 19 = iv ((3 : Nat) : Int) := (hF187 19).trans rfl
      clear hF187
      refine then_normal (wqr_step (wq_seq (wq_region (wl_v (.bool false) rfl rfl (y_lss rfl s191 rfl rfl rr) (wl_nil fun F192 hF193 => ?_)))))
      have s194 := (hF193 36).trans s188
      have s198 : F192 20 = .bool false := (hF193 20).trans rfl
      clear hF193
      refine then_normal (wq_seq ?_)
      refine wq_cond (t := false) s198 (fun e => by cases e) (fun _ => ?_)
      refine wq_exit (then_exit (then_exit (in_here (then_normal (wq_seq (wq_region (wl_v (iv 0) rfl rfl (y_asg rfl rfl rr) (wl_nil fun F199 hF200 => ?_))))))))
      have s201 := (hF200 36).trans s194
      have s202 : F199 2 = iv 0 := (hF200 2).trans rfl
      clear hF200
      refine then_normal (wq_ret ?_)
      exact end_tmp (v := iv 0) s201 rfl rfl s202 ⟨(by first | rw [check_yes hsw hsh (by first | assumption | (apply Decidable.byContradiction; assumption)) (by first | assumption | (apply Decidable.byContradiction; assumption)) (by first | assumption | (apply Decidable.byContradiction; assumption))] | rw [check_no0 hsw hsh (by assumption)] | rw [check_no1 hsw hsh (by assumption)] | rw [check_no2 hsw hsh (by assumption)] | rw [checkE_no (by rintro ⟨h1, h2, h3, h4, h5⟩; simp_all; done)]), K164⟩
  ·skip
   refine wq_region (wl_v (pt p1 0) rfl rfl (y_fieldR (n := 1) rfl s17 Tryz.underlying29 rfl (by kernel_rfl) (by decide) rfl rr) (wl_v (iv (f.W)) rfl rfl (y_ld_stc rfl rfl Tryz.underlying3 B4 rfl rfl rr) (wl_call (R := fun v_ w_ => v_ = .bool true ∧ Kept (fun _ => False) w2 w_) rfl rfl (y_cs rfl rfl rfl (fun _ _ => by kernel_rfl) (ev_func _) (vsC rfl vsN) (ps_side (f.W)  _   ) (fun e_ w_ h_ => ⟨_, h_.1, (congrArg Value.bool d18), h_.2⟩)) ?_)))
   rintro _ w203 ⟨rfl, k204⟩
   have B208 := B4.all k204 id
   have K209 := K13.tr k204
   refine wl_v (.bool false) rfl rfl (y_not rfl rfl rfl rr) (wl_v (.bool false) rfl rfl (y_mov rfl rfl rr) (wl_vw (pt p1 1) 4 false 11 rfl rfl rfl rfl rfl (y_fieldR (n := 1) rfl s17 Tryz.underlying29 rfl (by kernel_rfl) (by decide) rfl rr) (wl_vw (iv (f.H)) 4 false 11 rfl rfl rfl rfl rfl (y_ld_stc rfl rfl Tryz.underlying3 B208 rfl rfl rr) (wl_callw (R := fun v_ w_ => v_ = .bool false ∧ Kept (fun _ => False) w203 w_) 4 false 11 rfl rfl rfl rfl rfl (y_cs rfl rfl rfl (fun _ _ => by kernel_rfl) (ev_func _) (vsC rfl vsN) (ps_side (f.H)  _   ) (fun e_ w_ h_ => ⟨_, h_.1, (congrArg Value.bool d19), h_.2⟩)) ?_))))
   rintro _ w210 ⟨rfl, k211⟩
   have K216 := K209.tr k211
   refine wl_vw (.bool true) 4 false 11 rfl rfl rfl rfl rfl (y_not rfl rfl rfl rr) (wl_v (.bool true) rfl rfl (y_pickF rfl rfl rfl rr) (wl_nil fun F217 hF218 => ?_))
   have s219 := (hF218 36).trans s16
   have s221 : F217 16 = .bool true := (hF218 16).trans rfl
   clear hF218
   refine then_normal ?_
   refine wq_cond (t := true) s221 (fun _ => ?_) (fun e => by cases e)
   refine wq_seq (wq_region (wl_v (iv 70) rfl rfl (y_asg rfl rfl rr) (wl_nil fun F222 hF223 => ?_)))
   have s224 := (hF223 36).trans s219
   have s225 : F222 2 = iv 70 := (hF223 2).trans rfl
   clear hF223
   refine then_normal (wq_ret (then_ret ?_))
   exact end_tmp (v := iv 70) s224 rfl rfl s225 ⟨(by first | rw [check_yes hsw hsh (by first | assumption | (apply Decidable.byContradiction; assumption)) (by first | assumption | (apply Decidable.byContradiction; assumption)) (by first | assumption | (apply Decidable.byContradiction; assumption))] | rw [check_no0 hsw hsh (by assumption)] | rw [check_no1 hsw hsh (by assumption)] | rw [check_no2 hsw hsh (by assumption)] | rw [checkE_no (by rintro ⟨h1, h2, h3, h4, h5⟩; simp_all; done)]), K216⟩
 ·skip
  refine wq_region (wl_v (pt p1 0) rfl rfl (y_fieldR (n := 1) rfl s17 Tryz.underlying29 rfl (by kernel_rfl) (by decide) rfl rr) (wl_v (iv (f.W)) rfl rfl (y_ld_stc rfl rfl Tryz.underlying3 B4 rfl rfl rr) (wl_call (R := fun v_ w_ => v_ = .bool false ∧ Kept (fun _ => False) w2 w_) rfl rfl (y_cs rfl rfl rfl (fun _ _ => by kernel_rfl) (ev_func _) (vsC rfl vsN) (ps_side (f.W)  _   ) (fun e_ w_ h_ => ⟨_, h_.1, (congrArg Value.bool d18), h_.2⟩)) ?_)))
  rintro _ w226 ⟨rfl, k227⟩
  have K232 := K13.tr k227
  refine wl_v (.bool true) rfl rfl (y_not rfl rfl rfl rr) (wl_v (.bool true) rfl rfl (y_mov rfl rfl rr) (wl_unless 4 false 11 rfl rfl rfl (Or.inl rfl) rfl (wl_unless 4 false 11 rfl rfl rfl (Or.inl rfl) rfl (wl_unless 4 false 11 rfl rfl rfl (Or.inl rfl) rfl (wl_unless 4 false 11 rfl rfl rfl (Or.inl rfl) rfl (wl_v (.bool true) rfl rfl (y_pickT rfl rfl rfl rr) (wl_nil fun F233 hF234 => ?_)))))))
  have s235 := (hF234 36).trans s16
  have s237 : F233 16 = .bool true := (hF234 16).trans rfl
  clear hF234
  refine then_normal ?_
  refine wq_cond (t := true) s237 (fun _ => ?_) (fun e => by cases e)
  refine wq_seq (wq_region (wl_v (iv 70) rfl rfl (y_asg rfl rfl rr) (wl_nil fun F238 hF239 => ?_)))
  have s240 := (hF239 36).trans s235
  have s241 : F238 2 = iv 70 := (hF239 2).trans rfl
  clear hF239
  refine then_normal (wq_ret (then_ret ?_))
  exact end_tmp (v := iv 70) s240 rfl rfl s241 ⟨(by first | rw [check_yes hsw hsh (by first | assumption | (apply Decidable.byContradiction; assumption)) (by first | assumption | (apply Decidable.byContradiction; assumption)) (by first | assumption | (apply Decidable.byContradiction; assumption))] | rw [check_no0 hsw hsh (by assumption)] | rw [check_no1 hsw hsh (by assumption)] | rw [check_no2 hsw hsh (by assumption)] | rw [checkE_no (by rintro ⟨h1, h2, h3, h4, h5⟩; simp_all; done)]), K232⟩
theorem ps_row (v : Value) (l : List Nat) (w y : Int) (T_s : Nat → Prop) (w0 : World) (hw : 0 ≤ w ∧ w ≤ 64) (hy : 0 ≤ y ∧ y ≤ 64) (hl : y * w + w ≤ (l.length : Int)) (hyw : 0 ≤ y * w ∧ y * w ≤ 4096) (h_s : Byt w0 T_s v (l)) :
  Calls Tryz.prog 56 #[v, .int .i64 (w), .int .i64 (y)] w0 fun e w' => e = .returned (subV (v) ((y * w).toNat) ((y * w + w).toNat) ((y * w + w).toNat)) ∧ Kept (fun _ => False) w0 w' := by
 refine calls_wq (args := [v, iv w, iv y]) 20 Tryz.func56 rfl rfl (Nat.le_of_ble_eq_true rfl) ?_
 have K0 := Kept.refl (fun _ => False) w0
 have g_s := Grew.refl w0 T_s
 refine wq_seq (wq_region (wl_v (.slice none 0 0) rfl rfl (y_asg rfl rfl rr) (wl_nil fun F1 hF2 => ?_)))
 have s3 : F1 0 = v := (hF2 0).trans rfl
 have s4 : F1 1 = iv w := (hF2 1).trans rfl
 have s5 : F1 2 = iv y := (hF2 2).trans rfl
 have s6 : F1 20 = undef := (hF2 20).trans rfl
 clear hF2
 refine then_normal (wq_seq (wq_region (wl_mv rfl rfl rfl s3 (wl_mv rfl rfl rfl s5 (wl_mv rfl rfl rfl s4 (wl_v (iv (y * w)) rfl rfl (y_mul rfl rfl rfl (i64_i rfl (by omega)) rr) (wl_mv rfl rfl rfl s5 (wl_v (iv (y + 1)) rfl rfl (y_add rfl rfl rfl (i64_i rfl (by omega)) rr) (wl_mv rfl rfl rfl s4 (wl_v (iv (y * w + w)) rfl rfl (y_mul rfl rfl rfl (i64_i (by rw [Int.add_mul, Int.one_mul]) (by omega)) rr) (wl_mv rfl rfl rfl s5 ?_)))))))))))
 refine wl_v (iv (y + 1)) rfl rfl (y_add rfl rfl rfl (i64_i rfl (by omega)) rr) (wl_mv rfl rfl rfl s4 (wl_v (iv (y * w + w)) rfl rfl (y_mul rfl rfl rfl (i64_i (by rw [Int.add_mul, Int.one_mul]) (by omega)) rr) (wl_v (subV v ((y * w).toNat) ((y * w + w).toNat) ((y * w + w).toNat)) rfl rfl (y_cut3 ((y * w).toNat) ((y * w + w).toNat) ((y * w + w).toNat) rfl rfl rfl rfl rfl (by omega) (by omega) (by omega) h_s (by omega) (by omega) (by omega) rr) (wl_v (subV v ((y * w).toNat) ((y * w + w).toNat) ((y * w + w).toNat)) rfl rfl (y_asg rfl rfl rr) (wl_nil fun F7 hF8 => ?_)))))
 have s9 := (hF8 20).trans s6
 have s10 : F7 6 = subV v ((y * w).toNat) ((y * w + w).toNat) ((y * w + w).toNat) := (hF8 6).trans rfl
 clear hF8
 refine then_normal (wq_ret ?_)
 exact end_tmp (v := subV v ((y * w).toNat) ((y * w + w).toNat) ((y * w + w).toNat)) s9 rfl rfl s10 ⟨rfl, K0⟩
def nearS (l : List Nat) (w h x y : Int) : Int := ((l.getD ((max 0 (min y (h - 1)) * w).toNat + (max 0 (min x (w - 1))).toNat) 0 : Nat) : Int)
theorem ps_nearest (v : Value) (l : List Nat) (w h x y : Int) (T_s : Nat → Prop) (w0 : World) (hw : 0 < w ∧ w ≤ 64) (hh : 0 < h ∧ h ≤ 64) (hl : max 0 (min y (h - 1)) * w + w ≤ (l.length : Int)) (hyw : 0 ≤ max 0 (min y (h - 1)) * w ∧ max 0 (min y (h - 1)) * w ≤ 4096) (h_s : Byt w0 T_s v (l)) :
  Calls Tryz.prog 169 #[v, .int .i64 (w), .int .i64 (h), .int .i64 (x), .int .i64 (y)] w0 fun e w' => e = .returned (.int .i64 (nearS l w h x y)) ∧ Kept (fun _ => False) w0 w' := by
 refine calls_wq (args := [v, iv w, iv h, iv x, iv y]) 25 Tryz.func169 rfl rfl (Nat.le_of_ble_eq_true rfl) ?_
 have K0 := Kept.refl (fun _ => False) w0
 have g_s := Grew.refl w0 T_s
 refine wq_seq (wq_region (wl_v (iv 0) rfl rfl (y_asg rfl rfl rr) (wl_nil fun F1 hF2 => ?_)))
 have s3 : F1 0 = v := (hF2 0).trans rfl
 have s4 : F1 1 = iv w := (hF2 1).trans rfl
 have s5 : F1 2 = iv h := (hF2 2).trans rfl
 have s6 : F1 3 = iv x := (hF2 3).trans rfl
 have s7 : F1 4 = iv y := (hF2 4).trans rfl
 have s8 : F1 25 = undef := (hF2 25).trans rfl
 clear hF2
 refine then_normal (wq_seq (wq_region (wl_mv rfl rfl rfl s3 (wl_mv rfl rfl rfl s4 (wl_mv rfl rfl rfl s7 (wl_mv rfl rfl rfl s5 (wl_v (iv (h - 1)) rfl rfl (y_sub rfl rfl rfl (i64_i rfl (by omega)) rr) (wl_cs rfl rfl rfl rfl rfl (fun _ _ => by kernel_rfl) (vsC rfl (vsC rfl (vsC rfl vsN))) (ps_clamped y 0 (h - 1)  _   ) fun w9 k10 => ?_))))))))
 have B11 := h_s.all k10 Apart.none
 have K12 := K0.tr k10
 refine wl_cs rfl rfl rfl rfl rfl (fun _ _ => by kernel_rfl) (vsC rfl (vsC rfl (vsC rfl vsN))) (ps_row v l w (max 0 (min y (h - 1))) T_s _ (by omega) (by omega) (by exact hl) (by exact hyw) B11 ) fun w13 k14 => ?_
 have B15 := B11.all k14 Apart.none
 have K16 := K12.tr k14
 refine wl_mv rfl rfl rfl s6 (wl_mv rfl rfl rfl s4 (wl_v (iv (w - 1)) rfl rfl (y_sub rfl rfl rfl (i64_i rfl (by omega)) rr) (wl_call (R := fun v_ w_ => v_ = iv (((max 0 (min x (w - 1))).toNat : Nat) : Int) ∧ Kept (fun _ => False) w13 w_) rfl rfl (y_cs rfl rfl rfl (fun _ _ => by kernel_rfl) (ev_func _) (vsC rfl (vsC rfl (vsC rfl vsN))) (ps_clamped x 0 (w - 1)  _   ) (fun e_ w_ h_ => ⟨_, h_.1, congrArg (Value.int .i64) (by omega), h_.2⟩)) ?_)))
 rintro _ w17 ⟨rfl, k18⟩
 have B19 := B15.all k18 Apart.none
 have K20 := K16.tr k18
 refine wl_v (bytAddr v (((max 0 (min y (h - 1))) * w).toNat + (max 0 (min x (w - 1))).toNat)) rfl rfl (y_atS ((max 0 (min x (w - 1))).toNat) rfl rfl rfl (by omega) B19 (by omega) (by have hc_ := B19.cap; omega) (by omega) (by have hc_ := B19.cap; omega) (by omega) rr) ?_
 have u21 := getD_lt B19.lt256 (((max 0 (min y (h - 1))) * w).toNat + (max 0 (min x (w - 1))).toNat)
 refine wl_v (.int .u8 ((l.getD (((max 0 (min y (h - 1))) * w).toNat + (max 0 (min x (w - 1))).toNat) 0 : Nat) : Int)) rfl rfl (y_ldB rfl rfl B19 (by omega) rr) (wl_v (iv ((l.getD (((max 0 (min y (h - 1))) * w).toNat + (max 0 (min x (w - 1))).toNat) 0 : Nat) : Int)) rfl rfl (y_convR rfl rfl Tryz.underlying5 Tryz.underlying3 (i64_i rfl (by omega)) rr) (wl_v (iv ((l.getD (((max 0 (min y (h - 1))) * w).toNat + (max 0 (min x (w - 1))).toNat) 0 : Nat) : Int)) rfl rfl (y_asg rfl rfl rr) (wl_nil fun F22 hF23 => ?_)))
 have s24 := (hF23 25).trans s8
 have s25 : F22 10 = iv ((l.getD (((max 0 (min y (h - 1))) * w).toNat + (max 0 (min x (w - 1))).toNat) 0 : Nat) : Int) := (hF23 10).trans rfl
 clear hF23
 refine then_normal (wq_ret ?_)
 exact end_tmp (v := iv ((l.getD (((max 0 (min y (h - 1))) * w).toNat + (max 0 (min x (w - 1))).toNat) 0 : Nat) : Int)) s24 rfl rfl s25 ⟨rfl, K20⟩
theorem ps_near (n : Int) (w0 : World) :
  Calls Tryz.prog 77 #[.int .i64 (n)] w0 fun e w' => e = .returned (.int .i64 (nearI n)) ∧ Kept (fun _ => False) w0 w' := by
 refine calls_wq (args := [iv n]) 5 Tryz.func77 rfl rfl (Nat.le_of_ble_eq_true rfl) ?_
 have K0 := Kept.refl (fun _ => False) w0
 refine wq_seq (wq_region (wl_v (iv 0) rfl rfl (y_asg rfl rfl rr) (wl_nil fun F1 hF2 => ?_)))
 have s3 : F1 0 = iv n := (hF2 0).trans rfl
 have s4 : F1 5 = undef := (hF2 5).trans rfl
 clear hF2
 refine then_normal (wq_seq (wq_region (wl_mv rfl rfl rfl s3 (wl_call (R := fun v_ w_ => v_ = iv (nearI n) ∧ Kept (fun _ => False) w0 w_) rfl rfl (y_cs rfl rfl rfl (fun _ _ => by kernel_rfl) (ev_func _) (vsC rfl (vsC rfl (vsC rfl vsN))) (ps_clamped n (-64) 128  _   ) (fun e_ w_ h_ => ⟨_, h_.1, congrArg (Value.int .i64) (by unfold nearI; omega), h_.2⟩)) ?_))))
 rintro _ w5 ⟨rfl, k6⟩
 have K7 := K0.tr k6
 refine wl_v (iv (nearI n)) rfl rfl (y_asg rfl rfl rr) (wl_nil fun F8 hF9 => ?_)
 have s10 := (hF9 5).trans s4
 have s11 : F8 2 = iv (nearI n) := (hF9 2).trans rfl
 clear hF9
 refine then_normal (wq_ret ?_)
 exact end_tmp (v := iv (nearI n)) s10 rfl rfl s11 ⟨rfl, K7⟩
theorem row_in {f : FD} {p : Int} (y : Int) (h : (sizeF f p).1 ≠ 0) : max 0 (min y ((sizeF f p).2 - 1)) * (sizeF f p).1 + (sizeF f p).1 ≤ ((f.pl p).length : Int) ∧ 0 ≤ max 0 (min y ((sizeF f p).2 - 1)) * (sizeF f p).1 ∧ max 0 (min y ((sizeF f p).2 - 1)) * (sizeF f p).1 ≤ 4096 := by
  have h2 := cell_bounds (sizeF f p).1 y h
  have hb := size_bounds f p
  have hs := size_pos (size_some h)
  rw [show max 0 (min y ((sizeF f p).2 - 1)) = min (max y 0) ((sizeF f p).2 - 1) by omega]
  unfold cellF at h2
  omega
theorem near_at {f : FD} {p : Int} (x y : Int) (h : (sizeF f p).1 ≠ 0) : nearS (f.pl p) (sizeF f p).1 (sizeF f p).2 x y = atF f p x y := by
  have hc := cell_bounds x y h
  have hb := size_bounds f p
  have hs := size_pos (size_some h)
  rw [atF_some x y h]
  unfold nearS
  have e : (cellF f p x y).toNat = (max 0 (min y ((sizeF f p).2 - 1)) * (sizeF f p).1).toNat + (max 0 (min x ((sizeF f p).1 - 1))).toNat := by
    rw [show max 0 (min y ((sizeF f p).2 - 1)) = min (max y 0) ((sizeF f p).2 - 1) by omega, show max 0 (min x ((sizeF f p).1 - 1)) = min (max x 0) ((sizeF f p).1 - 1) by omega]
    unfold cellF at *
    rw [Int.toNat_add (by omega) (by omega)]
  rw [e]
theorem pl_size (p : Int) (f : FD) (f0 f1 f2 : Value) (T_f0 : Nat → Prop) (T_f1 : Nat → Prop) (T_f2 : Nat → Prop) (w0 : World) (h_f0 : Byt w0 T_f0 f0 ((f).p0)) (h_f1 : Byt w0 T_f1 f1 ((f).p1)) (h_f2 : Byt w0 T_f2 f2 ((f).p2)) :
  Calls Tryz.prog 55 #[.agg #[.int .i64 ((f).W), .int .i64 ((f).H), f0, f1, f2], .int .i64 (p)] w0 fun e w' => e = .returned (.tuple #[.int .i64 ((sizeF f p).1), .int .i64 ((sizeF f p).2)]) ∧ Kept (fun _ => False) w0 w' := by
 refine calls_wq (args := [.agg #[iv (f.W), iv (f.H), f0, f1, f2], iv p]) 22 Tryz.func55 rfl rfl (Nat.le_of_ble_eq_true rfl) ?_
 have K0 := Kept.refl (fun _ => False) w0
 have g_f0 := Grew.refl w0 T_f0
 have g_f1 := Grew.refl w0 T_f1
 have g_f2 := Grew.refl w0 T_f2
 refine wq_seq (wq_region (wl_box_stc (vs := [iv (f.W), iv (f.H), f0, f1, f2]) rfl rfl rfl rfl fun p1 w2 B4 g5 k3 => ?_))
 have B10 := h_f0.all k3 Apart.none
 have B11 := h_f1.all k3 Apart.none
 have B12 := h_f2.all k3 Apart.none
 have K13 := K0.tr k3
 refine wl_v (iv 0) rfl rfl (y_asg rfl rfl rr) (wl_v (iv 0) rfl rfl (y_asg rfl rfl rr) (wl_nil fun F14 hF15 => ?_))
 have s16 : F14 1 = iv p := (hF15 1).trans rfl
 have s17 : F14 22 = undef := (hF15 22).trans rfl
 have s18 : F14 2 = pt p1 0 := (hF15 2).trans rfl
 clear hF15
 refine then_normal (wq_seq (wq_seq ?_))
 by_cases d19 : p < 0
 ·skip
  refine wq_region (wl_mv rfl rfl rfl s16 (wl_v (.bool true) rfl rfl (y_lss rfl rfl rfl (decide_eq_true d19) rr) (wl_v (.bool true) rfl rfl (y_mov rfl rfl rr) (wl_unless 2 false 8 rfl rfl rfl (Or.inl rfl) rfl (wl_unless 2 false 8 rfl rfl rfl (Or.inl rfl) rfl (wl_v (.bool true) rfl rfl (y_pickT rfl rfl rfl rr) (wl_v (.bool true) rfl rfl (y_mov rfl rfl rr) (wl_unless 6 false 12 rfl rfl rfl (Or.inl rfl) rfl (wl_unless 6 false 12 rfl rfl rfl (Or.inl rfl) rfl (wl_unless 6 false 12 rfl rfl rfl (Or.inl rfl) rfl (wl_v (.bool true) rfl rfl (y_pickT rfl rfl rfl rr) ?_)))))))))))
  refine wl_nil fun F20 hF21 => ?_
  have s23 := (hF21 22).trans s17
  have s25 : F20 16 = .bool true := (hF21 16).trans rfl
  clear hF21
  refine then_normal ?_
  refine wq_cond (t := true) s25 (fun _ => ?_) (fun e => by cases e)
  refine wq_seq (wq_region (wl_v (iv 0) rfl rfl (y_asg rfl rfl rr) (wl_v (iv 0) rfl rfl (y_asg rfl rfl rr) (wl_nil fun F26 hF27 => ?_))))
  have s28 := (hF27 22).trans s23
  have s29 : F26 4 = iv 0 := (hF27 4).trans rfl
  have s30 : F26 5 = iv 0 := (hF27 5).trans rfl
  clear hF27
  refine then_normal (wq_ret (then_ret ?_))
  exact end_2 s28 rfl (res_tmp (v := iv 0) rfl s29) (res_tmp (v := iv 0) rfl s30) ⟨(by first | rw [he] | rw [sizeF_no (by rintro ⟨h1, h2, h3⟩; first | exact absurd ((checkE_iff f).2 h1) (by assumption) | omega)]), K13⟩
 ·skip
  by_cases d31 : 3 ≤ p
  ·skip
   refine wq_region (wl_mv rfl rfl rfl s16 (wl_v (.bool false) rfl rfl (y_lss rfl rfl rfl (decide_eq_false d19) rr) (wl_v (.bool false) rfl rfl (y_mov rfl rfl rr) (wl_vw (iv p) 2 false 8 rfl rfl rfl rfl rfl (y_mov rfl s16 rr) (wl_vw (.bool true) 2 false 8 rfl rfl rfl rfl rfl (y_geq rfl rfl rfl (decide_eq_true d31) rr) (wl_v (.bool true) rfl rfl (y_pickF rfl rfl rfl rr) (wl_v (.bool true) rfl rfl (y_mov rfl rfl rr) (wl_unless 6 false 12 rfl rfl rfl (Or.inl rfl) rfl (wl_unless 6 false 12 rfl rfl rfl (Or.inl rfl) rfl (wl_unless 6 false 12 rfl rfl rfl (Or.inl rfl) rfl (wl_v (.bool true) rfl rfl (y_pickT rfl rfl rfl rr) ?_)))))))))))
   refine wl_nil fun F32 hF33 => ?_
   have s35 := (hF33 22).trans s17
   have s37 : F32 16 = .bool true := (hF33 16).trans rfl
   clear hF33
   refine then_normal ?_
   refine wq_cond (t := true) s37 (fun _ => ?_) (fun e => by cases e)
   refine wq_seq (wq_region (wl_v (iv 0) rfl rfl (y_asg rfl rfl rr) (wl_v (iv 0) rfl rfl (y_asg rfl rfl rr) (wl_nil fun F38 hF39 => ?_))))
   have s40 := (hF39 22).trans s35
   have s41 : F38 4 = iv 0 := (hF39 4).trans rfl
   have s42 : F38 5 = iv 0 := (hF39 5).trans rfl
   clear hF39
   refine then_normal (wq_ret (then_ret ?_))
   exact end_2 s40 rfl (res_tmp (v := iv 0) rfl s41) (res_tmp (v := iv 0) rfl s42) ⟨(by first | rw [he] | rw [sizeF_no (by rintro ⟨h1, h2, h3⟩; first | exact absurd ((checkE_iff f).2 h1) (by assumption) | omega)]), K13⟩
  ·skip
   refine wq_region (wl_mv rfl rfl rfl s16 (wl_v (.bool false) rfl rfl (y_lss rfl rfl rfl (decide_eq_false d19) rr) (wl_v (.bool false) rfl rfl (y_mov rfl rfl rr) (wl_vw (iv p) 2 false 8 rfl rfl rfl rfl rfl (y_mov rfl s16 rr) (wl_vw (.bool false) 2 false 8 rfl rfl rfl rfl rfl (y_geq rfl rfl rfl (decide_eq_false d31) rr) (wl_v (.bool false) rfl rfl (y_pickF rfl rfl rfl rr) (wl_v (.bool false) rfl rfl (y_mov rfl rfl rr) (wl_vw (.agg #[iv (f.W), iv (f.H), f0, f1, f2]) 6 false 12 rfl rfl rfl rfl rfl (y_load_stc stcT_frame rfl s18 B4 rr) (wl_callw (R := fun v_ w_ => v_ = iv (checkE f) ∧ Kept (fun _ => False) w2 w_) 6 false 12 rfl rfl rfl rfl rfl (y_cs rfl rfl rfl (fun _ _ => by kernel_rfl) (ev_func _) (vsC rfl vsN) (pl_check f f0 f1 f2 T_f0 T_f1 T_f2 _  B10 B11 B12 ) (fun e_ w_ h_ => ⟨_, h_.1, rfl, h_.2⟩)) ?_)))))))))
   rintro _ w43 ⟨rfl, k44⟩
   have B45 := B10.all k44 Apart.none
   have B46 := B11.all k44 Apart.none
   have B47 := B12.all k44 Apart.none
   have B48 := B4.all k44 id
   have K49 := K13.tr k44
   refine wl_vw (.bool (decide ((checkE f) ≠ 0))) 6 false 12 rfl rfl rfl rfl rfl (y_neqI rfl rfl rfl rfl rr) (wl_v (.bool (decide ((checkE f) ≠ 0))) rfl rfl (y_pickF rfl rfl rfl rr) (wl_nil fun F50 hF51 => ?_))
   obtain ⟨s52, s53, s54⟩ := t3 hF51 1 s16 22 s17 2 s18
   have s55 : F50 16 = .bool (decide ((checkE f) ≠ 0)) := (hF51 16).trans rfl
   clear hF51
   refine then_normal ?_
   refine wq_cond s55 (fun c56 => ?_) (fun c56 => ?_)
   ·replace c56 := of_decide_eq_true c56
    refine wq_seq (wq_region (wl_v (iv 0) rfl rfl (y_asg rfl rfl rr) (wl_v (iv 0) rfl rfl (y_asg rfl rfl rr) (wl_nil fun F57 hF58 => ?_))))
    have s59 := (hF58 22).trans s53
    have s60 : F57 4 = iv 0 := (hF58 4).trans rfl
    have s61 : F57 5 = iv 0 := (hF58 5).trans rfl
    clear hF58
    refine then_normal (wq_ret (then_ret ?_))
    exact end_2 s59 rfl (res_tmp (v := iv 0) rfl s60) (res_tmp (v := iv 0) rfl s61) ⟨(by first | rw [he] | rw [sizeF_no (by rintro ⟨h1, h2, h3⟩; first | exact absurd ((checkE_iff f).2 h1) (by assumption) | omega)]), K49⟩
   ·replace c56 := of_decide_eq_false c56
    refine wq_skip (then_normal (wq_seq ?_))
    have hok := (checkE_iff f).1 (by first | assumption | (apply Decidable.byContradiction; assumption))
    have hws := (sideB_iff _).1 hok.1
    have hhs := (sideB_iff _).1 hok.2.1
    have he : sizeF f p = sidesF f p := by unfold sizeF sidesF; rw [if_pos ⟨hok, by omega, by omega⟩]
    refine wq_region (wl_v (.agg #[iv (f.W), iv (f.H), f0, f1, f2]) rfl rfl (y_load_stc stcT_frame rfl s54 B48 rr) (wl_mv rfl rfl rfl s52 (wl_cs rfl rfl rfl rfl rfl (fun _ _ => by kernel_rfl) (vsC rfl (vsC rfl vsN)) (ps_sides p f f0 f1 f2 T_f0 T_f1 T_f2 _ (by omega) (by omega) B45 B46 B47 ) fun w62 k63 => ?_)))
    have K68 := K49.tr k63
    refine wl_v (iv ((sidesF f p).1)) rfl rfl (y_ext rfl rfl rfl rr) (wl_v (iv ((sidesF f p).2)) rfl rfl (y_ext rfl rfl rfl rr) (wl_v (iv ((sidesF f p).1)) rfl rfl (y_asg rfl rfl rr) (wl_v (iv ((sidesF f p).2)) rfl rfl (y_asg rfl rfl rr) (wl_nil fun F69 hF70 => ?_))))
    have s71 := (hF70 22).trans s53
    have s72 : F69 4 = iv ((sidesF f p).1) := (hF70 4).trans rfl
    have s73 : F69 5 = iv ((sidesF f p).2) := (hF70 5).trans rfl
    clear hF70
    refine then_normal (wq_ret ?_)
    exact end_2 s71 rfl (res_tmp (v := iv ((sidesF f p).1)) rfl s72) (res_tmp (v := iv ((sidesF f p).2)) rfl s73) ⟨(by first | rw [he] | rw [sizeF_no (by rintro ⟨h1, h2, h3⟩; first | exact absurd ((checkE_iff f).2 h1) (by assumption) | omega)]), K68⟩
theorem pl_at (p x y : Int) (f : FD) (f0 f1 f2 : Value) (T_f0 : Nat → Prop) (T_f1 : Nat → Prop) (T_f2 : Nat → Prop) (w0 : World) (h_f0 : Byt w0 T_f0 f0 ((f).p0)) (h_f1 : Byt w0 T_f1 f1 ((f).p1)) (h_f2 : Byt w0 T_f2 f2 ((f).p2)) :
  Calls Tryz.prog 157 #[.agg #[.int .i64 ((f).W), .int .i64 ((f).H), f0, f1, f2], .int .i64 (p), .int .i64 (x), .int .i64 (y)] w0 fun e w' => e = .returned (.int .i64 (atF f p x y)) ∧ Kept (fun _ => False) w0 w' := by
 refine calls_wq (args := [.agg #[iv (f.W), iv (f.H), f0, f1, f2], iv p, iv x, iv y]) 28 Tryz.func157 rfl rfl (Nat.le_of_ble_eq_true rfl) ?_
 have K0 := Kept.refl (fun _ => False) w0
 have g_f0 := Grew.refl w0 T_f0
 have g_f1 := Grew.refl w0 T_f1
 have g_f2 := Grew.refl w0 T_f2
 refine wq_seq (wq_region (wl_box_stc (vs := [iv (f.W), iv (f.H), f0, f1, f2]) rfl rfl rfl rfl fun p1 w2 B4 g5 k3 => ?_))
 have B10 := h_f0.all k3 Apart.none
 have B11 := h_f1.all k3 Apart.none
 have B12 := h_f2.all k3 Apart.none
 have K13 := K0.tr k3
 refine wl_v (iv 0) rfl rfl (y_asg rfl rfl rr) (wl_nil fun F14 hF15 => ?_)
 have s16 : F14 1 = iv p := (hF15 1).trans rfl
 have s17 : F14 2 = iv x := (hF15 2).trans rfl
 have s18 : F14 3 = iv y := (hF15 3).trans rfl
 have s19 : F14 28 = undef := (hF15 28).trans rfl
 have s20 : F14 4 = pt p1 0 := (hF15 4).trans rfl
 clear hF15
 refine then_normal (wq_seq (wq_region (wl_v (.agg #[iv (f.W), iv (f.H), f0, f1, f2]) rfl rfl (y_load_stc stcT_frame rfl s20 B4 rr) (wl_mv rfl rfl rfl s16 (wl_cs rfl rfl rfl rfl rfl (fun _ _ => by kernel_rfl) (vsC rfl (vsC rfl vsN)) (pl_size p f f0 f1 f2 T_f0 T_f1 T_f2 _  B10 B11 B12 ) fun w21 k22 => ?_)))))
 have B23 := B10.all k22 Apart.none
 have B24 := B11.all k22 Apart.none
 have B25 := B12.all k22 Apart.none
 have B26 := B4.all k22 id
 have K27 := K13.tr k22
 refine wl_v (.tuple #[iv ((sizeF f p).1), iv ((sizeF f p).2)]) rfl rfl (y_mov rfl rfl rr) (wl_v (iv ((sizeF f p).1)) rfl rfl (y_ext rfl rfl rfl rr) (wl_v (iv ((sizeF f p).2)) rfl rfl (y_ext rfl rfl rfl rr) (wl_v (iv ((sizeF f p).1)) rfl rfl (y_asg rfl rfl rr) (wl_v (iv ((sizeF f p).2)) rfl rfl (y_asg rfl rfl rr) (wl_nil fun F28 hF29 => ?_)))))
 obtain ⟨s30, s31, s32, s33, s34⟩ := t5 hF29 1 s16 2 s17 3 s18 28 s19 4 s20
 have s35 : F28 9 = iv ((sizeF f p).1) := (hF29 9).trans rfl
 have s36 : F28 10 = iv ((sizeF f p).2) := (hF29 10).trans rfl
 clear hF29
 refine then_normal (wq_seq (wq_seq (wq_region (wl_mv rfl rfl rfl s35 (wl_v (.bool (decide (((sizeF f p).1) = 0))) rfl rfl (y_eqlI rfl rfl rfl rfl rr) (wl_nil fun F37 hF38 => ?_))))))
 obtain ⟨s39, s40, s41, s42, s43, s44, s45⟩ := t7 hF38 1 s30 2 s31 3 s32 28 s33 4 s34 9 s35 10 s36
 have s46 : F37 18 = .bool (decide (((sizeF f p).1) = 0)) := (hF38 18).trans rfl
 clear hF38
 refine then_normal ?_
 refine wq_cond s46 (fun c47 => ?_) (fun c47 => ?_)
 ·replace c47 := of_decide_eq_true c47
  refine wq_seq (wq_region (wl_v (iv 0) rfl rfl (y_asg rfl rfl rr) (wl_nil fun F48 hF49 => ?_)))
  have s50 := (hF49 28).trans s42
  have s51 : F48 8 = iv 0 := (hF49 8).trans rfl
  clear hF49
  refine then_normal (wq_ret (then_ret ?_))
  exact end_tmp (v := iv 0) s50 rfl rfl s51 ⟨(by first | rw [atF_none x y (by assumption)] | (rw [← near_at x y hsz]; rfl)), K27⟩
 ·replace c47 := of_decide_eq_false c47
  refine wq_skip (then_normal (wq_seq ?_))
  rcases (show p = 0 ∨ p = 1 ∨ p = 2 from size_cases (f := f) (by assumption)) with rfl | rfl | rfl
  ·skip
   have hsz : (sizeF f 0).1 ≠ 0 := by assumption
   have hb := size_bounds f 0
   have hsp := size_pos (size_some hsz)
   have hr := row_in y hsz
   refine wq_region (wl_mv rfl rfl rfl s39 (wl_v (pt p1 2) rfl rfl (y_fieldR (n := 3) rfl s43 Tryz.underlying29 rfl (by kernel_rfl) (by decide) rfl rr) (wl_v (pt p1 2) rfl rfl (y_atR 0 (s := 1) rfl rfl rfl (by omega) Tryz.underlying27 (by omega) (by kernel_rfl) (by omega) rr) (wl_v f0 rfl rfl (y_ld_stc rfl rfl Tryz.underlying26 B26 rfl rfl rr) (wl_mv rfl rfl rfl s44 (wl_mv rfl rfl rfl s45 (wl_mv rfl rfl rfl s40 (wl_mv rfl rfl rfl s41 (wl_cs rfl rfl rfl rfl rfl (fun _ _ => by kernel_rfl) (vsC rfl (vsC rfl (vsC rfl (vsC rfl (vsC rfl vsN))))) (ps_nearest f0 (f.p0) ((sizeF f 0).1) ((sizeF f 0).2) x y T_f0 _ (by omega) (by omega) (by exact hr.1) (by exact hr.2) B23 ) fun w52 k53 => ?_)))))))))
   have K58 := K27.tr k53
   refine wl_v (iv (nearS (f.p0) ((sizeF f 0).1) ((sizeF f 0).2) x y)) rfl rfl (y_asg rfl rfl rr) (wl_nil fun F59 hF60 => ?_)
   have s61 := (hF60 28).trans s42
   have s62 : F59 8 = iv (nearS (f.p0) ((sizeF f 0).1) ((sizeF f 0).2) x y) := (hF60 8).trans rfl
   clear hF60
   refine then_normal (wq_ret ?_)
   exact end_tmp (v := iv (nearS (f.p0) ((sizeF f 0).1) ((sizeF f 0).2) x y)) s61 rfl rfl s62 ⟨(by first | rw [atF_none x y (by assumption)] | (rw [← near_at x y hsz]; rfl)), K58⟩
  ·skip
   have hsz : (sizeF f 1).1 ≠ 0 := by assumption
   have hb := size_bounds f 1
   have hsp := size_pos (size_some hsz)
   have hr := row_in y hsz
   refine wq_region (wl_mv rfl rfl rfl s39 (wl_v (pt p1 2) rfl rfl (y_fieldR (n := 3) rfl s43 Tryz.underlying29 rfl (by kernel_rfl) (by decide) rfl rr) (wl_v (pt p1 3) rfl rfl (y_atR 1 (s := 1) rfl rfl rfl (by omega) Tryz.underlying27 (by omega) (by kernel_rfl) (by omega) rr) (wl_v f1 rfl rfl (y_ld_stc rfl rfl Tryz.underlying26 B26 rfl rfl rr) (wl_mv rfl rfl rfl s44 (wl_mv rfl rfl rfl s45 (wl_mv rfl rfl rfl s40 (wl_mv rfl rfl rfl s41 (wl_cs rfl rfl rfl rfl rfl (fun _ _ => by kernel_rfl) (vsC rfl (vsC rfl (vsC rfl (vsC rfl (vsC rfl vsN))))) (ps_nearest f1 (f.p1) ((sizeF f 1).1) ((sizeF f 1).2) x y T_f1 _ (by omega) (by omega) (by exact hr.1) (by exact hr.2) B24 ) fun w63 k64 => ?_)))))))))
   have K69 := K27.tr k64
   refine wl_v (iv (nearS (f.p1) ((sizeF f 1).1) ((sizeF f 1).2) x y)) rfl rfl (y_asg rfl rfl rr) (wl_nil fun F70 hF71 => ?_)
   have s72 := (hF71 28).trans s42
   have s73 : F70 8 = iv (nearS (f.p1) ((sizeF f 1).1) ((sizeF f 1).2) x y) := (hF71 8).trans rfl
   clear hF71
   refine then_normal (wq_ret ?_)
   exact end_tmp (v := iv (nearS (f.p1) ((sizeF f 1).1) ((sizeF f 1).2) x y)) s72 rfl rfl s73 ⟨(by first | rw [atF_none x y (by assumption)] | (rw [← near_at x y hsz]; rfl)), K69⟩
  ·skip
   have hsz : (sizeF f 2).1 ≠ 0 := by assumption
   have hb := size_bounds f 2
   have hsp := size_pos (size_some hsz)
   have hr := row_in y hsz
   refine wq_region (wl_mv rfl rfl rfl s39 (wl_v (pt p1 2) rfl rfl (y_fieldR (n := 3) rfl s43 Tryz.underlying29 rfl (by kernel_rfl) (by decide) rfl rr) (wl_v (pt p1 4) rfl rfl (y_atR 2 (s := 1) rfl rfl rfl (by omega) Tryz.underlying27 (by omega) (by kernel_rfl) (by omega) rr) (wl_v f2 rfl rfl (y_ld_stc rfl rfl Tryz.underlying26 B26 rfl rfl rr) (wl_mv rfl rfl rfl s44 (wl_mv rfl rfl rfl s45 (wl_mv rfl rfl rfl s40 (wl_mv rfl rfl rfl s41 (wl_cs rfl rfl rfl rfl rfl (fun _ _ => by kernel_rfl) (vsC rfl (vsC rfl (vsC rfl (vsC rfl (vsC rfl vsN))))) (ps_nearest f2 (f.p2) ((sizeF f 2).1) ((sizeF f 2).2) x y T_f2 _ (by omega) (by omega) (by exact hr.1) (by exact hr.2) B25 ) fun w74 k75 => ?_)))))))))
   have K80 := K27.tr k75
   refine wl_v (iv (nearS (f.p2) ((sizeF f 2).1) ((sizeF f 2).2) x y)) rfl rfl (y_asg rfl rfl rr) (wl_nil fun F81 hF82 => ?_)
   have s83 := (hF82 28).trans s42
   have s84 : F81 8 = iv (nearS (f.p2) ((sizeF f 2).1) ((sizeF f 2).2) x y) := (hF82 8).trans rfl
   clear hF82
   refine then_normal (wq_ret ?_)
   exact end_tmp (v := iv (nearS (f.p2) ((sizeF f 2).1) ((sizeF f 2).2) x y)) s83 rfl rfl s84 ⟨(by first | rw [atF_none x y (by assumption)] | (rw [← near_at x y hsz]; rfl)), K80⟩
def pn2 (a b : Nat) : Nat → Nat
  | 0 => a
  | _ => b
theorem pn2_le (a b k : Nat) : pn2 a b k = a ∨ pn2 a b k = b := by cases k <;> simp [pn2]
theorem new_side {w h : Int} (s : Nat) (hw : sideB w = true) (hh : sideB h = true) : (newF w h s).W = w ∧ (newF w h s).H = h := by rw [newF_yes s hw hh]; exact ⟨rfl, rfl⟩
theorem blank_lens {f : FD} (h : okF f) : (newF f.W f.H 0).p0.length = f.p0.length ∧ (newF f.W f.H 0).p1.length = f.p1.length ∧ (newF f.W f.H 0).p2.length = f.p2.length := by
  have h3 := h.2.2
  have hw := new_ok 0 h.1 h.2.1
  have h4 := hw.2.2
  have e := new_side 0 h.1 h.2.1
  rw [e.1, e.2] at h4
  omega
theorem ps_blank (w h : Int) (w0 : World) (hsw : sideB w = true) (hsh : sideB h = true) :
  Calls Tryz.prog 50 #[.int .i64 (w), .int .i64 (h)] w0 fun e w' => ∃ (v1 : Value) (T1 : Nat → Prop) (v2 : Value) (T2 : Nat → Prop) (v3 : Value) (T3 : Nat → Prop), e = .returned (.agg #[.int .i64 ((newF w h 0).W), .int .i64 ((newF w h 0).H), v1, v2, v3]) ∧ Kept (fun _ => False) w0 w' ∧ (Owb w' T1 v1 ((newF w h 0).p0) ∧ Grew w0 noB T1) ∧ (Owb w' T2 v2 ((newF w h 0).p1) ∧ Grew w0 noB T2) ∧ (Owb w' T3 v3 ((newF w h 0).p2) ∧ Grew w0 noB T3) ∧ Apart T1 T2 ∧ Apart T1 T3 ∧ Apart T2 T3 := by
 refine calls_wq (args := [iv w, iv h]) 30 Tryz.func50 rfl rfl (Nat.le_of_ble_eq_true rfl) ?_
 have K0 := Kept.refl (fun _ => False) w0
 have hws := (sideB_iff _).1 hsw
 have hhs := (sideB_iff _).1 hsh
 have har := area_bounds hsw hsh
 obtain ⟨n0, hn0⟩ : ∃ n : Nat, (n : Int) = w * h := ⟨(w * h).toNat, by omega⟩
 obtain ⟨n1, hn1⟩ : ∃ n : Nat, (n : Int) = Int.tdiv w 2 * Int.tdiv h 2 := ⟨(Int.tdiv w 2 * Int.tdiv h 2).toNat, Int.toNat_of_nonneg (Int.mul_nonneg (by rw [tdiv2 (by omega)]; omega) (by rw [tdiv2 (by omega)]; omega))⟩
 have hq : (n1 : Int) = w * h / 4 := by rw [hn1]; exact quarter hws.2.2 hhs.2.2 (by omega) (by omega)
 have hF : newF w h 0 = ⟨w, h, List.replicate n0 0, List.replicate n1 0, List.replicate n1 0⟩ := by rw [newF_yes 0 hsw hsh, ← hq, ← hn0, Int.toNat_natCast, Int.toNat_natCast]
 refine wq_seq (wq_region (wl_alloc_stc (n := 5) (vs := [iv 0, iv 0, .slice none 0 0, .slice none 0 0, .slice none 0 0]) rfl rfl rfl (by kernel_rfl) fun p1 w2 B4 g5 k3 => ?_))
 have gr6 : Grew w0 noB (onB p1) := Grew.new K0 g5
 have K7 := K0.tr k3
 refine wl_nil fun F8 hF9 => ?_
 have s10 : F8 0 = iv w := (hF9 0).trans rfl
 have s11 : F8 1 = iv h := (hF9 1).trans rfl
 have s12 : F8 30 = undef := (hF9 30).trans rfl
 have s13 : F8 4 = pt p1 0 := (hF9 4).trans rfl
 clear hF9
 refine then_normal (wq_seq (wq_region (wl_mv rfl rfl rfl s10 (wl_mv rfl rfl rfl s11 (wl_v (.agg #[iv w, iv h, .slice none 0 0, .slice none 0 0, .slice none 0 0]) rfl rfl (y_buildL (l' := [(0, iv w), (1, iv h)]) (cells := #[iv w, iv h, .slice none 0 0, .slice none 0 0, .slice none 0 0]) rfl (bpC rfl (bpC rfl bpN)) (by kernel_rfl) rfl rr) (wl_alloc_stc (n := 5) (vs := [iv 0, iv 0, .slice none 0 0, .slice none 0 0, .slice none 0 0]) rfl rfl rfl (by kernel_rfl) fun p14 w15 B17 g18 k16 => ?_))))))
 have gr19 : Grew w0 noB (onB p14) := Grew.new K7 g18
 have ap20 : Apart (onB p14) (onB p1) := Apart.new g18 (onB_live B4.lt)
 have B21 := B4.all k16 id
 have K22 := K7.tr k16
 refine wl_store_stc (us := [iv w, iv h, .slice none 0 0, .slice none 0 0, .slice none 0 0]) stcT_frame rfl rfl rfl rfl rfl B17 rfl (oneI rfl (oneI rfl (oneI rfl (oneI rfl (oneI rfl oneN))))) fun w23 B24 k25 => ?_
 have B26 := B21.all k25 (ap20.symm p1 rfl)
 have K27 := K22.trans k25 (Grew.ok (S := fun _ => False) gr19 noB_le)
 refine wl_nil fun F28 hF29 => ?_
 obtain ⟨s30, s31⟩ := t2 hF29 30 s12 4 s13
 have s32 : F28 5 = pt p14 0 := (hF29 5).trans rfl
 clear hF29
 refine then_normal (wq_seq (wq_seq (wq_region (wl_v (iv 0) rfl rfl (y_mov rfl rfl rr) (wl_nil fun F33 hF34 => ?_)))))
 obtain ⟨s35, s36, s37⟩ := t3 hF34 30 s30 4 s31 5 s32
 have s38 : F33 12 = iv 0 := (hF34 12).trans rfl
 clear hF34
 refine then_normal (wq_block (wq_rounds 4 (wqr_step (wq_seq (wq_region (wl_v (.bool true) rfl rfl (y_lss rfl s38 rfl rfl rr) (wl_nil fun F39 hF40 => ?_)))))))
 obtain ⟨s41, s42, s43, s44⟩ := t4 hF40 30 s35 4 s36 5 s37 12 s38
 have s45 : F39 13 = .bool true := (hF40 13).trans rfl
 clear hF40
 refine then_normal (wq_seq ?_)
 refine wq_cond (t := true) s45 (fun _ => ?_) (fun e => by cases e)
 refine wq_skip (then_normal (wq_seq (wq_block (wq_seq (wq_region (wl_mv rfl rfl rfl s44 (wl_v (iv 0) rfl rfl (y_asg rfl rfl rr) (wl_nil fun F46 hF47 => ?_))))))))
 obtain ⟨s48, s49, s50, s51⟩ := t4 hF47 30 s41 4 s42 5 s43 12 s44
 have s52 : F46 6 = iv 0 := (hF47 6).trans rfl
 clear hF47
 refine then_normal (wq_seq (wq_region (wl_v (.agg #[iv w, iv h, .slice none 0 0, .slice none 0 0, .slice none 0 0]) rfl rfl (y_load_stc stcT_frame rfl s50 B24 rr) (wl_mv rfl rfl rfl s52 (wl_cs rfl rfl rfl rfl rfl (fun _ _ => by kernel_rfl) (vsC rfl (vsC rfl vsN)) (ps_sides 0 (FD.mk w h ([]) ([]) ([])) (.slice none 0 0) (.slice none 0 0) (.slice none 0 0) noB noB noB _ (by dsimp only; omega) (by dsimp only; omega) (Byt.nil _) (Byt.nil _) (Byt.nil _) ) fun w53 k54 => ?_)))))
 have B55 := B26.all k54 id
 have B56 := B24.all k54 id
 have K57 := K27.tr k54
 refine wl_v (.tuple #[iv ((sidesF (FD.mk w h ([]) ([]) ([])) 0).1), iv ((sidesF (FD.mk w h ([]) ([]) ([])) 0).2)]) rfl rfl (y_mov rfl rfl rr) (wl_v (iv ((sidesF (FD.mk w h ([]) ([]) ([])) 0).1)) rfl rfl (y_ext rfl rfl rfl rr) (wl_v (iv ((sidesF (FD.mk w h ([]) ([]) ([])) 0).2)) rfl rfl (y_ext rfl rfl rfl rr) (wl_v (iv ((sidesF (FD.mk w h ([]) ([]) ([])) 0).1)) rfl rfl (y_asg rfl rfl rr) (wl_v (iv ((sidesF (FD.mk w h ([]) ([]) ([])) 0).2)) rfl rfl (y_asg rfl rfl rr) (wl_nil fun F58 hF59 => ?_)))))
 obtain ⟨s60, s61, s62, s63, s64⟩ := t5 hF59 30 s48 4 s49 5 s50 12 s51 6 s52
 have s65 : F58 7 = iv ((sidesF (FD.mk w h ([]) ([]) ([])) 0).1) := (hF59 7).trans rfl
 have s66 : F58 8 = iv ((sidesF (FD.mk w h ([]) ([]) ([])) 0).2) := (hF59 8).trans rfl
 clear hF59
 refine then_normal ?_
 have hpq := pn2_le n0 n1 0
 refine wq_region (wl_mv rfl rfl rfl s64 (wl_mv rfl rfl rfl s65 (wl_mv rfl rfl rfl s66 (wl_v (iv (((pn2 n0 n1 0) : Nat) : Int)) rfl rfl (y_mul rfl rfl rfl (by first | exact (i64_i rfl (by show _ ≤ w * h ∧ w * h ≤ _; omega)).trans (hn0.symm) | exact (i64_i rfl (by show _ ≤ Int.tdiv w 2 * Int.tdiv h 2 ∧ Int.tdiv w 2 * Int.tdiv h 2 ≤ _; omega)).trans hn1.symm) rr) (wl_makeB (n := (pn2 n0 n1 0)) rfl rfl rfl rfl rfl (by omega) (by omega) (by omega) fun v67 w68 T72 B70 g71 k69 => ?_)))))
 have gr73 : Grew w0 noB T72 := Grew.new K57 g71
 have ap74 : Apart T72 (onB p1) := Apart.new g71 (onB_live B55.lt)
 have ap75 : Apart T72 (onB p14) := Apart.new g71 (onB_live B56.lt)
 have B76 := B55.all k69 id
 have B77 := B56.all k69 id
 have K78 := K57.tr k69
 refine wl_v (pt p14 2) rfl rfl (y_fieldR (n := 3) rfl s62 Tryz.underlying29 rfl (by kernel_rfl) (by decide) rfl rr) (wl_v (pt p14 2) rfl rfl (y_atR 0 (s := 1) rfl rfl rfl (by omega) Tryz.underlying27 (by omega) (by kernel_rfl) (by omega) rr) (wl_set_stc rfl rfl rfl rfl rfl B77 rfl B70.oneC (by kernel_rfl) fun w79 B80 k81 => ?_))
 replace B80 : Stc w79 p14 29 [iv w, iv h, v67, .slice none 0 0, .slice none 0 0] := B80
 have B82 := B76.all k81 (ap20.symm p1 rfl)
 have B83 := B70.all k81 ap75
 have K84 := K78.trans k81 (Grew.ok (S := fun _ => False) gr19 noB_le)
 refine wl_nil fun F85 hF86 => ?_
 obtain ⟨s87, s88, s89, s90⟩ := t4 hF86 30 s60 4 s61 5 s62 12 s63
 clear hF86
 refine in_normal (then_normal (wq_region (wl_v (iv ((1 : Nat) : Int)) rfl rfl (y_add rfl s90 rfl (i64_n (by omega) (by omega)) rr) (wl_v (iv ((1 : Nat) : Int)) rfl rfl (y_mov rfl rfl rr) (wl_nil fun F91 hF92 => ?_)))))
 obtain ⟨s93, s94, s95⟩ := t3 hF92 30 s87 4 s88 5 s89
 have s96 : F91 12 = iv ((1 : Nat) : Int) := (hF92 12).trans rfl
 clear hF92
 refine then_normal (wqr_step (wq_seq (wq_region (wl_v (.bool true) rfl rfl (y_lss rfl s96 rfl rfl rr) (wl_nil fun F97 hF98 => ?_)))))
 obtain ⟨s99, s100, s101, s102⟩ := t4 hF98 30 s93 4 s94 5 s95 12 s96
 have s103 : F97 13 = .bool true := (hF98 13).trans rfl
 clear hF98
 refine then_normal (wq_seq ?_)
 refine wq_cond (t := true) s103 (fun _ => ?_) (fun e => by cases e)
 refine wq_skip (then_normal (wq_seq (wq_block (wq_seq (wq_region (wl_mv rfl rfl rfl s102 (wl_v (iv ((1 : Nat) : Int)) rfl rfl (y_asg rfl rfl rr) (wl_nil fun F104 hF105 => ?_))))))))
 obtain ⟨s106, s107, s108, s109⟩ := t4 hF105 30 s99 4 s100 5 s101 12 s102
 have s110 : F104 6 = iv ((1 : Nat) : Int) := (hF105 6).trans rfl
 clear hF105
 refine then_normal (wq_seq (wq_region (wl_v (.agg #[iv w, iv h, v67, .slice none 0 0, .slice none 0 0]) rfl rfl (y_load_stc stcT_frame rfl s108 B80 rr) (wl_mv rfl rfl rfl s110 (wl_cs rfl rfl rfl rfl rfl (fun _ _ => by kernel_rfl) (vsC rfl (vsC rfl vsN)) (ps_sides ((1 : Nat) : Int) (FD.mk w h (List.replicate (pn2 n0 n1 0) 0) ([]) ([])) v67 (.slice none 0 0) (.slice none 0 0) T72 noB noB _ (by dsimp only; omega) (by dsimp only; omega) B83.byt (Byt.nil _) (Byt.nil _) ) fun w111 k112 => ?_)))))
 have B113 := B82.all k112 id
 have B114 := B80.all k112 id
 have B115 := B83.all k112 Apart.none
 have K116 := K84.tr k112
 refine wl_v (.tuple #[iv ((sidesF (FD.mk w h (List.replicate (pn2 n0 n1 0) 0) ([]) ([])) ((1 : Nat) : Int)).1), iv ((sidesF (FD.mk w h (List.replicate (pn2 n0 n1 0) 0) ([]) ([])) ((1 : Nat) : Int)).2)]) rfl rfl (y_mov rfl rfl rr) (wl_v (iv ((sidesF (FD.mk w h (List.replicate (pn2 n0 n1 0) 0) ([]) ([])) ((1 : Nat) : Int)).1)) rfl rfl (y_ext rfl rfl rfl rr) (wl_v (iv ((sidesF (FD.mk w h (List.replicate (pn2 n0 n1 0) 0) ([]) ([])) ((1 : Nat) : Int)).2)) rfl rfl (y_ext rfl rfl rfl rr) (wl_v (iv ((sidesF (FD.mk w h (List.replicate (pn2 n0 n1 0) 0) ([]) ([])) ((1 : Nat) : Int)).1)) rfl rfl (y_asg rfl rfl rr) (wl_v (iv ((sidesF (FD.mk w h (List.replicate (pn2 n0 n1 0) 0) ([]) ([])) ((1 : Nat) : Int)).2)) rfl rfl (y_asg rfl rfl rr) (wl_nil fun F117 hF118 => ?_)))))
 obtain ⟨s119, s120, s121, s122, s123⟩ := t5 hF118 30 s106 4 s107 5 s108 12 s109 6 s110
 have s124 : F117 7 = iv ((sidesF (FD.mk w h (List.replicate (pn2 n0 n1 0) 0) ([]) ([])) ((1 : Nat) : Int)).1) := (hF118 7).trans rfl
 have s125 : F117 8 = iv ((sidesF (FD.mk w h (List.replicate (pn2 n0 n1 0) 0) ([]) ([])) ((1 : Nat) : Int)).2) := (hF118 8).trans rfl
 clear hF118
 refine then_normal ?_
 have hpq := pn2_le n0 n1 1
 refine wq_region (wl_mv rfl rfl rfl s123 (wl_mv rfl rfl rfl s124 (wl_mv rfl rfl rfl s125 (wl_v (iv (((pn2 n0 n1 1) : Nat) : Int)) rfl rfl (y_mul rfl rfl rfl (by first | exact (i64_i rfl (by show _ ≤ w * h ∧ w * h ≤ _; omega)).trans (hn0.symm) | exact (i64_i rfl (by show _ ≤ Int.tdiv w 2 * Int.tdiv h 2 ∧ Int.tdiv w 2 * Int.tdiv h 2 ≤ _; omega)).trans hn1.symm) rr) (wl_makeB (n := (pn2 n0 n1 1)) rfl rfl rfl rfl rfl (by omega) (by omega) (by omega) fun v126 w127 T131 B129 g130 k128 => ?_)))))
 have gr132 : Grew w0 noB T131 := Grew.new K116 g130
 have ap133 : Apart T131 (onB p1) := Apart.new g130 (onB_live B113.lt)
 have ap134 : Apart T131 (onB p14) := Apart.new g130 (onB_live B114.lt)
 have ap135 : Apart T131 T72 := Apart.new g130 B115.live
 have B136 := B113.all k128 id
 have B137 := B114.all k128 id
 have B138 := B115.all k128 Apart.none
 have K139 := K116.tr k128
 refine wl_v (pt p14 2) rfl rfl (y_fieldR (n := 3) rfl s121 Tryz.underlying29 rfl (by kernel_rfl) (by decide) rfl rr) (wl_v (pt p14 3) rfl rfl (y_atR 1 (s := 1) rfl rfl rfl (by omega) Tryz.underlying27 (by omega) (by kernel_rfl) (by omega) rr) (wl_set_stc rfl rfl rfl rfl rfl B137 rfl B129.oneC (by kernel_rfl) fun w140 B141 k142 => ?_))
 replace B141 : Stc w140 p14 29 [iv w, iv h, v67, v126, .slice none 0 0] := B141
 have B143 := B136.all k142 (ap20.symm p1 rfl)
 have B144 := B138.all k142 ap75
 have B145 := B129.all k142 ap134
 have K146 := K139.trans k142 (Grew.ok (S := fun _ => False) gr19 noB_le)
 refine wl_nil fun F147 hF148 => ?_
 obtain ⟨s149, s150, s151, s152⟩ := t4 hF148 30 s119 4 s120 5 s121 12 s122
 clear hF148
 refine in_normal (then_normal (wq_region (wl_v (iv ((2 : Nat) : Int)) rfl rfl (y_add rfl s152 rfl (i64_n (by omega) (by omega)) rr) (wl_v (iv ((2 : Nat) : Int)) rfl rfl (y_mov rfl rfl rr) (wl_nil fun F153 hF154 => ?_)))))
 obtain ⟨s155, s156, s157⟩ := t3 hF154 30 s149 4 s150 5 s151
 have s158 : F153 12 = iv ((2 : Nat) : Int) := (hF154 12).trans rfl
 clear hF154
 refine then_normal (wqr_step (wq_seq (wq_region (wl_v (.bool true) rfl rfl (y_lss rfl s158 rfl rfl rr) (wl_nil fun F159 hF160 => ?_)))))
 obtain ⟨s161, s162, s163, s164⟩ := t4 hF160 30 s155 4 s156 5 s157 12 s158
 have s165 : F159 13 = .bool true := (hF160 13).trans rfl
 clear hF160
 refine then_normal (wq_seq ?_)
 refine wq_cond (t := true) s165 (fun _ => ?_) (fun e => by cases e)
 refine wq_skip (then_normal (wq_seq (wq_block (wq_seq (wq_region (wl_mv rfl rfl rfl s164 (wl_v (iv ((2 : Nat) : Int)) rfl rfl (y_asg rfl rfl rr) (wl_nil fun F166 hF167 => ?_))))))))
 obtain ⟨s168, s169, s170, s171⟩ := t4 hF167 30 s161 4 s162 5 s163 12 s164
 have s172 : F166 6 = iv ((2 : Nat) : Int) := (hF167 6).trans rfl
 clear hF167
 refine then_normal (wq_seq (wq_region (wl_v (.agg #[iv w, iv h, v67, v126, .slice none 0 0]) rfl rfl (y_load_stc stcT_frame rfl s170 B141 rr) (wl_mv rfl rfl rfl s172 (wl_cs rfl rfl rfl rfl rfl (fun _ _ => by kernel_rfl) (vsC rfl (vsC rfl vsN)) (ps_sides ((2 : Nat) : Int) (FD.mk w h (List.replicate (pn2 n0 n1 0) 0) (List.replicate (pn2 n0 n1 1) 0) ([])) v67 v126 (.slice none 0 0) T72 T131 noB _ (by dsimp only; omega) (by dsimp only; omega) B144.byt B145.byt (Byt.nil _) ) fun w173 k174 => ?_)))))
 have B175 := B143.all k174 id
 have B176 := B141.all k174 id
 have B177 := B144.all k174 Apart.none
 have B178 := B145.all k174 Apart.none
 have K179 := K146.tr k174
 refine wl_v (.tuple #[iv ((sidesF (FD.mk w h (List.replicate (pn2 n0 n1 0) 0) (List.replicate (pn2 n0 n1 1) 0) ([])) ((2 : Nat) : Int)).1), iv ((sidesF (FD.mk w h (List.replicate (pn2 n0 n1 0) 0) (List.replicate (pn2 n0 n1 1) 0) ([])) ((2 : Nat) : Int)).2)]) rfl rfl (y_mov rfl rfl rr) (wl_v (iv ((sidesF (FD.mk w h (List.replicate (pn2 n0 n1 0) 0) (List.replicate (pn2 n0 n1 1) 0) ([])) ((2 : Nat) : Int)).1)) rfl rfl (y_ext rfl rfl rfl rr) (wl_v (iv ((sidesF (FD.mk w h (List.replicate (pn2 n0 n1 0) 0) (List.replicate (pn2 n0 n1 1) 0) ([])) ((2 : Nat) : Int)).2)) rfl rfl (y_ext rfl rfl rfl rr) (wl_v (iv ((sidesF (FD.mk w h (List.replicate (pn2 n0 n1 0) 0) (List.replicate (pn2 n0 n1 1) 0) ([])) ((2 : Nat) : Int)).1)) rfl rfl (y_asg rfl rfl rr) (wl_v (iv ((sidesF (FD.mk w h (List.replicate (pn2 n0 n1 0) 0) (List.replicate (pn2 n0 n1 1) 0) ([])) ((2 : Nat) : Int)).2)) rfl rfl (y_asg rfl rfl rr) (wl_nil fun F180 hF181 => ?_)))))
 obtain ⟨s182, s183, s184, s185, s186⟩ := t5 hF181 30 s168 4 s169 5 s170 12 s171 6 s172
 have s187 : F180 7 = iv ((sidesF (FD.mk w h (List.replicate (pn2 n0 n1 0) 0) (List.replicate (pn2 n0 n1 1) 0) ([])) ((2 : Nat) : Int)).1) := (hF181 7).trans rfl
 have s188 : F180 8 = iv ((sidesF (FD.mk w h (List.replicate (pn2 n0 n1 0) 0) (List.replicate (pn2 n0 n1 1) 0) ([])) ((2 : Nat) : Int)).2) := (hF181 8).trans rfl
 clear hF181
 refine then_normal ?_
 have hpq := pn2_le n0 n1 2
 refine wq_region (wl_mv rfl rfl rfl s186 (wl_mv rfl rfl rfl s187 (wl_mv rfl rfl rfl s188 (wl_v (iv (((pn2 n0 n1 2) : Nat) : Int)) rfl rfl (y_mul rfl rfl rfl (by first | exact (i64_i rfl (by show _ ≤ w * h ∧ w * h ≤ _; omega)).trans (hn0.symm) | exact (i64_i rfl (by show _ ≤ Int.tdiv w 2 * Int.tdiv h 2 ∧ Int.tdiv w 2 * Int.tdiv h 2 ≤ _; omega)).trans hn1.symm) rr) (wl_makeB (n := (pn2 n0 n1 2)) rfl rfl rfl rfl rfl (by omega) (by omega) (by omega) fun v189 w190 T194 B192 g193 k191 => ?_)))))
 have gr195 : Grew w0 noB T194 := Grew.new K179 g193
 have ap196 : Apart T194 (onB p1) := Apart.new g193 (onB_live B175.lt)
 have ap197 : Apart T194 (onB p14) := Apart.new g193 (onB_live B176.lt)
 have ap198 : Apart T194 T72 := Apart.new g193 B177.live
 have ap199 : Apart T194 T131 := Apart.new g193 B178.live
 have B200 := B175.all k191 id
 have B201 := B176.all k191 id
 have B202 := B177.all k191 Apart.none
 have B203 := B178.all k191 Apart.none
 have K204 := K179.tr k191
 refine wl_v (pt p14 2) rfl rfl (y_fieldR (n := 3) rfl s184 Tryz.underlying29 rfl (by kernel_rfl) (by decide) rfl rr) (wl_v (pt p14 4) rfl rfl (y_atR 2 (s := 1) rfl rfl rfl (by omega) Tryz.underlying27 (by omega) (by kernel_rfl) (by omega) rr) (wl_set_stc rfl rfl rfl rfl rfl B201 rfl B192.oneC (by kernel_rfl) fun w205 B206 k207 => ?_))
 replace B206 : Stc w205 p14 29 [iv w, iv h, v67, v126, v189] := B206
 have B208 := B200.all k207 (ap20.symm p1 rfl)
 have B209 := B202.all k207 ap75
 have B210 := B203.all k207 ap134
 have B211 := B192.all k207 ap197
 have K212 := K204.trans k207 (Grew.ok (S := fun _ => False) gr19 noB_le)
 refine wl_nil fun F213 hF214 => ?_
 obtain ⟨s215, s216, s217, s218⟩ := t4 hF214 30 s182 4 s183 5 s184 12 s185
 clear hF214
 refine in_normal (then_normal (wq_region (wl_v (iv ((3 : Nat) : Int)) rfl rfl (y_add rfl s218 rfl (i64_n (by omega) (by omega)) rr) (wl_v (iv ((3 : Nat) : Int)) rfl rfl (y_mov rfl rfl rr) (wl_nil fun F219 hF220 => ?_)))))
 obtain ⟨s221, s222, s223⟩ := t3 hF220 30 s215 4 s216 5 s217
 have s224 : F219 12 = iv ((3 : Nat) : Int) := (hF220 12).trans rfl
 clear hF220
 refine then_normal (wqr_step (wq_seq (wq_region (wl_v (.bool false) rfl rfl (y_lss rfl s224 rfl rfl rr) (wl_nil fun F225 hF226 => ?_)))))
 obtain ⟨s227, s228, s229⟩ := t3 hF226 30 s221 4 s222 5 s223
 have s231 : F225 13 = .bool false := (hF226 13).trans rfl
 clear hF226
 refine then_normal (wq_seq ?_)
 refine wq_cond (t := false) s231 (fun e => by cases e) (fun _ => ?_)
 refine wq_exit (then_exit (then_exit (in_here (then_normal (wq_seq (wq_region (wl_v (.agg #[iv w, iv h, v67, v126, v189]) rfl rfl (y_load_stc stcT_frame rfl s229 B206 rr) (wl_store_stc (us := [iv w, iv h, v67, v126, v189]) stcT_frame rfl rfl rfl s228 rfl B208 rfl (oneI rfl (oneI rfl (oneI B209.one (oneI B210.one (oneI B211.one oneN))))) fun w232 B233 k234 => ?_))))))))
 have B236 := B209.all k234 ap74
 have B237 := B210.all k234 ap133
 have B238 := B211.all k234 ap196
 have K239 := K212.trans k234 (Grew.ok (S := fun _ => False) gr6 noB_le)
 refine wl_nil fun F240 hF241 => ?_
 obtain ⟨s242, s243⟩ := t2 hF241 30 s227 4 s228
 clear hF241
 refine then_normal (wq_ret ?_)
 exact end_stc (vs := [iv w, iv h, v67, v126, v189]) stcT_frame s242 rfl rfl s243 B233 ⟨v67, T72, v126, T131, v189, T194, (by rw [hF]), K239, ⟨(by rw [hF]; exact B236), gr73⟩, ⟨(by rw [hF]; exact B237), gr132⟩, ⟨(by rw [hF]; exact B238), gr195⟩, ap135.symm, ap198.symm, ap199.symm⟩
theorem pl_copy (f : FD) (f0 f1 f2 : Value) (T_f0 : Nat → Prop) (T_f1 : Nat → Prop) (T_f2 : Nat → Prop) (w0 : World) (h_f0 : Byt w0 T_f0 f0 ((f).p0)) (h_f1 : Byt w0 T_f1 f1 ((f).p1)) (h_f2 : Byt w0 T_f2 f2 ((f).p2)) :
  Calls Tryz.prog 18 #[.agg #[.int .i64 ((f).W), .int .i64 ((f).H), f0, f1, f2]] w0 fun e w' => ∃ (v1 : Value) (T1 : Nat → Prop) (v2 : Value) (T2 : Nat → Prop) (v3 : Value) (T3 : Nat → Prop), e = .returned (.agg #[.int .i64 ((copyF f).W), .int .i64 ((copyF f).H), v1, v2, v3]) ∧ Kept (fun _ => False) w0 w' ∧ (Owb w' T1 v1 ((copyF f).p0) ∧ Grew w0 noB T1) ∧ (Owb w' T2 v2 ((copyF f).p1) ∧ Grew w0 noB T2) ∧ (Owb w' T3 v3 ((copyF f).p2) ∧ Grew w0 noB T3) ∧ Apart T1 T2 ∧ Apart T1 T3 ∧ Apart T2 T3 := by
 refine calls_wq (args := [.agg #[iv (f.W), iv (f.H), f0, f1, f2]]) 28 Tryz.func18 rfl rfl (Nat.le_of_ble_eq_true rfl) ?_
 have K0 := Kept.refl (fun _ => False) w0
 have g_f0 := Grew.refl w0 T_f0
 have g_f1 := Grew.refl w0 T_f1
 have g_f2 := Grew.refl w0 T_f2
 refine wq_seq (wq_region (wl_box_stc (vs := [iv (f.W), iv (f.H), f0, f1, f2]) rfl rfl rfl rfl fun p1 w2 B4 g5 k3 => ?_))
 have B10 := h_f0.all k3 Apart.none
 have B11 := h_f1.all k3 Apart.none
 have B12 := h_f2.all k3 Apart.none
 have K13 := K0.tr k3
 refine wl_alloc_stc (n := 5) (vs := [iv 0, iv 0, .slice none 0 0, .slice none 0 0, .slice none 0 0]) rfl rfl rfl (by kernel_rfl) fun p14 w15 B17 g18 k16 => ?_
 have gr19 : Grew w0 noB (onB p14) := Grew.new K13 g18
 have B24 := B10.all k16 Apart.none
 have B25 := B11.all k16 Apart.none
 have B26 := B12.all k16 Apart.none
 have B27 := B4.all k16 id
 have K28 := K13.tr k16
 refine wl_nil fun F29 hF30 => ?_
 have s31 : F29 28 = undef := (hF30 28).trans rfl
 have s32 : F29 1 = pt p1 0 := (hF30 1).trans rfl
 have s33 : F29 2 = pt p14 0 := (hF30 2).trans rfl
 clear hF30
 refine then_normal (wq_seq (wq_seq (wq_region (wl_v (.agg #[iv (f.W), iv (f.H), f0, f1, f2]) rfl rfl (y_load_stc stcT_frame rfl s32 B27 rr) (wl_cs rfl rfl rfl rfl rfl (fun _ _ => by kernel_rfl) (vsC rfl vsN) (pl_check f f0 f1 f2 T_f0 T_f1 T_f2 _  B24 B25 B26 ) fun w34 k35 => ?_)))))
 have B36 := B24.all k35 Apart.none
 have B37 := B25.all k35 Apart.none
 have B38 := B26.all k35 Apart.none
 have B39 := B27.all k35 id
 have B40 := B17.all k35 id
 have K41 := K28.tr k35
 refine wl_v (.bool (decide ((checkE f) ≠ 0))) rfl rfl (y_neqI rfl rfl rfl rfl rr) (wl_nil fun F42 hF43 => ?_)
 obtain ⟨s44, s45, s46⟩ := t3 hF43 28 s31 1 s32 2 s33
 have s47 : F42 7 = .bool (decide ((checkE f) ≠ 0)) := (hF43 7).trans rfl
 clear hF43
 refine then_normal ?_
 refine wq_cond s47 (fun c48 => ?_) (fun c48 => ?_)
 ·replace c48 := of_decide_eq_true c48
  refine wq_seq ?_
  have hno : ¬ okF f := fun h => absurd ((checkE_iff f).2 h) (by assumption)
  refine wq_region (wl_v (.agg #[iv 0, iv 0, .slice none 0 0, .slice none 0 0, .slice none 0 0]) rfl rfl (y_buildL (l' := []) (cells := #[iv 0, iv 0, .slice none 0 0, .slice none 0 0, .slice none 0 0]) rfl bpN (by kernel_rfl) rfl rr) (wl_store_stc (us := [iv 0, iv 0, .slice none 0 0, .slice none 0 0, .slice none 0 0]) stcT_frame rfl rfl rfl s46 rfl B40 rfl (oneI rfl (oneI rfl (oneI rfl (oneI rfl (oneI rfl oneN))))) fun w49 B50 k51 => ?_))
  have K56 := K41.trans k51 (Grew.ok (S := fun _ => False) gr19 noB_le)
  refine wl_nil fun F57 hF58 => ?_
  obtain ⟨s59, s60⟩ := t2 hF58 28 s44 2 s46
  clear hF58
  refine then_normal (wq_ret (then_ret ?_))
  exact end_stc (vs := [iv 0, iv 0, .slice none 0 0, .slice none 0 0, .slice none 0 0]) stcT_frame s59 rfl rfl s60 B50 ⟨(.slice none 0 0), noB, (.slice none 0 0), noB, (.slice none 0 0), noB, (by first | rw [copyF_yes hok, (new_side 0 hok.1 hok.2.1).1, (new_side 0 hok.1 hok.2.1).2] | rw [copyF_no hno]; rfl), K56, ⟨(by first | (rw [copyF_yes hok]; exact (Owb.nil _)) | (rw [copyF_no hno]; exact (Owb.nil _))), (Grew.refl _ _)⟩, ⟨(by first | (rw [copyF_yes hok]; exact (Owb.nil _)) | (rw [copyF_no hno]; exact (Owb.nil _))), (Grew.refl _ _)⟩, ⟨(by first | (rw [copyF_yes hok]; exact (Owb.nil _)) | (rw [copyF_no hno]; exact (Owb.nil _))), (Grew.refl _ _)⟩, Apart.none, Apart.none, Apart.none⟩
 ·replace c48 := of_decide_eq_false c48
  refine wq_skip (then_normal (wq_seq ?_))
  have hok := (checkE_iff f).1 (by first | assumption | (apply Decidable.byContradiction; assumption))
  have hmost := ok_lens hok
  have hnl := blank_lens hok
  refine wq_region (wl_v (pt p1 0) rfl rfl (y_fieldR (n := 1) rfl s45 Tryz.underlying29 rfl (by kernel_rfl) (by decide) rfl rr) (wl_v (iv (f.W)) rfl rfl (y_ld_stc rfl rfl Tryz.underlying3 B39 rfl rfl rr) (wl_v (pt p1 1) rfl rfl (y_fieldR (n := 1) rfl s45 Tryz.underlying29 rfl (by kernel_rfl) (by decide) rfl rr) (wl_v (iv (f.H)) rfl rfl (y_ld_stc rfl rfl Tryz.underlying3 B39 rfl rfl rr) (wl_call (R := fun v_ w_ => ∃ (v61 : Value) (T66 : Nat → Prop) (v62 : Value) (T67 : Nat → Prop) (v63 : Value) (T68 : Nat → Prop), .agg #[iv ((newF (f.W) (f.H) 0).W), iv ((newF (f.W) (f.H) 0).H), v61, v62, v63] = v_ ∧ Kept (fun _ => False) w34 w_ ∧ (Owb w_ T66 v61 ((newF (f.W) (f.H) 0).p0) ∧ Grew w34 noB T66) ∧ (Owb w_ T67 v62 ((newF (f.W) (f.H) 0).p1) ∧ Grew w34 noB T67) ∧ (Owb w_ T68 v63 ((newF (f.W) (f.H) 0).p2) ∧ Grew w34 noB T68) ∧ Apart T66 T67 ∧ Apart T66 T68 ∧ Apart T67 T68) rfl rfl (y_cs rfl rfl rfl (fun _ _ => by kernel_rfl) (ev_func _) (vsC rfl (vsC rfl vsN)) (ps_blank (f.W) (f.H)  _ hok.1 hok.2.1  ) (fun e_ w_ h_ => by obtain ⟨v61_, T66_, v62_, T67_, v63_, T68_, he_, hr_⟩ := h_; exact ⟨_, he_, v61_, T66_, v62_, T67_, v63_, T68_, rfl, hr_⟩)) ?_)))))
  rintro _ w64 ⟨v61, T66, v62, T67, v63, T68, rfl, k65, ⟨B69, g72⟩, ⟨B70, g73⟩, ⟨B71, g74⟩, ap75, ap76, ap77⟩
  have B78 := B36.all k65 Apart.none
  have B79 := B37.all k65 Apart.none
  have B80 := B38.all k65 Apart.none
  have B81 := B39.all k65 id
  have B82 := B40.all k65 id
  have K83 := K41.tr k65
  have gr84 : Grew w0 noB T66 := Grew.new K41 g72
  have ap86 : Apart T66 T_f1 := Apart.new g72 B37.live
  have ap87 : Apart T66 T_f2 := Apart.new g72 B38.live
  have ap88 : Apart T66 (onB p1) := Apart.new g72 (onB_live B39.lt)
  have ap89 : Apart T66 (onB p14) := Apart.new g72 (onB_live B40.lt)
  have gr90 : Grew w0 noB T67 := Grew.new K41 g73
  have ap93 : Apart T67 T_f2 := Apart.new g73 B38.live
  have ap94 : Apart T67 (onB p1) := Apart.new g73 (onB_live B39.lt)
  have ap95 : Apart T67 (onB p14) := Apart.new g73 (onB_live B40.lt)
  have gr96 : Grew w0 noB T68 := Grew.new K41 g74
  have ap101 : Apart T68 (onB p14) := Apart.new g74 (onB_live B40.lt)
  refine wl_alloc_stc (n := 5) (vs := [iv 0, iv 0, .slice none 0 0, .slice none 0 0, .slice none 0 0]) rfl rfl rfl (by kernel_rfl) fun p102 w103 B105 g106 k104 => ?_
  have gr107 : Grew w0 noB (onB p102) := Grew.new K83 g106
  have ap108 : Apart (onB p102) T_f0 := Apart.new g106 B78.live
  have ap109 : Apart (onB p102) T_f1 := Apart.new g106 B79.live
  have ap110 : Apart (onB p102) T_f2 := Apart.new g106 B80.live
  have ap111 : Apart (onB p102) (onB p1) := Apart.new g106 (onB_live B81.lt)
  have ap112 : Apart (onB p102) (onB p14) := Apart.new g106 (onB_live B82.lt)
  have ap113 : Apart (onB p102) T66 := Apart.new g106 B69.live
  have ap114 : Apart (onB p102) T67 := Apart.new g106 B70.live
  have ap115 : Apart (onB p102) T68 := Apart.new g106 B71.live
  have B116 := B78.all k104 Apart.none
  have B117 := B79.all k104 Apart.none
  have B118 := B80.all k104 Apart.none
  have B119 := B81.all k104 id
  have B120 := B82.all k104 id
  have B121 := B69.all k104 Apart.none
  have B122 := B70.all k104 Apart.none
  have B123 := B71.all k104 Apart.none
  have K124 := K83.tr k104
  refine wl_store_stc (us := [iv ((newF (f.W) (f.H) 0).W), iv ((newF (f.W) (f.H) 0).H), v61, v62, v63]) stcT_frame rfl rfl rfl rfl rfl B105 rfl (oneI rfl (oneI rfl (oneI B121.one (oneI B122.one (oneI B123.one oneN))))) fun w125 B126 k127 => ?_
  have B128 := B116.all k127 ap108.symm
  have B129 := B117.all k127 ap109.symm
  have B130 := B118.all k127 ap110.symm
  have B131 := B119.all k127 (ap111.symm p1 rfl)
  have B132 := B120.all k127 (ap112.symm p14 rfl)
  have B133 := B121.all k127 ap113.symm
  have B134 := B122.all k127 ap114.symm
  have B135 := B123.all k127 ap115.symm
  have K136 := K124.trans k127 (Grew.ok (S := fun _ => False) gr107 noB_le)
  refine wl_nil fun F137 hF138 => ?_
  obtain ⟨s139, s140, s141⟩ := t3 hF138 28 s44 1 s45 2 s46
  have s142 : F137 3 = pt p102 0 := (hF138 3).trans rfl
  clear hF138
  refine then_normal (wq_seq (wq_seq (wq_region (wl_v (iv 0) rfl rfl (y_mov rfl rfl rr) (wl_nil fun F143 hF144 => ?_)))))
  obtain ⟨s145, s146, s147, s148⟩ := t4 hF144 28 s139 1 s140 2 s141 3 s142
  have s149 : F143 14 = iv 0 := (hF144 14).trans rfl
  clear hF144
  refine then_normal (wq_block (wq_rounds 4 (wqr_step (wq_seq (wq_region (wl_v (.bool true) rfl rfl (y_lss rfl s149 rfl rfl rr) (wl_nil fun F150 hF151 => ?_)))))))
  obtain ⟨s152, s153, s154, s155, s156⟩ := t5 hF151 28 s145 1 s146 2 s147 3 s148 14 s149
  have s157 : F150 15 = .bool true := (hF151 15).trans rfl
  clear hF151
  refine then_normal (wq_seq ?_)
  refine wq_cond (t := true) s157 (fun _ => ?_) (fun e => by cases e)
  refine wq_skip (then_normal (wq_seq (wq_block (wq_seq (wq_region (wl_mv rfl rfl rfl s156 (wl_v (iv 0) rfl rfl (y_asg rfl rfl rr) (wl_nil fun F158 hF159 => ?_))))))))
  obtain ⟨s160, s161, s162, s163, s164⟩ := t5 hF159 28 s152 1 s153 2 s154 3 s155 14 s156
  have s165 : F158 4 = iv 0 := (hF159 4).trans rfl
  clear hF159
  refine then_normal ?_
  refine wq_tail 8 [some 17, some 18, some 19, some 20, some 21, some 22, some 23, some 24] [Pd.eq (iv 0), Pd.eq (pt p102 2), Pd.eq (pt p102 2), Pd.eq v61, Pd.eq (iv 0), Pd.eq (pt p1 2), Pd.eq (pt p1 2), Pd.eq f0] (by kernel_rfl) (by kernel_rfl) (by kernel_rfl) ?_ ?_
  ·refine stepsF_cons ?_ ?_
   ·refine StepF.one rfl fun F_ w_ hR hout hD => ?_
    exact (y_mov rfl ((hout 4 rfl (by decide)).trans s165) ⟨rfl, Kept.refl _ _⟩)
   refine stepsF_cons ?_ ?_
   ·refine StepF.one rfl fun F_ w_ hR hout hD => ?_
    exact (y_fieldR (n := 3) rfl ((hout 3 rfl (by decide)).trans s163) Tryz.underlying29 rfl (by kernel_rfl) (by decide) rfl ⟨rfl, Kept.refl _ _⟩)
   refine stepsF_cons ?_ ?_
   ·refine StepF.one rfl fun F_ w_ hR hout hD => ?_
    have g18 : F_ 18 = pt p102 2 := (hD.get 0 rfl rfl rfl)
    have g17 : F_ 17 = iv 0 := (hD.get 1 rfl rfl rfl)
    exact (y_atR 0 (s := 1) rfl g18 g17 (by omega) Tryz.underlying27 (by omega) (by kernel_rfl) (by omega) ⟨rfl, Kept.refl _ _⟩)
   refine stepsF_cons ?_ ?_
   ·refine StepF.one rfl fun F_ w_ hR hout hD => ?_
    have g19 : F_ 19 = pt p102 2 := (hD.get 0 rfl rfl rfl)
    exact (y_ld_stc rfl g19 Tryz.underlying26 (B126.all hR id) rfl rfl ⟨rfl, Kept.refl _ _⟩)
   refine stepsF_cons ?_ ?_
   ·refine StepF.one rfl fun F_ w_ hR hout hD => ?_
    exact (y_mov rfl ((hout 4 rfl (by decide)).trans s165) ⟨rfl, Kept.refl _ _⟩)
   refine stepsF_cons ?_ ?_
   ·refine StepF.one rfl fun F_ w_ hR hout hD => ?_
    exact (y_fieldR (n := 3) rfl ((hout 1 rfl (by decide)).trans s161) Tryz.underlying29 rfl (by kernel_rfl) (by decide) rfl ⟨rfl, Kept.refl _ _⟩)
   refine stepsF_cons ?_ ?_
   ·refine StepF.one rfl fun F_ w_ hR hout hD => ?_
    have g22 : F_ 22 = pt p1 2 := (hD.get 0 rfl rfl rfl)
    have g21 : F_ 21 = iv 0 := (hD.get 1 rfl rfl rfl)
    exact (y_atR 0 (s := 1) rfl g22 g21 (by omega) Tryz.underlying27 (by omega) (by kernel_rfl) (by omega) ⟨rfl, Kept.refl _ _⟩)
   refine stepsF_cons ?_ ?_
   ·refine StepF.one rfl fun F_ w_ hR hout hD => ?_
    have g23 : F_ 23 = pt p1 2 := (hD.get 0 rfl rfl rfl)
    exact (y_ld_stc rfl g23 Tryz.underlying26 (B131.all hR id) rfl rfl ⟨rfl, Kept.refl _ _⟩)
   exact stepsF_nil
  intro v166 F167 w168 k169 G170 hF171
  have B173 := B128.all k169 Apart.none
  have B174 := B129.all k169 Apart.none
  have B175 := B130.all k169 Apart.none
  have B176 := B131.all k169 id
  have B177 := B132.all k169 id
  have B178 := B133.all k169 Apart.none
  have B179 := B134.all k169 Apart.none
  have B180 := B135.all k169 Apart.none
  have B181 := B126.all k169 id
  have K182 := K136.tr k169
  obtain ⟨s183, s184, s185, s186, s187⟩ := t5 hF171 28 s160 1 s161 2 s162 3 s163 14 s164
  have s188 : F167 20 = v61 := (hF171 20).trans (G170 3 (by decide))
  have s189 : F167 24 = f0 := (hF171 24).trans (G170 7 (by decide))
  clear G170 hF171
  refine wl_copyB rfl rfl rfl rfl s188 s189 B178 B173 (by first | exact hnl.1 | exact hnl.2.1 | exact hnl.2.2) fun w191 B193 k192 => ?_
  have B197 := B174.all k192 ap86.symm
  have B198 := B175.all k192 ap87.symm
  have B199 := B176.all k192 (ap88.symm p1 rfl)
  have B200 := B177.all k192 (ap89.symm p14 rfl)
  have B201 := B179.all k192 ap75.symm
  have B202 := B180.all k192 ap76.symm
  have B203 := B181.all k192 (ap113 p102 rfl)
  have K204 := K182.trans k192 (Grew.ok (S := fun _ => False) gr84 noB_le)
  refine wl_nil fun F205 hF206 => ?_
  obtain ⟨s207, s208, s209, s210, s211⟩ := t5 hF206 28 s183 1 s184 2 s185 3 s186 14 s187
  clear hF206
  refine in_normal (then_normal (wq_region (wl_v (iv ((1 : Nat) : Int)) rfl rfl (y_add rfl s211 rfl (i64_n (by omega) (by omega)) rr) (wl_v (iv ((1 : Nat) : Int)) rfl rfl (y_mov rfl rfl rr) (wl_nil fun F212 hF213 => ?_)))))
  obtain ⟨s214, s215, s216, s217⟩ := t4 hF213 28 s207 1 s208 2 s209 3 s210
  have s218 : F212 14 = iv ((1 : Nat) : Int) := (hF213 14).trans rfl
  clear hF213
  refine then_normal (wqr_step (wq_seq (wq_region (wl_v (.bool true) rfl rfl (y_lss rfl s218 rfl rfl rr) (wl_nil fun F219 hF220 => ?_)))))
  obtain ⟨s221, s222, s223, s224, s225⟩ := t5 hF220 28 s214 1 s215 2 s216 3 s217 14 s218
  have s226 : F219 15 = .bool true := (hF220 15).trans rfl
  clear hF220
  refine then_normal (wq_seq ?_)
  refine wq_cond (t := true) s226 (fun _ => ?_) (fun e => by cases e)
  refine wq_skip (then_normal (wq_seq (wq_block (wq_seq (wq_region (wl_mv rfl rfl rfl s225 (wl_v (iv ((1 : Nat) : Int)) rfl rfl (y_asg rfl rfl rr) (wl_nil fun F227 hF228 => ?_))))))))
  obtain ⟨s229, s230, s231, s232, s233⟩ := t5 hF228 28 s221 1 s222 2 s223 3 s224 14 s225
  have s234 : F227 4 = iv ((1 : Nat) : Int) := (hF228 4).trans rfl
  clear hF228
  refine then_normal ?_
  refine wq_tail 8 [some 17, some 18, some 19, some 20, some 21, some 22, some 23, some 24] [Pd.eq (iv ((1 : Nat) : Int)), Pd.eq (pt p102 2), Pd.eq (pt p102 3), Pd.eq v62, Pd.eq (iv ((1 : Nat) : Int)), Pd.eq (pt p1 2), Pd.eq (pt p1 3), Pd.eq f1] (by kernel_rfl) (by kernel_rfl) (by kernel_rfl) ?_ ?_
  ·refine stepsF_cons ?_ ?_
   ·refine StepF.one rfl fun F_ w_ hR hout hD => ?_
    exact (y_mov rfl ((hout 4 rfl (by decide)).trans s234) ⟨rfl, Kept.refl _ _⟩)
   refine stepsF_cons ?_ ?_
   ·refine StepF.one rfl fun F_ w_ hR hout hD => ?_
    exact (y_fieldR (n := 3) rfl ((hout 3 rfl (by decide)).trans s232) Tryz.underlying29 rfl (by kernel_rfl) (by decide) rfl ⟨rfl, Kept.refl _ _⟩)
   refine stepsF_cons ?_ ?_
   ·refine StepF.one rfl fun F_ w_ hR hout hD => ?_
    have g18 : F_ 18 = pt p102 2 := (hD.get 0 rfl rfl rfl)
    have g17 : F_ 17 = iv ((1 : Nat) : Int) := (hD.get 1 rfl rfl rfl)
    exact (y_atR 1 (s := 1) rfl g18 g17 (by omega) Tryz.underlying27 (by omega) (by kernel_rfl) (by omega) ⟨rfl, Kept.refl _ _⟩)
   refine stepsF_cons ?_ ?_
   ·refine StepF.one rfl fun F_ w_ hR hout hD => ?_
    have g19 : F_ 19 = pt p102 3 := (hD.get 0 rfl rfl rfl)
    exact (y_ld_stc rfl g19 Tryz.underlying26 (B203.all hR id) rfl rfl ⟨rfl, Kept.refl _ _⟩)
   refine stepsF_cons ?_ ?_
   ·refine StepF.one rfl fun F_ w_ hR hout hD => ?_
    exact (y_mov rfl ((hout 4 rfl (by decide)).trans s234) ⟨rfl, Kept.refl _ _⟩)
   refine stepsF_cons ?_ ?_
   ·refine StepF.one rfl fun F_ w_ hR hout hD => ?_
    exact (y_fieldR (n := 3) rfl ((hout 1 rfl (by decide)).trans s230) Tryz.underlying29 rfl (by kernel_rfl) (by decide) rfl ⟨rfl, Kept.refl _ _⟩)
   refine stepsF_cons ?_ ?_
   ·refine StepF.one rfl fun F_ w_ hR hout hD => ?_
    have g22 : F_ 22 = pt p1 2 := (hD.get 0 rfl rfl rfl)
    have g21 : F_ 21 = iv ((1 : Nat) : Int) := (hD.get 1 rfl rfl rfl)
    exact (y_atR 1 (s := 1) rfl g22 g21 (by omega) Tryz.underlying27 (by omega) (by kernel_rfl) (by omega) ⟨rfl, Kept.refl _ _⟩)
   refine stepsF_cons ?_ ?_
   ·refine StepF.one rfl fun F_ w_ hR hout hD => ?_
    have g23 : F_ 23 = pt p1 3 := (hD.get 0 rfl rfl rfl)
    exact (y_ld_stc rfl g23 Tryz.underlying26 (B199.all hR id) rfl rfl ⟨rfl, Kept.refl _ _⟩)
   exact stepsF_nil
  intro v235 F236 w237 k238 G239 hF240
  have B243 := B197.all k238 Apart.none
  have B244 := B198.all k238 Apart.none
  have B245 := B199.all k238 id
  have B246 := B200.all k238 id
  have B247 := B193.all k238 Apart.none
  have B248 := B201.all k238 Apart.none
  have B249 := B202.all k238 Apart.none
  have B250 := B203.all k238 id
  have K251 := K204.tr k238
  obtain ⟨s252, s253, s254, s255, s256⟩ := t5 hF240 28 s229 1 s230 2 s231 3 s232 14 s233
  have s257 : F236 20 = v62 := (hF240 20).trans (G239 3 (by decide))
  have s258 : F236 24 = f1 := (hF240 24).trans (G239 7 (by decide))
  clear G239 hF240
  refine wl_copyB rfl rfl rfl rfl s257 s258 B248 B243 (by first | exact hnl.1 | exact hnl.2.1 | exact hnl.2.2) fun w260 B262 k261 => ?_
  have B267 := B244.all k261 ap93.symm
  have B268 := B245.all k261 (ap94.symm p1 rfl)
  have B269 := B246.all k261 (ap95.symm p14 rfl)
  have B270 := B247.all k261 ap75
  have B271 := B249.all k261 ap77.symm
  have B272 := B250.all k261 (ap114 p102 rfl)
  have K273 := K251.trans k261 (Grew.ok (S := fun _ => False) gr90 noB_le)
  refine wl_nil fun F274 hF275 => ?_
  obtain ⟨s276, s277, s278, s279, s280⟩ := t5 hF275 28 s252 1 s253 2 s254 3 s255 14 s256
  clear hF275
  refine in_normal (then_normal (wq_region (wl_v (iv ((2 : Nat) : Int)) rfl rfl (y_add rfl s280 rfl (i64_n (by omega) (by omega)) rr) (wl_v (iv ((2 : Nat) : Int)) rfl rfl (y_mov rfl rfl rr) (wl_nil fun F281 hF282 => ?_)))))
  obtain ⟨s283, s284, s285, s286⟩ := t4 hF282 28 s276 1 s277 2 s278 3 s279
  have s287 : F281 14 = iv ((2 : Nat) : Int) := (hF282 14).trans rfl
  clear hF282
  refine then_normal (wqr_step (wq_seq (wq_region (wl_v (.bool true) rfl rfl (y_lss rfl s287 rfl rfl rr) (wl_nil fun F288 hF289 => ?_)))))
  obtain ⟨s290, s291, s292, s293, s294⟩ := t5 hF289 28 s283 1 s284 2 s285 3 s286 14 s287
  have s295 : F288 15 = .bool true := (hF289 15).trans rfl
  clear hF289
  refine then_normal (wq_seq ?_)
  refine wq_cond (t := true) s295 (fun _ => ?_) (fun e => by cases e)
  refine wq_skip (then_normal (wq_seq (wq_block (wq_seq (wq_region (wl_mv rfl rfl rfl s294 (wl_v (iv ((2 : Nat) : Int)) rfl rfl (y_asg rfl rfl rr) (wl_nil fun F296 hF297 => ?_))))))))
  obtain ⟨s298, s299, s300, s301, s302⟩ := t5 hF297 28 s290 1 s291 2 s292 3 s293 14 s294
  have s303 : F296 4 = iv ((2 : Nat) : Int) := (hF297 4).trans rfl
  clear hF297
  refine then_normal ?_
  refine wq_tail 8 [some 17, some 18, some 19, some 20, some 21, some 22, some 23, some 24] [Pd.eq (iv ((2 : Nat) : Int)), Pd.eq (pt p102 2), Pd.eq (pt p102 4), Pd.eq v63, Pd.eq (iv ((2 : Nat) : Int)), Pd.eq (pt p1 2), Pd.eq (pt p1 4), Pd.eq f2] (by kernel_rfl) (by kernel_rfl) (by kernel_rfl) ?_ ?_
  ·refine stepsF_cons ?_ ?_
   ·refine StepF.one rfl fun F_ w_ hR hout hD => ?_
    exact (y_mov rfl ((hout 4 rfl (by decide)).trans s303) ⟨rfl, Kept.refl _ _⟩)
   refine stepsF_cons ?_ ?_
   ·refine StepF.one rfl fun F_ w_ hR hout hD => ?_
    exact (y_fieldR (n := 3) rfl ((hout 3 rfl (by decide)).trans s301) Tryz.underlying29 rfl (by kernel_rfl) (by decide) rfl ⟨rfl, Kept.refl _ _⟩)
   refine stepsF_cons ?_ ?_
   ·refine StepF.one rfl fun F_ w_ hR hout hD => ?_
    have g18 : F_ 18 = pt p102 2 := (hD.get 0 rfl rfl rfl)
    have g17 : F_ 17 = iv ((2 : Nat) : Int) := (hD.get 1 rfl rfl rfl)
    exact (y_atR 2 (s := 1) rfl g18 g17 (by omega) Tryz.underlying27 (by omega) (by kernel_rfl) (by omega) ⟨rfl, Kept.refl _ _⟩)
   refine stepsF_cons ?_ ?_
   ·refine StepF.one rfl fun F_ w_ hR hout hD => ?_
    have g19 : F_ 19 = pt p102 4 := (hD.get 0 rfl rfl rfl)
    exact (y_ld_stc rfl g19 Tryz.underlying26 (B272.all hR id) rfl rfl ⟨rfl, Kept.refl _ _⟩)
   refine stepsF_cons ?_ ?_
   ·refine StepF.one rfl fun F_ w_ hR hout hD => ?_
    exact (y_mov rfl ((hout 4 rfl (by decide)).trans s303) ⟨rfl, Kept.refl _ _⟩)
   refine stepsF_cons ?_ ?_
   ·refine StepF.one rfl fun F_ w_ hR hout hD => ?_
    exact (y_fieldR (n := 3) rfl ((hout 1 rfl (by decide)).trans s299) Tryz.underlying29 rfl (by kernel_rfl) (by decide) rfl ⟨rfl, Kept.refl _ _⟩)
   refine stepsF_cons ?_ ?_
   ·refine StepF.one rfl fun F_ w_ hR hout hD => ?_
    have g22 : F_ 22 = pt p1 2 := (hD.get 0 rfl rfl rfl)
    have g21 : F_ 21 = iv ((2 : Nat) : Int) := (hD.get 1 rfl rfl rfl)
    exact (y_atR 2 (s := 1) rfl g22 g21 (by omega) Tryz.underlying27 (by omega) (by kernel_rfl) (by omega) ⟨rfl, Kept.refl _ _⟩)
   refine stepsF_cons ?_ ?_
   ·refine StepF.one rfl fun F_ w_ hR hout hD => ?_
    have g23 : F_ 23 = pt p1 4 := (hD.get 0 rfl rfl rfl)
    exact (y_ld_stc rfl g23 Tryz.underlying26 (B268.all hR id) rfl rfl ⟨rfl, Kept.refl _ _⟩)
   exact stepsF_nil
  intro v304 F305 w306 k307 G308 hF309
  have B313 := B267.all k307 Apart.none
  have B315 := B269.all k307 id
  have B316 := B270.all k307 Apart.none
  have B317 := B262.all k307 Apart.none
  have B318 := B271.all k307 Apart.none
  have B319 := B272.all k307 id
  have K320 := K273.tr k307
  obtain ⟨s321, s323, s324, s325⟩ := t4 hF309 28 s298 2 s300 3 s301 14 s302
  have s326 : F305 20 = v63 := (hF309 20).trans (G308 3 (by decide))
  have s327 : F305 24 = f2 := (hF309 24).trans (G308 7 (by decide))
  clear G308 hF309
  refine wl_copyB rfl rfl rfl rfl s326 s327 B318 B313 (by first | exact hnl.1 | exact hnl.2.1 | exact hnl.2.2) fun w329 B331 k330 => ?_
  have B338 := B315.all k330 (ap101.symm p14 rfl)
  have B339 := B316.all k330 ap76
  have B340 := B317.all k330 ap77
  have B341 := B319.all k330 (ap115 p102 rfl)
  have K342 := K320.trans k330 (Grew.ok (S := fun _ => False) gr96 noB_le)
  refine wl_nil fun F343 hF344 => ?_
  obtain ⟨s345, s347, s348, s349⟩ := t4 hF344 28 s321 2 s323 3 s324 14 s325
  clear hF344
  refine in_normal (then_normal (wq_region (wl_v (iv ((3 : Nat) : Int)) rfl rfl (y_add rfl s349 rfl (i64_n (by omega) (by omega)) rr) (wl_v (iv ((3 : Nat) : Int)) rfl rfl (y_mov rfl rfl rr) (wl_nil fun F350 hF351 => ?_)))))
  obtain ⟨s352, s354, s355⟩ := t3 hF351 28 s345 2 s347 3 s348
  have s356 : F350 14 = iv ((3 : Nat) : Int) := (hF351 14).trans rfl
  clear hF351
  refine then_normal (wqr_step (wq_seq (wq_region (wl_v (.bool false) rfl rfl (y_lss rfl s356 rfl rfl rr) (wl_nil fun F357 hF358 => ?_)))))
  obtain ⟨s359, s361, s362⟩ := t3 hF358 28 s352 2 s354 3 s355
  have s364 : F357 15 = .bool false := (hF358 15).trans rfl
  clear hF358
  refine then_normal (wq_seq ?_)
  refine wq_cond (t := false) s364 (fun e => by cases e) (fun _ => ?_)
  refine wq_exit (then_exit (then_exit (in_here (then_normal (wq_seq (wq_region (wl_v (.agg #[iv ((newF (f.W) (f.H) 0).W), iv ((newF (f.W) (f.H) 0).H), v61, v62, v63]) rfl rfl (y_load_stc stcT_frame rfl s362 B341 rr) (wl_store_stc (us := [iv ((newF (f.W) (f.H) 0).W), iv ((newF (f.W) (f.H) 0).H), v61, v62, v63]) stcT_frame rfl rfl rfl s361 rfl B338 rfl (oneI rfl (oneI rfl (oneI B339.one (oneI B340.one (oneI B331.one oneN))))) fun w365 B366 k367 => ?_))))))))
  have B372 := B339.all k367 ap89
  have B373 := B340.all k367 ap95
  have B374 := B331.all k367 ap101
  have K376 := K342.trans k367 (Grew.ok (S := fun _ => False) gr19 noB_le)
  refine wl_nil fun F377 hF378 => ?_
  obtain ⟨s379, s380⟩ := t2 hF378 28 s359 2 s361
  clear hF378
  refine then_normal (wq_ret ?_)
  exact end_stc (vs := [iv ((newF (f.W) (f.H) 0).W), iv ((newF (f.W) (f.H) 0).H), v61, v62, v63]) stcT_frame s379 rfl rfl s380 B366 ⟨v61, T66, v62, T67, v63, T68, (by first | rw [copyF_yes hok, (new_side 0 hok.1 hok.2.1).1, (new_side 0 hok.1 hok.2.1).2] | rw [copyF_no hno]; rfl), K376, ⟨(by first | (rw [copyF_yes hok]; exact B372) | (rw [copyF_no hno]; exact B372)), gr84⟩, ⟨(by first | (rw [copyF_yes hok]; exact B373) | (rw [copyF_no hno]; exact B373)), gr90⟩, ⟨(by first | (rw [copyF_yes hok]; exact B374) | (rw [copyF_no hno]; exact B374)), gr96⟩, ap75, ap76, ap77⟩
end Go.Proofs.YtknjpdcpmpfklaaGreatDoor
set_option maxRecDepth 100000
namespace Go.Proofs.YtknjpdcpmpfklaaGreatDoor
open Go.RowKit
theorem retB {a b : Bool} (h : a = b) : Ending.returned (.bool a) = .returned (.bool b) := by rw [h]
def Ask1 (w : World) (n : Nat) (v : Value) (g : Nat → Int) : Prop :=
  ∃ (f : FuncId) (cs : List Value), v = .func (.func f) #[] cs.toArray ∧ (∀ args w, (callFunc f args).run Tryz.prog w = .ok (.enter f args) w) ∧
    ∀ w', Kept (fun _ => False) w w' → ∀ k : Nat, k < n → Calls Tryz.prog f (.int .i64 (k : Int) :: cs).toArray w' fun e w'' => e = .returned (.int .i64 (g k)) ∧ Kept (fun _ => False) w' w''
theorem Ask1.all {w w' : World} {n : Nat} {v : Value} {g : Nat → Int} (h : Ask1 w n v g) (k : Kept (fun _ => False) w w') : Ask1 w' n v g := by
  obtain ⟨f, cs, e, hf, h⟩ := h
  exact ⟨f, cs, e, hf, fun w2 k2 => h w2 (k.trans k2 (fun _ _ x => x))⟩
def Ask2 (w : World) (n : Nat) (v : Value) (g : Nat → Nat → Int) : Prop :=
  ∃ (f : FuncId) (cs : List Value), v = .func (.func f) #[] cs.toArray ∧ (∀ args w, (callFunc f args).run Tryz.prog w = .ok (.enter f args) w) ∧
    ∀ w', Kept (fun _ => False) w w' → ∀ i k : Nat, i < n → k < n → Calls Tryz.prog f (.int .i64 (i : Int) :: .int .i64 (k : Int) :: cs).toArray w' fun e w'' => e = .returned (.int .i64 (g i k)) ∧ Kept (fun _ => False) w' w''
theorem Ask2.all {w w' : World} {n : Nat} {v : Value} {g : Nat → Nat → Int} (h : Ask2 w n v g) (k : Kept (fun _ => False) w w') : Ask2 w' n v g := by
  obtain ⟨f, cs, e, hf, h⟩ := h
  exact ⟨f, cs, e, hf, fun w2 k2 => h w2 (k.trans k2 (fun _ _ x => x))⟩
def Pd.ask2 (n : Nat) (g : Nat → Nat → Int) : Pd := ⟨fun v w => Ask2 w n v g, fun _ _ _ h k => h.all k⟩
section
variable {ρ : Operand → Value} {o : Oper} {w : World} {R : Value → World → Prop}
theorem y_fnc {P : Program} {f : FuncId} {xs : List Operand} {vs : List Value} (ho : o.op = .makeFunc (.func f) #[] xs.toArray) (hx : xs.map ρ = vs) (h : R (.func (.func f) #[] vs.toArray) w) : Yields P ρ o w R := by
  subst hx
  exact y_of (v := .func (.func f) #[] (xs.map ρ).toArray) (w' := w) (by simp [execOp, ho, show ∀ cap, (Instr.makeFunc (.func f) #[] cap).run P w = .ok (.func (.func f) #[] cap) w from fun _ => rfl]) h
theorem y_ask1 {c : Call} {cx x : Operand} {v : Value} {n k : Nat} {g : Nat → Int} (ho : o.op = .call c) (hc : c.callee = .value cx) (hcx : ρ cx = v) (hx : c.args = #[x]) (hv : ρ x = .int .i64 (k : Int)) (ha : Ask1 w n v g) (hk : k < n)
    (hS : ∀ (e : Ending) w', (e = .returned (.int .i64 (g k)) ∧ Kept (fun _ => False) w w') → ∃ v, e = .returned v ∧ R v w') : Yields Tryz.prog ρ o w R := by
  obtain ⟨f, cs, rfl, hf, h⟩ := ha
  obtain ⟨cl, ag, ts⟩ := c
  simp only at hc hx
  subst hc; subst hx
  unfold Yields
  have e : (execOp ρ o).run Tryz.prog w = .ok (.enter f (.int .i64 (k : Int) :: cs).toArray) w := by simp [execOp, ho, resolve, hcx, hv, Deferred.ofValue, invoke, hf]
  rw [e]
  exact (h w (Kept.refl _ _) k hk).mono hS
theorem y_ask2 {c : Call} {cx x y : Operand} {v : Value} {n i k : Nat} {g : Nat → Nat → Int} (ho : o.op = .call c) (hc : c.callee = .value cx) (hcx : ρ cx = v) (hx : c.args = #[x, y]) (hv : ρ x = .int .i64 (i : Int)) (hv2 : ρ y = .int .i64 (k : Int)) (ha : Ask2 w n v g) (hi : i < n) (hk : k < n)
    (hS : ∀ (e : Ending) w', (e = .returned (.int .i64 (g i k)) ∧ Kept (fun _ => False) w w') → ∃ v, e = .returned v ∧ R v w') : Yields Tryz.prog ρ o w R := by
  obtain ⟨f, cs, rfl, hf, h⟩ := ha
  obtain ⟨cl, ag, ts⟩ := c
  simp only at hc hx
  subst hc; subst hx
  unfold Yields
  have e : (execOp ρ o).run Tryz.prog w = .ok (.enter f (.int .i64 (i : Int) :: .int .i64 (k : Int) :: cs).toArray) w := by simp [execOp, ho, resolve, hcx, hv, hv2, Deferred.ofValue, invoke, hf]
  rw [e]
  exact (h w (Kept.refl _ _) i k hi hk).mono hS
theorem y_lookA {t : TypeId} {x y : Operand} {k : IntKind} {n : Nat} (j : Nat) {a : Nat → Int} {r : Int} (ht : ArrT t n) (ho : o.op = .index t x y) (hx : ρ x = .agg (arrL n a).toArray) (hy : ρ y = .int k (j : Int)) (hj : j < n) (hr : a j = r) (h : R (.int .i64 r) w) : Yields Tryz.prog ρ o w R := by
  subst hr
  have h1 : (arrL n a).toArray[j]? = some (.int .i64 (a j)) := by rw [List.getElem?_toArray]; exact arrL_at hj
  cases hq : Tryz.prog.info? 3 with
  | none => have := Tryz.size_int; simp [hq] at this
  | some i =>
    have hs' : i.size = 1 := by have := Tryz.size_int; simpa [hq] using this
    have hp : (part 3 (arrL n a).toArray j).run Tryz.prog w = .ok (.int .i64 (a j)) w := by simp [part, isAgg, run_underlying Tryz.underlying3, h1]
    have h2 : (j : Int) < (n : Int) := by omega
    exact y_of (v := .int .i64 (a j)) (w' := w) (by simp [execOp, ho, hx, hy, Instr.index, run_underlying ht.1, asIntOf, sizeOf, typeInfo, hq, hs', hj, hp]) h
theorem end_arr {N n : Nat} {F : Nat → Value} {fn : Func} {p : Tmp} {ty t : TypeId} {q : Nat} {b : Nat → Int} {R : Ending → World → Prop} (hT : ArrT ty n) (hm : F N = undef) (ht : Nat.blt p N = true) (h : fn.results = #[.cell p ty]) (hp : F p = .pointer (some ⟨q, 0, none⟩)) (hB : Arr w q t n b) (hR : R (.returned (.agg (arrL n b).toArray)) w) : endP Tryz.prog fn N R .ret F w :=
  ⟨hm, fun a ha => ⟨_, results_cell h _ _ q (by rw [ha.at' p ht]; exact hp) _ t (0, 0) _ hB hT.1 rfl (hT.size b), hR⟩⟩
def Pd.cel (n : Nat) (t : TypeId) (v : Value) : Pd := ⟨fun u w => ∃ p, u = .pointer (some ⟨p, 0, none⟩) ∧ n ≤ p ∧ Cel w p t v, fun _ _ _ ⟨p, e, hn, h⟩ k => ⟨p, e, hn, h.all k id⟩⟩
theorem y_alloc_cel {P : Program} {t : TypeId} {v : Value} (ho : o.op = .alloc t) (hi : (P.info? t).map (fun i => (i.zero, i.size)) = some (some v, 1)) (hv : oneC v = true) (h : R (.pointer (some ⟨w.heap.size, 0, none⟩)) (w.alloc (.cells #[v] t))) : Yields P ρ o w R :=
  y_of (v := .pointer (some ⟨w.heap.size, 0, none⟩)) (w' := w.alloc (.cells #[v] t)) (by simp [execOp, ho, (zero_of_info hi).1, go_sem]; cases v <;> first | rfl | (simp [oneC] at hv; done)) h
end
end Go.Proofs.YtknjpdcpmpfklaaGreatDoor
