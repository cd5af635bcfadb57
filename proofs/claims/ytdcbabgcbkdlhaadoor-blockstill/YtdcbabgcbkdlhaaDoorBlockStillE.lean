/- What BlockStill reaches of my texts, part 5. -/
import Derived.Test.YtdcbabgcbkdlhaaDoorBlockStillD
set_option maxRecDepth 100000
set_option maxRecDepth 100000
namespace Go.Proofs.YtdcbabgcbkdlhaaDoor
open Go.RowKit

/-- What is said of an operation: what it answers; that it turns the block of operation j; that it makes a block that holds zs until operation k, and us from then on; that it turns a block that was there. -/
inductive Pc where
  | eq (v : Value)
  | turn (j : Nat)
  | blk (t : TypeId) (zs : List Value) (k : Nat) (us : List Value)
  | told (p : Nat) (t : TypeId) (zs us : List Value)
def Pc.none : Pc := .eq undef
def isBlk : Pc → Bool
  | .blk _ _ _ _ => true
  | _ => false
def HoldC (n0 : Nat) (p : Pc) (L : Nat → Bool) (v : Value) (w : World) : Prop := match p with
  | .eq x => v = x
  | .turn _ => True
  | .told _ _ _ _ => True
  | .blk t zs k us => ∃ q, v = .pointer (some ⟨q, 0, none⟩) ∧ n0 ≤ q ∧ Stc w q t (if L k = true then us else zs)
/-- The blocks that were there and are turned: they are there, and none is another one. -/
def NotTold (p : Nat) : List Pc → Prop
  | [] => True
  | .told q _ _ _ :: r => p ≠ q ∧ NotTold p r
  | .eq _ :: r => NotTold p r
  | .turn _ :: r => NotTold p r
  | .blk _ _ _ _ :: r => NotTold p r
def Olds (S : Nat → Prop) (w0 : World) : List Pc → Prop
  | [] => True
  | .told p t zs _ :: r => (S p ∧ Stc w0 p t zs ∧ NotTold p r) ∧ Olds S w0 r
  | .eq _ :: r => Olds S w0 r
  | .turn _ :: r => Olds S w0 r
  | .blk _ _ _ _ :: r => Olds S w0 r
theorem NotTold.at {p : Nat} : ∀ {Gs : List Pc}, NotTold p Gs → ∀ i q t zs us, Gs.getD i Pc.none = .told q t zs us → p ≠ q := by
  intro Gs
  induction Gs with
  | nil => intro _ i q t zs us h; cases h
  | cons g r ih =>
    intro h i q t zs us e
    cases i with
    | zero =>
      have e : g = .told q t zs us := by simpa using e
      subst e; exact h.1
    | succ i =>
      have e : r.getD i Pc.none = .told q t zs us := by simpa using e
      cases g <;> first | exact ih h.2 i q t zs us e | exact ih h i q t zs us e
theorem Olds.at {S : Nat → Prop} {w0 : World} : ∀ {Gs : List Pc}, Olds S w0 Gs → ∀ i p t zs us, Gs.getD i Pc.none = .told p t zs us → S p ∧ Stc w0 p t zs := by
  intro Gs
  induction Gs with
  | nil => intro _ i q t zs us h; cases h
  | cons g r ih =>
    intro h i q t zs us e
    cases i with
    | zero =>
      have e : g = .told q t zs us := by simpa using e
      subst e; exact ⟨h.1.1, h.1.2.1⟩
    | succ i =>
      have e : r.getD i Pc.none = .told q t zs us := by simpa using e
      cases g <;> first | exact ih h.2 i q t zs us e | exact ih h i q t zs us e
theorem Olds.ne {S : Nat → Prop} {w0 : World} : ∀ {Gs : List Pc}, Olds S w0 Gs → ∀ i j p t zs us p' t' zs' us', i ≠ j → Gs.getD i Pc.none = .told p t zs us → Gs.getD j Pc.none = .told p' t' zs' us' → p ≠ p' := by
  intro Gs
  induction Gs with
  | nil => intro _ i j p t zs us p' t' zs' us' _ h; cases h
  | cons g r ih =>
    intro h i j p t zs us p' t' zs' us' hij e1 e2
    cases i with
    | zero =>
      have e1 : g = .told p t zs us := by simpa using e1
      subst e1
      cases j with
      | zero => exact absurd rfl hij
      | succ j => exact h.1.2.2.at j p' t' zs' us' (by simpa using e2)
    | succ i =>
      cases j with
      | zero =>
        have e2 : g = .told p' t' zs' us' := by simpa using e2
        subst e2
        exact fun e => h.1.2.2.at i p t zs us (by simpa using e1) e.symm
      | succ j =>
        have hr : Olds S w0 r := by cases g <;> first | exact h.2 | exact h
        exact ih hr i j p t zs us p' t' zs' us' (fun e => hij (by rw [e])) (by simpa using e1) (by simpa using e2)
structure JC (S : Nat → Prop) (w0 : World) (Gs : List Pc) (L : Nat → Bool) (v : Nat → Value) (w : World) : Prop where
  kept : Kept S w0 w
  olds : ∀ i p t zs us, Gs.getD i Pc.none = .told p t zs us → Stc w p t (if L i = true then us else zs)
  holds : ∀ i, L i = true → HoldC w0.heap.size (Gs.getD i Pc.none) L (v i) w
  apart : ∀ i j, i ≠ j → L i = true → L j = true → isBlk (Gs.getD i Pc.none) = true → isBlk (Gs.getD j Pc.none) = true → v i ≠ v j
  clos : ∀ k j, L k = true → Gs.getD k Pc.none = .turn j → L j = true
/-- Each block is turned by one operation, that waits for it. -/
def wfAt (os : List Oper) (D : List (Option Tmp)) (Gs : List Pc) (i : Nat) : Pc → Bool
  | .eq _ => true
  | .told _ _ _ _ => true
  | .turn j => (match Gs.getD j Pc.none with | .blk _ _ k _ => k == i | _ => false) && (match D.getD j none with | some _ => true | none => false) && (match os[i]? with | some o => waitsOn o j | none => false)
  | .blk _ _ k _ => match Gs.getD k Pc.none with | .turn j => j == i | _ => false
def wfC (os : List Oper) (D : List (Option Tmp)) (Gs : List Pc) : Bool := (List.range Gs.length).all fun i => wfAt os D Gs i (Gs.getD i Pc.none)
theorem wfC_at {os : List Oper} {D : List (Option Tmp)} {Gs : List Pc} (h : wfC os D Gs = true) (i : Nat) : wfAt os D Gs i (Gs.getD i Pc.none) = true := by
  by_cases hi : i < Gs.length
  · exact List.all_eq_true.1 h i (List.mem_range.2 hi)
  · have : Gs.getD i Pc.none = Pc.none := by simp [List.getD, List.getElem?_eq_none (show Gs.length ≤ i by omega)]
    rw [this]; rfl
theorem wf_blk {os : List Oper} {D : List (Option Tmp)} {Gs : List Pc} (h : wfC os D Gs = true) {i k : Nat} {t : TypeId} {zs us : List Value} (e : Gs.getD i Pc.none = .blk t zs k us) : Gs.getD k Pc.none = .turn i := by
  have := wfC_at h i
  rw [e] at this
  simp only [wfAt] at this
  split at this
  · rename_i j hj; rw [hj]; have : j = i := by simpa using this
    rw [this]
  · cases this

/-- What is told to operation i of those that it waits for. -/
def ToldC (n0 : Nat) (Gs : List Pc) (i : Nat) : Nat → Value → World → Prop := fun j v w => match Gs.getD j Pc.none with
  | .eq x => v = x
  | .turn _ => True
  | .told _ _ _ _ => True
  | .blk t zs k _ => k = i → ∃ q, v = .pointer (some ⟨q, 0, none⟩) ∧ n0 ≤ q ∧ Stc w q t zs
def LeftC (Gs : List Pc) (D : List (Option Tmp)) (i : Nat) (ρ : Operand → Value) (w : World) (v : Value) (w' : World) : Prop := match Gs.getD i Pc.none with
  | .eq x => v = x ∧ Kept (fun _ => False) w w'
  | .blk t zs _ _ => ∃ q, v = .pointer (some ⟨q, 0, none⟩) ∧ w.heap.size ≤ q ∧ Stc w' q t zs ∧ Kept (fun _ => False) w w'
  | .told p t _ us => Stc w' p t us ∧ Kept (onB p) w w'
  | .turn j => ∃ d q, D.getD j none = some d ∧ ρ (.tmp d) = .pointer (some ⟨q, 0, none⟩) ∧ (∀ t zs us, Gs.getD j Pc.none = .blk t zs i us → Stc w' q t us) ∧ Kept (onB q) w w'
section
variable {P : Program} {N : Nat} {F : Nat → Value} {w : World} {Q : Exit → (Nat → Value) → World → Prop}
def StepFC (S : Nat → Prop) (N : Nat) (P : Program) (D : List (Option Tmp)) (Gs : List Pc) (F0 : Nat → Value) (w0 : World) (i : Nat) (o : Oper) : Prop :=
  ∀ (F : Nat → Value) (w : World), Kept S w0 w → (∀ t, Nat.blt t N = true → some t ∉ D → F t = F0 t) → DepsF D (ToldC w0.heap.size Gs i) F w o.after.toList → (∀ p t zs us, Gs.getD i Pc.none = .told p t zs us → Stc w p t zs) →
    match o.guard with
    | none => Yields P (ev F) o w (LeftC Gs D i (ev F) w)
    | some (j, want) => ∃ d, D.getD j none = some d ∧
      ((F d = .bool want ∧ Yields P (ev F) o w (LeftC Gs D i (ev F) w)) ∨ ((F d = .bool (!want) ∨ F d = undef) ∧ Gs.getD i Pc.none = .eq undef))
def StepsFC (S : Nat → Prop) (N : Nat) (P : Program) (D : List (Option Tmp)) (Gs : List Pc) (F0 : Nat → Value) (w0 : World) : Nat → List Oper → Prop
  | _, [] => True
  | i, o :: r => StepFC S N P D Gs F0 w0 i o ∧ StepsFC S N P D Gs F0 w0 (i + 1) r
theorem StepFC.one {S : Nat → Prop} {D : List (Option Tmp)} {Gs : List Pc} {F0 : Nat → Value} {w0 : World} {i : Nat} {o : Oper} (hg : o.guard = none)
    (h : ∀ (F : Nat → Value) (w : World), Kept S w0 w → (∀ t, Nat.blt t N = true → some t ∉ D → F t = F0 t) → DepsF D (ToldC w0.heap.size Gs i) F w o.after.toList → Yields P (ev F) o w (LeftC Gs D i (ev F) w)) : StepFC S N P D Gs F0 w0 i o := by
  intro F w h1 h2 h3 _
  rw [hg]
  exact h F w h1 h2 h3
theorem StepFC.old {S : Nat → Prop} {D : List (Option Tmp)} {Gs : List Pc} {F0 : Nat → Value} {w0 : World} {i p : Nat} {t : TypeId} {zs us : List Value} {o : Oper} (hg : o.guard = none) (he : Gs.getD i Pc.none = .told p t zs us)
    (h : ∀ (F : Nat → Value) (w : World), Kept S w0 w → (∀ t, Nat.blt t N = true → some t ∉ D → F t = F0 t) → DepsF D (ToldC w0.heap.size Gs i) F w o.after.toList → Stc w p t zs → Yields P (ev F) o w (fun _ w' => Stc w' p t us ∧ Kept (onB p) w w')) : StepFC S N P D Gs F0 w0 i o := by
  intro F w h1 h2 h3 h4
  rw [hg]
  refine (h F w h1 h2 h3 (h4 _ _ _ _ he)).mono' fun v w' hx => ?_
  unfold LeftC
  rw [he]; exact hx
theorem upL_here {L : Nat → Bool} {i : Nat} : upL L i i = true := if_pos rfl
theorem upL_ne {L : Nat → Bool} {i j : Nat} (h : j ≠ i) : upL L i j = L j := if_neg h
theorem upV_here {v : Nat → Value} {i : Nat} {x : Value} : upV v i x i = x := if_pos rfl
theorem upV_ne {v : Nat → Value} {i j : Nat} {x : Value} (h : j ≠ i) : upV v i x j = v j := if_neg h
theorem getElem_getD {α : Type} {l : List α} {d x : α} {i : Nat} (h : l.getD i d = x) (hn : x ≠ d) : l[i]? = some x := by
  unfold List.getD at h
  cases hq : l[i]? with
  | none => rw [hq] at h; exact absurd h.symm hn
  | some y => rw [hq] at h; simpa using h

/-- One more operation that is no turn. -/
theorem JC.more {S : Nat → Prop} {os : List Oper} {D : List (Option Tmp)} {Gs : List Pc} {w0 w w' : World} {L : Nat → Bool} {v : Nat → Value} {i : Nat} {x : Value} (hwf : wfC os D Gs = true) (h : JC S w0 Gs L v w) (hi : L i = false) (k : Kept (fun _ => False) w w')
    (hnt : ∀ j, Gs.getD i Pc.none ≠ .turn j) (hnd : ∀ p t zs us, Gs.getD i Pc.none ≠ .told p t zs us) (hx : HoldC w0.heap.size (Gs.getD i Pc.none) (upL L i) x w') (hb : isBlk (Gs.getD i Pc.none) = true → ∃ q, x = .pointer (some ⟨q, 0, none⟩) ∧ w.heap.size ≤ q) : JC S w0 Gs (upL L i) (upV v i x) w' := by
  have hkeep : ∀ j, L j = true → HoldC w0.heap.size (Gs.getD j Pc.none) (upL L i) (v j) w' := by
    intro j hj
    have := h.holds j hj
    revert this
    cases e : Gs.getD j Pc.none with
    | eq y => exact id
    | turn y => exact id
    | told y1 y2 y3 y4 => exact id
    | blk t zs kk us =>
      rintro ⟨q, e1, e2, e3⟩
      have hki : kk ≠ i := fun e' => hnt j (by rw [← e']; exact wf_blk hwf e)
      refine ⟨q, e1, e2, ?_⟩
      rw [upL_ne hki]
      exact e3.all k id
  refine ⟨h.kept.trans k (fun _ _ x => x.elim), fun j p t zs us hj => ?_, fun j hj => ?_, fun a b hab ha hb' hA hB => ?_, fun a b ha hab => ?_⟩
  · have hji : j ≠ i := fun e => hnd p t zs us (by rw [← e]; exact hj)
    rw [upL_ne hji]
    exact (h.olds j p t zs us hj).all k id
  · by_cases hji : j = i
    · subst hji; rw [upV_here]; exact hx
    · rw [upL_ne hji] at hj; rw [upV_ne hji]; exact hkeep j hj
  · have hnew : ∀ c, c ≠ i → L c = true → isBlk (Gs.getD c Pc.none) = true → isBlk (Gs.getD i Pc.none) = true → v c ≠ x := by
      intro c _ hc hC hI e
      obtain ⟨q, e1, e2⟩ := hb hI
      have := h.holds c hc
      revert this hC
      cases e' : Gs.getD c Pc.none with
      | eq y => intro hC; cases hC
      | turn y => intro hC; cases hC
      | told y1 y2 y3 y4 => intro hC; cases hC
      | blk t zs kk us =>
        rintro - ⟨q', f1, f2, f3⟩
        rw [f1, e1] at e
        cases e
        have := f3.lt
        omega
    by_cases hai : a = i
    · subst hai
      have hba : b ≠ a := fun e => hab e.symm
      rw [upL_ne hba] at hb'
      rw [upV_here, upV_ne hba]
      exact fun e => hnew b hba hb' hB hA e.symm
    · rw [upL_ne hai] at ha
      rw [upV_ne hai]
      by_cases hbi : b = i
      · subst hbi; rw [upV_here]; exact hnew a hai ha hA hB
      · rw [upL_ne hbi] at hb'; rw [upV_ne hbi]; exact h.apart a b hab ha hb' hA hB
  · by_cases hai : a = i
    · subst hai; exact absurd hab (hnt b)
    · rw [upL_ne hai] at ha
      have := h.clos a b ha hab
      by_cases hbi : b = i
      · subst hbi; exact upL_here
      · rw [upL_ne hbi]; exact this
/-- One more turn. -/
theorem JC.turned {S : Nat → Prop} {os : List Oper} {D : List (Option Tmp)} {Gs : List Pc} {w0 w w' : World} {L : Nat → Bool} {v : Nat → Value} {i j q : Nat} {x : Value} (hwf : wfC os D Gs = true) (hO : Olds S w0 Gs) (h : JC S w0 Gs L v w) (hi : L i = false) (hj : L j = true) (he : Gs.getD i Pc.none = .turn j)
    (hv : v j = .pointer (some ⟨q, 0, none⟩)) (hq : ∀ t zs us, Gs.getD j Pc.none = .blk t zs i us → Stc w' q t us) (k : Kept (onB q) w w') : JC S w0 Gs (upL L i) (upV v i x) w' := by
  have hw := wfC_at hwf i
  rw [he] at hw
  simp only [wfAt, Bool.and_eq_true] at hw
  have hn0 : w0.heap.size ≤ q := by
    have := h.holds j hj
    revert this
    obtain ⟨⟨h1, _⟩, _⟩ := hw
    cases e : Gs.getD j Pc.none with
    | eq y => rw [e] at h1; cases h1
    | turn y => rw [e] at h1; cases h1
    | told y1 y2 y3 y4 => rw [e] at h1; cases h1
    | blk t zs kk us =>
      rintro ⟨q', e1, e2, _⟩
      rw [hv] at e1; cases e1; exact e2
  have hjB : isBlk (Gs.getD j Pc.none) = true := by
    obtain ⟨⟨h1, _⟩, _⟩ := hw
    cases e : Gs.getD j Pc.none with
    | eq y => rw [e] at h1; cases h1
    | turn y => rw [e] at h1; cases h1
    | told y1 y2 y3 y4 => rw [e] at h1; cases h1
    | blk t zs kk us => rfl
  refine ⟨h.kept.trans k (fun b hb e => by cases e; omega), fun a p t zs us ha => ?_, fun a ha => ?_, fun a b hab ha hb hA hB => ?_, fun a b ha hab => ?_⟩
  · have hai : a ≠ i := fun e => by rw [e, he] at ha; cases ha
    rw [upL_ne hai]
    exact (h.olds a p t zs us ha).all k (fun e => by have := (hO.at a p t zs us ha).2.lt; rw [show p = q from e] at this; omega)
  · by_cases hai : a = i
    · subst hai; rw [upV_here, he]; exact trivial
    · rw [upL_ne hai] at ha; rw [upV_ne hai]
      have := h.holds a ha
      revert this
      cases e : Gs.getD a Pc.none with
      | eq y => exact id
      | turn y => exact id
      | told y1 y2 y3 y4 => exact id
      | blk t zs kk us =>
        rintro ⟨q', e1, e2, e3⟩
        have hk := wf_blk hwf e
        by_cases haj : a = j
        · subst haj
          have hki : kk = i := by
            obtain ⟨⟨h1, _⟩, _⟩ := hw
            rw [e] at h1; simpa using h1
          subst hki
          rw [hv] at e1; cases e1
          refine ⟨q, hv, hn0, ?_⟩
          rw [if_pos upL_here]
          exact hq t zs us e
        · have hki : kk ≠ i := fun e' => by rw [e', he] at hk; cases hk; exact haj rfl
          refine ⟨q', e1, e2, ?_⟩
          rw [upL_ne hki]
          refine e3.all k (fun e' => ?_)
          have := h.apart a j haj ha hj (by rw [e]; rfl) hjB
          rw [e1, hv] at this
          exact this (by rw [show q' = q from e'])
  · have hni : ∀ c, isBlk (Gs.getD c Pc.none) = true → c ≠ i := fun c hc e => by rw [e, he] at hc; cases hc
    rw [upV_ne (hni a hA), upV_ne (hni b hB)]
    rw [upL_ne (hni a hA)] at ha
    rw [upL_ne (hni b hB)] at hb
    exact h.apart a b hab ha hb hA hB
  · by_cases hai : a = i
    · subst hai
      rw [he] at hab; cases hab
      by_cases hji : j = a
      · subst hji; exact upL_here
      · rw [upL_ne hji]; exact hj
    · rw [upL_ne hai] at ha
      have := h.clos a b ha hab
      by_cases hbi : b = i
      · subst hbi; exact upL_here
      · rw [upL_ne hbi]; exact this

/-- One more turn of a block that was there. -/
theorem JC.oldTurned {S : Nat → Prop} {os : List Oper} {D : List (Option Tmp)} {Gs : List Pc} {w0 w w' : World} {L : Nat → Bool} {v : Nat → Value} {i p : Nat} {t : TypeId} {zs us : List Value} {x : Value} (hwf : wfC os D Gs = true) (hO : Olds S w0 Gs) (h : JC S w0 Gs L v w) (he : Gs.getD i Pc.none = .told p t zs us)
    (hq : Stc w' p t us) (k : Kept (onB p) w w') : JC S w0 Gs (upL L i) (upV v i x) w' := by
  have hp := hO.at i p t zs us he
  have hni : ∀ c, isBlk (Gs.getD c Pc.none) = true → c ≠ i := fun c hc e => by rw [e, he] at hc; cases hc
  refine ⟨h.kept.trans k (fun b hb e => by cases e; exact hp.1), fun a p' t' zs' us' ha => ?_, fun a ha => ?_, fun a b hab ha hb hA hB => ?_, fun a b ha hab => ?_⟩
  · by_cases hai : a = i
    · subst hai
      rw [he] at ha; cases ha
      rw [if_pos upL_here]; exact hq
    · rw [upL_ne hai]
      exact (h.olds a p' t' zs' us' ha).all k (fun e => hO.ne a i p' t' zs' us' p t zs us hai ha he e)
  · by_cases hai : a = i
    · subst hai; rw [upV_here, he]; exact trivial
    · rw [upL_ne hai] at ha; rw [upV_ne hai]
      have := h.holds a ha
      revert this
      cases e : Gs.getD a Pc.none with
      | eq y => exact id
      | turn y => exact id
      | told y1 y2 y3 y4 => exact id
      | blk t zs kk us =>
        rintro ⟨q', e1, e2, e3⟩
        have hk := wf_blk hwf e
        have hki : kk ≠ i := fun e' => by rw [e', he] at hk; cases hk
        refine ⟨q', e1, e2, ?_⟩
        rw [upL_ne hki]
        exact e3.all k (fun e' => by have := hp.2.lt; rw [show q' = p from e'] at e2; omega)
  · rw [upV_ne (hni a hA), upV_ne (hni b hB)]
    rw [upL_ne (hni a hA)] at ha
    rw [upL_ne (hni b hB)] at hb
    exact h.apart a b hab ha hb hA hB
  · have hai : a ≠ i := fun e => by rw [e, he] at hab; cases hab
    rw [upL_ne hai] at ha
    have := h.clos a b ha hab
    by_cases hbi : b = i
    · subst hbi; exact upL_here
    · rw [upL_ne hbi]; exact this

theorem StepFC.step {S : Nat → Prop} {os : List Oper} {D : List (Option Tmp)} {Gs : List Pc} {w0 : World} {i : Nat} {o : Oper} {a0 : Act} (hwf : wfC os D Gs = true) (hO : Olds S w0 Gs) (ho : os[i]? = some o) (ha : Fr N F a0) (h : StepFC S N P D Gs F w0 i o) : StepJ os P D (JC S w0 Gs) a0 i o := by
  intro L v a w hJ hi hdone hout hhere _
  have hdeps : DepsF D (ToldC w0.heap.size Gs i) (fun t => a.tmps.getD t undef) w o.after.toList := by
    refine Deps.toF (Deps.mk fun e he hb d hd => ?_)
    have hl := hdone e he hb
    have hDe := getElem_getD hd (by simp)
    have hv := hhere e.on d hl hDe
    rw [hv]
    have := hJ.holds e.on hl
    unfold ToldC
    revert this
    cases e' : Gs.getD e.on Pc.none with
    | eq y => exact id
    | turn y => exact id
    | told y1 y2 y3 y4 => exact id
    | blk t zs kk us =>
      rintro ⟨q, e1, e2, e3⟩ hk
      refine ⟨q, e1, e2, ?_⟩
      subst hk
      rw [hi, if_neg (by simp)] at e3
      exact e3
  have h1 := h (fun t => a.tmps.getD t undef) w hJ.kept (fun t hb ht => by rw [← ha.at' t hb]; exact hout t ht) hdeps (fun p t zs us e => by have := hJ.olds i p t zs us e; rw [hi, if_neg (by simp)] at this; exact this)
  rw [← eval_ev a] at h1
  have hleft : ∀ x w', LeftC Gs D i a.eval w x w' → JC S w0 Gs (upL L i) (upV v i x) w' := by
    intro x w' hx
    unfold LeftC at hx
    cases e : Gs.getD i Pc.none with
    | eq y =>
      rw [e] at hx
      exact hJ.more hwf hi hx.2 (fun j hj => by rw [e] at hj; cases hj) (fun _ _ _ _ hj => by rw [e] at hj; cases hj) (by rw [e]; exact hx.1) (by rw [e]; intro hb; cases hb)
    | blk t zs kk us =>
      rw [e] at hx
      obtain ⟨q, e1, e2, e3, e4⟩ := hx
      have hk := wf_blk hwf e
      have hki : kk ≠ i := fun e' => by rw [e', e] at hk; cases hk
      have hLk : L kk = false := by
        cases hq : L kk with
        | false => rfl
        | true => have := hJ.clos kk i hq hk; rw [hi] at this; cases this
      refine hJ.more hwf hi e4 (fun j hj => by rw [e] at hj; cases hj) (fun _ _ _ _ hj => by rw [e] at hj; cases hj) ?_ (fun _ => ⟨q, e1, e2⟩)
      rw [e]
      refine ⟨q, e1, Nat.le_trans hJ.kept.size e2, ?_⟩
      rw [upL_ne hki, hLk, if_neg (by simp)]
      exact e3
    | told p t zs us =>
      rw [e] at hx
      exact hJ.oldTurned hwf hO e hx.1 hx.2
    | turn j =>
      rw [e] at hx
      obtain ⟨d, q, hd, e1, e2, e3⟩ := hx
      have hw := wfC_at hwf i
      rw [e] at hw
      simp only [wfAt, Bool.and_eq_true, ho] at hw
      obtain ⟨ed, hed, hb, hon⟩ := waitsOn_iff.1 hw.2
      have hLj := hdone ed hed hb
      rw [hon] at hLj
      have hv := hhere j d hLj (getElem_getD hd (by simp))
      exact hJ.turned hwf hO hi hLj e (by rw [← hv]; exact e1) e2 e3
  unfold goes
  cases hg : o.guard with
  | none => rw [hg] at h1; exact ⟨fun _ => h1.mono' hleft, fun e => by cases e⟩
  | some g =>
    obtain ⟨j, want⟩ := g
    rw [hg] at h1
    obtain ⟨d, hd, h1⟩ := h1
    simp only [hd]
    have hev : a.eval (.tmp d) = a.tmps.getD d undef := rfl
    rcases h1 with ⟨hv, hy⟩ | ⟨hv, hs⟩
    · rw [hev, hv]; exact ⟨fun _ => hy.mono' hleft, fun e => by simp at e⟩
    · refine ⟨fun e => ?_, fun _ => hJ.more hwf hi (Kept.refl _ _) (fun j hj => by rw [hs] at hj; cases hj) (fun _ _ _ _ hj => by rw [hs] at hj; cases hj) (by rw [hs]; rfl) (by rw [hs]; intro hb; cases hb)⟩
      rcases hv with hv | hv
      · rw [hev, hv] at e; cases want <;> simp at e
      · rw [hev, hv] at e; simp [undef] at e
theorem StepsFC.steps {S : Nat → Prop} {all : List Oper} {D : List (Option Tmp)} {Gs : List Pc} {w0 : World} {a0 : Act} (hwf : wfC all D Gs = true) (hO : Olds S w0 Gs) (ha : Fr N F a0) : ∀ {os : List Oper} {i : Nat}, (∀ k o, os[k]? = some o → all[i + k]? = some o) → StepsFC S N P D Gs F w0 i os → StepsJ all P D (JC S w0 Gs) a0 i os := by
  intro os
  induction os with
  | nil => intro i _ _; exact trivial
  | cons o r ih =>
    intro i hat h
    exact ⟨h.1.step hwf hO (hat 0 o rfl) ha, ih (fun k o' hk => by have := hat (k + 1) o' hk; rwa [show i + (k + 1) = i + 1 + k by omega] at this) h.2⟩
end
end Go.Proofs.YtdcbabgcbkdlhaaDoor
set_option maxRecDepth 100000
namespace Go.Proofs.YtdcbabgcbkdlhaaDoor
open Go.RowKit

def sameVec (a b c d : Int) : Bool := decide (a = c) && decide (b = d)
theorem Tryd.vecFields : (Tryd.prog.fieldsOf 23).toList.map (fun f => (f.name, f.type, f.offset)) = [("X", 3, 0), ("Y", 3, 1)] := by kernel_rfl
theorem part_int (w : World) (xs : Array Value) (i : Nat) (z : Int) (h : xs[i]? = some (.int .i64 z)) : (part 3 xs i).run Tryd.prog w = .ok (.int .i64 z) w := by
  simp [part, isAgg, run_underlying Tryd.underlying3, h]
theorem run_same_vec (w : World) (a b c d : Int) : (Op.equalIn 10000 23 (.agg #[.int .i64 a, .int .i64 b]) (.agg #[.int .i64 c, .int .i64 d])).run Tryd.prog w = .ok (sameVec a b c d) w := by
  rw [run_equalIn_struct w 9999 _ _ _ (by kernel_rfl) (by kernel_rfl)]
  have hf := Tryd.vecFields
  generalize (Tryd.prog.fieldsOf 23).toList = fs at hf
  have hlen : fs.length = 2 := by simpa using congrArg List.length hf
  have p1 := part_int w #[.int .i64 a, .int .i64 b] 0 a rfl
  have p2 := part_int w #[.int .i64 c, .int .i64 d] 0 c rfl
  have p3 := part_int w #[.int .i64 a, .int .i64 b] 1 b rfl
  have p4 := part_int w #[.int .i64 c, .int .i64 d] 1 d rfl
  match fs, hlen with
  | [f0, f1], _ =>
    simp only [List.map_cons, List.map_nil, List.cons.injEq, Prod.mk.injEq, and_true] at hf
    obtain ⟨⟨n0, t0, o0⟩, ⟨n1, t1, o1⟩⟩ := hf
    simp only [Op.eqFields, n0, t0, o0, n1, t1, o1]
    rw [if_pos (by decide), if_pos (by decide)]
    simp only [Sem.run_bind, p1, p2, Result.andThen_ok, run_equalIn_int w 9998 3 .i64 .i64 _ _ Tryd.underlying3]
    unfold sameVec
    by_cases h1 : a = c
    · subst h1
      simp only [beq_self_eq_true, Bool.not_true, Bool.false_eq_true, if_false, Sem.run_bind, p3, p4, Result.andThen_ok, run_equalIn_int w 9998 3 .i64 .i64 _ _ Tryd.underlying3]
      by_cases h2 : b = d
      · subst h2; simp
      · have : (b == d) = false := by simpa using h2
        simp [this, h2]
    · have : (a == c) = false := by simpa using h1
      simp [this, h1]
theorem Tryd.guard_vec : Tryd.prog.eqGuardType Tryd.prog.depth 23 = false := by kernel_rfl
section
variable {ρ : Operand → Value} {o : Oper} {w : World} {R : Value → World → Prop}
theorem y_eqlVec {t' : TypeId} {x y : Operand} {a b c d : Int} {q : Bool} (ho : o.op = .binOp .eql 23 x y t') (hx : ρ x = .agg #[.int .i64 a, .int .i64 b]) (hy : ρ y = .agg #[.int .i64 c, .int .i64 d]) (hr : sameVec a b c d = q) (h : R (.bool q) w) : Yields Tryd.prog ρ o w R :=
  y_of (v := .bool (sameVec a b c d)) (w' := w) (by simp only [execOp, ho, hx, hy, Sem.run_bind, run_eqGuard_agg w .eql _ _ _ _ _ Tryd.guard_vec, run_eql_struct, run_same_vec, Result.andThen_ok, Sem.run_pure]) (by rw [hr]; exact h)
end

def Cin (w : World) (T : Nat → Prop) (p : Nat) (n : Int) : Prop := T = onB p ∧ Cel w p 3 (.int .i64 n)
theorem Cin.live {w : World} {T : Nat → Prop} {p : Nat} {n : Int} (h : Cin w T p n) : Live w T := by
  obtain ⟨rfl, h⟩ := h; exact onB_live h.lt
theorem Cin.all {S : Nat → Prop} {w w' : World} {T : Nat → Prop} {p : Nat} {n : Int} (h : Cin w T p n) (k : Kept S w w') (ha : Apart T S) : Cin w' T p n := by
  obtain ⟨rfl, h⟩ := h; exact ⟨rfl, h.all k (ha p rfl)⟩
theorem Cin.cells {w : World} {T : Nat → Prop} {p : Nat} {n : Int} (h : Cin w T p n) : Cells w T := by
  obtain ⟨rfl, h⟩ := h; exact h.cells
theorem Cin.row {A B : World} {row : Option Nat} {m p : Nat} {T : Nat → Prop} {n : Int} (h : Cin A T p n) (hg : A.grownBy B row) (hr : RowNew m A row) : Cin B T p n := h.all (kept_row hg) (h.cells.apart hr)

theorem and_1 : ∀ k : Fin 513, bits .and .i64 ((k.1 : Int) - 256) 1 = ((k.1 : Int) - 256) % 2 := by decide +kernel
theorem and_one {u : Int} (h : -256 ≤ u ∧ u ≤ 256) : bits .and .i64 u 1 = u % 2 := by
  have := and_1 ⟨(u + 256).toNat, by omega⟩
  simp only at this
  rwa [show (((u + 256).toNat : Nat) : Int) - 256 = u by omega] at this

set_option maxHeartbeats 4000000 in
set_option maxRecDepth 100000 in
theorem mo_clamped (n a b : Int) (w0 : World) :
  Calls Tryd.prog 100 #[.int .i64 (n), .int .i64 (a), .int .i64 (b)] w0 fun e w' => e = .returned (.int .i64 (max a (min n b))) ∧ Kept (fun _ => False) w0 w' := by
 refine calls_wq (args := [.int .i64 (n), .int .i64 (a), .int .i64 (b)]) 12 Tryd.func100 rfl rfl (Nat.le_of_ble_eq_true rfl) ?_
 have K0 := Kept.refl (fun _ => False) w0
 refine wq_seq ?_
 refine wq_region ?_
 refine wl_v (.int .i64 (0)) rfl rfl (y_asg rfl rfl ⟨rfl, rfl⟩) ?_
 refine wl_nil fun F1 hF2 => ?_
 have s3 : F1 0 = .int .i64 (n) := (hF2 0).trans rfl
 have s4 : F1 1 = .int .i64 (a) := (hF2 1).trans rfl
 have s5 : F1 2 = .int .i64 (b) := (hF2 2).trans rfl
 have s6 : F1 12 = undef := (hF2 12).trans rfl
 clear hF2
 refine then_normal ?_
 refine wq_seq ?_
 refine wq_region ?_
 refine wl_v (.int .i64 (a)) rfl rfl (y_mov rfl s4 ⟨rfl, rfl⟩) ?_
 refine wl_v (.int .i64 (n)) rfl rfl (y_mov rfl s3 ⟨rfl, rfl⟩) ?_
 refine wl_v (.int .i64 (b)) rfl rfl (y_mov rfl s5 ⟨rfl, rfl⟩) ?_
 refine wl_v (.int .i64 (min (n) (b))) rfl rfl (y_minR rfl rfl rfl rfl ⟨rfl, rfl⟩) ?_
 refine wl_v (.int .i64 (max (a) (min (n) (b)))) rfl rfl (y_maxR rfl rfl rfl rfl ⟨rfl, rfl⟩) ?_
 refine wl_v (.int .i64 (max (a) (min (n) (b)))) rfl rfl (y_asg rfl rfl ⟨rfl, rfl⟩) ?_
 refine wl_nil fun F7 hF8 => ?_
 have s9 := (hF8 12).trans s6
 have s10 : F7 6 = .int .i64 (max (a) (min (n) (b))) := (hF8 6).trans rfl
 clear hF8
 refine then_normal ?_
 refine wq_ret ?_
 exact end_tmp (v := .int .i64 (max (a) (min (n) (b)))) s9 rfl rfl s10 ⟨rfl, K0⟩
set_option maxHeartbeats 4000000 in
set_option maxRecDepth 100000 in
theorem mo_mayGo (n : Int) (w0 : World) :
  Calls Tryd.prog 89 #[.int .i64 (n)] w0 fun e w' => e = .returned (.bool (decide (-31 ≤ n ∧ n ≤ 31))) ∧ Kept (fun _ => False) w0 w' := by
 refine calls_wq (args := [.int .i64 (n)]) 9 Tryd.func89 rfl rfl (Nat.le_of_ble_eq_true rfl) ?_
 have K0 := Kept.refl (fun _ => False) w0
 refine wq_seq ?_
 refine wq_region ?_
 refine wl_v (.bool false) rfl rfl (y_asg rfl rfl ⟨rfl, rfl⟩) ?_
 refine wl_nil fun F1 hF2 => ?_
 have s3 : F1 0 = .int .i64 (n) := (hF2 0).trans rfl
 have s4 : F1 9 = undef := (hF2 9).trans rfl
 clear hF2
 refine then_normal ?_
 refine wq_seq ?_
 by_cases d5 : (-31) ≤ (n)
 ·skip
  refine wq_region ?_
  refine wl_v (.int .i64 (n)) rfl rfl (y_mov rfl s3 ⟨rfl, rfl⟩) ?_
  refine wl_v (.bool true) rfl rfl (y_geq rfl rfl rfl (decide_eq_true d5) ⟨rfl, rfl⟩) ?_
  refine wl_v (.bool true) rfl rfl (y_mov rfl rfl ⟨rfl, rfl⟩) ?_
  refine wl_vw (.int .i64 (n)) 2 true 5 rfl rfl rfl rfl rfl (y_mov rfl s3 ⟨rfl, rfl⟩) ?_
  refine wl_vw (.bool (decide ((n) ≤ (31)))) 2 true 5 rfl rfl rfl rfl rfl (y_leq rfl rfl rfl rfl ⟨rfl, rfl⟩) ?_
  refine wl_v (.bool (decide ((n) ≤ (31)))) rfl rfl (y_pickT rfl rfl rfl ⟨rfl, rfl⟩) ?_
  refine wl_v (.bool (decide ((n) ≤ (31)))) rfl rfl (y_asg rfl rfl ⟨rfl, rfl⟩) ?_
  refine wl_nil fun F6 hF7 => ?_
  have s8 := (hF7 9).trans s4
  have s9 : F6 2 = .bool (decide ((n) ≤ (31))) := (hF7 2).trans rfl
  clear hF7
  refine then_normal ?_
  refine wq_ret ?_
  exact end_tmp (v := .bool (decide ((n) ≤ (31)))) s8 rfl rfl s9 ⟨(retB (by first | exact (decide_eq_true (by omega)).symm | exact (decide_eq_false (by omega)).symm | exact decide_eq_decide.2 (by omega))), K0⟩
 ·skip
  refine wq_region ?_
  refine wl_v (.int .i64 (n)) rfl rfl (y_mov rfl s3 ⟨rfl, rfl⟩) ?_
  refine wl_v (.bool false) rfl rfl (y_geq rfl rfl rfl (decide_eq_false d5) ⟨rfl, rfl⟩) ?_
  refine wl_v (.bool false) rfl rfl (y_mov rfl rfl ⟨rfl, rfl⟩) ?_
  refine wl_unless 2 true 5 rfl rfl rfl (Or.inl rfl) rfl ?_
  refine wl_unless 2 true 5 rfl rfl rfl (Or.inl rfl) rfl ?_
  refine wl_v (.bool false) rfl rfl (y_pickF rfl rfl rfl ⟨rfl, rfl⟩) ?_
  refine wl_v (.bool false) rfl rfl (y_asg rfl rfl ⟨rfl, rfl⟩) ?_
  refine wl_nil fun F10 hF11 => ?_
  have s12 := (hF11 9).trans s4
  have s13 : F10 2 = .bool false := (hF11 2).trans rfl
  clear hF11
  refine then_normal ?_
  refine wq_ret ?_
  exact end_tmp (v := .bool false) s12 rfl rfl s13 ⟨(retB (by first | exact (decide_eq_true (by omega)).symm | exact (decide_eq_false (by omega)).symm | exact decide_eq_decide.2 (by omega))), K0⟩
set_option maxHeartbeats 4000000 in
set_option maxRecDepth 100000 in
theorem mo_mayPlace (n : Int) (w0 : World) :
  Calls Tryd.prog 97 #[.int .i64 (n)] w0 fun e w' => e = .returned (.bool (decide (0 ≤ n ∧ n ≤ 64))) ∧ Kept (fun _ => False) w0 w' := by
 refine calls_wq (args := [.int .i64 (n)]) 9 Tryd.func97 rfl rfl (Nat.le_of_ble_eq_true rfl) ?_
 have K0 := Kept.refl (fun _ => False) w0
 refine wq_seq ?_
 refine wq_region ?_
 refine wl_v (.bool false) rfl rfl (y_asg rfl rfl ⟨rfl, rfl⟩) ?_
 refine wl_nil fun F1 hF2 => ?_
 have s3 : F1 0 = .int .i64 (n) := (hF2 0).trans rfl
 have s4 : F1 9 = undef := (hF2 9).trans rfl
 clear hF2
 refine then_normal ?_
 refine wq_seq ?_
 by_cases d5 : (0) ≤ (n)
 ·skip
  refine wq_region ?_
  refine wl_v (.int .i64 (n)) rfl rfl (y_mov rfl s3 ⟨rfl, rfl⟩) ?_
  refine wl_v (.bool true) rfl rfl (y_geq rfl rfl rfl (decide_eq_true d5) ⟨rfl, rfl⟩) ?_
  refine wl_v (.bool true) rfl rfl (y_mov rfl rfl ⟨rfl, rfl⟩) ?_
  refine wl_vw (.int .i64 (n)) 2 true 5 rfl rfl rfl rfl rfl (y_mov rfl s3 ⟨rfl, rfl⟩) ?_
  refine wl_vw (.bool (decide ((n) ≤ (64)))) 2 true 5 rfl rfl rfl rfl rfl (y_leq rfl rfl rfl rfl ⟨rfl, rfl⟩) ?_
  refine wl_v (.bool (decide ((n) ≤ (64)))) rfl rfl (y_pickT rfl rfl rfl ⟨rfl, rfl⟩) ?_
  refine wl_v (.bool (decide ((n) ≤ (64)))) rfl rfl (y_asg rfl rfl ⟨rfl, rfl⟩) ?_
  refine wl_nil fun F6 hF7 => ?_
  have s8 := (hF7 9).trans s4
  have s9 : F6 2 = .bool (decide ((n) ≤ (64))) := (hF7 2).trans rfl
  clear hF7
  refine then_normal ?_
  refine wq_ret ?_
  exact end_tmp (v := .bool (decide ((n) ≤ (64)))) s8 rfl rfl s9 ⟨(retB (by first | exact (decide_eq_true (by omega)).symm | exact (decide_eq_false (by omega)).symm | exact decide_eq_decide.2 (by omega))), K0⟩
 ·skip
  refine wq_region ?_
  refine wl_v (.int .i64 (n)) rfl rfl (y_mov rfl s3 ⟨rfl, rfl⟩) ?_
  refine wl_v (.bool false) rfl rfl (y_geq rfl rfl rfl (decide_eq_false d5) ⟨rfl, rfl⟩) ?_
  refine wl_v (.bool false) rfl rfl (y_mov rfl rfl ⟨rfl, rfl⟩) ?_
  refine wl_unless 2 true 5 rfl rfl rfl (Or.inl rfl) rfl ?_
  refine wl_unless 2 true 5 rfl rfl rfl (Or.inl rfl) rfl ?_
  refine wl_v (.bool false) rfl rfl (y_pickF rfl rfl rfl ⟨rfl, rfl⟩) ?_
  refine wl_v (.bool false) rfl rfl (y_asg rfl rfl ⟨rfl, rfl⟩) ?_
  refine wl_nil fun F10 hF11 => ?_
  have s12 := (hF11 9).trans s4
  have s13 : F10 2 = .bool false := (hF11 2).trans rfl
  clear hF11
  refine then_normal ?_
  refine wq_ret ?_
  exact end_tmp (v := .bool false) s12 rfl rfl s13 ⟨(retB (by first | exact (decide_eq_true (by omega)).symm | exact (decide_eq_false (by omega)).symm | exact decide_eq_decide.2 (by omega))), K0⟩
set_option maxHeartbeats 4000000 in
set_option maxRecDepth 100000 in
theorem mo_mean (s m : Int) (w0 : World) (hs : 0 ≤ s ∧ s ≤ 4000) (hm : m = 1 ∨ m = 2 ∨ m = 4) :
  Calls Tryd.prog 99 #[.int .i64 (s), .int .i64 (m)] w0 fun e w' => e = .returned (.int .i64 ((s + m / 2) / m)) ∧ Kept (fun _ => False) w0 w' := by
 refine calls_wq (args := [.int .i64 (s), .int .i64 (m)]) 11 Tryd.func99 rfl rfl (Nat.le_of_ble_eq_true rfl) ?_
 have K0 := Kept.refl (fun _ => False) w0
 refine wq_seq ?_
 refine wq_region ?_
 refine wl_v (.int .i64 (0)) rfl rfl (y_asg rfl rfl ⟨rfl, rfl⟩) ?_
 refine wl_nil fun F1 hF2 => ?_
 have s3 : F1 0 = .int .i64 (s) := (hF2 0).trans rfl
 have s4 : F1 1 = .int .i64 (m) := (hF2 1).trans rfl
 have s5 : F1 11 = undef := (hF2 11).trans rfl
 clear hF2
 refine then_normal ?_
 refine wq_seq ?_
 refine wq_region ?_
 refine wl_v (.int .i64 (s)) rfl rfl (y_mov rfl s3 ⟨rfl, rfl⟩) ?_
 refine wl_v (.int .i64 (m)) rfl rfl (y_mov rfl s4 ⟨rfl, rfl⟩) ?_
 refine wl_v (.int .i64 (m / 2)) rfl rfl (y_quo rfl rfl rfl (by first | decide | omega) (i64_i (tdiv2 (by omega)) (by omega)) ⟨rfl, rfl⟩) ?_
 refine wl_v (.int .i64 (s + m / 2)) rfl rfl (y_add rfl rfl rfl (i64_i rfl (by omega)) ⟨rfl, rfl⟩) ?_
 refine wl_v (.int .i64 (m)) rfl rfl (y_mov rfl s4 ⟨rfl, rfl⟩) ?_
 refine wl_v (.int .i64 ((s + m / 2) / m)) rfl rfl (y_quo rfl rfl rfl (by first | decide | omega) (i64_i (Int.tdiv_eq_ediv_of_nonneg (by omega)) (by rcases hm with rfl | rfl | rfl <;> omega)) ⟨rfl, rfl⟩) ?_
 refine wl_v (.int .i64 ((s + m / 2) / m)) rfl rfl (y_asg rfl rfl ⟨rfl, rfl⟩) ?_
 refine wl_nil fun F6 hF7 => ?_
 have s8 := (hF7 11).trans s5
 have s9 : F6 4 = .int .i64 ((s + m / 2) / m) := (hF7 4).trans rfl
 clear hF7
 refine then_normal ?_
 refine wq_ret ?_
 exact end_tmp (v := .int .i64 ((s + m / 2) / m)) s8 rfl rfl s9 ⟨rfl, K0⟩
set_option maxHeartbeats 4000000 in
set_option maxRecDepth 100000 in
theorem mo_check (X Y : Int) (w0 : World) :
  Calls Tryd.prog 53 #[.agg #[.int .i64 (X), .int .i64 (Y)]] w0 fun e w' => e = .returned (.int .i64 (vecE X Y)) ∧ Kept (fun _ => False) w0 w' := by
 refine calls_wq (args := [.agg #[.int .i64 (X), .int .i64 (Y)]]) 13 Tryd.func53 rfl rfl (Nat.le_of_ble_eq_true rfl) ?_
 have K0 := Kept.refl (fun _ => False) w0
 refine wq_seq ?_
 refine wq_region ?_
 refine wl_box_stc (vs := [.int .i64 (X), .int .i64 (Y)]) rfl rfl rfl rfl fun p1 w2 B4 g5 k3 => ?_
 have K7 := K0.trans k3 (fun _ _ x => x.elim)
 refine wl_v (.int .i64 (0)) rfl rfl (y_asg rfl rfl ⟨rfl, rfl⟩) ?_
 refine wl_nil fun F8 hF9 => ?_
 have s10 : F8 13 = undef := (hF9 13).trans rfl
 have s11 : F8 1 = .pointer (some ⟨p1, 0, none⟩) := (hF9 1).trans rfl
 clear hF9
 refine then_normal ?_
 refine wq_seq ?_
 refine wq_seq ?_
 by_cases d12 : -31 ≤ (X) ∧ (X) ≤ 31
 ·skip
  by_cases d13 : -31 ≤ (Y) ∧ (Y) ≤ 31
  ·skip
   refine wq_region ?_
   refine wl_v (.pointer (some ⟨p1, 0, none⟩)) rfl rfl (y_fieldR (n := 1) rfl s11 Tryd.underlying23 rfl (by kernel_rfl) (by decide) rfl ⟨rfl, rfl⟩) ?_
   refine wl_v (.int .i64 (X)) rfl rfl (y_ld_stc rfl rfl Tryd.underlying3 B4 rfl rfl ⟨rfl, rfl⟩) ?_
   refine wl_call (R := fun v_ w_ => v_ = .bool true ∧ Kept (fun _ => False) w2 w_) rfl rfl (y_cs rfl rfl rfl (fun _ _ => by kernel_rfl) (ev_func _) (vsC rfl vsN) (mo_mayGo (X)  _   ) (fun e_ w_ h_ => ⟨_, h_.1, (congrArg Value.bool (decide_eq_true d12)), h_.2⟩)) ?_
   rintro _ w14 ⟨rfl, k15⟩
   have B16 := B4.all k15 id
   have K17 := K7.trans k15 (fun _ _ x => x.elim)
   refine wl_v (.bool false) rfl rfl (y_not rfl rfl rfl ⟨rfl, rfl⟩) ?_
   refine wl_v (.bool false) rfl rfl (y_mov rfl rfl ⟨rfl, rfl⟩) ?_
   refine wl_vw (.pointer (some ⟨p1, 1, none⟩)) 4 false 7 rfl rfl rfl rfl rfl (y_fieldR (n := 1) rfl s11 Tryd.underlying23 rfl (by kernel_rfl) (by decide) rfl ⟨rfl, rfl⟩) ?_
   refine wl_vw (.int .i64 (Y)) 4 false 7 rfl rfl rfl rfl rfl (y_ld_stc rfl rfl Tryd.underlying3 B16 rfl rfl ⟨rfl, rfl⟩) ?_
   refine wl_callw (R := fun v_ w_ => v_ = .bool true ∧ Kept (fun _ => False) w14 w_) 4 false 7 rfl rfl rfl rfl rfl (y_cs rfl rfl rfl (fun _ _ => by kernel_rfl) (ev_func _) (vsC rfl vsN) (mo_mayGo (Y)  _   ) (fun e_ w_ h_ => ⟨_, h_.1, (congrArg Value.bool (decide_eq_true d13)), h_.2⟩)) ?_
   rintro _ w18 ⟨rfl, k19⟩
   have K21 := K17.trans k19 (fun _ _ x => x.elim)
   refine wl_vw (.bool false) 4 false 7 rfl rfl rfl rfl rfl (y_not rfl rfl rfl ⟨rfl, rfl⟩) ?_
   refine wl_v (.bool false) rfl rfl (y_pickF rfl rfl rfl ⟨rfl, rfl⟩) ?_
   refine wl_nil fun F22 hF23 => ?_
   have s24 := (hF23 13).trans s10
   have s25 : F22 12 = .bool false := (hF23 12).trans rfl
   clear hF23
   refine then_normal ?_
   refine wq_cond (t := false) s25 (fun e => by cases e) (fun _ => ?_)
   refine wq_skip ?_
   refine then_normal ?_
   refine wq_seq ?_
   refine wq_region ?_
   refine wl_v (.int .i64 (0)) rfl rfl (y_asg rfl rfl ⟨rfl, rfl⟩) ?_
   refine wl_nil fun F26 hF27 => ?_
   have s28 := (hF27 13).trans s24
   have s29 : F26 2 = .int .i64 (0) := (hF27 2).trans rfl
   clear hF27
   refine then_normal ?_
   refine wq_ret ?_
   exact end_tmp (v := .int .i64 (0)) s28 rfl rfl s29 ⟨(by first | rw [vecE_yes (by unfold vecOk; omega)] | rw [vecE_no (by unfold vecOk; omega)]), K21⟩
  ·skip
   refine wq_region ?_
   refine wl_v (.pointer (some ⟨p1, 0, none⟩)) rfl rfl (y_fieldR (n := 1) rfl s11 Tryd.underlying23 rfl (by kernel_rfl) (by decide) rfl ⟨rfl, rfl⟩) ?_
   refine wl_v (.int .i64 (X)) rfl rfl (y_ld_stc rfl rfl Tryd.underlying3 B4 rfl rfl ⟨rfl, rfl⟩) ?_
   refine wl_call (R := fun v_ w_ => v_ = .bool true ∧ Kept (fun _ => False) w2 w_) rfl rfl (y_cs rfl rfl rfl (fun _ _ => by kernel_rfl) (ev_func _) (vsC rfl vsN) (mo_mayGo (X)  _   ) (fun e_ w_ h_ => ⟨_, h_.1, (congrArg Value.bool (decide_eq_true d12)), h_.2⟩)) ?_
   rintro _ w30 ⟨rfl, k31⟩
   have B32 := B4.all k31 id
   have K33 := K7.trans k31 (fun _ _ x => x.elim)
   refine wl_v (.bool false) rfl rfl (y_not rfl rfl rfl ⟨rfl, rfl⟩) ?_
   refine wl_v (.bool false) rfl rfl (y_mov rfl rfl ⟨rfl, rfl⟩) ?_
   refine wl_vw (.pointer (some ⟨p1, 1, none⟩)) 4 false 7 rfl rfl rfl rfl rfl (y_fieldR (n := 1) rfl s11 Tryd.underlying23 rfl (by kernel_rfl) (by decide) rfl ⟨rfl, rfl⟩) ?_
   refine wl_vw (.int .i64 (Y)) 4 false 7 rfl rfl rfl rfl rfl (y_ld_stc rfl rfl Tryd.underlying3 B32 rfl rfl ⟨rfl, rfl⟩) ?_
   refine wl_callw (R := fun v_ w_ => v_ = .bool false ∧ Kept (fun _ => False) w30 w_) 4 false 7 rfl rfl rfl rfl rfl (y_cs rfl rfl rfl (fun _ _ => by kernel_rfl) (ev_func _) (vsC rfl vsN) (mo_mayGo (Y)  _   ) (fun e_ w_ h_ => ⟨_, h_.1, (congrArg Value.bool (decide_eq_false d13)), h_.2⟩)) ?_
   rintro _ w34 ⟨rfl, k35⟩
   have K37 := K33.trans k35 (fun _ _ x => x.elim)
   refine wl_vw (.bool true) 4 false 7 rfl rfl rfl rfl rfl (y_not rfl rfl rfl ⟨rfl, rfl⟩) ?_
   refine wl_v (.bool true) rfl rfl (y_pickF rfl rfl rfl ⟨rfl, rfl⟩) ?_
   refine wl_nil fun F38 hF39 => ?_
   have s40 := (hF39 13).trans s10
   have s41 : F38 12 = .bool true := (hF39 12).trans rfl
   clear hF39
   refine then_normal ?_
   refine wq_cond (t := true) s41 (fun _ => ?_) (fun e => by cases e)
   refine wq_seq ?_
   refine wq_region ?_
   refine wl_v (.int .i64 (90)) rfl rfl (y_asg rfl rfl ⟨rfl, rfl⟩) ?_
   refine wl_nil fun F42 hF43 => ?_
   have s44 := (hF43 13).trans s40
   have s45 : F42 2 = .int .i64 (90) := (hF43 2).trans rfl
   clear hF43
   refine then_normal ?_
   refine wq_ret ?_
   refine then_ret ?_
   exact end_tmp (v := .int .i64 (90)) s44 rfl rfl s45 ⟨(by first | rw [vecE_yes (by unfold vecOk; omega)] | rw [vecE_no (by unfold vecOk; omega)]), K37⟩
 ·skip
  refine wq_region ?_
  refine wl_v (.pointer (some ⟨p1, 0, none⟩)) rfl rfl (y_fieldR (n := 1) rfl s11 Tryd.underlying23 rfl (by kernel_rfl) (by decide) rfl ⟨rfl, rfl⟩) ?_
  refine wl_v (.int .i64 (X)) rfl rfl (y_ld_stc rfl rfl Tryd.underlying3 B4 rfl rfl ⟨rfl, rfl⟩) ?_
  refine wl_call (R := fun v_ w_ => v_ = .bool false ∧ Kept (fun _ => False) w2 w_) rfl rfl (y_cs rfl rfl rfl (fun _ _ => by kernel_rfl) (ev_func _) (vsC rfl vsN) (mo_mayGo (X)  _   ) (fun e_ w_ h_ => ⟨_, h_.1, (congrArg Value.bool (decide_eq_false d12)), h_.2⟩)) ?_
  rintro _ w46 ⟨rfl, k47⟩
  have K49 := K7.trans k47 (fun _ _ x => x.elim)
  refine wl_v (.bool true) rfl rfl (y_not rfl rfl rfl ⟨rfl, rfl⟩) ?_
  refine wl_v (.bool true) rfl rfl (y_mov rfl rfl ⟨rfl, rfl⟩) ?_
  refine wl_unless 4 false 7 rfl rfl rfl (Or.inl rfl) rfl ?_
  refine wl_unless 4 false 7 rfl rfl rfl (Or.inl rfl) rfl ?_
  refine wl_unless 4 false 7 rfl rfl rfl (Or.inl rfl) rfl ?_
  refine wl_unless 4 false 7 rfl rfl rfl (Or.inl rfl) rfl ?_
  refine wl_v (.bool true) rfl rfl (y_pickT rfl rfl rfl ⟨rfl, rfl⟩) ?_
  refine wl_nil fun F50 hF51 => ?_
  have s52 := (hF51 13).trans s10
  have s53 : F50 12 = .bool true := (hF51 12).trans rfl
  clear hF51
  refine then_normal ?_
  refine wq_cond (t := true) s53 (fun _ => ?_) (fun e => by cases e)
  refine wq_seq ?_
  refine wq_region ?_
  refine wl_v (.int .i64 (90)) rfl rfl (y_asg rfl rfl ⟨rfl, rfl⟩) ?_
  refine wl_nil fun F54 hF55 => ?_
  have s56 := (hF55 13).trans s52
  have s57 : F54 2 = .int .i64 (90) := (hF55 2).trans rfl
  clear hF55
  refine then_normal ?_
  refine wq_ret ?_
  refine then_ret ?_
  exact end_tmp (v := .int .i64 (90)) s56 rfl rfl s57 ⟨(by first | rw [vecE_yes (by unfold vecOk; omega)] | rw [vecE_no (by unfold vecOk; omega)]), K49⟩
set_option maxHeartbeats 4000000 in
set_option maxRecDepth 100000 in
theorem mo_both (a b : Nat → Int) (w0 : World) :
  Calls Tryd.prog 70 #[blkV (a), blkV (b)] w0 fun e w' => e = .returned (blkV (bothB a b)) ∧ Kept (fun _ => False) w0 w' := by
 refine calls_wq (args := [blkV (a), blkV (b)]) 23 Tryd.func70 rfl rfl (Nat.le_of_ble_eq_true rfl) ?_
 have K0 := Kept.refl (fun _ => False) w0
 refine wq_seq ?_
 refine wq_region ?_
 refine wl_box_blk rfl rfl rfl rfl fun p1 w2 e5 B3 k4 => ?_
 have g6 := onB_new (Nat.le_of_eq e5.symm)
 have gr7 : Grew w0 noB (onB p1) := Grew.new K0 g6
 clear e5 g6
 have K8 := K0.trans k4 (fun _ _ x => x.elim)
 refine wl_box_blk rfl rfl rfl rfl fun p9 w10 e13 B11 k12 => ?_
 have g14 := onB_new (Nat.le_of_eq e13.symm)
 have ap16 : Apart (onB p9) (onB p1) := Apart.new g14 (onB_live (B3).lt)
 clear e13 g14
 have B17 := B3.all k12 id
 have K18 := K8.trans k12 (fun _ _ x => x.elim)
 refine wl_alloc_blk rfl rfl rfl blkT_block.2.2 fun p19 w20 e23 B21 k22 => ?_
 have g24 := onB_new (Nat.le_of_eq e23.symm)
 have gr25 : Grew w0 noB (onB p19) := Grew.new K18 g24
 have ap26 : Apart (onB p19) (onB p1) := Apart.new g24 (onB_live (B17).lt)
 clear e23 g24
 have B28 := B17.all k22 id
 have B29 := B11.all k22 id
 have K30 := K18.trans k22 (fun _ _ x => x.elim)
 refine wl_nil fun F31 hF32 => ?_
 have s33 : F31 23 = undef := (hF32 23).trans rfl
 have s34 : F31 2 = .pointer (some ⟨p1, 0, none⟩) := (hF32 2).trans rfl
 have s35 : F31 3 = .pointer (some ⟨p9, 0, none⟩) := (hF32 3).trans rfl
 have s36 : F31 4 = .pointer (some ⟨p19, 0, none⟩) := (hF32 4).trans rfl
 clear hF32
 refine then_normal ?_
 refine wq_seq ?_
 refine wq_seq ?_
 refine wq_region ?_
 refine wl_v (.int .i64 (0)) rfl rfl (y_mov rfl rfl ⟨rfl, rfl⟩) ?_
 refine wl_nil fun F37 hF38 => ?_
 have s39 := (hF38 23).trans s33
 have s40 := (hF38 2).trans s34
 have s41 := (hF38 3).trans s35
 have s42 := (hF38 4).trans s36
 have s43 : F37 6 = .int .i64 (0) := (hF38 6).trans rfl
 clear hF38
 refine then_normal ?_
 refine wq_block ?_
 refine wq_loop (fun nn FF ww => ∃ (i : Nat), (i ≤ 16) ∧ nn = 16 - i ∧ FF 2 = .pointer (some ⟨p1, 0, none⟩) ∧ FF 3 = .pointer (some ⟨p9, 0, none⟩) ∧ FF 4 = .pointer (some ⟨p19, 0, none⟩) ∧ FF 23 = undef ∧ FF 6 = .int .i64 (((i : Nat) : Int)) ∧ Kept (fun _ => False) w0 ww ∧ Blk ww p1 25 (upto i a (bothB a b)) ∧ Blk ww p9 25 (b) ∧ Blk ww p19 25 (fun _ => 0)) (16 - (0)) ⟨0, by omega, rfl, s40, s41, s42, s39, s43, K30, B28.first, B29, B21⟩ ?_
 rintro n47 F44 w45 ⟨i, i48, hn47, s49, s50, s51, s52, s53, K46, B54, B55, B56⟩
 refine wq_seq ?_
 refine wq_region ?_
 refine wl_v (.bool (decide ((((i : Nat) : Int)) < (16)))) rfl rfl (y_lss rfl s53 rfl rfl ⟨rfl, rfl⟩) ?_
 refine wl_nil fun F57 hF58 => ?_
 have s59 := (hF58 2).trans s49
 have s60 := (hF58 3).trans s50
 have s61 := (hF58 4).trans s51
 have s62 := (hF58 23).trans s52
 have s63 := (hF58 6).trans s53
 have s64 : F57 7 = .bool (decide ((((i : Nat) : Int)) < (16))) := (hF58 7).trans rfl
 clear hF58
 refine then_normal ?_
 refine wq_seq ?_
 refine wq_cond s64 (fun c65 => ?_) (fun c65 => ?_)
 ·replace c65 := of_decide_eq_true c65
  refine wq_skip ?_
  refine then_normal ?_
  refine wq_seq ?_
  refine wq_block ?_
  refine wq_seq ?_
  refine wq_region ?_
  refine wl_v (.int .i64 (((i : Nat) : Int))) rfl rfl (y_mov rfl s63 ⟨rfl, rfl⟩) ?_
  refine wl_v (.int .i64 (((i : Nat) : Int))) rfl rfl (y_asg rfl rfl ⟨rfl, rfl⟩) ?_
  refine wl_nil fun F66 hF67 => ?_
  have s68 := (hF67 2).trans s59
  have s69 := (hF67 3).trans s60
  have s70 := (hF67 4).trans s61
  have s71 := (hF67 23).trans s62
  have s72 := (hF67 6).trans s63
  have s73 : F66 5 = .int .i64 (((i : Nat) : Int)) := (hF67 5).trans rfl
  clear hF67
  refine then_normal ?_
  have h1 := c8_le (a i)
  have h2 := c8_le (b i)
  refine wq_tail 12 [some 9, some 10, some 11, some 12, some 13, some 14, some 15, some 16, some 17, some 18, some 19, some 20] [Pd.eq (.int .i64 (((i : Nat) : Int))), Pd.eq (.int .i64 (((i : Nat) : Int))), Pd.eq (.pointer (some ⟨p1, i, none⟩)), Pd.eq (.int .i64 (a i)), Pd.eq (.int .i64 (c8 (a i))), Pd.eq (.int .i64 (((i : Nat) : Int))), Pd.eq (.pointer (some ⟨p9, i, none⟩)), Pd.eq (.int .i64 ((b) (i))), Pd.eq (.int .i64 (c8 (b i))), Pd.eq (.int .i64 ((c8 (a i)) + (c8 (b i)))), Pd.eq (.int .i64 ((c8 (a i) + c8 (b i) + 1) / 2)), Pd.eq (.pointer (some ⟨p1, i, none⟩))] (by kernel_rfl) (by kernel_rfl) (by kernel_rfl) ?_ ?_
  ·refine stepsF_cons ?_ ?_
   ·refine StepF.one rfl fun F_ w_ hR hout hD => ?_
    exact (y_mov rfl ((hout 5 rfl (by decide)).trans s73) ⟨rfl, Kept.refl _ _⟩)
   refine stepsF_cons ?_ ?_
   ·refine StepF.one rfl fun F_ w_ hR hout hD => ?_
    exact (y_mov rfl ((hout 5 rfl (by decide)).trans s73) ⟨rfl, Kept.refl _ _⟩)
   refine stepsF_cons ?_ ?_
   ·refine StepF.one rfl fun F_ w_ hR hout hD => ?_
    have g10 : F_ 10 = .int .i64 (((i : Nat) : Int)) := (hD.get 0 rfl rfl rfl)
    exact (y_atR (i) (s := 1) rfl ((hout 2 rfl (by decide)).trans s68) g10 (by omega) Tryd.underlying25 (by omega) (by kernel_rfl) (by omega) ⟨rfl, Kept.refl _ _⟩)
   refine stepsF_cons ?_ ?_
   ·refine StepF.one rfl fun F_ w_ hR hout hD => ?_
    have g11 : F_ 11 = .pointer (some ⟨p1, i, none⟩) := (hD.get 0 rfl rfl rfl)
    exact (y_ldR rfl g11 Tryd.underlying3 ((((B54.all hR id)).cell (by omega)).trans (some_int (upto_at i _ _))) ⟨rfl, Kept.refl _ _⟩)
   refine stepsF_cons ?_ ?_
   ·refine StepF.one rfl fun F_ w_ hR hout hD => ?_
    have g12 : F_ 12 = .int .i64 (a i) := (hD.get 0 rfl rfl rfl)
    exact (y_cs rfl rfl rfl (fun _ _ => by kernel_rfl) (ev_func _) (vsC g12 (vsC rfl (vsC rfl vsN))) (mo_clamped (a i) (0) (255)  _   ) (fun e_ w_ h_ => ⟨_, h_.1, congrArg (Value.int .i64) (by unfold c8; omega), h_.2⟩))
   refine stepsF_cons ?_ ?_
   ·refine StepF.one rfl fun F_ w_ hR hout hD => ?_
    exact (y_mov rfl ((hout 5 rfl (by decide)).trans s73) ⟨rfl, Kept.refl _ _⟩)
   refine stepsF_cons ?_ ?_
   ·refine StepF.one rfl fun F_ w_ hR hout hD => ?_
    have g14 : F_ 14 = .int .i64 (((i : Nat) : Int)) := (hD.get 0 rfl rfl rfl)
    exact (y_atR (i) (s := 1) rfl ((hout 3 rfl (by decide)).trans s69) g14 (by omega) Tryd.underlying25 (by omega) (by kernel_rfl) (by omega) ⟨rfl, Kept.refl _ _⟩)
   refine stepsF_cons ?_ ?_
   ·refine StepF.one rfl fun F_ w_ hR hout hD => ?_
    have g15 : F_ 15 = .pointer (some ⟨p9, i, none⟩) := (hD.get 0 rfl rfl rfl)
    exact (y_ldR rfl g15 Tryd.underlying3 (((B55.all hR id)).cell (by omega)) ⟨rfl, Kept.refl _ _⟩)
   refine stepsF_cons ?_ ?_
   ·refine StepF.one rfl fun F_ w_ hR hout hD => ?_
    have g16 : F_ 16 = .int .i64 ((b) (i)) := (hD.get 0 rfl rfl rfl)
    exact (y_cs rfl rfl rfl (fun _ _ => by kernel_rfl) (ev_func _) (vsC g16 (vsC rfl (vsC rfl vsN))) (mo_clamped ((b) (i)) (0) (255)  _   ) (fun e_ w_ h_ => ⟨_, h_.1, congrArg (Value.int .i64) (by unfold c8; omega), h_.2⟩))
   refine stepsF_cons ?_ ?_
   ·refine StepF.one rfl fun F_ w_ hR hout hD => ?_
    have g13 : F_ 13 = .int .i64 (c8 (a i)) := (hD.get 0 rfl rfl rfl)
    have g17 : F_ 17 = .int .i64 (c8 (b i)) := (hD.get 1 rfl rfl rfl)
    exact (y_add rfl g13 g17 (i64_i rfl (by omega)) ⟨rfl, Kept.refl _ _⟩)
   refine stepsF_cons ?_ ?_
   ·refine StepF.one rfl fun F_ w_ hR hout hD => ?_
    have g18 : F_ 18 = .int .i64 ((c8 (a i)) + (c8 (b i))) := (hD.get 0 rfl rfl rfl)
    exact (y_cs rfl rfl rfl (fun _ _ => by kernel_rfl) (ev_func _) (vsC g18 (vsC rfl vsN)) (mo_mean ((c8 (a i)) + (c8 (b i))) (2)  _ (by omega) (by omega)  ) (fun e_ w_ h_ => ⟨_, h_.1, congrArg (Value.int .i64) (by omega), h_.2⟩))
   refine stepsF_cons ?_ ?_
   ·refine StepF.one rfl fun F_ w_ hR hout hD => ?_
    have g9 : F_ 9 = .int .i64 (((i : Nat) : Int)) := (hD.get 0 rfl rfl rfl)
    exact (y_atR (i) (s := 1) rfl ((hout 2 rfl (by decide)).trans s68) g9 (by omega) Tryd.underlying25 (by omega) (by kernel_rfl) (by omega) ⟨rfl, Kept.refl _ _⟩)
   exact stepsF_nil
  intro v74 F75 w76 k77 G78 hF79
  have B81 := B54.all k77 id
  have B82 := B55.all k77 id
  have B83 := B56.all k77 id
  have K84 := K46.trans k77 (fun _ _ x => x.elim)
  have s85 := (hF79 2).trans s68
  have s86 := (hF79 3).trans s69
  have s87 := (hF79 4).trans s70
  have s88 := (hF79 23).trans s71
  have s89 := (hF79 6).trans s72
  have s90 : F75 19 = .int .i64 ((c8 (a i) + c8 (b i) + 1) / 2) := (hF79 19).trans (G78 10 (by decide))
  have s91 : F75 20 = .pointer (some ⟨p1, i, none⟩) := (hF79 20).trans (G78 11 (by decide))
  clear G78 hF79
  refine wl_set_blk rfl rfl rfl s91 s90 B81 (by omega) (by kernel_rfl) fun w92 B93 k94 => ?_
  have B95 := B82.all k94 (fun x => ((ap16) p9 rfl x))
  have B96 := B83.all k94 (fun x => ((ap26) p19 rfl x))
  have K97 := K84.trans k94 (Grew.ok (S := fun _ => False) gr7 noB_le)
  refine wl_nil fun F98 hF99 => ?_
  have s100 := (hF99 2).trans s85
  have s101 := (hF99 3).trans s86
  have s102 := (hF99 4).trans s87
  have s103 := (hF99 23).trans s88
  have s104 := (hF99 6).trans s89
  clear hF99
  refine in_normal ?_
  refine then_normal ?_
  refine wq_region ?_
  refine wl_v (.int .i64 (((i + 1 : Nat) : Int))) rfl rfl (y_add rfl s104 rfl (i64_n (by omega) (by omega)) ⟨rfl, rfl⟩) ?_
  refine wl_v (.int .i64 (((i + 1 : Nat) : Int))) rfl rfl (y_mov rfl rfl ⟨rfl, rfl⟩) ?_
  refine wl_nil fun F105 hF106 => ?_
  have s107 := (hF106 2).trans s100
  have s108 := (hF106 3).trans s101
  have s109 := (hF106 4).trans s102
  have s110 := (hF106 23).trans s103
  have s111 : F105 6 = .int .i64 (((i + 1 : Nat) : Int)) := (hF106 6).trans rfl
  clear hF106
  exact then_normal ⟨(16 - (i + 1)), by omega, i + 1, by omega, rfl, s107, s108, s109, s110, s111, K97, (B93.next (bothB_at a b i).symm), B95, B96⟩
 ·replace c65 := of_decide_eq_false c65
  refine wq_exit ?_
  refine then_exit ?_
  refine then_exit ?_
  have l112 : 16 = i := by omega
  subst l112
  have B113 : Blk w45 p1 25 (bothB a b) := (B54.last)
  refine in_here ?_
  refine then_normal ?_
  refine wq_seq ?_
  refine wq_region ?_
  refine wl_v (blkV (bothB a b)) rfl rfl (y_load_blk blkT_block rfl s59 B113 ⟨rfl, rfl⟩) ?_
  refine wl_store_blk blkT_block rfl rfl rfl s61 rfl B56 fun w114 B115 k116 => ?_
  have K119 := K46.trans k116 (Grew.ok (S := fun _ => False) gr25 noB_le)
  refine wl_nil fun F120 hF121 => ?_
  have s122 := (hF121 4).trans s61
  have s123 := (hF121 23).trans s62
  clear hF121
  refine then_normal ?_
  refine wq_ret ?_
  exact end_blk blkT_block s123 rfl rfl s122 B115 ⟨rfl, K119⟩
set_option maxHeartbeats 4000000 in
set_option maxRecDepth 100000 in
theorem mo_sample (p x y : Int) (f : FD) (f0 f1 f2 : Value) (T_f0 : Nat → Prop) (T_f1 : Nat → Prop) (T_f2 : Nat → Prop) (w0 : World) (h_f0 : Byt w0 T_f0 f0 ((f).p0)) (h_f1 : Byt w0 T_f1 f1 ((f).p1)) (h_f2 : Byt w0 T_f2 f2 ((f).p2)) :
  Calls Tryd.prog 98 #[.agg #[.int .i64 ((f).W), .int .i64 ((f).H), f0, f1, f2], .int .i64 (p), .int .i64 (x), .int .i64 (y)] w0 fun e w' => e = .returned (.int .i64 (smpF f p x y)) ∧ Kept (fun _ => False) w0 w' := by
 refine calls_wq (args := [.agg #[.int .i64 ((f).W), .int .i64 ((f).H), f0, f1, f2], .int .i64 (p), .int .i64 (x), .int .i64 (y)]) 72 Tryd.func98 rfl rfl (Nat.le_of_ble_eq_true rfl) ?_
 have K0 := Kept.refl (fun _ => False) w0
 have hb : Bytes3 f := ⟨h_f0.lt256, h_f1.lt256, h_f2.lt256⟩
 obtain ⟨u, hu⟩ : ∃ u, u = c256 x := ⟨_, rfl⟩
 obtain ⟨v, hv⟩ : ∃ v, v = c256 y := ⟨_, rfl⟩
 have hu2 : -256 ≤ u ∧ u ≤ 256 := by rw [hu]; unfold c256; omega
 have hv2 : -256 ≤ v ∧ v ≤ 256 := by rw [hv]; unfold c256; omega
 have hm : smpF f p x y = mid f p u v := by rw [hu, hv]; rfl
 have a1 := atF_le hb p (u / 2) (v / 2)
 have a2 := atF_le hb p ((u + 1) / 2) (v / 2)
 have a3 := atF_le hb p (u / 2) ((v + 1) / 2)
 have a4 := atF_le hb p ((u + 1) / 2) ((v + 1) / 2)
 obtain ⟨N, hN⟩ : ∃ N : Nat, (N : Int) = u % 2 + v % 2 := ⟨(u % 2 + v % 2).toNat, by omega⟩
 obtain ⟨M, hM⟩ : ∃ M : Int, M = 2 ^ N := ⟨_, rfl⟩
 have hM2 : (N = 0 ∧ M = 1) ∨ (N = 1 ∧ M = 2) ∨ (N = 2 ∧ M = 4) := by rcases (by omega : N = 0 ∨ N = 1 ∨ N = 2) with h | h | h <;> subst h <;> simp [hM]
 have g_f0 := Grew.refl w0 T_f0
 have g_f1 := Grew.refl w0 T_f1
 have g_f2 := Grew.refl w0 T_f2
 refine wq_seq ?_
 refine wq_region ?_
 refine wl_box_stc (vs := [.int .i64 ((f).W), .int .i64 ((f).H), f0, f1, f2]) rfl rfl rfl rfl fun p1 w2 B4 g5 k3 => ?_
 have B10 := h_f0.all k3 Apart.none
 have B11 := h_f1.all k3 Apart.none
 have B12 := h_f2.all k3 Apart.none
 have K13 := K0.trans k3 (fun _ _ x => x.elim)
 refine wl_v (.int .i64 (0)) rfl rfl (y_asg rfl rfl ⟨rfl, rfl⟩) ?_
 refine wl_nil fun F14 hF15 => ?_
 have s16 : F14 1 = .int .i64 (p) := (hF15 1).trans rfl
 have s17 : F14 2 = .int .i64 (x) := (hF15 2).trans rfl
 have s18 : F14 3 = .int .i64 (y) := (hF15 3).trans rfl
 have s19 : F14 72 = undef := (hF15 72).trans rfl
 have s20 : F14 4 = .pointer (some ⟨p1, 0, none⟩) := (hF15 4).trans rfl
 clear hF15
 refine then_normal ?_
 refine wq_seq ?_
 refine wq_region ?_
 refine wl_v (.int .i64 (x)) rfl rfl (y_mov rfl s17 ⟨rfl, rfl⟩) ?_
 refine wl_call (R := fun v_ w_ => v_ = .int .i64 (u) ∧ Kept (fun _ => False) w2 w_) rfl rfl (y_cs rfl rfl rfl (fun _ _ => by kernel_rfl) (ev_func _) (vsC rfl (vsC rfl (vsC rfl vsN))) (mo_clamped (x) (-256) (256)  _   ) (fun e_ w_ h_ => ⟨_, h_.1, congrArg (Value.int .i64) (by rw [hu]; unfold c256; omega), h_.2⟩)) ?_
 rintro _ w21 ⟨rfl, k22⟩
 have B23 := B10.all k22 Apart.none
 have B24 := B11.all k22 Apart.none
 have B25 := B12.all k22 Apart.none
 have B26 := B4.all k22 id
 have K27 := K13.trans k22 (fun _ _ x => x.elim)
 refine wl_v (.int .i64 (y)) rfl rfl (y_mov rfl s18 ⟨rfl, rfl⟩) ?_
 refine wl_call (R := fun v_ w_ => v_ = .int .i64 (v) ∧ Kept (fun _ => False) w21 w_) rfl rfl (y_cs rfl rfl rfl (fun _ _ => by kernel_rfl) (ev_func _) (vsC rfl (vsC rfl (vsC rfl vsN))) (mo_clamped (y) (-256) (256)  _   ) (fun e_ w_ h_ => ⟨_, h_.1, congrArg (Value.int .i64) (by rw [hv]; unfold c256; omega), h_.2⟩)) ?_
 rintro _ w28 ⟨rfl, k29⟩
 have B30 := B23.all k29 Apart.none
 have B31 := B24.all k29 Apart.none
 have B32 := B25.all k29 Apart.none
 have B33 := B26.all k29 id
 have K34 := K27.trans k29 (fun _ _ x => x.elim)
 refine wl_v (.int .i64 (u)) rfl rfl (y_asg rfl rfl ⟨rfl, rfl⟩) ?_
 refine wl_v (.int .i64 (v)) rfl rfl (y_asg rfl rfl ⟨rfl, rfl⟩) ?_
 refine wl_nil fun F35 hF36 => ?_
 have s37 := (hF36 1).trans s16
 have s38 := (hF36 72).trans s19
 have s39 := (hF36 4).trans s20
 have s40 : F35 2 = .int .i64 (u) := (hF36 2).trans rfl
 have s41 : F35 3 = .int .i64 (v) := (hF36 3).trans rfl
 clear hF36
 refine then_normal ?_
 refine wq_seq ?_
 refine wq_region ?_
 refine wl_v (.int .i64 (u)) rfl rfl (y_mov rfl s40 ⟨rfl, rfl⟩) ?_
 refine wl_v (.int .i64 (u / 2)) rfl rfl (y_shrR 1 rfl rfl rfl (by decide) ((by simp)) ⟨rfl, rfl⟩) ?_
 refine wl_v (.int .i64 (v)) rfl rfl (y_mov rfl s41 ⟨rfl, rfl⟩) ?_
 refine wl_v (.int .i64 (v / 2)) rfl rfl (y_shrR 1 rfl rfl rfl (by decide) ((by simp)) ⟨rfl, rfl⟩) ?_
 refine wl_v (.int .i64 (u / 2)) rfl rfl (y_asg rfl rfl ⟨rfl, rfl⟩) ?_
 refine wl_v (.int .i64 (v / 2)) rfl rfl (y_asg rfl rfl ⟨rfl, rfl⟩) ?_
 refine wl_nil fun F42 hF43 => ?_
 have s44 := (hF43 1).trans s37
 have s45 := (hF43 72).trans s38
 have s46 := (hF43 4).trans s39
 have s47 := (hF43 2).trans s40
 have s48 := (hF43 3).trans s41
 have s49 : F42 9 = .int .i64 (u / 2) := (hF43 9).trans rfl
 have s50 : F42 10 = .int .i64 (v / 2) := (hF43 10).trans rfl
 clear hF43
 refine then_normal ?_
 refine wq_seq ?_
 refine wq_region ?_
 refine wl_v (.int .i64 (u)) rfl rfl (y_mov rfl s47 ⟨rfl, rfl⟩) ?_
 refine wl_v (.int .i64 (u % 2)) rfl rfl (y_andR rfl rfl rfl (and_one hu2) ⟨rfl, rfl⟩) ?_
 refine wl_v (.int .i64 (v)) rfl rfl (y_mov rfl s48 ⟨rfl, rfl⟩) ?_
 refine wl_v (.int .i64 (v % 2)) rfl rfl (y_andR rfl rfl rfl (and_one hv2) ⟨rfl, rfl⟩) ?_
 refine wl_v (.int .i64 (u % 2)) rfl rfl (y_asg rfl rfl ⟨rfl, rfl⟩) ?_
 refine wl_v (.int .i64 (v % 2)) rfl rfl (y_asg rfl rfl ⟨rfl, rfl⟩) ?_
 refine wl_nil fun F51 hF52 => ?_
 have s53 := (hF52 1).trans s44
 have s54 := (hF52 72).trans s45
 have s55 := (hF52 4).trans s46
 have s56 := (hF52 9).trans s49
 have s57 := (hF52 10).trans s50
 have s58 : F51 11 = .int .i64 (u % 2) := (hF52 11).trans rfl
 have s59 : F51 12 = .int .i64 (v % 2) := (hF52 12).trans rfl
 clear hF52
 refine then_normal ?_
 refine wq_seq ?_
 refine wq_region ?_
 refine wl_v (.int .i64 (0)) rfl rfl (y_asg rfl rfl ⟨rfl, rfl⟩) ?_
 refine wl_nil fun F60 hF61 => ?_
 have s62 := (hF61 1).trans s53
 have s63 := (hF61 72).trans s54
 have s64 := (hF61 4).trans s55
 have s65 := (hF61 9).trans s56
 have s66 := (hF61 10).trans s57
 have s67 := (hF61 11).trans s58
 have s68 := (hF61 12).trans s59
 have s69 : F60 13 = .int .i64 (0) := (hF61 13).trans rfl
 clear hF61
 refine then_normal ?_
 refine wq_seq ?_
 refine wq_seq ?_
 refine wq_region ?_
 refine wl_v (.int .i64 (u % 2)) rfl rfl (y_mov rfl s67 ⟨rfl, rfl⟩) ?_
 refine wl_v (.int .i64 (v % 2)) rfl rfl (y_mov rfl s68 ⟨rfl, rfl⟩) ?_
 refine wl_v (.int .i64 (((N : Nat) : Int))) rfl rfl (y_add rfl rfl rfl (i64_i hN.symm (by omega)) ⟨rfl, rfl⟩) ?_
 refine wl_nil fun F70 hF71 => ?_
 have s72 := (hF71 1).trans s62
 have s73 := (hF71 72).trans s63
 have s74 := (hF71 4).trans s64
 have s75 := (hF71 9).trans s65
 have s76 := (hF71 10).trans s66
 have s77 := (hF71 11).trans s67
 have s78 := (hF71 12).trans s68
 have s79 := (hF71 13).trans s69
 have s80 : F70 28 = .int .i64 (((N : Nat) : Int)) := (hF71 28).trans rfl
 clear hF71
 refine then_normal ?_
 refine wq_block ?_
 refine wq_seq ?_
 refine wq_block ?_
 refine wq_seq ?_
 refine wq_block ?_
 refine wq_seq ?_
 refine wq_block ?_
 refine wq_seq ?_
 refine wq_seq ?_
 refine wq_seq ?_
 refine wq_region ?_
 refine wl_v (.bool (decide ((((N : Nat) : Int)) = (2)))) rfl rfl (y_eqlI rfl s80 rfl rfl ⟨rfl, rfl⟩) ?_
 refine wl_v (.bool (decide ((((N : Nat) : Int)) = (2)))) rfl rfl (y_asg rfl rfl ⟨rfl, rfl⟩) ?_
 refine wl_nil fun F81 hF82 => ?_
 have s83 := (hF82 1).trans s72
 have s84 := (hF82 72).trans s73
 have s85 := (hF82 4).trans s74
 have s86 := (hF82 9).trans s75
 have s87 := (hF82 10).trans s76
 have s88 := (hF82 11).trans s77
 have s89 := (hF82 12).trans s78
 have s90 := (hF82 13).trans s79
 have s91 := (hF82 28).trans s80
 have s92 : F81 29 = .bool (decide ((((N : Nat) : Int)) = (2))) := (hF82 29).trans rfl
 clear hF82
 refine then_normal ?_
 refine wq_cond s92 (fun c93 => ?_) (fun c93 => ?_)
 ·replace c93 := of_decide_eq_true c93
  refine wq_exit ?_
  refine then_exit ?_
  refine then_exit ?_
  refine in_here ?_
  refine then_normal ?_
  refine wq_tail 15 [some 33, some 34, some 35, some 36, some 37, some 38, some 39, some 40, some 41, some 42, some 43, some 44, some 45, some 46, some 47] [Pd.eq (.int .i64 (0)), Pd.eq (.agg #[.int .i64 ((f).W), .int .i64 ((f).H), f0, f1, f2]), Pd.eq (.int .i64 (p)), Pd.eq (.int .i64 (u / 2)), Pd.eq (.int .i64 ((u + 1) / 2)), Pd.eq (.int .i64 (v / 2)), Pd.eq (.int .i64 (atF (f) (p) ((u + 1) / 2) (v / 2))), Pd.eq (.agg #[.int .i64 ((f).W), .int .i64 ((f).H), f0, f1, f2]), Pd.eq (.int .i64 (p)), Pd.eq (.int .i64 (u / 2)), Pd.eq (.int .i64 (v / 2)), Pd.eq (.int .i64 ((v + 1) / 2)), Pd.eq (.int .i64 (atF (f) (p) (u / 2) ((v + 1) / 2))), Pd.eq (.int .i64 ((atF (f) (p) ((u + 1) / 2) (v / 2)) + (atF (f) (p) (u / 2) ((v + 1) / 2)))), Pd.eq (.int .i64 ((0) + ((atF (f) (p) ((u + 1) / 2) (v / 2)) + (atF (f) (p) (u / 2) ((v + 1) / 2)))))] (by kernel_rfl) (by kernel_rfl) (by kernel_rfl) ?_ ?_
  ·refine stepsF_cons ?_ ?_
   ·refine StepF.one rfl fun F_ w_ hR hout hD => ?_
    exact (y_mov rfl ((hout 13 rfl (by decide)).trans s90) ⟨rfl, Kept.refl _ _⟩)
   refine stepsF_cons ?_ ?_
   ·refine StepF.one rfl fun F_ w_ hR hout hD => ?_
    exact (y_load_stc stcT_frame rfl ((hout 4 rfl (by decide)).trans s85) (B33.all hR id) ⟨rfl, Kept.refl _ _⟩)
   refine stepsF_cons ?_ ?_
   ·refine StepF.one rfl fun F_ w_ hR hout hD => ?_
    exact (y_mov rfl ((hout 1 rfl (by decide)).trans s83) ⟨rfl, Kept.refl _ _⟩)
   refine stepsF_cons ?_ ?_
   ·refine StepF.one rfl fun F_ w_ hR hout hD => ?_
    exact (y_mov rfl ((hout 9 rfl (by decide)).trans s86) ⟨rfl, Kept.refl _ _⟩)
   refine stepsF_cons ?_ ?_
   ·refine StepF.one rfl fun F_ w_ hR hout hD => ?_
    have g36 : F_ 36 = .int .i64 (u / 2) := (hD.get 0 rfl rfl rfl)
    exact (y_add rfl g36 rfl (i64_i (by omega) (by omega)) ⟨rfl, Kept.refl _ _⟩)
   refine stepsF_cons ?_ ?_
   ·refine StepF.one rfl fun F_ w_ hR hout hD => ?_
    exact (y_mov rfl ((hout 10 rfl (by decide)).trans s87) ⟨rfl, Kept.refl _ _⟩)
   refine stepsF_cons ?_ ?_
   ·refine StepF.one rfl fun F_ w_ hR hout hD => ?_
    have g34 : F_ 34 = .agg #[.int .i64 ((f).W), .int .i64 ((f).H), f0, f1, f2] := (hD.get 0 rfl rfl rfl)
    have g35 : F_ 35 = .int .i64 (p) := (hD.get 1 rfl rfl rfl)
    have g37 : F_ 37 = .int .i64 ((u + 1) / 2) := (hD.get 2 rfl rfl rfl)
    have g38 : F_ 38 = .int .i64 (v / 2) := (hD.get 3 rfl rfl rfl)
    exact (y_cs rfl rfl rfl (fun _ _ => by kernel_rfl) (ev_func _) (vsC g34 (vsC g35 (vsC g37 (vsC g38 vsN)))) (pl_at (p) ((u + 1) / 2) (v / 2) (f) (f0) (f1) (f2) (T_f0) (T_f1) (T_f2) _  (B30.all hR Apart.none) (B31.all hR Apart.none) (B32.all hR Apart.none) ) (fun e_ w_ h_ => ⟨_, h_.1, rfl, h_.2⟩))
   refine stepsF_cons ?_ ?_
   ·refine StepF.one rfl fun F_ w_ hR hout hD => ?_
    exact (y_load_stc stcT_frame rfl ((hout 4 rfl (by decide)).trans s85) (B33.all hR id) ⟨rfl, Kept.refl _ _⟩)
   refine stepsF_cons ?_ ?_
   ·refine StepF.one rfl fun F_ w_ hR hout hD => ?_
    exact (y_mov rfl ((hout 1 rfl (by decide)).trans s83) ⟨rfl, Kept.refl _ _⟩)
   refine stepsF_cons ?_ ?_
   ·refine StepF.one rfl fun F_ w_ hR hout hD => ?_
    exact (y_mov rfl ((hout 9 rfl (by decide)).trans s86) ⟨rfl, Kept.refl _ _⟩)
   refine stepsF_cons ?_ ?_
   ·refine StepF.one rfl fun F_ w_ hR hout hD => ?_
    exact (y_mov rfl ((hout 10 rfl (by decide)).trans s87) ⟨rfl, Kept.refl _ _⟩)
   refine stepsF_cons ?_ ?_
   ·refine StepF.one rfl fun F_ w_ hR hout hD => ?_
    have g43 : F_ 43 = .int .i64 (v / 2) := (hD.get 0 rfl rfl rfl)
    exact (y_add rfl g43 rfl (i64_i (by omega) (by omega)) ⟨rfl, Kept.refl _ _⟩)
   refine stepsF_cons ?_ ?_
   ·refine StepF.one rfl fun F_ w_ hR hout hD => ?_
    have g40 : F_ 40 = .agg #[.int .i64 ((f).W), .int .i64 ((f).H), f0, f1, f2] := (hD.get 0 rfl rfl rfl)
    have g41 : F_ 41 = .int .i64 (p) := (hD.get 1 rfl rfl rfl)
    have g42 : F_ 42 = .int .i64 (u / 2) := (hD.get 2 rfl rfl rfl)
    have g44 : F_ 44 = .int .i64 ((v + 1) / 2) := (hD.get 3 rfl rfl rfl)
    exact (y_cs rfl rfl rfl (fun _ _ => by kernel_rfl) (ev_func _) (vsC g40 (vsC g41 (vsC g42 (vsC g44 vsN)))) (pl_at (p) (u / 2) ((v + 1) / 2) (f) (f0) (f1) (f2) (T_f0) (T_f1) (T_f2) _  (B30.all hR Apart.none) (B31.all hR Apart.none) (B32.all hR Apart.none) ) (fun e_ w_ h_ => ⟨_, h_.1, rfl, h_.2⟩))
   refine stepsF_cons ?_ ?_
   ·refine StepF.one rfl fun F_ w_ hR hout hD => ?_
    have g39 : F_ 39 = .int .i64 (atF (f) (p) ((u + 1) / 2) (v / 2)) := (hD.get 0 rfl rfl rfl)
    have g45 : F_ 45 = .int .i64 (atF (f) (p) (u / 2) ((v + 1) / 2)) := (hD.get 1 rfl rfl rfl)
    exact (y_add rfl g39 g45 (i64_i rfl (by omega)) ⟨rfl, Kept.refl _ _⟩)
   refine stepsF_cons ?_ ?_
   ·refine StepF.one rfl fun F_ w_ hR hout hD => ?_
    have g33 : F_ 33 = .int .i64 (0) := (hD.get 0 rfl rfl rfl)
    have g46 : F_ 46 = .int .i64 ((atF (f) (p) ((u + 1) / 2) (v / 2)) + (atF (f) (p) (u / 2) ((v + 1) / 2))) := (hD.get 1 rfl rfl rfl)
    exact (y_add rfl g33 g46 (i64_i rfl (by omega)) ⟨rfl, Kept.refl _ _⟩)
   exact stepsF_nil
  intro v94 F95 w96 k97 G98 hF99
  have B101 := B30.all k97 Apart.none
  have B102 := B31.all k97 Apart.none
  have B103 := B32.all k97 Apart.none
  have B104 := B33.all k97 id
  have K105 := K34.trans k97 (fun _ _ x => x.elim)
  have s106 := (hF99 1).trans s83
  have s107 := (hF99 72).trans s84
  have s108 := (hF99 4).trans s85
  have s109 := (hF99 9).trans s86
  have s110 := (hF99 10).trans s87
  have s111 := (hF99 11).trans s88
  have s112 := (hF99 12).trans s89
  have s114 : F95 47 = .int .i64 ((0) + ((atF (f) (p) ((u + 1) / 2) (v / 2)) + (atF (f) (p) (u / 2) ((v + 1) / 2)))) := (hF99 47).trans (G98 14 (by decide))
  clear G98 hF99
  refine wl_v (.int .i64 ((0) + ((atF (f) (p) ((u + 1) / 2) (v / 2)) + (atF (f) (p) (u / 2) ((v + 1) / 2))))) rfl rfl (y_asg rfl s114 ⟨rfl, rfl⟩) ?_
  refine wl_nil fun F115 hF116 => ?_
  have s117 := (hF116 1).trans s106
  have s118 := (hF116 72).trans s107
  have s119 := (hF116 4).trans s108
  have s120 := (hF116 9).trans s109
  have s121 := (hF116 10).trans s110
  have s122 := (hF116 11).trans s111
  have s123 := (hF116 12).trans s112
  have s124 : F115 13 = .int .i64 ((0) + ((atF (f) (p) ((u + 1) / 2) (v / 2)) + (atF (f) (p) (u / 2) ((v + 1) / 2)))) := (hF116 13).trans rfl
  clear hF116
  refine in_normal ?_
  refine then_normal ?_
  refine wq_region ?_
  refine wl_v (.int .i64 ((0) + ((atF (f) (p) ((u + 1) / 2) (v / 2)) + (atF (f) (p) (u / 2) ((v + 1) / 2))))) rfl rfl (y_mov rfl s124 ⟨rfl, rfl⟩) ?_
  refine wl_v (.agg #[.int .i64 ((f).W), .int .i64 ((f).H), f0, f1, f2]) rfl rfl (y_load_stc stcT_frame rfl s119 B104 ⟨rfl, rfl⟩) ?_
  refine wl_v (.int .i64 (p)) rfl rfl (y_mov rfl s117 ⟨rfl, rfl⟩) ?_
  refine wl_v (.int .i64 (u / 2)) rfl rfl (y_mov rfl s120 ⟨rfl, rfl⟩) ?_
  refine wl_v (.int .i64 (u % 2)) rfl rfl (y_mov rfl s122 ⟨rfl, rfl⟩) ?_
  refine wl_v (.int .i64 ((u + 1) / 2)) rfl rfl (y_add rfl rfl rfl (i64_i (by omega) (by omega)) ⟨rfl, rfl⟩) ?_
  refine wl_v (.int .i64 (v / 2)) rfl rfl (y_mov rfl s121 ⟨rfl, rfl⟩) ?_
  refine wl_v (.int .i64 (v % 2)) rfl rfl (y_mov rfl s123 ⟨rfl, rfl⟩) ?_
  refine wl_v (.int .i64 ((v + 1) / 2)) rfl rfl (y_add rfl rfl rfl (i64_i (by omega) (by omega)) ⟨rfl, rfl⟩) ?_
  refine wl_call (R := fun v_ w_ => v_ = .int .i64 (atF (f) (p) ((u + 1) / 2) ((v + 1) / 2)) ∧ Kept (fun _ => False) w96 w_) rfl rfl (y_cs rfl rfl rfl (fun _ _ => by kernel_rfl) (ev_func _) (vsC rfl (vsC rfl (vsC rfl (vsC rfl vsN)))) (pl_at (p) ((u + 1) / 2) ((v + 1) / 2) (f) (f0) (f1) (f2) (T_f0) (T_f1) (T_f2) _  B101 B102 B103 ) (fun e_ w_ h_ => ⟨_, h_.1, rfl, h_.2⟩)) ?_
  rintro _ w125 ⟨rfl, k126⟩
  have B127 := B101.all k126 Apart.none
  have B128 := B102.all k126 Apart.none
  have B129 := B103.all k126 Apart.none
  have B130 := B104.all k126 id
  have K131 := K105.trans k126 (fun _ _ x => x.elim)
  refine wl_v (.int .i64 (((0) + ((atF (f) (p) ((u + 1) / 2) (v / 2)) + (atF (f) (p) (u / 2) ((v + 1) / 2)))) + (atF (f) (p) ((u + 1) / 2) ((v + 1) / 2)))) rfl rfl (y_add rfl rfl rfl (i64_i rfl (by omega)) ⟨rfl, rfl⟩) ?_
  refine wl_v (.int .i64 (((0) + ((atF (f) (p) ((u + 1) / 2) (v / 2)) + (atF (f) (p) (u / 2) ((v + 1) / 2)))) + (atF (f) (p) ((u + 1) / 2) ((v + 1) / 2)))) rfl rfl (y_asg rfl rfl ⟨rfl, rfl⟩) ?_
  refine wl_nil fun F132 hF133 => ?_
  have s134 := (hF133 1).trans s117
  have s135 := (hF133 72).trans s118
  have s136 := (hF133 4).trans s119
  have s137 := (hF133 9).trans s120
  have s138 := (hF133 10).trans s121
  have s139 := (hF133 11).trans s122
  have s140 := (hF133 12).trans s123
  have s141 : F132 13 = .int .i64 (((0) + ((atF (f) (p) ((u + 1) / 2) (v / 2)) + (atF (f) (p) (u / 2) ((v + 1) / 2)))) + (atF (f) (p) ((u + 1) / 2) ((v + 1) / 2))) := (hF133 13).trans rfl
  clear hF133
  refine in_normal ?_
  refine then_normal ?_
  refine wq_seq ?_
  refine wq_region ?_
  refine wl_v (.int .i64 (((0) + ((atF (f) (p) ((u + 1) / 2) (v / 2)) + (atF (f) (p) (u / 2) ((v + 1) / 2)))) + (atF (f) (p) ((u + 1) / 2) ((v + 1) / 2)))) rfl rfl (y_mov rfl s141 ⟨rfl, rfl⟩) ?_
  refine wl_v (.agg #[.int .i64 ((f).W), .int .i64 ((f).H), f0, f1, f2]) rfl rfl (y_load_stc stcT_frame rfl s136 B130 ⟨rfl, rfl⟩) ?_
  refine wl_v (.int .i64 (p)) rfl rfl (y_mov rfl s134 ⟨rfl, rfl⟩) ?_
  refine wl_v (.int .i64 (u / 2)) rfl rfl (y_mov rfl s137 ⟨rfl, rfl⟩) ?_
  refine wl_v (.int .i64 (v / 2)) rfl rfl (y_mov rfl s138 ⟨rfl, rfl⟩) ?_
  refine wl_call (R := fun v_ w_ => v_ = .int .i64 (atF (f) (p) (u / 2) (v / 2)) ∧ Kept (fun _ => False) w125 w_) rfl rfl (y_cs rfl rfl rfl (fun _ _ => by kernel_rfl) (ev_func _) (vsC rfl (vsC rfl (vsC rfl (vsC rfl vsN)))) (pl_at (p) (u / 2) (v / 2) (f) (f0) (f1) (f2) (T_f0) (T_f1) (T_f2) _  B127 B128 B129 ) (fun e_ w_ h_ => ⟨_, h_.1, rfl, h_.2⟩)) ?_
  rintro _ w142 ⟨rfl, k143⟩
  have K148 := K131.trans k143 (fun _ _ x => x.elim)
  refine wl_v (.int .i64 ((((0) + ((atF (f) (p) ((u + 1) / 2) (v / 2)) + (atF (f) (p) (u / 2) ((v + 1) / 2)))) + (atF (f) (p) ((u + 1) / 2) ((v + 1) / 2))) + (atF (f) (p) (u / 2) (v / 2)))) rfl rfl (y_add rfl rfl rfl (i64_i rfl (by omega)) ⟨rfl, rfl⟩) ?_
  refine wl_v (.int .i64 ((((0) + ((atF (f) (p) ((u + 1) / 2) (v / 2)) + (atF (f) (p) (u / 2) ((v + 1) / 2)))) + (atF (f) (p) ((u + 1) / 2) ((v + 1) / 2))) + (atF (f) (p) (u / 2) (v / 2)))) rfl rfl (y_asg rfl rfl ⟨rfl, rfl⟩) ?_
  refine wl_nil fun F149 hF150 => ?_
  have s151 := (hF150 72).trans s135
  have s152 := (hF150 11).trans s139
  have s153 := (hF150 12).trans s140
  have s154 : F149 13 = .int .i64 ((((0) + ((atF (f) (p) ((u + 1) / 2) (v / 2)) + (atF (f) (p) (u / 2) ((v + 1) / 2)))) + (atF (f) (p) ((u + 1) / 2) ((v + 1) / 2))) + (atF (f) (p) (u / 2) (v / 2))) := (hF150 13).trans rfl
  clear hF150
  refine then_normal ?_
  refine wq_exit ?_
  refine in_here ?_
  refine then_normal ?_
  refine wq_seq ?_
  refine wq_region ?_
  refine wl_v (.int .i64 ((((0) + ((atF (f) (p) ((u + 1) / 2) (v / 2)) + (atF (f) (p) (u / 2) ((v + 1) / 2)))) + (atF (f) (p) ((u + 1) / 2) ((v + 1) / 2))) + (atF (f) (p) (u / 2) (v / 2)))) rfl rfl (y_mov rfl s154 ⟨rfl, rfl⟩) ?_
  refine wl_v (.int .i64 (u % 2)) rfl rfl (y_mov rfl s152 ⟨rfl, rfl⟩) ?_
  refine wl_v (.int .i64 (v % 2)) rfl rfl (y_mov rfl s153 ⟨rfl, rfl⟩) ?_
  refine wl_v (.int .i64 (((N : Nat) : Int))) rfl rfl (y_add rfl rfl rfl (i64_i hN.symm (by omega)) ⟨rfl, rfl⟩) ?_
  refine wl_v (.int .i64 (M)) rfl rfl (y_shlR (N) rfl rfl rfl ((by rcases hM2 with ⟨h1, h2⟩ | ⟨h1, h2⟩ | ⟨h1, h2⟩ <;> subst h1 <;> rw [h2] <;> rfl)) ⟨rfl, rfl⟩) ?_
  refine wl_call (R := fun v_ w_ => v_ = .int .i64 (mid f p u v) ∧ Kept (fun _ => False) w142 w_) rfl rfl (y_cs rfl rfl rfl (fun _ _ => by kernel_rfl) (ev_func _) (vsC rfl (vsC rfl vsN)) (mo_mean ((((0) + ((atF (f) (p) ((u + 1) / 2) (v / 2)) + (atF (f) (p) (u / 2) ((v + 1) / 2)))) + (atF (f) (p) ((u + 1) / 2) ((v + 1) / 2))) + (atF (f) (p) (u / 2) (v / 2))) (M)  _ (by omega) (by omega)  ) (fun e_ w_ h_ => ⟨_, h_.1, congrArg (Value.int .i64) (by first | (rw [(by omega : M = 4)]; have e := mid_none (f := f) (p := p) (u := u) (v := v) (by omega) (by omega); omega) | (rw [(by omega : M = 2)]; rcases (by omega : u % 2 = 0 ∨ v % 2 = 0) with h0 | h0; (have e := mid_down (f := f) (p := p) (u := u) (v := v) (by omega) (by omega); rw [show (u + 1) / 2 = u / 2 by omega]; omega); (have e := mid_side (f := f) (p := p) (u := u) (v := v) (by omega) (by omega); rw [show (v + 1) / 2 = v / 2 by omega]; omega)) | (rw [(by omega : M = 1)]; have e := mid_both (f := f) (p := p) (u := u) (v := v) (by omega) (by omega); omega)), h_.2⟩)) ?_
  rintro _ w155 ⟨rfl, k156⟩
  have K161 := K148.trans k156 (fun _ _ x => x.elim)
  refine wl_v (.int .i64 (mid f p u v)) rfl rfl (y_asg rfl rfl ⟨rfl, rfl⟩) ?_
  refine wl_nil fun F162 hF163 => ?_
  have s164 := (hF163 72).trans s151
  have s165 : F162 8 = .int .i64 (mid f p u v) := (hF163 8).trans rfl
  clear hF163
  refine then_normal ?_
  refine wq_ret ?_
  exact end_tmp (v := .int .i64 (mid f p u v)) s164 rfl rfl s165 ⟨(by rw [hm]), K161⟩
 ·replace c93 := of_decide_eq_false c93
  refine wq_skip ?_
  refine then_normal ?_
  refine wq_seq ?_
  refine wq_region ?_
  refine wl_v (.bool (decide ((((N : Nat) : Int)) = (1)))) rfl rfl (y_eqlI rfl s91 rfl rfl ⟨rfl, rfl⟩) ?_
  refine wl_v (.bool (decide ((((N : Nat) : Int)) = (1)))) rfl rfl (y_asg rfl rfl ⟨rfl, rfl⟩) ?_
  refine wl_nil fun F166 hF167 => ?_
  have s168 := (hF167 1).trans s83
  have s169 := (hF167 72).trans s84
  have s170 := (hF167 4).trans s85
  have s171 := (hF167 9).trans s86
  have s172 := (hF167 10).trans s87
  have s173 := (hF167 11).trans s88
  have s174 := (hF167 12).trans s89
  have s175 := (hF167 13).trans s90
  have s176 : F166 31 = .bool (decide ((((N : Nat) : Int)) = (1))) := (hF167 31).trans rfl
  clear hF167
  refine then_normal ?_
  refine wq_cond s176 (fun c177 => ?_) (fun c177 => ?_)
  ·replace c177 := of_decide_eq_true c177
   refine wq_exit ?_
   refine then_exit ?_
   refine in_other (by decide) ?_
   refine then_exit ?_
   refine in_here ?_
   refine then_normal ?_
   refine wq_region ?_
   refine wl_v (.int .i64 (0)) rfl rfl (y_mov rfl s175 ⟨rfl, rfl⟩) ?_
   refine wl_v (.agg #[.int .i64 ((f).W), .int .i64 ((f).H), f0, f1, f2]) rfl rfl (y_load_stc stcT_frame rfl s170 B33 ⟨rfl, rfl⟩) ?_
   refine wl_v (.int .i64 (p)) rfl rfl (y_mov rfl s168 ⟨rfl, rfl⟩) ?_
   refine wl_v (.int .i64 (u / 2)) rfl rfl (y_mov rfl s171 ⟨rfl, rfl⟩) ?_
   refine wl_v (.int .i64 (u % 2)) rfl rfl (y_mov rfl s173 ⟨rfl, rfl⟩) ?_
   refine wl_v (.int .i64 ((u + 1) / 2)) rfl rfl (y_add rfl rfl rfl (i64_i (by omega) (by omega)) ⟨rfl, rfl⟩) ?_
   refine wl_v (.int .i64 (v / 2)) rfl rfl (y_mov rfl s172 ⟨rfl, rfl⟩) ?_
   refine wl_v (.int .i64 (v % 2)) rfl rfl (y_mov rfl s174 ⟨rfl, rfl⟩) ?_
   refine wl_v (.int .i64 ((v + 1) / 2)) rfl rfl (y_add rfl rfl rfl (i64_i (by omega) (by omega)) ⟨rfl, rfl⟩) ?_
   refine wl_call (R := fun v_ w_ => v_ = .int .i64 (atF (f) (p) ((u + 1) / 2) ((v + 1) / 2)) ∧ Kept (fun _ => False) w28 w_) rfl rfl (y_cs rfl rfl rfl (fun _ _ => by kernel_rfl) (ev_func _) (vsC rfl (vsC rfl (vsC rfl (vsC rfl vsN)))) (pl_at (p) ((u + 1) / 2) ((v + 1) / 2) (f) (f0) (f1) (f2) (T_f0) (T_f1) (T_f2) _  B30 B31 B32 ) (fun e_ w_ h_ => ⟨_, h_.1, rfl, h_.2⟩)) ?_
   rintro _ w178 ⟨rfl, k179⟩
   have B180 := B30.all k179 Apart.none
   have B181 := B31.all k179 Apart.none
   have B182 := B32.all k179 Apart.none
   have B183 := B33.all k179 id
   have K184 := K34.trans k179 (fun _ _ x => x.elim)
   refine wl_v (.int .i64 ((0) + (atF (f) (p) ((u + 1) / 2) ((v + 1) / 2)))) rfl rfl (y_add rfl rfl rfl (i64_i rfl (by omega)) ⟨rfl, rfl⟩) ?_
   refine wl_v (.int .i64 ((0) + (atF (f) (p) ((u + 1) / 2) ((v + 1) / 2)))) rfl rfl (y_asg rfl rfl ⟨rfl, rfl⟩) ?_
   refine wl_nil fun F185 hF186 => ?_
   have s187 := (hF186 1).trans s168
   have s188 := (hF186 72).trans s169
   have s189 := (hF186 4).trans s170
   have s190 := (hF186 9).trans s171
   have s191 := (hF186 10).trans s172
   have s192 := (hF186 11).trans s173
   have s193 := (hF186 12).trans s174
   have s194 : F185 13 = .int .i64 ((0) + (atF (f) (p) ((u + 1) / 2) ((v + 1) / 2))) := (hF186 13).trans rfl
   clear hF186
   refine in_normal ?_
   refine then_normal ?_
   refine wq_seq ?_
   refine wq_region ?_
   refine wl_v (.int .i64 ((0) + (atF (f) (p) ((u + 1) / 2) ((v + 1) / 2)))) rfl rfl (y_mov rfl s194 ⟨rfl, rfl⟩) ?_
   refine wl_v (.agg #[.int .i64 ((f).W), .int .i64 ((f).H), f0, f1, f2]) rfl rfl (y_load_stc stcT_frame rfl s189 B183 ⟨rfl, rfl⟩) ?_
   refine wl_v (.int .i64 (p)) rfl rfl (y_mov rfl s187 ⟨rfl, rfl⟩) ?_
   refine wl_v (.int .i64 (u / 2)) rfl rfl (y_mov rfl s190 ⟨rfl, rfl⟩) ?_
   refine wl_v (.int .i64 (v / 2)) rfl rfl (y_mov rfl s191 ⟨rfl, rfl⟩) ?_
   refine wl_call (R := fun v_ w_ => v_ = .int .i64 (atF (f) (p) (u / 2) (v / 2)) ∧ Kept (fun _ => False) w178 w_) rfl rfl (y_cs rfl rfl rfl (fun _ _ => by kernel_rfl) (ev_func _) (vsC rfl (vsC rfl (vsC rfl (vsC rfl vsN)))) (pl_at (p) (u / 2) (v / 2) (f) (f0) (f1) (f2) (T_f0) (T_f1) (T_f2) _  B180 B181 B182 ) (fun e_ w_ h_ => ⟨_, h_.1, rfl, h_.2⟩)) ?_
   rintro _ w195 ⟨rfl, k196⟩
   have K201 := K184.trans k196 (fun _ _ x => x.elim)
   refine wl_v (.int .i64 (((0) + (atF (f) (p) ((u + 1) / 2) ((v + 1) / 2))) + (atF (f) (p) (u / 2) (v / 2)))) rfl rfl (y_add rfl rfl rfl (i64_i rfl (by omega)) ⟨rfl, rfl⟩) ?_
   refine wl_v (.int .i64 (((0) + (atF (f) (p) ((u + 1) / 2) ((v + 1) / 2))) + (atF (f) (p) (u / 2) (v / 2)))) rfl rfl (y_asg rfl rfl ⟨rfl, rfl⟩) ?_
   refine wl_nil fun F202 hF203 => ?_
   have s204 := (hF203 72).trans s188
   have s205 := (hF203 11).trans s192
   have s206 := (hF203 12).trans s193
   have s207 : F202 13 = .int .i64 (((0) + (atF (f) (p) ((u + 1) / 2) ((v + 1) / 2))) + (atF (f) (p) (u / 2) (v / 2))) := (hF203 13).trans rfl
   clear hF203
   refine then_normal ?_
   refine wq_exit ?_
   refine in_here ?_
   refine then_normal ?_
   refine wq_seq ?_
   refine wq_region ?_
   refine wl_v (.int .i64 (((0) + (atF (f) (p) ((u + 1) / 2) ((v + 1) / 2))) + (atF (f) (p) (u / 2) (v / 2)))) rfl rfl (y_mov rfl s207 ⟨rfl, rfl⟩) ?_
   refine wl_v (.int .i64 (u % 2)) rfl rfl (y_mov rfl s205 ⟨rfl, rfl⟩) ?_
   refine wl_v (.int .i64 (v % 2)) rfl rfl (y_mov rfl s206 ⟨rfl, rfl⟩) ?_
   refine wl_v (.int .i64 (((N : Nat) : Int))) rfl rfl (y_add rfl rfl rfl (i64_i hN.symm (by omega)) ⟨rfl, rfl⟩) ?_
   refine wl_v (.int .i64 (M)) rfl rfl (y_shlR (N) rfl rfl rfl ((by rcases hM2 with ⟨h1, h2⟩ | ⟨h1, h2⟩ | ⟨h1, h2⟩ <;> subst h1 <;> rw [h2] <;> rfl)) ⟨rfl, rfl⟩) ?_
   refine wl_call (R := fun v_ w_ => v_ = .int .i64 (mid f p u v) ∧ Kept (fun _ => False) w195 w_) rfl rfl (y_cs rfl rfl rfl (fun _ _ => by kernel_rfl) (ev_func _) (vsC rfl (vsC rfl vsN)) (mo_mean (((0) + (atF (f) (p) ((u + 1) / 2) ((v + 1) / 2))) + (atF (f) (p) (u / 2) (v / 2))) (M)  _ (by omega) (by omega)  ) (fun e_ w_ h_ => ⟨_, h_.1, congrArg (Value.int .i64) (by first | (rw [(by omega : M = 4)]; have e := mid_none (f := f) (p := p) (u := u) (v := v) (by omega) (by omega); omega) | (rw [(by omega : M = 2)]; rcases (by omega : u % 2 = 0 ∨ v % 2 = 0) with h0 | h0; (have e := mid_down (f := f) (p := p) (u := u) (v := v) (by omega) (by omega); rw [show (u + 1) / 2 = u / 2 by omega]; omega); (have e := mid_side (f := f) (p := p) (u := u) (v := v) (by omega) (by omega); rw [show (v + 1) / 2 = v / 2 by omega]; omega)) | (rw [(by omega : M = 1)]; have e := mid_both (f := f) (p := p) (u := u) (v := v) (by omega) (by omega); omega)), h_.2⟩)) ?_
   rintro _ w208 ⟨rfl, k209⟩
   have K214 := K201.trans k209 (fun _ _ x => x.elim)
   refine wl_v (.int .i64 (mid f p u v)) rfl rfl (y_asg rfl rfl ⟨rfl, rfl⟩) ?_
   refine wl_nil fun F215 hF216 => ?_
   have s217 := (hF216 72).trans s204
   have s218 : F215 8 = .int .i64 (mid f p u v) := (hF216 8).trans rfl
   clear hF216
   refine then_normal ?_
   refine wq_ret ?_
   exact end_tmp (v := .int .i64 (mid f p u v)) s217 rfl rfl s218 ⟨(by rw [hm]), K214⟩
  ·replace c177 := of_decide_eq_false c177
   refine wq_skip ?_
   refine then_normal ?_
   refine wq_exit ?_
   refine in_other (by decide) ?_
   refine then_exit ?_
   refine in_other (by decide) ?_
   refine then_exit ?_
   refine in_here ?_
   refine then_normal ?_
   refine wq_seq ?_
   refine wq_region ?_
   refine wl_v (.int .i64 (0)) rfl rfl (y_mov rfl s175 ⟨rfl, rfl⟩) ?_
   refine wl_v (.agg #[.int .i64 ((f).W), .int .i64 ((f).H), f0, f1, f2]) rfl rfl (y_load_stc stcT_frame rfl s170 B33 ⟨rfl, rfl⟩) ?_
   refine wl_v (.int .i64 (p)) rfl rfl (y_mov rfl s168 ⟨rfl, rfl⟩) ?_
   refine wl_v (.int .i64 (u / 2)) rfl rfl (y_mov rfl s171 ⟨rfl, rfl⟩) ?_
   refine wl_v (.int .i64 (v / 2)) rfl rfl (y_mov rfl s172 ⟨rfl, rfl⟩) ?_
   refine wl_call (R := fun v_ w_ => v_ = .int .i64 (atF (f) (p) (u / 2) (v / 2)) ∧ Kept (fun _ => False) w28 w_) rfl rfl (y_cs rfl rfl rfl (fun _ _ => by kernel_rfl) (ev_func _) (vsC rfl (vsC rfl (vsC rfl (vsC rfl vsN)))) (pl_at (p) (u / 2) (v / 2) (f) (f0) (f1) (f2) (T_f0) (T_f1) (T_f2) _  B30 B31 B32 ) (fun e_ w_ h_ => ⟨_, h_.1, rfl, h_.2⟩)) ?_
   rintro _ w219 ⟨rfl, k220⟩
   have K225 := K34.trans k220 (fun _ _ x => x.elim)
   refine wl_v (.int .i64 ((0) + (atF (f) (p) (u / 2) (v / 2)))) rfl rfl (y_add rfl rfl rfl (i64_i rfl (by omega)) ⟨rfl, rfl⟩) ?_
   refine wl_v (.int .i64 ((0) + (atF (f) (p) (u / 2) (v / 2)))) rfl rfl (y_asg rfl rfl ⟨rfl, rfl⟩) ?_
   refine wl_nil fun F226 hF227 => ?_
   have s228 := (hF227 72).trans s169
   have s229 := (hF227 11).trans s173
   have s230 := (hF227 12).trans s174
   have s231 : F226 13 = .int .i64 ((0) + (atF (f) (p) (u / 2) (v / 2))) := (hF227 13).trans rfl
   clear hF227
   refine then_normal ?_
   refine wq_exit ?_
   refine in_here ?_
   refine then_normal ?_
   refine wq_seq ?_
   refine wq_region ?_
   refine wl_v (.int .i64 ((0) + (atF (f) (p) (u / 2) (v / 2)))) rfl rfl (y_mov rfl s231 ⟨rfl, rfl⟩) ?_
   refine wl_v (.int .i64 (u % 2)) rfl rfl (y_mov rfl s229 ⟨rfl, rfl⟩) ?_
   refine wl_v (.int .i64 (v % 2)) rfl rfl (y_mov rfl s230 ⟨rfl, rfl⟩) ?_
   refine wl_v (.int .i64 (((N : Nat) : Int))) rfl rfl (y_add rfl rfl rfl (i64_i hN.symm (by omega)) ⟨rfl, rfl⟩) ?_
   refine wl_v (.int .i64 (M)) rfl rfl (y_shlR (N) rfl rfl rfl ((by rcases hM2 with ⟨h1, h2⟩ | ⟨h1, h2⟩ | ⟨h1, h2⟩ <;> subst h1 <;> rw [h2] <;> rfl)) ⟨rfl, rfl⟩) ?_
   refine wl_call (R := fun v_ w_ => v_ = .int .i64 (mid f p u v) ∧ Kept (fun _ => False) w219 w_) rfl rfl (y_cs rfl rfl rfl (fun _ _ => by kernel_rfl) (ev_func _) (vsC rfl (vsC rfl vsN)) (mo_mean ((0) + (atF (f) (p) (u / 2) (v / 2))) (M)  _ (by omega) (by omega)  ) (fun e_ w_ h_ => ⟨_, h_.1, congrArg (Value.int .i64) (by first | (rw [(by omega : M = 4)]; have e := mid_none (f := f) (p := p) (u := u) (v := v) (by omega) (by omega); omega) | (rw [(by omega : M = 2)]; rcases (by omega : u % 2 = 0 ∨ v % 2 = 0) with h0 | h0; (have e := mid_down (f := f) (p := p) (u := u) (v := v) (by omega) (by omega); rw [show (u + 1) / 2 = u / 2 by omega]; omega); (have e := mid_side (f := f) (p := p) (u := u) (v := v) (by omega) (by omega); rw [show (v + 1) / 2 = v / 2 by omega]; omega)) | (rw [(by omega : M = 1)]; have e := mid_both (f := f) (p := p) (u := u) (v := v) (by omega) (by omega); omega)), h_.2⟩)) ?_
   rintro _ w232 ⟨rfl, k233⟩
   have K238 := K225.trans k233 (fun _ _ x => x.elim)
   refine wl_v (.int .i64 (mid f p u v)) rfl rfl (y_asg rfl rfl ⟨rfl, rfl⟩) ?_
   refine wl_nil fun F239 hF240 => ?_
   have s241 := (hF240 72).trans s228
   have s242 : F239 8 = .int .i64 (mid f p u v) := (hF240 8).trans rfl
   clear hF240
   refine then_normal ?_
   refine wq_ret ?_
   exact end_tmp (v := .int .i64 (mid f p u v)) s241 rfl rfl s242 ⟨(by rw [hm]), K238⟩
set_option maxHeartbeats 4000000 in
set_option maxRecDepth 100000 in
theorem mo_predict (p x y X Y : Int) (f : FD) (f0 f1 f2 : Value) (T_f0 : Nat → Prop) (T_f1 : Nat → Prop) (T_f2 : Nat → Prop) (w0 : World) (h_f0 : Byt w0 T_f0 f0 ((f).p0)) (h_f1 : Byt w0 T_f1 f1 ((f).p1)) (h_f2 : Byt w0 T_f2 f2 ((f).p2)) :
  Calls Tryd.prog 69 #[.agg #[.int .i64 ((f).W), .int .i64 ((f).H), f0, f1, f2], .int .i64 (p), .int .i64 (x), .int .i64 (y), .agg #[.int .i64 (X), .int .i64 (Y)]] w0 fun e w' => e = .returned (.tuple #[blkV (mvB f p x y X Y), .int .i64 (mvE f p x y X Y)]) ∧ Kept (fun _ => False) w0 w' := by
 refine calls_wq (args := [.agg #[.int .i64 ((f).W), .int .i64 ((f).H), f0, f1, f2], .int .i64 (p), .int .i64 (x), .int .i64 (y), .agg #[.int .i64 (X), .int .i64 (Y)]]) 69 Tryd.func69 rfl rfl (Nat.le_of_ble_eq_true rfl) ?_
 have K0 := Kept.refl (fun _ => False) w0
 have g_f0 := Grew.refl w0 T_f0
 have g_f1 := Grew.refl w0 T_f1
 have g_f2 := Grew.refl w0 T_f2
 refine wq_seq ?_
 refine wq_region ?_
 refine wl_box_stc (vs := [.int .i64 ((f).W), .int .i64 ((f).H), f0, f1, f2]) rfl rfl rfl rfl fun p1 w2 B4 g5 k3 => ?_
 have B10 := h_f0.all k3 Apart.none
 have B11 := h_f1.all k3 Apart.none
 have B12 := h_f2.all k3 Apart.none
 have K13 := K0.trans k3 (fun _ _ x => x.elim)
 refine wl_box_stc (vs := [.int .i64 (X), .int .i64 (Y)]) rfl rfl rfl rfl fun p14 w15 B17 g18 k16 => ?_
 have B24 := B10.all k16 Apart.none
 have B25 := B11.all k16 Apart.none
 have B26 := B12.all k16 Apart.none
 have B27 := B4.all k16 id
 have K28 := K13.trans k16 (fun _ _ x => x.elim)
 refine wl_alloc_blk rfl rfl rfl blkT_block.2.2 fun p29 w30 e33 B31 k32 => ?_
 have g34 := onB_new (Nat.le_of_eq e33.symm)
 have gr35 : Grew w0 noB (onB p29) := Grew.new K28 g34
 clear e33 g34
 have B41 := B24.all k32 Apart.none
 have B42 := B25.all k32 Apart.none
 have B43 := B26.all k32 Apart.none
 have B44 := B27.all k32 id
 have B45 := B17.all k32 id
 have K46 := K28.trans k32 (fun _ _ x => x.elim)
 refine wl_v (.int .i64 (0)) rfl rfl (y_asg rfl rfl ⟨rfl, rfl⟩) ?_
 refine wl_nil fun F47 hF48 => ?_
 have s49 : F47 1 = .int .i64 (p) := (hF48 1).trans rfl
 have s50 : F47 2 = .int .i64 (x) := (hF48 2).trans rfl
 have s51 : F47 3 = .int .i64 (y) := (hF48 3).trans rfl
 have s52 : F47 69 = undef := (hF48 69).trans rfl
 have s53 : F47 5 = .pointer (some ⟨p1, 0, none⟩) := (hF48 5).trans rfl
 have s54 : F47 9 = .pointer (some ⟨p14, 0, none⟩) := (hF48 9).trans rfl
 have s55 : F47 10 = .pointer (some ⟨p29, 0, none⟩) := (hF48 10).trans rfl
 clear hF48
 refine then_normal ?_
 refine wq_seq ?_
 refine wq_seq ?_
 by_cases d56 : (checkE (f)) ≠ (0)
 ·skip
  refine wq_region ?_
  refine wl_v (.agg #[.int .i64 ((f).W), .int .i64 ((f).H), f0, f1, f2]) rfl rfl (y_load_stc stcT_frame rfl s53 B44 ⟨rfl, rfl⟩) ?_
  refine wl_call (R := fun v_ w_ => v_ = .int .i64 (checkE (f)) ∧ Kept (fun _ => False) w30 w_) rfl rfl (y_cs rfl rfl rfl (fun _ _ => by kernel_rfl) (ev_func _) (vsC rfl vsN) (pl_check (f) (f0) (f1) (f2) (T_f0) (T_f1) (T_f2) _  B41 B42 B43 ) (fun e_ w_ h_ => ⟨_, h_.1, rfl, h_.2⟩)) ?_
  rintro _ w57 ⟨rfl, k58⟩
  have B64 := B31.all k58 id
  have K65 := K46.trans k58 (fun _ _ x => x.elim)
  refine wl_v (.bool true) rfl rfl (y_neqI rfl rfl rfl (decide_eq_true d56) ⟨rfl, rfl⟩) ?_
  refine wl_v (.bool true) rfl rfl (y_mov rfl rfl ⟨rfl, rfl⟩) ?_
  refine wl_unless 3 false 18 rfl rfl rfl (Or.inl rfl) rfl ?_
  refine wl_unless 3 false 18 rfl rfl rfl (Or.inl rfl) rfl ?_
  refine wl_v (.bool true) rfl rfl (y_pickT rfl rfl rfl ⟨rfl, rfl⟩) ?_
  refine wl_v (.bool true) rfl rfl (y_mov rfl rfl ⟨rfl, rfl⟩) ?_
  refine wl_unless 7 false 22 rfl rfl rfl (Or.inl rfl) rfl ?_
  refine wl_unless 7 false 22 rfl rfl rfl (Or.inl rfl) rfl ?_
  refine wl_v (.bool true) rfl rfl (y_pickT rfl rfl rfl ⟨rfl, rfl⟩) ?_
  refine wl_v (.bool true) rfl rfl (y_mov rfl rfl ⟨rfl, rfl⟩) ?_
  refine wl_unless 11 false 26 rfl rfl rfl (Or.inl rfl) rfl ?_
  refine wl_unless 11 false 26 rfl rfl rfl (Or.inl rfl) rfl ?_
  refine wl_unless 11 false 26 rfl rfl rfl (Or.inl rfl) rfl ?_
  refine wl_v (.bool true) rfl rfl (y_pickT rfl rfl rfl ⟨rfl, rfl⟩) ?_
  refine wl_v (.bool true) rfl rfl (y_mov rfl rfl ⟨rfl, rfl⟩) ?_
  refine wl_unless 16 false 31 rfl rfl rfl (Or.inl rfl) rfl ?_
  refine wl_unless 16 false 31 rfl rfl rfl (Or.inl rfl) rfl ?_
  refine wl_unless 16 false 31 rfl rfl rfl (Or.inl rfl) rfl ?_
  refine wl_v (.bool true) rfl rfl (y_pickT rfl rfl rfl ⟨rfl, rfl⟩) ?_
  refine wl_nil fun F66 hF67 => ?_
  have s71 := (hF67 69).trans s52
  have s74 := (hF67 10).trans s55
  have s75 : F66 35 = .bool true := (hF67 35).trans rfl
  clear hF67
  refine then_normal ?_
  refine wq_cond (t := true) s75 (fun _ => ?_) (fun e => by cases e)
  refine wq_seq ?_
  have hno : ¬ placeF f p x y := by rintro ⟨h1, h2, h3, h4, h5, h6, h7⟩; first | exact absurd ((checkE_iff f).2 h1) (by assumption) | omega
  refine wq_region ?_
  refine wl_v (blkV (fun _ => 0)) rfl rfl (y_buildR (cells := (arrL 16 (fun _ => 0)).toArray) rfl (by kernel_rfl) rfl ⟨rfl, rfl⟩) ?_
  refine wl_store_blk blkT_block rfl rfl rfl s74 rfl B64 fun w76 B77 k78 => ?_
  have K84 := K65.trans k78 (Grew.ok (S := fun _ => False) gr35 noB_le)
  refine wl_v (.int .i64 (70)) rfl rfl (y_asg rfl rfl ⟨rfl, rfl⟩) ?_
  refine wl_nil fun F85 hF86 => ?_
  have s87 := (hF86 69).trans s71
  have s88 := (hF86 10).trans s74
  have s89 : F85 11 = .int .i64 (70) := (hF86 11).trans rfl
  clear hF86
  refine then_normal ?_
  refine wq_ret ?_
  refine then_ret ?_
  exact end_2 s87 rfl (res_blk blkT_block rfl s88 B77) (res_tmp (v := .int .i64 (70)) rfl s89) ⟨(by first | rw [(mv_no hno).1, (mv_no hno).2] | rw [(mv_none hpl hvn).1, (mv_none hpl hvn).2, vecE_no hvn] | rw [(mv_yes hpl hv).1, (mv_yes hpl hv).2]), K84⟩
 ·skip
  by_cases d90 : (p) < (0)
  ·skip
   refine wq_region ?_
   refine wl_v (.agg #[.int .i64 ((f).W), .int .i64 ((f).H), f0, f1, f2]) rfl rfl (y_load_stc stcT_frame rfl s53 B44 ⟨rfl, rfl⟩) ?_
   refine wl_call (R := fun v_ w_ => v_ = .int .i64 (checkE (f)) ∧ Kept (fun _ => False) w30 w_) rfl rfl (y_cs rfl rfl rfl (fun _ _ => by kernel_rfl) (ev_func _) (vsC rfl vsN) (pl_check (f) (f0) (f1) (f2) (T_f0) (T_f1) (T_f2) _  B41 B42 B43 ) (fun e_ w_ h_ => ⟨_, h_.1, rfl, h_.2⟩)) ?_
   rintro _ w91 ⟨rfl, k92⟩
   have B98 := B31.all k92 id
   have K99 := K46.trans k92 (fun _ _ x => x.elim)
   refine wl_v (.bool false) rfl rfl (y_neqI rfl rfl rfl (decide_eq_false d56) ⟨rfl, rfl⟩) ?_
   refine wl_v (.bool false) rfl rfl (y_mov rfl rfl ⟨rfl, rfl⟩) ?_
   refine wl_vw (.int .i64 (p)) 3 false 18 rfl rfl rfl rfl rfl (y_mov rfl s49 ⟨rfl, rfl⟩) ?_
   refine wl_vw (.bool true) 3 false 18 rfl rfl rfl rfl rfl (y_lss rfl rfl rfl (decide_eq_true d90) ⟨rfl, rfl⟩) ?_
   refine wl_v (.bool true) rfl rfl (y_pickF rfl rfl rfl ⟨rfl, rfl⟩) ?_
   refine wl_v (.bool true) rfl rfl (y_mov rfl rfl ⟨rfl, rfl⟩) ?_
   refine wl_unless 7 false 22 rfl rfl rfl (Or.inl rfl) rfl ?_
   refine wl_unless 7 false 22 rfl rfl rfl (Or.inl rfl) rfl ?_
   refine wl_v (.bool true) rfl rfl (y_pickT rfl rfl rfl ⟨rfl, rfl⟩) ?_
   refine wl_v (.bool true) rfl rfl (y_mov rfl rfl ⟨rfl, rfl⟩) ?_
   refine wl_unless 11 false 26 rfl rfl rfl (Or.inl rfl) rfl ?_
   refine wl_unless 11 false 26 rfl rfl rfl (Or.inl rfl) rfl ?_
   refine wl_unless 11 false 26 rfl rfl rfl (Or.inl rfl) rfl ?_
   refine wl_v (.bool true) rfl rfl (y_pickT rfl rfl rfl ⟨rfl, rfl⟩) ?_
   refine wl_v (.bool true) rfl rfl (y_mov rfl rfl ⟨rfl, rfl⟩) ?_
   refine wl_unless 16 false 31 rfl rfl rfl (Or.inl rfl) rfl ?_
   refine wl_unless 16 false 31 rfl rfl rfl (Or.inl rfl) rfl ?_
   refine wl_unless 16 false 31 rfl rfl rfl (Or.inl rfl) rfl ?_
   refine wl_v (.bool true) rfl rfl (y_pickT rfl rfl rfl ⟨rfl, rfl⟩) ?_
   refine wl_nil fun F100 hF101 => ?_
   have s105 := (hF101 69).trans s52
   have s108 := (hF101 10).trans s55
   have s109 : F100 35 = .bool true := (hF101 35).trans rfl
   clear hF101
   refine then_normal ?_
   refine wq_cond (t := true) s109 (fun _ => ?_) (fun e => by cases e)
   refine wq_seq ?_
   have hno : ¬ placeF f p x y := by rintro ⟨h1, h2, h3, h4, h5, h6, h7⟩; first | exact absurd ((checkE_iff f).2 h1) (by assumption) | omega
   refine wq_region ?_
   refine wl_v (blkV (fun _ => 0)) rfl rfl (y_buildR (cells := (arrL 16 (fun _ => 0)).toArray) rfl (by kernel_rfl) rfl ⟨rfl, rfl⟩) ?_
   refine wl_store_blk blkT_block rfl rfl rfl s108 rfl B98 fun w110 B111 k112 => ?_
   have K118 := K99.trans k112 (Grew.ok (S := fun _ => False) gr35 noB_le)
   refine wl_v (.int .i64 (70)) rfl rfl (y_asg rfl rfl ⟨rfl, rfl⟩) ?_
   refine wl_nil fun F119 hF120 => ?_
   have s121 := (hF120 69).trans s105
   have s122 := (hF120 10).trans s108
   have s123 : F119 11 = .int .i64 (70) := (hF120 11).trans rfl
   clear hF120
   refine then_normal ?_
   refine wq_ret ?_
   refine then_ret ?_
   exact end_2 s121 rfl (res_blk blkT_block rfl s122 B111) (res_tmp (v := .int .i64 (70)) rfl s123) ⟨(by first | rw [(mv_no hno).1, (mv_no hno).2] | rw [(mv_none hpl hvn).1, (mv_none hpl hvn).2, vecE_no hvn] | rw [(mv_yes hpl hv).1, (mv_yes hpl hv).2]), K118⟩
  ·skip
   by_cases d124 : (3) ≤ (p)
   ·skip
    refine wq_region ?_
    refine wl_v (.agg #[.int .i64 ((f).W), .int .i64 ((f).H), f0, f1, f2]) rfl rfl (y_load_stc stcT_frame rfl s53 B44 ⟨rfl, rfl⟩) ?_
    refine wl_call (R := fun v_ w_ => v_ = .int .i64 (checkE (f)) ∧ Kept (fun _ => False) w30 w_) rfl rfl (y_cs rfl rfl rfl (fun _ _ => by kernel_rfl) (ev_func _) (vsC rfl vsN) (pl_check (f) (f0) (f1) (f2) (T_f0) (T_f1) (T_f2) _  B41 B42 B43 ) (fun e_ w_ h_ => ⟨_, h_.1, rfl, h_.2⟩)) ?_
    rintro _ w125 ⟨rfl, k126⟩
    have B132 := B31.all k126 id
    have K133 := K46.trans k126 (fun _ _ x => x.elim)
    refine wl_v (.bool false) rfl rfl (y_neqI rfl rfl rfl (decide_eq_false d56) ⟨rfl, rfl⟩) ?_
    refine wl_v (.bool false) rfl rfl (y_mov rfl rfl ⟨rfl, rfl⟩) ?_
    refine wl_vw (.int .i64 (p)) 3 false 18 rfl rfl rfl rfl rfl (y_mov rfl s49 ⟨rfl, rfl⟩) ?_
    refine wl_vw (.bool false) 3 false 18 rfl rfl rfl rfl rfl (y_lss rfl rfl rfl (decide_eq_false d90) ⟨rfl, rfl⟩) ?_
    refine wl_v (.bool false) rfl rfl (y_pickF rfl rfl rfl ⟨rfl, rfl⟩) ?_
    refine wl_v (.bool false) rfl rfl (y_mov rfl rfl ⟨rfl, rfl⟩) ?_
    refine wl_vw (.int .i64 (p)) 7 false 22 rfl rfl rfl rfl rfl (y_mov rfl s49 ⟨rfl, rfl⟩) ?_
    refine wl_vw (.bool true) 7 false 22 rfl rfl rfl rfl rfl (y_geq rfl rfl rfl (decide_eq_true d124) ⟨rfl, rfl⟩) ?_
    refine wl_v (.bool true) rfl rfl (y_pickF rfl rfl rfl ⟨rfl, rfl⟩) ?_
    refine wl_v (.bool true) rfl rfl (y_mov rfl rfl ⟨rfl, rfl⟩) ?_
    refine wl_unless 11 false 26 rfl rfl rfl (Or.inl rfl) rfl ?_
    refine wl_unless 11 false 26 rfl rfl rfl (Or.inl rfl) rfl ?_
    refine wl_unless 11 false 26 rfl rfl rfl (Or.inl rfl) rfl ?_
    refine wl_v (.bool true) rfl rfl (y_pickT rfl rfl rfl ⟨rfl, rfl⟩) ?_
    refine wl_v (.bool true) rfl rfl (y_mov rfl rfl ⟨rfl, rfl⟩) ?_
    refine wl_unless 16 false 31 rfl rfl rfl (Or.inl rfl) rfl ?_
    refine wl_unless 16 false 31 rfl rfl rfl (Or.inl rfl) rfl ?_
    refine wl_unless 16 false 31 rfl rfl rfl (Or.inl rfl) rfl ?_
    refine wl_v (.bool true) rfl rfl (y_pickT rfl rfl rfl ⟨rfl, rfl⟩) ?_
    refine wl_nil fun F134 hF135 => ?_
    have s139 := (hF135 69).trans s52
    have s142 := (hF135 10).trans s55
    have s143 : F134 35 = .bool true := (hF135 35).trans rfl
    clear hF135
    refine then_normal ?_
    refine wq_cond (t := true) s143 (fun _ => ?_) (fun e => by cases e)
    refine wq_seq ?_
    have hno : ¬ placeF f p x y := by rintro ⟨h1, h2, h3, h4, h5, h6, h7⟩; first | exact absurd ((checkE_iff f).2 h1) (by assumption) | omega
    refine wq_region ?_
    refine wl_v (blkV (fun _ => 0)) rfl rfl (y_buildR (cells := (arrL 16 (fun _ => 0)).toArray) rfl (by kernel_rfl) rfl ⟨rfl, rfl⟩) ?_
    refine wl_store_blk blkT_block rfl rfl rfl s142 rfl B132 fun w144 B145 k146 => ?_
    have K152 := K133.trans k146 (Grew.ok (S := fun _ => False) gr35 noB_le)
    refine wl_v (.int .i64 (70)) rfl rfl (y_asg rfl rfl ⟨rfl, rfl⟩) ?_
    refine wl_nil fun F153 hF154 => ?_
    have s155 := (hF154 69).trans s139
    have s156 := (hF154 10).trans s142
    have s157 : F153 11 = .int .i64 (70) := (hF154 11).trans rfl
    clear hF154
    refine then_normal ?_
    refine wq_ret ?_
    refine then_ret ?_
    exact end_2 s155 rfl (res_blk blkT_block rfl s156 B145) (res_tmp (v := .int .i64 (70)) rfl s157) ⟨(by first | rw [(mv_no hno).1, (mv_no hno).2] | rw [(mv_none hpl hvn).1, (mv_none hpl hvn).2, vecE_no hvn] | rw [(mv_yes hpl hv).1, (mv_yes hpl hv).2]), K152⟩
   ·skip
    by_cases d158 : 0 ≤ (x) ∧ (x) ≤ 64
    ·skip
     by_cases d159 : 0 ≤ (y) ∧ (y) ≤ 64
     ·skip
      refine wq_region ?_
      refine wl_v (.agg #[.int .i64 ((f).W), .int .i64 ((f).H), f0, f1, f2]) rfl rfl (y_load_stc stcT_frame rfl s53 B44 ⟨rfl, rfl⟩) ?_
      refine wl_call (R := fun v_ w_ => v_ = .int .i64 (checkE (f)) ∧ Kept (fun _ => False) w30 w_) rfl rfl (y_cs rfl rfl rfl (fun _ _ => by kernel_rfl) (ev_func _) (vsC rfl vsN) (pl_check (f) (f0) (f1) (f2) (T_f0) (T_f1) (T_f2) _  B41 B42 B43 ) (fun e_ w_ h_ => ⟨_, h_.1, rfl, h_.2⟩)) ?_
      rintro _ w160 ⟨rfl, k161⟩
      have B162 := B41.all k161 Apart.none
      have B163 := B42.all k161 Apart.none
      have B164 := B43.all k161 Apart.none
      have B165 := B44.all k161 id
      have B166 := B45.all k161 id
      have B167 := B31.all k161 id
      have K168 := K46.trans k161 (fun _ _ x => x.elim)
      refine wl_v (.bool false) rfl rfl (y_neqI rfl rfl rfl (decide_eq_false d56) ⟨rfl, rfl⟩) ?_
      refine wl_v (.bool false) rfl rfl (y_mov rfl rfl ⟨rfl, rfl⟩) ?_
      refine wl_vw (.int .i64 (p)) 3 false 18 rfl rfl rfl rfl rfl (y_mov rfl s49 ⟨rfl, rfl⟩) ?_
      refine wl_vw (.bool false) 3 false 18 rfl rfl rfl rfl rfl (y_lss rfl rfl rfl (decide_eq_false d90) ⟨rfl, rfl⟩) ?_
      refine wl_v (.bool false) rfl rfl (y_pickF rfl rfl rfl ⟨rfl, rfl⟩) ?_
      refine wl_v (.bool false) rfl rfl (y_mov rfl rfl ⟨rfl, rfl⟩) ?_
      refine wl_vw (.int .i64 (p)) 7 false 22 rfl rfl rfl rfl rfl (y_mov rfl s49 ⟨rfl, rfl⟩) ?_
      refine wl_vw (.bool false) 7 false 22 rfl rfl rfl rfl rfl (y_geq rfl rfl rfl (decide_eq_false d124) ⟨rfl, rfl⟩) ?_
      refine wl_v (.bool false) rfl rfl (y_pickF rfl rfl rfl ⟨rfl, rfl⟩) ?_
      refine wl_v (.bool false) rfl rfl (y_mov rfl rfl ⟨rfl, rfl⟩) ?_
      refine wl_vw (.int .i64 (x)) 11 false 26 rfl rfl rfl rfl rfl (y_mov rfl s50 ⟨rfl, rfl⟩) ?_
      refine wl_callw (R := fun v_ w_ => v_ = .bool true ∧ Kept (fun _ => False) w160 w_) 11 false 26 rfl rfl rfl rfl rfl (y_cs rfl rfl rfl (fun _ _ => by kernel_rfl) (ev_func _) (vsC rfl vsN) (mo_mayPlace (x)  _   ) (fun e_ w_ h_ => ⟨_, h_.1, (congrArg Value.bool (decide_eq_true d158)), h_.2⟩)) ?_
      rintro _ w169 ⟨rfl, k170⟩
      have B171 := B162.all k170 Apart.none
      have B172 := B163.all k170 Apart.none
      have B173 := B164.all k170 Apart.none
      have B174 := B165.all k170 id
      have B175 := B166.all k170 id
      have B176 := B167.all k170 id
      have K177 := K168.trans k170 (fun _ _ x => x.elim)
      refine wl_vw (.bool false) 11 false 26 rfl rfl rfl rfl rfl (y_not rfl rfl rfl ⟨rfl, rfl⟩) ?_
      refine wl_v (.bool false) rfl rfl (y_pickF rfl rfl rfl ⟨rfl, rfl⟩) ?_
      refine wl_v (.bool false) rfl rfl (y_mov rfl rfl ⟨rfl, rfl⟩) ?_
      refine wl_vw (.int .i64 (y)) 16 false 31 rfl rfl rfl rfl rfl (y_mov rfl s51 ⟨rfl, rfl⟩) ?_
      refine wl_callw (R := fun v_ w_ => v_ = .bool true ∧ Kept (fun _ => False) w169 w_) 16 false 31 rfl rfl rfl rfl rfl (y_cs rfl rfl rfl (fun _ _ => by kernel_rfl) (ev_func _) (vsC rfl vsN) (mo_mayPlace (y)  _   ) (fun e_ w_ h_ => ⟨_, h_.1, (congrArg Value.bool (decide_eq_true d159)), h_.2⟩)) ?_
      rintro _ w178 ⟨rfl, k179⟩
      have B180 := B171.all k179 Apart.none
      have B181 := B172.all k179 Apart.none
      have B182 := B173.all k179 Apart.none
      have B183 := B174.all k179 id
      have B184 := B175.all k179 id
      have B185 := B176.all k179 id
      have K186 := K177.trans k179 (fun _ _ x => x.elim)
      refine wl_vw (.bool false) 16 false 31 rfl rfl rfl rfl rfl (y_not rfl rfl rfl ⟨rfl, rfl⟩) ?_
      refine wl_v (.bool false) rfl rfl (y_pickF rfl rfl rfl ⟨rfl, rfl⟩) ?_
      refine wl_nil fun F187 hF188 => ?_
      have s189 := (hF188 1).trans s49
      have s190 := (hF188 2).trans s50
      have s191 := (hF188 3).trans s51
      have s192 := (hF188 69).trans s52
      have s193 := (hF188 5).trans s53
      have s194 := (hF188 9).trans s54
      have s195 := (hF188 10).trans s55
      have s196 : F187 35 = .bool false := (hF188 35).trans rfl
      clear hF188
      refine then_normal ?_
      refine wq_cond (t := false) s196 (fun e => by cases e) (fun _ => ?_)
      refine wq_skip ?_
      refine then_normal ?_
      refine wq_seq ?_
      refine wq_seq ?_
      have hpl : placeF f p x y := ⟨(checkE_iff f).1 (by first | assumption | (apply Decidable.byContradiction; assumption)), by omega, by omega, by omega, by omega, by omega, by omega⟩
      refine wq_region ?_
      refine wl_v (.agg #[.int .i64 (X), .int .i64 (Y)]) rfl rfl (y_load_stc stcT_vector rfl s194 B184 ⟨rfl, rfl⟩) ?_
      refine wl_call (R := fun v_ w_ => v_ = .int .i64 (vecE (X) (Y)) ∧ Kept (fun _ => False) w178 w_) rfl rfl (y_cs rfl rfl rfl (fun _ _ => by kernel_rfl) (ev_func _) (vsC rfl vsN) (mo_check (X) (Y)  _   ) (fun e_ w_ h_ => ⟨_, h_.1, rfl, h_.2⟩)) ?_
      rintro _ w197 ⟨rfl, k198⟩
      have B199 := B180.all k198 Apart.none
      have B200 := B181.all k198 Apart.none
      have B201 := B182.all k198 Apart.none
      have B202 := B183.all k198 id
      have B203 := B184.all k198 id
      have B204 := B185.all k198 id
      have K205 := K186.trans k198 (fun _ _ x => x.elim)
      refine wl_v (.int .i64 (vecE (X) (Y))) rfl rfl (y_asg rfl rfl ⟨rfl, rfl⟩) ?_
      refine wl_nil fun F206 hF207 => ?_
      have s208 := (hF207 1).trans s189
      have s209 := (hF207 2).trans s190
      have s210 := (hF207 3).trans s191
      have s211 := (hF207 69).trans s192
      have s212 := (hF207 5).trans s193
      have s213 := (hF207 9).trans s194
      have s214 := (hF207 10).trans s195
      have s215 : F206 12 = .int .i64 (vecE (X) (Y)) := (hF207 12).trans rfl
      clear hF207
      refine then_normal ?_
      refine wq_seq ?_
      refine wq_region ?_
      refine wl_v (.int .i64 (vecE (X) (Y))) rfl rfl (y_mov rfl s215 ⟨rfl, rfl⟩) ?_
      refine wl_v (.bool (decide ((vecE (X) (Y)) ≠ (0)))) rfl rfl (y_neqI rfl rfl rfl rfl ⟨rfl, rfl⟩) ?_
      refine wl_nil fun F216 hF217 => ?_
      have s218 := (hF217 1).trans s208
      have s219 := (hF217 2).trans s209
      have s220 := (hF217 3).trans s210
      have s221 := (hF217 69).trans s211
      have s222 := (hF217 5).trans s212
      have s223 := (hF217 9).trans s213
      have s224 := (hF217 10).trans s214
      have s225 := (hF217 12).trans s215
      have s226 : F216 40 = .bool (decide ((vecE (X) (Y)) ≠ (0))) := (hF217 40).trans rfl
      clear hF217
      refine then_normal ?_
      refine wq_cond s226 (fun c227 => ?_) (fun c227 => ?_)
      ·replace c227 := of_decide_eq_true c227
       refine wq_seq ?_
       have hvn : ¬ vecOk X Y := fun h => absurd ((vecE_iff X Y).2 h) (by assumption)
       refine wq_region ?_
       refine wl_v (blkV (fun _ => 0)) rfl rfl (y_buildR (cells := (arrL 16 (fun _ => 0)).toArray) rfl (by kernel_rfl) rfl ⟨rfl, rfl⟩) ?_
       refine wl_v (.int .i64 (vecE (X) (Y))) rfl rfl (y_mov rfl s225 ⟨rfl, rfl⟩) ?_
       refine wl_store_blk blkT_block rfl rfl rfl s224 rfl B204 fun w228 B229 k230 => ?_
       have K236 := K205.trans k230 (Grew.ok (S := fun _ => False) gr35 noB_le)
       refine wl_v (.int .i64 (vecE (X) (Y))) rfl rfl (y_asg rfl rfl ⟨rfl, rfl⟩) ?_
       refine wl_nil fun F237 hF238 => ?_
       have s239 := (hF238 69).trans s221
       have s240 := (hF238 10).trans s224
       have s241 : F237 11 = .int .i64 (vecE (X) (Y)) := (hF238 11).trans rfl
       clear hF238
       refine then_normal ?_
       refine wq_ret ?_
       refine then_ret ?_
       exact end_2 s239 rfl (res_blk blkT_block rfl s240 B229) (res_tmp (v := .int .i64 (vecE (X) (Y))) rfl s241) ⟨(by first | rw [(mv_no hno).1, (mv_no hno).2] | rw [(mv_none hpl hvn).1, (mv_none hpl hvn).2, vecE_no hvn] | rw [(mv_yes hpl hv).1, (mv_yes hpl hv).2]), K236⟩
      ·replace c227 := of_decide_eq_false c227
       refine wq_skip ?_
       refine then_normal ?_
       refine wq_seq ?_
       have hv : vecOk X Y := (vecE_iff X Y).1 (by first | assumption | (apply Decidable.byContradiction; assumption))
       obtain ⟨hv1, hv2, hv3, hv4⟩ := (show vecOk X Y from hv)
       refine wq_region ?_
       refine wl_alloc_blk rfl rfl rfl blkT_block.2.2 fun p242 w243 e246 B244 k245 => ?_
       have g247 := onB_new (Nat.le_of_eq e246.symm)
       have gr248 : Grew w0 noB (onB p242) := Grew.new K205 g247
       have ap249 : Apart (onB p242) (T_f0) := Apart.new g247 (B199).live
       have ap250 : Apart (onB p242) (T_f1) := Apart.new g247 (B200).live
       have ap251 : Apart (onB p242) (T_f2) := Apart.new g247 (B201).live
       have ap252 : Apart (onB p242) (onB p1) := Apart.new g247 (onB_live (B202).lt)
       have ap253 : Apart (onB p242) (onB p14) := Apart.new g247 (onB_live (B203).lt)
       have ap254 : Apart (onB p242) (onB p29) := Apart.new g247 (onB_live (B204).lt)
       clear e246 g247
       have B255 := B199.all k245 Apart.none
       have B256 := B200.all k245 Apart.none
       have B257 := B201.all k245 Apart.none
       have B258 := B202.all k245 id
       have B259 := B203.all k245 id
       have B260 := B204.all k245 id
       have K261 := K205.trans k245 (fun _ _ x => x.elim)
       refine wl_nil fun F262 hF263 => ?_
       have s264 := (hF263 1).trans s218
       have s265 := (hF263 2).trans s219
       have s266 := (hF263 3).trans s220
       have s267 := (hF263 69).trans s221
       have s268 := (hF263 5).trans s222
       have s269 := (hF263 9).trans s223
       have s270 := (hF263 10).trans s224
       have s271 : F262 13 = .pointer (some ⟨p242, 0, none⟩) := (hF263 13).trans rfl
       clear hF263
       refine then_normal ?_
       refine wq_seq ?_
       refine wq_seq ?_
       refine wq_region ?_
       refine wl_v (.int .i64 (0)) rfl rfl (y_mov rfl rfl ⟨rfl, rfl⟩) ?_
       refine wl_nil fun F272 hF273 => ?_
       have s274 := (hF273 1).trans s264
       have s275 := (hF273 2).trans s265
       have s276 := (hF273 3).trans s266
       have s277 := (hF273 69).trans s267
       have s278 := (hF273 5).trans s268
       have s279 := (hF273 9).trans s269
       have s280 := (hF273 10).trans s270
       have s281 := (hF273 13).trans s271
       have s282 : F272 43 = .int .i64 (0) := (hF273 43).trans rfl
       clear hF273
       refine then_normal ?_
       refine wq_block ?_
       refine wq_loop (fun nn FF ww => ∃ (n : Nat), (n ≤ 16) ∧ nn = 16 - n ∧ FF 1 = .int .i64 (p) ∧ FF 2 = .int .i64 (x) ∧ FF 3 = .int .i64 (y) ∧ FF 5 = .pointer (some ⟨p1, 0, none⟩) ∧ FF 9 = .pointer (some ⟨p14, 0, none⟩) ∧ FF 10 = .pointer (some ⟨p29, 0, none⟩) ∧ FF 13 = .pointer (some ⟨p242, 0, none⟩) ∧ FF 69 = undef ∧ FF 43 = .int .i64 (((n : Nat) : Int)) ∧ Kept (fun _ => False) w0 ww ∧ Byt ww (T_f0) f0 ((f).p0) ∧ Byt ww (T_f1) f1 ((f).p1) ∧ Byt ww (T_f2) f2 ((f).p2) ∧ Stc ww p1 68 [.int .i64 ((f).W), .int .i64 ((f).H), f0, f1, f2] ∧ Stc ww p14 23 [.int .i64 (X), .int .i64 (Y)] ∧ Blk ww p29 25 (fun _ => 0) ∧ Blk ww p242 25 (upto n (fun _ => 0) (mvN f p x y X Y))) (16 - (0)) ⟨0, by omega, rfl, s274, s275, s276, s278, s279, s280, s281, s277, s282, K261, B255, B256, B257, B258, B259, B260, B244.first⟩ ?_
       rintro n286 F283 w284 ⟨n, i287, hn286, s288, s289, s290, s291, s292, s293, s294, s295, s296, K285, B297, B298, B299, B300, B301, B302, B303⟩
       refine wq_seq ?_
       refine wq_region ?_
       refine wl_v (.bool (decide ((((n : Nat) : Int)) < (16)))) rfl rfl (y_lss rfl s296 rfl rfl ⟨rfl, rfl⟩) ?_
       refine wl_nil fun F304 hF305 => ?_
       have s306 := (hF305 1).trans s288
       have s307 := (hF305 2).trans s289
       have s308 := (hF305 3).trans s290
       have s309 := (hF305 5).trans s291
       have s310 := (hF305 9).trans s292
       have s311 := (hF305 10).trans s293
       have s312 := (hF305 13).trans s294
       have s313 := (hF305 69).trans s295
       have s314 := (hF305 43).trans s296
       have s315 : F304 44 = .bool (decide ((((n : Nat) : Int)) < (16))) := (hF305 44).trans rfl
       clear hF305
       refine then_normal ?_
       refine wq_seq ?_
       refine wq_cond s315 (fun c316 => ?_) (fun c316 => ?_)
       ·replace c316 := of_decide_eq_true c316
        refine wq_skip ?_
        refine then_normal ?_
        refine wq_seq ?_
        refine wq_block ?_
        refine wq_seq ?_
        refine wq_region ?_
        refine wl_v (.int .i64 (((n : Nat) : Int))) rfl rfl (y_mov rfl s314 ⟨rfl, rfl⟩) ?_
        refine wl_v (.int .i64 (((n : Nat) : Int))) rfl rfl (y_asg rfl rfl ⟨rfl, rfl⟩) ?_
        refine wl_nil fun F317 hF318 => ?_
        have s319 := (hF318 1).trans s306
        have s320 := (hF318 2).trans s307
        have s321 := (hF318 3).trans s308
        have s322 := (hF318 5).trans s309
        have s323 := (hF318 9).trans s310
        have s324 := (hF318 10).trans s311
        have s325 := (hF318 13).trans s312
        have s326 := (hF318 69).trans s313
        have s327 := (hF318 43).trans s314
        have s328 : F317 14 = .int .i64 (((n : Nat) : Int)) := (hF318 14).trans rfl
        clear hF318
        refine then_normal ?_
        refine wq_region ?_
        refine wl_v (.int .i64 (((n : Nat) : Int))) rfl rfl (y_mov rfl s328 ⟨rfl, rfl⟩) ?_
        refine wl_v (.agg #[.int .i64 ((f).W), .int .i64 ((f).H), f0, f1, f2]) rfl rfl (y_load_stc stcT_frame rfl s322 B300 ⟨rfl, rfl⟩) ?_
        refine wl_v (.int .i64 (p)) rfl rfl (y_mov rfl s319 ⟨rfl, rfl⟩) ?_
        refine wl_v (.int .i64 (x)) rfl rfl (y_mov rfl s320 ⟨rfl, rfl⟩) ?_
        refine wl_v (.int .i64 (((n : Nat) : Int))) rfl rfl (y_mov rfl s328 ⟨rfl, rfl⟩) ?_
        refine wl_v (.int .i64 ((((n % 4) : Nat) : Int))) rfl rfl (y_rem rfl rfl rfl (by first | decide | omega) (rem_nat n 4) ⟨rfl, rfl⟩) ?_
        refine wl_v (.int .i64 ((x) + ((((n % 4) : Nat) : Int)))) rfl rfl (y_add rfl rfl rfl (i64_i rfl (by omega)) ⟨rfl, rfl⟩) ?_
        refine wl_v (.int .i64 ((2) * ((x) + ((((n % 4) : Nat) : Int))))) rfl rfl (y_mul rfl rfl rfl (i64_i rfl (by omega)) ⟨rfl, rfl⟩) ?_
        refine wl_v (.pointer (some ⟨p14, 0, none⟩)) rfl rfl (y_fieldR (n := 1) rfl s323 Tryd.underlying23 rfl (by kernel_rfl) (by decide) rfl ⟨rfl, rfl⟩) ?_
        refine wl_v (.int .i64 (X)) rfl rfl (y_ld_stc rfl rfl Tryd.underlying3 B301 rfl rfl ⟨rfl, rfl⟩) ?_
        refine wl_v (.int .i64 (((2) * ((x) + ((((n % 4) : Nat) : Int)))) + (X))) rfl rfl (y_add rfl rfl rfl (i64_i rfl (by omega)) ⟨rfl, rfl⟩) ?_
        refine wl_v (.int .i64 (y)) rfl rfl (y_mov rfl s321 ⟨rfl, rfl⟩) ?_
        refine wl_v (.int .i64 (((n : Nat) : Int))) rfl rfl (y_mov rfl s328 ⟨rfl, rfl⟩) ?_
        refine wl_v (.int .i64 ((((n / 4) : Nat) : Int))) rfl rfl (y_quo rfl rfl rfl (by first | decide | omega) (i64_n (quo_nat n 4) (by omega)) ⟨rfl, rfl⟩) ?_
        refine wl_v (.int .i64 ((y) + ((((n / 4) : Nat) : Int)))) rfl rfl (y_add rfl rfl rfl (i64_i rfl (by omega)) ⟨rfl, rfl⟩) ?_
        refine wl_v (.int .i64 ((2) * ((y) + ((((n / 4) : Nat) : Int))))) rfl rfl (y_mul rfl rfl rfl (i64_i rfl (by omega)) ⟨rfl, rfl⟩) ?_
        refine wl_v (.pointer (some ⟨p14, 1, none⟩)) rfl rfl (y_fieldR (n := 1) rfl s323 Tryd.underlying23 rfl (by kernel_rfl) (by decide) rfl ⟨rfl, rfl⟩) ?_
        refine wl_v (.int .i64 (Y)) rfl rfl (y_ld_stc rfl rfl Tryd.underlying3 B301 rfl rfl ⟨rfl, rfl⟩) ?_
        refine wl_v (.int .i64 (((2) * ((y) + ((((n / 4) : Nat) : Int)))) + (Y))) rfl rfl (y_add rfl rfl rfl (i64_i rfl (by omega)) ⟨rfl, rfl⟩) ?_
        refine wl_call (R := fun v_ w_ => v_ = .int .i64 (smpF (f) (p) (((2) * ((x) + ((((n % 4) : Nat) : Int)))) + (X)) (((2) * ((y) + ((((n / 4) : Nat) : Int)))) + (Y))) ∧ Kept (fun _ => False) w284 w_) rfl rfl (y_cs rfl rfl rfl (fun _ _ => by kernel_rfl) (ev_func _) (vsC rfl (vsC rfl (vsC rfl (vsC rfl vsN)))) (mo_sample (p) (((2) * ((x) + ((((n % 4) : Nat) : Int)))) + (X)) (((2) * ((y) + ((((n / 4) : Nat) : Int)))) + (Y)) (f) (f0) (f1) (f2) (T_f0) (T_f1) (T_f2) _  B297 B298 B299 ) (fun e_ w_ h_ => ⟨_, h_.1, rfl, h_.2⟩)) ?_
        rintro _ w329 ⟨rfl, k330⟩
        have B331 := B297.all k330 Apart.none
        have B332 := B298.all k330 Apart.none
        have B333 := B299.all k330 Apart.none
        have B334 := B300.all k330 id
        have B335 := B301.all k330 id
        have B336 := B302.all k330 id
        have B337 := B303.all k330 id
        have K338 := K285.trans k330 (fun _ _ x => x.elim)
        refine wl_v (.pointer (some ⟨p242, n, none⟩)) rfl rfl (y_atR (n) (s := 1) rfl s325 rfl (by omega) Tryd.underlying25 (by omega) (by kernel_rfl) (by omega) ⟨rfl, rfl⟩) ?_
        refine wl_set_blk rfl rfl rfl rfl rfl B337 (by omega) (by kernel_rfl) fun w339 B340 k341 => ?_
        have B342 := B331.all k341 (fun i h x => (((ap249).symm) i h x))
        have B343 := B332.all k341 (fun i h x => (((ap250).symm) i h x))
        have B344 := B333.all k341 (fun i h x => (((ap251).symm) i h x))
        have B345 := B334.all k341 (fun x => (((ap252).symm) p1 rfl x))
        have B346 := B335.all k341 (fun x => (((ap253).symm) p14 rfl x))
        have B347 := B336.all k341 (fun x => (((ap254).symm) p29 rfl x))
        have K348 := K338.trans k341 (Grew.ok (S := fun _ => False) gr248 noB_le)
        refine wl_nil fun F349 hF350 => ?_
        have s351 := (hF350 1).trans s319
        have s352 := (hF350 2).trans s320
        have s353 := (hF350 3).trans s321
        have s354 := (hF350 5).trans s322
        have s355 := (hF350 9).trans s323
        have s356 := (hF350 10).trans s324
        have s357 := (hF350 13).trans s325
        have s358 := (hF350 69).trans s326
        have s359 := (hF350 43).trans s327
        clear hF350
        refine in_normal ?_
        refine then_normal ?_
        refine wq_region ?_
        refine wl_v (.int .i64 (((n + 1 : Nat) : Int))) rfl rfl (y_add rfl s359 rfl (i64_n (by omega) (by omega)) ⟨rfl, rfl⟩) ?_
        refine wl_v (.int .i64 (((n + 1 : Nat) : Int))) rfl rfl (y_mov rfl rfl ⟨rfl, rfl⟩) ?_
        refine wl_nil fun F360 hF361 => ?_
        have s362 := (hF361 1).trans s351
        have s363 := (hF361 2).trans s352
        have s364 := (hF361 3).trans s353
        have s365 := (hF361 5).trans s354
        have s366 := (hF361 9).trans s355
        have s367 := (hF361 10).trans s356
        have s368 := (hF361 13).trans s357
        have s369 := (hF361 69).trans s358
        have s370 : F360 43 = .int .i64 (((n + 1 : Nat) : Int)) := (hF361 43).trans rfl
        clear hF361
        exact then_normal ⟨(16 - (n + 1)), by omega, n + 1, by omega, rfl, s362, s363, s364, s365, s366, s367, s368, s369, s370, K348, B342, B343, B344, B345, B346, B347, (B340.next rfl)⟩
       ·replace c316 := of_decide_eq_false c316
        refine wq_exit ?_
        refine then_exit ?_
        refine then_exit ?_
        have l371 : 16 = n := by omega
        subst l371
        have B372 : Blk w284 p242 25 (mvN f p x y X Y) := (B303.last)
        refine in_here ?_
        refine then_normal ?_
        refine wq_seq ?_
        refine wq_region ?_
        refine wl_v (blkV (mvN f p x y X Y)) rfl rfl (y_load_blk blkT_block rfl s312 B372 ⟨rfl, rfl⟩) ?_
        refine wl_store_blk blkT_block rfl rfl rfl s311 rfl B302 fun w373 B374 k375 => ?_
        have K382 := K285.trans k375 (Grew.ok (S := fun _ => False) gr35 noB_le)
        refine wl_v (.int .i64 (0)) rfl rfl (y_asg rfl rfl ⟨rfl, rfl⟩) ?_
        refine wl_nil fun F383 hF384 => ?_
        have s385 := (hF384 10).trans s311
        have s386 := (hF384 69).trans s313
        have s387 : F383 11 = .int .i64 (0) := (hF384 11).trans rfl
        clear hF384
        refine then_normal ?_
        refine wq_ret ?_
        exact end_2 s386 rfl (res_blk blkT_block rfl s385 B374) (res_tmp (v := .int .i64 (0)) rfl s387) ⟨(by first | rw [(mv_no hno).1, (mv_no hno).2] | rw [(mv_none hpl hvn).1, (mv_none hpl hvn).2, vecE_no hvn] | rw [(mv_yes hpl hv).1, (mv_yes hpl hv).2]), K382⟩
     ·skip
      refine wq_region ?_
      refine wl_v (.agg #[.int .i64 ((f).W), .int .i64 ((f).H), f0, f1, f2]) rfl rfl (y_load_stc stcT_frame rfl s53 B44 ⟨rfl, rfl⟩) ?_
      refine wl_call (R := fun v_ w_ => v_ = .int .i64 (checkE (f)) ∧ Kept (fun _ => False) w30 w_) rfl rfl (y_cs rfl rfl rfl (fun _ _ => by kernel_rfl) (ev_func _) (vsC rfl vsN) (pl_check (f) (f0) (f1) (f2) (T_f0) (T_f1) (T_f2) _  B41 B42 B43 ) (fun e_ w_ h_ => ⟨_, h_.1, rfl, h_.2⟩)) ?_
      rintro _ w388 ⟨rfl, k389⟩
      have B395 := B31.all k389 id
      have K396 := K46.trans k389 (fun _ _ x => x.elim)
      refine wl_v (.bool false) rfl rfl (y_neqI rfl rfl rfl (decide_eq_false d56) ⟨rfl, rfl⟩) ?_
      refine wl_v (.bool false) rfl rfl (y_mov rfl rfl ⟨rfl, rfl⟩) ?_
      refine wl_vw (.int .i64 (p)) 3 false 18 rfl rfl rfl rfl rfl (y_mov rfl s49 ⟨rfl, rfl⟩) ?_
      refine wl_vw (.bool false) 3 false 18 rfl rfl rfl rfl rfl (y_lss rfl rfl rfl (decide_eq_false d90) ⟨rfl, rfl⟩) ?_
      refine wl_v (.bool false) rfl rfl (y_pickF rfl rfl rfl ⟨rfl, rfl⟩) ?_
      refine wl_v (.bool false) rfl rfl (y_mov rfl rfl ⟨rfl, rfl⟩) ?_
      refine wl_vw (.int .i64 (p)) 7 false 22 rfl rfl rfl rfl rfl (y_mov rfl s49 ⟨rfl, rfl⟩) ?_
      refine wl_vw (.bool false) 7 false 22 rfl rfl rfl rfl rfl (y_geq rfl rfl rfl (decide_eq_false d124) ⟨rfl, rfl⟩) ?_
      refine wl_v (.bool false) rfl rfl (y_pickF rfl rfl rfl ⟨rfl, rfl⟩) ?_
      refine wl_v (.bool false) rfl rfl (y_mov rfl rfl ⟨rfl, rfl⟩) ?_
      refine wl_vw (.int .i64 (x)) 11 false 26 rfl rfl rfl rfl rfl (y_mov rfl s50 ⟨rfl, rfl⟩) ?_
      refine wl_callw (R := fun v_ w_ => v_ = .bool true ∧ Kept (fun _ => False) w388 w_) 11 false 26 rfl rfl rfl rfl rfl (y_cs rfl rfl rfl (fun _ _ => by kernel_rfl) (ev_func _) (vsC rfl vsN) (mo_mayPlace (x)  _   ) (fun e_ w_ h_ => ⟨_, h_.1, (congrArg Value.bool (decide_eq_true d158)), h_.2⟩)) ?_
      rintro _ w397 ⟨rfl, k398⟩
      have B404 := B395.all k398 id
      have K405 := K396.trans k398 (fun _ _ x => x.elim)
      refine wl_vw (.bool false) 11 false 26 rfl rfl rfl rfl rfl (y_not rfl rfl rfl ⟨rfl, rfl⟩) ?_
      refine wl_v (.bool false) rfl rfl (y_pickF rfl rfl rfl ⟨rfl, rfl⟩) ?_
      refine wl_v (.bool false) rfl rfl (y_mov rfl rfl ⟨rfl, rfl⟩) ?_
      refine wl_vw (.int .i64 (y)) 16 false 31 rfl rfl rfl rfl rfl (y_mov rfl s51 ⟨rfl, rfl⟩) ?_
      refine wl_callw (R := fun v_ w_ => v_ = .bool false ∧ Kept (fun _ => False) w397 w_) 16 false 31 rfl rfl rfl rfl rfl (y_cs rfl rfl rfl (fun _ _ => by kernel_rfl) (ev_func _) (vsC rfl vsN) (mo_mayPlace (y)  _   ) (fun e_ w_ h_ => ⟨_, h_.1, (congrArg Value.bool (decide_eq_false d159)), h_.2⟩)) ?_
      rintro _ w406 ⟨rfl, k407⟩
      have B413 := B404.all k407 id
      have K414 := K405.trans k407 (fun _ _ x => x.elim)
      refine wl_vw (.bool true) 16 false 31 rfl rfl rfl rfl rfl (y_not rfl rfl rfl ⟨rfl, rfl⟩) ?_
      refine wl_v (.bool true) rfl rfl (y_pickF rfl rfl rfl ⟨rfl, rfl⟩) ?_
      refine wl_nil fun F415 hF416 => ?_
      have s420 := (hF416 69).trans s52
      have s423 := (hF416 10).trans s55
      have s424 : F415 35 = .bool true := (hF416 35).trans rfl
      clear hF416
      refine then_normal ?_
      refine wq_cond (t := true) s424 (fun _ => ?_) (fun e => by cases e)
      refine wq_seq ?_
      have hno : ¬ placeF f p x y := by rintro ⟨h1, h2, h3, h4, h5, h6, h7⟩; first | exact absurd ((checkE_iff f).2 h1) (by assumption) | omega
      refine wq_region ?_
      refine wl_v (blkV (fun _ => 0)) rfl rfl (y_buildR (cells := (arrL 16 (fun _ => 0)).toArray) rfl (by kernel_rfl) rfl ⟨rfl, rfl⟩) ?_
      refine wl_store_blk blkT_block rfl rfl rfl s423 rfl B413 fun w425 B426 k427 => ?_
      have K433 := K414.trans k427 (Grew.ok (S := fun _ => False) gr35 noB_le)
      refine wl_v (.int .i64 (70)) rfl rfl (y_asg rfl rfl ⟨rfl, rfl⟩) ?_
      refine wl_nil fun F434 hF435 => ?_
      have s436 := (hF435 69).trans s420
      have s437 := (hF435 10).trans s423
      have s438 : F434 11 = .int .i64 (70) := (hF435 11).trans rfl
      clear hF435
      refine then_normal ?_
      refine wq_ret ?_
      refine then_ret ?_
      exact end_2 s436 rfl (res_blk blkT_block rfl s437 B426) (res_tmp (v := .int .i64 (70)) rfl s438) ⟨(by first | rw [(mv_no hno).1, (mv_no hno).2] | rw [(mv_none hpl hvn).1, (mv_none hpl hvn).2, vecE_no hvn] | rw [(mv_yes hpl hv).1, (mv_yes hpl hv).2]), K433⟩
    ·skip
     refine wq_region ?_
     refine wl_v (.agg #[.int .i64 ((f).W), .int .i64 ((f).H), f0, f1, f2]) rfl rfl (y_load_stc stcT_frame rfl s53 B44 ⟨rfl, rfl⟩) ?_
     refine wl_call (R := fun v_ w_ => v_ = .int .i64 (checkE (f)) ∧ Kept (fun _ => False) w30 w_) rfl rfl (y_cs rfl rfl rfl (fun _ _ => by kernel_rfl) (ev_func _) (vsC rfl vsN) (pl_check (f) (f0) (f1) (f2) (T_f0) (T_f1) (T_f2) _  B41 B42 B43 ) (fun e_ w_ h_ => ⟨_, h_.1, rfl, h_.2⟩)) ?_
     rintro _ w439 ⟨rfl, k440⟩
     have B446 := B31.all k440 id
     have K447 := K46.trans k440 (fun _ _ x => x.elim)
     refine wl_v (.bool false) rfl rfl (y_neqI rfl rfl rfl (decide_eq_false d56) ⟨rfl, rfl⟩) ?_
     refine wl_v (.bool false) rfl rfl (y_mov rfl rfl ⟨rfl, rfl⟩) ?_
     refine wl_vw (.int .i64 (p)) 3 false 18 rfl rfl rfl rfl rfl (y_mov rfl s49 ⟨rfl, rfl⟩) ?_
     refine wl_vw (.bool false) 3 false 18 rfl rfl rfl rfl rfl (y_lss rfl rfl rfl (decide_eq_false d90) ⟨rfl, rfl⟩) ?_
     refine wl_v (.bool false) rfl rfl (y_pickF rfl rfl rfl ⟨rfl, rfl⟩) ?_
     refine wl_v (.bool false) rfl rfl (y_mov rfl rfl ⟨rfl, rfl⟩) ?_
     refine wl_vw (.int .i64 (p)) 7 false 22 rfl rfl rfl rfl rfl (y_mov rfl s49 ⟨rfl, rfl⟩) ?_
     refine wl_vw (.bool false) 7 false 22 rfl rfl rfl rfl rfl (y_geq rfl rfl rfl (decide_eq_false d124) ⟨rfl, rfl⟩) ?_
     refine wl_v (.bool false) rfl rfl (y_pickF rfl rfl rfl ⟨rfl, rfl⟩) ?_
     refine wl_v (.bool false) rfl rfl (y_mov rfl rfl ⟨rfl, rfl⟩) ?_
     refine wl_vw (.int .i64 (x)) 11 false 26 rfl rfl rfl rfl rfl (y_mov rfl s50 ⟨rfl, rfl⟩) ?_
     refine wl_callw (R := fun v_ w_ => v_ = .bool false ∧ Kept (fun _ => False) w439 w_) 11 false 26 rfl rfl rfl rfl rfl (y_cs rfl rfl rfl (fun _ _ => by kernel_rfl) (ev_func _) (vsC rfl vsN) (mo_mayPlace (x)  _   ) (fun e_ w_ h_ => ⟨_, h_.1, (congrArg Value.bool (decide_eq_false d158)), h_.2⟩)) ?_
     rintro _ w448 ⟨rfl, k449⟩
     have B455 := B446.all k449 id
     have K456 := K447.trans k449 (fun _ _ x => x.elim)
     refine wl_vw (.bool true) 11 false 26 rfl rfl rfl rfl rfl (y_not rfl rfl rfl ⟨rfl, rfl⟩) ?_
     refine wl_v (.bool true) rfl rfl (y_pickF rfl rfl rfl ⟨rfl, rfl⟩) ?_
     refine wl_v (.bool true) rfl rfl (y_mov rfl rfl ⟨rfl, rfl⟩) ?_
     refine wl_unless 16 false 31 rfl rfl rfl (Or.inl rfl) rfl ?_
     refine wl_unless 16 false 31 rfl rfl rfl (Or.inl rfl) rfl ?_
     refine wl_unless 16 false 31 rfl rfl rfl (Or.inl rfl) rfl ?_
     refine wl_v (.bool true) rfl rfl (y_pickT rfl rfl rfl ⟨rfl, rfl⟩) ?_
     refine wl_nil fun F457 hF458 => ?_
     have s462 := (hF458 69).trans s52
     have s465 := (hF458 10).trans s55
     have s466 : F457 35 = .bool true := (hF458 35).trans rfl
     clear hF458
     refine then_normal ?_
     refine wq_cond (t := true) s466 (fun _ => ?_) (fun e => by cases e)
     refine wq_seq ?_
     have hno : ¬ placeF f p x y := by rintro ⟨h1, h2, h3, h4, h5, h6, h7⟩; first | exact absurd ((checkE_iff f).2 h1) (by assumption) | omega
     refine wq_region ?_
     refine wl_v (blkV (fun _ => 0)) rfl rfl (y_buildR (cells := (arrL 16 (fun _ => 0)).toArray) rfl (by kernel_rfl) rfl ⟨rfl, rfl⟩) ?_
     refine wl_store_blk blkT_block rfl rfl rfl s465 rfl B455 fun w467 B468 k469 => ?_
     have K475 := K456.trans k469 (Grew.ok (S := fun _ => False) gr35 noB_le)
     refine wl_v (.int .i64 (70)) rfl rfl (y_asg rfl rfl ⟨rfl, rfl⟩) ?_
     refine wl_nil fun F476 hF477 => ?_
     have s478 := (hF477 69).trans s462
     have s479 := (hF477 10).trans s465
     have s480 : F476 11 = .int .i64 (70) := (hF477 11).trans rfl
     clear hF477
     refine then_normal ?_
     refine wq_ret ?_
     refine then_ret ?_
     exact end_2 s478 rfl (res_blk blkT_block rfl s479 B468) (res_tmp (v := .int .i64 (70)) rfl s480) ⟨(by first | rw [(mv_no hno).1, (mv_no hno).2] | rw [(mv_none hpl hvn).1, (mv_none hpl hvn).2, vecE_no hvn] | rw [(mv_yes hpl hv).1, (mv_yes hpl hv).2]), K475⟩
end Go.Proofs.YtdcbabgcbkdlhaaDoor
set_option maxRecDepth 100000
namespace Go.Proofs.YtdcbabgcbkdlhaaDoor
open Go.RowKit

structure Ch where
  m : Int
  px : Int
  py : Int
  nx : Int
  ny : Int
  b : Nat → Int
def chV (c : Ch) : List Value := .int .i64 c.m :: .int .i64 c.px :: .int .i64 c.py :: .int .i64 c.nx :: .int .i64 c.ny :: arrL 16 c.b
/-- Cells written out. -/
abbrev chL (m px py nx ny : Int) (b : Nat → Int) : List Value := [.int .i64 m, .int .i64 px, .int .i64 py, .int .i64 nx, .int .i64 ny, .int .i64 (b 0), .int .i64 (b 1), .int .i64 (b 2), .int .i64 (b 3), .int .i64 (b 4), .int .i64 (b 5), .int .i64 (b 6), .int .i64 (b 7), .int .i64 (b 8), .int .i64 (b 9), .int .i64 (b 10), .int .i64 (b 11), .int .i64 (b 12), .int .i64 (b 13), .int .i64 (b 14), .int .i64 (b 15)]
abbrev chW (c : Ch) : List Value := chL c.m c.px c.py c.nx c.ny c.b
theorem one_arrL (n : Nat) (b : Nat → Int) : OneAll (arrL n b) := fun v h => by
  obtain ⟨i, _, rfl⟩ := List.mem_map.1 h; rfl
theorem stcT_choice : StcT Tryd.prog 27 21 := ⟨_, Tryd.underlying27, rfl, by kernel_rfl⟩
theorem stcT_block : StcT Tryd.prog 25 16 := ⟨_, Tryd.underlying25, rfl, by kernel_rfl⟩
section
variable {P : Program} {ρ : Operand → Value} {o : Oper} {w : World} {R : Value → World → Prop}
/-- A part of a struct is loaded. -/
theorem y_ldPart {ty t : TypeId} {x : Operand} {p k n : Nat} {vs us : List Value} (hT : StcT P ty n) (ho : o.op = .load ty x) (hx : ρ x = .pointer (some ⟨p, k, none⟩)) (hB : Stc w p t vs) (hkn : k + n ≤ vs.length) (hu : (vs.drop k).take n = us) (h : R (.agg us.toArray) w) : Yields P ρ o w R := by
  subst hu
  obtain ⟨d, hu, hd, hs⟩ := hT
  have hlen : ((vs.drop k).take n).length = n := by rw [List.length_take, List.length_drop]; omega
  have e := run_loadVar_mid (P := P) w p k ty ((vs.drop k).take n) d (fun q u hq => by
    have hqn : q < n := by have := (List.getElem?_eq_some_iff.1 hq).1; omega
    exact hB.cell (by rwa [List.getElem?_take, if_pos hqn, List.getElem?_drop] at hq)) hu hd (by rw [hlen]; exact hs)
  exact y_val (v := .agg ((vs.drop k).take n).toArray) (w' := w) (by simp only [execOp, ho, hx, Instr.loadAt, Instr.sureAddr, Sem.run_bind, Sem.run_pure, Result.andThen_ok, e]) h
/-- A part of a struct is stored. -/
theorem y_setPart {ty t : TypeId} {x y : Operand} {p k : Nat} {vs us ns : List Value} (hT : StcT P ty us.length) (ho : o.op = .store ty x y) (hx : ρ x = .pointer (some ⟨p, k, none⟩)) (hy : ρ y = .agg us.toArray) (hB : Stc w p t vs) (hk : k + us.length ≤ vs.length) (h1 : OneAll us) (hn : vs.take k ++ us ++ vs.drop (k + us.length) = ns)
    (h : ∀ w', Stc w' p t ns → Kept (fun k => k = p) w w' → R undef w') : Yields P ρ o w R := by
  subst hn
  obtain ⟨d, _, _, hs⟩ := hT
  have hst := run_storeCells_at P p k t us 0 vs.toArray w hB (by simpa using hk) h1
  simp only [Nat.add_zero] at hst
  cases hq : P.info? ty with
  | none => rw [hq] at hs; cases hs
  | some i =>
    have hs' : i.size = us.length := by simpa [hq] using hs
    have hsv : (storeVar ty ⟨p, k, none⟩ (.agg us.toArray)).run P w = .ok () (w.setRow p (vs.take k ++ us ++ vs.drop (k + us.length)).toArray) := by
      simp [storeVar, sizeOf, typeInfo, hq, hs', Value.cells, hst]
    have e : (execOp ρ o).run P w = .ok .skip (w.setRow p (vs.take k ++ us ++ vs.drop (k + us.length)).toArray) := by
      simp only [execOp, ho, hx, hy, Instr.storeAt, Instr.sureAddr, Sem.run_bind, Sem.run_pure, Result.andThen_ok, hsv]
    unfold Yields
    rw [e]
    exact h _ (setRow_heap _ _ _ _ _ _ hB) ((Kept.refl (fun k => k = p) w).setRow p (fun _ => rfl) _)
end
section
variable {ro : Option Nat} {P : Program} {N : Nat} {Q : (Exit → (Nat → Value) → World → Prop)} {F : Nat → Value} {w : World} {o : Oper}
theorem wl_setPart {ops : Array Oper} {rest : List Oper} {ty t : TypeId} {x y : Operand} {p k : Nat} {vs us ns : List Value} (hT : StcT P ty us.length) (hg : o.guard = none) (hdn : o.dst = none) (ho : o.op = .store ty x y) (hx : ev (cutF N F) x = .pointer (some ⟨p, k, none⟩)) (hy : ev (cutF N F) y = .agg us.toArray) (hB : Stc w p t vs) (hk : k + us.length ≤ vs.length) (h1 : OneAll us) (hn : vs.take k ++ us ++ vs.drop (k + us.length) = ns)
    (h : ∀ w', Stc w' p t ns → Kept (fun k => k = p) w w' → wl ro P N ops Q rest F w') : wl ro P N ops Q (o :: rest) F w := by
  refine wl_op hg (by rw [hdn]; rfl) (y_setPart hT ho hx hy hB hk h1 hn fun w' hw hk => ?_)
  rw [hdn]
  exact h w' hw hk
end
end Go.Proofs.YtdcbabgcbkdlhaaDoor
set_option maxRecDepth 100000
namespace Go.Proofs.YtdcbabgcbkdlhaaDoor

def pastB (m : Int) : Bool := decide (m = 4) || decide (m = 6)
def nextB (m : Int) : Bool := decide (m = 5) || decide (m = 6)
def mostK (k : Int) : Int := if k = 0 then 3 else if k = 1 then 4 else if k = 2 then 6 else -1
def farCh (b : Nat → Int) : Nat → Bool
  | 0 => false
  | i + 1 => farCh b i || decide (b i < -1048576 ∨ 1048576 < b i)
def badM (k : Int) (c : Ch) : Prop := c.m < 0 ∨ mostK k < c.m ∨ (pastB c.m = false ∧ sameVec c.px c.py 0 0 = false) ∨ (nextB c.m = false ∧ sameVec c.nx c.ny 0 0 = false)
instance (k : Int) (c : Ch) : Decidable (badM k c) := by unfold badM; infer_instance
def chE (k : Int) (c : Ch) : Int := if badM k c then 120 else if farCh c.b 16 = true then 120 else if vecOk c.px c.py ∧ vecOk c.nx c.ny then 0 else 90
theorem chE_bad {k : Int} {c : Ch} (h : badM k c) : chE k c = 120 := if_pos h
theorem chE_far {k : Int} {c : Ch} (h : ¬ badM k c) (hf : farCh c.b 16 = true) : chE k c = 120 := by unfold chE; rw [if_neg h, if_pos hf]
theorem chE_vec {k : Int} {c : Ch} (h : ¬ badM k c) (hf : farCh c.b 16 = false) : chE k c = if vecOk c.px c.py ∧ vecOk c.nx c.ny then 0 else 90 := by unfold chE; rw [if_neg h, if_neg (by rw [hf]; exact Bool.false_ne_true)]
theorem far_hit {b : Nat → Int} {i : Nat} (h : b i < -1048576 ∨ 1048576 < b i) : ∀ n, i < n → farCh b n = true := by
  intro n
  induction n with
  | zero => intro hi; omega
  | succ n ih =>
    intro hi
    unfold farCh
    by_cases e : i = n
    · subst e; rw [decide_eq_true h, Bool.or_true]
    · rw [ih (by omega), Bool.true_or]
def pastBits (c : Ch) (gx gy : Int) : List Bool := if pastB c.m = true then vecBits c.px c.py gx gy else []
def nextBits (c : Ch) (gx gy : Int) : List Bool := if nextB c.m = true then vecBits c.nx c.ny gx gy else []
def chBits (c : Ch) (ax ay bx yy : Int) : List Bool := wholeBits c.m ++ pastBits c ax ay ++ nextBits c bx yy ++ scanBits c.b
def wrCh (k : Int) (c : Ch) (ax ay bx yy : Int) : List Bool := if chE k c = 0 then chBits c ax ay bx yy else []
def ch0 : Ch := ⟨0, 0, 0, 0, 0, fun _ => 0⟩
/-- A vector that a mode has, or has not. -/
def stV (has : Bool) (l : List Nat) (gx gy : Int) (s : Option Nat) : Int × Int × Int × Option Nat := if has = true then (vrX l gx gy s, vrY l gx gy s, vrE l gx gy s, vrS l s) else (0, 0, 0, s)
def rd4 (l : List Nat) (m : Int) (p n : Int × Int × Int × Option Nat) : Ch × Int × Option Nat :=
  if (scanRd l n.2.2.2).2.1 = 0 then (⟨m, p.1, p.2.1, n.1, n.2.1, (scanRd l n.2.2.2).1⟩, 0, (scanRd l n.2.2.2).2.2) else (ch0, (scanRd l n.2.2.2).2.1, (scanRd l n.2.2.2).2.2)
def rd3 (l : List Nat) (m : Int) (p n : Int × Int × Int × Option Nat) : Ch × Int × Option Nat := if n.2.2.1 = 0 then rd4 l m p n else (ch0, n.2.2.1, n.2.2.2)
def rd2 (l : List Nat) (m : Int) (bx yy : Int) (p : Int × Int × Int × Option Nat) : Ch × Int × Option Nat := if p.2.2.1 = 0 then rd3 l m p (stV (nextB m) l bx yy p.2.2.2) else (ch0, p.2.2.1, p.2.2.2)
def rd1 (l : List Nat) (ax ay bx yy : Int) (m : Int × Option Nat) : Ch × Int × Option Nat := if m.2.isNone = true then (ch0, 120, m.2) else rd2 l m.1 bx yy (stV (pastB m.1) l ax ay m.2)
def rdCh (l : List Nat) (k ax ay bx yy : Int) (st : Option Nat) : Ch × Int × Option Nat := rd1 l ax ay bx yy (rdStep (wholeRd l (mostK k)) st)
theorem stV_yes {has : Bool} {l : List Nat} {gx gy : Int} {s : Option Nat} (h : has = true) : stV has l gx gy s = (vrX l gx gy s, vrY l gx gy s, vrE l gx gy s, vrS l s) := if_pos h
theorem stV_no {has : Bool} {l : List Nat} {gx gy : Int} {s : Option Nat} (h : has = false) : stV has l gx gy s = (0, 0, 0, s) := if_neg (by rw [h]; exact Bool.false_ne_true)
end Go.Proofs.YtdcbabgcbkdlhaaDoor
set_option maxRecDepth 100000
namespace Go.Proofs.YtdcbabgcbkdlhaaDoor
open Go.RowKit

def intsV (xs : List Int) : Array Value := (xs.map fun x => Value.int .i64 x).toArray
def sameI (xs ys : List Int) : Bool := decide (xs = ys)
theorem sameI_self (xs : List Int) : sameI xs xs = true := decide_eq_true rfl
theorem part_i64 (w : World) (xs : List Int) (i : Nat) (z : Int) (h : xs[i]? = some z) : (part 3 (intsV xs) i).run Tryd.prog w = .ok (.int .i64 z) w := by
  have e : (intsV xs)[i]? = some (.int .i64 z) := by
    unfold intsV
    rw [List.getElem?_toArray, List.getElem?_map, h]; rfl
  simp [part, isAgg, run_underlying Tryd.underlying3, e]
theorem run_same_fields (w : World) (d : Nat) (xs ys : List Int) : ∀ (fs : List Field) (k : Nat), fs.map (fun f => (f.name == "_", f.type, f.offset)) = (List.range' k fs.length).map (fun i => (false, 3, i)) → xs.length = k + fs.length → ys.length = k + fs.length →
    (Op.eqFields (d + 1) (intsV xs) (intsV ys) fs).run Tryd.prog w = .ok (sameI (xs.drop k) (ys.drop k)) w := by
  intro fs
  induction fs with
  | nil =>
    intro k _ hx hy
    simp only [List.length_nil, Nat.add_zero] at hx hy
    rw [List.drop_of_length_le (by omega), List.drop_of_length_le (by omega), sameI_self]
    simp [Op.eqFields]
  | cons f r ih =>
    intro k hf hx hy
    simp only [List.length_cons] at hx hy
    simp only [List.map_cons, List.length_cons, List.range'_succ, List.cons.injEq, Prod.mk.injEq] at hf
    obtain ⟨⟨hn, ht, ho⟩, hr⟩ := hf
    have hn' : f.name ≠ "_" := by simpa using hn
    have hkx : k < xs.length := by omega
    have hky : k < ys.length := by omega
    have p1 := part_i64 w xs k xs[k] (List.getElem?_eq_getElem hkx)
    have p2 := part_i64 w ys k ys[k] (List.getElem?_eq_getElem hky)
    have p3 := ih (k + 1) hr (by omega) (by omega)
    have ex : xs.drop k = xs[k] :: xs.drop (k + 1) := List.drop_eq_getElem_cons hkx
    have ey : ys.drop k = ys[k] :: ys.drop (k + 1) := List.drop_eq_getElem_cons hky
    have hs : sameI (xs.drop k) (ys.drop k) = (decide (xs[k] = ys[k]) && sameI (xs.drop (k + 1)) (ys.drop (k + 1))) := by
      rw [ex, ey]
      generalize xs[k] = a
      generalize ys[k] = b
      generalize xs.drop (k + 1) = X
      generalize ys.drop (k + 1) = Y
      unfold sameI
      by_cases h : a = b <;> simp [h]
    rw [hs]
    generalize sameI (xs.drop (k + 1)) (ys.drop (k + 1)) = q at p3
    generalize xs[k] = a at p1
    generalize ys[k] = b at p2
    simp only [Op.eqFields, ht, ho]
    rw [if_pos hn']
    simp only [Sem.run_bind, p1, p2, Result.andThen_ok, run_equalIn_int w d 3 .i64 .i64 _ _ Tryd.underlying3]
    by_cases h1 : a = b
    · subst h1
      simp only [beq_self_eq_true, Bool.not_true, Bool.false_eq_true, if_false, p3, decide_true, Bool.true_and]
    · have : (a == b) = false := by simpa using h1
      simp [this, h1]
/-- A struct of n ints. -/
def StructI (ty : TypeId) (n : Nat) : Prop := (Tryd.prog.underlying ty = some (.struct (Tryd.prog.fieldsOf ty)) ∧ Tryd.prog.stoodInHeld ty = false) ∧ Tryd.prog.eqGuardType Tryd.prog.depth ty = false ∧ (Tryd.prog.fieldsOf ty).toList.map (fun f => (f.name == "_", f.type, f.offset)) = (List.range' 0 n).map (fun i => (false, 3, i))
end Go.Proofs.YtdcbabgcbkdlhaaDoor
set_option maxRecDepth 100000
namespace Go.Proofs.YtdcbabgcbkdlhaaDoor
open Go.RowKit

def sameCh (c d : Ch) : Bool := decide (c.m = d.m) && (sameI [c.px, c.py] [d.px, d.py] && (sameI [c.nx, c.ny] [d.nx, d.ny] && sameB c.b d.b))
theorem run_same_intsD (w : World) (n0 : Nat) {ty : TypeId} {n : Nat} (hS : StructI ty n) (xs ys : List Int) (hx : xs.length = n) (hy : ys.length = n) : (Op.equalIn (n0 + 2) ty (.agg (intsV xs)) (.agg (intsV ys))).run Tryd.prog w = .ok (sameI xs ys) w := by
  rw [run_equalIn_struct w (n0 + 1) _ _ _ hS.1.1 hS.1.2]
  have hlen : (Tryd.prog.fieldsOf ty).toList.length = n := by have := congrArg List.length hS.2.2; simpa using this
  have := run_same_fields w n0 xs ys (Tryd.prog.fieldsOf ty).toList 0 (by rw [hlen]; exact hS.2.2) (by omega) (by omega)
  simpa using this
theorem run_same_blkD (w : World) (n0 : Nat) (t : TypeId) (ht : BlkT t) (a b : Nat → Int) : (Op.equalIn (n0 + 2) t (blkV a) (blkV b)).run Tryd.prog w = .ok (sameB a b) w := by
  obtain ⟨i0, hi⟩ : ∃ i, Tryd.prog.info? 3 = some i := by
    have := Tryd.size_int
    cases h : Tryd.prog.info? 3 with
    | none => rw [h] at this; cases this
    | some i => exact ⟨i, rfl⟩
  unfold blkV
  rw [run_equalIn_array w (n0 + 1) _ _ ht.1 hi, run_eqItems_ints Tryd.underlying3 Tryd.cells_int w n0 16 a b _ (fun i hi => by simpa using hi)]
  rfl
theorem structI_vec : StructI 23 2 := ⟨⟨by kernel_rfl, by kernel_rfl⟩, by kernel_rfl, by kernel_rfl⟩
theorem Tryd.chFields : (Tryd.prog.fieldsOf 27).toList.map (fun f => (f.name == "_", f.type, f.offset)) = [(false, 3, 0), (false, 23, 1), (false, 23, 3), (false, 25, 5)] := by kernel_rfl
theorem Tryd.guard_ch : Tryd.prog.eqGuardType Tryd.prog.depth 27 = false := by kernel_rfl
theorem Tryd.held_ch : Tryd.prog.underlying 27 = some (.struct (Tryd.prog.fieldsOf 27)) ∧ Tryd.prog.stoodInHeld 27 = false := ⟨by kernel_rfl, by kernel_rfl⟩
theorem part_ch0 (w : World) (c : Ch) : (part 3 (chV c).toArray 0).run Tryd.prog w = .ok (.int .i64 c.m) w := by
  simp [part, isAgg, run_underlying Tryd.underlying3, chV]
theorem part_agg (w : World) (ty : TypeId) (vs us : List Value) (k n : Nat) {d : TypeDesc} (hu : Tryd.prog.underlying ty = some d) (hd : (match d with | .struct _ => true | .array _ _ => true | _ => false) = true) (hs : (Tryd.prog.info? ty).map (·.size) = some n) (hk : (vs.drop k).take n = us) : (part ty vs.toArray k).run Tryd.prog w = .ok (.agg us.toArray) w := by
  cases hq : Tryd.prog.info? ty with
  | none => rw [hq] at hs; cases hs
  | some i =>
    have hs' : i.size = n := by simpa [hq] using hs
    subst hs'
    subst hk
    have e : vs.toArray.extract k (k + i.size) = ((vs.drop k).take i.size).toArray := by
      rw [List.extract_toArray]; simp [List.extract_eq_take_drop]
    cases d <;> simp at hd <;> simp only [part, isAgg, run_underlying hu, sizeOf, typeInfo, hq, Sem.run_bind, Sem.run_pure, Result.andThen_ok, run_program, if_true, e]
/-- One field more. -/
theorem eqFields_more {w : World} {z : Nat} {A B : Array Value} {f : Field} {r : List Field} {t : TypeId} {k : Nat} {a b : Value} {s q : Bool} (hf : (f.name == "_", f.type, f.offset) = (false, t, k))
    (ha : (part t A k).run Tryd.prog w = .ok a w) (hb : (part t B k).run Tryd.prog w = .ok b w) (hs : (Op.equalIn z t a b).run Tryd.prog w = .ok s w) (hq : (Op.eqFields z A B r).run Tryd.prog w = .ok q w) :
    (Op.eqFields z A B (f :: r)).run Tryd.prog w = .ok (s && q) w := by
  simp only [Prod.mk.injEq] at hf
  obtain ⟨n0, t0, o0⟩ := hf
  have m0 : f.name ≠ "_" := by simpa using n0
  simp only [Op.eqFields, t0, o0]
  rw [if_pos m0]
  simp only [Sem.run_bind, ha, hb, hs, Result.andThen_ok]
  cases s
  · simp
  · simp only [Bool.not_true, Bool.false_eq_true, if_false, hq, Bool.true_and]
theorem eqFields_none {w : World} {z : Nat} {A B : Array Value} : (Op.eqFields z A B []).run Tryd.prog w = .ok true w := by simp [Op.eqFields]
theorem list_four {α : Type} {l : List α} (h : l.length = 4) : ∃ a b c d, l = [a, b, c, d] := by
  match l, h with
  | [a, b, c, d], _ => exact ⟨a, b, c, d, rfl⟩
theorem run_same_chD (w : World) (z : Nat) (c d : Ch) : (Op.equalIn (z + 3) 27 (.agg (chV c).toArray) (.agg (chV d).toArray)).run Tryd.prog w = .ok (sameCh c d) w := by
  rw [run_equalIn_struct w (z + 2) _ _ _ Tryd.held_ch.1 Tryd.held_ch.2]
  have hf := Tryd.chFields
  have ri := run_equalIn_int w (z + 1) 3 .i64 .i64 c.m d.m Tryd.underlying3
  have hv : ∀ (x : Ch), (part 23 (chV x).toArray 1).run Tryd.prog w = .ok (.agg (intsV [x.px, x.py])) w := fun x => part_agg w 23 (chV x) [.int .i64 x.px, .int .i64 x.py] 1 2 Tryd.underlying23 rfl (by kernel_rfl) rfl
  have hn : ∀ (x : Ch), (part 23 (chV x).toArray 3).run Tryd.prog w = .ok (.agg (intsV [x.nx, x.ny])) w := fun x => part_agg w 23 (chV x) [.int .i64 x.nx, .int .i64 x.ny] 3 2 Tryd.underlying23 rfl (by kernel_rfl) rfl
  have hb : ∀ (x : Ch), (part 25 (chV x).toArray 5).run Tryd.prog w = .ok (blkV x.b) w := fun x => part_agg w 25 (chV x) (arrL 16 x.b) 5 16 Tryd.underlying25 rfl (by kernel_rfl) rfl
  have p0 := part_ch0 w c
  have q0 := part_ch0 w d
  have r1 := run_same_intsD w z structI_vec [c.px, c.py] [d.px, d.py] rfl rfl
  have r2 := run_same_intsD w z structI_vec [c.nx, c.ny] [d.nx, d.ny] rfl rfl
  have r3 := run_same_blkD w z 25 blkT_block c.b d.b
  have p1 := hv c; have q1 := hv d; have p2 := hn c; have q2 := hn d; have p3 := hb c; have q3 := hb d
  generalize (chV c).toArray = A at *
  generalize (chV d).toArray = B at *
  generalize (Tryd.prog.fieldsOf 27).toList = fs at hf ⊢
  obtain ⟨f0, f1, f2, f3, rfl⟩ := list_four (l := fs) (by have := congrArg List.length hf; simpa using this)
  simp only [List.map_cons, List.map_nil, List.cons.injEq, and_true] at hf
  obtain ⟨h0, h1, h2, h3⟩ := hf
  have e := eqFields_more h0 p0 q0 ri (eqFields_more h1 p1 q1 r1 (eqFields_more h2 p2 q2 r2 (eqFields_more h3 p3 q3 r3 eqFields_none)))
  rw [e]
  unfold sameCh
  rw [Bool.and_true, show (c.m == d.m) = decide (c.m = d.m) from by rw [Bool.eq_iff_iff]; simp]
theorem run_same_ch (w : World) (c d : Ch) : (Op.equalIn 10000 27 (.agg (chV c).toArray) (.agg (chV d).toArray)).run Tryd.prog w = .ok (sameCh c d) w := run_same_chD w 9997 c d
section
variable {ρ : Operand → Value} {o : Oper} {w : World} {R : Value → World → Prop}
theorem y_eqlCh {t' : TypeId} {x y : Operand} {c d : Ch} {q : Bool} (ho : o.op = .binOp .eql 27 x y t') (hx : ρ x = .agg (chV c).toArray) (hy : ρ y = .agg (chV d).toArray) (hr : sameCh c d = q) (h : R (.bool q) w) : Yields Tryd.prog ρ o w R :=
  y_of (v := .bool (sameCh c d)) (w' := w) (by simp only [execOp, ho, hx, hy, Sem.run_bind, run_eqGuard_agg w .eql _ _ _ _ _ Tryd.guard_ch, run_eql_struct, run_same_ch, Result.andThen_ok, Sem.run_pure]) (by rw [hr]; exact h)
end
end Go.Proofs.YtdcbabgcbkdlhaaDoor
set_option maxRecDepth 100000
namespace Go.Proofs.YtdcbabgcbkdlhaaDoor

def cpB (f p n : FD) (k x y : Int) (c : Ch) : Nat → Int :=
  if c.m < 0 ∨ 6 < c.m then fun _ => 0 else if c.m < 4 then predB f k x y c.m else if c.m = 5 then mvB n k x y c.nx c.ny
  else if mvE p k x y c.px c.py ≠ 0 ∨ c.m = 4 then mvB p k x y c.px c.py else if mvE n k x y c.nx c.ny ≠ 0 then fun _ => 0 else bothB (mvB p k x y c.px c.py) (mvB n k x y c.nx c.ny)
def cpE (f p n : FD) (k x y : Int) (c : Ch) : Int :=
  if c.m < 0 ∨ 6 < c.m then 120 else if c.m < 4 then predE f k x y c.m else if c.m = 5 then mvE n k x y c.nx c.ny
  else if mvE p k x y c.px c.py ≠ 0 ∨ c.m = 4 then mvE p k x y c.px c.py else if mvE n k x y c.nx c.ny ≠ 0 then mvE n k x y c.nx c.ny else 0
section
variable {f p n : FD} {k x y : Int} {c : Ch}
theorem mv_err {f : FD} {p x y X Y : Int} (h : mvE f p x y X Y ≠ 0) : mvB f p x y X Y = fun _ => 0 := by
  by_cases hp : placeF f p x y
  · by_cases hv : vecOk X Y
    · exact absurd (mv_yes hp hv).1 h
    · exact (mv_none hp hv).2
  · exact (mv_no hp).2
theorem cp_bad (h : c.m < 0 ∨ 6 < c.m) : cpB f p n k x y c = (fun _ => 0) ∧ cpE f p n k x y c = 120 := ⟨if_pos h, if_pos h⟩
theorem cp_own (h : 0 ≤ c.m ∧ c.m < 4) : cpB f p n k x y c = predB f k x y c.m ∧ cpE f p n k x y c = predE f k x y c.m := by
  have n1 : ¬ (c.m < 0 ∨ 6 < c.m) := by omega
  exact ⟨(if_neg n1).trans (if_pos h.2), (if_neg n1).trans (if_pos h.2)⟩
theorem cp_next (h : c.m = 5) : cpB f p n k x y c = mvB n k x y c.nx c.ny ∧ cpE f p n k x y c = mvE n k x y c.nx c.ny := by
  have n1 : ¬ (c.m < 0 ∨ 6 < c.m) := by omega
  have n2 : ¬ c.m < 4 := by omega
  exact ⟨(if_neg n1).trans ((if_neg n2).trans (if_pos h)), (if_neg n1).trans ((if_neg n2).trans (if_pos h))⟩
theorem cp_past (h : c.m = 4) : cpB f p n k x y c = mvB p k x y c.px c.py ∧ cpE f p n k x y c = mvE p k x y c.px c.py := by
  have n1 : ¬ (c.m < 0 ∨ 6 < c.m) := by omega
  have n2 : ¬ c.m < 4 := by omega
  have n3 : ¬ c.m = 5 := by omega
  exact ⟨(if_neg n1).trans ((if_neg n2).trans ((if_neg n3).trans (if_pos (Or.inr h)))), (if_neg n1).trans ((if_neg n2).trans ((if_neg n3).trans (if_pos (Or.inr h))))⟩
theorem cp_both1 (h : c.m = 6) (e : mvE p k x y c.px c.py ≠ 0) : cpB f p n k x y c = mvB p k x y c.px c.py ∧ cpE f p n k x y c = mvE p k x y c.px c.py := by
  have n1 : ¬ (c.m < 0 ∨ 6 < c.m) := by omega
  have n2 : ¬ c.m < 4 := by omega
  have n3 : ¬ c.m = 5 := by omega
  exact ⟨(if_neg n1).trans ((if_neg n2).trans ((if_neg n3).trans (if_pos (Or.inl e)))), (if_neg n1).trans ((if_neg n2).trans ((if_neg n3).trans (if_pos (Or.inl e))))⟩
theorem cp_both2 (h : c.m = 6) (e : mvE p k x y c.px c.py = 0) (e2 : mvE n k x y c.nx c.ny ≠ 0) : cpB f p n k x y c = (fun _ => 0) ∧ cpE f p n k x y c = mvE n k x y c.nx c.ny := by
  have n1 : ¬ (c.m < 0 ∨ 6 < c.m) := by omega
  have n2 : ¬ c.m < 4 := by omega
  have n3 : ¬ c.m = 5 := by omega
  have n4 : ¬ (mvE p k x y c.px c.py ≠ 0 ∨ c.m = 4) := fun z => z.elim (fun z => z e) (fun z => by omega)
  exact ⟨(if_neg n1).trans ((if_neg n2).trans ((if_neg n3).trans ((if_neg n4).trans (if_pos e2)))), (if_neg n1).trans ((if_neg n2).trans ((if_neg n3).trans ((if_neg n4).trans (if_pos e2))))⟩
theorem cp_both (h : c.m = 6) (e : mvE p k x y c.px c.py = 0) (e2 : mvE n k x y c.nx c.ny = 0) : cpB f p n k x y c = bothB (mvB p k x y c.px c.py) (mvB n k x y c.nx c.ny) ∧ cpE f p n k x y c = 0 := by
  have n1 : ¬ (c.m < 0 ∨ 6 < c.m) := by omega
  have n2 : ¬ c.m < 4 := by omega
  have n3 : ¬ c.m = 5 := by omega
  have n4 : ¬ (mvE p k x y c.px c.py ≠ 0 ∨ c.m = 4) := fun z => z.elim (fun z => z e) (fun z => by omega)
  exact ⟨(if_neg n1).trans ((if_neg n2).trans ((if_neg n3).trans ((if_neg n4).trans (if_neg (fun z => z e2))))), (if_neg n1).trans ((if_neg n2).trans ((if_neg n3).trans ((if_neg n4).trans (if_neg (fun z => z e2)))))⟩
theorem cp_pastE (h : c.m = 4 ∨ c.m = 6) (e : mvE p k x y c.px c.py ≠ 0) : cpB f p n k x y c = (fun _ => 0) ∧ cpE f p n k x y c = mvE p k x y c.px c.py := by
  rcases h with h | h
  · exact ⟨(cp_past h).1.trans (mv_err e), (cp_past h).2⟩
  · exact ⟨(cp_both1 h e).1.trans (mv_err e), (cp_both1 h e).2⟩
theorem cp_nextE (h : c.m = 5) (e : mvE n k x y c.nx c.ny ≠ 0) : cpB f p n k x y c = (fun _ => 0) ∧ cpE f p n k x y c = mvE n k x y c.nx c.ny :=
  ⟨(cp_next h).1.trans (mv_err e), (cp_next h).2⟩
end
theorem past_t {m : Int} (h : pastB m = true) : m = 4 ∨ m = 6 := by unfold pastB at h; simpa using h
theorem past_f {m : Int} (h : pastB m = false) : m ≠ 4 ∧ m ≠ 6 := by unfold pastB at h; simpa using h
theorem next_t {m : Int} (h : nextB m = true) : m = 5 ∨ m = 6 := by unfold nextB at h; simpa using h
theorem next_f {m : Int} (h : nextB m = false) : m ≠ 5 ∧ m ≠ 6 := by unfold nextB at h; simpa using h

def c8M (a : Nat → Int) : Nat → Int := fun i => min (max (a i) 0) 255
def buB (b : Nat → Int) (l : Nat → Int) (q : Int) : Nat → Int := if ern q = 0 then c8M (moreB b (backB (upB l q))) else fun _ => 0
theorem bu_yes {b l : Nat → Int} {q : Int} (h : ern q = 0) : buB b l q = c8M (moreB b (backB (upB l q))) := if_pos h
theorem bu_no {b l : Nat → Int} {q : Int} (h : ern q ≠ 0) : buB b l q = fun _ => 0 := if_neg h
structure ChOk (k : Int) (c : Ch) : Prop where
  m : 0 ≤ c.m ∧ c.m ≤ mostK k
  past : pastB c.m = false → c.px = 0 ∧ c.py = 0
  next : nextB c.m = false → c.nx = 0 ∧ c.ny = 0
  far : ∀ i, i < 16 → -1048576 ≤ c.b i ∧ c.b i ≤ 1048576
  p : vecOk c.px c.py
  n : vecOk c.nx c.ny
theorem sameVec_eq {a b c d : Int} (h : sameVec a b c d = true) : a = c ∧ b = d := by unfold sameVec at h; simpa using h
theorem far_no {b : Nat → Int} : ∀ n, farCh b n = false → ∀ i, i < n → -1048576 ≤ b i ∧ b i ≤ 1048576 := by
  intro n
  induction n with
  | zero => intro _ i hi; omega
  | succ n ih =>
    intro h i hi
    unfold farCh at h
    obtain ⟨h1, h2⟩ := Bool.or_eq_false_iff.1 h
    by_cases e : i = n
    · subst e; have := of_decide_eq_false h2; omega
    · exact ih h1 i (by omega)
theorem ch_ok {k : Int} {c : Ch} (h : chE k c = 0) : ChOk k c := by
  unfold chE at h
  split at h
  · cases h
  · rename_i hb
    split at h
    · cases h
    · rename_i hf
      split at h
      · rename_i hv
        have hf' : farCh c.b 16 = false := by simpa using hf
        refine ⟨?_, fun z => ?_, fun z => ?_, far_no 16 hf', hv.1, hv.2⟩
        · unfold badM at hb; omega
        · have : ¬ (sameVec c.px c.py 0 0 = false) := fun e => hb (Or.inr (Or.inr (Or.inl ⟨z, e⟩)))
          exact sameVec_eq (by simpa using this)
        · have : ¬ (sameVec c.nx c.ny 0 0 = false) := fun e => hb (Or.inr (Or.inr (Or.inr ⟨z, e⟩)))
          exact sameVec_eq (by simpa using this)
      · cases h
theorem mostK_le (k : Int) : mostK k ≤ 6 := by unfold mostK; split; omega; split; omega; split <;> omega
theorem stV_back {has : Bool} {l : List Nat} {a : Nat} {X Y gx gy : Int} (hv : vecOk X Y) (h0 : has = false → X = 0 ∧ Y = 0) (hb : BitsAt l a (if has = true then vecBits X Y gx gy else [])) :
    stV has l gx gy (some a) = (X, Y, 0, some (a + (if has = true then vecBits X Y gx gy else []).length)) := by
  cases has with
  | true =>
    rw [if_pos rfl] at hb
    obtain ⟨h1, h2, h3, h4⟩ := vr_back l a X Y gx gy hv hb
    rw [stV_yes rfl, h1, h2, h3, h4, if_pos rfl]
  | false =>
    obtain ⟨rfl, rfl⟩ := h0 rfl
    rw [stV_no rfl, if_neg Bool.false_ne_true]; rfl
theorem ch_back {l : List Nat} {a : Nat} {k : Int} {c : Ch} {ax ay bx yy : Int} (hk : chE k c = 0) (hb : BitsAt l a (chBits c ax ay bx yy)) :
    ∃ d, rdCh l k ax ay bx yy (some a) = (d, 0, some (a + (chBits c ax ay bx yy).length)) ∧ sameCh d c = true := by
  have ho := ch_ok hk
  have hmk := mostK_le k
  unfold chBits at hb
  have hw := wholeRd_bits l a c.m (mostK k) ho.m.1 (by have := ho.m; omega) ho.m.2 hb.left.left.left
  have hp := stV_back (has := pastB c.m) ho.p ho.past (show BitsAt l (a + (wholeBits c.m).length) (pastBits c ax ay) from hb.left.left.right)
  have hn := stV_back (has := nextB c.m) ho.n ho.next (show BitsAt l (a + (wholeBits c.m ++ pastBits c ax ay).length) (nextBits c bx yy) from hb.left.right)
  obtain ⟨d, hs, hd⟩ := scan_back l _ c.b hb.right
  refine ⟨⟨c.m, c.px, c.py, c.nx, c.ny, d⟩, ?_, ?_⟩
  · have e1 : rdStep (wholeRd l (mostK k)) (some a) = (c.m, some (a + (wholeBits c.m).length)) := by simp only [rdStep, hw]
    unfold rdCh; rw [e1]; unfold rd1; rw [if_neg (by simp)]
    show rd2 l c.m bx yy (stV (pastB c.m) l ax ay (some (a + (wholeBits c.m).length))) = _
    rw [hp]
    unfold rd2; rw [if_pos rfl]
    rw [show a + (wholeBits c.m).length + (if pastB c.m = true then vecBits c.px c.py ax ay else []).length = a + (wholeBits c.m ++ pastBits c ax ay).length from by rw [List.length_append]; unfold pastBits; omega, hn]
    unfold rd3; rw [if_pos rfl]
    rw [show a + (wholeBits c.m ++ pastBits c ax ay).length + (if nextB c.m = true then vecBits c.nx c.ny bx yy else []).length = a + (wholeBits c.m ++ pastBits c ax ay ++ nextBits c bx yy).length from by rw [List.length_append (bs := nextBits c bx yy)]; unfold nextBits; omega]
    unfold rd4; simp only; rw [hs]; simp only [if_true]
    rw [show a + (wholeBits c.m ++ pastBits c ax ay ++ nextBits c bx yy).length + (scanBits c.b).length = a + (chBits c ax ay bx yy).length from by unfold chBits; rw [List.length_append (bs := scanBits c.b)]; omega]
  · unfold sameCh
    rw [sameI_self, sameI_self, decide_eq_true rfl, sameB_true (fun i hi => (hd i hi).trans (cl_id _ _ (ho.far i hi).1 (ho.far i hi).2))]; rfl
/-- Where a reader stands that stays where there is no choice. -/
def rdChT (l : List Nat) (k ax ay bx yy : Int) (st : Option Nat) : Option Nat := if (rdCh l k ax ay bx yy st).2.1 = 0 then (rdCh l k ax ay bx yy st).2.2 else st
theorem rdStep_at (l : List Nat) (n : Int) (a : Nat) : rdStep (wholeRd l n) (some a) = match wholeAt l a with
    | some (v, a') => if n < v then (0, none) else (v, some a')
    | none => (0, none) := by
  cases hq : wholeAt l a with
  | none => simp [rdStep, wholeRd, hq]
  | some x =>
    obtain ⟨v, a'⟩ := x
    by_cases h : n < v
    · simp [rdStep, wholeRd, hq, h]
    · simp [rdStep, wholeRd, hq, h]
theorem rdStep_most {l : List Nat} {m n : Int} (h : m ≤ n) (st : Option Nat) :
    rdStep (wholeRd l m) st = if (rdStep (wholeRd l n) st).2.isNone = true ∨ m < (rdStep (wholeRd l n) st).1 then (0, none) else rdStep (wholeRd l n) st := by
  cases st with
  | none => rfl
  | some a =>
    rw [rdStep_at l m a, rdStep_at l n a]
    cases wholeAt l a with
    | none => rfl
    | some x =>
      obtain ⟨v, a'⟩ := x
      simp only
      by_cases h1 : n < v
      · rw [if_pos h1, if_pos (show m < v by omega)]; exact (if_pos (Or.inl rfl)).symm
      · rw [if_neg h1]
        by_cases h2 : m < v
        · rw [if_pos h2, if_pos (Or.inr h2)]
        · rw [if_neg h2, if_neg (by rintro (z | z); cases z; exact h2 z)]
theorem chBits_short (c : Ch) (ax ay bx yy : Int) : (chBits c ax ay bx yy).length ≤ 2400 := by
  have h1 := vecBits_short c.px c.py ax ay
  have h2 := vecBits_short c.nx c.ny bx yy
  have h3 := wholeBits_short c.m
  have h4 := scanBits_length c.b
  have h5 : (pastBits c ax ay).length ≤ 128 := by unfold pastBits; split; omega; simp
  have h6 : (nextBits c bx yy).length ≤ 128 := by unfold nextBits; split; omega; simp
  unfold chBits; rw [List.length_append, List.length_append, List.length_append]; omega
theorem wrCh_short (k : Int) (c : Ch) (ax ay bx yy : Int) : (wrCh k c ax ay bx yy).length ≤ 2400 := by
  unfold wrCh; split
  · exact chBits_short _ _ _ _ _
  · simp
end Go.Proofs.YtdcbabgcbkdlhaaDoor
set_option maxRecDepth 100000
namespace Go.Proofs.YtdcbabgcbkdlhaaDoor
open Go.RowKit

def Rdi.ty (e : TypeId) : Prop := e = 82 ∨ e = 5
def Rfi.ty (e : TypeId) : Prop := e = 45
instance (e : TypeId) : Decidable (Rdi.ty e) := by unfold Rdi.ty; infer_instance
instance (e : TypeId) : Decidable (Rfi.ty e) := by unfold Rfi.ty; infer_instance
theorem Rdi.at {w : World} {T : Nat → Prop} {p : Nat} {l : List Nat} {st : Option Nat} (h : Rdi w T p l st) (x : Nat) (hx : T x) : ∃ c e f, w.heap[x]? = some (.cells c e f) ∧ Rdi.ty e := by
  obtain ⟨_, g, rfl, h⟩ := h
  have hr : ∃ a b, RdAt w p g l a b := by
    cases st with
    | none => obtain ⟨a, h⟩ := h; exact ⟨a, _, h⟩
    | some a => exact ⟨a, _, h.2⟩
  obtain ⟨a, b, h1, h2, _⟩ := hr
  rcases hx with rfl | rfl
  · exact ⟨_, _, _, h1, .inl rfl⟩
  · exact ⟨_, _, _, h2, .inr rfl⟩
theorem Rfi.at {w : World} {T : Nat → Prop} {p : Nat} {l : List Nat} {st : Option Nat} (h : Rfi w T p l st) (x : Nat) (hx : T x) : ∃ c e f, w.heap[x]? = some (.cells c e f) ∧ Rfi.ty e := by
  obtain ⟨_, _, rfl, h⟩ := h
  have hr : ∃ a b, RfAt w p l a b := by
    cases st with
    | none => obtain ⟨a, _, h⟩ := h; exact ⟨a, _, h⟩
    | some a => exact ⟨a, _, h.2⟩
  obtain ⟨a, b, h1⟩ := hr
  cases hx
  exact ⟨_, _, _, h1, rfl⟩
end Go.Proofs.YtdcbabgcbkdlhaaDoor
set_option maxRecDepth 100000
namespace Go.Proofs.YtdcbabgcbkdlhaaDoor
open Go.RowKit

/-- A kind of row: the slice's type, its elements', how many cells each has, the cells of an element, the one that is there when it is made. -/
structure RowT (α : Type) where
  t : TypeId
  e : TypeId
  k : Nat
  by_ : Nat
  enc : α → List Value
  d : α
  z : Value
class RowT.Ok {α : Type} (r : RowT α) : Prop where
  slice : Tryd.prog.underlying r.t = some (.slice r.e)
  info : (Tryd.prog.info? r.e).map (fun i => (i.zero, i.size, i.bytes)) = some (some r.z, r.k, r.by_)
  cells : r.z.cells.toList = r.enc r.d
  pos : 0 < r.k
  len : ∀ x, (r.enc x).length = r.k
  one : ∀ x, ∀ u ∈ r.enc x, u.oneCell' = true
  small : r.by_ ≤ 192

section
variable {α : Type} {r : RowT α}
theorem flat_len [h : r.Ok] (l : List α) : (l.flatMap r.enc).length = l.length * r.k := by
  induction l with
  | nil => simp
  | cons x l ih => rw [List.flatMap_cons, List.length_append, ih, h.len, List.length_cons, Nat.add_mul]; omega
/-- A row that can be read. -/
def RoA (r : RowT α) (w : World) (T : Nat → Prop) (v : Value) (l : List α) : Prop :=
  ∃ a cap, v = .slice a l.length cap ∧ l.length ≤ cap ∧ cap ≤ maxLen ∧ (a = none → cap = 0) ∧ Live w T ∧
    (0 < l.length → ∃ b off, a = some ⟨b, off, none⟩ ∧ T b ∧ ∀ j u, (l.flatMap r.enc)[j]? = some u → w.cell? ⟨b, off + j, none⟩ = some u)
theorem RoA.nil (r : RowT α) (w : World) : RoA r w noB (.slice none 0 0) [] := ⟨none, 0, rfl, Nat.le_refl _, by unfold maxLen; omega, fun _ => rfl, fun _ h => h.elim, fun h => absurd h (by simp)⟩
theorem RoA.live {w : World} {T : Nat → Prop} {v : Value} {l : List α} (h : RoA r w T v l) : Live w T := by obtain ⟨_, _, _, _, _, _, h, _⟩ := h; exact h
theorem RoA.all {S : Nat → Prop} {w w' : World} {T : Nat → Prop} {v : Value} {l : List α} (h : RoA r w T v l) (k : Kept S w w') (ha : Apart T S) : RoA r w' T v l := by
  obtain ⟨a, cap, rfl, h1, h2, h3, hL, hc⟩ := h
  refine ⟨a, cap, rfl, h1, h2, h3, hL.mono k, fun hp => ?_⟩
  obtain ⟨b, off, rfl, hb, hcell⟩ := hc hp
  exact ⟨b, off, rfl, hb, fun j u hj => (World.cell?_of_block (k.block b (hL b hb) (ha b hb))).trans (hcell j u hj)⟩
theorem RoA.row {A B : World} {row : Option Nat} {n : Nat} {T : Nat → Prop} {v : Value} {l : List α} [hk : r.Ok] (h : RoA r A T v l) (hg : A.grownBy B row) (hr : RowNew n A row) : RoA r B T v l := by
  obtain ⟨a, cap, rfl, h1, h2, h3, hL, hc⟩ := h
  have k := kept_row hg
  refine ⟨a, cap, rfl, h1, h2, h3, hL.mono k, fun hp => ?_⟩
  obtain ⟨b, off, rfl, hb, hcell⟩ := hc hp
  have h0 : 0 < (l.flatMap r.enc).length := by rw [flat_len (r := r)]; exact Nat.mul_pos hp hk.pos
  refine ⟨b, off, rfl, hb, fun j u hj => (World.cell?_of_block (k.block b (hL b hb) fun e => ?_)).trans (hcell j u hj)⟩
  obtain ⟨_, o, ho, hn⟩ := hr b e.symm
  have := hcell 0 _ (List.getElem?_eq_getElem h0)
  unfold World.cell? at this
  simp only at this
  rw [ho] at this
  cases o <;> simp_all [Obj.isCells]
theorem RoA.one {w : World} {T : Nat → Prop} {v : Value} {l : List α} (h : RoA r w T v l) : v.oneCell' = true := by obtain ⟨a, cap, rfl, _⟩ := h; rfl
theorem RoA.oneC {w : World} {T : Nat → Prop} {v : Value} {l : List α} (h : RoA r w T v l) : oneC v = true := by obtain ⟨a, cap, rfl, _⟩ := h; rfl
/-- A row of the call's own. -/
def RoO (r : RowT α) (w : World) (T : Nat → Prop) (v : Value) (l : List α) : Prop := w.ownsRow 0 r.e r.k v l.length (l.flatMap r.enc) ∧ ∀ i, T i ↔ v.ownBlock = some i
theorem RoO.nil (r : RowT α) (w : World) : RoO r w noB (.slice none 0 0) [] := ⟨World.ownsRow_nil w 0 r.e r.k, fun i => ⟨fun h => h.elim, fun h => by cases h⟩⟩
theorem RoO.live {w : World} {T : Nat → Prop} {v : Value} {l : List α} (h : RoO r w T v l) : Live w T := fun i hi => (h.1.lt i ((h.2 i).1 hi)).2
theorem RoO.all {S : Nat → Prop} {w w' : World} {T : Nat → Prop} {v : Value} {l : List α} (h : RoO r w T v l) (k : Kept S w w') (ha : Apart T S) : RoO r w' T v l := by
  refine ⟨⟨h.1.1, ?_⟩, h.2⟩
  rcases h.1.2 with hn | ⟨g, cap, cur, rfl, hb, hg, rest⟩
  · exact .inl hn
  · exact .inr ⟨g, cap, cur, rfl, hb, k.at hg (ha g ((h.2 g).2 rfl)), rest⟩
theorem RoO.roa {w : World} {T : Nat → Prop} {v : Value} {l : List α} (h : RoO r w T v l) : RoA r w T v l := by
  have hL := h.live
  rcases h.1.2 with ⟨rfl, h0⟩ | ⟨g, cap, cur, rfl, hb, hg, h1, h2, h3, h4⟩
  · have : l = [] := List.eq_nil_of_length_eq_zero h0
    subst this
    exact ⟨none, 0, rfl, Nat.le_refl _, by unfold maxLen; omega, fun _ => rfl, hL, fun h => absurd h (by simp)⟩
  · refine ⟨some ⟨g, 0, none⟩, cap, rfl, h1, h2, by simp, hL, fun _ => ⟨g, 0, rfl, (h.2 g).2 rfl, fun j u hj => ?_⟩⟩
    have := h.1.cells (g := g) rfl j u hj
    rwa [Addr.add_lit] at this
theorem RoO.cells {w : World} {T : Nat → Prop} {v : Value} {l : List α} (h : RoO r w T v l) : Cells w T := fun i hi => by
  have hv := (h.2 i).1 hi
  rcases h.1.2 with ⟨rfl, _⟩ | ⟨g, cap, cur, rfl, _, hg, _⟩
  · cases hv
  · cases hv; exact ⟨_, hg, rfl⟩
theorem RoO.row {A B : World} {row : Option Nat} {n : Nat} {T : Nat → Prop} {v : Value} {l : List α} (h : RoO r A T v l) (hg : A.grownBy B row) (hr : RowNew n A row) : RoO r B T v l := h.all (kept_row hg) (h.cells.apart hr)
theorem RoO.of {w : World} {v : Value} {l : List α} (h : w.ownsRow 0 r.e r.k v l.length (l.flatMap r.enc)) : RoO r w (fun i => v.ownBlock = some i) v l := ⟨h, fun _ => Iff.rfl⟩
theorem RoO.one {w : World} {T : Nat → Prop} {v : Value} {l : List α} (h : RoO r w T v l) : v.oneCell' = true := h.roa.one
theorem RoO.oneC {w : World} {T : Nat → Prop} {v : Value} {l : List α} (h : RoO r w T v l) : oneC v = true := h.roa.oneC
end


end Go.Proofs.YtdcbabgcbkdlhaaDoor
set_option maxRecDepth 100000
namespace Go.Proofs.YtdcbabgcbkdlhaaDoor
open Go.RowKit

def pairV (a b : Int) : Value := .agg #[.int .i64 a, .int .i64 b]
/-- A struct of two ints. -/
structure TwoInts (K : TypeId) : Prop where
  und : Tryd.prog.underlying K = some (.struct (Tryd.prog.fieldsOf K))
  hel : Tryd.prog.stoodInHeld K = false
  flds : ∃ n0 n1 : String, n0 ≠ "_" ∧ n1 ≠ "_" ∧ (Tryd.prog.fieldsOf K).toList.map (fun f => (f.name, f.type, f.offset)) = [(n0, 3, 0), (n1, 3, 1)]
theorem TwoInts.split {K : TypeId} (h : TwoInts K) : ∃ f0 f1 : Field, Tryd.prog.fieldsOf K = #[f0, f1] ∧ f0.name ≠ "_" ∧ f1.name ≠ "_" ∧ f0.type = 3 ∧ f1.type = 3 ∧ f0.offset = 0 ∧ f1.offset = 1 := by
  obtain ⟨n0, n1, h0, h1, hf⟩ := h.flds
  have hlen : (Tryd.prog.fieldsOf K).toList.length = 2 := by simpa using congrArg List.length hf
  match hq : (Tryd.prog.fieldsOf K).toList, hlen with
  | [f0, f1], _ =>
    rw [hq] at hf
    simp only [List.map_cons, List.map_nil, List.cons.injEq, Prod.mk.injEq, and_true] at hf
    obtain ⟨⟨e0, t0, o0⟩, ⟨e1, t1, o1⟩⟩ := hf
    exact ⟨f0, f1, by rw [← hq], by rw [e0]; exact h0, by rw [e1]; exact h1, t0, t1, o0, o1⟩
/-- A map's entries, as they stand. -/
def entV (es : List MapEntry) (L : List ((Int × Int) × Int × Int)) : Prop := es.map (fun e => (e.key, e.val)) = L.map fun q => (pairV q.1.1 q.1.2, pairV q.2.1 q.2.2)
abbrev Ents := List ((Int × Int) × Int × Int)
def lookL (a b : Int) : Ents → Int × Int
  | [] => (0, 0)
  | q :: r => if q.1 = (a, b) then q.2 else lookL a b r
/-- A map in memory, and what it tells of each place. -/
def Mpf (w : World) (r : Nat) (g : Int → Int → Int × Int) : Prop := ∃ es clock L, w.heap[r]? = some (.map es clock) ∧ entV es.toList L ∧ (L.map (·.1)).Nodup ∧ ∀ a b, lookL a b L = g a b
theorem Mpf.lt {w : World} {r : Nat} {g : Int → Int → Int × Int} (h : Mpf w r g) : r < w.heap.size := by obtain ⟨_, _, _, h, _⟩ := h; exact lt_of_heap h
theorem Mpf.all {S : Nat → Prop} {w w' : World} {r : Nat} {g : Int → Int → Int × Int} (h : Mpf w r g) (k : Kept S w w') (hn : ¬ S r) : Mpf w' r g := by
  obtain ⟨es, clock, L, h1, h2⟩ := h; exact ⟨es, clock, L, k.at h1 hn, h2⟩
theorem Mpf.congr {w : World} {r : Nat} {g g' : Int → Int → Int × Int} (h : Mpf w r g) (e : ∀ a b, g a b = g' a b) : Mpf w r g' := by
  obtain ⟨es, clock, L, h1, h2, h3, h4⟩ := h; exact ⟨es, clock, L, h1, h2, h3, fun a b => (h4 a b).trans (e a b)⟩
end Go.Proofs.YtdcbabgcbkdlhaaDoor
set_option maxRecDepth 100000
namespace Go.Proofs.YtdcbabgcbkdlhaaDoor
open Go.RowKit

theorem stcT_reader : StcT Tryd.prog 82 3 := ⟨_, Tryd.underlying82, rfl, by kernel_rfl⟩
/-- A block of bytes that are read. -/
def Rby (w : World) (T : Nat → Prop) (g : Nat) (l : List Nat) : Prop := T = onB g ∧ w.heap[g]? = some (.cells (byteVals l).toArray 5 (0, 0))
theorem Rby.live {w : World} {T : Nat → Prop} {g : Nat} {l : List Nat} (h : Rby w T g l) : Live w T := by
  obtain ⟨rfl, h⟩ := h; exact onB_live (lt_of_heap h)
theorem Rby.all {S : Nat → Prop} {w w' : World} {T : Nat → Prop} {g : Nat} {l : List Nat} (h : Rby w T g l) (k : Kept S w w') (ha : Apart T S) : Rby w' T g l := by
  obtain ⟨rfl, h⟩ := h; exact ⟨rfl, k.at h (ha g rfl)⟩
def okR (l : List Nat) (st : Option Nat) (a : Nat) (b : Bool) : Prop := match st with
  | some n => n ≤ 8 * l.length ∧ a = n ∧ b = false
  | none => b = true
theorem rdis_open {w : World} {p g : Nat} {l : List Nat} {st : Option Nat} (h : RdIs w p g l st) : ∃ (a : Nat) (b : Bool), okR l st a b ∧ Stc w p 82 [.slice (some ⟨g, 0, none⟩) l.length l.length, .int .i64 (a : Int), .bool b] ∧ Rby w (onB g) g l ∧ Apart (onB p) (onB g) := by
  cases st with
  | none =>
    obtain ⟨a, h⟩ := h
    exact ⟨a, true, rfl, h.1, ⟨rfl, h.2.1⟩, fun i h1 h2 => h.2.2 (h2.symm.trans h1)⟩
  | some n => exact ⟨n, false, ⟨h.1, rfl, rfl⟩, h.2.1, ⟨rfl, h.2.2.1⟩, fun i h1 h2 => h.2.2.2 (h2.symm.trans h1)⟩
theorem rdis_close {w : World} {p g : Nat} {l : List Nat} {st : Option Nat} {a : Nat} {b : Bool} (ho : okR l st a b) (h1 : Stc w p 82 [.slice (some ⟨g, 0, none⟩) l.length l.length, .int .i64 (a : Int), .bool b]) (h2 : Rby w (onB g) g l) (ha : Apart (onB p) (onB g)) : RdIs w p g l st := by
  have hne : g ≠ p := fun e => ha g e rfl
  cases st with
  | none => cases ho; exact ⟨a, h1, h2.2, hne⟩
  | some n => obtain ⟨h3, rfl, rfl⟩ := ho; exact ⟨h3, h1, h2.2, hne⟩
theorem rdi_open {w : World} {T : Nat → Prop} {p : Nat} {l : List Nat} {st : Option Nat} (h : Rdi w T p l st) : ∃ (g a : Nat) (b : Bool), Fair l ∧ (∀ i, T i ↔ (onB p i ∨ onB g i)) ∧ okR l st a b ∧ Stc w p 82 [.slice (some ⟨g, 0, none⟩) l.length l.length, .int .i64 (a : Int), .bool b] ∧ Rby w (onB g) g l ∧ Apart (onB p) (onB g) := by
  obtain ⟨hf, g, rfl, h⟩ := h
  obtain ⟨a, b, h1, h2, h3, h4⟩ := rdis_open h
  exact ⟨g, a, b, hf, fun i => Iff.rfl, h1, h2, h3, h4⟩
theorem rdi_close {w : World} {p g : Nat} {l : List Nat} {st : Option Nat} {a : Nat} {b : Bool} (hf : Fair l) (ho : okR l st a b) (h1 : Stc w p 82 [.slice (some ⟨g, 0, none⟩) l.length l.length, .int .i64 (a : Int), .bool b]) (h2 : Rby w (onB g) g l) (ha : Apart (onB p) (onB g)) : Rdi w (fun i => onB p i ∨ onB g i) p l st := ⟨hf, g, rfl, rdis_close ho h1 h2 ha⟩
/-- At q a copy of the reader at p, that goes on by itself. -/
def Rd2 (w : World) (T : Nat → Prop) (q p : Nat) (l : List Nat) (st1 st : Option Nat) : Prop := Fair l ∧ ∃ g, (∀ i, T i ↔ (onB p i ∨ onB q i ∨ onB g i)) ∧ q ≠ p ∧ RdIs w p g l st1 ∧ RdIs w q g l st
theorem Rd2.live {w : World} {T : Nat → Prop} {q p : Nat} {l : List Nat} {st1 st : Option Nat} (h : Rd2 w T q p l st1 st) : Live w T := by
  obtain ⟨_, g, hT, _, h1, h2⟩ := h
  intro i hi
  rcases (hT i).1 hi with e | e | e <;> cases e
  · exact h1.lt.1
  · exact h2.lt.1
  · exact h1.lt.2.1
theorem Rd2.all {S : Nat → Prop} {w w' : World} {T : Nat → Prop} {q p : Nat} {l : List Nat} {st1 st : Option Nat} (h : Rd2 w T q p l st1 st) (k : Kept S w w') (ha : Apart T S) : Rd2 w' T q p l st1 st := by
  obtain ⟨hf, g, hT, hn, h1, h2⟩ := h
  have np := ha p ((hT p).2 (.inl rfl))
  have nq := ha q ((hT q).2 (.inr (.inl rfl)))
  have ng := ha g ((hT g).2 (.inr (.inr rfl)))
  exact ⟨hf, g, hT, hn, h1.kept k np ng, h2.kept k nq ng⟩
/-- Where a reader stands behind a vector: where it stood, if there is none. -/
def vrT (l : List Nat) (gx gy : Int) (s : Option Nat) : Option Nat := if rdOk l gx gy s then vrS l s else s
theorem vrT_ok {l : List Nat} {gx gy : Int} {s : Option Nat} (h : vrE l gx gy s = 0) : vrT l gx gy s = vrS l s := by
  unfold vrE at h; unfold vrT
  split at h
  · rename_i h'; rw [if_pos h']
  · cases h
set_option maxHeartbeats 4000000 in
set_option maxRecDepth 100000 in
theorem vt_clamped (n : Int) (w0 : World) :
  Calls Tryd.prog 106 #[.int .i64 (n)] w0 fun e w' => e = .returned (.int .i64 (cl 64 n)) ∧ Kept (fun _ => False) w0 w' := by
 refine calls_wq (args := [.int .i64 (n)]) 6 Tryd.func106 rfl rfl (Nat.le_of_ble_eq_true rfl) ?_
 have K0 := Kept.refl (fun _ => False) w0
 refine wq_seq ?_
 refine wq_region ?_
 refine wl_v (.int .i64 (0)) rfl rfl (y_asg rfl rfl ⟨rfl, rfl⟩) ?_
 refine wl_nil fun F1 hF2 => ?_
 have s3 : F1 0 = .int .i64 (n) := (hF2 0).trans rfl
 have s4 : F1 6 = undef := (hF2 6).trans rfl
 clear hF2
 refine then_normal ?_
 refine wq_seq ?_
 refine wq_region ?_
 refine wl_v (.int .i64 (n)) rfl rfl (y_mov rfl s3 ⟨rfl, rfl⟩) ?_
 refine wl_v (.int .i64 (min (n) (64))) rfl rfl (y_minR rfl rfl rfl rfl ⟨rfl, rfl⟩) ?_
 refine wl_v (.int .i64 (cl 64 n)) rfl rfl (y_maxR rfl rfl rfl ((by unfold cl; omega)) ⟨rfl, rfl⟩) ?_
 refine wl_v (.int .i64 (cl 64 n)) rfl rfl (y_asg rfl rfl ⟨rfl, rfl⟩) ?_
 refine wl_nil fun F5 hF6 => ?_
 have s7 := (hF6 6).trans s4
 have s8 : F5 2 = .int .i64 (cl 64 n) := (hF6 2).trans rfl
 clear hF6
 refine then_normal ?_
 refine wq_ret ?_
 exact end_tmp (v := .int .i64 (cl 64 n)) s7 rfl rfl s8 ⟨rfl, K0⟩
set_option maxHeartbeats 4000000 in
set_option maxRecDepth 100000 in
theorem vt_near (X Y : Int) (w0 : World) :
  Calls Tryd.prog 74 #[.agg #[.int .i64 (X), .int .i64 (Y)]] w0 fun e w' => e = .returned (.agg #[.int .i64 (cl 64 X), .int .i64 (cl 64 Y)]) ∧ Kept (fun _ => False) w0 w' := by
 refine calls_wq (args := [.agg #[.int .i64 (X), .int .i64 (Y)]]) 10 Tryd.func74 rfl rfl (Nat.le_of_ble_eq_true rfl) ?_
 have K0 := Kept.refl (fun _ => False) w0
 refine wq_seq ?_
 refine wq_region ?_
 refine wl_box_stc (vs := [.int .i64 (X), .int .i64 (Y)]) rfl rfl rfl rfl fun p1 w2 B4 g5 k3 => ?_
 have K7 := K0.trans k3 (fun _ _ x => x.elim)
 refine wl_alloc_stc (n := 2) (vs := [.int .i64 (0), .int .i64 (0)]) rfl rfl rfl (by kernel_rfl) fun p8 w9 B11 g12 k10 => ?_
 have gr13 : Grew w0 noB (onB p8) := Grew.new K7 g12
 have B15 := B4.all k10 id
 have K16 := K7.trans k10 (fun _ _ x => x.elim)
 refine wl_nil fun F17 hF18 => ?_
 have s19 : F17 10 = undef := (hF18 10).trans rfl
 have s20 : F17 1 = .pointer (some ⟨p1, 0, none⟩) := (hF18 1).trans rfl
 have s21 : F17 2 = .pointer (some ⟨p8, 0, none⟩) := (hF18 2).trans rfl
 clear hF18
 refine then_normal ?_
 refine wq_seq ?_
 refine wq_tail 7 [some 3, some 4, some 5, some 6, some 7, some 8, some 9] [Pd.eq (.pointer (some ⟨p1, 0, none⟩)), Pd.eq (.int .i64 (X)), Pd.eq (.int .i64 (cl 64 (X))), Pd.eq (.pointer (some ⟨p1, 1, none⟩)), Pd.eq (.int .i64 (Y)), Pd.eq (.int .i64 (cl 64 (Y))), Pd.eq (.agg #[.int .i64 (cl 64 (X)), .int .i64 (cl 64 (Y))])] (by kernel_rfl) (by kernel_rfl) (by kernel_rfl) ?_ ?_
 ·refine stepsF_cons ?_ ?_
  ·refine StepF.one rfl fun F_ w_ hR hout hD => ?_
   exact (y_fieldR (n := 1) rfl ((hout 1 rfl (by decide)).trans s20) Tryd.underlying23 rfl (by kernel_rfl) (by decide) rfl ⟨rfl, Kept.refl _ _⟩)
  refine stepsF_cons ?_ ?_
  ·refine StepF.one rfl fun F_ w_ hR hout hD => ?_
   have g3 : F_ 3 = .pointer (some ⟨p1, 0, none⟩) := (hD.get 0 rfl rfl rfl)
   exact (y_ld_stc rfl g3 Tryd.underlying3 (B15.all hR id) rfl rfl ⟨rfl, Kept.refl _ _⟩)
  refine stepsF_cons ?_ ?_
  ·refine StepF.one rfl fun F_ w_ hR hout hD => ?_
   have g4 : F_ 4 = .int .i64 (X) := (hD.get 0 rfl rfl rfl)
   exact (y_cs rfl rfl rfl (fun _ _ => by kernel_rfl) (ev_func _) (vsC g4 vsN) (vt_clamped (X)  _   ) (fun e_ w_ h_ => ⟨_, h_.1, rfl, h_.2⟩))
  refine stepsF_cons ?_ ?_
  ·refine StepF.one rfl fun F_ w_ hR hout hD => ?_
   exact (y_fieldR (n := 1) rfl ((hout 1 rfl (by decide)).trans s20) Tryd.underlying23 rfl (by kernel_rfl) (by decide) rfl ⟨rfl, Kept.refl _ _⟩)
  refine stepsF_cons ?_ ?_
  ·refine StepF.one rfl fun F_ w_ hR hout hD => ?_
   have g6 : F_ 6 = .pointer (some ⟨p1, 1, none⟩) := (hD.get 0 rfl rfl rfl)
   exact (y_ld_stc rfl g6 Tryd.underlying3 (B15.all hR id) rfl rfl ⟨rfl, Kept.refl _ _⟩)
  refine stepsF_cons ?_ ?_
  ·refine StepF.one rfl fun F_ w_ hR hout hD => ?_
   have g7 : F_ 7 = .int .i64 (Y) := (hD.get 0 rfl rfl rfl)
   exact (y_cs rfl rfl rfl (fun _ _ => by kernel_rfl) (ev_func _) (vsC g7 vsN) (vt_clamped (Y)  _   ) (fun e_ w_ h_ => ⟨_, h_.1, rfl, h_.2⟩))
  refine stepsF_cons ?_ ?_
  ·refine StepF.one rfl fun F_ w_ hR hout hD => ?_
   have g5 : F_ 5 = .int .i64 (cl 64 (X)) := (hD.get 0 rfl rfl rfl)
   have g8 : F_ 8 = .int .i64 (cl 64 (Y)) := (hD.get 1 rfl rfl rfl)
   exact (y_buildL (l' := [(0, .int .i64 (cl 64 (X))), (1, .int .i64 (cl 64 (Y)))]) (cells := #[.int .i64 (cl 64 (X)), .int .i64 (cl 64 (Y))]) rfl (bpC g5 (bpC g8 bpN)) (by kernel_rfl) rfl ⟨rfl, Kept.refl _ _⟩)
  exact stepsF_nil
 intro v22 F23 w24 k25 G26 hF27
 have B30 := B11.all k25 id
 have K31 := K16.trans k25 (fun _ _ x => x.elim)
 have s32 := (hF27 10).trans s19
 have s33 := (hF27 2).trans s21
 have s34 : F23 9 = .agg #[.int .i64 (cl 64 (X)), .int .i64 (cl 64 (Y))] := (hF27 9).trans (G26 6 (by decide))
 clear G26 hF27
 refine wl_store_stc (us := [.int .i64 (cl 64 (X)), .int .i64 (cl 64 (Y))]) stcT_vector rfl rfl rfl s33 s34 B30 rfl (oneI rfl (oneI rfl oneN)) fun w35 B36 k37 => ?_
 have K39 := K31.trans k37 (Grew.ok (S := fun _ => False) gr13 noB_le)
 refine wl_nil fun F40 hF41 => ?_
 have s42 := (hF41 10).trans s32
 have s43 := (hF41 2).trans s33
 clear hF41
 refine then_normal ?_
 refine wq_ret ?_
 exact end_stc (vs := [.int .i64 (cl 64 (X)), .int .i64 (cl 64 (Y))]) stcT_vector s42 rfl rfl s43 B36 ⟨rfl, K39⟩
set_option maxHeartbeats 4000000 in
set_option maxRecDepth 100000 in
theorem vt_write (p : Nat) (bs : List Bool) (X Y A B : Int) (T_w : Nat → Prop) (w0 : World) (hm : bs.length + 200 < 1099511627776) (h_w : Wri w0 T_w p (bs)) :
  Calls Tryd.prog 35 #[.pointer (some ⟨p, 0, none⟩), .agg #[.int .i64 (X), .int .i64 (Y)], .agg #[.int .i64 (A), .int .i64 (B)]] w0 fun e w' => ∃ (T_w' : Nat → Prop), e = .returned (.tuple #[]) ∧ Kept (T_w) w0 w' ∧ (Wri w' T_w' p (bs ++ vecBits X Y A B) ∧ Grew w0 T_w T_w') := by
 refine calls_wq (args := [.pointer (some ⟨p, 0, none⟩), .agg #[.int .i64 (X), .int .i64 (Y)], .agg #[.int .i64 (A), .int .i64 (B)]]) 24 Tryd.func35 rfl rfl (Nat.le_of_ble_eq_true rfl) ?_
 have K0 := Kept.refl (T_w) w0
 have h1 := cl64 X
 have h2 := cl64 Y
 have h3 := cl64 A
 have h4 := cl64 B
 have h5 := signedBits_short (cl 64 X - cl 64 A)
 have g_w := Grew.refl w0 T_w
 refine wq_seq ?_
 refine wq_region ?_
 refine wl_box_stc (vs := [.int .i64 (X), .int .i64 (Y)]) rfl rfl rfl rfl fun p1 w2 B4 g5 k3 => ?_
 have gr6 : Grew w0 noB (onB p1) := Grew.new K0 g5
 have ap7 : Apart (onB p1) (T_w) := Apart.new g5 (h_w).live
 have B8 := h_w.all k3 Apart.none
 have K9 := K0.trans k3 (fun _ _ x => x.elim)
 refine wl_box_stc (vs := [.int .i64 (A), .int .i64 (B)]) rfl rfl rfl rfl fun p10 w11 B13 g14 k12 => ?_
 have gr15 : Grew w0 noB (onB p10) := Grew.new K9 g14
 have ap16 : Apart (onB p10) (T_w) := Apart.new g14 (B8).live
 have ap17 : Apart (onB p10) (onB p1) := Apart.new g14 (onB_live (B4).lt)
 have B18 := B8.all k12 Apart.none
 have B19 := B4.all k12 id
 have K20 := K9.trans k12 (fun _ _ x => x.elim)
 refine wl_nil fun F21 hF22 => ?_
 have s23 : F21 0 = .pointer (some ⟨p, 0, none⟩) := (hF22 0).trans rfl
 have s24 : F21 24 = undef := (hF22 24).trans rfl
 have s25 : F21 4 = .pointer (some ⟨p1, 0, none⟩) := (hF22 4).trans rfl
 have s26 : F21 5 = .pointer (some ⟨p10, 0, none⟩) := (hF22 5).trans rfl
 clear hF22
 refine then_normal ?_
 refine wq_seq ?_
 refine wq_tail 4 [some 6, some 7, some 8, some 9] [Pd.eq (.agg #[.int .i64 (X), .int .i64 (Y)]), Pd.eq (.agg #[.int .i64 (cl 64 (X)), .int .i64 (cl 64 (Y))]), Pd.eq (.agg #[.int .i64 (A), .int .i64 (B)]), Pd.eq (.agg #[.int .i64 (cl 64 (A)), .int .i64 (cl 64 (B))])] (by kernel_rfl) (by kernel_rfl) (by kernel_rfl) ?_ ?_
 ·refine stepsF_cons ?_ ?_
  ·refine StepF.one rfl fun F_ w_ hR hout hD => ?_
   exact (y_load_stc stcT_vector rfl ((hout 4 rfl (by decide)).trans s25) (B19.all hR id) ⟨rfl, Kept.refl _ _⟩)
  refine stepsF_cons ?_ ?_
  ·refine StepF.one rfl fun F_ w_ hR hout hD => ?_
   have g6 : F_ 6 = .agg #[.int .i64 (X), .int .i64 (Y)] := (hD.get 0 rfl rfl rfl)
   exact (y_cs rfl rfl rfl (fun _ _ => by kernel_rfl) (ev_func _) (vsC g6 vsN) (vt_near (X) (Y)  _   ) (fun e_ w_ h_ => ⟨_, h_.1, rfl, h_.2⟩))
  refine stepsF_cons ?_ ?_
  ·refine StepF.one rfl fun F_ w_ hR hout hD => ?_
   exact (y_load_stc stcT_vector rfl ((hout 5 rfl (by decide)).trans s26) (B13.all hR id) ⟨rfl, Kept.refl _ _⟩)
  refine stepsF_cons ?_ ?_
  ·refine StepF.one rfl fun F_ w_ hR hout hD => ?_
   have g8 : F_ 8 = .agg #[.int .i64 (A), .int .i64 (B)] := (hD.get 0 rfl rfl rfl)
   exact (y_cs rfl rfl rfl (fun _ _ => by kernel_rfl) (ev_func _) (vsC g8 vsN) (vt_near (A) (B)  _   ) (fun e_ w_ h_ => ⟨_, h_.1, rfl, h_.2⟩))
  exact stepsF_nil
 intro v27 F28 w29 k30 G31 hF32
 have B34 := B18.all k30 Apart.none
 have B35 := B19.all k30 id
 have B36 := B13.all k30 id
 have K37 := K20.trans k30 (fun _ _ x => x.elim)
 have s38 := (hF32 0).trans s23
 have s39 := (hF32 24).trans s24
 have s40 := (hF32 4).trans s25
 have s41 := (hF32 5).trans s26
 have s42 : F28 7 = .agg #[.int .i64 (cl 64 (X)), .int .i64 (cl 64 (Y))] := (hF32 7).trans (G31 1 (by decide))
 have s43 : F28 9 = .agg #[.int .i64 (cl 64 (A)), .int .i64 (cl 64 (B))] := (hF32 9).trans (G31 3 (by decide))
 clear G31 hF32
 refine wl_store_stc (us := [.int .i64 (cl 64 (X)), .int .i64 (cl 64 (Y))]) stcT_vector rfl rfl rfl s40 s42 B35 rfl (oneI rfl (oneI rfl oneN)) fun w44 B45 k46 => ?_
 have B47 := B34.all k46 (fun i h x => (((ap7).symm) i h x))
 have B48 := B36.all k46 (fun x => ((ap17) p10 rfl x))
 have K49 := K37.trans k46 (Grew.ok (S := T_w) gr6 noB_le)
 refine wl_store_stc (us := [.int .i64 (cl 64 (A)), .int .i64 (cl 64 (B))]) stcT_vector rfl rfl rfl s41 s43 B48 rfl (oneI rfl (oneI rfl oneN)) fun w50 B51 k52 => ?_
 have B53 := B47.all k52 (fun i h x => (((ap16).symm) i h x))
 have B54 := B45.all k52 (fun x => (((ap17).symm) p1 rfl x))
 have K55 := K49.trans k52 (Grew.ok (S := T_w) gr15 noB_le)
 refine wl_nil fun F56 hF57 => ?_
 have s58 := (hF57 0).trans s38
 have s59 := (hF57 24).trans s39
 have s60 := (hF57 4).trans s40
 have s61 := (hF57 5).trans s41
 clear hF57
 refine then_normal ?_
 refine wq_seq ?_
 refine wq_region ?_
 refine wl_v (.pointer (some ⟨p, 0, none⟩)) rfl rfl (y_mov rfl s58 ⟨rfl, rfl⟩) ?_
 refine wl_v (.pointer (some ⟨p1, 0, none⟩)) rfl rfl (y_fieldR (n := 1) rfl s60 Tryd.underlying23 rfl (by kernel_rfl) (by decide) rfl ⟨rfl, rfl⟩) ?_
 refine wl_v (.int .i64 (cl 64 (X))) rfl rfl (y_ld_stc rfl rfl Tryd.underlying3 B54 rfl rfl ⟨rfl, rfl⟩) ?_
 refine wl_v (.pointer (some ⟨p10, 0, none⟩)) rfl rfl (y_fieldR (n := 1) rfl s61 Tryd.underlying23 rfl (by kernel_rfl) (by decide) rfl ⟨rfl, rfl⟩) ?_
 refine wl_v (.int .i64 (cl 64 (A))) rfl rfl (y_ld_stc rfl rfl Tryd.underlying3 B51 rfl rfl ⟨rfl, rfl⟩) ?_
 refine wl_v (.int .i64 ((cl 64 (X)) - (cl 64 (A)))) rfl rfl (y_sub rfl rfl rfl (i64_i rfl (by omega)) ⟨rfl, rfl⟩) ?_
 refine wl_call (R := fun v_ w_ => ∃ (T64 : Nat → Prop), .tuple #[] = v_ ∧ Kept (T_w) w50 w_ ∧ (Wri w_ T64 p ((bs) ++ signedBits ((cl 64 (X)) - (cl 64 (A)))) ∧ Grew w50 (T_w) T64)) rfl rfl (y_cs rfl rfl rfl (fun _ _ => by kernel_rfl) (ev_func _) (vsC rfl (vsC rfl vsN)) (t_signed (p) (bs) ((cl 64 (X)) - (cl 64 (A))) (T_w) _ (by omega) B53 ) (fun e_ w_ h_ => by obtain ⟨T64_, he_, hr_⟩ := h_; exact ⟨_, he_, T64_, rfl, hr_⟩)) ?_
 rintro _ w62 ⟨T64, rfl, k63, ⟨B65, g66⟩⟩
 have B67 := B54.all k63 (fun x => ((ap7) p1 rfl x))
 have B68 := B51.all k63 (fun x => ((ap16) p10 rfl x))
 have K69 := K55.trans k63 (fun i hi x => ((Grew.ok (S := T_w) g_w (fun _ x => x)) i hi x))
 have gr70 := g_w.trans K55 g66
 refine wl_nil fun F73 hF74 => ?_
 have s75 := (hF74 0).trans s58
 have s76 := (hF74 24).trans s59
 have s77 := (hF74 4).trans s60
 have s78 := (hF74 5).trans s61
 clear hF74
 refine then_normal ?_
 refine wq_region ?_
 refine wl_v (.pointer (some ⟨p, 0, none⟩)) rfl rfl (y_mov rfl s75 ⟨rfl, rfl⟩) ?_
 refine wl_v (.pointer (some ⟨p1, 1, none⟩)) rfl rfl (y_fieldR (n := 1) rfl s77 Tryd.underlying23 rfl (by kernel_rfl) (by decide) rfl ⟨rfl, rfl⟩) ?_
 refine wl_v (.int .i64 (cl 64 (Y))) rfl rfl (y_ld_stc rfl rfl Tryd.underlying3 B67 rfl rfl ⟨rfl, rfl⟩) ?_
 refine wl_v (.pointer (some ⟨p10, 1, none⟩)) rfl rfl (y_fieldR (n := 1) rfl s78 Tryd.underlying23 rfl (by kernel_rfl) (by decide) rfl ⟨rfl, rfl⟩) ?_
 refine wl_v (.int .i64 (cl 64 (B))) rfl rfl (y_ld_stc rfl rfl Tryd.underlying3 B68 rfl rfl ⟨rfl, rfl⟩) ?_
 refine wl_v (.int .i64 ((cl 64 (Y)) - (cl 64 (B)))) rfl rfl (y_sub rfl rfl rfl (i64_i rfl (by omega)) ⟨rfl, rfl⟩) ?_
 refine wl_call (R := fun v_ w_ => ∃ (T81 : Nat → Prop), .tuple #[] = v_ ∧ Kept (T64) w62 w_ ∧ (Wri w_ T81 p (((bs) ++ signedBits ((cl 64 (X)) - (cl 64 (A)))) ++ signedBits ((cl 64 (Y)) - (cl 64 (B)))) ∧ Grew w62 (T64) T81)) rfl rfl (y_cs rfl rfl rfl (fun _ _ => by kernel_rfl) (ev_func _) (vsC rfl (vsC rfl vsN)) (t_signed (p) ((bs) ++ signedBits ((cl 64 (X)) - (cl 64 (A)))) ((cl 64 (Y)) - (cl 64 (B))) (T64) _ (by rw [List.length_append]; omega) B65 ) (fun e_ w_ h_ => by obtain ⟨T81_, he_, hr_⟩ := h_; exact ⟨_, he_, T81_, rfl, hr_⟩)) ?_
 rintro _ w79 ⟨T81, rfl, k80, ⟨B82, g83⟩⟩
 have K86 := K69.trans k80 (fun i hi x => ((Grew.ok (S := T_w) gr70 (fun _ x => x)) i hi x))
 have gr87 := gr70.trans K69 g83
 refine wl_nil fun F90 hF91 => ?_
 have s92 := (hF91 24).trans s76
 clear hF91
 exact end_none s92 rfl ⟨T81, rfl, K86, ⟨(by unfold vecBits; rw [← List.append_assoc]; exact B82), gr87⟩⟩
end Go.Proofs.YtdcbabgcbkdlhaaDoor
