/- What HeadApart reaches of my texts, part 2. -/
import Derived.Test.YtnccblhdokplkaaHeadApartA
set_option maxRecDepth 100000
set_option maxRecDepth 100000
namespace Go.Proofs.Ytnccblhdokplkaa
open Go.RowKit

/-- What is said of an operation: what it answers; that it turns the block of operation j; that it makes a block that holds zs until operation k, and us from then on; that it turns a block that was there. -/
inductive Pc where
  | eq (v : Value)
  | turn (j : Nat)
  | blk (t : TypeId) (zs : List Value) (k : Nat) (us : List Value)
  | told (p : Nat) (t : TypeId) (zs us : List Value)
def Pc.none : Pc := .eq undef
def isBlk : Pc → Bool
  | .blk _ _ _ _ => true
  | _ => false
def HoldC (n0 : Nat) (p : Pc) (L : Nat → Bool) (v : Value) (w : World) : Prop := match p with
  | .eq x => v = x
  | .turn _ => True
  | .told _ _ _ _ => True
  | .blk t zs k us => ∃ q, v = .pointer (some ⟨q, 0, none⟩) ∧ n0 ≤ q ∧ Stc w q t (if L k = true then us else zs)
/-- The blocks that were there and are turned: they are there, and none is another one. -/
def NotTold (p : Nat) : List Pc → Prop
  | [] => True
  | .told q _ _ _ :: r => p ≠ q ∧ NotTold p r
  | .eq _ :: r => NotTold p r
  | .turn _ :: r => NotTold p r
  | .blk _ _ _ _ :: r => NotTold p r
def Olds (S : Nat → Prop) (w0 : World) : List Pc → Prop
  | [] => True
  | .told p t zs _ :: r => (S p ∧ Stc w0 p t zs ∧ NotTold p r) ∧ Olds S w0 r
  | .eq _ :: r => Olds S w0 r
  | .turn _ :: r => Olds S w0 r
  | .blk _ _ _ _ :: r => Olds S w0 r
theorem NotTold.at {p : Nat} : ∀ {Gs : List Pc}, NotTold p Gs → ∀ i q t zs us, Gs.getD i Pc.none = .told q t zs us → p ≠ q := by
  intro Gs
  induction Gs with
  | nil => intro _ i q t zs us h; cases h
  | cons g r ih =>
    intro h i q t zs us e
    cases i with
    | zero =>
      have e : g = .told q t zs us := by simpa using e
      subst e; exact h.1
    | succ i =>
      have e : r.getD i Pc.none = .told q t zs us := by simpa using e
      cases g <;> first | exact ih h.2 i q t zs us e | exact ih h i q t zs us e
theorem Olds.at {S : Nat → Prop} {w0 : World} : ∀ {Gs : List Pc}, Olds S w0 Gs → ∀ i p t zs us, Gs.getD i Pc.none = .told p t zs us → S p ∧ Stc w0 p t zs := by
  intro Gs
  induction Gs with
  | nil => intro _ i q t zs us h; cases h
  | cons g r ih =>
    intro h i q t zs us e
    cases i with
    | zero =>
      have e : g = .told q t zs us := by simpa using e
      subst e; exact ⟨h.1.1, h.1.2.1⟩
    | succ i =>
      have e : r.getD i Pc.none = .told q t zs us := by simpa using e
      cases g <;> first | exact ih h.2 i q t zs us e | exact ih h i q t zs us e
theorem Olds.ne {S : Nat → Prop} {w0 : World} : ∀ {Gs : List Pc}, Olds S w0 Gs → ∀ i j p t zs us p' t' zs' us', i ≠ j → Gs.getD i Pc.none = .told p t zs us → Gs.getD j Pc.none = .told p' t' zs' us' → p ≠ p' := by
  intro Gs
  induction Gs with
  | nil => intro _ i j p t zs us p' t' zs' us' _ h; cases h
  | cons g r ih =>
    intro h i j p t zs us p' t' zs' us' hij e1 e2
    cases i with
    | zero =>
      have e1 : g = .told p t zs us := by simpa using e1
      subst e1
      cases j with
      | zero => exact absurd rfl hij
      | succ j => exact h.1.2.2.at j p' t' zs' us' (by simpa using e2)
    | succ i =>
      cases j with
      | zero =>
        have e2 : g = .told p' t' zs' us' := by simpa using e2
        subst e2
        exact fun e => h.1.2.2.at i p t zs us (by simpa using e1) e.symm
      | succ j =>
        have hr : Olds S w0 r := by cases g <;> first | exact h.2 | exact h
        exact ih hr i j p t zs us p' t' zs' us' (fun e => hij (by rw [e])) (by simpa using e1) (by simpa using e2)
structure JC (S : Nat → Prop) (w0 : World) (Gs : List Pc) (L : Nat → Bool) (v : Nat → Value) (w : World) : Prop where
  kept : Kept S w0 w
  olds : ∀ i p t zs us, Gs.getD i Pc.none = .told p t zs us → Stc w p t (if L i = true then us else zs)
  holds : ∀ i, L i = true → HoldC w0.heap.size (Gs.getD i Pc.none) L (v i) w
  apart : ∀ i j, i ≠ j → L i = true → L j = true → isBlk (Gs.getD i Pc.none) = true → isBlk (Gs.getD j Pc.none) = true → v i ≠ v j
  clos : ∀ k j, L k = true → Gs.getD k Pc.none = .turn j → L j = true
/-- Each block is turned by one operation, that waits for it. -/
def wfAt (os : List Oper) (D : List (Option Tmp)) (Gs : List Pc) (i : Nat) : Pc → Bool
  | .eq _ => true
  | .told _ _ _ _ => true
  | .turn j => (match Gs.getD j Pc.none with | .blk _ _ k _ => k == i | _ => false) && (match D.getD j none with | some _ => true | none => false) && (match os[i]? with | some o => waitsOn o j | none => false)
  | .blk _ _ k _ => match Gs.getD k Pc.none with | .turn j => j == i | _ => false
def wfC (os : List Oper) (D : List (Option Tmp)) (Gs : List Pc) : Bool := (List.range Gs.length).all fun i => wfAt os D Gs i (Gs.getD i Pc.none)
theorem wfC_at {os : List Oper} {D : List (Option Tmp)} {Gs : List Pc} (h : wfC os D Gs = true) (i : Nat) : wfAt os D Gs i (Gs.getD i Pc.none) = true := by
  by_cases hi : i < Gs.length
  · exact List.all_eq_true.1 h i (List.mem_range.2 hi)
  · have : Gs.getD i Pc.none = Pc.none := by simp [List.getD, List.getElem?_eq_none (show Gs.length ≤ i by omega)]
    rw [this]; rfl
theorem wf_blk {os : List Oper} {D : List (Option Tmp)} {Gs : List Pc} (h : wfC os D Gs = true) {i k : Nat} {t : TypeId} {zs us : List Value} (e : Gs.getD i Pc.none = .blk t zs k us) : Gs.getD k Pc.none = .turn i := by
  have := wfC_at h i
  rw [e] at this
  simp only [wfAt] at this
  split at this
  · rename_i j hj; rw [hj]; have : j = i := by simpa using this
    rw [this]
  · cases this

/-- What is told to operation i of those that it waits for. -/
def ToldC (n0 : Nat) (Gs : List Pc) (i : Nat) : Nat → Value → World → Prop := fun j v w => match Gs.getD j Pc.none with
  | .eq x => v = x
  | .turn _ => True
  | .told _ _ _ _ => True
  | .blk t zs k _ => k = i → ∃ q, v = .pointer (some ⟨q, 0, none⟩) ∧ n0 ≤ q ∧ Stc w q t zs
def LeftC (Gs : List Pc) (D : List (Option Tmp)) (i : Nat) (ρ : Operand → Value) (w : World) (v : Value) (w' : World) : Prop := match Gs.getD i Pc.none with
  | .eq x => v = x ∧ Kept (fun _ => False) w w'
  | .blk t zs _ _ => ∃ q, v = .pointer (some ⟨q, 0, none⟩) ∧ w.heap.size ≤ q ∧ Stc w' q t zs ∧ Kept (fun _ => False) w w'
  | .told p t _ us => Stc w' p t us ∧ Kept (onB p) w w'
  | .turn j => ∃ d q, D.getD j none = some d ∧ ρ (.tmp d) = .pointer (some ⟨q, 0, none⟩) ∧ (∀ t zs us, Gs.getD j Pc.none = .blk t zs i us → Stc w' q t us) ∧ Kept (onB q) w w'
section
variable {P : Program} {N : Nat} {F : Nat → Value} {w : World} {Q : Exit → (Nat → Value) → World → Prop}
def StepFC (S : Nat → Prop) (N : Nat) (P : Program) (D : List (Option Tmp)) (Gs : List Pc) (F0 : Nat → Value) (w0 : World) (i : Nat) (o : Oper) : Prop :=
  ∀ (F : Nat → Value) (w : World), Kept S w0 w → (∀ t, Nat.blt t N = true → some t ∉ D → F t = F0 t) → DepsF D (ToldC w0.heap.size Gs i) F w o.after.toList → (∀ p t zs us, Gs.getD i Pc.none = .told p t zs us → Stc w p t zs) →
    match o.guard with
    | none => Yields P (ev F) o w (LeftC Gs D i (ev F) w)
    | some (j, want) => ∃ d, D.getD j none = some d ∧
      ((F d = .bool want ∧ Yields P (ev F) o w (LeftC Gs D i (ev F) w)) ∨ ((F d = .bool (!want) ∨ F d = undef) ∧ Gs.getD i Pc.none = .eq undef))
def StepsFC (S : Nat → Prop) (N : Nat) (P : Program) (D : List (Option Tmp)) (Gs : List Pc) (F0 : Nat → Value) (w0 : World) : Nat → List Oper → Prop
  | _, [] => True
  | i, o :: r => StepFC S N P D Gs F0 w0 i o ∧ StepsFC S N P D Gs F0 w0 (i + 1) r
theorem StepFC.one {S : Nat → Prop} {D : List (Option Tmp)} {Gs : List Pc} {F0 : Nat → Value} {w0 : World} {i : Nat} {o : Oper} (hg : o.guard = none)
    (h : ∀ (F : Nat → Value) (w : World), Kept S w0 w → (∀ t, Nat.blt t N = true → some t ∉ D → F t = F0 t) → DepsF D (ToldC w0.heap.size Gs i) F w o.after.toList → Yields P (ev F) o w (LeftC Gs D i (ev F) w)) : StepFC S N P D Gs F0 w0 i o := by
  intro F w h1 h2 h3 _
  rw [hg]
  exact h F w h1 h2 h3
theorem StepFC.old {S : Nat → Prop} {D : List (Option Tmp)} {Gs : List Pc} {F0 : Nat → Value} {w0 : World} {i p : Nat} {t : TypeId} {zs us : List Value} {o : Oper} (hg : o.guard = none) (he : Gs.getD i Pc.none = .told p t zs us)
    (h : ∀ (F : Nat → Value) (w : World), Kept S w0 w → (∀ t, Nat.blt t N = true → some t ∉ D → F t = F0 t) → DepsF D (ToldC w0.heap.size Gs i) F w o.after.toList → Stc w p t zs → Yields P (ev F) o w (fun _ w' => Stc w' p t us ∧ Kept (onB p) w w')) : StepFC S N P D Gs F0 w0 i o := by
  intro F w h1 h2 h3 h4
  rw [hg]
  refine (h F w h1 h2 h3 (h4 _ _ _ _ he)).mono' fun v w' hx => ?_
  unfold LeftC
  rw [he]; exact hx
theorem StepFC.when {S : Nat → Prop} {D : List (Option Tmp)} {Gs : List Pc} {F0 : Nat → Value} {w0 : World} {i : Nat} {o : Oper} (j : Nat) (want : Bool) (d : Tmp) (hg : o.guard = some (j, want)) (hd : D.getD j none = some d)
    (h : ∀ (F : Nat → Value) (w : World), Kept S w0 w → (∀ t, Nat.blt t N = true → some t ∉ D → F t = F0 t) → DepsF D (ToldC w0.heap.size Gs i) F w o.after.toList → F d = .bool want ∧ Yields P (ev F) o w (LeftC Gs D i (ev F) w)) : StepFC S N P D Gs F0 w0 i o := by
  intro F w h1 h2 h3 _
  rw [hg]
  exact ⟨d, hd, .inl (h F w h1 h2 h3)⟩
theorem StepFC.unless {S : Nat → Prop} {D : List (Option Tmp)} {Gs : List Pc} {F0 : Nat → Value} {w0 : World} {i : Nat} {o : Oper} (j : Nat) (want : Bool) (d : Tmp) (hg : o.guard = some (j, want)) (hd : D.getD j none = some d)
    (h : ∀ (F : Nat → Value) (w : World), Kept S w0 w → (∀ t, Nat.blt t N = true → some t ∉ D → F t = F0 t) → DepsF D (ToldC w0.heap.size Gs i) F w o.after.toList → (F d = .bool (!want) ∨ F d = undef) ∧ Gs.getD i Pc.none = .eq undef) : StepFC S N P D Gs F0 w0 i o := by
  intro F w h1 h2 h3 _
  rw [hg]
  exact ⟨d, hd, .inr (h F w h1 h2 h3)⟩

theorem upL_here {L : Nat → Bool} {i : Nat} : upL L i i = true := if_pos rfl
theorem upL_ne {L : Nat → Bool} {i j : Nat} (h : j ≠ i) : upL L i j = L j := if_neg h
theorem upV_here {v : Nat → Value} {i : Nat} {x : Value} : upV v i x i = x := if_pos rfl
theorem upV_ne {v : Nat → Value} {i j : Nat} {x : Value} (h : j ≠ i) : upV v i x j = v j := if_neg h
theorem getElem_getD {α : Type} {l : List α} {d x : α} {i : Nat} (h : l.getD i d = x) (hn : x ≠ d) : l[i]? = some x := by
  unfold List.getD at h
  cases hq : l[i]? with
  | none => rw [hq] at h; exact absurd h.symm hn
  | some y => rw [hq] at h; simpa using h

/-- One more operation that is no turn. -/
theorem JC.more {S : Nat → Prop} {os : List Oper} {D : List (Option Tmp)} {Gs : List Pc} {w0 w w' : World} {L : Nat → Bool} {v : Nat → Value} {i : Nat} {x : Value} (hwf : wfC os D Gs = true) (h : JC S w0 Gs L v w) (hi : L i = false) (k : Kept (fun _ => False) w w')
    (hnt : ∀ j, Gs.getD i Pc.none ≠ .turn j) (hnd : ∀ p t zs us, Gs.getD i Pc.none ≠ .told p t zs us) (hx : HoldC w0.heap.size (Gs.getD i Pc.none) (upL L i) x w') (hb : isBlk (Gs.getD i Pc.none) = true → ∃ q, x = .pointer (some ⟨q, 0, none⟩) ∧ w.heap.size ≤ q) : JC S w0 Gs (upL L i) (upV v i x) w' := by
  have hkeep : ∀ j, L j = true → HoldC w0.heap.size (Gs.getD j Pc.none) (upL L i) (v j) w' := by
    intro j hj
    have := h.holds j hj
    revert this
    cases e : Gs.getD j Pc.none with
    | eq y => exact id
    | turn y => exact id
    | told y1 y2 y3 y4 => exact id
    | blk t zs kk us =>
      rintro ⟨q, e1, e2, e3⟩
      have hki : kk ≠ i := fun e' => hnt j (by rw [← e']; exact wf_blk hwf e)
      refine ⟨q, e1, e2, ?_⟩
      rw [upL_ne hki]
      exact e3.all k id
  refine ⟨h.kept.trans k (fun _ _ x => x.elim), fun j p t zs us hj => ?_, fun j hj => ?_, fun a b hab ha hb' hA hB => ?_, fun a b ha hab => ?_⟩
  · have hji : j ≠ i := fun e => hnd p t zs us (by rw [← e]; exact hj)
    rw [upL_ne hji]
    exact (h.olds j p t zs us hj).all k id
  · by_cases hji : j = i
    · subst hji; rw [upV_here]; exact hx
    · rw [upL_ne hji] at hj; rw [upV_ne hji]; exact hkeep j hj
  · have hnew : ∀ c, c ≠ i → L c = true → isBlk (Gs.getD c Pc.none) = true → isBlk (Gs.getD i Pc.none) = true → v c ≠ x := by
      intro c _ hc hC hI e
      obtain ⟨q, e1, e2⟩ := hb hI
      have := h.holds c hc
      revert this hC
      cases e' : Gs.getD c Pc.none with
      | eq y => intro hC; cases hC
      | turn y => intro hC; cases hC
      | told y1 y2 y3 y4 => intro hC; cases hC
      | blk t zs kk us =>
        rintro - ⟨q', f1, f2, f3⟩
        rw [f1, e1] at e
        cases e
        have := f3.lt
        omega
    by_cases hai : a = i
    · subst hai
      have hba : b ≠ a := fun e => hab e.symm
      rw [upL_ne hba] at hb'
      rw [upV_here, upV_ne hba]
      exact fun e => hnew b hba hb' hB hA e.symm
    · rw [upL_ne hai] at ha
      rw [upV_ne hai]
      by_cases hbi : b = i
      · subst hbi; rw [upV_here]; exact hnew a hai ha hA hB
      · rw [upL_ne hbi] at hb'; rw [upV_ne hbi]; exact h.apart a b hab ha hb' hA hB
  · by_cases hai : a = i
    · subst hai; exact absurd hab (hnt b)
    · rw [upL_ne hai] at ha
      have := h.clos a b ha hab
      by_cases hbi : b = i
      · subst hbi; exact upL_here
      · rw [upL_ne hbi]; exact this
/-- One more turn. -/
theorem JC.turned {S : Nat → Prop} {os : List Oper} {D : List (Option Tmp)} {Gs : List Pc} {w0 w w' : World} {L : Nat → Bool} {v : Nat → Value} {i j q : Nat} {x : Value} (hwf : wfC os D Gs = true) (hO : Olds S w0 Gs) (h : JC S w0 Gs L v w) (hi : L i = false) (hj : L j = true) (he : Gs.getD i Pc.none = .turn j)
    (hv : v j = .pointer (some ⟨q, 0, none⟩)) (hq : ∀ t zs us, Gs.getD j Pc.none = .blk t zs i us → Stc w' q t us) (k : Kept (onB q) w w') : JC S w0 Gs (upL L i) (upV v i x) w' := by
  have hw := wfC_at hwf i
  rw [he] at hw
  simp only [wfAt, Bool.and_eq_true] at hw
  have hn0 : w0.heap.size ≤ q := by
    have := h.holds j hj
    revert this
    obtain ⟨⟨h1, _⟩, _⟩ := hw
    cases e : Gs.getD j Pc.none with
    | eq y => rw [e] at h1; cases h1
    | turn y => rw [e] at h1; cases h1
    | told y1 y2 y3 y4 => rw [e] at h1; cases h1
    | blk t zs kk us =>
      rintro ⟨q', e1, e2, _⟩
      rw [hv] at e1; cases e1; exact e2
  have hjB : isBlk (Gs.getD j Pc.none) = true := by
    obtain ⟨⟨h1, _⟩, _⟩ := hw
    cases e : Gs.getD j Pc.none with
    | eq y => rw [e] at h1; cases h1
    | turn y => rw [e] at h1; cases h1
    | told y1 y2 y3 y4 => rw [e] at h1; cases h1
    | blk t zs kk us => rfl
  refine ⟨h.kept.trans k (fun b hb e => by cases e; omega), fun a p t zs us ha => ?_, fun a ha => ?_, fun a b hab ha hb hA hB => ?_, fun a b ha hab => ?_⟩
  · have hai : a ≠ i := fun e => by rw [e, he] at ha; cases ha
    rw [upL_ne hai]
    exact (h.olds a p t zs us ha).all k (fun e => by have := (hO.at a p t zs us ha).2.lt; rw [show p = q from e] at this; omega)
  · by_cases hai : a = i
    · subst hai; rw [upV_here, he]; exact trivial
    · rw [upL_ne hai] at ha; rw [upV_ne hai]
      have := h.holds a ha
      revert this
      cases e : Gs.getD a Pc.none with
      | eq y => exact id
      | turn y => exact id
      | told y1 y2 y3 y4 => exact id
      | blk t zs kk us =>
        rintro ⟨q', e1, e2, e3⟩
        have hk := wf_blk hwf e
        by_cases haj : a = j
        · subst haj
          have hki : kk = i := by
            obtain ⟨⟨h1, _⟩, _⟩ := hw
            rw [e] at h1; simpa using h1
          subst hki
          rw [hv] at e1; cases e1
          refine ⟨q, hv, hn0, ?_⟩
          rw [if_pos upL_here]
          exact hq t zs us e
        · have hki : kk ≠ i := fun e' => by rw [e', he] at hk; cases hk; exact haj rfl
          refine ⟨q', e1, e2, ?_⟩
          rw [upL_ne hki]
          refine e3.all k (fun e' => ?_)
          have := h.apart a j haj ha hj (by rw [e]; rfl) hjB
          rw [e1, hv] at this
          exact this (by rw [show q' = q from e'])
  · have hni : ∀ c, isBlk (Gs.getD c Pc.none) = true → c ≠ i := fun c hc e => by rw [e, he] at hc; cases hc
    rw [upV_ne (hni a hA), upV_ne (hni b hB)]
    rw [upL_ne (hni a hA)] at ha
    rw [upL_ne (hni b hB)] at hb
    exact h.apart a b hab ha hb hA hB
  · by_cases hai : a = i
    · subst hai
      rw [he] at hab; cases hab
      by_cases hji : j = a
      · subst hji; exact upL_here
      · rw [upL_ne hji]; exact hj
    · rw [upL_ne hai] at ha
      have := h.clos a b ha hab
      by_cases hbi : b = i
      · subst hbi; exact upL_here
      · rw [upL_ne hbi]; exact this

/-- One more turn of a block that was there. -/
theorem JC.oldTurned {S : Nat → Prop} {os : List Oper} {D : List (Option Tmp)} {Gs : List Pc} {w0 w w' : World} {L : Nat → Bool} {v : Nat → Value} {i p : Nat} {t : TypeId} {zs us : List Value} {x : Value} (hwf : wfC os D Gs = true) (hO : Olds S w0 Gs) (h : JC S w0 Gs L v w) (he : Gs.getD i Pc.none = .told p t zs us)
    (hq : Stc w' p t us) (k : Kept (onB p) w w') : JC S w0 Gs (upL L i) (upV v i x) w' := by
  have hp := hO.at i p t zs us he
  have hni : ∀ c, isBlk (Gs.getD c Pc.none) = true → c ≠ i := fun c hc e => by rw [e, he] at hc; cases hc
  refine ⟨h.kept.trans k (fun b hb e => by cases e; exact hp.1), fun a p' t' zs' us' ha => ?_, fun a ha => ?_, fun a b hab ha hb hA hB => ?_, fun a b ha hab => ?_⟩
  · by_cases hai : a = i
    · subst hai
      rw [he] at ha; cases ha
      rw [if_pos upL_here]; exact hq
    · rw [upL_ne hai]
      exact (h.olds a p' t' zs' us' ha).all k (fun e => hO.ne a i p' t' zs' us' p t zs us hai ha he e)
  · by_cases hai : a = i
    · subst hai; rw [upV_here, he]; exact trivial
    · rw [upL_ne hai] at ha; rw [upV_ne hai]
      have := h.holds a ha
      revert this
      cases e : Gs.getD a Pc.none with
      | eq y => exact id
      | turn y => exact id
      | told y1 y2 y3 y4 => exact id
      | blk t zs kk us =>
        rintro ⟨q', e1, e2, e3⟩
        have hk := wf_blk hwf e
        have hki : kk ≠ i := fun e' => by rw [e', he] at hk; cases hk
        refine ⟨q', e1, e2, ?_⟩
        rw [upL_ne hki]
        exact e3.all k (fun e' => by have := hp.2.lt; rw [show q' = p from e'] at e2; omega)
  · rw [upV_ne (hni a hA), upV_ne (hni b hB)]
    rw [upL_ne (hni a hA)] at ha
    rw [upL_ne (hni b hB)] at hb
    exact h.apart a b hab ha hb hA hB
  · have hai : a ≠ i := fun e => by rw [e, he] at hab; cases hab
    rw [upL_ne hai] at ha
    have := h.clos a b ha hab
    by_cases hbi : b = i
    · subst hbi; exact upL_here
    · rw [upL_ne hbi]; exact this

theorem StepFC.step {S : Nat → Prop} {os : List Oper} {D : List (Option Tmp)} {Gs : List Pc} {w0 : World} {i : Nat} {o : Oper} {a0 : Act} (hwf : wfC os D Gs = true) (hO : Olds S w0 Gs) (ho : os[i]? = some o) (ha : Fr N F a0) (h : StepFC S N P D Gs F w0 i o) : StepJ os P D (JC S w0 Gs) a0 i o := by
  intro L v a w hJ hi hdone hout hhere _
  have hdeps : DepsF D (ToldC w0.heap.size Gs i) (fun t => a.tmps.getD t undef) w o.after.toList := by
    refine Deps.toF (Deps.mk fun e he hb d hd => ?_)
    have hl := hdone e he hb
    have hDe := getElem_getD hd (by simp)
    have hv := hhere e.on d hl hDe
    rw [hv]
    have := hJ.holds e.on hl
    unfold ToldC
    revert this
    cases e' : Gs.getD e.on Pc.none with
    | eq y => exact id
    | turn y => exact id
    | told y1 y2 y3 y4 => exact id
    | blk t zs kk us =>
      rintro ⟨q, e1, e2, e3⟩ hk
      refine ⟨q, e1, e2, ?_⟩
      subst hk
      rw [hi, if_neg (by simp)] at e3
      exact e3
  have h1 := h (fun t => a.tmps.getD t undef) w hJ.kept (fun t hb ht => by rw [← ha.at' t hb]; exact hout t ht) hdeps (fun p t zs us e => by have := hJ.olds i p t zs us e; rw [hi, if_neg (by simp)] at this; exact this)
  rw [← eval_ev a] at h1
  have hleft : ∀ x w', LeftC Gs D i a.eval w x w' → JC S w0 Gs (upL L i) (upV v i x) w' := by
    intro x w' hx
    unfold LeftC at hx
    cases e : Gs.getD i Pc.none with
    | eq y =>
      rw [e] at hx
      exact hJ.more hwf hi hx.2 (fun j hj => by rw [e] at hj; cases hj) (fun _ _ _ _ hj => by rw [e] at hj; cases hj) (by rw [e]; exact hx.1) (by rw [e]; intro hb; cases hb)
    | blk t zs kk us =>
      rw [e] at hx
      obtain ⟨q, e1, e2, e3, e4⟩ := hx
      have hk := wf_blk hwf e
      have hki : kk ≠ i := fun e' => by rw [e', e] at hk; cases hk
      have hLk : L kk = false := by
        cases hq : L kk with
        | false => rfl
        | true => have := hJ.clos kk i hq hk; rw [hi] at this; cases this
      refine hJ.more hwf hi e4 (fun j hj => by rw [e] at hj; cases hj) (fun _ _ _ _ hj => by rw [e] at hj; cases hj) ?_ (fun _ => ⟨q, e1, e2⟩)
      rw [e]
      refine ⟨q, e1, Nat.le_trans hJ.kept.size e2, ?_⟩
      rw [upL_ne hki, hLk, if_neg (by simp)]
      exact e3
    | told p t zs us =>
      rw [e] at hx
      exact hJ.oldTurned hwf hO e hx.1 hx.2
    | turn j =>
      rw [e] at hx
      obtain ⟨d, q, hd, e1, e2, e3⟩ := hx
      have hw := wfC_at hwf i
      rw [e] at hw
      simp only [wfAt, Bool.and_eq_true, ho] at hw
      obtain ⟨ed, hed, hb, hon⟩ := waitsOn_iff.1 hw.2
      have hLj := hdone ed hed hb
      rw [hon] at hLj
      have hv := hhere j d hLj (getElem_getD hd (by simp))
      exact hJ.turned hwf hO hi hLj e (by rw [← hv]; exact e1) e2 e3
  unfold goes
  cases hg : o.guard with
  | none => rw [hg] at h1; exact ⟨fun _ => h1.mono' hleft, fun e => by cases e⟩
  | some g =>
    obtain ⟨j, want⟩ := g
    rw [hg] at h1
    obtain ⟨d, hd, h1⟩ := h1
    simp only [hd]
    have hev : a.eval (.tmp d) = a.tmps.getD d undef := rfl
    rcases h1 with ⟨hv, hy⟩ | ⟨hv, hs⟩
    · rw [hev, hv]; exact ⟨fun _ => hy.mono' hleft, fun e => by simp at e⟩
    · refine ⟨fun e => ?_, fun _ => hJ.more hwf hi (Kept.refl _ _) (fun j hj => by rw [hs] at hj; cases hj) (fun _ _ _ _ hj => by rw [hs] at hj; cases hj) (by rw [hs]; rfl) (by rw [hs]; intro hb; cases hb)⟩
      rcases hv with hv | hv
      · rw [hev, hv] at e; cases want <;> simp at e
      · rw [hev, hv] at e; simp [undef] at e
theorem StepsFC.steps {S : Nat → Prop} {all : List Oper} {D : List (Option Tmp)} {Gs : List Pc} {w0 : World} {a0 : Act} (hwf : wfC all D Gs = true) (hO : Olds S w0 Gs) (ha : Fr N F a0) : ∀ {os : List Oper} {i : Nat}, (∀ k o, os[k]? = some o → all[i + k]? = some o) → StepsFC S N P D Gs F w0 i os → StepsJ all P D (JC S w0 Gs) a0 i os := by
  intro os
  induction os with
  | nil => intro i _ _; exact trivial
  | cons o r ih =>
    intro i hat h
    exact ⟨h.1.step hwf hO (hat 0 o rfl) ha, ih (fun k o' hk => by have := hat (k + 1) o' hk; rwa [show i + (k + 1) = i + 1 + k by omega] at this) h.2⟩
end
end Go.Proofs.Ytnccblhdokplkaa
set_option maxRecDepth 100000
namespace Go.Proofs.Ytnccblhdokplkaa
open Go.RowKit

/-- Something in memory, what it is ahead of the operation that turns it, and behind it. -/
structure Thg where
  A : World → Prop
  T : Nat → Prop
  B : (Nat → Prop) → World → Prop
  stA : ∀ (w w' : World) (S : Nat → Prop), A w → Kept S w w' → Apart T S → A w'
  stB : ∀ (w w' : World) (S T' : Nat → Prop), B T' w → Kept S w w' → Apart T' S → B T' w'
  liA : ∀ w, A w → Live w T
  liB : ∀ w T', B T' w → Live w T'
inductive Pt where
  | eq (v : Value)
  | thg (t : Thg) (v : Value)
def Pt.none : Pt := .eq undef
def saysT : Pt → Value
  | .eq v => v
  | .thg _ v => v
/-- Where it lies now. -/
def curT (Gs : List Pt) (L : Nat → Bool) (Tf : Nat → Nat → Prop) (i : Nat) : Nat → Prop := match Gs.getD i Pt.none with
  | .eq _ => noB
  | .thg t _ => if L i = true then Tf i else t.T
/-- That it is. -/
def isT (Gs : List Pt) (L : Nat → Bool) (Tf : Nat → Nat → Prop) (w : World) (i : Nat) : Prop := match Gs.getD i Pt.none with
  | .eq _ => True
  | .thg t _ => if L i = true then t.B (Tf i) w else t.A w
structure JT (S : Nat → Prop) (w0 : World) (Gs : List Pt) (M : List (Nat × Nat)) (L : Nat → Bool) (v : Nat → Value) (Tf : Nat → Nat → Prop) (w : World) : Prop where
  kept : Kept S w0 w
  vals : ∀ i, L i = true → v i = saysT (Gs.getD i Pt.none)
  things : ∀ i, isT Gs L Tf w i
  grew : ∀ i t x, Gs.getD i Pt.none = .thg t x → L i = true → Grew w0 t.T (Tf i)
  apart : ∀ i j, i ≠ j → Apart (curT Gs L Tf i) (curT Gs L Tf j)
  clos : ∀ j i, (j, i) ∈ M → L j = true → L i = true
def OldT (S : Nat → Prop) (w0 : World) (Gs : List Pt) : Prop := (∀ i t x, Gs.getD i Pt.none = .thg t x → (∀ b, t.T b → S b) ∧ t.A w0) ∧ ∀ i j, i ≠ j → Apart (curT Gs (fun _ => false) (fun _ => noB) i) (curT Gs (fun _ => false) (fun _ => noB) j)
def FarT (T : Nat → Prop) : List Pt → Prop
  | [] => True
  | .thg t _ :: r => Apart T t.T ∧ FarT T r
  | .eq _ :: r => FarT T r
def OldsT (S : Nat → Prop) (w0 : World) : List Pt → Prop
  | [] => True
  | .thg t _ :: r => ((∀ b, t.T b → S b) ∧ t.A w0 ∧ FarT t.T r) ∧ OldsT S w0 r
  | .eq _ :: r => OldsT S w0 r
theorem FarT.at {T : Nat → Prop} : ∀ {Gs : List Pt}, FarT T Gs → ∀ i t x, Gs.getD i Pt.none = .thg t x → Apart T t.T := by
  intro Gs
  induction Gs with
  | nil => intro _ i t x h; cases h
  | cons g r ih =>
    intro h i t x e
    cases i with
    | zero =>
      have e : g = .thg t x := by simpa using e
      subst e; exact h.1
    | succ i =>
      have e : r.getD i Pt.none = .thg t x := by simpa using e
      cases g <;> first | exact ih h.2 i t x e | exact ih h i t x e
theorem OldsT.at {S : Nat → Prop} {w0 : World} : ∀ {Gs : List Pt}, OldsT S w0 Gs → ∀ i t x, Gs.getD i Pt.none = .thg t x → (∀ b, t.T b → S b) ∧ t.A w0 := by
  intro Gs
  induction Gs with
  | nil => intro _ i t x h; cases h
  | cons g r ih =>
    intro h i t x e
    cases i with
    | zero =>
      have e : g = .thg t x := by simpa using e
      subst e; exact ⟨h.1.1, h.1.2.1⟩
    | succ i =>
      have e : r.getD i Pt.none = .thg t x := by simpa using e
      cases g <;> first | exact ih h.2 i t x e | exact ih h i t x e
theorem OldsT.far {S : Nat → Prop} {w0 : World} : ∀ {Gs : List Pt}, OldsT S w0 Gs → ∀ i j t x t' x', i < j → Gs.getD i Pt.none = .thg t x → Gs.getD j Pt.none = .thg t' x' → Apart t.T t'.T := by
  intro Gs
  induction Gs with
  | nil => intro _ i j t x t' x' _ h; cases h
  | cons g r ih =>
    intro h i j t x t' x' hij e1 e2
    cases j with
    | zero => omega
    | succ j =>
      have e2 : r.getD j Pt.none = .thg t' x' := by simpa using e2
      cases i with
      | zero =>
        have e1 : g = .thg t x := by simpa using e1
        subst e1; exact h.1.2.2.at j t' x' e2
      | succ i =>
        have e1 : r.getD i Pt.none = .thg t x := by simpa using e1
        cases g <;> first | exact ih h.2 i j t x t' x' (by omega) e1 e2 | exact ih h i j t x t' x' (by omega) e1 e2
theorem OldsT.old {S : Nat → Prop} {w0 : World} {Gs : List Pt} (h : OldsT S w0 Gs) : OldT S w0 Gs := by
  refine ⟨fun i t x e => h.at i t x e, fun i j hij => ?_⟩
  unfold curT
  cases e1 : Gs.getD i Pt.none with
  | eq x => exact fun _ z => z.elim
  | thg t x =>
    cases e2 : Gs.getD j Pt.none with
    | eq y => exact fun _ _ z => z
    | thg t' y =>
      simp only [Bool.false_eq_true, if_false]
      rcases Nat.lt_or_gt_of_ne hij with hlt | hgt
      · exact h.far i j t x t' y hlt e1 e2
      · exact (h.far j i t' y t x hgt e2 e1).symm
/-- What is turned, and lies there. -/
def onT (w0 : World) (Gs : List Pt) (i : Nat) (w : World) : Prop := match Gs.getD i Pt.none with
  | .eq _ => True
  | .thg t _ => ∃ T', t.B T' w ∧ Grew w0 t.T T'
/-- M: who waits for whom, if only by way of others. -/
def ToldT (w0 : World) (Gs : List Pt) (M : List (Nat × Nat)) : Nat → Value → World → Prop := fun j v w => v = saysT (Gs.getD j Pt.none) ∧ onT w0 Gs j w ∧ ∀ i, (j, i) ∈ M → onT w0 Gs i w
def mustOk (os : List Oper) (M : List (Nat × Nat)) : Bool := M.all fun q => match os[q.1]? with | some o => o.after.toList.any (fun e => Region.binds .any e && (e.on == q.2 || M.contains (e.on, q.2))) | none => false
def LeftT (Gs : List Pt) (i : Nat) (w : World) (v : Value) (w' : World) : Prop := match Gs.getD i Pt.none with
  | .eq x => v = x ∧ Kept (fun _ => False) w w'
  | .thg t x => v = x ∧ Kept t.T w w' ∧ ∃ T', t.B T' w' ∧ Grew w t.T T'
theorem cur_live {S : Nat → Prop} {w0 w : World} {Gs : List Pt} {L : Nat → Bool} {v : Nat → Value} {Tf : Nat → Nat → Prop} {M : List (Nat × Nat)} (h : JT S w0 Gs M L v Tf w) (i : Nat) : Live w (curT Gs L Tf i) := by
  have := h.things i
  unfold isT at this
  unfold curT
  cases e : Gs.getD i Pt.none with
  | eq x => exact fun _ h => h.elim
  | thg t x =>
    rw [e] at this
    simp only at this ⊢
    cases hl : L i with
    | true => rw [hl] at this; rw [if_pos rfl] at this ⊢; exact t.liB w _ this
    | false => rw [hl] at this; rw [if_neg (by simp)] at this ⊢; exact t.liA w this
theorem cur_up {Gs : List Pt} {L : Nat → Bool} {Tf Tf' : Nat → Nat → Prop} {i j : Nat} (h : j ≠ i) (hT : Tf' j = Tf j) : curT Gs (fun k => if k = i then true else L k) Tf' j = curT Gs L Tf j := by
  unfold curT
  cases Gs.getD j Pt.none with
  | eq x => rfl
  | thg t x => simp only [if_neg h, hT]
theorem is_up {Gs : List Pt} {L : Nat → Bool} {Tf Tf' : Nat → Nat → Prop} {w : World} {i j : Nat} (h : j ≠ i) (hT : Tf' j = Tf j) : isT Gs (fun k => if k = i then true else L k) Tf' w j = isT Gs L Tf w j := by
  unfold isT
  cases Gs.getD j Pt.none with
  | eq x => rfl
  | thg t x => simp only [if_neg h, hT]
theorem is_kept {S' : Nat → Prop} {Gs : List Pt} {L : Nat → Bool} {Tf : Nat → Nat → Prop} {w w' : World} {j : Nat} (h : isT Gs L Tf w j) (k : Kept S' w w') (ha : Apart (curT Gs L Tf j) S') : isT Gs L Tf w' j := by
  unfold isT at h ⊢
  unfold curT at ha
  cases e : Gs.getD j Pt.none with
  | eq x => trivial
  | thg t x =>
    rw [e] at h ha
    simp only at h ha ⊢
    split
    · rename_i hl; rw [if_pos hl] at h ha; exact t.stB w w' S' _ h k ha
    · rename_i hl; rw [if_neg hl] at h ha; exact t.stA w w' S' h k ha
/-- One more operation. -/
theorem JT.more {S : Nat → Prop} {w0 w w' : World} {Gs : List Pt} {M : List (Nat × Nat)} {L : Nat → Bool} {v : Nat → Value} {Tf : Nat → Nat → Prop} {i : Nat} {x : Value} (hO : OldT S w0 Gs) (h : JT S w0 Gs M L v Tf w) (hi : L i = false) (hM : ∀ k, (i, k) ∈ M → L k = true) (hx : LeftT Gs i w x w') : ∃ Tf', JT S w0 Gs M (upL L i) (upV v i x) Tf' w' := by
  have hcl : ∀ j k, (j, k) ∈ M → upL L i j = true → upL L i k = true := fun j k hm hj => by
    have hk : L k = true := by
      by_cases hji : j = i
      · subst hji; exact hM k hm
      · rw [show upL L i j = L j from if_neg hji] at hj; exact h.clos j k hm hj
    unfold upL; split <;> first | rfl | exact hk
  unfold LeftT at hx
  cases e : Gs.getD i Pt.none with
  | eq y =>
    rw [e] at hx
    refine ⟨Tf, h.kept.trans hx.2 (fun _ _ z => z.elim), fun j hj => ?_, fun j => ?_, fun j t z hj hl => ?_, fun a b hab => ?_, hcl⟩
    · by_cases hji : j = i
      · subst hji; rw [show upV v j x j = x from if_pos rfl, e]; exact hx.1
      · rw [show upL L i j = L j from if_neg hji] at hj; rw [show upV v i x j = v j from if_neg hji]; exact h.vals j hj
    · by_cases hji : j = i
      · subst hji; unfold isT; rw [e]; trivial
      · rw [show isT Gs (upL L i) Tf w' j = isT Gs L Tf w' j from is_up hji rfl]; exact is_kept (h.things j) hx.2 (fun _ _ z => z)
    · have hji : j ≠ i := fun z' => by rw [z', e] at hj; cases hj
      rw [show upL L i j = L j from if_neg hji] at hl; exact h.grew j t z hj hl
    · have hc : ∀ c, curT Gs (upL L i) Tf c = curT Gs L Tf c := fun c => by
        by_cases hci : c = i
        · subst hci; unfold curT; rw [e]
        · exact cur_up hci rfl
      rw [hc, hc]; exact h.apart a b hab
  | thg t y =>
    rw [e] at hx
    obtain ⟨hv, k, T', hB, hG⟩ := hx
    have hcur : curT Gs L Tf i = t.T := by unfold curT; rw [e]; simp [hi]
    have hTf : ∀ c, c ≠ i → (fun c => if c = i then T' else Tf c) c = Tf c := fun c hc => by simp [hc]
    have hci : curT Gs (upL L i) (fun c => if c = i then T' else Tf c) i = T' := by unfold curT; rw [e]; simp [upL]
    have hcj : ∀ c, c ≠ i → curT Gs (upL L i) (fun c => if c = i then T' else Tf c) c = curT Gs L Tf c := fun c hc => cur_up hc (hTf c hc)
    have hnew : ∀ c, c ≠ i → Apart T' (curT Gs L Tf c) := fun c hc => by
      have := h.apart i c (fun z => hc z.symm)
      rw [hcur] at this
      exact this.grew hG (cur_live h c)
    refine ⟨fun c => if c = i then T' else Tf c, h.kept.trans k (fun b _ hb => (hO.1 i t y e).1 b hb), fun j hj => ?_, fun j => ?_, fun j t' z hj hl => ?_, fun a b hab => ?_, hcl⟩
    · by_cases hji : j = i
      · subst hji; rw [show upV v j x j = x from if_pos rfl, e]; exact hv
      · rw [show upL L i j = L j from if_neg hji] at hj; rw [show upV v i x j = v j from if_neg hji]; exact h.vals j hj
    · by_cases hji : j = i
      · subst hji; unfold isT; rw [e]; simp only [upL]; simpa using hB
      · rw [show isT Gs (upL L i) (fun c => if c = i then T' else Tf c) w' j = isT Gs L Tf w' j from is_up hji (hTf j hji)]
        exact is_kept (h.things j) k (by have := h.apart j i hji; rw [hcur] at this; exact this)
    · by_cases hji : j = i
      · subst hji
        rw [e] at hj; cases hj
        simp only [if_true]
        exact fun b hb => (hG b hb).elim .inl (fun hge => .inr (Nat.le_trans h.kept.size hge))
      · rw [show upL L i j = L j from if_neg hji] at hl
        simp only [if_neg hji]; exact h.grew j t' z hj hl
    · by_cases hai : a = i
      · subst hai
        rw [hci, hcj b (fun z => hab z.symm)]; exact hnew b (fun z => hab z.symm)
      · rw [hcj a hai]
        by_cases hbi : b = i
        · subst hbi; rw [hci]; exact (hnew a hai).symm
        · rw [hcj b hbi]; exact h.apart a b hab
section
variable {P : Program} {N : Nat} {F : Nat → Value} {w : World} {Q : Exit → (Nat → Value) → World → Prop}
def StepFT (S : Nat → Prop) (M : List (Nat × Nat)) (N : Nat) (P : Program) (D : List (Option Tmp)) (Gs : List Pt) (F0 : Nat → Value) (w0 : World) (i : Nat) (o : Oper) : Prop :=
  ∀ (F : Nat → Value) (w : World), Kept S w0 w → (∀ t, Nat.blt t N = true → some t ∉ D → F t = F0 t) → DepsF D (ToldT w0 Gs M) F w o.after.toList → (∀ k t x, (k = i ∨ (k, i) ∈ M) → Gs.getD k Pt.none = .thg t x → t.A w) →
    match o.guard with
    | none => Yields P (ev F) o w (LeftT Gs i w)
    | some (j, want) => ∃ d, D.getD j none = some d ∧
      ((F d = .bool want ∧ Yields P (ev F) o w (LeftT Gs i w)) ∨ ((F d = .bool (!want) ∨ F d = undef) ∧ Gs.getD i Pt.none = .eq undef))
def StepsFT (S : Nat → Prop) (M : List (Nat × Nat)) (N : Nat) (P : Program) (D : List (Option Tmp)) (Gs : List Pt) (F0 : Nat → Value) (w0 : World) : Nat → List Oper → Prop
  | _, [] => True
  | i, o :: r => StepFT S M N P D Gs F0 w0 i o ∧ StepsFT S M N P D Gs F0 w0 (i + 1) r
theorem StepFT.one {S : Nat → Prop} {M : List (Nat × Nat)} {D : List (Option Tmp)} {Gs : List Pt} {F0 : Nat → Value} {w0 : World} {i : Nat} {o : Oper} (hg : o.guard = none)
    (h : ∀ (F : Nat → Value) (w : World), Kept S w0 w → (∀ t, Nat.blt t N = true → some t ∉ D → F t = F0 t) → DepsF D (ToldT w0 Gs M) F w o.after.toList → Yields P (ev F) o w (LeftT Gs i w)) : StepFT S M N P D Gs F0 w0 i o := by
  intro F w h1 h2 h3 _
  rw [hg]; exact h F w h1 h2 h3
theorem StepFT.turn {S : Nat → Prop} {M : List (Nat × Nat)} {D : List (Option Tmp)} {Gs : List Pt} {F0 : Nat → Value} {w0 : World} {i : Nat} {t : Thg} {x : Value} {o : Oper} (hg : o.guard = none) (he : Gs.getD i Pt.none = .thg t x)
    (h : ∀ (F : Nat → Value) (w : World), Kept S w0 w → (∀ t, Nat.blt t N = true → some t ∉ D → F t = F0 t) → DepsF D (ToldT w0 Gs M) F w o.after.toList → t.A w → Yields P (ev F) o w (fun v w' => v = x ∧ Kept t.T w w' ∧ ∃ T', t.B T' w' ∧ Grew w t.T T')) : StepFT S M N P D Gs F0 w0 i o := by
  intro F w h1 h2 h3 h4
  rw [hg]
  refine (h F w h1 h2 h3 (h4 i t x (.inl rfl) he)).mono' fun v w' hx => ?_
  unfold LeftT; rw [he]; exact hx
theorem StepFT.when {S : Nat → Prop} {M : List (Nat × Nat)} {D : List (Option Tmp)} {Gs : List Pt} {F0 : Nat → Value} {w0 : World} {i : Nat} {o : Oper} (j : Nat) (want : Bool) (d : Tmp) (hg : o.guard = some (j, want)) (hd : D.getD j none = some d)
    (h : ∀ (F : Nat → Value) (w : World), Kept S w0 w → (∀ t, Nat.blt t N = true → some t ∉ D → F t = F0 t) → DepsF D (ToldT w0 Gs M) F w o.after.toList → F d = .bool want ∧ Yields P (ev F) o w (LeftT Gs i w)) : StepFT S M N P D Gs F0 w0 i o := by
  intro F w h1 h2 h3 _
  rw [hg]; exact ⟨d, hd, .inl (h F w h1 h2 h3)⟩
theorem StepFT.unless {S : Nat → Prop} {M : List (Nat × Nat)} {D : List (Option Tmp)} {Gs : List Pt} {F0 : Nat → Value} {w0 : World} {i : Nat} {o : Oper} (j : Nat) (want : Bool) (d : Tmp) (hg : o.guard = some (j, want)) (hd : D.getD j none = some d)
    (h : ∀ (F : Nat → Value) (w : World), Kept S w0 w → (∀ t, Nat.blt t N = true → some t ∉ D → F t = F0 t) → DepsF D (ToldT w0 Gs M) F w o.after.toList → (F d = .bool (!want) ∨ F d = undef) ∧ Gs.getD i Pt.none = .eq undef) : StepFT S M N P D Gs F0 w0 i o := by
  intro F w h1 h2 h3 _
  rw [hg]; exact ⟨d, hd, .inr (h F w h1 h2 h3)⟩
theorem StepFT.step {S : Nat → Prop} {M : List (Nat × Nat)} {os : List Oper} {D : List (Option Tmp)} {Gs : List Pt} {w0 : World} {i : Nat} {o : Oper} {a0 : Act} (hO : OldT S w0 Gs) (hmo : mustOk os M = true) (hio : os[i]? = some o) (ha : Fr N F a0) (h : StepFT S M N P D Gs F w0 i o) : StepJ os P D (fun L v w => ∃ Tf, JT S w0 Gs M L v Tf w) a0 i o := by
  rintro L v a w ⟨Tf, hJ⟩ hi hdone hout hhere _
  have hdeps : DepsF D (ToldT w0 Gs M) (fun t => a.tmps.getD t undef) w o.after.toList := by
    refine Deps.toF (Deps.mk fun e he hb d hd => ?_)
    have hl := hdone e he hb
    have hDe : D[e.on]? = some (some d) := by
      unfold List.getD at hd
      cases hq : D[e.on]? with
      | none => rw [hq] at hd; cases hd
      | some y => rw [hq] at hd; simp at hd; rw [hd]
    rw [hhere e.on d hl hDe, hJ.vals e.on hl]
    have key : ∀ c, L c = true → onT w0 Gs c w := fun c hc => by
      have ht := hJ.things c
      unfold onT
      unfold isT at ht
      cases e' : Gs.getD c Pt.none with
      | eq y => trivial
      | thg t y =>
        rw [e'] at ht
        simp only [hc, if_true] at ht
        exact ⟨_, ht, hJ.grew c t y e' hc⟩
    exact ⟨rfl, key _ hl, fun c hc => key c (hJ.clos _ _ hc hl)⟩
  have hM : ∀ k, (i, k) ∈ M → L k = true := fun k hk => by
    have := List.all_eq_true.1 hmo _ hk
    simp only [hio] at this
    obtain ⟨e, he, hb⟩ := List.any_eq_true.1 this
    simp only [Bool.and_eq_true, Bool.or_eq_true, beq_iff_eq] at hb
    have hl := hdone e he hb.1
    rcases hb.2 with h1 | h1
    · rw [← h1]; exact hl
    · exact hJ.clos _ _ (by simpa using h1) hl
  have h1 := h (fun t => a.tmps.getD t undef) w hJ.kept (fun t hb ht => by rw [← ha.at' t hb]; exact hout t ht) hdeps (fun k t x hk e => by
    have hLk : L k = false := by
      rcases hk with rfl | hk
      · exact hi
      · cases hL : L k with
        | false => rfl
        | true => have := hJ.clos k i hk hL; rw [hi] at this; cases this
    have := hJ.things k
    unfold isT at this
    rw [e] at this
    simpa [hLk] using this)
  rw [← eval_ev a] at h1
  unfold goes
  cases hg : o.guard with
  | none => rw [hg] at h1; exact ⟨fun _ => h1.mono' fun x w' hx => hJ.more hO hi hM hx, fun e => by cases e⟩
  | some g =>
    obtain ⟨j, want⟩ := g
    rw [hg] at h1
    obtain ⟨d, hd, h1⟩ := h1
    simp only [hd]
    have hev : a.eval (.tmp d) = a.tmps.getD d undef := rfl
    rcases h1 with ⟨hv, hy⟩ | ⟨hv, hs⟩
    · rw [hev, hv]; exact ⟨fun _ => hy.mono' fun x w' hx => hJ.more hO hi hM hx, fun e => by simp at e⟩
    · refine ⟨fun e => ?_, fun _ => hJ.more hO hi hM (by unfold LeftT; rw [hs]; exact ⟨rfl, Kept.refl _ _⟩)⟩
      rcases hv with hv | hv
      · rw [hev, hv] at e; cases want <;> simp at e
      · rw [hev, hv] at e; simp [undef] at e
theorem StepsFT.steps {S : Nat → Prop} {M : List (Nat × Nat)} {all : List Oper} {D : List (Option Tmp)} {Gs : List Pt} {w0 : World} {a0 : Act} (hO : OldT S w0 Gs) (hmo : mustOk all M = true) (ha : Fr N F a0) : ∀ {os : List Oper} {i : Nat}, (∀ k o, os[k]? = some o → all[i + k]? = some o) → StepsFT S M N P D Gs F w0 i os → StepsJ all P D (fun L v w => ∃ Tf, JT S w0 Gs M L v Tf w) a0 i os := by
  intro os
  induction os with
  | nil => intro i _ _; exact trivial
  | cons o r ih =>
    intro i hat h
    exact ⟨h.1.step hO hmo (hat 0 o rfl) ha, ih (fun k o' hk => by have := hat (k + 1) o' hk; rwa [show i + (k + 1) = i + 1 + k by omega] at this) h.2⟩
end
end Go.Proofs.Ytnccblhdokplkaa
set_option maxRecDepth 100000
namespace Go.Proofs.Ytnccblhdokplkaa
open Go.RowKit

/-- Something that an operation leaves, its value, and where it lies. -/
structure Thm where
  B : Value → (Nat → Prop) → World → Prop
  st : ∀ (v : Value) (w w' : World) (S T : Nat → Prop), B v T w → Kept S w w' → Apart T S → B v T w'
  li : ∀ (v : Value) (w : World) (T : Nat → Prop), B v T w → Live w T
inductive Pm where
  | eq (v : Value)
  | new (t : Thm)
def Pm.none : Pm := .eq undef
def Pm.isNew : Pm → Bool
  | .eq _ => false
  | .new _ => true
/-- Something that was there. -/
structure Eld where
  A : World → Prop
  T : Nat → Prop
  st : ∀ (w w' : World) (S : Nat → Prop), A w → Kept S w w' → Apart T S → A w'
  li : ∀ w, A w → Live w T
/-- What each operation uses up: (true, j) what the operation j left, (false, e) what was there. -/
def usM (Uz : List (Option (Bool × Nat))) (i : Nat) : Option (Bool × Nat) := Uz.getD i none
def usedM (Uz : List (Option (Bool × Nat))) (L : Nat → Bool) (q : Bool × Nat) : Prop := ∃ i, usM Uz i = some q ∧ L i = true
structure JM (S : Nat → Prop) (w0 : World) (Gs : List Pm) (Uz : List (Option (Bool × Nat))) (Es : List Eld) (Bs : List (Nat → Prop)) (M : List (Nat × Nat)) (L : Nat → Bool) (v : Nat → Value) (Tf : Nat → Nat → Prop) (w : World) : Prop where
  kept : Kept S w0 w
  vals : ∀ i x, L i = true → Gs.getD i Pm.none = .eq x → v i = x
  things : ∀ i t, L i = true → Gs.getD i Pm.none = .new t → ¬ usedM Uz L (true, i) → t.B (v i) (Tf i) w
  olds : ∀ (e : Nat) (E : Eld), Es[e]? = some E → ¬ usedM Uz L (false, e) → E.A w
  grew : ∀ i t, L i = true → Gs.getD i Pm.none = .new t → Grew w0 (Bs.getD i noB) (Tf i)
  tt : ∀ i j t t', i ≠ j → L i = true → L j = true → Gs.getD i Pm.none = .new t → Gs.getD j Pm.none = .new t' → ¬ usedM Uz L (true, i) → ¬ usedM Uz L (true, j) → Apart (Tf i) (Tf j)
  te : ∀ (i e : Nat) (t : Thm) (E : Eld), L i = true → Gs.getD i Pm.none = .new t → ¬ usedM Uz L (true, i) → Es[e]? = some E → ¬ usedM Uz L (false, e) → Apart (Tf i) E.T
  clos : ∀ j i, (j, i) ∈ M → L j = true → L i = true
/-- What is asked of the lists. -/
def uniqB (Uz : List (Option (Bool × Nat))) : Bool := (List.range Uz.length).all fun i => (List.range Uz.length).all fun j => match usM Uz i with
  | some q => i == j || !(usM Uz j == some q)
  | none => true
def wfU (os : List Oper) (Gs : List Pm) (nE : Nat) (Uz : List (Option (Bool × Nat))) : Bool := uniqB Uz && (List.range Uz.length).all fun i => match usM Uz i with
  | none => true
  | some (true, j) => (Gs.getD j Pm.none).isNew && (match os[i]? with | some o => o.after.toList.any (fun e => Region.binds .any e && e.on == j) | none => false)
  | some (false, e) => Nat.blt e nE
def BsL (Es : List Eld) (Bs : List (Nat → Prop)) : List (Option (Bool × Nat)) → List (Nat → Prop) → Prop
  | [], _ => True
  | none :: r, b :: bs => b = noB ∧ BsL Es Bs r bs
  | some (true, j) :: r, b :: bs => b = Bs.getD j noB ∧ BsL Es Bs r bs
  | some (false, e) :: r, b :: bs => (∀ E, Es[e]? = some E → b = E.T) ∧ BsL Es Bs r bs
  | _ :: _, [] => False
def SubL (S : Nat → Prop) : List (Nat → Prop) → Prop
  | [] => True
  | b :: r => (∀ x, b x → S x) ∧ SubL S r
def EldsM (S : Nat → Prop) (w0 : World) : List Eld → Prop
  | [] => True
  | E :: r => ((∀ b, E.T b → S b) ∧ E.A w0 ∧ (∀ (k : Nat) (E' : Eld), r[k]? = some E' → Apart E.T E'.T)) ∧ EldsM S w0 r
theorem us_lt {Uz : List (Option (Bool × Nat))} {i : Nat} {q : Bool × Nat} (h : usM Uz i = some q) : i < Uz.length := by
  unfold usM at h
  rcases Nat.lt_or_ge i Uz.length with h' | h'
  · exact h'
  · simp [List.getD, List.getElem?_eq_none h'] at h
theorem uniq_at {Uz : List (Option (Bool × Nat))} (h : uniqB Uz = true) {i j : Nat} {q : Bool × Nat} (hi : usM Uz i = some q) (hj : usM Uz j = some q) : i = j := by
  have := List.all_eq_true.1 (List.all_eq_true.1 h i (List.mem_range.2 (us_lt hi))) j (List.mem_range.2 (us_lt hj))
  rw [hi, hj] at this
  simpa using this
theorem bs_at {Es : List Eld} {Bs : List (Nat → Prop)} : ∀ {Uz : List (Option (Bool × Nat))} {bs : List (Nat → Prop)}, BsL Es Bs Uz bs → ∀ i, i < Uz.length → match usM Uz i with
    | none => bs.getD i noB = noB
    | some (true, j) => bs.getD i noB = Bs.getD j noB
    | some (false, e) => ∀ E, Es[e]? = some E → bs.getD i noB = E.T := by
  intro Uz
  induction Uz with
  | nil => intro bs _ i hi; exact absurd hi (Nat.not_lt_zero _)
  | cons u r ih =>
    intro bs h i hi
    cases bs with
    | nil => exact (by cases u with | none => exact h.elim | some q => obtain ⟨b, j⟩ := q; cases b <;> exact h.elim)
    | cons b bs =>
      cases i with
      | zero =>
        cases u with
        | none => exact h.1
        | some q => obtain ⟨x, j⟩ := q; cases x <;> exact h.1
      | succ i =>
        have hr : BsL Es Bs r bs := by
          cases u with
          | none => exact h.2
          | some q => obtain ⟨x, j⟩ := q; cases x <;> exact h.2
        exact ih hr i (Nat.lt_of_succ_lt_succ hi)
theorem sub_at {S : Nat → Prop} : ∀ {Bs : List (Nat → Prop)}, SubL S Bs → ∀ i x, Bs.getD i noB x → S x := by
  intro Bs
  induction Bs with
  | nil => intro _ i x h; exact absurd h (by simp [List.getD, noB])
  | cons b r ih =>
    intro h i x hx
    cases i with
    | zero => exact h.1 x hx
    | succ i => exact ih h.2 i x hx
theorem EldsM.at {S : Nat → Prop} {w0 : World} : ∀ {Es : List Eld}, EldsM S w0 Es → ∀ (e : Nat) (E : Eld), Es[e]? = some E → (∀ b, E.T b → S b) ∧ E.A w0 := by
  intro Es
  induction Es with
  | nil => intro _ e E h; simp at h
  | cons x r ih =>
    intro h e E he
    cases e with
    | zero => simp at he; subst he; exact ⟨h.1.1, h.1.2.1⟩
    | succ e => exact ih h.2 e E (by simpa using he)
theorem EldsM.far {S : Nat → Prop} {w0 : World} : ∀ {Es : List Eld}, EldsM S w0 Es → ∀ (e e' : Nat) (E E' : Eld), e ≠ e' → Es[e]? = some E → Es[e']? = some E' → Apart E.T E'.T := by
  intro Es
  induction Es with
  | nil => intro _ e e' E E' _ h; simp at h
  | cons x r ih =>
    intro h e e' E E' hne he he'
    cases e with
    | zero =>
      cases e' with
      | zero => exact absurd rfl hne
      | succ k => simp at he; subst he; exact h.1.2.2 k E' (by simpa using he')
    | succ k =>
      cases e' with
      | zero => simp at he'; subst he'; exact (h.1.2.2 k E (by simpa using he)).symm
      | succ k' => exact ih h.2 k k' E E' (fun z => hne (by rw [z])) (by simpa using he) (by simpa using he')
def LeftM (Gs : List Pm) (i : Nat) (Tu : Nat → Prop) (w : World) (v : Value) (w' : World) : Prop := match Gs.getD i Pm.none with
  | .eq x => v = x ∧ Kept Tu w w'
  | .new t => Kept Tu w w' ∧ ∃ T', t.B v T' w' ∧ Grew w Tu T'
/-- Where that lies which is used up. -/
def useT (Uz : List (Option (Bool × Nat))) (Es : List Eld) (Tf : Nat → Nat → Prop) (i : Nat) (Tu : Nat → Prop) : Prop := match usM Uz i with
  | none => Tu = noB
  | some (true, j) => Tu = Tf j
  | some (false, e) => ∀ E, Es[e]? = some E → Tu = E.T
theorem wfU_at {os : List Oper} {Gs : List Pm} {nE : Nat} {Uz : List (Option (Bool × Nat))} (h : wfU os Gs nE Uz = true) {i : Nat} {q : Bool × Nat} (hi : usM Uz i = some q) : match q with
    | (true, j) => (∃ t, Gs.getD j Pm.none = .new t) ∧ ∃ o, os[i]? = some o ∧ ∃ e ∈ o.after.toList, Region.binds .any e = true ∧ e.on = j
    | (false, e) => e < nE := by
  unfold wfU at h
  simp only [Bool.and_eq_true] at h
  have := List.all_eq_true.1 h.2 i (List.mem_range.2 (us_lt hi))
  rw [hi] at this
  obtain ⟨b, j⟩ := q
  cases b with
  | false => simpa [Nat.blt_eq] using this
  | true =>
    simp only [Bool.and_eq_true] at this
    refine ⟨?_, ?_⟩
    · cases hg : Gs.getD j Pm.none with
      | eq x => rw [hg] at this; simp [Pm.isNew] at this
      | new t => exact ⟨t, rfl⟩
    · cases ho : os[i]? with
      | none => rw [ho] at this; simp at this
      | some o =>
        rw [ho] at this
        obtain ⟨e, he, hb⟩ := List.any_eq_true.1 this.2
        simp only [Bool.and_eq_true, beq_iff_eq] at hb
        exact ⟨o, rfl, e, he, hb.1, hb.2⟩
theorem used_up {Uz : List (Option (Bool × Nat))} {L : Nat → Bool} {i : Nat} {q : Bool × Nat} (h : ¬ usedM Uz (upL L i) q) : ¬ usedM Uz L q := fun ⟨k, hk, hl⟩ => h ⟨k, hk, by unfold upL; split <;> first | rfl | exact hl⟩
theorem up_cases {L : Nat → Bool} {i j : Nat} (h : upL L i j = true) : j = i ∨ (j ≠ i ∧ L j = true) := by
  by_cases e : j = i
  · exact .inl e
  · exact .inr ⟨e, by rwa [show upL L i j = L j from if_neg e] at h⟩
def setT (Tf : Nat → Nat → Prop) (i : Nat) (T' : Nat → Prop) : Nat → Nat → Prop := fun c => if c = i then T' else Tf c
/-- One more operation. -/
theorem JM.more {S : Nat → Prop} {w0 w w' : World} {os : List Oper} {Gs : List Pm} {Uz : List (Option (Bool × Nat))} {Es : List Eld} {Bs : List (Nat → Prop)} {M : List (Nat × Nat)} {L : Nat → Bool} {v : Nat → Value} {Tf : Nat → Nat → Prop} {i : Nat} {x : Value} {Tu : Nat → Prop}
    (hwf : wfU os Gs Es.length Uz = true) (hlen : Uz.length = os.length) (hio : i < os.length) (hBs : BsL Es Bs Uz Bs) (hSub : SubL S Bs) (hE : EldsM S w0 Es) (h : JM S w0 Gs Uz Es Bs M L v Tf w) (hi : L i = false) (hM : ∀ k, (i, k) ∈ M → L k = true) (hU : ∀ j, usM Uz i = some (true, j) → L j = true) (hT : useT Uz Es Tf i Tu) (hx : LeftM Gs i Tu w x w') : ∃ Tf', JM S w0 Gs Uz Es Bs M (upL L i) (upV v i x) Tf' w' := by
  have huq : uniqB Uz = true := by unfold wfU at hwf; simp only [Bool.and_eq_true] at hwf; exact hwf.1
  have hcl : ∀ j k, (j, k) ∈ M → upL L i j = true → upL L i k = true := fun j k hm hj => by
    have hk : L k = true := by
      rcases up_cases hj with rfl | ⟨_, hj⟩
      · exact hM k hm
      · exact h.clos j k hm hj
    unfold upL; split <;> first | rfl | exact hk
  have free : ∀ q, usM Uz i = some q → ¬ usedM Uz L q := fun q hq ⟨k, hk, hl⟩ => by
    rw [uniq_at huq hk hq, hi] at hl; cases hl
  have hgu : Grew w0 (Bs.getD i noB) Tu := by
    have hb := bs_at hBs i (by omega)
    unfold useT at hT
    cases hu : usM Uz i with
    | none => rw [hu] at hT; simp only at hT; subst hT; exact fun _ z => z.elim
    | some q =>
      have hq := wfU_at hwf hu
      obtain ⟨b, j⟩ := q
      cases b with
      | true =>
        rw [hu] at hT hb
        simp only at hT hb hq
        obtain ⟨⟨t, ht⟩, _⟩ := hq
        subst hT; rw [hb]; exact h.grew j t (hU j hu) ht
      | false =>
        rw [hu] at hT hb
        simp only at hT hb hq
        obtain ⟨E, hE'⟩ : ∃ E, Es[j]? = some E := ⟨Es[j], List.getElem?_eq_getElem hq⟩
        rw [hT E hE', hb E hE']; exact Grew.refl _ _
  have hkS : Kept Tu w w' → Kept S w0 w' := fun hk => h.kept.trans hk (fun b hb hTb => (hgu b hTb).elim (fun z => sub_at hSub i b z) (fun z => absurd hb (Nat.not_lt.2 z)))
  have farT : ∀ j t, L j = true → Gs.getD j Pm.none = .new t → ¬ usedM Uz (upL L i) (true, j) → Apart (Tf j) Tu := fun j t hj ht hn => by
    unfold useT at hT
    cases hu : usM Uz i with
    | none => rw [hu] at hT; simp only at hT; subst hT; exact fun _ _ z => z
    | some q =>
      have hq := wfU_at hwf hu
      obtain ⟨b, k⟩ := q
      cases b with
      | true =>
        rw [hu] at hT
        simp only at hT hq
        obtain ⟨⟨t', ht'⟩, _⟩ := hq
        subst hT
        exact h.tt j k t t' (fun e => hn ⟨i, by rw [hu, e], by unfold upL; simp⟩) hj (hU k hu) ht ht' (used_up hn) (free _ hu)
      | false =>
        rw [hu] at hT
        simp only at hT hq
        obtain ⟨E, hE'⟩ : ∃ E, Es[k]? = some E := ⟨Es[k], List.getElem?_eq_getElem hq⟩
        rw [hT E hE']; exact h.te j k t E hj ht (used_up hn) hE' (free _ hu)
  have farE : ∀ (e : Nat) (E : Eld), Es[e]? = some E → ¬ usedM Uz (upL L i) (false, e) → Apart E.T Tu := fun e E he hn => by
    unfold useT at hT
    cases hu : usM Uz i with
    | none => rw [hu] at hT; simp only at hT; subst hT; exact fun _ _ z => z
    | some q =>
      have hq := wfU_at hwf hu
      obtain ⟨b, k⟩ := q
      cases b with
      | true =>
        rw [hu] at hT
        simp only at hT hq
        obtain ⟨⟨t', ht'⟩, _⟩ := hq
        subst hT
        exact (h.te k e t' E (hU k hu) ht' (free _ hu) he (used_up hn)).symm
      | false =>
        rw [hu] at hT
        simp only at hT hq
        obtain ⟨E', hE'⟩ : ∃ E, Es[k]? = some E := ⟨Es[k], List.getElem?_eq_getElem hq⟩
        rw [hT E' hE']; exact hE.far e k E E' (fun z => hn ⟨i, by rw [hu, z], by unfold upL; simp⟩) he hE'
  unfold LeftM at hx
  cases eg : Gs.getD i Pm.none with
  | eq y =>
    rw [eg] at hx
    obtain ⟨hv, kU⟩ := hx
    refine ⟨Tf, hkS kU, fun j z hj hz => ?_, fun j t hj ht hn => ?_, fun e E he hn => (E.st w w' Tu (h.olds e E he (used_up hn)) kU (farE e E he hn)), fun j t hj ht => ?_, fun a b t t' hab ha hb hta htb hna hnb => ?_, fun a e t E ha hta hna he hne => ?_, hcl⟩
    · rcases up_cases hj with rfl | ⟨hji, hj⟩
      · rw [show upV v j x j = x from if_pos rfl, hv]; rw [eg] at hz; cases hz; rfl
      · rw [show upV v i x j = v j from if_neg hji]; exact h.vals j z hj hz
    · rcases up_cases hj with rfl | ⟨hji, hj⟩
      · rw [eg] at ht; cases ht
      · rw [show upV v i x j = v j from if_neg hji]; exact t.st _ w w' Tu _ (h.things j t hj ht (used_up hn)) kU (farT j t hj ht hn)
    · rcases up_cases hj with rfl | ⟨_, hj⟩
      · rw [eg] at ht; cases ht
      · exact h.grew j t hj ht
    · rcases up_cases ha with rfl | ⟨_, ha⟩
      · rw [eg] at hta; cases hta
      · rcases up_cases hb with rfl | ⟨_, hb⟩
        · rw [eg] at htb; cases htb
        · exact h.tt a b t t' hab ha hb hta htb (used_up hna) (used_up hnb)
    · rcases up_cases ha with rfl | ⟨_, ha⟩
      · rw [eg] at hta; cases hta
      · exact h.te a e t E ha hta (used_up hna) he (used_up hne)
  | new y =>
    rw [eg] at hx
    obtain ⟨kU, T', hB, hG⟩ := hx
    have fi : setT Tf i T' i = T' := if_pos rfl
    have fj : ∀ c, c ≠ i → setT Tf i T' c = Tf c := fun c hc => if_neg hc
    have nT : ∀ j t, L j = true → Gs.getD j Pm.none = .new t → ¬ usedM Uz (upL L i) (true, j) → Apart T' (Tf j) := fun j t hj ht hn => ((farT j t hj ht hn).symm).grew hG (t.li _ w _ (h.things j t hj ht (used_up hn)))
    refine ⟨setT Tf i T', hkS kU, fun j z hj hz => ?_, fun j t hj ht hn => ?_, fun e E he hn => (E.st w w' Tu (h.olds e E he (used_up hn)) kU (farE e E he hn)), fun j t hj ht => ?_, fun a b t t' hab ha hb hta htb hna hnb => ?_, fun a e t E ha hta hna he hne => ?_, hcl⟩
    · rcases up_cases hj with rfl | ⟨hji, hj⟩
      · rw [eg] at hz; cases hz
      · rw [show upV v i x j = v j from if_neg hji]; exact h.vals j z hj hz
    · rcases up_cases hj with rfl | ⟨hji, hj⟩
      · rw [eg] at ht; cases ht
        rw [show upV v j x j = x from if_pos rfl, fi]; exact hB
      · rw [show upV v i x j = v j from if_neg hji, fj j hji]; exact t.st _ w w' Tu _ (h.things j t hj ht (used_up hn)) kU (farT j t hj ht hn)
    · rcases up_cases hj with rfl | ⟨hji, hj⟩
      · rw [fi]
        exact fun b hb => (hG b hb).elim (fun z => hgu b z) (fun z => .inr (Nat.le_trans h.kept.size z))
      · rw [fj j hji]; exact h.grew j t hj ht
    · rcases up_cases ha with rfl | ⟨hai, ha2⟩
      · rcases up_cases hb with rfl | ⟨hbi, hb2⟩
        · exact absurd rfl hab
        · rw [fi, fj b hbi]; exact nT b t' hb2 htb hnb
      · rcases up_cases hb with rfl | ⟨hbi, hb2⟩
        · rw [fi, fj a hai]; exact (nT a t ha2 hta hna).symm
        · rw [fj a hai, fj b hbi]; exact h.tt a b t t' hab ha2 hb2 hta htb (used_up hna) (used_up hnb)
    · rcases up_cases ha with rfl | ⟨hai, ha⟩
      · rw [fi]; exact ((farE e E he hne).symm).grew hG (E.li w (h.olds e E he (used_up hne)))
      · rw [fj a hai]; exact h.te a e t E ha hta (used_up hna) he (used_up hne)
/-- Whether nothing has used it up, where operation i runs. -/
def freeB (Uz : List (Option (Bool × Nat))) (M : List (Nat × Nat)) (i : Nat) (q : Bool × Nat) : Bool := (List.range Uz.length).all fun k => !(usM Uz k == some q) || k == i || M.contains (k, i)
def thingM (w0 : World) (Gs : List Pm) (Uz : List (Option (Bool × Nat))) (Bs : List (Nat → Prop)) (M : List (Nat × Nat)) (i j : Nat) (x : Value) (w : World) : Prop := match Gs.getD j Pm.none with
  | .eq _ => True
  | .new t => freeB Uz M i (true, j) = true → ∃ T, t.B x T w ∧ Grew w0 (Bs.getD j noB) T
def valM (Gs : List Pm) (j : Nat) (x : Value) : Prop := match Gs.getD j Pm.none with
  | .eq y => x = y
  | .new _ => True
def ToldM (w0 : World) (Gs : List Pm) (Uz : List (Option (Bool × Nat))) (Bs : List (Nat → Prop)) (M : List (Nat × Nat)) (i : Nat) : Nat → Value → World → Prop := fun j x w => valM Gs j x ∧ thingM w0 Gs Uz Bs M i j x w ∧ ∀ k, (j, k) ∈ M → ∃ y, thingM w0 Gs Uz Bs M i k y w
def AheadM (Uz : List (Option (Bool × Nat))) (Es : List Eld) (M : List (Nat × Nat)) (i : Nat) (w : World) : Prop := ∀ (e : Nat) (E : Eld), Es[e]? = some E → freeB Uz M i (false, e) = true → E.A w
def UseM (w0 : World) (D : List (Option Tmp)) (Gs : List Pm) (Uz : List (Option (Bool × Nat))) (Es : List Eld) (Bs : List (Nat → Prop)) (F : Nat → Value) (w : World) (i : Nat) (Tu : Nat → Prop) : Prop := match usM Uz i with
  | none => Tu = noB
  | some (true, j) => ∀ t, Gs.getD j Pm.none = .new t → ∃ x, t.B x Tu w ∧ Grew w0 (Bs.getD j noB) Tu ∧ ∀ d, D.getD j none = some d → F d = x
  | some (false, e) => ∀ E, Es[e]? = some E → Tu = E.T ∧ E.A w
section
variable {P : Program} {N : Nat} {F : Nat → Value} {w : World} {Q : Exit → (Nat → Value) → World → Prop} {S : Nat → Prop} {M : List (Nat × Nat)} {D : List (Option Tmp)} {Gs : List Pm} {Uz : List (Option (Bool × Nat))} {Es : List Eld} {Bs : List (Nat → Prop)}
def StepFM (S : Nat → Prop) (M : List (Nat × Nat)) (N : Nat) (P : Program) (D : List (Option Tmp)) (Gs : List Pm) (Uz : List (Option (Bool × Nat))) (Es : List Eld) (Bs : List (Nat → Prop)) (F0 : Nat → Value) (w0 : World) (i : Nat) (o : Oper) : Prop :=
  ∀ (F : Nat → Value) (w : World) (Tu : Nat → Prop), Kept S w0 w → (∀ t, Nat.blt t N = true → some t ∉ D → F t = F0 t) → DepsF D (ToldM w0 Gs Uz Bs M i) F w o.after.toList → AheadM Uz Es M i w → UseM w0 D Gs Uz Es Bs F w i Tu →
    match o.guard with
    | none => Yields P (ev F) o w (LeftM Gs i Tu w)
    | some (j, want) => ∃ d, D.getD j none = some d ∧
      ((F d = .bool want ∧ Yields P (ev F) o w (LeftM Gs i Tu w)) ∨ ((F d = .bool (!want) ∨ F d = undef) ∧ Gs.getD i Pm.none = .eq undef))
def StepsFM (S : Nat → Prop) (M : List (Nat × Nat)) (N : Nat) (P : Program) (D : List (Option Tmp)) (Gs : List Pm) (Uz : List (Option (Bool × Nat))) (Es : List Eld) (Bs : List (Nat → Prop)) (F0 : Nat → Value) (w0 : World) : Nat → List Oper → Prop
  | _, [] => True
  | i, o :: r => StepFM S M N P D Gs Uz Es Bs F0 w0 i o ∧ StepsFM S M N P D Gs Uz Es Bs F0 w0 (i + 1) r
theorem stepsFM_nil {F0 : Nat → Value} {w0 : World} {i : Nat} : StepsFM S M N P D Gs Uz Es Bs F0 w0 i [] := trivial
theorem stepsFM_cons {F0 : Nat → Value} {w0 : World} {i : Nat} {o : Oper} {r : List Oper} (h : StepFM S M N P D Gs Uz Es Bs F0 w0 i o) (k : StepsFM S M N P D Gs Uz Es Bs F0 w0 (i + 1) r) : StepsFM S M N P D Gs Uz Es Bs F0 w0 i (o :: r) := ⟨h, k⟩
theorem StepFM.one {F0 : Nat → Value} {w0 : World} {i : Nat} {o : Oper} (hg : o.guard = none) (hu : usM Uz i = none)
    (h : ∀ (F : Nat → Value) (w : World), Kept S w0 w → (∀ t, Nat.blt t N = true → some t ∉ D → F t = F0 t) → DepsF D (ToldM w0 Gs Uz Bs M i) F w o.after.toList → AheadM Uz Es M i w → Yields P (ev F) o w (LeftM Gs i noB w)) : StepFM S M N P D Gs Uz Es Bs F0 w0 i o := by
  intro F w Tu h1 h2 h3 h4 h5
  unfold UseM at h5
  rw [hu] at h5; simp only at h5; subst h5
  rw [hg]; exact h F w h1 h2 h3 h4
/-- What an operation left is used up. -/
theorem StepFM.uses {F0 : Nat → Value} {w0 : World} {i : Nat} {o : Oper} (j : Nat) (d : Tmp) {t : Thm} (hg : o.guard = none) (hu : usM Uz i = some (true, j)) (ht : Gs.getD j Pm.none = .new t) (hd : D.getD j none = some d)
    (h : ∀ (F : Nat → Value) (w : World) (Tu : Nat → Prop), Kept S w0 w → (∀ t, Nat.blt t N = true → some t ∉ D → F t = F0 t) → DepsF D (ToldM w0 Gs Uz Bs M i) F w o.after.toList → AheadM Uz Es M i w → t.B (F d) Tu w → Grew w0 (Bs.getD j noB) Tu → Yields P (ev F) o w (LeftM Gs i Tu w)) : StepFM S M N P D Gs Uz Es Bs F0 w0 i o := by
  intro F w Tu h1 h2 h3 h4 h5
  unfold UseM at h5
  rw [hu] at h5; simp only at h5
  obtain ⟨x, hB, hG, hx⟩ := h5 t ht
  rw [hg]; exact h F w Tu h1 h2 h3 h4 (by rw [hx d hd]; exact hB) hG
/-- What was there is turned. -/
theorem StepFM.turns {F0 : Nat → Value} {w0 : World} {i : Nat} {o : Oper} (e : Nat) {E : Eld} (hg : o.guard = none) (hu : usM Uz i = some (false, e)) (he : Es[e]? = some E)
    (h : ∀ (F : Nat → Value) (w : World), Kept S w0 w → (∀ t, Nat.blt t N = true → some t ∉ D → F t = F0 t) → DepsF D (ToldM w0 Gs Uz Bs M i) F w o.after.toList → AheadM Uz Es M i w → E.A w → Yields P (ev F) o w (LeftM Gs i E.T w)) : StepFM S M N P D Gs Uz Es Bs F0 w0 i o := by
  intro F w Tu h1 h2 h3 h4 h5
  unfold UseM at h5
  rw [hu] at h5; simp only at h5
  obtain ⟨hT, hA⟩ := h5 E he
  subst hT
  rw [hg]; exact h F w h1 h2 h3 h4 hA
theorem StepFM.when {F0 : Nat → Value} {w0 : World} {i : Nat} {o : Oper} (j : Nat) (want : Bool) (d : Tmp) (hg : o.guard = some (j, want)) (hd : D.getD j none = some d) (hu : usM Uz i = none)
    (h : ∀ (F : Nat → Value) (w : World), Kept S w0 w → (∀ t, Nat.blt t N = true → some t ∉ D → F t = F0 t) → DepsF D (ToldM w0 Gs Uz Bs M i) F w o.after.toList → AheadM Uz Es M i w → F d = .bool want ∧ Yields P (ev F) o w (LeftM Gs i noB w)) : StepFM S M N P D Gs Uz Es Bs F0 w0 i o := by
  intro F w Tu h1 h2 h3 h4 h5
  unfold UseM at h5
  rw [hu] at h5; simp only at h5; subst h5
  rw [hg]; exact ⟨d, hd, .inl (h F w h1 h2 h3 h4)⟩
theorem StepFM.unless {F0 : Nat → Value} {w0 : World} {i : Nat} {o : Oper} (j : Nat) (want : Bool) (d : Tmp) (hg : o.guard = some (j, want)) (hd : D.getD j none = some d)
    (h : ∀ (F : Nat → Value) (w : World), Kept S w0 w → (∀ t, Nat.blt t N = true → some t ∉ D → F t = F0 t) → DepsF D (ToldM w0 Gs Uz Bs M i) F w o.after.toList → AheadM Uz Es M i w → (F d = .bool (!want) ∨ F d = undef) ∧ Gs.getD i Pm.none = .eq undef) : StepFM S M N P D Gs Uz Es Bs F0 w0 i o := by
  intro F w Tu h1 h2 h3 h4 _
  rw [hg]; exact ⟨d, hd, .inr (h F w h1 h2 h3 h4)⟩
theorem free_not {L : Nat → Bool} {i : Nat} {q : Bool × Nat} (hi : L i = false) (hc : ∀ j k, (j, k) ∈ M → L j = true → L k = true) (h : freeB Uz M i q = true) : ¬ usedM Uz L q := fun ⟨k, hk, hl⟩ => by
  have := List.all_eq_true.1 h k (List.mem_range.2 (us_lt hk))
  simp only [hk, beq_self_eq_true, Bool.not_true, Bool.false_or, Bool.or_eq_true, beq_iff_eq] at this
  rcases this with e | e
  · rw [e, hi] at hl; cases hl
  · have := hc k i (by simpa using e) hl; rw [hi] at this; cases this
theorem StepFM.step {os : List Oper} {w0 : World} {i : Nat} {o : Oper} {a0 : Act} (hwf : wfU os Gs Es.length Uz = true) (hlen : Uz.length = os.length) (hBs : BsL Es Bs Uz Bs) (hSub : SubL S Bs) (hE : EldsM S w0 Es) (hmo : mustOk os M = true) (hio : os[i]? = some o) (ha : Fr N F a0) (h : StepFM S M N P D Gs Uz Es Bs F w0 i o) : StepJ os P D (fun L v w => ∃ Tf, JM S w0 Gs Uz Es Bs M L v Tf w) a0 i o := by
  rintro L v a w ⟨Tf, hJ⟩ hi hdone hout hhere _
  have hi' : i < os.length := by
    rcases Nat.lt_or_ge i os.length with h' | h'
    · exact h'
    · rw [List.getElem?_eq_none h'] at hio; cases hio
  have key : ∀ c, L c = true → ∀ x, (∀ d, D[c]? = some (some d) → x = v c) → (x = v c) → thingM w0 Gs Uz Bs M i c x w := fun c hc x _ hx => by
    unfold thingM
    cases e' : Gs.getD c Pm.none with
    | eq y => trivial
    | new t =>
      intro hf
      rw [hx]
      exact ⟨Tf c, hJ.things c t hc e' (free_not hi hJ.clos hf), hJ.grew c t hc e'⟩
  have hDe : ∀ c d, D.getD c none = some d → D[c]? = some (some d) := fun c d hd => by
    unfold List.getD at hd
    cases hq : D[c]? with
    | none => rw [hq] at hd; cases hd
    | some y => rw [hq] at hd; simp at hd; rw [hd]
  have hdeps : DepsF D (ToldM w0 Gs Uz Bs M i) (fun t => a.tmps.getD t undef) w o.after.toList := by
    refine Deps.toF (Deps.mk fun e he hb d hd => ?_)
    have hl := hdone e he hb
    rw [hhere e.on d hl (hDe e.on d hd)]
    refine ⟨?_, key e.on hl _ (fun _ _ => rfl) rfl, fun c hc => ⟨v c, key c (hJ.clos _ _ hc hl) _ (fun _ _ => rfl) rfl⟩⟩
    unfold valM
    cases e' : Gs.getD e.on Pm.none with
    | eq y => exact hJ.vals e.on y hl e'
    | new t => trivial
  have hM : ∀ k, (i, k) ∈ M → L k = true := fun k hk => by
    have := List.all_eq_true.1 hmo _ hk
    simp only [hio] at this
    obtain ⟨e, he, hb⟩ := List.any_eq_true.1 this
    simp only [Bool.and_eq_true, Bool.or_eq_true, beq_iff_eq] at hb
    have hl := hdone e he hb.1
    rcases hb.2 with h1 | h1
    · rw [← h1]; exact hl
    · exact hJ.clos _ _ (by simpa using h1) hl
  have hU : ∀ j, usM Uz i = some (true, j) → L j = true := fun j hj => by
    obtain ⟨_, o', ho', e, he, hb, hej⟩ := wfU_at hwf hj
    rw [hio] at ho'; cases ho'
    rw [← hej]; exact hdone e he hb
  have huq : uniqB Uz = true := by unfold wfU at hwf; simp only [Bool.and_eq_true] at hwf; exact hwf.1
  have free : ∀ q, usM Uz i = some q → ¬ usedM Uz L q := fun q hq ⟨k, hk, hl⟩ => by
    rw [uniq_at huq hk hq, hi] at hl; cases hl
  obtain ⟨Tu, hTu⟩ : ∃ Tu, useT Uz Es Tf i Tu := by
    unfold useT
    cases usM Uz i with
    | none => exact ⟨noB, rfl⟩
    | some q =>
      obtain ⟨b, j⟩ := q
      cases b with
      | true => exact ⟨Tf j, rfl⟩
      | false =>
        cases he : Es[j]? with
        | none => exact ⟨noB, fun E hE => by rw [he] at hE; cases hE⟩
        | some E => exact ⟨E.T, fun E' hE' => by rw [he] at hE'; cases hE'; rfl⟩
  have huse : UseM w0 D Gs Uz Es Bs (fun t => a.tmps.getD t undef) w i Tu := by
    have hTu' := hTu
    unfold useT at hTu'
    unfold UseM
    cases hu : usM Uz i with
    | none => rw [hu] at hTu'; exact hTu'
    | some q =>
      obtain ⟨b, j⟩ := q
      rw [hu] at hTu'
      cases b with
      | true =>
        simp only at hTu' ⊢
        subst hTu'
        exact fun t ht => ⟨v j, hJ.things j t (hU j hu) ht (free _ hu), hJ.grew j t (hU j hu) ht, fun d hd => hhere j d (hU j hu) (hDe j d hd)⟩
      | false => exact fun E hE' => ⟨hTu' E hE', hJ.olds j E hE' (free _ hu)⟩
  have h1 := h (fun t => a.tmps.getD t undef) w Tu hJ.kept (fun t hb ht => by rw [← ha.at' t hb]; exact hout t ht) hdeps (fun e E he hf => hJ.olds e E he (free_not hi hJ.clos hf)) huse
  have more : ∀ (x : Value) (w' : World), LeftM Gs i Tu w x w' → ∃ Tf', JM S w0 Gs Uz Es Bs M (upL L i) (upV v i x) Tf' w' := fun x w' hx => JM.more hwf hlen hi' hBs hSub hE hJ hi hM hU hTu hx
  rw [← eval_ev a] at h1
  unfold goes
  cases hg : o.guard with
  | none => rw [hg] at h1; exact ⟨fun _ => h1.mono' fun x w' hx => more x w' hx, fun e => by cases e⟩
  | some g =>
    obtain ⟨j, want⟩ := g
    rw [hg] at h1
    obtain ⟨d, hd, h1⟩ := h1
    simp only [hd]
    have hev : a.eval (.tmp d) = a.tmps.getD d undef := rfl
    rcases h1 with ⟨hv, hy⟩ | ⟨hv, hs⟩
    · rw [hev, hv]; exact ⟨fun _ => hy.mono' fun x w' hx => more x w' hx, fun e => by simp at e⟩
    · refine ⟨fun e => ?_, fun _ => more undef w (by unfold LeftM; rw [hs]; exact ⟨rfl, Kept.refl _ _⟩)⟩
      rcases hv with hv | hv
      · rw [hev, hv] at e; cases want <;> simp at e
      · rw [hev, hv] at e; simp [undef] at e
theorem StepsFM.steps {all : List Oper} {w0 : World} {a0 : Act} (hwf : wfU all Gs Es.length Uz = true) (hlen : Uz.length = all.length) (hBs : BsL Es Bs Uz Bs) (hSub : SubL S Bs) (hE : EldsM S w0 Es) (hmo : mustOk all M = true) (ha : Fr N F a0) : ∀ {os : List Oper} {i : Nat}, (∀ k o, os[k]? = some o → all[i + k]? = some o) → StepsFM S M N P D Gs Uz Es Bs F w0 i os → StepsJ all P D (fun L v w => ∃ Tf, JM S w0 Gs Uz Es Bs M L v Tf w) a0 i os := by
  intro os
  induction os with
  | nil => intro i _ _; exact trivial
  | cons o r ih =>
    intro i hat h
    exact ⟨h.1.step hwf hlen hBs hSub hE hmo (hat 0 o rfl) ha, ih (fun k o' hk => by have := hat (k + 1) o' hk; rwa [show i + (k + 1) = i + 1 + k by omega] at this) h.2⟩
def leftB (Uz : List (Option (Bool × Nat))) (i : Nat) : Bool := (List.range Uz.length).all fun k => !(usM Uz k == some (true, i))
theorem left_not {L : Nat → Bool} {i : Nat} (h : leftB Uz i = true) : ¬ usedM Uz L (true, i) := fun ⟨k, hk, _⟩ => by
  have := List.all_eq_true.1 h k (List.mem_range.2 (us_lt hk))
  simp [hk] at this
theorem wq_made {id : Nat} {ops : Array Oper} (M : List (Nat × Nat)) (D : List (Option Tmp)) (Gs : List Pm) (Uz : List (Option (Bool × Nat))) (Es : List Eld) (Bs : List (Nat → Prop)) (hm : P.follows .mixedOrders = true) (hpl : plain N 0 D ops.toList = true) (hmo : mustOk ops.toList M = true) (hsz : Gs.length = ops.size) (hlen : Uz.length = ops.toList.length) (hwf : wfU ops.toList Gs Es.length Uz = true) (hBs : BsL Es Bs Uz Bs) (hSub : SubL S Bs) (hE : EldsM S w Es) (hsteps : StepsFM S M N P D Gs Uz Es Bs F w 0 ops.toList)
    (hend : ∀ (v : Nat → Value) (Tf : Nat → Nat → Prop) (F' : Nat → Value) (w' : World), Kept S w w' → (∀ i, i < ops.size → valM Gs i (v i)) → (∀ i t, Gs.getD i Pm.none = .new t → leftB Uz i = true → t.B (v i) (Tf i) w' ∧ Grew w (Bs.getD i noB) (Tf i)) → (∀ i j t t', i ≠ j → Gs.getD i Pm.none = .new t → Gs.getD j Pm.none = .new t' → leftB Uz i = true → leftB Uz j = true → Apart (Tf i) (Tf j)) → (∀ t, F' t = putsF v 0 D F t) → Q .normal F' w') : wq none P N (.region id ops true) Q F w := by
  intro a ha
  refine wpIn_wide.2 ?_
  refine wp_region_inv D (fun L v w' => ∃ Tf, JM S w Gs Uz Es Bs M L v Tf w') hm (by rw [ha.size]; exact hpl) ⟨fun _ => noB, (Kept.refl _ w).drew, fun _ _ e => (by cases e), fun _ _ e => (by cases e), fun e E he _ => E.st w _ (fun _ => False) (hE.at e E he).2 (Kept.refl _ w).drew (fun _ _ z => z), fun _ _ e => (by cases e), fun _ _ _ _ _ e => (by cases e), fun _ _ _ _ e => (by cases e), fun _ _ _ e => (by cases e)⟩ (hsteps.steps hwf hlen hBs hSub hE hmo ha (fun k o hk => by rw [Nat.zero_add]; exact hk)) fun L v w' ⟨Tf, hJ⟩ hL => ?_
  have hlt : ∀ i t, Gs.getD i Pm.none = .new t → L i = true := fun i t e => by
    refine hL i ?_
    rw [← hsz]
    rcases Nat.lt_or_ge i Gs.length with h' | h'
    · exact h'
    · have : Gs.getD i Pm.none = Pm.none := by simp [List.getD, List.getElem?_eq_none h']
      rw [this] at e; cases e
  refine ⟨putsF v 0 D F, putAll_fr v D 0 F a ha (plain_fits hpl), hend v Tf _ w' hJ.kept (fun i hi => ?_) (fun i t e hl => ⟨hJ.things i t (hlt i t e) e (left_not hl), hJ.grew i t (hlt i t e) e⟩) (fun i j t t' hij e1 e2 h1 h2 => hJ.tt i j t t' hij (hlt i t e1) (hlt j t' e2) e1 e2 (left_not h1) (left_not h2)) fun _ => rfl⟩
  unfold valM
  cases e' : Gs.getD i Pm.none with
  | eq y => exact hJ.vals i y (hL i hi) e'
  | new t => trivial
end
end Go.Proofs.Ytnccblhdokplkaa
set_option maxRecDepth 100000
namespace Go.Proofs.Ytnccblhdokplkaa
open Go.RowKit
section
variable {ρ : Operand → Value} {w : World} {o : Oper} {R : Value → World → Prop}
theorem y_builtBn {parts : Array (Nat × Operand)} {n : Nat} {xs : List Operand} {vs : List Value} {l : List Nat} (ho : o.op = .buildSlice 27 n parts) (hn : n = l.length) (hp : parts.toList = (xs.zipIdx 0).map fun x => (x.2, x.1)) (hx : xs.map ρ = vs) (hv : vs = byteVals l) (h0 : 0 < l.length) (hsz : l.length ≤ 65536) (hb : ∀ x ∈ l, x < 256)
    (h : ∀ v w' T, Owb w' T v l → Grew w noB T → Kept (fun _ => False) w w' → R v w') : Yields Try.prog ρ o w R := by
  subst hn; subst hx
  obtain ⟨i0, hi0, hz0, hz1, hz2⟩ := info_parts Try.info_u8
  have hlb : (byteVals l).length = l.length := by simp [byteVals]
  have hlen : xs.length = l.length := by have := congrArg List.length hv; rw [hlb] at this; simpa using this
  have hcells : ∀ m : List Nat, (byteVals m).flatMap (fun v => v.cells.toList) = byteVals m := fun m => by
    induction m with
    | nil => rfl
    | cons a m ih => exact congrArg (Value.int .u8 ((a : Nat) : Int) :: ·) ih
  have hsize : ∀ v ∈ xs.map ρ, v.cells.size = 1 := by
    intro v hv'
    rw [hv] at hv'
    obtain ⟨x, _, rfl⟩ := List.mem_map.1 hv'
    rfl
  have hrun := run_buildSlice (P := Try.prog) w 27 5 l.length (parts.map fun (i, x) => (i, ρ x)) (byteVals l).toArray i0 (.int .u8 0) Try.underlying27 hi0 hz0 (by rw [hz1]; omega) (by rw [hz1]; omega) (by
    rw [hz1]
    have e : (parts.map fun (i, x) => (i, ρ x)).toList = ((xs.map ρ).zipIdx 0).map fun x => (x.2, x.1) := by
      rw [Array.toList_map, hp, List.zipIdx_map, List.map_map, List.map_map]; rfl
    rw [e, Great.fill_whole (by decide) _ _ hsize (by rw [List.length_map, hlen]; simp), hv, hcells])
  refine y_val (v := .slice (some ⟨w.heap.size, 0, none⟩) l.length l.length) (w' := w.alloc (.cells (byteVals l).toArray 5)) (by simp [execOp, ho, hrun]) (h _ _ _ (Owb.of (Row.of_new (B := 0) (l := l) (heap_alloc_new w _) (Nat.zero_le _) (show l.length ≤ maxLen by unfold maxLen; omega) hb)) (fun i hi => .inr ?_) ((Kept.refl _ _).alloc _))
  cases hi; exact Nat.le_refl _
theorem run_make_cap (w : World) (kl kc : IntKind) (n c : Nat) (hnc : n ≤ c) (hc : c < 1099511627776) :
    (Instr.makeSlice 27 (.int kl (n : Int)) (.int kc (c : Int))).run Try.prog w = .ok (.slice (some ⟨w.heap.size, 0, none⟩) n c) (w.alloc (.cells (byteVals (List.replicate c 0)).toArray 5)) := by
  obtain ⟨i0, hi, hz0, hz1, hz2⟩ := info_parts Try.info_u8
  have hr := run_make (P := Try.prog) w 27 5 i0 (.int .u8 0) Try.underlying27 hi hz0 kl kc n c (by omega) (by omega) (by rw [hz2]; omega) (by omega)
  simp only [Int.toNat_natCast, hz1, Nat.mul_one] at hr
  rw [hr, ← byteVals_zeros]
/-- Bytes with room for more. -/
theorem y_makeC {x y : Operand} {kl kc : IntKind} {n c : Nat} {i j : Int} (ho : o.op = .makeSlice 27 x y) (hx : ρ x = .int kl i) (hy : ρ y = .int kc j) (hi : i = (n : Int)) (hj : j = (c : Int)) (hnc : n ≤ c) (hc : c < 1099511627776)
    (h : ∀ v w' T, Owb w' T v (List.replicate n 0) → Grew w noB T → Kept (fun _ => False) w w' → R v w') : Yields Try.prog ρ o w R := by
  subst hi; subst hj
  refine y_val (v := .slice (some ⟨w.heap.size, 0, none⟩) n c) (w' := w.alloc (.cells (byteVals (List.replicate c 0)).toArray 5)) (by simp [execOp, ho, hx, hy, run_make_cap w kl kc n c hnc hc]) (h _ _ _ (Owb.of (w := w.alloc (.cells (byteVals (List.replicate c 0)).toArray 5)) (l := List.replicate n 0) ⟨⟨by rw [byteVals_length]; simp, .inr ⟨w.heap.size, c, _, by rw [List.length_replicate], Nat.zero_le _, heap_alloc_new w _, by rw [List.length_replicate]; exact hnc, by unfold maxLen; omega, by simp [byteVals_length], ?_⟩⟩, zeros_lt n⟩) (fun i hi => .inr ?_) ((Kept.refl _ _).alloc _))
  · simp only [List.length_replicate, Nat.mul_one]
    unfold byteVals
    rw [← List.map_take, List.take_replicate, Nat.min_eq_left hnc]
  · cases hi; exact Nat.le_refl _
theorem y_makeC0 {x y : Operand} {kl kc : IntKind} {c : Nat} {i j : Int} (ho : o.op = .makeSlice 27 x y) (hx : ρ x = .int kl i) (hy : ρ y = .int kc j) (hi : i = 0) (hj : j = (c : Int)) (hc : c < 1099511627776)
    (h : ∀ v w' T, Owb w' T v [] → Grew w noB T → Kept (fun _ => False) w w' → R v w') : Yields Try.prog ρ o w R := y_makeC (n := 0) ho hx hy (by rw [hi]; rfl) hj (Nat.zero_le _) hc h
end
def owThm (l : List Nat) : Thm := ⟨fun v T w => Owb w T v l, fun _ _ _ _ _ h k ha => h.all k ha, fun _ _ _ h => h.live⟩
/-- A struct that is stored into. -/
def stcThm (p : Nat) (t : TypeId) (us : List Value) : Thm := ⟨fun v T w => v = undef ∧ T = onB p ∧ Stc w p t us, fun _ _ _ _ _ h k ha => ⟨h.1, h.2.1, h.2.2.all k (ha p (by rw [h.2.1]; rfl))⟩, fun _ _ _ h => by rw [h.2.1]; exact onB_live h.2.2.lt⟩
def stcEld (p : Nat) (t : TypeId) (zs : List Value) : Eld := ⟨fun w => Stc w p t zs, onB p, fun _ _ _ h k ha => h.all k (ha p rfl), fun _ h => onB_live h.lt⟩
section
variable {ro : Option Nat} {N : Nat} {Q : (Exit → (Nat → Value) → World → Prop)} {F : Nat → Value} {w : World} {o : Oper}
theorem wl_builtBn {ops : Array Oper} {rest : List Oper} {parts : Array (Nat × Operand)} {n : Nat} {xs : List Operand} {vs : List Value} {l : List Nat} (hg : o.guard = none) (hd : fits N o.dst = true) (ho : o.op = .buildSlice 27 n parts) (hn : n = l.length) (hp : parts.toList = (xs.zipIdx 0).map fun x => (x.2, x.1)) (hx : xs.map (ev (cutF N F)) = vs) (hv : vs = byteVals l) (h0 : 0 < l.length) (hsz : l.length ≤ 65536) (hb : ∀ x ∈ l, x < 256)
    (h : ∀ v w' T, Owb w' T v l → Grew w noB T → Kept (fun _ => False) w w' → wl ro Try.prog N ops Q rest (putF F o.dst v) w') : wl ro Try.prog N ops Q (o :: rest) F w :=
  wl_op hg hd (y_builtBn ho hn hp hx hv h0 hsz hb h)
end
end Go.Proofs.Ytnccblhdokplkaa
set_option maxRecDepth 100000
namespace Go.Proofs.Ytnccblhdokplkaa
open Go.RowKit
theorem stcT_seq : StcT Try.prog 24 4 := ⟨_, Try.underlying24, rfl, by kernel_rfl⟩
theorem stcT_head : StcT Try.prog 26 4 := ⟨_, Try.underlying26, rfl, by kernel_rfl⟩
theorem tmod8 {n : Int} (h : 8 ≤ n) : Int.tmod n 8 = n % 8 := Int.tmod_eq_emod_of_nonneg (by omega)
theorem byte_wrap (n : Int) (m : Nat) : IntKind.u8.wrap (n / (m : Int)) = ((btI n m : Nat) : Int) := by
  unfold btI IntKind.wrap; simp [IntKind.bits, IntKind.signed]; omega

theorem seqE_iff {W H R B : Int} : seqE W H R B = 0 ↔ seqOk W H R B := by
  unfold seqE; by_cases h : seqOk W H R B
  · rw [if_pos h]; exact iff_of_true rfl h
  · rw [if_neg h]; exact iff_of_false (by decide) h
theorem headE_iff {K Q D F : Int} : headE K Q D F = 0 ↔ headOk K Q D F := by
  unfold headE; by_cases h : headOk K Q D F
  · rw [if_pos h]; exact iff_of_true rfl h
  · rw [if_neg h]; exact iff_of_false (by decide) h
theorem nm_sub2 (l : List Nat) : nmAt (((l).drop (2)).take ((6) - (2))) 0 = t2 l := by
  unfold t2 nmAt; simp [List.getD, List.getElem?_drop]
theorem nm_sub6 (l : List Nat) : nmAt (((l).drop (6)).take ((10) - (6))) 0 = t3 l := by
  unfold t3 nmAt; simp [List.getD, List.getElem?_drop]
end Go.Proofs.Ytnccblhdokplkaa
set_option maxRecDepth 100000
namespace Go.Proofs.Ytnccblhdokplkaa
open Go.RowKit

def intsV (xs : List Int) : Array Value := (xs.map fun x => Value.int .i64 x).toArray
def sameI (xs ys : List Int) : Bool := decide (xs = ys)
theorem sameI_self (xs : List Int) : sameI xs xs = true := decide_eq_true rfl
theorem sameI_of {xs ys : List Int} (h : xs = ys) : sameI xs ys = true := decide_eq_true h
theorem part_i64 (w : World) (xs : List Int) (i : Nat) (z : Int) (h : xs[i]? = some z) : (part 3 (intsV xs) i).run Try.prog w = .ok (.int .i64 z) w := by
  have e : (intsV xs)[i]? = some (.int .i64 z) := by
    unfold intsV
    rw [List.getElem?_toArray, List.getElem?_map, h]; rfl
  simp [part, isAgg, run_underlying Try.underlying3, e]
theorem run_same_fields (w : World) (d : Nat) (xs ys : List Int) : ∀ (fs : List Field) (k : Nat), fs.map (fun f => (f.name == "_", f.type, f.offset)) = (List.range' k fs.length).map (fun i => (false, 3, i)) → xs.length = k + fs.length → ys.length = k + fs.length →
    (Op.eqFields (d + 1) (intsV xs) (intsV ys) fs).run Try.prog w = .ok (sameI (xs.drop k) (ys.drop k)) w := by
  intro fs
  induction fs with
  | nil =>
    intro k _ hx hy
    simp only [List.length_nil, Nat.add_zero] at hx hy
    rw [List.drop_of_length_le (by omega), List.drop_of_length_le (by omega), sameI_self]
    simp [Op.eqFields]
  | cons f r ih =>
    intro k hf hx hy
    simp only [List.length_cons] at hx hy
    simp only [List.map_cons, List.length_cons, List.range'_succ, List.cons.injEq, Prod.mk.injEq] at hf
    obtain ⟨⟨hn, ht, ho⟩, hr⟩ := hf
    have hn' : f.name ≠ "_" := by simpa using hn
    have hkx : k < xs.length := by omega
    have hky : k < ys.length := by omega
    have p1 := part_i64 w xs k xs[k] (List.getElem?_eq_getElem hkx)
    have p2 := part_i64 w ys k ys[k] (List.getElem?_eq_getElem hky)
    have p3 := ih (k + 1) hr (by omega) (by omega)
    have ex : xs.drop k = xs[k] :: xs.drop (k + 1) := List.drop_eq_getElem_cons hkx
    have ey : ys.drop k = ys[k] :: ys.drop (k + 1) := List.drop_eq_getElem_cons hky
    have hs : sameI (xs.drop k) (ys.drop k) = (decide (xs[k] = ys[k]) && sameI (xs.drop (k + 1)) (ys.drop (k + 1))) := by
      rw [ex, ey]
      generalize xs[k] = a
      generalize ys[k] = b
      generalize xs.drop (k + 1) = X
      generalize ys.drop (k + 1) = Y
      unfold sameI
      by_cases h : a = b <;> simp [h]
    rw [hs]
    generalize sameI (xs.drop (k + 1)) (ys.drop (k + 1)) = q at p3
    generalize xs[k] = a at p1
    generalize ys[k] = b at p2
    simp only [Op.eqFields, ht, ho]
    rw [if_pos hn']
    simp only [Sem.run_bind, p1, p2, Result.andThen_ok, run_equalIn_int w d 3 .i64 .i64 _ _ Try.underlying3]
    by_cases h1 : a = b
    · subst h1
      simp only [beq_self_eq_true, Bool.not_true, Bool.false_eq_true, if_false, p3, decide_true, Bool.true_and]
    · have : (a == b) = false := by simpa using h1
      simp [this, h1]
/-- A struct of n ints. -/
def StructI (ty : TypeId) (n : Nat) : Prop := (Try.prog.underlying ty = some (.struct (Try.prog.fieldsOf ty)) ∧ Try.prog.stoodInHeld ty = false) ∧ Try.prog.eqGuardType Try.prog.depth ty = false ∧ (Try.prog.fieldsOf ty).toList.map (fun f => (f.name == "_", f.type, f.offset)) = (List.range' 0 n).map (fun i => (false, 3, i))
theorem run_same_ints (w : World) {ty : TypeId} {n : Nat} (hS : StructI ty n) (xs ys : List Int) (hx : xs.length = n) (hy : ys.length = n) : (Op.equalIn 10000 ty (.agg (intsV xs)) (.agg (intsV ys))).run Try.prog w = .ok (sameI xs ys) w := by
  rw [run_equalIn_struct w 9999 _ _ _ hS.1.1 hS.1.2]
  have hlen : (Try.prog.fieldsOf ty).toList.length = n := by have := congrArg List.length hS.2.2; simpa using this
  have := run_same_fields w 9998 xs ys (Try.prog.fieldsOf ty).toList 0 (by rw [hlen]; exact hS.2.2) (by omega) (by omega)
  simpa using this
section
variable {ρ : Operand → Value} {o : Oper} {w : World} {R : Value → World → Prop}
theorem y_eqlSI {ty t' : TypeId} {n : Nat} {x y : Operand} {xs ys : List Int} {q : Bool} (hS : StructI ty n) (ho : o.op = .binOp .eql ty x y t') (hx : ρ x = .agg (intsV xs)) (hy : ρ y = .agg (intsV ys)) (lx : xs.length = n) (ly : ys.length = n) (hr : sameI xs ys = q) (h : R (.bool q) w) : Yields Try.prog ρ o w R :=
  y_of (v := .bool (sameI xs ys)) (w' := w) (by simp only [execOp, ho, hx, hy, Sem.run_bind, run_eqGuard_agg w .eql _ _ _ _ _ hS.2.1, run_eql_struct, run_same_ints w hS xs ys lx ly, Result.andThen_ok, Sem.run_pure]) (by rw [hr]; exact h)
end
end Go.Proofs.Ytnccblhdokplkaa
set_option maxRecDepth 100000
namespace Go.Proofs.Ytnccblhdokplkaa
open Go.RowKit

section
variable {P : Program} {ρ : Operand → Value} {o : Oper} {w : World} {R : Value → World → Prop}
theorem y_clc {f : FuncId} {c : Call} {S : Ending → World → Prop} {cx : Operand} {xs : List Operand} {vs cs : List Value} (ho : o.op = .call c) (hc : c.callee = .value cx) (hcx : ρ cx = .func (.func f) #[] cs.toArray) (hx : c.args = xs.toArray) (hf : ∀ args w, (callFunc f args).run P w = .ok (.enter f args) w)
    (hv : xs.map ρ = vs) (h : Calls P f (vs ++ cs).toArray w S) (hS : ∀ e w', S e w' → ∃ v, e = .returned v ∧ R v w') : Yields P ρ o w R := by
  obtain ⟨cl, ag, ts⟩ := c
  simp only at hc hx
  subst hc; subst hx; subst hv
  unfold Yields
  have e : (execOp ρ o).run P w = .ok (.enter f (xs.map ρ ++ cs).toArray) w := by simp [execOp, ho, resolve, hcx, Deferred.ofValue, invoke, hf]
  rw [e]
  exact h.mono hS
theorem y_orR {t t' : TypeId} {k : IntKind} {x y : Operand} {m n r : Int} (ho : o.op = .binOp .or t x y t') (hx : ρ x = .int k m) (hy : ρ y = .int k n) (hr : bits .or k m n = r) (h : R (.int k r) w) : Yields P ρ o w R :=
  y_of (v := .int k (bits .or k m n)) (w' := w) (by simp [execOp, ho, hx, hy, go_sem]) (by rw [hr]; exact h)
end
theorem or_byte (m : Int) (b : Nat) (h0 : 0 ≤ m) (h1 : m < 1099511627776) (hb : b < 256) : bits .or .i64 (m * 256) (b : Int) = m * 256 + b := by
  rw [bits_join .i64 63 (by decide) (fun n h0 h1 => by rw [IntKind.wrap_i64]; omega) 8 (m * 256) (b : Int) (by omega) (by omega) (by omega) (by omega) (by omega) (by omega)]
theorem shl_byte (m : Int) (h0 : 0 ≤ m) (h1 : m < 1099511627776) : IntKind.i64.wrap (m * 2 ^ min 8 IntKind.i64.bits) = m * 256 := by
  rw [show (2 : Int) ^ min 8 IntKind.i64.bits = 256 from by decide, IntKind.wrap_i64]; omega
/-- A cell of bytes that a function has captured, and the bytes that it holds. -/
def Cob (w : World) (T : Nat → Prop) (p : Nat) (l : List Nat) : Prop := ∃ (v : Value) (Tb : Nat → Prop), (∀ i, T i ↔ (onB p i ∨ Tb i)) ∧ Apart (onB p) Tb ∧ Cel w p 27 v ∧ Owb w Tb v l
theorem Cob.live {w : World} {T : Nat → Prop} {p : Nat} {l : List Nat} (h : Cob w T p l) : Live w T := by
  obtain ⟨v, Tb, hT, _, h1, h2⟩ := h
  exact fun i hi => ((hT i).1 hi).elim (fun e => by cases e; exact h1.lt) (fun e => h2.live i e)
theorem Cob.all {S : Nat → Prop} {w w' : World} {T : Nat → Prop} {p : Nat} {l : List Nat} (h : Cob w T p l) (k : Kept S w w') (ha : Apart T S) : Cob w' T p l := by
  obtain ⟨v, Tb, hT, hap, h1, h2⟩ := h
  exact ⟨v, Tb, hT, hap, h1.all k (ha p ((hT p).2 (.inl rfl))), h2.all k (fun i hi => ha i ((hT i).2 (.inr hi)))⟩
end Go.Proofs.Ytnccblhdokplkaa
set_option maxRecDepth 100000
namespace Go.Proofs.Ytnccblhdokplkaa
open Go.RowKit



def arrV (p k : Nat) : Value := .slice (some (if 4 = k then ⟨p, 0, none⟩ else ⟨p, k, none⟩)) (4 - k) (4 - k)
theorem Stc.bytes {w : World} {p t : Nat} {a b c d : Nat} (h : Stc w p t [.int .u8 (a : Int), .int .u8 (b : Int), .int .u8 (c : Int), .int .u8 (d : Int)]) (ha : a < 256) (hb : b < 256) (hc : c < 256) (hd : d < 256) {k : Nat} (hk : k ≤ 4) : Byt w (onB p) (arrV p k) ([a, b, c, d].drop k) := by
  have hl : ([a, b, c, d].drop k).length = 4 - k := by simp
  refine ⟨⟨some (if 4 = k then ⟨p, 0, none⟩ else ⟨p, k, none⟩), 4 - k, by rw [hl]; rfl, by omega, Nat.le_trans (Nat.sub_le 4 k) (by decide), (fun e => by cases e), ?_, fun hp => ⟨p, k, by rw [if_neg (by omega)], h.lt, fun i hi => ?_⟩⟩, onB_live h.lt, fun _ a' n c' e => ?_⟩
  · intro x hx
    have := List.mem_of_mem_drop hx
    simp at this
    omega
  · rw [hl] at hi
    have hc := h.cell (i := k + i) (v := .int .u8 (([a, b, c, d].drop k).getD i 0 : Nat)) (by
      have : k = 0 ∨ k = 1 ∨ k = 2 ∨ k = 3 := by omega
      have hi4 : i = 0 ∨ i = 1 ∨ i = 2 ∨ i = 3 := by omega
      rcases this with rfl | rfl | rfl | rfl <;> rcases hi4 with rfl | rfl | rfl | rfl <;> first | rfl | omega)
    exact hc
  · unfold arrV at e
    simp only [Value.slice.injEq, Option.some.injEq] at e
    rw [← e.1]
    split <;> rfl

end Go.Proofs.Ytnccblhdokplkaa
set_option maxRecDepth 100000
namespace Go.Proofs.Ytnccblhdokplkaa
open Go.RowKit

def nilS : Value → Bool
  | .slice a _ _ => a.isNone
  | _ => false
theorem Byt.shape {w : World} {T : Nat → Prop} {v : Value} {l : List Nat} (h : Byt w T v l) : ∃ a n c, v = .slice a n c := by
  obtain ⟨⟨a, c, e, _⟩, _⟩ := h
  exact ⟨a, _, c, e⟩
theorem Byt.nilS {w : World} {T : Nat → Prop} {v : Value} {l : List Nat} (h : Byt w T v l) (hn : nilS v = true) : l = [] := by
  obtain ⟨⟨a, c, rfl, _, _, _, _, hc⟩, _⟩ := h
  cases l with
  | nil => rfl
  | cons x r =>
    obtain ⟨b, off, rfl, _⟩ := hc (Nat.succ_pos _)
    cases hn
section
variable {ρ : Operand → Value} {o : Oper} {w : World} {R : Value → World → Prop}
theorem y_eqlNilS {t t' d : TypeId} {x y : Operand} {v : Value} {b : Bool} (ho : o.op = .binOp .eql t x y t') (hx : ρ x = v) (hy : ρ y = .slice none 0 0) (hu : Try.prog.underlying t = some (.slice d)) (hs : ∃ a n c, v = .slice a n c) (hr : nilS v = b) (h : R (.bool b) w) : Yields Try.prog ρ o w R := by
  obtain ⟨a, n, c, rfl⟩ := hs
  subst hr
  exact y_of (v := .bool a.isNone) (w' := w) (by simp [execOp, ho, hx, hy, Lib.run_eql_slice_nil w t d a n c 0 0 hu, go_sem]) h
end
end Go.Proofs.Ytnccblhdokplkaa
set_option maxRecDepth 100000
namespace Go.Proofs.Ytnccblhdokplkaa
open Go.RowKit
theorem arrT4 : ArrT 43 4 := ArrT.of Try.underlying43 (by kernel_rfl)
end Go.Proofs.Ytnccblhdokplkaa
