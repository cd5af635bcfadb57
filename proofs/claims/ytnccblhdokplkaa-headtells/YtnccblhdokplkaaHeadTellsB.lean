/- What HeadTells reaches of my texts, part 2. -/
import Derived.Test.YtnccblhdokplkaaHeadTellsA
set_option maxRecDepth 100000
set_option maxRecDepth 100000
namespace Go.Proofs.Ytnccblhdokplkaa
open Go.RowKit

/-- What is said of an operation: what it answers; that it turns the block of operation j; that it makes a block that holds zs until operation k, and us from then on; that it turns a block that was there. -/
inductive Pc where
  | eq (v : Value)
  | turn (j : Nat)
  | blk (t : TypeId) (zs : List Value) (k : Nat) (us : List Value)
  | told (p : Nat) (t : TypeId) (zs us : List Value)
def Pc.none : Pc := .eq undef
def isBlk : Pc → Bool
  | .blk _ _ _ _ => true
  | _ => false
def HoldC (n0 : Nat) (p : Pc) (L : Nat → Bool) (v : Value) (w : World) : Prop := match p with
  | .eq x => v = x
  | .turn _ => True
  | .told _ _ _ _ => True
  | .blk t zs k us => ∃ q, v = .pointer (some ⟨q, 0, none⟩) ∧ n0 ≤ q ∧ Stc w q t (if L k = true then us else zs)
/-- The blocks that were there and are turned: they are there, and none is another one. -/
def NotTold (p : Nat) : List Pc → Prop
  | [] => True
  | .told q _ _ _ :: r => p ≠ q ∧ NotTold p r
  | .eq _ :: r => NotTold p r
  | .turn _ :: r => NotTold p r
  | .blk _ _ _ _ :: r => NotTold p r
def Olds (S : Nat → Prop) (w0 : World) : List Pc → Prop
  | [] => True
  | .told p t zs _ :: r => (S p ∧ Stc w0 p t zs ∧ NotTold p r) ∧ Olds S w0 r
  | .eq _ :: r => Olds S w0 r
  | .turn _ :: r => Olds S w0 r
  | .blk _ _ _ _ :: r => Olds S w0 r
theorem NotTold.at {p : Nat} : ∀ {Gs : List Pc}, NotTold p Gs → ∀ i q t zs us, Gs.getD i Pc.none = .told q t zs us → p ≠ q := by
  intro Gs
  induction Gs with
  | nil => intro _ i q t zs us h; cases h
  | cons g r ih =>
    intro h i q t zs us e
    cases i with
    | zero =>
      have e : g = .told q t zs us := by simpa using e
      subst e; exact h.1
    | succ i =>
      have e : r.getD i Pc.none = .told q t zs us := by simpa using e
      cases g <;> first | exact ih h.2 i q t zs us e | exact ih h i q t zs us e
theorem Olds.at {S : Nat → Prop} {w0 : World} : ∀ {Gs : List Pc}, Olds S w0 Gs → ∀ i p t zs us, Gs.getD i Pc.none = .told p t zs us → S p ∧ Stc w0 p t zs := by
  intro Gs
  induction Gs with
  | nil => intro _ i q t zs us h; cases h
  | cons g r ih =>
    intro h i q t zs us e
    cases i with
    | zero =>
      have e : g = .told q t zs us := by simpa using e
      subst e; exact ⟨h.1.1, h.1.2.1⟩
    | succ i =>
      have e : r.getD i Pc.none = .told q t zs us := by simpa using e
      cases g <;> first | exact ih h.2 i q t zs us e | exact ih h i q t zs us e
theorem Olds.ne {S : Nat → Prop} {w0 : World} : ∀ {Gs : List Pc}, Olds S w0 Gs → ∀ i j p t zs us p' t' zs' us', i ≠ j → Gs.getD i Pc.none = .told p t zs us → Gs.getD j Pc.none = .told p' t' zs' us' → p ≠ p' := by
  intro Gs
  induction Gs with
  | nil => intro _ i j p t zs us p' t' zs' us' _ h; cases h
  | cons g r ih =>
    intro h i j p t zs us p' t' zs' us' hij e1 e2
    cases i with
    | zero =>
      have e1 : g = .told p t zs us := by simpa using e1
      subst e1
      cases j with
      | zero => exact absurd rfl hij
      | succ j => exact h.1.2.2.at j p' t' zs' us' (by simpa using e2)
    | succ i =>
      cases j with
      | zero =>
        have e2 : g = .told p' t' zs' us' := by simpa using e2
        subst e2
        exact fun e => h.1.2.2.at i p t zs us (by simpa using e1) e.symm
      | succ j =>
        have hr : Olds S w0 r := by cases g <;> first | exact h.2 | exact h
        exact ih hr i j p t zs us p' t' zs' us' (fun e => hij (by rw [e])) (by simpa using e1) (by simpa using e2)
structure JC (S : Nat → Prop) (w0 : World) (Gs : List Pc) (L : Nat → Bool) (v : Nat → Value) (w : World) : Prop where
  kept : Kept S w0 w
  olds : ∀ i p t zs us, Gs.getD i Pc.none = .told p t zs us → Stc w p t (if L i = true then us else zs)
  holds : ∀ i, L i = true → HoldC w0.heap.size (Gs.getD i Pc.none) L (v i) w
  apart : ∀ i j, i ≠ j → L i = true → L j = true → isBlk (Gs.getD i Pc.none) = true → isBlk (Gs.getD j Pc.none) = true → v i ≠ v j
  clos : ∀ k j, L k = true → Gs.getD k Pc.none = .turn j → L j = true
/-- Each block is turned by one operation, that waits for it. -/
def wfAt (os : List Oper) (D : List (Option Tmp)) (Gs : List Pc) (i : Nat) : Pc → Bool
  | .eq _ => true
  | .told _ _ _ _ => true
  | .turn j => (match Gs.getD j Pc.none with | .blk _ _ k _ => k == i | _ => false) && (match D.getD j none with | some _ => true | none => false) && (match os[i]? with | some o => waitsOn o j | none => false)
  | .blk _ _ k _ => match Gs.getD k Pc.none with | .turn j => j == i | _ => false
def wfC (os : List Oper) (D : List (Option Tmp)) (Gs : List Pc) : Bool := (List.range Gs.length).all fun i => wfAt os D Gs i (Gs.getD i Pc.none)
theorem wfC_at {os : List Oper} {D : List (Option Tmp)} {Gs : List Pc} (h : wfC os D Gs = true) (i : Nat) : wfAt os D Gs i (Gs.getD i Pc.none) = true := by
  by_cases hi : i < Gs.length
  · exact List.all_eq_true.1 h i (List.mem_range.2 hi)
  · have : Gs.getD i Pc.none = Pc.none := by simp [List.getD, List.getElem?_eq_none (show Gs.length ≤ i by omega)]
    rw [this]; rfl
theorem wf_blk {os : List Oper} {D : List (Option Tmp)} {Gs : List Pc} (h : wfC os D Gs = true) {i k : Nat} {t : TypeId} {zs us : List Value} (e : Gs.getD i Pc.none = .blk t zs k us) : Gs.getD k Pc.none = .turn i := by
  have := wfC_at h i
  rw [e] at this
  simp only [wfAt] at this
  split at this
  · rename_i j hj; rw [hj]; have : j = i := by simpa using this
    rw [this]
  · cases this

/-- What is told to operation i of those that it waits for. -/
def ToldC (n0 : Nat) (Gs : List Pc) (i : Nat) : Nat → Value → World → Prop := fun j v w => match Gs.getD j Pc.none with
  | .eq x => v = x
  | .turn _ => True
  | .told _ _ _ _ => True
  | .blk t zs k _ => k = i → ∃ q, v = .pointer (some ⟨q, 0, none⟩) ∧ n0 ≤ q ∧ Stc w q t zs
def LeftC (Gs : List Pc) (D : List (Option Tmp)) (i : Nat) (ρ : Operand → Value) (w : World) (v : Value) (w' : World) : Prop := match Gs.getD i Pc.none with
  | .eq x => v = x ∧ Kept (fun _ => False) w w'
  | .blk t zs _ _ => ∃ q, v = .pointer (some ⟨q, 0, none⟩) ∧ w.heap.size ≤ q ∧ Stc w' q t zs ∧ Kept (fun _ => False) w w'
  | .told p t _ us => Stc w' p t us ∧ Kept (onB p) w w'
  | .turn j => ∃ d q, D.getD j none = some d ∧ ρ (.tmp d) = .pointer (some ⟨q, 0, none⟩) ∧ (∀ t zs us, Gs.getD j Pc.none = .blk t zs i us → Stc w' q t us) ∧ Kept (onB q) w w'
section
variable {P : Program} {N : Nat} {F : Nat → Value} {w : World} {Q : Exit → (Nat → Value) → World → Prop}
def StepFC (S : Nat → Prop) (N : Nat) (P : Program) (D : List (Option Tmp)) (Gs : List Pc) (F0 : Nat → Value) (w0 : World) (i : Nat) (o : Oper) : Prop :=
  ∀ (F : Nat → Value) (w : World), Kept S w0 w → (∀ t, Nat.blt t N = true → some t ∉ D → F t = F0 t) → DepsF D (ToldC w0.heap.size Gs i) F w o.after.toList → (∀ p t zs us, Gs.getD i Pc.none = .told p t zs us → Stc w p t zs) →
    match o.guard with
    | none => Yields P (ev F) o w (LeftC Gs D i (ev F) w)
    | some (j, want) => ∃ d, D.getD j none = some d ∧
      ((F d = .bool want ∧ Yields P (ev F) o w (LeftC Gs D i (ev F) w)) ∨ ((F d = .bool (!want) ∨ F d = undef) ∧ Gs.getD i Pc.none = .eq undef))
def StepsFC (S : Nat → Prop) (N : Nat) (P : Program) (D : List (Option Tmp)) (Gs : List Pc) (F0 : Nat → Value) (w0 : World) : Nat → List Oper → Prop
  | _, [] => True
  | i, o :: r => StepFC S N P D Gs F0 w0 i o ∧ StepsFC S N P D Gs F0 w0 (i + 1) r
theorem StepFC.one {S : Nat → Prop} {D : List (Option Tmp)} {Gs : List Pc} {F0 : Nat → Value} {w0 : World} {i : Nat} {o : Oper} (hg : o.guard = none)
    (h : ∀ (F : Nat → Value) (w : World), Kept S w0 w → (∀ t, Nat.blt t N = true → some t ∉ D → F t = F0 t) → DepsF D (ToldC w0.heap.size Gs i) F w o.after.toList → Yields P (ev F) o w (LeftC Gs D i (ev F) w)) : StepFC S N P D Gs F0 w0 i o := by
  intro F w h1 h2 h3 _
  rw [hg]
  exact h F w h1 h2 h3
theorem StepFC.old {S : Nat → Prop} {D : List (Option Tmp)} {Gs : List Pc} {F0 : Nat → Value} {w0 : World} {i p : Nat} {t : TypeId} {zs us : List Value} {o : Oper} (hg : o.guard = none) (he : Gs.getD i Pc.none = .told p t zs us)
    (h : ∀ (F : Nat → Value) (w : World), Kept S w0 w → (∀ t, Nat.blt t N = true → some t ∉ D → F t = F0 t) → DepsF D (ToldC w0.heap.size Gs i) F w o.after.toList → Stc w p t zs → Yields P (ev F) o w (fun _ w' => Stc w' p t us ∧ Kept (onB p) w w')) : StepFC S N P D Gs F0 w0 i o := by
  intro F w h1 h2 h3 h4
  rw [hg]
  refine (h F w h1 h2 h3 (h4 _ _ _ _ he)).mono' fun v w' hx => ?_
  unfold LeftC
  rw [he]; exact hx
theorem StepFC.when {S : Nat → Prop} {D : List (Option Tmp)} {Gs : List Pc} {F0 : Nat → Value} {w0 : World} {i : Nat} {o : Oper} (j : Nat) (want : Bool) (d : Tmp) (hg : o.guard = some (j, want)) (hd : D.getD j none = some d)
    (h : ∀ (F : Nat → Value) (w : World), Kept S w0 w → (∀ t, Nat.blt t N = true → some t ∉ D → F t = F0 t) → DepsF D (ToldC w0.heap.size Gs i) F w o.after.toList → F d = .bool want ∧ Yields P (ev F) o w (LeftC Gs D i (ev F) w)) : StepFC S N P D Gs F0 w0 i o := by
  intro F w h1 h2 h3 _
  rw [hg]
  exact ⟨d, hd, .inl (h F w h1 h2 h3)⟩
theorem upL_here {L : Nat → Bool} {i : Nat} : upL L i i = true := if_pos rfl
theorem upL_ne {L : Nat → Bool} {i j : Nat} (h : j ≠ i) : upL L i j = L j := if_neg h
theorem upV_here {v : Nat → Value} {i : Nat} {x : Value} : upV v i x i = x := if_pos rfl
theorem upV_ne {v : Nat → Value} {i j : Nat} {x : Value} (h : j ≠ i) : upV v i x j = v j := if_neg h
theorem getElem_getD {α : Type} {l : List α} {d x : α} {i : Nat} (h : l.getD i d = x) (hn : x ≠ d) : l[i]? = some x := by
  unfold List.getD at h
  cases hq : l[i]? with
  | none => rw [hq] at h; exact absurd h.symm hn
  | some y => rw [hq] at h; simpa using h

/-- One more operation that is no turn. -/
theorem JC.more {S : Nat → Prop} {os : List Oper} {D : List (Option Tmp)} {Gs : List Pc} {w0 w w' : World} {L : Nat → Bool} {v : Nat → Value} {i : Nat} {x : Value} (hwf : wfC os D Gs = true) (h : JC S w0 Gs L v w) (hi : L i = false) (k : Kept (fun _ => False) w w')
    (hnt : ∀ j, Gs.getD i Pc.none ≠ .turn j) (hnd : ∀ p t zs us, Gs.getD i Pc.none ≠ .told p t zs us) (hx : HoldC w0.heap.size (Gs.getD i Pc.none) (upL L i) x w') (hb : isBlk (Gs.getD i Pc.none) = true → ∃ q, x = .pointer (some ⟨q, 0, none⟩) ∧ w.heap.size ≤ q) : JC S w0 Gs (upL L i) (upV v i x) w' := by
  have hkeep : ∀ j, L j = true → HoldC w0.heap.size (Gs.getD j Pc.none) (upL L i) (v j) w' := by
    intro j hj
    have := h.holds j hj
    revert this
    cases e : Gs.getD j Pc.none with
    | eq y => exact id
    | turn y => exact id
    | told y1 y2 y3 y4 => exact id
    | blk t zs kk us =>
      rintro ⟨q, e1, e2, e3⟩
      have hki : kk ≠ i := fun e' => hnt j (by rw [← e']; exact wf_blk hwf e)
      refine ⟨q, e1, e2, ?_⟩
      rw [upL_ne hki]
      exact e3.all k id
  refine ⟨h.kept.trans k (fun _ _ x => x.elim), fun j p t zs us hj => ?_, fun j hj => ?_, fun a b hab ha hb' hA hB => ?_, fun a b ha hab => ?_⟩
  · have hji : j ≠ i := fun e => hnd p t zs us (by rw [← e]; exact hj)
    rw [upL_ne hji]
    exact (h.olds j p t zs us hj).all k id
  · by_cases hji : j = i
    · subst hji; rw [upV_here]; exact hx
    · rw [upL_ne hji] at hj; rw [upV_ne hji]; exact hkeep j hj
  · have hnew : ∀ c, c ≠ i → L c = true → isBlk (Gs.getD c Pc.none) = true → isBlk (Gs.getD i Pc.none) = true → v c ≠ x := by
      intro c _ hc hC hI e
      obtain ⟨q, e1, e2⟩ := hb hI
      have := h.holds c hc
      revert this hC
      cases e' : Gs.getD c Pc.none with
      | eq y => intro hC; cases hC
      | turn y => intro hC; cases hC
      | told y1 y2 y3 y4 => intro hC; cases hC
      | blk t zs kk us =>
        rintro - ⟨q', f1, f2, f3⟩
        rw [f1, e1] at e
        cases e
        have := f3.lt
        omega
    by_cases hai : a = i
    · subst hai
      have hba : b ≠ a := fun e => hab e.symm
      rw [upL_ne hba] at hb'
      rw [upV_here, upV_ne hba]
      exact fun e => hnew b hba hb' hB hA e.symm
    · rw [upL_ne hai] at ha
      rw [upV_ne hai]
      by_cases hbi : b = i
      · subst hbi; rw [upV_here]; exact hnew a hai ha hA hB
      · rw [upL_ne hbi] at hb'; rw [upV_ne hbi]; exact h.apart a b hab ha hb' hA hB
  · by_cases hai : a = i
    · subst hai; exact absurd hab (hnt b)
    · rw [upL_ne hai] at ha
      have := h.clos a b ha hab
      by_cases hbi : b = i
      · subst hbi; exact upL_here
      · rw [upL_ne hbi]; exact this
/-- One more turn. -/
theorem JC.turned {S : Nat → Prop} {os : List Oper} {D : List (Option Tmp)} {Gs : List Pc} {w0 w w' : World} {L : Nat → Bool} {v : Nat → Value} {i j q : Nat} {x : Value} (hwf : wfC os D Gs = true) (hO : Olds S w0 Gs) (h : JC S w0 Gs L v w) (hi : L i = false) (hj : L j = true) (he : Gs.getD i Pc.none = .turn j)
    (hv : v j = .pointer (some ⟨q, 0, none⟩)) (hq : ∀ t zs us, Gs.getD j Pc.none = .blk t zs i us → Stc w' q t us) (k : Kept (onB q) w w') : JC S w0 Gs (upL L i) (upV v i x) w' := by
  have hw := wfC_at hwf i
  rw [he] at hw
  simp only [wfAt, Bool.and_eq_true] at hw
  have hn0 : w0.heap.size ≤ q := by
    have := h.holds j hj
    revert this
    obtain ⟨⟨h1, _⟩, _⟩ := hw
    cases e : Gs.getD j Pc.none with
    | eq y => rw [e] at h1; cases h1
    | turn y => rw [e] at h1; cases h1
    | told y1 y2 y3 y4 => rw [e] at h1; cases h1
    | blk t zs kk us =>
      rintro ⟨q', e1, e2, _⟩
      rw [hv] at e1; cases e1; exact e2
  have hjB : isBlk (Gs.getD j Pc.none) = true := by
    obtain ⟨⟨h1, _⟩, _⟩ := hw
    cases e : Gs.getD j Pc.none with
    | eq y => rw [e] at h1; cases h1
    | turn y => rw [e] at h1; cases h1
    | told y1 y2 y3 y4 => rw [e] at h1; cases h1
    | blk t zs kk us => rfl
  refine ⟨h.kept.trans k (fun b hb e => by cases e; omega), fun a p t zs us ha => ?_, fun a ha => ?_, fun a b hab ha hb hA hB => ?_, fun a b ha hab => ?_⟩
  · have hai : a ≠ i := fun e => by rw [e, he] at ha; cases ha
    rw [upL_ne hai]
    exact (h.olds a p t zs us ha).all k (fun e => by have := (hO.at a p t zs us ha).2.lt; rw [show p = q from e] at this; omega)
  · by_cases hai : a = i
    · subst hai; rw [upV_here, he]; exact trivial
    · rw [upL_ne hai] at ha; rw [upV_ne hai]
      have := h.holds a ha
      revert this
      cases e : Gs.getD a Pc.none with
      | eq y => exact id
      | turn y => exact id
      | told y1 y2 y3 y4 => exact id
      | blk t zs kk us =>
        rintro ⟨q', e1, e2, e3⟩
        have hk := wf_blk hwf e
        by_cases haj : a = j
        · subst haj
          have hki : kk = i := by
            obtain ⟨⟨h1, _⟩, _⟩ := hw
            rw [e] at h1; simpa using h1
          subst hki
          rw [hv] at e1; cases e1
          refine ⟨q, hv, hn0, ?_⟩
          rw [if_pos upL_here]
          exact hq t zs us e
        · have hki : kk ≠ i := fun e' => by rw [e', he] at hk; cases hk; exact haj rfl
          refine ⟨q', e1, e2, ?_⟩
          rw [upL_ne hki]
          refine e3.all k (fun e' => ?_)
          have := h.apart a j haj ha hj (by rw [e]; rfl) hjB
          rw [e1, hv] at this
          exact this (by rw [show q' = q from e'])
  · have hni : ∀ c, isBlk (Gs.getD c Pc.none) = true → c ≠ i := fun c hc e => by rw [e, he] at hc; cases hc
    rw [upV_ne (hni a hA), upV_ne (hni b hB)]
    rw [upL_ne (hni a hA)] at ha
    rw [upL_ne (hni b hB)] at hb
    exact h.apart a b hab ha hb hA hB
  · by_cases hai : a = i
    · subst hai
      rw [he] at hab; cases hab
      by_cases hji : j = a
      · subst hji; exact upL_here
      · rw [upL_ne hji]; exact hj
    · rw [upL_ne hai] at ha
      have := h.clos a b ha hab
      by_cases hbi : b = i
      · subst hbi; exact upL_here
      · rw [upL_ne hbi]; exact this

/-- One more turn of a block that was there. -/
theorem JC.oldTurned {S : Nat → Prop} {os : List Oper} {D : List (Option Tmp)} {Gs : List Pc} {w0 w w' : World} {L : Nat → Bool} {v : Nat → Value} {i p : Nat} {t : TypeId} {zs us : List Value} {x : Value} (hwf : wfC os D Gs = true) (hO : Olds S w0 Gs) (h : JC S w0 Gs L v w) (he : Gs.getD i Pc.none = .told p t zs us)
    (hq : Stc w' p t us) (k : Kept (onB p) w w') : JC S w0 Gs (upL L i) (upV v i x) w' := by
  have hp := hO.at i p t zs us he
  have hni : ∀ c, isBlk (Gs.getD c Pc.none) = true → c ≠ i := fun c hc e => by rw [e, he] at hc; cases hc
  refine ⟨h.kept.trans k (fun b hb e => by cases e; exact hp.1), fun a p' t' zs' us' ha => ?_, fun a ha => ?_, fun a b hab ha hb hA hB => ?_, fun a b ha hab => ?_⟩
  · by_cases hai : a = i
    · subst hai
      rw [he] at ha; cases ha
      rw [if_pos upL_here]; exact hq
    · rw [upL_ne hai]
      exact (h.olds a p' t' zs' us' ha).all k (fun e => hO.ne a i p' t' zs' us' p t zs us hai ha he e)
  · by_cases hai : a = i
    · subst hai; rw [upV_here, he]; exact trivial
    · rw [upL_ne hai] at ha; rw [upV_ne hai]
      have := h.holds a ha
      revert this
      cases e : Gs.getD a Pc.none with
      | eq y => exact id
      | turn y => exact id
      | told y1 y2 y3 y4 => exact id
      | blk t zs kk us =>
        rintro ⟨q', e1, e2, e3⟩
        have hk := wf_blk hwf e
        have hki : kk ≠ i := fun e' => by rw [e', he] at hk; cases hk
        refine ⟨q', e1, e2, ?_⟩
        rw [upL_ne hki]
        exact e3.all k (fun e' => by have := hp.2.lt; rw [show q' = p from e'] at e2; omega)
  · rw [upV_ne (hni a hA), upV_ne (hni b hB)]
    rw [upL_ne (hni a hA)] at ha
    rw [upL_ne (hni b hB)] at hb
    exact h.apart a b hab ha hb hA hB
  · have hai : a ≠ i := fun e => by rw [e, he] at hab; cases hab
    rw [upL_ne hai] at ha
    have := h.clos a b ha hab
    by_cases hbi : b = i
    · subst hbi; exact upL_here
    · rw [upL_ne hbi]; exact this

theorem StepFC.step {S : Nat → Prop} {os : List Oper} {D : List (Option Tmp)} {Gs : List Pc} {w0 : World} {i : Nat} {o : Oper} {a0 : Act} (hwf : wfC os D Gs = true) (hO : Olds S w0 Gs) (ho : os[i]? = some o) (ha : Fr N F a0) (h : StepFC S N P D Gs F w0 i o) : StepJ os P D (JC S w0 Gs) a0 i o := by
  intro L v a w hJ hi hdone hout hhere _
  have hdeps : DepsF D (ToldC w0.heap.size Gs i) (fun t => a.tmps.getD t undef) w o.after.toList := by
    refine Deps.toF (Deps.mk fun e he hb d hd => ?_)
    have hl := hdone e he hb
    have hDe := getElem_getD hd (by simp)
    have hv := hhere e.on d hl hDe
    rw [hv]
    have := hJ.holds e.on hl
    unfold ToldC
    revert this
    cases e' : Gs.getD e.on Pc.none with
    | eq y => exact id
    | turn y => exact id
    | told y1 y2 y3 y4 => exact id
    | blk t zs kk us =>
      rintro ⟨q, e1, e2, e3⟩ hk
      refine ⟨q, e1, e2, ?_⟩
      subst hk
      rw [hi, if_neg (by simp)] at e3
      exact e3
  have h1 := h (fun t => a.tmps.getD t undef) w hJ.kept (fun t hb ht => by rw [← ha.at' t hb]; exact hout t ht) hdeps (fun p t zs us e => by have := hJ.olds i p t zs us e; rw [hi, if_neg (by simp)] at this; exact this)
  rw [← eval_ev a] at h1
  have hleft : ∀ x w', LeftC Gs D i a.eval w x w' → JC S w0 Gs (upL L i) (upV v i x) w' := by
    intro x w' hx
    unfold LeftC at hx
    cases e : Gs.getD i Pc.none with
    | eq y =>
      rw [e] at hx
      exact hJ.more hwf hi hx.2 (fun j hj => by rw [e] at hj; cases hj) (fun _ _ _ _ hj => by rw [e] at hj; cases hj) (by rw [e]; exact hx.1) (by rw [e]; intro hb; cases hb)
    | blk t zs kk us =>
      rw [e] at hx
      obtain ⟨q, e1, e2, e3, e4⟩ := hx
      have hk := wf_blk hwf e
      have hki : kk ≠ i := fun e' => by rw [e', e] at hk; cases hk
      have hLk : L kk = false := by
        cases hq : L kk with
        | false => rfl
        | true => have := hJ.clos kk i hq hk; rw [hi] at this; cases this
      refine hJ.more hwf hi e4 (fun j hj => by rw [e] at hj; cases hj) (fun _ _ _ _ hj => by rw [e] at hj; cases hj) ?_ (fun _ => ⟨q, e1, e2⟩)
      rw [e]
      refine ⟨q, e1, Nat.le_trans hJ.kept.size e2, ?_⟩
      rw [upL_ne hki, hLk, if_neg (by simp)]
      exact e3
    | told p t zs us =>
      rw [e] at hx
      exact hJ.oldTurned hwf hO e hx.1 hx.2
    | turn j =>
      rw [e] at hx
      obtain ⟨d, q, hd, e1, e2, e3⟩ := hx
      have hw := wfC_at hwf i
      rw [e] at hw
      simp only [wfAt, Bool.and_eq_true, ho] at hw
      obtain ⟨ed, hed, hb, hon⟩ := waitsOn_iff.1 hw.2
      have hLj := hdone ed hed hb
      rw [hon] at hLj
      have hv := hhere j d hLj (getElem_getD hd (by simp))
      exact hJ.turned hwf hO hi hLj e (by rw [← hv]; exact e1) e2 e3
  unfold goes
  cases hg : o.guard with
  | none => rw [hg] at h1; exact ⟨fun _ => h1.mono' hleft, fun e => by cases e⟩
  | some g =>
    obtain ⟨j, want⟩ := g
    rw [hg] at h1
    obtain ⟨d, hd, h1⟩ := h1
    simp only [hd]
    have hev : a.eval (.tmp d) = a.tmps.getD d undef := rfl
    rcases h1 with ⟨hv, hy⟩ | ⟨hv, hs⟩
    · rw [hev, hv]; exact ⟨fun _ => hy.mono' hleft, fun e => by simp at e⟩
    · refine ⟨fun e => ?_, fun _ => hJ.more hwf hi (Kept.refl _ _) (fun j hj => by rw [hs] at hj; cases hj) (fun _ _ _ _ hj => by rw [hs] at hj; cases hj) (by rw [hs]; rfl) (by rw [hs]; intro hb; cases hb)⟩
      rcases hv with hv | hv
      · rw [hev, hv] at e; cases want <;> simp at e
      · rw [hev, hv] at e; simp [undef] at e
theorem StepsFC.steps {S : Nat → Prop} {all : List Oper} {D : List (Option Tmp)} {Gs : List Pc} {w0 : World} {a0 : Act} (hwf : wfC all D Gs = true) (hO : Olds S w0 Gs) (ha : Fr N F a0) : ∀ {os : List Oper} {i : Nat}, (∀ k o, os[k]? = some o → all[i + k]? = some o) → StepsFC S N P D Gs F w0 i os → StepsJ all P D (JC S w0 Gs) a0 i os := by
  intro os
  induction os with
  | nil => intro i _ _; exact trivial
  | cons o r ih =>
    intro i hat h
    exact ⟨h.1.step hwf hO (hat 0 o rfl) ha, ih (fun k o' hk => by have := hat (k + 1) o' hk; rwa [show i + (k + 1) = i + 1 + k by omega] at this) h.2⟩
end
end Go.Proofs.Ytnccblhdokplkaa
set_option maxRecDepth 100000
namespace Go.Proofs.Ytnccblhdokplkaa
open Go.RowKit

/-- Something in memory, what it is ahead of the operation that turns it, and behind it. -/
structure Thg where
  A : World → Prop
  T : Nat → Prop
  B : (Nat → Prop) → World → Prop
  stA : ∀ (w w' : World) (S : Nat → Prop), A w → Kept S w w' → Apart T S → A w'
  stB : ∀ (w w' : World) (S T' : Nat → Prop), B T' w → Kept S w w' → Apart T' S → B T' w'
  liA : ∀ w, A w → Live w T
  liB : ∀ w T', B T' w → Live w T'
inductive Pt where
  | eq (v : Value)
  | thg (t : Thg) (v : Value)
def Pt.none : Pt := .eq undef
def saysT : Pt → Value
  | .eq v => v
  | .thg _ v => v
/-- Where it lies now. -/
def curT (Gs : List Pt) (L : Nat → Bool) (Tf : Nat → Nat → Prop) (i : Nat) : Nat → Prop := match Gs.getD i Pt.none with
  | .eq _ => noB
  | .thg t _ => if L i = true then Tf i else t.T
/-- That it is. -/
def isT (Gs : List Pt) (L : Nat → Bool) (Tf : Nat → Nat → Prop) (w : World) (i : Nat) : Prop := match Gs.getD i Pt.none with
  | .eq _ => True
  | .thg t _ => if L i = true then t.B (Tf i) w else t.A w
structure JT (S : Nat → Prop) (w0 : World) (Gs : List Pt) (M : List (Nat × Nat)) (L : Nat → Bool) (v : Nat → Value) (Tf : Nat → Nat → Prop) (w : World) : Prop where
  kept : Kept S w0 w
  vals : ∀ i, L i = true → v i = saysT (Gs.getD i Pt.none)
  things : ∀ i, isT Gs L Tf w i
  grew : ∀ i t x, Gs.getD i Pt.none = .thg t x → L i = true → Grew w0 t.T (Tf i)
  apart : ∀ i j, i ≠ j → Apart (curT Gs L Tf i) (curT Gs L Tf j)
  clos : ∀ j i, (j, i) ∈ M → L j = true → L i = true
def OldT (S : Nat → Prop) (w0 : World) (Gs : List Pt) : Prop := (∀ i t x, Gs.getD i Pt.none = .thg t x → (∀ b, t.T b → S b) ∧ t.A w0) ∧ ∀ i j, i ≠ j → Apart (curT Gs (fun _ => false) (fun _ => noB) i) (curT Gs (fun _ => false) (fun _ => noB) j)
def FarT (T : Nat → Prop) : List Pt → Prop
  | [] => True
  | .thg t _ :: r => Apart T t.T ∧ FarT T r
  | .eq _ :: r => FarT T r
def OldsT (S : Nat → Prop) (w0 : World) : List Pt → Prop
  | [] => True
  | .thg t _ :: r => ((∀ b, t.T b → S b) ∧ t.A w0 ∧ FarT t.T r) ∧ OldsT S w0 r
  | .eq _ :: r => OldsT S w0 r
theorem FarT.at {T : Nat → Prop} : ∀ {Gs : List Pt}, FarT T Gs → ∀ i t x, Gs.getD i Pt.none = .thg t x → Apart T t.T := by
  intro Gs
  induction Gs with
  | nil => intro _ i t x h; cases h
  | cons g r ih =>
    intro h i t x e
    cases i with
    | zero =>
      have e : g = .thg t x := by simpa using e
      subst e; exact h.1
    | succ i =>
      have e : r.getD i Pt.none = .thg t x := by simpa using e
      cases g <;> first | exact ih h.2 i t x e | exact ih h i t x e
theorem OldsT.at {S : Nat → Prop} {w0 : World} : ∀ {Gs : List Pt}, OldsT S w0 Gs → ∀ i t x, Gs.getD i Pt.none = .thg t x → (∀ b, t.T b → S b) ∧ t.A w0 := by
  intro Gs
  induction Gs with
  | nil => intro _ i t x h; cases h
  | cons g r ih =>
    intro h i t x e
    cases i with
    | zero =>
      have e : g = .thg t x := by simpa using e
      subst e; exact ⟨h.1.1, h.1.2.1⟩
    | succ i =>
      have e : r.getD i Pt.none = .thg t x := by simpa using e
      cases g <;> first | exact ih h.2 i t x e | exact ih h i t x e
theorem OldsT.far {S : Nat → Prop} {w0 : World} : ∀ {Gs : List Pt}, OldsT S w0 Gs → ∀ i j t x t' x', i < j → Gs.getD i Pt.none = .thg t x → Gs.getD j Pt.none = .thg t' x' → Apart t.T t'.T := by
  intro Gs
  induction Gs with
  | nil => intro _ i j t x t' x' _ h; cases h
  | cons g r ih =>
    intro h i j t x t' x' hij e1 e2
    cases j with
    | zero => omega
    | succ j =>
      have e2 : r.getD j Pt.none = .thg t' x' := by simpa using e2
      cases i with
      | zero =>
        have e1 : g = .thg t x := by simpa using e1
        subst e1; exact h.1.2.2.at j t' x' e2
      | succ i =>
        have e1 : r.getD i Pt.none = .thg t x := by simpa using e1
        cases g <;> first | exact ih h.2 i j t x t' x' (by omega) e1 e2 | exact ih h i j t x t' x' (by omega) e1 e2
theorem OldsT.old {S : Nat → Prop} {w0 : World} {Gs : List Pt} (h : OldsT S w0 Gs) : OldT S w0 Gs := by
  refine ⟨fun i t x e => h.at i t x e, fun i j hij => ?_⟩
  unfold curT
  cases e1 : Gs.getD i Pt.none with
  | eq x => exact fun _ z => z.elim
  | thg t x =>
    cases e2 : Gs.getD j Pt.none with
    | eq y => exact fun _ _ z => z
    | thg t' y =>
      simp only [Bool.false_eq_true, if_false]
      rcases Nat.lt_or_gt_of_ne hij with hlt | hgt
      · exact h.far i j t x t' y hlt e1 e2
      · exact (h.far j i t' y t x hgt e2 e1).symm
/-- What is turned, and lies there. -/
def onT (w0 : World) (Gs : List Pt) (i : Nat) (w : World) : Prop := match Gs.getD i Pt.none with
  | .eq _ => True
  | .thg t _ => ∃ T', t.B T' w ∧ Grew w0 t.T T'
/-- M: who waits for whom, if only by way of others. -/
def ToldT (w0 : World) (Gs : List Pt) (M : List (Nat × Nat)) : Nat → Value → World → Prop := fun j v w => v = saysT (Gs.getD j Pt.none) ∧ onT w0 Gs j w ∧ ∀ i, (j, i) ∈ M → onT w0 Gs i w
def mustOk (os : List Oper) (M : List (Nat × Nat)) : Bool := M.all fun q => match os[q.1]? with | some o => o.after.toList.any (fun e => Region.binds .any e && (e.on == q.2 || M.contains (e.on, q.2))) | none => false
def LeftT (Gs : List Pt) (i : Nat) (w : World) (v : Value) (w' : World) : Prop := match Gs.getD i Pt.none with
  | .eq x => v = x ∧ Kept (fun _ => False) w w'
  | .thg t x => v = x ∧ Kept t.T w w' ∧ ∃ T', t.B T' w' ∧ Grew w t.T T'
theorem cur_live {S : Nat → Prop} {w0 w : World} {Gs : List Pt} {L : Nat → Bool} {v : Nat → Value} {Tf : Nat → Nat → Prop} {M : List (Nat × Nat)} (h : JT S w0 Gs M L v Tf w) (i : Nat) : Live w (curT Gs L Tf i) := by
  have := h.things i
  unfold isT at this
  unfold curT
  cases e : Gs.getD i Pt.none with
  | eq x => exact fun _ h => h.elim
  | thg t x =>
    rw [e] at this
    simp only at this ⊢
    cases hl : L i with
    | true => rw [hl] at this; rw [if_pos rfl] at this ⊢; exact t.liB w _ this
    | false => rw [hl] at this; rw [if_neg (by simp)] at this ⊢; exact t.liA w this
theorem cur_up {Gs : List Pt} {L : Nat → Bool} {Tf Tf' : Nat → Nat → Prop} {i j : Nat} (h : j ≠ i) (hT : Tf' j = Tf j) : curT Gs (fun k => if k = i then true else L k) Tf' j = curT Gs L Tf j := by
  unfold curT
  cases Gs.getD j Pt.none with
  | eq x => rfl
  | thg t x => simp only [if_neg h, hT]
theorem is_up {Gs : List Pt} {L : Nat → Bool} {Tf Tf' : Nat → Nat → Prop} {w : World} {i j : Nat} (h : j ≠ i) (hT : Tf' j = Tf j) : isT Gs (fun k => if k = i then true else L k) Tf' w j = isT Gs L Tf w j := by
  unfold isT
  cases Gs.getD j Pt.none with
  | eq x => rfl
  | thg t x => simp only [if_neg h, hT]
theorem is_kept {S' : Nat → Prop} {Gs : List Pt} {L : Nat → Bool} {Tf : Nat → Nat → Prop} {w w' : World} {j : Nat} (h : isT Gs L Tf w j) (k : Kept S' w w') (ha : Apart (curT Gs L Tf j) S') : isT Gs L Tf w' j := by
  unfold isT at h ⊢
  unfold curT at ha
  cases e : Gs.getD j Pt.none with
  | eq x => trivial
  | thg t x =>
    rw [e] at h ha
    simp only at h ha ⊢
    split
    · rename_i hl; rw [if_pos hl] at h ha; exact t.stB w w' S' _ h k ha
    · rename_i hl; rw [if_neg hl] at h ha; exact t.stA w w' S' h k ha
/-- One more operation. -/
theorem JT.more {S : Nat → Prop} {w0 w w' : World} {Gs : List Pt} {M : List (Nat × Nat)} {L : Nat → Bool} {v : Nat → Value} {Tf : Nat → Nat → Prop} {i : Nat} {x : Value} (hO : OldT S w0 Gs) (h : JT S w0 Gs M L v Tf w) (hi : L i = false) (hM : ∀ k, (i, k) ∈ M → L k = true) (hx : LeftT Gs i w x w') : ∃ Tf', JT S w0 Gs M (upL L i) (upV v i x) Tf' w' := by
  have hcl : ∀ j k, (j, k) ∈ M → upL L i j = true → upL L i k = true := fun j k hm hj => by
    have hk : L k = true := by
      by_cases hji : j = i
      · subst hji; exact hM k hm
      · rw [show upL L i j = L j from if_neg hji] at hj; exact h.clos j k hm hj
    unfold upL; split <;> first | rfl | exact hk
  unfold LeftT at hx
  cases e : Gs.getD i Pt.none with
  | eq y =>
    rw [e] at hx
    refine ⟨Tf, h.kept.trans hx.2 (fun _ _ z => z.elim), fun j hj => ?_, fun j => ?_, fun j t z hj hl => ?_, fun a b hab => ?_, hcl⟩
    · by_cases hji : j = i
      · subst hji; rw [show upV v j x j = x from if_pos rfl, e]; exact hx.1
      · rw [show upL L i j = L j from if_neg hji] at hj; rw [show upV v i x j = v j from if_neg hji]; exact h.vals j hj
    · by_cases hji : j = i
      · subst hji; unfold isT; rw [e]; trivial
      · rw [show isT Gs (upL L i) Tf w' j = isT Gs L Tf w' j from is_up hji rfl]; exact is_kept (h.things j) hx.2 (fun _ _ z => z)
    · have hji : j ≠ i := fun z' => by rw [z', e] at hj; cases hj
      rw [show upL L i j = L j from if_neg hji] at hl; exact h.grew j t z hj hl
    · have hc : ∀ c, curT Gs (upL L i) Tf c = curT Gs L Tf c := fun c => by
        by_cases hci : c = i
        · subst hci; unfold curT; rw [e]
        · exact cur_up hci rfl
      rw [hc, hc]; exact h.apart a b hab
  | thg t y =>
    rw [e] at hx
    obtain ⟨hv, k, T', hB, hG⟩ := hx
    have hcur : curT Gs L Tf i = t.T := by unfold curT; rw [e]; simp [hi]
    have hTf : ∀ c, c ≠ i → (fun c => if c = i then T' else Tf c) c = Tf c := fun c hc => by simp [hc]
    have hci : curT Gs (upL L i) (fun c => if c = i then T' else Tf c) i = T' := by unfold curT; rw [e]; simp [upL]
    have hcj : ∀ c, c ≠ i → curT Gs (upL L i) (fun c => if c = i then T' else Tf c) c = curT Gs L Tf c := fun c hc => cur_up hc (hTf c hc)
    have hnew : ∀ c, c ≠ i → Apart T' (curT Gs L Tf c) := fun c hc => by
      have := h.apart i c (fun z => hc z.symm)
      rw [hcur] at this
      exact this.grew hG (cur_live h c)
    refine ⟨fun c => if c = i then T' else Tf c, h.kept.trans k (fun b _ hb => (hO.1 i t y e).1 b hb), fun j hj => ?_, fun j => ?_, fun j t' z hj hl => ?_, fun a b hab => ?_, hcl⟩
    · by_cases hji : j = i
      · subst hji; rw [show upV v j x j = x from if_pos rfl, e]; exact hv
      · rw [show upL L i j = L j from if_neg hji] at hj; rw [show upV v i x j = v j from if_neg hji]; exact h.vals j hj
    · by_cases hji : j = i
      · subst hji; unfold isT; rw [e]; simp only [upL]; simpa using hB
      · rw [show isT Gs (upL L i) (fun c => if c = i then T' else Tf c) w' j = isT Gs L Tf w' j from is_up hji (hTf j hji)]
        exact is_kept (h.things j) k (by have := h.apart j i hji; rw [hcur] at this; exact this)
    · by_cases hji : j = i
      · subst hji
        rw [e] at hj; cases hj
        simp only [if_true]
        exact fun b hb => (hG b hb).elim .inl (fun hge => .inr (Nat.le_trans h.kept.size hge))
      · rw [show upL L i j = L j from if_neg hji] at hl
        simp only [if_neg hji]; exact h.grew j t' z hj hl
    · by_cases hai : a = i
      · subst hai
        rw [hci, hcj b (fun z => hab z.symm)]; exact hnew b (fun z => hab z.symm)
      · rw [hcj a hai]
        by_cases hbi : b = i
        · subst hbi; rw [hci]; exact (hnew a hai).symm
        · rw [hcj b hbi]; exact h.apart a b hab
section
variable {P : Program} {N : Nat} {F : Nat → Value} {w : World} {Q : Exit → (Nat → Value) → World → Prop}
def StepFT (S : Nat → Prop) (M : List (Nat × Nat)) (N : Nat) (P : Program) (D : List (Option Tmp)) (Gs : List Pt) (F0 : Nat → Value) (w0 : World) (i : Nat) (o : Oper) : Prop :=
  ∀ (F : Nat → Value) (w : World), Kept S w0 w → (∀ t, Nat.blt t N = true → some t ∉ D → F t = F0 t) → DepsF D (ToldT w0 Gs M) F w o.after.toList → (∀ k t x, (k = i ∨ (k, i) ∈ M) → Gs.getD k Pt.none = .thg t x → t.A w) →
    match o.guard with
    | none => Yields P (ev F) o w (LeftT Gs i w)
    | some (j, want) => ∃ d, D.getD j none = some d ∧
      ((F d = .bool want ∧ Yields P (ev F) o w (LeftT Gs i w)) ∨ ((F d = .bool (!want) ∨ F d = undef) ∧ Gs.getD i Pt.none = .eq undef))
def StepsFT (S : Nat → Prop) (M : List (Nat × Nat)) (N : Nat) (P : Program) (D : List (Option Tmp)) (Gs : List Pt) (F0 : Nat → Value) (w0 : World) : Nat → List Oper → Prop
  | _, [] => True
  | i, o :: r => StepFT S M N P D Gs F0 w0 i o ∧ StepsFT S M N P D Gs F0 w0 (i + 1) r
theorem StepFT.one {S : Nat → Prop} {M : List (Nat × Nat)} {D : List (Option Tmp)} {Gs : List Pt} {F0 : Nat → Value} {w0 : World} {i : Nat} {o : Oper} (hg : o.guard = none)
    (h : ∀ (F : Nat → Value) (w : World), Kept S w0 w → (∀ t, Nat.blt t N = true → some t ∉ D → F t = F0 t) → DepsF D (ToldT w0 Gs M) F w o.after.toList → Yields P (ev F) o w (LeftT Gs i w)) : StepFT S M N P D Gs F0 w0 i o := by
  intro F w h1 h2 h3 _
  rw [hg]; exact h F w h1 h2 h3
theorem StepFT.turn {S : Nat → Prop} {M : List (Nat × Nat)} {D : List (Option Tmp)} {Gs : List Pt} {F0 : Nat → Value} {w0 : World} {i : Nat} {t : Thg} {x : Value} {o : Oper} (hg : o.guard = none) (he : Gs.getD i Pt.none = .thg t x)
    (h : ∀ (F : Nat → Value) (w : World), Kept S w0 w → (∀ t, Nat.blt t N = true → some t ∉ D → F t = F0 t) → DepsF D (ToldT w0 Gs M) F w o.after.toList → t.A w → Yields P (ev F) o w (fun v w' => v = x ∧ Kept t.T w w' ∧ ∃ T', t.B T' w' ∧ Grew w t.T T')) : StepFT S M N P D Gs F0 w0 i o := by
  intro F w h1 h2 h3 h4
  rw [hg]
  refine (h F w h1 h2 h3 (h4 i t x (.inl rfl) he)).mono' fun v w' hx => ?_
  unfold LeftT; rw [he]; exact hx
theorem StepFT.when {S : Nat → Prop} {M : List (Nat × Nat)} {D : List (Option Tmp)} {Gs : List Pt} {F0 : Nat → Value} {w0 : World} {i : Nat} {o : Oper} (j : Nat) (want : Bool) (d : Tmp) (hg : o.guard = some (j, want)) (hd : D.getD j none = some d)
    (h : ∀ (F : Nat → Value) (w : World), Kept S w0 w → (∀ t, Nat.blt t N = true → some t ∉ D → F t = F0 t) → DepsF D (ToldT w0 Gs M) F w o.after.toList → F d = .bool want ∧ Yields P (ev F) o w (LeftT Gs i w)) : StepFT S M N P D Gs F0 w0 i o := by
  intro F w h1 h2 h3 _
  rw [hg]; exact ⟨d, hd, .inl (h F w h1 h2 h3)⟩
theorem StepFT.step {S : Nat → Prop} {M : List (Nat × Nat)} {os : List Oper} {D : List (Option Tmp)} {Gs : List Pt} {w0 : World} {i : Nat} {o : Oper} {a0 : Act} (hO : OldT S w0 Gs) (hmo : mustOk os M = true) (hio : os[i]? = some o) (ha : Fr N F a0) (h : StepFT S M N P D Gs F w0 i o) : StepJ os P D (fun L v w => ∃ Tf, JT S w0 Gs M L v Tf w) a0 i o := by
  rintro L v a w ⟨Tf, hJ⟩ hi hdone hout hhere _
  have hdeps : DepsF D (ToldT w0 Gs M) (fun t => a.tmps.getD t undef) w o.after.toList := by
    refine Deps.toF (Deps.mk fun e he hb d hd => ?_)
    have hl := hdone e he hb
    have hDe : D[e.on]? = some (some d) := by
      unfold List.getD at hd
      cases hq : D[e.on]? with
      | none => rw [hq] at hd; cases hd
      | some y => rw [hq] at hd; simp at hd; rw [hd]
    rw [hhere e.on d hl hDe, hJ.vals e.on hl]
    have key : ∀ c, L c = true → onT w0 Gs c w := fun c hc => by
      have ht := hJ.things c
      unfold onT
      unfold isT at ht
      cases e' : Gs.getD c Pt.none with
      | eq y => trivial
      | thg t y =>
        rw [e'] at ht
        simp only [hc, if_true] at ht
        exact ⟨_, ht, hJ.grew c t y e' hc⟩
    exact ⟨rfl, key _ hl, fun c hc => key c (hJ.clos _ _ hc hl)⟩
  have hM : ∀ k, (i, k) ∈ M → L k = true := fun k hk => by
    have := List.all_eq_true.1 hmo _ hk
    simp only [hio] at this
    obtain ⟨e, he, hb⟩ := List.any_eq_true.1 this
    simp only [Bool.and_eq_true, Bool.or_eq_true, beq_iff_eq] at hb
    have hl := hdone e he hb.1
    rcases hb.2 with h1 | h1
    · rw [← h1]; exact hl
    · exact hJ.clos _ _ (by simpa using h1) hl
  have h1 := h (fun t => a.tmps.getD t undef) w hJ.kept (fun t hb ht => by rw [← ha.at' t hb]; exact hout t ht) hdeps (fun k t x hk e => by
    have hLk : L k = false := by
      rcases hk with rfl | hk
      · exact hi
      · cases hL : L k with
        | false => rfl
        | true => have := hJ.clos k i hk hL; rw [hi] at this; cases this
    have := hJ.things k
    unfold isT at this
    rw [e] at this
    simpa [hLk] using this)
  rw [← eval_ev a] at h1
  unfold goes
  cases hg : o.guard with
  | none => rw [hg] at h1; exact ⟨fun _ => h1.mono' fun x w' hx => hJ.more hO hi hM hx, fun e => by cases e⟩
  | some g =>
    obtain ⟨j, want⟩ := g
    rw [hg] at h1
    obtain ⟨d, hd, h1⟩ := h1
    simp only [hd]
    have hev : a.eval (.tmp d) = a.tmps.getD d undef := rfl
    rcases h1 with ⟨hv, hy⟩ | ⟨hv, hs⟩
    · rw [hev, hv]; exact ⟨fun _ => hy.mono' fun x w' hx => hJ.more hO hi hM hx, fun e => by simp at e⟩
    · refine ⟨fun e => ?_, fun _ => hJ.more hO hi hM (by unfold LeftT; rw [hs]; exact ⟨rfl, Kept.refl _ _⟩)⟩
      rcases hv with hv | hv
      · rw [hev, hv] at e; cases want <;> simp at e
      · rw [hev, hv] at e; simp [undef] at e
theorem StepsFT.steps {S : Nat → Prop} {M : List (Nat × Nat)} {all : List Oper} {D : List (Option Tmp)} {Gs : List Pt} {w0 : World} {a0 : Act} (hO : OldT S w0 Gs) (hmo : mustOk all M = true) (ha : Fr N F a0) : ∀ {os : List Oper} {i : Nat}, (∀ k o, os[k]? = some o → all[i + k]? = some o) → StepsFT S M N P D Gs F w0 i os → StepsJ all P D (fun L v w => ∃ Tf, JT S w0 Gs M L v Tf w) a0 i os := by
  intro os
  induction os with
  | nil => intro i _ _; exact trivial
  | cons o r ih =>
    intro i hat h
    exact ⟨h.1.step hO hmo (hat 0 o rfl) ha, ih (fun k o' hk => by have := hat (k + 1) o' hk; rwa [show i + (k + 1) = i + 1 + k by omega] at this) h.2⟩
end
end Go.Proofs.Ytnccblhdokplkaa
set_option maxRecDepth 100000
namespace Go.Proofs.Ytnccblhdokplkaa
open Go.RowKit

/-- Something that an operation leaves, its value, and where it lies. -/
structure Thm where
  B : Value → (Nat → Prop) → World → Prop
  st : ∀ (v : Value) (w w' : World) (S T : Nat → Prop), B v T w → Kept S w w' → Apart T S → B v T w'
  li : ∀ (v : Value) (w : World) (T : Nat → Prop), B v T w → Live w T
inductive Pm where
  | eq (v : Value)
  | new (t : Thm)
def Pm.none : Pm := .eq undef
def Pm.isNew : Pm → Bool
  | .eq _ => false
  | .new _ => true
/-- Something that was there. -/
structure Eld where
  A : World → Prop
  T : Nat → Prop
  st : ∀ (w w' : World) (S : Nat → Prop), A w → Kept S w w' → Apart T S → A w'
  li : ∀ w, A w → Live w T
/-- What each operation uses up: (true, j) what the operation j left, (false, e) what was there. -/
def usM (Uz : List (Option (Bool × Nat))) (i : Nat) : Option (Bool × Nat) := Uz.getD i none
def usedM (Uz : List (Option (Bool × Nat))) (L : Nat → Bool) (q : Bool × Nat) : Prop := ∃ i, usM Uz i = some q ∧ L i = true
structure JM (S : Nat → Prop) (w0 : World) (Gs : List Pm) (Uz : List (Option (Bool × Nat))) (Es : List Eld) (Bs : List (Nat → Prop)) (M : List (Nat × Nat)) (L : Nat → Bool) (v : Nat → Value) (Tf : Nat → Nat → Prop) (w : World) : Prop where
  kept : Kept S w0 w
  vals : ∀ i x, L i = true → Gs.getD i Pm.none = .eq x → v i = x
  things : ∀ i t, L i = true → Gs.getD i Pm.none = .new t → ¬ usedM Uz L (true, i) → t.B (v i) (Tf i) w
  olds : ∀ (e : Nat) (E : Eld), Es[e]? = some E → ¬ usedM Uz L (false, e) → E.A w
  grew : ∀ i t, L i = true → Gs.getD i Pm.none = .new t → Grew w0 (Bs.getD i noB) (Tf i)
  tt : ∀ i j t t', i ≠ j → L i = true → L j = true → Gs.getD i Pm.none = .new t → Gs.getD j Pm.none = .new t' → ¬ usedM Uz L (true, i) → ¬ usedM Uz L (true, j) → Apart (Tf i) (Tf j)
  te : ∀ (i e : Nat) (t : Thm) (E : Eld), L i = true → Gs.getD i Pm.none = .new t → ¬ usedM Uz L (true, i) → Es[e]? = some E → ¬ usedM Uz L (false, e) → Apart (Tf i) E.T
  clos : ∀ j i, (j, i) ∈ M → L j = true → L i = true
/-- What is asked of the lists. -/
def uniqB (Uz : List (Option (Bool × Nat))) : Bool := (List.range Uz.length).all fun i => (List.range Uz.length).all fun j => match usM Uz i with
  | some q => i == j || !(usM Uz j == some q)
  | none => true
def wfU (os : List Oper) (Gs : List Pm) (nE : Nat) (Uz : List (Option (Bool × Nat))) : Bool := uniqB Uz && (List.range Uz.length).all fun i => match usM Uz i with
  | none => true
  | some (true, j) => (Gs.getD j Pm.none).isNew && (match os[i]? with | some o => o.after.toList.any (fun e => Region.binds .any e && e.on == j) | none => false)
  | some (false, e) => Nat.blt e nE
def BsL (Es : List Eld) (Bs : List (Nat → Prop)) : List (Option (Bool × Nat)) → List (Nat → Prop) → Prop
  | [], _ => True
  | none :: r, b :: bs => b = noB ∧ BsL Es Bs r bs
  | some (true, j) :: r, b :: bs => b = Bs.getD j noB ∧ BsL Es Bs r bs
  | some (false, e) :: r, b :: bs => (∀ E, Es[e]? = some E → b = E.T) ∧ BsL Es Bs r bs
  | _ :: _, [] => False
def SubL (S : Nat → Prop) : List (Nat → Prop) → Prop
  | [] => True
  | b :: r => (∀ x, b x → S x) ∧ SubL S r
def EldsM (S : Nat → Prop) (w0 : World) : List Eld → Prop
  | [] => True
  | E :: r => ((∀ b, E.T b → S b) ∧ E.A w0 ∧ (∀ (k : Nat) (E' : Eld), r[k]? = some E' → Apart E.T E'.T)) ∧ EldsM S w0 r
theorem us_lt {Uz : List (Option (Bool × Nat))} {i : Nat} {q : Bool × Nat} (h : usM Uz i = some q) : i < Uz.length := by
  unfold usM at h
  rcases Nat.lt_or_ge i Uz.length with h' | h'
  · exact h'
  · simp [List.getD, List.getElem?_eq_none h'] at h
theorem uniq_at {Uz : List (Option (Bool × Nat))} (h : uniqB Uz = true) {i j : Nat} {q : Bool × Nat} (hi : usM Uz i = some q) (hj : usM Uz j = some q) : i = j := by
  have := List.all_eq_true.1 (List.all_eq_true.1 h i (List.mem_range.2 (us_lt hi))) j (List.mem_range.2 (us_lt hj))
  rw [hi, hj] at this
  simpa using this
theorem bs_at {Es : List Eld} {Bs : List (Nat → Prop)} : ∀ {Uz : List (Option (Bool × Nat))} {bs : List (Nat → Prop)}, BsL Es Bs Uz bs → ∀ i, i < Uz.length → match usM Uz i with
    | none => bs.getD i noB = noB
    | some (true, j) => bs.getD i noB = Bs.getD j noB
    | some (false, e) => ∀ E, Es[e]? = some E → bs.getD i noB = E.T := by
  intro Uz
  induction Uz with
  | nil => intro bs _ i hi; exact absurd hi (Nat.not_lt_zero _)
  | cons u r ih =>
    intro bs h i hi
    cases bs with
    | nil => exact (by cases u with | none => exact h.elim | some q => obtain ⟨b, j⟩ := q; cases b <;> exact h.elim)
    | cons b bs =>
      cases i with
      | zero =>
        cases u with
        | none => exact h.1
        | some q => obtain ⟨x, j⟩ := q; cases x <;> exact h.1
      | succ i =>
        have hr : BsL Es Bs r bs := by
          cases u with
          | none => exact h.2
          | some q => obtain ⟨x, j⟩ := q; cases x <;> exact h.2
        exact ih hr i (Nat.lt_of_succ_lt_succ hi)
theorem sub_at {S : Nat → Prop} : ∀ {Bs : List (Nat → Prop)}, SubL S Bs → ∀ i x, Bs.getD i noB x → S x := by
  intro Bs
  induction Bs with
  | nil => intro _ i x h; exact absurd h (by simp [List.getD, noB])
  | cons b r ih =>
    intro h i x hx
    cases i with
    | zero => exact h.1 x hx
    | succ i => exact ih h.2 i x hx
theorem EldsM.at {S : Nat → Prop} {w0 : World} : ∀ {Es : List Eld}, EldsM S w0 Es → ∀ (e : Nat) (E : Eld), Es[e]? = some E → (∀ b, E.T b → S b) ∧ E.A w0 := by
  intro Es
  induction Es with
  | nil => intro _ e E h; simp at h
  | cons x r ih =>
    intro h e E he
    cases e with
    | zero => simp at he; subst he; exact ⟨h.1.1, h.1.2.1⟩
    | succ e => exact ih h.2 e E (by simpa using he)
theorem EldsM.far {S : Nat → Prop} {w0 : World} : ∀ {Es : List Eld}, EldsM S w0 Es → ∀ (e e' : Nat) (E E' : Eld), e ≠ e' → Es[e]? = some E → Es[e']? = some E' → Apart E.T E'.T := by
  intro Es
  induction Es with
  | nil => intro _ e e' E E' _ h; simp at h
  | cons x r ih =>
    intro h e e' E E' hne he he'
    cases e with
    | zero =>
      cases e' with
      | zero => exact absurd rfl hne
      | succ k => simp at he; subst he; exact h.1.2.2 k E' (by simpa using he')
    | succ k =>
      cases e' with
      | zero => simp at he'; subst he'; exact (h.1.2.2 k E (by simpa using he)).symm
      | succ k' => exact ih h.2 k k' E E' (fun z => hne (by rw [z])) (by simpa using he) (by simpa using he')
def LeftM (Gs : List Pm) (i : Nat) (Tu : Nat → Prop) (w : World) (v : Value) (w' : World) : Prop := match Gs.getD i Pm.none with
  | .eq x => v = x ∧ Kept Tu w w'
  | .new t => Kept Tu w w' ∧ ∃ T', t.B v T' w' ∧ Grew w Tu T'
/-- Where that lies which is used up. -/
def useT (Uz : List (Option (Bool × Nat))) (Es : List Eld) (Tf : Nat → Nat → Prop) (i : Nat) (Tu : Nat → Prop) : Prop := match usM Uz i with
  | none => Tu = noB
  | some (true, j) => Tu = Tf j
  | some (false, e) => ∀ E, Es[e]? = some E → Tu = E.T
theorem wfU_at {os : List Oper} {Gs : List Pm} {nE : Nat} {Uz : List (Option (Bool × Nat))} (h : wfU os Gs nE Uz = true) {i : Nat} {q : Bool × Nat} (hi : usM Uz i = some q) : match q with
    | (true, j) => (∃ t, Gs.getD j Pm.none = .new t) ∧ ∃ o, os[i]? = some o ∧ ∃ e ∈ o.after.toList, Region.binds .any e = true ∧ e.on = j
    | (false, e) => e < nE := by
  unfold wfU at h
  simp only [Bool.and_eq_true] at h
  have := List.all_eq_true.1 h.2 i (List.mem_range.2 (us_lt hi))
  rw [hi] at this
  obtain ⟨b, j⟩ := q
  cases b with
  | false => simpa [Nat.blt_eq] using this
  | true =>
    simp only [Bool.and_eq_true] at this
    refine ⟨?_, ?_⟩
    · cases hg : Gs.getD j Pm.none with
      | eq x => rw [hg] at this; simp [Pm.isNew] at this
      | new t => exact ⟨t, rfl⟩
    · cases ho : os[i]? with
      | none => rw [ho] at this; simp at this
      | some o =>
        rw [ho] at this
        obtain ⟨e, he, hb⟩ := List.any_eq_true.1 this.2
        simp only [Bool.and_eq_true, beq_iff_eq] at hb
        exact ⟨o, rfl, e, he, hb.1, hb.2⟩
theorem used_up {Uz : List (Option (Bool × Nat))} {L : Nat → Bool} {i : Nat} {q : Bool × Nat} (h : ¬ usedM Uz (upL L i) q) : ¬ usedM Uz L q := fun ⟨k, hk, hl⟩ => h ⟨k, hk, by unfold upL; split <;> first | rfl | exact hl⟩
theorem up_cases {L : Nat → Bool} {i j : Nat} (h : upL L i j = true) : j = i ∨ (j ≠ i ∧ L j = true) := by
  by_cases e : j = i
  · exact .inl e
  · exact .inr ⟨e, by rwa [show upL L i j = L j from if_neg e] at h⟩
def setT (Tf : Nat → Nat → Prop) (i : Nat) (T' : Nat → Prop) : Nat → Nat → Prop := fun c => if c = i then T' else Tf c
/-- One more operation. -/
theorem JM.more {S : Nat → Prop} {w0 w w' : World} {os : List Oper} {Gs : List Pm} {Uz : List (Option (Bool × Nat))} {Es : List Eld} {Bs : List (Nat → Prop)} {M : List (Nat × Nat)} {L : Nat → Bool} {v : Nat → Value} {Tf : Nat → Nat → Prop} {i : Nat} {x : Value} {Tu : Nat → Prop}
    (hwf : wfU os Gs Es.length Uz = true) (hlen : Uz.length = os.length) (hio : i < os.length) (hBs : BsL Es Bs Uz Bs) (hSub : SubL S Bs) (hE : EldsM S w0 Es) (h : JM S w0 Gs Uz Es Bs M L v Tf w) (hi : L i = false) (hM : ∀ k, (i, k) ∈ M → L k = true) (hU : ∀ j, usM Uz i = some (true, j) → L j = true) (hT : useT Uz Es Tf i Tu) (hx : LeftM Gs i Tu w x w') : ∃ Tf', JM S w0 Gs Uz Es Bs M (upL L i) (upV v i x) Tf' w' := by
  have huq : uniqB Uz = true := by unfold wfU at hwf; simp only [Bool.and_eq_true] at hwf; exact hwf.1
  have hcl : ∀ j k, (j, k) ∈ M → upL L i j = true → upL L i k = true := fun j k hm hj => by
    have hk : L k = true := by
      rcases up_cases hj with rfl | ⟨_, hj⟩
      · exact hM k hm
      · exact h.clos j k hm hj
    unfold upL; split <;> first | rfl | exact hk
  have free : ∀ q, usM Uz i = some q → ¬ usedM Uz L q := fun q hq ⟨k, hk, hl⟩ => by
    rw [uniq_at huq hk hq, hi] at hl; cases hl
  have hgu : Grew w0 (Bs.getD i noB) Tu := by
    have hb := bs_at hBs i (by omega)
    unfold useT at hT
    cases hu : usM Uz i with
    | none => rw [hu] at hT; simp only at hT; subst hT; exact fun _ z => z.elim
    | some q =>
      have hq := wfU_at hwf hu
      obtain ⟨b, j⟩ := q
      cases b with
      | true =>
        rw [hu] at hT hb
        simp only at hT hb hq
        obtain ⟨⟨t, ht⟩, _⟩ := hq
        subst hT; rw [hb]; exact h.grew j t (hU j hu) ht
      | false =>
        rw [hu] at hT hb
        simp only at hT hb hq
        obtain ⟨E, hE'⟩ : ∃ E, Es[j]? = some E := ⟨Es[j], List.getElem?_eq_getElem hq⟩
        rw [hT E hE', hb E hE']; exact Grew.refl _ _
  have hkS : Kept Tu w w' → Kept S w0 w' := fun hk => h.kept.trans hk (fun b hb hTb => (hgu b hTb).elim (fun z => sub_at hSub i b z) (fun z => absurd hb (Nat.not_lt.2 z)))
  have farT : ∀ j t, L j = true → Gs.getD j Pm.none = .new t → ¬ usedM Uz (upL L i) (true, j) → Apart (Tf j) Tu := fun j t hj ht hn => by
    unfold useT at hT
    cases hu : usM Uz i with
    | none => rw [hu] at hT; simp only at hT; subst hT; exact fun _ _ z => z
    | some q =>
      have hq := wfU_at hwf hu
      obtain ⟨b, k⟩ := q
      cases b with
      | true =>
        rw [hu] at hT
        simp only at hT hq
        obtain ⟨⟨t', ht'⟩, _⟩ := hq
        subst hT
        exact h.tt j k t t' (fun e => hn ⟨i, by rw [hu, e], by unfold upL; simp⟩) hj (hU k hu) ht ht' (used_up hn) (free _ hu)
      | false =>
        rw [hu] at hT
        simp only at hT hq
        obtain ⟨E, hE'⟩ : ∃ E, Es[k]? = some E := ⟨Es[k], List.getElem?_eq_getElem hq⟩
        rw [hT E hE']; exact h.te j k t E hj ht (used_up hn) hE' (free _ hu)
  have farE : ∀ (e : Nat) (E : Eld), Es[e]? = some E → ¬ usedM Uz (upL L i) (false, e) → Apart E.T Tu := fun e E he hn => by
    unfold useT at hT
    cases hu : usM Uz i with
    | none => rw [hu] at hT; simp only at hT; subst hT; exact fun _ _ z => z
    | some q =>
      have hq := wfU_at hwf hu
      obtain ⟨b, k⟩ := q
      cases b with
      | true =>
        rw [hu] at hT
        simp only at hT hq
        obtain ⟨⟨t', ht'⟩, _⟩ := hq
        subst hT
        exact (h.te k e t' E (hU k hu) ht' (free _ hu) he (used_up hn)).symm
      | false =>
        rw [hu] at hT
        simp only at hT hq
        obtain ⟨E', hE'⟩ : ∃ E, Es[k]? = some E := ⟨Es[k], List.getElem?_eq_getElem hq⟩
        rw [hT E' hE']; exact hE.far e k E E' (fun z => hn ⟨i, by rw [hu, z], by unfold upL; simp⟩) he hE'
  unfold LeftM at hx
  cases eg : Gs.getD i Pm.none with
  | eq y =>
    rw [eg] at hx
    obtain ⟨hv, kU⟩ := hx
    refine ⟨Tf, hkS kU, fun j z hj hz => ?_, fun j t hj ht hn => ?_, fun e E he hn => (E.st w w' Tu (h.olds e E he (used_up hn)) kU (farE e E he hn)), fun j t hj ht => ?_, fun a b t t' hab ha hb hta htb hna hnb => ?_, fun a e t E ha hta hna he hne => ?_, hcl⟩
    · rcases up_cases hj with rfl | ⟨hji, hj⟩
      · rw [show upV v j x j = x from if_pos rfl, hv]; rw [eg] at hz; cases hz; rfl
      · rw [show upV v i x j = v j from if_neg hji]; exact h.vals j z hj hz
    · rcases up_cases hj with rfl | ⟨hji, hj⟩
      · rw [eg] at ht; cases ht
      · rw [show upV v i x j = v j from if_neg hji]; exact t.st _ w w' Tu _ (h.things j t hj ht (used_up hn)) kU (farT j t hj ht hn)
    · rcases up_cases hj with rfl | ⟨_, hj⟩
      · rw [eg] at ht; cases ht
      · exact h.grew j t hj ht
    · rcases up_cases ha with rfl | ⟨_, ha⟩
      · rw [eg] at hta; cases hta
      · rcases up_cases hb with rfl | ⟨_, hb⟩
        · rw [eg] at htb; cases htb
        · exact h.tt a b t t' hab ha hb hta htb (used_up hna) (used_up hnb)
    · rcases up_cases ha with rfl | ⟨_, ha⟩
      · rw [eg] at hta; cases hta
      · exact h.te a e t E ha hta (used_up hna) he (used_up hne)
  | new y =>
    rw [eg] at hx
    obtain ⟨kU, T', hB, hG⟩ := hx
    have fi : setT Tf i T' i = T' := if_pos rfl
    have fj : ∀ c, c ≠ i → setT Tf i T' c = Tf c := fun c hc => if_neg hc
    have nT : ∀ j t, L j = true → Gs.getD j Pm.none = .new t → ¬ usedM Uz (upL L i) (true, j) → Apart T' (Tf j) := fun j t hj ht hn => ((farT j t hj ht hn).symm).grew hG (t.li _ w _ (h.things j t hj ht (used_up hn)))
    refine ⟨setT Tf i T', hkS kU, fun j z hj hz => ?_, fun j t hj ht hn => ?_, fun e E he hn => (E.st w w' Tu (h.olds e E he (used_up hn)) kU (farE e E he hn)), fun j t hj ht => ?_, fun a b t t' hab ha hb hta htb hna hnb => ?_, fun a e t E ha hta hna he hne => ?_, hcl⟩
    · rcases up_cases hj with rfl | ⟨hji, hj⟩
      · rw [eg] at hz; cases hz
      · rw [show upV v i x j = v j from if_neg hji]; exact h.vals j z hj hz
    · rcases up_cases hj with rfl | ⟨hji, hj⟩
      · rw [eg] at ht; cases ht
        rw [show upV v j x j = x from if_pos rfl, fi]; exact hB
      · rw [show upV v i x j = v j from if_neg hji, fj j hji]; exact t.st _ w w' Tu _ (h.things j t hj ht (used_up hn)) kU (farT j t hj ht hn)
    · rcases up_cases hj with rfl | ⟨hji, hj⟩
      · rw [fi]
        exact fun b hb => (hG b hb).elim (fun z => hgu b z) (fun z => .inr (Nat.le_trans h.kept.size z))
      · rw [fj j hji]; exact h.grew j t hj ht
    · rcases up_cases ha with rfl | ⟨hai, ha2⟩
      · rcases up_cases hb with rfl | ⟨hbi, hb2⟩
        · exact absurd rfl hab
        · rw [fi, fj b hbi]; exact nT b t' hb2 htb hnb
      · rcases up_cases hb with rfl | ⟨hbi, hb2⟩
        · rw [fi, fj a hai]; exact (nT a t ha2 hta hna).symm
        · rw [fj a hai, fj b hbi]; exact h.tt a b t t' hab ha2 hb2 hta htb (used_up hna) (used_up hnb)
    · rcases up_cases ha with rfl | ⟨hai, ha⟩
      · rw [fi]; exact ((farE e E he hne).symm).grew hG (E.li w (h.olds e E he (used_up hne)))
      · rw [fj a hai]; exact h.te a e t E ha hta (used_up hna) he (used_up hne)
/-- Whether nothing has used it up, where operation i runs. -/
def freeB (Uz : List (Option (Bool × Nat))) (M : List (Nat × Nat)) (i : Nat) (q : Bool × Nat) : Bool := (List.range Uz.length).all fun k => !(usM Uz k == some q) || k == i || M.contains (k, i)
def thingM (w0 : World) (Gs : List Pm) (Uz : List (Option (Bool × Nat))) (Bs : List (Nat → Prop)) (M : List (Nat × Nat)) (i j : Nat) (x : Value) (w : World) : Prop := match Gs.getD j Pm.none with
  | .eq _ => True
  | .new t => freeB Uz M i (true, j) = true → ∃ T, t.B x T w ∧ Grew w0 (Bs.getD j noB) T
def valM (Gs : List Pm) (j : Nat) (x : Value) : Prop := match Gs.getD j Pm.none with
  | .eq y => x = y
  | .new _ => True
def ToldM (w0 : World) (Gs : List Pm) (Uz : List (Option (Bool × Nat))) (Bs : List (Nat → Prop)) (M : List (Nat × Nat)) (i : Nat) : Nat → Value → World → Prop := fun j x w => valM Gs j x ∧ thingM w0 Gs Uz Bs M i j x w ∧ ∀ k, (j, k) ∈ M → ∃ y, thingM w0 Gs Uz Bs M i k y w
def AheadM (Uz : List (Option (Bool × Nat))) (Es : List Eld) (M : List (Nat × Nat)) (i : Nat) (w : World) : Prop := ∀ (e : Nat) (E : Eld), Es[e]? = some E → freeB Uz M i (false, e) = true → E.A w
def UseM (w0 : World) (D : List (Option Tmp)) (Gs : List Pm) (Uz : List (Option (Bool × Nat))) (Es : List Eld) (Bs : List (Nat → Prop)) (F : Nat → Value) (w : World) (i : Nat) (Tu : Nat → Prop) : Prop := match usM Uz i with
  | none => Tu = noB
  | some (true, j) => ∀ t, Gs.getD j Pm.none = .new t → ∃ x, t.B x Tu w ∧ Grew w0 (Bs.getD j noB) Tu ∧ ∀ d, D.getD j none = some d → F d = x
  | some (false, e) => ∀ E, Es[e]? = some E → Tu = E.T ∧ E.A w
section
variable {P : Program} {N : Nat} {F : Nat → Value} {w : World} {Q : Exit → (Nat → Value) → World → Prop} {S : Nat → Prop} {M : List (Nat × Nat)} {D : List (Option Tmp)} {Gs : List Pm} {Uz : List (Option (Bool × Nat))} {Es : List Eld} {Bs : List (Nat → Prop)}
def StepFM (S : Nat → Prop) (M : List (Nat × Nat)) (N : Nat) (P : Program) (D : List (Option Tmp)) (Gs : List Pm) (Uz : List (Option (Bool × Nat))) (Es : List Eld) (Bs : List (Nat → Prop)) (F0 : Nat → Value) (w0 : World) (i : Nat) (o : Oper) : Prop :=
  ∀ (F : Nat → Value) (w : World) (Tu : Nat → Prop), Kept S w0 w → (∀ t, Nat.blt t N = true → some t ∉ D → F t = F0 t) → DepsF D (ToldM w0 Gs Uz Bs M i) F w o.after.toList → AheadM Uz Es M i w → UseM w0 D Gs Uz Es Bs F w i Tu →
    match o.guard with
    | none => Yields P (ev F) o w (LeftM Gs i Tu w)
    | some (j, want) => ∃ d, D.getD j none = some d ∧
      ((F d = .bool want ∧ Yields P (ev F) o w (LeftM Gs i Tu w)) ∨ ((F d = .bool (!want) ∨ F d = undef) ∧ Gs.getD i Pm.none = .eq undef))
def StepsFM (S : Nat → Prop) (M : List (Nat × Nat)) (N : Nat) (P : Program) (D : List (Option Tmp)) (Gs : List Pm) (Uz : List (Option (Bool × Nat))) (Es : List Eld) (Bs : List (Nat → Prop)) (F0 : Nat → Value) (w0 : World) : Nat → List Oper → Prop
  | _, [] => True
  | i, o :: r => StepFM S M N P D Gs Uz Es Bs F0 w0 i o ∧ StepsFM S M N P D Gs Uz Es Bs F0 w0 (i + 1) r
theorem stepsFM_nil {F0 : Nat → Value} {w0 : World} {i : Nat} : StepsFM S M N P D Gs Uz Es Bs F0 w0 i [] := trivial
theorem stepsFM_cons {F0 : Nat → Value} {w0 : World} {i : Nat} {o : Oper} {r : List Oper} (h : StepFM S M N P D Gs Uz Es Bs F0 w0 i o) (k : StepsFM S M N P D Gs Uz Es Bs F0 w0 (i + 1) r) : StepsFM S M N P D Gs Uz Es Bs F0 w0 i (o :: r) := ⟨h, k⟩
theorem StepFM.one {F0 : Nat → Value} {w0 : World} {i : Nat} {o : Oper} (hg : o.guard = none) (hu : usM Uz i = none)
    (h : ∀ (F : Nat → Value) (w : World), Kept S w0 w → (∀ t, Nat.blt t N = true → some t ∉ D → F t = F0 t) → DepsF D (ToldM w0 Gs Uz Bs M i) F w o.after.toList → AheadM Uz Es M i w → Yields P (ev F) o w (LeftM Gs i noB w)) : StepFM S M N P D Gs Uz Es Bs F0 w0 i o := by
  intro F w Tu h1 h2 h3 h4 h5
  unfold UseM at h5
  rw [hu] at h5; simp only at h5; subst h5
  rw [hg]; exact h F w h1 h2 h3 h4
/-- What an operation left is used up. -/
theorem StepFM.uses {F0 : Nat → Value} {w0 : World} {i : Nat} {o : Oper} (j : Nat) (d : Tmp) {t : Thm} (hg : o.guard = none) (hu : usM Uz i = some (true, j)) (ht : Gs.getD j Pm.none = .new t) (hd : D.getD j none = some d)
    (h : ∀ (F : Nat → Value) (w : World) (Tu : Nat → Prop), Kept S w0 w → (∀ t, Nat.blt t N = true → some t ∉ D → F t = F0 t) → DepsF D (ToldM w0 Gs Uz Bs M i) F w o.after.toList → AheadM Uz Es M i w → t.B (F d) Tu w → Grew w0 (Bs.getD j noB) Tu → Yields P (ev F) o w (LeftM Gs i Tu w)) : StepFM S M N P D Gs Uz Es Bs F0 w0 i o := by
  intro F w Tu h1 h2 h3 h4 h5
  unfold UseM at h5
  rw [hu] at h5; simp only at h5
  obtain ⟨x, hB, hG, hx⟩ := h5 t ht
  rw [hg]; exact h F w Tu h1 h2 h3 h4 (by rw [hx d hd]; exact hB) hG
/-- What was there is turned. -/
theorem StepFM.turns {F0 : Nat → Value} {w0 : World} {i : Nat} {o : Oper} (e : Nat) {E : Eld} (hg : o.guard = none) (hu : usM Uz i = some (false, e)) (he : Es[e]? = some E)
    (h : ∀ (F : Nat → Value) (w : World), Kept S w0 w → (∀ t, Nat.blt t N = true → some t ∉ D → F t = F0 t) → DepsF D (ToldM w0 Gs Uz Bs M i) F w o.after.toList → AheadM Uz Es M i w → E.A w → Yields P (ev F) o w (LeftM Gs i E.T w)) : StepFM S M N P D Gs Uz Es Bs F0 w0 i o := by
  intro F w Tu h1 h2 h3 h4 h5
  unfold UseM at h5
  rw [hu] at h5; simp only at h5
  obtain ⟨hT, hA⟩ := h5 E he
  subst hT
  rw [hg]; exact h F w h1 h2 h3 h4 hA
theorem StepFM.when {F0 : Nat → Value} {w0 : World} {i : Nat} {o : Oper} (j : Nat) (want : Bool) (d : Tmp) (hg : o.guard = some (j, want)) (hd : D.getD j none = some d) (hu : usM Uz i = none)
    (h : ∀ (F : Nat → Value) (w : World), Kept S w0 w → (∀ t, Nat.blt t N = true → some t ∉ D → F t = F0 t) → DepsF D (ToldM w0 Gs Uz Bs M i) F w o.after.toList → AheadM Uz Es M i w → F d = .bool want ∧ Yields P (ev F) o w (LeftM Gs i noB w)) : StepFM S M N P D Gs Uz Es Bs F0 w0 i o := by
  intro F w Tu h1 h2 h3 h4 h5
  unfold UseM at h5
  rw [hu] at h5; simp only at h5; subst h5
  rw [hg]; exact ⟨d, hd, .inl (h F w h1 h2 h3 h4)⟩
theorem free_not {L : Nat → Bool} {i : Nat} {q : Bool × Nat} (hi : L i = false) (hc : ∀ j k, (j, k) ∈ M → L j = true → L k = true) (h : freeB Uz M i q = true) : ¬ usedM Uz L q := fun ⟨k, hk, hl⟩ => by
  have := List.all_eq_true.1 h k (List.mem_range.2 (us_lt hk))
  simp only [hk, beq_self_eq_true, Bool.not_true, Bool.false_or, Bool.or_eq_true, beq_iff_eq] at this
  rcases this with e | e
  · rw [e, hi] at hl; cases hl
  · have := hc k i (by simpa using e) hl; rw [hi] at this; cases this
theorem StepFM.step {os : List Oper} {w0 : World} {i : Nat} {o : Oper} {a0 : Act} (hwf : wfU os Gs Es.length Uz = true) (hlen : Uz.length = os.length) (hBs : BsL Es Bs Uz Bs) (hSub : SubL S Bs) (hE : EldsM S w0 Es) (hmo : mustOk os M = true) (hio : os[i]? = some o) (ha : Fr N F a0) (h : StepFM S M N P D Gs Uz Es Bs F w0 i o) : StepJ os P D (fun L v w => ∃ Tf, JM S w0 Gs Uz Es Bs M L v Tf w) a0 i o := by
  rintro L v a w ⟨Tf, hJ⟩ hi hdone hout hhere _
  have hi' : i < os.length := by
    rcases Nat.lt_or_ge i os.length with h' | h'
    · exact h'
    · rw [List.getElem?_eq_none h'] at hio; cases hio
  have key : ∀ c, L c = true → ∀ x, (∀ d, D[c]? = some (some d) → x = v c) → (x = v c) → thingM w0 Gs Uz Bs M i c x w := fun c hc x _ hx => by
    unfold thingM
    cases e' : Gs.getD c Pm.none with
    | eq y => trivial
    | new t =>
      intro hf
      rw [hx]
      exact ⟨Tf c, hJ.things c t hc e' (free_not hi hJ.clos hf), hJ.grew c t hc e'⟩
  have hDe : ∀ c d, D.getD c none = some d → D[c]? = some (some d) := fun c d hd => by
    unfold List.getD at hd
    cases hq : D[c]? with
    | none => rw [hq] at hd; cases hd
    | some y => rw [hq] at hd; simp at hd; rw [hd]
  have hdeps : DepsF D (ToldM w0 Gs Uz Bs M i) (fun t => a.tmps.getD t undef) w o.after.toList := by
    refine Deps.toF (Deps.mk fun e he hb d hd => ?_)
    have hl := hdone e he hb
    rw [hhere e.on d hl (hDe e.on d hd)]
    refine ⟨?_, key e.on hl _ (fun _ _ => rfl) rfl, fun c hc => ⟨v c, key c (hJ.clos _ _ hc hl) _ (fun _ _ => rfl) rfl⟩⟩
    unfold valM
    cases e' : Gs.getD e.on Pm.none with
    | eq y => exact hJ.vals e.on y hl e'
    | new t => trivial
  have hM : ∀ k, (i, k) ∈ M → L k = true := fun k hk => by
    have := List.all_eq_true.1 hmo _ hk
    simp only [hio] at this
    obtain ⟨e, he, hb⟩ := List.any_eq_true.1 this
    simp only [Bool.and_eq_true, Bool.or_eq_true, beq_iff_eq] at hb
    have hl := hdone e he hb.1
    rcases hb.2 with h1 | h1
    · rw [← h1]; exact hl
    · exact hJ.clos _ _ (by simpa using h1) hl
  have hU : ∀ j, usM Uz i = some (true, j) → L j = true := fun j hj => by
    obtain ⟨_, o', ho', e, he, hb, hej⟩ := wfU_at hwf hj
    rw [hio] at ho'; cases ho'
    rw [← hej]; exact hdone e he hb
  have huq : uniqB Uz = true := by unfold wfU at hwf; simp only [Bool.and_eq_true] at hwf; exact hwf.1
  have free : ∀ q, usM Uz i = some q → ¬ usedM Uz L q := fun q hq ⟨k, hk, hl⟩ => by
    rw [uniq_at huq hk hq, hi] at hl; cases hl
  obtain ⟨Tu, hTu⟩ : ∃ Tu, useT Uz Es Tf i Tu := by
    unfold useT
    cases usM Uz i with
    | none => exact ⟨noB, rfl⟩
    | some q =>
      obtain ⟨b, j⟩ := q
      cases b with
      | true => exact ⟨Tf j, rfl⟩
      | false =>
        cases he : Es[j]? with
        | none => exact ⟨noB, fun E hE => by rw [he] at hE; cases hE⟩
        | some E => exact ⟨E.T, fun E' hE' => by rw [he] at hE'; cases hE'; rfl⟩
  have huse : UseM w0 D Gs Uz Es Bs (fun t => a.tmps.getD t undef) w i Tu := by
    have hTu' := hTu
    unfold useT at hTu'
    unfold UseM
    cases hu : usM Uz i with
    | none => rw [hu] at hTu'; exact hTu'
    | some q =>
      obtain ⟨b, j⟩ := q
      rw [hu] at hTu'
      cases b with
      | true =>
        simp only at hTu' ⊢
        subst hTu'
        exact fun t ht => ⟨v j, hJ.things j t (hU j hu) ht (free _ hu), hJ.grew j t (hU j hu) ht, fun d hd => hhere j d (hU j hu) (hDe j d hd)⟩
      | false => exact fun E hE' => ⟨hTu' E hE', hJ.olds j E hE' (free _ hu)⟩
  have h1 := h (fun t => a.tmps.getD t undef) w Tu hJ.kept (fun t hb ht => by rw [← ha.at' t hb]; exact hout t ht) hdeps (fun e E he hf => hJ.olds e E he (free_not hi hJ.clos hf)) huse
  have more : ∀ (x : Value) (w' : World), LeftM Gs i Tu w x w' → ∃ Tf', JM S w0 Gs Uz Es Bs M (upL L i) (upV v i x) Tf' w' := fun x w' hx => JM.more hwf hlen hi' hBs hSub hE hJ hi hM hU hTu hx
  rw [← eval_ev a] at h1
  unfold goes
  cases hg : o.guard with
  | none => rw [hg] at h1; exact ⟨fun _ => h1.mono' fun x w' hx => more x w' hx, fun e => by cases e⟩
  | some g =>
    obtain ⟨j, want⟩ := g
    rw [hg] at h1
    obtain ⟨d, hd, h1⟩ := h1
    simp only [hd]
    have hev : a.eval (.tmp d) = a.tmps.getD d undef := rfl
    rcases h1 with ⟨hv, hy⟩ | ⟨hv, hs⟩
    · rw [hev, hv]; exact ⟨fun _ => hy.mono' fun x w' hx => more x w' hx, fun e => by simp at e⟩
    · refine ⟨fun e => ?_, fun _ => more undef w (by unfold LeftM; rw [hs]; exact ⟨rfl, Kept.refl _ _⟩)⟩
      rcases hv with hv | hv
      · rw [hev, hv] at e; cases want <;> simp at e
      · rw [hev, hv] at e; simp [undef] at e
theorem StepsFM.steps {all : List Oper} {w0 : World} {a0 : Act} (hwf : wfU all Gs Es.length Uz = true) (hlen : Uz.length = all.length) (hBs : BsL Es Bs Uz Bs) (hSub : SubL S Bs) (hE : EldsM S w0 Es) (hmo : mustOk all M = true) (ha : Fr N F a0) : ∀ {os : List Oper} {i : Nat}, (∀ k o, os[k]? = some o → all[i + k]? = some o) → StepsFM S M N P D Gs Uz Es Bs F w0 i os → StepsJ all P D (fun L v w => ∃ Tf, JM S w0 Gs Uz Es Bs M L v Tf w) a0 i os := by
  intro os
  induction os with
  | nil => intro i _ _; exact trivial
  | cons o r ih =>
    intro i hat h
    exact ⟨h.1.step hwf hlen hBs hSub hE hmo (hat 0 o rfl) ha, ih (fun k o' hk => by have := hat (k + 1) o' hk; rwa [show i + (k + 1) = i + 1 + k by omega] at this) h.2⟩
def leftB (Uz : List (Option (Bool × Nat))) (i : Nat) : Bool := (List.range Uz.length).all fun k => !(usM Uz k == some (true, i))
theorem left_not {L : Nat → Bool} {i : Nat} (h : leftB Uz i = true) : ¬ usedM Uz L (true, i) := fun ⟨k, hk, _⟩ => by
  have := List.all_eq_true.1 h k (List.mem_range.2 (us_lt hk))
  simp [hk] at this
theorem wq_made {id : Nat} {ops : Array Oper} (M : List (Nat × Nat)) (D : List (Option Tmp)) (Gs : List Pm) (Uz : List (Option (Bool × Nat))) (Es : List Eld) (Bs : List (Nat → Prop)) (hm : P.follows .mixedOrders = true) (hpl : plain N 0 D ops.toList = true) (hmo : mustOk ops.toList M = true) (hsz : Gs.length = ops.size) (hlen : Uz.length = ops.toList.length) (hwf : wfU ops.toList Gs Es.length Uz = true) (hBs : BsL Es Bs Uz Bs) (hSub : SubL S Bs) (hE : EldsM S w Es) (hsteps : StepsFM S M N P D Gs Uz Es Bs F w 0 ops.toList)
    (hend : ∀ (v : Nat → Value) (Tf : Nat → Nat → Prop) (F' : Nat → Value) (w' : World), Kept S w w' → (∀ i, i < ops.size → valM Gs i (v i)) → (∀ i t, Gs.getD i Pm.none = .new t → leftB Uz i = true → t.B (v i) (Tf i) w' ∧ Grew w (Bs.getD i noB) (Tf i)) → (∀ i j t t', i ≠ j → Gs.getD i Pm.none = .new t → Gs.getD j Pm.none = .new t' → leftB Uz i = true → leftB Uz j = true → Apart (Tf i) (Tf j)) → (∀ t, F' t = putsF v 0 D F t) → Q .normal F' w') : wq none P N (.region id ops true) Q F w := by
  intro a ha
  refine wpIn_wide.2 ?_
  refine wp_region_inv D (fun L v w' => ∃ Tf, JM S w Gs Uz Es Bs M L v Tf w') hm (by rw [ha.size]; exact hpl) ⟨fun _ => noB, (Kept.refl _ w).drew, fun _ _ e => (by cases e), fun _ _ e => (by cases e), fun e E he _ => E.st w _ (fun _ => False) (hE.at e E he).2 (Kept.refl _ w).drew (fun _ _ z => z), fun _ _ e => (by cases e), fun _ _ _ _ _ e => (by cases e), fun _ _ _ _ e => (by cases e), fun _ _ _ e => (by cases e)⟩ (hsteps.steps hwf hlen hBs hSub hE hmo ha (fun k o hk => by rw [Nat.zero_add]; exact hk)) fun L v w' ⟨Tf, hJ⟩ hL => ?_
  have hlt : ∀ i t, Gs.getD i Pm.none = .new t → L i = true := fun i t e => by
    refine hL i ?_
    rw [← hsz]
    rcases Nat.lt_or_ge i Gs.length with h' | h'
    · exact h'
    · have : Gs.getD i Pm.none = Pm.none := by simp [List.getD, List.getElem?_eq_none h']
      rw [this] at e; cases e
  refine ⟨putsF v 0 D F, putAll_fr v D 0 F a ha (plain_fits hpl), hend v Tf _ w' hJ.kept (fun i hi => ?_) (fun i t e hl => ⟨hJ.things i t (hlt i t e) e (left_not hl), hJ.grew i t (hlt i t e) e⟩) (fun i j t t' hij e1 e2 h1 h2 => hJ.tt i j t t' hij (hlt i t e1) (hlt j t' e2) e1 e2 (left_not h1) (left_not h2)) fun _ => rfl⟩
  unfold valM
  cases e' : Gs.getD i Pm.none with
  | eq y => exact hJ.vals i y (hL i hi) e'
  | new t => trivial
end
end Go.Proofs.Ytnccblhdokplkaa
set_option maxRecDepth 100000
namespace Go.Proofs.Ytnccblhdokplkaa
open Go.RowKit
section
variable {ρ : Operand → Value} {w : World} {o : Oper} {R : Value → World → Prop}
theorem y_builtBn {parts : Array (Nat × Operand)} {n : Nat} {xs : List Operand} {vs : List Value} {l : List Nat} (ho : o.op = .buildSlice 27 n parts) (hn : n = l.length) (hp : parts.toList = (xs.zipIdx 0).map fun x => (x.2, x.1)) (hx : xs.map ρ = vs) (hv : vs = byteVals l) (h0 : 0 < l.length) (hsz : l.length ≤ 65536) (hb : ∀ x ∈ l, x < 256)
    (h : ∀ v w' T, Owb w' T v l → Grew w noB T → Kept (fun _ => False) w w' → R v w') : Yields Try.prog ρ o w R := by
  subst hn; subst hx
  obtain ⟨i0, hi0, hz0, hz1, hz2⟩ := info_parts Try.info_u8
  have hlb : (byteVals l).length = l.length := by simp [byteVals]
  have hlen : xs.length = l.length := by have := congrArg List.length hv; rw [hlb] at this; simpa using this
  have hcells : ∀ m : List Nat, (byteVals m).flatMap (fun v => v.cells.toList) = byteVals m := fun m => by
    induction m with
    | nil => rfl
    | cons a m ih => exact congrArg (Value.int .u8 ((a : Nat) : Int) :: ·) ih
  have hsize : ∀ v ∈ xs.map ρ, v.cells.size = 1 := by
    intro v hv'
    rw [hv] at hv'
    obtain ⟨x, _, rfl⟩ := List.mem_map.1 hv'
    rfl
  have hrun := run_buildSlice (P := Try.prog) w 27 5 l.length (parts.map fun (i, x) => (i, ρ x)) (byteVals l).toArray i0 (.int .u8 0) Try.underlying27 hi0 hz0 (by rw [hz1]; omega) (by rw [hz1]; omega) (by
    rw [hz1]
    have e : (parts.map fun (i, x) => (i, ρ x)).toList = ((xs.map ρ).zipIdx 0).map fun x => (x.2, x.1) := by
      rw [Array.toList_map, hp, List.zipIdx_map, List.map_map, List.map_map]; rfl
    rw [e, Great.fill_whole (by decide) _ _ hsize (by rw [List.length_map, hlen]; simp), hv, hcells])
  refine y_val (v := .slice (some ⟨w.heap.size, 0, none⟩) l.length l.length) (w' := w.alloc (.cells (byteVals l).toArray 5)) (by simp [execOp, ho, hrun]) (h _ _ _ (Owb.of (Row.of_new (B := 0) (l := l) (heap_alloc_new w _) (Nat.zero_le _) (show l.length ≤ maxLen by unfold maxLen; omega) hb)) (fun i hi => .inr ?_) ((Kept.refl _ _).alloc _))
  cases hi; exact Nat.le_refl _
theorem y_builtB0 (ho : o.op = .buildSlice 27 0 #[])
    (h : ∀ v w' T, Owb w' T v [] → Grew w noB T → Kept (fun _ => False) w w' → R v w') : Yields Try.prog ρ o w R := by
  refine y_val (v := .slice (some ⟨w.heap.size, 0, none⟩) 0 0) (w' := w.alloc (.cells (byteVals []).toArray 5)) (by simp [execOp, ho, go_sem]; rfl) (h _ _ _ (Owb.of (Row.of_new (B := 0) (l := []) (heap_alloc_new w _) (Nat.zero_le _) (Nat.zero_le _) (by simp))) (fun i hi => .inr ?_) ((Kept.refl _ _).alloc _))
  cases hi; exact Nat.le_refl _
theorem run_make_cap (w : World) (kl kc : IntKind) (n c : Nat) (hnc : n ≤ c) (hc : c < 1099511627776) :
    (Instr.makeSlice 27 (.int kl (n : Int)) (.int kc (c : Int))).run Try.prog w = .ok (.slice (some ⟨w.heap.size, 0, none⟩) n c) (w.alloc (.cells (byteVals (List.replicate c 0)).toArray 5)) := by
  obtain ⟨i0, hi, hz0, hz1, hz2⟩ := info_parts Try.info_u8
  have hr := run_make (P := Try.prog) w 27 5 i0 (.int .u8 0) Try.underlying27 hi hz0 kl kc n c (by omega) (by omega) (by rw [hz2]; omega) (by omega)
  simp only [Int.toNat_natCast, hz1, Nat.mul_one] at hr
  rw [hr, ← byteVals_zeros]
/-- Bytes with room for more. -/
theorem y_makeC {x y : Operand} {kl kc : IntKind} {n c : Nat} {i j : Int} (ho : o.op = .makeSlice 27 x y) (hx : ρ x = .int kl i) (hy : ρ y = .int kc j) (hi : i = (n : Int)) (hj : j = (c : Int)) (hnc : n ≤ c) (hc : c < 1099511627776)
    (h : ∀ v w' T, Owb w' T v (List.replicate n 0) → Grew w noB T → Kept (fun _ => False) w w' → R v w') : Yields Try.prog ρ o w R := by
  subst hi; subst hj
  refine y_val (v := .slice (some ⟨w.heap.size, 0, none⟩) n c) (w' := w.alloc (.cells (byteVals (List.replicate c 0)).toArray 5)) (by simp [execOp, ho, hx, hy, run_make_cap w kl kc n c hnc hc]) (h _ _ _ (Owb.of (w := w.alloc (.cells (byteVals (List.replicate c 0)).toArray 5)) (l := List.replicate n 0) ⟨⟨by rw [byteVals_length]; simp, .inr ⟨w.heap.size, c, _, by rw [List.length_replicate], Nat.zero_le _, heap_alloc_new w _, by rw [List.length_replicate]; exact hnc, by unfold maxLen; omega, by simp [byteVals_length], ?_⟩⟩, zeros_lt n⟩) (fun i hi => .inr ?_) ((Kept.refl _ _).alloc _))
  · simp only [List.length_replicate, Nat.mul_one]
    unfold byteVals
    rw [← List.map_take, List.take_replicate, Nat.min_eq_left hnc]
  · cases hi; exact Nat.le_refl _
theorem y_makeC0 {x y : Operand} {kl kc : IntKind} {c : Nat} {i j : Int} (ho : o.op = .makeSlice 27 x y) (hx : ρ x = .int kl i) (hy : ρ y = .int kc j) (hi : i = 0) (hj : j = (c : Int)) (hc : c < 1099511627776)
    (h : ∀ v w' T, Owb w' T v [] → Grew w noB T → Kept (fun _ => False) w w' → R v w') : Yields Try.prog ρ o w R := y_makeC (n := 0) ho hx hy (by rw [hi]; rfl) hj (Nat.zero_le _) hc h
theorem y_appendB {c : Call} {x y : Operand} {T U : Nat → Prop} {v u : Value} {l m : List Nat} (ho : o.op = .call c) (hc : c = { callee := .builtin .append, args := #[x, y], argTypes := #[27, 27] }) (hx : ρ x = v) (hy : ρ y = u) (hv : Owb w T v l) (hu : Byt w U u m) (hl : l.length + m.length < 1099511627776)
    (h : ∀ v' w' T', Owb w' T' v' (l ++ m) → Grew w T T' → Kept T w w' → R v' w') : Yields Try.prog ρ o w R := by
  subst hc
  obtain ⟨v', w', hr, hA, hw⟩ := run_append_where w o.type v u l m hv.1 hu.1 hl
  refine y_val (v := v') (w' := w') (by simp [execOp, ho, resolve, invoke, builtin, hx, hy, hr]) (h v' w' _ (Owb.of hA.1) (fun i hi => ?_) ((Kept.refl T w).grown hA.2 (fun k e _ => (hv.2 k).2 e)))
  rcases hw with hw | hw
  · exact .inl ((hv.2 i).2 (hw ▸ hi))
  · exact .inr (hw i hi)
end
def owThm (l : List Nat) : Thm := ⟨fun v T w => Owb w T v l, fun _ _ _ _ _ h k ha => h.all k ha, fun _ _ _ h => h.live⟩
/-- A struct that is stored into. -/
def stcThm (p : Nat) (t : TypeId) (us : List Value) : Thm := ⟨fun v T w => v = undef ∧ T = onB p ∧ Stc w p t us, fun _ _ _ _ _ h k ha => ⟨h.1, h.2.1, h.2.2.all k (ha p (by rw [h.2.1]; rfl))⟩, fun _ _ _ h => by rw [h.2.1]; exact onB_live h.2.2.lt⟩
def stcEld (p : Nat) (t : TypeId) (zs : List Value) : Eld := ⟨fun w => Stc w p t zs, onB p, fun _ _ _ h k ha => h.all k (ha p rfl), fun _ h => onB_live h.lt⟩
section
variable {ro : Option Nat} {N : Nat} {Q : (Exit → (Nat → Value) → World → Prop)} {F : Nat → Value} {w : World} {o : Oper}
theorem wl_builtBn {ops : Array Oper} {rest : List Oper} {parts : Array (Nat × Operand)} {n : Nat} {xs : List Operand} {vs : List Value} {l : List Nat} (hg : o.guard = none) (hd : fits N o.dst = true) (ho : o.op = .buildSlice 27 n parts) (hn : n = l.length) (hp : parts.toList = (xs.zipIdx 0).map fun x => (x.2, x.1)) (hx : xs.map (ev (cutF N F)) = vs) (hv : vs = byteVals l) (h0 : 0 < l.length) (hsz : l.length ≤ 65536) (hb : ∀ x ∈ l, x < 256)
    (h : ∀ v w' T, Owb w' T v l → Grew w noB T → Kept (fun _ => False) w w' → wl ro Try.prog N ops Q rest (putF F o.dst v) w') : wl ro Try.prog N ops Q (o :: rest) F w :=
  wl_op hg hd (y_builtBn ho hn hp hx hv h0 hsz hb h)
end
end Go.Proofs.Ytnccblhdokplkaa
set_option maxRecDepth 100000
namespace Go.Proofs.Ytnccblhdokplkaa
open Go.RowKit
theorem stcT_seq : StcT Try.prog 24 4 := ⟨_, Try.underlying24, rfl, by kernel_rfl⟩
theorem stcT_head : StcT Try.prog 26 4 := ⟨_, Try.underlying26, rfl, by kernel_rfl⟩
theorem tmod8 {n : Int} (h : 8 ≤ n) : Int.tmod n 8 = n % 8 := Int.tmod_eq_emod_of_nonneg (by omega)
theorem byte_wrap (n : Int) (m : Nat) : IntKind.u8.wrap (n / (m : Int)) = ((btI n m : Nat) : Int) := by
  unfold btI IntKind.wrap; simp [IntKind.bits, IntKind.signed]; omega

theorem four_lt (n : Int) : ∀ x ∈ [btI n 16777216, btI n 65536, btI n 256, btI n 1], x < 256 := by
  intro x hx
  simp only [List.mem_cons, List.not_mem_nil, or_false] at hx
  rcases hx with rfl | rfl | rfl | rfl <;> exact btI_lt _ _

set_option maxHeartbeats 4000000 in
set_option maxRecDepth 100000 in
theorem href_side (n : Int) (w0 : World) :
    Calls Try.prog 30 #[.int .i64 (n)] w0 fun e w' => e = .returned (.bool (decide (sideOk n))) ∧ Kept (fun _ => False) w0 w' := by
  refine calls_wq (args := [.int .i64 (n)]) 14 Try.func30 rfl rfl (Nat.le_of_ble_eq_true rfl) ?_
  have K0 := Kept.refl (fun _ => False) w0
  refine wq_seq ?_
  refine wq_region ?_
  refine wl_v (.bool false) rfl rfl (y_asg rfl rfl ⟨rfl, rfl⟩) ?_
  refine wl_nil fun F1 hF2 => ?_
  have s3 : F1 0 = .int .i64 (n) := (hF2 0).trans rfl
  have s4 : F1 14 = undef := (hF2 14).trans rfl
  clear hF2
  refine then_normal ?_
  refine wq_seq ?_
  by_cases d5 : (8) ≤ (n)
  · skip
    by_cases d6 : (n) ≤ (64)
    · skip
      refine wq_region ?_
      refine wl_v (.int .i64 (n)) rfl rfl (y_mov rfl s3 ⟨rfl, rfl⟩) ?_
      refine wl_v (.bool true) rfl rfl (y_geq rfl rfl rfl (decide_eq_true d5) ⟨rfl, rfl⟩) ?_
      refine wl_v (.bool true) rfl rfl (y_mov rfl rfl ⟨rfl, rfl⟩) ?_
      refine wl_vw (.int .i64 (n)) 2 true 5 rfl rfl rfl rfl rfl (y_mov rfl s3 ⟨rfl, rfl⟩) ?_
      refine wl_vw (.bool true) 2 true 5 rfl rfl rfl rfl rfl (y_leq rfl rfl rfl (decide_eq_true d6) ⟨rfl, rfl⟩) ?_
      refine wl_v (.bool true) rfl rfl (y_pickT rfl rfl rfl ⟨rfl, rfl⟩) ?_
      refine wl_v (.bool true) rfl rfl (y_mov rfl rfl ⟨rfl, rfl⟩) ?_
      refine wl_vw (.int .i64 (n)) 6 true 9 rfl rfl rfl rfl rfl (y_mov rfl s3 ⟨rfl, rfl⟩) ?_
      refine wl_vw (.int .i64 (n % 8)) 6 true 9 rfl rfl rfl rfl rfl (y_rem rfl rfl rfl (by first | decide | omega) (tmod8 (by omega)) ⟨rfl, rfl⟩) ?_
      refine wl_vw (.bool (decide ((n % 8) = (0)))) 6 true 9 rfl rfl rfl rfl rfl (y_eqlI rfl rfl rfl rfl ⟨rfl, rfl⟩) ?_
      refine wl_v (.bool (decide ((n % 8) = (0)))) rfl rfl (y_pickT rfl rfl rfl ⟨rfl, rfl⟩) ?_
      refine wl_v (.bool (decide ((n % 8) = (0)))) rfl rfl (y_asg rfl rfl ⟨rfl, rfl⟩) ?_
      refine wl_nil fun F7 hF8 => ?_
      have s9 : F7 14 = undef := (hF8 14).trans s4
      have s10 : F7 2 = .bool (decide ((n % 8) = (0))) := (hF8 2).trans rfl
      clear hF8
      refine then_normal ?_
      refine wq_ret ?_
      exact end_tmp (v := .bool (decide ((n % 8) = (0)))) s9 rfl rfl s10 ⟨(by first | rw [decide_eq_true (p := sideOk n) (by unfold sideOk; omega)] | rw [decide_eq_false (p := sideOk n) (by unfold sideOk; omega)] | rw [show decide (sideOk n) = decide (n % 8 = 0) from decide_eq_decide.2 (by unfold sideOk; omega)]), K0⟩
    · skip
      refine wq_region ?_
      refine wl_v (.int .i64 (n)) rfl rfl (y_mov rfl s3 ⟨rfl, rfl⟩) ?_
      refine wl_v (.bool true) rfl rfl (y_geq rfl rfl rfl (decide_eq_true d5) ⟨rfl, rfl⟩) ?_
      refine wl_v (.bool true) rfl rfl (y_mov rfl rfl ⟨rfl, rfl⟩) ?_
      refine wl_vw (.int .i64 (n)) 2 true 5 rfl rfl rfl rfl rfl (y_mov rfl s3 ⟨rfl, rfl⟩) ?_
      refine wl_vw (.bool false) 2 true 5 rfl rfl rfl rfl rfl (y_leq rfl rfl rfl (decide_eq_false d6) ⟨rfl, rfl⟩) ?_
      refine wl_v (.bool false) rfl rfl (y_pickT rfl rfl rfl ⟨rfl, rfl⟩) ?_
      refine wl_v (.bool false) rfl rfl (y_mov rfl rfl ⟨rfl, rfl⟩) ?_
      refine wl_unless 6 true 9 rfl rfl rfl (Or.inl rfl) rfl ?_
      refine wl_unless 6 true 9 rfl rfl rfl (Or.inl rfl) rfl ?_
      refine wl_unless 6 true 9 rfl rfl rfl (Or.inl rfl) rfl ?_
      refine wl_v (.bool false) rfl rfl (y_pickF rfl rfl rfl ⟨rfl, rfl⟩) ?_
      refine wl_v (.bool false) rfl rfl (y_asg rfl rfl ⟨rfl, rfl⟩) ?_
      refine wl_nil fun F11 hF12 => ?_
      have s13 : F11 14 = undef := (hF12 14).trans s4
      have s14 : F11 2 = .bool false := (hF12 2).trans rfl
      clear hF12
      refine then_normal ?_
      refine wq_ret ?_
      exact end_tmp (v := .bool false) s13 rfl rfl s14 ⟨(by first | rw [decide_eq_true (p := sideOk n) (by unfold sideOk; omega)] | rw [decide_eq_false (p := sideOk n) (by unfold sideOk; omega)] | rw [show decide (sideOk n) = decide (n % 8 = 0) from decide_eq_decide.2 (by unfold sideOk; omega)]), K0⟩
  · skip
    refine wq_region ?_
    refine wl_v (.int .i64 (n)) rfl rfl (y_mov rfl s3 ⟨rfl, rfl⟩) ?_
    refine wl_v (.bool false) rfl rfl (y_geq rfl rfl rfl (decide_eq_false d5) ⟨rfl, rfl⟩) ?_
    refine wl_v (.bool false) rfl rfl (y_mov rfl rfl ⟨rfl, rfl⟩) ?_
    refine wl_unless 2 true 5 rfl rfl rfl (Or.inl rfl) rfl ?_
    refine wl_unless 2 true 5 rfl rfl rfl (Or.inl rfl) rfl ?_
    refine wl_v (.bool false) rfl rfl (y_pickF rfl rfl rfl ⟨rfl, rfl⟩) ?_
    refine wl_v (.bool false) rfl rfl (y_mov rfl rfl ⟨rfl, rfl⟩) ?_
    refine wl_unless 6 true 9 rfl rfl rfl (Or.inl rfl) rfl ?_
    refine wl_unless 6 true 9 rfl rfl rfl (Or.inl rfl) rfl ?_
    refine wl_unless 6 true 9 rfl rfl rfl (Or.inl rfl) rfl ?_
    refine wl_v (.bool false) rfl rfl (y_pickF rfl rfl rfl ⟨rfl, rfl⟩) ?_
    refine wl_v (.bool false) rfl rfl (y_asg rfl rfl ⟨rfl, rfl⟩) ?_
    refine wl_nil fun F15 hF16 => ?_
    have s17 : F15 14 = undef := (hF16 14).trans s4
    have s18 : F15 2 = .bool false := (hF16 2).trans rfl
    clear hF16
    refine then_normal ?_
    refine wq_ret ?_
    exact end_tmp (v := .bool false) s17 rfl rfl s18 ⟨(by first | rw [decide_eq_true (p := sideOk n) (by unfold sideOk; omega)] | rw [decide_eq_false (p := sideOk n) (by unfold sideOk; omega)] | rw [show decide (sideOk n) = decide (n % 8 = 0) from decide_eq_decide.2 (by unfold sideOk; omega)]), K0⟩
set_option maxHeartbeats 4000000 in
set_option maxRecDepth 100000 in
theorem href_seq (W H R B : Int) (w0 : World) :
    Calls Try.prog 19 #[.agg #[.int .i64 (W), .int .i64 (H), .int .i64 (R), .int .i64 (B)]] w0 fun e w' => e = .returned (.int .i64 (seqE W H R B)) ∧ Kept (fun _ => False) w0 w' := by
  refine calls_wq (args := [.agg #[.int .i64 (W), .int .i64 (H), .int .i64 (R), .int .i64 (B)]]) 35 Try.func19 rfl rfl (Nat.le_of_ble_eq_true rfl) ?_
  have K0 := Kept.refl (fun _ => False) w0
  refine wq_seq ?_
  refine wq_region ?_
  refine wl_box_stc (vs := [.int .i64 (W), .int .i64 (H), .int .i64 (R), .int .i64 (B)]) rfl rfl rfl rfl fun p1 w2 B4 g5 k3 => ?_
  have gr6 : Grew w0 noB (onB p1) := Grew.new K0 g5
  have K7 := K0.trans k3 (fun _ _ x => x.elim)
  refine wl_v (.int .i64 (0)) rfl rfl (y_asg rfl rfl ⟨rfl, rfl⟩) ?_
  refine wl_nil fun F8 hF9 => ?_
  have s10 : F8 35 = undef := (hF9 35).trans rfl
  have s11 : F8 1 = .pointer (some ⟨p1, 0, none⟩) := (hF9 1).trans rfl
  clear hF9
  refine then_normal ?_
  refine wq_seq ?_
  refine wq_seq ?_
  rcases Bool.eq_false_or_eq_true (decide (sideOk (W))) with d12 | d12
  · skip
    rcases Bool.eq_false_or_eq_true (decide (sideOk (H))) with d13 | d13
    · skip
      by_cases d14 : (R) < (1)
      · skip
        refine wq_region ?_
        refine wl_v (.pointer (some ⟨p1, 0, none⟩)) rfl rfl (y_fieldR (n := 1) rfl s11 Try.underlying24 rfl (by kernel_rfl) (by decide) rfl ⟨rfl, rfl⟩) ?_
        refine wl_v (.int .i64 (W)) rfl rfl (y_ld_stc rfl rfl Try.underlying3 B4 rfl rfl ⟨rfl, rfl⟩) ?_
        refine wl_call (R := fun v_ w_ => v_ = .bool true ∧ Kept (fun _ => False) w2 w_) rfl rfl (y_cs rfl rfl rfl (fun _ _ => by kernel_rfl) (ev_func _) (vsC rfl vsN) (href_side (W)  _   ) (fun e_ w_ h_ => ⟨_, h_.1, (congrArg Value.bool d12), h_.2⟩)) ?_
        rintro _ w15 ⟨rfl, k16⟩
        have B17 := B4.all k16 id
        have K18 := K7.trans k16 (fun _ _ x => x.elim)
        refine wl_v (.bool false) rfl rfl (y_not rfl rfl rfl ⟨rfl, rfl⟩) ?_
        refine wl_v (.bool false) rfl rfl (y_mov rfl rfl ⟨rfl, rfl⟩) ?_
        refine wl_vw (.pointer (some ⟨p1, 1, none⟩)) 4 false 7 rfl rfl rfl rfl rfl (y_fieldR (n := 1) rfl s11 Try.underlying24 rfl (by kernel_rfl) (by decide) rfl ⟨rfl, rfl⟩) ?_
        refine wl_vw (.int .i64 (H)) 4 false 7 rfl rfl rfl rfl rfl (y_ld_stc rfl rfl Try.underlying3 B17 rfl rfl ⟨rfl, rfl⟩) ?_
        refine wl_callw (R := fun v_ w_ => v_ = .bool true ∧ Kept (fun _ => False) w15 w_) 4 false 7 rfl rfl rfl rfl rfl (y_cs rfl rfl rfl (fun _ _ => by kernel_rfl) (ev_func _) (vsC rfl vsN) (href_side (H)  _   ) (fun e_ w_ h_ => ⟨_, h_.1, (congrArg Value.bool d13), h_.2⟩)) ?_
        rintro _ w19 ⟨rfl, k20⟩
        have B21 := B17.all k20 id
        have K22 := K18.trans k20 (fun _ _ x => x.elim)
        refine wl_vw (.bool false) 4 false 7 rfl rfl rfl rfl rfl (y_not rfl rfl rfl ⟨rfl, rfl⟩) ?_
        refine wl_v (.bool false) rfl rfl (y_pickF rfl rfl rfl ⟨rfl, rfl⟩) ?_
        refine wl_v (.bool false) rfl rfl (y_mov rfl rfl ⟨rfl, rfl⟩) ?_
        refine wl_vw (.pointer (some ⟨p1, 2, none⟩)) 10 false 13 rfl rfl rfl rfl rfl (y_fieldR (n := 1) rfl s11 Try.underlying24 rfl (by kernel_rfl) (by decide) rfl ⟨rfl, rfl⟩) ?_
        refine wl_vw (.int .i64 (R)) 10 false 13 rfl rfl rfl rfl rfl (y_ld_stc rfl rfl Try.underlying3 B21 rfl rfl ⟨rfl, rfl⟩) ?_
        refine wl_vw (.bool true) 10 false 13 rfl rfl rfl rfl rfl (y_lss rfl rfl rfl (decide_eq_true d14) ⟨rfl, rfl⟩) ?_
        refine wl_v (.bool true) rfl rfl (y_pickF rfl rfl rfl ⟨rfl, rfl⟩) ?_
        refine wl_v (.bool true) rfl rfl (y_mov rfl rfl ⟨rfl, rfl⟩) ?_
        refine wl_unless 15 false 18 rfl rfl rfl (Or.inl rfl) rfl ?_
        refine wl_unless 15 false 18 rfl rfl rfl (Or.inl rfl) rfl ?_
        refine wl_unless 15 false 18 rfl rfl rfl (Or.inl rfl) rfl ?_
        refine wl_v (.bool true) rfl rfl (y_pickT rfl rfl rfl ⟨rfl, rfl⟩) ?_
        refine wl_v (.bool true) rfl rfl (y_mov rfl rfl ⟨rfl, rfl⟩) ?_
        refine wl_unless 20 false 23 rfl rfl rfl (Or.inl rfl) rfl ?_
        refine wl_unless 20 false 23 rfl rfl rfl (Or.inl rfl) rfl ?_
        refine wl_unless 20 false 23 rfl rfl rfl (Or.inl rfl) rfl ?_
        refine wl_unless 20 false 23 rfl rfl rfl (Or.inl rfl) rfl ?_
        refine wl_unless 20 false 23 rfl rfl rfl (Or.inl rfl) rfl ?_
        refine wl_v (.bool true) rfl rfl (y_pickT rfl rfl rfl ⟨rfl, rfl⟩) ?_
        refine wl_v (.bool true) rfl rfl (y_mov rfl rfl ⟨rfl, rfl⟩) ?_
        refine wl_unless 27 false 30 rfl rfl rfl (Or.inl rfl) rfl ?_
        refine wl_unless 27 false 30 rfl rfl rfl (Or.inl rfl) rfl ?_
        refine wl_unless 27 false 30 rfl rfl rfl (Or.inl rfl) rfl ?_
        refine wl_v (.bool true) rfl rfl (y_pickT rfl rfl rfl ⟨rfl, rfl⟩) ?_
        refine wl_nil fun F23 hF24 => ?_
        have s25 : F23 35 = undef := (hF24 35).trans s10
        have s26 : F23 34 = .bool true := (hF24 34).trans rfl
        clear hF24
        refine then_normal ?_
        refine wq_cond (t := true) s26 (fun _ => ?_) (fun e => by cases e)
        refine wq_seq ?_
        refine wq_region ?_
        refine wl_v (.int .i64 (110)) rfl rfl (y_asg rfl rfl ⟨rfl, rfl⟩) ?_
        refine wl_nil fun F27 hF28 => ?_
        have s29 : F27 35 = undef := (hF28 35).trans s25
        have s30 : F27 2 = .int .i64 (110) := (hF28 2).trans rfl
        clear hF28
        refine then_normal ?_
        refine wq_ret ?_
        refine then_ret ?_
        exact end_tmp (v := .int .i64 (110)) s29 rfl rfl s30 ⟨(by first | rw [show seqE W H R B = 0 from if_pos ⟨of_decide_eq_true (by assumption), of_decide_eq_true (by assumption), by omega, by omega, by omega, by omega⟩] | rw [show seqE W H R B = 110 from if_neg (by unfold seqOk; rintro ⟨h1, h2, h3, h4, h5, h6⟩; first | omega | (exact absurd h1 (of_decide_eq_false (by assumption))) | (exact absurd h2 (of_decide_eq_false (by assumption))) | (simp_all; done))]), K22⟩
      · skip
        by_cases d31 : (16777216) < (R)
        · skip
          refine wq_region ?_
          refine wl_v (.pointer (some ⟨p1, 0, none⟩)) rfl rfl (y_fieldR (n := 1) rfl s11 Try.underlying24 rfl (by kernel_rfl) (by decide) rfl ⟨rfl, rfl⟩) ?_
          refine wl_v (.int .i64 (W)) rfl rfl (y_ld_stc rfl rfl Try.underlying3 B4 rfl rfl ⟨rfl, rfl⟩) ?_
          refine wl_call (R := fun v_ w_ => v_ = .bool true ∧ Kept (fun _ => False) w2 w_) rfl rfl (y_cs rfl rfl rfl (fun _ _ => by kernel_rfl) (ev_func _) (vsC rfl vsN) (href_side (W)  _   ) (fun e_ w_ h_ => ⟨_, h_.1, (congrArg Value.bool d12), h_.2⟩)) ?_
          rintro _ w32 ⟨rfl, k33⟩
          have B34 := B4.all k33 id
          have K35 := K7.trans k33 (fun _ _ x => x.elim)
          refine wl_v (.bool false) rfl rfl (y_not rfl rfl rfl ⟨rfl, rfl⟩) ?_
          refine wl_v (.bool false) rfl rfl (y_mov rfl rfl ⟨rfl, rfl⟩) ?_
          refine wl_vw (.pointer (some ⟨p1, 1, none⟩)) 4 false 7 rfl rfl rfl rfl rfl (y_fieldR (n := 1) rfl s11 Try.underlying24 rfl (by kernel_rfl) (by decide) rfl ⟨rfl, rfl⟩) ?_
          refine wl_vw (.int .i64 (H)) 4 false 7 rfl rfl rfl rfl rfl (y_ld_stc rfl rfl Try.underlying3 B34 rfl rfl ⟨rfl, rfl⟩) ?_
          refine wl_callw (R := fun v_ w_ => v_ = .bool true ∧ Kept (fun _ => False) w32 w_) 4 false 7 rfl rfl rfl rfl rfl (y_cs rfl rfl rfl (fun _ _ => by kernel_rfl) (ev_func _) (vsC rfl vsN) (href_side (H)  _   ) (fun e_ w_ h_ => ⟨_, h_.1, (congrArg Value.bool d13), h_.2⟩)) ?_
          rintro _ w36 ⟨rfl, k37⟩
          have B38 := B34.all k37 id
          have K39 := K35.trans k37 (fun _ _ x => x.elim)
          refine wl_vw (.bool false) 4 false 7 rfl rfl rfl rfl rfl (y_not rfl rfl rfl ⟨rfl, rfl⟩) ?_
          refine wl_v (.bool false) rfl rfl (y_pickF rfl rfl rfl ⟨rfl, rfl⟩) ?_
          refine wl_v (.bool false) rfl rfl (y_mov rfl rfl ⟨rfl, rfl⟩) ?_
          refine wl_vw (.pointer (some ⟨p1, 2, none⟩)) 10 false 13 rfl rfl rfl rfl rfl (y_fieldR (n := 1) rfl s11 Try.underlying24 rfl (by kernel_rfl) (by decide) rfl ⟨rfl, rfl⟩) ?_
          refine wl_vw (.int .i64 (R)) 10 false 13 rfl rfl rfl rfl rfl (y_ld_stc rfl rfl Try.underlying3 B38 rfl rfl ⟨rfl, rfl⟩) ?_
          refine wl_vw (.bool false) 10 false 13 rfl rfl rfl rfl rfl (y_lss rfl rfl rfl (decide_eq_false d14) ⟨rfl, rfl⟩) ?_
          refine wl_v (.bool false) rfl rfl (y_pickF rfl rfl rfl ⟨rfl, rfl⟩) ?_
          refine wl_v (.bool false) rfl rfl (y_mov rfl rfl ⟨rfl, rfl⟩) ?_
          refine wl_vw (.pointer (some ⟨p1, 2, none⟩)) 15 false 18 rfl rfl rfl rfl rfl (y_fieldR (n := 1) rfl s11 Try.underlying24 rfl (by kernel_rfl) (by decide) rfl ⟨rfl, rfl⟩) ?_
          refine wl_vw (.int .i64 (R)) 15 false 18 rfl rfl rfl rfl rfl (y_ld_stc rfl rfl Try.underlying3 B38 rfl rfl ⟨rfl, rfl⟩) ?_
          refine wl_vw (.bool true) 15 false 18 rfl rfl rfl rfl rfl (y_gtr rfl rfl rfl (decide_eq_true d31) ⟨rfl, rfl⟩) ?_
          refine wl_v (.bool true) rfl rfl (y_pickF rfl rfl rfl ⟨rfl, rfl⟩) ?_
          refine wl_v (.bool true) rfl rfl (y_mov rfl rfl ⟨rfl, rfl⟩) ?_
          refine wl_unless 20 false 23 rfl rfl rfl (Or.inl rfl) rfl ?_
          refine wl_unless 20 false 23 rfl rfl rfl (Or.inl rfl) rfl ?_
          refine wl_unless 20 false 23 rfl rfl rfl (Or.inl rfl) rfl ?_
          refine wl_unless 20 false 23 rfl rfl rfl (Or.inl rfl) rfl ?_
          refine wl_unless 20 false 23 rfl rfl rfl (Or.inl rfl) rfl ?_
          refine wl_v (.bool true) rfl rfl (y_pickT rfl rfl rfl ⟨rfl, rfl⟩) ?_
          refine wl_v (.bool true) rfl rfl (y_mov rfl rfl ⟨rfl, rfl⟩) ?_
          refine wl_unless 27 false 30 rfl rfl rfl (Or.inl rfl) rfl ?_
          refine wl_unless 27 false 30 rfl rfl rfl (Or.inl rfl) rfl ?_
          refine wl_unless 27 false 30 rfl rfl rfl (Or.inl rfl) rfl ?_
          refine wl_v (.bool true) rfl rfl (y_pickT rfl rfl rfl ⟨rfl, rfl⟩) ?_
          refine wl_nil fun F40 hF41 => ?_
          have s42 : F40 35 = undef := (hF41 35).trans s10
          have s43 : F40 34 = .bool true := (hF41 34).trans rfl
          clear hF41
          refine then_normal ?_
          refine wq_cond (t := true) s43 (fun _ => ?_) (fun e => by cases e)
          refine wq_seq ?_
          refine wq_region ?_
          refine wl_v (.int .i64 (110)) rfl rfl (y_asg rfl rfl ⟨rfl, rfl⟩) ?_
          refine wl_nil fun F44 hF45 => ?_
          have s46 : F44 35 = undef := (hF45 35).trans s42
          have s47 : F44 2 = .int .i64 (110) := (hF45 2).trans rfl
          clear hF45
          refine then_normal ?_
          refine wq_ret ?_
          refine then_ret ?_
          exact end_tmp (v := .int .i64 (110)) s46 rfl rfl s47 ⟨(by first | rw [show seqE W H R B = 0 from if_pos ⟨of_decide_eq_true (by assumption), of_decide_eq_true (by assumption), by omega, by omega, by omega, by omega⟩] | rw [show seqE W H R B = 110 from if_neg (by unfold seqOk; rintro ⟨h1, h2, h3, h4, h5, h6⟩; first | omega | (exact absurd h1 (of_decide_eq_false (by assumption))) | (exact absurd h2 (of_decide_eq_false (by assumption))) | (simp_all; done))]), K39⟩
        · skip
          by_cases d48 : (B) < (R)
          · skip
            refine wq_region ?_
            refine wl_v (.pointer (some ⟨p1, 0, none⟩)) rfl rfl (y_fieldR (n := 1) rfl s11 Try.underlying24 rfl (by kernel_rfl) (by decide) rfl ⟨rfl, rfl⟩) ?_
            refine wl_v (.int .i64 (W)) rfl rfl (y_ld_stc rfl rfl Try.underlying3 B4 rfl rfl ⟨rfl, rfl⟩) ?_
            refine wl_call (R := fun v_ w_ => v_ = .bool true ∧ Kept (fun _ => False) w2 w_) rfl rfl (y_cs rfl rfl rfl (fun _ _ => by kernel_rfl) (ev_func _) (vsC rfl vsN) (href_side (W)  _   ) (fun e_ w_ h_ => ⟨_, h_.1, (congrArg Value.bool d12), h_.2⟩)) ?_
            rintro _ w49 ⟨rfl, k50⟩
            have B51 := B4.all k50 id
            have K52 := K7.trans k50 (fun _ _ x => x.elim)
            refine wl_v (.bool false) rfl rfl (y_not rfl rfl rfl ⟨rfl, rfl⟩) ?_
            refine wl_v (.bool false) rfl rfl (y_mov rfl rfl ⟨rfl, rfl⟩) ?_
            refine wl_vw (.pointer (some ⟨p1, 1, none⟩)) 4 false 7 rfl rfl rfl rfl rfl (y_fieldR (n := 1) rfl s11 Try.underlying24 rfl (by kernel_rfl) (by decide) rfl ⟨rfl, rfl⟩) ?_
            refine wl_vw (.int .i64 (H)) 4 false 7 rfl rfl rfl rfl rfl (y_ld_stc rfl rfl Try.underlying3 B51 rfl rfl ⟨rfl, rfl⟩) ?_
            refine wl_callw (R := fun v_ w_ => v_ = .bool true ∧ Kept (fun _ => False) w49 w_) 4 false 7 rfl rfl rfl rfl rfl (y_cs rfl rfl rfl (fun _ _ => by kernel_rfl) (ev_func _) (vsC rfl vsN) (href_side (H)  _   ) (fun e_ w_ h_ => ⟨_, h_.1, (congrArg Value.bool d13), h_.2⟩)) ?_
            rintro _ w53 ⟨rfl, k54⟩
            have B55 := B51.all k54 id
            have K56 := K52.trans k54 (fun _ _ x => x.elim)
            refine wl_vw (.bool false) 4 false 7 rfl rfl rfl rfl rfl (y_not rfl rfl rfl ⟨rfl, rfl⟩) ?_
            refine wl_v (.bool false) rfl rfl (y_pickF rfl rfl rfl ⟨rfl, rfl⟩) ?_
            refine wl_v (.bool false) rfl rfl (y_mov rfl rfl ⟨rfl, rfl⟩) ?_
            refine wl_vw (.pointer (some ⟨p1, 2, none⟩)) 10 false 13 rfl rfl rfl rfl rfl (y_fieldR (n := 1) rfl s11 Try.underlying24 rfl (by kernel_rfl) (by decide) rfl ⟨rfl, rfl⟩) ?_
            refine wl_vw (.int .i64 (R)) 10 false 13 rfl rfl rfl rfl rfl (y_ld_stc rfl rfl Try.underlying3 B55 rfl rfl ⟨rfl, rfl⟩) ?_
            refine wl_vw (.bool false) 10 false 13 rfl rfl rfl rfl rfl (y_lss rfl rfl rfl (decide_eq_false d14) ⟨rfl, rfl⟩) ?_
            refine wl_v (.bool false) rfl rfl (y_pickF rfl rfl rfl ⟨rfl, rfl⟩) ?_
            refine wl_v (.bool false) rfl rfl (y_mov rfl rfl ⟨rfl, rfl⟩) ?_
            refine wl_vw (.pointer (some ⟨p1, 2, none⟩)) 15 false 18 rfl rfl rfl rfl rfl (y_fieldR (n := 1) rfl s11 Try.underlying24 rfl (by kernel_rfl) (by decide) rfl ⟨rfl, rfl⟩) ?_
            refine wl_vw (.int .i64 (R)) 15 false 18 rfl rfl rfl rfl rfl (y_ld_stc rfl rfl Try.underlying3 B55 rfl rfl ⟨rfl, rfl⟩) ?_
            refine wl_vw (.bool false) 15 false 18 rfl rfl rfl rfl rfl (y_gtr rfl rfl rfl (decide_eq_false d31) ⟨rfl, rfl⟩) ?_
            refine wl_v (.bool false) rfl rfl (y_pickF rfl rfl rfl ⟨rfl, rfl⟩) ?_
            refine wl_v (.bool false) rfl rfl (y_mov rfl rfl ⟨rfl, rfl⟩) ?_
            refine wl_vw (.pointer (some ⟨p1, 3, none⟩)) 20 false 23 rfl rfl rfl rfl rfl (y_fieldR (n := 1) rfl s11 Try.underlying24 rfl (by kernel_rfl) (by decide) rfl ⟨rfl, rfl⟩) ?_
            refine wl_vw (.int .i64 (B)) 20 false 23 rfl rfl rfl rfl rfl (y_ld_stc rfl rfl Try.underlying3 B55 rfl rfl ⟨rfl, rfl⟩) ?_
            refine wl_vw (.pointer (some ⟨p1, 2, none⟩)) 20 false 23 rfl rfl rfl rfl rfl (y_fieldR (n := 1) rfl s11 Try.underlying24 rfl (by kernel_rfl) (by decide) rfl ⟨rfl, rfl⟩) ?_
            refine wl_vw (.int .i64 (R)) 20 false 23 rfl rfl rfl rfl rfl (y_ld_stc rfl rfl Try.underlying3 B55 rfl rfl ⟨rfl, rfl⟩) ?_
            refine wl_vw (.bool true) 20 false 23 rfl rfl rfl rfl rfl (y_lss rfl rfl rfl (decide_eq_true d48) ⟨rfl, rfl⟩) ?_
            refine wl_v (.bool true) rfl rfl (y_pickF rfl rfl rfl ⟨rfl, rfl⟩) ?_
            refine wl_v (.bool true) rfl rfl (y_mov rfl rfl ⟨rfl, rfl⟩) ?_
            refine wl_unless 27 false 30 rfl rfl rfl (Or.inl rfl) rfl ?_
            refine wl_unless 27 false 30 rfl rfl rfl (Or.inl rfl) rfl ?_
            refine wl_unless 27 false 30 rfl rfl rfl (Or.inl rfl) rfl ?_
            refine wl_v (.bool true) rfl rfl (y_pickT rfl rfl rfl ⟨rfl, rfl⟩) ?_
            refine wl_nil fun F57 hF58 => ?_
            have s59 : F57 35 = undef := (hF58 35).trans s10
            have s60 : F57 34 = .bool true := (hF58 34).trans rfl
            clear hF58
            refine then_normal ?_
            refine wq_cond (t := true) s60 (fun _ => ?_) (fun e => by cases e)
            refine wq_seq ?_
            refine wq_region ?_
            refine wl_v (.int .i64 (110)) rfl rfl (y_asg rfl rfl ⟨rfl, rfl⟩) ?_
            refine wl_nil fun F61 hF62 => ?_
            have s63 : F61 35 = undef := (hF62 35).trans s59
            have s64 : F61 2 = .int .i64 (110) := (hF62 2).trans rfl
            clear hF62
            refine then_normal ?_
            refine wq_ret ?_
            refine then_ret ?_
            exact end_tmp (v := .int .i64 (110)) s63 rfl rfl s64 ⟨(by first | rw [show seqE W H R B = 0 from if_pos ⟨of_decide_eq_true (by assumption), of_decide_eq_true (by assumption), by omega, by omega, by omega, by omega⟩] | rw [show seqE W H R B = 110 from if_neg (by unfold seqOk; rintro ⟨h1, h2, h3, h4, h5, h6⟩; first | omega | (exact absurd h1 (of_decide_eq_false (by assumption))) | (exact absurd h2 (of_decide_eq_false (by assumption))) | (simp_all; done))]), K56⟩
          · skip
            refine wq_region ?_
            refine wl_v (.pointer (some ⟨p1, 0, none⟩)) rfl rfl (y_fieldR (n := 1) rfl s11 Try.underlying24 rfl (by kernel_rfl) (by decide) rfl ⟨rfl, rfl⟩) ?_
            refine wl_v (.int .i64 (W)) rfl rfl (y_ld_stc rfl rfl Try.underlying3 B4 rfl rfl ⟨rfl, rfl⟩) ?_
            refine wl_call (R := fun v_ w_ => v_ = .bool true ∧ Kept (fun _ => False) w2 w_) rfl rfl (y_cs rfl rfl rfl (fun _ _ => by kernel_rfl) (ev_func _) (vsC rfl vsN) (href_side (W)  _   ) (fun e_ w_ h_ => ⟨_, h_.1, (congrArg Value.bool d12), h_.2⟩)) ?_
            rintro _ w65 ⟨rfl, k66⟩
            have B67 := B4.all k66 id
            have K68 := K7.trans k66 (fun _ _ x => x.elim)
            refine wl_v (.bool false) rfl rfl (y_not rfl rfl rfl ⟨rfl, rfl⟩) ?_
            refine wl_v (.bool false) rfl rfl (y_mov rfl rfl ⟨rfl, rfl⟩) ?_
            refine wl_vw (.pointer (some ⟨p1, 1, none⟩)) 4 false 7 rfl rfl rfl rfl rfl (y_fieldR (n := 1) rfl s11 Try.underlying24 rfl (by kernel_rfl) (by decide) rfl ⟨rfl, rfl⟩) ?_
            refine wl_vw (.int .i64 (H)) 4 false 7 rfl rfl rfl rfl rfl (y_ld_stc rfl rfl Try.underlying3 B67 rfl rfl ⟨rfl, rfl⟩) ?_
            refine wl_callw (R := fun v_ w_ => v_ = .bool true ∧ Kept (fun _ => False) w65 w_) 4 false 7 rfl rfl rfl rfl rfl (y_cs rfl rfl rfl (fun _ _ => by kernel_rfl) (ev_func _) (vsC rfl vsN) (href_side (H)  _   ) (fun e_ w_ h_ => ⟨_, h_.1, (congrArg Value.bool d13), h_.2⟩)) ?_
            rintro _ w69 ⟨rfl, k70⟩
            have B71 := B67.all k70 id
            have K72 := K68.trans k70 (fun _ _ x => x.elim)
            refine wl_vw (.bool false) 4 false 7 rfl rfl rfl rfl rfl (y_not rfl rfl rfl ⟨rfl, rfl⟩) ?_
            refine wl_v (.bool false) rfl rfl (y_pickF rfl rfl rfl ⟨rfl, rfl⟩) ?_
            refine wl_v (.bool false) rfl rfl (y_mov rfl rfl ⟨rfl, rfl⟩) ?_
            refine wl_vw (.pointer (some ⟨p1, 2, none⟩)) 10 false 13 rfl rfl rfl rfl rfl (y_fieldR (n := 1) rfl s11 Try.underlying24 rfl (by kernel_rfl) (by decide) rfl ⟨rfl, rfl⟩) ?_
            refine wl_vw (.int .i64 (R)) 10 false 13 rfl rfl rfl rfl rfl (y_ld_stc rfl rfl Try.underlying3 B71 rfl rfl ⟨rfl, rfl⟩) ?_
            refine wl_vw (.bool false) 10 false 13 rfl rfl rfl rfl rfl (y_lss rfl rfl rfl (decide_eq_false d14) ⟨rfl, rfl⟩) ?_
            refine wl_v (.bool false) rfl rfl (y_pickF rfl rfl rfl ⟨rfl, rfl⟩) ?_
            refine wl_v (.bool false) rfl rfl (y_mov rfl rfl ⟨rfl, rfl⟩) ?_
            refine wl_vw (.pointer (some ⟨p1, 2, none⟩)) 15 false 18 rfl rfl rfl rfl rfl (y_fieldR (n := 1) rfl s11 Try.underlying24 rfl (by kernel_rfl) (by decide) rfl ⟨rfl, rfl⟩) ?_
            refine wl_vw (.int .i64 (R)) 15 false 18 rfl rfl rfl rfl rfl (y_ld_stc rfl rfl Try.underlying3 B71 rfl rfl ⟨rfl, rfl⟩) ?_
            refine wl_vw (.bool false) 15 false 18 rfl rfl rfl rfl rfl (y_gtr rfl rfl rfl (decide_eq_false d31) ⟨rfl, rfl⟩) ?_
            refine wl_v (.bool false) rfl rfl (y_pickF rfl rfl rfl ⟨rfl, rfl⟩) ?_
            refine wl_v (.bool false) rfl rfl (y_mov rfl rfl ⟨rfl, rfl⟩) ?_
            refine wl_vw (.pointer (some ⟨p1, 3, none⟩)) 20 false 23 rfl rfl rfl rfl rfl (y_fieldR (n := 1) rfl s11 Try.underlying24 rfl (by kernel_rfl) (by decide) rfl ⟨rfl, rfl⟩) ?_
            refine wl_vw (.int .i64 (B)) 20 false 23 rfl rfl rfl rfl rfl (y_ld_stc rfl rfl Try.underlying3 B71 rfl rfl ⟨rfl, rfl⟩) ?_
            refine wl_vw (.pointer (some ⟨p1, 2, none⟩)) 20 false 23 rfl rfl rfl rfl rfl (y_fieldR (n := 1) rfl s11 Try.underlying24 rfl (by kernel_rfl) (by decide) rfl ⟨rfl, rfl⟩) ?_
            refine wl_vw (.int .i64 (R)) 20 false 23 rfl rfl rfl rfl rfl (y_ld_stc rfl rfl Try.underlying3 B71 rfl rfl ⟨rfl, rfl⟩) ?_
            refine wl_vw (.bool false) 20 false 23 rfl rfl rfl rfl rfl (y_lss rfl rfl rfl (decide_eq_false d48) ⟨rfl, rfl⟩) ?_
            refine wl_v (.bool false) rfl rfl (y_pickF rfl rfl rfl ⟨rfl, rfl⟩) ?_
            refine wl_v (.bool false) rfl rfl (y_mov rfl rfl ⟨rfl, rfl⟩) ?_
            refine wl_vw (.pointer (some ⟨p1, 3, none⟩)) 27 false 30 rfl rfl rfl rfl rfl (y_fieldR (n := 1) rfl s11 Try.underlying24 rfl (by kernel_rfl) (by decide) rfl ⟨rfl, rfl⟩) ?_
            refine wl_vw (.int .i64 (B)) 27 false 30 rfl rfl rfl rfl rfl (y_ld_stc rfl rfl Try.underlying3 B71 rfl rfl ⟨rfl, rfl⟩) ?_
            refine wl_vw (.bool (decide ((1073741824) < (B)))) 27 false 30 rfl rfl rfl rfl rfl (y_gtr rfl rfl rfl rfl ⟨rfl, rfl⟩) ?_
            refine wl_v (.bool (decide ((1073741824) < (B)))) rfl rfl (y_pickF rfl rfl rfl ⟨rfl, rfl⟩) ?_
            refine wl_nil fun F73 hF74 => ?_
            have s75 : F73 35 = undef := (hF74 35).trans s10
            have s76 : F73 34 = .bool (decide ((1073741824) < (B))) := (hF74 34).trans rfl
            clear hF74
            refine then_normal ?_
            refine wq_cond s76 (fun c77 => ?_) (fun c77 => ?_)
            · replace c77 := of_decide_eq_true c77
              refine wq_seq ?_
              refine wq_region ?_
              refine wl_v (.int .i64 (110)) rfl rfl (y_asg rfl rfl ⟨rfl, rfl⟩) ?_
              refine wl_nil fun F78 hF79 => ?_
              have s80 : F78 35 = undef := (hF79 35).trans s75
              have s81 : F78 2 = .int .i64 (110) := (hF79 2).trans rfl
              clear hF79
              refine then_normal ?_
              refine wq_ret ?_
              refine then_ret ?_
              exact end_tmp (v := .int .i64 (110)) s80 rfl rfl s81 ⟨(by first | rw [show seqE W H R B = 0 from if_pos ⟨of_decide_eq_true (by assumption), of_decide_eq_true (by assumption), by omega, by omega, by omega, by omega⟩] | rw [show seqE W H R B = 110 from if_neg (by unfold seqOk; rintro ⟨h1, h2, h3, h4, h5, h6⟩; first | omega | (exact absurd h1 (of_decide_eq_false (by assumption))) | (exact absurd h2 (of_decide_eq_false (by assumption))) | (simp_all; done))]), K72⟩
            · replace c77 := of_decide_eq_false c77
              refine wq_skip ?_
              refine then_normal ?_
              refine wq_seq ?_
              refine wq_region ?_
              refine wl_v (.int .i64 (0)) rfl rfl (y_asg rfl rfl ⟨rfl, rfl⟩) ?_
              refine wl_nil fun F82 hF83 => ?_
              have s84 : F82 35 = undef := (hF83 35).trans s75
              have s85 : F82 2 = .int .i64 (0) := (hF83 2).trans rfl
              clear hF83
              refine then_normal ?_
              refine wq_ret ?_
              exact end_tmp (v := .int .i64 (0)) s84 rfl rfl s85 ⟨(by first | rw [show seqE W H R B = 0 from if_pos ⟨of_decide_eq_true (by assumption), of_decide_eq_true (by assumption), by omega, by omega, by omega, by omega⟩] | rw [show seqE W H R B = 110 from if_neg (by unfold seqOk; rintro ⟨h1, h2, h3, h4, h5, h6⟩; first | omega | (exact absurd h1 (of_decide_eq_false (by assumption))) | (exact absurd h2 (of_decide_eq_false (by assumption))) | (simp_all; done))]), K72⟩
    · skip
      refine wq_region ?_
      refine wl_v (.pointer (some ⟨p1, 0, none⟩)) rfl rfl (y_fieldR (n := 1) rfl s11 Try.underlying24 rfl (by kernel_rfl) (by decide) rfl ⟨rfl, rfl⟩) ?_
      refine wl_v (.int .i64 (W)) rfl rfl (y_ld_stc rfl rfl Try.underlying3 B4 rfl rfl ⟨rfl, rfl⟩) ?_
      refine wl_call (R := fun v_ w_ => v_ = .bool true ∧ Kept (fun _ => False) w2 w_) rfl rfl (y_cs rfl rfl rfl (fun _ _ => by kernel_rfl) (ev_func _) (vsC rfl vsN) (href_side (W)  _   ) (fun e_ w_ h_ => ⟨_, h_.1, (congrArg Value.bool d12), h_.2⟩)) ?_
      rintro _ w86 ⟨rfl, k87⟩
      have B88 := B4.all k87 id
      have K89 := K7.trans k87 (fun _ _ x => x.elim)
      refine wl_v (.bool false) rfl rfl (y_not rfl rfl rfl ⟨rfl, rfl⟩) ?_
      refine wl_v (.bool false) rfl rfl (y_mov rfl rfl ⟨rfl, rfl⟩) ?_
      refine wl_vw (.pointer (some ⟨p1, 1, none⟩)) 4 false 7 rfl rfl rfl rfl rfl (y_fieldR (n := 1) rfl s11 Try.underlying24 rfl (by kernel_rfl) (by decide) rfl ⟨rfl, rfl⟩) ?_
      refine wl_vw (.int .i64 (H)) 4 false 7 rfl rfl rfl rfl rfl (y_ld_stc rfl rfl Try.underlying3 B88 rfl rfl ⟨rfl, rfl⟩) ?_
      refine wl_callw (R := fun v_ w_ => v_ = .bool false ∧ Kept (fun _ => False) w86 w_) 4 false 7 rfl rfl rfl rfl rfl (y_cs rfl rfl rfl (fun _ _ => by kernel_rfl) (ev_func _) (vsC rfl vsN) (href_side (H)  _   ) (fun e_ w_ h_ => ⟨_, h_.1, (congrArg Value.bool d13), h_.2⟩)) ?_
      rintro _ w90 ⟨rfl, k91⟩
      have B92 := B88.all k91 id
      have K93 := K89.trans k91 (fun _ _ x => x.elim)
      refine wl_vw (.bool true) 4 false 7 rfl rfl rfl rfl rfl (y_not rfl rfl rfl ⟨rfl, rfl⟩) ?_
      refine wl_v (.bool true) rfl rfl (y_pickF rfl rfl rfl ⟨rfl, rfl⟩) ?_
      refine wl_v (.bool true) rfl rfl (y_mov rfl rfl ⟨rfl, rfl⟩) ?_
      refine wl_unless 10 false 13 rfl rfl rfl (Or.inl rfl) rfl ?_
      refine wl_unless 10 false 13 rfl rfl rfl (Or.inl rfl) rfl ?_
      refine wl_unless 10 false 13 rfl rfl rfl (Or.inl rfl) rfl ?_
      refine wl_v (.bool true) rfl rfl (y_pickT rfl rfl rfl ⟨rfl, rfl⟩) ?_
      refine wl_v (.bool true) rfl rfl (y_mov rfl rfl ⟨rfl, rfl⟩) ?_
      refine wl_unless 15 false 18 rfl rfl rfl (Or.inl rfl) rfl ?_
      refine wl_unless 15 false 18 rfl rfl rfl (Or.inl rfl) rfl ?_
      refine wl_unless 15 false 18 rfl rfl rfl (Or.inl rfl) rfl ?_
      refine wl_v (.bool true) rfl rfl (y_pickT rfl rfl rfl ⟨rfl, rfl⟩) ?_
      refine wl_v (.bool true) rfl rfl (y_mov rfl rfl ⟨rfl, rfl⟩) ?_
      refine wl_unless 20 false 23 rfl rfl rfl (Or.inl rfl) rfl ?_
      refine wl_unless 20 false 23 rfl rfl rfl (Or.inl rfl) rfl ?_
      refine wl_unless 20 false 23 rfl rfl rfl (Or.inl rfl) rfl ?_
      refine wl_unless 20 false 23 rfl rfl rfl (Or.inl rfl) rfl ?_
      refine wl_unless 20 false 23 rfl rfl rfl (Or.inl rfl) rfl ?_
      refine wl_v (.bool true) rfl rfl (y_pickT rfl rfl rfl ⟨rfl, rfl⟩) ?_
      refine wl_v (.bool true) rfl rfl (y_mov rfl rfl ⟨rfl, rfl⟩) ?_
      refine wl_unless 27 false 30 rfl rfl rfl (Or.inl rfl) rfl ?_
      refine wl_unless 27 false 30 rfl rfl rfl (Or.inl rfl) rfl ?_
      refine wl_unless 27 false 30 rfl rfl rfl (Or.inl rfl) rfl ?_
      refine wl_v (.bool true) rfl rfl (y_pickT rfl rfl rfl ⟨rfl, rfl⟩) ?_
      refine wl_nil fun F94 hF95 => ?_
      have s96 : F94 35 = undef := (hF95 35).trans s10
      have s97 : F94 34 = .bool true := (hF95 34).trans rfl
      clear hF95
      refine then_normal ?_
      refine wq_cond (t := true) s97 (fun _ => ?_) (fun e => by cases e)
      refine wq_seq ?_
      refine wq_region ?_
      refine wl_v (.int .i64 (110)) rfl rfl (y_asg rfl rfl ⟨rfl, rfl⟩) ?_
      refine wl_nil fun F98 hF99 => ?_
      have s100 : F98 35 = undef := (hF99 35).trans s96
      have s101 : F98 2 = .int .i64 (110) := (hF99 2).trans rfl
      clear hF99
      refine then_normal ?_
      refine wq_ret ?_
      refine then_ret ?_
      exact end_tmp (v := .int .i64 (110)) s100 rfl rfl s101 ⟨(by first | rw [show seqE W H R B = 0 from if_pos ⟨of_decide_eq_true (by assumption), of_decide_eq_true (by assumption), by omega, by omega, by omega, by omega⟩] | rw [show seqE W H R B = 110 from if_neg (by unfold seqOk; rintro ⟨h1, h2, h3, h4, h5, h6⟩; first | omega | (exact absurd h1 (of_decide_eq_false (by assumption))) | (exact absurd h2 (of_decide_eq_false (by assumption))) | (simp_all; done))]), K93⟩
  · skip
    refine wq_region ?_
    refine wl_v (.pointer (some ⟨p1, 0, none⟩)) rfl rfl (y_fieldR (n := 1) rfl s11 Try.underlying24 rfl (by kernel_rfl) (by decide) rfl ⟨rfl, rfl⟩) ?_
    refine wl_v (.int .i64 (W)) rfl rfl (y_ld_stc rfl rfl Try.underlying3 B4 rfl rfl ⟨rfl, rfl⟩) ?_
    refine wl_call (R := fun v_ w_ => v_ = .bool false ∧ Kept (fun _ => False) w2 w_) rfl rfl (y_cs rfl rfl rfl (fun _ _ => by kernel_rfl) (ev_func _) (vsC rfl vsN) (href_side (W)  _   ) (fun e_ w_ h_ => ⟨_, h_.1, (congrArg Value.bool d12), h_.2⟩)) ?_
    rintro _ w102 ⟨rfl, k103⟩
    have B104 := B4.all k103 id
    have K105 := K7.trans k103 (fun _ _ x => x.elim)
    refine wl_v (.bool true) rfl rfl (y_not rfl rfl rfl ⟨rfl, rfl⟩) ?_
    refine wl_v (.bool true) rfl rfl (y_mov rfl rfl ⟨rfl, rfl⟩) ?_
    refine wl_unless 4 false 7 rfl rfl rfl (Or.inl rfl) rfl ?_
    refine wl_unless 4 false 7 rfl rfl rfl (Or.inl rfl) rfl ?_
    refine wl_unless 4 false 7 rfl rfl rfl (Or.inl rfl) rfl ?_
    refine wl_unless 4 false 7 rfl rfl rfl (Or.inl rfl) rfl ?_
    refine wl_v (.bool true) rfl rfl (y_pickT rfl rfl rfl ⟨rfl, rfl⟩) ?_
    refine wl_v (.bool true) rfl rfl (y_mov rfl rfl ⟨rfl, rfl⟩) ?_
    refine wl_unless 10 false 13 rfl rfl rfl (Or.inl rfl) rfl ?_
    refine wl_unless 10 false 13 rfl rfl rfl (Or.inl rfl) rfl ?_
    refine wl_unless 10 false 13 rfl rfl rfl (Or.inl rfl) rfl ?_
    refine wl_v (.bool true) rfl rfl (y_pickT rfl rfl rfl ⟨rfl, rfl⟩) ?_
    refine wl_v (.bool true) rfl rfl (y_mov rfl rfl ⟨rfl, rfl⟩) ?_
    refine wl_unless 15 false 18 rfl rfl rfl (Or.inl rfl) rfl ?_
    refine wl_unless 15 false 18 rfl rfl rfl (Or.inl rfl) rfl ?_
    refine wl_unless 15 false 18 rfl rfl rfl (Or.inl rfl) rfl ?_
    refine wl_v (.bool true) rfl rfl (y_pickT rfl rfl rfl ⟨rfl, rfl⟩) ?_
    refine wl_v (.bool true) rfl rfl (y_mov rfl rfl ⟨rfl, rfl⟩) ?_
    refine wl_unless 20 false 23 rfl rfl rfl (Or.inl rfl) rfl ?_
    refine wl_unless 20 false 23 rfl rfl rfl (Or.inl rfl) rfl ?_
    refine wl_unless 20 false 23 rfl rfl rfl (Or.inl rfl) rfl ?_
    refine wl_unless 20 false 23 rfl rfl rfl (Or.inl rfl) rfl ?_
    refine wl_unless 20 false 23 rfl rfl rfl (Or.inl rfl) rfl ?_
    refine wl_v (.bool true) rfl rfl (y_pickT rfl rfl rfl ⟨rfl, rfl⟩) ?_
    refine wl_v (.bool true) rfl rfl (y_mov rfl rfl ⟨rfl, rfl⟩) ?_
    refine wl_unless 27 false 30 rfl rfl rfl (Or.inl rfl) rfl ?_
    refine wl_unless 27 false 30 rfl rfl rfl (Or.inl rfl) rfl ?_
    refine wl_unless 27 false 30 rfl rfl rfl (Or.inl rfl) rfl ?_
    refine wl_v (.bool true) rfl rfl (y_pickT rfl rfl rfl ⟨rfl, rfl⟩) ?_
    refine wl_nil fun F106 hF107 => ?_
    have s108 : F106 35 = undef := (hF107 35).trans s10
    have s109 : F106 34 = .bool true := (hF107 34).trans rfl
    clear hF107
    refine then_normal ?_
    refine wq_cond (t := true) s109 (fun _ => ?_) (fun e => by cases e)
    refine wq_seq ?_
    refine wq_region ?_
    refine wl_v (.int .i64 (110)) rfl rfl (y_asg rfl rfl ⟨rfl, rfl⟩) ?_
    refine wl_nil fun F110 hF111 => ?_
    have s112 : F110 35 = undef := (hF111 35).trans s108
    have s113 : F110 2 = .int .i64 (110) := (hF111 2).trans rfl
    clear hF111
    refine then_normal ?_
    refine wq_ret ?_
    refine then_ret ?_
    exact end_tmp (v := .int .i64 (110)) s112 rfl rfl s113 ⟨(by first | rw [show seqE W H R B = 0 from if_pos ⟨of_decide_eq_true (by assumption), of_decide_eq_true (by assumption), by omega, by omega, by omega, by omega⟩] | rw [show seqE W H R B = 110 from if_neg (by unfold seqOk; rintro ⟨h1, h2, h3, h4, h5, h6⟩; first | omega | (exact absurd h1 (of_decide_eq_false (by assumption))) | (exact absurd h2 (of_decide_eq_false (by assumption))) | (simp_all; done))]), K105⟩
set_option maxHeartbeats 4000000 in
set_option maxRecDepth 100000 in
theorem href_head (K Q D F : Int) (w0 : World) :
    Calls Try.prog 21 #[.agg #[.int .i64 (K), .int .i64 (Q), .int .i64 (D), .int .i64 (F)]] w0 fun e w' => e = .returned (.int .i64 (headE K Q D F)) ∧ Kept (fun _ => False) w0 w' := by
  refine calls_wq (args := [.agg #[.int .i64 (K), .int .i64 (Q), .int .i64 (D), .int .i64 (F)]]) 41 Try.func21 rfl rfl (Nat.le_of_ble_eq_true rfl) ?_
  have K0 := Kept.refl (fun _ => False) w0
  refine wq_seq ?_
  refine wq_region ?_
  refine wl_box_stc (vs := [.int .i64 (K), .int .i64 (Q), .int .i64 (D), .int .i64 (F)]) rfl rfl rfl rfl fun p1 w2 B4 g5 k3 => ?_
  have gr6 : Grew w0 noB (onB p1) := Grew.new K0 g5
  have K7 := K0.trans k3 (fun _ _ x => x.elim)
  refine wl_v (.int .i64 (0)) rfl rfl (y_asg rfl rfl ⟨rfl, rfl⟩) ?_
  refine wl_nil fun F8 hF9 => ?_
  have s10 : F8 41 = undef := (hF9 41).trans rfl
  have s11 : F8 1 = .pointer (some ⟨p1, 0, none⟩) := (hF9 1).trans rfl
  clear hF9
  refine then_normal ?_
  refine wq_seq ?_
  refine wq_seq ?_
  by_cases d12 : (K) < (0)
  · skip
    refine wq_region ?_
    refine wl_v (.pointer (some ⟨p1, 0, none⟩)) rfl rfl (y_fieldR (n := 1) rfl s11 Try.underlying26 rfl (by kernel_rfl) (by decide) rfl ⟨rfl, rfl⟩) ?_
    refine wl_v (.int .i64 (K)) rfl rfl (y_ld_stc rfl rfl Try.underlying3 B4 rfl rfl ⟨rfl, rfl⟩) ?_
    refine wl_v (.bool true) rfl rfl (y_lss rfl rfl rfl (decide_eq_true d12) ⟨rfl, rfl⟩) ?_
    refine wl_v (.bool true) rfl rfl (y_mov rfl rfl ⟨rfl, rfl⟩) ?_
    refine wl_unless 3 false 6 rfl rfl rfl (Or.inl rfl) rfl ?_
    refine wl_unless 3 false 6 rfl rfl rfl (Or.inl rfl) rfl ?_
    refine wl_unless 3 false 6 rfl rfl rfl (Or.inl rfl) rfl ?_
    refine wl_v (.bool true) rfl rfl (y_pickT rfl rfl rfl ⟨rfl, rfl⟩) ?_
    refine wl_v (.bool true) rfl rfl (y_mov rfl rfl ⟨rfl, rfl⟩) ?_
    refine wl_unless 8 false 11 rfl rfl rfl (Or.inl rfl) rfl ?_
    refine wl_unless 8 false 11 rfl rfl rfl (Or.inl rfl) rfl ?_
    refine wl_unless 8 false 11 rfl rfl rfl (Or.inl rfl) rfl ?_
    refine wl_v (.bool true) rfl rfl (y_pickT rfl rfl rfl ⟨rfl, rfl⟩) ?_
    refine wl_v (.bool true) rfl rfl (y_mov rfl rfl ⟨rfl, rfl⟩) ?_
    refine wl_unless 13 false 16 rfl rfl rfl (Or.inl rfl) rfl ?_
    refine wl_unless 13 false 16 rfl rfl rfl (Or.inl rfl) rfl ?_
    refine wl_unless 13 false 16 rfl rfl rfl (Or.inl rfl) rfl ?_
    refine wl_v (.bool true) rfl rfl (y_pickT rfl rfl rfl ⟨rfl, rfl⟩) ?_
    refine wl_v (.bool true) rfl rfl (y_mov rfl rfl ⟨rfl, rfl⟩) ?_
    refine wl_unless 18 false 21 rfl rfl rfl (Or.inl rfl) rfl ?_
    refine wl_unless 18 false 21 rfl rfl rfl (Or.inl rfl) rfl ?_
    refine wl_unless 18 false 21 rfl rfl rfl (Or.inl rfl) rfl ?_
    refine wl_v (.bool true) rfl rfl (y_pickT rfl rfl rfl ⟨rfl, rfl⟩) ?_
    refine wl_v (.bool true) rfl rfl (y_mov rfl rfl ⟨rfl, rfl⟩) ?_
    refine wl_unless 23 false 26 rfl rfl rfl (Or.inl rfl) rfl ?_
    refine wl_unless 23 false 26 rfl rfl rfl (Or.inl rfl) rfl ?_
    refine wl_unless 23 false 26 rfl rfl rfl (Or.inl rfl) rfl ?_
    refine wl_v (.bool true) rfl rfl (y_pickT rfl rfl rfl ⟨rfl, rfl⟩) ?_
    refine wl_v (.bool true) rfl rfl (y_mov rfl rfl ⟨rfl, rfl⟩) ?_
    refine wl_unless 28 false 31 rfl rfl rfl (Or.inl rfl) rfl ?_
    refine wl_unless 28 false 31 rfl rfl rfl (Or.inl rfl) rfl ?_
    refine wl_unless 28 false 31 rfl rfl rfl (Or.inl rfl) rfl ?_
    refine wl_v (.bool true) rfl rfl (y_pickT rfl rfl rfl ⟨rfl, rfl⟩) ?_
    refine wl_v (.bool true) rfl rfl (y_mov rfl rfl ⟨rfl, rfl⟩) ?_
    refine wl_unless 33 false 36 rfl rfl rfl (Or.inl rfl) rfl ?_
    refine wl_unless 33 false 36 rfl rfl rfl (Or.inl rfl) rfl ?_
    refine wl_unless 33 false 36 rfl rfl rfl (Or.inl rfl) rfl ?_
    refine wl_v (.bool true) rfl rfl (y_pickT rfl rfl rfl ⟨rfl, rfl⟩) ?_
    refine wl_nil fun F13 hF14 => ?_
    have s15 : F13 41 = undef := (hF14 41).trans s10
    have s16 : F13 40 = .bool true := (hF14 40).trans rfl
    clear hF14
    refine then_normal ?_
    refine wq_cond (t := true) s16 (fun _ => ?_) (fun e => by cases e)
    refine wq_seq ?_
    refine wq_region ?_
    refine wl_v (.int .i64 (110)) rfl rfl (y_asg rfl rfl ⟨rfl, rfl⟩) ?_
    refine wl_nil fun F17 hF18 => ?_
    have s19 : F17 41 = undef := (hF18 41).trans s15
    have s20 : F17 2 = .int .i64 (110) := (hF18 2).trans rfl
    clear hF18
    refine then_normal ?_
    refine wq_ret ?_
    refine then_ret ?_
    exact end_tmp (v := .int .i64 (110)) s19 rfl rfl s20 ⟨(by first | rw [show headE K Q D F = 0 from if_pos (by unfold headOk; omega)] | rw [show headE K Q D F = 110 from if_neg (by unfold headOk; omega)]), K7⟩
  · skip
    by_cases d21 : (2) < (K)
    · skip
      refine wq_region ?_
      refine wl_v (.pointer (some ⟨p1, 0, none⟩)) rfl rfl (y_fieldR (n := 1) rfl s11 Try.underlying26 rfl (by kernel_rfl) (by decide) rfl ⟨rfl, rfl⟩) ?_
      refine wl_v (.int .i64 (K)) rfl rfl (y_ld_stc rfl rfl Try.underlying3 B4 rfl rfl ⟨rfl, rfl⟩) ?_
      refine wl_v (.bool false) rfl rfl (y_lss rfl rfl rfl (decide_eq_false d12) ⟨rfl, rfl⟩) ?_
      refine wl_v (.bool false) rfl rfl (y_mov rfl rfl ⟨rfl, rfl⟩) ?_
      refine wl_vw (.pointer (some ⟨p1, 0, none⟩)) 3 false 6 rfl rfl rfl rfl rfl (y_fieldR (n := 1) rfl s11 Try.underlying26 rfl (by kernel_rfl) (by decide) rfl ⟨rfl, rfl⟩) ?_
      refine wl_vw (.int .i64 (K)) 3 false 6 rfl rfl rfl rfl rfl (y_ld_stc rfl rfl Try.underlying3 B4 rfl rfl ⟨rfl, rfl⟩) ?_
      refine wl_vw (.bool true) 3 false 6 rfl rfl rfl rfl rfl (y_gtr rfl rfl rfl (decide_eq_true d21) ⟨rfl, rfl⟩) ?_
      refine wl_v (.bool true) rfl rfl (y_pickF rfl rfl rfl ⟨rfl, rfl⟩) ?_
      refine wl_v (.bool true) rfl rfl (y_mov rfl rfl ⟨rfl, rfl⟩) ?_
      refine wl_unless 8 false 11 rfl rfl rfl (Or.inl rfl) rfl ?_
      refine wl_unless 8 false 11 rfl rfl rfl (Or.inl rfl) rfl ?_
      refine wl_unless 8 false 11 rfl rfl rfl (Or.inl rfl) rfl ?_
      refine wl_v (.bool true) rfl rfl (y_pickT rfl rfl rfl ⟨rfl, rfl⟩) ?_
      refine wl_v (.bool true) rfl rfl (y_mov rfl rfl ⟨rfl, rfl⟩) ?_
      refine wl_unless 13 false 16 rfl rfl rfl (Or.inl rfl) rfl ?_
      refine wl_unless 13 false 16 rfl rfl rfl (Or.inl rfl) rfl ?_
      refine wl_unless 13 false 16 rfl rfl rfl (Or.inl rfl) rfl ?_
      refine wl_v (.bool true) rfl rfl (y_pickT rfl rfl rfl ⟨rfl, rfl⟩) ?_
      refine wl_v (.bool true) rfl rfl (y_mov rfl rfl ⟨rfl, rfl⟩) ?_
      refine wl_unless 18 false 21 rfl rfl rfl (Or.inl rfl) rfl ?_
      refine wl_unless 18 false 21 rfl rfl rfl (Or.inl rfl) rfl ?_
      refine wl_unless 18 false 21 rfl rfl rfl (Or.inl rfl) rfl ?_
      refine wl_v (.bool true) rfl rfl (y_pickT rfl rfl rfl ⟨rfl, rfl⟩) ?_
      refine wl_v (.bool true) rfl rfl (y_mov rfl rfl ⟨rfl, rfl⟩) ?_
      refine wl_unless 23 false 26 rfl rfl rfl (Or.inl rfl) rfl ?_
      refine wl_unless 23 false 26 rfl rfl rfl (Or.inl rfl) rfl ?_
      refine wl_unless 23 false 26 rfl rfl rfl (Or.inl rfl) rfl ?_
      refine wl_v (.bool true) rfl rfl (y_pickT rfl rfl rfl ⟨rfl, rfl⟩) ?_
      refine wl_v (.bool true) rfl rfl (y_mov rfl rfl ⟨rfl, rfl⟩) ?_
      refine wl_unless 28 false 31 rfl rfl rfl (Or.inl rfl) rfl ?_
      refine wl_unless 28 false 31 rfl rfl rfl (Or.inl rfl) rfl ?_
      refine wl_unless 28 false 31 rfl rfl rfl (Or.inl rfl) rfl ?_
      refine wl_v (.bool true) rfl rfl (y_pickT rfl rfl rfl ⟨rfl, rfl⟩) ?_
      refine wl_v (.bool true) rfl rfl (y_mov rfl rfl ⟨rfl, rfl⟩) ?_
      refine wl_unless 33 false 36 rfl rfl rfl (Or.inl rfl) rfl ?_
      refine wl_unless 33 false 36 rfl rfl rfl (Or.inl rfl) rfl ?_
      refine wl_unless 33 false 36 rfl rfl rfl (Or.inl rfl) rfl ?_
      refine wl_v (.bool true) rfl rfl (y_pickT rfl rfl rfl ⟨rfl, rfl⟩) ?_
      refine wl_nil fun F22 hF23 => ?_
      have s24 : F22 41 = undef := (hF23 41).trans s10
      have s25 : F22 40 = .bool true := (hF23 40).trans rfl
      clear hF23
      refine then_normal ?_
      refine wq_cond (t := true) s25 (fun _ => ?_) (fun e => by cases e)
      refine wq_seq ?_
      refine wq_region ?_
      refine wl_v (.int .i64 (110)) rfl rfl (y_asg rfl rfl ⟨rfl, rfl⟩) ?_
      refine wl_nil fun F26 hF27 => ?_
      have s28 : F26 41 = undef := (hF27 41).trans s24
      have s29 : F26 2 = .int .i64 (110) := (hF27 2).trans rfl
      clear hF27
      refine then_normal ?_
      refine wq_ret ?_
      refine then_ret ?_
      exact end_tmp (v := .int .i64 (110)) s28 rfl rfl s29 ⟨(by first | rw [show headE K Q D F = 0 from if_pos (by unfold headOk; omega)] | rw [show headE K Q D F = 110 from if_neg (by unfold headOk; omega)]), K7⟩
    · skip
      by_cases d30 : (Q) < (0)
      · skip
        refine wq_region ?_
        refine wl_v (.pointer (some ⟨p1, 0, none⟩)) rfl rfl (y_fieldR (n := 1) rfl s11 Try.underlying26 rfl (by kernel_rfl) (by decide) rfl ⟨rfl, rfl⟩) ?_
        refine wl_v (.int .i64 (K)) rfl rfl (y_ld_stc rfl rfl Try.underlying3 B4 rfl rfl ⟨rfl, rfl⟩) ?_
        refine wl_v (.bool false) rfl rfl (y_lss rfl rfl rfl (decide_eq_false d12) ⟨rfl, rfl⟩) ?_
        refine wl_v (.bool false) rfl rfl (y_mov rfl rfl ⟨rfl, rfl⟩) ?_
        refine wl_vw (.pointer (some ⟨p1, 0, none⟩)) 3 false 6 rfl rfl rfl rfl rfl (y_fieldR (n := 1) rfl s11 Try.underlying26 rfl (by kernel_rfl) (by decide) rfl ⟨rfl, rfl⟩) ?_
        refine wl_vw (.int .i64 (K)) 3 false 6 rfl rfl rfl rfl rfl (y_ld_stc rfl rfl Try.underlying3 B4 rfl rfl ⟨rfl, rfl⟩) ?_
        refine wl_vw (.bool false) 3 false 6 rfl rfl rfl rfl rfl (y_gtr rfl rfl rfl (decide_eq_false d21) ⟨rfl, rfl⟩) ?_
        refine wl_v (.bool false) rfl rfl (y_pickF rfl rfl rfl ⟨rfl, rfl⟩) ?_
        refine wl_v (.bool false) rfl rfl (y_mov rfl rfl ⟨rfl, rfl⟩) ?_
        refine wl_vw (.pointer (some ⟨p1, 1, none⟩)) 8 false 11 rfl rfl rfl rfl rfl (y_fieldR (n := 1) rfl s11 Try.underlying26 rfl (by kernel_rfl) (by decide) rfl ⟨rfl, rfl⟩) ?_
        refine wl_vw (.int .i64 (Q)) 8 false 11 rfl rfl rfl rfl rfl (y_ld_stc rfl rfl Try.underlying3 B4 rfl rfl ⟨rfl, rfl⟩) ?_
        refine wl_vw (.bool true) 8 false 11 rfl rfl rfl rfl rfl (y_lss rfl rfl rfl (decide_eq_true d30) ⟨rfl, rfl⟩) ?_
        refine wl_v (.bool true) rfl rfl (y_pickF rfl rfl rfl ⟨rfl, rfl⟩) ?_
        refine wl_v (.bool true) rfl rfl (y_mov rfl rfl ⟨rfl, rfl⟩) ?_
        refine wl_unless 13 false 16 rfl rfl rfl (Or.inl rfl) rfl ?_
        refine wl_unless 13 false 16 rfl rfl rfl (Or.inl rfl) rfl ?_
        refine wl_unless 13 false 16 rfl rfl rfl (Or.inl rfl) rfl ?_
        refine wl_v (.bool true) rfl rfl (y_pickT rfl rfl rfl ⟨rfl, rfl⟩) ?_
        refine wl_v (.bool true) rfl rfl (y_mov rfl rfl ⟨rfl, rfl⟩) ?_
        refine wl_unless 18 false 21 rfl rfl rfl (Or.inl rfl) rfl ?_
        refine wl_unless 18 false 21 rfl rfl rfl (Or.inl rfl) rfl ?_
        refine wl_unless 18 false 21 rfl rfl rfl (Or.inl rfl) rfl ?_
        refine wl_v (.bool true) rfl rfl (y_pickT rfl rfl rfl ⟨rfl, rfl⟩) ?_
        refine wl_v (.bool true) rfl rfl (y_mov rfl rfl ⟨rfl, rfl⟩) ?_
        refine wl_unless 23 false 26 rfl rfl rfl (Or.inl rfl) rfl ?_
        refine wl_unless 23 false 26 rfl rfl rfl (Or.inl rfl) rfl ?_
        refine wl_unless 23 false 26 rfl rfl rfl (Or.inl rfl) rfl ?_
        refine wl_v (.bool true) rfl rfl (y_pickT rfl rfl rfl ⟨rfl, rfl⟩) ?_
        refine wl_v (.bool true) rfl rfl (y_mov rfl rfl ⟨rfl, rfl⟩) ?_
        refine wl_unless 28 false 31 rfl rfl rfl (Or.inl rfl) rfl ?_
        refine wl_unless 28 false 31 rfl rfl rfl (Or.inl rfl) rfl ?_
        refine wl_unless 28 false 31 rfl rfl rfl (Or.inl rfl) rfl ?_
        refine wl_v (.bool true) rfl rfl (y_pickT rfl rfl rfl ⟨rfl, rfl⟩) ?_
        refine wl_v (.bool true) rfl rfl (y_mov rfl rfl ⟨rfl, rfl⟩) ?_
        refine wl_unless 33 false 36 rfl rfl rfl (Or.inl rfl) rfl ?_
        refine wl_unless 33 false 36 rfl rfl rfl (Or.inl rfl) rfl ?_
        refine wl_unless 33 false 36 rfl rfl rfl (Or.inl rfl) rfl ?_
        refine wl_v (.bool true) rfl rfl (y_pickT rfl rfl rfl ⟨rfl, rfl⟩) ?_
        refine wl_nil fun F31 hF32 => ?_
        have s33 : F31 41 = undef := (hF32 41).trans s10
        have s34 : F31 40 = .bool true := (hF32 40).trans rfl
        clear hF32
        refine then_normal ?_
        refine wq_cond (t := true) s34 (fun _ => ?_) (fun e => by cases e)
        refine wq_seq ?_
        refine wq_region ?_
        refine wl_v (.int .i64 (110)) rfl rfl (y_asg rfl rfl ⟨rfl, rfl⟩) ?_
        refine wl_nil fun F35 hF36 => ?_
        have s37 : F35 41 = undef := (hF36 41).trans s33
        have s38 : F35 2 = .int .i64 (110) := (hF36 2).trans rfl
        clear hF36
        refine then_normal ?_
        refine wq_ret ?_
        refine then_ret ?_
        exact end_tmp (v := .int .i64 (110)) s37 rfl rfl s38 ⟨(by first | rw [show headE K Q D F = 0 from if_pos (by unfold headOk; omega)] | rw [show headE K Q D F = 110 from if_neg (by unfold headOk; omega)]), K7⟩
      · skip
        by_cases d39 : (20) < (Q)
        · skip
          refine wq_region ?_
          refine wl_v (.pointer (some ⟨p1, 0, none⟩)) rfl rfl (y_fieldR (n := 1) rfl s11 Try.underlying26 rfl (by kernel_rfl) (by decide) rfl ⟨rfl, rfl⟩) ?_
          refine wl_v (.int .i64 (K)) rfl rfl (y_ld_stc rfl rfl Try.underlying3 B4 rfl rfl ⟨rfl, rfl⟩) ?_
          refine wl_v (.bool false) rfl rfl (y_lss rfl rfl rfl (decide_eq_false d12) ⟨rfl, rfl⟩) ?_
          refine wl_v (.bool false) rfl rfl (y_mov rfl rfl ⟨rfl, rfl⟩) ?_
          refine wl_vw (.pointer (some ⟨p1, 0, none⟩)) 3 false 6 rfl rfl rfl rfl rfl (y_fieldR (n := 1) rfl s11 Try.underlying26 rfl (by kernel_rfl) (by decide) rfl ⟨rfl, rfl⟩) ?_
          refine wl_vw (.int .i64 (K)) 3 false 6 rfl rfl rfl rfl rfl (y_ld_stc rfl rfl Try.underlying3 B4 rfl rfl ⟨rfl, rfl⟩) ?_
          refine wl_vw (.bool false) 3 false 6 rfl rfl rfl rfl rfl (y_gtr rfl rfl rfl (decide_eq_false d21) ⟨rfl, rfl⟩) ?_
          refine wl_v (.bool false) rfl rfl (y_pickF rfl rfl rfl ⟨rfl, rfl⟩) ?_
          refine wl_v (.bool false) rfl rfl (y_mov rfl rfl ⟨rfl, rfl⟩) ?_
          refine wl_vw (.pointer (some ⟨p1, 1, none⟩)) 8 false 11 rfl rfl rfl rfl rfl (y_fieldR (n := 1) rfl s11 Try.underlying26 rfl (by kernel_rfl) (by decide) rfl ⟨rfl, rfl⟩) ?_
          refine wl_vw (.int .i64 (Q)) 8 false 11 rfl rfl rfl rfl rfl (y_ld_stc rfl rfl Try.underlying3 B4 rfl rfl ⟨rfl, rfl⟩) ?_
          refine wl_vw (.bool false) 8 false 11 rfl rfl rfl rfl rfl (y_lss rfl rfl rfl (decide_eq_false d30) ⟨rfl, rfl⟩) ?_
          refine wl_v (.bool false) rfl rfl (y_pickF rfl rfl rfl ⟨rfl, rfl⟩) ?_
          refine wl_v (.bool false) rfl rfl (y_mov rfl rfl ⟨rfl, rfl⟩) ?_
          refine wl_vw (.pointer (some ⟨p1, 1, none⟩)) 13 false 16 rfl rfl rfl rfl rfl (y_fieldR (n := 1) rfl s11 Try.underlying26 rfl (by kernel_rfl) (by decide) rfl ⟨rfl, rfl⟩) ?_
          refine wl_vw (.int .i64 (Q)) 13 false 16 rfl rfl rfl rfl rfl (y_ld_stc rfl rfl Try.underlying3 B4 rfl rfl ⟨rfl, rfl⟩) ?_
          refine wl_vw (.bool true) 13 false 16 rfl rfl rfl rfl rfl (y_gtr rfl rfl rfl (decide_eq_true d39) ⟨rfl, rfl⟩) ?_
          refine wl_v (.bool true) rfl rfl (y_pickF rfl rfl rfl ⟨rfl, rfl⟩) ?_
          refine wl_v (.bool true) rfl rfl (y_mov rfl rfl ⟨rfl, rfl⟩) ?_
          refine wl_unless 18 false 21 rfl rfl rfl (Or.inl rfl) rfl ?_
          refine wl_unless 18 false 21 rfl rfl rfl (Or.inl rfl) rfl ?_
          refine wl_unless 18 false 21 rfl rfl rfl (Or.inl rfl) rfl ?_
          refine wl_v (.bool true) rfl rfl (y_pickT rfl rfl rfl ⟨rfl, rfl⟩) ?_
          refine wl_v (.bool true) rfl rfl (y_mov rfl rfl ⟨rfl, rfl⟩) ?_
          refine wl_unless 23 false 26 rfl rfl rfl (Or.inl rfl) rfl ?_
          refine wl_unless 23 false 26 rfl rfl rfl (Or.inl rfl) rfl ?_
          refine wl_unless 23 false 26 rfl rfl rfl (Or.inl rfl) rfl ?_
          refine wl_v (.bool true) rfl rfl (y_pickT rfl rfl rfl ⟨rfl, rfl⟩) ?_
          refine wl_v (.bool true) rfl rfl (y_mov rfl rfl ⟨rfl, rfl⟩) ?_
          refine wl_unless 28 false 31 rfl rfl rfl (Or.inl rfl) rfl ?_
          refine wl_unless 28 false 31 rfl rfl rfl (Or.inl rfl) rfl ?_
          refine wl_unless 28 false 31 rfl rfl rfl (Or.inl rfl) rfl ?_
          refine wl_v (.bool true) rfl rfl (y_pickT rfl rfl rfl ⟨rfl, rfl⟩) ?_
          refine wl_v (.bool true) rfl rfl (y_mov rfl rfl ⟨rfl, rfl⟩) ?_
          refine wl_unless 33 false 36 rfl rfl rfl (Or.inl rfl) rfl ?_
          refine wl_unless 33 false 36 rfl rfl rfl (Or.inl rfl) rfl ?_
          refine wl_unless 33 false 36 rfl rfl rfl (Or.inl rfl) rfl ?_
          refine wl_v (.bool true) rfl rfl (y_pickT rfl rfl rfl ⟨rfl, rfl⟩) ?_
          refine wl_nil fun F40 hF41 => ?_
          have s42 : F40 41 = undef := (hF41 41).trans s10
          have s43 : F40 40 = .bool true := (hF41 40).trans rfl
          clear hF41
          refine then_normal ?_
          refine wq_cond (t := true) s43 (fun _ => ?_) (fun e => by cases e)
          refine wq_seq ?_
          refine wq_region ?_
          refine wl_v (.int .i64 (110)) rfl rfl (y_asg rfl rfl ⟨rfl, rfl⟩) ?_
          refine wl_nil fun F44 hF45 => ?_
          have s46 : F44 41 = undef := (hF45 41).trans s42
          have s47 : F44 2 = .int .i64 (110) := (hF45 2).trans rfl
          clear hF45
          refine then_normal ?_
          refine wq_ret ?_
          refine then_ret ?_
          exact end_tmp (v := .int .i64 (110)) s46 rfl rfl s47 ⟨(by first | rw [show headE K Q D F = 0 from if_pos (by unfold headOk; omega)] | rw [show headE K Q D F = 110 from if_neg (by unfold headOk; omega)]), K7⟩
        · skip
          by_cases d48 : (D) < (0)
          · skip
            refine wq_region ?_
            refine wl_v (.pointer (some ⟨p1, 0, none⟩)) rfl rfl (y_fieldR (n := 1) rfl s11 Try.underlying26 rfl (by kernel_rfl) (by decide) rfl ⟨rfl, rfl⟩) ?_
            refine wl_v (.int .i64 (K)) rfl rfl (y_ld_stc rfl rfl Try.underlying3 B4 rfl rfl ⟨rfl, rfl⟩) ?_
            refine wl_v (.bool false) rfl rfl (y_lss rfl rfl rfl (decide_eq_false d12) ⟨rfl, rfl⟩) ?_
            refine wl_v (.bool false) rfl rfl (y_mov rfl rfl ⟨rfl, rfl⟩) ?_
            refine wl_vw (.pointer (some ⟨p1, 0, none⟩)) 3 false 6 rfl rfl rfl rfl rfl (y_fieldR (n := 1) rfl s11 Try.underlying26 rfl (by kernel_rfl) (by decide) rfl ⟨rfl, rfl⟩) ?_
            refine wl_vw (.int .i64 (K)) 3 false 6 rfl rfl rfl rfl rfl (y_ld_stc rfl rfl Try.underlying3 B4 rfl rfl ⟨rfl, rfl⟩) ?_
            refine wl_vw (.bool false) 3 false 6 rfl rfl rfl rfl rfl (y_gtr rfl rfl rfl (decide_eq_false d21) ⟨rfl, rfl⟩) ?_
            refine wl_v (.bool false) rfl rfl (y_pickF rfl rfl rfl ⟨rfl, rfl⟩) ?_
            refine wl_v (.bool false) rfl rfl (y_mov rfl rfl ⟨rfl, rfl⟩) ?_
            refine wl_vw (.pointer (some ⟨p1, 1, none⟩)) 8 false 11 rfl rfl rfl rfl rfl (y_fieldR (n := 1) rfl s11 Try.underlying26 rfl (by kernel_rfl) (by decide) rfl ⟨rfl, rfl⟩) ?_
            refine wl_vw (.int .i64 (Q)) 8 false 11 rfl rfl rfl rfl rfl (y_ld_stc rfl rfl Try.underlying3 B4 rfl rfl ⟨rfl, rfl⟩) ?_
            refine wl_vw (.bool false) 8 false 11 rfl rfl rfl rfl rfl (y_lss rfl rfl rfl (decide_eq_false d30) ⟨rfl, rfl⟩) ?_
            refine wl_v (.bool false) rfl rfl (y_pickF rfl rfl rfl ⟨rfl, rfl⟩) ?_
            refine wl_v (.bool false) rfl rfl (y_mov rfl rfl ⟨rfl, rfl⟩) ?_
            refine wl_vw (.pointer (some ⟨p1, 1, none⟩)) 13 false 16 rfl rfl rfl rfl rfl (y_fieldR (n := 1) rfl s11 Try.underlying26 rfl (by kernel_rfl) (by decide) rfl ⟨rfl, rfl⟩) ?_
            refine wl_vw (.int .i64 (Q)) 13 false 16 rfl rfl rfl rfl rfl (y_ld_stc rfl rfl Try.underlying3 B4 rfl rfl ⟨rfl, rfl⟩) ?_
            refine wl_vw (.bool false) 13 false 16 rfl rfl rfl rfl rfl (y_gtr rfl rfl rfl (decide_eq_false d39) ⟨rfl, rfl⟩) ?_
            refine wl_v (.bool false) rfl rfl (y_pickF rfl rfl rfl ⟨rfl, rfl⟩) ?_
            refine wl_v (.bool false) rfl rfl (y_mov rfl rfl ⟨rfl, rfl⟩) ?_
            refine wl_vw (.pointer (some ⟨p1, 2, none⟩)) 18 false 21 rfl rfl rfl rfl rfl (y_fieldR (n := 1) rfl s11 Try.underlying26 rfl (by kernel_rfl) (by decide) rfl ⟨rfl, rfl⟩) ?_
            refine wl_vw (.int .i64 (D)) 18 false 21 rfl rfl rfl rfl rfl (y_ld_stc rfl rfl Try.underlying3 B4 rfl rfl ⟨rfl, rfl⟩) ?_
            refine wl_vw (.bool true) 18 false 21 rfl rfl rfl rfl rfl (y_lss rfl rfl rfl (decide_eq_true d48) ⟨rfl, rfl⟩) ?_
            refine wl_v (.bool true) rfl rfl (y_pickF rfl rfl rfl ⟨rfl, rfl⟩) ?_
            refine wl_v (.bool true) rfl rfl (y_mov rfl rfl ⟨rfl, rfl⟩) ?_
            refine wl_unless 23 false 26 rfl rfl rfl (Or.inl rfl) rfl ?_
            refine wl_unless 23 false 26 rfl rfl rfl (Or.inl rfl) rfl ?_
            refine wl_unless 23 false 26 rfl rfl rfl (Or.inl rfl) rfl ?_
            refine wl_v (.bool true) rfl rfl (y_pickT rfl rfl rfl ⟨rfl, rfl⟩) ?_
            refine wl_v (.bool true) rfl rfl (y_mov rfl rfl ⟨rfl, rfl⟩) ?_
            refine wl_unless 28 false 31 rfl rfl rfl (Or.inl rfl) rfl ?_
            refine wl_unless 28 false 31 rfl rfl rfl (Or.inl rfl) rfl ?_
            refine wl_unless 28 false 31 rfl rfl rfl (Or.inl rfl) rfl ?_
            refine wl_v (.bool true) rfl rfl (y_pickT rfl rfl rfl ⟨rfl, rfl⟩) ?_
            refine wl_v (.bool true) rfl rfl (y_mov rfl rfl ⟨rfl, rfl⟩) ?_
            refine wl_unless 33 false 36 rfl rfl rfl (Or.inl rfl) rfl ?_
            refine wl_unless 33 false 36 rfl rfl rfl (Or.inl rfl) rfl ?_
            refine wl_unless 33 false 36 rfl rfl rfl (Or.inl rfl) rfl ?_
            refine wl_v (.bool true) rfl rfl (y_pickT rfl rfl rfl ⟨rfl, rfl⟩) ?_
            refine wl_nil fun F49 hF50 => ?_
            have s51 : F49 41 = undef := (hF50 41).trans s10
            have s52 : F49 40 = .bool true := (hF50 40).trans rfl
            clear hF50
            refine then_normal ?_
            refine wq_cond (t := true) s52 (fun _ => ?_) (fun e => by cases e)
            refine wq_seq ?_
            refine wq_region ?_
            refine wl_v (.int .i64 (110)) rfl rfl (y_asg rfl rfl ⟨rfl, rfl⟩) ?_
            refine wl_nil fun F53 hF54 => ?_
            have s55 : F53 41 = undef := (hF54 41).trans s51
            have s56 : F53 2 = .int .i64 (110) := (hF54 2).trans rfl
            clear hF54
            refine then_normal ?_
            refine wq_ret ?_
            refine then_ret ?_
            exact end_tmp (v := .int .i64 (110)) s55 rfl rfl s56 ⟨(by first | rw [show headE K Q D F = 0 from if_pos (by unfold headOk; omega)] | rw [show headE K Q D F = 110 from if_neg (by unfold headOk; omega)]), K7⟩
          · skip
            by_cases d57 : (16777216) ≤ (D)
            · skip
              refine wq_region ?_
              refine wl_v (.pointer (some ⟨p1, 0, none⟩)) rfl rfl (y_fieldR (n := 1) rfl s11 Try.underlying26 rfl (by kernel_rfl) (by decide) rfl ⟨rfl, rfl⟩) ?_
              refine wl_v (.int .i64 (K)) rfl rfl (y_ld_stc rfl rfl Try.underlying3 B4 rfl rfl ⟨rfl, rfl⟩) ?_
              refine wl_v (.bool false) rfl rfl (y_lss rfl rfl rfl (decide_eq_false d12) ⟨rfl, rfl⟩) ?_
              refine wl_v (.bool false) rfl rfl (y_mov rfl rfl ⟨rfl, rfl⟩) ?_
              refine wl_vw (.pointer (some ⟨p1, 0, none⟩)) 3 false 6 rfl rfl rfl rfl rfl (y_fieldR (n := 1) rfl s11 Try.underlying26 rfl (by kernel_rfl) (by decide) rfl ⟨rfl, rfl⟩) ?_
              refine wl_vw (.int .i64 (K)) 3 false 6 rfl rfl rfl rfl rfl (y_ld_stc rfl rfl Try.underlying3 B4 rfl rfl ⟨rfl, rfl⟩) ?_
              refine wl_vw (.bool false) 3 false 6 rfl rfl rfl rfl rfl (y_gtr rfl rfl rfl (decide_eq_false d21) ⟨rfl, rfl⟩) ?_
              refine wl_v (.bool false) rfl rfl (y_pickF rfl rfl rfl ⟨rfl, rfl⟩) ?_
              refine wl_v (.bool false) rfl rfl (y_mov rfl rfl ⟨rfl, rfl⟩) ?_
              refine wl_vw (.pointer (some ⟨p1, 1, none⟩)) 8 false 11 rfl rfl rfl rfl rfl (y_fieldR (n := 1) rfl s11 Try.underlying26 rfl (by kernel_rfl) (by decide) rfl ⟨rfl, rfl⟩) ?_
              refine wl_vw (.int .i64 (Q)) 8 false 11 rfl rfl rfl rfl rfl (y_ld_stc rfl rfl Try.underlying3 B4 rfl rfl ⟨rfl, rfl⟩) ?_
              refine wl_vw (.bool false) 8 false 11 rfl rfl rfl rfl rfl (y_lss rfl rfl rfl (decide_eq_false d30) ⟨rfl, rfl⟩) ?_
              refine wl_v (.bool false) rfl rfl (y_pickF rfl rfl rfl ⟨rfl, rfl⟩) ?_
              refine wl_v (.bool false) rfl rfl (y_mov rfl rfl ⟨rfl, rfl⟩) ?_
              refine wl_vw (.pointer (some ⟨p1, 1, none⟩)) 13 false 16 rfl rfl rfl rfl rfl (y_fieldR (n := 1) rfl s11 Try.underlying26 rfl (by kernel_rfl) (by decide) rfl ⟨rfl, rfl⟩) ?_
              refine wl_vw (.int .i64 (Q)) 13 false 16 rfl rfl rfl rfl rfl (y_ld_stc rfl rfl Try.underlying3 B4 rfl rfl ⟨rfl, rfl⟩) ?_
              refine wl_vw (.bool false) 13 false 16 rfl rfl rfl rfl rfl (y_gtr rfl rfl rfl (decide_eq_false d39) ⟨rfl, rfl⟩) ?_
              refine wl_v (.bool false) rfl rfl (y_pickF rfl rfl rfl ⟨rfl, rfl⟩) ?_
              refine wl_v (.bool false) rfl rfl (y_mov rfl rfl ⟨rfl, rfl⟩) ?_
              refine wl_vw (.pointer (some ⟨p1, 2, none⟩)) 18 false 21 rfl rfl rfl rfl rfl (y_fieldR (n := 1) rfl s11 Try.underlying26 rfl (by kernel_rfl) (by decide) rfl ⟨rfl, rfl⟩) ?_
              refine wl_vw (.int .i64 (D)) 18 false 21 rfl rfl rfl rfl rfl (y_ld_stc rfl rfl Try.underlying3 B4 rfl rfl ⟨rfl, rfl⟩) ?_
              refine wl_vw (.bool false) 18 false 21 rfl rfl rfl rfl rfl (y_lss rfl rfl rfl (decide_eq_false d48) ⟨rfl, rfl⟩) ?_
              refine wl_v (.bool false) rfl rfl (y_pickF rfl rfl rfl ⟨rfl, rfl⟩) ?_
              refine wl_v (.bool false) rfl rfl (y_mov rfl rfl ⟨rfl, rfl⟩) ?_
              refine wl_vw (.pointer (some ⟨p1, 2, none⟩)) 23 false 26 rfl rfl rfl rfl rfl (y_fieldR (n := 1) rfl s11 Try.underlying26 rfl (by kernel_rfl) (by decide) rfl ⟨rfl, rfl⟩) ?_
              refine wl_vw (.int .i64 (D)) 23 false 26 rfl rfl rfl rfl rfl (y_ld_stc rfl rfl Try.underlying3 B4 rfl rfl ⟨rfl, rfl⟩) ?_
              refine wl_vw (.bool true) 23 false 26 rfl rfl rfl rfl rfl (y_geq rfl rfl rfl (decide_eq_true d57) ⟨rfl, rfl⟩) ?_
              refine wl_v (.bool true) rfl rfl (y_pickF rfl rfl rfl ⟨rfl, rfl⟩) ?_
              refine wl_v (.bool true) rfl rfl (y_mov rfl rfl ⟨rfl, rfl⟩) ?_
              refine wl_unless 28 false 31 rfl rfl rfl (Or.inl rfl) rfl ?_
              refine wl_unless 28 false 31 rfl rfl rfl (Or.inl rfl) rfl ?_
              refine wl_unless 28 false 31 rfl rfl rfl (Or.inl rfl) rfl ?_
              refine wl_v (.bool true) rfl rfl (y_pickT rfl rfl rfl ⟨rfl, rfl⟩) ?_
              refine wl_v (.bool true) rfl rfl (y_mov rfl rfl ⟨rfl, rfl⟩) ?_
              refine wl_unless 33 false 36 rfl rfl rfl (Or.inl rfl) rfl ?_
              refine wl_unless 33 false 36 rfl rfl rfl (Or.inl rfl) rfl ?_
              refine wl_unless 33 false 36 rfl rfl rfl (Or.inl rfl) rfl ?_
              refine wl_v (.bool true) rfl rfl (y_pickT rfl rfl rfl ⟨rfl, rfl⟩) ?_
              refine wl_nil fun F58 hF59 => ?_
              have s60 : F58 41 = undef := (hF59 41).trans s10
              have s61 : F58 40 = .bool true := (hF59 40).trans rfl
              clear hF59
              refine then_normal ?_
              refine wq_cond (t := true) s61 (fun _ => ?_) (fun e => by cases e)
              refine wq_seq ?_
              refine wq_region ?_
              refine wl_v (.int .i64 (110)) rfl rfl (y_asg rfl rfl ⟨rfl, rfl⟩) ?_
              refine wl_nil fun F62 hF63 => ?_
              have s64 : F62 41 = undef := (hF63 41).trans s60
              have s65 : F62 2 = .int .i64 (110) := (hF63 2).trans rfl
              clear hF63
              refine then_normal ?_
              refine wq_ret ?_
              refine then_ret ?_
              exact end_tmp (v := .int .i64 (110)) s64 rfl rfl s65 ⟨(by first | rw [show headE K Q D F = 0 from if_pos (by unfold headOk; omega)] | rw [show headE K Q D F = 110 from if_neg (by unfold headOk; omega)]), K7⟩
            · skip
              by_cases d66 : (F) < (0)
              · skip
                refine wq_region ?_
                refine wl_v (.pointer (some ⟨p1, 0, none⟩)) rfl rfl (y_fieldR (n := 1) rfl s11 Try.underlying26 rfl (by kernel_rfl) (by decide) rfl ⟨rfl, rfl⟩) ?_
                refine wl_v (.int .i64 (K)) rfl rfl (y_ld_stc rfl rfl Try.underlying3 B4 rfl rfl ⟨rfl, rfl⟩) ?_
                refine wl_v (.bool false) rfl rfl (y_lss rfl rfl rfl (decide_eq_false d12) ⟨rfl, rfl⟩) ?_
                refine wl_v (.bool false) rfl rfl (y_mov rfl rfl ⟨rfl, rfl⟩) ?_
                refine wl_vw (.pointer (some ⟨p1, 0, none⟩)) 3 false 6 rfl rfl rfl rfl rfl (y_fieldR (n := 1) rfl s11 Try.underlying26 rfl (by kernel_rfl) (by decide) rfl ⟨rfl, rfl⟩) ?_
                refine wl_vw (.int .i64 (K)) 3 false 6 rfl rfl rfl rfl rfl (y_ld_stc rfl rfl Try.underlying3 B4 rfl rfl ⟨rfl, rfl⟩) ?_
                refine wl_vw (.bool false) 3 false 6 rfl rfl rfl rfl rfl (y_gtr rfl rfl rfl (decide_eq_false d21) ⟨rfl, rfl⟩) ?_
                refine wl_v (.bool false) rfl rfl (y_pickF rfl rfl rfl ⟨rfl, rfl⟩) ?_
                refine wl_v (.bool false) rfl rfl (y_mov rfl rfl ⟨rfl, rfl⟩) ?_
                refine wl_vw (.pointer (some ⟨p1, 1, none⟩)) 8 false 11 rfl rfl rfl rfl rfl (y_fieldR (n := 1) rfl s11 Try.underlying26 rfl (by kernel_rfl) (by decide) rfl ⟨rfl, rfl⟩) ?_
                refine wl_vw (.int .i64 (Q)) 8 false 11 rfl rfl rfl rfl rfl (y_ld_stc rfl rfl Try.underlying3 B4 rfl rfl ⟨rfl, rfl⟩) ?_
                refine wl_vw (.bool false) 8 false 11 rfl rfl rfl rfl rfl (y_lss rfl rfl rfl (decide_eq_false d30) ⟨rfl, rfl⟩) ?_
                refine wl_v (.bool false) rfl rfl (y_pickF rfl rfl rfl ⟨rfl, rfl⟩) ?_
                refine wl_v (.bool false) rfl rfl (y_mov rfl rfl ⟨rfl, rfl⟩) ?_
                refine wl_vw (.pointer (some ⟨p1, 1, none⟩)) 13 false 16 rfl rfl rfl rfl rfl (y_fieldR (n := 1) rfl s11 Try.underlying26 rfl (by kernel_rfl) (by decide) rfl ⟨rfl, rfl⟩) ?_
                refine wl_vw (.int .i64 (Q)) 13 false 16 rfl rfl rfl rfl rfl (y_ld_stc rfl rfl Try.underlying3 B4 rfl rfl ⟨rfl, rfl⟩) ?_
                refine wl_vw (.bool false) 13 false 16 rfl rfl rfl rfl rfl (y_gtr rfl rfl rfl (decide_eq_false d39) ⟨rfl, rfl⟩) ?_
                refine wl_v (.bool false) rfl rfl (y_pickF rfl rfl rfl ⟨rfl, rfl⟩) ?_
                refine wl_v (.bool false) rfl rfl (y_mov rfl rfl ⟨rfl, rfl⟩) ?_
                refine wl_vw (.pointer (some ⟨p1, 2, none⟩)) 18 false 21 rfl rfl rfl rfl rfl (y_fieldR (n := 1) rfl s11 Try.underlying26 rfl (by kernel_rfl) (by decide) rfl ⟨rfl, rfl⟩) ?_
                refine wl_vw (.int .i64 (D)) 18 false 21 rfl rfl rfl rfl rfl (y_ld_stc rfl rfl Try.underlying3 B4 rfl rfl ⟨rfl, rfl⟩) ?_
                refine wl_vw (.bool false) 18 false 21 rfl rfl rfl rfl rfl (y_lss rfl rfl rfl (decide_eq_false d48) ⟨rfl, rfl⟩) ?_
                refine wl_v (.bool false) rfl rfl (y_pickF rfl rfl rfl ⟨rfl, rfl⟩) ?_
                refine wl_v (.bool false) rfl rfl (y_mov rfl rfl ⟨rfl, rfl⟩) ?_
                refine wl_vw (.pointer (some ⟨p1, 2, none⟩)) 23 false 26 rfl rfl rfl rfl rfl (y_fieldR (n := 1) rfl s11 Try.underlying26 rfl (by kernel_rfl) (by decide) rfl ⟨rfl, rfl⟩) ?_
                refine wl_vw (.int .i64 (D)) 23 false 26 rfl rfl rfl rfl rfl (y_ld_stc rfl rfl Try.underlying3 B4 rfl rfl ⟨rfl, rfl⟩) ?_
                refine wl_vw (.bool false) 23 false 26 rfl rfl rfl rfl rfl (y_geq rfl rfl rfl (decide_eq_false d57) ⟨rfl, rfl⟩) ?_
                refine wl_v (.bool false) rfl rfl (y_pickF rfl rfl rfl ⟨rfl, rfl⟩) ?_
                refine wl_v (.bool false) rfl rfl (y_mov rfl rfl ⟨rfl, rfl⟩) ?_
                refine wl_vw (.pointer (some ⟨p1, 3, none⟩)) 28 false 31 rfl rfl rfl rfl rfl (y_fieldR (n := 1) rfl s11 Try.underlying26 rfl (by kernel_rfl) (by decide) rfl ⟨rfl, rfl⟩) ?_
                refine wl_vw (.int .i64 (F)) 28 false 31 rfl rfl rfl rfl rfl (y_ld_stc rfl rfl Try.underlying3 B4 rfl rfl ⟨rfl, rfl⟩) ?_
                refine wl_vw (.bool true) 28 false 31 rfl rfl rfl rfl rfl (y_lss rfl rfl rfl (decide_eq_true d66) ⟨rfl, rfl⟩) ?_
                refine wl_v (.bool true) rfl rfl (y_pickF rfl rfl rfl ⟨rfl, rfl⟩) ?_
                refine wl_v (.bool true) rfl rfl (y_mov rfl rfl ⟨rfl, rfl⟩) ?_
                refine wl_unless 33 false 36 rfl rfl rfl (Or.inl rfl) rfl ?_
                refine wl_unless 33 false 36 rfl rfl rfl (Or.inl rfl) rfl ?_
                refine wl_unless 33 false 36 rfl rfl rfl (Or.inl rfl) rfl ?_
                refine wl_v (.bool true) rfl rfl (y_pickT rfl rfl rfl ⟨rfl, rfl⟩) ?_
                refine wl_nil fun F67 hF68 => ?_
                have s69 : F67 41 = undef := (hF68 41).trans s10
                have s70 : F67 40 = .bool true := (hF68 40).trans rfl
                clear hF68
                refine then_normal ?_
                refine wq_cond (t := true) s70 (fun _ => ?_) (fun e => by cases e)
                refine wq_seq ?_
                refine wq_region ?_
                refine wl_v (.int .i64 (110)) rfl rfl (y_asg rfl rfl ⟨rfl, rfl⟩) ?_
                refine wl_nil fun F71 hF72 => ?_
                have s73 : F71 41 = undef := (hF72 41).trans s69
                have s74 : F71 2 = .int .i64 (110) := (hF72 2).trans rfl
                clear hF72
                refine then_normal ?_
                refine wq_ret ?_
                refine then_ret ?_
                exact end_tmp (v := .int .i64 (110)) s73 rfl rfl s74 ⟨(by first | rw [show headE K Q D F = 0 from if_pos (by unfold headOk; omega)] | rw [show headE K Q D F = 110 from if_neg (by unfold headOk; omega)]), K7⟩
              · skip
                refine wq_region ?_
                refine wl_v (.pointer (some ⟨p1, 0, none⟩)) rfl rfl (y_fieldR (n := 1) rfl s11 Try.underlying26 rfl (by kernel_rfl) (by decide) rfl ⟨rfl, rfl⟩) ?_
                refine wl_v (.int .i64 (K)) rfl rfl (y_ld_stc rfl rfl Try.underlying3 B4 rfl rfl ⟨rfl, rfl⟩) ?_
                refine wl_v (.bool false) rfl rfl (y_lss rfl rfl rfl (decide_eq_false d12) ⟨rfl, rfl⟩) ?_
                refine wl_v (.bool false) rfl rfl (y_mov rfl rfl ⟨rfl, rfl⟩) ?_
                refine wl_vw (.pointer (some ⟨p1, 0, none⟩)) 3 false 6 rfl rfl rfl rfl rfl (y_fieldR (n := 1) rfl s11 Try.underlying26 rfl (by kernel_rfl) (by decide) rfl ⟨rfl, rfl⟩) ?_
                refine wl_vw (.int .i64 (K)) 3 false 6 rfl rfl rfl rfl rfl (y_ld_stc rfl rfl Try.underlying3 B4 rfl rfl ⟨rfl, rfl⟩) ?_
                refine wl_vw (.bool false) 3 false 6 rfl rfl rfl rfl rfl (y_gtr rfl rfl rfl (decide_eq_false d21) ⟨rfl, rfl⟩) ?_
                refine wl_v (.bool false) rfl rfl (y_pickF rfl rfl rfl ⟨rfl, rfl⟩) ?_
                refine wl_v (.bool false) rfl rfl (y_mov rfl rfl ⟨rfl, rfl⟩) ?_
                refine wl_vw (.pointer (some ⟨p1, 1, none⟩)) 8 false 11 rfl rfl rfl rfl rfl (y_fieldR (n := 1) rfl s11 Try.underlying26 rfl (by kernel_rfl) (by decide) rfl ⟨rfl, rfl⟩) ?_
                refine wl_vw (.int .i64 (Q)) 8 false 11 rfl rfl rfl rfl rfl (y_ld_stc rfl rfl Try.underlying3 B4 rfl rfl ⟨rfl, rfl⟩) ?_
                refine wl_vw (.bool false) 8 false 11 rfl rfl rfl rfl rfl (y_lss rfl rfl rfl (decide_eq_false d30) ⟨rfl, rfl⟩) ?_
                refine wl_v (.bool false) rfl rfl (y_pickF rfl rfl rfl ⟨rfl, rfl⟩) ?_
                refine wl_v (.bool false) rfl rfl (y_mov rfl rfl ⟨rfl, rfl⟩) ?_
                refine wl_vw (.pointer (some ⟨p1, 1, none⟩)) 13 false 16 rfl rfl rfl rfl rfl (y_fieldR (n := 1) rfl s11 Try.underlying26 rfl (by kernel_rfl) (by decide) rfl ⟨rfl, rfl⟩) ?_
                refine wl_vw (.int .i64 (Q)) 13 false 16 rfl rfl rfl rfl rfl (y_ld_stc rfl rfl Try.underlying3 B4 rfl rfl ⟨rfl, rfl⟩) ?_
                refine wl_vw (.bool false) 13 false 16 rfl rfl rfl rfl rfl (y_gtr rfl rfl rfl (decide_eq_false d39) ⟨rfl, rfl⟩) ?_
                refine wl_v (.bool false) rfl rfl (y_pickF rfl rfl rfl ⟨rfl, rfl⟩) ?_
                refine wl_v (.bool false) rfl rfl (y_mov rfl rfl ⟨rfl, rfl⟩) ?_
                refine wl_vw (.pointer (some ⟨p1, 2, none⟩)) 18 false 21 rfl rfl rfl rfl rfl (y_fieldR (n := 1) rfl s11 Try.underlying26 rfl (by kernel_rfl) (by decide) rfl ⟨rfl, rfl⟩) ?_
                refine wl_vw (.int .i64 (D)) 18 false 21 rfl rfl rfl rfl rfl (y_ld_stc rfl rfl Try.underlying3 B4 rfl rfl ⟨rfl, rfl⟩) ?_
                refine wl_vw (.bool false) 18 false 21 rfl rfl rfl rfl rfl (y_lss rfl rfl rfl (decide_eq_false d48) ⟨rfl, rfl⟩) ?_
                refine wl_v (.bool false) rfl rfl (y_pickF rfl rfl rfl ⟨rfl, rfl⟩) ?_
                refine wl_v (.bool false) rfl rfl (y_mov rfl rfl ⟨rfl, rfl⟩) ?_
                refine wl_vw (.pointer (some ⟨p1, 2, none⟩)) 23 false 26 rfl rfl rfl rfl rfl (y_fieldR (n := 1) rfl s11 Try.underlying26 rfl (by kernel_rfl) (by decide) rfl ⟨rfl, rfl⟩) ?_
                refine wl_vw (.int .i64 (D)) 23 false 26 rfl rfl rfl rfl rfl (y_ld_stc rfl rfl Try.underlying3 B4 rfl rfl ⟨rfl, rfl⟩) ?_
                refine wl_vw (.bool false) 23 false 26 rfl rfl rfl rfl rfl (y_geq rfl rfl rfl (decide_eq_false d57) ⟨rfl, rfl⟩) ?_
                refine wl_v (.bool false) rfl rfl (y_pickF rfl rfl rfl ⟨rfl, rfl⟩) ?_
                refine wl_v (.bool false) rfl rfl (y_mov rfl rfl ⟨rfl, rfl⟩) ?_
                refine wl_vw (.pointer (some ⟨p1, 3, none⟩)) 28 false 31 rfl rfl rfl rfl rfl (y_fieldR (n := 1) rfl s11 Try.underlying26 rfl (by kernel_rfl) (by decide) rfl ⟨rfl, rfl⟩) ?_
                refine wl_vw (.int .i64 (F)) 28 false 31 rfl rfl rfl rfl rfl (y_ld_stc rfl rfl Try.underlying3 B4 rfl rfl ⟨rfl, rfl⟩) ?_
                refine wl_vw (.bool false) 28 false 31 rfl rfl rfl rfl rfl (y_lss rfl rfl rfl (decide_eq_false d66) ⟨rfl, rfl⟩) ?_
                refine wl_v (.bool false) rfl rfl (y_pickF rfl rfl rfl ⟨rfl, rfl⟩) ?_
                refine wl_v (.bool false) rfl rfl (y_mov rfl rfl ⟨rfl, rfl⟩) ?_
                refine wl_vw (.pointer (some ⟨p1, 3, none⟩)) 33 false 36 rfl rfl rfl rfl rfl (y_fieldR (n := 1) rfl s11 Try.underlying26 rfl (by kernel_rfl) (by decide) rfl ⟨rfl, rfl⟩) ?_
                refine wl_vw (.int .i64 (F)) 33 false 36 rfl rfl rfl rfl rfl (y_ld_stc rfl rfl Try.underlying3 B4 rfl rfl ⟨rfl, rfl⟩) ?_
                refine wl_vw (.bool (decide ((1073741824) < (F)))) 33 false 36 rfl rfl rfl rfl rfl (y_gtr rfl rfl rfl rfl ⟨rfl, rfl⟩) ?_
                refine wl_v (.bool (decide ((1073741824) < (F)))) rfl rfl (y_pickF rfl rfl rfl ⟨rfl, rfl⟩) ?_
                refine wl_nil fun F75 hF76 => ?_
                have s77 : F75 41 = undef := (hF76 41).trans s10
                have s78 : F75 40 = .bool (decide ((1073741824) < (F))) := (hF76 40).trans rfl
                clear hF76
                refine then_normal ?_
                refine wq_cond s78 (fun c79 => ?_) (fun c79 => ?_)
                · replace c79 := of_decide_eq_true c79
                  refine wq_seq ?_
                  refine wq_region ?_
                  refine wl_v (.int .i64 (110)) rfl rfl (y_asg rfl rfl ⟨rfl, rfl⟩) ?_
                  refine wl_nil fun F80 hF81 => ?_
                  have s82 : F80 41 = undef := (hF81 41).trans s77
                  have s83 : F80 2 = .int .i64 (110) := (hF81 2).trans rfl
                  clear hF81
                  refine then_normal ?_
                  refine wq_ret ?_
                  refine then_ret ?_
                  exact end_tmp (v := .int .i64 (110)) s82 rfl rfl s83 ⟨(by first | rw [show headE K Q D F = 0 from if_pos (by unfold headOk; omega)] | rw [show headE K Q D F = 110 from if_neg (by unfold headOk; omega)]), K7⟩
                · replace c79 := of_decide_eq_false c79
                  refine wq_skip ?_
                  refine then_normal ?_
                  refine wq_seq ?_
                  refine wq_region ?_
                  refine wl_v (.int .i64 (0)) rfl rfl (y_asg rfl rfl ⟨rfl, rfl⟩) ?_
                  refine wl_nil fun F84 hF85 => ?_
                  have s86 : F84 41 = undef := (hF85 41).trans s77
                  have s87 : F84 2 = .int .i64 (0) := (hF85 2).trans rfl
                  clear hF85
                  refine then_normal ?_
                  refine wq_ret ?_
                  exact end_tmp (v := .int .i64 (0)) s86 rfl rfl s87 ⟨(by first | rw [show headE K Q D F = 0 from if_pos (by unfold headOk; omega)] | rw [show headE K Q D F = 110 from if_neg (by unfold headOk; omega)]), K7⟩
set_option maxHeartbeats 4000000 in
set_option maxRecDepth 100000 in
theorem href_four (n : Int) (w0 : World) :
    Calls Try.prog 23 #[.int .i64 (n)] w0 fun e w' => ∃ (v1 : Value) (T1 : Nat → Prop), e = .returned (v1) ∧ Kept (fun _ => False) w0 w' ∧ (Owb w' T1 v1 ((fourI n)) ∧ Grew w0 noB T1) := by
  refine calls_wq (args := [.int .i64 (n)]) 15 Try.func23 rfl rfl (Nat.le_of_ble_eq_true rfl) ?_
  have K0 := Kept.refl (fun _ => False) w0
  refine wq_seq ?_
  refine wq_region ?_
  refine wl_v (.slice none 0 0) rfl rfl (y_asg rfl rfl ⟨rfl, rfl⟩) ?_
  refine wl_nil fun F1 hF2 => ?_
  have s3 : F1 0 = .int .i64 (n) := (hF2 0).trans rfl
  have s4 : F1 15 = undef := (hF2 15).trans rfl
  clear hF2
  refine then_normal ?_
  refine wq_seq ?_
  refine wq_region ?_
  refine wl_v (.int .i64 (n)) rfl rfl (y_mov rfl s3 ⟨rfl, rfl⟩) ?_
  refine wl_v (.int .i64 (n / 16777216)) rfl rfl (y_shrR 24 rfl rfl rfl (by decide) (congrArg (n / ·) (by decide)) ⟨rfl, rfl⟩) ?_
  refine wl_v (.int .u8 ((((btI n 16777216) : Nat) : Int))) rfl rfl (y_convR rfl rfl Try.underlying3 Try.underlying5 (byte_wrap n 16777216) ⟨rfl, rfl⟩) ?_
  refine wl_v (.int .i64 (n)) rfl rfl (y_mov rfl s3 ⟨rfl, rfl⟩) ?_
  refine wl_v (.int .i64 (n / 65536)) rfl rfl (y_shrR 16 rfl rfl rfl (by decide) (congrArg (n / ·) (by decide)) ⟨rfl, rfl⟩) ?_
  refine wl_v (.int .u8 ((((btI n 65536) : Nat) : Int))) rfl rfl (y_convR rfl rfl Try.underlying3 Try.underlying5 (byte_wrap n 65536) ⟨rfl, rfl⟩) ?_
  refine wl_v (.int .i64 (n)) rfl rfl (y_mov rfl s3 ⟨rfl, rfl⟩) ?_
  refine wl_v (.int .i64 (n / 256)) rfl rfl (y_shrR 8 rfl rfl rfl (by decide) (congrArg (n / ·) (by decide)) ⟨rfl, rfl⟩) ?_
  refine wl_v (.int .u8 ((((btI n 256) : Nat) : Int))) rfl rfl (y_convR rfl rfl Try.underlying3 Try.underlying5 (byte_wrap n 256) ⟨rfl, rfl⟩) ?_
  refine wl_v (.int .i64 (n)) rfl rfl (y_mov rfl s3 ⟨rfl, rfl⟩) ?_
  refine wl_v (.int .u8 ((((btI n 1) : Nat) : Int))) rfl rfl (y_convR rfl rfl Try.underlying3 Try.underlying5 ((by rw [← byte_wrap n 1]; exact congrArg IntKind.u8.wrap (Int.ediv_one n).symm)) ⟨rfl, rfl⟩) ?_
  refine wl_builtBn (xs := [.tmp 5, .tmp 8, .tmp 11, .tmp 13]) (vs := [.int .u8 ((((btI n 16777216) : Nat) : Int)), .int .u8 ((((btI n 65536) : Nat) : Int)), .int .u8 ((((btI n 256) : Nat) : Int)), .int .u8 ((((btI n 1) : Nat) : Int))]) (l := [(btI n 16777216), (btI n 65536), (btI n 256), (btI n 1)]) rfl rfl rfl rfl rfl (vsC rfl (vsC rfl (vsC rfl (vsC rfl vsN)))) rfl (Nat.le_of_ble_eq_true rfl) (Nat.le_of_ble_eq_true rfl) (four_lt n) fun v5 w6 T10 B8 g9 k7 => ?_
  have gr11 : Grew w0 noB (T10) := Grew.new K0 g9
  have K12 := K0.trans k7 (fun _ _ x => x.elim)
  refine wl_v (v5) rfl rfl (y_asg rfl rfl ⟨rfl, rfl⟩) ?_
  refine wl_nil fun F13 hF14 => ?_
  have s15 : F13 15 = undef := (hF14 15).trans s4
  have s16 : F13 2 = v5 := (hF14 2).trans rfl
  clear hF14
  refine then_normal ?_
  refine wq_ret ?_
  exact end_tmp (v := v5) s15 rfl rfl s16 ⟨v5, T10, rfl, K12, ⟨B8, gr11⟩⟩
set_option maxHeartbeats 4000000 in
set_option maxRecDepth 100000 in
theorem href_number (v : Value) (l : List Nat) (T_b : Nat → Prop) (w0 : World) (hl : l.length = 4) (h_b : Byt w0 T_b v (l)) :
    Calls Try.prog 25 #[v] w0 fun e w' => e = .returned (.int .i64 (nmAt l 0)) ∧ Kept (fun _ => False) w0 w' := by
  refine calls_wq (args := [v]) 25 Try.func25 rfl rfl (Nat.le_of_ble_eq_true rfl) ?_
  have K0 := Kept.refl (fun _ => False) w0
  have h256 := h_b.1.lt256
  have e0 := getD_lt h256 0
  have e1 := getD_lt h256 1
  have e2 := getD_lt h256 2
  have e3 := getD_lt h256 3
  have g_b := Grew.refl w0 T_b
  refine wq_seq ?_
  refine wq_region ?_
  refine wl_v (.int .i64 (0)) rfl rfl (y_asg rfl rfl ⟨rfl, rfl⟩) ?_
  refine wl_nil fun F1 hF2 => ?_
  have s3 : F1 0 = v := (hF2 0).trans rfl
  have s4 : F1 25 = undef := (hF2 25).trans rfl
  clear hF2
  refine then_normal ?_
  refine wq_seq ?_
  have u5 := getD_lt (h_b).lt256 (0)
  have u6 := getD_lt (h_b).lt256 (1)
  have u7 := getD_lt (h_b).lt256 (2)
  have u8 := getD_lt (h_b).lt256 (3)
  refine wq_said [some 3, some 4, some 5, some 6, some 7, some 8, some 9, some 10, some 11, some 12, some 13, some 14, some 15, some 16, some 17, some 18, some 19, some 20, some 21, some 22, some 23, some 24, some 2] [Pd.eq (v), Pd.eq (bytAddr (v) (0)), Pd.eq (.int .u8 ((((l).getD (0) 0 : Nat) : Int))), Pd.eq (.int .i64 ((((l).getD (0) 0 : Nat) : Int))), Pd.eq (.int .i64 (((((l).getD (0) 0) * 16777216 : Nat) : Int))), Pd.eq (v), Pd.eq (bytAddr (v) (1)), Pd.eq (.int .u8 ((((l).getD (1) 0 : Nat) : Int))), Pd.eq (.int .i64 ((((l).getD (1) 0 : Nat) : Int))), Pd.eq (.int .i64 (((((l).getD (1) 0) * 65536 : Nat) : Int))), Pd.eq (.int .i64 ((((((l).getD (0) 0) * 16777216) + (((l).getD (1) 0) * 65536) : Nat) : Int))), Pd.eq (v), Pd.eq (bytAddr (v) (2)), Pd.eq (.int .u8 ((((l).getD (2) 0 : Nat) : Int))), Pd.eq (.int .i64 ((((l).getD (2) 0 : Nat) : Int))), Pd.eq (.int .i64 (((((l).getD (2) 0) * 256 : Nat) : Int))), Pd.eq (.int .i64 (((((((l).getD (0) 0) * 16777216) + (((l).getD (1) 0) * 65536)) + (((l).getD (2) 0) * 256) : Nat) : Int))), Pd.eq (v), Pd.eq (bytAddr (v) (3)), Pd.eq (.int .u8 ((((l).getD (3) 0 : Nat) : Int))), Pd.eq (.int .i64 ((((l).getD (3) 0 : Nat) : Int))), Pd.eq (.int .i64 ((((((((l).getD (0) 0) * 16777216) + (((l).getD (1) 0) * 65536)) + (((l).getD (2) 0) * 256)) + ((l).getD (3) 0) : Nat) : Int))), Pd.eq (.int .i64 ((((((((l).getD (0) 0) * 16777216) + (((l).getD (1) 0) * 65536)) + (((l).getD (2) 0) * 256)) + ((l).getD (3) 0) : Nat) : Int)))] (by kernel_rfl) (by kernel_rfl) ?_ ?_
  · refine stepsF_cons ?_ ?_
    · refine StepF.one rfl fun F_ w_ hR hout hD => ?_
      exact (y_mov rfl ((hout 0 rfl (by decide)).trans s3) ⟨rfl, Kept.refl _ _⟩)
    refine stepsF_cons ?_ ?_
    · refine StepF.one rfl fun F_ w_ hR hout hD => ?_
      have g3 : F_ 3 = v := (hD.get 0 rfl rfl rfl)
      exact (y_atB (0) rfl g3 rfl (by omega) (h_b.all hR Apart.none) (by omega) ⟨rfl, Kept.refl _ _⟩)
    refine stepsF_cons ?_ ?_
    · refine StepF.one rfl fun F_ w_ hR hout hD => ?_
      have g4 : F_ 4 = bytAddr (v) (0) := (hD.get 0 rfl rfl rfl)
      exact (y_ldB rfl g4 (h_b.all hR Apart.none) (by omega) ⟨rfl, Kept.refl _ _⟩)
    refine stepsF_cons ?_ ?_
    · refine StepF.one rfl fun F_ w_ hR hout hD => ?_
      have g5 : F_ 5 = .int .u8 ((((l).getD (0) 0 : Nat) : Int)) := (hD.get 0 rfl rfl rfl)
      exact (y_convR rfl g5 Try.underlying5 Try.underlying3 (i64_i rfl (by omega)) ⟨rfl, Kept.refl _ _⟩)
    refine stepsF_cons ?_ ?_
    · refine StepF.one rfl fun F_ w_ hR hout hD => ?_
      have g6 : F_ 6 = .int .i64 ((((l).getD (0) 0 : Nat) : Int)) := (hD.get 0 rfl rfl rfl)
      exact (y_mul rfl g6 rfl (i64_n (by omega) (by omega)) ⟨rfl, Kept.refl _ _⟩)
    refine stepsF_cons ?_ ?_
    · refine StepF.one rfl fun F_ w_ hR hout hD => ?_
      exact (y_mov rfl ((hout 0 rfl (by decide)).trans s3) ⟨rfl, Kept.refl _ _⟩)
    refine stepsF_cons ?_ ?_
    · refine StepF.one rfl fun F_ w_ hR hout hD => ?_
      have g8 : F_ 8 = v := (hD.get 0 rfl rfl rfl)
      exact (y_atB (1) rfl g8 rfl (by omega) (h_b.all hR Apart.none) (by omega) ⟨rfl, Kept.refl _ _⟩)
    refine stepsF_cons ?_ ?_
    · refine StepF.one rfl fun F_ w_ hR hout hD => ?_
      have g9 : F_ 9 = bytAddr (v) (1) := (hD.get 0 rfl rfl rfl)
      exact (y_ldB rfl g9 (h_b.all hR Apart.none) (by omega) ⟨rfl, Kept.refl _ _⟩)
    refine stepsF_cons ?_ ?_
    · refine StepF.one rfl fun F_ w_ hR hout hD => ?_
      have g10 : F_ 10 = .int .u8 ((((l).getD (1) 0 : Nat) : Int)) := (hD.get 0 rfl rfl rfl)
      exact (y_convR rfl g10 Try.underlying5 Try.underlying3 (i64_i rfl (by omega)) ⟨rfl, Kept.refl _ _⟩)
    refine stepsF_cons ?_ ?_
    · refine StepF.one rfl fun F_ w_ hR hout hD => ?_
      have g11 : F_ 11 = .int .i64 ((((l).getD (1) 0 : Nat) : Int)) := (hD.get 0 rfl rfl rfl)
      exact (y_mul rfl g11 rfl (i64_n (by omega) (by omega)) ⟨rfl, Kept.refl _ _⟩)
    refine stepsF_cons ?_ ?_
    · refine StepF.one rfl fun F_ w_ hR hout hD => ?_
      have g7 : F_ 7 = .int .i64 (((((l).getD (0) 0) * 16777216 : Nat) : Int)) := (hD.get 0 rfl rfl rfl)
      have g12 : F_ 12 = .int .i64 (((((l).getD (1) 0) * 65536 : Nat) : Int)) := (hD.get 1 rfl rfl rfl)
      exact (y_add rfl g7 g12 (i64_n (by omega) (by omega)) ⟨rfl, Kept.refl _ _⟩)
    refine stepsF_cons ?_ ?_
    · refine StepF.one rfl fun F_ w_ hR hout hD => ?_
      exact (y_mov rfl ((hout 0 rfl (by decide)).trans s3) ⟨rfl, Kept.refl _ _⟩)
    refine stepsF_cons ?_ ?_
    · refine StepF.one rfl fun F_ w_ hR hout hD => ?_
      have g14 : F_ 14 = v := (hD.get 0 rfl rfl rfl)
      exact (y_atB (2) rfl g14 rfl (by omega) (h_b.all hR Apart.none) (by omega) ⟨rfl, Kept.refl _ _⟩)
    refine stepsF_cons ?_ ?_
    · refine StepF.one rfl fun F_ w_ hR hout hD => ?_
      have g15 : F_ 15 = bytAddr (v) (2) := (hD.get 0 rfl rfl rfl)
      exact (y_ldB rfl g15 (h_b.all hR Apart.none) (by omega) ⟨rfl, Kept.refl _ _⟩)
    refine stepsF_cons ?_ ?_
    · refine StepF.one rfl fun F_ w_ hR hout hD => ?_
      have g16 : F_ 16 = .int .u8 ((((l).getD (2) 0 : Nat) : Int)) := (hD.get 0 rfl rfl rfl)
      exact (y_convR rfl g16 Try.underlying5 Try.underlying3 (i64_i rfl (by omega)) ⟨rfl, Kept.refl _ _⟩)
    refine stepsF_cons ?_ ?_
    · refine StepF.one rfl fun F_ w_ hR hout hD => ?_
      have g17 : F_ 17 = .int .i64 ((((l).getD (2) 0 : Nat) : Int)) := (hD.get 0 rfl rfl rfl)
      exact (y_mul rfl g17 rfl (i64_n (by omega) (by omega)) ⟨rfl, Kept.refl _ _⟩)
    refine stepsF_cons ?_ ?_
    · refine StepF.one rfl fun F_ w_ hR hout hD => ?_
      have g13 : F_ 13 = .int .i64 ((((((l).getD (0) 0) * 16777216) + (((l).getD (1) 0) * 65536) : Nat) : Int)) := (hD.get 0 rfl rfl rfl)
      have g18 : F_ 18 = .int .i64 (((((l).getD (2) 0) * 256 : Nat) : Int)) := (hD.get 1 rfl rfl rfl)
      exact (y_add rfl g13 g18 (i64_n (by omega) (by omega)) ⟨rfl, Kept.refl _ _⟩)
    refine stepsF_cons ?_ ?_
    · refine StepF.one rfl fun F_ w_ hR hout hD => ?_
      exact (y_mov rfl ((hout 0 rfl (by decide)).trans s3) ⟨rfl, Kept.refl _ _⟩)
    refine stepsF_cons ?_ ?_
    · refine StepF.one rfl fun F_ w_ hR hout hD => ?_
      have g20 : F_ 20 = v := (hD.get 0 rfl rfl rfl)
      exact (y_atB (3) rfl g20 rfl (by omega) (h_b.all hR Apart.none) (by omega) ⟨rfl, Kept.refl _ _⟩)
    refine stepsF_cons ?_ ?_
    · refine StepF.one rfl fun F_ w_ hR hout hD => ?_
      have g21 : F_ 21 = bytAddr (v) (3) := (hD.get 0 rfl rfl rfl)
      exact (y_ldB rfl g21 (h_b.all hR Apart.none) (by omega) ⟨rfl, Kept.refl _ _⟩)
    refine stepsF_cons ?_ ?_
    · refine StepF.one rfl fun F_ w_ hR hout hD => ?_
      have g22 : F_ 22 = .int .u8 ((((l).getD (3) 0 : Nat) : Int)) := (hD.get 0 rfl rfl rfl)
      exact (y_convR rfl g22 Try.underlying5 Try.underlying3 (i64_i rfl (by omega)) ⟨rfl, Kept.refl _ _⟩)
    refine stepsF_cons ?_ ?_
    · refine StepF.one rfl fun F_ w_ hR hout hD => ?_
      have g19 : F_ 19 = .int .i64 (((((((l).getD (0) 0) * 16777216) + (((l).getD (1) 0) * 65536)) + (((l).getD (2) 0) * 256) : Nat) : Int)) := (hD.get 0 rfl rfl rfl)
      have g23 : F_ 23 = .int .i64 ((((l).getD (3) 0 : Nat) : Int)) := (hD.get 1 rfl rfl rfl)
      exact (y_add rfl g19 g23 (i64_n (by omega) (by omega)) ⟨rfl, Kept.refl _ _⟩)
    refine stepsF_cons ?_ ?_
    · refine StepF.one rfl fun F_ w_ hR hout hD => ?_
      have g24 : F_ 24 = .int .i64 ((((((((l).getD (0) 0) * 16777216) + (((l).getD (1) 0) * 65536)) + (((l).getD (2) 0) * 256)) + ((l).getD (3) 0) : Nat) : Int)) := (hD.get 0 rfl rfl rfl)
      exact (y_asg rfl g24 ⟨rfl, Kept.refl _ _⟩)
    exact stepsF_nil
  intro v9 F10 w11 k12 G13 hF14
  have B16 := h_b.all k12 Apart.none
  have K17 := K0.trans k12 (fun _ _ x => x.elim)
  have s18 : F10 25 = undef := (hF14 25).trans s4
  have s19 : F10 2 = .int .i64 ((((((((l).getD (0) 0) * 16777216) + (((l).getD (1) 0) * 65536)) + (((l).getD (2) 0) * 256)) + ((l).getD (3) 0) : Nat) : Int)) := (hF14 2).trans (G13 22 (by decide))
  clear G13 hF14
  refine then_normal ?_
  refine wq_ret ?_
  exact end_tmp (v := .int .i64 ((((((((l).getD (0) 0) * 16777216) + (((l).getD (1) 0) * 65536)) + (((l).getD (2) 0) * 256)) + ((l).getD (3) 0) : Nat) : Int))) s18 rfl rfl s19 ⟨rfl, K17⟩
theorem seqE_iff {W H R B : Int} : seqE W H R B = 0 ↔ seqOk W H R B := by
  unfold seqE; by_cases h : seqOk W H R B
  · rw [if_pos h]; exact iff_of_true rfl h
  · rw [if_neg h]; exact iff_of_false (by decide) h
theorem headE_iff {K Q D F : Int} : headE K Q D F = 0 ↔ headOk K Q D F := by
  unfold headE; by_cases h : headOk K Q D F
  · rw [if_pos h]; exact iff_of_true rfl h
  · rw [if_neg h]; exact iff_of_false (by decide) h
theorem two_lt (a b : Int) : ∀ x ∈ [btI a 1, btI b 1], x < 256 := by
  intro x hx
  simp only [List.mem_cons, List.not_mem_nil, or_false] at hx
  rcases hx with rfl | rfl <;> exact btI_lt _ _
theorem byte_one (n : Int) : IntKind.u8.wrap n = ((btI n 1 : Nat) : Int) := by rw [← byte_wrap n 1]; exact congrArg IntKind.u8.wrap (Int.ediv_one n).symm
theorem nm_sub2 (l : List Nat) : nmAt (((l).drop (2)).take ((6) - (2))) 0 = t2 l := by
  unfold t2 nmAt; simp [List.getD, List.getElem?_drop]
theorem nm_sub6 (l : List Nat) : nmAt (((l).drop (6)).take ((10) - (6))) 0 = t3 l := by
  unfold t3 nmAt; simp [List.getD, List.getElem?_drop]
set_option maxHeartbeats 4000000 in
set_option maxRecDepth 100000 in
theorem href_opened (v : Value) (l : List Nat) (T_b : Nat → Prop) (w0 : World) (h_b : Byt w0 T_b v (l)) :
    Calls Try.prog 15 #[v] w0 fun e w' => e = .returned (.tuple #[.agg #[.int .i64 (od t0 l), .int .i64 (od t1 l), .int .i64 (od t2 l), .int .i64 (od t3 l)], .int .i64 (odE l)]) ∧ Kept (fun _ => False) w0 w' := by
  refine calls_wq (args := [v]) 29 Try.func15 rfl rfl (Nat.le_of_ble_eq_true rfl) ?_
  have K0 := Kept.refl (fun _ => False) w0
  have h256 := h_b.1.lt256
  have e0 := getD_lt h256 0
  have e1 := getD_lt h256 1
  have g_b := Grew.refl w0 T_b
  refine wq_seq ?_
  refine wq_region ?_
  refine wl_alloc_stc (n := 4) (vs := [.int .i64 (0), .int .i64 (0), .int .i64 (0), .int .i64 (0)]) rfl rfl rfl (by kernel_rfl) fun p1 w2 B4 g5 k3 => ?_
  have gr6 : Grew w0 noB (onB p1) := Grew.new K0 g5
  have ap7 : Apart (onB p1) (T_b) := Apart.new g5 (h_b).live
  have B8 := h_b.all k3 Apart.none
  have K9 := K0.trans k3 (fun _ _ x => x.elim)
  refine wl_v (.int .i64 (0)) rfl rfl (y_asg rfl rfl ⟨rfl, rfl⟩) ?_
  refine wl_nil fun F10 hF11 => ?_
  have s12 : F10 0 = v := (hF11 0).trans rfl
  have s13 : F10 29 = undef := (hF11 29).trans rfl
  have s14 : F10 2 = .pointer (some ⟨p1, 0, none⟩) := (hF11 2).trans rfl
  clear hF11
  refine then_normal ?_
  refine wq_seq ?_
  refine wq_seq ?_
  refine wq_region ?_
  refine wl_v (v) rfl rfl (y_mov rfl s12 ⟨rfl, rfl⟩) ?_
  refine wl_v (.int .i64 ((((l).length : Nat) : Int))) rfl rfl (y_lenV rfl rfl rfl B8 ⟨rfl, rfl⟩) ?_
  refine wl_v (.bool (decide (((((l).length : Nat) : Int)) ≠ (10)))) rfl rfl (y_neqI rfl rfl rfl rfl ⟨rfl, rfl⟩) ?_
  refine wl_nil fun F15 hF16 => ?_
  have s17 : F15 0 = v := (hF16 0).trans s12
  have s18 : F15 29 = undef := (hF16 29).trans s13
  have s19 : F15 2 = .pointer (some ⟨p1, 0, none⟩) := (hF16 2).trans s14
  have s20 : F15 7 = .bool (decide (((((l).length : Nat) : Int)) ≠ (10))) := (hF16 7).trans rfl
  clear hF16
  refine then_normal ?_
  refine wq_cond s20 (fun c21 => ?_) (fun c21 => ?_)
  · replace c21 := of_decide_eq_true c21
    refine wq_seq ?_
    have hno : ¬ odOk l := fun h => absurd h.1 (by omega)
    refine wq_region ?_
    refine wl_v (.agg #[.int .i64 (0), .int .i64 (0), .int .i64 (0), .int .i64 (0)]) rfl rfl (y_buildL (l' := []) (cells := #[.int .i64 (0), .int .i64 (0), .int .i64 (0), .int .i64 (0)]) rfl bpN (by kernel_rfl) rfl ⟨rfl, rfl⟩) ?_
    refine wl_store_stc (us := [.int .i64 (0), .int .i64 (0), .int .i64 (0), .int .i64 (0)]) stcT_seq rfl rfl rfl s19 rfl B4 rfl (oneI rfl (oneI rfl (oneI rfl (oneI rfl oneN)))) fun w22 B23 k24 => ?_
    have B25 := B8.all k24 (fun i h x => (((ap7).symm) i h x))
    have K26 := K9.trans k24 (Grew.ok (S := fun _ => False) gr6 noB_le)
    refine wl_v (.int .i64 (110)) rfl rfl (y_asg rfl rfl ⟨rfl, rfl⟩) ?_
    refine wl_nil fun F27 hF28 => ?_
    have s29 : F27 29 = undef := (hF28 29).trans s18
    have s30 : F27 2 = .pointer (some ⟨p1, 0, none⟩) := (hF28 2).trans s19
    have s31 : F27 3 = .int .i64 (110) := (hF28 3).trans rfl
    clear hF28
    refine then_normal ?_
    refine wq_ret ?_
    refine then_ret ?_
    exact end_2 s29 rfl (res_stc (vs := [.int .i64 (0), .int .i64 (0), .int .i64 (0), .int .i64 (0)]) stcT_seq rfl s30 B23) (res_tmp (v := .int .i64 (110)) rfl s31) ⟨(by first | (unfold od odE; rw [if_pos hok, if_pos hok, if_pos hok, if_pos hok, if_pos hok]) | (unfold od odE; rw [if_neg hno, if_neg hno, if_neg hno, if_neg hno, if_neg hno])), K26⟩
  · replace c21 := of_decide_eq_false c21
    refine wq_skip ?_
    refine then_normal ?_
    refine wq_seq ?_
    have u32 := getD_lt (B8).lt256 (0)
    have u33 := getD_lt (B8).lt256 (1)
    refine wq_tail 16 [some 9, some 10, some 11, some 12, some 13, some 14, some 15, some 16, some 17, some 18, some 19, some 20, some 21, some 22, some 23, some 4] [Pd.eq (v), Pd.eq (bytAddr (v) (0)), Pd.eq (.int .u8 ((((l).getD (0) 0 : Nat) : Int))), Pd.eq (.int .i64 (t0 l)), Pd.eq (v), Pd.eq (bytAddr (v) (1)), Pd.eq (.int .u8 ((((l).getD (1) 0 : Nat) : Int))), Pd.eq (.int .i64 (t1 l)), Pd.eq (v), Pd.eq (subV (v) (2) (6) (capV (v))), Pd.eq (.int .i64 (t2 l)), Pd.eq (v), Pd.eq (subV (v) (6) (10) (capV (v))), Pd.eq (.int .i64 (t3 l)), Pd.eq (.agg #[.int .i64 (t0 l), .int .i64 (t1 l), .int .i64 (t2 l), .int .i64 (t3 l)]), Pd.stc w2.heap.size 24 [.int .i64 (0), .int .i64 (0), .int .i64 (0), .int .i64 (0)]] (by kernel_rfl) (by kernel_rfl) (by kernel_rfl) ?_ ?_
    · refine stepsF_cons ?_ ?_
      · refine StepF.one rfl fun F_ w_ hR hout hD => ?_
        exact (y_mov rfl ((hout 0 rfl (by decide)).trans s17) ⟨rfl, Kept.refl _ _⟩)
      refine stepsF_cons ?_ ?_
      · refine StepF.one rfl fun F_ w_ hR hout hD => ?_
        have g9 : F_ 9 = v := (hD.get 0 rfl rfl rfl)
        exact (y_atB (0) rfl g9 rfl (by omega) (B8.all hR Apart.none) (by omega) ⟨rfl, Kept.refl _ _⟩)
      refine stepsF_cons ?_ ?_
      · refine StepF.one rfl fun F_ w_ hR hout hD => ?_
        have g10 : F_ 10 = bytAddr (v) (0) := (hD.get 0 rfl rfl rfl)
        exact (y_ldB rfl g10 (B8.all hR Apart.none) (by omega) ⟨rfl, Kept.refl _ _⟩)
      refine stepsF_cons ?_ ?_
      · refine StepF.one rfl fun F_ w_ hR hout hD => ?_
        have g11 : F_ 11 = .int .u8 ((((l).getD (0) 0 : Nat) : Int)) := (hD.get 0 rfl rfl rfl)
        exact (y_convR rfl g11 Try.underlying5 Try.underlying3 (i64_i rfl (by omega)) ⟨rfl, Kept.refl _ _⟩)
      refine stepsF_cons ?_ ?_
      · refine StepF.one rfl fun F_ w_ hR hout hD => ?_
        exact (y_mov rfl ((hout 0 rfl (by decide)).trans s17) ⟨rfl, Kept.refl _ _⟩)
      refine stepsF_cons ?_ ?_
      · refine StepF.one rfl fun F_ w_ hR hout hD => ?_
        have g13 : F_ 13 = v := (hD.get 0 rfl rfl rfl)
        exact (y_atB (1) rfl g13 rfl (by omega) (B8.all hR Apart.none) (by omega) ⟨rfl, Kept.refl _ _⟩)
      refine stepsF_cons ?_ ?_
      · refine StepF.one rfl fun F_ w_ hR hout hD => ?_
        have g14 : F_ 14 = bytAddr (v) (1) := (hD.get 0 rfl rfl rfl)
        exact (y_ldB rfl g14 (B8.all hR Apart.none) (by omega) ⟨rfl, Kept.refl _ _⟩)
      refine stepsF_cons ?_ ?_
      · refine StepF.one rfl fun F_ w_ hR hout hD => ?_
        have g15 : F_ 15 = .int .u8 ((((l).getD (1) 0 : Nat) : Int)) := (hD.get 0 rfl rfl rfl)
        exact (y_convR rfl g15 Try.underlying5 Try.underlying3 (i64_i rfl (by omega)) ⟨rfl, Kept.refl _ _⟩)
      refine stepsF_cons ?_ ?_
      · refine StepF.one rfl fun F_ w_ hR hout hD => ?_
        exact (y_mov rfl ((hout 0 rfl (by decide)).trans s17) ⟨rfl, Kept.refl _ _⟩)
      refine stepsF_cons ?_ ?_
      · refine StepF.one rfl fun F_ w_ hR hout hD => ?_
        have g17 : F_ 17 = v := (hD.get 0 rfl rfl rfl)
        exact (y_cutB (2) (6) rfl g17 rfl rfl (by omega) (by omega) (B8.all hR Apart.none) (by omega) (by omega) ⟨rfl, Kept.refl _ _⟩)
      refine stepsF_cons ?_ ?_
      · refine StepF.one rfl fun F_ w_ hR hout hD => ?_
        have g18 : F_ 18 = subV (v) (2) (6) (capV (v)) := (hD.get 0 rfl rfl rfl)
        exact (y_cs rfl rfl rfl (fun _ _ => by kernel_rfl) (ev_func _) (vsC g18 vsN) (href_number (subV (v) (2) (6) (capV (v))) (((l).drop (2)).take ((6) - (2))) (T_b) _ (by simp; omega) (((B8.all hR Apart.none)).sub (i := 2) (j := 6) (m := capV (v)) (by omega) (by have hc_ := ((B8.all hR Apart.none)).cap; omega) (by omega) (by have hc_ := ((B8.all hR Apart.none)).cap; omega)) ) (fun e_ w_ h_ => ⟨_, h_.1, congrArg (Value.int .i64) (nm_sub2 l), h_.2⟩))
      refine stepsF_cons ?_ ?_
      · refine StepF.one rfl fun F_ w_ hR hout hD => ?_
        exact (y_mov rfl ((hout 0 rfl (by decide)).trans s17) ⟨rfl, Kept.refl _ _⟩)
      refine stepsF_cons ?_ ?_
      · refine StepF.one rfl fun F_ w_ hR hout hD => ?_
        have g20 : F_ 20 = v := (hD.get 0 rfl rfl rfl)
        exact (y_cutB (6) (10) rfl g20 rfl rfl (by omega) (by omega) (B8.all hR Apart.none) (by omega) (by omega) ⟨rfl, Kept.refl _ _⟩)
      refine stepsF_cons ?_ ?_
      · refine StepF.one rfl fun F_ w_ hR hout hD => ?_
        have g21 : F_ 21 = subV (v) (6) (10) (capV (v)) := (hD.get 0 rfl rfl rfl)
        exact (y_cs rfl rfl rfl (fun _ _ => by kernel_rfl) (ev_func _) (vsC g21 vsN) (href_number (subV (v) (6) (10) (capV (v))) (((l).drop (6)).take ((10) - (6))) (T_b) _ (by simp; omega) (((B8.all hR Apart.none)).sub (i := 6) (j := 10) (m := capV (v)) (by omega) (by have hc_ := ((B8.all hR Apart.none)).cap; omega) (by omega) (by have hc_ := ((B8.all hR Apart.none)).cap; omega)) ) (fun e_ w_ h_ => ⟨_, h_.1, congrArg (Value.int .i64) (nm_sub6 l), h_.2⟩))
      refine stepsF_cons ?_ ?_
      · refine StepF.one rfl fun F_ w_ hR hout hD => ?_
        have g12 : F_ 12 = .int .i64 (t0 l) := (hD.get 0 rfl rfl rfl)
        have g16 : F_ 16 = .int .i64 (t1 l) := (hD.get 1 rfl rfl rfl)
        have g19 : F_ 19 = .int .i64 (t2 l) := (hD.get 2 rfl rfl rfl)
        have g22 : F_ 22 = .int .i64 (t3 l) := (hD.get 3 rfl rfl rfl)
        exact (y_buildL (l' := [(0, .int .i64 (t0 l)), (1, .int .i64 (t1 l)), (2, .int .i64 (t2 l)), (3, .int .i64 (t3 l))]) (cells := #[.int .i64 (t0 l), .int .i64 (t1 l), .int .i64 (t2 l), .int .i64 (t3 l)]) rfl (bpC g12 (bpC g16 (bpC g19 (bpC g22 bpN)))) (by kernel_rfl) rfl ⟨rfl, Kept.refl _ _⟩)
      refine stepsF_cons ?_ ?_
      · refine StepF.one rfl fun F_ w_ hR hout hD => ?_
        exact y_alloc_stc (n := 4) (vs := [.int .i64 (0), .int .i64 (0), .int .i64 (0), .int .i64 (0)]) rfl (by kernel_rfl) ⟨⟨_, rfl, hR.size, heap_alloc_new _ _⟩, (Kept.refl _ _).alloc _⟩
      exact stepsF_nil
    intro v34 F35 w36 k37 G38 hF39
    have B41 := B8.all k37 Apart.none
    have B42 := B4.all k37 id
    have K43 := K9.trans k37 (fun _ _ x => x.elim)
    have s44 : F35 29 = undef := (hF39 29).trans s18
    have s45 : F35 2 = .pointer (some ⟨p1, 0, none⟩) := (hF39 2).trans s19
    obtain ⟨p48, e47, e49, B50⟩ := G38 15 (by decide)
    replace B50 : Stc w36 p48 24 [.int .i64 (0), .int .i64 (0), .int .i64 (0), .int .i64 (0)] := B50
    have gr51 : Grew w0 noB (onB p48) := Grew.new K9 (onB_new e49)
    have ap52 : Apart (onB p48) (T_b) := Apart.new (onB_new e49) (B8).live
    have ap53 : Apart (onB p48) (onB p1) := Apart.new (onB_new e49) (onB_live (B4).lt)
    have s46 : F35 4 = .pointer (some ⟨p48, 0, none⟩) := (hF39 4).trans e47
    have s54 : F35 23 = .agg #[.int .i64 (t0 l), .int .i64 (t1 l), .int .i64 (t2 l), .int .i64 (t3 l)] := (hF39 23).trans (G38 14 (by decide))
    clear G38 hF39
    refine wl_store_stc (us := [.int .i64 (t0 l), .int .i64 (t1 l), .int .i64 (t2 l), .int .i64 (t3 l)]) stcT_seq rfl rfl rfl s46 s54 B50 rfl (oneI rfl (oneI rfl (oneI rfl (oneI rfl oneN)))) fun w55 B56 k57 => ?_
    have B58 := B41.all k57 (fun i h x => (((ap52).symm) i h x))
    have B59 := B42.all k57 (fun x => (((ap53).symm) p1 rfl x))
    have K60 := K43.trans k57 (Grew.ok (S := fun _ => False) gr51 noB_le)
    refine wl_nil fun F61 hF62 => ?_
    have s63 : F61 29 = undef := (hF62 29).trans s44
    have s64 : F61 2 = .pointer (some ⟨p1, 0, none⟩) := (hF62 2).trans s45
    have s65 : F61 4 = .pointer (some ⟨p48, 0, none⟩) := (hF62 4).trans s46
    clear hF62
    refine then_normal ?_
    refine wq_seq ?_
    refine wq_seq ?_
    refine wq_region ?_
    refine wl_v (.agg #[.int .i64 (t0 l), .int .i64 (t1 l), .int .i64 (t2 l), .int .i64 (t3 l)]) rfl rfl (y_load_stc stcT_seq rfl s65 B56 ⟨rfl, rfl⟩) ?_
    refine wl_call (R := fun v_ w_ => v_ = .int .i64 (seqE (t0 l) (t1 l) (t2 l) (t3 l)) ∧ Kept (fun _ => False) w55 w_) rfl rfl (y_cs rfl rfl rfl (fun _ _ => by kernel_rfl) (ev_func _) (vsC rfl vsN) (href_seq (t0 l) (t1 l) (t2 l) (t3 l)  _   ) (fun e_ w_ h_ => ⟨_, h_.1, rfl, h_.2⟩)) ?_
    rintro _ w66 ⟨rfl, k67⟩
    have B68 := B58.all k67 Apart.none
    have B69 := B59.all k67 id
    have B70 := B56.all k67 id
    have K71 := K60.trans k67 (fun _ _ x => x.elim)
    refine wl_v (.bool (decide ((seqE (t0 l) (t1 l) (t2 l) (t3 l)) ≠ (0)))) rfl rfl (y_neqI rfl rfl rfl rfl ⟨rfl, rfl⟩) ?_
    refine wl_nil fun F72 hF73 => ?_
    have s74 : F72 29 = undef := (hF73 29).trans s63
    have s75 : F72 2 = .pointer (some ⟨p1, 0, none⟩) := (hF73 2).trans s64
    have s76 : F72 4 = .pointer (some ⟨p48, 0, none⟩) := (hF73 4).trans s65
    have s77 : F72 26 = .bool (decide ((seqE (t0 l) (t1 l) (t2 l) (t3 l)) ≠ (0))) := (hF73 26).trans rfl
    clear hF73
    refine then_normal ?_
    refine wq_cond s77 (fun c78 => ?_) (fun c78 => ?_)
    · replace c78 := of_decide_eq_true c78
      refine wq_seq ?_
      have hno : ¬ odOk l := fun h => absurd (seqE_iff.2 h.2) (by assumption)
      refine wq_region ?_
      refine wl_v (.agg #[.int .i64 (0), .int .i64 (0), .int .i64 (0), .int .i64 (0)]) rfl rfl (y_buildL (l' := []) (cells := #[.int .i64 (0), .int .i64 (0), .int .i64 (0), .int .i64 (0)]) rfl bpN (by kernel_rfl) rfl ⟨rfl, rfl⟩) ?_
      refine wl_store_stc (us := [.int .i64 (0), .int .i64 (0), .int .i64 (0), .int .i64 (0)]) stcT_seq rfl rfl rfl s75 rfl B69 rfl (oneI rfl (oneI rfl (oneI rfl (oneI rfl oneN)))) fun w79 B80 k81 => ?_
      have B82 := B68.all k81 (fun i h x => (((ap7).symm) i h x))
      have B83 := B70.all k81 (fun x => ((ap53) p48 rfl x))
      have K84 := K71.trans k81 (Grew.ok (S := fun _ => False) gr6 noB_le)
      refine wl_v (.int .i64 (110)) rfl rfl (y_asg rfl rfl ⟨rfl, rfl⟩) ?_
      refine wl_nil fun F85 hF86 => ?_
      have s87 : F85 29 = undef := (hF86 29).trans s74
      have s88 : F85 2 = .pointer (some ⟨p1, 0, none⟩) := (hF86 2).trans s75
      have s89 : F85 3 = .int .i64 (110) := (hF86 3).trans rfl
      clear hF86
      refine then_normal ?_
      refine wq_ret ?_
      refine then_ret ?_
      exact end_2 s87 rfl (res_stc (vs := [.int .i64 (0), .int .i64 (0), .int .i64 (0), .int .i64 (0)]) stcT_seq rfl s88 B80) (res_tmp (v := .int .i64 (110)) rfl s89) ⟨(by first | (unfold od odE; rw [if_pos hok, if_pos hok, if_pos hok, if_pos hok, if_pos hok]) | (unfold od odE; rw [if_neg hno, if_neg hno, if_neg hno, if_neg hno, if_neg hno])), K84⟩
    · replace c78 := of_decide_eq_false c78
      refine wq_skip ?_
      refine then_normal ?_
      refine wq_seq ?_
      have hok : odOk l := ⟨by omega, seqE_iff.1 (by first | assumption | (apply Decidable.byContradiction; assumption))⟩
      refine wq_region ?_
      refine wl_v (.agg #[.int .i64 (t0 l), .int .i64 (t1 l), .int .i64 (t2 l), .int .i64 (t3 l)]) rfl rfl (y_load_stc stcT_seq rfl s76 B70 ⟨rfl, rfl⟩) ?_
      refine wl_store_stc (us := [.int .i64 (t0 l), .int .i64 (t1 l), .int .i64 (t2 l), .int .i64 (t3 l)]) stcT_seq rfl rfl rfl s75 rfl B69 rfl (oneI rfl (oneI rfl (oneI rfl (oneI rfl oneN)))) fun w90 B91 k92 => ?_
      have B93 := B68.all k92 (fun i h x => (((ap7).symm) i h x))
      have B94 := B70.all k92 (fun x => ((ap53) p48 rfl x))
      have K95 := K71.trans k92 (Grew.ok (S := fun _ => False) gr6 noB_le)
      refine wl_v (.int .i64 (0)) rfl rfl (y_asg rfl rfl ⟨rfl, rfl⟩) ?_
      refine wl_nil fun F96 hF97 => ?_
      have s98 : F96 29 = undef := (hF97 29).trans s74
      have s99 : F96 2 = .pointer (some ⟨p1, 0, none⟩) := (hF97 2).trans s75
      have s100 : F96 3 = .int .i64 (0) := (hF97 3).trans rfl
      clear hF97
      refine then_normal ?_
      refine wq_ret ?_
      exact end_2 s98 rfl (res_stc (vs := [.int .i64 (t0 l), .int .i64 (t1 l), .int .i64 (t2 l), .int .i64 (t3 l)]) stcT_seq rfl s99 B91) (res_tmp (v := .int .i64 (0)) rfl s100) ⟨(by first | (unfold od odE; rw [if_pos hok, if_pos hok, if_pos hok, if_pos hok, if_pos hok]) | (unfold od odE; rw [if_neg hno, if_neg hno, if_neg hno, if_neg hno, if_neg hno])), K95⟩
end Go.Proofs.Ytnccblhdokplkaa
set_option maxRecDepth 100000
namespace Go.Proofs.Ytnccblhdokplkaa
open Go.RowKit
set_option maxHeartbeats 4000000 in
set_option maxRecDepth 100000 in
theorem href_open (W H R B : Int) (w0 : World) :
    Calls Try.prog 11 #[.agg #[.int .i64 (W), .int .i64 (H), .int .i64 (R), .int .i64 (B)]] w0 fun e w' => ∃ (v1 : Value) (T1 : Nat → Prop), e = .returned (.tuple #[v1, .int .i64 (seqE W H R B)]) ∧ Kept (fun _ => False) w0 w' ∧ (Owb w' T1 v1 ((opB W H R B)) ∧ Grew w0 noB T1) := by
  refine calls_wq (args := [.agg #[.int .i64 (W), .int .i64 (H), .int .i64 (R), .int .i64 (B)]]) 22 Try.func11 rfl rfl (Nat.le_of_ble_eq_true rfl) ?_
  have K0 := Kept.refl (fun _ => False) w0
  refine wq_seq ?_
  refine wq_region ?_
  refine wl_box_stc (vs := [.int .i64 (W), .int .i64 (H), .int .i64 (R), .int .i64 (B)]) rfl rfl rfl rfl fun p1 w2 B4 g5 k3 => ?_
  have gr6 : Grew w0 noB (onB p1) := Grew.new K0 g5
  have K7 := K0.trans k3 (fun _ _ x => x.elim)
  refine wl_v (.slice none 0 0) rfl rfl (y_asg rfl rfl ⟨rfl, rfl⟩) ?_
  refine wl_v (.int .i64 (0)) rfl rfl (y_asg rfl rfl ⟨rfl, rfl⟩) ?_
  refine wl_nil fun F8 hF9 => ?_
  have s10 : F8 22 = undef := (hF9 22).trans rfl
  have s11 : F8 1 = .pointer (some ⟨p1, 0, none⟩) := (hF9 1).trans rfl
  clear hF9
  refine then_normal ?_
  refine wq_seq ?_
  refine wq_seq ?_
  refine wq_region ?_
  refine wl_v (.agg #[.int .i64 (W), .int .i64 (H), .int .i64 (R), .int .i64 (B)]) rfl rfl (y_load_stc stcT_seq rfl s11 B4 ⟨rfl, rfl⟩) ?_
  refine wl_call (R := fun v_ w_ => v_ = .int .i64 (seqE (W) (H) (R) (B)) ∧ Kept (fun _ => False) w2 w_) rfl rfl (y_cs rfl rfl rfl (fun _ _ => by kernel_rfl) (ev_func _) (vsC rfl vsN) (href_seq (W) (H) (R) (B)  _   ) (fun e_ w_ h_ => ⟨_, h_.1, rfl, h_.2⟩)) ?_
  rintro _ w12 ⟨rfl, k13⟩
  have B14 := B4.all k13 id
  have K15 := K7.trans k13 (fun _ _ x => x.elim)
  refine wl_v (.bool (decide ((seqE (W) (H) (R) (B)) ≠ (0)))) rfl rfl (y_neqI rfl rfl rfl rfl ⟨rfl, rfl⟩) ?_
  refine wl_nil fun F16 hF17 => ?_
  have s18 : F16 22 = undef := (hF17 22).trans s10
  have s19 : F16 1 = .pointer (some ⟨p1, 0, none⟩) := (hF17 1).trans s11
  have s20 : F16 6 = .bool (decide ((seqE (W) (H) (R) (B)) ≠ (0))) := (hF17 6).trans rfl
  clear hF17
  refine then_normal ?_
  refine wq_cond s20 (fun c21 => ?_) (fun c21 => ?_)
  · replace c21 := of_decide_eq_true c21
    refine wq_seq ?_
    have hno : ¬ seqOk W H R B := fun h => absurd (seqE_iff.2 h) (by assumption)
    refine wq_region ?_
    refine wl_v (.slice none 0 0) rfl rfl (y_asg rfl rfl ⟨rfl, rfl⟩) ?_
    refine wl_v (.int .i64 (110)) rfl rfl (y_asg rfl rfl ⟨rfl, rfl⟩) ?_
    refine wl_nil fun F22 hF23 => ?_
    have s24 : F22 22 = undef := (hF23 22).trans s18
    have s25 : F22 2 = .slice none 0 0 := (hF23 2).trans rfl
    have s26 : F22 3 = .int .i64 (110) := (hF23 3).trans rfl
    clear hF23
    refine then_normal ?_
    refine wq_ret ?_
    refine then_ret ?_
    exact end_2 s24 rfl (res_tmp (v := .slice none 0 0) rfl s25) (res_tmp (v := .int .i64 (110)) rfl s26) ⟨(.slice none 0 0), noB, (by first | rw [seqE_iff.2 hok] | rw [show seqE W H R B = 110 from if_neg hno]), K15, ⟨(by first | (rw [show opB W H R B = tenB W H R B from if_pos hok]; exact (Owb.nil _)) | (rw [show opB W H R B = [] from if_neg hno]; exact (Owb.nil _))), (Grew.refl _ _)⟩⟩
  · replace c21 := of_decide_eq_false c21
    refine wq_skip ?_
    refine then_normal ?_
    refine wq_seq ?_
    have hok : seqOk W H R B := seqE_iff.1 (by first | assumption | (apply Decidable.byContradiction; assumption))
    refine wq_made (S := fun _ => False) [] [some 7, some 8, some 9, some 10, some 11, some 12, some 13, some 14, some 15, some 16, some 17, some 18, some 19, some 20, some 21, some 2, some 3] [Pm.eq (.pointer (some ⟨p1, 0, none⟩)), Pm.eq (.int .i64 (W)), Pm.eq (.int .u8 ((((btI W 1) : Nat) : Int))), Pm.eq (.pointer (some ⟨p1, 1, none⟩)), Pm.eq (.int .i64 (H)), Pm.eq (.int .u8 ((((btI H 1) : Nat) : Int))), Pm.new (owThm ([(btI W 1), (btI H 1)])), Pm.eq (.pointer (some ⟨p1, 2, none⟩)), Pm.eq (.int .i64 (R)), Pm.new (owThm ((fourI (R)))), Pm.new (owThm (([(btI W 1), (btI H 1)]) ++ ((fourI (R))))), Pm.eq (.pointer (some ⟨p1, 3, none⟩)), Pm.eq (.int .i64 (B)), Pm.new (owThm ((fourI (B)))), Pm.new (owThm ((([(btI W 1), (btI H 1)]) ++ ((fourI (R)))) ++ ((fourI (B))))), Pm.new (owThm ((([(btI W 1), (btI H 1)]) ++ ((fourI (R)))) ++ ((fourI (B))))), Pm.eq (.int .i64 (0))] [none, none, none, none, none, none, none, none, none, none, some (true, 6), none, none, none, some (true, 10), some (true, 14), none] [] [noB, noB, noB, noB, noB, noB, noB, noB, noB, noB, noB, noB, noB, noB, noB, noB, noB] (by kernel_rfl) (by kernel_rfl) (by kernel_rfl) rfl rfl (by kernel_rfl) ⟨rfl, ⟨rfl, ⟨rfl, ⟨rfl, ⟨rfl, ⟨rfl, ⟨rfl, ⟨rfl, ⟨rfl, ⟨rfl, ⟨rfl, ⟨rfl, ⟨rfl, ⟨rfl, ⟨rfl, ⟨rfl, ⟨rfl, trivial⟩⟩⟩⟩⟩⟩⟩⟩⟩⟩⟩⟩⟩⟩⟩⟩⟩ ⟨(fun _ z_ => z_.elim), ⟨(fun _ z_ => z_.elim), ⟨(fun _ z_ => z_.elim), ⟨(fun _ z_ => z_.elim), ⟨(fun _ z_ => z_.elim), ⟨(fun _ z_ => z_.elim), ⟨(fun _ z_ => z_.elim), ⟨(fun _ z_ => z_.elim), ⟨(fun _ z_ => z_.elim), ⟨(fun _ z_ => z_.elim), ⟨(fun _ z_ => z_.elim), ⟨(fun _ z_ => z_.elim), ⟨(fun _ z_ => z_.elim), ⟨(fun _ z_ => z_.elim), ⟨(fun _ z_ => z_.elim), ⟨(fun _ z_ => z_.elim), ⟨(fun _ z_ => z_.elim), trivial⟩⟩⟩⟩⟩⟩⟩⟩⟩⟩⟩⟩⟩⟩⟩⟩⟩ trivial ?_ ?_
    · refine stepsFM_cons ?_ ?_
      · refine StepFM.one rfl rfl fun F_ w_ hR hout hD hE_ => ?_
        exact (y_fieldR (n := 1) rfl ((hout 1 rfl (by decide)).trans s19) Try.underlying24 rfl (by kernel_rfl) (by decide) rfl ⟨rfl, Kept.refl _ _⟩)
      refine stepsFM_cons ?_ ?_
      · refine StepFM.one rfl rfl fun F_ w_ hR hout hD hE_ => ?_
        have g7 : F_ 7 = .pointer (some ⟨p1, 0, none⟩) := (hD.get 0 rfl rfl rfl).1
        exact (y_ld_stc rfl g7 Try.underlying3 (B14.all hR id) rfl rfl ⟨rfl, Kept.refl _ _⟩)
      refine stepsFM_cons ?_ ?_
      · refine StepFM.one rfl rfl fun F_ w_ hR hout hD hE_ => ?_
        have g8 : F_ 8 = .int .i64 (W) := (hD.get 0 rfl rfl rfl).1
        exact (y_convR rfl g8 Try.underlying3 Try.underlying5 (byte_one W) ⟨rfl, Kept.refl _ _⟩)
      refine stepsFM_cons ?_ ?_
      · refine StepFM.one rfl rfl fun F_ w_ hR hout hD hE_ => ?_
        exact (y_fieldR (n := 1) rfl ((hout 1 rfl (by decide)).trans s19) Try.underlying24 rfl (by kernel_rfl) (by decide) rfl ⟨rfl, Kept.refl _ _⟩)
      refine stepsFM_cons ?_ ?_
      · refine StepFM.one rfl rfl fun F_ w_ hR hout hD hE_ => ?_
        have g10 : F_ 10 = .pointer (some ⟨p1, 1, none⟩) := (hD.get 0 rfl rfl rfl).1
        exact (y_ld_stc rfl g10 Try.underlying3 (B14.all hR id) rfl rfl ⟨rfl, Kept.refl _ _⟩)
      refine stepsFM_cons ?_ ?_
      · refine StepFM.one rfl rfl fun F_ w_ hR hout hD hE_ => ?_
        have g11 : F_ 11 = .int .i64 (H) := (hD.get 0 rfl rfl rfl).1
        exact (y_convR rfl g11 Try.underlying3 Try.underlying5 (byte_one H) ⟨rfl, Kept.refl _ _⟩)
      refine stepsFM_cons ?_ ?_
      · refine StepFM.one rfl rfl fun F_ w_ hR hout hD hE_ => ?_
        have g9 : F_ 9 = .int .u8 ((((btI W 1) : Nat) : Int)) := (hD.get 0 rfl rfl rfl).1
        have g12 : F_ 12 = .int .u8 ((((btI H 1) : Nat) : Int)) := (hD.get 1 rfl rfl rfl).1
        exact y_builtBn (xs := [.tmp 9, .tmp 12]) (vs := [.int .u8 ((((btI W 1) : Nat) : Int)), .int .u8 ((((btI H 1) : Nat) : Int))]) (l := [(btI W 1), (btI H 1)]) rfl rfl rfl (vsC g9 (vsC g12 vsN)) rfl (Nat.le_of_ble_eq_true rfl) (Nat.le_of_ble_eq_true rfl) (two_lt W H) fun v_ w2_ T_ b_ g_ k_ => ⟨k_, T_, b_, g_⟩
      refine stepsFM_cons ?_ ?_
      · refine StepFM.one rfl rfl fun F_ w_ hR hout hD hE_ => ?_
        exact (y_fieldR (n := 1) rfl ((hout 1 rfl (by decide)).trans s19) Try.underlying24 rfl (by kernel_rfl) (by decide) rfl ⟨rfl, Kept.refl _ _⟩)
      refine stepsFM_cons ?_ ?_
      · refine StepFM.one rfl rfl fun F_ w_ hR hout hD hE_ => ?_
        have g14 : F_ 14 = .pointer (some ⟨p1, 2, none⟩) := (hD.get 0 rfl rfl rfl).1
        exact (y_ld_stc rfl g14 Try.underlying3 (B14.all hR id) rfl rfl ⟨rfl, Kept.refl _ _⟩)
      refine stepsFM_cons ?_ ?_
      · refine StepFM.one rfl rfl fun F_ w_ hR hout hD hE_ => ?_
        have g15 : F_ 15 = .int .i64 (R) := (hD.get 0 rfl rfl rfl).1
        exact (y_cs rfl rfl rfl (fun _ _ => by kernel_rfl) (ev_func _) (vsC g15 vsN) (href_four (R)  _   ) (fun e_ w_ h_ => by obtain ⟨v_, T_, he_, k_, hb_, hg_⟩ := h_; exact ⟨v_, he_, k_, T_, hb_, hg_⟩))
      refine stepsFM_cons ?_ ?_
      · refine StepFM.uses 6 13 rfl rfl rfl rfl fun F_ w_ Tu_ hR hout hD hE_ hB_ _ => ?_
        obtain ⟨T16_, h16_, _⟩ : ∃ T_, Owb w_ T_ (F_ 16) ((fourI (R))) ∧ Grew w12 _ T_ := (hD.get 1 rfl rfl rfl).2.1 rfl
        exact y_appendB rfl rfl rfl rfl hB_ (h16_).byt ((by simp [fourI])) fun v_ w2_ T_ b_ g_ k_ => ⟨k_, T_, b_, g_⟩
      refine stepsFM_cons ?_ ?_
      · refine StepFM.one rfl rfl fun F_ w_ hR hout hD hE_ => ?_
        exact (y_fieldR (n := 1) rfl ((hout 1 rfl (by decide)).trans s19) Try.underlying24 rfl (by kernel_rfl) (by decide) rfl ⟨rfl, Kept.refl _ _⟩)
      refine stepsFM_cons ?_ ?_
      · refine StepFM.one rfl rfl fun F_ w_ hR hout hD hE_ => ?_
        have g18 : F_ 18 = .pointer (some ⟨p1, 3, none⟩) := (hD.get 0 rfl rfl rfl).1
        exact (y_ld_stc rfl g18 Try.underlying3 (B14.all hR id) rfl rfl ⟨rfl, Kept.refl _ _⟩)
      refine stepsFM_cons ?_ ?_
      · refine StepFM.one rfl rfl fun F_ w_ hR hout hD hE_ => ?_
        have g19 : F_ 19 = .int .i64 (B) := (hD.get 0 rfl rfl rfl).1
        exact (y_cs rfl rfl rfl (fun _ _ => by kernel_rfl) (ev_func _) (vsC g19 vsN) (href_four (B)  _   ) (fun e_ w_ h_ => by obtain ⟨v_, T_, he_, k_, hb_, hg_⟩ := h_; exact ⟨v_, he_, k_, T_, hb_, hg_⟩))
      refine stepsFM_cons ?_ ?_
      · refine StepFM.uses 10 17 rfl rfl rfl rfl fun F_ w_ Tu_ hR hout hD hE_ hB_ _ => ?_
        obtain ⟨T20_, h20_, _⟩ : ∃ T_, Owb w_ T_ (F_ 20) ((fourI (B))) ∧ Grew w12 _ T_ := (hD.get 1 rfl rfl rfl).2.1 rfl
        exact y_appendB rfl rfl rfl rfl hB_ (h20_).byt ((by simp [fourI])) fun v_ w2_ T_ b_ g_ k_ => ⟨k_, T_, b_, g_⟩
      refine stepsFM_cons ?_ ?_
      · refine StepFM.uses 14 21 rfl rfl rfl rfl fun F_ w_ Tu_ hR hout hD hE_ hB_ _ => ?_
        exact y_assign rfl ⟨Kept.refl _ _, _, hB_, Grew.refl _ _⟩
      refine stepsFM_cons ?_ ?_
      · refine StepFM.one rfl rfl fun F_ w_ hR hout hD hE_ => ?_
        exact (y_asg rfl rfl ⟨rfl, Kept.refl _ _⟩)
      exact stepsFM_nil
    intro v29 Tf36 F30 w31 k32 G33 Gt37 Ga38 hF34
    have B39 := B14.all k32 id
    have K40 := K15.trans k32 (fun _ _ x => x.elim)
    obtain ⟨v41, e43⟩ : ∃ v_, v_ = v29 15 := ⟨_, rfl⟩
    obtain ⟨T42, e44⟩ : ∃ T_, T_ = Tf36 15 := ⟨_, rfl⟩
    have B45 : Owb w31 T42 v41 ((([(btI W 1), (btI H 1)]) ++ ((fourI (R)))) ++ ((fourI (B)))) := by rw [e44, e43]; exact (Gt37 15 _ rfl rfl).1
    have g46 : Grew w12 (noB) T42 := by rw [e44]; exact (Gt37 15 _ rfl rfl).2
    have gr47 : Grew w0 noB (T42) := Grew.new K15 g46
    have ap48 : Apart (T42) (onB p1) := Apart.new g46 (onB_live (B14).lt)
    clear Gt37 Ga38
    have s49 : F30 22 = undef := (hF34 22).trans s18
    have s50 : F30 2 = v41 := (hF34 2).trans e43.symm
    have s51 : F30 3 = .int .i64 (0) := (hF34 3).trans (G33 16 (by decide))
    clear G33 hF34
    refine then_normal ?_
    refine wq_ret ?_
    exact end_2 s49 rfl (res_tmp (v := v41) rfl s50) (res_tmp (v := .int .i64 (0)) rfl s51) ⟨v41, T42, (by first | rw [seqE_iff.2 hok] | rw [show seqE W H R B = 110 from if_neg hno]), K40, ⟨(by first | (rw [show opB W H R B = tenB W H R B from if_pos hok]; exact B45) | (rw [show opB W H R B = [] from if_neg hno]; exact B45)), gr47⟩⟩
set_option maxHeartbeats 4000000 in
set_option maxRecDepth 100000 in
theorem href_write (K Q D F : Int) (v : Value) (l : List Nat) (T_b : Nat → Prop) (w0 : World) (hm : l.length < 1000000000) (h_b : Byt w0 T_b v (l)) :
    Calls Try.prog 13 #[.agg #[.int .i64 (K), .int .i64 (Q), .int .i64 (D), .int .i64 (F)], v] w0 fun e w' => ∃ (v1 : Value) (T1 : Nat → Prop), e = .returned (.tuple #[v1, .int .i64 (headE K Q D F)]) ∧ Kept (fun _ => False) w0 w' ∧ (Owb w' T1 v1 ((wrB K Q D F l)) ∧ Grew w0 noB T1) := by
  refine calls_wq (args := [.agg #[.int .i64 (K), .int .i64 (Q), .int .i64 (D), .int .i64 (F)], v]) 26 Try.func13 rfl rfl (Nat.le_of_ble_eq_true rfl) ?_
  have K0 := Kept.refl (fun _ => False) w0
  have g_b := Grew.refl w0 T_b
  refine wq_seq ?_
  refine wq_region ?_
  refine wl_box_stc (vs := [.int .i64 (K), .int .i64 (Q), .int .i64 (D), .int .i64 (F)]) rfl rfl rfl rfl fun p1 w2 B4 g5 k3 => ?_
  have gr6 : Grew w0 noB (onB p1) := Grew.new K0 g5
  have ap7 : Apart (onB p1) (T_b) := Apart.new g5 (h_b).live
  have B8 := h_b.all k3 Apart.none
  have K9 := K0.trans k3 (fun _ _ x => x.elim)
  refine wl_v (.slice none 0 0) rfl rfl (y_asg rfl rfl ⟨rfl, rfl⟩) ?_
  refine wl_v (.int .i64 (0)) rfl rfl (y_asg rfl rfl ⟨rfl, rfl⟩) ?_
  refine wl_nil fun F10 hF11 => ?_
  have s12 : F10 1 = v := (hF11 1).trans rfl
  have s13 : F10 26 = undef := (hF11 26).trans rfl
  have s14 : F10 2 = .pointer (some ⟨p1, 0, none⟩) := (hF11 2).trans rfl
  clear hF11
  refine then_normal ?_
  refine wq_seq ?_
  refine wq_seq ?_
  refine wq_region ?_
  refine wl_v (.agg #[.int .i64 (K), .int .i64 (Q), .int .i64 (D), .int .i64 (F)]) rfl rfl (y_load_stc stcT_head rfl s14 B4 ⟨rfl, rfl⟩) ?_
  refine wl_call (R := fun v_ w_ => v_ = .int .i64 (headE (K) (Q) (D) (F)) ∧ Kept (fun _ => False) w2 w_) rfl rfl (y_cs rfl rfl rfl (fun _ _ => by kernel_rfl) (ev_func _) (vsC rfl vsN) (href_head (K) (Q) (D) (F)  _   ) (fun e_ w_ h_ => ⟨_, h_.1, rfl, h_.2⟩)) ?_
  rintro _ w15 ⟨rfl, k16⟩
  have B17 := B8.all k16 Apart.none
  have B18 := B4.all k16 id
  have K19 := K9.trans k16 (fun _ _ x => x.elim)
  refine wl_v (.bool (decide ((headE (K) (Q) (D) (F)) ≠ (0)))) rfl rfl (y_neqI rfl rfl rfl rfl ⟨rfl, rfl⟩) ?_
  refine wl_nil fun F20 hF21 => ?_
  have s22 : F20 1 = v := (hF21 1).trans s12
  have s23 : F20 26 = undef := (hF21 26).trans s13
  have s24 : F20 2 = .pointer (some ⟨p1, 0, none⟩) := (hF21 2).trans s14
  have s25 : F20 8 = .bool (decide ((headE (K) (Q) (D) (F)) ≠ (0))) := (hF21 8).trans rfl
  clear hF21
  refine then_normal ?_
  refine wq_cond s25 (fun c26 => ?_) (fun c26 => ?_)
  · replace c26 := of_decide_eq_true c26
    refine wq_seq ?_
    have hno : ¬ headOk K Q D F := fun h => absurd (headE_iff.2 h) (by assumption)
    refine wq_region ?_
    refine wl_v (.slice none 0 0) rfl rfl (y_asg rfl rfl ⟨rfl, rfl⟩) ?_
    refine wl_v (.int .i64 (110)) rfl rfl (y_asg rfl rfl ⟨rfl, rfl⟩) ?_
    refine wl_nil fun F27 hF28 => ?_
    have s29 : F27 26 = undef := (hF28 26).trans s23
    have s30 : F27 4 = .slice none 0 0 := (hF28 4).trans rfl
    have s31 : F27 5 = .int .i64 (110) := (hF28 5).trans rfl
    clear hF28
    refine then_normal ?_
    refine wq_ret ?_
    refine then_ret ?_
    exact end_2 s29 rfl (res_tmp (v := .slice none 0 0) rfl s30) (res_tmp (v := .int .i64 (110)) rfl s31) ⟨(.slice none 0 0), noB, (by first | rw [headE_iff.2 hok] | rw [show headE K Q D F = 110 from if_neg hno]), K19, ⟨(by first | (rw [show wrB K Q D F l = tenB K Q D F ++ l from if_pos hok]; exact (Owb.nil _)) | (rw [show wrB K Q D F l = [] from if_neg hno]; exact (Owb.nil _))), (Grew.refl _ _)⟩⟩
  · replace c26 := of_decide_eq_false c26
    refine wq_skip ?_
    refine then_normal ?_
    refine wq_seq ?_
    have hok : headOk K Q D F := headE_iff.1 (by first | assumption | (apply Decidable.byContradiction; assumption))
    refine wq_made (S := fun _ => False) [] [some 9, some 10, some 11, some 12, some 13, some 14, some 15, some 16, some 17, some 18, some 19, some 20, some 21, some 22, some 23, some 24, some 25, some 4, some 5] [Pm.eq (.pointer (some ⟨p1, 0, none⟩)), Pm.eq (.int .i64 (K)), Pm.eq (.int .u8 ((((btI K 1) : Nat) : Int))), Pm.eq (.pointer (some ⟨p1, 1, none⟩)), Pm.eq (.int .i64 (Q)), Pm.eq (.int .u8 ((((btI Q 1) : Nat) : Int))), Pm.new (owThm ([(btI K 1), (btI Q 1)])), Pm.eq (.pointer (some ⟨p1, 2, none⟩)), Pm.eq (.int .i64 (D)), Pm.new (owThm ((fourI (D)))), Pm.new (owThm (([(btI K 1), (btI Q 1)]) ++ ((fourI (D))))), Pm.eq (.pointer (some ⟨p1, 3, none⟩)), Pm.eq (.int .i64 (F)), Pm.new (owThm ((fourI (F)))), Pm.new (owThm ((([(btI K 1), (btI Q 1)]) ++ ((fourI (D)))) ++ ((fourI (F))))), Pm.eq (v), Pm.new (owThm (((([(btI K 1), (btI Q 1)]) ++ ((fourI (D)))) ++ ((fourI (F)))) ++ (l))), Pm.new (owThm (((([(btI K 1), (btI Q 1)]) ++ ((fourI (D)))) ++ ((fourI (F)))) ++ (l))), Pm.eq (.int .i64 (0))] [none, none, none, none, none, none, none, none, none, none, some (true, 6), none, none, none, some (true, 10), none, some (true, 14), some (true, 16), none] [] [noB, noB, noB, noB, noB, noB, noB, noB, noB, noB, noB, noB, noB, noB, noB, noB, noB, noB, noB] (by kernel_rfl) (by kernel_rfl) (by kernel_rfl) rfl rfl (by kernel_rfl) ⟨rfl, ⟨rfl, ⟨rfl, ⟨rfl, ⟨rfl, ⟨rfl, ⟨rfl, ⟨rfl, ⟨rfl, ⟨rfl, ⟨rfl, ⟨rfl, ⟨rfl, ⟨rfl, ⟨rfl, ⟨rfl, ⟨rfl, ⟨rfl, ⟨rfl, trivial⟩⟩⟩⟩⟩⟩⟩⟩⟩⟩⟩⟩⟩⟩⟩⟩⟩⟩⟩ ⟨(fun _ z_ => z_.elim), ⟨(fun _ z_ => z_.elim), ⟨(fun _ z_ => z_.elim), ⟨(fun _ z_ => z_.elim), ⟨(fun _ z_ => z_.elim), ⟨(fun _ z_ => z_.elim), ⟨(fun _ z_ => z_.elim), ⟨(fun _ z_ => z_.elim), ⟨(fun _ z_ => z_.elim), ⟨(fun _ z_ => z_.elim), ⟨(fun _ z_ => z_.elim), ⟨(fun _ z_ => z_.elim), ⟨(fun _ z_ => z_.elim), ⟨(fun _ z_ => z_.elim), ⟨(fun _ z_ => z_.elim), ⟨(fun _ z_ => z_.elim), ⟨(fun _ z_ => z_.elim), ⟨(fun _ z_ => z_.elim), ⟨(fun _ z_ => z_.elim), trivial⟩⟩⟩⟩⟩⟩⟩⟩⟩⟩⟩⟩⟩⟩⟩⟩⟩⟩⟩ trivial ?_ ?_
    · refine stepsFM_cons ?_ ?_
      · refine StepFM.one rfl rfl fun F_ w_ hR hout hD hE_ => ?_
        exact (y_fieldR (n := 1) rfl ((hout 2 rfl (by decide)).trans s24) Try.underlying26 rfl (by kernel_rfl) (by decide) rfl ⟨rfl, Kept.refl _ _⟩)
      refine stepsFM_cons ?_ ?_
      · refine StepFM.one rfl rfl fun F_ w_ hR hout hD hE_ => ?_
        have g9 : F_ 9 = .pointer (some ⟨p1, 0, none⟩) := (hD.get 0 rfl rfl rfl).1
        exact (y_ld_stc rfl g9 Try.underlying3 (B18.all hR id) rfl rfl ⟨rfl, Kept.refl _ _⟩)
      refine stepsFM_cons ?_ ?_
      · refine StepFM.one rfl rfl fun F_ w_ hR hout hD hE_ => ?_
        have g10 : F_ 10 = .int .i64 (K) := (hD.get 0 rfl rfl rfl).1
        exact (y_convR rfl g10 Try.underlying3 Try.underlying5 (byte_one K) ⟨rfl, Kept.refl _ _⟩)
      refine stepsFM_cons ?_ ?_
      · refine StepFM.one rfl rfl fun F_ w_ hR hout hD hE_ => ?_
        exact (y_fieldR (n := 1) rfl ((hout 2 rfl (by decide)).trans s24) Try.underlying26 rfl (by kernel_rfl) (by decide) rfl ⟨rfl, Kept.refl _ _⟩)
      refine stepsFM_cons ?_ ?_
      · refine StepFM.one rfl rfl fun F_ w_ hR hout hD hE_ => ?_
        have g12 : F_ 12 = .pointer (some ⟨p1, 1, none⟩) := (hD.get 0 rfl rfl rfl).1
        exact (y_ld_stc rfl g12 Try.underlying3 (B18.all hR id) rfl rfl ⟨rfl, Kept.refl _ _⟩)
      refine stepsFM_cons ?_ ?_
      · refine StepFM.one rfl rfl fun F_ w_ hR hout hD hE_ => ?_
        have g13 : F_ 13 = .int .i64 (Q) := (hD.get 0 rfl rfl rfl).1
        exact (y_convR rfl g13 Try.underlying3 Try.underlying5 (byte_one Q) ⟨rfl, Kept.refl _ _⟩)
      refine stepsFM_cons ?_ ?_
      · refine StepFM.one rfl rfl fun F_ w_ hR hout hD hE_ => ?_
        have g11 : F_ 11 = .int .u8 ((((btI K 1) : Nat) : Int)) := (hD.get 0 rfl rfl rfl).1
        have g14 : F_ 14 = .int .u8 ((((btI Q 1) : Nat) : Int)) := (hD.get 1 rfl rfl rfl).1
        exact y_builtBn (xs := [.tmp 11, .tmp 14]) (vs := [.int .u8 ((((btI K 1) : Nat) : Int)), .int .u8 ((((btI Q 1) : Nat) : Int))]) (l := [(btI K 1), (btI Q 1)]) rfl rfl rfl (vsC g11 (vsC g14 vsN)) rfl (Nat.le_of_ble_eq_true rfl) (Nat.le_of_ble_eq_true rfl) (two_lt K Q) fun v_ w2_ T_ b_ g_ k_ => ⟨k_, T_, b_, g_⟩
      refine stepsFM_cons ?_ ?_
      · refine StepFM.one rfl rfl fun F_ w_ hR hout hD hE_ => ?_
        exact (y_fieldR (n := 1) rfl ((hout 2 rfl (by decide)).trans s24) Try.underlying26 rfl (by kernel_rfl) (by decide) rfl ⟨rfl, Kept.refl _ _⟩)
      refine stepsFM_cons ?_ ?_
      · refine StepFM.one rfl rfl fun F_ w_ hR hout hD hE_ => ?_
        have g16 : F_ 16 = .pointer (some ⟨p1, 2, none⟩) := (hD.get 0 rfl rfl rfl).1
        exact (y_ld_stc rfl g16 Try.underlying3 (B18.all hR id) rfl rfl ⟨rfl, Kept.refl _ _⟩)
      refine stepsFM_cons ?_ ?_
      · refine StepFM.one rfl rfl fun F_ w_ hR hout hD hE_ => ?_
        have g17 : F_ 17 = .int .i64 (D) := (hD.get 0 rfl rfl rfl).1
        exact (y_cs rfl rfl rfl (fun _ _ => by kernel_rfl) (ev_func _) (vsC g17 vsN) (href_four (D)  _   ) (fun e_ w_ h_ => by obtain ⟨v_, T_, he_, k_, hb_, hg_⟩ := h_; exact ⟨v_, he_, k_, T_, hb_, hg_⟩))
      refine stepsFM_cons ?_ ?_
      · refine StepFM.uses 6 15 rfl rfl rfl rfl fun F_ w_ Tu_ hR hout hD hE_ hB_ _ => ?_
        obtain ⟨T18_, h18_, _⟩ : ∃ T_, Owb w_ T_ (F_ 18) ((fourI (D))) ∧ Grew w15 _ T_ := (hD.get 1 rfl rfl rfl).2.1 rfl
        exact y_appendB rfl rfl rfl rfl hB_ (h18_).byt ((by simp [fourI])) fun v_ w2_ T_ b_ g_ k_ => ⟨k_, T_, b_, g_⟩
      refine stepsFM_cons ?_ ?_
      · refine StepFM.one rfl rfl fun F_ w_ hR hout hD hE_ => ?_
        exact (y_fieldR (n := 1) rfl ((hout 2 rfl (by decide)).trans s24) Try.underlying26 rfl (by kernel_rfl) (by decide) rfl ⟨rfl, Kept.refl _ _⟩)
      refine stepsFM_cons ?_ ?_
      · refine StepFM.one rfl rfl fun F_ w_ hR hout hD hE_ => ?_
        have g20 : F_ 20 = .pointer (some ⟨p1, 3, none⟩) := (hD.get 0 rfl rfl rfl).1
        exact (y_ld_stc rfl g20 Try.underlying3 (B18.all hR id) rfl rfl ⟨rfl, Kept.refl _ _⟩)
      refine stepsFM_cons ?_ ?_
      · refine StepFM.one rfl rfl fun F_ w_ hR hout hD hE_ => ?_
        have g21 : F_ 21 = .int .i64 (F) := (hD.get 0 rfl rfl rfl).1
        exact (y_cs rfl rfl rfl (fun _ _ => by kernel_rfl) (ev_func _) (vsC g21 vsN) (href_four (F)  _   ) (fun e_ w_ h_ => by obtain ⟨v_, T_, he_, k_, hb_, hg_⟩ := h_; exact ⟨v_, he_, k_, T_, hb_, hg_⟩))
      refine stepsFM_cons ?_ ?_
      · refine StepFM.uses 10 19 rfl rfl rfl rfl fun F_ w_ Tu_ hR hout hD hE_ hB_ _ => ?_
        obtain ⟨T22_, h22_, _⟩ : ∃ T_, Owb w_ T_ (F_ 22) ((fourI (F))) ∧ Grew w15 _ T_ := (hD.get 1 rfl rfl rfl).2.1 rfl
        exact y_appendB rfl rfl rfl rfl hB_ (h22_).byt ((by simp [fourI])) fun v_ w2_ T_ b_ g_ k_ => ⟨k_, T_, b_, g_⟩
      refine stepsFM_cons ?_ ?_
      · refine StepFM.one rfl rfl fun F_ w_ hR hout hD hE_ => ?_
        exact (y_mov rfl ((hout 1 rfl (by decide)).trans s22) ⟨rfl, Kept.refl _ _⟩)
      refine stepsFM_cons ?_ ?_
      · refine StepFM.uses 14 23 rfl rfl rfl rfl fun F_ w_ Tu_ hR hout hD hE_ hB_ _ => ?_
        have g24 : F_ 24 = v := (hD.get 1 rfl rfl rfl).1
        exact y_appendB rfl rfl rfl g24 hB_ (B17.all hR Apart.none) ((by simp [fourI]; omega)) fun v_ w2_ T_ b_ g_ k_ => ⟨k_, T_, b_, g_⟩
      refine stepsFM_cons ?_ ?_
      · refine StepFM.uses 16 25 rfl rfl rfl rfl fun F_ w_ Tu_ hR hout hD hE_ hB_ _ => ?_
        exact y_assign rfl ⟨Kept.refl _ _, _, hB_, Grew.refl _ _⟩
      refine stepsFM_cons ?_ ?_
      · refine StepFM.one rfl rfl fun F_ w_ hR hout hD hE_ => ?_
        exact (y_asg rfl rfl ⟨rfl, Kept.refl _ _⟩)
      exact stepsFM_nil
    intro v34 Tf41 F35 w36 k37 G38 Gt42 Ga43 hF39
    have B44 := B17.all k37 Apart.none
    have B45 := B18.all k37 id
    have K46 := K19.trans k37 (fun _ _ x => x.elim)
    obtain ⟨v47, e49⟩ : ∃ v_, v_ = v34 17 := ⟨_, rfl⟩
    obtain ⟨T48, e50⟩ : ∃ T_, T_ = Tf41 17 := ⟨_, rfl⟩
    have B51 : Owb w36 T48 v47 (((([(btI K 1), (btI Q 1)]) ++ ((fourI (D)))) ++ ((fourI (F)))) ++ (l)) := by rw [e50, e49]; exact (Gt42 17 _ rfl rfl).1
    have g52 : Grew w15 (noB) T48 := by rw [e50]; exact (Gt42 17 _ rfl rfl).2
    have gr53 : Grew w0 noB (T48) := Grew.new K19 g52
    have ap54 : Apart (T48) (T_b) := Apart.new g52 (B17).live
    have ap55 : Apart (T48) (onB p1) := Apart.new g52 (onB_live (B18).lt)
    clear Gt42 Ga43
    have s56 : F35 26 = undef := (hF39 26).trans s23
    have s57 : F35 4 = v47 := (hF39 4).trans e49.symm
    have s58 : F35 5 = .int .i64 (0) := (hF39 5).trans (G38 18 (by decide))
    clear G38 hF39
    refine then_normal ?_
    refine wq_ret ?_
    exact end_2 s56 rfl (res_tmp (v := v47) rfl s57) (res_tmp (v := .int .i64 (0)) rfl s58) ⟨v47, T48, (by first | rw [headE_iff.2 hok] | rw [show headE K Q D F = 110 from if_neg hno]), K46, ⟨(by first | (rw [show wrB K Q D F l = tenB K Q D F ++ l from if_pos hok]; exact B51) | (rw [show wrB K Q D F l = [] from if_neg hno]; exact B51)), gr53⟩⟩
set_option maxHeartbeats 4000000 in
set_option maxRecDepth 100000 in
theorem href_read (v : Value) (l : List Nat) (T_b : Nat → Prop) (w0 : World) (hm : l.length < 1000000000) (h_b : Byt w0 T_b v (l)) :
    Calls Try.prog 17 #[v] w0 fun e w' => ∃ (v1 : Value) (T1 : Nat → Prop), e = .returned (.tuple #[.agg #[.int .i64 (rdH t0 l), .int .i64 (rdH t1 l), .int .i64 (rdH t2 l), .int .i64 (rdH t3 l)], v1, .int .i64 (rdE l)]) ∧ Kept (fun _ => False) w0 w' ∧ (Owb w' T1 v1 ((rdP l)) ∧ Grew w0 noB T1) := by
  refine calls_wq (args := [v]) 34 Try.func17 rfl rfl (Nat.le_of_ble_eq_true rfl) ?_
  have K0 := Kept.refl (fun _ => False) w0
  have h256 := h_b.1.lt256
  have e0 := getD_lt h256 0
  have e1 := getD_lt h256 1
  have g_b := Grew.refl w0 T_b
  refine wq_seq ?_
  refine wq_region ?_
  refine wl_alloc_stc (n := 4) (vs := [.int .i64 (0), .int .i64 (0), .int .i64 (0), .int .i64 (0)]) rfl rfl rfl (by kernel_rfl) fun p1 w2 B4 g5 k3 => ?_
  have gr6 : Grew w0 noB (onB p1) := Grew.new K0 g5
  have ap7 : Apart (onB p1) (T_b) := Apart.new g5 (h_b).live
  have B8 := h_b.all k3 Apart.none
  have K9 := K0.trans k3 (fun _ _ x => x.elim)
  refine wl_v (.slice none 0 0) rfl rfl (y_asg rfl rfl ⟨rfl, rfl⟩) ?_
  refine wl_v (.int .i64 (0)) rfl rfl (y_asg rfl rfl ⟨rfl, rfl⟩) ?_
  refine wl_nil fun F10 hF11 => ?_
  have s12 : F10 0 = v := (hF11 0).trans rfl
  have s13 : F10 34 = undef := (hF11 34).trans rfl
  have s14 : F10 2 = .pointer (some ⟨p1, 0, none⟩) := (hF11 2).trans rfl
  clear hF11
  refine then_normal ?_
  refine wq_seq ?_
  refine wq_seq ?_
  refine wq_region ?_
  refine wl_v (v) rfl rfl (y_mov rfl s12 ⟨rfl, rfl⟩) ?_
  refine wl_v (.int .i64 ((((l).length : Nat) : Int))) rfl rfl (y_lenV rfl rfl rfl B8 ⟨rfl, rfl⟩) ?_
  refine wl_v (.bool (decide (((((l).length : Nat) : Int)) < (10)))) rfl rfl (y_lss rfl rfl rfl rfl ⟨rfl, rfl⟩) ?_
  refine wl_nil fun F15 hF16 => ?_
  have s17 : F15 0 = v := (hF16 0).trans s12
  have s18 : F15 34 = undef := (hF16 34).trans s13
  have s19 : F15 2 = .pointer (some ⟨p1, 0, none⟩) := (hF16 2).trans s14
  have s20 : F15 8 = .bool (decide (((((l).length : Nat) : Int)) < (10))) := (hF16 8).trans rfl
  clear hF16
  refine then_normal ?_
  refine wq_cond s20 (fun c21 => ?_) (fun c21 => ?_)
  · replace c21 := of_decide_eq_true c21
    refine wq_seq ?_
    have hno : ¬ rdOkH l := fun h => absurd h.1 (by omega)
    refine wq_region ?_
    refine wl_v (.agg #[.int .i64 (0), .int .i64 (0), .int .i64 (0), .int .i64 (0)]) rfl rfl (y_buildL (l' := []) (cells := #[.int .i64 (0), .int .i64 (0), .int .i64 (0), .int .i64 (0)]) rfl bpN (by kernel_rfl) rfl ⟨rfl, rfl⟩) ?_
    refine wl_store_stc (us := [.int .i64 (0), .int .i64 (0), .int .i64 (0), .int .i64 (0)]) stcT_head rfl rfl rfl s19 rfl B4 rfl (oneI rfl (oneI rfl (oneI rfl (oneI rfl oneN)))) fun w22 B23 k24 => ?_
    have B25 := B8.all k24 (fun i h x => (((ap7).symm) i h x))
    have K26 := K9.trans k24 (Grew.ok (S := fun _ => False) gr6 noB_le)
    refine wl_v (.slice none 0 0) rfl rfl (y_asg rfl rfl ⟨rfl, rfl⟩) ?_
    refine wl_v (.int .i64 (110)) rfl rfl (y_asg rfl rfl ⟨rfl, rfl⟩) ?_
    refine wl_nil fun F27 hF28 => ?_
    have s29 : F27 34 = undef := (hF28 34).trans s18
    have s30 : F27 2 = .pointer (some ⟨p1, 0, none⟩) := (hF28 2).trans s19
    have s31 : F27 3 = .slice none 0 0 := (hF28 3).trans rfl
    have s32 : F27 4 = .int .i64 (110) := (hF28 4).trans rfl
    clear hF28
    refine then_normal ?_
    refine wq_ret ?_
    refine then_ret ?_
    exact endc_3 s29 rfl (res_stc (vs := [.int .i64 (0), .int .i64 (0), .int .i64 (0), .int .i64 (0)]) stcT_head rfl s30 B23) (res_tmp (v := .slice none 0 0) rfl s31) (res_tmp (v := .int .i64 (110)) rfl s32) ⟨(.slice none 0 0), noB, (by first | (unfold rdH rdE; rw [if_pos hok, if_pos hok, if_pos hok, if_pos hok, if_pos hok]) | (unfold rdH rdE; rw [if_neg hno, if_neg hno, if_neg hno, if_neg hno, if_neg hno])), K26, ⟨(by first | (rw [show rdP l = [] ++ List.take (l.length - 10) (List.drop 10 l) from by rw [show rdP l = l.drop 10 from if_pos hok, List.nil_append, List.take_of_length_le (by rw [List.length_drop]; exact Nat.le_refl _)]]; exact (Owb.nil _)) | (rw [show rdP l = [] from if_neg hno]; exact (Owb.nil _))), (Grew.refl _ _)⟩⟩
  · replace c21 := of_decide_eq_false c21
    refine wq_skip ?_
    refine then_normal ?_
    refine wq_seq ?_
    have u33 := getD_lt (B8).lt256 (0)
    have u34 := getD_lt (B8).lt256 (1)
    refine wq_tail 16 [some 10, some 11, some 12, some 13, some 14, some 15, some 16, some 17, some 18, some 19, some 20, some 21, some 22, some 23, some 24, some 5] [Pd.eq (v), Pd.eq (bytAddr (v) (0)), Pd.eq (.int .u8 ((((l).getD (0) 0 : Nat) : Int))), Pd.eq (.int .i64 (t0 l)), Pd.eq (v), Pd.eq (bytAddr (v) (1)), Pd.eq (.int .u8 ((((l).getD (1) 0 : Nat) : Int))), Pd.eq (.int .i64 (t1 l)), Pd.eq (v), Pd.eq (subV (v) (2) (6) (capV (v))), Pd.eq (.int .i64 (t2 l)), Pd.eq (v), Pd.eq (subV (v) (6) (10) (capV (v))), Pd.eq (.int .i64 (t3 l)), Pd.eq (.agg #[.int .i64 (t0 l), .int .i64 (t1 l), .int .i64 (t2 l), .int .i64 (t3 l)]), Pd.stc w2.heap.size 26 [.int .i64 (0), .int .i64 (0), .int .i64 (0), .int .i64 (0)]] (by kernel_rfl) (by kernel_rfl) (by kernel_rfl) ?_ ?_
    · refine stepsF_cons ?_ ?_
      · refine StepF.one rfl fun F_ w_ hR hout hD => ?_
        exact (y_mov rfl ((hout 0 rfl (by decide)).trans s17) ⟨rfl, Kept.refl _ _⟩)
      refine stepsF_cons ?_ ?_
      · refine StepF.one rfl fun F_ w_ hR hout hD => ?_
        have g10 : F_ 10 = v := (hD.get 0 rfl rfl rfl)
        exact (y_atB (0) rfl g10 rfl (by omega) (B8.all hR Apart.none) (by omega) ⟨rfl, Kept.refl _ _⟩)
      refine stepsF_cons ?_ ?_
      · refine StepF.one rfl fun F_ w_ hR hout hD => ?_
        have g11 : F_ 11 = bytAddr (v) (0) := (hD.get 0 rfl rfl rfl)
        exact (y_ldB rfl g11 (B8.all hR Apart.none) (by omega) ⟨rfl, Kept.refl _ _⟩)
      refine stepsF_cons ?_ ?_
      · refine StepF.one rfl fun F_ w_ hR hout hD => ?_
        have g12 : F_ 12 = .int .u8 ((((l).getD (0) 0 : Nat) : Int)) := (hD.get 0 rfl rfl rfl)
        exact (y_convR rfl g12 Try.underlying5 Try.underlying3 (i64_i rfl (by omega)) ⟨rfl, Kept.refl _ _⟩)
      refine stepsF_cons ?_ ?_
      · refine StepF.one rfl fun F_ w_ hR hout hD => ?_
        exact (y_mov rfl ((hout 0 rfl (by decide)).trans s17) ⟨rfl, Kept.refl _ _⟩)
      refine stepsF_cons ?_ ?_
      · refine StepF.one rfl fun F_ w_ hR hout hD => ?_
        have g14 : F_ 14 = v := (hD.get 0 rfl rfl rfl)
        exact (y_atB (1) rfl g14 rfl (by omega) (B8.all hR Apart.none) (by omega) ⟨rfl, Kept.refl _ _⟩)
      refine stepsF_cons ?_ ?_
      · refine StepF.one rfl fun F_ w_ hR hout hD => ?_
        have g15 : F_ 15 = bytAddr (v) (1) := (hD.get 0 rfl rfl rfl)
        exact (y_ldB rfl g15 (B8.all hR Apart.none) (by omega) ⟨rfl, Kept.refl _ _⟩)
      refine stepsF_cons ?_ ?_
      · refine StepF.one rfl fun F_ w_ hR hout hD => ?_
        have g16 : F_ 16 = .int .u8 ((((l).getD (1) 0 : Nat) : Int)) := (hD.get 0 rfl rfl rfl)
        exact (y_convR rfl g16 Try.underlying5 Try.underlying3 (i64_i rfl (by omega)) ⟨rfl, Kept.refl _ _⟩)
      refine stepsF_cons ?_ ?_
      · refine StepF.one rfl fun F_ w_ hR hout hD => ?_
        exact (y_mov rfl ((hout 0 rfl (by decide)).trans s17) ⟨rfl, Kept.refl _ _⟩)
      refine stepsF_cons ?_ ?_
      · refine StepF.one rfl fun F_ w_ hR hout hD => ?_
        have g18 : F_ 18 = v := (hD.get 0 rfl rfl rfl)
        exact (y_cutB (2) (6) rfl g18 rfl rfl (by omega) (by omega) (B8.all hR Apart.none) (by omega) (by omega) ⟨rfl, Kept.refl _ _⟩)
      refine stepsF_cons ?_ ?_
      · refine StepF.one rfl fun F_ w_ hR hout hD => ?_
        have g19 : F_ 19 = subV (v) (2) (6) (capV (v)) := (hD.get 0 rfl rfl rfl)
        exact (y_cs rfl rfl rfl (fun _ _ => by kernel_rfl) (ev_func _) (vsC g19 vsN) (href_number (subV (v) (2) (6) (capV (v))) (((l).drop (2)).take ((6) - (2))) (T_b) _ (by simp; omega) (((B8.all hR Apart.none)).sub (i := 2) (j := 6) (m := capV (v)) (by omega) (by have hc_ := ((B8.all hR Apart.none)).cap; omega) (by omega) (by have hc_ := ((B8.all hR Apart.none)).cap; omega)) ) (fun e_ w_ h_ => ⟨_, h_.1, congrArg (Value.int .i64) (nm_sub2 l), h_.2⟩))
      refine stepsF_cons ?_ ?_
      · refine StepF.one rfl fun F_ w_ hR hout hD => ?_
        exact (y_mov rfl ((hout 0 rfl (by decide)).trans s17) ⟨rfl, Kept.refl _ _⟩)
      refine stepsF_cons ?_ ?_
      · refine StepF.one rfl fun F_ w_ hR hout hD => ?_
        have g21 : F_ 21 = v := (hD.get 0 rfl rfl rfl)
        exact (y_cutB (6) (10) rfl g21 rfl rfl (by omega) (by omega) (B8.all hR Apart.none) (by omega) (by omega) ⟨rfl, Kept.refl _ _⟩)
      refine stepsF_cons ?_ ?_
      · refine StepF.one rfl fun F_ w_ hR hout hD => ?_
        have g22 : F_ 22 = subV (v) (6) (10) (capV (v)) := (hD.get 0 rfl rfl rfl)
        exact (y_cs rfl rfl rfl (fun _ _ => by kernel_rfl) (ev_func _) (vsC g22 vsN) (href_number (subV (v) (6) (10) (capV (v))) (((l).drop (6)).take ((10) - (6))) (T_b) _ (by simp; omega) (((B8.all hR Apart.none)).sub (i := 6) (j := 10) (m := capV (v)) (by omega) (by have hc_ := ((B8.all hR Apart.none)).cap; omega) (by omega) (by have hc_ := ((B8.all hR Apart.none)).cap; omega)) ) (fun e_ w_ h_ => ⟨_, h_.1, congrArg (Value.int .i64) (nm_sub6 l), h_.2⟩))
      refine stepsF_cons ?_ ?_
      · refine StepF.one rfl fun F_ w_ hR hout hD => ?_
        have g13 : F_ 13 = .int .i64 (t0 l) := (hD.get 0 rfl rfl rfl)
        have g17 : F_ 17 = .int .i64 (t1 l) := (hD.get 1 rfl rfl rfl)
        have g20 : F_ 20 = .int .i64 (t2 l) := (hD.get 2 rfl rfl rfl)
        have g23 : F_ 23 = .int .i64 (t3 l) := (hD.get 3 rfl rfl rfl)
        exact (y_buildL (l' := [(0, .int .i64 (t0 l)), (1, .int .i64 (t1 l)), (2, .int .i64 (t2 l)), (3, .int .i64 (t3 l))]) (cells := #[.int .i64 (t0 l), .int .i64 (t1 l), .int .i64 (t2 l), .int .i64 (t3 l)]) rfl (bpC g13 (bpC g17 (bpC g20 (bpC g23 bpN)))) (by kernel_rfl) rfl ⟨rfl, Kept.refl _ _⟩)
      refine stepsF_cons ?_ ?_
      · refine StepF.one rfl fun F_ w_ hR hout hD => ?_
        exact y_alloc_stc (n := 4) (vs := [.int .i64 (0), .int .i64 (0), .int .i64 (0), .int .i64 (0)]) rfl (by kernel_rfl) ⟨⟨_, rfl, hR.size, heap_alloc_new _ _⟩, (Kept.refl _ _).alloc _⟩
      exact stepsF_nil
    intro v35 F36 w37 k38 G39 hF40
    have B42 := B8.all k38 Apart.none
    have B43 := B4.all k38 id
    have K44 := K9.trans k38 (fun _ _ x => x.elim)
    have s45 : F36 0 = v := (hF40 0).trans s17
    have s46 : F36 34 = undef := (hF40 34).trans s18
    have s47 : F36 2 = .pointer (some ⟨p1, 0, none⟩) := (hF40 2).trans s19
    obtain ⟨p50, e49, e51, B52⟩ := G39 15 (by decide)
    replace B52 : Stc w37 p50 26 [.int .i64 (0), .int .i64 (0), .int .i64 (0), .int .i64 (0)] := B52
    have gr53 : Grew w0 noB (onB p50) := Grew.new K9 (onB_new e51)
    have ap54 : Apart (onB p50) (T_b) := Apart.new (onB_new e51) (B8).live
    have ap55 : Apart (onB p50) (onB p1) := Apart.new (onB_new e51) (onB_live (B4).lt)
    have s48 : F36 5 = .pointer (some ⟨p50, 0, none⟩) := (hF40 5).trans e49
    have s56 : F36 24 = .agg #[.int .i64 (t0 l), .int .i64 (t1 l), .int .i64 (t2 l), .int .i64 (t3 l)] := (hF40 24).trans (G39 14 (by decide))
    clear G39 hF40
    refine wl_store_stc (us := [.int .i64 (t0 l), .int .i64 (t1 l), .int .i64 (t2 l), .int .i64 (t3 l)]) stcT_head rfl rfl rfl s48 s56 B52 rfl (oneI rfl (oneI rfl (oneI rfl (oneI rfl oneN)))) fun w57 B58 k59 => ?_
    have B60 := B42.all k59 (fun i h x => (((ap54).symm) i h x))
    have B61 := B43.all k59 (fun x => (((ap55).symm) p1 rfl x))
    have K62 := K44.trans k59 (Grew.ok (S := fun _ => False) gr53 noB_le)
    refine wl_nil fun F63 hF64 => ?_
    have s65 : F63 0 = v := (hF64 0).trans s45
    have s66 : F63 34 = undef := (hF64 34).trans s46
    have s67 : F63 2 = .pointer (some ⟨p1, 0, none⟩) := (hF64 2).trans s47
    have s68 : F63 5 = .pointer (some ⟨p50, 0, none⟩) := (hF64 5).trans s48
    clear hF64
    refine then_normal ?_
    refine wq_seq ?_
    refine wq_seq ?_
    refine wq_region ?_
    refine wl_v (.agg #[.int .i64 (t0 l), .int .i64 (t1 l), .int .i64 (t2 l), .int .i64 (t3 l)]) rfl rfl (y_load_stc stcT_head rfl s68 B58 ⟨rfl, rfl⟩) ?_
    refine wl_call (R := fun v_ w_ => v_ = .int .i64 (headE (t0 l) (t1 l) (t2 l) (t3 l)) ∧ Kept (fun _ => False) w57 w_) rfl rfl (y_cs rfl rfl rfl (fun _ _ => by kernel_rfl) (ev_func _) (vsC rfl vsN) (href_head (t0 l) (t1 l) (t2 l) (t3 l)  _   ) (fun e_ w_ h_ => ⟨_, h_.1, rfl, h_.2⟩)) ?_
    rintro _ w69 ⟨rfl, k70⟩
    have B71 := B60.all k70 Apart.none
    have B72 := B61.all k70 id
    have B73 := B58.all k70 id
    have K74 := K62.trans k70 (fun _ _ x => x.elim)
    refine wl_v (.bool (decide ((headE (t0 l) (t1 l) (t2 l) (t3 l)) ≠ (0)))) rfl rfl (y_neqI rfl rfl rfl rfl ⟨rfl, rfl⟩) ?_
    refine wl_nil fun F75 hF76 => ?_
    have s77 : F75 0 = v := (hF76 0).trans s65
    have s78 : F75 34 = undef := (hF76 34).trans s66
    have s79 : F75 2 = .pointer (some ⟨p1, 0, none⟩) := (hF76 2).trans s67
    have s80 : F75 5 = .pointer (some ⟨p50, 0, none⟩) := (hF76 5).trans s68
    have s81 : F75 27 = .bool (decide ((headE (t0 l) (t1 l) (t2 l) (t3 l)) ≠ (0))) := (hF76 27).trans rfl
    clear hF76
    refine then_normal ?_
    refine wq_cond s81 (fun c82 => ?_) (fun c82 => ?_)
    · replace c82 := of_decide_eq_true c82
      refine wq_seq ?_
      have hno : ¬ rdOkH l := fun h => absurd (headE_iff.2 h.2) (by assumption)
      refine wq_region ?_
      refine wl_v (.agg #[.int .i64 (0), .int .i64 (0), .int .i64 (0), .int .i64 (0)]) rfl rfl (y_buildL (l' := []) (cells := #[.int .i64 (0), .int .i64 (0), .int .i64 (0), .int .i64 (0)]) rfl bpN (by kernel_rfl) rfl ⟨rfl, rfl⟩) ?_
      refine wl_store_stc (us := [.int .i64 (0), .int .i64 (0), .int .i64 (0), .int .i64 (0)]) stcT_head rfl rfl rfl s79 rfl B72 rfl (oneI rfl (oneI rfl (oneI rfl (oneI rfl oneN)))) fun w83 B84 k85 => ?_
      have B86 := B71.all k85 (fun i h x => (((ap7).symm) i h x))
      have B87 := B73.all k85 (fun x => ((ap55) p50 rfl x))
      have K88 := K74.trans k85 (Grew.ok (S := fun _ => False) gr6 noB_le)
      refine wl_v (.slice none 0 0) rfl rfl (y_asg rfl rfl ⟨rfl, rfl⟩) ?_
      refine wl_v (.int .i64 (110)) rfl rfl (y_asg rfl rfl ⟨rfl, rfl⟩) ?_
      refine wl_nil fun F89 hF90 => ?_
      have s91 : F89 34 = undef := (hF90 34).trans s78
      have s92 : F89 2 = .pointer (some ⟨p1, 0, none⟩) := (hF90 2).trans s79
      have s93 : F89 3 = .slice none 0 0 := (hF90 3).trans rfl
      have s94 : F89 4 = .int .i64 (110) := (hF90 4).trans rfl
      clear hF90
      refine then_normal ?_
      refine wq_ret ?_
      refine then_ret ?_
      exact endc_3 s91 rfl (res_stc (vs := [.int .i64 (0), .int .i64 (0), .int .i64 (0), .int .i64 (0)]) stcT_head rfl s92 B84) (res_tmp (v := .slice none 0 0) rfl s93) (res_tmp (v := .int .i64 (110)) rfl s94) ⟨(.slice none 0 0), noB, (by first | (unfold rdH rdE; rw [if_pos hok, if_pos hok, if_pos hok, if_pos hok, if_pos hok]) | (unfold rdH rdE; rw [if_neg hno, if_neg hno, if_neg hno, if_neg hno, if_neg hno])), K88, ⟨(by first | (rw [show rdP l = [] ++ List.take (l.length - 10) (List.drop 10 l) from by rw [show rdP l = l.drop 10 from if_pos hok, List.nil_append, List.take_of_length_le (by rw [List.length_drop]; exact Nat.le_refl _)]]; exact (Owb.nil _)) | (rw [show rdP l = [] from if_neg hno]; exact (Owb.nil _))), (Grew.refl _ _)⟩⟩
    · replace c82 := of_decide_eq_false c82
      refine wq_skip ?_
      refine then_normal ?_
      refine wq_seq ?_
      have hok : rdOkH l := ⟨by omega, headE_iff.1 (by first | assumption | (apply Decidable.byContradiction; assumption))⟩
      refine wq_made (S := onB p1) [] [some 29, some 30, some 31, some 32, some 33, none, some 3, some 4] [Pm.eq (.agg #[.int .i64 (t0 l), .int .i64 (t1 l), .int .i64 (t2 l), .int .i64 (t3 l)]), Pm.new (owThm (([] : List Nat))), Pm.eq (v), Pm.eq (subV (v) (10) ((l).length) (capV (v))), Pm.new (owThm ((([] : List Nat)) ++ (((l).drop (10)).take (((l).length) - (10))))), Pm.new (stcThm p1 26 [.int .i64 (t0 l), .int .i64 (t1 l), .int .i64 (t2 l), .int .i64 (t3 l)]), Pm.new (owThm ((([] : List Nat)) ++ (((l).drop (10)).take (((l).length) - (10))))), Pm.eq (.int .i64 (0))] [none, none, none, none, some (true, 1), some (false, 0), some (true, 4), none] [stcEld p1 26 [.int .i64 (0), .int .i64 (0), .int .i64 (0), .int .i64 (0)]] [noB, noB, noB, noB, noB, (onB p1), noB, noB] (by kernel_rfl) (by kernel_rfl) (by kernel_rfl) rfl rfl (by kernel_rfl) ⟨rfl, ⟨rfl, ⟨rfl, ⟨rfl, ⟨rfl, ⟨(fun _ e_ => by cases e_; rfl), ⟨rfl, ⟨rfl, trivial⟩⟩⟩⟩⟩⟩⟩⟩ ⟨(fun _ z_ => z_.elim), ⟨(fun _ z_ => z_.elim), ⟨(fun _ z_ => z_.elim), ⟨(fun _ z_ => z_.elim), ⟨(fun _ z_ => z_.elim), ⟨(fun _ z_ => z_), ⟨(fun _ z_ => z_.elim), ⟨(fun _ z_ => z_.elim), trivial⟩⟩⟩⟩⟩⟩⟩⟩ ⟨⟨fun _ x_ => x_, B72, fun k_ E_ e_ => by simp at e_⟩, trivial⟩ ?_ ?_
      · refine stepsFM_cons ?_ ?_
        · refine StepFM.one rfl rfl fun F_ w_ hR hout hD hE_ => ?_
          exact (y_load_stc stcT_head rfl ((hout 5 rfl (by decide)).trans s80) (B73.all hR (fun x => ((ap55) p50 rfl x))) ⟨rfl, Kept.refl _ _⟩)
        refine stepsFM_cons ?_ ?_
        · refine StepFM.one rfl rfl fun F_ w_ hR hout hD hE_ => ?_
          exact y_builtB0 rfl fun v_ w2_ T_ b_ g_ k_ => ⟨k_, T_, b_, g_⟩
        refine stepsFM_cons ?_ ?_
        · refine StepFM.one rfl rfl fun F_ w_ hR hout hD hE_ => ?_
          exact (y_mov rfl ((hout 0 rfl (by decide)).trans s77) ⟨rfl, Kept.refl _ _⟩)
        refine stepsFM_cons ?_ ?_
        · refine StepFM.one rfl rfl fun F_ w_ hR hout hD hE_ => ?_
          have g31 : F_ 31 = v := (hD.get 0 rfl rfl rfl).1
          exact (y_cutL (10) rfl g31 rfl (by omega) (B71.all hR (fun i h x => (((ap7).symm) i h x))) (by omega) ⟨rfl, Kept.refl _ _⟩)
        refine stepsFM_cons ?_ ?_
        · refine StepFM.uses 1 30 rfl rfl rfl rfl fun F_ w_ Tu_ hR hout hD hE_ hB_ _ => ?_
          have g32 : F_ 32 = subV (v) (10) ((l).length) (capV (v)) := (hD.get 1 rfl rfl rfl).1
          exact y_appendB rfl rfl rfl g32 hB_ (((B71.all hR (fun i h x => (((ap7).symm) i h x)))).sub (i := 10) (j := (l).length) (m := capV (v)) (by omega) (by have hc_ := ((B71.all hR (fun i h x => (((ap7).symm) i h x)))).cap; omega) (by omega) (by have hc_ := ((B71.all hR (fun i h x => (((ap7).symm) i h x)))).cap; omega)) (by first | omega | (simp; done) | (simp; omega)) fun v_ w2_ T_ b_ g_ k_ => ⟨k_, T_, b_, g_⟩
        refine stepsFM_cons ?_ ?_
        · refine StepFM.turns 0 rfl rfl rfl fun F_ w_ hR hout hD hE_ hA_ => ?_
          have g29 : F_ 29 = .agg #[.int .i64 (t0 l), .int .i64 (t1 l), .int .i64 (t2 l), .int .i64 (t3 l)] := (hD.get 0 rfl rfl rfl).1
          exact y_storeStc (us := [.int .i64 (t0 l), .int .i64 (t1 l), .int .i64 (t2 l), .int .i64 (t3 l)]) stcT_head rfl ((hout 2 rfl (by decide)).trans s79) g29 hA_ rfl (oneI rfl (oneI rfl (oneI rfl (oneI rfl oneN)))) fun w2_ b_ k_ => ⟨k_, _, ⟨rfl, rfl, b_⟩, Grew.refl _ _⟩
        refine stepsFM_cons ?_ ?_
        · refine StepFM.uses 4 33 rfl rfl rfl rfl fun F_ w_ Tu_ hR hout hD hE_ hB_ _ => ?_
          exact y_assign rfl ⟨Kept.refl _ _, _, hB_, Grew.refl _ _⟩
        refine stepsFM_cons ?_ ?_
        · refine StepFM.one rfl rfl fun F_ w_ hR hout hD hE_ => ?_
          exact (y_asg rfl rfl ⟨rfl, Kept.refl _ _⟩)
        exact stepsFM_nil
      intro v95 Tf102 F96 w97 k98 G99 Gt103 Ga104 hF100
      have B105 := B71.all k98 (fun i h x => (((ap7).symm) i h x))
      have B106 := B73.all k98 (fun x => ((ap55) p50 rfl x))
      have K107 := K74.trans k98 (fun i hi x => ((Grew.ok (S := fun _ => False) gr6 noB_le) i hi x))
      obtain ⟨v108, e110⟩ : ∃ v_, v_ = v95 6 := ⟨_, rfl⟩
      obtain ⟨T109, e111⟩ : ∃ T_, T_ = Tf102 6 := ⟨_, rfl⟩
      have B112 : Owb w97 T109 v108 ((([] : List Nat)) ++ (((l).drop (10)).take (((l).length) - (10)))) := by rw [e111, e110]; exact (Gt103 6 _ rfl rfl).1
      have g113 : Grew w69 (noB) T109 := by rw [e111]; exact (Gt103 6 _ rfl rfl).2
      have gr114 : Grew w0 noB (T109) := Grew.new K74 g113
      have ap115 : Apart (T109) (T_b) := Apart.new g113 (B71).live
      have ap116 : Apart (T109) (onB p50) := Apart.new g113 (onB_live (B73).lt)
      have e117 : onB p1 = Tf102 5 := ((Gt103 5 _ rfl rfl).1.2.1).symm
      have B118 : Stc w97 p1 26 [.int .i64 (t0 l), .int .i64 (t1 l), .int .i64 (t2 l), .int .i64 (t3 l)] := (Gt103 5 _ rfl rfl).1.2.2
      have ap119 : Apart T109 (onB p1) := by rw [e111, e117]; exact Ga104 6 5 _ _ (by decide) rfl rfl rfl rfl
      clear Gt103 Ga104
      have s120 : F96 34 = undef := (hF100 34).trans s78
      have s121 : F96 2 = .pointer (some ⟨p1, 0, none⟩) := (hF100 2).trans s79
      have s122 : F96 3 = v108 := (hF100 3).trans e110.symm
      have s123 : F96 4 = .int .i64 (0) := (hF100 4).trans (G99 7 (by decide))
      clear G99 hF100
      refine then_normal ?_
      refine wq_ret ?_
      exact endc_3 s120 rfl (res_stc (vs := [.int .i64 (t0 l), .int .i64 (t1 l), .int .i64 (t2 l), .int .i64 (t3 l)]) stcT_head rfl s121 B118) (res_tmp (v := v108) rfl s122) (res_tmp (v := .int .i64 (0)) rfl s123) ⟨v108, T109, (by first | (unfold rdH rdE; rw [if_pos hok, if_pos hok, if_pos hok, if_pos hok, if_pos hok]) | (unfold rdH rdE; rw [if_neg hno, if_neg hno, if_neg hno, if_neg hno, if_neg hno])), K107, ⟨(by first | (rw [show rdP l = [] ++ List.take (l.length - 10) (List.drop 10 l) from by rw [show rdP l = l.drop 10 from if_pos hok, List.nil_append, List.take_of_length_le (by rw [List.length_drop]; exact Nat.le_refl _)]]; exact B112) | (rw [show rdP l = [] from if_neg hno]; exact B112)), gr114⟩⟩
end Go.Proofs.Ytnccblhdokplkaa
set_option maxRecDepth 100000
namespace Go.Proofs.Ytnccblhdokplkaa
open Go.RowKit

def intsV (xs : List Int) : Array Value := (xs.map fun x => Value.int .i64 x).toArray
def sameI (xs ys : List Int) : Bool := decide (xs = ys)
theorem sameI_self (xs : List Int) : sameI xs xs = true := decide_eq_true rfl
theorem sameI_of {xs ys : List Int} (h : xs = ys) : sameI xs ys = true := decide_eq_true h
theorem part_i64 (w : World) (xs : List Int) (i : Nat) (z : Int) (h : xs[i]? = some z) : (part 3 (intsV xs) i).run Try.prog w = .ok (.int .i64 z) w := by
  have e : (intsV xs)[i]? = some (.int .i64 z) := by
    unfold intsV
    rw [List.getElem?_toArray, List.getElem?_map, h]; rfl
  simp [part, isAgg, run_underlying Try.underlying3, e]
theorem run_same_fields (w : World) (d : Nat) (xs ys : List Int) : ∀ (fs : List Field) (k : Nat), fs.map (fun f => (f.name == "_", f.type, f.offset)) = (List.range' k fs.length).map (fun i => (false, 3, i)) → xs.length = k + fs.length → ys.length = k + fs.length →
    (Op.eqFields (d + 1) (intsV xs) (intsV ys) fs).run Try.prog w = .ok (sameI (xs.drop k) (ys.drop k)) w := by
  intro fs
  induction fs with
  | nil =>
    intro k _ hx hy
    simp only [List.length_nil, Nat.add_zero] at hx hy
    rw [List.drop_of_length_le (by omega), List.drop_of_length_le (by omega), sameI_self]
    simp [Op.eqFields]
  | cons f r ih =>
    intro k hf hx hy
    simp only [List.length_cons] at hx hy
    simp only [List.map_cons, List.length_cons, List.range'_succ, List.cons.injEq, Prod.mk.injEq] at hf
    obtain ⟨⟨hn, ht, ho⟩, hr⟩ := hf
    have hn' : f.name ≠ "_" := by simpa using hn
    have hkx : k < xs.length := by omega
    have hky : k < ys.length := by omega
    have p1 := part_i64 w xs k xs[k] (List.getElem?_eq_getElem hkx)
    have p2 := part_i64 w ys k ys[k] (List.getElem?_eq_getElem hky)
    have p3 := ih (k + 1) hr (by omega) (by omega)
    have ex : xs.drop k = xs[k] :: xs.drop (k + 1) := List.drop_eq_getElem_cons hkx
    have ey : ys.drop k = ys[k] :: ys.drop (k + 1) := List.drop_eq_getElem_cons hky
    have hs : sameI (xs.drop k) (ys.drop k) = (decide (xs[k] = ys[k]) && sameI (xs.drop (k + 1)) (ys.drop (k + 1))) := by
      rw [ex, ey]
      generalize xs[k] = a
      generalize ys[k] = b
      generalize xs.drop (k + 1) = X
      generalize ys.drop (k + 1) = Y
      unfold sameI
      by_cases h : a = b <;> simp [h]
    rw [hs]
    generalize sameI (xs.drop (k + 1)) (ys.drop (k + 1)) = q at p3
    generalize xs[k] = a at p1
    generalize ys[k] = b at p2
    simp only [Op.eqFields, ht, ho]
    rw [if_pos hn']
    simp only [Sem.run_bind, p1, p2, Result.andThen_ok, run_equalIn_int w d 3 .i64 .i64 _ _ Try.underlying3]
    by_cases h1 : a = b
    · subst h1
      simp only [beq_self_eq_true, Bool.not_true, Bool.false_eq_true, if_false, p3, decide_true, Bool.true_and]
    · have : (a == b) = false := by simpa using h1
      simp [this, h1]
/-- A struct of n ints. -/
def StructI (ty : TypeId) (n : Nat) : Prop := (Try.prog.underlying ty = some (.struct (Try.prog.fieldsOf ty)) ∧ Try.prog.stoodInHeld ty = false) ∧ Try.prog.eqGuardType Try.prog.depth ty = false ∧ (Try.prog.fieldsOf ty).toList.map (fun f => (f.name == "_", f.type, f.offset)) = (List.range' 0 n).map (fun i => (false, 3, i))
theorem run_same_ints (w : World) {ty : TypeId} {n : Nat} (hS : StructI ty n) (xs ys : List Int) (hx : xs.length = n) (hy : ys.length = n) : (Op.equalIn 10000 ty (.agg (intsV xs)) (.agg (intsV ys))).run Try.prog w = .ok (sameI xs ys) w := by
  rw [run_equalIn_struct w 9999 _ _ _ hS.1.1 hS.1.2]
  have hlen : (Try.prog.fieldsOf ty).toList.length = n := by have := congrArg List.length hS.2.2; simpa using this
  have := run_same_fields w 9998 xs ys (Try.prog.fieldsOf ty).toList 0 (by rw [hlen]; exact hS.2.2) (by omega) (by omega)
  simpa using this
section
variable {ρ : Operand → Value} {o : Oper} {w : World} {R : Value → World → Prop}
theorem y_eqlSI {ty t' : TypeId} {n : Nat} {x y : Operand} {xs ys : List Int} {q : Bool} (hS : StructI ty n) (ho : o.op = .binOp .eql ty x y t') (hx : ρ x = .agg (intsV xs)) (hy : ρ y = .agg (intsV ys)) (lx : xs.length = n) (ly : ys.length = n) (hr : sameI xs ys = q) (h : R (.bool q) w) : Yields Try.prog ρ o w R :=
  y_of (v := .bool (sameI xs ys)) (w' := w) (by simp only [execOp, ho, hx, hy, Sem.run_bind, run_eqGuard_agg w .eql _ _ _ _ _ hS.2.1, run_eql_struct, run_same_ints w hS xs ys lx ly, Result.andThen_ok, Sem.run_pure]) (by rw [hr]; exact h)
end
end Go.Proofs.Ytnccblhdokplkaa
