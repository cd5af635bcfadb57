/- What BlockRefuses reaches of my texts, part 3. -/
import Derived.Test.YtdcbabgcbkdlhaaDoorBlockRefusesB
set_option maxRecDepth 100000
set_option maxRecDepth 100000
namespace Go.Proofs.YtdcbabgcbkdlhaaDoor
open Go.RowKit

/-- Something in memory, what it is ahead of the operation that turns it, and behind it. -/
structure Thg where
  A : World → Prop
  T : Nat → Prop
  B : (Nat → Prop) → World → Prop
  stA : ∀ (w w' : World) (S : Nat → Prop), A w → Kept S w w' → Apart T S → A w'
  stB : ∀ (w w' : World) (S T' : Nat → Prop), B T' w → Kept S w w' → Apart T' S → B T' w'
  liA : ∀ w, A w → Live w T
  liB : ∀ w T', B T' w → Live w T'
inductive Pt where
  | eq (v : Value)
  | thg (t : Thg) (v : Value)
def Pt.none : Pt := .eq undef
def saysT : Pt → Value
  | .eq v => v
  | .thg _ v => v
/-- Where it lies now. -/
def curT (Gs : List Pt) (L : Nat → Bool) (Tf : Nat → Nat → Prop) (i : Nat) : Nat → Prop := match Gs.getD i Pt.none with
  | .eq _ => noB
  | .thg t _ => if L i = true then Tf i else t.T
/-- That it is. -/
def isT (Gs : List Pt) (L : Nat → Bool) (Tf : Nat → Nat → Prop) (w : World) (i : Nat) : Prop := match Gs.getD i Pt.none with
  | .eq _ => True
  | .thg t _ => if L i = true then t.B (Tf i) w else t.A w
structure JT (S : Nat → Prop) (w0 : World) (Gs : List Pt) (M : List (Nat × Nat)) (L : Nat → Bool) (v : Nat → Value) (Tf : Nat → Nat → Prop) (w : World) : Prop where
  kept : Kept S w0 w
  vals : ∀ i, L i = true → v i = saysT (Gs.getD i Pt.none)
  things : ∀ i, isT Gs L Tf w i
  grew : ∀ i t x, Gs.getD i Pt.none = .thg t x → L i = true → Grew w0 t.T (Tf i)
  apart : ∀ i j, i ≠ j → Apart (curT Gs L Tf i) (curT Gs L Tf j)
  clos : ∀ j i, (j, i) ∈ M → L j = true → L i = true
def OldT (S : Nat → Prop) (w0 : World) (Gs : List Pt) : Prop := (∀ i t x, Gs.getD i Pt.none = .thg t x → (∀ b, t.T b → S b) ∧ t.A w0) ∧ ∀ i j, i ≠ j → Apart (curT Gs (fun _ => false) (fun _ => noB) i) (curT Gs (fun _ => false) (fun _ => noB) j)
def FarT (T : Nat → Prop) : List Pt → Prop
  | [] => True
  | .thg t _ :: r => Apart T t.T ∧ FarT T r
  | .eq _ :: r => FarT T r
def OldsT (S : Nat → Prop) (w0 : World) : List Pt → Prop
  | [] => True
  | .thg t _ :: r => ((∀ b, t.T b → S b) ∧ t.A w0 ∧ FarT t.T r) ∧ OldsT S w0 r
  | .eq _ :: r => OldsT S w0 r
theorem FarT.at {T : Nat → Prop} : ∀ {Gs : List Pt}, FarT T Gs → ∀ i t x, Gs.getD i Pt.none = .thg t x → Apart T t.T := by
  intro Gs
  induction Gs with
  | nil => intro _ i t x h; cases h
  | cons g r ih =>
    intro h i t x e
    cases i with
    | zero =>
      have e : g = .thg t x := by simpa using e
      subst e; exact h.1
    | succ i =>
      have e : r.getD i Pt.none = .thg t x := by simpa using e
      cases g <;> first | exact ih h.2 i t x e | exact ih h i t x e
theorem OldsT.at {S : Nat → Prop} {w0 : World} : ∀ {Gs : List Pt}, OldsT S w0 Gs → ∀ i t x, Gs.getD i Pt.none = .thg t x → (∀ b, t.T b → S b) ∧ t.A w0 := by
  intro Gs
  induction Gs with
  | nil => intro _ i t x h; cases h
  | cons g r ih =>
    intro h i t x e
    cases i with
    | zero =>
      have e : g = .thg t x := by simpa using e
      subst e; exact ⟨h.1.1, h.1.2.1⟩
    | succ i =>
      have e : r.getD i Pt.none = .thg t x := by simpa using e
      cases g <;> first | exact ih h.2 i t x e | exact ih h i t x e
theorem OldsT.far {S : Nat → Prop} {w0 : World} : ∀ {Gs : List Pt}, OldsT S w0 Gs → ∀ i j t x t' x', i < j → Gs.getD i Pt.none = .thg t x → Gs.getD j Pt.none = .thg t' x' → Apart t.T t'.T := by
  intro Gs
  induction Gs with
  | nil => intro _ i j t x t' x' _ h; cases h
  | cons g r ih =>
    intro h i j t x t' x' hij e1 e2
    cases j with
    | zero => omega
    | succ j =>
      have e2 : r.getD j Pt.none = .thg t' x' := by simpa using e2
      cases i with
      | zero =>
        have e1 : g = .thg t x := by simpa using e1
        subst e1; exact h.1.2.2.at j t' x' e2
      | succ i =>
        have e1 : r.getD i Pt.none = .thg t x := by simpa using e1
        cases g <;> first | exact ih h.2 i j t x t' x' (by omega) e1 e2 | exact ih h i j t x t' x' (by omega) e1 e2
theorem OldsT.old {S : Nat → Prop} {w0 : World} {Gs : List Pt} (h : OldsT S w0 Gs) : OldT S w0 Gs := by
  refine ⟨fun i t x e => h.at i t x e, fun i j hij => ?_⟩
  unfold curT
  cases e1 : Gs.getD i Pt.none with
  | eq x => exact fun _ z => z.elim
  | thg t x =>
    cases e2 : Gs.getD j Pt.none with
    | eq y => exact fun _ _ z => z
    | thg t' y =>
      simp only [Bool.false_eq_true, if_false]
      rcases Nat.lt_or_gt_of_ne hij with hlt | hgt
      · exact h.far i j t x t' y hlt e1 e2
      · exact (h.far j i t' y t x hgt e2 e1).symm
/-- What is turned, and lies there. -/
def onT (w0 : World) (Gs : List Pt) (i : Nat) (w : World) : Prop := match Gs.getD i Pt.none with
  | .eq _ => True
  | .thg t _ => ∃ T', t.B T' w ∧ Grew w0 t.T T'
/-- M: who waits for whom, if only by way of others. -/
def ToldT (w0 : World) (Gs : List Pt) (M : List (Nat × Nat)) : Nat → Value → World → Prop := fun j v w => v = saysT (Gs.getD j Pt.none) ∧ onT w0 Gs j w ∧ ∀ i, (j, i) ∈ M → onT w0 Gs i w
def mustOk (os : List Oper) (M : List (Nat × Nat)) : Bool := M.all fun q => match os[q.1]? with | some o => o.after.toList.any (fun e => Region.binds .any e && (e.on == q.2 || M.contains (e.on, q.2))) | none => false
def LeftT (Gs : List Pt) (i : Nat) (w : World) (v : Value) (w' : World) : Prop := match Gs.getD i Pt.none with
  | .eq x => v = x ∧ Kept (fun _ => False) w w'
  | .thg t x => v = x ∧ Kept t.T w w' ∧ ∃ T', t.B T' w' ∧ Grew w t.T T'
theorem cur_live {S : Nat → Prop} {w0 w : World} {Gs : List Pt} {L : Nat → Bool} {v : Nat → Value} {Tf : Nat → Nat → Prop} {M : List (Nat × Nat)} (h : JT S w0 Gs M L v Tf w) (i : Nat) : Live w (curT Gs L Tf i) := by
  have := h.things i
  unfold isT at this
  unfold curT
  cases e : Gs.getD i Pt.none with
  | eq x => exact fun _ h => h.elim
  | thg t x =>
    rw [e] at this
    simp only at this ⊢
    cases hl : L i with
    | true => rw [hl] at this; rw [if_pos rfl] at this ⊢; exact t.liB w _ this
    | false => rw [hl] at this; rw [if_neg (by simp)] at this ⊢; exact t.liA w this
theorem cur_up {Gs : List Pt} {L : Nat → Bool} {Tf Tf' : Nat → Nat → Prop} {i j : Nat} (h : j ≠ i) (hT : Tf' j = Tf j) : curT Gs (fun k => if k = i then true else L k) Tf' j = curT Gs L Tf j := by
  unfold curT
  cases Gs.getD j Pt.none with
  | eq x => rfl
  | thg t x => simp only [if_neg h, hT]
theorem is_up {Gs : List Pt} {L : Nat → Bool} {Tf Tf' : Nat → Nat → Prop} {w : World} {i j : Nat} (h : j ≠ i) (hT : Tf' j = Tf j) : isT Gs (fun k => if k = i then true else L k) Tf' w j = isT Gs L Tf w j := by
  unfold isT
  cases Gs.getD j Pt.none with
  | eq x => rfl
  | thg t x => simp only [if_neg h, hT]
theorem is_kept {S' : Nat → Prop} {Gs : List Pt} {L : Nat → Bool} {Tf : Nat → Nat → Prop} {w w' : World} {j : Nat} (h : isT Gs L Tf w j) (k : Kept S' w w') (ha : Apart (curT Gs L Tf j) S') : isT Gs L Tf w' j := by
  unfold isT at h ⊢
  unfold curT at ha
  cases e : Gs.getD j Pt.none with
  | eq x => trivial
  | thg t x =>
    rw [e] at h ha
    simp only at h ha ⊢
    split
    · rename_i hl; rw [if_pos hl] at h ha; exact t.stB w w' S' _ h k ha
    · rename_i hl; rw [if_neg hl] at h ha; exact t.stA w w' S' h k ha
/-- One more operation. -/
theorem JT.more {S : Nat → Prop} {w0 w w' : World} {Gs : List Pt} {M : List (Nat × Nat)} {L : Nat → Bool} {v : Nat → Value} {Tf : Nat → Nat → Prop} {i : Nat} {x : Value} (hO : OldT S w0 Gs) (h : JT S w0 Gs M L v Tf w) (hi : L i = false) (hM : ∀ k, (i, k) ∈ M → L k = true) (hx : LeftT Gs i w x w') : ∃ Tf', JT S w0 Gs M (upL L i) (upV v i x) Tf' w' := by
  have hcl : ∀ j k, (j, k) ∈ M → upL L i j = true → upL L i k = true := fun j k hm hj => by
    have hk : L k = true := by
      by_cases hji : j = i
      · subst hji; exact hM k hm
      · rw [show upL L i j = L j from if_neg hji] at hj; exact h.clos j k hm hj
    unfold upL; split <;> first | rfl | exact hk
  unfold LeftT at hx
  cases e : Gs.getD i Pt.none with
  | eq y =>
    rw [e] at hx
    refine ⟨Tf, h.kept.trans hx.2 (fun _ _ z => z.elim), fun j hj => ?_, fun j => ?_, fun j t z hj hl => ?_, fun a b hab => ?_, hcl⟩
    · by_cases hji : j = i
      · subst hji; rw [show upV v j x j = x from if_pos rfl, e]; exact hx.1
      · rw [show upL L i j = L j from if_neg hji] at hj; rw [show upV v i x j = v j from if_neg hji]; exact h.vals j hj
    · by_cases hji : j = i
      · subst hji; unfold isT; rw [e]; trivial
      · rw [show isT Gs (upL L i) Tf w' j = isT Gs L Tf w' j from is_up hji rfl]; exact is_kept (h.things j) hx.2 (fun _ _ z => z)
    · have hji : j ≠ i := fun z' => by rw [z', e] at hj; cases hj
      rw [show upL L i j = L j from if_neg hji] at hl; exact h.grew j t z hj hl
    · have hc : ∀ c, curT Gs (upL L i) Tf c = curT Gs L Tf c := fun c => by
        by_cases hci : c = i
        · subst hci; unfold curT; rw [e]
        · exact cur_up hci rfl
      rw [hc, hc]; exact h.apart a b hab
  | thg t y =>
    rw [e] at hx
    obtain ⟨hv, k, T', hB, hG⟩ := hx
    have hcur : curT Gs L Tf i = t.T := by unfold curT; rw [e]; simp [hi]
    have hTf : ∀ c, c ≠ i → (fun c => if c = i then T' else Tf c) c = Tf c := fun c hc => by simp [hc]
    have hci : curT Gs (upL L i) (fun c => if c = i then T' else Tf c) i = T' := by unfold curT; rw [e]; simp [upL]
    have hcj : ∀ c, c ≠ i → curT Gs (upL L i) (fun c => if c = i then T' else Tf c) c = curT Gs L Tf c := fun c hc => cur_up hc (hTf c hc)
    have hnew : ∀ c, c ≠ i → Apart T' (curT Gs L Tf c) := fun c hc => by
      have := h.apart i c (fun z => hc z.symm)
      rw [hcur] at this
      exact this.grew hG (cur_live h c)
    refine ⟨fun c => if c = i then T' else Tf c, h.kept.trans k (fun b _ hb => (hO.1 i t y e).1 b hb), fun j hj => ?_, fun j => ?_, fun j t' z hj hl => ?_, fun a b hab => ?_, hcl⟩
    · by_cases hji : j = i
      · subst hji; rw [show upV v j x j = x from if_pos rfl, e]; exact hv
      · rw [show upL L i j = L j from if_neg hji] at hj; rw [show upV v i x j = v j from if_neg hji]; exact h.vals j hj
    · by_cases hji : j = i
      · subst hji; unfold isT; rw [e]; simp only [upL]; simpa using hB
      · rw [show isT Gs (upL L i) (fun c => if c = i then T' else Tf c) w' j = isT Gs L Tf w' j from is_up hji (hTf j hji)]
        exact is_kept (h.things j) k (by have := h.apart j i hji; rw [hcur] at this; exact this)
    · by_cases hji : j = i
      · subst hji
        rw [e] at hj; cases hj
        simp only [if_true]
        exact fun b hb => (hG b hb).elim .inl (fun hge => .inr (Nat.le_trans h.kept.size hge))
      · rw [show upL L i j = L j from if_neg hji] at hl
        simp only [if_neg hji]; exact h.grew j t' z hj hl
    · by_cases hai : a = i
      · subst hai
        rw [hci, hcj b (fun z => hab z.symm)]; exact hnew b (fun z => hab z.symm)
      · rw [hcj a hai]
        by_cases hbi : b = i
        · subst hbi; rw [hci]; exact (hnew a hai).symm
        · rw [hcj b hbi]; exact h.apart a b hab
theorem y_setStc {P : Program} {ρ : Operand → Value} {o : Oper} {w : World} {R : Value → World → Prop} {ty t : TypeId} {x y : Operand} {p k : Nat} {v u : Value} {vs : List Value} (ho : o.op = .store ty x y) (hx : ρ x = .pointer (some ⟨p, k, none⟩)) (hy : ρ y = v) (hB : Stc w p t vs) (hk : vs[k]? = some u) (hv : oneC v = true)
    (hs : (P.info? ty).map (·.size) = some 1)
    (h : ∀ w', Stc w' p t (vs.set k v) → Kept (fun k => k = p) w w' → R undef w') : Yields P ρ o w R := by
  have hc := hB.cell hk
  have hf : w.frozen? ⟨p, k, none⟩ = false := frozen_of_heap hB
  cases hq : P.info? ty with
  | none => simp [hq] at hs
  | some i =>
    have hs' : i.size = 1 := by simpa [hq] using hs
    have e : (execOp ρ o).run P w = .ok .skip (w.setCell ⟨p, k, none⟩ v) ∨ (execOp ρ o).run P w = .ok (.value undef) (w.setCell ⟨p, k, none⟩ v) := by
      cases v <;> first
        | (simp [oneC] at hv; done)
        | simp [execOp, ho, hx, hy, Instr.storeAt, Instr.sureAddr, storeVar, sizeOf, typeInfo, hq, hs', Value.cells, hc, hf, go_sem]
    unfold Yields
    rcases e with e | e <;> rw [e] <;> exact h _ (hB.set k v) ((Kept.refl (fun k => k = p) w).setCell ⟨p, k, none⟩ (fun _ => rfl) _)
/-- A struct that is stored into. -/
def stcThg (p : Nat) (t : TypeId) (zs us : List Value) : Thg := ⟨fun w => Stc w p t zs, onB p, fun T w => T = onB p ∧ Stc w p t us, fun _ _ _ h k ha => h.all k (ha p rfl), fun _ _ _ _ h k ha => ⟨h.1, h.2.all k (ha p (by rw [h.1]; rfl))⟩, fun _ h => onB_live h.lt, fun _ _ h => by rw [h.1]; exact onB_live h.2.lt⟩
section
variable {P : Program} {N : Nat} {F : Nat → Value} {w : World} {Q : Exit → (Nat → Value) → World → Prop}
def StepFT (S : Nat → Prop) (M : List (Nat × Nat)) (N : Nat) (P : Program) (D : List (Option Tmp)) (Gs : List Pt) (F0 : Nat → Value) (w0 : World) (i : Nat) (o : Oper) : Prop :=
  ∀ (F : Nat → Value) (w : World), Kept S w0 w → (∀ t, Nat.blt t N = true → some t ∉ D → F t = F0 t) → DepsF D (ToldT w0 Gs M) F w o.after.toList → (∀ k t x, (k = i ∨ (k, i) ∈ M) → Gs.getD k Pt.none = .thg t x → t.A w) →
    match o.guard with
    | none => Yields P (ev F) o w (LeftT Gs i w)
    | some (j, want) => ∃ d, D.getD j none = some d ∧
      ((F d = .bool want ∧ Yields P (ev F) o w (LeftT Gs i w)) ∨ ((F d = .bool (!want) ∨ F d = undef) ∧ Gs.getD i Pt.none = .eq undef))
def StepsFT (S : Nat → Prop) (M : List (Nat × Nat)) (N : Nat) (P : Program) (D : List (Option Tmp)) (Gs : List Pt) (F0 : Nat → Value) (w0 : World) : Nat → List Oper → Prop
  | _, [] => True
  | i, o :: r => StepFT S M N P D Gs F0 w0 i o ∧ StepsFT S M N P D Gs F0 w0 (i + 1) r
theorem stepsFT_nil {S : Nat → Prop} {M : List (Nat × Nat)} {D : List (Option Tmp)} {Gs : List Pt} {F0 : Nat → Value} {w0 : World} {i : Nat} : StepsFT S M N P D Gs F0 w0 i [] := trivial
theorem stepsFT_cons {S : Nat → Prop} {M : List (Nat × Nat)} {D : List (Option Tmp)} {Gs : List Pt} {F0 : Nat → Value} {w0 : World} {i : Nat} {o : Oper} {r : List Oper} (h : StepFT S M N P D Gs F0 w0 i o) (k : StepsFT S M N P D Gs F0 w0 (i + 1) r) : StepsFT S M N P D Gs F0 w0 i (o :: r) := ⟨h, k⟩
theorem StepFT.one {S : Nat → Prop} {M : List (Nat × Nat)} {D : List (Option Tmp)} {Gs : List Pt} {F0 : Nat → Value} {w0 : World} {i : Nat} {o : Oper} (hg : o.guard = none)
    (h : ∀ (F : Nat → Value) (w : World), Kept S w0 w → (∀ t, Nat.blt t N = true → some t ∉ D → F t = F0 t) → DepsF D (ToldT w0 Gs M) F w o.after.toList → Yields P (ev F) o w (LeftT Gs i w)) : StepFT S M N P D Gs F0 w0 i o := by
  intro F w h1 h2 h3 _
  rw [hg]; exact h F w h1 h2 h3
/-- What is turned later, by an operation that waits for this one, is as it was. -/
theorem StepFT.oneA {S : Nat → Prop} {M : List (Nat × Nat)} {D : List (Option Tmp)} {Gs : List Pt} {F0 : Nat → Value} {w0 : World} {i : Nat} {o : Oper} (hg : o.guard = none)
    (h : ∀ (F : Nat → Value) (w : World), Kept S w0 w → (∀ t, Nat.blt t N = true → some t ∉ D → F t = F0 t) → DepsF D (ToldT w0 Gs M) F w o.after.toList → (∀ k t x, (k, i) ∈ M → Gs.getD k Pt.none = .thg t x → t.A w) → Yields P (ev F) o w (LeftT Gs i w)) : StepFT S M N P D Gs F0 w0 i o := by
  intro F w h1 h2 h3 h4
  rw [hg]; exact h F w h1 h2 h3 (fun k t x hk => h4 k t x (.inr hk))
theorem StepFT.turn {S : Nat → Prop} {M : List (Nat × Nat)} {D : List (Option Tmp)} {Gs : List Pt} {F0 : Nat → Value} {w0 : World} {i : Nat} {t : Thg} {x : Value} {o : Oper} (hg : o.guard = none) (he : Gs.getD i Pt.none = .thg t x)
    (h : ∀ (F : Nat → Value) (w : World), Kept S w0 w → (∀ t, Nat.blt t N = true → some t ∉ D → F t = F0 t) → DepsF D (ToldT w0 Gs M) F w o.after.toList → t.A w → Yields P (ev F) o w (fun v w' => v = x ∧ Kept t.T w w' ∧ ∃ T', t.B T' w' ∧ Grew w t.T T')) : StepFT S M N P D Gs F0 w0 i o := by
  intro F w h1 h2 h3 h4
  rw [hg]
  refine (h F w h1 h2 h3 (h4 i t x (.inl rfl) he)).mono' fun v w' hx => ?_
  unfold LeftT; rw [he]; exact hx
theorem StepFT.step {S : Nat → Prop} {M : List (Nat × Nat)} {os : List Oper} {D : List (Option Tmp)} {Gs : List Pt} {w0 : World} {i : Nat} {o : Oper} {a0 : Act} (hO : OldT S w0 Gs) (hmo : mustOk os M = true) (hio : os[i]? = some o) (ha : Fr N F a0) (h : StepFT S M N P D Gs F w0 i o) : StepJ os P D (fun L v w => ∃ Tf, JT S w0 Gs M L v Tf w) a0 i o := by
  rintro L v a w ⟨Tf, hJ⟩ hi hdone hout hhere _
  have hdeps : DepsF D (ToldT w0 Gs M) (fun t => a.tmps.getD t undef) w o.after.toList := by
    refine Deps.toF (Deps.mk fun e he hb d hd => ?_)
    have hl := hdone e he hb
    have hDe : D[e.on]? = some (some d) := by
      unfold List.getD at hd
      cases hq : D[e.on]? with
      | none => rw [hq] at hd; cases hd
      | some y => rw [hq] at hd; simp at hd; rw [hd]
    rw [hhere e.on d hl hDe, hJ.vals e.on hl]
    have key : ∀ c, L c = true → onT w0 Gs c w := fun c hc => by
      have ht := hJ.things c
      unfold onT
      unfold isT at ht
      cases e' : Gs.getD c Pt.none with
      | eq y => trivial
      | thg t y =>
        rw [e'] at ht
        simp only [hc, if_true] at ht
        exact ⟨_, ht, hJ.grew c t y e' hc⟩
    exact ⟨rfl, key _ hl, fun c hc => key c (hJ.clos _ _ hc hl)⟩
  have hM : ∀ k, (i, k) ∈ M → L k = true := fun k hk => by
    have := List.all_eq_true.1 hmo _ hk
    simp only [hio] at this
    obtain ⟨e, he, hb⟩ := List.any_eq_true.1 this
    simp only [Bool.and_eq_true, Bool.or_eq_true, beq_iff_eq] at hb
    have hl := hdone e he hb.1
    rcases hb.2 with h1 | h1
    · rw [← h1]; exact hl
    · exact hJ.clos _ _ (by simpa using h1) hl
  have h1 := h (fun t => a.tmps.getD t undef) w hJ.kept (fun t hb ht => by rw [← ha.at' t hb]; exact hout t ht) hdeps (fun k t x hk e => by
    have hLk : L k = false := by
      rcases hk with rfl | hk
      · exact hi
      · cases hL : L k with
        | false => rfl
        | true => have := hJ.clos k i hk hL; rw [hi] at this; cases this
    have := hJ.things k
    unfold isT at this
    rw [e] at this
    simpa [hLk] using this)
  rw [← eval_ev a] at h1
  unfold goes
  cases hg : o.guard with
  | none => rw [hg] at h1; exact ⟨fun _ => h1.mono' fun x w' hx => hJ.more hO hi hM hx, fun e => by cases e⟩
  | some g =>
    obtain ⟨j, want⟩ := g
    rw [hg] at h1
    obtain ⟨d, hd, h1⟩ := h1
    simp only [hd]
    have hev : a.eval (.tmp d) = a.tmps.getD d undef := rfl
    rcases h1 with ⟨hv, hy⟩ | ⟨hv, hs⟩
    · rw [hev, hv]; exact ⟨fun _ => hy.mono' fun x w' hx => hJ.more hO hi hM hx, fun e => by simp at e⟩
    · refine ⟨fun e => ?_, fun _ => hJ.more hO hi hM (by unfold LeftT; rw [hs]; exact ⟨rfl, Kept.refl _ _⟩)⟩
      rcases hv with hv | hv
      · rw [hev, hv] at e; cases want <;> simp at e
      · rw [hev, hv] at e; simp [undef] at e
theorem StepsFT.steps {S : Nat → Prop} {M : List (Nat × Nat)} {all : List Oper} {D : List (Option Tmp)} {Gs : List Pt} {w0 : World} {a0 : Act} (hO : OldT S w0 Gs) (hmo : mustOk all M = true) (ha : Fr N F a0) : ∀ {os : List Oper} {i : Nat}, (∀ k o, os[k]? = some o → all[i + k]? = some o) → StepsFT S M N P D Gs F w0 i os → StepsJ all P D (fun L v w => ∃ Tf, JT S w0 Gs M L v Tf w) a0 i os := by
  intro os
  induction os with
  | nil => intro i _ _; exact trivial
  | cons o r ih =>
    intro i hat h
    exact ⟨h.1.step hO hmo (hat 0 o rfl) ha, ih (fun k o' hk => by have := hat (k + 1) o' hk; rwa [show i + (k + 1) = i + 1 + k by omega] at this) h.2⟩
theorem wq_turns {S : Nat → Prop} {id : Nat} {ops : Array Oper} (M : List (Nat × Nat)) (D : List (Option Tmp)) (Gs : List Pt) (hm : P.follows .mixedOrders = true) (hpl : plain N 0 D ops.toList = true) (hmo : mustOk ops.toList M = true) (hsz : Gs.length = ops.size) (hO : OldT S w Gs) (hsteps : StepsFT S M N P D Gs F w 0 ops.toList)
    (hend : ∀ (v : Nat → Value) (Tf : Nat → Nat → Prop) (F' : Nat → Value) (w' : World), Kept S w w' → (∀ i, i < ops.size → v i = saysT (Gs.getD i Pt.none)) → (∀ i t x, Gs.getD i Pt.none = .thg t x → t.B (Tf i) w' ∧ Grew w t.T (Tf i)) → (∀ i j t x t' x', i ≠ j → Gs.getD i Pt.none = .thg t x → Gs.getD j Pt.none = .thg t' x' → Apart (Tf i) (Tf j)) → (∀ t, F' t = putsF v 0 D F t) → Q .normal F' w') : wq none P N (.region id ops true) Q F w := by
  intro a ha
  refine wpIn_wide.2 ?_
  refine wp_region_inv D (fun L v w' => ∃ Tf, JT S w Gs M L v Tf w') hm (by rw [ha.size]; exact hpl) ⟨fun _ => noB, (Kept.refl _ w).drew, fun _ e => (by cases e), fun i => ?_, fun _ _ _ _ e => (by cases e), hO.2, fun _ _ _ e => (by cases e)⟩ (hsteps.steps hO hmo ha (fun k o hk => by rw [Nat.zero_add]; exact hk)) fun L v w' ⟨Tf, hJ⟩ hL => ?_
  · unfold isT
    cases e : Gs.getD i Pt.none with
    | eq y => trivial
    | thg t y => exact t.stA w _ (fun _ => False) (hO.1 i t y e).2 (Kept.refl _ w).drew (fun _ _ z => z)
  · have hlt : ∀ i t x, Gs.getD i Pt.none = .thg t x → L i = true := fun i t x e => by
      refine hL i ?_
      rw [← hsz]
      rcases Nat.lt_or_ge i Gs.length with h' | h'
      · exact h'
      · have : Gs.getD i Pt.none = Pt.none := by simp [List.getD, List.getElem?_eq_none h']
        rw [this] at e; cases e
    refine ⟨putsF v 0 D F, putAll_fr v D 0 F a ha (plain_fits hpl), hend v Tf _ w' hJ.kept (fun i hi => hJ.vals i (hL i hi)) (fun i t x e => ?_) (fun i j t x t' x' hij e1 e2 => ?_) fun _ => rfl⟩
    · have := hJ.things i
      unfold isT at this
      rw [e] at this
      simp only [hlt i t x e, if_true] at this
      exact ⟨this, hJ.grew i t x e (hlt i t x e)⟩
    · have := hJ.apart i j hij
      unfold curT at this
      rw [e1, e2] at this
      simpa only [hlt i t x e1, hlt j t' x' e2, if_true] using this
end
end Go.Proofs.YtdcbabgcbkdlhaaDoor
set_option maxRecDepth 100000
namespace Go.Proofs.YtdcbabgcbkdlhaaDoor
open Go.RowKit

/-- Who holds the row: the latest of these operations (the latest first) that is listed. -/
def hold (L : Nat → Bool) (v : Nat → Value) (C : Nat → List Nat) (vI : Value) (lI : List Nat) : List Nat → Value × List Nat
  | [] => (vI, lI)
  | x :: r => if L x = true then (v x, C x) else hold L v C vI lI r

/-- They are listed in their order. -/
def Closed (L : Nat → Bool) : List Nat → Prop
  | [] => True
  | [_] => True
  | y :: x :: r => (L y = true → L x = true) ∧ Closed L (x :: r)

theorem Closed.later {L : Nat → Bool} : ∀ {ys : List Nat} {x : Nat} {r : List Nat}, Closed L (ys ++ x :: r) → L x = false → ∀ y ∈ ys, L y = false := by
  intro ys
  induction ys with
  | nil => intro x r _ _ y hy; cases hy
  | cons z zs ih =>
    intro x r h hx y hy
    have hrec : Closed L (zs ++ x :: r) := by
      cases zs with
      | nil => exact h.2
      | cons z' zs' => exact h.2
    have hzs := ih hrec hx
    rcases List.mem_cons.1 hy with rfl | hy
    · cases hz : L y with
      | false => rfl
      | true =>
        cases zs with
        | nil => have := h.1 hz; rw [hx] at this; cases this
        | cons z' zs' => have := h.1 hz; rw [hzs z' (by simp)] at this; cases this
    · exact hzs y hy

theorem hold_later {L : Nat → Bool} {v : Nat → Value} {C : Nat → List Nat} {vI : Value} {lI : List Nat} : ∀ {ys r : List Nat}, (∀ y ∈ ys, L y = false) → hold L v C vI lI (ys ++ r) = hold L v C vI lI r := by
  intro ys
  induction ys with
  | nil => intro r _; rfl
  | cons z zs ih =>
    intro r h
    simp only [List.cons_append, hold]
    rw [if_neg (by rw [h z (by simp)]; decide)]
    exact ih (fun y hy => h y (by simp [hy]))

theorem Closed.up {L : Nat → Bool} : ∀ {X : List Nat} {i : Nat}, Closed L X → (∀ ys x r, X = ys ++ i :: x :: r → L x = true) → Closed (upL L i) X := by
  intro X
  induction X with
  | nil => intro i _ _; exact trivial
  | cons y r ih =>
    intro i h hp
    cases r with
    | nil => exact trivial
    | cons x r =>
      refine ⟨fun hy => ?_, ih h.2 fun ys x' r' e => hp (y :: ys) x' r' (by rw [e]; rfl)⟩
      unfold upL at hy ⊢
      by_cases hx : x = i
      · rw [if_pos hx]
      · rw [if_neg hx]
        by_cases hyi : y = i
        · subst hyi; exact hp [] x r rfl
        · rw [if_neg hyi] at hy; exact h.1 hy

theorem Closed.up_other {L : Nat → Bool} {X : List Nat} {i : Nat} (h : Closed L X) (hi : i ∉ X) : Closed (upL L i) X :=
  h.up fun ys x r e => absurd (by rw [e]; simp) hi

theorem hold_up_other {L : Nat → Bool} {v : Nat → Value} {C : Nat → List Nat} {vI : Value} {lI : List Nat} {i : Nat} {x : Value} : ∀ {X : List Nat}, i ∉ X → hold (upL L i) (upV v i x) C vI lI X = hold L v C vI lI X := by
  intro X
  induction X with
  | nil => intro _; rfl
  | cons y r ih =>
    intro hi
    have hy : y ≠ i := fun e => hi (by simp [e])
    simp only [hold]
    rw [show upL L i y = L y from if_neg hy, show upV v i x y = v y from if_neg hy, ih (fun h => hi (by simp [h]))]

/-- The invariant. -/
def OwnJ (w0 : World) (S0 : Nat → Prop) (B : Nat) (vI : Value) (lI : List Nat) (X : List Nat) (C : Nat → List Nat) (G : Nat → Value → World → Prop) (L : Nat → Bool) (v : Nat → Value) (w : World) : Prop :=
  ∃ S : Nat → Prop, (∀ k, S k → k < w.heap.size) ∧ (∀ k, S k → S0 k ∨ w0.heap.size ≤ k) ∧ Kept S w0 w ∧ Closed L X ∧ (∀ j, L j = true → ∀ w', Kept S w w' → G j (v j) w') ∧
    Row w B (hold L v C vI lI X).1 (hold L v C vI lI X).2 ∧ (∀ g, (hold L v C vI lI X).1.ownBlock = some g → S g)

/-- What is asked of an operation that leaves the row alone. -/
theorem StepJ.other {os : List Oper} {P : Program} {D : List (Option Tmp)} {w0 : World} {S0 : Nat → Prop} {B : Nat} {vI : Value} {lI X : List Nat} {C : Nat → List Nat} {G : Nat → Value → World → Prop} {a0 : Act} {i : Nat} {o : Oper} (hi : i ∉ X)
    (h : ∀ (S : Nat → Prop) (a : Act) (w : World), (∀ k, S k → k < w.heap.size) → (∀ w', Kept S w w' → Kept S0 w0 w') → (∀ t, some t ∉ D → a.eval (.tmp t) = a0.eval (.tmp t)) → (∀ t, late os t i = true → a.eval (.tmp t) = a0.eval (.tmp t)) →
      Deps D (fun j x w => ∀ w', Kept S w w' → G j x w') a w o.after.toList → (∀ x, X.head? = some x → ∀ e ∈ o.after.toList, e.on = x → Region.binds .any e = true → ∀ d, D.getD x none = some d → Row w B (a.eval (.tmp d)) (C x)) →
      (goes D o a = true → Yields P a.eval o w (fun x w' => (∀ w'', Kept S w' w'' → G i x w'') ∧ Kept (fun _ => False) w w')) ∧ (goes D o a = false → ∀ w', Kept S w w' → G i undef w')) :
    StepJ os P D (OwnJ w0 S0 B vI lI X C G) a0 i o := by
  intro L v a w ⟨S, hlt, h0, hk, hcl, hg, hrow, hown⟩ hli hedges hout hhere hlate
  have hR : ∀ w', Kept S w w' → Kept S0 w0 w' := fun w' k => (hk.trans k (fun _ _ x => x)).mono (fun b hb hS => by
    rcases h0 b hS with h | h
    · exact h
    · omega)
  have hdeps : Deps D (fun j x w => ∀ w', Kept S w w' → G j x w') a w o.after.toList := Deps.mk fun e he hb d hd => by
    have hL := hedges e he hb
    have hDe : D[e.on]? = some (some d) := by
      cases hx : D[e.on]? with
      | none => simp [List.getD, hx] at hd
      | some y => simp [List.getD, hx] at hd; rw [hd]
    rw [hhere e.on d hL hDe]
    exact hg e.on hL
  have hr : ∀ x, X.head? = some x → ∀ e ∈ o.after.toList, e.on = x → Region.binds .any e = true → ∀ d, D.getD x none = some d → Row w B (a.eval (.tmp d)) (C x) := by
    intro x hx e he hex hb d hd
    subst hex
    have hL := hedges e he hb
    have hDe : D[e.on]? = some (some d) := by
      cases hx : D[e.on]? with
      | none => simp [List.getD, hx] at hd
      | some y => simp [List.getD, hx] at hd; rw [hd]
    rw [hhere e.on d hL hDe]
    cases X with
    | nil => cases hx
    | cons y r =>
      simp at hx
      subst hx
      simpa [hold, hL] using hrow
  obtain ⟨s1, s2⟩ := h S a w hlt hR hout hlate hdeps hr
  have fin : ∀ (x : Value) (w' : World), (∀ w'', Kept S w' w'' → G i x w'') → Kept (fun _ => False) w w' → OwnJ w0 S0 B vI lI X C G (upL L i) (upV v i x) w' := by
    intro x w' hG hkk
    refine ⟨S, fun k hS => Nat.lt_of_lt_of_le (hlt k hS) hkk.size, h0, hk.trans hkk (fun _ _ f => f.elim), hcl.up_other hi, fun j hj w'' k => ?_, ?_, ?_⟩
    · by_cases hji : j = i
      · subst hji; rw [show upV v j x j = x from if_pos rfl]; exact hG w'' k
      · rw [show upL L i j = L j from if_neg hji] at hj
        rw [show upV v i x j = v j from if_neg hji]
        exact hg j hj w'' ((hkk.mono (S' := S) (fun _ _ f => f.elim)).trans k (fun _ _ f => f))
    · rw [hold_up_other hi]; exact hrow.all hkk
    · rw [hold_up_other hi]; exact hown
  refine ⟨fun hgo => ?_, fun hgo => fin undef w (s2 hgo) (Kept.refl _ _)⟩
  have := s1 hgo
  revert this
  unfold Yields
  generalize (execOp a.eval o).run P w = r
  intro hh
  cases r with
  | ok n w' =>
    cases n <;> simp only at hh ⊢ <;> first
      | exact fin _ _ hh.1 hh.2
      | exact hh.elim
      | exact Calls.mono hh (fun e w'' ⟨y, he, hk⟩ => ⟨y, he, fin _ _ hk.1 hk.2⟩)
  | halt x w' => exact hh.elim

/-- Who held the row: the first of these, or whoever came with it. -/
def Prev (D : List (Option Tmp)) (C : Nat → List Nat) (vI : Value) (lI : List Nat) (a : Act) (p : Value) (lp : List Nat) : List Nat → Prop
  | [] => p = vI ∧ lp = lI
  | x :: _ => lp = C x ∧ ∀ d, D.getD x none = some d → p = a.eval (.tmp d)

/-- What is asked of an operation that takes the row on: p is who held it. -/
theorem StepJ.own {os : List Oper} {P : Program} {D : List (Option Tmp)} {w0 : World} {S0 : Nat → Prop} {B : Nat} {vI : Value} {lI X : List Nat} {C : Nat → List Nat} {G : Nat → Value → World → Prop} {a0 : Act} {i : Nat} {o : Oper} (ys r : List Nat) (hX : X = ys ++ i :: r) (hnd : i ∉ ys ∧ i ∉ r)
    (hr : ∀ x, r.head? = some x → ∃ e ∈ o.after.toList, e.on = x ∧ Region.binds .any e = true ∧ ∃ d, D.getD x none = some d) (hG : ∀ x w, G i x w)
    (h : ∀ (S : Nat → Prop) (a : Act) (w : World), (∀ k, S k → k < w.heap.size) → (∀ w', Kept S w w' → Kept S0 w0 w') → (∀ t, some t ∉ D → a.eval (.tmp t) = a0.eval (.tmp t)) → (∀ t, late os t i = true → a.eval (.tmp t) = a0.eval (.tmp t)) →
      Deps D (fun j x w => ∀ w', Kept S w w' → G j x w') a w o.after.toList → ∀ (p : Value) (lp : List Nat), Row w B p lp →
      Prev D C vI lI a p lp r →
      goes D o a = true ∧ Yields P a.eval o w (fun x w' => Row w' B x (C i) ∧ Kept (fun k => p.ownBlock = some k) w w' ∧ (x.ownBlock = p.ownBlock ∨ ∀ g, x.ownBlock = some g → w.heap.size ≤ g))) :
    StepJ os P D (OwnJ w0 S0 B vI lI X C G) a0 i o := by
  intro L v a w ⟨S, hlt, h0, hk, hcl, hg, hrow, hown⟩ hli hedges hout hhere hlate
  subst hX
  have hlater := hcl.later hli
  have hhold : hold L v C vI lI (ys ++ i :: r) = hold L v C vI lI r := by
    rw [hold_later hlater]
    show (if L i = true then (v i, C i) else hold L v C vI lI r) = hold L v C vI lI r
    rw [if_neg (by rw [hli]; decide)]
  rw [hhold] at hrow hown
  have hR : ∀ w', Kept S w w' → Kept S0 w0 w' := fun w' k => (hk.trans k (fun _ _ x => x)).mono (fun b hb hS => by
    rcases h0 b hS with h | h
    · exact h
    · omega)
  have hat : ∀ (j : Nat) (d : Tmp), D.getD j none = some d → D[j]? = some (some d) := by
    intro j d hd
    cases hx : D[j]? with
    | none => simp [List.getD, hx] at hd
    | some y => simp [List.getD, hx] at hd; rw [hd]
  have hdeps : Deps D (fun j x w => ∀ w', Kept S w w' → G j x w') a w o.after.toList := Deps.mk fun e he hb d hd => by
    have hL := hedges e he hb
    rw [hhere e.on d hL (hat e.on d hd)]
    exact hg e.on hL
  have hlx : ∀ x, r.head? = some x → L x = true := by
    intro x hx
    obtain ⟨e, he, rfl, hb, _⟩ := hr x hx
    exact hedges e he hb
  have hp : Prev D C vI lI a (hold L v C vI lI r).1 (hold L v C vI lI r).2 r := by
    clear hhold hrow hown hcl h
    cases r with
    | nil => exact ⟨rfl, rfl⟩
    | cons x r' =>
      have hL := hlx x rfl
      have e1 : hold L v C vI lI (x :: r') = (v x, C x) := by
        show (if L x = true then (v x, C x) else hold L v C vI lI r') = _
        rw [if_pos hL]
      refine ⟨by rw [e1], fun d hd => ?_⟩
      rw [e1, hhere x d hL (hat x d hd)]
  obtain ⟨hgo, hy⟩ := h S a w hlt hR hout hlate hdeps _ _ hrow hp
  generalize (hold L v C vI lI r).1 = p at *
  have fin : ∀ (x : Value) (w' : World), Row w' B x (C i) → Kept (fun k => p.ownBlock = some k) w w' → (x.ownBlock = p.ownBlock ∨ ∀ g, x.ownBlock = some g → w.heap.size ≤ g) → OwnJ w0 S0 B vI lI (ys ++ i :: r) C G (upL L i) (upV v i x) w' := by
    intro x w' hrx hkk hwh
    have hkS : Kept S w w' := hkk.mono (fun k _ e => hown k e)
    refine ⟨fun k => S k ∨ x.ownBlock = some k, ?_, ?_, ?_, ?_, ?_, ?_, ?_⟩
    · rintro k (hS | hx)
      · exact Nat.lt_of_lt_of_le (hlt k hS) hkk.size
      · exact (hrx.lt k hx).2
    · rintro k (hS | hx)
      · exact h0 k hS
      · rcases hwh with e | e
        · exact h0 k (hown k (by rw [← e]; exact hx))
        · exact .inr (Nat.le_trans hk.size (e k hx))
    · exact (hk.trans hkS (fun _ _ x => x)).mono (fun _ _ x => .inl x)
    · refine hcl.up fun ys' x' r' e => ?_
      -- the two ways to part the list are one
      have key : ∀ (zs ys' : List Nat) (x' : Nat) (r r' : List Nat), i ∉ zs → i ∉ ys' → zs ++ i :: r = ys' ++ i :: x' :: r' → r = x' :: r' := by
        intro zs
        induction zs with
        | nil =>
          intro ys' x' r r' _ hy e
          cases ys' with
          | nil => simpa using e
          | cons z zs => simp at e; exact absurd e.1 (fun h => hy (by simp [h]))
        | cons z zs ih =>
          intro ys' x' r r' hz hy e
          cases ys' with
          | nil => simp at e; exact absurd e.1.symm (fun h => hz (by simp [h]))
          | cons y ys'' => simp at e; exact ih ys'' x' r r' (fun h => hz (by simp [h])) (fun h => hy (by simp [h])) e.2
      have hin : i ∉ ys' := by
        intro hm
        have hc : (ys ++ i :: r).count i = 1 := by rw [List.count_append, List.count_eq_zero_of_not_mem hnd.1, List.count_cons_self, List.count_eq_zero_of_not_mem hnd.2]
        rw [e, List.count_append, List.count_cons_self] at hc
        have := List.count_pos_iff.2 hm
        omega
      have := key ys ys' x' r r' hnd.1 hin e
      subst this
      exact hlx x' rfl
    · intro j hj w'' k
      by_cases hji : j = i
      · subst hji; exact hG _ _
      · rw [show upL L i j = L j from if_neg hji] at hj
        rw [show upV v i x j = v j from if_neg hji]
        refine hg j hj w'' (hkS.trans k fun b hb hS => ?_)
        rcases hS with hS | hx
        · exact hS
        · rcases hwh with e | e
          · exact hown b (by rw [← e]; exact hx)
          · have := e b hx; omega
    · have e : hold (upL L i) (upV v i x) C vI lI (ys ++ i :: r) = (x, C i) := by
        rw [hold_later (fun y hym => by rw [show upL L i y = L y from if_neg (fun h : y = i => hnd.1 (by rw [← h]; exact hym))]; exact hlater y hym)]
        show (if upL L i i = true then (upV v i x i, C i) else _) = _
        rw [if_pos (show upL L i i = true from if_pos rfl), show upV v i x i = x from if_pos rfl]
      rw [e]; exact hrx
    · have e : hold (upL L i) (upV v i x) C vI lI (ys ++ i :: r) = (x, C i) := by
        rw [hold_later (fun y hym => by rw [show upL L i y = L y from if_neg (fun h : y = i => hnd.1 (by rw [← h]; exact hym))]; exact hlater y hym)]
        show (if upL L i i = true then (upV v i x i, C i) else _) = _
        rw [if_pos (show upL L i i = true from if_pos rfl), show upV v i x i = x from if_pos rfl]
      rw [e]
      intro g hgx
      exact .inr hgx
  refine ⟨fun _ => ?_, fun hno => ?_⟩
  · revert hy
    unfold Yields
    generalize (execOp a.eval o).run P w = res
    intro hh
    cases res with
    | ok n w' =>
      cases n <;> simp only at hh ⊢ <;> first
        | exact fin _ _ hh.1 hh.2.1 hh.2.2
        | exact hh.elim
        | exact Calls.mono hh (fun e w'' ⟨y, he, hk⟩ => ⟨y, he, fin _ _ hk.1 hk.2.1 hk.2.2⟩)
    | halt x w' => exact hh.elim
  · rw [hgo] at hno; cases hno


section
variable {os : List Oper} {P : Program} {D : List (Option Tmp)} {w0 : World} {S0 : Nat → Prop} {B : Nat} {vI : Value} {lI X : List Nat} {C : Nat → List Nat} {Gs : List Pd} {a0 : Act} {i : Nat} {o : Oper}

theorem StepJ.one (hi : i ∉ X) (hg : o.guard = none)
    (h : ∀ (S : Nat → Prop) (a : Act) (w : World), (∀ k, S k → k < w.heap.size) → (∀ w', Kept S w w' → Kept S0 w0 w') → (∀ t, some t ∉ D → a.eval (.tmp t) = a0.eval (.tmp t)) → (∀ t, late os t i = true → a.eval (.tmp t) = a0.eval (.tmp t)) →
      Deps D (fun j x w => ∀ w', Kept S w w' → Said Gs j x w') a w o.after.toList → (∀ x, X.head? = some x → ∀ e ∈ o.after.toList, e.on = x → Region.binds .any e = true → ∀ d, D.getD x none = some d → Row w B (a.eval (.tmp d)) (C x)) →
      Yields P a.eval o w (fun x w' => (∀ w'', Kept S w' w'' → Said Gs i x w'') ∧ Kept (fun _ => False) w w')) :
    StepJ os P D (OwnJ w0 S0 B vI lI X C (Said Gs)) a0 i o :=
  StepJ.other hi fun S a w hlt hR hout hlate hD hrow => ⟨fun _ => h S a w hlt hR hout hlate hD hrow, fun hno => by unfold goes at hno; rw [hg] at hno; cases hno⟩

end

end Go.Proofs.YtdcbabgcbkdlhaaDoor
set_option maxRecDepth 100000
namespace Go.Proofs.YtdcbabgcbkdlhaaDoor
open Go.RowKit

/-- Bytes up to some place. -/
theorem BytesArg.upto {w : World} {v : Value} {l : List Nat} (h : BytesArg w v l) (j : Nat) (hj : j ≤ l.length) (k : IntKind) :
    ∃ v', (Instr.sliceAt 28 v none (some (.int k (j : Int))) none).run Tryd.prog w = .ok v' w ∧ BytesArg w v' (l.take j) := by
  obtain ⟨a, cap, rfl, h1, h2, h3, h256, hc⟩ := h
  have hb : ¬ cap < j := by omega
  have hb0 : BytesArg w (.slice a l.length cap) l := ⟨a, cap, rfl, h1, h2, h3, h256, hc⟩
  obtain ⟨i0, hi, hz0, hz1, hz2⟩ := info_parts Tryd.info_u8
  refine ⟨.slice a j cap, ?_, ?_⟩
  · cases a with
    | none => simp [Instr.sliceAt, Instr.slice, Instr.sliceBounds, Instr.sliceBound, asIntOf, run_underlying Tryd.underlying28, sizeOf, typeInfo, hi, hb]
    | some ad => simp [Instr.sliceAt, Instr.slice, Instr.sliceBounds, Instr.sliceBound, asIntOf, run_underlying Tryd.underlying28, sizeOf, typeInfo, hi, hb, Addr.add]
  · have := hb0.cut 0 j cap (Nat.zero_le _) hj (by omega) h2 a (fun _ => by cases a with | none => rfl | some ad => simp [Addr.add]) h3
    simpa using this

end Go.Proofs.YtdcbabgcbkdlhaaDoor
set_option maxRecDepth 100000
namespace Go.Proofs.YtdcbabgcbkdlhaaDoor
open Go.RowKit

def Owb (w : World) (T : Nat → Prop) (v : Value) (l : List Nat) : Prop := Row w 0 v l ∧ ∀ i, T i ↔ v.ownBlock = some i
theorem Owb.nil (w : World) : Owb w noB (.slice none 0 0) [] := ⟨Row.nil w 0, fun i => ⟨fun h => h.elim, fun h => by cases h⟩⟩
theorem Owb.live {w : World} {T : Nat → Prop} {v : Value} {l : List Nat} (h : Owb w T v l) : Live w T := fun i hi => (h.1.lt i ((h.2 i).1 hi)).2
theorem Owb.byt {w : World} {T : Nat → Prop} {v : Value} {l : List Nat} (h : Owb w T v l) : Byt w T v l := ⟨h.1.bytes, h.live, fun _ a n c e => (h.2 a.block).2 (by rw [e]; rfl)⟩
theorem Owb.all {S : Nat → Prop} {w w' : World} {T : Nat → Prop} {v : Value} {l : List Nat} (h : Owb w T v l) (k : Kept S w w') (ha : Apart T S) : Owb w' T v l := ⟨h.1.kept k (fun g hg => ha g ((h.2 g).2 hg)), h.2⟩
theorem Owb.one {w : World} {T : Nat → Prop} {v : Value} {l : List Nat} (h : Owb w T v l) : v.oneCell' = true := h.byt.one
theorem Owb.oneC {w : World} {T : Nat → Prop} {v : Value} {l : List Nat} (h : Owb w T v l) : oneC v = true := h.byt.oneC
theorem Owb.cells {w : World} {T : Nat → Prop} {v : Value} {l : List Nat} (h : Owb w T v l) : Cells w T := fun i hi => by
  have hv := (h.2 i).1 hi
  rcases h.1.1.2 with ⟨rfl, _⟩ | ⟨g, cap, cur, rfl, _, hg, _⟩
  · cases hv
  · cases hv; exact ⟨_, hg, rfl⟩
theorem Owb.row {A B : World} {row : Option Nat} {n : Nat} {T : Nat → Prop} {v : Value} {l : List Nat} (h : Owb A T v l) (hg : A.grownBy B row) (hr : RowNew n A row) : Owb B T v l := h.all (kept_row hg) (h.cells.apart hr)
theorem Owb.lt256 {w : World} {T : Nat → Prop} {v : Value} {l : List Nat} (h : Owb w T v l) : ∀ x ∈ l, x < 256 := h.1.2
theorem Byt.lt256 {w : World} {T : Nat → Prop} {v : Value} {l : List Nat} (h : Byt w T v l) : ∀ x ∈ l, x < 256 := h.1.lt256

def bytAddr (v : Value) (j : Nat) : Value := match v with
  | .slice (some a) _ _ => .pointer (some (a.add j))
  | _ => undef
section
variable {ρ : Operand → Value} {o : Oper} {w : World} {R : Value → World → Prop}
theorem Byt.at_ {w : World} {T : Nat → Prop} {v : Value} {l : List Nat} {j : Nat} (hb : Byt w T v l) (hj : j < l.length) : ∃ a, bytAddr v j = .pointer (some a) ∧ w.cell? a = some (.int .u8 (l.getD j 0 : Nat)) := by
  obtain ⟨⟨a, cap, rfl, _, _, _, _, hc⟩, _⟩ := hb
  obtain ⟨b, off, rfl, _, hcell⟩ := hc (by omega)
  exact ⟨⟨b, off + j, none⟩, by rw [bytAddr, Addr.add_lit], hcell j hj⟩
end

end Go.Proofs.YtdcbabgcbkdlhaaDoor
set_option maxRecDepth 100000
namespace Go.Proofs.YtdcbabgcbkdlhaaDoor
open Go.RowKit
/-- A frame that can be read. -/
def FrmV (w : World) (v : Value) (f : FD) : Prop := ∃ (a b c : Value) (Ta Tb Tc : Nat → Prop), v = .agg #[.int .i64 f.W, .int .i64 f.H, a, b, c] ∧ Owb w Ta a f.p0 ∧ Owb w Tb b f.p1 ∧ Owb w Tc c f.p2
theorem FrmV.all {w w' : World} {v : Value} {f : FD} (h : FrmV w v f) (k : Kept (fun _ => False) w w') : FrmV w' v f := by
  obtain ⟨a, b, c, Ta, Tb, Tc, e, h1, h2, h3⟩ := h
  exact ⟨a, b, c, Ta, Tb, Tc, e, h1.all k Apart.none, h2.all k Apart.none, h3.all k Apart.none⟩
theorem Stc.apart {w : World} {p : Nat} {t : TypeId} {vs : List Value} {T : Nat → Prop} {v : Value} {l : List Nat} (h : Stc w p t vs) (ho : Owb w T v l) (ht : t ≠ 5) : Apart (onB p) T := fun i hi hT => by
  cases hi
  have hv := (ho.2 _).1 hT
  rcases ho.1.1.2 with ⟨rfl, _⟩ | ⟨g, cap, cur, rfl, _, hg, _⟩
  · cases hv
  · cases hv
    have h' := h
    unfold Stc at h'
    rw [h'] at hg
    cases hg; exact ht rfl
end Go.Proofs.YtdcbabgcbkdlhaaDoor
set_option maxRecDepth 100000
namespace Go.Proofs.YtdcbabgcbkdlhaaDoor
open Go.RowKit

/-- A part of a slice of bytes: from l, up to h, its room up to m. -/
def subV (v : Value) (l h m : Nat) : Value := match v with
  | .slice a _ _ => .slice (if m = l then a else a.map (·.add l)) (h - l) (m - l)
  | _ => undef
def capV : Value → Nat
  | .slice _ _ c => c
  | _ => 0
theorem Byt.cap {w : World} {T : Nat → Prop} {v : Value} {l : List Nat} (h : Byt w T v l) : l.length ≤ capV v ∧ capV v ≤ maxLen := by
  obtain ⟨⟨a, cap, rfl, h1, h2, _⟩, _⟩ := h; exact ⟨h1, h2⟩
theorem Byt.sub {w : World} {T : Nat → Prop} {v : Value} {l : List Nat} (hb : Byt w T v l) {i j m : Nat} (h1 : i ≤ j) (h2 : j ≤ m) (h3 : j ≤ l.length) (h4 : m ≤ capV v) : Byt w T (subV v i j m) ((l.drop i).take (j - i)) := by
  have hc := hb.cap
  obtain ⟨hB, hL, hT⟩ := hb
  obtain ⟨a, cap, rfl, k1, k2, k3, k4, k5⟩ := hB
  have hB : BytesArg w (.slice a l.length cap) l := ⟨a, cap, rfl, k1, k2, k3, k4, k5⟩
  have hm : m ≤ cap := h4
  refine ⟨hB.cut i j (m - i) h1 h3 (by omega) (by omega) (if m = i then a else a.map (fun z : Addr => z.add i)) (fun hp => by rw [if_neg (by omega)]) (fun h0 => ?_), hL, fun hp a' n c e => ?_⟩
  · split at h0
    · omega
    · have : a = none := by cases a <;> simp_all
      have := k3 this; omega
  · have hlen : 0 < j - i := by
      have : ((l.drop i).take (j - i)).length = j - i := by simp; omega
      omega
    simp only [subV] at e
    rw [if_neg (by omega)] at e
    cases a with
    | none => simp at e
    | some a0 =>
      simp at e
      obtain ⟨e1, _, _⟩ := e
      have hblk : a'.block = a0.block := by rw [← e1]; unfold Addr.add; split <;> rfl
      rw [hblk]
      exact hT (by omega) a0 _ _ rfl
section
variable {ro : Option Nat} {N : Nat} {Q : (Exit → (Nat → Value) → World → Prop)} {F : Nat → Value} {w : World} {o : Oper}
end
end Go.Proofs.YtdcbabgcbkdlhaaDoor
set_option maxRecDepth 100000
namespace Go.Proofs.YtdcbabgcbkdlhaaDoor
open Go.RowKit



def arrV (p k : Nat) : Value := .slice (some (if 4 = k then ⟨p, 0, none⟩ else ⟨p, k, none⟩)) (4 - k) (4 - k)
theorem Stc.bytes {w : World} {p t : Nat} {a b c d : Nat} (h : Stc w p t [.int .u8 (a : Int), .int .u8 (b : Int), .int .u8 (c : Int), .int .u8 (d : Int)]) (ha : a < 256) (hb : b < 256) (hc : c < 256) (hd : d < 256) {k : Nat} (hk : k ≤ 4) : Byt w (onB p) (arrV p k) ([a, b, c, d].drop k) := by
  have hl : ([a, b, c, d].drop k).length = 4 - k := by simp
  refine ⟨⟨some (if 4 = k then ⟨p, 0, none⟩ else ⟨p, k, none⟩), 4 - k, by rw [hl]; rfl, by omega, Nat.le_trans (Nat.sub_le 4 k) (by decide), (fun e => by cases e), ?_, fun hp => ⟨p, k, by rw [if_neg (by omega)], h.lt, fun i hi => ?_⟩⟩, onB_live h.lt, fun _ a' n c' e => ?_⟩
  · intro x hx
    have := List.mem_of_mem_drop hx
    simp at this
    omega
  · rw [hl] at hi
    have hc := h.cell (i := k + i) (v := .int .u8 (([a, b, c, d].drop k).getD i 0 : Nat)) (by
      have : k = 0 ∨ k = 1 ∨ k = 2 ∨ k = 3 := by omega
      have hi4 : i = 0 ∨ i = 1 ∨ i = 2 ∨ i = 3 := by omega
      rcases this with rfl | rfl | rfl | rfl <;> rcases hi4 with rfl | rfl | rfl | rfl <;> first | rfl | omega)
    exact hc
  · unfold arrV at e
    simp only [Value.slice.injEq, Option.some.injEq] at e
    rw [← e.1]
    split <;> rfl

end Go.Proofs.YtdcbabgcbkdlhaaDoor
set_option maxRecDepth 100000
namespace Go.Proofs.YtdcbabgcbkdlhaaDoor
open Go.RowKit

theorem retB {a b : Bool} (h : a = b) : Ending.returned (.bool a) = .returned (.bool b) := by rw [h]
/-- A function that is asked with a number below n, in whatever world in which nothing that was there has changed. -/
def Ask1 (w : World) (n : Nat) (v : Value) (g : Nat → Int) : Prop :=
  ∃ (f : FuncId) (cs : List Value), v = .func (.func f) #[] cs.toArray ∧ (∀ args w, (callFunc f args).run Tryd.prog w = .ok (.enter f args) w) ∧
    ∀ w', Kept (fun _ => False) w w' → ∀ k : Nat, k < n → Calls Tryd.prog f (.int .i64 (k : Int) :: cs).toArray w' fun e w'' => e = .returned (.int .i64 (g k)) ∧ Kept (fun _ => False) w' w''
theorem Ask1.all {w w' : World} {n : Nat} {v : Value} {g : Nat → Int} (h : Ask1 w n v g) (k : Kept (fun _ => False) w w') : Ask1 w' n v g := by
  obtain ⟨f, cs, e, hf, h⟩ := h
  exact ⟨f, cs, e, hf, fun w2 k2 => h w2 (k.trans k2 (fun _ _ x => x))⟩
/-- .. with two. -/
def Ask2 (w : World) (n : Nat) (v : Value) (g : Nat → Nat → Int) : Prop :=
  ∃ (f : FuncId) (cs : List Value), v = .func (.func f) #[] cs.toArray ∧ (∀ args w, (callFunc f args).run Tryd.prog w = .ok (.enter f args) w) ∧
    ∀ w', Kept (fun _ => False) w w' → ∀ i k : Nat, i < n → k < n → Calls Tryd.prog f (.int .i64 (i : Int) :: .int .i64 (k : Int) :: cs).toArray w' fun e w'' => e = .returned (.int .i64 (g i k)) ∧ Kept (fun _ => False) w' w''
theorem Ask2.all {w w' : World} {n : Nat} {v : Value} {g : Nat → Nat → Int} (h : Ask2 w n v g) (k : Kept (fun _ => False) w w') : Ask2 w' n v g := by
  obtain ⟨f, cs, e, hf, h⟩ := h
  exact ⟨f, cs, e, hf, fun w2 k2 => h w2 (k.trans k2 (fun _ _ x => x))⟩
end Go.Proofs.YtdcbabgcbkdlhaaDoor
set_option maxRecDepth 100000
namespace Go.Proofs.YtdcbabgcbkdlhaaDoor
open Go.RowKit

theorem Arr.first {w : World} {p n : Nat} {t : TypeId} {b c : Nat → Int} (h : Arr w p t n b) : Arr w p t n (upto 0 b c) := by rw [upto_zero]; exact h
theorem Arr.next {w : World} {p n : Nat} {t : TypeId} {b c : Nat → Int} {k : Nat} {x : Int} (h : Arr w p t n (upd (upto k b c) k x)) (e : x = c k) : Arr w p t n (upto (k + 1) b c) := by rw [← upto_set, ← e]; exact h
theorem Arr.last {w : World} {p n : Nat} {t : TypeId} {b c : Nat → Int} (h : Arr w p t n (upto n b c)) : Arr w p t n c := h.congr (fun i hi => by simp [upto, hi])

/-- Four functions, one a mode. -/
def Fns (w : World) (v : Value) (g : Nat → Nat → Nat → Int) : Prop := ∃ c : Nat → Value, v = .agg #[c 0, c 1, c 2, c 3] ∧ ∀ m, m < 4 → Ask2 w 4 (c m) (g m)
theorem Fns.all {w w' : World} {v : Value} {g : Nat → Nat → Nat → Int} (h : Fns w v g) (k : Kept (fun _ => False) w w') : Fns w' v g := by
  obtain ⟨c, e, h⟩ := h; exact ⟨c, e, fun m hm => (h m hm).all k⟩
end Go.Proofs.YtdcbabgcbkdlhaaDoor
set_option maxRecDepth 100000
namespace Go.Proofs.YtdcbabgcbkdlhaaDoor
open Go.RowKit
theorem stcT_vector : StcT Tryd.prog 23 2 := ⟨_, Tryd.underlying23, rfl, by kernel_rfl⟩
end Go.Proofs.YtdcbabgcbkdlhaaDoor
set_option maxRecDepth 100000
namespace Go.Proofs.YtdcbabgcbkdlhaaDoor

def nx (a : Int) (k : Nat) : Int := a - 2 + ((k % 5 : Nat) : Int)
def ny (c : Int) (k : Nat) : Int := c - 2 + ((k / 5 : Nat) : Int)
end Go.Proofs.YtdcbabgcbkdlhaaDoor
set_option maxRecDepth 100000
namespace Go.Proofs.YtdcbabgcbkdlhaaDoor
open Go.RowKit

/-- What is said of an operation: what it answers; that it turns the block of operation j; that it makes a block that holds zs until operation k, and us from then on; that it turns a block that was there. -/
inductive Pc where
  | eq (v : Value)
  | turn (j : Nat)
  | blk (t : TypeId) (zs : List Value) (k : Nat) (us : List Value)
  | told (p : Nat) (t : TypeId) (zs us : List Value)
def Pc.none : Pc := .eq undef
def isBlk : Pc → Bool
  | .blk _ _ _ _ => true
  | _ => false
def HoldC (n0 : Nat) (p : Pc) (L : Nat → Bool) (v : Value) (w : World) : Prop := match p with
  | .eq x => v = x
  | .turn _ => True
  | .told _ _ _ _ => True
  | .blk t zs k us => ∃ q, v = .pointer (some ⟨q, 0, none⟩) ∧ n0 ≤ q ∧ Stc w q t (if L k = true then us else zs)
/-- The blocks that were there and are turned: they are there, and none is another one. -/
def NotTold (p : Nat) : List Pc → Prop
  | [] => True
  | .told q _ _ _ :: r => p ≠ q ∧ NotTold p r
  | .eq _ :: r => NotTold p r
  | .turn _ :: r => NotTold p r
  | .blk _ _ _ _ :: r => NotTold p r
def Olds (S : Nat → Prop) (w0 : World) : List Pc → Prop
  | [] => True
  | .told p t zs _ :: r => (S p ∧ Stc w0 p t zs ∧ NotTold p r) ∧ Olds S w0 r
  | .eq _ :: r => Olds S w0 r
  | .turn _ :: r => Olds S w0 r
  | .blk _ _ _ _ :: r => Olds S w0 r
theorem NotTold.at {p : Nat} : ∀ {Gs : List Pc}, NotTold p Gs → ∀ i q t zs us, Gs.getD i Pc.none = .told q t zs us → p ≠ q := by
  intro Gs
  induction Gs with
  | nil => intro _ i q t zs us h; cases h
  | cons g r ih =>
    intro h i q t zs us e
    cases i with
    | zero =>
      have e : g = .told q t zs us := by simpa using e
      subst e; exact h.1
    | succ i =>
      have e : r.getD i Pc.none = .told q t zs us := by simpa using e
      cases g <;> first | exact ih h.2 i q t zs us e | exact ih h i q t zs us e
theorem Olds.at {S : Nat → Prop} {w0 : World} : ∀ {Gs : List Pc}, Olds S w0 Gs → ∀ i p t zs us, Gs.getD i Pc.none = .told p t zs us → S p ∧ Stc w0 p t zs := by
  intro Gs
  induction Gs with
  | nil => intro _ i q t zs us h; cases h
  | cons g r ih =>
    intro h i q t zs us e
    cases i with
    | zero =>
      have e : g = .told q t zs us := by simpa using e
      subst e; exact ⟨h.1.1, h.1.2.1⟩
    | succ i =>
      have e : r.getD i Pc.none = .told q t zs us := by simpa using e
      cases g <;> first | exact ih h.2 i q t zs us e | exact ih h i q t zs us e
theorem Olds.ne {S : Nat → Prop} {w0 : World} : ∀ {Gs : List Pc}, Olds S w0 Gs → ∀ i j p t zs us p' t' zs' us', i ≠ j → Gs.getD i Pc.none = .told p t zs us → Gs.getD j Pc.none = .told p' t' zs' us' → p ≠ p' := by
  intro Gs
  induction Gs with
  | nil => intro _ i j p t zs us p' t' zs' us' _ h; cases h
  | cons g r ih =>
    intro h i j p t zs us p' t' zs' us' hij e1 e2
    cases i with
    | zero =>
      have e1 : g = .told p t zs us := by simpa using e1
      subst e1
      cases j with
      | zero => exact absurd rfl hij
      | succ j => exact h.1.2.2.at j p' t' zs' us' (by simpa using e2)
    | succ i =>
      cases j with
      | zero =>
        have e2 : g = .told p' t' zs' us' := by simpa using e2
        subst e2
        exact fun e => h.1.2.2.at i p t zs us (by simpa using e1) e.symm
      | succ j =>
        have hr : Olds S w0 r := by cases g <;> first | exact h.2 | exact h
        exact ih hr i j p t zs us p' t' zs' us' (fun e => hij (by rw [e])) (by simpa using e1) (by simpa using e2)
structure JC (S : Nat → Prop) (w0 : World) (Gs : List Pc) (L : Nat → Bool) (v : Nat → Value) (w : World) : Prop where
  kept : Kept S w0 w
  olds : ∀ i p t zs us, Gs.getD i Pc.none = .told p t zs us → Stc w p t (if L i = true then us else zs)
  holds : ∀ i, L i = true → HoldC w0.heap.size (Gs.getD i Pc.none) L (v i) w
  apart : ∀ i j, i ≠ j → L i = true → L j = true → isBlk (Gs.getD i Pc.none) = true → isBlk (Gs.getD j Pc.none) = true → v i ≠ v j
  clos : ∀ k j, L k = true → Gs.getD k Pc.none = .turn j → L j = true
/-- Each block is turned by one operation, that waits for it. -/
def wfAt (os : List Oper) (D : List (Option Tmp)) (Gs : List Pc) (i : Nat) : Pc → Bool
  | .eq _ => true
  | .told _ _ _ _ => true
  | .turn j => (match Gs.getD j Pc.none with | .blk _ _ k _ => k == i | _ => false) && (match D.getD j none with | some _ => true | none => false) && (match os[i]? with | some o => waitsOn o j | none => false)
  | .blk _ _ k _ => match Gs.getD k Pc.none with | .turn j => j == i | _ => false
def wfC (os : List Oper) (D : List (Option Tmp)) (Gs : List Pc) : Bool := (List.range Gs.length).all fun i => wfAt os D Gs i (Gs.getD i Pc.none)
theorem wfC_at {os : List Oper} {D : List (Option Tmp)} {Gs : List Pc} (h : wfC os D Gs = true) (i : Nat) : wfAt os D Gs i (Gs.getD i Pc.none) = true := by
  by_cases hi : i < Gs.length
  · exact List.all_eq_true.1 h i (List.mem_range.2 hi)
  · have : Gs.getD i Pc.none = Pc.none := by simp [List.getD, List.getElem?_eq_none (show Gs.length ≤ i by omega)]
    rw [this]; rfl
theorem wf_blk {os : List Oper} {D : List (Option Tmp)} {Gs : List Pc} (h : wfC os D Gs = true) {i k : Nat} {t : TypeId} {zs us : List Value} (e : Gs.getD i Pc.none = .blk t zs k us) : Gs.getD k Pc.none = .turn i := by
  have := wfC_at h i
  rw [e] at this
  simp only [wfAt] at this
  split at this
  · rename_i j hj; rw [hj]; have : j = i := by simpa using this
    rw [this]
  · cases this

/-- What is told to operation i of those that it waits for. -/
def ToldC (n0 : Nat) (Gs : List Pc) (i : Nat) : Nat → Value → World → Prop := fun j v w => match Gs.getD j Pc.none with
  | .eq x => v = x
  | .turn _ => True
  | .told _ _ _ _ => True
  | .blk t zs k _ => k = i → ∃ q, v = .pointer (some ⟨q, 0, none⟩) ∧ n0 ≤ q ∧ Stc w q t zs
def LeftC (Gs : List Pc) (D : List (Option Tmp)) (i : Nat) (ρ : Operand → Value) (w : World) (v : Value) (w' : World) : Prop := match Gs.getD i Pc.none with
  | .eq x => v = x ∧ Kept (fun _ => False) w w'
  | .blk t zs _ _ => ∃ q, v = .pointer (some ⟨q, 0, none⟩) ∧ w.heap.size ≤ q ∧ Stc w' q t zs ∧ Kept (fun _ => False) w w'
  | .told p t _ us => Stc w' p t us ∧ Kept (onB p) w w'
  | .turn j => ∃ d q, D.getD j none = some d ∧ ρ (.tmp d) = .pointer (some ⟨q, 0, none⟩) ∧ (∀ t zs us, Gs.getD j Pc.none = .blk t zs i us → Stc w' q t us) ∧ Kept (onB q) w w'
section
variable {P : Program} {N : Nat} {F : Nat → Value} {w : World} {Q : Exit → (Nat → Value) → World → Prop}
def StepFC (S : Nat → Prop) (N : Nat) (P : Program) (D : List (Option Tmp)) (Gs : List Pc) (F0 : Nat → Value) (w0 : World) (i : Nat) (o : Oper) : Prop :=
  ∀ (F : Nat → Value) (w : World), Kept S w0 w → (∀ t, Nat.blt t N = true → some t ∉ D → F t = F0 t) → DepsF D (ToldC w0.heap.size Gs i) F w o.after.toList → (∀ p t zs us, Gs.getD i Pc.none = .told p t zs us → Stc w p t zs) →
    match o.guard with
    | none => Yields P (ev F) o w (LeftC Gs D i (ev F) w)
    | some (j, want) => ∃ d, D.getD j none = some d ∧
      ((F d = .bool want ∧ Yields P (ev F) o w (LeftC Gs D i (ev F) w)) ∨ ((F d = .bool (!want) ∨ F d = undef) ∧ Gs.getD i Pc.none = .eq undef))
def StepsFC (S : Nat → Prop) (N : Nat) (P : Program) (D : List (Option Tmp)) (Gs : List Pc) (F0 : Nat → Value) (w0 : World) : Nat → List Oper → Prop
  | _, [] => True
  | i, o :: r => StepFC S N P D Gs F0 w0 i o ∧ StepsFC S N P D Gs F0 w0 (i + 1) r
theorem StepFC.one {S : Nat → Prop} {D : List (Option Tmp)} {Gs : List Pc} {F0 : Nat → Value} {w0 : World} {i : Nat} {o : Oper} (hg : o.guard = none)
    (h : ∀ (F : Nat → Value) (w : World), Kept S w0 w → (∀ t, Nat.blt t N = true → some t ∉ D → F t = F0 t) → DepsF D (ToldC w0.heap.size Gs i) F w o.after.toList → Yields P (ev F) o w (LeftC Gs D i (ev F) w)) : StepFC S N P D Gs F0 w0 i o := by
  intro F w h1 h2 h3 _
  rw [hg]
  exact h F w h1 h2 h3
theorem StepFC.old {S : Nat → Prop} {D : List (Option Tmp)} {Gs : List Pc} {F0 : Nat → Value} {w0 : World} {i p : Nat} {t : TypeId} {zs us : List Value} {o : Oper} (hg : o.guard = none) (he : Gs.getD i Pc.none = .told p t zs us)
    (h : ∀ (F : Nat → Value) (w : World), Kept S w0 w → (∀ t, Nat.blt t N = true → some t ∉ D → F t = F0 t) → DepsF D (ToldC w0.heap.size Gs i) F w o.after.toList → Stc w p t zs → Yields P (ev F) o w (fun _ w' => Stc w' p t us ∧ Kept (onB p) w w')) : StepFC S N P D Gs F0 w0 i o := by
  intro F w h1 h2 h3 h4
  rw [hg]
  refine (h F w h1 h2 h3 (h4 _ _ _ _ he)).mono' fun v w' hx => ?_
  unfold LeftC
  rw [he]; exact hx
theorem upL_here {L : Nat → Bool} {i : Nat} : upL L i i = true := if_pos rfl
theorem upL_ne {L : Nat → Bool} {i j : Nat} (h : j ≠ i) : upL L i j = L j := if_neg h
theorem upV_here {v : Nat → Value} {i : Nat} {x : Value} : upV v i x i = x := if_pos rfl
theorem upV_ne {v : Nat → Value} {i j : Nat} {x : Value} (h : j ≠ i) : upV v i x j = v j := if_neg h
theorem getElem_getD {α : Type} {l : List α} {d x : α} {i : Nat} (h : l.getD i d = x) (hn : x ≠ d) : l[i]? = some x := by
  unfold List.getD at h
  cases hq : l[i]? with
  | none => rw [hq] at h; exact absurd h.symm hn
  | some y => rw [hq] at h; simpa using h

/-- One more operation that is no turn. -/
theorem JC.more {S : Nat → Prop} {os : List Oper} {D : List (Option Tmp)} {Gs : List Pc} {w0 w w' : World} {L : Nat → Bool} {v : Nat → Value} {i : Nat} {x : Value} (hwf : wfC os D Gs = true) (h : JC S w0 Gs L v w) (hi : L i = false) (k : Kept (fun _ => False) w w')
    (hnt : ∀ j, Gs.getD i Pc.none ≠ .turn j) (hnd : ∀ p t zs us, Gs.getD i Pc.none ≠ .told p t zs us) (hx : HoldC w0.heap.size (Gs.getD i Pc.none) (upL L i) x w') (hb : isBlk (Gs.getD i Pc.none) = true → ∃ q, x = .pointer (some ⟨q, 0, none⟩) ∧ w.heap.size ≤ q) : JC S w0 Gs (upL L i) (upV v i x) w' := by
  have hkeep : ∀ j, L j = true → HoldC w0.heap.size (Gs.getD j Pc.none) (upL L i) (v j) w' := by
    intro j hj
    have := h.holds j hj
    revert this
    cases e : Gs.getD j Pc.none with
    | eq y => exact id
    | turn y => exact id
    | told y1 y2 y3 y4 => exact id
    | blk t zs kk us =>
      rintro ⟨q, e1, e2, e3⟩
      have hki : kk ≠ i := fun e' => hnt j (by rw [← e']; exact wf_blk hwf e)
      refine ⟨q, e1, e2, ?_⟩
      rw [upL_ne hki]
      exact e3.all k id
  refine ⟨h.kept.trans k (fun _ _ x => x.elim), fun j p t zs us hj => ?_, fun j hj => ?_, fun a b hab ha hb' hA hB => ?_, fun a b ha hab => ?_⟩
  · have hji : j ≠ i := fun e => hnd p t zs us (by rw [← e]; exact hj)
    rw [upL_ne hji]
    exact (h.olds j p t zs us hj).all k id
  · by_cases hji : j = i
    · subst hji; rw [upV_here]; exact hx
    · rw [upL_ne hji] at hj; rw [upV_ne hji]; exact hkeep j hj
  · have hnew : ∀ c, c ≠ i → L c = true → isBlk (Gs.getD c Pc.none) = true → isBlk (Gs.getD i Pc.none) = true → v c ≠ x := by
      intro c _ hc hC hI e
      obtain ⟨q, e1, e2⟩ := hb hI
      have := h.holds c hc
      revert this hC
      cases e' : Gs.getD c Pc.none with
      | eq y => intro hC; cases hC
      | turn y => intro hC; cases hC
      | told y1 y2 y3 y4 => intro hC; cases hC
      | blk t zs kk us =>
        rintro - ⟨q', f1, f2, f3⟩
        rw [f1, e1] at e
        cases e
        have := f3.lt
        omega
    by_cases hai : a = i
    · subst hai
      have hba : b ≠ a := fun e => hab e.symm
      rw [upL_ne hba] at hb'
      rw [upV_here, upV_ne hba]
      exact fun e => hnew b hba hb' hB hA e.symm
    · rw [upL_ne hai] at ha
      rw [upV_ne hai]
      by_cases hbi : b = i
      · subst hbi; rw [upV_here]; exact hnew a hai ha hA hB
      · rw [upL_ne hbi] at hb'; rw [upV_ne hbi]; exact h.apart a b hab ha hb' hA hB
  · by_cases hai : a = i
    · subst hai; exact absurd hab (hnt b)
    · rw [upL_ne hai] at ha
      have := h.clos a b ha hab
      by_cases hbi : b = i
      · subst hbi; exact upL_here
      · rw [upL_ne hbi]; exact this
/-- One more turn. -/
theorem JC.turned {S : Nat → Prop} {os : List Oper} {D : List (Option Tmp)} {Gs : List Pc} {w0 w w' : World} {L : Nat → Bool} {v : Nat → Value} {i j q : Nat} {x : Value} (hwf : wfC os D Gs = true) (hO : Olds S w0 Gs) (h : JC S w0 Gs L v w) (hi : L i = false) (hj : L j = true) (he : Gs.getD i Pc.none = .turn j)
    (hv : v j = .pointer (some ⟨q, 0, none⟩)) (hq : ∀ t zs us, Gs.getD j Pc.none = .blk t zs i us → Stc w' q t us) (k : Kept (onB q) w w') : JC S w0 Gs (upL L i) (upV v i x) w' := by
  have hw := wfC_at hwf i
  rw [he] at hw
  simp only [wfAt, Bool.and_eq_true] at hw
  have hn0 : w0.heap.size ≤ q := by
    have := h.holds j hj
    revert this
    obtain ⟨⟨h1, _⟩, _⟩ := hw
    cases e : Gs.getD j Pc.none with
    | eq y => rw [e] at h1; cases h1
    | turn y => rw [e] at h1; cases h1
    | told y1 y2 y3 y4 => rw [e] at h1; cases h1
    | blk t zs kk us =>
      rintro ⟨q', e1, e2, _⟩
      rw [hv] at e1; cases e1; exact e2
  have hjB : isBlk (Gs.getD j Pc.none) = true := by
    obtain ⟨⟨h1, _⟩, _⟩ := hw
    cases e : Gs.getD j Pc.none with
    | eq y => rw [e] at h1; cases h1
    | turn y => rw [e] at h1; cases h1
    | told y1 y2 y3 y4 => rw [e] at h1; cases h1
    | blk t zs kk us => rfl
  refine ⟨h.kept.trans k (fun b hb e => by cases e; omega), fun a p t zs us ha => ?_, fun a ha => ?_, fun a b hab ha hb hA hB => ?_, fun a b ha hab => ?_⟩
  · have hai : a ≠ i := fun e => by rw [e, he] at ha; cases ha
    rw [upL_ne hai]
    exact (h.olds a p t zs us ha).all k (fun e => by have := (hO.at a p t zs us ha).2.lt; rw [show p = q from e] at this; omega)
  · by_cases hai : a = i
    · subst hai; rw [upV_here, he]; exact trivial
    · rw [upL_ne hai] at ha; rw [upV_ne hai]
      have := h.holds a ha
      revert this
      cases e : Gs.getD a Pc.none with
      | eq y => exact id
      | turn y => exact id
      | told y1 y2 y3 y4 => exact id
      | blk t zs kk us =>
        rintro ⟨q', e1, e2, e3⟩
        have hk := wf_blk hwf e
        by_cases haj : a = j
        · subst haj
          have hki : kk = i := by
            obtain ⟨⟨h1, _⟩, _⟩ := hw
            rw [e] at h1; simpa using h1
          subst hki
          rw [hv] at e1; cases e1
          refine ⟨q, hv, hn0, ?_⟩
          rw [if_pos upL_here]
          exact hq t zs us e
        · have hki : kk ≠ i := fun e' => by rw [e', he] at hk; cases hk; exact haj rfl
          refine ⟨q', e1, e2, ?_⟩
          rw [upL_ne hki]
          refine e3.all k (fun e' => ?_)
          have := h.apart a j haj ha hj (by rw [e]; rfl) hjB
          rw [e1, hv] at this
          exact this (by rw [show q' = q from e'])
  · have hni : ∀ c, isBlk (Gs.getD c Pc.none) = true → c ≠ i := fun c hc e => by rw [e, he] at hc; cases hc
    rw [upV_ne (hni a hA), upV_ne (hni b hB)]
    rw [upL_ne (hni a hA)] at ha
    rw [upL_ne (hni b hB)] at hb
    exact h.apart a b hab ha hb hA hB
  · by_cases hai : a = i
    · subst hai
      rw [he] at hab; cases hab
      by_cases hji : j = a
      · subst hji; exact upL_here
      · rw [upL_ne hji]; exact hj
    · rw [upL_ne hai] at ha
      have := h.clos a b ha hab
      by_cases hbi : b = i
      · subst hbi; exact upL_here
      · rw [upL_ne hbi]; exact this

/-- One more turn of a block that was there. -/
theorem JC.oldTurned {S : Nat → Prop} {os : List Oper} {D : List (Option Tmp)} {Gs : List Pc} {w0 w w' : World} {L : Nat → Bool} {v : Nat → Value} {i p : Nat} {t : TypeId} {zs us : List Value} {x : Value} (hwf : wfC os D Gs = true) (hO : Olds S w0 Gs) (h : JC S w0 Gs L v w) (he : Gs.getD i Pc.none = .told p t zs us)
    (hq : Stc w' p t us) (k : Kept (onB p) w w') : JC S w0 Gs (upL L i) (upV v i x) w' := by
  have hp := hO.at i p t zs us he
  have hni : ∀ c, isBlk (Gs.getD c Pc.none) = true → c ≠ i := fun c hc e => by rw [e, he] at hc; cases hc
  refine ⟨h.kept.trans k (fun b hb e => by cases e; exact hp.1), fun a p' t' zs' us' ha => ?_, fun a ha => ?_, fun a b hab ha hb hA hB => ?_, fun a b ha hab => ?_⟩
  · by_cases hai : a = i
    · subst hai
      rw [he] at ha; cases ha
      rw [if_pos upL_here]; exact hq
    · rw [upL_ne hai]
      exact (h.olds a p' t' zs' us' ha).all k (fun e => hO.ne a i p' t' zs' us' p t zs us hai ha he e)
  · by_cases hai : a = i
    · subst hai; rw [upV_here, he]; exact trivial
    · rw [upL_ne hai] at ha; rw [upV_ne hai]
      have := h.holds a ha
      revert this
      cases e : Gs.getD a Pc.none with
      | eq y => exact id
      | turn y => exact id
      | told y1 y2 y3 y4 => exact id
      | blk t zs kk us =>
        rintro ⟨q', e1, e2, e3⟩
        have hk := wf_blk hwf e
        have hki : kk ≠ i := fun e' => by rw [e', he] at hk; cases hk
        refine ⟨q', e1, e2, ?_⟩
        rw [upL_ne hki]
        exact e3.all k (fun e' => by have := hp.2.lt; rw [show q' = p from e'] at e2; omega)
  · rw [upV_ne (hni a hA), upV_ne (hni b hB)]
    rw [upL_ne (hni a hA)] at ha
    rw [upL_ne (hni b hB)] at hb
    exact h.apart a b hab ha hb hA hB
  · have hai : a ≠ i := fun e => by rw [e, he] at hab; cases hab
    rw [upL_ne hai] at ha
    have := h.clos a b ha hab
    by_cases hbi : b = i
    · subst hbi; exact upL_here
    · rw [upL_ne hbi]; exact this

theorem StepFC.step {S : Nat → Prop} {os : List Oper} {D : List (Option Tmp)} {Gs : List Pc} {w0 : World} {i : Nat} {o : Oper} {a0 : Act} (hwf : wfC os D Gs = true) (hO : Olds S w0 Gs) (ho : os[i]? = some o) (ha : Fr N F a0) (h : StepFC S N P D Gs F w0 i o) : StepJ os P D (JC S w0 Gs) a0 i o := by
  intro L v a w hJ hi hdone hout hhere _
  have hdeps : DepsF D (ToldC w0.heap.size Gs i) (fun t => a.tmps.getD t undef) w o.after.toList := by
    refine Deps.toF (Deps.mk fun e he hb d hd => ?_)
    have hl := hdone e he hb
    have hDe := getElem_getD hd (by simp)
    have hv := hhere e.on d hl hDe
    rw [hv]
    have := hJ.holds e.on hl
    unfold ToldC
    revert this
    cases e' : Gs.getD e.on Pc.none with
    | eq y => exact id
    | turn y => exact id
    | told y1 y2 y3 y4 => exact id
    | blk t zs kk us =>
      rintro ⟨q, e1, e2, e3⟩ hk
      refine ⟨q, e1, e2, ?_⟩
      subst hk
      rw [hi, if_neg (by simp)] at e3
      exact e3
  have h1 := h (fun t => a.tmps.getD t undef) w hJ.kept (fun t hb ht => by rw [← ha.at' t hb]; exact hout t ht) hdeps (fun p t zs us e => by have := hJ.olds i p t zs us e; rw [hi, if_neg (by simp)] at this; exact this)
  rw [← eval_ev a] at h1
  have hleft : ∀ x w', LeftC Gs D i a.eval w x w' → JC S w0 Gs (upL L i) (upV v i x) w' := by
    intro x w' hx
    unfold LeftC at hx
    cases e : Gs.getD i Pc.none with
    | eq y =>
      rw [e] at hx
      exact hJ.more hwf hi hx.2 (fun j hj => by rw [e] at hj; cases hj) (fun _ _ _ _ hj => by rw [e] at hj; cases hj) (by rw [e]; exact hx.1) (by rw [e]; intro hb; cases hb)
    | blk t zs kk us =>
      rw [e] at hx
      obtain ⟨q, e1, e2, e3, e4⟩ := hx
      have hk := wf_blk hwf e
      have hki : kk ≠ i := fun e' => by rw [e', e] at hk; cases hk
      have hLk : L kk = false := by
        cases hq : L kk with
        | false => rfl
        | true => have := hJ.clos kk i hq hk; rw [hi] at this; cases this
      refine hJ.more hwf hi e4 (fun j hj => by rw [e] at hj; cases hj) (fun _ _ _ _ hj => by rw [e] at hj; cases hj) ?_ (fun _ => ⟨q, e1, e2⟩)
      rw [e]
      refine ⟨q, e1, Nat.le_trans hJ.kept.size e2, ?_⟩
      rw [upL_ne hki, hLk, if_neg (by simp)]
      exact e3
    | told p t zs us =>
      rw [e] at hx
      exact hJ.oldTurned hwf hO e hx.1 hx.2
    | turn j =>
      rw [e] at hx
      obtain ⟨d, q, hd, e1, e2, e3⟩ := hx
      have hw := wfC_at hwf i
      rw [e] at hw
      simp only [wfAt, Bool.and_eq_true, ho] at hw
      obtain ⟨ed, hed, hb, hon⟩ := waitsOn_iff.1 hw.2
      have hLj := hdone ed hed hb
      rw [hon] at hLj
      have hv := hhere j d hLj (getElem_getD hd (by simp))
      exact hJ.turned hwf hO hi hLj e (by rw [← hv]; exact e1) e2 e3
  unfold goes
  cases hg : o.guard with
  | none => rw [hg] at h1; exact ⟨fun _ => h1.mono' hleft, fun e => by cases e⟩
  | some g =>
    obtain ⟨j, want⟩ := g
    rw [hg] at h1
    obtain ⟨d, hd, h1⟩ := h1
    simp only [hd]
    have hev : a.eval (.tmp d) = a.tmps.getD d undef := rfl
    rcases h1 with ⟨hv, hy⟩ | ⟨hv, hs⟩
    · rw [hev, hv]; exact ⟨fun _ => hy.mono' hleft, fun e => by simp at e⟩
    · refine ⟨fun e => ?_, fun _ => hJ.more hwf hi (Kept.refl _ _) (fun j hj => by rw [hs] at hj; cases hj) (fun _ _ _ _ hj => by rw [hs] at hj; cases hj) (by rw [hs]; rfl) (by rw [hs]; intro hb; cases hb)⟩
      rcases hv with hv | hv
      · rw [hev, hv] at e; cases want <;> simp at e
      · rw [hev, hv] at e; simp [undef] at e
theorem StepsFC.steps {S : Nat → Prop} {all : List Oper} {D : List (Option Tmp)} {Gs : List Pc} {w0 : World} {a0 : Act} (hwf : wfC all D Gs = true) (hO : Olds S w0 Gs) (ha : Fr N F a0) : ∀ {os : List Oper} {i : Nat}, (∀ k o, os[k]? = some o → all[i + k]? = some o) → StepsFC S N P D Gs F w0 i os → StepsJ all P D (JC S w0 Gs) a0 i os := by
  intro os
  induction os with
  | nil => intro i _ _; exact trivial
  | cons o r ih =>
    intro i hat h
    exact ⟨h.1.step hwf hO (hat 0 o rfl) ha, ih (fun k o' hk => by have := hat (k + 1) o' hk; rwa [show i + (k + 1) = i + 1 + k by omega] at this) h.2⟩
end
end Go.Proofs.YtdcbabgcbkdlhaaDoor
set_option maxRecDepth 100000
namespace Go.Proofs.YtdcbabgcbkdlhaaDoor
open Go.RowKit

def sameVec (a b c d : Int) : Bool := decide (a = c) && decide (b = d)
theorem Tryd.vecFields : (Tryd.prog.fieldsOf 23).toList.map (fun f => (f.name, f.type, f.offset)) = [("X", 3, 0), ("Y", 3, 1)] := by kernel_rfl
theorem part_int (w : World) (xs : Array Value) (i : Nat) (z : Int) (h : xs[i]? = some (.int .i64 z)) : (part 3 xs i).run Tryd.prog w = .ok (.int .i64 z) w := by
  simp [part, isAgg, run_underlying Tryd.underlying3, h]
theorem run_same_vec (w : World) (a b c d : Int) : (Op.equalIn 10000 23 (.agg #[.int .i64 a, .int .i64 b]) (.agg #[.int .i64 c, .int .i64 d])).run Tryd.prog w = .ok (sameVec a b c d) w := by
  rw [run_equalIn_struct w 9999 _ _ _ (by kernel_rfl) (by kernel_rfl)]
  have hf := Tryd.vecFields
  generalize (Tryd.prog.fieldsOf 23).toList = fs at hf
  have hlen : fs.length = 2 := by simpa using congrArg List.length hf
  have p1 := part_int w #[.int .i64 a, .int .i64 b] 0 a rfl
  have p2 := part_int w #[.int .i64 c, .int .i64 d] 0 c rfl
  have p3 := part_int w #[.int .i64 a, .int .i64 b] 1 b rfl
  have p4 := part_int w #[.int .i64 c, .int .i64 d] 1 d rfl
  match fs, hlen with
  | [f0, f1], _ =>
    simp only [List.map_cons, List.map_nil, List.cons.injEq, Prod.mk.injEq, and_true] at hf
    obtain ⟨⟨n0, t0, o0⟩, ⟨n1, t1, o1⟩⟩ := hf
    simp only [Op.eqFields, n0, t0, o0, n1, t1, o1]
    rw [if_pos (by decide), if_pos (by decide)]
    simp only [Sem.run_bind, p1, p2, Result.andThen_ok, run_equalIn_int w 9998 3 .i64 .i64 _ _ Tryd.underlying3]
    unfold sameVec
    by_cases h1 : a = c
    · subst h1
      simp only [beq_self_eq_true, Bool.not_true, Bool.false_eq_true, if_false, Sem.run_bind, p3, p4, Result.andThen_ok, run_equalIn_int w 9998 3 .i64 .i64 _ _ Tryd.underlying3]
      by_cases h2 : b = d
      · subst h2; simp
      · have : (b == d) = false := by simpa using h2
        simp [this, h2]
    · have : (a == c) = false := by simpa using h1
      simp [this, h1]
theorem Tryd.guard_vec : Tryd.prog.eqGuardType Tryd.prog.depth 23 = false := by kernel_rfl
section
variable {ρ : Operand → Value} {o : Oper} {w : World} {R : Value → World → Prop}
theorem y_eqlVec {t' : TypeId} {x y : Operand} {a b c d : Int} {q : Bool} (ho : o.op = .binOp .eql 23 x y t') (hx : ρ x = .agg #[.int .i64 a, .int .i64 b]) (hy : ρ y = .agg #[.int .i64 c, .int .i64 d]) (hr : sameVec a b c d = q) (h : R (.bool q) w) : Yields Tryd.prog ρ o w R :=
  y_of (v := .bool (sameVec a b c d)) (w' := w) (by simp only [execOp, ho, hx, hy, Sem.run_bind, run_eqGuard_agg w .eql _ _ _ _ _ Tryd.guard_vec, run_eql_struct, run_same_vec, Result.andThen_ok, Sem.run_pure]) (by rw [hr]; exact h)
end

def Cin (w : World) (T : Nat → Prop) (p : Nat) (n : Int) : Prop := T = onB p ∧ Cel w p 3 (.int .i64 n)
theorem Cin.live {w : World} {T : Nat → Prop} {p : Nat} {n : Int} (h : Cin w T p n) : Live w T := by
  obtain ⟨rfl, h⟩ := h; exact onB_live h.lt
theorem Cin.all {S : Nat → Prop} {w w' : World} {T : Nat → Prop} {p : Nat} {n : Int} (h : Cin w T p n) (k : Kept S w w') (ha : Apart T S) : Cin w' T p n := by
  obtain ⟨rfl, h⟩ := h; exact ⟨rfl, h.all k (ha p rfl)⟩
theorem Cin.cells {w : World} {T : Nat → Prop} {p : Nat} {n : Int} (h : Cin w T p n) : Cells w T := by
  obtain ⟨rfl, h⟩ := h; exact h.cells
theorem Cin.row {A B : World} {row : Option Nat} {m p : Nat} {T : Nat → Prop} {n : Int} (h : Cin A T p n) (hg : A.grownBy B row) (hr : RowNew m A row) : Cin B T p n := h.all (kept_row hg) (h.cells.apart hr)

set_option maxHeartbeats 4000000 in
set_option maxRecDepth 100000 in
theorem mo_mayGo (n : Int) (w0 : World) :
  Calls Tryd.prog 89 #[.int .i64 (n)] w0 fun e w' => e = .returned (.bool (decide (-31 ≤ n ∧ n ≤ 31))) ∧ Kept (fun _ => False) w0 w' := by
 refine calls_wq (args := [.int .i64 (n)]) 9 Tryd.func89 rfl rfl (Nat.le_of_ble_eq_true rfl) ?_
 have K0 := Kept.refl (fun _ => False) w0
 refine wq_seq ?_
 refine wq_region ?_
 refine wl_v (.bool false) rfl rfl (y_asg rfl rfl ⟨rfl, rfl⟩) ?_
 refine wl_nil fun F1 hF2 => ?_
 have s3 : F1 0 = .int .i64 (n) := (hF2 0).trans rfl
 have s4 : F1 9 = undef := (hF2 9).trans rfl
 clear hF2
 refine then_normal ?_
 refine wq_seq ?_
 by_cases d5 : (-31) ≤ (n)
 ·skip
  refine wq_region ?_
  refine wl_v (.int .i64 (n)) rfl rfl (y_mov rfl s3 ⟨rfl, rfl⟩) ?_
  refine wl_v (.bool true) rfl rfl (y_geq rfl rfl rfl (decide_eq_true d5) ⟨rfl, rfl⟩) ?_
  refine wl_v (.bool true) rfl rfl (y_mov rfl rfl ⟨rfl, rfl⟩) ?_
  refine wl_vw (.int .i64 (n)) 2 true 5 rfl rfl rfl rfl rfl (y_mov rfl s3 ⟨rfl, rfl⟩) ?_
  refine wl_vw (.bool (decide ((n) ≤ (31)))) 2 true 5 rfl rfl rfl rfl rfl (y_leq rfl rfl rfl rfl ⟨rfl, rfl⟩) ?_
  refine wl_v (.bool (decide ((n) ≤ (31)))) rfl rfl (y_pickT rfl rfl rfl ⟨rfl, rfl⟩) ?_
  refine wl_v (.bool (decide ((n) ≤ (31)))) rfl rfl (y_asg rfl rfl ⟨rfl, rfl⟩) ?_
  refine wl_nil fun F6 hF7 => ?_
  have s8 := (hF7 9).trans s4
  have s9 : F6 2 = .bool (decide ((n) ≤ (31))) := (hF7 2).trans rfl
  clear hF7
  refine then_normal ?_
  refine wq_ret ?_
  exact end_tmp (v := .bool (decide ((n) ≤ (31)))) s8 rfl rfl s9 ⟨(retB (by first | exact (decide_eq_true (by omega)).symm | exact (decide_eq_false (by omega)).symm | exact decide_eq_decide.2 (by omega))), K0⟩
 ·skip
  refine wq_region ?_
  refine wl_v (.int .i64 (n)) rfl rfl (y_mov rfl s3 ⟨rfl, rfl⟩) ?_
  refine wl_v (.bool false) rfl rfl (y_geq rfl rfl rfl (decide_eq_false d5) ⟨rfl, rfl⟩) ?_
  refine wl_v (.bool false) rfl rfl (y_mov rfl rfl ⟨rfl, rfl⟩) ?_
  refine wl_unless 2 true 5 rfl rfl rfl (Or.inl rfl) rfl ?_
  refine wl_unless 2 true 5 rfl rfl rfl (Or.inl rfl) rfl ?_
  refine wl_v (.bool false) rfl rfl (y_pickF rfl rfl rfl ⟨rfl, rfl⟩) ?_
  refine wl_v (.bool false) rfl rfl (y_asg rfl rfl ⟨rfl, rfl⟩) ?_
  refine wl_nil fun F10 hF11 => ?_
  have s12 := (hF11 9).trans s4
  have s13 : F10 2 = .bool false := (hF11 2).trans rfl
  clear hF11
  refine then_normal ?_
  refine wq_ret ?_
  exact end_tmp (v := .bool false) s12 rfl rfl s13 ⟨(retB (by first | exact (decide_eq_true (by omega)).symm | exact (decide_eq_false (by omega)).symm | exact decide_eq_decide.2 (by omega))), K0⟩
set_option maxHeartbeats 4000000 in
set_option maxRecDepth 100000 in
theorem mo_check (X Y : Int) (w0 : World) :
  Calls Tryd.prog 53 #[.agg #[.int .i64 (X), .int .i64 (Y)]] w0 fun e w' => e = .returned (.int .i64 (vecE X Y)) ∧ Kept (fun _ => False) w0 w' := by
 refine calls_wq (args := [.agg #[.int .i64 (X), .int .i64 (Y)]]) 13 Tryd.func53 rfl rfl (Nat.le_of_ble_eq_true rfl) ?_
 have K0 := Kept.refl (fun _ => False) w0
 refine wq_seq ?_
 refine wq_region ?_
 refine wl_box_stc (vs := [.int .i64 (X), .int .i64 (Y)]) rfl rfl rfl rfl fun p1 w2 B4 g5 k3 => ?_
 have K7 := K0.trans k3 (fun _ _ x => x.elim)
 refine wl_v (.int .i64 (0)) rfl rfl (y_asg rfl rfl ⟨rfl, rfl⟩) ?_
 refine wl_nil fun F8 hF9 => ?_
 have s10 : F8 13 = undef := (hF9 13).trans rfl
 have s11 : F8 1 = .pointer (some ⟨p1, 0, none⟩) := (hF9 1).trans rfl
 clear hF9
 refine then_normal ?_
 refine wq_seq ?_
 refine wq_seq ?_
 by_cases d12 : -31 ≤ (X) ∧ (X) ≤ 31
 ·skip
  by_cases d13 : -31 ≤ (Y) ∧ (Y) ≤ 31
  ·skip
   refine wq_region ?_
   refine wl_v (.pointer (some ⟨p1, 0, none⟩)) rfl rfl (y_fieldR (n := 1) rfl s11 Tryd.underlying23 rfl (by kernel_rfl) (by decide) rfl ⟨rfl, rfl⟩) ?_
   refine wl_v (.int .i64 (X)) rfl rfl (y_ld_stc rfl rfl Tryd.underlying3 B4 rfl rfl ⟨rfl, rfl⟩) ?_
   refine wl_call (R := fun v_ w_ => v_ = .bool true ∧ Kept (fun _ => False) w2 w_) rfl rfl (y_cs rfl rfl rfl (fun _ _ => by kernel_rfl) (ev_func _) (vsC rfl vsN) (mo_mayGo (X)  _   ) (fun e_ w_ h_ => ⟨_, h_.1, (congrArg Value.bool (decide_eq_true d12)), h_.2⟩)) ?_
   rintro _ w14 ⟨rfl, k15⟩
   have B16 := B4.all k15 id
   have K17 := K7.trans k15 (fun _ _ x => x.elim)
   refine wl_v (.bool false) rfl rfl (y_not rfl rfl rfl ⟨rfl, rfl⟩) ?_
   refine wl_v (.bool false) rfl rfl (y_mov rfl rfl ⟨rfl, rfl⟩) ?_
   refine wl_vw (.pointer (some ⟨p1, 1, none⟩)) 4 false 7 rfl rfl rfl rfl rfl (y_fieldR (n := 1) rfl s11 Tryd.underlying23 rfl (by kernel_rfl) (by decide) rfl ⟨rfl, rfl⟩) ?_
   refine wl_vw (.int .i64 (Y)) 4 false 7 rfl rfl rfl rfl rfl (y_ld_stc rfl rfl Tryd.underlying3 B16 rfl rfl ⟨rfl, rfl⟩) ?_
   refine wl_callw (R := fun v_ w_ => v_ = .bool true ∧ Kept (fun _ => False) w14 w_) 4 false 7 rfl rfl rfl rfl rfl (y_cs rfl rfl rfl (fun _ _ => by kernel_rfl) (ev_func _) (vsC rfl vsN) (mo_mayGo (Y)  _   ) (fun e_ w_ h_ => ⟨_, h_.1, (congrArg Value.bool (decide_eq_true d13)), h_.2⟩)) ?_
   rintro _ w18 ⟨rfl, k19⟩
   have K21 := K17.trans k19 (fun _ _ x => x.elim)
   refine wl_vw (.bool false) 4 false 7 rfl rfl rfl rfl rfl (y_not rfl rfl rfl ⟨rfl, rfl⟩) ?_
   refine wl_v (.bool false) rfl rfl (y_pickF rfl rfl rfl ⟨rfl, rfl⟩) ?_
   refine wl_nil fun F22 hF23 => ?_
   have s24 := (hF23 13).trans s10
   have s25 : F22 12 = .bool false := (hF23 12).trans rfl
   clear hF23
   refine then_normal ?_
   refine wq_cond (t := false) s25 (fun e => by cases e) (fun _ => ?_)
   refine wq_skip ?_
   refine then_normal ?_
   refine wq_seq ?_
   refine wq_region ?_
   refine wl_v (.int .i64 (0)) rfl rfl (y_asg rfl rfl ⟨rfl, rfl⟩) ?_
   refine wl_nil fun F26 hF27 => ?_
   have s28 := (hF27 13).trans s24
   have s29 : F26 2 = .int .i64 (0) := (hF27 2).trans rfl
   clear hF27
   refine then_normal ?_
   refine wq_ret ?_
   exact end_tmp (v := .int .i64 (0)) s28 rfl rfl s29 ⟨(by first | rw [vecE_yes (by unfold vecOk; omega)] | rw [vecE_no (by unfold vecOk; omega)]), K21⟩
  ·skip
   refine wq_region ?_
   refine wl_v (.pointer (some ⟨p1, 0, none⟩)) rfl rfl (y_fieldR (n := 1) rfl s11 Tryd.underlying23 rfl (by kernel_rfl) (by decide) rfl ⟨rfl, rfl⟩) ?_
   refine wl_v (.int .i64 (X)) rfl rfl (y_ld_stc rfl rfl Tryd.underlying3 B4 rfl rfl ⟨rfl, rfl⟩) ?_
   refine wl_call (R := fun v_ w_ => v_ = .bool true ∧ Kept (fun _ => False) w2 w_) rfl rfl (y_cs rfl rfl rfl (fun _ _ => by kernel_rfl) (ev_func _) (vsC rfl vsN) (mo_mayGo (X)  _   ) (fun e_ w_ h_ => ⟨_, h_.1, (congrArg Value.bool (decide_eq_true d12)), h_.2⟩)) ?_
   rintro _ w30 ⟨rfl, k31⟩
   have B32 := B4.all k31 id
   have K33 := K7.trans k31 (fun _ _ x => x.elim)
   refine wl_v (.bool false) rfl rfl (y_not rfl rfl rfl ⟨rfl, rfl⟩) ?_
   refine wl_v (.bool false) rfl rfl (y_mov rfl rfl ⟨rfl, rfl⟩) ?_
   refine wl_vw (.pointer (some ⟨p1, 1, none⟩)) 4 false 7 rfl rfl rfl rfl rfl (y_fieldR (n := 1) rfl s11 Tryd.underlying23 rfl (by kernel_rfl) (by decide) rfl ⟨rfl, rfl⟩) ?_
   refine wl_vw (.int .i64 (Y)) 4 false 7 rfl rfl rfl rfl rfl (y_ld_stc rfl rfl Tryd.underlying3 B32 rfl rfl ⟨rfl, rfl⟩) ?_
   refine wl_callw (R := fun v_ w_ => v_ = .bool false ∧ Kept (fun _ => False) w30 w_) 4 false 7 rfl rfl rfl rfl rfl (y_cs rfl rfl rfl (fun _ _ => by kernel_rfl) (ev_func _) (vsC rfl vsN) (mo_mayGo (Y)  _   ) (fun e_ w_ h_ => ⟨_, h_.1, (congrArg Value.bool (decide_eq_false d13)), h_.2⟩)) ?_
   rintro _ w34 ⟨rfl, k35⟩
   have K37 := K33.trans k35 (fun _ _ x => x.elim)
   refine wl_vw (.bool true) 4 false 7 rfl rfl rfl rfl rfl (y_not rfl rfl rfl ⟨rfl, rfl⟩) ?_
   refine wl_v (.bool true) rfl rfl (y_pickF rfl rfl rfl ⟨rfl, rfl⟩) ?_
   refine wl_nil fun F38 hF39 => ?_
   have s40 := (hF39 13).trans s10
   have s41 : F38 12 = .bool true := (hF39 12).trans rfl
   clear hF39
   refine then_normal ?_
   refine wq_cond (t := true) s41 (fun _ => ?_) (fun e => by cases e)
   refine wq_seq ?_
   refine wq_region ?_
   refine wl_v (.int .i64 (90)) rfl rfl (y_asg rfl rfl ⟨rfl, rfl⟩) ?_
   refine wl_nil fun F42 hF43 => ?_
   have s44 := (hF43 13).trans s40
   have s45 : F42 2 = .int .i64 (90) := (hF43 2).trans rfl
   clear hF43
   refine then_normal ?_
   refine wq_ret ?_
   refine then_ret ?_
   exact end_tmp (v := .int .i64 (90)) s44 rfl rfl s45 ⟨(by first | rw [vecE_yes (by unfold vecOk; omega)] | rw [vecE_no (by unfold vecOk; omega)]), K37⟩
 ·skip
  refine wq_region ?_
  refine wl_v (.pointer (some ⟨p1, 0, none⟩)) rfl rfl (y_fieldR (n := 1) rfl s11 Tryd.underlying23 rfl (by kernel_rfl) (by decide) rfl ⟨rfl, rfl⟩) ?_
  refine wl_v (.int .i64 (X)) rfl rfl (y_ld_stc rfl rfl Tryd.underlying3 B4 rfl rfl ⟨rfl, rfl⟩) ?_
  refine wl_call (R := fun v_ w_ => v_ = .bool false ∧ Kept (fun _ => False) w2 w_) rfl rfl (y_cs rfl rfl rfl (fun _ _ => by kernel_rfl) (ev_func _) (vsC rfl vsN) (mo_mayGo (X)  _   ) (fun e_ w_ h_ => ⟨_, h_.1, (congrArg Value.bool (decide_eq_false d12)), h_.2⟩)) ?_
  rintro _ w46 ⟨rfl, k47⟩
  have K49 := K7.trans k47 (fun _ _ x => x.elim)
  refine wl_v (.bool true) rfl rfl (y_not rfl rfl rfl ⟨rfl, rfl⟩) ?_
  refine wl_v (.bool true) rfl rfl (y_mov rfl rfl ⟨rfl, rfl⟩) ?_
  refine wl_unless 4 false 7 rfl rfl rfl (Or.inl rfl) rfl ?_
  refine wl_unless 4 false 7 rfl rfl rfl (Or.inl rfl) rfl ?_
  refine wl_unless 4 false 7 rfl rfl rfl (Or.inl rfl) rfl ?_
  refine wl_unless 4 false 7 rfl rfl rfl (Or.inl rfl) rfl ?_
  refine wl_v (.bool true) rfl rfl (y_pickT rfl rfl rfl ⟨rfl, rfl⟩) ?_
  refine wl_nil fun F50 hF51 => ?_
  have s52 := (hF51 13).trans s10
  have s53 : F50 12 = .bool true := (hF51 12).trans rfl
  clear hF51
  refine then_normal ?_
  refine wq_cond (t := true) s53 (fun _ => ?_) (fun e => by cases e)
  refine wq_seq ?_
  refine wq_region ?_
  refine wl_v (.int .i64 (90)) rfl rfl (y_asg rfl rfl ⟨rfl, rfl⟩) ?_
  refine wl_nil fun F54 hF55 => ?_
  have s56 := (hF55 13).trans s52
  have s57 : F54 2 = .int .i64 (90) := (hF55 2).trans rfl
  clear hF55
  refine then_normal ?_
  refine wq_ret ?_
  refine then_ret ?_
  exact end_tmp (v := .int .i64 (90)) s56 rfl rfl s57 ⟨(by first | rw [vecE_yes (by unfold vecOk; omega)] | rw [vecE_no (by unfold vecOk; omega)]), K49⟩
end Go.Proofs.YtdcbabgcbkdlhaaDoor
set_option maxRecDepth 100000
namespace Go.Proofs.YtdcbabgcbkdlhaaDoor
open Go.RowKit

structure Ch where
  m : Int
  px : Int
  py : Int
  nx : Int
  ny : Int
  b : Nat → Int
def chV (c : Ch) : List Value := .int .i64 c.m :: .int .i64 c.px :: .int .i64 c.py :: .int .i64 c.nx :: .int .i64 c.ny :: arrL 16 c.b
/-- Cells written out. -/
abbrev chL (m px py nx ny : Int) (b : Nat → Int) : List Value := [.int .i64 m, .int .i64 px, .int .i64 py, .int .i64 nx, .int .i64 ny, .int .i64 (b 0), .int .i64 (b 1), .int .i64 (b 2), .int .i64 (b 3), .int .i64 (b 4), .int .i64 (b 5), .int .i64 (b 6), .int .i64 (b 7), .int .i64 (b 8), .int .i64 (b 9), .int .i64 (b 10), .int .i64 (b 11), .int .i64 (b 12), .int .i64 (b 13), .int .i64 (b 14), .int .i64 (b 15)]
abbrev chW (c : Ch) : List Value := chL c.m c.px c.py c.nx c.ny c.b
theorem one_arrL (n : Nat) (b : Nat → Int) : OneAll (arrL n b) := fun v h => by
  obtain ⟨i, _, rfl⟩ := List.mem_map.1 h; rfl
theorem stcT_choice : StcT Tryd.prog 27 21 := ⟨_, Tryd.underlying27, rfl, by kernel_rfl⟩
theorem stcT_block : StcT Tryd.prog 25 16 := ⟨_, Tryd.underlying25, rfl, by kernel_rfl⟩
section
variable {P : Program} {ρ : Operand → Value} {o : Oper} {w : World} {R : Value → World → Prop}
/-- A part of a struct is loaded. -/
theorem y_ldPart {ty t : TypeId} {x : Operand} {p k n : Nat} {vs us : List Value} (hT : StcT P ty n) (ho : o.op = .load ty x) (hx : ρ x = .pointer (some ⟨p, k, none⟩)) (hB : Stc w p t vs) (hkn : k + n ≤ vs.length) (hu : (vs.drop k).take n = us) (h : R (.agg us.toArray) w) : Yields P ρ o w R := by
  subst hu
  obtain ⟨d, hu, hd, hs⟩ := hT
  have hlen : ((vs.drop k).take n).length = n := by rw [List.length_take, List.length_drop]; omega
  have e := run_loadVar_mid (P := P) w p k ty ((vs.drop k).take n) d (fun q u hq => by
    have hqn : q < n := by have := (List.getElem?_eq_some_iff.1 hq).1; omega
    exact hB.cell (by rwa [List.getElem?_take, if_pos hqn, List.getElem?_drop] at hq)) hu hd (by rw [hlen]; exact hs)
  exact y_val (v := .agg ((vs.drop k).take n).toArray) (w' := w) (by simp only [execOp, ho, hx, Instr.loadAt, Instr.sureAddr, Sem.run_bind, Sem.run_pure, Result.andThen_ok, e]) h
/-- A part of a struct is stored. -/
theorem y_setPart {ty t : TypeId} {x y : Operand} {p k : Nat} {vs us ns : List Value} (hT : StcT P ty us.length) (ho : o.op = .store ty x y) (hx : ρ x = .pointer (some ⟨p, k, none⟩)) (hy : ρ y = .agg us.toArray) (hB : Stc w p t vs) (hk : k + us.length ≤ vs.length) (h1 : OneAll us) (hn : vs.take k ++ us ++ vs.drop (k + us.length) = ns)
    (h : ∀ w', Stc w' p t ns → Kept (fun k => k = p) w w' → R undef w') : Yields P ρ o w R := by
  subst hn
  obtain ⟨d, _, _, hs⟩ := hT
  have hst := run_storeCells_at P p k t us 0 vs.toArray w hB (by simpa using hk) h1
  simp only [Nat.add_zero] at hst
  cases hq : P.info? ty with
  | none => rw [hq] at hs; cases hs
  | some i =>
    have hs' : i.size = us.length := by simpa [hq] using hs
    have hsv : (storeVar ty ⟨p, k, none⟩ (.agg us.toArray)).run P w = .ok () (w.setRow p (vs.take k ++ us ++ vs.drop (k + us.length)).toArray) := by
      simp [storeVar, sizeOf, typeInfo, hq, hs', Value.cells, hst]
    have e : (execOp ρ o).run P w = .ok .skip (w.setRow p (vs.take k ++ us ++ vs.drop (k + us.length)).toArray) := by
      simp only [execOp, ho, hx, hy, Instr.storeAt, Instr.sureAddr, Sem.run_bind, Sem.run_pure, Result.andThen_ok, hsv]
    unfold Yields
    rw [e]
    exact h _ (setRow_heap _ _ _ _ _ _ hB) ((Kept.refl (fun k => k = p) w).setRow p (fun _ => rfl) _)
end
section
variable {ro : Option Nat} {P : Program} {N : Nat} {Q : (Exit → (Nat → Value) → World → Prop)} {F : Nat → Value} {w : World} {o : Oper}
theorem wl_setPart {ops : Array Oper} {rest : List Oper} {ty t : TypeId} {x y : Operand} {p k : Nat} {vs us ns : List Value} (hT : StcT P ty us.length) (hg : o.guard = none) (hdn : o.dst = none) (ho : o.op = .store ty x y) (hx : ev (cutF N F) x = .pointer (some ⟨p, k, none⟩)) (hy : ev (cutF N F) y = .agg us.toArray) (hB : Stc w p t vs) (hk : k + us.length ≤ vs.length) (h1 : OneAll us) (hn : vs.take k ++ us ++ vs.drop (k + us.length) = ns)
    (h : ∀ w', Stc w' p t ns → Kept (fun k => k = p) w w' → wl ro P N ops Q rest F w') : wl ro P N ops Q (o :: rest) F w := by
  refine wl_op hg (by rw [hdn]; rfl) (y_setPart hT ho hx hy hB hk h1 hn fun w' hw hk => ?_)
  rw [hdn]
  exact h w' hw hk
end
theorem ch_at {c : Ch} {i : Nat} (h : i < 16) : (chV c)[5 + i]? = some (.int .i64 (c.b i)) := by
  rw [show 5 + i = i + 1 + 1 + 1 + 1 + 1 by omega]
  exact arrL_at h
theorem ch_set (c : Ch) (k : Nat) (x : Int) : (chV c).set (5 + k) (.int .i64 x) = chV { c with b := upd c.b k x } := by
  have e : ((arrL 16 c.b).toArray.setIfInBounds k (.int .i64 x)).toList = (arrL 16 (upd c.b k x)).toArray.toList := by rw [arrL_set]
  simp only [Array.toList_setIfInBounds] at e
  rw [show 5 + k = k + 1 + 1 + 1 + 1 + 1 by omega]
  exact congrArg (fun l => Value.int .i64 c.m :: .int .i64 c.px :: .int .i64 c.py :: .int .i64 c.nx :: .int .i64 c.ny :: l) e
end Go.Proofs.YtdcbabgcbkdlhaaDoor
set_option maxRecDepth 100000
namespace Go.Proofs.YtdcbabgcbkdlhaaDoor

def pastB (m : Int) : Bool := decide (m = 4) || decide (m = 6)
def nextB (m : Int) : Bool := decide (m = 5) || decide (m = 6)
def mostK (k : Int) : Int := if k = 0 then 3 else if k = 1 then 4 else if k = 2 then 6 else -1
def farCh (b : Nat → Int) : Nat → Bool
  | 0 => false
  | i + 1 => farCh b i || decide (b i < -1048576 ∨ 1048576 < b i)
def badM (k : Int) (c : Ch) : Prop := c.m < 0 ∨ mostK k < c.m ∨ (pastB c.m = false ∧ sameVec c.px c.py 0 0 = false) ∨ (nextB c.m = false ∧ sameVec c.nx c.ny 0 0 = false)
instance (k : Int) (c : Ch) : Decidable (badM k c) := by unfold badM; infer_instance
def chE (k : Int) (c : Ch) : Int := if badM k c then 120 else if farCh c.b 16 = true then 120 else if vecOk c.px c.py ∧ vecOk c.nx c.ny then 0 else 90
theorem chE_bad {k : Int} {c : Ch} (h : badM k c) : chE k c = 120 := if_pos h
theorem chE_far {k : Int} {c : Ch} (h : ¬ badM k c) (hf : farCh c.b 16 = true) : chE k c = 120 := by unfold chE; rw [if_neg h, if_pos hf]
theorem chE_vec {k : Int} {c : Ch} (h : ¬ badM k c) (hf : farCh c.b 16 = false) : chE k c = if vecOk c.px c.py ∧ vecOk c.nx c.ny then 0 else 90 := by unfold chE; rw [if_neg h, if_neg (by rw [hf]; exact Bool.false_ne_true)]
theorem far_hit {b : Nat → Int} {i : Nat} (h : b i < -1048576 ∨ 1048576 < b i) : ∀ n, i < n → farCh b n = true := by
  intro n
  induction n with
  | zero => intro hi; omega
  | succ n ih =>
    intro hi
    unfold farCh
    by_cases e : i = n
    · subst e; rw [decide_eq_true h, Bool.or_true]
    · rw [ih (by omega), Bool.true_or]
def pastBits (c : Ch) (gx gy : Int) : List Bool := if pastB c.m = true then vecBits c.px c.py gx gy else []
def nextBits (c : Ch) (gx gy : Int) : List Bool := if nextB c.m = true then vecBits c.nx c.ny gx gy else []
def chBits (c : Ch) (ax ay bx yy : Int) : List Bool := wholeBits c.m ++ pastBits c ax ay ++ nextBits c bx yy ++ scanBits c.b
def wrCh (k : Int) (c : Ch) (ax ay bx yy : Int) : List Bool := if chE k c = 0 then chBits c ax ay bx yy else []
def ch0 : Ch := ⟨0, 0, 0, 0, 0, fun _ => 0⟩
/-- A vector that a mode has, or has not. -/
def stV (has : Bool) (l : List Nat) (gx gy : Int) (s : Option Nat) : Int × Int × Int × Option Nat := if has = true then (vrX l gx gy s, vrY l gx gy s, vrE l gx gy s, vrS l s) else (0, 0, 0, s)
def rd4 (l : List Nat) (m : Int) (p n : Int × Int × Int × Option Nat) : Ch × Int × Option Nat :=
  if (scanRd l n.2.2.2).2.1 = 0 then (⟨m, p.1, p.2.1, n.1, n.2.1, (scanRd l n.2.2.2).1⟩, 0, (scanRd l n.2.2.2).2.2) else (ch0, (scanRd l n.2.2.2).2.1, (scanRd l n.2.2.2).2.2)
def rd3 (l : List Nat) (m : Int) (p n : Int × Int × Int × Option Nat) : Ch × Int × Option Nat := if n.2.2.1 = 0 then rd4 l m p n else (ch0, n.2.2.1, n.2.2.2)
def rd2 (l : List Nat) (m : Int) (bx yy : Int) (p : Int × Int × Int × Option Nat) : Ch × Int × Option Nat := if p.2.2.1 = 0 then rd3 l m p (stV (nextB m) l bx yy p.2.2.2) else (ch0, p.2.2.1, p.2.2.2)
def rd1 (l : List Nat) (ax ay bx yy : Int) (m : Int × Option Nat) : Ch × Int × Option Nat := if m.2.isNone = true then (ch0, 120, m.2) else rd2 l m.1 bx yy (stV (pastB m.1) l ax ay m.2)
def rdCh (l : List Nat) (k ax ay bx yy : Int) (st : Option Nat) : Ch × Int × Option Nat := rd1 l ax ay bx yy (rdStep (wholeRd l (mostK k)) st)
theorem stV_yes {has : Bool} {l : List Nat} {gx gy : Int} {s : Option Nat} (h : has = true) : stV has l gx gy s = (vrX l gx gy s, vrY l gx gy s, vrE l gx gy s, vrS l s) := if_pos h
theorem stV_no {has : Bool} {l : List Nat} {gx gy : Int} {s : Option Nat} (h : has = false) : stV has l gx gy s = (0, 0, 0, s) := if_neg (by rw [h]; exact Bool.false_ne_true)
end Go.Proofs.YtdcbabgcbkdlhaaDoor
set_option maxRecDepth 100000
namespace Go.Proofs.YtdcbabgcbkdlhaaDoor
open Go.RowKit

def intsV (xs : List Int) : Array Value := (xs.map fun x => Value.int .i64 x).toArray
def sameI (xs ys : List Int) : Bool := decide (xs = ys)
theorem sameI_self (xs : List Int) : sameI xs xs = true := decide_eq_true rfl
theorem part_i64 (w : World) (xs : List Int) (i : Nat) (z : Int) (h : xs[i]? = some z) : (part 3 (intsV xs) i).run Tryd.prog w = .ok (.int .i64 z) w := by
  have e : (intsV xs)[i]? = some (.int .i64 z) := by
    unfold intsV
    rw [List.getElem?_toArray, List.getElem?_map, h]; rfl
  simp [part, isAgg, run_underlying Tryd.underlying3, e]
theorem run_same_fields (w : World) (d : Nat) (xs ys : List Int) : ∀ (fs : List Field) (k : Nat), fs.map (fun f => (f.name == "_", f.type, f.offset)) = (List.range' k fs.length).map (fun i => (false, 3, i)) → xs.length = k + fs.length → ys.length = k + fs.length →
    (Op.eqFields (d + 1) (intsV xs) (intsV ys) fs).run Tryd.prog w = .ok (sameI (xs.drop k) (ys.drop k)) w := by
  intro fs
  induction fs with
  | nil =>
    intro k _ hx hy
    simp only [List.length_nil, Nat.add_zero] at hx hy
    rw [List.drop_of_length_le (by omega), List.drop_of_length_le (by omega), sameI_self]
    simp [Op.eqFields]
  | cons f r ih =>
    intro k hf hx hy
    simp only [List.length_cons] at hx hy
    simp only [List.map_cons, List.length_cons, List.range'_succ, List.cons.injEq, Prod.mk.injEq] at hf
    obtain ⟨⟨hn, ht, ho⟩, hr⟩ := hf
    have hn' : f.name ≠ "_" := by simpa using hn
    have hkx : k < xs.length := by omega
    have hky : k < ys.length := by omega
    have p1 := part_i64 w xs k xs[k] (List.getElem?_eq_getElem hkx)
    have p2 := part_i64 w ys k ys[k] (List.getElem?_eq_getElem hky)
    have p3 := ih (k + 1) hr (by omega) (by omega)
    have ex : xs.drop k = xs[k] :: xs.drop (k + 1) := List.drop_eq_getElem_cons hkx
    have ey : ys.drop k = ys[k] :: ys.drop (k + 1) := List.drop_eq_getElem_cons hky
    have hs : sameI (xs.drop k) (ys.drop k) = (decide (xs[k] = ys[k]) && sameI (xs.drop (k + 1)) (ys.drop (k + 1))) := by
      rw [ex, ey]
      generalize xs[k] = a
      generalize ys[k] = b
      generalize xs.drop (k + 1) = X
      generalize ys.drop (k + 1) = Y
      unfold sameI
      by_cases h : a = b <;> simp [h]
    rw [hs]
    generalize sameI (xs.drop (k + 1)) (ys.drop (k + 1)) = q at p3
    generalize xs[k] = a at p1
    generalize ys[k] = b at p2
    simp only [Op.eqFields, ht, ho]
    rw [if_pos hn']
    simp only [Sem.run_bind, p1, p2, Result.andThen_ok, run_equalIn_int w d 3 .i64 .i64 _ _ Tryd.underlying3]
    by_cases h1 : a = b
    · subst h1
      simp only [beq_self_eq_true, Bool.not_true, Bool.false_eq_true, if_false, p3, decide_true, Bool.true_and]
    · have : (a == b) = false := by simpa using h1
      simp [this, h1]
/-- A struct of n ints. -/
def StructI (ty : TypeId) (n : Nat) : Prop := (Tryd.prog.underlying ty = some (.struct (Tryd.prog.fieldsOf ty)) ∧ Tryd.prog.stoodInHeld ty = false) ∧ Tryd.prog.eqGuardType Tryd.prog.depth ty = false ∧ (Tryd.prog.fieldsOf ty).toList.map (fun f => (f.name == "_", f.type, f.offset)) = (List.range' 0 n).map (fun i => (false, 3, i))
end Go.Proofs.YtdcbabgcbkdlhaaDoor
set_option maxRecDepth 100000
namespace Go.Proofs.YtdcbabgcbkdlhaaDoor
open Go.RowKit

def sameCh (c d : Ch) : Bool := decide (c.m = d.m) && (sameI [c.px, c.py] [d.px, d.py] && (sameI [c.nx, c.ny] [d.nx, d.ny] && sameB c.b d.b))
theorem run_same_intsD (w : World) (n0 : Nat) {ty : TypeId} {n : Nat} (hS : StructI ty n) (xs ys : List Int) (hx : xs.length = n) (hy : ys.length = n) : (Op.equalIn (n0 + 2) ty (.agg (intsV xs)) (.agg (intsV ys))).run Tryd.prog w = .ok (sameI xs ys) w := by
  rw [run_equalIn_struct w (n0 + 1) _ _ _ hS.1.1 hS.1.2]
  have hlen : (Tryd.prog.fieldsOf ty).toList.length = n := by have := congrArg List.length hS.2.2; simpa using this
  have := run_same_fields w n0 xs ys (Tryd.prog.fieldsOf ty).toList 0 (by rw [hlen]; exact hS.2.2) (by omega) (by omega)
  simpa using this
theorem run_same_blkD (w : World) (n0 : Nat) (t : TypeId) (ht : BlkT t) (a b : Nat → Int) : (Op.equalIn (n0 + 2) t (blkV a) (blkV b)).run Tryd.prog w = .ok (sameB a b) w := by
  obtain ⟨i0, hi⟩ : ∃ i, Tryd.prog.info? 3 = some i := by
    have := Tryd.size_int
    cases h : Tryd.prog.info? 3 with
    | none => rw [h] at this; cases this
    | some i => exact ⟨i, rfl⟩
  unfold blkV
  rw [run_equalIn_array w (n0 + 1) _ _ ht.1 hi, run_eqItems_ints Tryd.underlying3 Tryd.cells_int w n0 16 a b _ (fun i hi => by simpa using hi)]
  rfl
theorem structI_vec : StructI 23 2 := ⟨⟨by kernel_rfl, by kernel_rfl⟩, by kernel_rfl, by kernel_rfl⟩
theorem Tryd.chFields : (Tryd.prog.fieldsOf 27).toList.map (fun f => (f.name == "_", f.type, f.offset)) = [(false, 3, 0), (false, 23, 1), (false, 23, 3), (false, 25, 5)] := by kernel_rfl
theorem Tryd.guard_ch : Tryd.prog.eqGuardType Tryd.prog.depth 27 = false := by kernel_rfl
theorem Tryd.held_ch : Tryd.prog.underlying 27 = some (.struct (Tryd.prog.fieldsOf 27)) ∧ Tryd.prog.stoodInHeld 27 = false := ⟨by kernel_rfl, by kernel_rfl⟩
theorem part_ch0 (w : World) (c : Ch) : (part 3 (chV c).toArray 0).run Tryd.prog w = .ok (.int .i64 c.m) w := by
  simp [part, isAgg, run_underlying Tryd.underlying3, chV]
theorem part_agg (w : World) (ty : TypeId) (vs us : List Value) (k n : Nat) {d : TypeDesc} (hu : Tryd.prog.underlying ty = some d) (hd : (match d with | .struct _ => true | .array _ _ => true | _ => false) = true) (hs : (Tryd.prog.info? ty).map (·.size) = some n) (hk : (vs.drop k).take n = us) : (part ty vs.toArray k).run Tryd.prog w = .ok (.agg us.toArray) w := by
  cases hq : Tryd.prog.info? ty with
  | none => rw [hq] at hs; cases hs
  | some i =>
    have hs' : i.size = n := by simpa [hq] using hs
    subst hs'
    subst hk
    have e : vs.toArray.extract k (k + i.size) = ((vs.drop k).take i.size).toArray := by
      rw [List.extract_toArray]; simp [List.extract_eq_take_drop]
    cases d <;> simp at hd <;> simp only [part, isAgg, run_underlying hu, sizeOf, typeInfo, hq, Sem.run_bind, Sem.run_pure, Result.andThen_ok, run_program, if_true, e]
/-- One field more. -/
theorem eqFields_more {w : World} {z : Nat} {A B : Array Value} {f : Field} {r : List Field} {t : TypeId} {k : Nat} {a b : Value} {s q : Bool} (hf : (f.name == "_", f.type, f.offset) = (false, t, k))
    (ha : (part t A k).run Tryd.prog w = .ok a w) (hb : (part t B k).run Tryd.prog w = .ok b w) (hs : (Op.equalIn z t a b).run Tryd.prog w = .ok s w) (hq : (Op.eqFields z A B r).run Tryd.prog w = .ok q w) :
    (Op.eqFields z A B (f :: r)).run Tryd.prog w = .ok (s && q) w := by
  simp only [Prod.mk.injEq] at hf
  obtain ⟨n0, t0, o0⟩ := hf
  have m0 : f.name ≠ "_" := by simpa using n0
  simp only [Op.eqFields, t0, o0]
  rw [if_pos m0]
  simp only [Sem.run_bind, ha, hb, hs, Result.andThen_ok]
  cases s
  · simp
  · simp only [Bool.not_true, Bool.false_eq_true, if_false, hq, Bool.true_and]
theorem eqFields_none {w : World} {z : Nat} {A B : Array Value} : (Op.eqFields z A B []).run Tryd.prog w = .ok true w := by simp [Op.eqFields]
theorem list_four {α : Type} {l : List α} (h : l.length = 4) : ∃ a b c d, l = [a, b, c, d] := by
  match l, h with
  | [a, b, c, d], _ => exact ⟨a, b, c, d, rfl⟩
theorem run_same_chD (w : World) (z : Nat) (c d : Ch) : (Op.equalIn (z + 3) 27 (.agg (chV c).toArray) (.agg (chV d).toArray)).run Tryd.prog w = .ok (sameCh c d) w := by
  rw [run_equalIn_struct w (z + 2) _ _ _ Tryd.held_ch.1 Tryd.held_ch.2]
  have hf := Tryd.chFields
  have ri := run_equalIn_int w (z + 1) 3 .i64 .i64 c.m d.m Tryd.underlying3
  have hv : ∀ (x : Ch), (part 23 (chV x).toArray 1).run Tryd.prog w = .ok (.agg (intsV [x.px, x.py])) w := fun x => part_agg w 23 (chV x) [.int .i64 x.px, .int .i64 x.py] 1 2 Tryd.underlying23 rfl (by kernel_rfl) rfl
  have hn : ∀ (x : Ch), (part 23 (chV x).toArray 3).run Tryd.prog w = .ok (.agg (intsV [x.nx, x.ny])) w := fun x => part_agg w 23 (chV x) [.int .i64 x.nx, .int .i64 x.ny] 3 2 Tryd.underlying23 rfl (by kernel_rfl) rfl
  have hb : ∀ (x : Ch), (part 25 (chV x).toArray 5).run Tryd.prog w = .ok (blkV x.b) w := fun x => part_agg w 25 (chV x) (arrL 16 x.b) 5 16 Tryd.underlying25 rfl (by kernel_rfl) rfl
  have p0 := part_ch0 w c
  have q0 := part_ch0 w d
  have r1 := run_same_intsD w z structI_vec [c.px, c.py] [d.px, d.py] rfl rfl
  have r2 := run_same_intsD w z structI_vec [c.nx, c.ny] [d.nx, d.ny] rfl rfl
  have r3 := run_same_blkD w z 25 blkT_block c.b d.b
  have p1 := hv c; have q1 := hv d; have p2 := hn c; have q2 := hn d; have p3 := hb c; have q3 := hb d
  generalize (chV c).toArray = A at *
  generalize (chV d).toArray = B at *
  generalize (Tryd.prog.fieldsOf 27).toList = fs at hf ⊢
  obtain ⟨f0, f1, f2, f3, rfl⟩ := list_four (l := fs) (by have := congrArg List.length hf; simpa using this)
  simp only [List.map_cons, List.map_nil, List.cons.injEq, and_true] at hf
  obtain ⟨h0, h1, h2, h3⟩ := hf
  have e := eqFields_more h0 p0 q0 ri (eqFields_more h1 p1 q1 r1 (eqFields_more h2 p2 q2 r2 (eqFields_more h3 p3 q3 r3 eqFields_none)))
  rw [e]
  unfold sameCh
  rw [Bool.and_true, show (c.m == d.m) = decide (c.m = d.m) from by rw [Bool.eq_iff_iff]; simp]
theorem run_same_ch (w : World) (c d : Ch) : (Op.equalIn 10000 27 (.agg (chV c).toArray) (.agg (chV d).toArray)).run Tryd.prog w = .ok (sameCh c d) w := run_same_chD w 9997 c d
section
variable {ρ : Operand → Value} {o : Oper} {w : World} {R : Value → World → Prop}
theorem y_eqlCh {t' : TypeId} {x y : Operand} {c d : Ch} {q : Bool} (ho : o.op = .binOp .eql 27 x y t') (hx : ρ x = .agg (chV c).toArray) (hy : ρ y = .agg (chV d).toArray) (hr : sameCh c d = q) (h : R (.bool q) w) : Yields Tryd.prog ρ o w R :=
  y_of (v := .bool (sameCh c d)) (w' := w) (by simp only [execOp, ho, hx, hy, Sem.run_bind, run_eqGuard_agg w .eql _ _ _ _ _ Tryd.guard_ch, run_eql_struct, run_same_ch, Result.andThen_ok, Sem.run_pure]) (by rw [hr]; exact h)
end
end Go.Proofs.YtdcbabgcbkdlhaaDoor
set_option maxRecDepth 100000
namespace Go.Proofs.YtdcbabgcbkdlhaaDoor

def c8M (a : Nat → Int) : Nat → Int := fun i => min (max (a i) 0) 255
def buB (b : Nat → Int) (l : Nat → Int) (q : Int) : Nat → Int := if ern q = 0 then c8M (moreB b (backB (upB l q))) else fun _ => 0
theorem bu_yes {b l : Nat → Int} {q : Int} (h : ern q = 0) : buB b l q = c8M (moreB b (backB (upB l q))) := if_pos h
theorem bu_no {b l : Nat → Int} {q : Int} (h : ern q ≠ 0) : buB b l q = fun _ => 0 := if_neg h
structure ChOk (k : Int) (c : Ch) : Prop where
  m : 0 ≤ c.m ∧ c.m ≤ mostK k
  past : pastB c.m = false → c.px = 0 ∧ c.py = 0
  next : nextB c.m = false → c.nx = 0 ∧ c.ny = 0
  far : ∀ i, i < 16 → -1048576 ≤ c.b i ∧ c.b i ≤ 1048576
  p : vecOk c.px c.py
  n : vecOk c.nx c.ny
theorem sameVec_eq {a b c d : Int} (h : sameVec a b c d = true) : a = c ∧ b = d := by unfold sameVec at h; simpa using h
theorem far_no {b : Nat → Int} : ∀ n, farCh b n = false → ∀ i, i < n → -1048576 ≤ b i ∧ b i ≤ 1048576 := by
  intro n
  induction n with
  | zero => intro _ i hi; omega
  | succ n ih =>
    intro h i hi
    unfold farCh at h
    obtain ⟨h1, h2⟩ := Bool.or_eq_false_iff.1 h
    by_cases e : i = n
    · subst e; have := of_decide_eq_false h2; omega
    · exact ih h1 i (by omega)
theorem far_all {b : Nat → Int} : ∀ n, (∀ i, i < n → -1048576 ≤ b i ∧ b i ≤ 1048576) → farCh b n = false := by
  intro n
  induction n with
  | zero => intro _; rfl
  | succ n ih =>
    intro h
    unfold farCh
    rw [ih fun i hi => h i (by omega), decide_eq_false (by have := h n (by omega); omega)]; rfl
theorem ch_ok {k : Int} {c : Ch} (h : chE k c = 0) : ChOk k c := by
  unfold chE at h
  split at h
  · cases h
  · rename_i hb
    split at h
    · cases h
    · rename_i hf
      split at h
      · rename_i hv
        have hf' : farCh c.b 16 = false := by simpa using hf
        refine ⟨?_, fun z => ?_, fun z => ?_, far_no 16 hf', hv.1, hv.2⟩
        · unfold badM at hb; omega
        · have : ¬ (sameVec c.px c.py 0 0 = false) := fun e => hb (Or.inr (Or.inr (Or.inl ⟨z, e⟩)))
          exact sameVec_eq (by simpa using this)
        · have : ¬ (sameVec c.nx c.ny 0 0 = false) := fun e => hb (Or.inr (Or.inr (Or.inr ⟨z, e⟩)))
          exact sameVec_eq (by simpa using this)
      · cases h
theorem ch_of {k : Int} {c : Ch} (h : ChOk k c) : chE k c = 0 := by
  have h1 : ¬ badM k c := by
    unfold badM
    rintro (z | z | ⟨z, e⟩ | ⟨z, e⟩)
    · have := h.m; omega
    · have := h.m; omega
    · obtain ⟨a, b⟩ := h.past z; rw [a, b] at e; exact absurd e (by decide)
    · obtain ⟨a, b⟩ := h.next z; rw [a, b] at e; exact absurd e (by decide)
  rw [chE_vec h1 (far_all 16 h.far), if_pos ⟨h.p, h.n⟩]
theorem mostK_le (k : Int) : mostK k ≤ 6 := by unfold mostK; split; omega; split; omega; split <;> omega
theorem stV_back {has : Bool} {l : List Nat} {a : Nat} {X Y gx gy : Int} (hv : vecOk X Y) (h0 : has = false → X = 0 ∧ Y = 0) (hb : BitsAt l a (if has = true then vecBits X Y gx gy else [])) :
    stV has l gx gy (some a) = (X, Y, 0, some (a + (if has = true then vecBits X Y gx gy else []).length)) := by
  cases has with
  | true =>
    rw [if_pos rfl] at hb
    obtain ⟨h1, h2, h3, h4⟩ := vr_back l a X Y gx gy hv hb
    rw [stV_yes rfl, h1, h2, h3, h4, if_pos rfl]
  | false =>
    obtain ⟨rfl, rfl⟩ := h0 rfl
    rw [stV_no rfl, if_neg Bool.false_ne_true]; rfl
theorem ch_back {l : List Nat} {a : Nat} {k : Int} {c : Ch} {ax ay bx yy : Int} (hk : chE k c = 0) (hb : BitsAt l a (chBits c ax ay bx yy)) :
    ∃ d, rdCh l k ax ay bx yy (some a) = (d, 0, some (a + (chBits c ax ay bx yy).length)) ∧ sameCh d c = true := by
  have ho := ch_ok hk
  have hmk := mostK_le k
  unfold chBits at hb
  have hw := wholeRd_bits l a c.m (mostK k) ho.m.1 (by have := ho.m; omega) ho.m.2 hb.left.left.left
  have hp := stV_back (has := pastB c.m) ho.p ho.past (show BitsAt l (a + (wholeBits c.m).length) (pastBits c ax ay) from hb.left.left.right)
  have hn := stV_back (has := nextB c.m) ho.n ho.next (show BitsAt l (a + (wholeBits c.m ++ pastBits c ax ay).length) (nextBits c bx yy) from hb.left.right)
  obtain ⟨d, hs, hd⟩ := scan_back l _ c.b hb.right
  refine ⟨⟨c.m, c.px, c.py, c.nx, c.ny, d⟩, ?_, ?_⟩
  · have e1 : rdStep (wholeRd l (mostK k)) (some a) = (c.m, some (a + (wholeBits c.m).length)) := by simp only [rdStep, hw]
    unfold rdCh; rw [e1]; unfold rd1; rw [if_neg (by simp)]
    show rd2 l c.m bx yy (stV (pastB c.m) l ax ay (some (a + (wholeBits c.m).length))) = _
    rw [hp]
    unfold rd2; rw [if_pos rfl]
    rw [show a + (wholeBits c.m).length + (if pastB c.m = true then vecBits c.px c.py ax ay else []).length = a + (wholeBits c.m ++ pastBits c ax ay).length from by rw [List.length_append]; unfold pastBits; omega, hn]
    unfold rd3; rw [if_pos rfl]
    rw [show a + (wholeBits c.m ++ pastBits c ax ay).length + (if nextB c.m = true then vecBits c.nx c.ny bx yy else []).length = a + (wholeBits c.m ++ pastBits c ax ay ++ nextBits c bx yy).length from by rw [List.length_append (bs := nextBits c bx yy)]; unfold nextBits; omega]
    unfold rd4; simp only; rw [hs]; simp only [if_true]
    rw [show a + (wholeBits c.m ++ pastBits c ax ay ++ nextBits c bx yy).length + (scanBits c.b).length = a + (chBits c ax ay bx yy).length from by unfold chBits; rw [List.length_append (bs := scanBits c.b)]; omega]
  · unfold sameCh
    rw [sameI_self, sameI_self, decide_eq_true rfl, sameB_true (fun i hi => (hd i hi).trans (cl_id _ _ (ho.far i hi).1 (ho.far i hi).2))]; rfl
/-- Where a reader stands that stays where there is no choice. -/
def rdChT (l : List Nat) (k ax ay bx yy : Int) (st : Option Nat) : Option Nat := if (rdCh l k ax ay bx yy st).2.1 = 0 then (rdCh l k ax ay bx yy st).2.2 else st
theorem rdStep_at (l : List Nat) (n : Int) (a : Nat) : rdStep (wholeRd l n) (some a) = match wholeAt l a with
    | some (v, a') => if n < v then (0, none) else (v, some a')
    | none => (0, none) := by
  cases hq : wholeAt l a with
  | none => simp [rdStep, wholeRd, hq]
  | some x =>
    obtain ⟨v, a'⟩ := x
    by_cases h : n < v
    · simp [rdStep, wholeRd, hq, h]
    · simp [rdStep, wholeRd, hq, h]
theorem rdStep_most {l : List Nat} {m n : Int} (h : m ≤ n) (st : Option Nat) :
    rdStep (wholeRd l m) st = if (rdStep (wholeRd l n) st).2.isNone = true ∨ m < (rdStep (wholeRd l n) st).1 then (0, none) else rdStep (wholeRd l n) st := by
  cases st with
  | none => rfl
  | some a =>
    rw [rdStep_at l m a, rdStep_at l n a]
    cases wholeAt l a with
    | none => rfl
    | some x =>
      obtain ⟨v, a'⟩ := x
      simp only
      by_cases h1 : n < v
      · rw [if_pos h1, if_pos (show m < v by omega)]; exact (if_pos (Or.inl rfl)).symm
      · rw [if_neg h1]
        by_cases h2 : m < v
        · rw [if_pos h2, if_pos (Or.inr h2)]
        · rw [if_neg h2, if_neg (by rintro (z | z); cases z; exact h2 z)]
theorem chBits_short (c : Ch) (ax ay bx yy : Int) : (chBits c ax ay bx yy).length ≤ 2400 := by
  have h1 := vecBits_short c.px c.py ax ay
  have h2 := vecBits_short c.nx c.ny bx yy
  have h3 := wholeBits_short c.m
  have h4 := scanBits_length c.b
  have h5 : (pastBits c ax ay).length ≤ 128 := by unfold pastBits; split; omega; simp
  have h6 : (nextBits c bx yy).length ≤ 128 := by unfold nextBits; split; omega; simp
  unfold chBits; rw [List.length_append, List.length_append, List.length_append]; omega
theorem wrCh_short (k : Int) (c : Ch) (ax ay bx yy : Int) : (wrCh k c ax ay bx yy).length ≤ 2400 := by
  unfold wrCh; split
  · exact chBits_short _ _ _ _ _
  · simp
end Go.Proofs.YtdcbabgcbkdlhaaDoor
set_option maxRecDepth 100000
namespace Go.Proofs.YtdcbabgcbkdlhaaDoor
open Go.RowKit

def Rdi.ty (e : TypeId) : Prop := e = 82 ∨ e = 5
def Rfi.ty (e : TypeId) : Prop := e = 45
instance (e : TypeId) : Decidable (Rdi.ty e) := by unfold Rdi.ty; infer_instance
instance (e : TypeId) : Decidable (Rfi.ty e) := by unfold Rfi.ty; infer_instance
theorem Rdi.at {w : World} {T : Nat → Prop} {p : Nat} {l : List Nat} {st : Option Nat} (h : Rdi w T p l st) (x : Nat) (hx : T x) : ∃ c e f, w.heap[x]? = some (.cells c e f) ∧ Rdi.ty e := by
  obtain ⟨_, g, rfl, h⟩ := h
  have hr : ∃ a b, RdAt w p g l a b := by
    cases st with
    | none => obtain ⟨a, h⟩ := h; exact ⟨a, _, h⟩
    | some a => exact ⟨a, _, h.2⟩
  obtain ⟨a, b, h1, h2, _⟩ := hr
  rcases hx with rfl | rfl
  · exact ⟨_, _, _, h1, .inl rfl⟩
  · exact ⟨_, _, _, h2, .inr rfl⟩
theorem Rfi.at {w : World} {T : Nat → Prop} {p : Nat} {l : List Nat} {st : Option Nat} (h : Rfi w T p l st) (x : Nat) (hx : T x) : ∃ c e f, w.heap[x]? = some (.cells c e f) ∧ Rfi.ty e := by
  obtain ⟨_, _, rfl, h⟩ := h
  have hr : ∃ a b, RfAt w p l a b := by
    cases st with
    | none => obtain ⟨a, _, h⟩ := h; exact ⟨a, _, h⟩
    | some a => exact ⟨a, _, h.2⟩
  obtain ⟨a, b, h1⟩ := hr
  cases hx
  exact ⟨_, _, _, h1, rfl⟩
end Go.Proofs.YtdcbabgcbkdlhaaDoor
set_option maxRecDepth 100000
namespace Go.Proofs.YtdcbabgcbkdlhaaDoor
open Go.RowKit

/-- A kind of row: the slice's type, its elements', how many cells each has, the cells of an element, the one that is there when it is made. -/
structure RowT (α : Type) where
  t : TypeId
  e : TypeId
  k : Nat
  by_ : Nat
  enc : α → List Value
  d : α
  z : Value
class RowT.Ok {α : Type} (r : RowT α) : Prop where
  slice : Tryd.prog.underlying r.t = some (.slice r.e)
  info : (Tryd.prog.info? r.e).map (fun i => (i.zero, i.size, i.bytes)) = some (some r.z, r.k, r.by_)
  cells : r.z.cells.toList = r.enc r.d
  pos : 0 < r.k
  len : ∀ x, (r.enc x).length = r.k
  one : ∀ x, ∀ u ∈ r.enc x, u.oneCell' = true
  small : r.by_ ≤ 192

section
variable {α : Type} {r : RowT α}
theorem flat_len [h : r.Ok] (l : List α) : (l.flatMap r.enc).length = l.length * r.k := by
  induction l with
  | nil => simp
  | cons x l ih => rw [List.flatMap_cons, List.length_append, ih, h.len, List.length_cons, Nat.add_mul]; omega
/-- A row that can be read. -/
def RoA (r : RowT α) (w : World) (T : Nat → Prop) (v : Value) (l : List α) : Prop :=
  ∃ a cap, v = .slice a l.length cap ∧ l.length ≤ cap ∧ cap ≤ maxLen ∧ (a = none → cap = 0) ∧ Live w T ∧
    (0 < l.length → ∃ b off, a = some ⟨b, off, none⟩ ∧ T b ∧ ∀ j u, (l.flatMap r.enc)[j]? = some u → w.cell? ⟨b, off + j, none⟩ = some u)
theorem RoA.nil (r : RowT α) (w : World) : RoA r w noB (.slice none 0 0) [] := ⟨none, 0, rfl, Nat.le_refl _, by unfold maxLen; omega, fun _ => rfl, fun _ h => h.elim, fun h => absurd h (by simp)⟩
theorem RoA.live {w : World} {T : Nat → Prop} {v : Value} {l : List α} (h : RoA r w T v l) : Live w T := by obtain ⟨_, _, _, _, _, _, h, _⟩ := h; exact h
theorem RoA.all {S : Nat → Prop} {w w' : World} {T : Nat → Prop} {v : Value} {l : List α} (h : RoA r w T v l) (k : Kept S w w') (ha : Apart T S) : RoA r w' T v l := by
  obtain ⟨a, cap, rfl, h1, h2, h3, hL, hc⟩ := h
  refine ⟨a, cap, rfl, h1, h2, h3, hL.mono k, fun hp => ?_⟩
  obtain ⟨b, off, rfl, hb, hcell⟩ := hc hp
  exact ⟨b, off, rfl, hb, fun j u hj => (World.cell?_of_block (k.block b (hL b hb) (ha b hb))).trans (hcell j u hj)⟩
theorem RoA.row {A B : World} {row : Option Nat} {n : Nat} {T : Nat → Prop} {v : Value} {l : List α} [hk : r.Ok] (h : RoA r A T v l) (hg : A.grownBy B row) (hr : RowNew n A row) : RoA r B T v l := by
  obtain ⟨a, cap, rfl, h1, h2, h3, hL, hc⟩ := h
  have k := kept_row hg
  refine ⟨a, cap, rfl, h1, h2, h3, hL.mono k, fun hp => ?_⟩
  obtain ⟨b, off, rfl, hb, hcell⟩ := hc hp
  have h0 : 0 < (l.flatMap r.enc).length := by rw [flat_len (r := r)]; exact Nat.mul_pos hp hk.pos
  refine ⟨b, off, rfl, hb, fun j u hj => (World.cell?_of_block (k.block b (hL b hb) fun e => ?_)).trans (hcell j u hj)⟩
  obtain ⟨_, o, ho, hn⟩ := hr b e.symm
  have := hcell 0 _ (List.getElem?_eq_getElem h0)
  unfold World.cell? at this
  simp only at this
  rw [ho] at this
  cases o <;> simp_all [Obj.isCells]
theorem RoA.one {w : World} {T : Nat → Prop} {v : Value} {l : List α} (h : RoA r w T v l) : v.oneCell' = true := by obtain ⟨a, cap, rfl, _⟩ := h; rfl
theorem RoA.oneC {w : World} {T : Nat → Prop} {v : Value} {l : List α} (h : RoA r w T v l) : oneC v = true := by obtain ⟨a, cap, rfl, _⟩ := h; rfl
/-- A row of the call's own. -/
def RoO (r : RowT α) (w : World) (T : Nat → Prop) (v : Value) (l : List α) : Prop := w.ownsRow 0 r.e r.k v l.length (l.flatMap r.enc) ∧ ∀ i, T i ↔ v.ownBlock = some i
theorem RoO.nil (r : RowT α) (w : World) : RoO r w noB (.slice none 0 0) [] := ⟨World.ownsRow_nil w 0 r.e r.k, fun i => ⟨fun h => h.elim, fun h => by cases h⟩⟩
theorem RoO.live {w : World} {T : Nat → Prop} {v : Value} {l : List α} (h : RoO r w T v l) : Live w T := fun i hi => (h.1.lt i ((h.2 i).1 hi)).2
theorem RoO.all {S : Nat → Prop} {w w' : World} {T : Nat → Prop} {v : Value} {l : List α} (h : RoO r w T v l) (k : Kept S w w') (ha : Apart T S) : RoO r w' T v l := by
  refine ⟨⟨h.1.1, ?_⟩, h.2⟩
  rcases h.1.2 with hn | ⟨g, cap, cur, rfl, hb, hg, rest⟩
  · exact .inl hn
  · exact .inr ⟨g, cap, cur, rfl, hb, k.at hg (ha g ((h.2 g).2 rfl)), rest⟩
theorem RoO.roa {w : World} {T : Nat → Prop} {v : Value} {l : List α} (h : RoO r w T v l) : RoA r w T v l := by
  have hL := h.live
  rcases h.1.2 with ⟨rfl, h0⟩ | ⟨g, cap, cur, rfl, hb, hg, h1, h2, h3, h4⟩
  · have : l = [] := List.eq_nil_of_length_eq_zero h0
    subst this
    exact ⟨none, 0, rfl, Nat.le_refl _, by unfold maxLen; omega, fun _ => rfl, hL, fun h => absurd h (by simp)⟩
  · refine ⟨some ⟨g, 0, none⟩, cap, rfl, h1, h2, by simp, hL, fun _ => ⟨g, 0, rfl, (h.2 g).2 rfl, fun j u hj => ?_⟩⟩
    have := h.1.cells (g := g) rfl j u hj
    rwa [Addr.add_lit] at this
theorem RoO.cells {w : World} {T : Nat → Prop} {v : Value} {l : List α} (h : RoO r w T v l) : Cells w T := fun i hi => by
  have hv := (h.2 i).1 hi
  rcases h.1.2 with ⟨rfl, _⟩ | ⟨g, cap, cur, rfl, _, hg, _⟩
  · cases hv
  · cases hv; exact ⟨_, hg, rfl⟩
theorem RoO.row {A B : World} {row : Option Nat} {n : Nat} {T : Nat → Prop} {v : Value} {l : List α} (h : RoO r A T v l) (hg : A.grownBy B row) (hr : RowNew n A row) : RoO r B T v l := h.all (kept_row hg) (h.cells.apart hr)
theorem RoO.one {w : World} {T : Nat → Prop} {v : Value} {l : List α} (h : RoO r w T v l) : v.oneCell' = true := h.roa.one
theorem RoO.oneC {w : World} {T : Nat → Prop} {v : Value} {l : List α} (h : RoO r w T v l) : oneC v = true := h.roa.oneC
end


end Go.Proofs.YtdcbabgcbkdlhaaDoor
set_option maxRecDepth 100000
namespace Go.Proofs.YtdcbabgcbkdlhaaDoor
open Go.RowKit

def pairV (a b : Int) : Value := .agg #[.int .i64 a, .int .i64 b]
/-- A struct of two ints. -/
structure TwoInts (K : TypeId) : Prop where
  und : Tryd.prog.underlying K = some (.struct (Tryd.prog.fieldsOf K))
  hel : Tryd.prog.stoodInHeld K = false
  flds : ∃ n0 n1 : String, n0 ≠ "_" ∧ n1 ≠ "_" ∧ (Tryd.prog.fieldsOf K).toList.map (fun f => (f.name, f.type, f.offset)) = [(n0, 3, 0), (n1, 3, 1)]
theorem TwoInts.split {K : TypeId} (h : TwoInts K) : ∃ f0 f1 : Field, Tryd.prog.fieldsOf K = #[f0, f1] ∧ f0.name ≠ "_" ∧ f1.name ≠ "_" ∧ f0.type = 3 ∧ f1.type = 3 ∧ f0.offset = 0 ∧ f1.offset = 1 := by
  obtain ⟨n0, n1, h0, h1, hf⟩ := h.flds
  have hlen : (Tryd.prog.fieldsOf K).toList.length = 2 := by simpa using congrArg List.length hf
  match hq : (Tryd.prog.fieldsOf K).toList, hlen with
  | [f0, f1], _ =>
    rw [hq] at hf
    simp only [List.map_cons, List.map_nil, List.cons.injEq, Prod.mk.injEq, and_true] at hf
    obtain ⟨⟨e0, t0, o0⟩, ⟨e1, t1, o1⟩⟩ := hf
    exact ⟨f0, f1, by rw [← hq], by rw [e0]; exact h0, by rw [e1]; exact h1, t0, t1, o0, o1⟩
/-- A map's entries, as they stand. -/
def entV (es : List MapEntry) (L : List ((Int × Int) × Int × Int)) : Prop := es.map (fun e => (e.key, e.val)) = L.map fun q => (pairV q.1.1 q.1.2, pairV q.2.1 q.2.2)
abbrev Ents := List ((Int × Int) × Int × Int)
def lookL (a b : Int) : Ents → Int × Int
  | [] => (0, 0)
  | q :: r => if q.1 = (a, b) then q.2 else lookL a b r
/-- A map in memory, and what it tells of each place. -/
def Mpf (w : World) (r : Nat) (g : Int → Int → Int × Int) : Prop := ∃ es clock L, w.heap[r]? = some (.map es clock) ∧ entV es.toList L ∧ (L.map (·.1)).Nodup ∧ ∀ a b, lookL a b L = g a b
theorem Mpf.lt {w : World} {r : Nat} {g : Int → Int → Int × Int} (h : Mpf w r g) : r < w.heap.size := by obtain ⟨_, _, _, h, _⟩ := h; exact lt_of_heap h
theorem Mpf.all {S : Nat → Prop} {w w' : World} {r : Nat} {g : Int → Int → Int × Int} (h : Mpf w r g) (k : Kept S w w') (hn : ¬ S r) : Mpf w' r g := by
  obtain ⟨es, clock, L, h1, h2⟩ := h; exact ⟨es, clock, L, k.at h1 hn, h2⟩
theorem Mpf.congr {w : World} {r : Nat} {g g' : Int → Int → Int × Int} (h : Mpf w r g) (e : ∀ a b, g a b = g' a b) : Mpf w r g' := by
  obtain ⟨es, clock, L, h1, h2, h3, h4⟩ := h; exact ⟨es, clock, L, h1, h2, h3, fun a b => (h4 a b).trans (e a b)⟩
end Go.Proofs.YtdcbabgcbkdlhaaDoor
set_option maxRecDepth 100000
namespace Go.Proofs.YtdcbabgcbkdlhaaDoor
open Go.RowKit

theorem stcT_reader : StcT Tryd.prog 82 3 := ⟨_, Tryd.underlying82, rfl, by kernel_rfl⟩
/-- A block of bytes that are read. -/
def Rby (w : World) (T : Nat → Prop) (g : Nat) (l : List Nat) : Prop := T = onB g ∧ w.heap[g]? = some (.cells (byteVals l).toArray 5 (0, 0))
theorem Rby.live {w : World} {T : Nat → Prop} {g : Nat} {l : List Nat} (h : Rby w T g l) : Live w T := by
  obtain ⟨rfl, h⟩ := h; exact onB_live (lt_of_heap h)
theorem Rby.all {S : Nat → Prop} {w w' : World} {T : Nat → Prop} {g : Nat} {l : List Nat} (h : Rby w T g l) (k : Kept S w w') (ha : Apart T S) : Rby w' T g l := by
  obtain ⟨rfl, h⟩ := h; exact ⟨rfl, k.at h (ha g rfl)⟩
def okR (l : List Nat) (st : Option Nat) (a : Nat) (b : Bool) : Prop := match st with
  | some n => n ≤ 8 * l.length ∧ a = n ∧ b = false
  | none => b = true
theorem rdis_open {w : World} {p g : Nat} {l : List Nat} {st : Option Nat} (h : RdIs w p g l st) : ∃ (a : Nat) (b : Bool), okR l st a b ∧ Stc w p 82 [.slice (some ⟨g, 0, none⟩) l.length l.length, .int .i64 (a : Int), .bool b] ∧ Rby w (onB g) g l ∧ Apart (onB p) (onB g) := by
  cases st with
  | none =>
    obtain ⟨a, h⟩ := h
    exact ⟨a, true, rfl, h.1, ⟨rfl, h.2.1⟩, fun i h1 h2 => h.2.2 (h2.symm.trans h1)⟩
  | some n => exact ⟨n, false, ⟨h.1, rfl, rfl⟩, h.2.1, ⟨rfl, h.2.2.1⟩, fun i h1 h2 => h.2.2.2 (h2.symm.trans h1)⟩
theorem rdis_close {w : World} {p g : Nat} {l : List Nat} {st : Option Nat} {a : Nat} {b : Bool} (ho : okR l st a b) (h1 : Stc w p 82 [.slice (some ⟨g, 0, none⟩) l.length l.length, .int .i64 (a : Int), .bool b]) (h2 : Rby w (onB g) g l) (ha : Apart (onB p) (onB g)) : RdIs w p g l st := by
  have hne : g ≠ p := fun e => ha g e rfl
  cases st with
  | none => cases ho; exact ⟨a, h1, h2.2, hne⟩
  | some n => obtain ⟨h3, rfl, rfl⟩ := ho; exact ⟨h3, h1, h2.2, hne⟩
theorem rdi_open {w : World} {T : Nat → Prop} {p : Nat} {l : List Nat} {st : Option Nat} (h : Rdi w T p l st) : ∃ (g a : Nat) (b : Bool), Fair l ∧ (∀ i, T i ↔ (onB p i ∨ onB g i)) ∧ okR l st a b ∧ Stc w p 82 [.slice (some ⟨g, 0, none⟩) l.length l.length, .int .i64 (a : Int), .bool b] ∧ Rby w (onB g) g l ∧ Apart (onB p) (onB g) := by
  obtain ⟨hf, g, rfl, h⟩ := h
  obtain ⟨a, b, h1, h2, h3, h4⟩ := rdis_open h
  exact ⟨g, a, b, hf, fun i => Iff.rfl, h1, h2, h3, h4⟩
theorem rdi_close {w : World} {p g : Nat} {l : List Nat} {st : Option Nat} {a : Nat} {b : Bool} (hf : Fair l) (ho : okR l st a b) (h1 : Stc w p 82 [.slice (some ⟨g, 0, none⟩) l.length l.length, .int .i64 (a : Int), .bool b]) (h2 : Rby w (onB g) g l) (ha : Apart (onB p) (onB g)) : Rdi w (fun i => onB p i ∨ onB g i) p l st := ⟨hf, g, rfl, rdis_close ho h1 h2 ha⟩
/-- At q a copy of the reader at p, that goes on by itself. -/
def Rd2 (w : World) (T : Nat → Prop) (q p : Nat) (l : List Nat) (st1 st : Option Nat) : Prop := Fair l ∧ ∃ g, (∀ i, T i ↔ (onB p i ∨ onB q i ∨ onB g i)) ∧ q ≠ p ∧ RdIs w p g l st1 ∧ RdIs w q g l st
theorem Rd2.live {w : World} {T : Nat → Prop} {q p : Nat} {l : List Nat} {st1 st : Option Nat} (h : Rd2 w T q p l st1 st) : Live w T := by
  obtain ⟨_, g, hT, _, h1, h2⟩ := h
  intro i hi
  rcases (hT i).1 hi with e | e | e <;> cases e
  · exact h1.lt.1
  · exact h2.lt.1
  · exact h1.lt.2.1
theorem Rd2.all {S : Nat → Prop} {w w' : World} {T : Nat → Prop} {q p : Nat} {l : List Nat} {st1 st : Option Nat} (h : Rd2 w T q p l st1 st) (k : Kept S w w') (ha : Apart T S) : Rd2 w' T q p l st1 st := by
  obtain ⟨hf, g, hT, hn, h1, h2⟩ := h
  have np := ha p ((hT p).2 (.inl rfl))
  have nq := ha q ((hT q).2 (.inr (.inl rfl)))
  have ng := ha g ((hT g).2 (.inr (.inr rfl)))
  exact ⟨hf, g, hT, hn, h1.kept k np ng, h2.kept k nq ng⟩
/-- Where a reader stands behind a vector: where it stood, if there is none. -/
def vrT (l : List Nat) (gx gy : Int) (s : Option Nat) : Option Nat := if rdOk l gx gy s then vrS l s else s
theorem vrT_ok {l : List Nat} {gx gy : Int} {s : Option Nat} (h : vrE l gx gy s = 0) : vrT l gx gy s = vrS l s := by
  unfold vrE at h; unfold vrT
  split at h
  · rename_i h'; rw [if_pos h']
  · cases h
set_option maxHeartbeats 4000000 in
set_option maxRecDepth 100000 in
theorem vt_clamped (n : Int) (w0 : World) :
  Calls Tryd.prog 106 #[.int .i64 (n)] w0 fun e w' => e = .returned (.int .i64 (cl 64 n)) ∧ Kept (fun _ => False) w0 w' := by
 refine calls_wq (args := [.int .i64 (n)]) 6 Tryd.func106 rfl rfl (Nat.le_of_ble_eq_true rfl) ?_
 have K0 := Kept.refl (fun _ => False) w0
 refine wq_seq ?_
 refine wq_region ?_
 refine wl_v (.int .i64 (0)) rfl rfl (y_asg rfl rfl ⟨rfl, rfl⟩) ?_
 refine wl_nil fun F1 hF2 => ?_
 have s3 : F1 0 = .int .i64 (n) := (hF2 0).trans rfl
 have s4 : F1 6 = undef := (hF2 6).trans rfl
 clear hF2
 refine then_normal ?_
 refine wq_seq ?_
 refine wq_region ?_
 refine wl_v (.int .i64 (n)) rfl rfl (y_mov rfl s3 ⟨rfl, rfl⟩) ?_
 refine wl_v (.int .i64 (min (n) (64))) rfl rfl (y_minR rfl rfl rfl rfl ⟨rfl, rfl⟩) ?_
 refine wl_v (.int .i64 (cl 64 n)) rfl rfl (y_maxR rfl rfl rfl ((by unfold cl; omega)) ⟨rfl, rfl⟩) ?_
 refine wl_v (.int .i64 (cl 64 n)) rfl rfl (y_asg rfl rfl ⟨rfl, rfl⟩) ?_
 refine wl_nil fun F5 hF6 => ?_
 have s7 := (hF6 6).trans s4
 have s8 : F5 2 = .int .i64 (cl 64 n) := (hF6 2).trans rfl
 clear hF6
 refine then_normal ?_
 refine wq_ret ?_
 exact end_tmp (v := .int .i64 (cl 64 n)) s7 rfl rfl s8 ⟨rfl, K0⟩
set_option maxHeartbeats 4000000 in
set_option maxRecDepth 100000 in
theorem vt_near (X Y : Int) (w0 : World) :
  Calls Tryd.prog 74 #[.agg #[.int .i64 (X), .int .i64 (Y)]] w0 fun e w' => e = .returned (.agg #[.int .i64 (cl 64 X), .int .i64 (cl 64 Y)]) ∧ Kept (fun _ => False) w0 w' := by
 refine calls_wq (args := [.agg #[.int .i64 (X), .int .i64 (Y)]]) 10 Tryd.func74 rfl rfl (Nat.le_of_ble_eq_true rfl) ?_
 have K0 := Kept.refl (fun _ => False) w0
 refine wq_seq ?_
 refine wq_region ?_
 refine wl_box_stc (vs := [.int .i64 (X), .int .i64 (Y)]) rfl rfl rfl rfl fun p1 w2 B4 g5 k3 => ?_
 have K7 := K0.trans k3 (fun _ _ x => x.elim)
 refine wl_alloc_stc (n := 2) (vs := [.int .i64 (0), .int .i64 (0)]) rfl rfl rfl (by kernel_rfl) fun p8 w9 B11 g12 k10 => ?_
 have gr13 : Grew w0 noB (onB p8) := Grew.new K7 g12
 have B15 := B4.all k10 id
 have K16 := K7.trans k10 (fun _ _ x => x.elim)
 refine wl_nil fun F17 hF18 => ?_
 have s19 : F17 10 = undef := (hF18 10).trans rfl
 have s20 : F17 1 = .pointer (some ⟨p1, 0, none⟩) := (hF18 1).trans rfl
 have s21 : F17 2 = .pointer (some ⟨p8, 0, none⟩) := (hF18 2).trans rfl
 clear hF18
 refine then_normal ?_
 refine wq_seq ?_
 refine wq_tail 7 [some 3, some 4, some 5, some 6, some 7, some 8, some 9] [Pd.eq (.pointer (some ⟨p1, 0, none⟩)), Pd.eq (.int .i64 (X)), Pd.eq (.int .i64 (cl 64 (X))), Pd.eq (.pointer (some ⟨p1, 1, none⟩)), Pd.eq (.int .i64 (Y)), Pd.eq (.int .i64 (cl 64 (Y))), Pd.eq (.agg #[.int .i64 (cl 64 (X)), .int .i64 (cl 64 (Y))])] (by kernel_rfl) (by kernel_rfl) (by kernel_rfl) ?_ ?_
 ·refine stepsF_cons ?_ ?_
  ·refine StepF.one rfl fun F_ w_ hR hout hD => ?_
   exact (y_fieldR (n := 1) rfl ((hout 1 rfl (by decide)).trans s20) Tryd.underlying23 rfl (by kernel_rfl) (by decide) rfl ⟨rfl, Kept.refl _ _⟩)
  refine stepsF_cons ?_ ?_
  ·refine StepF.one rfl fun F_ w_ hR hout hD => ?_
   have g3 : F_ 3 = .pointer (some ⟨p1, 0, none⟩) := (hD.get 0 rfl rfl rfl)
   exact (y_ld_stc rfl g3 Tryd.underlying3 (B15.all hR id) rfl rfl ⟨rfl, Kept.refl _ _⟩)
  refine stepsF_cons ?_ ?_
  ·refine StepF.one rfl fun F_ w_ hR hout hD => ?_
   have g4 : F_ 4 = .int .i64 (X) := (hD.get 0 rfl rfl rfl)
   exact (y_cs rfl rfl rfl (fun _ _ => by kernel_rfl) (ev_func _) (vsC g4 vsN) (vt_clamped (X)  _   ) (fun e_ w_ h_ => ⟨_, h_.1, rfl, h_.2⟩))
  refine stepsF_cons ?_ ?_
  ·refine StepF.one rfl fun F_ w_ hR hout hD => ?_
   exact (y_fieldR (n := 1) rfl ((hout 1 rfl (by decide)).trans s20) Tryd.underlying23 rfl (by kernel_rfl) (by decide) rfl ⟨rfl, Kept.refl _ _⟩)
  refine stepsF_cons ?_ ?_
  ·refine StepF.one rfl fun F_ w_ hR hout hD => ?_
   have g6 : F_ 6 = .pointer (some ⟨p1, 1, none⟩) := (hD.get 0 rfl rfl rfl)
   exact (y_ld_stc rfl g6 Tryd.underlying3 (B15.all hR id) rfl rfl ⟨rfl, Kept.refl _ _⟩)
  refine stepsF_cons ?_ ?_
  ·refine StepF.one rfl fun F_ w_ hR hout hD => ?_
   have g7 : F_ 7 = .int .i64 (Y) := (hD.get 0 rfl rfl rfl)
   exact (y_cs rfl rfl rfl (fun _ _ => by kernel_rfl) (ev_func _) (vsC g7 vsN) (vt_clamped (Y)  _   ) (fun e_ w_ h_ => ⟨_, h_.1, rfl, h_.2⟩))
  refine stepsF_cons ?_ ?_
  ·refine StepF.one rfl fun F_ w_ hR hout hD => ?_
   have g5 : F_ 5 = .int .i64 (cl 64 (X)) := (hD.get 0 rfl rfl rfl)
   have g8 : F_ 8 = .int .i64 (cl 64 (Y)) := (hD.get 1 rfl rfl rfl)
   exact (y_buildL (l' := [(0, .int .i64 (cl 64 (X))), (1, .int .i64 (cl 64 (Y)))]) (cells := #[.int .i64 (cl 64 (X)), .int .i64 (cl 64 (Y))]) rfl (bpC g5 (bpC g8 bpN)) (by kernel_rfl) rfl ⟨rfl, Kept.refl _ _⟩)
  exact stepsF_nil
 intro v22 F23 w24 k25 G26 hF27
 have B30 := B11.all k25 id
 have K31 := K16.trans k25 (fun _ _ x => x.elim)
 have s32 := (hF27 10).trans s19
 have s33 := (hF27 2).trans s21
 have s34 : F23 9 = .agg #[.int .i64 (cl 64 (X)), .int .i64 (cl 64 (Y))] := (hF27 9).trans (G26 6 (by decide))
 clear G26 hF27
 refine wl_store_stc (us := [.int .i64 (cl 64 (X)), .int .i64 (cl 64 (Y))]) stcT_vector rfl rfl rfl s33 s34 B30 rfl (oneI rfl (oneI rfl oneN)) fun w35 B36 k37 => ?_
 have K39 := K31.trans k37 (Grew.ok (S := fun _ => False) gr13 noB_le)
 refine wl_nil fun F40 hF41 => ?_
 have s42 := (hF41 10).trans s32
 have s43 := (hF41 2).trans s33
 clear hF41
 refine then_normal ?_
 refine wq_ret ?_
 exact end_stc (vs := [.int .i64 (cl 64 (X)), .int .i64 (cl 64 (Y))]) stcT_vector s42 rfl rfl s43 B36 ⟨rfl, K39⟩
set_option maxHeartbeats 4000000 in
set_option maxRecDepth 100000 in
theorem vt_write (p : Nat) (bs : List Bool) (X Y A B : Int) (T_w : Nat → Prop) (w0 : World) (hm : bs.length + 200 < 1099511627776) (h_w : Wri w0 T_w p (bs)) :
  Calls Tryd.prog 35 #[.pointer (some ⟨p, 0, none⟩), .agg #[.int .i64 (X), .int .i64 (Y)], .agg #[.int .i64 (A), .int .i64 (B)]] w0 fun e w' => ∃ (T_w' : Nat → Prop), e = .returned (.tuple #[]) ∧ Kept (T_w) w0 w' ∧ (Wri w' T_w' p (bs ++ vecBits X Y A B) ∧ Grew w0 T_w T_w') := by
 refine calls_wq (args := [.pointer (some ⟨p, 0, none⟩), .agg #[.int .i64 (X), .int .i64 (Y)], .agg #[.int .i64 (A), .int .i64 (B)]]) 24 Tryd.func35 rfl rfl (Nat.le_of_ble_eq_true rfl) ?_
 have K0 := Kept.refl (T_w) w0
 have h1 := cl64 X
 have h2 := cl64 Y
 have h3 := cl64 A
 have h4 := cl64 B
 have h5 := signedBits_short (cl 64 X - cl 64 A)
 have g_w := Grew.refl w0 T_w
 refine wq_seq ?_
 refine wq_region ?_
 refine wl_box_stc (vs := [.int .i64 (X), .int .i64 (Y)]) rfl rfl rfl rfl fun p1 w2 B4 g5 k3 => ?_
 have gr6 : Grew w0 noB (onB p1) := Grew.new K0 g5
 have ap7 : Apart (onB p1) (T_w) := Apart.new g5 (h_w).live
 have B8 := h_w.all k3 Apart.none
 have K9 := K0.trans k3 (fun _ _ x => x.elim)
 refine wl_box_stc (vs := [.int .i64 (A), .int .i64 (B)]) rfl rfl rfl rfl fun p10 w11 B13 g14 k12 => ?_
 have gr15 : Grew w0 noB (onB p10) := Grew.new K9 g14
 have ap16 : Apart (onB p10) (T_w) := Apart.new g14 (B8).live
 have ap17 : Apart (onB p10) (onB p1) := Apart.new g14 (onB_live (B4).lt)
 have B18 := B8.all k12 Apart.none
 have B19 := B4.all k12 id
 have K20 := K9.trans k12 (fun _ _ x => x.elim)
 refine wl_nil fun F21 hF22 => ?_
 have s23 : F21 0 = .pointer (some ⟨p, 0, none⟩) := (hF22 0).trans rfl
 have s24 : F21 24 = undef := (hF22 24).trans rfl
 have s25 : F21 4 = .pointer (some ⟨p1, 0, none⟩) := (hF22 4).trans rfl
 have s26 : F21 5 = .pointer (some ⟨p10, 0, none⟩) := (hF22 5).trans rfl
 clear hF22
 refine then_normal ?_
 refine wq_seq ?_
 refine wq_tail 4 [some 6, some 7, some 8, some 9] [Pd.eq (.agg #[.int .i64 (X), .int .i64 (Y)]), Pd.eq (.agg #[.int .i64 (cl 64 (X)), .int .i64 (cl 64 (Y))]), Pd.eq (.agg #[.int .i64 (A), .int .i64 (B)]), Pd.eq (.agg #[.int .i64 (cl 64 (A)), .int .i64 (cl 64 (B))])] (by kernel_rfl) (by kernel_rfl) (by kernel_rfl) ?_ ?_
 ·refine stepsF_cons ?_ ?_
  ·refine StepF.one rfl fun F_ w_ hR hout hD => ?_
   exact (y_load_stc stcT_vector rfl ((hout 4 rfl (by decide)).trans s25) (B19.all hR id) ⟨rfl, Kept.refl _ _⟩)
  refine stepsF_cons ?_ ?_
  ·refine StepF.one rfl fun F_ w_ hR hout hD => ?_
   have g6 : F_ 6 = .agg #[.int .i64 (X), .int .i64 (Y)] := (hD.get 0 rfl rfl rfl)
   exact (y_cs rfl rfl rfl (fun _ _ => by kernel_rfl) (ev_func _) (vsC g6 vsN) (vt_near (X) (Y)  _   ) (fun e_ w_ h_ => ⟨_, h_.1, rfl, h_.2⟩))
  refine stepsF_cons ?_ ?_
  ·refine StepF.one rfl fun F_ w_ hR hout hD => ?_
   exact (y_load_stc stcT_vector rfl ((hout 5 rfl (by decide)).trans s26) (B13.all hR id) ⟨rfl, Kept.refl _ _⟩)
  refine stepsF_cons ?_ ?_
  ·refine StepF.one rfl fun F_ w_ hR hout hD => ?_
   have g8 : F_ 8 = .agg #[.int .i64 (A), .int .i64 (B)] := (hD.get 0 rfl rfl rfl)
   exact (y_cs rfl rfl rfl (fun _ _ => by kernel_rfl) (ev_func _) (vsC g8 vsN) (vt_near (A) (B)  _   ) (fun e_ w_ h_ => ⟨_, h_.1, rfl, h_.2⟩))
  exact stepsF_nil
 intro v27 F28 w29 k30 G31 hF32
 have B34 := B18.all k30 Apart.none
 have B35 := B19.all k30 id
 have B36 := B13.all k30 id
 have K37 := K20.trans k30 (fun _ _ x => x.elim)
 have s38 := (hF32 0).trans s23
 have s39 := (hF32 24).trans s24
 have s40 := (hF32 4).trans s25
 have s41 := (hF32 5).trans s26
 have s42 : F28 7 = .agg #[.int .i64 (cl 64 (X)), .int .i64 (cl 64 (Y))] := (hF32 7).trans (G31 1 (by decide))
 have s43 : F28 9 = .agg #[.int .i64 (cl 64 (A)), .int .i64 (cl 64 (B))] := (hF32 9).trans (G31 3 (by decide))
 clear G31 hF32
 refine wl_store_stc (us := [.int .i64 (cl 64 (X)), .int .i64 (cl 64 (Y))]) stcT_vector rfl rfl rfl s40 s42 B35 rfl (oneI rfl (oneI rfl oneN)) fun w44 B45 k46 => ?_
 have B47 := B34.all k46 (fun i h x => (((ap7).symm) i h x))
 have B48 := B36.all k46 (fun x => ((ap17) p10 rfl x))
 have K49 := K37.trans k46 (Grew.ok (S := T_w) gr6 noB_le)
 refine wl_store_stc (us := [.int .i64 (cl 64 (A)), .int .i64 (cl 64 (B))]) stcT_vector rfl rfl rfl s41 s43 B48 rfl (oneI rfl (oneI rfl oneN)) fun w50 B51 k52 => ?_
 have B53 := B47.all k52 (fun i h x => (((ap16).symm) i h x))
 have B54 := B45.all k52 (fun x => (((ap17).symm) p1 rfl x))
 have K55 := K49.trans k52 (Grew.ok (S := T_w) gr15 noB_le)
 refine wl_nil fun F56 hF57 => ?_
 have s58 := (hF57 0).trans s38
 have s59 := (hF57 24).trans s39
 have s60 := (hF57 4).trans s40
 have s61 := (hF57 5).trans s41
 clear hF57
 refine then_normal ?_
 refine wq_seq ?_
 refine wq_region ?_
 refine wl_v (.pointer (some ⟨p, 0, none⟩)) rfl rfl (y_mov rfl s58 ⟨rfl, rfl⟩) ?_
 refine wl_v (.pointer (some ⟨p1, 0, none⟩)) rfl rfl (y_fieldR (n := 1) rfl s60 Tryd.underlying23 rfl (by kernel_rfl) (by decide) rfl ⟨rfl, rfl⟩) ?_
 refine wl_v (.int .i64 (cl 64 (X))) rfl rfl (y_ld_stc rfl rfl Tryd.underlying3 B54 rfl rfl ⟨rfl, rfl⟩) ?_
 refine wl_v (.pointer (some ⟨p10, 0, none⟩)) rfl rfl (y_fieldR (n := 1) rfl s61 Tryd.underlying23 rfl (by kernel_rfl) (by decide) rfl ⟨rfl, rfl⟩) ?_
 refine wl_v (.int .i64 (cl 64 (A))) rfl rfl (y_ld_stc rfl rfl Tryd.underlying3 B51 rfl rfl ⟨rfl, rfl⟩) ?_
 refine wl_v (.int .i64 ((cl 64 (X)) - (cl 64 (A)))) rfl rfl (y_sub rfl rfl rfl (i64_i rfl (by omega)) ⟨rfl, rfl⟩) ?_
 refine wl_call (R := fun v_ w_ => ∃ (T64 : Nat → Prop), .tuple #[] = v_ ∧ Kept (T_w) w50 w_ ∧ (Wri w_ T64 p ((bs) ++ signedBits ((cl 64 (X)) - (cl 64 (A)))) ∧ Grew w50 (T_w) T64)) rfl rfl (y_cs rfl rfl rfl (fun _ _ => by kernel_rfl) (ev_func _) (vsC rfl (vsC rfl vsN)) (t_signed (p) (bs) ((cl 64 (X)) - (cl 64 (A))) (T_w) _ (by omega) B53 ) (fun e_ w_ h_ => by obtain ⟨T64_, he_, hr_⟩ := h_; exact ⟨_, he_, T64_, rfl, hr_⟩)) ?_
 rintro _ w62 ⟨T64, rfl, k63, ⟨B65, g66⟩⟩
 have B67 := B54.all k63 (fun x => ((ap7) p1 rfl x))
 have B68 := B51.all k63 (fun x => ((ap16) p10 rfl x))
 have K69 := K55.trans k63 (fun i hi x => ((Grew.ok (S := T_w) g_w (fun _ x => x)) i hi x))
 have gr70 := g_w.trans K55 g66
 refine wl_nil fun F73 hF74 => ?_
 have s75 := (hF74 0).trans s58
 have s76 := (hF74 24).trans s59
 have s77 := (hF74 4).trans s60
 have s78 := (hF74 5).trans s61
 clear hF74
 refine then_normal ?_
 refine wq_region ?_
 refine wl_v (.pointer (some ⟨p, 0, none⟩)) rfl rfl (y_mov rfl s75 ⟨rfl, rfl⟩) ?_
 refine wl_v (.pointer (some ⟨p1, 1, none⟩)) rfl rfl (y_fieldR (n := 1) rfl s77 Tryd.underlying23 rfl (by kernel_rfl) (by decide) rfl ⟨rfl, rfl⟩) ?_
 refine wl_v (.int .i64 (cl 64 (Y))) rfl rfl (y_ld_stc rfl rfl Tryd.underlying3 B67 rfl rfl ⟨rfl, rfl⟩) ?_
 refine wl_v (.pointer (some ⟨p10, 1, none⟩)) rfl rfl (y_fieldR (n := 1) rfl s78 Tryd.underlying23 rfl (by kernel_rfl) (by decide) rfl ⟨rfl, rfl⟩) ?_
 refine wl_v (.int .i64 (cl 64 (B))) rfl rfl (y_ld_stc rfl rfl Tryd.underlying3 B68 rfl rfl ⟨rfl, rfl⟩) ?_
 refine wl_v (.int .i64 ((cl 64 (Y)) - (cl 64 (B)))) rfl rfl (y_sub rfl rfl rfl (i64_i rfl (by omega)) ⟨rfl, rfl⟩) ?_
 refine wl_call (R := fun v_ w_ => ∃ (T81 : Nat → Prop), .tuple #[] = v_ ∧ Kept (T64) w62 w_ ∧ (Wri w_ T81 p (((bs) ++ signedBits ((cl 64 (X)) - (cl 64 (A)))) ++ signedBits ((cl 64 (Y)) - (cl 64 (B)))) ∧ Grew w62 (T64) T81)) rfl rfl (y_cs rfl rfl rfl (fun _ _ => by kernel_rfl) (ev_func _) (vsC rfl (vsC rfl vsN)) (t_signed (p) ((bs) ++ signedBits ((cl 64 (X)) - (cl 64 (A)))) ((cl 64 (Y)) - (cl 64 (B))) (T64) _ (by rw [List.length_append]; omega) B65 ) (fun e_ w_ h_ => by obtain ⟨T81_, he_, hr_⟩ := h_; exact ⟨_, he_, T81_, rfl, hr_⟩)) ?_
 rintro _ w79 ⟨T81, rfl, k80, ⟨B82, g83⟩⟩
 have K86 := K69.trans k80 (fun i hi x => ((Grew.ok (S := T_w) gr70 (fun _ x => x)) i hi x))
 have gr87 := gr70.trans K69 g83
 refine wl_nil fun F90 hF91 => ?_
 have s92 := (hF91 24).trans s76
 clear hF91
 exact end_none s92 rfl ⟨T81, rfl, K86, ⟨(by unfold vecBits; rw [← List.append_assoc]; exact B82), gr87⟩⟩
end Go.Proofs.YtdcbabgcbkdlhaaDoor
set_option maxRecDepth 100000
namespace Go.Proofs.YtdcbabgcbkdlhaaDoor
open Go.RowKit

/-- The readers' own blocks. -/
def tR (R : List (Nat × Option Nat)) : Nat → Prop := fun i => ∃ x ∈ R, i = x.1
/-- At q a reader; the other readers of the same bytes. -/
def Rdx (w : World) (T : Nat → Prop) (q : Nat) (l : List Nat) (st : Option Nat) (R : List (Nat × Option Nat)) : Prop :=
  Fair l ∧ ∃ g, (∀ i, T i ↔ (onB q i ∨ onB g i ∨ tR R i)) ∧ (q :: R.map (·.1)).Nodup ∧ RdIs w q g l st ∧ ∀ x ∈ R, RdIs w x.1 g l x.2
theorem Rdx.live {w : World} {T : Nat → Prop} {q : Nat} {l : List Nat} {st : Option Nat} {R : List (Nat × Option Nat)} (h : Rdx w T q l st R) : Live w T := by
  obtain ⟨_, g, hT, _, h1, h2⟩ := h
  intro i hi
  rcases (hT i).1 hi with e | e | ⟨x, hx, e⟩
  · cases e; exact h1.lt.1
  · cases e; exact h1.lt.2.1
  · subst e; exact (h2 x hx).lt.1
theorem Rdx.all {S : Nat → Prop} {w w' : World} {T : Nat → Prop} {q : Nat} {l : List Nat} {st : Option Nat} {R : List (Nat × Option Nat)} (h : Rdx w T q l st R) (k : Kept S w w') (ha : Apart T S) : Rdx w' T q l st R := by
  obtain ⟨hf, g, hT, hn, h1, h2⟩ := h
  have nq := ha q ((hT q).2 (.inl rfl))
  have ng := ha g ((hT g).2 (.inr (.inl rfl)))
  exact ⟨hf, g, hT, hn, h1.kept k nq ng, fun x hx => (h2 x hx).kept k (ha x.1 ((hT _).2 (.inr (.inr ⟨x, hx, rfl⟩)))) ng⟩
/-- The other readers alone. -/
def Rst (w : World) (T : Nat → Prop) (R : List (Nat × Option Nat)) (g : Nat) (l : List Nat) : Prop :=
  T = tR R ∧ (R.map (·.1)).Nodup ∧ ∀ x ∈ R, g ≠ x.1 ∧ ∃ (a : Nat) (b : Bool), okR l x.2 a b ∧ Stc w x.1 82 [.slice (some ⟨g, 0, none⟩) l.length l.length, .int .i64 (a : Int), .bool b]
theorem Rst.live {w : World} {T : Nat → Prop} {R : List (Nat × Option Nat)} {g : Nat} {l : List Nat} (h : Rst w T R g l) : Live w T := by
  obtain ⟨rfl, _, h⟩ := h
  rintro i ⟨x, hx, rfl⟩
  obtain ⟨_, a, b, _, hs⟩ := h x hx
  exact lt_of_heap hs
theorem Rst.all {S : Nat → Prop} {w w' : World} {T : Nat → Prop} {R : List (Nat × Option Nat)} {g : Nat} {l : List Nat} (h : Rst w T R g l) (k : Kept S w w') (ha : Apart T S) : Rst w' T R g l := by
  obtain ⟨rfl, hn, h⟩ := h
  refine ⟨rfl, hn, fun x hx => ?_⟩
  obtain ⟨hg, a, b, ho, hs⟩ := h x hx
  exact ⟨hg, a, b, ho, hs.all k (ha x.1 ⟨x, hx, rfl⟩)⟩
theorem rdx_open {w : World} {T : Nat → Prop} {q : Nat} {l : List Nat} {st : Option Nat} {R : List (Nat × Option Nat)} (h : Rdx w T q l st R) : ∃ (g a : Nat) (b : Bool), Fair l ∧ (∀ i, T i ↔ (onB q i ∨ onB g i ∨ tR R i)) ∧ okR l st a b ∧
    Stc w q 82 [.slice (some ⟨g, 0, none⟩) l.length l.length, .int .i64 (a : Int), .bool b] ∧ Rby w (onB g) g l ∧ Rst w (tR R) R g l ∧ Apart (onB q) (onB g) ∧ Apart (onB q) (tR R) ∧ Apart (onB g) (tR R) := by
  obtain ⟨hf, g, hT, hn, h1, h2⟩ := h
  obtain ⟨a, b, u1, u2, u3, u4⟩ := rdis_open h1
  refine ⟨g, a, b, hf, hT, u1, u2, u3, ⟨rfl, (List.nodup_cons.1 hn).2, fun x hx => ?_⟩, u4, ?_, ?_⟩
  · obtain ⟨c, d, v1, v2, v3, v4⟩ := rdis_open (h2 x hx)
    exact ⟨(h2 x hx).lt.2.2, c, d, v1, v2⟩
  · rintro i e ⟨x, hx, e2⟩
    cases e
    exact (List.nodup_cons.1 hn).1 (e2 ▸ List.mem_map.2 ⟨x, hx, rfl⟩)
  · rintro i e ⟨x, hx, e2⟩
    cases e
    exact (h2 x hx).lt.2.2 e2
theorem rst_is {w : World} {T : Nat → Prop} {R : List (Nat × Option Nat)} {g : Nat} {l : List Nat} (h : Rst w T R g l) (hg : Rby w (onB g) g l) : ∀ x ∈ R, RdIs w x.1 g l x.2 := fun x hx => by
  obtain ⟨_, _, h⟩ := h
  obtain ⟨hne, a, b, ho, hs⟩ := h x hx
  exact rdis_close ho hs hg (fun i e1 e2 => hne (e2.symm.trans e1))
theorem rdx_close {w : World} {q g : Nat} {l : List Nat} {st : Option Nat} {a : Nat} {b : Bool} {R : List (Nat × Option Nat)} {T1 : Nat → Prop} (hf : Fair l) (ho : okR l st a b) (h1 : Stc w q 82 [.slice (some ⟨g, 0, none⟩) l.length l.length, .int .i64 (a : Int), .bool b]) (h2 : Rby w (onB g) g l) (h3 : Rst w T1 R g l) (a1 : Apart (onB q) (onB g)) (a2 : Apart (onB q) T1) :
    Rdx w (fun i => onB q i ∨ onB g i ∨ T1 i) q l st R := by
  obtain ⟨rfl, hn, h4⟩ := h3
  refine ⟨hf, g, fun _ => Iff.rfl, List.nodup_cons.2 ⟨fun hm => ?_, hn⟩, rdis_close ho h1 h2 a1, rst_is ⟨rfl, hn, h4⟩ h2⟩
  obtain ⟨x, hx, e⟩ := List.mem_map.1 hm
  exact a2 q rfl ⟨x, hx, e.symm⟩
/-- A copy goes ahead. -/
theorem rdx_push {w : World} {q c g : Nat} {l : List Nat} {st : Option Nat} {a : Nat} {b : Bool} {R : List (Nat × Option Nat)} {T1 : Nat → Prop} (hf : Fair l) (ho : okR l st a b) (h1 : Stc w q 82 [.slice (some ⟨g, 0, none⟩) l.length l.length, .int .i64 (a : Int), .bool b]) (h2 : Stc w c 82 [.slice (some ⟨g, 0, none⟩) l.length l.length, .int .i64 (a : Int), .bool b]) (h3 : Rby w (onB g) g l) (h4 : Rst w T1 R g l)
    (a1 : Apart (onB q) (onB c)) (a2 : Apart (onB q) (onB g)) (a3 : Apart (onB q) T1) (a4 : Apart (onB c) (onB g)) (a5 : Apart (onB c) T1) : Rdx w (fun i => onB q i ∨ onB c i ∨ onB g i ∨ T1 i) c l st ((q, st) :: R) := by
  obtain ⟨rfl, hn, h5⟩ := h4
  refine ⟨hf, g, fun i => ?_, ?_, rdis_close ho h2 h3 a4, fun x hx => ?_⟩
  · have e : tR ((q, st) :: R) i ↔ (onB q i ∨ tR R i) := by
      unfold tR onB; simp
    rw [e]
    constructor
    · rintro (h | h | h | h)
      · exact .inr (.inr (.inl h))
      · exact .inl h
      · exact .inr (.inl h)
      · exact .inr (.inr (.inr h))
    · rintro (h | h | h | h)
      · exact .inr (.inl h)
      · exact .inr (.inr (.inl h))
      · exact .inl h
      · exact .inr (.inr (.inr h))
  · refine List.nodup_cons.2 ⟨fun hm => ?_, List.nodup_cons.2 ⟨fun hm => ?_, hn⟩⟩
    · rcases List.mem_cons.1 hm with e | hm
      · exact a1 q rfl e.symm
      · obtain ⟨x, hx, e⟩ := List.mem_map.1 hm; exact a5 c rfl ⟨x, hx, e.symm⟩
    · obtain ⟨x, hx, e⟩ := List.mem_map.1 hm; exact a3 q rfl ⟨x, hx, e.symm⟩
  · rcases List.mem_cons.1 hx with rfl | hx
    · exact rdis_close ho h1 h3 a2
    · exact rst_is ⟨rfl, hn, h5⟩ h3 x hx
theorem rst_nil (w : World) (g : Nat) (l : List Nat) : Rst w (tR []) [] g l := ⟨rfl, List.nodup_nil, fun x hx => by cases hx⟩
theorem rdx_push0 {w : World} {q c g : Nat} {l : List Nat} {st : Option Nat} {a : Nat} {b : Bool} (hf : Fair l) (ho : okR l st a b) (h1 : Stc w q 82 [.slice (some ⟨g, 0, none⟩) l.length l.length, .int .i64 (a : Int), .bool b]) (h2 : Stc w c 82 [.slice (some ⟨g, 0, none⟩) l.length l.length, .int .i64 (a : Int), .bool b]) (h3 : Rby w (onB g) g l)
    (a1 : Apart (onB q) (onB c)) (a2 : Apart (onB q) (onB g)) (a4 : Apart (onB c) (onB g)) : Rdx w (fun i => onB q i ∨ onB c i ∨ onB g i) c l st [(q, st)] := by
  have no : ∀ {T : Nat → Prop}, Apart T (tR []) := fun i _ h => by obtain ⟨x, hx, _⟩ := h; cases hx
  obtain ⟨_, g', hT, hn, h5, h6⟩ := rdx_push hf ho h1 h2 h3 (rst_nil w g l) a1 a2 no a4 no
  refine ⟨hf, g', fun i => ?_, hn, h5, h6⟩
  have e : ¬ tR [] i := fun h => by obtain ⟨x, hx, _⟩ := h; cases hx
  rw [← hT i]
  constructor
  · rintro (h | h | h)
    · exact .inl h
    · exact .inr (.inl h)
    · exact .inr (.inr (.inl h))
  · rintro (h | h | h | h)
    · exact .inl h
    · exact .inr (.inl h)
    · exact .inr (.inr h)
    · exact absurd h e
/-- The copy, and the one that it is a copy of. -/
theorem rdx_pop {w : World} {T : Nat → Prop} {q c : Nat} {l : List Nat} {st1 st : Option Nat} {R : List (Nat × Option Nat)} (h : Rdx w T c l st ((q, st1) :: R)) : ∃ (g a1 : Nat) (b1 : Bool) (a2 : Nat) (b2 : Bool), Fair l ∧ (∀ i, T i ↔ (onB q i ∨ onB c i ∨ onB g i ∨ tR R i)) ∧ okR l st1 a1 b1 ∧ okR l st a2 b2 ∧
    Stc w q 82 [.slice (some ⟨g, 0, none⟩) l.length l.length, .int .i64 (a1 : Int), .bool b1] ∧ Stc w c 82 [.slice (some ⟨g, 0, none⟩) l.length l.length, .int .i64 (a2 : Int), .bool b2] ∧ Rby w (onB g) g l ∧ Rst w (tR R) R g l ∧
    Apart (onB q) (onB c) ∧ Apart (onB q) (onB g) ∧ Apart (onB q) (tR R) ∧ Apart (onB c) (onB g) ∧ Apart (onB c) (tR R) ∧ Apart (onB g) (tR R) := by
  obtain ⟨hf, g, hT, hn, h1, h2⟩ := h
  have e : ∀ i, tR ((q, st1) :: R) i ↔ (onB q i ∨ tR R i) := fun i => by unfold tR onB; simp
  obtain ⟨n1, n2⟩ := List.nodup_cons.1 hn
  obtain ⟨n3, n4⟩ := List.nodup_cons.1 n2
  obtain ⟨a1, b1, u1, u2, u3, u4⟩ := rdis_open (h2 (q, st1) (List.mem_cons_self ..))
  obtain ⟨a2, b2, v1, v2, v3, v4⟩ := rdis_open h1
  have hR : ∀ x ∈ R, RdIs w x.1 g l x.2 := fun x hx => h2 x (List.mem_cons_of_mem _ hx)
  refine ⟨g, a1, b1, a2, b2, hf, fun i => ?_, u1, v1, u2, v2, u3, ⟨rfl, n4, fun x hx => ?_⟩, ?_, u4, ?_, v4, ?_, ?_⟩
  · rw [hT i, e i]
    constructor
    · rintro (h | h | h | h)
      · exact .inr (.inl h)
      · exact .inr (.inr (.inl h))
      · exact .inl h
      · exact .inr (.inr (.inr h))
    · rintro (h | h | h | h)
      · exact .inr (.inr (.inl h))
      · exact .inl h
      · exact .inr (.inl h)
      · exact .inr (.inr (.inr h))
  · obtain ⟨c1, d1, w1, w2, _, _⟩ := rdis_open (hR x hx)
    exact ⟨(hR x hx).lt.2.2, c1, d1, w1, w2⟩
  · intro i e1 e2
    exact n1 (List.mem_cons.2 (.inl (e2.symm.trans e1)))
  · rintro i e1 ⟨x, hx, e2⟩
    cases e1
    exact n3 (List.mem_map.2 ⟨x, hx, e2.symm⟩)
  · rintro i e1 ⟨x, hx, e2⟩
    cases e1
    exact n1 (List.mem_cons.2 (.inr (List.mem_map.2 ⟨x, hx, e2.symm⟩)))
  · rintro i e1 ⟨x, hx, e2⟩
    cases e1
    exact (hR x hx).lt.2.2 e2
theorem rdx_pop0 {w : World} {T : Nat → Prop} {q c : Nat} {l : List Nat} {st1 st : Option Nat} (h : Rdx w T c l st [(q, st1)]) : ∃ (g a1 : Nat) (b1 : Bool) (a2 : Nat) (b2 : Bool), Fair l ∧ (∀ i, T i ↔ (onB q i ∨ onB c i ∨ onB g i)) ∧ okR l st1 a1 b1 ∧ okR l st a2 b2 ∧
    Stc w q 82 [.slice (some ⟨g, 0, none⟩) l.length l.length, .int .i64 (a1 : Int), .bool b1] ∧ Stc w c 82 [.slice (some ⟨g, 0, none⟩) l.length l.length, .int .i64 (a2 : Int), .bool b2] ∧ Rby w (onB g) g l ∧
    Apart (onB q) (onB c) ∧ Apart (onB q) (onB g) ∧ Apart (onB c) (onB g) := by
  obtain ⟨g, a1, b1, a2, b2, hf, hT, u1, v1, u2, v2, u3, _, p1, p2, _, p4, _, _⟩ := rdx_pop h
  refine ⟨g, a1, b1, a2, b2, hf, fun i => ?_, u1, v1, u2, v2, u3, p1, p2, p4⟩
  have e : ¬ tR [] i := fun h => by obtain ⟨x, hx, _⟩ := h; cases hx
  rw [hT i]
  constructor
  · rintro (h | h | h | h)
    · exact .inl h
    · exact .inr (.inl h)
    · exact .inr (.inr h)
    · exact absurd h e
  · rintro (h | h | h)
    · exact .inl h
    · exact .inr (.inl h)
    · exact .inr (.inr (.inl h))
theorem rdx_thing {w w' : World} {T : Nat → Prop} {q g : Nat} {l : List Nat} {st : Option Nat} {R : List (Nat × Option Nat)} {r : Int × Option Nat} {e : Ending} (hf : Fair l) (hT : ∀ i, T i ↔ (onB q i ∨ onB g i ∨ tR R i)) (hn : (q :: R.map (·.1)).Nodup) (h1 : RdIs w q g l st) (h2 : ∀ x ∈ R, RdIs w x.1 g l x.2) (hd : RdDone w q g l r e w') :
    ∃ (T_r' : Nat → Prop), e = .returned (.int .i64 r.1) ∧ Kept T w w' ∧ (Rdx w' T_r' q l r.2 R ∧ Grew w T T_r') := by
  obtain ⟨k1, k2, k3⟩ := hd
  refine ⟨T, k1, k3.mono (fun _ _ z => (hT _).2 (.inl z)), ⟨hf, g, hT, hn, k2, fun x hx => (h2 x hx).kept k3 (fun z => ?_) h1.lt.2.2⟩, Grew.refl _ _⟩
  exact (List.nodup_cons.1 hn).1 (z ▸ List.mem_map.2 ⟨x, hx, rfl⟩)
theorem t_rsignedX (q : Nat) (l : List Nat) (st : Option Nat) (R : List (Nat × Option Nat)) (m : Int) (T_r : Nat → Prop) (w0 : World) (h_r : Rdx w0 T_r q l st R) :
    Calls Tryd.prog 85 #[.pointer (some ⟨q, 0, none⟩), .int .i64 m] w0 fun e w' => ∃ (T_r' : Nat → Prop), e = .returned (.int .i64 (rdStep (signedRd l m) st).1) ∧ Kept T_r w0 w' ∧ (Rdx w' T_r' q l (rdStep (signedRd l m) st).2 R ∧ Grew w0 T_r T_r') := by
  obtain ⟨hf, g, hT, hn, h1, h2⟩ := h_r
  exact (rsigned_any q g l st m w0 hf h1).mono fun _ _ hd => rdx_thing hf hT hn h1 h2 hd
theorem t_rwholeX (q : Nat) (l : List Nat) (st : Option Nat) (R : List (Nat × Option Nat)) (m : Int) (T_r : Nat → Prop) (w0 : World) (h_r : Rdx w0 T_r q l st R) :
    Calls Tryd.prog 40 #[.pointer (some ⟨q, 0, none⟩), .int .i64 m] w0 fun e w' => ∃ (T_r' : Nat → Prop), e = .returned (.int .i64 (rdStep (wholeRd l m) st).1) ∧ Kept T_r w0 w' ∧ (Rdx w' T_r' q l (rdStep (wholeRd l m) st).2 R ∧ Grew w0 T_r T_r') := by
  obtain ⟨hf, g, hT, hn, h1, h2⟩ := h_r
  exact (rwhole_any q g l st m w0 hf h1).mono fun _ _ hd => rdx_thing hf hT hn h1 h2 hd
theorem t_lostX (q : Nat) (l : List Nat) (st : Option Nat) (R : List (Nat × Option Nat)) (T_r : Nat → Prop) (w0 : World) (h_r : Rdx w0 T_r q l st R) :
    Calls Tryd.prog 41 #[.pointer (some ⟨q, 0, none⟩)] w0 fun e w' => e = .returned (.bool (st.isNone)) ∧ Kept (fun _ => False) w0 w' := by
  obtain ⟨hf, g, hT, hn, h1, h2⟩ := h_r
  exact (lost_any q g l st w0 h1).mono fun _ _ ⟨e, hw⟩ => by subst hw; exact ⟨e, Kept.refl _ _⟩

set_option maxHeartbeats 4000000 in
set_option maxRecDepth 100000 in
theorem vt_readX (p : Nat) (l : List Nat) (st : Option Nat) (R : List (Nat × Option Nat)) (A B : Int) (T_r : Nat → Prop) (w0 : World) (h_r : Rdx w0 T_r p (l) (st) (R)) :
  Calls Tryd.prog 43 #[.pointer (some ⟨p, 0, none⟩), .agg #[.int .i64 (A), .int .i64 (B)]] w0 fun e w' => ∃ (T_r' : Nat → Prop), e = .returned (.tuple #[.agg #[.int .i64 (vrX l A B st), .int .i64 (vrY l A B st)], .int .i64 (vrE l A B st)]) ∧ Kept (T_r) w0 w' ∧ (Rdx w' T_r' p (l) (vrT l A B st) (R) ∧ Grew w0 T_r T_r') := by
 refine calls_wq (args := [.pointer (some ⟨p, 0, none⟩), .agg #[.int .i64 (A), .int .i64 (B)]]) 37 Tryd.func43 rfl rfl (Nat.le_of_ble_eq_true rfl) ?_
 have K0 := Kept.refl (T_r) w0
 have h1 := cl64 A
 have h2 := cl64 B
 have h3 := rdX_le l st
 have h4 := rdX_le l (rdX l st).2
 have g_r := Grew.refl w0 T_r
 refine wq_seq ?_
 refine wq_region ?_
 refine wl_box_stc (vs := [.int .i64 (A), .int .i64 (B)]) rfl rfl rfl rfl fun p1 w2 B4 g5 k3 => ?_
 have B8 := h_r.all k3 Apart.none
 have K9 := K0.trans k3 (fun _ _ x => x.elim)
 refine wl_alloc_stc (n := 2) (vs := [.int .i64 (0), .int .i64 (0)]) rfl rfl rfl (by kernel_rfl) fun p10 w11 B13 g14 k12 => ?_
 have gr15 : Grew w0 noB (onB p10) := Grew.new K9 g14
 have ap16 : Apart (onB p10) (T_r) := Apart.new g14 (B8).live
 have B18 := B8.all k12 Apart.none
 have B19 := B4.all k12 id
 have K20 := K9.trans k12 (fun _ _ x => x.elim)
 refine wl_v (.int .i64 (0)) rfl rfl (y_asg rfl rfl ⟨rfl, rfl⟩) ?_
 refine wl_nil fun F21 hF22 => ?_
 have s23 : F21 0 = .pointer (some ⟨p, 0, none⟩) := (hF22 0).trans rfl
 have s24 : F21 37 = undef := (hF22 37).trans rfl
 have s25 : F21 3 = .pointer (some ⟨p1, 0, none⟩) := (hF22 3).trans rfl
 have s26 : F21 4 = .pointer (some ⟨p10, 0, none⟩) := (hF22 4).trans rfl
 clear hF22
 refine then_normal ?_
 refine wq_seq ?_
 refine wq_seq ?_
 refine wq_region ?_
 refine wl_v (.pointer (some ⟨p, 0, none⟩)) rfl rfl (y_mov rfl s23 ⟨rfl, rfl⟩) ?_
 refine wl_v (.bool false) rfl rfl (y_noNil rfl rfl rfl Tryd.underlying39 ⟨rfl, rfl⟩) ?_
 refine wl_nil fun F27 hF28 => ?_
 have s29 := (hF28 0).trans s23
 have s30 := (hF28 37).trans s24
 have s31 := (hF28 3).trans s25
 have s32 := (hF28 4).trans s26
 have s33 : F27 9 = .bool false := (hF28 9).trans rfl
 clear hF28
 refine then_normal ?_
 refine wq_cond (t := false) s33 (fun e => by cases e) (fun _ => ?_)
 refine wq_skip ?_
 refine then_normal ?_
 refine wq_seq ?_
 obtain ⟨g, a, b, hf, hT, hok, hp, hg, hr, hap, hap2, hap3⟩ := rdx_open B18
 have gr34 : Grew w0 (T_r) (onB p) := fun i h => g_r i ((fun i h => (hT i).2 (Or.inl h)) i h)
 have ap36 : Apart (onB p) (onB p10) := fun i h => (ap16).symm i ((fun i h => (hT i).2 (Or.inl h)) i h)
 have gr37 : Grew w0 (T_r) (onB g) := fun i h => g_r i ((fun i h => (hT i).2 (Or.inr (Or.inl h))) i h)
 have ap39 : Apart (onB g) (onB p10) := fun i h => (ap16).symm i ((fun i h => (hT i).2 (Or.inr (Or.inl h))) i h)
 have gr40 : Grew w0 (T_r) (tR R) := fun i h => g_r i ((fun i h => (hT i).2 (Or.inr (Or.inr h))) i h)
 have ap42 : Apart (tR R) (onB p10) := fun i h => (ap16).symm i ((fun i h => (hT i).2 (Or.inr (Or.inr h))) i h)
 have ap43 : Apart (onB p) (onB g) := hap
 have ap44 : Apart (onB p) (tR R) := hap2
 refine wq_region ?_
 refine wl_v (.pointer (some ⟨p, 0, none⟩)) rfl rfl (y_mov rfl s29 ⟨rfl, rfl⟩) ?_
 refine wl_v (.pointer (some ⟨p, 0, none⟩)) rfl rfl (y_nilc rfl rfl ⟨rfl, rfl⟩) ?_
 refine wl_v (.agg #[.slice (some ⟨g, 0, none⟩) l.length l.length, .int .i64 (((a : Nat) : Int)), .bool (b)]) rfl rfl (y_load_stc stcT_reader rfl rfl hp ⟨rfl, rfl⟩) ?_
 refine wl_alloc_stc (n := 3) (vs := [.slice none 0 0, .int .i64 (((0 : Nat) : Int)), .bool false]) rfl rfl rfl (by kernel_rfl) fun p46 w47 B49 g50 k48 => ?_
 have gr51 : Grew w0 noB (onB p46) := Grew.new K20 g50
 have ap52 : Apart (onB p46) (onB p1) := Apart.new g50 (onB_live (B19).lt)
 have ap53 : Apart (onB p46) (onB p10) := Apart.new g50 (onB_live (B13).lt)
 have ap54 : Apart (onB p46) (onB p) := Apart.new g50 (onB_live (hp).lt)
 have ap55 : Apart (onB p46) (onB g) := Apart.new g50 (hg).live
 have ap56 : Apart (onB p46) (tR R) := Apart.new g50 (hr).live
 have B57 := B19.all k48 id
 have B58 := B13.all k48 id
 have B59 := hp.all k48 id
 have B60 := hg.all k48 Apart.none
 have B61 := hr.all k48 Apart.none
 have K62 := K20.trans k48 (fun _ _ x => x.elim)
 refine wl_store_stc (us := [.slice (some ⟨g, 0, none⟩) l.length l.length, .int .i64 (((a : Nat) : Int)), .bool (b)]) stcT_reader rfl rfl rfl rfl rfl B49 rfl (oneI rfl (oneI rfl (oneI rfl oneN))) fun w63 B64 k65 => ?_
 have B66 := B57.all k65 (fun x => (((ap52).symm) p1 rfl x))
 have B67 := B58.all k65 (fun x => (((ap53).symm) p10 rfl x))
 have B68 := B59.all k65 (fun x => (((ap54).symm) p rfl x))
 have B69 := B60.all k65 (fun i h x => (((ap55).symm) i h x))
 have B70 := B61.all k65 (fun i h x => (((ap56).symm) i h x))
 have K71 := K62.trans k65 (Grew.ok (S := T_r) gr51 noB_le)
 refine wl_nil fun F72 hF73 => ?_
 have s74 := (hF73 0).trans s29
 have s75 := (hF73 37).trans s30
 have s76 := (hF73 3).trans s31
 have s77 := (hF73 4).trans s32
 have s78 : F72 6 = .pointer (some ⟨p46, 0, none⟩) := (hF73 6).trans rfl
 clear hF73
 refine then_normal ?_
 refine wq_seq ?_
 have B79 : Rdx w63 (fun i => (onB p) i ∨ ((onB p46) i ∨ ((onB g) i ∨ ((tR R) i)))) p46 (l) (st) (List.cons (p, st) R) := rdx_push hf hok B68 B64 B69 B70 (ap54).symm ap43 ap44 ap55 ap56
 have gr80 : Grew w0 (T_r) (fun i => (onB p) i ∨ ((onB p46) i ∨ ((onB g) i ∨ ((tR R) i)))) := fun i h => h.elim (fun y => gr34 i y) (fun y => y.elim (fun y => (Grew.weak gr51 (fun _ z => z.elim)) i y) (fun y => y.elim (fun y => gr37 i y) (fun y => gr40 i y)))
 have ap82 : Apart (fun i => (onB p) i ∨ ((onB p46) i ∨ ((onB g) i ∨ ((tR R) i)))) (onB p10) := fun i h => h.elim (fun y => (ap36) i y) (fun y => y.elim (fun y => (ap53) i y) (fun y => y.elim (fun y => (ap39) i y) (fun y => (ap42) i y)))
 refine wq_region ?_
 refine wl_v (.agg #[.int .i64 (A), .int .i64 (B)]) rfl rfl (y_load_stc stcT_vector rfl s76 B66 ⟨rfl, rfl⟩) ?_
 refine wl_call (R := fun v_ w_ => v_ = .agg #[.int .i64 (cl 64 (A)), .int .i64 (cl 64 (B))] ∧ Kept (fun _ => False) w63 w_) rfl rfl (y_cs rfl rfl rfl (fun _ _ => by kernel_rfl) (ev_func _) (vsC rfl vsN) (vt_near (A) (B)  _   ) (fun e_ w_ h_ => ⟨_, h_.1, rfl, h_.2⟩)) ?_
 rintro _ w83 ⟨rfl, k84⟩
 have B86 := B67.all k84 id
 have B87 := B79.all k84 Apart.none
 have K88 := K71.trans k84 (fun _ _ x => x.elim)
 refine wl_alloc_stc (n := 2) (vs := [.int .i64 (0), .int .i64 (0)]) rfl rfl rfl (by kernel_rfl) fun p89 w90 B92 g93 k91 => ?_
 have gr94 : Grew w0 noB (onB p89) := Grew.new K88 g93
 have ap96 : Apart (onB p89) (onB p10) := Apart.new g93 (onB_live (B86).lt)
 have ap97 : Apart (onB p89) (fun i => (onB p) i ∨ ((onB p46) i ∨ ((onB g) i ∨ ((tR R) i)))) := Apart.new g93 (B87).live
 have B99 := B86.all k91 id
 have B100 := B87.all k91 Apart.none
 have K101 := K88.trans k91 (fun _ _ x => x.elim)
 refine wl_store_stc (us := [.int .i64 (cl 64 (A)), .int .i64 (cl 64 (B))]) stcT_vector rfl rfl rfl rfl rfl B92 rfl (oneI rfl (oneI rfl oneN)) fun w102 B103 k104 => ?_
 have B106 := B99.all k104 (fun x => (((ap96).symm) p10 rfl x))
 have B107 := B100.all k104 (fun i h x => (((ap97).symm) i h x))
 have K108 := K101.trans k104 (Grew.ok (S := T_r) gr94 noB_le)
 refine wl_nil fun F109 hF110 => ?_
 have s111 := (hF110 0).trans s74
 have s112 := (hF110 37).trans s75
 have s113 := (hF110 4).trans s77
 have s114 := (hF110 6).trans s78
 have s115 : F109 7 = .pointer (some ⟨p89, 0, none⟩) := (hF110 7).trans rfl
 clear hF110
 refine then_normal ?_
 refine wq_seq ?_
 refine wq_turns (S := fun i => (fun i => (onB p) i ∨ ((onB p46) i ∨ ((onB g) i ∨ ((tR R) i)))) i ∨ ((onB p89) i)) [(5, 1)] [some 16, some 17, some 18, some 19, some 20, none] [Pt.eq (.pointer (some ⟨p89, 0, none⟩)), Pt.eq (.int .i64 (cl 64 (A))), Pt.thg ⟨fun w_ => Rdx w_ (fun i => (onB p) i ∨ ((onB p46) i ∨ ((onB g) i ∨ ((tR R) i)))) p46 (l) (st) (List.cons (p, st) R), fun i => (onB p) i ∨ ((onB p46) i ∨ ((onB g) i ∨ ((tR R) i))), fun T_ w_ => Rdx w_ T_ p46 ((l)) ((rdStep (signedRd (l) (128)) (st)).2) ((List.cons (p, st) R)), fun _ _ _ h_ k_ ha_ => h_.all k_ ha_, fun _ _ _ _ h_ k_ ha_ => h_.all k_ ha_, fun _ h_ => h_.live, fun _ _ h_ => h_.live⟩ (.int .i64 ((rdX l st).1)), Pt.eq (.int .i64 ((rdX l st).1 + cl 64 A)), Pt.eq (.pointer (some ⟨p89, 0, none⟩)), Pt.thg (stcThg p89 23 [.int .i64 (cl 64 (A)), .int .i64 (cl 64 (B))] [.int .i64 ((rdX l st).1 + cl 64 A), .int .i64 (cl 64 (B))]) undef] (by kernel_rfl) (by kernel_rfl) (by kernel_rfl) rfl (OldsT.old ⟨⟨fun _ x_ => Or.inl x_, B107, ⟨(ap97).symm, trivial⟩⟩, ⟨⟨fun _ x_ => Or.inr x_, B103, trivial⟩, trivial⟩⟩) ?_ ?_
 ·refine stepsFT_cons ?_ ?_
  ·refine StepFT.one rfl fun F_ w_ hR hout hD => ?_
   exact (y_fieldR (n := 1) rfl ((hout 7 rfl (by decide)).trans s115) Tryd.underlying23 rfl (by kernel_rfl) (by decide) rfl ⟨rfl, Kept.refl _ _⟩)
  refine stepsFT_cons ?_ ?_
  ·refine StepFT.oneA rfl fun F_ w_ hR hout hD hA_ => ?_
   have g16 : F_ 16 = .pointer (some ⟨p89, 0, none⟩) := (hD.get 0 rfl rfl rfl).1
   have hA5_ : Stc w_ p89 23 [.int .i64 (cl 64 (A)), .int .i64 (cl 64 (B))] := hA_ 5 _ _ (by decide) rfl
   exact (y_ld_stc rfl g16 Tryd.underlying3 hA5_ rfl rfl ⟨rfl, Kept.refl _ _⟩)
  refine stepsFT_cons ?_ ?_
  ·refine StepFT.turn rfl rfl fun F_ w_ hR hout hD hA_ => ?_
   exact (y_cs rfl rfl rfl (fun _ _ => by kernel_rfl) (ev_func _) (vsC ((hout 6 rfl (by decide)).trans s114) (vsC rfl vsN)) (t_rsignedX (p46) (l) (st) (List.cons (p, st) R) (128) (fun i => (onB p) i ∨ ((onB p46) i ∨ ((onB g) i ∨ ((tR R) i)))) _  hA_ ) (fun e_ w_ h_ => by obtain ⟨_, he_, k_, hb_, hg_⟩ := h_; exact ⟨_, he_, rfl, k_, _, hb_, hg_⟩))
  refine stepsFT_cons ?_ ?_
  ·refine StepFT.one rfl fun F_ w_ hR hout hD => ?_
   have g17 : F_ 17 = .int .i64 (cl 64 (A)) := (hD.get 0 rfl rfl rfl).1
   have g18 : F_ 18 = .int .i64 ((rdX l st).1) := (hD.get 1 rfl rfl rfl).1
   exact (y_add rfl g17 g18 ((by rw [Int.add_comm, IntKind.wrap_i64]; omega)) ⟨rfl, Kept.refl _ _⟩)
  refine stepsFT_cons ?_ ?_
  ·refine StepFT.one rfl fun F_ w_ hR hout hD => ?_
   exact (y_fieldR (n := 1) rfl ((hout 7 rfl (by decide)).trans s115) Tryd.underlying23 rfl (by kernel_rfl) (by decide) rfl ⟨rfl, Kept.refl _ _⟩)
  refine stepsFT_cons ?_ ?_
  ·refine StepFT.turn rfl rfl fun F_ w_ hR hout hD hA_ => ?_
   have g20 : F_ 20 = .pointer (some ⟨p89, 0, none⟩) := (hD.get 0 rfl rfl rfl).1
   have g19 : F_ 19 = .int .i64 ((rdX l st).1 + cl 64 A) := (hD.get 1 rfl rfl rfl).1
   exact y_setStc rfl g20 g19 hA_ rfl rfl (by kernel_rfl) fun w2_ b_ k_ => ⟨rfl, k_, _, ⟨rfl, b_⟩, Grew.refl _ _⟩
  exact stepsFT_nil
 intro v116 Tf123 F117 w118 k119 G120 Gt124 Ga125 hF121
 have B127 := B106.all k119 (fun x => (x.elim (fun y => (((ap82).symm) p10 rfl y)) (fun y => (((ap96).symm) p10 rfl y))))
 have K128 := K108.trans k119 (fun i hi x => (x.elim (fun y => ((Grew.ok (S := T_r) gr80 (fun _ x => x)) i hi y)) (fun y => ((Grew.ok (S := T_r) gr94 noB_le) i hi y))))
 obtain ⟨T129, e130⟩ : ∃ T_, T_ = Tf123 2 := ⟨_, rfl⟩
 have B131 : Rdx w118 (T129) p46 ((l)) ((rdStep (signedRd (l) (128)) (st)).2) ((List.cons (p, st) R)) := by rw [e130]; exact (Gt124 2 _ _ rfl).1
 have g132 : Grew w102 (fun i => (onB p) i ∨ ((onB p46) i ∨ ((onB g) i ∨ ((tR R) i)))) T129 := by rw [e130]; exact (Gt124 2 _ _ rfl).2
 have gr133 := gr80.trans K108 g132
 have ap135 : Apart T129 (onB p10) := (ap82).grew g132 (onB_live (B106).lt)
 have e136 : onB p89 = Tf123 5 := ((Gt124 5 _ _ rfl).1.1).symm
 have B137 : Stc w118 p89 23 [.int .i64 ((rdX l st).1 + cl 64 A), .int .i64 (cl 64 (B))] := (Gt124 5 _ _ rfl).1.2
 have ap138 : Apart T129 (onB p89) := by rw [e130, e136]; exact Ga125 2 5 _ _ _ _ (by decide) rfl rfl
 clear Gt124 Ga125
 have s139 := (hF121 0).trans s111
 have s140 := (hF121 37).trans s112
 have s141 := (hF121 4).trans s113
 have s142 := (hF121 6).trans s114
 have s143 := (hF121 7).trans s115
 clear G120 hF121
 refine then_normal ?_
 refine wq_seq ?_
 refine wq_turns (S := fun i => (T129) i ∨ ((onB p89) i)) [(5, 1)] [some 21, some 22, some 23, some 24, some 25, none] [Pt.eq (.pointer (some ⟨p89, 1, none⟩)), Pt.eq (.int .i64 (cl 64 (B))), Pt.thg ⟨fun w_ => Rdx w_ (T129) p46 ((l)) ((rdStep (signedRd (l) (128)) (st)).2) ((List.cons (p, st) R)), T129, fun T_ w_ => Rdx w_ T_ p46 (((l))) ((rdStep (signedRd ((l)) (128)) ((rdStep (signedRd (l) (128)) (st)).2)).2) (((List.cons (p, st) R))), fun _ _ _ h_ k_ ha_ => h_.all k_ ha_, fun _ _ _ _ h_ k_ ha_ => h_.all k_ ha_, fun _ h_ => h_.live, fun _ _ h_ => h_.live⟩ (.int .i64 ((rdX l (rdX l st).2).1)), Pt.eq (.int .i64 ((rdX l (rdX l st).2).1 + cl 64 B)), Pt.eq (.pointer (some ⟨p89, 1, none⟩)), Pt.thg (stcThg p89 23 [.int .i64 ((rdX l st).1 + cl 64 A), .int .i64 (cl 64 (B))] [.int .i64 ((rdX l st).1 + cl 64 A), .int .i64 ((rdX l (rdX l st).2).1 + cl 64 B)]) undef] (by kernel_rfl) (by kernel_rfl) (by kernel_rfl) rfl (OldsT.old ⟨⟨fun _ x_ => Or.inl x_, B131, ⟨ap138, trivial⟩⟩, ⟨⟨fun _ x_ => Or.inr x_, B137, trivial⟩, trivial⟩⟩) ?_ ?_
 ·refine stepsFT_cons ?_ ?_
  ·refine StepFT.one rfl fun F_ w_ hR hout hD => ?_
   exact (y_fieldR (n := 1) rfl ((hout 7 rfl (by decide)).trans s143) Tryd.underlying23 rfl (by kernel_rfl) (by decide) rfl ⟨rfl, Kept.refl _ _⟩)
  refine stepsFT_cons ?_ ?_
  ·refine StepFT.oneA rfl fun F_ w_ hR hout hD hA_ => ?_
   have g21 : F_ 21 = .pointer (some ⟨p89, 1, none⟩) := (hD.get 0 rfl rfl rfl).1
   have hA5_ : Stc w_ p89 23 [.int .i64 ((rdX l st).1 + cl 64 A), .int .i64 (cl 64 (B))] := hA_ 5 _ _ (by decide) rfl
   exact (y_ld_stc rfl g21 Tryd.underlying3 hA5_ rfl rfl ⟨rfl, Kept.refl _ _⟩)
  refine stepsFT_cons ?_ ?_
  ·refine StepFT.turn rfl rfl fun F_ w_ hR hout hD hA_ => ?_
   exact (y_cs rfl rfl rfl (fun _ _ => by kernel_rfl) (ev_func _) (vsC ((hout 6 rfl (by decide)).trans s142) (vsC rfl vsN)) (t_rsignedX (p46) ((l)) ((rdStep (signedRd (l) (128)) (st)).2) ((List.cons (p, st) R)) (128) (T129) _  hA_ ) (fun e_ w_ h_ => by obtain ⟨_, he_, k_, hb_, hg_⟩ := h_; exact ⟨_, he_, rfl, k_, _, hb_, hg_⟩))
  refine stepsFT_cons ?_ ?_
  ·refine StepFT.one rfl fun F_ w_ hR hout hD => ?_
   have g22 : F_ 22 = .int .i64 (cl 64 (B)) := (hD.get 0 rfl rfl rfl).1
   have g23 : F_ 23 = .int .i64 ((rdX l (rdX l st).2).1) := (hD.get 1 rfl rfl rfl).1
   exact (y_add rfl g22 g23 ((by rw [Int.add_comm, IntKind.wrap_i64]; omega)) ⟨rfl, Kept.refl _ _⟩)
  refine stepsFT_cons ?_ ?_
  ·refine StepFT.one rfl fun F_ w_ hR hout hD => ?_
   exact (y_fieldR (n := 1) rfl ((hout 7 rfl (by decide)).trans s143) Tryd.underlying23 rfl (by kernel_rfl) (by decide) rfl ⟨rfl, Kept.refl _ _⟩)
  refine stepsFT_cons ?_ ?_
  ·refine StepFT.turn rfl rfl fun F_ w_ hR hout hD hA_ => ?_
   have g25 : F_ 25 = .pointer (some ⟨p89, 1, none⟩) := (hD.get 0 rfl rfl rfl).1
   have g24 : F_ 24 = .int .i64 ((rdX l (rdX l st).2).1 + cl 64 B) := (hD.get 1 rfl rfl rfl).1
   exact y_setStc rfl g25 g24 hA_ rfl rfl (by kernel_rfl) fun w2_ b_ k_ => ⟨rfl, k_, _, ⟨rfl, b_⟩, Grew.refl _ _⟩
  exact stepsFT_nil
 intro v144 Tf151 F145 w146 k147 G148 Gt152 Ga153 hF149
 have B155 := B127.all k147 (fun x => (x.elim (fun y => (((ap135).symm) p10 rfl y)) (fun y => (((ap96).symm) p10 rfl y))))
 have K156 := K128.trans k147 (fun i hi x => (x.elim (fun y => ((Grew.ok (S := T_r) gr133 (fun _ x => x)) i hi y)) (fun y => ((Grew.ok (S := T_r) gr94 noB_le) i hi y))))
 obtain ⟨T157, e158⟩ : ∃ T_, T_ = Tf151 2 := ⟨_, rfl⟩
 have B159 : Rdx w146 (T157) p46 (((l))) ((rdStep (signedRd ((l)) (128)) ((rdStep (signedRd (l) (128)) (st)).2)).2) (((List.cons (p, st) R))) := by rw [e158]; exact (Gt152 2 _ _ rfl).1
 have g160 : Grew w118 (T129) T157 := by rw [e158]; exact (Gt152 2 _ _ rfl).2
 have gr161 := gr133.trans K128 g160
 have ap163 : Apart T157 (onB p10) := (ap135).grew g160 (onB_live (B127).lt)
 have e164 : onB p89 = Tf151 5 := ((Gt152 5 _ _ rfl).1.1).symm
 have B165 : Stc w146 p89 23 [.int .i64 ((rdX l st).1 + cl 64 A), .int .i64 ((rdX l (rdX l st).2).1 + cl 64 B)] := (Gt152 5 _ _ rfl).1.2
 have ap166 : Apart T157 (onB p89) := by rw [e158, e164]; exact Ga153 2 5 _ _ _ _ (by decide) rfl rfl
 clear Gt152 Ga153
 have s167 := (hF149 0).trans s139
 have s168 := (hF149 37).trans s140
 have s169 := (hF149 4).trans s141
 have s170 := (hF149 6).trans s142
 have s171 := (hF149 7).trans s143
 clear G148 hF149
 refine then_normal ?_
 refine wq_seq ?_
 refine wq_seq ?_
 rcases Bool.eq_false_or_eq_true (((rdStep (signedRd ((l)) (128)) ((rdStep (signedRd (l) (128)) (st)).2)).2).isNone) with d172 | d172
 ·skip
  refine wq_region ?_
  refine wl_call (R := fun v_ w_ => v_ = .bool true ∧ Kept (fun _ => False) w146 w_) rfl rfl (y_cs rfl rfl rfl (fun _ _ => by kernel_rfl) (ev_func _) (vsC s170 vsN) (t_lostX (p46) (((l))) ((rdStep (signedRd ((l)) (128)) ((rdStep (signedRd (l) (128)) (st)).2)).2) (((List.cons (p, st) R))) (T157) _  B159 ) (fun e_ w_ h_ => ⟨_, h_.1, (congrArg Value.bool d172), h_.2⟩)) ?_
  rintro _ w173 ⟨rfl, k174⟩
  have B176 := B155.all k174 id
  have B177 := B159.all k174 Apart.none
  have K179 := K156.trans k174 (fun _ _ x => x.elim)
  refine wl_v (.bool true) rfl rfl (y_mov rfl rfl ⟨rfl, rfl⟩) ?_
  refine wl_unless 1 false 27 rfl rfl rfl (Or.inl rfl) rfl ?_
  refine wl_unless 1 false 27 rfl rfl rfl (Or.inl rfl) rfl ?_
  refine wl_unless 1 false 27 rfl rfl rfl (Or.inl rfl) rfl ?_
  refine wl_v (.bool true) rfl rfl (y_pickT rfl rfl rfl ⟨rfl, rfl⟩) ?_
  refine wl_nil fun F180 hF181 => ?_
  have s183 := (hF181 37).trans s168
  have s184 := (hF181 4).trans s169
  have s187 : F180 31 = .bool true := (hF181 31).trans rfl
  clear hF181
  refine then_normal ?_
  refine wq_cond (t := true) s187 (fun _ => ?_) (fun e => by cases e)
  refine wq_seq ?_
  have hk : ¬ rdOk l A B st := by unfold rdOk; rintro ⟨h7, h8⟩; first | exact h7 (Option.isNone_iff_eq_none.1 (by assumption)) | exact absurd (vecE_yes h8) (by assumption)
  have hR := vr_no hk
  obtain ⟨g2, a1, b1, a2, b2, hf2, hT2, ho1, ho2, hp2, hq2, hg2, hr2, ap1_, ap2_, ap3_, ap4_, ap5_, ap6_⟩ := rdx_pop B177
  have gr188 : Grew w0 (T_r) (onB p) := fun i h => gr161 i ((fun i h => (hT2 i).2 (Or.inl h)) i h)
  have ap190 : Apart (onB p) (onB p10) := fun i h => ap163 i ((fun i h => (hT2 i).2 (Or.inl h)) i h)
  have gr196 : Grew w0 (T_r) (onB g2) := fun i h => gr161 i ((fun i h => (hT2 i).2 (Or.inr (Or.inr (Or.inl h)))) i h)
  have ap198 : Apart (onB g2) (onB p10) := fun i h => ap163 i ((fun i h => (hT2 i).2 (Or.inr (Or.inr (Or.inl h)))) i h)
  have gr200 : Grew w0 (T_r) (tR R) := fun i h => gr161 i ((fun i h => (hT2 i).2 (Or.inr (Or.inr (Or.inr h)))) i h)
  have ap202 : Apart (tR R) (onB p10) := fun i h => ap163 i ((fun i h => (hT2 i).2 (Or.inr (Or.inr (Or.inr h)))) i h)
  have ap205 : Apart (onB p) (onB g2) := ap2_
  have ap206 : Apart (onB p) (tR R) := ap3_
  refine wq_region ?_
  refine wl_v (.agg #[.int .i64 (0), .int .i64 (0)]) rfl rfl (y_buildL (l' := []) (cells := #[.int .i64 (0), .int .i64 (0)]) rfl bpN (by kernel_rfl) rfl ⟨rfl, rfl⟩) ?_
  refine wl_store_stc (us := [.int .i64 (0), .int .i64 (0)]) stcT_vector rfl rfl rfl s184 rfl B176 rfl (oneI rfl (oneI rfl oneN)) fun w210 B211 k212 => ?_
  have B215 := hp2.all k212 (fun x => ((ap190) p rfl x))
  have B217 := hg2.all k212 (fun i h x => ((ap198) i h x))
  have B218 := hr2.all k212 (fun i h x => ((ap202) i h x))
  have K219 := K179.trans k212 (Grew.ok (S := T_r) gr15 noB_le)
  refine wl_v (.int .i64 (90)) rfl rfl (y_asg rfl rfl ⟨rfl, rfl⟩) ?_
  refine wl_nil fun F220 hF221 => ?_
  have s222 := (hF221 37).trans s183
  have s223 := (hF221 4).trans s184
  have s224 : F220 5 = .int .i64 (90) := (hF221 5).trans rfl
  clear hF221
  refine then_normal ?_
  refine wq_ret ?_
  refine then_ret ?_
  have B225 : Rdx w210 (fun i => (onB p) i ∨ ((onB g2) i ∨ ((tR R) i))) p (l) (vrT l A B st) (R) := (by first | (rw [show vrT l A B st = st from if_neg hk]; exact rdx_close hf2 ho1 B215 B217 B218 ap205 ap206) | (rw [show vrT l A B st = vrS l st from if_pos hk]; exact rdx_close hf2 ho2 B215 B217 B218 ap205 ap206))
  have gr226 : Grew w0 (T_r) (fun i => (onB p) i ∨ ((onB g2) i ∨ ((tR R) i))) := fun i h => h.elim (fun y => gr188 i y) (fun y => y.elim (fun y => gr196 i y) (fun y => gr200 i y))
  exact end_2 s222 rfl (res_stc (vs := [.int .i64 (0), .int .i64 (0)]) stcT_vector rfl s223 B211) (res_tmp (v := .int .i64 (90)) rfl s224) ⟨(fun i => (onB p) i ∨ ((onB g2) i ∨ ((tR R) i))), (by rw [hR.1, hR.2.1, hR.2.2]), K219, ⟨B225, gr226⟩⟩
 ·skip
  refine wq_region ?_
  refine wl_call (R := fun v_ w_ => v_ = .bool false ∧ Kept (fun _ => False) w146 w_) rfl rfl (y_cs rfl rfl rfl (fun _ _ => by kernel_rfl) (ev_func _) (vsC s170 vsN) (t_lostX (p46) (((l))) ((rdStep (signedRd ((l)) (128)) ((rdStep (signedRd (l) (128)) (st)).2)).2) (((List.cons (p, st) R))) (T157) _  B159 ) (fun e_ w_ h_ => ⟨_, h_.1, (congrArg Value.bool d172), h_.2⟩)) ?_
  rintro _ w231 ⟨rfl, k232⟩
  have B234 := B155.all k232 id
  have B235 := B159.all k232 Apart.none
  have B236 := B165.all k232 id
  have K237 := K156.trans k232 (fun _ _ x => x.elim)
  refine wl_v (.bool false) rfl rfl (y_mov rfl rfl ⟨rfl, rfl⟩) ?_
  refine wl_vw (.agg #[.int .i64 ((rdX l st).1 + cl 64 A), .int .i64 ((rdX l (rdX l st).2).1 + cl 64 B)]) 1 false 27 rfl rfl rfl rfl rfl (y_load_stc stcT_vector rfl s171 B236 ⟨rfl, rfl⟩) ?_
  refine wl_callw (R := fun v_ w_ => v_ = .int .i64 (vecE ((rdX l st).1 + cl 64 A) ((rdX l (rdX l st).2).1 + cl 64 B)) ∧ Kept (fun _ => False) w231 w_) 1 false 27 rfl rfl rfl rfl rfl (y_cs rfl rfl rfl (fun _ _ => by kernel_rfl) (ev_func _) (vsC rfl vsN) (mo_check ((rdX l st).1 + cl 64 A) ((rdX l (rdX l st).2).1 + cl 64 B)  _   ) (fun e_ w_ h_ => ⟨_, h_.1, rfl, h_.2⟩)) ?_
  rintro _ w238 ⟨rfl, k239⟩
  have B241 := B234.all k239 id
  have B242 := B235.all k239 Apart.none
  have B243 := B236.all k239 id
  have K244 := K237.trans k239 (fun _ _ x => x.elim)
  refine wl_vw (.bool (decide ((vecE ((rdX l st).1 + cl 64 A) ((rdX l (rdX l st).2).1 + cl 64 B)) ≠ (0)))) 1 false 27 rfl rfl rfl rfl rfl (y_neqI rfl rfl rfl rfl ⟨rfl, rfl⟩) ?_
  refine wl_v (.bool (decide ((vecE ((rdX l st).1 + cl 64 A) ((rdX l (rdX l st).2).1 + cl 64 B)) ≠ (0)))) rfl rfl (y_pickF rfl rfl rfl ⟨rfl, rfl⟩) ?_
  refine wl_nil fun F245 hF246 => ?_
  have s247 := (hF246 0).trans s167
  have s248 := (hF246 37).trans s168
  have s249 := (hF246 4).trans s169
  have s250 := (hF246 6).trans s170
  have s251 := (hF246 7).trans s171
  have s252 : F245 31 = .bool (decide ((vecE ((rdX l st).1 + cl 64 A) ((rdX l (rdX l st).2).1 + cl 64 B)) ≠ (0))) := (hF246 31).trans rfl
  clear hF246
  refine then_normal ?_
  refine wq_cond s252 (fun c253 => ?_) (fun c253 => ?_)
  ·replace c253 := of_decide_eq_true c253
   refine wq_seq ?_
   have hk : ¬ rdOk l A B st := by unfold rdOk; rintro ⟨h7, h8⟩; first | exact h7 (Option.isNone_iff_eq_none.1 (by assumption)) | exact absurd (vecE_yes h8) (by assumption)
   have hR := vr_no hk
   obtain ⟨g2, a1, b1, a2, b2, hf2, hT2, ho1, ho2, hp2, hq2, hg2, hr2, ap1_, ap2_, ap3_, ap4_, ap5_, ap6_⟩ := rdx_pop B242
   have gr254 : Grew w0 (T_r) (onB p) := fun i h => gr161 i ((fun i h => (hT2 i).2 (Or.inl h)) i h)
   have ap256 : Apart (onB p) (onB p10) := fun i h => ap163 i ((fun i h => (hT2 i).2 (Or.inl h)) i h)
   have gr262 : Grew w0 (T_r) (onB g2) := fun i h => gr161 i ((fun i h => (hT2 i).2 (Or.inr (Or.inr (Or.inl h)))) i h)
   have ap264 : Apart (onB g2) (onB p10) := fun i h => ap163 i ((fun i h => (hT2 i).2 (Or.inr (Or.inr (Or.inl h)))) i h)
   have gr266 : Grew w0 (T_r) (tR R) := fun i h => gr161 i ((fun i h => (hT2 i).2 (Or.inr (Or.inr (Or.inr h)))) i h)
   have ap268 : Apart (tR R) (onB p10) := fun i h => ap163 i ((fun i h => (hT2 i).2 (Or.inr (Or.inr (Or.inr h)))) i h)
   have ap271 : Apart (onB p) (onB g2) := ap2_
   have ap272 : Apart (onB p) (tR R) := ap3_
   refine wq_region ?_
   refine wl_v (.agg #[.int .i64 (0), .int .i64 (0)]) rfl rfl (y_buildL (l' := []) (cells := #[.int .i64 (0), .int .i64 (0)]) rfl bpN (by kernel_rfl) rfl ⟨rfl, rfl⟩) ?_
   refine wl_store_stc (us := [.int .i64 (0), .int .i64 (0)]) stcT_vector rfl rfl rfl s249 rfl B241 rfl (oneI rfl (oneI rfl oneN)) fun w276 B277 k278 => ?_
   have B281 := hp2.all k278 (fun x => ((ap256) p rfl x))
   have B283 := hg2.all k278 (fun i h x => ((ap264) i h x))
   have B284 := hr2.all k278 (fun i h x => ((ap268) i h x))
   have K285 := K244.trans k278 (Grew.ok (S := T_r) gr15 noB_le)
   refine wl_v (.int .i64 (90)) rfl rfl (y_asg rfl rfl ⟨rfl, rfl⟩) ?_
   refine wl_nil fun F286 hF287 => ?_
   have s288 := (hF287 37).trans s248
   have s289 := (hF287 4).trans s249
   have s290 : F286 5 = .int .i64 (90) := (hF287 5).trans rfl
   clear hF287
   refine then_normal ?_
   refine wq_ret ?_
   refine then_ret ?_
   have B291 : Rdx w276 (fun i => (onB p) i ∨ ((onB g2) i ∨ ((tR R) i))) p (l) (vrT l A B st) (R) := (by first | (rw [show vrT l A B st = st from if_neg hk]; exact rdx_close hf2 ho1 B281 B283 B284 ap271 ap272) | (rw [show vrT l A B st = vrS l st from if_pos hk]; exact rdx_close hf2 ho2 B281 B283 B284 ap271 ap272))
   have gr292 : Grew w0 (T_r) (fun i => (onB p) i ∨ ((onB g2) i ∨ ((tR R) i))) := fun i h => h.elim (fun y => gr254 i y) (fun y => y.elim (fun y => gr262 i y) (fun y => gr266 i y))
   exact end_2 s288 rfl (res_stc (vs := [.int .i64 (0), .int .i64 (0)]) stcT_vector rfl s289 B277) (res_tmp (v := .int .i64 (90)) rfl s290) ⟨(fun i => (onB p) i ∨ ((onB g2) i ∨ ((tR R) i))), (by rw [hR.1, hR.2.1, hR.2.2]), K285, ⟨B291, gr292⟩⟩
  ·replace c253 := of_decide_eq_false c253
   refine wq_skip ?_
   refine then_normal ?_
   refine wq_seq ?_
   have hk : rdOk l A B st := by unfold rdOk; exact ⟨fun h7 => absurd (Option.isNone_iff_eq_none.2 h7) (Bool.eq_false_iff.1 (by assumption)), (vecE_iff _ _).1 (Decidable.byContradiction (by assumption))⟩
   have hR := vr_yes hk
   obtain ⟨g2, a1, b1, a2, b2, hf2, hT2, ho1, ho2, hp2, hq2, hg2, hr2, ap1_, ap2_, ap3_, ap4_, ap5_, ap6_⟩ := rdx_pop B242
   have gr297 : Grew w0 (T_r) (onB p) := fun i h => gr161 i ((fun i h => (hT2 i).2 (Or.inl h)) i h)
   have ap299 : Apart (onB p) (onB p10) := fun i h => ap163 i ((fun i h => (hT2 i).2 (Or.inl h)) i h)
   have ap300 : Apart (onB p) (onB p89) := fun i h => ap166 i ((fun i h => (hT2 i).2 (Or.inl h)) i h)
   have gr305 : Grew w0 (T_r) (onB g2) := fun i h => gr161 i ((fun i h => (hT2 i).2 (Or.inr (Or.inr (Or.inl h)))) i h)
   have ap307 : Apart (onB g2) (onB p10) := fun i h => ap163 i ((fun i h => (hT2 i).2 (Or.inr (Or.inr (Or.inl h)))) i h)
   have gr309 : Grew w0 (T_r) (tR R) := fun i h => gr161 i ((fun i h => (hT2 i).2 (Or.inr (Or.inr (Or.inr h)))) i h)
   have ap311 : Apart (tR R) (onB p10) := fun i h => ap163 i ((fun i h => (hT2 i).2 (Or.inr (Or.inr (Or.inr h)))) i h)
   have ap314 : Apart (onB p) (onB g2) := ap2_
   have ap315 : Apart (onB p) (tR R) := ap3_
   refine wq_region ?_
   refine wl_v (.pointer (some ⟨p, 0, none⟩)) rfl rfl (y_mov rfl s247 ⟨rfl, rfl⟩) ?_
   refine wl_v (.agg #[.slice (some ⟨g2, 0, none⟩) l.length l.length, .int .i64 (((a2 : Nat) : Int)), .bool (b2)]) rfl rfl (y_load_stc stcT_reader rfl s250 hq2 ⟨rfl, rfl⟩) ?_
   refine wl_v (.pointer (some ⟨p, 0, none⟩)) rfl rfl (y_nilc rfl rfl ⟨rfl, rfl⟩) ?_
   refine wl_store_stc (us := [.slice (some ⟨g2, 0, none⟩) l.length l.length, .int .i64 (((a2 : Nat) : Int)), .bool (b2)]) stcT_reader rfl rfl rfl rfl rfl hp2 rfl (oneI rfl (oneI rfl (oneI rfl oneN))) fun w319 B320 k321 => ?_
   have B323 := B241.all k321 (fun x => (((ap299).symm) p10 rfl x))
   have B324 := B243.all k321 (fun x => (((ap300).symm) p89 rfl x))
   have B326 := hg2.all k321 (fun i h x => (((ap314).symm) i h x))
   have B327 := hr2.all k321 (fun i h x => (((ap315).symm) i h x))
   have K328 := K244.trans k321 (Grew.ok (S := T_r) gr297 (fun _ x => x))
   refine wl_nil fun F329 hF330 => ?_
   have s331 := (hF330 37).trans s248
   have s332 := (hF330 4).trans s249
   have s333 := (hF330 7).trans s251
   clear hF330
   refine then_normal ?_
   refine wq_seq ?_
   refine wq_region ?_
   refine wl_v (.agg #[.int .i64 ((rdX l st).1 + cl 64 A), .int .i64 ((rdX l (rdX l st).2).1 + cl 64 B)]) rfl rfl (y_load_stc stcT_vector rfl s333 B324 ⟨rfl, rfl⟩) ?_
   refine wl_store_stc (us := [.int .i64 ((rdX l st).1 + cl 64 A), .int .i64 ((rdX l (rdX l st).2).1 + cl 64 B)]) stcT_vector rfl rfl rfl s332 rfl B323 rfl (oneI rfl (oneI rfl oneN)) fun w334 B335 k336 => ?_
   have B339 := B320.all k336 (fun x => ((ap299) p rfl x))
   have B341 := B326.all k336 (fun i h x => ((ap307) i h x))
   have B342 := B327.all k336 (fun i h x => ((ap311) i h x))
   have K343 := K328.trans k336 (Grew.ok (S := T_r) gr15 noB_le)
   refine wl_v (.int .i64 (0)) rfl rfl (y_asg rfl rfl ⟨rfl, rfl⟩) ?_
   refine wl_nil fun F344 hF345 => ?_
   have s346 := (hF345 37).trans s331
   have s347 := (hF345 4).trans s332
   have s348 : F344 5 = .int .i64 (0) := (hF345 5).trans rfl
   clear hF345
   refine then_normal ?_
   refine wq_ret ?_
   have B349 : Rdx w334 (fun i => (onB p) i ∨ ((onB g2) i ∨ ((tR R) i))) p (l) (vrT l A B st) (R) := (by first | (rw [show vrT l A B st = st from if_neg hk]; exact rdx_close hf2 ho1 B339 B341 B342 ap314 ap315) | (rw [show vrT l A B st = vrS l st from if_pos hk]; exact rdx_close hf2 ho2 B339 B341 B342 ap314 ap315))
   have gr350 : Grew w0 (T_r) (fun i => (onB p) i ∨ ((onB g2) i ∨ ((tR R) i))) := fun i h => h.elim (fun y => gr297 i y) (fun y => y.elim (fun y => gr305 i y) (fun y => gr309 i y))
   exact end_2 s346 rfl (res_stc (vs := [.int .i64 ((rdX l st).1 + cl 64 A), .int .i64 ((rdX l (rdX l st).2).1 + cl 64 B)]) stcT_vector rfl s347 B335) (res_tmp (v := .int .i64 (0)) rfl s348) ⟨(fun i => (onB p) i ∨ ((onB g2) i ∨ ((tR R) i))), (by rw [hR.1, hR.2.1, hR.2.2]), K343, ⟨B349, gr350⟩⟩

set_option maxHeartbeats 4000000 in
set_option maxRecDepth 100000 in
theorem scan_readX (p : Nat) (l : List Nat) (st : Option Nat) (R : List (Nat × Option Nat)) (T_r : Nat → Prop) (w0 : World) (hO : ScanIn w0) (hG : ∀ i, T_r i → 1 < i) (h_r : Rdx w0 T_r p (l) (st) (R)) :
  Calls Tryd.prog 44 #[.pointer (some ⟨p, 0, none⟩)] w0 fun e w' => ∃ (T_r' : Nat → Prop), e = .returned (.tuple #[blkV ((scanRd l st).1), .int .i64 ((scanRd l st).2.1)]) ∧ Kept (T_r) w0 w' ∧ (Rdx w' T_r' p (l) (rdSt l st) (R) ∧ Grew w0 T_r T_r') := by
 refine calls_wq (args := [.pointer (some ⟨p, 0, none⟩)]) 48 Tryd.func44 rfl rfl (Nat.le_of_ble_eq_true rfl) ?_
 have K0 := Kept.refl (T_r) w0
 have hle := gBig_whole l st
 obtain ⟨M, hM⟩ : ∃ M, M = (rdStep (wholeRd l gBig) st).1.toNat := ⟨_, rfl⟩
 have g_r := Grew.refl w0 T_r
 refine wq_seq ?_
 refine wq_region ?_
 refine wl_alloc_blk rfl rfl rfl blkT_block.2.2 fun p1 w2 e5 B3 k4 => ?_
 have g6 := onB_new (Nat.le_of_eq e5.symm)
 have gr7 : Grew w0 noB (onB p1) := Grew.new K0 g6
 have ap8 : Apart (onB p1) (T_r) := Apart.new g6 (h_r).live
 clear e5 g6
 have B9 := h_r.all k4 Apart.none
 have K10 := K0.trans k4 (fun _ _ x => x.elim)
 refine wl_v (.int .i64 (0)) rfl rfl (y_asg rfl rfl ⟨rfl, rfl⟩) ?_
 refine wl_nil fun F11 hF12 => ?_
 have s13 : F11 0 = .pointer (some ⟨p, 0, none⟩) := (hF12 0).trans rfl
 have s14 : F11 48 = undef := (hF12 48).trans rfl
 have s15 : F11 2 = .pointer (some ⟨p1, 0, none⟩) := (hF12 2).trans rfl
 have s16 : F11 3 = .int .i64 (0) := (hF12 3).trans rfl
 clear hF12
 refine then_normal ?_
 refine wq_scope ?_
 refine wq_seq ?_
 refine wq_seq ?_
 refine wq_region ?_
 refine wl_v (.pointer (some ⟨p, 0, none⟩)) rfl rfl (y_mov rfl s13 ⟨rfl, rfl⟩) ?_
 refine wl_v (.bool false) rfl rfl (y_noNil rfl rfl rfl Tryd.underlying39 ⟨rfl, rfl⟩) ?_
 refine wl_nil fun F17 hF18 => ?_
 have s19 := (hF18 0).trans s13
 have s20 := (hF18 48).trans s14
 have s21 := (hF18 2).trans s15
 have s22 := (hF18 3).trans s16
 have s23 : F17 9 = .bool false := (hF18 9).trans rfl
 clear hF18
 refine then_normal ?_
 refine wq_cond (t := false) s23 (fun e => by cases e) (fun _ => ?_)
 refine wq_skip ?_
 refine then_normal ?_
 refine wq_seq ?_
 refine wq_region ?_
 refine wl_alloc_blk rfl rfl rfl blkT_block.2.2 fun p24 w25 e28 B26 k27 => ?_
 have g29 := onB_new (Nat.le_of_eq e28.symm)
 have gr30 : Grew w0 noB (onB p24) := Grew.new K10 g29
 have ap31 : Apart (onB p24) (T_r) := Apart.new g29 (B9).live
 have ap32 : Apart (onB p24) (onB p1) := Apart.new g29 (onB_live (B3).lt)
 clear e28 g29
 have B33 := B9.all k27 Apart.none
 have B34 := B3.all k27 id
 have K35 := K10.trans k27 (fun _ _ x => x.elim)
 refine wl_nil fun F36 hF37 => ?_
 have s38 := (hF37 0).trans s19
 have s39 := (hF37 48).trans s20
 have s40 := (hF37 2).trans s21
 have s41 := (hF37 3).trans s22
 have s42 := (hF37 9).trans s23
 have s43 : F36 4 = .pointer (some ⟨p24, 0, none⟩) := (hF37 4).trans rfl
 clear hF37
 refine then_normal ?_
 refine wq_seq ?_
 refine wq_region ?_
 refine wl_v (.int .i64 (0)) rfl rfl (y_asg rfl rfl ⟨rfl, rfl⟩) ?_
 refine wl_nil fun F44 hF45 => ?_
 have s46 := (hF45 0).trans s38
 have s47 := (hF45 48).trans s39
 have s48 := (hF45 2).trans s40
 have s49 := (hF45 3).trans s41
 have s50 := (hF45 9).trans s42
 have s51 := (hF45 4).trans s43
 have s52 : F44 5 = .int .i64 (0) := (hF45 5).trans rfl
 clear hF45
 refine then_normal ?_
 refine wq_seq ?_
 refine wq_region ?_
 refine wl_v (.pointer (some ⟨p, 0, none⟩)) rfl rfl (y_mov rfl s46 ⟨rfl, rfl⟩) ?_
 refine wl_call (R := fun v_ w_ => ∃ (T55 : Nat → Prop), .int .i64 (((M : Nat) : Int)) = v_ ∧ Kept (T_r) w25 w_ ∧ (Rdx w_ T55 p ((l)) ((rdStep (wholeRd (l) (9223372036854775807)) (st)).2) ((R)) ∧ Grew w25 (T_r) T55)) rfl rfl (y_cs rfl rfl rfl (fun _ _ => by kernel_rfl) (ev_func _) (vsC rfl (vsC rfl vsN)) (t_rwholeX (p) (l) (st) (R) (9223372036854775807) (T_r) _  B33 ) (fun e_ w_ h_ => by obtain ⟨T55_, he_, hr_⟩ := h_; exact ⟨_, he_, T55_, (congrArg (Value.int .i64) (by rw [show (9223372036854775807 : Int) = gBig from rfl]; omega)).symm, hr_⟩)) ?_
 rintro _ w53 ⟨T55, rfl, k54, ⟨B56, g57⟩⟩
 have B58 := B34.all k54 (fun x => ((ap8) p1 rfl x))
 have B59 := B26.all k54 (fun x => ((ap31) p24 rfl x))
 have K60 := K35.trans k54 (fun i hi x => ((Grew.ok (S := T_r) g_r (fun _ x => x)) i hi x))
 have gr61 := g_r.trans K35 g57
 have ap62 : Apart T55 (onB p1) := ((ap8).symm).grew g57 (onB_live (B34).lt)
 have ap63 : Apart T55 (onB p24) := ((ap31).symm).grew g57 (onB_live (B26).lt)
 refine wl_v (.int .i64 (((M : Nat) : Int))) rfl rfl (y_asg rfl rfl ⟨rfl, rfl⟩) ?_
 refine wl_nil fun F64 hF65 => ?_
 have s66 := (hF65 0).trans s46
 have s67 := (hF65 48).trans s47
 have s68 := (hF65 2).trans s48
 have s69 := (hF65 3).trans s49
 have s70 := (hF65 9).trans s50
 have s71 := (hF65 4).trans s51
 have s72 := (hF65 5).trans s52
 have s73 : F64 6 = .int .i64 (((M : Nat) : Int)) := (hF65 6).trans rfl
 clear hF65
 refine then_normal ?_
 refine wq_seq ?_
 refine wq_seq ?_
 have B74 : Rdx w53 (T55) p (l) ((rdStep (wholeRd l gBig) st).2) (R) := (B56)
 rcases Bool.eq_false_or_eq_true (((rdStep (wholeRd l gBig) st).2).isNone) with d75 | d75
 ·skip
  refine wq_region ?_
  refine wl_v (.pointer (some ⟨p, 0, none⟩)) rfl rfl (y_mov rfl s66 ⟨rfl, rfl⟩) ?_
  refine wl_call (R := fun v_ w_ => v_ = .bool true ∧ Kept (fun _ => False) w53 w_) rfl rfl (y_cs rfl rfl rfl (fun _ _ => by kernel_rfl) (ev_func _) (vsC rfl vsN) (t_lostX (p) (l) ((rdStep (wholeRd l gBig) st).2) (R) (T55) _  B74 ) (fun e_ w_ h_ => ⟨_, h_.1, (congrArg Value.bool d75), h_.2⟩)) ?_
  rintro _ w76 ⟨rfl, k77⟩
  have B78 := B74.all k77 Apart.none
  have B79 := B58.all k77 id
  have K81 := K60.trans k77 (fun _ _ x => x.elim)
  refine wl_v (.bool true) rfl rfl (y_mov rfl rfl ⟨rfl, rfl⟩) ?_
  refine wl_unless 2 false 15 rfl rfl rfl (Or.inl rfl) rfl ?_
  refine wl_unless 2 false 15 rfl rfl rfl (Or.inl rfl) rfl ?_
  refine wl_v (.bool true) rfl rfl (y_pickT rfl rfl rfl ⟨rfl, rfl⟩) ?_
  refine wl_nil fun F82 hF83 => ?_
  have s85 := (hF83 48).trans s67
  have s86 := (hF83 2).trans s68
  have s92 : F82 18 = .bool true := (hF83 18).trans rfl
  clear hF83
  refine then_normal ?_
  refine wq_cond (t := true) s92 (fun _ => ?_) (fun e => by cases e)
  refine wq_goto ?_
  refine then_goto ?_
  refine jump_goto ⟨_, rfl, ?_⟩
  refine wq_seq ?_
  refine wq_skip ?_
  refine then_normal ?_
  refine wq_seq ?_
  first | have hR := g_none (l := l) (s := st) (Or.inl (by assumption)) | have hR := g_none (l := l) (s := st) (Or.inr (by omega)) | have hR := g_far (by omega) hI (by omega) | have hR := g_bad (by omega) hI (by omega) (by first | exact Or.inl (by assumption) | exact Or.inr (by assumption))
  refine wq_region ?_
  refine wl_v (blkV (fun _ => 0)) rfl rfl (y_buildR (cells := (arrL 16 (fun _ => 0)).toArray) rfl (by kernel_rfl) rfl ⟨rfl, rfl⟩) ?_
  refine wl_store_blk blkT_block rfl rfl rfl s86 rfl B79 fun w93 B94 k95 => ?_
  have B96 := B78.all k95 (fun i h x => ((ap62) i h x))
  have K98 := K81.trans k95 (Grew.ok (S := T_r) gr7 noB_le)
  refine wl_v (.int .i64 (60)) rfl rfl (y_asg rfl rfl ⟨rfl, rfl⟩) ?_
  refine wl_nil fun F99 hF100 => ?_
  have s101 := (hF100 48).trans s85
  have s102 := (hF100 2).trans s86
  have s103 : F99 3 = .int .i64 (60) := (hF100 3).trans rfl
  clear hF100
  refine then_normal ?_
  refine wq_ret ?_
  refine stay_ret ?_
  exact end_2 s101 rfl (res_blk blkT_block rfl s102 B94) (res_tmp (v := .int .i64 (60)) rfl s103) ⟨T55, (by rw [← (told_as hR).1, ← (told_as hR).2.1]), K98, ⟨(by rw [(told_as hR).2.2]; exact B96), gr61⟩⟩
 ·skip
  refine wq_region ?_
  refine wl_v (.pointer (some ⟨p, 0, none⟩)) rfl rfl (y_mov rfl s66 ⟨rfl, rfl⟩) ?_
  refine wl_call (R := fun v_ w_ => v_ = .bool false ∧ Kept (fun _ => False) w53 w_) rfl rfl (y_cs rfl rfl rfl (fun _ _ => by kernel_rfl) (ev_func _) (vsC rfl vsN) (t_lostX (p) (l) ((rdStep (wholeRd l gBig) st).2) (R) (T55) _  B74 ) (fun e_ w_ h_ => ⟨_, h_.1, (congrArg Value.bool d75), h_.2⟩)) ?_
  rintro _ w104 ⟨rfl, k105⟩
  have B106 := B74.all k105 Apart.none
  have B107 := B58.all k105 id
  have B108 := B59.all k105 id
  have K109 := K60.trans k105 (fun _ _ x => x.elim)
  refine wl_v (.bool false) rfl rfl (y_mov rfl rfl ⟨rfl, rfl⟩) ?_
  refine wl_vw (.int .i64 (((M : Nat) : Int))) 2 false 15 rfl rfl rfl rfl rfl (y_mov rfl s73 ⟨rfl, rfl⟩) ?_
  refine wl_vw (.bool (decide ((16) < (((M : Nat) : Int))))) 2 false 15 rfl rfl rfl rfl rfl (y_gtr rfl rfl rfl rfl ⟨rfl, rfl⟩) ?_
  refine wl_v (.bool (decide ((16) < (((M : Nat) : Int))))) rfl rfl (y_pickF rfl rfl rfl ⟨rfl, rfl⟩) ?_
  refine wl_nil fun F110 hF111 => ?_
  have s112 := (hF111 0).trans s66
  have s113 := (hF111 48).trans s67
  have s114 := (hF111 2).trans s68
  have s115 := (hF111 3).trans s69
  have s116 := (hF111 9).trans s70
  have s117 := (hF111 4).trans s71
  have s118 := (hF111 5).trans s72
  have s119 := (hF111 6).trans s73
  have s120 : F110 18 = .bool (decide ((16) < (((M : Nat) : Int)))) := (hF111 18).trans rfl
  clear hF111
  refine then_normal ?_
  refine wq_cond s120 (fun c121 => ?_) (fun c121 => ?_)
  ·replace c121 := of_decide_eq_true c121
   refine wq_goto ?_
   refine then_goto ?_
   refine jump_goto ⟨_, rfl, ?_⟩
   refine wq_seq ?_
   refine wq_skip ?_
   refine then_normal ?_
   refine wq_seq ?_
   first | have hR := g_none (l := l) (s := st) (Or.inl (by assumption)) | have hR := g_none (l := l) (s := st) (Or.inr (by omega)) | have hR := g_far (by omega) hI (by omega) | have hR := g_bad (by omega) hI (by omega) (by first | exact Or.inl (by assumption) | exact Or.inr (by assumption))
   refine wq_region ?_
   refine wl_v (blkV (fun _ => 0)) rfl rfl (y_buildR (cells := (arrL 16 (fun _ => 0)).toArray) rfl (by kernel_rfl) rfl ⟨rfl, rfl⟩) ?_
   refine wl_store_blk blkT_block rfl rfl rfl s114 rfl B107 fun w122 B123 k124 => ?_
   have B125 := B106.all k124 (fun i h x => ((ap62) i h x))
   have K127 := K109.trans k124 (Grew.ok (S := T_r) gr7 noB_le)
   refine wl_v (.int .i64 (60)) rfl rfl (y_asg rfl rfl ⟨rfl, rfl⟩) ?_
   refine wl_nil fun F128 hF129 => ?_
   have s130 := (hF129 48).trans s113
   have s131 := (hF129 2).trans s114
   have s132 : F128 3 = .int .i64 (60) := (hF129 3).trans rfl
   clear hF129
   refine then_normal ?_
   refine wq_ret ?_
   refine stay_ret ?_
   exact end_2 s130 rfl (res_blk blkT_block rfl s131 B123) (res_tmp (v := .int .i64 (60)) rfl s132) ⟨T55, (by rw [← (told_as hR).1, ← (told_as hR).2.1]), K127, ⟨(by rw [(told_as hR).2.2]; exact B125), gr61⟩⟩
  ·replace c121 := of_decide_eq_false c121
   refine wq_skip ?_
   refine then_normal ?_
   refine wq_seq ?_
   refine wq_seq ?_
   refine wq_region ?_
   refine wl_v (.int .i64 (((M : Nat) : Int))) rfl rfl (y_mov rfl s119 ⟨rfl, rfl⟩) ?_
   refine wl_v (.int .i64 (0)) rfl rfl (y_mov rfl rfl ⟨rfl, rfl⟩) ?_
   refine wl_nil fun F133 hF134 => ?_
   have s135 := (hF134 0).trans s112
   have s136 := (hF134 48).trans s113
   have s137 := (hF134 2).trans s114
   have s138 := (hF134 3).trans s115
   have s139 := (hF134 9).trans s116
   have s140 := (hF134 4).trans s117
   have s141 := (hF134 5).trans s118
   have s142 := (hF134 6).trans s119
   have s143 := (hF134 18).trans s120
   have s144 : F133 19 = .int .i64 (((M : Nat) : Int)) := (hF134 19).trans rfl
   have s145 : F133 20 = .int .i64 (0) := (hF134 20).trans rfl
   clear hF134
   refine then_normal ?_
   refine wq_block ?_
   refine wq_loop (fun nn FF ww => ∃ (i : Nat), ∃ (a : Nat), ∃ (b : Nat → Int), ∃ (s : Option Nat), ∃ (T146 : Nat → Prop), (i ≤ M) ∧ (a ≤ 16) ∧ (gRest l (M - i) a b s = gRd l st) ∧ nn = M - i ∧ FF 0 = .pointer (some ⟨p, 0, none⟩) ∧ FF 2 = .pointer (some ⟨p1, 0, none⟩) ∧ FF 3 = .int .i64 (0) ∧ FF 4 = .pointer (some ⟨p24, 0, none⟩) ∧ FF 6 = .int .i64 (((M : Nat) : Int)) ∧ FF 9 = .bool false ∧ FF 18 = .bool (decide ((16) < (((M : Nat) : Int)))) ∧ FF 19 = .int .i64 (((M : Nat) : Int)) ∧ FF 48 = undef ∧ FF 5 = .int .i64 (((a : Nat) : Int)) ∧ FF 20 = .int .i64 (((i : Nat) : Int)) ∧ Kept (T_r) w0 ww ∧ Rdx ww (T146) p (l) (s) (R) ∧ Blk ww p1 25 (fun _ => 0) ∧ Blk ww p24 25 (b) ∧ Grew w0 (T_r) T146 ∧ Apart (T146) (onB p1) ∧ Apart (T146) (onB p24)) (M - (0)) ⟨0, 0, (fun _ => 0), (rdStep (wholeRd l gBig) st).2, T55, by omega, by omega, (g_start (by assumption) (by omega) hM), rfl, s135, s137, s138, s140, s142, s139, s143, s144, s136, s141, s145, K109, B106, B107, B108, gr61, ap62, ap63⟩ ?_
   rintro n150 F147 w148 ⟨i, a, b, s, T146, i151, i152, hI, hn150, s153, s154, s155, s156, s157, s158, s159, s160, s161, s162, s163, K149, B164, B165, B166, gr167, ap168, ap169⟩
   refine wq_seq ?_
   refine wq_region ?_
   refine wl_v (.bool (decide ((((i : Nat) : Int)) < (((M : Nat) : Int))))) rfl rfl (y_lss rfl s163 s160 rfl ⟨rfl, rfl⟩) ?_
   refine wl_nil fun F170 hF171 => ?_
   have s172 := (hF171 0).trans s153
   have s173 := (hF171 2).trans s154
   have s174 := (hF171 3).trans s155
   have s175 := (hF171 4).trans s156
   have s176 := (hF171 6).trans s157
   have s177 := (hF171 9).trans s158
   have s178 := (hF171 18).trans s159
   have s179 := (hF171 19).trans s160
   have s180 := (hF171 48).trans s161
   have s181 := (hF171 5).trans s162
   have s182 := (hF171 20).trans s163
   have s183 : F170 21 = .bool (decide ((((i : Nat) : Int)) < (((M : Nat) : Int)))) := (hF171 21).trans rfl
   clear hF171
   refine then_normal ?_
   refine wq_seq ?_
   refine wq_cond s183 (fun c184 => ?_) (fun c184 => ?_)
   ·replace c184 := of_decide_eq_true c184
    refine wq_skip ?_
    refine then_normal ?_
    refine wq_seq ?_
    refine wq_block ?_
    refine wq_seq ?_
    have hat := gBig_at l a s
    refine wq_region ?_
    refine wl_v (.int .i64 (((a : Nat) : Int))) rfl rfl (y_mov rfl s181 ⟨rfl, rfl⟩) ?_
    refine wl_v (.pointer (some ⟨p, 0, none⟩)) rfl rfl (y_mov rfl s172 ⟨rfl, rfl⟩) ?_
    refine wl_call (R := fun v_ w_ => ∃ (T187 : Nat → Prop), .int .i64 ((rdStep (wholeRd (l) (9223372036854775807)) (s)).1) = v_ ∧ Kept (T146) w148 w_ ∧ (Rdx w_ T187 p ((l)) ((rdStep (wholeRd (l) (9223372036854775807)) (s)).2) ((R)) ∧ Grew w148 (T146) T187)) rfl rfl (y_cs rfl rfl rfl (fun _ _ => by kernel_rfl) (ev_func _) (vsC rfl (vsC rfl vsN)) (t_rwholeX (p) (l) (s) (R) (9223372036854775807) (T146) _  B164 ) (fun e_ w_ h_ => by obtain ⟨T187_, he_, hr_⟩ := h_; exact ⟨_, he_, T187_, rfl, hr_⟩)) ?_
    rintro _ w185 ⟨T187, rfl, k186, ⟨B188, g189⟩⟩
    have B190 := B165.all k186 (fun x => (((ap168).symm) p1 rfl x))
    have B191 := B166.all k186 (fun x => (((ap169).symm) p24 rfl x))
    have K192 := K149.trans k186 (fun i hi x => ((Grew.ok (S := T_r) gr167 (fun _ x => x)) i hi x))
    have gr193 := gr167.trans K149 g189
    have ap194 : Apart T187 (onB p1) := (ap168).grew g189 (onB_live (B165).lt)
    have ap195 : Apart T187 (onB p24) := (ap169).grew g189 (onB_live (B166).lt)
    refine wl_v (.int .i64 ((((gOne l a s).1 : Nat) : Int))) rfl rfl (y_add rfl rfl rfl (i64_n (by rw [show (9223372036854775807 : Int) = gBig from rfl]; exact hat.1) (by omega)) ⟨rfl, rfl⟩) ?_
    refine wl_v (.int .i64 ((((gOne l a s).1 : Nat) : Int))) rfl rfl (y_asg rfl rfl ⟨rfl, rfl⟩) ?_
    refine wl_nil fun F196 hF197 => ?_
    have s198 := (hF197 0).trans s172
    have s199 := (hF197 2).trans s173
    have s200 := (hF197 3).trans s174
    have s201 := (hF197 4).trans s175
    have s202 := (hF197 6).trans s176
    have s203 := (hF197 9).trans s177
    have s204 := (hF197 18).trans s178
    have s205 := (hF197 19).trans s179
    have s206 := (hF197 48).trans s180
    have s207 := (hF197 20).trans s182
    have s209 : F196 5 = .int .i64 ((((gOne l a s).1 : Nat) : Int)) := (hF197 5).trans rfl
    clear hF197
    refine then_normal ?_
    refine wq_seq ?_
    refine wq_seq ?_
    have B210 : Rdx w185 (T187) p (l) ((rdStep (wholeRd l gBig) s).2) (R) := (B188)
    refine wq_region ?_
    refine wl_v (.int .i64 ((((gOne l a s).1 : Nat) : Int))) rfl rfl (y_mov rfl s209 ⟨rfl, rfl⟩) ?_
    refine wl_v (.bool (decide ((16) ≤ ((((gOne l a s).1 : Nat) : Int))))) rfl rfl (y_geq rfl rfl rfl rfl ⟨rfl, rfl⟩) ?_
    refine wl_nil fun F211 hF212 => ?_
    have s213 := (hF212 0).trans s198
    have s214 := (hF212 2).trans s199
    have s215 := (hF212 3).trans s200
    have s216 := (hF212 4).trans s201
    have s217 := (hF212 6).trans s202
    have s218 := (hF212 9).trans s203
    have s219 := (hF212 18).trans s204
    have s220 := (hF212 19).trans s205
    have s221 := (hF212 48).trans s206
    have s222 := (hF212 20).trans s207
    have s224 := (hF212 5).trans s209
    have s225 : F211 27 = .bool (decide ((16) ≤ ((((gOne l a s).1 : Nat) : Int)))) := (hF212 27).trans rfl
    clear hF212
    refine then_normal ?_
    refine wq_cond s225 (fun c226 => ?_) (fun c226 => ?_)
    ·replace c226 := of_decide_eq_true c226
     refine wq_goto ?_
     refine then_goto ?_
     refine in_goto ?_
     refine then_goto ?_
     refine then_goto ?_
     refine in_goto ?_
     refine then_goto ?_
     refine jump_goto ⟨_, rfl, ?_⟩
     refine wq_seq ?_
     refine wq_skip ?_
     refine then_normal ?_
     refine wq_seq ?_
     first | have hR := g_none (l := l) (s := st) (Or.inl (by assumption)) | have hR := g_none (l := l) (s := st) (Or.inr (by omega)) | have hR := g_far (by omega) hI (by omega) | have hR := g_bad (by omega) hI (by omega) (by first | exact Or.inl (by assumption) | exact Or.inr (by assumption))
     refine wq_region ?_
     refine wl_v (blkV (fun _ => 0)) rfl rfl (y_buildR (cells := (arrL 16 (fun _ => 0)).toArray) rfl (by kernel_rfl) rfl ⟨rfl, rfl⟩) ?_
     refine wl_store_blk blkT_block rfl rfl rfl s214 rfl B190 fun w227 B228 k229 => ?_
     have B230 := B210.all k229 (fun i h x => ((ap194) i h x))
     have K232 := K192.trans k229 (Grew.ok (S := T_r) gr7 noB_le)
     refine wl_v (.int .i64 (60)) rfl rfl (y_asg rfl rfl ⟨rfl, rfl⟩) ?_
     refine wl_nil fun F233 hF234 => ?_
     have s235 := (hF234 2).trans s214
     have s236 := (hF234 48).trans s221
     have s237 : F233 3 = .int .i64 (60) := (hF234 3).trans rfl
     clear hF234
     refine then_normal ?_
     refine wq_ret ?_
     refine stay_ret ?_
     exact end_2 s236 rfl (res_blk blkT_block rfl s235 B228) (res_tmp (v := .int .i64 (60)) rfl s237) ⟨T187, (by rw [← (told_as hR).1, ← (told_as hR).2.1]), K232, ⟨(by rw [(told_as hR).2.2]; exact B230), gr193⟩⟩
    ·replace c226 := of_decide_eq_false c226
     refine wq_skip ?_
     refine then_normal ?_
     refine wq_seq ?_
     refine wq_region ?_
     refine wl_v (.pointer (some ⟨p, 0, none⟩)) rfl rfl (y_mov rfl s213 ⟨rfl, rfl⟩) ?_
     refine wl_call (R := fun v_ w_ => ∃ (T240 : Nat → Prop), .int .i64 ((gOne l a s).2.1) = v_ ∧ Kept (T187) w185 w_ ∧ (Rdx w_ T240 p ((l)) ((rdStep (signedRd (l) (9223372036854775807)) ((rdStep (wholeRd l gBig) s).2)).2) ((R)) ∧ Grew w185 (T187) T240)) rfl rfl (y_cs rfl rfl rfl (fun _ _ => by kernel_rfl) (ev_func _) (vsC rfl (vsC rfl vsN)) (t_rsignedX (p) (l) ((rdStep (wholeRd l gBig) s).2) (R) (9223372036854775807) (T187) _  B210 ) (fun e_ w_ h_ => by obtain ⟨T240_, he_, hr_⟩ := h_; exact ⟨_, he_, T240_, rfl, hr_⟩)) ?_
     rintro _ w238 ⟨T240, rfl, k239, ⟨B241, g242⟩⟩
     have B243 := B190.all k239 (fun x => (((ap194).symm) p1 rfl x))
     have B244 := B191.all k239 (fun x => (((ap195).symm) p24 rfl x))
     have K245 := K192.trans k239 (fun i hi x => ((Grew.ok (S := T_r) gr193 (fun _ x => x)) i hi x))
     have gr246 := gr193.trans K192 g242
     have ap247 : Apart T240 (onB p1) := (ap194).grew g242 (onB_live (B190).lt)
     have ap248 : Apart T240 (onB p24) := (ap195).grew g242 (onB_live (B191).lt)
     refine wl_v (.int .i64 ((gOne l a s).2.1)) rfl rfl (y_asg rfl rfl ⟨rfl, rfl⟩) ?_
     refine wl_nil fun F249 hF250 => ?_
     have s251 := (hF250 0).trans s213
     have s252 := (hF250 2).trans s214
     have s253 := (hF250 3).trans s215
     have s254 := (hF250 4).trans s216
     have s255 := (hF250 6).trans s217
     have s256 := (hF250 9).trans s218
     have s257 := (hF250 18).trans s219
     have s258 := (hF250 19).trans s220
     have s259 := (hF250 48).trans s221
     have s260 := (hF250 20).trans s222
     have s262 := (hF250 5).trans s224
     have s264 : F249 7 = .int .i64 ((gOne l a s).2.1) := (hF250 7).trans rfl
     clear hF250
     refine then_normal ?_
     refine wq_seq ?_
     refine wq_seq ?_
     have B265 : Rdx w238 (T240) p (l) ((gOne l a s).2.2) (R) := (B241)
     by_cases d266 : ((gOne l a s).2.1) = (0)
     ·skip
      refine wq_region ?_
      refine wl_v (.int .i64 ((gOne l a s).2.1)) rfl rfl (y_mov rfl s264 ⟨rfl, rfl⟩) ?_
      refine wl_v (.bool true) rfl rfl (y_eqlI rfl rfl rfl (decide_eq_true d266) ⟨rfl, rfl⟩) ?_
      refine wl_v (.bool true) rfl rfl (y_mov rfl rfl ⟨rfl, rfl⟩) ?_
      refine wl_unless 2 false 32 rfl rfl rfl (Or.inl rfl) rfl ?_
      refine wl_unless 2 false 32 rfl rfl rfl (Or.inl rfl) rfl ?_
      refine wl_unless 2 false 32 rfl rfl rfl (Or.inl rfl) rfl ?_
      refine wl_unless 2 false 32 rfl rfl rfl (Or.inl rfl) rfl ?_
      refine wl_v (.bool true) rfl rfl (y_pickT rfl rfl rfl ⟨rfl, rfl⟩) ?_
      refine wl_nil fun F267 hF268 => ?_
      have s270 := (hF268 2).trans s252
      have s277 := (hF268 48).trans s259
      have s283 : F267 37 = .bool true := (hF268 37).trans rfl
      clear hF268
      refine then_normal ?_
      refine wq_cond (t := true) s283 (fun _ => ?_) (fun e => by cases e)
      refine wq_goto ?_
      refine then_goto ?_
      refine in_goto ?_
      refine then_goto ?_
      refine then_goto ?_
      refine in_goto ?_
      refine then_goto ?_
      refine jump_goto ⟨_, rfl, ?_⟩
      refine wq_seq ?_
      refine wq_skip ?_
      refine then_normal ?_
      refine wq_seq ?_
      first | have hR := g_none (l := l) (s := st) (Or.inl (by assumption)) | have hR := g_none (l := l) (s := st) (Or.inr (by omega)) | have hR := g_far (by omega) hI (by omega) | have hR := g_bad (by omega) hI (by omega) (by first | exact Or.inl (by assumption) | exact Or.inr (by assumption))
      refine wq_region ?_
      refine wl_v (blkV (fun _ => 0)) rfl rfl (y_buildR (cells := (arrL 16 (fun _ => 0)).toArray) rfl (by kernel_rfl) rfl ⟨rfl, rfl⟩) ?_
      refine wl_store_blk blkT_block rfl rfl rfl s270 rfl B243 fun w284 B285 k286 => ?_
      have B287 := B265.all k286 (fun i h x => ((ap247) i h x))
      have K289 := K245.trans k286 (Grew.ok (S := T_r) gr7 noB_le)
      refine wl_v (.int .i64 (60)) rfl rfl (y_asg rfl rfl ⟨rfl, rfl⟩) ?_
      refine wl_nil fun F290 hF291 => ?_
      have s292 := (hF291 2).trans s270
      have s293 := (hF291 48).trans s277
      have s294 : F290 3 = .int .i64 (60) := (hF291 3).trans rfl
      clear hF291
      refine then_normal ?_
      refine wq_ret ?_
      refine stay_ret ?_
      exact end_2 s293 rfl (res_blk blkT_block rfl s292 B285) (res_tmp (v := .int .i64 (60)) rfl s294) ⟨T240, (by rw [← (told_as hR).1, ← (told_as hR).2.1]), K289, ⟨(by rw [(told_as hR).2.2]; exact B287), gr246⟩⟩
     ·skip
      refine wq_region ?_
      refine wl_v (.int .i64 ((gOne l a s).2.1)) rfl rfl (y_mov rfl s264 ⟨rfl, rfl⟩) ?_
      refine wl_v (.bool false) rfl rfl (y_eqlI rfl rfl rfl (decide_eq_false d266) ⟨rfl, rfl⟩) ?_
      refine wl_v (.bool false) rfl rfl (y_mov rfl rfl ⟨rfl, rfl⟩) ?_
      refine wl_vw (.int .i64 ((gOne l a s).2.1)) 2 false 32 rfl rfl rfl rfl rfl (y_mov rfl s264 ⟨rfl, rfl⟩) ?_
      refine wl_vw (.int .i64 ((gOne l a s).2.1)) 2 false 32 rfl rfl rfl rfl rfl (y_mov rfl s264 ⟨rfl, rfl⟩) ?_
      refine wl_callw (R := fun v_ w_ => v_ = .int .i64 (cl 1048576 ((gOne l a s).2.1)) ∧ Kept (fun _ => False) w238 w_) 2 false 32 rfl rfl rfl rfl rfl (y_cs rfl rfl rfl (fun _ _ => by kernel_rfl) (ev_func _) (vsC rfl vsN) (scan_clamped ((gOne l a s).2.1)  _   ) (fun e_ w_ h_ => ⟨_, h_.1, rfl, h_.2⟩)) ?_
      rintro _ w295 ⟨rfl, k296⟩
      have B297 := B265.all k296 Apart.none
      have B298 := B243.all k296 id
      have B299 := B244.all k296 id
      have K300 := K245.trans k296 (fun _ _ x => x.elim)
      refine wl_vw (.bool (decide (((gOne l a s).2.1) ≠ (cl 1048576 ((gOne l a s).2.1))))) 2 false 32 rfl rfl rfl rfl rfl (y_neqI rfl rfl rfl rfl ⟨rfl, rfl⟩) ?_
      refine wl_v (.bool (decide (((gOne l a s).2.1) ≠ (cl 1048576 ((gOne l a s).2.1))))) rfl rfl (y_pickF rfl rfl rfl ⟨rfl, rfl⟩) ?_
      refine wl_nil fun F301 hF302 => ?_
      have s303 := (hF302 0).trans s251
      have s304 := (hF302 2).trans s252
      have s305 := (hF302 3).trans s253
      have s306 := (hF302 4).trans s254
      have s307 := (hF302 6).trans s255
      have s308 := (hF302 9).trans s256
      have s309 := (hF302 18).trans s257
      have s310 := (hF302 19).trans s258
      have s311 := (hF302 48).trans s259
      have s312 := (hF302 20).trans s260
      have s314 := (hF302 5).trans s262
      have s316 := (hF302 7).trans s264
      have s317 : F301 37 = .bool (decide (((gOne l a s).2.1) ≠ (cl 1048576 ((gOne l a s).2.1)))) := (hF302 37).trans rfl
      clear hF302
      refine then_normal ?_
      refine wq_cond s317 (fun c318 => ?_) (fun c318 => ?_)
      ·replace c318 := of_decide_eq_true c318
       refine wq_goto ?_
       refine then_goto ?_
       refine in_goto ?_
       refine then_goto ?_
       refine then_goto ?_
       refine in_goto ?_
       refine then_goto ?_
       refine jump_goto ⟨_, rfl, ?_⟩
       refine wq_seq ?_
       refine wq_skip ?_
       refine then_normal ?_
       refine wq_seq ?_
       first | have hR := g_none (l := l) (s := st) (Or.inl (by assumption)) | have hR := g_none (l := l) (s := st) (Or.inr (by omega)) | have hR := g_far (by omega) hI (by omega) | have hR := g_bad (by omega) hI (by omega) (by first | exact Or.inl (by assumption) | exact Or.inr (by assumption))
       refine wq_region ?_
       refine wl_v (blkV (fun _ => 0)) rfl rfl (y_buildR (cells := (arrL 16 (fun _ => 0)).toArray) rfl (by kernel_rfl) rfl ⟨rfl, rfl⟩) ?_
       refine wl_store_blk blkT_block rfl rfl rfl s304 rfl B298 fun w319 B320 k321 => ?_
       have B322 := B297.all k321 (fun i h x => ((ap247) i h x))
       have K324 := K300.trans k321 (Grew.ok (S := T_r) gr7 noB_le)
       refine wl_v (.int .i64 (60)) rfl rfl (y_asg rfl rfl ⟨rfl, rfl⟩) ?_
       refine wl_nil fun F325 hF326 => ?_
       have s327 := (hF326 2).trans s304
       have s328 := (hF326 48).trans s311
       have s329 : F325 3 = .int .i64 (60) := (hF326 3).trans rfl
       clear hF326
       refine then_normal ?_
       refine wq_ret ?_
       refine stay_ret ?_
       exact end_2 s328 rfl (res_blk blkT_block rfl s327 B320) (res_tmp (v := .int .i64 (60)) rfl s329) ⟨T240, (by rw [← (told_as hR).1, ← (told_as hR).2.1]), K324, ⟨(by rw [(told_as hR).2.2]; exact B322), gr246⟩⟩
      ·replace c318 := of_decide_eq_false c318
       refine wq_skip ?_
       refine then_normal ?_
       refine wq_seq ?_
       have hN : ¬ ((gOne l a s).2.1 = 0 ∨ (gOne l a s).2.1 ≠ cl 1048576 (gOne l a s).2.1) := by rintro (h | h); exact absurd h (by assumption); exact absurd h (by assumption)
       have ho := ord_lt (gOne l a s).1 (by omega)
       refine wq_region ?_
       refine wl_v (.int .i64 ((((gOne l a s).1 : Nat) : Int))) rfl rfl (y_mov rfl s314 ⟨rfl, rfl⟩) ?_
       refine wl_v (.pointer (some ⟨1, (gOne l a s).1, none⟩)) rfl rfl (y_atR ((gOne l a s).1) (s := 1) rfl rfl rfl (by omega) Tryd.underlying24 (by omega) (by kernel_rfl) (by omega) ⟨rfl, rfl⟩) ?_
       refine wl_v (.int .i64 (((ord (gOne l a s).1 : Nat) : Int))) rfl rfl (y_ldR rfl rfl Tryd.underlying3 (((hO.but K300 hG).cell (by omega))) ⟨rfl, rfl⟩) ?_
       refine wl_v (.int .i64 ((gOne l a s).2.1)) rfl rfl (y_mov rfl s316 ⟨rfl, rfl⟩) ?_
       refine wl_v (.pointer (some ⟨p24, ord (gOne l a s).1, none⟩)) rfl rfl (y_atR (ord (gOne l a s).1) (s := 1) rfl s306 rfl (by omega) Tryd.underlying25 (by omega) (by kernel_rfl) (by omega) ⟨rfl, rfl⟩) ?_
       refine wl_set_blk rfl rfl rfl rfl rfl B299 (by omega) (by kernel_rfl) fun w330 B331 k332 => ?_
       have B333 := B297.all k332 (fun i h x => ((ap248) i h x))
       have B334 := B298.all k332 (fun x => (((ap32).symm) p1 rfl x))
       have K335 := K300.trans k332 (Grew.ok (S := T_r) gr30 noB_le)
       refine wl_nil fun F336 hF337 => ?_
       have s338 := (hF337 0).trans s303
       have s339 := (hF337 2).trans s304
       have s340 := (hF337 3).trans s305
       have s341 := (hF337 4).trans s306
       have s342 := (hF337 6).trans s307
       have s343 := (hF337 9).trans s308
       have s344 := (hF337 18).trans s309
       have s345 := (hF337 19).trans s310
       have s346 := (hF337 48).trans s311
       have s347 := (hF337 20).trans s312
       have s348 := (hF337 5).trans s314
       clear hF337
       refine then_normal ?_
       refine wq_region ?_
       refine wl_v (.int .i64 ((((gOne l a s).1 : Nat) : Int))) rfl rfl (y_mov rfl s348 ⟨rfl, rfl⟩) ?_
       refine wl_v (.int .i64 (((((gOne l a s).1) + 1 : Nat) : Int))) rfl rfl (y_add rfl rfl rfl (i64_n (by omega) (by omega)) ⟨rfl, rfl⟩) ?_
       refine wl_v (.int .i64 (((((gOne l a s).1) + 1 : Nat) : Int))) rfl rfl (y_asg rfl rfl ⟨rfl, rfl⟩) ?_
       refine wl_nil fun F351 hF352 => ?_
       have s353 := (hF352 0).trans s338
       have s354 := (hF352 2).trans s339
       have s355 := (hF352 3).trans s340
       have s356 := (hF352 4).trans s341
       have s357 := (hF352 6).trans s342
       have s358 := (hF352 9).trans s343
       have s359 := (hF352 18).trans s344
       have s360 := (hF352 19).trans s345
       have s361 := (hF352 48).trans s346
       have s362 := (hF352 20).trans s347
       have s365 : F351 5 = .int .i64 (((((gOne l a s).1) + 1 : Nat) : Int)) := (hF352 5).trans rfl
       clear hF352
       refine in_normal ?_
       refine then_normal ?_
       refine wq_region ?_
       refine wl_v (.int .i64 (((i + 1 : Nat) : Int))) rfl rfl (y_add rfl s362 rfl (i64_n (by omega) (by omega)) ⟨rfl, rfl⟩) ?_
       refine wl_v (.int .i64 (((i + 1 : Nat) : Int))) rfl rfl (y_mov rfl rfl ⟨rfl, rfl⟩) ?_
       refine wl_nil fun F366 hF367 => ?_
       have s368 := (hF367 0).trans s353
       have s369 := (hF367 2).trans s354
       have s370 := (hF367 3).trans s355
       have s371 := (hF367 4).trans s356
       have s372 := (hF367 6).trans s357
       have s373 := (hF367 9).trans s358
       have s374 := (hF367 18).trans s359
       have s375 := (hF367 19).trans s360
       have s376 := (hF367 48).trans s361
       have s379 := (hF367 5).trans s365
       have s380 : F366 20 = .int .i64 (((i + 1 : Nat) : Int)) := (hF367 20).trans rfl
       clear hF367
       exact then_normal ⟨(M - (i + 1)), by omega, i + 1, (gOne l a s).1 + 1, (upd b (ord (gOne l a s).1) (gOne l a s).2.1), (gOne l a s).2.2, T240, by omega, by omega, (g_ok (by omega) hI (by omega) hN), rfl, s368, s369, s370, s371, s372, s373, s374, s375, s376, s379, s380, K335, B333, B334, B331, gr246, ap247, ap248⟩
   ·replace c184 := of_decide_eq_false c184
    refine wq_exit ?_
    refine then_exit ?_
    refine then_exit ?_
    refine in_here ?_
    refine then_normal ?_
    refine wq_seq ?_
    refine wq_seq ?_
    have hR := g_done (by omega) hI
    refine wq_region ?_
    refine wl_v (blkV (b)) rfl rfl (y_load_blk blkT_block rfl s175 B166 ⟨rfl, rfl⟩) ?_
    refine wl_store_blk blkT_block rfl rfl rfl s173 rfl B165 fun w381 B382 k383 => ?_
    have B384 := B164.all k383 (fun i h x => ((ap168) i h x))
    have K386 := K149.trans k383 (Grew.ok (S := T_r) gr7 noB_le)
    refine wl_v (.int .i64 (0)) rfl rfl (y_asg rfl rfl ⟨rfl, rfl⟩) ?_
    refine wl_nil fun F387 hF388 => ?_
    have s389 := (hF388 2).trans s173
    have s390 := (hF388 48).trans s180
    have s391 : F387 3 = .int .i64 (0) := (hF388 3).trans rfl
    clear hF388
    refine then_normal ?_
    refine wq_ret ?_
    refine then_ret ?_
    refine jump_ret ?_
    exact end_2 s390 rfl (res_blk blkT_block rfl s389 B382) (res_tmp (v := .int .i64 (0)) rfl s391) ⟨T146, (by rw [← (told_as hR).1, ← (told_as hR).2.1]), K386, ⟨(by rw [(told_as hR).2.2]; exact B384), gr167⟩⟩
end Go.Proofs.YtdcbabgcbkdlhaaDoor
