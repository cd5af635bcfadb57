/- What BlockPredicts reaches of my texts, part 3. -/
import Derived.Test.YtdcbabgcbkdlhaaGreatDoorBlockPredictsB
set_option maxRecDepth 100000
set_option maxHeartbeats 4000000
set_option maxRecDepth 100000
namespace Go.Proofs.YtdcbabgcbkdlhaaGreatDoor
open Go.RowKit
structure Thg where
  A : World → Prop
  T : Nat → Prop
  B : (Nat → Prop) → World → Prop
  stA : ∀ (w w' : World) (S : Nat → Prop), A w → Kept S w w' → Apart T S → A w'
  stB : ∀ (w w' : World) (S T' : Nat → Prop), B T' w → Kept S w w' → Apart T' S → B T' w'
  liA : ∀ w, A w → Live w T
  liB : ∀ w T', B T' w → Live w T'
inductive Pt where
  | eq (v : Value)
  | thg (t : Thg) (v : Value)
def Pt.none : Pt := .eq undef
def saysT : Pt → Value
  | .eq v => v
  | .thg _ v => v
def curT (Gs : List Pt) (L : Nat → Bool) (Tf : Nat → Nat → Prop) (i : Nat) : Nat → Prop := match Gs.getD i Pt.none with
  | .eq _ => noB
  | .thg t _ => if L i = true then Tf i else t.T
def isT (Gs : List Pt) (L : Nat → Bool) (Tf : Nat → Nat → Prop) (w : World) (i : Nat) : Prop := match Gs.getD i Pt.none with
  | .eq _ => True
  | .thg t _ => if L i = true then t.B (Tf i) w else t.A w
structure JT (S : Nat → Prop) (w0 : World) (Gs : List Pt) (M : List (Nat × Nat)) (L : Nat → Bool) (v : Nat → Value) (Tf : Nat → Nat → Prop) (w : World) : Prop where
  kept : Kept S w0 w
  vals : ∀ i, L i = true → v i = saysT (Gs.getD i Pt.none)
  things : ∀ i, isT Gs L Tf w i
  grew : ∀ i t x, Gs.getD i Pt.none = .thg t x → L i = true → Grew w0 t.T (Tf i)
  apart : ∀ i j, i ≠ j → Apart (curT Gs L Tf i) (curT Gs L Tf j)
  clos : ∀ j i, (j, i) ∈ M → L j = true → L i = true
def OldT (S : Nat → Prop) (w0 : World) (Gs : List Pt) : Prop := (∀ i t x, Gs.getD i Pt.none = .thg t x → (∀ b, t.T b → S b) ∧ t.A w0) ∧ ∀ i j, i ≠ j → Apart (curT Gs (fun _ => false) (fun _ => noB) i) (curT Gs (fun _ => false) (fun _ => noB) j)
def FarT (T : Nat → Prop) : List Pt → Prop
  | [] => True
  | .thg t _ :: r => Apart T t.T ∧ FarT T r
  | .eq _ :: r => FarT T r
def OldsT (S : Nat → Prop) (w0 : World) : List Pt → Prop
  | [] => True
  | .thg t _ :: r => ((∀ b, t.T b → S b) ∧ t.A w0 ∧ FarT t.T r) ∧ OldsT S w0 r
  | .eq _ :: r => OldsT S w0 r
theorem FarT.at {T : Nat → Prop} : ∀ {Gs : List Pt}, FarT T Gs → ∀ i t x, Gs.getD i Pt.none = .thg t x → Apart T t.T := by
  intro Gs
  induction Gs with
  | nil => intro _ i t x h; cases h
  | cons g r ih =>
    intro h i t x e
    cases i with
    | zero =>
      have e : g = .thg t x := by simpa using e
      subst e; exact h.1
    | succ i =>
      have e : r.getD i Pt.none = .thg t x := by simpa using e
      cases g <;> first | exact ih h.2 i t x e | exact ih h i t x e
theorem OldsT.at {S : Nat → Prop} {w0 : World} : ∀ {Gs : List Pt}, OldsT S w0 Gs → ∀ i t x, Gs.getD i Pt.none = .thg t x → (∀ b, t.T b → S b) ∧ t.A w0 := by
  intro Gs
  induction Gs with
  | nil => intro _ i t x h; cases h
  | cons g r ih =>
    intro h i t x e
    cases i with
    | zero =>
      have e : g = .thg t x := by simpa using e
      subst e; exact ⟨h.1.1, h.1.2.1⟩
    | succ i =>
      have e : r.getD i Pt.none = .thg t x := by simpa using e
      cases g <;> first | exact ih h.2 i t x e | exact ih h i t x e
theorem OldsT.far {S : Nat → Prop} {w0 : World} : ∀ {Gs : List Pt}, OldsT S w0 Gs → ∀ i j t x t' x', i < j → Gs.getD i Pt.none = .thg t x → Gs.getD j Pt.none = .thg t' x' → Apart t.T t'.T := by
  intro Gs
  induction Gs with
  | nil => intro _ i j t x t' x' _ h; cases h
  | cons g r ih =>
    intro h i j t x t' x' hij e1 e2
    cases j with
    | zero => omega
    | succ j =>
      have e2 : r.getD j Pt.none = .thg t' x' := by simpa using e2
      cases i with
      | zero =>
        have e1 : g = .thg t x := by simpa using e1
        subst e1; exact h.1.2.2.at j t' x' e2
      | succ i =>
        have e1 : r.getD i Pt.none = .thg t x := by simpa using e1
        cases g <;> first | exact ih h.2 i j t x t' x' (by omega) e1 e2 | exact ih h i j t x t' x' (by omega) e1 e2
theorem OldsT.old {S : Nat → Prop} {w0 : World} {Gs : List Pt} (h : OldsT S w0 Gs) : OldT S w0 Gs := by
  refine ⟨fun i t x e => h.at i t x e, fun i j hij => ?_⟩
  unfold curT
  cases e1 : Gs.getD i Pt.none with
  | eq x => exact fun _ z => z.elim
  | thg t x =>
    cases e2 : Gs.getD j Pt.none with
    | eq y => exact fun _ _ z => z
    | thg t' y =>
      simp only [Bool.false_eq_true, if_false]
      rcases Nat.lt_or_gt_of_ne hij with hlt | hgt
      · exact h.far i j t x t' y hlt e1 e2
      · exact (h.far j i t' y t x hgt e2 e1).symm
def onT (w0 : World) (Gs : List Pt) (i : Nat) (w : World) : Prop := match Gs.getD i Pt.none with
  | .eq _ => True
  | .thg t _ => ∃ T', t.B T' w ∧ Grew w0 t.T T'
def ToldT (w0 : World) (Gs : List Pt) (M : List (Nat × Nat)) : Nat → Value → World → Prop := fun j v w => v = saysT (Gs.getD j Pt.none) ∧ onT w0 Gs j w ∧ ∀ i, (j, i) ∈ M → onT w0 Gs i w
def mustOk (os : List Oper) (M : List (Nat × Nat)) : Bool := M.all fun q => match os[q.1]? with | some o => o.after.toList.any (fun e => Region.binds .any e && (e.on == q.2 || M.contains (e.on, q.2))) | none => false
def LeftT (Gs : List Pt) (i : Nat) (w : World) (v : Value) (w' : World) : Prop := match Gs.getD i Pt.none with
  | .eq x => v = x ∧ Kept (fun _ => False) w w'
  | .thg t x => v = x ∧ Kept t.T w w' ∧ ∃ T', t.B T' w' ∧ Grew w t.T T'
theorem cur_live {S : Nat → Prop} {w0 w : World} {Gs : List Pt} {L : Nat → Bool} {v : Nat → Value} {Tf : Nat → Nat → Prop} {M : List (Nat × Nat)} (h : JT S w0 Gs M L v Tf w) (i : Nat) : Live w (curT Gs L Tf i) := by
  have := h.things i
  unfold isT at this
  unfold curT
  cases e : Gs.getD i Pt.none with
  | eq x => exact fun _ h => h.elim
  | thg t x =>
    rw [e] at this
    simp only at this ⊢
    cases hl : L i with
    | true => rw [hl] at this; rw [if_pos rfl] at this ⊢; exact t.liB w _ this
    | false => rw [hl] at this; rw [if_neg (by simp)] at this ⊢; exact t.liA w this
theorem cur_up {Gs : List Pt} {L : Nat → Bool} {Tf Tf' : Nat → Nat → Prop} {i j : Nat} (h : j ≠ i) (hT : Tf' j = Tf j) : curT Gs (fun k => if k = i then true else L k) Tf' j = curT Gs L Tf j := by
  unfold curT
  cases Gs.getD j Pt.none with
  | eq x => rfl
  | thg t x => simp only [if_neg h, hT]
theorem is_up {Gs : List Pt} {L : Nat → Bool} {Tf Tf' : Nat → Nat → Prop} {w : World} {i j : Nat} (h : j ≠ i) (hT : Tf' j = Tf j) : isT Gs (fun k => if k = i then true else L k) Tf' w j = isT Gs L Tf w j := by
  unfold isT
  cases Gs.getD j Pt.none with
  | eq x => rfl
  | thg t x => simp only [if_neg h, hT]
theorem is_kept {S' : Nat → Prop} {Gs : List Pt} {L : Nat → Bool} {Tf : Nat → Nat → Prop} {w w' : World} {j : Nat} (h : isT Gs L Tf w j) (k : Kept S' w w') (ha : Apart (curT Gs L Tf j) S') : isT Gs L Tf w' j := by
  unfold isT at h ⊢
  unfold curT at ha
  cases e : Gs.getD j Pt.none with
  | eq x => trivial
  | thg t x =>
    rw [e] at h ha
    simp only at h ha ⊢
    split
    · rename_i hl; rw [if_pos hl] at h ha; exact t.stB w w' S' _ h k ha
    · rename_i hl; rw [if_neg hl] at h ha; exact t.stA w w' S' h k ha
theorem JT.more {S : Nat → Prop} {w0 w w' : World} {Gs : List Pt} {M : List (Nat × Nat)} {L : Nat → Bool} {v : Nat → Value} {Tf : Nat → Nat → Prop} {i : Nat} {x : Value} (hO : OldT S w0 Gs) (h : JT S w0 Gs M L v Tf w) (hi : L i = false) (hM : ∀ k, (i, k) ∈ M → L k = true) (hx : LeftT Gs i w x w') : ∃ Tf', JT S w0 Gs M (upL L i) (upV v i x) Tf' w' := by
  have hcl : ∀ j k, (j, k) ∈ M → upL L i j = true → upL L i k = true := fun j k hm hj => by
    have hk : L k = true := by
      by_cases hji : j = i
      · subst hji; exact hM k hm
      · rw [show upL L i j = L j from if_neg hji] at hj; exact h.clos j k hm hj
    unfold upL; split <;> first | rfl | exact hk
  unfold LeftT at hx
  cases e : Gs.getD i Pt.none with
  | eq y =>
    rw [e] at hx
    refine ⟨Tf, h.kept.trans hx.2 (fun _ _ z => z.elim), fun j hj => ?_, fun j => ?_, fun j t z hj hl => ?_, fun a b hab => ?_, hcl⟩
    · by_cases hji : j = i
      · subst hji; rw [show upV v j x j = x from if_pos rfl, e]; exact hx.1
      · rw [show upL L i j = L j from if_neg hji] at hj; rw [show upV v i x j = v j from if_neg hji]; exact h.vals j hj
    · by_cases hji : j = i
      · subst hji; unfold isT; rw [e]; trivial
      · rw [show isT Gs (upL L i) Tf w' j = isT Gs L Tf w' j from is_up hji rfl]; exact is_kept (h.things j) hx.2 (fun _ _ z => z)
    · have hji : j ≠ i := fun z' => by rw [z', e] at hj; cases hj
      rw [show upL L i j = L j from if_neg hji] at hl; exact h.grew j t z hj hl
    · have hc : ∀ c, curT Gs (upL L i) Tf c = curT Gs L Tf c := fun c => by
        by_cases hci : c = i
        · subst hci; unfold curT; rw [e]
        · exact cur_up hci rfl
      rw [hc, hc]; exact h.apart a b hab
  | thg t y =>
    rw [e] at hx
    obtain ⟨hv, k, T', hB, hG⟩ := hx
    have hcur : curT Gs L Tf i = t.T := by unfold curT; rw [e]; simp [hi]
    have hTf : ∀ c, c ≠ i → (fun c => if c = i then T' else Tf c) c = Tf c := fun c hc => by simp [hc]
    have hci : curT Gs (upL L i) (fun c => if c = i then T' else Tf c) i = T' := by unfold curT; rw [e]; simp [upL]
    have hcj : ∀ c, c ≠ i → curT Gs (upL L i) (fun c => if c = i then T' else Tf c) c = curT Gs L Tf c := fun c hc => cur_up hc (hTf c hc)
    have hnew : ∀ c, c ≠ i → Apart T' (curT Gs L Tf c) := fun c hc => by
      have := h.apart i c (fun z => hc z.symm)
      rw [hcur] at this
      exact this.grew hG (cur_live h c)
    refine ⟨fun c => if c = i then T' else Tf c, h.kept.trans k (fun b _ hb => (hO.1 i t y e).1 b hb), fun j hj => ?_, fun j => ?_, fun j t' z hj hl => ?_, fun a b hab => ?_, hcl⟩
    · by_cases hji : j = i
      · subst hji; rw [show upV v j x j = x from if_pos rfl, e]; exact hv
      · rw [show upL L i j = L j from if_neg hji] at hj; rw [show upV v i x j = v j from if_neg hji]; exact h.vals j hj
    · by_cases hji : j = i
      · subst hji; unfold isT; rw [e]; simp only [upL]; simpa using hB
      · rw [show isT Gs (upL L i) (fun c => if c = i then T' else Tf c) w' j = isT Gs L Tf w' j from is_up hji (hTf j hji)]
        exact is_kept (h.things j) k (by have := h.apart j i hji; rw [hcur] at this; exact this)
    · by_cases hji : j = i
      · subst hji
        rw [e] at hj; cases hj
        simp only [if_true]
        exact fun b hb => (hG b hb).elim .inl (fun hge => .inr (Nat.le_trans h.kept.size hge))
      · rw [show upL L i j = L j from if_neg hji] at hl
        simp only [if_neg hji]; exact h.grew j t' z hj hl
    · by_cases hai : a = i
      · subst hai
        rw [hci, hcj b (fun z => hab z.symm)]; exact hnew b (fun z => hab z.symm)
      · rw [hcj a hai]
        by_cases hbi : b = i
        · subst hbi; rw [hci]; exact (hnew a hai).symm
        · rw [hcj b hbi]; exact h.apart a b hab
theorem y_setStc {P : Program} {ρ : Operand → Value} {o : Oper} {w : World} {R : Value → World → Prop} {ty t : TypeId} {x y : Operand} {p k : Nat} {v u : Value} {vs : List Value} (ho : o.op = .store ty x y) (hx : ρ x = .pointer (some ⟨p, k, none⟩)) (hy : ρ y = v) (hB : Stc w p t vs) (hk : vs[k]? = some u) (hv : oneC v = true)
    (hs : (P.info? ty).map (·.size) = some 1)
    (h : ∀ w', Stc w' p t (vs.set k v) → Kept (fun k => k = p) w w' → R undef w') : Yields P ρ o w R := by
  have hc := hB.cell hk
  have hf : w.frozen? ⟨p, k, none⟩ = false := frozen_of_heap hB
  cases hq : P.info? ty with
  | none => simp [hq] at hs
  | some i =>
    have hs' : i.size = 1 := by simpa [hq] using hs
    have e : (execOp ρ o).run P w = .ok .skip (w.setCell ⟨p, k, none⟩ v) ∨ (execOp ρ o).run P w = .ok (.value undef) (w.setCell ⟨p, k, none⟩ v) := by
      cases v <;> first
        | (simp [oneC] at hv; done)
        | simp [execOp, ho, hx, hy, Instr.storeAt, Instr.sureAddr, storeVar, sizeOf, typeInfo, hq, hs', Value.cells, hc, hf, go_sem]
    unfold Yields
    rcases e with e | e <;> rw [e] <;> exact h _ (hB.set k v) ((Kept.refl (fun k => k = p) w).setCell ⟨p, k, none⟩ (fun _ => rfl) _)
def stcThg (p : Nat) (t : TypeId) (zs us : List Value) : Thg := ⟨fun w => Stc w p t zs, onB p, fun T w => T = onB p ∧ Stc w p t us, fun _ _ _ h k ha => h.all k (ha p rfl), fun _ _ _ _ h k ha => ⟨h.1, h.2.all k (ha p (by rw [h.1]; rfl))⟩, fun _ h => onB_live h.lt, fun _ _ h => by rw [h.1]; exact onB_live h.2.lt⟩
section
variable {P : Program} {N : Nat} {F : Nat → Value} {w : World} {Q : Exit → (Nat → Value) → World → Prop}
def StepFT (S : Nat → Prop) (M : List (Nat × Nat)) (N : Nat) (P : Program) (D : List (Option Tmp)) (Gs : List Pt) (F0 : Nat → Value) (w0 : World) (i : Nat) (o : Oper) : Prop :=
  ∀ (F : Nat → Value) (w : World), Kept S w0 w → (∀ t, Nat.blt t N = true → some t ∉ D → F t = F0 t) → DepsF D (ToldT w0 Gs M) F w o.after.toList → (∀ k t x, (k = i ∨ (k, i) ∈ M) → Gs.getD k Pt.none = .thg t x → t.A w) →
    match o.guard with
    | none => Yields P (ev F) o w (LeftT Gs i w)
    | some (j, want) => ∃ d, D.getD j none = some d ∧
      ((F d = .bool want ∧ Yields P (ev F) o w (LeftT Gs i w)) ∨ ((F d = .bool (!want) ∨ F d = undef) ∧ Gs.getD i Pt.none = .eq undef))
def StepsFT (S : Nat → Prop) (M : List (Nat × Nat)) (N : Nat) (P : Program) (D : List (Option Tmp)) (Gs : List Pt) (F0 : Nat → Value) (w0 : World) : Nat → List Oper → Prop
  | _, [] => True
  | i, o :: r => StepFT S M N P D Gs F0 w0 i o ∧ StepsFT S M N P D Gs F0 w0 (i + 1) r
theorem stepsFT_nil {S : Nat → Prop} {M : List (Nat × Nat)} {D : List (Option Tmp)} {Gs : List Pt} {F0 : Nat → Value} {w0 : World} {i : Nat} : StepsFT S M N P D Gs F0 w0 i [] := trivial
theorem stepsFT_cons {S : Nat → Prop} {M : List (Nat × Nat)} {D : List (Option Tmp)} {Gs : List Pt} {F0 : Nat → Value} {w0 : World} {i : Nat} {o : Oper} {r : List Oper} (h : StepFT S M N P D Gs F0 w0 i o) (k : StepsFT S M N P D Gs F0 w0 (i + 1) r) : StepsFT S M N P D Gs F0 w0 i (o :: r) := ⟨h, k⟩
theorem StepFT.one {S : Nat → Prop} {M : List (Nat × Nat)} {D : List (Option Tmp)} {Gs : List Pt} {F0 : Nat → Value} {w0 : World} {i : Nat} {o : Oper} (hg : o.guard = none)
    (h : ∀ (F : Nat → Value) (w : World), Kept S w0 w → (∀ t, Nat.blt t N = true → some t ∉ D → F t = F0 t) → DepsF D (ToldT w0 Gs M) F w o.after.toList → Yields P (ev F) o w (LeftT Gs i w)) : StepFT S M N P D Gs F0 w0 i o := by
  intro F w h1 h2 h3 _
  rw [hg]; exact h F w h1 h2 h3
theorem StepFT.oneA {S : Nat → Prop} {M : List (Nat × Nat)} {D : List (Option Tmp)} {Gs : List Pt} {F0 : Nat → Value} {w0 : World} {i : Nat} {o : Oper} (hg : o.guard = none)
    (h : ∀ (F : Nat → Value) (w : World), Kept S w0 w → (∀ t, Nat.blt t N = true → some t ∉ D → F t = F0 t) → DepsF D (ToldT w0 Gs M) F w o.after.toList → (∀ k t x, (k, i) ∈ M → Gs.getD k Pt.none = .thg t x → t.A w) → Yields P (ev F) o w (LeftT Gs i w)) : StepFT S M N P D Gs F0 w0 i o := by
  intro F w h1 h2 h3 h4
  rw [hg]; exact h F w h1 h2 h3 (fun k t x hk => h4 k t x (.inr hk))
theorem StepFT.turn {S : Nat → Prop} {M : List (Nat × Nat)} {D : List (Option Tmp)} {Gs : List Pt} {F0 : Nat → Value} {w0 : World} {i : Nat} {t : Thg} {x : Value} {o : Oper} (hg : o.guard = none) (he : Gs.getD i Pt.none = .thg t x)
    (h : ∀ (F : Nat → Value) (w : World), Kept S w0 w → (∀ t, Nat.blt t N = true → some t ∉ D → F t = F0 t) → DepsF D (ToldT w0 Gs M) F w o.after.toList → t.A w → Yields P (ev F) o w (fun v w' => v = x ∧ Kept t.T w w' ∧ ∃ T', t.B T' w' ∧ Grew w t.T T')) : StepFT S M N P D Gs F0 w0 i o := by
  intro F w h1 h2 h3 h4
  rw [hg]
  refine (h F w h1 h2 h3 (h4 i t x (.inl rfl) he)).mono' fun v w' hx => ?_
  unfold LeftT; rw [he]; exact hx
theorem StepFT.step {S : Nat → Prop} {M : List (Nat × Nat)} {os : List Oper} {D : List (Option Tmp)} {Gs : List Pt} {w0 : World} {i : Nat} {o : Oper} {a0 : Act} (hO : OldT S w0 Gs) (hmo : mustOk os M = true) (hio : os[i]? = some o) (ha : Fr N F a0) (h : StepFT S M N P D Gs F w0 i o) : StepJ os P D (fun L v w => ∃ Tf, JT S w0 Gs M L v Tf w) a0 i o := by
  rintro L v a w ⟨Tf, hJ⟩ hi hdone hout hhere _
  have hdeps : DepsF D (ToldT w0 Gs M) (fun t => a.tmps.getD t undef) w o.after.toList := by
    refine Deps.toF (Deps.mk fun e he hb d hd => ?_)
    have hl := hdone e he hb
    have hDe : D[e.on]? = some (some d) := by
      unfold List.getD at hd
      cases hq : D[e.on]? with
      | none => rw [hq] at hd; cases hd
      | some y => rw [hq] at hd; simp at hd; rw [hd]
    rw [hhere e.on d hl hDe, hJ.vals e.on hl]
    have key : ∀ c, L c = true → onT w0 Gs c w := fun c hc => by
      have ht := hJ.things c
      unfold onT
      unfold isT at ht
      cases e' : Gs.getD c Pt.none with
      | eq y => trivial
      | thg t y =>
        rw [e'] at ht
        simp only [hc, if_true] at ht
        exact ⟨_, ht, hJ.grew c t y e' hc⟩
    exact ⟨rfl, key _ hl, fun c hc => key c (hJ.clos _ _ hc hl)⟩
  have hM : ∀ k, (i, k) ∈ M → L k = true := fun k hk => by
    have := List.all_eq_true.1 hmo _ hk
    simp only [hio] at this
    obtain ⟨e, he, hb⟩ := List.any_eq_true.1 this
    simp only [Bool.and_eq_true, Bool.or_eq_true, beq_iff_eq] at hb
    have hl := hdone e he hb.1
    rcases hb.2 with h1 | h1
    · rw [← h1]; exact hl
    · exact hJ.clos _ _ (by simpa using h1) hl
  have h1 := h (fun t => a.tmps.getD t undef) w hJ.kept (fun t hb ht => by rw [← ha.at' t hb]; exact hout t ht) hdeps (fun k t x hk e => by
    have hLk : L k = false := by
      rcases hk with rfl | hk
      · exact hi
      · cases hL : L k with
        | false => rfl
        | true => have := hJ.clos k i hk hL; rw [hi] at this; cases this
    have := hJ.things k
    unfold isT at this
    rw [e] at this
    simpa [hLk] using this)
  rw [← eval_ev a] at h1
  unfold goes
  cases hg : o.guard with
  | none => rw [hg] at h1; exact ⟨fun _ => h1.mono' fun x w' hx => hJ.more hO hi hM hx, fun e => by cases e⟩
  | some g =>
    obtain ⟨j, want⟩ := g
    rw [hg] at h1
    obtain ⟨d, hd, h1⟩ := h1
    simp only [hd]
    have hev : a.eval (.tmp d) = a.tmps.getD d undef := rfl
    rcases h1 with ⟨hv, hy⟩ | ⟨hv, hs⟩
    · rw [hev, hv]; exact ⟨fun _ => hy.mono' fun x w' hx => hJ.more hO hi hM hx, fun e => by simp at e⟩
    · refine ⟨fun e => ?_, fun _ => hJ.more hO hi hM (by unfold LeftT; rw [hs]; exact ⟨rfl, Kept.refl _ _⟩)⟩
      rcases hv with hv | hv
      · rw [hev, hv] at e; cases want <;> simp at e
      · rw [hev, hv] at e; simp [undef] at e
theorem StepsFT.steps {S : Nat → Prop} {M : List (Nat × Nat)} {all : List Oper} {D : List (Option Tmp)} {Gs : List Pt} {w0 : World} {a0 : Act} (hO : OldT S w0 Gs) (hmo : mustOk all M = true) (ha : Fr N F a0) : ∀ {os : List Oper} {i : Nat}, (∀ k o, os[k]? = some o → all[i + k]? = some o) → StepsFT S M N P D Gs F w0 i os → StepsJ all P D (fun L v w => ∃ Tf, JT S w0 Gs M L v Tf w) a0 i os := by
  intro os
  induction os with
  | nil => intro i _ _; exact trivial
  | cons o r ih =>
    intro i hat h
    exact ⟨h.1.step hO hmo (hat 0 o rfl) ha, ih (fun k o' hk => by have := hat (k + 1) o' hk; rwa [show i + (k + 1) = i + 1 + k by omega] at this) h.2⟩
theorem wq_turns {S : Nat → Prop} {id : Nat} {ops : Array Oper} (M : List (Nat × Nat)) (D : List (Option Tmp)) (Gs : List Pt) (hm : P.follows .mixedOrders = true) (hpl : plain N 0 D ops.toList = true) (hmo : mustOk ops.toList M = true) (hsz : Gs.length = ops.size) (hO : OldT S w Gs) (hsteps : StepsFT S M N P D Gs F w 0 ops.toList)
    (hend : ∀ (v : Nat → Value) (Tf : Nat → Nat → Prop) (F' : Nat → Value) (w' : World), Kept S w w' → (∀ i, i < ops.size → v i = saysT (Gs.getD i Pt.none)) → (∀ i t x, Gs.getD i Pt.none = .thg t x → t.B (Tf i) w' ∧ Grew w t.T (Tf i)) → (∀ i j t x t' x', i ≠ j → Gs.getD i Pt.none = .thg t x → Gs.getD j Pt.none = .thg t' x' → Apart (Tf i) (Tf j)) → (∀ t, F' t = putsF v 0 D F t) → Q .normal F' w') : wq none P N (.region id ops true) Q F w := by
  intro a ha
  refine wpIn_wide.2 ?_
  refine wp_region_inv D (fun L v w' => ∃ Tf, JT S w Gs M L v Tf w') hm (by rw [ha.size]; exact hpl) ⟨fun _ => noB, (Kept.refl _ w).drew, fun _ e => (by cases e), fun i => ?_, fun _ _ _ _ e => (by cases e), hO.2, fun _ _ _ e => (by cases e)⟩ (hsteps.steps hO hmo ha (fun k o hk => by rw [Nat.zero_add]; exact hk)) fun L v w' ⟨Tf, hJ⟩ hL => ?_
  · unfold isT
    cases e : Gs.getD i Pt.none with
    | eq y => trivial
    | thg t y => exact t.stA w _ (fun _ => False) (hO.1 i t y e).2 (Kept.refl _ w).drew (fun _ _ z => z)
  · have hlt : ∀ i t x, Gs.getD i Pt.none = .thg t x → L i = true := fun i t x e => by
      refine hL i ?_
      rw [← hsz]
      rcases Nat.lt_or_ge i Gs.length with h' | h'
      · exact h'
      · have : Gs.getD i Pt.none = Pt.none := by simp [List.getD, List.getElem?_eq_none h']
        rw [this] at e; cases e
    refine ⟨putsF v 0 D F, putAll_fr v D 0 F a ha (plain_fits hpl), hend v Tf _ w' hJ.kept (fun i hi => hJ.vals i (hL i hi)) (fun i t x e => ?_) (fun i j t x t' x' hij e1 e2 => ?_) fun _ => rfl⟩
    · have := hJ.things i
      unfold isT at this
      rw [e] at this
      simp only [hlt i t x e, if_true] at this
      exact ⟨this, hJ.grew i t x e (hlt i t x e)⟩
    · have := hJ.apart i j hij
      unfold curT at this
      rw [e1, e2] at this
      simpa only [hlt i t x e1, hlt j t' x' e2, if_true] using this
end
end Go.Proofs.YtdcbabgcbkdlhaaGreatDoor
set_option maxRecDepth 100000
namespace Go.Proofs.YtdcbabgcbkdlhaaGreatDoor
open Go.RowKit
def hold (L : Nat → Bool) (v : Nat → Value) (C : Nat → List Nat) (vI : Value) (lI : List Nat) : List Nat → Value × List Nat
  | [] => (vI, lI)
  | x :: r => if L x = true then (v x, C x) else hold L v C vI lI r
def Closed (L : Nat → Bool) : List Nat → Prop
  | [] => True
  | [_] => True
  | y :: x :: r => (L y = true → L x = true) ∧ Closed L (x :: r)
theorem Closed.later {L : Nat → Bool} : ∀ {ys : List Nat} {x : Nat} {r : List Nat}, Closed L (ys ++ x :: r) → L x = false → ∀ y ∈ ys, L y = false := by
  intro ys
  induction ys with
  | nil => intro x r _ _ y hy; cases hy
  | cons z zs ih =>
    intro x r h hx y hy
    have hrec : Closed L (zs ++ x :: r) := by
      cases zs with
      | nil => exact h.2
      | cons z' zs' => exact h.2
    have hzs := ih hrec hx
    rcases List.mem_cons.1 hy with rfl | hy
    · cases hz : L y with
      | false => rfl
      | true =>
        cases zs with
        | nil => have := h.1 hz; rw [hx] at this; cases this
        | cons z' zs' => have := h.1 hz; rw [hzs z' (by simp)] at this; cases this
    · exact hzs y hy
theorem hold_later {L : Nat → Bool} {v : Nat → Value} {C : Nat → List Nat} {vI : Value} {lI : List Nat} : ∀ {ys r : List Nat}, (∀ y ∈ ys, L y = false) → hold L v C vI lI (ys ++ r) = hold L v C vI lI r := by
  intro ys
  induction ys with
  | nil => intro r _; rfl
  | cons z zs ih =>
    intro r h
    simp only [List.cons_append, hold]
    rw [if_neg (by rw [h z (by simp)]; decide)]
    exact ih (fun y hy => h y (by simp [hy]))
theorem Closed.up {L : Nat → Bool} : ∀ {X : List Nat} {i : Nat}, Closed L X → (∀ ys x r, X = ys ++ i :: x :: r → L x = true) → Closed (upL L i) X := by
  intro X
  induction X with
  | nil => intro i _ _; exact trivial
  | cons y r ih =>
    intro i h hp
    cases r with
    | nil => exact trivial
    | cons x r =>
      refine ⟨fun hy => ?_, ih h.2 fun ys x' r' e => hp (y :: ys) x' r' (by rw [e]; rfl)⟩
      unfold upL at hy ⊢
      by_cases hx : x = i
      · rw [if_pos hx]
      · rw [if_neg hx]
        by_cases hyi : y = i
        · subst hyi; exact hp [] x r rfl
        · rw [if_neg hyi] at hy; exact h.1 hy
theorem Closed.up_other {L : Nat → Bool} {X : List Nat} {i : Nat} (h : Closed L X) (hi : i ∉ X) : Closed (upL L i) X :=
  h.up fun ys x r e => absurd (by rw [e]; simp) hi
theorem hold_up_other {L : Nat → Bool} {v : Nat → Value} {C : Nat → List Nat} {vI : Value} {lI : List Nat} {i : Nat} {x : Value} : ∀ {X : List Nat}, i ∉ X → hold (upL L i) (upV v i x) C vI lI X = hold L v C vI lI X := by
  intro X
  induction X with
  | nil => intro _; rfl
  | cons y r ih =>
    intro hi
    have hy : y ≠ i := fun e => hi (by simp [e])
    simp only [hold]
    rw [show upL L i y = L y from if_neg hy, show upV v i x y = v y from if_neg hy, ih (fun h => hi (by simp [h]))]
def OwnJ (w0 : World) (S0 : Nat → Prop) (B : Nat) (vI : Value) (lI : List Nat) (X : List Nat) (C : Nat → List Nat) (G : Nat → Value → World → Prop) (L : Nat → Bool) (v : Nat → Value) (w : World) : Prop :=
  ∃ S : Nat → Prop, (∀ k, S k → k < w.heap.size) ∧ (∀ k, S k → S0 k ∨ w0.heap.size ≤ k) ∧ Kept S w0 w ∧ Closed L X ∧ (∀ j, L j = true → ∀ w', Kept S w w' → G j (v j) w') ∧
    Row w B (hold L v C vI lI X).1 (hold L v C vI lI X).2 ∧ (∀ g, (hold L v C vI lI X).1.ownBlock = some g → S g)
theorem StepJ.other {os : List Oper} {P : Program} {D : List (Option Tmp)} {w0 : World} {S0 : Nat → Prop} {B : Nat} {vI : Value} {lI X : List Nat} {C : Nat → List Nat} {G : Nat → Value → World → Prop} {a0 : Act} {i : Nat} {o : Oper} (hi : i ∉ X)
    (h : ∀ (S : Nat → Prop) (a : Act) (w : World), (∀ k, S k → k < w.heap.size) → (∀ w', Kept S w w' → Kept S0 w0 w') → (∀ t, some t ∉ D → a.eval (.tmp t) = a0.eval (.tmp t)) → (∀ t, late os t i = true → a.eval (.tmp t) = a0.eval (.tmp t)) →
      Deps D (fun j x w => ∀ w', Kept S w w' → G j x w') a w o.after.toList → (∀ x, X.head? = some x → ∀ e ∈ o.after.toList, e.on = x → Region.binds .any e = true → ∀ d, D.getD x none = some d → Row w B (a.eval (.tmp d)) (C x)) →
      (goes D o a = true → Yields P a.eval o w (fun x w' => (∀ w'', Kept S w' w'' → G i x w'') ∧ Kept (fun _ => False) w w')) ∧ (goes D o a = false → ∀ w', Kept S w w' → G i undef w')) :
    StepJ os P D (OwnJ w0 S0 B vI lI X C G) a0 i o := by
  intro L v a w ⟨S, hlt, h0, hk, hcl, hg, hrow, hown⟩ hli hedges hout hhere hlate
  have hR : ∀ w', Kept S w w' → Kept S0 w0 w' := fun w' k => (hk.trans k (fun _ _ x => x)).mono (fun b hb hS => by
    rcases h0 b hS with h | h
    · exact h
    · omega)
  have hdeps : Deps D (fun j x w => ∀ w', Kept S w w' → G j x w') a w o.after.toList := Deps.mk fun e he hb d hd => by
    have hL := hedges e he hb
    have hDe : D[e.on]? = some (some d) := by
      cases hx : D[e.on]? with
      | none => simp [List.getD, hx] at hd
      | some y => simp [List.getD, hx] at hd; rw [hd]
    rw [hhere e.on d hL hDe]
    exact hg e.on hL
  have hr : ∀ x, X.head? = some x → ∀ e ∈ o.after.toList, e.on = x → Region.binds .any e = true → ∀ d, D.getD x none = some d → Row w B (a.eval (.tmp d)) (C x) := by
    intro x hx e he hex hb d hd
    subst hex
    have hL := hedges e he hb
    have hDe : D[e.on]? = some (some d) := by
      cases hx : D[e.on]? with
      | none => simp [List.getD, hx] at hd
      | some y => simp [List.getD, hx] at hd; rw [hd]
    rw [hhere e.on d hL hDe]
    cases X with
    | nil => cases hx
    | cons y r =>
      simp at hx
      subst hx
      simpa [hold, hL] using hrow
  obtain ⟨s1, s2⟩ := h S a w hlt hR hout hlate hdeps hr
  have fin : ∀ (x : Value) (w' : World), (∀ w'', Kept S w' w'' → G i x w'') → Kept (fun _ => False) w w' → OwnJ w0 S0 B vI lI X C G (upL L i) (upV v i x) w' := by
    intro x w' hG hkk
    refine ⟨S, fun k hS => Nat.lt_of_lt_of_le (hlt k hS) hkk.size, h0, hk.trans hkk (fun _ _ f => f.elim), hcl.up_other hi, fun j hj w'' k => ?_, ?_, ?_⟩
    · by_cases hji : j = i
      · subst hji; rw [show upV v j x j = x from if_pos rfl]; exact hG w'' k
      · rw [show upL L i j = L j from if_neg hji] at hj
        rw [show upV v i x j = v j from if_neg hji]
        exact hg j hj w'' ((hkk.mono (S' := S) (fun _ _ f => f.elim)).trans k (fun _ _ f => f))
    · rw [hold_up_other hi]; exact hrow.all hkk
    · rw [hold_up_other hi]; exact hown
  refine ⟨fun hgo => ?_, fun hgo => fin undef w (s2 hgo) (Kept.refl _ _)⟩
  have := s1 hgo
  revert this
  unfold Yields
  generalize (execOp a.eval o).run P w = r
  intro hh
  cases r with
  | ok n w' =>
    cases n <;> simp only at hh ⊢ <;> first
      | exact fin _ _ hh.1 hh.2
      | exact hh.elim
      | exact Calls.mono hh (fun e w'' ⟨y, he, hk⟩ => ⟨y, he, fin _ _ hk.1 hk.2⟩)
  | halt x w' => exact hh.elim
def Prev (D : List (Option Tmp)) (C : Nat → List Nat) (vI : Value) (lI : List Nat) (a : Act) (p : Value) (lp : List Nat) : List Nat → Prop
  | [] => p = vI ∧ lp = lI
  | x :: _ => lp = C x ∧ ∀ d, D.getD x none = some d → p = a.eval (.tmp d)
theorem StepJ.own {os : List Oper} {P : Program} {D : List (Option Tmp)} {w0 : World} {S0 : Nat → Prop} {B : Nat} {vI : Value} {lI X : List Nat} {C : Nat → List Nat} {G : Nat → Value → World → Prop} {a0 : Act} {i : Nat} {o : Oper} (ys r : List Nat) (hX : X = ys ++ i :: r) (hnd : i ∉ ys ∧ i ∉ r)
    (hr : ∀ x, r.head? = some x → ∃ e ∈ o.after.toList, e.on = x ∧ Region.binds .any e = true ∧ ∃ d, D.getD x none = some d) (hG : ∀ x w, G i x w)
    (h : ∀ (S : Nat → Prop) (a : Act) (w : World), (∀ k, S k → k < w.heap.size) → (∀ w', Kept S w w' → Kept S0 w0 w') → (∀ t, some t ∉ D → a.eval (.tmp t) = a0.eval (.tmp t)) → (∀ t, late os t i = true → a.eval (.tmp t) = a0.eval (.tmp t)) →
      Deps D (fun j x w => ∀ w', Kept S w w' → G j x w') a w o.after.toList → ∀ (p : Value) (lp : List Nat), Row w B p lp →
      Prev D C vI lI a p lp r →
      goes D o a = true ∧ Yields P a.eval o w (fun x w' => Row w' B x (C i) ∧ Kept (fun k => p.ownBlock = some k) w w' ∧ (x.ownBlock = p.ownBlock ∨ ∀ g, x.ownBlock = some g → w.heap.size ≤ g))) :
    StepJ os P D (OwnJ w0 S0 B vI lI X C G) a0 i o := by
  intro L v a w ⟨S, hlt, h0, hk, hcl, hg, hrow, hown⟩ hli hedges hout hhere hlate
  subst hX
  have hlater := hcl.later hli
  have hhold : hold L v C vI lI (ys ++ i :: r) = hold L v C vI lI r := by
    rw [hold_later hlater]
    show (if L i = true then (v i, C i) else hold L v C vI lI r) = hold L v C vI lI r
    rw [if_neg (by rw [hli]; decide)]
  rw [hhold] at hrow hown
  have hR : ∀ w', Kept S w w' → Kept S0 w0 w' := fun w' k => (hk.trans k (fun _ _ x => x)).mono (fun b hb hS => by
    rcases h0 b hS with h | h
    · exact h
    · omega)
  have hat : ∀ (j : Nat) (d : Tmp), D.getD j none = some d → D[j]? = some (some d) := by
    intro j d hd
    cases hx : D[j]? with
    | none => simp [List.getD, hx] at hd
    | some y => simp [List.getD, hx] at hd; rw [hd]
  have hdeps : Deps D (fun j x w => ∀ w', Kept S w w' → G j x w') a w o.after.toList := Deps.mk fun e he hb d hd => by
    have hL := hedges e he hb
    rw [hhere e.on d hL (hat e.on d hd)]
    exact hg e.on hL
  have hlx : ∀ x, r.head? = some x → L x = true := by
    intro x hx
    obtain ⟨e, he, rfl, hb, _⟩ := hr x hx
    exact hedges e he hb
  have hp : Prev D C vI lI a (hold L v C vI lI r).1 (hold L v C vI lI r).2 r := by
    clear hhold hrow hown hcl h
    cases r with
    | nil => exact ⟨rfl, rfl⟩
    | cons x r' =>
      have hL := hlx x rfl
      have e1 : hold L v C vI lI (x :: r') = (v x, C x) := by
        show (if L x = true then (v x, C x) else hold L v C vI lI r') = _
        rw [if_pos hL]
      refine ⟨by rw [e1], fun d hd => ?_⟩
      rw [e1, hhere x d hL (hat x d hd)]
  obtain ⟨hgo, hy⟩ := h S a w hlt hR hout hlate hdeps _ _ hrow hp
  generalize (hold L v C vI lI r).1 = p at *
  have fin : ∀ (x : Value) (w' : World), Row w' B x (C i) → Kept (fun k => p.ownBlock = some k) w w' → (x.ownBlock = p.ownBlock ∨ ∀ g, x.ownBlock = some g → w.heap.size ≤ g) → OwnJ w0 S0 B vI lI (ys ++ i :: r) C G (upL L i) (upV v i x) w' := by
    intro x w' hrx hkk hwh
    have hkS : Kept S w w' := hkk.mono (fun k _ e => hown k e)
    refine ⟨fun k => S k ∨ x.ownBlock = some k, ?_, ?_, ?_, ?_, ?_, ?_, ?_⟩
    · rintro k (hS | hx)
      · exact Nat.lt_of_lt_of_le (hlt k hS) hkk.size
      · exact (hrx.lt k hx).2
    · rintro k (hS | hx)
      · exact h0 k hS
      · rcases hwh with e | e
        · exact h0 k (hown k (by rw [← e]; exact hx))
        · exact .inr (Nat.le_trans hk.size (e k hx))
    · exact (hk.trans hkS (fun _ _ x => x)).mono (fun _ _ x => .inl x)
    · refine hcl.up fun ys' x' r' e => ?_
      -- the two ways to part the list are one
      have key : ∀ (zs ys' : List Nat) (x' : Nat) (r r' : List Nat), i ∉ zs → i ∉ ys' → zs ++ i :: r = ys' ++ i :: x' :: r' → r = x' :: r' := by
        intro zs
        induction zs with
        | nil =>
          intro ys' x' r r' _ hy e
          cases ys' with
          | nil => simpa using e
          | cons z zs => simp at e; exact absurd e.1 (fun h => hy (by simp [h]))
        | cons z zs ih =>
          intro ys' x' r r' hz hy e
          cases ys' with
          | nil => simp at e; exact absurd e.1.symm (fun h => hz (by simp [h]))
          | cons y ys'' => simp at e; exact ih ys'' x' r r' (fun h => hz (by simp [h])) (fun h => hy (by simp [h])) e.2
      have hin : i ∉ ys' := by
        intro hm
        have hc : (ys ++ i :: r).count i = 1 := by rw [List.count_append, List.count_eq_zero_of_not_mem hnd.1, List.count_cons_self, List.count_eq_zero_of_not_mem hnd.2]
        rw [e, List.count_append, List.count_cons_self] at hc
        have := List.count_pos_iff.2 hm
        omega
      have := key ys ys' x' r r' hnd.1 hin e
      subst this
      exact hlx x' rfl
    · intro j hj w'' k
      by_cases hji : j = i
      · subst hji; exact hG _ _
      · rw [show upL L i j = L j from if_neg hji] at hj
        rw [show upV v i x j = v j from if_neg hji]
        refine hg j hj w'' (hkS.trans k fun b hb hS => ?_)
        rcases hS with hS | hx
        · exact hS
        · rcases hwh with e | e
          · exact hown b (by rw [← e]; exact hx)
          · have := e b hx; omega
    · have e : hold (upL L i) (upV v i x) C vI lI (ys ++ i :: r) = (x, C i) := by
        rw [hold_later (fun y hym => by rw [show upL L i y = L y from if_neg (fun h : y = i => hnd.1 (by rw [← h]; exact hym))]; exact hlater y hym)]
        show (if upL L i i = true then (upV v i x i, C i) else _) = _
        rw [if_pos (show upL L i i = true from if_pos rfl), show upV v i x i = x from if_pos rfl]
      rw [e]; exact hrx
    · have e : hold (upL L i) (upV v i x) C vI lI (ys ++ i :: r) = (x, C i) := by
        rw [hold_later (fun y hym => by rw [show upL L i y = L y from if_neg (fun h : y = i => hnd.1 (by rw [← h]; exact hym))]; exact hlater y hym)]
        show (if upL L i i = true then (upV v i x i, C i) else _) = _
        rw [if_pos (show upL L i i = true from if_pos rfl), show upV v i x i = x from if_pos rfl]
      rw [e]
      intro g hgx
      exact .inr hgx
  refine ⟨fun _ => ?_, fun hno => ?_⟩
  · revert hy
    unfold Yields
    generalize (execOp a.eval o).run P w = res
    intro hh
    cases res with
    | ok n w' =>
      cases n <;> simp only at hh ⊢ <;> first
        | exact fin _ _ hh.1 hh.2.1 hh.2.2
        | exact hh.elim
        | exact Calls.mono hh (fun e w'' ⟨y, he, hk⟩ => ⟨y, he, fin _ _ hk.1 hk.2.1 hk.2.2⟩)
    | halt x w' => exact hh.elim
  · rw [hgo] at hno; cases hno
section
variable {os : List Oper} {P : Program} {D : List (Option Tmp)} {w0 : World} {S0 : Nat → Prop} {B : Nat} {vI : Value} {lI X : List Nat} {C : Nat → List Nat} {Gs : List Pd} {a0 : Act} {i : Nat} {o : Oper}
theorem StepJ.one (hi : i ∉ X) (hg : o.guard = none)
    (h : ∀ (S : Nat → Prop) (a : Act) (w : World), (∀ k, S k → k < w.heap.size) → (∀ w', Kept S w w' → Kept S0 w0 w') → (∀ t, some t ∉ D → a.eval (.tmp t) = a0.eval (.tmp t)) → (∀ t, late os t i = true → a.eval (.tmp t) = a0.eval (.tmp t)) →
      Deps D (fun j x w => ∀ w', Kept S w w' → Said Gs j x w') a w o.after.toList → (∀ x, X.head? = some x → ∀ e ∈ o.after.toList, e.on = x → Region.binds .any e = true → ∀ d, D.getD x none = some d → Row w B (a.eval (.tmp d)) (C x)) →
      Yields P a.eval o w (fun x w' => (∀ w'', Kept S w' w'' → Said Gs i x w'') ∧ Kept (fun _ => False) w w')) :
    StepJ os P D (OwnJ w0 S0 B vI lI X C (Said Gs)) a0 i o :=
  StepJ.other hi fun S a w hlt hR hout hlate hD hrow => ⟨fun _ => h S a w hlt hR hout hlate hD hrow, fun hno => by unfold goes at hno; rw [hg] at hno; cases hno⟩
end
end Go.Proofs.YtdcbabgcbkdlhaaGreatDoor
set_option maxRecDepth 100000
namespace Go.Proofs.YtdcbabgcbkdlhaaGreatDoor
open Go.RowKit
theorem BytesArg.upto {w : World} {v : Value} {l : List Nat} (h : BytesArg w v l) (j : Nat) (hj : j ≤ l.length) (k : IntKind) :
    ∃ v', (Instr.sliceAt 22 v none (some (.int k (j : Int))) none).run Tryz.prog w = .ok v' w ∧ BytesArg w v' (l.take j) := by
  obtain ⟨a, cap, rfl, h1, h2, h3, h256, hc⟩ := h
  have hb : ¬ cap < j := by omega
  have hb0 : BytesArg w (.slice a l.length cap) l := ⟨a, cap, rfl, h1, h2, h3, h256, hc⟩
  obtain ⟨i0, hi, hz0, hz1, hz2⟩ := info_parts Tryz.info_u8
  refine ⟨.slice a j cap, ?_, ?_⟩
  · cases a with
    | none => simp [Instr.sliceAt, Instr.slice, Instr.sliceBounds, Instr.sliceBound, asIntOf, run_underlying Tryz.underlying22, sizeOf, typeInfo, hi, hb]
    | some ad => simp [Instr.sliceAt, Instr.slice, Instr.sliceBounds, Instr.sliceBound, asIntOf, run_underlying Tryz.underlying22, sizeOf, typeInfo, hi, hb, Addr.add]
  · have := hb0.cut 0 j cap (Nat.zero_le _) hj (by omega) h2 a (fun _ => by cases a with | none => rfl | some ad => simp [Addr.add]) h3
    simpa using this
end Go.Proofs.YtdcbabgcbkdlhaaGreatDoor
set_option maxRecDepth 100000
namespace Go.Proofs.YtdcbabgcbkdlhaaGreatDoor
open Go.RowKit
def Owb (w : World) (T : Nat → Prop) (v : Value) (l : List Nat) : Prop := Row w 0 v l ∧ ∀ i, T i ↔ v.ownBlock = some i
theorem Owb.nil (w : World) : Owb w noB (.slice none 0 0) [] := ⟨Row.nil w 0, fun i => ⟨fun h => h.elim, fun h => by cases h⟩⟩
theorem Owb.live {w : World} {T : Nat → Prop} {v : Value} {l : List Nat} (h : Owb w T v l) : Live w T := fun i hi => (h.1.lt i ((h.2 i).1 hi)).2
theorem Owb.byt {w : World} {T : Nat → Prop} {v : Value} {l : List Nat} (h : Owb w T v l) : Byt w T v l := ⟨h.1.bytes, h.live, fun _ a n c e => (h.2 a.block).2 (by rw [e]; rfl)⟩
theorem Owb.all {S : Nat → Prop} {w w' : World} {T : Nat → Prop} {v : Value} {l : List Nat} (h : Owb w T v l) (k : Kept S w w') (ha : Apart T S) : Owb w' T v l := ⟨h.1.kept k (fun g hg => ha g ((h.2 g).2 hg)), h.2⟩
theorem Owb.one {w : World} {T : Nat → Prop} {v : Value} {l : List Nat} (h : Owb w T v l) : v.oneCell' = true := h.byt.one
theorem Owb.oneC {w : World} {T : Nat → Prop} {v : Value} {l : List Nat} (h : Owb w T v l) : oneC v = true := h.byt.oneC
theorem Owb.cells {w : World} {T : Nat → Prop} {v : Value} {l : List Nat} (h : Owb w T v l) : Cells w T := fun i hi => by
  have hv := (h.2 i).1 hi
  rcases h.1.1.2 with ⟨rfl, _⟩ | ⟨g, cap, cur, rfl, _, hg, _⟩
  · cases hv
  · cases hv; exact ⟨_, hg, rfl⟩
theorem Owb.row {A B : World} {row : Option Nat} {n : Nat} {T : Nat → Prop} {v : Value} {l : List Nat} (h : Owb A T v l) (hg : A.grownBy B row) (hr : RowNew n A row) : Owb B T v l := h.all (kept_row hg) (h.cells.apart hr)
theorem Owb.lt256 {w : World} {T : Nat → Prop} {v : Value} {l : List Nat} (h : Owb w T v l) : ∀ x ∈ l, x < 256 := h.1.2
theorem Owb.of {w : World} {v : Value} {l : List Nat} (h : Row w 0 v l) : Owb w (fun i => v.ownBlock = some i) v l := ⟨h, fun _ => Iff.rfl⟩
theorem Byt.lt256 {w : World} {T : Nat → Prop} {v : Value} {l : List Nat} (h : Byt w T v l) : ∀ x ∈ l, x < 256 := h.1.lt256
def bytAddr (v : Value) (j : Nat) : Value := match v with
  | .slice (some a) _ _ => .pointer (some (a.add j))
  | _ => undef
section
variable {ρ : Operand → Value} {o : Oper} {w : World} {R : Value → World → Prop}
theorem y_atB {x ix : Operand} {T : Nat → Prop} {v : Value} {l : List Nat} {k : IntKind} (j : Nat) {i : Int} (ho : o.op = .indexAddr 22 x ix) (hx : ρ x = v) (hi : ρ ix = .int k i) (hij : i = (j : Int)) (hb : Byt w T v l) (hj : j < l.length) (h : R (bytAddr v j) w) : Yields Tryz.prog ρ o w R := by
  subst hij
  obtain ⟨⟨a, cap, rfl, _, _, _, _, hc⟩, _⟩ := hb
  obtain ⟨b, off, rfl, _, _⟩ := hc (by omega)
  obtain ⟨i0, hi0, hz0, hz1, hz2⟩ := info_parts Tryz.info_u8
  exact y_val (v := bytAddr (.slice (some ⟨b, off, none⟩) l.length cap) j) (w' := w) (by simp [execOp, ho, hx, hi, Instr.indexAt, run_underlying Tryz.underlying22, asIntOf, sizeOf, typeInfo, hi0, hz1, hj, bytAddr]) h
theorem Byt.at_ {w : World} {T : Nat → Prop} {v : Value} {l : List Nat} {j : Nat} (hb : Byt w T v l) (hj : j < l.length) : ∃ a, bytAddr v j = .pointer (some a) ∧ w.cell? a = some (.int .u8 (l.getD j 0 : Nat)) := by
  obtain ⟨⟨a, cap, rfl, _, _, _, _, hc⟩, _⟩ := hb
  obtain ⟨b, off, rfl, _, hcell⟩ := hc (by omega)
  exact ⟨⟨b, off + j, none⟩, by rw [bytAddr, Addr.add_lit], hcell j hj⟩
theorem y_ldB {x : Operand} {T : Nat → Prop} {v : Value} {l : List Nat} {j : Nat} (ho : o.op = .load 5 x) (hx : ρ x = bytAddr v j) (hb : Byt w T v l) (hj : j < l.length) (h : R (.int .u8 ((l.getD j 0 : Nat) : Int)) w) : Yields Tryz.prog ρ o w R := by
  obtain ⟨a, ha, hc⟩ := hb.at_ hj
  exact y_ldA ho (hx.trans ha) Tryz.underlying5 rfl hc h
end
end Go.Proofs.YtdcbabgcbkdlhaaGreatDoor
set_option maxRecDepth 100000
namespace Go.Proofs.YtdcbabgcbkdlhaaGreatDoor
open Go.RowKit
theorem stcT_frame : StcT Tryz.prog 25 5 := ⟨_, Tryz.underlying25, rfl, by kernel_rfl⟩
theorem fref_side (n : Int) (w0 : World) :
  Calls Tryz.prog 87 #[.int .i64 (n)] w0 fun e w' => e = .returned (.bool (sideB n)) ∧ Kept (fun _ => False) w0 w' := by
 refine calls_wq (args := [iv n]) 14 Tryz.func87 rfl rfl (Nat.le_of_ble_eq_true rfl) ?_
 have K0 := Kept.refl (fun _ => False) w0
 refine wq_seq (wq_region (wl_v (.bool false) rfl rfl (y_asg rfl rfl rr) (wl_nil fun F1 hF2 => ?_)))
 have s3 : F1 0 = iv n := (hF2 0).trans rfl
 have s4 : F1 14 = undef := (hF2 14).trans rfl
 clear hF2
 refine then_normal (wq_seq ?_)
 by_cases d5 : 8 ≤ n
 ·skip
  by_cases d6 : n ≤ 64
  ·skip
   refine wq_region (wl_mv rfl rfl rfl s3 (wl_v (.bool true) rfl rfl (y_geq rfl rfl rfl (decide_eq_true d5) rr) (wl_v (.bool true) rfl rfl (y_mov rfl rfl rr) (wl_vw (iv n) 2 true 5 rfl rfl rfl rfl rfl (y_mov rfl s3 rr) (wl_vw (.bool true) 2 true 5 rfl rfl rfl rfl rfl (y_leq rfl rfl rfl (decide_eq_true d6) rr) (wl_v (.bool true) rfl rfl (y_pickT rfl rfl rfl rr) (wl_v (.bool true) rfl rfl (y_mov rfl rfl rr) (wl_vw (iv n) 6 true 9 rfl rfl rfl rfl rfl (y_mov rfl s3 rr) (wl_vw (iv (Int.tmod n 8)) 6 true 9 rfl rfl rfl rfl rfl (y_rem rfl rfl rfl (by first | decide | omega) rfl rr) (wl_vw (.bool (decide ((Int.tmod n 8) = 0))) 6 true 9 rfl rfl rfl rfl rfl (y_eqlI rfl rfl rfl rfl rr) (wl_v (.bool (decide ((Int.tmod n 8) = 0))) rfl rfl (y_pickT rfl rfl rfl rr) ?_)))))))))))
   refine wl_v (.bool (decide ((Int.tmod n 8) = 0))) rfl rfl (y_asg rfl rfl rr) (wl_nil fun F7 hF8 => ?_)
   have s9 := (hF8 14).trans s4
   have s10 : F7 2 = .bool (decide ((Int.tmod n 8) = 0)) := (hF8 2).trans rfl
   clear hF8
   refine then_normal (wq_ret ?_)
   exact end_tmp (v := .bool (decide ((Int.tmod n 8) = 0))) s9 rfl rfl s10 ⟨(by first | rw [sideB_low (by omega)] | rw [sideB_high (by omega)] | rw [sideB_mid (by omega) (by omega)]), K0⟩
  ·skip
   refine wq_region (wl_mv rfl rfl rfl s3 (wl_v (.bool true) rfl rfl (y_geq rfl rfl rfl (decide_eq_true d5) rr) (wl_v (.bool true) rfl rfl (y_mov rfl rfl rr) (wl_vw (iv n) 2 true 5 rfl rfl rfl rfl rfl (y_mov rfl s3 rr) (wl_vw (.bool false) 2 true 5 rfl rfl rfl rfl rfl (y_leq rfl rfl rfl (decide_eq_false d6) rr) (wl_v (.bool false) rfl rfl (y_pickT rfl rfl rfl rr) (wl_v (.bool false) rfl rfl (y_mov rfl rfl rr) (wl_unless 6 true 9 rfl rfl rfl (Or.inl rfl) rfl (wl_unless 6 true 9 rfl rfl rfl (Or.inl rfl) rfl (wl_unless 6 true 9 rfl rfl rfl (Or.inl rfl) rfl (wl_v (.bool false) rfl rfl (y_pickF rfl rfl rfl rr) ?_)))))))))))
   refine wl_v (.bool false) rfl rfl (y_asg rfl rfl rr) (wl_nil fun F11 hF12 => ?_)
   have s13 := (hF12 14).trans s4
   have s14 : F11 2 = .bool false := (hF12 2).trans rfl
   clear hF12
   refine then_normal (wq_ret ?_)
   exact end_tmp (v := .bool false) s13 rfl rfl s14 ⟨(by first | rw [sideB_low (by omega)] | rw [sideB_high (by omega)] | rw [sideB_mid (by omega) (by omega)]), K0⟩
 ·skip
  refine wq_region (wl_mv rfl rfl rfl s3 (wl_v (.bool false) rfl rfl (y_geq rfl rfl rfl (decide_eq_false d5) rr) (wl_v (.bool false) rfl rfl (y_mov rfl rfl rr) (wl_unless 2 true 5 rfl rfl rfl (Or.inl rfl) rfl (wl_unless 2 true 5 rfl rfl rfl (Or.inl rfl) rfl (wl_v (.bool false) rfl rfl (y_pickF rfl rfl rfl rr) (wl_v (.bool false) rfl rfl (y_mov rfl rfl rr) (wl_unless 6 true 9 rfl rfl rfl (Or.inl rfl) rfl (wl_unless 6 true 9 rfl rfl rfl (Or.inl rfl) rfl (wl_unless 6 true 9 rfl rfl rfl (Or.inl rfl) rfl (wl_v (.bool false) rfl rfl (y_pickF rfl rfl rfl rr) ?_)))))))))))
  refine wl_v (.bool false) rfl rfl (y_asg rfl rfl rr) (wl_nil fun F15 hF16 => ?_)
  have s17 := (hF16 14).trans s4
  have s18 : F15 2 = .bool false := (hF16 2).trans rfl
  clear hF16
  refine then_normal (wq_ret ?_)
  exact end_tmp (v := .bool false) s17 rfl rfl s18 ⟨(by first | rw [sideB_low (by omega)] | rw [sideB_high (by omega)] | rw [sideB_mid (by omega) (by omega)]), K0⟩
theorem fref_check (f : FD) (f0 f1 f2 : Value) (T_f0 : Nat → Prop) (T_f1 : Nat → Prop) (T_f2 : Nat → Prop) (w0 : World) (h_f0 : Byt w0 T_f0 f0 ((f).p0)) (h_f1 : Byt w0 T_f1 f1 ((f).p1)) (h_f2 : Byt w0 T_f2 f2 ((f).p2)) :
  Calls Tryz.prog 50 #[.agg #[.int .i64 ((f).W), .int .i64 ((f).H), f0, f1, f2]] w0 fun e w' => e = .returned (.int .i64 (checkE f)) ∧ Kept (fun _ => False) w0 w' := by
 refine calls_wq (args := [.agg #[iv (f.W), iv (f.H), f0, f1, f2]]) 51 Tryz.func50 rfl rfl (Nat.le_of_ble_eq_true rfl) ?_
 have K0 := Kept.refl (fun _ => False) w0
 have hmul := @area_bounds f.W f.H
 have g_f0 := Grew.refl w0 T_f0
 have g_f1 := Grew.refl w0 T_f1
 have g_f2 := Grew.refl w0 T_f2
 refine wq_seq (wq_region (wl_box_stc (vs := [iv (f.W), iv (f.H), f0, f1, f2]) rfl rfl rfl rfl fun p1 w2 B4 g5 k3 => ?_))
 have B10 := h_f0.all k3 Apart.none
 have B11 := h_f1.all k3 Apart.none
 have B12 := h_f2.all k3 Apart.none
 have K13 := K0.tr k3
 refine wl_v (iv 0) rfl rfl (y_asg rfl rfl rr) (wl_nil fun F14 hF15 => ?_)
 have s16 : F14 51 = undef := (hF15 51).trans rfl
 have s17 : F14 1 = pt p1 0 := (hF15 1).trans rfl
 clear hF15
 refine then_normal (wq_seq (wq_seq ?_))
 rcases Bool.eq_false_or_eq_true (sideB (f.W)) with d18 | d18
 ·skip
  rcases Bool.eq_false_or_eq_true (sideB (f.H)) with d19 | d19
  ·skip
   by_cases d20 : (((f.p0).length : Nat) : Int) ≠ (f.W * f.H)
   ·skip
    refine wq_region (wl_v (pt p1 0) rfl rfl (y_fieldR (n := 1) rfl s17 Tryz.underlying25 rfl (by kernel_rfl) (by decide) rfl rr) (wl_v (iv (f.W)) rfl rfl (y_ld_stc rfl rfl Tryz.underlying3 B4 rfl rfl rr) (wl_call (R := fun v_ w_ => v_ = .bool true ∧ Kept (fun _ => False) w2 w_) rfl rfl (y_cs rfl rfl rfl (fun _ _ => by kernel_rfl) (ev_func _) (vsC rfl vsN) (fref_side (f.W)  _   ) (fun e_ w_ h_ => ⟨_, h_.1, (congrArg Value.bool d18), h_.2⟩)) ?_)))
    rintro _ w21 ⟨rfl, k22⟩
    have B23 := B10.all k22 Apart.none
    have B26 := B4.all k22 id
    have K27 := K13.tr k22
    refine wl_v (.bool false) rfl rfl (y_not rfl rfl rfl rr) (wl_v (.bool false) rfl rfl (y_mov rfl rfl rr) (wl_vw (pt p1 1) 4 false 7 rfl rfl rfl rfl rfl (y_fieldR (n := 1) rfl s17 Tryz.underlying25 rfl (by kernel_rfl) (by decide) rfl rr) (wl_vw (iv (f.H)) 4 false 7 rfl rfl rfl rfl rfl (y_ld_stc rfl rfl Tryz.underlying3 B26 rfl rfl rr) (wl_callw (R := fun v_ w_ => v_ = .bool true ∧ Kept (fun _ => False) w21 w_) 4 false 7 rfl rfl rfl rfl rfl (y_cs rfl rfl rfl (fun _ _ => by kernel_rfl) (ev_func _) (vsC rfl vsN) (fref_side (f.H)  _   ) (fun e_ w_ h_ => ⟨_, h_.1, (congrArg Value.bool d19), h_.2⟩)) ?_))))
    rintro _ w28 ⟨rfl, k29⟩
    have B30 := B23.all k29 Apart.none
    have B33 := B26.all k29 id
    have K34 := K27.tr k29
    refine wl_vw (.bool false) 4 false 7 rfl rfl rfl rfl rfl (y_not rfl rfl rfl rr) (wl_v (.bool false) rfl rfl (y_pickF rfl rfl rfl rr) (wl_v (.bool false) rfl rfl (y_mov rfl rfl rr) (wl_vw (pt p1 2) 10 false 13 rfl rfl rfl rfl rfl (y_fieldR (n := 3) rfl s17 Tryz.underlying25 rfl (by kernel_rfl) (by decide) rfl rr) (wl_vw (pt p1 2) 10 false 13 rfl rfl rfl rfl rfl (y_atR 0 (s := 1) rfl rfl rfl (by omega) Tryz.underlying23 (by omega) (by kernel_rfl) (by omega) rr) (wl_vw f0 10 false 13 rfl rfl rfl rfl rfl (y_ld_stc rfl rfl Tryz.underlying22 B33 rfl rfl rr) (wl_vw (iv (((f.p0).length : Nat) : Int)) 10 false 13 rfl rfl rfl rfl rfl (y_lenV rfl rfl rfl B30 rr) (wl_vw (pt p1 0) 10 false 13 rfl rfl rfl rfl rfl (y_fieldR (n := 1) rfl s17 Tryz.underlying25 rfl (by kernel_rfl) (by decide) rfl rr) (wl_vw (iv (f.W)) 10 false 13 rfl rfl rfl rfl rfl (y_ld_stc rfl rfl Tryz.underlying3 B33 rfl rfl rr) (wl_vw (pt p1 1) 10 false 13 rfl rfl rfl rfl rfl (y_fieldR (n := 1) rfl s17 Tryz.underlying25 rfl (by kernel_rfl) (by decide) rfl rr) (wl_vw (iv (f.H)) 10 false 13 rfl rfl rfl rfl rfl (y_ld_stc rfl rfl Tryz.underlying3 B33 rfl rfl rr) (wl_vw (iv (f.W * f.H)) 10 false 13 rfl rfl rfl rfl rfl (y_mul rfl rfl rfl (i64_i rfl (by have h := hmul (by assumption) (by assumption); omega)) rr) ?_)))))))))))
    refine wl_vw (.bool true) 10 false 13 rfl rfl rfl rfl rfl (y_neqI rfl rfl rfl (decide_eq_true d20) rr) (wl_v (.bool true) rfl rfl (y_pickF rfl rfl rfl rr) (wl_v (.bool true) rfl rfl (y_mov rfl rfl rr) (wl_unless 22 false 25 rfl rfl rfl (Or.inl rfl) rfl (wl_unless 22 false 25 rfl rfl rfl (Or.inl rfl) rfl (wl_unless 22 false 25 rfl rfl rfl (Or.inl rfl) rfl (wl_unless 22 false 25 rfl rfl rfl (Or.inl rfl) rfl (wl_unless 22 false 25 rfl rfl rfl (Or.inl rfl) rfl (wl_unless 22 false 25 rfl rfl rfl (Or.inl rfl) rfl (wl_unless 22 false 25 rfl rfl rfl (Or.inl rfl) rfl (wl_unless 22 false 25 rfl rfl rfl (Or.inl rfl) rfl (wl_unless 22 false 25 rfl rfl rfl (Or.inl rfl) rfl ?_)))))))))))
    refine wl_unless 22 false 25 rfl rfl rfl (Or.inl rfl) rfl (wl_unless 22 false 25 rfl rfl rfl (Or.inl rfl) rfl (wl_v (.bool true) rfl rfl (y_pickT rfl rfl rfl rr) (wl_v (.bool true) rfl rfl (y_mov rfl rfl rr) (wl_unless 35 false 38 rfl rfl rfl (Or.inl rfl) rfl (wl_unless 35 false 38 rfl rfl rfl (Or.inl rfl) rfl (wl_unless 35 false 38 rfl rfl rfl (Or.inl rfl) rfl (wl_unless 35 false 38 rfl rfl rfl (Or.inl rfl) rfl (wl_unless 35 false 38 rfl rfl rfl (Or.inl rfl) rfl (wl_unless 35 false 38 rfl rfl rfl (Or.inl rfl) rfl (wl_unless 35 false 38 rfl rfl rfl (Or.inl rfl) rfl (wl_unless 35 false 38 rfl rfl rfl (Or.inl rfl) rfl ?_)))))))))))
    refine wl_unless 35 false 38 rfl rfl rfl (Or.inl rfl) rfl (wl_unless 35 false 38 rfl rfl rfl (Or.inl rfl) rfl (wl_unless 35 false 38 rfl rfl rfl (Or.inl rfl) rfl (wl_v (.bool true) rfl rfl (y_pickT rfl rfl rfl rr) (wl_nil fun F35 hF36 => ?_))))
    have s37 := (hF36 51).trans s16
    have s38 : F35 50 = .bool true := (hF36 50).trans rfl
    clear hF36
    refine then_normal ?_
    refine wq_cond (t := true) s38 (fun _ => ?_) (fun e => by cases e)
    refine wq_seq (wq_region (wl_v (iv 70) rfl rfl (y_asg rfl rfl rr) (wl_nil fun F39 hF40 => ?_)))
    have s41 := (hF40 51).trans s37
    have s42 : F39 2 = iv 70 := (hF40 2).trans rfl
    clear hF40
    refine then_normal (wq_ret (then_ret ?_))
    exact end_tmp (v := iv 70) s41 rfl rfl s42 ⟨(by first | rw [checkE_ok ⟨by assumption, by assumption, by first | assumption | (apply Decidable.byContradiction; assumption), by first | assumption | (apply Decidable.byContradiction; assumption), by first | assumption | (apply Decidable.byContradiction; assumption)⟩] | rw [checkE_no (by rintro ⟨h1, h2, h3, h4, h5⟩; simp_all)]), K34⟩
   ·skip
    by_cases d43 : (((f.p1).length : Nat) : Int) ≠ (Int.tdiv (f.W * f.H) 4)
    ·skip
     refine wq_region (wl_v (pt p1 0) rfl rfl (y_fieldR (n := 1) rfl s17 Tryz.underlying25 rfl (by kernel_rfl) (by decide) rfl rr) (wl_v (iv (f.W)) rfl rfl (y_ld_stc rfl rfl Tryz.underlying3 B4 rfl rfl rr) (wl_call (R := fun v_ w_ => v_ = .bool true ∧ Kept (fun _ => False) w2 w_) rfl rfl (y_cs rfl rfl rfl (fun _ _ => by kernel_rfl) (ev_func _) (vsC rfl vsN) (fref_side (f.W)  _   ) (fun e_ w_ h_ => ⟨_, h_.1, (congrArg Value.bool d18), h_.2⟩)) ?_)))
     rintro _ w44 ⟨rfl, k45⟩
     have B46 := B10.all k45 Apart.none
     have B47 := B11.all k45 Apart.none
     have B49 := B4.all k45 id
     have K50 := K13.tr k45
     refine wl_v (.bool false) rfl rfl (y_not rfl rfl rfl rr) (wl_v (.bool false) rfl rfl (y_mov rfl rfl rr) (wl_vw (pt p1 1) 4 false 7 rfl rfl rfl rfl rfl (y_fieldR (n := 1) rfl s17 Tryz.underlying25 rfl (by kernel_rfl) (by decide) rfl rr) (wl_vw (iv (f.H)) 4 false 7 rfl rfl rfl rfl rfl (y_ld_stc rfl rfl Tryz.underlying3 B49 rfl rfl rr) (wl_callw (R := fun v_ w_ => v_ = .bool true ∧ Kept (fun _ => False) w44 w_) 4 false 7 rfl rfl rfl rfl rfl (y_cs rfl rfl rfl (fun _ _ => by kernel_rfl) (ev_func _) (vsC rfl vsN) (fref_side (f.H)  _   ) (fun e_ w_ h_ => ⟨_, h_.1, (congrArg Value.bool d19), h_.2⟩)) ?_))))
     rintro _ w51 ⟨rfl, k52⟩
     have B53 := B46.all k52 Apart.none
     have B54 := B47.all k52 Apart.none
     have B56 := B49.all k52 id
     have K57 := K50.tr k52
     refine wl_vw (.bool false) 4 false 7 rfl rfl rfl rfl rfl (y_not rfl rfl rfl rr) (wl_v (.bool false) rfl rfl (y_pickF rfl rfl rfl rr) (wl_v (.bool false) rfl rfl (y_mov rfl rfl rr) (wl_vw (pt p1 2) 10 false 13 rfl rfl rfl rfl rfl (y_fieldR (n := 3) rfl s17 Tryz.underlying25 rfl (by kernel_rfl) (by decide) rfl rr) (wl_vw (pt p1 2) 10 false 13 rfl rfl rfl rfl rfl (y_atR 0 (s := 1) rfl rfl rfl (by omega) Tryz.underlying23 (by omega) (by kernel_rfl) (by omega) rr) (wl_vw f0 10 false 13 rfl rfl rfl rfl rfl (y_ld_stc rfl rfl Tryz.underlying22 B56 rfl rfl rr) (wl_vw (iv (((f.p0).length : Nat) : Int)) 10 false 13 rfl rfl rfl rfl rfl (y_lenV rfl rfl rfl B53 rr) (wl_vw (pt p1 0) 10 false 13 rfl rfl rfl rfl rfl (y_fieldR (n := 1) rfl s17 Tryz.underlying25 rfl (by kernel_rfl) (by decide) rfl rr) (wl_vw (iv (f.W)) 10 false 13 rfl rfl rfl rfl rfl (y_ld_stc rfl rfl Tryz.underlying3 B56 rfl rfl rr) (wl_vw (pt p1 1) 10 false 13 rfl rfl rfl rfl rfl (y_fieldR (n := 1) rfl s17 Tryz.underlying25 rfl (by kernel_rfl) (by decide) rfl rr) (wl_vw (iv (f.H)) 10 false 13 rfl rfl rfl rfl rfl (y_ld_stc rfl rfl Tryz.underlying3 B56 rfl rfl rr) (wl_vw (iv (f.W * f.H)) 10 false 13 rfl rfl rfl rfl rfl (y_mul rfl rfl rfl (i64_i rfl (by have h := hmul (by assumption) (by assumption); omega)) rr) ?_)))))))))))
     refine wl_vw (.bool false) 10 false 13 rfl rfl rfl rfl rfl (y_neqI rfl rfl rfl (decide_eq_false d20) rr) (wl_v (.bool false) rfl rfl (y_pickF rfl rfl rfl rr) (wl_v (.bool false) rfl rfl (y_mov rfl rfl rr) (wl_vw (pt p1 2) 22 false 25 rfl rfl rfl rfl rfl (y_fieldR (n := 3) rfl s17 Tryz.underlying25 rfl (by kernel_rfl) (by decide) rfl rr) (wl_vw (pt p1 3) 22 false 25 rfl rfl rfl rfl rfl (y_atR 1 (s := 1) rfl rfl rfl (by omega) Tryz.underlying23 (by omega) (by kernel_rfl) (by omega) rr) (wl_vw f1 22 false 25 rfl rfl rfl rfl rfl (y_ld_stc rfl rfl Tryz.underlying22 B56 rfl rfl rr) (wl_vw (iv (((f.p1).length : Nat) : Int)) 22 false 25 rfl rfl rfl rfl rfl (y_lenV rfl rfl rfl B54 rr) (wl_vw (pt p1 0) 22 false 25 rfl rfl rfl rfl rfl (y_fieldR (n := 1) rfl s17 Tryz.underlying25 rfl (by kernel_rfl) (by decide) rfl rr) (wl_vw (iv (f.W)) 22 false 25 rfl rfl rfl rfl rfl (y_ld_stc rfl rfl Tryz.underlying3 B56 rfl rfl rr) (wl_vw (pt p1 1) 22 false 25 rfl rfl rfl rfl rfl (y_fieldR (n := 1) rfl s17 Tryz.underlying25 rfl (by kernel_rfl) (by decide) rfl rr) (wl_vw (iv (f.H)) 22 false 25 rfl rfl rfl rfl rfl (y_ld_stc rfl rfl Tryz.underlying3 B56 rfl rfl rr) (wl_vw (iv (f.W * f.H)) 22 false 25 rfl rfl rfl rfl rfl (y_mul rfl rfl rfl (i64_i rfl (by have h := hmul (by assumption) (by assumption); omega)) rr) ?_)))))))))))
     refine wl_vw (iv (Int.tdiv (f.W * f.H) 4)) 22 false 25 rfl rfl rfl rfl rfl (y_quo rfl rfl rfl (by first | decide | omega) (i64_i rfl (by have h := hmul (by assumption) (by assumption); rw [tdiv4 (by omega)]; omega)) rr) (wl_vw (.bool true) 22 false 25 rfl rfl rfl rfl rfl (y_neqI rfl rfl rfl (decide_eq_true d43) rr) (wl_v (.bool true) rfl rfl (y_pickF rfl rfl rfl rr) (wl_v (.bool true) rfl rfl (y_mov rfl rfl rr) (wl_unless 35 false 38 rfl rfl rfl (Or.inl rfl) rfl (wl_unless 35 false 38 rfl rfl rfl (Or.inl rfl) rfl (wl_unless 35 false 38 rfl rfl rfl (Or.inl rfl) rfl (wl_unless 35 false 38 rfl rfl rfl (Or.inl rfl) rfl (wl_unless 35 false 38 rfl rfl rfl (Or.inl rfl) rfl (wl_unless 35 false 38 rfl rfl rfl (Or.inl rfl) rfl (wl_unless 35 false 38 rfl rfl rfl (Or.inl rfl) rfl (wl_unless 35 false 38 rfl rfl rfl (Or.inl rfl) rfl ?_)))))))))))
     refine wl_unless 35 false 38 rfl rfl rfl (Or.inl rfl) rfl (wl_unless 35 false 38 rfl rfl rfl (Or.inl rfl) rfl (wl_unless 35 false 38 rfl rfl rfl (Or.inl rfl) rfl (wl_v (.bool true) rfl rfl (y_pickT rfl rfl rfl rr) (wl_nil fun F58 hF59 => ?_))))
     have s60 := (hF59 51).trans s16
     have s61 : F58 50 = .bool true := (hF59 50).trans rfl
     clear hF59
     refine then_normal ?_
     refine wq_cond (t := true) s61 (fun _ => ?_) (fun e => by cases e)
     refine wq_seq (wq_region (wl_v (iv 70) rfl rfl (y_asg rfl rfl rr) (wl_nil fun F62 hF63 => ?_)))
     have s64 := (hF63 51).trans s60
     have s65 : F62 2 = iv 70 := (hF63 2).trans rfl
     clear hF63
     refine then_normal (wq_ret (then_ret ?_))
     exact end_tmp (v := iv 70) s64 rfl rfl s65 ⟨(by first | rw [checkE_ok ⟨by assumption, by assumption, by first | assumption | (apply Decidable.byContradiction; assumption), by first | assumption | (apply Decidable.byContradiction; assumption), by first | assumption | (apply Decidable.byContradiction; assumption)⟩] | rw [checkE_no (by rintro ⟨h1, h2, h3, h4, h5⟩; simp_all)]), K57⟩
    ·skip
     refine wq_region (wl_v (pt p1 0) rfl rfl (y_fieldR (n := 1) rfl s17 Tryz.underlying25 rfl (by kernel_rfl) (by decide) rfl rr) (wl_v (iv (f.W)) rfl rfl (y_ld_stc rfl rfl Tryz.underlying3 B4 rfl rfl rr) (wl_call (R := fun v_ w_ => v_ = .bool true ∧ Kept (fun _ => False) w2 w_) rfl rfl (y_cs rfl rfl rfl (fun _ _ => by kernel_rfl) (ev_func _) (vsC rfl vsN) (fref_side (f.W)  _   ) (fun e_ w_ h_ => ⟨_, h_.1, (congrArg Value.bool d18), h_.2⟩)) ?_)))
     rintro _ w66 ⟨rfl, k67⟩
     have B68 := B10.all k67 Apart.none
     have B69 := B11.all k67 Apart.none
     have B70 := B12.all k67 Apart.none
     have B71 := B4.all k67 id
     have K72 := K13.tr k67
     refine wl_v (.bool false) rfl rfl (y_not rfl rfl rfl rr) (wl_v (.bool false) rfl rfl (y_mov rfl rfl rr) (wl_vw (pt p1 1) 4 false 7 rfl rfl rfl rfl rfl (y_fieldR (n := 1) rfl s17 Tryz.underlying25 rfl (by kernel_rfl) (by decide) rfl rr) (wl_vw (iv (f.H)) 4 false 7 rfl rfl rfl rfl rfl (y_ld_stc rfl rfl Tryz.underlying3 B71 rfl rfl rr) (wl_callw (R := fun v_ w_ => v_ = .bool true ∧ Kept (fun _ => False) w66 w_) 4 false 7 rfl rfl rfl rfl rfl (y_cs rfl rfl rfl (fun _ _ => by kernel_rfl) (ev_func _) (vsC rfl vsN) (fref_side (f.H)  _   ) (fun e_ w_ h_ => ⟨_, h_.1, (congrArg Value.bool d19), h_.2⟩)) ?_))))
     rintro _ w73 ⟨rfl, k74⟩
     have B75 := B68.all k74 Apart.none
     have B76 := B69.all k74 Apart.none
     have B77 := B70.all k74 Apart.none
     have B78 := B71.all k74 id
     have K79 := K72.tr k74
     refine wl_vw (.bool false) 4 false 7 rfl rfl rfl rfl rfl (y_not rfl rfl rfl rr) (wl_v (.bool false) rfl rfl (y_pickF rfl rfl rfl rr) (wl_v (.bool false) rfl rfl (y_mov rfl rfl rr) (wl_vw (pt p1 2) 10 false 13 rfl rfl rfl rfl rfl (y_fieldR (n := 3) rfl s17 Tryz.underlying25 rfl (by kernel_rfl) (by decide) rfl rr) (wl_vw (pt p1 2) 10 false 13 rfl rfl rfl rfl rfl (y_atR 0 (s := 1) rfl rfl rfl (by omega) Tryz.underlying23 (by omega) (by kernel_rfl) (by omega) rr) (wl_vw f0 10 false 13 rfl rfl rfl rfl rfl (y_ld_stc rfl rfl Tryz.underlying22 B78 rfl rfl rr) (wl_vw (iv (((f.p0).length : Nat) : Int)) 10 false 13 rfl rfl rfl rfl rfl (y_lenV rfl rfl rfl B75 rr) (wl_vw (pt p1 0) 10 false 13 rfl rfl rfl rfl rfl (y_fieldR (n := 1) rfl s17 Tryz.underlying25 rfl (by kernel_rfl) (by decide) rfl rr) (wl_vw (iv (f.W)) 10 false 13 rfl rfl rfl rfl rfl (y_ld_stc rfl rfl Tryz.underlying3 B78 rfl rfl rr) (wl_vw (pt p1 1) 10 false 13 rfl rfl rfl rfl rfl (y_fieldR (n := 1) rfl s17 Tryz.underlying25 rfl (by kernel_rfl) (by decide) rfl rr) (wl_vw (iv (f.H)) 10 false 13 rfl rfl rfl rfl rfl (y_ld_stc rfl rfl Tryz.underlying3 B78 rfl rfl rr) (wl_vw (iv (f.W * f.H)) 10 false 13 rfl rfl rfl rfl rfl (y_mul rfl rfl rfl (i64_i rfl (by have h := hmul (by assumption) (by assumption); omega)) rr) ?_)))))))))))
     refine wl_vw (.bool false) 10 false 13 rfl rfl rfl rfl rfl (y_neqI rfl rfl rfl (decide_eq_false d20) rr) (wl_v (.bool false) rfl rfl (y_pickF rfl rfl rfl rr) (wl_v (.bool false) rfl rfl (y_mov rfl rfl rr) (wl_vw (pt p1 2) 22 false 25 rfl rfl rfl rfl rfl (y_fieldR (n := 3) rfl s17 Tryz.underlying25 rfl (by kernel_rfl) (by decide) rfl rr) (wl_vw (pt p1 3) 22 false 25 rfl rfl rfl rfl rfl (y_atR 1 (s := 1) rfl rfl rfl (by omega) Tryz.underlying23 (by omega) (by kernel_rfl) (by omega) rr) (wl_vw f1 22 false 25 rfl rfl rfl rfl rfl (y_ld_stc rfl rfl Tryz.underlying22 B78 rfl rfl rr) (wl_vw (iv (((f.p1).length : Nat) : Int)) 22 false 25 rfl rfl rfl rfl rfl (y_lenV rfl rfl rfl B76 rr) (wl_vw (pt p1 0) 22 false 25 rfl rfl rfl rfl rfl (y_fieldR (n := 1) rfl s17 Tryz.underlying25 rfl (by kernel_rfl) (by decide) rfl rr) (wl_vw (iv (f.W)) 22 false 25 rfl rfl rfl rfl rfl (y_ld_stc rfl rfl Tryz.underlying3 B78 rfl rfl rr) (wl_vw (pt p1 1) 22 false 25 rfl rfl rfl rfl rfl (y_fieldR (n := 1) rfl s17 Tryz.underlying25 rfl (by kernel_rfl) (by decide) rfl rr) (wl_vw (iv (f.H)) 22 false 25 rfl rfl rfl rfl rfl (y_ld_stc rfl rfl Tryz.underlying3 B78 rfl rfl rr) (wl_vw (iv (f.W * f.H)) 22 false 25 rfl rfl rfl rfl rfl (y_mul rfl rfl rfl (i64_i rfl (by have h := hmul (by assumption) (by assumption); omega)) rr) ?_)))))))))))
     refine wl_vw (iv (Int.tdiv (f.W * f.H) 4)) 22 false 25 rfl rfl rfl rfl rfl (y_quo rfl rfl rfl (by first | decide | omega) (i64_i rfl (by have h := hmul (by assumption) (by assumption); rw [tdiv4 (by omega)]; omega)) rr) (wl_vw (.bool false) 22 false 25 rfl rfl rfl rfl rfl (y_neqI rfl rfl rfl (decide_eq_false d43) rr) (wl_v (.bool false) rfl rfl (y_pickF rfl rfl rfl rr) (wl_v (.bool false) rfl rfl (y_mov rfl rfl rr) (wl_vw (pt p1 2) 35 false 38 rfl rfl rfl rfl rfl (y_fieldR (n := 3) rfl s17 Tryz.underlying25 rfl (by kernel_rfl) (by decide) rfl rr) (wl_vw (pt p1 4) 35 false 38 rfl rfl rfl rfl rfl (y_atR 2 (s := 1) rfl rfl rfl (by omega) Tryz.underlying23 (by omega) (by kernel_rfl) (by omega) rr) (wl_vw f2 35 false 38 rfl rfl rfl rfl rfl (y_ld_stc rfl rfl Tryz.underlying22 B78 rfl rfl rr) (wl_vw (iv (((f.p2).length : Nat) : Int)) 35 false 38 rfl rfl rfl rfl rfl (y_lenV rfl rfl rfl B77 rr) (wl_vw (pt p1 0) 35 false 38 rfl rfl rfl rfl rfl (y_fieldR (n := 1) rfl s17 Tryz.underlying25 rfl (by kernel_rfl) (by decide) rfl rr) (wl_vw (iv (f.W)) 35 false 38 rfl rfl rfl rfl rfl (y_ld_stc rfl rfl Tryz.underlying3 B78 rfl rfl rr) (wl_vw (pt p1 1) 35 false 38 rfl rfl rfl rfl rfl (y_fieldR (n := 1) rfl s17 Tryz.underlying25 rfl (by kernel_rfl) (by decide) rfl rr) (wl_vw (iv (f.H)) 35 false 38 rfl rfl rfl rfl rfl (y_ld_stc rfl rfl Tryz.underlying3 B78 rfl rfl rr) ?_)))))))))))
     refine wl_vw (iv (f.W * f.H)) 35 false 38 rfl rfl rfl rfl rfl (y_mul rfl rfl rfl (i64_i rfl (by have h := hmul (by assumption) (by assumption); omega)) rr) (wl_vw (iv (Int.tdiv (f.W * f.H) 4)) 35 false 38 rfl rfl rfl rfl rfl (y_quo rfl rfl rfl (by first | decide | omega) (i64_i rfl (by have h := hmul (by assumption) (by assumption); rw [tdiv4 (by omega)]; omega)) rr) (wl_vw (.bool (decide ((((f.p2).length : Nat) : Int) ≠ (Int.tdiv (f.W * f.H) 4)))) 35 false 38 rfl rfl rfl rfl rfl (y_neqI rfl rfl rfl rfl rr) (wl_v (.bool (decide ((((f.p2).length : Nat) : Int) ≠ (Int.tdiv (f.W * f.H) 4)))) rfl rfl (y_pickF rfl rfl rfl rr) (wl_nil fun F80 hF81 => ?_))))
     have s82 := (hF81 51).trans s16
     have s83 : F80 50 = .bool (decide ((((f.p2).length : Nat) : Int) ≠ (Int.tdiv (f.W * f.H) 4))) := (hF81 50).trans rfl
     clear hF81
     refine then_normal ?_
     refine wq_cond s83 (fun c84 => ?_) (fun c84 => ?_)
     ·replace c84 := of_decide_eq_true c84
      refine wq_seq (wq_region (wl_v (iv 70) rfl rfl (y_asg rfl rfl rr) (wl_nil fun F85 hF86 => ?_)))
      have s87 := (hF86 51).trans s82
      have s88 : F85 2 = iv 70 := (hF86 2).trans rfl
      clear hF86
      refine then_normal (wq_ret (then_ret ?_))
      exact end_tmp (v := iv 70) s87 rfl rfl s88 ⟨(by first | rw [checkE_ok ⟨by assumption, by assumption, by first | assumption | (apply Decidable.byContradiction; assumption), by first | assumption | (apply Decidable.byContradiction; assumption), by first | assumption | (apply Decidable.byContradiction; assumption)⟩] | rw [checkE_no (by rintro ⟨h1, h2, h3, h4, h5⟩; simp_all)]), K79⟩
     ·replace c84 := of_decide_eq_false c84
      refine wq_skip (then_normal (wq_seq (wq_region (wl_v (iv 0) rfl rfl (y_asg rfl rfl rr) (wl_nil fun F89 hF90 => ?_)))))
      have s91 := (hF90 51).trans s82
      have s92 : F89 2 = iv 0 := (hF90 2).trans rfl
      clear hF90
      refine then_normal (wq_ret ?_)
      exact end_tmp (v := iv 0) s91 rfl rfl s92 ⟨(by first | rw [checkE_ok ⟨by assumption, by assumption, by first | assumption | (apply Decidable.byContradiction; assumption), by first | assumption | (apply Decidable.byContradiction; assumption), by first | assumption | (apply Decidable.byContradiction; assumption)⟩] | rw [checkE_no (by rintro ⟨h1, h2, h3, h4, h5⟩; simp_all)]), K79⟩
  ·skip
   refine wq_region (wl_v (pt p1 0) rfl rfl (y_fieldR (n := 1) rfl s17 Tryz.underlying25 rfl (by kernel_rfl) (by decide) rfl rr) (wl_v (iv (f.W)) rfl rfl (y_ld_stc rfl rfl Tryz.underlying3 B4 rfl rfl rr) (wl_call (R := fun v_ w_ => v_ = .bool true ∧ Kept (fun _ => False) w2 w_) rfl rfl (y_cs rfl rfl rfl (fun _ _ => by kernel_rfl) (ev_func _) (vsC rfl vsN) (fref_side (f.W)  _   ) (fun e_ w_ h_ => ⟨_, h_.1, (congrArg Value.bool d18), h_.2⟩)) ?_)))
   rintro _ w93 ⟨rfl, k94⟩
   have B98 := B4.all k94 id
   have K99 := K13.tr k94
   refine wl_v (.bool false) rfl rfl (y_not rfl rfl rfl rr) (wl_v (.bool false) rfl rfl (y_mov rfl rfl rr) (wl_vw (pt p1 1) 4 false 7 rfl rfl rfl rfl rfl (y_fieldR (n := 1) rfl s17 Tryz.underlying25 rfl (by kernel_rfl) (by decide) rfl rr) (wl_vw (iv (f.H)) 4 false 7 rfl rfl rfl rfl rfl (y_ld_stc rfl rfl Tryz.underlying3 B98 rfl rfl rr) (wl_callw (R := fun v_ w_ => v_ = .bool false ∧ Kept (fun _ => False) w93 w_) 4 false 7 rfl rfl rfl rfl rfl (y_cs rfl rfl rfl (fun _ _ => by kernel_rfl) (ev_func _) (vsC rfl vsN) (fref_side (f.H)  _   ) (fun e_ w_ h_ => ⟨_, h_.1, (congrArg Value.bool d19), h_.2⟩)) ?_))))
   rintro _ w100 ⟨rfl, k101⟩
   have K106 := K99.tr k101
   refine wl_vw (.bool true) 4 false 7 rfl rfl rfl rfl rfl (y_not rfl rfl rfl rr) (wl_v (.bool true) rfl rfl (y_pickF rfl rfl rfl rr) (wl_v (.bool true) rfl rfl (y_mov rfl rfl rr) (wl_unless 10 false 13 rfl rfl rfl (Or.inl rfl) rfl (wl_unless 10 false 13 rfl rfl rfl (Or.inl rfl) rfl (wl_unless 10 false 13 rfl rfl rfl (Or.inl rfl) rfl (wl_unless 10 false 13 rfl rfl rfl (Or.inl rfl) rfl (wl_unless 10 false 13 rfl rfl rfl (Or.inl rfl) rfl (wl_unless 10 false 13 rfl rfl rfl (Or.inl rfl) rfl (wl_unless 10 false 13 rfl rfl rfl (Or.inl rfl) rfl (wl_unless 10 false 13 rfl rfl rfl (Or.inl rfl) rfl (wl_unless 10 false 13 rfl rfl rfl (Or.inl rfl) rfl ?_)))))))))))
   refine wl_unless 10 false 13 rfl rfl rfl (Or.inl rfl) rfl (wl_v (.bool true) rfl rfl (y_pickT rfl rfl rfl rr) (wl_v (.bool true) rfl rfl (y_mov rfl rfl rr) (wl_unless 22 false 25 rfl rfl rfl (Or.inl rfl) rfl (wl_unless 22 false 25 rfl rfl rfl (Or.inl rfl) rfl (wl_unless 22 false 25 rfl rfl rfl (Or.inl rfl) rfl (wl_unless 22 false 25 rfl rfl rfl (Or.inl rfl) rfl (wl_unless 22 false 25 rfl rfl rfl (Or.inl rfl) rfl (wl_unless 22 false 25 rfl rfl rfl (Or.inl rfl) rfl (wl_unless 22 false 25 rfl rfl rfl (Or.inl rfl) rfl (wl_unless 22 false 25 rfl rfl rfl (Or.inl rfl) rfl (wl_unless 22 false 25 rfl rfl rfl (Or.inl rfl) rfl ?_)))))))))))
   refine wl_unless 22 false 25 rfl rfl rfl (Or.inl rfl) rfl (wl_unless 22 false 25 rfl rfl rfl (Or.inl rfl) rfl (wl_v (.bool true) rfl rfl (y_pickT rfl rfl rfl rr) (wl_v (.bool true) rfl rfl (y_mov rfl rfl rr) (wl_unless 35 false 38 rfl rfl rfl (Or.inl rfl) rfl (wl_unless 35 false 38 rfl rfl rfl (Or.inl rfl) rfl (wl_unless 35 false 38 rfl rfl rfl (Or.inl rfl) rfl (wl_unless 35 false 38 rfl rfl rfl (Or.inl rfl) rfl (wl_unless 35 false 38 rfl rfl rfl (Or.inl rfl) rfl (wl_unless 35 false 38 rfl rfl rfl (Or.inl rfl) rfl (wl_unless 35 false 38 rfl rfl rfl (Or.inl rfl) rfl (wl_unless 35 false 38 rfl rfl rfl (Or.inl rfl) rfl ?_)))))))))))
   refine wl_unless 35 false 38 rfl rfl rfl (Or.inl rfl) rfl (wl_unless 35 false 38 rfl rfl rfl (Or.inl rfl) rfl (wl_unless 35 false 38 rfl rfl rfl (Or.inl rfl) rfl (wl_v (.bool true) rfl rfl (y_pickT rfl rfl rfl rr) (wl_nil fun F107 hF108 => ?_))))
   have s109 := (hF108 51).trans s16
   have s110 : F107 50 = .bool true := (hF108 50).trans rfl
   clear hF108
   refine then_normal ?_
   refine wq_cond (t := true) s110 (fun _ => ?_) (fun e => by cases e)
   refine wq_seq (wq_region (wl_v (iv 70) rfl rfl (y_asg rfl rfl rr) (wl_nil fun F111 hF112 => ?_)))
   have s113 := (hF112 51).trans s109
   have s114 : F111 2 = iv 70 := (hF112 2).trans rfl
   clear hF112
   refine then_normal (wq_ret (then_ret ?_))
   exact end_tmp (v := iv 70) s113 rfl rfl s114 ⟨(by first | rw [checkE_ok ⟨by assumption, by assumption, by first | assumption | (apply Decidable.byContradiction; assumption), by first | assumption | (apply Decidable.byContradiction; assumption), by first | assumption | (apply Decidable.byContradiction; assumption)⟩] | rw [checkE_no (by rintro ⟨h1, h2, h3, h4, h5⟩; simp_all)]), K106⟩
 ·skip
  refine wq_region (wl_v (pt p1 0) rfl rfl (y_fieldR (n := 1) rfl s17 Tryz.underlying25 rfl (by kernel_rfl) (by decide) rfl rr) (wl_v (iv (f.W)) rfl rfl (y_ld_stc rfl rfl Tryz.underlying3 B4 rfl rfl rr) (wl_call (R := fun v_ w_ => v_ = .bool false ∧ Kept (fun _ => False) w2 w_) rfl rfl (y_cs rfl rfl rfl (fun _ _ => by kernel_rfl) (ev_func _) (vsC rfl vsN) (fref_side (f.W)  _   ) (fun e_ w_ h_ => ⟨_, h_.1, (congrArg Value.bool d18), h_.2⟩)) ?_)))
  rintro _ w115 ⟨rfl, k116⟩
  have K121 := K13.tr k116
  refine wl_v (.bool true) rfl rfl (y_not rfl rfl rfl rr) (wl_v (.bool true) rfl rfl (y_mov rfl rfl rr) (wl_unless 4 false 7 rfl rfl rfl (Or.inl rfl) rfl (wl_unless 4 false 7 rfl rfl rfl (Or.inl rfl) rfl (wl_unless 4 false 7 rfl rfl rfl (Or.inl rfl) rfl (wl_unless 4 false 7 rfl rfl rfl (Or.inl rfl) rfl (wl_v (.bool true) rfl rfl (y_pickT rfl rfl rfl rr) (wl_v (.bool true) rfl rfl (y_mov rfl rfl rr) (wl_unless 10 false 13 rfl rfl rfl (Or.inl rfl) rfl (wl_unless 10 false 13 rfl rfl rfl (Or.inl rfl) rfl (wl_unless 10 false 13 rfl rfl rfl (Or.inl rfl) rfl (wl_unless 10 false 13 rfl rfl rfl (Or.inl rfl) rfl ?_)))))))))))
  refine wl_unless 10 false 13 rfl rfl rfl (Or.inl rfl) rfl (wl_unless 10 false 13 rfl rfl rfl (Or.inl rfl) rfl (wl_unless 10 false 13 rfl rfl rfl (Or.inl rfl) rfl (wl_unless 10 false 13 rfl rfl rfl (Or.inl rfl) rfl (wl_unless 10 false 13 rfl rfl rfl (Or.inl rfl) rfl (wl_unless 10 false 13 rfl rfl rfl (Or.inl rfl) rfl (wl_v (.bool true) rfl rfl (y_pickT rfl rfl rfl rr) (wl_v (.bool true) rfl rfl (y_mov rfl rfl rr) (wl_unless 22 false 25 rfl rfl rfl (Or.inl rfl) rfl (wl_unless 22 false 25 rfl rfl rfl (Or.inl rfl) rfl (wl_unless 22 false 25 rfl rfl rfl (Or.inl rfl) rfl (wl_unless 22 false 25 rfl rfl rfl (Or.inl rfl) rfl ?_)))))))))))
  refine wl_unless 22 false 25 rfl rfl rfl (Or.inl rfl) rfl (wl_unless 22 false 25 rfl rfl rfl (Or.inl rfl) rfl (wl_unless 22 false 25 rfl rfl rfl (Or.inl rfl) rfl (wl_unless 22 false 25 rfl rfl rfl (Or.inl rfl) rfl (wl_unless 22 false 25 rfl rfl rfl (Or.inl rfl) rfl (wl_unless 22 false 25 rfl rfl rfl (Or.inl rfl) rfl (wl_unless 22 false 25 rfl rfl rfl (Or.inl rfl) rfl (wl_v (.bool true) rfl rfl (y_pickT rfl rfl rfl rr) (wl_v (.bool true) rfl rfl (y_mov rfl rfl rr) (wl_unless 35 false 38 rfl rfl rfl (Or.inl rfl) rfl (wl_unless 35 false 38 rfl rfl rfl (Or.inl rfl) rfl (wl_unless 35 false 38 rfl rfl rfl (Or.inl rfl) rfl ?_)))))))))))
  refine wl_unless 35 false 38 rfl rfl rfl (Or.inl rfl) rfl (wl_unless 35 false 38 rfl rfl rfl (Or.inl rfl) rfl (wl_unless 35 false 38 rfl rfl rfl (Or.inl rfl) rfl (wl_unless 35 false 38 rfl rfl rfl (Or.inl rfl) rfl (wl_unless 35 false 38 rfl rfl rfl (Or.inl rfl) rfl (wl_unless 35 false 38 rfl rfl rfl (Or.inl rfl) rfl (wl_unless 35 false 38 rfl rfl rfl (Or.inl rfl) rfl (wl_unless 35 false 38 rfl rfl rfl (Or.inl rfl) rfl (wl_v (.bool true) rfl rfl (y_pickT rfl rfl rfl rr) (wl_nil fun F122 hF123 => ?_)))))))))
  have s124 := (hF123 51).trans s16
  have s125 : F122 50 = .bool true := (hF123 50).trans rfl
  clear hF123
  refine then_normal ?_
  refine wq_cond (t := true) s125 (fun _ => ?_) (fun e => by cases e)
  refine wq_seq (wq_region (wl_v (iv 70) rfl rfl (y_asg rfl rfl rr) (wl_nil fun F126 hF127 => ?_)))
  have s128 := (hF127 51).trans s124
  have s129 : F126 2 = iv 70 := (hF127 2).trans rfl
  clear hF127
  refine then_normal (wq_ret (then_ret ?_))
  exact end_tmp (v := iv 70) s128 rfl rfl s129 ⟨(by first | rw [checkE_ok ⟨by assumption, by assumption, by first | assumption | (apply Decidable.byContradiction; assumption), by first | assumption | (apply Decidable.byContradiction; assumption), by first | assumption | (apply Decidable.byContradiction; assumption)⟩] | rw [checkE_no (by rintro ⟨h1, h2, h3, h4, h5⟩; simp_all)]), K121⟩
theorem fref_size (p : Int) (f : FD) (f0 f1 f2 : Value) (T_f0 : Nat → Prop) (T_f1 : Nat → Prop) (T_f2 : Nat → Prop) (w0 : World) (h_f0 : Byt w0 T_f0 f0 ((f).p0)) (h_f1 : Byt w0 T_f1 f1 ((f).p1)) (h_f2 : Byt w0 T_f2 f2 ((f).p2)) :
  Calls Tryz.prog 104 #[.agg #[.int .i64 ((f).W), .int .i64 ((f).H), f0, f1, f2], .int .i64 (p)] w0 fun e w' => e = .returned (.tuple #[.int .i64 ((sizeF f p).1), .int .i64 ((sizeF f p).2)]) ∧ Kept (fun _ => False) w0 w' := by
 refine calls_wq (args := [.agg #[iv (f.W), iv (f.H), f0, f1, f2], iv p]) 29 Tryz.func104 rfl rfl (Nat.le_of_ble_eq_true rfl) ?_
 have K0 := Kept.refl (fun _ => False) w0
 have g_f0 := Grew.refl w0 T_f0
 have g_f1 := Grew.refl w0 T_f1
 have g_f2 := Grew.refl w0 T_f2
 refine wq_seq (wq_region (wl_box_stc (vs := [iv (f.W), iv (f.H), f0, f1, f2]) rfl rfl rfl rfl fun p1 w2 B4 g5 k3 => ?_))
 have B10 := h_f0.all k3 Apart.none
 have B11 := h_f1.all k3 Apart.none
 have B12 := h_f2.all k3 Apart.none
 have K13 := K0.tr k3
 refine wl_v (iv 0) rfl rfl (y_asg rfl rfl rr) (wl_v (iv 0) rfl rfl (y_asg rfl rfl rr) (wl_nil fun F14 hF15 => ?_))
 have s16 : F14 1 = iv p := (hF15 1).trans rfl
 have s17 : F14 29 = undef := (hF15 29).trans rfl
 have s18 : F14 2 = pt p1 0 := (hF15 2).trans rfl
 clear hF15
 refine then_normal (wq_seq (wq_seq ?_))
 by_cases d19 : (checkE f) ≠ 0
 ·skip
  refine wq_region (wl_v (.agg #[iv (f.W), iv (f.H), f0, f1, f2]) rfl rfl (y_load_stc stcT_frame rfl s18 B4 rr) (wl_cs rfl rfl rfl rfl rfl (fun _ _ => by kernel_rfl) (vsC rfl vsN) (fref_check f f0 f1 f2 T_f0 T_f1 T_f2 _  B10 B11 B12 ) fun w20 k21 => ?_))
  have K26 := K13.tr k21
  refine wl_v (.bool true) rfl rfl (y_neqI rfl rfl rfl (decide_eq_true d19) rr) (wl_v (.bool true) rfl rfl (y_mov rfl rfl rr) (wl_unless 3 false 9 rfl rfl rfl (Or.inl rfl) rfl (wl_unless 3 false 9 rfl rfl rfl (Or.inl rfl) rfl (wl_v (.bool true) rfl rfl (y_pickT rfl rfl rfl rr) (wl_v (.bool true) rfl rfl (y_mov rfl rfl rr) (wl_unless 7 false 13 rfl rfl rfl (Or.inl rfl) rfl (wl_unless 7 false 13 rfl rfl rfl (Or.inl rfl) rfl (wl_v (.bool true) rfl rfl (y_pickT rfl rfl rfl rr) (wl_nil fun F27 hF28 => ?_)))))))))
  have s30 := (hF28 29).trans s17
  have s32 : F27 16 = .bool true := (hF28 16).trans rfl
  clear hF28
  refine then_normal ?_
  refine wq_cond (t := true) s32 (fun _ => ?_) (fun e => by cases e)
  refine wq_seq (wq_region (wl_v (iv 0) rfl rfl (y_asg rfl rfl rr) (wl_v (iv 0) rfl rfl (y_asg rfl rfl rr) (wl_nil fun F33 hF34 => ?_))))
  have s35 := (hF34 29).trans s30
  have s36 : F33 4 = iv 0 := (hF34 4).trans rfl
  have s37 : F33 5 = iv 0 := (hF34 5).trans rfl
  clear hF34
  refine then_normal (wq_ret (then_ret ?_))
  exact end_2 s35 rfl (res_tmp (v := iv 0) rfl s36) (res_tmp (v := iv 0) rfl s37) ⟨(by first | rw [sizeF_first hok (by omega)] | rw [sizeF_other hok (by omega) (by omega) (by omega)] | rw [sizeF_no (by rintro ⟨h1, h2, h3⟩; first | exact absurd ((checkE_iff f).2 h1) (by assumption) | omega)]), K26⟩
 ·skip
  by_cases d38 : p < 0
  ·skip
   refine wq_region (wl_v (.agg #[iv (f.W), iv (f.H), f0, f1, f2]) rfl rfl (y_load_stc stcT_frame rfl s18 B4 rr) (wl_cs rfl rfl rfl rfl rfl (fun _ _ => by kernel_rfl) (vsC rfl vsN) (fref_check f f0 f1 f2 T_f0 T_f1 T_f2 _  B10 B11 B12 ) fun w39 k40 => ?_))
   have K45 := K13.tr k40
   refine wl_v (.bool false) rfl rfl (y_neqI rfl rfl rfl (decide_eq_false d19) rr) (wl_v (.bool false) rfl rfl (y_mov rfl rfl rr) (wl_vw (iv p) 3 false 9 rfl rfl rfl rfl rfl (y_mov rfl s16 rr) (wl_vw (.bool true) 3 false 9 rfl rfl rfl rfl rfl (y_lss rfl rfl rfl (decide_eq_true d38) rr) (wl_v (.bool true) rfl rfl (y_pickF rfl rfl rfl rr) (wl_v (.bool true) rfl rfl (y_mov rfl rfl rr) (wl_unless 7 false 13 rfl rfl rfl (Or.inl rfl) rfl (wl_unless 7 false 13 rfl rfl rfl (Or.inl rfl) rfl (wl_v (.bool true) rfl rfl (y_pickT rfl rfl rfl rr) (wl_nil fun F46 hF47 => ?_)))))))))
   have s49 := (hF47 29).trans s17
   have s51 : F46 16 = .bool true := (hF47 16).trans rfl
   clear hF47
   refine then_normal ?_
   refine wq_cond (t := true) s51 (fun _ => ?_) (fun e => by cases e)
   refine wq_seq (wq_region (wl_v (iv 0) rfl rfl (y_asg rfl rfl rr) (wl_v (iv 0) rfl rfl (y_asg rfl rfl rr) (wl_nil fun F52 hF53 => ?_))))
   have s54 := (hF53 29).trans s49
   have s55 : F52 4 = iv 0 := (hF53 4).trans rfl
   have s56 : F52 5 = iv 0 := (hF53 5).trans rfl
   clear hF53
   refine then_normal (wq_ret (then_ret ?_))
   exact end_2 s54 rfl (res_tmp (v := iv 0) rfl s55) (res_tmp (v := iv 0) rfl s56) ⟨(by first | rw [sizeF_first hok (by omega)] | rw [sizeF_other hok (by omega) (by omega) (by omega)] | rw [sizeF_no (by rintro ⟨h1, h2, h3⟩; first | exact absurd ((checkE_iff f).2 h1) (by assumption) | omega)]), K45⟩
  ·skip
   refine wq_region (wl_v (.agg #[iv (f.W), iv (f.H), f0, f1, f2]) rfl rfl (y_load_stc stcT_frame rfl s18 B4 rr) (wl_cs rfl rfl rfl rfl rfl (fun _ _ => by kernel_rfl) (vsC rfl vsN) (fref_check f f0 f1 f2 T_f0 T_f1 T_f2 _  B10 B11 B12 ) fun w57 k58 => ?_))
   have B62 := B4.all k58 id
   have K63 := K13.tr k58
   refine wl_v (.bool false) rfl rfl (y_neqI rfl rfl rfl (decide_eq_false d19) rr) (wl_v (.bool false) rfl rfl (y_mov rfl rfl rr) (wl_vw (iv p) 3 false 9 rfl rfl rfl rfl rfl (y_mov rfl s16 rr) (wl_vw (.bool false) 3 false 9 rfl rfl rfl rfl rfl (y_lss rfl rfl rfl (decide_eq_false d38) rr) (wl_v (.bool false) rfl rfl (y_pickF rfl rfl rfl rr) (wl_v (.bool false) rfl rfl (y_mov rfl rfl rr) (wl_vw (iv p) 7 false 13 rfl rfl rfl rfl rfl (y_mov rfl s16 rr) (wl_vw (.bool (decide (2 < p))) 7 false 13 rfl rfl rfl rfl rfl (y_gtr rfl rfl rfl rfl rr) (wl_v (.bool (decide (2 < p))) rfl rfl (y_pickF rfl rfl rfl rr) (wl_nil fun F64 hF65 => ?_)))))))))
   obtain ⟨s66, s67, s68⟩ := t3 hF65 1 s16 29 s17 2 s18
   have s69 : F64 16 = .bool (decide (2 < p)) := (hF65 16).trans rfl
   clear hF65
   refine then_normal ?_
   refine wq_cond s69 (fun c70 => ?_) (fun c70 => ?_)
   ·replace c70 := of_decide_eq_true c70
    refine wq_seq (wq_region (wl_v (iv 0) rfl rfl (y_asg rfl rfl rr) (wl_v (iv 0) rfl rfl (y_asg rfl rfl rr) (wl_nil fun F71 hF72 => ?_))))
    have s73 := (hF72 29).trans s67
    have s74 : F71 4 = iv 0 := (hF72 4).trans rfl
    have s75 : F71 5 = iv 0 := (hF72 5).trans rfl
    clear hF72
    refine then_normal (wq_ret (then_ret ?_))
    exact end_2 s73 rfl (res_tmp (v := iv 0) rfl s74) (res_tmp (v := iv 0) rfl s75) ⟨(by first | rw [sizeF_first hok (by omega)] | rw [sizeF_other hok (by omega) (by omega) (by omega)] | rw [sizeF_no (by rintro ⟨h1, h2, h3⟩; first | exact absurd ((checkE_iff f).2 h1) (by assumption) | omega)]), K63⟩
   ·replace c70 := of_decide_eq_false c70
    refine wq_skip (then_normal (wq_seq (wq_seq (wq_region (wl_mv rfl rfl rfl s66 (wl_v (.bool (decide (p = 0))) rfl rfl (y_eqlI rfl rfl rfl rfl rr) (wl_nil fun F76 hF77 => ?_)))))))
    obtain ⟨s78, s79⟩ := t2 hF77 29 s67 2 s68
    have s80 : F76 18 = .bool (decide (p = 0)) := (hF77 18).trans rfl
    clear hF77
    refine then_normal ?_
    refine wq_cond s80 (fun c81 => ?_) (fun c81 => ?_)
    ·replace c81 := of_decide_eq_true c81
     refine wq_seq ?_
     have hok := (checkE_iff f).1 (by first | assumption | (apply Decidable.byContradiction; assumption))
     refine wq_said [some 19, some 20, some 21, some 22, some 4, some 5] [Pd.eq (pt p1 0), Pd.eq (iv (f.W)), Pd.eq (pt p1 1), Pd.eq (iv (f.H)), Pd.eq (iv (f.W)), Pd.eq (iv (f.H))] (by kernel_rfl) (by kernel_rfl) ?_ ?_
     ·refine stepsF_cons ?_ ?_
      ·refine StepF.one rfl fun F_ w_ hR hout hD => ?_
       exact (y_fieldR (n := 1) rfl ((hout 2 rfl (by decide)).trans s79) Tryz.underlying25 rfl (by kernel_rfl) (by decide) rfl ⟨rfl, Kept.refl _ _⟩)
      refine stepsF_cons ?_ ?_
      ·refine StepF.one rfl fun F_ w_ hR hout hD => ?_
       have g19 : F_ 19 = pt p1 0 := (hD.get 0 rfl rfl rfl)
       exact (y_ld_stc rfl g19 Tryz.underlying3 (B62.all hR id) rfl rfl ⟨rfl, Kept.refl _ _⟩)
      refine stepsF_cons ?_ ?_
      ·refine StepF.one rfl fun F_ w_ hR hout hD => ?_
       exact (y_fieldR (n := 1) rfl ((hout 2 rfl (by decide)).trans s79) Tryz.underlying25 rfl (by kernel_rfl) (by decide) rfl ⟨rfl, Kept.refl _ _⟩)
      refine stepsF_cons ?_ ?_
      ·refine StepF.one rfl fun F_ w_ hR hout hD => ?_
       have g21 : F_ 21 = pt p1 1 := (hD.get 0 rfl rfl rfl)
       exact (y_ld_stc rfl g21 Tryz.underlying3 (B62.all hR id) rfl rfl ⟨rfl, Kept.refl _ _⟩)
      refine stepsF_cons ?_ ?_
      ·refine StepF.one rfl fun F_ w_ hR hout hD => ?_
       have g20 : F_ 20 = iv (f.W) := (hD.get 0 rfl rfl rfl)
       exact (y_asg rfl g20 ⟨rfl, Kept.refl _ _⟩)
      refine stepsF_cons ?_ ?_
      ·refine StepF.one rfl fun F_ w_ hR hout hD => ?_
       have g22 : F_ 22 = iv (f.H) := (hD.get 0 rfl rfl rfl)
       exact (y_asg rfl g22 ⟨rfl, Kept.refl _ _⟩)
      exact stepsF_nil
     intro v82 F83 w84 k85 G86 hF87
     have K93 := K63.tr k85
     have s94 := (hF87 29).trans s78
     have s95 : F83 4 = iv (f.W) := (hF87 4).trans (G86 4 (by decide))
     have s96 : F83 5 = iv (f.H) := (hF87 5).trans (G86 5 (by decide))
     clear G86 hF87
     refine then_normal (wq_ret (then_ret ?_))
     exact end_2 s94 rfl (res_tmp (v := iv (f.W)) rfl s95) (res_tmp (v := iv (f.H)) rfl s96) ⟨(by first | rw [sizeF_first hok (by omega)] | rw [sizeF_other hok (by omega) (by omega) (by omega)] | rw [sizeF_no (by rintro ⟨h1, h2, h3⟩; first | exact absurd ((checkE_iff f).2 h1) (by assumption) | omega)]), K93⟩
    ·replace c81 := of_decide_eq_false c81
     refine wq_skip (then_normal (wq_seq ?_))
     have hok := (checkE_iff f).1 (by first | assumption | (apply Decidable.byContradiction; assumption))
     have hws := (sideB_iff _).1 hok.1
     have hhs := (sideB_iff _).1 hok.2.1
     refine wq_said [some 23, some 24, some 25, some 26, some 27, some 28, some 4, some 5] [Pd.eq (pt p1 0), Pd.eq (iv (f.W)), Pd.eq (iv (Int.tdiv f.W 2)), Pd.eq (pt p1 1), Pd.eq (iv (f.H)), Pd.eq (iv (Int.tdiv f.H 2)), Pd.eq (iv (Int.tdiv f.W 2)), Pd.eq (iv (Int.tdiv f.H 2))] (by kernel_rfl) (by kernel_rfl) ?_ ?_
     ·refine stepsF_cons ?_ ?_
      ·refine StepF.one rfl fun F_ w_ hR hout hD => ?_
       exact (y_fieldR (n := 1) rfl ((hout 2 rfl (by decide)).trans s79) Tryz.underlying25 rfl (by kernel_rfl) (by decide) rfl ⟨rfl, Kept.refl _ _⟩)
      refine stepsF_cons ?_ ?_
      ·refine StepF.one rfl fun F_ w_ hR hout hD => ?_
       have g23 : F_ 23 = pt p1 0 := (hD.get 0 rfl rfl rfl)
       exact (y_ld_stc rfl g23 Tryz.underlying3 (B62.all hR id) rfl rfl ⟨rfl, Kept.refl _ _⟩)
      refine stepsF_cons ?_ ?_
      ·refine StepF.one rfl fun F_ w_ hR hout hD => ?_
       have g24 : F_ 24 = iv (f.W) := (hD.get 0 rfl rfl rfl)
       exact (y_quo rfl g24 rfl (by first | decide | omega) (i64_i rfl (by rw [tdiv2 (by omega)]; omega)) ⟨rfl, Kept.refl _ _⟩)
      refine stepsF_cons ?_ ?_
      ·refine StepF.one rfl fun F_ w_ hR hout hD => ?_
       exact (y_fieldR (n := 1) rfl ((hout 2 rfl (by decide)).trans s79) Tryz.underlying25 rfl (by kernel_rfl) (by decide) rfl ⟨rfl, Kept.refl _ _⟩)
      refine stepsF_cons ?_ ?_
      ·refine StepF.one rfl fun F_ w_ hR hout hD => ?_
       have g26 : F_ 26 = pt p1 1 := (hD.get 0 rfl rfl rfl)
       exact (y_ld_stc rfl g26 Tryz.underlying3 (B62.all hR id) rfl rfl ⟨rfl, Kept.refl _ _⟩)
      refine stepsF_cons ?_ ?_
      ·refine StepF.one rfl fun F_ w_ hR hout hD => ?_
       have g27 : F_ 27 = iv (f.H) := (hD.get 0 rfl rfl rfl)
       exact (y_quo rfl g27 rfl (by first | decide | omega) (i64_i rfl (by rw [tdiv2 (by omega)]; omega)) ⟨rfl, Kept.refl _ _⟩)
      refine stepsF_cons ?_ ?_
      ·refine StepF.one rfl fun F_ w_ hR hout hD => ?_
       have g25 : F_ 25 = iv (Int.tdiv f.W 2) := (hD.get 0 rfl rfl rfl)
       exact (y_asg rfl g25 ⟨rfl, Kept.refl _ _⟩)
      refine stepsF_cons ?_ ?_
      ·refine StepF.one rfl fun F_ w_ hR hout hD => ?_
       have g28 : F_ 28 = iv (Int.tdiv f.H 2) := (hD.get 0 rfl rfl rfl)
       exact (y_asg rfl g28 ⟨rfl, Kept.refl _ _⟩)
      exact stepsF_nil
     intro v97 F98 w99 k100 G101 hF102
     have K108 := K63.tr k100
     have s109 := (hF102 29).trans s78
     have s110 : F98 4 = iv (Int.tdiv f.W 2) := (hF102 4).trans (G101 6 (by decide))
     have s111 : F98 5 = iv (Int.tdiv f.H 2) := (hF102 5).trans (G101 7 (by decide))
     clear G101 hF102
     refine then_normal (wq_ret ?_)
     exact end_2 s109 rfl (res_tmp (v := iv (Int.tdiv f.W 2)) rfl s110) (res_tmp (v := iv (Int.tdiv f.H 2)) rfl s111) ⟨(by first | rw [sizeF_first hok (by omega)] | rw [sizeF_other hok (by omega) (by omega) (by omega)] | rw [sizeF_no (by rintro ⟨h1, h2, h3⟩; first | exact absurd ((checkE_iff f).2 h1) (by assumption) | omega)]), K108⟩
theorem fref_at (p x y : Int) (f : FD) (f0 f1 f2 : Value) (T_f0 : Nat → Prop) (T_f1 : Nat → Prop) (T_f2 : Nat → Prop) (w0 : World) (h_f0 : Byt w0 T_f0 f0 ((f).p0)) (h_f1 : Byt w0 T_f1 f1 ((f).p1)) (h_f2 : Byt w0 T_f2 f2 ((f).p2)) :
  Calls Tryz.prog 88 #[.agg #[.int .i64 ((f).W), .int .i64 ((f).H), f0, f1, f2], .int .i64 (p), .int .i64 (x), .int .i64 (y)] w0 fun e w' => e = .returned (.int .i64 (atF f p x y)) ∧ Kept (fun _ => False) w0 w' := by
 refine calls_wq (args := [.agg #[iv (f.W), iv (f.H), f0, f1, f2], iv p, iv x, iv y]) 39 Tryz.func88 rfl rfl (Nat.le_of_ble_eq_true rfl) ?_
 have K0 := Kept.refl (fun _ => False) w0
 have g_f0 := Grew.refl w0 T_f0
 have g_f1 := Grew.refl w0 T_f1
 have g_f2 := Grew.refl w0 T_f2
 refine wq_seq (wq_region (wl_box_stc (vs := [iv (f.W), iv (f.H), f0, f1, f2]) rfl rfl rfl rfl fun p1 w2 B4 g5 k3 => ?_))
 have B10 := h_f0.all k3 Apart.none
 have B11 := h_f1.all k3 Apart.none
 have B12 := h_f2.all k3 Apart.none
 have K13 := K0.tr k3
 refine wl_v (iv 0) rfl rfl (y_asg rfl rfl rr) (wl_nil fun F14 hF15 => ?_)
 have s16 : F14 1 = iv p := (hF15 1).trans rfl
 have s17 : F14 2 = iv x := (hF15 2).trans rfl
 have s18 : F14 3 = iv y := (hF15 3).trans rfl
 have s19 : F14 39 = undef := (hF15 39).trans rfl
 have s20 : F14 4 = pt p1 0 := (hF15 4).trans rfl
 clear hF15
 refine then_normal (wq_seq (wq_region (wl_v (.agg #[iv (f.W), iv (f.H), f0, f1, f2]) rfl rfl (y_load_stc stcT_frame rfl s20 B4 rr) (wl_mv rfl rfl rfl s16 (wl_cs rfl rfl rfl rfl rfl (fun _ _ => by kernel_rfl) (vsC rfl (vsC rfl vsN)) (fref_size p f f0 f1 f2 T_f0 T_f1 T_f2 _  B10 B11 B12 ) fun w21 k22 => ?_)))))
 have B23 := B10.all k22 Apart.none
 have B24 := B11.all k22 Apart.none
 have B25 := B12.all k22 Apart.none
 have B26 := B4.all k22 id
 have K27 := K13.tr k22
 refine wl_v (.tuple #[iv ((sizeF f p).1), iv ((sizeF f p).2)]) rfl rfl (y_mov rfl rfl rr) (wl_v (iv ((sizeF f p).1)) rfl rfl (y_ext rfl rfl rfl rr) (wl_v (iv ((sizeF f p).2)) rfl rfl (y_ext rfl rfl rfl rr) (wl_v (iv ((sizeF f p).1)) rfl rfl (y_asg rfl rfl rr) (wl_v (iv ((sizeF f p).2)) rfl rfl (y_asg rfl rfl rr) (wl_nil fun F28 hF29 => ?_)))))
 obtain ⟨s30, s31, s32, s33, s34⟩ := t5 hF29 1 s16 2 s17 3 s18 39 s19 4 s20
 have s35 : F28 9 = iv ((sizeF f p).1) := (hF29 9).trans rfl
 have s36 : F28 10 = iv ((sizeF f p).2) := (hF29 10).trans rfl
 clear hF29
 refine then_normal (wq_seq (wq_seq (wq_region (wl_mv rfl rfl rfl s35 (wl_v (.bool (decide (((sizeF f p).1) = 0))) rfl rfl (y_eqlI rfl rfl rfl rfl rr) (wl_nil fun F37 hF38 => ?_))))))
 obtain ⟨s39, s40, s41, s42, s43, s44, s45⟩ := t7 hF38 1 s30 2 s31 3 s32 39 s33 4 s34 9 s35 10 s36
 have s46 : F37 18 = .bool (decide (((sizeF f p).1) = 0)) := (hF38 18).trans rfl
 clear hF38
 refine then_normal ?_
 refine wq_cond s46 (fun c47 => ?_) (fun c47 => ?_)
 ·replace c47 := of_decide_eq_true c47
  refine wq_seq (wq_region (wl_v (iv 0) rfl rfl (y_asg rfl rfl rr) (wl_nil fun F48 hF49 => ?_)))
  have s50 := (hF49 39).trans s42
  have s51 : F48 8 = iv 0 := (hF49 8).trans rfl
  clear hF49
  refine then_normal (wq_ret (then_ret ?_))
  exact end_tmp (v := iv 0) s50 rfl rfl s51 ⟨(by first | rw [atF_none x y (by assumption)] | rw [atF_some x y hsz]; rfl), K27⟩
 ·replace c47 := of_decide_eq_false c47
  refine wq_skip (then_normal (wq_seq ?_))
  rcases (show p = 0 ∨ p = 1 ∨ p = 2 from size_cases (f := f) (by assumption)) with rfl | rfl | rfl
  ·skip
   have hsz : (sizeF f 0).1 ≠ 0 := by assumption
   have hb := size_bounds f 0
   have hc := cell_bounds x y hsz
   refine wq_region (wl_mv rfl rfl rfl s39 (wl_v (pt p1 2) rfl rfl (y_fieldR (n := 3) rfl s43 Tryz.underlying25 rfl (by kernel_rfl) (by decide) rfl rr) (wl_v (pt p1 2) rfl rfl (y_atR 0 (s := 1) rfl rfl rfl (by omega) Tryz.underlying23 (by omega) (by kernel_rfl) (by omega) rr) (wl_v f0 rfl rfl (y_ld_stc rfl rfl Tryz.underlying22 B26 rfl rfl rr) (wl_mv rfl rfl rfl s41 (wl_v (iv (max y 0)) rfl rfl (y_maxR rfl rfl rfl rfl rr) (wl_mv rfl rfl rfl s45 (wl_v (iv (((sizeF f 0).2) - 1)) rfl rfl (y_sub rfl rfl rfl (i64_i rfl (by omega)) rr) (wl_v (iv (min (max y 0) (((sizeF f 0).2) - 1))) rfl rfl (y_minR rfl rfl rfl rfl rr) (wl_mv rfl rfl rfl s44 (wl_v (iv (min (max y 0) ((sizeF f 0).2 - 1) * (sizeF f 0).1)) rfl rfl (y_mul rfl rfl rfl (i64_i rfl (by omega)) rr) ?_)))))))))))
   refine wl_mv rfl rfl rfl s40 (wl_v (iv (max x 0)) rfl rfl (y_maxR rfl rfl rfl rfl rr) (wl_mv rfl rfl rfl s44 (wl_v (iv (((sizeF f 0).1) - 1)) rfl rfl (y_sub rfl rfl rfl (i64_i rfl (by omega)) rr) (wl_v (iv (min (max x 0) (((sizeF f 0).1) - 1))) rfl rfl (y_minR rfl rfl rfl rfl rr) (wl_v (iv (((cellF f 0 x y).toNat : Nat) : Int)) rfl rfl (y_add rfl rfl rfl ((i64_i rfl (by show _ ≤ cellF f 0 x y ∧ cellF f 0 x y ≤ _; omega)).trans (Int.toNat_of_nonneg (by omega)).symm) rr) (wl_v (bytAddr f0 ((cellF f 0 x y).toNat)) rfl rfl (y_atB ((cellF f 0 x y).toNat) rfl rfl rfl (by omega) B23 (cell_at x y hsz) rr) ?_))))))
   have u52 := getD_lt B23.lt256 ((cellF f 0 x y).toNat)
   refine wl_v (.int .u8 (((f.p0).getD ((cellF f 0 x y).toNat) 0 : Nat) : Int)) rfl rfl (y_ldB rfl rfl B23 (cell_at x y hsz) rr) (wl_v (iv (((f.p0).getD ((cellF f 0 x y).toNat) 0 : Nat) : Int)) rfl rfl (y_convR rfl rfl Tryz.underlying5 Tryz.underlying3 (i64_i rfl (by omega)) rr) (wl_v (iv (((f.p0).getD ((cellF f 0 x y).toNat) 0 : Nat) : Int)) rfl rfl (y_asg rfl rfl rr) (wl_nil fun F53 hF54 => ?_)))
   have s55 := (hF54 39).trans s42
   have s56 : F53 8 = iv (((f.p0).getD ((cellF f 0 x y).toNat) 0 : Nat) : Int) := (hF54 8).trans rfl
   clear hF54
   refine then_normal (wq_ret ?_)
   exact end_tmp (v := iv (((f.p0).getD ((cellF f 0 x y).toNat) 0 : Nat) : Int)) s55 rfl rfl s56 ⟨(by first | rw [atF_none x y (by assumption)] | rw [atF_some x y hsz]; rfl), K27⟩
  ·skip
   have hsz : (sizeF f 1).1 ≠ 0 := by assumption
   have hb := size_bounds f 1
   have hc := cell_bounds x y hsz
   refine wq_region (wl_mv rfl rfl rfl s39 (wl_v (pt p1 2) rfl rfl (y_fieldR (n := 3) rfl s43 Tryz.underlying25 rfl (by kernel_rfl) (by decide) rfl rr) (wl_v (pt p1 3) rfl rfl (y_atR 1 (s := 1) rfl rfl rfl (by omega) Tryz.underlying23 (by omega) (by kernel_rfl) (by omega) rr) (wl_v f1 rfl rfl (y_ld_stc rfl rfl Tryz.underlying22 B26 rfl rfl rr) (wl_mv rfl rfl rfl s41 (wl_v (iv (max y 0)) rfl rfl (y_maxR rfl rfl rfl rfl rr) (wl_mv rfl rfl rfl s45 (wl_v (iv (((sizeF f 1).2) - 1)) rfl rfl (y_sub rfl rfl rfl (i64_i rfl (by omega)) rr) (wl_v (iv (min (max y 0) (((sizeF f 1).2) - 1))) rfl rfl (y_minR rfl rfl rfl rfl rr) (wl_mv rfl rfl rfl s44 (wl_v (iv (min (max y 0) ((sizeF f 1).2 - 1) * (sizeF f 1).1)) rfl rfl (y_mul rfl rfl rfl (i64_i rfl (by omega)) rr) ?_)))))))))))
   refine wl_mv rfl rfl rfl s40 (wl_v (iv (max x 0)) rfl rfl (y_maxR rfl rfl rfl rfl rr) (wl_mv rfl rfl rfl s44 (wl_v (iv (((sizeF f 1).1) - 1)) rfl rfl (y_sub rfl rfl rfl (i64_i rfl (by omega)) rr) (wl_v (iv (min (max x 0) (((sizeF f 1).1) - 1))) rfl rfl (y_minR rfl rfl rfl rfl rr) (wl_v (iv (((cellF f 1 x y).toNat : Nat) : Int)) rfl rfl (y_add rfl rfl rfl ((i64_i rfl (by show _ ≤ cellF f 1 x y ∧ cellF f 1 x y ≤ _; omega)).trans (Int.toNat_of_nonneg (by omega)).symm) rr) (wl_v (bytAddr f1 ((cellF f 1 x y).toNat)) rfl rfl (y_atB ((cellF f 1 x y).toNat) rfl rfl rfl (by omega) B24 (cell_at x y hsz) rr) ?_))))))
   have u57 := getD_lt B24.lt256 ((cellF f 1 x y).toNat)
   refine wl_v (.int .u8 (((f.p1).getD ((cellF f 1 x y).toNat) 0 : Nat) : Int)) rfl rfl (y_ldB rfl rfl B24 (cell_at x y hsz) rr) (wl_v (iv (((f.p1).getD ((cellF f 1 x y).toNat) 0 : Nat) : Int)) rfl rfl (y_convR rfl rfl Tryz.underlying5 Tryz.underlying3 (i64_i rfl (by omega)) rr) (wl_v (iv (((f.p1).getD ((cellF f 1 x y).toNat) 0 : Nat) : Int)) rfl rfl (y_asg rfl rfl rr) (wl_nil fun F58 hF59 => ?_)))
   have s60 := (hF59 39).trans s42
   have s61 : F58 8 = iv (((f.p1).getD ((cellF f 1 x y).toNat) 0 : Nat) : Int) := (hF59 8).trans rfl
   clear hF59
   refine then_normal (wq_ret ?_)
   exact end_tmp (v := iv (((f.p1).getD ((cellF f 1 x y).toNat) 0 : Nat) : Int)) s60 rfl rfl s61 ⟨(by first | rw [atF_none x y (by assumption)] | rw [atF_some x y hsz]; rfl), K27⟩
  ·skip
   have hsz : (sizeF f 2).1 ≠ 0 := by assumption
   have hb := size_bounds f 2
   have hc := cell_bounds x y hsz
   refine wq_region (wl_mv rfl rfl rfl s39 (wl_v (pt p1 2) rfl rfl (y_fieldR (n := 3) rfl s43 Tryz.underlying25 rfl (by kernel_rfl) (by decide) rfl rr) (wl_v (pt p1 4) rfl rfl (y_atR 2 (s := 1) rfl rfl rfl (by omega) Tryz.underlying23 (by omega) (by kernel_rfl) (by omega) rr) (wl_v f2 rfl rfl (y_ld_stc rfl rfl Tryz.underlying22 B26 rfl rfl rr) (wl_mv rfl rfl rfl s41 (wl_v (iv (max y 0)) rfl rfl (y_maxR rfl rfl rfl rfl rr) (wl_mv rfl rfl rfl s45 (wl_v (iv (((sizeF f 2).2) - 1)) rfl rfl (y_sub rfl rfl rfl (i64_i rfl (by omega)) rr) (wl_v (iv (min (max y 0) (((sizeF f 2).2) - 1))) rfl rfl (y_minR rfl rfl rfl rfl rr) (wl_mv rfl rfl rfl s44 (wl_v (iv (min (max y 0) ((sizeF f 2).2 - 1) * (sizeF f 2).1)) rfl rfl (y_mul rfl rfl rfl (i64_i rfl (by omega)) rr) ?_)))))))))))
   refine wl_mv rfl rfl rfl s40 (wl_v (iv (max x 0)) rfl rfl (y_maxR rfl rfl rfl rfl rr) (wl_mv rfl rfl rfl s44 (wl_v (iv (((sizeF f 2).1) - 1)) rfl rfl (y_sub rfl rfl rfl (i64_i rfl (by omega)) rr) (wl_v (iv (min (max x 0) (((sizeF f 2).1) - 1))) rfl rfl (y_minR rfl rfl rfl rfl rr) (wl_v (iv (((cellF f 2 x y).toNat : Nat) : Int)) rfl rfl (y_add rfl rfl rfl ((i64_i rfl (by show _ ≤ cellF f 2 x y ∧ cellF f 2 x y ≤ _; omega)).trans (Int.toNat_of_nonneg (by omega)).symm) rr) (wl_v (bytAddr f2 ((cellF f 2 x y).toNat)) rfl rfl (y_atB ((cellF f 2 x y).toNat) rfl rfl rfl (by omega) B25 (cell_at x y hsz) rr) ?_))))))
   have u62 := getD_lt B25.lt256 ((cellF f 2 x y).toNat)
   refine wl_v (.int .u8 (((f.p2).getD ((cellF f 2 x y).toNat) 0 : Nat) : Int)) rfl rfl (y_ldB rfl rfl B25 (cell_at x y hsz) rr) (wl_v (iv (((f.p2).getD ((cellF f 2 x y).toNat) 0 : Nat) : Int)) rfl rfl (y_convR rfl rfl Tryz.underlying5 Tryz.underlying3 (i64_i rfl (by omega)) rr) (wl_v (iv (((f.p2).getD ((cellF f 2 x y).toNat) 0 : Nat) : Int)) rfl rfl (y_asg rfl rfl rr) (wl_nil fun F63 hF64 => ?_)))
   have s65 := (hF64 39).trans s42
   have s66 : F63 8 = iv (((f.p2).getD ((cellF f 2 x y).toNat) 0 : Nat) : Int) := (hF64 8).trans rfl
   clear hF64
   refine then_normal (wq_ret ?_)
   exact end_tmp (v := iv (((f.p2).getD ((cellF f 2 x y).toNat) 0 : Nat) : Int)) s65 rfl rfl s66 ⟨(by first | rw [atF_none x y (by assumption)] | rw [atF_some x y hsz]; rfl), K27⟩
end Go.Proofs.YtdcbabgcbkdlhaaGreatDoor
set_option maxRecDepth 100000
namespace Go.Proofs.YtdcbabgcbkdlhaaGreatDoor
open Go.RowKit
theorem flaw_few (f : FD) (f0 f1 f2 : Value) (T_f0 : Nat → Prop) (T_f1 : Nat → Prop) (T_f2 : Nat → Prop) (w0 : World) (h_f0 : Byt w0 T_f0 f0 ((f).p0)) (h_f1 : Byt w0 T_f1 f1 ((f).p1)) (h_f2 : Byt w0 T_f2 f2 ((f).p2)) :
  Calls Tryz.prog 5 #[.agg #[.int .i64 ((f).W), .int .i64 ((f).H), f0, f1, f2]] w0 fun e w' => e = .returned (.bool (fewF f)) ∧ Kept (fun _ => False) w0 w' := by
 refine calls_wq (args := [.agg #[iv (f.W), iv (f.H), f0, f1, f2]]) 22 Tryz.func5 rfl rfl (Nat.le_of_ble_eq_true rfl) ?_
 have K0 := Kept.refl (fun _ => False) w0
 have g_f0 := Grew.refl w0 T_f0
 have g_f1 := Grew.refl w0 T_f1
 have g_f2 := Grew.refl w0 T_f2
 refine wq_seq (wq_region (wl_box_stc (vs := [iv (f.W), iv (f.H), f0, f1, f2]) rfl rfl rfl rfl fun p1 w2 B4 g5 k3 => ?_))
 have B10 := h_f0.all k3 Apart.none
 have B11 := h_f1.all k3 Apart.none
 have B12 := h_f2.all k3 Apart.none
 have K13 := K0.tr k3
 refine wl_v (.bool false) rfl rfl (y_asg rfl rfl rr) (wl_nil fun F14 hF15 => ?_)
 have s16 : F14 22 = undef := (hF15 22).trans rfl
 have s17 : F14 1 = pt p1 0 := (hF15 1).trans rfl
 clear hF15
 refine then_normal (wq_seq ?_)
 by_cases d18 : (((f.p0).length : Nat) : Int) ≤ 10000
 ·skip
  by_cases d19 : (((f.p1).length : Nat) : Int) ≤ 10000
  ·skip
   refine wq_region (wl_v (pt p1 2) rfl rfl (y_fieldR (n := 3) rfl s17 Tryz.underlying25 rfl (by kernel_rfl) (by decide) rfl rr) (wl_v (pt p1 2) rfl rfl (y_atR 0 (s := 1) rfl rfl rfl (by omega) Tryz.underlying23 (by omega) (by kernel_rfl) (by omega) rr) (wl_v f0 rfl rfl (y_ld_stc rfl rfl Tryz.underlying22 B4 rfl rfl rr) (wl_v (iv (((f.p0).length : Nat) : Int)) rfl rfl (y_lenV rfl rfl rfl B10 rr) (wl_v (.bool true) rfl rfl (y_leq rfl rfl rfl (decide_eq_true d18) rr) (wl_v (.bool true) rfl rfl (y_mov rfl rfl rr) (wl_vw (pt p1 2) 5 true 8 rfl rfl rfl rfl rfl (y_fieldR (n := 3) rfl s17 Tryz.underlying25 rfl (by kernel_rfl) (by decide) rfl rr) (wl_vw (pt p1 3) 5 true 8 rfl rfl rfl rfl rfl (y_atR 1 (s := 1) rfl rfl rfl (by omega) Tryz.underlying23 (by omega) (by kernel_rfl) (by omega) rr) (wl_vw f1 5 true 8 rfl rfl rfl rfl rfl (y_ld_stc rfl rfl Tryz.underlying22 B4 rfl rfl rr) (wl_vw (iv (((f.p1).length : Nat) : Int)) 5 true 8 rfl rfl rfl rfl rfl (y_lenV rfl rfl rfl B11 rr) (wl_vw (.bool true) 5 true 8 rfl rfl rfl rfl rfl (y_leq rfl rfl rfl (decide_eq_true d19) rr) ?_)))))))))))
   refine wl_v (.bool true) rfl rfl (y_pickT rfl rfl rfl rr) (wl_v (.bool true) rfl rfl (y_mov rfl rfl rr) (wl_vw (pt p1 2) 12 true 15 rfl rfl rfl rfl rfl (y_fieldR (n := 3) rfl s17 Tryz.underlying25 rfl (by kernel_rfl) (by decide) rfl rr) (wl_vw (pt p1 4) 12 true 15 rfl rfl rfl rfl rfl (y_atR 2 (s := 1) rfl rfl rfl (by omega) Tryz.underlying23 (by omega) (by kernel_rfl) (by omega) rr) (wl_vw f2 12 true 15 rfl rfl rfl rfl rfl (y_ld_stc rfl rfl Tryz.underlying22 B4 rfl rfl rr) (wl_vw (iv (((f.p2).length : Nat) : Int)) 12 true 15 rfl rfl rfl rfl rfl (y_lenV rfl rfl rfl B12 rr) (wl_vw (.bool (decide ((((f.p2).length : Nat) : Int) ≤ 10000))) 12 true 15 rfl rfl rfl rfl rfl (y_leq rfl rfl rfl rfl rr) (wl_v (.bool (decide ((((f.p2).length : Nat) : Int) ≤ 10000))) rfl rfl (y_pickT rfl rfl rfl rr) (wl_v (.bool (decide ((((f.p2).length : Nat) : Int) ≤ 10000))) rfl rfl (y_asg rfl rfl rr) (wl_nil fun F20 hF21 => ?_)))))))))
   have s22 := (hF21 22).trans s16
   have s23 : F20 2 = .bool (decide ((((f.p2).length : Nat) : Int) ≤ 10000)) := (hF21 2).trans rfl
   clear hF21
   refine then_normal (wq_ret ?_)
   exact end_tmp (v := .bool (decide ((((f.p2).length : Nat) : Int) ≤ 10000))) s22 rfl rfl s23 ⟨(by first | rw [fewF_0 (by assumption)] | rw [fewF_1 (by assumption)] | rw [fewF_2 (by assumption) (by assumption)]), K13⟩
  ·skip
   refine wq_region (wl_v (pt p1 2) rfl rfl (y_fieldR (n := 3) rfl s17 Tryz.underlying25 rfl (by kernel_rfl) (by decide) rfl rr) (wl_v (pt p1 2) rfl rfl (y_atR 0 (s := 1) rfl rfl rfl (by omega) Tryz.underlying23 (by omega) (by kernel_rfl) (by omega) rr) (wl_v f0 rfl rfl (y_ld_stc rfl rfl Tryz.underlying22 B4 rfl rfl rr) (wl_v (iv (((f.p0).length : Nat) : Int)) rfl rfl (y_lenV rfl rfl rfl B10 rr) (wl_v (.bool true) rfl rfl (y_leq rfl rfl rfl (decide_eq_true d18) rr) (wl_v (.bool true) rfl rfl (y_mov rfl rfl rr) (wl_vw (pt p1 2) 5 true 8 rfl rfl rfl rfl rfl (y_fieldR (n := 3) rfl s17 Tryz.underlying25 rfl (by kernel_rfl) (by decide) rfl rr) (wl_vw (pt p1 3) 5 true 8 rfl rfl rfl rfl rfl (y_atR 1 (s := 1) rfl rfl rfl (by omega) Tryz.underlying23 (by omega) (by kernel_rfl) (by omega) rr) (wl_vw f1 5 true 8 rfl rfl rfl rfl rfl (y_ld_stc rfl rfl Tryz.underlying22 B4 rfl rfl rr) (wl_vw (iv (((f.p1).length : Nat) : Int)) 5 true 8 rfl rfl rfl rfl rfl (y_lenV rfl rfl rfl B11 rr) (wl_vw (.bool false) 5 true 8 rfl rfl rfl rfl rfl (y_leq rfl rfl rfl (decide_eq_false d19) rr) ?_)))))))))))
   refine wl_v (.bool false) rfl rfl (y_pickT rfl rfl rfl rr) (wl_v (.bool false) rfl rfl (y_mov rfl rfl rr) (wl_unless 12 true 15 rfl rfl rfl (Or.inl rfl) rfl (wl_unless 12 true 15 rfl rfl rfl (Or.inl rfl) rfl (wl_unless 12 true 15 rfl rfl rfl (Or.inl rfl) rfl (wl_unless 12 true 15 rfl rfl rfl (Or.inl rfl) rfl (wl_unless 12 true 15 rfl rfl rfl (Or.inl rfl) rfl (wl_v (.bool false) rfl rfl (y_pickF rfl rfl rfl rr) (wl_v (.bool false) rfl rfl (y_asg rfl rfl rr) (wl_nil fun F24 hF25 => ?_)))))))))
   have s26 := (hF25 22).trans s16
   have s27 : F24 2 = .bool false := (hF25 2).trans rfl
   clear hF25
   refine then_normal (wq_ret ?_)
   exact end_tmp (v := .bool false) s26 rfl rfl s27 ⟨(by first | rw [fewF_0 (by assumption)] | rw [fewF_1 (by assumption)] | rw [fewF_2 (by assumption) (by assumption)]), K13⟩
 ·skip
  refine wq_region (wl_v (pt p1 2) rfl rfl (y_fieldR (n := 3) rfl s17 Tryz.underlying25 rfl (by kernel_rfl) (by decide) rfl rr) (wl_v (pt p1 2) rfl rfl (y_atR 0 (s := 1) rfl rfl rfl (by omega) Tryz.underlying23 (by omega) (by kernel_rfl) (by omega) rr) (wl_v f0 rfl rfl (y_ld_stc rfl rfl Tryz.underlying22 B4 rfl rfl rr) (wl_v (iv (((f.p0).length : Nat) : Int)) rfl rfl (y_lenV rfl rfl rfl B10 rr) (wl_v (.bool false) rfl rfl (y_leq rfl rfl rfl (decide_eq_false d18) rr) (wl_v (.bool false) rfl rfl (y_mov rfl rfl rr) (wl_unless 5 true 8 rfl rfl rfl (Or.inl rfl) rfl (wl_unless 5 true 8 rfl rfl rfl (Or.inl rfl) rfl (wl_unless 5 true 8 rfl rfl rfl (Or.inl rfl) rfl (wl_unless 5 true 8 rfl rfl rfl (Or.inl rfl) rfl (wl_unless 5 true 8 rfl rfl rfl (Or.inl rfl) rfl ?_)))))))))))
  refine wl_v (.bool false) rfl rfl (y_pickF rfl rfl rfl rr) (wl_v (.bool false) rfl rfl (y_mov rfl rfl rr) (wl_unless 12 true 15 rfl rfl rfl (Or.inl rfl) rfl (wl_unless 12 true 15 rfl rfl rfl (Or.inl rfl) rfl (wl_unless 12 true 15 rfl rfl rfl (Or.inl rfl) rfl (wl_unless 12 true 15 rfl rfl rfl (Or.inl rfl) rfl (wl_unless 12 true 15 rfl rfl rfl (Or.inl rfl) rfl (wl_v (.bool false) rfl rfl (y_pickF rfl rfl rfl rr) (wl_v (.bool false) rfl rfl (y_asg rfl rfl rr) (wl_nil fun F28 hF29 => ?_)))))))))
  have s30 := (hF29 22).trans s16
  have s31 : F28 2 = .bool false := (hF29 2).trans rfl
  clear hF29
  refine then_normal (wq_ret ?_)
  exact end_tmp (v := .bool false) s30 rfl rfl s31 ⟨(by first | rw [fewF_0 (by assumption)] | rw [fewF_1 (by assumption)] | rw [fewF_2 (by assumption) (by assumption)]), K13⟩
end Go.Proofs.YtdcbabgcbkdlhaaGreatDoor
set_option maxRecDepth 100000
namespace Go.Proofs.YtdcbabgcbkdlhaaGreatDoor
open Go.RowKit
def FrmV (w : World) (v : Value) (f : FD) : Prop := ∃ (a b c : Value) (Ta Tb Tc : Nat → Prop), v = .agg #[.int .i64 f.W, .int .i64 f.H, a, b, c] ∧ Owb w Ta a f.p0 ∧ Owb w Tb b f.p1 ∧ Owb w Tc c f.p2
theorem FrmV.all {w w' : World} {v : Value} {f : FD} (h : FrmV w v f) (k : Kept (fun _ => False) w w') : FrmV w' v f := by
  obtain ⟨a, b, c, Ta, Tb, Tc, e, h1, h2, h3⟩ := h
  exact ⟨a, b, c, Ta, Tb, Tc, e, h1.all k Apart.none, h2.all k Apart.none, h3.all k Apart.none⟩
theorem Stc.apart {w : World} {p : Nat} {t : TypeId} {vs : List Value} {T : Nat → Prop} {v : Value} {l : List Nat} (h : Stc w p t vs) (ho : Owb w T v l) (ht : t ≠ 5) : Apart (onB p) T := fun i hi hT => by
  cases hi
  have hv := (ho.2 _).1 hT
  rcases ho.1.1.2 with ⟨rfl, _⟩ | ⟨g, cap, cur, rfl, _, hg, _⟩
  · cases hv
  · cases hv
    have h' := h
    unfold Stc at h'
    rw [h'] at hg
    cases hg; exact ht rfl
end Go.Proofs.YtdcbabgcbkdlhaaGreatDoor
set_option maxRecDepth 100000
namespace Go.Proofs.YtdcbabgcbkdlhaaGreatDoor
open Go.RowKit
def subV (v : Value) (l h m : Nat) : Value := match v with
  | .slice a _ _ => .slice (if m = l then a else a.map (·.add l)) (h - l) (m - l)
  | _ => undef
def capV : Value → Nat
  | .slice _ _ c => c
  | _ => 0
theorem Byt.cap {w : World} {T : Nat → Prop} {v : Value} {l : List Nat} (h : Byt w T v l) : l.length ≤ capV v ∧ capV v ≤ maxLen := by
  obtain ⟨⟨a, cap, rfl, h1, h2, _⟩, _⟩ := h; exact ⟨h1, h2⟩
theorem Byt.sub {w : World} {T : Nat → Prop} {v : Value} {l : List Nat} (hb : Byt w T v l) {i j m : Nat} (h1 : i ≤ j) (h2 : j ≤ m) (h3 : j ≤ l.length) (h4 : m ≤ capV v) : Byt w T (subV v i j m) ((l.drop i).take (j - i)) := by
  have hc := hb.cap
  obtain ⟨hB, hL, hT⟩ := hb
  obtain ⟨a, cap, rfl, k1, k2, k3, k4, k5⟩ := hB
  have hB : BytesArg w (.slice a l.length cap) l := ⟨a, cap, rfl, k1, k2, k3, k4, k5⟩
  have hm : m ≤ cap := h4
  refine ⟨hB.cut i j (m - i) h1 h3 (by omega) (by omega) (if m = i then a else a.map (fun z : Addr => z.add i)) (fun hp => by rw [if_neg (by omega)]) (fun h0 => ?_), hL, fun hp a' n c e => ?_⟩
  · split at h0
    · omega
    · have : a = none := by cases a <;> simp_all
      have := k3 this; omega
  · have hlen : 0 < j - i := by
      have : ((l.drop i).take (j - i)).length = j - i := by simp; omega
      omega
    simp only [subV] at e
    rw [if_neg (by omega)] at e
    cases a with
    | none => simp at e
    | some a0 =>
      simp at e
      obtain ⟨e1, _, _⟩ := e
      have hblk : a'.block = a0.block := by rw [← e1]; unfold Addr.add; split <;> rfl
      rw [hblk]
      exact hT (by omega) a0 _ _ rfl
theorem sub_addr {w : World} {T : Nat → Prop} {v : Value} {l : List Nat} (hb : Byt w T v l) {i j m : Nat} (t : Nat) (h2 : j ≤ m) (h3 : j ≤ l.length) (ht : t < j - i) : bytAddr (subV v i j m) t = bytAddr v (i + t) := by
  obtain ⟨⟨a, cap, rfl, _, _, _, _, k5⟩, _⟩ := hb
  obtain ⟨b, off, rfl, _, _⟩ := k5 (by omega)
  simp only [subV, bytAddr]
  rw [if_neg (by omega)]
  simp [Addr.add_lit, Nat.add_assoc]
section
variable {ρ : Operand → Value} {o : Oper} {w : World} {R : Value → World → Prop}
theorem y_cut3 {x lo hi mx : Operand} {T : Nat → Prop} {v : Value} {l : List Nat} {kl kh km : IntKind} (i j m : Nat) {il ih im : Int} (ho : o.op = .slice 22 x (some lo) (some hi) (some mx)) (hx : ρ x = v) (hl : ρ lo = .int kl il) (hh : ρ hi = .int kh ih) (hm : ρ mx = .int km im) (e1 : il = (i : Int)) (e2 : ih = (j : Int)) (e3 : im = (m : Int)) (hb : Byt w T v l) (h1 : i ≤ j) (h2 : j ≤ m) (h3 : m ≤ l.length) (h : R (subV v i j m) w) : Yields Tryz.prog ρ o w R := by
  subst e1; subst e2; subst e3
  have hc := hb.cap
  obtain ⟨⟨a, cap, rfl, k1, _⟩, _⟩ := hb
  obtain ⟨i0, hi0, hz0, hz1, hz2⟩ := info_parts Tryz.info_u8
  have hmc : m ≤ cap := by omega
  refine y_val (v := subV (.slice a l.length cap) i j m) (w' := w) ?_ h
  have b1 : (Instr.sliceBounds true l.length cap (some (.int kl (i : Int))) (some (.int kh (j : Int))) (some (.int km (m : Int)))).run Tryz.prog w = .ok (i, j, m) w := by
    simp [Instr.sliceBounds, Instr.sliceBound, asIntOf, hmc, h1, h2]
  simp [execOp, ho, hx, hl, hh, hm, Instr.sliceAt, Instr.slice, run_underlying Tryz.underlying22, b1, sizeOf, typeInfo, hi0, hz1, subV]
theorem y_atS {x ix : Operand} {T : Nat → Prop} {v : Value} {l : List Nat} {k : IntKind} {i j m : Nat} (t : Nat) {it : Int} (ho : o.op = .indexAddr 22 x ix) (hx : ρ x = subV v i j m) (hi : ρ ix = .int k it) (hij : it = (t : Int)) (hb : Byt w T v l) (h1 : i ≤ j) (h2 : j ≤ m) (h3 : j ≤ l.length) (h4 : m ≤ capV v) (ht : t < j - i) (h : R (bytAddr v (i + t)) w) : Yields Tryz.prog ρ o w R := by
  have hl : ((l.drop i).take (j - i)).length = j - i := by simp; omega
  refine y_atB t ho hx hi hij (hb.sub h1 h2 h3 h4) (by rw [hl]; exact ht) ?_
  rw [sub_addr hb t h2 h3 ht]; exact h
end
end Go.Proofs.YtdcbabgcbkdlhaaGreatDoor
set_option maxRecDepth 100000
namespace Go.Proofs.YtdcbabgcbkdlhaaGreatDoor
open Go.RowKit
section
variable {ρ : Operand → Value} {o : Oper} {w : World} {R : Value → World → Prop}
theorem y_ldPl {t : TypeId} {x : Operand} {p k : Nat} {vs : List Value} {a b c : Value} (ho : o.op = .load 23 x) (hx : ρ x = .pointer (some ⟨p, k, none⟩)) (hB : Stc w p t vs) (h0 : vs[k]? = some a) (h1 : vs[k + 1]? = some b) (h2 : vs[k + 2]? = some c) (h : R (.agg #[a, b, c]) w) : Yields Tryz.prog ρ o w R := by
  have hr : w.rangeAt p k [a, b, c] := by
    intro j v hj
    match j, hj with
    | 0, hj => obtain rfl : a = v := by simpa using hj
               exact hB.cell h0
    | 1, hj => obtain rfl : b = v := by simpa using hj
               exact hB.cell h1
    | 2, hj => obtain rfl : c = v := by simpa using hj
               exact hB.cell h2
    | n + 3, hj => simp at hj
  refine y_val (v := .agg #[a, b, c]) (w' := w) ?_ h
  simp only [execOp, ho, hx, Sem.run_bind, run_loadAt_mid w p k 23 [a, b, c] _ hr Tryz.underlying23 rfl (by kernel_rfl), Result.andThen_ok, Sem.run_pure]
theorem y_ixPl {x y : Operand} {k : IntKind} {cs : Array Value} {v : Value} (j : Nat) (ho : o.op = .index 23 x y) (hx : ρ x = .agg cs) (hy : ρ y = .int k (j : Int)) (hj : j < 3) (hv : cs[j]? = some v) (h : R v w) : Yields Tryz.prog ρ o w R := by
  have hs : (Tryz.prog.info? 22).map (·.size) = some 1 := by kernel_rfl
  cases hq : Tryz.prog.info? 22 with
  | none => simp [hq] at hs
  | some i =>
    have hs' : i.size = 1 := by simpa [hq] using hs
    have hp : (part 22 cs j).run Tryz.prog w = .ok v w := by simp [part, isAgg, run_underlying Tryz.underlying22, hv]
    have h1 : (0 : Int) ≤ (j : Int) := by omega
    have h2 : (j : Int) < 3 := by omega
    exact y_val (v := v) (w' := w) (by simp [execOp, ho, hx, hy, Instr.index, run_underlying Tryz.underlying23, asIntOf, sizeOf, typeInfo, hq, hs', hj, hp]) h
end
def arrV (p k : Nat) : Value := .slice (some (if 4 = k then ⟨p, 0, none⟩ else ⟨p, k, none⟩)) (4 - k) (4 - k)
theorem Stc.bytes {w : World} {p t : Nat} {a b c d : Nat} (h : Stc w p t [.int .u8 (a : Int), .int .u8 (b : Int), .int .u8 (c : Int), .int .u8 (d : Int)]) (ha : a < 256) (hb : b < 256) (hc : c < 256) (hd : d < 256) {k : Nat} (hk : k ≤ 4) : Byt w (onB p) (arrV p k) ([a, b, c, d].drop k) := by
  have hl : ([a, b, c, d].drop k).length = 4 - k := by simp
  refine ⟨⟨some (if 4 = k then ⟨p, 0, none⟩ else ⟨p, k, none⟩), 4 - k, by rw [hl]; rfl, by omega, Nat.le_trans (Nat.sub_le 4 k) (by decide), (fun e => by cases e), ?_, fun hp => ⟨p, k, by rw [if_neg (by omega)], h.lt, fun i hi => ?_⟩⟩, onB_live h.lt, fun _ a' n c' e => ?_⟩
  · intro x hx
    have := List.mem_of_mem_drop hx
    simp at this
    omega
  · rw [hl] at hi
    have hc := h.cell (i := k + i) (v := .int .u8 (([a, b, c, d].drop k).getD i 0 : Nat)) (by
      have : k = 0 ∨ k = 1 ∨ k = 2 ∨ k = 3 := by omega
      have hi4 : i = 0 ∨ i = 1 ∨ i = 2 ∨ i = 3 := by omega
      rcases this with rfl | rfl | rfl | rfl <;> rcases hi4 with rfl | rfl | rfl | rfl <;> first | rfl | omega)
    exact hc
  · unfold arrV at e
    simp only [Value.slice.injEq, Option.some.injEq] at e
    rw [← e.1]
    split <;> rfl
end Go.Proofs.YtdcbabgcbkdlhaaGreatDoor
set_option maxRecDepth 100000
namespace Go.Proofs.YtdcbabgcbkdlhaaGreatDoor
open Go.RowKit
theorem ps_clamped (n a b : Int) (w0 : World) :
  Calls Tryz.prog 106 #[.int .i64 (n), .int .i64 (a), .int .i64 (b)] w0 fun e w' => e = .returned (.int .i64 (max a (min n b))) ∧ Kept (fun _ => False) w0 w' := by
 refine calls_wq (args := [iv n, iv a, iv b]) 12 Tryz.func106 rfl rfl (Nat.le_of_ble_eq_true rfl) ?_
 have K0 := Kept.refl (fun _ => False) w0
 refine wq_seq (wq_region (wl_v (iv 0) rfl rfl (y_asg rfl rfl rr) (wl_nil fun F1 hF2 => ?_)))
 have s3 : F1 0 = iv n := (hF2 0).trans rfl
 have s4 : F1 1 = iv a := (hF2 1).trans rfl
 have s5 : F1 2 = iv b := (hF2 2).trans rfl
 have s6 : F1 12 = undef := (hF2 12).trans rfl
 clear hF2
 refine then_normal (wq_seq (wq_region (wl_mv rfl rfl rfl s4 (wl_mv rfl rfl rfl s3 (wl_mv rfl rfl rfl s5 (wl_v (iv (min n b)) rfl rfl (y_minR rfl rfl rfl rfl rr) (wl_v (iv (max a (min n b))) rfl rfl (y_maxR rfl rfl rfl rfl rr) (wl_v (iv (max a (min n b))) rfl rfl (y_asg rfl rfl rr) (wl_nil fun F7 hF8 => ?_)))))))))
 have s9 := (hF8 12).trans s6
 have s10 : F7 6 = iv (max a (min n b)) := (hF8 6).trans rfl
 clear hF8
 refine then_normal (wq_ret ?_)
 exact end_tmp (v := iv (max a (min n b))) s9 rfl rfl s10 ⟨rfl, K0⟩
theorem ps_side (n : Int) (w0 : World) :
  Calls Tryz.prog 76 #[.int .i64 (n)] w0 fun e w' => e = .returned (.bool (sideB n)) ∧ Kept (fun _ => False) w0 w' := by
 refine calls_wq (args := [iv n]) 14 Tryz.func76 rfl rfl (Nat.le_of_ble_eq_true rfl) ?_
 have K0 := Kept.refl (fun _ => False) w0
 refine wq_seq (wq_region (wl_v (.bool false) rfl rfl (y_asg rfl rfl rr) (wl_nil fun F1 hF2 => ?_)))
 have s3 : F1 0 = iv n := (hF2 0).trans rfl
 have s4 : F1 14 = undef := (hF2 14).trans rfl
 clear hF2
 refine then_normal (wq_seq ?_)
 by_cases d5 : 8 ≤ n
 ·skip
  by_cases d6 : n ≤ 64
  ·skip
   refine wq_region (wl_mv rfl rfl rfl s3 (wl_v (.bool true) rfl rfl (y_geq rfl rfl rfl (decide_eq_true d5) rr) (wl_v (.bool true) rfl rfl (y_mov rfl rfl rr) (wl_vw (iv n) 2 true 5 rfl rfl rfl rfl rfl (y_mov rfl s3 rr) (wl_vw (.bool true) 2 true 5 rfl rfl rfl rfl rfl (y_leq rfl rfl rfl (decide_eq_true d6) rr) (wl_v (.bool true) rfl rfl (y_pickT rfl rfl rfl rr) (wl_v (.bool true) rfl rfl (y_mov rfl rfl rr) (wl_vw (iv n) 6 true 9 rfl rfl rfl rfl rfl (y_mov rfl s3 rr) (wl_vw (iv (Int.tmod n 8)) 6 true 9 rfl rfl rfl rfl rfl (y_rem rfl rfl rfl (by first | decide | omega) rfl rr) (wl_vw (.bool (decide ((Int.tmod n 8) = 0))) 6 true 9 rfl rfl rfl rfl rfl (y_eqlI rfl rfl rfl rfl rr) (wl_v (.bool (decide ((Int.tmod n 8) = 0))) rfl rfl (y_pickT rfl rfl rfl rr) ?_)))))))))))
   refine wl_v (.bool (decide ((Int.tmod n 8) = 0))) rfl rfl (y_asg rfl rfl rr) (wl_nil fun F7 hF8 => ?_)
   have s9 := (hF8 14).trans s4
   have s10 : F7 2 = .bool (decide ((Int.tmod n 8) = 0)) := (hF8 2).trans rfl
   clear hF8
   refine then_normal (wq_ret ?_)
   exact end_tmp (v := .bool (decide ((Int.tmod n 8) = 0))) s9 rfl rfl s10 ⟨(by first | rw [sideB_low (by omega)] | rw [sideB_high (by omega)] | rw [sideB_mid (by omega) (by omega)]), K0⟩
  ·skip
   refine wq_region (wl_mv rfl rfl rfl s3 (wl_v (.bool true) rfl rfl (y_geq rfl rfl rfl (decide_eq_true d5) rr) (wl_v (.bool true) rfl rfl (y_mov rfl rfl rr) (wl_vw (iv n) 2 true 5 rfl rfl rfl rfl rfl (y_mov rfl s3 rr) (wl_vw (.bool false) 2 true 5 rfl rfl rfl rfl rfl (y_leq rfl rfl rfl (decide_eq_false d6) rr) (wl_v (.bool false) rfl rfl (y_pickT rfl rfl rfl rr) (wl_v (.bool false) rfl rfl (y_mov rfl rfl rr) (wl_unless 6 true 9 rfl rfl rfl (Or.inl rfl) rfl (wl_unless 6 true 9 rfl rfl rfl (Or.inl rfl) rfl (wl_unless 6 true 9 rfl rfl rfl (Or.inl rfl) rfl (wl_v (.bool false) rfl rfl (y_pickF rfl rfl rfl rr) ?_)))))))))))
   refine wl_v (.bool false) rfl rfl (y_asg rfl rfl rr) (wl_nil fun F11 hF12 => ?_)
   have s13 := (hF12 14).trans s4
   have s14 : F11 2 = .bool false := (hF12 2).trans rfl
   clear hF12
   refine then_normal (wq_ret ?_)
   exact end_tmp (v := .bool false) s13 rfl rfl s14 ⟨(by first | rw [sideB_low (by omega)] | rw [sideB_high (by omega)] | rw [sideB_mid (by omega) (by omega)]), K0⟩
 ·skip
  refine wq_region (wl_mv rfl rfl rfl s3 (wl_v (.bool false) rfl rfl (y_geq rfl rfl rfl (decide_eq_false d5) rr) (wl_v (.bool false) rfl rfl (y_mov rfl rfl rr) (wl_unless 2 true 5 rfl rfl rfl (Or.inl rfl) rfl (wl_unless 2 true 5 rfl rfl rfl (Or.inl rfl) rfl (wl_v (.bool false) rfl rfl (y_pickF rfl rfl rfl rr) (wl_v (.bool false) rfl rfl (y_mov rfl rfl rr) (wl_unless 6 true 9 rfl rfl rfl (Or.inl rfl) rfl (wl_unless 6 true 9 rfl rfl rfl (Or.inl rfl) rfl (wl_unless 6 true 9 rfl rfl rfl (Or.inl rfl) rfl (wl_v (.bool false) rfl rfl (y_pickF rfl rfl rfl rr) ?_)))))))))))
  refine wl_v (.bool false) rfl rfl (y_asg rfl rfl rr) (wl_nil fun F15 hF16 => ?_)
  have s17 := (hF16 14).trans s4
  have s18 : F15 2 = .bool false := (hF16 2).trans rfl
  clear hF16
  refine then_normal (wq_ret ?_)
  exact end_tmp (v := .bool false) s17 rfl rfl s18 ⟨(by first | rw [sideB_low (by omega)] | rw [sideB_high (by omega)] | rw [sideB_mid (by omega) (by omega)]), K0⟩
def sidesF (f : FD) (p : Int) : Int × Int := if p = 0 then (f.W, f.H) else (Int.tdiv f.W 2, Int.tdiv f.H 2)
theorem ps_sides (p : Int) (f : FD) (f0 f1 f2 : Value) (T_f0 : Nat → Prop) (T_f1 : Nat → Prop) (T_f2 : Nat → Prop) (w0 : World) (hw : 0 ≤ f.W ∧ f.W ≤ 64) (hh : 0 ≤ f.H ∧ f.H ≤ 64) (_h_f0 : Byt w0 T_f0 f0 ((f).p0)) (_h_f1 : Byt w0 T_f1 f1 ((f).p1)) (_h_f2 : Byt w0 T_f2 f2 ((f).p2)) :
  Calls Tryz.prog 77 #[.agg #[.int .i64 ((f).W), .int .i64 ((f).H), f0, f1, f2], .int .i64 (p)] w0 fun e w' => e = .returned (.tuple #[.int .i64 ((sidesF f p).1), .int .i64 ((sidesF f p).2)]) ∧ Kept (fun _ => False) w0 w' := by
 refine calls_wq (args := [.agg #[iv (f.W), iv (f.H), f0, f1, f2], iv p]) 18 Tryz.func77 rfl rfl (Nat.le_of_ble_eq_true rfl) ?_
 have K0 := Kept.refl (fun _ => False) w0
 have g_f0 := Grew.refl w0 T_f0
 have g_f1 := Grew.refl w0 T_f1
 have g_f2 := Grew.refl w0 T_f2
 refine wq_seq (wq_region (wl_box_stc (vs := [iv (f.W), iv (f.H), f0, f1, f2]) rfl rfl rfl rfl fun p1 w2 B4 g5 k3 => ?_))
 have K13 := K0.tr k3
 refine wl_v (iv 0) rfl rfl (y_asg rfl rfl rr) (wl_v (iv 0) rfl rfl (y_asg rfl rfl rr) (wl_nil fun F14 hF15 => ?_))
 have s16 : F14 1 = iv p := (hF15 1).trans rfl
 have s17 : F14 18 = undef := (hF15 18).trans rfl
 have s18 : F14 2 = pt p1 0 := (hF15 2).trans rfl
 clear hF15
 refine then_normal (wq_seq (wq_seq (wq_region (wl_mv rfl rfl rfl s16 (wl_v (.bool (decide (p = 0))) rfl rfl (y_eqlI rfl rfl rfl rfl rr) (wl_nil fun F19 hF20 => ?_))))))
 obtain ⟨s21, s22⟩ := t2 hF20 18 s17 2 s18
 have s23 : F19 7 = .bool (decide (p = 0)) := (hF20 7).trans rfl
 clear hF20
 refine then_normal ?_
 refine wq_cond s23 (fun c24 => ?_) (fun c24 => ?_)
 ·replace c24 := of_decide_eq_true c24
  refine wq_seq ?_
  refine wq_said [some 8, some 9, some 10, some 11, some 4, some 5] [Pd.eq (pt p1 0), Pd.eq (iv (f.W)), Pd.eq (pt p1 1), Pd.eq (iv (f.H)), Pd.eq (iv (f.W)), Pd.eq (iv (f.H))] (by kernel_rfl) (by kernel_rfl) ?_ ?_
  ·refine stepsF_cons ?_ ?_
   ·refine StepF.one rfl fun F_ w_ hR hout hD => ?_
    exact (y_fieldR (n := 1) rfl ((hout 2 rfl (by decide)).trans s22) Tryz.underlying25 rfl (by kernel_rfl) (by decide) rfl ⟨rfl, Kept.refl _ _⟩)
   refine stepsF_cons ?_ ?_
   ·refine StepF.one rfl fun F_ w_ hR hout hD => ?_
    have g8 : F_ 8 = pt p1 0 := (hD.get 0 rfl rfl rfl)
    exact (y_ld_stc rfl g8 Tryz.underlying3 (B4.all hR id) rfl rfl ⟨rfl, Kept.refl _ _⟩)
   refine stepsF_cons ?_ ?_
   ·refine StepF.one rfl fun F_ w_ hR hout hD => ?_
    exact (y_fieldR (n := 1) rfl ((hout 2 rfl (by decide)).trans s22) Tryz.underlying25 rfl (by kernel_rfl) (by decide) rfl ⟨rfl, Kept.refl _ _⟩)
   refine stepsF_cons ?_ ?_
   ·refine StepF.one rfl fun F_ w_ hR hout hD => ?_
    have g10 : F_ 10 = pt p1 1 := (hD.get 0 rfl rfl rfl)
    exact (y_ld_stc rfl g10 Tryz.underlying3 (B4.all hR id) rfl rfl ⟨rfl, Kept.refl _ _⟩)
   refine stepsF_cons ?_ ?_
   ·refine StepF.one rfl fun F_ w_ hR hout hD => ?_
    have g9 : F_ 9 = iv (f.W) := (hD.get 0 rfl rfl rfl)
    exact (y_asg rfl g9 ⟨rfl, Kept.refl _ _⟩)
   refine stepsF_cons ?_ ?_
   ·refine StepF.one rfl fun F_ w_ hR hout hD => ?_
    have g11 : F_ 11 = iv (f.H) := (hD.get 0 rfl rfl rfl)
    exact (y_asg rfl g11 ⟨rfl, Kept.refl _ _⟩)
   exact stepsF_nil
  intro v25 F26 w27 k28 G29 hF30
  have K36 := K13.tr k28
  have s37 := (hF30 18).trans s21
  have s38 : F26 4 = iv (f.W) := (hF30 4).trans (G29 4 (by decide))
  have s39 : F26 5 = iv (f.H) := (hF30 5).trans (G29 5 (by decide))
  clear G29 hF30
  refine then_normal (wq_ret (then_ret ?_))
  exact end_2 s37 rfl (res_tmp (v := iv (f.W)) rfl s38) (res_tmp (v := iv (f.H)) rfl s39) ⟨(by unfold sidesF; first | rw [if_pos (by assumption)] | rw [if_neg (by assumption)]), K36⟩
 ·replace c24 := of_decide_eq_false c24
  refine wq_skip (then_normal (wq_seq ?_))
  refine wq_said [some 12, some 13, some 14, some 15, some 16, some 17, some 4, some 5] [Pd.eq (pt p1 0), Pd.eq (iv (f.W)), Pd.eq (iv (Int.tdiv f.W 2)), Pd.eq (pt p1 1), Pd.eq (iv (f.H)), Pd.eq (iv (Int.tdiv f.H 2)), Pd.eq (iv (Int.tdiv f.W 2)), Pd.eq (iv (Int.tdiv f.H 2))] (by kernel_rfl) (by kernel_rfl) ?_ ?_
  ·refine stepsF_cons ?_ ?_
   ·refine StepF.one rfl fun F_ w_ hR hout hD => ?_
    exact (y_fieldR (n := 1) rfl ((hout 2 rfl (by decide)).trans s22) Tryz.underlying25 rfl (by kernel_rfl) (by decide) rfl ⟨rfl, Kept.refl _ _⟩)
   refine stepsF_cons ?_ ?_
   ·refine StepF.one rfl fun F_ w_ hR hout hD => ?_
    have g12 : F_ 12 = pt p1 0 := (hD.get 0 rfl rfl rfl)
    exact (y_ld_stc rfl g12 Tryz.underlying3 (B4.all hR id) rfl rfl ⟨rfl, Kept.refl _ _⟩)
   refine stepsF_cons ?_ ?_
   ·refine StepF.one rfl fun F_ w_ hR hout hD => ?_
    have g13 : F_ 13 = iv (f.W) := (hD.get 0 rfl rfl rfl)
    exact (y_quo rfl g13 rfl (by first | decide | omega) (i64_i rfl (by rw [tdiv2 (by omega)]; omega)) ⟨rfl, Kept.refl _ _⟩)
   refine stepsF_cons ?_ ?_
   ·refine StepF.one rfl fun F_ w_ hR hout hD => ?_
    exact (y_fieldR (n := 1) rfl ((hout 2 rfl (by decide)).trans s22) Tryz.underlying25 rfl (by kernel_rfl) (by decide) rfl ⟨rfl, Kept.refl _ _⟩)
   refine stepsF_cons ?_ ?_
   ·refine StepF.one rfl fun F_ w_ hR hout hD => ?_
    have g15 : F_ 15 = pt p1 1 := (hD.get 0 rfl rfl rfl)
    exact (y_ld_stc rfl g15 Tryz.underlying3 (B4.all hR id) rfl rfl ⟨rfl, Kept.refl _ _⟩)
   refine stepsF_cons ?_ ?_
   ·refine StepF.one rfl fun F_ w_ hR hout hD => ?_
    have g16 : F_ 16 = iv (f.H) := (hD.get 0 rfl rfl rfl)
    exact (y_quo rfl g16 rfl (by first | decide | omega) (i64_i rfl (by rw [tdiv2 (by omega)]; omega)) ⟨rfl, Kept.refl _ _⟩)
   refine stepsF_cons ?_ ?_
   ·refine StepF.one rfl fun F_ w_ hR hout hD => ?_
    have g14 : F_ 14 = iv (Int.tdiv f.W 2) := (hD.get 0 rfl rfl rfl)
    exact (y_asg rfl g14 ⟨rfl, Kept.refl _ _⟩)
   refine stepsF_cons ?_ ?_
   ·refine StepF.one rfl fun F_ w_ hR hout hD => ?_
    have g17 : F_ 17 = iv (Int.tdiv f.H 2) := (hD.get 0 rfl rfl rfl)
    exact (y_asg rfl g17 ⟨rfl, Kept.refl _ _⟩)
   exact stepsF_nil
  intro v40 F41 w42 k43 G44 hF45
  have K51 := K13.tr k43
  have s52 := (hF45 18).trans s21
  have s53 : F41 4 = iv (Int.tdiv f.W 2) := (hF45 4).trans (G44 6 (by decide))
  have s54 : F41 5 = iv (Int.tdiv f.H 2) := (hF45 5).trans (G44 7 (by decide))
  clear G44 hF45
  refine then_normal (wq_ret ?_)
  exact end_2 s52 rfl (res_tmp (v := iv (Int.tdiv f.W 2)) rfl s53) (res_tmp (v := iv (Int.tdiv f.H 2)) rfl s54) ⟨(by unfold sidesF; first | rw [if_pos (by assumption)] | rw [if_neg (by assumption)]), K51⟩
theorem quarter {w h : Int} (h1 : w % 8 = 0) (h2 : h % 8 = 0) (hw : 0 ≤ w) (hh : 0 ≤ h) : Int.tdiv w 2 * Int.tdiv h 2 = w * h / 4 := by
  rw [tdiv2 hw, tdiv2 hh]
  obtain ⟨a, rfl⟩ : ∃ a, w = 2 * a := ⟨w / 2, by omega⟩
  obtain ⟨b, rfl⟩ : ∃ b, h = 2 * b := ⟨h / 2, by omega⟩
  rw [show 2 * a / 2 = a by omega, show 2 * b / 2 = b by omega, show 2 * a * (2 * b) = 4 * (a * b) by rw [Int.mul_assoc, Int.mul_left_comm a 2 b, ← Int.mul_assoc]; rfl]
  omega
theorem sides_area {f : FD} (hw : sideB f.W = true) (hh : sideB f.H = true) (p : Int) : 0 ≤ (sidesF f p).1 * (sidesF f p).2 ∧ (sidesF f p).1 * (sidesF f p).2 ≤ 4096 ∧ (sidesF f p).1 * (sidesF f p).2 = (if p = 0 then f.W * f.H else f.W * f.H / 4) := by
  have h := area_bounds hw hh
  have h1 := (sideB_iff _).1 hw
  have h2 := (sideB_iff _).1 hh
  unfold sidesF
  by_cases hp : p = 0
  · rw [if_pos hp, if_pos hp]; refine ⟨?_, ?_, rfl⟩ <;> (dsimp only; omega)
  · rw [if_neg hp, if_neg hp]
    have q := quarter h1.2.2 h2.2.2 (by omega) (by omega)
    dsimp only
    rw [q]; refine ⟨?_, ?_, rfl⟩ <;> omega
theorem check_parts {f : FD} (hw : sideB f.W = true) (hh : sideB f.H = true) : okF f ↔ (f.p0.length : Int) = (sidesF f ((0 : Nat) : Int)).1 * (sidesF f ((0 : Nat) : Int)).2 ∧ (f.p1.length : Int) = (sidesF f ((1 : Nat) : Int)).1 * (sidesF f ((1 : Nat) : Int)).2 ∧ (f.p2.length : Int) = (sidesF f ((2 : Nat) : Int)).1 * (sidesF f ((2 : Nat) : Int)).2 := by
  have har := area_bounds hw hh
  rw [(sides_area hw hh _).2.2, (sides_area hw hh _).2.2, (sides_area hw hh _).2.2, if_pos (show ((0 : Nat) : Int) = 0 from rfl), if_neg (by decide), if_neg (by decide)]
  unfold okF
  rw [tdiv4 (by omega)]
  exact ⟨fun h => h.2.2, fun h => ⟨hw, hh, h⟩⟩
theorem check_yes {f : FD} (hw : sideB f.W = true) (hh : sideB f.H = true) (h0 : (f.p0.length : Int) = (sidesF f ((0 : Nat) : Int)).1 * (sidesF f ((0 : Nat) : Int)).2) (h1 : (f.p1.length : Int) = (sidesF f ((1 : Nat) : Int)).1 * (sidesF f ((1 : Nat) : Int)).2) (h2 : (f.p2.length : Int) = (sidesF f ((2 : Nat) : Int)).1 * (sidesF f ((2 : Nat) : Int)).2) : checkE f = 0 := checkE_ok ((check_parts hw hh).2 ⟨h0, h1, h2⟩)
theorem check_no0 {f : FD} (hw : sideB f.W = true) (hh : sideB f.H = true) (h : (f.p0.length : Int) ≠ (sidesF f ((0 : Nat) : Int)).1 * (sidesF f ((0 : Nat) : Int)).2) : checkE f = 70 := checkE_no fun k => h ((check_parts hw hh).1 k).1
theorem check_no1 {f : FD} (hw : sideB f.W = true) (hh : sideB f.H = true) (h : (f.p1.length : Int) ≠ (sidesF f ((1 : Nat) : Int)).1 * (sidesF f ((1 : Nat) : Int)).2) : checkE f = 70 := checkE_no fun k => h ((check_parts hw hh).1 k).2.1
theorem check_no2 {f : FD} (hw : sideB f.W = true) (hh : sideB f.H = true) (h : (f.p2.length : Int) ≠ (sidesF f ((2 : Nat) : Int)).1 * (sidesF f ((2 : Nat) : Int)).2) : checkE f = 70 := checkE_no fun k => h ((check_parts hw hh).1 k).2.2
theorem pl_check (f : FD) (f0 f1 f2 : Value) (T_f0 : Nat → Prop) (T_f1 : Nat → Prop) (T_f2 : Nat → Prop) (w0 : World) (h_f0 : Byt w0 T_f0 f0 ((f).p0)) (h_f1 : Byt w0 T_f1 f1 ((f).p1)) (h_f2 : Byt w0 T_f2 f2 ((f).p2)) :
  Calls Tryz.prog 40 #[.agg #[.int .i64 ((f).W), .int .i64 ((f).H), f0, f1, f2]] w0 fun e w' => e = .returned (.int .i64 (checkE f)) ∧ Kept (fun _ => False) w0 w' := by
 refine calls_wq (args := [.agg #[iv (f.W), iv (f.H), f0, f1, f2]]) 36 Tryz.func40 rfl rfl (Nat.le_of_ble_eq_true rfl) ?_
 have K0 := Kept.refl (fun _ => False) w0
 have g_f0 := Grew.refl w0 T_f0
 have g_f1 := Grew.refl w0 T_f1
 have g_f2 := Grew.refl w0 T_f2
 refine wq_seq (wq_region (wl_box_stc (vs := [iv (f.W), iv (f.H), f0, f1, f2]) rfl rfl rfl rfl fun p1 w2 B4 g5 k3 => ?_))
 have B10 := h_f0.all k3 Apart.none
 have B11 := h_f1.all k3 Apart.none
 have B12 := h_f2.all k3 Apart.none
 have K13 := K0.tr k3
 refine wl_v (iv 0) rfl rfl (y_asg rfl rfl rr) (wl_nil fun F14 hF15 => ?_)
 have s16 : F14 36 = undef := (hF15 36).trans rfl
 have s17 : F14 1 = pt p1 0 := (hF15 1).trans rfl
 clear hF15
 refine then_normal (wq_seq (wq_seq ?_))
 rcases Bool.eq_false_or_eq_true (sideB (f.W)) with d18 | d18
 ·skip
  rcases Bool.eq_false_or_eq_true (sideB (f.H)) with d19 | d19
  ·skip
   refine wq_region (wl_v (pt p1 0) rfl rfl (y_fieldR (n := 1) rfl s17 Tryz.underlying25 rfl (by kernel_rfl) (by decide) rfl rr) (wl_v (iv (f.W)) rfl rfl (y_ld_stc rfl rfl Tryz.underlying3 B4 rfl rfl rr) (wl_call (R := fun v_ w_ => v_ = .bool true ∧ Kept (fun _ => False) w2 w_) rfl rfl (y_cs rfl rfl rfl (fun _ _ => by kernel_rfl) (ev_func _) (vsC rfl vsN) (ps_side (f.W)  _   ) (fun e_ w_ h_ => ⟨_, h_.1, (congrArg Value.bool d18), h_.2⟩)) ?_)))
   rintro _ w20 ⟨rfl, k21⟩
   have B22 := B10.all k21 Apart.none
   have B23 := B11.all k21 Apart.none
   have B24 := B12.all k21 Apart.none
   have B25 := B4.all k21 id
   have K26 := K13.tr k21
   refine wl_v (.bool false) rfl rfl (y_not rfl rfl rfl rr) (wl_v (.bool false) rfl rfl (y_mov rfl rfl rr) (wl_vw (pt p1 1) 4 false 11 rfl rfl rfl rfl rfl (y_fieldR (n := 1) rfl s17 Tryz.underlying25 rfl (by kernel_rfl) (by decide) rfl rr) (wl_vw (iv (f.H)) 4 false 11 rfl rfl rfl rfl rfl (y_ld_stc rfl rfl Tryz.underlying3 B25 rfl rfl rr) (wl_callw (R := fun v_ w_ => v_ = .bool true ∧ Kept (fun _ => False) w20 w_) 4 false 11 rfl rfl rfl rfl rfl (y_cs rfl rfl rfl (fun _ _ => by kernel_rfl) (ev_func _) (vsC rfl vsN) (ps_side (f.H)  _   ) (fun e_ w_ h_ => ⟨_, h_.1, (congrArg Value.bool d19), h_.2⟩)) ?_))))
   rintro _ w27 ⟨rfl, k28⟩
   have B29 := B22.all k28 Apart.none
   have B30 := B23.all k28 Apart.none
   have B31 := B24.all k28 Apart.none
   have B32 := B25.all k28 id
   have K33 := K26.tr k28
   refine wl_vw (.bool false) 4 false 11 rfl rfl rfl rfl rfl (y_not rfl rfl rfl rr) (wl_v (.bool false) rfl rfl (y_pickF rfl rfl rfl rr) (wl_nil fun F34 hF35 => ?_))
   obtain ⟨s36, s37⟩ := t2 hF35 36 s16 1 s17
   have s38 : F34 16 = .bool false := (hF35 16).trans rfl
   clear hF35
   refine then_normal ?_
   refine wq_cond (t := false) s38 (fun e => by cases e) (fun _ => ?_)
   refine wq_skip (then_normal (wq_seq (wq_seq ?_)))
   have hsw : sideB f.W = true := by assumption
   have hsh : sideB f.H = true := by assumption
   have hws := (sideB_iff _).1 hsw
   have hhs := (sideB_iff _).1 hsh
   have hA := sides_area hsw hsh
   have har := area_bounds hsw hsh
   refine wq_region (wl_v (pt p1 2) rfl rfl (y_fieldR (n := 3) rfl s37 Tryz.underlying25 rfl (by kernel_rfl) (by decide) rfl rr) (wl_v (.agg #[f0, f1, f2]) rfl rfl (y_ldPl rfl rfl B32 rfl rfl rfl rr) (wl_v (iv 0) rfl rfl (y_mov rfl rfl rr) (wl_nil fun F39 hF40 => ?_))))
   obtain ⟨s41, s42⟩ := t2 hF40 36 s36 1 s37
   have s43 : F39 18 = .agg #[f0, f1, f2] := (hF40 18).trans rfl
   have s44 : F39 19 = iv 0 := (hF40 19).trans rfl
   clear hF40
   refine then_normal (wq_block (wq_rounds 4 (wqr_step (wq_seq (wq_region (wl_v (.bool true) rfl rfl (y_lss rfl s44 rfl rfl rr) (wl_nil fun F45 hF46 => ?_)))))))
   obtain ⟨s47, s48, s49, s50⟩ := t4 hF46 36 s41 1 s42 18 s43 19 s44
   have s51 : F45 20 = .bool true := (hF46 20).trans rfl
   clear hF46
   refine then_normal (wq_seq ?_)
   refine wq_cond (t := true) s51 (fun _ => ?_) (fun e => by cases e)
   refine wq_skip (then_normal (wq_seq (wq_block (wq_seq (wq_region (wl_mv rfl rfl rfl s50 (wl_v f0 rfl rfl (y_ixPl 0 rfl s49 s50 (by decide) rfl rr) (wl_v (iv 0) rfl rfl (y_asg rfl rfl rr) (wl_v f0 rfl rfl (y_asg rfl rfl rr) (wl_nil fun F52 hF53 => ?_))))))))))
   obtain ⟨s54, s55, s56, s57⟩ := t4 hF53 36 s47 1 s48 18 s49 19 s50
   have s58 : F52 3 = iv 0 := (hF53 3).trans rfl
   have s59 : F52 4 = f0 := (hF53 4).trans rfl
   clear hF53
   refine then_normal (wq_seq (wq_region (wl_v (.agg #[iv (f.W), iv (f.H), f0, f1, f2]) rfl rfl (y_load_stc stcT_frame rfl s55 B32 rr) (wl_mv rfl rfl rfl s58 (wl_cs rfl rfl rfl rfl rfl (fun _ _ => by kernel_rfl) (vsC rfl (vsC rfl vsN)) (ps_sides 0 f f0 f1 f2 T_f0 T_f1 T_f2 _ (by omega) (by omega) B29 B30 B31 ) fun w60 k61 => ?_)))))
   have B62 := B29.all k61 Apart.none
   have B63 := B30.all k61 Apart.none
   have B64 := B31.all k61 Apart.none
   have B65 := B32.all k61 id
   have K66 := K33.tr k61
   refine wl_v (.tuple #[iv ((sidesF f 0).1), iv ((sidesF f 0).2)]) rfl rfl (y_mov rfl rfl rr) (wl_v (iv ((sidesF f 0).1)) rfl rfl (y_ext rfl rfl rfl rr) (wl_v (iv ((sidesF f 0).2)) rfl rfl (y_ext rfl rfl rfl rr) (wl_v (iv ((sidesF f 0).1)) rfl rfl (y_asg rfl rfl rr) (wl_v (iv ((sidesF f 0).2)) rfl rfl (y_asg rfl rfl rr) (wl_nil fun F67 hF68 => ?_)))))
   obtain ⟨s69, s70, s71, s72, s73⟩ := t5 hF68 36 s54 1 s55 18 s56 19 s57 4 s59
   have s74 : F67 5 = iv ((sidesF f 0).1) := (hF68 5).trans rfl
   have s75 : F67 6 = iv ((sidesF f 0).2) := (hF68 6).trans rfl
   clear hF68
   refine then_normal (wq_seq (wq_region (wl_mv rfl rfl rfl s73 (wl_v (iv (((f.p0).length : Nat) : Int)) rfl rfl (y_lenV rfl rfl rfl B62 rr) (wl_mv rfl rfl rfl s74 (wl_mv rfl rfl rfl s75 (wl_v (iv ((sidesF f ((0 : Nat) : Int)).1 * (sidesF f ((0 : Nat) : Int)).2)) rfl rfl (y_mul rfl rfl rfl (i64_i rfl ⟨Int.le_trans (by decide) (hA _).1, Int.le_trans (hA _).2.1 (by decide)⟩) rr) (wl_v (.bool (decide ((((f.p0).length : Nat) : Int) ≠ ((sidesF f ((0 : Nat) : Int)).1 * (sidesF f ((0 : Nat) : Int)).2)))) rfl rfl (y_neqI rfl rfl rfl rfl rr) (wl_nil fun F76 hF77 => ?_)))))))))
   obtain ⟨s78, s79, s80, s81⟩ := t4 hF77 36 s69 1 s70 18 s71 19 s72
   have s82 : F76 34 = .bool (decide ((((f.p0).length : Nat) : Int) ≠ ((sidesF f ((0 : Nat) : Int)).1 * (sidesF f ((0 : Nat) : Int)).2))) := (hF77 34).trans rfl
   clear hF77
   refine then_normal ?_
   refine wq_cond s82 (fun c83 => ?_) (fun c83 => ?_)
   ·replace c83 := of_decide_eq_true c83
    refine wq_seq (wq_region (wl_v (iv 70) rfl rfl (y_asg rfl rfl rr) (wl_nil fun F84 hF85 => ?_)))
    have s86 := (hF85 36).trans s78
    have s87 : F84 2 = iv 70 := (hF85 2).trans rfl
    clear hF85
    refine then_normal (wq_ret (in_ret (then_ret (then_ret (in_ret (then_ret ?_))))))
    exact end_tmp (v := iv 70) s86 rfl rfl s87 ⟨(by first | rw [check_yes hsw hsh (by first | assumption | (apply Decidable.byContradiction; assumption)) (by first | assumption | (apply Decidable.byContradiction; assumption)) (by first | assumption | (apply Decidable.byContradiction; assumption))] | rw [check_no0 hsw hsh (by assumption)] | rw [check_no1 hsw hsh (by assumption)] | rw [check_no2 hsw hsh (by assumption)] | rw [checkE_no (by rintro ⟨h1, h2, h3, h4, h5⟩; simp_all; done)]), K66⟩
   ·replace c83 := of_decide_eq_false c83
    refine wq_skip (in_normal (then_normal (wq_region (wl_v (iv ((1 : Nat) : Int)) rfl rfl (y_add rfl s81 rfl (i64_n (by omega) (by omega)) rr) (wl_v (iv ((1 : Nat) : Int)) rfl rfl (y_mov rfl rfl rr) (wl_nil fun F88 hF89 => ?_))))))
    obtain ⟨s90, s91, s92⟩ := t3 hF89 36 s78 1 s79 18 s80
    have s93 : F88 19 = iv ((1 : Nat) : Int) := (hF89 19).trans rfl
    clear hF89
    refine then_normal (wqr_step (wq_seq (wq_region (wl_v (.bool true) rfl rfl (y_lss rfl s93 rfl rfl rr) (wl_nil fun F94 hF95 => ?_)))))
    obtain ⟨s96, s97, s98, s99⟩ := t4 hF95 36 s90 1 s91 18 s92 19 s93
    have s100 : F94 20 = .bool true := (hF95 20).trans rfl
    clear hF95
    refine then_normal (wq_seq ?_)
    refine wq_cond (t := true) s100 (fun _ => ?_) (fun e => by cases e)
    refine wq_skip (then_normal (wq_seq (wq_block (wq_seq (wq_region (wl_mv rfl rfl rfl s99 (wl_v f1 rfl rfl (y_ixPl 1 rfl s98 s99 (by decide) rfl rr) (wl_v (iv ((1 : Nat) : Int)) rfl rfl (y_asg rfl rfl rr) (wl_v f1 rfl rfl (y_asg rfl rfl rr) (wl_nil fun F101 hF102 => ?_))))))))))
    obtain ⟨s103, s104, s105, s106⟩ := t4 hF102 36 s96 1 s97 18 s98 19 s99
    have s107 : F101 3 = iv ((1 : Nat) : Int) := (hF102 3).trans rfl
    have s108 : F101 4 = f1 := (hF102 4).trans rfl
    clear hF102
    refine then_normal (wq_seq (wq_region (wl_v (.agg #[iv (f.W), iv (f.H), f0, f1, f2]) rfl rfl (y_load_stc stcT_frame rfl s104 B65 rr) (wl_mv rfl rfl rfl s107 (wl_cs rfl rfl rfl rfl rfl (fun _ _ => by kernel_rfl) (vsC rfl (vsC rfl vsN)) (ps_sides ((1 : Nat) : Int) f f0 f1 f2 T_f0 T_f1 T_f2 _ (by omega) (by omega) B62 B63 B64 ) fun w109 k110 => ?_)))))
    have B111 := B62.all k110 Apart.none
    have B112 := B63.all k110 Apart.none
    have B113 := B64.all k110 Apart.none
    have B114 := B65.all k110 id
    have K115 := K66.tr k110
    refine wl_v (.tuple #[iv ((sidesF f ((1 : Nat) : Int)).1), iv ((sidesF f ((1 : Nat) : Int)).2)]) rfl rfl (y_mov rfl rfl rr) (wl_v (iv ((sidesF f ((1 : Nat) : Int)).1)) rfl rfl (y_ext rfl rfl rfl rr) (wl_v (iv ((sidesF f ((1 : Nat) : Int)).2)) rfl rfl (y_ext rfl rfl rfl rr) (wl_v (iv ((sidesF f ((1 : Nat) : Int)).1)) rfl rfl (y_asg rfl rfl rr) (wl_v (iv ((sidesF f ((1 : Nat) : Int)).2)) rfl rfl (y_asg rfl rfl rr) (wl_nil fun F116 hF117 => ?_)))))
    obtain ⟨s118, s119, s120, s121, s122⟩ := t5 hF117 36 s103 1 s104 18 s105 19 s106 4 s108
    have s123 : F116 5 = iv ((sidesF f ((1 : Nat) : Int)).1) := (hF117 5).trans rfl
    have s124 : F116 6 = iv ((sidesF f ((1 : Nat) : Int)).2) := (hF117 6).trans rfl
    clear hF117
    refine then_normal (wq_seq (wq_region (wl_mv rfl rfl rfl s122 (wl_v (iv (((f.p1).length : Nat) : Int)) rfl rfl (y_lenV rfl rfl rfl B112 rr) (wl_mv rfl rfl rfl s123 (wl_mv rfl rfl rfl s124 (wl_v (iv ((sidesF f ((1 : Nat) : Int)).1 * (sidesF f ((1 : Nat) : Int)).2)) rfl rfl (y_mul rfl rfl rfl (i64_i rfl ⟨Int.le_trans (by decide) (hA _).1, Int.le_trans (hA _).2.1 (by decide)⟩) rr) (wl_v (.bool (decide ((((f.p1).length : Nat) : Int) ≠ ((sidesF f ((1 : Nat) : Int)).1 * (sidesF f ((1 : Nat) : Int)).2)))) rfl rfl (y_neqI rfl rfl rfl rfl rr) (wl_nil fun F125 hF126 => ?_)))))))))
    obtain ⟨s127, s128, s129, s130⟩ := t4 hF126 36 s118 1 s119 18 s120 19 s121
    have s131 : F125 34 = .bool (decide ((((f.p1).length : Nat) : Int) ≠ ((sidesF f ((1 : Nat) : Int)).1 * (sidesF f ((1 : Nat) : Int)).2))) := (hF126 34).trans rfl
    clear hF126
    refine then_normal ?_
    refine wq_cond s131 (fun c132 => ?_) (fun c132 => ?_)
    ·replace c132 := of_decide_eq_true c132
     refine wq_seq (wq_region (wl_v (iv 70) rfl rfl (y_asg rfl rfl rr) (wl_nil fun F133 hF134 => ?_)))
     have s135 := (hF134 36).trans s127
     have s136 : F133 2 = iv 70 := (hF134 2).trans rfl
     clear hF134
     refine then_normal (wq_ret (in_ret (then_ret (then_ret (in_ret (then_ret ?_))))))
     exact end_tmp (v := iv 70) s135 rfl rfl s136 ⟨(by first | rw [check_yes hsw hsh (by first | assumption | (apply Decidable.byContradiction; assumption)) (by first | assumption | (apply Decidable.byContradiction; assumption)) (by first | assumption | (apply Decidable.byContradiction; assumption))] | rw [check_no0 hsw hsh (by assumption)] | rw [check_no1 hsw hsh (by assumption)] | rw [check_no2 hsw hsh (by assumption)] | rw [checkE_no (by rintro ⟨h1, h2, h3, h4, h5⟩; simp_all; done)]), K115⟩
    ·replace c132 := of_decide_eq_false c132
     refine wq_skip (in_normal (then_normal (wq_region (wl_v (iv ((2 : Nat) : Int)) rfl rfl (y_add rfl s130 rfl (i64_n (by omega) (by omega)) rr) (wl_v (iv ((2 : Nat) : Int)) rfl rfl (y_mov rfl rfl rr) (wl_nil fun F137 hF138 => ?_))))))
     obtain ⟨s139, s140, s141⟩ := t3 hF138 36 s127 1 s128 18 s129
     have s142 : F137 19 = iv ((2 : Nat) : Int) := (hF138 19).trans rfl
     clear hF138
     refine then_normal (wqr_step (wq_seq (wq_region (wl_v (.bool true) rfl rfl (y_lss rfl s142 rfl rfl rr) (wl_nil fun F143 hF144 => ?_)))))
     obtain ⟨s145, s146, s147, s148⟩ := t4 hF144 36 s139 1 s140 18 s141 19 s142
     have s149 : F143 20 = .bool true := (hF144 20).trans rfl
     clear hF144
     refine then_normal (wq_seq ?_)
     refine wq_cond (t := true) s149 (fun _ => ?_) (fun e => by cases e)
     refine wq_skip (then_normal (wq_seq (wq_block (wq_seq (wq_region (wl_mv rfl rfl rfl s148 (wl_v f2 rfl rfl (y_ixPl 2 rfl s147 s148 (by decide) rfl rr) (wl_v (iv ((2 : Nat) : Int)) rfl rfl (y_asg rfl rfl rr) (wl_v f2 rfl rfl (y_asg rfl rfl rr) (wl_nil fun F150 hF151 => ?_))))))))))
     obtain ⟨s152, s153, s155⟩ := t3 hF151 36 s145 1 s146 19 s148
     have s156 : F150 3 = iv ((2 : Nat) : Int) := (hF151 3).trans rfl
     have s157 : F150 4 = f2 := (hF151 4).trans rfl
     clear hF151
     refine then_normal (wq_seq (wq_region (wl_v (.agg #[iv (f.W), iv (f.H), f0, f1, f2]) rfl rfl (y_load_stc stcT_frame rfl s153 B114 rr) (wl_mv rfl rfl rfl s156 (wl_cs rfl rfl rfl rfl rfl (fun _ _ => by kernel_rfl) (vsC rfl (vsC rfl vsN)) (ps_sides ((2 : Nat) : Int) f f0 f1 f2 T_f0 T_f1 T_f2 _ (by omega) (by omega) B111 B112 B113 ) fun w158 k159 => ?_)))))
     have B162 := B113.all k159 Apart.none
     have K164 := K115.tr k159
     refine wl_v (.tuple #[iv ((sidesF f ((2 : Nat) : Int)).1), iv ((sidesF f ((2 : Nat) : Int)).2)]) rfl rfl (y_mov rfl rfl rr) (wl_v (iv ((sidesF f ((2 : Nat) : Int)).1)) rfl rfl (y_ext rfl rfl rfl rr) (wl_v (iv ((sidesF f ((2 : Nat) : Int)).2)) rfl rfl (y_ext rfl rfl rfl rr) (wl_v (iv ((sidesF f ((2 : Nat) : Int)).1)) rfl rfl (y_asg rfl rfl rr) (wl_v (iv ((sidesF f ((2 : Nat) : Int)).2)) rfl rfl (y_asg rfl rfl rr) (wl_nil fun F165 hF166 => ?_)))))
     obtain ⟨s167, s170, s171⟩ := t3 hF166 36 s152 19 s155 4 s157
     have s172 : F165 5 = iv ((sidesF f ((2 : Nat) : Int)).1) := (hF166 5).trans rfl
     have s173 : F165 6 = iv ((sidesF f ((2 : Nat) : Int)).2) := (hF166 6).trans rfl
     clear hF166
     refine then_normal (wq_seq (wq_region (wl_mv rfl rfl rfl s171 (wl_v (iv (((f.p2).length : Nat) : Int)) rfl rfl (y_lenV rfl rfl rfl B162 rr) (wl_mv rfl rfl rfl s172 (wl_mv rfl rfl rfl s173 (wl_v (iv ((sidesF f ((2 : Nat) : Int)).1 * (sidesF f ((2 : Nat) : Int)).2)) rfl rfl (y_mul rfl rfl rfl (i64_i rfl ⟨Int.le_trans (by decide) (hA _).1, Int.le_trans (hA _).2.1 (by decide)⟩) rr) (wl_v (.bool (decide ((((f.p2).length : Nat) : Int) ≠ ((sidesF f ((2 : Nat) : Int)).1 * (sidesF f ((2 : Nat) : Int)).2)))) rfl rfl (y_neqI rfl rfl rfl rfl rr) (wl_nil fun F174 hF175 => ?_)))))))))
     obtain ⟨s176, s179⟩ := t2 hF175 36 s167 19 s170
     have s180 : F174 34 = .bool (decide ((((f.p2).length : Nat) : Int) ≠ ((sidesF f ((2 : Nat) : Int)).1 * (sidesF f ((2 : Nat) : Int)).2))) := (hF175 34).trans rfl
     clear hF175
     refine then_normal ?_
     refine wq_cond s180 (fun c181 => ?_) (fun c181 => ?_)
     ·replace c181 := of_decide_eq_true c181
      refine wq_seq (wq_region (wl_v (iv 70) rfl rfl (y_asg rfl rfl rr) (wl_nil fun F182 hF183 => ?_)))
      have s184 := (hF183 36).trans s176
      have s185 : F182 2 = iv 70 := (hF183 2).trans rfl
      clear hF183
      refine then_normal (wq_ret (in_ret (then_ret (then_ret (in_ret (then_ret ?_))))))
      exact end_tmp (v := iv 70) s184 rfl rfl s185 ⟨(by first | rw [check_yes hsw hsh (by first | assumption | (apply Decidable.byContradiction; assumption)) (by first | assumption | (apply Decidable.byContradiction; assumption)) (by first | assumption | (apply Decidable.byContradiction; assumption))] | rw [check_no0 hsw hsh (by assumption)] | rw [check_no1 hsw hsh (by assumption)] | rw [check_no2 hsw hsh (by assumption)] | rw [checkE_no (by rintro ⟨h1, h2, h3, h4, h5⟩; simp_all; done)]), K164⟩
     ·replace c181 := of_decide_eq_false c181
      refine wq_skip (in_normal (then_normal (wq_region (wl_v (iv ((3 : Nat) : Int)) rfl rfl (y_add rfl s179 rfl (i64_n (by omega) (by omega)) rr) (wl_v (iv ((3 : Nat) : Int)) rfl rfl (y_mov rfl rfl rr) (wl_nil fun F186 hF187 => ?_))))))
      have s188 := (hF187 36).trans s176
      have s191 : F186 19 = iv ((3 : Nat) : Int) := (hF187 19).trans rfl
      clear hF187
      refine then_normal (wqr_step (wq_seq (wq_region (wl_v (.bool false) rfl rfl (y_lss rfl s191 rfl rfl rr) (wl_nil fun F192 hF193 => ?_)))))
      have s194 := (hF193 36).trans s188
      have s198 : F192 20 = .bool false := (hF193 20).trans rfl
      clear hF193
      refine then_normal (wq_seq ?_)
      refine wq_cond (t := false) s198 (fun e => by cases e) (fun _ => ?_)
      refine wq_exit (then_exit (then_exit (in_here (then_normal (wq_seq (wq_region (wl_v (iv 0) rfl rfl (y_asg rfl rfl rr) (wl_nil fun F199 hF200 => ?_))))))))
      have s201 := (hF200 36).trans s194
      have s202 : F199 2 = iv 0 := (hF200 2).trans rfl
      clear hF200
      refine then_normal (wq_ret ?_)
      exact end_tmp (v := iv 0) s201 rfl rfl s202 ⟨(by first | rw [check_yes hsw hsh (by first | assumption | (apply Decidable.byContradiction; assumption)) (by first | assumption | (apply Decidable.byContradiction; assumption)) (by first | assumption | (apply Decidable.byContradiction; assumption))] | rw [check_no0 hsw hsh (by assumption)] | rw [check_no1 hsw hsh (by assumption)] | rw [check_no2 hsw hsh (by assumption)] | rw [checkE_no (by rintro ⟨h1, h2, h3, h4, h5⟩; simp_all; done)]), K164⟩
  ·skip
   refine wq_region (wl_v (pt p1 0) rfl rfl (y_fieldR (n := 1) rfl s17 Tryz.underlying25 rfl (by kernel_rfl) (by decide) rfl rr) (wl_v (iv (f.W)) rfl rfl (y_ld_stc rfl rfl Tryz.underlying3 B4 rfl rfl rr) (wl_call (R := fun v_ w_ => v_ = .bool true ∧ Kept (fun _ => False) w2 w_) rfl rfl (y_cs rfl rfl rfl (fun _ _ => by kernel_rfl) (ev_func _) (vsC rfl vsN) (ps_side (f.W)  _   ) (fun e_ w_ h_ => ⟨_, h_.1, (congrArg Value.bool d18), h_.2⟩)) ?_)))
   rintro _ w203 ⟨rfl, k204⟩
   have B208 := B4.all k204 id
   have K209 := K13.tr k204
   refine wl_v (.bool false) rfl rfl (y_not rfl rfl rfl rr) (wl_v (.bool false) rfl rfl (y_mov rfl rfl rr) (wl_vw (pt p1 1) 4 false 11 rfl rfl rfl rfl rfl (y_fieldR (n := 1) rfl s17 Tryz.underlying25 rfl (by kernel_rfl) (by decide) rfl rr) (wl_vw (iv (f.H)) 4 false 11 rfl rfl rfl rfl rfl (y_ld_stc rfl rfl Tryz.underlying3 B208 rfl rfl rr) (wl_callw (R := fun v_ w_ => v_ = .bool false ∧ Kept (fun _ => False) w203 w_) 4 false 11 rfl rfl rfl rfl rfl (y_cs rfl rfl rfl (fun _ _ => by kernel_rfl) (ev_func _) (vsC rfl vsN) (ps_side (f.H)  _   ) (fun e_ w_ h_ => ⟨_, h_.1, (congrArg Value.bool d19), h_.2⟩)) ?_))))
   rintro _ w210 ⟨rfl, k211⟩
   have K216 := K209.tr k211
   refine wl_vw (.bool true) 4 false 11 rfl rfl rfl rfl rfl (y_not rfl rfl rfl rr) (wl_v (.bool true) rfl rfl (y_pickF rfl rfl rfl rr) (wl_nil fun F217 hF218 => ?_))
   have s219 := (hF218 36).trans s16
   have s221 : F217 16 = .bool true := (hF218 16).trans rfl
   clear hF218
   refine then_normal ?_
   refine wq_cond (t := true) s221 (fun _ => ?_) (fun e => by cases e)
   refine wq_seq (wq_region (wl_v (iv 70) rfl rfl (y_asg rfl rfl rr) (wl_nil fun F222 hF223 => ?_)))
   have s224 := (hF223 36).trans s219
   have s225 : F222 2 = iv 70 := (hF223 2).trans rfl
   clear hF223
   refine then_normal (wq_ret (then_ret ?_))
   exact end_tmp (v := iv 70) s224 rfl rfl s225 ⟨(by first | rw [check_yes hsw hsh (by first | assumption | (apply Decidable.byContradiction; assumption)) (by first | assumption | (apply Decidable.byContradiction; assumption)) (by first | assumption | (apply Decidable.byContradiction; assumption))] | rw [check_no0 hsw hsh (by assumption)] | rw [check_no1 hsw hsh (by assumption)] | rw [check_no2 hsw hsh (by assumption)] | rw [checkE_no (by rintro ⟨h1, h2, h3, h4, h5⟩; simp_all; done)]), K216⟩
 ·skip
  refine wq_region (wl_v (pt p1 0) rfl rfl (y_fieldR (n := 1) rfl s17 Tryz.underlying25 rfl (by kernel_rfl) (by decide) rfl rr) (wl_v (iv (f.W)) rfl rfl (y_ld_stc rfl rfl Tryz.underlying3 B4 rfl rfl rr) (wl_call (R := fun v_ w_ => v_ = .bool false ∧ Kept (fun _ => False) w2 w_) rfl rfl (y_cs rfl rfl rfl (fun _ _ => by kernel_rfl) (ev_func _) (vsC rfl vsN) (ps_side (f.W)  _   ) (fun e_ w_ h_ => ⟨_, h_.1, (congrArg Value.bool d18), h_.2⟩)) ?_)))
  rintro _ w226 ⟨rfl, k227⟩
  have K232 := K13.tr k227
  refine wl_v (.bool true) rfl rfl (y_not rfl rfl rfl rr) (wl_v (.bool true) rfl rfl (y_mov rfl rfl rr) (wl_unless 4 false 11 rfl rfl rfl (Or.inl rfl) rfl (wl_unless 4 false 11 rfl rfl rfl (Or.inl rfl) rfl (wl_unless 4 false 11 rfl rfl rfl (Or.inl rfl) rfl (wl_unless 4 false 11 rfl rfl rfl (Or.inl rfl) rfl (wl_v (.bool true) rfl rfl (y_pickT rfl rfl rfl rr) (wl_nil fun F233 hF234 => ?_)))))))
  have s235 := (hF234 36).trans s16
  have s237 : F233 16 = .bool true := (hF234 16).trans rfl
  clear hF234
  refine then_normal ?_
  refine wq_cond (t := true) s237 (fun _ => ?_) (fun e => by cases e)
  refine wq_seq (wq_region (wl_v (iv 70) rfl rfl (y_asg rfl rfl rr) (wl_nil fun F238 hF239 => ?_)))
  have s240 := (hF239 36).trans s235
  have s241 : F238 2 = iv 70 := (hF239 2).trans rfl
  clear hF239
  refine then_normal (wq_ret (then_ret ?_))
  exact end_tmp (v := iv 70) s240 rfl rfl s241 ⟨(by first | rw [check_yes hsw hsh (by first | assumption | (apply Decidable.byContradiction; assumption)) (by first | assumption | (apply Decidable.byContradiction; assumption)) (by first | assumption | (apply Decidable.byContradiction; assumption))] | rw [check_no0 hsw hsh (by assumption)] | rw [check_no1 hsw hsh (by assumption)] | rw [check_no2 hsw hsh (by assumption)] | rw [checkE_no (by rintro ⟨h1, h2, h3, h4, h5⟩; simp_all; done)]), K232⟩
theorem ps_row (v : Value) (l : List Nat) (w y : Int) (T_s : Nat → Prop) (w0 : World) (hw : 0 ≤ w ∧ w ≤ 64) (hy : 0 ≤ y ∧ y ≤ 64) (hl : y * w + w ≤ (l.length : Int)) (hyw : 0 ≤ y * w ∧ y * w ≤ 4096) (h_s : Byt w0 T_s v (l)) :
  Calls Tryz.prog 105 #[v, .int .i64 (w), .int .i64 (y)] w0 fun e w' => e = .returned (subV (v) ((y * w).toNat) ((y * w + w).toNat) ((y * w + w).toNat)) ∧ Kept (fun _ => False) w0 w' := by
 refine calls_wq (args := [v, iv w, iv y]) 20 Tryz.func105 rfl rfl (Nat.le_of_ble_eq_true rfl) ?_
 have K0 := Kept.refl (fun _ => False) w0
 have g_s := Grew.refl w0 T_s
 refine wq_seq (wq_region (wl_v (.slice none 0 0) rfl rfl (y_asg rfl rfl rr) (wl_nil fun F1 hF2 => ?_)))
 have s3 : F1 0 = v := (hF2 0).trans rfl
 have s4 : F1 1 = iv w := (hF2 1).trans rfl
 have s5 : F1 2 = iv y := (hF2 2).trans rfl
 have s6 : F1 20 = undef := (hF2 20).trans rfl
 clear hF2
 refine then_normal (wq_seq (wq_region (wl_mv rfl rfl rfl s3 (wl_mv rfl rfl rfl s5 (wl_mv rfl rfl rfl s4 (wl_v (iv (y * w)) rfl rfl (y_mul rfl rfl rfl (i64_i rfl (by omega)) rr) (wl_mv rfl rfl rfl s5 (wl_v (iv (y + 1)) rfl rfl (y_add rfl rfl rfl (i64_i rfl (by omega)) rr) (wl_mv rfl rfl rfl s4 (wl_v (iv (y * w + w)) rfl rfl (y_mul rfl rfl rfl (i64_i (by rw [Int.add_mul, Int.one_mul]) (by omega)) rr) (wl_mv rfl rfl rfl s5 ?_)))))))))))
 refine wl_v (iv (y + 1)) rfl rfl (y_add rfl rfl rfl (i64_i rfl (by omega)) rr) (wl_mv rfl rfl rfl s4 (wl_v (iv (y * w + w)) rfl rfl (y_mul rfl rfl rfl (i64_i (by rw [Int.add_mul, Int.one_mul]) (by omega)) rr) (wl_v (subV v ((y * w).toNat) ((y * w + w).toNat) ((y * w + w).toNat)) rfl rfl (y_cut3 ((y * w).toNat) ((y * w + w).toNat) ((y * w + w).toNat) rfl rfl rfl rfl rfl (by omega) (by omega) (by omega) h_s (by omega) (by omega) (by omega) rr) (wl_v (subV v ((y * w).toNat) ((y * w + w).toNat) ((y * w + w).toNat)) rfl rfl (y_asg rfl rfl rr) (wl_nil fun F7 hF8 => ?_)))))
 have s9 := (hF8 20).trans s6
 have s10 : F7 6 = subV v ((y * w).toNat) ((y * w + w).toNat) ((y * w + w).toNat) := (hF8 6).trans rfl
 clear hF8
 refine then_normal (wq_ret ?_)
 exact end_tmp (v := subV v ((y * w).toNat) ((y * w + w).toNat) ((y * w + w).toNat)) s9 rfl rfl s10 ⟨rfl, K0⟩
def nearS (l : List Nat) (w h x y : Int) : Int := ((l.getD ((max 0 (min y (h - 1)) * w).toNat + (max 0 (min x (w - 1))).toNat) 0 : Nat) : Int)
theorem ps_nearest (v : Value) (l : List Nat) (w h x y : Int) (T_s : Nat → Prop) (w0 : World) (hw : 0 < w ∧ w ≤ 64) (hh : 0 < h ∧ h ≤ 64) (hl : max 0 (min y (h - 1)) * w + w ≤ (l.length : Int)) (hyw : 0 ≤ max 0 (min y (h - 1)) * w ∧ max 0 (min y (h - 1)) * w ≤ 4096) (h_s : Byt w0 T_s v (l)) :
  Calls Tryz.prog 103 #[v, .int .i64 (w), .int .i64 (h), .int .i64 (x), .int .i64 (y)] w0 fun e w' => e = .returned (.int .i64 (nearS l w h x y)) ∧ Kept (fun _ => False) w0 w' := by
 refine calls_wq (args := [v, iv w, iv h, iv x, iv y]) 25 Tryz.func103 rfl rfl (Nat.le_of_ble_eq_true rfl) ?_
 have K0 := Kept.refl (fun _ => False) w0
 have g_s := Grew.refl w0 T_s
 refine wq_seq (wq_region (wl_v (iv 0) rfl rfl (y_asg rfl rfl rr) (wl_nil fun F1 hF2 => ?_)))
 have s3 : F1 0 = v := (hF2 0).trans rfl
 have s4 : F1 1 = iv w := (hF2 1).trans rfl
 have s5 : F1 2 = iv h := (hF2 2).trans rfl
 have s6 : F1 3 = iv x := (hF2 3).trans rfl
 have s7 : F1 4 = iv y := (hF2 4).trans rfl
 have s8 : F1 25 = undef := (hF2 25).trans rfl
 clear hF2
 refine then_normal (wq_seq (wq_region (wl_mv rfl rfl rfl s3 (wl_mv rfl rfl rfl s4 (wl_mv rfl rfl rfl s7 (wl_mv rfl rfl rfl s5 (wl_v (iv (h - 1)) rfl rfl (y_sub rfl rfl rfl (i64_i rfl (by omega)) rr) (wl_cs rfl rfl rfl rfl rfl (fun _ _ => by kernel_rfl) (vsC rfl (vsC rfl (vsC rfl vsN))) (ps_clamped y 0 (h - 1)  _   ) fun w9 k10 => ?_))))))))
 have B11 := h_s.all k10 Apart.none
 have K12 := K0.tr k10
 refine wl_cs rfl rfl rfl rfl rfl (fun _ _ => by kernel_rfl) (vsC rfl (vsC rfl (vsC rfl vsN))) (ps_row v l w (max 0 (min y (h - 1))) T_s _ (by omega) (by omega) (by exact hl) (by exact hyw) B11 ) fun w13 k14 => ?_
 have B15 := B11.all k14 Apart.none
 have K16 := K12.tr k14
 refine wl_mv rfl rfl rfl s6 (wl_mv rfl rfl rfl s4 (wl_v (iv (w - 1)) rfl rfl (y_sub rfl rfl rfl (i64_i rfl (by omega)) rr) (wl_call (R := fun v_ w_ => v_ = iv (((max 0 (min x (w - 1))).toNat : Nat) : Int) ∧ Kept (fun _ => False) w13 w_) rfl rfl (y_cs rfl rfl rfl (fun _ _ => by kernel_rfl) (ev_func _) (vsC rfl (vsC rfl (vsC rfl vsN))) (ps_clamped x 0 (w - 1)  _   ) (fun e_ w_ h_ => ⟨_, h_.1, congrArg (Value.int .i64) (by omega), h_.2⟩)) ?_)))
 rintro _ w17 ⟨rfl, k18⟩
 have B19 := B15.all k18 Apart.none
 have K20 := K16.tr k18
 refine wl_v (bytAddr v (((max 0 (min y (h - 1))) * w).toNat + (max 0 (min x (w - 1))).toNat)) rfl rfl (y_atS ((max 0 (min x (w - 1))).toNat) rfl rfl rfl (by omega) B19 (by omega) (by have hc_ := B19.cap; omega) (by omega) (by have hc_ := B19.cap; omega) (by omega) rr) ?_
 have u21 := getD_lt B19.lt256 (((max 0 (min y (h - 1))) * w).toNat + (max 0 (min x (w - 1))).toNat)
 refine wl_v (.int .u8 ((l.getD (((max 0 (min y (h - 1))) * w).toNat + (max 0 (min x (w - 1))).toNat) 0 : Nat) : Int)) rfl rfl (y_ldB rfl rfl B19 (by omega) rr) (wl_v (iv ((l.getD (((max 0 (min y (h - 1))) * w).toNat + (max 0 (min x (w - 1))).toNat) 0 : Nat) : Int)) rfl rfl (y_convR rfl rfl Tryz.underlying5 Tryz.underlying3 (i64_i rfl (by omega)) rr) (wl_v (iv ((l.getD (((max 0 (min y (h - 1))) * w).toNat + (max 0 (min x (w - 1))).toNat) 0 : Nat) : Int)) rfl rfl (y_asg rfl rfl rr) (wl_nil fun F22 hF23 => ?_)))
 have s24 := (hF23 25).trans s8
 have s25 : F22 10 = iv ((l.getD (((max 0 (min y (h - 1))) * w).toNat + (max 0 (min x (w - 1))).toNat) 0 : Nat) : Int) := (hF23 10).trans rfl
 clear hF23
 refine then_normal (wq_ret ?_)
 exact end_tmp (v := iv ((l.getD (((max 0 (min y (h - 1))) * w).toNat + (max 0 (min x (w - 1))).toNat) 0 : Nat) : Int)) s24 rfl rfl s25 ⟨rfl, K20⟩
theorem row_in {f : FD} {p : Int} (y : Int) (h : (sizeF f p).1 ≠ 0) : max 0 (min y ((sizeF f p).2 - 1)) * (sizeF f p).1 + (sizeF f p).1 ≤ ((f.pl p).length : Int) ∧ 0 ≤ max 0 (min y ((sizeF f p).2 - 1)) * (sizeF f p).1 ∧ max 0 (min y ((sizeF f p).2 - 1)) * (sizeF f p).1 ≤ 4096 := by
  have h2 := cell_bounds (sizeF f p).1 y h
  have hb := size_bounds f p
  have hs := size_pos (size_some h)
  rw [show max 0 (min y ((sizeF f p).2 - 1)) = min (max y 0) ((sizeF f p).2 - 1) by omega]
  unfold cellF at h2
  omega
theorem near_at {f : FD} {p : Int} (x y : Int) (h : (sizeF f p).1 ≠ 0) : nearS (f.pl p) (sizeF f p).1 (sizeF f p).2 x y = atF f p x y := by
  have hc := cell_bounds x y h
  have hb := size_bounds f p
  have hs := size_pos (size_some h)
  rw [atF_some x y h]
  unfold nearS
  have e : (cellF f p x y).toNat = (max 0 (min y ((sizeF f p).2 - 1)) * (sizeF f p).1).toNat + (max 0 (min x ((sizeF f p).1 - 1))).toNat := by
    rw [show max 0 (min y ((sizeF f p).2 - 1)) = min (max y 0) ((sizeF f p).2 - 1) by omega, show max 0 (min x ((sizeF f p).1 - 1)) = min (max x 0) ((sizeF f p).1 - 1) by omega]
    unfold cellF at *
    rw [Int.toNat_add (by omega) (by omega)]
  rw [e]
theorem pl_size (p : Int) (f : FD) (f0 f1 f2 : Value) (T_f0 : Nat → Prop) (T_f1 : Nat → Prop) (T_f2 : Nat → Prop) (w0 : World) (h_f0 : Byt w0 T_f0 f0 ((f).p0)) (h_f1 : Byt w0 T_f1 f1 ((f).p1)) (h_f2 : Byt w0 T_f2 f2 ((f).p2)) :
  Calls Tryz.prog 102 #[.agg #[.int .i64 ((f).W), .int .i64 ((f).H), f0, f1, f2], .int .i64 (p)] w0 fun e w' => e = .returned (.tuple #[.int .i64 ((sizeF f p).1), .int .i64 ((sizeF f p).2)]) ∧ Kept (fun _ => False) w0 w' := by
 refine calls_wq (args := [.agg #[iv (f.W), iv (f.H), f0, f1, f2], iv p]) 22 Tryz.func102 rfl rfl (Nat.le_of_ble_eq_true rfl) ?_
 have K0 := Kept.refl (fun _ => False) w0
 have g_f0 := Grew.refl w0 T_f0
 have g_f1 := Grew.refl w0 T_f1
 have g_f2 := Grew.refl w0 T_f2
 refine wq_seq (wq_region (wl_box_stc (vs := [iv (f.W), iv (f.H), f0, f1, f2]) rfl rfl rfl rfl fun p1 w2 B4 g5 k3 => ?_))
 have B10 := h_f0.all k3 Apart.none
 have B11 := h_f1.all k3 Apart.none
 have B12 := h_f2.all k3 Apart.none
 have K13 := K0.tr k3
 refine wl_v (iv 0) rfl rfl (y_asg rfl rfl rr) (wl_v (iv 0) rfl rfl (y_asg rfl rfl rr) (wl_nil fun F14 hF15 => ?_))
 have s16 : F14 1 = iv p := (hF15 1).trans rfl
 have s17 : F14 22 = undef := (hF15 22).trans rfl
 have s18 : F14 2 = pt p1 0 := (hF15 2).trans rfl
 clear hF15
 refine then_normal (wq_seq (wq_seq ?_))
 by_cases d19 : p < 0
 ·skip
  refine wq_region (wl_mv rfl rfl rfl s16 (wl_v (.bool true) rfl rfl (y_lss rfl rfl rfl (decide_eq_true d19) rr) (wl_v (.bool true) rfl rfl (y_mov rfl rfl rr) (wl_unless 2 false 8 rfl rfl rfl (Or.inl rfl) rfl (wl_unless 2 false 8 rfl rfl rfl (Or.inl rfl) rfl (wl_v (.bool true) rfl rfl (y_pickT rfl rfl rfl rr) (wl_v (.bool true) rfl rfl (y_mov rfl rfl rr) (wl_unless 6 false 12 rfl rfl rfl (Or.inl rfl) rfl (wl_unless 6 false 12 rfl rfl rfl (Or.inl rfl) rfl (wl_unless 6 false 12 rfl rfl rfl (Or.inl rfl) rfl (wl_v (.bool true) rfl rfl (y_pickT rfl rfl rfl rr) ?_)))))))))))
  refine wl_nil fun F20 hF21 => ?_
  have s23 := (hF21 22).trans s17
  have s25 : F20 16 = .bool true := (hF21 16).trans rfl
  clear hF21
  refine then_normal ?_
  refine wq_cond (t := true) s25 (fun _ => ?_) (fun e => by cases e)
  refine wq_seq (wq_region (wl_v (iv 0) rfl rfl (y_asg rfl rfl rr) (wl_v (iv 0) rfl rfl (y_asg rfl rfl rr) (wl_nil fun F26 hF27 => ?_))))
  have s28 := (hF27 22).trans s23
  have s29 : F26 4 = iv 0 := (hF27 4).trans rfl
  have s30 : F26 5 = iv 0 := (hF27 5).trans rfl
  clear hF27
  refine then_normal (wq_ret (then_ret ?_))
  exact end_2 s28 rfl (res_tmp (v := iv 0) rfl s29) (res_tmp (v := iv 0) rfl s30) ⟨(by first | rw [he] | rw [sizeF_no (by rintro ⟨h1, h2, h3⟩; first | exact absurd ((checkE_iff f).2 h1) (by assumption) | omega)]), K13⟩
 ·skip
  by_cases d31 : 3 ≤ p
  ·skip
   refine wq_region (wl_mv rfl rfl rfl s16 (wl_v (.bool false) rfl rfl (y_lss rfl rfl rfl (decide_eq_false d19) rr) (wl_v (.bool false) rfl rfl (y_mov rfl rfl rr) (wl_vw (iv p) 2 false 8 rfl rfl rfl rfl rfl (y_mov rfl s16 rr) (wl_vw (.bool true) 2 false 8 rfl rfl rfl rfl rfl (y_geq rfl rfl rfl (decide_eq_true d31) rr) (wl_v (.bool true) rfl rfl (y_pickF rfl rfl rfl rr) (wl_v (.bool true) rfl rfl (y_mov rfl rfl rr) (wl_unless 6 false 12 rfl rfl rfl (Or.inl rfl) rfl (wl_unless 6 false 12 rfl rfl rfl (Or.inl rfl) rfl (wl_unless 6 false 12 rfl rfl rfl (Or.inl rfl) rfl (wl_v (.bool true) rfl rfl (y_pickT rfl rfl rfl rr) ?_)))))))))))
   refine wl_nil fun F32 hF33 => ?_
   have s35 := (hF33 22).trans s17
   have s37 : F32 16 = .bool true := (hF33 16).trans rfl
   clear hF33
   refine then_normal ?_
   refine wq_cond (t := true) s37 (fun _ => ?_) (fun e => by cases e)
   refine wq_seq (wq_region (wl_v (iv 0) rfl rfl (y_asg rfl rfl rr) (wl_v (iv 0) rfl rfl (y_asg rfl rfl rr) (wl_nil fun F38 hF39 => ?_))))
   have s40 := (hF39 22).trans s35
   have s41 : F38 4 = iv 0 := (hF39 4).trans rfl
   have s42 : F38 5 = iv 0 := (hF39 5).trans rfl
   clear hF39
   refine then_normal (wq_ret (then_ret ?_))
   exact end_2 s40 rfl (res_tmp (v := iv 0) rfl s41) (res_tmp (v := iv 0) rfl s42) ⟨(by first | rw [he] | rw [sizeF_no (by rintro ⟨h1, h2, h3⟩; first | exact absurd ((checkE_iff f).2 h1) (by assumption) | omega)]), K13⟩
  ·skip
   refine wq_region (wl_mv rfl rfl rfl s16 (wl_v (.bool false) rfl rfl (y_lss rfl rfl rfl (decide_eq_false d19) rr) (wl_v (.bool false) rfl rfl (y_mov rfl rfl rr) (wl_vw (iv p) 2 false 8 rfl rfl rfl rfl rfl (y_mov rfl s16 rr) (wl_vw (.bool false) 2 false 8 rfl rfl rfl rfl rfl (y_geq rfl rfl rfl (decide_eq_false d31) rr) (wl_v (.bool false) rfl rfl (y_pickF rfl rfl rfl rr) (wl_v (.bool false) rfl rfl (y_mov rfl rfl rr) (wl_vw (.agg #[iv (f.W), iv (f.H), f0, f1, f2]) 6 false 12 rfl rfl rfl rfl rfl (y_load_stc stcT_frame rfl s18 B4 rr) (wl_callw (R := fun v_ w_ => v_ = iv (checkE f) ∧ Kept (fun _ => False) w2 w_) 6 false 12 rfl rfl rfl rfl rfl (y_cs rfl rfl rfl (fun _ _ => by kernel_rfl) (ev_func _) (vsC rfl vsN) (pl_check f f0 f1 f2 T_f0 T_f1 T_f2 _  B10 B11 B12 ) (fun e_ w_ h_ => ⟨_, h_.1, rfl, h_.2⟩)) ?_)))))))))
   rintro _ w43 ⟨rfl, k44⟩
   have B45 := B10.all k44 Apart.none
   have B46 := B11.all k44 Apart.none
   have B47 := B12.all k44 Apart.none
   have B48 := B4.all k44 id
   have K49 := K13.tr k44
   refine wl_vw (.bool (decide ((checkE f) ≠ 0))) 6 false 12 rfl rfl rfl rfl rfl (y_neqI rfl rfl rfl rfl rr) (wl_v (.bool (decide ((checkE f) ≠ 0))) rfl rfl (y_pickF rfl rfl rfl rr) (wl_nil fun F50 hF51 => ?_))
   obtain ⟨s52, s53, s54⟩ := t3 hF51 1 s16 22 s17 2 s18
   have s55 : F50 16 = .bool (decide ((checkE f) ≠ 0)) := (hF51 16).trans rfl
   clear hF51
   refine then_normal ?_
   refine wq_cond s55 (fun c56 => ?_) (fun c56 => ?_)
   ·replace c56 := of_decide_eq_true c56
    refine wq_seq (wq_region (wl_v (iv 0) rfl rfl (y_asg rfl rfl rr) (wl_v (iv 0) rfl rfl (y_asg rfl rfl rr) (wl_nil fun F57 hF58 => ?_))))
    have s59 := (hF58 22).trans s53
    have s60 : F57 4 = iv 0 := (hF58 4).trans rfl
    have s61 : F57 5 = iv 0 := (hF58 5).trans rfl
    clear hF58
    refine then_normal (wq_ret (then_ret ?_))
    exact end_2 s59 rfl (res_tmp (v := iv 0) rfl s60) (res_tmp (v := iv 0) rfl s61) ⟨(by first | rw [he] | rw [sizeF_no (by rintro ⟨h1, h2, h3⟩; first | exact absurd ((checkE_iff f).2 h1) (by assumption) | omega)]), K49⟩
   ·replace c56 := of_decide_eq_false c56
    refine wq_skip (then_normal (wq_seq ?_))
    have hok := (checkE_iff f).1 (by first | assumption | (apply Decidable.byContradiction; assumption))
    have hws := (sideB_iff _).1 hok.1
    have hhs := (sideB_iff _).1 hok.2.1
    have he : sizeF f p = sidesF f p := by unfold sizeF sidesF; rw [if_pos ⟨hok, by omega, by omega⟩]
    refine wq_region (wl_v (.agg #[iv (f.W), iv (f.H), f0, f1, f2]) rfl rfl (y_load_stc stcT_frame rfl s54 B48 rr) (wl_mv rfl rfl rfl s52 (wl_cs rfl rfl rfl rfl rfl (fun _ _ => by kernel_rfl) (vsC rfl (vsC rfl vsN)) (ps_sides p f f0 f1 f2 T_f0 T_f1 T_f2 _ (by omega) (by omega) B45 B46 B47 ) fun w62 k63 => ?_)))
    have K68 := K49.tr k63
    refine wl_v (iv ((sidesF f p).1)) rfl rfl (y_ext rfl rfl rfl rr) (wl_v (iv ((sidesF f p).2)) rfl rfl (y_ext rfl rfl rfl rr) (wl_v (iv ((sidesF f p).1)) rfl rfl (y_asg rfl rfl rr) (wl_v (iv ((sidesF f p).2)) rfl rfl (y_asg rfl rfl rr) (wl_nil fun F69 hF70 => ?_))))
    have s71 := (hF70 22).trans s53
    have s72 : F69 4 = iv ((sidesF f p).1) := (hF70 4).trans rfl
    have s73 : F69 5 = iv ((sidesF f p).2) := (hF70 5).trans rfl
    clear hF70
    refine then_normal (wq_ret ?_)
    exact end_2 s71 rfl (res_tmp (v := iv ((sidesF f p).1)) rfl s72) (res_tmp (v := iv ((sidesF f p).2)) rfl s73) ⟨(by first | rw [he] | rw [sizeF_no (by rintro ⟨h1, h2, h3⟩; first | exact absurd ((checkE_iff f).2 h1) (by assumption) | omega)]), K68⟩
theorem pl_at (p x y : Int) (f : FD) (f0 f1 f2 : Value) (T_f0 : Nat → Prop) (T_f1 : Nat → Prop) (T_f2 : Nat → Prop) (w0 : World) (h_f0 : Byt w0 T_f0 f0 ((f).p0)) (h_f1 : Byt w0 T_f1 f1 ((f).p1)) (h_f2 : Byt w0 T_f2 f2 ((f).p2)) :
  Calls Tryz.prog 78 #[.agg #[.int .i64 ((f).W), .int .i64 ((f).H), f0, f1, f2], .int .i64 (p), .int .i64 (x), .int .i64 (y)] w0 fun e w' => e = .returned (.int .i64 (atF f p x y)) ∧ Kept (fun _ => False) w0 w' := by
 refine calls_wq (args := [.agg #[iv (f.W), iv (f.H), f0, f1, f2], iv p, iv x, iv y]) 28 Tryz.func78 rfl rfl (Nat.le_of_ble_eq_true rfl) ?_
 have K0 := Kept.refl (fun _ => False) w0
 have g_f0 := Grew.refl w0 T_f0
 have g_f1 := Grew.refl w0 T_f1
 have g_f2 := Grew.refl w0 T_f2
 refine wq_seq (wq_region (wl_box_stc (vs := [iv (f.W), iv (f.H), f0, f1, f2]) rfl rfl rfl rfl fun p1 w2 B4 g5 k3 => ?_))
 have B10 := h_f0.all k3 Apart.none
 have B11 := h_f1.all k3 Apart.none
 have B12 := h_f2.all k3 Apart.none
 have K13 := K0.tr k3
 refine wl_v (iv 0) rfl rfl (y_asg rfl rfl rr) (wl_nil fun F14 hF15 => ?_)
 have s16 : F14 1 = iv p := (hF15 1).trans rfl
 have s17 : F14 2 = iv x := (hF15 2).trans rfl
 have s18 : F14 3 = iv y := (hF15 3).trans rfl
 have s19 : F14 28 = undef := (hF15 28).trans rfl
 have s20 : F14 4 = pt p1 0 := (hF15 4).trans rfl
 clear hF15
 refine then_normal (wq_seq (wq_region (wl_v (.agg #[iv (f.W), iv (f.H), f0, f1, f2]) rfl rfl (y_load_stc stcT_frame rfl s20 B4 rr) (wl_mv rfl rfl rfl s16 (wl_cs rfl rfl rfl rfl rfl (fun _ _ => by kernel_rfl) (vsC rfl (vsC rfl vsN)) (pl_size p f f0 f1 f2 T_f0 T_f1 T_f2 _  B10 B11 B12 ) fun w21 k22 => ?_)))))
 have B23 := B10.all k22 Apart.none
 have B24 := B11.all k22 Apart.none
 have B25 := B12.all k22 Apart.none
 have B26 := B4.all k22 id
 have K27 := K13.tr k22
 refine wl_v (.tuple #[iv ((sizeF f p).1), iv ((sizeF f p).2)]) rfl rfl (y_mov rfl rfl rr) (wl_v (iv ((sizeF f p).1)) rfl rfl (y_ext rfl rfl rfl rr) (wl_v (iv ((sizeF f p).2)) rfl rfl (y_ext rfl rfl rfl rr) (wl_v (iv ((sizeF f p).1)) rfl rfl (y_asg rfl rfl rr) (wl_v (iv ((sizeF f p).2)) rfl rfl (y_asg rfl rfl rr) (wl_nil fun F28 hF29 => ?_)))))
 obtain ⟨s30, s31, s32, s33, s34⟩ := t5 hF29 1 s16 2 s17 3 s18 28 s19 4 s20
 have s35 : F28 9 = iv ((sizeF f p).1) := (hF29 9).trans rfl
 have s36 : F28 10 = iv ((sizeF f p).2) := (hF29 10).trans rfl
 clear hF29
 refine then_normal (wq_seq (wq_seq (wq_region (wl_mv rfl rfl rfl s35 (wl_v (.bool (decide (((sizeF f p).1) = 0))) rfl rfl (y_eqlI rfl rfl rfl rfl rr) (wl_nil fun F37 hF38 => ?_))))))
 obtain ⟨s39, s40, s41, s42, s43, s44, s45⟩ := t7 hF38 1 s30 2 s31 3 s32 28 s33 4 s34 9 s35 10 s36
 have s46 : F37 18 = .bool (decide (((sizeF f p).1) = 0)) := (hF38 18).trans rfl
 clear hF38
 refine then_normal ?_
 refine wq_cond s46 (fun c47 => ?_) (fun c47 => ?_)
 ·replace c47 := of_decide_eq_true c47
  refine wq_seq (wq_region (wl_v (iv 0) rfl rfl (y_asg rfl rfl rr) (wl_nil fun F48 hF49 => ?_)))
  have s50 := (hF49 28).trans s42
  have s51 : F48 8 = iv 0 := (hF49 8).trans rfl
  clear hF49
  refine then_normal (wq_ret (then_ret ?_))
  exact end_tmp (v := iv 0) s50 rfl rfl s51 ⟨(by first | rw [atF_none x y (by assumption)] | (rw [← near_at x y hsz]; rfl)), K27⟩
 ·replace c47 := of_decide_eq_false c47
  refine wq_skip (then_normal (wq_seq ?_))
  rcases (show p = 0 ∨ p = 1 ∨ p = 2 from size_cases (f := f) (by assumption)) with rfl | rfl | rfl
  ·skip
   have hsz : (sizeF f 0).1 ≠ 0 := by assumption
   have hb := size_bounds f 0
   have hsp := size_pos (size_some hsz)
   have hr := row_in y hsz
   refine wq_region (wl_mv rfl rfl rfl s39 (wl_v (pt p1 2) rfl rfl (y_fieldR (n := 3) rfl s43 Tryz.underlying25 rfl (by kernel_rfl) (by decide) rfl rr) (wl_v (pt p1 2) rfl rfl (y_atR 0 (s := 1) rfl rfl rfl (by omega) Tryz.underlying23 (by omega) (by kernel_rfl) (by omega) rr) (wl_v f0 rfl rfl (y_ld_stc rfl rfl Tryz.underlying22 B26 rfl rfl rr) (wl_mv rfl rfl rfl s44 (wl_mv rfl rfl rfl s45 (wl_mv rfl rfl rfl s40 (wl_mv rfl rfl rfl s41 (wl_cs rfl rfl rfl rfl rfl (fun _ _ => by kernel_rfl) (vsC rfl (vsC rfl (vsC rfl (vsC rfl (vsC rfl vsN))))) (ps_nearest f0 (f.p0) ((sizeF f 0).1) ((sizeF f 0).2) x y T_f0 _ (by omega) (by omega) (by exact hr.1) (by exact hr.2) B23 ) fun w52 k53 => ?_)))))))))
   have K58 := K27.tr k53
   refine wl_v (iv (nearS (f.p0) ((sizeF f 0).1) ((sizeF f 0).2) x y)) rfl rfl (y_asg rfl rfl rr) (wl_nil fun F59 hF60 => ?_)
   have s61 := (hF60 28).trans s42
   have s62 : F59 8 = iv (nearS (f.p0) ((sizeF f 0).1) ((sizeF f 0).2) x y) := (hF60 8).trans rfl
   clear hF60
   refine then_normal (wq_ret ?_)
   exact end_tmp (v := iv (nearS (f.p0) ((sizeF f 0).1) ((sizeF f 0).2) x y)) s61 rfl rfl s62 ⟨(by first | rw [atF_none x y (by assumption)] | (rw [← near_at x y hsz]; rfl)), K58⟩
  ·skip
   have hsz : (sizeF f 1).1 ≠ 0 := by assumption
   have hb := size_bounds f 1
   have hsp := size_pos (size_some hsz)
   have hr := row_in y hsz
   refine wq_region (wl_mv rfl rfl rfl s39 (wl_v (pt p1 2) rfl rfl (y_fieldR (n := 3) rfl s43 Tryz.underlying25 rfl (by kernel_rfl) (by decide) rfl rr) (wl_v (pt p1 3) rfl rfl (y_atR 1 (s := 1) rfl rfl rfl (by omega) Tryz.underlying23 (by omega) (by kernel_rfl) (by omega) rr) (wl_v f1 rfl rfl (y_ld_stc rfl rfl Tryz.underlying22 B26 rfl rfl rr) (wl_mv rfl rfl rfl s44 (wl_mv rfl rfl rfl s45 (wl_mv rfl rfl rfl s40 (wl_mv rfl rfl rfl s41 (wl_cs rfl rfl rfl rfl rfl (fun _ _ => by kernel_rfl) (vsC rfl (vsC rfl (vsC rfl (vsC rfl (vsC rfl vsN))))) (ps_nearest f1 (f.p1) ((sizeF f 1).1) ((sizeF f 1).2) x y T_f1 _ (by omega) (by omega) (by exact hr.1) (by exact hr.2) B24 ) fun w63 k64 => ?_)))))))))
   have K69 := K27.tr k64
   refine wl_v (iv (nearS (f.p1) ((sizeF f 1).1) ((sizeF f 1).2) x y)) rfl rfl (y_asg rfl rfl rr) (wl_nil fun F70 hF71 => ?_)
   have s72 := (hF71 28).trans s42
   have s73 : F70 8 = iv (nearS (f.p1) ((sizeF f 1).1) ((sizeF f 1).2) x y) := (hF71 8).trans rfl
   clear hF71
   refine then_normal (wq_ret ?_)
   exact end_tmp (v := iv (nearS (f.p1) ((sizeF f 1).1) ((sizeF f 1).2) x y)) s72 rfl rfl s73 ⟨(by first | rw [atF_none x y (by assumption)] | (rw [← near_at x y hsz]; rfl)), K69⟩
  ·skip
   have hsz : (sizeF f 2).1 ≠ 0 := by assumption
   have hb := size_bounds f 2
   have hsp := size_pos (size_some hsz)
   have hr := row_in y hsz
   refine wq_region (wl_mv rfl rfl rfl s39 (wl_v (pt p1 2) rfl rfl (y_fieldR (n := 3) rfl s43 Tryz.underlying25 rfl (by kernel_rfl) (by decide) rfl rr) (wl_v (pt p1 4) rfl rfl (y_atR 2 (s := 1) rfl rfl rfl (by omega) Tryz.underlying23 (by omega) (by kernel_rfl) (by omega) rr) (wl_v f2 rfl rfl (y_ld_stc rfl rfl Tryz.underlying22 B26 rfl rfl rr) (wl_mv rfl rfl rfl s44 (wl_mv rfl rfl rfl s45 (wl_mv rfl rfl rfl s40 (wl_mv rfl rfl rfl s41 (wl_cs rfl rfl rfl rfl rfl (fun _ _ => by kernel_rfl) (vsC rfl (vsC rfl (vsC rfl (vsC rfl (vsC rfl vsN))))) (ps_nearest f2 (f.p2) ((sizeF f 2).1) ((sizeF f 2).2) x y T_f2 _ (by omega) (by omega) (by exact hr.1) (by exact hr.2) B25 ) fun w74 k75 => ?_)))))))))
   have K80 := K27.tr k75
   refine wl_v (iv (nearS (f.p2) ((sizeF f 2).1) ((sizeF f 2).2) x y)) rfl rfl (y_asg rfl rfl rr) (wl_nil fun F81 hF82 => ?_)
   have s83 := (hF82 28).trans s42
   have s84 : F81 8 = iv (nearS (f.p2) ((sizeF f 2).1) ((sizeF f 2).2) x y) := (hF82 8).trans rfl
   clear hF82
   refine then_normal (wq_ret ?_)
   exact end_tmp (v := iv (nearS (f.p2) ((sizeF f 2).1) ((sizeF f 2).2) x y)) s83 rfl rfl s84 ⟨(by first | rw [atF_none x y (by assumption)] | (rw [← near_at x y hsz]; rfl)), K80⟩
end Go.Proofs.YtdcbabgcbkdlhaaGreatDoor
set_option maxRecDepth 100000
namespace Go.Proofs.YtdcbabgcbkdlhaaGreatDoor
open Go.RowKit
theorem retB {a b : Bool} (h : a = b) : Ending.returned (.bool a) = .returned (.bool b) := by rw [h]
def Ask1 (w : World) (n : Nat) (v : Value) (g : Nat → Int) : Prop :=
  ∃ (f : FuncId) (cs : List Value), v = .func (.func f) #[] cs.toArray ∧ (∀ args w, (callFunc f args).run Tryz.prog w = .ok (.enter f args) w) ∧
    ∀ w', Kept (fun _ => False) w w' → ∀ k : Nat, k < n → Calls Tryz.prog f (.int .i64 (k : Int) :: cs).toArray w' fun e w'' => e = .returned (.int .i64 (g k)) ∧ Kept (fun _ => False) w' w''
theorem Ask1.all {w w' : World} {n : Nat} {v : Value} {g : Nat → Int} (h : Ask1 w n v g) (k : Kept (fun _ => False) w w') : Ask1 w' n v g := by
  obtain ⟨f, cs, e, hf, h⟩ := h
  exact ⟨f, cs, e, hf, fun w2 k2 => h w2 (k.trans k2 (fun _ _ x => x))⟩
def Ask2 (w : World) (n : Nat) (v : Value) (g : Nat → Nat → Int) : Prop :=
  ∃ (f : FuncId) (cs : List Value), v = .func (.func f) #[] cs.toArray ∧ (∀ args w, (callFunc f args).run Tryz.prog w = .ok (.enter f args) w) ∧
    ∀ w', Kept (fun _ => False) w w' → ∀ i k : Nat, i < n → k < n → Calls Tryz.prog f (.int .i64 (i : Int) :: .int .i64 (k : Int) :: cs).toArray w' fun e w'' => e = .returned (.int .i64 (g i k)) ∧ Kept (fun _ => False) w' w''
theorem Ask2.all {w w' : World} {n : Nat} {v : Value} {g : Nat → Nat → Int} (h : Ask2 w n v g) (k : Kept (fun _ => False) w w') : Ask2 w' n v g := by
  obtain ⟨f, cs, e, hf, h⟩ := h
  exact ⟨f, cs, e, hf, fun w2 k2 => h w2 (k.trans k2 (fun _ _ x => x))⟩
def Pd.ask2 (n : Nat) (g : Nat → Nat → Int) : Pd := ⟨fun v w => Ask2 w n v g, fun _ _ _ h k => h.all k⟩
section
variable {ρ : Operand → Value} {o : Oper} {w : World} {R : Value → World → Prop}
theorem y_fnc {P : Program} {f : FuncId} {xs : List Operand} {vs : List Value} (ho : o.op = .makeFunc (.func f) #[] xs.toArray) (hx : xs.map ρ = vs) (h : R (.func (.func f) #[] vs.toArray) w) : Yields P ρ o w R := by
  subst hx
  exact y_of (v := .func (.func f) #[] (xs.map ρ).toArray) (w' := w) (by simp [execOp, ho, show ∀ cap, (Instr.makeFunc (.func f) #[] cap).run P w = .ok (.func (.func f) #[] cap) w from fun _ => rfl]) h
theorem y_ask1 {c : Call} {cx x : Operand} {v : Value} {n k : Nat} {g : Nat → Int} (ho : o.op = .call c) (hc : c.callee = .value cx) (hcx : ρ cx = v) (hx : c.args = #[x]) (hv : ρ x = .int .i64 (k : Int)) (ha : Ask1 w n v g) (hk : k < n)
    (hS : ∀ (e : Ending) w', (e = .returned (.int .i64 (g k)) ∧ Kept (fun _ => False) w w') → ∃ v, e = .returned v ∧ R v w') : Yields Tryz.prog ρ o w R := by
  obtain ⟨f, cs, rfl, hf, h⟩ := ha
  obtain ⟨cl, ag, ts⟩ := c
  simp only at hc hx
  subst hc; subst hx
  unfold Yields
  have e : (execOp ρ o).run Tryz.prog w = .ok (.enter f (.int .i64 (k : Int) :: cs).toArray) w := by simp [execOp, ho, resolve, hcx, hv, Deferred.ofValue, invoke, hf]
  rw [e]
  exact (h w (Kept.refl _ _) k hk).mono hS
theorem y_ask2 {c : Call} {cx x y : Operand} {v : Value} {n i k : Nat} {g : Nat → Nat → Int} (ho : o.op = .call c) (hc : c.callee = .value cx) (hcx : ρ cx = v) (hx : c.args = #[x, y]) (hv : ρ x = .int .i64 (i : Int)) (hv2 : ρ y = .int .i64 (k : Int)) (ha : Ask2 w n v g) (hi : i < n) (hk : k < n)
    (hS : ∀ (e : Ending) w', (e = .returned (.int .i64 (g i k)) ∧ Kept (fun _ => False) w w') → ∃ v, e = .returned v ∧ R v w') : Yields Tryz.prog ρ o w R := by
  obtain ⟨f, cs, rfl, hf, h⟩ := ha
  obtain ⟨cl, ag, ts⟩ := c
  simp only at hc hx
  subst hc; subst hx
  unfold Yields
  have e : (execOp ρ o).run Tryz.prog w = .ok (.enter f (.int .i64 (i : Int) :: .int .i64 (k : Int) :: cs).toArray) w := by simp [execOp, ho, resolve, hcx, hv, hv2, Deferred.ofValue, invoke, hf]
  rw [e]
  exact (h w (Kept.refl _ _) i k hi hk).mono hS
theorem y_lookA {t : TypeId} {x y : Operand} {k : IntKind} {n : Nat} (j : Nat) {a : Nat → Int} {r : Int} (ht : ArrT t n) (ho : o.op = .index t x y) (hx : ρ x = .agg (arrL n a).toArray) (hy : ρ y = .int k (j : Int)) (hj : j < n) (hr : a j = r) (h : R (.int .i64 r) w) : Yields Tryz.prog ρ o w R := by
  subst hr
  have h1 : (arrL n a).toArray[j]? = some (.int .i64 (a j)) := by rw [List.getElem?_toArray]; exact arrL_at hj
  cases hq : Tryz.prog.info? 3 with
  | none => have := Tryz.size_int; simp [hq] at this
  | some i =>
    have hs' : i.size = 1 := by have := Tryz.size_int; simpa [hq] using this
    have hp : (part 3 (arrL n a).toArray j).run Tryz.prog w = .ok (.int .i64 (a j)) w := by simp [part, isAgg, run_underlying Tryz.underlying3, h1]
    have h2 : (j : Int) < (n : Int) := by omega
    exact y_of (v := .int .i64 (a j)) (w' := w) (by simp [execOp, ho, hx, hy, Instr.index, run_underlying ht.1, asIntOf, sizeOf, typeInfo, hq, hs', hj, hp]) h
theorem end_arr {N n : Nat} {F : Nat → Value} {fn : Func} {p : Tmp} {ty t : TypeId} {q : Nat} {b : Nat → Int} {R : Ending → World → Prop} (hT : ArrT ty n) (hm : F N = undef) (ht : Nat.blt p N = true) (h : fn.results = #[.cell p ty]) (hp : F p = .pointer (some ⟨q, 0, none⟩)) (hB : Arr w q t n b) (hR : R (.returned (.agg (arrL n b).toArray)) w) : endP Tryz.prog fn N R .ret F w :=
  ⟨hm, fun a ha => ⟨_, results_cell h _ _ q (by rw [ha.at' p ht]; exact hp) _ t (0, 0) _ hB hT.1 rfl (hT.size b), hR⟩⟩
def Pd.cel (n : Nat) (t : TypeId) (v : Value) : Pd := ⟨fun u w => ∃ p, u = .pointer (some ⟨p, 0, none⟩) ∧ n ≤ p ∧ Cel w p t v, fun _ _ _ ⟨p, e, hn, h⟩ k => ⟨p, e, hn, h.all k id⟩⟩
theorem y_alloc_cel {P : Program} {t : TypeId} {v : Value} (ho : o.op = .alloc t) (hi : (P.info? t).map (fun i => (i.zero, i.size)) = some (some v, 1)) (hv : oneC v = true) (h : R (.pointer (some ⟨w.heap.size, 0, none⟩)) (w.alloc (.cells #[v] t))) : Yields P ρ o w R :=
  y_of (v := .pointer (some ⟨w.heap.size, 0, none⟩)) (w' := w.alloc (.cells #[v] t)) (by simp [execOp, ho, (zero_of_info hi).1, go_sem]; cases v <;> first | rfl | (simp [oneC] at hv; done)) h
end
end Go.Proofs.YtdcbabgcbkdlhaaGreatDoor
