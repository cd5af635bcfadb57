/- What OrderShows reaches of my texts, part 2. -/
import Derived.Test.YthoafgfcoclkbaaOrderShowsA
set_option maxRecDepth 100000
set_option maxHeartbeats 4000000
set_option maxRecDepth 100000
namespace Go.Proofs.Ythoafgfcoclkbaa
open Go.RowKit
def usedBy (l : List (Nat × Nat)) (j : Nat) : Option Nat := (l.find? fun q => q.1 == j).map (·.2)
theorem usedBy_mem {l : List (Nat × Nat)} {j k : Nat} (h : usedBy l j = some k) : (j, k) ∈ l := by
  unfold usedBy at h
  cases hf : l.find? fun q => q.1 == j with
  | none => rw [hf] at h; cases h
  | some q =>
    rw [hf] at h
    cases h
    have h1 := List.find?_some hf
    have h2 := List.mem_of_find?_eq_some hf
    have : q.1 = j := by simpa using h1
    rw [← this]; exact h2
def noUse (l : List (Nat × Nat)) (i : Nat) : Bool := l.all fun q => q.2 != i
theorem noUse_at {l : List (Nat × Nat)} {i : Nat} (h : noUse l i = true) (j : Nat) : usedBy l j ≠ some i := fun e => by
  have := List.all_eq_true.1 h _ (usedBy_mem e)
  simp at this
def oneUse (l : List (Nat × Nat)) (i j : Nat) : Bool := l.all fun q => q.2 != i || q.1 == j
theorem oneUse_at {l : List (Nat × Nat)} {i j : Nat} (h : oneUse l i j = true) {j' : Nat} (e : usedBy l j' = some i) : j' = j := by
  have := List.all_eq_true.1 h _ (usedBy_mem e)
  simpa using this
def Told (l : List (Nat × Nat)) (Gs : List Pd) (i : Nat) : Nat → Value → World → Prop := fun j v w => (usedBy l j = none ∨ usedBy l j = some i) → Said Gs j v w
def Left (l : List (Nat × Nat)) (D : List (Option Tmp)) (Gs Hs : List Pd) (w0 : World) (i : Nat) (ρ : Operand → Value) (w : World) (v : Value) (w' : World) : Prop :=
  Said Gs i v w' ∧ Kept (fun _ => False) w0 w' ∧ (∀ j x, j ≠ i → usedBy l j ≠ some i → Said Gs j x w → Said Gs j x w') ∧ (∀ j x, usedBy l j ≠ some i → Said Hs j x w → Said Hs j x w') ∧ ∀ j d, usedBy l j = some i → D[j]? = some (some d) → Said Hs j (ρ (.tmp d)) w'
section
variable {P : Program} {N : Nat} {F : Nat → Value} {w : World} {Q : Exit → (Nat → Value) → World → Prop}
def StepFU (l : List (Nat × Nat)) (N : Nat) (P : Program) (D : List (Option Tmp)) (Gs Hs : List Pd) (F0 : Nat → Value) (w0 : World) (i : Nat) (o : Oper) : Prop :=
  ∀ (F : Nat → Value) (w : World), Kept (fun _ => False) w0 w → (∀ t, Nat.blt t N = true → some t ∉ D → F t = F0 t) → DepsF D (Told l Gs i) F w o.after.toList →
    match o.guard with
    | none => Yields P (ev F) o w (Left l D Gs Hs w0 i (ev F) w)
    | some (j, want) => ∃ d, D.getD j none = some d ∧
      ((F d = .bool want ∧ Yields P (ev F) o w (Left l D Gs Hs w0 i (ev F) w)) ∨ ((F d = .bool (!want) ∨ F d = undef) ∧ Said Gs i undef w ∧ noUse l i = true))
def StepsFU (l : List (Nat × Nat)) (N : Nat) (P : Program) (D : List (Option Tmp)) (Gs Hs : List Pd) (F0 : Nat → Value) (w0 : World) : Nat → List Oper → Prop
  | _, [] => True
  | i, o :: r => StepFU l N P D Gs Hs F0 w0 i o ∧ StepsFU l N P D Gs Hs F0 w0 (i + 1) r
theorem StepFU.step {l : List (Nat × Nat)} {D : List (Option Tmp)} {Gs Hs : List Pd} {w0 : World} {i : Nat} {o : Oper} {a0 : Act} (ha : Fr N F a0) (h : StepFU l N P D Gs Hs F w0 i o) : StepU (usedBy l) P (Kept (fun _ => False) w0) D (Said Gs) (Said Hs) a0 i o := by
  intro a w hR hout hD
  have h1 := h (fun t => a.tmps.getD t undef) w hR (fun t hb ht => by rw [← ha.at' t hb]; exact hout t ht) hD.toF
  rw [← eval_ev a] at h1
  unfold goes
  cases hg : o.guard with
  | none => rw [hg] at h1; exact ⟨fun _ => h1, fun e => by cases e⟩
  | some g =>
    obtain ⟨j, want⟩ := g
    rw [hg] at h1
    obtain ⟨d, hd, h1⟩ := h1
    simp only [hd]
    have hev : a.eval (.tmp d) = a.tmps.getD d undef := rfl
    rcases h1 with ⟨hv, hy⟩ | ⟨hv, hs⟩
    · rw [hev, hv]; exact ⟨fun _ => hy, fun e => by simp at e⟩
    · refine ⟨fun e => ?_, fun _ => ⟨hs.1, noUse_at hs.2⟩⟩
      rcases hv with hv | hv
      · rw [hev, hv] at e; cases want <;> simp at e
      · rw [hev, hv] at e; simp [undef] at e
theorem StepsFU.steps {l : List (Nat × Nat)} {D : List (Option Tmp)} {Gs Hs : List Pd} {w0 : World} {a0 : Act} (ha : Fr N F a0) : ∀ {os : List Oper} {i : Nat}, StepsFU l N P D Gs Hs F w0 i os → StepsU (usedBy l) P (Kept (fun _ => False) w0) D (Said Gs) (Said Hs) a0 i os := by
  intro os
  induction os with
  | nil => intro i _; exact trivial
  | cons o r ih => intro i h; exact ⟨h.1.step ha, ih h.2⟩
theorem left_plain {l : List (Nat × Nat)} {D : List (Option Tmp)} {Gs Hs : List Pd} {w0 w w' : World} {i : Nat} {ρ : Operand → Value} {v : Value} (hn : noUse l i = true) (hR : Kept (fun _ => False) w0 w) (h : Said Gs i v w' ∧ Kept (fun _ => False) w w') : Left l D Gs Hs w0 i ρ w v w' :=
  ⟨h.1, hR.trans h.2 (fun _ _ x => x), fun j _ _ _ hj => (Gs.getD j Pd.any).stays _ _ _ hj h.2, fun j _ _ hj => (Hs.getD j Pd.any).stays _ _ _ hj h.2, fun j _ e => absurd e (noUse_at hn j)⟩
theorem Yields.mono' {ρ : Operand → Value} {o : Oper} {R R' : Value → World → Prop} (h : Yields P ρ o w R) (hr : ∀ v w', R v w' → R' v w') : Yields P ρ o w R' := by
  revert h
  unfold Yields
  generalize (execOp ρ o).run P w = r
  intro h
  cases r with
  | ok n w' =>
    cases n <;> simp only at h ⊢ <;> first
      | exact hr _ _ h
      | exact h.elim
      | exact Calls.mono h (fun e w'' ⟨y, he, hk⟩ => ⟨y, he, hr _ _ hk⟩)
  | halt y w' => exact h.elim
theorem StepFU.one {l : List (Nat × Nat)} {D : List (Option Tmp)} {Gs Hs : List Pd} {F0 : Nat → Value} {w0 : World} {i : Nat} {o : Oper} (hn : noUse l i = true) (hg : o.guard = none)
    (h : ∀ (F : Nat → Value) (w : World), Kept (fun _ => False) w0 w → (∀ t, Nat.blt t N = true → some t ∉ D → F t = F0 t) → DepsF D (Told l Gs i) F w o.after.toList → Yields P (ev F) o w (fun v w' => Said Gs i v w' ∧ Kept (fun _ => False) w w')) : StepFU l N P D Gs Hs F0 w0 i o := by
  intro F w h1 h2 h3
  rw [hg]
  exact (h F w h1 h2 h3).mono' fun _ _ x => left_plain hn h1 x
def Pd.under (Ty : TypeId → Prop) (p : Pd) : Prop := ∀ v w w' S, p.says v w → Kept S w w' → (∀ i, S i → ∀ c e f, w.heap[i]? = some (.cells c e f) → Ty e) → p.says v w'
theorem under_any {Ty : TypeId → Prop} : Pd.any.under Ty := fun _ _ _ _ _ _ _ => trivial
def AllUnder (Ty : TypeId → Prop) (skip : Nat → Bool) : Nat → List Pd → Prop
  | _, [] => True
  | k, p :: r => (skip k = true ∨ p.under Ty) ∧ AllUnder Ty skip (k + 1) r
theorem AllUnder.at {Ty : TypeId → Prop} {skip : Nat → Bool} : ∀ {Gs : List Pd} {k : Nat}, AllUnder Ty skip k Gs → ∀ j, skip (k + j) = false → (Gs.getD j Pd.any).under Ty := by
  intro Gs
  induction Gs with
  | nil => intro k _ j _; exact under_any
  | cons p r ih =>
    intro k h j hj
    cases j with
    | zero =>
      rcases h.1 with e | e
      · rw [Nat.add_zero] at hj; rw [hj] at e; cases e
      · exact e
    | succ j => exact ih h.2 j (by rw [show k + 1 + j = k + (j + 1) by omega]; exact hj)
theorem StepFU.turn {l : List (Nat × Nat)} {D : List (Option Tmp)} {Gs Hs : List Pd} {F0 : Nat → Value} {w0 : World} {i : Nat} {o : Oper} (j : Nat) (d : Tmp) (Ty : TypeId → Prop) (hg : o.guard = none) (hd : D[j]? = some (some d)) (h1u : oneUse l i j = true) (hu : AllUnder Ty (fun q => decide (q = i ∨ usedBy l q = some i)) 0 Gs) (hu2 : AllUnder Ty (fun q => decide (usedBy l q = some i)) 0 Hs)
    (h : ∀ (F : Nat → Value) (w : World), Kept (fun _ => False) w0 w → (∀ t, Nat.blt t N = true → some t ∉ D → F t = F0 t) → DepsF D (Told l Gs i) F w o.after.toList →
      Yields P (ev F) o w (fun v w' => Said Gs i v w' ∧ Said Hs j (F d) w' ∧ ∃ S, Kept S w w' ∧ (∀ x, S x → w0.heap.size ≤ x) ∧ ∀ x, S x → ∀ c e f, w.heap[x]? = some (.cells c e f) → Ty e)) : StepFU l N P D Gs Hs F0 w0 i o := by
  intro F w h1 h2 h3
  rw [hg]
  refine (h F w h1 h2 h3).mono' fun v w' ⟨hs, hs2, S, k, hn, ht⟩ => ⟨hs, h1.trans k (fun x hx hS => absurd (hn x hS) (by omega)), fun q x hj hU hx => ?_, fun q x hU hx => ?_, fun q d' hU hq => ?_⟩
  · exact hu.at q (by rw [Nat.zero_add]; exact decide_eq_false (fun e => e.elim hj hU)) x w w' S hx k ht
  · exact hu2.at q (by rw [Nat.zero_add]; exact decide_eq_false hU) x w w' S hx k ht
  · have e := oneUse_at h1u hU
    subst e
    rw [hd] at hq
    cases hq
    exact hs2
end
end Go.Proofs.Ythoafgfcoclkbaa
set_option maxRecDepth 100000
namespace Go.Proofs.Ythoafgfcoclkbaa
open Go.RowKit
structure Thg where
  A : World → Prop
  T : Nat → Prop
  B : (Nat → Prop) → World → Prop
  stA : ∀ (w w' : World) (S : Nat → Prop), A w → Kept S w w' → Apart T S → A w'
  stB : ∀ (w w' : World) (S T' : Nat → Prop), B T' w → Kept S w w' → Apart T' S → B T' w'
  liA : ∀ w, A w → Live w T
  liB : ∀ w T', B T' w → Live w T'
inductive Pt where
  | eq (v : Value)
  | thg (t : Thg) (v : Value)
def Pt.none : Pt := .eq undef
def saysT : Pt → Value
  | .eq v => v
  | .thg _ v => v
def curT (Gs : List Pt) (L : Nat → Bool) (Tf : Nat → Nat → Prop) (i : Nat) : Nat → Prop := match Gs.getD i Pt.none with
  | .eq _ => noB
  | .thg t _ => if L i = true then Tf i else t.T
def isT (Gs : List Pt) (L : Nat → Bool) (Tf : Nat → Nat → Prop) (w : World) (i : Nat) : Prop := match Gs.getD i Pt.none with
  | .eq _ => True
  | .thg t _ => if L i = true then t.B (Tf i) w else t.A w
structure JT (S : Nat → Prop) (w0 : World) (Gs : List Pt) (M : List (Nat × Nat)) (L : Nat → Bool) (v : Nat → Value) (Tf : Nat → Nat → Prop) (w : World) : Prop where
  kept : Kept S w0 w
  vals : ∀ i, L i = true → v i = saysT (Gs.getD i Pt.none)
  things : ∀ i, isT Gs L Tf w i
  grew : ∀ i t x, Gs.getD i Pt.none = .thg t x → L i = true → Grew w0 t.T (Tf i)
  apart : ∀ i j, i ≠ j → Apart (curT Gs L Tf i) (curT Gs L Tf j)
  clos : ∀ j i, (j, i) ∈ M → L j = true → L i = true
def OldT (S : Nat → Prop) (w0 : World) (Gs : List Pt) : Prop := (∀ i t x, Gs.getD i Pt.none = .thg t x → (∀ b, t.T b → S b) ∧ t.A w0) ∧ ∀ i j, i ≠ j → Apart (curT Gs (fun _ => false) (fun _ => noB) i) (curT Gs (fun _ => false) (fun _ => noB) j)
def FarT (T : Nat → Prop) : List Pt → Prop
  | [] => True
  | .thg t _ :: r => Apart T t.T ∧ FarT T r
  | .eq _ :: r => FarT T r
def OldsT (S : Nat → Prop) (w0 : World) : List Pt → Prop
  | [] => True
  | .thg t _ :: r => ((∀ b, t.T b → S b) ∧ t.A w0 ∧ FarT t.T r) ∧ OldsT S w0 r
  | .eq _ :: r => OldsT S w0 r
theorem FarT.at {T : Nat → Prop} : ∀ {Gs : List Pt}, FarT T Gs → ∀ i t x, Gs.getD i Pt.none = .thg t x → Apart T t.T := by
  intro Gs
  induction Gs with
  | nil => intro _ i t x h; cases h
  | cons g r ih =>
    intro h i t x e
    cases i with
    | zero =>
      have e : g = .thg t x := by simpa using e
      subst e; exact h.1
    | succ i =>
      have e : r.getD i Pt.none = .thg t x := by simpa using e
      cases g <;> first | exact ih h.2 i t x e | exact ih h i t x e
theorem OldsT.at {S : Nat → Prop} {w0 : World} : ∀ {Gs : List Pt}, OldsT S w0 Gs → ∀ i t x, Gs.getD i Pt.none = .thg t x → (∀ b, t.T b → S b) ∧ t.A w0 := by
  intro Gs
  induction Gs with
  | nil => intro _ i t x h; cases h
  | cons g r ih =>
    intro h i t x e
    cases i with
    | zero =>
      have e : g = .thg t x := by simpa using e
      subst e; exact ⟨h.1.1, h.1.2.1⟩
    | succ i =>
      have e : r.getD i Pt.none = .thg t x := by simpa using e
      cases g <;> first | exact ih h.2 i t x e | exact ih h i t x e
theorem OldsT.far {S : Nat → Prop} {w0 : World} : ∀ {Gs : List Pt}, OldsT S w0 Gs → ∀ i j t x t' x', i < j → Gs.getD i Pt.none = .thg t x → Gs.getD j Pt.none = .thg t' x' → Apart t.T t'.T := by
  intro Gs
  induction Gs with
  | nil => intro _ i j t x t' x' _ h; cases h
  | cons g r ih =>
    intro h i j t x t' x' hij e1 e2
    cases j with
    | zero => omega
    | succ j =>
      have e2 : r.getD j Pt.none = .thg t' x' := by simpa using e2
      cases i with
      | zero =>
        have e1 : g = .thg t x := by simpa using e1
        subst e1; exact h.1.2.2.at j t' x' e2
      | succ i =>
        have e1 : r.getD i Pt.none = .thg t x := by simpa using e1
        cases g <;> first | exact ih h.2 i j t x t' x' (by omega) e1 e2 | exact ih h i j t x t' x' (by omega) e1 e2
theorem OldsT.old {S : Nat → Prop} {w0 : World} {Gs : List Pt} (h : OldsT S w0 Gs) : OldT S w0 Gs := by
  refine ⟨fun i t x e => h.at i t x e, fun i j hij => ?_⟩
  unfold curT
  cases e1 : Gs.getD i Pt.none with
  | eq x => exact fun _ z => z.elim
  | thg t x =>
    cases e2 : Gs.getD j Pt.none with
    | eq y => exact fun _ _ z => z
    | thg t' y =>
      simp only [Bool.false_eq_true, if_false]
      rcases Nat.lt_or_gt_of_ne hij with hlt | hgt
      · exact h.far i j t x t' y hlt e1 e2
      · exact (h.far j i t' y t x hgt e2 e1).symm
def onT (w0 : World) (Gs : List Pt) (i : Nat) (w : World) : Prop := match Gs.getD i Pt.none with
  | .eq _ => True
  | .thg t _ => ∃ T', t.B T' w ∧ Grew w0 t.T T'
def ToldT (w0 : World) (Gs : List Pt) (M : List (Nat × Nat)) : Nat → Value → World → Prop := fun j v w => v = saysT (Gs.getD j Pt.none) ∧ onT w0 Gs j w ∧ ∀ i, (j, i) ∈ M → onT w0 Gs i w
def mustOk (os : List Oper) (M : List (Nat × Nat)) : Bool := M.all fun q => match os[q.1]? with | some o => o.after.toList.any (fun e => Region.binds .any e && (e.on == q.2 || M.contains (e.on, q.2))) | none => false
def LeftT (Gs : List Pt) (i : Nat) (w : World) (v : Value) (w' : World) : Prop := match Gs.getD i Pt.none with
  | .eq x => v = x ∧ Kept (fun _ => False) w w'
  | .thg t x => v = x ∧ Kept t.T w w' ∧ ∃ T', t.B T' w' ∧ Grew w t.T T'
theorem cur_live {S : Nat → Prop} {w0 w : World} {Gs : List Pt} {L : Nat → Bool} {v : Nat → Value} {Tf : Nat → Nat → Prop} {M : List (Nat × Nat)} (h : JT S w0 Gs M L v Tf w) (i : Nat) : Live w (curT Gs L Tf i) := by
  have := h.things i
  unfold isT at this
  unfold curT
  cases e : Gs.getD i Pt.none with
  | eq x => exact fun _ h => h.elim
  | thg t x =>
    rw [e] at this
    simp only at this ⊢
    cases hl : L i with
    | true => rw [hl] at this; rw [if_pos rfl] at this ⊢; exact t.liB w _ this
    | false => rw [hl] at this; rw [if_neg (by simp)] at this ⊢; exact t.liA w this
theorem cur_up {Gs : List Pt} {L : Nat → Bool} {Tf Tf' : Nat → Nat → Prop} {i j : Nat} (h : j ≠ i) (hT : Tf' j = Tf j) : curT Gs (fun k => if k = i then true else L k) Tf' j = curT Gs L Tf j := by
  unfold curT
  cases Gs.getD j Pt.none with
  | eq x => rfl
  | thg t x => simp only [if_neg h, hT]
theorem is_up {Gs : List Pt} {L : Nat → Bool} {Tf Tf' : Nat → Nat → Prop} {w : World} {i j : Nat} (h : j ≠ i) (hT : Tf' j = Tf j) : isT Gs (fun k => if k = i then true else L k) Tf' w j = isT Gs L Tf w j := by
  unfold isT
  cases Gs.getD j Pt.none with
  | eq x => rfl
  | thg t x => simp only [if_neg h, hT]
theorem is_kept {S' : Nat → Prop} {Gs : List Pt} {L : Nat → Bool} {Tf : Nat → Nat → Prop} {w w' : World} {j : Nat} (h : isT Gs L Tf w j) (k : Kept S' w w') (ha : Apart (curT Gs L Tf j) S') : isT Gs L Tf w' j := by
  unfold isT at h ⊢
  unfold curT at ha
  cases e : Gs.getD j Pt.none with
  | eq x => trivial
  | thg t x =>
    rw [e] at h ha
    simp only at h ha ⊢
    split
    · rename_i hl; rw [if_pos hl] at h ha; exact t.stB w w' S' _ h k ha
    · rename_i hl; rw [if_neg hl] at h ha; exact t.stA w w' S' h k ha
theorem JT.more {S : Nat → Prop} {w0 w w' : World} {Gs : List Pt} {M : List (Nat × Nat)} {L : Nat → Bool} {v : Nat → Value} {Tf : Nat → Nat → Prop} {i : Nat} {x : Value} (hO : OldT S w0 Gs) (h : JT S w0 Gs M L v Tf w) (hi : L i = false) (hM : ∀ k, (i, k) ∈ M → L k = true) (hx : LeftT Gs i w x w') : ∃ Tf', JT S w0 Gs M (upL L i) (upV v i x) Tf' w' := by
  have hcl : ∀ j k, (j, k) ∈ M → upL L i j = true → upL L i k = true := fun j k hm hj => by
    have hk : L k = true := by
      by_cases hji : j = i
      · subst hji; exact hM k hm
      · rw [show upL L i j = L j from if_neg hji] at hj; exact h.clos j k hm hj
    unfold upL; split <;> first | rfl | exact hk
  unfold LeftT at hx
  cases e : Gs.getD i Pt.none with
  | eq y =>
    rw [e] at hx
    refine ⟨Tf, h.kept.trans hx.2 (fun _ _ z => z.elim), fun j hj => ?_, fun j => ?_, fun j t z hj hl => ?_, fun a b hab => ?_, hcl⟩
    · by_cases hji : j = i
      · subst hji; rw [show upV v j x j = x from if_pos rfl, e]; exact hx.1
      · rw [show upL L i j = L j from if_neg hji] at hj; rw [show upV v i x j = v j from if_neg hji]; exact h.vals j hj
    · by_cases hji : j = i
      · subst hji; unfold isT; rw [e]; trivial
      · rw [show isT Gs (upL L i) Tf w' j = isT Gs L Tf w' j from is_up hji rfl]; exact is_kept (h.things j) hx.2 (fun _ _ z => z)
    · have hji : j ≠ i := fun z' => by rw [z', e] at hj; cases hj
      rw [show upL L i j = L j from if_neg hji] at hl; exact h.grew j t z hj hl
    · have hc : ∀ c, curT Gs (upL L i) Tf c = curT Gs L Tf c := fun c => by
        by_cases hci : c = i
        · subst hci; unfold curT; rw [e]
        · exact cur_up hci rfl
      rw [hc, hc]; exact h.apart a b hab
  | thg t y =>
    rw [e] at hx
    obtain ⟨hv, k, T', hB, hG⟩ := hx
    have hcur : curT Gs L Tf i = t.T := by unfold curT; rw [e]; simp [hi]
    have hTf : ∀ c, c ≠ i → (fun c => if c = i then T' else Tf c) c = Tf c := fun c hc => by simp [hc]
    have hci : curT Gs (upL L i) (fun c => if c = i then T' else Tf c) i = T' := by unfold curT; rw [e]; simp [upL]
    have hcj : ∀ c, c ≠ i → curT Gs (upL L i) (fun c => if c = i then T' else Tf c) c = curT Gs L Tf c := fun c hc => cur_up hc (hTf c hc)
    have hnew : ∀ c, c ≠ i → Apart T' (curT Gs L Tf c) := fun c hc => by
      have := h.apart i c (fun z => hc z.symm)
      rw [hcur] at this
      exact this.grew hG (cur_live h c)
    refine ⟨fun c => if c = i then T' else Tf c, h.kept.trans k (fun b _ hb => (hO.1 i t y e).1 b hb), fun j hj => ?_, fun j => ?_, fun j t' z hj hl => ?_, fun a b hab => ?_, hcl⟩
    · by_cases hji : j = i
      · subst hji; rw [show upV v j x j = x from if_pos rfl, e]; exact hv
      · rw [show upL L i j = L j from if_neg hji] at hj; rw [show upV v i x j = v j from if_neg hji]; exact h.vals j hj
    · by_cases hji : j = i
      · subst hji; unfold isT; rw [e]; simp only [upL]; simpa using hB
      · rw [show isT Gs (upL L i) (fun c => if c = i then T' else Tf c) w' j = isT Gs L Tf w' j from is_up hji (hTf j hji)]
        exact is_kept (h.things j) k (by have := h.apart j i hji; rw [hcur] at this; exact this)
    · by_cases hji : j = i
      · subst hji
        rw [e] at hj; cases hj
        simp only [if_true]
        exact fun b hb => (hG b hb).elim .inl (fun hge => .inr (Nat.le_trans h.kept.size hge))
      · rw [show upL L i j = L j from if_neg hji] at hl
        simp only [if_neg hji]; exact h.grew j t' z hj hl
    · by_cases hai : a = i
      · subst hai
        rw [hci, hcj b (fun z => hab z.symm)]; exact hnew b (fun z => hab z.symm)
      · rw [hcj a hai]
        by_cases hbi : b = i
        · subst hbi; rw [hci]; exact (hnew a hai).symm
        · rw [hcj b hbi]; exact h.apart a b hab
section
variable {P : Program} {N : Nat} {F : Nat → Value} {w : World} {Q : Exit → (Nat → Value) → World → Prop}
def StepFT (S : Nat → Prop) (M : List (Nat × Nat)) (N : Nat) (P : Program) (D : List (Option Tmp)) (Gs : List Pt) (F0 : Nat → Value) (w0 : World) (i : Nat) (o : Oper) : Prop :=
  ∀ (F : Nat → Value) (w : World), Kept S w0 w → (∀ t, Nat.blt t N = true → some t ∉ D → F t = F0 t) → DepsF D (ToldT w0 Gs M) F w o.after.toList → (∀ k t x, (k = i ∨ (k, i) ∈ M) → Gs.getD k Pt.none = .thg t x → t.A w) →
    match o.guard with
    | none => Yields P (ev F) o w (LeftT Gs i w)
    | some (j, want) => ∃ d, D.getD j none = some d ∧
      ((F d = .bool want ∧ Yields P (ev F) o w (LeftT Gs i w)) ∨ ((F d = .bool (!want) ∨ F d = undef) ∧ Gs.getD i Pt.none = .eq undef))
def StepsFT (S : Nat → Prop) (M : List (Nat × Nat)) (N : Nat) (P : Program) (D : List (Option Tmp)) (Gs : List Pt) (F0 : Nat → Value) (w0 : World) : Nat → List Oper → Prop
  | _, [] => True
  | i, o :: r => StepFT S M N P D Gs F0 w0 i o ∧ StepsFT S M N P D Gs F0 w0 (i + 1) r
theorem StepFT.one {S : Nat → Prop} {M : List (Nat × Nat)} {D : List (Option Tmp)} {Gs : List Pt} {F0 : Nat → Value} {w0 : World} {i : Nat} {o : Oper} (hg : o.guard = none)
    (h : ∀ (F : Nat → Value) (w : World), Kept S w0 w → (∀ t, Nat.blt t N = true → some t ∉ D → F t = F0 t) → DepsF D (ToldT w0 Gs M) F w o.after.toList → Yields P (ev F) o w (LeftT Gs i w)) : StepFT S M N P D Gs F0 w0 i o := by
  intro F w h1 h2 h3 _
  rw [hg]; exact h F w h1 h2 h3
theorem StepFT.turn {S : Nat → Prop} {M : List (Nat × Nat)} {D : List (Option Tmp)} {Gs : List Pt} {F0 : Nat → Value} {w0 : World} {i : Nat} {t : Thg} {x : Value} {o : Oper} (hg : o.guard = none) (he : Gs.getD i Pt.none = .thg t x)
    (h : ∀ (F : Nat → Value) (w : World), Kept S w0 w → (∀ t, Nat.blt t N = true → some t ∉ D → F t = F0 t) → DepsF D (ToldT w0 Gs M) F w o.after.toList → t.A w → Yields P (ev F) o w (fun v w' => v = x ∧ Kept t.T w w' ∧ ∃ T', t.B T' w' ∧ Grew w t.T T')) : StepFT S M N P D Gs F0 w0 i o := by
  intro F w h1 h2 h3 h4
  rw [hg]
  refine (h F w h1 h2 h3 (h4 i t x (.inl rfl) he)).mono' fun v w' hx => ?_
  unfold LeftT; rw [he]; exact hx
theorem StepFT.step {S : Nat → Prop} {M : List (Nat × Nat)} {os : List Oper} {D : List (Option Tmp)} {Gs : List Pt} {w0 : World} {i : Nat} {o : Oper} {a0 : Act} (hO : OldT S w0 Gs) (hmo : mustOk os M = true) (hio : os[i]? = some o) (ha : Fr N F a0) (h : StepFT S M N P D Gs F w0 i o) : StepJ os P D (fun L v w => ∃ Tf, JT S w0 Gs M L v Tf w) a0 i o := by
  rintro L v a w ⟨Tf, hJ⟩ hi hdone hout hhere _
  have hdeps : DepsF D (ToldT w0 Gs M) (fun t => a.tmps.getD t undef) w o.after.toList := by
    refine Deps.toF (Deps.mk fun e he hb d hd => ?_)
    have hl := hdone e he hb
    have hDe : D[e.on]? = some (some d) := by
      unfold List.getD at hd
      cases hq : D[e.on]? with
      | none => rw [hq] at hd; cases hd
      | some y => rw [hq] at hd; simp at hd; rw [hd]
    rw [hhere e.on d hl hDe, hJ.vals e.on hl]
    have key : ∀ c, L c = true → onT w0 Gs c w := fun c hc => by
      have ht := hJ.things c
      unfold onT
      unfold isT at ht
      cases e' : Gs.getD c Pt.none with
      | eq y => trivial
      | thg t y =>
        rw [e'] at ht
        simp only [hc, if_true] at ht
        exact ⟨_, ht, hJ.grew c t y e' hc⟩
    exact ⟨rfl, key _ hl, fun c hc => key c (hJ.clos _ _ hc hl)⟩
  have hM : ∀ k, (i, k) ∈ M → L k = true := fun k hk => by
    have := List.all_eq_true.1 hmo _ hk
    simp only [hio] at this
    obtain ⟨e, he, hb⟩ := List.any_eq_true.1 this
    simp only [Bool.and_eq_true, Bool.or_eq_true, beq_iff_eq] at hb
    have hl := hdone e he hb.1
    rcases hb.2 with h1 | h1
    · rw [← h1]; exact hl
    · exact hJ.clos _ _ (by simpa using h1) hl
  have h1 := h (fun t => a.tmps.getD t undef) w hJ.kept (fun t hb ht => by rw [← ha.at' t hb]; exact hout t ht) hdeps (fun k t x hk e => by
    have hLk : L k = false := by
      rcases hk with rfl | hk
      · exact hi
      · cases hL : L k with
        | false => rfl
        | true => have := hJ.clos k i hk hL; rw [hi] at this; cases this
    have := hJ.things k
    unfold isT at this
    rw [e] at this
    simpa [hLk] using this)
  rw [← eval_ev a] at h1
  unfold goes
  cases hg : o.guard with
  | none => rw [hg] at h1; exact ⟨fun _ => h1.mono' fun x w' hx => hJ.more hO hi hM hx, fun e => by cases e⟩
  | some g =>
    obtain ⟨j, want⟩ := g
    rw [hg] at h1
    obtain ⟨d, hd, h1⟩ := h1
    simp only [hd]
    have hev : a.eval (.tmp d) = a.tmps.getD d undef := rfl
    rcases h1 with ⟨hv, hy⟩ | ⟨hv, hs⟩
    · rw [hev, hv]; exact ⟨fun _ => hy.mono' fun x w' hx => hJ.more hO hi hM hx, fun e => by simp at e⟩
    · refine ⟨fun e => ?_, fun _ => hJ.more hO hi hM (by unfold LeftT; rw [hs]; exact ⟨rfl, Kept.refl _ _⟩)⟩
      rcases hv with hv | hv
      · rw [hev, hv] at e; cases want <;> simp at e
      · rw [hev, hv] at e; simp [undef] at e
theorem StepsFT.steps {S : Nat → Prop} {M : List (Nat × Nat)} {all : List Oper} {D : List (Option Tmp)} {Gs : List Pt} {w0 : World} {a0 : Act} (hO : OldT S w0 Gs) (hmo : mustOk all M = true) (ha : Fr N F a0) : ∀ {os : List Oper} {i : Nat}, (∀ k o, os[k]? = some o → all[i + k]? = some o) → StepsFT S M N P D Gs F w0 i os → StepsJ all P D (fun L v w => ∃ Tf, JT S w0 Gs M L v Tf w) a0 i os := by
  intro os
  induction os with
  | nil => intro i _ _; exact trivial
  | cons o r ih =>
    intro i hat h
    exact ⟨h.1.step hO hmo (hat 0 o rfl) ha, ih (fun k o' hk => by have := hat (k + 1) o' hk; rwa [show i + (k + 1) = i + 1 + k by omega] at this) h.2⟩
end
end Go.Proofs.Ythoafgfcoclkbaa
set_option maxRecDepth 100000
namespace Go.Proofs.Ythoafgfcoclkbaa
open Go.RowKit
inductive Pc where
  | eq (v : Value)
  | turn (j : Nat)
  | blk (t : TypeId) (zs : List Value) (k : Nat) (us : List Value)
  | told (p : Nat) (t : TypeId) (zs us : List Value)
def Pc.none : Pc := .eq undef
def isBlk : Pc → Bool
  | .blk _ _ _ _ => true
  | _ => false
def HoldC (n0 : Nat) (p : Pc) (L : Nat → Bool) (v : Value) (w : World) : Prop := match p with
  | .eq x => v = x
  | .turn _ => True
  | .told _ _ _ _ => True
  | .blk t zs k us => ∃ q, v = .pointer (some ⟨q, 0, none⟩) ∧ n0 ≤ q ∧ Stc w q t (if L k = true then us else zs)
def NotTold (p : Nat) : List Pc → Prop
  | [] => True
  | .told q _ _ _ :: r => p ≠ q ∧ NotTold p r
  | .eq _ :: r => NotTold p r
  | .turn _ :: r => NotTold p r
  | .blk _ _ _ _ :: r => NotTold p r
def Olds (S : Nat → Prop) (w0 : World) : List Pc → Prop
  | [] => True
  | .told p t zs _ :: r => (S p ∧ Stc w0 p t zs ∧ NotTold p r) ∧ Olds S w0 r
  | .eq _ :: r => Olds S w0 r
  | .turn _ :: r => Olds S w0 r
  | .blk _ _ _ _ :: r => Olds S w0 r
theorem NotTold.at {p : Nat} : ∀ {Gs : List Pc}, NotTold p Gs → ∀ i q t zs us, Gs.getD i Pc.none = .told q t zs us → p ≠ q := by
  intro Gs
  induction Gs with
  | nil => intro _ i q t zs us h; cases h
  | cons g r ih =>
    intro h i q t zs us e
    cases i with
    | zero =>
      have e : g = .told q t zs us := by simpa using e
      subst e; exact h.1
    | succ i =>
      have e : r.getD i Pc.none = .told q t zs us := by simpa using e
      cases g <;> first | exact ih h.2 i q t zs us e | exact ih h i q t zs us e
theorem Olds.at {S : Nat → Prop} {w0 : World} : ∀ {Gs : List Pc}, Olds S w0 Gs → ∀ i p t zs us, Gs.getD i Pc.none = .told p t zs us → S p ∧ Stc w0 p t zs := by
  intro Gs
  induction Gs with
  | nil => intro _ i q t zs us h; cases h
  | cons g r ih =>
    intro h i q t zs us e
    cases i with
    | zero =>
      have e : g = .told q t zs us := by simpa using e
      subst e; exact ⟨h.1.1, h.1.2.1⟩
    | succ i =>
      have e : r.getD i Pc.none = .told q t zs us := by simpa using e
      cases g <;> first | exact ih h.2 i q t zs us e | exact ih h i q t zs us e
theorem Olds.ne {S : Nat → Prop} {w0 : World} : ∀ {Gs : List Pc}, Olds S w0 Gs → ∀ i j p t zs us p' t' zs' us', i ≠ j → Gs.getD i Pc.none = .told p t zs us → Gs.getD j Pc.none = .told p' t' zs' us' → p ≠ p' := by
  intro Gs
  induction Gs with
  | nil => intro _ i j p t zs us p' t' zs' us' _ h; cases h
  | cons g r ih =>
    intro h i j p t zs us p' t' zs' us' hij e1 e2
    cases i with
    | zero =>
      have e1 : g = .told p t zs us := by simpa using e1
      subst e1
      cases j with
      | zero => exact absurd rfl hij
      | succ j => exact h.1.2.2.at j p' t' zs' us' (by simpa using e2)
    | succ i =>
      cases j with
      | zero =>
        have e2 : g = .told p' t' zs' us' := by simpa using e2
        subst e2
        exact fun e => h.1.2.2.at i p t zs us (by simpa using e1) e.symm
      | succ j =>
        have hr : Olds S w0 r := by cases g <;> first | exact h.2 | exact h
        exact ih hr i j p t zs us p' t' zs' us' (fun e => hij (by rw [e])) (by simpa using e1) (by simpa using e2)
structure JC (S : Nat → Prop) (w0 : World) (Gs : List Pc) (L : Nat → Bool) (v : Nat → Value) (w : World) : Prop where
  kept : Kept S w0 w
  olds : ∀ i p t zs us, Gs.getD i Pc.none = .told p t zs us → Stc w p t (if L i = true then us else zs)
  holds : ∀ i, L i = true → HoldC w0.heap.size (Gs.getD i Pc.none) L (v i) w
  apart : ∀ i j, i ≠ j → L i = true → L j = true → isBlk (Gs.getD i Pc.none) = true → isBlk (Gs.getD j Pc.none) = true → v i ≠ v j
  clos : ∀ k j, L k = true → Gs.getD k Pc.none = .turn j → L j = true
def wfAt (os : List Oper) (D : List (Option Tmp)) (Gs : List Pc) (i : Nat) : Pc → Bool
  | .eq _ => true
  | .told _ _ _ _ => true
  | .turn j => (match Gs.getD j Pc.none with | .blk _ _ k _ => k == i | _ => false) && (match D.getD j none with | some _ => true | none => false) && (match os[i]? with | some o => waitsOn o j | none => false)
  | .blk _ _ k _ => match Gs.getD k Pc.none with | .turn j => j == i | _ => false
def wfC (os : List Oper) (D : List (Option Tmp)) (Gs : List Pc) : Bool := (List.range Gs.length).all fun i => wfAt os D Gs i (Gs.getD i Pc.none)
theorem wfC_at {os : List Oper} {D : List (Option Tmp)} {Gs : List Pc} (h : wfC os D Gs = true) (i : Nat) : wfAt os D Gs i (Gs.getD i Pc.none) = true := by
  by_cases hi : i < Gs.length
  · exact List.all_eq_true.1 h i (List.mem_range.2 hi)
  · have : Gs.getD i Pc.none = Pc.none := by simp [List.getD, List.getElem?_eq_none (show Gs.length ≤ i by omega)]
    rw [this]; rfl
theorem wf_blk {os : List Oper} {D : List (Option Tmp)} {Gs : List Pc} (h : wfC os D Gs = true) {i k : Nat} {t : TypeId} {zs us : List Value} (e : Gs.getD i Pc.none = .blk t zs k us) : Gs.getD k Pc.none = .turn i := by
  have := wfC_at h i
  rw [e] at this
  simp only [wfAt] at this
  split at this
  · rename_i j hj; rw [hj]; have : j = i := by simpa using this
    rw [this]
  · cases this
def ToldC (n0 : Nat) (Gs : List Pc) (i : Nat) : Nat → Value → World → Prop := fun j v w => match Gs.getD j Pc.none with
  | .eq x => v = x
  | .turn _ => True
  | .told _ _ _ _ => True
  | .blk t zs k _ => k = i → ∃ q, v = .pointer (some ⟨q, 0, none⟩) ∧ n0 ≤ q ∧ Stc w q t zs
def LeftC (Gs : List Pc) (D : List (Option Tmp)) (i : Nat) (ρ : Operand → Value) (w : World) (v : Value) (w' : World) : Prop := match Gs.getD i Pc.none with
  | .eq x => v = x ∧ Kept (fun _ => False) w w'
  | .blk t zs _ _ => ∃ q, v = .pointer (some ⟨q, 0, none⟩) ∧ w.heap.size ≤ q ∧ Stc w' q t zs ∧ Kept (fun _ => False) w w'
  | .told p t _ us => Stc w' p t us ∧ Kept (onB p) w w'
  | .turn j => ∃ d q, D.getD j none = some d ∧ ρ (.tmp d) = .pointer (some ⟨q, 0, none⟩) ∧ (∀ t zs us, Gs.getD j Pc.none = .blk t zs i us → Stc w' q t us) ∧ Kept (onB q) w w'
section
variable {P : Program} {N : Nat} {F : Nat → Value} {w : World} {Q : Exit → (Nat → Value) → World → Prop}
def StepFC (S : Nat → Prop) (N : Nat) (P : Program) (D : List (Option Tmp)) (Gs : List Pc) (F0 : Nat → Value) (w0 : World) (i : Nat) (o : Oper) : Prop :=
  ∀ (F : Nat → Value) (w : World), Kept S w0 w → (∀ t, Nat.blt t N = true → some t ∉ D → F t = F0 t) → DepsF D (ToldC w0.heap.size Gs i) F w o.after.toList → (∀ p t zs us, Gs.getD i Pc.none = .told p t zs us → Stc w p t zs) →
    match o.guard with
    | none => Yields P (ev F) o w (LeftC Gs D i (ev F) w)
    | some (j, want) => ∃ d, D.getD j none = some d ∧
      ((F d = .bool want ∧ Yields P (ev F) o w (LeftC Gs D i (ev F) w)) ∨ ((F d = .bool (!want) ∨ F d = undef) ∧ Gs.getD i Pc.none = .eq undef))
def StepsFC (S : Nat → Prop) (N : Nat) (P : Program) (D : List (Option Tmp)) (Gs : List Pc) (F0 : Nat → Value) (w0 : World) : Nat → List Oper → Prop
  | _, [] => True
  | i, o :: r => StepFC S N P D Gs F0 w0 i o ∧ StepsFC S N P D Gs F0 w0 (i + 1) r
theorem StepFC.one {S : Nat → Prop} {D : List (Option Tmp)} {Gs : List Pc} {F0 : Nat → Value} {w0 : World} {i : Nat} {o : Oper} (hg : o.guard = none)
    (h : ∀ (F : Nat → Value) (w : World), Kept S w0 w → (∀ t, Nat.blt t N = true → some t ∉ D → F t = F0 t) → DepsF D (ToldC w0.heap.size Gs i) F w o.after.toList → Yields P (ev F) o w (LeftC Gs D i (ev F) w)) : StepFC S N P D Gs F0 w0 i o := by
  intro F w h1 h2 h3 _
  rw [hg]
  exact h F w h1 h2 h3
theorem StepFC.old {S : Nat → Prop} {D : List (Option Tmp)} {Gs : List Pc} {F0 : Nat → Value} {w0 : World} {i p : Nat} {t : TypeId} {zs us : List Value} {o : Oper} (hg : o.guard = none) (he : Gs.getD i Pc.none = .told p t zs us)
    (h : ∀ (F : Nat → Value) (w : World), Kept S w0 w → (∀ t, Nat.blt t N = true → some t ∉ D → F t = F0 t) → DepsF D (ToldC w0.heap.size Gs i) F w o.after.toList → Stc w p t zs → Yields P (ev F) o w (fun _ w' => Stc w' p t us ∧ Kept (onB p) w w')) : StepFC S N P D Gs F0 w0 i o := by
  intro F w h1 h2 h3 h4
  rw [hg]
  refine (h F w h1 h2 h3 (h4 _ _ _ _ he)).mono' fun v w' hx => ?_
  unfold LeftC
  rw [he]; exact hx
theorem upL_here {L : Nat → Bool} {i : Nat} : upL L i i = true := if_pos rfl
theorem upL_ne {L : Nat → Bool} {i j : Nat} (h : j ≠ i) : upL L i j = L j := if_neg h
theorem upV_here {v : Nat → Value} {i : Nat} {x : Value} : upV v i x i = x := if_pos rfl
theorem upV_ne {v : Nat → Value} {i j : Nat} {x : Value} (h : j ≠ i) : upV v i x j = v j := if_neg h
theorem getElem_getD {α : Type} {l : List α} {d x : α} {i : Nat} (h : l.getD i d = x) (hn : x ≠ d) : l[i]? = some x := by
  unfold List.getD at h
  cases hq : l[i]? with
  | none => rw [hq] at h; exact absurd h.symm hn
  | some y => rw [hq] at h; simpa using h
theorem JC.more {S : Nat → Prop} {os : List Oper} {D : List (Option Tmp)} {Gs : List Pc} {w0 w w' : World} {L : Nat → Bool} {v : Nat → Value} {i : Nat} {x : Value} (hwf : wfC os D Gs = true) (h : JC S w0 Gs L v w) (hi : L i = false) (k : Kept (fun _ => False) w w')
    (hnt : ∀ j, Gs.getD i Pc.none ≠ .turn j) (hnd : ∀ p t zs us, Gs.getD i Pc.none ≠ .told p t zs us) (hx : HoldC w0.heap.size (Gs.getD i Pc.none) (upL L i) x w') (hb : isBlk (Gs.getD i Pc.none) = true → ∃ q, x = .pointer (some ⟨q, 0, none⟩) ∧ w.heap.size ≤ q) : JC S w0 Gs (upL L i) (upV v i x) w' := by
  have hkeep : ∀ j, L j = true → HoldC w0.heap.size (Gs.getD j Pc.none) (upL L i) (v j) w' := by
    intro j hj
    have := h.holds j hj
    revert this
    cases e : Gs.getD j Pc.none with
    | eq y => exact id
    | turn y => exact id
    | told y1 y2 y3 y4 => exact id
    | blk t zs kk us =>
      rintro ⟨q, e1, e2, e3⟩
      have hki : kk ≠ i := fun e' => hnt j (by rw [← e']; exact wf_blk hwf e)
      refine ⟨q, e1, e2, ?_⟩
      rw [upL_ne hki]
      exact e3.all k id
  refine ⟨h.kept.trans k (fun _ _ x => x.elim), fun j p t zs us hj => ?_, fun j hj => ?_, fun a b hab ha hb' hA hB => ?_, fun a b ha hab => ?_⟩
  · have hji : j ≠ i := fun e => hnd p t zs us (by rw [← e]; exact hj)
    rw [upL_ne hji]
    exact (h.olds j p t zs us hj).all k id
  · by_cases hji : j = i
    · subst hji; rw [upV_here]; exact hx
    · rw [upL_ne hji] at hj; rw [upV_ne hji]; exact hkeep j hj
  · have hnew : ∀ c, c ≠ i → L c = true → isBlk (Gs.getD c Pc.none) = true → isBlk (Gs.getD i Pc.none) = true → v c ≠ x := by
      intro c _ hc hC hI e
      obtain ⟨q, e1, e2⟩ := hb hI
      have := h.holds c hc
      revert this hC
      cases e' : Gs.getD c Pc.none with
      | eq y => intro hC; cases hC
      | turn y => intro hC; cases hC
      | told y1 y2 y3 y4 => intro hC; cases hC
      | blk t zs kk us =>
        rintro - ⟨q', f1, f2, f3⟩
        rw [f1, e1] at e
        cases e
        have := f3.lt
        omega
    by_cases hai : a = i
    · subst hai
      have hba : b ≠ a := fun e => hab e.symm
      rw [upL_ne hba] at hb'
      rw [upV_here, upV_ne hba]
      exact fun e => hnew b hba hb' hB hA e.symm
    · rw [upL_ne hai] at ha
      rw [upV_ne hai]
      by_cases hbi : b = i
      · subst hbi; rw [upV_here]; exact hnew a hai ha hA hB
      · rw [upL_ne hbi] at hb'; rw [upV_ne hbi]; exact h.apart a b hab ha hb' hA hB
  · by_cases hai : a = i
    · subst hai; exact absurd hab (hnt b)
    · rw [upL_ne hai] at ha
      have := h.clos a b ha hab
      by_cases hbi : b = i
      · subst hbi; exact upL_here
      · rw [upL_ne hbi]; exact this
theorem JC.turned {S : Nat → Prop} {os : List Oper} {D : List (Option Tmp)} {Gs : List Pc} {w0 w w' : World} {L : Nat → Bool} {v : Nat → Value} {i j q : Nat} {x : Value} (hwf : wfC os D Gs = true) (hO : Olds S w0 Gs) (h : JC S w0 Gs L v w) (hi : L i = false) (hj : L j = true) (he : Gs.getD i Pc.none = .turn j)
    (hv : v j = .pointer (some ⟨q, 0, none⟩)) (hq : ∀ t zs us, Gs.getD j Pc.none = .blk t zs i us → Stc w' q t us) (k : Kept (onB q) w w') : JC S w0 Gs (upL L i) (upV v i x) w' := by
  have hw := wfC_at hwf i
  rw [he] at hw
  simp only [wfAt, Bool.and_eq_true] at hw
  have hn0 : w0.heap.size ≤ q := by
    have := h.holds j hj
    revert this
    obtain ⟨⟨h1, _⟩, _⟩ := hw
    cases e : Gs.getD j Pc.none with
    | eq y => rw [e] at h1; cases h1
    | turn y => rw [e] at h1; cases h1
    | told y1 y2 y3 y4 => rw [e] at h1; cases h1
    | blk t zs kk us =>
      rintro ⟨q', e1, e2, _⟩
      rw [hv] at e1; cases e1; exact e2
  have hjB : isBlk (Gs.getD j Pc.none) = true := by
    obtain ⟨⟨h1, _⟩, _⟩ := hw
    cases e : Gs.getD j Pc.none with
    | eq y => rw [e] at h1; cases h1
    | turn y => rw [e] at h1; cases h1
    | told y1 y2 y3 y4 => rw [e] at h1; cases h1
    | blk t zs kk us => rfl
  refine ⟨h.kept.trans k (fun b hb e => by cases e; omega), fun a p t zs us ha => ?_, fun a ha => ?_, fun a b hab ha hb hA hB => ?_, fun a b ha hab => ?_⟩
  · have hai : a ≠ i := fun e => by rw [e, he] at ha; cases ha
    rw [upL_ne hai]
    exact (h.olds a p t zs us ha).all k (fun e => by have := (hO.at a p t zs us ha).2.lt; rw [show p = q from e] at this; omega)
  · by_cases hai : a = i
    · subst hai; rw [upV_here, he]; exact trivial
    · rw [upL_ne hai] at ha; rw [upV_ne hai]
      have := h.holds a ha
      revert this
      cases e : Gs.getD a Pc.none with
      | eq y => exact id
      | turn y => exact id
      | told y1 y2 y3 y4 => exact id
      | blk t zs kk us =>
        rintro ⟨q', e1, e2, e3⟩
        have hk := wf_blk hwf e
        by_cases haj : a = j
        · subst haj
          have hki : kk = i := by
            obtain ⟨⟨h1, _⟩, _⟩ := hw
            rw [e] at h1; simpa using h1
          subst hki
          rw [hv] at e1; cases e1
          refine ⟨q, hv, hn0, ?_⟩
          rw [if_pos upL_here]
          exact hq t zs us e
        · have hki : kk ≠ i := fun e' => by rw [e', he] at hk; cases hk; exact haj rfl
          refine ⟨q', e1, e2, ?_⟩
          rw [upL_ne hki]
          refine e3.all k (fun e' => ?_)
          have := h.apart a j haj ha hj (by rw [e]; rfl) hjB
          rw [e1, hv] at this
          exact this (by rw [show q' = q from e'])
  · have hni : ∀ c, isBlk (Gs.getD c Pc.none) = true → c ≠ i := fun c hc e => by rw [e, he] at hc; cases hc
    rw [upV_ne (hni a hA), upV_ne (hni b hB)]
    rw [upL_ne (hni a hA)] at ha
    rw [upL_ne (hni b hB)] at hb
    exact h.apart a b hab ha hb hA hB
  · by_cases hai : a = i
    · subst hai
      rw [he] at hab; cases hab
      by_cases hji : j = a
      · subst hji; exact upL_here
      · rw [upL_ne hji]; exact hj
    · rw [upL_ne hai] at ha
      have := h.clos a b ha hab
      by_cases hbi : b = i
      · subst hbi; exact upL_here
      · rw [upL_ne hbi]; exact this
theorem JC.oldTurned {S : Nat → Prop} {os : List Oper} {D : List (Option Tmp)} {Gs : List Pc} {w0 w w' : World} {L : Nat → Bool} {v : Nat → Value} {i p : Nat} {t : TypeId} {zs us : List Value} {x : Value} (hwf : wfC os D Gs = true) (hO : Olds S w0 Gs) (h : JC S w0 Gs L v w) (he : Gs.getD i Pc.none = .told p t zs us)
    (hq : Stc w' p t us) (k : Kept (onB p) w w') : JC S w0 Gs (upL L i) (upV v i x) w' := by
  have hp := hO.at i p t zs us he
  have hni : ∀ c, isBlk (Gs.getD c Pc.none) = true → c ≠ i := fun c hc e => by rw [e, he] at hc; cases hc
  refine ⟨h.kept.trans k (fun b hb e => by cases e; exact hp.1), fun a p' t' zs' us' ha => ?_, fun a ha => ?_, fun a b hab ha hb hA hB => ?_, fun a b ha hab => ?_⟩
  · by_cases hai : a = i
    · subst hai
      rw [he] at ha; cases ha
      rw [if_pos upL_here]; exact hq
    · rw [upL_ne hai]
      exact (h.olds a p' t' zs' us' ha).all k (fun e => hO.ne a i p' t' zs' us' p t zs us hai ha he e)
  · by_cases hai : a = i
    · subst hai; rw [upV_here, he]; exact trivial
    · rw [upL_ne hai] at ha; rw [upV_ne hai]
      have := h.holds a ha
      revert this
      cases e : Gs.getD a Pc.none with
      | eq y => exact id
      | turn y => exact id
      | told y1 y2 y3 y4 => exact id
      | blk t zs kk us =>
        rintro ⟨q', e1, e2, e3⟩
        have hk := wf_blk hwf e
        have hki : kk ≠ i := fun e' => by rw [e', he] at hk; cases hk
        refine ⟨q', e1, e2, ?_⟩
        rw [upL_ne hki]
        exact e3.all k (fun e' => by have := hp.2.lt; rw [show q' = p from e'] at e2; omega)
  · rw [upV_ne (hni a hA), upV_ne (hni b hB)]
    rw [upL_ne (hni a hA)] at ha
    rw [upL_ne (hni b hB)] at hb
    exact h.apart a b hab ha hb hA hB
  · have hai : a ≠ i := fun e => by rw [e, he] at hab; cases hab
    rw [upL_ne hai] at ha
    have := h.clos a b ha hab
    by_cases hbi : b = i
    · subst hbi; exact upL_here
    · rw [upL_ne hbi]; exact this
theorem StepFC.step {S : Nat → Prop} {os : List Oper} {D : List (Option Tmp)} {Gs : List Pc} {w0 : World} {i : Nat} {o : Oper} {a0 : Act} (hwf : wfC os D Gs = true) (hO : Olds S w0 Gs) (ho : os[i]? = some o) (ha : Fr N F a0) (h : StepFC S N P D Gs F w0 i o) : StepJ os P D (JC S w0 Gs) a0 i o := by
  intro L v a w hJ hi hdone hout hhere _
  have hdeps : DepsF D (ToldC w0.heap.size Gs i) (fun t => a.tmps.getD t undef) w o.after.toList := by
    refine Deps.toF (Deps.mk fun e he hb d hd => ?_)
    have hl := hdone e he hb
    have hDe := getElem_getD hd (by simp)
    have hv := hhere e.on d hl hDe
    rw [hv]
    have := hJ.holds e.on hl
    unfold ToldC
    revert this
    cases e' : Gs.getD e.on Pc.none with
    | eq y => exact id
    | turn y => exact id
    | told y1 y2 y3 y4 => exact id
    | blk t zs kk us =>
      rintro ⟨q, e1, e2, e3⟩ hk
      refine ⟨q, e1, e2, ?_⟩
      subst hk
      rw [hi, if_neg (by simp)] at e3
      exact e3
  have h1 := h (fun t => a.tmps.getD t undef) w hJ.kept (fun t hb ht => by rw [← ha.at' t hb]; exact hout t ht) hdeps (fun p t zs us e => by have := hJ.olds i p t zs us e; rw [hi, if_neg (by simp)] at this; exact this)
  rw [← eval_ev a] at h1
  have hleft : ∀ x w', LeftC Gs D i a.eval w x w' → JC S w0 Gs (upL L i) (upV v i x) w' := by
    intro x w' hx
    unfold LeftC at hx
    cases e : Gs.getD i Pc.none with
    | eq y =>
      rw [e] at hx
      exact hJ.more hwf hi hx.2 (fun j hj => by rw [e] at hj; cases hj) (fun _ _ _ _ hj => by rw [e] at hj; cases hj) (by rw [e]; exact hx.1) (by rw [e]; intro hb; cases hb)
    | blk t zs kk us =>
      rw [e] at hx
      obtain ⟨q, e1, e2, e3, e4⟩ := hx
      have hk := wf_blk hwf e
      have hki : kk ≠ i := fun e' => by rw [e', e] at hk; cases hk
      have hLk : L kk = false := by
        cases hq : L kk with
        | false => rfl
        | true => have := hJ.clos kk i hq hk; rw [hi] at this; cases this
      refine hJ.more hwf hi e4 (fun j hj => by rw [e] at hj; cases hj) (fun _ _ _ _ hj => by rw [e] at hj; cases hj) ?_ (fun _ => ⟨q, e1, e2⟩)
      rw [e]
      refine ⟨q, e1, Nat.le_trans hJ.kept.size e2, ?_⟩
      rw [upL_ne hki, hLk, if_neg (by simp)]
      exact e3
    | told p t zs us =>
      rw [e] at hx
      exact hJ.oldTurned hwf hO e hx.1 hx.2
    | turn j =>
      rw [e] at hx
      obtain ⟨d, q, hd, e1, e2, e3⟩ := hx
      have hw := wfC_at hwf i
      rw [e] at hw
      simp only [wfAt, Bool.and_eq_true, ho] at hw
      obtain ⟨ed, hed, hb, hon⟩ := waitsOn_iff.1 hw.2
      have hLj := hdone ed hed hb
      rw [hon] at hLj
      have hv := hhere j d hLj (getElem_getD hd (by simp))
      exact hJ.turned hwf hO hi hLj e (by rw [← hv]; exact e1) e2 e3
  unfold goes
  cases hg : o.guard with
  | none => rw [hg] at h1; exact ⟨fun _ => h1.mono' hleft, fun e => by cases e⟩
  | some g =>
    obtain ⟨j, want⟩ := g
    rw [hg] at h1
    obtain ⟨d, hd, h1⟩ := h1
    simp only [hd]
    have hev : a.eval (.tmp d) = a.tmps.getD d undef := rfl
    rcases h1 with ⟨hv, hy⟩ | ⟨hv, hs⟩
    · rw [hev, hv]; exact ⟨fun _ => hy.mono' hleft, fun e => by simp at e⟩
    · refine ⟨fun e => ?_, fun _ => hJ.more hwf hi (Kept.refl _ _) (fun j hj => by rw [hs] at hj; cases hj) (fun _ _ _ _ hj => by rw [hs] at hj; cases hj) (by rw [hs]; rfl) (by rw [hs]; intro hb; cases hb)⟩
      rcases hv with hv | hv
      · rw [hev, hv] at e; cases want <;> simp at e
      · rw [hev, hv] at e; simp [undef] at e
theorem StepsFC.steps {S : Nat → Prop} {all : List Oper} {D : List (Option Tmp)} {Gs : List Pc} {w0 : World} {a0 : Act} (hwf : wfC all D Gs = true) (hO : Olds S w0 Gs) (ha : Fr N F a0) : ∀ {os : List Oper} {i : Nat}, (∀ k o, os[k]? = some o → all[i + k]? = some o) → StepsFC S N P D Gs F w0 i os → StepsJ all P D (JC S w0 Gs) a0 i os := by
  intro os
  induction os with
  | nil => intro i _ _; exact trivial
  | cons o r ih =>
    intro i hat h
    exact ⟨h.1.step hwf hO (hat 0 o rfl) ha, ih (fun k o' hk => by have := hat (k + 1) o' hk; rwa [show i + (k + 1) = i + 1 + k by omega] at this) h.2⟩
end
theorem y_storeCel {P : Program} {ρ : Operand → Value} {o : Oper} {w : World} {R : Value → World → Prop} {ty t : TypeId} {x y : Operand} {p : Nat} {v v' : Value} (ho : o.op = .store ty x y) (hx : ρ x = .pointer (some ⟨p, 0, none⟩)) (hy : ρ y = v') (hB : Cel w p t v) (hv : oneC v' = true)
    (hs : (P.info? ty).map (·.size) = some 1)
    (h : ∀ u w', Cel w' p t v' → Kept (onB p) w w' → R u w') : Yields P ρ o w R := by
  have hc := hB.cell
  have hf : w.frozen? ⟨p, 0, none⟩ = false := frozen_of_heap hB
  cases hq : P.info? ty with
  | none => simp [hq] at hs
  | some i =>
    have hs' : i.size = 1 := by simpa [hq] using hs
    have e : (execOp ρ o).run P w = .ok .skip (w.setCell ⟨p, 0, none⟩ v') ∨ (execOp ρ o).run P w = .ok (.value undef) (w.setCell ⟨p, 0, none⟩ v') := by
      cases v' <;> first | (simp [oneC] at hv; done) | simp [execOp, ho, hx, hy, Instr.storeAt, Instr.sureAddr, storeVar, sizeOf, typeInfo, hq, hs', Value.cells, hc, hf, go_sem]
    have hn : Cel (w.setCell ⟨p, 0, none⟩ v') p t v' := by unfold Cel; rw [heap_setCell_same _ _ _ _ hB]; rfl
    have k : Kept (onB p) w (w.setCell ⟨p, 0, none⟩ v') := (Kept.refl (onB p) w).setCell ⟨p, 0, none⟩ (fun _ => rfl) _
    unfold Yields
    rcases e with e | e <;> rw [e] <;> exact h _ _ hn k
end Go.Proofs.Ythoafgfcoclkbaa
set_option maxRecDepth 100000
namespace Go.Proofs.Ythoafgfcoclkbaa
open Go.RowKit
structure Thm where
  B : Value → (Nat → Prop) → World → Prop
  st : ∀ (v : Value) (w w' : World) (S T : Nat → Prop), B v T w → Kept S w w' → Apart T S → B v T w'
  li : ∀ (v : Value) (w : World) (T : Nat → Prop), B v T w → Live w T
inductive Pm where
  | eq (v : Value)
  | new (t : Thm)
def Pm.none : Pm := .eq undef
def Pm.isNew : Pm → Bool
  | .eq _ => false
  | .new _ => true
structure Eld where
  A : World → Prop
  T : Nat → Prop
  st : ∀ (w w' : World) (S : Nat → Prop), A w → Kept S w w' → Apart T S → A w'
  li : ∀ w, A w → Live w T
def usM (Uz : List (Option (Bool × Nat))) (i : Nat) : Option (Bool × Nat) := Uz.getD i none
def usedM (Uz : List (Option (Bool × Nat))) (L : Nat → Bool) (q : Bool × Nat) : Prop := ∃ i, usM Uz i = some q ∧ L i = true
structure JM (S : Nat → Prop) (w0 : World) (Gs : List Pm) (Uz : List (Option (Bool × Nat))) (Es : List Eld) (Bs : List (Nat → Prop)) (M : List (Nat × Nat)) (L : Nat → Bool) (v : Nat → Value) (Tf : Nat → Nat → Prop) (w : World) : Prop where
  kept : Kept S w0 w
  vals : ∀ i x, L i = true → Gs.getD i Pm.none = .eq x → v i = x
  things : ∀ i t, L i = true → Gs.getD i Pm.none = .new t → ¬ usedM Uz L (true, i) → t.B (v i) (Tf i) w
  olds : ∀ (e : Nat) (E : Eld), Es[e]? = some E → ¬ usedM Uz L (false, e) → E.A w
  grew : ∀ i t, L i = true → Gs.getD i Pm.none = .new t → Grew w0 (Bs.getD i noB) (Tf i)
  tt : ∀ i j t t', i ≠ j → L i = true → L j = true → Gs.getD i Pm.none = .new t → Gs.getD j Pm.none = .new t' → ¬ usedM Uz L (true, i) → ¬ usedM Uz L (true, j) → Apart (Tf i) (Tf j)
  te : ∀ (i e : Nat) (t : Thm) (E : Eld), L i = true → Gs.getD i Pm.none = .new t → ¬ usedM Uz L (true, i) → Es[e]? = some E → ¬ usedM Uz L (false, e) → Apart (Tf i) E.T
  clos : ∀ j i, (j, i) ∈ M → L j = true → L i = true
def uniqB (Uz : List (Option (Bool × Nat))) : Bool := (List.range Uz.length).all fun i => (List.range Uz.length).all fun j => match usM Uz i with
  | some q => i == j || !(usM Uz j == some q)
  | none => true
def wfU (os : List Oper) (Gs : List Pm) (nE : Nat) (Uz : List (Option (Bool × Nat))) : Bool := uniqB Uz && (List.range Uz.length).all fun i => match usM Uz i with
  | none => true
  | some (true, j) => (Gs.getD j Pm.none).isNew && (match os[i]? with | some o => o.after.toList.any (fun e => Region.binds .any e && e.on == j) | none => false)
  | some (false, e) => Nat.blt e nE
def BsL (Es : List Eld) (Bs : List (Nat → Prop)) : List (Option (Bool × Nat)) → List (Nat → Prop) → Prop
  | [], _ => True
  | none :: r, b :: bs => b = noB ∧ BsL Es Bs r bs
  | some (true, j) :: r, b :: bs => b = Bs.getD j noB ∧ BsL Es Bs r bs
  | some (false, e) :: r, b :: bs => (∀ E, Es[e]? = some E → b = E.T) ∧ BsL Es Bs r bs
  | _ :: _, [] => False
def SubL (S : Nat → Prop) : List (Nat → Prop) → Prop
  | [] => True
  | b :: r => (∀ x, b x → S x) ∧ SubL S r
def EldsM (S : Nat → Prop) (w0 : World) : List Eld → Prop
  | [] => True
  | E :: r => ((∀ b, E.T b → S b) ∧ E.A w0 ∧ (∀ (k : Nat) (E' : Eld), r[k]? = some E' → Apart E.T E'.T)) ∧ EldsM S w0 r
theorem us_lt {Uz : List (Option (Bool × Nat))} {i : Nat} {q : Bool × Nat} (h : usM Uz i = some q) : i < Uz.length := by
  unfold usM at h
  rcases Nat.lt_or_ge i Uz.length with h' | h'
  · exact h'
  · simp [List.getD, List.getElem?_eq_none h'] at h
theorem uniq_at {Uz : List (Option (Bool × Nat))} (h : uniqB Uz = true) {i j : Nat} {q : Bool × Nat} (hi : usM Uz i = some q) (hj : usM Uz j = some q) : i = j := by
  have := List.all_eq_true.1 (List.all_eq_true.1 h i (List.mem_range.2 (us_lt hi))) j (List.mem_range.2 (us_lt hj))
  rw [hi, hj] at this
  simpa using this
theorem bs_at {Es : List Eld} {Bs : List (Nat → Prop)} : ∀ {Uz : List (Option (Bool × Nat))} {bs : List (Nat → Prop)}, BsL Es Bs Uz bs → ∀ i, i < Uz.length → match usM Uz i with
    | none => bs.getD i noB = noB
    | some (true, j) => bs.getD i noB = Bs.getD j noB
    | some (false, e) => ∀ E, Es[e]? = some E → bs.getD i noB = E.T := by
  intro Uz
  induction Uz with
  | nil => intro bs _ i hi; exact absurd hi (Nat.not_lt_zero _)
  | cons u r ih =>
    intro bs h i hi
    cases bs with
    | nil => exact (by cases u with | none => exact h.elim | some q => obtain ⟨b, j⟩ := q; cases b <;> exact h.elim)
    | cons b bs =>
      cases i with
      | zero =>
        cases u with
        | none => exact h.1
        | some q => obtain ⟨x, j⟩ := q; cases x <;> exact h.1
      | succ i =>
        have hr : BsL Es Bs r bs := by
          cases u with
          | none => exact h.2
          | some q => obtain ⟨x, j⟩ := q; cases x <;> exact h.2
        exact ih hr i (Nat.lt_of_succ_lt_succ hi)
theorem sub_at {S : Nat → Prop} : ∀ {Bs : List (Nat → Prop)}, SubL S Bs → ∀ i x, Bs.getD i noB x → S x := by
  intro Bs
  induction Bs with
  | nil => intro _ i x h; exact absurd h (by simp [List.getD, noB])
  | cons b r ih =>
    intro h i x hx
    cases i with
    | zero => exact h.1 x hx
    | succ i => exact ih h.2 i x hx
theorem EldsM.at {S : Nat → Prop} {w0 : World} : ∀ {Es : List Eld}, EldsM S w0 Es → ∀ (e : Nat) (E : Eld), Es[e]? = some E → (∀ b, E.T b → S b) ∧ E.A w0 := by
  intro Es
  induction Es with
  | nil => intro _ e E h; simp at h
  | cons x r ih =>
    intro h e E he
    cases e with
    | zero => simp at he; subst he; exact ⟨h.1.1, h.1.2.1⟩
    | succ e => exact ih h.2 e E (by simpa using he)
theorem EldsM.far {S : Nat → Prop} {w0 : World} : ∀ {Es : List Eld}, EldsM S w0 Es → ∀ (e e' : Nat) (E E' : Eld), e ≠ e' → Es[e]? = some E → Es[e']? = some E' → Apart E.T E'.T := by
  intro Es
  induction Es with
  | nil => intro _ e e' E E' _ h; simp at h
  | cons x r ih =>
    intro h e e' E E' hne he he'
    cases e with
    | zero =>
      cases e' with
      | zero => exact absurd rfl hne
      | succ k => simp at he; subst he; exact h.1.2.2 k E' (by simpa using he')
    | succ k =>
      cases e' with
      | zero => simp at he'; subst he'; exact (h.1.2.2 k E (by simpa using he)).symm
      | succ k' => exact ih h.2 k k' E E' (fun z => hne (by rw [z])) (by simpa using he) (by simpa using he')
def LeftM (Gs : List Pm) (i : Nat) (Tu : Nat → Prop) (w : World) (v : Value) (w' : World) : Prop := match Gs.getD i Pm.none with
  | .eq x => v = x ∧ Kept Tu w w'
  | .new t => Kept Tu w w' ∧ ∃ T', t.B v T' w' ∧ Grew w Tu T'
def useT (Uz : List (Option (Bool × Nat))) (Es : List Eld) (Tf : Nat → Nat → Prop) (i : Nat) (Tu : Nat → Prop) : Prop := match usM Uz i with
  | none => Tu = noB
  | some (true, j) => Tu = Tf j
  | some (false, e) => ∀ E, Es[e]? = some E → Tu = E.T
theorem wfU_at {os : List Oper} {Gs : List Pm} {nE : Nat} {Uz : List (Option (Bool × Nat))} (h : wfU os Gs nE Uz = true) {i : Nat} {q : Bool × Nat} (hi : usM Uz i = some q) : match q with
    | (true, j) => (∃ t, Gs.getD j Pm.none = .new t) ∧ ∃ o, os[i]? = some o ∧ ∃ e ∈ o.after.toList, Region.binds .any e = true ∧ e.on = j
    | (false, e) => e < nE := by
  unfold wfU at h
  simp only [Bool.and_eq_true] at h
  have := List.all_eq_true.1 h.2 i (List.mem_range.2 (us_lt hi))
  rw [hi] at this
  obtain ⟨b, j⟩ := q
  cases b with
  | false => simpa [Nat.blt_eq] using this
  | true =>
    simp only [Bool.and_eq_true] at this
    refine ⟨?_, ?_⟩
    · cases hg : Gs.getD j Pm.none with
      | eq x => rw [hg] at this; simp [Pm.isNew] at this
      | new t => exact ⟨t, rfl⟩
    · cases ho : os[i]? with
      | none => rw [ho] at this; simp at this
      | some o =>
        rw [ho] at this
        obtain ⟨e, he, hb⟩ := List.any_eq_true.1 this.2
        simp only [Bool.and_eq_true, beq_iff_eq] at hb
        exact ⟨o, rfl, e, he, hb.1, hb.2⟩
theorem used_up {Uz : List (Option (Bool × Nat))} {L : Nat → Bool} {i : Nat} {q : Bool × Nat} (h : ¬ usedM Uz (upL L i) q) : ¬ usedM Uz L q := fun ⟨k, hk, hl⟩ => h ⟨k, hk, by unfold upL; split <;> first | rfl | exact hl⟩
theorem up_cases {L : Nat → Bool} {i j : Nat} (h : upL L i j = true) : j = i ∨ (j ≠ i ∧ L j = true) := by
  by_cases e : j = i
  · exact .inl e
  · exact .inr ⟨e, by rwa [show upL L i j = L j from if_neg e] at h⟩
def setT (Tf : Nat → Nat → Prop) (i : Nat) (T' : Nat → Prop) : Nat → Nat → Prop := fun c => if c = i then T' else Tf c
theorem JM.more {S : Nat → Prop} {w0 w w' : World} {os : List Oper} {Gs : List Pm} {Uz : List (Option (Bool × Nat))} {Es : List Eld} {Bs : List (Nat → Prop)} {M : List (Nat × Nat)} {L : Nat → Bool} {v : Nat → Value} {Tf : Nat → Nat → Prop} {i : Nat} {x : Value} {Tu : Nat → Prop}
    (hwf : wfU os Gs Es.length Uz = true) (hlen : Uz.length = os.length) (hio : i < os.length) (hBs : BsL Es Bs Uz Bs) (hSub : SubL S Bs) (hE : EldsM S w0 Es) (h : JM S w0 Gs Uz Es Bs M L v Tf w) (hi : L i = false) (hM : ∀ k, (i, k) ∈ M → L k = true) (hU : ∀ j, usM Uz i = some (true, j) → L j = true) (hT : useT Uz Es Tf i Tu) (hx : LeftM Gs i Tu w x w') : ∃ Tf', JM S w0 Gs Uz Es Bs M (upL L i) (upV v i x) Tf' w' := by
  have huq : uniqB Uz = true := by unfold wfU at hwf; simp only [Bool.and_eq_true] at hwf; exact hwf.1
  have hcl : ∀ j k, (j, k) ∈ M → upL L i j = true → upL L i k = true := fun j k hm hj => by
    have hk : L k = true := by
      rcases up_cases hj with rfl | ⟨_, hj⟩
      · exact hM k hm
      · exact h.clos j k hm hj
    unfold upL; split <;> first | rfl | exact hk
  have free : ∀ q, usM Uz i = some q → ¬ usedM Uz L q := fun q hq ⟨k, hk, hl⟩ => by
    rw [uniq_at huq hk hq, hi] at hl; cases hl
  have hgu : Grew w0 (Bs.getD i noB) Tu := by
    have hb := bs_at hBs i (by omega)
    unfold useT at hT
    cases hu : usM Uz i with
    | none => rw [hu] at hT; simp only at hT; subst hT; exact fun _ z => z.elim
    | some q =>
      have hq := wfU_at hwf hu
      obtain ⟨b, j⟩ := q
      cases b with
      | true =>
        rw [hu] at hT hb
        simp only at hT hb hq
        obtain ⟨⟨t, ht⟩, _⟩ := hq
        subst hT; rw [hb]; exact h.grew j t (hU j hu) ht
      | false =>
        rw [hu] at hT hb
        simp only at hT hb hq
        obtain ⟨E, hE'⟩ : ∃ E, Es[j]? = some E := ⟨Es[j], List.getElem?_eq_getElem hq⟩
        rw [hT E hE', hb E hE']; exact Grew.refl _ _
  have hkS : Kept Tu w w' → Kept S w0 w' := fun hk => h.kept.trans hk (fun b hb hTb => (hgu b hTb).elim (fun z => sub_at hSub i b z) (fun z => absurd hb (Nat.not_lt.2 z)))
  have farT : ∀ j t, L j = true → Gs.getD j Pm.none = .new t → ¬ usedM Uz (upL L i) (true, j) → Apart (Tf j) Tu := fun j t hj ht hn => by
    unfold useT at hT
    cases hu : usM Uz i with
    | none => rw [hu] at hT; simp only at hT; subst hT; exact fun _ _ z => z
    | some q =>
      have hq := wfU_at hwf hu
      obtain ⟨b, k⟩ := q
      cases b with
      | true =>
        rw [hu] at hT
        simp only at hT hq
        obtain ⟨⟨t', ht'⟩, _⟩ := hq
        subst hT
        exact h.tt j k t t' (fun e => hn ⟨i, by rw [hu, e], by unfold upL; simp⟩) hj (hU k hu) ht ht' (used_up hn) (free _ hu)
      | false =>
        rw [hu] at hT
        simp only at hT hq
        obtain ⟨E, hE'⟩ : ∃ E, Es[k]? = some E := ⟨Es[k], List.getElem?_eq_getElem hq⟩
        rw [hT E hE']; exact h.te j k t E hj ht (used_up hn) hE' (free _ hu)
  have farE : ∀ (e : Nat) (E : Eld), Es[e]? = some E → ¬ usedM Uz (upL L i) (false, e) → Apart E.T Tu := fun e E he hn => by
    unfold useT at hT
    cases hu : usM Uz i with
    | none => rw [hu] at hT; simp only at hT; subst hT; exact fun _ _ z => z
    | some q =>
      have hq := wfU_at hwf hu
      obtain ⟨b, k⟩ := q
      cases b with
      | true =>
        rw [hu] at hT
        simp only at hT hq
        obtain ⟨⟨t', ht'⟩, _⟩ := hq
        subst hT
        exact (h.te k e t' E (hU k hu) ht' (free _ hu) he (used_up hn)).symm
      | false =>
        rw [hu] at hT
        simp only at hT hq
        obtain ⟨E', hE'⟩ : ∃ E, Es[k]? = some E := ⟨Es[k], List.getElem?_eq_getElem hq⟩
        rw [hT E' hE']; exact hE.far e k E E' (fun z => hn ⟨i, by rw [hu, z], by unfold upL; simp⟩) he hE'
  unfold LeftM at hx
  cases eg : Gs.getD i Pm.none with
  | eq y =>
    rw [eg] at hx
    obtain ⟨hv, kU⟩ := hx
    refine ⟨Tf, hkS kU, fun j z hj hz => ?_, fun j t hj ht hn => ?_, fun e E he hn => (E.st w w' Tu (h.olds e E he (used_up hn)) kU (farE e E he hn)), fun j t hj ht => ?_, fun a b t t' hab ha hb hta htb hna hnb => ?_, fun a e t E ha hta hna he hne => ?_, hcl⟩
    · rcases up_cases hj with rfl | ⟨hji, hj⟩
      · rw [show upV v j x j = x from if_pos rfl, hv]; rw [eg] at hz; cases hz; rfl
      · rw [show upV v i x j = v j from if_neg hji]; exact h.vals j z hj hz
    · rcases up_cases hj with rfl | ⟨hji, hj⟩
      · rw [eg] at ht; cases ht
      · rw [show upV v i x j = v j from if_neg hji]; exact t.st _ w w' Tu _ (h.things j t hj ht (used_up hn)) kU (farT j t hj ht hn)
    · rcases up_cases hj with rfl | ⟨_, hj⟩
      · rw [eg] at ht; cases ht
      · exact h.grew j t hj ht
    · rcases up_cases ha with rfl | ⟨_, ha⟩
      · rw [eg] at hta; cases hta
      · rcases up_cases hb with rfl | ⟨_, hb⟩
        · rw [eg] at htb; cases htb
        · exact h.tt a b t t' hab ha hb hta htb (used_up hna) (used_up hnb)
    · rcases up_cases ha with rfl | ⟨_, ha⟩
      · rw [eg] at hta; cases hta
      · exact h.te a e t E ha hta (used_up hna) he (used_up hne)
  | new y =>
    rw [eg] at hx
    obtain ⟨kU, T', hB, hG⟩ := hx
    have fi : setT Tf i T' i = T' := if_pos rfl
    have fj : ∀ c, c ≠ i → setT Tf i T' c = Tf c := fun c hc => if_neg hc
    have nT : ∀ j t, L j = true → Gs.getD j Pm.none = .new t → ¬ usedM Uz (upL L i) (true, j) → Apart T' (Tf j) := fun j t hj ht hn => ((farT j t hj ht hn).symm).grew hG (t.li _ w _ (h.things j t hj ht (used_up hn)))
    refine ⟨setT Tf i T', hkS kU, fun j z hj hz => ?_, fun j t hj ht hn => ?_, fun e E he hn => (E.st w w' Tu (h.olds e E he (used_up hn)) kU (farE e E he hn)), fun j t hj ht => ?_, fun a b t t' hab ha hb hta htb hna hnb => ?_, fun a e t E ha hta hna he hne => ?_, hcl⟩
    · rcases up_cases hj with rfl | ⟨hji, hj⟩
      · rw [eg] at hz; cases hz
      · rw [show upV v i x j = v j from if_neg hji]; exact h.vals j z hj hz
    · rcases up_cases hj with rfl | ⟨hji, hj⟩
      · rw [eg] at ht; cases ht
        rw [show upV v j x j = x from if_pos rfl, fi]; exact hB
      · rw [show upV v i x j = v j from if_neg hji, fj j hji]; exact t.st _ w w' Tu _ (h.things j t hj ht (used_up hn)) kU (farT j t hj ht hn)
    · rcases up_cases hj with rfl | ⟨hji, hj⟩
      · rw [fi]
        exact fun b hb => (hG b hb).elim (fun z => hgu b z) (fun z => .inr (Nat.le_trans h.kept.size z))
      · rw [fj j hji]; exact h.grew j t hj ht
    · rcases up_cases ha with rfl | ⟨hai, ha2⟩
      · rcases up_cases hb with rfl | ⟨hbi, hb2⟩
        · exact absurd rfl hab
        · rw [fi, fj b hbi]; exact nT b t' hb2 htb hnb
      · rcases up_cases hb with rfl | ⟨hbi, hb2⟩
        · rw [fi, fj a hai]; exact (nT a t ha2 hta hna).symm
        · rw [fj a hai, fj b hbi]; exact h.tt a b t t' hab ha2 hb2 hta htb (used_up hna) (used_up hnb)
    · rcases up_cases ha with rfl | ⟨hai, ha⟩
      · rw [fi]; exact ((farE e E he hne).symm).grew hG (E.li w (h.olds e E he (used_up hne)))
      · rw [fj a hai]; exact h.te a e t E ha hta (used_up hna) he (used_up hne)
def freeB (Uz : List (Option (Bool × Nat))) (M : List (Nat × Nat)) (i : Nat) (q : Bool × Nat) : Bool := (List.range Uz.length).all fun k => !(usM Uz k == some q) || k == i || M.contains (k, i)
def thingM (w0 : World) (Gs : List Pm) (Uz : List (Option (Bool × Nat))) (Bs : List (Nat → Prop)) (M : List (Nat × Nat)) (i j : Nat) (x : Value) (w : World) : Prop := match Gs.getD j Pm.none with
  | .eq _ => True
  | .new t => freeB Uz M i (true, j) = true → ∃ T, t.B x T w ∧ Grew w0 (Bs.getD j noB) T
def valM (Gs : List Pm) (j : Nat) (x : Value) : Prop := match Gs.getD j Pm.none with
  | .eq y => x = y
  | .new _ => True
def ToldM (w0 : World) (Gs : List Pm) (Uz : List (Option (Bool × Nat))) (Bs : List (Nat → Prop)) (M : List (Nat × Nat)) (i : Nat) : Nat → Value → World → Prop := fun j x w => valM Gs j x ∧ thingM w0 Gs Uz Bs M i j x w ∧ ∀ k, (j, k) ∈ M → ∃ y, thingM w0 Gs Uz Bs M i k y w
def AheadM (Uz : List (Option (Bool × Nat))) (Es : List Eld) (M : List (Nat × Nat)) (i : Nat) (w : World) : Prop := ∀ (e : Nat) (E : Eld), Es[e]? = some E → freeB Uz M i (false, e) = true → E.A w
def UseM (w0 : World) (D : List (Option Tmp)) (Gs : List Pm) (Uz : List (Option (Bool × Nat))) (Es : List Eld) (Bs : List (Nat → Prop)) (F : Nat → Value) (w : World) (i : Nat) (Tu : Nat → Prop) : Prop := match usM Uz i with
  | none => Tu = noB
  | some (true, j) => ∀ t, Gs.getD j Pm.none = .new t → ∃ x, t.B x Tu w ∧ Grew w0 (Bs.getD j noB) Tu ∧ ∀ d, D.getD j none = some d → F d = x
  | some (false, e) => ∀ E, Es[e]? = some E → Tu = E.T ∧ E.A w
section
variable {P : Program} {N : Nat} {F : Nat → Value} {w : World} {Q : Exit → (Nat → Value) → World → Prop} {S : Nat → Prop} {M : List (Nat × Nat)} {D : List (Option Tmp)} {Gs : List Pm} {Uz : List (Option (Bool × Nat))} {Es : List Eld} {Bs : List (Nat → Prop)}
def StepFM (S : Nat → Prop) (M : List (Nat × Nat)) (N : Nat) (P : Program) (D : List (Option Tmp)) (Gs : List Pm) (Uz : List (Option (Bool × Nat))) (Es : List Eld) (Bs : List (Nat → Prop)) (F0 : Nat → Value) (w0 : World) (i : Nat) (o : Oper) : Prop :=
  ∀ (F : Nat → Value) (w : World) (Tu : Nat → Prop), Kept S w0 w → (∀ t, Nat.blt t N = true → some t ∉ D → F t = F0 t) → DepsF D (ToldM w0 Gs Uz Bs M i) F w o.after.toList → AheadM Uz Es M i w → UseM w0 D Gs Uz Es Bs F w i Tu →
    match o.guard with
    | none => Yields P (ev F) o w (LeftM Gs i Tu w)
    | some (j, want) => ∃ d, D.getD j none = some d ∧
      ((F d = .bool want ∧ Yields P (ev F) o w (LeftM Gs i Tu w)) ∨ ((F d = .bool (!want) ∨ F d = undef) ∧ Gs.getD i Pm.none = .eq undef))
def StepsFM (S : Nat → Prop) (M : List (Nat × Nat)) (N : Nat) (P : Program) (D : List (Option Tmp)) (Gs : List Pm) (Uz : List (Option (Bool × Nat))) (Es : List Eld) (Bs : List (Nat → Prop)) (F0 : Nat → Value) (w0 : World) : Nat → List Oper → Prop
  | _, [] => True
  | i, o :: r => StepFM S M N P D Gs Uz Es Bs F0 w0 i o ∧ StepsFM S M N P D Gs Uz Es Bs F0 w0 (i + 1) r
theorem stepsFM_nil {F0 : Nat → Value} {w0 : World} {i : Nat} : StepsFM S M N P D Gs Uz Es Bs F0 w0 i [] := trivial
theorem stepsFM_cons {F0 : Nat → Value} {w0 : World} {i : Nat} {o : Oper} {r : List Oper} (h : StepFM S M N P D Gs Uz Es Bs F0 w0 i o) (k : StepsFM S M N P D Gs Uz Es Bs F0 w0 (i + 1) r) : StepsFM S M N P D Gs Uz Es Bs F0 w0 i (o :: r) := ⟨h, k⟩
theorem StepFM.one {F0 : Nat → Value} {w0 : World} {i : Nat} {o : Oper} (hg : o.guard = none) (hu : usM Uz i = none)
    (h : ∀ (F : Nat → Value) (w : World), Kept S w0 w → (∀ t, Nat.blt t N = true → some t ∉ D → F t = F0 t) → DepsF D (ToldM w0 Gs Uz Bs M i) F w o.after.toList → AheadM Uz Es M i w → Yields P (ev F) o w (LeftM Gs i noB w)) : StepFM S M N P D Gs Uz Es Bs F0 w0 i o := by
  intro F w Tu h1 h2 h3 h4 h5
  unfold UseM at h5
  rw [hu] at h5; simp only at h5; subst h5
  rw [hg]; exact h F w h1 h2 h3 h4
theorem StepFM.uses {F0 : Nat → Value} {w0 : World} {i : Nat} {o : Oper} (j : Nat) (d : Tmp) {t : Thm} (hg : o.guard = none) (hu : usM Uz i = some (true, j)) (ht : Gs.getD j Pm.none = .new t) (hd : D.getD j none = some d)
    (h : ∀ (F : Nat → Value) (w : World) (Tu : Nat → Prop), Kept S w0 w → (∀ t, Nat.blt t N = true → some t ∉ D → F t = F0 t) → DepsF D (ToldM w0 Gs Uz Bs M i) F w o.after.toList → AheadM Uz Es M i w → t.B (F d) Tu w → Grew w0 (Bs.getD j noB) Tu → Yields P (ev F) o w (LeftM Gs i Tu w)) : StepFM S M N P D Gs Uz Es Bs F0 w0 i o := by
  intro F w Tu h1 h2 h3 h4 h5
  unfold UseM at h5
  rw [hu] at h5; simp only at h5
  obtain ⟨x, hB, hG, hx⟩ := h5 t ht
  rw [hg]; exact h F w Tu h1 h2 h3 h4 (by rw [hx d hd]; exact hB) hG
theorem StepFM.turns {F0 : Nat → Value} {w0 : World} {i : Nat} {o : Oper} (e : Nat) {E : Eld} (hg : o.guard = none) (hu : usM Uz i = some (false, e)) (he : Es[e]? = some E)
    (h : ∀ (F : Nat → Value) (w : World), Kept S w0 w → (∀ t, Nat.blt t N = true → some t ∉ D → F t = F0 t) → DepsF D (ToldM w0 Gs Uz Bs M i) F w o.after.toList → AheadM Uz Es M i w → E.A w → Yields P (ev F) o w (LeftM Gs i E.T w)) : StepFM S M N P D Gs Uz Es Bs F0 w0 i o := by
  intro F w Tu h1 h2 h3 h4 h5
  unfold UseM at h5
  rw [hu] at h5; simp only at h5
  obtain ⟨hT, hA⟩ := h5 E he
  subst hT
  rw [hg]; exact h F w h1 h2 h3 h4 hA
theorem free_not {L : Nat → Bool} {i : Nat} {q : Bool × Nat} (hi : L i = false) (hc : ∀ j k, (j, k) ∈ M → L j = true → L k = true) (h : freeB Uz M i q = true) : ¬ usedM Uz L q := fun ⟨k, hk, hl⟩ => by
  have := List.all_eq_true.1 h k (List.mem_range.2 (us_lt hk))
  simp only [hk, beq_self_eq_true, Bool.not_true, Bool.false_or, Bool.or_eq_true, beq_iff_eq] at this
  rcases this with e | e
  · rw [e, hi] at hl; cases hl
  · have := hc k i (by simpa using e) hl; rw [hi] at this; cases this
theorem StepFM.step {os : List Oper} {w0 : World} {i : Nat} {o : Oper} {a0 : Act} (hwf : wfU os Gs Es.length Uz = true) (hlen : Uz.length = os.length) (hBs : BsL Es Bs Uz Bs) (hSub : SubL S Bs) (hE : EldsM S w0 Es) (hmo : mustOk os M = true) (hio : os[i]? = some o) (ha : Fr N F a0) (h : StepFM S M N P D Gs Uz Es Bs F w0 i o) : StepJ os P D (fun L v w => ∃ Tf, JM S w0 Gs Uz Es Bs M L v Tf w) a0 i o := by
  rintro L v a w ⟨Tf, hJ⟩ hi hdone hout hhere _
  have hi' : i < os.length := by
    rcases Nat.lt_or_ge i os.length with h' | h'
    · exact h'
    · rw [List.getElem?_eq_none h'] at hio; cases hio
  have key : ∀ c, L c = true → ∀ x, (∀ d, D[c]? = some (some d) → x = v c) → (x = v c) → thingM w0 Gs Uz Bs M i c x w := fun c hc x _ hx => by
    unfold thingM
    cases e' : Gs.getD c Pm.none with
    | eq y => trivial
    | new t =>
      intro hf
      rw [hx]
      exact ⟨Tf c, hJ.things c t hc e' (free_not hi hJ.clos hf), hJ.grew c t hc e'⟩
  have hDe : ∀ c d, D.getD c none = some d → D[c]? = some (some d) := fun c d hd => by
    unfold List.getD at hd
    cases hq : D[c]? with
    | none => rw [hq] at hd; cases hd
    | some y => rw [hq] at hd; simp at hd; rw [hd]
  have hdeps : DepsF D (ToldM w0 Gs Uz Bs M i) (fun t => a.tmps.getD t undef) w o.after.toList := by
    refine Deps.toF (Deps.mk fun e he hb d hd => ?_)
    have hl := hdone e he hb
    rw [hhere e.on d hl (hDe e.on d hd)]
    refine ⟨?_, key e.on hl _ (fun _ _ => rfl) rfl, fun c hc => ⟨v c, key c (hJ.clos _ _ hc hl) _ (fun _ _ => rfl) rfl⟩⟩
    unfold valM
    cases e' : Gs.getD e.on Pm.none with
    | eq y => exact hJ.vals e.on y hl e'
    | new t => trivial
  have hM : ∀ k, (i, k) ∈ M → L k = true := fun k hk => by
    have := List.all_eq_true.1 hmo _ hk
    simp only [hio] at this
    obtain ⟨e, he, hb⟩ := List.any_eq_true.1 this
    simp only [Bool.and_eq_true, Bool.or_eq_true, beq_iff_eq] at hb
    have hl := hdone e he hb.1
    rcases hb.2 with h1 | h1
    · rw [← h1]; exact hl
    · exact hJ.clos _ _ (by simpa using h1) hl
  have hU : ∀ j, usM Uz i = some (true, j) → L j = true := fun j hj => by
    obtain ⟨_, o', ho', e, he, hb, hej⟩ := wfU_at hwf hj
    rw [hio] at ho'; cases ho'
    rw [← hej]; exact hdone e he hb
  have huq : uniqB Uz = true := by unfold wfU at hwf; simp only [Bool.and_eq_true] at hwf; exact hwf.1
  have free : ∀ q, usM Uz i = some q → ¬ usedM Uz L q := fun q hq ⟨k, hk, hl⟩ => by
    rw [uniq_at huq hk hq, hi] at hl; cases hl
  obtain ⟨Tu, hTu⟩ : ∃ Tu, useT Uz Es Tf i Tu := by
    unfold useT
    cases usM Uz i with
    | none => exact ⟨noB, rfl⟩
    | some q =>
      obtain ⟨b, j⟩ := q
      cases b with
      | true => exact ⟨Tf j, rfl⟩
      | false =>
        cases he : Es[j]? with
        | none => exact ⟨noB, fun E hE => by rw [he] at hE; cases hE⟩
        | some E => exact ⟨E.T, fun E' hE' => by rw [he] at hE'; cases hE'; rfl⟩
  have huse : UseM w0 D Gs Uz Es Bs (fun t => a.tmps.getD t undef) w i Tu := by
    have hTu' := hTu
    unfold useT at hTu'
    unfold UseM
    cases hu : usM Uz i with
    | none => rw [hu] at hTu'; exact hTu'
    | some q =>
      obtain ⟨b, j⟩ := q
      rw [hu] at hTu'
      cases b with
      | true =>
        simp only at hTu' ⊢
        subst hTu'
        exact fun t ht => ⟨v j, hJ.things j t (hU j hu) ht (free _ hu), hJ.grew j t (hU j hu) ht, fun d hd => hhere j d (hU j hu) (hDe j d hd)⟩
      | false => exact fun E hE' => ⟨hTu' E hE', hJ.olds j E hE' (free _ hu)⟩
  have h1 := h (fun t => a.tmps.getD t undef) w Tu hJ.kept (fun t hb ht => by rw [← ha.at' t hb]; exact hout t ht) hdeps (fun e E he hf => hJ.olds e E he (free_not hi hJ.clos hf)) huse
  have more : ∀ (x : Value) (w' : World), LeftM Gs i Tu w x w' → ∃ Tf', JM S w0 Gs Uz Es Bs M (upL L i) (upV v i x) Tf' w' := fun x w' hx => JM.more hwf hlen hi' hBs hSub hE hJ hi hM hU hTu hx
  rw [← eval_ev a] at h1
  unfold goes
  cases hg : o.guard with
  | none => rw [hg] at h1; exact ⟨fun _ => h1.mono' fun x w' hx => more x w' hx, fun e => by cases e⟩
  | some g =>
    obtain ⟨j, want⟩ := g
    rw [hg] at h1
    obtain ⟨d, hd, h1⟩ := h1
    simp only [hd]
    have hev : a.eval (.tmp d) = a.tmps.getD d undef := rfl
    rcases h1 with ⟨hv, hy⟩ | ⟨hv, hs⟩
    · rw [hev, hv]; exact ⟨fun _ => hy.mono' fun x w' hx => more x w' hx, fun e => by simp at e⟩
    · refine ⟨fun e => ?_, fun _ => more undef w (by unfold LeftM; rw [hs]; exact ⟨rfl, Kept.refl _ _⟩)⟩
      rcases hv with hv | hv
      · rw [hev, hv] at e; cases want <;> simp at e
      · rw [hev, hv] at e; simp [undef] at e
theorem StepsFM.steps {all : List Oper} {w0 : World} {a0 : Act} (hwf : wfU all Gs Es.length Uz = true) (hlen : Uz.length = all.length) (hBs : BsL Es Bs Uz Bs) (hSub : SubL S Bs) (hE : EldsM S w0 Es) (hmo : mustOk all M = true) (ha : Fr N F a0) : ∀ {os : List Oper} {i : Nat}, (∀ k o, os[k]? = some o → all[i + k]? = some o) → StepsFM S M N P D Gs Uz Es Bs F w0 i os → StepsJ all P D (fun L v w => ∃ Tf, JM S w0 Gs Uz Es Bs M L v Tf w) a0 i os := by
  intro os
  induction os with
  | nil => intro i _ _; exact trivial
  | cons o r ih =>
    intro i hat h
    exact ⟨h.1.step hwf hlen hBs hSub hE hmo (hat 0 o rfl) ha, ih (fun k o' hk => by have := hat (k + 1) o' hk; rwa [show i + (k + 1) = i + 1 + k by omega] at this) h.2⟩
def leftB (Uz : List (Option (Bool × Nat))) (i : Nat) : Bool := (List.range Uz.length).all fun k => !(usM Uz k == some (true, i))
theorem left_not {L : Nat → Bool} {i : Nat} (h : leftB Uz i = true) : ¬ usedM Uz L (true, i) := fun ⟨k, hk, _⟩ => by
  have := List.all_eq_true.1 h k (List.mem_range.2 (us_lt hk))
  simp [hk] at this
theorem wq_made {id : Nat} {ops : Array Oper} (M : List (Nat × Nat)) (D : List (Option Tmp)) (Gs : List Pm) (Uz : List (Option (Bool × Nat))) (Es : List Eld) (Bs : List (Nat → Prop)) (hm : P.follows .mixedOrders = true) (hpl : plain N 0 D ops.toList = true) (hmo : mustOk ops.toList M = true) (hsz : Gs.length = ops.size) (hlen : Uz.length = ops.toList.length) (hwf : wfU ops.toList Gs Es.length Uz = true) (hBs : BsL Es Bs Uz Bs) (hSub : SubL S Bs) (hE : EldsM S w Es) (hsteps : StepsFM S M N P D Gs Uz Es Bs F w 0 ops.toList)
    (hend : ∀ (v : Nat → Value) (Tf : Nat → Nat → Prop) (F' : Nat → Value) (w' : World), Kept S w w' → (∀ i, i < ops.size → valM Gs i (v i)) → (∀ i t, Gs.getD i Pm.none = .new t → leftB Uz i = true → t.B (v i) (Tf i) w' ∧ Grew w (Bs.getD i noB) (Tf i)) → (∀ i j t t', i ≠ j → Gs.getD i Pm.none = .new t → Gs.getD j Pm.none = .new t' → leftB Uz i = true → leftB Uz j = true → Apart (Tf i) (Tf j)) → (∀ t, F' t = putsF v 0 D F t) → Q .normal F' w') : wq none P N (.region id ops true) Q F w := by
  intro a ha
  refine wpIn_wide.2 ?_
  refine wp_region_inv D (fun L v w' => ∃ Tf, JM S w Gs Uz Es Bs M L v Tf w') hm (by rw [ha.size]; exact hpl) ⟨fun _ => noB, (Kept.refl _ w).drew, fun _ _ e => (by cases e), fun _ _ e => (by cases e), fun e E he _ => E.st w _ (fun _ => False) (hE.at e E he).2 (Kept.refl _ w).drew (fun _ _ z => z), fun _ _ e => (by cases e), fun _ _ _ _ _ e => (by cases e), fun _ _ _ _ e => (by cases e), fun _ _ _ e => (by cases e)⟩ (hsteps.steps hwf hlen hBs hSub hE hmo ha (fun k o hk => by rw [Nat.zero_add]; exact hk)) fun L v w' ⟨Tf, hJ⟩ hL => ?_
  have hlt : ∀ i t, Gs.getD i Pm.none = .new t → L i = true := fun i t e => by
    refine hL i ?_
    rw [← hsz]
    rcases Nat.lt_or_ge i Gs.length with h' | h'
    · exact h'
    · have : Gs.getD i Pm.none = Pm.none := by simp [List.getD, List.getElem?_eq_none h']
      rw [this] at e; cases e
  refine ⟨putsF v 0 D F, putAll_fr v D 0 F a ha (plain_fits hpl), hend v Tf _ w' hJ.kept (fun i hi => ?_) (fun i t e hl => ⟨hJ.things i t (hlt i t e) e (left_not hl), hJ.grew i t (hlt i t e) e⟩) (fun i j t t' hij e1 e2 h1 h2 => hJ.tt i j t t' hij (hlt i t e1) (hlt j t' e2) e1 e2 (left_not h1) (left_not h2)) fun _ => rfl⟩
  unfold valM
  cases e' : Gs.getD i Pm.none with
  | eq y => exact hJ.vals i y (hL i hi) e'
  | new t => trivial
end
end Go.Proofs.Ythoafgfcoclkbaa
set_option maxRecDepth 100000
namespace Go.Proofs.Ythoafgfcoclkbaa
open Go.RowKit
def subV (v : Value) (l h m : Nat) : Value := match v with
  | .slice a _ _ => .slice (if m = l then a else a.map (·.add l)) (h - l) (m - l)
  | _ => undef
def capV : Value → Nat
  | .slice _ _ c => c
  | _ => 0
theorem Byt.cap {w : World} {T : Nat → Prop} {v : Value} {l : List Nat} (h : Byt w T v l) : l.length ≤ capV v ∧ capV v ≤ maxLen := by
  obtain ⟨⟨a, cap, rfl, h1, h2, _⟩, _⟩ := h; exact ⟨h1, h2⟩
theorem Byt.sub {w : World} {T : Nat → Prop} {v : Value} {l : List Nat} (hb : Byt w T v l) {i j m : Nat} (h1 : i ≤ j) (h2 : j ≤ m) (h3 : j ≤ l.length) (h4 : m ≤ capV v) : Byt w T (subV v i j m) ((l.drop i).take (j - i)) := by
  have hc := hb.cap
  obtain ⟨hB, hL, hT⟩ := hb
  obtain ⟨a, cap, rfl, k1, k2, k3, k4, k5⟩ := hB
  have hB : BytesArg w (.slice a l.length cap) l := ⟨a, cap, rfl, k1, k2, k3, k4, k5⟩
  have hm : m ≤ cap := h4
  refine ⟨hB.cut i j (m - i) h1 h3 (by omega) (by omega) (if m = i then a else a.map (fun z : Addr => z.add i)) (fun hp => by rw [if_neg (by omega)]) (fun h0 => ?_), hL, fun hp a' n c e => ?_⟩
  · split at h0
    · omega
    · have : a = none := by cases a <;> simp_all
      have := k3 this; omega
  · have hlen : 0 < j - i := by
      have : ((l.drop i).take (j - i)).length = j - i := by simp; omega
      omega
    simp only [subV] at e
    rw [if_neg (by omega)] at e
    cases a with
    | none => simp at e
    | some a0 =>
      simp at e
      obtain ⟨e1, _, _⟩ := e
      have hblk : a'.block = a0.block := by rw [← e1]; unfold Addr.add; split <;> rfl
      rw [hblk]
      exact hT (by omega) a0 _ _ rfl
section
variable {ro : Option Nat} {N : Nat} {Q : (Exit → (Nat → Value) → World → Prop)} {F : Nat → Value} {w : World} {o : Oper}
end
end Go.Proofs.Ythoafgfcoclkbaa
set_option maxRecDepth 100000
namespace Go.Proofs.Ythoafgfcoclkbaa
open Go.RowKit
def rPic : RowT Pic := { t := 48, e := 51, k := 2, by_ := 16, enc := fun q => [.int .i64 q.s, .int .i64 q.t], d := ⟨0, 0⟩, z := .agg #[.int .i64 0, .int .i64 0] }
theorem one_pic {a b : Int} : ∀ u ∈ [Value.int .i64 a, Value.int .i64 b], u.oneCell' = true := fun u hu => by
  simp only [List.mem_cons, List.not_mem_nil, or_false] at hu
  rcases hu with rfl | rfl <;> rfl
instance rPic_ok : RowT.Ok rPic := ⟨Try.underlying48, by kernel_rfl, rfl, by decide, fun _ => rfl, fun _ => one_pic, by decide⟩
theorem stcT_pic : StcT Try.prog 51 2 := ⟨_, Try.underlying51, rfl, by kernel_rfl⟩
def Hld (w : World) (T : Nat → Prop) (p : Nat) (l : List Pic) : Prop := ∃ (v : Value) (Tb : Nat → Prop), (∀ i, T i ↔ (onB p i ∨ Tb i)) ∧ Apart (onB p) Tb ∧ Cel w p 48 v ∧ RoO rPic w Tb v l
theorem Hld.live {w : World} {T : Nat → Prop} {p : Nat} {l : List Pic} (h : Hld w T p l) : Live w T := by
  obtain ⟨v, Tb, hT, _, h1, h2⟩ := h
  exact fun i hi => ((hT i).1 hi).elim (fun e => by cases e; exact h1.lt) (fun e => h2.live i e)
theorem Hld.all {S : Nat → Prop} {w w' : World} {T : Nat → Prop} {p : Nat} {l : List Pic} (h : Hld w T p l) (k : Kept S w w') (ha : Apart T S) : Hld w' T p l := by
  obtain ⟨v, Tb, hT, hap, h1, h2⟩ := h
  exact ⟨v, Tb, hT, hap, h1.all k (ha p ((hT p).2 (.inl rfl))), h2.all k (fun i hi => ha i ((hT i).2 (.inr hi)))⟩
theorem Hld.peek {w : World} {T : Nat → Prop} {p : Nat} {l : List Pic} (h : Hld w T p l) : ∃ v T', Cel w p 48 v ∧ RoA rPic w T' v l := by
  obtain ⟨v, Tb, _, _, h1, h2⟩ := h
  exact ⟨v, Tb, h1, h2.roa⟩
theorem oh_len (v : Value) (l : List Pic) (T_l : Nat → Prop) (w0 : World) (h_l : RoA rPic w0 T_l v (l)) :
  Calls Try.prog 21 #[v] w0 fun e w' => e = .returned (.int .i64 ((l.length : Int))) ∧ Kept (fun _ => False) w0 w' := by
 refine calls_wq (args := [v]) 5 Try.func21 rfl rfl (Nat.le_of_ble_eq_true rfl) ?_
 have K0 := Kept.refl (fun _ => False) w0
 have g_l := Grew.refl w0 T_l
 refine wq_seq (wq_region (wl_v (iv 0) rfl rfl (y_asg rfl rfl rr) (wl_nil fun F1 hF2 => ?_)))
 have s3 : F1 0 = v := (hF2 0).trans rfl
 have s4 : F1 5 = undef := (hF2 5).trans rfl
 clear hF2
 refine then_normal (wq_seq (wq_region (wl_mv rfl rfl rfl s3 (wl_v (iv ((l.length : Nat) : Int)) rfl rfl (y_lenRo (r := rPic) rfl rfl rfl h_l rr) (wl_v (iv ((l.length : Nat) : Int)) rfl rfl (y_asg rfl rfl rr) (wl_nil fun F5 hF6 => ?_))))))
 have s7 := (hF6 5).trans s4
 have s8 : F5 2 = iv ((l.length : Nat) : Int) := (hF6 2).trans rfl
 clear hF6
 refine then_normal (wq_ret ?_)
 exact end_tmp (v := iv ((l.length : Nat) : Int)) s7 rfl rfl s8 ⟨rfl, K0⟩
theorem oh_less (v : Value) (l : List Pic) (i j : Nat) (T_l : Nat → Prop) (w0 : World) (hi : i < l.length) (hj : j < l.length) (h_l : RoA rPic w0 T_l v (l)) :
  Calls Try.prog 47 #[v, .int .i64 (((i : Nat) : Int)), .int .i64 (((j : Nat) : Int))] w0 fun e w' => e = .returned (.bool (decide (shw l i < shw l j))) ∧ Kept (fun _ => False) w0 w' := by
 refine calls_wq (args := [v, iv ((i : Nat) : Int), iv ((j : Nat) : Int)]) 18 Try.func47 rfl rfl (Nat.le_of_ble_eq_true rfl) ?_
 have K0 := Kept.refl (fun _ => False) w0
 have g_l := Grew.refl w0 T_l
 refine wq_seq (wq_region (wl_v (.bool false) rfl rfl (y_asg rfl rfl rr) (wl_nil fun F1 hF2 => ?_)))
 have s3 : F1 0 = v := (hF2 0).trans rfl
 have s4 : F1 1 = iv ((i : Nat) : Int) := (hF2 1).trans rfl
 have s5 : F1 2 = iv ((j : Nat) : Int) := (hF2 2).trans rfl
 have s6 : F1 18 = undef := (hF2 18).trans rfl
 clear hF2
 refine then_normal (wq_seq ?_)
 refine wq_said [some 7, some 8, some 9, some 10, some 11, some 12, some 13, some 14, some 15, some 16, some 17, some 6] [Pd.eq v, Pd.eq (iv ((i : Nat) : Int)), Pd.eq (bytAddr v (i * 2)), Pd.eq (bytAddr v (i * 2)), Pd.eq (iv ((l.getD i pcZ).s)), Pd.eq v, Pd.eq (iv ((j : Nat) : Int)), Pd.eq (bytAddr v (j * 2)), Pd.eq (bytAddr v (j * 2)), Pd.eq (iv ((l.getD j pcZ).s)), Pd.eq (.bool (decide (((l.getD i pcZ).s) < ((l.getD j pcZ).s)))), Pd.eq (.bool (decide (((l.getD i pcZ).s) < ((l.getD j pcZ).s))))] (by kernel_rfl) (by kernel_rfl) ?_ ?_
 ·refine stepsF_cons ?_ ?_
  ·refine StepF.one rfl fun F_ w_ hR hout hD => ?_
   exact (y_mov rfl ((hout 0 rfl (by decide)).trans s3) ⟨rfl, Kept.refl _ _⟩)
  refine stepsF_cons ?_ ?_
  ·refine StepF.one rfl fun F_ w_ hR hout hD => ?_
   exact (y_mov rfl ((hout 1 rfl (by decide)).trans s4) ⟨rfl, Kept.refl _ _⟩)
  refine stepsF_cons ?_ ?_
  ·refine StepF.one rfl fun F_ w_ hR hout hD => ?_
   have g7 : F_ 7 = v := (hD.get 0 rfl rfl rfl)
   have g8 : F_ 8 = iv ((i : Nat) : Int) := (hD.get 1 rfl rfl rfl)
   exact (y_atRo (r := rPic) i rfl g7 g8 (by omega) (h_l.all hR Apart.none) (by omega) ⟨rfl, Kept.refl _ _⟩)
  refine stepsF_cons ?_ ?_
  ·refine StepF.one rfl fun F_ w_ hR hout hD => ?_
   have g9 : F_ 9 = bytAddr v (i * 2) := (hD.get 0 rfl rfl rfl)
   exact (y_fieldRo (j := i) (n := 1) rfl g9 (h_l.all hR Apart.none) (by omega) Try.underlying51 rfl (by kernel_rfl) (by decide) rfl ⟨rfl, Kept.refl _ _⟩)
  refine stepsF_cons ?_ ?_
  ·refine StepF.one rfl fun F_ w_ hR hout hD => ?_
   have g10 : F_ 10 = bytAddr v (i * 2) := (hD.get 0 rfl rfl rfl)
   exact (y_ldRo (r := rPic) i 0 rfl g10 (h_l.all hR Apart.none) (by omega) (by decide) rfl Try.underlying3 rfl ⟨rfl, Kept.refl _ _⟩)
  refine stepsF_cons ?_ ?_
  ·refine StepF.one rfl fun F_ w_ hR hout hD => ?_
   exact (y_mov rfl ((hout 0 rfl (by decide)).trans s3) ⟨rfl, Kept.refl _ _⟩)
  refine stepsF_cons ?_ ?_
  ·refine StepF.one rfl fun F_ w_ hR hout hD => ?_
   exact (y_mov rfl ((hout 2 rfl (by decide)).trans s5) ⟨rfl, Kept.refl _ _⟩)
  refine stepsF_cons ?_ ?_
  ·refine StepF.one rfl fun F_ w_ hR hout hD => ?_
   have g12 : F_ 12 = v := (hD.get 0 rfl rfl rfl)
   have g13 : F_ 13 = iv ((j : Nat) : Int) := (hD.get 1 rfl rfl rfl)
   exact (y_atRo (r := rPic) j rfl g12 g13 (by omega) (h_l.all hR Apart.none) (by omega) ⟨rfl, Kept.refl _ _⟩)
  refine stepsF_cons ?_ ?_
  ·refine StepF.one rfl fun F_ w_ hR hout hD => ?_
   have g14 : F_ 14 = bytAddr v (j * 2) := (hD.get 0 rfl rfl rfl)
   exact (y_fieldRo (j := j) (n := 1) rfl g14 (h_l.all hR Apart.none) (by omega) Try.underlying51 rfl (by kernel_rfl) (by decide) rfl ⟨rfl, Kept.refl _ _⟩)
  refine stepsF_cons ?_ ?_
  ·refine StepF.one rfl fun F_ w_ hR hout hD => ?_
   have g15 : F_ 15 = bytAddr v (j * 2) := (hD.get 0 rfl rfl rfl)
   exact (y_ldRo (r := rPic) j 0 rfl g15 (h_l.all hR Apart.none) (by omega) (by decide) rfl Try.underlying3 rfl ⟨rfl, Kept.refl _ _⟩)
  refine stepsF_cons ?_ ?_
  ·refine StepF.one rfl fun F_ w_ hR hout hD => ?_
   have g11 : F_ 11 = iv ((l.getD i pcZ).s) := (hD.get 0 rfl rfl rfl)
   have g16 : F_ 16 = iv ((l.getD j pcZ).s) := (hD.get 1 rfl rfl rfl)
   exact (y_lss rfl g11 g16 rfl ⟨rfl, Kept.refl _ _⟩)
  refine stepsF_cons ?_ ?_
  ·refine StepF.one rfl fun F_ w_ hR hout hD => ?_
   have g17 : F_ 17 = .bool (decide (((l.getD i pcZ).s) < ((l.getD j pcZ).s))) := (hD.get 0 rfl rfl rfl)
   exact (y_asg rfl g17 ⟨rfl, Kept.refl _ _⟩)
  exact stepsF_nil
 intro v7 F8 w9 k10 G11 hF12
 have K15 := K0.tr k10
 have s16 := (hF12 18).trans s6
 have s17 : F8 6 = .bool (decide (((l.getD i pcZ).s) < ((l.getD j pcZ).s))) := (hF12 6).trans (G11 11 (by decide))
 clear G11 hF12
 refine then_normal (wq_ret ?_)
 exact end_tmp (v := .bool (decide (((l.getD i pcZ).s) < ((l.getD j pcZ).s)))) s16 rfl rfl s17 ⟨rfl, K15⟩
end Go.Proofs.Ythoafgfcoclkbaa
set_option maxRecDepth 100000
namespace Go.Proofs.Ythoafgfcoclkbaa
open Go.RowKit
def roThm (v : Value) (l : List Pic) : Thm := ⟨fun _ T w => RoO rPic w T v l, fun _ _ _ _ _ h k ha => h.all k ha, fun _ _ _ h => h.live⟩
theorem y_atRz {ρ : Operand → Value} {o : Oper} {w w1 : World} {R : Value → World → Prop} {α : Type} {r : RowT α} {x ix : Operand} {T : Nat → Prop} {v : Value} {l : List α} {k : IntKind} [hk : r.Ok] (j : Nat) {i : Int} (ho : o.op = .indexAddr r.t x ix) (hx : ρ x = v) (hi : ρ ix = .int k i) (hij : i = (j : Int)) (hb : RoA r w1 T v l) (hj : j < l.length) (h : R (bytAddr v (j * r.k)) w) : Yields Try.prog ρ o w R := by
  subst hij
  obtain ⟨a, cap, rfl, _, _, _, _, hc⟩ := hb
  obtain ⟨b, off, rfl, _, _⟩ := hc (by omega)
  obtain ⟨i0, hi0, hz0, hz1, hz2⟩ := info_parts hk.info
  exact y_val (v := bytAddr (.slice (some ⟨b, off, none⟩) l.length cap) (j * r.k)) (w' := w) (by simp [execOp, ho, hx, hi, Instr.indexAt, run_underlying hk.slice, asIntOf, sizeOf, typeInfo, hi0, hz1, hj, bytAddr]) h
def picV (q : Pic) : Value := .agg #[.int .i64 q.s, .int .i64 q.t]
theorem oh_swap (v : Value) (l : List Pic) (i j : Nat) (T_l : Nat → Prop) (w0 : World) (hi : i < l.length) (hj : j < l.length) (h_l : RoO rPic w0 T_l v l) :
    Calls Try.prog 50 #[v, .int .i64 (((i : Nat) : Int)), .int .i64 (((j : Nat) : Int))] w0 fun e w' => ∃ (T_l' : Nat → Prop), e = .returned (.tuple #[]) ∧ Kept T_l w0 w' ∧ (RoO rPic w' T_l' v (swH l i j) ∧ Grew w0 T_l T_l') := by
  refine calls_wq (args := [v, iv ((i : Nat) : Int), iv ((j : Nat) : Int)]) 20 Try.func50 rfl rfl (Nat.le_of_ble_eq_true rfl) ?_
  have ha := h_l.roa
  refine wq_made (S := T_l) [(13, 7), (13, 11)] [some 6, some 7, some 8, some 9, some 10, some 11, some 12, some 13, some 14, some 15, some 16, some 17, some 18, none, some 19, none]
    [.eq v, .eq (iv (i : Int)), .eq v, .eq (iv (j : Int)), .eq v, .eq (iv (j : Int)), .eq (bytAddr v (j * 2)), .eq (picV (l.getD j pcZ)), .eq v, .eq (iv (i : Int)), .eq (bytAddr v (i * 2)), .eq (picV (l.getD i pcZ)), .eq (bytAddr v (i * 2)), .new (roThm v (l.set i (l.getD j pcZ))), .eq (bytAddr v (j * 2)), .new (roThm v (swH l i j))]
    [none, none, none, none, none, none, none, none, none, none, none, none, none, some (false, 0), none, some (true, 13)]
    [⟨fun w_ => RoO rPic w_ T_l v l, T_l, fun _ _ _ h_ k_ ha_ => h_.all k_ ha_, fun _ h_ => h_.live⟩]
    [noB, noB, noB, noB, noB, noB, noB, noB, noB, noB, noB, noB, noB, T_l, noB, T_l]
    (by kernel_rfl) (by kernel_rfl) (by kernel_rfl) rfl rfl (by kernel_rfl) ⟨rfl, rfl, rfl, rfl, rfl, rfl, rfl, rfl, rfl, rfl, rfl, rfl, rfl, (fun _ e_ => by cases e_; rfl), rfl, rfl, trivial⟩
    ⟨(fun _ z_ => z_.elim), (fun _ z_ => z_.elim), (fun _ z_ => z_.elim), (fun _ z_ => z_.elim), (fun _ z_ => z_.elim), (fun _ z_ => z_.elim), (fun _ z_ => z_.elim), (fun _ z_ => z_.elim), (fun _ z_ => z_.elim), (fun _ z_ => z_.elim), (fun _ z_ => z_.elim), (fun _ z_ => z_.elim), (fun _ z_ => z_.elim), (fun _ z_ => z_), (fun _ z_ => z_.elim), (fun _ z_ => z_), trivial⟩
    ⟨⟨fun _ x_ => x_, h_l, fun k_ E_ e_ => by simp at e_⟩, trivial⟩ ?_ ?_
  · refine stepsFM_cons (StepFM.one rfl rfl fun F_ w_ hR hout hD hE_ => y_mov rfl ((hout 0 rfl (by decide)).trans rfl) ⟨rfl, Kept.refl _ _⟩) ?_
    refine stepsFM_cons (StepFM.one rfl rfl fun F_ w_ hR hout hD hE_ => y_mov rfl ((hout 1 rfl (by decide)).trans rfl) ⟨rfl, Kept.refl _ _⟩) ?_
    refine stepsFM_cons (StepFM.one rfl rfl fun F_ w_ hR hout hD hE_ => y_mov rfl ((hout 0 rfl (by decide)).trans rfl) ⟨rfl, Kept.refl _ _⟩) ?_
    refine stepsFM_cons (StepFM.one rfl rfl fun F_ w_ hR hout hD hE_ => y_mov rfl ((hout 2 rfl (by decide)).trans rfl) ⟨rfl, Kept.refl _ _⟩) ?_
    refine stepsFM_cons (StepFM.one rfl rfl fun F_ w_ hR hout hD hE_ => y_mov rfl ((hout 0 rfl (by decide)).trans rfl) ⟨rfl, Kept.refl _ _⟩) ?_
    refine stepsFM_cons (StepFM.one rfl rfl fun F_ w_ hR hout hD hE_ => y_mov rfl ((hout 2 rfl (by decide)).trans rfl) ⟨rfl, Kept.refl _ _⟩) ?_
    refine stepsFM_cons (StepFM.one rfl rfl fun F_ w_ hR hout hD hE_ => y_atRz (r := rPic) j rfl (hD.get 0 rfl rfl rfl).1 (hD.get 1 rfl rfl rfl).1 rfl ha hj ⟨rfl, Kept.refl _ _⟩) ?_
    refine stepsFM_cons (StepFM.one rfl rfl fun F_ w_ hR hout hD hE_ => y_ldRoP (r := rPic) j 0 stcT_pic rfl (hD.get 0 rfl rfl rfl).1 (hE_ 0 _ rfl rfl).roa hj (by decide) rfl ⟨rfl, Kept.refl _ _⟩) ?_
    refine stepsFM_cons (StepFM.one rfl rfl fun F_ w_ hR hout hD hE_ => y_mov rfl ((hout 0 rfl (by decide)).trans rfl) ⟨rfl, Kept.refl _ _⟩) ?_
    refine stepsFM_cons (StepFM.one rfl rfl fun F_ w_ hR hout hD hE_ => y_mov rfl ((hout 1 rfl (by decide)).trans rfl) ⟨rfl, Kept.refl _ _⟩) ?_
    refine stepsFM_cons (StepFM.one rfl rfl fun F_ w_ hR hout hD hE_ => y_atRz (r := rPic) i rfl (hD.get 0 rfl rfl rfl).1 (hD.get 1 rfl rfl rfl).1 rfl ha hi ⟨rfl, Kept.refl _ _⟩) ?_
    refine stepsFM_cons (StepFM.one rfl rfl fun F_ w_ hR hout hD hE_ => y_ldRoP (r := rPic) i 0 stcT_pic rfl (hD.get 0 rfl rfl rfl).1 (hE_ 0 _ rfl rfl).roa hi (by decide) rfl ⟨rfl, Kept.refl _ _⟩) ?_
    refine stepsFM_cons (StepFM.one rfl rfl fun F_ w_ hR hout hD hE_ => y_atRz (r := rPic) i rfl (hD.get 0 rfl rfl rfl).1 (hD.get 1 rfl rfl rfl).1 rfl ha hi ⟨rfl, Kept.refl _ _⟩) ?_
    refine stepsFM_cons (StepFM.turns 0 rfl rfl rfl fun F_ w_ hR hout hD hE_ hA_ => y_setRo (r := rPic) (u := l.getD j pcZ) i rfl (hD.get 0 rfl rfl rfl).1 (hD.get 1 rfl rfl rfl).1 rfl hA_ hi fun w2 b k => ⟨k, _, b, Grew.refl _ _⟩) ?_
    refine stepsFM_cons (StepFM.one rfl rfl fun F_ w_ hR hout hD hE_ => y_atRz (r := rPic) j rfl (hD.get 0 rfl rfl rfl).1 (hD.get 1 rfl rfl rfl).1 rfl ha hj ⟨rfl, Kept.refl _ _⟩) ?_
    refine stepsFM_cons (fun F_ w_ Tu hR hout hD hE_ hU => ?_) stepsFM_nil
    obtain ⟨x, hB, hG, _⟩ := hU _ rfl
    exact y_setRo (r := rPic) (u := l.getD i pcZ) j rfl (hD.get 0 rfl rfl rfl).1 (hD.get 1 rfl rfl rfl).1 rfl hB (by rw [List.length_set]; exact hj) fun w2 b k => ⟨k, _, b, Grew.refl _ _⟩
  · intro v1 Tf F1 w1 k1 G1 Gt1 Ga1 hF1
    have h2 : RoO rPic w1 (Tf 15) v (swH l i j) ∧ Grew w0 T_l (Tf 15) := Gt1 15 _ rfl rfl
    exact end_none ((hF1 20).trans rfl) rfl ⟨Tf 15, rfl, k1, h2.1, h2.2⟩
end Go.Proofs.Ythoafgfcoclkbaa
set_option maxRecDepth 100000
namespace Go.Proofs.Ythoafgfcoclkbaa
open Go.RowKit
def owPic (l : List Pic) : Thm := ⟨fun v T w => RoO rPic w T v l, fun _ _ _ _ _ h k ha => h.all k ha, fun _ _ _ h => h.live⟩
def Hlm (p : Nat) (u : Value) (l : List Pic) (v : Value) (T : Nat → Prop) (w : World) : Prop := ∃ Tb : Nat → Prop, (∀ i, T i ↔ (onB p i ∨ Tb i)) ∧ Apart (onB p) Tb ∧ Cel w p 48 u ∧ RoO rPic w Tb v l
def hlmThm (p : Nat) (u : Value) (l : List Pic) : Thm := ⟨Hlm p u l, fun _ _ _ _ _ ⟨Tb, hT, hap, h1, h2⟩ k ha => ⟨Tb, hT, hap, h1.all k (ha p ((hT p).2 (.inl rfl))), h2.all k (fun i hi => ha i ((hT i).2 (.inr hi)))⟩, fun _ _ _ ⟨_, hT, _, h1, h2⟩ i hi => ((hT i).1 hi).elim (fun e => by cases e; exact h1.lt) (fun e => h2.live i e)⟩
def hldThm (p : Nat) (l : List Pic) : Thm := ⟨fun _ T w => Hld w T p l, fun _ _ _ _ _ h k ha => h.all k ha, fun _ _ _ h => h.live⟩
theorem oh_push (p : Nat) (l : List Pic) (x : Pic) (T_h : Nat → Prop) (w0 : World) (hm : l.length < 1000) (h_h : Hld w0 T_h p l) :
    Calls Try.prog 49 #[.pointer (some ⟨p, 0, none⟩), .iface 51 (.agg #[.int .i64 x.s, .int .i64 x.t])] w0 fun e w' => ∃ (T_h' : Nat → Prop), e = .returned (.tuple #[]) ∧ Kept T_h w0 w' ∧ (Hld w' T_h' p (l ++ [x]) ∧ Grew w0 T_h T_h') := by
  refine calls_wq (args := [.pointer (some ⟨p, 0, none⟩), .iface 51 (picV x)]) 13 Try.func49 rfl rfl (Nat.le_of_ble_eq_true rfl) ?_
  obtain ⟨v, Tb, hT, hap, hc, hr⟩ := h_h
  have hlive : Live w0 T_h := fun i hi => ((hT i).1 hi).elim (fun e => by cases e; exact hc.lt) (fun e => hr.live i e)
  refine wq_made (S := T_h) [(7, 3)] [some 4, some 5, some 6, some 7, some 8, some 9, some 10, some 11, some 12, none]
    [.eq (.pointer (some ⟨p, 0, none⟩)), .eq (.pointer (some ⟨p, 0, none⟩)), .eq (.pointer (some ⟨p, 0, none⟩)), .eq v, .eq (.iface 51 (picV x)), .eq (picV x), .new (owPic [x]), .new (hlmThm p v (l ++ [x])), .eq (.pointer (some ⟨p, 0, none⟩)), .new (hldThm p (l ++ [x]))]
    [none, none, none, none, none, none, none, some (false, 0), none, some (true, 7)]
    [⟨Hlm p v l v T_h, T_h, fun w_ w2_ S_ h_ k_ ha_ => (hlmThm p v l).st v w_ w2_ S_ T_h h_ k_ ha_, fun w_ h_ => (hlmThm p v l).li v w_ T_h h_⟩]
    [noB, noB, noB, noB, noB, noB, noB, T_h, noB, T_h]
    (by kernel_rfl) (by kernel_rfl) (by kernel_rfl) rfl rfl (by kernel_rfl) ⟨rfl, rfl, rfl, rfl, rfl, rfl, rfl, (fun _ e_ => by cases e_; rfl), rfl, rfl, trivial⟩
    ⟨(fun _ z_ => z_.elim), (fun _ z_ => z_.elim), (fun _ z_ => z_.elim), (fun _ z_ => z_.elim), (fun _ z_ => z_.elim), (fun _ z_ => z_.elim), (fun _ z_ => z_.elim), (fun _ z_ => z_), (fun _ z_ => z_.elim), (fun _ z_ => z_), trivial⟩
    ⟨⟨fun _ x_ => x_, ⟨Tb, hT, hap, hc, hr⟩, fun k_ E_ e_ => by simp at e_⟩, trivial⟩ ?_ ?_
  · refine stepsFM_cons (StepFM.one rfl rfl fun F_ w_ hR hout hD hE_ => y_mov rfl ((hout 0 rfl (by decide)).trans rfl) ⟨rfl, Kept.refl _ _⟩) ?_
    refine stepsFM_cons (StepFM.one rfl rfl fun F_ w_ hR hout hD hE_ => y_mov rfl ((hout 0 rfl (by decide)).trans rfl) ⟨rfl, Kept.refl _ _⟩) ?_
    refine stepsFM_cons (StepFM.one rfl rfl fun F_ w_ hR hout hD hE_ => y_nilc rfl (hD.get 0 rfl rfl rfl).1 ⟨rfl, Kept.refl _ _⟩) ?_
    refine stepsFM_cons (StepFM.one rfl rfl fun F_ w_ hR hout hD hE_ => ?_) ?_
    · obtain ⟨_, _, _, hc1, _⟩ := hE_ 0 _ rfl rfl
      exact y_load_cel rfl (hD.get 0 rfl rfl rfl).1 Try.underlying48 hc1 rfl ⟨rfl, Kept.refl _ _⟩
    refine stepsFM_cons (StepFM.one rfl rfl fun F_ w_ hR hout hD hE_ => y_mov rfl ((hout 1 rfl (by decide)).trans rfl) ⟨rfl, Kept.refl _ _⟩) ?_
    refine stepsFM_cons (StepFM.one rfl rfl fun F_ w_ hR hout hD hE_ => y_tas rfl (hD.get 0 rfl rfl rfl).1 Try.underlying51 rfl ⟨rfl, Kept.refl _ _⟩) ?_
    refine stepsFM_cons (StepFM.one rfl rfl fun F_ w_ hR hout hD hE_ => y_builtRo (r := rPic) (xs := [.tmp 9]) (vs := [picV x]) (l := [x]) rfl rfl rfl (by show [F_ 9] = _; rw [(hD.get 0 rfl rfl rfl).1]) rfl (Nat.le_of_ble_eq_true rfl) (Nat.le_of_ble_eq_true rfl) fun v2 w2 T2 b g k => ⟨k, T2, b, g⟩) ?_
    refine stepsFM_cons (StepFM.turns 0 rfl rfl rfl fun F_ w_ hR hout hD hE_ hA_ => ?_) ?_
    · obtain ⟨T6, h6, _⟩ : ∃ T, RoO rPic w_ T (F_ 10) [x] ∧ Grew w0 noB T := (hD.get 1 rfl rfl rfl).2.1 rfl
      obtain ⟨Tc, hTc, hapc, hc1, hr1⟩ := hA_
      refine y_appendRo (r := rPic) (l := l) (m := [x]) rfl rfl (hD.get 0 rfl rfl rfl).1 rfl hr1 h6.roa (by simp; omega) fun v2 w2 T2 b g k => ?_
      have kT : Kept T_h w_ w2 := k.mono (fun i _ hi => (hTc i).2 (.inr hi))
      exact ⟨kT, fun i => onB p i ∨ T2 i, ⟨T2, fun _ => Iff.rfl, (Apart.grew hapc.symm g (onB_live hc1.lt)).symm, hc1.all k (hapc p rfl), b⟩, fun i hi => hi.elim (fun e => .inl ((hTc i).2 (.inl e))) (fun e => (g i e).elim (fun z => .inl ((hTc i).2 (.inr z))) .inr)⟩
    refine stepsFM_cons (StepFM.one rfl rfl fun F_ w_ hR hout hD hE_ => y_nilc rfl (hD.get 0 rfl rfl rfl).1 ⟨rfl, Kept.refl _ _⟩) ?_
    refine stepsFM_cons (StepFM.uses 7 11 rfl rfl rfl rfl fun F_ w_ Tu hR hout hD hE_ hB_ hG_ => ?_) stepsFM_nil
    obtain ⟨Tc, hTc, hapc, hc1, hr1⟩ := hB_
    have g12 : F_ 12 = .pointer (some ⟨p, 0, none⟩) := (hD.get 0 rfl rfl rfl).1
    refine y_storeCel (P := Try.prog) rfl g12 rfl hc1 hr1.oneC (by kernel_rfl) fun _ w2 c2 k2 => ?_
    exact ⟨k2.mono (fun i _ hi => (hTc i).2 (.inl hi)), Tu, ⟨F_ 11, Tc, hTc, hapc, c2, hr1.all k2 hapc.symm⟩, Grew.refl _ _⟩
  · intro v1 Tf F1 w1 k1 G1 Gt1 Ga1 hF1
    have h2 : Hld w1 (Tf 9) p (l ++ [x]) ∧ Grew w0 T_h (Tf 9) := Gt1 9 _ rfl rfl
    exact end_none ((hF1 13).trans rfl) rfl ⟨Tf 9, rfl, k1, h2.1, h2.2⟩
end Go.Proofs.Ythoafgfcoclkbaa
set_option maxRecDepth 100000
namespace Go.Proofs.Ythoafgfcoclkbaa
open Go.RowKit
theorem oh_pop (p : Nat) (l : List Pic) (T_h : Nat → Prop) (w0 : World) (hl : 0 < l.length) (hm : l.length < 1000) (h_h : Hld w0 T_h p (l)) :
  Calls Try.prog 48 #[.pointer (some ⟨p, 0, none⟩)] w0 fun e w' => ∃ (T_h' : Nat → Prop), e = .returned (.iface 51 (.agg #[.int .i64 ((l.getD (l.length - 1) pcZ).s), .int .i64 ((l.getD (l.length - 1) pcZ).t)])) ∧ Kept (T_h) w0 w' ∧ (Hld w' T_h' p ((l.take (l.length - 1))) ∧ Grew w0 T_h T_h') := by
 refine calls_wq (args := [pt p 0]) 25 Try.func48 rfl rfl (Nat.le_of_ble_eq_true rfl) ?_
 have K0 := Kept.refl T_h w0
 have g_h := Grew.refl w0 T_h
 obtain ⟨v, Tb, hT, hap, hc, hr⟩ := h_h
 have gr1 : Grew w0 T_h (onB p) := fun i h => g_h i ((fun i hi => (hT i).2 (.inl hi)) i h)
 have gr2 : Grew w0 T_h Tb := fun i h => g_h i ((fun i hi => (hT i).2 (.inr hi)) i h)
 have ap3 : Apart (onB p) Tb := hap
 refine wq_seq (wq_region (wl_v (Value.nilIface) rfl rfl (y_asg rfl rfl rr) (wl_nil fun F4 hF5 => ?_)))
 have s6 : F4 0 = pt p 0 := (hF5 0).trans rfl
 have s7 : F4 25 = undef := (hF5 25).trans rfl
 clear hF5
 refine then_normal (wq_seq (wq_region (wl_mv rfl rfl rfl s6 (wl_v (pt p 0) rfl rfl (y_nilc rfl rfl rr) (wl_v v rfl rfl (y_load_cel rfl rfl Try.underlying48 hc rfl rr) (wl_v (iv ((l.length : Nat) : Int)) rfl rfl (y_lenRo (r := rPic) rfl rfl rfl hr.roa rr) (wl_v (iv ((l.length - 1 : Nat) : Int)) rfl rfl (y_sub rfl rfl rfl (i64_n (by omega) (by omega)) rr) (wl_v (iv ((l.length - 1 : Nat) : Int)) rfl rfl (y_asg rfl rfl rr) (wl_nil fun F8 hF9 => ?_)))))))))
 obtain ⟨s10, s11⟩ := t2 hF9 0 s6 25 s7
 have s12 : F8 3 = iv ((l.length - 1 : Nat) : Int) := (hF9 3).trans rfl
 clear hF9
 refine then_normal (wq_seq (wq_region (wl_mv rfl rfl rfl s10 (wl_v (pt p 0) rfl rfl (y_nilc rfl rfl rr) (wl_v v rfl rfl (y_load_cel rfl rfl Try.underlying48 hc rfl rr) (wl_mv rfl rfl rfl s12 (wl_v (bytAddr v ((l.length - 1) * 2)) rfl rfl (y_atRo (r := rPic) (l.length - 1) rfl rfl rfl (by omega) hr.roa (by omega) rr) (wl_v (.agg #[iv ((l.getD (l.length - 1) pcZ).s), iv ((l.getD (l.length - 1) pcZ).t)]) rfl rfl (y_ldRoP (r := rPic) (n := 2) (l.length - 1) 0 stcT_pic rfl rfl hr.roa (by omega) (by decide) rfl rr) (wl_alloc_stc (n := 2) (vs := [iv 0, iv 0]) rfl rfl rfl (by kernel_rfl) fun p13 w14 B16 g17 k15 => ?_)))))))))
 have gr18 : Grew w0 noB (onB p13) := Grew.new K0 g17
 have ap19 : Apart (onB p13) (onB p) := Apart.new g17 (onB_live hc.lt)
 have ap20 : Apart (onB p13) Tb := Apart.new g17 hr.live
 have B21 := hc.all k15 id
 have B22 := hr.all k15 Apart.none
 have K23 := K0.tr k15
 refine wl_store_stc (us := [iv ((l.getD (l.length - 1) pcZ).s), iv ((l.getD (l.length - 1) pcZ).t)]) stcT_pic rfl rfl rfl rfl rfl B16 rfl (oneI rfl (oneI rfl oneN)) fun w24 B25 k26 => ?_
 have B27 := B21.all k26 (ap19.symm p rfl)
 have B28 := B22.all k26 ap20.symm
 have K29 := K23.trans k26 (Grew.ok (S := T_h) gr18 noB_le)
 refine wl_nil fun F30 hF31 => ?_
 obtain ⟨s32, s33, s34⟩ := t3 hF31 0 s10 25 s11 3 s12
 have s35 : F30 4 = pt p13 0 := (hF31 4).trans rfl
 clear hF31
 refine then_normal (wq_seq (wq_region (wl_mv rfl rfl rfl s32 (wl_mv rfl rfl rfl s32 (wl_v (pt p 0) rfl rfl (y_nilc rfl rfl rr) (wl_v v rfl rfl (y_load_cel rfl rfl Try.underlying48 B27 rfl rr) (wl_mv rfl rfl rfl s34 ?_)))))))
 refine wl_op rfl rfl (y_cutRo (r := rPic) (l.length - 1) rfl rfl rfl rfl B28 (by omega) fun v36 B37 => ?_)
 refine wl_v (pt p 0) rfl rfl (y_nilc rfl rfl rr) (wl_store_cel rfl rfl rfl rfl rfl B27 B37.oneC (by kernel_rfl) fun w38 B39 k40 => ?_)
 have B41 := B25.all k40 (ap19 p13 rfl)
 have B42 := B37.all k40 ap3.symm
 have K43 := K29.trans k40 (Grew.ok (S := T_h) gr1 (fun _ x => x))
 refine wl_nil fun F44 hF45 => ?_
 obtain ⟨s46, s47⟩ := t2 hF45 25 s33 4 s35
 clear hF45
 refine then_normal (wq_seq (wq_region (wl_v (.agg #[iv ((l.getD (l.length - 1) pcZ).s), iv ((l.getD (l.length - 1) pcZ).t)]) rfl rfl (y_load_stc stcT_pic rfl s47 B41 rr) (wl_v (.iface 51 (.agg #[iv ((l.getD (l.length - 1) pcZ).s), iv ((l.getD (l.length - 1) pcZ).t)])) rfl rfl (y_mki rfl rfl (by kernel_rfl) rr) (wl_v (.iface 51 (.agg #[iv ((l.getD (l.length - 1) pcZ).s), iv ((l.getD (l.length - 1) pcZ).t)])) rfl rfl (y_asg rfl rfl rr) (wl_nil fun F48 hF49 => ?_))))))
 have s50 := (hF49 25).trans s46
 have s51 : F48 2 = .iface 51 (.agg #[iv ((l.getD (l.length - 1) pcZ).s), iv ((l.getD (l.length - 1) pcZ).t)]) := (hF49 2).trans rfl
 clear hF49
 refine then_normal (wq_ret ?_)
 have B52 : Hld w38 (fun i => (onB p) i ∨ (Tb i)) p (l.take (l.length - 1)) := ⟨v36, Tb, fun i => Iff.rfl, (ap3.symm).symm, B39, B42⟩
 have gr53 : Grew w0 T_h (fun i => (onB p) i ∨ (Tb i)) := fun i h => h.elim (fun y => gr1 i y) (fun y => gr2 i y)
 exact end_tmp (v := .iface 51 (.agg #[iv ((l.getD (l.length - 1) pcZ).s), iv ((l.getD (l.length - 1) pcZ).t)])) s50 rfl rfl s51 ⟨(fun i => (onB p) i ∨ (Tb i)), rfl, K43, ⟨B52, gr53⟩⟩
end Go.Proofs.Ythoafgfcoclkbaa
set_option maxRecDepth 100000
namespace Go.Proofs.Ythoafgfcoclkbaa
open Go.RowKit
theorem row_len : rowOf Try.prog 46 "Len" = some (true, some (21, false)) := by kernel_rfl
theorem row_less : rowOf Try.prog 46 "Less" = some (true, some (47, false)) := by kernel_rfl
theorem row_swap : rowOf Try.prog 46 "Swap" = some (true, some (50, false)) := by kernel_rfl
theorem row_push : rowOf Try.prog 46 "Push" = some (true, some (49, true)) := by kernel_rfl
theorem row_pop : rowOf Try.prog 46 "Pop" = some (true, some (48, true)) := by kernel_rfl
theorem om_len (p : Nat) (l : List Pic) (T_h : Nat → Prop) (w0 : World) (h_h : Hld w0 T_h p l) : CallsM Try.prog 46 (.pointer (some ⟨p, 0, none⟩)) "Len" [] w0 fun e w' => e = .returned (.int .i64 ((l.length : Int))) ∧ Kept (fun _ => False) w0 w' := by
  obtain ⟨v, Tb, hT, hap, hc, hr⟩ := h_h
  exact ⟨_, _, meth_val row_len Try.underlying46 Try.underlying48 rfl hc.cell, fun _ _ => by kernel_rfl, oh_len v l Tb w0 hr.roa⟩
theorem om_less (p : Nat) (l : List Pic) (i j : Nat) (T_h : Nat → Prop) (w0 : World) (hi : i < l.length) (hj : j < l.length) (h_h : Hld w0 T_h p l) : CallsM Try.prog 46 (.pointer (some ⟨p, 0, none⟩)) "Less" [.int .i64 (((i : Nat) : Int)), .int .i64 (((j : Nat) : Int))] w0 fun e w' => e = .returned (.bool (decide (shw l i < shw l j))) ∧ Kept (fun _ => False) w0 w' := by
  obtain ⟨v, Tb, hT, hap, hc, hr⟩ := h_h
  exact ⟨_, _, meth_val row_less Try.underlying46 Try.underlying48 rfl hc.cell, fun _ _ => by kernel_rfl, oh_less v l i j Tb w0 hi hj hr.roa⟩
theorem om_swap (p : Nat) (l : List Pic) (i j : Nat) (T_h : Nat → Prop) (w0 : World) (hi : i < l.length) (hj : j < l.length) (h_h : Hld w0 T_h p l) : CallsM Try.prog 46 (.pointer (some ⟨p, 0, none⟩)) "Swap" [.int .i64 (((i : Nat) : Int)), .int .i64 (((j : Nat) : Int))] w0 fun e w' => ∃ (T_h' : Nat → Prop), e = .returned (.tuple #[]) ∧ Kept T_h w0 w' ∧ (Hld w' T_h' p (swH l i j) ∧ Grew w0 T_h T_h') := by
  obtain ⟨v, Tb, hT, hap, hc, hr⟩ := h_h
  refine ⟨_, _, meth_val row_swap Try.underlying46 Try.underlying48 rfl hc.cell, fun _ _ => by kernel_rfl, (oh_swap v l i j Tb w0 hi hj hr).mono ?_⟩
  rintro e w' ⟨T2, he, k, hb, g⟩
  exact ⟨fun i => onB p i ∨ T2 i, he, k.mono (fun i _ hi => (hT i).2 (.inr hi)), ⟨v, T2, fun _ => Iff.rfl, (Apart.grew hap.symm g (onB_live hc.lt)).symm, hc.all k (hap p rfl), hb⟩, fun i hi => hi.elim (fun e => .inl ((hT i).2 (.inl e))) (fun e => (g i e).elim (fun z => .inl ((hT i).2 (.inr z))) .inr)⟩
theorem om_push (p : Nat) (l : List Pic) (x : Pic) (T_h : Nat → Prop) (w0 : World) (hm : l.length < 1000) (h_h : Hld w0 T_h p l) : CallsM Try.prog 46 (.pointer (some ⟨p, 0, none⟩)) "Push" [.iface 51 (.agg #[.int .i64 x.s, .int .i64 x.t])] w0 fun e w' => ∃ (T_h' : Nat → Prop), e = .returned (.tuple #[]) ∧ Kept T_h w0 w' ∧ (Hld w' T_h' p (l ++ [x]) ∧ Grew w0 T_h T_h') :=
  ⟨_, _, meth_ptr row_push Try.underlying46, fun _ _ => by kernel_rfl, oh_push p l x T_h w0 hm h_h⟩
theorem om_pop (p : Nat) (l : List Pic) (T_h : Nat → Prop) (w0 : World) (hl : 0 < l.length) (hm : l.length < 1000) (h_h : Hld w0 T_h p l) : CallsM Try.prog 46 (.pointer (some ⟨p, 0, none⟩)) "Pop" [] w0 fun e w' => ∃ (T_h' : Nat → Prop), e = .returned (.iface 51 (.agg #[.int .i64 ((l.getD (l.length - 1) pcZ).s), .int .i64 ((l.getD (l.length - 1) pcZ).t)])) ∧ Kept T_h w0 w' ∧ (Hld w' T_h' p (l.take (l.length - 1)) ∧ Grew w0 T_h T_h') :=
  ⟨_, _, meth_ptr row_pop Try.underlying46, fun _ _ => by kernel_rfl, oh_pop p l T_h w0 hl hm h_h⟩
end Go.Proofs.Ythoafgfcoclkbaa
set_option maxRecDepth 100000
namespace Go.Proofs.Ythoafgfcoclkbaa
open Go.RowKit
theorem half_up (k : Nat) : ((k : Int) - 1).tdiv 2 = (((k - 1) / 2 : Nat) : Int) := by
  cases k with
  | zero => decide
  | succ k => rw [show ((k + 1 : Nat) : Int) - 1 = (k : Int) by omega, Int.tdiv_eq_ediv_of_nonneg (by omega)]; omega
theorem ch_up (p : Nat) (l : List Pic) (j : Nat) (T_h : Nat → Prop) (w0 : World) (hj : j < l.length) (hm : l.length < 1000) (h_h : Hld w0 T_h p (l)) :
  Calls Try.prog 25 #[.iface 46 (.pointer (some ⟨p, 0, none⟩)), .int .i64 (((j : Nat) : Int))] w0 fun e w' => ∃ (T_h' : Nat → Prop), e = .returned (.tuple #[]) ∧ Kept (T_h) w0 w' ∧ (Hld w' T_h' p ((upH l j)) ∧ Grew w0 T_h T_h') := by
 refine calls_wq (args := [.iface 46 (pt p 0), iv ((j : Nat) : Int)]) 23 Try.func25 rfl rfl (Nat.le_of_ble_eq_true rfl) ?_
 have K0 := Kept.refl T_h w0
 have g_h := Grew.refl w0 T_h
 refine wq_block (wq_loop (fun nn FF ww => ∃ (k : Nat), ∃ (m : List Pic), ∃ (T1 : Nat → Prop), (upH m k = upH l j) ∧ (k < m.length) ∧ (m.length = l.length) ∧ nn = k ∧ FF 0 = .iface 46 (pt p 0) ∧ FF 23 = undef ∧ FF 1 = iv ((k : Nat) : Int) ∧ Kept T_h w0 ww ∧ Hld ww T1 p m ∧ Grew w0 T_h T1) j ⟨j, l, T_h, rfl, hj, rfl, rfl, rfl, rfl, rfl, K0, h_h, g_h⟩ ?_)
 rintro n5 F2 w3 ⟨k, m, T1, hup, hkm, hml, hn5, s6, s7, s8, K4, B9, gr10⟩
 refine wq_block (wq_seq (wq_region (wl_mv rfl rfl rfl s8 (wl_v (iv (((k : Nat) : Int) - 1)) rfl rfl (y_sub rfl rfl rfl (i64_i rfl (by omega)) rr) (wl_v (iv (((k - 1) / 2 : Nat) : Int)) rfl rfl (y_quo rfl rfl rfl (by first | decide | omega) (by rw [half_up k, IntKind.wrap_i64]; omega) rr) (wl_v (iv (((k - 1) / 2 : Nat) : Int)) rfl rfl (y_asg rfl rfl rr) (wl_nil fun F11 hF12 => ?_)))))))
 obtain ⟨s13, s14, s15⟩ := t3 hF12 0 s6 23 s7 1 s8
 have s16 : F11 4 = iv (((k - 1) / 2 : Nat) : Int) := (hF12 4).trans rfl
 clear hF12
 refine then_normal (wq_seq (wq_seq ?_))
 by_cases d17 : (((k - 1) / 2 : Nat) : Int) = ((k : Nat) : Int)
 ·skip
  refine wq_region (wl_mv rfl rfl rfl s16 (wl_mv rfl rfl rfl s15 (wl_v (.bool true) rfl rfl (y_eqlI rfl rfl rfl (decide_eq_true d17) rr) (wl_v (.bool true) rfl rfl (y_mov rfl rfl rr) (wl_unless 3 false 11 rfl rfl rfl (Or.inl rfl) rfl (wl_unless 3 false 11 rfl rfl rfl (Or.inl rfl) rfl (wl_unless 3 false 11 rfl rfl rfl (Or.inl rfl) rfl (wl_unless 3 false 11 rfl rfl rfl (Or.inl rfl) rfl (wl_unless 3 false 11 rfl rfl rfl (Or.inl rfl) rfl (wl_v (.bool true) rfl rfl (y_pickT rfl rfl rfl rr) (wl_nil fun F18 hF19 => ?_)))))))))))
  have s21 := (hF19 23).trans s14
  have s24 : F18 17 = .bool true := (hF19 17).trans rfl
  clear hF19
  refine then_normal ?_
  refine wq_cond (t := true) s24 (fun _ => ?_) (fun e => by cases e)
  refine wq_exit (then_exit (in_other (by decide) (then_exit (in_here ?_))))
  exact end_none s21 rfl ⟨T1, rfl, K4, ⟨(by rw [← hup, upH_no (by first | omega | (have z_ := of_decide_eq_false ‹decide (shw m k < shw m ((k - 1) / 2)) = false›; omega))]; exact B9), gr10⟩⟩
 ·skip
  rcases Bool.eq_false_or_eq_true (decide (shw m k < shw m ((k - 1) / 2))) with d25 | d25
  ·skip
   refine wq_region (wl_mv rfl rfl rfl s16 (wl_mv rfl rfl rfl s15 (wl_v (.bool false) rfl rfl (y_eqlI rfl rfl rfl (decide_eq_false d17) rr) (wl_v (.bool false) rfl rfl (y_mov rfl rfl rr) (wl_vw (.iface 46 (pt p 0)) 3 false 11 rfl rfl rfl rfl rfl (y_mov rfl s13 rr) (wl_vw (iv ((k : Nat) : Int)) 3 false 11 rfl rfl rfl rfl rfl (y_mov rfl s15 rr) (wl_vw (iv (((k - 1) / 2 : Nat) : Int)) 3 false 11 rfl rfl rfl rfl rfl (y_mov rfl s16 rr) (wl_callw (R := fun v_ w_ => v_ = .bool true ∧ Kept (fun _ => False) w3 w_) 3 false 11 rfl rfl rfl rfl rfl (y_ivk rfl rfl rfl rfl (vsC rfl (vsC rfl vsN)) (om_less p m k ((k - 1) / 2) T1 _ (by omega) (by omega) B9 ) (fun e_ w_ h_ => ⟨_, h_.1, (congrArg Value.bool d25), h_.2⟩)) ?_))))))))
   rintro _ w26 ⟨rfl, k27⟩
   have B28 := B9.all k27 Apart.none
   have K29 := K4.tr k27
   refine wl_vw (.bool false) 3 false 11 rfl rfl rfl rfl rfl (y_not rfl rfl rfl rr) (wl_v (.bool false) rfl rfl (y_pickF rfl rfl rfl rr) (wl_nil fun F30 hF31 => ?_))
   obtain ⟨s32, s33, s34, s35⟩ := t4 hF31 0 s13 23 s14 1 s15 4 s16
   have s36 : F30 17 = .bool false := (hF31 17).trans rfl
   clear hF31
   refine then_normal ?_
   refine wq_cond (t := false) s36 (fun e => by cases e) (fun _ => ?_)
   refine wq_skip (then_normal (wq_seq (wq_region (wl_mv rfl rfl rfl s32 (wl_mv rfl rfl rfl s35 (wl_mv rfl rfl rfl s34 (wl_call (R := fun v_ w_ => ∃ (T39 : Nat → Prop), .tuple #[] = v_ ∧ Kept T1 w26 w_ ∧ (Hld w_ T39 p (swH m ((k - 1) / 2) k) ∧ Grew w26 T1 T39)) rfl rfl (y_ivk rfl rfl rfl rfl (vsC rfl (vsC rfl vsN)) (om_swap p m ((k - 1) / 2) k T1 _ (by omega) (by omega) B28 ) (fun e_ w_ h_ => by obtain ⟨T39_, he_, hr_⟩ := h_; exact ⟨_, he_, T39_, rfl, hr_⟩)) ?_)))))))
   rintro _ w37 ⟨T39, rfl, k38, ⟨B40, g41⟩⟩
   have K42 := K29.trans k38 (fun i hi x => ((Grew.ok (S := T_h) gr10 (fun _ x => x)) i hi x))
   have gr43 := gr10.trans K29 g41
   refine wl_nil fun F44 hF45 => ?_
   obtain ⟨s46, s47, s48⟩ := t3 hF45 0 s32 23 s33 4 s35
   clear hF45
   refine then_normal (wq_region (wl_mv rfl rfl rfl s48 (wl_v (iv (((k - 1) / 2 : Nat) : Int)) rfl rfl (y_asg rfl rfl rr) (wl_nil fun F49 hF50 => ?_))))
   obtain ⟨s51, s52⟩ := t2 hF50 0 s46 23 s47
   have s53 : F49 1 = iv (((k - 1) / 2 : Nat) : Int) := (hF50 1).trans rfl
   clear hF50
   refine in_normal ?_
   exact then_normal ⟨((k - 1) / 2), by omega, (k - 1) / 2, swH m ((k - 1) / 2) k, T39, ((upH_yes (by omega) (of_decide_eq_true ‹decide (shw m k < shw m ((k - 1) / 2)) = true›)).symm.trans hup), (by rw [swH_len]; omega), (by rw [swH_len]; exact hml), rfl, s51, s52, s53, K42, B40, gr43⟩
  ·skip
   refine wq_region (wl_mv rfl rfl rfl s16 (wl_mv rfl rfl rfl s15 (wl_v (.bool false) rfl rfl (y_eqlI rfl rfl rfl (decide_eq_false d17) rr) (wl_v (.bool false) rfl rfl (y_mov rfl rfl rr) (wl_vw (.iface 46 (pt p 0)) 3 false 11 rfl rfl rfl rfl rfl (y_mov rfl s13 rr) (wl_vw (iv ((k : Nat) : Int)) 3 false 11 rfl rfl rfl rfl rfl (y_mov rfl s15 rr) (wl_vw (iv (((k - 1) / 2 : Nat) : Int)) 3 false 11 rfl rfl rfl rfl rfl (y_mov rfl s16 rr) (wl_callw (R := fun v_ w_ => v_ = .bool false ∧ Kept (fun _ => False) w3 w_) 3 false 11 rfl rfl rfl rfl rfl (y_ivk rfl rfl rfl rfl (vsC rfl (vsC rfl vsN)) (om_less p m k ((k - 1) / 2) T1 _ (by omega) (by omega) B9 ) (fun e_ w_ h_ => ⟨_, h_.1, (congrArg Value.bool d25), h_.2⟩)) ?_))))))))
   rintro _ w54 ⟨rfl, k55⟩
   have B56 := B9.all k55 Apart.none
   have K57 := K4.tr k55
   refine wl_vw (.bool true) 3 false 11 rfl rfl rfl rfl rfl (y_not rfl rfl rfl rr) (wl_v (.bool true) rfl rfl (y_pickF rfl rfl rfl rr) (wl_nil fun F58 hF59 => ?_))
   have s61 := (hF59 23).trans s14
   have s64 : F58 17 = .bool true := (hF59 17).trans rfl
   clear hF59
   refine then_normal ?_
   refine wq_cond (t := true) s64 (fun _ => ?_) (fun e => by cases e)
   refine wq_exit (then_exit (in_other (by decide) (then_exit (in_here ?_))))
   exact end_none s61 rfl ⟨T1, rfl, K57, ⟨(by rw [← hup, upH_no (by first | omega | (have z_ := of_decide_eq_false ‹decide (shw m k < shw m ((k - 1) / 2)) = false›; omega))]; exact B56), gr10⟩⟩
def dnI (l : List Pic) (i n : Nat) : Nat := if _h : goH l i n then dnI (swH l i (chH l i n)) (chH l i n) n else i
 termination_by n - i
 decreasing_by unfold goH at _h; have := chH_in (l := l) _h.1; omega
theorem dnI_yes {l : List Pic} {i n : Nat} (h : goH l i n) : dnI l i n = dnI (swH l i (chH l i n)) (chH l i n) n := by
  conv => lhs; rw [dnI]
  rw [dif_pos h]
theorem dnI_no {l : List Pic} {i n : Nat} (h : ¬ goH l i n) : dnI l i n = i := by rw [dnI, dif_neg h]
theorem ch_down (p : Nat) (l : List Pic) (i0 n : Nat) (T_h : Nat → Prop) (w0 : World) (hi0 : i0 < l.length) (hn : n ≤ l.length) (hm : l.length < 1000) (h_h : Hld w0 T_h p (l)) :
  Calls Try.prog 26 #[.iface 46 (.pointer (some ⟨p, 0, none⟩)), .int .i64 (((i0 : Nat) : Int)), .int .i64 (((n : Nat) : Int))] w0 fun e w' => ∃ (T_h' : Nat → Prop), e = .returned (.bool (decide ((i0 : Int) < (dnI l i0 n : Int)))) ∧ Kept (T_h) w0 w' ∧ (Hld w' T_h' p ((dnH l i0 n)) ∧ Grew w0 T_h T_h') := by
 refine calls_wq (args := [.iface 46 (pt p 0), iv ((i0 : Nat) : Int), iv ((n : Nat) : Int)]) 48 Try.func26 rfl rfl (Nat.le_of_ble_eq_true rfl) ?_
 have K0 := Kept.refl T_h w0
 have g_h := Grew.refl w0 T_h
 refine wq_seq (wq_region (wl_v (.bool false) rfl rfl (y_asg rfl rfl rr) (wl_nil fun F1 hF2 => ?_)))
 have s3 : F1 0 = .iface 46 (pt p 0) := (hF2 0).trans rfl
 have s4 : F1 1 = iv ((i0 : Nat) : Int) := (hF2 1).trans rfl
 have s5 : F1 2 = iv ((n : Nat) : Int) := (hF2 2).trans rfl
 have s6 : F1 48 = undef := (hF2 48).trans rfl
 clear hF2
 refine then_normal (wq_seq (wq_region (wl_mv rfl rfl rfl s4 (wl_v (iv ((i0 : Nat) : Int)) rfl rfl (y_asg rfl rfl rr) (wl_nil fun F7 hF8 => ?_)))))
 obtain ⟨s9, s10, s11, s12⟩ := t4 hF8 0 s3 1 s4 2 s5 48 s6
 have s13 : F7 7 = iv ((i0 : Nat) : Int) := (hF8 7).trans rfl
 clear hF8
 refine then_normal (wq_seq (wq_block (wq_loop (fun nn FF ww => ∃ (i : Nat), ∃ (m : List Pic), ∃ (T14 : Nat → Prop), (dnH m i n = dnH l i0 n) ∧ (dnI m i n = dnI l i0 n) ∧ (i < m.length) ∧ (m.length = l.length) ∧ nn = n - i ∧ FF 0 = .iface 46 (pt p 0) ∧ FF 1 = iv ((i0 : Nat) : Int) ∧ FF 2 = iv ((n : Nat) : Int) ∧ FF 48 = undef ∧ FF 7 = iv ((i : Nat) : Int) ∧ Kept T_h w0 ww ∧ Hld ww T14 p m ∧ Grew w0 T_h T14) (n - i0) ⟨i0, l, T_h, rfl, rfl, hi0, rfl, rfl, s9, s10, s11, s12, s13, K0, h_h, g_h⟩ ?_)))
 rintro n18 F15 w16 ⟨i, m, T14, hdl, hdi, him, hml, hn18, s19, s20, s21, s22, s23, K17, B24, gr25⟩
 refine wq_block (wq_seq (wq_region (wl_mv rfl rfl rfl s23 (wl_v (iv ((2 * i : Nat) : Int)) rfl rfl (y_mul rfl rfl rfl (i64_n (by omega) (by omega)) rr) (wl_v (iv ((2 * i + 1 : Nat) : Int)) rfl rfl (y_add rfl rfl rfl (i64_n (by omega) (by omega)) rr) (wl_v (iv ((2 * i + 1 : Nat) : Int)) rfl rfl (y_asg rfl rfl rr) (wl_nil fun F26 hF27 => ?_)))))))
 obtain ⟨s28, s29, s30, s31, s32⟩ := t5 hF27 0 s19 1 s20 2 s21 48 s22 7 s23
 have s33 : F26 8 = iv ((2 * i + 1 : Nat) : Int) := (hF27 8).trans rfl
 clear hF27
 refine then_normal (wq_seq (wq_seq ?_))
 by_cases d34 : ((n : Nat) : Int) ≤ ((2 * i + 1 : Nat) : Int)
 ·skip
  refine wq_region (wl_mv rfl rfl rfl s33 (wl_mv rfl rfl rfl s30 (wl_v (.bool true) rfl rfl (y_geq rfl rfl rfl (decide_eq_true d34) rr) (wl_v (.bool true) rfl rfl (y_mov rfl rfl rr) (wl_unless 3 false 18 rfl rfl rfl (Or.inl rfl) rfl (wl_unless 3 false 18 rfl rfl rfl (Or.inl rfl) rfl (wl_v (.bool true) rfl rfl (y_pickT rfl rfl rfl rr) (wl_nil fun F35 hF36 => ?_))))))))
  obtain ⟨s38, s40, s41⟩ := t3 hF36 1 s29 48 s31 7 s32
  have s43 : F35 21 = .bool true := (hF36 21).trans rfl
  clear hF36
  refine then_normal ?_
  refine wq_cond (t := true) s43 (fun _ => ?_) (fun e => by cases e)
  refine wq_exit (then_exit (in_other (by decide) (then_exit (in_here (then_normal (wq_seq ?_))))))
  have hno : ¬ goH m i n := fun z => by have z1 := z.1; have z2 := z.2; first | omega | (have z_ := of_decide_eq_false ‹decide (shw m (chH m i n) < shw m i) = false›; omega)
  have hdn : dnI l i0 n = i := hdi.symm.trans (dnI_no hno)
  refine wq_region (wl_mv rfl rfl rfl s41 (wl_mv rfl rfl rfl s38 (wl_v (.bool (decide (((i0 : Nat) : Int) < ((i : Nat) : Int)))) rfl rfl (y_gtr rfl rfl rfl rfl rr) (wl_v (.bool (decide (((i0 : Nat) : Int) < ((i : Nat) : Int)))) rfl rfl (y_asg rfl rfl rr) (wl_nil fun F44 hF45 => ?_)))))
  have s46 := (hF45 48).trans s40
  have s47 : F44 6 = .bool (decide (((i0 : Nat) : Int) < ((i : Nat) : Int))) := (hF45 6).trans rfl
  clear hF45
  refine then_normal (wq_ret ?_)
  exact end_tmp (v := .bool (decide (((i0 : Nat) : Int) < ((i : Nat) : Int)))) s46 rfl rfl s47 ⟨T14, (by rw [hdn]), K17, ⟨(by rw [← hdl, dnH_no hno]; exact B24), gr25⟩⟩
 ·skip
  refine wq_region (wl_mv rfl rfl rfl s33 (wl_mv rfl rfl rfl s30 (wl_v (.bool false) rfl rfl (y_geq rfl rfl rfl (decide_eq_false d34) rr) (wl_v (.bool false) rfl rfl (y_mov rfl rfl rr) (wl_vw (iv ((2 * i + 1 : Nat) : Int)) 3 false 18 rfl rfl rfl rfl rfl (y_mov rfl s33 rr) (wl_vw (.bool (decide (((2 * i + 1 : Nat) : Int) < 0))) 3 false 18 rfl rfl rfl rfl rfl (y_lss rfl rfl rfl rfl rr) (wl_v (.bool (decide (((2 * i + 1 : Nat) : Int) < 0))) rfl rfl (y_pickF rfl rfl rfl rr) (wl_nil fun F48 hF49 => ?_))))))))
  obtain ⟨s50, s51, s52, s53, s54, s55⟩ := t6 hF49 0 s28 1 s29 2 s30 48 s31 7 s32 8 s33
  have s56 : F48 21 = .bool (decide (((2 * i + 1 : Nat) : Int) < 0)) := (hF49 21).trans rfl
  clear hF49
  refine then_normal ?_
  refine wq_cond s56 (fun c57 => ?_) (fun c57 => ?_)
  ·replace c57 := of_decide_eq_true c57
   refine wq_exit (then_exit (in_other (by decide) (then_exit (in_here (then_normal (wq_seq ?_))))))
   have hno : ¬ goH m i n := fun z => by have z1 := z.1; have z2 := z.2; first | omega | (have z_ := of_decide_eq_false ‹decide (shw m (chH m i n) < shw m i) = false›; omega)
   have hdn : dnI l i0 n = i := hdi.symm.trans (dnI_no hno)
   refine wq_region (wl_mv rfl rfl rfl s54 (wl_mv rfl rfl rfl s51 (wl_v (.bool (decide (((i0 : Nat) : Int) < ((i : Nat) : Int)))) rfl rfl (y_gtr rfl rfl rfl rfl rr) (wl_v (.bool (decide (((i0 : Nat) : Int) < ((i : Nat) : Int)))) rfl rfl (y_asg rfl rfl rr) (wl_nil fun F58 hF59 => ?_)))))
   have s60 := (hF59 48).trans s53
   have s61 : F58 6 = .bool (decide (((i0 : Nat) : Int) < ((i : Nat) : Int))) := (hF59 6).trans rfl
   clear hF59
   refine then_normal (wq_ret ?_)
   exact end_tmp (v := .bool (decide (((i0 : Nat) : Int) < ((i : Nat) : Int)))) s60 rfl rfl s61 ⟨T14, (by rw [hdn]), K17, ⟨(by rw [← hdl, dnH_no hno]; exact B24), gr25⟩⟩
  ·replace c57 := of_decide_eq_false c57
   refine wq_skip (then_normal (wq_seq (wq_region (wl_mv rfl rfl rfl s55 (wl_v (iv ((2 * i + 1 : Nat) : Int)) rfl rfl (y_asg rfl rfl rr) (wl_nil fun F62 hF63 => ?_))))))
   obtain ⟨s64, s65, s66, s67, s68, s69⟩ := t6 hF63 0 s50 1 s51 2 s52 48 s53 7 s54 8 s55
   have s70 : F62 9 = iv ((2 * i + 1 : Nat) : Int) := (hF63 9).trans rfl
   clear hF63
   refine then_normal (wq_seq (wq_seq (wq_region (wl_mv rfl rfl rfl s69 (wl_v (iv ((2 * i + 2 : Nat) : Int)) rfl rfl (y_add rfl rfl rfl (i64_n (by omega) (by omega)) rr) (wl_v (iv ((2 * i + 2 : Nat) : Int)) rfl rfl (y_asg rfl rfl rr) (wl_nil fun F71 hF72 => ?_)))))))
   obtain ⟨s73, s74, s75, s76, s77, s78, s79⟩ := t7 hF72 0 s64 1 s65 2 s66 48 s67 7 s68 8 s69 9 s70
   have s80 : F71 10 = iv ((2 * i + 2 : Nat) : Int) := (hF72 10).trans rfl
   clear hF72
   refine then_normal (wq_seq ?_)
   by_cases d81 : ((2 * i + 2 : Nat) : Int) < ((n : Nat) : Int)
   ·skip
    refine wq_region (wl_mv rfl rfl rfl s80 (wl_mv rfl rfl rfl s75 (wl_v (.bool true) rfl rfl (y_lss rfl rfl rfl (decide_eq_true d81) rr) (wl_v (.bool true) rfl rfl (y_mov rfl rfl rr) (wl_vw (.iface 46 (pt p 0)) 3 true 28 rfl rfl rfl rfl rfl (y_mov rfl s73 rr) (wl_vw (iv ((2 * i + 2 : Nat) : Int)) 3 true 28 rfl rfl rfl rfl rfl (y_mov rfl s80 rr) (wl_vw (iv ((2 * i + 1 : Nat) : Int)) 3 true 28 rfl rfl rfl rfl rfl (y_mov rfl s78 rr) (wl_callw (R := fun v_ w_ => v_ = .bool (decide (shw m (2 * i + 2) < shw m (2 * i + 1))) ∧ Kept (fun _ => False) w16 w_) 3 true 28 rfl rfl rfl rfl rfl (y_ivk rfl rfl rfl rfl (vsC rfl (vsC rfl vsN)) (om_less p m (2 * i + 2) (2 * i + 1) T14 _ (by omega) (by omega) B24 ) (fun e_ w_ h_ => ⟨_, h_.1, rfl, h_.2⟩)) ?_))))))))
    rintro _ w82 ⟨rfl, k83⟩
    have B84 := B24.all k83 Apart.none
    have K85 := K17.tr k83
    refine wl_v (.bool (decide (shw m (2 * i + 2) < shw m (2 * i + 1)))) rfl rfl (y_pickT rfl rfl rfl rr) (wl_nil fun F86 hF87 => ?_)
    obtain ⟨s88, s89, s90, s91, s92, s93, s94⟩ := t7 hF87 0 s73 1 s74 2 s75 48 s76 7 s77 9 s79 10 s80
    have s95 : F86 33 = .bool (decide (shw m (2 * i + 2) < shw m (2 * i + 1))) := (hF87 33).trans rfl
    clear hF87
    refine then_normal ?_
    refine wq_cond s95 (fun c96 => ?_) (fun c96 => ?_)
    ·skip
     refine wq_region (wl_mv rfl rfl rfl s94 (wl_v (iv ((2 * i + 2 : Nat) : Int)) rfl rfl (y_asg rfl rfl rr) (wl_nil fun F97 hF98 => ?_)))
     obtain ⟨s99, s100, s101, s102, s103⟩ := t5 hF98 0 s88 1 s89 2 s90 48 s91 7 s92
     have s104 : F97 9 = iv ((2 * i + 2 : Nat) : Int) := (hF98 9).trans rfl
     clear hF98
     refine then_normal (wq_seq (wq_seq ?_))
     have hci := chH_in (l := m) (i := i) (n := n) (by omega)
     have s105 : F97 9 = iv ((chH m i n : Nat) : Int) := s104.trans (congrArg (Value.int .i64) (by first | rw [show chH m i n = 2 * i + 2 from if_pos ⟨by omega, of_decide_eq_true ‹decide (shw m (2 * i + 2) < shw m (2 * i + 1)) = true›⟩] | rw [show chH m i n = 2 * i + 1 from if_neg (by first | omega | (have z_ := of_decide_eq_false ‹decide (shw m (2 * i + 2) < shw m (2 * i + 1)) = false›; omega))]))
     rcases Bool.eq_false_or_eq_true (decide (shw m (chH m i n) < shw m i)) with d106 | d106
     ·skip
      refine wq_region (wl_mv rfl rfl rfl s99 (wl_mv rfl rfl rfl s105 (wl_mv rfl rfl rfl s103 (wl_call (R := fun v_ w_ => v_ = .bool true ∧ Kept (fun _ => False) w82 w_) rfl rfl (y_ivk rfl rfl rfl rfl (vsC rfl (vsC rfl vsN)) (om_less p m (chH m i n) i T14 _ (by omega) (by omega) B84 ) (fun e_ w_ h_ => ⟨_, h_.1, (congrArg Value.bool d106), h_.2⟩)) ?_))))
      rintro _ w107 ⟨rfl, k108⟩
      have B109 := B84.all k108 Apart.none
      have K110 := K85.tr k108
      refine wl_v (.bool false) rfl rfl (y_not rfl rfl rfl rr) (wl_nil fun F111 hF112 => ?_)
      obtain ⟨s113, s114, s115, s116, s117, s118⟩ := t6 hF112 0 s99 1 s100 2 s101 48 s102 7 s103 9 s105
      have s119 : F111 39 = .bool false := (hF112 39).trans rfl
      clear hF112
      refine then_normal ?_
      refine wq_cond (t := false) s119 (fun e => by cases e) (fun _ => ?_)
      refine wq_skip (then_normal (wq_seq ?_))
      have hgo : goH m i n := ⟨by omega, of_decide_eq_true ‹decide (shw m (chH m i n) < shw m i) = true›⟩
      refine wq_region (wl_mv rfl rfl rfl s113 (wl_mv rfl rfl rfl s117 (wl_mv rfl rfl rfl s118 (wl_call (R := fun v_ w_ => ∃ (T122 : Nat → Prop), .tuple #[] = v_ ∧ Kept T14 w107 w_ ∧ (Hld w_ T122 p (swH m i (chH m i n)) ∧ Grew w107 T14 T122)) rfl rfl (y_ivk rfl rfl rfl rfl (vsC rfl (vsC rfl vsN)) (om_swap p m i (chH m i n) T14 _ (by omega) (by omega) B109 ) (fun e_ w_ h_ => by obtain ⟨T122_, he_, hr_⟩ := h_; exact ⟨_, he_, T122_, rfl, hr_⟩)) ?_))))
      rintro _ w120 ⟨T122, rfl, k121, ⟨B123, g124⟩⟩
      have K125 := K110.trans k121 (fun i hi x => ((Grew.ok (S := T_h) gr25 (fun _ x => x)) i hi x))
      have gr126 := gr25.trans K110 g124
      refine wl_nil fun F127 hF128 => ?_
      obtain ⟨s129, s130, s131, s132, s133⟩ := t5 hF128 0 s113 1 s114 2 s115 48 s116 9 s118
      clear hF128
      refine then_normal (wq_region (wl_mv rfl rfl rfl s133 (wl_v (iv ((chH m i n : Nat) : Int)) rfl rfl (y_asg rfl rfl rr) (wl_nil fun F134 hF135 => ?_))))
      obtain ⟨s136, s137, s138, s139⟩ := t4 hF135 0 s129 1 s130 2 s131 48 s132
      have s140 : F134 7 = iv ((chH m i n : Nat) : Int) := (hF135 7).trans rfl
      clear hF135
      refine in_normal ?_
      exact then_normal ⟨(n - (chH m i n)), by omega, chH m i n, swH m i (chH m i n), T122, ((dnH_yes hgo).symm.trans hdl), ((dnI_yes hgo).symm.trans hdi), (by rw [swH_len]; omega), (by rw [swH_len]; exact hml), rfl, s136, s137, s138, s139, s140, K125, B123, gr126⟩
     ·skip
      refine wq_region (wl_mv rfl rfl rfl s99 (wl_mv rfl rfl rfl s105 (wl_mv rfl rfl rfl s103 (wl_call (R := fun v_ w_ => v_ = .bool false ∧ Kept (fun _ => False) w82 w_) rfl rfl (y_ivk rfl rfl rfl rfl (vsC rfl (vsC rfl vsN)) (om_less p m (chH m i n) i T14 _ (by omega) (by omega) B84 ) (fun e_ w_ h_ => ⟨_, h_.1, (congrArg Value.bool d106), h_.2⟩)) ?_))))
      rintro _ w141 ⟨rfl, k142⟩
      have B143 := B84.all k142 Apart.none
      have K144 := K85.tr k142
      refine wl_v (.bool true) rfl rfl (y_not rfl rfl rfl rr) (wl_nil fun F145 hF146 => ?_)
      obtain ⟨s148, s150, s151⟩ := t3 hF146 1 s100 48 s102 7 s103
      have s153 : F145 39 = .bool true := (hF146 39).trans rfl
      clear hF146
      refine then_normal ?_
      refine wq_cond (t := true) s153 (fun _ => ?_) (fun e => by cases e)
      refine wq_exit (then_exit (in_other (by decide) (then_exit (in_here (then_normal (wq_seq ?_))))))
      have hno : ¬ goH m i n := fun z => by have z1 := z.1; have z2 := z.2; first | omega | (have z_ := of_decide_eq_false ‹decide (shw m (chH m i n) < shw m i) = false›; omega)
      have hdn : dnI l i0 n = i := hdi.symm.trans (dnI_no hno)
      refine wq_region (wl_mv rfl rfl rfl s151 (wl_mv rfl rfl rfl s148 (wl_v (.bool (decide (((i0 : Nat) : Int) < ((i : Nat) : Int)))) rfl rfl (y_gtr rfl rfl rfl rfl rr) (wl_v (.bool (decide (((i0 : Nat) : Int) < ((i : Nat) : Int)))) rfl rfl (y_asg rfl rfl rr) (wl_nil fun F154 hF155 => ?_)))))
      have s156 := (hF155 48).trans s150
      have s157 : F154 6 = .bool (decide (((i0 : Nat) : Int) < ((i : Nat) : Int))) := (hF155 6).trans rfl
      clear hF155
      refine then_normal (wq_ret ?_)
      exact end_tmp (v := .bool (decide (((i0 : Nat) : Int) < ((i : Nat) : Int)))) s156 rfl rfl s157 ⟨T14, (by rw [hdn]), K144, ⟨(by rw [← hdl, dnH_no hno]; exact B143), gr25⟩⟩
    ·skip
     refine wq_skip (then_normal (wq_seq (wq_seq ?_)))
     have hci := chH_in (l := m) (i := i) (n := n) (by omega)
     have s158 : F86 9 = iv ((chH m i n : Nat) : Int) := s93.trans (congrArg (Value.int .i64) (by first | rw [show chH m i n = 2 * i + 2 from if_pos ⟨by omega, of_decide_eq_true ‹decide (shw m (2 * i + 2) < shw m (2 * i + 1)) = true›⟩] | rw [show chH m i n = 2 * i + 1 from if_neg (by first | omega | (have z_ := of_decide_eq_false ‹decide (shw m (2 * i + 2) < shw m (2 * i + 1)) = false›; omega))]))
     rcases Bool.eq_false_or_eq_true (decide (shw m (chH m i n) < shw m i)) with d159 | d159
     ·skip
      refine wq_region (wl_mv rfl rfl rfl s88 (wl_mv rfl rfl rfl s158 (wl_mv rfl rfl rfl s92 (wl_call (R := fun v_ w_ => v_ = .bool true ∧ Kept (fun _ => False) w82 w_) rfl rfl (y_ivk rfl rfl rfl rfl (vsC rfl (vsC rfl vsN)) (om_less p m (chH m i n) i T14 _ (by omega) (by omega) B84 ) (fun e_ w_ h_ => ⟨_, h_.1, (congrArg Value.bool d159), h_.2⟩)) ?_))))
      rintro _ w160 ⟨rfl, k161⟩
      have B162 := B84.all k161 Apart.none
      have K163 := K85.tr k161
      refine wl_v (.bool false) rfl rfl (y_not rfl rfl rfl rr) (wl_nil fun F164 hF165 => ?_)
      obtain ⟨s166, s167, s168, s169, s170, s171⟩ := t6 hF165 0 s88 1 s89 2 s90 48 s91 7 s92 9 s158
      have s172 : F164 39 = .bool false := (hF165 39).trans rfl
      clear hF165
      refine then_normal ?_
      refine wq_cond (t := false) s172 (fun e => by cases e) (fun _ => ?_)
      refine wq_skip (then_normal (wq_seq ?_))
      have hgo : goH m i n := ⟨by omega, of_decide_eq_true ‹decide (shw m (chH m i n) < shw m i) = true›⟩
      refine wq_region (wl_mv rfl rfl rfl s166 (wl_mv rfl rfl rfl s170 (wl_mv rfl rfl rfl s171 (wl_call (R := fun v_ w_ => ∃ (T175 : Nat → Prop), .tuple #[] = v_ ∧ Kept T14 w160 w_ ∧ (Hld w_ T175 p (swH m i (chH m i n)) ∧ Grew w160 T14 T175)) rfl rfl (y_ivk rfl rfl rfl rfl (vsC rfl (vsC rfl vsN)) (om_swap p m i (chH m i n) T14 _ (by omega) (by omega) B162 ) (fun e_ w_ h_ => by obtain ⟨T175_, he_, hr_⟩ := h_; exact ⟨_, he_, T175_, rfl, hr_⟩)) ?_))))
      rintro _ w173 ⟨T175, rfl, k174, ⟨B176, g177⟩⟩
      have K178 := K163.trans k174 (fun i hi x => ((Grew.ok (S := T_h) gr25 (fun _ x => x)) i hi x))
      have gr179 := gr25.trans K163 g177
      refine wl_nil fun F180 hF181 => ?_
      obtain ⟨s182, s183, s184, s185, s186⟩ := t5 hF181 0 s166 1 s167 2 s168 48 s169 9 s171
      clear hF181
      refine then_normal (wq_region (wl_mv rfl rfl rfl s186 (wl_v (iv ((chH m i n : Nat) : Int)) rfl rfl (y_asg rfl rfl rr) (wl_nil fun F187 hF188 => ?_))))
      obtain ⟨s189, s190, s191, s192⟩ := t4 hF188 0 s182 1 s183 2 s184 48 s185
      have s193 : F187 7 = iv ((chH m i n : Nat) : Int) := (hF188 7).trans rfl
      clear hF188
      refine in_normal ?_
      exact then_normal ⟨(n - (chH m i n)), by omega, chH m i n, swH m i (chH m i n), T175, ((dnH_yes hgo).symm.trans hdl), ((dnI_yes hgo).symm.trans hdi), (by rw [swH_len]; omega), (by rw [swH_len]; exact hml), rfl, s189, s190, s191, s192, s193, K178, B176, gr179⟩
     ·skip
      refine wq_region (wl_mv rfl rfl rfl s88 (wl_mv rfl rfl rfl s158 (wl_mv rfl rfl rfl s92 (wl_call (R := fun v_ w_ => v_ = .bool false ∧ Kept (fun _ => False) w82 w_) rfl rfl (y_ivk rfl rfl rfl rfl (vsC rfl (vsC rfl vsN)) (om_less p m (chH m i n) i T14 _ (by omega) (by omega) B84 ) (fun e_ w_ h_ => ⟨_, h_.1, (congrArg Value.bool d159), h_.2⟩)) ?_))))
      rintro _ w194 ⟨rfl, k195⟩
      have B196 := B84.all k195 Apart.none
      have K197 := K85.tr k195
      refine wl_v (.bool true) rfl rfl (y_not rfl rfl rfl rr) (wl_nil fun F198 hF199 => ?_)
      obtain ⟨s201, s203, s204⟩ := t3 hF199 1 s89 48 s91 7 s92
      have s206 : F198 39 = .bool true := (hF199 39).trans rfl
      clear hF199
      refine then_normal ?_
      refine wq_cond (t := true) s206 (fun _ => ?_) (fun e => by cases e)
      refine wq_exit (then_exit (in_other (by decide) (then_exit (in_here (then_normal (wq_seq ?_))))))
      have hno : ¬ goH m i n := fun z => by have z1 := z.1; have z2 := z.2; first | omega | (have z_ := of_decide_eq_false ‹decide (shw m (chH m i n) < shw m i) = false›; omega)
      have hdn : dnI l i0 n = i := hdi.symm.trans (dnI_no hno)
      refine wq_region (wl_mv rfl rfl rfl s204 (wl_mv rfl rfl rfl s201 (wl_v (.bool (decide (((i0 : Nat) : Int) < ((i : Nat) : Int)))) rfl rfl (y_gtr rfl rfl rfl rfl rr) (wl_v (.bool (decide (((i0 : Nat) : Int) < ((i : Nat) : Int)))) rfl rfl (y_asg rfl rfl rr) (wl_nil fun F207 hF208 => ?_)))))
      have s209 := (hF208 48).trans s203
      have s210 : F207 6 = .bool (decide (((i0 : Nat) : Int) < ((i : Nat) : Int))) := (hF208 6).trans rfl
      clear hF208
      refine then_normal (wq_ret ?_)
      exact end_tmp (v := .bool (decide (((i0 : Nat) : Int) < ((i : Nat) : Int)))) s209 rfl rfl s210 ⟨T14, (by rw [hdn]), K197, ⟨(by rw [← hdl, dnH_no hno]; exact B196), gr25⟩⟩
   ·skip
    refine wq_region (wl_mv rfl rfl rfl s80 (wl_mv rfl rfl rfl s75 (wl_v (.bool false) rfl rfl (y_lss rfl rfl rfl (decide_eq_false d81) rr) (wl_v (.bool false) rfl rfl (y_mov rfl rfl rr) (wl_unless 3 true 28 rfl rfl rfl (Or.inl rfl) rfl (wl_unless 3 true 28 rfl rfl rfl (Or.inl rfl) rfl (wl_unless 3 true 28 rfl rfl rfl (Or.inl rfl) rfl (wl_unless 3 true 28 rfl rfl rfl (Or.inl rfl) rfl (wl_v (.bool false) rfl rfl (y_pickF rfl rfl rfl rr) (wl_nil fun F211 hF212 => ?_))))))))))
    obtain ⟨s213, s214, s215, s216, s217, s218⟩ := t6 hF212 0 s73 1 s74 2 s75 48 s76 7 s77 9 s79
    have s220 : F211 33 = .bool false := (hF212 33).trans rfl
    clear hF212
    refine then_normal ?_
    refine wq_cond (t := false) s220 (fun e => by cases e) (fun _ => ?_)
    refine wq_skip (then_normal (wq_seq (wq_seq ?_)))
    have hci := chH_in (l := m) (i := i) (n := n) (by omega)
    have s221 : F211 9 = iv ((chH m i n : Nat) : Int) := s218.trans (congrArg (Value.int .i64) (by first | rw [show chH m i n = 2 * i + 2 from if_pos ⟨by omega, of_decide_eq_true ‹decide (shw m (2 * i + 2) < shw m (2 * i + 1)) = true›⟩] | rw [show chH m i n = 2 * i + 1 from if_neg (by first | omega | (have z_ := of_decide_eq_false ‹decide (shw m (2 * i + 2) < shw m (2 * i + 1)) = false›; omega))]))
    rcases Bool.eq_false_or_eq_true (decide (shw m (chH m i n) < shw m i)) with d222 | d222
    ·skip
     refine wq_region (wl_mv rfl rfl rfl s213 (wl_mv rfl rfl rfl s221 (wl_mv rfl rfl rfl s217 (wl_call (R := fun v_ w_ => v_ = .bool true ∧ Kept (fun _ => False) w16 w_) rfl rfl (y_ivk rfl rfl rfl rfl (vsC rfl (vsC rfl vsN)) (om_less p m (chH m i n) i T14 _ (by omega) (by omega) B24 ) (fun e_ w_ h_ => ⟨_, h_.1, (congrArg Value.bool d222), h_.2⟩)) ?_))))
     rintro _ w223 ⟨rfl, k224⟩
     have B225 := B24.all k224 Apart.none
     have K226 := K17.tr k224
     refine wl_v (.bool false) rfl rfl (y_not rfl rfl rfl rr) (wl_nil fun F227 hF228 => ?_)
     obtain ⟨s229, s230, s231, s232, s233, s234⟩ := t6 hF228 0 s213 1 s214 2 s215 48 s216 7 s217 9 s221
     have s235 : F227 39 = .bool false := (hF228 39).trans rfl
     clear hF228
     refine then_normal ?_
     refine wq_cond (t := false) s235 (fun e => by cases e) (fun _ => ?_)
     refine wq_skip (then_normal (wq_seq ?_))
     have hgo : goH m i n := ⟨by omega, of_decide_eq_true ‹decide (shw m (chH m i n) < shw m i) = true›⟩
     refine wq_region (wl_mv rfl rfl rfl s229 (wl_mv rfl rfl rfl s233 (wl_mv rfl rfl rfl s234 (wl_call (R := fun v_ w_ => ∃ (T238 : Nat → Prop), .tuple #[] = v_ ∧ Kept T14 w223 w_ ∧ (Hld w_ T238 p (swH m i (chH m i n)) ∧ Grew w223 T14 T238)) rfl rfl (y_ivk rfl rfl rfl rfl (vsC rfl (vsC rfl vsN)) (om_swap p m i (chH m i n) T14 _ (by omega) (by omega) B225 ) (fun e_ w_ h_ => by obtain ⟨T238_, he_, hr_⟩ := h_; exact ⟨_, he_, T238_, rfl, hr_⟩)) ?_))))
     rintro _ w236 ⟨T238, rfl, k237, ⟨B239, g240⟩⟩
     have K241 := K226.trans k237 (fun i hi x => ((Grew.ok (S := T_h) gr25 (fun _ x => x)) i hi x))
     have gr242 := gr25.trans K226 g240
     refine wl_nil fun F243 hF244 => ?_
     obtain ⟨s245, s246, s247, s248, s249⟩ := t5 hF244 0 s229 1 s230 2 s231 48 s232 9 s234
     clear hF244
     refine then_normal (wq_region (wl_mv rfl rfl rfl s249 (wl_v (iv ((chH m i n : Nat) : Int)) rfl rfl (y_asg rfl rfl rr) (wl_nil fun F250 hF251 => ?_))))
     obtain ⟨s252, s253, s254, s255⟩ := t4 hF251 0 s245 1 s246 2 s247 48 s248
     have s256 : F250 7 = iv ((chH m i n : Nat) : Int) := (hF251 7).trans rfl
     clear hF251
     refine in_normal ?_
     exact then_normal ⟨(n - (chH m i n)), by omega, chH m i n, swH m i (chH m i n), T238, ((dnH_yes hgo).symm.trans hdl), ((dnI_yes hgo).symm.trans hdi), (by rw [swH_len]; omega), (by rw [swH_len]; exact hml), rfl, s252, s253, s254, s255, s256, K241, B239, gr242⟩
    ·skip
     refine wq_region (wl_mv rfl rfl rfl s213 (wl_mv rfl rfl rfl s221 (wl_mv rfl rfl rfl s217 (wl_call (R := fun v_ w_ => v_ = .bool false ∧ Kept (fun _ => False) w16 w_) rfl rfl (y_ivk rfl rfl rfl rfl (vsC rfl (vsC rfl vsN)) (om_less p m (chH m i n) i T14 _ (by omega) (by omega) B24 ) (fun e_ w_ h_ => ⟨_, h_.1, (congrArg Value.bool d222), h_.2⟩)) ?_))))
     rintro _ w257 ⟨rfl, k258⟩
     have B259 := B24.all k258 Apart.none
     have K260 := K17.tr k258
     refine wl_v (.bool true) rfl rfl (y_not rfl rfl rfl rr) (wl_nil fun F261 hF262 => ?_)
     obtain ⟨s264, s266, s267⟩ := t3 hF262 1 s214 48 s216 7 s217
     have s269 : F261 39 = .bool true := (hF262 39).trans rfl
     clear hF262
     refine then_normal ?_
     refine wq_cond (t := true) s269 (fun _ => ?_) (fun e => by cases e)
     refine wq_exit (then_exit (in_other (by decide) (then_exit (in_here (then_normal (wq_seq ?_))))))
     have hno : ¬ goH m i n := fun z => by have z1 := z.1; have z2 := z.2; first | omega | (have z_ := of_decide_eq_false ‹decide (shw m (chH m i n) < shw m i) = false›; omega)
     have hdn : dnI l i0 n = i := hdi.symm.trans (dnI_no hno)
     refine wq_region (wl_mv rfl rfl rfl s267 (wl_mv rfl rfl rfl s264 (wl_v (.bool (decide (((i0 : Nat) : Int) < ((i : Nat) : Int)))) rfl rfl (y_gtr rfl rfl rfl rfl rr) (wl_v (.bool (decide (((i0 : Nat) : Int) < ((i : Nat) : Int)))) rfl rfl (y_asg rfl rfl rr) (wl_nil fun F270 hF271 => ?_)))))
     have s272 := (hF271 48).trans s266
     have s273 : F270 6 = .bool (decide (((i0 : Nat) : Int) < ((i : Nat) : Int))) := (hF271 6).trans rfl
     clear hF271
     refine then_normal (wq_ret ?_)
     exact end_tmp (v := .bool (decide (((i0 : Nat) : Int) < ((i : Nat) : Int)))) s272 rfl rfl s273 ⟨T14, (by rw [hdn]), K260, ⟨(by rw [← hdl, dnH_no hno]; exact B259), gr25⟩⟩
theorem pop_len {l : List Pic} (h : 0 < l.length) : (dnH (swH l 0 (l.length - 1)) 0 (l.length - 1)).length = l.length := by
  rw [dn_len (by rw [swH_len]; exact h) (by rw [swH_len]; omega), swH_len]
theorem pop_got {l : List Pic} (h : 0 < l.length) : (dnH (swH l 0 (l.length - 1)) 0 (l.length - 1)).getD (l.length - 1) pcZ = l.getD 0 pcZ := by
  have h1 := popH_last h
  have h2 := pop_len h
  have h3 : l.length - 1 < (dnH (swH l 0 (l.length - 1)) 0 (l.length - 1)).length := by rw [h2]; omega
  rw [List.drop_eq_getElem_cons h3] at h1
  have h4 := (List.cons.inj h1).1
  rw [List.getD_eq_getElem?_getD, List.getElem?_eq_getElem h3, Option.getD_some, h4]
theorem ch_push (p : Nat) (l : List Pic) (x : Pic) (T_h : Nat → Prop) (w0 : World) (hm : l.length < 900) (h_h : Hld w0 T_h p (l)) :
  Calls Try.prog 20 #[.iface 46 (.pointer (some ⟨p, 0, none⟩)), .iface 51 (.agg #[.int .i64 (x.s), .int .i64 (x.t)])] w0 fun e w' => ∃ (T_h' : Nat → Prop), e = .returned (.tuple #[]) ∧ Kept (T_h) w0 w' ∧ (Hld w' T_h' p ((pushH l x)) ∧ Grew w0 T_h T_h') := by
 refine calls_wq (args := [.iface 46 (pt p 0), .iface 51 (.agg #[iv (x.s), iv (x.t)])]) 12 Try.func20 rfl rfl (Nat.le_of_ble_eq_true rfl) ?_
 have K0 := Kept.refl T_h w0
 have hl1 : (l ++ [x]).length = l.length + 1 := by rw [List.length_append, List.length_singleton]
 have g_h := Grew.refl w0 T_h
 refine wq_seq (wq_region (wl_v (.iface 46 (pt p 0)) rfl rfl (y_mov rfl rfl rr) (wl_v (.iface 51 (.agg #[iv (x.s), iv (x.t)])) rfl rfl (y_mov rfl rfl rr) (wl_call (R := fun v_ w_ => ∃ (T3 : Nat → Prop), .tuple #[] = v_ ∧ Kept T_h w0 w_ ∧ (Hld w_ T3 p (l ++ [x]) ∧ Grew w0 T_h T3)) rfl rfl (y_ivk rfl rfl rfl rfl (vsC rfl vsN) (om_push p l _ T_h _ (by omega) h_h ) (fun e_ w_ h_ => by obtain ⟨T3_, he_, hr_⟩ := h_; exact ⟨_, he_, T3_, rfl, hr_⟩)) ?_))))
 rintro _ w1 ⟨T3, rfl, k2, ⟨B4, g5⟩⟩
 have K6 := K0.trans k2 (fun i hi x => ((Grew.ok (S := T_h) g_h (fun _ x => x)) i hi x))
 have gr7 := g_h.trans K0 g5
 refine wl_nil fun F8 hF9 => ?_
 have s10 : F8 0 = .iface 46 (pt p 0) := (hF9 0).trans rfl
 have s11 : F8 12 = undef := (hF9 12).trans rfl
 clear hF9
 refine then_normal (wq_region (wl_mv rfl rfl rfl s10 (wl_mv rfl rfl rfl s10 (wl_call (R := fun v_ w_ => v_ = iv ((l ++ [x]).length : Int) ∧ Kept (fun _ => False) w1 w_) rfl rfl (y_ivk rfl rfl rfl rfl vsN (om_len p (l ++ [x]) T3 _  B4 ) (fun e_ w_ h_ => ⟨_, h_.1, rfl, h_.2⟩)) ?_))))
 rintro _ w12 ⟨rfl, k13⟩
 have B14 := B4.all k13 Apart.none
 have K15 := K6.tr k13
 refine wl_v (iv ((l.length : Nat) : Int)) rfl rfl (y_sub rfl rfl rfl (i64_n (by omega) (by omega)) rr) (wl_call (R := fun v_ w_ => ∃ (T18 : Nat → Prop), .tuple #[] = v_ ∧ Kept T3 w12 w_ ∧ (Hld w_ T18 p (upH (l ++ [x]) (l.length)) ∧ Grew w12 T3 T18)) rfl rfl (y_cs rfl rfl rfl (fun _ _ => by kernel_rfl) (ev_func _) (vsC rfl (vsC rfl vsN)) (ch_up p (l ++ [x]) (l.length) T3 _ (by omega) (by omega) B14 ) (fun e_ w_ h_ => by obtain ⟨T18_, he_, hr_⟩ := h_; exact ⟨_, he_, T18_, rfl, hr_⟩)) ?_)
 rintro _ w16 ⟨T18, rfl, k17, ⟨B19, g20⟩⟩
 have K21 := K15.trans k17 (fun i hi x => ((Grew.ok (S := T_h) gr7 (fun _ x => x)) i hi x))
 have gr22 := gr7.trans K15 g20
 refine wl_nil fun F23 hF24 => ?_
 have s25 := (hF24 12).trans s11
 clear hF24
 exact end_none s25 rfl ⟨T18, rfl, K21, ⟨B19, gr22⟩⟩
theorem ch_pop (p : Nat) (l : List Pic) (T_h : Nat → Prop) (w0 : World) (hl : 0 < l.length) (hm : l.length < 900) (h_h : Hld w0 T_h p (l)) :
  Calls Try.prog 22 #[.iface 46 (.pointer (some ⟨p, 0, none⟩))] w0 fun e w' => ∃ (T_h' : Nat → Prop), e = .returned (.iface 51 (.agg #[.int .i64 ((l.getD 0 pcZ).s), .int .i64 ((l.getD 0 pcZ).t)])) ∧ Kept (T_h) w0 w' ∧ (Hld w' T_h' p ((popH l)) ∧ Grew w0 T_h T_h') := by
 refine calls_wq (args := [.iface 46 (pt p 0)]) 15 Try.func22 rfl rfl (Nat.le_of_ble_eq_true rfl) ?_
 have K0 := Kept.refl T_h w0
 have hsl : (swH l 0 (l.length - 1)).length = l.length := swH_len _ _ _
 have hdl := pop_len hl
 have g_h := Grew.refl w0 T_h
 refine wq_seq (wq_region (wl_v (Value.nilIface) rfl rfl (y_asg rfl rfl rr) (wl_nil fun F1 hF2 => ?_)))
 have s3 : F1 0 = .iface 46 (pt p 0) := (hF2 0).trans rfl
 have s4 : F1 15 = undef := (hF2 15).trans rfl
 clear hF2
 refine then_normal (wq_seq (wq_region (wl_mv rfl rfl rfl s3 (wl_call (R := fun v_ w_ => v_ = iv (l.length : Int) ∧ Kept (fun _ => False) w0 w_) rfl rfl (y_ivk rfl rfl rfl rfl vsN (om_len p l T_h _  h_h ) (fun e_ w_ h_ => ⟨_, h_.1, rfl, h_.2⟩)) ?_))))
 rintro _ w5 ⟨rfl, k6⟩
 have B7 := h_h.all k6 Apart.none
 have K8 := K0.tr k6
 refine wl_v (iv ((l.length - 1 : Nat) : Int)) rfl rfl (y_sub rfl rfl rfl (i64_n (by omega) (by omega)) rr) (wl_v (iv ((l.length - 1 : Nat) : Int)) rfl rfl (y_asg rfl rfl rr) (wl_nil fun F9 hF10 => ?_))
 obtain ⟨s11, s12⟩ := t2 hF10 0 s3 15 s4
 have s13 : F9 3 = iv ((l.length - 1 : Nat) : Int) := (hF10 3).trans rfl
 clear hF10
 refine then_normal (wq_seq (wq_region (wl_mv rfl rfl rfl s11 (wl_mv rfl rfl rfl s13 (wl_call (R := fun v_ w_ => ∃ (T16 : Nat → Prop), .tuple #[] = v_ ∧ Kept T_h w5 w_ ∧ (Hld w_ T16 p (swH l 0 (l.length - 1)) ∧ Grew w5 T_h T16)) rfl rfl (y_ivk rfl rfl rfl rfl (vsC rfl (vsC rfl vsN)) (om_swap p l 0 (l.length - 1) T_h _ (by omega) (by omega) B7 ) (fun e_ w_ h_ => by obtain ⟨T16_, he_, hr_⟩ := h_; exact ⟨_, he_, T16_, rfl, hr_⟩)) ?_)))))
 rintro _ w14 ⟨T16, rfl, k15, ⟨B17, g18⟩⟩
 have K19 := K8.trans k15 (fun i hi x => ((Grew.ok (S := T_h) g_h (fun _ x => x)) i hi x))
 have gr20 := g_h.trans K8 g18
 refine wl_nil fun F21 hF22 => ?_
 obtain ⟨s23, s24, s25⟩ := t3 hF22 0 s11 15 s12 3 s13
 clear hF22
 refine then_normal (wq_seq (wq_region (wl_mv rfl rfl rfl s23 (wl_mv rfl rfl rfl s25 (wl_call (R := fun v_ w_ => ∃ (T28 : Nat → Prop), .bool (decide ((0 : Int) < (dnI (swH l 0 (l.length - 1)) 0 (l.length - 1) : Int))) = v_ ∧ Kept T16 w14 w_ ∧ (Hld w_ T28 p (dnH (swH l 0 (l.length - 1)) 0 (l.length - 1)) ∧ Grew w14 T16 T28)) rfl rfl (y_cs rfl rfl rfl (fun _ _ => by kernel_rfl) (ev_func _) (vsC rfl (vsC rfl (vsC rfl vsN))) (ch_down p (swH l 0 (l.length - 1)) 0 (l.length - 1) T16 _ (by omega) (by omega) (by omega) B17 ) (fun e_ w_ h_ => by obtain ⟨T28_, he_, hr_⟩ := h_; exact ⟨_, he_, T28_, rfl, hr_⟩)) ?_)))))
 rintro _ w26 ⟨T28, rfl, k27, ⟨B29, g30⟩⟩
 have K31 := K19.trans k27 (fun i hi x => ((Grew.ok (S := T_h) gr20 (fun _ x => x)) i hi x))
 have gr32 := gr20.trans K19 g30
 refine wl_nil fun F33 hF34 => ?_
 obtain ⟨s35, s36⟩ := t2 hF34 0 s23 15 s24
 clear hF34
 refine then_normal (wq_seq (wq_region (wl_mv rfl rfl rfl s35 (wl_call (R := fun v_ w_ => ∃ (T39 : Nat → Prop), .iface 51 (.agg #[iv (((dnH (swH l 0 (l.length - 1)) 0 (l.length - 1)).getD ((dnH (swH l 0 (l.length - 1)) 0 (l.length - 1)).length - 1) pcZ).s), iv (((dnH (swH l 0 (l.length - 1)) 0 (l.length - 1)).getD ((dnH (swH l 0 (l.length - 1)) 0 (l.length - 1)).length - 1) pcZ).t)]) = v_ ∧ Kept T28 w26 w_ ∧ (Hld w_ T39 p ((dnH (swH l 0 (l.length - 1)) 0 (l.length - 1)).take ((dnH (swH l 0 (l.length - 1)) 0 (l.length - 1)).length - 1)) ∧ Grew w26 T28 T39)) rfl rfl (y_ivk rfl rfl rfl rfl vsN (om_pop p (dnH (swH l 0 (l.length - 1)) 0 (l.length - 1)) T28 _ (by omega) (by omega) B29 ) (fun e_ w_ h_ => by obtain ⟨T39_, he_, hr_⟩ := h_; exact ⟨_, he_, T39_, rfl, hr_⟩)) ?_))))
 rintro _ w37 ⟨T39, rfl, k38, ⟨B40, g41⟩⟩
 have K42 := K31.trans k38 (fun i hi x => ((Grew.ok (S := T_h) gr32 (fun _ x => x)) i hi x))
 have gr43 := gr32.trans K31 g41
 refine wl_v (.iface 51 (.agg #[iv (((dnH (swH l 0 (l.length - 1)) 0 (l.length - 1)).getD ((dnH (swH l 0 (l.length - 1)) 0 (l.length - 1)).length - 1) pcZ).s), iv (((dnH (swH l 0 (l.length - 1)) 0 (l.length - 1)).getD ((dnH (swH l 0 (l.length - 1)) 0 (l.length - 1)).length - 1) pcZ).t)])) rfl rfl (y_asg rfl rfl rr) (wl_nil fun F44 hF45 => ?_)
 have s46 := (hF45 15).trans s36
 have s47 : F44 2 = .iface 51 (.agg #[iv (((dnH (swH l 0 (l.length - 1)) 0 (l.length - 1)).getD ((dnH (swH l 0 (l.length - 1)) 0 (l.length - 1)).length - 1) pcZ).s), iv (((dnH (swH l 0 (l.length - 1)) 0 (l.length - 1)).getD ((dnH (swH l 0 (l.length - 1)) 0 (l.length - 1)).length - 1) pcZ).t)]) := (hF45 2).trans rfl
 clear hF45
 refine then_normal (wq_ret ?_)
 exact end_tmp (v := .iface 51 (.agg #[iv (((dnH (swH l 0 (l.length - 1)) 0 (l.length - 1)).getD ((dnH (swH l 0 (l.length - 1)) 0 (l.length - 1)).length - 1) pcZ).s), iv (((dnH (swH l 0 (l.length - 1)) 0 (l.length - 1)).getD ((dnH (swH l 0 (l.length - 1)) 0 (l.length - 1)).length - 1) pcZ).t)])) s46 rfl rfl s47 ⟨T39, (by rw [hdl, pop_got hl]), K42, ⟨(by have z_ := B40; rw [hdl] at z_; exact z_), gr43⟩⟩
end Go.Proofs.Ythoafgfcoclkbaa
set_option maxRecDepth 100000
namespace Go.Proofs.Ythoafgfcoclkbaa
open Go.RowKit
def intsV (xs : List Int) : Array Value := (xs.map fun x => Value.int .i64 x).toArray
def sameI (xs ys : List Int) : Bool := decide (xs = ys)
theorem sameI_self (xs : List Int) : sameI xs xs = true := decide_eq_true rfl
theorem part_i64 (w : World) (xs : List Int) (i : Nat) (z : Int) (h : xs[i]? = some z) : (part 3 (intsV xs) i).run Try.prog w = .ok (.int .i64 z) w := by
  have e : (intsV xs)[i]? = some (.int .i64 z) := by
    unfold intsV
    rw [List.getElem?_toArray, List.getElem?_map, h]; rfl
  simp [part, isAgg, run_underlying Try.underlying3, e]
theorem run_same_fields (w : World) (d : Nat) (xs ys : List Int) : ∀ (fs : List Field) (k : Nat), fs.map (fun f => (f.name == "_", f.type, f.offset)) = (List.range' k fs.length).map (fun i => (false, 3, i)) → xs.length = k + fs.length → ys.length = k + fs.length →
    (Op.eqFields (d + 1) (intsV xs) (intsV ys) fs).run Try.prog w = .ok (sameI (xs.drop k) (ys.drop k)) w := by
  intro fs
  induction fs with
  | nil =>
    intro k _ hx hy
    simp only [List.length_nil, Nat.add_zero] at hx hy
    rw [List.drop_of_length_le (by omega), List.drop_of_length_le (by omega), sameI_self]
    simp [Op.eqFields]
  | cons f r ih =>
    intro k hf hx hy
    simp only [List.length_cons] at hx hy
    simp only [List.map_cons, List.length_cons, List.range'_succ, List.cons.injEq, Prod.mk.injEq] at hf
    obtain ⟨⟨hn, ht, ho⟩, hr⟩ := hf
    have hn' : f.name ≠ "_" := by simpa using hn
    have hkx : k < xs.length := by omega
    have hky : k < ys.length := by omega
    have p1 := part_i64 w xs k xs[k] (List.getElem?_eq_getElem hkx)
    have p2 := part_i64 w ys k ys[k] (List.getElem?_eq_getElem hky)
    have p3 := ih (k + 1) hr (by omega) (by omega)
    have ex : xs.drop k = xs[k] :: xs.drop (k + 1) := List.drop_eq_getElem_cons hkx
    have ey : ys.drop k = ys[k] :: ys.drop (k + 1) := List.drop_eq_getElem_cons hky
    have hs : sameI (xs.drop k) (ys.drop k) = (decide (xs[k] = ys[k]) && sameI (xs.drop (k + 1)) (ys.drop (k + 1))) := by
      rw [ex, ey]
      generalize xs[k] = a
      generalize ys[k] = b
      generalize xs.drop (k + 1) = X
      generalize ys.drop (k + 1) = Y
      unfold sameI
      by_cases h : a = b <;> simp [h]
    rw [hs]
    generalize sameI (xs.drop (k + 1)) (ys.drop (k + 1)) = q at p3
    generalize xs[k] = a at p1
    generalize ys[k] = b at p2
    simp only [Op.eqFields, ht, ho]
    rw [if_pos hn']
    simp only [Sem.run_bind, p1, p2, Result.andThen_ok, run_equalIn_int w d 3 .i64 .i64 _ _ Try.underlying3]
    by_cases h1 : a = b
    · subst h1
      simp only [beq_self_eq_true, Bool.not_true, Bool.false_eq_true, if_false, p3, decide_true, Bool.true_and]
    · have : (a == b) = false := by simpa using h1
      simp [this, h1]
def StructI (ty : TypeId) (n : Nat) : Prop := (Try.prog.underlying ty = some (.struct (Try.prog.fieldsOf ty)) ∧ Try.prog.stoodInHeld ty = false) ∧ Try.prog.eqGuardType Try.prog.depth ty = false ∧ (Try.prog.fieldsOf ty).toList.map (fun f => (f.name == "_", f.type, f.offset)) = (List.range' 0 n).map (fun i => (false, 3, i))
theorem run_same_ints (w : World) {ty : TypeId} {n : Nat} (hS : StructI ty n) (xs ys : List Int) (hx : xs.length = n) (hy : ys.length = n) : (Op.equalIn 10000 ty (.agg (intsV xs)) (.agg (intsV ys))).run Try.prog w = .ok (sameI xs ys) w := by
  rw [run_equalIn_struct w 9999 _ _ _ hS.1.1 hS.1.2]
  have hlen : (Try.prog.fieldsOf ty).toList.length = n := by have := congrArg List.length hS.2.2; simpa using this
  have := run_same_fields w 9998 xs ys (Try.prog.fieldsOf ty).toList 0 (by rw [hlen]; exact hS.2.2) (by omega) (by omega)
  simpa using this
section
variable {ρ : Operand → Value} {o : Oper} {w : World} {R : Value → World → Prop}
theorem y_eqlSI {ty t' : TypeId} {n : Nat} {x y : Operand} {xs ys : List Int} {q : Bool} (hS : StructI ty n) (ho : o.op = .binOp .eql ty x y t') (hx : ρ x = .agg (intsV xs)) (hy : ρ y = .agg (intsV ys)) (lx : xs.length = n) (ly : ys.length = n) (hr : sameI xs ys = q) (h : R (.bool q) w) : Yields Try.prog ρ o w R :=
  y_of (v := .bool (sameI xs ys)) (w' := w) (by simp only [execOp, ho, hx, hy, Sem.run_bind, run_eqGuard_agg w .eql _ _ _ _ _ hS.2.1, run_eql_struct, run_same_ints w hS xs ys lx ly, Result.andThen_ok, Sem.run_pure]) (by rw [hr]; exact h)
end
end Go.Proofs.Ythoafgfcoclkbaa
set_option maxRecDepth 100000
namespace Go.Proofs.Ythoafgfcoclkbaa
open Go.RowKit
theorem stcT_plan : StcT Try.prog 23 3 := ⟨_, Try.underlying23, rfl, by kernel_rfl⟩
theorem stcT_slot : StcT Try.prog 38 4 := ⟨_, Try.underlying38, rfl, by kernel_rfl⟩
theorem structI_slot : StructI 38 4 := ⟨⟨by kernel_rfl, by kernel_rfl⟩, by kernel_rfl, by kernel_rfl⟩
theorem oref_numbers (v : Value) (a : List Int) (u : Value) (b : List Int) (T_a : Nat → Prop) (T_b : Nat → Prop) (w0 : World) (h_a : RoA rInt w0 T_a v (a)) (h_b : RoA rInt w0 T_b u (b)) :
  Calls Try.prog 14 #[v, u] w0 fun e w' => e = .returned (.bool (numS a b)) ∧ Kept (fun _ => False) w0 w' := by
 refine calls_wq (args := [v, u]) 26 Try.func14 rfl rfl (Nat.le_of_ble_eq_true rfl) ?_
 have K0 := Kept.refl (fun _ => False) w0
 have hsa := h_a.short
 have g_a := Grew.refl w0 T_a
 have g_b := Grew.refl w0 T_b
 refine wq_seq (wq_region (wl_v (.bool false) rfl rfl (y_asg rfl rfl rr) (wl_nil fun F1 hF2 => ?_)))
 have s3 : F1 0 = v := (hF2 0).trans rfl
 have s4 : F1 1 = u := (hF2 1).trans rfl
 have s5 : F1 26 = undef := (hF2 26).trans rfl
 clear hF2
 refine then_normal (wq_seq (wq_seq (wq_region (wl_mv rfl rfl rfl s3 (wl_v (iv ((a.length : Nat) : Int)) rfl rfl (y_lenRo (r := rInt) rfl rfl rfl h_a rr) (wl_mv rfl rfl rfl s4 (wl_v (iv ((b.length : Nat) : Int)) rfl rfl (y_lenRo (r := rInt) rfl rfl rfl h_b rr) (wl_v (.bool (decide (((a.length : Nat) : Int) ≠ ((b.length : Nat) : Int)))) rfl rfl (y_neqI rfl rfl rfl rfl rr) (wl_nil fun F6 hF7 => ?_)))))))))
 obtain ⟨s8, s9, s10⟩ := t3 hF7 0 s3 1 s4 26 s5
 have s11 : F6 10 = .bool (decide (((a.length : Nat) : Int) ≠ ((b.length : Nat) : Int))) := (hF7 10).trans rfl
 clear hF7
 refine then_normal ?_
 refine wq_cond s11 (fun c12 => ?_) (fun c12 => ?_)
 ·replace c12 := of_decide_eq_true c12
  refine wq_seq (wq_region (wl_v (.bool false) rfl rfl (y_asg rfl rfl rr) (wl_nil fun F13 hF14 => ?_)))
  have s15 := (hF14 26).trans s10
  have s16 : F13 4 = .bool false := (hF14 4).trans rfl
  clear hF14
  refine then_normal (wq_ret (then_ret ?_))
  exact end_tmp (v := .bool false) s15 rfl rfl s16 ⟨(by first | rw [numS_len (by omega)] | rw [numS_yes hlab (fun j hj => hall j (by omega))] | rw [numS_no (i := i) (by assumption)]), K0⟩
 ·replace c12 := of_decide_eq_false c12
  refine wq_skip (then_normal (wq_seq (wq_seq ?_)))
  have hlab : a.length = b.length := by omega
  refine wq_region (wl_v (iv 0) rfl rfl (y_asg rfl rfl rr) (wl_nil fun F17 hF18 => ?_))
  obtain ⟨s19, s20, s21⟩ := t3 hF18 0 s8 1 s9 26 s10
  have s22 : F17 5 = iv 0 := (hF18 5).trans rfl
  clear hF18
  refine then_normal (wq_block (wq_loop (fun nn FF ww => ∃ (i : Nat), (i ≤ a.length) ∧ (∀ j, j < i → a.getD j 0 = b.getD j 0) ∧ nn = a.length - i ∧ FF 0 = v ∧ FF 1 = u ∧ FF 26 = undef ∧ FF 5 = iv ((i : Nat) : Int) ∧ Kept (fun _ => False) w0 ww ∧ RoA rInt ww T_a v a ∧ RoA rInt ww T_b u b) (a.length - 0) ⟨0, by omega, (fun j hj => absurd hj (by omega)), rfl, s19, s20, s21, s22, K0, h_a, h_b⟩ ?_))
  rintro n26 F23 w24 ⟨i, i27, hall, hn26, s28, s29, s30, s31, K25, B32, B33⟩
  refine wq_seq (wq_seq (wq_region (wl_mv rfl rfl rfl s31 (wl_mv rfl rfl rfl s28 (wl_v (iv ((a.length : Nat) : Int)) rfl rfl (y_lenRo (r := rInt) rfl rfl rfl B32 rr) (wl_v (.bool (decide (((i : Nat) : Int) < ((a.length : Nat) : Int)))) rfl rfl (y_lss rfl rfl rfl rfl rr) (wl_nil fun F34 hF35 => ?_)))))))
  obtain ⟨s36, s37, s38, s39⟩ := t4 hF35 0 s28 1 s29 26 s30 5 s31
  have s40 : F34 14 = .bool (decide (((i : Nat) : Int) < ((a.length : Nat) : Int))) := (hF35 14).trans rfl
  clear hF35
  refine then_normal ?_
  refine wq_cond s40 (fun c41 => ?_) (fun c41 => ?_)
  ·replace c41 := of_decide_eq_true c41
   refine wq_skip (then_normal (wq_seq (wq_block (wq_seq ?_))))
   refine wq_said [some 17, some 18, some 19, some 20, some 21, some 22, some 23, some 24, some 25] [Pd.eq v, Pd.eq (iv ((i : Nat) : Int)), Pd.eq (bytAddr v (i * 1)), Pd.eq (iv (a.getD i 0)), Pd.eq u, Pd.eq (iv ((i : Nat) : Int)), Pd.eq (bytAddr u (i * 1)), Pd.eq (iv (b.getD i 0)), Pd.eq (.bool (decide ((a.getD i 0) ≠ (b.getD i 0))))] (by kernel_rfl) (by kernel_rfl) ?_ ?_
   ·refine stepsF_cons ?_ ?_
    ·refine StepF.one rfl fun F_ w_ hR hout hD => ?_
     exact (y_mov rfl ((hout 0 rfl (by decide)).trans s36) ⟨rfl, Kept.refl _ _⟩)
    refine stepsF_cons ?_ ?_
    ·refine StepF.one rfl fun F_ w_ hR hout hD => ?_
     exact (y_mov rfl ((hout 5 rfl (by decide)).trans s39) ⟨rfl, Kept.refl _ _⟩)
    refine stepsF_cons ?_ ?_
    ·refine StepF.one rfl fun F_ w_ hR hout hD => ?_
     have g17 : F_ 17 = v := (hD.get 0 rfl rfl rfl)
     have g18 : F_ 18 = iv ((i : Nat) : Int) := (hD.get 1 rfl rfl rfl)
     exact (y_atRo (r := rInt) i rfl g17 g18 (by omega) (B32.all hR Apart.none) (by omega) ⟨rfl, Kept.refl _ _⟩)
    refine stepsF_cons ?_ ?_
    ·refine StepF.one rfl fun F_ w_ hR hout hD => ?_
     have g19 : F_ 19 = bytAddr v (i * 1) := (hD.get 0 rfl rfl rfl)
     exact (y_ldRo (r := rInt) i 0 rfl g19 (B32.all hR Apart.none) (by omega) (by decide) rfl Try.underlying3 rfl ⟨rfl, Kept.refl _ _⟩)
    refine stepsF_cons ?_ ?_
    ·refine StepF.one rfl fun F_ w_ hR hout hD => ?_
     exact (y_mov rfl ((hout 1 rfl (by decide)).trans s37) ⟨rfl, Kept.refl _ _⟩)
    refine stepsF_cons ?_ ?_
    ·refine StepF.one rfl fun F_ w_ hR hout hD => ?_
     exact (y_mov rfl ((hout 5 rfl (by decide)).trans s39) ⟨rfl, Kept.refl _ _⟩)
    refine stepsF_cons ?_ ?_
    ·refine StepF.one rfl fun F_ w_ hR hout hD => ?_
     have g21 : F_ 21 = u := (hD.get 0 rfl rfl rfl)
     have g22 : F_ 22 = iv ((i : Nat) : Int) := (hD.get 1 rfl rfl rfl)
     exact (y_atRo (r := rInt) i rfl g21 g22 (by omega) (B33.all hR Apart.none) (by omega) ⟨rfl, Kept.refl _ _⟩)
    refine stepsF_cons ?_ ?_
    ·refine StepF.one rfl fun F_ w_ hR hout hD => ?_
     have g23 : F_ 23 = bytAddr u (i * 1) := (hD.get 0 rfl rfl rfl)
     exact (y_ldRo (r := rInt) i 0 rfl g23 (B33.all hR Apart.none) (by omega) (by decide) rfl Try.underlying3 rfl ⟨rfl, Kept.refl _ _⟩)
    refine stepsF_cons ?_ ?_
    ·refine StepF.one rfl fun F_ w_ hR hout hD => ?_
     have g20 : F_ 20 = iv (a.getD i 0) := (hD.get 0 rfl rfl rfl)
     have g24 : F_ 24 = iv (b.getD i 0) := (hD.get 1 rfl rfl rfl)
     exact (y_neqI rfl g20 g24 rfl ⟨rfl, Kept.refl _ _⟩)
    exact stepsF_nil
   intro v42 F43 w44 k45 G46 hF47
   have B49 := B32.all k45 Apart.none
   have B50 := B33.all k45 Apart.none
   have K51 := K25.tr k45
   obtain ⟨s52, s53, s54, s55⟩ := t4 hF47 0 s36 1 s37 26 s38 5 s39
   have s56 : F43 25 = .bool (decide ((a.getD i 0) ≠ (b.getD i 0))) := (hF47 25).trans (G46 8 (by decide))
   clear G46 hF47
   refine then_normal ?_
   refine wq_cond s56 (fun c57 => ?_) (fun c57 => ?_)
   ·replace c57 := of_decide_eq_true c57
    refine wq_seq (wq_region (wl_v (.bool false) rfl rfl (y_asg rfl rfl rr) (wl_nil fun F58 hF59 => ?_)))
    have s60 := (hF59 26).trans s54
    have s61 : F58 4 = .bool false := (hF59 4).trans rfl
    clear hF59
    refine then_normal (wq_ret (in_ret (then_ret (then_ret (in_ret (then_ret ?_))))))
    exact end_tmp (v := .bool false) s60 rfl rfl s61 ⟨(by first | rw [numS_len (by omega)] | rw [numS_yes hlab (fun j hj => hall j (by omega))] | rw [numS_no (i := i) (by assumption)]), K51⟩
   ·replace c57 := of_decide_eq_false c57
    refine wq_skip (in_normal (then_normal (wq_region (wl_mv rfl rfl rfl s55 (wl_v (iv ((i + 1 : Nat) : Int)) rfl rfl (y_add rfl rfl rfl (i64_n (by omega) (by omega)) rr) (wl_v (iv ((i + 1 : Nat) : Int)) rfl rfl (y_asg rfl rfl rr) (wl_nil fun F62 hF63 => ?_)))))))
    obtain ⟨s64, s65, s66⟩ := t3 hF63 0 s52 1 s53 26 s54
    have s67 : F62 5 = iv ((i + 1 : Nat) : Int) := (hF63 5).trans rfl
    clear hF63
    exact then_normal ⟨(a.length - (i + 1)), by omega, i + 1, by omega, (fun j hj => by by_cases e : j = i; subst e; (first | assumption | (apply Decidable.byContradiction; assumption)); exact hall j (by omega)), rfl, s64, s65, s66, s67, K51, B49, B50⟩
  ·replace c41 := of_decide_eq_false c41
   refine wq_exit (then_exit (then_exit ?_))
   have l68 : a.length = i := by omega
   subst l68
   refine in_here (then_normal (wq_seq (wq_region (wl_v (.bool true) rfl rfl (y_asg rfl rfl rr) (wl_nil fun F69 hF70 => ?_)))))
   have s71 := (hF70 26).trans s38
   have s72 : F69 4 = .bool true := (hF70 4).trans rfl
   clear hF70
   refine then_normal (wq_ret ?_)
   exact end_tmp (v := .bool true) s71 rfl rfl s72 ⟨(by first | rw [numS_len (by omega)] | rw [numS_yes hlab (fun j hj => hall j (by omega))] | rw [numS_no (i := i) (by assumption)]), K25⟩
end Go.Proofs.Ythoafgfcoclkbaa
set_option maxRecDepth 100000
namespace Go.Proofs.Ythoafgfcoclkbaa
open Go.RowKit
theorem od_within (n a b : Int) (w0 : World) :
  Calls Try.prog 17 #[.int .i64 (n), .int .i64 (a), .int .i64 (b)] w0 fun e w' => e = .returned (.bool (decide (a ≤ n ∧ n ≤ b))) ∧ Kept (fun _ => False) w0 w' := by
 refine calls_wq (args := [iv n, iv a, iv b]) 15 Try.func17 rfl rfl (Nat.le_of_ble_eq_true rfl) ?_
 have K0 := Kept.refl (fun _ => False) w0
 refine wq_seq (wq_region (wl_v (.bool false) rfl rfl (y_asg rfl rfl rr) (wl_nil fun F1 hF2 => ?_)))
 have s3 : F1 0 = iv n := (hF2 0).trans rfl
 have s4 : F1 1 = iv a := (hF2 1).trans rfl
 have s5 : F1 2 = iv b := (hF2 2).trans rfl
 have s6 : F1 15 = undef := (hF2 15).trans rfl
 clear hF2
 refine then_normal (wq_seq ?_)
 by_cases d7 : a ≤ n
 ·skip
  refine wq_region (wl_mv rfl rfl rfl s3 (wl_mv rfl rfl rfl s4 (wl_v (.bool true) rfl rfl (y_geq rfl rfl rfl (decide_eq_true d7) rr) (wl_v (.bool true) rfl rfl (y_mov rfl rfl rr) (wl_vw (iv n) 3 true 10 rfl rfl rfl rfl rfl (y_mov rfl s3 rr) (wl_vw (iv b) 3 true 10 rfl rfl rfl rfl rfl (y_mov rfl s5 rr) (wl_vw (.bool (decide (n ≤ b))) 3 true 10 rfl rfl rfl rfl rfl (y_leq rfl rfl rfl rfl rr) (wl_v (.bool (decide (n ≤ b))) rfl rfl (y_pickT rfl rfl rfl rr) (wl_v (.bool (decide (n ≤ b))) rfl rfl (y_asg rfl rfl rr) (wl_nil fun F8 hF9 => ?_))))))))))
  have s10 := (hF9 15).trans s6
  have s11 : F8 6 = .bool (decide (n ≤ b)) := (hF9 6).trans rfl
  clear hF9
  refine then_normal (wq_ret ?_)
  exact end_tmp (v := .bool (decide (n ≤ b))) s10 rfl rfl s11 ⟨(retB (by first | exact (decide_eq_true (by omega)).symm | exact (decide_eq_false (by omega)).symm | exact decide_eq_decide.2 (by omega))), K0⟩
 ·skip
  refine wq_region (wl_mv rfl rfl rfl s3 (wl_mv rfl rfl rfl s4 (wl_v (.bool false) rfl rfl (y_geq rfl rfl rfl (decide_eq_false d7) rr) (wl_v (.bool false) rfl rfl (y_mov rfl rfl rr) (wl_unless 3 true 10 rfl rfl rfl (Or.inl rfl) rfl (wl_unless 3 true 10 rfl rfl rfl (Or.inl rfl) rfl (wl_unless 3 true 10 rfl rfl rfl (Or.inl rfl) rfl (wl_v (.bool false) rfl rfl (y_pickF rfl rfl rfl rr) (wl_v (.bool false) rfl rfl (y_asg rfl rfl rr) (wl_nil fun F12 hF13 => ?_))))))))))
  have s14 := (hF13 15).trans s6
  have s15 : F12 6 = .bool false := (hF13 6).trans rfl
  clear hF13
  refine then_normal (wq_ret ?_)
  exact end_tmp (v := .bool false) s14 rfl rfl s15 ⟨(retB (by first | exact (decide_eq_true (by omega)).symm | exact (decide_eq_false (by omega)).symm | exact decide_eq_decide.2 (by omega))), K0⟩
theorem od_check (G B Q : Int) (w0 : World) :
  Calls Try.prog 15 #[.agg #[.int .i64 (G), .int .i64 (B), .int .i64 (Q)]] w0 fun e w' => e = .returned (.int .i64 (planE G B Q)) ∧ Kept (fun _ => False) w0 w' := by
 refine calls_wq (args := [.agg #[iv G, iv B, iv Q]]) 19 Try.func15 rfl rfl (Nat.le_of_ble_eq_true rfl) ?_
 have K0 := Kept.refl (fun _ => False) w0
 refine wq_seq (wq_region (wl_box_stc (vs := [iv G, iv B, iv Q]) rfl rfl rfl rfl fun p1 w2 B4 g5 k3 => ?_))
 have K7 := K0.tr k3
 refine wl_v (iv 0) rfl rfl (y_asg rfl rfl rr) (wl_nil fun F8 hF9 => ?_)
 have s10 : F8 19 = undef := (hF9 19).trans rfl
 have s11 : F8 1 = pt p1 0 := (hF9 1).trans rfl
 clear hF9
 refine then_normal (wq_seq (wq_seq ?_))
 by_cases d12 : 1 ≤ G ∧ G ≤ 16
 ·skip
  by_cases d13 : 0 ≤ B ∧ B ≤ 3
  ·skip
   by_cases d14 : 0 ≤ Q ∧ Q ≤ 20
   ·skip
    refine wq_region (wl_v (pt p1 0) rfl rfl (y_fieldR (n := 1) rfl s11 Try.underlying23 rfl (by kernel_rfl) (by decide) rfl rr) (wl_v (iv G) rfl rfl (y_ld_stc rfl rfl Try.underlying3 B4 rfl rfl rr) (wl_call (R := fun v_ w_ => v_ = .bool true ∧ Kept (fun _ => False) w2 w_) rfl rfl (y_cs rfl rfl rfl (fun _ _ => by kernel_rfl) (ev_func _) (vsC rfl (vsC rfl (vsC rfl vsN))) (od_within G 1 16  _   ) (fun e_ w_ h_ => ⟨_, h_.1, (congrArg Value.bool (decide_eq_true d12)), h_.2⟩)) ?_)))
    rintro _ w15 ⟨rfl, k16⟩
    have B17 := B4.all k16 id
    have K18 := K7.tr k16
    refine wl_v (.bool false) rfl rfl (y_not rfl rfl rfl rr) (wl_v (.bool false) rfl rfl (y_mov rfl rfl rr) (wl_vw (pt p1 1) 4 false 7 rfl rfl rfl rfl rfl (y_fieldR (n := 1) rfl s11 Try.underlying23 rfl (by kernel_rfl) (by decide) rfl rr) (wl_vw (iv B) 4 false 7 rfl rfl rfl rfl rfl (y_ld_stc rfl rfl Try.underlying3 B17 rfl rfl rr) (wl_callw (R := fun v_ w_ => v_ = .bool true ∧ Kept (fun _ => False) w15 w_) 4 false 7 rfl rfl rfl rfl rfl (y_cs rfl rfl rfl (fun _ _ => by kernel_rfl) (ev_func _) (vsC rfl (vsC rfl (vsC rfl vsN))) (od_within B 0 3  _   ) (fun e_ w_ h_ => ⟨_, h_.1, (congrArg Value.bool (decide_eq_true d13)), h_.2⟩)) ?_))))
    rintro _ w19 ⟨rfl, k20⟩
    have B21 := B17.all k20 id
    have K22 := K18.tr k20
    refine wl_vw (.bool false) 4 false 7 rfl rfl rfl rfl rfl (y_not rfl rfl rfl rr) (wl_v (.bool false) rfl rfl (y_pickF rfl rfl rfl rr) (wl_v (.bool false) rfl rfl (y_mov rfl rfl rr) (wl_vw (pt p1 2) 10 false 13 rfl rfl rfl rfl rfl (y_fieldR (n := 1) rfl s11 Try.underlying23 rfl (by kernel_rfl) (by decide) rfl rr) (wl_vw (iv Q) 10 false 13 rfl rfl rfl rfl rfl (y_ld_stc rfl rfl Try.underlying3 B21 rfl rfl rr) (wl_callw (R := fun v_ w_ => v_ = .bool true ∧ Kept (fun _ => False) w19 w_) 10 false 13 rfl rfl rfl rfl rfl (y_cs rfl rfl rfl (fun _ _ => by kernel_rfl) (ev_func _) (vsC rfl (vsC rfl (vsC rfl vsN))) (od_within Q 0 20  _   ) (fun e_ w_ h_ => ⟨_, h_.1, (congrArg Value.bool (decide_eq_true d14)), h_.2⟩)) ?_)))))
    rintro _ w23 ⟨rfl, k24⟩
    have K26 := K22.tr k24
    refine wl_vw (.bool false) 10 false 13 rfl rfl rfl rfl rfl (y_not rfl rfl rfl rr) (wl_v (.bool false) rfl rfl (y_pickF rfl rfl rfl rr) (wl_nil fun F27 hF28 => ?_))
    have s29 := (hF28 19).trans s10
    have s30 : F27 18 = .bool false := (hF28 18).trans rfl
    clear hF28
    refine then_normal ?_
    refine wq_cond (t := false) s30 (fun e => by cases e) (fun _ => ?_)
    refine wq_skip (then_normal (wq_seq (wq_region (wl_v (iv 0) rfl rfl (y_asg rfl rfl rr) (wl_nil fun F31 hF32 => ?_)))))
    have s33 := (hF32 19).trans s29
    have s34 : F31 2 = iv 0 := (hF32 2).trans rfl
    clear hF32
    refine then_normal (wq_ret ?_)
    exact end_tmp (v := iv 0) s33 rfl rfl s34 ⟨(by first | rw [show planE G B Q = 0 from if_pos (by unfold planOk; omega)] | rw [show planE G B Q = 150 from if_neg (by unfold planOk; omega)]), K26⟩
   ·skip
    refine wq_region (wl_v (pt p1 0) rfl rfl (y_fieldR (n := 1) rfl s11 Try.underlying23 rfl (by kernel_rfl) (by decide) rfl rr) (wl_v (iv G) rfl rfl (y_ld_stc rfl rfl Try.underlying3 B4 rfl rfl rr) (wl_call (R := fun v_ w_ => v_ = .bool true ∧ Kept (fun _ => False) w2 w_) rfl rfl (y_cs rfl rfl rfl (fun _ _ => by kernel_rfl) (ev_func _) (vsC rfl (vsC rfl (vsC rfl vsN))) (od_within G 1 16  _   ) (fun e_ w_ h_ => ⟨_, h_.1, (congrArg Value.bool (decide_eq_true d12)), h_.2⟩)) ?_)))
    rintro _ w35 ⟨rfl, k36⟩
    have B37 := B4.all k36 id
    have K38 := K7.tr k36
    refine wl_v (.bool false) rfl rfl (y_not rfl rfl rfl rr) (wl_v (.bool false) rfl rfl (y_mov rfl rfl rr) (wl_vw (pt p1 1) 4 false 7 rfl rfl rfl rfl rfl (y_fieldR (n := 1) rfl s11 Try.underlying23 rfl (by kernel_rfl) (by decide) rfl rr) (wl_vw (iv B) 4 false 7 rfl rfl rfl rfl rfl (y_ld_stc rfl rfl Try.underlying3 B37 rfl rfl rr) (wl_callw (R := fun v_ w_ => v_ = .bool true ∧ Kept (fun _ => False) w35 w_) 4 false 7 rfl rfl rfl rfl rfl (y_cs rfl rfl rfl (fun _ _ => by kernel_rfl) (ev_func _) (vsC rfl (vsC rfl (vsC rfl vsN))) (od_within B 0 3  _   ) (fun e_ w_ h_ => ⟨_, h_.1, (congrArg Value.bool (decide_eq_true d13)), h_.2⟩)) ?_))))
    rintro _ w39 ⟨rfl, k40⟩
    have B41 := B37.all k40 id
    have K42 := K38.tr k40
    refine wl_vw (.bool false) 4 false 7 rfl rfl rfl rfl rfl (y_not rfl rfl rfl rr) (wl_v (.bool false) rfl rfl (y_pickF rfl rfl rfl rr) (wl_v (.bool false) rfl rfl (y_mov rfl rfl rr) (wl_vw (pt p1 2) 10 false 13 rfl rfl rfl rfl rfl (y_fieldR (n := 1) rfl s11 Try.underlying23 rfl (by kernel_rfl) (by decide) rfl rr) (wl_vw (iv Q) 10 false 13 rfl rfl rfl rfl rfl (y_ld_stc rfl rfl Try.underlying3 B41 rfl rfl rr) (wl_callw (R := fun v_ w_ => v_ = .bool false ∧ Kept (fun _ => False) w39 w_) 10 false 13 rfl rfl rfl rfl rfl (y_cs rfl rfl rfl (fun _ _ => by kernel_rfl) (ev_func _) (vsC rfl (vsC rfl (vsC rfl vsN))) (od_within Q 0 20  _   ) (fun e_ w_ h_ => ⟨_, h_.1, (congrArg Value.bool (decide_eq_false d14)), h_.2⟩)) ?_)))))
    rintro _ w43 ⟨rfl, k44⟩
    have K46 := K42.tr k44
    refine wl_vw (.bool true) 10 false 13 rfl rfl rfl rfl rfl (y_not rfl rfl rfl rr) (wl_v (.bool true) rfl rfl (y_pickF rfl rfl rfl rr) (wl_nil fun F47 hF48 => ?_))
    have s49 := (hF48 19).trans s10
    have s50 : F47 18 = .bool true := (hF48 18).trans rfl
    clear hF48
    refine then_normal ?_
    refine wq_cond (t := true) s50 (fun _ => ?_) (fun e => by cases e)
    refine wq_seq (wq_region (wl_v (iv 150) rfl rfl (y_asg rfl rfl rr) (wl_nil fun F51 hF52 => ?_)))
    have s53 := (hF52 19).trans s49
    have s54 : F51 2 = iv 150 := (hF52 2).trans rfl
    clear hF52
    refine then_normal (wq_ret (then_ret ?_))
    exact end_tmp (v := iv 150) s53 rfl rfl s54 ⟨(by first | rw [show planE G B Q = 0 from if_pos (by unfold planOk; omega)] | rw [show planE G B Q = 150 from if_neg (by unfold planOk; omega)]), K46⟩
  ·skip
   refine wq_region (wl_v (pt p1 0) rfl rfl (y_fieldR (n := 1) rfl s11 Try.underlying23 rfl (by kernel_rfl) (by decide) rfl rr) (wl_v (iv G) rfl rfl (y_ld_stc rfl rfl Try.underlying3 B4 rfl rfl rr) (wl_call (R := fun v_ w_ => v_ = .bool true ∧ Kept (fun _ => False) w2 w_) rfl rfl (y_cs rfl rfl rfl (fun _ _ => by kernel_rfl) (ev_func _) (vsC rfl (vsC rfl (vsC rfl vsN))) (od_within G 1 16  _   ) (fun e_ w_ h_ => ⟨_, h_.1, (congrArg Value.bool (decide_eq_true d12)), h_.2⟩)) ?_)))
   rintro _ w55 ⟨rfl, k56⟩
   have B57 := B4.all k56 id
   have K58 := K7.tr k56
   refine wl_v (.bool false) rfl rfl (y_not rfl rfl rfl rr) (wl_v (.bool false) rfl rfl (y_mov rfl rfl rr) (wl_vw (pt p1 1) 4 false 7 rfl rfl rfl rfl rfl (y_fieldR (n := 1) rfl s11 Try.underlying23 rfl (by kernel_rfl) (by decide) rfl rr) (wl_vw (iv B) 4 false 7 rfl rfl rfl rfl rfl (y_ld_stc rfl rfl Try.underlying3 B57 rfl rfl rr) (wl_callw (R := fun v_ w_ => v_ = .bool false ∧ Kept (fun _ => False) w55 w_) 4 false 7 rfl rfl rfl rfl rfl (y_cs rfl rfl rfl (fun _ _ => by kernel_rfl) (ev_func _) (vsC rfl (vsC rfl (vsC rfl vsN))) (od_within B 0 3  _   ) (fun e_ w_ h_ => ⟨_, h_.1, (congrArg Value.bool (decide_eq_false d13)), h_.2⟩)) ?_))))
   rintro _ w59 ⟨rfl, k60⟩
   have K62 := K58.tr k60
   refine wl_vw (.bool true) 4 false 7 rfl rfl rfl rfl rfl (y_not rfl rfl rfl rr) (wl_v (.bool true) rfl rfl (y_pickF rfl rfl rfl rr) (wl_v (.bool true) rfl rfl (y_mov rfl rfl rr) (wl_unless 10 false 13 rfl rfl rfl (Or.inl rfl) rfl (wl_unless 10 false 13 rfl rfl rfl (Or.inl rfl) rfl (wl_unless 10 false 13 rfl rfl rfl (Or.inl rfl) rfl (wl_unless 10 false 13 rfl rfl rfl (Or.inl rfl) rfl (wl_v (.bool true) rfl rfl (y_pickT rfl rfl rfl rr) (wl_nil fun F63 hF64 => ?_))))))))
   have s65 := (hF64 19).trans s10
   have s66 : F63 18 = .bool true := (hF64 18).trans rfl
   clear hF64
   refine then_normal ?_
   refine wq_cond (t := true) s66 (fun _ => ?_) (fun e => by cases e)
   refine wq_seq (wq_region (wl_v (iv 150) rfl rfl (y_asg rfl rfl rr) (wl_nil fun F67 hF68 => ?_)))
   have s69 := (hF68 19).trans s65
   have s70 : F67 2 = iv 150 := (hF68 2).trans rfl
   clear hF68
   refine then_normal (wq_ret (then_ret ?_))
   exact end_tmp (v := iv 150) s69 rfl rfl s70 ⟨(by first | rw [show planE G B Q = 0 from if_pos (by unfold planOk; omega)] | rw [show planE G B Q = 150 from if_neg (by unfold planOk; omega)]), K62⟩
 ·skip
  refine wq_region (wl_v (pt p1 0) rfl rfl (y_fieldR (n := 1) rfl s11 Try.underlying23 rfl (by kernel_rfl) (by decide) rfl rr) (wl_v (iv G) rfl rfl (y_ld_stc rfl rfl Try.underlying3 B4 rfl rfl rr) (wl_call (R := fun v_ w_ => v_ = .bool false ∧ Kept (fun _ => False) w2 w_) rfl rfl (y_cs rfl rfl rfl (fun _ _ => by kernel_rfl) (ev_func _) (vsC rfl (vsC rfl (vsC rfl vsN))) (od_within G 1 16  _   ) (fun e_ w_ h_ => ⟨_, h_.1, (congrArg Value.bool (decide_eq_false d12)), h_.2⟩)) ?_)))
  rintro _ w71 ⟨rfl, k72⟩
  have K74 := K7.tr k72
  refine wl_v (.bool true) rfl rfl (y_not rfl rfl rfl rr) (wl_v (.bool true) rfl rfl (y_mov rfl rfl rr) (wl_unless 4 false 7 rfl rfl rfl (Or.inl rfl) rfl (wl_unless 4 false 7 rfl rfl rfl (Or.inl rfl) rfl (wl_unless 4 false 7 rfl rfl rfl (Or.inl rfl) rfl (wl_unless 4 false 7 rfl rfl rfl (Or.inl rfl) rfl (wl_v (.bool true) rfl rfl (y_pickT rfl rfl rfl rr) (wl_v (.bool true) rfl rfl (y_mov rfl rfl rr) (wl_unless 10 false 13 rfl rfl rfl (Or.inl rfl) rfl (wl_unless 10 false 13 rfl rfl rfl (Or.inl rfl) rfl (wl_unless 10 false 13 rfl rfl rfl (Or.inl rfl) rfl (wl_unless 10 false 13 rfl rfl rfl (Or.inl rfl) rfl ?_)))))))))))
  refine wl_v (.bool true) rfl rfl (y_pickT rfl rfl rfl rr) (wl_nil fun F75 hF76 => ?_)
  have s77 := (hF76 19).trans s10
  have s78 : F75 18 = .bool true := (hF76 18).trans rfl
  clear hF76
  refine then_normal ?_
  refine wq_cond (t := true) s78 (fun _ => ?_) (fun e => by cases e)
  refine wq_seq (wq_region (wl_v (iv 150) rfl rfl (y_asg rfl rfl rr) (wl_nil fun F79 hF80 => ?_)))
  have s81 := (hF80 19).trans s77
  have s82 : F79 2 = iv 150 := (hF80 2).trans rfl
  clear hF80
  refine then_normal (wq_ret (then_ret ?_))
  exact end_tmp (v := iv 150) s81 rfl rfl s82 ⟨(by first | rw [show planE G B Q = 0 from if_pos (by unfold planOk; omega)] | rw [show planE G B Q = 150 from if_neg (by unfold planOk; omega)]), K74⟩
def rBool : RowT Bool := { t := 36, e := 4, k := 1, by_ := 1, enc := fun x => [.bool x], d := false, z := .bool false }
theorem one_bool {a : Bool} : ∀ u ∈ [Value.bool a], u.oneCell' = true := fun u hu => by
  rcases List.mem_cons.1 hu with rfl | hu
  · rfl
  · cases hu
instance rBool_ok : RowT.Ok rBool := ⟨Try.underlying36, by kernel_rfl, rfl, by decide, fun _ => rfl, fun _ => one_bool, by decide⟩
theorem od_once (v : Value) (l : List Int) (T_l : Nat → Prop) (w0 : World) (h_l : RoA rInt w0 T_l v (l)) :
  Calls Try.prog 19 #[v] w0 fun e w' => e = .returned (.bool (decide (shOk l))) ∧ Kept (fun _ => False) w0 w' := by
 refine calls_wq (args := [v]) 35 Try.func19 rfl rfl (Nat.le_of_ble_eq_true rfl) ?_
 have K0 := Kept.refl (fun _ => False) w0
 have hsl := h_l.short
 have g_l := Grew.refl w0 T_l
 refine wq_seq (wq_region (wl_v (.bool false) rfl rfl (y_asg rfl rfl rr) (wl_nil fun F1 hF2 => ?_)))
 have s3 : F1 0 = v := (hF2 0).trans rfl
 have s4 : F1 35 = undef := (hF2 35).trans rfl
 clear hF2
 refine then_normal (wq_seq (wq_seq ?_))
 by_cases d5 : 1 ≤ ((l.length : Nat) : Int) ∧ ((l.length : Nat) : Int) ≤ 200
 ·skip
  refine wq_region (wl_mv rfl rfl rfl s3 (wl_v (iv ((l.length : Nat) : Int)) rfl rfl (y_lenRo (r := rInt) rfl rfl rfl h_l rr) (wl_call (R := fun v_ w_ => v_ = .bool true ∧ Kept (fun _ => False) w0 w_) rfl rfl (y_cs rfl rfl rfl (fun _ _ => by kernel_rfl) (ev_func _) (vsC rfl (vsC rfl (vsC rfl vsN))) (od_within ((l.length : Nat) : Int) 1 200  _   ) (fun e_ w_ h_ => ⟨_, h_.1, (congrArg Value.bool (decide_eq_true d5)), h_.2⟩)) ?_)))
  rintro _ w6 ⟨rfl, k7⟩
  have B8 := h_l.all k7 Apart.none
  have K9 := K0.tr k7
  refine wl_v (.bool false) rfl rfl (y_not rfl rfl rfl rr) (wl_nil fun F10 hF11 => ?_)
  obtain ⟨s12, s13⟩ := t2 hF11 0 s3 35 s4
  have s14 : F10 9 = .bool false := (hF11 9).trans rfl
  clear hF11
  refine then_normal ?_
  refine wq_cond (t := false) s14 (fun e => by cases e) (fun _ => ?_)
  refine wq_skip (then_normal (wq_seq (wq_region (wl_mv rfl rfl rfl s12 (wl_v (iv ((l.length : Nat) : Int)) rfl rfl (y_lenRo (r := rInt) rfl rfl rfl B8 rr) (wl_makeRo (r := rBool) (n := l.length) rfl rfl rfl rfl rfl (by omega) (by omega) (by omega) fun v15 w16 T20 B18 g19 k17 => ?_))))))
  have gr21 : Grew w0 noB T20 := Grew.new K9 g19
  have ap22 : Apart T20 T_l := Apart.new g19 B8.live
  have B23 := B8.all k17 Apart.none
  have K24 := K9.tr k17
  refine wl_v v15 rfl rfl (y_asg rfl rfl rr) (wl_nil fun F25 hF26 => ?_)
  obtain ⟨s27, s28⟩ := t2 hF26 0 s12 35 s13
  have s29 : F25 3 = v15 := (hF26 3).trans rfl
  clear hF26
  refine then_normal (wq_seq (wq_seq ?_))
  have B30 : RoO rBool w16 T20 v15 (snL l 0) := (by rw [snL_zero]; exact B18)
  refine wq_region (wl_mv rfl rfl rfl s27 (wl_v (iv ((l.length : Nat) : Int)) rfl rfl (y_lenRo (r := rInt) rfl rfl rfl B23 rr) (wl_v (iv 0) rfl rfl (y_mov rfl rfl rr) (wl_nil fun F31 hF32 => ?_))))
  obtain ⟨s33, s34, s35⟩ := t3 hF32 0 s27 35 s28 3 s29
  have s36 : F31 13 = v := (hF32 13).trans rfl
  have s37 : F31 14 = iv ((l.length : Nat) : Int) := (hF32 14).trans rfl
  have s38 : F31 15 = iv 0 := (hF32 15).trans rfl
  clear hF32
  refine then_normal (wq_block (wq_loop (fun nn FF ww => ∃ (i : Nat), ∃ (T39 : Nat → Prop), (i ≤ l.length) ∧ (∀ j, j < i → shG l j) ∧ nn = l.length - i ∧ FF 0 = v ∧ FF 3 = v15 ∧ FF 13 = v ∧ FF 14 = iv ((l.length : Nat) : Int) ∧ FF 35 = undef ∧ FF 15 = iv ((i : Nat) : Int) ∧ Kept (fun _ => False) w0 ww ∧ RoA rInt ww T_l v l ∧ RoO rBool ww T39 v15 (snL l i) ∧ Grew w0 noB T39 ∧ Apart T39 T_l) (l.length - 0) ⟨0, T20, by omega, (fun j hj => absurd hj (Nat.not_lt_zero j)), rfl, s33, s35, s36, s37, s34, s38, K24, B23, B30, gr21, ap22⟩ ?_))
  rintro n43 F40 w41 ⟨i, T39, i44, hall, hn43, s45, s46, s47, s48, s49, s50, K42, B51, B52, gr53, ap54⟩
  refine wq_seq (wq_region (wl_v (.bool (decide (((i : Nat) : Int) < ((l.length : Nat) : Int)))) rfl rfl (y_lss rfl s50 s48 rfl rr) (wl_nil fun F55 hF56 => ?_)))
  obtain ⟨s57, s58, s59, s60, s61, s62⟩ := t6 hF56 0 s45 3 s46 13 s47 14 s48 35 s49 15 s50
  have s63 : F55 16 = .bool (decide (((i : Nat) : Int) < ((l.length : Nat) : Int))) := (hF56 16).trans rfl
  clear hF56
  refine then_normal (wq_seq ?_)
  refine wq_cond s63 (fun c64 => ?_) (fun c64 => ?_)
  ·replace c64 := of_decide_eq_true c64
   refine wq_skip (then_normal (wq_seq (wq_block (wq_seq (wq_region (wl_v (bytAddr v (i * 1)) rfl rfl (y_atRo (r := rInt) i rfl s59 s62 (by omega) B51 (by omega) rr) (wl_v (iv (l.getD i 0)) rfl rfl (y_ldRo (r := rInt) i 0 rfl rfl B51 (by omega) (by decide) rfl Try.underlying3 rfl rr) (wl_v (iv (l.getD i 0)) rfl rfl (y_asg rfl rfl rr) (wl_nil fun F65 hF66 => ?_)))))))))
   obtain ⟨s67, s68, s69, s70, s71, s72⟩ := t6 hF66 0 s57 3 s58 13 s59 14 s60 35 s61 15 s62
   have s73 : F65 5 = iv (l.getD i 0) := (hF66 5).trans rfl
   clear hF66
   refine then_normal (wq_seq (wq_seq ?_))
   have hsn := snL_len l i
   by_cases d74 : 0 ≤ (l.getD i 0) ∧ (l.getD i 0) ≤ (((l.length : Nat) : Int) - 1)
   ·skip
    refine wq_region (wl_mv rfl rfl rfl s73 (wl_mv rfl rfl rfl s67 (wl_v (iv ((l.length : Nat) : Int)) rfl rfl (y_lenRo (r := rInt) rfl rfl rfl B51 rr) (wl_v (iv (((l.length : Nat) : Int) - 1)) rfl rfl (y_sub rfl rfl rfl (i64_i rfl (by omega)) rr) (wl_call (R := fun v_ w_ => v_ = .bool true ∧ Kept (fun _ => False) w41 w_) rfl rfl (y_cs rfl rfl rfl (fun _ _ => by kernel_rfl) (ev_func _) (vsC rfl (vsC rfl (vsC rfl vsN))) (od_within (l.getD i 0) 0 (((l.length : Nat) : Int) - 1)  _   ) (fun e_ w_ h_ => ⟨_, h_.1, (congrArg Value.bool (decide_eq_true d74)), h_.2⟩)) ?_)))))
    rintro _ w75 ⟨rfl, k76⟩
    have B77 := B51.all k76 Apart.none
    have B78 := B52.all k76 Apart.none
    have K79 := K42.tr k76
    refine wl_v (.bool false) rfl rfl (y_not rfl rfl rfl rr) (wl_v (.bool false) rfl rfl (y_mov rfl rfl rr) (wl_vw v15 6 false 25 rfl rfl rfl rfl rfl (y_mov rfl s68 rr) (wl_vw (iv (l.getD i 0)) 6 false 25 rfl rfl rfl rfl rfl (y_mov rfl s73 rr) (wl_vw (bytAddr v15 (((l.getD i 0).toNat) * 1)) 6 false 25 rfl rfl rfl rfl rfl (y_atRo (r := rBool) ((l.getD i 0).toNat) rfl rfl rfl (by omega) B78.roa (by omega) rr) (wl_vw (.bool ((snL l i).getD ((l.getD i 0).toNat) false)) 6 false 25 rfl rfl rfl rfl rfl (y_ldRo (r := rBool) ((l.getD i 0).toNat) 0 rfl rfl B78.roa (by omega) (by decide) rfl Try.underlying4 rfl rr) (wl_v (.bool ((snL l i).getD ((l.getD i 0).toNat) false)) rfl rfl (y_pickF rfl rfl rfl rr) (wl_nil fun F80 hF81 => ?_)))))))
    obtain ⟨s82, s83, s84, s85, s86, s87, s88⟩ := t7 hF81 0 s67 3 s68 13 s69 14 s70 35 s71 15 s72 5 s73
    have s89 : F80 30 = .bool ((snL l i).getD ((l.getD i 0).toNat) false) := (hF81 30).trans rfl
    clear hF81
    refine then_normal ?_
    refine wq_cond s89 (fun c90 => ?_) (fun c90 => ?_)
    ·skip
     refine wq_seq ?_
     have hno : ¬ shOk l := sh_bad (i := i) (by omega) (fun z => by have z1 := z.1; have z2 := z.2.1; have z3 := z.2.2; first | omega | (have z4 := ‹(snL l i).getD (l.getD i 0).toNat false = true›; rw [snL_at (by omega)] at z4; have z5 := of_decide_eq_true z4; omega))
     refine wq_region (wl_v (.bool false) rfl rfl (y_asg rfl rfl rr) (wl_nil fun F91 hF92 => ?_))
     have s93 := (hF92 35).trans s86
     have s94 : F91 2 = .bool false := (hF92 2).trans rfl
     clear hF92
     refine then_normal (wq_ret (then_ret (in_ret (then_ret (then_ret (in_ret (then_ret ?_)))))))
     exact end_tmp (v := .bool false) s93 rfl rfl s94 ⟨(retB (by first | exact (decide_eq_true hok).symm | exact (decide_eq_false hno).symm)), K79⟩
    ·skip
     refine wq_skip (then_normal ?_)
     have hg : shG l i := ⟨by omega, by omega, by have z4 := ‹(snL l i).getD (l.getD i 0).toNat false = false›; rw [snL_at (by omega)] at z4; have z5 := of_decide_eq_false z4; omega⟩
     refine wq_region (wl_mv rfl rfl rfl s83 (wl_mv rfl rfl rfl s88 (wl_v (bytAddr v15 (((l.getD i 0).toNat) * 1)) rfl rfl (y_atRo (r := rBool) ((l.getD i 0).toNat) rfl rfl rfl (by omega) B78.roa (by omega) rr) (wl_setRo (r := rBool) (u := true) ((l.getD i 0).toNat) rfl rfl rfl rfl rfl rfl B78 (by omega) fun w95 B96 k97 => ?_))))
     have B98 := B77.all k97 ap54.symm
     have K99 := K79.trans k97 (Grew.ok (S := fun _ => False) gr53 noB_le)
     refine wl_nil fun F100 hF101 => ?_
     obtain ⟨s102, s103, s104, s105, s106, s107⟩ := t6 hF101 0 s82 3 s83 13 s84 14 s85 35 s86 15 s87
     clear hF101
     refine in_normal (then_normal ?_)
     have B108 : RoO rBool w95 T39 v15 (snL l (i + 1)) := (by rw [snL_succ]; exact B96)
     refine wq_region (wl_v (iv ((i + 1 : Nat) : Int)) rfl rfl (y_add rfl s107 rfl (i64_n (by omega) (by omega)) rr) (wl_v (iv ((i + 1 : Nat) : Int)) rfl rfl (y_mov rfl rfl rr) (wl_nil fun F109 hF110 => ?_)))
     obtain ⟨s111, s112, s113, s114, s115⟩ := t5 hF110 0 s102 3 s103 13 s104 14 s105 35 s106
     have s116 : F109 15 = iv ((i + 1 : Nat) : Int) := (hF110 15).trans rfl
     clear hF110
     exact then_normal ⟨(l.length - (i + 1)), by omega, i + 1, T39, by omega, (fun j hj => by by_cases e : j = i; (· rw [e]; exact hg); exact hall j (by omega)), rfl, s111, s112, s113, s114, s115, s116, K99, B98, B108, gr53, ap54⟩
   ·skip
    refine wq_region (wl_mv rfl rfl rfl s73 (wl_mv rfl rfl rfl s67 (wl_v (iv ((l.length : Nat) : Int)) rfl rfl (y_lenRo (r := rInt) rfl rfl rfl B51 rr) (wl_v (iv (((l.length : Nat) : Int) - 1)) rfl rfl (y_sub rfl rfl rfl (i64_i rfl (by omega)) rr) (wl_call (R := fun v_ w_ => v_ = .bool false ∧ Kept (fun _ => False) w41 w_) rfl rfl (y_cs rfl rfl rfl (fun _ _ => by kernel_rfl) (ev_func _) (vsC rfl (vsC rfl (vsC rfl vsN))) (od_within (l.getD i 0) 0 (((l.length : Nat) : Int) - 1)  _   ) (fun e_ w_ h_ => ⟨_, h_.1, (congrArg Value.bool (decide_eq_false d74)), h_.2⟩)) ?_)))))
    rintro _ w117 ⟨rfl, k118⟩
    have K121 := K42.tr k118
    refine wl_v (.bool true) rfl rfl (y_not rfl rfl rfl rr) (wl_v (.bool true) rfl rfl (y_mov rfl rfl rr) (wl_unless 6 false 25 rfl rfl rfl (Or.inl rfl) rfl (wl_unless 6 false 25 rfl rfl rfl (Or.inl rfl) rfl (wl_unless 6 false 25 rfl rfl rfl (Or.inl rfl) rfl (wl_unless 6 false 25 rfl rfl rfl (Or.inl rfl) rfl (wl_v (.bool true) rfl rfl (y_pickT rfl rfl rfl rr) (wl_nil fun F122 hF123 => ?_)))))))
    have s128 := (hF123 35).trans s71
    have s131 : F122 30 = .bool true := (hF123 30).trans rfl
    clear hF123
    refine then_normal ?_
    refine wq_cond (t := true) s131 (fun _ => ?_) (fun e => by cases e)
    refine wq_seq ?_
    have hno : ¬ shOk l := sh_bad (i := i) (by omega) (fun z => by have z1 := z.1; have z2 := z.2.1; have z3 := z.2.2; first | omega | (have z4 := ‹(snL l i).getD (l.getD i 0).toNat false = true›; rw [snL_at (by omega)] at z4; have z5 := of_decide_eq_true z4; omega))
    refine wq_region (wl_v (.bool false) rfl rfl (y_asg rfl rfl rr) (wl_nil fun F132 hF133 => ?_))
    have s134 := (hF133 35).trans s128
    have s135 : F132 2 = .bool false := (hF133 2).trans rfl
    clear hF133
    refine then_normal (wq_ret (then_ret (in_ret (then_ret (then_ret (in_ret (then_ret ?_)))))))
    exact end_tmp (v := .bool false) s134 rfl rfl s135 ⟨(retB (by first | exact (decide_eq_true hok).symm | exact (decide_eq_false hno).symm)), K121⟩
  ·replace c64 := of_decide_eq_false c64
   refine wq_exit (then_exit (then_exit ?_))
   have l136 : l.length = i := by omega
   subst l136
   refine in_here (then_normal (wq_seq ?_))
   have hok : shOk l := ⟨by omega, by omega, hall⟩
   refine wq_region (wl_v (.bool true) rfl rfl (y_asg rfl rfl rr) (wl_nil fun F137 hF138 => ?_))
   have s139 := (hF138 35).trans s61
   have s140 : F137 2 = .bool true := (hF138 2).trans rfl
   clear hF138
   refine then_normal (wq_ret ?_)
   exact end_tmp (v := .bool true) s139 rfl rfl s140 ⟨(retB (by first | exact (decide_eq_true hok).symm | exact (decide_eq_false hno).symm)), K42⟩
 ·skip
  refine wq_region (wl_mv rfl rfl rfl s3 (wl_v (iv ((l.length : Nat) : Int)) rfl rfl (y_lenRo (r := rInt) rfl rfl rfl h_l rr) (wl_call (R := fun v_ w_ => v_ = .bool false ∧ Kept (fun _ => False) w0 w_) rfl rfl (y_cs rfl rfl rfl (fun _ _ => by kernel_rfl) (ev_func _) (vsC rfl (vsC rfl (vsC rfl vsN))) (od_within ((l.length : Nat) : Int) 1 200  _   ) (fun e_ w_ h_ => ⟨_, h_.1, (congrArg Value.bool (decide_eq_false d5)), h_.2⟩)) ?_)))
  rintro _ w141 ⟨rfl, k142⟩
  have K144 := K0.tr k142
  refine wl_v (.bool true) rfl rfl (y_not rfl rfl rfl rr) (wl_nil fun F145 hF146 => ?_)
  have s148 := (hF146 35).trans s4
  have s149 : F145 9 = .bool true := (hF146 9).trans rfl
  clear hF146
  refine then_normal ?_
  refine wq_cond (t := true) s149 (fun _ => ?_) (fun e => by cases e)
  refine wq_seq ?_
  have hno : ¬ shOk l := fun z => by have z1 := z.1; have z2 := z.2.1; omega
  refine wq_region (wl_v (.bool false) rfl rfl (y_asg rfl rfl rr) (wl_nil fun F150 hF151 => ?_))
  have s152 := (hF151 35).trans s148
  have s153 : F150 2 = .bool false := (hF151 2).trans rfl
  clear hF151
  refine then_normal (wq_ret (then_ret ?_))
  exact end_tmp (v := .bool false) s152 rfl rfl s153 ⟨(retB (by first | exact (decide_eq_true hok).symm | exact (decide_eq_false hno).symm)), K144⟩
end Go.Proofs.Ythoafgfcoclkbaa
set_option maxRecDepth 100000
namespace Go.Proofs.Ythoafgfcoclkbaa
open Go.RowKit
theorem od_show (v : Value) (l : List Int) (T_l : Nat → Prop) (w0 : World) (h_l : RoA rInt w0 T_l v (l)) :
  Calls Try.prog 11 #[v] w0 fun e w' => ∃ (v1 : Value) (T1 : Nat → Prop), e = .returned (.tuple #[v1, .int .i64 (shN l), .int .i64 (shE l)]) ∧ Kept (fun _ => False) w0 w' ∧ (RoO rInt w' T1 v1 ((shL l)) ∧ Grew w0 noB T1) := by
 refine calls_wq (args := [v]) 65 Try.func11 rfl rfl (Nat.le_of_ble_eq_true rfl) ?_
 have K0 := Kept.refl (fun _ => False) w0
 have hsl := h_l.short
 have g_l := Grew.refl w0 T_l
 refine wq_seq (wq_region (wl_v (.slice none 0 0) rfl rfl (y_asg rfl rfl rr) (wl_v (iv 0) rfl rfl (y_asg rfl rfl rr) (wl_v (iv 0) rfl rfl (y_asg rfl rfl rr) (wl_nil fun F1 hF2 => ?_)))))
 have s3 : F1 0 = v := (hF2 0).trans rfl
 have s4 : F1 65 = undef := (hF2 65).trans rfl
 clear hF2
 refine then_normal (wq_seq (wq_seq ?_))
 by_cases d5 : shOk l
 ·skip
  refine wq_region (wl_mv rfl rfl rfl s3 (wl_call (R := fun v_ w_ => v_ = .bool true ∧ Kept (fun _ => False) w0 w_) rfl rfl (y_cs rfl rfl rfl (fun _ _ => by kernel_rfl) (ev_func _) (vsC rfl vsN) (od_once v l T_l _  h_l ) (fun e_ w_ h_ => ⟨_, h_.1, (congrArg Value.bool (decide_eq_true d5)), h_.2⟩)) ?_))
  rintro _ w6 ⟨rfl, k7⟩
  have B8 := h_l.all k7 Apart.none
  have K9 := K0.tr k7
  refine wl_v (.bool false) rfl rfl (y_not rfl rfl rfl rr) (wl_nil fun F10 hF11 => ?_)
  obtain ⟨s12, s13⟩ := t2 hF11 0 s3 65 s4
  have s14 : F10 12 = .bool false := (hF11 12).trans rfl
  clear hF11
  refine then_normal ?_
  refine wq_cond (t := false) s14 (fun e => by cases e) (fun _ => ?_)
  refine wq_skip (then_normal (wq_seq ?_))
  have hok : shOk l := by first | assumption | (apply of_decide_eq_true; assumption) | (apply Decidable.byContradiction; assumption)
  have hl1 := hok.1
  have hl2 := hok.2.1
  refine wq_region (wl_mv rfl rfl rfl s12 (wl_v (iv ((l.length : Nat) : Int)) rfl rfl (y_lenRo (r := rInt) rfl rfl rfl B8 rr) ?_))
  refine wl_op rfl rfl (y_makeRo0 (r := rInt) (c := l.length) rfl rfl rfl (by omega) (by omega) (by omega) fun v15 w16 T20 B18 g19 k17 => ?_)
  have gr21 : Grew w0 noB T20 := Grew.new K9 g19
  have ap22 : Apart T20 T_l := Apart.new g19 B8.live
  have B23 := B8.all k17 Apart.none
  have K24 := K9.tr k17
  refine wl_v v15 rfl rfl (y_asg rfl rfl rr) (wl_nil fun F25 hF26 => ?_)
  obtain ⟨s27, s28⟩ := t2 hF26 0 s12 65 s13
  have s29 : F25 5 = v15 := (hF26 5).trans rfl
  clear hF26
  refine then_normal (wq_seq (wq_region (wl_v (iv 0) rfl rfl (y_asg rfl rfl rr) (wl_nil fun F30 hF31 => ?_))))
  obtain ⟨s32, s33, s34⟩ := t3 hF31 0 s27 65 s28 5 s29
  have s35 : F30 6 = iv 0 := (hF31 6).trans rfl
  clear hF31
  refine then_normal (wq_seq (wq_region (wl_builtRo0 (r := rPic) rfl rfl rfl fun v36 w37 T41 B39 g40 k38 => ?_)))
  have gr42 : Grew w0 noB T41 := Grew.new K24 g40
  have ap43 : Apart T41 T_l := Apart.new g40 B23.live
  have ap44 : Apart T41 T20 := Apart.new g40 B18.live
  have B45 := B23.all k38 Apart.none
  have B46 := B18.all k38 Apart.none
  have K47 := K24.tr k38
  refine wl_box_cel (v := v36) rfl rfl rfl rfl (B39.oneC) fun p48 w49 B52 g54 k50 => ?_
  have gr55 : Grew w0 noB (onB p48) := Grew.new K47 g54
  have ap56 : Apart (onB p48) T_l := Apart.new g54 B45.live
  have ap57 : Apart (onB p48) T20 := Apart.new g54 B46.live
  have ap58 : Apart (onB p48) T41 := Apart.new g54 B39.live
  have B59 := B45.all k50 Apart.none
  have B60 := B46.all k50 Apart.none
  have B61 := B39.all k50 Apart.none
  have K62 := K47.tr k50
  refine wl_v (pt p48 0) rfl rfl (y_asg rfl rfl rr) (wl_nil fun F63 hF64 => ?_)
  obtain ⟨s65, s66, s67, s68⟩ := t4 hF64 0 s32 65 s33 5 s34 6 s35
  have s69 : F63 7 = pt p48 0 := (hF64 7).trans rfl
  clear hF64
  refine then_normal (wq_seq (wq_seq ?_))
  have B70 : Hld w49 (fun i => (onB p48) i ∨ (T41 i)) p48 ([] : List Pic) := ⟨v36, T41, fun i => Iff.rfl, ap58, B52, B61⟩
  have gr71 : Grew w0 noB (fun i => (onB p48) i ∨ (T41 i)) := fun i h => h.elim (fun y => gr55 i y) (fun y => gr42 i y)
  have ap72 : Apart (fun i => (onB p48) i ∨ (T41 i)) T_l := fun i h => h.elim (fun y => ap56 i y) (fun y => ap43 i y)
  have ap73 : Apart (fun i => (onB p48) i ∨ (T41 i)) T20 := fun i h => h.elim (fun y => ap57 i y) (fun y => ap44 i y)
  refine wq_region (wl_mv rfl rfl rfl s65 (wl_v (iv ((l.length : Nat) : Int)) rfl rfl (y_lenRo (r := rInt) rfl rfl rfl B59 rr) (wl_v (iv 0) rfl rfl (y_mov rfl rfl rr) (wl_nil fun F74 hF75 => ?_))))
  obtain ⟨s76, s77, s78, s79⟩ := t4 hF75 65 s66 5 s67 6 s68 7 s69
  have s80 : F74 18 = v := (hF75 18).trans rfl
  have s81 : F74 19 = iv ((l.length : Nat) : Int) := (hF75 19).trans rfl
  have s82 : F74 20 = iv 0 := (hF75 20).trans rfl
  clear hF75
  refine then_normal (wq_block (wq_loop (fun nn FF ww => ∃ (i : Nat), ∃ (H : List Pic), ∃ (V1 : Value), ∃ (T83 : Nat → Prop), ∃ (T84 : Nat → Prop), (i ≤ l.length) ∧ (ShI l i (shT l i) H) ∧ nn = l.length - i ∧ FF 7 = pt p48 0 ∧ FF 18 = v ∧ FF 19 = iv ((l.length : Nat) : Int) ∧ FF 65 = undef ∧ FF 5 = V1 ∧ FF 6 = iv (shM l i) ∧ FF 20 = iv ((i : Nat) : Int) ∧ Kept (fun _ => False) w0 ww ∧ RoA rInt ww T_l v l ∧ Hld ww T83 p48 H ∧ RoO rInt ww T84 V1 ((shA l i).take (shT l i)) ∧ Grew w0 noB T83 ∧ Grew w0 noB T84 ∧ Apart T83 T_l ∧ Apart T83 T84 ∧ Apart T84 T_l) (l.length - 0) ⟨0, [], v15, fun i => (onB p48) i ∨ (T41 i), T20, (Nat.zero_le _), (ShI.nil l), rfl, s79, s80, s81, s76, s77, s78, s82, K62, B59, B70, B60, gr71, gr21, ap72, ap73, ap22⟩ ?_))
  rintro n88 F85 w86 ⟨i, H, V1, T83, T84, hil, hI, hn88, s89, s90, s91, s92, s93, s94, s95, K87, B96, B97, B98, gr99, gr100, ap101, ap102, ap103⟩
  refine wq_seq (wq_region (wl_v (.bool (decide (((i : Nat) : Int) < ((l.length : Nat) : Int)))) rfl rfl (y_lss rfl s95 s91 rfl rr) (wl_nil fun F104 hF105 => ?_)))
  obtain ⟨s106, s107, s108, s109, s110, s111, s112⟩ := t7 hF105 7 s89 18 s90 19 s91 65 s92 5 s93 6 s94 20 s95
  have s113 : F104 21 = .bool (decide (((i : Nat) : Int) < ((l.length : Nat) : Int))) := (hF105 21).trans rfl
  clear hF105
  refine then_normal (wq_seq ?_)
  refine wq_cond s113 (fun c114 => ?_) (fun c114 => ?_)
  ·replace c114 := of_decide_eq_true c114
   refine wq_skip (then_normal (wq_seq (wq_block (wq_seq (wq_region (wl_mv rfl rfl rfl s112 (wl_v (bytAddr v (i * 1)) rfl rfl (y_atRo (r := rInt) i rfl s107 s112 (by omega) B96 (by omega) rr) (wl_v (iv (l.getD i 0)) rfl rfl (y_ldRo (r := rInt) i 0 rfl rfl B96 (by omega) (by decide) rfl Try.underlying3 rfl rr) (wl_v (iv ((i : Nat) : Int)) rfl rfl (y_asg rfl rfl rr) (wl_v (iv (l.getD i 0)) rfl rfl (y_asg rfl rfl rr) (wl_nil fun F115 hF116 => ?_)))))))))))
   obtain ⟨s117, s118, s119, s120, s121, s122, s123⟩ := t7 hF116 7 s106 18 s107 19 s108 65 s109 5 s110 6 s111 20 s112
   have s124 : F115 8 = iv ((i : Nat) : Int) := (hF116 8).trans rfl
   have s125 : F115 9 = iv (l.getD i 0) := (hF116 9).trans rfl
   clear hF116
   refine then_normal (wq_seq ?_)
   have hg1 : ∀ j, j < i + 1 → shG l j := fun j hj => hok.2.2 j (by omega)
   have hHl := hI.len
   have hIp := hI.push hg1
   refine wq_region (wl_mv rfl rfl rfl s117 (wl_v (.iface 46 (pt p48 0)) rfl rfl (y_mki rfl rfl (by kernel_rfl) rr) (wl_mv rfl rfl rfl s125 (wl_mv rfl rfl rfl s124 (wl_v (.agg #[iv (l.getD i 0), iv ((i : Nat) : Int)]) rfl rfl (y_buildL (l' := [(0, iv (l.getD i 0)), (1, iv ((i : Nat) : Int))]) (cells := #[iv (l.getD i 0), iv ((i : Nat) : Int)]) rfl (bpC rfl (bpC rfl bpN)) (by kernel_rfl) rfl rr) (wl_v (.iface 51 (.agg #[iv (l.getD i 0), iv ((i : Nat) : Int)])) rfl rfl (y_mki rfl rfl (by kernel_rfl) rr) (wl_call (R := fun v_ w_ => ∃ (T128 : Nat → Prop), .tuple #[] = v_ ∧ Kept T83 w86 w_ ∧ (Hld w_ T128 p48 (pushH H (⟨l.getD i 0, (i : Int)⟩)) ∧ Grew w86 T83 T128)) rfl rfl (y_cs rfl rfl rfl (fun _ _ => by kernel_rfl) (ev_func _) (vsC rfl (vsC rfl vsN)) (ch_push p48 H (⟨l.getD i 0, (i : Int)⟩) T83 _ (by omega) B97 ) (fun e_ w_ h_ => by obtain ⟨T128_, he_, hr_⟩ := h_; exact ⟨_, he_, T128_, rfl, hr_⟩)) ?_)))))))
   rintro _ w126 ⟨T128, rfl, k127, ⟨B129, g130⟩⟩
   have B131 := B96.all k127 ap101.symm
   have B132 := B98.all k127 ap102.symm
   have K133 := K87.trans k127 (fun i hi x => ((Grew.ok (S := fun _ => False) gr99 noB_le) i hi x))
   have gr134 := gr99.trans K87 g130
   have ap135 : Apart T128 T_l := ap101.grew g130 B96.live
   have ap136 : Apart T128 T84 := ap102.grew g130 B98.live
   refine wl_nil fun F137 hF138 => ?_
   obtain ⟨s139, s140, s141, s142, s143, s144, s145⟩ := t7 hF138 7 s117 18 s118 19 s119 65 s120 5 s121 6 s122 20 s123
   clear hF138
   refine then_normal (wq_seq ?_)
   have hHp := hIp.len
   refine wq_region (wl_mv rfl rfl rfl s144 (wl_mv rfl rfl rfl s139 (wl_v (pt p48 0) rfl rfl (y_nilc rfl rfl rr) ?_)))
   obtain ⟨v146, T147, hc149, B148⟩ := B129.peek
   refine wl_v v146 rfl rfl (y_load_cel rfl rfl Try.underlying48 hc149 rfl rr) (wl_cs rfl rfl rfl rfl rfl (fun _ _ => by kernel_rfl) (vsC rfl vsN) (oh_len v146 (pushH H (⟨l.getD i 0, (i : Int)⟩)) T147 _  B148 ) fun w150 k151 => ?_)
   have B152 := B131.all k151 Apart.none
   have B153 := B129.all k151 Apart.none
   have B154 := B132.all k151 Apart.none
   have K156 := K133.tr k151
   refine wl_v (iv (shM l (i + 1))) rfl rfl (y_maxR rfl rfl rfl (by have e_ : shM l (i + 1) = max (shM l i) ((i : Int) + 1 - (shT l i : Int)) := rfl; omega) rr) (wl_v (iv (shM l (i + 1))) rfl rfl (y_asg rfl rfl rr) (wl_nil fun F157 hF158 => ?_))
   obtain ⟨s159, s160, s161, s162, s163, s164⟩ := t6 hF158 7 s139 18 s140 19 s141 65 s142 5 s143 20 s145
   have s165 : F157 6 = iv (shM l (i + 1)) := (hF158 6).trans rfl
   clear hF158
   refine then_normal (wq_block (wq_loop (fun nn FF ww => ∃ (t : Nat), ∃ (H2 : List Pic), ∃ (V2 : Value), ∃ (T166 : Nat → Prop), ∃ (T167 : Nat → Prop), (ShI l (i + 1) t H2) ∧ (tk (shA l (i + 1)) t = shT l (i + 1)) ∧ nn = l.length - t ∧ FF 6 = iv (shM l (i + 1)) ∧ FF 7 = pt p48 0 ∧ FF 18 = v ∧ FF 19 = iv ((l.length : Nat) : Int) ∧ FF 20 = iv ((i : Nat) : Int) ∧ FF 65 = undef ∧ FF 5 = V2 ∧ Kept (fun _ => False) w0 ww ∧ RoA rInt ww T_l v l ∧ Hld ww T166 p48 H2 ∧ RoO rInt ww T167 V2 ((shA l (i + 1)).take t) ∧ Grew w0 noB T166 ∧ Grew w0 noB T167 ∧ Apart T166 T_l ∧ Apart T166 T167 ∧ Apart T167 T_l) (l.length - (shT l i)) ⟨shT l i, pushH H ⟨l.getD i 0, (i : Int)⟩, V1, T128, T84, hIp, rfl, rfl, s165, s159, s160, s161, s164, s162, s163, K156, B152, B153, (by rw [hI.take hg1]; exact B154), gr134, gr100, ap135, ap136, ap103⟩ ?_))
   rintro n171 F168 w169 ⟨t, H2, V2, T166, T167, hI2, htk, hn171, s172, s173, s174, s175, s176, s177, s178, K170, B179, B180, B181, gr182, gr183, ap184, ap185, ap186⟩
   refine wq_seq (wq_seq ?_)
   have hH2 := hI2.len
   have hall := shA_len l (i + 1)
   have hlt : ((shA l (i + 1)).take t).length = min t l.length := by rw [List.length_take, hall]
   have htl := hI2.tle (by omega)
   by_cases d187 : 0 < (H2.length : Int)
   ·skip
    refine wq_region (wl_mv rfl rfl rfl s173 (wl_v (pt p48 0) rfl rfl (y_nilc rfl rfl rr) ?_))
    obtain ⟨v188, T189, hc191, B190⟩ := B180.peek
    refine wl_v v188 rfl rfl (y_load_cel rfl rfl Try.underlying48 hc191 rfl rr) (wl_cs rfl rfl rfl rfl rfl (fun _ _ => by kernel_rfl) (vsC rfl vsN) (oh_len v188 H2 T189 _  B190 ) fun w192 k193 => ?_)
    have B194 := B179.all k193 Apart.none
    have B195 := B180.all k193 Apart.none
    have B196 := B181.all k193 Apart.none
    have K198 := K170.tr k193
    refine wl_v (.bool true) rfl rfl (y_gtr rfl rfl rfl (decide_eq_true d187) rr) (wl_v (.bool true) rfl rfl (y_mov rfl rfl rr) (wl_vw (pt p48 0) 5 true 43 rfl rfl rfl rfl rfl (y_mov rfl s173 rr) (wl_vw (pt p48 0) 5 true 43 rfl rfl rfl rfl rfl (y_nilc rfl rfl rr) ?_)))
    obtain ⟨v199, T200, hc202, B201⟩ := B195.peek
    refine wl_vw v199 5 true 43 rfl rfl rfl rfl rfl (y_load_cel rfl rfl Try.underlying48 hc202 rfl rr) (wl_vw (bytAddr v199 (0 * 2)) 5 true 43 rfl rfl rfl rfl rfl (y_atRo (r := rPic) 0 rfl rfl rfl (by omega) B201 (by omega) rr) (wl_vw (bytAddr v199 (0 * 2)) 5 true 43 rfl rfl rfl rfl rfl (y_fieldRo (j := 0) (n := 1) rfl rfl B201 (by omega) Try.underlying51 rfl (by kernel_rfl) (by decide) rfl rr) (wl_vw (iv ((H2.getD 0 pcZ).s)) 5 true 43 rfl rfl rfl rfl rfl (y_ldRo (r := rPic) 0 0 rfl rfl B201 (by omega) (by decide) rfl Try.underlying3 rfl rr) (wl_vw V2 5 true 43 rfl rfl rfl rfl rfl (y_mov rfl s178 rr) (wl_vw (iv ((((shA l (i + 1)).take t).length : Nat) : Int)) 5 true 43 rfl rfl rfl rfl rfl (y_lenRo (r := rInt) rfl rfl rfl B196.roa rr) (wl_vw (.bool (decide (((H2.getD 0 pcZ).s) = ((((shA l (i + 1)).take t).length : Nat) : Int)))) 5 true 43 rfl rfl rfl rfl rfl (y_eqlI rfl rfl rfl rfl rr) (wl_v (.bool (decide (((H2.getD 0 pcZ).s) = ((((shA l (i + 1)).take t).length : Nat) : Int)))) rfl rfl (y_pickT rfl rfl rfl rr) (wl_nil fun F203 hF204 => ?_))))))))
    obtain ⟨s205, s206, s207, s208, s209, s210, s211⟩ := t7 hF204 6 s172 7 s173 18 s174 19 s175 20 s176 65 s177 5 s178
    have s212 : F203 53 = .bool (decide (((H2.getD 0 pcZ).s) = ((((shA l (i + 1)).take t).length : Nat) : Int))) := (hF204 53).trans rfl
    clear hF204
    refine then_normal ?_
    refine wq_cond s212 (fun c213 => ?_) (fun c213 => ?_)
    ·replace c213 := of_decide_eq_true c213
     refine wq_skip (then_normal (wq_block ?_))
     have hto : 0 < H2.length ∧ (H2.getD 0 pcZ).s = (t : Int) := ⟨by omega, by omega⟩
     have htp := (hI2.top hg1).1 hto
     refine wq_region (wl_mv rfl rfl rfl s211 (wl_mv rfl rfl rfl s206 (wl_v (.iface 46 (pt p48 0)) rfl rfl (y_mki rfl rfl (by kernel_rfl) rr) (wl_call (R := fun v_ w_ => ∃ (T216 : Nat → Prop), .iface 51 (.agg #[iv ((H2.getD 0 pcZ).s), iv ((H2.getD 0 pcZ).t)]) = v_ ∧ Kept T166 w192 w_ ∧ (Hld w_ T216 p48 (popH H2) ∧ Grew w192 T166 T216)) rfl rfl (y_cs rfl rfl rfl (fun _ _ => by kernel_rfl) (ev_func _) (vsC rfl vsN) (ch_pop p48 H2 T166 _ (by omega) (by omega) B195 ) (fun e_ w_ h_ => by obtain ⟨T216_, he_, hr_⟩ := h_; exact ⟨_, he_, T216_, rfl, hr_⟩)) ?_))))
     rintro _ w214 ⟨T216, rfl, k215, ⟨B217, g218⟩⟩
     have B219 := B194.all k215 ap184.symm
     have B220 := B196.all k215 ap185.symm
     have K221 := K198.trans k215 (fun i hi x => ((Grew.ok (S := fun _ => False) gr182 noB_le) i hi x))
     have gr222 := gr182.trans K198 g218
     have ap223 : Apart T216 T_l := ap184.grew g218 B194.live
     have ap224 : Apart T216 T167 := ap185.grew g218 B196.live
     refine wl_v (.agg #[iv ((H2.getD 0 pcZ).s), iv ((H2.getD 0 pcZ).t)]) rfl rfl (y_tas rfl rfl Try.underlying51 rfl rr) (wl_v (iv ((H2.getD 0 pcZ).t)) rfl rfl (y_fld rfl rfl Try.underlying51 rfl Try.underlying3 rfl rfl rr) (wl_builtRo (r := rInt) (xs := [.tmp 59]) (vs := [iv ((H2.getD 0 pcZ).t)]) (l := [(H2.getD 0 pcZ).t]) rfl rfl rfl rfl rfl (vsC rfl vsN) rfl (by first | decide | exact Nat.le_of_ble_eq_true rfl) (by first | decide | exact Nat.le_of_ble_eq_true rfl) fun v225 w226 T230 B228 g229 k227 => ?_))
     have B235 := B219.all k227 Apart.none
     have B236 := B217.all k227 Apart.none
     have B237 := B220.all k227 Apart.none
     have K238 := K221.tr k227
     refine wl_appendRo (r := rInt) rfl rfl rfl rfl rfl rfl B237 B228.roa (by first | omega | (simp; done) | (simp; omega)) fun v239 w240 T244 B242 g243 k241 => ?_
     have gr245 := Grew.trans gr183 K238 g243
     have ap246 : Apart T244 T_l := ap186.grew g243 B235.live
     have ap247 : Apart T244 T216 := (ap224.symm).grew g243 B236.live
     have B249 := B235.all k241 ap186.symm
     have B250 := B236.all k241 ap224
     have K252 := K238.trans k241 (Grew.ok (S := fun _ => False) gr183 noB_le)
     refine wl_v v239 rfl rfl (y_asg rfl rfl rr) (wl_nil fun F253 hF254 => ?_)
     obtain ⟨s255, s256, s257, s258, s259, s260⟩ := t6 hF254 6 s205 7 s206 18 s207 19 s208 20 s209 65 s210
     have s261 : F253 5 = v239 := (hF254 5).trans rfl
     clear hF254
     refine in_normal ?_
     exact then_normal ⟨(l.length - (t + 1)), by omega, t + 1, popH H2, v239, T216, T244, (hI2.pop hg1 hto.1 hto.2), ((tk_yes htp.1 htp.2).symm.trans htk), rfl, s255, s256, s257, s258, s259, s260, s261, K252, B249, B250, (by rw [← hI2.told hg1 hto.1 hto.2]; exact B242), gr222, gr245, ap223, ap247.symm, ap246⟩
    ·replace c213 := of_decide_eq_false c213
     refine wq_exit (then_exit (then_exit (in_here (in_normal (then_normal ?_)))))
     have htt : t = shT l (i + 1) := (tk_no (fun z => by have z2 := (hI2.top hg1).2 z; omega)).symm.trans htk
     refine wq_region (wl_v (iv ((i + 1 : Nat) : Int)) rfl rfl (y_add rfl s209 rfl (i64_n (by omega) (by omega)) rr) (wl_v (iv ((i + 1 : Nat) : Int)) rfl rfl (y_mov rfl rfl rr) (wl_nil fun F262 hF263 => ?_)))
     obtain ⟨s264, s265, s266, s267, s268, s269⟩ := t6 hF263 6 s205 7 s206 18 s207 19 s208 65 s210 5 s211
     have s270 : F262 20 = iv ((i + 1 : Nat) : Int) := (hF263 20).trans rfl
     clear hF263
     exact then_normal ⟨(l.length - (i + 1)), by omega, i + 1, H2, V2, T166, T167, (by omega), (by rw [← htt]; exact hI2), rfl, s265, s266, s267, s268, s269, s264, s270, K198, B194, B195, (by rw [← htt]; exact B196), gr182, gr183, ap184, ap185, ap186⟩
   ·skip
    refine wq_region (wl_mv rfl rfl rfl s173 (wl_v (pt p48 0) rfl rfl (y_nilc rfl rfl rr) ?_))
    obtain ⟨v271, T272, hc274, B273⟩ := B180.peek
    refine wl_v v271 rfl rfl (y_load_cel rfl rfl Try.underlying48 hc274 rfl rr) (wl_cs rfl rfl rfl rfl rfl (fun _ _ => by kernel_rfl) (vsC rfl vsN) (oh_len v271 H2 T272 _  B273 ) fun w275 k276 => ?_)
    have B277 := B179.all k276 Apart.none
    have B278 := B180.all k276 Apart.none
    have B279 := B181.all k276 Apart.none
    have K281 := K170.tr k276
    refine wl_v (.bool false) rfl rfl (y_gtr rfl rfl rfl (decide_eq_false d187) rr) (wl_v (.bool false) rfl rfl (y_mov rfl rfl rr) (wl_unless 5 true 43 rfl rfl rfl (Or.inl rfl) rfl (wl_unless 5 true 43 rfl rfl rfl (Or.inl rfl) rfl (wl_unless 5 true 43 rfl rfl rfl (Or.inl rfl) rfl (wl_unless 5 true 43 rfl rfl rfl (Or.inl rfl) rfl (wl_unless 5 true 43 rfl rfl rfl (Or.inl rfl) rfl (wl_unless 5 true 43 rfl rfl rfl (Or.inl rfl) rfl (wl_unless 5 true 43 rfl rfl rfl (Or.inl rfl) rfl (wl_unless 5 true 43 rfl rfl rfl (Or.inl rfl) rfl (wl_unless 5 true 43 rfl rfl rfl (Or.inl rfl) rfl (wl_v (.bool false) rfl rfl (y_pickF rfl rfl rfl rr) ?_)))))))))))
    refine wl_nil fun F282 hF283 => ?_
    obtain ⟨s284, s285, s286, s287, s288, s289, s290⟩ := t7 hF283 6 s172 7 s173 18 s174 19 s175 20 s176 65 s177 5 s178
    have s291 : F282 53 = .bool false := (hF283 53).trans rfl
    clear hF283
    refine then_normal ?_
    refine wq_cond (t := false) s291 (fun e => by cases e) (fun _ => ?_)
    refine wq_exit (then_exit (then_exit (in_here (in_normal (then_normal ?_)))))
    have htt : t = shT l (i + 1) := (tk_no (fun z => by have z2 := (hI2.top hg1).2 z; omega)).symm.trans htk
    refine wq_region (wl_v (iv ((i + 1 : Nat) : Int)) rfl rfl (y_add rfl s288 rfl (i64_n (by omega) (by omega)) rr) (wl_v (iv ((i + 1 : Nat) : Int)) rfl rfl (y_mov rfl rfl rr) (wl_nil fun F292 hF293 => ?_)))
    obtain ⟨s294, s295, s296, s297, s298, s299⟩ := t6 hF293 6 s284 7 s285 18 s286 19 s287 65 s289 5 s290
    have s300 : F292 20 = iv ((i + 1 : Nat) : Int) := (hF293 20).trans rfl
    clear hF293
    exact then_normal ⟨(l.length - (i + 1)), by omega, i + 1, H2, V2, T166, T167, (by omega), (by rw [← htt]; exact hI2), rfl, s295, s296, s297, s298, s299, s294, s300, K281, B277, B278, (by rw [← htt]; exact B279), gr182, gr183, ap184, ap185, ap186⟩
  ·replace c114 := of_decide_eq_false c114
   refine wq_exit (then_exit (then_exit (in_here (then_normal (wq_seq ?_)))))
   have hfin : i = l.length := by omega
   have hR := And.intro (shL_yes hok) (And.intro ((shN_yes hok).trans (congrArg (shM l) hfin.symm)) (shE_yes hok))
   have hE : (shA l i).take (shT l i) = shA l l.length := by rw [hfin]; exact sh_done hok.2.2
   refine wq_region (wl_mv rfl rfl rfl s110 (wl_mv rfl rfl rfl s111 (wl_v V1 rfl rfl (y_asg rfl rfl rr) (wl_v (iv (shM l i)) rfl rfl (y_asg rfl rfl rr) (wl_v (iv 0) rfl rfl (y_asg rfl rfl rr) (wl_nil fun F301 hF302 => ?_))))))
   have s303 := (hF302 65).trans s109
   have s304 : F301 2 = V1 := (hF302 2).trans rfl
   have s305 : F301 3 = iv (shM l i) := (hF302 3).trans rfl
   have s306 : F301 4 = iv 0 := (hF302 4).trans rfl
   clear hF302
   refine then_normal (wq_ret ?_)
   exact end_3 s303 rfl (res_tmp (v := V1) rfl s304) (res_tmp (v := iv (shM l i)) rfl s305) (res_tmp (v := iv 0) rfl s306) ⟨V1, T84, (by rw [hR.2.1, hR.2.2] <;> rfl), K87, ⟨(by rw [hR.1]; first | exact B98 | (rw [← hE]; exact B98)), gr100⟩⟩
 ·skip
  refine wq_region (wl_mv rfl rfl rfl s3 (wl_call (R := fun v_ w_ => v_ = .bool false ∧ Kept (fun _ => False) w0 w_) rfl rfl (y_cs rfl rfl rfl (fun _ _ => by kernel_rfl) (ev_func _) (vsC rfl vsN) (od_once v l T_l _  h_l ) (fun e_ w_ h_ => ⟨_, h_.1, (congrArg Value.bool (decide_eq_false d5)), h_.2⟩)) ?_))
  rintro _ w307 ⟨rfl, k308⟩
  have K310 := K0.tr k308
  refine wl_v (.bool true) rfl rfl (y_not rfl rfl rfl rr) (wl_nil fun F311 hF312 => ?_)
  have s314 := (hF312 65).trans s4
  have s315 : F311 12 = .bool true := (hF312 12).trans rfl
  clear hF312
  refine then_normal ?_
  refine wq_cond (t := true) s315 (fun _ => ?_) (fun e => by cases e)
  refine wq_seq ?_
  have hno : ¬ shOk l := by first | assumption | (apply of_decide_eq_false; assumption)
  have hR := And.intro (shL_no hno) (And.intro (shN_no hno) (shE_no hno))
  refine wq_region (wl_v (.slice none 0 0) rfl rfl (y_asg rfl rfl rr) (wl_v (iv 0) rfl rfl (y_asg rfl rfl rr) (wl_v (iv 150) rfl rfl (y_asg rfl rfl rr) (wl_nil fun F316 hF317 => ?_))))
  have s318 := (hF317 65).trans s314
  have s319 : F316 2 = .slice none 0 0 := (hF317 2).trans rfl
  have s320 : F316 3 = iv 0 := (hF317 3).trans rfl
  have s321 : F316 4 = iv 150 := (hF317 4).trans rfl
  clear hF317
  refine then_normal (wq_ret (then_ret ?_))
  exact end_3 s318 rfl (res_tmp (v := .slice none 0 0) rfl s319) (res_tmp (v := iv 0) rfl s320) (res_tmp (v := iv 150) rfl s321) ⟨(.slice none 0 0), noB, (by rw [hR.2.1, hR.2.2] <;> rfl), K310, ⟨(by rw [hR.1]; first | exact (RoO.nil rInt _) | (rw [← hE]; exact (RoO.nil rInt _))), (Grew.refl _ _)⟩⟩
end Go.Proofs.Ythoafgfcoclkbaa
set_option maxRecDepth 100000
namespace Go.Proofs.Ythoafgfcoclkbaa
open Go.RowKit
structure StJ {α : Type} (J : List α → (Nat → Prop) → World → Prop) : Prop where
  st : ∀ (pre : List α) (T S : Nat → Prop) (w w' : World), J pre T w → Kept S w w' → Apart T S → J pre T w'
  li : ∀ (pre : List α) (T : Nat → Prop) (w : World), J pre T w → Live w T
def Hands {α : Type} (J Jx : List α → (Nat → Prop) → World → Prop) (ys : List α) (T : Nat → Prop) (W : World) (e : Ending) (W' : World) : Prop := ∃ T' : Nat → Prop, Kept T W W' ∧ Grew W T T' ∧ ((e = .returned (.bool true) ∧ J ys T' W') ∨ (e = .returned (.bool false) ∧ Jx ys T' W'))
def SeqT {α : Type} (P : Program) (gf : FuncId) (lb : Array Value) (enc : α → Value) (xs : List α) (W0 : World) (Tg : Nat → Prop) : Prop :=
  ∀ (l : Nat) (J Jx : List α → (Nat → Prop) → World → Prop) (T0 : Nat → Prop), StJ J → StJ Jx → J [] T0 W0 → Apart T0 Tg →
    (∀ (pre : List α) (x : α) (T : Nat → Prop) (W : World), J pre T W → (pre ++ [x]) <+: xs → YieldAt Fence.wide 0 P l #[enc x] W (Hands J Jx (pre ++ [x]) T W)) →
    Calls P gf (#[.func (.yield l) #[] #[]] ++ lb) W0 fun e W' => (∃ v, e = .returned v) ∧ ∃ T' : Nat → Prop, Kept T0 W0 W' ∧ Grew W0 T0 T' ∧ (J xs T' W' ∨ ∃ pre, Jx pre T' W')
def Sqt {α : Type} (P : Program) (enc : α → Value) (w : World) (Tg : Nat → Prop) (v : Value) (xs : List α) : Prop :=
  ∃ (gf : FuncId) (lb : Array Value), v = .func (.func gf) #[] lb ∧ (∀ args w, (callFunc gf args).run P w = .ok (.enter gf args) w) ∧ Live w Tg ∧ ∀ (S : Nat → Prop) (W : World), Kept S w W → Apart Tg S → SeqT P gf lb enc xs W Tg
theorem Sqt.live {α : Type} {P : Program} {enc : α → Value} {w : World} {Tg : Nat → Prop} {v : Value} {xs : List α} (h : Sqt P enc w Tg v xs) : Live w Tg := by
  obtain ⟨_, _, _, _, h, _⟩ := h; exact h
theorem Sqt.all {α : Type} {P : Program} {enc : α → Value} {S : Nat → Prop} {w w' : World} {Tg : Nat → Prop} {v : Value} {xs : List α} (h : Sqt P enc w Tg v xs) (k : Kept S w w') (ha : Apart Tg S) : Sqt P enc w' Tg v xs := by
  obtain ⟨gf, lb, h1, h2, h3, h4⟩ := h
  exact ⟨gf, lb, h1, h2, h3.mono k, fun S2 W k2 a2 => h4 (fun i => S i ∨ S2 i) W ((k.mono (fun i _ h => .inl h)).trans k2 (fun i _ h => .inr h)) (fun i hi h => h.elim (ha i hi) (a2 i hi))⟩
def lrec (D : Nat) (fn : FuncId) (tmps : Array Value) (ps : Array Tmp) (assign body : Code) (st : LoopState) (pe : Option Code) : Loop := { state := st, pending := pe, fn, tmps, params := ps, assign, body, defers := D }
def Rec (D : Nat) (r : Loop) (W : World) : Prop := W.heap[D + 1]? = some (.loop r) ∧ W.heap[D]? = some (.deferred (some []))
theorem Rec.all {D : Nat} {r : Loop} {S : Nat → Prop} {W W' : World} (h : Rec D r W) (k : Kept S W W') (h0 : ¬ S D) (h1 : ¬ S (D + 1)) : Rec D r W' := ⟨k.at h.1 h1, k.at h.2 h0⟩
theorem Rec.lt {D : Nat} {r : Loop} {W : World} (h : Rec D r W) : D + 1 < W.heap.size := lt_of_heap h.1
theorem Rec.turn {D : Nat} {r : Loop} {W : World} (h : Rec D r W) (r' : Loop) : Rec D r' (W.putObj (D + 1) (.loop r')) := ⟨World.putObj_heap_same h.lt, (World.putObj_heap_other (by omega)).trans h.2⟩
theorem kept_put (W : World) (l : Nat) (o : Obj) : Kept (onB l) W (W.putObj l o) := (Kept.refl (onB l) W).grown (grownBy_putObj' W l o) (fun k e _ => by cases e; rfl)
def WithR {α : Type} (D : Nat) (r : Loop) (I : List α → (Nat → Prop) → World → Prop) (pre : List α) (T : Nat → Prop) (W : World) : Prop := ∃ Ti : Nat → Prop, (∀ i, T i ↔ (Ti i ∨ (i = D ∨ i = D + 1))) ∧ ¬ Ti D ∧ ¬ Ti (D + 1) ∧ I pre Ti W ∧ Rec D r W
theorem WithR.stj {α : Type} {D : Nat} {r : Loop} {I : List α → (Nat → Prop) → World → Prop} (h : StJ I) : StJ (WithR D r I) := by
  refine ⟨?_, ?_⟩
  · rintro pre T S w w' ⟨Ti, hT, h0, h1, hi, hr⟩ k ha
    exact ⟨Ti, hT, h0, h1, h.st pre Ti S w w' hi k (fun i hi => ha i ((hT i).2 (.inl hi))), hr.all k (ha D ((hT D).2 (.inr (.inl rfl)))) (ha (D + 1) ((hT (D + 1)).2 (.inr (.inr rfl))))⟩
  · rintro pre T w ⟨Ti, hT, _, _, hi, hr⟩ i hi'
    have := hr.lt
    rcases (hT i).1 hi' with h1 | rfl | rfl
    · exact h.li pre Ti w hi i h1
    · omega
    · omega
def roundT {α : Type} (I Ix : List α → (Nat → Prop) → World → Prop) (T : Nat → Prop) (zp : Nat) (ys : List α) (W : World) : Exit → (Nat → Value) → World → Prop
  | .normal, _, W' => ∃ T' : Nat → Prop, Kept (fun i => T i ∨ i = zp) W W' ∧ Grew W T T' ∧ I ys T' W'
  | .ret, _, W' => ∃ T' : Nat → Prop, Kept (fun i => T i ∨ i = zp) W W' ∧ Grew W T T' ∧ Ix ys T' W'
  | _, _, _ => False
theorem wq_rangeT {α : Type} {P : Program} {N : Nat} {Q : Exit → (Nat → Value) → World → Prop} {F : Nat → Value} {w : World} {g : Operand} {q z : Tmp} {ra n : Nat} {o1 o2 : Oper} {TY : TypeId} {body : Code} {us : α → List Value} {zs : List Value} {v : Value} {xs : List α} {Tg T0 : Nat → Prop}
    (hT : ∀ x, StcT P TY (us x).length) (hus : ∀ x, OneAll (us x)) (hz0 : (P.info? TY).map (fun i => (i.zero, i.size)) = some (some (.agg zs.toArray), n)) (hzl : ∀ x, zs.length = (us x).length)
    (h1 : o1.op = .alloc TY) (d1 : o1.dst = some z) (g1 : o1.guard = none) (h2 : o2.op = .store TY (.tmp z) (.tmp q)) (d2 : o2.dst = none) (g2 : o2.guard = none)
    (hq : Nat.blt q N = true) (hz : Nat.blt z N = true) (hzq : q ≠ z)
    (hg : ev (cutF N F) g = v) (hs : Sqt P (fun x => .agg (us x).toArray) w Tg v xs)
    (I Ix : List α → (Nat → Prop) → World → Prop) (sI : StJ I) (sX : StJ Ix) (h0 : I [] T0 w) (hap : Apart T0 Tg)
    (hbody : ∀ (l : Nat) (pre : List α) (x : α) (T : Nat → Prop) (zp : Nat) (F1 : Nat → Value) (W : World), I pre T W → (pre ++ [x]) <+: xs → Stc W zp TY (us x) → Apart T (onB zp) → F1 z = .pointer (some ⟨zp, 0, none⟩) → (∀ t, t ≠ z → t ≠ q → t ≠ N → F1 t = F t) → F1 N = undef → wq (some (l + 1)) P N body (roundT I Ix T zp (pre ++ [x]) W) F1 W)
    (hdone : ∀ (D : Nat) (T' : Nat → Prop) (W : World), w.heap.size ≤ D → Kept T0 w W → Grew w T0 T' → I xs T' W → Mrk W D → ¬ T' D → Q .normal (up F N (markV (D :: marksOf (F N)))) W)
    (hstop : ∀ (D : Nat) (T' : Nat → Prop) (pre : List α) (W : World), w.heap.size ≤ D → Kept T0 w W → Grew w T0 T' → Ix pre T' W → Mrk W D → ¬ T' D → Q .ret (up F N (markV (D :: marksOf (F N)))) W) :
    wq none P N (.rangeFunc g #[q] (.region ra #[o1, o2] false) body) Q F w := by
  obtain ⟨gf, lb, rfl, eg, hlg, hseq⟩ := hs
  intro a ha
  refine wpIn_rangeFunc (F := Fence.wide) fun fn hfn => ?_
  obtain ⟨D, hD⟩ : ∃ D, D = w.heap.size := ⟨_, rfl⟩
  obtain ⟨rec, hrec⟩ : ∃ rec : LoopState → Option Code → Loop, rec = lrec D fn a.tmps #[q] (.region ra #[o1, o2] false) body := ⟨_, rfl⟩
  obtain ⟨W1, hW1⟩ : ∃ W1, W1 = (w.alloc (.deferred (some []))).alloc (.loop (rec .ready none)) := ⟨_, rfl⟩
  have henter := run_enterLoop_outer (P := P) (w := w) fn a.tmps #[q] (.region ra #[o1, o2] false) body
  have hk1 : Kept (fun _ => False) w W1 := by rw [hW1]; exact ((Kept.refl _ w).alloc _).alloc _
  have hr1 : Rec D (rec .ready none) W1 := by
    rw [hW1, hD]
    refine ⟨?_, ?_⟩
    · have := World.alloc_heap_new (w.alloc (.deferred (some []))) (.loop (rec .ready none)); rwa [World.size_alloc] at this
    · exact ((Kept.refl (fun _ => False) (w.alloc (.deferred (some [])))).alloc _).at (World.alloc_heap_new w _) id
  have hT0 : ∀ i, T0 i → i < D := fun i hi => by rw [hD]; exact sI.li _ _ _ h0 i hi
  have hn0 : ¬ T0 D := fun h => by have := hT0 D h; omega
  have hn1 : ¬ T0 (D + 1) := fun h => by have := hT0 _ h; omega
  refine ⟨D + 1, [{ target := .collected D, args := #[] }], W1, { target := .fn (.func gf) lb, args := #[.func (.yield (D + 1)) #[] #[]] }, W1, gf, #[.func (.yield (D + 1)) #[] #[]] ++ lb, W1, ?_, ?_, fun _ _ => trivial, ?_, (fun h => by cases h), ?_⟩
  · rw [hW1, hrec, hD]; exact henter
  · have hge : a.eval g = .func (.func gf) #[] lb := by rw [ha.eval]; exact hg
    simp only [resolve, hge]; simp [go_sem]
  · simp [invoke, go_sem, eg]
  refine callsIn_wide.2 ((hseq (fun _ => False) W1 hk1 (fun _ _ h => h) (D + 1) (WithR D (rec .ready none) I) (WithR D (rec .done (some .ret)) Ix) (fun i => T0 i ∨ (i = D ∨ i = D + 1)) (WithR.stj sI) (WithR.stj sX)
    ⟨T0, fun _ => Iff.rfl, hn0, hn1, sI.st _ _ _ _ _ h0 hk1 (fun _ _ h => h), hr1⟩ (fun i hi hg' => ?_) ?_).mono ?_)
  · have h3 := hlg i hg'
    rcases hi with h4 | h4
    · exact hap i h4 hg'
    · omega
  · -- a round
    rintro pre x T W ⟨Ti, hTi, hi0, hi1, hi, hr⟩ hpx
    have hsz := hr.lt
    refine ⟨fn, _, _, _, by have := run_yield (P := P) (args := #[Value.agg (us x).toArray]) hr.1 (by rw [hrec]; rfl); rw [hrec] at this; exact this, roundIn_of_wpIn hfn ?_⟩
    have hfr : Fr N (loopF N F [(q, .agg (us x).toArray)]) { tmps := ((#[q] : Array Tmp).zip #[Value.agg (us x).toArray]).foldl (fun t (p, u) => t.setIfInBounds p u) a.tmps, defers := [] } := by
      have e1 : ((#[q] : Array Tmp).zip #[Value.agg (us x).toArray]).foldl (fun t (p, u) => t.setIfInBounds p u) a.tmps = [(q, Value.agg (us x).toArray)].foldl (fun t p => t.setIfInBounds p.1 p.2) a.tmps := by simp
      rw [e1]
      exact Fr.rounds [(q, Value.agg (us x).toArray)] _ _ (ha.last undef [] rfl) (by simp [hq])
    refine wpIn_mono ((show wq (some (D + 1 + 1)) P N (.region ra #[o1, o2] false) (fun e F1 W2 => e = .normal ∧ ∃ zp, W.heap.size ≤ zp ∧ Kept (fun _ => False) W W2 ∧ Stc W2 zp TY (us x) ∧ F1 z = .pointer (some ⟨zp, 0, none⟩) ∧ (∀ t, t ≠ z → F1 t = loopF N F [(q, .agg (us x).toArray)] t)) (loopF N F [(q, .agg (us x).toArray)]) W from ?_) _ hfr) ?_
    · refine wq_region (os := [o1, o2]) (wl_alloc_stc g1 (by rw [d1]; exact hz) h1 hz0 fun zp W2 hst hgz kz => ?_)
      have hne : zp ≠ q ∨ True := .inr trivial
      have hzp : W.heap.size ≤ zp := (hgz zp rfl).elim (fun h => h.elim) id
      have ez : putF (loopF N F [(q, Value.agg (us x).toArray)]) o1.dst (.pointer (some ⟨zp, 0, none⟩)) z = .pointer (some ⟨zp, 0, none⟩) := by
        rw [d1]; simp [putF, up, Nat.beq_refl]
      have eo : ∀ t, t ≠ z → putF (loopF N F [(q, Value.agg (us x).toArray)]) o1.dst (.pointer (some ⟨zp, 0, none⟩)) t = loopF N F [(q, Value.agg (us x).toArray)] t := fun t ht => by
        rw [d1]; show up _ z _ t = _; unfold up
        rw [show Nat.beq t z = false from by cases h : Nat.beq t z; rfl; exact absurd (Nat.eq_of_beq_eq_true h) ht]; rfl
      refine wl_store_stc (us := us x) (hT x) g2 d2 h2 (by show cutF N _ z = _; unfold cutF; rw [hz]; exact ez) (by
        show cutF N _ q = _; unfold cutF; rw [hq]
        show putF _ _ _ q = _
        rw [eo q hzq]; show up _ q _ q = _; simp [up, Nat.beq_refl]) hst (hzl x) (hus x) fun W3 hst3 k3 => ?_
      refine wl_nil fun F' hF' => ⟨rfl, zp, hzp, kz.trans k3 (fun i hi h => by subst h; omega), hst3, (hF' z).trans ez, fun t ht => (hF' t).trans (eo t ht)⟩
    rintro e a1 W2 ⟨F1, hF1, rfl, zp, hzp, kz, hst, hz1, hother⟩
    have hi2 : I pre Ti W2 := sI.st _ _ _ _ _ hi kz (fun _ _ h => h)
    have hr2 := hr.all kz id id
    have hliv := sI.li _ _ _ hi
    refine ⟨_, run_beginRound hr2.1 (by rw [hrec]; rfl), ?_⟩
    have hr3 := hr2.turn { rec .ready none with state := .busy }
    have kb := kept_put W2 (D + 1) (.loop { rec .ready none with state := .busy })
    have hi3 : I pre Ti (W2.putObj (D + 1) (.loop { rec .ready none with state := .busy })) := sI.st _ _ _ _ _ hi2 kb (fun i h e => hi1 (e ▸ h))
    have hst3 : Stc (W2.putObj (D + 1) (.loop { rec .ready none with state := .busy })) zp TY (us x) := hst.all kb (fun e => by unfold onB at e; omega)
    have hNz : N ≠ z := fun e => by rw [e] at hz; simp [Nat.blt_eq] at hz
    have hNq : N ≠ q := fun e => by rw [e] at hq; simp [Nat.blt_eq] at hq
    have bne : ∀ {s t : Nat}, s ≠ t → Nat.beq s t = false := fun {s t} h => by
      cases hb : Nat.beq s t
      · rfl
      · exact absurd (Nat.eq_of_beq_eq_true hb) h
    refine wpIn_mono (hbody (D + 1) pre x Ti zp F1 _ hi3 hpx hst3 (fun i h e => by have := hliv i h; unfold onB at e; omega) hz1 (fun t t1 t2 t3 => by
      rw [hother t t1]; show up (up F N undef) q _ t = _
      unfold up; rw [bne t2, bne t3]; rfl) (by
      rw [hother N hNz]; show up (up F N undef) q _ N = _
      unfold up; rw [bne hNq, Nat.beq_refl]; rfl) a1 hF1) ?_
    have hszb : (W2.putObj (D + 1) (.loop { rec .ready none with state := .busy })).heap.size = W2.heap.size := by simp [World.putObj]
    have fin : ∀ (st : LoopState) (jump : Option Code) (Tn : Nat → Prop) (K : List α → (Nat → Prop) → World → Prop) (W3 : World), StJ K → Kept (fun i => Ti i ∨ i = zp) (W2.putObj (D + 1) (.loop { rec .ready none with state := .busy })) W3 → Grew (W2.putObj (D + 1) (.loop { rec .ready none with state := .busy })) Ti Tn → K (pre ++ [x]) Tn W3 → st = (if jump.isNone then .ready else .done) →
        (Instr.endRound (D + 1) jump).run P W3 = .ok (.bool jump.isNone) (W3.putObj (D + 1) (.loop (rec st jump))) ∧ Kept T W (W3.putObj (D + 1) (.loop (rec st jump))) ∧ Grew W T (fun i => Tn i ∨ (i = D ∨ i = D + 1)) ∧ WithR D (rec st jump) K (pre ++ [x]) (fun i => Tn i ∨ (i = D ∨ i = D + 1)) (W3.putObj (D + 1) (.loop (rec st jump))) := by
      intro st jump Tn K W3 sK k3 g3 hK hst'
      have hr4 := hr3.all k3 (fun h => h.elim hi0 (fun e => by omega)) (fun h => h.elim hi1 (fun e => by omega))
      have hend := run_endRound (P := P) jump hr4.1
      have hn : ¬ Tn D ∧ ¬ Tn (D + 1) := ⟨fun h => (g3 D h).elim hi0 (fun e => by have := kz.size; omega), fun h => (g3 (D + 1) h).elim hi1 (fun e => by have := kz.size; omega)⟩
      have k4 := kept_put W3 (D + 1) (.loop (rec st jump))
      refine ⟨by rw [hst', hrec] at *; exact hend, ?_, fun i hi' => ?_, Tn, fun _ => Iff.rfl, hn.1, hn.2, sK.st _ _ _ _ _ hK k4 (fun i h e => hn.2 (e ▸ h)), hr4.turn _⟩
      · have ka : Kept T W W2 := kz.mono (fun _ _ h => h.elim)
        have kb' : Kept T W _ := ka.trans kb (fun i _ e => (hTi i).2 (.inr (.inr e)))
        have kc := kb'.trans k3 (fun i hi' h => h.elim (fun h => (hTi i).2 (.inl h)) (fun e => by omega))
        exact kc.trans k4 (fun i _ e => (hTi i).2 (.inr (.inr e)))
      · rcases hi' with h | h
        · rcases g3 i h with h | h
          · exact .inl ((hTi i).2 (.inl h))
          · exact .inr (by have := kz.size; omega)
        · exact .inl ((hTi i).2 (.inr h))
    rintro e a3 W3 ⟨F3, hF3, hp⟩
    cases e with
    | normal =>
      obtain ⟨Tn, k3, g3, hK⟩ := hp
      obtain ⟨he, kk, gg, hw⟩ := fin .ready none Tn I W3 sI k3 g3 hK rfl
      exact ⟨_, _, he, _, kk, gg, .inl ⟨rfl, hw⟩⟩
    | ret =>
      obtain ⟨Tn, k3, g3, hK⟩ := hp
      obtain ⟨he, kk, gg, hw⟩ := fin .done (some .ret) Tn Ix W3 sX k3 g3 hK rfl
      exact ⟨_, _, he, _, kk, gg, .inr ⟨rfl, hw⟩⟩
    | exit id => exact hp.elim
    | goto t => exact hp.elim
    | panic c => exact hp.elim
    | outgrown => exact hp.elim
  · -- behind it
    rintro e W2 ⟨⟨u, rfl⟩, T', k2, g2', hJ⟩
    have after : ∀ (st : LoopState) (pe : Option Code) (K : List α → (Nat → Prop) → World → Prop) (ys : List α), StJ K → st ≠ .busy → WithR D (rec st pe) K ys T' W2 → ∃ W3 Ti, (Instr.endLoop (D + 1)).run P W2 = .ok pe W3 ∧ Kept T0 w W3 ∧ Grew w T0 Ti ∧ K ys Ti W3 ∧ Mrk W3 D ∧ ¬ Ti D := by
      rintro st pe K ys sK hnb ⟨Ti, hTi, hi0, hi1, hK, hr⟩
      have k3 := kept_put W2 (D + 1) (.loop { rec st pe with state := .exhausted })
      refine ⟨_, Ti, by have := run_endLoop (P := P) hr.1 (by rw [hrec]; exact hnb); rw [hrec] at this ⊢; exact this, ?_, fun i hi => ?_, sK.st _ _ _ _ _ hK k3 (fun i h e => hi1 (e ▸ h)), k3.at hr.2 (fun e => by unfold onB at e; omega), hi0⟩
      · have ka : Kept T0 w W1 := hk1.mono (fun _ _ h => h.elim)
        have kb := ka.trans k2 (fun i hi h => h.elim id (fun e => by omega))
        exact kb.trans k3 (fun i hi e => by unfold onB at e; omega)
      · have hne : i ≠ D ∧ i ≠ D + 1 := ⟨fun e => hi0 (e ▸ hi), fun e => hi1 (e ▸ hi)⟩
        rcases g2' i ((hTi i).2 (.inl hi)) with h | h
        · exact h.elim .inl (fun e => by omega)
        · exact .inr (by have := hk1.size; omega)
    rcases hJ with hJ | ⟨pre, hJ⟩
    · obtain ⟨W3, Ti, he, kk, gg, hK, hm, hnD⟩ := after .ready none I xs sI (by simp) hJ
      exact ⟨none, W3, he, _, ha.mark D, hdone D Ti W3 (by omega) kk gg hK hm hnD⟩
    · obtain ⟨W3, Ti, he, kk, gg, hK, hm, hnD⟩ := after .done (some .ret) Ix pre sX (by simp) hJ
      exact ⟨some .ret, W3, he, wpIn_ret ⟨_, ha.mark D, hstop D Ti pre W3 (by omega) kk gg hK hm hnD⟩⟩
def Jth {α : Type} (w : World) (T : Nat → Prop) (J : List α → (Nat → Prop) → World → Prop) (pre : List α) : Prop := J pre T w ∧ StJ J
theorem Jth.all {α : Type} {S : Nat → Prop} {w w' : World} {T : Nat → Prop} {J : List α → (Nat → Prop) → World → Prop} {pre : List α} (h : Jth w T J pre) (k : Kept S w w') (ha : Apart T S) : Jth w' T J pre := ⟨h.2.st _ _ _ _ _ h.1 k ha, h.2⟩
theorem Jth.live {α : Type} {w : World} {T : Nat → Prop} {J : List α → (Nat → Prop) → World → Prop} {pre : List α} (h : Jth w T J pre) : Live w T := h.2.li _ _ _ h.1
def Mks (w : World) (T : Nat → Prop) (ms : List Nat) : Prop := (∀ i, T i ↔ i ∈ ms) ∧ ms.Nodup ∧ ∀ D ∈ ms, Mrk w D
theorem Mks.nil (w : World) : Mks w noB [] := ⟨fun i => ⟨fun h => h.elim, fun h => by cases h⟩, List.nodup_nil, fun _ h => by cases h⟩
theorem Mks.all {S : Nat → Prop} {w w' : World} {T : Nat → Prop} {ms : List Nat} (h : Mks w T ms) (k : Kept S w w') (ha : Apart T S) : Mks w' T ms := ⟨h.1, h.2.1, fun D hD => (h.2.2 D hD).all k (ha D ((h.1 D).2 hD))⟩
theorem Mks.live {w : World} {T : Nat → Prop} {ms : List Nat} (h : Mks w T ms) : Live w T := fun i hi => (h.2.2 i ((h.1 i).1 hi)).lt
theorem Mks.more {w w' : World} {T : Nat → Prop} {ms : List Nat} {D : Nat} {S : Nat → Prop} (h : Mks w T ms) (k : Kept S w w') (ha : Apart T S) (hD : w.heap.size ≤ D) (hm : Mrk w' D) : Mks w' (fun i => i = D ∨ T i) (D :: ms) := by
  have h2 := h.all k ha
  refine ⟨fun i => ?_, List.nodup_cons.2 ⟨fun hx => ?_, h.2.1⟩, fun E hE => ?_⟩
  · rw [List.mem_cons]; exact or_congr Iff.rfl (h.1 i)
  · have := h.live D ((h.1 D).2 hx); omega
  · rcases List.mem_cons.1 hE with rfl | hE
    · exact hm
    · exact h2.2.2 E hE
theorem Mks.shut : ∀ {ms : List Nat} {w : World} {T : Nat → Prop}, Mks w T ms → Opens ms w ∧ Kept T w (Go.Proofs.Ythoafgfcoclkbaa.shut ms w)
  | [], w, T, _ => ⟨trivial, Kept.refl _ _⟩
  | D :: ms, w, T, h => by
    have hn := List.nodup_cons.1 h.2.1
    have k := kept_put w D (.deferred none)
    have h2 : Mks (w.putObj D (.deferred none)) (fun i => i ∈ ms) ms := ⟨fun _ => Iff.rfl, hn.2, fun E hE => (h.2.2 E (List.mem_cons_of_mem _ hE)).all k (fun e => hn.1 (e ▸ hE))⟩
    obtain ⟨h3, h4⟩ := Mks.shut h2
    refine ⟨⟨h.2.2 D List.mem_cons_self, h3⟩, ?_⟩
    have k2 : Kept T w (w.putObj D (.deferred none)) := k.mono (fun i _ e => by cases e; exact (h.1 D).2 List.mem_cons_self)
    exact k2.trans h4 (fun i _ hi => (h.1 i).2 (List.mem_cons_of_mem _ hi))
section
variable {P : Program} {N : Nat} {Q : (Exit → (Nat → Value) → World → Prop)} {F : Nat → Value} {w : World}
theorem wl_yieldS {k : Nat} {ops : Array Oper} {o : Oper} {rest : List Oper} {R : Ending → World → Prop} {l : Nat} {c : Call} {cx : Operand} {xs : List Operand} {vs : List Value} (hg : o.guard = none) (hd : fits N o.dst = true) (ho : o.op = .call c) (hc : c.callee = .value cx) (hcx : ev (cutF N F) cx = .func (.yield l) #[] #[])
    (hx : c.args = xs.toArray) (hv : xs.map (ev (cutF N F)) = vs) (hY : YieldAt Fence.wide 0 P l vs.toArray w R)
    (h : ∀ e w', R e w' → ∃ v, e = .returned v ∧ wl (some k) P N ops Q rest (putF F o.dst v) w') : wl (some k) P N ops Q (o :: rest) F w := by
  intro a ha
  show wpListIn (fen (some k)) 0 P ops (Fp N Q) (o :: rest) a w
  refine wpListIn_step fun K hK => ?_
  rw [if_pos (by unfold Region.wanted; rw [hg])]
  refine ⟨fun f _ => fen_fn _ f, ?_⟩
  have hnd : ∀ c, o.op ≠ .defer c := fun c' e => by rw [ho] at e; cases e
  rw [Oper.semAt_eq _ _ _ hnd]
  obtain ⟨cl, ars, ts⟩ := c
  simp only at hc hx
  subst hc; subst hx; subst hv
  obtain ⟨fn, tmps, assign, body, hy, hR⟩ := hY
  have e : (execOp a.eval o).run P w = .ok (.round l fn tmps assign body) w := by
    rw [ha.eval, ← hy]
    simp [execOp, ho, resolve, hcx, Deferred.ofValue, invoke]
  rw [e]
  have hR2 : RoundIn (fen (some k)) 0 P l fn tmps assign body w R := by
    cases k with
    | zero => exact hR
    | succ k => exact hR
  refine ⟨fun e => (by rw [fen_depth] at e; cases e), hR2.mono ?_⟩
  intro e' w' hr
  obtain ⟨v, rfl, hk⟩ := h e' w' hr
  exact hK _ _ (hk _ (ha.put hd v))
theorem wl_box_fn {ro : Option Nat} {ops : Array Oper} {o : Oper} {rest : List Oper} {t : TypeId} {x : Operand} {f : Fn} {a b : Array Value} (hg : o.guard = none) (hd : fits N o.dst = true) (ho : o.op = .box t x) (hx : ev (cutF N F) x = .func f a b)
    (h : ∀ p w', Cel w' p t (.func f a b) → Grew w noB (onB p) → Kept (fun _ => False) w w' → wl ro P N ops Q rest (putF F o.dst (.pointer (some ⟨p, 0, none⟩))) w') : wl ro P N ops Q (o :: rest) F w :=
  wl_op hg hd (y_of (v := .pointer (some ⟨w.heap.size, 0, none⟩)) (w' := w.alloc (.cells #[.func f a b] t)) (by simp [execOp, ho, hx, go_sem]) (h _ _ (heap_alloc_new w _) (onB_new (Nat.le_refl _)) ((Kept.refl _ _).alloc _)))
end
end Go.Proofs.Ythoafgfcoclkbaa
