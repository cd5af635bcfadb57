/- What PictureKeeps reaches of my texts, part 8. -/
import Derived.Test.YtknjpdcpmpfklaaGreatDoorPictureKeepsG
set_option maxRecDepth 100000
set_option maxHeartbeats 4000000
set_option maxRecDepth 100000
namespace Go.Proofs.YtknjpdcpmpfklaaGreatDoor
open Go.RowKit
structure Cas (γ : Type) where
  Pre : World → Prop
  Tp : Nat → Prop
  Post : γ → World → Prop
  Tq : γ → Nat → Prop
  Z : Nat → World → Prop
  Y : γ → Nat → World → Prop
structure CasOk {γ : Type} (C : Cas γ) (S okp : Nat → Prop) (w0 : World) : Prop where
  pre : C.Pre w0
  preS : ∀ (w w' : World) (S' : Nat → Prop), C.Pre w → Kept S' w w' → Apart C.Tp S' → C.Pre w'
  preL : ∀ w, C.Pre w → Live w C.Tp
  postS : ∀ (g : γ) (w w' : World) (S' : Nat → Prop), C.Post g w → Kept S' w w' → Apart (C.Tq g) S' → C.Post g w'
  postL : ∀ (g : γ) (w : World), C.Post g w → Live w (C.Tq g)
  zS : ∀ (p : Nat) (w w' : World) (S' : Nat → Prop), C.Z p w → Kept S' w w' → ¬ S' p → C.Z p w'
  zL : ∀ (p : Nat) (w : World), C.Z p w → p < w.heap.size
  yS : ∀ (g : γ) (p : Nat) (w w' : World) (S' : Nat → Prop), C.Y g p w → Kept S' w w' → ¬ S' p → C.Y g p w'
  inS : ∀ i, C.Tp i → S i
  okS : ∀ p, okp p → S p ∨ w0.heap.size ≤ p
  okT : ∀ p, okp p → ¬ C.Tp p
abbrev ptX (p : Nat) : Value := .pointer (some ⟨p, 0, none⟩)
def valX {γ : Type} (vs : List (γ → Value)) (i : Nat) (g : γ) : Value := vs.getD i (fun _ => undef) g
def ConstX {γ : Type} (M : List (Nat × Nat)) (c : Nat) : Nat → List (γ → Value) → Prop
  | _, [] => True
  | i, f :: r => (M.contains (i, c) = true ∨ i = c ∨ ∀ g g', f g = f g') ∧ ConstX M c (i + 1) r
theorem ConstX.at {γ : Type} {M : List (Nat × Nat)} {c : Nat} : ∀ {vs : List (γ → Value)} {k : Nat}, ConstX M c k vs → ∀ i, M.contains (k + i, c) = false → k + i ≠ c → ∀ g g', valX vs i g = valX vs i g' := by
  intro vs
  induction vs with
  | nil => intro k _ i _ _ g g'; rfl
  | cons f r ih =>
    intro k h i hm hc g g'
    cases i with
    | zero =>
      rcases h.1 with e | e | e
      · rw [Nat.add_zero] at hm; rw [hm] at e; cases e
      · exact absurd e hc
      · exact e g g'
    | succ i =>
      have := ih h.2 i (by rw [show k + 1 + i = k + (i + 1) by omega]; exact hm) (by omega) g g'
      exact this
def hasX (al : Option Nat) (L : Nat → Bool) : Bool := match al with
  | some a => L a
  | none => true
structure JX {γ : Type} (C : Cas γ) (S okp : Nat → Prop) (vs : List (γ → Value)) (c sr : Nat) (al : Option Nat) (M : List (Nat × Nat)) (w0 : World) (L : Nat → Bool) (v : Nat → Value) (w : World) (g : γ) (p : Nat) : Prop where
  kept : Kept S w0 w
  vals : ∀ i, L i = true → al ≠ some i → v i = valX vs i g
  adr : ∀ a, al = some a → L a = true → v a = ptX p
  blk : hasX al L = true → okp p
  zero : hasX al L = true → L sr = false → C.Z p w
  full : L sr = true → C.Y g p w
  pre : L c = false → C.Pre w
  post : L c = true → C.Post g w ∧ Grew w0 C.Tp (C.Tq g)
  far : L c = true → hasX al L = true → ¬ C.Tq g p
  clos : ∀ j i, (j, i) ∈ M → L j = true → L i = true
def ToldX {γ : Type} (vs : List (γ → Value)) (al : Option Nat) (g : γ) (p : Nat) : Nat → Value → World → Prop := fun j x _ => (al = some j → x = ptX p) ∧ (al ≠ some j → x = valX vs j g)
section
variable {γ : Type} {P : Program} {N : Nat} {F : Nat → Value} {w : World} {Q : Exit → (Nat → Value) → World → Prop} {S okp : Nat → Prop} {M : List (Nat × Nat)} {D : List (Option Tmp)} {C : Cas γ} {vs : List (γ → Value)} {c sr : Nat} {al : Option Nat}
def StepFX (C : Cas γ) (S okp : Nat → Prop) (vs : List (γ → Value)) (c sr : Nat) (al : Option Nat) (N : Nat) (P : Program) (D : List (Option Tmp)) (F0 : Nat → Value) (w0 : World) (i : Nat) (o : Oper) : Prop :=
  o.guard = none ∧ ∀ (g : γ) (p : Nat) (F : Nat → Value) (w : World), Kept S w0 w → (∀ t, Nat.blt t N = true → some t ∉ D → F t = F0 t) → DepsF D (ToldX vs al g p) F w o.after.toList →
    (i ≠ c → i ≠ sr → al ≠ some i → Yields P (ev F) o w (fun v w' => v = valX vs i g ∧ Kept noB w w')) ∧
    (i = c → C.Pre w → Yields P (ev F) o w (fun v w' => ∃ g', v = valX vs i g' ∧ Kept C.Tp w w' ∧ C.Post g' w' ∧ Grew w C.Tp (C.Tq g'))) ∧
    (al = some i → Yields P (ev F) o w (fun v w' => ∃ q, v = ptX q ∧ w.heap.size ≤ q ∧ C.Z q w' ∧ Kept noB w w')) ∧
    (i = sr → okp p → C.Z p w → C.Post g w → Yields P (ev F) o w (fun v w' => v = valX vs i g ∧ Kept (onB p) w w' ∧ C.Y g p w'))
def StepsFX (C : Cas γ) (S okp : Nat → Prop) (vs : List (γ → Value)) (c sr : Nat) (al : Option Nat) (N : Nat) (P : Program) (D : List (Option Tmp)) (F0 : Nat → Value) (w0 : World) : Nat → List Oper → Prop
  | _, [] => True
  | i, o :: r => StepFX C S okp vs c sr al N P D F0 w0 i o ∧ StepsFX C S okp vs c sr al N P D F0 w0 (i + 1) r
theorem stepsFX_nil {F0 : Nat → Value} {w0 : World} {i : Nat} : StepsFX C S okp vs c sr al N P D F0 w0 i [] := trivial
theorem stepsFX_cons {F0 : Nat → Value} {w0 : World} {i : Nat} {o : Oper} {r : List Oper} (h : StepFX C S okp vs c sr al N P D F0 w0 i o) (k : StepsFX C S okp vs c sr al N P D F0 w0 (i + 1) r) : StepsFX C S okp vs c sr al N P D F0 w0 i (o :: r) := ⟨h, k⟩
theorem StepFX.one {F0 : Nat → Value} {w0 : World} {i : Nat} {o : Oper} (hg : o.guard = none) (h1 : (i == c) = false) (h2 : (i == sr) = false) (h3 : (al == some i) = false)
    (h : ∀ (g : γ) (p : Nat) (F : Nat → Value) (w : World), Kept S w0 w → (∀ t, Nat.blt t N = true → some t ∉ D → F t = F0 t) → DepsF D (ToldX vs al g p) F w o.after.toList → Yields P (ev F) o w (fun v w' => v = valX vs i g ∧ Kept noB w w')) : StepFX C S okp vs c sr al N P D F0 w0 i o :=
  ⟨hg, fun g p F w a b d => ⟨fun _ _ _ => h g p F w a b d, fun e => absurd e (by simpa using h1), fun e => absurd e (by simpa using h3), fun e => absurd e (by simpa using h2)⟩⟩
theorem StepFX.call {F0 : Nat → Value} {w0 : World} {i : Nat} {o : Oper} (hg : o.guard = none) (h1 : (i == c) = true) (h2 : (i == sr) = false) (h3 : (al == some i) = false)
    (h : ∀ (g : γ) (p : Nat) (F : Nat → Value) (w : World), Kept S w0 w → (∀ t, Nat.blt t N = true → some t ∉ D → F t = F0 t) → DepsF D (ToldX vs al g p) F w o.after.toList → C.Pre w → Yields P (ev F) o w (fun v w' => ∃ g', v = valX vs i g' ∧ Kept C.Tp w w' ∧ C.Post g' w' ∧ Grew w C.Tp (C.Tq g'))) : StepFX C S okp vs c sr al N P D F0 w0 i o :=
  ⟨hg, fun g p F w a b d => ⟨fun e => absurd (by simpa using h1) e, fun _ e => h g p F w a b d e, fun e => absurd e (by simpa using h3), fun e => absurd e (by simpa using h2)⟩⟩
theorem StepFX.alloc {F0 : Nat → Value} {w0 : World} {i : Nat} {o : Oper} (hg : o.guard = none) (h1 : (i == c) = false) (h2 : (i == sr) = false) (h3 : (al == some i) = true)
    (h : ∀ (F : Nat → Value) (w : World), Kept S w0 w → Yields P (ev F) o w (fun v w' => ∃ q, v = ptX q ∧ w.heap.size ≤ q ∧ C.Z q w' ∧ Kept noB w w')) : StepFX C S okp vs c sr al N P D F0 w0 i o :=
  ⟨hg, fun g p F w a b d => ⟨fun _ _ e => absurd (by simpa using h3) e, fun e => absurd e (by simpa using h1), fun _ => h F w a, fun e => absurd e (by simpa using h2)⟩⟩
theorem StepFX.store {F0 : Nat → Value} {w0 : World} {i : Nat} {o : Oper} (hg : o.guard = none) (h1 : (i == c) = false) (h2 : (i == sr) = true) (h3 : (al == some i) = false)
    (h : ∀ (g : γ) (p : Nat) (F : Nat → Value) (w : World), Kept S w0 w → (∀ t, Nat.blt t N = true → some t ∉ D → F t = F0 t) → DepsF D (ToldX vs al g p) F w o.after.toList → okp p → C.Z p w → C.Post g w → Yields P (ev F) o w (fun v w' => v = valX vs i g ∧ Kept (onB p) w w' ∧ C.Y g p w')) : StepFX C S okp vs c sr al N P D F0 w0 i o :=
  ⟨hg, fun g p F w a b d => ⟨fun _ e => absurd (by simpa using h2) e, fun e => absurd e (by simpa using h1), fun e => absurd e (by simpa using h3), fun _ e => h g p F w a b d e⟩⟩
theorem hasX_up {al : Option Nat} {L : Nat → Bool} {i : Nat} (h : al ≠ some i) : hasX al (upL L i) = hasX al L := by
  unfold hasX
  cases al with
  | none => rfl
  | some a => simp only [upL]; rw [if_neg (fun e => h (by rw [e]))]
theorem upL_neX {L : Nat → Bool} {i j : Nat} (h : j ≠ i) : upL L i j = L j := if_neg h
theorem upV_neX {v : Nat → Value} {x : Value} {i j : Nat} (h : j ≠ i) : upV v i x j = v j := if_neg h
theorem upL_eqX {L : Nat → Bool} {i : Nat} : upL L i i = true := if_pos rfl
theorem upV_eqX {v : Nat → Value} {x : Value} {i : Nat} : upV v i x i = x := if_pos rfl
theorem StepFX.step {os : List Oper} {w0 : World} {i : Nat} {o : Oper} {a0 : Act} (hmo : mustOk os M = true) (hcs : M.contains (sr, c) = true) (hca : ∀ a, al = some a → M.contains (sr, a) = true) (hna : al ≠ some c) (hns : al ≠ some sr) (hsc : c ≠ sr) (hC : ConstX M c 0 vs) (hok : CasOk C S okp w0) (hnew : ∀ a, al = some a → ∀ p, w0.heap.size ≤ p → okp p) (hio : os[i]? = some o) (ha : Fr N F a0) (h : StepFX C S okp vs c sr al N P D F w0 i o) :
    StepJ os P D (fun L v w => ∃ g p, JX C S okp vs c sr al M w0 L v w g p) a0 i o := by
  rintro L v a w ⟨g, p, hJ⟩ hi hdone hout hhere _
  have hDe : ∀ c d, D.getD c none = some d → D[c]? = some (some d) := fun c d hd => by
    unfold List.getD at hd
    cases hq : D[c]? with
    | none => rw [hq] at hd; cases hd
    | some y => rw [hq] at hd; simp at hd; rw [hd]
  have hdeps : DepsF D (ToldX vs al g p) (fun t => a.tmps.getD t undef) w o.after.toList := by
    refine Deps.toF (Deps.mk fun e he hb d hd => ?_)
    have hl := hdone e he hb
    rw [hhere e.on d hl (hDe e.on d hd)]
    exact ⟨fun e' => hJ.adr _ e' hl, fun e' => hJ.vals _ hl e'⟩
  have hM : ∀ k, (i, k) ∈ M → L k = true := fun k hk => by
    have := List.all_eq_true.1 hmo _ hk
    simp only [hio] at this
    obtain ⟨e, he, hb⟩ := List.any_eq_true.1 this
    simp only [Bool.and_eq_true, Bool.or_eq_true, beq_iff_eq] at hb
    have hl := hdone e he hb.1
    rcases hb.2 with h1 | h1
    · rw [← h1]; exact hl
    · exact hJ.clos _ _ (by simpa using h1) hl
  have hcl : ∀ j k, (j, k) ∈ M → upL L i j = true → upL L i k = true := fun j k hm hj => by
    have hk : L k = true := by
      by_cases e : j = i
      · subst e; exact hM k hm
      · rw [upL_neX e] at hj; exact hJ.clos j k hm hj
    unfold upL; split <;> first | rfl | exact hk
  have hcs' : (sr, c) ∈ M := by simpa using hcs
  have hca' : ∀ a, al = some a → (sr, a) ∈ M := fun a e => by simpa using hca a e
  have srHas : L sr = true → hasX al L = true := fun e => by
    unfold hasX
    cases al with
    | none => rfl
    | some a => exact hJ.clos _ _ (hca' a rfl) e
  have plt : hasX al L = true → ∀ T : Nat → Prop, okp p → (L c = true → ¬ C.Tq g p) → True := fun _ _ _ _ => trivial
  obtain ⟨hg, hS⟩ := h
  obtain ⟨q1, q2, q3, q4⟩ := hS g p (fun t => a.tmps.getD t undef) w hJ.kept (fun t hb ht => by rw [← ha.at' t hb]; exact hout t ht) hdeps
  rw [← eval_ev a] at q1 q2 q3 q4
  unfold goes
  rw [hg]
  refine ⟨fun _ => ?_, fun e => by cases e⟩
  by_cases ea : al = some i
  · -- the block is made
    refine (q3 ea).mono' fun x w' ⟨q, hx, hq, hz, hk⟩ => ⟨g, q, ?_⟩
    have nS : L sr = false := by
      cases e : L sr with
      | false => rfl
      | true => have := hJ.clos _ _ (hca' i ea) e; rw [hi] at this; cases this
    have isr : sr ≠ i := fun e => hns (by rw [e]; exact ea)
    have ic : c ≠ i := fun e => hna (by rw [e]; exact ea)
    refine ⟨hJ.kept.trans hk (fun _ _ z => z.elim), fun j hj hn => ?_, fun a' e' hl => ?_, fun _ => hnew i ea q (Nat.le_trans hJ.kept.size hq), fun _ _ => hz, fun e => ?_, fun e => ?_, fun e => ?_, fun e _ => ?_, hcl⟩
    · have hji : j ≠ i := fun e => hn (by rw [e]; exact ea)
      rw [upL_neX hji] at hj; rw [upV_neX hji]; exact hJ.vals j hj hn
    · rw [ea] at e'; cases e'; rw [upV_eqX]; exact hx
    · rw [upL_neX isr, nS] at e; cases e
    · rw [upL_neX ic] at e; exact hok.preS w w' noB (hJ.pre e) hk Apart.none
    · rw [upL_neX ic] at e; exact ⟨hok.postS g w w' noB (hJ.post e).1 hk Apart.none, (hJ.post e).2⟩
    · rw [upL_neX ic] at e
      intro ht
      have := hok.postL g w (hJ.post e).1 q ht
      omega
  · have hH : hasX al (upL L i) = hasX al L := hasX_up ea
    have adr' : ∀ x a', al = some a' → upL L i a' = true → upV v i x a' = ptX p := fun x a' e' hl => by
      have : a' ≠ i := fun e => ea (by rw [e', e])
      rw [upL_neX this] at hl; rw [upV_neX this]; exact hJ.adr a' e' hl
    by_cases ec : i = c
    · -- the call
      subst ec
      have nS : L sr = false := by
        cases e : L sr with
        | false => rfl
        | true => have := hJ.clos _ _ hcs' e; rw [hi] at this; cases this
      have isr : sr ≠ i := fun e => hsc e.symm
      have hpre := hJ.pre hi
      refine (q2 rfl hpre).mono' fun x w' ⟨g', hx, hk, hpo, hgr⟩ => ⟨g', p, ?_⟩
      refine ⟨hJ.kept.trans hk (fun b _ z => hok.inS b z), fun j hj hn => ?_, adr' x, fun e => ?_, fun e _ => ?_, fun e => ?_, fun e => ?_, fun _ => ⟨hpo, fun b hb => ?_⟩, fun _ e => ?_, hcl⟩
      · by_cases hji : j = i
        · subst hji; rw [upV_eqX]; exact hx
        · rw [upL_neX hji] at hj; rw [upV_neX hji, hJ.vals j hj hn]
          refine hC.at j ?_ (by omega) g g'
          rw [Nat.zero_add]
          cases e : M.contains (j, i) with
          | false => rfl
          | true => have := hJ.clos j i (by simpa using e) hj; rw [hi] at this; cases this
      · rw [hH] at e; exact hJ.blk e
      · rw [hH] at e; exact hok.zS p w w' _ (hJ.zero e nS) hk (hok.okT p (hJ.blk e))
      · rw [upL_neX isr, nS] at e; cases e
      · rw [upL_eqX] at e; cases e
      · rcases hgr b hb with z | z
        · exact .inl z
        · exact .inr (Nat.le_trans hJ.kept.size z)
      · rw [hH] at e
        intro ht
        have hlt := hok.zL p w (hJ.zero e nS)
        rcases hgr p ht with z | z
        · exact hok.okT p (hJ.blk e) z
        · omega
    · by_cases es : i = sr
      · -- the store
        subst es
        have hLc : L c = true := hM c hcs'
        have hHa : hasX al L = true := by
          unfold hasX
          cases al with
          | none => rfl
          | some a => exact hM a (hca' a rfl)
        have hokp := hJ.blk hHa
        have hnT := hJ.far hLc hHa
        refine (q4 rfl hokp (hJ.zero hHa hi) (hJ.post hLc).1).mono' fun x w' ⟨hx, hk, hy⟩ => ⟨g, p, ?_⟩
        have ic : c ≠ i := fun e => ec e.symm
        refine ⟨hJ.kept.trans hk (fun b hb z => ?_), fun j hj hn => ?_, adr' x, fun _ => hokp, fun _ e => ?_, fun _ => hy, fun e => ?_, fun _ => ⟨hok.postS g w w' _ (hJ.post hLc).1 hk (fun b hb z => hnT (by cases z; exact hb)), (hJ.post hLc).2⟩, fun _ _ => hnT, hcl⟩
        · cases z
          rcases hok.okS _ hokp with z | z
          · exact z
          · omega
        · by_cases hji : j = i
          · subst hji; rw [upV_eqX]; exact hx
          · rw [upL_neX hji] at hj; rw [upV_neX hji]; exact hJ.vals j hj hn
        · rw [upL_eqX] at e; cases e
        · rw [upL_neX ic, hLc] at e; cases e
      · -- all others
        refine (q1 ec es ea).mono' fun x w' ⟨hx, hk⟩ => ⟨g, p, ?_⟩
        have ic : c ≠ i := fun e => ec e.symm
        have isr : sr ≠ i := fun e => es e.symm
        refine ⟨hJ.kept.trans hk (fun _ _ z => z.elim), fun j hj hn => ?_, adr' x, fun e => ?_, fun e1 e2 => ?_, fun e => ?_, fun e => ?_, fun e => ?_, fun e1 e2 => ?_, hcl⟩
        · by_cases hji : j = i
          · subst hji; rw [upV_eqX]; exact hx
          · rw [upL_neX hji] at hj; rw [upV_neX hji]; exact hJ.vals j hj hn
        · rw [hH] at e; exact hJ.blk e
        · rw [hH] at e1; rw [upL_neX isr] at e2; exact hok.zS p w w' _ (hJ.zero e1 e2) hk (fun z => z)
        · rw [upL_neX isr] at e; exact hok.yS g p w w' _ (hJ.full e) hk (fun z => z)
        · rw [upL_neX ic] at e; exact hok.preS w w' _ (hJ.pre e) hk Apart.none
        · rw [upL_neX ic] at e; exact ⟨hok.postS g w w' _ (hJ.post e).1 hk Apart.none, (hJ.post e).2⟩
        · rw [upL_neX ic] at e1; rw [hH] at e2; exact hJ.far e1 e2
theorem StepsFX.steps {all : List Oper} {w0 : World} {a0 : Act} (hmo : mustOk all M = true) (hcs : M.contains (sr, c) = true) (hca : ∀ a, al = some a → M.contains (sr, a) = true) (hna : al ≠ some c) (hns : al ≠ some sr) (hsc : c ≠ sr) (hC : ConstX M c 0 vs) (hok : CasOk C S okp w0) (hnew : ∀ a, al = some a → ∀ p, w0.heap.size ≤ p → okp p) (ha : Fr N F a0) : ∀ {os : List Oper} {i : Nat}, (∀ k o, os[k]? = some o → all[i + k]? = some o) → StepsFX C S okp vs c sr al N P D F w0 i os → StepsJ all P D (fun L v w => ∃ g p, JX C S okp vs c sr al M w0 L v w g p) a0 i os := by
  intro os
  induction os with
  | nil => intro i _ _; exact trivial
  | cons o r ih =>
    intro i hat h
    exact ⟨h.1.step hmo hcs hca hna hns hsc hC hok hnew (hat 0 o rfl) ha, ih (fun k o' hk => by have := hat (k + 1) o' hk; rwa [show i + (k + 1) = i + 1 + k by omega] at this) h.2⟩
def casOkB (M : List (Nat × Nat)) (n c sr : Nat) (al : Option Nat) : Bool := M.contains (sr, c) && Nat.blt c n && Nat.blt sr n && !(c == sr) && match al with
  | some a => M.contains (sr, a) && Nat.blt a n && !(a == c) && !(a == sr)
  | none => true
theorem wq_cas {lo : Option Nat} {id : Nat} {ops : Array Oper} (M : List (Nat × Nat)) (D : List (Option Tmp)) (C : Cas γ) (S okp : Nat → Prop) (vs : List (γ → Value)) (c sr : Nat) (al : Option Nat) (g0 : γ) (p0 : Nat) (hm : P.follows .mixedOrders = true) (hpl : plain N 0 D ops.toList = true) (hmo : mustOk ops.toList M = true) (hb : casOkB M ops.size c sr al = true) (hC : ConstX M c 0 vs) (hok : CasOk C S okp w) (hnew : ∀ a, al = some a → ∀ p, w.heap.size ≤ p → okp p) (h0 : al = none → okp p0 ∧ C.Z p0 w) (hsteps : StepsFX C S okp vs c sr al N P D F w 0 ops.toList)
    (hend : ∀ (g : γ) (p : Nat) (v : Nat → Value) (F' : Nat → Value) (w' : World), Kept S w w' → okp p → C.Post g w' → Grew w C.Tp (C.Tq g) → C.Y g p w' → ¬ C.Tq g p → (∀ a, al = some a → v a = ptX p) → (∀ i, i < ops.size → al ≠ some i → v i = valX vs i g) → (∀ t, F' t = putsF v 0 D F t) → Q .normal F' w') : wq lo P N (.region id ops true) Q F w := by
  unfold casOkB at hb
  simp only [Bool.and_eq_true, Bool.not_eq_true', Nat.blt_eq, beq_eq_false_iff_ne, ne_eq] at hb
  obtain ⟨⟨⟨⟨b1, b2⟩, b3⟩, b4⟩, b5⟩ := hb
  have b6 : ∀ a, al = some a → M.contains (sr, a) = true ∧ a < ops.size ∧ a ≠ c ∧ a ≠ sr := by
    intro a e
    subst e
    simp only [Bool.and_eq_true, Bool.not_eq_true', Nat.blt_eq, beq_eq_false_iff_ne, ne_eq] at b5
    exact ⟨b5.1.1.1, b5.1.1.2, b5.1.2, b5.2⟩
  intro a ha
  refine wpIn_region_inv D (fun L v w' => ∃ g p, JX C S okp vs c sr al M w L v w' g p) hm (by rw [ha.size]; exact hpl)
    ⟨g0, p0, (Kept.refl _ w).drew, fun _ e => (by cases e), fun _ _ e => (by cases e), fun e => ?_, fun e _ => ?_, fun e => (by cases e), fun _ => hok.preS w _ (fun _ => False) hok.pre (Kept.refl _ w).drew (fun _ _ z => z), fun e => (by cases e), fun e => (by cases e), fun _ _ _ e => (by cases e)⟩
    (hsteps.steps hmo b1 (fun a e => (b6 a e).1) (fun e => (b6 _ e).2.2.1 rfl) (fun e => (b6 _ e).2.2.2 rfl) b4 hC hok hnew ha (fun k o hk => by rw [Nat.zero_add]; exact hk)) fun L v w' ⟨g, p, hJ⟩ hL => ?_
  · cases al with
    | some a => unfold hasX at e; cases e
    | none => exact (h0 rfl).1
  · cases al with
    | some a => unfold hasX at e; cases e
    | none => exact hok.zS p0 w _ (fun _ => False) (h0 rfl).2 (Kept.refl _ w).drew (fun z => z)
  have hH : hasX al L = true := by
    unfold hasX
    cases al with
    | none => rfl
    | some a => exact hL a (b6 a rfl).2.1
  exact ⟨putsF v 0 D F, putAll_fr v D 0 F a ha (plain_fits hpl), hend g p v _ w' hJ.kept (hJ.blk hH) (hJ.post (hL c b2)).1 (hJ.post (hL c b2)).2 (hJ.full (hL sr b3)) (hJ.far (hL c b2) hH) (fun a e => hJ.adr a e (hL a (b6 a e).2.1)) (fun i hi hn => hJ.vals i (hL i hi) hn) (fun _ => rfl)⟩
end
theorem y_storeBlk {P : Program} {ρ : Operand → Value} {o : Oper} {w : World} {R : Value → World → Prop} {ty t : TypeId} {x y : Operand} {p : Nat} {b c : Nat → Int} (hT : (P.info? ty).map (·.size) = some 16) (ho : o.op = .store ty x y) (hx : ρ x = .pointer (some ⟨p, 0, none⟩)) (hy : ρ y = blkV c) (hB : Blk w p t b)
    (h : ∀ w', Blk w' p t c → Kept (fun k => k = p) w w' → R undef w') : Yields P ρ o w R :=
  y_store_row ty x y ho p _ (arrL 16 c).toArray t hx hy hB (by simp [arrL]) (by rw [hT]; simp [arrL]) (by simp [arrL, Value.oneCell']) fun w' hw hk => h w' hw hk
end Go.Proofs.YtknjpdcpmpfklaaGreatDoor
set_option maxRecDepth 100000
namespace Go.Proofs.YtknjpdcpmpfklaaGreatDoor
open Go.RowKit
def Vpm (w : World) (T : Nat → Prop) (v : Value) (c : Nat) (f : VF) : Prop := ∃ p, v = .pointer (some ⟨p, 0, none⟩) ∧ (∀ i, T i ↔ (onB p i ∨ onB c i)) ∧ Stc w p 136 [.int .i64 f.w, .int .i64 f.h, .map (some c)] ∧ Mpf w c (vfG f) ∧ Apart (onB p) (onB c) ∧ OkV f
theorem Vpm.vpo {w : World} {T : Nat → Prop} {v : Value} {c : Nat} {f : VF} (h : Vpm w T v c f) : Vpo w T v (some f) := by
  obtain ⟨p, e, hT, h1, h2, h3, h4⟩ := h; exact ⟨p, e, c, hT, h1, h2, h3, h4⟩
theorem vpm_of {w : World} {T : Nat → Prop} {v : Value} {f : VF} (h : Vpo w T v (some f)) : ∃ c, Vpm w T v c f := by
  obtain ⟨p, e, c, hT, h1, h2, h3, h4⟩ := h; exact ⟨c, p, e, hT, h1, h2, h3, h4⟩
theorem Vpm.live {w : World} {T : Nat → Prop} {v : Value} {c : Nat} {f : VF} (h : Vpm w T v c f) : Live w T := h.vpo.live
theorem Vpm.all {S : Nat → Prop} {w w' : World} {T : Nat → Prop} {v : Value} {c : Nat} {f : VF} (h : Vpm w T v c f) (k : Kept S w w') (ha : Apart T S) : Vpm w' T v c f := by
  obtain ⟨p, e, hT, h1, h2, h3, h4⟩ := h
  exact ⟨p, e, hT, h1.all k (ha p ((hT p).2 (Or.inl rfl))), h2.all k (ha c ((hT c).2 (Or.inr rfl))), h3, h4⟩
theorem Vpm.ok {w : World} {T : Nat → Prop} {v : Value} {c : Nat} {f : VF} (h : Vpm w T v c f) : OkV f := h.vpo.ok
theorem Vpm.one {w : World} {T : Nat → Prop} {v : Value} {c : Nat} {f : VF} (h : Vpm w T v c f) : v.oneCell' = true := by obtain ⟨p, rfl, _⟩ := h; rfl
theorem Vpm.oneC {w : World} {T : Nat → Prop} {v : Value} {c : Nat} {f : VF} (h : Vpm w T v c f) : oneC v = true := by obtain ⟨p, rfl, _⟩ := h; rfl
theorem Vpm.lt {w : World} {T : Nat → Prop} {v : Value} {c : Nat} {f : VF} (h : Vpm w T v c f) : c < w.heap.size := by obtain ⟨p, _, _, _, h2, _⟩ := h; exact h2.lt
theorem Vpm.row {A B : World} {row : Option Nat} {n : Nat} {T : Nat → Prop} {v : Value} {c : Nat} {f : VF} (h : Vpm A T v c f) (hg : A.grownBy B row) (hr : RowNew n A row) (hc : c < n) : Vpm B T v c f := by
  obtain ⟨p, e, hT, h1, h2, h3, h4⟩ := h
  exact ⟨p, e, hT, h1.row hg hr, h2.all (kept_row hg) (fun e => by have := (hr c e.symm).1; omega), h3, h4⟩
def CellsB (B : Nat) (A : World) (T : Nat → Prop) : Prop := ∀ i, T i → i < B ∨ ∃ o : Obj, A.heap[i]? = some o ∧ o.isCells = true
theorem Cells.cb {B : Nat} {A : World} {T : Nat → Prop} (h : Cells A T) : CellsB B A T := fun i hi => .inr (h i hi)
theorem Vpm.cb {B : Nat} {w : World} {T : Nat → Prop} {v : Value} {c : Nat} {f : VF} (h : Vpm w T v c f) (hc : c < B) : CellsB B w T := by
  obtain ⟨p, e, hT, h1, h2, h3, h4⟩ := h
  exact fun i hi => ((hT i).1 hi).elim (fun e => .inr (h1.cells i e)) (fun e => .inl (by cases e; exact hc))
theorem CellsB.or {B : Nat} {A : World} {T U : Nat → Prop} (h : CellsB B A T) (k : CellsB B A U) : CellsB B A (fun i => T i ∨ U i) := fun i hi => hi.elim (h i) (k i)
theorem CellsB.keeps {B : Nat} {W W' : World} {S : Nat → Prop} (hc : CellsB B W S) (k : Kept S W W') : KeepsFrom B W W' := ⟨k.size, fun i o hB hi ho => by
  have hlt := (Array.getElem?_eq_some_iff.1 hi).1
  refine (k.block i hlt fun hs => ?_).trans hi
  rcases hc i hs with z | ⟨o', h1, h2⟩
  · omega
  · rw [hi] at h1; cases h1; rw [ho] at h2; cases h2⟩
theorem Rdi.cells {w : World} {T : Nat → Prop} {p : Nat} {l : List Nat} {st : Option Nat} (h : Rdi w T p l st) : Cells w T := fun i hi => by
  obtain ⟨c, e, f, h1, _⟩ := h.at i hi; exact ⟨_, h1, rfl⟩
theorem Rdi.row {A B : World} {row : Option Nat} {n p : Nat} {T : Nat → Prop} {l : List Nat} {st : Option Nat} (h : Rdi A T p l st) (hg : A.grownBy B row) (hr : RowNew n A row) : Rdi B T p l st := h.all (kept_row hg) (h.cells.apart hr)
theorem far_rdi {w : World} {q : Nat} {t : TypeId} {vs : List Value} {T : Nat → Prop} {p : Nat} {l : List Nat} {st : Option Nat} (h : Stc w q t vs) (hr : Rdi w T p l st) (ht : ¬ Rdi.ty t) : Apart (onB q) T := fun i e hi => by
  cases e
  obtain ⟨c, e, f, h1, h2⟩ := hr.at _ hi
  have := h.types _ rfl c e f h1
  rw [this] at h2; exact ht h2
theorem far_vpm {w : World} {q : Nat} {t : TypeId} {vs : List Value} {T : Nat → Prop} {v : Value} {c : Nat} {f : VF} (h : Stc w q t vs) (hr : Vpm w T v c f) (ht : t ≠ 136) : Apart (onB q) T := fun i e hi => by
  cases e
  obtain ⟨p, e, hT, h1, ⟨es, ck, L, h2, _⟩, h3, h4⟩ := hr
  have hq : w.heap[q]? = some (.cells vs.toArray t (0, 0)) := h
  rcases (hT _).1 hi with z | z
  · have hq2 : w.heap[p]? = some (.cells vs.toArray t (0, 0)) := by rw [← show q = p from z]; exact hq
    rw [show w.heap[p]? = _ from h1] at hq2; cases hq2; exact ht rfl
  · have hq2 : w.heap[c]? = some (.cells vs.toArray t (0, 0)) := by rw [← show q = c from z]; exact hq
    rw [h2] at hq2; cases hq2
theorem vt_guessM (v : Value) (c : Nat) (f : VF) (x y : Int) (T_q : Nat → Prop) (w0 : World) (hx : inI x) (hy : inI y) (h_q : Vpm w0 T_q v c f) :
    Calls Tryz.prog 61 #[v, .int .i64 x, .int .i64 y] w0 fun e w' => e = .returned (.agg #[.int .i64 (gX f x y), .int .i64 (gY f x y)]) ∧ Kept (fun _ => False) w0 w' := vt_guess1 v f x y T_q w0 hx hy h_q.vpo
theorem vt_setM (v : Value) (c : Nat) (f : VF) (x y X Y : Int) (T_q : Nat → Prop) (w0 : World) (h_q : Vpm w0 T_q v (c) (f)) :
  Calls Tryz.prog 63 #[v, .int .i64 (x), .int .i64 (y), .agg #[.int .i64 (X), .int .i64 (Y)]] w0 fun e w' => ∃ (T_q' : Nat → Prop), e = .returned (.int .i64 (setE f x y X Y)) ∧ Kept (T_q) w0 w' ∧ (Vpm w' T_q' v (c) (setV f x y X Y) ∧ Grew w0 T_q T_q') := by
 refine calls_wq (args := [v, iv x, iv y, .agg #[iv X, iv Y]]) 53 Tryz.func63 rfl rfl (Nat.le_of_ble_eq_true rfl) ?_
 have K0 := Kept.refl T_q w0
 have g_q := Grew.refl w0 T_q
 obtain ⟨p, rfl, hT, hp, hr, hap, ok⟩ := h_q
 have gr1 : Grew w0 T_q (onB p) := fun i h => g_q i ((fun i h => (hT i).2 (Or.inl h)) i h)
 have gr2 : Grew w0 T_q (onB c) := fun i h => g_q i ((fun i h => (hT i).2 (Or.inr h)) i h)
 have ap3 : Apart (onB p) (onB c) := hap
 refine wq_seq (wq_region (wl_box_stc (vs := [iv X, iv Y]) rfl rfl rfl rfl fun p4 w5 B7 g8 k6 => ?_))
 have B12 := hp.all k6 id
 have B13 := hr.all k6 id
 have K14 := K0.tr k6
 refine wl_v (iv 0) rfl rfl (y_asg rfl rfl rr) (wl_nil fun F15 hF16 => ?_)
 have s17 : F15 0 = pt p 0 := (hF16 0).trans rfl
 have s18 : F15 1 = iv x := (hF16 1).trans rfl
 have s19 : F15 2 = iv y := (hF16 2).trans rfl
 have s20 : F15 53 = undef := (hF16 53).trans rfl
 have s21 : F15 7 = pt p4 0 := (hF16 7).trans rfl
 clear hF16
 refine then_normal (wq_seq (wq_seq ?_))
 by_cases d22 : 0 ≤ x ∧ x < (f.w)
 ·skip
  by_cases d23 : 0 ≤ y ∧ y < (f.h)
  ·skip
   refine wq_region (wl_mv rfl rfl rfl s17 (wl_v (.bool false) rfl rfl (y_noNil rfl rfl rfl Tryz.underlying56 rr) (wl_v (.bool false) rfl rfl (y_mov rfl rfl rr) (wl_vw (iv x) 2 false 13 rfl rfl rfl rfl rfl (y_mov rfl s18 rr) (wl_vw (pt p 0) 2 false 13 rfl rfl rfl rfl rfl (y_mov rfl s17 rr) (wl_vw (pt p 0) 2 false 13 rfl rfl rfl rfl rfl (y_nilc rfl rfl rr) (wl_vw (pt p 0) 2 false 13 rfl rfl rfl rfl rfl (y_fieldR (n := 1) rfl rfl Tryz.underlying136 rfl (by kernel_rfl) (by decide) rfl rr) (wl_vw (iv (f.w)) 2 false 13 rfl rfl rfl rfl rfl (y_ld_stc rfl rfl Tryz.underlying3 B12 rfl rfl rr) (wl_callw (R := fun v_ w_ => v_ = .bool true ∧ Kept (fun _ => False) w5 w_) 2 false 13 rfl rfl rfl rfl rfl (y_cs rfl rfl rfl (fun _ _ => by kernel_rfl) (ev_func _) (vsC rfl (vsC rfl vsN)) (vt_within x (f.w)  _   ) (fun e_ w_ h_ => ⟨_, h_.1, (congrArg Value.bool (decide_eq_true d22)), h_.2⟩)) ?_)))))))))
   rintro _ w24 ⟨rfl, k25⟩
   have B26 := B12.all k25 id
   have B27 := B13.all k25 id
   have B28 := B7.all k25 id
   have K29 := K14.tr k25
   refine wl_vw (.bool false) 2 false 13 rfl rfl rfl rfl rfl (y_not rfl rfl rfl rr) (wl_v (.bool false) rfl rfl (y_pickF rfl rfl rfl rr) (wl_v (.bool false) rfl rfl (y_mov rfl rfl rr) (wl_vw (iv y) 11 false 22 rfl rfl rfl rfl rfl (y_mov rfl s19 rr) (wl_vw (pt p 0) 11 false 22 rfl rfl rfl rfl rfl (y_mov rfl s17 rr) (wl_vw (pt p 0) 11 false 22 rfl rfl rfl rfl rfl (y_nilc rfl rfl rr) (wl_vw (pt p 1) 11 false 22 rfl rfl rfl rfl rfl (y_fieldR (n := 1) rfl rfl Tryz.underlying136 rfl (by kernel_rfl) (by decide) rfl rr) (wl_vw (iv (f.h)) 11 false 22 rfl rfl rfl rfl rfl (y_ld_stc rfl rfl Tryz.underlying3 B26 rfl rfl rr) (wl_callw (R := fun v_ w_ => v_ = .bool true ∧ Kept (fun _ => False) w24 w_) 11 false 22 rfl rfl rfl rfl rfl (y_cs rfl rfl rfl (fun _ _ => by kernel_rfl) (ev_func _) (vsC rfl (vsC rfl vsN)) (vt_within y (f.h)  _   ) (fun e_ w_ h_ => ⟨_, h_.1, (congrArg Value.bool (decide_eq_true d23)), h_.2⟩)) ?_))))))))
   rintro _ w30 ⟨rfl, k31⟩
   have B32 := B26.all k31 id
   have B33 := B27.all k31 id
   have B34 := B28.all k31 id
   have K35 := K29.tr k31
   refine wl_vw (.bool false) 11 false 22 rfl rfl rfl rfl rfl (y_not rfl rfl rfl rr) (wl_v (.bool false) rfl rfl (y_pickF rfl rfl rfl rr) (wl_nil fun F36 hF37 => ?_))
   obtain ⟨s38, s39, s40, s41, s42⟩ := t5 hF37 0 s17 1 s18 2 s19 53 s20 7 s21
   have s43 : F36 30 = .bool false := (hF37 30).trans rfl
   clear hF37
   refine then_normal ?_
   refine wq_cond (t := false) s43 (fun e => by cases e) (fun _ => ?_)
   refine wq_skip (then_normal (wq_seq (wq_seq ?_)))
   have hin : inV f x y := ⟨by omega, by omega, by omega, by omega⟩
   refine wq_region (wl_v (.agg #[iv X, iv Y]) rfl rfl (y_load_stc stcT_vector rfl s42 B34 rr) (wl_cs rfl rfl rfl rfl rfl (fun _ _ => by kernel_rfl) (vsC rfl vsN) (mo_check X Y  _   ) fun w44 k45 => ?_))
   have B46 := B32.all k45 id
   have B47 := B33.all k45 id
   have B48 := B34.all k45 id
   have K49 := K35.tr k45
   refine wl_v (iv (vecE X Y)) rfl rfl (y_asg rfl rfl rr) (wl_nil fun F50 hF51 => ?_)
   obtain ⟨s52, s53, s54, s55, s56⟩ := t5 hF51 0 s38 1 s39 2 s40 53 s41 7 s42
   have s57 : F50 9 = iv (vecE X Y) := (hF51 9).trans rfl
   clear hF51
   refine then_normal (wq_seq (wq_region (wl_mv rfl rfl rfl s57 (wl_v (.bool (decide ((vecE X Y) ≠ 0))) rfl rfl (y_neqI rfl rfl rfl rfl rr) (wl_nil fun F58 hF59 => ?_)))))
   obtain ⟨s60, s61, s62, s63, s64, s65⟩ := t6 hF59 0 s52 1 s53 2 s54 53 s55 7 s56 9 s57
   have s66 : F58 34 = .bool (decide ((vecE X Y) ≠ 0)) := (hF59 34).trans rfl
   clear hF59
   refine then_normal ?_
   refine wq_cond s66 (fun c67 => ?_) (fun c67 => ?_)
   ·replace c67 := of_decide_eq_true c67
    refine wq_seq ?_
    have hvn : ¬ vecOk X Y := fun h => absurd ((vecE_iff X Y).2 h) (by assumption)
    refine wq_region (wl_mv rfl rfl rfl s65 (wl_v (iv (vecE X Y)) rfl rfl (y_asg rfl rfl rr) (wl_nil fun F68 hF69 => ?_)))
    have s70 := (hF69 53).trans s63
    have s71 : F68 8 = iv (vecE X Y) := (hF69 8).trans rfl
    clear hF69
    refine then_normal (wq_ret (then_ret ?_))
    have B72 : Vpm w44 (fun i => (onB p) i ∨ ((onB c) i)) (pt p 0) c (setV f x y X Y) := (by first | (rw [(set_yes hin hv).2]; exact ⟨_, rfl, fun i => Iff.rfl, B46, B47.congr (fun a b => by first | exact lay_vfG f x y X Y a b | (rw [h0.1, h0.2]; exact lay_vfG f x y 0 0 a b)), ap3, okV_lay ok hin hv⟩) | (rw [(set_none hin hvn).2]; exact ⟨_, rfl, fun i => Iff.rfl, B46, B47, ap3, ok⟩) | (rw [(set_no hno).2]; exact ⟨_, rfl, fun i => Iff.rfl, B46, B47, ap3, ok⟩))
    have gr73 : Grew w0 T_q (fun i => (onB p) i ∨ ((onB c) i)) := fun i h => h.elim (fun y => gr1 i y) (fun y => gr2 i y)
    exact end_tmp (v := iv (vecE X Y)) s70 rfl rfl s71 ⟨(fun i => (onB p) i ∨ ((onB c) i)), (by first | rw [(set_yes hin hv).1] | rw [(set_none hin hvn).1, vecE_no hvn] | rw [(set_no hno).1]), K49, ⟨B72, gr73⟩⟩
   ·replace c67 := of_decide_eq_false c67
    refine wq_skip (then_normal (wq_seq ?_))
    have hv : vecOk X Y := (vecE_iff X Y).1 (by first | assumption | (apply Decidable.byContradiction; assumption))
    refine wq_region (wl_mv rfl rfl rfl s61 (wl_mv rfl rfl rfl s62 (wl_v (.agg #[iv x, iv y]) rfl rfl (y_buildL (l' := [(0, iv x), (1, iv y)]) (cells := #[iv x, iv y]) rfl (bpC rfl (bpC rfl bpN)) (by kernel_rfl) rfl rr) (wl_alloc_stc (n := 2) (vs := [iv 0, iv 0]) rfl rfl rfl (by kernel_rfl) fun p75 w76 B78 g79 k77 => ?_))))
    have gr80 : Grew w0 noB (onB p75) := Grew.new K49 g79
    have ap81 : Apart (onB p75) (onB p) := Apart.new g79 (onB_live B46.lt)
    have ap82 : Apart (onB p75) (onB c) := Apart.new g79 (onB_live B47.lt)
    have ap83 : Apart (onB p75) (onB p4) := Apart.new g79 (onB_live B48.lt)
    have B84 := B46.all k77 id
    have B85 := B47.all k77 id
    have B86 := B48.all k77 id
    have K87 := K49.tr k77
    refine wl_store_stc (us := [iv x, iv y]) stcT_place rfl rfl rfl rfl rfl B78 rfl (oneI rfl (oneI rfl oneN)) fun w88 B89 k90 => ?_
    have B91 := B84.all k90 (ap81.symm p rfl)
    have B92 := B85.all k90 (ap82.symm c rfl)
    have B93 := B86.all k90 (ap83.symm p4 rfl)
    have K94 := K87.trans k90 (Grew.ok (S := T_q) gr80 noB_le)
    refine wl_nil fun F95 hF96 => ?_
    obtain ⟨s97, s98, s99⟩ := t3 hF96 0 s60 53 s63 7 s64
    have s100 : F95 10 = pt p75 0 := (hF96 10).trans rfl
    clear hF96
    refine then_normal (wq_seq (wq_seq (wq_region (wl_v (.agg #[iv X, iv Y]) rfl rfl (y_load_stc stcT_vector rfl s99 B93 rr) (wl_v (.agg #[iv 0, iv 0]) rfl rfl (y_buildL (l' := []) (cells := #[iv 0, iv 0]) rfl bpN (by kernel_rfl) rfl rr) (wl_v (.bool (sameVec X Y 0 0)) rfl rfl (y_eqlVec rfl rfl rfl rfl rr) (wl_nil fun F101 hF102 => ?_)))))))
    obtain ⟨s103, s104, s105, s106⟩ := t4 hF102 0 s97 53 s98 7 s99 10 s100
    have s107 : F101 41 = .bool (sameVec X Y 0 0) := (hF102 41).trans rfl
    clear hF102
    refine then_normal ?_
    refine wq_cond s107 (fun c108 => ?_) (fun c108 => ?_)
    ·skip
     have h0 := same_zero (by assumption)
     refine wq_tail 5 [some 42, some 43, some 44, some 45, some 46] [Pd.eq (pt p 0), Pd.eq (pt p 0), Pd.eq (pt p 2), Pd.eq (.map (some c)), Pd.eq (.agg #[iv x, iv y])] (by kernel_rfl) (by kernel_rfl) (by kernel_rfl) ?_ ?_
     ·refine stepsF_cons ?_ ?_
      ·refine StepF.one rfl fun F_ w_ hR hout hD => ?_
       exact (y_mov rfl ((hout 0 rfl (by decide)).trans s103) ⟨rfl, Kept.refl _ _⟩)
      refine stepsF_cons ?_ ?_
      ·refine StepF.one rfl fun F_ w_ hR hout hD => ?_
       have g42 : F_ 42 = pt p 0 := (hD.get 0 rfl rfl rfl)
       exact (y_nilc rfl g42 ⟨rfl, Kept.refl _ _⟩)
      refine stepsF_cons ?_ ?_
      ·refine StepF.one rfl fun F_ w_ hR hout hD => ?_
       have g43 : F_ 43 = pt p 0 := (hD.get 0 rfl rfl rfl)
       exact (y_fieldR (n := 1) rfl g43 Tryz.underlying136 rfl (by kernel_rfl) (by decide) rfl ⟨rfl, Kept.refl _ _⟩)
      refine stepsF_cons ?_ ?_
      ·refine StepF.one rfl fun F_ w_ hR hout hD => ?_
       have g44 : F_ 44 = pt p 2 := (hD.get 0 rfl rfl rfl)
       exact (y_ld_stc rfl g44 Tryz.underlying134 (B91.all hR id) rfl rfl ⟨rfl, Kept.refl _ _⟩)
      refine stepsF_cons ?_ ?_
      ·refine StepF.one rfl fun F_ w_ hR hout hD => ?_
       exact (y_load_stc stcT_place rfl ((hout 10 rfl (by decide)).trans s106) (B89.all hR id) ⟨rfl, Kept.refl _ _⟩)
      exact stepsF_nil
     intro v109 F110 w111 k112 G113 hF114
     have B116 := B91.all k112 id
     have B117 := B92.all k112 id
     have K120 := K94.tr k112
     have s121 := (hF114 53).trans s104
     have s122 : F110 45 = .map (some c) := (hF114 45).trans (G113 3 (by decide))
     have s123 : F110 46 = .agg #[iv x, iv y] := (hF114 46).trans (G113 4 (by decide))
     clear G113 hF114
     refine wl_op rfl rfl (y_del2 (a := x) (b := y) twoK_place Tryz.underlying134 rfl rfl s122 s123 B117 fun _ w124 B125 k126 => ?_)
     have B127 := B116.all k126 (ap3 p rfl)
     have K130 := K120.trans k126 (Grew.ok (S := T_q) gr2 (fun _ x => x))
     refine wl_nil fun F131 hF132 => ?_
     have s133 := (hF132 53).trans s121
     clear hF132
     refine then_normal (wq_seq (wq_region (wl_v (iv 0) rfl rfl (y_asg rfl rfl rr) (wl_nil fun F134 hF135 => ?_))))
     have s136 := (hF135 53).trans s133
     have s137 : F134 8 = iv 0 := (hF135 8).trans rfl
     clear hF135
     refine then_normal (wq_ret ?_)
     have B138 : Vpm w124 (fun i => (onB p) i ∨ ((onB c) i)) (pt p 0) c (setV f x y X Y) := (by first | (rw [(set_yes hin hv).2]; exact ⟨_, rfl, fun i => Iff.rfl, B127, B125.congr (fun a b => by first | exact lay_vfG f x y X Y a b | (rw [h0.1, h0.2]; exact lay_vfG f x y 0 0 a b)), ap3, okV_lay ok hin hv⟩) | (rw [(set_none hin hvn).2]; exact ⟨_, rfl, fun i => Iff.rfl, B127, B125, ap3, ok⟩) | (rw [(set_no hno).2]; exact ⟨_, rfl, fun i => Iff.rfl, B127, B125, ap3, ok⟩))
     have gr139 : Grew w0 T_q (fun i => (onB p) i ∨ ((onB c) i)) := fun i h => h.elim (fun y => gr1 i y) (fun y => gr2 i y)
     exact end_tmp (v := iv 0) s136 rfl rfl s137 ⟨(fun i => (onB p) i ∨ ((onB c) i)), (by first | rw [(set_yes hin hv).1] | rw [(set_none hin hvn).1, vecE_no hvn] | rw [(set_no hno).1]), K130, ⟨B138, gr139⟩⟩
    ·skip
     refine wq_tail 6 [some 47, some 48, some 49, some 50, some 51, some 52] [Pd.eq (pt p 0), Pd.eq (pt p 0), Pd.eq (pt p 2), Pd.eq (.map (some c)), Pd.eq (.agg #[iv x, iv y]), Pd.eq (.agg #[iv X, iv Y])] (by kernel_rfl) (by kernel_rfl) (by kernel_rfl) ?_ ?_
     ·refine stepsF_cons ?_ ?_
      ·refine StepF.one rfl fun F_ w_ hR hout hD => ?_
       exact (y_mov rfl ((hout 0 rfl (by decide)).trans s103) ⟨rfl, Kept.refl _ _⟩)
      refine stepsF_cons ?_ ?_
      ·refine StepF.one rfl fun F_ w_ hR hout hD => ?_
       have g47 : F_ 47 = pt p 0 := (hD.get 0 rfl rfl rfl)
       exact (y_nilc rfl g47 ⟨rfl, Kept.refl _ _⟩)
      refine stepsF_cons ?_ ?_
      ·refine StepF.one rfl fun F_ w_ hR hout hD => ?_
       have g48 : F_ 48 = pt p 0 := (hD.get 0 rfl rfl rfl)
       exact (y_fieldR (n := 1) rfl g48 Tryz.underlying136 rfl (by kernel_rfl) (by decide) rfl ⟨rfl, Kept.refl _ _⟩)
      refine stepsF_cons ?_ ?_
      ·refine StepF.one rfl fun F_ w_ hR hout hD => ?_
       have g49 : F_ 49 = pt p 2 := (hD.get 0 rfl rfl rfl)
       exact (y_ld_stc rfl g49 Tryz.underlying134 (B91.all hR id) rfl rfl ⟨rfl, Kept.refl _ _⟩)
      refine stepsF_cons ?_ ?_
      ·refine StepF.one rfl fun F_ w_ hR hout hD => ?_
       exact (y_load_stc stcT_place rfl ((hout 10 rfl (by decide)).trans s106) (B89.all hR id) ⟨rfl, Kept.refl _ _⟩)
      refine stepsF_cons ?_ ?_
      ·refine StepF.one rfl fun F_ w_ hR hout hD => ?_
       exact (y_load_stc stcT_vector rfl ((hout 7 rfl (by decide)).trans s105) (B93.all hR id) ⟨rfl, Kept.refl _ _⟩)
      exact stepsF_nil
     intro v142 F143 w144 k145 G146 hF147
     have B149 := B91.all k145 id
     have B150 := B92.all k145 id
     have K153 := K94.tr k145
     have s154 := (hF147 53).trans s104
     have s155 : F143 50 = .map (some c) := (hF147 50).trans (G146 3 (by decide))
     have s156 : F143 51 = .agg #[iv x, iv y] := (hF147 51).trans (G146 4 (by decide))
     have s157 : F143 52 = .agg #[iv X, iv Y] := (hF147 52).trans (G146 5 (by decide))
     clear G146 hF147
     refine wl_op rfl rfl (y_upd2 (a := x) (b := y) (X := X) (Y := Y) twoK_place Tryz.underlying134 rfl s155 s156 s157 B150 fun _ w158 B159 k160 => ?_)
     have B161 := B149.all k160 (ap3 p rfl)
     have K164 := K153.trans k160 (Grew.ok (S := T_q) gr2 (fun _ x => x))
     refine wl_nil fun F165 hF166 => ?_
     have s167 := (hF166 53).trans s154
     clear hF166
     refine then_normal (wq_seq (wq_region (wl_v (iv 0) rfl rfl (y_asg rfl rfl rr) (wl_nil fun F168 hF169 => ?_))))
     have s170 := (hF169 53).trans s167
     have s171 : F168 8 = iv 0 := (hF169 8).trans rfl
     clear hF169
     refine then_normal (wq_ret ?_)
     have B172 : Vpm w158 (fun i => (onB p) i ∨ ((onB c) i)) (pt p 0) c (setV f x y X Y) := (by first | (rw [(set_yes hin hv).2]; exact ⟨_, rfl, fun i => Iff.rfl, B161, B159.congr (fun a b => by first | exact lay_vfG f x y X Y a b | (rw [h0.1, h0.2]; exact lay_vfG f x y 0 0 a b)), ap3, okV_lay ok hin hv⟩) | (rw [(set_none hin hvn).2]; exact ⟨_, rfl, fun i => Iff.rfl, B161, B159, ap3, ok⟩) | (rw [(set_no hno).2]; exact ⟨_, rfl, fun i => Iff.rfl, B161, B159, ap3, ok⟩))
     have gr173 : Grew w0 T_q (fun i => (onB p) i ∨ ((onB c) i)) := fun i h => h.elim (fun y => gr1 i y) (fun y => gr2 i y)
     exact end_tmp (v := iv 0) s170 rfl rfl s171 ⟨(fun i => (onB p) i ∨ ((onB c) i)), (by first | rw [(set_yes hin hv).1] | rw [(set_none hin hvn).1, vecE_no hvn] | rw [(set_no hno).1]), K164, ⟨B172, gr173⟩⟩
  ·skip
   refine wq_region (wl_mv rfl rfl rfl s17 (wl_v (.bool false) rfl rfl (y_noNil rfl rfl rfl Tryz.underlying56 rr) (wl_v (.bool false) rfl rfl (y_mov rfl rfl rr) (wl_vw (iv x) 2 false 13 rfl rfl rfl rfl rfl (y_mov rfl s18 rr) (wl_vw (pt p 0) 2 false 13 rfl rfl rfl rfl rfl (y_mov rfl s17 rr) (wl_vw (pt p 0) 2 false 13 rfl rfl rfl rfl rfl (y_nilc rfl rfl rr) (wl_vw (pt p 0) 2 false 13 rfl rfl rfl rfl rfl (y_fieldR (n := 1) rfl rfl Tryz.underlying136 rfl (by kernel_rfl) (by decide) rfl rr) (wl_vw (iv (f.w)) 2 false 13 rfl rfl rfl rfl rfl (y_ld_stc rfl rfl Tryz.underlying3 B12 rfl rfl rr) (wl_callw (R := fun v_ w_ => v_ = .bool true ∧ Kept (fun _ => False) w5 w_) 2 false 13 rfl rfl rfl rfl rfl (y_cs rfl rfl rfl (fun _ _ => by kernel_rfl) (ev_func _) (vsC rfl (vsC rfl vsN)) (vt_within x (f.w)  _   ) (fun e_ w_ h_ => ⟨_, h_.1, (congrArg Value.bool (decide_eq_true d22)), h_.2⟩)) ?_)))))))))
   rintro _ w176 ⟨rfl, k177⟩
   have B178 := B12.all k177 id
   have B179 := B13.all k177 id
   have K181 := K14.tr k177
   refine wl_vw (.bool false) 2 false 13 rfl rfl rfl rfl rfl (y_not rfl rfl rfl rr) (wl_v (.bool false) rfl rfl (y_pickF rfl rfl rfl rr) (wl_v (.bool false) rfl rfl (y_mov rfl rfl rr) (wl_vw (iv y) 11 false 22 rfl rfl rfl rfl rfl (y_mov rfl s19 rr) (wl_vw (pt p 0) 11 false 22 rfl rfl rfl rfl rfl (y_mov rfl s17 rr) (wl_vw (pt p 0) 11 false 22 rfl rfl rfl rfl rfl (y_nilc rfl rfl rr) (wl_vw (pt p 1) 11 false 22 rfl rfl rfl rfl rfl (y_fieldR (n := 1) rfl rfl Tryz.underlying136 rfl (by kernel_rfl) (by decide) rfl rr) (wl_vw (iv (f.h)) 11 false 22 rfl rfl rfl rfl rfl (y_ld_stc rfl rfl Tryz.underlying3 B178 rfl rfl rr) (wl_callw (R := fun v_ w_ => v_ = .bool false ∧ Kept (fun _ => False) w176 w_) 11 false 22 rfl rfl rfl rfl rfl (y_cs rfl rfl rfl (fun _ _ => by kernel_rfl) (ev_func _) (vsC rfl (vsC rfl vsN)) (vt_within y (f.h)  _   ) (fun e_ w_ h_ => ⟨_, h_.1, (congrArg Value.bool (decide_eq_false d23)), h_.2⟩)) ?_))))))))
   rintro _ w182 ⟨rfl, k183⟩
   have B184 := B178.all k183 id
   have B185 := B179.all k183 id
   have K187 := K181.tr k183
   refine wl_vw (.bool true) 11 false 22 rfl rfl rfl rfl rfl (y_not rfl rfl rfl rr) (wl_v (.bool true) rfl rfl (y_pickF rfl rfl rfl rr) (wl_nil fun F188 hF189 => ?_))
   have s193 := (hF189 53).trans s20
   have s195 : F188 30 = .bool true := (hF189 30).trans rfl
   clear hF189
   refine then_normal ?_
   refine wq_cond (t := true) s195 (fun _ => ?_) (fun e => by cases e)
   refine wq_seq ?_
   have hno : ¬ inV f x y := by unfold inV; omega
   refine wq_region (wl_v (iv 1) rfl rfl (y_asg rfl rfl rr) (wl_nil fun F196 hF197 => ?_))
   have s198 := (hF197 53).trans s193
   have s199 : F196 8 = iv 1 := (hF197 8).trans rfl
   clear hF197
   refine then_normal (wq_ret (then_ret ?_))
   have B200 : Vpm w182 (fun i => (onB p) i ∨ ((onB c) i)) (pt p 0) c (setV f x y X Y) := (by first | (rw [(set_yes hin hv).2]; exact ⟨_, rfl, fun i => Iff.rfl, B184, B185.congr (fun a b => by first | exact lay_vfG f x y X Y a b | (rw [h0.1, h0.2]; exact lay_vfG f x y 0 0 a b)), ap3, okV_lay ok hin hv⟩) | (rw [(set_none hin hvn).2]; exact ⟨_, rfl, fun i => Iff.rfl, B184, B185, ap3, ok⟩) | (rw [(set_no hno).2]; exact ⟨_, rfl, fun i => Iff.rfl, B184, B185, ap3, ok⟩))
   have gr201 : Grew w0 T_q (fun i => (onB p) i ∨ ((onB c) i)) := fun i h => h.elim (fun y => gr1 i y) (fun y => gr2 i y)
   exact end_tmp (v := iv 1) s198 rfl rfl s199 ⟨(fun i => (onB p) i ∨ ((onB c) i)), (by first | rw [(set_yes hin hv).1] | rw [(set_none hin hvn).1, vecE_no hvn] | rw [(set_no hno).1]), K187, ⟨B200, gr201⟩⟩
 ·skip
  refine wq_region (wl_mv rfl rfl rfl s17 (wl_v (.bool false) rfl rfl (y_noNil rfl rfl rfl Tryz.underlying56 rr) (wl_v (.bool false) rfl rfl (y_mov rfl rfl rr) (wl_vw (iv x) 2 false 13 rfl rfl rfl rfl rfl (y_mov rfl s18 rr) (wl_vw (pt p 0) 2 false 13 rfl rfl rfl rfl rfl (y_mov rfl s17 rr) (wl_vw (pt p 0) 2 false 13 rfl rfl rfl rfl rfl (y_nilc rfl rfl rr) (wl_vw (pt p 0) 2 false 13 rfl rfl rfl rfl rfl (y_fieldR (n := 1) rfl rfl Tryz.underlying136 rfl (by kernel_rfl) (by decide) rfl rr) (wl_vw (iv (f.w)) 2 false 13 rfl rfl rfl rfl rfl (y_ld_stc rfl rfl Tryz.underlying3 B12 rfl rfl rr) (wl_callw (R := fun v_ w_ => v_ = .bool false ∧ Kept (fun _ => False) w5 w_) 2 false 13 rfl rfl rfl rfl rfl (y_cs rfl rfl rfl (fun _ _ => by kernel_rfl) (ev_func _) (vsC rfl (vsC rfl vsN)) (vt_within x (f.w)  _   ) (fun e_ w_ h_ => ⟨_, h_.1, (congrArg Value.bool (decide_eq_false d22)), h_.2⟩)) ?_)))))))))
  rintro _ w203 ⟨rfl, k204⟩
  have B205 := B12.all k204 id
  have B206 := B13.all k204 id
  have K208 := K14.tr k204
  refine wl_vw (.bool true) 2 false 13 rfl rfl rfl rfl rfl (y_not rfl rfl rfl rr) (wl_v (.bool true) rfl rfl (y_pickF rfl rfl rfl rr) (wl_v (.bool true) rfl rfl (y_mov rfl rfl rr) (wl_unless 11 false 22 rfl rfl rfl (Or.inl rfl) rfl (wl_unless 11 false 22 rfl rfl rfl (Or.inl rfl) rfl (wl_unless 11 false 22 rfl rfl rfl (Or.inl rfl) rfl (wl_unless 11 false 22 rfl rfl rfl (Or.inl rfl) rfl (wl_unless 11 false 22 rfl rfl rfl (Or.inl rfl) rfl (wl_unless 11 false 22 rfl rfl rfl (Or.inl rfl) rfl (wl_unless 11 false 22 rfl rfl rfl (Or.inl rfl) rfl (wl_v (.bool true) rfl rfl (y_pickT rfl rfl rfl rr) (wl_nil fun F209 hF210 => ?_)))))))))))
  have s214 := (hF210 53).trans s20
  have s216 : F209 30 = .bool true := (hF210 30).trans rfl
  clear hF210
  refine then_normal ?_
  refine wq_cond (t := true) s216 (fun _ => ?_) (fun e => by cases e)
  refine wq_seq ?_
  have hno : ¬ inV f x y := by unfold inV; omega
  refine wq_region (wl_v (iv 1) rfl rfl (y_asg rfl rfl rr) (wl_nil fun F217 hF218 => ?_))
  have s219 := (hF218 53).trans s214
  have s220 : F217 8 = iv 1 := (hF218 8).trans rfl
  clear hF218
  refine then_normal (wq_ret (then_ret ?_))
  have B221 : Vpm w203 (fun i => (onB p) i ∨ ((onB c) i)) (pt p 0) c (setV f x y X Y) := (by first | (rw [(set_yes hin hv).2]; exact ⟨_, rfl, fun i => Iff.rfl, B205, B206.congr (fun a b => by first | exact lay_vfG f x y X Y a b | (rw [h0.1, h0.2]; exact lay_vfG f x y 0 0 a b)), ap3, okV_lay ok hin hv⟩) | (rw [(set_none hin hvn).2]; exact ⟨_, rfl, fun i => Iff.rfl, B205, B206, ap3, ok⟩) | (rw [(set_no hno).2]; exact ⟨_, rfl, fun i => Iff.rfl, B205, B206, ap3, ok⟩))
  have gr222 : Grew w0 T_q (fun i => (onB p) i ∨ ((onB c) i)) := fun i h => h.elim (fun y => gr1 i y) (fun y => gr2 i y)
  exact end_tmp (v := iv 1) s219 rfl rfl s220 ⟨(fun i => (onB p) i ∨ ((onB c) i)), (by first | rw [(set_yes hin hv).1] | rw [(set_none hin hvn).1, vecE_no hvn] | rw [(set_no hno).1]), K208, ⟨B221, gr222⟩⟩
end Go.Proofs.YtknjpdcpmpfklaaGreatDoor
set_option maxRecDepth 100000
namespace Go.Proofs.YtknjpdcpmpfklaaGreatDoor
open Go.RowKit
theorem Vpo.one {w : World} {T : Nat → Prop} {v : Value} {o : Option VF} (h : Vpo w T v o) : v.oneCell' = true := by
  obtain ⟨a, e, _⟩ := h.isnil; subst e; rfl
theorem Vpo.oneC {w : World} {T : Nat → Prop} {v : Value} {o : Option VF} (h : Vpo w T v o) : oneC v = true := by
  obtain ⟨a, e, _⟩ := h.isnil; subst e; rfl
theorem optV_pl {W H : Int} {p : Nat} (hW : 8 ≤ W ∧ W ≤ 64) (hH : 8 ≤ H ∧ H ≤ 64) : optV ((plN W p : Nat) : Int) ((plN H p : Nat) : Int) = some (newV (plN W p) (plN H p)) := by
  refine optV_yes ?_
  have h1 : 0 < plN W p := by unfold plN; split <;> omega
  have h2 : 0 < plN H p := by unfold plN; split <;> omega
  have h3 := plN_le (p := p) hW.2; have h4 := plN_le (p := p) hH.2
  unfold sidesOk; omega
def rcP (l : List Nat) (k : Int) (w i : Nat) (t : PSt) : Ch := if (chAt l k w i t).2.1 = 0 then (chAt l k w i t).1 else chZ
def stP (l : List Nat) (k : Int) (w i : Nat) (t : PSt) : PSt := if (chAt l k w i t).2.1 = 0 then stAt l k w i t else t
theorem rcP_yes {l : List Nat} {k : Int} {w i : Nat} {t : PSt} (h : (chAt l k w i t).2.1 = 0) : rcP l k w i t = (chAt l k w i t).1 ∧ stP l k w i t = stAt l k w i t := ⟨if_pos h, if_pos h⟩
theorem rcP_no {l : List Nat} {k : Int} {w i : Nat} {t : PSt} (h : (chAt l k w i t).2.1 ≠ 0) : rcP l k w i t = chZ ∧ stP l k w i t = t := ⟨if_neg h, if_neg h⟩
theorem rdT_is {l : List Nat} {k : Int} {w i : Nat} {t : PSt} : rdChT l k (gX t.a (pX w i) (pY w i)) (gY t.a (pX w i) (pY w i)) (gX t.b (pX w i) (pY w i)) (gY t.b (pX w i) (pY w i)) t.s = (stP l k w i t).s := by
  unfold rdChT stP
  show (if (chAt l k w i t).2.1 = 0 then (chAt l k w i t).2.2 else t.s) = _
  split <;> rfl
theorem pc_read (p : Nat) (l : List Nat) (st : Option Nat) (k P : Int) (w i : Nat) (u v : Value) (ca cb : Nat) (a b : VF) (T_r : Nat → Prop) (T_a : Nat → Prop) (T_b : Nat → Prop) (w0 : World) (hA : ActsIn w0) (hO : ScanIn w0) (hG : ∀ i, T_r i → 5 ≤ i) (hGa : ∀ i, T_a i → 5 ≤ i) (hGb : ∀ i, T_b i → 5 ≤ i) (hw : 0 < w) (h16 : w ≤ 16) (hi : i ≤ 256) (h_r : Rdi w0 T_r p (l) (st)) (h_a : Vpm w0 T_a u (ca) (a)) (h_b : Vpm w0 T_b v (cb) (b)) (ap_r_a : Apart T_r T_a) (ap_r_b : Apart T_r T_b) (ap_a_b : Apart T_a T_b) :
  Calls Tryz.prog 30 #[.pointer (some ⟨p, 0, none⟩), .int .i64 (k), .agg #[u, v], .agg #[.int .i64 (P), .int .i64 (pX w i), .int .i64 (pY w i)]] w0 fun e w' => ∃ (T_r' : Nat → Prop) (T_a' : Nat → Prop) (T_b' : Nat → Prop), e = .returned (.tuple #[.agg (chW (rcP l k w i ⟨a, b, st⟩)).toArray, .int .i64 ((chAt l k w i ⟨a, b, st⟩).2.1)]) ∧ Kept (fun i => (T_r) i ∨ ((T_a) i ∨ ((T_b) i))) w0 w' ∧ (Rdi w' T_r' p (l) ((stP l k w i ⟨a, b, st⟩).s) ∧ Grew w0 T_r T_r') ∧ (Vpm w' T_a' u (ca) ((stP l k w i ⟨a, b, st⟩).a) ∧ Grew w0 T_a T_a') ∧ (Vpm w' T_b' v (cb) ((stP l k w i ⟨a, b, st⟩).b) ∧ Grew w0 T_b T_b') ∧ Apart T_r' T_a' ∧ Apart T_r' T_b' ∧ Apart T_a' T_b' := by
 refine calls_wq (args := [pt p 0, iv k, .agg #[u, v], .agg #[iv P, iv (pX w i), iv (pY w i)]]) 59 Tryz.func30 rfl rfl (Nat.le_of_ble_eq_true rfl) ?_
 have K0 := Kept.refl (fun i => T_r i ∨ (T_a i ∨ (T_b i))) w0
 have hxy := pXY_in (i := i) hw h16 hi
 have g_r := Grew.refl w0 T_r
 have g_a := Grew.refl w0 T_a
 have g_b := Grew.refl w0 T_b
 refine wq_seq (wq_region (wl_box_stc (vs := [u, v]) rfl rfl rfl rfl fun p1 w2 B4 g5 k3 => ?_))
 have ap7 : Apart (onB p1) T_r := Apart.new g5 h_r.live
 have ap8 : Apart (onB p1) T_a := Apart.new g5 h_a.live
 have B10 := h_r.all k3 Apart.none
 have B11 := h_a.all k3 Apart.none
 have B12 := h_b.all k3 Apart.none
 have K13 := K0.tr k3
 refine wl_box_stc (vs := [iv P, iv (pX w i), iv (pY w i)]) rfl rfl rfl rfl fun p14 w15 B17 g18 k16 => ?_
 have ap20 : Apart (onB p14) T_r := Apart.new g18 B10.live
 have ap21 : Apart (onB p14) T_a := Apart.new g18 B11.live
 have B24 := B10.all k16 Apart.none
 have B25 := B11.all k16 Apart.none
 have B26 := B12.all k16 Apart.none
 have B27 := B4.all k16 id
 have K28 := K13.tr k16
 refine wl_alloc_stc (n := 21) (vs := (chL 0 0 0 0 0 (fun _ => (0 : Int)))) rfl rfl rfl (by kernel_rfl) fun p29 w30 B32 g33 k31 => ?_
 have gr34 : Grew w0 noB (onB p29) := Grew.new K28 g33
 have ap35 : Apart (onB p29) T_r := Apart.new g33 B24.live
 have ap36 : Apart (onB p29) T_a := Apart.new g33 B25.live
 have ap37 : Apart (onB p29) T_b := Apart.new g33 B26.live
 have B40 := B24.all k31 Apart.none
 have B41 := B25.all k31 Apart.none
 have B42 := B26.all k31 Apart.none
 have B43 := B27.all k31 id
 have B44 := B17.all k31 id
 have K45 := K28.tr k31
 refine wl_v (iv 0) rfl rfl (y_asg rfl rfl rr) (wl_nil fun F46 hF47 => ?_)
 have s48 : F46 0 = pt p 0 := (hF47 0).trans rfl
 have s49 : F46 1 = iv k := (hF47 1).trans rfl
 have s50 : F46 59 = undef := (hF47 59).trans rfl
 have s51 : F46 6 = pt p1 0 := (hF47 6).trans rfl
 have s52 : F46 7 = pt p14 0 := (hF47 7).trans rfl
 have s53 : F46 8 = pt p29 0 := (hF47 8).trans rfl
 clear hF47
 refine then_normal (wq_seq ?_)
 refine wq_cells (S := fun _ => False) [some 14, some 15, some 16, some 17, some 18, some 19, some 20, some 21, some 22, some 23, some 24, some 25, some 26, some 27, some 10, some 11, none, none] [Pc.eq (pt p1 0), Pc.eq u, Pc.eq (pt p14 1), Pc.eq (iv (pX w i)), Pc.eq (pt p14 2), Pc.eq (iv (pY w i)), Pc.eq (.agg #[iv (gX a (pX w i) (pY w i)), iv (gY a (pX w i) (pY w i))]), Pc.eq (pt p1 1), Pc.eq v, Pc.eq (pt p14 1), Pc.eq (iv (pX w i)), Pc.eq (pt p14 2), Pc.eq (iv (pY w i)), Pc.eq (.agg #[iv (gX b (pX w i) (pY w i)), iv (gY b (pX w i) (pY w i))]), Pc.blk 67 [iv 0, iv 0] 16 [iv (gX a (pX w i) (pY w i)), iv (gY a (pX w i) (pY w i))], Pc.blk 67 [iv 0, iv 0] 17 [iv (gX b (pX w i) (pY w i)), iv (gY b (pX w i) (pY w i))], Pc.turn 14, Pc.turn 15] (by kernel_rfl) (by kernel_rfl) (by kernel_rfl) rfl trivial ?_ ?_
 ·refine stepsFC_cons ?_ ?_
  ·refine StepFC.one rfl fun F_ w_ hR hout hD => ?_
   exact (y_atR 0 (s := 1) rfl ((hout 6 rfl (by decide)).trans s51) rfl (by omega) Tryz.underlying58 (by omega) (by kernel_rfl) (by omega) ⟨rfl, Kept.refl _ _⟩)
  refine stepsFC_cons ?_ ?_
  ·refine StepFC.one rfl fun F_ w_ hR hout hD => ?_
   have g14 : F_ 14 = pt p1 0 := (hD.get 0 rfl rfl rfl)
   exact (y_ld_stc rfl g14 Tryz.underlying56 (B43.all hR id) rfl rfl ⟨rfl, Kept.refl _ _⟩)
  refine stepsFC_cons ?_ ?_
  ·refine StepFC.one rfl fun F_ w_ hR hout hD => ?_
   exact (y_fieldR (n := 1) rfl ((hout 7 rfl (by decide)).trans s52) Tryz.underlying65 rfl (by kernel_rfl) (by decide) rfl ⟨rfl, Kept.refl _ _⟩)
  refine stepsFC_cons ?_ ?_
  ·refine StepFC.one rfl fun F_ w_ hR hout hD => ?_
   have g16 : F_ 16 = pt p14 1 := (hD.get 0 rfl rfl rfl)
   exact (y_ld_stc rfl g16 Tryz.underlying3 (B44.all hR id) rfl rfl ⟨rfl, Kept.refl _ _⟩)
  refine stepsFC_cons ?_ ?_
  ·refine StepFC.one rfl fun F_ w_ hR hout hD => ?_
   exact (y_fieldR (n := 1) rfl ((hout 7 rfl (by decide)).trans s52) Tryz.underlying65 rfl (by kernel_rfl) (by decide) rfl ⟨rfl, Kept.refl _ _⟩)
  refine stepsFC_cons ?_ ?_
  ·refine StepFC.one rfl fun F_ w_ hR hout hD => ?_
   have g18 : F_ 18 = pt p14 2 := (hD.get 0 rfl rfl rfl)
   exact (y_ld_stc rfl g18 Tryz.underlying3 (B44.all hR id) rfl rfl ⟨rfl, Kept.refl _ _⟩)
  refine stepsFC_cons ?_ ?_
  ·refine StepFC.one rfl fun F_ w_ hR hout hD => ?_
   have g15 : F_ 15 = u := (hD.get 0 rfl rfl rfl)
   have g17 : F_ 17 = iv (pX w i) := (hD.get 1 rfl rfl rfl)
   have g19 : F_ 19 = iv (pY w i) := (hD.get 2 rfl rfl rfl)
   exact (y_cs rfl rfl rfl (fun _ _ => by kernel_rfl) (ev_func _) (vsC g15 (vsC g17 (vsC g19 vsN))) (vt_guessM u ca a (pX w i) (pY w i) T_a _ (by unfold inI; omega) (by unfold inI; omega) (B41.all hR Apart.none) ) (fun e_ w_ h_ => ⟨_, h_.1, rfl, h_.2⟩))
  refine stepsFC_cons ?_ ?_
  ·refine StepFC.one rfl fun F_ w_ hR hout hD => ?_
   exact (y_atR 1 (s := 1) rfl ((hout 6 rfl (by decide)).trans s51) rfl (by omega) Tryz.underlying58 (by omega) (by kernel_rfl) (by omega) ⟨rfl, Kept.refl _ _⟩)
  refine stepsFC_cons ?_ ?_
  ·refine StepFC.one rfl fun F_ w_ hR hout hD => ?_
   have g21 : F_ 21 = pt p1 1 := (hD.get 0 rfl rfl rfl)
   exact (y_ld_stc rfl g21 Tryz.underlying56 (B43.all hR id) rfl rfl ⟨rfl, Kept.refl _ _⟩)
  refine stepsFC_cons ?_ ?_
  ·refine StepFC.one rfl fun F_ w_ hR hout hD => ?_
   exact (y_fieldR (n := 1) rfl ((hout 7 rfl (by decide)).trans s52) Tryz.underlying65 rfl (by kernel_rfl) (by decide) rfl ⟨rfl, Kept.refl _ _⟩)
  refine stepsFC_cons ?_ ?_
  ·refine StepFC.one rfl fun F_ w_ hR hout hD => ?_
   have g23 : F_ 23 = pt p14 1 := (hD.get 0 rfl rfl rfl)
   exact (y_ld_stc rfl g23 Tryz.underlying3 (B44.all hR id) rfl rfl ⟨rfl, Kept.refl _ _⟩)
  refine stepsFC_cons ?_ ?_
  ·refine StepFC.one rfl fun F_ w_ hR hout hD => ?_
   exact (y_fieldR (n := 1) rfl ((hout 7 rfl (by decide)).trans s52) Tryz.underlying65 rfl (by kernel_rfl) (by decide) rfl ⟨rfl, Kept.refl _ _⟩)
  refine stepsFC_cons ?_ ?_
  ·refine StepFC.one rfl fun F_ w_ hR hout hD => ?_
   have g25 : F_ 25 = pt p14 2 := (hD.get 0 rfl rfl rfl)
   exact (y_ld_stc rfl g25 Tryz.underlying3 (B44.all hR id) rfl rfl ⟨rfl, Kept.refl _ _⟩)
  refine stepsFC_cons ?_ ?_
  ·refine StepFC.one rfl fun F_ w_ hR hout hD => ?_
   have g22 : F_ 22 = v := (hD.get 0 rfl rfl rfl)
   have g24 : F_ 24 = iv (pX w i) := (hD.get 1 rfl rfl rfl)
   have g26 : F_ 26 = iv (pY w i) := (hD.get 2 rfl rfl rfl)
   exact (y_cs rfl rfl rfl (fun _ _ => by kernel_rfl) (ev_func _) (vsC g22 (vsC g24 (vsC g26 vsN))) (vt_guessM v cb b (pX w i) (pY w i) T_b _ (by unfold inI; omega) (by unfold inI; omega) (B42.all hR Apart.none) ) (fun e_ w_ h_ => ⟨_, h_.1, rfl, h_.2⟩))
  refine stepsFC_cons ?_ ?_
  ·refine StepFC.one rfl fun F_ w_ hR hout hD => ?_
   exact y_alloc_stc (n := 2) (vs := [iv 0, iv 0]) rfl (by kernel_rfl) ⟨_, rfl, Nat.le_refl _, heap_alloc_new _ _, (Kept.refl _ _).alloc _⟩
  refine stepsFC_cons ?_ ?_
  ·refine StepFC.one rfl fun F_ w_ hR hout hD => ?_
   exact y_alloc_stc (n := 2) (vs := [iv 0, iv 0]) rfl (by kernel_rfl) ⟨_, rfl, Nat.le_refl _, heap_alloc_new _ _, (Kept.refl _ _).alloc _⟩
  refine stepsFC_cons ?_ ?_
  ·refine StepFC.one rfl fun F_ w_ hR hout hD => ?_
   obtain ⟨p10_, g10, n10_, h10_⟩ : ∃ q_, F_ 10 = pt q_ 0 ∧ w30.heap.size ≤ q_ ∧ Stc w_ q_ 67 [iv 0, iv 0] := hD.get 0 rfl rfl rfl rfl
   have g20 : F_ 20 = .agg #[iv (gX a (pX w i) (pY w i)), iv (gY a (pX w i) (pY w i))] := (hD.get 1 rfl rfl rfl)
   exact y_storeStc (us := [iv (gX a (pX w i) (pY w i)), iv (gY a (pX w i) (pY w i))]) stcT_vector rfl g10 g20 h10_ rfl (oneI rfl (oneI rfl oneN)) fun w2_ b_ k_ => ⟨10, p10_, rfl, g10, fun _ _ _ e_ => (by cases e_; exact b_), k_⟩
  refine stepsFC_cons ?_ ?_
  ·refine StepFC.one rfl fun F_ w_ hR hout hD => ?_
   obtain ⟨p11_, g11, n11_, h11_⟩ : ∃ q_, F_ 11 = pt q_ 0 ∧ w30.heap.size ≤ q_ ∧ Stc w_ q_ 67 [iv 0, iv 0] := hD.get 0 rfl rfl rfl rfl
   have g27 : F_ 27 = .agg #[iv (gX b (pX w i) (pY w i)), iv (gY b (pX w i) (pY w i))] := (hD.get 1 rfl rfl rfl)
   exact y_storeStc (us := [iv (gX b (pX w i) (pY w i)), iv (gY b (pX w i) (pY w i))]) stcT_vector rfl g11 g27 h11_ rfl (oneI rfl (oneI rfl oneN)) fun w2_ b_ k_ => ⟨11, p11_, rfl, g11, fun _ _ _ e_ => (by cases e_; exact b_), k_⟩
  exact stepsFC_nil
 intro v54 F55 w56 k57 G58 H60 hF59
 have B61 := B40.all k57 Apart.none
 have B62 := B41.all k57 Apart.none
 have B63 := B42.all k57 Apart.none
 have B64 := B43.all k57 id
 have B65 := B44.all k57 id
 have B66 := B32.all k57 id
 have K67 := K45.tr k57
 obtain ⟨s68, s69, s70, s71, s72, s73⟩ := t6 hF59 0 s48 1 s49 59 s50 6 s51 7 s52 8 s53
 obtain ⟨p76, e75, e77, B78⟩ := G58 14 (by decide)
 replace B78 : Stc w56 p76 67 [iv (gX a (pX w i) (pY w i)), iv (gY a (pX w i) (pY w i))] := B78
 have s74 : F55 10 = pt p76 0 := (hF59 10).trans e75
 obtain ⟨p88, e87, e89, B90⟩ := G58 15 (by decide)
 replace B90 : Stc w56 p88 67 [iv (gX b (pX w i) (pY w i)), iv (gY b (pX w i) (pY w i))] := B90
 have s86 : F55 11 = pt p88 0 := (hF59 11).trans e87
 clear G58 hF59 H60
 refine then_normal (wq_seq (wq_region (wl_mv rfl rfl rfl s68 (wl_mv rfl rfl rfl s69 (wl_v (.agg #[iv (gX a (pX w i) (pY w i)), iv (gY a (pX w i) (pY w i))]) rfl rfl (y_load_stc stcT_vector rfl s74 B78 rr) (wl_v (.agg #[iv (gX b (pX w i) (pY w i)), iv (gY b (pX w i) (pY w i))]) rfl rfl (y_load_stc stcT_vector rfl s86 B90 rr) (wl_call (R := fun v_ w_ => ∃ (T101 : Nat → Prop), .tuple #[.agg (chW ((chAt l k w i ⟨a, b, st⟩).1)).toArray, iv ((chAt l k w i ⟨a, b, st⟩).2.1)] = v_ ∧ Kept T_r w56 w_ ∧ (Rdi w_ T101 p l (rdChT l k (gX a (pX w i) (pY w i)) (gY a (pX w i) (pY w i)) (gX b (pX w i) (pY w i)) (gY b (pX w i) (pY w i)) st) ∧ Grew w56 T_r T101)) rfl rfl (y_cs rfl rfl rfl (fun _ _ => by kernel_rfl) (ev_func _) (vsC rfl (vsC rfl (vsC rfl (vsC rfl vsN)))) (bl_read p l st k (gX a (pX w i) (pY w i)) (gY a (pX w i) (pY w i)) (gX b (pX w i) (pY w i)) (gY b (pX w i) (pY w i)) T_r _ (hA.but K67 (fun i h => h.elim (hG i) (fun h => h.elim (hGa i) (hGb i)))) (hO.but K67 (ovO (fun i h => h.elim (hG i) (fun h => h.elim (hGa i) (hGb i))))) hG B61 ) (fun e_ w_ h_ => by obtain ⟨T101_, he_, hr_⟩ := h_; exact ⟨_, he_, T101_, rfl, hr_⟩)) ?_)))))))
 rintro _ w99 ⟨T101, rfl, k100, ⟨B102, g103⟩⟩
 have B104 := B62.all k100 (fun i h x => ((ap_r_a.symm) i h x))
 have B105 := B63.all k100 (fun i h x => ((ap_r_b.symm) i h x))
 have B106 := B64.all k100 (ap7 p1 rfl)
 have B107 := B65.all k100 (ap20 p14 rfl)
 have B108 := B66.all k100 (ap35 p29 rfl)
 have K111 := K67.trans k100 (fun i hi x => ((Grew.ok (S := fun i => T_r i ∨ (T_a i ∨ (T_b i))) g_r (fun _ x => Or.inl x)) i hi x))
 have gr112 := g_r.trans K67 g103
 have ap113 : Apart T101 T_a := ap_r_a.grew g103 B62.live
 have ap114 : Apart T101 T_b := ap_r_b.grew g103 B63.live
 have ap117 : Apart T101 (onB p29) := (ap35.symm).grew g103 (onB_live B66.lt)
 refine wl_v (.tuple #[.agg (chW ((chAt l k w i ⟨a, b, st⟩).1)).toArray, iv ((chAt l k w i ⟨a, b, st⟩).2.1)]) rfl rfl (y_mov rfl rfl rr) (wl_v (.agg (chW ((chAt l k w i ⟨a, b, st⟩).1)).toArray) rfl rfl (y_ext rfl rfl rfl rr) (wl_v (iv ((chAt l k w i ⟨a, b, st⟩).2.1)) rfl rfl (y_ext rfl rfl rfl rr) (wl_alloc_stc (n := 21) (vs := (chL 0 0 0 0 0 (fun _ => (0 : Int)))) rfl rfl rfl (by kernel_rfl) fun p120 w121 B123 g124 k122 => ?_)))
 have gr125 : Grew w0 noB (onB p120) := Grew.new K111 g124
 have ap126 : Apart (onB p120) T101 := Apart.new g124 B102.live
 have ap127 : Apart (onB p120) T_a := Apart.new g124 B104.live
 have ap128 : Apart (onB p120) T_b := Apart.new g124 B105.live
 have ap129 : Apart (onB p120) (onB p1) := Apart.new g124 (onB_live B106.lt)
 have ap130 : Apart (onB p120) (onB p14) := Apart.new g124 (onB_live B107.lt)
 have ap131 : Apart (onB p120) (onB p29) := Apart.new g124 (onB_live B108.lt)
 have B134 := B102.all k122 Apart.none
 have B135 := B104.all k122 Apart.none
 have B136 := B105.all k122 Apart.none
 have B137 := B106.all k122 id
 have B138 := B107.all k122 id
 have B139 := B108.all k122 id
 have K142 := K111.tr k122
 refine wl_store_stc (us := (chW ((chAt l k w i ⟨a, b, st⟩).1))) stcT_choice rfl rfl rfl rfl rfl B123 rfl (oneI rfl (oneI rfl (oneI rfl (oneI rfl (oneI rfl (oneI rfl (oneI rfl (oneI rfl (oneI rfl (oneI rfl (oneI rfl (oneI rfl (oneI rfl (oneI rfl (oneI rfl (oneI rfl (oneI rfl (oneI rfl (oneI rfl (oneI rfl (oneI rfl oneN))))))))))))))))))))) fun w143 B144 k145 => ?_
 have B146 := B134.all k145 ap126.symm
 have B147 := B135.all k145 ap127.symm
 have B148 := B136.all k145 ap128.symm
 have B149 := B137.all k145 (ap129.symm p1 rfl)
 have B150 := B138.all k145 (ap130.symm p14 rfl)
 have B151 := B139.all k145 (ap131.symm p29 rfl)
 have K154 := K142.trans k145 (Grew.ok (S := fun i => T_r i ∨ (T_a i ∨ (T_b i))) gr125 noB_le)
 refine wl_v (iv ((chAt l k w i ⟨a, b, st⟩).2.1)) rfl rfl (y_asg rfl rfl rr) (wl_nil fun F155 hF156 => ?_)
 obtain ⟨s157, s158, s159, s160⟩ := t4 hF156 59 s70 6 s71 7 s72 8 s73
 have s161 : F155 12 = pt p120 0 := (hF156 12).trans rfl
 have s162 : F155 13 = iv ((chAt l k w i ⟨a, b, st⟩).2.1) := (hF156 13).trans rfl
 clear hF156
 refine then_normal (wq_seq (wq_seq (wq_region (wl_mv rfl rfl rfl s162 (wl_v (.bool (decide (((chAt l k w i ⟨a, b, st⟩).2.1) ≠ 0))) rfl rfl (y_neqI rfl rfl rfl rfl rr) (wl_nil fun F163 hF164 => ?_))))))
 obtain ⟨s165, s166, s167, s168, s169, s170⟩ := t6 hF164 59 s157 6 s158 7 s159 8 s160 12 s161 13 s162
 have s171 : F163 37 = .bool (decide (((chAt l k w i ⟨a, b, st⟩).2.1) ≠ 0)) := (hF164 37).trans rfl
 clear hF164
 refine then_normal ?_
 refine wq_cond s171 (fun c172 => ?_) (fun c172 => ?_)
 ·replace c172 := of_decide_eq_true c172
  refine wq_seq ?_
  have hR := rcP_no (l := l) (k := k) (w := w) (i := i) (t := ⟨a, b, st⟩) (by assumption)
  refine wq_region (wl_v (.agg (chL 0 0 0 0 0 (fun _ => (0 : Int))).toArray) rfl rfl (y_buildL (l' := []) (cells := (chL 0 0 0 0 0 (fun _ => (0 : Int))).toArray) rfl bpN (by kernel_rfl) rfl rr) (wl_mv rfl rfl rfl s170 (wl_store_stc (us := (chL 0 0 0 0 0 (fun _ => (0 : Int)))) stcT_choice rfl rfl rfl s168 rfl B151 rfl (oneI rfl (oneI rfl (oneI rfl (oneI rfl (oneI rfl (oneI rfl (oneI rfl (oneI rfl (oneI rfl (oneI rfl (oneI rfl (oneI rfl (oneI rfl (oneI rfl (oneI rfl (oneI rfl (oneI rfl (oneI rfl (oneI rfl (oneI rfl (oneI rfl oneN))))))))))))))))))))) fun w173 B174 k175 => ?_)))
  have B176 := B146.all k175 ap117
  have B177 := B147.all k175 ap36.symm
  have B178 := B148.all k175 ap37.symm
  have K184 := K154.trans k175 (Grew.ok (S := fun i => T_r i ∨ (T_a i ∨ (T_b i))) gr34 noB_le)
  refine wl_v (iv ((chAt l k w i ⟨a, b, st⟩).2.1)) rfl rfl (y_asg rfl rfl rr) (wl_nil fun F185 hF186 => ?_)
  obtain ⟨s187, s188⟩ := t2 hF186 59 s165 8 s168
  have s189 : F185 9 = iv ((chAt l k w i ⟨a, b, st⟩).2.1) := (hF186 9).trans rfl
  clear hF186
  refine then_normal (wq_ret (then_ret ?_))
  exact end_2 s187 rfl (res_stc (vs := (chL 0 0 0 0 0 (fun _ => (0 : Int)))) stcT_choice rfl s188 B174) (res_tmp (v := iv ((chAt l k w i ⟨a, b, st⟩).2.1)) rfl s189) ⟨T101, T_a, T_b, (by first | rw [hR.1, he0] | (rw [hR.1] <;> rfl)), K184, ⟨(by rw [← rdT_is]; exact B176), gr112⟩, ⟨(by rw [hR.2]; exact B177), g_a⟩, ⟨(by rw [hR.2]; exact B178), g_b⟩, ap113, ap114, ap_a_b⟩
 ·replace c172 := of_decide_eq_false c172
  refine wq_skip (then_normal (wq_seq ?_))
  have he0 : (chAt l k w i ⟨a, b, st⟩).2.1 = 0 := by first | assumption | (apply Decidable.byContradiction; assumption)
  have hR := rcP_yes (l := l) (k := k) (w := w) (i := i) (t := ⟨a, b, st⟩) (by first | assumption | (apply Decidable.byContradiction; assumption))
  refine wq_region (wl_v (pt p1 0) rfl rfl (y_atR 0 (s := 1) rfl s166 rfl (by omega) Tryz.underlying58 (by omega) (by kernel_rfl) (by omega) rr) (wl_v u rfl rfl (y_ld_stc rfl rfl Tryz.underlying56 B149 rfl rfl rr) (wl_v (pt p14 1) rfl rfl (y_fieldR (n := 1) rfl s167 Tryz.underlying65 rfl (by kernel_rfl) (by decide) rfl rr) (wl_v (iv (pX w i)) rfl rfl (y_ld_stc rfl rfl Tryz.underlying3 B150 rfl rfl rr) (wl_v (pt p14 2) rfl rfl (y_fieldR (n := 1) rfl s167 Tryz.underlying65 rfl (by kernel_rfl) (by decide) rfl rr) (wl_v (iv (pY w i)) rfl rfl (y_ld_stc rfl rfl Tryz.underlying3 B150 rfl rfl rr) (wl_v (pt p120 1) rfl rfl (y_fieldR (n := 2) rfl s169 Tryz.underlying71 rfl (by kernel_rfl) (by decide) rfl rr) (wl_v (.agg #[iv (((chAt l k w i ⟨a, b, st⟩).1).px), iv (((chAt l k w i ⟨a, b, st⟩).1).py)]) rfl rfl (y_ldPart (n := 2) stcT_vector rfl rfl B144 (Nat.le_of_ble_eq_true rfl) rfl rr) (wl_call (R := fun v_ w_ => ∃ (T192 : Nat → Prop), iv (setE a (pX w i) (pY w i) (((chAt l k w i ⟨a, b, st⟩).1).px) (((chAt l k w i ⟨a, b, st⟩).1).py)) = v_ ∧ Kept T_a w143 w_ ∧ (Vpm w_ T192 u ca (setV a (pX w i) (pY w i) (((chAt l k w i ⟨a, b, st⟩).1).px) (((chAt l k w i ⟨a, b, st⟩).1).py)) ∧ Grew w143 T_a T192)) rfl rfl (y_cs rfl rfl rfl (fun _ _ => by kernel_rfl) (ev_func _) (vsC rfl (vsC rfl (vsC rfl (vsC rfl vsN)))) (vt_setM u ca a (pX w i) (pY w i) (((chAt l k w i ⟨a, b, st⟩).1).px) (((chAt l k w i ⟨a, b, st⟩).1).py) T_a _  B147 ) (fun e_ w_ h_ => by obtain ⟨T192_, he_, hr_⟩ := h_; exact ⟨_, he_, T192_, rfl, hr_⟩)) ?_)))))))))
  rintro _ w190 ⟨T192, rfl, k191, ⟨B193, g194⟩⟩
  have B195 := B146.all k191 ap113
  have B196 := B148.all k191 (fun i h x => ((ap_a_b.symm) i h x))
  have B197 := B149.all k191 (ap8 p1 rfl)
  have B198 := B150.all k191 (ap21 p14 rfl)
  have B199 := B151.all k191 (ap36 p29 rfl)
  have B202 := B144.all k191 (ap127 p120 rfl)
  have K203 := K154.trans k191 (fun i hi x => ((Grew.ok (S := fun i => T_r i ∨ (T_a i ∨ (T_b i))) g_a (fun _ x => Or.inr (Or.inl x))) i hi x))
  have gr204 := g_a.trans K154 g194
  have ap205 : Apart T192 T101 := (ap113.symm).grew g194 B146.live
  have ap206 : Apart T192 T_b := ap_a_b.grew g194 B148.live
  have ap209 : Apart T192 (onB p29) := (ap36.symm).grew g194 (onB_live B151.lt)
  refine wl_nil fun F213 hF214 => ?_
  obtain ⟨s215, s216, s217, s218, s219⟩ := t5 hF214 59 s165 6 s166 7 s167 8 s168 12 s169
  clear hF214
  refine then_normal (wq_seq (wq_region (wl_v (pt p1 1) rfl rfl (y_atR 1 (s := 1) rfl s216 rfl (by omega) Tryz.underlying58 (by omega) (by kernel_rfl) (by omega) rr) (wl_v v rfl rfl (y_ld_stc rfl rfl Tryz.underlying56 B197 rfl rfl rr) (wl_v (pt p14 1) rfl rfl (y_fieldR (n := 1) rfl s217 Tryz.underlying65 rfl (by kernel_rfl) (by decide) rfl rr) (wl_v (iv (pX w i)) rfl rfl (y_ld_stc rfl rfl Tryz.underlying3 B198 rfl rfl rr) (wl_v (pt p14 2) rfl rfl (y_fieldR (n := 1) rfl s217 Tryz.underlying65 rfl (by kernel_rfl) (by decide) rfl rr) (wl_v (iv (pY w i)) rfl rfl (y_ld_stc rfl rfl Tryz.underlying3 B198 rfl rfl rr) (wl_v (pt p120 3) rfl rfl (y_fieldR (n := 2) rfl s219 Tryz.underlying71 rfl (by kernel_rfl) (by decide) rfl rr) (wl_v (.agg #[iv (((chAt l k w i ⟨a, b, st⟩).1).nx), iv (((chAt l k w i ⟨a, b, st⟩).1).ny)]) rfl rfl (y_ldPart (n := 2) stcT_vector rfl rfl B202 (Nat.le_of_ble_eq_true rfl) rfl rr) (wl_call (R := fun v_ w_ => ∃ (T222 : Nat → Prop), iv (setE b (pX w i) (pY w i) (((chAt l k w i ⟨a, b, st⟩).1).nx) (((chAt l k w i ⟨a, b, st⟩).1).ny)) = v_ ∧ Kept T_b w190 w_ ∧ (Vpm w_ T222 v cb (setV b (pX w i) (pY w i) (((chAt l k w i ⟨a, b, st⟩).1).nx) (((chAt l k w i ⟨a, b, st⟩).1).ny)) ∧ Grew w190 T_b T222)) rfl rfl (y_cs rfl rfl rfl (fun _ _ => by kernel_rfl) (ev_func _) (vsC rfl (vsC rfl (vsC rfl (vsC rfl vsN)))) (vt_setM v cb b (pX w i) (pY w i) (((chAt l k w i ⟨a, b, st⟩).1).nx) (((chAt l k w i ⟨a, b, st⟩).1).ny) T_b _  B196 ) (fun e_ w_ h_ => by obtain ⟨T222_, he_, hr_⟩ := h_; exact ⟨_, he_, T222_, rfl, hr_⟩)) ?_)))))))))))
  rintro _ w220 ⟨T222, rfl, k221, ⟨B223, g224⟩⟩
  have B225 := B195.all k221 ap114
  have B226 := B193.all k221 ap206
  have B229 := B199.all k221 (ap37 p29 rfl)
  have B232 := B202.all k221 (ap128 p120 rfl)
  have K233 := K203.trans k221 (fun i hi x => ((Grew.ok (S := fun i => T_r i ∨ (T_a i ∨ (T_b i))) g_b (fun _ x => Or.inr (Or.inr x))) i hi x))
  have gr234 := g_b.trans K203 g224
  have ap235 : Apart T222 T101 := (ap114.symm).grew g224 B195.live
  have ap236 : Apart T222 T192 := (ap206.symm).grew g224 B193.live
  have ap239 : Apart T222 (onB p29) := (ap37.symm).grew g224 (onB_live B199.lt)
  refine wl_nil fun F243 hF244 => ?_
  obtain ⟨s245, s246, s247⟩ := t3 hF244 59 s215 8 s218 12 s219
  clear hF244
  refine then_normal (wq_seq (wq_region (wl_v (.agg (chW ((chAt l k w i ⟨a, b, st⟩).1)).toArray) rfl rfl (y_load_stc stcT_choice rfl s247 B232 rr) (wl_store_stc (us := (chW ((chAt l k w i ⟨a, b, st⟩).1))) stcT_choice rfl rfl rfl s246 rfl B229 rfl (oneI rfl (oneI rfl (oneI rfl (oneI rfl (oneI rfl (oneI rfl (oneI rfl (oneI rfl (oneI rfl (oneI rfl (oneI rfl (oneI rfl (oneI rfl (oneI rfl (oneI rfl (oneI rfl (oneI rfl (oneI rfl (oneI rfl (oneI rfl (oneI rfl oneN))))))))))))))))))))) fun w248 B249 k250 => ?_))))
  have B251 := B225.all k250 ap117
  have B252 := B226.all k250 ap209
  have B253 := B223.all k250 ap239
  have K259 := K233.trans k250 (Grew.ok (S := fun i => T_r i ∨ (T_a i ∨ (T_b i))) gr34 noB_le)
  refine wl_v (iv 0) rfl rfl (y_asg rfl rfl rr) (wl_nil fun F260 hF261 => ?_)
  obtain ⟨s262, s263⟩ := t2 hF261 59 s245 8 s246
  have s264 : F260 9 = iv 0 := (hF261 9).trans rfl
  clear hF261
  refine then_normal (wq_ret ?_)
  exact end_2 s262 rfl (res_stc (vs := (chW ((chAt l k w i ⟨a, b, st⟩).1))) stcT_choice rfl s263 B249) (res_tmp (v := iv 0) rfl s264) ⟨T101, T192, T222, (by first | rw [hR.1, he0] | (rw [hR.1] <;> rfl)), K259, ⟨(by rw [← rdT_is]; exact B251), gr112⟩, ⟨(by rw [hR.2]; exact B252), gr204⟩, ⟨(by rw [hR.2]; exact B253), gr234⟩, ap205.symm, ap235.symm, ap236.symm⟩
theorem pc_blank (W H R B : Int) (w0 : World) (hs : seqOk W H R B) :
  Calls Tryz.prog 28 #[.agg #[.int .i64 (W), .int .i64 (H), .int .i64 (R), .int .i64 (B)]] w0 fun e w' => ∃ (v1 : Value) (T1 : Nat → Prop) (v2 : Value) (T2 : Nat → Prop) (v3 : Value) (T3 : Nat → Prop) (v4 : Value) (T4 : Nat → Prop) (v5 : Value) (T5 : Nat → Prop) (v6 : Value) (T6 : Nat → Prop), e = .returned (.agg #[v1, v2, v3, v4, v5, v6]) ∧ Kept (fun _ => False) w0 w' ∧ (Vpo w' T1 v1 (some (newV ((plN W 0 : Nat) : Int) ((plN H 0 : Nat) : Int))) ∧ Grew w0 noB T1) ∧ (Vpo w' T2 v2 (some (newV ((plN W 0 : Nat) : Int) ((plN H 0 : Nat) : Int))) ∧ Grew w0 noB T2) ∧ (Vpo w' T3 v3 (some (newV ((plN W 1 : Nat) : Int) ((plN H 1 : Nat) : Int))) ∧ Grew w0 noB T3) ∧ (Vpo w' T4 v4 (some (newV ((plN W 1 : Nat) : Int) ((plN H 1 : Nat) : Int))) ∧ Grew w0 noB T4) ∧ (Vpo w' T5 v5 (some (newV ((plN W 2 : Nat) : Int) ((plN H 2 : Nat) : Int))) ∧ Grew w0 noB T5) ∧ (Vpo w' T6 v6 (some (newV ((plN W 2 : Nat) : Int) ((plN H 2 : Nat) : Int))) ∧ Grew w0 noB T6) ∧ Apart T1 T2 ∧ Apart T1 T3 ∧ Apart T1 T4 ∧ Apart T1 T5 ∧ Apart T1 T6 ∧ Apart T2 T3 ∧ Apart T2 T4 ∧ Apart T2 T5 ∧ Apart T2 T6 ∧ Apart T3 T4 ∧ Apart T3 T5 ∧ Apart T3 T6 ∧ Apart T4 T5 ∧ Apart T4 T6 ∧ Apart T5 T6 := by
 refine calls_wq (args := [.agg #[iv W, iv H, iv R, iv B]]) 33 Tryz.func28 rfl rfl (Nat.le_of_ble_eq_true rfl) ?_
 have K0 := Kept.refl (fun _ => False) w0
 have hsd := seq_side hs
 refine wq_seq (wq_region (wl_box_stc (vs := [iv W, iv H, iv R, iv B]) rfl rfl rfl rfl fun p1 w2 B4 g5 k3 => ?_))
 have K7 := K0.tr k3
 refine wl_alloc_stc (n := 6) (vs := [.pointer none, .pointer none, .pointer none, .pointer none, .pointer none, .pointer none]) rfl rfl rfl (by kernel_rfl) fun p8 w9 B11 g12 k10 => ?_
 have gr13 : Grew w0 noB (onB p8) := Grew.new K7 g12
 have B15 := B4.all k10 id
 have K16 := K7.tr k10
 refine wl_nil fun F17 hF18 => ?_
 have s19 : F17 33 = undef := (hF18 33).trans rfl
 have s20 : F17 1 = pt p1 0 := (hF18 1).trans rfl
 have s21 : F17 2 = pt p8 0 := (hF18 2).trans rfl
 clear hF18
 refine then_normal (wq_seq (wq_region (wl_alloc_stc (n := 6) (vs := [.pointer none, .pointer none, .pointer none, .pointer none, .pointer none, .pointer none]) rfl rfl rfl (by kernel_rfl) fun p22 w23 B25 g26 k24 => ?_)))
 have gr27 : Grew w0 noB (onB p22) := Grew.new K16 g26
 have ap28 : Apart (onB p22) (onB p1) := Apart.new g26 (onB_live B15.lt)
 have ap29 : Apart (onB p22) (onB p8) := Apart.new g26 (onB_live B11.lt)
 have B30 := B15.all k24 id
 have B31 := B11.all k24 id
 have K32 := K16.tr k24
 refine wl_nil fun F33 hF34 => ?_
 obtain ⟨s35, s36, s37⟩ := t3 hF34 33 s19 1 s20 2 s21
 have s38 : F33 3 = pt p22 0 := (hF34 3).trans rfl
 clear hF34
 refine then_normal (wq_seq (wq_seq (wq_region (wl_v (iv 0) rfl rfl (y_mov rfl rfl rr) (wl_nil fun F39 hF40 => ?_)))))
 obtain ⟨s41, s42, s43, s44⟩ := t4 hF40 33 s35 1 s36 2 s37 3 s38
 have s45 : F39 8 = iv 0 := (hF40 8).trans rfl
 clear hF40
 refine then_normal (wq_block (wq_rounds 4 (wqr_step (wq_seq (wq_region (wl_v (.bool true) rfl rfl (y_lss rfl s45 rfl rfl rr) (wl_nil fun F46 hF47 => ?_)))))))
 obtain ⟨s48, s49, s50, s51, s52⟩ := t5 hF47 33 s41 1 s42 2 s43 3 s44 8 s45
 have s53 : F46 9 = .bool true := (hF47 9).trans rfl
 clear hF47
 refine then_normal (wq_seq ?_)
 refine wq_cond (t := true) s53 (fun _ => ?_) (fun e => by cases e)
 refine wq_skip (then_normal (wq_seq (wq_block (wq_seq (wq_region (wl_mv rfl rfl rfl s52 (wl_v (iv 0) rfl rfl (y_asg rfl rfl rr) (wl_nil fun F54 hF55 => ?_))))))))
 obtain ⟨s56, s57, s58, s59, s60⟩ := t5 hF55 33 s48 1 s49 2 s50 3 s51 8 s52
 have s61 : F54 4 = iv 0 := (hF55 4).trans rfl
 clear hF55
 refine then_normal (wq_seq (wq_region (wl_v (.agg #[iv W, iv H, iv R, iv B]) rfl rfl (y_load_stc stcT_seq rfl s57 B30 rr) (wl_mv rfl rfl rfl s61 (wl_cs rfl rfl rfl rfl rfl (fun _ _ => by kernel_rfl) (vsC rfl (vsC rfl vsN)) (pc_across W H R B 0  _ (by assumption)  ) fun w62 k63 => ?_)))))
 have B64 := B30.all k63 id
 have B65 := B31.all k63 id
 have B66 := B25.all k63 id
 have K67 := K32.tr k63
 refine wl_v (.tuple #[iv ((plN W 0 : Nat) : Int), iv ((plN H 0 : Nat) : Int)]) rfl rfl (y_mov rfl rfl rr) (wl_v (iv ((plN W 0 : Nat) : Int)) rfl rfl (y_ext rfl rfl rfl rr) (wl_v (iv ((plN H 0 : Nat) : Int)) rfl rfl (y_ext rfl rfl rfl rr) (wl_v (iv ((plN W 0 : Nat) : Int)) rfl rfl (y_asg rfl rfl rr) (wl_v (iv ((plN H 0 : Nat) : Int)) rfl rfl (y_asg rfl rfl rr) (wl_nil fun F68 hF69 => ?_)))))
 obtain ⟨s70, s71, s72, s73, s74, s75⟩ := t6 hF69 33 s56 1 s57 2 s58 3 s59 8 s60 4 s61
 have s76 : F68 5 = iv ((plN W 0 : Nat) : Int) := (hF69 5).trans rfl
 have s77 : F68 6 = iv ((plN H 0 : Nat) : Int) := (hF69 6).trans rfl
 clear hF69
 refine then_normal (wq_seq (wq_region (wl_v (iv 0) rfl rfl (y_mov rfl rfl rr) (wl_nil fun F78 hF79 => ?_))))
 obtain ⟨s80, s81, s82, s83, s84, s85, s86, s87⟩ := t8 hF79 33 s70 1 s71 2 s72 3 s73 8 s74 4 s75 5 s76 6 s77
 have s88 : F78 17 = iv 0 := (hF79 17).trans rfl
 clear hF79
 refine then_normal (wq_block (wq_rounds 3 (wqr_step (wq_seq (wq_region (wl_v (.bool true) rfl rfl (y_lss rfl s88 rfl rfl rr) (wl_nil fun F89 hF90 => ?_)))))))
 obtain ⟨s91, s92, s93, s94, s95, s96, s97, s98, s99⟩ := t9 hF90 33 s80 1 s81 2 s82 3 s83 8 s84 4 s85 5 s86 6 s87 17 s88
 have s100 : F89 18 = .bool true := (hF90 18).trans rfl
 clear hF90
 refine then_normal (wq_seq ?_)
 refine wq_cond (t := true) s100 (fun _ => ?_) (fun e => by cases e)
 refine wq_skip (then_normal (wq_seq (wq_block (wq_seq (wq_region (wl_mv rfl rfl rfl s99 (wl_v (iv 0) rfl rfl (y_asg rfl rfl rr) (wl_nil fun F101 hF102 => ?_))))))))
 obtain ⟨s103, s104, s105, s106, s107, s108, s109, s110, s111⟩ := t9 hF102 33 s91 1 s92 2 s93 3 s94 8 s95 4 s96 5 s97 6 s98 17 s99
 have s112 : F101 7 = iv 0 := (hF102 7).trans rfl
 clear hF102
 refine then_normal ?_
 refine wq_cas (γ := Value × (Nat → Prop)) [(5, 4), (6, 4), (7, 4), (9, 4), (10, 4)] [some 21, some 22, some 23, some 24, some 25, some 20, some 26, some 27, some 28, some 29, none] ⟨fun w_ => True, fun _ => False, fun g_ w_ => (Vpo w_ (g_.2) (g_.1) (optV ((plN W 0 : Nat) : Int) ((plN H 0 : Nat) : Int)) ∧ Grew w62 noB (g_.2)), fun g_ => (g_.2), fun p_ w_ => Stc w_ p_ 59 [.pointer none, .pointer none, .pointer none, .pointer none, .pointer none, .pointer none], fun g_ p_ w_ => Stc w_ p_ 59 [g_.1, .pointer none, .pointer none, .pointer none, .pointer none, .pointer none]⟩ (onB p22) (fun p_ => p22 = p_) [fun g_ => iv 0, fun g_ => iv 0, fun g_ => iv ((plN W 0 : Nat) : Int), fun g_ => iv ((plN H 0 : Nat) : Int), fun g_ => .tuple #[g_.1, iv (newVE ((plN W 0 : Nat) : Int) ((plN H 0 : Nat) : Int))], fun g_ => .tuple #[g_.1, iv (newVE ((plN W 0 : Nat) : Int) ((plN H 0 : Nat) : Int))], fun g_ => g_.1, fun g_ => iv (newVE ((plN W 0 : Nat) : Int) ((plN H 0 : Nat) : Int)), fun g_ => pt p22 0, fun g_ => pt p22 0, fun _ => undef] 4 10 none (undef, noB) p22 (by kernel_rfl) (by kernel_rfl) (by kernel_rfl) (by kernel_rfl) ⟨.inr (.inr fun _ _ => rfl), ⟨.inr (.inr fun _ _ => rfl), ⟨.inr (.inr fun _ _ => rfl), ⟨.inr (.inr fun _ _ => rfl), ⟨.inr (.inl rfl), ⟨.inl rfl, ⟨.inl rfl, ⟨.inl rfl, ⟨.inr (.inr fun _ _ => rfl), ⟨.inl rfl, ⟨.inl rfl, trivial⟩⟩⟩⟩⟩⟩⟩⟩⟩⟩⟩ ⟨trivial, fun _ _ _ _ _ _ => trivial, fun _ _ _ z => z.elim, fun g w w1 S1 h k a => by obtain ⟨b0_, g0_⟩ := h; exact ⟨b0_.all k (fun i z => a i z), g0_⟩, fun g w h i z => by obtain ⟨b0_, g0_⟩ := h; exact b0_.live i z, fun _ _ _ _ h k z => h.all k z, fun _ _ h => h.lt, fun _ _ _ _ _ h k z => h.all k z, fun _ z => z.elim, fun _ h => .inl h.symm, fun _ _ z => z⟩ (fun _ e => by cases e) (fun _ => ⟨rfl, B66⟩) ?_ ?_
 ·refine stepsFX_cons ?_ ?_
  ·refine StepFX.one rfl rfl rfl rfl fun g_ p_ F_ w_ hR hout hD => ?_
   exact (y_mov rfl ((hout 4 rfl (by decide)).trans s108) ⟨rfl, Kept.refl _ _⟩)
  refine stepsFX_cons ?_ ?_
  ·refine StepFX.one rfl rfl rfl rfl fun g_ p_ F_ w_ hR hout hD => ?_
   exact (y_mov rfl ((hout 7 rfl (by decide)).trans s112) ⟨rfl, Kept.refl _ _⟩)
  refine stepsFX_cons ?_ ?_
  ·refine StepFX.one rfl rfl rfl rfl fun g_ p_ F_ w_ hR hout hD => ?_
   exact (y_mov rfl ((hout 5 rfl (by decide)).trans s109) ⟨rfl, Kept.refl _ _⟩)
  refine stepsFX_cons ?_ ?_
  ·refine StepFX.one rfl rfl rfl rfl fun g_ p_ F_ w_ hR hout hD => ?_
   exact (y_mov rfl ((hout 6 rfl (by decide)).trans s110) ⟨rfl, Kept.refl _ _⟩)
  refine stepsFX_cons ?_ ?_
  ·refine StepFX.call rfl rfl rfl rfl fun g_ p_ F_ w_ hR hout hD hP_ => ?_
   have g23 : F_ 23 = iv ((plN W 0 : Nat) : Int) := (hD.get 0 rfl rfl rfl).2 (by decide)
   have g24 : F_ 24 = iv ((plN H 0 : Nat) : Int) := (hD.get 1 rfl rfl rfl).2 (by decide)
   exact (y_cs rfl rfl rfl (fun _ _ => by kernel_rfl) (ev_func _) (vsC g23 (vsC g24 vsN)) (vt_new ((plN W 0 : Nat) : Int) ((plN H 0 : Nat) : Int)  _   ) (fun e_ w_ h_ => by obtain ⟨x0_, x1_, he_, hk_, ⟨b0_, g0_⟩⟩ := h_; exact ⟨_, he_, ⟨x0_, x1_⟩, rfl, hk_, ⟨b0_, (Grew.refl w62 _).trans hR g0_⟩, fun b hb => (g0_ b hb).elim (fun z => z.elim) .inr⟩))
  refine stepsFX_cons ?_ ?_
  ·refine StepFX.one rfl rfl rfl rfl fun g_ p_ F_ w_ hR hout hD => ?_
   have g25 : F_ 25 = .tuple #[g_.1, iv (newVE ((plN W 0 : Nat) : Int) ((plN H 0 : Nat) : Int))] := (hD.get 0 rfl rfl rfl).2 (by decide)
   exact (y_mov rfl g25 ⟨rfl, Kept.refl _ _⟩)
  refine stepsFX_cons ?_ ?_
  ·refine StepFX.one rfl rfl rfl rfl fun g_ p_ F_ w_ hR hout hD => ?_
   have g20 : F_ 20 = .tuple #[g_.1, iv (newVE ((plN W 0 : Nat) : Int) ((plN H 0 : Nat) : Int))] := (hD.get 0 rfl rfl rfl).2 (by decide)
   exact (y_ext rfl g20 rfl ⟨rfl, Kept.refl _ _⟩)
  refine stepsFX_cons ?_ ?_
  ·refine StepFX.one rfl rfl rfl rfl fun g_ p_ F_ w_ hR hout hD => ?_
   have g20 : F_ 20 = .tuple #[g_.1, iv (newVE ((plN W 0 : Nat) : Int) ((plN H 0 : Nat) : Int))] := (hD.get 0 rfl rfl rfl).2 (by decide)
   exact (y_ext rfl g20 rfl ⟨rfl, Kept.refl _ _⟩)
  refine stepsFX_cons ?_ ?_
  ·refine StepFX.one rfl rfl rfl rfl fun g_ p_ F_ w_ hR hout hD => ?_
   have g21 : F_ 21 = iv 0 := (hD.get 0 rfl rfl rfl).2 (by decide)
   exact (y_atR 0 (s := 2) rfl ((hout 3 rfl (by decide)).trans s106) g21 (by omega) Tryz.underlying59 (by omega) (by kernel_rfl) (by omega) ⟨rfl, Kept.refl _ _⟩)
  refine stepsFX_cons ?_ ?_
  ·refine StepFX.one rfl rfl rfl rfl fun g_ p_ F_ w_ hR hout hD => ?_
   have g28 : F_ 28 = pt p22 0 := (hD.get 0 rfl rfl rfl).2 (by decide)
   have g22 : F_ 22 = iv 0 := (hD.get 1 rfl rfl rfl).2 (by decide)
   exact (y_atR 0 (s := 1) rfl g28 g22 (by omega) Tryz.underlying58 (by omega) (by kernel_rfl) (by omega) ⟨rfl, Kept.refl _ _⟩)
  refine stepsFX_cons ?_ ?_
  ·refine StepFX.store rfl rfl rfl rfl fun g_ p_ F_ w_ hR hout hD hO_ hZ_ hQ_ => ?_
   subst hO_
   have g29 : F_ 29 = pt p22 0 := (hD.get 0 rfl rfl rfl).2 (by decide)
   have g26 : F_ 26 = g_.1 := (hD.get 1 rfl rfl rfl).2 (by decide)
   exact y_setStc rfl g29 g26 hZ_ rfl (hQ_.1).oneC (by kernel_rfl) fun w2_ b_ k_ => ⟨rfl, k_, b_⟩
  exact stepsFX_nil
 intro gg114 p115 v116 F117 w118 k119 hp120 hQ121 hG122 hY123 hN124 hA125 hV126 hF127
 obtain ⟨v129, T130⟩ := gg114
 have B131 := B64.all k119 (ap28.symm p1 rfl)
 have B132 := B65.all k119 (ap29.symm p8 rfl)
 have K133 := K67.trans k119 (fun i hi x => ((Grew.ok (S := fun _ => False) gr27 noB_le) i hi x))
 obtain ⟨B134, g135⟩ := hQ121
 replace B134 : Vpo w118 T130 v129 (optV ((plN W 0 : Nat) : Int) ((plN H 0 : Nat) : Int)) := B134
 replace g135 : Grew w62 noB T130 := g135
 have gr136 : Grew w0 noB T130 := Grew.new K67 g135
 have ap138 : Apart T130 (onB p8) := Apart.new g135 (onB_live B65.lt)
 have ap139 : Apart T130 (onB p22) := Apart.new g135 (onB_live B66.lt)
 cases hp120
 replace hY123 : Stc w118 p22 59 [v129, .pointer none, .pointer none, .pointer none, .pointer none, .pointer none] := hY123
 obtain ⟨s140, s141, s142, s143, s144, s145, s146, s147, s148⟩ := t9 hF127 33 s103 1 s104 2 s105 3 s106 8 s107 4 s108 5 s109 6 s110 17 s111
 clear hF127 hV126 hA125 hN124 hG122
 refine in_normal (then_normal (wq_region (wl_v (iv ((1 : Nat) : Int)) rfl rfl (y_add rfl s148 rfl (i64_n (by omega) (by omega)) rr) (wl_v (iv ((1 : Nat) : Int)) rfl rfl (y_mov rfl rfl rr) (wl_nil fun F149 hF150 => ?_)))))
 obtain ⟨s151, s152, s153, s154, s155, s156, s157, s158⟩ := t8 hF150 33 s140 1 s141 2 s142 3 s143 8 s144 4 s145 5 s146 6 s147
 have s159 : F149 17 = iv ((1 : Nat) : Int) := (hF150 17).trans rfl
 clear hF150
 refine then_normal (wqr_step (wq_seq (wq_region (wl_v (.bool true) rfl rfl (y_lss rfl s159 rfl rfl rr) (wl_nil fun F160 hF161 => ?_)))))
 obtain ⟨s162, s163, s164, s165, s166, s167, s168, s169, s170⟩ := t9 hF161 33 s151 1 s152 2 s153 3 s154 8 s155 4 s156 5 s157 6 s158 17 s159
 have s171 : F160 18 = .bool true := (hF161 18).trans rfl
 clear hF161
 refine then_normal (wq_seq ?_)
 refine wq_cond (t := true) s171 (fun _ => ?_) (fun e => by cases e)
 refine wq_skip (then_normal (wq_seq (wq_block (wq_seq (wq_region (wl_mv rfl rfl rfl s170 (wl_v (iv ((1 : Nat) : Int)) rfl rfl (y_asg rfl rfl rr) (wl_nil fun F172 hF173 => ?_))))))))
 obtain ⟨s174, s175, s176, s177, s178, s179, s180, s181, s182⟩ := t9 hF173 33 s162 1 s163 2 s164 3 s165 8 s166 4 s167 5 s168 6 s169 17 s170
 have s183 : F172 7 = iv ((1 : Nat) : Int) := (hF173 7).trans rfl
 clear hF173
 refine then_normal ?_
 refine wq_cas (γ := Value × (Nat → Prop)) [(5, 4), (6, 4), (7, 4), (9, 4), (10, 4)] [some 21, some 22, some 23, some 24, some 25, some 20, some 26, some 27, some 28, some 29, none] ⟨fun w_ => True, fun _ => False, fun g_ w_ => (Vpo w_ (g_.2) (g_.1) (optV ((plN W 0 : Nat) : Int) ((plN H 0 : Nat) : Int)) ∧ Grew w118 noB (g_.2)), fun g_ => (g_.2), fun p_ w_ => Stc w_ p_ 59 [v129, .pointer none, .pointer none, .pointer none, .pointer none, .pointer none], fun g_ p_ w_ => Stc w_ p_ 59 [v129, g_.1, .pointer none, .pointer none, .pointer none, .pointer none]⟩ (onB p22) (fun p_ => p22 = p_) [fun g_ => iv 0, fun g_ => iv ((1 : Nat) : Int), fun g_ => iv ((plN W 0 : Nat) : Int), fun g_ => iv ((plN H 0 : Nat) : Int), fun g_ => .tuple #[g_.1, iv (newVE ((plN W 0 : Nat) : Int) ((plN H 0 : Nat) : Int))], fun g_ => .tuple #[g_.1, iv (newVE ((plN W 0 : Nat) : Int) ((plN H 0 : Nat) : Int))], fun g_ => g_.1, fun g_ => iv (newVE ((plN W 0 : Nat) : Int) ((plN H 0 : Nat) : Int)), fun g_ => pt p22 0, fun g_ => pt p22 1, fun _ => undef] 4 10 none (undef, noB) p22 (by kernel_rfl) (by kernel_rfl) (by kernel_rfl) (by kernel_rfl) ⟨.inr (.inr fun _ _ => rfl), ⟨.inr (.inr fun _ _ => rfl), ⟨.inr (.inr fun _ _ => rfl), ⟨.inr (.inr fun _ _ => rfl), ⟨.inr (.inl rfl), ⟨.inl rfl, ⟨.inl rfl, ⟨.inl rfl, ⟨.inr (.inr fun _ _ => rfl), ⟨.inl rfl, ⟨.inl rfl, trivial⟩⟩⟩⟩⟩⟩⟩⟩⟩⟩⟩ ⟨trivial, fun _ _ _ _ _ _ => trivial, fun _ _ _ z => z.elim, fun g w w1 S1 h k a => by obtain ⟨b0_, g0_⟩ := h; exact ⟨b0_.all k (fun i z => a i z), g0_⟩, fun g w h i z => by obtain ⟨b0_, g0_⟩ := h; exact b0_.live i z, fun _ _ _ _ h k z => h.all k z, fun _ _ h => h.lt, fun _ _ _ _ _ h k z => h.all k z, fun _ z => z.elim, fun _ h => .inl h.symm, fun _ _ z => z⟩ (fun _ e => by cases e) (fun _ => ⟨rfl, hY123⟩) ?_ ?_
 ·refine stepsFX_cons ?_ ?_
  ·refine StepFX.one rfl rfl rfl rfl fun g_ p_ F_ w_ hR hout hD => ?_
   exact (y_mov rfl ((hout 4 rfl (by decide)).trans s179) ⟨rfl, Kept.refl _ _⟩)
  refine stepsFX_cons ?_ ?_
  ·refine StepFX.one rfl rfl rfl rfl fun g_ p_ F_ w_ hR hout hD => ?_
   exact (y_mov rfl ((hout 7 rfl (by decide)).trans s183) ⟨rfl, Kept.refl _ _⟩)
  refine stepsFX_cons ?_ ?_
  ·refine StepFX.one rfl rfl rfl rfl fun g_ p_ F_ w_ hR hout hD => ?_
   exact (y_mov rfl ((hout 5 rfl (by decide)).trans s180) ⟨rfl, Kept.refl _ _⟩)
  refine stepsFX_cons ?_ ?_
  ·refine StepFX.one rfl rfl rfl rfl fun g_ p_ F_ w_ hR hout hD => ?_
   exact (y_mov rfl ((hout 6 rfl (by decide)).trans s181) ⟨rfl, Kept.refl _ _⟩)
  refine stepsFX_cons ?_ ?_
  ·refine StepFX.call rfl rfl rfl rfl fun g_ p_ F_ w_ hR hout hD hP_ => ?_
   have g23 : F_ 23 = iv ((plN W 0 : Nat) : Int) := (hD.get 0 rfl rfl rfl).2 (by decide)
   have g24 : F_ 24 = iv ((plN H 0 : Nat) : Int) := (hD.get 1 rfl rfl rfl).2 (by decide)
   exact (y_cs rfl rfl rfl (fun _ _ => by kernel_rfl) (ev_func _) (vsC g23 (vsC g24 vsN)) (vt_new ((plN W 0 : Nat) : Int) ((plN H 0 : Nat) : Int)  _   ) (fun e_ w_ h_ => by obtain ⟨x0_, x1_, he_, hk_, ⟨b0_, g0_⟩⟩ := h_; exact ⟨_, he_, ⟨x0_, x1_⟩, rfl, hk_, ⟨b0_, (Grew.refl w118 _).trans hR g0_⟩, fun b hb => (g0_ b hb).elim (fun z => z.elim) .inr⟩))
  refine stepsFX_cons ?_ ?_
  ·refine StepFX.one rfl rfl rfl rfl fun g_ p_ F_ w_ hR hout hD => ?_
   have g25 : F_ 25 = .tuple #[g_.1, iv (newVE ((plN W 0 : Nat) : Int) ((plN H 0 : Nat) : Int))] := (hD.get 0 rfl rfl rfl).2 (by decide)
   exact (y_mov rfl g25 ⟨rfl, Kept.refl _ _⟩)
  refine stepsFX_cons ?_ ?_
  ·refine StepFX.one rfl rfl rfl rfl fun g_ p_ F_ w_ hR hout hD => ?_
   have g20 : F_ 20 = .tuple #[g_.1, iv (newVE ((plN W 0 : Nat) : Int) ((plN H 0 : Nat) : Int))] := (hD.get 0 rfl rfl rfl).2 (by decide)
   exact (y_ext rfl g20 rfl ⟨rfl, Kept.refl _ _⟩)
  refine stepsFX_cons ?_ ?_
  ·refine StepFX.one rfl rfl rfl rfl fun g_ p_ F_ w_ hR hout hD => ?_
   have g20 : F_ 20 = .tuple #[g_.1, iv (newVE ((plN W 0 : Nat) : Int) ((plN H 0 : Nat) : Int))] := (hD.get 0 rfl rfl rfl).2 (by decide)
   exact (y_ext rfl g20 rfl ⟨rfl, Kept.refl _ _⟩)
  refine stepsFX_cons ?_ ?_
  ·refine StepFX.one rfl rfl rfl rfl fun g_ p_ F_ w_ hR hout hD => ?_
   have g21 : F_ 21 = iv 0 := (hD.get 0 rfl rfl rfl).2 (by decide)
   exact (y_atR 0 (s := 2) rfl ((hout 3 rfl (by decide)).trans s177) g21 (by omega) Tryz.underlying59 (by omega) (by kernel_rfl) (by omega) ⟨rfl, Kept.refl _ _⟩)
  refine stepsFX_cons ?_ ?_
  ·refine StepFX.one rfl rfl rfl rfl fun g_ p_ F_ w_ hR hout hD => ?_
   have g28 : F_ 28 = pt p22 0 := (hD.get 0 rfl rfl rfl).2 (by decide)
   have g22 : F_ 22 = iv ((1 : Nat) : Int) := (hD.get 1 rfl rfl rfl).2 (by decide)
   exact (y_atR 1 (s := 1) rfl g28 g22 (by omega) Tryz.underlying58 (by omega) (by kernel_rfl) (by omega) ⟨rfl, Kept.refl _ _⟩)
  refine stepsFX_cons ?_ ?_
  ·refine StepFX.store rfl rfl rfl rfl fun g_ p_ F_ w_ hR hout hD hO_ hZ_ hQ_ => ?_
   subst hO_
   have g29 : F_ 29 = pt p22 1 := (hD.get 0 rfl rfl rfl).2 (by decide)
   have g26 : F_ 26 = g_.1 := (hD.get 1 rfl rfl rfl).2 (by decide)
   exact y_setStc rfl g29 g26 hZ_ rfl (hQ_.1).oneC (by kernel_rfl) fun w2_ b_ k_ => ⟨rfl, k_, b_⟩
  exact stepsFX_nil
 intro gg185 p186 v187 F188 w189 k190 hp191 hQ192 hG193 hY194 hN195 hA196 hV197 hF198
 obtain ⟨v200, T201⟩ := gg185
 have B202 := B131.all k190 (ap28.symm p1 rfl)
 have B203 := B132.all k190 (ap29.symm p8 rfl)
 have B204 := B134.all k190 ap139
 have K205 := K133.trans k190 (fun i hi x => ((Grew.ok (S := fun _ => False) gr27 noB_le) i hi x))
 obtain ⟨B206, g207⟩ := hQ192
 replace B206 : Vpo w189 T201 v200 (optV ((plN W 0 : Nat) : Int) ((plN H 0 : Nat) : Int)) := B206
 replace g207 : Grew w118 noB T201 := g207
 have gr208 : Grew w0 noB T201 := Grew.new K133 g207
 have ap210 : Apart T201 (onB p8) := Apart.new g207 (onB_live B132.lt)
 have ap211 : Apart T201 (onB p22) := Apart.new g207 (onB_live hY123.lt)
 have ap212 : Apart T201 T130 := Apart.new g207 B134.live
 cases hp191
 replace hY194 : Stc w189 p22 59 [v129, v200, .pointer none, .pointer none, .pointer none, .pointer none] := hY194
 obtain ⟨s213, s214, s215, s216, s217, s221⟩ := t6 hF198 33 s174 1 s175 2 s176 3 s177 8 s178 17 s182
 clear hF198 hV197 hA196 hN195 hG193
 refine in_normal (then_normal (wq_region (wl_v (iv ((2 : Nat) : Int)) rfl rfl (y_add rfl s221 rfl (i64_n (by omega) (by omega)) rr) (wl_v (iv ((2 : Nat) : Int)) rfl rfl (y_mov rfl rfl rr) (wl_nil fun F222 hF223 => ?_)))))
 obtain ⟨s224, s225, s226, s227, s228⟩ := t5 hF223 33 s213 1 s214 2 s215 3 s216 8 s217
 have s232 : F222 17 = iv ((2 : Nat) : Int) := (hF223 17).trans rfl
 clear hF223
 refine then_normal (wqr_step (wq_seq (wq_region (wl_v (.bool false) rfl rfl (y_lss rfl s232 rfl rfl rr) (wl_nil fun F233 hF234 => ?_)))))
 obtain ⟨s235, s236, s237, s238, s239⟩ := t5 hF234 33 s224 1 s225 2 s226 3 s227 8 s228
 have s244 : F233 18 = .bool false := (hF234 18).trans rfl
 clear hF234
 refine then_normal (wq_seq ?_)
 refine wq_cond (t := false) s244 (fun e => by cases e) (fun _ => ?_)
 refine wq_exit (then_exit (then_exit (in_here (in_normal (then_normal (wq_region (wl_v (iv ((1 : Nat) : Int)) rfl rfl (y_add rfl s239 rfl (i64_n (by omega) (by omega)) rr) (wl_v (iv ((1 : Nat) : Int)) rfl rfl (y_mov rfl rfl rr) (wl_nil fun F245 hF246 => ?_)))))))))
 obtain ⟨s247, s248, s249, s250⟩ := t4 hF246 33 s235 1 s236 2 s237 3 s238
 have s251 : F245 8 = iv ((1 : Nat) : Int) := (hF246 8).trans rfl
 clear hF246
 refine then_normal (wqr_step (wq_seq (wq_region (wl_v (.bool true) rfl rfl (y_lss rfl s251 rfl rfl rr) (wl_nil fun F252 hF253 => ?_)))))
 obtain ⟨s254, s255, s256, s257, s258⟩ := t5 hF253 33 s247 1 s248 2 s249 3 s250 8 s251
 have s259 : F252 9 = .bool true := (hF253 9).trans rfl
 clear hF253
 refine then_normal (wq_seq ?_)
 refine wq_cond (t := true) s259 (fun _ => ?_) (fun e => by cases e)
 refine wq_skip (then_normal (wq_seq (wq_block (wq_seq (wq_region (wl_mv rfl rfl rfl s258 (wl_v (iv ((1 : Nat) : Int)) rfl rfl (y_asg rfl rfl rr) (wl_nil fun F260 hF261 => ?_))))))))
 obtain ⟨s262, s263, s264, s265, s266⟩ := t5 hF261 33 s254 1 s255 2 s256 3 s257 8 s258
 have s267 : F260 4 = iv ((1 : Nat) : Int) := (hF261 4).trans rfl
 clear hF261
 refine then_normal (wq_seq (wq_region (wl_v (.agg #[iv W, iv H, iv R, iv B]) rfl rfl (y_load_stc stcT_seq rfl s263 B202 rr) (wl_mv rfl rfl rfl s267 (wl_cs rfl rfl rfl rfl rfl (fun _ _ => by kernel_rfl) (vsC rfl (vsC rfl vsN)) (pc_across W H R B 1  _ (by assumption)  ) fun w268 k269 => ?_)))))
 have B270 := B202.all k269 id
 have B271 := B203.all k269 id
 have B272 := hY194.all k269 id
 have B273 := B204.all k269 Apart.none
 have B274 := B206.all k269 Apart.none
 have K275 := K205.tr k269
 refine wl_v (.tuple #[iv ((plN W 1 : Nat) : Int), iv ((plN H 1 : Nat) : Int)]) rfl rfl (y_mov rfl rfl rr) (wl_v (iv ((plN W 1 : Nat) : Int)) rfl rfl (y_ext rfl rfl rfl rr) (wl_v (iv ((plN H 1 : Nat) : Int)) rfl rfl (y_ext rfl rfl rfl rr) (wl_v (iv ((plN W 1 : Nat) : Int)) rfl rfl (y_asg rfl rfl rr) (wl_v (iv ((plN H 1 : Nat) : Int)) rfl rfl (y_asg rfl rfl rr) (wl_nil fun F276 hF277 => ?_)))))
 obtain ⟨s278, s279, s280, s281, s282, s283⟩ := t6 hF277 33 s262 1 s263 2 s264 3 s265 8 s266 4 s267
 have s284 : F276 5 = iv ((plN W 1 : Nat) : Int) := (hF277 5).trans rfl
 have s285 : F276 6 = iv ((plN H 1 : Nat) : Int) := (hF277 6).trans rfl
 clear hF277
 refine then_normal (wq_seq (wq_region (wl_v (iv 0) rfl rfl (y_mov rfl rfl rr) (wl_nil fun F286 hF287 => ?_))))
 obtain ⟨s288, s289, s290, s291, s292, s293, s294, s295⟩ := t8 hF287 33 s278 1 s279 2 s280 3 s281 8 s282 4 s283 5 s284 6 s285
 have s296 : F286 17 = iv 0 := (hF287 17).trans rfl
 clear hF287
 refine then_normal (wq_block (wq_rounds 3 (wqr_step (wq_seq (wq_region (wl_v (.bool true) rfl rfl (y_lss rfl s296 rfl rfl rr) (wl_nil fun F297 hF298 => ?_)))))))
 obtain ⟨s299, s300, s301, s302, s303, s304, s305, s306, s307⟩ := t9 hF298 33 s288 1 s289 2 s290 3 s291 8 s292 4 s293 5 s294 6 s295 17 s296
 have s308 : F297 18 = .bool true := (hF298 18).trans rfl
 clear hF298
 refine then_normal (wq_seq ?_)
 refine wq_cond (t := true) s308 (fun _ => ?_) (fun e => by cases e)
 refine wq_skip (then_normal (wq_seq (wq_block (wq_seq (wq_region (wl_mv rfl rfl rfl s307 (wl_v (iv 0) rfl rfl (y_asg rfl rfl rr) (wl_nil fun F309 hF310 => ?_))))))))
 obtain ⟨s311, s312, s313, s314, s315, s316, s317, s318, s319⟩ := t9 hF310 33 s299 1 s300 2 s301 3 s302 8 s303 4 s304 5 s305 6 s306 17 s307
 have s320 : F309 7 = iv 0 := (hF310 7).trans rfl
 clear hF310
 refine then_normal ?_
 refine wq_cas (γ := Value × (Nat → Prop)) [(5, 4), (6, 4), (7, 4), (9, 4), (10, 4)] [some 21, some 22, some 23, some 24, some 25, some 20, some 26, some 27, some 28, some 29, none] ⟨fun w_ => True, fun _ => False, fun g_ w_ => (Vpo w_ (g_.2) (g_.1) (optV ((plN W 1 : Nat) : Int) ((plN H 1 : Nat) : Int)) ∧ Grew w268 noB (g_.2)), fun g_ => (g_.2), fun p_ w_ => Stc w_ p_ 59 [v129, v200, .pointer none, .pointer none, .pointer none, .pointer none], fun g_ p_ w_ => Stc w_ p_ 59 [v129, v200, g_.1, .pointer none, .pointer none, .pointer none]⟩ (onB p22) (fun p_ => p22 = p_) [fun g_ => iv ((1 : Nat) : Int), fun g_ => iv 0, fun g_ => iv ((plN W 1 : Nat) : Int), fun g_ => iv ((plN H 1 : Nat) : Int), fun g_ => .tuple #[g_.1, iv (newVE ((plN W 1 : Nat) : Int) ((plN H 1 : Nat) : Int))], fun g_ => .tuple #[g_.1, iv (newVE ((plN W 1 : Nat) : Int) ((plN H 1 : Nat) : Int))], fun g_ => g_.1, fun g_ => iv (newVE ((plN W 1 : Nat) : Int) ((plN H 1 : Nat) : Int)), fun g_ => pt p22 2, fun g_ => pt p22 2, fun _ => undef] 4 10 none (undef, noB) p22 (by kernel_rfl) (by kernel_rfl) (by kernel_rfl) (by kernel_rfl) ⟨.inr (.inr fun _ _ => rfl), ⟨.inr (.inr fun _ _ => rfl), ⟨.inr (.inr fun _ _ => rfl), ⟨.inr (.inr fun _ _ => rfl), ⟨.inr (.inl rfl), ⟨.inl rfl, ⟨.inl rfl, ⟨.inl rfl, ⟨.inr (.inr fun _ _ => rfl), ⟨.inl rfl, ⟨.inl rfl, trivial⟩⟩⟩⟩⟩⟩⟩⟩⟩⟩⟩ ⟨trivial, fun _ _ _ _ _ _ => trivial, fun _ _ _ z => z.elim, fun g w w1 S1 h k a => by obtain ⟨b0_, g0_⟩ := h; exact ⟨b0_.all k (fun i z => a i z), g0_⟩, fun g w h i z => by obtain ⟨b0_, g0_⟩ := h; exact b0_.live i z, fun _ _ _ _ h k z => h.all k z, fun _ _ h => h.lt, fun _ _ _ _ _ h k z => h.all k z, fun _ z => z.elim, fun _ h => .inl h.symm, fun _ _ z => z⟩ (fun _ e => by cases e) (fun _ => ⟨rfl, B272⟩) ?_ ?_
 ·refine stepsFX_cons ?_ ?_
  ·refine StepFX.one rfl rfl rfl rfl fun g_ p_ F_ w_ hR hout hD => ?_
   exact (y_mov rfl ((hout 4 rfl (by decide)).trans s316) ⟨rfl, Kept.refl _ _⟩)
  refine stepsFX_cons ?_ ?_
  ·refine StepFX.one rfl rfl rfl rfl fun g_ p_ F_ w_ hR hout hD => ?_
   exact (y_mov rfl ((hout 7 rfl (by decide)).trans s320) ⟨rfl, Kept.refl _ _⟩)
  refine stepsFX_cons ?_ ?_
  ·refine StepFX.one rfl rfl rfl rfl fun g_ p_ F_ w_ hR hout hD => ?_
   exact (y_mov rfl ((hout 5 rfl (by decide)).trans s317) ⟨rfl, Kept.refl _ _⟩)
  refine stepsFX_cons ?_ ?_
  ·refine StepFX.one rfl rfl rfl rfl fun g_ p_ F_ w_ hR hout hD => ?_
   exact (y_mov rfl ((hout 6 rfl (by decide)).trans s318) ⟨rfl, Kept.refl _ _⟩)
  refine stepsFX_cons ?_ ?_
  ·refine StepFX.call rfl rfl rfl rfl fun g_ p_ F_ w_ hR hout hD hP_ => ?_
   have g23 : F_ 23 = iv ((plN W 1 : Nat) : Int) := (hD.get 0 rfl rfl rfl).2 (by decide)
   have g24 : F_ 24 = iv ((plN H 1 : Nat) : Int) := (hD.get 1 rfl rfl rfl).2 (by decide)
   exact (y_cs rfl rfl rfl (fun _ _ => by kernel_rfl) (ev_func _) (vsC g23 (vsC g24 vsN)) (vt_new ((plN W 1 : Nat) : Int) ((plN H 1 : Nat) : Int)  _   ) (fun e_ w_ h_ => by obtain ⟨x0_, x1_, he_, hk_, ⟨b0_, g0_⟩⟩ := h_; exact ⟨_, he_, ⟨x0_, x1_⟩, rfl, hk_, ⟨b0_, (Grew.refl w268 _).trans hR g0_⟩, fun b hb => (g0_ b hb).elim (fun z => z.elim) .inr⟩))
  refine stepsFX_cons ?_ ?_
  ·refine StepFX.one rfl rfl rfl rfl fun g_ p_ F_ w_ hR hout hD => ?_
   have g25 : F_ 25 = .tuple #[g_.1, iv (newVE ((plN W 1 : Nat) : Int) ((plN H 1 : Nat) : Int))] := (hD.get 0 rfl rfl rfl).2 (by decide)
   exact (y_mov rfl g25 ⟨rfl, Kept.refl _ _⟩)
  refine stepsFX_cons ?_ ?_
  ·refine StepFX.one rfl rfl rfl rfl fun g_ p_ F_ w_ hR hout hD => ?_
   have g20 : F_ 20 = .tuple #[g_.1, iv (newVE ((plN W 1 : Nat) : Int) ((plN H 1 : Nat) : Int))] := (hD.get 0 rfl rfl rfl).2 (by decide)
   exact (y_ext rfl g20 rfl ⟨rfl, Kept.refl _ _⟩)
  refine stepsFX_cons ?_ ?_
  ·refine StepFX.one rfl rfl rfl rfl fun g_ p_ F_ w_ hR hout hD => ?_
   have g20 : F_ 20 = .tuple #[g_.1, iv (newVE ((plN W 1 : Nat) : Int) ((plN H 1 : Nat) : Int))] := (hD.get 0 rfl rfl rfl).2 (by decide)
   exact (y_ext rfl g20 rfl ⟨rfl, Kept.refl _ _⟩)
  refine stepsFX_cons ?_ ?_
  ·refine StepFX.one rfl rfl rfl rfl fun g_ p_ F_ w_ hR hout hD => ?_
   have g21 : F_ 21 = iv ((1 : Nat) : Int) := (hD.get 0 rfl rfl rfl).2 (by decide)
   exact (y_atR 1 (s := 2) rfl ((hout 3 rfl (by decide)).trans s314) g21 (by omega) Tryz.underlying59 (by omega) (by kernel_rfl) (by omega) ⟨rfl, Kept.refl _ _⟩)
  refine stepsFX_cons ?_ ?_
  ·refine StepFX.one rfl rfl rfl rfl fun g_ p_ F_ w_ hR hout hD => ?_
   have g28 : F_ 28 = pt p22 2 := (hD.get 0 rfl rfl rfl).2 (by decide)
   have g22 : F_ 22 = iv 0 := (hD.get 1 rfl rfl rfl).2 (by decide)
   exact (y_atR 0 (s := 1) rfl g28 g22 (by omega) Tryz.underlying58 (by omega) (by kernel_rfl) (by omega) ⟨rfl, Kept.refl _ _⟩)
  refine stepsFX_cons ?_ ?_
  ·refine StepFX.store rfl rfl rfl rfl fun g_ p_ F_ w_ hR hout hD hO_ hZ_ hQ_ => ?_
   subst hO_
   have g29 : F_ 29 = pt p22 2 := (hD.get 0 rfl rfl rfl).2 (by decide)
   have g26 : F_ 26 = g_.1 := (hD.get 1 rfl rfl rfl).2 (by decide)
   exact y_setStc rfl g29 g26 hZ_ rfl (hQ_.1).oneC (by kernel_rfl) fun w2_ b_ k_ => ⟨rfl, k_, b_⟩
  exact stepsFX_nil
 intro gg322 p323 v324 F325 w326 k327 hp328 hQ329 hG330 hY331 hN332 hA333 hV334 hF335
 obtain ⟨v337, T338⟩ := gg322
 have B339 := B270.all k327 (ap28.symm p1 rfl)
 have B340 := B271.all k327 (ap29.symm p8 rfl)
 have B341 := B273.all k327 ap139
 have B342 := B274.all k327 ap211
 have K343 := K275.trans k327 (fun i hi x => ((Grew.ok (S := fun _ => False) gr27 noB_le) i hi x))
 obtain ⟨B344, g345⟩ := hQ329
 replace B344 : Vpo w326 T338 v337 (optV ((plN W 1 : Nat) : Int) ((plN H 1 : Nat) : Int)) := B344
 replace g345 : Grew w268 noB T338 := g345
 have gr346 : Grew w0 noB T338 := Grew.new K275 g345
 have ap348 : Apart T338 (onB p8) := Apart.new g345 (onB_live B271.lt)
 have ap349 : Apart T338 (onB p22) := Apart.new g345 (onB_live B272.lt)
 have ap350 : Apart T338 T130 := Apart.new g345 B273.live
 have ap351 : Apart T338 T201 := Apart.new g345 B274.live
 cases hp328
 replace hY331 : Stc w326 p22 59 [v129, v200, v337, .pointer none, .pointer none, .pointer none] := hY331
 obtain ⟨s352, s353, s354, s355, s356, s357, s358, s359, s360⟩ := t9 hF335 33 s311 1 s312 2 s313 3 s314 8 s315 4 s316 5 s317 6 s318 17 s319
 clear hF335 hV334 hA333 hN332 hG330
 refine in_normal (then_normal (wq_region (wl_v (iv ((1 : Nat) : Int)) rfl rfl (y_add rfl s360 rfl (i64_n (by omega) (by omega)) rr) (wl_v (iv ((1 : Nat) : Int)) rfl rfl (y_mov rfl rfl rr) (wl_nil fun F361 hF362 => ?_)))))
 obtain ⟨s363, s364, s365, s366, s367, s368, s369, s370⟩ := t8 hF362 33 s352 1 s353 2 s354 3 s355 8 s356 4 s357 5 s358 6 s359
 have s371 : F361 17 = iv ((1 : Nat) : Int) := (hF362 17).trans rfl
 clear hF362
 refine then_normal (wqr_step (wq_seq (wq_region (wl_v (.bool true) rfl rfl (y_lss rfl s371 rfl rfl rr) (wl_nil fun F372 hF373 => ?_)))))
 obtain ⟨s374, s375, s376, s377, s378, s379, s380, s381, s382⟩ := t9 hF373 33 s363 1 s364 2 s365 3 s366 8 s367 4 s368 5 s369 6 s370 17 s371
 have s383 : F372 18 = .bool true := (hF373 18).trans rfl
 clear hF373
 refine then_normal (wq_seq ?_)
 refine wq_cond (t := true) s383 (fun _ => ?_) (fun e => by cases e)
 refine wq_skip (then_normal (wq_seq (wq_block (wq_seq (wq_region (wl_mv rfl rfl rfl s382 (wl_v (iv ((1 : Nat) : Int)) rfl rfl (y_asg rfl rfl rr) (wl_nil fun F384 hF385 => ?_))))))))
 obtain ⟨s386, s387, s388, s389, s390, s391, s392, s393, s394⟩ := t9 hF385 33 s374 1 s375 2 s376 3 s377 8 s378 4 s379 5 s380 6 s381 17 s382
 have s395 : F384 7 = iv ((1 : Nat) : Int) := (hF385 7).trans rfl
 clear hF385
 refine then_normal ?_
 refine wq_cas (γ := Value × (Nat → Prop)) [(5, 4), (6, 4), (7, 4), (9, 4), (10, 4)] [some 21, some 22, some 23, some 24, some 25, some 20, some 26, some 27, some 28, some 29, none] ⟨fun w_ => True, fun _ => False, fun g_ w_ => (Vpo w_ (g_.2) (g_.1) (optV ((plN W 1 : Nat) : Int) ((plN H 1 : Nat) : Int)) ∧ Grew w326 noB (g_.2)), fun g_ => (g_.2), fun p_ w_ => Stc w_ p_ 59 [v129, v200, v337, .pointer none, .pointer none, .pointer none], fun g_ p_ w_ => Stc w_ p_ 59 [v129, v200, v337, g_.1, .pointer none, .pointer none]⟩ (onB p22) (fun p_ => p22 = p_) [fun g_ => iv ((1 : Nat) : Int), fun g_ => iv ((1 : Nat) : Int), fun g_ => iv ((plN W 1 : Nat) : Int), fun g_ => iv ((plN H 1 : Nat) : Int), fun g_ => .tuple #[g_.1, iv (newVE ((plN W 1 : Nat) : Int) ((plN H 1 : Nat) : Int))], fun g_ => .tuple #[g_.1, iv (newVE ((plN W 1 : Nat) : Int) ((plN H 1 : Nat) : Int))], fun g_ => g_.1, fun g_ => iv (newVE ((plN W 1 : Nat) : Int) ((plN H 1 : Nat) : Int)), fun g_ => pt p22 2, fun g_ => pt p22 3, fun _ => undef] 4 10 none (undef, noB) p22 (by kernel_rfl) (by kernel_rfl) (by kernel_rfl) (by kernel_rfl) ⟨.inr (.inr fun _ _ => rfl), ⟨.inr (.inr fun _ _ => rfl), ⟨.inr (.inr fun _ _ => rfl), ⟨.inr (.inr fun _ _ => rfl), ⟨.inr (.inl rfl), ⟨.inl rfl, ⟨.inl rfl, ⟨.inl rfl, ⟨.inr (.inr fun _ _ => rfl), ⟨.inl rfl, ⟨.inl rfl, trivial⟩⟩⟩⟩⟩⟩⟩⟩⟩⟩⟩ ⟨trivial, fun _ _ _ _ _ _ => trivial, fun _ _ _ z => z.elim, fun g w w1 S1 h k a => by obtain ⟨b0_, g0_⟩ := h; exact ⟨b0_.all k (fun i z => a i z), g0_⟩, fun g w h i z => by obtain ⟨b0_, g0_⟩ := h; exact b0_.live i z, fun _ _ _ _ h k z => h.all k z, fun _ _ h => h.lt, fun _ _ _ _ _ h k z => h.all k z, fun _ z => z.elim, fun _ h => .inl h.symm, fun _ _ z => z⟩ (fun _ e => by cases e) (fun _ => ⟨rfl, hY331⟩) ?_ ?_
 ·refine stepsFX_cons ?_ ?_
  ·refine StepFX.one rfl rfl rfl rfl fun g_ p_ F_ w_ hR hout hD => ?_
   exact (y_mov rfl ((hout 4 rfl (by decide)).trans s391) ⟨rfl, Kept.refl _ _⟩)
  refine stepsFX_cons ?_ ?_
  ·refine StepFX.one rfl rfl rfl rfl fun g_ p_ F_ w_ hR hout hD => ?_
   exact (y_mov rfl ((hout 7 rfl (by decide)).trans s395) ⟨rfl, Kept.refl _ _⟩)
  refine stepsFX_cons ?_ ?_
  ·refine StepFX.one rfl rfl rfl rfl fun g_ p_ F_ w_ hR hout hD => ?_
   exact (y_mov rfl ((hout 5 rfl (by decide)).trans s392) ⟨rfl, Kept.refl _ _⟩)
  refine stepsFX_cons ?_ ?_
  ·refine StepFX.one rfl rfl rfl rfl fun g_ p_ F_ w_ hR hout hD => ?_
   exact (y_mov rfl ((hout 6 rfl (by decide)).trans s393) ⟨rfl, Kept.refl _ _⟩)
  refine stepsFX_cons ?_ ?_
  ·refine StepFX.call rfl rfl rfl rfl fun g_ p_ F_ w_ hR hout hD hP_ => ?_
   have g23 : F_ 23 = iv ((plN W 1 : Nat) : Int) := (hD.get 0 rfl rfl rfl).2 (by decide)
   have g24 : F_ 24 = iv ((plN H 1 : Nat) : Int) := (hD.get 1 rfl rfl rfl).2 (by decide)
   exact (y_cs rfl rfl rfl (fun _ _ => by kernel_rfl) (ev_func _) (vsC g23 (vsC g24 vsN)) (vt_new ((plN W 1 : Nat) : Int) ((plN H 1 : Nat) : Int)  _   ) (fun e_ w_ h_ => by obtain ⟨x0_, x1_, he_, hk_, ⟨b0_, g0_⟩⟩ := h_; exact ⟨_, he_, ⟨x0_, x1_⟩, rfl, hk_, ⟨b0_, (Grew.refl w326 _).trans hR g0_⟩, fun b hb => (g0_ b hb).elim (fun z => z.elim) .inr⟩))
  refine stepsFX_cons ?_ ?_
  ·refine StepFX.one rfl rfl rfl rfl fun g_ p_ F_ w_ hR hout hD => ?_
   have g25 : F_ 25 = .tuple #[g_.1, iv (newVE ((plN W 1 : Nat) : Int) ((plN H 1 : Nat) : Int))] := (hD.get 0 rfl rfl rfl).2 (by decide)
   exact (y_mov rfl g25 ⟨rfl, Kept.refl _ _⟩)
  refine stepsFX_cons ?_ ?_
  ·refine StepFX.one rfl rfl rfl rfl fun g_ p_ F_ w_ hR hout hD => ?_
   have g20 : F_ 20 = .tuple #[g_.1, iv (newVE ((plN W 1 : Nat) : Int) ((plN H 1 : Nat) : Int))] := (hD.get 0 rfl rfl rfl).2 (by decide)
   exact (y_ext rfl g20 rfl ⟨rfl, Kept.refl _ _⟩)
  refine stepsFX_cons ?_ ?_
  ·refine StepFX.one rfl rfl rfl rfl fun g_ p_ F_ w_ hR hout hD => ?_
   have g20 : F_ 20 = .tuple #[g_.1, iv (newVE ((plN W 1 : Nat) : Int) ((plN H 1 : Nat) : Int))] := (hD.get 0 rfl rfl rfl).2 (by decide)
   exact (y_ext rfl g20 rfl ⟨rfl, Kept.refl _ _⟩)
  refine stepsFX_cons ?_ ?_
  ·refine StepFX.one rfl rfl rfl rfl fun g_ p_ F_ w_ hR hout hD => ?_
   have g21 : F_ 21 = iv ((1 : Nat) : Int) := (hD.get 0 rfl rfl rfl).2 (by decide)
   exact (y_atR 1 (s := 2) rfl ((hout 3 rfl (by decide)).trans s389) g21 (by omega) Tryz.underlying59 (by omega) (by kernel_rfl) (by omega) ⟨rfl, Kept.refl _ _⟩)
  refine stepsFX_cons ?_ ?_
  ·refine StepFX.one rfl rfl rfl rfl fun g_ p_ F_ w_ hR hout hD => ?_
   have g28 : F_ 28 = pt p22 2 := (hD.get 0 rfl rfl rfl).2 (by decide)
   have g22 : F_ 22 = iv ((1 : Nat) : Int) := (hD.get 1 rfl rfl rfl).2 (by decide)
   exact (y_atR 1 (s := 1) rfl g28 g22 (by omega) Tryz.underlying58 (by omega) (by kernel_rfl) (by omega) ⟨rfl, Kept.refl _ _⟩)
  refine stepsFX_cons ?_ ?_
  ·refine StepFX.store rfl rfl rfl rfl fun g_ p_ F_ w_ hR hout hD hO_ hZ_ hQ_ => ?_
   subst hO_
   have g29 : F_ 29 = pt p22 3 := (hD.get 0 rfl rfl rfl).2 (by decide)
   have g26 : F_ 26 = g_.1 := (hD.get 1 rfl rfl rfl).2 (by decide)
   exact y_setStc rfl g29 g26 hZ_ rfl (hQ_.1).oneC (by kernel_rfl) fun w2_ b_ k_ => ⟨rfl, k_, b_⟩
  exact stepsFX_nil
 intro gg397 p398 v399 F400 w401 k402 hp403 hQ404 hG405 hY406 hN407 hA408 hV409 hF410
 obtain ⟨v412, T413⟩ := gg397
 have B414 := B339.all k402 (ap28.symm p1 rfl)
 have B415 := B340.all k402 (ap29.symm p8 rfl)
 have B416 := B341.all k402 ap139
 have B417 := B342.all k402 ap211
 have B418 := B344.all k402 ap349
 have K419 := K343.trans k402 (fun i hi x => ((Grew.ok (S := fun _ => False) gr27 noB_le) i hi x))
 obtain ⟨B420, g421⟩ := hQ404
 replace B420 : Vpo w401 T413 v412 (optV ((plN W 1 : Nat) : Int) ((plN H 1 : Nat) : Int)) := B420
 replace g421 : Grew w326 noB T413 := g421
 have gr422 : Grew w0 noB T413 := Grew.new K343 g421
 have ap424 : Apart T413 (onB p8) := Apart.new g421 (onB_live B340.lt)
 have ap425 : Apart T413 (onB p22) := Apart.new g421 (onB_live hY331.lt)
 have ap426 : Apart T413 T130 := Apart.new g421 B341.live
 have ap427 : Apart T413 T201 := Apart.new g421 B342.live
 have ap428 : Apart T413 T338 := Apart.new g421 B344.live
 cases hp403
 replace hY406 : Stc w401 p22 59 [v129, v200, v337, v412, .pointer none, .pointer none] := hY406
 obtain ⟨s429, s430, s431, s432, s433, s437⟩ := t6 hF410 33 s386 1 s387 2 s388 3 s389 8 s390 17 s394
 clear hF410 hV409 hA408 hN407 hG405
 refine in_normal (then_normal (wq_region (wl_v (iv ((2 : Nat) : Int)) rfl rfl (y_add rfl s437 rfl (i64_n (by omega) (by omega)) rr) (wl_v (iv ((2 : Nat) : Int)) rfl rfl (y_mov rfl rfl rr) (wl_nil fun F438 hF439 => ?_)))))
 obtain ⟨s440, s441, s442, s443, s444⟩ := t5 hF439 33 s429 1 s430 2 s431 3 s432 8 s433
 have s448 : F438 17 = iv ((2 : Nat) : Int) := (hF439 17).trans rfl
 clear hF439
 refine then_normal (wqr_step (wq_seq (wq_region (wl_v (.bool false) rfl rfl (y_lss rfl s448 rfl rfl rr) (wl_nil fun F449 hF450 => ?_)))))
 obtain ⟨s451, s452, s453, s454, s455⟩ := t5 hF450 33 s440 1 s441 2 s442 3 s443 8 s444
 have s460 : F449 18 = .bool false := (hF450 18).trans rfl
 clear hF450
 refine then_normal (wq_seq ?_)
 refine wq_cond (t := false) s460 (fun e => by cases e) (fun _ => ?_)
 refine wq_exit (then_exit (then_exit (in_here (in_normal (then_normal (wq_region (wl_v (iv ((2 : Nat) : Int)) rfl rfl (y_add rfl s455 rfl (i64_n (by omega) (by omega)) rr) (wl_v (iv ((2 : Nat) : Int)) rfl rfl (y_mov rfl rfl rr) (wl_nil fun F461 hF462 => ?_)))))))))
 obtain ⟨s463, s464, s465, s466⟩ := t4 hF462 33 s451 1 s452 2 s453 3 s454
 have s467 : F461 8 = iv ((2 : Nat) : Int) := (hF462 8).trans rfl
 clear hF462
 refine then_normal (wqr_step (wq_seq (wq_region (wl_v (.bool true) rfl rfl (y_lss rfl s467 rfl rfl rr) (wl_nil fun F468 hF469 => ?_)))))
 obtain ⟨s470, s471, s472, s473, s474⟩ := t5 hF469 33 s463 1 s464 2 s465 3 s466 8 s467
 have s475 : F468 9 = .bool true := (hF469 9).trans rfl
 clear hF469
 refine then_normal (wq_seq ?_)
 refine wq_cond (t := true) s475 (fun _ => ?_) (fun e => by cases e)
 refine wq_skip (then_normal (wq_seq (wq_block (wq_seq (wq_region (wl_mv rfl rfl rfl s474 (wl_v (iv ((2 : Nat) : Int)) rfl rfl (y_asg rfl rfl rr) (wl_nil fun F476 hF477 => ?_))))))))
 obtain ⟨s478, s479, s480, s481, s482⟩ := t5 hF477 33 s470 1 s471 2 s472 3 s473 8 s474
 have s483 : F476 4 = iv ((2 : Nat) : Int) := (hF477 4).trans rfl
 clear hF477
 refine then_normal (wq_seq (wq_region (wl_v (.agg #[iv W, iv H, iv R, iv B]) rfl rfl (y_load_stc stcT_seq rfl s479 B414 rr) (wl_mv rfl rfl rfl s483 (wl_cs rfl rfl rfl rfl rfl (fun _ _ => by kernel_rfl) (vsC rfl (vsC rfl vsN)) (pc_across W H R B 2  _ (by assumption)  ) fun w484 k485 => ?_)))))
 have B487 := B415.all k485 id
 have B488 := hY406.all k485 id
 have B489 := B416.all k485 Apart.none
 have B490 := B417.all k485 Apart.none
 have B491 := B418.all k485 Apart.none
 have B492 := B420.all k485 Apart.none
 have K493 := K419.tr k485
 refine wl_v (.tuple #[iv ((plN W 2 : Nat) : Int), iv ((plN H 2 : Nat) : Int)]) rfl rfl (y_mov rfl rfl rr) (wl_v (iv ((plN W 2 : Nat) : Int)) rfl rfl (y_ext rfl rfl rfl rr) (wl_v (iv ((plN H 2 : Nat) : Int)) rfl rfl (y_ext rfl rfl rfl rr) (wl_v (iv ((plN W 2 : Nat) : Int)) rfl rfl (y_asg rfl rfl rr) (wl_v (iv ((plN H 2 : Nat) : Int)) rfl rfl (y_asg rfl rfl rr) (wl_nil fun F494 hF495 => ?_)))))
 obtain ⟨s496, s498, s499, s500, s501⟩ := t5 hF495 33 s478 2 s480 3 s481 8 s482 4 s483
 have s502 : F494 5 = iv ((plN W 2 : Nat) : Int) := (hF495 5).trans rfl
 have s503 : F494 6 = iv ((plN H 2 : Nat) : Int) := (hF495 6).trans rfl
 clear hF495
 refine then_normal (wq_seq (wq_region (wl_v (iv 0) rfl rfl (y_mov rfl rfl rr) (wl_nil fun F504 hF505 => ?_))))
 obtain ⟨s506, s508, s509, s510, s511, s512, s513⟩ := t7 hF505 33 s496 2 s498 3 s499 8 s500 4 s501 5 s502 6 s503
 have s514 : F504 17 = iv 0 := (hF505 17).trans rfl
 clear hF505
 refine then_normal (wq_block (wq_rounds 3 (wqr_step (wq_seq (wq_region (wl_v (.bool true) rfl rfl (y_lss rfl s514 rfl rfl rr) (wl_nil fun F515 hF516 => ?_)))))))
 obtain ⟨s517, s519, s520, s521, s522, s523, s524, s525⟩ := t8 hF516 33 s506 2 s508 3 s509 8 s510 4 s511 5 s512 6 s513 17 s514
 have s526 : F515 18 = .bool true := (hF516 18).trans rfl
 clear hF516
 refine then_normal (wq_seq ?_)
 refine wq_cond (t := true) s526 (fun _ => ?_) (fun e => by cases e)
 refine wq_skip (then_normal (wq_seq (wq_block (wq_seq (wq_region (wl_mv rfl rfl rfl s525 (wl_v (iv 0) rfl rfl (y_asg rfl rfl rr) (wl_nil fun F527 hF528 => ?_))))))))
 obtain ⟨s529, s531, s532, s533, s534, s535, s536, s537⟩ := t8 hF528 33 s517 2 s519 3 s520 8 s521 4 s522 5 s523 6 s524 17 s525
 have s538 : F527 7 = iv 0 := (hF528 7).trans rfl
 clear hF528
 refine then_normal ?_
 refine wq_cas (γ := Value × (Nat → Prop)) [(5, 4), (6, 4), (7, 4), (9, 4), (10, 4)] [some 21, some 22, some 23, some 24, some 25, some 20, some 26, some 27, some 28, some 29, none] ⟨fun w_ => True, fun _ => False, fun g_ w_ => (Vpo w_ (g_.2) (g_.1) (optV ((plN W 2 : Nat) : Int) ((plN H 2 : Nat) : Int)) ∧ Grew w484 noB (g_.2)), fun g_ => (g_.2), fun p_ w_ => Stc w_ p_ 59 [v129, v200, v337, v412, .pointer none, .pointer none], fun g_ p_ w_ => Stc w_ p_ 59 [v129, v200, v337, v412, g_.1, .pointer none]⟩ (onB p22) (fun p_ => p22 = p_) [fun g_ => iv ((2 : Nat) : Int), fun g_ => iv 0, fun g_ => iv ((plN W 2 : Nat) : Int), fun g_ => iv ((plN H 2 : Nat) : Int), fun g_ => .tuple #[g_.1, iv (newVE ((plN W 2 : Nat) : Int) ((plN H 2 : Nat) : Int))], fun g_ => .tuple #[g_.1, iv (newVE ((plN W 2 : Nat) : Int) ((plN H 2 : Nat) : Int))], fun g_ => g_.1, fun g_ => iv (newVE ((plN W 2 : Nat) : Int) ((plN H 2 : Nat) : Int)), fun g_ => pt p22 4, fun g_ => pt p22 4, fun _ => undef] 4 10 none (undef, noB) p22 (by kernel_rfl) (by kernel_rfl) (by kernel_rfl) (by kernel_rfl) ⟨.inr (.inr fun _ _ => rfl), ⟨.inr (.inr fun _ _ => rfl), ⟨.inr (.inr fun _ _ => rfl), ⟨.inr (.inr fun _ _ => rfl), ⟨.inr (.inl rfl), ⟨.inl rfl, ⟨.inl rfl, ⟨.inl rfl, ⟨.inr (.inr fun _ _ => rfl), ⟨.inl rfl, ⟨.inl rfl, trivial⟩⟩⟩⟩⟩⟩⟩⟩⟩⟩⟩ ⟨trivial, fun _ _ _ _ _ _ => trivial, fun _ _ _ z => z.elim, fun g w w1 S1 h k a => by obtain ⟨b0_, g0_⟩ := h; exact ⟨b0_.all k (fun i z => a i z), g0_⟩, fun g w h i z => by obtain ⟨b0_, g0_⟩ := h; exact b0_.live i z, fun _ _ _ _ h k z => h.all k z, fun _ _ h => h.lt, fun _ _ _ _ _ h k z => h.all k z, fun _ z => z.elim, fun _ h => .inl h.symm, fun _ _ z => z⟩ (fun _ e => by cases e) (fun _ => ⟨rfl, B488⟩) ?_ ?_
 ·refine stepsFX_cons ?_ ?_
  ·refine StepFX.one rfl rfl rfl rfl fun g_ p_ F_ w_ hR hout hD => ?_
   exact (y_mov rfl ((hout 4 rfl (by decide)).trans s534) ⟨rfl, Kept.refl _ _⟩)
  refine stepsFX_cons ?_ ?_
  ·refine StepFX.one rfl rfl rfl rfl fun g_ p_ F_ w_ hR hout hD => ?_
   exact (y_mov rfl ((hout 7 rfl (by decide)).trans s538) ⟨rfl, Kept.refl _ _⟩)
  refine stepsFX_cons ?_ ?_
  ·refine StepFX.one rfl rfl rfl rfl fun g_ p_ F_ w_ hR hout hD => ?_
   exact (y_mov rfl ((hout 5 rfl (by decide)).trans s535) ⟨rfl, Kept.refl _ _⟩)
  refine stepsFX_cons ?_ ?_
  ·refine StepFX.one rfl rfl rfl rfl fun g_ p_ F_ w_ hR hout hD => ?_
   exact (y_mov rfl ((hout 6 rfl (by decide)).trans s536) ⟨rfl, Kept.refl _ _⟩)
  refine stepsFX_cons ?_ ?_
  ·refine StepFX.call rfl rfl rfl rfl fun g_ p_ F_ w_ hR hout hD hP_ => ?_
   have g23 : F_ 23 = iv ((plN W 2 : Nat) : Int) := (hD.get 0 rfl rfl rfl).2 (by decide)
   have g24 : F_ 24 = iv ((plN H 2 : Nat) : Int) := (hD.get 1 rfl rfl rfl).2 (by decide)
   exact (y_cs rfl rfl rfl (fun _ _ => by kernel_rfl) (ev_func _) (vsC g23 (vsC g24 vsN)) (vt_new ((plN W 2 : Nat) : Int) ((plN H 2 : Nat) : Int)  _   ) (fun e_ w_ h_ => by obtain ⟨x0_, x1_, he_, hk_, ⟨b0_, g0_⟩⟩ := h_; exact ⟨_, he_, ⟨x0_, x1_⟩, rfl, hk_, ⟨b0_, (Grew.refl w484 _).trans hR g0_⟩, fun b hb => (g0_ b hb).elim (fun z => z.elim) .inr⟩))
  refine stepsFX_cons ?_ ?_
  ·refine StepFX.one rfl rfl rfl rfl fun g_ p_ F_ w_ hR hout hD => ?_
   have g25 : F_ 25 = .tuple #[g_.1, iv (newVE ((plN W 2 : Nat) : Int) ((plN H 2 : Nat) : Int))] := (hD.get 0 rfl rfl rfl).2 (by decide)
   exact (y_mov rfl g25 ⟨rfl, Kept.refl _ _⟩)
  refine stepsFX_cons ?_ ?_
  ·refine StepFX.one rfl rfl rfl rfl fun g_ p_ F_ w_ hR hout hD => ?_
   have g20 : F_ 20 = .tuple #[g_.1, iv (newVE ((plN W 2 : Nat) : Int) ((plN H 2 : Nat) : Int))] := (hD.get 0 rfl rfl rfl).2 (by decide)
   exact (y_ext rfl g20 rfl ⟨rfl, Kept.refl _ _⟩)
  refine stepsFX_cons ?_ ?_
  ·refine StepFX.one rfl rfl rfl rfl fun g_ p_ F_ w_ hR hout hD => ?_
   have g20 : F_ 20 = .tuple #[g_.1, iv (newVE ((plN W 2 : Nat) : Int) ((plN H 2 : Nat) : Int))] := (hD.get 0 rfl rfl rfl).2 (by decide)
   exact (y_ext rfl g20 rfl ⟨rfl, Kept.refl _ _⟩)
  refine stepsFX_cons ?_ ?_
  ·refine StepFX.one rfl rfl rfl rfl fun g_ p_ F_ w_ hR hout hD => ?_
   have g21 : F_ 21 = iv ((2 : Nat) : Int) := (hD.get 0 rfl rfl rfl).2 (by decide)
   exact (y_atR 2 (s := 2) rfl ((hout 3 rfl (by decide)).trans s532) g21 (by omega) Tryz.underlying59 (by omega) (by kernel_rfl) (by omega) ⟨rfl, Kept.refl _ _⟩)
  refine stepsFX_cons ?_ ?_
  ·refine StepFX.one rfl rfl rfl rfl fun g_ p_ F_ w_ hR hout hD => ?_
   have g28 : F_ 28 = pt p22 4 := (hD.get 0 rfl rfl rfl).2 (by decide)
   have g22 : F_ 22 = iv 0 := (hD.get 1 rfl rfl rfl).2 (by decide)
   exact (y_atR 0 (s := 1) rfl g28 g22 (by omega) Tryz.underlying58 (by omega) (by kernel_rfl) (by omega) ⟨rfl, Kept.refl _ _⟩)
  refine stepsFX_cons ?_ ?_
  ·refine StepFX.store rfl rfl rfl rfl fun g_ p_ F_ w_ hR hout hD hO_ hZ_ hQ_ => ?_
   subst hO_
   have g29 : F_ 29 = pt p22 4 := (hD.get 0 rfl rfl rfl).2 (by decide)
   have g26 : F_ 26 = g_.1 := (hD.get 1 rfl rfl rfl).2 (by decide)
   exact y_setStc rfl g29 g26 hZ_ rfl (hQ_.1).oneC (by kernel_rfl) fun w2_ b_ k_ => ⟨rfl, k_, b_⟩
  exact stepsFX_nil
 intro gg540 p541 v542 F543 w544 k545 hp546 hQ547 hG548 hY549 hN550 hA551 hV552 hF553
 obtain ⟨v555, T556⟩ := gg540
 have B558 := B487.all k545 (ap29.symm p8 rfl)
 have B559 := B489.all k545 ap139
 have B560 := B490.all k545 ap211
 have B561 := B491.all k545 ap349
 have B562 := B492.all k545 ap425
 have K563 := K493.trans k545 (fun i hi x => ((Grew.ok (S := fun _ => False) gr27 noB_le) i hi x))
 obtain ⟨B564, g565⟩ := hQ547
 replace B564 : Vpo w544 T556 v555 (optV ((plN W 2 : Nat) : Int) ((plN H 2 : Nat) : Int)) := B564
 replace g565 : Grew w484 noB T556 := g565
 have gr566 : Grew w0 noB T556 := Grew.new K493 g565
 have ap568 : Apart T556 (onB p8) := Apart.new g565 (onB_live B487.lt)
 have ap569 : Apart T556 (onB p22) := Apart.new g565 (onB_live B488.lt)
 have ap570 : Apart T556 T130 := Apart.new g565 B489.live
 have ap571 : Apart T556 T201 := Apart.new g565 B490.live
 have ap572 : Apart T556 T338 := Apart.new g565 B491.live
 have ap573 : Apart T556 T413 := Apart.new g565 B492.live
 cases hp546
 replace hY549 : Stc w544 p22 59 [v129, v200, v337, v412, v555, .pointer none] := hY549
 obtain ⟨s574, s576, s577, s578, s579, s580, s581, s582⟩ := t8 hF553 33 s529 2 s531 3 s532 8 s533 4 s534 5 s535 6 s536 17 s537
 clear hF553 hV552 hA551 hN550 hG548
 refine in_normal (then_normal (wq_region (wl_v (iv ((1 : Nat) : Int)) rfl rfl (y_add rfl s582 rfl (i64_n (by omega) (by omega)) rr) (wl_v (iv ((1 : Nat) : Int)) rfl rfl (y_mov rfl rfl rr) (wl_nil fun F583 hF584 => ?_)))))
 obtain ⟨s585, s587, s588, s589, s590, s591, s592⟩ := t7 hF584 33 s574 2 s576 3 s577 8 s578 4 s579 5 s580 6 s581
 have s593 : F583 17 = iv ((1 : Nat) : Int) := (hF584 17).trans rfl
 clear hF584
 refine then_normal (wqr_step (wq_seq (wq_region (wl_v (.bool true) rfl rfl (y_lss rfl s593 rfl rfl rr) (wl_nil fun F594 hF595 => ?_)))))
 obtain ⟨s596, s598, s599, s600, s601, s602, s603, s604⟩ := t8 hF595 33 s585 2 s587 3 s588 8 s589 4 s590 5 s591 6 s592 17 s593
 have s605 : F594 18 = .bool true := (hF595 18).trans rfl
 clear hF595
 refine then_normal (wq_seq ?_)
 refine wq_cond (t := true) s605 (fun _ => ?_) (fun e => by cases e)
 refine wq_skip (then_normal (wq_seq (wq_block (wq_seq (wq_region (wl_mv rfl rfl rfl s604 (wl_v (iv ((1 : Nat) : Int)) rfl rfl (y_asg rfl rfl rr) (wl_nil fun F606 hF607 => ?_))))))))
 obtain ⟨s608, s610, s611, s612, s613, s614, s615, s616⟩ := t8 hF607 33 s596 2 s598 3 s599 8 s600 4 s601 5 s602 6 s603 17 s604
 have s617 : F606 7 = iv ((1 : Nat) : Int) := (hF607 7).trans rfl
 clear hF607
 refine then_normal ?_
 refine wq_cas (γ := Value × (Nat → Prop)) [(5, 4), (6, 4), (7, 4), (9, 4), (10, 4)] [some 21, some 22, some 23, some 24, some 25, some 20, some 26, some 27, some 28, some 29, none] ⟨fun w_ => True, fun _ => False, fun g_ w_ => (Vpo w_ (g_.2) (g_.1) (optV ((plN W 2 : Nat) : Int) ((plN H 2 : Nat) : Int)) ∧ Grew w544 noB (g_.2)), fun g_ => (g_.2), fun p_ w_ => Stc w_ p_ 59 [v129, v200, v337, v412, v555, .pointer none], fun g_ p_ w_ => Stc w_ p_ 59 [v129, v200, v337, v412, v555, g_.1]⟩ (onB p22) (fun p_ => p22 = p_) [fun g_ => iv ((2 : Nat) : Int), fun g_ => iv ((1 : Nat) : Int), fun g_ => iv ((plN W 2 : Nat) : Int), fun g_ => iv ((plN H 2 : Nat) : Int), fun g_ => .tuple #[g_.1, iv (newVE ((plN W 2 : Nat) : Int) ((plN H 2 : Nat) : Int))], fun g_ => .tuple #[g_.1, iv (newVE ((plN W 2 : Nat) : Int) ((plN H 2 : Nat) : Int))], fun g_ => g_.1, fun g_ => iv (newVE ((plN W 2 : Nat) : Int) ((plN H 2 : Nat) : Int)), fun g_ => pt p22 4, fun g_ => pt p22 5, fun _ => undef] 4 10 none (undef, noB) p22 (by kernel_rfl) (by kernel_rfl) (by kernel_rfl) (by kernel_rfl) ⟨.inr (.inr fun _ _ => rfl), ⟨.inr (.inr fun _ _ => rfl), ⟨.inr (.inr fun _ _ => rfl), ⟨.inr (.inr fun _ _ => rfl), ⟨.inr (.inl rfl), ⟨.inl rfl, ⟨.inl rfl, ⟨.inl rfl, ⟨.inr (.inr fun _ _ => rfl), ⟨.inl rfl, ⟨.inl rfl, trivial⟩⟩⟩⟩⟩⟩⟩⟩⟩⟩⟩ ⟨trivial, fun _ _ _ _ _ _ => trivial, fun _ _ _ z => z.elim, fun g w w1 S1 h k a => by obtain ⟨b0_, g0_⟩ := h; exact ⟨b0_.all k (fun i z => a i z), g0_⟩, fun g w h i z => by obtain ⟨b0_, g0_⟩ := h; exact b0_.live i z, fun _ _ _ _ h k z => h.all k z, fun _ _ h => h.lt, fun _ _ _ _ _ h k z => h.all k z, fun _ z => z.elim, fun _ h => .inl h.symm, fun _ _ z => z⟩ (fun _ e => by cases e) (fun _ => ⟨rfl, hY549⟩) ?_ ?_
 ·refine stepsFX_cons ?_ ?_
  ·refine StepFX.one rfl rfl rfl rfl fun g_ p_ F_ w_ hR hout hD => ?_
   exact (y_mov rfl ((hout 4 rfl (by decide)).trans s613) ⟨rfl, Kept.refl _ _⟩)
  refine stepsFX_cons ?_ ?_
  ·refine StepFX.one rfl rfl rfl rfl fun g_ p_ F_ w_ hR hout hD => ?_
   exact (y_mov rfl ((hout 7 rfl (by decide)).trans s617) ⟨rfl, Kept.refl _ _⟩)
  refine stepsFX_cons ?_ ?_
  ·refine StepFX.one rfl rfl rfl rfl fun g_ p_ F_ w_ hR hout hD => ?_
   exact (y_mov rfl ((hout 5 rfl (by decide)).trans s614) ⟨rfl, Kept.refl _ _⟩)
  refine stepsFX_cons ?_ ?_
  ·refine StepFX.one rfl rfl rfl rfl fun g_ p_ F_ w_ hR hout hD => ?_
   exact (y_mov rfl ((hout 6 rfl (by decide)).trans s615) ⟨rfl, Kept.refl _ _⟩)
  refine stepsFX_cons ?_ ?_
  ·refine StepFX.call rfl rfl rfl rfl fun g_ p_ F_ w_ hR hout hD hP_ => ?_
   have g23 : F_ 23 = iv ((plN W 2 : Nat) : Int) := (hD.get 0 rfl rfl rfl).2 (by decide)
   have g24 : F_ 24 = iv ((plN H 2 : Nat) : Int) := (hD.get 1 rfl rfl rfl).2 (by decide)
   exact (y_cs rfl rfl rfl (fun _ _ => by kernel_rfl) (ev_func _) (vsC g23 (vsC g24 vsN)) (vt_new ((plN W 2 : Nat) : Int) ((plN H 2 : Nat) : Int)  _   ) (fun e_ w_ h_ => by obtain ⟨x0_, x1_, he_, hk_, ⟨b0_, g0_⟩⟩ := h_; exact ⟨_, he_, ⟨x0_, x1_⟩, rfl, hk_, ⟨b0_, (Grew.refl w544 _).trans hR g0_⟩, fun b hb => (g0_ b hb).elim (fun z => z.elim) .inr⟩))
  refine stepsFX_cons ?_ ?_
  ·refine StepFX.one rfl rfl rfl rfl fun g_ p_ F_ w_ hR hout hD => ?_
   have g25 : F_ 25 = .tuple #[g_.1, iv (newVE ((plN W 2 : Nat) : Int) ((plN H 2 : Nat) : Int))] := (hD.get 0 rfl rfl rfl).2 (by decide)
   exact (y_mov rfl g25 ⟨rfl, Kept.refl _ _⟩)
  refine stepsFX_cons ?_ ?_
  ·refine StepFX.one rfl rfl rfl rfl fun g_ p_ F_ w_ hR hout hD => ?_
   have g20 : F_ 20 = .tuple #[g_.1, iv (newVE ((plN W 2 : Nat) : Int) ((plN H 2 : Nat) : Int))] := (hD.get 0 rfl rfl rfl).2 (by decide)
   exact (y_ext rfl g20 rfl ⟨rfl, Kept.refl _ _⟩)
  refine stepsFX_cons ?_ ?_
  ·refine StepFX.one rfl rfl rfl rfl fun g_ p_ F_ w_ hR hout hD => ?_
   have g20 : F_ 20 = .tuple #[g_.1, iv (newVE ((plN W 2 : Nat) : Int) ((plN H 2 : Nat) : Int))] := (hD.get 0 rfl rfl rfl).2 (by decide)
   exact (y_ext rfl g20 rfl ⟨rfl, Kept.refl _ _⟩)
  refine stepsFX_cons ?_ ?_
  ·refine StepFX.one rfl rfl rfl rfl fun g_ p_ F_ w_ hR hout hD => ?_
   have g21 : F_ 21 = iv ((2 : Nat) : Int) := (hD.get 0 rfl rfl rfl).2 (by decide)
   exact (y_atR 2 (s := 2) rfl ((hout 3 rfl (by decide)).trans s611) g21 (by omega) Tryz.underlying59 (by omega) (by kernel_rfl) (by omega) ⟨rfl, Kept.refl _ _⟩)
  refine stepsFX_cons ?_ ?_
  ·refine StepFX.one rfl rfl rfl rfl fun g_ p_ F_ w_ hR hout hD => ?_
   have g28 : F_ 28 = pt p22 4 := (hD.get 0 rfl rfl rfl).2 (by decide)
   have g22 : F_ 22 = iv ((1 : Nat) : Int) := (hD.get 1 rfl rfl rfl).2 (by decide)
   exact (y_atR 1 (s := 1) rfl g28 g22 (by omega) Tryz.underlying58 (by omega) (by kernel_rfl) (by omega) ⟨rfl, Kept.refl _ _⟩)
  refine stepsFX_cons ?_ ?_
  ·refine StepFX.store rfl rfl rfl rfl fun g_ p_ F_ w_ hR hout hD hO_ hZ_ hQ_ => ?_
   subst hO_
   have g29 : F_ 29 = pt p22 5 := (hD.get 0 rfl rfl rfl).2 (by decide)
   have g26 : F_ 26 = g_.1 := (hD.get 1 rfl rfl rfl).2 (by decide)
   exact y_setStc rfl g29 g26 hZ_ rfl (hQ_.1).oneC (by kernel_rfl) fun w2_ b_ k_ => ⟨rfl, k_, b_⟩
  exact stepsFX_nil
 intro gg619 p620 v621 F622 w623 k624 hp625 hQ626 hG627 hY628 hN629 hA630 hV631 hF632
 obtain ⟨v634, T635⟩ := gg619
 have B637 := B558.all k624 (ap29.symm p8 rfl)
 have B638 := B559.all k624 ap139
 have B639 := B560.all k624 ap211
 have B640 := B561.all k624 ap349
 have B641 := B562.all k624 ap425
 have B642 := B564.all k624 ap569
 have K643 := K563.trans k624 (fun i hi x => ((Grew.ok (S := fun _ => False) gr27 noB_le) i hi x))
 obtain ⟨B644, g645⟩ := hQ626
 replace B644 : Vpo w623 T635 v634 (optV ((plN W 2 : Nat) : Int) ((plN H 2 : Nat) : Int)) := B644
 replace g645 : Grew w544 noB T635 := g645
 have gr646 : Grew w0 noB T635 := Grew.new K563 g645
 have ap648 : Apart T635 (onB p8) := Apart.new g645 (onB_live B558.lt)
 have ap650 : Apart T635 T130 := Apart.new g645 B559.live
 have ap651 : Apart T635 T201 := Apart.new g645 B560.live
 have ap652 : Apart T635 T338 := Apart.new g645 B561.live
 have ap653 : Apart T635 T413 := Apart.new g645 B562.live
 have ap654 : Apart T635 T556 := Apart.new g645 B564.live
 cases hp625
 replace hY628 : Stc w623 p22 59 [v129, v200, v337, v412, v555, v634] := hY628
 obtain ⟨s655, s657, s658, s659, s663⟩ := t5 hF632 33 s608 2 s610 3 s611 8 s612 17 s616
 clear hF632 hV631 hA630 hN629 hG627
 refine in_normal (then_normal (wq_region (wl_v (iv ((2 : Nat) : Int)) rfl rfl (y_add rfl s663 rfl (i64_n (by omega) (by omega)) rr) (wl_v (iv ((2 : Nat) : Int)) rfl rfl (y_mov rfl rfl rr) (wl_nil fun F664 hF665 => ?_)))))
 obtain ⟨s666, s668, s669, s670⟩ := t4 hF665 33 s655 2 s657 3 s658 8 s659
 have s674 : F664 17 = iv ((2 : Nat) : Int) := (hF665 17).trans rfl
 clear hF665
 refine then_normal (wqr_step (wq_seq (wq_region (wl_v (.bool false) rfl rfl (y_lss rfl s674 rfl rfl rr) (wl_nil fun F675 hF676 => ?_)))))
 obtain ⟨s677, s679, s680, s681⟩ := t4 hF676 33 s666 2 s668 3 s669 8 s670
 have s686 : F675 18 = .bool false := (hF676 18).trans rfl
 clear hF676
 refine then_normal (wq_seq ?_)
 refine wq_cond (t := false) s686 (fun e => by cases e) (fun _ => ?_)
 refine wq_exit (then_exit (then_exit (in_here (in_normal (then_normal (wq_region (wl_v (iv ((3 : Nat) : Int)) rfl rfl (y_add rfl s681 rfl (i64_n (by omega) (by omega)) rr) (wl_v (iv ((3 : Nat) : Int)) rfl rfl (y_mov rfl rfl rr) (wl_nil fun F687 hF688 => ?_)))))))))
 obtain ⟨s689, s691, s692⟩ := t3 hF688 33 s677 2 s679 3 s680
 have s693 : F687 8 = iv ((3 : Nat) : Int) := (hF688 8).trans rfl
 clear hF688
 refine then_normal (wqr_step (wq_seq (wq_region (wl_v (.bool false) rfl rfl (y_lss rfl s693 rfl rfl rr) (wl_nil fun F694 hF695 => ?_)))))
 obtain ⟨s696, s698, s699⟩ := t3 hF695 33 s689 2 s691 3 s692
 have s701 : F694 9 = .bool false := (hF695 9).trans rfl
 clear hF695
 refine then_normal (wq_seq ?_)
 refine wq_cond (t := false) s701 (fun e => by cases e) (fun _ => ?_)
 refine wq_exit (then_exit (then_exit (in_here (then_normal (wq_seq (wq_region (wl_v (.agg #[v129, v200, v337, v412, v555, v634]) rfl rfl (y_load_stc stcT_all rfl s699 hY628 rr) (wl_store_stc (us := [v129, v200, v337, v412, v555, v634]) stcT_all rfl rfl rfl s698 rfl B637 rfl (oneI B638.one (oneI B639.one (oneI B640.one (oneI B641.one (oneI B642.one (oneI B644.one oneN)))))) fun w702 B703 k704 => ?_))))))))
 have B707 := B638.all k704 ap138
 have B708 := B639.all k704 ap210
 have B709 := B640.all k704 ap348
 have B710 := B641.all k704 ap424
 have B711 := B642.all k704 ap568
 have B712 := B644.all k704 ap648
 have K713 := K643.trans k704 (Grew.ok (S := fun _ => False) gr13 noB_le)
 refine wl_nil fun F714 hF715 => ?_
 obtain ⟨s716, s717⟩ := t2 hF715 33 s696 2 s698
 clear hF715
 refine then_normal (wq_ret ?_)
 exact end_stc (vs := [v129, v200, v337, v412, v555, v634]) stcT_all s716 rfl rfl s717 B703 ⟨v129, T130, v200, T201, v337, T338, v412, T413, v555, T556, v634, T635, rfl, K713, ⟨(by rw [← optV_pl ⟨hsd.1, hsd.2.1⟩ ⟨hsd.2.2.2.1, hsd.2.2.2.2.1⟩]; exact B707), gr136⟩, ⟨(by rw [← optV_pl ⟨hsd.1, hsd.2.1⟩ ⟨hsd.2.2.2.1, hsd.2.2.2.2.1⟩]; exact B708), gr208⟩, ⟨(by rw [← optV_pl ⟨hsd.1, hsd.2.1⟩ ⟨hsd.2.2.2.1, hsd.2.2.2.2.1⟩]; exact B709), gr346⟩, ⟨(by rw [← optV_pl ⟨hsd.1, hsd.2.1⟩ ⟨hsd.2.2.2.1, hsd.2.2.2.2.1⟩]; exact B710), gr422⟩, ⟨(by rw [← optV_pl ⟨hsd.1, hsd.2.1⟩ ⟨hsd.2.2.2.1, hsd.2.2.2.2.1⟩]; exact B711), gr566⟩, ⟨(by rw [← optV_pl ⟨hsd.1, hsd.2.1⟩ ⟨hsd.2.2.2.1, hsd.2.2.2.2.1⟩]; exact B712), gr646⟩, ap212.symm, ap350.symm, ap426.symm, ap570.symm, ap650.symm, ap351.symm, ap427.symm, ap571.symm, ap651.symm, ap428.symm, ap572.symm, ap652.symm, ap573.symm, ap653.symm, ap654.symm⟩
end Go.Proofs.YtknjpdcpmpfklaaGreatDoor
set_option maxRecDepth 100000
namespace Go.Proofs.YtknjpdcpmpfklaaGreatDoor
open Go.RowKit
theorem wpAnyY_last {P : Program} {ops : Array Oper} {Q : Exit → Act → World → Prop} {n : Nat} (T : Tailed ops n) :
    ∀ (fuel k : Nat) (listed : Array Bool) (a : Act) (w : World), n ≤ k → k ≤ ops.size → ops.size - k ≤ fuel → listed.size = ops.size → (∀ j, j < k → listed.getD j false = true) → (∀ j, k ≤ j → listed.getD j false = false) →
      wpListIn (fen (some 0)) 0 P ops Q (ops.toList.drop k) a w → wpAnyIn (fen (some 0)) 0 P .any ops Q fuel listed a w := by
  have none_ready : ∀ (listed : Array Bool), listed.size = ops.size → (∀ j, j < ops.size → listed.getD j false = true) → Region.ready .any ops listed = [] := by
    intro listed hls hall
    cases hr : Region.ready .any ops listed with
    | nil => rfl
    | cons y r =>
      have hy : y ∈ Region.ready .any ops listed := by rw [hr]; simp
      obtain ⟨q1, q2, _⟩ := mem_ready hy
      have h1 := hall y q1
      rw [getD_same _ y (by omega)] at q2
      rw [q2] at h1; cases h1
  intro fuel
  induction fuel with
  | zero =>
    intro k listed a w hn hk hf hls h1 h2 hw
    have hke : k = ops.size := by omega
    subst hke
    rw [List.drop_of_length_le (by simp)] at hw
    exact ⟨none_ready listed hls h1, hw⟩
  | succ fuel ih =>
    intro k listed a w hn hk hf hls h1 h2 hw
    by_cases hke : k = ops.size
    · subst hke
      rw [List.drop_of_length_le (by simp)] at hw
      have hr := none_ready listed hls h1
      exact ⟨fun _ => hw, fun i hi => by rw [hr] at hi; cases hi⟩
    · have hlt : k < ops.size := by omega
      have hok : ops[k]? = some ops[k] := by simp [hlt]
      have hdrop : ops.toList.drop k = ops[k] :: ops.toList.drop (k + 1) := by
        rw [List.drop_eq_getElem_cons (by simpa using hlt)]; simp
      rw [hdrop] at hw
      have hrk : k ∈ Region.ready .any ops listed := ready_mk hlt hls (h2 k (Nat.le_refl _)) hok fun e he hb => h1 _ (T.back k _ hok e he hb)
      refine ⟨fun hr => (by rw [hr] at hrk; cases hrk), fun i hi => ?_⟩
      obtain ⟨q1, q2, o, ho, haft⟩ := mem_ready hi
      rw [getD_same _ i (by omega)] at q2
      have hik : i = k := by
        rcases Nat.lt_trichotomy i k with h | h | h
        · rw [h1 i h] at q2; cases q2
        · exact h
        · obtain ⟨e, he, hb, hon⟩ := T.line i o (by omega) ho
          have := haft e he hb
          rw [hon, h2 (i - 1) (by omega)] at this; cases this
      subst hik
      have next : ∀ (a' : Act) (w' : World), wpListIn (fen (some 0)) 0 P ops Q (ops.toList.drop (i + 1)) a' w' → wpAnyIn (fen (some 0)) 0 P .any ops Q fuel (listed.setIfInBounds i true) a' w' := by
        intro a' w' h'
        have hlsz : i < listed.size := by omega
        refine ih (i + 1) _ a' w' (by omega) (by omega) (by omega) (by simpa using hls) (fun j hj => ?_) (fun j hj => ?_) h'
        · rw [getD_set_true _ _ _ hlsz]; split
          · rfl
          · exact h1 j (by omega)
        · rw [getD_set_true _ _ _ hlsz, if_neg (by omega)]; exact h2 j (by omega)
      unfold wpListIn at hw
      unfold wpOpIn
      rw [hok]
      simp only
      split at hw
      · rw [if_pos ‹_›]
        exact Oper.wpIn_mono next hw
      · rw [if_neg ‹_›]
        exact ⟨hw.1, next _ _ hw.2⟩
theorem wpAnyY_tail {P : Program} {ops : Array Oper} {Q : Exit → Act → World → Prop} {a0 : Act} {w0 : World} (n : Nat) (T : Tailed ops n) (R : World → World → Prop) (D : List (Option Tmp)) (G : Nat → Value → World → Prop)
    (hpl : plain a0.tmps.size 0 D (ops.toList.take n) = true) (hrf : ∀ a, R a a) (htr : ∀ a b c, R a b → R b c → R a c) (hst : ∀ i v w w', G i v w → R w w' → G i v w') (hsteps : Steps P R D G a0 w0 0 (ops.toList.take n))
    (hend : ∀ (v : Nat → Value) (w : World), R w0 w → (∀ i, i < n → G i (v i) w) → wpListIn (fen (some 0)) 0 P ops Q (ops.toList.drop n) (putAll v 0 D a0) w) :
    ∀ (fuel : Nat) (listed : Array Bool) (v : Nat → Value) (a : Act) (w : World), Mid ops R D G a0 w0 v listed a w →
      (∀ (k : Nat) (o : Oper), ops[k]? = some o → listed.getD k false = true → ∀ e ∈ o.after.toList, Region.binds .any e = true → listed.getD e.on false = true) → (∀ j, n ≤ j → listed.getD j false = false) →
      (List.range ops.size).countP (fun i => !listed.getD i false) ≤ fuel → wpAnyIn (fen (some 0)) 0 P .any ops Q fuel listed a w := by
  have hlt0 := T.lt
  obtain ⟨hDl, hpa'⟩ := plain_at hpl
  have hlen : D.length = n := by
    have : D.length = min n ops.size := by simpa using hDl
    omega
  have hpa : ∀ k o, k < n → ops.toList[k]? = some o → D[k]? = some o.dst ∧ (∀ d, o.dst = some d → d < a0.tmps.size ∧ ∀ j, k < j → D[j]? ≠ some (some d)) := by
    intro k o hk ho
    have h := hpa' k o (by rw [List.getElem?_take, if_pos hk]; exact ho)
    exact ⟨h.1, h.2.1⟩
  have hback := T.back
  have fin : ∀ (listed : Array Bool) (v : Nat → Value) (a : Act) (w : World), Mid ops R D G a0 w0 v listed a w → (∀ i, i < n → listed.getD i false = true) → wpListIn (fen (some 0)) 0 P ops Q (ops.toList.drop n) a w := by
    intro listed v a w hm hall
    have hp := putAll_frame v D 0 a0
    have ha : a = putAll v 0 D a0 := by
      have ht : a.tmps = (putAll v 0 D a0).tmps := by
        apply Array.ext
        · rw [hm.size, hp.1]
        · intro t h1 h2
          have e : a.tmps.getD t undef = (putAll v 0 D a0).tmps.getD t undef := by
            by_cases hmem : some t ∈ D
            · obtain ⟨j, hj⟩ := List.mem_iff_getElem?.1 hmem
              have hjs : j < n := by rw [← hlen]; exact (List.getElem?_eq_some_iff.1 hj).1
              have hjo : j < ops.size := by omega
              obtain ⟨g1, g2⟩ := hpa j ops[j] hjs (by simp [hjo])
              have hdst : ops[j].dst = some t := by rw [hj] at g1; exact (Option.some.inj g1).symm
              obtain ⟨k1, k2⟩ := g2 t hdst
              rw [hm.here j t (hall j hjs) hj, hp.2.2.2 j t hj k2 k1, Nat.zero_add]
            · rw [hp.2.2.1 t hmem, hm.out t (fun j _ hj => hmem (List.mem_of_getElem? hj))]
          simpa [Array.getD_eq_getD_getElem?, h1, h2] using e
      have hd : a.defers = (putAll v 0 D a0).defers := by rw [hm.defers, hp.2.1]
      cases a
      cases hq : putAll v 0 D a0
      rw [hq] at ht hd
      simp only at ht hd
      rw [ht, hd]
    rw [ha]
    exact hend v w hm.rel (fun i hi => hm.good i (hall i hi))
  intro fuel
  induction fuel with
  | zero =>
    intro listed v a w hm _ htl hcount
    exfalso
    have hz : (List.range ops.size).countP (fun i => !listed.getD i false) = 0 := by omega
    rw [List.countP_eq_zero] at hz
    have := hz n (by simpa using hlt0)
    rw [htl n (Nat.le_refl _)] at this
    exact this rfl
  | succ fuel ih =>
    intro listed v a w hm hcl htl hcount
    refine ⟨fun hr => ?_, fun i hi => ?_⟩
    · have := all_listed hback hr hm.ls n hlt0
      rw [htl n (Nat.le_refl _)] at this; cases this
    obtain ⟨hlt, hnl, o, ho, haft⟩ := mem_ready hi
    have hlsz : i < listed.size := by rw [hm.ls]; exact hlt
    have hnl' : listed.getD i false = false := by simpa [Array.getD, hlsz] using hnl
    have hin : i ≤ n := by
      rcases Nat.lt_or_ge n i with h | h
      · obtain ⟨e, he, hb, hon⟩ := T.line i o h ho
        have := haft e he hb
        rw [hon, htl (i - 1) (by omega)] at this; cases this
      · exact h
    by_cases hine : i = n
    · -- all others are done
      have hall : ∀ j, j < n → listed.getD j false = true := by
        suffices h : ∀ m j, j + m = n → j < n → listed.getD j false = true by
          intro j hj; exact h (n - j) j (by omega) hj
        intro m
        induction m using Nat.strongRecOn with
        | _ m ihm =>
          intro j hm2 hj
          obtain ⟨j', o', h1, h2, h3, e, he, hb, hon⟩ := T.cov j hj
          by_cases hj' : j' = n
          · subst hj'
            rw [← hine] at h3
            rw [ho] at h3
            cases h3
            rw [← hon]; exact haft e he hb
          · have hl := ihm (n - j') (by omega) j' (by omega) (by omega)
            rw [← hon]; exact hcl j' o' h3 hl e he hb
      have hw := fin listed v a w hm hall
      have hfu : ops.size - n ≤ fuel + 1 := by
        have hle : (List.range' n (ops.size - n)).countP (fun i => !listed.getD i false) ≤ (List.range ops.size).countP (fun i => !listed.getD i false) := by
          apply List.Sublist.countP_le
          rw [List.range_eq_range', show ops.size = n + (ops.size - n) by omega, ← List.range'_append_1]
          simp
        have he : (List.range' n (ops.size - n)).countP (fun i => !listed.getD i false) = ops.size - n := by
          rw [List.countP_eq_length.2]
          · simp
          · intro x hx
            have := (List.mem_range'_1.1 hx).1
            rw [htl x this]; rfl
        omega
      have hall2 := wpAnyY_last (P := P) (Q := Q) T (fuel + 1) n listed a w (Nat.le_refl _) (by omega) hfu hm.ls hall htl hw
      exact hall2.2 i hi
    have hin' : i < n := by omega
    obtain ⟨g1, g2⟩ := hpa i o hin' (by simpa using ho)
    have hstep := hsteps.at i o (by rw [List.getElem?_take, if_pos hin']; simpa using ho)
    rw [Nat.zero_add] at hstep
    have hout : ∀ t, some t ∉ D → a.eval (.tmp t) = a0.eval (.tmp t) := fun t ht => hm.out t (fun j _ hj => ht (List.mem_of_getElem? hj))
    have hdeps : Deps D G a w o.after.toList := Deps.mk fun e he hb d hd => by
      have hl := haft e he hb
      have hlt' := hback i o ho e he hb
      have hDe : D[e.on]? = some (some d) := by
        have hlt2 : e.on < D.length := by rw [hlen]; omega
        simp only [List.getD, List.getElem?_eq_getElem hlt2, Option.getD_some] at hd
        rw [List.getElem?_eq_getElem hlt2, hd]
      have := hm.here e.on d hl hDe
      show G e.on (a.tmps.getD d undef) w
      rw [this]; exact hm.good e.on hl
    obtain ⟨s1, s2⟩ := hstep a w hm.rel hout hdeps
    -- what is left when it answers x in the world w'
    have next : ∀ (x : Value) (w' : World), G i x w' → R w w' → wpAnyIn (fen (some 0)) 0 P .any ops Q fuel (listed.setIfInBounds i true) (a.put o.dst x) w' := by
      intro x w' hG hR
      have hcnt : (List.range ops.size).countP (fun j => !(listed.setIfInBounds i true).getD j false) ≤ fuel := by
        have h1 : (List.range ops.size).countP (fun j => !(listed.setIfInBounds i true).getD j false) < (List.range ops.size).countP (fun j => !listed.getD j false) := by
          have hmemi : i ∈ List.range ops.size := by simpa using hlt
          have key : ∀ (l : List Nat), i ∈ l → (∀ j, (!(listed.setIfInBounds i true).getD j false) = true → (!listed.getD j false) = true) → l.countP (fun j => !(listed.setIfInBounds i true).getD j false) < l.countP (fun j => !listed.getD j false) := by
            intro l
            induction l with
            | nil => intro h; cases h
            | cons y r ihl =>
              intro hy himp
              have hle : r.countP (fun j => !(listed.setIfInBounds i true).getD j false) ≤ r.countP (fun j => !listed.getD j false) := List.countP_mono_left fun j _ hj => himp j hj
              by_cases hyi : y = i
              · subst hyi
                have e1 : (!(listed.setIfInBounds y true).getD y false) = false := by rw [getD_set_true _ _ _ hlsz, if_pos rfl]; rfl
                have e2 : (!listed.getD y false) = true := by rw [hnl']; rfl
                rw [List.countP_cons, List.countP_cons]
                simp only [e1, e2, if_true, Bool.false_eq_true, if_false]
                omega
              · have hir : i ∈ r := by
                  rcases List.mem_cons.1 hy with h | h
                  · exact absurd h.symm hyi
                  · exact h
                have := ihl hir himp
                rw [List.countP_cons, List.countP_cons]
                have e3 : (listed.setIfInBounds i true).getD y false = listed.getD y false := by rw [getD_set_true _ _ _ hlsz, if_neg hyi]
                rw [e3]; omega
          refine key _ hmemi fun j hj => ?_
          rw [getD_set_true _ _ _ hlsz] at hj
          by_cases hji : j = i
          · rw [if_pos hji] at hj; cases hj
          · rwa [if_neg hji] at hj
        omega
      have hmid : Mid ops R D G a0 w0 (fun j => if j = i then x else v j) (listed.setIfInBounds i true) (a.put o.dst x) w' := by
        refine ⟨?_, by simpa using hm.ls, ?_, htr _ _ _ hm.rel hR, ?_, ?_, ?_⟩
        · rw [← hm.size]; cases o.dst <;> simp [Act.put]
        · rw [← hm.defers]; cases o.dst <;> rfl
        · intro t ht
          have hold := hm.out t (fun j hj => ht j (by rw [getD_set_true _ _ _ hlsz]; split <;> first | rfl | exact hj))
          have hne : o.dst ≠ some t := by
            intro e
            exact ht i (by rw [getD_set_true _ _ _ hlsz, if_pos rfl]) (by rw [g1, e])
          rw [← hold]
          cases hd : o.dst with
          | none => rfl
          | some d =>
            have : d ≠ t := fun e => hne (by rw [hd, e])
            simp only [Act.put, Array.getD_eq_getD_getElem?, Array.getElem?_setIfInBounds_ne this]
        · intro j d hj hD
          by_cases hji : j = i
          · subst hji
            have hd : o.dst = some d := by rw [g1] at hD; exact Option.some.inj hD
            have hsz : d < a.tmps.size := by rw [hm.size]; exact (g2 d hd).1
            simp [hd, Act.put, Array.getD_eq_getD_getElem?, hsz]
          · rw [getD_set_true _ _ _ hlsz, if_neg hji] at hj
            have hold := hm.here j d hj hD
            rw [if_neg hji, ← hold]
            cases hd : o.dst with
            | none => rfl
            | some y =>
              have hne : y ≠ d := by
                rintro rfl
                rw [hd] at g1
                rcases Nat.lt_or_gt_of_ne hji with hlt2 | hgt2
                · have hjn : j < n := by rw [← hlen]; exact (List.getElem?_eq_some_iff.1 hD).1
                  have hjs : j < ops.size := by omega
                  obtain ⟨k1, k2⟩ := hpa j ops[j] hjn (by simp [hjs])
                  have hdst : ops[j].dst = some y := by rw [hD] at k1; exact (Option.some.inj k1).symm
                  exact (k2 y hdst).2 i hlt2 g1
                · exact (g2 y hd).2 j hgt2 hD
              simp only [Act.put, Array.getD_eq_getD_getElem?, Array.getElem?_setIfInBounds_ne hne]
        · intro j hj
          by_cases hji : j = i
          · subst hji; simpa using hG
          · rw [getD_set_true _ _ _ hlsz, if_neg hji] at hj
            simp only [if_neg hji]
            exact hst _ _ _ _ (hm.good j hj) hR
      refine ih _ _ _ _ hmid ?_ ?_ hcnt
      · intro k o' hk hl e he hb
        rw [getD_set_true _ _ _ hlsz] at hl ⊢
        by_cases hee : e.on = i
        · rw [if_pos hee]
        · rw [if_neg hee]
          by_cases hki : k = i
          · subst hki
            rw [ho] at hk
            cases hk
            exact haft e he hb
          · rw [if_neg hki] at hl
            exact hcl k o' hk hl e he hb
      · intro j hj
        rw [getD_set_true _ _ _ hlsz, if_neg (by omega)]; exact htl j hj
    have hwant : Region.wanted o (yielded ops a.tmps) = goes D o a := by
      unfold Region.wanted goes
      cases hg : o.guard with
      | none => rfl
      | some p =>
        obtain ⟨j, want⟩ := p
        simp only [yielded]
        by_cases hj : j < n
        · have hjo : j < ops.size := by omega
          obtain ⟨k1, k2⟩ := hpa j ops[j] hj (by simp [hjo])
          have hDj : D.getD j none = ops[j].dst := by simp [List.getD, k1]
          rw [hDj]
          simp only [Array.getElem?_eq_getElem hjo, Option.bind_some]
          cases hd : ops[j].dst with
          | none => simp
          | some d =>
            have hsz : d < a.tmps.size := by rw [hm.size]; exact (k2 d hd).1
            simp only [Option.bind_some, Array.getElem?_eq_getElem hsz]
            have he : a.eval (.tmp d) = a.tmps[d] := by simp [Act.eval, Array.getD, hsz]
            rw [he]
            cases a.tmps[d] <;> simp
        · exact absurd (T.guards i o hin' ho _ hg) hj
    unfold wpOpIn
    rw [ho]
    simp only [hwant]
    cases hgo : goes D o a with
    | true =>
      simp only [if_true]
      refine Yields.wpIn (l := some 0) ?_
      have := s1 hgo
      revert this
      unfold Yields
      generalize (execOp a.eval o).run P w = res
      intro h
      cases res with
      | ok n w' =>
        cases n <;> simp only at h ⊢ <;> first
          | exact next _ _ h.1 h.2
          | exact h.elim
          | exact Calls.mono h (fun e w'' ⟨y, he, hk⟩ => ⟨y, he, next _ _ hk.1 hk.2⟩)
      | halt y w' => exact h.elim
    | false =>
      simp only [Bool.false_eq_true, if_false]
      exact ⟨fun f _ => fen_fn _ f, next undef w (s2 hgo) (hrf w)⟩
theorem wp_region_tailY {P : Program} {id : Nat} {ops : Array Oper} {Q : Exit → Act → World → Prop} {a0 : Act} {w0 : World} (n : Nat) (D : List (Option Tmp)) (Gs : List Pd)
    (hm : P.follows .mixedOrders = true) (hta : tailed ops.toList n = true) (hpl : plain a0.tmps.size 0 D (ops.toList.take n) = true)
    (hsteps : Steps P (Kept (fun _ => False)) D (Said Gs) a0 w0 0 (ops.toList.take n))
    (hend : ∀ (v : Nat → Value) (w : World), Kept (fun _ => False) w0 w → (∀ i, i < n → Said Gs i (v i) w) → wpListIn (fen (some 0)) 0 P ops Q (ops.toList.drop n) (putAll v 0 D a0) w) : (Code.region id ops true).wpIn (fen (some 0)) 0 P Q a0 w0 := by
  refine wpIn_region_any hm ?_
  have T := tailed_all hta
  have hno : ∀ j, (Array.replicate ops.size false).getD j false = false := by
    intro j
    by_cases h : j < ops.size <;> simp [Array.getD, h]
  refine wpAnyY_tail n T (Kept (fun _ => False)) D (Said Gs) hpl (fun a => Kept.refl _ a) (fun _ _ _ h k => h.trans k (fun _ _ x => x)) (fun i _ _ _ h k => (Gs.getD i Pd.any).stays _ _ _ h k) hsteps hend ops.size _ (fun _ => undef) a0 _ ⟨rfl, by simp, rfl, (Kept.refl _ _).drew, fun _ _ => rfl, fun j _ hj => ?_, fun j hj => ?_⟩ ?_ ?_ ?_
  · rw [hno] at hj; cases hj
  · rw [hno] at hj; cases hj
  · intro k o _ hl; rw [hno] at hl; cases hl
  · intro j _; exact hno j
  · exact Nat.le_trans (List.countP_le_length) (by simp)
section
variable {P : Program} {N : Nat} {F : Nat → Value} {w : World} {Q : Exit → (Nat → Value) → World → Prop}
theorem wq_tailY {id : Nat} {ops : Array Oper} (n : Nat) (D : List (Option Tmp)) (Gs : List Pd) (hm : P.follows .mixedOrders = true) (hta : tailed ops.toList n = true) (hpl : plain N 0 D (ops.toList.take n) = true) (hsteps : StepsF N P D Gs F w 0 (ops.toList.take n))
    (hend : ∀ (v : Nat → Value) (F' : Nat → Value) (w' : World), Kept (fun _ => False) w w' → (∀ i, i < n → Said Gs i (v i) w') → (∀ t, F' t = putsF v 0 D F t) → wl (some 0) P N ops Q (ops.toList.drop n) F' w') : wq none P N (.region id ops true) Q F w := by
  intro a ha
  refine wp_region_tailY n D Gs hm hta (by rw [ha.size]; exact hpl) (hsteps.steps ha) fun v w' hk hG => ?_
  exact hend v _ w' hk hG (fun _ => rfl) _ (putAll_fr v D 0 F a ha (plain_fits hpl))
end
end Go.Proofs.YtknjpdcpmpfklaaGreatDoor
set_option maxRecDepth 100000
namespace Go.Proofs.YtknjpdcpmpfklaaGreatDoor
open Go.RowKit
def Sqs (w : World) (T : Nat → Prop) (p : Nat) (W H R B : Int) : Prop := T = onB p ∧ Stc w p 23 [.int .i64 W, .int .i64 H, .int .i64 R, .int .i64 B]
theorem Sqs.live {w : World} {T : Nat → Prop} {p : Nat} {W H R B : Int} (h : Sqs w T p W H R B) : Live w T := by
  obtain ⟨rfl, h⟩ := h; exact onB_live h.lt
theorem Sqs.all {S : Nat → Prop} {w w' : World} {T : Nat → Prop} {p : Nat} {W H R B : Int} (h : Sqs w T p W H R B) (k : Kept S w w') (ha : Apart T S) : Sqs w' T p W H R B := by
  obtain ⟨rfl, h⟩ := h; exact ⟨rfl, h.all k (ha p rfl)⟩
theorem Sqs.cells {w : World} {T : Nat → Prop} {p : Nat} {W H R B : Int} (h : Sqs w T p W H R B) : Cells w T := by
  obtain ⟨rfl, h⟩ := h; exact h.cells
theorem Sqs.row {A B' : World} {row : Option Nat} {n p : Nat} {T : Nat → Prop} {W H R B : Int} (h : Sqs A T p W H R B) (hg : A.grownBy B' row) (hr : RowNew n A row) : Sqs B' T p W H R B := h.all (kept_row hg) (h.cells.apart hr)
theorem pc_blocks (W H R B : Int) (w0 : World) :
  Calls Tryz.prog 29 #[.agg #[.int .i64 (W), .int .i64 (H), .int .i64 (R), .int .i64 (B)]] w0 fun e w' => ∃ (v1 : Nat) (T1 : Nat → Prop), e = .returned (.func (.func 60) #[] #[.pointer (some ⟨v1, 0, none⟩)]) ∧ Kept (fun _ => False) w0 w' ∧ (Sqs w' T1 v1 (W) (H) (R) (B) ∧ Grew w0 noB T1) := by
 refine calls_wq (args := [.agg #[iv W, iv H, iv R, iv B]]) 4 Tryz.func29 rfl rfl (Nat.le_of_ble_eq_true rfl) ?_
 have K0 := Kept.refl (fun _ => False) w0
 refine wq_seq (wq_region (wl_box_stc (vs := [iv W, iv H, iv R, iv B]) rfl rfl rfl rfl fun p1 w2 B4 g5 k3 => ?_))
 have gr6 : Grew w0 noB (onB p1) := Grew.new K0 g5
 have K7 := K0.tr k3
 refine wl_v (Value.nilFunc) rfl rfl (y_asg rfl rfl rr) (wl_nil fun F8 hF9 => ?_)
 have s10 : F8 4 = undef := (hF9 4).trans rfl
 have s11 : F8 1 = pt p1 0 := (hF9 1).trans rfl
 clear hF9
 refine then_normal (wq_seq (wq_region (wl_v (.func (.func 60) #[] #[pt p1 0]) rfl rfl (y_clo rfl s11 rr) (wl_v (.func (.func 60) #[] #[pt p1 0]) rfl rfl (y_asg rfl rfl rr) (wl_nil fun F12 hF13 => ?_)))))
 have s14 := (hF13 4).trans s10
 have s15 : F12 2 = .func (.func 60) #[] #[pt p1 0] := (hF13 2).trans rfl
 clear hF13
 refine then_normal (wq_ret ?_)
 exact end_tmp (v := .func (.func 60) #[] #[pt p1 0]) s14 rfl rfl s15 ⟨p1, (onB p1), rfl, K7, ⟨⟨rfl, B4⟩, gr6⟩⟩
structure Spt (W H : Int) where
  p : Nat
  i : Nat
  hp : p < 3
  hi : i < plN W p * plN H p
def Spt.m {W H : Int} (x : Spt W H) : Nat := plOff W H x.p + x.i
def Spt.enc {W H : Int} (x : Spt W H) : List Value := [.int .i64 ((x.m : Nat) : Int), .agg #[.int .i64 ((x.p : Nat) : Int), .int .i64 (pX (plN W x.p) x.i), .int .i64 (pY (plN W x.p) x.i)]]
def spP (W H : Int) (p : Nat) : Nat → List (Spt W H)
  | 0 => []
  | n + 1 => spP W H p n ++ (if h : p < 3 ∧ n < plN W p * plN H p then [⟨p, n, h.1, h.2⟩] else [])
def spTo (W H : Int) : Nat → List (Spt W H)
  | 0 => []
  | p + 1 => spTo W H p ++ spP W H p (plN W p * plN H p)
theorem spP_next {W H : Int} {p n : Nat} (hp : p < 3) (hn : n < plN W p * plN H p) : spP W H p (n + 1) = spP W H p n ++ [⟨p, n, hp, hn⟩] := by
  rw [spP, dif_pos ⟨hp, hn⟩]
theorem spP_len {W H : Int} {p : Nat} (hp : p < 3) : ∀ n, n ≤ plN W p * plN H p → (spP W H p n).length = n := by
  intro n
  induction n with
  | zero => intro _; rfl
  | succ n ih => intro h; rw [spP_next hp (by omega), List.length_append, ih (by omega)]; rfl
theorem spTo_len {W H : Int} : ∀ p, p ≤ 3 → (spTo W H p).length = plOff W H p := by
  intro p
  induction p with
  | zero => intro _; rfl
  | succ p ih => intro h; rw [spTo, List.length_append, ih (by omega), spP_len (by omega) _ (Nat.le_refl _)]; rfl
theorem spP_pre {W H : Int} {p m : Nat} : ∀ n, spP W H p m <+: spP W H p (m + n) := by
  intro n
  induction n with
  | zero => exact List.prefix_refl _
  | succ n ih => exact ih.trans (List.prefix_append _ _)
theorem spTo_pre {W H : Int} {p : Nat} : ∀ n, spTo W H p <+: spTo W H (p + n) := by
  intro n
  induction n with
  | zero => exact List.prefix_refl _
  | succ n ih => exact ih.trans (List.prefix_append _ _)
theorem sp_pfx {W H : Int} {p n : Nat} (hp : p < 3) (hn : n < plN W p * plN H p) : (spTo W H p ++ spP W H p n) ++ [⟨p, n, hp, hn⟩] <+: spTo W H 3 := by
  rw [List.append_assoc, ← spP_next hp hn]
  have h1 : spP W H p (n + 1) <+: spP W H p (plN W p * plN H p) := by
    have := spP_pre (W := W) (H := H) (p := p) (m := n + 1) (plN W p * plN H p - (n + 1))
    rwa [show n + 1 + (plN W p * plN H p - (n + 1)) = plN W p * plN H p by omega] at this
  have h2 : spTo W H (p + 1) <+: spTo W H 3 := by
    have := spTo_pre (W := W) (H := H) (p := p + 1) (3 - (p + 1))
    rwa [show p + 1 + (3 - (p + 1)) = 3 by omega] at this
  exact (List.prefix_append_right_inj _ |>.2 h1).trans h2
theorem plN_pos' {W : Int} {p : Nat} (h : 8 ≤ W) : 0 < plN W p := by unfold plN; split <;> omega
theorem plOff_le' {W H : Int} (hW : W ≤ 64) (hH : H ≤ 64) : ∀ p, p < 4 → plOff W H p ≤ 256 * p := by
  intro p
  induction p with
  | zero => intro _; exact Nat.le_refl 0
  | succ p ih =>
    intro hp
    have h1 := ih (by omega)
    have h2 : plN W p * plN H p ≤ 16 * 16 := Nat.mul_le_mul (plN_le hW) (plN_le hH)
    show plOff W H p + plN W p * plN H p ≤ _
    omega
theorem pcb_go (W H R B : Int) (p : Nat) (l : Nat) (J Jx : List (Spt W H) → World → Prop) (T_j : Nat → Prop) (w0 : World) (hs : seqOk W H R B) (h_p : Stc w0 p 23 [.int .i64 (W), .int .i64 (H), .int .i64 (R), .int .i64 (B)]) (ap_p : Apart T_j (onB p))
  (hY : ∀ (pre : List (Spt W H)) (x : Spt W H) (W1 : World), J pre W1 → pre.length < 1000 → pre ++ [x] <+: spTo W H 3 → YieldAt Fence.wide 0 Tryz.prog l ((Spt.enc) x).toArray W1 fun e W' => (e = .returned (.bool true) ∧ J (pre ++ [x]) W' ∧ Kept T_j W1 W') ∨ (e = .returned (.bool false) ∧ Jx (pre ++ [x]) W')) (h_j : Jat w0 T_j J []) :
  Calls Tryz.prog 60 #[.func (.yield l) #[] #[], .pointer (some ⟨p, 0, none⟩)] w0 fun e w' => (∃ v, e = .returned v) ∧ (J (spTo W H 3) w' ∨ ∃ pre, Jx pre w') := by
 refine calls_wq (args := [.func (.yield l) #[] #[], pt p 0]) 39 Tryz.func60 rfl rfl (Nat.le_of_ble_eq_true rfl) ?_
 have K0 := Kept.refl T_j w0
 have hsd := seq_side hs
 have hof := plOff_le' (W := W) (H := H) hsd.2.1 hsd.2.2.2.2.1
 refine wq_seq (wq_region (wl_v (iv 0) rfl rfl (y_asg rfl rfl rr) (wl_nil fun F1 hF2 => ?_)))
 have s3 : F1 0 = .func (.yield l) #[] #[] := (hF2 0).trans rfl
 have s4 : F1 1 = pt p 0 := (hF2 1).trans rfl
 have s5 : F1 39 = undef := (hF2 39).trans rfl
 have s6 : F1 3 = iv 0 := (hF2 3).trans rfl
 clear hF2
 refine then_normal (wq_seq (wq_region (wl_v (iv 0) rfl rfl (y_mov rfl rfl rr) (wl_nil fun F7 hF8 => ?_))))
 obtain ⟨s9, s10, s11, s12⟩ := t4 hF8 0 s3 1 s4 39 s5 3 s6
 have s13 : F7 8 = iv 0 := (hF8 8).trans rfl
 clear hF8
 refine then_normal (wq_block (wq_loop (fun nn FF ww => ∃ (q : Nat), (q ≤ 3) ∧ nn = 3 - q ∧ FF 0 = .func (.yield l) #[] #[] ∧ FF 1 = pt p 0 ∧ FF 39 = undef ∧ FF 3 = iv ((plOff W H q : Nat) : Int) ∧ FF 8 = iv ((q : Nat) : Int) ∧ Kept T_j w0 ww ∧ Jat ww T_j J (spTo W H q) ∧ Stc ww p 23 [iv W, iv H, iv R, iv B]) (3 - 0) ⟨0, by omega, rfl, s9, s10, s11, s12, s13, K0, h_j, h_p⟩ ?_))
 rintro n17 F14 w15 ⟨q, i18, hn17, s19, s20, s21, s22, s23, K16, B24, B25⟩
 refine wq_seq (wq_region (wl_v (.bool (decide (((q : Nat) : Int) < 3))) rfl rfl (y_lss rfl s23 rfl rfl rr) (wl_nil fun F26 hF27 => ?_)))
 obtain ⟨s28, s29, s30, s31, s32⟩ := t5 hF27 0 s19 1 s20 39 s21 3 s22 8 s23
 have s33 : F26 9 = .bool (decide (((q : Nat) : Int) < 3)) := (hF27 9).trans rfl
 clear hF27
 refine then_normal (wq_seq ?_)
 refine wq_cond s33 (fun c34 => ?_) (fun c34 => ?_)
 ·replace c34 := of_decide_eq_true c34
  refine wq_skip (then_normal (wq_seq (wq_block (wq_seq (wq_region (wl_mv rfl rfl rfl s32 (wl_v (iv ((q : Nat) : Int)) rfl rfl (y_asg rfl rfl rr) (wl_nil fun F35 hF36 => ?_))))))))
  obtain ⟨s37, s38, s39, s40, s41⟩ := t5 hF36 0 s28 1 s29 39 s30 3 s31 8 s32
  have s42 : F35 4 = iv ((q : Nat) : Int) := (hF36 4).trans rfl
  clear hF36
  refine then_normal (wq_seq (wq_region (wl_v (.agg #[iv W, iv H, iv R, iv B]) rfl rfl (y_load_stc stcT_seq rfl s38 B25 rr) (wl_mv rfl rfl rfl s42 (wl_cs rfl rfl rfl rfl rfl (fun _ _ => by kernel_rfl) (vsC rfl (vsC rfl vsN)) (pc_across W H R B q  _ (by assumption)  ) fun w43 k44 => ?_)))))
  have K45 := (Kept.refl (fun _ => False) w15).trans k44 (fun i hi x => x.elim)
  have B46 := B25.all k44 id
  have K47 := K16.tr k44
  refine wl_v (.tuple #[iv ((plN W q : Nat) : Int), iv ((plN H q : Nat) : Int)]) rfl rfl (y_mov rfl rfl rr) (wl_v (iv ((plN W q : Nat) : Int)) rfl rfl (y_ext rfl rfl rfl rr) (wl_v (iv ((plN H q : Nat) : Int)) rfl rfl (y_ext rfl rfl rfl rr) (wl_v (iv ((plN W q : Nat) : Int)) rfl rfl (y_asg rfl rfl rr) (wl_v (iv ((plN H q : Nat) : Int)) rfl rfl (y_asg rfl rfl rr) (wl_nil fun F48 hF49 => ?_)))))
  obtain ⟨s50, s51, s52, s53, s54, s55⟩ := t6 hF49 0 s37 1 s38 39 s39 3 s40 8 s41 4 s42
  have s56 : F48 5 = iv ((plN W q : Nat) : Int) := (hF49 5).trans rfl
  have s57 : F48 6 = iv ((plN H q : Nat) : Int) := (hF49 6).trans rfl
  clear hF49
  refine then_normal (wq_seq ?_)
  have hw0 := plN_pos' (W := W) (p := q) hsd.1
  have hw1 := plN_le (W := W) (p := q) hsd.2.1
  have hn1 := plN_le (W := H) (p := q) hsd.2.2.2.2.1
  have hwn : plN W q * plN H q ≤ 16 * 16 := Nat.mul_le_mul hw1 hn1
  have hofq := hof q (by omega)
  refine wq_region (wl_mv rfl rfl rfl s56 (wl_mv rfl rfl rfl s57 (wl_v (iv ((plN W q * plN H q : Nat) : Int)) rfl rfl (y_mul rfl rfl rfl (i64_n (by rw [Int.natCast_mul]) (by omega)) rr) (wl_v (iv 0) rfl rfl (y_mov rfl rfl rr) (wl_nil fun F58 hF59 => ?_)))))
  obtain ⟨s60, s61, s62, s63, s64, s65, s66⟩ := t7 hF59 0 s50 1 s51 39 s52 3 s53 8 s54 4 s55 5 s56
  have s67 : F58 19 = iv ((plN W q * plN H q : Nat) : Int) := (hF59 19).trans rfl
  have s68 : F58 20 = iv 0 := (hF59 20).trans rfl
  clear hF59
  refine then_normal (wq_block ?_)
  have B69 := B24.all K45 Apart.none
  refine wq_loop (fun nn FF ww => ∃ (n : Nat), (n ≤ (plN W q * plN H q)) ∧ nn = (plN W q * plN H q) - n ∧ FF 0 = .func (.yield l) #[] #[] ∧ FF 1 = pt p 0 ∧ FF 4 = iv ((q : Nat) : Int) ∧ FF 5 = iv ((plN W q : Nat) : Int) ∧ FF 8 = iv ((q : Nat) : Int) ∧ FF 19 = iv ((plN W q * plN H q : Nat) : Int) ∧ FF 39 = undef ∧ FF 3 = iv (((plOff W H q + n) : Nat) : Int) ∧ FF 20 = iv ((n : Nat) : Int) ∧ Kept T_j w0 ww ∧ Jat ww T_j J (spTo W H q ++ spP W H q n) ∧ Stc ww p 23 [iv W, iv H, iv R, iv B]) ((plN W q * plN H q) - 0) ⟨0, by omega, rfl, s60, s61, s65, s66, s64, s67, s62, s63, s68, K47, (by rw [show spP W H q 0 = [] from rfl, List.append_nil]; exact B69), B46⟩ ?_
  rintro n73 F70 w71 ⟨n, i74, hn73, s75, s76, s77, s78, s79, s80, s81, s82, s83, K72, B84, B85⟩
  refine wq_seq (wq_region (wl_v (.bool (decide (((n : Nat) : Int) < ((plN W q * plN H q : Nat) : Int)))) rfl rfl (y_lss rfl s83 s80 rfl rr) (wl_nil fun F86 hF87 => ?_)))
  obtain ⟨s88, s89, s90, s91, s92, s93, s94, s95, s96⟩ := t9 hF87 0 s75 1 s76 4 s77 5 s78 8 s79 19 s80 39 s81 3 s82 20 s83
  have s97 : F86 21 = .bool (decide (((n : Nat) : Int) < ((plN W q * plN H q : Nat) : Int))) := (hF87 21).trans rfl
  clear hF87
  refine then_normal (wq_seq ?_)
  refine wq_cond s97 (fun c98 => ?_) (fun c98 => ?_)
  ·replace c98 := of_decide_eq_true c98
   refine wq_skip (then_normal (wq_seq (wq_block (wq_seq (wq_region (wl_mv rfl rfl rfl s96 (wl_v (iv ((n : Nat) : Int)) rfl rfl (y_asg rfl rfl rr) (wl_nil fun F99 hF100 => ?_))))))))
   obtain ⟨s101, s102, s103, s104, s105, s106, s107, s108, s109⟩ := t9 hF100 0 s88 1 s89 4 s90 5 s91 8 s92 19 s93 39 s94 3 s95 20 s96
   have s110 : F99 7 = iv ((n : Nat) : Int) := (hF100 7).trans rfl
   clear hF100
   refine then_normal (wq_seq (wq_seq ?_))
   have hdv := Nat.div_le_self n (plN W q)
   refine wq_tailY 10 [some 23, some 24, some 25, some 26, some 27, some 28, some 29, some 30, some 31, some 32] [Pd.eq (.func (.yield l) #[] #[]), Pd.eq (iv (((plOff W H q + n) : Nat) : Int)), Pd.eq (iv ((q : Nat) : Int)), Pd.eq (iv ((n : Nat) : Int)), Pd.eq (iv ((plN W q : Nat) : Int)), Pd.eq (iv (pX (plN W q) n)), Pd.eq (iv ((n : Nat) : Int)), Pd.eq (iv ((plN W q : Nat) : Int)), Pd.eq (iv (pY (plN W q) n)), Pd.eq (.agg #[iv ((q : Nat) : Int), iv (pX (plN W q) n), iv (pY (plN W q) n)])] (by kernel_rfl) (by kernel_rfl) (by kernel_rfl) ?_ ?_
   ·refine stepsF_cons ?_ ?_
    ·refine StepF.one rfl fun F_ w_ hR hout hD => ?_
     exact (y_mov rfl ((hout 0 rfl (by decide)).trans s101) ⟨rfl, Kept.refl _ _⟩)
    refine stepsF_cons ?_ ?_
    ·refine StepF.one rfl fun F_ w_ hR hout hD => ?_
     exact (y_mov rfl ((hout 3 rfl (by decide)).trans s108) ⟨rfl, Kept.refl _ _⟩)
    refine stepsF_cons ?_ ?_
    ·refine StepF.one rfl fun F_ w_ hR hout hD => ?_
     exact (y_mov rfl ((hout 4 rfl (by decide)).trans s103) ⟨rfl, Kept.refl _ _⟩)
    refine stepsF_cons ?_ ?_
    ·refine StepF.one rfl fun F_ w_ hR hout hD => ?_
     exact (y_mov rfl ((hout 7 rfl (by decide)).trans s110) ⟨rfl, Kept.refl _ _⟩)
    refine stepsF_cons ?_ ?_
    ·refine StepF.one rfl fun F_ w_ hR hout hD => ?_
     exact (y_mov rfl ((hout 5 rfl (by decide)).trans s104) ⟨rfl, Kept.refl _ _⟩)
    refine stepsF_cons ?_ ?_
    ·refine StepF.one rfl fun F_ w_ hR hout hD => ?_
     have g26 : F_ 26 = iv ((n : Nat) : Int) := (hD.get 0 rfl rfl rfl)
     have g27 : F_ 27 = iv ((plN W q : Nat) : Int) := (hD.get 1 rfl rfl rfl)
     exact (y_rem rfl g26 g27 (by first | decide | omega) (rem_nat n (plN W q)) ⟨rfl, Kept.refl _ _⟩)
    refine stepsF_cons ?_ ?_
    ·refine StepF.one rfl fun F_ w_ hR hout hD => ?_
     exact (y_mov rfl ((hout 7 rfl (by decide)).trans s110) ⟨rfl, Kept.refl _ _⟩)
    refine stepsF_cons ?_ ?_
    ·refine StepF.one rfl fun F_ w_ hR hout hD => ?_
     exact (y_mov rfl ((hout 5 rfl (by decide)).trans s104) ⟨rfl, Kept.refl _ _⟩)
    refine stepsF_cons ?_ ?_
    ·refine StepF.one rfl fun F_ w_ hR hout hD => ?_
     have g29 : F_ 29 = iv ((n : Nat) : Int) := (hD.get 0 rfl rfl rfl)
     have g30 : F_ 30 = iv ((plN W q : Nat) : Int) := (hD.get 1 rfl rfl rfl)
     exact (y_quo rfl g29 g30 (by first | decide | omega) (i64_n (quo_nat n (plN W q)) (by omega)) ⟨rfl, Kept.refl _ _⟩)
    refine stepsF_cons ?_ ?_
    ·refine StepF.one rfl fun F_ w_ hR hout hD => ?_
     have g25 : F_ 25 = iv ((q : Nat) : Int) := (hD.get 0 rfl rfl rfl)
     have g28 : F_ 28 = iv (pX (plN W q) n) := (hD.get 1 rfl rfl rfl)
     have g31 : F_ 31 = iv (pY (plN W q) n) := (hD.get 2 rfl rfl rfl)
     exact (y_buildL (l' := [(0, iv ((q : Nat) : Int)), (1, iv (pX (plN W q) n)), (2, iv (pY (plN W q) n))]) (cells := #[iv ((q : Nat) : Int), iv (pX (plN W q) n), iv (pY (plN W q) n)]) rfl (bpC g25 (bpC g28 (bpC g31 bpN))) (by kernel_rfl) rfl ⟨rfl, Kept.refl _ _⟩)
    exact stepsF_nil
   intro v111 F112 w113 k114 G115 hF116
   have K118 := (Kept.refl (fun _ => False) w71).trans k114 (fun i hi x => x.elim)
   have B119 := B85.all k114 id
   have K120 := K72.tr k114
   obtain ⟨s121, s122, s123, s124, s125, s126, s127, s128, s129⟩ := t9 hF116 0 s101 1 s102 4 s103 5 s104 8 s105 19 s106 39 s107 3 s108 20 s109
   have s130 : F112 23 = .func (.yield l) #[] #[] := (hF116 23).trans (G115 0 (by decide))
   have s131 : F112 24 = iv (((plOff W H q + n) : Nat) : Int) := (hF116 24).trans (G115 1 (by decide))
   have s132 : F112 32 = .agg #[iv ((q : Nat) : Int), iv (pX (plN W q) n), iv (pY (plN W q) n)] := (hF116 32).trans (G115 9 (by decide))
   clear G115 hF116
   have B137 := B84.all K118 Apart.none
   refine wl_yield rfl rfl rfl rfl s130 rfl (vsC s131 (vsC s132 vsN)) (hY (spTo W H q ++ spP W H q n) (⟨q, n, by omega, by omega⟩) _ B137.1 (by rw [List.length_append, spTo_len q (by omega), spP_len (by omega) n (by omega)]; omega) (sp_pfx (by omega) (by omega))) ?_
   rintro _ w133 (⟨rfl, j135, k134⟩ | ⟨rfl, x136⟩)
   ·refine ⟨_, rfl, ?_⟩
    have B138 := B137.next k134.size j135
    have B139 := B119.all k134 (ap_p.symm p rfl)
    have K140 := K120.trans k134 (fun _ _ x => x)
    refine wl_v (.bool false) rfl rfl (y_not rfl rfl rfl rr) (wl_nil fun F141 hF142 => ?_)
    obtain ⟨s143, s144, s145, s146, s147, s148, s149, s150, s151⟩ := t9 hF142 0 s121 1 s122 4 s123 5 s124 8 s125 19 s126 39 s127 3 s128 20 s129
    have s152 : F141 34 = .bool false := (hF142 34).trans rfl
    clear hF142
    refine then_normal ?_
    refine wq_cond (t := false) s152 (fun e => by cases e) (fun _ => ?_)
    refine wq_skip (then_normal (wq_region (wl_mv rfl rfl rfl s150 (wl_v (iv (((plOff W H q + n) + 1 : Nat) : Int)) rfl rfl (y_add rfl rfl rfl (i64_n (by omega) (by omega)) rr) (wl_v (iv (((plOff W H q + n) + 1 : Nat) : Int)) rfl rfl (y_asg rfl rfl rr) (wl_nil fun F153 hF154 => ?_))))))
    obtain ⟨s155, s156, s157, s158, s159, s160, s161, s162⟩ := t8 hF154 0 s143 1 s144 4 s145 5 s146 8 s147 19 s148 39 s149 20 s151
    have s163 : F153 3 = iv (((plOff W H q + n) + 1 : Nat) : Int) := (hF154 3).trans rfl
    clear hF154
    refine in_normal (then_normal (wq_region (wl_v (iv ((n + 1 : Nat) : Int)) rfl rfl (y_add rfl s162 rfl (i64_n (by omega) (by omega)) rr) (wl_v (iv ((n + 1 : Nat) : Int)) rfl rfl (y_mov rfl rfl rr) (wl_nil fun F164 hF165 => ?_)))))
    obtain ⟨s166, s167, s168, s169, s170, s171, s172, s173⟩ := t8 hF165 0 s155 1 s156 4 s157 5 s158 8 s159 19 s160 39 s161 3 s163
    have s174 : F164 20 = iv ((n + 1 : Nat) : Int) := (hF165 20).trans rfl
    clear hF165
    exact then_normal ⟨((plN W q * plN H q) - (n + 1)), by omega, n + 1, by omega, rfl, s166, s167, s168, s169, s170, s171, s172, s173, s174, K140, (by rw [spP_next (by omega) (by omega), ← List.append_assoc]; exact B138), B139⟩
   ·refine ⟨_, rfl, ?_⟩
    refine wl_v (.bool true) rfl rfl (y_not rfl rfl rfl rr) (wl_nil fun F175 hF176 => ?_)
    have s183 := (hF176 39).trans s127
    have s186 : F175 34 = .bool true := (hF176 34).trans rfl
    clear hF176
    refine then_normal ?_
    refine wq_cond (t := true) s186 (fun _ => ?_) (fun e => by cases e)
    refine wq_ret (then_ret (in_ret (then_ret (then_ret (in_ret (in_ret (then_ret (then_ret (in_ret ?_)))))))))
    exact end_none_ret s183 rfl ⟨⟨_, rfl⟩, Or.inr ⟨_, x136⟩⟩
  ·replace c98 := of_decide_eq_false c98
   refine wq_exit (then_exit (then_exit ?_))
   have l187 : (plN W q * plN H q) = n := by omega
   subst l187
   refine in_here (in_normal (then_normal (wq_region (wl_v (iv ((q + 1 : Nat) : Int)) rfl rfl (y_add rfl s92 rfl (i64_n (by omega) (by omega)) rr) (wl_v (iv ((q + 1 : Nat) : Int)) rfl rfl (y_mov rfl rfl rr) (wl_nil fun F188 hF189 => ?_))))))
   obtain ⟨s190, s191, s192, s193⟩ := t4 hF189 0 s88 1 s89 39 s94 3 s95
   have s194 : F188 8 = iv ((q + 1 : Nat) : Int) := (hF189 8).trans rfl
   clear hF189
   exact then_normal ⟨(3 - (q + 1)), by omega, q + 1, by omega, rfl, s190, s191, s192, s193, s194, K72, B84, B85⟩
 ·replace c34 := of_decide_eq_false c34
  refine wq_exit (then_exit (then_exit ?_))
  have l195 : 3 = q := by omega
  subst l195
  refine in_here ?_
  exact end_none s30 rfl ⟨⟨_, rfl⟩, Or.inl (B24.1)⟩
theorem blk_seq (W H R B : Int) (p : Nat) (w : World) (hs : seqOk W H R B) (h1 : Stc w p 23 [.int .i64 W, .int .i64 H, .int .i64 R, .int .i64 B]) :
    SeqStopsK Fence.wide 1 Tryz.prog 60 #[.pointer (some ⟨p, 0, none⟩)] (fun x : Spt W H => x.enc.toArray) (Kept (fun i => i ≠ p)) (fun xs => xs = spTo W H 3) (fun xs => xs <+: spTo W H 3) 1000 w := by
  intro l J Jx W' hB hJ hJx hY h0
  have k := kept_of_below hB
  refine callsIn_wide.2 ((pcb_go W H R B p l J (fun pre W1 => Jx pre W1 ∧ pre <+: spTo W H 3) (fun i => i ≠ p) W' hs (h1.all k id) (fun i h e => h e) (fun pre x W1 hj hl hp => ?_) ⟨h0, hJ⟩).mono ?_)
  · obtain ⟨fn, t, a, b, hy, hR⟩ := hY pre x W1 hj hl
    exact ⟨fn, t, a, b, hy, hR.mono (fun e w' h => h.imp id (fun ⟨h1, h2⟩ => ⟨h1, h2, hp⟩))⟩
  · rintro e w' ⟨hv, h⟩
    exact ⟨hv, h.elim (fun h => .inl ⟨_, rfl, h⟩) (fun ⟨pre, h, hp⟩ => .inr ⟨pre, hp, h⟩)⟩
end Go.Proofs.YtknjpdcpmpfklaaGreatDoor
set_option maxRecDepth 100000
namespace Go.Proofs.YtknjpdcpmpfklaaGreatDoor
open Go.RowKit
structure QSt where
  f : Nat → VF × VF
  s : Option Nat
  o : List Ch
  e : Int
def QSt.at (q : QSt) (p : Nat) : PSt := ⟨(q.f p).1, (q.f p).2, q.s⟩
def stepQ {W H : Int} (l : List Nat) (k : Int) (q : QSt) (x : Spt W H) : QSt :=
  if q.e = 0 then
    (if (chAt l k (plN W x.p) x.i (q.at x.p)).2.1 = 0 then
      ⟨fun p => if p = x.p then ((stP l k (plN W x.p) x.i (q.at x.p)).a, (stP l k (plN W x.p) x.i (q.at x.p)).b) else q.f p, (stP l k (plN W x.p) x.i (q.at x.p)).s, q.o ++ [rcP l k (plN W x.p) x.i (q.at x.p)], 0⟩
     else ⟨q.f, q.s, q.o, (chAt l k (plN W x.p) x.i (q.at x.p)).2.1⟩)
  else q
def newQ (W H : Int) : QSt := ⟨fun p => (newV ((plN W p : Nat) : Int) ((plN H p : Nat) : Int), newV ((plN W p : Nat) : Int) ((plN H p : Nat) : Int)), some 0, [], 0⟩
def foldQ (l : List Nat) (k W H : Int) (pre : List (Spt W H)) : QSt := pre.foldl (stepQ l k) (newQ W H)
theorem fq_snoc {l : List Nat} {k W H : Int} (pre : List (Spt W H)) (x : Spt W H) : foldQ l k W H (pre ++ [x]) = stepQ l k (foldQ l k W H pre) x := by
  unfold foldQ; rw [List.foldl_append]; rfl
theorem fq_ok {l : List Nat} {k W H : Int} {pre : List (Spt W H)} {x : Spt W H} {v : Nat} (hv : x.p = v) (hq : (foldQ l k W H pre).e = 0)
    (hc : (chAt l k (plN W v) x.i ((foldQ l k W H pre).at v)).2.1 = 0) :
    (foldQ l k W H (pre ++ [x])).s = (stP l k (plN W v) x.i ((foldQ l k W H pre).at v)).s ∧ (foldQ l k W H (pre ++ [x])).o = (foldQ l k W H pre).o ++ [rcP l k (plN W v) x.i ((foldQ l k W H pre).at v)] ∧
    (foldQ l k W H (pre ++ [x])).f v = ((stP l k (plN W v) x.i ((foldQ l k W H pre).at v)).a, (stP l k (plN W v) x.i ((foldQ l k W H pre).at v)).b) ∧
    (∀ p, p ≠ v → (foldQ l k W H (pre ++ [x])).f p = (foldQ l k W H pre).f p) ∧ (foldQ l k W H (pre ++ [x])).e = 0 := by
  subst hv
  rw [fq_snoc]
  have e : stepQ l k (foldQ l k W H pre) x = _ := (if_pos hq).trans (if_pos hc)
  rw [e]
  exact ⟨rfl, rfl, if_pos rfl, fun p hp => if_neg hp, rfl⟩
theorem fq_bad {l : List Nat} {k W H : Int} {pre : List (Spt W H)} {x : Spt W H} {v : Nat} (hv : x.p = v) (hq : (foldQ l k W H pre).e = 0)
    (hc : (chAt l k (plN W v) x.i ((foldQ l k W H pre).at v)).2.1 ≠ 0) : (foldQ l k W H (pre ++ [x])).e = (chAt l k (plN W v) x.i ((foldQ l k W H pre).at v)).2.1 := by
  subst hv
  rw [fq_snoc]
  have e : stepQ l k (foldQ l k W H pre) x = _ := (if_pos hq).trans (if_neg hc)
  rw [e]
theorem fq_len {l : List Nat} {k W H : Int} (pre : List (Spt W H)) : (foldQ l k W H pre).o.length ≤ pre.length := by
  have key : ∀ (pre : List (Spt W H)) (q : QSt), (pre.foldl (stepQ l k) q).o.length ≤ q.o.length + pre.length := by
    intro pre
    induction pre with
    | nil => intro q; exact Nat.le_refl _
    | cons x r ih =>
      intro q
      rw [List.foldl_cons]
      refine Nat.le_trans (ih _) ?_
      have : (stepQ l k q x).o.length ≤ q.o.length + 1 := by
        unfold stepQ
        split
        · split
          · simp
          · exact Nat.le_succ _
        · exact Nat.le_succ _
      rw [List.length_cons]; omega
  have := key pre (newQ W H)
  rw [show (newQ W H).o.length = 0 from rfl, Nat.zero_add] at this
  exact this
theorem step_stuck {W H : Int} {l : List Nat} {k : Int} : ∀ (xs : List (Spt W H)) (q : QSt), q.e ≠ 0 → xs.foldl (stepQ l k) q = q := by
  intro xs
  induction xs with
  | nil => intro q _; rfl
  | cons x r ih =>
    intro q h
    rw [List.foldl_cons, show stepQ l k q x = q from if_neg h]
    exact ih q h
theorem run_fold {W H : Int} {l : List Nat} {k : Int} {p : Nat} (hp : p < 3) (q : QSt) (hq : q.e = 0) : ∀ n, n ≤ plN W p * plN H p →
    ((((spP W H p n).foldl (stepQ l k) q).e = 0 → runP l k (plN W p) (plN W p * plN H p - n) n (((spP W H p n).foldl (stepQ l k) q).at p) ((spP W H p n).foldl (stepQ l k) q).o = runP l k (plN W p) (plN W p * plN H p) 0 (q.at p) q.o) ∧
    (((spP W H p n).foldl (stepQ l k) q).e ≠ 0 → (runP l k (plN W p) (plN W p * plN H p) 0 (q.at p) q.o).2.1 = ((spP W H p n).foldl (stepQ l k) q).e) ∧
    ∀ p', p' ≠ p → ((spP W H p n).foldl (stepQ l k) q).f p' = q.f p') := by
  intro n
  induction n with
  | zero => intro _; exact ⟨fun _ => rfl, fun h => absurd hq h, fun _ _ => rfl⟩
  | succ n ih =>
    intro hn
    obtain ⟨h1, h2, h3⟩ := ih (by omega)
    rw [spP_next hp (by omega), List.foldl_append, List.foldl_cons, List.foldl_nil]
    generalize ((spP W H p n).foldl (stepQ l k) q) = q' at h1 h2 h3 ⊢
    by_cases he : q'.e = 0
    · by_cases hc : (chAt l k (plN W p) n (q'.at p)).2.1 = 0
      · have e : stepQ l k q' (⟨p, n, hp, by omega⟩ : Spt W H) = _ := (if_pos he).trans (if_pos hc)
        rw [e]
        refine ⟨fun _ => ?_, fun h => absurd rfl h, fun p' hp' => (if_neg hp').trans (h3 p' hp')⟩
        have h1' := h1 he
        rw [show plN W p * plN H p - n = (plN W p * plN H p - (n + 1)) + 1 by omega, runP_yes hc] at h1'
        have ea : QSt.at ⟨fun p' => if p' = p then ((stP l k (plN W p) n (q'.at p)).a, (stP l k (plN W p) n (q'.at p)).b) else q'.f p', (stP l k (plN W p) n (q'.at p)).s, q'.o ++ [rcP l k (plN W p) n (q'.at p)], 0⟩ p = stAt l k (plN W p) n (q'.at p) := by
          unfold QSt.at
          simp only [if_true]
          exact (rcP_yes hc).2
        refine Eq.trans ?_ h1'
        show runP l k (plN W p) _ (n + 1) (QSt.at ⟨fun p' => if p' = p then ((stP l k (plN W p) n (q'.at p)).a, (stP l k (plN W p) n (q'.at p)).b) else q'.f p', (stP l k (plN W p) n (q'.at p)).s, q'.o ++ [rcP l k (plN W p) n (q'.at p)], 0⟩ p) (q'.o ++ [rcP l k (plN W p) n (q'.at p)]) = _
        rw [ea, (rcP_yes hc).1]
      · have e : stepQ l k q' (⟨p, n, hp, by omega⟩ : Spt W H) = _ := (if_pos he).trans (if_neg hc)
        rw [e]
        refine ⟨fun h => absurd h hc, fun _ => ?_, fun p' hp' => h3 p' hp'⟩
        have h1' := h1 he
        rw [show plN W p * plN H p - n = (plN W p * plN H p - (n + 1)) + 1 by omega, runP_no hc] at h1'
        rw [← h1']
    · rw [show stepQ l k q' (⟨p, n, hp, by omega⟩ : Spt W H) = q' from if_neg he]
      exact ⟨fun h => absurd h he, h2, h3⟩
theorem to_fold {W H : Int} {l : List Nat} {k : Int} : ∀ p, p ≤ 3 →
    ((foldQ l k W H (spTo W H p)).e = 0 → plTo l k W H p = ((foldQ l k W H (spTo W H p)).o, 0, (foldQ l k W H (spTo W H p)).s)) ∧
    ((foldQ l k W H (spTo W H p)).e ≠ 0 → (plTo l k W H p).2.1 = (foldQ l k W H (spTo W H p)).e) ∧
    ((foldQ l k W H (spTo W H p)).e = 0 → ∀ p', p ≤ p' → (foldQ l k W H (spTo W H p)).f p' = (newQ W H).f p') := by
  intro p
  induction p with
  | zero => intro _; exact ⟨fun _ => rfl, fun h => absurd rfl h, fun _ _ _ => rfl⟩
  | succ p ih =>
    intro hp
    obtain ⟨h1, h2, h3⟩ := ih (by omega)
    have ef : foldQ l k W H (spTo W H (p + 1)) = (spP W H p (plN W p * plN H p)).foldl (stepQ l k) (foldQ l k W H (spTo W H p)) := by
      unfold foldQ; rw [spTo, List.foldl_append]
    rw [ef]
    generalize foldQ l k W H (spTo W H p) = q at h1 h2 h3 ⊢
    by_cases he : q.e = 0
    · obtain ⟨r1, r2, r3⟩ := run_fold (W := W) (H := H) (l := l) (k := k) (by omega) q he (plN W p * plN H p) (Nat.le_refl _)
      have hpl := h1 he
      have hz : (plTo l k W H p).2.1 = 0 := by rw [hpl]
      have hrun : plTo l k W H (p + 1) = runP l k (plN W p) (plN W p * plN H p) 0 (q.at p) q.o := by
        rw [plTo_yes hz, hpl]
        unfold planeP QSt.at
        rw [show (newV ((plN W p : Nat) : Int) ((plN H p : Nat) : Int)) = (q.f p).1 from by rw [h3 he p (Nat.le_refl _)]; rfl]
        rw [show (q.f p).2 = (q.f p).1 from by rw [h3 he p (Nat.le_refl _)]; rfl]
      refine ⟨fun hz' => ?_, fun hz' => ?_, fun _ p' hp' => ?_⟩
      · rw [hrun, ← r1 hz', Nat.sub_self]; rfl
      · rw [hrun]; exact r2 hz'
      · rw [r3 p' (by omega)]; exact h3 he p' (by omega)
    · rw [step_stuck _ _ he]
      refine ⟨fun h => absurd h he, fun _ => ?_, fun h => absurd h he⟩
      rw [plTo_no (by rw [h2 he]; exact he)]; exact h2 he
theorem fq_pfx {W H : Int} {l : List Nat} {k : Int} {pre : List (Spt W H)} (h : pre <+: spTo W H 3) (he : (foldQ l k W H pre).e ≠ 0) : (foldQ l k W H (spTo W H 3)).e = (foldQ l k W H pre).e := by
  obtain ⟨r, h⟩ := h
  rw [← h]
  unfold foldQ at he ⊢
  rw [List.foldl_append, step_stuck _ _ he]
theorem chs_stop {W H R B K Q D F : Int} {l : List Nat} {pre : List (Spt W H)} (hm : mayP W H R B K Q D F) (h : pre <+: spTo W H 3) (he : (foldQ l K W H pre).e ≠ 0) : chsE l W H R B K Q D F = ([], (foldQ l K W H pre).e) := by
  have e := fq_pfx h he
  have h2 := (to_fold (W := W) (H := H) (l := l) (k := K) 3 (Nat.le_refl _)).2.1 (by rw [e]; exact he)
  rw [e] at h2
  rw [chsE_yes hm, chsP_bad (Nat.le_refl 3) (by rw [h2]; exact he), h2]
theorem chs_done {W H R B K Q D F : Int} {l : List Nat} (hm : mayP W H R B K Q D F) (he : (foldQ l K W H (spTo W H 3)).e = 0) :
    (doneOf l (foldQ l K W H (spTo W H 3)).s ≠ 0 → chsE l W H R B K Q D F = ([], 130)) ∧ (doneOf l (foldQ l K W H (spTo W H 3)).s = 0 → chsE l W H R B K Q D F = ((foldQ l K W H (spTo W H 3)).o, 0)) := by
  have h2 := (to_fold (W := W) (H := H) (l := l) (k := K) 3 (Nat.le_refl _)).1 he
  have hz : (plTo l K W H 3).2.1 = 0 := by rw [h2]
  refine ⟨fun hd => ?_, fun hd => ?_⟩
  · rw [chsE_yes hm, chsP_open hz (by rw [h2]; exact hd)]
  · rw [chsE_yes hm, chsP_ok hz (by rw [h2]; exact hd), h2]
end Go.Proofs.YtknjpdcpmpfklaaGreatDoor
set_option maxRecDepth 100000
namespace Go.Proofs.YtknjpdcpmpfklaaGreatDoor
open Go.RowKit
theorem wq_rangeS {α : Type} {P : Program} {N : Nat} {Q : Exit → (Nat → Value) → World → Prop} {F : Nat → Value} {w : World} {g : Operand} {ps : Array Tmp} {assign body : Code} {gf : Nat} {lb : Array Value}
    {encs : α → List Value} {U : Nat → Prop} {S Sp : List α → Prop} {M : Nat}
    (hg : ev (cutF N F) g = .func (.func gf) #[] lb) (eg : ∀ args w, (callFunc gf args).run P w = .ok (.enter gf args) w)
    (hseq : SeqStopsK Fence.wide 1 P gf lb (fun x => (encs x).toArray) (Kept U) S Sp M w) (hU : ∀ i, w.heap.size ≤ i → U i)
    (pl : List Tmp) (hpl : ps = pl.toArray) (hps : ∀ x, (encs x).length = pl.length) (hpN : (pl.all fun p => Nat.blt p N) = true)
    (I Ix : List α → World → Prop) (hI : OwnFrom w.heap.size I) (hIx : OwnFrom w.heap.size Ix) (h0 : I [] w) (Ax : α → (Nat → Value) → World → Prop) (hAx : ∀ x FF, OwnFrom w.heap.size (fun (_ : Unit) W => Ax x FF W))
    (hassign : ∀ l pre x W, I pre W → wq (some (l + 1)) P N assign (asP w.heap.size (Kept U) (I pre) (Ax x) W) (loopF N F (pl.zip (encs x))) W)
    (hbody : ∀ (l : Nat) (pre : List α) (x : α) (F' : Nat → Value) (W : World), I pre W → Ax x F' W → pre.length < M → wq (some (l + 1)) P N body (roundR w.heap.size (Kept U) (I (pre ++ [x])) (Ix (pre ++ [x])) W) F' W)
    (hdone : ∀ (D : Nat) (xs : List α) (W : World), w.heap.size ≤ D → S xs → I xs W → W.heap[D]? = some (.deferred (some [])) → Q .normal (up F N (markV (D :: marksOf (F N)))) W)
    (hstop : ∀ (D : Nat) (pre : List α) (W : World), w.heap.size ≤ D → Sp pre → Ix pre W → W.heap[D]? = some (.deferred (some [])) → Q .ret (up F N (markV (D :: marksOf (F N)))) W) :
    wq none P N (.rangeFunc g ps assign body) Q F w := by
  subst hpl
  intro a ha
  refine wpIn_wide.2 ((wpIn_wide (n := 2)).1 ?_)
  refine wpIn_rangeFunc_ownH rfl (by decide) (gf := gf) (lb := lb) (by rw [ha.eval]; exact hg) trivial eg hseq
    (fun h k => h.trans k (fun _ _ x => x)) (fun W l o o' hl ho hc hw => ?_) (Below.refl _ _) (fun x => by simp [hps]) I (atRet Ix) hI (atRet_own hIx) h0
    (fun x a' W => ∃ F', Fr N F' a' ∧ Ax x F' W) (fun x a' s W W' row h hg hr => ?_) ?_ ?_ ?_ ?_
  · exact (Kept.refl U W).grown (grownBy_putObj' W l o') (fun k e hk => by cases e; exact hU _ hl)
  · obtain ⟨F', hF, hx⟩ := h
    exact ⟨F', hF, hAx x F' s W W' row hx hg hr⟩
  · intro l pre x W K hi hK
    have hz : ((pl.toArray.zip (encs x).toArray).foldl (fun t (p, v) => t.setIfInBounds p v) a.tmps) = (pl.zip (encs x)).foldl (fun t p => t.setIfInBounds p.1 p.2) a.tmps := by simp
    rw [hz]
    have hf : Fr N (loopF N F (pl.zip (encs x))) { tmps := (pl.zip (encs x)).foldl (fun t p => t.setIfInBounds p.1 p.2) a.tmps, defers := [] } :=
      Fr.rounds _ _ _ (ha.last undef [] rfl) (all_zip pl _ hpN)
    refine wpIn_mono (hassign l pre x W hi _ hf) ?_
    rintro e a' w' ⟨F', hF, hq⟩
    cases e <;> first
      | (obtain ⟨h1, h2, h3, h4⟩ := hq; exact hK a' _ h1 h2 h3 ⟨F', hF, h4⟩)
      | exact hq.elim
  · rintro l pre x a' W _ _ hi ⟨F', hF, hx⟩ hlt
    refine wpIn_mono (hbody l pre x F' W hi hx hlt a' hF) ?_
    rintro e a'' w' ⟨F'', _, hq⟩
    cases e <;> first | exact hq | exact hq.elim
  · intro D xs W hD hS hi hd
    exact ⟨_, ha.mark D, hdone D xs W hD hS hi hd⟩
  · intro D c pre W hD hSp h hd
    cases c <;> first
      | exact wpIn_ret ⟨_, ha.mark D, hstop D pre W hD hSp h hd⟩
      | exact h.elim
end Go.Proofs.YtknjpdcpmpfklaaGreatDoor
