/- What HeadNames reaches of my texts, part 2. -/
import Derived.Test.YtnccblhdokplkaaHeadNamesA
set_option maxRecDepth 100000
set_option maxRecDepth 100000
namespace Go.Proofs.Ytnccblhdokplkaa
open Go.RowKit

/-- Something that an operation leaves, its value, and where it lies. -/
structure Thm where
  B : Value → (Nat → Prop) → World → Prop
  st : ∀ (v : Value) (w w' : World) (S T : Nat → Prop), B v T w → Kept S w w' → Apart T S → B v T w'
  li : ∀ (v : Value) (w : World) (T : Nat → Prop), B v T w → Live w T
inductive Pm where
  | eq (v : Value)
  | new (t : Thm)
def Pm.none : Pm := .eq undef
def Pm.isNew : Pm → Bool
  | .eq _ => false
  | .new _ => true
/-- Something that was there. -/
structure Eld where
  A : World → Prop
  T : Nat → Prop
  st : ∀ (w w' : World) (S : Nat → Prop), A w → Kept S w w' → Apart T S → A w'
  li : ∀ w, A w → Live w T
/-- What each operation uses up: (true, j) what the operation j left, (false, e) what was there. -/
def usM (Uz : List (Option (Bool × Nat))) (i : Nat) : Option (Bool × Nat) := Uz.getD i none
def usedM (Uz : List (Option (Bool × Nat))) (L : Nat → Bool) (q : Bool × Nat) : Prop := ∃ i, usM Uz i = some q ∧ L i = true
structure JM (S : Nat → Prop) (w0 : World) (Gs : List Pm) (Uz : List (Option (Bool × Nat))) (Es : List Eld) (Bs : List (Nat → Prop)) (M : List (Nat × Nat)) (L : Nat → Bool) (v : Nat → Value) (Tf : Nat → Nat → Prop) (w : World) : Prop where
  kept : Kept S w0 w
  vals : ∀ i x, L i = true → Gs.getD i Pm.none = .eq x → v i = x
  things : ∀ i t, L i = true → Gs.getD i Pm.none = .new t → ¬ usedM Uz L (true, i) → t.B (v i) (Tf i) w
  olds : ∀ (e : Nat) (E : Eld), Es[e]? = some E → ¬ usedM Uz L (false, e) → E.A w
  grew : ∀ i t, L i = true → Gs.getD i Pm.none = .new t → Grew w0 (Bs.getD i noB) (Tf i)
  tt : ∀ i j t t', i ≠ j → L i = true → L j = true → Gs.getD i Pm.none = .new t → Gs.getD j Pm.none = .new t' → ¬ usedM Uz L (true, i) → ¬ usedM Uz L (true, j) → Apart (Tf i) (Tf j)
  te : ∀ (i e : Nat) (t : Thm) (E : Eld), L i = true → Gs.getD i Pm.none = .new t → ¬ usedM Uz L (true, i) → Es[e]? = some E → ¬ usedM Uz L (false, e) → Apart (Tf i) E.T
  clos : ∀ j i, (j, i) ∈ M → L j = true → L i = true
/-- What is asked of the lists. -/
def uniqB (Uz : List (Option (Bool × Nat))) : Bool := (List.range Uz.length).all fun i => (List.range Uz.length).all fun j => match usM Uz i with
  | some q => i == j || !(usM Uz j == some q)
  | none => true
def wfU (os : List Oper) (Gs : List Pm) (nE : Nat) (Uz : List (Option (Bool × Nat))) : Bool := uniqB Uz && (List.range Uz.length).all fun i => match usM Uz i with
  | none => true
  | some (true, j) => (Gs.getD j Pm.none).isNew && (match os[i]? with | some o => o.after.toList.any (fun e => Region.binds .any e && e.on == j) | none => false)
  | some (false, e) => Nat.blt e nE
def BsL (Es : List Eld) (Bs : List (Nat → Prop)) : List (Option (Bool × Nat)) → List (Nat → Prop) → Prop
  | [], _ => True
  | none :: r, b :: bs => b = noB ∧ BsL Es Bs r bs
  | some (true, j) :: r, b :: bs => b = Bs.getD j noB ∧ BsL Es Bs r bs
  | some (false, e) :: r, b :: bs => (∀ E, Es[e]? = some E → b = E.T) ∧ BsL Es Bs r bs
  | _ :: _, [] => False
def SubL (S : Nat → Prop) : List (Nat → Prop) → Prop
  | [] => True
  | b :: r => (∀ x, b x → S x) ∧ SubL S r
def EldsM (S : Nat → Prop) (w0 : World) : List Eld → Prop
  | [] => True
  | E :: r => ((∀ b, E.T b → S b) ∧ E.A w0 ∧ (∀ (k : Nat) (E' : Eld), r[k]? = some E' → Apart E.T E'.T)) ∧ EldsM S w0 r
theorem us_lt {Uz : List (Option (Bool × Nat))} {i : Nat} {q : Bool × Nat} (h : usM Uz i = some q) : i < Uz.length := by
  unfold usM at h
  rcases Nat.lt_or_ge i Uz.length with h' | h'
  · exact h'
  · simp [List.getD, List.getElem?_eq_none h'] at h
theorem uniq_at {Uz : List (Option (Bool × Nat))} (h : uniqB Uz = true) {i j : Nat} {q : Bool × Nat} (hi : usM Uz i = some q) (hj : usM Uz j = some q) : i = j := by
  have := List.all_eq_true.1 (List.all_eq_true.1 h i (List.mem_range.2 (us_lt hi))) j (List.mem_range.2 (us_lt hj))
  rw [hi, hj] at this
  simpa using this
theorem bs_at {Es : List Eld} {Bs : List (Nat → Prop)} : ∀ {Uz : List (Option (Bool × Nat))} {bs : List (Nat → Prop)}, BsL Es Bs Uz bs → ∀ i, i < Uz.length → match usM Uz i with
    | none => bs.getD i noB = noB
    | some (true, j) => bs.getD i noB = Bs.getD j noB
    | some (false, e) => ∀ E, Es[e]? = some E → bs.getD i noB = E.T := by
  intro Uz
  induction Uz with
  | nil => intro bs _ i hi; exact absurd hi (Nat.not_lt_zero _)
  | cons u r ih =>
    intro bs h i hi
    cases bs with
    | nil => exact (by cases u with | none => exact h.elim | some q => obtain ⟨b, j⟩ := q; cases b <;> exact h.elim)
    | cons b bs =>
      cases i with
      | zero =>
        cases u with
        | none => exact h.1
        | some q => obtain ⟨x, j⟩ := q; cases x <;> exact h.1
      | succ i =>
        have hr : BsL Es Bs r bs := by
          cases u with
          | none => exact h.2
          | some q => obtain ⟨x, j⟩ := q; cases x <;> exact h.2
        exact ih hr i (Nat.lt_of_succ_lt_succ hi)
theorem sub_at {S : Nat → Prop} : ∀ {Bs : List (Nat → Prop)}, SubL S Bs → ∀ i x, Bs.getD i noB x → S x := by
  intro Bs
  induction Bs with
  | nil => intro _ i x h; exact absurd h (by simp [List.getD, noB])
  | cons b r ih =>
    intro h i x hx
    cases i with
    | zero => exact h.1 x hx
    | succ i => exact ih h.2 i x hx
theorem EldsM.at {S : Nat → Prop} {w0 : World} : ∀ {Es : List Eld}, EldsM S w0 Es → ∀ (e : Nat) (E : Eld), Es[e]? = some E → (∀ b, E.T b → S b) ∧ E.A w0 := by
  intro Es
  induction Es with
  | nil => intro _ e E h; simp at h
  | cons x r ih =>
    intro h e E he
    cases e with
    | zero => simp at he; subst he; exact ⟨h.1.1, h.1.2.1⟩
    | succ e => exact ih h.2 e E (by simpa using he)
theorem EldsM.far {S : Nat → Prop} {w0 : World} : ∀ {Es : List Eld}, EldsM S w0 Es → ∀ (e e' : Nat) (E E' : Eld), e ≠ e' → Es[e]? = some E → Es[e']? = some E' → Apart E.T E'.T := by
  intro Es
  induction Es with
  | nil => intro _ e e' E E' _ h; simp at h
  | cons x r ih =>
    intro h e e' E E' hne he he'
    cases e with
    | zero =>
      cases e' with
      | zero => exact absurd rfl hne
      | succ k => simp at he; subst he; exact h.1.2.2 k E' (by simpa using he')
    | succ k =>
      cases e' with
      | zero => simp at he'; subst he'; exact (h.1.2.2 k E (by simpa using he)).symm
      | succ k' => exact ih h.2 k k' E E' (fun z => hne (by rw [z])) (by simpa using he) (by simpa using he')
def LeftM (Gs : List Pm) (i : Nat) (Tu : Nat → Prop) (w : World) (v : Value) (w' : World) : Prop := match Gs.getD i Pm.none with
  | .eq x => v = x ∧ Kept Tu w w'
  | .new t => Kept Tu w w' ∧ ∃ T', t.B v T' w' ∧ Grew w Tu T'
/-- Where that lies which is used up. -/
def useT (Uz : List (Option (Bool × Nat))) (Es : List Eld) (Tf : Nat → Nat → Prop) (i : Nat) (Tu : Nat → Prop) : Prop := match usM Uz i with
  | none => Tu = noB
  | some (true, j) => Tu = Tf j
  | some (false, e) => ∀ E, Es[e]? = some E → Tu = E.T
theorem wfU_at {os : List Oper} {Gs : List Pm} {nE : Nat} {Uz : List (Option (Bool × Nat))} (h : wfU os Gs nE Uz = true) {i : Nat} {q : Bool × Nat} (hi : usM Uz i = some q) : match q with
    | (true, j) => (∃ t, Gs.getD j Pm.none = .new t) ∧ ∃ o, os[i]? = some o ∧ ∃ e ∈ o.after.toList, Region.binds .any e = true ∧ e.on = j
    | (false, e) => e < nE := by
  unfold wfU at h
  simp only [Bool.and_eq_true] at h
  have := List.all_eq_true.1 h.2 i (List.mem_range.2 (us_lt hi))
  rw [hi] at this
  obtain ⟨b, j⟩ := q
  cases b with
  | false => simpa [Nat.blt_eq] using this
  | true =>
    simp only [Bool.and_eq_true] at this
    refine ⟨?_, ?_⟩
    · cases hg : Gs.getD j Pm.none with
      | eq x => rw [hg] at this; simp [Pm.isNew] at this
      | new t => exact ⟨t, rfl⟩
    · cases ho : os[i]? with
      | none => rw [ho] at this; simp at this
      | some o =>
        rw [ho] at this
        obtain ⟨e, he, hb⟩ := List.any_eq_true.1 this.2
        simp only [Bool.and_eq_true, beq_iff_eq] at hb
        exact ⟨o, rfl, e, he, hb.1, hb.2⟩
theorem used_up {Uz : List (Option (Bool × Nat))} {L : Nat → Bool} {i : Nat} {q : Bool × Nat} (h : ¬ usedM Uz (upL L i) q) : ¬ usedM Uz L q := fun ⟨k, hk, hl⟩ => h ⟨k, hk, by unfold upL; split <;> first | rfl | exact hl⟩
theorem up_cases {L : Nat → Bool} {i j : Nat} (h : upL L i j = true) : j = i ∨ (j ≠ i ∧ L j = true) := by
  by_cases e : j = i
  · exact .inl e
  · exact .inr ⟨e, by rwa [show upL L i j = L j from if_neg e] at h⟩
def setT (Tf : Nat → Nat → Prop) (i : Nat) (T' : Nat → Prop) : Nat → Nat → Prop := fun c => if c = i then T' else Tf c
/-- One more operation. -/
theorem JM.more {S : Nat → Prop} {w0 w w' : World} {os : List Oper} {Gs : List Pm} {Uz : List (Option (Bool × Nat))} {Es : List Eld} {Bs : List (Nat → Prop)} {M : List (Nat × Nat)} {L : Nat → Bool} {v : Nat → Value} {Tf : Nat → Nat → Prop} {i : Nat} {x : Value} {Tu : Nat → Prop}
    (hwf : wfU os Gs Es.length Uz = true) (hlen : Uz.length = os.length) (hio : i < os.length) (hBs : BsL Es Bs Uz Bs) (hSub : SubL S Bs) (hE : EldsM S w0 Es) (h : JM S w0 Gs Uz Es Bs M L v Tf w) (hi : L i = false) (hM : ∀ k, (i, k) ∈ M → L k = true) (hU : ∀ j, usM Uz i = some (true, j) → L j = true) (hT : useT Uz Es Tf i Tu) (hx : LeftM Gs i Tu w x w') : ∃ Tf', JM S w0 Gs Uz Es Bs M (upL L i) (upV v i x) Tf' w' := by
  have huq : uniqB Uz = true := by unfold wfU at hwf; simp only [Bool.and_eq_true] at hwf; exact hwf.1
  have hcl : ∀ j k, (j, k) ∈ M → upL L i j = true → upL L i k = true := fun j k hm hj => by
    have hk : L k = true := by
      rcases up_cases hj with rfl | ⟨_, hj⟩
      · exact hM k hm
      · exact h.clos j k hm hj
    unfold upL; split <;> first | rfl | exact hk
  have free : ∀ q, usM Uz i = some q → ¬ usedM Uz L q := fun q hq ⟨k, hk, hl⟩ => by
    rw [uniq_at huq hk hq, hi] at hl; cases hl
  have hgu : Grew w0 (Bs.getD i noB) Tu := by
    have hb := bs_at hBs i (by omega)
    unfold useT at hT
    cases hu : usM Uz i with
    | none => rw [hu] at hT; simp only at hT; subst hT; exact fun _ z => z.elim
    | some q =>
      have hq := wfU_at hwf hu
      obtain ⟨b, j⟩ := q
      cases b with
      | true =>
        rw [hu] at hT hb
        simp only at hT hb hq
        obtain ⟨⟨t, ht⟩, _⟩ := hq
        subst hT; rw [hb]; exact h.grew j t (hU j hu) ht
      | false =>
        rw [hu] at hT hb
        simp only at hT hb hq
        obtain ⟨E, hE'⟩ : ∃ E, Es[j]? = some E := ⟨Es[j], List.getElem?_eq_getElem hq⟩
        rw [hT E hE', hb E hE']; exact Grew.refl _ _
  have hkS : Kept Tu w w' → Kept S w0 w' := fun hk => h.kept.trans hk (fun b hb hTb => (hgu b hTb).elim (fun z => sub_at hSub i b z) (fun z => absurd hb (Nat.not_lt.2 z)))
  have farT : ∀ j t, L j = true → Gs.getD j Pm.none = .new t → ¬ usedM Uz (upL L i) (true, j) → Apart (Tf j) Tu := fun j t hj ht hn => by
    unfold useT at hT
    cases hu : usM Uz i with
    | none => rw [hu] at hT; simp only at hT; subst hT; exact fun _ _ z => z
    | some q =>
      have hq := wfU_at hwf hu
      obtain ⟨b, k⟩ := q
      cases b with
      | true =>
        rw [hu] at hT
        simp only at hT hq
        obtain ⟨⟨t', ht'⟩, _⟩ := hq
        subst hT
        exact h.tt j k t t' (fun e => hn ⟨i, by rw [hu, e], by unfold upL; simp⟩) hj (hU k hu) ht ht' (used_up hn) (free _ hu)
      | false =>
        rw [hu] at hT
        simp only at hT hq
        obtain ⟨E, hE'⟩ : ∃ E, Es[k]? = some E := ⟨Es[k], List.getElem?_eq_getElem hq⟩
        rw [hT E hE']; exact h.te j k t E hj ht (used_up hn) hE' (free _ hu)
  have farE : ∀ (e : Nat) (E : Eld), Es[e]? = some E → ¬ usedM Uz (upL L i) (false, e) → Apart E.T Tu := fun e E he hn => by
    unfold useT at hT
    cases hu : usM Uz i with
    | none => rw [hu] at hT; simp only at hT; subst hT; exact fun _ _ z => z
    | some q =>
      have hq := wfU_at hwf hu
      obtain ⟨b, k⟩ := q
      cases b with
      | true =>
        rw [hu] at hT
        simp only at hT hq
        obtain ⟨⟨t', ht'⟩, _⟩ := hq
        subst hT
        exact (h.te k e t' E (hU k hu) ht' (free _ hu) he (used_up hn)).symm
      | false =>
        rw [hu] at hT
        simp only at hT hq
        obtain ⟨E', hE'⟩ : ∃ E, Es[k]? = some E := ⟨Es[k], List.getElem?_eq_getElem hq⟩
        rw [hT E' hE']; exact hE.far e k E E' (fun z => hn ⟨i, by rw [hu, z], by unfold upL; simp⟩) he hE'
  unfold LeftM at hx
  cases eg : Gs.getD i Pm.none with
  | eq y =>
    rw [eg] at hx
    obtain ⟨hv, kU⟩ := hx
    refine ⟨Tf, hkS kU, fun j z hj hz => ?_, fun j t hj ht hn => ?_, fun e E he hn => (E.st w w' Tu (h.olds e E he (used_up hn)) kU (farE e E he hn)), fun j t hj ht => ?_, fun a b t t' hab ha hb hta htb hna hnb => ?_, fun a e t E ha hta hna he hne => ?_, hcl⟩
    · rcases up_cases hj with rfl | ⟨hji, hj⟩
      · rw [show upV v j x j = x from if_pos rfl, hv]; rw [eg] at hz; cases hz; rfl
      · rw [show upV v i x j = v j from if_neg hji]; exact h.vals j z hj hz
    · rcases up_cases hj with rfl | ⟨hji, hj⟩
      · rw [eg] at ht; cases ht
      · rw [show upV v i x j = v j from if_neg hji]; exact t.st _ w w' Tu _ (h.things j t hj ht (used_up hn)) kU (farT j t hj ht hn)
    · rcases up_cases hj with rfl | ⟨_, hj⟩
      · rw [eg] at ht; cases ht
      · exact h.grew j t hj ht
    · rcases up_cases ha with rfl | ⟨_, ha⟩
      · rw [eg] at hta; cases hta
      · rcases up_cases hb with rfl | ⟨_, hb⟩
        · rw [eg] at htb; cases htb
        · exact h.tt a b t t' hab ha hb hta htb (used_up hna) (used_up hnb)
    · rcases up_cases ha with rfl | ⟨_, ha⟩
      · rw [eg] at hta; cases hta
      · exact h.te a e t E ha hta (used_up hna) he (used_up hne)
  | new y =>
    rw [eg] at hx
    obtain ⟨kU, T', hB, hG⟩ := hx
    have fi : setT Tf i T' i = T' := if_pos rfl
    have fj : ∀ c, c ≠ i → setT Tf i T' c = Tf c := fun c hc => if_neg hc
    have nT : ∀ j t, L j = true → Gs.getD j Pm.none = .new t → ¬ usedM Uz (upL L i) (true, j) → Apart T' (Tf j) := fun j t hj ht hn => ((farT j t hj ht hn).symm).grew hG (t.li _ w _ (h.things j t hj ht (used_up hn)))
    refine ⟨setT Tf i T', hkS kU, fun j z hj hz => ?_, fun j t hj ht hn => ?_, fun e E he hn => (E.st w w' Tu (h.olds e E he (used_up hn)) kU (farE e E he hn)), fun j t hj ht => ?_, fun a b t t' hab ha hb hta htb hna hnb => ?_, fun a e t E ha hta hna he hne => ?_, hcl⟩
    · rcases up_cases hj with rfl | ⟨hji, hj⟩
      · rw [eg] at hz; cases hz
      · rw [show upV v i x j = v j from if_neg hji]; exact h.vals j z hj hz
    · rcases up_cases hj with rfl | ⟨hji, hj⟩
      · rw [eg] at ht; cases ht
        rw [show upV v j x j = x from if_pos rfl, fi]; exact hB
      · rw [show upV v i x j = v j from if_neg hji, fj j hji]; exact t.st _ w w' Tu _ (h.things j t hj ht (used_up hn)) kU (farT j t hj ht hn)
    · rcases up_cases hj with rfl | ⟨hji, hj⟩
      · rw [fi]
        exact fun b hb => (hG b hb).elim (fun z => hgu b z) (fun z => .inr (Nat.le_trans h.kept.size z))
      · rw [fj j hji]; exact h.grew j t hj ht
    · rcases up_cases ha with rfl | ⟨hai, ha2⟩
      · rcases up_cases hb with rfl | ⟨hbi, hb2⟩
        · exact absurd rfl hab
        · rw [fi, fj b hbi]; exact nT b t' hb2 htb hnb
      · rcases up_cases hb with rfl | ⟨hbi, hb2⟩
        · rw [fi, fj a hai]; exact (nT a t ha2 hta hna).symm
        · rw [fj a hai, fj b hbi]; exact h.tt a b t t' hab ha2 hb2 hta htb (used_up hna) (used_up hnb)
    · rcases up_cases ha with rfl | ⟨hai, ha⟩
      · rw [fi]; exact ((farE e E he hne).symm).grew hG (E.li w (h.olds e E he (used_up hne)))
      · rw [fj a hai]; exact h.te a e t E ha hta (used_up hna) he (used_up hne)
/-- Whether nothing has used it up, where operation i runs. -/
def freeB (Uz : List (Option (Bool × Nat))) (M : List (Nat × Nat)) (i : Nat) (q : Bool × Nat) : Bool := (List.range Uz.length).all fun k => !(usM Uz k == some q) || k == i || M.contains (k, i)
def thingM (w0 : World) (Gs : List Pm) (Uz : List (Option (Bool × Nat))) (Bs : List (Nat → Prop)) (M : List (Nat × Nat)) (i j : Nat) (x : Value) (w : World) : Prop := match Gs.getD j Pm.none with
  | .eq _ => True
  | .new t => freeB Uz M i (true, j) = true → ∃ T, t.B x T w ∧ Grew w0 (Bs.getD j noB) T
def valM (Gs : List Pm) (j : Nat) (x : Value) : Prop := match Gs.getD j Pm.none with
  | .eq y => x = y
  | .new _ => True
def ToldM (w0 : World) (Gs : List Pm) (Uz : List (Option (Bool × Nat))) (Bs : List (Nat → Prop)) (M : List (Nat × Nat)) (i : Nat) : Nat → Value → World → Prop := fun j x w => valM Gs j x ∧ thingM w0 Gs Uz Bs M i j x w ∧ ∀ k, (j, k) ∈ M → ∃ y, thingM w0 Gs Uz Bs M i k y w
def AheadM (Uz : List (Option (Bool × Nat))) (Es : List Eld) (M : List (Nat × Nat)) (i : Nat) (w : World) : Prop := ∀ (e : Nat) (E : Eld), Es[e]? = some E → freeB Uz M i (false, e) = true → E.A w
def UseM (w0 : World) (D : List (Option Tmp)) (Gs : List Pm) (Uz : List (Option (Bool × Nat))) (Es : List Eld) (Bs : List (Nat → Prop)) (F : Nat → Value) (w : World) (i : Nat) (Tu : Nat → Prop) : Prop := match usM Uz i with
  | none => Tu = noB
  | some (true, j) => ∀ t, Gs.getD j Pm.none = .new t → ∃ x, t.B x Tu w ∧ Grew w0 (Bs.getD j noB) Tu ∧ ∀ d, D.getD j none = some d → F d = x
  | some (false, e) => ∀ E, Es[e]? = some E → Tu = E.T ∧ E.A w
section
variable {P : Program} {N : Nat} {F : Nat → Value} {w : World} {Q : Exit → (Nat → Value) → World → Prop} {S : Nat → Prop} {M : List (Nat × Nat)} {D : List (Option Tmp)} {Gs : List Pm} {Uz : List (Option (Bool × Nat))} {Es : List Eld} {Bs : List (Nat → Prop)}
def StepFM (S : Nat → Prop) (M : List (Nat × Nat)) (N : Nat) (P : Program) (D : List (Option Tmp)) (Gs : List Pm) (Uz : List (Option (Bool × Nat))) (Es : List Eld) (Bs : List (Nat → Prop)) (F0 : Nat → Value) (w0 : World) (i : Nat) (o : Oper) : Prop :=
  ∀ (F : Nat → Value) (w : World) (Tu : Nat → Prop), Kept S w0 w → (∀ t, Nat.blt t N = true → some t ∉ D → F t = F0 t) → DepsF D (ToldM w0 Gs Uz Bs M i) F w o.after.toList → AheadM Uz Es M i w → UseM w0 D Gs Uz Es Bs F w i Tu →
    match o.guard with
    | none => Yields P (ev F) o w (LeftM Gs i Tu w)
    | some (j, want) => ∃ d, D.getD j none = some d ∧
      ((F d = .bool want ∧ Yields P (ev F) o w (LeftM Gs i Tu w)) ∨ ((F d = .bool (!want) ∨ F d = undef) ∧ Gs.getD i Pm.none = .eq undef))
def StepsFM (S : Nat → Prop) (M : List (Nat × Nat)) (N : Nat) (P : Program) (D : List (Option Tmp)) (Gs : List Pm) (Uz : List (Option (Bool × Nat))) (Es : List Eld) (Bs : List (Nat → Prop)) (F0 : Nat → Value) (w0 : World) : Nat → List Oper → Prop
  | _, [] => True
  | i, o :: r => StepFM S M N P D Gs Uz Es Bs F0 w0 i o ∧ StepsFM S M N P D Gs Uz Es Bs F0 w0 (i + 1) r
theorem stepsFM_nil {F0 : Nat → Value} {w0 : World} {i : Nat} : StepsFM S M N P D Gs Uz Es Bs F0 w0 i [] := trivial
theorem stepsFM_cons {F0 : Nat → Value} {w0 : World} {i : Nat} {o : Oper} {r : List Oper} (h : StepFM S M N P D Gs Uz Es Bs F0 w0 i o) (k : StepsFM S M N P D Gs Uz Es Bs F0 w0 (i + 1) r) : StepsFM S M N P D Gs Uz Es Bs F0 w0 i (o :: r) := ⟨h, k⟩
theorem StepFM.one {F0 : Nat → Value} {w0 : World} {i : Nat} {o : Oper} (hg : o.guard = none) (hu : usM Uz i = none)
    (h : ∀ (F : Nat → Value) (w : World), Kept S w0 w → (∀ t, Nat.blt t N = true → some t ∉ D → F t = F0 t) → DepsF D (ToldM w0 Gs Uz Bs M i) F w o.after.toList → AheadM Uz Es M i w → Yields P (ev F) o w (LeftM Gs i noB w)) : StepFM S M N P D Gs Uz Es Bs F0 w0 i o := by
  intro F w Tu h1 h2 h3 h4 h5
  unfold UseM at h5
  rw [hu] at h5; simp only at h5; subst h5
  rw [hg]; exact h F w h1 h2 h3 h4
/-- What an operation left is used up. -/
theorem StepFM.uses {F0 : Nat → Value} {w0 : World} {i : Nat} {o : Oper} (j : Nat) (d : Tmp) {t : Thm} (hg : o.guard = none) (hu : usM Uz i = some (true, j)) (ht : Gs.getD j Pm.none = .new t) (hd : D.getD j none = some d)
    (h : ∀ (F : Nat → Value) (w : World) (Tu : Nat → Prop), Kept S w0 w → (∀ t, Nat.blt t N = true → some t ∉ D → F t = F0 t) → DepsF D (ToldM w0 Gs Uz Bs M i) F w o.after.toList → AheadM Uz Es M i w → t.B (F d) Tu w → Grew w0 (Bs.getD j noB) Tu → Yields P (ev F) o w (LeftM Gs i Tu w)) : StepFM S M N P D Gs Uz Es Bs F0 w0 i o := by
  intro F w Tu h1 h2 h3 h4 h5
  unfold UseM at h5
  rw [hu] at h5; simp only at h5
  obtain ⟨x, hB, hG, hx⟩ := h5 t ht
  rw [hg]; exact h F w Tu h1 h2 h3 h4 (by rw [hx d hd]; exact hB) hG
/-- What was there is turned. -/
theorem StepFM.turns {F0 : Nat → Value} {w0 : World} {i : Nat} {o : Oper} (e : Nat) {E : Eld} (hg : o.guard = none) (hu : usM Uz i = some (false, e)) (he : Es[e]? = some E)
    (h : ∀ (F : Nat → Value) (w : World), Kept S w0 w → (∀ t, Nat.blt t N = true → some t ∉ D → F t = F0 t) → DepsF D (ToldM w0 Gs Uz Bs M i) F w o.after.toList → AheadM Uz Es M i w → E.A w → Yields P (ev F) o w (LeftM Gs i E.T w)) : StepFM S M N P D Gs Uz Es Bs F0 w0 i o := by
  intro F w Tu h1 h2 h3 h4 h5
  unfold UseM at h5
  rw [hu] at h5; simp only at h5
  obtain ⟨hT, hA⟩ := h5 E he
  subst hT
  rw [hg]; exact h F w h1 h2 h3 h4 hA
theorem free_not {L : Nat → Bool} {i : Nat} {q : Bool × Nat} (hi : L i = false) (hc : ∀ j k, (j, k) ∈ M → L j = true → L k = true) (h : freeB Uz M i q = true) : ¬ usedM Uz L q := fun ⟨k, hk, hl⟩ => by
  have := List.all_eq_true.1 h k (List.mem_range.2 (us_lt hk))
  simp only [hk, beq_self_eq_true, Bool.not_true, Bool.false_or, Bool.or_eq_true, beq_iff_eq] at this
  rcases this with e | e
  · rw [e, hi] at hl; cases hl
  · have := hc k i (by simpa using e) hl; rw [hi] at this; cases this
theorem StepFM.step {os : List Oper} {w0 : World} {i : Nat} {o : Oper} {a0 : Act} (hwf : wfU os Gs Es.length Uz = true) (hlen : Uz.length = os.length) (hBs : BsL Es Bs Uz Bs) (hSub : SubL S Bs) (hE : EldsM S w0 Es) (hmo : mustOk os M = true) (hio : os[i]? = some o) (ha : Fr N F a0) (h : StepFM S M N P D Gs Uz Es Bs F w0 i o) : StepJ os P D (fun L v w => ∃ Tf, JM S w0 Gs Uz Es Bs M L v Tf w) a0 i o := by
  rintro L v a w ⟨Tf, hJ⟩ hi hdone hout hhere _
  have hi' : i < os.length := by
    rcases Nat.lt_or_ge i os.length with h' | h'
    · exact h'
    · rw [List.getElem?_eq_none h'] at hio; cases hio
  have key : ∀ c, L c = true → ∀ x, (∀ d, D[c]? = some (some d) → x = v c) → (x = v c) → thingM w0 Gs Uz Bs M i c x w := fun c hc x _ hx => by
    unfold thingM
    cases e' : Gs.getD c Pm.none with
    | eq y => trivial
    | new t =>
      intro hf
      rw [hx]
      exact ⟨Tf c, hJ.things c t hc e' (free_not hi hJ.clos hf), hJ.grew c t hc e'⟩
  have hDe : ∀ c d, D.getD c none = some d → D[c]? = some (some d) := fun c d hd => by
    unfold List.getD at hd
    cases hq : D[c]? with
    | none => rw [hq] at hd; cases hd
    | some y => rw [hq] at hd; simp at hd; rw [hd]
  have hdeps : DepsF D (ToldM w0 Gs Uz Bs M i) (fun t => a.tmps.getD t undef) w o.after.toList := by
    refine Deps.toF (Deps.mk fun e he hb d hd => ?_)
    have hl := hdone e he hb
    rw [hhere e.on d hl (hDe e.on d hd)]
    refine ⟨?_, key e.on hl _ (fun _ _ => rfl) rfl, fun c hc => ⟨v c, key c (hJ.clos _ _ hc hl) _ (fun _ _ => rfl) rfl⟩⟩
    unfold valM
    cases e' : Gs.getD e.on Pm.none with
    | eq y => exact hJ.vals e.on y hl e'
    | new t => trivial
  have hM : ∀ k, (i, k) ∈ M → L k = true := fun k hk => by
    have := List.all_eq_true.1 hmo _ hk
    simp only [hio] at this
    obtain ⟨e, he, hb⟩ := List.any_eq_true.1 this
    simp only [Bool.and_eq_true, Bool.or_eq_true, beq_iff_eq] at hb
    have hl := hdone e he hb.1
    rcases hb.2 with h1 | h1
    · rw [← h1]; exact hl
    · exact hJ.clos _ _ (by simpa using h1) hl
  have hU : ∀ j, usM Uz i = some (true, j) → L j = true := fun j hj => by
    obtain ⟨_, o', ho', e, he, hb, hej⟩ := wfU_at hwf hj
    rw [hio] at ho'; cases ho'
    rw [← hej]; exact hdone e he hb
  have huq : uniqB Uz = true := by unfold wfU at hwf; simp only [Bool.and_eq_true] at hwf; exact hwf.1
  have free : ∀ q, usM Uz i = some q → ¬ usedM Uz L q := fun q hq ⟨k, hk, hl⟩ => by
    rw [uniq_at huq hk hq, hi] at hl; cases hl
  obtain ⟨Tu, hTu⟩ : ∃ Tu, useT Uz Es Tf i Tu := by
    unfold useT
    cases usM Uz i with
    | none => exact ⟨noB, rfl⟩
    | some q =>
      obtain ⟨b, j⟩ := q
      cases b with
      | true => exact ⟨Tf j, rfl⟩
      | false =>
        cases he : Es[j]? with
        | none => exact ⟨noB, fun E hE => by rw [he] at hE; cases hE⟩
        | some E => exact ⟨E.T, fun E' hE' => by rw [he] at hE'; cases hE'; rfl⟩
  have huse : UseM w0 D Gs Uz Es Bs (fun t => a.tmps.getD t undef) w i Tu := by
    have hTu' := hTu
    unfold useT at hTu'
    unfold UseM
    cases hu : usM Uz i with
    | none => rw [hu] at hTu'; exact hTu'
    | some q =>
      obtain ⟨b, j⟩ := q
      rw [hu] at hTu'
      cases b with
      | true =>
        simp only at hTu' ⊢
        subst hTu'
        exact fun t ht => ⟨v j, hJ.things j t (hU j hu) ht (free _ hu), hJ.grew j t (hU j hu) ht, fun d hd => hhere j d (hU j hu) (hDe j d hd)⟩
      | false => exact fun E hE' => ⟨hTu' E hE', hJ.olds j E hE' (free _ hu)⟩
  have h1 := h (fun t => a.tmps.getD t undef) w Tu hJ.kept (fun t hb ht => by rw [← ha.at' t hb]; exact hout t ht) hdeps (fun e E he hf => hJ.olds e E he (free_not hi hJ.clos hf)) huse
  have more : ∀ (x : Value) (w' : World), LeftM Gs i Tu w x w' → ∃ Tf', JM S w0 Gs Uz Es Bs M (upL L i) (upV v i x) Tf' w' := fun x w' hx => JM.more hwf hlen hi' hBs hSub hE hJ hi hM hU hTu hx
  rw [← eval_ev a] at h1
  unfold goes
  cases hg : o.guard with
  | none => rw [hg] at h1; exact ⟨fun _ => h1.mono' fun x w' hx => more x w' hx, fun e => by cases e⟩
  | some g =>
    obtain ⟨j, want⟩ := g
    rw [hg] at h1
    obtain ⟨d, hd, h1⟩ := h1
    simp only [hd]
    have hev : a.eval (.tmp d) = a.tmps.getD d undef := rfl
    rcases h1 with ⟨hv, hy⟩ | ⟨hv, hs⟩
    · rw [hev, hv]; exact ⟨fun _ => hy.mono' fun x w' hx => more x w' hx, fun e => by simp at e⟩
    · refine ⟨fun e => ?_, fun _ => more undef w (by unfold LeftM; rw [hs]; exact ⟨rfl, Kept.refl _ _⟩)⟩
      rcases hv with hv | hv
      · rw [hev, hv] at e; cases want <;> simp at e
      · rw [hev, hv] at e; simp [undef] at e
theorem StepsFM.steps {all : List Oper} {w0 : World} {a0 : Act} (hwf : wfU all Gs Es.length Uz = true) (hlen : Uz.length = all.length) (hBs : BsL Es Bs Uz Bs) (hSub : SubL S Bs) (hE : EldsM S w0 Es) (hmo : mustOk all M = true) (ha : Fr N F a0) : ∀ {os : List Oper} {i : Nat}, (∀ k o, os[k]? = some o → all[i + k]? = some o) → StepsFM S M N P D Gs Uz Es Bs F w0 i os → StepsJ all P D (fun L v w => ∃ Tf, JM S w0 Gs Uz Es Bs M L v Tf w) a0 i os := by
  intro os
  induction os with
  | nil => intro i _ _; exact trivial
  | cons o r ih =>
    intro i hat h
    exact ⟨h.1.step hwf hlen hBs hSub hE hmo (hat 0 o rfl) ha, ih (fun k o' hk => by have := hat (k + 1) o' hk; rwa [show i + (k + 1) = i + 1 + k by omega] at this) h.2⟩
def leftB (Uz : List (Option (Bool × Nat))) (i : Nat) : Bool := (List.range Uz.length).all fun k => !(usM Uz k == some (true, i))
theorem left_not {L : Nat → Bool} {i : Nat} (h : leftB Uz i = true) : ¬ usedM Uz L (true, i) := fun ⟨k, hk, _⟩ => by
  have := List.all_eq_true.1 h k (List.mem_range.2 (us_lt hk))
  simp [hk] at this
theorem wq_made {id : Nat} {ops : Array Oper} (M : List (Nat × Nat)) (D : List (Option Tmp)) (Gs : List Pm) (Uz : List (Option (Bool × Nat))) (Es : List Eld) (Bs : List (Nat → Prop)) (hm : P.follows .mixedOrders = true) (hpl : plain N 0 D ops.toList = true) (hmo : mustOk ops.toList M = true) (hsz : Gs.length = ops.size) (hlen : Uz.length = ops.toList.length) (hwf : wfU ops.toList Gs Es.length Uz = true) (hBs : BsL Es Bs Uz Bs) (hSub : SubL S Bs) (hE : EldsM S w Es) (hsteps : StepsFM S M N P D Gs Uz Es Bs F w 0 ops.toList)
    (hend : ∀ (v : Nat → Value) (Tf : Nat → Nat → Prop) (F' : Nat → Value) (w' : World), Kept S w w' → (∀ i, i < ops.size → valM Gs i (v i)) → (∀ i t, Gs.getD i Pm.none = .new t → leftB Uz i = true → t.B (v i) (Tf i) w' ∧ Grew w (Bs.getD i noB) (Tf i)) → (∀ i j t t', i ≠ j → Gs.getD i Pm.none = .new t → Gs.getD j Pm.none = .new t' → leftB Uz i = true → leftB Uz j = true → Apart (Tf i) (Tf j)) → (∀ t, F' t = putsF v 0 D F t) → Q .normal F' w') : wq none P N (.region id ops true) Q F w := by
  intro a ha
  refine wpIn_wide.2 ?_
  refine wp_region_inv D (fun L v w' => ∃ Tf, JM S w Gs Uz Es Bs M L v Tf w') hm (by rw [ha.size]; exact hpl) ⟨fun _ => noB, (Kept.refl _ w).drew, fun _ _ e => (by cases e), fun _ _ e => (by cases e), fun e E he _ => E.st w _ (fun _ => False) (hE.at e E he).2 (Kept.refl _ w).drew (fun _ _ z => z), fun _ _ e => (by cases e), fun _ _ _ _ _ e => (by cases e), fun _ _ _ _ e => (by cases e), fun _ _ _ e => (by cases e)⟩ (hsteps.steps hwf hlen hBs hSub hE hmo ha (fun k o hk => by rw [Nat.zero_add]; exact hk)) fun L v w' ⟨Tf, hJ⟩ hL => ?_
  have hlt : ∀ i t, Gs.getD i Pm.none = .new t → L i = true := fun i t e => by
    refine hL i ?_
    rw [← hsz]
    rcases Nat.lt_or_ge i Gs.length with h' | h'
    · exact h'
    · have : Gs.getD i Pm.none = Pm.none := by simp [List.getD, List.getElem?_eq_none h']
      rw [this] at e; cases e
  refine ⟨putsF v 0 D F, putAll_fr v D 0 F a ha (plain_fits hpl), hend v Tf _ w' hJ.kept (fun i hi => ?_) (fun i t e hl => ⟨hJ.things i t (hlt i t e) e (left_not hl), hJ.grew i t (hlt i t e) e⟩) (fun i j t t' hij e1 e2 h1 h2 => hJ.tt i j t t' hij (hlt i t e1) (hlt j t' e2) e1 e2 (left_not h1) (left_not h2)) fun _ => rfl⟩
  unfold valM
  cases e' : Gs.getD i Pm.none with
  | eq y => exact hJ.vals i y (hL i hi) e'
  | new t => trivial
end
end Go.Proofs.Ytnccblhdokplkaa
set_option maxRecDepth 100000
namespace Go.Proofs.Ytnccblhdokplkaa
open Go.RowKit
section
variable {ρ : Operand → Value} {w : World} {o : Oper} {R : Value → World → Prop}
theorem y_builtBn {parts : Array (Nat × Operand)} {n : Nat} {xs : List Operand} {vs : List Value} {l : List Nat} (ho : o.op = .buildSlice 27 n parts) (hn : n = l.length) (hp : parts.toList = (xs.zipIdx 0).map fun x => (x.2, x.1)) (hx : xs.map ρ = vs) (hv : vs = byteVals l) (h0 : 0 < l.length) (hsz : l.length ≤ 65536) (hb : ∀ x ∈ l, x < 256)
    (h : ∀ v w' T, Owb w' T v l → Grew w noB T → Kept (fun _ => False) w w' → R v w') : Yields Try.prog ρ o w R := by
  subst hn; subst hx
  obtain ⟨i0, hi0, hz0, hz1, hz2⟩ := info_parts Try.info_u8
  have hlb : (byteVals l).length = l.length := by simp [byteVals]
  have hlen : xs.length = l.length := by have := congrArg List.length hv; rw [hlb] at this; simpa using this
  have hcells : ∀ m : List Nat, (byteVals m).flatMap (fun v => v.cells.toList) = byteVals m := fun m => by
    induction m with
    | nil => rfl
    | cons a m ih => exact congrArg (Value.int .u8 ((a : Nat) : Int) :: ·) ih
  have hsize : ∀ v ∈ xs.map ρ, v.cells.size = 1 := by
    intro v hv'
    rw [hv] at hv'
    obtain ⟨x, _, rfl⟩ := List.mem_map.1 hv'
    rfl
  have hrun := run_buildSlice (P := Try.prog) w 27 5 l.length (parts.map fun (i, x) => (i, ρ x)) (byteVals l).toArray i0 (.int .u8 0) Try.underlying27 hi0 hz0 (by rw [hz1]; omega) (by rw [hz1]; omega) (by
    rw [hz1]
    have e : (parts.map fun (i, x) => (i, ρ x)).toList = ((xs.map ρ).zipIdx 0).map fun x => (x.2, x.1) := by
      rw [Array.toList_map, hp, List.zipIdx_map, List.map_map, List.map_map]; rfl
    rw [e, Great.fill_whole (by decide) _ _ hsize (by rw [List.length_map, hlen]; simp), hv, hcells])
  refine y_val (v := .slice (some ⟨w.heap.size, 0, none⟩) l.length l.length) (w' := w.alloc (.cells (byteVals l).toArray 5)) (by simp [execOp, ho, hrun]) (h _ _ _ (Owb.of (Row.of_new (B := 0) (l := l) (heap_alloc_new w _) (Nat.zero_le _) (show l.length ≤ maxLen by unfold maxLen; omega) hb)) (fun i hi => .inr ?_) ((Kept.refl _ _).alloc _))
  cases hi; exact Nat.le_refl _
theorem run_make_cap (w : World) (kl kc : IntKind) (n c : Nat) (hnc : n ≤ c) (hc : c < 1099511627776) :
    (Instr.makeSlice 27 (.int kl (n : Int)) (.int kc (c : Int))).run Try.prog w = .ok (.slice (some ⟨w.heap.size, 0, none⟩) n c) (w.alloc (.cells (byteVals (List.replicate c 0)).toArray 5)) := by
  obtain ⟨i0, hi, hz0, hz1, hz2⟩ := info_parts Try.info_u8
  have hr := run_make (P := Try.prog) w 27 5 i0 (.int .u8 0) Try.underlying27 hi hz0 kl kc n c (by omega) (by omega) (by rw [hz2]; omega) (by omega)
  simp only [Int.toNat_natCast, hz1, Nat.mul_one] at hr
  rw [hr, ← byteVals_zeros]
/-- Bytes with room for more. -/
theorem y_makeC {x y : Operand} {kl kc : IntKind} {n c : Nat} {i j : Int} (ho : o.op = .makeSlice 27 x y) (hx : ρ x = .int kl i) (hy : ρ y = .int kc j) (hi : i = (n : Int)) (hj : j = (c : Int)) (hnc : n ≤ c) (hc : c < 1099511627776)
    (h : ∀ v w' T, Owb w' T v (List.replicate n 0) → Grew w noB T → Kept (fun _ => False) w w' → R v w') : Yields Try.prog ρ o w R := by
  subst hi; subst hj
  refine y_val (v := .slice (some ⟨w.heap.size, 0, none⟩) n c) (w' := w.alloc (.cells (byteVals (List.replicate c 0)).toArray 5)) (by simp [execOp, ho, hx, hy, run_make_cap w kl kc n c hnc hc]) (h _ _ _ (Owb.of (w := w.alloc (.cells (byteVals (List.replicate c 0)).toArray 5)) (l := List.replicate n 0) ⟨⟨by rw [byteVals_length]; simp, .inr ⟨w.heap.size, c, _, by rw [List.length_replicate], Nat.zero_le _, heap_alloc_new w _, by rw [List.length_replicate]; exact hnc, by unfold maxLen; omega, by simp [byteVals_length], ?_⟩⟩, zeros_lt n⟩) (fun i hi => .inr ?_) ((Kept.refl _ _).alloc _))
  · simp only [List.length_replicate, Nat.mul_one]
    unfold byteVals
    rw [← List.map_take, List.take_replicate, Nat.min_eq_left hnc]
  · cases hi; exact Nat.le_refl _
theorem y_makeC0 {x y : Operand} {kl kc : IntKind} {c : Nat} {i j : Int} (ho : o.op = .makeSlice 27 x y) (hx : ρ x = .int kl i) (hy : ρ y = .int kc j) (hi : i = 0) (hj : j = (c : Int)) (hc : c < 1099511627776)
    (h : ∀ v w' T, Owb w' T v [] → Grew w noB T → Kept (fun _ => False) w w' → R v w') : Yields Try.prog ρ o w R := y_makeC (n := 0) ho hx hy (by rw [hi]; rfl) hj (Nat.zero_le _) hc h
end
def owThm (l : List Nat) : Thm := ⟨fun v T w => Owb w T v l, fun _ _ _ _ _ h k ha => h.all k ha, fun _ _ _ h => h.live⟩
/-- A struct that is stored into. -/
def stcThm (p : Nat) (t : TypeId) (us : List Value) : Thm := ⟨fun v T w => v = undef ∧ T = onB p ∧ Stc w p t us, fun _ _ _ _ _ h k ha => ⟨h.1, h.2.1, h.2.2.all k (ha p (by rw [h.2.1]; rfl))⟩, fun _ _ _ h => by rw [h.2.1]; exact onB_live h.2.2.lt⟩
def stcEld (p : Nat) (t : TypeId) (zs : List Value) : Eld := ⟨fun w => Stc w p t zs, onB p, fun _ _ _ h k ha => h.all k (ha p rfl), fun _ h => onB_live h.lt⟩
section
variable {ro : Option Nat} {N : Nat} {Q : (Exit → (Nat → Value) → World → Prop)} {F : Nat → Value} {w : World} {o : Oper}
theorem wl_builtBn {ops : Array Oper} {rest : List Oper} {parts : Array (Nat × Operand)} {n : Nat} {xs : List Operand} {vs : List Value} {l : List Nat} (hg : o.guard = none) (hd : fits N o.dst = true) (ho : o.op = .buildSlice 27 n parts) (hn : n = l.length) (hp : parts.toList = (xs.zipIdx 0).map fun x => (x.2, x.1)) (hx : xs.map (ev (cutF N F)) = vs) (hv : vs = byteVals l) (h0 : 0 < l.length) (hsz : l.length ≤ 65536) (hb : ∀ x ∈ l, x < 256)
    (h : ∀ v w' T, Owb w' T v l → Grew w noB T → Kept (fun _ => False) w w' → wl ro Try.prog N ops Q rest (putF F o.dst v) w') : wl ro Try.prog N ops Q (o :: rest) F w :=
  wl_op hg hd (y_builtBn ho hn hp hx hv h0 hsz hb h)
end
end Go.Proofs.Ytnccblhdokplkaa
set_option maxRecDepth 100000
namespace Go.Proofs.Ytnccblhdokplkaa
open Go.RowKit
theorem stcT_seq : StcT Try.prog 24 4 := ⟨_, Try.underlying24, rfl, by kernel_rfl⟩
theorem stcT_head : StcT Try.prog 26 4 := ⟨_, Try.underlying26, rfl, by kernel_rfl⟩
theorem tmod8 {n : Int} (h : 8 ≤ n) : Int.tmod n 8 = n % 8 := Int.tmod_eq_emod_of_nonneg (by omega)
theorem byte_wrap (n : Int) (m : Nat) : IntKind.u8.wrap (n / (m : Int)) = ((btI n m : Nat) : Int) := by
  unfold btI IntKind.wrap; simp [IntKind.bits, IntKind.signed]; omega

theorem seqE_iff {W H R B : Int} : seqE W H R B = 0 ↔ seqOk W H R B := by
  unfold seqE; by_cases h : seqOk W H R B
  · rw [if_pos h]; exact iff_of_true rfl h
  · rw [if_neg h]; exact iff_of_false (by decide) h
theorem headE_iff {K Q D F : Int} : headE K Q D F = 0 ↔ headOk K Q D F := by
  unfold headE; by_cases h : headOk K Q D F
  · rw [if_pos h]; exact iff_of_true rfl h
  · rw [if_neg h]; exact iff_of_false (by decide) h
theorem nm_sub2 (l : List Nat) : nmAt (((l).drop (2)).take ((6) - (2))) 0 = t2 l := by
  unfold t2 nmAt; simp [List.getD, List.getElem?_drop]
theorem nm_sub6 (l : List Nat) : nmAt (((l).drop (6)).take ((10) - (6))) 0 = t3 l := by
  unfold t3 nmAt; simp [List.getD, List.getElem?_drop]
end Go.Proofs.Ytnccblhdokplkaa
set_option maxRecDepth 100000
namespace Go.Proofs.Ytnccblhdokplkaa
open Go.RowKit

def intsV (xs : List Int) : Array Value := (xs.map fun x => Value.int .i64 x).toArray
def sameI (xs ys : List Int) : Bool := decide (xs = ys)
theorem sameI_self (xs : List Int) : sameI xs xs = true := decide_eq_true rfl
theorem sameI_of {xs ys : List Int} (h : xs = ys) : sameI xs ys = true := decide_eq_true h
theorem part_i64 (w : World) (xs : List Int) (i : Nat) (z : Int) (h : xs[i]? = some z) : (part 3 (intsV xs) i).run Try.prog w = .ok (.int .i64 z) w := by
  have e : (intsV xs)[i]? = some (.int .i64 z) := by
    unfold intsV
    rw [List.getElem?_toArray, List.getElem?_map, h]; rfl
  simp [part, isAgg, run_underlying Try.underlying3, e]
theorem run_same_fields (w : World) (d : Nat) (xs ys : List Int) : ∀ (fs : List Field) (k : Nat), fs.map (fun f => (f.name == "_", f.type, f.offset)) = (List.range' k fs.length).map (fun i => (false, 3, i)) → xs.length = k + fs.length → ys.length = k + fs.length →
    (Op.eqFields (d + 1) (intsV xs) (intsV ys) fs).run Try.prog w = .ok (sameI (xs.drop k) (ys.drop k)) w := by
  intro fs
  induction fs with
  | nil =>
    intro k _ hx hy
    simp only [List.length_nil, Nat.add_zero] at hx hy
    rw [List.drop_of_length_le (by omega), List.drop_of_length_le (by omega), sameI_self]
    simp [Op.eqFields]
  | cons f r ih =>
    intro k hf hx hy
    simp only [List.length_cons] at hx hy
    simp only [List.map_cons, List.length_cons, List.range'_succ, List.cons.injEq, Prod.mk.injEq] at hf
    obtain ⟨⟨hn, ht, ho⟩, hr⟩ := hf
    have hn' : f.name ≠ "_" := by simpa using hn
    have hkx : k < xs.length := by omega
    have hky : k < ys.length := by omega
    have p1 := part_i64 w xs k xs[k] (List.getElem?_eq_getElem hkx)
    have p2 := part_i64 w ys k ys[k] (List.getElem?_eq_getElem hky)
    have p3 := ih (k + 1) hr (by omega) (by omega)
    have ex : xs.drop k = xs[k] :: xs.drop (k + 1) := List.drop_eq_getElem_cons hkx
    have ey : ys.drop k = ys[k] :: ys.drop (k + 1) := List.drop_eq_getElem_cons hky
    have hs : sameI (xs.drop k) (ys.drop k) = (decide (xs[k] = ys[k]) && sameI (xs.drop (k + 1)) (ys.drop (k + 1))) := by
      rw [ex, ey]
      generalize xs[k] = a
      generalize ys[k] = b
      generalize xs.drop (k + 1) = X
      generalize ys.drop (k + 1) = Y
      unfold sameI
      by_cases h : a = b <;> simp [h]
    rw [hs]
    generalize sameI (xs.drop (k + 1)) (ys.drop (k + 1)) = q at p3
    generalize xs[k] = a at p1
    generalize ys[k] = b at p2
    simp only [Op.eqFields, ht, ho]
    rw [if_pos hn']
    simp only [Sem.run_bind, p1, p2, Result.andThen_ok, run_equalIn_int w d 3 .i64 .i64 _ _ Try.underlying3]
    by_cases h1 : a = b
    · subst h1
      simp only [beq_self_eq_true, Bool.not_true, Bool.false_eq_true, if_false, p3, decide_true, Bool.true_and]
    · have : (a == b) = false := by simpa using h1
      simp [this, h1]
/-- A struct of n ints. -/
def StructI (ty : TypeId) (n : Nat) : Prop := (Try.prog.underlying ty = some (.struct (Try.prog.fieldsOf ty)) ∧ Try.prog.stoodInHeld ty = false) ∧ Try.prog.eqGuardType Try.prog.depth ty = false ∧ (Try.prog.fieldsOf ty).toList.map (fun f => (f.name == "_", f.type, f.offset)) = (List.range' 0 n).map (fun i => (false, 3, i))
theorem run_same_ints (w : World) {ty : TypeId} {n : Nat} (hS : StructI ty n) (xs ys : List Int) (hx : xs.length = n) (hy : ys.length = n) : (Op.equalIn 10000 ty (.agg (intsV xs)) (.agg (intsV ys))).run Try.prog w = .ok (sameI xs ys) w := by
  rw [run_equalIn_struct w 9999 _ _ _ hS.1.1 hS.1.2]
  have hlen : (Try.prog.fieldsOf ty).toList.length = n := by have := congrArg List.length hS.2.2; simpa using this
  have := run_same_fields w 9998 xs ys (Try.prog.fieldsOf ty).toList 0 (by rw [hlen]; exact hS.2.2) (by omega) (by omega)
  simpa using this
section
variable {ρ : Operand → Value} {o : Oper} {w : World} {R : Value → World → Prop}
theorem y_eqlSI {ty t' : TypeId} {n : Nat} {x y : Operand} {xs ys : List Int} {q : Bool} (hS : StructI ty n) (ho : o.op = .binOp .eql ty x y t') (hx : ρ x = .agg (intsV xs)) (hy : ρ y = .agg (intsV ys)) (lx : xs.length = n) (ly : ys.length = n) (hr : sameI xs ys = q) (h : R (.bool q) w) : Yields Try.prog ρ o w R :=
  y_of (v := .bool (sameI xs ys)) (w' := w) (by simp only [execOp, ho, hx, hy, Sem.run_bind, run_eqGuard_agg w .eql _ _ _ _ _ hS.2.1, run_eql_struct, run_same_ints w hS xs ys lx ly, Result.andThen_ok, Sem.run_pure]) (by rw [hr]; exact h)
end
end Go.Proofs.Ytnccblhdokplkaa
set_option maxRecDepth 100000
namespace Go.Proofs.Ytnccblhdokplkaa
open Go.RowKit

section
variable {P : Program} {ρ : Operand → Value} {o : Oper} {w : World} {R : Value → World → Prop}
theorem y_clc {f : FuncId} {c : Call} {S : Ending → World → Prop} {cx : Operand} {xs : List Operand} {vs cs : List Value} (ho : o.op = .call c) (hc : c.callee = .value cx) (hcx : ρ cx = .func (.func f) #[] cs.toArray) (hx : c.args = xs.toArray) (hf : ∀ args w, (callFunc f args).run P w = .ok (.enter f args) w)
    (hv : xs.map ρ = vs) (h : Calls P f (vs ++ cs).toArray w S) (hS : ∀ e w', S e w' → ∃ v, e = .returned v ∧ R v w') : Yields P ρ o w R := by
  obtain ⟨cl, ag, ts⟩ := c
  simp only at hc hx
  subst hc; subst hx; subst hv
  unfold Yields
  have e : (execOp ρ o).run P w = .ok (.enter f (xs.map ρ ++ cs).toArray) w := by simp [execOp, ho, resolve, hcx, Deferred.ofValue, invoke, hf]
  rw [e]
  exact h.mono hS
theorem y_orR {t t' : TypeId} {k : IntKind} {x y : Operand} {m n r : Int} (ho : o.op = .binOp .or t x y t') (hx : ρ x = .int k m) (hy : ρ y = .int k n) (hr : bits .or k m n = r) (h : R (.int k r) w) : Yields P ρ o w R :=
  y_of (v := .int k (bits .or k m n)) (w' := w) (by simp [execOp, ho, hx, hy, go_sem]) (by rw [hr]; exact h)
end
theorem or_byte (m : Int) (b : Nat) (h0 : 0 ≤ m) (h1 : m < 1099511627776) (hb : b < 256) : bits .or .i64 (m * 256) (b : Int) = m * 256 + b := by
  rw [bits_join .i64 63 (by decide) (fun n h0 h1 => by rw [IntKind.wrap_i64]; omega) 8 (m * 256) (b : Int) (by omega) (by omega) (by omega) (by omega) (by omega) (by omega)]
theorem shl_byte (m : Int) (h0 : 0 ≤ m) (h1 : m < 1099511627776) : IntKind.i64.wrap (m * 2 ^ min 8 IntKind.i64.bits) = m * 256 := by
  rw [show (2 : Int) ^ min 8 IntKind.i64.bits = 256 from by decide, IntKind.wrap_i64]; omega
/-- A cell of bytes that a function has captured, and the bytes that it holds. -/
def Cob (w : World) (T : Nat → Prop) (p : Nat) (l : List Nat) : Prop := ∃ (v : Value) (Tb : Nat → Prop), (∀ i, T i ↔ (onB p i ∨ Tb i)) ∧ Apart (onB p) Tb ∧ Cel w p 27 v ∧ Owb w Tb v l
theorem Cob.live {w : World} {T : Nat → Prop} {p : Nat} {l : List Nat} (h : Cob w T p l) : Live w T := by
  obtain ⟨v, Tb, hT, _, h1, h2⟩ := h
  exact fun i hi => ((hT i).1 hi).elim (fun e => by cases e; exact h1.lt) (fun e => h2.live i e)
theorem Cob.all {S : Nat → Prop} {w w' : World} {T : Nat → Prop} {p : Nat} {l : List Nat} (h : Cob w T p l) (k : Kept S w w') (ha : Apart T S) : Cob w' T p l := by
  obtain ⟨v, Tb, hT, hap, h1, h2⟩ := h
  exact ⟨v, Tb, hT, hap, h1.all k (ha p ((hT p).2 (.inl rfl))), h2.all k (fun i hi => ha i ((hT i).2 (.inr hi)))⟩
end Go.Proofs.Ytnccblhdokplkaa
set_option maxRecDepth 100000
namespace Go.Proofs.Ytnccblhdokplkaa
open Go.RowKit



def arrV (p k : Nat) : Value := .slice (some (if 4 = k then ⟨p, 0, none⟩ else ⟨p, k, none⟩)) (4 - k) (4 - k)
theorem Stc.bytes {w : World} {p t : Nat} {a b c d : Nat} (h : Stc w p t [.int .u8 (a : Int), .int .u8 (b : Int), .int .u8 (c : Int), .int .u8 (d : Int)]) (ha : a < 256) (hb : b < 256) (hc : c < 256) (hd : d < 256) {k : Nat} (hk : k ≤ 4) : Byt w (onB p) (arrV p k) ([a, b, c, d].drop k) := by
  have hl : ([a, b, c, d].drop k).length = 4 - k := by simp
  refine ⟨⟨some (if 4 = k then ⟨p, 0, none⟩ else ⟨p, k, none⟩), 4 - k, by rw [hl]; rfl, by omega, Nat.le_trans (Nat.sub_le 4 k) (by decide), (fun e => by cases e), ?_, fun hp => ⟨p, k, by rw [if_neg (by omega)], h.lt, fun i hi => ?_⟩⟩, onB_live h.lt, fun _ a' n c' e => ?_⟩
  · intro x hx
    have := List.mem_of_mem_drop hx
    simp at this
    omega
  · rw [hl] at hi
    have hc := h.cell (i := k + i) (v := .int .u8 (([a, b, c, d].drop k).getD i 0 : Nat)) (by
      have : k = 0 ∨ k = 1 ∨ k = 2 ∨ k = 3 := by omega
      have hi4 : i = 0 ∨ i = 1 ∨ i = 2 ∨ i = 3 := by omega
      rcases this with rfl | rfl | rfl | rfl <;> rcases hi4 with rfl | rfl | rfl | rfl <;> first | rfl | omega)
    exact hc
  · unfold arrV at e
    simp only [Value.slice.injEq, Option.some.injEq] at e
    rw [← e.1]
    split <;> rfl

end Go.Proofs.Ytnccblhdokplkaa
set_option maxRecDepth 100000
namespace Go.Proofs.Ytnccblhdokplkaa
open Go.RowKit

def nilS : Value → Bool
  | .slice a _ _ => a.isNone
  | _ => false
theorem Byt.shape {w : World} {T : Nat → Prop} {v : Value} {l : List Nat} (h : Byt w T v l) : ∃ a n c, v = .slice a n c := by
  obtain ⟨⟨a, c, e, _⟩, _⟩ := h
  exact ⟨a, _, c, e⟩
theorem Byt.nilS {w : World} {T : Nat → Prop} {v : Value} {l : List Nat} (h : Byt w T v l) (hn : nilS v = true) : l = [] := by
  obtain ⟨⟨a, c, rfl, _, _, _, _, hc⟩, _⟩ := h
  cases l with
  | nil => rfl
  | cons x r =>
    obtain ⟨b, off, rfl, _⟩ := hc (Nat.succ_pos _)
    cases hn
section
variable {ρ : Operand → Value} {o : Oper} {w : World} {R : Value → World → Prop}
theorem y_eqlNilS {t t' d : TypeId} {x y : Operand} {v : Value} {b : Bool} (ho : o.op = .binOp .eql t x y t') (hx : ρ x = v) (hy : ρ y = .slice none 0 0) (hu : Try.prog.underlying t = some (.slice d)) (hs : ∃ a n c, v = .slice a n c) (hr : nilS v = b) (h : R (.bool b) w) : Yields Try.prog ρ o w R := by
  obtain ⟨a, n, c, rfl⟩ := hs
  subst hr
  exact y_of (v := .bool a.isNone) (w' := w) (by simp [execOp, ho, hx, hy, Lib.run_eql_slice_nil w t d a n c 0 0 hu, go_sem]) h
end
end Go.Proofs.Ytnccblhdokplkaa
set_option maxRecDepth 100000
namespace Go.Proofs.Ytnccblhdokplkaa
open Go.RowKit
theorem arrT4 : ArrT 43 4 := ArrT.of Try.underlying43 (by kernel_rfl)
end Go.Proofs.Ytnccblhdokplkaa
set_option maxRecDepth 100000
namespace Go.Proofs.Ytnccblhdokplkaa
open Go.RowKit

theorem structI_seq : StructI 24 4 := ⟨⟨by kernel_rfl, by kernel_rfl⟩, by kernel_rfl, by kernel_rfl⟩
theorem structI_head : StructI 26 4 := ⟨⟨by kernel_rfl, by kernel_rfl⟩, by kernel_rfl, by kernel_rfl⟩

set_option maxHeartbeats 4000000 in
set_option maxRecDepth 100000 in
theorem hd_within (n a b : Int) (w0 : World) :
    Calls Try.prog 29 #[.int .i64 (n), .int .i64 (a), .int .i64 (b)] w0 fun e w' => e = .returned (.bool (decide (a ≤ n ∧ n ≤ b))) ∧ Kept (fun _ => False) w0 w' := by
  refine calls_wq (args := [.int .i64 (n), .int .i64 (a), .int .i64 (b)]) 15 Try.func29 rfl rfl (Nat.le_of_ble_eq_true rfl) ?_
  have K0 := Kept.refl (fun _ => False) w0
  refine wq_seq ?_
  refine wq_region ?_
  refine wl_v (.bool false) rfl rfl (y_asg rfl rfl ⟨rfl, rfl⟩) ?_
  refine wl_nil fun F1 hF2 => ?_
  have s3 : F1 0 = .int .i64 (n) := (hF2 0).trans rfl
  have s4 : F1 1 = .int .i64 (a) := (hF2 1).trans rfl
  have s5 : F1 2 = .int .i64 (b) := (hF2 2).trans rfl
  have s6 : F1 15 = undef := (hF2 15).trans rfl
  clear hF2
  refine then_normal ?_
  refine wq_seq ?_
  by_cases d7 : (a) ≤ (n)
  · skip
    refine wq_region ?_
    refine wl_v (.int .i64 (n)) rfl rfl (y_mov rfl s3 ⟨rfl, rfl⟩) ?_
    refine wl_v (.int .i64 (a)) rfl rfl (y_mov rfl s4 ⟨rfl, rfl⟩) ?_
    refine wl_v (.bool true) rfl rfl (y_geq rfl rfl rfl (decide_eq_true d7) ⟨rfl, rfl⟩) ?_
    refine wl_v (.bool true) rfl rfl (y_mov rfl rfl ⟨rfl, rfl⟩) ?_
    refine wl_vw (.int .i64 (n)) 3 true 10 rfl rfl rfl rfl rfl (y_mov rfl s3 ⟨rfl, rfl⟩) ?_
    refine wl_vw (.int .i64 (b)) 3 true 10 rfl rfl rfl rfl rfl (y_mov rfl s5 ⟨rfl, rfl⟩) ?_
    refine wl_vw (.bool (decide ((n) ≤ (b)))) 3 true 10 rfl rfl rfl rfl rfl (y_leq rfl rfl rfl rfl ⟨rfl, rfl⟩) ?_
    refine wl_v (.bool (decide ((n) ≤ (b)))) rfl rfl (y_pickT rfl rfl rfl ⟨rfl, rfl⟩) ?_
    refine wl_v (.bool (decide ((n) ≤ (b)))) rfl rfl (y_asg rfl rfl ⟨rfl, rfl⟩) ?_
    refine wl_nil fun F8 hF9 => ?_
    have s10 : F8 15 = undef := (hF9 15).trans s6
    have s11 : F8 6 = .bool (decide ((n) ≤ (b))) := (hF9 6).trans rfl
    clear hF9
    refine then_normal ?_
    refine wq_ret ?_
    exact end_tmp (v := .bool (decide ((n) ≤ (b)))) s10 rfl rfl s11 ⟨(retB (by first | exact (decide_eq_true (by omega)).symm | exact (decide_eq_false (by omega)).symm | exact decide_eq_decide.2 (by omega))), K0⟩
  · skip
    refine wq_region ?_
    refine wl_v (.int .i64 (n)) rfl rfl (y_mov rfl s3 ⟨rfl, rfl⟩) ?_
    refine wl_v (.int .i64 (a)) rfl rfl (y_mov rfl s4 ⟨rfl, rfl⟩) ?_
    refine wl_v (.bool false) rfl rfl (y_geq rfl rfl rfl (decide_eq_false d7) ⟨rfl, rfl⟩) ?_
    refine wl_v (.bool false) rfl rfl (y_mov rfl rfl ⟨rfl, rfl⟩) ?_
    refine wl_unless 3 true 10 rfl rfl rfl (Or.inl rfl) rfl ?_
    refine wl_unless 3 true 10 rfl rfl rfl (Or.inl rfl) rfl ?_
    refine wl_unless 3 true 10 rfl rfl rfl (Or.inl rfl) rfl ?_
    refine wl_v (.bool false) rfl rfl (y_pickF rfl rfl rfl ⟨rfl, rfl⟩) ?_
    refine wl_v (.bool false) rfl rfl (y_asg rfl rfl ⟨rfl, rfl⟩) ?_
    refine wl_nil fun F12 hF13 => ?_
    have s14 : F12 15 = undef := (hF13 15).trans s6
    have s15 : F12 6 = .bool false := (hF13 6).trans rfl
    clear hF13
    refine then_normal ?_
    refine wq_ret ?_
    exact end_tmp (v := .bool false) s14 rfl rfl s15 ⟨(retB (by first | exact (decide_eq_true (by omega)).symm | exact (decide_eq_false (by omega)).symm | exact decide_eq_decide.2 (by omega))), K0⟩
set_option maxHeartbeats 4000000 in
set_option maxRecDepth 100000 in
theorem hd_side (n : Int) (w0 : World) :
    Calls Try.prog 28 #[.int .i64 (n)] w0 fun e w' => e = .returned (.bool (decide (sideOk n))) ∧ Kept (fun _ => False) w0 w' := by
  refine calls_wq (args := [.int .i64 (n)]) 10 Try.func28 rfl rfl (Nat.le_of_ble_eq_true rfl) ?_
  have K0 := Kept.refl (fun _ => False) w0
  refine wq_seq ?_
  refine wq_region ?_
  refine wl_v (.bool false) rfl rfl (y_asg rfl rfl ⟨rfl, rfl⟩) ?_
  refine wl_nil fun F1 hF2 => ?_
  have s3 : F1 0 = .int .i64 (n) := (hF2 0).trans rfl
  have s4 : F1 10 = undef := (hF2 10).trans rfl
  clear hF2
  refine then_normal ?_
  refine wq_seq ?_
  by_cases d5 : (8) ≤ (n) ∧ (n) ≤ (64)
  · skip
    refine wq_region ?_
    refine wl_v (.int .i64 (n)) rfl rfl (y_mov rfl s3 ⟨rfl, rfl⟩) ?_
    refine wl_call (R := fun v_ w_ => v_ = .bool true ∧ Kept (fun _ => False) w0 w_) rfl rfl (y_cs rfl rfl rfl (fun _ _ => by kernel_rfl) (ev_func _) (vsC rfl (vsC rfl (vsC rfl vsN))) (hd_within (n) (8) (64)  _   ) (fun e_ w_ h_ => ⟨_, h_.1, (congrArg Value.bool (decide_eq_true d5)), h_.2⟩)) ?_
    rintro _ w6 ⟨rfl, k7⟩
    have K8 := K0.trans k7 (fun _ _ x => x.elim)
    refine wl_v (.bool true) rfl rfl (y_mov rfl rfl ⟨rfl, rfl⟩) ?_
    refine wl_vw (.int .i64 (n)) 2 true 5 rfl rfl rfl rfl rfl (y_mov rfl s3 ⟨rfl, rfl⟩) ?_
    refine wl_vw (.int .i64 (n % 8)) 2 true 5 rfl rfl rfl rfl rfl (y_rem rfl rfl rfl (by first | decide | omega) (tmod8 (by omega)) ⟨rfl, rfl⟩) ?_
    refine wl_vw (.bool (decide ((n % 8) = (0)))) 2 true 5 rfl rfl rfl rfl rfl (y_eqlI rfl rfl rfl rfl ⟨rfl, rfl⟩) ?_
    refine wl_v (.bool (decide ((n % 8) = (0)))) rfl rfl (y_pickT rfl rfl rfl ⟨rfl, rfl⟩) ?_
    refine wl_v (.bool (decide ((n % 8) = (0)))) rfl rfl (y_asg rfl rfl ⟨rfl, rfl⟩) ?_
    refine wl_nil fun F9 hF10 => ?_
    have s11 : F9 10 = undef := (hF10 10).trans s4
    have s12 : F9 2 = .bool (decide ((n % 8) = (0))) := (hF10 2).trans rfl
    clear hF10
    refine then_normal ?_
    refine wq_ret ?_
    exact end_tmp (v := .bool (decide ((n % 8) = (0)))) s11 rfl rfl s12 ⟨(retB (by first | exact (decide_eq_true (by unfold sideOk; omega)).symm | exact (decide_eq_false (by unfold sideOk; omega)).symm | exact decide_eq_decide.2 (by unfold sideOk; omega))), K8⟩
  · skip
    refine wq_region ?_
    refine wl_v (.int .i64 (n)) rfl rfl (y_mov rfl s3 ⟨rfl, rfl⟩) ?_
    refine wl_call (R := fun v_ w_ => v_ = .bool false ∧ Kept (fun _ => False) w0 w_) rfl rfl (y_cs rfl rfl rfl (fun _ _ => by kernel_rfl) (ev_func _) (vsC rfl (vsC rfl (vsC rfl vsN))) (hd_within (n) (8) (64)  _   ) (fun e_ w_ h_ => ⟨_, h_.1, (congrArg Value.bool (decide_eq_false d5)), h_.2⟩)) ?_
    rintro _ w13 ⟨rfl, k14⟩
    have K15 := K0.trans k14 (fun _ _ x => x.elim)
    refine wl_v (.bool false) rfl rfl (y_mov rfl rfl ⟨rfl, rfl⟩) ?_
    refine wl_unless 2 true 5 rfl rfl rfl (Or.inl rfl) rfl ?_
    refine wl_unless 2 true 5 rfl rfl rfl (Or.inl rfl) rfl ?_
    refine wl_unless 2 true 5 rfl rfl rfl (Or.inl rfl) rfl ?_
    refine wl_v (.bool false) rfl rfl (y_pickF rfl rfl rfl ⟨rfl, rfl⟩) ?_
    refine wl_v (.bool false) rfl rfl (y_asg rfl rfl ⟨rfl, rfl⟩) ?_
    refine wl_nil fun F16 hF17 => ?_
    have s18 : F16 10 = undef := (hF17 10).trans s4
    have s19 : F16 2 = .bool false := (hF17 2).trans rfl
    clear hF17
    refine then_normal ?_
    refine wq_ret ?_
    exact end_tmp (v := .bool false) s18 rfl rfl s19 ⟨(retB (by first | exact (decide_eq_true (by unfold sideOk; omega)).symm | exact (decide_eq_false (by unfold sideOk; omega)).symm | exact decide_eq_decide.2 (by unfold sideOk; omega))), K15⟩
set_option maxHeartbeats 4000000 in
set_option maxRecDepth 100000 in
theorem hd_seq (W H R B : Int) (w0 : World) :
    Calls Try.prog 18 #[.agg #[.int .i64 (W), .int .i64 (H), .int .i64 (R), .int .i64 (B)]] w0 fun e w' => e = .returned (.int .i64 (seqE W H R B)) ∧ Kept (fun _ => False) w0 w' := by
  refine calls_wq (args := [.agg #[.int .i64 (W), .int .i64 (H), .int .i64 (R), .int .i64 (B)]]) 27 Try.func18 rfl rfl (Nat.le_of_ble_eq_true rfl) ?_
  have K0 := Kept.refl (fun _ => False) w0
  refine wq_seq ?_
  refine wq_region ?_
  refine wl_box_stc (vs := [.int .i64 (W), .int .i64 (H), .int .i64 (R), .int .i64 (B)]) rfl rfl rfl rfl fun p1 w2 B4 g5 k3 => ?_
  have gr6 : Grew w0 noB (onB p1) := Grew.new K0 g5
  have K7 := K0.trans k3 (fun _ _ x => x.elim)
  refine wl_v (.int .i64 (0)) rfl rfl (y_asg rfl rfl ⟨rfl, rfl⟩) ?_
  refine wl_nil fun F8 hF9 => ?_
  have s10 : F8 27 = undef := (hF9 27).trans rfl
  have s11 : F8 1 = .pointer (some ⟨p1, 0, none⟩) := (hF9 1).trans rfl
  clear hF9
  refine then_normal ?_
  refine wq_seq ?_
  refine wq_seq ?_
  by_cases d12 : sideOk (W)
  · skip
    by_cases d13 : sideOk (H)
    · skip
      by_cases d14 : (1) ≤ (R) ∧ (R) ≤ (16777216)
      · skip
        by_cases d15 : (R) ≤ (B) ∧ (B) ≤ (1073741824)
        · skip
          refine wq_region ?_
          refine wl_v (.pointer (some ⟨p1, 0, none⟩)) rfl rfl (y_fieldR (n := 1) rfl s11 Try.underlying24 rfl (by kernel_rfl) (by decide) rfl ⟨rfl, rfl⟩) ?_
          refine wl_v (.int .i64 (W)) rfl rfl (y_ld_stc rfl rfl Try.underlying3 B4 rfl rfl ⟨rfl, rfl⟩) ?_
          refine wl_call (R := fun v_ w_ => v_ = .bool true ∧ Kept (fun _ => False) w2 w_) rfl rfl (y_cs rfl rfl rfl (fun _ _ => by kernel_rfl) (ev_func _) (vsC rfl vsN) (hd_side (W)  _   ) (fun e_ w_ h_ => ⟨_, h_.1, (congrArg Value.bool (decide_eq_true d12)), h_.2⟩)) ?_
          rintro _ w16 ⟨rfl, k17⟩
          have B18 := B4.all k17 id
          have K19 := K7.trans k17 (fun _ _ x => x.elim)
          refine wl_v (.bool false) rfl rfl (y_not rfl rfl rfl ⟨rfl, rfl⟩) ?_
          refine wl_v (.bool false) rfl rfl (y_mov rfl rfl ⟨rfl, rfl⟩) ?_
          refine wl_vw (.pointer (some ⟨p1, 1, none⟩)) 4 false 7 rfl rfl rfl rfl rfl (y_fieldR (n := 1) rfl s11 Try.underlying24 rfl (by kernel_rfl) (by decide) rfl ⟨rfl, rfl⟩) ?_
          refine wl_vw (.int .i64 (H)) 4 false 7 rfl rfl rfl rfl rfl (y_ld_stc rfl rfl Try.underlying3 B18 rfl rfl ⟨rfl, rfl⟩) ?_
          refine wl_callw (R := fun v_ w_ => v_ = .bool true ∧ Kept (fun _ => False) w16 w_) 4 false 7 rfl rfl rfl rfl rfl (y_cs rfl rfl rfl (fun _ _ => by kernel_rfl) (ev_func _) (vsC rfl vsN) (hd_side (H)  _   ) (fun e_ w_ h_ => ⟨_, h_.1, (congrArg Value.bool (decide_eq_true d13)), h_.2⟩)) ?_
          rintro _ w20 ⟨rfl, k21⟩
          have B22 := B18.all k21 id
          have K23 := K19.trans k21 (fun _ _ x => x.elim)
          refine wl_vw (.bool false) 4 false 7 rfl rfl rfl rfl rfl (y_not rfl rfl rfl ⟨rfl, rfl⟩) ?_
          refine wl_v (.bool false) rfl rfl (y_pickF rfl rfl rfl ⟨rfl, rfl⟩) ?_
          refine wl_v (.bool false) rfl rfl (y_mov rfl rfl ⟨rfl, rfl⟩) ?_
          refine wl_vw (.pointer (some ⟨p1, 2, none⟩)) 10 false 13 rfl rfl rfl rfl rfl (y_fieldR (n := 1) rfl s11 Try.underlying24 rfl (by kernel_rfl) (by decide) rfl ⟨rfl, rfl⟩) ?_
          refine wl_vw (.int .i64 (R)) 10 false 13 rfl rfl rfl rfl rfl (y_ld_stc rfl rfl Try.underlying3 B22 rfl rfl ⟨rfl, rfl⟩) ?_
          refine wl_callw (R := fun v_ w_ => v_ = .bool true ∧ Kept (fun _ => False) w20 w_) 10 false 13 rfl rfl rfl rfl rfl (y_cs rfl rfl rfl (fun _ _ => by kernel_rfl) (ev_func _) (vsC rfl (vsC rfl (vsC rfl vsN))) (hd_within (R) (1) (16777216)  _   ) (fun e_ w_ h_ => ⟨_, h_.1, (congrArg Value.bool (decide_eq_true d14)), h_.2⟩)) ?_
          rintro _ w24 ⟨rfl, k25⟩
          have B26 := B22.all k25 id
          have K27 := K23.trans k25 (fun _ _ x => x.elim)
          refine wl_vw (.bool false) 10 false 13 rfl rfl rfl rfl rfl (y_not rfl rfl rfl ⟨rfl, rfl⟩) ?_
          refine wl_v (.bool false) rfl rfl (y_pickF rfl rfl rfl ⟨rfl, rfl⟩) ?_
          refine wl_v (.bool false) rfl rfl (y_mov rfl rfl ⟨rfl, rfl⟩) ?_
          refine wl_vw (.pointer (some ⟨p1, 3, none⟩)) 16 false 19 rfl rfl rfl rfl rfl (y_fieldR (n := 1) rfl s11 Try.underlying24 rfl (by kernel_rfl) (by decide) rfl ⟨rfl, rfl⟩) ?_
          refine wl_vw (.int .i64 (B)) 16 false 19 rfl rfl rfl rfl rfl (y_ld_stc rfl rfl Try.underlying3 B26 rfl rfl ⟨rfl, rfl⟩) ?_
          refine wl_vw (.pointer (some ⟨p1, 2, none⟩)) 16 false 19 rfl rfl rfl rfl rfl (y_fieldR (n := 1) rfl s11 Try.underlying24 rfl (by kernel_rfl) (by decide) rfl ⟨rfl, rfl⟩) ?_
          refine wl_vw (.int .i64 (R)) 16 false 19 rfl rfl rfl rfl rfl (y_ld_stc rfl rfl Try.underlying3 B26 rfl rfl ⟨rfl, rfl⟩) ?_
          refine wl_callw (R := fun v_ w_ => v_ = .bool true ∧ Kept (fun _ => False) w24 w_) 16 false 19 rfl rfl rfl rfl rfl (y_cs rfl rfl rfl (fun _ _ => by kernel_rfl) (ev_func _) (vsC rfl (vsC rfl (vsC rfl vsN))) (hd_within (B) (R) (1073741824)  _   ) (fun e_ w_ h_ => ⟨_, h_.1, (congrArg Value.bool (decide_eq_true d15)), h_.2⟩)) ?_
          rintro _ w28 ⟨rfl, k29⟩
          have B30 := B26.all k29 id
          have K31 := K27.trans k29 (fun _ _ x => x.elim)
          refine wl_vw (.bool false) 16 false 19 rfl rfl rfl rfl rfl (y_not rfl rfl rfl ⟨rfl, rfl⟩) ?_
          refine wl_v (.bool false) rfl rfl (y_pickF rfl rfl rfl ⟨rfl, rfl⟩) ?_
          refine wl_nil fun F32 hF33 => ?_
          have s34 : F32 27 = undef := (hF33 27).trans s10
          have s35 : F32 26 = .bool false := (hF33 26).trans rfl
          clear hF33
          refine then_normal ?_
          refine wq_cond (t := false) s35 (fun e => by cases e) (fun _ => ?_)
          refine wq_skip ?_
          refine then_normal ?_
          refine wq_seq ?_
          refine wq_region ?_
          refine wl_v (.int .i64 (0)) rfl rfl (y_asg rfl rfl ⟨rfl, rfl⟩) ?_
          refine wl_nil fun F36 hF37 => ?_
          have s38 : F36 27 = undef := (hF37 27).trans s34
          have s39 : F36 2 = .int .i64 (0) := (hF37 2).trans rfl
          clear hF37
          refine then_normal ?_
          refine wq_ret ?_
          exact end_tmp (v := .int .i64 (0)) s38 rfl rfl s39 ⟨(by first | rw [show seqE W H R B = 0 from if_pos ⟨by assumption, by assumption, by omega, by omega, by omega, by omega⟩] | rw [show seqE W H R B = 110 from if_neg (by unfold seqOk; rintro ⟨h1, h2, h3, h4, h5, h6⟩; first | (exact absurd h1 (by assumption)) | (exact absurd h2 (by assumption)) | omega)]), K31⟩
        · skip
          refine wq_region ?_
          refine wl_v (.pointer (some ⟨p1, 0, none⟩)) rfl rfl (y_fieldR (n := 1) rfl s11 Try.underlying24 rfl (by kernel_rfl) (by decide) rfl ⟨rfl, rfl⟩) ?_
          refine wl_v (.int .i64 (W)) rfl rfl (y_ld_stc rfl rfl Try.underlying3 B4 rfl rfl ⟨rfl, rfl⟩) ?_
          refine wl_call (R := fun v_ w_ => v_ = .bool true ∧ Kept (fun _ => False) w2 w_) rfl rfl (y_cs rfl rfl rfl (fun _ _ => by kernel_rfl) (ev_func _) (vsC rfl vsN) (hd_side (W)  _   ) (fun e_ w_ h_ => ⟨_, h_.1, (congrArg Value.bool (decide_eq_true d12)), h_.2⟩)) ?_
          rintro _ w40 ⟨rfl, k41⟩
          have B42 := B4.all k41 id
          have K43 := K7.trans k41 (fun _ _ x => x.elim)
          refine wl_v (.bool false) rfl rfl (y_not rfl rfl rfl ⟨rfl, rfl⟩) ?_
          refine wl_v (.bool false) rfl rfl (y_mov rfl rfl ⟨rfl, rfl⟩) ?_
          refine wl_vw (.pointer (some ⟨p1, 1, none⟩)) 4 false 7 rfl rfl rfl rfl rfl (y_fieldR (n := 1) rfl s11 Try.underlying24 rfl (by kernel_rfl) (by decide) rfl ⟨rfl, rfl⟩) ?_
          refine wl_vw (.int .i64 (H)) 4 false 7 rfl rfl rfl rfl rfl (y_ld_stc rfl rfl Try.underlying3 B42 rfl rfl ⟨rfl, rfl⟩) ?_
          refine wl_callw (R := fun v_ w_ => v_ = .bool true ∧ Kept (fun _ => False) w40 w_) 4 false 7 rfl rfl rfl rfl rfl (y_cs rfl rfl rfl (fun _ _ => by kernel_rfl) (ev_func _) (vsC rfl vsN) (hd_side (H)  _   ) (fun e_ w_ h_ => ⟨_, h_.1, (congrArg Value.bool (decide_eq_true d13)), h_.2⟩)) ?_
          rintro _ w44 ⟨rfl, k45⟩
          have B46 := B42.all k45 id
          have K47 := K43.trans k45 (fun _ _ x => x.elim)
          refine wl_vw (.bool false) 4 false 7 rfl rfl rfl rfl rfl (y_not rfl rfl rfl ⟨rfl, rfl⟩) ?_
          refine wl_v (.bool false) rfl rfl (y_pickF rfl rfl rfl ⟨rfl, rfl⟩) ?_
          refine wl_v (.bool false) rfl rfl (y_mov rfl rfl ⟨rfl, rfl⟩) ?_
          refine wl_vw (.pointer (some ⟨p1, 2, none⟩)) 10 false 13 rfl rfl rfl rfl rfl (y_fieldR (n := 1) rfl s11 Try.underlying24 rfl (by kernel_rfl) (by decide) rfl ⟨rfl, rfl⟩) ?_
          refine wl_vw (.int .i64 (R)) 10 false 13 rfl rfl rfl rfl rfl (y_ld_stc rfl rfl Try.underlying3 B46 rfl rfl ⟨rfl, rfl⟩) ?_
          refine wl_callw (R := fun v_ w_ => v_ = .bool true ∧ Kept (fun _ => False) w44 w_) 10 false 13 rfl rfl rfl rfl rfl (y_cs rfl rfl rfl (fun _ _ => by kernel_rfl) (ev_func _) (vsC rfl (vsC rfl (vsC rfl vsN))) (hd_within (R) (1) (16777216)  _   ) (fun e_ w_ h_ => ⟨_, h_.1, (congrArg Value.bool (decide_eq_true d14)), h_.2⟩)) ?_
          rintro _ w48 ⟨rfl, k49⟩
          have B50 := B46.all k49 id
          have K51 := K47.trans k49 (fun _ _ x => x.elim)
          refine wl_vw (.bool false) 10 false 13 rfl rfl rfl rfl rfl (y_not rfl rfl rfl ⟨rfl, rfl⟩) ?_
          refine wl_v (.bool false) rfl rfl (y_pickF rfl rfl rfl ⟨rfl, rfl⟩) ?_
          refine wl_v (.bool false) rfl rfl (y_mov rfl rfl ⟨rfl, rfl⟩) ?_
          refine wl_vw (.pointer (some ⟨p1, 3, none⟩)) 16 false 19 rfl rfl rfl rfl rfl (y_fieldR (n := 1) rfl s11 Try.underlying24 rfl (by kernel_rfl) (by decide) rfl ⟨rfl, rfl⟩) ?_
          refine wl_vw (.int .i64 (B)) 16 false 19 rfl rfl rfl rfl rfl (y_ld_stc rfl rfl Try.underlying3 B50 rfl rfl ⟨rfl, rfl⟩) ?_
          refine wl_vw (.pointer (some ⟨p1, 2, none⟩)) 16 false 19 rfl rfl rfl rfl rfl (y_fieldR (n := 1) rfl s11 Try.underlying24 rfl (by kernel_rfl) (by decide) rfl ⟨rfl, rfl⟩) ?_
          refine wl_vw (.int .i64 (R)) 16 false 19 rfl rfl rfl rfl rfl (y_ld_stc rfl rfl Try.underlying3 B50 rfl rfl ⟨rfl, rfl⟩) ?_
          refine wl_callw (R := fun v_ w_ => v_ = .bool false ∧ Kept (fun _ => False) w48 w_) 16 false 19 rfl rfl rfl rfl rfl (y_cs rfl rfl rfl (fun _ _ => by kernel_rfl) (ev_func _) (vsC rfl (vsC rfl (vsC rfl vsN))) (hd_within (B) (R) (1073741824)  _   ) (fun e_ w_ h_ => ⟨_, h_.1, (congrArg Value.bool (decide_eq_false d15)), h_.2⟩)) ?_
          rintro _ w52 ⟨rfl, k53⟩
          have B54 := B50.all k53 id
          have K55 := K51.trans k53 (fun _ _ x => x.elim)
          refine wl_vw (.bool true) 16 false 19 rfl rfl rfl rfl rfl (y_not rfl rfl rfl ⟨rfl, rfl⟩) ?_
          refine wl_v (.bool true) rfl rfl (y_pickF rfl rfl rfl ⟨rfl, rfl⟩) ?_
          refine wl_nil fun F56 hF57 => ?_
          have s58 : F56 27 = undef := (hF57 27).trans s10
          have s59 : F56 26 = .bool true := (hF57 26).trans rfl
          clear hF57
          refine then_normal ?_
          refine wq_cond (t := true) s59 (fun _ => ?_) (fun e => by cases e)
          refine wq_seq ?_
          refine wq_region ?_
          refine wl_v (.int .i64 (110)) rfl rfl (y_asg rfl rfl ⟨rfl, rfl⟩) ?_
          refine wl_nil fun F60 hF61 => ?_
          have s62 : F60 27 = undef := (hF61 27).trans s58
          have s63 : F60 2 = .int .i64 (110) := (hF61 2).trans rfl
          clear hF61
          refine then_normal ?_
          refine wq_ret ?_
          refine then_ret ?_
          exact end_tmp (v := .int .i64 (110)) s62 rfl rfl s63 ⟨(by first | rw [show seqE W H R B = 0 from if_pos ⟨by assumption, by assumption, by omega, by omega, by omega, by omega⟩] | rw [show seqE W H R B = 110 from if_neg (by unfold seqOk; rintro ⟨h1, h2, h3, h4, h5, h6⟩; first | (exact absurd h1 (by assumption)) | (exact absurd h2 (by assumption)) | omega)]), K55⟩
      · skip
        refine wq_region ?_
        refine wl_v (.pointer (some ⟨p1, 0, none⟩)) rfl rfl (y_fieldR (n := 1) rfl s11 Try.underlying24 rfl (by kernel_rfl) (by decide) rfl ⟨rfl, rfl⟩) ?_
        refine wl_v (.int .i64 (W)) rfl rfl (y_ld_stc rfl rfl Try.underlying3 B4 rfl rfl ⟨rfl, rfl⟩) ?_
        refine wl_call (R := fun v_ w_ => v_ = .bool true ∧ Kept (fun _ => False) w2 w_) rfl rfl (y_cs rfl rfl rfl (fun _ _ => by kernel_rfl) (ev_func _) (vsC rfl vsN) (hd_side (W)  _   ) (fun e_ w_ h_ => ⟨_, h_.1, (congrArg Value.bool (decide_eq_true d12)), h_.2⟩)) ?_
        rintro _ w64 ⟨rfl, k65⟩
        have B66 := B4.all k65 id
        have K67 := K7.trans k65 (fun _ _ x => x.elim)
        refine wl_v (.bool false) rfl rfl (y_not rfl rfl rfl ⟨rfl, rfl⟩) ?_
        refine wl_v (.bool false) rfl rfl (y_mov rfl rfl ⟨rfl, rfl⟩) ?_
        refine wl_vw (.pointer (some ⟨p1, 1, none⟩)) 4 false 7 rfl rfl rfl rfl rfl (y_fieldR (n := 1) rfl s11 Try.underlying24 rfl (by kernel_rfl) (by decide) rfl ⟨rfl, rfl⟩) ?_
        refine wl_vw (.int .i64 (H)) 4 false 7 rfl rfl rfl rfl rfl (y_ld_stc rfl rfl Try.underlying3 B66 rfl rfl ⟨rfl, rfl⟩) ?_
        refine wl_callw (R := fun v_ w_ => v_ = .bool true ∧ Kept (fun _ => False) w64 w_) 4 false 7 rfl rfl rfl rfl rfl (y_cs rfl rfl rfl (fun _ _ => by kernel_rfl) (ev_func _) (vsC rfl vsN) (hd_side (H)  _   ) (fun e_ w_ h_ => ⟨_, h_.1, (congrArg Value.bool (decide_eq_true d13)), h_.2⟩)) ?_
        rintro _ w68 ⟨rfl, k69⟩
        have B70 := B66.all k69 id
        have K71 := K67.trans k69 (fun _ _ x => x.elim)
        refine wl_vw (.bool false) 4 false 7 rfl rfl rfl rfl rfl (y_not rfl rfl rfl ⟨rfl, rfl⟩) ?_
        refine wl_v (.bool false) rfl rfl (y_pickF rfl rfl rfl ⟨rfl, rfl⟩) ?_
        refine wl_v (.bool false) rfl rfl (y_mov rfl rfl ⟨rfl, rfl⟩) ?_
        refine wl_vw (.pointer (some ⟨p1, 2, none⟩)) 10 false 13 rfl rfl rfl rfl rfl (y_fieldR (n := 1) rfl s11 Try.underlying24 rfl (by kernel_rfl) (by decide) rfl ⟨rfl, rfl⟩) ?_
        refine wl_vw (.int .i64 (R)) 10 false 13 rfl rfl rfl rfl rfl (y_ld_stc rfl rfl Try.underlying3 B70 rfl rfl ⟨rfl, rfl⟩) ?_
        refine wl_callw (R := fun v_ w_ => v_ = .bool false ∧ Kept (fun _ => False) w68 w_) 10 false 13 rfl rfl rfl rfl rfl (y_cs rfl rfl rfl (fun _ _ => by kernel_rfl) (ev_func _) (vsC rfl (vsC rfl (vsC rfl vsN))) (hd_within (R) (1) (16777216)  _   ) (fun e_ w_ h_ => ⟨_, h_.1, (congrArg Value.bool (decide_eq_false d14)), h_.2⟩)) ?_
        rintro _ w72 ⟨rfl, k73⟩
        have B74 := B70.all k73 id
        have K75 := K71.trans k73 (fun _ _ x => x.elim)
        refine wl_vw (.bool true) 10 false 13 rfl rfl rfl rfl rfl (y_not rfl rfl rfl ⟨rfl, rfl⟩) ?_
        refine wl_v (.bool true) rfl rfl (y_pickF rfl rfl rfl ⟨rfl, rfl⟩) ?_
        refine wl_v (.bool true) rfl rfl (y_mov rfl rfl ⟨rfl, rfl⟩) ?_
        refine wl_unless 16 false 19 rfl rfl rfl (Or.inl rfl) rfl ?_
        refine wl_unless 16 false 19 rfl rfl rfl (Or.inl rfl) rfl ?_
        refine wl_unless 16 false 19 rfl rfl rfl (Or.inl rfl) rfl ?_
        refine wl_unless 16 false 19 rfl rfl rfl (Or.inl rfl) rfl ?_
        refine wl_unless 16 false 19 rfl rfl rfl (Or.inl rfl) rfl ?_
        refine wl_unless 16 false 19 rfl rfl rfl (Or.inl rfl) rfl ?_
        refine wl_v (.bool true) rfl rfl (y_pickT rfl rfl rfl ⟨rfl, rfl⟩) ?_
        refine wl_nil fun F76 hF77 => ?_
        have s78 : F76 27 = undef := (hF77 27).trans s10
        have s79 : F76 26 = .bool true := (hF77 26).trans rfl
        clear hF77
        refine then_normal ?_
        refine wq_cond (t := true) s79 (fun _ => ?_) (fun e => by cases e)
        refine wq_seq ?_
        refine wq_region ?_
        refine wl_v (.int .i64 (110)) rfl rfl (y_asg rfl rfl ⟨rfl, rfl⟩) ?_
        refine wl_nil fun F80 hF81 => ?_
        have s82 : F80 27 = undef := (hF81 27).trans s78
        have s83 : F80 2 = .int .i64 (110) := (hF81 2).trans rfl
        clear hF81
        refine then_normal ?_
        refine wq_ret ?_
        refine then_ret ?_
        exact end_tmp (v := .int .i64 (110)) s82 rfl rfl s83 ⟨(by first | rw [show seqE W H R B = 0 from if_pos ⟨by assumption, by assumption, by omega, by omega, by omega, by omega⟩] | rw [show seqE W H R B = 110 from if_neg (by unfold seqOk; rintro ⟨h1, h2, h3, h4, h5, h6⟩; first | (exact absurd h1 (by assumption)) | (exact absurd h2 (by assumption)) | omega)]), K75⟩
    · skip
      refine wq_region ?_
      refine wl_v (.pointer (some ⟨p1, 0, none⟩)) rfl rfl (y_fieldR (n := 1) rfl s11 Try.underlying24 rfl (by kernel_rfl) (by decide) rfl ⟨rfl, rfl⟩) ?_
      refine wl_v (.int .i64 (W)) rfl rfl (y_ld_stc rfl rfl Try.underlying3 B4 rfl rfl ⟨rfl, rfl⟩) ?_
      refine wl_call (R := fun v_ w_ => v_ = .bool true ∧ Kept (fun _ => False) w2 w_) rfl rfl (y_cs rfl rfl rfl (fun _ _ => by kernel_rfl) (ev_func _) (vsC rfl vsN) (hd_side (W)  _   ) (fun e_ w_ h_ => ⟨_, h_.1, (congrArg Value.bool (decide_eq_true d12)), h_.2⟩)) ?_
      rintro _ w84 ⟨rfl, k85⟩
      have B86 := B4.all k85 id
      have K87 := K7.trans k85 (fun _ _ x => x.elim)
      refine wl_v (.bool false) rfl rfl (y_not rfl rfl rfl ⟨rfl, rfl⟩) ?_
      refine wl_v (.bool false) rfl rfl (y_mov rfl rfl ⟨rfl, rfl⟩) ?_
      refine wl_vw (.pointer (some ⟨p1, 1, none⟩)) 4 false 7 rfl rfl rfl rfl rfl (y_fieldR (n := 1) rfl s11 Try.underlying24 rfl (by kernel_rfl) (by decide) rfl ⟨rfl, rfl⟩) ?_
      refine wl_vw (.int .i64 (H)) 4 false 7 rfl rfl rfl rfl rfl (y_ld_stc rfl rfl Try.underlying3 B86 rfl rfl ⟨rfl, rfl⟩) ?_
      refine wl_callw (R := fun v_ w_ => v_ = .bool false ∧ Kept (fun _ => False) w84 w_) 4 false 7 rfl rfl rfl rfl rfl (y_cs rfl rfl rfl (fun _ _ => by kernel_rfl) (ev_func _) (vsC rfl vsN) (hd_side (H)  _   ) (fun e_ w_ h_ => ⟨_, h_.1, (congrArg Value.bool (decide_eq_false d13)), h_.2⟩)) ?_
      rintro _ w88 ⟨rfl, k89⟩
      have B90 := B86.all k89 id
      have K91 := K87.trans k89 (fun _ _ x => x.elim)
      refine wl_vw (.bool true) 4 false 7 rfl rfl rfl rfl rfl (y_not rfl rfl rfl ⟨rfl, rfl⟩) ?_
      refine wl_v (.bool true) rfl rfl (y_pickF rfl rfl rfl ⟨rfl, rfl⟩) ?_
      refine wl_v (.bool true) rfl rfl (y_mov rfl rfl ⟨rfl, rfl⟩) ?_
      refine wl_unless 10 false 13 rfl rfl rfl (Or.inl rfl) rfl ?_
      refine wl_unless 10 false 13 rfl rfl rfl (Or.inl rfl) rfl ?_
      refine wl_unless 10 false 13 rfl rfl rfl (Or.inl rfl) rfl ?_
      refine wl_unless 10 false 13 rfl rfl rfl (Or.inl rfl) rfl ?_
      refine wl_v (.bool true) rfl rfl (y_pickT rfl rfl rfl ⟨rfl, rfl⟩) ?_
      refine wl_v (.bool true) rfl rfl (y_mov rfl rfl ⟨rfl, rfl⟩) ?_
      refine wl_unless 16 false 19 rfl rfl rfl (Or.inl rfl) rfl ?_
      refine wl_unless 16 false 19 rfl rfl rfl (Or.inl rfl) rfl ?_
      refine wl_unless 16 false 19 rfl rfl rfl (Or.inl rfl) rfl ?_
      refine wl_unless 16 false 19 rfl rfl rfl (Or.inl rfl) rfl ?_
      refine wl_unless 16 false 19 rfl rfl rfl (Or.inl rfl) rfl ?_
      refine wl_unless 16 false 19 rfl rfl rfl (Or.inl rfl) rfl ?_
      refine wl_v (.bool true) rfl rfl (y_pickT rfl rfl rfl ⟨rfl, rfl⟩) ?_
      refine wl_nil fun F92 hF93 => ?_
      have s94 : F92 27 = undef := (hF93 27).trans s10
      have s95 : F92 26 = .bool true := (hF93 26).trans rfl
      clear hF93
      refine then_normal ?_
      refine wq_cond (t := true) s95 (fun _ => ?_) (fun e => by cases e)
      refine wq_seq ?_
      refine wq_region ?_
      refine wl_v (.int .i64 (110)) rfl rfl (y_asg rfl rfl ⟨rfl, rfl⟩) ?_
      refine wl_nil fun F96 hF97 => ?_
      have s98 : F96 27 = undef := (hF97 27).trans s94
      have s99 : F96 2 = .int .i64 (110) := (hF97 2).trans rfl
      clear hF97
      refine then_normal ?_
      refine wq_ret ?_
      refine then_ret ?_
      exact end_tmp (v := .int .i64 (110)) s98 rfl rfl s99 ⟨(by first | rw [show seqE W H R B = 0 from if_pos ⟨by assumption, by assumption, by omega, by omega, by omega, by omega⟩] | rw [show seqE W H R B = 110 from if_neg (by unfold seqOk; rintro ⟨h1, h2, h3, h4, h5, h6⟩; first | (exact absurd h1 (by assumption)) | (exact absurd h2 (by assumption)) | omega)]), K91⟩
  · skip
    refine wq_region ?_
    refine wl_v (.pointer (some ⟨p1, 0, none⟩)) rfl rfl (y_fieldR (n := 1) rfl s11 Try.underlying24 rfl (by kernel_rfl) (by decide) rfl ⟨rfl, rfl⟩) ?_
    refine wl_v (.int .i64 (W)) rfl rfl (y_ld_stc rfl rfl Try.underlying3 B4 rfl rfl ⟨rfl, rfl⟩) ?_
    refine wl_call (R := fun v_ w_ => v_ = .bool false ∧ Kept (fun _ => False) w2 w_) rfl rfl (y_cs rfl rfl rfl (fun _ _ => by kernel_rfl) (ev_func _) (vsC rfl vsN) (hd_side (W)  _   ) (fun e_ w_ h_ => ⟨_, h_.1, (congrArg Value.bool (decide_eq_false d12)), h_.2⟩)) ?_
    rintro _ w100 ⟨rfl, k101⟩
    have B102 := B4.all k101 id
    have K103 := K7.trans k101 (fun _ _ x => x.elim)
    refine wl_v (.bool true) rfl rfl (y_not rfl rfl rfl ⟨rfl, rfl⟩) ?_
    refine wl_v (.bool true) rfl rfl (y_mov rfl rfl ⟨rfl, rfl⟩) ?_
    refine wl_unless 4 false 7 rfl rfl rfl (Or.inl rfl) rfl ?_
    refine wl_unless 4 false 7 rfl rfl rfl (Or.inl rfl) rfl ?_
    refine wl_unless 4 false 7 rfl rfl rfl (Or.inl rfl) rfl ?_
    refine wl_unless 4 false 7 rfl rfl rfl (Or.inl rfl) rfl ?_
    refine wl_v (.bool true) rfl rfl (y_pickT rfl rfl rfl ⟨rfl, rfl⟩) ?_
    refine wl_v (.bool true) rfl rfl (y_mov rfl rfl ⟨rfl, rfl⟩) ?_
    refine wl_unless 10 false 13 rfl rfl rfl (Or.inl rfl) rfl ?_
    refine wl_unless 10 false 13 rfl rfl rfl (Or.inl rfl) rfl ?_
    refine wl_unless 10 false 13 rfl rfl rfl (Or.inl rfl) rfl ?_
    refine wl_unless 10 false 13 rfl rfl rfl (Or.inl rfl) rfl ?_
    refine wl_v (.bool true) rfl rfl (y_pickT rfl rfl rfl ⟨rfl, rfl⟩) ?_
    refine wl_v (.bool true) rfl rfl (y_mov rfl rfl ⟨rfl, rfl⟩) ?_
    refine wl_unless 16 false 19 rfl rfl rfl (Or.inl rfl) rfl ?_
    refine wl_unless 16 false 19 rfl rfl rfl (Or.inl rfl) rfl ?_
    refine wl_unless 16 false 19 rfl rfl rfl (Or.inl rfl) rfl ?_
    refine wl_unless 16 false 19 rfl rfl rfl (Or.inl rfl) rfl ?_
    refine wl_unless 16 false 19 rfl rfl rfl (Or.inl rfl) rfl ?_
    refine wl_unless 16 false 19 rfl rfl rfl (Or.inl rfl) rfl ?_
    refine wl_v (.bool true) rfl rfl (y_pickT rfl rfl rfl ⟨rfl, rfl⟩) ?_
    refine wl_nil fun F104 hF105 => ?_
    have s106 : F104 27 = undef := (hF105 27).trans s10
    have s107 : F104 26 = .bool true := (hF105 26).trans rfl
    clear hF105
    refine then_normal ?_
    refine wq_cond (t := true) s107 (fun _ => ?_) (fun e => by cases e)
    refine wq_seq ?_
    refine wq_region ?_
    refine wl_v (.int .i64 (110)) rfl rfl (y_asg rfl rfl ⟨rfl, rfl⟩) ?_
    refine wl_nil fun F108 hF109 => ?_
    have s110 : F108 27 = undef := (hF109 27).trans s106
    have s111 : F108 2 = .int .i64 (110) := (hF109 2).trans rfl
    clear hF109
    refine then_normal ?_
    refine wq_ret ?_
    refine then_ret ?_
    exact end_tmp (v := .int .i64 (110)) s110 rfl rfl s111 ⟨(by first | rw [show seqE W H R B = 0 from if_pos ⟨by assumption, by assumption, by omega, by omega, by omega, by omega⟩] | rw [show seqE W H R B = 110 from if_neg (by unfold seqOk; rintro ⟨h1, h2, h3, h4, h5, h6⟩; first | (exact absurd h1 (by assumption)) | (exact absurd h2 (by assumption)) | omega)]), K103⟩
set_option maxHeartbeats 4000000 in
set_option maxRecDepth 100000 in
theorem hd_head (K Q D F : Int) (w0 : World) :
    Calls Try.prog 20 #[.agg #[.int .i64 (K), .int .i64 (Q), .int .i64 (D), .int .i64 (F)]] w0 fun e w' => e = .returned (.int .i64 (headE K Q D F)) ∧ Kept (fun _ => False) w0 w' := by
  refine calls_wq (args := [.agg #[.int .i64 (K), .int .i64 (Q), .int .i64 (D), .int .i64 (F)]]) 25 Try.func20 rfl rfl (Nat.le_of_ble_eq_true rfl) ?_
  have K0 := Kept.refl (fun _ => False) w0
  refine wq_seq ?_
  refine wq_region ?_
  refine wl_box_stc (vs := [.int .i64 (K), .int .i64 (Q), .int .i64 (D), .int .i64 (F)]) rfl rfl rfl rfl fun p1 w2 B4 g5 k3 => ?_
  have gr6 : Grew w0 noB (onB p1) := Grew.new K0 g5
  have K7 := K0.trans k3 (fun _ _ x => x.elim)
  refine wl_v (.int .i64 (0)) rfl rfl (y_asg rfl rfl ⟨rfl, rfl⟩) ?_
  refine wl_nil fun F8 hF9 => ?_
  have s10 : F8 25 = undef := (hF9 25).trans rfl
  have s11 : F8 1 = .pointer (some ⟨p1, 0, none⟩) := (hF9 1).trans rfl
  clear hF9
  refine then_normal ?_
  refine wq_seq ?_
  refine wq_seq ?_
  by_cases d12 : (0) ≤ (K) ∧ (K) ≤ (2)
  · skip
    by_cases d13 : (0) ≤ (Q) ∧ (Q) ≤ (20)
    · skip
      by_cases d14 : (0) ≤ (D) ∧ (D) ≤ (16777215)
      · skip
        by_cases d15 : (0) ≤ (F) ∧ (F) ≤ (1073741824)
        · skip
          refine wq_region ?_
          refine wl_v (.pointer (some ⟨p1, 0, none⟩)) rfl rfl (y_fieldR (n := 1) rfl s11 Try.underlying26 rfl (by kernel_rfl) (by decide) rfl ⟨rfl, rfl⟩) ?_
          refine wl_v (.int .i64 (K)) rfl rfl (y_ld_stc rfl rfl Try.underlying3 B4 rfl rfl ⟨rfl, rfl⟩) ?_
          refine wl_call (R := fun v_ w_ => v_ = .bool true ∧ Kept (fun _ => False) w2 w_) rfl rfl (y_cs rfl rfl rfl (fun _ _ => by kernel_rfl) (ev_func _) (vsC rfl (vsC rfl (vsC rfl vsN))) (hd_within (K) (0) (2)  _   ) (fun e_ w_ h_ => ⟨_, h_.1, (congrArg Value.bool (decide_eq_true d12)), h_.2⟩)) ?_
          rintro _ w16 ⟨rfl, k17⟩
          have B18 := B4.all k17 id
          have K19 := K7.trans k17 (fun _ _ x => x.elim)
          refine wl_v (.bool false) rfl rfl (y_not rfl rfl rfl ⟨rfl, rfl⟩) ?_
          refine wl_v (.bool false) rfl rfl (y_mov rfl rfl ⟨rfl, rfl⟩) ?_
          refine wl_vw (.pointer (some ⟨p1, 1, none⟩)) 4 false 7 rfl rfl rfl rfl rfl (y_fieldR (n := 1) rfl s11 Try.underlying26 rfl (by kernel_rfl) (by decide) rfl ⟨rfl, rfl⟩) ?_
          refine wl_vw (.int .i64 (Q)) 4 false 7 rfl rfl rfl rfl rfl (y_ld_stc rfl rfl Try.underlying3 B18 rfl rfl ⟨rfl, rfl⟩) ?_
          refine wl_callw (R := fun v_ w_ => v_ = .bool true ∧ Kept (fun _ => False) w16 w_) 4 false 7 rfl rfl rfl rfl rfl (y_cs rfl rfl rfl (fun _ _ => by kernel_rfl) (ev_func _) (vsC rfl (vsC rfl (vsC rfl vsN))) (hd_within (Q) (0) (20)  _   ) (fun e_ w_ h_ => ⟨_, h_.1, (congrArg Value.bool (decide_eq_true d13)), h_.2⟩)) ?_
          rintro _ w20 ⟨rfl, k21⟩
          have B22 := B18.all k21 id
          have K23 := K19.trans k21 (fun _ _ x => x.elim)
          refine wl_vw (.bool false) 4 false 7 rfl rfl rfl rfl rfl (y_not rfl rfl rfl ⟨rfl, rfl⟩) ?_
          refine wl_v (.bool false) rfl rfl (y_pickF rfl rfl rfl ⟨rfl, rfl⟩) ?_
          refine wl_v (.bool false) rfl rfl (y_mov rfl rfl ⟨rfl, rfl⟩) ?_
          refine wl_vw (.pointer (some ⟨p1, 2, none⟩)) 10 false 13 rfl rfl rfl rfl rfl (y_fieldR (n := 1) rfl s11 Try.underlying26 rfl (by kernel_rfl) (by decide) rfl ⟨rfl, rfl⟩) ?_
          refine wl_vw (.int .i64 (D)) 10 false 13 rfl rfl rfl rfl rfl (y_ld_stc rfl rfl Try.underlying3 B22 rfl rfl ⟨rfl, rfl⟩) ?_
          refine wl_callw (R := fun v_ w_ => v_ = .bool true ∧ Kept (fun _ => False) w20 w_) 10 false 13 rfl rfl rfl rfl rfl (y_cs rfl rfl rfl (fun _ _ => by kernel_rfl) (ev_func _) (vsC rfl (vsC rfl (vsC rfl vsN))) (hd_within (D) (0) (16777215)  _   ) (fun e_ w_ h_ => ⟨_, h_.1, (congrArg Value.bool (decide_eq_true d14)), h_.2⟩)) ?_
          rintro _ w24 ⟨rfl, k25⟩
          have B26 := B22.all k25 id
          have K27 := K23.trans k25 (fun _ _ x => x.elim)
          refine wl_vw (.bool false) 10 false 13 rfl rfl rfl rfl rfl (y_not rfl rfl rfl ⟨rfl, rfl⟩) ?_
          refine wl_v (.bool false) rfl rfl (y_pickF rfl rfl rfl ⟨rfl, rfl⟩) ?_
          refine wl_v (.bool false) rfl rfl (y_mov rfl rfl ⟨rfl, rfl⟩) ?_
          refine wl_vw (.pointer (some ⟨p1, 3, none⟩)) 16 false 19 rfl rfl rfl rfl rfl (y_fieldR (n := 1) rfl s11 Try.underlying26 rfl (by kernel_rfl) (by decide) rfl ⟨rfl, rfl⟩) ?_
          refine wl_vw (.int .i64 (F)) 16 false 19 rfl rfl rfl rfl rfl (y_ld_stc rfl rfl Try.underlying3 B26 rfl rfl ⟨rfl, rfl⟩) ?_
          refine wl_callw (R := fun v_ w_ => v_ = .bool true ∧ Kept (fun _ => False) w24 w_) 16 false 19 rfl rfl rfl rfl rfl (y_cs rfl rfl rfl (fun _ _ => by kernel_rfl) (ev_func _) (vsC rfl (vsC rfl (vsC rfl vsN))) (hd_within (F) (0) (1073741824)  _   ) (fun e_ w_ h_ => ⟨_, h_.1, (congrArg Value.bool (decide_eq_true d15)), h_.2⟩)) ?_
          rintro _ w28 ⟨rfl, k29⟩
          have B30 := B26.all k29 id
          have K31 := K27.trans k29 (fun _ _ x => x.elim)
          refine wl_vw (.bool false) 16 false 19 rfl rfl rfl rfl rfl (y_not rfl rfl rfl ⟨rfl, rfl⟩) ?_
          refine wl_v (.bool false) rfl rfl (y_pickF rfl rfl rfl ⟨rfl, rfl⟩) ?_
          refine wl_nil fun F32 hF33 => ?_
          have s34 : F32 25 = undef := (hF33 25).trans s10
          have s35 : F32 24 = .bool false := (hF33 24).trans rfl
          clear hF33
          refine then_normal ?_
          refine wq_cond (t := false) s35 (fun e => by cases e) (fun _ => ?_)
          refine wq_skip ?_
          refine then_normal ?_
          refine wq_seq ?_
          refine wq_region ?_
          refine wl_v (.int .i64 (0)) rfl rfl (y_asg rfl rfl ⟨rfl, rfl⟩) ?_
          refine wl_nil fun F36 hF37 => ?_
          have s38 : F36 25 = undef := (hF37 25).trans s34
          have s39 : F36 2 = .int .i64 (0) := (hF37 2).trans rfl
          clear hF37
          refine then_normal ?_
          refine wq_ret ?_
          exact end_tmp (v := .int .i64 (0)) s38 rfl rfl s39 ⟨(by first | rw [show headE K Q D F = 0 from if_pos (by unfold headOk; omega)] | rw [show headE K Q D F = 110 from if_neg (by unfold headOk; omega)]), K31⟩
        · skip
          refine wq_region ?_
          refine wl_v (.pointer (some ⟨p1, 0, none⟩)) rfl rfl (y_fieldR (n := 1) rfl s11 Try.underlying26 rfl (by kernel_rfl) (by decide) rfl ⟨rfl, rfl⟩) ?_
          refine wl_v (.int .i64 (K)) rfl rfl (y_ld_stc rfl rfl Try.underlying3 B4 rfl rfl ⟨rfl, rfl⟩) ?_
          refine wl_call (R := fun v_ w_ => v_ = .bool true ∧ Kept (fun _ => False) w2 w_) rfl rfl (y_cs rfl rfl rfl (fun _ _ => by kernel_rfl) (ev_func _) (vsC rfl (vsC rfl (vsC rfl vsN))) (hd_within (K) (0) (2)  _   ) (fun e_ w_ h_ => ⟨_, h_.1, (congrArg Value.bool (decide_eq_true d12)), h_.2⟩)) ?_
          rintro _ w40 ⟨rfl, k41⟩
          have B42 := B4.all k41 id
          have K43 := K7.trans k41 (fun _ _ x => x.elim)
          refine wl_v (.bool false) rfl rfl (y_not rfl rfl rfl ⟨rfl, rfl⟩) ?_
          refine wl_v (.bool false) rfl rfl (y_mov rfl rfl ⟨rfl, rfl⟩) ?_
          refine wl_vw (.pointer (some ⟨p1, 1, none⟩)) 4 false 7 rfl rfl rfl rfl rfl (y_fieldR (n := 1) rfl s11 Try.underlying26 rfl (by kernel_rfl) (by decide) rfl ⟨rfl, rfl⟩) ?_
          refine wl_vw (.int .i64 (Q)) 4 false 7 rfl rfl rfl rfl rfl (y_ld_stc rfl rfl Try.underlying3 B42 rfl rfl ⟨rfl, rfl⟩) ?_
          refine wl_callw (R := fun v_ w_ => v_ = .bool true ∧ Kept (fun _ => False) w40 w_) 4 false 7 rfl rfl rfl rfl rfl (y_cs rfl rfl rfl (fun _ _ => by kernel_rfl) (ev_func _) (vsC rfl (vsC rfl (vsC rfl vsN))) (hd_within (Q) (0) (20)  _   ) (fun e_ w_ h_ => ⟨_, h_.1, (congrArg Value.bool (decide_eq_true d13)), h_.2⟩)) ?_
          rintro _ w44 ⟨rfl, k45⟩
          have B46 := B42.all k45 id
          have K47 := K43.trans k45 (fun _ _ x => x.elim)
          refine wl_vw (.bool false) 4 false 7 rfl rfl rfl rfl rfl (y_not rfl rfl rfl ⟨rfl, rfl⟩) ?_
          refine wl_v (.bool false) rfl rfl (y_pickF rfl rfl rfl ⟨rfl, rfl⟩) ?_
          refine wl_v (.bool false) rfl rfl (y_mov rfl rfl ⟨rfl, rfl⟩) ?_
          refine wl_vw (.pointer (some ⟨p1, 2, none⟩)) 10 false 13 rfl rfl rfl rfl rfl (y_fieldR (n := 1) rfl s11 Try.underlying26 rfl (by kernel_rfl) (by decide) rfl ⟨rfl, rfl⟩) ?_
          refine wl_vw (.int .i64 (D)) 10 false 13 rfl rfl rfl rfl rfl (y_ld_stc rfl rfl Try.underlying3 B46 rfl rfl ⟨rfl, rfl⟩) ?_
          refine wl_callw (R := fun v_ w_ => v_ = .bool true ∧ Kept (fun _ => False) w44 w_) 10 false 13 rfl rfl rfl rfl rfl (y_cs rfl rfl rfl (fun _ _ => by kernel_rfl) (ev_func _) (vsC rfl (vsC rfl (vsC rfl vsN))) (hd_within (D) (0) (16777215)  _   ) (fun e_ w_ h_ => ⟨_, h_.1, (congrArg Value.bool (decide_eq_true d14)), h_.2⟩)) ?_
          rintro _ w48 ⟨rfl, k49⟩
          have B50 := B46.all k49 id
          have K51 := K47.trans k49 (fun _ _ x => x.elim)
          refine wl_vw (.bool false) 10 false 13 rfl rfl rfl rfl rfl (y_not rfl rfl rfl ⟨rfl, rfl⟩) ?_
          refine wl_v (.bool false) rfl rfl (y_pickF rfl rfl rfl ⟨rfl, rfl⟩) ?_
          refine wl_v (.bool false) rfl rfl (y_mov rfl rfl ⟨rfl, rfl⟩) ?_
          refine wl_vw (.pointer (some ⟨p1, 3, none⟩)) 16 false 19 rfl rfl rfl rfl rfl (y_fieldR (n := 1) rfl s11 Try.underlying26 rfl (by kernel_rfl) (by decide) rfl ⟨rfl, rfl⟩) ?_
          refine wl_vw (.int .i64 (F)) 16 false 19 rfl rfl rfl rfl rfl (y_ld_stc rfl rfl Try.underlying3 B50 rfl rfl ⟨rfl, rfl⟩) ?_
          refine wl_callw (R := fun v_ w_ => v_ = .bool false ∧ Kept (fun _ => False) w48 w_) 16 false 19 rfl rfl rfl rfl rfl (y_cs rfl rfl rfl (fun _ _ => by kernel_rfl) (ev_func _) (vsC rfl (vsC rfl (vsC rfl vsN))) (hd_within (F) (0) (1073741824)  _   ) (fun e_ w_ h_ => ⟨_, h_.1, (congrArg Value.bool (decide_eq_false d15)), h_.2⟩)) ?_
          rintro _ w52 ⟨rfl, k53⟩
          have B54 := B50.all k53 id
          have K55 := K51.trans k53 (fun _ _ x => x.elim)
          refine wl_vw (.bool true) 16 false 19 rfl rfl rfl rfl rfl (y_not rfl rfl rfl ⟨rfl, rfl⟩) ?_
          refine wl_v (.bool true) rfl rfl (y_pickF rfl rfl rfl ⟨rfl, rfl⟩) ?_
          refine wl_nil fun F56 hF57 => ?_
          have s58 : F56 25 = undef := (hF57 25).trans s10
          have s59 : F56 24 = .bool true := (hF57 24).trans rfl
          clear hF57
          refine then_normal ?_
          refine wq_cond (t := true) s59 (fun _ => ?_) (fun e => by cases e)
          refine wq_seq ?_
          refine wq_region ?_
          refine wl_v (.int .i64 (110)) rfl rfl (y_asg rfl rfl ⟨rfl, rfl⟩) ?_
          refine wl_nil fun F60 hF61 => ?_
          have s62 : F60 25 = undef := (hF61 25).trans s58
          have s63 : F60 2 = .int .i64 (110) := (hF61 2).trans rfl
          clear hF61
          refine then_normal ?_
          refine wq_ret ?_
          refine then_ret ?_
          exact end_tmp (v := .int .i64 (110)) s62 rfl rfl s63 ⟨(by first | rw [show headE K Q D F = 0 from if_pos (by unfold headOk; omega)] | rw [show headE K Q D F = 110 from if_neg (by unfold headOk; omega)]), K55⟩
      · skip
        refine wq_region ?_
        refine wl_v (.pointer (some ⟨p1, 0, none⟩)) rfl rfl (y_fieldR (n := 1) rfl s11 Try.underlying26 rfl (by kernel_rfl) (by decide) rfl ⟨rfl, rfl⟩) ?_
        refine wl_v (.int .i64 (K)) rfl rfl (y_ld_stc rfl rfl Try.underlying3 B4 rfl rfl ⟨rfl, rfl⟩) ?_
        refine wl_call (R := fun v_ w_ => v_ = .bool true ∧ Kept (fun _ => False) w2 w_) rfl rfl (y_cs rfl rfl rfl (fun _ _ => by kernel_rfl) (ev_func _) (vsC rfl (vsC rfl (vsC rfl vsN))) (hd_within (K) (0) (2)  _   ) (fun e_ w_ h_ => ⟨_, h_.1, (congrArg Value.bool (decide_eq_true d12)), h_.2⟩)) ?_
        rintro _ w64 ⟨rfl, k65⟩
        have B66 := B4.all k65 id
        have K67 := K7.trans k65 (fun _ _ x => x.elim)
        refine wl_v (.bool false) rfl rfl (y_not rfl rfl rfl ⟨rfl, rfl⟩) ?_
        refine wl_v (.bool false) rfl rfl (y_mov rfl rfl ⟨rfl, rfl⟩) ?_
        refine wl_vw (.pointer (some ⟨p1, 1, none⟩)) 4 false 7 rfl rfl rfl rfl rfl (y_fieldR (n := 1) rfl s11 Try.underlying26 rfl (by kernel_rfl) (by decide) rfl ⟨rfl, rfl⟩) ?_
        refine wl_vw (.int .i64 (Q)) 4 false 7 rfl rfl rfl rfl rfl (y_ld_stc rfl rfl Try.underlying3 B66 rfl rfl ⟨rfl, rfl⟩) ?_
        refine wl_callw (R := fun v_ w_ => v_ = .bool true ∧ Kept (fun _ => False) w64 w_) 4 false 7 rfl rfl rfl rfl rfl (y_cs rfl rfl rfl (fun _ _ => by kernel_rfl) (ev_func _) (vsC rfl (vsC rfl (vsC rfl vsN))) (hd_within (Q) (0) (20)  _   ) (fun e_ w_ h_ => ⟨_, h_.1, (congrArg Value.bool (decide_eq_true d13)), h_.2⟩)) ?_
        rintro _ w68 ⟨rfl, k69⟩
        have B70 := B66.all k69 id
        have K71 := K67.trans k69 (fun _ _ x => x.elim)
        refine wl_vw (.bool false) 4 false 7 rfl rfl rfl rfl rfl (y_not rfl rfl rfl ⟨rfl, rfl⟩) ?_
        refine wl_v (.bool false) rfl rfl (y_pickF rfl rfl rfl ⟨rfl, rfl⟩) ?_
        refine wl_v (.bool false) rfl rfl (y_mov rfl rfl ⟨rfl, rfl⟩) ?_
        refine wl_vw (.pointer (some ⟨p1, 2, none⟩)) 10 false 13 rfl rfl rfl rfl rfl (y_fieldR (n := 1) rfl s11 Try.underlying26 rfl (by kernel_rfl) (by decide) rfl ⟨rfl, rfl⟩) ?_
        refine wl_vw (.int .i64 (D)) 10 false 13 rfl rfl rfl rfl rfl (y_ld_stc rfl rfl Try.underlying3 B70 rfl rfl ⟨rfl, rfl⟩) ?_
        refine wl_callw (R := fun v_ w_ => v_ = .bool false ∧ Kept (fun _ => False) w68 w_) 10 false 13 rfl rfl rfl rfl rfl (y_cs rfl rfl rfl (fun _ _ => by kernel_rfl) (ev_func _) (vsC rfl (vsC rfl (vsC rfl vsN))) (hd_within (D) (0) (16777215)  _   ) (fun e_ w_ h_ => ⟨_, h_.1, (congrArg Value.bool (decide_eq_false d14)), h_.2⟩)) ?_
        rintro _ w72 ⟨rfl, k73⟩
        have B74 := B70.all k73 id
        have K75 := K71.trans k73 (fun _ _ x => x.elim)
        refine wl_vw (.bool true) 10 false 13 rfl rfl rfl rfl rfl (y_not rfl rfl rfl ⟨rfl, rfl⟩) ?_
        refine wl_v (.bool true) rfl rfl (y_pickF rfl rfl rfl ⟨rfl, rfl⟩) ?_
        refine wl_v (.bool true) rfl rfl (y_mov rfl rfl ⟨rfl, rfl⟩) ?_
        refine wl_unless 16 false 19 rfl rfl rfl (Or.inl rfl) rfl ?_
        refine wl_unless 16 false 19 rfl rfl rfl (Or.inl rfl) rfl ?_
        refine wl_unless 16 false 19 rfl rfl rfl (Or.inl rfl) rfl ?_
        refine wl_unless 16 false 19 rfl rfl rfl (Or.inl rfl) rfl ?_
        refine wl_v (.bool true) rfl rfl (y_pickT rfl rfl rfl ⟨rfl, rfl⟩) ?_
        refine wl_nil fun F76 hF77 => ?_
        have s78 : F76 25 = undef := (hF77 25).trans s10
        have s79 : F76 24 = .bool true := (hF77 24).trans rfl
        clear hF77
        refine then_normal ?_
        refine wq_cond (t := true) s79 (fun _ => ?_) (fun e => by cases e)
        refine wq_seq ?_
        refine wq_region ?_
        refine wl_v (.int .i64 (110)) rfl rfl (y_asg rfl rfl ⟨rfl, rfl⟩) ?_
        refine wl_nil fun F80 hF81 => ?_
        have s82 : F80 25 = undef := (hF81 25).trans s78
        have s83 : F80 2 = .int .i64 (110) := (hF81 2).trans rfl
        clear hF81
        refine then_normal ?_
        refine wq_ret ?_
        refine then_ret ?_
        exact end_tmp (v := .int .i64 (110)) s82 rfl rfl s83 ⟨(by first | rw [show headE K Q D F = 0 from if_pos (by unfold headOk; omega)] | rw [show headE K Q D F = 110 from if_neg (by unfold headOk; omega)]), K75⟩
    · skip
      refine wq_region ?_
      refine wl_v (.pointer (some ⟨p1, 0, none⟩)) rfl rfl (y_fieldR (n := 1) rfl s11 Try.underlying26 rfl (by kernel_rfl) (by decide) rfl ⟨rfl, rfl⟩) ?_
      refine wl_v (.int .i64 (K)) rfl rfl (y_ld_stc rfl rfl Try.underlying3 B4 rfl rfl ⟨rfl, rfl⟩) ?_
      refine wl_call (R := fun v_ w_ => v_ = .bool true ∧ Kept (fun _ => False) w2 w_) rfl rfl (y_cs rfl rfl rfl (fun _ _ => by kernel_rfl) (ev_func _) (vsC rfl (vsC rfl (vsC rfl vsN))) (hd_within (K) (0) (2)  _   ) (fun e_ w_ h_ => ⟨_, h_.1, (congrArg Value.bool (decide_eq_true d12)), h_.2⟩)) ?_
      rintro _ w84 ⟨rfl, k85⟩
      have B86 := B4.all k85 id
      have K87 := K7.trans k85 (fun _ _ x => x.elim)
      refine wl_v (.bool false) rfl rfl (y_not rfl rfl rfl ⟨rfl, rfl⟩) ?_
      refine wl_v (.bool false) rfl rfl (y_mov rfl rfl ⟨rfl, rfl⟩) ?_
      refine wl_vw (.pointer (some ⟨p1, 1, none⟩)) 4 false 7 rfl rfl rfl rfl rfl (y_fieldR (n := 1) rfl s11 Try.underlying26 rfl (by kernel_rfl) (by decide) rfl ⟨rfl, rfl⟩) ?_
      refine wl_vw (.int .i64 (Q)) 4 false 7 rfl rfl rfl rfl rfl (y_ld_stc rfl rfl Try.underlying3 B86 rfl rfl ⟨rfl, rfl⟩) ?_
      refine wl_callw (R := fun v_ w_ => v_ = .bool false ∧ Kept (fun _ => False) w84 w_) 4 false 7 rfl rfl rfl rfl rfl (y_cs rfl rfl rfl (fun _ _ => by kernel_rfl) (ev_func _) (vsC rfl (vsC rfl (vsC rfl vsN))) (hd_within (Q) (0) (20)  _   ) (fun e_ w_ h_ => ⟨_, h_.1, (congrArg Value.bool (decide_eq_false d13)), h_.2⟩)) ?_
      rintro _ w88 ⟨rfl, k89⟩
      have B90 := B86.all k89 id
      have K91 := K87.trans k89 (fun _ _ x => x.elim)
      refine wl_vw (.bool true) 4 false 7 rfl rfl rfl rfl rfl (y_not rfl rfl rfl ⟨rfl, rfl⟩) ?_
      refine wl_v (.bool true) rfl rfl (y_pickF rfl rfl rfl ⟨rfl, rfl⟩) ?_
      refine wl_v (.bool true) rfl rfl (y_mov rfl rfl ⟨rfl, rfl⟩) ?_
      refine wl_unless 10 false 13 rfl rfl rfl (Or.inl rfl) rfl ?_
      refine wl_unless 10 false 13 rfl rfl rfl (Or.inl rfl) rfl ?_
      refine wl_unless 10 false 13 rfl rfl rfl (Or.inl rfl) rfl ?_
      refine wl_unless 10 false 13 rfl rfl rfl (Or.inl rfl) rfl ?_
      refine wl_v (.bool true) rfl rfl (y_pickT rfl rfl rfl ⟨rfl, rfl⟩) ?_
      refine wl_v (.bool true) rfl rfl (y_mov rfl rfl ⟨rfl, rfl⟩) ?_
      refine wl_unless 16 false 19 rfl rfl rfl (Or.inl rfl) rfl ?_
      refine wl_unless 16 false 19 rfl rfl rfl (Or.inl rfl) rfl ?_
      refine wl_unless 16 false 19 rfl rfl rfl (Or.inl rfl) rfl ?_
      refine wl_unless 16 false 19 rfl rfl rfl (Or.inl rfl) rfl ?_
      refine wl_v (.bool true) rfl rfl (y_pickT rfl rfl rfl ⟨rfl, rfl⟩) ?_
      refine wl_nil fun F92 hF93 => ?_
      have s94 : F92 25 = undef := (hF93 25).trans s10
      have s95 : F92 24 = .bool true := (hF93 24).trans rfl
      clear hF93
      refine then_normal ?_
      refine wq_cond (t := true) s95 (fun _ => ?_) (fun e => by cases e)
      refine wq_seq ?_
      refine wq_region ?_
      refine wl_v (.int .i64 (110)) rfl rfl (y_asg rfl rfl ⟨rfl, rfl⟩) ?_
      refine wl_nil fun F96 hF97 => ?_
      have s98 : F96 25 = undef := (hF97 25).trans s94
      have s99 : F96 2 = .int .i64 (110) := (hF97 2).trans rfl
      clear hF97
      refine then_normal ?_
      refine wq_ret ?_
      refine then_ret ?_
      exact end_tmp (v := .int .i64 (110)) s98 rfl rfl s99 ⟨(by first | rw [show headE K Q D F = 0 from if_pos (by unfold headOk; omega)] | rw [show headE K Q D F = 110 from if_neg (by unfold headOk; omega)]), K91⟩
  · skip
    refine wq_region ?_
    refine wl_v (.pointer (some ⟨p1, 0, none⟩)) rfl rfl (y_fieldR (n := 1) rfl s11 Try.underlying26 rfl (by kernel_rfl) (by decide) rfl ⟨rfl, rfl⟩) ?_
    refine wl_v (.int .i64 (K)) rfl rfl (y_ld_stc rfl rfl Try.underlying3 B4 rfl rfl ⟨rfl, rfl⟩) ?_
    refine wl_call (R := fun v_ w_ => v_ = .bool false ∧ Kept (fun _ => False) w2 w_) rfl rfl (y_cs rfl rfl rfl (fun _ _ => by kernel_rfl) (ev_func _) (vsC rfl (vsC rfl (vsC rfl vsN))) (hd_within (K) (0) (2)  _   ) (fun e_ w_ h_ => ⟨_, h_.1, (congrArg Value.bool (decide_eq_false d12)), h_.2⟩)) ?_
    rintro _ w100 ⟨rfl, k101⟩
    have B102 := B4.all k101 id
    have K103 := K7.trans k101 (fun _ _ x => x.elim)
    refine wl_v (.bool true) rfl rfl (y_not rfl rfl rfl ⟨rfl, rfl⟩) ?_
    refine wl_v (.bool true) rfl rfl (y_mov rfl rfl ⟨rfl, rfl⟩) ?_
    refine wl_unless 4 false 7 rfl rfl rfl (Or.inl rfl) rfl ?_
    refine wl_unless 4 false 7 rfl rfl rfl (Or.inl rfl) rfl ?_
    refine wl_unless 4 false 7 rfl rfl rfl (Or.inl rfl) rfl ?_
    refine wl_unless 4 false 7 rfl rfl rfl (Or.inl rfl) rfl ?_
    refine wl_v (.bool true) rfl rfl (y_pickT rfl rfl rfl ⟨rfl, rfl⟩) ?_
    refine wl_v (.bool true) rfl rfl (y_mov rfl rfl ⟨rfl, rfl⟩) ?_
    refine wl_unless 10 false 13 rfl rfl rfl (Or.inl rfl) rfl ?_
    refine wl_unless 10 false 13 rfl rfl rfl (Or.inl rfl) rfl ?_
    refine wl_unless 10 false 13 rfl rfl rfl (Or.inl rfl) rfl ?_
    refine wl_unless 10 false 13 rfl rfl rfl (Or.inl rfl) rfl ?_
    refine wl_v (.bool true) rfl rfl (y_pickT rfl rfl rfl ⟨rfl, rfl⟩) ?_
    refine wl_v (.bool true) rfl rfl (y_mov rfl rfl ⟨rfl, rfl⟩) ?_
    refine wl_unless 16 false 19 rfl rfl rfl (Or.inl rfl) rfl ?_
    refine wl_unless 16 false 19 rfl rfl rfl (Or.inl rfl) rfl ?_
    refine wl_unless 16 false 19 rfl rfl rfl (Or.inl rfl) rfl ?_
    refine wl_unless 16 false 19 rfl rfl rfl (Or.inl rfl) rfl ?_
    refine wl_v (.bool true) rfl rfl (y_pickT rfl rfl rfl ⟨rfl, rfl⟩) ?_
    refine wl_nil fun F104 hF105 => ?_
    have s106 : F104 25 = undef := (hF105 25).trans s10
    have s107 : F104 24 = .bool true := (hF105 24).trans rfl
    clear hF105
    refine then_normal ?_
    refine wq_cond (t := true) s107 (fun _ => ?_) (fun e => by cases e)
    refine wq_seq ?_
    refine wq_region ?_
    refine wl_v (.int .i64 (110)) rfl rfl (y_asg rfl rfl ⟨rfl, rfl⟩) ?_
    refine wl_nil fun F108 hF109 => ?_
    have s110 : F108 25 = undef := (hF109 25).trans s106
    have s111 : F108 2 = .int .i64 (110) := (hF109 2).trans rfl
    clear hF109
    refine then_normal ?_
    refine wq_ret ?_
    refine then_ret ?_
    exact end_tmp (v := .int .i64 (110)) s110 rfl rfl s111 ⟨(by first | rw [show headE K Q D F = 0 from if_pos (by unfold headOk; omega)] | rw [show headE K Q D F = 110 from if_neg (by unfold headOk; omega)]), K103⟩
/-- A number's lowest bytes, the highest first. -/
def beI (n : Int) : Nat → List Nat
  | 0 => []
  | m + 1 => btI n (256 ^ m) :: beI n m
theorem be_app1 (l : List Nat) (n : Int) : l ++ [btI n (256 ^ 0)] = l ++ beI n 1 := rfl
theorem be_app4 (l : List Nat) (n : Int) : (((l ++ [btI n (256 ^ 3)]) ++ [btI n (256 ^ 2)]) ++ [btI n (256 ^ 1)]) ++ [btI n (256 ^ 0)] = l ++ beI n 4 := by
  simp [beI]
theorem be_lt (n : Int) (m : Nat) : ∀ x ∈ [btI n m], x < 256 := by
  intro x hx
  rw [List.mem_singleton.1 hx]; exact btI_lt _ _
theorem be_length (n : Int) (m : Nat) : (beI n m).length = m := by
  induction m with
  | zero => rfl
  | succ m ih => exact congrArg (· + 1) ih
set_option maxHeartbeats 4000000 in
set_option maxRecDepth 100000 in
theorem hd_put (p : Nat) (l : List Nat) (n : Int) (m : Nat) (T_c : Nat → Prop) (w0 : World) (hm : l.length < 100000000000) (h4 : m = 1 ∨ m = 4) (h_c : Cob w0 T_c p (l)) :
    Calls Try.prog 31 #[.int .i64 (n), .int .i64 (((m : Nat) : Int)), .pointer (some ⟨p, 0, none⟩)] w0 fun e w' => ∃ (T_c' : Nat → Prop), e = .returned (.tuple #[]) ∧ Kept (T_c) w0 w' ∧ (Cob w' T_c' p (l ++ beI n m) ∧ Grew w0 T_c T_c') := by
  refine calls_wq (args := [.int .i64 (n), .int .i64 (((m : Nat) : Int)), .pointer (some ⟨p, 0, none⟩)]) 20 Try.func31 rfl rfl (Nat.le_of_ble_eq_true rfl) ?_
  have K0 := Kept.refl (T_c) w0
  have g_c := Grew.refl w0 T_c
  obtain ⟨v, Tb, hT, hap, hc, ho⟩ := h_c
  have gr1 : Grew w0 (T_c) (onB p) := fun i h => g_c i ((fun i h => (hT i).2 (Or.inl h)) i h)
  have gr2 : Grew w0 (T_c) (Tb) := fun i h => g_c i ((fun i h => (hT i).2 (Or.inr h)) i h)
  have ap3 : Apart (onB p) (Tb) := hap
  refine wq_seq ?_
  rcases (show m = 1 ∨ m = 4 from h4) with rfl | rfl
  · skip
    refine wq_region ?_
    refine wl_v (.int .i64 (((1 : Nat) : Int))) rfl rfl (y_mov rfl rfl ⟨rfl, rfl⟩) ?_
    refine wl_v (.int .i64 (0)) rfl rfl (y_sub rfl rfl rfl (i64_i rfl (by omega)) ⟨rfl, rfl⟩) ?_
    refine wl_v (.int .i64 (0)) rfl rfl (y_asg rfl rfl ⟨rfl, rfl⟩) ?_
    refine wl_nil fun F4 hF5 => ?_
    have s6 : F4 0 = .int .i64 (n) := (hF5 0).trans rfl
    have s7 : F4 2 = .pointer (some ⟨p, 0, none⟩) := (hF5 2).trans rfl
    have s8 : F4 20 = undef := (hF5 20).trans rfl
    have s9 : F4 5 = .int .i64 (0) := (hF5 5).trans rfl
    clear hF5
    refine then_normal ?_
    refine wq_block ?_
    refine wq_rounds 5 ?_
    refine wqr_step ?_
    refine wq_seq ?_
    refine wq_seq ?_
    refine wq_region ?_
    refine wl_v (.int .i64 (0)) rfl rfl (y_mov rfl s9 ⟨rfl, rfl⟩) ?_
    refine wl_v (.bool true) rfl rfl (y_geq rfl rfl rfl rfl ⟨rfl, rfl⟩) ?_
    refine wl_nil fun F10 hF11 => ?_
    have s12 : F10 0 = .int .i64 (n) := (hF11 0).trans s6
    have s13 : F10 2 = .pointer (some ⟨p, 0, none⟩) := (hF11 2).trans s7
    have s14 : F10 20 = undef := (hF11 20).trans s8
    have s15 : F10 5 = .int .i64 (0) := (hF11 5).trans s9
    have s16 : F10 9 = .bool true := (hF11 9).trans rfl
    clear hF11
    refine then_normal ?_
    refine wq_cond (t := true) s16 (fun _ => ?_) (fun e => by cases e)
    refine wq_skip ?_
    refine then_normal ?_
    refine wq_seq ?_
    refine wq_block ?_
    refine wq_tail 7 [some 12, some 13, some 14, some 15, some 16, some 17, some 18] [Pd.eq (v), Pd.eq (.int .i64 (n)), Pd.eq (.int .i64 (0)), Pd.eq (.int .i64 (((0 : Nat) : Int))), Pd.eq (.int .i64 (n / ((256 ^ (1 - 1 - 0) : Nat) : Int))), Pd.eq (.int .u8 ((((btI n (256 ^ (1 - 1 - 0))) : Nat) : Int))), Pd.bytes ([(btI n (256 ^ (1 - 1 - 0)))])] (by kernel_rfl) (by kernel_rfl) (by kernel_rfl) ?_ ?_
    · refine stepsF_cons ?_ ?_
      · refine StepF.one rfl fun F_ w_ hR hout hD => ?_
        exact (y_load_cel rfl ((hout 2 rfl (by decide)).trans s13) Try.underlying27 (hc.all hR id) rfl ⟨rfl, Kept.refl _ _⟩)
      refine stepsF_cons ?_ ?_
      · refine StepF.one rfl fun F_ w_ hR hout hD => ?_
        exact (y_mov rfl ((hout 0 rfl (by decide)).trans s12) ⟨rfl, Kept.refl _ _⟩)
      refine stepsF_cons ?_ ?_
      · refine StepF.one rfl fun F_ w_ hR hout hD => ?_
        exact (y_mov rfl ((hout 5 rfl (by decide)).trans s15) ⟨rfl, Kept.refl _ _⟩)
      refine stepsF_cons ?_ ?_
      · refine StepF.one rfl fun F_ w_ hR hout hD => ?_
        have g14 : F_ 14 = .int .i64 (0) := (hD.get 0 rfl rfl rfl)
        exact (y_mul rfl rfl g14 (i64_n (by omega) (by omega)) ⟨rfl, Kept.refl _ _⟩)
      refine stepsF_cons ?_ ?_
      · refine StepF.one rfl fun F_ w_ hR hout hD => ?_
        have g13 : F_ 13 = .int .i64 (n) := (hD.get 0 rfl rfl rfl)
        have g15 : F_ 15 = .int .i64 (((0 : Nat) : Int)) := (hD.get 1 rfl rfl rfl)
        exact (y_shrR 0 rfl g13 g15 (by decide) (congrArg (n / ·) (by decide)) ⟨rfl, Kept.refl _ _⟩)
      refine stepsF_cons ?_ ?_
      · refine StepF.one rfl fun F_ w_ hR hout hD => ?_
        have g16 : F_ 16 = .int .i64 (n / ((256 ^ (1 - 1 - 0) : Nat) : Int)) := (hD.get 0 rfl rfl rfl)
        exact (y_convR rfl g16 Try.underlying3 Try.underlying5 (byte_wrap n (256 ^ (1 - 1 - 0))) ⟨rfl, Kept.refl _ _⟩)
      refine stepsF_cons ?_ ?_
      · refine StepF.one rfl fun F_ w_ hR hout hD => ?_
        have g17 : F_ 17 = .int .u8 ((((btI n (256 ^ (1 - 1 - 0))) : Nat) : Int)) := (hD.get 0 rfl rfl rfl)
        exact y_builtBn (xs := [.tmp 17]) (vs := [.int .u8 ((((btI n (256 ^ (1 - 1 - 0))) : Nat) : Int))]) (l := [(btI n (256 ^ (1 - 1 - 0)))]) rfl rfl rfl (vsC g17 vsN) rfl (Nat.le_of_ble_eq_true rfl) (Nat.le_of_ble_eq_true rfl) (be_lt n _) fun v_ w2_ T_ b_ g_ k_ => ⟨b_.byt.1, k_⟩
      exact stepsF_nil
    intro v17 F18 w19 k20 G21 hF22
    have B24 := hc.all k20 id
    have B25 := ho.all k20 Apart.none
    have K26 := K0.trans k20 (fun _ _ x => x.elim)
    have s27 : F18 0 = .int .i64 (n) := (hF22 0).trans s12
    have s28 : F18 2 = .pointer (some ⟨p, 0, none⟩) := (hF22 2).trans s13
    have s29 : F18 20 = undef := (hF22 20).trans s14
    have s30 : F18 5 = .int .i64 (0) := (hF22 5).trans s15
    have b32 : BytesArg w19 (v17 6) ([(btI n (256 ^ (1 - 1 - 0)))]) := G21 6 (by decide)
    have s31 : F18 18 = v17 6 := hF22 18
    have s33 : F18 12 = v := (hF22 12).trans (G21 0 (by decide))
    clear G21 hF22
    refine wl_appendB rfl rfl rfl rfl s33 s31 B25 (Byt.arg b32) (by first | omega | (simp; done) | (simp; omega)) fun v34 w35 T39 B37 g38 k36 => ?_
    have gr40 := Grew.trans gr2 K26 g38
    have ap41 : Apart T39 (onB p) := ((ap3).symm).grew g38 (onB_live (B24).lt)
    have B42 := B24.all k36 (fun x => ((ap3) p rfl x))
    have K43 := K26.trans k36 (Grew.ok (S := T_c) gr2 (fun _ x => x))
    refine wl_store_cel rfl rfl rfl s28 rfl B42 (B37).oneC (by kernel_rfl) fun w44 B45 k46 => ?_
    have B47 := B37.all k46 (fun i h x => ((ap41) i h x))
    have K48 := K43.trans k46 (Grew.ok (S := T_c) gr1 (fun _ x => x))
    refine wl_nil fun F49 hF50 => ?_
    have s51 : F49 0 = .int .i64 (n) := (hF50 0).trans s27
    have s52 : F49 2 = .pointer (some ⟨p, 0, none⟩) := (hF50 2).trans s28
    have s53 : F49 20 = undef := (hF50 20).trans s29
    have s54 : F49 5 = .int .i64 (0) := (hF50 5).trans s30
    clear hF50
    refine in_normal ?_
    refine then_normal ?_
    refine wq_region ?_
    refine wl_v (.int .i64 (0)) rfl rfl (y_mov rfl s54 ⟨rfl, rfl⟩) ?_
    refine wl_v (.int .i64 (-1)) rfl rfl (y_sub rfl rfl rfl (i64_i rfl (by omega)) ⟨rfl, rfl⟩) ?_
    refine wl_v (.int .i64 (-1)) rfl rfl (y_asg rfl rfl ⟨rfl, rfl⟩) ?_
    refine wl_nil fun F55 hF56 => ?_
    have s57 : F55 0 = .int .i64 (n) := (hF56 0).trans s51
    have s58 : F55 2 = .pointer (some ⟨p, 0, none⟩) := (hF56 2).trans s52
    have s59 : F55 20 = undef := (hF56 20).trans s53
    have s60 : F55 5 = .int .i64 (-1) := (hF56 5).trans rfl
    clear hF56
    refine then_normal ?_
    refine wqr_step ?_
    refine wq_seq ?_
    refine wq_seq ?_
    refine wq_region ?_
    refine wl_v (.int .i64 (-1)) rfl rfl (y_mov rfl s60 ⟨rfl, rfl⟩) ?_
    refine wl_v (.bool false) rfl rfl (y_geq rfl rfl rfl rfl ⟨rfl, rfl⟩) ?_
    refine wl_nil fun F61 hF62 => ?_
    have s63 : F61 0 = .int .i64 (n) := (hF62 0).trans s57
    have s64 : F61 2 = .pointer (some ⟨p, 0, none⟩) := (hF62 2).trans s58
    have s65 : F61 20 = undef := (hF62 20).trans s59
    have s66 : F61 5 = .int .i64 (-1) := (hF62 5).trans s60
    have s67 : F61 9 = .bool false := (hF62 9).trans rfl
    clear hF62
    refine then_normal ?_
    refine wq_cond (t := false) s67 (fun e => by cases e) (fun _ => ?_)
    refine wq_exit ?_
    refine then_exit ?_
    refine then_exit ?_
    refine in_here ?_
    have B68 : Cob w44 (fun i => (onB p) i ∨ ((T39) i)) p (l ++ beI n 1) := ⟨_, _, fun i => Iff.rfl, (ap41).symm, B45, (by first | exact (be_app1 l n) ▸ B47 | exact (be_app4 l n) ▸ B47)⟩
    have gr69 : Grew w0 (T_c) (fun i => (onB p) i ∨ ((T39) i)) := fun i h => h.elim (fun y => gr1 i y) (fun y => gr40 i y)
    exact end_none s65 rfl ⟨(fun i => (onB p) i ∨ ((T39) i)), rfl, K48, ⟨B68, gr69⟩⟩
  · skip
    refine wq_region ?_
    refine wl_v (.int .i64 (((4 : Nat) : Int))) rfl rfl (y_mov rfl rfl ⟨rfl, rfl⟩) ?_
    refine wl_v (.int .i64 (3)) rfl rfl (y_sub rfl rfl rfl (i64_i rfl (by omega)) ⟨rfl, rfl⟩) ?_
    refine wl_v (.int .i64 (3)) rfl rfl (y_asg rfl rfl ⟨rfl, rfl⟩) ?_
    refine wl_nil fun F70 hF71 => ?_
    have s72 : F70 0 = .int .i64 (n) := (hF71 0).trans rfl
    have s73 : F70 2 = .pointer (some ⟨p, 0, none⟩) := (hF71 2).trans rfl
    have s74 : F70 20 = undef := (hF71 20).trans rfl
    have s75 : F70 5 = .int .i64 (3) := (hF71 5).trans rfl
    clear hF71
    refine then_normal ?_
    refine wq_block ?_
    refine wq_rounds 5 ?_
    refine wqr_step ?_
    refine wq_seq ?_
    refine wq_seq ?_
    refine wq_region ?_
    refine wl_v (.int .i64 (3)) rfl rfl (y_mov rfl s75 ⟨rfl, rfl⟩) ?_
    refine wl_v (.bool true) rfl rfl (y_geq rfl rfl rfl rfl ⟨rfl, rfl⟩) ?_
    refine wl_nil fun F76 hF77 => ?_
    have s78 : F76 0 = .int .i64 (n) := (hF77 0).trans s72
    have s79 : F76 2 = .pointer (some ⟨p, 0, none⟩) := (hF77 2).trans s73
    have s80 : F76 20 = undef := (hF77 20).trans s74
    have s81 : F76 5 = .int .i64 (3) := (hF77 5).trans s75
    have s82 : F76 9 = .bool true := (hF77 9).trans rfl
    clear hF77
    refine then_normal ?_
    refine wq_cond (t := true) s82 (fun _ => ?_) (fun e => by cases e)
    refine wq_skip ?_
    refine then_normal ?_
    refine wq_seq ?_
    refine wq_block ?_
    refine wq_tail 7 [some 12, some 13, some 14, some 15, some 16, some 17, some 18] [Pd.eq (v), Pd.eq (.int .i64 (n)), Pd.eq (.int .i64 (3)), Pd.eq (.int .i64 (((24 : Nat) : Int))), Pd.eq (.int .i64 (n / ((256 ^ (4 - 1 - 0) : Nat) : Int))), Pd.eq (.int .u8 ((((btI n (256 ^ (4 - 1 - 0))) : Nat) : Int))), Pd.bytes ([(btI n (256 ^ (4 - 1 - 0)))])] (by kernel_rfl) (by kernel_rfl) (by kernel_rfl) ?_ ?_
    · refine stepsF_cons ?_ ?_
      · refine StepF.one rfl fun F_ w_ hR hout hD => ?_
        exact (y_load_cel rfl ((hout 2 rfl (by decide)).trans s79) Try.underlying27 (hc.all hR id) rfl ⟨rfl, Kept.refl _ _⟩)
      refine stepsF_cons ?_ ?_
      · refine StepF.one rfl fun F_ w_ hR hout hD => ?_
        exact (y_mov rfl ((hout 0 rfl (by decide)).trans s78) ⟨rfl, Kept.refl _ _⟩)
      refine stepsF_cons ?_ ?_
      · refine StepF.one rfl fun F_ w_ hR hout hD => ?_
        exact (y_mov rfl ((hout 5 rfl (by decide)).trans s81) ⟨rfl, Kept.refl _ _⟩)
      refine stepsF_cons ?_ ?_
      · refine StepF.one rfl fun F_ w_ hR hout hD => ?_
        have g14 : F_ 14 = .int .i64 (3) := (hD.get 0 rfl rfl rfl)
        exact (y_mul rfl rfl g14 (i64_n (by omega) (by omega)) ⟨rfl, Kept.refl _ _⟩)
      refine stepsF_cons ?_ ?_
      · refine StepF.one rfl fun F_ w_ hR hout hD => ?_
        have g13 : F_ 13 = .int .i64 (n) := (hD.get 0 rfl rfl rfl)
        have g15 : F_ 15 = .int .i64 (((24 : Nat) : Int)) := (hD.get 1 rfl rfl rfl)
        exact (y_shrR 24 rfl g13 g15 (by decide) (congrArg (n / ·) (by decide)) ⟨rfl, Kept.refl _ _⟩)
      refine stepsF_cons ?_ ?_
      · refine StepF.one rfl fun F_ w_ hR hout hD => ?_
        have g16 : F_ 16 = .int .i64 (n / ((256 ^ (4 - 1 - 0) : Nat) : Int)) := (hD.get 0 rfl rfl rfl)
        exact (y_convR rfl g16 Try.underlying3 Try.underlying5 (byte_wrap n (256 ^ (4 - 1 - 0))) ⟨rfl, Kept.refl _ _⟩)
      refine stepsF_cons ?_ ?_
      · refine StepF.one rfl fun F_ w_ hR hout hD => ?_
        have g17 : F_ 17 = .int .u8 ((((btI n (256 ^ (4 - 1 - 0))) : Nat) : Int)) := (hD.get 0 rfl rfl rfl)
        exact y_builtBn (xs := [.tmp 17]) (vs := [.int .u8 ((((btI n (256 ^ (4 - 1 - 0))) : Nat) : Int))]) (l := [(btI n (256 ^ (4 - 1 - 0)))]) rfl rfl rfl (vsC g17 vsN) rfl (Nat.le_of_ble_eq_true rfl) (Nat.le_of_ble_eq_true rfl) (be_lt n _) fun v_ w2_ T_ b_ g_ k_ => ⟨b_.byt.1, k_⟩
      exact stepsF_nil
    intro v83 F84 w85 k86 G87 hF88
    have B90 := hc.all k86 id
    have B91 := ho.all k86 Apart.none
    have K92 := K0.trans k86 (fun _ _ x => x.elim)
    have s93 : F84 0 = .int .i64 (n) := (hF88 0).trans s78
    have s94 : F84 2 = .pointer (some ⟨p, 0, none⟩) := (hF88 2).trans s79
    have s95 : F84 20 = undef := (hF88 20).trans s80
    have s96 : F84 5 = .int .i64 (3) := (hF88 5).trans s81
    have b98 : BytesArg w85 (v83 6) ([(btI n (256 ^ (4 - 1 - 0)))]) := G87 6 (by decide)
    have s97 : F84 18 = v83 6 := hF88 18
    have s99 : F84 12 = v := (hF88 12).trans (G87 0 (by decide))
    clear G87 hF88
    refine wl_appendB rfl rfl rfl rfl s99 s97 B91 (Byt.arg b98) (by first | omega | (simp; done) | (simp; omega)) fun v100 w101 T105 B103 g104 k102 => ?_
    have gr106 := Grew.trans gr2 K92 g104
    have ap107 : Apart T105 (onB p) := ((ap3).symm).grew g104 (onB_live (B90).lt)
    have B108 := B90.all k102 (fun x => ((ap3) p rfl x))
    have K109 := K92.trans k102 (Grew.ok (S := T_c) gr2 (fun _ x => x))
    refine wl_store_cel rfl rfl rfl s94 rfl B108 (B103).oneC (by kernel_rfl) fun w110 B111 k112 => ?_
    have B113 := B103.all k112 (fun i h x => ((ap107) i h x))
    have K114 := K109.trans k112 (Grew.ok (S := T_c) gr1 (fun _ x => x))
    refine wl_nil fun F115 hF116 => ?_
    have s117 : F115 0 = .int .i64 (n) := (hF116 0).trans s93
    have s118 : F115 2 = .pointer (some ⟨p, 0, none⟩) := (hF116 2).trans s94
    have s119 : F115 20 = undef := (hF116 20).trans s95
    have s120 : F115 5 = .int .i64 (3) := (hF116 5).trans s96
    clear hF116
    refine in_normal ?_
    refine then_normal ?_
    refine wq_region ?_
    refine wl_v (.int .i64 (3)) rfl rfl (y_mov rfl s120 ⟨rfl, rfl⟩) ?_
    refine wl_v (.int .i64 (2)) rfl rfl (y_sub rfl rfl rfl (i64_i rfl (by omega)) ⟨rfl, rfl⟩) ?_
    refine wl_v (.int .i64 (2)) rfl rfl (y_asg rfl rfl ⟨rfl, rfl⟩) ?_
    refine wl_nil fun F121 hF122 => ?_
    have s123 : F121 0 = .int .i64 (n) := (hF122 0).trans s117
    have s124 : F121 2 = .pointer (some ⟨p, 0, none⟩) := (hF122 2).trans s118
    have s125 : F121 20 = undef := (hF122 20).trans s119
    have s126 : F121 5 = .int .i64 (2) := (hF122 5).trans rfl
    clear hF122
    refine then_normal ?_
    refine wqr_step ?_
    refine wq_seq ?_
    refine wq_seq ?_
    refine wq_region ?_
    refine wl_v (.int .i64 (2)) rfl rfl (y_mov rfl s126 ⟨rfl, rfl⟩) ?_
    refine wl_v (.bool true) rfl rfl (y_geq rfl rfl rfl rfl ⟨rfl, rfl⟩) ?_
    refine wl_nil fun F127 hF128 => ?_
    have s129 : F127 0 = .int .i64 (n) := (hF128 0).trans s123
    have s130 : F127 2 = .pointer (some ⟨p, 0, none⟩) := (hF128 2).trans s124
    have s131 : F127 20 = undef := (hF128 20).trans s125
    have s132 : F127 5 = .int .i64 (2) := (hF128 5).trans s126
    have s133 : F127 9 = .bool true := (hF128 9).trans rfl
    clear hF128
    refine then_normal ?_
    refine wq_cond (t := true) s133 (fun _ => ?_) (fun e => by cases e)
    refine wq_skip ?_
    refine then_normal ?_
    refine wq_seq ?_
    refine wq_block ?_
    refine wq_tail 7 [some 12, some 13, some 14, some 15, some 16, some 17, some 18] [Pd.eq (v100), Pd.eq (.int .i64 (n)), Pd.eq (.int .i64 (2)), Pd.eq (.int .i64 (((16 : Nat) : Int))), Pd.eq (.int .i64 (n / ((256 ^ (4 - 1 - 1) : Nat) : Int))), Pd.eq (.int .u8 ((((btI n (256 ^ (4 - 1 - 1))) : Nat) : Int))), Pd.bytes ([(btI n (256 ^ (4 - 1 - 1)))])] (by kernel_rfl) (by kernel_rfl) (by kernel_rfl) ?_ ?_
    · refine stepsF_cons ?_ ?_
      · refine StepF.one rfl fun F_ w_ hR hout hD => ?_
        exact (y_load_cel rfl ((hout 2 rfl (by decide)).trans s130) Try.underlying27 (B111.all hR id) rfl ⟨rfl, Kept.refl _ _⟩)
      refine stepsF_cons ?_ ?_
      · refine StepF.one rfl fun F_ w_ hR hout hD => ?_
        exact (y_mov rfl ((hout 0 rfl (by decide)).trans s129) ⟨rfl, Kept.refl _ _⟩)
      refine stepsF_cons ?_ ?_
      · refine StepF.one rfl fun F_ w_ hR hout hD => ?_
        exact (y_mov rfl ((hout 5 rfl (by decide)).trans s132) ⟨rfl, Kept.refl _ _⟩)
      refine stepsF_cons ?_ ?_
      · refine StepF.one rfl fun F_ w_ hR hout hD => ?_
        have g14 : F_ 14 = .int .i64 (2) := (hD.get 0 rfl rfl rfl)
        exact (y_mul rfl rfl g14 (i64_n (by omega) (by omega)) ⟨rfl, Kept.refl _ _⟩)
      refine stepsF_cons ?_ ?_
      · refine StepF.one rfl fun F_ w_ hR hout hD => ?_
        have g13 : F_ 13 = .int .i64 (n) := (hD.get 0 rfl rfl rfl)
        have g15 : F_ 15 = .int .i64 (((16 : Nat) : Int)) := (hD.get 1 rfl rfl rfl)
        exact (y_shrR 16 rfl g13 g15 (by decide) (congrArg (n / ·) (by decide)) ⟨rfl, Kept.refl _ _⟩)
      refine stepsF_cons ?_ ?_
      · refine StepF.one rfl fun F_ w_ hR hout hD => ?_
        have g16 : F_ 16 = .int .i64 (n / ((256 ^ (4 - 1 - 1) : Nat) : Int)) := (hD.get 0 rfl rfl rfl)
        exact (y_convR rfl g16 Try.underlying3 Try.underlying5 (byte_wrap n (256 ^ (4 - 1 - 1))) ⟨rfl, Kept.refl _ _⟩)
      refine stepsF_cons ?_ ?_
      · refine StepF.one rfl fun F_ w_ hR hout hD => ?_
        have g17 : F_ 17 = .int .u8 ((((btI n (256 ^ (4 - 1 - 1))) : Nat) : Int)) := (hD.get 0 rfl rfl rfl)
        exact y_builtBn (xs := [.tmp 17]) (vs := [.int .u8 ((((btI n (256 ^ (4 - 1 - 1))) : Nat) : Int))]) (l := [(btI n (256 ^ (4 - 1 - 1)))]) rfl rfl rfl (vsC g17 vsN) rfl (Nat.le_of_ble_eq_true rfl) (Nat.le_of_ble_eq_true rfl) (be_lt n _) fun v_ w2_ T_ b_ g_ k_ => ⟨b_.byt.1, k_⟩
      exact stepsF_nil
    intro v134 F135 w136 k137 G138 hF139
    have B141 := B111.all k137 id
    have B142 := B113.all k137 Apart.none
    have K143 := K114.trans k137 (fun _ _ x => x.elim)
    have s144 : F135 0 = .int .i64 (n) := (hF139 0).trans s129
    have s145 : F135 2 = .pointer (some ⟨p, 0, none⟩) := (hF139 2).trans s130
    have s146 : F135 20 = undef := (hF139 20).trans s131
    have s147 : F135 5 = .int .i64 (2) := (hF139 5).trans s132
    have b149 : BytesArg w136 (v134 6) ([(btI n (256 ^ (4 - 1 - 1)))]) := G138 6 (by decide)
    have s148 : F135 18 = v134 6 := hF139 18
    have s150 : F135 12 = v100 := (hF139 12).trans (G138 0 (by decide))
    clear G138 hF139
    refine wl_appendB rfl rfl rfl rfl s150 s148 B142 (Byt.arg b149) (by first | omega | (simp; done) | (simp; omega)) fun v151 w152 T156 B154 g155 k153 => ?_
    have gr157 := Grew.trans gr106 K143 g155
    have ap158 : Apart T156 (onB p) := (ap107).grew g155 (onB_live (B141).lt)
    have B159 := B141.all k153 (fun x => (((ap107).symm) p rfl x))
    have K160 := K143.trans k153 (Grew.ok (S := T_c) gr106 (fun _ x => x))
    refine wl_store_cel rfl rfl rfl s145 rfl B159 (B154).oneC (by kernel_rfl) fun w161 B162 k163 => ?_
    have B164 := B154.all k163 (fun i h x => ((ap158) i h x))
    have K165 := K160.trans k163 (Grew.ok (S := T_c) gr1 (fun _ x => x))
    refine wl_nil fun F166 hF167 => ?_
    have s168 : F166 0 = .int .i64 (n) := (hF167 0).trans s144
    have s169 : F166 2 = .pointer (some ⟨p, 0, none⟩) := (hF167 2).trans s145
    have s170 : F166 20 = undef := (hF167 20).trans s146
    have s171 : F166 5 = .int .i64 (2) := (hF167 5).trans s147
    clear hF167
    refine in_normal ?_
    refine then_normal ?_
    refine wq_region ?_
    refine wl_v (.int .i64 (2)) rfl rfl (y_mov rfl s171 ⟨rfl, rfl⟩) ?_
    refine wl_v (.int .i64 (1)) rfl rfl (y_sub rfl rfl rfl (i64_i rfl (by omega)) ⟨rfl, rfl⟩) ?_
    refine wl_v (.int .i64 (1)) rfl rfl (y_asg rfl rfl ⟨rfl, rfl⟩) ?_
    refine wl_nil fun F172 hF173 => ?_
    have s174 : F172 0 = .int .i64 (n) := (hF173 0).trans s168
    have s175 : F172 2 = .pointer (some ⟨p, 0, none⟩) := (hF173 2).trans s169
    have s176 : F172 20 = undef := (hF173 20).trans s170
    have s177 : F172 5 = .int .i64 (1) := (hF173 5).trans rfl
    clear hF173
    refine then_normal ?_
    refine wqr_step ?_
    refine wq_seq ?_
    refine wq_seq ?_
    refine wq_region ?_
    refine wl_v (.int .i64 (1)) rfl rfl (y_mov rfl s177 ⟨rfl, rfl⟩) ?_
    refine wl_v (.bool true) rfl rfl (y_geq rfl rfl rfl rfl ⟨rfl, rfl⟩) ?_
    refine wl_nil fun F178 hF179 => ?_
    have s180 : F178 0 = .int .i64 (n) := (hF179 0).trans s174
    have s181 : F178 2 = .pointer (some ⟨p, 0, none⟩) := (hF179 2).trans s175
    have s182 : F178 20 = undef := (hF179 20).trans s176
    have s183 : F178 5 = .int .i64 (1) := (hF179 5).trans s177
    have s184 : F178 9 = .bool true := (hF179 9).trans rfl
    clear hF179
    refine then_normal ?_
    refine wq_cond (t := true) s184 (fun _ => ?_) (fun e => by cases e)
    refine wq_skip ?_
    refine then_normal ?_
    refine wq_seq ?_
    refine wq_block ?_
    refine wq_tail 7 [some 12, some 13, some 14, some 15, some 16, some 17, some 18] [Pd.eq (v151), Pd.eq (.int .i64 (n)), Pd.eq (.int .i64 (1)), Pd.eq (.int .i64 (((8 : Nat) : Int))), Pd.eq (.int .i64 (n / ((256 ^ (4 - 1 - 2) : Nat) : Int))), Pd.eq (.int .u8 ((((btI n (256 ^ (4 - 1 - 2))) : Nat) : Int))), Pd.bytes ([(btI n (256 ^ (4 - 1 - 2)))])] (by kernel_rfl) (by kernel_rfl) (by kernel_rfl) ?_ ?_
    · refine stepsF_cons ?_ ?_
      · refine StepF.one rfl fun F_ w_ hR hout hD => ?_
        exact (y_load_cel rfl ((hout 2 rfl (by decide)).trans s181) Try.underlying27 (B162.all hR id) rfl ⟨rfl, Kept.refl _ _⟩)
      refine stepsF_cons ?_ ?_
      · refine StepF.one rfl fun F_ w_ hR hout hD => ?_
        exact (y_mov rfl ((hout 0 rfl (by decide)).trans s180) ⟨rfl, Kept.refl _ _⟩)
      refine stepsF_cons ?_ ?_
      · refine StepF.one rfl fun F_ w_ hR hout hD => ?_
        exact (y_mov rfl ((hout 5 rfl (by decide)).trans s183) ⟨rfl, Kept.refl _ _⟩)
      refine stepsF_cons ?_ ?_
      · refine StepF.one rfl fun F_ w_ hR hout hD => ?_
        have g14 : F_ 14 = .int .i64 (1) := (hD.get 0 rfl rfl rfl)
        exact (y_mul rfl rfl g14 (i64_n (by omega) (by omega)) ⟨rfl, Kept.refl _ _⟩)
      refine stepsF_cons ?_ ?_
      · refine StepF.one rfl fun F_ w_ hR hout hD => ?_
        have g13 : F_ 13 = .int .i64 (n) := (hD.get 0 rfl rfl rfl)
        have g15 : F_ 15 = .int .i64 (((8 : Nat) : Int)) := (hD.get 1 rfl rfl rfl)
        exact (y_shrR 8 rfl g13 g15 (by decide) (congrArg (n / ·) (by decide)) ⟨rfl, Kept.refl _ _⟩)
      refine stepsF_cons ?_ ?_
      · refine StepF.one rfl fun F_ w_ hR hout hD => ?_
        have g16 : F_ 16 = .int .i64 (n / ((256 ^ (4 - 1 - 2) : Nat) : Int)) := (hD.get 0 rfl rfl rfl)
        exact (y_convR rfl g16 Try.underlying3 Try.underlying5 (byte_wrap n (256 ^ (4 - 1 - 2))) ⟨rfl, Kept.refl _ _⟩)
      refine stepsF_cons ?_ ?_
      · refine StepF.one rfl fun F_ w_ hR hout hD => ?_
        have g17 : F_ 17 = .int .u8 ((((btI n (256 ^ (4 - 1 - 2))) : Nat) : Int)) := (hD.get 0 rfl rfl rfl)
        exact y_builtBn (xs := [.tmp 17]) (vs := [.int .u8 ((((btI n (256 ^ (4 - 1 - 2))) : Nat) : Int))]) (l := [(btI n (256 ^ (4 - 1 - 2)))]) rfl rfl rfl (vsC g17 vsN) rfl (Nat.le_of_ble_eq_true rfl) (Nat.le_of_ble_eq_true rfl) (be_lt n _) fun v_ w2_ T_ b_ g_ k_ => ⟨b_.byt.1, k_⟩
      exact stepsF_nil
    intro v185 F186 w187 k188 G189 hF190
    have B192 := B162.all k188 id
    have B193 := B164.all k188 Apart.none
    have K194 := K165.trans k188 (fun _ _ x => x.elim)
    have s195 : F186 0 = .int .i64 (n) := (hF190 0).trans s180
    have s196 : F186 2 = .pointer (some ⟨p, 0, none⟩) := (hF190 2).trans s181
    have s197 : F186 20 = undef := (hF190 20).trans s182
    have s198 : F186 5 = .int .i64 (1) := (hF190 5).trans s183
    have b200 : BytesArg w187 (v185 6) ([(btI n (256 ^ (4 - 1 - 2)))]) := G189 6 (by decide)
    have s199 : F186 18 = v185 6 := hF190 18
    have s201 : F186 12 = v151 := (hF190 12).trans (G189 0 (by decide))
    clear G189 hF190
    refine wl_appendB rfl rfl rfl rfl s201 s199 B193 (Byt.arg b200) (by first | omega | (simp; done) | (simp; omega)) fun v202 w203 T207 B205 g206 k204 => ?_
    have gr208 := Grew.trans gr157 K194 g206
    have ap209 : Apart T207 (onB p) := (ap158).grew g206 (onB_live (B192).lt)
    have B210 := B192.all k204 (fun x => (((ap158).symm) p rfl x))
    have K211 := K194.trans k204 (Grew.ok (S := T_c) gr157 (fun _ x => x))
    refine wl_store_cel rfl rfl rfl s196 rfl B210 (B205).oneC (by kernel_rfl) fun w212 B213 k214 => ?_
    have B215 := B205.all k214 (fun i h x => ((ap209) i h x))
    have K216 := K211.trans k214 (Grew.ok (S := T_c) gr1 (fun _ x => x))
    refine wl_nil fun F217 hF218 => ?_
    have s219 : F217 0 = .int .i64 (n) := (hF218 0).trans s195
    have s220 : F217 2 = .pointer (some ⟨p, 0, none⟩) := (hF218 2).trans s196
    have s221 : F217 20 = undef := (hF218 20).trans s197
    have s222 : F217 5 = .int .i64 (1) := (hF218 5).trans s198
    clear hF218
    refine in_normal ?_
    refine then_normal ?_
    refine wq_region ?_
    refine wl_v (.int .i64 (1)) rfl rfl (y_mov rfl s222 ⟨rfl, rfl⟩) ?_
    refine wl_v (.int .i64 (0)) rfl rfl (y_sub rfl rfl rfl (i64_i rfl (by omega)) ⟨rfl, rfl⟩) ?_
    refine wl_v (.int .i64 (0)) rfl rfl (y_asg rfl rfl ⟨rfl, rfl⟩) ?_
    refine wl_nil fun F223 hF224 => ?_
    have s225 : F223 0 = .int .i64 (n) := (hF224 0).trans s219
    have s226 : F223 2 = .pointer (some ⟨p, 0, none⟩) := (hF224 2).trans s220
    have s227 : F223 20 = undef := (hF224 20).trans s221
    have s228 : F223 5 = .int .i64 (0) := (hF224 5).trans rfl
    clear hF224
    refine then_normal ?_
    refine wqr_step ?_
    refine wq_seq ?_
    refine wq_seq ?_
    refine wq_region ?_
    refine wl_v (.int .i64 (0)) rfl rfl (y_mov rfl s228 ⟨rfl, rfl⟩) ?_
    refine wl_v (.bool true) rfl rfl (y_geq rfl rfl rfl rfl ⟨rfl, rfl⟩) ?_
    refine wl_nil fun F229 hF230 => ?_
    have s231 : F229 0 = .int .i64 (n) := (hF230 0).trans s225
    have s232 : F229 2 = .pointer (some ⟨p, 0, none⟩) := (hF230 2).trans s226
    have s233 : F229 20 = undef := (hF230 20).trans s227
    have s234 : F229 5 = .int .i64 (0) := (hF230 5).trans s228
    have s235 : F229 9 = .bool true := (hF230 9).trans rfl
    clear hF230
    refine then_normal ?_
    refine wq_cond (t := true) s235 (fun _ => ?_) (fun e => by cases e)
    refine wq_skip ?_
    refine then_normal ?_
    refine wq_seq ?_
    refine wq_block ?_
    refine wq_tail 7 [some 12, some 13, some 14, some 15, some 16, some 17, some 18] [Pd.eq (v202), Pd.eq (.int .i64 (n)), Pd.eq (.int .i64 (0)), Pd.eq (.int .i64 (((0 : Nat) : Int))), Pd.eq (.int .i64 (n / ((256 ^ (4 - 1 - 3) : Nat) : Int))), Pd.eq (.int .u8 ((((btI n (256 ^ (4 - 1 - 3))) : Nat) : Int))), Pd.bytes ([(btI n (256 ^ (4 - 1 - 3)))])] (by kernel_rfl) (by kernel_rfl) (by kernel_rfl) ?_ ?_
    · refine stepsF_cons ?_ ?_
      · refine StepF.one rfl fun F_ w_ hR hout hD => ?_
        exact (y_load_cel rfl ((hout 2 rfl (by decide)).trans s232) Try.underlying27 (B213.all hR id) rfl ⟨rfl, Kept.refl _ _⟩)
      refine stepsF_cons ?_ ?_
      · refine StepF.one rfl fun F_ w_ hR hout hD => ?_
        exact (y_mov rfl ((hout 0 rfl (by decide)).trans s231) ⟨rfl, Kept.refl _ _⟩)
      refine stepsF_cons ?_ ?_
      · refine StepF.one rfl fun F_ w_ hR hout hD => ?_
        exact (y_mov rfl ((hout 5 rfl (by decide)).trans s234) ⟨rfl, Kept.refl _ _⟩)
      refine stepsF_cons ?_ ?_
      · refine StepF.one rfl fun F_ w_ hR hout hD => ?_
        have g14 : F_ 14 = .int .i64 (0) := (hD.get 0 rfl rfl rfl)
        exact (y_mul rfl rfl g14 (i64_n (by omega) (by omega)) ⟨rfl, Kept.refl _ _⟩)
      refine stepsF_cons ?_ ?_
      · refine StepF.one rfl fun F_ w_ hR hout hD => ?_
        have g13 : F_ 13 = .int .i64 (n) := (hD.get 0 rfl rfl rfl)
        have g15 : F_ 15 = .int .i64 (((0 : Nat) : Int)) := (hD.get 1 rfl rfl rfl)
        exact (y_shrR 0 rfl g13 g15 (by decide) (congrArg (n / ·) (by decide)) ⟨rfl, Kept.refl _ _⟩)
      refine stepsF_cons ?_ ?_
      · refine StepF.one rfl fun F_ w_ hR hout hD => ?_
        have g16 : F_ 16 = .int .i64 (n / ((256 ^ (4 - 1 - 3) : Nat) : Int)) := (hD.get 0 rfl rfl rfl)
        exact (y_convR rfl g16 Try.underlying3 Try.underlying5 (byte_wrap n (256 ^ (4 - 1 - 3))) ⟨rfl, Kept.refl _ _⟩)
      refine stepsF_cons ?_ ?_
      · refine StepF.one rfl fun F_ w_ hR hout hD => ?_
        have g17 : F_ 17 = .int .u8 ((((btI n (256 ^ (4 - 1 - 3))) : Nat) : Int)) := (hD.get 0 rfl rfl rfl)
        exact y_builtBn (xs := [.tmp 17]) (vs := [.int .u8 ((((btI n (256 ^ (4 - 1 - 3))) : Nat) : Int))]) (l := [(btI n (256 ^ (4 - 1 - 3)))]) rfl rfl rfl (vsC g17 vsN) rfl (Nat.le_of_ble_eq_true rfl) (Nat.le_of_ble_eq_true rfl) (be_lt n _) fun v_ w2_ T_ b_ g_ k_ => ⟨b_.byt.1, k_⟩
      exact stepsF_nil
    intro v236 F237 w238 k239 G240 hF241
    have B243 := B213.all k239 id
    have B244 := B215.all k239 Apart.none
    have K245 := K216.trans k239 (fun _ _ x => x.elim)
    have s246 : F237 0 = .int .i64 (n) := (hF241 0).trans s231
    have s247 : F237 2 = .pointer (some ⟨p, 0, none⟩) := (hF241 2).trans s232
    have s248 : F237 20 = undef := (hF241 20).trans s233
    have s249 : F237 5 = .int .i64 (0) := (hF241 5).trans s234
    have b251 : BytesArg w238 (v236 6) ([(btI n (256 ^ (4 - 1 - 3)))]) := G240 6 (by decide)
    have s250 : F237 18 = v236 6 := hF241 18
    have s252 : F237 12 = v202 := (hF241 12).trans (G240 0 (by decide))
    clear G240 hF241
    refine wl_appendB rfl rfl rfl rfl s252 s250 B244 (Byt.arg b251) (by first | omega | (simp; done) | (simp; omega)) fun v253 w254 T258 B256 g257 k255 => ?_
    have gr259 := Grew.trans gr208 K245 g257
    have ap260 : Apart T258 (onB p) := (ap209).grew g257 (onB_live (B243).lt)
    have B261 := B243.all k255 (fun x => (((ap209).symm) p rfl x))
    have K262 := K245.trans k255 (Grew.ok (S := T_c) gr208 (fun _ x => x))
    refine wl_store_cel rfl rfl rfl s247 rfl B261 (B256).oneC (by kernel_rfl) fun w263 B264 k265 => ?_
    have B266 := B256.all k265 (fun i h x => ((ap260) i h x))
    have K267 := K262.trans k265 (Grew.ok (S := T_c) gr1 (fun _ x => x))
    refine wl_nil fun F268 hF269 => ?_
    have s270 : F268 0 = .int .i64 (n) := (hF269 0).trans s246
    have s271 : F268 2 = .pointer (some ⟨p, 0, none⟩) := (hF269 2).trans s247
    have s272 : F268 20 = undef := (hF269 20).trans s248
    have s273 : F268 5 = .int .i64 (0) := (hF269 5).trans s249
    clear hF269
    refine in_normal ?_
    refine then_normal ?_
    refine wq_region ?_
    refine wl_v (.int .i64 (0)) rfl rfl (y_mov rfl s273 ⟨rfl, rfl⟩) ?_
    refine wl_v (.int .i64 (-1)) rfl rfl (y_sub rfl rfl rfl (i64_i rfl (by omega)) ⟨rfl, rfl⟩) ?_
    refine wl_v (.int .i64 (-1)) rfl rfl (y_asg rfl rfl ⟨rfl, rfl⟩) ?_
    refine wl_nil fun F274 hF275 => ?_
    have s276 : F274 0 = .int .i64 (n) := (hF275 0).trans s270
    have s277 : F274 2 = .pointer (some ⟨p, 0, none⟩) := (hF275 2).trans s271
    have s278 : F274 20 = undef := (hF275 20).trans s272
    have s279 : F274 5 = .int .i64 (-1) := (hF275 5).trans rfl
    clear hF275
    refine then_normal ?_
    refine wqr_step ?_
    refine wq_seq ?_
    refine wq_seq ?_
    refine wq_region ?_
    refine wl_v (.int .i64 (-1)) rfl rfl (y_mov rfl s279 ⟨rfl, rfl⟩) ?_
    refine wl_v (.bool false) rfl rfl (y_geq rfl rfl rfl rfl ⟨rfl, rfl⟩) ?_
    refine wl_nil fun F280 hF281 => ?_
    have s282 : F280 0 = .int .i64 (n) := (hF281 0).trans s276
    have s283 : F280 2 = .pointer (some ⟨p, 0, none⟩) := (hF281 2).trans s277
    have s284 : F280 20 = undef := (hF281 20).trans s278
    have s285 : F280 5 = .int .i64 (-1) := (hF281 5).trans s279
    have s286 : F280 9 = .bool false := (hF281 9).trans rfl
    clear hF281
    refine then_normal ?_
    refine wq_cond (t := false) s286 (fun e => by cases e) (fun _ => ?_)
    refine wq_exit ?_
    refine then_exit ?_
    refine then_exit ?_
    refine in_here ?_
    have B287 : Cob w263 (fun i => (onB p) i ∨ ((T258) i)) p (l ++ beI n 4) := ⟨_, _, fun i => Iff.rfl, (ap260).symm, B264, (by first | exact (be_app1 l n) ▸ B266 | exact (be_app4 l n) ▸ B266)⟩
    have gr288 : Grew w0 (T_c) (fun i => (onB p) i ∨ ((T258) i)) := fun i h => h.elim (fun y => gr1 i y) (fun y => gr259 i y)
    exact end_none s284 rfl ⟨(fun i => (onB p) i ∨ ((T258) i)), rfl, K267, ⟨B287, gr288⟩⟩
set_option maxHeartbeats 4000000 in
set_option maxRecDepth 100000 in
theorem hd_lay (f : Nat → Int) (v : Value) (l : List Nat) (T_r : Nat → Prop) (w0 : World) (hm : l.length < 1000000000) (h_r : Byt w0 T_r v (l)) :
    Calls Try.prog 22 #[.agg (arrL 4 (f)).toArray, v] w0 fun e w' => ∃ (v1 : Value) (T1 : Nat → Prop), e = .returned (v1) ∧ Kept (fun _ => False) w0 w' ∧ (Owb w' T1 v1 ((tenB (f 0) (f 1) (f 2) (f 3) ++ l)) ∧ Grew w0 noB T1) := by
  refine calls_wq (args := [.agg (arrL 4 (f)).toArray, v]) 31 Try.func22 rfl rfl (Nat.le_of_ble_eq_true rfl) ?_
  have K0 := Kept.refl (fun _ => False) w0
  have g_r := Grew.refl w0 T_r
  refine wq_seq ?_
  refine wq_region ?_
  refine wl_box_arr rfl rfl rfl rfl fun p1 w2 e5 B3 k4 => ?_
  have g6 := onB_new (Nat.le_of_eq e5.symm)
  have gr7 : Grew w0 noB (onB p1) := Grew.new K0 g6
  have ap8 : Apart (onB p1) (T_r) := Apart.new g6 (h_r).live
  clear e5 g6
  have B9 := h_r.all k4 Apart.none
  have K10 := K0.trans k4 (fun _ _ x => x.elim)
  refine wl_v (.slice none 0 0) rfl rfl (y_asg rfl rfl ⟨rfl, rfl⟩) ?_
  refine wl_nil fun F11 hF12 => ?_
  have s13 : F11 1 = v := (hF12 1).trans rfl
  have s14 : F11 31 = undef := (hF12 31).trans rfl
  have s15 : F11 2 = .pointer (some ⟨p1, 0, none⟩) := (hF12 2).trans rfl
  clear hF12
  refine then_normal ?_
  refine wq_seq ?_
  refine wq_region ?_
  refine wl_v (v) rfl rfl (y_mov rfl s13 ⟨rfl, rfl⟩) ?_
  refine wl_v (.int .i64 ((((l).length : Nat) : Int))) rfl rfl (y_lenV rfl rfl rfl B9 ⟨rfl, rfl⟩) ?_
  refine wl_v (.int .i64 (((10 + ((l).length) : Nat) : Int))) rfl rfl (y_add rfl rfl rfl (i64_n (by omega) (by omega)) ⟨rfl, rfl⟩) ?_
  refine wl_op rfl rfl (y_makeC0 (c := 10 + ((l).length)) rfl rfl rfl (by omega) (by omega) (by omega) fun v16 w17 T21 B19 g20 k18 => ?_)
  have gr22 : Grew w0 noB (T21) := Grew.new K10 g20
  have ap23 : Apart (T21) (T_r) := Apart.new g20 (B9).live
  have ap24 : Apart (T21) (onB p1) := Apart.new g20 (onB_live (B3).lt)
  have B25 := B9.all k18 Apart.none
  have B26 := B3.all k18 id
  have K27 := K10.trans k18 (fun _ _ x => x.elim)
  refine wl_alloc_cel (v := .slice none 0 0) rfl rfl rfl (by kernel_rfl) rfl fun p28 w29 B32 g34 k30 => ?_
  have gr35 : Grew w0 noB (onB p28) := Grew.new K27 g34
  have ap36 : Apart (onB p28) (T_r) := Apart.new g34 (B25).live
  have ap37 : Apart (onB p28) (onB p1) := Apart.new g34 (onB_live (B26).lt)
  have ap38 : Apart (onB p28) (T21) := Apart.new g34 (B19).live
  have B39 := B25.all k30 Apart.none
  have B40 := B26.all k30 id
  have B41 := B19.all k30 Apart.none
  have K42 := K27.trans k30 (fun _ _ x => x.elim)
  refine wl_store_cel rfl rfl rfl rfl rfl B32 (B41).oneC (by kernel_rfl) fun w43 B44 k45 => ?_
  have B46 := B39.all k45 (fun i h x => (((ap36).symm) i h x))
  have B47 := B40.all k45 (fun x => (((ap37).symm) p1 rfl x))
  have B48 := B41.all k45 (fun i h x => (((ap38).symm) i h x))
  have K49 := K42.trans k45 (Grew.ok (S := fun _ => False) gr35 noB_le)
  refine wl_nil fun F50 hF51 => ?_
  have s52 : F50 1 = v := (hF51 1).trans s13
  have s53 : F50 31 = undef := (hF51 31).trans s14
  have s54 : F50 2 = .pointer (some ⟨p1, 0, none⟩) := (hF51 2).trans s15
  have s55 : F50 5 = .pointer (some ⟨p28, 0, none⟩) := (hF51 5).trans rfl
  clear hF51
  refine then_normal ?_
  refine wq_seq ?_
  refine wq_region ?_
  refine wl_v (.func (.func 31) #[] #[.pointer (some ⟨p28, 0, none⟩)]) rfl rfl (y_fnc rfl (vsC s55 vsN) ⟨rfl, rfl⟩) ?_
  refine wl_v (.func (.func 31) #[] #[.pointer (some ⟨p28, 0, none⟩)]) rfl rfl (y_asg rfl rfl ⟨rfl, rfl⟩) ?_
  refine wl_nil fun F56 hF57 => ?_
  have s58 : F56 1 = v := (hF57 1).trans s52
  have s59 : F56 31 = undef := (hF57 31).trans s53
  have s60 : F56 2 = .pointer (some ⟨p1, 0, none⟩) := (hF57 2).trans s54
  have s61 : F56 5 = .pointer (some ⟨p28, 0, none⟩) := (hF57 5).trans s55
  have s62 : F56 6 = .func (.func 31) #[] #[.pointer (some ⟨p28, 0, none⟩)] := (hF57 6).trans rfl
  clear hF57
  refine then_normal ?_
  refine wq_seq ?_
  have B63 : Cob w43 (fun i => (onB p28) i ∨ ((T21) i)) p28 (([] : List Nat)) := ⟨_, _, fun i => Iff.rfl, ap38, B44, B48⟩
  have gr64 : Grew w0 (noB) (fun i => (onB p28) i ∨ ((T21) i)) := fun i h => h.elim (fun y => gr35 i y) (fun y => gr22 i y)
  have ap65 : Apart (fun i => (onB p28) i ∨ ((T21) i)) (T_r) := fun i h => h.elim (fun y => (ap36) i y) (fun y => (ap23) i y)
  have ap66 : Apart (fun i => (onB p28) i ∨ ((T21) i)) (onB p1) := fun i h => h.elim (fun y => (ap37) i y) (fun y => (ap24) i y)
  refine wq_region ?_
  refine wl_v (.func (.func 31) #[] #[.pointer (some ⟨p28, 0, none⟩)]) rfl rfl (y_mov rfl s62 ⟨rfl, rfl⟩) ?_
  refine wl_v (.pointer (some ⟨p1, 0, none⟩)) rfl rfl (y_atR (0) (s := 1) rfl s60 rfl (by omega) Try.underlying43 (by omega) (by kernel_rfl) (by omega) ⟨rfl, rfl⟩) ?_
  refine wl_v (.int .i64 ((f) (0))) rfl rfl (y_ldR rfl rfl Try.underlying3 ((B47).cell (by omega)) ⟨rfl, rfl⟩) ?_
  refine wl_call (R := fun v_ w_ => ∃ (T69 : Nat → Prop), .tuple #[] = v_ ∧ Kept (fun i => (onB p28) i ∨ ((T21) i)) w43 w_ ∧ (Cob w_ T69 p28 ((([] : List Nat)) ++ beI ((f) (0)) (1)) ∧ Grew w43 (fun i => (onB p28) i ∨ ((T21) i)) T69)) rfl rfl (y_clc (cs := [.pointer (some ⟨p28, 0, none⟩)]) rfl rfl rfl rfl (fun _ _ => by kernel_rfl) (vsC rfl (vsC rfl vsN)) (hd_put (p28) (([] : List Nat)) ((f) (0)) (1) (fun i => (onB p28) i ∨ ((T21) i)) _ (by first | (simp; done) | (simp [be_length]; done) | (simp [be_length]; omega)) (by omega) B63 ) (fun e_ w_ h_ => by obtain ⟨T69_, he_, hr_⟩ := h_; exact ⟨_, he_, T69_, rfl, hr_⟩)) ?_
  rintro _ w67 ⟨T69, rfl, k68, ⟨B70, g71⟩⟩
  have B72 := B46.all k68 (fun i h x => (((ap65).symm) i h x))
  have B73 := B47.all k68 (fun x => (((ap66).symm) p1 rfl x))
  have K74 := K49.trans k68 (fun i hi x => ((Grew.ok (S := fun _ => False) gr64 noB_le) i hi x))
  have gr75 := gr64.trans K49 g71
  have ap76 : Apart T69 (T_r) := (ap65).grew g71 (B46).live
  have ap77 : Apart T69 (onB p1) := (ap66).grew g71 (onB_live (B47).lt)
  refine wl_nil fun F78 hF79 => ?_
  have s80 : F78 1 = v := (hF79 1).trans s58
  have s81 : F78 31 = undef := (hF79 31).trans s59
  have s82 : F78 2 = .pointer (some ⟨p1, 0, none⟩) := (hF79 2).trans s60
  have s83 : F78 5 = .pointer (some ⟨p28, 0, none⟩) := (hF79 5).trans s61
  have s84 : F78 6 = .func (.func 31) #[] #[.pointer (some ⟨p28, 0, none⟩)] := (hF79 6).trans s62
  clear hF79
  refine then_normal ?_
  refine wq_seq ?_
  refine wq_region ?_
  refine wl_v (.func (.func 31) #[] #[.pointer (some ⟨p28, 0, none⟩)]) rfl rfl (y_mov rfl s84 ⟨rfl, rfl⟩) ?_
  refine wl_v (.pointer (some ⟨p1, 1, none⟩)) rfl rfl (y_atR (1) (s := 1) rfl s82 rfl (by omega) Try.underlying43 (by omega) (by kernel_rfl) (by omega) ⟨rfl, rfl⟩) ?_
  refine wl_v (.int .i64 ((f) (1))) rfl rfl (y_ldR rfl rfl Try.underlying3 ((B73).cell (by omega)) ⟨rfl, rfl⟩) ?_
  refine wl_call (R := fun v_ w_ => ∃ (T87 : Nat → Prop), .tuple #[] = v_ ∧ Kept (T69) w67 w_ ∧ (Cob w_ T87 p28 (((([] : List Nat)) ++ beI ((f) (0)) (1)) ++ beI ((f) (1)) (1)) ∧ Grew w67 (T69) T87)) rfl rfl (y_clc (cs := [.pointer (some ⟨p28, 0, none⟩)]) rfl rfl rfl rfl (fun _ _ => by kernel_rfl) (vsC rfl (vsC rfl vsN)) (hd_put (p28) ((([] : List Nat)) ++ beI ((f) (0)) (1)) ((f) (1)) (1) (T69) _ (by first | (simp; done) | (simp [be_length]; done) | (simp [be_length]; omega)) (by omega) B70 ) (fun e_ w_ h_ => by obtain ⟨T87_, he_, hr_⟩ := h_; exact ⟨_, he_, T87_, rfl, hr_⟩)) ?_
  rintro _ w85 ⟨T87, rfl, k86, ⟨B88, g89⟩⟩
  have B90 := B72.all k86 (fun i h x => (((ap76).symm) i h x))
  have B91 := B73.all k86 (fun x => (((ap77).symm) p1 rfl x))
  have K92 := K74.trans k86 (fun i hi x => ((Grew.ok (S := fun _ => False) gr75 noB_le) i hi x))
  have gr93 := gr75.trans K74 g89
  have ap94 : Apart T87 (T_r) := (ap76).grew g89 (B72).live
  have ap95 : Apart T87 (onB p1) := (ap77).grew g89 (onB_live (B73).lt)
  refine wl_nil fun F96 hF97 => ?_
  have s98 : F96 1 = v := (hF97 1).trans s80
  have s99 : F96 31 = undef := (hF97 31).trans s81
  have s100 : F96 2 = .pointer (some ⟨p1, 0, none⟩) := (hF97 2).trans s82
  have s101 : F96 5 = .pointer (some ⟨p28, 0, none⟩) := (hF97 5).trans s83
  have s102 : F96 6 = .func (.func 31) #[] #[.pointer (some ⟨p28, 0, none⟩)] := (hF97 6).trans s84
  clear hF97
  refine then_normal ?_
  refine wq_seq ?_
  refine wq_region ?_
  refine wl_v (.func (.func 31) #[] #[.pointer (some ⟨p28, 0, none⟩)]) rfl rfl (y_mov rfl s102 ⟨rfl, rfl⟩) ?_
  refine wl_v (.pointer (some ⟨p1, 2, none⟩)) rfl rfl (y_atR (2) (s := 1) rfl s100 rfl (by omega) Try.underlying43 (by omega) (by kernel_rfl) (by omega) ⟨rfl, rfl⟩) ?_
  refine wl_v (.int .i64 ((f) (2))) rfl rfl (y_ldR rfl rfl Try.underlying3 ((B91).cell (by omega)) ⟨rfl, rfl⟩) ?_
  refine wl_call (R := fun v_ w_ => ∃ (T105 : Nat → Prop), .tuple #[] = v_ ∧ Kept (T87) w85 w_ ∧ (Cob w_ T105 p28 ((((([] : List Nat)) ++ beI ((f) (0)) (1)) ++ beI ((f) (1)) (1)) ++ beI ((f) (2)) (4)) ∧ Grew w85 (T87) T105)) rfl rfl (y_clc (cs := [.pointer (some ⟨p28, 0, none⟩)]) rfl rfl rfl rfl (fun _ _ => by kernel_rfl) (vsC rfl (vsC rfl vsN)) (hd_put (p28) (((([] : List Nat)) ++ beI ((f) (0)) (1)) ++ beI ((f) (1)) (1)) ((f) (2)) (4) (T87) _ (by first | (simp; done) | (simp [be_length]; done) | (simp [be_length]; omega)) (by omega) B88 ) (fun e_ w_ h_ => by obtain ⟨T105_, he_, hr_⟩ := h_; exact ⟨_, he_, T105_, rfl, hr_⟩)) ?_
  rintro _ w103 ⟨T105, rfl, k104, ⟨B106, g107⟩⟩
  have B108 := B90.all k104 (fun i h x => (((ap94).symm) i h x))
  have B109 := B91.all k104 (fun x => (((ap95).symm) p1 rfl x))
  have K110 := K92.trans k104 (fun i hi x => ((Grew.ok (S := fun _ => False) gr93 noB_le) i hi x))
  have gr111 := gr93.trans K92 g107
  have ap112 : Apart T105 (T_r) := (ap94).grew g107 (B90).live
  have ap113 : Apart T105 (onB p1) := (ap95).grew g107 (onB_live (B91).lt)
  refine wl_nil fun F114 hF115 => ?_
  have s116 : F114 1 = v := (hF115 1).trans s98
  have s117 : F114 31 = undef := (hF115 31).trans s99
  have s118 : F114 2 = .pointer (some ⟨p1, 0, none⟩) := (hF115 2).trans s100
  have s119 : F114 5 = .pointer (some ⟨p28, 0, none⟩) := (hF115 5).trans s101
  have s120 : F114 6 = .func (.func 31) #[] #[.pointer (some ⟨p28, 0, none⟩)] := (hF115 6).trans s102
  clear hF115
  refine then_normal ?_
  refine wq_seq ?_
  refine wq_region ?_
  refine wl_v (.func (.func 31) #[] #[.pointer (some ⟨p28, 0, none⟩)]) rfl rfl (y_mov rfl s120 ⟨rfl, rfl⟩) ?_
  refine wl_v (.pointer (some ⟨p1, 3, none⟩)) rfl rfl (y_atR (3) (s := 1) rfl s118 rfl (by omega) Try.underlying43 (by omega) (by kernel_rfl) (by omega) ⟨rfl, rfl⟩) ?_
  refine wl_v (.int .i64 ((f) (3))) rfl rfl (y_ldR rfl rfl Try.underlying3 ((B109).cell (by omega)) ⟨rfl, rfl⟩) ?_
  refine wl_call (R := fun v_ w_ => ∃ (T123 : Nat → Prop), .tuple #[] = v_ ∧ Kept (T105) w103 w_ ∧ (Cob w_ T123 p28 (((((([] : List Nat)) ++ beI ((f) (0)) (1)) ++ beI ((f) (1)) (1)) ++ beI ((f) (2)) (4)) ++ beI ((f) (3)) (4)) ∧ Grew w103 (T105) T123)) rfl rfl (y_clc (cs := [.pointer (some ⟨p28, 0, none⟩)]) rfl rfl rfl rfl (fun _ _ => by kernel_rfl) (vsC rfl (vsC rfl vsN)) (hd_put (p28) ((((([] : List Nat)) ++ beI ((f) (0)) (1)) ++ beI ((f) (1)) (1)) ++ beI ((f) (2)) (4)) ((f) (3)) (4) (T105) _ (by first | (simp; done) | (simp [be_length]; done) | (simp [be_length]; omega)) (by omega) B106 ) (fun e_ w_ h_ => by obtain ⟨T123_, he_, hr_⟩ := h_; exact ⟨_, he_, T123_, rfl, hr_⟩)) ?_
  rintro _ w121 ⟨T123, rfl, k122, ⟨B124, g125⟩⟩
  have B126 := B108.all k122 (fun i h x => (((ap112).symm) i h x))
  have B127 := B109.all k122 (fun x => (((ap113).symm) p1 rfl x))
  have K128 := K110.trans k122 (fun i hi x => ((Grew.ok (S := fun _ => False) gr111 noB_le) i hi x))
  have gr129 := gr111.trans K110 g125
  have ap130 : Apart T123 (T_r) := (ap112).grew g125 (B108).live
  have ap131 : Apart T123 (onB p1) := (ap113).grew g125 (onB_live (B109).lt)
  refine wl_nil fun F132 hF133 => ?_
  have s134 : F132 1 = v := (hF133 1).trans s116
  have s135 : F132 31 = undef := (hF133 31).trans s117
  have s136 : F132 5 = .pointer (some ⟨p28, 0, none⟩) := (hF133 5).trans s119
  clear hF133
  refine then_normal ?_
  refine wq_seq ?_
  obtain ⟨v7, Tb7, hT7, hap7, hc7, ho7⟩ := B124
  have gr137 : Grew w0 (noB) (onB p28) := fun i h => gr129 i ((fun i h => (hT7 i).2 (Or.inl h)) i h)
  have ap138 : Apart (onB p28) (T_r) := fun i h => ap130 i ((fun i h => (hT7 i).2 (Or.inl h)) i h)
  have ap139 : Apart (onB p28) (onB p1) := fun i h => ap131 i ((fun i h => (hT7 i).2 (Or.inl h)) i h)
  have gr140 : Grew w0 (noB) (Tb7) := fun i h => gr129 i ((fun i h => (hT7 i).2 (Or.inr h)) i h)
  have ap141 : Apart (Tb7) (T_r) := fun i h => ap130 i ((fun i h => (hT7 i).2 (Or.inr h)) i h)
  have ap142 : Apart (Tb7) (onB p1) := fun i h => ap131 i ((fun i h => (hT7 i).2 (Or.inr h)) i h)
  have ap143 : Apart (onB p28) (Tb7) := hap7
  refine wq_region ?_
  refine wl_v (v7) rfl rfl (y_load_cel rfl s136 Try.underlying27 hc7 rfl ⟨rfl, rfl⟩) ?_
  refine wl_v (v) rfl rfl (y_mov rfl s134 ⟨rfl, rfl⟩) ?_
  refine wl_appendB rfl rfl rfl rfl rfl rfl ho7 B126 ((by simp [beI]; omega)) fun v144 w145 T149 B147 g148 k146 => ?_
  have gr150 := Grew.trans gr140 K128 g148
  have ap151 : Apart T149 (T_r) := (ap141).grew g148 (B126).live
  have ap152 : Apart T149 (onB p1) := (ap142).grew g148 (onB_live (B127).lt)
  have ap153 : Apart T149 (onB p28) := ((ap143).symm).grew g148 (onB_live (hc7).lt)
  have B154 := B126.all k146 (fun i h x => (((ap141).symm) i h x))
  have B155 := B127.all k146 (fun x => (((ap142).symm) p1 rfl x))
  have B156 := hc7.all k146 (fun x => ((ap143) p28 rfl x))
  have K157 := K128.trans k146 (Grew.ok (S := fun _ => False) gr140 noB_le)
  refine wl_v (v144) rfl rfl (y_asg rfl rfl ⟨rfl, rfl⟩) ?_
  refine wl_nil fun F158 hF159 => ?_
  have s160 : F158 31 = undef := (hF159 31).trans s135
  have s161 : F158 4 = v144 := (hF159 4).trans rfl
  clear hF159
  refine then_normal ?_
  refine wq_ret ?_
  exact end_tmp (v := v144) s160 rfl rfl s161 ⟨v144, T149, rfl, K157, ⟨B147, gr150⟩⟩
def nmTo (l : List Nat) : Nat → Int
  | 0 => 0
  | i + 1 => nmTo l i * 256 + (l.getD i 0 : Nat)
theorem nmTo_le {l : List Nat} (h : ∀ x ∈ l, x < 256) (i : Nat) : 0 ≤ nmTo l i ∧ nmTo l i < 256 ^ i := by
  induction i with
  | zero => exact ⟨Int.le_refl 0, show (0 : Int) < 1 from by decide⟩
  | succ i ih =>
    have := getD_lt h i
    unfold nmTo
    rw [Int.pow_succ]
    omega
theorem nmTo_4 (l : List Nat) : nmTo l 4 = nmAt l 0 := by
  unfold nmAt nm
  simp only [nmTo, Nat.zero_add]; omega
theorem pow_le4 {i : Nat} (h : i ≤ 4) : (256 : Int) ^ i ≤ 4294967296 := by
  match i, h with
  | 0, _ => decide
  | 1, _ => decide
  | 2, _ => decide
  | 3, _ => decide
  | 4, _ => decide
set_option maxHeartbeats 4000000 in
set_option maxRecDepth 100000 in
theorem hd_number (v : Value) (l : List Nat) (T_b : Nat → Prop) (w0 : World) (hl : l.length ≤ 4) (h_b : Byt w0 T_b v (l)) :
    Calls Try.prog 32 #[v] w0 fun e w' => e = .returned (.int .i64 (nmTo l l.length)) ∧ Kept (fun _ => False) w0 w' := by
  refine calls_wq (args := [v]) 19 Try.func32 rfl rfl (Nat.le_of_ble_eq_true rfl) ?_
  have K0 := Kept.refl (fun _ => False) w0
  have h256 := h_b.1.lt256
  have g_b := Grew.refl w0 T_b
  refine wq_seq ?_
  refine wq_region ?_
  refine wl_v (.int .i64 (0)) rfl rfl (y_asg rfl rfl ⟨rfl, rfl⟩) ?_
  refine wl_nil fun F1 hF2 => ?_
  have s3 : F1 0 = v := (hF2 0).trans rfl
  have s4 : F1 19 = undef := (hF2 19).trans rfl
  clear hF2
  refine then_normal ?_
  refine wq_seq ?_
  refine wq_region ?_
  refine wl_v (.int .i64 (0)) rfl rfl (y_asg rfl rfl ⟨rfl, rfl⟩) ?_
  refine wl_nil fun F5 hF6 => ?_
  have s7 : F5 0 = v := (hF6 0).trans s3
  have s8 : F5 19 = undef := (hF6 19).trans s4
  have s9 : F5 3 = .int .i64 (0) := (hF6 3).trans rfl
  clear hF6
  refine then_normal ?_
  refine wq_seq ?_
  refine wq_seq ?_
  refine wq_region ?_
  refine wl_v (v) rfl rfl (y_mov rfl s7 ⟨rfl, rfl⟩) ?_
  refine wl_v (.int .i64 ((((l).length : Nat) : Int))) rfl rfl (y_lenV rfl rfl rfl h_b ⟨rfl, rfl⟩) ?_
  refine wl_v (.int .i64 (0)) rfl rfl (y_mov rfl rfl ⟨rfl, rfl⟩) ?_
  refine wl_nil fun F10 hF11 => ?_
  have s12 : F10 19 = undef := (hF11 19).trans s8
  have s13 : F10 3 = .int .i64 (0) := (hF11 3).trans s9
  have s14 : F10 6 = v := (hF11 6).trans rfl
  have s15 : F10 7 = .int .i64 ((((l).length : Nat) : Int)) := (hF11 7).trans rfl
  have s16 : F10 8 = .int .i64 (0) := (hF11 8).trans rfl
  clear hF11
  refine then_normal ?_
  refine wq_block ?_
  refine wq_loop (fun nn FF ww => ∃ (i : Nat), (i ≤ l.length) ∧ nn = l.length - i ∧ FF 6 = v ∧ FF 7 = .int .i64 ((((l).length : Nat) : Int)) ∧ FF 19 = undef ∧ FF 3 = .int .i64 (nmTo l i) ∧ FF 8 = .int .i64 (((i : Nat) : Int)) ∧ Kept (fun _ => False) w0 ww ∧ Byt ww (T_b) v (l)) (l.length - (0)) ⟨0, by omega, rfl, s14, s15, s12, s13, s16, K0, h_b⟩ ?_
  rintro n20 F17 w18 ⟨i, i21, hn20, s22, s23, s24, s25, s26, K19, B27⟩
  refine wq_seq ?_
  refine wq_region ?_
  refine wl_v (.bool (decide ((((i : Nat) : Int)) < ((((l).length : Nat) : Int))))) rfl rfl (y_lss rfl s26 s23 rfl ⟨rfl, rfl⟩) ?_
  refine wl_nil fun F28 hF29 => ?_
  have s30 : F28 6 = v := (hF29 6).trans s22
  have s31 : F28 7 = .int .i64 ((((l).length : Nat) : Int)) := (hF29 7).trans s23
  have s32 : F28 19 = undef := (hF29 19).trans s24
  have s33 : F28 3 = .int .i64 (nmTo l i) := (hF29 3).trans s25
  have s34 : F28 8 = .int .i64 (((i : Nat) : Int)) := (hF29 8).trans s26
  have s35 : F28 9 = .bool (decide ((((i : Nat) : Int)) < ((((l).length : Nat) : Int)))) := (hF29 9).trans rfl
  clear hF29
  refine then_normal ?_
  refine wq_seq ?_
  refine wq_cond s35 (fun c36 => ?_) (fun c36 => ?_)
  · replace c36 := of_decide_eq_true c36
    refine wq_skip ?_
    refine then_normal ?_
    refine wq_seq ?_
    refine wq_block ?_
    refine wq_seq ?_
    refine wq_region ?_
    refine wl_v (bytAddr (v) (i)) rfl rfl (y_atB (i) rfl s30 s34 (by omega) B27 (by omega) ⟨rfl, rfl⟩) ?_
    have u37 := getD_lt (B27).lt256 (i)
    refine wl_v (.int .u8 ((((l).getD (i) 0 : Nat) : Int))) rfl rfl (y_ldB rfl rfl B27 (by omega) ⟨rfl, rfl⟩) ?_
    refine wl_v (.int .u8 ((((l).getD (i) 0 : Nat) : Int))) rfl rfl (y_asg rfl rfl ⟨rfl, rfl⟩) ?_
    refine wl_nil fun F38 hF39 => ?_
    have s40 : F38 6 = v := (hF39 6).trans s30
    have s41 : F38 7 = .int .i64 ((((l).length : Nat) : Int)) := (hF39 7).trans s31
    have s42 : F38 19 = undef := (hF39 19).trans s32
    have s43 : F38 3 = .int .i64 (nmTo l i) := (hF39 3).trans s33
    have s44 : F38 8 = .int .i64 (((i : Nat) : Int)) := (hF39 8).trans s34
    have s45 : F38 5 = .int .u8 ((((l).getD (i) 0 : Nat) : Int)) := (hF39 5).trans rfl
    clear hF39
    refine then_normal ?_
    have hn := nmTo_le h256 i
    have hp := pow_le4 (i := i) (by omega)
    refine wq_region ?_
    refine wl_v (.int .i64 (nmTo l i)) rfl rfl (y_mov rfl s43 ⟨rfl, rfl⟩) ?_
    refine wl_v (.int .i64 (nmTo l i * 256)) rfl rfl (y_shlR (8) rfl rfl rfl (shl_byte _ hn.1 (by omega)) ⟨rfl, rfl⟩) ?_
    refine wl_v (.int .u8 ((((l).getD (i) 0 : Nat) : Int))) rfl rfl (y_mov rfl s45 ⟨rfl, rfl⟩) ?_
    refine wl_v (.int .i64 ((((l).getD (i) 0 : Nat) : Int))) rfl rfl (y_convR rfl rfl Try.underlying5 Try.underlying3 (i64_i rfl (by omega)) ⟨rfl, rfl⟩) ?_
    refine wl_v (.int .i64 (nmTo l (i + 1))) rfl rfl (y_orR rfl rfl rfl (or_byte _ _ hn.1 (by omega) (getD_lt h256 i)) ⟨rfl, rfl⟩) ?_
    refine wl_v (.int .i64 (nmTo l (i + 1))) rfl rfl (y_asg rfl rfl ⟨rfl, rfl⟩) ?_
    refine wl_nil fun F46 hF47 => ?_
    have s48 : F46 6 = v := (hF47 6).trans s40
    have s49 : F46 7 = .int .i64 ((((l).length : Nat) : Int)) := (hF47 7).trans s41
    have s50 : F46 19 = undef := (hF47 19).trans s42
    have s51 : F46 8 = .int .i64 (((i : Nat) : Int)) := (hF47 8).trans s44
    have s52 : F46 3 = .int .i64 (nmTo l (i + 1)) := (hF47 3).trans rfl
    clear hF47
    refine in_normal ?_
    refine then_normal ?_
    refine wq_region ?_
    refine wl_v (.int .i64 (((i + 1 : Nat) : Int))) rfl rfl (y_add rfl s51 rfl (i64_n (by omega) (by omega)) ⟨rfl, rfl⟩) ?_
    refine wl_v (.int .i64 (((i + 1 : Nat) : Int))) rfl rfl (y_mov rfl rfl ⟨rfl, rfl⟩) ?_
    refine wl_nil fun F53 hF54 => ?_
    have s55 : F53 6 = v := (hF54 6).trans s48
    have s56 : F53 7 = .int .i64 ((((l).length : Nat) : Int)) := (hF54 7).trans s49
    have s57 : F53 19 = undef := (hF54 19).trans s50
    have s58 : F53 3 = .int .i64 (nmTo l (i + 1)) := (hF54 3).trans s52
    have s59 : F53 8 = .int .i64 (((i + 1 : Nat) : Int)) := (hF54 8).trans rfl
    clear hF54
    exact then_normal ⟨(l.length - (i + 1)), by omega, i + 1, by omega, rfl, s55, s56, s57, s58, s59, K19, B27⟩
  · replace c36 := of_decide_eq_false c36
    refine wq_exit ?_
    refine then_exit ?_
    refine then_exit ?_
    have l60 : l.length = i := by omega
    subst l60
    refine in_here ?_
    refine then_normal ?_
    refine wq_seq ?_
    refine wq_region ?_
    refine wl_v (.int .i64 (nmTo l l.length)) rfl rfl (y_mov rfl s33 ⟨rfl, rfl⟩) ?_
    refine wl_v (.int .i64 (nmTo l l.length)) rfl rfl (y_asg rfl rfl ⟨rfl, rfl⟩) ?_
    refine wl_nil fun F61 hF62 => ?_
    have s63 : F61 19 = undef := (hF62 19).trans s32
    have s64 : F61 2 = .int .i64 (nmTo l l.length) := (hF62 2).trans rfl
    clear hF62
    refine then_normal ?_
    refine wq_ret ?_
    exact end_tmp (v := .int .i64 (nmTo l l.length)) s63 rfl rfl s64 ⟨rfl, K19⟩
set_option maxHeartbeats 4000000 in
set_option maxRecDepth 100000 in
theorem hd_cut (v : Value) (l : List Nat) (i j : Nat) (T_b : Nat → Prop) (w0 : World) (hi : i ≤ j) (hj : j ≤ l.length) (h_b : Byt w0 T_b v (l)) :
    Calls Try.prog 27 #[v, .int .i64 (((i : Nat) : Int)), .int .i64 (((j : Nat) : Int))] w0 fun e w' => e = .returned (subV (v) (i) (j) (j)) ∧ Kept (fun _ => False) w0 w' := by
  refine calls_wq (args := [v, .int .i64 (((i : Nat) : Int)), .int .i64 (((j : Nat) : Int))]) 12 Try.func27 rfl rfl (Nat.le_of_ble_eq_true rfl) ?_
  have K0 := Kept.refl (fun _ => False) w0
  have g_b := Grew.refl w0 T_b
  refine wq_seq ?_
  refine wq_region ?_
  refine wl_v (.slice none 0 0) rfl rfl (y_asg rfl rfl ⟨rfl, rfl⟩) ?_
  refine wl_nil fun F1 hF2 => ?_
  have s3 : F1 0 = v := (hF2 0).trans rfl
  have s4 : F1 1 = .int .i64 (((i : Nat) : Int)) := (hF2 1).trans rfl
  have s5 : F1 2 = .int .i64 (((j : Nat) : Int)) := (hF2 2).trans rfl
  have s6 : F1 12 = undef := (hF2 12).trans rfl
  clear hF2
  refine then_normal ?_
  refine wq_seq ?_
  refine wq_region ?_
  refine wl_v (v) rfl rfl (y_mov rfl s3 ⟨rfl, rfl⟩) ?_
  refine wl_v (.int .i64 (((i : Nat) : Int))) rfl rfl (y_mov rfl s4 ⟨rfl, rfl⟩) ?_
  refine wl_v (.int .i64 (((j : Nat) : Int))) rfl rfl (y_mov rfl s5 ⟨rfl, rfl⟩) ?_
  refine wl_v (.int .i64 (((j : Nat) : Int))) rfl rfl (y_mov rfl s5 ⟨rfl, rfl⟩) ?_
  refine wl_v (subV (v) (i) (j) (j)) rfl rfl (y_cut3 (i) (j) (j) rfl rfl rfl rfl rfl (by omega) (by omega) (by omega) h_b (by omega) (by omega) (by omega) ⟨rfl, rfl⟩) ?_
  refine wl_v (subV (v) (i) (j) (j)) rfl rfl (y_asg rfl rfl ⟨rfl, rfl⟩) ?_
  refine wl_nil fun F7 hF8 => ?_
  have s9 : F7 12 = undef := (hF8 12).trans s6
  have s10 : F7 6 = subV (v) (i) (j) (j) := (hF8 6).trans rfl
  clear hF8
  refine then_normal ?_
  refine wq_ret ?_
  exact end_tmp (v := subV (v) (i) (j) (j)) s9 rfl rfl s10 ⟨rfl, K0⟩
theorem nm_cut0 {l : List Nat} (h : 10 ≤ l.length) : nmTo (((l).drop (0)).take ((1) - (0))) (((l).drop (0)).take ((1) - (0))).length = t0 l := by
  match l, h with
  | a :: r, _ => simp [nmTo, t0]
theorem nm_cut1 {l : List Nat} (h : 10 ≤ l.length) : nmTo (((l).drop (1)).take ((2) - (1))) (((l).drop (1)).take ((2) - (1))).length = t1 l := by
  match l, h with
  | a :: b :: r, _ => simp [nmTo, t1]
theorem nm_cut2 {l : List Nat} (h : 10 ≤ l.length) : nmTo (((l).drop (2)).take ((6) - (2))) (((l).drop (2)).take ((6) - (2))).length = t2 l := by
  rw [show (((l).drop (2)).take ((6) - (2))).length = 4 from by simp; omega, nmTo_4]; exact nm_sub2 l
theorem nm_cut6 {l : List Nat} (h : 10 ≤ l.length) : nmTo (((l).drop (6)).take ((10) - (6))) (((l).drop (6)).take ((10) - (6))).length = t3 l := by
  rw [show (((l).drop (6)).take ((10) - (6))).length = 4 from by simp; omega, nmTo_4]; exact nm_sub6 l
set_option maxHeartbeats 4000000 in
set_option maxRecDepth 100000 in
theorem hd_numbers (v : Value) (l : List Nat) (T_b : Nat → Prop) (w0 : World) (hl : 10 ≤ l.length) (h_b : Byt w0 T_b v (l)) :
    Calls Try.prog 24 #[v] w0 fun e w' => e = .returned (.agg (arrL 4 (blL [t0 l, t1 l, t2 l, t3 l])).toArray) ∧ Kept (fun _ => False) w0 w' := by
  refine calls_wq (args := [v]) 16 Try.func24 rfl rfl (Nat.le_of_ble_eq_true rfl) ?_
  have K0 := Kept.refl (fun _ => False) w0
  have g_b := Grew.refl w0 T_b
  refine wq_seq ?_
  refine wq_region ?_
  refine wl_alloc_arr rfl rfl rfl arrT4.2.2 fun p1 w2 e5 B3 k4 => ?_
  have g6 := onB_new (Nat.le_of_eq e5.symm)
  have gr7 : Grew w0 noB (onB p1) := Grew.new K0 g6
  have ap8 : Apart (onB p1) (T_b) := Apart.new g6 (h_b).live
  clear e5 g6
  have B9 := h_b.all k4 Apart.none
  have K10 := K0.trans k4 (fun _ _ x => x.elim)
  refine wl_nil fun F11 hF12 => ?_
  have s13 : F11 0 = v := (hF12 0).trans rfl
  have s14 : F11 16 = undef := (hF12 16).trans rfl
  have s15 : F11 2 = .pointer (some ⟨p1, 0, none⟩) := (hF12 2).trans rfl
  clear hF12
  refine then_normal ?_
  refine wq_seq ?_
  refine wq_region ?_
  refine wl_v (v) rfl rfl (y_mov rfl s13 ⟨rfl, rfl⟩) ?_
  refine wl_call (R := fun v_ w_ => v_ = subV (v) ((0)) ((1)) ((1)) ∧ Kept (fun _ => False) w2 w_) rfl rfl (y_cs rfl rfl rfl (fun _ _ => by kernel_rfl) (ev_func _) (vsC rfl (vsC rfl (vsC rfl vsN))) (hd_cut (v) (l) (0) (1) (T_b) _ (by omega) (by omega) B9 ) (fun e_ w_ h_ => ⟨_, h_.1, rfl, h_.2⟩)) ?_
  rintro _ w16 ⟨rfl, k17⟩
  have B18 := B9.all k17 Apart.none
  have B19 := B3.all k17 id
  have K20 := K10.trans k17 (fun _ _ x => x.elim)
  refine wl_call (R := fun v_ w_ => v_ = .int .i64 (t0 l) ∧ Kept (fun _ => False) w16 w_) rfl rfl (y_cs rfl rfl rfl (fun _ _ => by kernel_rfl) (ev_func _) (vsC rfl vsN) (hd_number (subV (v) ((0)) ((1)) ((1))) (((l).drop ((0))).take (((1)) - ((0)))) (T_b) _ (by simp; omega) ((B18).sub (i := (0)) (j := (1)) (m := (1)) (by omega) (by have hc_ := (B18).cap; omega) (by omega) (by have hc_ := (B18).cap; omega)) ) (fun e_ w_ h_ => ⟨_, h_.1, congrArg (Value.int .i64) (nm_cut0 hl), h_.2⟩)) ?_
  rintro _ w21 ⟨rfl, k22⟩
  have B23 := B18.all k22 Apart.none
  have B24 := B19.all k22 id
  have K25 := K20.trans k22 (fun _ _ x => x.elim)
  refine wl_v (v) rfl rfl (y_mov rfl s13 ⟨rfl, rfl⟩) ?_
  refine wl_call (R := fun v_ w_ => v_ = subV (v) ((1)) ((2)) ((2)) ∧ Kept (fun _ => False) w21 w_) rfl rfl (y_cs rfl rfl rfl (fun _ _ => by kernel_rfl) (ev_func _) (vsC rfl (vsC rfl (vsC rfl vsN))) (hd_cut (v) (l) (1) (2) (T_b) _ (by omega) (by omega) B23 ) (fun e_ w_ h_ => ⟨_, h_.1, rfl, h_.2⟩)) ?_
  rintro _ w26 ⟨rfl, k27⟩
  have B28 := B23.all k27 Apart.none
  have B29 := B24.all k27 id
  have K30 := K25.trans k27 (fun _ _ x => x.elim)
  refine wl_call (R := fun v_ w_ => v_ = .int .i64 (t1 l) ∧ Kept (fun _ => False) w26 w_) rfl rfl (y_cs rfl rfl rfl (fun _ _ => by kernel_rfl) (ev_func _) (vsC rfl vsN) (hd_number (subV (v) ((1)) ((2)) ((2))) (((l).drop ((1))).take (((2)) - ((1)))) (T_b) _ (by simp; omega) ((B28).sub (i := (1)) (j := (2)) (m := (2)) (by omega) (by have hc_ := (B28).cap; omega) (by omega) (by have hc_ := (B28).cap; omega)) ) (fun e_ w_ h_ => ⟨_, h_.1, congrArg (Value.int .i64) (nm_cut1 hl), h_.2⟩)) ?_
  rintro _ w31 ⟨rfl, k32⟩
  have B33 := B28.all k32 Apart.none
  have B34 := B29.all k32 id
  have K35 := K30.trans k32 (fun _ _ x => x.elim)
  refine wl_v (v) rfl rfl (y_mov rfl s13 ⟨rfl, rfl⟩) ?_
  refine wl_call (R := fun v_ w_ => v_ = subV (v) ((2)) ((6)) ((6)) ∧ Kept (fun _ => False) w31 w_) rfl rfl (y_cs rfl rfl rfl (fun _ _ => by kernel_rfl) (ev_func _) (vsC rfl (vsC rfl (vsC rfl vsN))) (hd_cut (v) (l) (2) (6) (T_b) _ (by omega) (by omega) B33 ) (fun e_ w_ h_ => ⟨_, h_.1, rfl, h_.2⟩)) ?_
  rintro _ w36 ⟨rfl, k37⟩
  have B38 := B33.all k37 Apart.none
  have B39 := B34.all k37 id
  have K40 := K35.trans k37 (fun _ _ x => x.elim)
  refine wl_call (R := fun v_ w_ => v_ = .int .i64 (t2 l) ∧ Kept (fun _ => False) w36 w_) rfl rfl (y_cs rfl rfl rfl (fun _ _ => by kernel_rfl) (ev_func _) (vsC rfl vsN) (hd_number (subV (v) ((2)) ((6)) ((6))) (((l).drop ((2))).take (((6)) - ((2)))) (T_b) _ (by simp; omega) ((B38).sub (i := (2)) (j := (6)) (m := (6)) (by omega) (by have hc_ := (B38).cap; omega) (by omega) (by have hc_ := (B38).cap; omega)) ) (fun e_ w_ h_ => ⟨_, h_.1, congrArg (Value.int .i64) (nm_cut2 hl), h_.2⟩)) ?_
  rintro _ w41 ⟨rfl, k42⟩
  have B43 := B38.all k42 Apart.none
  have B44 := B39.all k42 id
  have K45 := K40.trans k42 (fun _ _ x => x.elim)
  refine wl_v (v) rfl rfl (y_mov rfl s13 ⟨rfl, rfl⟩) ?_
  refine wl_call (R := fun v_ w_ => v_ = subV (v) ((6)) ((10)) ((10)) ∧ Kept (fun _ => False) w41 w_) rfl rfl (y_cs rfl rfl rfl (fun _ _ => by kernel_rfl) (ev_func _) (vsC rfl (vsC rfl (vsC rfl vsN))) (hd_cut (v) (l) (6) (10) (T_b) _ (by omega) (by omega) B43 ) (fun e_ w_ h_ => ⟨_, h_.1, rfl, h_.2⟩)) ?_
  rintro _ w46 ⟨rfl, k47⟩
  have B48 := B43.all k47 Apart.none
  have B49 := B44.all k47 id
  have K50 := K45.trans k47 (fun _ _ x => x.elim)
  refine wl_call (R := fun v_ w_ => v_ = .int .i64 (t3 l) ∧ Kept (fun _ => False) w46 w_) rfl rfl (y_cs rfl rfl rfl (fun _ _ => by kernel_rfl) (ev_func _) (vsC rfl vsN) (hd_number (subV (v) ((6)) ((10)) ((10))) (((l).drop ((6))).take (((10)) - ((6)))) (T_b) _ (by simp; omega) ((B48).sub (i := (6)) (j := (10)) (m := (10)) (by omega) (by have hc_ := (B48).cap; omega) (by omega) (by have hc_ := (B48).cap; omega)) ) (fun e_ w_ h_ => ⟨_, h_.1, congrArg (Value.int .i64) (nm_cut6 hl), h_.2⟩)) ?_
  rintro _ w51 ⟨rfl, k52⟩
  have B53 := B48.all k52 Apart.none
  have B54 := B49.all k52 id
  have K55 := K50.trans k52 (fun _ _ x => x.elim)
  refine wl_v (.agg (arrL 4 (blL [t0 l, t1 l, t2 l, t3 l])).toArray) rfl rfl (y_buildL (l' := [(0, .int .i64 (t0 l)), (1, .int .i64 (t1 l)), (2, .int .i64 (t2 l)), (3, .int .i64 (t3 l))]) (cells := (arrL 4 (blL [t0 l, t1 l, t2 l, t3 l])).toArray) rfl (bpC rfl (bpC rfl (bpC rfl (bpC rfl bpN)))) (by kernel_rfl) rfl ⟨rfl, rfl⟩) ?_
  refine wl_store_arr arrT4 rfl rfl rfl s15 rfl B54 fun w56 B57 k58 => ?_
  have B59 := B53.all k58 (fun i h x => (((ap8).symm) i h x))
  have K60 := K55.trans k58 (Grew.ok (S := fun _ => False) gr7 noB_le)
  refine wl_nil fun F61 hF62 => ?_
  have s63 : F61 16 = undef := (hF62 16).trans s14
  have s64 : F61 2 = .pointer (some ⟨p1, 0, none⟩) := (hF62 2).trans s15
  clear hF62
  refine then_normal ?_
  refine wq_ret ?_
  exact end_arr arrT4 s63 rfl rfl s64 B57 ⟨rfl, K60⟩
set_option maxHeartbeats 4000000 in
set_option maxRecDepth 100000 in
theorem hd_clone (v : Value) (l : List Nat) (T_b : Nat → Prop) (w0 : World) (hm : l.length < 100000000000) (h_b : Byt w0 T_b v (l)) :
    Calls Try.prog 26 #[v] w0 fun e w' => ∃ (v1 : Value) (T1 : Nat → Prop), e = .returned (v1) ∧ Kept (fun _ => False) w0 w' ∧ (Owb w' T1 v1 ((l)) ∧ Grew w0 noB T1) := by
  refine calls_wq (args := [v]) 8 Try.func26 rfl rfl (Nat.le_of_ble_eq_true rfl) ?_
  have K0 := Kept.refl (fun _ => False) w0
  have g_b := Grew.refl w0 T_b
  refine wq_seq ?_
  refine wq_region ?_
  refine wl_v (.slice none 0 0) rfl rfl (y_asg rfl rfl ⟨rfl, rfl⟩) ?_
  refine wl_nil fun F1 hF2 => ?_
  have s3 : F1 0 = v := (hF2 0).trans rfl
  have s4 : F1 8 = undef := (hF2 8).trans rfl
  clear hF2
  refine then_normal ?_
  refine wq_seq ?_
  refine wq_seq ?_
  refine wq_region ?_
  refine wl_v (v) rfl rfl (y_mov rfl s3 ⟨rfl, rfl⟩) ?_
  refine wl_v (.bool (nilS (v))) rfl rfl (y_eqlNilS rfl rfl rfl Try.underlying27 (h_b).shape rfl ⟨rfl, rfl⟩) ?_
  refine wl_nil fun F5 hF6 => ?_
  have s7 : F5 0 = v := (hF6 0).trans s3
  have s8 : F5 8 = undef := (hF6 8).trans s4
  have s9 : F5 4 = .bool (nilS (v)) := (hF6 4).trans rfl
  clear hF6
  refine then_normal ?_
  refine wq_cond s9 (fun c10 => ?_) (fun c10 => ?_)
  · skip
    refine wq_seq ?_
    refine wq_region ?_
    refine wl_v (.slice none 0 0) rfl rfl (y_asg rfl rfl ⟨rfl, rfl⟩) ?_
    refine wl_nil fun F11 hF12 => ?_
    have s13 : F11 8 = undef := (hF12 8).trans s8
    have s14 : F11 2 = .slice none 0 0 := (hF12 2).trans rfl
    clear hF12
    refine then_normal ?_
    refine wq_ret ?_
    refine then_ret ?_
    exact end_tmp (v := .slice none 0 0) s13 rfl rfl s14 ⟨(.slice none 0 0), noB, rfl, K0, ⟨(by first | exact (Owb.nil _) | (rw [h_b.nilS (by assumption)]; exact (Owb.nil _))), (Grew.refl _ _)⟩⟩
  · skip
    refine wq_skip ?_
    refine then_normal ?_
    refine wq_seq ?_
    refine wq_region ?_
    refine wl_builtB0 rfl rfl rfl fun v15 w16 T20 B18 g19 k17 => ?_
    have gr21 : Grew w0 noB (T20) := Grew.new K0 g19
    have ap22 : Apart (T20) (T_b) := Apart.new g19 (h_b).live
    have B23 := h_b.all k17 Apart.none
    have K24 := K0.trans k17 (fun _ _ x => x.elim)
    refine wl_v (v) rfl rfl (y_mov rfl s7 ⟨rfl, rfl⟩) ?_
    refine wl_appendB rfl rfl rfl rfl rfl rfl B18 B23 (by first | omega | (simp; done) | (simp; omega)) fun v25 w26 T30 B28 g29 k27 => ?_
    have gr31 := Grew.trans gr21 K24 g29
    have ap32 : Apart T30 (T_b) := (ap22).grew g29 (B23).live
    have B33 := B23.all k27 (fun i h x => (((ap22).symm) i h x))
    have K34 := K24.trans k27 (Grew.ok (S := fun _ => False) gr21 noB_le)
    refine wl_v (v25) rfl rfl (y_asg rfl rfl ⟨rfl, rfl⟩) ?_
    refine wl_nil fun F35 hF36 => ?_
    have s37 : F35 8 = undef := (hF36 8).trans s8
    have s38 : F35 2 = v25 := (hF36 2).trans rfl
    clear hF36
    refine then_normal ?_
    refine wq_ret ?_
    exact end_tmp (v := v25) s37 rfl rfl s38 ⟨v25, T30, rfl, K34, ⟨(by first | exact B28 | (rw [h_b.nilS (by assumption)]; exact B28)), gr31⟩⟩
set_option maxHeartbeats 4000000 in
set_option maxRecDepth 100000 in
theorem hd_open (W H R B : Int) (w0 : World) :
    Calls Try.prog 10 #[.agg #[.int .i64 (W), .int .i64 (H), .int .i64 (R), .int .i64 (B)]] w0 fun e w' => ∃ (v1 : Value) (T1 : Nat → Prop), e = .returned (.tuple #[v1, .int .i64 (seqE W H R B)]) ∧ Kept (fun _ => False) w0 w' ∧ (Owb w' T1 v1 ((opB W H R B)) ∧ Grew w0 noB T1) := by
  refine calls_wq (args := [.agg #[.int .i64 (W), .int .i64 (H), .int .i64 (R), .int .i64 (B)]]) 20 Try.func10 rfl rfl (Nat.le_of_ble_eq_true rfl) ?_
  have K0 := Kept.refl (fun _ => False) w0
  refine wq_seq ?_
  refine wq_region ?_
  refine wl_box_stc (vs := [.int .i64 (W), .int .i64 (H), .int .i64 (R), .int .i64 (B)]) rfl rfl rfl rfl fun p1 w2 B4 g5 k3 => ?_
  have gr6 : Grew w0 noB (onB p1) := Grew.new K0 g5
  have K7 := K0.trans k3 (fun _ _ x => x.elim)
  refine wl_v (.slice none 0 0) rfl rfl (y_asg rfl rfl ⟨rfl, rfl⟩) ?_
  refine wl_v (.int .i64 (0)) rfl rfl (y_asg rfl rfl ⟨rfl, rfl⟩) ?_
  refine wl_nil fun F8 hF9 => ?_
  have s10 : F8 20 = undef := (hF9 20).trans rfl
  have s11 : F8 1 = .pointer (some ⟨p1, 0, none⟩) := (hF9 1).trans rfl
  clear hF9
  refine then_normal ?_
  refine wq_seq ?_
  refine wq_seq ?_
  refine wq_region ?_
  refine wl_v (.agg #[.int .i64 (W), .int .i64 (H), .int .i64 (R), .int .i64 (B)]) rfl rfl (y_load_stc stcT_seq rfl s11 B4 ⟨rfl, rfl⟩) ?_
  refine wl_call (R := fun v_ w_ => v_ = .int .i64 (seqE (W) (H) (R) (B)) ∧ Kept (fun _ => False) w2 w_) rfl rfl (y_cs rfl rfl rfl (fun _ _ => by kernel_rfl) (ev_func _) (vsC rfl vsN) (hd_seq (W) (H) (R) (B)  _   ) (fun e_ w_ h_ => ⟨_, h_.1, rfl, h_.2⟩)) ?_
  rintro _ w12 ⟨rfl, k13⟩
  have B14 := B4.all k13 id
  have K15 := K7.trans k13 (fun _ _ x => x.elim)
  refine wl_v (.int .i64 (seqE (W) (H) (R) (B))) rfl rfl (y_asg rfl rfl ⟨rfl, rfl⟩) ?_
  refine wl_nil fun F16 hF17 => ?_
  have s18 : F16 20 = undef := (hF17 20).trans s10
  have s19 : F16 1 = .pointer (some ⟨p1, 0, none⟩) := (hF17 1).trans s11
  have s20 : F16 4 = .int .i64 (seqE (W) (H) (R) (B)) := (hF17 4).trans rfl
  clear hF17
  refine then_normal ?_
  refine wq_seq ?_
  refine wq_region ?_
  refine wl_v (.int .i64 (seqE (W) (H) (R) (B))) rfl rfl (y_mov rfl s20 ⟨rfl, rfl⟩) ?_
  refine wl_v (.bool (decide ((seqE (W) (H) (R) (B)) ≠ (0)))) rfl rfl (y_neqI rfl rfl rfl rfl ⟨rfl, rfl⟩) ?_
  refine wl_nil fun F21 hF22 => ?_
  have s23 : F21 20 = undef := (hF22 20).trans s18
  have s24 : F21 1 = .pointer (some ⟨p1, 0, none⟩) := (hF22 1).trans s19
  have s25 : F21 4 = .int .i64 (seqE (W) (H) (R) (B)) := (hF22 4).trans s20
  have s26 : F21 8 = .bool (decide ((seqE (W) (H) (R) (B)) ≠ (0))) := (hF22 8).trans rfl
  clear hF22
  refine then_normal ?_
  refine wq_cond s26 (fun c27 => ?_) (fun c27 => ?_)
  · replace c27 := of_decide_eq_true c27
    refine wq_seq ?_
    have hno : ¬ seqOk W H R B := fun h => absurd (seqE_iff.2 h) (by assumption)
    refine wq_region ?_
    refine wl_v (.int .i64 (seqE (W) (H) (R) (B))) rfl rfl (y_mov rfl s25 ⟨rfl, rfl⟩) ?_
    refine wl_v (.slice none 0 0) rfl rfl (y_asg rfl rfl ⟨rfl, rfl⟩) ?_
    refine wl_v (.int .i64 (seqE (W) (H) (R) (B))) rfl rfl (y_asg rfl rfl ⟨rfl, rfl⟩) ?_
    refine wl_nil fun F28 hF29 => ?_
    have s30 : F28 20 = undef := (hF29 20).trans s23
    have s31 : F28 2 = .slice none 0 0 := (hF29 2).trans rfl
    have s32 : F28 3 = .int .i64 (seqE (W) (H) (R) (B)) := (hF29 3).trans rfl
    clear hF29
    refine then_normal ?_
    refine wq_ret ?_
    refine then_ret ?_
    exact end_2 s30 rfl (res_tmp (v := .slice none 0 0) rfl s31) (res_tmp (v := .int .i64 (seqE (W) (H) (R) (B))) rfl s32) ⟨(.slice none 0 0), noB, (by first | rw [seqE_iff.2 hok] | rw [show seqE W H R B = 110 from if_neg hno]), K15, ⟨(by first | (rw [show opB W H R B = tenB W H R B ++ [] from by rw [show opB W H R B = tenB W H R B from if_pos hok, List.append_nil]]; exact (Owb.nil _)) | (rw [show opB W H R B = [] from if_neg hno]; exact (Owb.nil _))), (Grew.refl _ _)⟩⟩
  · replace c27 := of_decide_eq_false c27
    refine wq_skip ?_
    refine then_normal ?_
    refine wq_seq ?_
    have hok : seqOk W H R B := seqE_iff.1 (by first | assumption | (apply Decidable.byContradiction; assumption))
    refine wq_region ?_
    refine wl_v (.pointer (some ⟨p1, 0, none⟩)) rfl rfl (y_fieldR (n := 1) rfl s24 Try.underlying24 rfl (by kernel_rfl) (by decide) rfl ⟨rfl, rfl⟩) ?_
    refine wl_v (.int .i64 (W)) rfl rfl (y_ld_stc rfl rfl Try.underlying3 B14 rfl rfl ⟨rfl, rfl⟩) ?_
    refine wl_v (.pointer (some ⟨p1, 1, none⟩)) rfl rfl (y_fieldR (n := 1) rfl s24 Try.underlying24 rfl (by kernel_rfl) (by decide) rfl ⟨rfl, rfl⟩) ?_
    refine wl_v (.int .i64 (H)) rfl rfl (y_ld_stc rfl rfl Try.underlying3 B14 rfl rfl ⟨rfl, rfl⟩) ?_
    refine wl_v (.pointer (some ⟨p1, 2, none⟩)) rfl rfl (y_fieldR (n := 1) rfl s24 Try.underlying24 rfl (by kernel_rfl) (by decide) rfl ⟨rfl, rfl⟩) ?_
    refine wl_v (.int .i64 (R)) rfl rfl (y_ld_stc rfl rfl Try.underlying3 B14 rfl rfl ⟨rfl, rfl⟩) ?_
    refine wl_v (.pointer (some ⟨p1, 3, none⟩)) rfl rfl (y_fieldR (n := 1) rfl s24 Try.underlying24 rfl (by kernel_rfl) (by decide) rfl ⟨rfl, rfl⟩) ?_
    refine wl_v (.int .i64 (B)) rfl rfl (y_ld_stc rfl rfl Try.underlying3 B14 rfl rfl ⟨rfl, rfl⟩) ?_
    refine wl_v (.agg (arrL 4 (blL [W, H, R, B])).toArray) rfl rfl (y_buildL (l' := [(0, .int .i64 (W)), (1, .int .i64 (H)), (2, .int .i64 (R)), (3, .int .i64 (B))]) (cells := (arrL 4 (blL [W, H, R, B])).toArray) rfl (bpC rfl (bpC rfl (bpC rfl (bpC rfl bpN)))) (by kernel_rfl) rfl ⟨rfl, rfl⟩) ?_
    refine wl_call (R := fun v_ w_ => ∃ (v33 : Value) (T36 : Nat → Prop), v33 = v_ ∧ Kept (fun _ => False) w12 w_ ∧ (Owb w_ T36 v33 ((tenB ((blL [W, H, R, B]) 0) ((blL [W, H, R, B]) 1) ((blL [W, H, R, B]) 2) ((blL [W, H, R, B]) 3) ++ ([]))) ∧ Grew w12 noB T36)) rfl rfl (y_cs rfl rfl rfl (fun _ _ => by kernel_rfl) (ev_func _) (vsC rfl (vsC rfl vsN)) (hd_lay (blL [W, H, R, B]) (.slice none 0 0) ([]) (noB) _ (by simp) (Byt.nil _) ) (fun e_ w_ h_ => by obtain ⟨v33_, T36_, he_, hr_⟩ := h_; exact ⟨_, he_, v33_, T36_, rfl, hr_⟩)) ?_
    rintro _ w34 ⟨v33, T36, rfl, k35, ⟨B37, g38⟩⟩
    have B39 := B14.all k35 id
    have K40 := K15.trans k35 (fun _ _ x => x.elim)
    have gr41 : Grew w0 noB (T36) := Grew.new K15 g38
    have ap42 : Apart (T36) (onB p1) := Apart.new g38 (onB_live (B14).lt)
    refine wl_v (v33) rfl rfl (y_asg rfl rfl ⟨rfl, rfl⟩) ?_
    refine wl_v (.int .i64 (0)) rfl rfl (y_asg rfl rfl ⟨rfl, rfl⟩) ?_
    refine wl_nil fun F43 hF44 => ?_
    have s45 : F43 20 = undef := (hF44 20).trans s23
    have s46 : F43 2 = v33 := (hF44 2).trans rfl
    have s47 : F43 3 = .int .i64 (0) := (hF44 3).trans rfl
    clear hF44
    refine then_normal ?_
    refine wq_ret ?_
    exact end_2 s45 rfl (res_tmp (v := v33) rfl s46) (res_tmp (v := .int .i64 (0)) rfl s47) ⟨v33, T36, (by first | rw [seqE_iff.2 hok] | rw [show seqE W H R B = 110 from if_neg hno]), K40, ⟨(by first | (rw [show opB W H R B = tenB W H R B ++ [] from by rw [show opB W H R B = tenB W H R B from if_pos hok, List.append_nil]]; exact B37) | (rw [show opB W H R B = [] from if_neg hno]; exact B37)), gr41⟩⟩
set_option maxHeartbeats 4000000 in
set_option maxRecDepth 100000 in
theorem hd_opened (v : Value) (l : List Nat) (T_b : Nat → Prop) (w0 : World) (h_b : Byt w0 T_b v (l)) :
    Calls Try.prog 14 #[v] w0 fun e w' => e = .returned (.tuple #[.agg #[.int .i64 (od t0 l), .int .i64 (od t1 l), .int .i64 (od t2 l), .int .i64 (od t3 l)], .int .i64 (odE l)]) ∧ Kept (fun _ => False) w0 w' := by
  refine calls_wq (args := [v]) 29 Try.func14 rfl rfl (Nat.le_of_ble_eq_true rfl) ?_
  have K0 := Kept.refl (fun _ => False) w0
  have g_b := Grew.refl w0 T_b
  refine wq_seq ?_
  refine wq_region ?_
  refine wl_alloc_stc (n := 4) (vs := [.int .i64 (0), .int .i64 (0), .int .i64 (0), .int .i64 (0)]) rfl rfl rfl (by kernel_rfl) fun p1 w2 B4 g5 k3 => ?_
  have gr6 : Grew w0 noB (onB p1) := Grew.new K0 g5
  have ap7 : Apart (onB p1) (T_b) := Apart.new g5 (h_b).live
  have B8 := h_b.all k3 Apart.none
  have K9 := K0.trans k3 (fun _ _ x => x.elim)
  refine wl_v (.int .i64 (0)) rfl rfl (y_asg rfl rfl ⟨rfl, rfl⟩) ?_
  refine wl_nil fun F10 hF11 => ?_
  have s12 : F10 0 = v := (hF11 0).trans rfl
  have s13 : F10 29 = undef := (hF11 29).trans rfl
  have s14 : F10 2 = .pointer (some ⟨p1, 0, none⟩) := (hF11 2).trans rfl
  clear hF11
  refine then_normal ?_
  refine wq_seq ?_
  refine wq_seq ?_
  refine wq_region ?_
  refine wl_v (v) rfl rfl (y_mov rfl s12 ⟨rfl, rfl⟩) ?_
  refine wl_v (.int .i64 ((((l).length : Nat) : Int))) rfl rfl (y_lenV rfl rfl rfl B8 ⟨rfl, rfl⟩) ?_
  refine wl_v (.bool (decide (((((l).length : Nat) : Int)) ≠ (10)))) rfl rfl (y_neqI rfl rfl rfl rfl ⟨rfl, rfl⟩) ?_
  refine wl_nil fun F15 hF16 => ?_
  have s17 : F15 0 = v := (hF16 0).trans s12
  have s18 : F15 29 = undef := (hF16 29).trans s13
  have s19 : F15 2 = .pointer (some ⟨p1, 0, none⟩) := (hF16 2).trans s14
  have s20 : F15 9 = .bool (decide (((((l).length : Nat) : Int)) ≠ (10))) := (hF16 9).trans rfl
  clear hF16
  refine then_normal ?_
  refine wq_cond s20 (fun c21 => ?_) (fun c21 => ?_)
  · replace c21 := of_decide_eq_true c21
    refine wq_seq ?_
    have hno : ¬ odOk l := fun h => absurd h.1 (by omega)
    refine wq_region ?_
    refine wl_v (.agg #[.int .i64 (0), .int .i64 (0), .int .i64 (0), .int .i64 (0)]) rfl rfl (y_buildL (l' := []) (cells := #[.int .i64 (0), .int .i64 (0), .int .i64 (0), .int .i64 (0)]) rfl bpN (by kernel_rfl) rfl ⟨rfl, rfl⟩) ?_
    refine wl_store_stc (us := [.int .i64 (0), .int .i64 (0), .int .i64 (0), .int .i64 (0)]) stcT_seq rfl rfl rfl s19 rfl B4 rfl (oneI rfl (oneI rfl (oneI rfl (oneI rfl oneN)))) fun w22 B23 k24 => ?_
    have B25 := B8.all k24 (fun i h x => (((ap7).symm) i h x))
    have K26 := K9.trans k24 (Grew.ok (S := fun _ => False) gr6 noB_le)
    refine wl_v (.int .i64 (110)) rfl rfl (y_asg rfl rfl ⟨rfl, rfl⟩) ?_
    refine wl_nil fun F27 hF28 => ?_
    have s29 : F27 29 = undef := (hF28 29).trans s18
    have s30 : F27 2 = .pointer (some ⟨p1, 0, none⟩) := (hF28 2).trans s19
    have s31 : F27 3 = .int .i64 (110) := (hF28 3).trans rfl
    clear hF28
    refine then_normal ?_
    refine wq_ret ?_
    refine then_ret ?_
    exact end_2 s29 rfl (res_stc (vs := [.int .i64 (0), .int .i64 (0), .int .i64 (0), .int .i64 (0)]) stcT_seq rfl s30 B23) (res_tmp (v := .int .i64 (110)) rfl s31) ⟨(by first | (unfold od odE; rw [if_pos hok, if_pos hok, if_pos hok, if_pos hok, if_pos hok]) | (unfold od odE; rw [if_neg hno, if_neg hno, if_neg hno, if_neg hno, if_neg hno]; done) | (unfold od odE; rw [if_neg hno, if_neg hno, if_neg hno, if_neg hno, if_neg hno]; rw [show seqE (t0 l) (t1 l) (t2 l) (t3 l) = 110 from if_neg (fun h => hno ⟨by omega, h⟩)])), K26⟩
  · replace c21 := of_decide_eq_false c21
    refine wq_skip ?_
    refine then_normal ?_
    refine wq_seq ?_
    refine wq_region ?_
    refine wl_v (v) rfl rfl (y_mov rfl s17 ⟨rfl, rfl⟩) ?_
    refine wl_call (R := fun v_ w_ => v_ = .agg (arrL 4 (blL [t0 (l), t1 (l), t2 (l), t3 (l)])).toArray ∧ Kept (fun _ => False) w2 w_) rfl rfl (y_cs rfl rfl rfl (fun _ _ => by kernel_rfl) (ev_func _) (vsC rfl vsN) (hd_numbers (v) (l) (T_b) _ (by omega) B8 ) (fun e_ w_ h_ => ⟨_, h_.1, rfl, h_.2⟩)) ?_
    rintro _ w32 ⟨rfl, k33⟩
    have B34 := B8.all k33 Apart.none
    have B35 := B4.all k33 id
    have K36 := K9.trans k33 (fun _ _ x => x.elim)
    refine wl_alloc_arr rfl rfl rfl arrT4.2.2 fun p37 w38 e41 B39 k40 => ?_
    have g42 := onB_new (Nat.le_of_eq e41.symm)
    have gr43 : Grew w0 noB (onB p37) := Grew.new K36 g42
    have ap44 : Apart (onB p37) (T_b) := Apart.new g42 (B34).live
    have ap45 : Apart (onB p37) (onB p1) := Apart.new g42 (onB_live (B35).lt)
    clear e41 g42
    have B46 := B34.all k40 Apart.none
    have B47 := B35.all k40 id
    have K48 := K36.trans k40 (fun _ _ x => x.elim)
    refine wl_store_arr arrT4 rfl rfl rfl rfl rfl B39 fun w49 B50 k51 => ?_
    have B52 := B46.all k51 (fun i h x => (((ap44).symm) i h x))
    have B53 := B47.all k51 (fun x => (((ap45).symm) p1 rfl x))
    have K54 := K48.trans k51 (Grew.ok (S := fun _ => False) gr43 noB_le)
    refine wl_nil fun F55 hF56 => ?_
    have s57 : F55 29 = undef := (hF56 29).trans s18
    have s58 : F55 2 = .pointer (some ⟨p1, 0, none⟩) := (hF56 2).trans s19
    have s59 : F55 4 = .pointer (some ⟨p37, 0, none⟩) := (hF56 4).trans rfl
    clear hF56
    refine then_normal ?_
    refine wq_seq ?_
    refine wq_region ?_
    refine wl_v (.pointer (some ⟨p37, 0, none⟩)) rfl rfl (y_atR (0) (s := 1) rfl s59 rfl (by omega) Try.underlying43 (by omega) (by kernel_rfl) (by omega) ⟨rfl, rfl⟩) ?_
    refine wl_v (.int .i64 (t0 l)) rfl rfl (y_ldR rfl rfl Try.underlying3 (((B50).cell (by omega)).trans (rfl)) ⟨rfl, rfl⟩) ?_
    refine wl_v (.pointer (some ⟨p37, 1, none⟩)) rfl rfl (y_atR (1) (s := 1) rfl s59 rfl (by omega) Try.underlying43 (by omega) (by kernel_rfl) (by omega) ⟨rfl, rfl⟩) ?_
    refine wl_v (.int .i64 (t1 l)) rfl rfl (y_ldR rfl rfl Try.underlying3 (((B50).cell (by omega)).trans (rfl)) ⟨rfl, rfl⟩) ?_
    refine wl_v (.pointer (some ⟨p37, 2, none⟩)) rfl rfl (y_atR (2) (s := 1) rfl s59 rfl (by omega) Try.underlying43 (by omega) (by kernel_rfl) (by omega) ⟨rfl, rfl⟩) ?_
    refine wl_v (.int .i64 (t2 l)) rfl rfl (y_ldR rfl rfl Try.underlying3 (((B50).cell (by omega)).trans (rfl)) ⟨rfl, rfl⟩) ?_
    refine wl_v (.pointer (some ⟨p37, 3, none⟩)) rfl rfl (y_atR (3) (s := 1) rfl s59 rfl (by omega) Try.underlying43 (by omega) (by kernel_rfl) (by omega) ⟨rfl, rfl⟩) ?_
    refine wl_v (.int .i64 (t3 l)) rfl rfl (y_ldR rfl rfl Try.underlying3 (((B50).cell (by omega)).trans (rfl)) ⟨rfl, rfl⟩) ?_
    refine wl_v (.agg #[.int .i64 (t0 l), .int .i64 (t1 l), .int .i64 (t2 l), .int .i64 (t3 l)]) rfl rfl (y_buildL (l' := [(0, .int .i64 (t0 l)), (1, .int .i64 (t1 l)), (2, .int .i64 (t2 l)), (3, .int .i64 (t3 l))]) (cells := #[.int .i64 (t0 l), .int .i64 (t1 l), .int .i64 (t2 l), .int .i64 (t3 l)]) rfl (bpC rfl (bpC rfl (bpC rfl (bpC rfl bpN)))) (by kernel_rfl) rfl ⟨rfl, rfl⟩) ?_
    refine wl_alloc_stc (n := 4) (vs := [.int .i64 (0), .int .i64 (0), .int .i64 (0), .int .i64 (0)]) rfl rfl rfl (by kernel_rfl) fun p60 w61 B63 g64 k62 => ?_
    have gr65 : Grew w0 noB (onB p60) := Grew.new K54 g64
    have ap66 : Apart (onB p60) (T_b) := Apart.new g64 (B52).live
    have ap67 : Apart (onB p60) (onB p1) := Apart.new g64 (onB_live (B53).lt)
    have ap68 : Apart (onB p60) (onB p37) := Apart.new g64 (onB_live (B50).lt)
    have B69 := B52.all k62 Apart.none
    have B70 := B53.all k62 id
    have B71 := B50.all k62 id
    have K72 := K54.trans k62 (fun _ _ x => x.elim)
    refine wl_store_stc (us := [.int .i64 (t0 l), .int .i64 (t1 l), .int .i64 (t2 l), .int .i64 (t3 l)]) stcT_seq rfl rfl rfl rfl rfl B63 rfl (oneI rfl (oneI rfl (oneI rfl (oneI rfl oneN)))) fun w73 B74 k75 => ?_
    have B76 := B69.all k75 (fun i h x => (((ap66).symm) i h x))
    have B77 := B70.all k75 (fun x => (((ap67).symm) p1 rfl x))
    have B78 := B71.all k75 (fun x => (((ap68).symm) p37 rfl x))
    have K79 := K72.trans k75 (Grew.ok (S := fun _ => False) gr65 noB_le)
    refine wl_nil fun F80 hF81 => ?_
    have s82 : F80 29 = undef := (hF81 29).trans s57
    have s83 : F80 2 = .pointer (some ⟨p1, 0, none⟩) := (hF81 2).trans s58
    have s84 : F80 5 = .pointer (some ⟨p60, 0, none⟩) := (hF81 5).trans rfl
    clear hF81
    refine then_normal ?_
    refine wq_seq ?_
    refine wq_seq ?_
    refine wq_region ?_
    refine wl_v (.agg #[.int .i64 (t0 l), .int .i64 (t1 l), .int .i64 (t2 l), .int .i64 (t3 l)]) rfl rfl (y_load_stc stcT_seq rfl s84 B74 ⟨rfl, rfl⟩) ?_
    refine wl_call (R := fun v_ w_ => v_ = .int .i64 (seqE (t0 l) (t1 l) (t2 l) (t3 l)) ∧ Kept (fun _ => False) w73 w_) rfl rfl (y_cs rfl rfl rfl (fun _ _ => by kernel_rfl) (ev_func _) (vsC rfl vsN) (hd_seq (t0 l) (t1 l) (t2 l) (t3 l)  _   ) (fun e_ w_ h_ => ⟨_, h_.1, rfl, h_.2⟩)) ?_
    rintro _ w85 ⟨rfl, k86⟩
    have B87 := B76.all k86 Apart.none
    have B88 := B77.all k86 id
    have B89 := B78.all k86 id
    have B90 := B74.all k86 id
    have K91 := K79.trans k86 (fun _ _ x => x.elim)
    refine wl_v (.int .i64 (seqE (t0 l) (t1 l) (t2 l) (t3 l))) rfl rfl (y_asg rfl rfl ⟨rfl, rfl⟩) ?_
    refine wl_nil fun F92 hF93 => ?_
    have s94 : F92 29 = undef := (hF93 29).trans s82
    have s95 : F92 2 = .pointer (some ⟨p1, 0, none⟩) := (hF93 2).trans s83
    have s96 : F92 5 = .pointer (some ⟨p60, 0, none⟩) := (hF93 5).trans s84
    have s97 : F92 6 = .int .i64 (seqE (t0 l) (t1 l) (t2 l) (t3 l)) := (hF93 6).trans rfl
    clear hF93
    refine then_normal ?_
    refine wq_seq ?_
    refine wq_region ?_
    refine wl_v (.int .i64 (seqE (t0 l) (t1 l) (t2 l) (t3 l))) rfl rfl (y_mov rfl s97 ⟨rfl, rfl⟩) ?_
    refine wl_v (.bool (decide ((seqE (t0 l) (t1 l) (t2 l) (t3 l)) ≠ (0)))) rfl rfl (y_neqI rfl rfl rfl rfl ⟨rfl, rfl⟩) ?_
    refine wl_nil fun F98 hF99 => ?_
    have s100 : F98 29 = undef := (hF99 29).trans s94
    have s101 : F98 2 = .pointer (some ⟨p1, 0, none⟩) := (hF99 2).trans s95
    have s102 : F98 5 = .pointer (some ⟨p60, 0, none⟩) := (hF99 5).trans s96
    have s103 : F98 6 = .int .i64 (seqE (t0 l) (t1 l) (t2 l) (t3 l)) := (hF99 6).trans s97
    have s104 : F98 25 = .bool (decide ((seqE (t0 l) (t1 l) (t2 l) (t3 l)) ≠ (0))) := (hF99 25).trans rfl
    clear hF99
    refine then_normal ?_
    refine wq_cond s104 (fun c105 => ?_) (fun c105 => ?_)
    · replace c105 := of_decide_eq_true c105
      refine wq_seq ?_
      have hno : ¬ odOk l := fun h => absurd (seqE_iff.2 h.2) (by assumption)
      refine wq_region ?_
      refine wl_v (.agg #[.int .i64 (0), .int .i64 (0), .int .i64 (0), .int .i64 (0)]) rfl rfl (y_buildL (l' := []) (cells := #[.int .i64 (0), .int .i64 (0), .int .i64 (0), .int .i64 (0)]) rfl bpN (by kernel_rfl) rfl ⟨rfl, rfl⟩) ?_
      refine wl_v (.int .i64 (seqE (t0 l) (t1 l) (t2 l) (t3 l))) rfl rfl (y_mov rfl s103 ⟨rfl, rfl⟩) ?_
      refine wl_store_stc (us := [.int .i64 (0), .int .i64 (0), .int .i64 (0), .int .i64 (0)]) stcT_seq rfl rfl rfl s101 rfl B88 rfl (oneI rfl (oneI rfl (oneI rfl (oneI rfl oneN)))) fun w106 B107 k108 => ?_
      have B109 := B87.all k108 (fun i h x => (((ap7).symm) i h x))
      have B110 := B89.all k108 (fun x => ((ap45) p37 rfl x))
      have B111 := B90.all k108 (fun x => ((ap67) p60 rfl x))
      have K112 := K91.trans k108 (Grew.ok (S := fun _ => False) gr6 noB_le)
      refine wl_v (.int .i64 (seqE (t0 l) (t1 l) (t2 l) (t3 l))) rfl rfl (y_asg rfl rfl ⟨rfl, rfl⟩) ?_
      refine wl_nil fun F113 hF114 => ?_
      have s115 : F113 29 = undef := (hF114 29).trans s100
      have s116 : F113 2 = .pointer (some ⟨p1, 0, none⟩) := (hF114 2).trans s101
      have s117 : F113 3 = .int .i64 (seqE (t0 l) (t1 l) (t2 l) (t3 l)) := (hF114 3).trans rfl
      clear hF114
      refine then_normal ?_
      refine wq_ret ?_
      refine then_ret ?_
      exact end_2 s115 rfl (res_stc (vs := [.int .i64 (0), .int .i64 (0), .int .i64 (0), .int .i64 (0)]) stcT_seq rfl s116 B107) (res_tmp (v := .int .i64 (seqE (t0 l) (t1 l) (t2 l) (t3 l))) rfl s117) ⟨(by first | (unfold od odE; rw [if_pos hok, if_pos hok, if_pos hok, if_pos hok, if_pos hok]) | (unfold od odE; rw [if_neg hno, if_neg hno, if_neg hno, if_neg hno, if_neg hno]; done) | (unfold od odE; rw [if_neg hno, if_neg hno, if_neg hno, if_neg hno, if_neg hno]; rw [show seqE (t0 l) (t1 l) (t2 l) (t3 l) = 110 from if_neg (fun h => hno ⟨by omega, h⟩)])), K112⟩
    · replace c105 := of_decide_eq_false c105
      refine wq_skip ?_
      refine then_normal ?_
      refine wq_seq ?_
      have hok : odOk l := ⟨by omega, seqE_iff.1 (by first | assumption | (apply Decidable.byContradiction; assumption))⟩
      refine wq_region ?_
      refine wl_v (.agg #[.int .i64 (t0 l), .int .i64 (t1 l), .int .i64 (t2 l), .int .i64 (t3 l)]) rfl rfl (y_load_stc stcT_seq rfl s102 B90 ⟨rfl, rfl⟩) ?_
      refine wl_store_stc (us := [.int .i64 (t0 l), .int .i64 (t1 l), .int .i64 (t2 l), .int .i64 (t3 l)]) stcT_seq rfl rfl rfl s101 rfl B88 rfl (oneI rfl (oneI rfl (oneI rfl (oneI rfl oneN)))) fun w118 B119 k120 => ?_
      have B121 := B87.all k120 (fun i h x => (((ap7).symm) i h x))
      have B122 := B89.all k120 (fun x => ((ap45) p37 rfl x))
      have B123 := B90.all k120 (fun x => ((ap67) p60 rfl x))
      have K124 := K91.trans k120 (Grew.ok (S := fun _ => False) gr6 noB_le)
      refine wl_v (.int .i64 (0)) rfl rfl (y_asg rfl rfl ⟨rfl, rfl⟩) ?_
      refine wl_nil fun F125 hF126 => ?_
      have s127 : F125 29 = undef := (hF126 29).trans s100
      have s128 : F125 2 = .pointer (some ⟨p1, 0, none⟩) := (hF126 2).trans s101
      have s129 : F125 3 = .int .i64 (0) := (hF126 3).trans rfl
      clear hF126
      refine then_normal ?_
      refine wq_ret ?_
      exact end_2 s127 rfl (res_stc (vs := [.int .i64 (t0 l), .int .i64 (t1 l), .int .i64 (t2 l), .int .i64 (t3 l)]) stcT_seq rfl s128 B119) (res_tmp (v := .int .i64 (0)) rfl s129) ⟨(by first | (unfold od odE; rw [if_pos hok, if_pos hok, if_pos hok, if_pos hok, if_pos hok]) | (unfold od odE; rw [if_neg hno, if_neg hno, if_neg hno, if_neg hno, if_neg hno]; done) | (unfold od odE; rw [if_neg hno, if_neg hno, if_neg hno, if_neg hno, if_neg hno]; rw [show seqE (t0 l) (t1 l) (t2 l) (t3 l) = 110 from if_neg (fun h => hno ⟨by omega, h⟩)])), K124⟩
set_option maxHeartbeats 4000000 in
set_option maxRecDepth 100000 in
theorem hd_write (K Q D F : Int) (v : Value) (l : List Nat) (T_b : Nat → Prop) (w0 : World) (hm : l.length < 1000000000) (h_b : Byt w0 T_b v (l)) :
    Calls Try.prog 12 #[.agg #[.int .i64 (K), .int .i64 (Q), .int .i64 (D), .int .i64 (F)], v] w0 fun e w' => ∃ (v1 : Value) (T1 : Nat → Prop), e = .returned (.tuple #[v1, .int .i64 (headE K Q D F)]) ∧ Kept (fun _ => False) w0 w' ∧ (Owb w' T1 v1 ((wrB K Q D F l)) ∧ Grew w0 noB T1) := by
  refine calls_wq (args := [.agg #[.int .i64 (K), .int .i64 (Q), .int .i64 (D), .int .i64 (F)], v]) 23 Try.func12 rfl rfl (Nat.le_of_ble_eq_true rfl) ?_
  have K0 := Kept.refl (fun _ => False) w0
  have g_b := Grew.refl w0 T_b
  refine wq_seq ?_
  refine wq_region ?_
  refine wl_box_stc (vs := [.int .i64 (K), .int .i64 (Q), .int .i64 (D), .int .i64 (F)]) rfl rfl rfl rfl fun p1 w2 B4 g5 k3 => ?_
  have gr6 : Grew w0 noB (onB p1) := Grew.new K0 g5
  have ap7 : Apart (onB p1) (T_b) := Apart.new g5 (h_b).live
  have B8 := h_b.all k3 Apart.none
  have K9 := K0.trans k3 (fun _ _ x => x.elim)
  refine wl_v (.slice none 0 0) rfl rfl (y_asg rfl rfl ⟨rfl, rfl⟩) ?_
  refine wl_v (.int .i64 (0)) rfl rfl (y_asg rfl rfl ⟨rfl, rfl⟩) ?_
  refine wl_nil fun F10 hF11 => ?_
  have s12 : F10 1 = v := (hF11 1).trans rfl
  have s13 : F10 23 = undef := (hF11 23).trans rfl
  have s14 : F10 2 = .pointer (some ⟨p1, 0, none⟩) := (hF11 2).trans rfl
  clear hF11
  refine then_normal ?_
  refine wq_seq ?_
  refine wq_seq ?_
  refine wq_region ?_
  refine wl_v (.agg #[.int .i64 (K), .int .i64 (Q), .int .i64 (D), .int .i64 (F)]) rfl rfl (y_load_stc stcT_head rfl s14 B4 ⟨rfl, rfl⟩) ?_
  refine wl_call (R := fun v_ w_ => v_ = .int .i64 (headE (K) (Q) (D) (F)) ∧ Kept (fun _ => False) w2 w_) rfl rfl (y_cs rfl rfl rfl (fun _ _ => by kernel_rfl) (ev_func _) (vsC rfl vsN) (hd_head (K) (Q) (D) (F)  _   ) (fun e_ w_ h_ => ⟨_, h_.1, rfl, h_.2⟩)) ?_
  rintro _ w15 ⟨rfl, k16⟩
  have B17 := B8.all k16 Apart.none
  have B18 := B4.all k16 id
  have K19 := K9.trans k16 (fun _ _ x => x.elim)
  refine wl_v (.int .i64 (headE (K) (Q) (D) (F))) rfl rfl (y_asg rfl rfl ⟨rfl, rfl⟩) ?_
  refine wl_nil fun F20 hF21 => ?_
  have s22 : F20 1 = v := (hF21 1).trans s12
  have s23 : F20 23 = undef := (hF21 23).trans s13
  have s24 : F20 2 = .pointer (some ⟨p1, 0, none⟩) := (hF21 2).trans s14
  have s25 : F20 6 = .int .i64 (headE (K) (Q) (D) (F)) := (hF21 6).trans rfl
  clear hF21
  refine then_normal ?_
  refine wq_seq ?_
  refine wq_region ?_
  refine wl_v (.int .i64 (headE (K) (Q) (D) (F))) rfl rfl (y_mov rfl s25 ⟨rfl, rfl⟩) ?_
  refine wl_v (.bool (decide ((headE (K) (Q) (D) (F)) ≠ (0)))) rfl rfl (y_neqI rfl rfl rfl rfl ⟨rfl, rfl⟩) ?_
  refine wl_nil fun F26 hF27 => ?_
  have s28 : F26 1 = v := (hF27 1).trans s22
  have s29 : F26 23 = undef := (hF27 23).trans s23
  have s30 : F26 2 = .pointer (some ⟨p1, 0, none⟩) := (hF27 2).trans s24
  have s31 : F26 6 = .int .i64 (headE (K) (Q) (D) (F)) := (hF27 6).trans s25
  have s32 : F26 10 = .bool (decide ((headE (K) (Q) (D) (F)) ≠ (0))) := (hF27 10).trans rfl
  clear hF27
  refine then_normal ?_
  refine wq_cond s32 (fun c33 => ?_) (fun c33 => ?_)
  · replace c33 := of_decide_eq_true c33
    refine wq_seq ?_
    have hno : ¬ headOk K Q D F := fun h => absurd (headE_iff.2 h) (by assumption)
    refine wq_region ?_
    refine wl_v (.int .i64 (headE (K) (Q) (D) (F))) rfl rfl (y_mov rfl s31 ⟨rfl, rfl⟩) ?_
    refine wl_v (.slice none 0 0) rfl rfl (y_asg rfl rfl ⟨rfl, rfl⟩) ?_
    refine wl_v (.int .i64 (headE (K) (Q) (D) (F))) rfl rfl (y_asg rfl rfl ⟨rfl, rfl⟩) ?_
    refine wl_nil fun F34 hF35 => ?_
    have s36 : F34 23 = undef := (hF35 23).trans s29
    have s37 : F34 4 = .slice none 0 0 := (hF35 4).trans rfl
    have s38 : F34 5 = .int .i64 (headE (K) (Q) (D) (F)) := (hF35 5).trans rfl
    clear hF35
    refine then_normal ?_
    refine wq_ret ?_
    refine then_ret ?_
    exact end_2 s36 rfl (res_tmp (v := .slice none 0 0) rfl s37) (res_tmp (v := .int .i64 (headE (K) (Q) (D) (F))) rfl s38) ⟨(.slice none 0 0), noB, (by first | rw [headE_iff.2 hok] | rw [show headE K Q D F = 110 from if_neg hno]), K19, ⟨(by first | (rw [show wrB K Q D F l = tenB K Q D F ++ l from if_pos hok]; exact (Owb.nil _)) | (rw [show wrB K Q D F l = [] from if_neg hno]; exact (Owb.nil _))), (Grew.refl _ _)⟩⟩
  · replace c33 := of_decide_eq_false c33
    refine wq_skip ?_
    refine then_normal ?_
    refine wq_seq ?_
    have hok : headOk K Q D F := headE_iff.1 (by first | assumption | (apply Decidable.byContradiction; assumption))
    refine wq_region ?_
    refine wl_v (.pointer (some ⟨p1, 0, none⟩)) rfl rfl (y_fieldR (n := 1) rfl s30 Try.underlying26 rfl (by kernel_rfl) (by decide) rfl ⟨rfl, rfl⟩) ?_
    refine wl_v (.int .i64 (K)) rfl rfl (y_ld_stc rfl rfl Try.underlying3 B18 rfl rfl ⟨rfl, rfl⟩) ?_
    refine wl_v (.pointer (some ⟨p1, 1, none⟩)) rfl rfl (y_fieldR (n := 1) rfl s30 Try.underlying26 rfl (by kernel_rfl) (by decide) rfl ⟨rfl, rfl⟩) ?_
    refine wl_v (.int .i64 (Q)) rfl rfl (y_ld_stc rfl rfl Try.underlying3 B18 rfl rfl ⟨rfl, rfl⟩) ?_
    refine wl_v (.pointer (some ⟨p1, 2, none⟩)) rfl rfl (y_fieldR (n := 1) rfl s30 Try.underlying26 rfl (by kernel_rfl) (by decide) rfl ⟨rfl, rfl⟩) ?_
    refine wl_v (.int .i64 (D)) rfl rfl (y_ld_stc rfl rfl Try.underlying3 B18 rfl rfl ⟨rfl, rfl⟩) ?_
    refine wl_v (.pointer (some ⟨p1, 3, none⟩)) rfl rfl (y_fieldR (n := 1) rfl s30 Try.underlying26 rfl (by kernel_rfl) (by decide) rfl ⟨rfl, rfl⟩) ?_
    refine wl_v (.int .i64 (F)) rfl rfl (y_ld_stc rfl rfl Try.underlying3 B18 rfl rfl ⟨rfl, rfl⟩) ?_
    refine wl_v (.agg (arrL 4 (blL [K, Q, D, F])).toArray) rfl rfl (y_buildL (l' := [(0, .int .i64 (K)), (1, .int .i64 (Q)), (2, .int .i64 (D)), (3, .int .i64 (F))]) (cells := (arrL 4 (blL [K, Q, D, F])).toArray) rfl (bpC rfl (bpC rfl (bpC rfl (bpC rfl bpN)))) (by kernel_rfl) rfl ⟨rfl, rfl⟩) ?_
    refine wl_v (v) rfl rfl (y_mov rfl s28 ⟨rfl, rfl⟩) ?_
    refine wl_call (R := fun v_ w_ => ∃ (v39 : Value) (T42 : Nat → Prop), v39 = v_ ∧ Kept (fun _ => False) w15 w_ ∧ (Owb w_ T42 v39 ((tenB ((blL [K, Q, D, F]) 0) ((blL [K, Q, D, F]) 1) ((blL [K, Q, D, F]) 2) ((blL [K, Q, D, F]) 3) ++ (l))) ∧ Grew w15 noB T42)) rfl rfl (y_cs rfl rfl rfl (fun _ _ => by kernel_rfl) (ev_func _) (vsC rfl (vsC rfl vsN)) (hd_lay (blL [K, Q, D, F]) (v) (l) (T_b) _ (by omega) B17 ) (fun e_ w_ h_ => by obtain ⟨v39_, T42_, he_, hr_⟩ := h_; exact ⟨_, he_, v39_, T42_, rfl, hr_⟩)) ?_
    rintro _ w40 ⟨v39, T42, rfl, k41, ⟨B43, g44⟩⟩
    have B45 := B17.all k41 Apart.none
    have B46 := B18.all k41 id
    have K47 := K19.trans k41 (fun _ _ x => x.elim)
    have gr48 : Grew w0 noB (T42) := Grew.new K19 g44
    have ap49 : Apart (T42) (T_b) := Apart.new g44 (B17).live
    have ap50 : Apart (T42) (onB p1) := Apart.new g44 (onB_live (B18).lt)
    refine wl_v (v39) rfl rfl (y_asg rfl rfl ⟨rfl, rfl⟩) ?_
    refine wl_v (.int .i64 (0)) rfl rfl (y_asg rfl rfl ⟨rfl, rfl⟩) ?_
    refine wl_nil fun F51 hF52 => ?_
    have s53 : F51 23 = undef := (hF52 23).trans s29
    have s54 : F51 4 = v39 := (hF52 4).trans rfl
    have s55 : F51 5 = .int .i64 (0) := (hF52 5).trans rfl
    clear hF52
    refine then_normal ?_
    refine wq_ret ?_
    exact end_2 s53 rfl (res_tmp (v := v39) rfl s54) (res_tmp (v := .int .i64 (0)) rfl s55) ⟨v39, T42, (by first | rw [headE_iff.2 hok] | rw [show headE K Q D F = 110 from if_neg hno]), K47, ⟨(by first | (rw [show wrB K Q D F l = tenB K Q D F ++ l from if_pos hok]; exact B43) | (rw [show wrB K Q D F l = [] from if_neg hno]; exact B43)), gr48⟩⟩
set_option maxHeartbeats 4000000 in
set_option maxRecDepth 100000 in
theorem hd_read (v : Value) (l : List Nat) (T_b : Nat → Prop) (w0 : World) (hm : l.length < 1000000000) (h_b : Byt w0 T_b v (l)) :
    Calls Try.prog 16 #[v] w0 fun e w' => ∃ (v1 : Value) (T1 : Nat → Prop), e = .returned (.tuple #[.agg #[.int .i64 (rdH t0 l), .int .i64 (rdH t1 l), .int .i64 (rdH t2 l), .int .i64 (rdH t3 l)], v1, .int .i64 (rdE l)]) ∧ Kept (fun _ => False) w0 w' ∧ (Owb w' T1 v1 ((rdP l)) ∧ Grew w0 noB T1) := by
  refine calls_wq (args := [v]) 35 Try.func16 rfl rfl (Nat.le_of_ble_eq_true rfl) ?_
  have K0 := Kept.refl (fun _ => False) w0
  have g_b := Grew.refl w0 T_b
  refine wq_seq ?_
  refine wq_region ?_
  refine wl_alloc_stc (n := 4) (vs := [.int .i64 (0), .int .i64 (0), .int .i64 (0), .int .i64 (0)]) rfl rfl rfl (by kernel_rfl) fun p1 w2 B4 g5 k3 => ?_
  have gr6 : Grew w0 noB (onB p1) := Grew.new K0 g5
  have ap7 : Apart (onB p1) (T_b) := Apart.new g5 (h_b).live
  have B8 := h_b.all k3 Apart.none
  have K9 := K0.trans k3 (fun _ _ x => x.elim)
  refine wl_v (.slice none 0 0) rfl rfl (y_asg rfl rfl ⟨rfl, rfl⟩) ?_
  refine wl_v (.int .i64 (0)) rfl rfl (y_asg rfl rfl ⟨rfl, rfl⟩) ?_
  refine wl_nil fun F10 hF11 => ?_
  have s12 : F10 0 = v := (hF11 0).trans rfl
  have s13 : F10 35 = undef := (hF11 35).trans rfl
  have s14 : F10 2 = .pointer (some ⟨p1, 0, none⟩) := (hF11 2).trans rfl
  clear hF11
  refine then_normal ?_
  refine wq_seq ?_
  refine wq_seq ?_
  refine wq_region ?_
  refine wl_v (v) rfl rfl (y_mov rfl s12 ⟨rfl, rfl⟩) ?_
  refine wl_v (.int .i64 ((((l).length : Nat) : Int))) rfl rfl (y_lenV rfl rfl rfl B8 ⟨rfl, rfl⟩) ?_
  refine wl_v (.bool (decide (((((l).length : Nat) : Int)) < (10)))) rfl rfl (y_lss rfl rfl rfl rfl ⟨rfl, rfl⟩) ?_
  refine wl_nil fun F15 hF16 => ?_
  have s17 : F15 0 = v := (hF16 0).trans s12
  have s18 : F15 35 = undef := (hF16 35).trans s13
  have s19 : F15 2 = .pointer (some ⟨p1, 0, none⟩) := (hF16 2).trans s14
  have s20 : F15 10 = .bool (decide (((((l).length : Nat) : Int)) < (10))) := (hF16 10).trans rfl
  clear hF16
  refine then_normal ?_
  refine wq_cond s20 (fun c21 => ?_) (fun c21 => ?_)
  · replace c21 := of_decide_eq_true c21
    refine wq_seq ?_
    have hno : ¬ rdOkH l := fun h => absurd h.1 (by omega)
    refine wq_region ?_
    refine wl_v (.agg #[.int .i64 (0), .int .i64 (0), .int .i64 (0), .int .i64 (0)]) rfl rfl (y_buildL (l' := []) (cells := #[.int .i64 (0), .int .i64 (0), .int .i64 (0), .int .i64 (0)]) rfl bpN (by kernel_rfl) rfl ⟨rfl, rfl⟩) ?_
    refine wl_store_stc (us := [.int .i64 (0), .int .i64 (0), .int .i64 (0), .int .i64 (0)]) stcT_head rfl rfl rfl s19 rfl B4 rfl (oneI rfl (oneI rfl (oneI rfl (oneI rfl oneN)))) fun w22 B23 k24 => ?_
    have B25 := B8.all k24 (fun i h x => (((ap7).symm) i h x))
    have K26 := K9.trans k24 (Grew.ok (S := fun _ => False) gr6 noB_le)
    refine wl_v (.slice none 0 0) rfl rfl (y_asg rfl rfl ⟨rfl, rfl⟩) ?_
    refine wl_v (.int .i64 (110)) rfl rfl (y_asg rfl rfl ⟨rfl, rfl⟩) ?_
    refine wl_nil fun F27 hF28 => ?_
    have s29 : F27 35 = undef := (hF28 35).trans s18
    have s30 : F27 2 = .pointer (some ⟨p1, 0, none⟩) := (hF28 2).trans s19
    have s31 : F27 3 = .slice none 0 0 := (hF28 3).trans rfl
    have s32 : F27 4 = .int .i64 (110) := (hF28 4).trans rfl
    clear hF28
    refine then_normal ?_
    refine wq_ret ?_
    refine then_ret ?_
    exact endc_3 s29 rfl (res_stc (vs := [.int .i64 (0), .int .i64 (0), .int .i64 (0), .int .i64 (0)]) stcT_head rfl s30 B23) (res_tmp (v := .slice none 0 0) rfl s31) (res_tmp (v := .int .i64 (110)) rfl s32) ⟨(.slice none 0 0), noB, (by first | (unfold rdH rdE; rw [if_pos hok, if_pos hok, if_pos hok, if_pos hok, if_pos hok]) | (unfold rdH rdE; rw [if_neg hno, if_neg hno, if_neg hno, if_neg hno, if_neg hno]; done) | (unfold rdH rdE; rw [if_neg hno, if_neg hno, if_neg hno, if_neg hno, if_neg hno]; rw [show headE (t0 l) (t1 l) (t2 l) (t3 l) = 110 from if_neg (fun h => hno ⟨by omega, h⟩)])), K26, ⟨(by first | (rw [show rdP l = List.take (l.length - 10) (List.drop 10 l) from by rw [show rdP l = l.drop 10 from if_pos hok, List.take_of_length_le (by rw [List.length_drop]; exact Nat.le_refl _)]]; exact (Owb.nil _)) | (rw [show rdP l = [] from if_neg hno]; exact (Owb.nil _))), (Grew.refl _ _)⟩⟩
  · replace c21 := of_decide_eq_false c21
    refine wq_skip ?_
    refine then_normal ?_
    refine wq_seq ?_
    refine wq_region ?_
    refine wl_v (v) rfl rfl (y_mov rfl s17 ⟨rfl, rfl⟩) ?_
    refine wl_call (R := fun v_ w_ => v_ = .agg (arrL 4 (blL [t0 (l), t1 (l), t2 (l), t3 (l)])).toArray ∧ Kept (fun _ => False) w2 w_) rfl rfl (y_cs rfl rfl rfl (fun _ _ => by kernel_rfl) (ev_func _) (vsC rfl vsN) (hd_numbers (v) (l) (T_b) _ (by omega) B8 ) (fun e_ w_ h_ => ⟨_, h_.1, rfl, h_.2⟩)) ?_
    rintro _ w33 ⟨rfl, k34⟩
    have B35 := B8.all k34 Apart.none
    have B36 := B4.all k34 id
    have K37 := K9.trans k34 (fun _ _ x => x.elim)
    refine wl_alloc_arr rfl rfl rfl arrT4.2.2 fun p38 w39 e42 B40 k41 => ?_
    have g43 := onB_new (Nat.le_of_eq e42.symm)
    have gr44 : Grew w0 noB (onB p38) := Grew.new K37 g43
    have ap45 : Apart (onB p38) (T_b) := Apart.new g43 (B35).live
    have ap46 : Apart (onB p38) (onB p1) := Apart.new g43 (onB_live (B36).lt)
    clear e42 g43
    have B47 := B35.all k41 Apart.none
    have B48 := B36.all k41 id
    have K49 := K37.trans k41 (fun _ _ x => x.elim)
    refine wl_store_arr arrT4 rfl rfl rfl rfl rfl B40 fun w50 B51 k52 => ?_
    have B53 := B47.all k52 (fun i h x => (((ap45).symm) i h x))
    have B54 := B48.all k52 (fun x => (((ap46).symm) p1 rfl x))
    have K55 := K49.trans k52 (Grew.ok (S := fun _ => False) gr44 noB_le)
    refine wl_nil fun F56 hF57 => ?_
    have s58 : F56 0 = v := (hF57 0).trans s17
    have s59 : F56 35 = undef := (hF57 35).trans s18
    have s60 : F56 2 = .pointer (some ⟨p1, 0, none⟩) := (hF57 2).trans s19
    have s61 : F56 5 = .pointer (some ⟨p38, 0, none⟩) := (hF57 5).trans rfl
    clear hF57
    refine then_normal ?_
    refine wq_seq ?_
    refine wq_region ?_
    refine wl_v (.pointer (some ⟨p38, 0, none⟩)) rfl rfl (y_atR (0) (s := 1) rfl s61 rfl (by omega) Try.underlying43 (by omega) (by kernel_rfl) (by omega) ⟨rfl, rfl⟩) ?_
    refine wl_v (.int .i64 (t0 l)) rfl rfl (y_ldR rfl rfl Try.underlying3 (((B51).cell (by omega)).trans (rfl)) ⟨rfl, rfl⟩) ?_
    refine wl_v (.pointer (some ⟨p38, 1, none⟩)) rfl rfl (y_atR (1) (s := 1) rfl s61 rfl (by omega) Try.underlying43 (by omega) (by kernel_rfl) (by omega) ⟨rfl, rfl⟩) ?_
    refine wl_v (.int .i64 (t1 l)) rfl rfl (y_ldR rfl rfl Try.underlying3 (((B51).cell (by omega)).trans (rfl)) ⟨rfl, rfl⟩) ?_
    refine wl_v (.pointer (some ⟨p38, 2, none⟩)) rfl rfl (y_atR (2) (s := 1) rfl s61 rfl (by omega) Try.underlying43 (by omega) (by kernel_rfl) (by omega) ⟨rfl, rfl⟩) ?_
    refine wl_v (.int .i64 (t2 l)) rfl rfl (y_ldR rfl rfl Try.underlying3 (((B51).cell (by omega)).trans (rfl)) ⟨rfl, rfl⟩) ?_
    refine wl_v (.pointer (some ⟨p38, 3, none⟩)) rfl rfl (y_atR (3) (s := 1) rfl s61 rfl (by omega) Try.underlying43 (by omega) (by kernel_rfl) (by omega) ⟨rfl, rfl⟩) ?_
    refine wl_v (.int .i64 (t3 l)) rfl rfl (y_ldR rfl rfl Try.underlying3 (((B51).cell (by omega)).trans (rfl)) ⟨rfl, rfl⟩) ?_
    refine wl_v (.agg #[.int .i64 (t0 l), .int .i64 (t1 l), .int .i64 (t2 l), .int .i64 (t3 l)]) rfl rfl (y_buildL (l' := [(0, .int .i64 (t0 l)), (1, .int .i64 (t1 l)), (2, .int .i64 (t2 l)), (3, .int .i64 (t3 l))]) (cells := #[.int .i64 (t0 l), .int .i64 (t1 l), .int .i64 (t2 l), .int .i64 (t3 l)]) rfl (bpC rfl (bpC rfl (bpC rfl (bpC rfl bpN)))) (by kernel_rfl) rfl ⟨rfl, rfl⟩) ?_
    refine wl_alloc_stc (n := 4) (vs := [.int .i64 (0), .int .i64 (0), .int .i64 (0), .int .i64 (0)]) rfl rfl rfl (by kernel_rfl) fun p62 w63 B65 g66 k64 => ?_
    have gr67 : Grew w0 noB (onB p62) := Grew.new K55 g66
    have ap68 : Apart (onB p62) (T_b) := Apart.new g66 (B53).live
    have ap69 : Apart (onB p62) (onB p1) := Apart.new g66 (onB_live (B54).lt)
    have ap70 : Apart (onB p62) (onB p38) := Apart.new g66 (onB_live (B51).lt)
    have B71 := B53.all k64 Apart.none
    have B72 := B54.all k64 id
    have B73 := B51.all k64 id
    have K74 := K55.trans k64 (fun _ _ x => x.elim)
    refine wl_store_stc (us := [.int .i64 (t0 l), .int .i64 (t1 l), .int .i64 (t2 l), .int .i64 (t3 l)]) stcT_head rfl rfl rfl rfl rfl B65 rfl (oneI rfl (oneI rfl (oneI rfl (oneI rfl oneN)))) fun w75 B76 k77 => ?_
    have B78 := B71.all k77 (fun i h x => (((ap68).symm) i h x))
    have B79 := B72.all k77 (fun x => (((ap69).symm) p1 rfl x))
    have B80 := B73.all k77 (fun x => (((ap70).symm) p38 rfl x))
    have K81 := K74.trans k77 (Grew.ok (S := fun _ => False) gr67 noB_le)
    refine wl_nil fun F82 hF83 => ?_
    have s84 : F82 0 = v := (hF83 0).trans s58
    have s85 : F82 35 = undef := (hF83 35).trans s59
    have s86 : F82 2 = .pointer (some ⟨p1, 0, none⟩) := (hF83 2).trans s60
    have s87 : F82 6 = .pointer (some ⟨p62, 0, none⟩) := (hF83 6).trans rfl
    clear hF83
    refine then_normal ?_
    refine wq_seq ?_
    refine wq_seq ?_
    refine wq_region ?_
    refine wl_v (.agg #[.int .i64 (t0 l), .int .i64 (t1 l), .int .i64 (t2 l), .int .i64 (t3 l)]) rfl rfl (y_load_stc stcT_head rfl s87 B76 ⟨rfl, rfl⟩) ?_
    refine wl_call (R := fun v_ w_ => v_ = .int .i64 (headE (t0 l) (t1 l) (t2 l) (t3 l)) ∧ Kept (fun _ => False) w75 w_) rfl rfl (y_cs rfl rfl rfl (fun _ _ => by kernel_rfl) (ev_func _) (vsC rfl vsN) (hd_head (t0 l) (t1 l) (t2 l) (t3 l)  _   ) (fun e_ w_ h_ => ⟨_, h_.1, rfl, h_.2⟩)) ?_
    rintro _ w88 ⟨rfl, k89⟩
    have B90 := B78.all k89 Apart.none
    have B91 := B79.all k89 id
    have B92 := B80.all k89 id
    have B93 := B76.all k89 id
    have K94 := K81.trans k89 (fun _ _ x => x.elim)
    refine wl_v (.int .i64 (headE (t0 l) (t1 l) (t2 l) (t3 l))) rfl rfl (y_asg rfl rfl ⟨rfl, rfl⟩) ?_
    refine wl_nil fun F95 hF96 => ?_
    have s97 : F95 0 = v := (hF96 0).trans s84
    have s98 : F95 35 = undef := (hF96 35).trans s85
    have s99 : F95 2 = .pointer (some ⟨p1, 0, none⟩) := (hF96 2).trans s86
    have s100 : F95 6 = .pointer (some ⟨p62, 0, none⟩) := (hF96 6).trans s87
    have s101 : F95 7 = .int .i64 (headE (t0 l) (t1 l) (t2 l) (t3 l)) := (hF96 7).trans rfl
    clear hF96
    refine then_normal ?_
    refine wq_seq ?_
    refine wq_region ?_
    refine wl_v (.int .i64 (headE (t0 l) (t1 l) (t2 l) (t3 l))) rfl rfl (y_mov rfl s101 ⟨rfl, rfl⟩) ?_
    refine wl_v (.bool (decide ((headE (t0 l) (t1 l) (t2 l) (t3 l)) ≠ (0)))) rfl rfl (y_neqI rfl rfl rfl rfl ⟨rfl, rfl⟩) ?_
    refine wl_nil fun F102 hF103 => ?_
    have s104 : F102 0 = v := (hF103 0).trans s97
    have s105 : F102 35 = undef := (hF103 35).trans s98
    have s106 : F102 2 = .pointer (some ⟨p1, 0, none⟩) := (hF103 2).trans s99
    have s107 : F102 6 = .pointer (some ⟨p62, 0, none⟩) := (hF103 6).trans s100
    have s108 : F102 7 = .int .i64 (headE (t0 l) (t1 l) (t2 l) (t3 l)) := (hF103 7).trans s101
    have s109 : F102 26 = .bool (decide ((headE (t0 l) (t1 l) (t2 l) (t3 l)) ≠ (0))) := (hF103 26).trans rfl
    clear hF103
    refine then_normal ?_
    refine wq_cond s109 (fun c110 => ?_) (fun c110 => ?_)
    · replace c110 := of_decide_eq_true c110
      refine wq_seq ?_
      have hno : ¬ rdOkH l := fun h => absurd (headE_iff.2 h.2) (by assumption)
      refine wq_region ?_
      refine wl_v (.agg #[.int .i64 (0), .int .i64 (0), .int .i64 (0), .int .i64 (0)]) rfl rfl (y_buildL (l' := []) (cells := #[.int .i64 (0), .int .i64 (0), .int .i64 (0), .int .i64 (0)]) rfl bpN (by kernel_rfl) rfl ⟨rfl, rfl⟩) ?_
      refine wl_v (.int .i64 (headE (t0 l) (t1 l) (t2 l) (t3 l))) rfl rfl (y_mov rfl s108 ⟨rfl, rfl⟩) ?_
      refine wl_store_stc (us := [.int .i64 (0), .int .i64 (0), .int .i64 (0), .int .i64 (0)]) stcT_head rfl rfl rfl s106 rfl B91 rfl (oneI rfl (oneI rfl (oneI rfl (oneI rfl oneN)))) fun w111 B112 k113 => ?_
      have B114 := B90.all k113 (fun i h x => (((ap7).symm) i h x))
      have B115 := B92.all k113 (fun x => ((ap46) p38 rfl x))
      have B116 := B93.all k113 (fun x => ((ap69) p62 rfl x))
      have K117 := K94.trans k113 (Grew.ok (S := fun _ => False) gr6 noB_le)
      refine wl_v (.slice none 0 0) rfl rfl (y_asg rfl rfl ⟨rfl, rfl⟩) ?_
      refine wl_v (.int .i64 (headE (t0 l) (t1 l) (t2 l) (t3 l))) rfl rfl (y_asg rfl rfl ⟨rfl, rfl⟩) ?_
      refine wl_nil fun F118 hF119 => ?_
      have s120 : F118 35 = undef := (hF119 35).trans s105
      have s121 : F118 2 = .pointer (some ⟨p1, 0, none⟩) := (hF119 2).trans s106
      have s122 : F118 3 = .slice none 0 0 := (hF119 3).trans rfl
      have s123 : F118 4 = .int .i64 (headE (t0 l) (t1 l) (t2 l) (t3 l)) := (hF119 4).trans rfl
      clear hF119
      refine then_normal ?_
      refine wq_ret ?_
      refine then_ret ?_
      exact endc_3 s120 rfl (res_stc (vs := [.int .i64 (0), .int .i64 (0), .int .i64 (0), .int .i64 (0)]) stcT_head rfl s121 B112) (res_tmp (v := .slice none 0 0) rfl s122) (res_tmp (v := .int .i64 (headE (t0 l) (t1 l) (t2 l) (t3 l))) rfl s123) ⟨(.slice none 0 0), noB, (by first | (unfold rdH rdE; rw [if_pos hok, if_pos hok, if_pos hok, if_pos hok, if_pos hok]) | (unfold rdH rdE; rw [if_neg hno, if_neg hno, if_neg hno, if_neg hno, if_neg hno]; done) | (unfold rdH rdE; rw [if_neg hno, if_neg hno, if_neg hno, if_neg hno, if_neg hno]; rw [show headE (t0 l) (t1 l) (t2 l) (t3 l) = 110 from if_neg (fun h => hno ⟨by omega, h⟩)])), K117, ⟨(by first | (rw [show rdP l = List.take (l.length - 10) (List.drop 10 l) from by rw [show rdP l = l.drop 10 from if_pos hok, List.take_of_length_le (by rw [List.length_drop]; exact Nat.le_refl _)]]; exact (Owb.nil _)) | (rw [show rdP l = [] from if_neg hno]; exact (Owb.nil _))), (Grew.refl _ _)⟩⟩
    · replace c110 := of_decide_eq_false c110
      refine wq_skip ?_
      refine then_normal ?_
      refine wq_seq ?_
      have hok : rdOkH l := ⟨by omega, headE_iff.1 (by first | assumption | (apply Decidable.byContradiction; assumption))⟩
      refine wq_made (S := onB p1) [] [some 29, some 30, some 31, some 32, some 33, some 34, none, some 3, some 4] [Pm.eq (.agg #[.int .i64 (t0 l), .int .i64 (t1 l), .int .i64 (t2 l), .int .i64 (t3 l)]), Pm.eq (v), Pm.eq (v), Pm.eq (.int .i64 ((((l).length : Nat) : Int))), Pm.eq (subV (v) ((10)) (((l).length)) (((l).length))), Pm.new (owThm (((((l).drop ((10))).take ((((l).length)) - ((10))))))), Pm.new (stcThm p1 26 [.int .i64 (t0 l), .int .i64 (t1 l), .int .i64 (t2 l), .int .i64 (t3 l)]), Pm.new (owThm (((((l).drop ((10))).take ((((l).length)) - ((10))))))), Pm.eq (.int .i64 (0))] [none, none, none, none, none, none, some (false, 0), some (true, 5), none] [stcEld p1 26 [.int .i64 (0), .int .i64 (0), .int .i64 (0), .int .i64 (0)]] [noB, noB, noB, noB, noB, noB, (onB p1), noB, noB] (by kernel_rfl) (by kernel_rfl) (by kernel_rfl) rfl rfl (by kernel_rfl) ⟨rfl, ⟨rfl, ⟨rfl, ⟨rfl, ⟨rfl, ⟨rfl, ⟨(fun _ e_ => by cases e_; rfl), ⟨rfl, ⟨rfl, trivial⟩⟩⟩⟩⟩⟩⟩⟩⟩ ⟨(fun _ z_ => z_.elim), ⟨(fun _ z_ => z_.elim), ⟨(fun _ z_ => z_.elim), ⟨(fun _ z_ => z_.elim), ⟨(fun _ z_ => z_.elim), ⟨(fun _ z_ => z_.elim), ⟨(fun _ z_ => z_), ⟨(fun _ z_ => z_.elim), ⟨(fun _ z_ => z_.elim), trivial⟩⟩⟩⟩⟩⟩⟩⟩⟩ ⟨⟨fun _ x_ => x_, B91, fun k_ E_ e_ => by simp at e_⟩, trivial⟩ ?_ ?_
      · refine stepsFM_cons ?_ ?_
        · refine StepFM.one rfl rfl fun F_ w_ hR hout hD hE_ => ?_
          exact (y_load_stc stcT_head rfl ((hout 6 rfl (by decide)).trans s107) (B93.all hR (fun x => ((ap69) p62 rfl x))) ⟨rfl, Kept.refl _ _⟩)
        refine stepsFM_cons ?_ ?_
        · refine StepFM.one rfl rfl fun F_ w_ hR hout hD hE_ => ?_
          exact (y_mov rfl ((hout 0 rfl (by decide)).trans s104) ⟨rfl, Kept.refl _ _⟩)
        refine stepsFM_cons ?_ ?_
        · refine StepFM.one rfl rfl fun F_ w_ hR hout hD hE_ => ?_
          exact (y_mov rfl ((hout 0 rfl (by decide)).trans s104) ⟨rfl, Kept.refl _ _⟩)
        refine stepsFM_cons ?_ ?_
        · refine StepFM.one rfl rfl fun F_ w_ hR hout hD hE_ => ?_
          have g31 : F_ 31 = v := (hD.get 0 rfl rfl rfl).1
          exact (y_lenV rfl rfl g31 (B90.all hR (fun i h x => (((ap7).symm) i h x))) ⟨rfl, Kept.refl _ _⟩)
        refine stepsFM_cons ?_ ?_
        · refine StepFM.one rfl rfl fun F_ w_ hR hout hD hE_ => ?_
          have g30 : F_ 30 = v := (hD.get 0 rfl rfl rfl).1
          have g32 : F_ 32 = .int .i64 ((((l).length : Nat) : Int)) := (hD.get 1 rfl rfl rfl).1
          exact (y_cs rfl rfl rfl (fun _ _ => by kernel_rfl) (ev_func _) (vsC g30 (vsC rfl (vsC g32 vsN))) (hd_cut (v) (l) (10) ((l).length) (T_b) _ (by omega) (by omega) (B90.all hR (fun i h x => (((ap7).symm) i h x))) ) (fun e_ w_ h_ => ⟨_, h_.1, rfl, h_.2⟩))
        refine stepsFM_cons ?_ ?_
        · refine StepFM.one rfl rfl fun F_ w_ hR hout hD hE_ => ?_
          have g33 : F_ 33 = subV (v) ((10)) (((l).length)) (((l).length)) := (hD.get 0 rfl rfl rfl).1
          exact (y_cs rfl rfl rfl (fun _ _ => by kernel_rfl) (ev_func _) (vsC g33 vsN) (hd_clone (subV (v) ((10)) (((l).length)) (((l).length))) (((l).drop ((10))).take ((((l).length)) - ((10)))) (T_b) _ (by simp; omega) (((B90.all hR (fun i h x => (((ap7).symm) i h x)))).sub (i := (10)) (j := ((l).length)) (m := ((l).length)) (by omega) (by have hc_ := ((B90.all hR (fun i h x => (((ap7).symm) i h x)))).cap; omega) (by omega) (by have hc_ := ((B90.all hR (fun i h x => (((ap7).symm) i h x)))).cap; omega)) ) (fun e_ w_ h_ => by obtain ⟨v_, T_, he_, k_, hb_, hg_⟩ := h_; exact ⟨v_, he_, k_, T_, hb_, hg_⟩))
        refine stepsFM_cons ?_ ?_
        · refine StepFM.turns 0 rfl rfl rfl fun F_ w_ hR hout hD hE_ hA_ => ?_
          have g29 : F_ 29 = .agg #[.int .i64 (t0 l), .int .i64 (t1 l), .int .i64 (t2 l), .int .i64 (t3 l)] := (hD.get 0 rfl rfl rfl).1
          exact y_storeStc (us := [.int .i64 (t0 l), .int .i64 (t1 l), .int .i64 (t2 l), .int .i64 (t3 l)]) stcT_head rfl ((hout 2 rfl (by decide)).trans s106) g29 hA_ rfl (oneI rfl (oneI rfl (oneI rfl (oneI rfl oneN)))) fun w2_ b_ k_ => ⟨k_, _, ⟨rfl, rfl, b_⟩, Grew.refl _ _⟩
        refine stepsFM_cons ?_ ?_
        · refine StepFM.uses 5 34 rfl rfl rfl rfl fun F_ w_ Tu_ hR hout hD hE_ hB_ _ => ?_
          exact y_assign rfl ⟨Kept.refl _ _, _, hB_, Grew.refl _ _⟩
        refine stepsFM_cons ?_ ?_
        · refine StepFM.one rfl rfl fun F_ w_ hR hout hD hE_ => ?_
          exact (y_asg rfl rfl ⟨rfl, Kept.refl _ _⟩)
        exact stepsFM_nil
      intro v125 Tf132 F126 w127 k128 G129 Gt133 Ga134 hF130
      have B135 := B90.all k128 (fun i h x => (((ap7).symm) i h x))
      have B136 := B92.all k128 (fun x => ((ap46) p38 rfl x))
      have B137 := B93.all k128 (fun x => ((ap69) p62 rfl x))
      have K138 := K94.trans k128 (fun i hi x => ((Grew.ok (S := fun _ => False) gr6 noB_le) i hi x))
      obtain ⟨v139, e141⟩ : ∃ v_, v_ = v125 7 := ⟨_, rfl⟩
      obtain ⟨T140, e142⟩ : ∃ T_, T_ = Tf132 7 := ⟨_, rfl⟩
      have B143 : Owb w127 T140 v139 (((((l).drop ((10))).take ((((l).length)) - ((10)))))) := by rw [e142, e141]; exact (Gt133 7 _ rfl rfl).1
      have g144 : Grew w88 (noB) T140 := by rw [e142]; exact (Gt133 7 _ rfl rfl).2
      have gr145 : Grew w0 noB (T140) := Grew.new K94 g144
      have ap146 : Apart (T140) (T_b) := Apart.new g144 (B90).live
      have ap147 : Apart (T140) (onB p38) := Apart.new g144 (onB_live (B92).lt)
      have ap148 : Apart (T140) (onB p62) := Apart.new g144 (onB_live (B93).lt)
      have e149 : onB p1 = Tf132 6 := ((Gt133 6 _ rfl rfl).1.2.1).symm
      have B150 : Stc w127 p1 26 [.int .i64 (t0 l), .int .i64 (t1 l), .int .i64 (t2 l), .int .i64 (t3 l)] := (Gt133 6 _ rfl rfl).1.2.2
      have ap151 : Apart T140 (onB p1) := by rw [e142, e149]; exact Ga134 7 6 _ _ (by decide) rfl rfl rfl rfl
      clear Gt133 Ga134
      have s152 : F126 35 = undef := (hF130 35).trans s105
      have s153 : F126 2 = .pointer (some ⟨p1, 0, none⟩) := (hF130 2).trans s106
      have s154 : F126 3 = v139 := (hF130 3).trans e141.symm
      have s155 : F126 4 = .int .i64 (0) := (hF130 4).trans (G129 8 (by decide))
      clear G129 hF130
      refine then_normal ?_
      refine wq_ret ?_
      exact endc_3 s152 rfl (res_stc (vs := [.int .i64 (t0 l), .int .i64 (t1 l), .int .i64 (t2 l), .int .i64 (t3 l)]) stcT_head rfl s153 B150) (res_tmp (v := v139) rfl s154) (res_tmp (v := .int .i64 (0)) rfl s155) ⟨v139, T140, (by first | (unfold rdH rdE; rw [if_pos hok, if_pos hok, if_pos hok, if_pos hok, if_pos hok]) | (unfold rdH rdE; rw [if_neg hno, if_neg hno, if_neg hno, if_neg hno, if_neg hno]; done) | (unfold rdH rdE; rw [if_neg hno, if_neg hno, if_neg hno, if_neg hno, if_neg hno]; rw [show headE (t0 l) (t1 l) (t2 l) (t3 l) = 110 from if_neg (fun h => hno ⟨by omega, h⟩)])), K138, ⟨(by first | (rw [show rdP l = List.take (l.length - 10) (List.drop 10 l) from by rw [show rdP l = l.drop 10 from if_pos hok, List.take_of_length_le (by rw [List.length_drop]; exact Nat.le_refl _)]]; exact B143) | (rw [show rdP l = [] from if_neg hno]; exact B143)), gr145⟩⟩
end Go.Proofs.Ytnccblhdokplkaa
