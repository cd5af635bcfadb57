/- Escaping, as lists of numbers: what is escaped, brought back, joined and split. No program in it. -/
namespace Go.Proofs.Ytjhghgdmjajekaa

/-- How many bytes 0 follow one another up to c. -/
def cnt (z c : Nat) : Nat := if c = 0 then z + 1 else 0

theorem cnt_zero (z : Nat) : cnt z 0 = z + 1 := rfl
theorem cnt_pos (z c : Nat) (h : c ≠ 0) : cnt z c = 0 := by simp [cnt, h]
theorem cnt_le (z c : Nat) (h : z < 2 ∨ 3 < c) : cnt z c ≤ 2 := by
  unfold cnt; split <;> omega

/-- What is escaped, behind so many bytes 0. -/
def esc (z : Nat) : List Nat → List Nat
  | [] => if z = 2 then [3] else []
  | c :: r => if z = 2 ∧ c ≤ 3 then 3 :: c :: esc (cnt 0 c) r else c :: esc (cnt z c) r

theorem esc_nil2 : esc 2 [] = [3] := rfl
theorem esc_nil (z : Nat) (h : z < 2) : esc z [] = [] := by simp [esc]; omega
theorem esc_put (c : Nat) (r : List Nat) (h : c ≤ 3) : esc 2 (c :: r) = 3 :: c :: esc (cnt 0 c) r := by simp [esc, h]
theorem esc_plain (z c : Nat) (r : List Nat) (h : z < 2 ∨ 3 < c) : esc z (c :: r) = c :: esc (cnt z c) r := by
  simp only [esc]; rw [if_neg]; omega

/-- Whether a byte 3 ahead of the rest is wanted. -/
def need : List Nat → Bool
  | [] => true
  | c :: _ => decide (c ≤ 3)

/-- What is brought back, behind so many bytes 0. -/
def unesc (z : Nat) : List Nat → Option (List Nat)
  | [] => if z = 2 then none else some []
  | c :: r => if z < 2 ∨ 3 < c then (unesc (cnt z c) r).map (c :: ·) else if c < 3 ∨ need r = false then none else unesc 0 r

theorem unesc_nil2 : unesc 2 [] = none := rfl
theorem unesc_nil (z : Nat) (h : z < 2) : unesc z [] = some [] := by simp [unesc]; omega
theorem unesc_plain (z c : Nat) (r : List Nat) (h : z < 2 ∨ 3 < c) : unesc z (c :: r) = (unesc (cnt z c) r).map (c :: ·) := by simp only [unesc]; rw [if_pos h]
theorem unesc_bad (c : Nat) (r : List Nat) (h : c < 3) : unesc 2 (c :: r) = none := by simp only [unesc]; rw [if_neg (by omega), if_pos (.inl h)]
theorem unesc_vain (r : List Nat) (h : need r = false) : unesc 2 (3 :: r) = none := by simp only [unesc]; rw [if_neg (by omega), if_pos (.inr h)]
theorem unesc_put (r : List Nat) (h : need r = true) : unesc 2 (3 :: r) = unesc 0 r := by simp only [unesc]; rw [if_neg (by omega), if_neg (by simp [h])]

theorem unesc_esc (p : List Nat) : ∀ z, z ≤ 2 → unesc z (esc z p) = some p := by
  induction p with
  | nil =>
    intro z hz
    by_cases h : z = 2
    · subst h; rfl
    · rw [esc_nil z (by omega), unesc_nil z (by omega)]
  | cons c r ih =>
    intro z hz
    by_cases h : z = 2 ∧ c ≤ 3
    · obtain ⟨rfl, hc⟩ := h
      rw [esc_put c r hc, unesc_put _ (by simp [need, hc]), unesc_plain 0 c _ (by omega), ih _ (cnt_le 0 c (by omega))]
      rfl
    · have h' : z < 2 ∨ 3 < c := by omega
      rw [esc_plain z c r h', unesc_plain z c _ h', ih _ (cnt_le z c h')]
      rfl

theorem esc_unesc (l : List Nat) : ∀ z p, z ≤ 2 → unesc z l = some p → esc z p = l := by
  induction l with
  | nil =>
    intro z p hz h
    by_cases h2 : z = 2
    · subst h2; cases h
    · rw [unesc_nil z (by omega)] at h; cases h
      exact esc_nil z (by omega)
  | cons c r ih =>
    intro z p hz h
    by_cases h' : z < 2 ∨ 3 < c
    · rw [unesc_plain z c r h'] at h
      obtain ⟨q, hq, rfl⟩ := Option.map_eq_some_iff.1 h
      rw [esc_plain z c q h', ih _ q (cnt_le z c h') hq]
    · have hz2 : z = 2 := by omega
      subst hz2
      by_cases h3 : c < 3
      · rw [unesc_bad c r h3] at h; cases h
      have hc : c = 3 := by omega
      subst hc
      cases hn : need r with
      | false => rw [unesc_vain r hn] at h; cases h
      | true =>
        rw [unesc_put r hn] at h
        have hr := ih 0 p (by omega) h
        cases p with
        | nil =>
          rw [esc_nil 0 (by omega)] at hr
          subst hr; rfl
        | cons d q =>
          rw [esc_plain 0 d q (by omega)] at hr
          subst hr
          have hd : d ≤ 3 := by simpa [need] using hn
          rw [esc_put d q hd]

/-- Without each byte 3 behind two bytes 0. -/
def strip (z : Nat) : List Nat → List Nat
  | [] => []
  | c :: r => if z = 2 ∧ c = 3 then strip 0 r else c :: strip (cnt z c) r

theorem strip_skip (r : List Nat) : strip 2 (3 :: r) = strip 0 r := by simp [strip]
theorem strip_keep (z c : Nat) (r : List Nat) (h : ¬ (z = 2 ∧ c = 3)) : strip z (c :: r) = c :: strip (cnt z c) r := by simp only [strip]; rw [if_neg h]

theorem strip_esc (p : List Nat) : ∀ z, z ≤ 2 → strip z (esc z p) = p := by
  induction p with
  | nil =>
    intro z hz
    by_cases h : z = 2
    · subst h; rfl
    · rw [esc_nil z (by omega)]; rfl
  | cons c r ih =>
    intro z hz
    by_cases h : z = 2 ∧ c ≤ 3
    · obtain ⟨rfl, hc⟩ := h
      rw [esc_put c r hc, strip_skip, strip_keep 0 c _ (by omega), ih _ (cnt_le 0 c (by omega))]
    · have h' : z < 2 ∨ 3 < c := by omega
      rw [esc_plain z c r h', strip_keep z c _ (by omega), ih _ (cnt_le z c h')]

/-- The document's way to bring bytes back. -/
theorem unesc_of_strip (l : List Nat) : unesc 0 l = if esc 0 (strip 0 l) = l then some (strip 0 l) else none := by
  by_cases h : esc 0 (strip 0 l) = l
  · rw [if_pos h]
    have := unesc_esc (strip 0 l) 0 (by omega)
    rwa [h] at this
  · rw [if_neg h]
    cases hu : unesc 0 l with
    | none => rfl
    | some p =>
      have he := esc_unesc l 0 p (by omega) hu
      have hs := strip_esc p 0 (by omega)
      rw [he] at hs
      rw [hs] at h
      exact absurd he h

theorem strip_length (l : List Nat) : ∀ z, (strip z l).length ≤ l.length := by
  induction l with
  | nil => intro z; simp [strip]
  | cons c r ih =>
    intro z; simp only [strip]; split
    · have := ih 0; simp; omega
    · have := ih (cnt z c); simp; omega

theorem esc_length_ge (p : List Nat) : ∀ z, p.length ≤ (esc z p).length := by
  induction p with
  | nil => intro z; simp
  | cons c r ih =>
    intro z; simp only [esc]; split
    · have := ih (cnt 0 c); simp; omega
    · have := ih (cnt z c); simp; omega

theorem esc_length (p : List Nat) : ∀ z, z ≤ 2 → (esc z p).length ≤ p.length + (p.length + z) / 2 := by
  induction p with
  | nil =>
    intro z hz
    by_cases h : z = 2
    · subst h; decide
    · rw [esc_nil z (by omega)]; simp
  | cons c r ih =>
    intro z hz
    by_cases h : z = 2 ∧ c ≤ 3
    · obtain ⟨rfl, hc⟩ := h
      rw [esc_put c r hc]
      have := ih _ (cnt_le 0 c (by omega))
      have : cnt 0 c ≤ 1 := by unfold cnt; split <;> omega
      simp; omega
    · have h' : z < 2 ∨ 3 < c := by omega
      rw [esc_plain z c r h']
      have := ih _ (cnt_le z c h')
      have : cnt z c ≤ z + 1 := by unfold cnt; split <;> omega
      simp; omega

theorem unesc_length (l : List Nat) (p : List Nat) (h : unesc 0 l = some p) : p.length ≤ l.length := by
  have := esc_unesc l 0 p (by omega) h
  rw [← this]; exact esc_length_ge p 0

theorem esc_all (p : List Nat) (m : Nat) (hm : 3 < m) : ∀ z, (∀ x ∈ p, x < m) → ∀ x ∈ esc z p, x < m := by
  induction p with
  | nil =>
    intro z _ x hx
    simp only [esc] at hx; split at hx
    · simp at hx; omega
    · cases hx
  | cons c r ih =>
    intro z hp x hx
    have hc := hp c (by simp)
    have hr : ∀ y ∈ r, y < m := fun y hy => hp y (by simp [hy])
    simp only [esc] at hx; split at hx
    · simp only [List.mem_cons] at hx
      rcases hx with h | h | h
      · omega
      · omega
      · exact ih _ hr x h
    · simp only [List.mem_cons] at hx
      rcases hx with h | h
      · omega
      · exact ih _ hr x h

theorem unesc_all (l p : List Nat) (h : unesc 0 l = some p) (hl : ∀ x ∈ l, x < 256) : ∀ x ∈ p, x < 256 := by
  have he := esc_unesc l 0 p (by omega) h
  have key : ∀ (q : List Nat) (z : Nat), ∀ x ∈ q, x ∈ esc z q := by
    intro q
    induction q with
    | nil => intro z x hx; cases hx
    | cons c r ih =>
      intro z x hx
      simp only [esc]; split
      · rcases List.mem_cons.1 hx with h | h
        · simp [h]
        · simp [ih (cnt 0 c) x h]
      · rcases List.mem_cons.1 hx with h | h
        · simp [h]
        · simp [ih (cnt z c) x h]
  intro x hx
  exact hl x (by rw [← he]; exact key p 0 x hx)

theorem strip_all (l : List Nat) (m : Nat) : ∀ z, (∀ x ∈ l, x < m) → ∀ x ∈ strip z l, x < m := by
  induction l with
  | nil => intro z _ x hx; cases hx
  | cons c r ih =>
    intro z hl x hx
    have hr : ∀ y ∈ r, y < m := fun y hy => hl y (by simp [hy])
    simp only [strip] at hx; split at hx
    · exact ih 0 hr x hx
    · rcases List.mem_cons.1 hx with h | h
      · subst h; exact hl _ (by simp)
      · exact ih _ hr x h

/-- No two bytes 0 with less than 3 behind, nor at the end. -/
def calm (z : Nat) : List Nat → Prop
  | [] => z < 2
  | c :: r => (2 ≤ z → 3 ≤ c) ∧ calm (cnt z c) r

theorem esc_calm (p : List Nat) : ∀ z, z ≤ 2 → calm z (esc z p) := by
  induction p with
  | nil =>
    intro z hz
    by_cases h : z = 2
    · subst h; rw [esc_nil2]; exact ⟨fun _ => by omega, by simp [calm, cnt]⟩
    · rw [esc_nil z (by omega)]; simp [calm]; omega
  | cons c r ih =>
    intro z hz
    by_cases h : z = 2 ∧ c ≤ 3
    · obtain ⟨rfl, hc⟩ := h
      rw [esc_put c r hc]
      exact ⟨fun _ => by omega, fun h => by simp [cnt] at h, ih _ (cnt_le 0 c (by omega))⟩
    · have h' : z < 2 ∨ 3 < c := by omega
      rw [esc_plain z c r h']
      exact ⟨fun _ => by omega, ih _ (cnt_le z c h')⟩

theorem calm_at (l : List Nat) : ∀ z i, calm z l → i + 1 < l.length → l.getD i 0 = 0 → l.getD (i + 1) 0 = 0 → i + 2 < l.length ∧ 3 ≤ l.getD (i + 2) 0 := by
  induction l with
  | nil => intro z i _ h; simp at h
  | cons c r ih =>
    intro z i hc hi h0 h1
    cases i with
    | succ i =>
      obtain ⟨a, b⟩ := ih (cnt z c) i hc.2 (by simp at hi; omega) (by simpa using h0) (by simpa using h1)
      exact ⟨by simp; omega, by simpa using b⟩
    | zero =>
      cases r with
      | nil => simp at hi
      | cons d s =>
        have hc0 : c = 0 := by simpa using h0
        have hd0 : d = 0 := by simpa using h1
        subst hc0; subst hd0
        have h2 := hc.2.2
        rw [cnt_zero, cnt_zero] at h2
        cases s with
        | nil => simp [calm] at h2; omega
        | cons e t =>
          have := h2.1 (by omega)
          simpa using this

/-- Whether a start stands at the head. -/
def isStart : List Nat → Bool
  | 0 :: 0 :: 1 :: _ => true
  | _ => false

theorem isStart_short {l : List Nat} (h : l.length < 3) : isStart l = false := by
  match l, h with
  | [], _ => rfl
  | [_], _ => unfold isStart; split <;> simp_all
  | [_, _], _ => unfold isStart; split <;> simp_all

theorem isStart_at (l : List Nat) (i : Nat) : isStart (l.drop i) = decide (i + 3 ≤ l.length ∧ l.getD i 0 = 0 ∧ l.getD (i + 1) 0 = 0 ∧ l.getD (i + 2) 0 = 1) := by
  have e : ∀ k, l.getD (i + k) 0 = (l.drop i).getD k 0 := by intro k; simp [List.getD]
  have e0 := e 0
  rw [Nat.add_zero] at e0
  rw [e0, e 1, e 2]
  have hl : i + 3 ≤ l.length ↔ 3 ≤ (l.drop i).length := by simp; omega
  rw [Bool.eq_iff_iff, decide_eq_true_iff, hl]
  generalize l.drop i = m
  match m with
  | [] => simp [isStart]
  | [a] => simp [isStart]
  | [a, b] => simp [isStart]
  | a :: b :: c :: r =>
    simp only [List.length_cons, List.getD_cons_zero, List.getD_cons_succ]
    constructor
    · intro h; unfold isStart at h; split at h
      · rename_i heq; simp at heq; omega
      · cases h
    · rintro ⟨_, rfl, rfl, rfl⟩; rfl

/-- How far it is to the first start, or the end. -/
def far : List Nat → Nat
  | [] => 0
  | c :: r => if isStart (c :: r) then 0 else far r + 1

theorem far_le (l : List Nat) : far l ≤ l.length := by
  induction l with
  | nil => simp [far]
  | cons c r ih => simp only [far]; split <;> simp <;> omega

theorem far_start {l : List Nat} (h : isStart l = true) : far l = 0 := by
  cases l with
  | nil => rfl
  | cons c r => simp [far, h]

theorem far_zero {l : List Nat} (h : far l = 0) : l = [] ∨ isStart l = true := by
  cases l with
  | nil => exact .inl rfl
  | cons c r =>
    simp only [far] at h; split at h
    · exact .inr ‹_›
    · omega

theorem far_step (l : List Nat) (i : Nat) (hi : i < l.length) (h : isStart (l.drop i) = false) : far (l.drop i) = far (l.drop (i + 1)) + 1 := by
  rw [List.drop_eq_getElem_cons hi] at h ⊢
  simp only [far, h]; rfl

theorem far_short {l : List Nat} (h : l.length < 3) : far l = l.length := by
  match l, h with
  | [], _ => rfl
  | [a], _ => simp [far, isStart_short]
  | [a, b], _ => simp [far, isStart_short]

theorem far_stop (l : List Nat) : l.drop (far l) = [] ∨ isStart (l.drop (far l)) = true := by
  induction l with
  | nil => exact .inl rfl
  | cons c r ih =>
    simp only [far]; split
    · exact .inr (by simpa using ‹_›)
    · simpa using ih

/-- The units of bytes that begin with a start, or are none. -/
def splits : Nat → List Nat → Option (List (List Nat))
  | 0, _ => some []
  | _ + 1, [] => some []
  | n + 1, c :: l =>
    match unesc 0 (((c :: l).drop 3).take (far ((c :: l).drop 3))) with
    | none => none
    | some u => (splits n (((c :: l).drop 3).drop (far ((c :: l).drop 3)))).map (u :: ·)

/-- Split: the list, or none. -/
def split (l : List Nat) : Option (List (List Nat)) := if l = [] ∨ isStart l = true then splits l.length l else none

theorem splits_nil (n : Nat) : splits n [] = some [] := by cases n <;> rfl

theorem splits_cons (n : Nat) (l : List Nat) (h : l ≠ []) : splits (n + 1) l = match unesc 0 ((l.drop 3).take (far (l.drop 3))) with
    | none => none
    | some u => (splits n ((l.drop 3).drop (far (l.drop 3)))).map (u :: ·) := by
  cases l with
  | nil => exact absurd rfl h
  | cons c l => rfl

theorem splits_fuel (n : Nat) : ∀ m l, l.length ≤ n → n ≤ m → splits m l = splits n l := by
  induction n with
  | zero =>
    intro m l h _
    have : l = [] := List.eq_nil_of_length_eq_zero (by omega)
    subst this; rw [splits_nil, splits_nil]
  | succ n ih =>
    intro m l h hm
    by_cases hl : l = []
    · subst hl; rw [splits_nil, splits_nil]
    · have hp : 0 < l.length := List.length_pos_iff.2 hl
      cases m with
      | zero => omega
      | succ m =>
        rw [splits_cons m l hl, splits_cons n l hl, ih m _ (by simp; omega) (by omega)]

/-- Units, one behind the other, each behind a start. -/
def join : List (List Nat) → List Nat
  | [] => []
  | u :: r => 0 :: 0 :: 1 :: (esc 0 u ++ join r)

theorem join_append (a b : List (List Nat)) : join (a ++ b) = join a ++ join b := by
  induction a with
  | nil => rfl
  | cons u r ih => simp [join, ih, List.append_assoc]

theorem join_start (l : List (List Nat)) : join l = [] ∨ isStart (join l) = true := by
  cases l with
  | nil => exact .inl rfl
  | cons u r => exact .inr rfl

theorem join_all (l : List (List Nat)) (h : ∀ u ∈ l, ∀ x ∈ u, x < 256) : ∀ x ∈ join l, x < 256 := by
  induction l with
  | nil => intro x hx; cases hx
  | cons u r ih =>
    intro x hx
    simp only [join, List.mem_cons, List.mem_append] at hx
    rcases hx with rfl | rfl | rfl | hx | hx
    · omega
    · omega
    · omega
    · exact esc_all u 256 (by omega) 0 (h u (by simp)) x hx
    · exact ih (fun v hv => h v (by simp [hv])) x hx

theorem calm_no_start (x : List Nat) : ∀ z r, calm z x → (r = [] ∨ isStart r = true) → x ≠ [] → isStart (x ++ r) = false := by
  intro z r hc hr hx
  match x, hc with
  | [], _ => exact absurd rfl hx
  | [a], _ =>
    rcases hr with rfl | hr
    · exact isStart_short (by simp)
    · unfold isStart at hr; split at hr
      · simp only [List.cons_append, List.nil_append]; unfold isStart; split <;> simp_all
      · cases hr
  | [a, b], _ =>
    rcases hr with rfl | hr
    · exact isStart_short (by simp)
    · unfold isStart at hr; split at hr
      · simp only [List.cons_append, List.nil_append]; unfold isStart; split <;> simp_all
      · cases hr
  | a :: b :: c :: t, hc =>
    cases h : isStart (a :: b :: c :: t ++ r) with
    | false => rfl
    | true =>
      simp only [List.cons_append] at h
      unfold isStart at h; split at h
      · rename_i heq
        simp at heq
        obtain ⟨rfl, rfl, rfl, _⟩ := heq
        have := hc.2.2.1 (by rw [cnt_zero, cnt_zero]; omega)
        omega
      · cases h

theorem far_calm (x : List Nat) : ∀ z r, calm z x → (r = [] ∨ isStart r = true) → far (x ++ r) = x.length := by
  induction x with
  | nil =>
    intro z r _ hr
    rcases hr with rfl | hr
    · rfl
    · simpa using far_start hr
  | cons c t ih =>
    intro z r hc hr
    have h := calm_no_start (c :: t) z r hc hr (by simp)
    simp only [List.cons_append] at h ⊢
    simp only [far, h]
    rw [ih (cnt z c) r hc.2 hr]; rfl

theorem splits_join (l : List (List Nat)) : ∀ n, (join l).length ≤ n → splits n (join l) = some l := by
  induction l with
  | nil => intro n _; exact splits_nil n
  | cons u r ih =>
    intro n hn
    cases n with
    | zero => simp [join] at hn
    | succ n =>
      rw [splits_cons n _ (by simp [join])]
      have e : (join (u :: r)).drop 3 = esc 0 u ++ join r := rfl
      have hf := far_calm (esc 0 u) 0 (join r) (esc_calm u 0 (by omega)) (join_start r)
      rw [e, hf]
      have e1 : (esc 0 u ++ join r).take (esc 0 u).length = esc 0 u := by simp
      have e2 : (esc 0 u ++ join r).drop (esc 0 u).length = join r := by simp
      rw [e1, e2, unesc_esc u 0 (by omega)]
      dsimp only
      rw [ih n (by simp [join] at hn; omega)]
      rfl

theorem split_join (l : List (List Nat)) : split (join l) = some l := by
  unfold split
  rw [if_pos (join_start l)]
  exact splits_join l _ (Nat.le_refl _)

/-- How many starts there are. -/
def starts : List Nat → Nat
  | [] => 0
  | c :: r => (if isStart (c :: r) then 1 else 0) + starts r

theorem starts_calm (x : List Nat) : ∀ z r, calm z x → (r = [] ∨ isStart r = true) → starts (x ++ r) = starts r := by
  induction x with
  | nil => intro z r _ _; rfl
  | cons c t ih =>
    intro z r hc hr
    have h := calm_no_start (c :: t) z r hc hr (by simp)
    simp only [List.cons_append] at h ⊢
    simp only [starts, h]
    rw [ih (cnt z c) r hc.2 hr]; simp

theorem starts_join (l : List (List Nat)) : starts (join l) = l.length := by
  induction l with
  | nil => rfl
  | cons u r ih =>
    have h := starts_calm (esc 0 u) 0 (join r) (esc_calm u 0 (by omega)) (join_start r)
    have e1 : isStart (0 :: 0 :: 1 :: (esc 0 u ++ join r)) = true := rfl
    have e2 : isStart (0 :: 1 :: (esc 0 u ++ join r)) = false := rfl
    have e3 : isStart (1 :: (esc 0 u ++ join r)) = false := by unfold isStart; split <;> simp_all
    simp only [join, starts, e1, e2, e3, h, ih]
    simp; omega

theorem starts_drop (l : List Nat) (i : Nat) (h : i < l.length) : starts (l.drop i) = (if isStart (l.drop i) then 1 else 0) + starts (l.drop (i + 1)) := by
  rw [List.drop_eq_getElem_cons h]; rfl

theorem starts_short {l : List Nat} (h : l.length < 3) : starts l = 0 := by
  match l, h with
  | [], _ => rfl
  | [a], _ => simp [starts, isStart_short]
  | [a, b], _ => simp [starts, isStart_short]

theorem starts_le (l : List Nat) : starts l ≤ l.length := by
  induction l with
  | nil => simp [starts]
  | cons c r ih => simp only [starts, List.length_cons]; split <;> omega

theorem esc_high (l : List Nat) (h : ∀ x ∈ l, 4 ≤ x) : esc 0 l = l := by
  induction l with
  | nil => rfl
  | cons c r ih =>
    have hc := h c (by simp)
    rw [esc_plain 0 c r (by omega), cnt_pos 0 c (by omega), ih (fun x hx => h x (by simp [hx]))]

theorem join_length (l : List (List Nat)) (m : Nat) (h : ∀ u ∈ l, u.length ≤ m) : (join l).length ≤ l.length * (2 * m + 3) := by
  induction l with
  | nil => simp [join]
  | cons u r ih =>
    have h1 := ih (fun v hv => h v (by simp [hv]))
    have h2 := esc_length u 0 (by omega)
    have h3 := h u (by simp)
    simp only [join, List.length_cons, List.length_append]
    rw [Nat.succ_mul]; omega

theorem splits_step (l : List Nat) (p : Nat) (h : p < l.length) : splits l.length (l.drop p) =
    match unesc 0 ((l.drop (p + 3)).take (far (l.drop (p + 3)))) with
    | none => none
    | some u => (splits l.length (l.drop (p + 3 + far (l.drop (p + 3))))).map (u :: ·) := by
  cases hn : l.length with
  | zero => omega
  | succ n =>
    rw [splits_cons n (l.drop p) (fun e => by have := congrArg List.length e; simp at this; omega)]
    have e1 : (l.drop p).drop 3 = l.drop (p + 3) := by rw [List.drop_drop]
    have e2 : (l.drop (p + 3)).drop (far (l.drop (p + 3))) = l.drop (p + 3 + far (l.drop (p + 3))) := by rw [List.drop_drop]
    rw [e1, e2]
    rw [splits_fuel n (n + 1) _ (by simp; omega) (by omega)]

theorem splits_end (l : List Nat) : splits l.length (l.drop l.length) = some [] := by simp [splits_nil]

theorem drop_stop (l : List Nat) (q : Nat) : l.drop (q + far (l.drop q)) = [] ∨ isStart (l.drop (q + far (l.drop q))) = true := by
  have := far_stop (l.drop q)
  rwa [List.drop_drop] at this

theorem start_room {l : List Nat} {p : Nat} (h : l.drop p = [] ∨ isStart (l.drop p) = true) (hp : p < l.length) : p + 3 ≤ l.length := by
  rcases h with h | h
  · have := congrArg List.length h; simp at this; omega
  · rcases Nat.lt_or_ge (l.drop p).length 3 with h3 | h3
    · rw [isStart_short h3] at h; cases h
    · simp at h3; omega

theorem join_take (us : List (List Nat)) (k : Nat) (h : k < us.length) : join (us.take (k + 1)) = join (us.take k) ++ [0, 0, 1] ++ esc 0 (us.getD k []) := by
  rw [List.take_succ_eq_append_getElem h, join_append]
  simp [join, List.getD, h]

theorem join_take_length (us : List (List Nat)) (k : Nat) (h : k < us.length) : (join (us.take k)).length + 3 + (esc 0 (us.getD k [])).length ≤ (join us).length := by
  have e : us = us.take (k + 1) ++ us.drop (k + 1) := (List.take_append_drop _ _).symm
  have e2 := congrArg (fun x => (join x).length) e
  simp only [join_append, List.length_append] at e2
  have e3 := congrArg List.length (join_take us k h)
  simp only [List.length_append, List.length_cons, List.length_nil] at e3
  omega
end Go.Proofs.Ytjhghgdmjajekaa
