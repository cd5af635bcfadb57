/- Bytes that are changed by others, as lists: place by place; a burst. No program in it. -/
import Derived.Test.YtikblokigeabjaaCPure
namespace Go.Proofs.Ytikblokigeabjaa

theorem getD_ext {a b : List Nat} (hl : a.length = b.length) (h : ∀ j, j < a.length → a.getD j 0 = b.getD j 0) : a = b := by
  apply List.ext_getElem hl
  intro i h1 h2
  have := h i h1
  simpa [List.getD, h1, h2] using this

theorem xorL_length : ∀ (a b : List Nat), (xorL a b).length = min a.length b.length := by
  intro a
  induction a with
  | nil => intro b; cases b <;> simp [xorL]
  | cons x r ih =>
    intro b
    cases b with
    | nil => simp [xorL]
    | cons y s => simp only [xorL, List.length_cons]; rw [ih s]; omega

theorem xorL_getD : ∀ (a b : List Nat) (j : Nat), j < min a.length b.length → (xorL a b).getD j 0 = a.getD j 0 ^^^ b.getD j 0 := by
  intro a
  induction a with
  | nil => intro b j h; simp at h
  | cons x r ih =>
    intro b j h
    cases b with
    | nil => simp at h
    | cons y s =>
      cases j with
      | zero => simp [xorL]
      | succ j =>
        have := ih s j (by simp at h ⊢; omega)
        simpa [xorL, List.getD] using this

theorem xorL_take (a b : List Nat) (n : Nat) (hn : n = min a.length b.length) : xorL (a.take n) (b.take n) = xorL a b := by
  apply getD_ext
  · rw [xorL_length, xorL_length, List.length_take, List.length_take]; omega
  · intro j hj
    rw [xorL_length, List.length_take, List.length_take] at hj
    rw [xorL_getD _ _ _ (by rw [List.length_take, List.length_take]; exact hj), xorL_getD _ _ _ (by omega)]
    have h1 : j < n := by omega
    simp [List.getD, h1]

theorem xorL_lt {a b : List Nat} (ha : ∀ x ∈ a, x < 256) (hb : ∀ x ∈ b, x < 256) : ∀ x ∈ xorL a b, x < 256 := by
  revert b
  induction a with
  | nil => intro b _ x hx; cases b <;> cases hx
  | cons p r ih =>
    intro b hb x hx
    cases b with
    | nil => cases hx
    | cons q s =>
      simp only [xorL, List.mem_cons] at hx
      rcases hx with rfl | hx
      · exact Nat.xor_lt_two_pow (n := 8) (ha p (by simp)) (hb q (by simp))
      · exact ih (fun z hz => ha z (by simp [hz])) (fun z hz => hb z (by simp [hz])) x hx

/-- What is filled in so far. -/
def fill (X : List Nat) (k : Nat) : List Nat := X.take k ++ List.replicate (X.length - k) 0

theorem fill_zero (X : List Nat) : fill X 0 = List.replicate X.length 0 := by simp [fill]
theorem fill_all (X : List Nat) : fill X X.length = X := by simp [fill]
theorem fill_length (X : List Nat) (k : Nat) (h : k ≤ X.length) : (fill X k).length = X.length := by simp [fill]; omega
theorem fill_set (X : List Nat) (k : Nat) (h : k < X.length) : (fill X k).set k (X.getD k 0) = fill X (k + 1) := by
  unfold fill
  rw [List.set_append]
  have hl : (X.take k).length = k := by simp; omega
  rw [if_neg (by omega), hl, Nat.sub_self, show X.length - k = (X.length - (k + 1)) + 1 by omega, List.replicate_succ, List.set_cons_zero]
  have e := List.take_add_one (l := X) (i := k)
  rw [List.getElem?_eq_getElem h] at e
  have hg : X.getD k 0 = X[k] := by simp [List.getD, h]
  rw [e, hg, List.append_assoc]
  rfl

/-- A burst: k bytes of d from p on, among n. -/
def burst (n p k : Nat) (d : List Nat) : List Nat := List.replicate p 0 ++ d.take k ++ List.replicate (n - p - k) 0

theorem burst_length (n p k : Nat) (d : List Nat) (hk : k ≤ d.length) (hn : p + k ≤ n) : (burst n p k d).length = n := by simp [burst]; omega

theorem burst_getD (n p k : Nat) (d : List Nat) (hk : k ≤ d.length) (j : Nat) : (burst n p k d).getD j 0 = if p ≤ j ∧ j < p + k then d.getD (j - p) 0 else 0 := by
  have hl : (List.replicate p 0 ++ d.take k).length = p + k := by simp; omega
  unfold burst
  rw [List.getD, List.getElem?_append, hl]
  by_cases h1 : j < p + k
  · rw [if_pos h1, List.getElem?_append, List.length_replicate]
    by_cases h2 : j < p
    · rw [if_pos h2, if_neg (by omega), List.getElem?_replicate]; simp [h2]
    · have h3 : j - p < k := by omega
      rw [if_neg h2, if_pos (by omega), List.getElem?_take, if_pos h3, List.getD]
  · rw [if_neg h1, if_neg (by omega), List.getElem?_replicate]
    split <;> rfl

theorem xorL_zeros (l : List Nat) : xorL l (List.replicate l.length 0) = l := by
  apply getD_ext
  · rw [xorL_length]; simp
  · intro j hj
    rw [xorL_length] at hj
    rw [xorL_getD _ _ _ hj]
    have : (List.replicate l.length 0).getD j 0 = 0 := by rw [List.getD, List.getElem?_replicate]; split <;> rfl
    rw [this, Nat.xor_zero]

/-- Bytes of which a burst is others have another sum. -/
theorem more_turns (poly : Nat) (hp : poly < 2 ^ 32) (ht : poly.testBit 31 = true) (l c d : List Nat) (p k : Nat) (hl : ∀ x ∈ l, x < 256) (hd : ∀ x ∈ d, x < 256) (hk : k ≤ d.length) (hd4 : d.length ≤ 4) (hn : p + k ≤ l.length) (hcl : c.length = l.length)
    (hc : ∀ j, j < l.length → c.getD j 0 = l.getD j 0 ^^^ (if p ≤ j ∧ j < p + k then d.getD (j - p) 0 else 0)) : more poly 0 c = more poly 0 l ↔ c = l := by
  have hbl := burst_length l.length p k d hk hn
  have e : c = xorL l (burst l.length p k d) := by
    apply getD_ext
    · rw [xorL_length, hbl, hcl]; omega
    · intro j hj
      rw [hcl] at hj
      rw [xorL_getD _ _ _ (by rw [hbl]; omega), burst_getD _ _ _ _ hk]
      exact hc j hj
  constructor
  · intro h
    have hb : ∀ x ∈ burst l.length p k d, x < 256 := by
      intro x hx
      unfold burst at hx
      simp only [List.mem_append, List.mem_replicate] at hx
      rcases hx with (⟨_, rfl⟩ | hx) | ⟨_, rfl⟩
      · decide
      · exact hd x (List.mem_of_mem_take hx)
      · decide
    have hr := run_xor poly l (burst l.length p k d) ones 0 hbl.symm hl hb
    rw [Nat.xor_zero, ← e] at hr
    have h1 : run poly ones c = run poly ones l := by
      have e2 : ∀ m, run poly ones m = more poly 0 m ^^^ ones := fun m => by
        show _ = run poly (0 ^^^ ones) m ^^^ ones ^^^ ones
        rw [xor_twice, Nat.zero_xor]
      rw [e2, e2, h]
    rw [h1] at hr
    have h0 : run poly 0 (burst l.length p k d) = 0 := by
      have : run poly ones l ^^^ run poly ones l = run poly ones l ^^^ (run poly ones l ^^^ run poly 0 (burst l.length p k d)) := by rw [← hr]
      rw [Nat.xor_self, ← Nat.xor_assoc, Nat.xor_self, Nat.zero_xor] at this
      exact this.symm
    have hz := run_burst poly hp ht p (l.length - p - k) (d.take k) (fun x hx => hd x (List.mem_of_mem_take hx)) (by rw [List.length_take]; omega) h0
    apply getD_ext hcl
    intro j hj
    rw [hcl] at hj
    rw [hc j hj]
    split
    · rename_i hpk
      have hm : d.getD (j - p) 0 ∈ d.take k := by
        rw [List.mem_iff_getElem?]
        refine ⟨j - p, ?_⟩
        rw [List.getElem?_take, if_pos (by omega), List.getD, List.getElem?_eq_getElem (by omega)]
        rfl
      rw [hz _ hm, Nat.xor_zero]
    · rw [Nat.xor_zero]
  · intro h; rw [h]
end Go.Proofs.Ytikblokigeabjaa
