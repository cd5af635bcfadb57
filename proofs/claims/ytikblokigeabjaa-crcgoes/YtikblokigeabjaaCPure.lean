/- Check sums as numbers: a step, eight of them, a byte more, bytes; they add up, and by a polynomial whose highest bit is set none is lost. No program in it. -/
namespace Go.Proofs.Ytikblokigeabjaa

/-- One halving: changed by the polynomial if it was odd. -/
def half (poly n : Nat) : Nat := if n % 2 = 1 then n / 2 ^^^ poly else n / 2

/-- Some halvings. -/
def halves (poly : Nat) : Nat → Nat → Nat
  | 0, n => n
  | k + 1, n => halves poly k (half poly n)

theorem half_zero (poly : Nat) : half poly 0 = 0 := by simp [half]

theorem half_xor (poly a b : Nat) : half poly (a ^^^ b) = half poly a ^^^ half poly b := by
  have h2 : (a ^^^ b) / 2 = a / 2 ^^^ b / 2 := Nat.xor_div_two
  have hm : (a ^^^ b) % 2 = (a % 2 + b % 2) % 2 := by
    have := Nat.xor_mod_two_pow (a := a) (b := b) (n := 1)
    simp only [Nat.pow_one] at this
    rw [this]
    rcases Nat.mod_two_eq_zero_or_one a with h | h <;> rcases Nat.mod_two_eq_zero_or_one b with h' | h' <;> rw [h, h'] <;> rfl
  unfold half
  rw [h2, hm]
  rcases Nat.mod_two_eq_zero_or_one a with h | h <;> rcases Nat.mod_two_eq_zero_or_one b with h' | h' <;> rw [h, h']
  · simp
  · simp [Nat.xor_assoc]
  · simp only [Nat.add_zero, Nat.one_mod, if_true, Nat.zero_ne_one, if_false]
    rw [Nat.xor_assoc, Nat.xor_assoc, Nat.xor_comm poly]
  · simp only [Nat.reduceAdd, Nat.mod_self, Nat.zero_ne_one, if_false, if_true]
    rw [Nat.xor_assoc, ← Nat.xor_assoc poly, Nat.xor_comm poly, Nat.xor_assoc (b / 2), Nat.xor_self, Nat.xor_zero]

theorem halves_zero (poly : Nat) : ∀ k, halves poly k 0 = 0 := by
  intro k
  induction k with
  | zero => rfl
  | succ k ih => rw [halves, half_zero, ih]

theorem halves_xor (poly : Nat) : ∀ k a b, halves poly k (a ^^^ b) = halves poly k a ^^^ halves poly k b := by
  intro k
  induction k with
  | zero => intro a b; rfl
  | succ k ih => intro a b; rw [halves, half_xor, ih]; rfl

theorem halves_add (poly : Nat) : ∀ j k n, halves poly (j + k) n = halves poly k (halves poly j n) := by
  intro j
  induction j with
  | zero => intro k n; rw [Nat.zero_add]; rfl
  | succ j ih => intro k n; rw [Nat.add_right_comm, halves, ih]; rfl

theorem half_lt (poly n : Nat) (hp : poly < 2 ^ 32) (hn : n < 2 ^ 32) : half poly n < 2 ^ 32 := by
  unfold half
  split
  · exact Nat.xor_lt_two_pow (by omega) hp
  · omega

theorem halves_lt (poly : Nat) (hp : poly < 2 ^ 32) : ∀ k n, n < 2 ^ 32 → halves poly k n < 2 ^ 32 := by
  intro k
  induction k with
  | zero => intro n h; exact h
  | succ k ih => intro n h; exact ih _ (half_lt poly n hp h)

/-- A number of which the lowest bits are 0 is just shifted. -/
theorem halves_shift (poly : Nat) : ∀ k n, halves poly k (n * 2 ^ k) = n := by
  intro k
  induction k with
  | zero => intro n; simp [halves]
  | succ k ih =>
    intro n
    have e : half poly (n * 2 ^ (k + 1)) = n * 2 ^ k := by
      unfold half
      have h : n * 2 ^ (k + 1) = 2 * (n * 2 ^ k) := by rw [Nat.pow_succ]; rw [Nat.mul_comm 2, Nat.mul_assoc]
      rw [h, if_neg (by omega)]; omega
    rw [halves, e, ih]

/-- The number of a table. -/
def tab (poly n : Nat) : Nat := halves poly 8 n

theorem tab_xor (poly a b : Nat) : tab poly (a ^^^ b) = tab poly a ^^^ tab poly b := halves_xor poly 8 a b
theorem tab_zero (poly : Nat) : tab poly 0 = 0 := halves_zero poly 8
theorem tab_128 (poly : Nat) : tab poly 128 = poly := by
  have e : (128 : Nat) = 1 * 2 ^ 7 := rfl
  unfold tab
  rw [show (8 : Nat) = 7 + 1 from rfl, halves_add, e, halves_shift]
  simp [halves, half]
theorem tab_lt (poly n : Nat) (hp : poly < 2 ^ 32) (hn : n < 2 ^ 32) : tab poly n < 2 ^ 32 := halves_lt poly hp 8 n hn

theorem split256 (n : Nat) : n = (n / 256 * 2 ^ 8) ^^^ (n % 256) := by
  have h := Nat.two_pow_add_eq_or_of_lt (i := 8) (b := n % 256) (Nat.mod_lt _ (by decide)) (n / 256)
  have h2 := Nat.div_add_mod n 256
  apply Nat.eq_of_testBit_eq
  intro i
  rw [Nat.testBit_xor, Nat.testBit_mul_two_pow]
  have hm : n % 256 = n % 2 ^ 8 := rfl
  have hd : n / 256 = n / 2 ^ 8 := rfl
  rw [hm, hd, Nat.testBit_mod_two_pow, Nat.testBit_div_two_pow]
  by_cases hi : 8 ≤ i
  · have : ¬ i < 8 := by omega
    have e : i - 8 + 8 = i := by omega
    simp [hi, this, e]
  · have : i < 8 := by omega
    simp [hi, this]

/-- Eight halvings, by a table of a byte. -/
theorem tab_all (poly n : Nat) : tab poly n = tab poly (n % 256) ^^^ n / 256 := by
  conv => lhs; rw [split256 n]
  rw [tab_xor, Nat.xor_comm]
  congr 1
  exact halves_shift poly 8 (n / 256)

/-- A byte more. -/
def upd (poly n b : Nat) : Nat := tab poly ((n ^^^ b) % 256) ^^^ n / 256

theorem upd_tab (poly n b : Nat) (hb : b < 256) : upd poly n b = tab poly (n ^^^ b) := by
  rw [tab_all poly (n ^^^ b)]
  unfold upd
  have e : (n ^^^ b) / 256 = n / 256 := by
    have h : (n ^^^ b) / 2 ^ 8 = n / 2 ^ 8 ^^^ b / 2 ^ 8 := Nat.xor_div_two_pow
    have hb0 : b / 2 ^ 8 = 0 := Nat.div_eq_of_lt hb
    rw [hb0, Nat.xor_zero] at h
    exact h
  rw [e]

/-- Bytes more. -/
def run (poly n : Nat) : List Nat → Nat
  | [] => n
  | b :: r => run poly (upd poly n b) r

theorem run_append (poly : Nat) : ∀ (a b : List Nat) (n : Nat), run poly n (a ++ b) = run poly (run poly n a) b := by
  intro a
  induction a with
  | nil => intro b n; rfl
  | cons x r ih => intro b n; exact ih b _

theorem upd_lt (poly n b : Nat) (hp : poly < 2 ^ 32) (hn : n < 2 ^ 32) (hb : b < 256) : upd poly n b < 2 ^ 32 := by
  rw [upd_tab poly n b hb]
  exact tab_lt poly _ hp (Nat.xor_lt_two_pow hn (by omega))

theorem run_lt (poly : Nat) (hp : poly < 2 ^ 32) : ∀ (l : List Nat) (n : Nat), (∀ x ∈ l, x < 256) → n < 2 ^ 32 → run poly n l < 2 ^ 32 := by
  intro l
  induction l with
  | nil => intro n _ h; exact h
  | cons x r ih => intro n hl h; exact ih _ (fun y hy => hl y (by simp [hy])) (upd_lt poly n x hp h (hl x (by simp)))

/-- The mask. -/
def ones : Nat := 4294967295

/-- The sum of bytes behind a sum. -/
def more (poly s : Nat) (l : List Nat) : Nat := run poly (s ^^^ ones) l ^^^ ones

theorem more_lt (poly s : Nat) (l : List Nat) (hp : poly < 2 ^ 32) (hs : s < 2 ^ 32) (hl : ∀ x ∈ l, x < 256) : more poly s l < 2 ^ 32 :=
  Nat.xor_lt_two_pow (run_lt poly hp l _ hl (Nat.xor_lt_two_pow hs (by decide))) (by decide)

theorem xor_twice (a b : Nat) : a ^^^ b ^^^ b = a := by rw [Nat.xor_assoc, Nat.xor_self, Nat.xor_zero]

theorem more_nil (poly s : Nat) : more poly s [] = s := xor_twice s ones

theorem more_append (poly s : Nat) (a b : List Nat) : more poly s (a ++ b) = more poly (more poly s a) b := by
  unfold more
  rw [run_append, xor_twice]

/-- Two lists of bytes, changed by one another. -/
def xorL : List Nat → List Nat → List Nat
  | x :: a, y :: b => (x ^^^ y) :: xorL a b
  | _, _ => []

theorem upd_xor (poly n m x y : Nat) (hx : x < 256) (hy : y < 256) : upd poly (n ^^^ m) (x ^^^ y) = upd poly n x ^^^ upd poly m y := by
  rw [upd_tab _ _ _ (Nat.xor_lt_two_pow (n := 8) hx hy), upd_tab _ _ _ hx, upd_tab _ _ _ hy, ← tab_xor]
  congr 1
  rw [Nat.xor_assoc, Nat.xor_assoc, ← Nat.xor_assoc m, Nat.xor_comm m, Nat.xor_assoc x]

theorem run_xor (poly : Nat) : ∀ (a b : List Nat) (n m : Nat), a.length = b.length → (∀ x ∈ a, x < 256) → (∀ x ∈ b, x < 256) → run poly (n ^^^ m) (xorL a b) = run poly n a ^^^ run poly m b := by
  intro a
  induction a with
  | nil => intro b n m hl _ _; cases b with | nil => rfl | cons y r => simp at hl
  | cons x r ih =>
    intro b n m hl ha hb
    cases b with
    | nil => simp at hl
    | cons y s =>
      show run poly (upd poly (n ^^^ m) (x ^^^ y)) (xorL r s) = _
      rw [upd_xor poly n m x y (ha x (by simp)) (hb y (by simp))]
      exact ih s _ _ (by simpa using hl) (fun z hz => ha z (by simp [hz])) (fun z hz => hb z (by simp [hz]))

theorem more_adds (poly : Nat) (a b : List Nat) (hl : a.length = b.length) (ha : ∀ x ∈ a, x < 256) (hb : ∀ x ∈ b, x < 256) :
    more poly 0 (xorL a b) = more poly 0 a ^^^ more poly 0 b ^^^ more poly 0 (List.replicate a.length 0) := by
  have hz : ∀ x ∈ List.replicate a.length 0, x < 256 := by intro x hx; have := (List.mem_replicate.1 hx).2; omega
  have e1 : xorL (xorL a b) (List.replicate a.length 0) = xorL a b := by
    have key : ∀ (a b : List Nat), a.length = b.length → xorL (xorL a b) (List.replicate a.length 0) = xorL a b := by
      intro a
      induction a with
      | nil => intro b _; cases b <;> rfl
      | cons x r ih =>
        intro b hl
        cases b with
        | nil => simp at hl
        | cons y s => simp only [xorL, List.length_cons, List.replicate_succ, Nat.xor_zero]; rw [ih s (by simpa using hl)]
    exact key a b hl
  have hxl : (xorL a b).length = a.length := by
    have key : ∀ (a b : List Nat), a.length = b.length → (xorL a b).length = a.length := by
      intro a
      induction a with
      | nil => intro b _; cases b <;> rfl
      | cons x r ih =>
        intro b hl
        cases b with
        | nil => simp at hl
        | cons y s => simp only [xorL, List.length_cons]; rw [ih s (by simpa using hl)]
    exact key a b hl
  have hx : ∀ x ∈ xorL a b, x < 256 := by
    have key : ∀ (a b : List Nat), (∀ x ∈ a, x < 256) → (∀ x ∈ b, x < 256) → ∀ x ∈ xorL a b, x < 256 := by
      intro a
      induction a with
      | nil => intro b _ _ x hx; cases b <;> cases hx
      | cons p r ih =>
        intro b ha hb x hx
        cases b with
        | nil => cases hx
        | cons q s =>
          simp only [xorL, List.mem_cons] at hx
          rcases hx with rfl | hx
          · exact Nat.xor_lt_two_pow (n := 8) (ha p (by simp)) (hb q (by simp))
          · exact ih s (fun z hz => ha z (by simp [hz])) (fun z hz => hb z (by simp [hz])) x hx
    exact key a b ha hb
  have hr := run_xor poly (xorL a b) (List.replicate a.length 0) (ones ^^^ ones) ones (by simp [hxl]) hx hz
  rw [e1, run_xor poly a b ones ones hl ha hb] at hr
  have e0 : ones ^^^ ones ^^^ ones = ones := xor_twice ones ones
  rw [e0] at hr
  unfold more
  simp only [Nat.zero_xor]
  rw [hr]
  generalize run poly ones a = A
  generalize run poly ones b = B
  generalize run poly ones (List.replicate a.length 0) = Z
  -- three times the mask is the mask
  apply Nat.eq_of_testBit_eq
  intro i
  simp only [Nat.testBit_xor]
  cases A.testBit i <;> cases B.testBit i <;> cases Z.testBit i <;> cases ones.testBit i <;> rfl

theorem xor_zero_eq {a b : Nat} (h : a ^^^ b = 0) : a = b := by
  have e := xor_twice a b
  rw [h, Nat.zero_xor] at e
  exact e.symm

/-- By a polynomial whose highest bit is set no halving loses anything. -/
theorem half_inj (poly n : Nat) (ht : poly.testBit 31 = true) (hn : n < 2 ^ 32) (h : half poly n = 0) : n = 0 := by
  unfold half at h
  split at h
  · exfalso
    have hb : (n / 2 ^^^ poly).testBit 31 = false := by rw [h]; exact Nat.zero_testBit 31
    rw [Nat.testBit_xor, ht, Nat.testBit_lt_two_pow (show n / 2 < 2 ^ 31 by omega)] at hb
    cases hb
  · omega

theorem halves_inj (poly : Nat) (hp : poly < 2 ^ 32) (ht : poly.testBit 31 = true) : ∀ k n, n < 2 ^ 32 → halves poly k n = 0 → n = 0 := by
  intro k
  induction k with
  | zero => intro n _ h; exact h
  | succ k ih => intro n hn h; exact half_inj poly n ht hn (ih _ (half_lt poly n hp hn) h)

/-- Bytes as a number, the lowest first. -/
def low : List Nat → Nat
  | [] => 0
  | b :: r => b ^^^ (low r * 2 ^ 8)

theorem low_lt : ∀ (l : List Nat), (∀ x ∈ l, x < 256) → low l < 2 ^ (8 * l.length) := by
  intro l
  induction l with
  | nil => intro _; simp [low]
  | cons b r ih =>
    intro h
    have h1 := ih (fun x hx => h x (by simp [hx]))
    have hb := h b (by simp)
    have e : 8 * (b :: r).length = 8 * r.length + 8 := by simp; omega
    show b ^^^ (low r * 2 ^ 8) < _
    rw [e]
    refine Nat.xor_lt_two_pow (Nat.lt_of_lt_of_le hb ?_) ?_
    · have := Nat.pow_le_pow_right (n := 2) (by decide) (show 8 ≤ 8 * r.length + 8 by omega)
      simpa using this
    · rw [Nat.pow_add]; exact Nat.mul_lt_mul_of_pos_right h1 (by decide)

/-- Bytes more are halvings of the number that they are, with what was there. -/
theorem run_low (poly : Nat) : ∀ (l : List Nat) (n : Nat), (∀ x ∈ l, x < 256) → run poly n l = halves poly (8 * l.length) (n ^^^ low l) := by
  intro l
  induction l with
  | nil => intro n _; simp [run, low, halves]
  | cons b r ih =>
    intro n h
    have hb := h b (by simp)
    show run poly (upd poly n b) r = _
    rw [ih _ (fun x hx => h x (by simp [hx])), upd_tab poly n b hb]
    have e : 8 * (b :: r).length = 8 + 8 * r.length := by simp; omega
    rw [e, halves_add]
    congr 1
    show _ = halves poly 8 (n ^^^ (b ^^^ (low r * 2 ^ 8)))
    rw [← Nat.xor_assoc, halves_xor poly 8 (n ^^^ b), halves_shift]
    rfl

theorem low_zero : ∀ (l : List Nat), (∀ x ∈ l, x < 256) → low l = 0 → ∀ x ∈ l, x = 0 := by
  intro l
  induction l with
  | nil => intro _ _ x hx; cases hx
  | cons b r ih =>
    intro h h0 x hx
    have hb := h b (by simp)
    have h0' : b ^^^ (low r * 2 ^ 8) = 0 := h0
    have hbl : b = low r * 2 ^ 8 := xor_zero_eq h0'
    have hl0 : low r = 0 := by omega
    have hb0 : b = 0 := by rw [hl0] at hbl; omega
    rcases List.mem_cons.1 hx with rfl | hx
    · exact hb0
    · exact ih (fun y hy => h y (by simp [hy])) hl0 x hx

theorem run_zeros (poly : Nat) : ∀ k n, run poly n (List.replicate k 0) = halves poly (8 * k) n := by
  intro k n
  have := run_low poly (List.replicate k 0) n (by intro x hx; have := (List.mem_replicate.1 hx).2; omega)
  rw [this]
  have hz : ∀ k, low (List.replicate k 0) = 0 := by
    intro k
    induction k with
    | zero => rfl
    | succ k ih => show 0 ^^^ (low (List.replicate k 0) * 2 ^ 8) = 0; rw [ih]; rfl
  rw [hz, Nat.xor_zero, List.length_replicate]

/-- Up to four bytes side by side that are not all 0, among bytes 0, leave something. -/
theorem run_burst (poly : Nat) (hp : poly < 2 ^ 32) (ht : poly.testBit 31 = true) (j k : Nat) (d : List Nat) (hd : ∀ x ∈ d, x < 256) (hl : d.length ≤ 4)
    (h : run poly 0 (List.replicate j 0 ++ d ++ List.replicate k 0) = 0) : ∀ x ∈ d, x = 0 := by
  rw [run_append, run_append, run_zeros poly k, run_zeros poly j, halves_zero, run_low poly d 0 hd, Nat.zero_xor] at h
  have hlow : low d < 2 ^ 32 := Nat.lt_of_lt_of_le (low_lt d hd) (Nat.pow_le_pow_right (by decide) (by omega))
  have h1 := halves_inj poly hp ht _ _ (halves_lt poly hp _ _ hlow) h
  have h2 := halves_inj poly hp ht _ _ hlow h1
  exact low_zero d hd h2

/-- A byte more tells unlike numbers apart. -/
theorem upd_inj (poly : Nat) (hp : poly < 2 ^ 32) (ht : poly.testBit 31 = true) (n m b : Nat) (hn : n < 2 ^ 32) (hm : m < 2 ^ 32) (hb : b < 256) (h : upd poly n b = upd poly m b) : n = m := by
  have h0 : upd poly n b ^^^ upd poly m b = 0 := by rw [h, Nat.xor_self]
  rw [← upd_xor poly n m b b hb hb, Nat.xor_self, upd_tab _ _ _ (by decide), Nat.xor_zero] at h0
  have := halves_inj poly hp ht 8 _ (Nat.xor_lt_two_pow hn hm) h0
  exact xor_zero_eq this
end Go.Proofs.Ytikblokigeabjaa
