/- Qualities as numbers: steps, levels, what they stand for. No program in it but blocks. -/
import Derived.Test.YtnlpiafgbeknhaaDoorWMore
import Derived.Test.YtnlpiafgbeknhaaDoorWx
namespace Go.Proofs.YtnlpiafgbeknhaaDoor

def stl : List Int := [1, 2, 3, 4, 5, 6, 8, 10, 12, 16, 20, 24, 32, 40, 48, 64, 80, 96, 128, 160, 192]
def stp (q : Int) : Int := if 0 ≤ q ∧ q ≤ 20 then stl.getD q.toNat 0 else 0
def ern (q : Int) : Int := if 0 ≤ q ∧ q ≤ 20 then 0 else 50
theorem ern_ok {q : Int} (h : 0 ≤ q ∧ q ≤ 20) : ern q = 0 := if_pos h
theorem ern_no {q : Int} (h : ¬ (0 ≤ q ∧ q ≤ 20)) : ern q = 50 := if_neg h
theorem stp_ok {q : Int} (h : 0 ≤ q ∧ q ≤ 20) : stp q = stl.getD q.toNat 0 := if_pos h
theorem stp_no {q : Int} (h : ¬ (0 ≤ q ∧ q ≤ 20)) : stp q = 0 := if_neg h
theorem ern_iff {q : Int} (h : ern q = 0) : 0 ≤ q ∧ q ≤ 20 := by
  by_cases c : 0 ≤ q ∧ q ≤ 20
  · exact c
  · rw [ern_no c] at h; omega
theorem stl_le : ∀ k, k < 21 → 1 ≤ stl.getD k 0 ∧ stl.getD k 0 ≤ 192 := by decide
theorem stp_le {q : Int} (h : ern q = 0) : 1 ≤ stp q ∧ stp q ≤ 192 := by
  have h1 := ern_iff h
  rw [stp_ok h1]
  exact stl_le _ (by omega)
theorem stp_any (q : Int) : 0 ≤ stp q ∧ stp q ≤ 192 := by
  by_cases c : 0 ≤ q ∧ q ≤ 20
  · have := stp_le (ern_ok c); omega
  · rw [stp_no c]; omega
theorem stp_nat {k : Nat} (h : k < 21) : stp (k : Int) = stl.getD k 0 := by rw [stp_ok (by omega)]; rfl
theorem stl_up : ∀ k, k < 21 → ∀ m, m < 21 → k ≤ m → stl.getD k 0 ≤ stl.getD m 0 := by decide
theorem stl_more : ∀ k, k < 20 → stl.getD k 0 < stl.getD (k + 1) 0 := by decide

/-- How many steps are nearest. -/
def lev (n s : Int) : Int := if n < 0 then -((-n + s / 2) / s) else (n + s / 2) / s
def mulF (n s : Int) : Int := n * s

theorem div_in {m s : Int} (hs : 1 ≤ s) (hm : 0 ≤ m) : 0 ≤ m / s ∧ m / s ≤ m ∧ s * (m / s) ≤ m ∧ m < s * (m / s) + s := by
  refine ⟨Int.ediv_nonneg hm (by omega), Int.ediv_le_self _ hm, Int.mul_ediv_self_le (by omega), ?_⟩
  have := Int.lt_mul_ediv_self_add (x := m) (k := s) (by omega)
  exact this
theorem lev_le {n s : Int} (hn : -1048576 ≤ n ∧ n ≤ 1048576) (hs : 1 ≤ s ∧ s ≤ 192) : -1048672 ≤ lev n s ∧ lev n s ≤ 1048672 := by
  unfold lev
  split
  · have := div_in (m := -n + s / 2) hs.1 (by omega); omega
  · have := div_in (m := n + s / 2) hs.1 (by omega); omega
theorem lev_neg {n s : Int} (h : n < 0) (hs : 1 ≤ s) : Int.tdiv (n - s / 2) s = lev n s := by
  unfold lev
  rw [if_pos h]
  have e1 := Int.neg_tdiv (a := -n + s / 2) (b := s)
  rw [show n - s / 2 = -(-n + s / 2) by omega, e1, Int.tdiv_eq_ediv_of_nonneg (by omega)]
theorem lev_pos {n s : Int} (h : ¬ n < 0) (hs : 1 ≤ s) : Int.tdiv (n + s / 2) s = lev n s := by
  unfold lev
  rw [if_neg h, Int.tdiv_eq_ediv_of_nonneg (by omega)]

theorem mul_in {n s : Int} (hn : -1048576 ≤ n ∧ n ≤ 1048576) (hs : 1 ≤ s ∧ s ≤ 192) : -201326592 ≤ mulF n s ∧ mulF n s ≤ 201326592 := by
  unfold mulF
  have h1 : n * s ≤ 1048576 * s := Int.mul_le_mul_of_nonneg_right hn.2 (by omega)
  have h2 : -1048576 * s ≤ n * s := Int.mul_le_mul_of_nonneg_right hn.1 (by omega)
  omega
theorem lev_zero (s : Int) (hs : 1 ≤ s) : lev 0 s = 0 := by
  unfold lev
  rw [if_neg (by omega)]
  exact Int.ediv_eq_zero_of_lt (by omega) (by omega)
theorem lev_odd (n s : Int) (hs : 1 ≤ s) : lev (-n) s = -(lev n s) := by
  rcases Int.lt_trichotomy n 0 with h | h | h
  · unfold lev; rw [if_neg (by omega), if_pos h, Int.neg_neg]
  · subst h; rw [Int.neg_zero, lev_zero s hs]; rfl
  · unfold lev; rw [if_pos (by omega), if_neg (by omega), Int.neg_neg]
theorem lev_sign {n s : Int} (hs : 1 ≤ s) : (0 ≤ n → 0 ≤ lev n s) ∧ (n ≤ 0 → lev n s ≤ 0) := by
  have key : ∀ m : Int, 0 ≤ m → 0 ≤ lev m s := fun m hm => by
    unfold lev; rw [if_neg (by omega)]
    exact (div_in hs (by omega)).1
  refine ⟨key n, fun h => ?_⟩
  have h1 := key (-n) (by omega)
  rw [lev_odd n s hs] at h1
  omega
theorem lev_mono {n m s : Int} (hs : 1 ≤ s) (h : n ≤ m) : lev n s ≤ lev m s := by
  have key : ∀ a b : Int, 0 ≤ a → a ≤ b → lev a s ≤ lev b s := fun a b ha hb => by
    unfold lev; rw [if_neg (by omega), if_neg (by omega)]
    exact Int.ediv_le_ediv (by omega) (by omega)
  by_cases h1 : 0 ≤ n
  · exact key n m h1 h
  · by_cases h2 : m ≤ 0
    · have h3 := key (-m) (-n) (by omega) (by omega)
      rw [lev_odd m s hs, lev_odd n s hs] at h3
      omega
    · have h3 := (lev_sign (n := n) hs).2 (by omega)
      have h4 := (lev_sign (n := m) hs).1 (by omega)
      omega
/-- What a level stands for is at most half of the step beside. -/
theorem lev_near {n s : Int} (hs : 1 ≤ s) : -(s / 2) ≤ lev n s * s - n ∧ lev n s * s - n ≤ s / 2 := by
  unfold lev
  split
  · have h1 := div_in (m := -n + s / 2) hs (by omega)
    rw [Int.neg_mul, Int.mul_comm]
    omega
  · have h1 := div_in (m := n + s / 2) hs (by omega)
    rw [Int.mul_comm]
    omega
theorem lev_mul (l s : Int) (hs : 1 ≤ s) : lev (l * s) s = l := by
  have key : ∀ l : Int, 0 ≤ l → lev (l * s) s = l := fun l hl => by
    have h0 : 0 ≤ l * s := Int.mul_nonneg hl (by omega)
    unfold lev
    rw [if_neg (by omega), Int.add_comm, Int.add_mul_ediv_right _ _ (by omega), Int.ediv_eq_zero_of_lt (by omega) (by omega)]
    omega
  by_cases h : 0 ≤ l
  · exact key l h
  · have h1 := key (-l) (by omega)
    rw [Int.neg_mul, lev_odd _ s hs] at h1
    omega
theorem lev_one (n : Int) : lev n 1 = n := by unfold lev; split <;> simp
theorem lev_little {n s : Int} (hs : 1 ≤ s) : lev n s = 0 ↔ max n (-n) < s - s / 2 := by
  have key : ∀ m : Int, 0 ≤ m → (lev m s = 0 ↔ m < s - s / 2) := fun m hm => by
    unfold lev; rw [if_neg (by omega)]
    have h1 := div_in (m := m + s / 2) hs (by omega)
    constructor
    · intro h; rw [h] at h1; omega
    · intro h; exact Int.ediv_eq_zero_of_lt (by omega) (by omega)
  by_cases h : 0 ≤ n
  · rw [key n h]; omega
  · have h1 := key (-n) (by omega)
    rw [lev_odd n s hs] at h1
    omega
/-- By a coarser step no level is greater. -/
theorem lev_coarse {n s t : Int} (hs : 1 ≤ s) (hst : s ≤ t) : max (lev n t) (-(lev n t)) ≤ max (lev n s) (-(lev n s)) := by
  have key : ∀ m : Int, 0 ≤ m → lev m t ≤ lev m s := fun m hm => by
    unfold lev; rw [if_neg (by omega), if_neg (by omega)]
    have h1 := div_in (m := m + t / 2) (s := t) (by omega) (by omega)
    generalize (m + t / 2) / t = v at h1 ⊢
    rw [Int.le_ediv_iff_mul_le (by omega)]
    by_cases hv : v = 0
    · subst hv; omega
    · have h2 : (2 * v - 1) * s ≤ (2 * v - 1) * t := Int.mul_le_mul_of_nonneg_left hst (by omega)
      have e1 : (2 * v - 1) * s = 2 * (v * s) - s := by rw [Int.sub_mul, Int.mul_assoc]; omega
      have e2 : (2 * v - 1) * t = 2 * (t * v) - t := by rw [Int.sub_mul, Int.mul_assoc, Int.mul_comm v t]; omega
      rw [e1, e2] at h2
      omega
  have sg := fun m hm => (lev_sign (n := m) (s := s) hs).1 hm
  have sg2 := fun m hm => (lev_sign (n := m) (s := t) (by omega)).1 hm
  by_cases h : 0 ≤ n
  · have h1 := key n h; have h2 := sg n h; have h3 := sg2 n h; omega
  · have h1 := key (-n) (by omega); have h2 := sg (-n) (by omega); have h3 := sg2 (-n) (by omega)
    rw [lev_odd n s hs] at h1 h2
    rw [lev_odd n t (by omega)] at h1 h3
    omega

/-- A block made number by number. -/
def eachB (g : Int → Int → Int) (b : Nat → Int) (q : Int) : Nat → Int := if ern q = 0 then fun i => g (cl 1048576 (b i)) (stp q) else fun _ => 0
def downB (b : Nat → Int) (q : Int) : Nat → Int := eachB lev b q
def upB (b : Nat → Int) (q : Int) : Nat → Int := eachB mulF b q
theorem each_ok {g : Int → Int → Int} {b : Nat → Int} {q : Int} (h : ern q = 0) : eachB g b q = fun i => g (cl 1048576 (b i)) (stp q) := if_pos h
theorem each_no {g : Int → Int → Int} {b : Nat → Int} {q : Int} (h : ¬ ern q = 0) : eachB g b q = fun _ => 0 := if_neg h
theorem down_at {b : Nat → Int} {q : Int} (h : ern q = 0) (i : Nat) : downB b q i = lev (cl 1048576 (b i)) (stp q) := by unfold downB; rw [each_ok h]
theorem up_at {b : Nat → Int} {q : Int} (h : ern q = 0) (i : Nat) : upB b q i = cl 1048576 (b i) * stp q := by unfold upB; rw [each_ok h]; rfl
theorem ern_nat {k : Nat} (h : k < 21) : ern (k : Int) = 0 := ern_ok (by omega)
theorem stp_in {k : Nat} (h : k < 21) : 1 ≤ stp (k : Int) ∧ stp (k : Int) ≤ 192 := stp_le (ern_nat h)

/-- A block of numbers up to 2^19 beside 0: its levels, what they stand for, their levels again. -/
theorem near_block {c : Nat → Int} {k : Nat} (hk : k < 21) (i : Nat) (hc : -524288 ≤ c i ∧ c i ≤ 524288) :
    downB c k i = lev (c i) (stp k) ∧ upB (downB c k) k i = lev (c i) (stp k) * stp k ∧ downB (upB (downB c k) k) k i = downB c k i := by
  have hs := stp_in hk
  have h1 : downB c k i = lev (c i) (stp k) := by rw [down_at (ern_nat hk), cl_id _ _ (by omega) (by omega)]
  have hl : -524384 ≤ lev (c i) (stp k) ∧ lev (c i) (stp k) ≤ 524384 := by
    have := lev_near (n := c i) (s := stp k) hs.1
    have sg := lev_sign (n := c i) (s := stp k) hs.1
    unfold lev
    split
    · have := div_in (m := -c i + stp k / 2) hs.1 (by omega); omega
    · have := div_in (m := c i + stp k / 2) hs.1 (by omega); omega
  have h2 : upB (downB c k) k i = lev (c i) (stp k) * stp k := by rw [up_at (ern_nat hk), h1, cl_id _ _ (by omega) (by omega)]
  refine ⟨h1, h2, ?_⟩
  have hn := lev_near (n := c i) (s := stp k) hs.1
  rw [down_at (ern_nat hk), h2, cl_id _ _ (by omega) (by omega), lev_mul _ _ hs.1, h1]
theorem near_zero {c : Nat → Int} {k : Nat} (h0 : k = 0) (i : Nat) (hc : -524288 ≤ c i ∧ c i ≤ 524288) : upB (downB c k) k i = c i := by
  subst h0
  rw [(near_block (k := 0) (by omega) i hc).2.1]
  have e : stp ((0 : Nat) : Int) = 1 := by decide
  rw [e, lev_one]; omega

/-- A block that goes through its coefficients, and their levels, and back. -/
theorem waves_near (b : Nat → Int) {k : Nat} (hk : k < 21) (i : Nat) (hi : i < 16) :
    -(stp k / 2) ≤ backB (upB (downB (fwd (clB 1048576 (clB 255 b))) k) k) i - clB 255 b i ∧ backB (upB (downB (fwd (clB 1048576 (clB 255 b))) k) k) i - clB 255 b i ≤ stp k / 2 := by
  have hs := stp_in hk
  rw [clB_small (m := 255) (by omega)]
  have hf : ∀ i, -4080 ≤ fwd (clB 255 b) i ∧ fwd (clB 255 b) i ≤ 4080 := fun i => by
    have := fwd_le (clB 255 b) 255 (fun i _ => clB_at 255 (by omega) b i) i; omega
  have hu : ∀ i, upB (downB (fwd (clB 255 b)) k) k i = lev (fwd (clB 255 b) i) (stp k) * stp k := fun i => (near_block hk i (by have := hf i; omega)).2.1
  have hd := fun i => lev_near (n := fwd (clB 255 b) i) (s := stp k) hs.1
  have e : clB 1048576 (upB (downB (fwd (clB 255 b)) k) k) = fun i => fwd (clB 255 b) i + (lev (fwd (clB 255 b) i) (stp k) * stp k - fwd (clB 255 b) i) := by
    rw [clB_in fun i => by rw [hu i]; have h1 := hf i; have h2 := hd i; omega]
    funext i; rw [hu i]; omega
  unfold backB
  rw [e]
  exact back_near (clB 255 b) (fun i => lev (fwd (clB 255 b) i) (stp k) * stp k - fwd (clB 255 b) i) (stp k / 2) (fun i _ => hd i) i hi
end Go.Proofs.YtnlpiafgbeknhaaDoor
