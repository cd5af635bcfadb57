/- The four waves as numbers: a block's sums by each two of them, there and back. No program in it. -/
import Derived.WalkKit
namespace Go.Proofs.YtipimcnjcpckeaaDoor

/-- The c-th number of the u-th wave. -/
def wv (u c : Nat) : Int := ([1, 1, 1, 1, 1, 1, -1, -1, 1, -1, -1, 1, 1, -1, 1, -1] : List Int).getD (4 * u + c) 0

/-- The sums of a block's rows, with rows as columns. -/
def turn (b : Nat → Int) (i : Nat) : Int :=
  b (4 * (i % 4)) * wv (i / 4) 0 + b (4 * (i % 4) + 1) * wv (i / 4) 1 + b (4 * (i % 4) + 2) * wv (i / 4) 2 + b (4 * (i % 4) + 3) * wv (i / 4) 3

def fwd (b : Nat → Int) : Nat → Int := turn (turn b)
def rnd (n : Int) : Int := (n + 8) / 16
def cl (m x : Int) : Int := max (-m) (min x m)
def clB (m : Int) (b : Nat → Int) : Nat → Int := fun i => cl m (b i)

theorem cl_le (m x : Int) (h : 0 ≤ m) : -m ≤ cl m x ∧ cl m x ≤ m := by unfold cl; omega
theorem cl_id (m x : Int) (h1 : -m ≤ x) (h2 : x ≤ m) : cl m x = x := by unfold cl; omega

theorem wv_cases (u c : Nat) : wv u c = 1 ∨ wv u c = -1 ∨ wv u c = 0 := by
  unfold wv
  have : ∀ n, ([1, 1, 1, 1, 1, 1, -1, -1, 1, -1, -1, 1, 1, -1, 1, -1] : List Int).getD n 0 = 1 ∨ ([1, 1, 1, 1, 1, 1, -1, -1, 1, -1, -1, 1, 1, -1, 1, -1] : List Int).getD n 0 = -1 ∨ ([1, 1, 1, 1, 1, 1, -1, -1, 1, -1, -1, 1, 1, -1, 1, -1] : List Int).getD n 0 = 0 := by
    intro n
    by_cases h : n < 16
    · revert n; decide
    · right; right
      rw [List.getD_eq_getElem?_getD, List.getElem?_eq_none (by simp; omega)]; rfl
  exact this _

theorem wv_mul (x : Int) (M : Int) (u c : Nat) (h1 : -M ≤ x) (h2 : x ≤ M) : -M ≤ x * wv u c ∧ x * wv u c ≤ M := by
  rcases wv_cases u c with h | h | h <;> rw [h] <;> omega

theorem turn_le (b : Nat → Int) (M : Int) (h : ∀ i, i < 16 → -M ≤ b i ∧ b i ≤ M) (i : Nat) : -(4 * M) ≤ turn b i ∧ turn b i ≤ 4 * M := by
  unfold turn
  have h0 := h (4 * (i % 4)) (by omega)
  have h1 := h (4 * (i % 4) + 1) (by omega)
  have h2 := h (4 * (i % 4) + 2) (by omega)
  have h3 := h (4 * (i % 4) + 3) (by omega)
  have k0 := wv_mul _ M (i / 4) 0 h0.1 h0.2
  have k1 := wv_mul _ M (i / 4) 1 h1.1 h1.2
  have k2 := wv_mul _ M (i / 4) 2 h2.1 h2.2
  have k3 := wv_mul _ M (i / 4) 3 h3.1 h3.2
  omega

theorem fwd_le (b : Nat → Int) (M : Int) (h : ∀ i, i < 16 → -M ≤ b i ∧ b i ≤ M) (i : Nat) : -(16 * M) ≤ fwd b i ∧ fwd b i ≤ 16 * M := by
  have := turn_le (turn b) (4 * M) (fun i _ => turn_le b M h i) i
  unfold fwd; omega

theorem all16 {p : Nat → Prop} (h : p 0 ∧ p 1 ∧ p 2 ∧ p 3 ∧ p 4 ∧ p 5 ∧ p 6 ∧ p 7 ∧ p 8 ∧ p 9 ∧ p 10 ∧ p 11 ∧ p 12 ∧ p 13 ∧ p 14 ∧ p 15) (i : Nat) (hi : i < 16) : p i := by
  obtain ⟨h0, h1, h2, h3, h4, h5, h6, h7, h8, h9, h10, h11, h12, h13, h14, h15⟩ := h
  have e : i = 0 ∨ i = 1 ∨ i = 2 ∨ i = 3 ∨ i = 4 ∨ i = 5 ∨ i = 6 ∨ i = 7 ∨ i = 8 ∨ i = 9 ∨ i = 10 ∨ i = 11 ∨ i = 12 ∨ i = 13 ∨ i = 14 ∨ i = 15 := by omega
  rcases e with rfl | rfl | rfl | rfl | rfl | rfl | rfl | rfl | rfl | rfl | rfl | rfl | rfl | rfl | rfl | rfl <;> assumption

theorem turn_congr {b c : Nat → Int} (h : ∀ i, i < 16 → b i = c i) : turn b = turn c := by
  funext i
  unfold turn
  rw [h _ (by omega), h (4 * (i % 4) + 1) (by omega), h (4 * (i % 4) + 2) (by omega), h (4 * (i % 4) + 3) (by omega)]

theorem fwd_congr {b c : Nat → Int} (h : ∀ i, i < 16 → b i = c i) : fwd b = fwd c := by unfold fwd; rw [turn_congr h]

theorem turn_add (b c : Nat → Int) : turn (fun i => b i + c i) = fun i => turn b i + turn c i := by
  funext i
  simp only [turn, Int.add_mul]; omega
theorem fwd_add (b c : Nat → Int) : fwd (fun i => b i + c i) = fun i => fwd b i + fwd c i := by
  unfold fwd; rw [turn_add, turn_add]
theorem turn_sub (b c : Nat → Int) : turn (fun i => b i - c i) = fun i => turn b i - turn c i := by
  funext i
  simp only [turn, Int.sub_mul]; omega
theorem fwd_sub (b c : Nat → Int) : fwd (fun i => b i - c i) = fun i => fwd b i - fwd c i := by
  unfold fwd; rw [turn_sub, turn_sub]
theorem turn_zero : turn (fun _ => 0) = fun _ => 0 := by funext i; simp [turn]
theorem fwd_zero : fwd (fun _ => 0) = fun _ => 0 := by unfold fwd; rw [turn_zero, turn_zero]

/-- The sums twice are sixteen times the block. -/
theorem fwd_fwd (b : Nat → Int) : ∀ i, i < 16 → fwd (fwd b) i = 16 * b i := by
  have hw : wv 0 0 = 1 ∧ wv 0 1 = 1 ∧ wv 0 2 = 1 ∧ wv 0 3 = 1 ∧ wv 1 0 = 1 ∧ wv 1 1 = 1 ∧ wv 1 2 = -1 ∧ wv 1 3 = -1 ∧ wv 2 0 = 1 ∧ wv 2 1 = -1 ∧ wv 2 2 = -1 ∧ wv 2 3 = 1 ∧ wv 3 0 = 1 ∧ wv 3 1 = -1 ∧ wv 3 2 = 1 ∧ wv 3 3 = -1 := by decide
  obtain ⟨h00, h01, h02, h03, h10, h11, h12, h13, h20, h21, h22, h23, h30, h31, h32, h33⟩ := hw
  apply all16
  simp only [fwd, turn, Nat.reduceMod, Nat.reduceDiv, Nat.reduceMul, Nat.reduceAdd, h00, h01, h02, h03, h10, h11, h12, h13, h20, h21, h22, h23, h30, h31, h32, h33, Int.mul_one, Int.mul_neg, Nat.zero_mod, Nat.zero_div]
  refine ⟨?_, ?_, ?_, ?_, ?_, ?_, ?_, ?_, ?_, ?_, ?_, ?_, ?_, ?_, ?_, ?_⟩ <;> omega

theorem rnd_16 (n d : Int) : rnd (16 * n + d) = n + rnd d := by unfold rnd; omega
theorem rnd_zero : rnd 0 = 0 := by decide

/-- Back of the sums is the block. -/
theorem back_fwd (b : Nat → Int) (i : Nat) (hi : i < 16) : rnd (fwd (fwd b) i) = b i := by
  have := rnd_16 (b i) 0
  rw [fwd_fwd b i hi]; rw [rnd_zero] at this; simpa using this

/-- Where each coefficient is at most so far beside another block's each number is at most as far. -/
theorem back_near (b d : Nat → Int) (e : Int) (h : ∀ i, i < 16 → -e ≤ d i ∧ d i ≤ e) (i : Nat) (hi : i < 16) : -e ≤ rnd (fwd (fun k => fwd b k + d k) i) - b i ∧ rnd (fwd (fun k => fwd b k + d k) i) - b i ≤ e := by
  rw [fwd_add]
  simp only
  rw [fwd_fwd b i hi, rnd_16]
  have := fwd_le d e h i
  unfold rnd; omega
end Go.Proofs.YtipimcnjcpckeaaDoor
