/- No number's bits begin another one's; bits that were packed are read. -/
import Derived.Test.YtipimcnjcpckeaaDoorArgs
namespace Go.Proofs.YtipimcnjcpckeaaDoor
open Go.RowKit

theorem fixedBits_zero (k : Nat) : fixedBits 0 k = List.replicate k false := by
  induction k with
  | zero => rfl
  | succ k ih => rw [fixedBits, ih, List.replicate_succ]; simp [lowBit]

theorem lowBit_nat (a : Nat) : lowBit (a : Int) = decide (a % 2 = 1) := by
  unfold lowBit
  have : ((a : Int) % 2 = 1) ↔ (a % 2 = 1) := by omega
  simp only [this]

theorem fixedBits_inj (a b k : Nat) (h : fixedBits (a : Int) k = fixedBits (b : Int) k) : a % 2 ^ k = b % 2 ^ k := by
  induction k with
  | zero => simp [Nat.mod_one]
  | succ k ih =>
    simp only [fixedBits, List.cons.injEq] at h
    have h1 := h.1
    have ea : (a : Int) / 2 ^ k = ((a / 2 ^ k : Nat) : Int) := by simp
    have eb : (b : Int) / 2 ^ k = ((b / 2 ^ k : Nat) : Int) := by simp
    rw [ea, eb, lowBit_nat, lowBit_nat, decide_eq_decide] at h1
    rw [Nat.mod_pow_succ, Nat.mod_pow_succ, ih h.2]
    have : a / 2 ^ k % 2 = b / 2 ^ k % 2 := by
      generalize a / 2 ^ k = x at *
      generalize b / 2 ^ k = y at *
      omega
    rw [this]

/-- A number's bits: so many bits 0, a bit 1, and as many bits. -/
theorem golomb_shape (m : Nat) (h0 : m ≠ 0) (h : m < 2 ^ 64) : golomb m = List.replicate (Lib.bitLen m - 1) false ++ true :: fixedBits (m : Int) (Lib.bitLen m - 1) := by
  obtain ⟨b1, b2, b3⟩ := bitLen_bounds m h0 h
  unfold golomb
  rw [fixedBits_zero]
  congr 1
  generalize Lib.bitLen m = L at *
  obtain ⟨k, rfl⟩ : ∃ k, L = k + 1 := ⟨L - 1, by omega⟩
  simp only [Nat.add_sub_cancel] at *
  rw [fixedBits]
  congr 1
  have e : (m : Int) / 2 ^ k = ((m / 2 ^ k : Nat) : Int) := by simp
  have h1 : m / 2 ^ k = 1 := by
    rw [Nat.pow_succ] at b3
    exact Nat.div_eq_of_lt_le (by omega) (by omega)
  rw [e, h1]; rfl

/-- The bits of two numbers agree as far as both go just if the numbers are one. -/
theorem golomb_first (m n : Nat) (hm0 : m ≠ 0) (hm : m < 2 ^ 64) (hn0 : n ≠ 0) (hn : n < 2 ^ 64)
    (h : ∀ i, i < min (golomb m).length (golomb n).length → (golomb m).getD i false = (golomb n).getD i false) : m = n := by
  obtain ⟨a1, a2, a3⟩ := bitLen_bounds m hm0 hm
  obtain ⟨b1, b2, b3⟩ := bitLen_bounds n hn0 hn
  have lm : (golomb m).length = 2 * (Lib.bitLen m - 1) + 1 := by simp [golomb, fixedBits_length]; omega
  have ln : (golomb n).length = 2 * (Lib.bitLen n - 1) + 1 := by simp [golomb, fixedBits_length]; omega
  have key : ∀ x y : Nat, x ≠ 0 → x < 2 ^ 64 → y ≠ 0 → y < 2 ^ 64 → Lib.bitLen x < Lib.bitLen y → 1 ≤ Lib.bitLen x → (golomb x).getD (Lib.bitLen x - 1) false = (golomb y).getD (Lib.bitLen x - 1) false → False := by
    intro x y hx0 hx hy0 hy hlt h1 he
    rw [golomb_shape x hx0 hx, golomb_shape y hy0 hy] at he
    simp only [List.getD] at he
    rw [List.getElem?_append_right (by simp), List.getElem?_append_left (by simp; omega)] at he
    have e1 : (true :: fixedBits (x : Int) (Lib.bitLen x - 1))[Lib.bitLen x - 1 - (List.replicate (Lib.bitLen x - 1) false).length]? = some true := by simp
    have e2 : (List.replicate (Lib.bitLen y - 1) false)[Lib.bitLen x - 1]? = some false := by rw [List.getElem?_replicate, if_pos (by omega)]
    rw [e1, e2] at he
    cases he
  have hz : Lib.bitLen m = Lib.bitLen n := by
    rcases Nat.lt_trichotomy (Lib.bitLen m) (Lib.bitLen n) with h1 | h1 | h1
    · exact (key m n hm0 hm hn0 hn h1 a1 (h _ (by rw [lm, ln]; omega))).elim
    · exact h1
    · exact (key n m hn0 hn hm0 hm h1 b1 (h _ (by rw [lm, ln]; omega)).symm).elim
  have hg : golomb m = golomb n := by
    refine List.ext_getElem (by rw [lm, ln, hz]) fun i h1 h2 => ?_
    have := h i (by omega)
    simpa [List.getD, h1, h2] using this
  rw [golomb, golomb, hz] at hg
  have h1 := fixedBits_inj m n (Lib.bitLen n) (List.append_cancel_left hg)
  rw [Nat.mod_eq_of_lt (by rw [← hz]; exact a3), Nat.mod_eq_of_lt b3] at h1
  exact h1

/-- The number that stands for a number of either sign. -/
def signCode (n : Int) : Nat := if 0 < n then (2 * n - 1).toNat else (-2 * n).toNat

theorem signedBits_code (n : Int) (h0 : -536870912 < n) (h1 : n < 536870912) : signedBits n = golomb (signCode n + 1) ∧ signCode n < 1073741824 := by
  have hc : clampSigned n = n := by unfold clampSigned; omega
  unfold signedBits signCode
  rw [hc]
  split
  · have e : clampWhole (2 * n - 1) = (2 * n - 1).toNat := by unfold clampWhole; omega
    exact ⟨by unfold wholeBits; rw [e], by omega⟩
  · have e : clampWhole (-2 * n) = (-2 * n).toNat := by unfold clampWhole; omega
    exact ⟨by unfold wholeBits; rw [e], by omega⟩

theorem signCode_inj (a b : Int) (h : signCode a = signCode b) : a = b := by
  unfold signCode at h; split at h <;> split at h <;> omega

/-- Whether two lists of bits agree up to a place. -/
def sameUpto (x y : List Bool) (i : Nat) : Bool := (List.range i).all fun j => x.getD j false == y.getD j false

theorem sameUpto_succ (x y : List Bool) (i : Nat) : sameUpto x y (i + 1) = (sameUpto x y i && (x.getD i false == y.getD i false)) := by
  simp [sameUpto, List.range_succ]

theorem sameUpto_iff (x y : List Bool) (i : Nat) : sameUpto x y i = true ↔ ∀ j, j < i → x.getD j false = y.getD j false := by
  simp [sameUpto]

theorem first_fact (a b : Int) (a0 : -536870912 < a) (a1 : a < 536870912) (b0 : -536870912 < b) (b1 : b < 536870912) :
    sameUpto (signedBits a) (signedBits b) (min (signedBits a).length (signedBits b).length) = (a == b) := by
  rw [Bool.eq_iff_iff, sameUpto_iff, beq_iff_eq]
  constructor
  · intro h
    obtain ⟨ea, la⟩ := signedBits_code a a0 a1
    obtain ⟨eb, lb⟩ := signedBits_code b b0 b1
    rw [ea, eb] at h
    have := golomb_first (signCode a + 1) (signCode b + 1) (by omega) (by omega) (by omega) (by omega) h
    exact signCode_inj a b (by omega)
  · rintro rfl j hj; rfl

/-- The bits of a writer's bytes with others behind. -/
theorem bitAt_pack_append (bs : List Bool) (t : List Nat) (i : Nat) (h : i < bs.length) : bitAt (pack bs ++ t) i = bs.getD i false := by
  have hb : i / 8 < nbytes bs.length := by unfold nbytes; omega
  have e : bitAt (pack bs ++ t) i = bitAt (pack bs) i := by
    unfold bitAt
    simp only [List.getD]
    rw [List.getElem?_append_left (by rw [pack_length]; exact hb)]
  rw [e, pack_bit bs i (by unfold nbytes; omega)]

theorem pack_bytes (bs : List Bool) : ∀ x ∈ pack bs, x < 256 := by
  intro x hx
  obtain ⟨i, _, rfl⟩ := List.mem_map.1 hx
  exact byteOf_lt _

theorem ownsRow_new {w : World} {g : Nat} {l : List Nat} (h : w.heap[g]? = some (.cells (byteVals l).toArray 5 (0, 0))) (hl : l.length ≤ 1099511627776) :
    w.ownsRow 0 5 1 (.slice (some ⟨g, 0, none⟩) l.length l.length) l.length (byteVals l) := by
  refine ⟨by simp [byteVals], .inr ⟨g, l.length, _, rfl, Nat.zero_le _, h, Nat.le_refl _, by unfold maxLen; omega, by simp [byteVals], ?_⟩⟩
  rw [Nat.mul_one]
  exact List.take_of_length_le (by simp [byteVals])

theorem SliceOf.of_row {w : World} {v : Value} {l : List Nat} (h : w.ownsRow 0 5 1 v l.length (byteVals l)) : SliceOf w v l := by
  rcases h.2 with ⟨rfl, h0⟩ | ⟨g, cap, cur, rfl, _, hg, _⟩
  · exact ⟨none, 0, by rw [h0], fun hp => by omega⟩
  · exact ⟨_, cap, rfl, fun _ => ⟨⟨g, 0, none⟩, rfl, fun j u hj => h.cells (g := g) rfl j u hj⟩⟩

theorem tmod_bounds (a : Int) : -536870912 < a.tmod 536870912 ∧ a.tmod 536870912 < 536870912 := by
  rcases Int.le_total 0 a with h | h
  · rw [Int.tmod_eq_emod_of_nonneg h]; omega
  · obtain ⟨n, rfl⟩ : ∃ n, a = -n := ⟨-a, by omega⟩
    rw [Int.neg_tmod, Int.tmod_eq_emod_of_nonneg (by omega)]; omega

/-- Reading a bit of a writer's bytes with others behind. -/
theorem rdStep_pack {bs : List Bool} {t : List Nat} {i : Nat} (h : i < bs.length) : rdStep (nextAt (pack bs ++ t)) (some i) = (((bs.getD i false).toNat : Int), some (i + 1)) := by
  have hl : i < 8 * (pack bs ++ t).length := by simp [pack_length, nbytes]; omega
  simp only [rdStep, nextAt, if_pos hl, bitAt_pack_append bs t i h]

theorem beq_toNat (x y : Bool) : (((x.toNat : Nat) : Int) == ((y.toNat : Nat) : Int)) = (x == y) := by cases x <;> cases y <;> rfl

def zero8 : List Nat := [0, 0, 0, 0, 0, 0, 0, 0]

theorem fair_pack8 (bs : List Bool) (h : bs.length ≤ 1000) : Fair (pack bs ++ zero8) := by
  refine ⟨?_, ?_⟩
  · intro x hx
    rcases List.mem_append.1 hx with h | h
    · exact pack_bytes bs x h
    · simp [zero8] at h; omega
  · simp [pack_length, nbytes, zero8]; omega

end Go.Proofs.YtipimcnjcpckeaaDoor
