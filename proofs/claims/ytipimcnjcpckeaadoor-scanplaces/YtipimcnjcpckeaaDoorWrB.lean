/- Two writers out of one; how many bits a number has. -/
import Derived.Test.YtipimcnjcpckeaaDoorTwo
namespace Go.Proofs.YtipimcnjcpckeaaDoor
open Go.RowKit

theorem Two.of_one {w0 w : World} {p : Nat} {bs : List Bool} (h : One w0 w p bs) : Two w0 (w.alloc (.cells #[.slice none 0 0, .int .i64 0] 27)) p w.heap.size bs [] := by
  obtain ⟨r, h1, h2, h3⟩ := h
  refine ⟨r, none, h1.kept ((Kept.refl (fun _ => False) _).alloc _) (fun _ _ x => x), WrIs.new w, h2, ?_, ?_, h3.alloc _⟩
  · intro i hi
    rcases hi with rfl | hi
    · exact h3.size
    · cases hi
  · intro i hi hf
    have := h1.foot_lt hi
    rcases hf with h | h
    · omega
    · cases h

theorem golomb_length (m : Nat) (h0 : m ≠ 0) (h : m ≤ 2147483648) : (golomb m).length = 2 * Lib.bitLen m - 1 := by
  have := bitLen_le32 m h0 h
  simp [golomb, fixedBits_length]; omega

theorem wholeBits_length (n : Int) : (wholeBits n).length = 2 * Lib.bitLen (clampWhole n + 1) - 1 := by
  have := clampWhole_le n
  exact golomb_length _ (by omega) (by omega)

theorem wholeBits_short (n : Int) : (wholeBits n).length ≤ 63 := by
  have := clampWhole_le n
  have := bitLen_le32 (clampWhole n + 1) (by omega) (by omega)
  rw [wholeBits_length]; omega

theorem signedBits_short (n : Int) : (signedBits n).length ≤ 63 := by
  unfold signedBits; split <;> exact wholeBits_short _

theorem shr_pos (m j : Nat) (h0 : m ≠ 0) (h : m < 2 ^ 64) : (0 < (m : Int) / 2 ^ j) ↔ j < Lib.bitLen m := by
  obtain ⟨b1, b2, b3⟩ := bitLen_bounds m h0 h
  have e : (m : Int) / 2 ^ j = ((m / 2 ^ j : Nat) : Int) := by simp
  rw [e]
  have hp := Nat.two_pow_pos j
  constructor
  · intro h
    apply Nat.lt_of_not_le
    intro hle
    have h1 : (2 : Nat) ^ Lib.bitLen m ≤ 2 ^ j := Nat.pow_le_pow_right (by decide) hle
    have h2 : m / 2 ^ j = 0 := Nat.div_eq_of_lt (by omega)
    rw [h2] at h; omega
  · intro hlt
    have h1 : (2 : Nat) ^ j ≤ 2 ^ (Lib.bitLen m - 1) := Nat.pow_le_pow_right (by decide) (by omega)
    have h2 := Nat.div_pos (show 2 ^ j ≤ m by omega) hp
    omega

end Go.Proofs.YtipimcnjcpckeaaDoor
