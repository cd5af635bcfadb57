/- BitsMany's walk. -/
import Derived.Test.YtbfmjomekkcpcaaTwo
namespace Go.Proofs.Ytbfmjomekkcpcaa
open Go.RowKit

theorem Two.of_one {w0 w : World} {p : Nat} {bs : List Bool} (h : One w0 w p bs) : Two w0 (w.alloc (.cells #[.slice none 0 0, .int .i64 0] 52)) p w.heap.size bs [] := by
  obtain ⟨r, h1, h2, h3⟩ := h
  refine ⟨r, none, h1.kept ((Kept.refl (fun _ => False) _).alloc _) (fun _ _ x => x), WrIs.new w, h2, ?_, ?_, h3.alloc _⟩
  · intro i hi
    rcases hi with rfl | hi
    · exact h3.size
    · cases hi
  · intro i hi hf
    have := h1.foot_lt hi
    rcases hf with h | h
    · omega
    · cases h

theorem golomb_length (m : Nat) (h0 : m ≠ 0) (h : m ≤ 2147483648) : (golomb m).length = 2 * Lib.bitLen m - 1 := by
  have := bitLen_le32 m h0 h
  simp [golomb, fixedBits_length]; omega

theorem wholeBits_length (n : Int) : (wholeBits n).length = 2 * Lib.bitLen (clampWhole n + 1) - 1 := by
  have := clampWhole_le n
  exact golomb_length _ (by omega) (by omega)

theorem wholeBits_short (n : Int) : (wholeBits n).length ≤ 63 := by
  have := clampWhole_le n
  have := bitLen_le32 (clampWhole n + 1) (by omega) (by omega)
  rw [wholeBits_length]; omega

theorem signedBits_short (n : Int) : (signedBits n).length ≤ 63 := by
  unfold signedBits; split <;> exact wholeBits_short _

theorem shr_pos (m j : Nat) (h0 : m ≠ 0) (h : m < 2 ^ 64) : (0 < (m : Int) / 2 ^ j) ↔ j < Lib.bitLen m := by
  obtain ⟨b1, b2, b3⟩ := bitLen_bounds m h0 h
  have e : (m : Int) / 2 ^ j = ((m / 2 ^ j : Nat) : Int) := by simp
  rw [e]
  have hp := Nat.two_pow_pos j
  constructor
  · intro h
    apply Nat.lt_of_not_le
    intro hle
    have h1 : (2 : Nat) ^ Lib.bitLen m ≤ 2 ^ j := Nat.pow_le_pow_right (by decide) hle
    have h2 : m / 2 ^ j = 0 := Nat.div_eq_of_lt (by omega)
    rw [h2] at h; omega
  · intro hlt
    have h1 : (2 : Nat) ^ j ≤ 2 ^ (Lib.bitLen m - 1) := Nat.pow_le_pow_right (by decide) (by omega)
    have h2 := Nat.div_pos (show 2 ^ j ≤ m by omega) hp
    omega

set_option maxHeartbeats 4000000 in
set_option maxRecDepth 100000 in
theorem many_walk (n k m : Int) (w : World) (n0 : 0 ≤ n) (n1 : n ≤ 4294967295) (k0 : 0 ≤ k) (k1 : k ≤ 255) (m0 : -2147483648 ≤ m) (m1 : m ≤ 2147483647) :
    Calls Try.prog 8 #[.int .u32 n, .int .u8 k, .int .i32 m] w fun e w' => e = .returned (.bool true) ∧ Below w.heap.size w w' := by
  go_enter Try.func8, Try.ntmps8
  go_wp2_with (fail)
  refine (awake_any _).mono ?_
  rintro e w1 ⟨rfl, hk⟩
  have KA := Lib.hid hk; clear hk
  go_wp2_with (fail)
  have O0 := Lib.hid (One.new KA.out)
  refine (whole_one _ O0.out (by simp)).mono ?_
  rintro e w2 ⟨rfl, h2⟩
  -- the numbers
  obtain ⟨N, hN⟩ : ∃ N : Nat, n % 1073741824 = (N : Int) := ⟨(n % 1073741824).toNat, by omega⟩
  have hN2 : N < 1073741824 := by omega
  obtain ⟨b, hb⟩ : ∃ b : Nat, k % 33 = (b : Int) := ⟨(k % 33).toNat, by omega⟩
  have hb32 : b ≤ 32 := by omega
  rw [hN] at h2
  have hL := bitLen_le32 (N + 1) (by omega) (by omega)
  have hlen1 : ([] ++ wholeBits (N : Int)).length = 2 * Lib.bitLen (N + 1) - 1 := by
    have e : clampWhole (N : Int) = N := by unfold clampWhole; omega
    simp [wholeBits_length, e]
  have hsp := fun j : Nat => shr_pos (N + 1) j (by omega) (by omega)
  have HSP := Lib.hid hsp; clear hsp
  generalize hL' : Lib.bitLen (N + 1) = L at *
  have HL' := Lib.hid hL'; clear hL'
  obtain ⟨hL1, hL2⟩ := hL
  generalize hB1 : [] ++ wholeBits (N : Int) = bs1 at *
  clear hB1
  have O1 := Lib.hid h2; clear h2 O0
  have L1 := Lib.hid hlen1
  have hl1 : (bs1.length : Int) = 2 * (L : Int) - 1 := by rw [hlen1]; omega
  have hl1' : bs1.length ≤ 63 := by omega
  have HL1 := Lib.hid hl1; clear hl1
  clear hlen1
  go_wp2_with (fail)
  refine (many_one O1.out).mono ?_
  rintro e w3 ⟨rfl, rfl⟩
  go_wp2_with (fail)
  refine (fixed_one _ _ O1.out (by omega) (by omega) (by omega)).mono ?_
  rintro e w3 ⟨rfl, h3⟩
  have hl2 : ((bs1 ++ fixedBits n (b : Int).toNat).length : Int) = bs1.length + (b : Int) := by simp [fixedBits_length]
  generalize bs1 ++ fixedBits n (b : Int).toNat = bs2 at *
  have O2 := Lib.hid h3; clear h3 O1
  have hl2' : bs2.length ≤ 95 := by omega
  have HL2 := Lib.hid hl2; clear hl2
  go_wp2_with (fail)
  refine (many_one O2.out).mono ?_
  rintro e w4 ⟨rfl, rfl⟩
  go_wp2_with (fail)
  refine (signed_one _ O2.out (by omega)).mono ?_
  rintro e w4 ⟨rfl, h4⟩
  have hl3 : ((bs2 ++ signedBits (m.tmod 536870912)).length : Int) = bs2.length + (signedBits (m.tmod 536870912)).length := by simp
  have hss := signedBits_short (m.tmod 536870912)
  generalize hB3 : bs2 ++ signedBits (m.tmod 536870912) = bs3 at *
  clear hB3
  have O3 := Lib.hid h4; clear h4 O2
  have hl3' : bs3.length ≤ 158 := by omega
  have HL3 := Lib.hid hl3; clear hl3
  go_wp2_with (fail)
  refine (many_one O3.out).mono ?_
  rintro e w5 ⟨rfl, rfl⟩
  go_wp2_with (fail)
  have T0 := Lib.hid (Two.of_one O3.out).swap; clear O3
  refine (signed_two _ T0.out (by simp)).mono ?_
  rintro e w5 ⟨rfl, h5⟩
  have e0 : [] ++ signedBits (m.tmod 536870912) = signedBits (m.tmod 536870912) := List.nil_append _
  rw [e0] at h5
  generalize hS : signedBits (m.tmod 536870912) = sb at *
  clear hS e0
  have T1 := Lib.hid h5; clear h5 T0
  generalize hp : w4.heap.size = q at *
  clear hp
  generalize hp : w1.heap.size = p at *
  clear hp
  go_wp2_with (fail)
  go_loop [13] (fun s => ∃ j : Nat, j ≤ L ∧ s = .int .i64 (j : Int)) (fun s => L - (intOf s).toNat)
  case atStart => exact ⟨0, by omega, rfl⟩
  case round =>
    obtain ⟨j, hj, rfl⟩ := hrel
    have hsp := HSP.out j
    rw [show ((N + 1 : Nat) : Int) = (N : Int) + 1 by omega] at hsp
    by_cases hlt : j < L
    · have ht := hsp.2 hlt
      clear hsp
      go_wp2
      go_round
      case rel => exact ⟨j + 1, by omega, by go_num⟩
      case measure => simp [intOf]; omega
    · have ht : ((N : Int) + 1) / 2 ^ j ≤ 0 := by have := mt hsp.1 hlt; omega
      clear hsp
      have ej : j = L := by omega
      subst ej
      have hl1 : ((bs1.length : Int) == 2 * (j : Int) - 1) = true := by have := HL1.out; simp; omega
      have hl2 : ((bs2.length : Int) == (bs1.length : Int) + (b : Int)) = true := by have := HL2.out; simp; omega
      have hl3 : ((bs3.length : Int) == (bs2.length : Int) + (sb.length : Int)) = true := by have := HL3.out; simp; omega
      have hl4 : ((nbytes bs3.length : Int) == ((bs3.length : Int) + 7) / 8) = true := by unfold nbytes; simp
      go_wp2_with (fail)
      refine (many_one (Two.left T1.out)).mono ?_
      rintro e w6 ⟨rfl, rfl⟩
      go_wp2_with (fail)
      refine (bytes_one (Two.left T1.out.swap) (by omega)).mono ?_
      rintro e w6 ⟨g, rfl, hg, hc, hk⟩
      rw [pack_length]
      have KK := Lib.hid (T1.out.all.trans hk (fun _ _ x => x)); clear hk hc hg
      go_wp2
      go_ret
      exact ⟨rfl, KK.out.all⟩
end Go.Proofs.Ytbfmjomekkcpcaa
