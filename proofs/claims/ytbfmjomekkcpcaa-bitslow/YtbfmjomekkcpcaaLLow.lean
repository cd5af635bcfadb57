/- BitsLow's walk. -/
import Derived.Test.YtbfmjomekkcpcaaTwo
import Derived.Deep.RegionWith
namespace Go.Proofs.Ytbfmjomekkcpcaa
open Go.RowKit

theorem lowBit_and1 (n : Int) : lowBit (bits .and .i64 n 1) = lowBit n := by
  rw [i64_and1]; unfold lowBit
  have : n % 2 % 2 = n % 2 := by omega
  rw [this]

theorem i64_mask (n : Int) (b : Nat) (hb : b ≤ 32) : bits .and .i64 n (2 ^ b - 1) = n % 2 ^ b := by
  have hp : (2 : Nat) ^ b ≤ 2 ^ 32 := Nat.pow_le_pow_right (by decide) hb
  have hp0 : 0 < (2 : Nat) ^ b := Nat.two_pow_pos b
  have e : ((2 : Int) ^ b - 1) = ((2 ^ b - 1 : Nat) : Int) := by rw [Int.natCast_sub hp0]; simp
  have h1 : (BitVec.ofInt 64 ((2 : Int) ^ b - 1)).toNat = 2 ^ b - 1 := by
    rw [e, BitVec.ofInt_natCast, BitVec.toNat_ofNat]; exact Nat.mod_eq_of_lt (by omega)
  have key : (BitVec.ofInt 64 n &&& BitVec.ofInt 64 ((2 : Int) ^ b - 1)).toNat = (n % ((2 ^ 64 : Nat) : Int)).toNat % 2 ^ b := by
    rw [BitVec.toNat_and, BitVec.toNat_ofInt, h1, Nat.and_two_pow_sub_one_eq_mod]
  show IntKind.i64.wrap ((BitVec.ofInt 64 n &&& BitVec.ofInt 64 ((2 : Int) ^ b - 1)).toNat : Nat) = n % 2 ^ b
  have hd : ((2 ^ b : Nat) : Int) ∣ ((2 ^ 64 : Nat) : Int) := by
    exact_mod_cast Nat.pow_dvd_pow 2 (show b ≤ 64 by omega)
  have h2 : (((n % ((2 ^ 64 : Nat) : Int)).toNat % 2 ^ b : Nat) : Int) = n % ((2 ^ b : Nat) : Int) := by
    rw [Int.natCast_emod, Int.toNat_of_nonneg (Int.emod_nonneg _ (by decide)), Int.emod_emod_of_dvd _ hd]
  have h3 : ((2 ^ b : Nat) : Int) = (2 : Int) ^ b := by simp
  rw [key, IntKind.wrap_i64, h2, h3]
  have h4 : 0 ≤ n % (2 : Int) ^ b := Int.emod_nonneg _ (by rw [← h3]; omega)
  have h5 : n % (2 : Int) ^ b < 2 ^ b := Int.emod_lt_of_pos _ (by rw [← h3]; omega)
  have h6 : (2 : Int) ^ b ≤ 4294967296 := by rw [← h3]; omega
  omega

theorem lowBit_mod (n : Int) (k b : Nat) (h : k < b) : lowBit (n % 2 ^ b / 2 ^ k) = lowBit (n / 2 ^ k) := by
  unfold lowBit
  have e : (2 : Int) ^ b = 2 ^ k * (2 * 2 ^ (b - k - 1)) := by
    rw [← Int.mul_assoc, ← Int.pow_succ, ← Int.pow_add]; congr 1; omega
  have hp : (0 : Int) < 2 ^ k := Int.pow_pos (by decide)
  have h1 : n % 2 ^ b / 2 ^ k % 2 = n / 2 ^ k % 2 := by
    have hn : n % 2 ^ b = n - 2 ^ b * (n / 2 ^ b) := by have := Int.emod_add_mul_ediv n (2 ^ b); omega
    rw [hn]
    generalize n / 2 ^ b = q
    rw [e]
    have : n - 2 ^ k * (2 * 2 ^ (b - k - 1)) * q = n + 2 ^ k * (-(2 * (2 ^ (b - k - 1) * q))) := by
      rw [Int.mul_neg, Int.mul_assoc, Int.mul_assoc]; omega
    rw [this, Int.add_mul_ediv_left _ _ (by omega)]
    omega
  rw [h1]

theorem fixedBits_mask (n : Int) (b k : Nat) (h : k ≤ b) : fixedBits (n % 2 ^ b) k = fixedBits n k := by
  induction k with
  | zero => rfl
  | succ k ih => simp only [fixedBits]; rw [lowBit_mod n k b (by omega), ih (by omega)]

set_option maxHeartbeats 8000000 in
set_option maxRecDepth 100000 in
theorem low_walk (n k more : Int) (w : World) (n0 : -2147483648 ≤ n) (n1 : n ≤ 2147483647) (k0 : 0 ≤ k) (k1 : k ≤ 255) (m0 : 0 ≤ more) (m1 : more ≤ 65535) :
    Calls Try.prog 10 #[.int .i32 n, .int .u8 k, .int .u16 more] w fun e w' => e = .returned (.bool true) ∧ Below w.heap.size w w' := by
  go_enter Try.func10, Try.ntmps10
  go_wp2_with (fail)
  refine (awake_any _).mono ?_
  rintro e w1 ⟨rfl, hk⟩
  have KA := Lib.hid hk; clear hk
  have hb : ((k % 33).toNat : Int) = k % 33 := by omega
  obtain ⟨b, hkb⟩ : ∃ b : Nat, k % 33 = (b : Int) := ⟨(k % 33).toNat, hb.symm⟩
  have hb32 : b ≤ 32 := by omega
  clear hb
  have hp2 : (2 : Int) ^ b ≤ 4294967296 := by
    have hp : (2 : Nat) ^ b ≤ 4294967296 := by have := Nat.pow_le_pow_right (n := 2) (by decide) hb32; simpa using this
    have h3 : ((2 ^ b : Nat) : Int) = (2 : Int) ^ b := by simp
    rw [← h3]; omega
  have hp1 : 1 ≤ (2 : Int) ^ b := by
    have h3 : ((2 ^ b : Nat) : Int) = (2 : Int) ^ b := by simp
    have := Nat.two_pow_pos b
    rw [← h3]; omega
  go_wp2_with (fail)
  have T0 := Lib.hid (Two.new KA.out)
  refine (bit_two n T0.out (by decide)).mono ?_
  rintro e w2 ⟨rfl, h2⟩
  have T1 := Lib.hid h2.swap; clear h2 T0
  go_wp2_with (fail)
  refine (bit_two _ T1.out (by decide)).mono ?_
  rintro e w3 ⟨rfl, h3⟩
  have T2 := Lib.hid h3.swap; clear h3 T1
  go_wp2_with (fail)
  refine (fixed_two n _ T2.out (by omega) (by omega) (by simp)).mono ?_
  rintro e w4 ⟨rfl, h4⟩
  have T3 := Lib.hid h4.swap; clear h4 T2
  go_wp2_with (fail)
  refine (fixed_two _ _ T3.out (by omega) (by omega) (by simp)).mono ?_
  rintro e w5 ⟨rfl, h5⟩
  have e1 : [] ++ [lowBit (bits BinOp.and IntKind.i64 n 1)] ++ fixedBits (bits BinOp.and IntKind.i64 n (2 ^ b - 1)) (b : Int).toNat = [] ++ [lowBit n] ++ fixedBits n (b : Int).toNat := by
    rw [lowBit_and1, i64_mask n b hb32, Int.toNat_natCast, fixedBits_mask n b b (Nat.le_refl _)]
  rw [e1] at h5
  have e2 : ([] ++ [lowBit n] ++ fixedBits n (b : Int).toNat).length = 1 + b := by simp [fixedBits_length]; omega
  generalize [] ++ [lowBit n] ++ fixedBits n (b : Int).toNat = bs at *
  have T4 := Lib.hid h5.swap; clear h5 T3 e1
  have L := Lib.hid e2; clear e2
  go_wp2_with (fail)
  refine (fixed_no _ n _ _ (by omega)).mono ?_
  rintro e w6 ⟨rfl, rfl⟩
  go_wp2_with (fail)
  refine (fixed_no _ n _ _ (by omega)).mono ?_
  rintro e w6 ⟨rfl, rfl⟩
  have hlen : (bs.length : Int) = 1 + (b : Int) := by rw [L.out]; omega
  have hm : bs.length < 1099511627776 := by rw [L.out]; omega
  go_wp2_with (fail)
  generalize w1.heap.size + 1 = q at *
  generalize w1.heap.size = p at *
  have hcv : ∀ (W : World) (g : Nat), W.heap[g]? = some (.cells (byteVals (pack bs)).toArray 5 (0, 0)) → (convert 30 9 (.slice (some ⟨g, 0, none⟩) (pack bs).length (pack bs).length)).run Try.prog W = .ok (.string (textOf (pack bs))) W :=
    fun W g h => run_text h _
  have hwb : IntKind.i64.wrap (1 + (b : Int)) = 1 + (b : Int) := by rw [IntKind.wrap_i64]; omega
  go_region_with (first
    | (go_at_call_of 17 (Value.pointer (some ⟨p, 0, none⟩)); refine (bytes_one (Two.left (T4.out.kept ?_)) hm).mono ?_; exact (Kept.refl _ _).drew; rintro e w7 ⟨gx, rfl, sx, cx, kx⟩)
    | (go_at_call_of 17 (Value.pointer (some ⟨q, 0, none⟩)); refine (bytes_one (Two.left ((T4.out.swap.kept ((Kept.refl _ _).drew)).kept kx)) hm).mono ?_; rintro e w8 ⟨gy, rfl, sy, cy, ky⟩; have cx2 := ky.at cx id)
    | (go_at_call_of 19 (Value.pointer (some ⟨p, 0, none⟩)); refine (many_one (Two.left (((T4.out.kept ((Kept.refl _ _).drew)).kept kx).kept ky))).mono ?_; rintro e w9 ⟨rfl, rfl⟩)
    | (go_at_call_of 19 (Value.pointer (some ⟨q, 0, none⟩)); refine (many_one (Two.left (((T4.out.swap.kept ((Kept.refl _ _).drew)).kept kx).kept ky))).mono ?_; rintro e w9 ⟨rfl, rfl⟩))
  all_goals
    go_wp2
    go_ret
    exact ⟨rfl, ((((T4.out.all.drew).trans kx (fun _ _ x => x)).trans ky (fun _ _ x => x))).all⟩

end Go.Proofs.Ytbfmjomekkcpcaa
