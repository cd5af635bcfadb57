/- The document's answer: bits as a text of 0 and 1. -/
import Derived.Test.YtipimcnjcpckeaaDoorWrB
namespace Go.Proofs.YtipimcnjcpckeaaDoor
open Go.RowKit

/-- A bit's letter. -/
def chr (b : Bool) : UInt8 := if b then 49 else 48
/-- The text of bits. -/
def strOf (bs : List Bool) : ByteArray := ⟨(bs.map chr).toArray⟩

theorem strOf_size (bs : List Bool) : (strOf bs).size = bs.length := by simp [strOf, ByteArray.size]

theorem strOf_append (a b : List Bool) : strOf a ++ strOf b = strOf (a ++ b) := by
  unfold strOf; rw [Go.ByteArray.mk_append_mk, List.map_append]

theorem strOf_one (a : List Bool) : strOf a ++ { data := #[49] } = strOf (a ++ [true]) := strOf_append a [true]
theorem strOf_nil (a : List Bool) : strOf a ++ { data := #[48] } = strOf (a ++ [false]) := strOf_append a [false]

set_option maxHeartbeats 400000 in
theorem ref_fixed (n : Int) (k : Nat) (w : World) (hk : k ≤ 32) :
    Calls Tryd.prog 31 #[.int .i64 n, .int .i64 (k : Int)] w fun e w' => e = .returned (.string (strOf (fixedBits n k))) ∧ w = w' := by
  go_enter Tryd.func31, Tryd.ntmps31
  go_wp2_with (fail)
  go_loop [5, 6] (fun s i => ∃ (j : Nat) (done : List Bool), j ≤ k ∧ i = .int .i64 ((j : Int) - 1) ∧ s = .string (strOf done) ∧ done.length + j = k ∧ done ++ fixedBits n j = fixedBits n k) (fun _ i => (intOf i + 1).toNat)
  case atStart => exact ⟨k, [], Nat.le_refl _, rfl, rfl, by simp, rfl⟩
  case round =>
    obtain ⟨j, done, hj, rfl, rfl, hl, hd⟩ := hrel
    have HD := Lib.hid hd; clear hd
    have hsz := strOf_size done
    cases j with
    | zero =>
      go_wp2
      go_ret
      have e : done = fixedBits n k := by simpa [fixedBits] using HD.out
      subst e
      exact ⟨rfl, rfl⟩
    | succ j =>
      cases hb : lowBit (n / 2 ^ j) with
      | true =>
        have ht : (bits BinOp.and IntKind.i64 (n / 2 ^ j) 1 == 1) = true := by rw [i64_and1]; simpa [lowBit] using hb
        have HB := Lib.hid hb; clear hb
        go_wp2
        go_round
        case rel => exact ⟨j, done ++ [true], by omega, rfl, by rw [strOf_one], by simp; omega, by rw [List.append_assoc, ← HB.out]; exact HD.out⟩
        case measure => simp [intOf]
      | false =>
        have ht : (bits BinOp.and IntKind.i64 (n / 2 ^ j) 1 == 1) = false := by rw [i64_and1]; simpa [lowBit] using hb
        have HB := Lib.hid hb; clear hb
        go_wp2
        go_round
        case rel => exact ⟨j, done ++ [false], by omega, rfl, by rw [strOf_nil], by simp; omega, by rw [List.append_assoc, ← HB.out]; exact HD.out⟩
        case measure => simp [intOf]

theorem ref_fixed_no (n k : Int) (w : World) (h : k < 0 ∨ 32 < k) :
    Calls Tryd.prog 31 #[.int .i64 n, .int .i64 k] w fun e w' => e = .returned (.string (strOf [])) ∧ w = w' := by
  rcases h with h | h
  · go_enter Tryd.func31, Tryd.ntmps31
    go_wp2
    go_ret
    exact ⟨rfl, rfl⟩
  · have h' : ¬ k < 0 := by omega
    go_enter Tryd.func31, Tryd.ntmps31
    go_wp2
    go_ret
    exact ⟨rfl, rfl⟩

theorem ref_fixed_int (n k : Int) (w : World) (h0 : 0 ≤ k) (h1 : k ≤ 32) :
    Calls Tryd.prog 31 #[.int .i64 n, .int .i64 k] w fun e w' => e = .returned (.string (strOf (fixedBits n k.toNat))) ∧ w = w' := by
  obtain ⟨j, rfl⟩ := Int.eq_ofNat_of_zero_le h0
  exact ref_fixed n j w (by omega)

set_option maxHeartbeats 400000 in
theorem ref_whole (n : Int) (w : World) :
    Calls Tryd.prog 29 #[.int .i64 n] w fun e w' => e = .returned (.string (strOf (wholeBits n))) ∧ w = w' := by
  have hc0 : 0 ≤ min (max n 0) 2147483647 := by omega
  have hc1 : min (max n 0) 2147483647 ≤ 2147483647 := by omega
  have hcw : (clampWhole n : Int) = min (max n 0) 2147483647 := by unfold clampWhole; omega
  have hwb : wholeBits n = fixedBits 0 (Lib.bitLen (clampWhole n + 1) - 1) ++ fixedBits ((clampWhole n + 1 : Nat) : Int) (Lib.bitLen (clampWhole n + 1)) := rfl
  have hcl := clampWhole_le n
  have hL := bitLen_le32 (clampWhole n + 1) (by omega) (by omega)
  have hsp := fun j : Nat => shr_pos (clampWhole n + 1) j (by omega) (by omega)
  have HSP := Lib.hid hsp; clear hsp
  have HWB := Lib.hid hwb; clear hwb
  generalize clampWhole n = c at *
  generalize Lib.bitLen (c + 1) = L at *
  obtain ⟨hL1, hL2⟩ := hL
  rw [show ((c + 1 : Nat) : Int) = (c : Int) + 1 by omega] at HWB HSP
  go_enter Tryd.func29, Tryd.ntmps29
  go_wp2_with (fail)
  rw [← hcw]
  clear hcw hc0 hc1
  go_loop [4] (fun s => ∃ j : Nat, j ≤ L ∧ s = .int .i64 (j : Int)) (fun s => L - (intOf s).toNat)
  case atStart => exact ⟨0, by omega, rfl⟩
  case round =>
    obtain ⟨j, hj, rfl⟩ := hrel
    have hsp := HSP.out j
    by_cases hlt : j < L
    · have ht := hsp.2 hlt
      clear hsp
      go_wp2
      go_round
      case rel => exact ⟨j + 1, by omega, by go_num⟩
      case measure => simp [intOf]; omega
    · have ht : ((c : Int) + 1) / 2 ^ j ≤ 0 := by have := mt hsp.1 hlt; omega
      clear hsp
      have ej : j = L := by omega
      subst ej
      go_wp2_with (fail)
      refine (ref_fixed_int 0 ((j : Int) - 1) _ (by omega) (by omega)).mono ?_
      rintro e w' ⟨rfl, rfl⟩
      have h1 : (strOf (fixedBits 0 ((j : Int) - 1).toNat)).size ≤ 40 := by rw [strOf_size, fixedBits_length]; omega
      generalize hX : strOf (fixedBits 0 ((j : Int) - 1).toNat) = X at *
      have HX := Lib.hid hX; clear hX
      go_wp2_with (fail)
      refine (ref_fixed_int _ (j : Int) _ (by omega) (by omega)).mono ?_
      rintro e w' ⟨rfl, rfl⟩
      have h2 : (strOf (fixedBits ((c : Int) + 1) (j : Int).toNat)).size ≤ 40 := by rw [strOf_size, fixedBits_length]; omega
      generalize hY : strOf (fixedBits ((c : Int) + 1) (j : Int).toNat) = Y at *
      have HY := Lib.hid hY; clear hY
      go_wp2
      go_ret
      refine ⟨?_, rfl⟩
      show Ending.returned (.string (X ++ Y)) = _
      rw [← HX.out, ← HY.out, strOf_append, HWB.out]
      have e2 : ((j : Int) - 1).toNat = j - 1 := by omega
      rw [e2, Int.toNat_natCast]

set_option maxHeartbeats 400000 in
theorem ref_signed (n : Int) (w : World) :
    Calls Tryd.prog 30 #[.int .i64 n] w fun e w' => e = .returned (.string (strOf (signedBits n))) ∧ w = w' := by
  have hc0 : -1073741824 ≤ min (max n (-1073741824)) 1073741824 := by omega
  have hc1 : min (max n (-1073741824)) 1073741824 ≤ 1073741824 := by omega
  by_cases hpos : 0 < min (max n (-1073741824)) 1073741824
  · have hs : signedBits n = wholeBits (2 * min (max n (-1073741824)) 1073741824 - 1) := by unfold signedBits clampSigned; rw [if_pos hpos]
    have HS := Lib.hid hs; clear hs
    go_enter Tryd.func30, Tryd.ntmps30
    go_wp2_with (fail)
    refine (ref_whole _ _).mono ?_
    rintro e w1 ⟨rfl, rfl⟩
    go_wp2
    go_ret
    exact ⟨by rw [HS.out]; rfl, rfl⟩
  · have hs : signedBits n = wholeBits (-2 * min (max n (-1073741824)) 1073741824) := by unfold signedBits clampSigned; rw [if_neg hpos]
    have HS := Lib.hid hs; clear hs
    go_enter Tryd.func30, Tryd.ntmps30
    go_wp2_with (fail)
    refine (ref_whole _ _).mono ?_
    rintro e w1 ⟨rfl, rfl⟩
    go_wp2
    go_ret
    refine ⟨?_, rfl⟩
    rw [HS.out]
    first | rfl | (simp; rfl)

set_option maxHeartbeats 400000 in
theorem ref_end (n : Nat) (w : World) (hn : n < 1099511627776) :
    Calls Tryd.prog 38 #[.int .i64 (n : Int)] w fun e w' => e = .returned (.string (strOf (endBits n))) ∧ w = w' := by
  go_enter Tryd.func38, Tryd.ntmps38
  go_wp2_with (fail)
  go_loopg [3] (7 - n % 8) (fun k s wr => w = wr ∧ ∃ j : Nat, j + k = 7 - n % 8 ∧ s = .string (strOf (true :: List.replicate j false)))
  case atStart => exact ⟨rfl, 0, by omega, rfl⟩
  case round =>
    obtain ⟨rfl, j, hj, rfl⟩ := hrel
    have hsz := strOf_size (true :: List.replicate j false)
    have hsz' : (strOf (true :: List.replicate j false)).size = j + 1 := by rw [hsz]; simp
    clear hsz
    have HJ := Lib.hid hj
    have hj7 : j ≤ 7 := by omega
    by_cases h8 : gk = 0
    · have hb : (((n : Int) + ((j : Int) + 1)) % 8 != 0) = false := by simp; omega
      clear hj
      go_wp2
      go_ret
      have ej : j = 7 - n % 8 := by have := HJ.out; omega
      subst ej
      exact ⟨rfl, rfl⟩
    · have hb : (((n : Int) + ((j : Int) + 1)) % 8 != 0) = true := by simp; omega
      clear hj
      go_wp2
      go_roundg (gk - 1)
      case measure => omega
      case rel => exact ⟨rfl, j + 1, by have := HJ.out; omega, by rw [strOf_nil, List.replicate_succ']; rfl⟩
end Go.Proofs.YtipimcnjcpckeaaDoor
