/- A writer's Whole, Signed, End, Bytes and Many; and all of them on none. -/
import Derived.Test.YtipimcnjcpckeaaDoorWr
import Derived.Test.YtipimcnjcpckeaaDoorLen
import Derived.Deep.LoopGhost
import Derived.Deep.OwnRows
import Derived.Laws.CopyOwn
namespace Go.Proofs.YtipimcnjcpckeaaDoor
open Go.RowKit

/-- The bits of a number from 1 on: as many bits 0 as it has behind its highest, and it. -/
def golomb (m : Nat) : List Bool := fixedBits 0 (Lib.bitLen m - 1) ++ fixedBits (m : Int) (Lib.bitLen m)

/-- A number, clamped to 0 to 2^31 - 1. -/
def clampWhole (n : Int) : Nat := (min (max n 0) 2147483647).toNat

def wholeBits (n : Int) : List Bool := golomb (clampWhole n + 1)

theorem clampWhole_le (n : Int) : clampWhole n ≤ 2147483647 := by unfold clampWhole; omega

theorem bitLen_bounds (m : Nat) (h0 : m ≠ 0) (h : m < 2 ^ 64) : 1 ≤ Lib.bitLen m ∧ 2 ^ (Lib.bitLen m - 1) ≤ m ∧ m < 2 ^ Lib.bitLen m := Lib.bitLenAux_bounds 64 m h h0

theorem bitLen_le32 (m : Nat) (h0 : m ≠ 0) (h : m ≤ 2147483648) : 1 ≤ Lib.bitLen m ∧ Lib.bitLen m ≤ 32 :=
  ⟨(bitLen_bounds m h0 (by omega)).1, Lib.bitLen_le m 32 (by omega) (by omega)⟩

theorem fixed_int (p : Nat) (r : Option Nat) (bs : List Bool) (n k : Int) (w : World) (h0 : 0 ≤ k) (h1 : k ≤ 32) (hm : bs.length + 32 < 1099511627776) (h : WrIs w p r bs) :
    Calls Tryd.prog 41 #[.pointer (some ⟨p, 0, none⟩), .int .i64 n, .int .i64 k] w fun e w' => e = .returned (.tuple #[]) ∧ Wrote w w' p r (bs ++ fixedBits n k.toNat) := by
  obtain ⟨j, rfl⟩ := Int.eq_ofNat_of_zero_le h0
  exact fixed_some p r bs n j w (by omega) hm h

set_option maxHeartbeats 400000 in
theorem whole_any (p : Nat) (r : Option Nat) (bs : List Bool) (n : Int) (w : World) (hm : bs.length + 64 < 1099511627776) (h : WrIs w p r bs) :
    Calls Tryd.prog 24 #[.pointer (some ⟨p, 0, none⟩), .int .i64 n] w fun e w' => e = .returned (.tuple #[]) ∧ Wrote w w' p r (bs ++ wholeBits n) := by
  have H0 := Lib.hid h; clear h
  go_enter Tryd.func24, Tryd.ntmps24
  go_wp2_with (fail)
  have hc0 : 0 ≤ min (max n 0) 2147483647 := by omega
  have hc1 : min (max n 0) 2147483647 ≤ 2147483647 := by omega
  have hcw : clampWhole n + 1 = (min (max n 0) 2147483647 + 1).toNat := by unfold clampWhole; omega
  have HC := Lib.hid hcw; clear hcw
  generalize min (max n 0) 2147483647 = c at *
  refine (Tryd.len64_any (c + 1) _ (by omega) (by omega)).mono ?_
  rintro e w' ⟨rfl, rfl⟩
  have hb := bitLen_le32 (c + 1).toNat (by omega) (by omega)
  generalize hk : Lib.bitLen (c + 1).toNat = k at *
  have HK := Lib.hid hk; clear hk
  obtain ⟨hk1, hk2⟩ := hb
  go_wp2_with (fail)
  refine (fixed_int p r bs 0 ((k : Int) - 1) _ (by omega) (by omega) (by omega) H0.out).mono ?_
  rintro e w1 ⟨rfl, r1, hw1, hr1, hkp1⟩
  have HW1 := Lib.hid hw1; clear hw1
  have HR1 := Lib.hid hr1; clear hr1
  have HP1 := Lib.hid hkp1; clear hkp1
  go_wp2_with (fail)
  refine (fixed_int p r1 _ (c + 1) (k : Int) _ (by omega) (by omega) (by simp [fixedBits_length]; omega) HW1.out).mono ?_
  rintro e w2 ⟨rfl, hw2⟩
  have HW2 := Lib.hid (Wrote.trans HP1.out HR1.out hw2); clear hw2
  go_wp2
  go_end0
  refine ⟨rfl, ?_⟩
  have e : wholeBits n = fixedBits 0 ((k : Int) - 1).toNat ++ fixedBits (c + 1) (k : Int).toNat := by
    have e1 : (((c + 1).toNat : Nat) : Int) = c + 1 := by omega
    have e2 : ((k : Int) - 1).toNat = k - 1 := by omega
    unfold wholeBits golomb; rw [HC.out, HK.out, e1, e2, Int.toNat_natCast]
  rw [e, ← List.append_assoc]
  exact HW2.out

def endBits (n : Nat) : List Bool := true :: List.replicate (7 - n % 8) false

set_option maxHeartbeats 400000 in
theorem end_any (p : Nat) (r : Option Nat) (bs : List Bool) (w : World) (hm : bs.length + 8 < 1099511627776) (h : WrIs w p r bs) :
    Calls Tryd.prog 23 #[.pointer (some ⟨p, 0, none⟩)] w fun e w' => e = .returned (.tuple #[]) ∧ Wrote w w' p r (bs ++ endBits bs.length) := by
  have H0 := Lib.hid h; clear h
  go_enter Tryd.func23, Tryd.ntmps23
  go_wp2_with (fail)
  refine (bit_any p r bs _ _ (by omega) H0.out).mono ?_
  rintro e w1 ⟨rfl, hw1⟩
  have HW := Lib.hid hw1; clear hw1
  go_wp2_with (fail)
  go_loopg [] (7 - bs.length % 8) (fun k wr => ∃ j : Nat, j + k = 7 - bs.length % 8 ∧ Wrote w wr p r (bs ++ true :: List.replicate j false))
  case atStart => exact ⟨0, by omega, HW.out⟩
  case round =>
    obtain ⟨j, hj, hw⟩ := hrel
    have hw0 := hw
    obtain ⟨r', hi, hr', hkp⟩ := hw0
    have hi0 := hi
    obtain ⟨v, hp, -, -, -⟩ := hi0
    have h1 : wr.cell? ⟨p, 1, none⟩ = some (.int .i64 ((bs.length : Int) + 1 + (j : Int))) := by rw [cell_of_heap hp]; simp; omega
    have HW1 := Lib.hid hw; clear hw
    have HI := Lib.hid hi; clear hi
    have HR := Lib.hid hr'; clear hr'
    have HK := Lib.hid hkp; clear hkp hp
    clear HW H0
    have HJ := Lib.hid hj
    by_cases h8 : gk = 0
    · have hb : (((bs.length : Int) + 1 + (j : Int)) % 8 != 0) = false := by simp; omega
      clear hj
      go_wp2_with (fail)
      go_end0
      have ej : j = 7 - bs.length % 8 := by have := HJ.out; omega
      subst ej
      exact ⟨rfl, HW1.out⟩
    · have hb : (((bs.length : Int) + 1 + (j : Int)) % 8 != 0) = true := by simp; omega
      clear hj
      go_wp2_with (fail)
      refine (bit_any p r' _ _ _ (by simp; have := HJ.out; omega) HI.out).mono ?_
      rintro e w2 ⟨rfl, hw2⟩
      have HW2 := Lib.hid (Wrote.trans HK.out HR.out hw2); clear hw2
      go_wp2
      go_roundg (gk - 1)
      case measure => omega
      case rel =>
        refine ⟨j + 1, by have := HJ.out; omega, ?_⟩
        have e : (true :: List.replicate (j + 1) false) = (true :: List.replicate j false) ++ [lowBit 0] := by
          rw [List.replicate_succ']; rfl
        rw [e, ← List.append_assoc]; exact HW2.out
end Go.Proofs.YtipimcnjcpckeaaDoor
