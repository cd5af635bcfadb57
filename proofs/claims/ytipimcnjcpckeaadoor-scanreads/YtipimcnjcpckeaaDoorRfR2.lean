/- The document's reader: Fixed, where there are so many bits. -/
import Derived.Test.YtipimcnjcpckeaaDoorRfR
namespace Go.Proofs.YtipimcnjcpckeaaDoor
open Go.RowKit

set_option maxHeartbeats 1000000 in
theorem rf_fixed_ok (x : Nat) (l : List Nat) (a k : Nat) (w : World) (hlen : l.length ≤ 1000) (hk : k ≤ 32) (h : RfAt w x l a false) (hak : a + k ≤ 8 * l.length) :
    Calls Tryd.prog 49 #[.pointer (some ⟨x, 0, none⟩), .int .i64 (k : Int)] w (RfDone w x l ((valAt l a k : Int), some (a + k))) := by
  obtain ⟨h0, h1, h2, f1, -⟩ := h.facts
  have H0 := Lib.hid h; clear h
  have hsz : (strOf (bitsOf l)).size = 8 * l.length := by rw [strOf_size, bitsOf_length]
  have hch : ∀ j, j < k → ∀ (hh : a + j < (strOf (bitsOf l)).size), (((strOf (bitsOf l))[a + j]'hh).toNat : Int) = 48 + ((bitAt l (a + j)).toNat : Int) := by
    intro j hj hh
    rw [chr_val, bitsOf_getD l (a + j) (by omega)]
  have HC := Lib.hid hch; clear hch
  generalize strOf (bitsOf l) = s at *
  have d0 : decide ((k : Int) < 0) = false := by simp
  have d1 : decide (32 < (k : Int)) = false := by simp; omega
  have d2 : decide (8 * (l.length : Int) < (a : Int) + (k : Int)) = false := by simp; omega
  have hw : IntKind.i64.wrap ((a : Int) + (k : Int)) = (a : Int) + (k : Int) := by rw [IntKind.wrap_i64]; omega
  go_enter Tryd.func49, Tryd.ntmps49
  go_wp2_with (fail)
  go_quiet (fail)
  go_wp2_with (fail)
  clear hw d0 d1 d2
  go_loopg [5, 6] k (fun gg n i wr => ∃ j : Nat, j + gg = k ∧ i = .int .i64 (j : Int) ∧ n = .int .i64 (valAt l a j : Int) ∧ ∃ t, wr = w.drewN t)
  case atStart => exact ⟨0, by omega, rfl, rfl, _, rfl⟩
  case round =>
    obtain ⟨j, hj, rfl, rfl, t, rfl⟩ := hrel
    have HJ := Lib.hid hj
    have hv : valAt l a j < 4294967296 := Nat.lt_of_lt_of_le (valAt_lt l a j) (by have := Nat.pow_le_pow_right (n := 2) (by decide) (show j ≤ 32 by omega); simpa using this)
    by_cases hlt : j < k
    · have hh : a + j < s.size := by omega
      have hc := HC.out j hlt hh
      have hb := toNat_le_one (bitAt l (a + j))
      have hsu : valAt l a (j + 1) = 2 * valAt l a j + (bitAt l (a + j)).toNat := rfl
      have HSU := Lib.hid hsu; clear hsu
      generalize (bitAt l (a + j)).toNat = bb at *
      generalize valAt l a j = vv at *
      have g1 : 0 ≤ (a : Int) + (j : Int) := by omega
      have g2 : ((a : Int) + (j : Int)).toNat = a + j := by omega
      have g3 : (a : Int) + (j : Int) < (s.size : Int) := by omega
      have g4 : IntKind.i64.wrap ((a : Int) + (j : Int)) = (a : Int) + (j : Int) := by rw [IntKind.wrap_i64]; omega
      have g5 : IntKind.i64.wrap (2 * (vv : Int)) = 2 * (vv : Int) := by rw [IntKind.wrap_i64]; omega
      clear hj
      go_wp2_with (fail)
      go_quiet (fail)
      go_wp2
      go_roundg (gk - 1)
      case measure => have := HJ.out; omega
      case rel => exact ⟨j + 1, by have := HJ.out; omega, by go_num, by rw [HSU.out]; go_num, _, rfl⟩
    · have ej : j = k := by omega
      clear HJ hj
      subst ej
      go_wp2
      go_ret
      refine ⟨rfl, ⟨hak, ?_⟩, ?_⟩
      · exact (H0.out.kept ((Kept.refl (fun _ => False) _).drewN _) id).setAt (a + j) _ (by omega)
      · exact ((Kept.refl (· = x) _).drewN _).setCell _ (fun _ => rfl) _

/-- Fixed, whatever the reader's state and the number of bits. -/
theorem rf_fixed (x : Nat) (l : List Nat) (st : Option Nat) (k : Int) (w : World) (hlen : l.length ≤ 1000) (h : RfIs w x l st) :
    Calls Tryd.prog 49 #[.pointer (some ⟨x, 0, none⟩), .int .i64 k] w (RfDone w x l (rdStep (fixedRd l k) st)) := by
  cases st with
  | none =>
    obtain ⟨a, ha, h⟩ := h
    exact rf_fixed_lost x l a k w ha h
  | some a =>
    obtain ⟨ha, h⟩ := h
    by_cases hb : k < 0 ∨ 32 < k ∨ 8 * (l.length : Int) < a + k
    · have e : rdStep (fixedRd l k) (some a) = (0, none) := by
        have : fixedRd l k a = none := by
          unfold fixedRd
          by_cases h1 : k < 0 ∨ 32 < k
          · rw [if_pos h1]
          · rw [if_neg h1]; unfold fixedAt; rw [if_neg (by omega)]
        simp [rdStep, this]
      rw [e]; exact rf_fixed_bad x l a k w ha hlen h hb
    · obtain ⟨j, rfl⟩ := Int.eq_ofNat_of_zero_le (show 0 ≤ k by omega)
      have e : rdStep (fixedRd l (j : Int)) (some a) = ((valAt l a j : Int), some (a + j)) := by
        have : fixedRd l (j : Int) a = some ((valAt l a j : Int), a + j) := by
          unfold fixedRd; rw [if_neg (by omega)]; unfold fixedAt; rw [Int.toNat_natCast, if_pos (by omega)]
        simp [rdStep, this]
      rw [e]; exact rf_fixed_ok x l a j w hlen (by omega) h (by omega)

/-- A bit is the number of one bit. -/
theorem fixedRd_one (l : List Nat) (st : Option Nat) : rdStep (fixedRd l 1) st = rdStep (nextAt l) st := by
  cases st with
  | none => rfl
  | some a =>
    have : fixedRd l 1 a = nextAt l a := by
      unfold fixedRd; rw [if_neg (by omega)]
      unfold fixedAt nextAt
      by_cases h : a < 8 * l.length
      · rw [if_pos h, if_pos (show a + (1 : Int).toNat ≤ 8 * l.length by simp; omega)]; simp [valAt]
      · rw [if_neg h, if_neg (show ¬ a + (1 : Int).toNat ≤ 8 * l.length by simp; omega)]
    simp only [rdStep, this]
end Go.Proofs.YtipimcnjcpckeaaDoor
