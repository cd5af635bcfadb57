/- The document's reader: Whole and Signed. -/
import Derived.Test.YtipimcnjcpckeaaDoorRfR2
namespace Go.Proofs.YtipimcnjcpckeaaDoor
open Go.RowKit

theorem valAt_front (l : List Nat) (a k : Nat) : valAt l a (k + 1) = (bitAt l a).toNat * 2 ^ k + valAt l (a + 1) k := by
  induction k with
  | zero => simp [valAt]
  | succ k ih =>
    have e : valAt l a (k + 2) = 2 * valAt l a (k + 1) + (bitAt l (a + (k + 1))).toNat := rfl
    have e2 : valAt l (a + 1) (k + 1) = 2 * valAt l (a + 1) k + (bitAt l (a + 1 + k)).toNat := rfl
    rw [e, ih, e2, show a + (k + 1) = a + 1 + k by omega, Nat.pow_succ]
    have : (bitAt l a).toNat * (2 ^ k * 2) = 2 * ((bitAt l a).toNat * 2 ^ k) := by rw [← Nat.mul_assoc]; omega
    omega

/-- So many bits 0 are read. -/
theorem wholeFrom_run (l : List Nat) (a : Nat) : ∀ z, z ≤ 31 → a + z ≤ 8 * l.length → (∀ i, i < z → bitAt l (a + i) = false) → wholeAt l a = wholeFrom l a (33 - z) z := by
  intro z
  induction z with
  | zero => intro _ _ _; rfl
  | succ z ih =>
    intro hz ha h0
    rw [ih (by omega) (by omega) (fun i hi => h0 i (by omega))]
    have e : 33 - z = (33 - (z + 1)) + 1 := by omega
    rw [e]
    show (if a + z < 8 * l.length then _ else none) = _
    rw [if_pos (by omega), h0 z (by omega), if_neg (show ¬ 31 < z + 1 by omega)]
    simp

theorem wholeAt_many (l : List Nat) (a z : Nat) (hz : 32 ≤ z) (ha : a + z ≤ 8 * l.length) (h0 : ∀ i, i < z → bitAt l (a + i) = false) : wholeAt l a = none := by
  rw [wholeFrom_run l a 31 (by omega) (by omega) (fun i hi => h0 i (by omega))]
  show (if a + 31 < 8 * l.length then _ else none) = _
  rw [if_pos (by omega), h0 31 (by omega)]
  simp

theorem wholeAt_end (l : List Nat) (a z : Nat) (hz : z ≤ 31) (ha : a + z = 8 * l.length) (h0 : ∀ i, i < z → bitAt l (a + i) = false) : wholeAt l a = none := by
  rw [wholeFrom_run l a z hz (by omega) h0]
  have e : 33 - z = (32 - z) + 1 := by omega
  rw [e]
  show (if a + z < 8 * l.length then _ else none) = _
  rw [if_neg (by omega)]

theorem wholeAt_one (l : List Nat) (a z : Nat) (hz : z ≤ 31) (ha : a + z < 8 * l.length) (h1 : bitAt l (a + z) = true) (h0 : ∀ i, i < z → bitAt l (a + i) = false) :
    wholeAt l a = if a + z + (z + 1) ≤ 8 * l.length then some ((valAt l (a + z) (z + 1) : Int) - 1, a + z + (z + 1)) else none := by
  rw [wholeFrom_run l a z hz (by omega) h0]
  have e : 33 - z = (32 - z) + 1 := by omega
  rw [e]
  show (if a + z < 8 * l.length then (if bitAt l (a + z) then (if a + z + 1 + z ≤ 8 * l.length then _ else none) else _) else none) = _
  rw [if_pos ha, h1, if_pos rfl, valAt_front, h1]
  by_cases hf : a + z + 1 + z ≤ 8 * l.length
  · rw [if_pos hf, if_pos (by omega)]; simp; omega
  · rw [if_neg hf, if_neg (by omega)]

/-- What stands behind the bits 0, as the document's reader reads it. -/
def Tail (l : List Nat) (a z : Nat) : Prop :=
  (z ≤ 31 → fixedRd l ((z : Int) + 1) (a + z) = none → wholeAt l a = none) ∧
  (z ≤ 31 → ∀ v a2, fixedRd l ((z : Int) + 1) (a + z) = some (v, a2) → wholeAt l a = some (v - 1, a2) ∧ 0 ≤ v ∧ v ≤ 4294967296)

theorem fixedRd_nat (l : List Nat) (z p : Nat) (hz : z ≤ 31) : fixedRd l ((z : Int) + 1) p = fixedAt l p (z + 1) := by
  unfold fixedRd; rw [if_neg (by omega), show ((z : Int) + 1).toNat = z + 1 by omega]

theorem tail_one (l : List Nat) (a z : Nat) (ha : a + z < 8 * l.length) (h1 : bitAt l (a + z) = true) (h0 : ∀ i, i < z → bitAt l (a + i) = false) : Tail l a z := by
  refine ⟨fun hz h => ?_, fun hz v a2 h => ?_⟩
  · rw [fixedRd_nat l z _ hz] at h
    rw [wholeAt_one l a z hz ha h1 h0]
    unfold fixedAt at h
    split at h
    · cases h
    · rename_i hn; rw [if_neg hn]
  · rw [fixedRd_nat l z _ hz] at h
    rw [wholeAt_one l a z hz ha h1 h0]
    unfold fixedAt at h
    split at h
    · rename_i hp
      cases h
      rw [if_pos hp]
      have := valAt_lt l (a + z) (z + 1)
      have h2 : (2 : Nat) ^ (z + 1) ≤ 4294967296 := by have := Nat.pow_le_pow_right (n := 2) (by decide) (show z + 1 ≤ 32 by omega); simpa using this
      exact ⟨rfl, by omega, by omega⟩
    · cases h

theorem tail_end (l : List Nat) (a z : Nat) (ha : a + z = 8 * l.length) (h0 : ∀ i, i < z → bitAt l (a + i) = false) : Tail l a z := by
  refine ⟨fun hz _ => wholeAt_end l a z hz ha h0, fun hz v a2 h => ?_⟩
  rw [fixedRd_nat l z _ hz] at h
  unfold fixedAt at h
  rw [if_neg (by omega)] at h
  cases h

set_option maxHeartbeats 2000000 in
theorem rf_whole_lost (x : Nat) (l : List Nat) (a : Nat) (most : Int) (w : World) (hlen : l.length ≤ 1000) (ha : a ≤ 8 * l.length) (h : RfAt w x l a true) :
    Calls Tryd.prog 35 #[.pointer (some ⟨x, 0, none⟩), .int .i64 most] w (RfDone w x l (0, none)) := by
  obtain ⟨h0, h1, h2, f1, f2⟩ := h.facts
  have H0 := Lib.hid h; clear h
  generalize strOf (bitsOf l) = s at *
  go_enter Tryd.func35, Tryd.ntmps35
  go_wp2_with (fail)
  refine wp_loop_rounds 1 ?_
  rw [rounds_succ]
  go_wp2_with (fail)
  go_quiet (fail)
  go_wp2_with (fail)
  have hk1 : RfIs (w.drewN nq) x l none := ⟨a, ha, H0.out.kept ((Kept.refl (fun _ => False) _).drewN _) id⟩
  refine (rf_fixed x l none _ _ hlen hk1).mono ?_
  rintro e w1 ⟨rfl, ⟨a1, ha1, h1'⟩, hkp⟩
  have HK := Lib.hid (((Kept.refl (· = x) w).drewN nq).trans hkp (fun _ _ x => x)); clear hkp hk1 h0 h1 h2 f1 f2
  obtain ⟨-, -, h2, -, f2⟩ := h1'.facts
  have H1 := Lib.hid h1'; clear h1'
  simp only [rdStep]
  go_wp2
  go_ret
  exact ⟨rfl, ⟨a1, ha1, H1.out.setLost true⟩, HK.out.setCell _ (fun _ => rfl) _⟩

set_option maxHeartbeats 4000000 in
theorem rf_whole_some (x : Nat) (l : List Nat) (a : Nat) (most : Int) (w : World) (hlen : l.length ≤ 1000) (ha : a ≤ 8 * l.length) (h : RfAt w x l a false) :
    Calls Tryd.prog 35 #[.pointer (some ⟨x, 0, none⟩), .int .i64 most] w (RfDone w x l (rdStep (wholeRd l most) (some a))) := by
  have H0 := Lib.hid h; clear h
  have hsz : (strOf (bitsOf l)).size = 8 * l.length := by rw [strOf_size, bitsOf_length]
  have hch : ∀ i (hh : i < (strOf (bitsOf l)).size), (((strOf (bitsOf l))[i]'hh).toNat : Int) = 48 + ((bitAt l i).toNat : Int) := by
    intro i hh
    rw [chr_val, bitsOf_getD l i (by omega)]
  have HC := Lib.hid hch; clear hch
  go_enter Tryd.func35, Tryd.ntmps35
  go_wp2_with (fail)
  go_loopg [5] (8 * l.length - a) (fun gg s wr => ∃ z : Nat, a + z + gg = 8 * l.length ∧ s = .int .i64 (z : Int) ∧ (∀ i, i < z → bitAt l (a + i) = false) ∧ RfAt wr x l (a + z) false ∧ Kept (· = x) w wr)
  case atStart => exact ⟨0, by omega, rfl, by omega, H0.out, Kept.refl _ _⟩
  case round =>
    obtain ⟨z, hz, rfl, hzz, hr, hkp⟩ := hrel
    obtain ⟨h0, h1, h2, f1, f2⟩ := hr.facts
    have HR := Lib.hid hr; have HK := Lib.hid hkp; have HZ := Lib.hid hzz; clear hr hkp hzz H0
    have haz : a + z ≤ 8 * l.length := by omega
    rw [show ((a + z : Nat) : Int) = (a : Int) + (z : Int) by omega] at h1
    have ht : (z ≤ 31 → (a + z = 8 * l.length ∨ bitAt l (a + z) = true) → True) := fun _ _ => trivial
    clear ht
    have HG := Lib.hid hz
    by_cases hin : a + z < 8 * l.length
    · have hh : a + z < (strOf (bitsOf l)).size := by omega
      have hc := HC.out (a + z) hh
      generalize strOf (bitsOf l) = s at *
      have g1 : 0 ≤ (a : Int) + (z : Int) := by omega
      have g2 : ((a : Int) + (z : Int)).toNat = a + z := by omega
      have g3 : (a : Int) + (z : Int) < (s.size : Int) := by omega
      have d1 : decide ((a : Int) + (z : Int) < 8 * (l.length : Int)) = true := by simp; omega
      cases hb : bitAt l (a + z) with
      | false =>
        rw [hb] at hc
        have hc2 : ((s[a + z]'hh).toNat : Int) = 48 := by rw [hc]; rfl
        have HB := Lib.hid hb; clear hb hc
        clear hz
        go_wp2_with (fail)
        go_quiet (fail)
        go_wp2
        go_roundg (gk - 1)
        case measure => have := HG.out; omega
        case rel =>
          refine ⟨z + 1, by have := HG.out; omega, by go_num, ?_, ?_, ?_⟩
          · intro i hi
            by_cases hiz : i = z
            · subst hiz; exact HB.out
            · exact HZ.out i (by omega)
          · exact (HR.out.kept ((Kept.refl (fun _ => False) _).drewN _) id).setAt (a + (z + 1)) _ (by omega)
          · exact (HK.out.drewN _).setCell _ (fun _ => rfl) _
      | true =>
        rw [hb] at hc
        have hc2 : ((s[a + z]'hh).toNat : Int) = 49 := by rw [hc]; rfl
        have HT := Lib.hid (tail_one l a z (by omega) hb HZ.out)
        clear hb hc hz HG

        by_cases hz31 : 31 < z
        · -- too many bits 0
          have hno : wholeRd l most a = none := by
            have := wholeAt_many l a z (by omega) haz HZ.out
            simp [wholeRd, this]
          have HNO := Lib.hid hno; clear hno
          have hmin : min (z : Int) 31 = 31 := by omega
          go_wp2_with (fail)
          go_quiet (fail)
          go_wp2_with (fail)
          refine (rf_fixed x l none _ _ hlen ⟨a + z, haz, (HR.out.kept ((Kept.refl (fun _ => False) _).drewN _) id).setLost true⟩).mono ?_
          rintro e w1 ⟨rfl, ⟨a1, ha1, h1'⟩, hkp⟩
          have HK1 := Lib.hid ((((HK.out.drewN _).setCell _ (fun _ => rfl) _)).trans hkp (fun _ _ x => x)); clear hkp
          clear h0 h1 h2 f1 f2
          obtain ⟨-, -, h2, -, f2⟩ := h1'.facts
          have H1 := Lib.hid h1'; clear h1'
          simp only [rdStep]
          go_wp2
          go_ret
          have e0 : rdStep (wholeRd l most) (some a) = (0, none) := by simp [rdStep, HNO.out]
          rw [e0]
          exact ⟨rfl, ⟨a1, ha1, H1.out.setLost true⟩, HK1.out.setCell _ (fun _ => rfl) _⟩
        · have hmin : min (z : Int) 31 = (z : Int) := by omega
          go_wp2_with (fail)
          go_quiet (fail)
          go_wp2_with (fail)
          refine (rf_fixed x l (some (a + z)) _ _ hlen ⟨haz, HR.out.kept ((Kept.refl (fun _ => False) _).drewN _) id⟩).mono ?_
          intro e w1 hd
          obtain ⟨rfl, hst, hkp⟩ := hd
          have HK1 := Lib.hid ((HK.out.drewN _).trans hkp (fun _ _ x => x)); clear hkp
          clear h0 h1 h2 f1 f2
          cases hfx : fixedRd l ((z : Int) + 1) (a + z) with
          | none =>
            have e1 : rdStep (fixedRd l ((z : Int) + 1)) (some (a + z)) = (0, none) := by simp [rdStep, hfx]
            rw [e1] at hst ⊢
            obtain ⟨a1, ha1, h1'⟩ := hst
            obtain ⟨-, -, h2, -, f2⟩ := h1'.facts
            have H1 := Lib.hid h1'; clear h1'
            have e0 : rdStep (wholeRd l most) (some a) = (0, none) := by
              have := HT.out.1 (by omega) hfx
              simp [rdStep, wholeRd, this]
            have E0 := Lib.hid e0; clear e0 e1 hfx
            dsimp only
            go_wp2
            go_ret
            rw [E0.out]
            exact ⟨rfl, ⟨a1, ha1, H1.out.setLost true⟩, HK1.out.setCell _ (fun _ => rfl) _⟩
          | some na =>
            obtain ⟨v, a2⟩ := na
            have e1 : rdStep (fixedRd l ((z : Int) + 1)) (some (a + z)) = (v, some a2) := by simp [rdStep, hfx]
            rw [e1] at hst ⊢
            obtain ⟨ha2, h1'⟩ := hst
            obtain ⟨-, -, h2, -, f2⟩ := h1'.facts
            have H1 := Lib.hid h1'; clear h1'
            obtain ⟨hw2, hv0, hv1⟩ := HT.out.2 (by omega) v a2 hfx
            have HW2 := Lib.hid hw2; clear hw2 e1 hfx
            dsimp only
            by_cases hm : most < v - 1
            · have e0 : rdStep (wholeRd l most) (some a) = (0, none) := by simp [rdStep, wholeRd, HW2.out, hm]
              have E0 := Lib.hid e0; clear e0
              have dm : decide (most < v - 1) = true := by simpa using hm
              go_wp2
              go_ret
              rw [E0.out]
              exact ⟨rfl, ⟨a2, ha2, H1.out.setLost true⟩, HK1.out.setCell _ (fun _ => rfl) _⟩
            · have e0 : rdStep (wholeRd l most) (some a) = (v - 1, some a2) := by simp [rdStep, wholeRd, HW2.out, hm]
              have E0 := Lib.hid e0; clear e0
              have dm : decide (most < v - 1) = false := by simpa using hm
              go_wp2
              go_ret
              rw [E0.out]
              exact ⟨rfl, ⟨ha2, H1.out⟩, HK1.out⟩
    · have d1 : decide ((a : Int) + (z : Int) < 8 * (l.length : Int)) = false := by simp; omega
      have HT := Lib.hid (tail_end l a z (by omega) HZ.out)
      generalize strOf (bitsOf l) = s at *
      clear hz HG

      by_cases hz31 : 31 < z
      · -- too many bits 0
        have hno : wholeRd l most a = none := by
          have := wholeAt_many l a z (by omega) haz HZ.out
          simp [wholeRd, this]
        have HNO := Lib.hid hno; clear hno
        have hmin : min (z : Int) 31 = 31 := by omega
        go_wp2_with (fail)
        go_quiet (fail)
        go_wp2_with (fail)
        refine (rf_fixed x l none _ _ hlen ⟨a + z, haz, (HR.out.kept ((Kept.refl (fun _ => False) _).drewN _) id).setLost true⟩).mono ?_
        rintro e w1 ⟨rfl, ⟨a1, ha1, h1'⟩, hkp⟩
        have HK1 := Lib.hid ((((HK.out.drewN _).setCell _ (fun _ => rfl) _)).trans hkp (fun _ _ x => x)); clear hkp
        clear h0 h1 h2 f1 f2
        obtain ⟨-, -, h2, -, f2⟩ := h1'.facts
        have H1 := Lib.hid h1'; clear h1'
        simp only [rdStep]
        go_wp2
        go_ret
        have e0 : rdStep (wholeRd l most) (some a) = (0, none) := by simp [rdStep, HNO.out]
        rw [e0]
        exact ⟨rfl, ⟨a1, ha1, H1.out.setLost true⟩, HK1.out.setCell _ (fun _ => rfl) _⟩
      · have hmin : min (z : Int) 31 = (z : Int) := by omega
        go_wp2_with (fail)
        go_quiet (fail)
        go_wp2_with (fail)
        refine (rf_fixed x l (some (a + z)) _ _ hlen ⟨haz, HR.out.kept ((Kept.refl (fun _ => False) _).drewN _) id⟩).mono ?_
        intro e w1 hd
        obtain ⟨rfl, hst, hkp⟩ := hd
        have HK1 := Lib.hid ((HK.out.drewN _).trans hkp (fun _ _ x => x)); clear hkp
        clear h0 h1 h2 f1 f2
        cases hfx : fixedRd l ((z : Int) + 1) (a + z) with
        | none =>
          have e1 : rdStep (fixedRd l ((z : Int) + 1)) (some (a + z)) = (0, none) := by simp [rdStep, hfx]
          rw [e1] at hst ⊢
          obtain ⟨a1, ha1, h1'⟩ := hst
          obtain ⟨-, -, h2, -, f2⟩ := h1'.facts
          have H1 := Lib.hid h1'; clear h1'
          have e0 : rdStep (wholeRd l most) (some a) = (0, none) := by
            have := HT.out.1 (by omega) hfx
            simp [rdStep, wholeRd, this]
          have E0 := Lib.hid e0; clear e0 e1 hfx
          dsimp only
          go_wp2
          go_ret
          rw [E0.out]
          exact ⟨rfl, ⟨a1, ha1, H1.out.setLost true⟩, HK1.out.setCell _ (fun _ => rfl) _⟩
        | some na =>
          obtain ⟨v, a2⟩ := na
          have e1 : rdStep (fixedRd l ((z : Int) + 1)) (some (a + z)) = (v, some a2) := by simp [rdStep, hfx]
          rw [e1] at hst ⊢
          obtain ⟨ha2, h1'⟩ := hst
          obtain ⟨-, -, h2, -, f2⟩ := h1'.facts
          have H1 := Lib.hid h1'; clear h1'
          obtain ⟨hw2, hv0, hv1⟩ := HT.out.2 (by omega) v a2 hfx
          have HW2 := Lib.hid hw2; clear hw2 e1 hfx
          dsimp only
          by_cases hm : most < v - 1
          · have e0 : rdStep (wholeRd l most) (some a) = (0, none) := by simp [rdStep, wholeRd, HW2.out, hm]
            have E0 := Lib.hid e0; clear e0
            have dm : decide (most < v - 1) = true := by simpa using hm
            go_wp2
            go_ret
            rw [E0.out]
            exact ⟨rfl, ⟨a2, ha2, H1.out.setLost true⟩, HK1.out.setCell _ (fun _ => rfl) _⟩
          · have e0 : rdStep (wholeRd l most) (some a) = (v - 1, some a2) := by simp [rdStep, wholeRd, HW2.out, hm]
            have E0 := Lib.hid e0; clear e0
            have dm : decide (most < v - 1) = false := by simpa using hm
            go_wp2
            go_ret
            rw [E0.out]
            exact ⟨rfl, ⟨ha2, H1.out⟩, HK1.out⟩

end Go.Proofs.YtipimcnjcpckeaaDoor
