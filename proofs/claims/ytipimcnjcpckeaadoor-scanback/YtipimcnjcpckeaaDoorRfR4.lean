/- The document's reader: Whole and Signed in every state; Done; the bits of bytes. -/
import Derived.Test.YtipimcnjcpckeaaDoorRfR3
namespace Go.Proofs.YtipimcnjcpckeaaDoor
open Go.RowKit

theorem rf_whole (x : Nat) (l : List Nat) (st : Option Nat) (most : Int) (w : World) (hlen : l.length ≤ 1000) (h : RfIs w x l st) :
    Calls Tryd.prog 35 #[.pointer (some ⟨x, 0, none⟩), .int .i64 most] w (RfDone w x l (rdStep (wholeRd l most) st)) := by
  cases st with
  | none => obtain ⟨a, ha, h⟩ := h; exact rf_whole_lost x l a most w hlen ha h
  | some a => exact rf_whole_some x l a most w hlen h.1 h.2

theorem whole_big (l : List Nat) (a : Nat) : wholeRd l 1099511627776 a = wholeAt l a := by
  unfold wholeRd
  split
  · rename_i n a' ho
    have := (wholeFrom_le l a 33 0 n a' (by omega) ho).2
    rw [if_neg (by omega), ho]
  · rename_i ho; rw [ho]

set_option maxHeartbeats 1000000 in
theorem rf_signed (x : Nat) (l : List Nat) (st : Option Nat) (most : Int) (w : World) (hlen : l.length ≤ 1000) (h : RfIs w x l st) :
    Calls Tryd.prog 36 #[.pointer (some ⟨x, 0, none⟩), .int .i64 most] w (RfDone w x l (rdStep (signedRd l most) st)) := by
  have H0 := Lib.hid h; clear h
  go_enter Tryd.func36, Tryd.ntmps36
  go_wp2_with (fail)
  refine (rf_whole x l st _ _ hlen H0.out).mono ?_
  intro e w1 hd
  obtain ⟨rfl, hst, hkp⟩ := hd
  have HK := Lib.hid hkp; clear hkp
  have hcase : (rdStep (wholeRd l 1099511627776) st = (0, none) ∧ rdStep (signedRd l most) st = (0, none)) ∨
      (∃ n a2, 0 ≤ n ∧ n < 4294967296 ∧ rdStep (wholeRd l 1099511627776) st = (n, some a2) ∧ rdStep (signedRd l most) st = if most < unsign n ∨ most < -unsign n then (0, none) else (unsign n, some a2)) := by
    cases st with
    | none => exact .inl ⟨rfl, rfl⟩
    | some a =>
      simp only [rdStep, whole_big, signedRd]
      cases ho : wholeAt l a with
      | none => exact .inl ⟨rfl, rfl⟩
      | some na =>
        obtain ⟨n, a2⟩ := na
        have hb := (wholeFrom_le l a 33 0 n a2 (by omega) ho).2
        refine .inr ⟨n, a2, hb.1, hb.2, rfl, ?_⟩
        by_cases hc : most < unsign n ∨ most < -unsign n <;> simp [hc]
  rcases hcase with ⟨e1, e2⟩ | ⟨n, a2, hn0, hn1, e1, e2⟩
  · rw [e1] at hst ⊢
    obtain ⟨a1, ha1, h1'⟩ := hst
    obtain ⟨-, -, h2, -, f2⟩ := h1'.facts
    have H1 := Lib.hid h1'; have E2 := Lib.hid e2; clear h1' e1 e2
    dsimp only
    go_wp2
    go_ret
    rw [E2.out]
    exact ⟨rfl, ⟨a1, ha1, H1.out.setLost true⟩, HK.out.setCell _ (fun _ => rfl) _⟩
  · rw [e1] at hst ⊢
    obtain ⟨ha2, h1'⟩ := hst
    obtain ⟨-, -, h2, -, f2⟩ := h1'.facts
    have H1 := Lib.hid h1'; have E2 := Lib.hid e2; clear h1' e1 e2
    dsimp only
    have hun : unsign n = if n % 2 = 0 then -((n + 1) / 2) else (n + 1) / 2 := by unfold unsign; split <;> split <;> omega
    by_cases h2n : n % 2 = 0
    · rw [if_pos h2n] at hun
      have b0 : (n % 2 == 0) = true := by simpa using h2n
      have HU := Lib.hid hun; clear hun h2n
      by_cases hm1 : most < -((n + 1) / 2)
      · have d1 : decide (most < -((n + 1) / 2)) = true := by simpa using hm1
        go_wp2
        go_ret
        rw [E2.out, HU.out, if_pos (Or.inl hm1)]
        exact ⟨rfl, ⟨a2, ha2, H1.out.setLost true⟩, HK.out.setCell _ (fun _ => rfl) _⟩
      · have d1 : decide (most < -((n + 1) / 2)) = false := by simpa using hm1
        by_cases hm2 : most < (n + 1) / 2
        · have d2 : decide (most < (n + 1) / 2) = true := by simpa using hm2
          go_wp2
          go_ret
          rw [E2.out, HU.out, if_pos (Or.inr (by omega))]
          exact ⟨rfl, ⟨a2, ha2, H1.out.setLost true⟩, HK.out.setCell _ (fun _ => rfl) _⟩
        · have d2 : decide (most < (n + 1) / 2) = false := by simpa using hm2
          go_wp2
          go_ret
          rw [E2.out, HU.out, if_neg (by omega)]
          exact ⟨rfl, ⟨ha2, H1.out⟩, HK.out⟩
    · rw [if_neg h2n] at hun
      have b0 : (n % 2 == 0) = false := by simpa using h2n
      have HU := Lib.hid hun; clear hun h2n
      by_cases hm1 : most < (n + 1) / 2
      · have d1 : decide (most < (n + 1) / 2) = true := by simpa using hm1
        go_wp2
        go_ret
        rw [E2.out, HU.out, if_pos (Or.inl hm1)]
        exact ⟨rfl, ⟨a2, ha2, H1.out.setLost true⟩, HK.out.setCell _ (fun _ => rfl) _⟩
      · have d1 : decide (most < (n + 1) / 2) = false := by simpa using hm1
        have hm2 : ¬ most < -((n + 1) / 2) := by omega
        have d2 : decide (most < -((n + 1) / 2)) = false := by simpa using hm2
        go_wp2
        go_ret
        rw [E2.out, HU.out, if_neg (by omega)]
        exact ⟨rfl, ⟨ha2, H1.out⟩, HK.out⟩
end Go.Proofs.YtipimcnjcpckeaaDoor
