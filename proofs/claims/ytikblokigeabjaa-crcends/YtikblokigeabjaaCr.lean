/- What halve, the steps' closure and the document's Step do. -/
import Derived.Test.YtikblokigeabjaaChecked
import Derived.Test.YtikblokigeabjaaBw
import Derived.Test.YtikblokigeabjaaCPure
import Derived.Deep.LoopGhost
import Derived.Deep.RegionWith
import Derived.Deep.MidRow
namespace Go.Proofs.Ytikblokigeabjaa
open Go.RowKit

theorem half_odd (poly n : Nat) (h : n % 2 = 1) : half poly n = n / 2 ^^^ poly := by unfold half; rw [if_pos h]
theorem half_even (poly n : Nat) (h : n % 2 = 0) : half poly n = n / 2 := by unfold half; rw [if_neg (by omega)]

theorem halve_any (n poly : Nat) (w : World) (hn : n < 4294967296) (hp : poly < 4294967296) :
    Calls Try.prog 17 #[.int .u32 (n : Int), .int .u32 (poly : Int)] w fun e w' => e = .returned (.int .u32 ((half poly n : Nat) : Int)) ∧ w = w' := by
  have hx : bits .xor .u32 ((n : Int) / 2) (poly : Int) = ((n / 2 ^^^ poly : Nat) : Int) := u32_xor_nat (n / 2) poly (by omega) hp
  rcases Nat.mod_two_eq_zero_or_one n with h | h
  · rw [half_even _ _ h]
    go_enter Try.func17, Try.ntmps17
    go_wp2
    go_ret
    exact ⟨rfl, rfl⟩
  · rw [half_odd _ _ h, ← hx]
    have HX := Lib.hid hx; clear hx
    go_enter Try.func17, Try.ntmps17
    go_wp2
    go_ret
    exact ⟨rfl, rfl⟩

set_option maxHeartbeats 1000000 in
theorem step_any (poly n pb : Nat) (w : World) (hn : n < 4294967296) (hp : poly < 4294967296) (h : w.heap[pb]? = some (.cells #[.int .u32 (poly : Int)] 22 (0, 0))) :
    Calls Try.prog 16 #[.int .u32 (n : Int), .pointer (some ⟨pb, 0, none⟩)] w fun e w' => e = .returned (.int .u32 ((tab poly n : Nat) : Int)) ∧ w = w' := by
  have c1 : w.cell? ⟨pb, 0, none⟩ = some (.int .u32 (poly : Int)) := by rw [cell_of_heap h]; rfl
  clear h
  go_enter Try.func16, Try.ntmps16
  go_wp2_with (fail)
  go_loopg [0, 4] 8 (fun gg x i wr => ∃ (k m : Nat), k + gg = 8 ∧ i = .int .i64 (k : Int) ∧ x = .int .u32 (m : Int) ∧ m < 4294967296 ∧ halves poly gg m = tab poly n ∧ wr = w)
  case atStart => exact ⟨0, n, by omega, rfl, rfl, hn, rfl, rfl⟩
  case round =>
    obtain ⟨k, m, hk, rfl, rfl, hm, ht, rfl⟩ := hrel
    have HT := Lib.hid ht; clear ht
    by_cases hlt : k < 8
    · have hgk : gk = (gk - 1) + 1 := by omega
      go_wp2_with (fail)
      refine (halve_any m poly _ hm hp).mono ?_
      rintro e w3 ⟨rfl, rfl⟩
      have hh := half_lt poly m hp hm
      have he : halves poly (gk - 1) (half poly m) = tab poly n := by
        have := HT.out
        rw [hgk] at this
        exact this
      generalize half poly m = m' at *
      have HE := Lib.hid he; clear he
      go_wp2
      go_roundg (gk - 1)
      case measure => omega
      case rel => exact ⟨k + 1, m', by omega, by go_num, rfl, hh, HE.out, rfl⟩
    · have e0 : gk = 0 := by omega
      subst e0
      have ek : k = 8 := by omega
      subst ek
      go_wp2
      go_ret
      refine ⟨?_, rfl⟩
      rw [← HT.out]; rfl

set_option maxHeartbeats 1000000 in
theorem ref_step (poly n : Nat) (w : World) (hn : n < 4294967296) (hp : poly < 4294967296) :
    Calls Try.prog 11 #[.int .u32 (poly : Int), .int .u32 (n : Int)] w fun e w' => e = .returned (.int .u32 ((tab poly n : Nat) : Int)) ∧ w = w' := by
  go_enter Try.func11, Try.ntmps11
  go_wp2_with (fail)
  go_loopg [1, 5] 8 (fun gg x i wr => ∃ (k m : Nat), k + gg = 8 ∧ i = .int .i64 (k : Int) ∧ x = .int .u32 (m : Int) ∧ m < 4294967296 ∧ halves poly gg m = tab poly n ∧ wr = w)
  case atStart => exact ⟨0, n, by omega, rfl, rfl, hn, rfl, rfl⟩
  case round =>
    obtain ⟨k, m, hk, rfl, rfl, hm, ht, rfl⟩ := hrel
    have HT := Lib.hid ht; clear ht
    by_cases hlt : k < 8
    · have hgk : gk = (gk - 1) + 1 := by omega
      have hh := half_lt poly m hp hm
      have he : halves poly (gk - 1) (half poly m) = tab poly n := by
        have := HT.out
        rw [hgk] at this
        exact this
      have HE := Lib.hid he; clear he
      rcases Nat.mod_two_eq_zero_or_one m with h | h
      · rw [half_even _ _ h] at hh HE
        go_wp2
        go_roundg (gk - 1)
        case measure => omega
        case rel => exact ⟨k + 1, m / 2, by omega, by go_num, by go_num, hh, HE.out, rfl⟩
      · rw [half_odd _ _ h] at hh HE
        have hx : bits .xor .u32 ((m : Int) / 2) (poly : Int) = ((m / 2 ^^^ poly : Nat) : Int) := u32_xor_nat (m / 2) poly (by omega) hp
        have HX := Lib.hid hx; clear hx
        go_wp2
        go_roundg (gk - 1)
        case measure => omega
        case rel => exact ⟨k + 1, m / 2 ^^^ poly, by omega, by go_num, by rw [HX.out], hh, HE.out, rfl⟩
    · have e0 : gk = 0 := by omega
      subst e0
      have ek : k = 8 := by omega
      subst ek
      go_wp2
      go_ret
      refine ⟨?_, rfl⟩
      rw [← HT.out]; rfl

/-- The closure as a value. -/
def stepFn (pb : Nat) : Value := .func (.func 16) #[] #[.pointer (some ⟨pb, 0, none⟩)]

theorem steps_any (poly : Nat) (w : World) :
    Calls Try.prog 15 #[.int .u32 (poly : Int)] w fun e w' => e = .returned (stepFn w.heap.size) ∧ w' = w.alloc (.cells #[.int .u32 (poly : Int)] 22) := by
  go_enter Try.func15, Try.ntmps15
  go_wp2
  go_ret
  exact ⟨rfl, rfl⟩
end Go.Proofs.Ytikblokigeabjaa
