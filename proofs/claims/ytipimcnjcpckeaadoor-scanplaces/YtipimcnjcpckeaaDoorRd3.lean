/- A reader's Bit, Fixed, Whole, Signed, Lost, Done; New; and all of them on none. -/
import Derived.Test.YtipimcnjcpckeaaDoorRd2
import Derived.Conc.MuLone
namespace Go.Proofs.YtipimcnjcpckeaaDoor
open Go.RowKit

/-- At block p lies a reader of the bytes l (in block g): at a bit, or lost. -/
def RdIs (w : World) (p g : Nat) (l : List Nat) (st : Option Nat) : Prop :=
  match st with
  | some a => a ≤ 8 * l.length ∧ RdAt w p g l a false
  | none => ∃ a, RdAt w p g l a true

theorem RdIs.kept {S : Nat → Prop} {w w' : World} {p g : Nat} {l : List Nat} {st : Option Nat} (h : RdIs w p g l st) (k : Kept S w w') (hp : ¬ S p) (hg : ¬ S g) : RdIs w' p g l st := by
  cases st with
  | none => obtain ⟨a, h⟩ := h; exact ⟨a, h.kept k hp hg⟩
  | some a => exact ⟨h.1, h.2.kept k hp hg⟩

theorem RdIs.lt {w : World} {p g : Nat} {l : List Nat} {st : Option Nat} (h : RdIs w p g l st) : p < w.heap.size ∧ g < w.heap.size ∧ g ≠ p := by
  cases st with
  | none => obtain ⟨a, h⟩ := h; exact ⟨h.lt.1, h.lt.2, h.2.2⟩
  | some a => exact ⟨h.2.lt.1, h.2.lt.2, h.2.2.2⟩

/-- A reading, of a reader that may be lost. -/
def rdStep (rd : Nat → Option (Int × Nat)) (st : Option Nat) : Int × Option Nat :=
  match st with
  | none => (0, none)
  | some a => match rd a with
    | some (n, a') => (n, some a')
    | none => (0, none)

/-- What a reader's call leaves. -/
def RdDone (w : World) (p g : Nat) (l : List Nat) (r : Int × Option Nat) (e : Ending) (w' : World) : Prop :=
  e = .returned (.int .i64 r.1) ∧ RdIs w' p g l r.2 ∧ Kept (· = p) w w'

theorem RdDone.of_res {w w' : World} {p g : Nat} {l : List Nat} {e : Ending} (rd : Nat → Option (Int × Nat)) (a : Nat) (hb : ∀ n a', rd a = some (n, a') → a' ≤ 8 * l.length) (h : RdRes w p g l (rd a) e w') :
    RdDone w p g l (rdStep rd (some a)) e w' := by
  cases ho : rd a with
  | none =>
    have e : rdStep rd (some a) = (0, none) := by simp [rdStep, ho]
    rw [e]
    rw [ho] at h
    exact ⟨h.1, h.2.1, h.2.2⟩
  | some na =>
    obtain ⟨n, a'⟩ := na
    have e : rdStep rd (some a) = (n, some a') := by simp [rdStep, ho]
    rw [e]
    rw [ho] at h
    exact ⟨h.1, ⟨hb n a' ho, h.2.1⟩, h.2.2⟩

theorem nextAt_le (l : List Nat) (a : Nat) (n : Int) (a' : Nat) (h : nextAt l a = some (n, a')) : a' ≤ 8 * l.length := by
  unfold nextAt at h; split at h
  · cases h; omega
  · cases h

theorem fixedAt_le (l : List Nat) (a k : Nat) (n : Int) (a' : Nat) (h : fixedAt l a k = some (n, a')) : a' ≤ 8 * l.length := by
  unfold fixedAt at h; split at h
  · cases h; omega
  · cases h

theorem wholeFrom_le (l : List Nat) (a : Nat) (f z : Nat) (n : Int) (a' : Nat) (hz : z ≤ 31) (h : wholeFrom l a f z = some (n, a')) : a' ≤ 8 * l.length ∧ 0 ≤ n ∧ n < 4294967296 := by
  induction f generalizing z with
  | zero => cases h
  | succ f ih =>
    unfold wholeFrom at h
    split at h
    · split at h
      · split at h
        · simp only [Option.some.injEq, Prod.mk.injEq] at h
          obtain ⟨rfl, rfl⟩ := h
          have h1 := valAt_lt l (a + z + 1) z
          have h2 : (2 : Nat) ^ z ≤ 2147483648 := by have := Nat.pow_le_pow_right (n := 2) (by decide) hz; simpa using this
          have h3 : 0 < (2 : Nat) ^ z := Nat.two_pow_pos z
          omega
        · cases h
      · split at h
        · cases h
        · exact ih _ (by omega) h
    · cases h

theorem next_rd (p g : Nat) (l : List Nat) (a : Nat) (w : World) (hl : Fair l) (h : RdAt w p g l a false) (ha : a ≤ 8 * l.length) :
    Calls Tryd.prog 51 #[.pointer (some ⟨p, 0, none⟩)] w (RdPost w p g l (nextAt l a)) := by
  unfold nextAt
  split
  · rename_i hlt
    exact next_some p g l a w hl h hlt
  · rename_i hlt
    refine (next_none p g l a w hl h (by omega) (by have := hl.2; omega)).mono ?_
    rintro e w' ⟨rfl, rfl⟩
    exact ⟨rfl, ⟨a, h⟩, Kept.refl _ _⟩

theorem Tryd.enters_next (A : Array Value) (w : World) : (callFunc 51 A).run Tryd.prog w = .ok (.enter 51 A) w := by
  exact MuLone.run_callFunc_enter Tryd.func51 (by kernel_rfl) rfl A w

theorem Tryd.enters_whole (A : Array Value) (w : World) : (callFunc 43 A).run Tryd.prog w = .ok (.enter 43 A) w := by
  exact MuLone.run_callFunc_enter Tryd.func43 (by kernel_rfl) rfl A w

theorem Tryd.enters_signed (A : Array Value) (w : World) : (callFunc 47 A).run Tryd.prog w = .ok (.enter 47 A) w := by
  exact MuLone.run_callFunc_enter Tryd.func47 (by kernel_rfl) rfl A w

/- The inner functions of Fixed, Whole and Signed. -/

def fixedRd (l : List Nat) (k : Int) (a : Nat) : Option (Int × Nat) := if k < 0 ∨ 32 < k then none else fixedAt l a k.toNat
def wholeRd (l : List Nat) (most : Int) (a : Nat) : Option (Int × Nat) :=
  match wholeAt l a with
  | some (n, a') => if most < n then none else some (n, a')
  | none => none
/-- The number of either sign that a number from 0 on stands for. -/
def unsign (n : Int) : Int := if n % 2 = 1 then (n + 1) / 2 else -(n / 2)
def signedRd (l : List Nat) (most : Int) (a : Nat) : Option (Int × Nat) :=
  match wholeAt l a with
  | some (n, a') => if most < unsign n ∨ most < -unsign n then none else some (unsign n, a')
  | none => none

theorem max_neg (n : Int) (h0 : -4294967296 ≤ n) (h1 : n ≤ 4294967296) (most : Int) : (most < max n (-n)) ↔ (most < n ∨ most < -n) := by omega

set_option maxHeartbeats 400000 in
theorem whole_in (p g : Nat) (l : List Nat) (a : Nat) (k : Int) (bk br : Addr) (w : World) (hl : Fair l) (h : RdAt w p g l a false) (ha : a ≤ 8 * l.length)
    (hk : w.cell? bk = some (.int .i64 k)) (hr : w.cell? br = some (.pointer (some ⟨p, 0, none⟩))) (hbk : ¬ bk.block = p) :
    Calls Tryd.prog 43 #[.pointer (some br), .pointer (some bk)] w (RdPost w p g l (wholeRd l k a)) := by
  have H0 := Lib.hid h; clear h
  have HL := Lib.hid hl; clear hl
  have hkl := World.block_lt_of_cell? w bk hk
  go_enter Tryd.func43, Tryd.ntmps43
  go_wp2_with (fail)
  refine (whole_rd p g l a _ HL.out H0.out ha).mono ?_
  intro e w1 hp
  cases ho : wholeAt l a with
  | none =>
    rw [ho] at hp
    obtain ⟨rfl, h2, h3⟩ := hp
    have he : wholeRd l k a = none := by simp [wholeRd, ho]
    rw [he]
    exact ⟨rfl, rfl, h2, h3⟩
  | some na =>
    obtain ⟨n, a'⟩ := na
    rw [ho] at hp
    obtain ⟨rfl, h2, h3⟩ := hp
    have hb := wholeFrom_le l a 33 0 n a' (by omega) ho
    obtain ⟨-, hn0, hn1⟩ := hb
    have hk1 : w1.cell? bk = some (.int .i64 k) := (World.cell?_of_block (h3.block bk.block hkl hbk)).trans hk
    have H2 := Lib.hid h2; clear h2
    have H3 := Lib.hid h3; clear h3
    have HO := Lib.hid ho; clear ho
    clear hk hr
    by_cases hm : k < n
    · have he : wholeRd l k a = none := by simp [wholeRd, HO.out, hm]
      have HE := Lib.hid he; clear he
      go_wp2_with (go_at_call 45; refine (giveUp_any _).mono ?_; rintro e w' ⟨rfl, rfl⟩)
      refine ⟨rfl, ?_⟩
      rw [HE.out]
      exact ⟨rfl, ⟨a', H2.out⟩, H3.out⟩
    · have he : wholeRd l k a = some (n, a') := by simp [wholeRd, HO.out, hm]
      have HE := Lib.hid he; clear he
      go_wp2
      go_ret
      rw [HE.out]
      exact ⟨rfl, H2.out, H3.out⟩

set_option maxHeartbeats 400000 in
theorem sign_rd (p g : Nat) (l : List Nat) (a : Nat) (w : World) (hl : Fair l) (h : RdAt w p g l a false) (ha : a ≤ 8 * l.length) :
    Calls Tryd.prog 48 #[.pointer (some ⟨p, 0, none⟩)] w (RdPost w p g l ((wholeAt l a).map fun x => (unsign x.1, x.2))) := by
  have H0 := Lib.hid h; clear h
  have HL := Lib.hid hl; clear hl
  go_enter Tryd.func48, Tryd.ntmps48
  go_wp2_with (fail)
  refine (whole_rd p g l a _ HL.out H0.out ha).mono ?_
  intro e w1 hp
  cases ho : wholeAt l a with
  | none =>
    rw [ho] at hp
    obtain ⟨rfl, h2, h3⟩ := hp
    refine ⟨rfl, ?_⟩
    rw [ho]
    exact ⟨rfl, h2, h3⟩
  | some na =>
    obtain ⟨n, a'⟩ := na
    rw [ho] at hp
    obtain ⟨rfl, h2, h3⟩ := hp
    have hb := wholeFrom_le l a 33 0 n a' (by omega) ho
    obtain ⟨-, hn0, hn1⟩ := hb
    have H2 := Lib.hid h2; clear h2
    have H3 := Lib.hid h3; clear h3
    have HO := Lib.hid ho; clear ho
    by_cases hm : n % 2 = 1
    · have hb : (n % 2 == 1) = true := by simpa using hm
      have hu : unsign n = (n + 1) / 2 := if_pos hm
      have HU := Lib.hid hu; clear hu hm
      go_wp2
      go_ret
      rw [HO.out]
      refine ⟨?_, H2.out, H3.out⟩
      rw [HU.out]; rfl
    · have hb : (n % 2 == 1) = false := by simpa using hm
      have hu : unsign n = -(n / 2) := if_neg hm
      have HU := Lib.hid hu; clear hu
      have HM := Lib.hid hm; clear hm
      go_wp2
      go_ret
      rw [HO.out]
      refine ⟨?_, H2.out, H3.out⟩
      have e : wrap64 (-n.tdiv 2) = unsign n := by
        rw [HU.out, Int.tdiv_eq_ediv_of_nonneg hn0]; unfold wrap64; omega
      show Ending.returned (.int .i64 (wrap64 (-n.tdiv 2))) = _
      rw [e]

theorem unsign_bounds (n : Int) (h0 : 0 ≤ n) (h1 : n < 4294967296) : -4294967296 ≤ unsign n ∧ unsign n ≤ 4294967296 := by unfold unsign; split <;> omega

set_option maxHeartbeats 400000 in
theorem signed_in (p g : Nat) (l : List Nat) (a : Nat) (k : Int) (bk br : Addr) (w : World) (hl : Fair l) (h : RdAt w p g l a false) (ha : a ≤ 8 * l.length)
    (hk : w.cell? bk = some (.int .i64 k)) (hr : w.cell? br = some (.pointer (some ⟨p, 0, none⟩))) (hbk : ¬ bk.block = p) :
    Calls Tryd.prog 47 #[.pointer (some br), .pointer (some bk)] w (RdPost w p g l (signedRd l k a)) := by
  have H0 := Lib.hid h; clear h
  have HL := Lib.hid hl; clear hl
  have hkl := World.block_lt_of_cell? w bk hk
  go_enter Tryd.func47, Tryd.ntmps47
  go_wp2_with (fail)
  refine (sign_rd p g l a _ HL.out H0.out ha).mono ?_
  intro e w1 hp
  cases ho : wholeAt l a with
  | none =>
    rw [ho] at hp
    obtain ⟨rfl, h2, h3⟩ := hp
    have he : signedRd l k a = none := by simp [signedRd, ho]
    rw [he]
    exact ⟨rfl, rfl, h2, h3⟩
  | some na =>
    obtain ⟨n0, a'⟩ := na
    rw [ho] at hp
    obtain ⟨rfl, h2, h3⟩ := hp
    have hb := wholeFrom_le l a 33 0 n0 a' (by omega) ho
    have hu := unsign_bounds n0 hb.2.1 hb.2.2
    have hk1 : w1.cell? bk = some (.int .i64 k) := (World.cell?_of_block (h3.block bk.block hkl hbk)).trans hk
    have H2 := Lib.hid h2; clear h2
    have H3 := Lib.hid h3; clear h3
    have HO := Lib.hid ho; clear ho
    clear hk hr hb
    have hs : signedRd l k a = if k < unsign n0 ∨ k < -unsign n0 then none else some (unsign n0, a') := by simp only [signedRd, HO.out]
    have HS := Lib.hid hs; clear hs
    dsimp only
    generalize unsign n0 = n at *
    obtain ⟨hn0, hn1⟩ := hu
    by_cases hm : k < max n (-n)
    · have he : signedRd l k a = none := by rw [HS.out, if_pos ((max_neg n hn0 hn1 k).1 hm)]
      have HE := Lib.hid he; clear he
      go_wp2_with (go_at_call 45; refine (giveUp_any _).mono ?_; rintro e w' ⟨rfl, rfl⟩)
      refine ⟨rfl, ?_⟩
      rw [HE.out]
      exact ⟨rfl, ⟨a', H2.out⟩, H3.out⟩
    · have he : signedRd l k a = some (n, a') := by rw [HS.out, if_neg (fun x => hm ((max_neg n hn0 hn1 k).2 x))]
      have HE := Lib.hid he; clear he
      go_wp2
      go_ret
      rw [HE.out]
      exact ⟨rfl, H2.out, H3.out⟩

theorem fixedRd_le (l : List Nat) (k : Int) (a : Nat) (n : Int) (a' : Nat) (h : fixedRd l k a = some (n, a')) : a' ≤ 8 * l.length := by
  unfold fixedRd at h; split at h
  · cases h
  · exact fixedAt_le l a _ n a' h

theorem wholeRd_le (l : List Nat) (k : Int) (a : Nat) (n : Int) (a' : Nat) (h : wholeRd l k a = some (n, a')) : a' ≤ 8 * l.length := by
  unfold wholeRd at h
  split at h
  · rename_i m b ho
    split at h
    · cases h
    · cases h; exact (wholeFrom_le l a 33 0 _ _ (by omega) ho).1
  · cases h

theorem signedRd_le (l : List Nat) (k : Int) (a : Nat) (n : Int) (a' : Nat) (h : signedRd l k a = some (n, a')) : a' ≤ 8 * l.length := by
  unfold signedRd at h
  split at h
  · rename_i m b ho
    split at h
    · cases h
    · cases h; exact (wholeFrom_le l a 33 0 _ _ (by omega) ho).1
  · cases h

theorem two_cells {w w1 : World} {x y : Value} {t t' : TypeId} (k : Kept (fun _ => False) ((w.alloc (.cells #[x] t)).alloc (.cells #[y] t')) w1) :
    w1.cell? ⟨w.heap.size, 0, none⟩ = some x ∧ w1.cell? ⟨w.heap.size + 1, 0, none⟩ = some y := by
  obtain ⟨b0, b1⟩ := two_boxes w x y t t'
  exact ⟨by rw [cell_of_heap (k.at b0 id)]; rfl, by rw [cell_of_heap (k.at b1 id)]; rfl⟩

end Go.Proofs.YtipimcnjcpckeaaDoor
