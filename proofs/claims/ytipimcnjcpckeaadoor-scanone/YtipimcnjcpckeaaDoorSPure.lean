/- A block's levels as bits, and back, as lists. No program in it but blocks. -/
import Derived.Test.YtipimcnjcpckeaaDoorRfR3
import Derived.Test.YtipimcnjcpckeaaDoorWrC
import Derived.Test.YtipimcnjcpckeaaDoorWMore
namespace Go.Proofs.YtipimcnjcpckeaaDoor

/-! Bits that lie in bytes. -/
def BitsAt (l : List Nat) (a : Nat) (bs : List Bool) : Prop := a + bs.length ≤ 8 * l.length ∧ ∀ i, i < bs.length → bitAt l (a + i) = bs.getD i false
theorem BitsAt.left {l : List Nat} {a : Nat} {x y : List Bool} (h : BitsAt l a (x ++ y)) : BitsAt l a x := by
  refine ⟨by have := h.1; simp at this; omega, fun i hi => ?_⟩
  rw [h.2 i (by simp; omega), List.getD_eq_getElem?_getD, List.getD_eq_getElem?_getD, List.getElem?_append_left hi]
theorem BitsAt.right {l : List Nat} {a : Nat} {x y : List Bool} (h : BitsAt l a (x ++ y)) : BitsAt l (a + x.length) y := by
  refine ⟨by have := h.1; simp at this; omega, fun i hi => ?_⟩
  rw [Nat.add_assoc, h.2 (x.length + i) (by simp; omega), List.getD_eq_getElem?_getD, List.getD_eq_getElem?_getD, List.getElem?_append_right (by omega), Nat.add_sub_cancel_left]
theorem bitsAt_pack (bs : List Bool) : BitsAt (pack bs) 0 bs := by
  have h8 : bs.length ≤ 8 * nbytes bs.length := by unfold nbytes; omega
  refine ⟨by rw [pack_length]; omega, fun i hi => ?_⟩
  rw [Nat.zero_add, pack_bit bs i (by omega)]

theorem valAt_bits (l : List Nat) (m : Nat) : ∀ (k a : Nat), BitsAt l a (fixedBits (m : Int) k) → valAt l a k = m % 2 ^ k := by
  intro k
  induction k with
  | zero => intro a _; simp [valAt, Nat.mod_one]
  | succ k ih =>
    intro a h
    have h1 : BitsAt l a ([lowBit ((m : Int) / 2 ^ k)] ++ fixedBits (m : Int) k) := h
    have h2 := ih (a + 1) h1.right
    have h3 := h1.2 0 (by simp)
    simp only [Nat.add_zero, List.cons_append, List.nil_append, List.getD_cons_zero] at h3
    rw [valAt_front, h2, h3]
    have e : (m : Int) / 2 ^ k = ((m / 2 ^ k : Nat) : Int) := by simp
    rw [e, lowBit_nat]
    have e2 : (decide (m / 2 ^ k % 2 = 1)).toNat = m / 2 ^ k % 2 := by
      rcases Nat.mod_two_eq_zero_or_one (m / 2 ^ k) with h | h <;> simp [h]
    rw [e2, Nat.pow_succ, Nat.mod_mul, Nat.mul_comm (2 ^ k)]
    omega

theorem wholeAt_golomb (l : List Nat) (a m : Nat) (h0 : m ≠ 0) (h : m ≤ 2147483648) (hb : BitsAt l a (golomb m)) : wholeAt l a = some ((m : Int) - 1, a + (golomb m).length) := by
  obtain ⟨b1, b2, b3⟩ := bitLen_bounds m h0 (by omega)
  have b4 := (bitLen_le32 m h0 h).2
  have hl := golomb_length m h0 h
  rw [golomb_shape m h0 (by omega)] at hb
  generalize hz : Lib.bitLen m = L at *
  obtain ⟨z, rfl⟩ : ∃ z, L = z + 1 := ⟨L - 1, by omega⟩
  simp only [Nat.add_sub_cancel] at *
  have hzb : ∀ i, i < z → bitAt l (a + i) = false := fun i hi => by
    have := hb.left.2 i (by simpa using hi)
    rw [this, List.getD_eq_getElem?_getD]; simp [hi]
  have hr := hb.right
  rw [List.length_replicate] at hr
  have h1 : bitAt l (a + z) = true := by have := hr.2 0 (by simp); simpa using this
  have hl2 := hr.1
  simp only [List.length_cons, fixedBits_length] at hl2
  have hr2 : BitsAt l (a + z) ([true] ++ fixedBits (m : Int) z) := hr
  have hv := valAt_bits l m z (a + z + 1) hr2.right
  rw [wholeAt_one l a z (by omega) (by omega) h1 hzb, if_pos (by omega), valAt_front, h1, hv]
  have e : m % 2 ^ z = m - 2 ^ z := by
    rw [Nat.mod_eq_sub_mod b2, Nat.mod_eq_of_lt (by rw [Nat.pow_succ] at b3; omega)]
  rw [e, hl]
  simp only [Bool.toNat_true, Nat.one_mul, Option.some.injEq, Prod.mk.injEq]
  omega

theorem wholeRd_bits (l : List Nat) (a : Nat) (n most : Int) (h0 : 0 ≤ n) (h1 : n ≤ 2147483647) (h2 : n ≤ most) (hb : BitsAt l a (wholeBits n)) : wholeRd l most a = some (n, a + (wholeBits n).length) := by
  have e : wholeBits n = golomb (n.toNat + 1) := by unfold wholeBits; rw [show clampWhole n = n.toNat by unfold clampWhole; omega]
  rw [e] at hb ⊢
  unfold wholeRd
  rw [wholeAt_golomb l a _ (by omega) (by omega) hb]
  simp only
  rw [if_neg (by omega)]
  congr 2; omega
theorem unsign_code (n : Int) : unsign ((signCode n : Int)) = n := by
  unfold unsign signCode
  split <;> split <;> omega
theorem signedRd_bits (l : List Nat) (a : Nat) (n most : Int) (h0 : -536870912 < n) (h1 : n < 536870912) (h2 : n ≤ most) (h3 : -n ≤ most) (hb : BitsAt l a (signedBits n)) : signedRd l most a = some (n, a + (signedBits n).length) := by
  obtain ⟨e, h4⟩ := signedBits_code n h0 h1
  rw [e] at hb ⊢
  unfold signedRd
  rw [wholeAt_golomb l a _ (by omega) (by omega) hb]
  simp only
  rw [show ((signCode n + 1 : Nat) : Int) - 1 = (signCode n : Int) by omega, unsign_code, if_neg (by omega)]

/-! Levels in order. -/
def ordl : List Nat := [0, 1, 4, 8, 5, 2, 3, 6, 9, 12, 13, 10, 7, 11, 14, 15]
def ord (i : Nat) : Nat := ordl.getD i 0
def ordB : Nat → Int := fun i => (ord i : Int)
theorem ord_lt : ∀ i, i < 16 → ord i < 16 := by decide
theorem ord_inj : ∀ i, i < 16 → ∀ j, j < 16 → ord i = ord j → i = j := by decide
theorem ord_onto : ∀ k, k < 16 → ∃ i, i < 16 ∧ ord i = k := by decide

def lvl (b : Nat → Int) (i : Nat) : Int := cl 1048576 (b (ord i))
def lvls (b : Nat → Int) : List Int := (List.range 16).map (lvl b)
/-- Each level that is not 0, behind how many 0. -/
def runs : Nat → List Int → List (Nat × Int)
  | _, [] => []
  | z, x :: xs => if x = 0 then runs (z + 1) xs else (z, x) :: runs 0 xs
def runBits : List (Nat × Int) → List Bool
  | [] => []
  | p :: r => wholeBits p.1 ++ signedBits p.2 ++ runBits r
def scanBits (b : Nat → Int) : List Bool := wholeBits (runs 0 (lvls b)).length ++ runBits (runs 0 (lvls b))

theorem lvls_congr {a b : Nat → Int} (h : ∀ i, i < 16 → a i = b i) : lvls a = lvls b := by
  unfold lvls lvl
  apply List.map_congr_left
  intro i hi
  rw [h _ (ord_lt i (by simpa using hi))]
theorem scanBits_congr {a b : Nat → Int} (h : ∀ i, i < 16 → a i = b i) : scanBits a = scanBits b := by unfold scanBits; rw [lvls_congr h]
theorem runs_length (xs : List Int) : ∀ z, (runs z xs).length ≤ xs.length := by
  induction xs with
  | nil => intro z; simp [runs]
  | cons x xs ih =>
    intro z
    unfold runs
    split
    · have := ih (z + 1); simp; omega
    · have := ih 0; simp; omega
theorem runBits_length (r : List (Nat × Int)) : (runBits r).length ≤ 126 * r.length := by
  induction r with
  | nil => simp [runBits]
  | cons p r ih =>
    have h1 := wholeBits_short p.1
    have h2 := signedBits_short p.2
    simp only [runBits, List.length_append, List.length_cons]
    omega
theorem scanBits_length (b : Nat → Int) : (scanBits b).length ≤ 2079 := by
  have h1 := wholeBits_short ((runs 0 (lvls b)).length : Nat)
  have h2 := runBits_length (runs 0 (lvls b))
  have h3 := runs_length (lvls b) 0
  have h4 : (lvls b).length = 16 := by simp [lvls]
  unfold scanBits
  rw [List.length_append]; omega

/-- One more level is told. -/
def tell (s : Nat × Nat × List Bool) (x : Int) : Nat × Nat × List Bool := if x = 0 then (s.1, s.2.1 + 1, s.2.2) else (s.1 + 1, 0, s.2.2 ++ wholeBits s.2.1 ++ signedBits x)
def toldTo (b : Nat → Int) (k : Nat) : Nat × Nat × List Bool := ((List.range k).map (lvl b)).foldl tell (0, 0, [])
theorem toldTo_succ (b : Nat → Int) (k : Nat) : toldTo b (k + 1) = tell (toldTo b k) (lvl b k) := by simp [toldTo, List.range_succ]
theorem tell_all (xs : List Int) : ∀ s : Nat × Nat × List Bool, (xs.foldl tell s).1 = s.1 + (runs s.2.1 xs).length ∧ (xs.foldl tell s).2.2 = s.2.2 ++ runBits (runs s.2.1 xs) := by
  induction xs with
  | nil => intro s; simp [runs, runBits]
  | cons x xs ih =>
    intro s
    obtain ⟨h1, h2⟩ := ih (tell s x)
    rw [List.foldl_cons, h1, h2]
    unfold tell
    by_cases hx : x = 0
    · rw [if_pos hx]; simp [runs, hx]
    · rw [if_neg hx]; simp [runs, hx, runBits]; omega
theorem told_many (b : Nat → Int) : (toldTo b 16).1 = (runs 0 (lvls b)).length := by
  have h := (tell_all (lvls b) (0, 0, [])).1; rw [Nat.zero_add] at h; exact h
theorem told_bits (b : Nat → Int) : (toldTo b 16).2.2 = runBits (runs 0 (lvls b)) := by
  have h := (tell_all (lvls b) (0, 0, [])).2; rw [List.nil_append] at h; exact h
theorem told_le (b : Nat → Int) (k : Nat) : (toldTo b k).1 ≤ k ∧ (toldTo b k).2.1 ≤ k ∧ (toldTo b k).2.2.length ≤ 126 * k := by
  induction k with
  | zero => simp [toldTo]
  | succ k ih =>
    rw [toldTo_succ]
    unfold tell
    have h1 := wholeBits_short ((toldTo b k).2.1 : Nat)
    have h2 := signedBits_short (lvl b k)
    split
    · simp only; omega
    · simp only [List.length_append]; omega
theorem tell_zero (b : Nat → Int) (k : Nat) (h : lvl b k = 0) : toldTo b (k + 1) = ((toldTo b k).1, (toldTo b k).2.1 + 1, (toldTo b k).2.2) := by rw [toldTo_succ, tell, if_pos h]
theorem tell_some (b : Nat → Int) (k : Nat) (h : ¬ lvl b k = 0) : toldTo b (k + 1) = ((toldTo b k).1 + 1, 0, (toldTo b k).2.2 ++ wholeBits (toldTo b k).2.1 ++ signedBits (lvl b k)) := by rw [toldTo_succ, tell, if_neg h]
theorem scan_told (b : Nat → Int) : scanBits b = wholeBits (toldTo b 16).1 ++ (toldTo b 16).2.2 := by rw [told_many, told_bits]; rfl

/-! Reading. -/
/-- One level is read: the place, the level, the reader's state. -/
def rdOne (l : List Nat) (at_ : Nat) (st : Option Nat) : Nat × Int × Option Nat :=
  (at_ + (rdStep (wholeRd l 15) st).1.toNat, rdStep (signedRd l 1048576) (rdStep (wholeRd l 15) st).2)
def rdBad (r : Nat × Int × Option Nat) : Prop := r.2.2.isNone = true ∨ 15 < r.1 ∨ r.2.1 = 0
instance (r : Nat × Int × Option Nat) : Decidable (rdBad r) := by unfold rdBad; infer_instance
/-- So many levels are still to be read. -/
def rdRest (l : List Nat) : Nat → Nat → (Nat → Int) → Option Nat → (Nat → Int) × Int × Option Nat
  | 0, _, b, st => if st.isNone = true then (fun _ => 0, 60, st) else (b, 0, st)
  | k + 1, at_, b, st => if rdBad (rdOne l at_ st) then (fun _ => 0, 60, (rdOne l at_ st).2.2) else rdRest l k ((rdOne l at_ st).1 + 1) (upd b (ord (rdOne l at_ st).1) (rdOne l at_ st).2.1) (rdOne l at_ st).2.2
def scanRd (l : List Nat) (st : Option Nat) : (Nat → Int) × Int × Option Nat := rdRest l (rdStep (wholeRd l 16) st).1.toNat 0 (fun _ => 0) (rdStep (wholeRd l 16) st).2
theorem rdStep_whole_le (l : List Nat) (most : Int) (hm : 0 ≤ most) (st : Option Nat) : 0 ≤ (rdStep (wholeRd l most) st).1 ∧ (rdStep (wholeRd l most) st).1 ≤ most := by
  cases st with
  | none => simp [rdStep]; omega
  | some a =>
    cases h : wholeAt l a with
    | none =>
      have e : rdStep (wholeRd l most) (some a) = (0, none) := by simp [rdStep, wholeRd, h]
      rw [e]; simp only; omega
    | some p =>
      obtain ⟨n, a'⟩ := p
      have h2 := wholeFrom_le l a 33 0 n a' (by omega) h
      by_cases hc : most < n
      · have e : rdStep (wholeRd l most) (some a) = (0, none) := by simp [rdStep, wholeRd, h, hc]
        rw [e]; simp only; omega
      · have e : rdStep (wholeRd l most) (some a) = (n, some a') := by simp [rdStep, wholeRd, h, hc]
        rw [e]; simp only; omega
theorem rdStep_signed_le (l : List Nat) (most : Int) (hm : 0 ≤ most) (st : Option Nat) : -most ≤ (rdStep (signedRd l most) st).1 ∧ (rdStep (signedRd l most) st).1 ≤ most := by
  cases st with
  | none => simp [rdStep]; omega
  | some a =>
    cases h : wholeAt l a with
    | none =>
      have e : rdStep (signedRd l most) (some a) = (0, none) := by simp [rdStep, signedRd, h]
      rw [e]; simp only; omega
    | some p =>
      obtain ⟨n, a'⟩ := p
      by_cases hc : most < unsign n ∨ most < -unsign n
      · have e : rdStep (signedRd l most) (some a) = (0, none) := by simp [rdStep, signedRd, h, hc]
        rw [e]; simp only; omega
      · have e : rdStep (signedRd l most) (some a) = (unsign n, some a') := by simp [rdStep, signedRd, h, hc]
        rw [e]; simp only; omega

/-- Levels that were written are read as they were. -/
theorem rdRest_runs (l : List Nat) : ∀ (xs : List Int) (k z : Nat) (b : Nat → Int) (a : Nat), k + xs.length = 16 → z ≤ k → (∀ x ∈ xs, -1048576 ≤ x ∧ x ≤ 1048576) → BitsAt l a (runBits (runs z xs)) →
    ∃ c, rdRest l (runs z xs).length (k - z) b (some a) = (c, 0, some (a + (runBits (runs z xs)).length)) ∧ ∀ i, i < 16 → c (ord i) = if i < k then b (ord i) else if xs.getD (i - k) 0 = 0 then b (ord i) else xs.getD (i - k) 0 := by
  intro xs
  induction xs with
  | nil =>
    intro k z b a hk hz _ _
    refine ⟨b, by simp [runs, runBits, rdRest], fun i hi => ?_⟩
    have : i < k := by simp at hk; omega
    rw [if_pos this]
  | cons x xs ih =>
    intro k z b a hk hz hx hb
    have hk' : k + 1 + xs.length = 16 := by simp at hk; omega
    have hxs : ∀ y ∈ xs, -1048576 ≤ y ∧ y ≤ 1048576 := fun y hy => hx y (by simp [hy])
    by_cases h0 : x = 0
    · have e : runs z (x :: xs) = runs (z + 1) xs := by simp [runs, h0]
      rw [e] at hb ⊢
      obtain ⟨c, h1, h2⟩ := ih (k + 1) (z + 1) b a hk' (by omega) hxs hb
      refine ⟨c, by rw [show k - z = k + 1 - (z + 1) by omega]; exact h1, fun i hi => ?_⟩
      rw [h2 i hi]
      by_cases hi1 : i < k
      · rw [if_pos (by omega), if_pos hi1]
      · by_cases hi2 : i = k
        · subst hi2; simp [h0]
        · obtain ⟨j, rfl⟩ : ∃ j, i = k + 1 + j := ⟨i - (k + 1), by omega⟩
          rw [if_neg (show ¬ k + 1 + j < k + 1 by omega), if_neg (show ¬ k + 1 + j < k by omega), show k + 1 + j - k = j + 1 by omega, show k + 1 + j - (k + 1) = j by omega, List.getD_cons_succ]
    · have e : runs z (x :: xs) = (z, x) :: runs 0 xs := by simp [runs, h0]
      rw [e] at hb ⊢
      have hb0 : BitsAt l a (wholeBits (z : Int) ++ signedBits x ++ runBits (runs 0 xs)) := hb
      have hw := wholeRd_bits l a (z : Int) 15 (by omega) (by omega) (by omega) hb0.left.left
      have hxb := hx x (by simp)
      have hs := signedRd_bits l (a + (wholeBits (z : Int)).length) x 1048576 (by omega) (by omega) (by omega) (by omega) hb0.left.right
      have hbr := hb0.right
      rw [List.length_append] at hbr
      have ho : rdOne l (k - z) (some a) = (k, x, some (a + (wholeBits (z : Int)).length + (signedBits x).length)) := by
        have e1 : rdStep (wholeRd l 15) (some a) = ((z : Int), some (a + (wholeBits (z : Int)).length)) := by simp [rdStep, hw]
        have e2 : rdStep (signedRd l 1048576) (some (a + (wholeBits (z : Int)).length)) = (x, some (a + (wholeBits (z : Int)).length + (signedBits x).length)) := by simp [rdStep, hs]
        unfold rdOne
        rw [e1]
        simp only [e2, Prod.mk.injEq, and_true]
        omega
      have hnb : ¬ rdBad (k, x, some (a + (wholeBits (z : Int)).length + (signedBits x).length)) := by
        unfold rdBad; simp [h0]; omega
      obtain ⟨c, h1, h2⟩ := ih (k + 1) 0 (upd b (ord k) x) (a + ((wholeBits (z : Int)).length + (signedBits x).length)) hk' (by omega) hxs hbr
      refine ⟨c, ?_, fun i hi => ?_⟩
      · simp only [List.length_cons, rdRest, ho]
        rw [if_neg hnb]
        rw [Nat.sub_zero] at h1
        rw [show a + (wholeBits (z : Int)).length + (signedBits x).length = a + ((wholeBits (z : Int)).length + (signedBits x).length) by omega, h1]
        simp only [runBits, List.length_append, Prod.mk.injEq, true_and, Option.some.injEq]
        omega
      · rw [h2 i hi]
        have hu : i ≠ k → upd b (ord k) x (ord i) = b (ord i) := fun hne => by
          unfold upd
          rw [if_neg fun e => hne (ord_inj i hi k (by omega) e)]
        by_cases hi1 : i < k
        · rw [if_pos (by omega), if_pos hi1, hu (by omega)]
        · by_cases hi2 : i = k
          · subst hi2
            rw [if_pos (by omega), if_neg (by omega), Nat.sub_self, List.getD_cons_zero, if_neg h0]
            unfold upd; rw [if_pos rfl]
          · obtain ⟨j, rfl⟩ : ∃ j, i = k + 1 + j := ⟨i - (k + 1), by omega⟩
            rw [if_neg (show ¬ k + 1 + j < k + 1 by omega), if_neg (show ¬ k + 1 + j < k by omega), show k + 1 + j - k = j + 1 by omega, show k + 1 + j - (k + 1) = j by omega, List.getD_cons_succ, hu (by omega)]

theorem scan_back (l : List Nat) (a : Nat) (b : Nat → Int) (hb : BitsAt l a (scanBits b)) : ∃ c, scanRd l (some a) = (c, 0, some (a + (scanBits b).length)) ∧ ∀ i, i < 16 → c i = clB 1048576 b i := by
  have hl : (lvls b).length = 16 := by simp [lvls]
  have h16 := runs_length (lvls b) 0
  have hw := wholeRd_bits l a ((runs 0 (lvls b)).length : Nat) 16 (by omega) (by omega) (by omega) hb.left
  obtain ⟨c, h1, h2⟩ := rdRest_runs l (lvls b) 0 0 (fun _ => 0) _ (by omega) (Nat.le_refl _) (fun x hx => by
    obtain ⟨i, _, rfl⟩ := List.mem_map.1 hx
    exact cl_le 1048576 _ (by omega)) hb.right
  have e1 : rdStep (wholeRd l 16) (some a) = ((((runs 0 (lvls b)).length : Nat) : Int), some (a + (wholeBits ((runs 0 (lvls b)).length : Nat)).length)) := by simp [rdStep, hw]
  refine ⟨c, ?_, fun k hk => ?_⟩
  · unfold scanRd
    rw [e1]
    simp only [Int.toNat_natCast]
    rw [Nat.sub_zero] at h1
    rw [h1]
    simp only [scanBits, List.length_append, Prod.mk.injEq, true_and, Option.some.injEq]
    omega
  · obtain ⟨i, hi, rfl⟩ := ord_onto k hk
    rw [h2 i hi, if_neg (by omega), Nat.sub_zero]
    have e : (lvls b).getD i 0 = lvl b i := by simp [lvls, List.getD, hi]
    rw [e]
    show _ = cl 1048576 (b (ord i))
    split
    · rename_i h; exact h.symm
    · rfl
/-- Unlike blocks have unlike bits, whatever stands behind. -/
theorem scan_apart (l : List Nat) (a b : Nat → Int) (ha : BitsAt l 0 (scanBits a)) (hb : BitsAt l 0 (scanBits b)) (i : Nat) (hi : i < 16) : clB 1048576 a i = clB 1048576 b i := by
  obtain ⟨c, h1, h2⟩ := scan_back l 0 a ha
  obtain ⟨d, h3, h4⟩ := scan_back l 0 b hb
  rw [h1] at h3
  have e : c = d := congrArg (·.1) h3
  rw [← h2 i hi, ← h4 i hi, e]
end Go.Proofs.YtipimcnjcpckeaaDoor
