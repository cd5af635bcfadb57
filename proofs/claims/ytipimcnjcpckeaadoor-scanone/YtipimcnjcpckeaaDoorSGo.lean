/- How the landed scan goes about it: levels that come one behind the other, readings without bounds. No program in it. -/
import Derived.Test.YtipimcnjcpckeaaDoorSPure
namespace Go.Proofs.YtipimcnjcpckeaaDoor

/-! Levels, one behind the other. -/
def tellR (s : Nat × List (Nat × Int)) (x : Int) : Nat × List (Nat × Int) := if x = 0 then (s.1 + 1, s.2) else (0, s.2 ++ [(s.1, x)])
def goneTo (b : Nat → Int) (k : Nat) : Nat × List (Nat × Int) := ((List.range k).map (lvl b)).foldl tellR (0, [])
theorem goneTo_succ (b : Nat → Int) (k : Nat) : goneTo b (k + 1) = tellR (goneTo b k) (lvl b k) := by simp [goneTo, List.range_succ]
theorem gone_zero (b : Nat → Int) (k : Nat) (h : lvl b k = 0) : goneTo b (k + 1) = ((goneTo b k).1 + 1, (goneTo b k).2) := by rw [goneTo_succ, tellR, if_pos h]
theorem gone_some (b : Nat → Int) (k : Nat) (h : ¬ lvl b k = 0) : goneTo b (k + 1) = (0, (goneTo b k).2 ++ [((goneTo b k).1, lvl b k)]) := by rw [goneTo_succ, tellR, if_neg h]
theorem gone_le (b : Nat → Int) (k : Nat) : (goneTo b k).1 ≤ k ∧ (goneTo b k).2.length ≤ k := by
  induction k with
  | zero => simp [goneTo]
  | succ k ih =>
    rw [goneTo_succ]
    unfold tellR
    split
    · simp only; omega
    · simp only [List.length_append, List.length_cons, List.length_nil]; omega
theorem tellR_all (xs : List Int) : ∀ s : Nat × List (Nat × Int), (xs.foldl tellR s).2 = s.2 ++ runs s.1 xs := by
  induction xs with
  | nil => intro s; simp [runs]
  | cons x xs ih =>
    intro s
    rw [List.foldl_cons, ih]
    unfold tellR
    by_cases hx : x = 0
    · rw [if_pos hx]; simp [runs, hx]
    · rw [if_neg hx]; simp [runs, hx]
theorem gone_all (b : Nat → Int) : (goneTo b 16).2 = runs 0 (lvls b) := by
  have h := tellR_all (lvls b) (0, []); rw [List.nil_append] at h; exact h
theorem runs_le (b : Nat → Int) : (runs 0 (lvls b)).length ≤ 16 := by
  have h := runs_length (lvls b) 0
  have h4 : (lvls b).length = 16 := by simp [lvls]
  omega
theorem runBits_append (a b : List (Nat × Int)) : runBits (a ++ b) = runBits a ++ runBits b := by
  induction a with
  | nil => rfl
  | cons p a ih => simp [runBits, ih]
theorem runBits_one (a : List (Nat × Int)) (p : Nat × Int) (z : List Bool) : ((z ++ runBits a) ++ wholeBits (p.1 : Nat)) ++ signedBits p.2 = z ++ runBits (a ++ [p]) := by
  rw [runBits_append]; simp [runBits]
theorem room16 {bs : List Bool} {pre : List (Nat × Int)} (n : Int) (h : bs.length + 4096 < 1099511627776) (hl : pre.length < 16) : ((bs ++ wholeBits n) ++ runBits pre).length + 200 < 1099511627776 := by
  have h1 := wholeBits_short n
  have h2 := runBits_length pre
  rw [List.length_append, List.length_append]; omega

/-! Readings without bounds. -/
def gBig : Int := 9223372036854775807
def gOne (l : List Nat) (a : Nat) (s : Option Nat) : Nat × Int × Option Nat := (a + (rdStep (wholeRd l gBig) s).1.toNat, rdStep (signedRd l gBig) (rdStep (wholeRd l gBig) s).2)
def gRest (l : List Nat) : Nat → Nat → (Nat → Int) → Option Nat → (Nat → Int) × Int × Option Nat
  | 0, _, b, s => (b, 0, s)
  | k + 1, a, b, s => if 16 ≤ (gOne l a s).1 then (fun _ => 0, 60, (rdStep (wholeRd l gBig) s).2)
    else if (gOne l a s).2.1 = 0 ∨ (gOne l a s).2.1 ≠ cl 1048576 (gOne l a s).2.1 then (fun _ => 0, 60, (gOne l a s).2.2)
    else gRest l k ((gOne l a s).1 + 1) (upd b (ord (gOne l a s).1) (gOne l a s).2.1) (gOne l a s).2.2
def gRd (l : List Nat) (s : Option Nat) : (Nat → Int) × Int × Option Nat :=
  if (rdStep (wholeRd l gBig) s).2.isNone = true ∨ 16 < (rdStep (wholeRd l gBig) s).1 then (fun _ => 0, 60, (rdStep (wholeRd l gBig) s).2)
  else gRest l (rdStep (wholeRd l gBig) s).1.toNat 0 (fun _ => 0) (rdStep (wholeRd l gBig) s).2

theorem gw_bounds (l : List Nat) (a : Nat) (n : Int) (a' : Nat) (h : wholeAt l a = some (n, a')) : 0 ≤ n ∧ n ≤ 8589934592 := by
  have := wholeFrom_le l a 33 0 n a' (by omega) h
  omega
theorem gBig_whole (l : List Nat) (s : Option Nat) : 0 ≤ (rdStep (wholeRd l gBig) s).1 ∧ (rdStep (wholeRd l gBig) s).1 ≤ 8589934592 := by
  cases s with
  | none => simp [rdStep]
  | some a =>
    cases h : wholeAt l a with
    | none => simp [rdStep, wholeRd, h]
    | some p =>
      obtain ⟨n, a'⟩ := p
      have hb := gw_bounds l a n a' h
      have e : rdStep (wholeRd l gBig) (some a) = (n, some a') := by
        have : ¬ gBig < n := by unfold gBig; omega
        simp [rdStep, wholeRd, h, this]
      rw [e]; exact hb
theorem gBig_at (l : List Nat) (a : Nat) (s : Option Nat) : (a : Int) + (rdStep (wholeRd l gBig) s).1 = (((gOne l a s).1 : Nat) : Int) ∧ (gOne l a s).1 ≤ a + 8589934592 := by
  have h := gBig_whole l s
  unfold gOne
  simp only
  omega

def Alike (r r' : (Nat → Int) × Int × Option Nat) : Prop := r.1 = r'.1 ∧ r.2.1 = r'.2.1 ∧ (r'.2.1 = 0 → r = r')
theorem Alike.bad (s s' : Option Nat) : Alike (fun _ => 0, 60, s) (fun _ => 0, 60, s') := ⟨rfl, rfl, fun h => absurd (show (60 : Int) = 0 from h) (by decide)⟩
theorem cl_id20 (n : Int) : cl 1048576 n = n ↔ (-1048576 ≤ n ∧ n ≤ 1048576) := by unfold cl; omega

theorem gw_big (l : List Nat) (a : Nat) (n : Int) (a' : Nat) (h : wholeAt l a = some (n, a')) : rdStep (wholeRd l gBig) (some a) = (n, some a') := by
  have hb := gw_bounds l a n a' h
  have : ¬ gBig < n := by unfold gBig; omega
  simp [rdStep, wholeRd, h, this]
theorem gw_lost (l : List Nat) (m : Int) (a : Nat) (h : wholeAt l a = none) : rdStep (wholeRd l m) (some a) = (0, none) := by simp [rdStep, wholeRd, h]
theorem gw_far (l : List Nat) (m : Int) (a : Nat) (n : Int) (a' : Nat) (h : wholeAt l a = some (n, a')) (hm : m < n) : rdStep (wholeRd l m) (some a) = (0, none) := by simp [rdStep, wholeRd, h, hm]
theorem gw_near (l : List Nat) (m : Int) (a : Nat) (n : Int) (a' : Nat) (h : wholeAt l a = some (n, a')) (hm : ¬ m < n) : rdStep (wholeRd l m) (some a) = (n, some a') := by simp [rdStep, wholeRd, h, hm]
theorem gs_lost (l : List Nat) (m : Int) (a : Nat) (h : wholeAt l a = none) : rdStep (signedRd l m) (some a) = (0, none) := by simp [rdStep, signedRd, h]
theorem gs_big (l : List Nat) (a : Nat) (n : Int) (a' : Nat) (h : wholeAt l a = some (n, a')) : rdStep (signedRd l gBig) (some a) = (unsign n, some a') := by
  have hb := gw_bounds l a n a' h
  have : ¬ (gBig < unsign n ∨ gBig < -unsign n) := by
    unfold gBig unsign
    split <;> omega
  simp only [rdStep, signedRd, h, if_neg this]
theorem gs_far (l : List Nat) (m : Int) (a : Nat) (n : Int) (a' : Nat) (h : wholeAt l a = some (n, a')) (hm : m < unsign n ∨ m < -unsign n) : rdStep (signedRd l m) (some a) = (0, none) := by simp only [rdStep, signedRd, h, if_pos hm]
theorem gs_near (l : List Nat) (m : Int) (a : Nat) (n : Int) (a' : Nat) (h : wholeAt l a = some (n, a')) (hm : ¬ (m < unsign n ∨ m < -unsign n)) : rdStep (signedRd l m) (some a) = (unsign n, some a') := by simp only [rdStep, signedRd, h, if_neg hm]

/-- In a step that goes wrong both go wrong; else both go on alike. -/
theorem gRest_alike (l : List Nat) : ∀ (k a : Nat) (b : Nat → Int) (s : Nat), Alike (gRest l k a b (some s)) (rdRest l k a b (some s)) := by
  intro k
  induction k with
  | zero => intro a b s; exact ⟨rfl, rfl, fun _ => rfl⟩
  | succ k ih =>
    intro a b s
    rw [gRest, rdRest]
    cases hw : wholeAt l s with
    | none =>
      have e1 : (rdOne l a (some s)) = (a, 0, none) := by
        unfold rdOne; rw [gw_lost l 15 s hw]; simp [rdStep]
      have e2 : (gOne l a (some s)) = (a, 0, none) := by
        unfold gOne; rw [gw_lost l gBig s hw]; simp [rdStep]
      rw [e1, e2, if_pos (show rdBad (a, 0, none) from .inl rfl)]
      split
      · exact Alike.bad _ _
      · rw [if_pos (.inl rfl)]; exact Alike.bad _ _
    | some p =>
      obtain ⟨n, s1⟩ := p
      have hb := gw_bounds l s n s1 hw
      have eg : gOne l a (some s) = (a + n.toNat, rdStep (signedRd l gBig) (some s1)) := by unfold gOne; rw [gw_big l s n s1 hw]
      by_cases hf : 15 < n
      · have e1 : rdOne l a (some s) = (a, 0, none) := by
          unfold rdOne; rw [gw_far l 15 s n s1 hw hf]; simp [rdStep]
        rw [e1, if_pos (show rdBad (a, 0, none) from .inl rfl), eg, if_pos (show 16 ≤ a + n.toNat by omega)]
        exact Alike.bad _ _
      · have e1 : rdOne l a (some s) = (a + n.toNat, rdStep (signedRd l 1048576) (some s1)) := by unfold rdOne; rw [gw_near l 15 s n s1 hw hf]
        rw [e1, eg]
        by_cases h16 : 16 ≤ a + n.toNat
        · rw [if_pos h16, if_pos (show rdBad _ from .inr (.inl (by simp only; omega)))]
          exact Alike.bad _ _
        · rw [if_neg h16]
          cases hw2 : wholeAt l s1 with
          | none =>
            rw [gs_lost l gBig s1 hw2, gs_lost l 1048576 s1 hw2, if_pos (.inl rfl), if_pos (show rdBad _ from .inl rfl)]
            exact Alike.bad _ _
          | some q =>
            obtain ⟨m, s2⟩ := q
            rw [gs_big l s1 m s2 hw2]
            by_cases hfar : (1048576 : Int) < unsign m ∨ (1048576 : Int) < -unsign m
            · rw [gs_far l 1048576 s1 m s2 hw2 hfar, if_pos (show rdBad _ from .inl rfl), if_pos (.inr (fun h => by have := (cl_id20 (unsign m)).1 h.symm; omega))]
              exact Alike.bad _ _
            · rw [gs_near l 1048576 s1 m s2 hw2 hfar]
              have hc : unsign m = cl 1048576 (unsign m) := ((cl_id20 _).2 (by omega)).symm
              by_cases h0 : unsign m = 0
              · rw [if_pos (.inl h0), if_pos (show rdBad _ from .inr (.inr h0))]
                exact Alike.bad _ _
              · have hn1 : ¬ (unsign m = 0 ∨ unsign m ≠ cl 1048576 (unsign m)) := by
                  rintro (h | h)
                  · exact h0 h
                  · exact h hc
                have hn2 : ¬ rdBad (a + n.toNat, unsign m, some s2) := by
                  rintro (h | h | h)
                  · cases h
                  · simp only at h; omega
                  · exact h0 h
                rw [if_neg hn1, if_neg hn2]
                exact ih _ _ _
theorem gRd_alike (l : List Nat) (st : Option Nat) : Alike (gRd l st) (scanRd l st) := by
  unfold gRd scanRd
  cases st with
  | none =>
    have e1 : ∀ m, rdStep (wholeRd l m) none = (0, none) := fun m => rfl
    rw [e1, e1, if_pos (.inl rfl)]
    exact Alike.bad _ _
  | some s =>
    cases hw : wholeAt l s with
    | none =>
      rw [gw_lost l gBig s hw, gw_lost l 16 s hw, if_pos (.inl rfl)]
      exact Alike.bad _ _
    | some p =>
      obtain ⟨n, s1⟩ := p
      rw [gw_big l s n s1 hw]
      by_cases hf : 16 < n
      · rw [if_pos (.inr hf), gw_far l 16 s n s1 hw hf]
        exact Alike.bad _ _
      · rw [gw_near l 16 s n s1 hw hf, if_neg (by rintro (h | h); cases h; exact hf h)]
        exact gRest_alike l _ _ _ _
/-- The reader behind it. -/
def rdSt (l : List Nat) (st : Option Nat) : Option Nat := (gRd l st).2.2
theorem rdSt_ok {l : List Nat} {st : Option Nat} (h : (scanRd l st).2.1 = 0) : rdSt l st = (scanRd l st).2.2 := by unfold rdSt; rw [(gRd_alike l st).2.2 h]

/-! The steps of the walk. -/
theorem g_far {l : List Nat} {M i a : Nat} {b : Nat → Int} {s : Option Nat} {R : (Nat → Int) × Int × Option Nat} (hi : i < M) (h : gRest l (M - i) a b s = R) (hb : 16 ≤ (gOne l a s).1) : R = (fun _ => 0, 60, (rdStep (wholeRd l gBig) s).2) := by
  obtain ⟨k, hk⟩ : ∃ k, M - i = k + 1 := ⟨M - i - 1, by omega⟩
  rw [hk, gRest, if_pos hb] at h
  exact h.symm
theorem g_bad {l : List Nat} {M i a : Nat} {b : Nat → Int} {s : Option Nat} {R : (Nat → Int) × Int × Option Nat} (hi : i < M) (h : gRest l (M - i) a b s = R) (ha : ¬ 16 ≤ (gOne l a s).1) (hb : (gOne l a s).2.1 = 0 ∨ (gOne l a s).2.1 ≠ cl 1048576 (gOne l a s).2.1) : R = (fun _ => 0, 60, (gOne l a s).2.2) := by
  obtain ⟨k, hk⟩ : ∃ k, M - i = k + 1 := ⟨M - i - 1, by omega⟩
  rw [hk, gRest, if_neg ha, if_pos hb] at h
  exact h.symm
theorem g_ok {l : List Nat} {M i a : Nat} {b : Nat → Int} {s : Option Nat} {R : (Nat → Int) × Int × Option Nat} (hi : i < M) (h : gRest l (M - i) a b s = R) (ha : ¬ 16 ≤ (gOne l a s).1) (hb : ¬ ((gOne l a s).2.1 = 0 ∨ (gOne l a s).2.1 ≠ cl 1048576 (gOne l a s).2.1)) :
    gRest l (M - (i + 1)) ((gOne l a s).1 + 1) (upd b (ord (gOne l a s).1) (gOne l a s).2.1) (gOne l a s).2.2 = R := by
  obtain ⟨k, hk⟩ : ∃ k, M - i = k + 1 := ⟨M - i - 1, by omega⟩
  rw [hk, gRest, if_neg ha, if_neg hb] at h
  rw [show M - (i + 1) = k by omega]
  exact h
theorem g_done {l : List Nat} {M i a : Nat} {b : Nat → Int} {s : Option Nat} {R : (Nat → Int) × Int × Option Nat} (hi : ¬ i < M) (h : gRest l (M - i) a b s = R) : R = (b, 0, s) := by
  rw [show M - i = 0 by omega, gRest] at h
  exact h.symm
theorem g_none {l : List Nat} {s : Option Nat} (h : (rdStep (wholeRd l gBig) s).2.isNone = true ∨ 16 < (rdStep (wholeRd l gBig) s).1) : gRd l s = (fun _ => 0, 60, (rdStep (wholeRd l gBig) s).2) := by unfold gRd; rw [if_pos h]
theorem g_start {l : List Nat} {s : Option Nat} {M : Nat} (h1 : (rdStep (wholeRd l gBig) s).2.isNone = false) (h2 : ¬ 16 < (rdStep (wholeRd l gBig) s).1) (hM : M = (rdStep (wholeRd l gBig) s).1.toNat) : gRest l (M - 0) 0 (fun _ => 0) (rdStep (wholeRd l gBig) s).2 = gRd l s := by
  unfold gRd
  rw [if_neg (by rintro (h | h); rw [h1] at h; cases h; exact h2 h), ← hM]; rfl
/-- What is answered, told as the document has it. -/
theorem told_as {l : List Nat} {s : Option Nat} {b : Nat → Int} {n : Int} {t : Option Nat} (h : gRd l s = (b, n, t)) : b = (scanRd l s).1 ∧ n = (scanRd l s).2.1 ∧ rdSt l s = t := by
  have ha := gRd_alike l s
  have hs : rdSt l s = (gRd l s).2.2 := rfl
  rw [h] at ha hs
  exact ⟨ha.1, ha.2.1, hs⟩
end Go.Proofs.YtipimcnjcpckeaaDoor
