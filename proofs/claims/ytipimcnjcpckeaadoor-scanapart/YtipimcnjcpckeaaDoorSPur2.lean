/- What the laws of layer 6 say, as lists. No program in it but blocks. -/
import Derived.Test.YtipimcnjcpckeaaDoorSGo
import Derived.Test.YtipimcnjcpckeaaDoorRfR5
namespace Go.Proofs.YtipimcnjcpckeaaDoor

theorem pack_end_bits (bs : List Bool) : bitsOf (pack (bs ++ endBits bs.length)) = bs ++ endBits bs.length := by
  have hl : (bs ++ endBits bs.length).length = 8 * (bs.length / 8 + 1) := by rw [List.length_append, endBits_length]; omega
  generalize bs ++ endBits bs.length = x at hl
  have hn : nbytes x.length = bs.length / 8 + 1 := by unfold nbytes; omega
  apply List.ext_getElem
  · rw [bitsOf_length, pack_length, hn, hl]
  · intro i h1 h2
    have h3 : i < 8 * (pack x).length := by rwa [bitsOf_length] at h1
    have e1 := bitsOf_getD (pack x) i h3
    rw [pack_bit x i (by rwa [pack_length] at h3), List.getD_eq_getElem?_getD, List.getD_eq_getElem?_getD, List.getElem?_eq_getElem h1, List.getElem?_eq_getElem h2] at e1
    simpa using e1
theorem fair_pack (bs : List Bool) (h : bs.length < 1099511627776) : Fair (pack bs) := ⟨pack_bytes bs, by rw [pack_length]; unfold nbytes; omega⟩
theorem done_end (bs : List Bool) (h : bs.length + 8 < 1099511627776) : doneOf (pack (bs ++ endBits bs.length)) (some bs.length) = 0 := by
  have hle : (bs ++ endBits bs.length).length ≤ bs.length + 8 := by rw [List.length_append, endBits_length]; omega
  have hf := fair_pack (bs ++ endBits bs.length) (by omega)
  have hb : bs.length ≤ 8 * (pack (bs ++ endBits bs.length)).length := by
    have := bitsOf_length (pack (bs ++ endBits bs.length))
    rw [pack_end_bits, List.length_append] at this; omega
  have h1 := (drop_end (pack (bs ++ endBits bs.length)) bs.length hf hb).1 (by rw [pack_end_bits]; simp)
  unfold doneOf endsAt
  simp only
  rw [decide_eq_true h1, if_pos rfl]
theorem bitsAt_front (bs cs : List Bool) : BitsAt (pack (bs ++ cs)) 0 bs := (bitsAt_pack (bs ++ cs)).left

theorem text_same {x y : List Bool} (h : (textOf (pack x)).toList = (textOf (pack y)).toList) : pack x = pack y := by
  have := textOf_beq (pack_bytes x) (pack_bytes y)
  rw [h] at this
  simpa using this
/-- Unlike blocks have unlike bytes. -/
theorem apart_law (a b : Nat → Int) : (((textOf (pack (([] ++ scanBits (clB 1048576 a)) ++ endBits ([] ++ scanBits (clB 1048576 a)).length))).toList == (textOf (pack (([] ++ scanBits (clB 1048576 b)) ++ endBits ([] ++ scanBits (clB 1048576 b)).length))).toList) == sameB (clB 1048576 a) (clB 1048576 b)) = true := by
  have e : ∀ c : Nat → Int, clB 1048576 (clB 1048576 c) = clB 1048576 c := fun c => clB_small (by omega) c
  by_cases h : sameB (clB 1048576 a) (clB 1048576 b) = true
  · have h1 := sameB_iff.1 h
    have h2 : scanBits (clB 1048576 a) = scanBits (clB 1048576 b) := scanBits_congr h1
    rw [h, h2]; simp
  · have h' : sameB (clB 1048576 a) (clB 1048576 b) = false := by simpa using h
    rw [h']
    have : ¬ ((textOf (pack (([] ++ scanBits (clB 1048576 a)) ++ endBits ([] ++ scanBits (clB 1048576 a)).length))).toList = (textOf (pack (([] ++ scanBits (clB 1048576 b)) ++ endBits ([] ++ scanBits (clB 1048576 b)).length))).toList) := fun ht => by
      have hp := text_same ht
      refine h (sameB_true fun i hi => ?_)
      have h1 : BitsAt (pack (scanBits (clB 1048576 a) ++ endBits (scanBits (clB 1048576 a)).length)) 0 (scanBits (clB 1048576 a)) := bitsAt_front _ _
      have h2 : BitsAt (pack (scanBits (clB 1048576 b) ++ endBits (scanBits (clB 1048576 b)).length)) 0 (scanBits (clB 1048576 b)) := bitsAt_front _ _
      have hp' : pack (scanBits (clB 1048576 a) ++ endBits (scanBits (clB 1048576 a)).length) = pack (scanBits (clB 1048576 b) ++ endBits (scanBits (clB 1048576 b)).length) := hp
      rw [hp'] at h1
      have := scan_apart _ _ _ h1 h2 i hi
      rwa [e, e] at this
    simpa using this

/-! A block of one level. -/
def oneB (k : Nat) (n : Int) : Nat → Int := upd (fun _ => 0) (ord k) n
theorem lvl_one (k : Nat) (hk : k < 16) (n : Int) (i : Nat) (hi : i < 16) : lvl (oneB k n) i = if i = k then cl 1048576 n else 0 := by
  unfold lvl oneB upd
  by_cases h : i = k
  · subst h; rw [if_pos rfl, if_pos rfl]
  · rw [if_neg fun e => h (ord_inj i hi k hk e), if_neg h]; rfl
theorem runs_zeros (xs : List Int) (h : ∀ x ∈ xs, x = 0) : ∀ z, runs z xs = [] := by
  induction xs with
  | nil => intro z; rfl
  | cons x xs ih => intro z; rw [runs, if_pos (h x (by simp)), ih (fun y hy => h y (by simp [hy]))]
theorem runs_app_zeros (xs ys : List Int) (h : ∀ x ∈ xs, x = 0) : ∀ z, runs z (xs ++ ys) = runs (z + xs.length) ys := by
  induction xs with
  | nil => intro z; rfl
  | cons x xs ih =>
    intro z
    rw [List.cons_append, runs, if_pos (h x (by simp)), ih (fun y hy => h y (by simp [hy])), List.length_cons]
    congr 1; omega
theorem lvls_one (k : Nat) (hk : k < 16) (n : Int) : lvls (oneB k n) = List.replicate k 0 ++ (cl 1048576 n :: List.replicate (15 - k) 0) := by
  apply List.ext_getElem
  · simp [lvls]; omega
  · intro i h1 h2
    have hi : i < 16 := by simpa [lvls] using h1
    have e : (lvls (oneB k n))[i]'h1 = lvl (oneB k n) i := by simp [lvls]
    refine e.trans ?_
    rw [lvl_one k hk n i hi]
    rw [List.getElem_append]
    by_cases hlt : i < k
    · rw [if_neg (by omega), dif_pos (by simpa using hlt)]; simp
    · rw [dif_neg (by simpa using hlt)]
      by_cases hik : i = k
      · subst hik; simp
      · rw [if_neg hik]
        obtain ⟨j, rfl⟩ : ∃ j, i = k + 1 + j := ⟨i - k - 1, by omega⟩
        simp [show k + 1 + j - k = j + 1 by omega]
theorem scan_one_zero (k : Nat) (hk : k < 16) : scanBits (oneB k 0) = wholeBits 0 := by
  have e : runs 0 (lvls (oneB k 0)) = [] := by
    rw [lvls_one k hk]
    refine runs_zeros _ (fun x hx => ?_) 0
    have hc : cl 1048576 0 = 0 := by decide
    rw [hc] at hx
    simp only [List.mem_append, List.mem_replicate, List.mem_cons] at hx
    rcases hx with h | h | h
    · exact h.2
    · exact h
    · exact h.2
  unfold scanBits; rw [e]; rfl
theorem scan_one_some (k : Nat) (hk : k < 16) (n : Int) (h0 : n ≠ 0) (h1 : -1048576 ≤ n ∧ n ≤ 1048576) : scanBits (oneB k n) = wholeBits 1 ++ (wholeBits k ++ signedBits n) := by
  have e : runs 0 (lvls (oneB k n)) = [(k, n)] := by
    rw [lvls_one k hk, cl_id _ _ h1.1 h1.2, runs_app_zeros _ _ (fun x hx => (List.mem_replicate.1 hx).2), List.length_replicate, runs, if_neg h0, runs_zeros _ (fun x hx => (List.mem_replicate.1 hx).2), Nat.zero_add]
  unfold scanBits; rw [e]
  simp [runBits]
theorem one_many_zero (k : Nat) (hk : k < 16) : (scanBits (oneB k 0)).length = 1 := by rw [scan_one_zero k hk]; decide
theorem one_law (k m : Nat) (n : Int) (hn : -32768 ≤ n ∧ n ≤ 32767) (hm : m < 65536) :
    ∃ c, scanRd (pack ((([] ++ scanBits (oneB k n)) ++ wholeBits m) ++ endBits (([] ++ scanBits (oneB k n)) ++ wholeBits m).length)) (some 0) = (c, 0, some (scanBits (oneB k n)).length) ∧ sameB c (oneB k n) = true ∧
      rdStep (wholeRd (pack ((([] ++ scanBits (oneB k n)) ++ wholeBits m) ++ endBits (([] ++ scanBits (oneB k n)) ++ wholeBits m).length)) 1048576) (some (scanBits (oneB k n)).length) = ((m : Int), some (([] ++ scanBits (oneB k n)) ++ wholeBits m).length) ∧
      doneOf (pack ((([] ++ scanBits (oneB k n)) ++ wholeBits m) ++ endBits (([] ++ scanBits (oneB k n)) ++ wholeBits m).length)) (some (([] ++ scanBits (oneB k n)) ++ wholeBits m).length) = 0 := by
  have hl := scanBits_length (oneB k n)
  have hl2 := wholeBits_short (m : Int)
  have hb : BitsAt (pack ((([] ++ scanBits (oneB k n)) ++ wholeBits m) ++ endBits (([] ++ scanBits (oneB k n)) ++ wholeBits m).length)) 0 (scanBits (oneB k n) ++ wholeBits m) := bitsAt_front _ _
  have hd := done_end (([] ++ scanBits (oneB k n)) ++ wholeBits m) (by simp; omega)
  generalize pack ((([] ++ scanBits (oneB k n)) ++ wholeBits m) ++ endBits (([] ++ scanBits (oneB k n)) ++ wholeBits m).length) = L at *
  obtain ⟨c, h1, h2⟩ := scan_back L 0 (oneB k n) hb.left
  rw [Nat.zero_add] at h1
  have hr := hb.right
  rw [Nat.zero_add] at hr
  have hw := wholeRd_bits L (scanBits (oneB k n)).length (m : Int) 1048576 (by omega) (by omega) (by omega) hr
  refine ⟨c, h1, sameB_true fun i hi => (h2 i hi).trans ?_, ?_, hd⟩
  · unfold clB oneB upd
    split
    · exact cl_id _ _ (by omega) (by omega)
    · rfl
  · simp only [rdStep, hw, List.nil_append, List.length_append]
theorem one_facts (k m : Nat) (n : Int) (hn : -32768 ≤ n ∧ n ≤ 32767) (hm : m < 65536) (L : List Nat) (hL : L = pack ((([] ++ scanBits (oneB k n)) ++ wholeBits m) ++ endBits (([] ++ scanBits (oneB k n)) ++ wholeBits m).length)) :
    sameB (scanRd L (some 0)).1 (oneB k n) = true ∧ (scanRd L (some 0)).2.1 = 0 ∧ (rdStep (wholeRd L 1048576) (rdSt L (some 0))).1 = (m : Int) ∧ doneOf L (rdStep (wholeRd L 1048576) (rdSt L (some 0))).2 = 0 := by
  obtain ⟨c, h1, h2, h3, h4⟩ := one_law k m n hn hm
  rw [← hL] at h1 h3 h4
  have e : rdSt L (some 0) = some (scanBits (oneB k n)).length := by rw [rdSt_ok (by rw [h1]), h1]
  rw [e, h3, h1]
  exact ⟨h2, rfl, rfl, h4⟩
theorem one_many_some (k : Nat) (hk : k < 16) (n : Int) (h0 : n ≠ 0) (h1 : -32768 ≤ n ∧ n ≤ 32767) : (([] ++ scanBits (oneB k n)).length : Int) = ((((([] : List Bool) ++ wholeBits 1) ++ wholeBits k) ++ signedBits n).length : Nat) := by
  rw [scan_one_some k hk n h0 (by omega)]
  simp only [List.nil_append, List.length_append]
  omega
theorem one_many_none (k : Nat) (hk : k < 16) (n : Int) (h0 : n = 0) : (([] ++ scanBits (oneB k n)).length : Int) = 1 := by
  subst h0
  rw [List.nil_append, one_many_zero k hk]; rfl
/-! Bits that are few: kept out of the walks' arithmetic. -/
def Short (c : Nat) (bs : List Bool) : Prop := bs.length ≤ c
theorem Short.nil : Short 0 [] := Nat.le_refl _
theorem Short.whole {c : Nat} {bs : List Bool} (h : Short c bs) (n : Int) : Short (c + 63) (bs ++ wholeBits n) := by
  have h1 := wholeBits_short n
  unfold Short at *; rw [List.length_append]; omega
theorem Short.signed {c : Nat} {bs : List Bool} (h : Short c bs) (n : Int) : Short (c + 63) (bs ++ signedBits n) := by
  have h1 := signedBits_short n
  unfold Short at *; rw [List.length_append]; omega
theorem Short.scan {c : Nat} {bs : List Bool} (h : Short c bs) (b : Nat → Int) : Short (c + 2079) (bs ++ scanBits b) := by
  have h1 := scanBits_length b
  unfold Short at *; rw [List.length_append]; omega
theorem Short.ended {c : Nat} {bs : List Bool} (h : Short c bs) : Short (c + 8) (bs ++ endBits bs.length) := by
  unfold Short at *; rw [List.length_append, endBits_length]; omega
theorem Short.room {c m : Nat} {bs : List Bool} (h : Short c bs) (hc : c + m < 1099511627776) : bs.length + m < 1099511627776 := by
  unfold Short at h; omega
theorem Short.fits {c : Nat} {bs : List Bool} (h : Short c bs) (hc : c < 1099511627776) : bs.length < 1099511627776 := by
  unfold Short at h; omega
theorem Short.bytes {c : Nat} {bs : List Bool} (h : Short c bs) (hc : c + 8 < 1099511627776) : (pack bs).length < 1099511627776 := by
  unfold Short at h; rw [pack_length]; unfold nbytes; omega
end Go.Proofs.YtipimcnjcpckeaaDoor
