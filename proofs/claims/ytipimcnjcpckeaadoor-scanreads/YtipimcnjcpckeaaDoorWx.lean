/- What wave's functions do. -/
import Derived.Test.YtipimcnjcpckeaaDoorSb
import Derived.Test.YtipimcnjcpckeaaDoorWPure
namespace Go.Proofs.YtipimcnjcpckeaaDoor
open Go.RowKit

/-- The first k places told anew. -/
def upto (k : Nat) (b c : Nat → Int) : Nat → Int := fun i => if i < k then c i else b i
theorem upto_zero (b c : Nat → Int) : upto 0 b c = b := by funext i; simp [upto]
theorem upto_full (b c : Nat → Int) (i : Nat) (hi : i < 16) : upto 16 b c i = c i := by simp [upto, hi]
theorem upto_set (k : Nat) (b c : Nat → Int) : upd (upto k b c) k (c k) = upto (k + 1) b c := by
  funext i
  unfold upd upto
  by_cases h : i = k
  · subst h; simp
  · rw [if_neg h]
    by_cases h2 : i < k
    · rw [if_pos h2, if_pos (by omega)]
    · rw [if_neg h2, if_neg (by omega)]
theorem upto_at (k : Nat) (b c : Nat → Int) : upto k b c k = b k := by simp [upto]
theorem Blk.first {w : World} {p : Nat} {t : TypeId} {b c : Nat → Int} (h : Blk w p t b) : Blk w p t (upto 0 b c) := by rw [upto_zero]; exact h
theorem Blk.next {w : World} {p : Nat} {t : TypeId} {b c : Nat → Int} {k : Nat} {x : Int} (h : Blk w p t (upd (upto k b c) k x)) (e : x = c k) : Blk w p t (upto (k + 1) b c) := by rw [← upto_set, ← e]; exact h
theorem Blk.last {w : World} {p : Nat} {t : TypeId} {b c : Nat → Int} (h : Blk w p t (upto 16 b c)) : Blk w p t c := h.congr (upto_full b c)
theorem some_int {x y : Int} (h : x = y) : some (Value.int .i64 x) = some (Value.int .i64 y) := by rw [h]

theorem Kept.cell0 {S : Nat → Prop} {w w' : World} (k : Kept S w w') {b off : Nat} (hb : b < w.heap.size) (hn : ¬ S b) : w'.cell? ⟨b, off, none⟩ = w.cell? ⟨b, off, none⟩ := by
  unfold World.cell?; rw [k.block b hb hn]
theorem wv_flat (u c : Nat) : wv 0 (u * 4 + c) = wv u c := by unfold wv; congr 1; omega
/-- The first c terms of a row's sum by a wave. -/
def ps (b : Nat → Int) (r u : Nat) : Nat → Int
  | 0 => 0
  | c + 1 => ps b r u c + b (r * 4 + c) * wv u c

theorem ps_le (b : Nat → Int) (M : Int) (h : ∀ i, i < 16 → -M ≤ b i ∧ b i ≤ M) (r u c : Nat) (hr : r < 4) (hc : c ≤ 4) : -(c * M) ≤ ps b r u c ∧ ps b r u c ≤ c * M := by
  induction c with
  | zero => simp [ps]
  | succ c ih =>
    have h1 := ih (by omega)
    have h2 := h (r * 4 + c) (by omega)
    have h3 := wv_mul _ M u c h2.1 h2.2
    have e : ((c + 1 : Nat) : Int) * M = (c : Int) * M + M := by rw [Int.natCast_add, Int.add_mul]; simp
    rw [e]
    unfold ps
    omega

theorem ps_turn (b : Nat → Int) (r u : Nat) (hr : r < 4) : ps b r u 4 = turn b (u * 4 + r) := by
  have e1 : (u * 4 + r) % 4 = r := by omega
  have e2 : (u * 4 + r) / 4 = u := by omega
  simp only [ps, turn, e1, e2, Nat.mul_comm r 4, Nat.add_zero]
  omega

/-- The sums as far as they are told. -/
def turnP (b : Nat → Int) (r u c i : Nat) : Int := if i % 4 < r ∨ (i % 4 = r ∧ i / 4 < u) then turn b i else if i % 4 = r ∧ i / 4 = u then ps b r u c else 0

theorem turnP_here (b : Nat → Int) (r u c : Nat) (hr : r < 4) : turnP b r u c (u * 4 + r) = ps b r u c := by
  have e1 : (u * 4 + r) % 4 = r := by omega
  have e2 : (u * 4 + r) / 4 = u := by omega
  unfold turnP
  rw [e1, e2, if_neg (by omega), if_pos ⟨rfl, rfl⟩]

theorem turnP_set (b : Nat → Int) (r u c : Nat) (hr : r < 4) : upd (turnP b r u c) (u * 4 + r) (ps b r u (c + 1)) = turnP b r u (c + 1) := by
  funext i
  unfold upd
  by_cases h : i = u * 4 + r
  · subst h; rw [if_pos rfl, turnP_here b r u (c + 1) hr]
  · rw [if_neg h]
    have hn : ¬ (i % 4 = r ∧ i / 4 = u) := by omega
    unfold turnP
    rw [if_neg hn, if_neg hn]

theorem turnP_row (b : Nat → Int) (r u : Nat) (hr : r < 4) : turnP b r u 4 = turnP b r (u + 1) 0 := by
  funext i
  by_cases h : i = u * 4 + r
  · subst h
    rw [turnP_here b r u 4 hr, ps_turn b r u hr]
    unfold turnP
    rw [if_pos (by omega)]
  · unfold turnP
    have hn : ¬ (i % 4 = r ∧ i / 4 = u) := by omega
    by_cases h1 : i % 4 < r ∨ (i % 4 = r ∧ i / 4 < u)
    · rw [if_pos h1, if_pos (by omega)]
    · rw [if_neg h1, if_neg hn, if_neg (by omega)]
      split <;> simp [ps]

theorem turnP_next (b : Nat → Int) (r : Nat) (i : Nat) (hi : i < 16) : turnP b r 4 0 i = turnP b (r + 1) 0 0 i := by
  unfold turnP
  by_cases h1 : i % 4 < r ∨ (i % 4 = r ∧ i / 4 < 4)
  · rw [if_pos h1, if_pos (by omega)]
  · rw [if_neg h1, if_neg (by omega), if_neg (by omega)]
    split <;> simp [ps]

theorem turnP_start (b : Nat → Int) : turnP b 0 0 0 = fun _ => 0 := by
  funext i
  unfold turnP
  rw [if_neg (by omega)]
  split <;> simp [ps]
theorem turnP_end (b : Nat → Int) (i : Nat) : turnP b 4 0 0 i = turn b i := by
  unfold turnP; rw [if_pos (by omega)]

theorem sums_zero {b : Nat → Int} (h : sameB b (fun _ => 0) = true) : Ending.returned (blkV b) = .returned (blkV (fwd b)) := by
  have e := sameB_iff.1 h
  rw [fwd_congr (c := fun _ => 0) e, fwd_zero, blkV_congr e]

def lessB (a b : Nat → Int) : Nat → Int := fun i => clB 1048576 a i - clB 1048576 b i
def moreB (a b : Nat → Int) : Nat → Int := fun i => clB 1048576 a i + clB 1048576 b i
def backB (b : Nat → Int) : Nat → Int := fun i => rnd (fwd (clB 1048576 b) i)
theorem clB_le (b : Nat → Int) (i : Nat) : -1048576 ≤ clB 1048576 b i ∧ clB 1048576 b i ≤ 1048576 := cl_le 1048576 (b i) (by omega)

end Go.Proofs.YtipimcnjcpckeaaDoor
