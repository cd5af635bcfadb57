/- What wave's functions do. -/
import Derived.Test.YtjfbfkjmbegacaaDoorSb
import Derived.Test.YtjfbfkjmbegacaaDoorWPure
namespace Go.Proofs.YtjfbfkjmbegacaaDoor
open Go.RowKit

/-- The first k places told anew. -/
def upto (k : Nat) (b c : Nat → Int) : Nat → Int := fun i => if i < k then c i else b i
theorem upto_zero (b c : Nat → Int) : upto 0 b c = b := by funext i; simp [upto]
theorem upto_full (b c : Nat → Int) (i : Nat) (hi : i < 16) : upto 16 b c i = c i := by simp [upto, hi]
theorem upto_set (k : Nat) (b c : Nat → Int) : upd (upto k b c) k (c k) = upto (k + 1) b c := by
  funext i
  unfold upd upto
  by_cases h : i = k
  · subst h; simp
  · rw [if_neg h]
    by_cases h2 : i < k
    · rw [if_pos h2, if_pos (by omega)]
    · rw [if_neg h2, if_neg (by omega)]
theorem upto_at (k : Nat) (b c : Nat → Int) : upto k b c k = b k := by simp [upto]
theorem Blk.first {w : World} {p : Nat} {t : TypeId} {b c : Nat → Int} (h : Blk w p t b) : Blk w p t (upto 0 b c) := by rw [upto_zero]; exact h
theorem Blk.next {w : World} {p : Nat} {t : TypeId} {b c : Nat → Int} {k : Nat} {x : Int} (h : Blk w p t (upd (upto k b c) k x)) (e : x = c k) : Blk w p t (upto (k + 1) b c) := by rw [← upto_set, ← e]; exact h
theorem Blk.last {w : World} {p : Nat} {t : TypeId} {b c : Nat → Int} (h : Blk w p t (upto 16 b c)) : Blk w p t c := h.congr (upto_full b c)
theorem some_int {x y : Int} (h : x = y) : some (Value.int .i64 x) = some (Value.int .i64 y) := by rw [h]

/-- Where the program's waves lie. -/
def Waves (w : World) : Prop := 0 < w.heap.size ∧ ∀ i, i < 16 → w.cell? ⟨0, i, none⟩ = some (.int .i64 (wv 0 i))
theorem Kept.cell0 {S : Nat → Prop} {w w' : World} (k : Kept S w w') {b off : Nat} (hb : b < w.heap.size) (hn : ¬ S b) : w'.cell? ⟨b, off, none⟩ = w.cell? ⟨b, off, none⟩ := by
  unfold World.cell?; rw [k.block b hb hn]
theorem Waves.all {w w' : World} (h : Waves w) (k : Kept (fun _ => False) w w') : Waves w' :=
  ⟨Nat.lt_of_lt_of_le h.1 k.size, fun i hi => (k.cell0 h.1 id).trans (h.2 i hi)⟩
theorem wv_flat (u c : Nat) : wv 0 (u * 4 + c) = wv u c := by unfold wv; congr 1; omega
theorem Waves.at {w : World} (h : Waves w) (u c : Nat) (hu : u < 4) (hc : c < 4) : w.cell? ⟨0, 0 + u * 4 + c, none⟩ = some (.int .i64 (wv u c)) := by
  rw [← wv_flat u c, ← h.2 (u * 4 + c) (by omega)]
  congr 2; omega

/-- The first c terms of a row's sum by a wave. -/
def ps (b : Nat → Int) (r u : Nat) : Nat → Int
  | 0 => 0
  | c + 1 => ps b r u c + b (r * 4 + c) * wv u c

theorem ps_le (b : Nat → Int) (M : Int) (h : ∀ i, i < 16 → -M ≤ b i ∧ b i ≤ M) (r u c : Nat) (hr : r < 4) (hc : c ≤ 4) : -(c * M) ≤ ps b r u c ∧ ps b r u c ≤ c * M := by
  induction c with
  | zero => simp [ps]
  | succ c ih =>
    have h1 := ih (by omega)
    have h2 := h (r * 4 + c) (by omega)
    have h3 := wv_mul _ M u c h2.1 h2.2
    have e : ((c + 1 : Nat) : Int) * M = (c : Int) * M + M := by rw [Int.natCast_add, Int.add_mul]; simp
    rw [e]
    unfold ps
    omega

theorem ps_turn (b : Nat → Int) (r u : Nat) (hr : r < 4) : ps b r u 4 = turn b (u * 4 + r) := by
  have e1 : (u * 4 + r) % 4 = r := by omega
  have e2 : (u * 4 + r) / 4 = u := by omega
  simp only [ps, turn, e1, e2, Nat.mul_comm r 4, Nat.add_zero]
  omega

/-- The sums as far as they are told. -/
def turnP (b : Nat → Int) (r u c i : Nat) : Int := if i % 4 < r ∨ (i % 4 = r ∧ i / 4 < u) then turn b i else if i % 4 = r ∧ i / 4 = u then ps b r u c else 0

theorem turnP_here (b : Nat → Int) (r u c : Nat) (hr : r < 4) : turnP b r u c (u * 4 + r) = ps b r u c := by
  have e1 : (u * 4 + r) % 4 = r := by omega
  have e2 : (u * 4 + r) / 4 = u := by omega
  unfold turnP
  rw [e1, e2, if_neg (by omega), if_pos ⟨rfl, rfl⟩]

theorem turnP_set (b : Nat → Int) (r u c : Nat) (hr : r < 4) : upd (turnP b r u c) (u * 4 + r) (ps b r u (c + 1)) = turnP b r u (c + 1) := by
  funext i
  unfold upd
  by_cases h : i = u * 4 + r
  · subst h; rw [if_pos rfl, turnP_here b r u (c + 1) hr]
  · rw [if_neg h]
    have hn : ¬ (i % 4 = r ∧ i / 4 = u) := by omega
    unfold turnP
    rw [if_neg hn, if_neg hn]

theorem turnP_row (b : Nat → Int) (r u : Nat) (hr : r < 4) : turnP b r u 4 = turnP b r (u + 1) 0 := by
  funext i
  by_cases h : i = u * 4 + r
  · subst h
    rw [turnP_here b r u 4 hr, ps_turn b r u hr]
    unfold turnP
    rw [if_pos (by omega)]
  · unfold turnP
    have hn : ¬ (i % 4 = r ∧ i / 4 = u) := by omega
    by_cases h1 : i % 4 < r ∨ (i % 4 = r ∧ i / 4 < u)
    · rw [if_pos h1, if_pos (by omega)]
    · rw [if_neg h1, if_neg hn, if_neg (by omega)]
      split <;> simp [ps]

theorem turnP_next (b : Nat → Int) (r : Nat) (i : Nat) (hi : i < 16) : turnP b r 4 0 i = turnP b (r + 1) 0 0 i := by
  unfold turnP
  by_cases h1 : i % 4 < r ∨ (i % 4 = r ∧ i / 4 < 4)
  · rw [if_pos h1, if_pos (by omega)]
  · rw [if_neg h1, if_neg (by omega), if_neg (by omega)]
    split <;> simp [ps]

theorem turnP_start (b : Nat → Int) : turnP b 0 0 0 = fun _ => 0 := by
  funext i
  unfold turnP
  rw [if_neg (by omega)]
  split <;> simp [ps]
theorem turnP_end (b : Nat → Int) (i : Nat) : turnP b 4 0 0 i = turn b i := by
  unfold turnP; rw [if_pos (by omega)]

theorem sums_zero {b : Nat → Int} (h : sameB b (fun _ => 0) = true) : Ending.returned (blkV b) = .returned (blkV (fwd b)) := by
  have e := sameB_iff.1 h
  rw [fwd_congr (c := fun _ => 0) e, fwd_zero, blkV_congr e]

def lessB (a b : Nat → Int) : Nat → Int := fun i => clB 1048576 a i - clB 1048576 b i
def moreB (a b : Nat → Int) : Nat → Int := fun i => clB 1048576 a i + clB 1048576 b i
def backB (b : Nat → Int) : Nat → Int := fun i => rnd (fwd (clB 1048576 b) i)
theorem clB_le (b : Nat → Int) (i : Nat) : -1048576 ≤ clB 1048576 b i ∧ clB 1048576 b i ≤ 1048576 := cl_le 1048576 (b i) (by omega)

set_option maxHeartbeats 4000000 in
set_option maxRecDepth 100000 in
theorem clamped_any (b : Nat → Int) (w0 : World) :
    Calls Tryd.prog 20 #[blkV (b)] w0 fun e w' => e = .returned (blkV (clB 1048576 b)) ∧ Kept (fun _ => False) w0 w' := by
  refine calls_wq (args := [blkV (b)]) 16 Tryd.func20 rfl rfl (Nat.le_of_ble_eq_true rfl) ?_
  have K0 := Kept.refl (fun _ => False) w0
  refine wq_seq ?_
  refine wq_region ?_
  refine wl_box_blk rfl rfl rfl rfl fun p1 w2 e5 B3 k4 => ?_
  have lp6 : w0.heap.size ≤ p1 := by have h_ := K0.size; omega
  clear e5
  have K7 := K0.trans k4 (fun _ _ x => x)
  refine wl_alloc_blk rfl rfl rfl blkT_block.2.2 fun p8 w9 e12 B10 k11 => ?_
  have ne13 : p1 ≠ p8 := by have h_ := B3.lt; omega
  have lp14 : w0.heap.size ≤ p8 := by have h_ := K7.size; omega
  clear e12
  have B15 := B3.all k11 id
  have K16 := K7.trans k11 (fun _ _ x => x)
  refine wl_nil fun F17 hF18 => ?_
  have s19 : F17 0 = blkV (b) := (hF18 0).trans rfl
  have s20 : F17 1 = .pointer (some ⟨p1, 0, none⟩) := (hF18 1).trans rfl
  have s21 : F17 2 = .pointer (some ⟨p8, 0, none⟩) := (hF18 2).trans rfl
  clear hF18
  refine then_normal ?_
  refine wq_seq ?_
  refine wq_seq ?_
  refine wq_region ?_
  refine wl_v (.int .i64 (0)) rfl rfl (y_mov rfl rfl ⟨rfl, rfl⟩) ?_
  refine wl_nil fun F22 hF23 => ?_
  have s24 : F22 0 = blkV (b) := (hF23 0).trans s19
  have s25 : F22 1 = .pointer (some ⟨p1, 0, none⟩) := (hF23 1).trans s20
  have s26 : F22 2 = .pointer (some ⟨p8, 0, none⟩) := (hF23 2).trans s21
  have s27 : F22 4 = .int .i64 (0) := (hF23 4).trans rfl
  clear hF23
  refine then_normal ?_
  refine wq_block ?_
  refine wq_loop (fun nn FF ww => ∃ (k : Nat), k ≤ 16 ∧ nn = 16 - k ∧ FF 0 = blkV (b) ∧ FF 1 = .pointer (some ⟨p1, 0, none⟩) ∧ FF 2 = .pointer (some ⟨p8, 0, none⟩) ∧ FF 4 = .int .i64 (((k : Nat) : Int)) ∧ Kept (fun _ => False) w0 ww ∧ Blk ww p1 24 (upto k b (clB 1048576 b)) ∧ Blk ww p8 24 (fun _ => 0)) (16 - (0)) ⟨0, by omega, rfl, s24, s25, s26, s27, K16, B15.first, B10⟩ ?_
  rintro n31 F28 w29 ⟨k, i32, hn31, s33, s34, s35, s36, K30, B37, B38⟩
  refine wq_seq ?_
  refine wq_region ?_
  refine wl_v (.bool (decide ((((k : Nat) : Int)) < (16)))) rfl rfl (y_lss rfl s36 rfl rfl ⟨rfl, rfl⟩) ?_
  refine wl_nil fun F39 hF40 => ?_
  have s41 : F39 0 = blkV (b) := (hF40 0).trans s33
  have s42 : F39 1 = .pointer (some ⟨p1, 0, none⟩) := (hF40 1).trans s34
  have s43 : F39 2 = .pointer (some ⟨p8, 0, none⟩) := (hF40 2).trans s35
  have s44 : F39 4 = .int .i64 (((k : Nat) : Int)) := (hF40 4).trans s36
  have s45 : F39 5 = .bool (decide ((((k : Nat) : Int)) < (16))) := (hF40 5).trans rfl
  clear hF40
  refine then_normal ?_
  refine wq_seq ?_
  refine wq_cond s45 (fun c46 => ?_) (fun c46 => ?_)
  · replace c46 := of_decide_eq_true c46
    refine wq_skip ?_
    refine then_normal ?_
    refine wq_seq ?_
    refine wq_block ?_
    refine wq_seq ?_
    refine wq_region ?_
    refine wl_v (.int .i64 (((k : Nat) : Int))) rfl rfl (y_mov rfl s44 ⟨rfl, rfl⟩) ?_
    refine wl_v (.int .i64 (((k : Nat) : Int))) rfl rfl (y_asg rfl rfl ⟨rfl, rfl⟩) ?_
    refine wl_nil fun F47 hF48 => ?_
    have s49 : F47 0 = blkV (b) := (hF48 0).trans s41
    have s50 : F47 1 = .pointer (some ⟨p1, 0, none⟩) := (hF48 1).trans s42
    have s51 : F47 2 = .pointer (some ⟨p8, 0, none⟩) := (hF48 2).trans s43
    have s52 : F47 4 = .int .i64 (((k : Nat) : Int)) := (hF48 4).trans s44
    have s53 : F47 5 = .bool (decide ((((k : Nat) : Int)) < (16))) := (hF48 5).trans s45
    have s54 : F47 3 = .int .i64 (((k : Nat) : Int)) := (hF48 3).trans rfl
    clear hF48
    refine then_normal ?_
    refine wq_region ?_
    refine wl_v (.int .i64 (((k : Nat) : Int))) rfl rfl (y_mov rfl s54 ⟨rfl, rfl⟩) ?_
    refine wl_v (.int .i64 (((k : Nat) : Int))) rfl rfl (y_mov rfl s54 ⟨rfl, rfl⟩) ?_
    refine wl_v (.pointer (some ⟨p1, k, none⟩)) rfl rfl (y_atR (k) (s := 1) rfl s50 rfl (by omega) Tryd.underlying24 (by omega) (by kernel_rfl) (by omega) ⟨rfl, rfl⟩) ?_
    refine wl_v (.int .i64 ((upto k b (clB 1048576 b)) (k))) rfl rfl (y_ldR rfl rfl Tryd.underlying3 ((B37).cell (by omega)) ⟨rfl, rfl⟩) ?_
    refine wl_v (.int .i64 (min ((upto k b (clB 1048576 b)) (k)) (1048576))) rfl rfl (y_minR rfl rfl rfl rfl ⟨rfl, rfl⟩) ?_
    refine wl_v (.int .i64 (max (-1048576) (min ((upto k b (clB 1048576 b)) (k)) (1048576)))) rfl rfl (y_maxR rfl rfl rfl rfl ⟨rfl, rfl⟩) ?_
    refine wl_v (.pointer (some ⟨p1, k, none⟩)) rfl rfl (y_atR (k) (s := 1) rfl s50 rfl (by omega) Tryd.underlying24 (by omega) (by kernel_rfl) (by omega) ⟨rfl, rfl⟩) ?_
    refine wl_set_blk rfl rfl rfl rfl rfl B37 (by omega) (by kernel_rfl) fun w55 B56 k57 => ?_
    have B58 := B38.all k57 (Ne.symm ne13)
    have K59 := K30.trans k57 (fun _ hi e => absurd (e ▸ hi) (Nat.not_lt.2 lp6))
    refine wl_nil fun F60 hF61 => ?_
    have s62 : F60 0 = blkV (b) := (hF61 0).trans s49
    have s63 : F60 1 = .pointer (some ⟨p1, 0, none⟩) := (hF61 1).trans s50
    have s64 : F60 2 = .pointer (some ⟨p8, 0, none⟩) := (hF61 2).trans s51
    have s65 : F60 4 = .int .i64 (((k : Nat) : Int)) := (hF61 4).trans s52
    have s66 : F60 5 = .bool (decide ((((k : Nat) : Int)) < (16))) := (hF61 5).trans s53
    have s67 : F60 3 = .int .i64 (((k : Nat) : Int)) := (hF61 3).trans s54
    clear hF61
    refine in_normal ?_
    refine then_normal ?_
    refine wq_region ?_
    refine wl_v (.int .i64 (((k + 1 : Nat) : Int))) rfl rfl (y_add rfl s65 rfl (i64_n (by omega) (by omega)) ⟨rfl, rfl⟩) ?_
    refine wl_v (.int .i64 (((k + 1 : Nat) : Int))) rfl rfl (y_mov rfl rfl ⟨rfl, rfl⟩) ?_
    refine wl_nil fun F68 hF69 => ?_
    have s70 : F68 0 = blkV (b) := (hF69 0).trans s62
    have s71 : F68 1 = .pointer (some ⟨p1, 0, none⟩) := (hF69 1).trans s63
    have s72 : F68 2 = .pointer (some ⟨p8, 0, none⟩) := (hF69 2).trans s64
    have s73 : F68 5 = .bool (decide ((((k : Nat) : Int)) < (16))) := (hF69 5).trans s66
    have s74 : F68 3 = .int .i64 (((k : Nat) : Int)) := (hF69 3).trans s67
    have s75 : F68 4 = .int .i64 (((k + 1 : Nat) : Int)) := (hF69 4).trans rfl
    clear hF69
    exact then_normal ⟨(16 - (k + 1)), by omega, k + 1, by omega, rfl, s70, s71, s72, s75, K59, (B56.next (by rw [upto_at]; rfl)), B58⟩
  · replace c46 := of_decide_eq_false c46
    refine wq_exit ?_
    refine then_exit ?_
    refine then_exit ?_
    have l76 : 16 = k := by omega
    subst l76
    have B77 : Blk w29 p1 24 (clB 1048576 b) := (B37.last)
    refine in_here ?_
    refine then_normal ?_
    refine wq_seq ?_
    refine wq_region ?_
    refine wl_v (blkV (clB 1048576 b)) rfl rfl (y_load_blk blkT_block rfl s42 B77 ⟨rfl, rfl⟩) ?_
    refine wl_store_blk blkT_block rfl rfl rfl s43 rfl B38 fun w78 B79 k80 => ?_
    have B81 := B77.all k80 ne13
    have K82 := K30.trans k80 (fun _ hi e => absurd (e ▸ hi) (Nat.not_lt.2 lp14))
    refine wl_nil fun F83 hF84 => ?_
    have s85 : F83 0 = blkV (b) := (hF84 0).trans s41
    have s86 : F83 1 = .pointer (some ⟨p1, 0, none⟩) := (hF84 1).trans s42
    have s87 : F83 2 = .pointer (some ⟨p8, 0, none⟩) := (hF84 2).trans s43
    have s88 : F83 4 = .int .i64 (((16 : Nat) : Int)) := (hF84 4).trans s44
    have s89 : F83 5 = .bool (decide ((((16 : Nat) : Int)) < (16))) := (hF84 5).trans s45
    clear hF84
    refine then_normal ?_
    refine wq_ret ?_
    exact end_blk blkT_block rfl s87 B79 ⟨rfl, K82⟩

set_option maxHeartbeats 4000000 in
set_option maxRecDepth 100000 in
theorem turned_any (b : Nat → Int) (w0 : World) (hw : Waves w0) (hb : ∀ i, i < 16 → -1099511627776 ≤ b i ∧ b i ≤ 1099511627776) :
    Calls Tryd.prog 23 #[blkV (b)] w0 fun e w' => e = .returned (blkV (turn b)) ∧ Kept (fun _ => False) w0 w' := by
  refine calls_wq (args := [blkV (b)]) 40 Tryd.func23 rfl rfl (Nat.le_of_ble_eq_true rfl) ?_
  have K0 := Kept.refl (fun _ => False) w0
  refine wq_seq ?_
  refine wq_region ?_
  refine wl_box_blk rfl rfl rfl rfl fun p1 w2 e5 B3 k4 => ?_
  have lp6 : w0.heap.size ≤ p1 := by have h_ := K0.size; omega
  clear e5
  have K7 := K0.trans k4 (fun _ _ x => x)
  refine wl_alloc_blk rfl rfl rfl blkT_block.2.2 fun p8 w9 e12 B10 k11 => ?_
  have ne13 : p1 ≠ p8 := by have h_ := B3.lt; omega
  have lp14 : w0.heap.size ≤ p8 := by have h_ := K7.size; omega
  clear e12
  have B15 := B3.all k11 id
  have K16 := K7.trans k11 (fun _ _ x => x)
  refine wl_nil fun F17 hF18 => ?_
  have s19 : F17 0 = blkV (b) := (hF18 0).trans rfl
  have s20 : F17 1 = .pointer (some ⟨p1, 0, none⟩) := (hF18 1).trans rfl
  have s21 : F17 2 = .pointer (some ⟨p8, 0, none⟩) := (hF18 2).trans rfl
  clear hF18
  refine then_normal ?_
  refine wq_seq ?_
  refine wq_region ?_
  refine wl_alloc_blk rfl rfl rfl blkT_block.2.2 fun p22 w23 e26 B24 k25 => ?_
  have ne27 : p1 ≠ p22 := by have h_ := B15.lt; omega
  have ne28 : p8 ≠ p22 := by have h_ := B10.lt; omega
  have lp29 : w0.heap.size ≤ p22 := by have h_ := K16.size; omega
  clear e26
  have B30 := B15.all k25 id
  have B31 := B10.all k25 id
  have K32 := K16.trans k25 (fun _ _ x => x)
  refine wl_nil fun F33 hF34 => ?_
  have s35 : F33 0 = blkV (b) := (hF34 0).trans s19
  have s36 : F33 1 = .pointer (some ⟨p1, 0, none⟩) := (hF34 1).trans s20
  have s37 : F33 2 = .pointer (some ⟨p8, 0, none⟩) := (hF34 2).trans s21
  have s38 : F33 3 = .pointer (some ⟨p22, 0, none⟩) := (hF34 3).trans rfl
  clear hF34
  refine then_normal ?_
  refine wq_seq ?_
  refine wq_seq ?_
  refine wq_region ?_
  refine wl_v (.int .i64 (0)) rfl rfl (y_mov rfl rfl ⟨rfl, rfl⟩) ?_
  refine wl_nil fun F39 hF40 => ?_
  have s41 : F39 0 = blkV (b) := (hF40 0).trans s35
  have s42 : F39 1 = .pointer (some ⟨p1, 0, none⟩) := (hF40 1).trans s36
  have s43 : F39 2 = .pointer (some ⟨p8, 0, none⟩) := (hF40 2).trans s37
  have s44 : F39 3 = .pointer (some ⟨p22, 0, none⟩) := (hF40 3).trans s38
  have s45 : F39 7 = .int .i64 (0) := (hF40 7).trans rfl
  clear hF40
  refine then_normal ?_
  refine wq_block ?_
  refine wq_loop (fun nn FF ww => ∃ (r : Nat), r ≤ 4 ∧ nn = 4 - r ∧ FF 0 = blkV (b) ∧ FF 1 = .pointer (some ⟨p1, 0, none⟩) ∧ FF 2 = .pointer (some ⟨p8, 0, none⟩) ∧ FF 3 = .pointer (some ⟨p22, 0, none⟩) ∧ FF 7 = .int .i64 (((r : Nat) : Int)) ∧ Kept (fun _ => False) w0 ww ∧ Blk ww p1 24 (b) ∧ Blk ww p8 24 (fun _ => 0) ∧ Blk ww p22 24 (turnP b r 0 0)) (4 - (0)) ⟨0, by omega, rfl, s41, s42, s43, s44, s45, K32, B30, B31, (by rw [turnP_start]; exact B24)⟩ ?_
  rintro n49 F46 w47 ⟨r, i50, hn49, s51, s52, s53, s54, s55, K48, B56, B57, B58⟩
  refine wq_seq ?_
  refine wq_region ?_
  refine wl_v (.bool (decide ((((r : Nat) : Int)) < (4)))) rfl rfl (y_lss rfl s55 rfl rfl ⟨rfl, rfl⟩) ?_
  refine wl_nil fun F59 hF60 => ?_
  have s61 : F59 0 = blkV (b) := (hF60 0).trans s51
  have s62 : F59 1 = .pointer (some ⟨p1, 0, none⟩) := (hF60 1).trans s52
  have s63 : F59 2 = .pointer (some ⟨p8, 0, none⟩) := (hF60 2).trans s53
  have s64 : F59 3 = .pointer (some ⟨p22, 0, none⟩) := (hF60 3).trans s54
  have s65 : F59 7 = .int .i64 (((r : Nat) : Int)) := (hF60 7).trans s55
  have s66 : F59 8 = .bool (decide ((((r : Nat) : Int)) < (4))) := (hF60 8).trans rfl
  clear hF60
  refine then_normal ?_
  refine wq_seq ?_
  refine wq_cond s66 (fun c67 => ?_) (fun c67 => ?_)
  · replace c67 := of_decide_eq_true c67
    refine wq_skip ?_
    refine then_normal ?_
    refine wq_seq ?_
    refine wq_block ?_
    refine wq_seq ?_
    refine wq_region ?_
    refine wl_v (.int .i64 (((r : Nat) : Int))) rfl rfl (y_mov rfl s65 ⟨rfl, rfl⟩) ?_
    refine wl_v (.int .i64 (((r : Nat) : Int))) rfl rfl (y_asg rfl rfl ⟨rfl, rfl⟩) ?_
    refine wl_nil fun F68 hF69 => ?_
    have s70 : F68 0 = blkV (b) := (hF69 0).trans s61
    have s71 : F68 1 = .pointer (some ⟨p1, 0, none⟩) := (hF69 1).trans s62
    have s72 : F68 2 = .pointer (some ⟨p8, 0, none⟩) := (hF69 2).trans s63
    have s73 : F68 3 = .pointer (some ⟨p22, 0, none⟩) := (hF69 3).trans s64
    have s74 : F68 7 = .int .i64 (((r : Nat) : Int)) := (hF69 7).trans s65
    have s75 : F68 8 = .bool (decide ((((r : Nat) : Int)) < (4))) := (hF69 8).trans s66
    have s76 : F68 4 = .int .i64 (((r : Nat) : Int)) := (hF69 4).trans rfl
    clear hF69
    refine then_normal ?_
    refine wq_seq ?_
    refine wq_region ?_
    refine wl_v (.int .i64 (0)) rfl rfl (y_mov rfl rfl ⟨rfl, rfl⟩) ?_
    refine wl_nil fun F77 hF78 => ?_
    have s79 : F77 0 = blkV (b) := (hF78 0).trans s70
    have s80 : F77 1 = .pointer (some ⟨p1, 0, none⟩) := (hF78 1).trans s71
    have s81 : F77 2 = .pointer (some ⟨p8, 0, none⟩) := (hF78 2).trans s72
    have s82 : F77 3 = .pointer (some ⟨p22, 0, none⟩) := (hF78 3).trans s73
    have s83 : F77 7 = .int .i64 (((r : Nat) : Int)) := (hF78 7).trans s74
    have s84 : F77 8 = .bool (decide ((((r : Nat) : Int)) < (4))) := (hF78 8).trans s75
    have s85 : F77 4 = .int .i64 (((r : Nat) : Int)) := (hF78 4).trans s76
    have s86 : F77 10 = .int .i64 (0) := (hF78 10).trans rfl
    clear hF78
    refine then_normal ?_
    refine wq_block ?_
    refine wq_loop (fun nn FF ww => ∃ (u : Nat), u ≤ 4 ∧ nn = 4 - u ∧ FF 0 = blkV (b) ∧ FF 1 = .pointer (some ⟨p1, 0, none⟩) ∧ FF 2 = .pointer (some ⟨p8, 0, none⟩) ∧ FF 3 = .pointer (some ⟨p22, 0, none⟩) ∧ FF 4 = .int .i64 (((r : Nat) : Int)) ∧ FF 7 = .int .i64 (((r : Nat) : Int)) ∧ FF 8 = .bool (decide ((((r : Nat) : Int)) < (4))) ∧ FF 10 = .int .i64 (((u : Nat) : Int)) ∧ Kept (fun _ => False) w0 ww ∧ Blk ww p1 24 (b) ∧ Blk ww p8 24 (fun _ => 0) ∧ Blk ww p22 24 (turnP b r u 0)) (4 - (0)) ⟨0, by omega, rfl, s79, s80, s81, s82, s85, s83, s84, s86, K48, B56, B57, B58⟩ ?_
    rintro n90 F87 w88 ⟨u, i91, hn90, s92, s93, s94, s95, s96, s97, s98, s99, K89, B100, B101, B102⟩
    refine wq_seq ?_
    refine wq_region ?_
    refine wl_v (.bool (decide ((((u : Nat) : Int)) < (4)))) rfl rfl (y_lss rfl s99 rfl rfl ⟨rfl, rfl⟩) ?_
    refine wl_nil fun F103 hF104 => ?_
    have s105 : F103 0 = blkV (b) := (hF104 0).trans s92
    have s106 : F103 1 = .pointer (some ⟨p1, 0, none⟩) := (hF104 1).trans s93
    have s107 : F103 2 = .pointer (some ⟨p8, 0, none⟩) := (hF104 2).trans s94
    have s108 : F103 3 = .pointer (some ⟨p22, 0, none⟩) := (hF104 3).trans s95
    have s109 : F103 4 = .int .i64 (((r : Nat) : Int)) := (hF104 4).trans s96
    have s110 : F103 7 = .int .i64 (((r : Nat) : Int)) := (hF104 7).trans s97
    have s111 : F103 8 = .bool (decide ((((r : Nat) : Int)) < (4))) := (hF104 8).trans s98
    have s112 : F103 10 = .int .i64 (((u : Nat) : Int)) := (hF104 10).trans s99
    have s113 : F103 11 = .bool (decide ((((u : Nat) : Int)) < (4))) := (hF104 11).trans rfl
    clear hF104
    refine then_normal ?_
    refine wq_seq ?_
    refine wq_cond s113 (fun c114 => ?_) (fun c114 => ?_)
    · replace c114 := of_decide_eq_true c114
      refine wq_skip ?_
      refine then_normal ?_
      refine wq_seq ?_
      refine wq_block ?_
      refine wq_seq ?_
      refine wq_region ?_
      refine wl_v (.int .i64 (((u : Nat) : Int))) rfl rfl (y_mov rfl s112 ⟨rfl, rfl⟩) ?_
      refine wl_v (.int .i64 (((u : Nat) : Int))) rfl rfl (y_asg rfl rfl ⟨rfl, rfl⟩) ?_
      refine wl_nil fun F115 hF116 => ?_
      have s117 : F115 0 = blkV (b) := (hF116 0).trans s105
      have s118 : F115 1 = .pointer (some ⟨p1, 0, none⟩) := (hF116 1).trans s106
      have s119 : F115 2 = .pointer (some ⟨p8, 0, none⟩) := (hF116 2).trans s107
      have s120 : F115 3 = .pointer (some ⟨p22, 0, none⟩) := (hF116 3).trans s108
      have s121 : F115 4 = .int .i64 (((r : Nat) : Int)) := (hF116 4).trans s109
      have s122 : F115 7 = .int .i64 (((r : Nat) : Int)) := (hF116 7).trans s110
      have s123 : F115 8 = .bool (decide ((((r : Nat) : Int)) < (4))) := (hF116 8).trans s111
      have s124 : F115 10 = .int .i64 (((u : Nat) : Int)) := (hF116 10).trans s112
      have s125 : F115 11 = .bool (decide ((((u : Nat) : Int)) < (4))) := (hF116 11).trans s113
      have s126 : F115 5 = .int .i64 (((u : Nat) : Int)) := (hF116 5).trans rfl
      clear hF116
      refine then_normal ?_
      refine wq_seq ?_
      refine wq_region ?_
      refine wl_v (.int .i64 (0)) rfl rfl (y_mov rfl rfl ⟨rfl, rfl⟩) ?_
      refine wl_nil fun F127 hF128 => ?_
      have s129 : F127 0 = blkV (b) := (hF128 0).trans s117
      have s130 : F127 1 = .pointer (some ⟨p1, 0, none⟩) := (hF128 1).trans s118
      have s131 : F127 2 = .pointer (some ⟨p8, 0, none⟩) := (hF128 2).trans s119
      have s132 : F127 3 = .pointer (some ⟨p22, 0, none⟩) := (hF128 3).trans s120
      have s133 : F127 4 = .int .i64 (((r : Nat) : Int)) := (hF128 4).trans s121
      have s134 : F127 7 = .int .i64 (((r : Nat) : Int)) := (hF128 7).trans s122
      have s135 : F127 8 = .bool (decide ((((r : Nat) : Int)) < (4))) := (hF128 8).trans s123
      have s136 : F127 10 = .int .i64 (((u : Nat) : Int)) := (hF128 10).trans s124
      have s137 : F127 11 = .bool (decide ((((u : Nat) : Int)) < (4))) := (hF128 11).trans s125
      have s138 : F127 5 = .int .i64 (((u : Nat) : Int)) := (hF128 5).trans s126
      have s139 : F127 13 = .int .i64 (0) := (hF128 13).trans rfl
      clear hF128
      refine then_normal ?_
      refine wq_block ?_
      refine wq_loop (fun nn FF ww => ∃ (c : Nat), c ≤ 4 ∧ nn = 4 - c ∧ FF 0 = blkV (b) ∧ FF 1 = .pointer (some ⟨p1, 0, none⟩) ∧ FF 2 = .pointer (some ⟨p8, 0, none⟩) ∧ FF 3 = .pointer (some ⟨p22, 0, none⟩) ∧ FF 4 = .int .i64 (((r : Nat) : Int)) ∧ FF 5 = .int .i64 (((u : Nat) : Int)) ∧ FF 7 = .int .i64 (((r : Nat) : Int)) ∧ FF 8 = .bool (decide ((((r : Nat) : Int)) < (4))) ∧ FF 10 = .int .i64 (((u : Nat) : Int)) ∧ FF 11 = .bool (decide ((((u : Nat) : Int)) < (4))) ∧ FF 13 = .int .i64 (((c : Nat) : Int)) ∧ Kept (fun _ => False) w0 ww ∧ Blk ww p1 24 (b) ∧ Blk ww p8 24 (fun _ => 0) ∧ Blk ww p22 24 (turnP b r u c)) (4 - (0)) ⟨0, by omega, rfl, s129, s130, s131, s132, s133, s138, s134, s135, s136, s137, s139, K89, B100, B101, B102⟩ ?_
      rintro n143 F140 w141 ⟨c, i144, hn143, s145, s146, s147, s148, s149, s150, s151, s152, s153, s154, s155, K142, B156, B157, B158⟩
      refine wq_seq ?_
      refine wq_region ?_
      refine wl_v (.bool (decide ((((c : Nat) : Int)) < (4)))) rfl rfl (y_lss rfl s155 rfl rfl ⟨rfl, rfl⟩) ?_
      refine wl_nil fun F159 hF160 => ?_
      have s161 : F159 0 = blkV (b) := (hF160 0).trans s145
      have s162 : F159 1 = .pointer (some ⟨p1, 0, none⟩) := (hF160 1).trans s146
      have s163 : F159 2 = .pointer (some ⟨p8, 0, none⟩) := (hF160 2).trans s147
      have s164 : F159 3 = .pointer (some ⟨p22, 0, none⟩) := (hF160 3).trans s148
      have s165 : F159 4 = .int .i64 (((r : Nat) : Int)) := (hF160 4).trans s149
      have s166 : F159 5 = .int .i64 (((u : Nat) : Int)) := (hF160 5).trans s150
      have s167 : F159 7 = .int .i64 (((r : Nat) : Int)) := (hF160 7).trans s151
      have s168 : F159 8 = .bool (decide ((((r : Nat) : Int)) < (4))) := (hF160 8).trans s152
      have s169 : F159 10 = .int .i64 (((u : Nat) : Int)) := (hF160 10).trans s153
      have s170 : F159 11 = .bool (decide ((((u : Nat) : Int)) < (4))) := (hF160 11).trans s154
      have s171 : F159 13 = .int .i64 (((c : Nat) : Int)) := (hF160 13).trans s155
      have s172 : F159 14 = .bool (decide ((((c : Nat) : Int)) < (4))) := (hF160 14).trans rfl
      clear hF160
      refine then_normal ?_
      refine wq_seq ?_
      refine wq_cond s172 (fun c173 => ?_) (fun c173 => ?_)
      · replace c173 := of_decide_eq_true c173
        refine wq_skip ?_
        refine then_normal ?_
        refine wq_seq ?_
        refine wq_block ?_
        refine wq_seq ?_
        refine wq_region ?_
        refine wl_v (.int .i64 (((c : Nat) : Int))) rfl rfl (y_mov rfl s171 ⟨rfl, rfl⟩) ?_
        refine wl_v (.int .i64 (((c : Nat) : Int))) rfl rfl (y_asg rfl rfl ⟨rfl, rfl⟩) ?_
        refine wl_nil fun F174 hF175 => ?_
        have s176 : F174 0 = blkV (b) := (hF175 0).trans s161
        have s177 : F174 1 = .pointer (some ⟨p1, 0, none⟩) := (hF175 1).trans s162
        have s178 : F174 2 = .pointer (some ⟨p8, 0, none⟩) := (hF175 2).trans s163
        have s179 : F174 3 = .pointer (some ⟨p22, 0, none⟩) := (hF175 3).trans s164
        have s180 : F174 4 = .int .i64 (((r : Nat) : Int)) := (hF175 4).trans s165
        have s181 : F174 5 = .int .i64 (((u : Nat) : Int)) := (hF175 5).trans s166
        have s182 : F174 7 = .int .i64 (((r : Nat) : Int)) := (hF175 7).trans s167
        have s183 : F174 8 = .bool (decide ((((r : Nat) : Int)) < (4))) := (hF175 8).trans s168
        have s184 : F174 10 = .int .i64 (((u : Nat) : Int)) := (hF175 10).trans s169
        have s185 : F174 11 = .bool (decide ((((u : Nat) : Int)) < (4))) := (hF175 11).trans s170
        have s186 : F174 13 = .int .i64 (((c : Nat) : Int)) := (hF175 13).trans s171
        have s187 : F174 14 = .bool (decide ((((c : Nat) : Int)) < (4))) := (hF175 14).trans s172
        have s188 : F174 6 = .int .i64 (((c : Nat) : Int)) := (hF175 6).trans rfl
        clear hF175
        refine then_normal ?_
        have hbb := hb (r * 4 + c) (by omega)
        have hmm := wv_mul _ 1099511627776 u c hbb.1 hbb.2
        have hps := ps_le b 1099511627776 hb r u c (by omega) (by omega)
        refine wq_tail 20 [some 16, some 17, some 18, some 19, some 20, some 21, some 22, some 23, some 24, some 25, some 26, some 27, some 28, some 29, some 30, some 31, some 32, some 33, some 34, some 35] [Pd.eq (.int .i64 (((u : Nat) : Int))), Pd.eq (.int .i64 (((u * 4 : Nat) : Int))), Pd.eq (.int .i64 (((r : Nat) : Int))), Pd.eq (.int .i64 ((((u * 4) + r : Nat) : Int))), Pd.eq (.pointer (some ⟨p22, (u * 4) + r, none⟩)), Pd.eq (.int .i64 (ps b r u c)), Pd.eq (.int .i64 (((r : Nat) : Int))), Pd.eq (.int .i64 (((r * 4 : Nat) : Int))), Pd.eq (.int .i64 (((c : Nat) : Int))), Pd.eq (.int .i64 ((((r * 4) + c : Nat) : Int))), Pd.eq (.pointer (some ⟨p1, (r * 4) + c, none⟩)), Pd.eq (.int .i64 ((b) ((r * 4) + c))), Pd.eq (.int .i64 (((u : Nat) : Int))), Pd.eq (.int .i64 (((c : Nat) : Int))), Pd.eq (.pointer (some ⟨0, 0 + (u) * 4, none⟩)), Pd.eq (.pointer (some ⟨0, 0 + (u) * 4 + (c), none⟩)), Pd.eq (.int .i64 (wv u c)), Pd.eq (.int .i64 (((b) ((r * 4) + c)) * (wv u c))), Pd.eq (.int .i64 (ps b r u (c + 1))), Pd.eq (.pointer (some ⟨p22, (u * 4) + r, none⟩))] (by kernel_rfl) (by kernel_rfl) (by kernel_rfl) ?_ ?_
        · refine stepsF_cons ?_ ?_
          · refine StepF.one rfl fun F_ w_ hR hout hD => ?_
            exact (y_mov rfl ((hout 5 (by decide)).trans s181) ⟨rfl, Kept.refl _ _⟩)
          refine stepsF_cons ?_ ?_
          · refine StepF.one rfl fun F_ w_ hR hout hD => ?_
            have g16 : F_ 16 = .int .i64 (((u : Nat) : Int)) := hD.get 0 rfl rfl rfl
            exact (y_mul rfl g16 rfl (i64_n (by omega) (by omega)) ⟨rfl, Kept.refl _ _⟩)
          refine stepsF_cons ?_ ?_
          · refine StepF.one rfl fun F_ w_ hR hout hD => ?_
            exact (y_mov rfl ((hout 4 (by decide)).trans s180) ⟨rfl, Kept.refl _ _⟩)
          refine stepsF_cons ?_ ?_
          · refine StepF.one rfl fun F_ w_ hR hout hD => ?_
            have g17 : F_ 17 = .int .i64 (((u * 4 : Nat) : Int)) := hD.get 0 rfl rfl rfl
            have g18 : F_ 18 = .int .i64 (((r : Nat) : Int)) := hD.get 1 rfl rfl rfl
            exact (y_add rfl g17 g18 (i64_n (by omega) (by omega)) ⟨rfl, Kept.refl _ _⟩)
          refine stepsF_cons ?_ ?_
          · refine StepF.one rfl fun F_ w_ hR hout hD => ?_
            have g19 : F_ 19 = .int .i64 ((((u * 4) + r : Nat) : Int)) := hD.get 0 rfl rfl rfl
            exact (y_atR ((u * 4) + r) (s := 1) rfl ((hout 3 (by decide)).trans s179) g19 (by omega) Tryd.underlying24 (by omega) (by kernel_rfl) (by omega) ⟨rfl, Kept.refl _ _⟩)
          refine stepsF_cons ?_ ?_
          · refine StepF.one rfl fun F_ w_ hR hout hD => ?_
            have g20 : F_ 20 = .pointer (some ⟨p22, (u * 4) + r, none⟩) := hD.get 0 rfl rfl rfl
            exact (y_ldR rfl g20 Tryd.underlying3 ((((B158.all hR id)).cell (by omega)).trans (some_int (turnP_here b r u c (by omega)))) ⟨rfl, Kept.refl _ _⟩)
          refine stepsF_cons ?_ ?_
          · refine StepF.one rfl fun F_ w_ hR hout hD => ?_
            exact (y_mov rfl ((hout 4 (by decide)).trans s180) ⟨rfl, Kept.refl _ _⟩)
          refine stepsF_cons ?_ ?_
          · refine StepF.one rfl fun F_ w_ hR hout hD => ?_
            have g22 : F_ 22 = .int .i64 (((r : Nat) : Int)) := hD.get 0 rfl rfl rfl
            exact (y_mul rfl g22 rfl (i64_n (by omega) (by omega)) ⟨rfl, Kept.refl _ _⟩)
          refine stepsF_cons ?_ ?_
          · refine StepF.one rfl fun F_ w_ hR hout hD => ?_
            exact (y_mov rfl ((hout 6 (by decide)).trans s188) ⟨rfl, Kept.refl _ _⟩)
          refine stepsF_cons ?_ ?_
          · refine StepF.one rfl fun F_ w_ hR hout hD => ?_
            have g23 : F_ 23 = .int .i64 (((r * 4 : Nat) : Int)) := hD.get 0 rfl rfl rfl
            have g24 : F_ 24 = .int .i64 (((c : Nat) : Int)) := hD.get 1 rfl rfl rfl
            exact (y_add rfl g23 g24 (i64_n (by omega) (by omega)) ⟨rfl, Kept.refl _ _⟩)
          refine stepsF_cons ?_ ?_
          · refine StepF.one rfl fun F_ w_ hR hout hD => ?_
            have g25 : F_ 25 = .int .i64 ((((r * 4) + c : Nat) : Int)) := hD.get 0 rfl rfl rfl
            exact (y_atR ((r * 4) + c) (s := 1) rfl ((hout 1 (by decide)).trans s177) g25 (by omega) Tryd.underlying24 (by omega) (by kernel_rfl) (by omega) ⟨rfl, Kept.refl _ _⟩)
          refine stepsF_cons ?_ ?_
          · refine StepF.one rfl fun F_ w_ hR hout hD => ?_
            have g26 : F_ 26 = .pointer (some ⟨p1, (r * 4) + c, none⟩) := hD.get 0 rfl rfl rfl
            exact (y_ldR rfl g26 Tryd.underlying3 (((B156.all hR id)).cell (by omega)) ⟨rfl, Kept.refl _ _⟩)
          refine stepsF_cons ?_ ?_
          · refine StepF.one rfl fun F_ w_ hR hout hD => ?_
            exact (y_mov rfl ((hout 5 (by decide)).trans s181) ⟨rfl, Kept.refl _ _⟩)
          refine stepsF_cons ?_ ?_
          · refine StepF.one rfl fun F_ w_ hR hout hD => ?_
            exact (y_mov rfl ((hout 6 (by decide)).trans s188) ⟨rfl, Kept.refl _ _⟩)
          refine stepsF_cons ?_ ?_
          · refine StepF.one rfl fun F_ w_ hR hout hD => ?_
            have g28 : F_ 28 = .int .i64 (((u : Nat) : Int)) := hD.get 0 rfl rfl rfl
            exact (y_atR (u) (s := 4) rfl rfl g28 (by omega) Tryd.underlying40 (by omega) (by kernel_rfl) (by omega) ⟨rfl, Kept.refl _ _⟩)
          refine stepsF_cons ?_ ?_
          · refine StepF.one rfl fun F_ w_ hR hout hD => ?_
            have g30 : F_ 30 = .pointer (some ⟨0, 0 + (u) * 4, none⟩) := hD.get 0 rfl rfl rfl
            have g29 : F_ 29 = .int .i64 (((c : Nat) : Int)) := hD.get 1 rfl rfl rfl
            exact (y_atR (c) (s := 1) rfl g30 g29 (by omega) Tryd.underlying35 (by omega) (by kernel_rfl) (by omega) ⟨rfl, Kept.refl _ _⟩)
          refine stepsF_cons ?_ ?_
          · refine StepF.one rfl fun F_ w_ hR hout hD => ?_
            have g31 : F_ 31 = .pointer (some ⟨0, 0 + (u) * 4 + (c), none⟩) := hD.get 0 rfl rfl rfl
            exact (y_ldR rfl g31 Tryd.underlying3 (((hw.all (K142.trans hR (fun _ _ x => x))).at u c (by omega) (by omega))) ⟨rfl, Kept.refl _ _⟩)
          refine stepsF_cons ?_ ?_
          · refine StepF.one rfl fun F_ w_ hR hout hD => ?_
            have g27 : F_ 27 = .int .i64 ((b) ((r * 4) + c)) := hD.get 0 rfl rfl rfl
            have g32 : F_ 32 = .int .i64 (wv u c) := hD.get 1 rfl rfl rfl
            exact (y_mul rfl g27 g32 (i64_i rfl (by omega)) ⟨rfl, Kept.refl _ _⟩)
          refine stepsF_cons ?_ ?_
          · refine StepF.one rfl fun F_ w_ hR hout hD => ?_
            have g21 : F_ 21 = .int .i64 (ps b r u c) := hD.get 0 rfl rfl rfl
            have g33 : F_ 33 = .int .i64 (((b) ((r * 4) + c)) * (wv u c)) := hD.get 1 rfl rfl rfl
            exact (y_add rfl g21 g33 (i64_i rfl (by have e : ps b r u (c + 1) = ps b r u c + b (r * 4 + c) * wv u c := rfl; omega)) ⟨rfl, Kept.refl _ _⟩)
          refine stepsF_cons ?_ ?_
          · refine StepF.one rfl fun F_ w_ hR hout hD => ?_
            have g19 : F_ 19 = .int .i64 ((((u * 4) + r : Nat) : Int)) := hD.get 0 rfl rfl rfl
            exact (y_atR ((u * 4) + r) (s := 1) rfl ((hout 3 (by decide)).trans s179) g19 (by omega) Tryd.underlying24 (by omega) (by kernel_rfl) (by omega) ⟨rfl, Kept.refl _ _⟩)
          exact stepsF_nil
        intro v189 F190 w191 k192 G193 hF194
        have B195 := B156.all k192 id
        have B196 := B157.all k192 id
        have B197 := B158.all k192 id
        have K198 := K142.trans k192 (fun _ _ x => x)
        have s199 : F190 0 = blkV (b) := (hF194 0).trans s176
        have s200 : F190 1 = .pointer (some ⟨p1, 0, none⟩) := (hF194 1).trans s177
        have s201 : F190 2 = .pointer (some ⟨p8, 0, none⟩) := (hF194 2).trans s178
        have s202 : F190 3 = .pointer (some ⟨p22, 0, none⟩) := (hF194 3).trans s179
        have s203 : F190 4 = .int .i64 (((r : Nat) : Int)) := (hF194 4).trans s180
        have s204 : F190 5 = .int .i64 (((u : Nat) : Int)) := (hF194 5).trans s181
        have s205 : F190 7 = .int .i64 (((r : Nat) : Int)) := (hF194 7).trans s182
        have s206 : F190 8 = .bool (decide ((((r : Nat) : Int)) < (4))) := (hF194 8).trans s183
        have s207 : F190 10 = .int .i64 (((u : Nat) : Int)) := (hF194 10).trans s184
        have s208 : F190 11 = .bool (decide ((((u : Nat) : Int)) < (4))) := (hF194 11).trans s185
        have s209 : F190 13 = .int .i64 (((c : Nat) : Int)) := (hF194 13).trans s186
        have s210 : F190 14 = .bool (decide ((((c : Nat) : Int)) < (4))) := (hF194 14).trans s187
        have s211 : F190 6 = .int .i64 (((c : Nat) : Int)) := (hF194 6).trans s188
        have s212 : F190 34 = .int .i64 (ps b r u (c + 1)) := (hF194 34).trans (G193 18 (by decide))
        have s213 : F190 35 = .pointer (some ⟨p22, (u * 4) + r, none⟩) := (hF194 35).trans (G193 19 (by decide))
        clear G193 hF194
        refine wl_set_blk rfl rfl rfl s213 s212 B197 (by omega) (by kernel_rfl) fun w214 B215 k216 => ?_
        have B217 := B195.all k216 ne27
        have B218 := B196.all k216 ne28
        have K219 := K198.trans k216 (fun _ hi e => absurd (e ▸ hi) (Nat.not_lt.2 lp29))
        refine wl_nil fun F220 hF221 => ?_
        have s222 : F220 0 = blkV (b) := (hF221 0).trans s199
        have s223 : F220 1 = .pointer (some ⟨p1, 0, none⟩) := (hF221 1).trans s200
        have s224 : F220 2 = .pointer (some ⟨p8, 0, none⟩) := (hF221 2).trans s201
        have s225 : F220 3 = .pointer (some ⟨p22, 0, none⟩) := (hF221 3).trans s202
        have s226 : F220 4 = .int .i64 (((r : Nat) : Int)) := (hF221 4).trans s203
        have s227 : F220 5 = .int .i64 (((u : Nat) : Int)) := (hF221 5).trans s204
        have s228 : F220 7 = .int .i64 (((r : Nat) : Int)) := (hF221 7).trans s205
        have s229 : F220 8 = .bool (decide ((((r : Nat) : Int)) < (4))) := (hF221 8).trans s206
        have s230 : F220 10 = .int .i64 (((u : Nat) : Int)) := (hF221 10).trans s207
        have s231 : F220 11 = .bool (decide ((((u : Nat) : Int)) < (4))) := (hF221 11).trans s208
        have s232 : F220 13 = .int .i64 (((c : Nat) : Int)) := (hF221 13).trans s209
        have s233 : F220 14 = .bool (decide ((((c : Nat) : Int)) < (4))) := (hF221 14).trans s210
        have s234 : F220 6 = .int .i64 (((c : Nat) : Int)) := (hF221 6).trans s211
        clear hF221
        refine in_normal ?_
        refine then_normal ?_
        refine wq_region ?_
        refine wl_v (.int .i64 (((c + 1 : Nat) : Int))) rfl rfl (y_add rfl s232 rfl (i64_n (by omega) (by omega)) ⟨rfl, rfl⟩) ?_
        refine wl_v (.int .i64 (((c + 1 : Nat) : Int))) rfl rfl (y_mov rfl rfl ⟨rfl, rfl⟩) ?_
        refine wl_nil fun F235 hF236 => ?_
        have s237 : F235 0 = blkV (b) := (hF236 0).trans s222
        have s238 : F235 1 = .pointer (some ⟨p1, 0, none⟩) := (hF236 1).trans s223
        have s239 : F235 2 = .pointer (some ⟨p8, 0, none⟩) := (hF236 2).trans s224
        have s240 : F235 3 = .pointer (some ⟨p22, 0, none⟩) := (hF236 3).trans s225
        have s241 : F235 4 = .int .i64 (((r : Nat) : Int)) := (hF236 4).trans s226
        have s242 : F235 5 = .int .i64 (((u : Nat) : Int)) := (hF236 5).trans s227
        have s243 : F235 7 = .int .i64 (((r : Nat) : Int)) := (hF236 7).trans s228
        have s244 : F235 8 = .bool (decide ((((r : Nat) : Int)) < (4))) := (hF236 8).trans s229
        have s245 : F235 10 = .int .i64 (((u : Nat) : Int)) := (hF236 10).trans s230
        have s246 : F235 11 = .bool (decide ((((u : Nat) : Int)) < (4))) := (hF236 11).trans s231
        have s247 : F235 14 = .bool (decide ((((c : Nat) : Int)) < (4))) := (hF236 14).trans s233
        have s248 : F235 6 = .int .i64 (((c : Nat) : Int)) := (hF236 6).trans s234
        have s249 : F235 13 = .int .i64 (((c + 1 : Nat) : Int)) := (hF236 13).trans rfl
        clear hF236
        exact then_normal ⟨(4 - (c + 1)), by omega, c + 1, by omega, rfl, s237, s238, s239, s240, s241, s242, s243, s244, s245, s246, s249, K219, B217, B218, (by rw [← turnP_set b r u c (by omega)]; exact B215)⟩
      · replace c173 := of_decide_eq_false c173
        refine wq_exit ?_
        refine then_exit ?_
        refine then_exit ?_
        have l250 : 4 = c := by omega
        subst l250
        refine in_here ?_
        refine in_normal ?_
        refine then_normal ?_
        refine wq_region ?_
        refine wl_v (.int .i64 (((u + 1 : Nat) : Int))) rfl rfl (y_add rfl s169 rfl (i64_n (by omega) (by omega)) ⟨rfl, rfl⟩) ?_
        refine wl_v (.int .i64 (((u + 1 : Nat) : Int))) rfl rfl (y_mov rfl rfl ⟨rfl, rfl⟩) ?_
        refine wl_nil fun F251 hF252 => ?_
        have s253 : F251 0 = blkV (b) := (hF252 0).trans s161
        have s254 : F251 1 = .pointer (some ⟨p1, 0, none⟩) := (hF252 1).trans s162
        have s255 : F251 2 = .pointer (some ⟨p8, 0, none⟩) := (hF252 2).trans s163
        have s256 : F251 3 = .pointer (some ⟨p22, 0, none⟩) := (hF252 3).trans s164
        have s257 : F251 4 = .int .i64 (((r : Nat) : Int)) := (hF252 4).trans s165
        have s258 : F251 5 = .int .i64 (((u : Nat) : Int)) := (hF252 5).trans s166
        have s259 : F251 7 = .int .i64 (((r : Nat) : Int)) := (hF252 7).trans s167
        have s260 : F251 8 = .bool (decide ((((r : Nat) : Int)) < (4))) := (hF252 8).trans s168
        have s261 : F251 11 = .bool (decide ((((u : Nat) : Int)) < (4))) := (hF252 11).trans s170
        have s262 : F251 13 = .int .i64 (((4 : Nat) : Int)) := (hF252 13).trans s171
        have s263 : F251 14 = .bool (decide ((((4 : Nat) : Int)) < (4))) := (hF252 14).trans s172
        have s264 : F251 10 = .int .i64 (((u + 1 : Nat) : Int)) := (hF252 10).trans rfl
        clear hF252
        exact then_normal ⟨(4 - (u + 1)), by omega, u + 1, by omega, rfl, s253, s254, s255, s256, s257, s259, s260, s264, K142, B156, B157, (by rw [← turnP_row b r u (by omega)]; exact B158)⟩
    · replace c114 := of_decide_eq_false c114
      refine wq_exit ?_
      refine then_exit ?_
      refine then_exit ?_
      have l265 : 4 = u := by omega
      subst l265
      refine in_here ?_
      refine in_normal ?_
      refine then_normal ?_
      refine wq_region ?_
      refine wl_v (.int .i64 (((r + 1 : Nat) : Int))) rfl rfl (y_add rfl s110 rfl (i64_n (by omega) (by omega)) ⟨rfl, rfl⟩) ?_
      refine wl_v (.int .i64 (((r + 1 : Nat) : Int))) rfl rfl (y_mov rfl rfl ⟨rfl, rfl⟩) ?_
      refine wl_nil fun F266 hF267 => ?_
      have s268 : F266 0 = blkV (b) := (hF267 0).trans s105
      have s269 : F266 1 = .pointer (some ⟨p1, 0, none⟩) := (hF267 1).trans s106
      have s270 : F266 2 = .pointer (some ⟨p8, 0, none⟩) := (hF267 2).trans s107
      have s271 : F266 3 = .pointer (some ⟨p22, 0, none⟩) := (hF267 3).trans s108
      have s272 : F266 4 = .int .i64 (((r : Nat) : Int)) := (hF267 4).trans s109
      have s273 : F266 8 = .bool (decide ((((r : Nat) : Int)) < (4))) := (hF267 8).trans s111
      have s274 : F266 10 = .int .i64 (((4 : Nat) : Int)) := (hF267 10).trans s112
      have s275 : F266 11 = .bool (decide ((((4 : Nat) : Int)) < (4))) := (hF267 11).trans s113
      have s276 : F266 7 = .int .i64 (((r + 1 : Nat) : Int)) := (hF267 7).trans rfl
      clear hF267
      exact then_normal ⟨(4 - (r + 1)), by omega, r + 1, by omega, rfl, s268, s269, s270, s271, s276, K89, B100, B101, (B102.congr (turnP_next b r))⟩
  · replace c67 := of_decide_eq_false c67
    refine wq_exit ?_
    refine then_exit ?_
    refine then_exit ?_
    have l277 : 4 = r := by omega
    subst l277
    have B278 : Blk w47 p22 24 (turn b) := ((B58.congr (fun i _ => turnP_end b i)))
    refine in_here ?_
    refine then_normal ?_
    refine wq_seq ?_
    refine wq_region ?_
    refine wl_v (blkV (turn b)) rfl rfl (y_load_blk blkT_block rfl s64 B278 ⟨rfl, rfl⟩) ?_
    refine wl_store_blk blkT_block rfl rfl rfl s63 rfl B57 fun w279 B280 k281 => ?_
    have B282 := B56.all k281 ne13
    have B283 := B278.all k281 (Ne.symm ne28)
    have K284 := K48.trans k281 (fun _ hi e => absurd (e ▸ hi) (Nat.not_lt.2 lp14))
    refine wl_nil fun F285 hF286 => ?_
    have s287 : F285 0 = blkV (b) := (hF286 0).trans s61
    have s288 : F285 1 = .pointer (some ⟨p1, 0, none⟩) := (hF286 1).trans s62
    have s289 : F285 2 = .pointer (some ⟨p8, 0, none⟩) := (hF286 2).trans s63
    have s290 : F285 3 = .pointer (some ⟨p22, 0, none⟩) := (hF286 3).trans s64
    have s291 : F285 7 = .int .i64 (((4 : Nat) : Int)) := (hF286 7).trans s65
    have s292 : F285 8 = .bool (decide ((((4 : Nat) : Int)) < (4))) := (hF286 8).trans s66
    clear hF286
    refine then_normal ?_
    refine wq_ret ?_
    exact end_blk blkT_block rfl s289 B280 ⟨rfl, K284⟩

set_option maxHeartbeats 4000000 in
set_option maxRecDepth 100000 in
theorem sums_any (b : Nat → Int) (w0 : World) (hw : Waves w0) (hb : ∀ i, i < 16 → -1048576 ≤ b i ∧ b i ≤ 1048576) :
    Calls Tryd.prog 19 #[blkV (b)] w0 fun e w' => e = .returned (blkV (fwd b)) ∧ Kept (fun _ => False) w0 w' := by
  refine calls_wq (args := [blkV (b)]) 10 Tryd.func19 rfl rfl (Nat.le_of_ble_eq_true rfl) ?_
  have K0 := Kept.refl (fun _ => False) w0
  refine wq_seq ?_
  refine wq_region ?_
  refine wl_box_blk rfl rfl rfl rfl fun p1 w2 e5 B3 k4 => ?_
  have lp6 : w0.heap.size ≤ p1 := by have h_ := K0.size; omega
  clear e5
  have K7 := K0.trans k4 (fun _ _ x => x)
  refine wl_alloc_blk rfl rfl rfl blkT_block.2.2 fun p8 w9 e12 B10 k11 => ?_
  have ne13 : p1 ≠ p8 := by have h_ := B3.lt; omega
  have lp14 : w0.heap.size ≤ p8 := by have h_ := K7.size; omega
  clear e12
  have B15 := B3.all k11 id
  have K16 := K7.trans k11 (fun _ _ x => x)
  refine wl_nil fun F17 hF18 => ?_
  have s19 : F17 0 = blkV (b) := (hF18 0).trans rfl
  have s20 : F17 1 = .pointer (some ⟨p1, 0, none⟩) := (hF18 1).trans rfl
  have s21 : F17 2 = .pointer (some ⟨p8, 0, none⟩) := (hF18 2).trans rfl
  clear hF18
  refine then_normal ?_
  refine wq_seq ?_
  refine wq_seq ?_
  refine wq_region ?_
  refine wl_v (blkV (b)) rfl rfl (y_load_blk blkT_block rfl s20 B15 ⟨rfl, rfl⟩) ?_
  refine wl_v (blkV (fun _ => 0)) rfl rfl (y_buildR (cells := (arrL 16 (fun _ => 0)).toArray) rfl (by kernel_rfl) rfl ⟨rfl, rfl⟩) ?_
  refine wl_v (.bool (sameB (b) (fun _ => 0))) rfl rfl (y_sameR rfl rfl rfl rfl ⟨rfl, rfl⟩) ?_
  refine wl_nil fun F22 hF23 => ?_
  have s24 : F22 0 = blkV (b) := (hF23 0).trans s19
  have s25 : F22 1 = .pointer (some ⟨p1, 0, none⟩) := (hF23 1).trans s20
  have s26 : F22 2 = .pointer (some ⟨p8, 0, none⟩) := (hF23 2).trans s21
  have s27 : F22 5 = .bool (sameB (b) (fun _ => 0)) := (hF23 5).trans rfl
  clear hF23
  refine then_normal ?_
  refine wq_cond s27 (fun c28 => ?_) (fun c28 => ?_)
  · skip
    refine wq_seq ?_
    refine wq_region ?_
    refine wl_v (blkV (b)) rfl rfl (y_load_blk blkT_block rfl s25 B15 ⟨rfl, rfl⟩) ?_
    refine wl_store_blk blkT_block rfl rfl rfl s26 rfl B10 fun w29 B30 k31 => ?_
    have B32 := B15.all k31 ne13
    have K33 := K16.trans k31 (fun _ hi e => absurd (e ▸ hi) (Nat.not_lt.2 lp14))
    refine wl_nil fun F34 hF35 => ?_
    have s36 : F34 0 = blkV (b) := (hF35 0).trans s24
    have s37 : F34 1 = .pointer (some ⟨p1, 0, none⟩) := (hF35 1).trans s25
    have s38 : F34 2 = .pointer (some ⟨p8, 0, none⟩) := (hF35 2).trans s26
    have s39 : F34 5 = .bool (sameB (b) (fun _ => 0)) := (hF35 5).trans s27
    clear hF35
    refine then_normal ?_
    refine wq_ret ?_
    refine then_ret ?_
    exact end_blk blkT_block rfl s38 B30 ⟨(by first | rfl | exact sums_zero ‹_›), K33⟩
  · skip
    refine wq_skip ?_
    refine then_normal ?_
    refine wq_seq ?_
    refine wq_region ?_
    refine wl_v (blkV (b)) rfl rfl (y_load_blk blkT_block rfl s25 B15 ⟨rfl, rfl⟩) ?_
    refine wl_call (R := fun v_ w_ => v_ = blkV (turn (b)) ∧ Kept (fun _ => False) w9 w_) rfl rfl (y_cs rfl rfl rfl (fun _ _ => by kernel_rfl) (ev_func _) (vsC rfl vsN) (turned_any b _ (hw.all K16) (fun i hi => by have h := hb i hi; omega)) (fun e_ w_ h_ => ⟨_, h_.1, rfl, h_.2⟩)) ?_
    rintro _ w40 ⟨rfl, k41⟩
    have B42 := B15.all k41 id
    have B43 := B10.all k41 id
    have K44 := K16.trans k41 (fun _ _ x => x)
    refine wl_call (R := fun v_ w_ => v_ = blkV (turn (turn (b))) ∧ Kept (fun _ => False) w40 w_) rfl rfl (y_cs rfl rfl rfl (fun _ _ => by kernel_rfl) (ev_func _) (vsC rfl vsN) (turned_any (turn b) _ (hw.all K44) (fun i _ => by have h := turn_le b 1048576 hb i; omega)) (fun e_ w_ h_ => ⟨_, h_.1, rfl, h_.2⟩)) ?_
    rintro _ w45 ⟨rfl, k46⟩
    have B47 := B42.all k46 id
    have B48 := B43.all k46 id
    have K49 := K44.trans k46 (fun _ _ x => x)
    refine wl_store_blk blkT_block rfl rfl rfl s26 rfl B48 fun w50 B51 k52 => ?_
    have B53 := B47.all k52 ne13
    have K54 := K49.trans k52 (fun _ hi e => absurd (e ▸ hi) (Nat.not_lt.2 lp14))
    refine wl_nil fun F55 hF56 => ?_
    have s57 : F55 0 = blkV (b) := (hF56 0).trans s24
    have s58 : F55 1 = .pointer (some ⟨p1, 0, none⟩) := (hF56 1).trans s25
    have s59 : F55 2 = .pointer (some ⟨p8, 0, none⟩) := (hF56 2).trans s26
    have s60 : F55 5 = .bool (sameB (b) (fun _ => 0)) := (hF56 5).trans s27
    clear hF56
    refine then_normal ?_
    refine wq_ret ?_
    exact end_blk blkT_block rfl s59 B51 ⟨(by first | rfl | exact sums_zero ‹_›), K54⟩

set_option maxHeartbeats 4000000 in
set_option maxRecDepth 100000 in
theorem forward_any (b : Nat → Int) (w0 : World) (hw : Waves w0) :
    Calls Tryd.prog 10 #[blkV (b)] w0 fun e w' => e = .returned (blkV (fwd (clB 1048576 b))) ∧ Kept (fun _ => False) w0 w' := by
  refine calls_wq (args := [blkV (b)]) 6 Tryd.func10 rfl rfl (Nat.le_of_ble_eq_true rfl) ?_
  have K0 := Kept.refl (fun _ => False) w0
  refine wq_seq ?_
  refine wq_region ?_
  refine wl_box_blk rfl rfl rfl rfl fun p1 w2 e5 B3 k4 => ?_
  have lp6 : w0.heap.size ≤ p1 := by have h_ := K0.size; omega
  clear e5
  have K7 := K0.trans k4 (fun _ _ x => x)
  refine wl_alloc_blk rfl rfl rfl blkT_block.2.2 fun p8 w9 e12 B10 k11 => ?_
  have ne13 : p1 ≠ p8 := by have h_ := B3.lt; omega
  have lp14 : w0.heap.size ≤ p8 := by have h_ := K7.size; omega
  clear e12
  have B15 := B3.all k11 id
  have K16 := K7.trans k11 (fun _ _ x => x)
  refine wl_nil fun F17 hF18 => ?_
  have s19 : F17 0 = blkV (b) := (hF18 0).trans rfl
  have s20 : F17 1 = .pointer (some ⟨p1, 0, none⟩) := (hF18 1).trans rfl
  have s21 : F17 2 = .pointer (some ⟨p8, 0, none⟩) := (hF18 2).trans rfl
  clear hF18
  refine then_normal ?_
  refine wq_seq ?_
  refine wq_region ?_
  refine wl_v (blkV (b)) rfl rfl (y_load_blk blkT_block rfl s20 B15 ⟨rfl, rfl⟩) ?_
  refine wl_call (R := fun v_ w_ => v_ = blkV (clB 1048576 (b)) ∧ Kept (fun _ => False) w9 w_) rfl rfl (y_cs rfl rfl rfl (fun _ _ => by kernel_rfl) (ev_func _) (vsC rfl vsN) (clamped_any (b) _ ) (fun e_ w_ h_ => ⟨_, h_.1, rfl, h_.2⟩)) ?_
  rintro _ w22 ⟨rfl, k23⟩
  have B24 := B15.all k23 id
  have B25 := B10.all k23 id
  have K26 := K16.trans k23 (fun _ _ x => x)
  refine wl_call (R := fun v_ w_ => v_ = blkV (fwd (clB 1048576 (b))) ∧ Kept (fun _ => False) w22 w_) rfl rfl (y_cs rfl rfl rfl (fun _ _ => by kernel_rfl) (ev_func _) (vsC rfl vsN) (sums_any (clB 1048576 b) _ (hw.all K26) (fun i _ => clB_le b i)) (fun e_ w_ h_ => ⟨_, h_.1, rfl, h_.2⟩)) ?_
  rintro _ w27 ⟨rfl, k28⟩
  have B29 := B24.all k28 id
  have B30 := B25.all k28 id
  have K31 := K26.trans k28 (fun _ _ x => x)
  refine wl_store_blk blkT_block rfl rfl rfl s21 rfl B30 fun w32 B33 k34 => ?_
  have B35 := B29.all k34 ne13
  have K36 := K31.trans k34 (fun _ hi e => absurd (e ▸ hi) (Nat.not_lt.2 lp14))
  refine wl_nil fun F37 hF38 => ?_
  have s39 : F37 0 = blkV (b) := (hF38 0).trans s19
  have s40 : F37 1 = .pointer (some ⟨p1, 0, none⟩) := (hF38 1).trans s20
  have s41 : F37 2 = .pointer (some ⟨p8, 0, none⟩) := (hF38 2).trans s21
  clear hF38
  refine then_normal ?_
  refine wq_ret ?_
  exact end_blk blkT_block rfl s41 B33 ⟨rfl, K36⟩

set_option maxHeartbeats 4000000 in
set_option maxRecDepth 100000 in
theorem back_any (b : Nat → Int) (w0 : World) (hw : Waves w0) :
    Calls Tryd.prog 12 #[blkV (b)] w0 fun e w' => e = .returned (blkV (backB b)) ∧ Kept (fun _ => False) w0 w' := by
  refine calls_wq (args := [blkV (b)]) 19 Tryd.func12 rfl rfl (Nat.le_of_ble_eq_true rfl) ?_
  have K0 := Kept.refl (fun _ => False) w0
  refine wq_seq ?_
  refine wq_region ?_
  refine wl_box_blk rfl rfl rfl rfl fun p1 w2 e5 B3 k4 => ?_
  have lp6 : w0.heap.size ≤ p1 := by have h_ := K0.size; omega
  clear e5
  have K7 := K0.trans k4 (fun _ _ x => x)
  refine wl_alloc_blk rfl rfl rfl blkT_block.2.2 fun p8 w9 e12 B10 k11 => ?_
  have ne13 : p1 ≠ p8 := by have h_ := B3.lt; omega
  have lp14 : w0.heap.size ≤ p8 := by have h_ := K7.size; omega
  clear e12
  have B15 := B3.all k11 id
  have K16 := K7.trans k11 (fun _ _ x => x)
  refine wl_nil fun F17 hF18 => ?_
  have s19 : F17 0 = blkV (b) := (hF18 0).trans rfl
  have s20 : F17 1 = .pointer (some ⟨p1, 0, none⟩) := (hF18 1).trans rfl
  have s21 : F17 2 = .pointer (some ⟨p8, 0, none⟩) := (hF18 2).trans rfl
  clear hF18
  refine then_normal ?_
  refine wq_seq ?_
  refine wq_region ?_
  refine wl_v (blkV (b)) rfl rfl (y_load_blk blkT_block rfl s20 B15 ⟨rfl, rfl⟩) ?_
  refine wl_call (R := fun v_ w_ => v_ = blkV (clB 1048576 (b)) ∧ Kept (fun _ => False) w9 w_) rfl rfl (y_cs rfl rfl rfl (fun _ _ => by kernel_rfl) (ev_func _) (vsC rfl vsN) (clamped_any (b) _ ) (fun e_ w_ h_ => ⟨_, h_.1, rfl, h_.2⟩)) ?_
  rintro _ w22 ⟨rfl, k23⟩
  have B24 := B15.all k23 id
  have B25 := B10.all k23 id
  have K26 := K16.trans k23 (fun _ _ x => x)
  refine wl_call (R := fun v_ w_ => v_ = blkV (fwd (clB 1048576 (b))) ∧ Kept (fun _ => False) w22 w_) rfl rfl (y_cs rfl rfl rfl (fun _ _ => by kernel_rfl) (ev_func _) (vsC rfl vsN) (sums_any (clB 1048576 b) _ (hw.all K26) (fun i _ => clB_le b i)) (fun e_ w_ h_ => ⟨_, h_.1, rfl, h_.2⟩)) ?_
  rintro _ w27 ⟨rfl, k28⟩
  have B29 := B24.all k28 id
  have B30 := B25.all k28 id
  have K31 := K26.trans k28 (fun _ _ x => x)
  refine wl_store_blk blkT_block rfl rfl rfl s20 rfl B29 fun w32 B33 k34 => ?_
  have B35 := B30.all k34 (Ne.symm ne13)
  have K36 := K31.trans k34 (fun _ hi e => absurd (e ▸ hi) (Nat.not_lt.2 lp6))
  refine wl_nil fun F37 hF38 => ?_
  have s39 : F37 0 = blkV (b) := (hF38 0).trans s19
  have s40 : F37 1 = .pointer (some ⟨p1, 0, none⟩) := (hF38 1).trans s20
  have s41 : F37 2 = .pointer (some ⟨p8, 0, none⟩) := (hF38 2).trans s21
  clear hF38
  refine then_normal ?_
  refine wq_seq ?_
  refine wq_seq ?_
  refine wq_region ?_
  refine wl_v (.int .i64 (0)) rfl rfl (y_mov rfl rfl ⟨rfl, rfl⟩) ?_
  refine wl_nil fun F42 hF43 => ?_
  have s44 : F42 0 = blkV (b) := (hF43 0).trans s39
  have s45 : F42 1 = .pointer (some ⟨p1, 0, none⟩) := (hF43 1).trans s40
  have s46 : F42 2 = .pointer (some ⟨p8, 0, none⟩) := (hF43 2).trans s41
  have s47 : F42 7 = .int .i64 (0) := (hF43 7).trans rfl
  clear hF43
  refine then_normal ?_
  refine wq_block ?_
  refine wq_loop (fun nn FF ww => ∃ (k : Nat), k ≤ 16 ∧ nn = 16 - k ∧ FF 0 = blkV (b) ∧ FF 1 = .pointer (some ⟨p1, 0, none⟩) ∧ FF 2 = .pointer (some ⟨p8, 0, none⟩) ∧ FF 7 = .int .i64 (((k : Nat) : Int)) ∧ Kept (fun _ => False) w0 ww ∧ Blk ww p1 24 (upto k (fwd (clB 1048576 b)) (backB b)) ∧ Blk ww p8 24 (fun _ => 0)) (16 - (0)) ⟨0, by omega, rfl, s44, s45, s46, s47, K36, B33.first, B35⟩ ?_
  rintro n51 F48 w49 ⟨k, i52, hn51, s53, s54, s55, s56, K50, B57, B58⟩
  refine wq_seq ?_
  refine wq_region ?_
  refine wl_v (.bool (decide ((((k : Nat) : Int)) < (16)))) rfl rfl (y_lss rfl s56 rfl rfl ⟨rfl, rfl⟩) ?_
  refine wl_nil fun F59 hF60 => ?_
  have s61 : F59 0 = blkV (b) := (hF60 0).trans s53
  have s62 : F59 1 = .pointer (some ⟨p1, 0, none⟩) := (hF60 1).trans s54
  have s63 : F59 2 = .pointer (some ⟨p8, 0, none⟩) := (hF60 2).trans s55
  have s64 : F59 7 = .int .i64 (((k : Nat) : Int)) := (hF60 7).trans s56
  have s65 : F59 8 = .bool (decide ((((k : Nat) : Int)) < (16))) := (hF60 8).trans rfl
  clear hF60
  refine then_normal ?_
  refine wq_seq ?_
  refine wq_cond s65 (fun c66 => ?_) (fun c66 => ?_)
  · replace c66 := of_decide_eq_true c66
    refine wq_skip ?_
    refine then_normal ?_
    refine wq_seq ?_
    refine wq_block ?_
    refine wq_seq ?_
    refine wq_region ?_
    refine wl_v (.int .i64 (((k : Nat) : Int))) rfl rfl (y_mov rfl s64 ⟨rfl, rfl⟩) ?_
    refine wl_v (.int .i64 (((k : Nat) : Int))) rfl rfl (y_asg rfl rfl ⟨rfl, rfl⟩) ?_
    refine wl_nil fun F67 hF68 => ?_
    have s69 : F67 0 = blkV (b) := (hF68 0).trans s61
    have s70 : F67 1 = .pointer (some ⟨p1, 0, none⟩) := (hF68 1).trans s62
    have s71 : F67 2 = .pointer (some ⟨p8, 0, none⟩) := (hF68 2).trans s63
    have s72 : F67 7 = .int .i64 (((k : Nat) : Int)) := (hF68 7).trans s64
    have s73 : F67 8 = .bool (decide ((((k : Nat) : Int)) < (16))) := (hF68 8).trans s65
    have s74 : F67 3 = .int .i64 (((k : Nat) : Int)) := (hF68 3).trans rfl
    clear hF68
    refine then_normal ?_
    have hf := fwd_le (clB 1048576 b) 1048576 (fun i _ => clB_le b i) k
    refine wq_region ?_
    refine wl_v (.int .i64 (((k : Nat) : Int))) rfl rfl (y_mov rfl s74 ⟨rfl, rfl⟩) ?_
    refine wl_v (.int .i64 (((k : Nat) : Int))) rfl rfl (y_mov rfl s74 ⟨rfl, rfl⟩) ?_
    refine wl_v (.pointer (some ⟨p1, k, none⟩)) rfl rfl (y_atR (k) (s := 1) rfl s70 rfl (by omega) Tryd.underlying24 (by omega) (by kernel_rfl) (by omega) ⟨rfl, rfl⟩) ?_
    refine wl_v (.int .i64 (fwd (clB 1048576 b) k)) rfl rfl (y_ldR rfl rfl Tryd.underlying3 (((B57).cell (by omega)).trans (some_int (upto_at k _ _))) ⟨rfl, rfl⟩) ?_
    refine wl_v (.int .i64 ((fwd (clB 1048576 b) k) + (8))) rfl rfl (y_add rfl rfl rfl (i64_i rfl (by omega)) ⟨rfl, rfl⟩) ?_
    refine wl_v (.int .i64 (rnd (fwd (clB 1048576 b) k))) rfl rfl (y_shrR 4 rfl rfl rfl (by decide) (rfl) ⟨rfl, rfl⟩) ?_
    refine wl_v (.pointer (some ⟨p1, k, none⟩)) rfl rfl (y_atR (k) (s := 1) rfl s70 rfl (by omega) Tryd.underlying24 (by omega) (by kernel_rfl) (by omega) ⟨rfl, rfl⟩) ?_
    refine wl_set_blk rfl rfl rfl rfl rfl B57 (by omega) (by kernel_rfl) fun w75 B76 k77 => ?_
    have B78 := B58.all k77 (Ne.symm ne13)
    have K79 := K50.trans k77 (fun _ hi e => absurd (e ▸ hi) (Nat.not_lt.2 lp6))
    refine wl_nil fun F80 hF81 => ?_
    have s82 : F80 0 = blkV (b) := (hF81 0).trans s69
    have s83 : F80 1 = .pointer (some ⟨p1, 0, none⟩) := (hF81 1).trans s70
    have s84 : F80 2 = .pointer (some ⟨p8, 0, none⟩) := (hF81 2).trans s71
    have s85 : F80 7 = .int .i64 (((k : Nat) : Int)) := (hF81 7).trans s72
    have s86 : F80 8 = .bool (decide ((((k : Nat) : Int)) < (16))) := (hF81 8).trans s73
    have s87 : F80 3 = .int .i64 (((k : Nat) : Int)) := (hF81 3).trans s74
    clear hF81
    refine in_normal ?_
    refine then_normal ?_
    refine wq_region ?_
    refine wl_v (.int .i64 (((k + 1 : Nat) : Int))) rfl rfl (y_add rfl s85 rfl (i64_n (by omega) (by omega)) ⟨rfl, rfl⟩) ?_
    refine wl_v (.int .i64 (((k + 1 : Nat) : Int))) rfl rfl (y_mov rfl rfl ⟨rfl, rfl⟩) ?_
    refine wl_nil fun F88 hF89 => ?_
    have s90 : F88 0 = blkV (b) := (hF89 0).trans s82
    have s91 : F88 1 = .pointer (some ⟨p1, 0, none⟩) := (hF89 1).trans s83
    have s92 : F88 2 = .pointer (some ⟨p8, 0, none⟩) := (hF89 2).trans s84
    have s93 : F88 8 = .bool (decide ((((k : Nat) : Int)) < (16))) := (hF89 8).trans s86
    have s94 : F88 3 = .int .i64 (((k : Nat) : Int)) := (hF89 3).trans s87
    have s95 : F88 7 = .int .i64 (((k + 1 : Nat) : Int)) := (hF89 7).trans rfl
    clear hF89
    exact then_normal ⟨(16 - (k + 1)), by omega, k + 1, by omega, rfl, s90, s91, s92, s95, K79, (B76.next rfl), B78⟩
  · replace c66 := of_decide_eq_false c66
    refine wq_exit ?_
    refine then_exit ?_
    refine then_exit ?_
    have l96 : 16 = k := by omega
    subst l96
    have B97 : Blk w49 p1 24 (backB b) := (B57.last)
    refine in_here ?_
    refine then_normal ?_
    refine wq_seq ?_
    refine wq_region ?_
    refine wl_v (blkV (backB b)) rfl rfl (y_load_blk blkT_block rfl s62 B97 ⟨rfl, rfl⟩) ?_
    refine wl_store_blk blkT_block rfl rfl rfl s63 rfl B58 fun w98 B99 k100 => ?_
    have B101 := B97.all k100 ne13
    have K102 := K50.trans k100 (fun _ hi e => absurd (e ▸ hi) (Nat.not_lt.2 lp14))
    refine wl_nil fun F103 hF104 => ?_
    have s105 : F103 0 = blkV (b) := (hF104 0).trans s61
    have s106 : F103 1 = .pointer (some ⟨p1, 0, none⟩) := (hF104 1).trans s62
    have s107 : F103 2 = .pointer (some ⟨p8, 0, none⟩) := (hF104 2).trans s63
    have s108 : F103 7 = .int .i64 (((16 : Nat) : Int)) := (hF104 7).trans s64
    have s109 : F103 8 = .bool (decide ((((16 : Nat) : Int)) < (16))) := (hF104 8).trans s65
    clear hF104
    refine then_normal ?_
    refine wq_ret ?_
    exact end_blk blkT_block rfl s107 B99 ⟨rfl, K102⟩

set_option maxHeartbeats 4000000 in
set_option maxRecDepth 100000 in
theorem less_any (a b : Nat → Int) (w0 : World) :
    Calls Tryd.prog 14 #[blkV (a), blkV (b)] w0 fun e w' => e = .returned (blkV (lessB a b)) ∧ Kept (fun _ => False) w0 w' := by
  refine calls_wq (args := [blkV (a), blkV (b)]) 23 Tryd.func14 rfl rfl (Nat.le_of_ble_eq_true rfl) ?_
  have K0 := Kept.refl (fun _ => False) w0
  refine wq_seq ?_
  refine wq_region ?_
  refine wl_box_blk rfl rfl rfl rfl fun p1 w2 e5 B3 k4 => ?_
  have lp6 : w0.heap.size ≤ p1 := by have h_ := K0.size; omega
  clear e5
  have K7 := K0.trans k4 (fun _ _ x => x)
  refine wl_box_blk rfl rfl rfl rfl fun p8 w9 e12 B10 k11 => ?_
  have ne13 : p1 ≠ p8 := by have h_ := B3.lt; omega
  have lp14 : w0.heap.size ≤ p8 := by have h_ := K7.size; omega
  clear e12
  have B15 := B3.all k11 id
  have K16 := K7.trans k11 (fun _ _ x => x)
  refine wl_alloc_blk rfl rfl rfl blkT_block.2.2 fun p17 w18 e21 B19 k20 => ?_
  have ne22 : p1 ≠ p17 := by have h_ := B15.lt; omega
  have ne23 : p8 ≠ p17 := by have h_ := B10.lt; omega
  have lp24 : w0.heap.size ≤ p17 := by have h_ := K16.size; omega
  clear e21
  have B25 := B15.all k20 id
  have B26 := B10.all k20 id
  have K27 := K16.trans k20 (fun _ _ x => x)
  refine wl_nil fun F28 hF29 => ?_
  have s30 : F28 0 = blkV (a) := (hF29 0).trans rfl
  have s31 : F28 1 = blkV (b) := (hF29 1).trans rfl
  have s32 : F28 2 = .pointer (some ⟨p1, 0, none⟩) := (hF29 2).trans rfl
  have s33 : F28 3 = .pointer (some ⟨p8, 0, none⟩) := (hF29 3).trans rfl
  have s34 : F28 4 = .pointer (some ⟨p17, 0, none⟩) := (hF29 4).trans rfl
  clear hF29
  refine then_normal ?_
  refine wq_seq ?_
  refine wq_tail 4 [some 6, some 7, some 8, some 9] [Pd.eq (blkV (a)), Pd.eq (blkV (clB 1048576 (a))), Pd.eq (blkV (b)), Pd.eq (blkV (clB 1048576 (b)))] (by kernel_rfl) (by kernel_rfl) (by kernel_rfl) ?_ ?_
  · refine stepsF_cons ?_ ?_
    · refine StepF.one rfl fun F_ w_ hR hout hD => ?_
      exact (y_load_blk blkT_block rfl ((hout 2 (by decide)).trans s32) (B25.all hR id) ⟨rfl, Kept.refl _ _⟩)
    refine stepsF_cons ?_ ?_
    · refine StepF.one rfl fun F_ w_ hR hout hD => ?_
      have g6 : F_ 6 = blkV (a) := hD.get 0 rfl rfl rfl
      exact (y_cs rfl rfl rfl (fun _ _ => by kernel_rfl) (ev_func _) (vsC g6 vsN) (clamped_any (a) _ ) (fun e_ w_ h_ => ⟨_, h_.1, rfl, h_.2⟩))
    refine stepsF_cons ?_ ?_
    · refine StepF.one rfl fun F_ w_ hR hout hD => ?_
      exact (y_load_blk blkT_block rfl ((hout 3 (by decide)).trans s33) (B26.all hR id) ⟨rfl, Kept.refl _ _⟩)
    refine stepsF_cons ?_ ?_
    · refine StepF.one rfl fun F_ w_ hR hout hD => ?_
      have g8 : F_ 8 = blkV (b) := hD.get 0 rfl rfl rfl
      exact (y_cs rfl rfl rfl (fun _ _ => by kernel_rfl) (ev_func _) (vsC g8 vsN) (clamped_any (b) _ ) (fun e_ w_ h_ => ⟨_, h_.1, rfl, h_.2⟩))
    exact stepsF_nil
  intro v35 F36 w37 k38 G39 hF40
  have B41 := B25.all k38 id
  have B42 := B26.all k38 id
  have B43 := B19.all k38 id
  have K44 := K27.trans k38 (fun _ _ x => x)
  have s45 : F36 0 = blkV (a) := (hF40 0).trans s30
  have s46 : F36 1 = blkV (b) := (hF40 1).trans s31
  have s47 : F36 2 = .pointer (some ⟨p1, 0, none⟩) := (hF40 2).trans s32
  have s48 : F36 3 = .pointer (some ⟨p8, 0, none⟩) := (hF40 3).trans s33
  have s49 : F36 4 = .pointer (some ⟨p17, 0, none⟩) := (hF40 4).trans s34
  have s50 : F36 7 = blkV (clB 1048576 (a)) := (hF40 7).trans (G39 1 (by decide))
  have s51 : F36 9 = blkV (clB 1048576 (b)) := (hF40 9).trans (G39 3 (by decide))
  clear G39 hF40
  refine wl_store_blk blkT_block rfl rfl rfl s47 s50 B41 fun w52 B53 k54 => ?_
  have B55 := B42.all k54 (Ne.symm ne13)
  have B56 := B43.all k54 (Ne.symm ne22)
  have K57 := K44.trans k54 (fun _ hi e => absurd (e ▸ hi) (Nat.not_lt.2 lp6))
  refine wl_store_blk blkT_block rfl rfl rfl s48 s51 B55 fun w58 B59 k60 => ?_
  have B61 := B53.all k60 ne13
  have B62 := B56.all k60 (Ne.symm ne23)
  have K63 := K57.trans k60 (fun _ hi e => absurd (e ▸ hi) (Nat.not_lt.2 lp14))
  refine wl_nil fun F64 hF65 => ?_
  have s66 : F64 0 = blkV (a) := (hF65 0).trans s45
  have s67 : F64 1 = blkV (b) := (hF65 1).trans s46
  have s68 : F64 2 = .pointer (some ⟨p1, 0, none⟩) := (hF65 2).trans s47
  have s69 : F64 3 = .pointer (some ⟨p8, 0, none⟩) := (hF65 3).trans s48
  have s70 : F64 4 = .pointer (some ⟨p17, 0, none⟩) := (hF65 4).trans s49
  clear hF65
  refine then_normal ?_
  refine wq_seq ?_
  refine wq_seq ?_
  refine wq_region ?_
  refine wl_v (.int .i64 (0)) rfl rfl (y_mov rfl rfl ⟨rfl, rfl⟩) ?_
  refine wl_nil fun F71 hF72 => ?_
  have s73 : F71 0 = blkV (a) := (hF72 0).trans s66
  have s74 : F71 1 = blkV (b) := (hF72 1).trans s67
  have s75 : F71 2 = .pointer (some ⟨p1, 0, none⟩) := (hF72 2).trans s68
  have s76 : F71 3 = .pointer (some ⟨p8, 0, none⟩) := (hF72 3).trans s69
  have s77 : F71 4 = .pointer (some ⟨p17, 0, none⟩) := (hF72 4).trans s70
  have s78 : F71 10 = .int .i64 (0) := (hF72 10).trans rfl
  clear hF72
  refine then_normal ?_
  refine wq_block ?_
  refine wq_loop (fun nn FF ww => ∃ (k : Nat), k ≤ 16 ∧ nn = 16 - k ∧ FF 0 = blkV (a) ∧ FF 1 = blkV (b) ∧ FF 2 = .pointer (some ⟨p1, 0, none⟩) ∧ FF 3 = .pointer (some ⟨p8, 0, none⟩) ∧ FF 4 = .pointer (some ⟨p17, 0, none⟩) ∧ FF 10 = .int .i64 (((k : Nat) : Int)) ∧ Kept (fun _ => False) w0 ww ∧ Blk ww p1 24 (upto k (clB 1048576 a) (lessB a b)) ∧ Blk ww p8 24 (clB 1048576 (b)) ∧ Blk ww p17 24 (fun _ => 0)) (16 - (0)) ⟨0, by omega, rfl, s73, s74, s75, s76, s77, s78, K63, B61.first, B59, B62⟩ ?_
  rintro n82 F79 w80 ⟨k, i83, hn82, s84, s85, s86, s87, s88, s89, K81, B90, B91, B92⟩
  refine wq_seq ?_
  refine wq_region ?_
  refine wl_v (.bool (decide ((((k : Nat) : Int)) < (16)))) rfl rfl (y_lss rfl s89 rfl rfl ⟨rfl, rfl⟩) ?_
  refine wl_nil fun F93 hF94 => ?_
  have s95 : F93 0 = blkV (a) := (hF94 0).trans s84
  have s96 : F93 1 = blkV (b) := (hF94 1).trans s85
  have s97 : F93 2 = .pointer (some ⟨p1, 0, none⟩) := (hF94 2).trans s86
  have s98 : F93 3 = .pointer (some ⟨p8, 0, none⟩) := (hF94 3).trans s87
  have s99 : F93 4 = .pointer (some ⟨p17, 0, none⟩) := (hF94 4).trans s88
  have s100 : F93 10 = .int .i64 (((k : Nat) : Int)) := (hF94 10).trans s89
  have s101 : F93 11 = .bool (decide ((((k : Nat) : Int)) < (16))) := (hF94 11).trans rfl
  clear hF94
  refine then_normal ?_
  refine wq_seq ?_
  refine wq_cond s101 (fun c102 => ?_) (fun c102 => ?_)
  · replace c102 := of_decide_eq_true c102
    refine wq_skip ?_
    refine then_normal ?_
    refine wq_seq ?_
    refine wq_block ?_
    refine wq_seq ?_
    refine wq_region ?_
    refine wl_v (.int .i64 (((k : Nat) : Int))) rfl rfl (y_mov rfl s100 ⟨rfl, rfl⟩) ?_
    refine wl_v (.int .i64 (((k : Nat) : Int))) rfl rfl (y_asg rfl rfl ⟨rfl, rfl⟩) ?_
    refine wl_nil fun F103 hF104 => ?_
    have s105 : F103 0 = blkV (a) := (hF104 0).trans s95
    have s106 : F103 1 = blkV (b) := (hF104 1).trans s96
    have s107 : F103 2 = .pointer (some ⟨p1, 0, none⟩) := (hF104 2).trans s97
    have s108 : F103 3 = .pointer (some ⟨p8, 0, none⟩) := (hF104 3).trans s98
    have s109 : F103 4 = .pointer (some ⟨p17, 0, none⟩) := (hF104 4).trans s99
    have s110 : F103 10 = .int .i64 (((k : Nat) : Int)) := (hF104 10).trans s100
    have s111 : F103 11 = .bool (decide ((((k : Nat) : Int)) < (16))) := (hF104 11).trans s101
    have s112 : F103 5 = .int .i64 (((k : Nat) : Int)) := (hF104 5).trans rfl
    clear hF104
    refine then_normal ?_
    have h1 := clB_le a k
    have h2 := clB_le b k
    refine wq_tail 8 [some 13, some 14, some 15, some 16, some 17, some 18, some 19, some 20] [Pd.eq (.int .i64 (((k : Nat) : Int))), Pd.eq (.pointer (some ⟨p1, k, none⟩)), Pd.eq (.int .i64 (clB 1048576 a k)), Pd.eq (.int .i64 (((k : Nat) : Int))), Pd.eq (.pointer (some ⟨p8, k, none⟩)), Pd.eq (.int .i64 ((clB 1048576 (b)) (k))), Pd.eq (.int .i64 ((clB 1048576 a k) - ((clB 1048576 (b)) (k)))), Pd.eq (.pointer (some ⟨p1, k, none⟩))] (by kernel_rfl) (by kernel_rfl) (by kernel_rfl) ?_ ?_
    · refine stepsF_cons ?_ ?_
      · refine StepF.one rfl fun F_ w_ hR hout hD => ?_
        exact (y_mov rfl ((hout 5 (by decide)).trans s112) ⟨rfl, Kept.refl _ _⟩)
      refine stepsF_cons ?_ ?_
      · refine StepF.one rfl fun F_ w_ hR hout hD => ?_
        have g13 : F_ 13 = .int .i64 (((k : Nat) : Int)) := hD.get 0 rfl rfl rfl
        exact (y_atR (k) (s := 1) rfl ((hout 2 (by decide)).trans s107) g13 (by omega) Tryd.underlying24 (by omega) (by kernel_rfl) (by omega) ⟨rfl, Kept.refl _ _⟩)
      refine stepsF_cons ?_ ?_
      · refine StepF.one rfl fun F_ w_ hR hout hD => ?_
        have g14 : F_ 14 = .pointer (some ⟨p1, k, none⟩) := hD.get 0 rfl rfl rfl
        exact (y_ldR rfl g14 Tryd.underlying3 ((((B90.all hR id)).cell (by omega)).trans (some_int (upto_at k _ _))) ⟨rfl, Kept.refl _ _⟩)
      refine stepsF_cons ?_ ?_
      · refine StepF.one rfl fun F_ w_ hR hout hD => ?_
        exact (y_mov rfl ((hout 5 (by decide)).trans s112) ⟨rfl, Kept.refl _ _⟩)
      refine stepsF_cons ?_ ?_
      · refine StepF.one rfl fun F_ w_ hR hout hD => ?_
        have g16 : F_ 16 = .int .i64 (((k : Nat) : Int)) := hD.get 0 rfl rfl rfl
        exact (y_atR (k) (s := 1) rfl ((hout 3 (by decide)).trans s108) g16 (by omega) Tryd.underlying24 (by omega) (by kernel_rfl) (by omega) ⟨rfl, Kept.refl _ _⟩)
      refine stepsF_cons ?_ ?_
      · refine StepF.one rfl fun F_ w_ hR hout hD => ?_
        have g17 : F_ 17 = .pointer (some ⟨p8, k, none⟩) := hD.get 0 rfl rfl rfl
        exact (y_ldR rfl g17 Tryd.underlying3 (((B91.all hR id)).cell (by omega)) ⟨rfl, Kept.refl _ _⟩)
      refine stepsF_cons ?_ ?_
      · refine StepF.one rfl fun F_ w_ hR hout hD => ?_
        have g15 : F_ 15 = .int .i64 (clB 1048576 a k) := hD.get 0 rfl rfl rfl
        have g18 : F_ 18 = .int .i64 ((clB 1048576 (b)) (k)) := hD.get 1 rfl rfl rfl
        exact (y_sub rfl g15 g18 (i64_i rfl (by omega)) ⟨rfl, Kept.refl _ _⟩)
      refine stepsF_cons ?_ ?_
      · refine StepF.one rfl fun F_ w_ hR hout hD => ?_
        have g13 : F_ 13 = .int .i64 (((k : Nat) : Int)) := hD.get 0 rfl rfl rfl
        exact (y_atR (k) (s := 1) rfl ((hout 2 (by decide)).trans s107) g13 (by omega) Tryd.underlying24 (by omega) (by kernel_rfl) (by omega) ⟨rfl, Kept.refl _ _⟩)
      exact stepsF_nil
    intro v113 F114 w115 k116 G117 hF118
    have B119 := B90.all k116 id
    have B120 := B91.all k116 id
    have B121 := B92.all k116 id
    have K122 := K81.trans k116 (fun _ _ x => x)
    have s123 : F114 0 = blkV (a) := (hF118 0).trans s105
    have s124 : F114 1 = blkV (b) := (hF118 1).trans s106
    have s125 : F114 2 = .pointer (some ⟨p1, 0, none⟩) := (hF118 2).trans s107
    have s126 : F114 3 = .pointer (some ⟨p8, 0, none⟩) := (hF118 3).trans s108
    have s127 : F114 4 = .pointer (some ⟨p17, 0, none⟩) := (hF118 4).trans s109
    have s128 : F114 10 = .int .i64 (((k : Nat) : Int)) := (hF118 10).trans s110
    have s129 : F114 11 = .bool (decide ((((k : Nat) : Int)) < (16))) := (hF118 11).trans s111
    have s130 : F114 5 = .int .i64 (((k : Nat) : Int)) := (hF118 5).trans s112
    have s131 : F114 19 = .int .i64 ((clB 1048576 a k) - ((clB 1048576 (b)) (k))) := (hF118 19).trans (G117 6 (by decide))
    have s132 : F114 20 = .pointer (some ⟨p1, k, none⟩) := (hF118 20).trans (G117 7 (by decide))
    clear G117 hF118
    refine wl_set_blk rfl rfl rfl s132 s131 B119 (by omega) (by kernel_rfl) fun w133 B134 k135 => ?_
    have B136 := B120.all k135 (Ne.symm ne13)
    have B137 := B121.all k135 (Ne.symm ne22)
    have K138 := K122.trans k135 (fun _ hi e => absurd (e ▸ hi) (Nat.not_lt.2 lp6))
    refine wl_nil fun F139 hF140 => ?_
    have s141 : F139 0 = blkV (a) := (hF140 0).trans s123
    have s142 : F139 1 = blkV (b) := (hF140 1).trans s124
    have s143 : F139 2 = .pointer (some ⟨p1, 0, none⟩) := (hF140 2).trans s125
    have s144 : F139 3 = .pointer (some ⟨p8, 0, none⟩) := (hF140 3).trans s126
    have s145 : F139 4 = .pointer (some ⟨p17, 0, none⟩) := (hF140 4).trans s127
    have s146 : F139 10 = .int .i64 (((k : Nat) : Int)) := (hF140 10).trans s128
    have s147 : F139 11 = .bool (decide ((((k : Nat) : Int)) < (16))) := (hF140 11).trans s129
    have s148 : F139 5 = .int .i64 (((k : Nat) : Int)) := (hF140 5).trans s130
    clear hF140
    refine in_normal ?_
    refine then_normal ?_
    refine wq_region ?_
    refine wl_v (.int .i64 (((k + 1 : Nat) : Int))) rfl rfl (y_add rfl s146 rfl (i64_n (by omega) (by omega)) ⟨rfl, rfl⟩) ?_
    refine wl_v (.int .i64 (((k + 1 : Nat) : Int))) rfl rfl (y_mov rfl rfl ⟨rfl, rfl⟩) ?_
    refine wl_nil fun F149 hF150 => ?_
    have s151 : F149 0 = blkV (a) := (hF150 0).trans s141
    have s152 : F149 1 = blkV (b) := (hF150 1).trans s142
    have s153 : F149 2 = .pointer (some ⟨p1, 0, none⟩) := (hF150 2).trans s143
    have s154 : F149 3 = .pointer (some ⟨p8, 0, none⟩) := (hF150 3).trans s144
    have s155 : F149 4 = .pointer (some ⟨p17, 0, none⟩) := (hF150 4).trans s145
    have s156 : F149 11 = .bool (decide ((((k : Nat) : Int)) < (16))) := (hF150 11).trans s147
    have s157 : F149 5 = .int .i64 (((k : Nat) : Int)) := (hF150 5).trans s148
    have s158 : F149 10 = .int .i64 (((k + 1 : Nat) : Int)) := (hF150 10).trans rfl
    clear hF150
    exact then_normal ⟨(16 - (k + 1)), by omega, k + 1, by omega, rfl, s151, s152, s153, s154, s155, s158, K138, (B134.next rfl), B136, B137⟩
  · replace c102 := of_decide_eq_false c102
    refine wq_exit ?_
    refine then_exit ?_
    refine then_exit ?_
    have l159 : 16 = k := by omega
    subst l159
    have B160 : Blk w80 p1 24 (lessB a b) := (B90.last)
    refine in_here ?_
    refine then_normal ?_
    refine wq_seq ?_
    refine wq_region ?_
    refine wl_v (blkV (lessB a b)) rfl rfl (y_load_blk blkT_block rfl s97 B160 ⟨rfl, rfl⟩) ?_
    refine wl_store_blk blkT_block rfl rfl rfl s99 rfl B92 fun w161 B162 k163 => ?_
    have B164 := B160.all k163 ne22
    have B165 := B91.all k163 ne23
    have K166 := K81.trans k163 (fun _ hi e => absurd (e ▸ hi) (Nat.not_lt.2 lp24))
    refine wl_nil fun F167 hF168 => ?_
    have s169 : F167 0 = blkV (a) := (hF168 0).trans s95
    have s170 : F167 1 = blkV (b) := (hF168 1).trans s96
    have s171 : F167 2 = .pointer (some ⟨p1, 0, none⟩) := (hF168 2).trans s97
    have s172 : F167 3 = .pointer (some ⟨p8, 0, none⟩) := (hF168 3).trans s98
    have s173 : F167 4 = .pointer (some ⟨p17, 0, none⟩) := (hF168 4).trans s99
    have s174 : F167 10 = .int .i64 (((16 : Nat) : Int)) := (hF168 10).trans s100
    have s175 : F167 11 = .bool (decide ((((16 : Nat) : Int)) < (16))) := (hF168 11).trans s101
    clear hF168
    refine then_normal ?_
    refine wq_ret ?_
    exact end_blk blkT_block rfl s173 B162 ⟨rfl, K166⟩

set_option maxHeartbeats 4000000 in
set_option maxRecDepth 100000 in
theorem more_any (a b : Nat → Int) (w0 : World) :
    Calls Tryd.prog 16 #[blkV (a), blkV (b)] w0 fun e w' => e = .returned (blkV (moreB a b)) ∧ Kept (fun _ => False) w0 w' := by
  refine calls_wq (args := [blkV (a), blkV (b)]) 23 Tryd.func16 rfl rfl (Nat.le_of_ble_eq_true rfl) ?_
  have K0 := Kept.refl (fun _ => False) w0
  refine wq_seq ?_
  refine wq_region ?_
  refine wl_box_blk rfl rfl rfl rfl fun p1 w2 e5 B3 k4 => ?_
  have lp6 : w0.heap.size ≤ p1 := by have h_ := K0.size; omega
  clear e5
  have K7 := K0.trans k4 (fun _ _ x => x)
  refine wl_box_blk rfl rfl rfl rfl fun p8 w9 e12 B10 k11 => ?_
  have ne13 : p1 ≠ p8 := by have h_ := B3.lt; omega
  have lp14 : w0.heap.size ≤ p8 := by have h_ := K7.size; omega
  clear e12
  have B15 := B3.all k11 id
  have K16 := K7.trans k11 (fun _ _ x => x)
  refine wl_alloc_blk rfl rfl rfl blkT_block.2.2 fun p17 w18 e21 B19 k20 => ?_
  have ne22 : p1 ≠ p17 := by have h_ := B15.lt; omega
  have ne23 : p8 ≠ p17 := by have h_ := B10.lt; omega
  have lp24 : w0.heap.size ≤ p17 := by have h_ := K16.size; omega
  clear e21
  have B25 := B15.all k20 id
  have B26 := B10.all k20 id
  have K27 := K16.trans k20 (fun _ _ x => x)
  refine wl_nil fun F28 hF29 => ?_
  have s30 : F28 0 = blkV (a) := (hF29 0).trans rfl
  have s31 : F28 1 = blkV (b) := (hF29 1).trans rfl
  have s32 : F28 2 = .pointer (some ⟨p1, 0, none⟩) := (hF29 2).trans rfl
  have s33 : F28 3 = .pointer (some ⟨p8, 0, none⟩) := (hF29 3).trans rfl
  have s34 : F28 4 = .pointer (some ⟨p17, 0, none⟩) := (hF29 4).trans rfl
  clear hF29
  refine then_normal ?_
  refine wq_seq ?_
  refine wq_tail 4 [some 6, some 7, some 8, some 9] [Pd.eq (blkV (a)), Pd.eq (blkV (clB 1048576 (a))), Pd.eq (blkV (b)), Pd.eq (blkV (clB 1048576 (b)))] (by kernel_rfl) (by kernel_rfl) (by kernel_rfl) ?_ ?_
  · refine stepsF_cons ?_ ?_
    · refine StepF.one rfl fun F_ w_ hR hout hD => ?_
      exact (y_load_blk blkT_block rfl ((hout 2 (by decide)).trans s32) (B25.all hR id) ⟨rfl, Kept.refl _ _⟩)
    refine stepsF_cons ?_ ?_
    · refine StepF.one rfl fun F_ w_ hR hout hD => ?_
      have g6 : F_ 6 = blkV (a) := hD.get 0 rfl rfl rfl
      exact (y_cs rfl rfl rfl (fun _ _ => by kernel_rfl) (ev_func _) (vsC g6 vsN) (clamped_any (a) _ ) (fun e_ w_ h_ => ⟨_, h_.1, rfl, h_.2⟩))
    refine stepsF_cons ?_ ?_
    · refine StepF.one rfl fun F_ w_ hR hout hD => ?_
      exact (y_load_blk blkT_block rfl ((hout 3 (by decide)).trans s33) (B26.all hR id) ⟨rfl, Kept.refl _ _⟩)
    refine stepsF_cons ?_ ?_
    · refine StepF.one rfl fun F_ w_ hR hout hD => ?_
      have g8 : F_ 8 = blkV (b) := hD.get 0 rfl rfl rfl
      exact (y_cs rfl rfl rfl (fun _ _ => by kernel_rfl) (ev_func _) (vsC g8 vsN) (clamped_any (b) _ ) (fun e_ w_ h_ => ⟨_, h_.1, rfl, h_.2⟩))
    exact stepsF_nil
  intro v35 F36 w37 k38 G39 hF40
  have B41 := B25.all k38 id
  have B42 := B26.all k38 id
  have B43 := B19.all k38 id
  have K44 := K27.trans k38 (fun _ _ x => x)
  have s45 : F36 0 = blkV (a) := (hF40 0).trans s30
  have s46 : F36 1 = blkV (b) := (hF40 1).trans s31
  have s47 : F36 2 = .pointer (some ⟨p1, 0, none⟩) := (hF40 2).trans s32
  have s48 : F36 3 = .pointer (some ⟨p8, 0, none⟩) := (hF40 3).trans s33
  have s49 : F36 4 = .pointer (some ⟨p17, 0, none⟩) := (hF40 4).trans s34
  have s50 : F36 7 = blkV (clB 1048576 (a)) := (hF40 7).trans (G39 1 (by decide))
  have s51 : F36 9 = blkV (clB 1048576 (b)) := (hF40 9).trans (G39 3 (by decide))
  clear G39 hF40
  refine wl_store_blk blkT_block rfl rfl rfl s47 s50 B41 fun w52 B53 k54 => ?_
  have B55 := B42.all k54 (Ne.symm ne13)
  have B56 := B43.all k54 (Ne.symm ne22)
  have K57 := K44.trans k54 (fun _ hi e => absurd (e ▸ hi) (Nat.not_lt.2 lp6))
  refine wl_store_blk blkT_block rfl rfl rfl s48 s51 B55 fun w58 B59 k60 => ?_
  have B61 := B53.all k60 ne13
  have B62 := B56.all k60 (Ne.symm ne23)
  have K63 := K57.trans k60 (fun _ hi e => absurd (e ▸ hi) (Nat.not_lt.2 lp14))
  refine wl_nil fun F64 hF65 => ?_
  have s66 : F64 0 = blkV (a) := (hF65 0).trans s45
  have s67 : F64 1 = blkV (b) := (hF65 1).trans s46
  have s68 : F64 2 = .pointer (some ⟨p1, 0, none⟩) := (hF65 2).trans s47
  have s69 : F64 3 = .pointer (some ⟨p8, 0, none⟩) := (hF65 3).trans s48
  have s70 : F64 4 = .pointer (some ⟨p17, 0, none⟩) := (hF65 4).trans s49
  clear hF65
  refine then_normal ?_
  refine wq_seq ?_
  refine wq_seq ?_
  refine wq_region ?_
  refine wl_v (.int .i64 (0)) rfl rfl (y_mov rfl rfl ⟨rfl, rfl⟩) ?_
  refine wl_nil fun F71 hF72 => ?_
  have s73 : F71 0 = blkV (a) := (hF72 0).trans s66
  have s74 : F71 1 = blkV (b) := (hF72 1).trans s67
  have s75 : F71 2 = .pointer (some ⟨p1, 0, none⟩) := (hF72 2).trans s68
  have s76 : F71 3 = .pointer (some ⟨p8, 0, none⟩) := (hF72 3).trans s69
  have s77 : F71 4 = .pointer (some ⟨p17, 0, none⟩) := (hF72 4).trans s70
  have s78 : F71 10 = .int .i64 (0) := (hF72 10).trans rfl
  clear hF72
  refine then_normal ?_
  refine wq_block ?_
  refine wq_loop (fun nn FF ww => ∃ (k : Nat), k ≤ 16 ∧ nn = 16 - k ∧ FF 0 = blkV (a) ∧ FF 1 = blkV (b) ∧ FF 2 = .pointer (some ⟨p1, 0, none⟩) ∧ FF 3 = .pointer (some ⟨p8, 0, none⟩) ∧ FF 4 = .pointer (some ⟨p17, 0, none⟩) ∧ FF 10 = .int .i64 (((k : Nat) : Int)) ∧ Kept (fun _ => False) w0 ww ∧ Blk ww p1 24 (upto k (clB 1048576 a) (moreB a b)) ∧ Blk ww p8 24 (clB 1048576 (b)) ∧ Blk ww p17 24 (fun _ => 0)) (16 - (0)) ⟨0, by omega, rfl, s73, s74, s75, s76, s77, s78, K63, B61.first, B59, B62⟩ ?_
  rintro n82 F79 w80 ⟨k, i83, hn82, s84, s85, s86, s87, s88, s89, K81, B90, B91, B92⟩
  refine wq_seq ?_
  refine wq_region ?_
  refine wl_v (.bool (decide ((((k : Nat) : Int)) < (16)))) rfl rfl (y_lss rfl s89 rfl rfl ⟨rfl, rfl⟩) ?_
  refine wl_nil fun F93 hF94 => ?_
  have s95 : F93 0 = blkV (a) := (hF94 0).trans s84
  have s96 : F93 1 = blkV (b) := (hF94 1).trans s85
  have s97 : F93 2 = .pointer (some ⟨p1, 0, none⟩) := (hF94 2).trans s86
  have s98 : F93 3 = .pointer (some ⟨p8, 0, none⟩) := (hF94 3).trans s87
  have s99 : F93 4 = .pointer (some ⟨p17, 0, none⟩) := (hF94 4).trans s88
  have s100 : F93 10 = .int .i64 (((k : Nat) : Int)) := (hF94 10).trans s89
  have s101 : F93 11 = .bool (decide ((((k : Nat) : Int)) < (16))) := (hF94 11).trans rfl
  clear hF94
  refine then_normal ?_
  refine wq_seq ?_
  refine wq_cond s101 (fun c102 => ?_) (fun c102 => ?_)
  · replace c102 := of_decide_eq_true c102
    refine wq_skip ?_
    refine then_normal ?_
    refine wq_seq ?_
    refine wq_block ?_
    refine wq_seq ?_
    refine wq_region ?_
    refine wl_v (.int .i64 (((k : Nat) : Int))) rfl rfl (y_mov rfl s100 ⟨rfl, rfl⟩) ?_
    refine wl_v (.int .i64 (((k : Nat) : Int))) rfl rfl (y_asg rfl rfl ⟨rfl, rfl⟩) ?_
    refine wl_nil fun F103 hF104 => ?_
    have s105 : F103 0 = blkV (a) := (hF104 0).trans s95
    have s106 : F103 1 = blkV (b) := (hF104 1).trans s96
    have s107 : F103 2 = .pointer (some ⟨p1, 0, none⟩) := (hF104 2).trans s97
    have s108 : F103 3 = .pointer (some ⟨p8, 0, none⟩) := (hF104 3).trans s98
    have s109 : F103 4 = .pointer (some ⟨p17, 0, none⟩) := (hF104 4).trans s99
    have s110 : F103 10 = .int .i64 (((k : Nat) : Int)) := (hF104 10).trans s100
    have s111 : F103 11 = .bool (decide ((((k : Nat) : Int)) < (16))) := (hF104 11).trans s101
    have s112 : F103 5 = .int .i64 (((k : Nat) : Int)) := (hF104 5).trans rfl
    clear hF104
    refine then_normal ?_
    have h1 := clB_le a k
    have h2 := clB_le b k
    refine wq_tail 8 [some 13, some 14, some 15, some 16, some 17, some 18, some 19, some 20] [Pd.eq (.int .i64 (((k : Nat) : Int))), Pd.eq (.pointer (some ⟨p1, k, none⟩)), Pd.eq (.int .i64 (clB 1048576 a k)), Pd.eq (.int .i64 (((k : Nat) : Int))), Pd.eq (.pointer (some ⟨p8, k, none⟩)), Pd.eq (.int .i64 ((clB 1048576 (b)) (k))), Pd.eq (.int .i64 ((clB 1048576 a k) + ((clB 1048576 (b)) (k)))), Pd.eq (.pointer (some ⟨p1, k, none⟩))] (by kernel_rfl) (by kernel_rfl) (by kernel_rfl) ?_ ?_
    · refine stepsF_cons ?_ ?_
      · refine StepF.one rfl fun F_ w_ hR hout hD => ?_
        exact (y_mov rfl ((hout 5 (by decide)).trans s112) ⟨rfl, Kept.refl _ _⟩)
      refine stepsF_cons ?_ ?_
      · refine StepF.one rfl fun F_ w_ hR hout hD => ?_
        have g13 : F_ 13 = .int .i64 (((k : Nat) : Int)) := hD.get 0 rfl rfl rfl
        exact (y_atR (k) (s := 1) rfl ((hout 2 (by decide)).trans s107) g13 (by omega) Tryd.underlying24 (by omega) (by kernel_rfl) (by omega) ⟨rfl, Kept.refl _ _⟩)
      refine stepsF_cons ?_ ?_
      · refine StepF.one rfl fun F_ w_ hR hout hD => ?_
        have g14 : F_ 14 = .pointer (some ⟨p1, k, none⟩) := hD.get 0 rfl rfl rfl
        exact (y_ldR rfl g14 Tryd.underlying3 ((((B90.all hR id)).cell (by omega)).trans (some_int (upto_at k _ _))) ⟨rfl, Kept.refl _ _⟩)
      refine stepsF_cons ?_ ?_
      · refine StepF.one rfl fun F_ w_ hR hout hD => ?_
        exact (y_mov rfl ((hout 5 (by decide)).trans s112) ⟨rfl, Kept.refl _ _⟩)
      refine stepsF_cons ?_ ?_
      · refine StepF.one rfl fun F_ w_ hR hout hD => ?_
        have g16 : F_ 16 = .int .i64 (((k : Nat) : Int)) := hD.get 0 rfl rfl rfl
        exact (y_atR (k) (s := 1) rfl ((hout 3 (by decide)).trans s108) g16 (by omega) Tryd.underlying24 (by omega) (by kernel_rfl) (by omega) ⟨rfl, Kept.refl _ _⟩)
      refine stepsF_cons ?_ ?_
      · refine StepF.one rfl fun F_ w_ hR hout hD => ?_
        have g17 : F_ 17 = .pointer (some ⟨p8, k, none⟩) := hD.get 0 rfl rfl rfl
        exact (y_ldR rfl g17 Tryd.underlying3 (((B91.all hR id)).cell (by omega)) ⟨rfl, Kept.refl _ _⟩)
      refine stepsF_cons ?_ ?_
      · refine StepF.one rfl fun F_ w_ hR hout hD => ?_
        have g15 : F_ 15 = .int .i64 (clB 1048576 a k) := hD.get 0 rfl rfl rfl
        have g18 : F_ 18 = .int .i64 ((clB 1048576 (b)) (k)) := hD.get 1 rfl rfl rfl
        exact (y_add rfl g15 g18 (i64_i rfl (by omega)) ⟨rfl, Kept.refl _ _⟩)
      refine stepsF_cons ?_ ?_
      · refine StepF.one rfl fun F_ w_ hR hout hD => ?_
        have g13 : F_ 13 = .int .i64 (((k : Nat) : Int)) := hD.get 0 rfl rfl rfl
        exact (y_atR (k) (s := 1) rfl ((hout 2 (by decide)).trans s107) g13 (by omega) Tryd.underlying24 (by omega) (by kernel_rfl) (by omega) ⟨rfl, Kept.refl _ _⟩)
      exact stepsF_nil
    intro v113 F114 w115 k116 G117 hF118
    have B119 := B90.all k116 id
    have B120 := B91.all k116 id
    have B121 := B92.all k116 id
    have K122 := K81.trans k116 (fun _ _ x => x)
    have s123 : F114 0 = blkV (a) := (hF118 0).trans s105
    have s124 : F114 1 = blkV (b) := (hF118 1).trans s106
    have s125 : F114 2 = .pointer (some ⟨p1, 0, none⟩) := (hF118 2).trans s107
    have s126 : F114 3 = .pointer (some ⟨p8, 0, none⟩) := (hF118 3).trans s108
    have s127 : F114 4 = .pointer (some ⟨p17, 0, none⟩) := (hF118 4).trans s109
    have s128 : F114 10 = .int .i64 (((k : Nat) : Int)) := (hF118 10).trans s110
    have s129 : F114 11 = .bool (decide ((((k : Nat) : Int)) < (16))) := (hF118 11).trans s111
    have s130 : F114 5 = .int .i64 (((k : Nat) : Int)) := (hF118 5).trans s112
    have s131 : F114 19 = .int .i64 ((clB 1048576 a k) + ((clB 1048576 (b)) (k))) := (hF118 19).trans (G117 6 (by decide))
    have s132 : F114 20 = .pointer (some ⟨p1, k, none⟩) := (hF118 20).trans (G117 7 (by decide))
    clear G117 hF118
    refine wl_set_blk rfl rfl rfl s132 s131 B119 (by omega) (by kernel_rfl) fun w133 B134 k135 => ?_
    have B136 := B120.all k135 (Ne.symm ne13)
    have B137 := B121.all k135 (Ne.symm ne22)
    have K138 := K122.trans k135 (fun _ hi e => absurd (e ▸ hi) (Nat.not_lt.2 lp6))
    refine wl_nil fun F139 hF140 => ?_
    have s141 : F139 0 = blkV (a) := (hF140 0).trans s123
    have s142 : F139 1 = blkV (b) := (hF140 1).trans s124
    have s143 : F139 2 = .pointer (some ⟨p1, 0, none⟩) := (hF140 2).trans s125
    have s144 : F139 3 = .pointer (some ⟨p8, 0, none⟩) := (hF140 3).trans s126
    have s145 : F139 4 = .pointer (some ⟨p17, 0, none⟩) := (hF140 4).trans s127
    have s146 : F139 10 = .int .i64 (((k : Nat) : Int)) := (hF140 10).trans s128
    have s147 : F139 11 = .bool (decide ((((k : Nat) : Int)) < (16))) := (hF140 11).trans s129
    have s148 : F139 5 = .int .i64 (((k : Nat) : Int)) := (hF140 5).trans s130
    clear hF140
    refine in_normal ?_
    refine then_normal ?_
    refine wq_region ?_
    refine wl_v (.int .i64 (((k + 1 : Nat) : Int))) rfl rfl (y_add rfl s146 rfl (i64_n (by omega) (by omega)) ⟨rfl, rfl⟩) ?_
    refine wl_v (.int .i64 (((k + 1 : Nat) : Int))) rfl rfl (y_mov rfl rfl ⟨rfl, rfl⟩) ?_
    refine wl_nil fun F149 hF150 => ?_
    have s151 : F149 0 = blkV (a) := (hF150 0).trans s141
    have s152 : F149 1 = blkV (b) := (hF150 1).trans s142
    have s153 : F149 2 = .pointer (some ⟨p1, 0, none⟩) := (hF150 2).trans s143
    have s154 : F149 3 = .pointer (some ⟨p8, 0, none⟩) := (hF150 3).trans s144
    have s155 : F149 4 = .pointer (some ⟨p17, 0, none⟩) := (hF150 4).trans s145
    have s156 : F149 11 = .bool (decide ((((k : Nat) : Int)) < (16))) := (hF150 11).trans s147
    have s157 : F149 5 = .int .i64 (((k : Nat) : Int)) := (hF150 5).trans s148
    have s158 : F149 10 = .int .i64 (((k + 1 : Nat) : Int)) := (hF150 10).trans rfl
    clear hF150
    exact then_normal ⟨(16 - (k + 1)), by omega, k + 1, by omega, rfl, s151, s152, s153, s154, s155, s158, K138, (B134.next rfl), B136, B137⟩
  · replace c102 := of_decide_eq_false c102
    refine wq_exit ?_
    refine then_exit ?_
    refine then_exit ?_
    have l159 : 16 = k := by omega
    subst l159
    have B160 : Blk w80 p1 24 (moreB a b) := (B90.last)
    refine in_here ?_
    refine then_normal ?_
    refine wq_seq ?_
    refine wq_region ?_
    refine wl_v (blkV (moreB a b)) rfl rfl (y_load_blk blkT_block rfl s97 B160 ⟨rfl, rfl⟩) ?_
    refine wl_store_blk blkT_block rfl rfl rfl s99 rfl B92 fun w161 B162 k163 => ?_
    have B164 := B160.all k163 ne22
    have B165 := B91.all k163 ne23
    have K166 := K81.trans k163 (fun _ hi e => absurd (e ▸ hi) (Nat.not_lt.2 lp24))
    refine wl_nil fun F167 hF168 => ?_
    have s169 : F167 0 = blkV (a) := (hF168 0).trans s95
    have s170 : F167 1 = blkV (b) := (hF168 1).trans s96
    have s171 : F167 2 = .pointer (some ⟨p1, 0, none⟩) := (hF168 2).trans s97
    have s172 : F167 3 = .pointer (some ⟨p8, 0, none⟩) := (hF168 3).trans s98
    have s173 : F167 4 = .pointer (some ⟨p17, 0, none⟩) := (hF168 4).trans s99
    have s174 : F167 10 = .int .i64 (((16 : Nat) : Int)) := (hF168 10).trans s100
    have s175 : F167 11 = .bool (decide ((((16 : Nat) : Int)) < (16))) := (hF168 11).trans s101
    clear hF168
    refine then_normal ?_
    refine wq_ret ?_
    exact end_blk blkT_block rfl s173 B162 ⟨rfl, K166⟩
end Go.Proofs.YtjfbfkjmbegacaaDoor
