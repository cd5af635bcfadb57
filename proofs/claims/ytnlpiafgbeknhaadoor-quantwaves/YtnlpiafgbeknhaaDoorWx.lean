/- What wave's functions do. -/
import Derived.Test.YtnlpiafgbeknhaaDoorSb
import Derived.Test.YtnlpiafgbeknhaaDoorWPure
namespace Go.Proofs.YtnlpiafgbeknhaaDoor
open Go.RowKit

/-- The first k places told anew. -/
def upto (k : Nat) (b c : Nat → Int) : Nat → Int := fun i => if i < k then c i else b i
theorem upto_zero (b c : Nat → Int) : upto 0 b c = b := by funext i; simp [upto]
theorem upto_full (b c : Nat → Int) (i : Nat) (hi : i < 16) : upto 16 b c i = c i := by simp [upto, hi]
theorem upto_set (k : Nat) (b c : Nat → Int) : upd (upto k b c) k (c k) = upto (k + 1) b c := by
  funext i
  unfold upd upto
  by_cases h : i = k
  · subst h; simp
  · rw [if_neg h]
    by_cases h2 : i < k
    · rw [if_pos h2, if_pos (by omega)]
    · rw [if_neg h2, if_neg (by omega)]
theorem upto_at (k : Nat) (b c : Nat → Int) : upto k b c k = b k := by simp [upto]
theorem Blk.first {w : World} {p : Nat} {t : TypeId} {b c : Nat → Int} (h : Blk w p t b) : Blk w p t (upto 0 b c) := by rw [upto_zero]; exact h
theorem Blk.next {w : World} {p : Nat} {t : TypeId} {b c : Nat → Int} {k : Nat} {x : Int} (h : Blk w p t (upd (upto k b c) k x)) (e : x = c k) : Blk w p t (upto (k + 1) b c) := by rw [← upto_set, ← e]; exact h
theorem Blk.last {w : World} {p : Nat} {t : TypeId} {b c : Nat → Int} (h : Blk w p t (upto 16 b c)) : Blk w p t c := h.congr (upto_full b c)
theorem some_int {x y : Int} (h : x = y) : some (Value.int .i64 x) = some (Value.int .i64 y) := by rw [h]

/-- Where the program's waves lie. -/
def Waves (w : World) : Prop := 1 < w.heap.size ∧ ∀ i, i < 16 → w.cell? ⟨1, i, none⟩ = some (.int .i64 (wv 0 i))
theorem Kept.cell0 {S : Nat → Prop} {w w' : World} (k : Kept S w w') {b off : Nat} (hb : b < w.heap.size) (hn : ¬ S b) : w'.cell? ⟨b, off, none⟩ = w.cell? ⟨b, off, none⟩ := by
  unfold World.cell?; rw [k.block b hb hn]
theorem Waves.all {w w' : World} (h : Waves w) (k : Kept (fun _ => False) w w') : Waves w' :=
  ⟨Nat.lt_of_lt_of_le h.1 k.size, fun i hi => (k.cell0 h.1 id).trans (h.2 i hi)⟩
theorem wv_flat (u c : Nat) : wv 0 (u * 4 + c) = wv u c := by unfold wv; congr 1; omega
theorem Waves.at {w : World} (h : Waves w) (u c : Nat) (hu : u < 4) (hc : c < 4) : w.cell? ⟨1, 0 + u * 4 + c, none⟩ = some (.int .i64 (wv u c)) := by
  rw [← wv_flat u c, ← h.2 (u * 4 + c) (by omega)]
  congr 2; omega

/-- The first c terms of a row's sum by a wave. -/
def ps (b : Nat → Int) (r u : Nat) : Nat → Int
  | 0 => 0
  | c + 1 => ps b r u c + b (r * 4 + c) * wv u c

theorem ps_le (b : Nat → Int) (M : Int) (h : ∀ i, i < 16 → -M ≤ b i ∧ b i ≤ M) (r u c : Nat) (hr : r < 4) (hc : c ≤ 4) : -(c * M) ≤ ps b r u c ∧ ps b r u c ≤ c * M := by
  induction c with
  | zero => simp [ps]
  | succ c ih =>
    have h1 := ih (by omega)
    have h2 := h (r * 4 + c) (by omega)
    have h3 := wv_mul _ M u c h2.1 h2.2
    have e : ((c + 1 : Nat) : Int) * M = (c : Int) * M + M := by rw [Int.natCast_add, Int.add_mul]; simp
    rw [e]
    unfold ps
    omega

theorem ps_turn (b : Nat → Int) (r u : Nat) (hr : r < 4) : ps b r u 4 = turn b (u * 4 + r) := by
  have e1 : (u * 4 + r) % 4 = r := by omega
  have e2 : (u * 4 + r) / 4 = u := by omega
  simp only [ps, turn, e1, e2, Nat.mul_comm r 4, Nat.add_zero]
  omega

/-- The sums as far as they are told. -/
def turnP (b : Nat → Int) (r u c i : Nat) : Int := if i % 4 < r ∨ (i % 4 = r ∧ i / 4 < u) then turn b i else if i % 4 = r ∧ i / 4 = u then ps b r u c else 0

theorem turnP_here (b : Nat → Int) (r u c : Nat) (hr : r < 4) : turnP b r u c (u * 4 + r) = ps b r u c := by
  have e1 : (u * 4 + r) % 4 = r := by omega
  have e2 : (u * 4 + r) / 4 = u := by omega
  unfold turnP
  rw [e1, e2, if_neg (by omega), if_pos ⟨rfl, rfl⟩]

theorem turnP_set (b : Nat → Int) (r u c : Nat) (hr : r < 4) : upd (turnP b r u c) (u * 4 + r) (ps b r u (c + 1)) = turnP b r u (c + 1) := by
  funext i
  unfold upd
  by_cases h : i = u * 4 + r
  · subst h; rw [if_pos rfl, turnP_here b r u (c + 1) hr]
  · rw [if_neg h]
    have hn : ¬ (i % 4 = r ∧ i / 4 = u) := by omega
    unfold turnP
    rw [if_neg hn, if_neg hn]

theorem turnP_row (b : Nat → Int) (r u : Nat) (hr : r < 4) : turnP b r u 4 = turnP b r (u + 1) 0 := by
  funext i
  by_cases h : i = u * 4 + r
  · subst h
    rw [turnP_here b r u 4 hr, ps_turn b r u hr]
    unfold turnP
    rw [if_pos (by omega)]
  · unfold turnP
    have hn : ¬ (i % 4 = r ∧ i / 4 = u) := by omega
    by_cases h1 : i % 4 < r ∨ (i % 4 = r ∧ i / 4 < u)
    · rw [if_pos h1, if_pos (by omega)]
    · rw [if_neg h1, if_neg hn, if_neg (by omega)]
      split <;> simp [ps]

theorem turnP_next (b : Nat → Int) (r : Nat) (i : Nat) (hi : i < 16) : turnP b r 4 0 i = turnP b (r + 1) 0 0 i := by
  unfold turnP
  by_cases h1 : i % 4 < r ∨ (i % 4 = r ∧ i / 4 < 4)
  · rw [if_pos h1, if_pos (by omega)]
  · rw [if_neg h1, if_neg (by omega), if_neg (by omega)]
    split <;> simp [ps]

theorem turnP_start (b : Nat → Int) : turnP b 0 0 0 = fun _ => 0 := by
  funext i
  unfold turnP
  rw [if_neg (by omega)]
  split <;> simp [ps]
theorem turnP_end (b : Nat → Int) (i : Nat) : turnP b 4 0 0 i = turn b i := by
  unfold turnP; rw [if_pos (by omega)]

theorem sums_zero {b : Nat → Int} (h : sameB b (fun _ => 0) = true) : Ending.returned (blkV b) = .returned (blkV (fwd b)) := by
  have e := sameB_iff.1 h
  rw [fwd_congr (c := fun _ => 0) e, fwd_zero, blkV_congr e]

def lessB (a b : Nat → Int) : Nat → Int := fun i => clB 1048576 a i - clB 1048576 b i
def moreB (a b : Nat → Int) : Nat → Int := fun i => clB 1048576 a i + clB 1048576 b i
def backB (b : Nat → Int) : Nat → Int := fun i => rnd (fwd (clB 1048576 b) i)
theorem clB_le (b : Nat → Int) (i : Nat) : -1048576 ≤ clB 1048576 b i ∧ clB 1048576 b i ≤ 1048576 := cl_le 1048576 (b i) (by omega)

set_option maxHeartbeats 4000000 in
set_option maxRecDepth 100000 in
theorem clamped_any (b : Nat → Int) (w0 : World) :
    Calls Tryd.prog 25 #[blkV (b)] w0 fun e w' => e = .returned (blkV (clB 1048576 b)) ∧ Kept (fun _ => False) w0 w' := by
  refine calls_wq (args := [blkV (b)]) 16 Tryd.func25 rfl rfl (Nat.le_of_ble_eq_true rfl) ?_
  have K0 := Kept.refl (fun _ => False) w0
  refine wq_seq ?_
  refine wq_region ?_
  refine wl_box_blk rfl rfl rfl rfl fun p1 w2 e5 B3 k4 => ?_
  have lp6 : w0.heap.size ≤ p1 := by have h_ := K0.size; omega
  clear e5
  have K7 := K0.trans k4 (fun _ _ x => x)
  refine wl_alloc_blk rfl rfl rfl blkT_block.2.2 fun p8 w9 e12 B10 k11 => ?_
  have ne13 : p1 ≠ p8 := by have h_ := B3.lt; omega
  have lp14 : w0.heap.size ≤ p8 := by have h_ := K7.size; omega
  clear e12
  have B15 := B3.all k11 id
  have K16 := K7.trans k11 (fun _ _ x => x)
  refine wl_nil fun F17 hF18 => ?_
  have s19 : F17 1 = .pointer (some ⟨p1, 0, none⟩) := (hF18 1).trans rfl
  have s20 : F17 2 = .pointer (some ⟨p8, 0, none⟩) := (hF18 2).trans rfl
  clear hF18
  refine then_normal ?_
  refine wq_seq ?_
  refine wq_seq ?_
  refine wq_region ?_
  refine wl_v (.int .i64 (0)) rfl rfl (y_mov rfl rfl ⟨rfl, rfl⟩) ?_
  refine wl_nil fun F21 hF22 => ?_
  have s23 : F21 1 = .pointer (some ⟨p1, 0, none⟩) := (hF22 1).trans s19
  have s24 : F21 2 = .pointer (some ⟨p8, 0, none⟩) := (hF22 2).trans s20
  have s25 : F21 4 = .int .i64 (0) := (hF22 4).trans rfl
  clear hF22
  refine then_normal ?_
  refine wq_block ?_
  refine wq_loop (fun nn FF ww => ∃ (k : Nat), k ≤ 16 ∧ nn = 16 - k ∧ FF 1 = .pointer (some ⟨p1, 0, none⟩) ∧ FF 2 = .pointer (some ⟨p8, 0, none⟩) ∧ FF 4 = .int .i64 (((k : Nat) : Int)) ∧ Kept (fun _ => False) w0 ww ∧ Blk ww p1 27 (upto k b (clB 1048576 b)) ∧ Blk ww p8 27 (fun _ => 0)) (16 - (0)) ⟨0, by omega, rfl, s23, s24, s25, K16, B15.first, B10⟩ ?_
  rintro n29 F26 w27 ⟨k, i30, hn29, s31, s32, s33, K28, B34, B35⟩
  refine wq_seq ?_
  refine wq_region ?_
  refine wl_v (.bool (decide ((((k : Nat) : Int)) < (16)))) rfl rfl (y_lss rfl s33 rfl rfl ⟨rfl, rfl⟩) ?_
  refine wl_nil fun F36 hF37 => ?_
  have s38 : F36 1 = .pointer (some ⟨p1, 0, none⟩) := (hF37 1).trans s31
  have s39 : F36 2 = .pointer (some ⟨p8, 0, none⟩) := (hF37 2).trans s32
  have s40 : F36 4 = .int .i64 (((k : Nat) : Int)) := (hF37 4).trans s33
  have s41 : F36 5 = .bool (decide ((((k : Nat) : Int)) < (16))) := (hF37 5).trans rfl
  clear hF37
  refine then_normal ?_
  refine wq_seq ?_
  refine wq_cond s41 (fun c42 => ?_) (fun c42 => ?_)
  · replace c42 := of_decide_eq_true c42
    refine wq_skip ?_
    refine then_normal ?_
    refine wq_seq ?_
    refine wq_block ?_
    refine wq_seq ?_
    refine wq_region ?_
    refine wl_v (.int .i64 (((k : Nat) : Int))) rfl rfl (y_mov rfl s40 ⟨rfl, rfl⟩) ?_
    refine wl_v (.int .i64 (((k : Nat) : Int))) rfl rfl (y_asg rfl rfl ⟨rfl, rfl⟩) ?_
    refine wl_nil fun F43 hF44 => ?_
    have s45 : F43 1 = .pointer (some ⟨p1, 0, none⟩) := (hF44 1).trans s38
    have s46 : F43 2 = .pointer (some ⟨p8, 0, none⟩) := (hF44 2).trans s39
    have s47 : F43 4 = .int .i64 (((k : Nat) : Int)) := (hF44 4).trans s40
    have s48 : F43 3 = .int .i64 (((k : Nat) : Int)) := (hF44 3).trans rfl
    clear hF44
    refine then_normal ?_
    refine wq_region ?_
    refine wl_v (.int .i64 (((k : Nat) : Int))) rfl rfl (y_mov rfl s48 ⟨rfl, rfl⟩) ?_
    refine wl_v (.int .i64 (((k : Nat) : Int))) rfl rfl (y_mov rfl s48 ⟨rfl, rfl⟩) ?_
    refine wl_v (.pointer (some ⟨p1, k, none⟩)) rfl rfl (y_atR (k) (s := 1) rfl s45 rfl (by omega) Tryd.underlying27 (by omega) (by kernel_rfl) (by omega) ⟨rfl, rfl⟩) ?_
    refine wl_v (.int .i64 ((upto k b (clB 1048576 b)) (k))) rfl rfl (y_ldR rfl rfl Tryd.underlying3 ((B34).cell (by omega)) ⟨rfl, rfl⟩) ?_
    refine wl_v (.int .i64 (min ((upto k b (clB 1048576 b)) (k)) (1048576))) rfl rfl (y_minR rfl rfl rfl rfl ⟨rfl, rfl⟩) ?_
    refine wl_v (.int .i64 (max (-1048576) (min ((upto k b (clB 1048576 b)) (k)) (1048576)))) rfl rfl (y_maxR rfl rfl rfl rfl ⟨rfl, rfl⟩) ?_
    refine wl_v (.pointer (some ⟨p1, k, none⟩)) rfl rfl (y_atR (k) (s := 1) rfl s45 rfl (by omega) Tryd.underlying27 (by omega) (by kernel_rfl) (by omega) ⟨rfl, rfl⟩) ?_
    refine wl_set_blk rfl rfl rfl rfl rfl B34 (by omega) (by kernel_rfl) fun w49 B50 k51 => ?_
    have B52 := B35.all k51 (Ne.symm ne13)
    have K53 := K28.trans k51 (fun _ hi e => absurd (e ▸ hi) (Nat.not_lt.2 lp6))
    refine wl_nil fun F54 hF55 => ?_
    have s56 : F54 1 = .pointer (some ⟨p1, 0, none⟩) := (hF55 1).trans s45
    have s57 : F54 2 = .pointer (some ⟨p8, 0, none⟩) := (hF55 2).trans s46
    have s58 : F54 4 = .int .i64 (((k : Nat) : Int)) := (hF55 4).trans s47
    clear hF55
    refine in_normal ?_
    refine then_normal ?_
    refine wq_region ?_
    refine wl_v (.int .i64 (((k + 1 : Nat) : Int))) rfl rfl (y_add rfl s58 rfl (i64_n (by omega) (by omega)) ⟨rfl, rfl⟩) ?_
    refine wl_v (.int .i64 (((k + 1 : Nat) : Int))) rfl rfl (y_mov rfl rfl ⟨rfl, rfl⟩) ?_
    refine wl_nil fun F59 hF60 => ?_
    have s61 : F59 1 = .pointer (some ⟨p1, 0, none⟩) := (hF60 1).trans s56
    have s62 : F59 2 = .pointer (some ⟨p8, 0, none⟩) := (hF60 2).trans s57
    have s63 : F59 4 = .int .i64 (((k + 1 : Nat) : Int)) := (hF60 4).trans rfl
    clear hF60
    exact then_normal ⟨(16 - (k + 1)), by omega, k + 1, by omega, rfl, s61, s62, s63, K53, (B50.next (by rw [upto_at]; rfl)), B52⟩
  · replace c42 := of_decide_eq_false c42
    refine wq_exit ?_
    refine then_exit ?_
    refine then_exit ?_
    have l64 : 16 = k := by omega
    subst l64
    have B65 : Blk w27 p1 27 (clB 1048576 b) := (B34.last)
    refine in_here ?_
    refine then_normal ?_
    refine wq_seq ?_
    refine wq_region ?_
    refine wl_v (blkV (clB 1048576 b)) rfl rfl (y_load_blk blkT_block rfl s38 B65 ⟨rfl, rfl⟩) ?_
    refine wl_store_blk blkT_block rfl rfl rfl s39 rfl B35 fun w66 B67 k68 => ?_
    have B69 := B65.all k68 ne13
    have K70 := K28.trans k68 (fun _ hi e => absurd (e ▸ hi) (Nat.not_lt.2 lp14))
    refine wl_nil fun F71 hF72 => ?_
    have s73 : F71 2 = .pointer (some ⟨p8, 0, none⟩) := (hF72 2).trans s39
    clear hF72
    refine then_normal ?_
    refine wq_ret ?_
    exact end_blk blkT_block rfl s73 B67 ⟨rfl, K70⟩

set_option maxHeartbeats 4000000 in
set_option maxRecDepth 100000 in
theorem turned_any (b : Nat → Int) (w0 : World) (hw : Waves w0) (hb : ∀ i, i < 16 → -1099511627776 ≤ b i ∧ b i ≤ 1099511627776) :
    Calls Tryd.prog 27 #[blkV (b)] w0 fun e w' => e = .returned (blkV (turn b)) ∧ Kept (fun _ => False) w0 w' := by
  refine calls_wq (args := [blkV (b)]) 40 Tryd.func27 rfl rfl (Nat.le_of_ble_eq_true rfl) ?_
  have K0 := Kept.refl (fun _ => False) w0
  refine wq_seq ?_
  refine wq_region ?_
  refine wl_box_blk rfl rfl rfl rfl fun p1 w2 e5 B3 k4 => ?_
  have lp6 : w0.heap.size ≤ p1 := by have h_ := K0.size; omega
  clear e5
  have K7 := K0.trans k4 (fun _ _ x => x)
  refine wl_alloc_blk rfl rfl rfl blkT_block.2.2 fun p8 w9 e12 B10 k11 => ?_
  have ne13 : p1 ≠ p8 := by have h_ := B3.lt; omega
  have lp14 : w0.heap.size ≤ p8 := by have h_ := K7.size; omega
  clear e12
  have B15 := B3.all k11 id
  have K16 := K7.trans k11 (fun _ _ x => x)
  refine wl_nil fun F17 hF18 => ?_
  have s19 : F17 1 = .pointer (some ⟨p1, 0, none⟩) := (hF18 1).trans rfl
  have s20 : F17 2 = .pointer (some ⟨p8, 0, none⟩) := (hF18 2).trans rfl
  clear hF18
  refine then_normal ?_
  refine wq_seq ?_
  refine wq_region ?_
  refine wl_alloc_blk rfl rfl rfl blkT_block.2.2 fun p21 w22 e25 B23 k24 => ?_
  have ne26 : p1 ≠ p21 := by have h_ := B15.lt; omega
  have ne27 : p8 ≠ p21 := by have h_ := B10.lt; omega
  have lp28 : w0.heap.size ≤ p21 := by have h_ := K16.size; omega
  clear e25
  have B29 := B15.all k24 id
  have B30 := B10.all k24 id
  have K31 := K16.trans k24 (fun _ _ x => x)
  refine wl_nil fun F32 hF33 => ?_
  have s34 : F32 1 = .pointer (some ⟨p1, 0, none⟩) := (hF33 1).trans s19
  have s35 : F32 2 = .pointer (some ⟨p8, 0, none⟩) := (hF33 2).trans s20
  have s36 : F32 3 = .pointer (some ⟨p21, 0, none⟩) := (hF33 3).trans rfl
  clear hF33
  refine then_normal ?_
  refine wq_seq ?_
  refine wq_seq ?_
  refine wq_region ?_
  refine wl_v (.int .i64 (0)) rfl rfl (y_mov rfl rfl ⟨rfl, rfl⟩) ?_
  refine wl_nil fun F37 hF38 => ?_
  have s39 : F37 1 = .pointer (some ⟨p1, 0, none⟩) := (hF38 1).trans s34
  have s40 : F37 2 = .pointer (some ⟨p8, 0, none⟩) := (hF38 2).trans s35
  have s41 : F37 3 = .pointer (some ⟨p21, 0, none⟩) := (hF38 3).trans s36
  have s42 : F37 7 = .int .i64 (0) := (hF38 7).trans rfl
  clear hF38
  refine then_normal ?_
  refine wq_block ?_
  refine wq_loop (fun nn FF ww => ∃ (r : Nat), r ≤ 4 ∧ nn = 4 - r ∧ FF 1 = .pointer (some ⟨p1, 0, none⟩) ∧ FF 2 = .pointer (some ⟨p8, 0, none⟩) ∧ FF 3 = .pointer (some ⟨p21, 0, none⟩) ∧ FF 7 = .int .i64 (((r : Nat) : Int)) ∧ Kept (fun _ => False) w0 ww ∧ Blk ww p1 27 (b) ∧ Blk ww p8 27 (fun _ => 0) ∧ Blk ww p21 27 (turnP b r 0 0)) (4 - (0)) ⟨0, by omega, rfl, s39, s40, s41, s42, K31, B29, B30, (by rw [turnP_start]; exact B23)⟩ ?_
  rintro n46 F43 w44 ⟨r, i47, hn46, s48, s49, s50, s51, K45, B52, B53, B54⟩
  refine wq_seq ?_
  refine wq_region ?_
  refine wl_v (.bool (decide ((((r : Nat) : Int)) < (4)))) rfl rfl (y_lss rfl s51 rfl rfl ⟨rfl, rfl⟩) ?_
  refine wl_nil fun F55 hF56 => ?_
  have s57 : F55 1 = .pointer (some ⟨p1, 0, none⟩) := (hF56 1).trans s48
  have s58 : F55 2 = .pointer (some ⟨p8, 0, none⟩) := (hF56 2).trans s49
  have s59 : F55 3 = .pointer (some ⟨p21, 0, none⟩) := (hF56 3).trans s50
  have s60 : F55 7 = .int .i64 (((r : Nat) : Int)) := (hF56 7).trans s51
  have s61 : F55 8 = .bool (decide ((((r : Nat) : Int)) < (4))) := (hF56 8).trans rfl
  clear hF56
  refine then_normal ?_
  refine wq_seq ?_
  refine wq_cond s61 (fun c62 => ?_) (fun c62 => ?_)
  · replace c62 := of_decide_eq_true c62
    refine wq_skip ?_
    refine then_normal ?_
    refine wq_seq ?_
    refine wq_block ?_
    refine wq_seq ?_
    refine wq_region ?_
    refine wl_v (.int .i64 (((r : Nat) : Int))) rfl rfl (y_mov rfl s60 ⟨rfl, rfl⟩) ?_
    refine wl_v (.int .i64 (((r : Nat) : Int))) rfl rfl (y_asg rfl rfl ⟨rfl, rfl⟩) ?_
    refine wl_nil fun F63 hF64 => ?_
    have s65 : F63 1 = .pointer (some ⟨p1, 0, none⟩) := (hF64 1).trans s57
    have s66 : F63 2 = .pointer (some ⟨p8, 0, none⟩) := (hF64 2).trans s58
    have s67 : F63 3 = .pointer (some ⟨p21, 0, none⟩) := (hF64 3).trans s59
    have s68 : F63 7 = .int .i64 (((r : Nat) : Int)) := (hF64 7).trans s60
    have s69 : F63 4 = .int .i64 (((r : Nat) : Int)) := (hF64 4).trans rfl
    clear hF64
    refine then_normal ?_
    refine wq_seq ?_
    refine wq_region ?_
    refine wl_v (.int .i64 (0)) rfl rfl (y_mov rfl rfl ⟨rfl, rfl⟩) ?_
    refine wl_nil fun F70 hF71 => ?_
    have s72 : F70 1 = .pointer (some ⟨p1, 0, none⟩) := (hF71 1).trans s65
    have s73 : F70 2 = .pointer (some ⟨p8, 0, none⟩) := (hF71 2).trans s66
    have s74 : F70 3 = .pointer (some ⟨p21, 0, none⟩) := (hF71 3).trans s67
    have s75 : F70 7 = .int .i64 (((r : Nat) : Int)) := (hF71 7).trans s68
    have s76 : F70 4 = .int .i64 (((r : Nat) : Int)) := (hF71 4).trans s69
    have s77 : F70 10 = .int .i64 (0) := (hF71 10).trans rfl
    clear hF71
    refine then_normal ?_
    refine wq_block ?_
    refine wq_loop (fun nn FF ww => ∃ (u : Nat), u ≤ 4 ∧ nn = 4 - u ∧ FF 1 = .pointer (some ⟨p1, 0, none⟩) ∧ FF 2 = .pointer (some ⟨p8, 0, none⟩) ∧ FF 3 = .pointer (some ⟨p21, 0, none⟩) ∧ FF 4 = .int .i64 (((r : Nat) : Int)) ∧ FF 7 = .int .i64 (((r : Nat) : Int)) ∧ FF 10 = .int .i64 (((u : Nat) : Int)) ∧ Kept (fun _ => False) w0 ww ∧ Blk ww p1 27 (b) ∧ Blk ww p8 27 (fun _ => 0) ∧ Blk ww p21 27 (turnP b r u 0)) (4 - (0)) ⟨0, by omega, rfl, s72, s73, s74, s76, s75, s77, K45, B52, B53, B54⟩ ?_
    rintro n81 F78 w79 ⟨u, i82, hn81, s83, s84, s85, s86, s87, s88, K80, B89, B90, B91⟩
    refine wq_seq ?_
    refine wq_region ?_
    refine wl_v (.bool (decide ((((u : Nat) : Int)) < (4)))) rfl rfl (y_lss rfl s88 rfl rfl ⟨rfl, rfl⟩) ?_
    refine wl_nil fun F92 hF93 => ?_
    have s94 : F92 1 = .pointer (some ⟨p1, 0, none⟩) := (hF93 1).trans s83
    have s95 : F92 2 = .pointer (some ⟨p8, 0, none⟩) := (hF93 2).trans s84
    have s96 : F92 3 = .pointer (some ⟨p21, 0, none⟩) := (hF93 3).trans s85
    have s97 : F92 4 = .int .i64 (((r : Nat) : Int)) := (hF93 4).trans s86
    have s98 : F92 7 = .int .i64 (((r : Nat) : Int)) := (hF93 7).trans s87
    have s99 : F92 10 = .int .i64 (((u : Nat) : Int)) := (hF93 10).trans s88
    have s100 : F92 11 = .bool (decide ((((u : Nat) : Int)) < (4))) := (hF93 11).trans rfl
    clear hF93
    refine then_normal ?_
    refine wq_seq ?_
    refine wq_cond s100 (fun c101 => ?_) (fun c101 => ?_)
    · replace c101 := of_decide_eq_true c101
      refine wq_skip ?_
      refine then_normal ?_
      refine wq_seq ?_
      refine wq_block ?_
      refine wq_seq ?_
      refine wq_region ?_
      refine wl_v (.int .i64 (((u : Nat) : Int))) rfl rfl (y_mov rfl s99 ⟨rfl, rfl⟩) ?_
      refine wl_v (.int .i64 (((u : Nat) : Int))) rfl rfl (y_asg rfl rfl ⟨rfl, rfl⟩) ?_
      refine wl_nil fun F102 hF103 => ?_
      have s104 : F102 1 = .pointer (some ⟨p1, 0, none⟩) := (hF103 1).trans s94
      have s105 : F102 2 = .pointer (some ⟨p8, 0, none⟩) := (hF103 2).trans s95
      have s106 : F102 3 = .pointer (some ⟨p21, 0, none⟩) := (hF103 3).trans s96
      have s107 : F102 4 = .int .i64 (((r : Nat) : Int)) := (hF103 4).trans s97
      have s108 : F102 7 = .int .i64 (((r : Nat) : Int)) := (hF103 7).trans s98
      have s109 : F102 10 = .int .i64 (((u : Nat) : Int)) := (hF103 10).trans s99
      have s110 : F102 5 = .int .i64 (((u : Nat) : Int)) := (hF103 5).trans rfl
      clear hF103
      refine then_normal ?_
      refine wq_seq ?_
      refine wq_region ?_
      refine wl_v (.int .i64 (0)) rfl rfl (y_mov rfl rfl ⟨rfl, rfl⟩) ?_
      refine wl_nil fun F111 hF112 => ?_
      have s113 : F111 1 = .pointer (some ⟨p1, 0, none⟩) := (hF112 1).trans s104
      have s114 : F111 2 = .pointer (some ⟨p8, 0, none⟩) := (hF112 2).trans s105
      have s115 : F111 3 = .pointer (some ⟨p21, 0, none⟩) := (hF112 3).trans s106
      have s116 : F111 4 = .int .i64 (((r : Nat) : Int)) := (hF112 4).trans s107
      have s117 : F111 7 = .int .i64 (((r : Nat) : Int)) := (hF112 7).trans s108
      have s118 : F111 10 = .int .i64 (((u : Nat) : Int)) := (hF112 10).trans s109
      have s119 : F111 5 = .int .i64 (((u : Nat) : Int)) := (hF112 5).trans s110
      have s120 : F111 13 = .int .i64 (0) := (hF112 13).trans rfl
      clear hF112
      refine then_normal ?_
      refine wq_block ?_
      refine wq_loop (fun nn FF ww => ∃ (c : Nat), c ≤ 4 ∧ nn = 4 - c ∧ FF 1 = .pointer (some ⟨p1, 0, none⟩) ∧ FF 2 = .pointer (some ⟨p8, 0, none⟩) ∧ FF 3 = .pointer (some ⟨p21, 0, none⟩) ∧ FF 4 = .int .i64 (((r : Nat) : Int)) ∧ FF 5 = .int .i64 (((u : Nat) : Int)) ∧ FF 7 = .int .i64 (((r : Nat) : Int)) ∧ FF 10 = .int .i64 (((u : Nat) : Int)) ∧ FF 13 = .int .i64 (((c : Nat) : Int)) ∧ Kept (fun _ => False) w0 ww ∧ Blk ww p1 27 (b) ∧ Blk ww p8 27 (fun _ => 0) ∧ Blk ww p21 27 (turnP b r u c)) (4 - (0)) ⟨0, by omega, rfl, s113, s114, s115, s116, s119, s117, s118, s120, K80, B89, B90, B91⟩ ?_
      rintro n124 F121 w122 ⟨c, i125, hn124, s126, s127, s128, s129, s130, s131, s132, s133, K123, B134, B135, B136⟩
      refine wq_seq ?_
      refine wq_region ?_
      refine wl_v (.bool (decide ((((c : Nat) : Int)) < (4)))) rfl rfl (y_lss rfl s133 rfl rfl ⟨rfl, rfl⟩) ?_
      refine wl_nil fun F137 hF138 => ?_
      have s139 : F137 1 = .pointer (some ⟨p1, 0, none⟩) := (hF138 1).trans s126
      have s140 : F137 2 = .pointer (some ⟨p8, 0, none⟩) := (hF138 2).trans s127
      have s141 : F137 3 = .pointer (some ⟨p21, 0, none⟩) := (hF138 3).trans s128
      have s142 : F137 4 = .int .i64 (((r : Nat) : Int)) := (hF138 4).trans s129
      have s143 : F137 5 = .int .i64 (((u : Nat) : Int)) := (hF138 5).trans s130
      have s144 : F137 7 = .int .i64 (((r : Nat) : Int)) := (hF138 7).trans s131
      have s145 : F137 10 = .int .i64 (((u : Nat) : Int)) := (hF138 10).trans s132
      have s146 : F137 13 = .int .i64 (((c : Nat) : Int)) := (hF138 13).trans s133
      have s147 : F137 14 = .bool (decide ((((c : Nat) : Int)) < (4))) := (hF138 14).trans rfl
      clear hF138
      refine then_normal ?_
      refine wq_seq ?_
      refine wq_cond s147 (fun c148 => ?_) (fun c148 => ?_)
      · replace c148 := of_decide_eq_true c148
        refine wq_skip ?_
        refine then_normal ?_
        refine wq_seq ?_
        refine wq_block ?_
        refine wq_seq ?_
        refine wq_region ?_
        refine wl_v (.int .i64 (((c : Nat) : Int))) rfl rfl (y_mov rfl s146 ⟨rfl, rfl⟩) ?_
        refine wl_v (.int .i64 (((c : Nat) : Int))) rfl rfl (y_asg rfl rfl ⟨rfl, rfl⟩) ?_
        refine wl_nil fun F149 hF150 => ?_
        have s151 : F149 1 = .pointer (some ⟨p1, 0, none⟩) := (hF150 1).trans s139
        have s152 : F149 2 = .pointer (some ⟨p8, 0, none⟩) := (hF150 2).trans s140
        have s153 : F149 3 = .pointer (some ⟨p21, 0, none⟩) := (hF150 3).trans s141
        have s154 : F149 4 = .int .i64 (((r : Nat) : Int)) := (hF150 4).trans s142
        have s155 : F149 5 = .int .i64 (((u : Nat) : Int)) := (hF150 5).trans s143
        have s156 : F149 7 = .int .i64 (((r : Nat) : Int)) := (hF150 7).trans s144
        have s157 : F149 10 = .int .i64 (((u : Nat) : Int)) := (hF150 10).trans s145
        have s158 : F149 13 = .int .i64 (((c : Nat) : Int)) := (hF150 13).trans s146
        have s159 : F149 6 = .int .i64 (((c : Nat) : Int)) := (hF150 6).trans rfl
        clear hF150
        refine then_normal ?_
        have hbb := hb (r * 4 + c) (by omega)
        have hmm := wv_mul _ 1099511627776 u c hbb.1 hbb.2
        have hps := ps_le b 1099511627776 hb r u c (by omega) (by omega)
        refine wq_tail 20 [some 16, some 17, some 18, some 19, some 20, some 21, some 22, some 23, some 24, some 25, some 26, some 27, some 28, some 29, some 30, some 31, some 32, some 33, some 34, some 35] [Pd.eq (.int .i64 (((u : Nat) : Int))), Pd.eq (.int .i64 (((u * 4 : Nat) : Int))), Pd.eq (.int .i64 (((r : Nat) : Int))), Pd.eq (.int .i64 ((((u * 4) + r : Nat) : Int))), Pd.eq (.pointer (some ⟨p21, (u * 4) + r, none⟩)), Pd.eq (.int .i64 (ps b r u c)), Pd.eq (.int .i64 (((r : Nat) : Int))), Pd.eq (.int .i64 (((r * 4 : Nat) : Int))), Pd.eq (.int .i64 (((c : Nat) : Int))), Pd.eq (.int .i64 ((((r * 4) + c : Nat) : Int))), Pd.eq (.pointer (some ⟨p1, (r * 4) + c, none⟩)), Pd.eq (.int .i64 ((b) ((r * 4) + c))), Pd.eq (.int .i64 (((u : Nat) : Int))), Pd.eq (.int .i64 (((c : Nat) : Int))), Pd.eq (.pointer (some ⟨1, 0 + (u) * 4, none⟩)), Pd.eq (.pointer (some ⟨1, 0 + (u) * 4 + (c), none⟩)), Pd.eq (.int .i64 (wv u c)), Pd.eq (.int .i64 (((b) ((r * 4) + c)) * (wv u c))), Pd.eq (.int .i64 (ps b r u (c + 1))), Pd.eq (.pointer (some ⟨p21, (u * 4) + r, none⟩))] (by kernel_rfl) (by kernel_rfl) (by kernel_rfl) ?_ ?_
        · refine stepsF_cons ?_ ?_
          · refine StepF.one rfl fun F_ w_ hR hout hD => ?_
            exact (y_mov rfl ((hout 5 (by decide)).trans s155) ⟨rfl, Kept.refl _ _⟩)
          refine stepsF_cons ?_ ?_
          · refine StepF.one rfl fun F_ w_ hR hout hD => ?_
            have g16 : F_ 16 = .int .i64 (((u : Nat) : Int)) := hD.get 0 rfl rfl rfl
            exact (y_mul rfl g16 rfl (i64_n (by omega) (by omega)) ⟨rfl, Kept.refl _ _⟩)
          refine stepsF_cons ?_ ?_
          · refine StepF.one rfl fun F_ w_ hR hout hD => ?_
            exact (y_mov rfl ((hout 4 (by decide)).trans s154) ⟨rfl, Kept.refl _ _⟩)
          refine stepsF_cons ?_ ?_
          · refine StepF.one rfl fun F_ w_ hR hout hD => ?_
            have g17 : F_ 17 = .int .i64 (((u * 4 : Nat) : Int)) := hD.get 0 rfl rfl rfl
            have g18 : F_ 18 = .int .i64 (((r : Nat) : Int)) := hD.get 1 rfl rfl rfl
            exact (y_add rfl g17 g18 (i64_n (by omega) (by omega)) ⟨rfl, Kept.refl _ _⟩)
          refine stepsF_cons ?_ ?_
          · refine StepF.one rfl fun F_ w_ hR hout hD => ?_
            have g19 : F_ 19 = .int .i64 ((((u * 4) + r : Nat) : Int)) := hD.get 0 rfl rfl rfl
            exact (y_atR ((u * 4) + r) (s := 1) rfl ((hout 3 (by decide)).trans s153) g19 (by omega) Tryd.underlying27 (by omega) (by kernel_rfl) (by omega) ⟨rfl, Kept.refl _ _⟩)
          refine stepsF_cons ?_ ?_
          · refine StepF.one rfl fun F_ w_ hR hout hD => ?_
            have g20 : F_ 20 = .pointer (some ⟨p21, (u * 4) + r, none⟩) := hD.get 0 rfl rfl rfl
            exact (y_ldR rfl g20 Tryd.underlying3 ((((B136.all hR id)).cell (by omega)).trans (some_int (turnP_here b r u c (by omega)))) ⟨rfl, Kept.refl _ _⟩)
          refine stepsF_cons ?_ ?_
          · refine StepF.one rfl fun F_ w_ hR hout hD => ?_
            exact (y_mov rfl ((hout 4 (by decide)).trans s154) ⟨rfl, Kept.refl _ _⟩)
          refine stepsF_cons ?_ ?_
          · refine StepF.one rfl fun F_ w_ hR hout hD => ?_
            have g22 : F_ 22 = .int .i64 (((r : Nat) : Int)) := hD.get 0 rfl rfl rfl
            exact (y_mul rfl g22 rfl (i64_n (by omega) (by omega)) ⟨rfl, Kept.refl _ _⟩)
          refine stepsF_cons ?_ ?_
          · refine StepF.one rfl fun F_ w_ hR hout hD => ?_
            exact (y_mov rfl ((hout 6 (by decide)).trans s159) ⟨rfl, Kept.refl _ _⟩)
          refine stepsF_cons ?_ ?_
          · refine StepF.one rfl fun F_ w_ hR hout hD => ?_
            have g23 : F_ 23 = .int .i64 (((r * 4 : Nat) : Int)) := hD.get 0 rfl rfl rfl
            have g24 : F_ 24 = .int .i64 (((c : Nat) : Int)) := hD.get 1 rfl rfl rfl
            exact (y_add rfl g23 g24 (i64_n (by omega) (by omega)) ⟨rfl, Kept.refl _ _⟩)
          refine stepsF_cons ?_ ?_
          · refine StepF.one rfl fun F_ w_ hR hout hD => ?_
            have g25 : F_ 25 = .int .i64 ((((r * 4) + c : Nat) : Int)) := hD.get 0 rfl rfl rfl
            exact (y_atR ((r * 4) + c) (s := 1) rfl ((hout 1 (by decide)).trans s151) g25 (by omega) Tryd.underlying27 (by omega) (by kernel_rfl) (by omega) ⟨rfl, Kept.refl _ _⟩)
          refine stepsF_cons ?_ ?_
          · refine StepF.one rfl fun F_ w_ hR hout hD => ?_
            have g26 : F_ 26 = .pointer (some ⟨p1, (r * 4) + c, none⟩) := hD.get 0 rfl rfl rfl
            exact (y_ldR rfl g26 Tryd.underlying3 (((B134.all hR id)).cell (by omega)) ⟨rfl, Kept.refl _ _⟩)
          refine stepsF_cons ?_ ?_
          · refine StepF.one rfl fun F_ w_ hR hout hD => ?_
            exact (y_mov rfl ((hout 5 (by decide)).trans s155) ⟨rfl, Kept.refl _ _⟩)
          refine stepsF_cons ?_ ?_
          · refine StepF.one rfl fun F_ w_ hR hout hD => ?_
            exact (y_mov rfl ((hout 6 (by decide)).trans s159) ⟨rfl, Kept.refl _ _⟩)
          refine stepsF_cons ?_ ?_
          · refine StepF.one rfl fun F_ w_ hR hout hD => ?_
            have g28 : F_ 28 = .int .i64 (((u : Nat) : Int)) := hD.get 0 rfl rfl rfl
            exact (y_atR (u) (s := 4) rfl rfl g28 (by omega) Tryd.underlying46 (by omega) (by kernel_rfl) (by omega) ⟨rfl, Kept.refl _ _⟩)
          refine stepsF_cons ?_ ?_
          · refine StepF.one rfl fun F_ w_ hR hout hD => ?_
            have g30 : F_ 30 = .pointer (some ⟨1, 0 + (u) * 4, none⟩) := hD.get 0 rfl rfl rfl
            have g29 : F_ 29 = .int .i64 (((c : Nat) : Int)) := hD.get 1 rfl rfl rfl
            exact (y_atR (c) (s := 1) rfl g30 g29 (by omega) Tryd.underlying45 (by omega) (by kernel_rfl) (by omega) ⟨rfl, Kept.refl _ _⟩)
          refine stepsF_cons ?_ ?_
          · refine StepF.one rfl fun F_ w_ hR hout hD => ?_
            have g31 : F_ 31 = .pointer (some ⟨1, 0 + (u) * 4 + (c), none⟩) := hD.get 0 rfl rfl rfl
            exact (y_ldR rfl g31 Tryd.underlying3 (((hw.all (K123.trans hR (fun _ _ x => x))).at u c (by omega) (by omega))) ⟨rfl, Kept.refl _ _⟩)
          refine stepsF_cons ?_ ?_
          · refine StepF.one rfl fun F_ w_ hR hout hD => ?_
            have g27 : F_ 27 = .int .i64 ((b) ((r * 4) + c)) := hD.get 0 rfl rfl rfl
            have g32 : F_ 32 = .int .i64 (wv u c) := hD.get 1 rfl rfl rfl
            exact (y_mul rfl g27 g32 (i64_i rfl (by omega)) ⟨rfl, Kept.refl _ _⟩)
          refine stepsF_cons ?_ ?_
          · refine StepF.one rfl fun F_ w_ hR hout hD => ?_
            have g21 : F_ 21 = .int .i64 (ps b r u c) := hD.get 0 rfl rfl rfl
            have g33 : F_ 33 = .int .i64 (((b) ((r * 4) + c)) * (wv u c)) := hD.get 1 rfl rfl rfl
            exact (y_add rfl g21 g33 (i64_i rfl (by have e : ps b r u (c + 1) = ps b r u c + b (r * 4 + c) * wv u c := rfl; omega)) ⟨rfl, Kept.refl _ _⟩)
          refine stepsF_cons ?_ ?_
          · refine StepF.one rfl fun F_ w_ hR hout hD => ?_
            have g19 : F_ 19 = .int .i64 ((((u * 4) + r : Nat) : Int)) := hD.get 0 rfl rfl rfl
            exact (y_atR ((u * 4) + r) (s := 1) rfl ((hout 3 (by decide)).trans s153) g19 (by omega) Tryd.underlying27 (by omega) (by kernel_rfl) (by omega) ⟨rfl, Kept.refl _ _⟩)
          exact stepsF_nil
        intro v160 F161 w162 k163 G164 hF165
        have B166 := B134.all k163 id
        have B167 := B135.all k163 id
        have B168 := B136.all k163 id
        have K169 := K123.trans k163 (fun _ _ x => x)
        have s170 : F161 1 = .pointer (some ⟨p1, 0, none⟩) := (hF165 1).trans s151
        have s171 : F161 2 = .pointer (some ⟨p8, 0, none⟩) := (hF165 2).trans s152
        have s172 : F161 3 = .pointer (some ⟨p21, 0, none⟩) := (hF165 3).trans s153
        have s173 : F161 4 = .int .i64 (((r : Nat) : Int)) := (hF165 4).trans s154
        have s174 : F161 5 = .int .i64 (((u : Nat) : Int)) := (hF165 5).trans s155
        have s175 : F161 7 = .int .i64 (((r : Nat) : Int)) := (hF165 7).trans s156
        have s176 : F161 10 = .int .i64 (((u : Nat) : Int)) := (hF165 10).trans s157
        have s177 : F161 13 = .int .i64 (((c : Nat) : Int)) := (hF165 13).trans s158
        have s178 : F161 34 = .int .i64 (ps b r u (c + 1)) := (hF165 34).trans (G164 18 (by decide))
        have s179 : F161 35 = .pointer (some ⟨p21, (u * 4) + r, none⟩) := (hF165 35).trans (G164 19 (by decide))
        clear G164 hF165
        refine wl_set_blk rfl rfl rfl s179 s178 B168 (by omega) (by kernel_rfl) fun w180 B181 k182 => ?_
        have B183 := B166.all k182 ne26
        have B184 := B167.all k182 ne27
        have K185 := K169.trans k182 (fun _ hi e => absurd (e ▸ hi) (Nat.not_lt.2 lp28))
        refine wl_nil fun F186 hF187 => ?_
        have s188 : F186 1 = .pointer (some ⟨p1, 0, none⟩) := (hF187 1).trans s170
        have s189 : F186 2 = .pointer (some ⟨p8, 0, none⟩) := (hF187 2).trans s171
        have s190 : F186 3 = .pointer (some ⟨p21, 0, none⟩) := (hF187 3).trans s172
        have s191 : F186 4 = .int .i64 (((r : Nat) : Int)) := (hF187 4).trans s173
        have s192 : F186 5 = .int .i64 (((u : Nat) : Int)) := (hF187 5).trans s174
        have s193 : F186 7 = .int .i64 (((r : Nat) : Int)) := (hF187 7).trans s175
        have s194 : F186 10 = .int .i64 (((u : Nat) : Int)) := (hF187 10).trans s176
        have s195 : F186 13 = .int .i64 (((c : Nat) : Int)) := (hF187 13).trans s177
        clear hF187
        refine in_normal ?_
        refine then_normal ?_
        refine wq_region ?_
        refine wl_v (.int .i64 (((c + 1 : Nat) : Int))) rfl rfl (y_add rfl s195 rfl (i64_n (by omega) (by omega)) ⟨rfl, rfl⟩) ?_
        refine wl_v (.int .i64 (((c + 1 : Nat) : Int))) rfl rfl (y_mov rfl rfl ⟨rfl, rfl⟩) ?_
        refine wl_nil fun F196 hF197 => ?_
        have s198 : F196 1 = .pointer (some ⟨p1, 0, none⟩) := (hF197 1).trans s188
        have s199 : F196 2 = .pointer (some ⟨p8, 0, none⟩) := (hF197 2).trans s189
        have s200 : F196 3 = .pointer (some ⟨p21, 0, none⟩) := (hF197 3).trans s190
        have s201 : F196 4 = .int .i64 (((r : Nat) : Int)) := (hF197 4).trans s191
        have s202 : F196 5 = .int .i64 (((u : Nat) : Int)) := (hF197 5).trans s192
        have s203 : F196 7 = .int .i64 (((r : Nat) : Int)) := (hF197 7).trans s193
        have s204 : F196 10 = .int .i64 (((u : Nat) : Int)) := (hF197 10).trans s194
        have s205 : F196 13 = .int .i64 (((c + 1 : Nat) : Int)) := (hF197 13).trans rfl
        clear hF197
        exact then_normal ⟨(4 - (c + 1)), by omega, c + 1, by omega, rfl, s198, s199, s200, s201, s202, s203, s204, s205, K185, B183, B184, (by rw [← turnP_set b r u c (by omega)]; exact B181)⟩
      · replace c148 := of_decide_eq_false c148
        refine wq_exit ?_
        refine then_exit ?_
        refine then_exit ?_
        have l206 : 4 = c := by omega
        subst l206
        refine in_here ?_
        refine in_normal ?_
        refine then_normal ?_
        refine wq_region ?_
        refine wl_v (.int .i64 (((u + 1 : Nat) : Int))) rfl rfl (y_add rfl s145 rfl (i64_n (by omega) (by omega)) ⟨rfl, rfl⟩) ?_
        refine wl_v (.int .i64 (((u + 1 : Nat) : Int))) rfl rfl (y_mov rfl rfl ⟨rfl, rfl⟩) ?_
        refine wl_nil fun F207 hF208 => ?_
        have s209 : F207 1 = .pointer (some ⟨p1, 0, none⟩) := (hF208 1).trans s139
        have s210 : F207 2 = .pointer (some ⟨p8, 0, none⟩) := (hF208 2).trans s140
        have s211 : F207 3 = .pointer (some ⟨p21, 0, none⟩) := (hF208 3).trans s141
        have s212 : F207 4 = .int .i64 (((r : Nat) : Int)) := (hF208 4).trans s142
        have s213 : F207 7 = .int .i64 (((r : Nat) : Int)) := (hF208 7).trans s144
        have s214 : F207 10 = .int .i64 (((u + 1 : Nat) : Int)) := (hF208 10).trans rfl
        clear hF208
        exact then_normal ⟨(4 - (u + 1)), by omega, u + 1, by omega, rfl, s209, s210, s211, s212, s213, s214, K123, B134, B135, (by rw [← turnP_row b r u (by omega)]; exact B136)⟩
    · replace c101 := of_decide_eq_false c101
      refine wq_exit ?_
      refine then_exit ?_
      refine then_exit ?_
      have l215 : 4 = u := by omega
      subst l215
      refine in_here ?_
      refine in_normal ?_
      refine then_normal ?_
      refine wq_region ?_
      refine wl_v (.int .i64 (((r + 1 : Nat) : Int))) rfl rfl (y_add rfl s98 rfl (i64_n (by omega) (by omega)) ⟨rfl, rfl⟩) ?_
      refine wl_v (.int .i64 (((r + 1 : Nat) : Int))) rfl rfl (y_mov rfl rfl ⟨rfl, rfl⟩) ?_
      refine wl_nil fun F216 hF217 => ?_
      have s218 : F216 1 = .pointer (some ⟨p1, 0, none⟩) := (hF217 1).trans s94
      have s219 : F216 2 = .pointer (some ⟨p8, 0, none⟩) := (hF217 2).trans s95
      have s220 : F216 3 = .pointer (some ⟨p21, 0, none⟩) := (hF217 3).trans s96
      have s221 : F216 7 = .int .i64 (((r + 1 : Nat) : Int)) := (hF217 7).trans rfl
      clear hF217
      exact then_normal ⟨(4 - (r + 1)), by omega, r + 1, by omega, rfl, s218, s219, s220, s221, K80, B89, B90, (B91.congr (turnP_next b r))⟩
  · replace c62 := of_decide_eq_false c62
    refine wq_exit ?_
    refine then_exit ?_
    refine then_exit ?_
    have l222 : 4 = r := by omega
    subst l222
    have B223 : Blk w44 p21 27 (turn b) := ((B54.congr (fun i _ => turnP_end b i)))
    refine in_here ?_
    refine then_normal ?_
    refine wq_seq ?_
    refine wq_region ?_
    refine wl_v (blkV (turn b)) rfl rfl (y_load_blk blkT_block rfl s59 B223 ⟨rfl, rfl⟩) ?_
    refine wl_store_blk blkT_block rfl rfl rfl s58 rfl B53 fun w224 B225 k226 => ?_
    have B227 := B52.all k226 ne13
    have B228 := B223.all k226 (Ne.symm ne27)
    have K229 := K45.trans k226 (fun _ hi e => absurd (e ▸ hi) (Nat.not_lt.2 lp14))
    refine wl_nil fun F230 hF231 => ?_
    have s232 : F230 2 = .pointer (some ⟨p8, 0, none⟩) := (hF231 2).trans s58
    clear hF231
    refine then_normal ?_
    refine wq_ret ?_
    exact end_blk blkT_block rfl s232 B225 ⟨rfl, K229⟩

set_option maxHeartbeats 4000000 in
set_option maxRecDepth 100000 in
theorem sums_any (b : Nat → Int) (w0 : World) (hw : Waves w0) (hb : ∀ i, i < 16 → -1048576 ≤ b i ∧ b i ≤ 1048576) :
    Calls Tryd.prog 24 #[blkV (b)] w0 fun e w' => e = .returned (blkV (fwd b)) ∧ Kept (fun _ => False) w0 w' := by
  refine calls_wq (args := [blkV (b)]) 10 Tryd.func24 rfl rfl (Nat.le_of_ble_eq_true rfl) ?_
  have K0 := Kept.refl (fun _ => False) w0
  refine wq_seq ?_
  refine wq_region ?_
  refine wl_box_blk rfl rfl rfl rfl fun p1 w2 e5 B3 k4 => ?_
  have lp6 : w0.heap.size ≤ p1 := by have h_ := K0.size; omega
  clear e5
  have K7 := K0.trans k4 (fun _ _ x => x)
  refine wl_alloc_blk rfl rfl rfl blkT_block.2.2 fun p8 w9 e12 B10 k11 => ?_
  have ne13 : p1 ≠ p8 := by have h_ := B3.lt; omega
  have lp14 : w0.heap.size ≤ p8 := by have h_ := K7.size; omega
  clear e12
  have B15 := B3.all k11 id
  have K16 := K7.trans k11 (fun _ _ x => x)
  refine wl_nil fun F17 hF18 => ?_
  have s19 : F17 1 = .pointer (some ⟨p1, 0, none⟩) := (hF18 1).trans rfl
  have s20 : F17 2 = .pointer (some ⟨p8, 0, none⟩) := (hF18 2).trans rfl
  clear hF18
  refine then_normal ?_
  refine wq_seq ?_
  refine wq_seq ?_
  refine wq_region ?_
  refine wl_v (blkV (b)) rfl rfl (y_load_blk blkT_block rfl s19 B15 ⟨rfl, rfl⟩) ?_
  refine wl_v (blkV (fun _ => 0)) rfl rfl (y_buildR (cells := (arrL 16 (fun _ => 0)).toArray) rfl (by kernel_rfl) rfl ⟨rfl, rfl⟩) ?_
  refine wl_v (.bool (sameB (b) (fun _ => 0))) rfl rfl (y_sameR rfl rfl rfl rfl ⟨rfl, rfl⟩) ?_
  refine wl_nil fun F21 hF22 => ?_
  have s23 : F21 1 = .pointer (some ⟨p1, 0, none⟩) := (hF22 1).trans s19
  have s24 : F21 2 = .pointer (some ⟨p8, 0, none⟩) := (hF22 2).trans s20
  have s25 : F21 5 = .bool (sameB (b) (fun _ => 0)) := (hF22 5).trans rfl
  clear hF22
  refine then_normal ?_
  refine wq_cond s25 (fun c26 => ?_) (fun c26 => ?_)
  · skip
    refine wq_seq ?_
    refine wq_region ?_
    refine wl_v (blkV (b)) rfl rfl (y_load_blk blkT_block rfl s23 B15 ⟨rfl, rfl⟩) ?_
    refine wl_store_blk blkT_block rfl rfl rfl s24 rfl B10 fun w27 B28 k29 => ?_
    have B30 := B15.all k29 ne13
    have K31 := K16.trans k29 (fun _ hi e => absurd (e ▸ hi) (Nat.not_lt.2 lp14))
    refine wl_nil fun F32 hF33 => ?_
    have s34 : F32 2 = .pointer (some ⟨p8, 0, none⟩) := (hF33 2).trans s24
    clear hF33
    refine then_normal ?_
    refine wq_ret ?_
    refine then_ret ?_
    exact end_blk blkT_block rfl s34 B28 ⟨(by first | rfl | exact sums_zero ‹_›), K31⟩
  · skip
    refine wq_skip ?_
    refine then_normal ?_
    refine wq_seq ?_
    refine wq_region ?_
    refine wl_v (blkV (b)) rfl rfl (y_load_blk blkT_block rfl s23 B15 ⟨rfl, rfl⟩) ?_
    refine wl_call (R := fun v_ w_ => v_ = blkV (turn (b)) ∧ Kept (fun _ => False) w9 w_) rfl rfl (y_cs rfl rfl rfl (fun _ _ => by kernel_rfl) (ev_func _) (vsC rfl vsN) (turned_any b _ (hw.all K16) (fun i hi => by have h := hb i hi; omega)) (fun e_ w_ h_ => ⟨_, h_.1, rfl, h_.2⟩)) ?_
    rintro _ w35 ⟨rfl, k36⟩
    have B37 := B15.all k36 id
    have B38 := B10.all k36 id
    have K39 := K16.trans k36 (fun _ _ x => x)
    refine wl_call (R := fun v_ w_ => v_ = blkV (turn (turn (b))) ∧ Kept (fun _ => False) w35 w_) rfl rfl (y_cs rfl rfl rfl (fun _ _ => by kernel_rfl) (ev_func _) (vsC rfl vsN) (turned_any (turn b) _ (hw.all K39) (fun i _ => by have h := turn_le b 1048576 hb i; omega)) (fun e_ w_ h_ => ⟨_, h_.1, rfl, h_.2⟩)) ?_
    rintro _ w40 ⟨rfl, k41⟩
    have B42 := B37.all k41 id
    have B43 := B38.all k41 id
    have K44 := K39.trans k41 (fun _ _ x => x)
    refine wl_store_blk blkT_block rfl rfl rfl s24 rfl B43 fun w45 B46 k47 => ?_
    have B48 := B42.all k47 ne13
    have K49 := K44.trans k47 (fun _ hi e => absurd (e ▸ hi) (Nat.not_lt.2 lp14))
    refine wl_nil fun F50 hF51 => ?_
    have s52 : F50 2 = .pointer (some ⟨p8, 0, none⟩) := (hF51 2).trans s24
    clear hF51
    refine then_normal ?_
    refine wq_ret ?_
    exact end_blk blkT_block rfl s52 B46 ⟨(by first | rfl | exact sums_zero ‹_›), K49⟩

set_option maxHeartbeats 4000000 in
set_option maxRecDepth 100000 in
theorem forward_any (b : Nat → Int) (w0 : World) (hw : Waves w0) :
    Calls Tryd.prog 17 #[blkV (b)] w0 fun e w' => e = .returned (blkV (fwd (clB 1048576 b))) ∧ Kept (fun _ => False) w0 w' := by
  refine calls_wq (args := [blkV (b)]) 6 Tryd.func17 rfl rfl (Nat.le_of_ble_eq_true rfl) ?_
  have K0 := Kept.refl (fun _ => False) w0
  refine wq_seq ?_
  refine wq_region ?_
  refine wl_box_blk rfl rfl rfl rfl fun p1 w2 e5 B3 k4 => ?_
  have lp6 : w0.heap.size ≤ p1 := by have h_ := K0.size; omega
  clear e5
  have K7 := K0.trans k4 (fun _ _ x => x)
  refine wl_alloc_blk rfl rfl rfl blkT_block.2.2 fun p8 w9 e12 B10 k11 => ?_
  have ne13 : p1 ≠ p8 := by have h_ := B3.lt; omega
  have lp14 : w0.heap.size ≤ p8 := by have h_ := K7.size; omega
  clear e12
  have B15 := B3.all k11 id
  have K16 := K7.trans k11 (fun _ _ x => x)
  refine wl_nil fun F17 hF18 => ?_
  have s19 : F17 1 = .pointer (some ⟨p1, 0, none⟩) := (hF18 1).trans rfl
  have s20 : F17 2 = .pointer (some ⟨p8, 0, none⟩) := (hF18 2).trans rfl
  clear hF18
  refine then_normal ?_
  refine wq_seq ?_
  refine wq_region ?_
  refine wl_v (blkV (b)) rfl rfl (y_load_blk blkT_block rfl s19 B15 ⟨rfl, rfl⟩) ?_
  refine wl_call (R := fun v_ w_ => v_ = blkV (clB 1048576 (b)) ∧ Kept (fun _ => False) w9 w_) rfl rfl (y_cs rfl rfl rfl (fun _ _ => by kernel_rfl) (ev_func _) (vsC rfl vsN) (clamped_any (b) _ ) (fun e_ w_ h_ => ⟨_, h_.1, rfl, h_.2⟩)) ?_
  rintro _ w21 ⟨rfl, k22⟩
  have B23 := B15.all k22 id
  have B24 := B10.all k22 id
  have K25 := K16.trans k22 (fun _ _ x => x)
  refine wl_call (R := fun v_ w_ => v_ = blkV (fwd (clB 1048576 (b))) ∧ Kept (fun _ => False) w21 w_) rfl rfl (y_cs rfl rfl rfl (fun _ _ => by kernel_rfl) (ev_func _) (vsC rfl vsN) (sums_any (clB 1048576 b) _ (hw.all K25) (fun i _ => clB_le b i)) (fun e_ w_ h_ => ⟨_, h_.1, rfl, h_.2⟩)) ?_
  rintro _ w26 ⟨rfl, k27⟩
  have B28 := B23.all k27 id
  have B29 := B24.all k27 id
  have K30 := K25.trans k27 (fun _ _ x => x)
  refine wl_store_blk blkT_block rfl rfl rfl s20 rfl B29 fun w31 B32 k33 => ?_
  have B34 := B28.all k33 ne13
  have K35 := K30.trans k33 (fun _ hi e => absurd (e ▸ hi) (Nat.not_lt.2 lp14))
  refine wl_nil fun F36 hF37 => ?_
  have s38 : F36 2 = .pointer (some ⟨p8, 0, none⟩) := (hF37 2).trans s20
  clear hF37
  refine then_normal ?_
  refine wq_ret ?_
  exact end_blk blkT_block rfl s38 B32 ⟨rfl, K35⟩

set_option maxHeartbeats 4000000 in
set_option maxRecDepth 100000 in
theorem back_any (b : Nat → Int) (w0 : World) (hw : Waves w0) :
    Calls Tryd.prog 18 #[blkV (b)] w0 fun e w' => e = .returned (blkV (backB b)) ∧ Kept (fun _ => False) w0 w' := by
  refine calls_wq (args := [blkV (b)]) 19 Tryd.func18 rfl rfl (Nat.le_of_ble_eq_true rfl) ?_
  have K0 := Kept.refl (fun _ => False) w0
  refine wq_seq ?_
  refine wq_region ?_
  refine wl_box_blk rfl rfl rfl rfl fun p1 w2 e5 B3 k4 => ?_
  have lp6 : w0.heap.size ≤ p1 := by have h_ := K0.size; omega
  clear e5
  have K7 := K0.trans k4 (fun _ _ x => x)
  refine wl_alloc_blk rfl rfl rfl blkT_block.2.2 fun p8 w9 e12 B10 k11 => ?_
  have ne13 : p1 ≠ p8 := by have h_ := B3.lt; omega
  have lp14 : w0.heap.size ≤ p8 := by have h_ := K7.size; omega
  clear e12
  have B15 := B3.all k11 id
  have K16 := K7.trans k11 (fun _ _ x => x)
  refine wl_nil fun F17 hF18 => ?_
  have s19 : F17 1 = .pointer (some ⟨p1, 0, none⟩) := (hF18 1).trans rfl
  have s20 : F17 2 = .pointer (some ⟨p8, 0, none⟩) := (hF18 2).trans rfl
  clear hF18
  refine then_normal ?_
  refine wq_seq ?_
  refine wq_region ?_
  refine wl_v (blkV (b)) rfl rfl (y_load_blk blkT_block rfl s19 B15 ⟨rfl, rfl⟩) ?_
  refine wl_call (R := fun v_ w_ => v_ = blkV (clB 1048576 (b)) ∧ Kept (fun _ => False) w9 w_) rfl rfl (y_cs rfl rfl rfl (fun _ _ => by kernel_rfl) (ev_func _) (vsC rfl vsN) (clamped_any (b) _ ) (fun e_ w_ h_ => ⟨_, h_.1, rfl, h_.2⟩)) ?_
  rintro _ w21 ⟨rfl, k22⟩
  have B23 := B15.all k22 id
  have B24 := B10.all k22 id
  have K25 := K16.trans k22 (fun _ _ x => x)
  refine wl_call (R := fun v_ w_ => v_ = blkV (fwd (clB 1048576 (b))) ∧ Kept (fun _ => False) w21 w_) rfl rfl (y_cs rfl rfl rfl (fun _ _ => by kernel_rfl) (ev_func _) (vsC rfl vsN) (sums_any (clB 1048576 b) _ (hw.all K25) (fun i _ => clB_le b i)) (fun e_ w_ h_ => ⟨_, h_.1, rfl, h_.2⟩)) ?_
  rintro _ w26 ⟨rfl, k27⟩
  have B28 := B23.all k27 id
  have B29 := B24.all k27 id
  have K30 := K25.trans k27 (fun _ _ x => x)
  refine wl_store_blk blkT_block rfl rfl rfl s19 rfl B28 fun w31 B32 k33 => ?_
  have B34 := B29.all k33 (Ne.symm ne13)
  have K35 := K30.trans k33 (fun _ hi e => absurd (e ▸ hi) (Nat.not_lt.2 lp6))
  refine wl_nil fun F36 hF37 => ?_
  have s38 : F36 1 = .pointer (some ⟨p1, 0, none⟩) := (hF37 1).trans s19
  have s39 : F36 2 = .pointer (some ⟨p8, 0, none⟩) := (hF37 2).trans s20
  clear hF37
  refine then_normal ?_
  refine wq_seq ?_
  refine wq_seq ?_
  refine wq_region ?_
  refine wl_v (.int .i64 (0)) rfl rfl (y_mov rfl rfl ⟨rfl, rfl⟩) ?_
  refine wl_nil fun F40 hF41 => ?_
  have s42 : F40 1 = .pointer (some ⟨p1, 0, none⟩) := (hF41 1).trans s38
  have s43 : F40 2 = .pointer (some ⟨p8, 0, none⟩) := (hF41 2).trans s39
  have s44 : F40 7 = .int .i64 (0) := (hF41 7).trans rfl
  clear hF41
  refine then_normal ?_
  refine wq_block ?_
  refine wq_loop (fun nn FF ww => ∃ (k : Nat), k ≤ 16 ∧ nn = 16 - k ∧ FF 1 = .pointer (some ⟨p1, 0, none⟩) ∧ FF 2 = .pointer (some ⟨p8, 0, none⟩) ∧ FF 7 = .int .i64 (((k : Nat) : Int)) ∧ Kept (fun _ => False) w0 ww ∧ Blk ww p1 27 (upto k (fwd (clB 1048576 b)) (backB b)) ∧ Blk ww p8 27 (fun _ => 0)) (16 - (0)) ⟨0, by omega, rfl, s42, s43, s44, K35, B32.first, B34⟩ ?_
  rintro n48 F45 w46 ⟨k, i49, hn48, s50, s51, s52, K47, B53, B54⟩
  refine wq_seq ?_
  refine wq_region ?_
  refine wl_v (.bool (decide ((((k : Nat) : Int)) < (16)))) rfl rfl (y_lss rfl s52 rfl rfl ⟨rfl, rfl⟩) ?_
  refine wl_nil fun F55 hF56 => ?_
  have s57 : F55 1 = .pointer (some ⟨p1, 0, none⟩) := (hF56 1).trans s50
  have s58 : F55 2 = .pointer (some ⟨p8, 0, none⟩) := (hF56 2).trans s51
  have s59 : F55 7 = .int .i64 (((k : Nat) : Int)) := (hF56 7).trans s52
  have s60 : F55 8 = .bool (decide ((((k : Nat) : Int)) < (16))) := (hF56 8).trans rfl
  clear hF56
  refine then_normal ?_
  refine wq_seq ?_
  refine wq_cond s60 (fun c61 => ?_) (fun c61 => ?_)
  · replace c61 := of_decide_eq_true c61
    refine wq_skip ?_
    refine then_normal ?_
    refine wq_seq ?_
    refine wq_block ?_
    refine wq_seq ?_
    refine wq_region ?_
    refine wl_v (.int .i64 (((k : Nat) : Int))) rfl rfl (y_mov rfl s59 ⟨rfl, rfl⟩) ?_
    refine wl_v (.int .i64 (((k : Nat) : Int))) rfl rfl (y_asg rfl rfl ⟨rfl, rfl⟩) ?_
    refine wl_nil fun F62 hF63 => ?_
    have s64 : F62 1 = .pointer (some ⟨p1, 0, none⟩) := (hF63 1).trans s57
    have s65 : F62 2 = .pointer (some ⟨p8, 0, none⟩) := (hF63 2).trans s58
    have s66 : F62 7 = .int .i64 (((k : Nat) : Int)) := (hF63 7).trans s59
    have s67 : F62 3 = .int .i64 (((k : Nat) : Int)) := (hF63 3).trans rfl
    clear hF63
    refine then_normal ?_
    have hf := fwd_le (clB 1048576 b) 1048576 (fun i _ => clB_le b i) k
    refine wq_region ?_
    refine wl_v (.int .i64 (((k : Nat) : Int))) rfl rfl (y_mov rfl s67 ⟨rfl, rfl⟩) ?_
    refine wl_v (.int .i64 (((k : Nat) : Int))) rfl rfl (y_mov rfl s67 ⟨rfl, rfl⟩) ?_
    refine wl_v (.pointer (some ⟨p1, k, none⟩)) rfl rfl (y_atR (k) (s := 1) rfl s64 rfl (by omega) Tryd.underlying27 (by omega) (by kernel_rfl) (by omega) ⟨rfl, rfl⟩) ?_
    refine wl_v (.int .i64 (fwd (clB 1048576 b) k)) rfl rfl (y_ldR rfl rfl Tryd.underlying3 (((B53).cell (by omega)).trans (some_int (upto_at k _ _))) ⟨rfl, rfl⟩) ?_
    refine wl_v (.int .i64 ((fwd (clB 1048576 b) k) + (8))) rfl rfl (y_add rfl rfl rfl (i64_i rfl (by omega)) ⟨rfl, rfl⟩) ?_
    refine wl_v (.int .i64 (rnd (fwd (clB 1048576 b) k))) rfl rfl (y_shrR 4 rfl rfl rfl (by decide) (rfl) ⟨rfl, rfl⟩) ?_
    refine wl_v (.pointer (some ⟨p1, k, none⟩)) rfl rfl (y_atR (k) (s := 1) rfl s64 rfl (by omega) Tryd.underlying27 (by omega) (by kernel_rfl) (by omega) ⟨rfl, rfl⟩) ?_
    refine wl_set_blk rfl rfl rfl rfl rfl B53 (by omega) (by kernel_rfl) fun w68 B69 k70 => ?_
    have B71 := B54.all k70 (Ne.symm ne13)
    have K72 := K47.trans k70 (fun _ hi e => absurd (e ▸ hi) (Nat.not_lt.2 lp6))
    refine wl_nil fun F73 hF74 => ?_
    have s75 : F73 1 = .pointer (some ⟨p1, 0, none⟩) := (hF74 1).trans s64
    have s76 : F73 2 = .pointer (some ⟨p8, 0, none⟩) := (hF74 2).trans s65
    have s77 : F73 7 = .int .i64 (((k : Nat) : Int)) := (hF74 7).trans s66
    clear hF74
    refine in_normal ?_
    refine then_normal ?_
    refine wq_region ?_
    refine wl_v (.int .i64 (((k + 1 : Nat) : Int))) rfl rfl (y_add rfl s77 rfl (i64_n (by omega) (by omega)) ⟨rfl, rfl⟩) ?_
    refine wl_v (.int .i64 (((k + 1 : Nat) : Int))) rfl rfl (y_mov rfl rfl ⟨rfl, rfl⟩) ?_
    refine wl_nil fun F78 hF79 => ?_
    have s80 : F78 1 = .pointer (some ⟨p1, 0, none⟩) := (hF79 1).trans s75
    have s81 : F78 2 = .pointer (some ⟨p8, 0, none⟩) := (hF79 2).trans s76
    have s82 : F78 7 = .int .i64 (((k + 1 : Nat) : Int)) := (hF79 7).trans rfl
    clear hF79
    exact then_normal ⟨(16 - (k + 1)), by omega, k + 1, by omega, rfl, s80, s81, s82, K72, (B69.next rfl), B71⟩
  · replace c61 := of_decide_eq_false c61
    refine wq_exit ?_
    refine then_exit ?_
    refine then_exit ?_
    have l83 : 16 = k := by omega
    subst l83
    have B84 : Blk w46 p1 27 (backB b) := (B53.last)
    refine in_here ?_
    refine then_normal ?_
    refine wq_seq ?_
    refine wq_region ?_
    refine wl_v (blkV (backB b)) rfl rfl (y_load_blk blkT_block rfl s57 B84 ⟨rfl, rfl⟩) ?_
    refine wl_store_blk blkT_block rfl rfl rfl s58 rfl B54 fun w85 B86 k87 => ?_
    have B88 := B84.all k87 ne13
    have K89 := K47.trans k87 (fun _ hi e => absurd (e ▸ hi) (Nat.not_lt.2 lp14))
    refine wl_nil fun F90 hF91 => ?_
    have s92 : F90 2 = .pointer (some ⟨p8, 0, none⟩) := (hF91 2).trans s58
    clear hF91
    refine then_normal ?_
    refine wq_ret ?_
    exact end_blk blkT_block rfl s92 B86 ⟨rfl, K89⟩


end Go.Proofs.YtnlpiafgbeknhaaDoor
