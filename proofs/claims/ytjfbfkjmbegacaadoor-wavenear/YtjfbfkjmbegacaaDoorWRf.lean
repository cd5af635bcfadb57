/- What the document's wave functions do, and the law's own helper. -/
import Derived.Test.YtjfbfkjmbegacaaDoorWx
namespace Go.Proofs.YtjfbfkjmbegacaaDoor
open Go.RowKit

/-- The first k terms of a row, and the first rows, of a coefficient's sum. -/
def qk (c : Nat → Int) (u v i : Nat) : Nat → Int
  | 0 => 0
  | k + 1 => qk c u v i k + c (4 * i + k) * wv u i * wv v k
def qs (c : Nat → Int) (u v : Nat) : Nat → Int
  | 0 => 0
  | i + 1 => qs c u v i + qk c u v i 4

theorem q_term (c : Nat → Int) (M : Int) (h : ∀ i, i < 16 → -M ≤ c i ∧ c i ≤ M) (u v i k : Nat) (hi : i < 4) (hk : k < 4) : -M ≤ c (4 * i + k) * wv u i * wv v k ∧ c (4 * i + k) * wv u i * wv v k ≤ M := by
  have h1 := h (4 * i + k) (by omega)
  have h2 := wv_mul _ M u i h1.1 h1.2
  exact wv_mul _ M v k h2.1 h2.2
theorem qk_le (c : Nat → Int) (M : Int) (h : ∀ i, i < 16 → -M ≤ c i ∧ c i ≤ M) (u v i k : Nat) (hi : i < 4) (hk : k ≤ 4) : -(k * M) ≤ qk c u v i k ∧ qk c u v i k ≤ k * M := by
  induction k with
  | zero => simp [qk]
  | succ k ih =>
    have h1 := ih (by omega)
    have h2 := q_term c M h u v i k hi (by omega)
    have e : ((k + 1 : Nat) : Int) * M = (k : Int) * M + M := by rw [Int.natCast_add, Int.add_mul]; simp
    rw [e]; unfold qk; omega
theorem qs_le (c : Nat → Int) (M : Int) (h : ∀ i, i < 16 → -M ≤ c i ∧ c i ≤ M) (u v i : Nat) (hi : i ≤ 4) : -(i * (4 * M)) ≤ qs c u v i ∧ qs c u v i ≤ i * (4 * M) := by
  induction i with
  | zero => simp [qs]
  | succ i ih =>
    have h1 := ih (by omega)
    have h2 := qk_le c M h u v i 4 (by omega) (by omega)
    have e : ((i + 1 : Nat) : Int) * (4 * M) = (i : Int) * (4 * M) + 4 * M := by rw [Int.natCast_add, Int.add_mul]; simp
    rw [e]; unfold qs; simp at h2; omega

theorem qs_fwd (c : Nat → Int) (u v : Nat) (hv : v < 4) : qs c u v 4 = fwd c (4 * u + v) := by
  have e1 : (4 * u + v) % 4 = v := by omega
  have e2 : (4 * u + v) / 4 = u := by omega
  have f0 : (4 * v) % 4 = 0 := by omega
  have f1 : (4 * v + 1) % 4 = 1 := by omega
  have f2 : (4 * v + 2) % 4 = 2 := by omega
  have f3 : (4 * v + 3) % 4 = 3 := by omega
  have g0 : (4 * v) / 4 = v := by omega
  have g1 : (4 * v + 1) / 4 = v := by omega
  have g2 : (4 * v + 2) / 4 = v := by omega
  have g3 : (4 * v + 3) / 4 = v := by omega
  simp only [qs, qk, fwd, turn, e1, e2, f0, f1, f2, f3, g0, g1, g2, g3, Nat.add_zero, Int.add_mul, Int.zero_add, Nat.mul_zero, Nat.zero_add, Nat.reduceMul, Nat.reduceAdd]
  simp only [Int.mul_assoc, Int.mul_comm (wv u _) (wv v _)]

/-- The coefficients as far as they are told. -/
def fwdP (c : Nat → Int) (n : Nat) : Nat → Int := upto n (fun _ => 0) (fwd c)

set_option maxHeartbeats 4000000 in
set_option maxRecDepth 100000 in
theorem ref_clamp (n : Int) (w0 : World) :
    Calls Tryd.prog 21 #[.int .i64 (n)] w0 fun e w' => e = .returned (.int .i64 (cl 1048576 n)) ∧ Kept (fun _ => False) w0 w' := by
  refine calls_wq (args := [.int .i64 (n)]) 6 Tryd.func21 rfl rfl (Nat.le_of_ble_eq_true rfl) ?_
  have K0 := Kept.refl (fun _ => False) w0
  refine wq_seq ?_
  refine wq_region ?_
  refine wl_v (.int .i64 (0)) rfl rfl (y_asg rfl rfl ⟨rfl, rfl⟩) ?_
  refine wl_nil fun F1 hF2 => ?_
  have s3 : F1 0 = .int .i64 (n) := (hF2 0).trans rfl
  have s4 : F1 2 = .int .i64 (0) := (hF2 2).trans rfl
  clear hF2
  refine then_normal ?_
  refine wq_seq ?_
  refine wq_region ?_
  refine wl_v (.int .i64 (n)) rfl rfl (y_mov rfl s3 ⟨rfl, rfl⟩) ?_
  refine wl_v (.int .i64 (max (n) (-1048576))) rfl rfl (y_maxR rfl rfl rfl rfl ⟨rfl, rfl⟩) ?_
  refine wl_v (.int .i64 (cl 1048576 n)) rfl rfl (y_minR rfl rfl rfl (by unfold cl; omega) ⟨rfl, rfl⟩) ?_
  refine wl_v (.int .i64 (cl 1048576 n)) rfl rfl (y_asg rfl rfl ⟨rfl, rfl⟩) ?_
  refine wl_nil fun F5 hF6 => ?_
  have s7 : F5 0 = .int .i64 (n) := (hF6 0).trans s3
  have s8 : F5 2 = .int .i64 (cl 1048576 n) := (hF6 2).trans rfl
  clear hF6
  refine then_normal ?_
  refine wq_ret ?_
  exact end_tmp (v := .int .i64 (cl 1048576 n)) rfl s8 ⟨rfl, K0⟩

set_option maxHeartbeats 4000000 in
set_option maxRecDepth 100000 in
theorem ref_sign (u i : Nat) (w0 : World) (hu : u < 4) (hi : i < 4) :
    Calls Tryd.prog 22 #[.int .i64 (((u : Nat) : Int)), .int .i64 (((i : Nat) : Int))] w0 fun e w' => e = .returned (.int .i64 (wv u i)) ∧ Kept (fun _ => False) w0 w' := by
  refine calls_wq (args := [.int .i64 (((u : Nat) : Int)), .int .i64 (((i : Nat) : Int))]) 13 Tryd.func22 rfl rfl (Nat.le_of_ble_eq_true rfl) ?_
  have K0 := Kept.refl (fun _ => False) w0
  refine wq_seq ?_
  refine wq_region ?_
  refine wl_v (.int .i64 (0)) rfl rfl (y_asg rfl rfl ⟨rfl, rfl⟩) ?_
  refine wl_nil fun F1 hF2 => ?_
  have s3 : F1 0 = .int .i64 (((u : Nat) : Int)) := (hF2 0).trans rfl
  have s4 : F1 1 = .int .i64 (((i : Nat) : Int)) := (hF2 1).trans rfl
  have s5 : F1 4 = .int .i64 (0) := (hF2 4).trans rfl
  clear hF2
  refine then_normal ?_
  refine wq_seq ?_
  refine wq_region ?_
  refine wl_v (blkV (blL [1, 1, 1, 1, 1, 1, -1, -1, 1, -1, -1, 1, 1, -1, 1, -1])) rfl rfl (y_buildR (cells := (arrL 16 (blL [1, 1, 1, 1, 1, 1, -1, -1, 1, -1, -1, 1, 1, -1, 1, -1])).toArray) rfl (by kernel_rfl) rfl ⟨rfl, rfl⟩) ?_
  refine wl_alloc_blk rfl rfl rfl blkT_arr.2.2 fun p6 w7 e10 B8 k9 => ?_
  have lp11 : w0.heap.size ≤ p6 := by have h_ := K0.size; omega
  clear e10
  have K12 := K0.trans k9 (fun _ _ x => x)
  refine wl_store_blk blkT_arr rfl rfl rfl rfl rfl B8 fun w13 B14 k15 => ?_
  have K16 := K12.trans k15 (fun _ hi e => absurd (e ▸ hi) (Nat.not_lt.2 lp11))
  refine wl_nil fun F17 hF18 => ?_
  have s19 : F17 0 = .int .i64 (((u : Nat) : Int)) := (hF18 0).trans s3
  have s20 : F17 1 = .int .i64 (((i : Nat) : Int)) := (hF18 1).trans s4
  have s21 : F17 4 = .int .i64 (0) := (hF18 4).trans s5
  have s22 : F17 5 = .pointer (some ⟨p6, 0, none⟩) := (hF18 5).trans rfl
  clear hF18
  refine then_normal ?_
  refine wq_seq ?_
  refine wq_region ?_
  refine wl_v (.int .i64 (((u : Nat) : Int))) rfl rfl (y_mov rfl s19 ⟨rfl, rfl⟩) ?_
  refine wl_v (.int .i64 (((4 * u : Nat) : Int))) rfl rfl (y_mul rfl rfl rfl (i64_n (by omega) (by omega)) ⟨rfl, rfl⟩) ?_
  refine wl_v (.int .i64 (((i : Nat) : Int))) rfl rfl (y_mov rfl s20 ⟨rfl, rfl⟩) ?_
  refine wl_v (.int .i64 ((((4 * u) + i : Nat) : Int))) rfl rfl (y_add rfl rfl rfl (i64_n (by omega) (by omega)) ⟨rfl, rfl⟩) ?_
  refine wl_v (.pointer (some ⟨p6, (4 * u) + i, none⟩)) rfl rfl (y_atR ((4 * u) + i) (s := 1) rfl s22 rfl (by omega) Tryd.underlying22 (by omega) (by kernel_rfl) (by omega) ⟨rfl, rfl⟩) ?_
  refine wl_v (.int .i64 (wv u i)) rfl rfl (y_ldR rfl rfl Tryd.underlying3 (((B14).cell (by omega)).trans (rfl)) ⟨rfl, rfl⟩) ?_
  refine wl_v (.int .i64 (wv u i)) rfl rfl (y_asg rfl rfl ⟨rfl, rfl⟩) ?_
  refine wl_nil fun F23 hF24 => ?_
  have s25 : F23 0 = .int .i64 (((u : Nat) : Int)) := (hF24 0).trans s19
  have s26 : F23 1 = .int .i64 (((i : Nat) : Int)) := (hF24 1).trans s20
  have s27 : F23 5 = .pointer (some ⟨p6, 0, none⟩) := (hF24 5).trans s22
  have s28 : F23 4 = .int .i64 (wv u i) := (hF24 4).trans rfl
  clear hF24
  refine then_normal ?_
  refine wq_ret ?_
  exact end_tmp (v := .int .i64 (wv u i)) rfl s28 ⟨rfl, K16⟩

set_option maxHeartbeats 4000000 in
set_option maxRecDepth 100000 in
theorem ref_forward (b : Nat → Int) (w0 : World) :
    Calls Tryd.prog 11 #[blkV (b)] w0 fun e w' => e = .returned (blkV (fwd (clB 1048576 b))) ∧ Kept (fun _ => False) w0 w' := by
  refine calls_wq (args := [blkV (b)]) 50 Tryd.func11 rfl rfl (Nat.le_of_ble_eq_true rfl) ?_
  have K0 := Kept.refl (fun _ => False) w0
  refine wq_seq ?_
  refine wq_region ?_
  refine wl_box_blk rfl rfl rfl rfl fun p1 w2 e5 B3 k4 => ?_
  have lp6 : w0.heap.size ≤ p1 := by have h_ := K0.size; omega
  clear e5
  have K7 := K0.trans k4 (fun _ _ x => x)
  refine wl_alloc_blk rfl rfl rfl blkT_arr.2.2 fun p8 w9 e12 B10 k11 => ?_
  have ne13 : p1 ≠ p8 := by have h_ := B3.lt; omega
  have lp14 : w0.heap.size ≤ p8 := by have h_ := K7.size; omega
  clear e12
  have B15 := B3.all k11 id
  have K16 := K7.trans k11 (fun _ _ x => x)
  refine wl_nil fun F17 hF18 => ?_
  have s19 : F17 0 = blkV (b) := (hF18 0).trans rfl
  have s20 : F17 1 = .pointer (some ⟨p1, 0, none⟩) := (hF18 1).trans rfl
  have s21 : F17 2 = .pointer (some ⟨p8, 0, none⟩) := (hF18 2).trans rfl
  clear hF18
  refine then_normal ?_
  refine wq_seq ?_
  refine wq_region ?_
  refine wl_v (blkV (fun _ => 0)) rfl rfl (y_buildR (cells := (arrL 16 (fun _ => 0)).toArray) rfl (by kernel_rfl) rfl ⟨rfl, rfl⟩) ?_
  refine wl_alloc_blk rfl rfl rfl blkT_arr.2.2 fun p22 w23 e26 B24 k25 => ?_
  have ne27 : p1 ≠ p22 := by have h_ := B15.lt; omega
  have ne28 : p8 ≠ p22 := by have h_ := B10.lt; omega
  have lp29 : w0.heap.size ≤ p22 := by have h_ := K16.size; omega
  clear e26
  have B30 := B15.all k25 id
  have B31 := B10.all k25 id
  have K32 := K16.trans k25 (fun _ _ x => x)
  refine wl_store_blk blkT_arr rfl rfl rfl rfl rfl B24 fun w33 B34 k35 => ?_
  have B36 := B30.all k35 ne27
  have B37 := B31.all k35 ne28
  have K38 := K32.trans k35 (fun _ hi e => absurd (e ▸ hi) (Nat.not_lt.2 lp29))
  refine wl_nil fun F39 hF40 => ?_
  have s41 : F39 0 = blkV (b) := (hF40 0).trans s19
  have s42 : F39 1 = .pointer (some ⟨p1, 0, none⟩) := (hF40 1).trans s20
  have s43 : F39 2 = .pointer (some ⟨p8, 0, none⟩) := (hF40 2).trans s21
  have s44 : F39 3 = .pointer (some ⟨p22, 0, none⟩) := (hF40 3).trans rfl
  clear hF40
  refine then_normal ?_
  refine wq_seq ?_
  refine wq_seq ?_
  refine wq_region ?_
  refine wl_v (.int .i64 (0)) rfl rfl (y_asg rfl rfl ⟨rfl, rfl⟩) ?_
  refine wl_nil fun F45 hF46 => ?_
  have s47 : F45 0 = blkV (b) := (hF46 0).trans s41
  have s48 : F45 1 = .pointer (some ⟨p1, 0, none⟩) := (hF46 1).trans s42
  have s49 : F45 2 = .pointer (some ⟨p8, 0, none⟩) := (hF46 2).trans s43
  have s50 : F45 3 = .pointer (some ⟨p22, 0, none⟩) := (hF46 3).trans s44
  have s51 : F45 4 = .int .i64 (0) := (hF46 4).trans rfl
  clear hF46
  refine then_normal ?_
  refine wq_block ?_
  refine wq_loop (fun nn FF ww => ∃ (u : Nat), u ≤ 4 ∧ nn = 4 - u ∧ FF 0 = blkV (b) ∧ FF 1 = .pointer (some ⟨p1, 0, none⟩) ∧ FF 2 = .pointer (some ⟨p8, 0, none⟩) ∧ FF 3 = .pointer (some ⟨p22, 0, none⟩) ∧ FF 4 = .int .i64 (((u : Nat) : Int)) ∧ Kept (fun _ => False) w0 ww ∧ Blk ww p1 22 (b) ∧ Blk ww p8 22 (fun _ => 0) ∧ Blk ww p22 22 (fwdP (clB 1048576 b) (4 * u))) (4 - (0)) ⟨0, by omega, rfl, s47, s48, s49, s50, s51, K38, B36, B37, B34.first⟩ ?_
  rintro n55 F52 w53 ⟨u, i56, hn55, s57, s58, s59, s60, s61, K54, B62, B63, B64⟩
  refine wq_seq ?_
  refine wq_seq ?_
  refine wq_region ?_
  refine wl_v (.int .i64 (((u : Nat) : Int))) rfl rfl (y_mov rfl s61 ⟨rfl, rfl⟩) ?_
  refine wl_v (.bool (decide ((((u : Nat) : Int)) < (4)))) rfl rfl (y_lss rfl rfl rfl rfl ⟨rfl, rfl⟩) ?_
  refine wl_nil fun F65 hF66 => ?_
  have s67 : F65 0 = blkV (b) := (hF66 0).trans s57
  have s68 : F65 1 = .pointer (some ⟨p1, 0, none⟩) := (hF66 1).trans s58
  have s69 : F65 2 = .pointer (some ⟨p8, 0, none⟩) := (hF66 2).trans s59
  have s70 : F65 3 = .pointer (some ⟨p22, 0, none⟩) := (hF66 3).trans s60
  have s71 : F65 4 = .int .i64 (((u : Nat) : Int)) := (hF66 4).trans s61
  have s72 : F65 11 = .bool (decide ((((u : Nat) : Int)) < (4))) := (hF66 11).trans rfl
  clear hF66
  refine then_normal ?_
  refine wq_cond s72 (fun c73 => ?_) (fun c73 => ?_)
  · replace c73 := of_decide_eq_true c73
    refine wq_skip ?_
    refine then_normal ?_
    refine wq_seq ?_
    refine wq_block ?_
    refine wq_seq ?_
    refine wq_region ?_
    refine wl_v (.int .i64 (0)) rfl rfl (y_asg rfl rfl ⟨rfl, rfl⟩) ?_
    refine wl_nil fun F74 hF75 => ?_
    have s76 : F74 0 = blkV (b) := (hF75 0).trans s67
    have s77 : F74 1 = .pointer (some ⟨p1, 0, none⟩) := (hF75 1).trans s68
    have s78 : F74 2 = .pointer (some ⟨p8, 0, none⟩) := (hF75 2).trans s69
    have s79 : F74 3 = .pointer (some ⟨p22, 0, none⟩) := (hF75 3).trans s70
    have s80 : F74 4 = .int .i64 (((u : Nat) : Int)) := (hF75 4).trans s71
    have s81 : F74 11 = .bool (decide ((((u : Nat) : Int)) < (4))) := (hF75 11).trans s72
    have s82 : F74 5 = .int .i64 (0) := (hF75 5).trans rfl
    clear hF75
    refine then_normal ?_
    refine wq_block ?_
    refine wq_loop (fun nn FF ww => ∃ (v : Nat), v ≤ 4 ∧ nn = 4 - v ∧ FF 0 = blkV (b) ∧ FF 1 = .pointer (some ⟨p1, 0, none⟩) ∧ FF 2 = .pointer (some ⟨p8, 0, none⟩) ∧ FF 3 = .pointer (some ⟨p22, 0, none⟩) ∧ FF 4 = .int .i64 (((u : Nat) : Int)) ∧ FF 11 = .bool (decide ((((u : Nat) : Int)) < (4))) ∧ FF 5 = .int .i64 (((v : Nat) : Int)) ∧ Kept (fun _ => False) w0 ww ∧ Blk ww p1 22 (b) ∧ Blk ww p8 22 (fun _ => 0) ∧ Blk ww p22 22 (fwdP (clB 1048576 b) (4 * u + v))) (4 - (0)) ⟨0, by omega, rfl, s76, s77, s78, s79, s80, s81, s82, K54, B62, B63, B64⟩ ?_
    rintro n86 F83 w84 ⟨v, i87, hn86, s88, s89, s90, s91, s92, s93, s94, K85, B95, B96, B97⟩
    refine wq_seq ?_
    refine wq_seq ?_
    refine wq_region ?_
    refine wl_v (.int .i64 (((v : Nat) : Int))) rfl rfl (y_mov rfl s94 ⟨rfl, rfl⟩) ?_
    refine wl_v (.bool (decide ((((v : Nat) : Int)) < (4)))) rfl rfl (y_lss rfl rfl rfl rfl ⟨rfl, rfl⟩) ?_
    refine wl_nil fun F98 hF99 => ?_
    have s100 : F98 0 = blkV (b) := (hF99 0).trans s88
    have s101 : F98 1 = .pointer (some ⟨p1, 0, none⟩) := (hF99 1).trans s89
    have s102 : F98 2 = .pointer (some ⟨p8, 0, none⟩) := (hF99 2).trans s90
    have s103 : F98 3 = .pointer (some ⟨p22, 0, none⟩) := (hF99 3).trans s91
    have s104 : F98 4 = .int .i64 (((u : Nat) : Int)) := (hF99 4).trans s92
    have s105 : F98 11 = .bool (decide ((((u : Nat) : Int)) < (4))) := (hF99 11).trans s93
    have s106 : F98 5 = .int .i64 (((v : Nat) : Int)) := (hF99 5).trans s94
    have s107 : F98 15 = .bool (decide ((((v : Nat) : Int)) < (4))) := (hF99 15).trans rfl
    clear hF99
    refine then_normal ?_
    refine wq_cond s107 (fun c108 => ?_) (fun c108 => ?_)
    · replace c108 := of_decide_eq_true c108
      refine wq_skip ?_
      refine then_normal ?_
      refine wq_seq ?_
      refine wq_block ?_
      refine wq_seq ?_
      refine wq_region ?_
      refine wl_v (.int .i64 (0)) rfl rfl (y_asg rfl rfl ⟨rfl, rfl⟩) ?_
      refine wl_nil fun F109 hF110 => ?_
      have s111 : F109 0 = blkV (b) := (hF110 0).trans s100
      have s112 : F109 1 = .pointer (some ⟨p1, 0, none⟩) := (hF110 1).trans s101
      have s113 : F109 2 = .pointer (some ⟨p8, 0, none⟩) := (hF110 2).trans s102
      have s114 : F109 3 = .pointer (some ⟨p22, 0, none⟩) := (hF110 3).trans s103
      have s115 : F109 4 = .int .i64 (((u : Nat) : Int)) := (hF110 4).trans s104
      have s116 : F109 11 = .bool (decide ((((u : Nat) : Int)) < (4))) := (hF110 11).trans s105
      have s117 : F109 5 = .int .i64 (((v : Nat) : Int)) := (hF110 5).trans s106
      have s118 : F109 15 = .bool (decide ((((v : Nat) : Int)) < (4))) := (hF110 15).trans s107
      have s119 : F109 6 = .int .i64 (0) := (hF110 6).trans rfl
      clear hF110
      refine then_normal ?_
      refine wq_seq ?_
      refine wq_seq ?_
      refine wq_region ?_
      refine wl_v (.int .i64 (0)) rfl rfl (y_asg rfl rfl ⟨rfl, rfl⟩) ?_
      refine wl_nil fun F120 hF121 => ?_
      have s122 : F120 0 = blkV (b) := (hF121 0).trans s111
      have s123 : F120 1 = .pointer (some ⟨p1, 0, none⟩) := (hF121 1).trans s112
      have s124 : F120 2 = .pointer (some ⟨p8, 0, none⟩) := (hF121 2).trans s113
      have s125 : F120 3 = .pointer (some ⟨p22, 0, none⟩) := (hF121 3).trans s114
      have s126 : F120 4 = .int .i64 (((u : Nat) : Int)) := (hF121 4).trans s115
      have s127 : F120 11 = .bool (decide ((((u : Nat) : Int)) < (4))) := (hF121 11).trans s116
      have s128 : F120 5 = .int .i64 (((v : Nat) : Int)) := (hF121 5).trans s117
      have s129 : F120 15 = .bool (decide ((((v : Nat) : Int)) < (4))) := (hF121 15).trans s118
      have s130 : F120 6 = .int .i64 (0) := (hF121 6).trans s119
      have s131 : F120 7 = .int .i64 (0) := (hF121 7).trans rfl
      clear hF121
      refine then_normal ?_
      refine wq_block ?_
      refine wq_loop (fun nn FF ww => ∃ (i : Nat), i ≤ 4 ∧ nn = 4 - i ∧ FF 0 = blkV (b) ∧ FF 1 = .pointer (some ⟨p1, 0, none⟩) ∧ FF 2 = .pointer (some ⟨p8, 0, none⟩) ∧ FF 3 = .pointer (some ⟨p22, 0, none⟩) ∧ FF 4 = .int .i64 (((u : Nat) : Int)) ∧ FF 5 = .int .i64 (((v : Nat) : Int)) ∧ FF 11 = .bool (decide ((((u : Nat) : Int)) < (4))) ∧ FF 15 = .bool (decide ((((v : Nat) : Int)) < (4))) ∧ FF 6 = .int .i64 (qs (clB 1048576 b) u v i) ∧ FF 7 = .int .i64 (((i : Nat) : Int)) ∧ Kept (fun _ => False) w0 ww ∧ Blk ww p1 22 (b) ∧ Blk ww p8 22 (fun _ => 0) ∧ Blk ww p22 22 (fwdP (clB 1048576 b) (4 * u + v))) (4 - (0)) ⟨0, by omega, rfl, s122, s123, s124, s125, s126, s128, s127, s129, s130, s131, K85, B95, B96, B97⟩ ?_
      rintro n135 F132 w133 ⟨i, i136, hn135, s137, s138, s139, s140, s141, s142, s143, s144, s145, s146, K134, B147, B148, B149⟩
      refine wq_seq ?_
      refine wq_seq ?_
      refine wq_region ?_
      refine wl_v (.int .i64 (((i : Nat) : Int))) rfl rfl (y_mov rfl s146 ⟨rfl, rfl⟩) ?_
      refine wl_v (.bool (decide ((((i : Nat) : Int)) < (4)))) rfl rfl (y_lss rfl rfl rfl rfl ⟨rfl, rfl⟩) ?_
      refine wl_nil fun F150 hF151 => ?_
      have s152 : F150 0 = blkV (b) := (hF151 0).trans s137
      have s153 : F150 1 = .pointer (some ⟨p1, 0, none⟩) := (hF151 1).trans s138
      have s154 : F150 2 = .pointer (some ⟨p8, 0, none⟩) := (hF151 2).trans s139
      have s155 : F150 3 = .pointer (some ⟨p22, 0, none⟩) := (hF151 3).trans s140
      have s156 : F150 4 = .int .i64 (((u : Nat) : Int)) := (hF151 4).trans s141
      have s157 : F150 5 = .int .i64 (((v : Nat) : Int)) := (hF151 5).trans s142
      have s158 : F150 11 = .bool (decide ((((u : Nat) : Int)) < (4))) := (hF151 11).trans s143
      have s159 : F150 15 = .bool (decide ((((v : Nat) : Int)) < (4))) := (hF151 15).trans s144
      have s160 : F150 6 = .int .i64 (qs (clB 1048576 b) u v i) := (hF151 6).trans s145
      have s161 : F150 7 = .int .i64 (((i : Nat) : Int)) := (hF151 7).trans s146
      have s162 : F150 19 = .bool (decide ((((i : Nat) : Int)) < (4))) := (hF151 19).trans rfl
      clear hF151
      refine then_normal ?_
      refine wq_cond s162 (fun c163 => ?_) (fun c163 => ?_)
      · replace c163 := of_decide_eq_true c163
        refine wq_skip ?_
        refine then_normal ?_
        refine wq_seq ?_
        refine wq_block ?_
        refine wq_seq ?_
        refine wq_region ?_
        refine wl_v (.int .i64 (0)) rfl rfl (y_asg rfl rfl ⟨rfl, rfl⟩) ?_
        refine wl_nil fun F164 hF165 => ?_
        have s166 : F164 0 = blkV (b) := (hF165 0).trans s152
        have s167 : F164 1 = .pointer (some ⟨p1, 0, none⟩) := (hF165 1).trans s153
        have s168 : F164 2 = .pointer (some ⟨p8, 0, none⟩) := (hF165 2).trans s154
        have s169 : F164 3 = .pointer (some ⟨p22, 0, none⟩) := (hF165 3).trans s155
        have s170 : F164 4 = .int .i64 (((u : Nat) : Int)) := (hF165 4).trans s156
        have s171 : F164 5 = .int .i64 (((v : Nat) : Int)) := (hF165 5).trans s157
        have s172 : F164 11 = .bool (decide ((((u : Nat) : Int)) < (4))) := (hF165 11).trans s158
        have s173 : F164 15 = .bool (decide ((((v : Nat) : Int)) < (4))) := (hF165 15).trans s159
        have s174 : F164 6 = .int .i64 (qs (clB 1048576 b) u v i) := (hF165 6).trans s160
        have s175 : F164 7 = .int .i64 (((i : Nat) : Int)) := (hF165 7).trans s161
        have s176 : F164 19 = .bool (decide ((((i : Nat) : Int)) < (4))) := (hF165 19).trans s162
        have s177 : F164 8 = .int .i64 (0) := (hF165 8).trans rfl
        clear hF165
        refine then_normal ?_
        refine wq_block ?_
        refine wq_loop (fun nn FF ww => ∃ (k : Nat), k ≤ 4 ∧ nn = 4 - k ∧ FF 0 = blkV (b) ∧ FF 1 = .pointer (some ⟨p1, 0, none⟩) ∧ FF 2 = .pointer (some ⟨p8, 0, none⟩) ∧ FF 3 = .pointer (some ⟨p22, 0, none⟩) ∧ FF 4 = .int .i64 (((u : Nat) : Int)) ∧ FF 5 = .int .i64 (((v : Nat) : Int)) ∧ FF 7 = .int .i64 (((i : Nat) : Int)) ∧ FF 11 = .bool (decide ((((u : Nat) : Int)) < (4))) ∧ FF 15 = .bool (decide ((((v : Nat) : Int)) < (4))) ∧ FF 19 = .bool (decide ((((i : Nat) : Int)) < (4))) ∧ FF 6 = .int .i64 (qs (clB 1048576 b) u v i + qk (clB 1048576 b) u v i k) ∧ FF 8 = .int .i64 (((k : Nat) : Int)) ∧ Kept (fun _ => False) w0 ww ∧ Blk ww p1 22 (b) ∧ Blk ww p8 22 (fun _ => 0) ∧ Blk ww p22 22 (fwdP (clB 1048576 b) (4 * u + v))) (4 - (0)) ⟨0, by omega, rfl, s166, s167, s168, s169, s170, s171, s175, s172, s173, s176, (by rw [show qs (clB 1048576 b) u v i + qk (clB 1048576 b) u v i 0 = qs (clB 1048576 b) u v i from Int.add_zero _]; exact s174), s177, K134, B147, B148, B149⟩ ?_
        rintro n181 F178 w179 ⟨k, i182, hn181, s183, s184, s185, s186, s187, s188, s189, s190, s191, s192, s193, s194, K180, B195, B196, B197⟩
        refine wq_seq ?_
        refine wq_seq ?_
        refine wq_region ?_
        refine wl_v (.int .i64 (((k : Nat) : Int))) rfl rfl (y_mov rfl s194 ⟨rfl, rfl⟩) ?_
        refine wl_v (.bool (decide ((((k : Nat) : Int)) < (4)))) rfl rfl (y_lss rfl rfl rfl rfl ⟨rfl, rfl⟩) ?_
        refine wl_nil fun F198 hF199 => ?_
        have s200 : F198 0 = blkV (b) := (hF199 0).trans s183
        have s201 : F198 1 = .pointer (some ⟨p1, 0, none⟩) := (hF199 1).trans s184
        have s202 : F198 2 = .pointer (some ⟨p8, 0, none⟩) := (hF199 2).trans s185
        have s203 : F198 3 = .pointer (some ⟨p22, 0, none⟩) := (hF199 3).trans s186
        have s204 : F198 4 = .int .i64 (((u : Nat) : Int)) := (hF199 4).trans s187
        have s205 : F198 5 = .int .i64 (((v : Nat) : Int)) := (hF199 5).trans s188
        have s206 : F198 7 = .int .i64 (((i : Nat) : Int)) := (hF199 7).trans s189
        have s207 : F198 11 = .bool (decide ((((u : Nat) : Int)) < (4))) := (hF199 11).trans s190
        have s208 : F198 15 = .bool (decide ((((v : Nat) : Int)) < (4))) := (hF199 15).trans s191
        have s209 : F198 19 = .bool (decide ((((i : Nat) : Int)) < (4))) := (hF199 19).trans s192
        have s210 : F198 6 = .int .i64 (qs (clB 1048576 b) u v i + qk (clB 1048576 b) u v i k) := (hF199 6).trans s193
        have s211 : F198 8 = .int .i64 (((k : Nat) : Int)) := (hF199 8).trans s194
        have s212 : F198 23 = .bool (decide ((((k : Nat) : Int)) < (4))) := (hF199 23).trans rfl
        clear hF199
        refine then_normal ?_
        refine wq_cond s212 (fun c213 => ?_) (fun c213 => ?_)
        · replace c213 := of_decide_eq_true c213
          refine wq_skip ?_
          refine then_normal ?_
          refine wq_seq ?_
          refine wq_block ?_
          have h1 := qs_le (clB 1048576 b) 1048576 (fun i _ => clB_le b i) u v i (by omega)
          have h2 := qk_le (clB 1048576 b) 1048576 (fun i _ => clB_le b i) u v i k (by omega) (by omega)
          have h3 := q_term (clB 1048576 b) 1048576 (fun i _ => clB_le b i) u v i k (by omega) (by omega)
          have h5 := wv_mul _ 1048576 u i (clB_le b (4 * i + k)).1 (clB_le b (4 * i + k)).2
          refine wq_region ?_
          refine wl_v (.int .i64 (qs (clB 1048576 b) u v i + qk (clB 1048576 b) u v i k)) rfl rfl (y_mov rfl s210 ⟨rfl, rfl⟩) ?_
          refine wl_v (.int .i64 (((i : Nat) : Int))) rfl rfl (y_mov rfl s206 ⟨rfl, rfl⟩) ?_
          refine wl_v (.int .i64 (((4 * i : Nat) : Int))) rfl rfl (y_mul rfl rfl rfl (i64_n (by omega) (by omega)) ⟨rfl, rfl⟩) ?_
          refine wl_v (.int .i64 (((k : Nat) : Int))) rfl rfl (y_mov rfl s211 ⟨rfl, rfl⟩) ?_
          refine wl_v (.int .i64 ((((4 * i) + k : Nat) : Int))) rfl rfl (y_add rfl rfl rfl (i64_n (by omega) (by omega)) ⟨rfl, rfl⟩) ?_
          refine wl_v (.pointer (some ⟨p1, (4 * i) + k, none⟩)) rfl rfl (y_atR ((4 * i) + k) (s := 1) rfl s201 rfl (by omega) Tryd.underlying22 (by omega) (by kernel_rfl) (by omega) ⟨rfl, rfl⟩) ?_
          refine wl_v (.int .i64 ((b) ((4 * i) + k))) rfl rfl (y_ldR rfl rfl Tryd.underlying3 ((B195).cell (by omega)) ⟨rfl, rfl⟩) ?_
          refine wl_call (R := fun v_ w_ => v_ = .int .i64 (clB 1048576 b (4 * i + k)) ∧ Kept (fun _ => False) w179 w_) rfl rfl (y_cs rfl rfl rfl (fun _ _ => by kernel_rfl) (ev_func _) (vsC rfl vsN) (ref_clamp ((b) ((4 * i) + k)) _ ) (fun e_ w_ h_ => ⟨_, h_.1, rfl, h_.2⟩)) ?_
          rintro _ w214 ⟨rfl, k215⟩
          have B216 := B195.all k215 id
          have B217 := B196.all k215 id
          have B218 := B197.all k215 id
          have K219 := K180.trans k215 (fun _ _ x => x)
          refine wl_v (.int .i64 (((u : Nat) : Int))) rfl rfl (y_mov rfl s204 ⟨rfl, rfl⟩) ?_
          refine wl_v (.int .i64 (((i : Nat) : Int))) rfl rfl (y_mov rfl s206 ⟨rfl, rfl⟩) ?_
          refine wl_call (R := fun v_ w_ => v_ = .int .i64 (wv (u) (i)) ∧ Kept (fun _ => False) w214 w_) rfl rfl (y_cs rfl rfl rfl (fun _ _ => by kernel_rfl) (ev_func _) (vsC rfl (vsC rfl vsN)) (ref_sign (u) (i) _ (by omega) (by omega)) (fun e_ w_ h_ => ⟨_, h_.1, rfl, h_.2⟩)) ?_
          rintro _ w220 ⟨rfl, k221⟩
          have B222 := B216.all k221 id
          have B223 := B217.all k221 id
          have B224 := B218.all k221 id
          have K225 := K219.trans k221 (fun _ _ x => x)
          refine wl_v (.int .i64 ((clB 1048576 b (4 * i + k)) * (wv (u) (i)))) rfl rfl (y_mul rfl rfl rfl (i64_i rfl (by omega)) ⟨rfl, rfl⟩) ?_
          refine wl_v (.int .i64 (((v : Nat) : Int))) rfl rfl (y_mov rfl s205 ⟨rfl, rfl⟩) ?_
          refine wl_v (.int .i64 (((k : Nat) : Int))) rfl rfl (y_mov rfl s211 ⟨rfl, rfl⟩) ?_
          refine wl_call (R := fun v_ w_ => v_ = .int .i64 (wv (v) (k)) ∧ Kept (fun _ => False) w220 w_) rfl rfl (y_cs rfl rfl rfl (fun _ _ => by kernel_rfl) (ev_func _) (vsC rfl (vsC rfl vsN)) (ref_sign (v) (k) _ (by omega) (by omega)) (fun e_ w_ h_ => ⟨_, h_.1, rfl, h_.2⟩)) ?_
          rintro _ w226 ⟨rfl, k227⟩
          have B228 := B222.all k227 id
          have B229 := B223.all k227 id
          have B230 := B224.all k227 id
          have K231 := K225.trans k227 (fun _ _ x => x)
          refine wl_v (.int .i64 (((clB 1048576 b (4 * i + k)) * (wv (u) (i))) * (wv (v) (k)))) rfl rfl (y_mul rfl rfl rfl (i64_i rfl (by omega)) ⟨rfl, rfl⟩) ?_
          refine wl_v (.int .i64 (qs (clB 1048576 b) u v i + qk (clB 1048576 b) u v i (k + 1))) rfl rfl (y_add rfl rfl rfl (i64_i (Int.add_assoc _ _ _) (by have e : qk (clB 1048576 b) u v i (k + 1) = qk (clB 1048576 b) u v i k + clB 1048576 b (4 * i + k) * wv u i * wv v k := rfl; omega)) ⟨rfl, rfl⟩) ?_
          refine wl_v (.int .i64 (qs (clB 1048576 b) u v i + qk (clB 1048576 b) u v i (k + 1))) rfl rfl (y_asg rfl rfl ⟨rfl, rfl⟩) ?_
          refine wl_nil fun F232 hF233 => ?_
          have s234 : F232 0 = blkV (b) := (hF233 0).trans s200
          have s235 : F232 1 = .pointer (some ⟨p1, 0, none⟩) := (hF233 1).trans s201
          have s236 : F232 2 = .pointer (some ⟨p8, 0, none⟩) := (hF233 2).trans s202
          have s237 : F232 3 = .pointer (some ⟨p22, 0, none⟩) := (hF233 3).trans s203
          have s238 : F232 4 = .int .i64 (((u : Nat) : Int)) := (hF233 4).trans s204
          have s239 : F232 5 = .int .i64 (((v : Nat) : Int)) := (hF233 5).trans s205
          have s240 : F232 7 = .int .i64 (((i : Nat) : Int)) := (hF233 7).trans s206
          have s241 : F232 11 = .bool (decide ((((u : Nat) : Int)) < (4))) := (hF233 11).trans s207
          have s242 : F232 15 = .bool (decide ((((v : Nat) : Int)) < (4))) := (hF233 15).trans s208
          have s243 : F232 19 = .bool (decide ((((i : Nat) : Int)) < (4))) := (hF233 19).trans s209
          have s244 : F232 8 = .int .i64 (((k : Nat) : Int)) := (hF233 8).trans s211
          have s245 : F232 23 = .bool (decide ((((k : Nat) : Int)) < (4))) := (hF233 23).trans s212
          have s246 : F232 6 = .int .i64 (qs (clB 1048576 b) u v i + qk (clB 1048576 b) u v i (k + 1)) := (hF233 6).trans rfl
          clear hF233
          refine in_normal ?_
          refine then_normal ?_
          refine wq_region ?_
          refine wl_v (.int .i64 (((k : Nat) : Int))) rfl rfl (y_mov rfl s244 ⟨rfl, rfl⟩) ?_
          refine wl_v (.int .i64 (((k + 1 : Nat) : Int))) rfl rfl (y_add rfl rfl rfl (i64_n (by omega) (by omega)) ⟨rfl, rfl⟩) ?_
          refine wl_v (.int .i64 (((k + 1 : Nat) : Int))) rfl rfl (y_asg rfl rfl ⟨rfl, rfl⟩) ?_
          refine wl_nil fun F247 hF248 => ?_
          have s249 : F247 0 = blkV (b) := (hF248 0).trans s234
          have s250 : F247 1 = .pointer (some ⟨p1, 0, none⟩) := (hF248 1).trans s235
          have s251 : F247 2 = .pointer (some ⟨p8, 0, none⟩) := (hF248 2).trans s236
          have s252 : F247 3 = .pointer (some ⟨p22, 0, none⟩) := (hF248 3).trans s237
          have s253 : F247 4 = .int .i64 (((u : Nat) : Int)) := (hF248 4).trans s238
          have s254 : F247 5 = .int .i64 (((v : Nat) : Int)) := (hF248 5).trans s239
          have s255 : F247 7 = .int .i64 (((i : Nat) : Int)) := (hF248 7).trans s240
          have s256 : F247 11 = .bool (decide ((((u : Nat) : Int)) < (4))) := (hF248 11).trans s241
          have s257 : F247 15 = .bool (decide ((((v : Nat) : Int)) < (4))) := (hF248 15).trans s242
          have s258 : F247 19 = .bool (decide ((((i : Nat) : Int)) < (4))) := (hF248 19).trans s243
          have s259 : F247 23 = .bool (decide ((((k : Nat) : Int)) < (4))) := (hF248 23).trans s245
          have s260 : F247 6 = .int .i64 (qs (clB 1048576 b) u v i + qk (clB 1048576 b) u v i (k + 1)) := (hF248 6).trans s246
          have s261 : F247 8 = .int .i64 (((k + 1 : Nat) : Int)) := (hF248 8).trans rfl
          clear hF248
          exact then_normal ⟨(4 - (k + 1)), by omega, k + 1, by omega, rfl, s249, s250, s251, s252, s253, s254, s255, s256, s257, s258, s260, s261, K231, B228, B229, B230⟩
        · replace c213 := of_decide_eq_false c213
          refine wq_exit ?_
          refine then_exit ?_
          refine then_exit ?_
          have l262 : 4 = k := by omega
          subst l262
          refine in_here ?_
          refine in_normal ?_
          refine then_normal ?_
          refine wq_region ?_
          refine wl_v (.int .i64 (((i : Nat) : Int))) rfl rfl (y_mov rfl s206 ⟨rfl, rfl⟩) ?_
          refine wl_v (.int .i64 (((i + 1 : Nat) : Int))) rfl rfl (y_add rfl rfl rfl (i64_n (by omega) (by omega)) ⟨rfl, rfl⟩) ?_
          refine wl_v (.int .i64 (((i + 1 : Nat) : Int))) rfl rfl (y_asg rfl rfl ⟨rfl, rfl⟩) ?_
          refine wl_nil fun F263 hF264 => ?_
          have s265 : F263 0 = blkV (b) := (hF264 0).trans s200
          have s266 : F263 1 = .pointer (some ⟨p1, 0, none⟩) := (hF264 1).trans s201
          have s267 : F263 2 = .pointer (some ⟨p8, 0, none⟩) := (hF264 2).trans s202
          have s268 : F263 3 = .pointer (some ⟨p22, 0, none⟩) := (hF264 3).trans s203
          have s269 : F263 4 = .int .i64 (((u : Nat) : Int)) := (hF264 4).trans s204
          have s270 : F263 5 = .int .i64 (((v : Nat) : Int)) := (hF264 5).trans s205
          have s271 : F263 11 = .bool (decide ((((u : Nat) : Int)) < (4))) := (hF264 11).trans s207
          have s272 : F263 15 = .bool (decide ((((v : Nat) : Int)) < (4))) := (hF264 15).trans s208
          have s273 : F263 19 = .bool (decide ((((i : Nat) : Int)) < (4))) := (hF264 19).trans s209
          have s274 : F263 6 = .int .i64 (qs (clB 1048576 b) u v i + qk (clB 1048576 b) u v i 4) := (hF264 6).trans s210
          have s275 : F263 8 = .int .i64 (((4 : Nat) : Int)) := (hF264 8).trans s211
          have s276 : F263 23 = .bool (decide ((((4 : Nat) : Int)) < (4))) := (hF264 23).trans s212
          have s277 : F263 7 = .int .i64 (((i + 1 : Nat) : Int)) := (hF264 7).trans rfl
          clear hF264
          exact then_normal ⟨(4 - (i + 1)), by omega, i + 1, by omega, rfl, s265, s266, s267, s268, s269, s270, s271, s272, s274, s277, K180, B195, B196, B197⟩
      · replace c163 := of_decide_eq_false c163
        refine wq_exit ?_
        refine then_exit ?_
        refine then_exit ?_
        have l278 : 4 = i := by omega
        subst l278
        refine in_here ?_
        refine then_normal ?_
        refine wq_region ?_
        refine wl_v (.int .i64 (((u : Nat) : Int))) rfl rfl (y_mov rfl s156 ⟨rfl, rfl⟩) ?_
        refine wl_v (.int .i64 (((4 * u : Nat) : Int))) rfl rfl (y_mul rfl rfl rfl (i64_n (by omega) (by omega)) ⟨rfl, rfl⟩) ?_
        refine wl_v (.int .i64 (((v : Nat) : Int))) rfl rfl (y_mov rfl s157 ⟨rfl, rfl⟩) ?_
        refine wl_v (.int .i64 ((((4 * u) + v : Nat) : Int))) rfl rfl (y_add rfl rfl rfl (i64_n (by omega) (by omega)) ⟨rfl, rfl⟩) ?_
        refine wl_v (.int .i64 (qs (clB 1048576 b) u v 4)) rfl rfl (y_mov rfl s160 ⟨rfl, rfl⟩) ?_
        refine wl_v (.pointer (some ⟨p22, (4 * u) + v, none⟩)) rfl rfl (y_atR ((4 * u) + v) (s := 1) rfl s155 rfl (by omega) Tryd.underlying22 (by omega) (by kernel_rfl) (by omega) ⟨rfl, rfl⟩) ?_
        refine wl_set_blk rfl rfl rfl rfl rfl B149 (by omega) (by kernel_rfl) fun w279 B280 k281 => ?_
        have B282 := B147.all k281 ne27
        have B283 := B148.all k281 ne28
        have K284 := K134.trans k281 (fun _ hi e => absurd (e ▸ hi) (Nat.not_lt.2 lp29))
        refine wl_nil fun F285 hF286 => ?_
        have s287 : F285 0 = blkV (b) := (hF286 0).trans s152
        have s288 : F285 1 = .pointer (some ⟨p1, 0, none⟩) := (hF286 1).trans s153
        have s289 : F285 2 = .pointer (some ⟨p8, 0, none⟩) := (hF286 2).trans s154
        have s290 : F285 3 = .pointer (some ⟨p22, 0, none⟩) := (hF286 3).trans s155
        have s291 : F285 4 = .int .i64 (((u : Nat) : Int)) := (hF286 4).trans s156
        have s292 : F285 5 = .int .i64 (((v : Nat) : Int)) := (hF286 5).trans s157
        have s293 : F285 11 = .bool (decide ((((u : Nat) : Int)) < (4))) := (hF286 11).trans s158
        have s294 : F285 15 = .bool (decide ((((v : Nat) : Int)) < (4))) := (hF286 15).trans s159
        have s295 : F285 6 = .int .i64 (qs (clB 1048576 b) u v 4) := (hF286 6).trans s160
        have s296 : F285 7 = .int .i64 (((4 : Nat) : Int)) := (hF286 7).trans s161
        have s297 : F285 19 = .bool (decide ((((4 : Nat) : Int)) < (4))) := (hF286 19).trans s162
        clear hF286
        refine in_normal ?_
        refine then_normal ?_
        refine wq_region ?_
        refine wl_v (.int .i64 (((v : Nat) : Int))) rfl rfl (y_mov rfl s292 ⟨rfl, rfl⟩) ?_
        refine wl_v (.int .i64 (((v + 1 : Nat) : Int))) rfl rfl (y_add rfl rfl rfl (i64_n (by omega) (by omega)) ⟨rfl, rfl⟩) ?_
        refine wl_v (.int .i64 (((v + 1 : Nat) : Int))) rfl rfl (y_asg rfl rfl ⟨rfl, rfl⟩) ?_
        refine wl_nil fun F298 hF299 => ?_
        have s300 : F298 0 = blkV (b) := (hF299 0).trans s287
        have s301 : F298 1 = .pointer (some ⟨p1, 0, none⟩) := (hF299 1).trans s288
        have s302 : F298 2 = .pointer (some ⟨p8, 0, none⟩) := (hF299 2).trans s289
        have s303 : F298 3 = .pointer (some ⟨p22, 0, none⟩) := (hF299 3).trans s290
        have s304 : F298 4 = .int .i64 (((u : Nat) : Int)) := (hF299 4).trans s291
        have s305 : F298 11 = .bool (decide ((((u : Nat) : Int)) < (4))) := (hF299 11).trans s293
        have s306 : F298 15 = .bool (decide ((((v : Nat) : Int)) < (4))) := (hF299 15).trans s294
        have s307 : F298 6 = .int .i64 (qs (clB 1048576 b) u v 4) := (hF299 6).trans s295
        have s308 : F298 7 = .int .i64 (((4 : Nat) : Int)) := (hF299 7).trans s296
        have s309 : F298 19 = .bool (decide ((((4 : Nat) : Int)) < (4))) := (hF299 19).trans s297
        have s310 : F298 5 = .int .i64 (((v + 1 : Nat) : Int)) := (hF299 5).trans rfl
        clear hF299
        exact then_normal ⟨(4 - (v + 1)), by omega, v + 1, by omega, rfl, s300, s301, s302, s303, s304, s305, s310, K284, B282, B283, (B280.next (qs_fwd _ u v (by omega)))⟩
    · replace c108 := of_decide_eq_false c108
      refine wq_exit ?_
      refine then_exit ?_
      refine then_exit ?_
      have l311 : 4 = v := by omega
      subst l311
      refine in_here ?_
      refine in_normal ?_
      refine then_normal ?_
      refine wq_region ?_
      refine wl_v (.int .i64 (((u : Nat) : Int))) rfl rfl (y_mov rfl s104 ⟨rfl, rfl⟩) ?_
      refine wl_v (.int .i64 (((u + 1 : Nat) : Int))) rfl rfl (y_add rfl rfl rfl (i64_n (by omega) (by omega)) ⟨rfl, rfl⟩) ?_
      refine wl_v (.int .i64 (((u + 1 : Nat) : Int))) rfl rfl (y_asg rfl rfl ⟨rfl, rfl⟩) ?_
      refine wl_nil fun F312 hF313 => ?_
      have s314 : F312 0 = blkV (b) := (hF313 0).trans s100
      have s315 : F312 1 = .pointer (some ⟨p1, 0, none⟩) := (hF313 1).trans s101
      have s316 : F312 2 = .pointer (some ⟨p8, 0, none⟩) := (hF313 2).trans s102
      have s317 : F312 3 = .pointer (some ⟨p22, 0, none⟩) := (hF313 3).trans s103
      have s318 : F312 11 = .bool (decide ((((u : Nat) : Int)) < (4))) := (hF313 11).trans s105
      have s319 : F312 5 = .int .i64 (((4 : Nat) : Int)) := (hF313 5).trans s106
      have s320 : F312 15 = .bool (decide ((((4 : Nat) : Int)) < (4))) := (hF313 15).trans s107
      have s321 : F312 4 = .int .i64 (((u + 1 : Nat) : Int)) := (hF313 4).trans rfl
      clear hF313
      exact then_normal ⟨(4 - (u + 1)), by omega, u + 1, by omega, rfl, s314, s315, s316, s317, s321, K85, B95, B96, B97⟩
  · replace c73 := of_decide_eq_false c73
    refine wq_exit ?_
    refine then_exit ?_
    refine then_exit ?_
    have l322 : 4 = u := by omega
    subst l322
    have B323 : Blk w53 p22 22 (fwd (clB 1048576 b)) := (B64.last)
    refine in_here ?_
    refine then_normal ?_
    refine wq_seq ?_
    refine wq_region ?_
    refine wl_v (blkV (fwd (clB 1048576 b))) rfl rfl (y_load_blk blkT_arr rfl s70 B323 ⟨rfl, rfl⟩) ?_
    refine wl_store_blk blkT_arr rfl rfl rfl s69 rfl B63 fun w324 B325 k326 => ?_
    have B327 := B62.all k326 ne13
    have B328 := B323.all k326 (Ne.symm ne28)
    have K329 := K54.trans k326 (fun _ hi e => absurd (e ▸ hi) (Nat.not_lt.2 lp14))
    refine wl_nil fun F330 hF331 => ?_
    have s332 : F330 0 = blkV (b) := (hF331 0).trans s67
    have s333 : F330 1 = .pointer (some ⟨p1, 0, none⟩) := (hF331 1).trans s68
    have s334 : F330 2 = .pointer (some ⟨p8, 0, none⟩) := (hF331 2).trans s69
    have s335 : F330 3 = .pointer (some ⟨p22, 0, none⟩) := (hF331 3).trans s70
    have s336 : F330 4 = .int .i64 (((4 : Nat) : Int)) := (hF331 4).trans s71
    have s337 : F330 11 = .bool (decide ((((4 : Nat) : Int)) < (4))) := (hF331 11).trans s72
    clear hF331
    refine then_normal ?_
    refine wq_ret ?_
    exact end_blk blkT_arr rfl s334 B325 ⟨rfl, K329⟩

theorem tdiv_rnd (n : Int) : (n < Int.tdiv n 16 * 16 → Int.tdiv n 16 - 1 = n / 16) ∧ (¬ n < Int.tdiv n 16 * 16 → Int.tdiv n 16 = n / 16) := by
  rcases Int.le_total 0 n with h | h
  · have e := Int.tdiv_eq_ediv_of_nonneg (b := 16) h
    rw [e]; omega
  · have e : Int.tdiv n 16 = -((-n) / 16) := by
      have e1 := Int.neg_tdiv (a := -n) (b := 16)
      rw [Int.neg_neg] at e1
      rw [e1, Int.tdiv_eq_ediv_of_nonneg (by omega)]
    rw [e]; omega

set_option maxHeartbeats 4000000 in
set_option maxRecDepth 100000 in
theorem ref_back (b : Nat → Int) (w0 : World) :
    Calls Tryd.prog 13 #[blkV (b)] w0 fun e w' => e = .returned (blkV (backB b)) ∧ Kept (fun _ => False) w0 w' := by
  refine calls_wq (args := [blkV (b)]) 29 Tryd.func13 rfl rfl (Nat.le_of_ble_eq_true rfl) ?_
  have K0 := Kept.refl (fun _ => False) w0
  refine wq_seq ?_
  refine wq_region ?_
  refine wl_box_blk rfl rfl rfl rfl fun p1 w2 e5 B3 k4 => ?_
  have lp6 : w0.heap.size ≤ p1 := by have h_ := K0.size; omega
  clear e5
  have K7 := K0.trans k4 (fun _ _ x => x)
  refine wl_alloc_blk rfl rfl rfl blkT_arr.2.2 fun p8 w9 e12 B10 k11 => ?_
  have ne13 : p1 ≠ p8 := by have h_ := B3.lt; omega
  have lp14 : w0.heap.size ≤ p8 := by have h_ := K7.size; omega
  clear e12
  have B15 := B3.all k11 id
  have K16 := K7.trans k11 (fun _ _ x => x)
  refine wl_nil fun F17 hF18 => ?_
  have s19 : F17 0 = blkV (b) := (hF18 0).trans rfl
  have s20 : F17 1 = .pointer (some ⟨p1, 0, none⟩) := (hF18 1).trans rfl
  have s21 : F17 2 = .pointer (some ⟨p8, 0, none⟩) := (hF18 2).trans rfl
  clear hF18
  refine then_normal ?_
  refine wq_seq ?_
  refine wq_region ?_
  refine wl_v (blkV (b)) rfl rfl (y_load_blk blkT_arr rfl s20 B15 ⟨rfl, rfl⟩) ?_
  refine wl_call (R := fun v_ w_ => v_ = blkV (fwd (clB 1048576 (b))) ∧ Kept (fun _ => False) w9 w_) rfl rfl (y_cs rfl rfl rfl (fun _ _ => by kernel_rfl) (ev_func _) (vsC rfl vsN) (ref_forward (b) _ ) (fun e_ w_ h_ => ⟨_, h_.1, rfl, h_.2⟩)) ?_
  rintro _ w22 ⟨rfl, k23⟩
  have B24 := B15.all k23 id
  have B25 := B10.all k23 id
  have K26 := K16.trans k23 (fun _ _ x => x)
  refine wl_alloc_blk rfl rfl rfl blkT_arr.2.2 fun p27 w28 e31 B29 k30 => ?_
  have ne32 : p1 ≠ p27 := by have h_ := B24.lt; omega
  have ne33 : p8 ≠ p27 := by have h_ := B25.lt; omega
  have lp34 : w0.heap.size ≤ p27 := by have h_ := K26.size; omega
  clear e31
  have B35 := B24.all k30 id
  have B36 := B25.all k30 id
  have K37 := K26.trans k30 (fun _ _ x => x)
  refine wl_store_blk blkT_arr rfl rfl rfl rfl rfl B29 fun w38 B39 k40 => ?_
  have B41 := B35.all k40 ne32
  have B42 := B36.all k40 ne33
  have K43 := K37.trans k40 (fun _ hi e => absurd (e ▸ hi) (Nat.not_lt.2 lp34))
  refine wl_nil fun F44 hF45 => ?_
  have s46 : F44 0 = blkV (b) := (hF45 0).trans s19
  have s47 : F44 1 = .pointer (some ⟨p1, 0, none⟩) := (hF45 1).trans s20
  have s48 : F44 2 = .pointer (some ⟨p8, 0, none⟩) := (hF45 2).trans s21
  have s49 : F44 3 = .pointer (some ⟨p27, 0, none⟩) := (hF45 3).trans rfl
  clear hF45
  refine then_normal ?_
  refine wq_seq ?_
  refine wq_seq ?_
  refine wq_region ?_
  refine wl_v (.int .i64 (0)) rfl rfl (y_asg rfl rfl ⟨rfl, rfl⟩) ?_
  refine wl_nil fun F50 hF51 => ?_
  have s52 : F50 0 = blkV (b) := (hF51 0).trans s46
  have s53 : F50 1 = .pointer (some ⟨p1, 0, none⟩) := (hF51 1).trans s47
  have s54 : F50 2 = .pointer (some ⟨p8, 0, none⟩) := (hF51 2).trans s48
  have s55 : F50 3 = .pointer (some ⟨p27, 0, none⟩) := (hF51 3).trans s49
  have s56 : F50 4 = .int .i64 (0) := (hF51 4).trans rfl
  clear hF51
  refine then_normal ?_
  refine wq_block ?_
  refine wq_loop (fun nn FF ww => ∃ (k : Nat), k ≤ 16 ∧ nn = 16 - k ∧ FF 0 = blkV (b) ∧ FF 1 = .pointer (some ⟨p1, 0, none⟩) ∧ FF 2 = .pointer (some ⟨p8, 0, none⟩) ∧ FF 3 = .pointer (some ⟨p27, 0, none⟩) ∧ FF 4 = .int .i64 (((k : Nat) : Int)) ∧ Kept (fun _ => False) w0 ww ∧ Blk ww p1 22 (b) ∧ Blk ww p8 22 (fun _ => 0) ∧ Blk ww p27 22 (upto k (fwd (clB 1048576 b)) (backB b))) (16 - (0)) ⟨0, by omega, rfl, s52, s53, s54, s55, s56, K43, B41, B42, B39.first⟩ ?_
  rintro n60 F57 w58 ⟨k, i61, hn60, s62, s63, s64, s65, s66, K59, B67, B68, B69⟩
  refine wq_seq ?_
  refine wq_seq ?_
  refine wq_region ?_
  refine wl_v (.int .i64 (((k : Nat) : Int))) rfl rfl (y_mov rfl s66 ⟨rfl, rfl⟩) ?_
  refine wl_v (.bool (decide ((((k : Nat) : Int)) < (16)))) rfl rfl (y_lss rfl rfl rfl rfl ⟨rfl, rfl⟩) ?_
  refine wl_nil fun F70 hF71 => ?_
  have s72 : F70 0 = blkV (b) := (hF71 0).trans s62
  have s73 : F70 1 = .pointer (some ⟨p1, 0, none⟩) := (hF71 1).trans s63
  have s74 : F70 2 = .pointer (some ⟨p8, 0, none⟩) := (hF71 2).trans s64
  have s75 : F70 3 = .pointer (some ⟨p27, 0, none⟩) := (hF71 3).trans s65
  have s76 : F70 4 = .int .i64 (((k : Nat) : Int)) := (hF71 4).trans s66
  have s77 : F70 10 = .bool (decide ((((k : Nat) : Int)) < (16))) := (hF71 10).trans rfl
  clear hF71
  refine then_normal ?_
  refine wq_cond s77 (fun c78 => ?_) (fun c78 => ?_)
  · replace c78 := of_decide_eq_true c78
    refine wq_skip ?_
    refine then_normal ?_
    refine wq_seq ?_
    refine wq_block ?_
    refine wq_seq ?_
    have hf := fwd_le (clB 1048576 b) 1048576 (fun i _ => clB_le b i) k
    have ht := tdiv_rnd (fwd (clB 1048576 b) k + 8)
    have hr : rnd (fwd (clB 1048576 b) k) = (fwd (clB 1048576 b) k + 8) / 16 := rfl
    refine wq_region ?_
    refine wl_v (.int .i64 (((k : Nat) : Int))) rfl rfl (y_mov rfl s76 ⟨rfl, rfl⟩) ?_
    refine wl_v (.pointer (some ⟨p27, k, none⟩)) rfl rfl (y_atR (k) (s := 1) rfl s75 rfl (by omega) Tryd.underlying22 (by omega) (by kernel_rfl) (by omega) ⟨rfl, rfl⟩) ?_
    refine wl_v (.int .i64 (fwd (clB 1048576 b) k)) rfl rfl (y_ldR rfl rfl Tryd.underlying3 (((B69).cell (by omega)).trans (some_int (upto_at k _ _))) ⟨rfl, rfl⟩) ?_
    refine wl_v (.int .i64 ((fwd (clB 1048576 b) k) + (8))) rfl rfl (y_add rfl rfl rfl (i64_i rfl (by omega)) ⟨rfl, rfl⟩) ?_
    refine wl_v (.int .i64 ((fwd (clB 1048576 b) k) + (8))) rfl rfl (y_asg rfl rfl ⟨rfl, rfl⟩) ?_
    refine wl_nil fun F79 hF80 => ?_
    have s81 : F79 0 = blkV (b) := (hF80 0).trans s72
    have s82 : F79 1 = .pointer (some ⟨p1, 0, none⟩) := (hF80 1).trans s73
    have s83 : F79 2 = .pointer (some ⟨p8, 0, none⟩) := (hF80 2).trans s74
    have s84 : F79 3 = .pointer (some ⟨p27, 0, none⟩) := (hF80 3).trans s75
    have s85 : F79 4 = .int .i64 (((k : Nat) : Int)) := (hF80 4).trans s76
    have s86 : F79 10 = .bool (decide ((((k : Nat) : Int)) < (16))) := (hF80 10).trans s77
    have s87 : F79 5 = .int .i64 ((fwd (clB 1048576 b) k) + (8)) := (hF80 5).trans rfl
    clear hF80
    refine then_normal ?_
    refine wq_seq ?_
    have ht3 : -16777224 ≤ Int.tdiv (fwd (clB 1048576 b) k + 8) 16 ∧ Int.tdiv (fwd (clB 1048576 b) k + 8) 16 ≤ 16777224 := by rcases Int.lt_or_le (fwd (clB 1048576 b) k + 8) (Int.tdiv (fwd (clB 1048576 b) k + 8) 16 * 16) with h | h; have := ht.1 h; omega; have := ht.2 (by omega); omega
    refine wq_region ?_
    refine wl_v (.int .i64 ((fwd (clB 1048576 b) k) + (8))) rfl rfl (y_mov rfl s87 ⟨rfl, rfl⟩) ?_
    refine wl_v (.int .i64 (Int.tdiv ((fwd (clB 1048576 b) k) + (8)) (16))) rfl rfl (y_quo rfl rfl rfl (by decide) (i64_i rfl (by omega)) ⟨rfl, rfl⟩) ?_
    refine wl_v (.int .i64 (Int.tdiv ((fwd (clB 1048576 b) k) + (8)) (16))) rfl rfl (y_asg rfl rfl ⟨rfl, rfl⟩) ?_
    refine wl_nil fun F88 hF89 => ?_
    have s90 : F88 0 = blkV (b) := (hF89 0).trans s81
    have s91 : F88 1 = .pointer (some ⟨p1, 0, none⟩) := (hF89 1).trans s82
    have s92 : F88 2 = .pointer (some ⟨p8, 0, none⟩) := (hF89 2).trans s83
    have s93 : F88 3 = .pointer (some ⟨p27, 0, none⟩) := (hF89 3).trans s84
    have s94 : F88 4 = .int .i64 (((k : Nat) : Int)) := (hF89 4).trans s85
    have s95 : F88 10 = .bool (decide ((((k : Nat) : Int)) < (16))) := (hF89 10).trans s86
    have s96 : F88 5 = .int .i64 ((fwd (clB 1048576 b) k) + (8)) := (hF89 5).trans s87
    have s97 : F88 6 = .int .i64 (Int.tdiv ((fwd (clB 1048576 b) k) + (8)) (16)) := (hF89 6).trans rfl
    clear hF89
    refine then_normal ?_
    refine wq_seq ?_
    refine wq_seq ?_
    refine wq_region ?_
    refine wl_v (.int .i64 (Int.tdiv ((fwd (clB 1048576 b) k) + (8)) (16))) rfl rfl (y_mov rfl s97 ⟨rfl, rfl⟩) ?_
    refine wl_v (.int .i64 ((Int.tdiv ((fwd (clB 1048576 b) k) + (8)) (16)) * (16))) rfl rfl (y_mul rfl rfl rfl (i64_i rfl (by omega)) ⟨rfl, rfl⟩) ?_
    refine wl_v (.int .i64 ((fwd (clB 1048576 b) k) + (8))) rfl rfl (y_mov rfl s96 ⟨rfl, rfl⟩) ?_
    refine wl_v (.bool (decide (((fwd (clB 1048576 b) k) + (8)) < ((Int.tdiv ((fwd (clB 1048576 b) k) + (8)) (16)) * (16))))) rfl rfl (y_gtr rfl rfl rfl rfl ⟨rfl, rfl⟩) ?_
    refine wl_nil fun F98 hF99 => ?_
    have s100 : F98 0 = blkV (b) := (hF99 0).trans s90
    have s101 : F98 1 = .pointer (some ⟨p1, 0, none⟩) := (hF99 1).trans s91
    have s102 : F98 2 = .pointer (some ⟨p8, 0, none⟩) := (hF99 2).trans s92
    have s103 : F98 3 = .pointer (some ⟨p27, 0, none⟩) := (hF99 3).trans s93
    have s104 : F98 4 = .int .i64 (((k : Nat) : Int)) := (hF99 4).trans s94
    have s105 : F98 10 = .bool (decide ((((k : Nat) : Int)) < (16))) := (hF99 10).trans s95
    have s106 : F98 5 = .int .i64 ((fwd (clB 1048576 b) k) + (8)) := (hF99 5).trans s96
    have s107 : F98 6 = .int .i64 (Int.tdiv ((fwd (clB 1048576 b) k) + (8)) (16)) := (hF99 6).trans s97
    have s108 : F98 22 = .bool (decide (((fwd (clB 1048576 b) k) + (8)) < ((Int.tdiv ((fwd (clB 1048576 b) k) + (8)) (16)) * (16)))) := (hF99 22).trans rfl
    clear hF99
    refine then_normal ?_
    refine wq_cond s108 (fun c109 => ?_) (fun c109 => ?_)
    · replace c109 := of_decide_eq_true c109
      refine wq_region ?_
      refine wl_v (.int .i64 (Int.tdiv ((fwd (clB 1048576 b) k) + (8)) (16))) rfl rfl (y_mov rfl s107 ⟨rfl, rfl⟩) ?_
      refine wl_v (.int .i64 (rnd (fwd (clB 1048576 b) k))) rfl rfl (y_sub rfl rfl rfl (i64_i (by rw [ht.1 (by omega)]; rfl) (by omega)) ⟨rfl, rfl⟩) ?_
      refine wl_v (.int .i64 (rnd (fwd (clB 1048576 b) k))) rfl rfl (y_asg rfl rfl ⟨rfl, rfl⟩) ?_
      refine wl_nil fun F110 hF111 => ?_
      have s112 : F110 0 = blkV (b) := (hF111 0).trans s100
      have s113 : F110 1 = .pointer (some ⟨p1, 0, none⟩) := (hF111 1).trans s101
      have s114 : F110 2 = .pointer (some ⟨p8, 0, none⟩) := (hF111 2).trans s102
      have s115 : F110 3 = .pointer (some ⟨p27, 0, none⟩) := (hF111 3).trans s103
      have s116 : F110 4 = .int .i64 (((k : Nat) : Int)) := (hF111 4).trans s104
      have s117 : F110 10 = .bool (decide ((((k : Nat) : Int)) < (16))) := (hF111 10).trans s105
      have s118 : F110 5 = .int .i64 ((fwd (clB 1048576 b) k) + (8)) := (hF111 5).trans s106
      have s119 : F110 22 = .bool (decide (((fwd (clB 1048576 b) k) + (8)) < ((Int.tdiv ((fwd (clB 1048576 b) k) + (8)) (16)) * (16)))) := (hF111 22).trans s108
      have s120 : F110 6 = .int .i64 (rnd (fwd (clB 1048576 b) k)) := (hF111 6).trans rfl
      clear hF111
      refine then_normal ?_
      refine wq_region ?_
      refine wl_v (.int .i64 (((k : Nat) : Int))) rfl rfl (y_mov rfl s116 ⟨rfl, rfl⟩) ?_
      refine wl_v (.int .i64 (rnd (fwd (clB 1048576 b) k))) rfl rfl (y_mov rfl s120 ⟨rfl, rfl⟩) ?_
      refine wl_v (.pointer (some ⟨p27, k, none⟩)) rfl rfl (y_atR (k) (s := 1) rfl s115 rfl (by omega) Tryd.underlying22 (by omega) (by kernel_rfl) (by omega) ⟨rfl, rfl⟩) ?_
      refine wl_set_blk rfl rfl rfl rfl rfl B69 (by omega) (by kernel_rfl) fun w121 B122 k123 => ?_
      have B124 := B67.all k123 ne32
      have B125 := B68.all k123 ne33
      have K126 := K59.trans k123 (fun _ hi e => absurd (e ▸ hi) (Nat.not_lt.2 lp34))
      refine wl_nil fun F127 hF128 => ?_
      have s129 : F127 0 = blkV (b) := (hF128 0).trans s112
      have s130 : F127 1 = .pointer (some ⟨p1, 0, none⟩) := (hF128 1).trans s113
      have s131 : F127 2 = .pointer (some ⟨p8, 0, none⟩) := (hF128 2).trans s114
      have s132 : F127 3 = .pointer (some ⟨p27, 0, none⟩) := (hF128 3).trans s115
      have s133 : F127 4 = .int .i64 (((k : Nat) : Int)) := (hF128 4).trans s116
      have s134 : F127 10 = .bool (decide ((((k : Nat) : Int)) < (16))) := (hF128 10).trans s117
      have s135 : F127 5 = .int .i64 ((fwd (clB 1048576 b) k) + (8)) := (hF128 5).trans s118
      have s136 : F127 22 = .bool (decide (((fwd (clB 1048576 b) k) + (8)) < ((Int.tdiv ((fwd (clB 1048576 b) k) + (8)) (16)) * (16)))) := (hF128 22).trans s119
      have s137 : F127 6 = .int .i64 (rnd (fwd (clB 1048576 b) k)) := (hF128 6).trans s120
      clear hF128
      refine in_normal ?_
      refine then_normal ?_
      refine wq_region ?_
      refine wl_v (.int .i64 (((k : Nat) : Int))) rfl rfl (y_mov rfl s133 ⟨rfl, rfl⟩) ?_
      refine wl_v (.int .i64 (((k + 1 : Nat) : Int))) rfl rfl (y_add rfl rfl rfl (i64_n (by omega) (by omega)) ⟨rfl, rfl⟩) ?_
      refine wl_v (.int .i64 (((k + 1 : Nat) : Int))) rfl rfl (y_asg rfl rfl ⟨rfl, rfl⟩) ?_
      refine wl_nil fun F138 hF139 => ?_
      have s140 : F138 0 = blkV (b) := (hF139 0).trans s129
      have s141 : F138 1 = .pointer (some ⟨p1, 0, none⟩) := (hF139 1).trans s130
      have s142 : F138 2 = .pointer (some ⟨p8, 0, none⟩) := (hF139 2).trans s131
      have s143 : F138 3 = .pointer (some ⟨p27, 0, none⟩) := (hF139 3).trans s132
      have s144 : F138 10 = .bool (decide ((((k : Nat) : Int)) < (16))) := (hF139 10).trans s134
      have s145 : F138 5 = .int .i64 ((fwd (clB 1048576 b) k) + (8)) := (hF139 5).trans s135
      have s146 : F138 22 = .bool (decide (((fwd (clB 1048576 b) k) + (8)) < ((Int.tdiv ((fwd (clB 1048576 b) k) + (8)) (16)) * (16)))) := (hF139 22).trans s136
      have s147 : F138 6 = .int .i64 (rnd (fwd (clB 1048576 b) k)) := (hF139 6).trans s137
      have s148 : F138 4 = .int .i64 (((k + 1 : Nat) : Int)) := (hF139 4).trans rfl
      clear hF139
      exact then_normal ⟨(16 - (k + 1)), by omega, k + 1, by omega, rfl, s140, s141, s142, s143, s148, K126, B124, B125, (B122.next rfl)⟩
    · replace c109 := of_decide_eq_false c109
      refine wq_skip ?_
      refine then_normal ?_
      have s149 := s107.trans (congrArg (Value.int .i64) (ht.2 (by omega)))
      refine wq_region ?_
      refine wl_v (.int .i64 (((k : Nat) : Int))) rfl rfl (y_mov rfl s104 ⟨rfl, rfl⟩) ?_
      refine wl_v (.int .i64 (rnd (fwd (clB 1048576 b) k))) rfl rfl (y_mov rfl s149 ⟨rfl, rfl⟩) ?_
      refine wl_v (.pointer (some ⟨p27, k, none⟩)) rfl rfl (y_atR (k) (s := 1) rfl s103 rfl (by omega) Tryd.underlying22 (by omega) (by kernel_rfl) (by omega) ⟨rfl, rfl⟩) ?_
      refine wl_set_blk rfl rfl rfl rfl rfl B69 (by omega) (by kernel_rfl) fun w150 B151 k152 => ?_
      have B153 := B67.all k152 ne32
      have B154 := B68.all k152 ne33
      have K155 := K59.trans k152 (fun _ hi e => absurd (e ▸ hi) (Nat.not_lt.2 lp34))
      refine wl_nil fun F156 hF157 => ?_
      have s158 : F156 0 = blkV (b) := (hF157 0).trans s100
      have s159 : F156 1 = .pointer (some ⟨p1, 0, none⟩) := (hF157 1).trans s101
      have s160 : F156 2 = .pointer (some ⟨p8, 0, none⟩) := (hF157 2).trans s102
      have s161 : F156 3 = .pointer (some ⟨p27, 0, none⟩) := (hF157 3).trans s103
      have s162 : F156 4 = .int .i64 (((k : Nat) : Int)) := (hF157 4).trans s104
      have s163 : F156 10 = .bool (decide ((((k : Nat) : Int)) < (16))) := (hF157 10).trans s105
      have s164 : F156 5 = .int .i64 ((fwd (clB 1048576 b) k) + (8)) := (hF157 5).trans s106
      have s165 : F156 6 = .int .i64 (rnd (fwd (clB 1048576 b) k)) := (hF157 6).trans s149
      have s166 : F156 22 = .bool (decide (((fwd (clB 1048576 b) k) + (8)) < ((Int.tdiv ((fwd (clB 1048576 b) k) + (8)) (16)) * (16)))) := (hF157 22).trans s108
      clear hF157
      refine in_normal ?_
      refine then_normal ?_
      refine wq_region ?_
      refine wl_v (.int .i64 (((k : Nat) : Int))) rfl rfl (y_mov rfl s162 ⟨rfl, rfl⟩) ?_
      refine wl_v (.int .i64 (((k + 1 : Nat) : Int))) rfl rfl (y_add rfl rfl rfl (i64_n (by omega) (by omega)) ⟨rfl, rfl⟩) ?_
      refine wl_v (.int .i64 (((k + 1 : Nat) : Int))) rfl rfl (y_asg rfl rfl ⟨rfl, rfl⟩) ?_
      refine wl_nil fun F167 hF168 => ?_
      have s169 : F167 0 = blkV (b) := (hF168 0).trans s158
      have s170 : F167 1 = .pointer (some ⟨p1, 0, none⟩) := (hF168 1).trans s159
      have s171 : F167 2 = .pointer (some ⟨p8, 0, none⟩) := (hF168 2).trans s160
      have s172 : F167 3 = .pointer (some ⟨p27, 0, none⟩) := (hF168 3).trans s161
      have s173 : F167 10 = .bool (decide ((((k : Nat) : Int)) < (16))) := (hF168 10).trans s163
      have s174 : F167 5 = .int .i64 ((fwd (clB 1048576 b) k) + (8)) := (hF168 5).trans s164
      have s175 : F167 6 = .int .i64 (rnd (fwd (clB 1048576 b) k)) := (hF168 6).trans s165
      have s176 : F167 22 = .bool (decide (((fwd (clB 1048576 b) k) + (8)) < ((Int.tdiv ((fwd (clB 1048576 b) k) + (8)) (16)) * (16)))) := (hF168 22).trans s166
      have s177 : F167 4 = .int .i64 (((k + 1 : Nat) : Int)) := (hF168 4).trans rfl
      clear hF168
      exact then_normal ⟨(16 - (k + 1)), by omega, k + 1, by omega, rfl, s169, s170, s171, s172, s177, K155, B153, B154, (B151.next rfl)⟩
  · replace c78 := of_decide_eq_false c78
    refine wq_exit ?_
    refine then_exit ?_
    refine then_exit ?_
    have l178 : 16 = k := by omega
    subst l178
    have B179 : Blk w58 p27 22 (backB b) := (B69.last)
    refine in_here ?_
    refine then_normal ?_
    refine wq_seq ?_
    refine wq_region ?_
    refine wl_v (blkV (backB b)) rfl rfl (y_load_blk blkT_arr rfl s75 B179 ⟨rfl, rfl⟩) ?_
    refine wl_store_blk blkT_arr rfl rfl rfl s74 rfl B68 fun w180 B181 k182 => ?_
    have B183 := B67.all k182 ne13
    have B184 := B179.all k182 (Ne.symm ne33)
    have K185 := K59.trans k182 (fun _ hi e => absurd (e ▸ hi) (Nat.not_lt.2 lp14))
    refine wl_nil fun F186 hF187 => ?_
    have s188 : F186 0 = blkV (b) := (hF187 0).trans s72
    have s189 : F186 1 = .pointer (some ⟨p1, 0, none⟩) := (hF187 1).trans s73
    have s190 : F186 2 = .pointer (some ⟨p8, 0, none⟩) := (hF187 2).trans s74
    have s191 : F186 3 = .pointer (some ⟨p27, 0, none⟩) := (hF187 3).trans s75
    have s192 : F186 4 = .int .i64 (((16 : Nat) : Int)) := (hF187 4).trans s76
    have s193 : F186 10 = .bool (decide ((((16 : Nat) : Int)) < (16))) := (hF187 10).trans s77
    clear hF187
    refine then_normal ?_
    refine wq_ret ?_
    exact end_blk blkT_arr rfl s190 B181 ⟨rfl, K185⟩

set_option maxHeartbeats 4000000 in
set_option maxRecDepth 100000 in
theorem ref_less (a b : Nat → Int) (w0 : World) :
    Calls Tryd.prog 15 #[blkV (a), blkV (b)] w0 fun e w' => e = .returned (blkV (lessB a b)) ∧ Kept (fun _ => False) w0 w' := by
  refine calls_wq (args := [blkV (a), blkV (b)]) 24 Tryd.func15 rfl rfl (Nat.le_of_ble_eq_true rfl) ?_
  have K0 := Kept.refl (fun _ => False) w0
  refine wq_seq ?_
  refine wq_region ?_
  refine wl_box_blk rfl rfl rfl rfl fun p1 w2 e5 B3 k4 => ?_
  have lp6 : w0.heap.size ≤ p1 := by have h_ := K0.size; omega
  clear e5
  have K7 := K0.trans k4 (fun _ _ x => x)
  refine wl_box_blk rfl rfl rfl rfl fun p8 w9 e12 B10 k11 => ?_
  have ne13 : p1 ≠ p8 := by have h_ := B3.lt; omega
  have lp14 : w0.heap.size ≤ p8 := by have h_ := K7.size; omega
  clear e12
  have B15 := B3.all k11 id
  have K16 := K7.trans k11 (fun _ _ x => x)
  refine wl_alloc_blk rfl rfl rfl blkT_arr.2.2 fun p17 w18 e21 B19 k20 => ?_
  have ne22 : p1 ≠ p17 := by have h_ := B15.lt; omega
  have ne23 : p8 ≠ p17 := by have h_ := B10.lt; omega
  have lp24 : w0.heap.size ≤ p17 := by have h_ := K16.size; omega
  clear e21
  have B25 := B15.all k20 id
  have B26 := B10.all k20 id
  have K27 := K16.trans k20 (fun _ _ x => x)
  refine wl_nil fun F28 hF29 => ?_
  have s30 : F28 0 = blkV (a) := (hF29 0).trans rfl
  have s31 : F28 1 = blkV (b) := (hF29 1).trans rfl
  have s32 : F28 2 = .pointer (some ⟨p1, 0, none⟩) := (hF29 2).trans rfl
  have s33 : F28 3 = .pointer (some ⟨p8, 0, none⟩) := (hF29 3).trans rfl
  have s34 : F28 4 = .pointer (some ⟨p17, 0, none⟩) := (hF29 4).trans rfl
  clear hF29
  refine then_normal ?_
  refine wq_seq ?_
  refine wq_region ?_
  refine wl_v (blkV (fun _ => 0)) rfl rfl (y_buildR (cells := (arrL 16 (fun _ => 0)).toArray) rfl (by kernel_rfl) rfl ⟨rfl, rfl⟩) ?_
  refine wl_alloc_blk rfl rfl rfl blkT_arr.2.2 fun p35 w36 e39 B37 k38 => ?_
  have ne40 : p1 ≠ p35 := by have h_ := B25.lt; omega
  have ne41 : p8 ≠ p35 := by have h_ := B26.lt; omega
  have ne42 : p17 ≠ p35 := by have h_ := B19.lt; omega
  have lp43 : w0.heap.size ≤ p35 := by have h_ := K27.size; omega
  clear e39
  have B44 := B25.all k38 id
  have B45 := B26.all k38 id
  have B46 := B19.all k38 id
  have K47 := K27.trans k38 (fun _ _ x => x)
  refine wl_store_blk blkT_arr rfl rfl rfl rfl rfl B37 fun w48 B49 k50 => ?_
  have B51 := B44.all k50 ne40
  have B52 := B45.all k50 ne41
  have B53 := B46.all k50 ne42
  have K54 := K47.trans k50 (fun _ hi e => absurd (e ▸ hi) (Nat.not_lt.2 lp43))
  refine wl_nil fun F55 hF56 => ?_
  have s57 : F55 0 = blkV (a) := (hF56 0).trans s30
  have s58 : F55 1 = blkV (b) := (hF56 1).trans s31
  have s59 : F55 2 = .pointer (some ⟨p1, 0, none⟩) := (hF56 2).trans s32
  have s60 : F55 3 = .pointer (some ⟨p8, 0, none⟩) := (hF56 3).trans s33
  have s61 : F55 4 = .pointer (some ⟨p17, 0, none⟩) := (hF56 4).trans s34
  have s62 : F55 5 = .pointer (some ⟨p35, 0, none⟩) := (hF56 5).trans rfl
  clear hF56
  refine then_normal ?_
  refine wq_seq ?_
  refine wq_seq ?_
  refine wq_region ?_
  refine wl_v (.int .i64 (0)) rfl rfl (y_asg rfl rfl ⟨rfl, rfl⟩) ?_
  refine wl_nil fun F63 hF64 => ?_
  have s65 : F63 0 = blkV (a) := (hF64 0).trans s57
  have s66 : F63 1 = blkV (b) := (hF64 1).trans s58
  have s67 : F63 2 = .pointer (some ⟨p1, 0, none⟩) := (hF64 2).trans s59
  have s68 : F63 3 = .pointer (some ⟨p8, 0, none⟩) := (hF64 3).trans s60
  have s69 : F63 4 = .pointer (some ⟨p17, 0, none⟩) := (hF64 4).trans s61
  have s70 : F63 5 = .pointer (some ⟨p35, 0, none⟩) := (hF64 5).trans s62
  have s71 : F63 6 = .int .i64 (0) := (hF64 6).trans rfl
  clear hF64
  refine then_normal ?_
  refine wq_block ?_
  refine wq_loop (fun nn FF ww => ∃ (k : Nat), k ≤ 16 ∧ nn = 16 - k ∧ FF 0 = blkV (a) ∧ FF 1 = blkV (b) ∧ FF 2 = .pointer (some ⟨p1, 0, none⟩) ∧ FF 3 = .pointer (some ⟨p8, 0, none⟩) ∧ FF 4 = .pointer (some ⟨p17, 0, none⟩) ∧ FF 5 = .pointer (some ⟨p35, 0, none⟩) ∧ FF 6 = .int .i64 (((k : Nat) : Int)) ∧ Kept (fun _ => False) w0 ww ∧ Blk ww p1 22 (a) ∧ Blk ww p8 22 (b) ∧ Blk ww p17 22 (fun _ => 0) ∧ Blk ww p35 22 (upto k (fun _ => 0) (lessB a b))) (16 - (0)) ⟨0, by omega, rfl, s65, s66, s67, s68, s69, s70, s71, K54, B51, B52, B53, B49.first⟩ ?_
  rintro n75 F72 w73 ⟨k, i76, hn75, s77, s78, s79, s80, s81, s82, s83, K74, B84, B85, B86, B87⟩
  refine wq_seq ?_
  refine wq_seq ?_
  refine wq_region ?_
  refine wl_v (.int .i64 (((k : Nat) : Int))) rfl rfl (y_mov rfl s83 ⟨rfl, rfl⟩) ?_
  refine wl_v (.bool (decide ((((k : Nat) : Int)) < (16)))) rfl rfl (y_lss rfl rfl rfl rfl ⟨rfl, rfl⟩) ?_
  refine wl_nil fun F88 hF89 => ?_
  have s90 : F88 0 = blkV (a) := (hF89 0).trans s77
  have s91 : F88 1 = blkV (b) := (hF89 1).trans s78
  have s92 : F88 2 = .pointer (some ⟨p1, 0, none⟩) := (hF89 2).trans s79
  have s93 : F88 3 = .pointer (some ⟨p8, 0, none⟩) := (hF89 3).trans s80
  have s94 : F88 4 = .pointer (some ⟨p17, 0, none⟩) := (hF89 4).trans s81
  have s95 : F88 5 = .pointer (some ⟨p35, 0, none⟩) := (hF89 5).trans s82
  have s96 : F88 6 = .int .i64 (((k : Nat) : Int)) := (hF89 6).trans s83
  have s97 : F88 9 = .bool (decide ((((k : Nat) : Int)) < (16))) := (hF89 9).trans rfl
  clear hF89
  refine then_normal ?_
  refine wq_cond s97 (fun c98 => ?_) (fun c98 => ?_)
  · replace c98 := of_decide_eq_true c98
    refine wq_skip ?_
    refine then_normal ?_
    refine wq_seq ?_
    refine wq_block ?_
    have h1 : -1048576 ≤ cl 1048576 (a k) ∧ cl 1048576 (a k) ≤ 1048576 := clB_le a k
    have h2 : -1048576 ≤ cl 1048576 (b k) ∧ cl 1048576 (b k) ≤ 1048576 := clB_le b k
    refine wq_tail 11 [some 12, some 13, some 14, some 15, some 16, some 17, some 18, some 19, some 20, some 21, some 22] [Pd.eq (.int .i64 (((k : Nat) : Int))), Pd.eq (.int .i64 (((k : Nat) : Int))), Pd.eq (.pointer (some ⟨p1, k, none⟩)), Pd.eq (.int .i64 ((a) (k))), Pd.eq (.int .i64 (cl 1048576 ((a) (k)))), Pd.eq (.int .i64 (((k : Nat) : Int))), Pd.eq (.pointer (some ⟨p8, k, none⟩)), Pd.eq (.int .i64 ((b) (k))), Pd.eq (.int .i64 (cl 1048576 ((b) (k)))), Pd.eq (.int .i64 ((cl 1048576 ((a) (k))) - (cl 1048576 ((b) (k))))), Pd.eq (.pointer (some ⟨p35, k, none⟩))] (by kernel_rfl) (by kernel_rfl) (by kernel_rfl) ?_ ?_
    · refine stepsF_cons ?_ ?_
      · refine StepF.one rfl fun F_ w_ hR hout hD => ?_
        exact (y_mov rfl ((hout 6 (by decide)).trans s96) ⟨rfl, Kept.refl _ _⟩)
      refine stepsF_cons ?_ ?_
      · refine StepF.one rfl fun F_ w_ hR hout hD => ?_
        exact (y_mov rfl ((hout 6 (by decide)).trans s96) ⟨rfl, Kept.refl _ _⟩)
      refine stepsF_cons ?_ ?_
      · refine StepF.one rfl fun F_ w_ hR hout hD => ?_
        have g13 : F_ 13 = .int .i64 (((k : Nat) : Int)) := hD.get 0 rfl rfl rfl
        exact (y_atR (k) (s := 1) rfl ((hout 2 (by decide)).trans s92) g13 (by omega) Tryd.underlying22 (by omega) (by kernel_rfl) (by omega) ⟨rfl, Kept.refl _ _⟩)
      refine stepsF_cons ?_ ?_
      · refine StepF.one rfl fun F_ w_ hR hout hD => ?_
        have g14 : F_ 14 = .pointer (some ⟨p1, k, none⟩) := hD.get 0 rfl rfl rfl
        exact (y_ldR rfl g14 Tryd.underlying3 (((B84.all hR id)).cell (by omega)) ⟨rfl, Kept.refl _ _⟩)
      refine stepsF_cons ?_ ?_
      · refine StepF.one rfl fun F_ w_ hR hout hD => ?_
        have g15 : F_ 15 = .int .i64 ((a) (k)) := hD.get 0 rfl rfl rfl
        exact (y_cs rfl rfl rfl (fun _ _ => by kernel_rfl) (ev_func _) (vsC g15 vsN) (ref_clamp ((a) (k)) _ ) (fun e_ w_ h_ => ⟨_, h_.1, rfl, h_.2⟩))
      refine stepsF_cons ?_ ?_
      · refine StepF.one rfl fun F_ w_ hR hout hD => ?_
        exact (y_mov rfl ((hout 6 (by decide)).trans s96) ⟨rfl, Kept.refl _ _⟩)
      refine stepsF_cons ?_ ?_
      · refine StepF.one rfl fun F_ w_ hR hout hD => ?_
        have g17 : F_ 17 = .int .i64 (((k : Nat) : Int)) := hD.get 0 rfl rfl rfl
        exact (y_atR (k) (s := 1) rfl ((hout 3 (by decide)).trans s93) g17 (by omega) Tryd.underlying22 (by omega) (by kernel_rfl) (by omega) ⟨rfl, Kept.refl _ _⟩)
      refine stepsF_cons ?_ ?_
      · refine StepF.one rfl fun F_ w_ hR hout hD => ?_
        have g18 : F_ 18 = .pointer (some ⟨p8, k, none⟩) := hD.get 0 rfl rfl rfl
        exact (y_ldR rfl g18 Tryd.underlying3 (((B85.all hR id)).cell (by omega)) ⟨rfl, Kept.refl _ _⟩)
      refine stepsF_cons ?_ ?_
      · refine StepF.one rfl fun F_ w_ hR hout hD => ?_
        have g19 : F_ 19 = .int .i64 ((b) (k)) := hD.get 0 rfl rfl rfl
        exact (y_cs rfl rfl rfl (fun _ _ => by kernel_rfl) (ev_func _) (vsC g19 vsN) (ref_clamp ((b) (k)) _ ) (fun e_ w_ h_ => ⟨_, h_.1, rfl, h_.2⟩))
      refine stepsF_cons ?_ ?_
      · refine StepF.one rfl fun F_ w_ hR hout hD => ?_
        have g16 : F_ 16 = .int .i64 (cl 1048576 ((a) (k))) := hD.get 0 rfl rfl rfl
        have g20 : F_ 20 = .int .i64 (cl 1048576 ((b) (k))) := hD.get 1 rfl rfl rfl
        exact (y_sub rfl g16 g20 (i64_i rfl (by omega)) ⟨rfl, Kept.refl _ _⟩)
      refine stepsF_cons ?_ ?_
      · refine StepF.one rfl fun F_ w_ hR hout hD => ?_
        have g12 : F_ 12 = .int .i64 (((k : Nat) : Int)) := hD.get 0 rfl rfl rfl
        exact (y_atR (k) (s := 1) rfl ((hout 5 (by decide)).trans s95) g12 (by omega) Tryd.underlying22 (by omega) (by kernel_rfl) (by omega) ⟨rfl, Kept.refl _ _⟩)
      exact stepsF_nil
    intro v99 F100 w101 k102 G103 hF104
    have B105 := B84.all k102 id
    have B106 := B85.all k102 id
    have B107 := B86.all k102 id
    have B108 := B87.all k102 id
    have K109 := K74.trans k102 (fun _ _ x => x)
    have s110 : F100 0 = blkV (a) := (hF104 0).trans s90
    have s111 : F100 1 = blkV (b) := (hF104 1).trans s91
    have s112 : F100 2 = .pointer (some ⟨p1, 0, none⟩) := (hF104 2).trans s92
    have s113 : F100 3 = .pointer (some ⟨p8, 0, none⟩) := (hF104 3).trans s93
    have s114 : F100 4 = .pointer (some ⟨p17, 0, none⟩) := (hF104 4).trans s94
    have s115 : F100 5 = .pointer (some ⟨p35, 0, none⟩) := (hF104 5).trans s95
    have s116 : F100 6 = .int .i64 (((k : Nat) : Int)) := (hF104 6).trans s96
    have s117 : F100 9 = .bool (decide ((((k : Nat) : Int)) < (16))) := (hF104 9).trans s97
    have s118 : F100 21 = .int .i64 ((cl 1048576 ((a) (k))) - (cl 1048576 ((b) (k)))) := (hF104 21).trans (G103 9 (by decide))
    have s119 : F100 22 = .pointer (some ⟨p35, k, none⟩) := (hF104 22).trans (G103 10 (by decide))
    clear G103 hF104
    refine wl_set_blk rfl rfl rfl s119 s118 B108 (by omega) (by kernel_rfl) fun w120 B121 k122 => ?_
    have B123 := B105.all k122 ne40
    have B124 := B106.all k122 ne41
    have B125 := B107.all k122 ne42
    have K126 := K109.trans k122 (fun _ hi e => absurd (e ▸ hi) (Nat.not_lt.2 lp43))
    refine wl_nil fun F127 hF128 => ?_
    have s129 : F127 0 = blkV (a) := (hF128 0).trans s110
    have s130 : F127 1 = blkV (b) := (hF128 1).trans s111
    have s131 : F127 2 = .pointer (some ⟨p1, 0, none⟩) := (hF128 2).trans s112
    have s132 : F127 3 = .pointer (some ⟨p8, 0, none⟩) := (hF128 3).trans s113
    have s133 : F127 4 = .pointer (some ⟨p17, 0, none⟩) := (hF128 4).trans s114
    have s134 : F127 5 = .pointer (some ⟨p35, 0, none⟩) := (hF128 5).trans s115
    have s135 : F127 6 = .int .i64 (((k : Nat) : Int)) := (hF128 6).trans s116
    have s136 : F127 9 = .bool (decide ((((k : Nat) : Int)) < (16))) := (hF128 9).trans s117
    clear hF128
    refine in_normal ?_
    refine then_normal ?_
    refine wq_region ?_
    refine wl_v (.int .i64 (((k : Nat) : Int))) rfl rfl (y_mov rfl s135 ⟨rfl, rfl⟩) ?_
    refine wl_v (.int .i64 (((k + 1 : Nat) : Int))) rfl rfl (y_add rfl rfl rfl (i64_n (by omega) (by omega)) ⟨rfl, rfl⟩) ?_
    refine wl_v (.int .i64 (((k + 1 : Nat) : Int))) rfl rfl (y_asg rfl rfl ⟨rfl, rfl⟩) ?_
    refine wl_nil fun F137 hF138 => ?_
    have s139 : F137 0 = blkV (a) := (hF138 0).trans s129
    have s140 : F137 1 = blkV (b) := (hF138 1).trans s130
    have s141 : F137 2 = .pointer (some ⟨p1, 0, none⟩) := (hF138 2).trans s131
    have s142 : F137 3 = .pointer (some ⟨p8, 0, none⟩) := (hF138 3).trans s132
    have s143 : F137 4 = .pointer (some ⟨p17, 0, none⟩) := (hF138 4).trans s133
    have s144 : F137 5 = .pointer (some ⟨p35, 0, none⟩) := (hF138 5).trans s134
    have s145 : F137 9 = .bool (decide ((((k : Nat) : Int)) < (16))) := (hF138 9).trans s136
    have s146 : F137 6 = .int .i64 (((k + 1 : Nat) : Int)) := (hF138 6).trans rfl
    clear hF138
    exact then_normal ⟨(16 - (k + 1)), by omega, k + 1, by omega, rfl, s139, s140, s141, s142, s143, s144, s146, K126, B123, B124, B125, (B121.next rfl)⟩
  · replace c98 := of_decide_eq_false c98
    refine wq_exit ?_
    refine then_exit ?_
    refine then_exit ?_
    have l147 : 16 = k := by omega
    subst l147
    have B148 : Blk w73 p35 22 (lessB a b) := (B87.last)
    refine in_here ?_
    refine then_normal ?_
    refine wq_seq ?_
    refine wq_region ?_
    refine wl_v (blkV (lessB a b)) rfl rfl (y_load_blk blkT_arr rfl s95 B148 ⟨rfl, rfl⟩) ?_
    refine wl_store_blk blkT_arr rfl rfl rfl s94 rfl B86 fun w149 B150 k151 => ?_
    have B152 := B84.all k151 ne22
    have B153 := B85.all k151 ne23
    have B154 := B148.all k151 (Ne.symm ne42)
    have K155 := K74.trans k151 (fun _ hi e => absurd (e ▸ hi) (Nat.not_lt.2 lp24))
    refine wl_nil fun F156 hF157 => ?_
    have s158 : F156 0 = blkV (a) := (hF157 0).trans s90
    have s159 : F156 1 = blkV (b) := (hF157 1).trans s91
    have s160 : F156 2 = .pointer (some ⟨p1, 0, none⟩) := (hF157 2).trans s92
    have s161 : F156 3 = .pointer (some ⟨p8, 0, none⟩) := (hF157 3).trans s93
    have s162 : F156 4 = .pointer (some ⟨p17, 0, none⟩) := (hF157 4).trans s94
    have s163 : F156 5 = .pointer (some ⟨p35, 0, none⟩) := (hF157 5).trans s95
    have s164 : F156 6 = .int .i64 (((16 : Nat) : Int)) := (hF157 6).trans s96
    have s165 : F156 9 = .bool (decide ((((16 : Nat) : Int)) < (16))) := (hF157 9).trans s97
    clear hF157
    refine then_normal ?_
    refine wq_ret ?_
    exact end_blk blkT_arr rfl s162 B150 ⟨rfl, K155⟩

set_option maxHeartbeats 4000000 in
set_option maxRecDepth 100000 in
theorem ref_more (a b : Nat → Int) (w0 : World) :
    Calls Tryd.prog 17 #[blkV (a), blkV (b)] w0 fun e w' => e = .returned (blkV (moreB a b)) ∧ Kept (fun _ => False) w0 w' := by
  refine calls_wq (args := [blkV (a), blkV (b)]) 24 Tryd.func17 rfl rfl (Nat.le_of_ble_eq_true rfl) ?_
  have K0 := Kept.refl (fun _ => False) w0
  refine wq_seq ?_
  refine wq_region ?_
  refine wl_box_blk rfl rfl rfl rfl fun p1 w2 e5 B3 k4 => ?_
  have lp6 : w0.heap.size ≤ p1 := by have h_ := K0.size; omega
  clear e5
  have K7 := K0.trans k4 (fun _ _ x => x)
  refine wl_box_blk rfl rfl rfl rfl fun p8 w9 e12 B10 k11 => ?_
  have ne13 : p1 ≠ p8 := by have h_ := B3.lt; omega
  have lp14 : w0.heap.size ≤ p8 := by have h_ := K7.size; omega
  clear e12
  have B15 := B3.all k11 id
  have K16 := K7.trans k11 (fun _ _ x => x)
  refine wl_alloc_blk rfl rfl rfl blkT_arr.2.2 fun p17 w18 e21 B19 k20 => ?_
  have ne22 : p1 ≠ p17 := by have h_ := B15.lt; omega
  have ne23 : p8 ≠ p17 := by have h_ := B10.lt; omega
  have lp24 : w0.heap.size ≤ p17 := by have h_ := K16.size; omega
  clear e21
  have B25 := B15.all k20 id
  have B26 := B10.all k20 id
  have K27 := K16.trans k20 (fun _ _ x => x)
  refine wl_nil fun F28 hF29 => ?_
  have s30 : F28 0 = blkV (a) := (hF29 0).trans rfl
  have s31 : F28 1 = blkV (b) := (hF29 1).trans rfl
  have s32 : F28 2 = .pointer (some ⟨p1, 0, none⟩) := (hF29 2).trans rfl
  have s33 : F28 3 = .pointer (some ⟨p8, 0, none⟩) := (hF29 3).trans rfl
  have s34 : F28 4 = .pointer (some ⟨p17, 0, none⟩) := (hF29 4).trans rfl
  clear hF29
  refine then_normal ?_
  refine wq_seq ?_
  refine wq_region ?_
  refine wl_v (blkV (fun _ => 0)) rfl rfl (y_buildR (cells := (arrL 16 (fun _ => 0)).toArray) rfl (by kernel_rfl) rfl ⟨rfl, rfl⟩) ?_
  refine wl_alloc_blk rfl rfl rfl blkT_arr.2.2 fun p35 w36 e39 B37 k38 => ?_
  have ne40 : p1 ≠ p35 := by have h_ := B25.lt; omega
  have ne41 : p8 ≠ p35 := by have h_ := B26.lt; omega
  have ne42 : p17 ≠ p35 := by have h_ := B19.lt; omega
  have lp43 : w0.heap.size ≤ p35 := by have h_ := K27.size; omega
  clear e39
  have B44 := B25.all k38 id
  have B45 := B26.all k38 id
  have B46 := B19.all k38 id
  have K47 := K27.trans k38 (fun _ _ x => x)
  refine wl_store_blk blkT_arr rfl rfl rfl rfl rfl B37 fun w48 B49 k50 => ?_
  have B51 := B44.all k50 ne40
  have B52 := B45.all k50 ne41
  have B53 := B46.all k50 ne42
  have K54 := K47.trans k50 (fun _ hi e => absurd (e ▸ hi) (Nat.not_lt.2 lp43))
  refine wl_nil fun F55 hF56 => ?_
  have s57 : F55 0 = blkV (a) := (hF56 0).trans s30
  have s58 : F55 1 = blkV (b) := (hF56 1).trans s31
  have s59 : F55 2 = .pointer (some ⟨p1, 0, none⟩) := (hF56 2).trans s32
  have s60 : F55 3 = .pointer (some ⟨p8, 0, none⟩) := (hF56 3).trans s33
  have s61 : F55 4 = .pointer (some ⟨p17, 0, none⟩) := (hF56 4).trans s34
  have s62 : F55 5 = .pointer (some ⟨p35, 0, none⟩) := (hF56 5).trans rfl
  clear hF56
  refine then_normal ?_
  refine wq_seq ?_
  refine wq_seq ?_
  refine wq_region ?_
  refine wl_v (.int .i64 (0)) rfl rfl (y_asg rfl rfl ⟨rfl, rfl⟩) ?_
  refine wl_nil fun F63 hF64 => ?_
  have s65 : F63 0 = blkV (a) := (hF64 0).trans s57
  have s66 : F63 1 = blkV (b) := (hF64 1).trans s58
  have s67 : F63 2 = .pointer (some ⟨p1, 0, none⟩) := (hF64 2).trans s59
  have s68 : F63 3 = .pointer (some ⟨p8, 0, none⟩) := (hF64 3).trans s60
  have s69 : F63 4 = .pointer (some ⟨p17, 0, none⟩) := (hF64 4).trans s61
  have s70 : F63 5 = .pointer (some ⟨p35, 0, none⟩) := (hF64 5).trans s62
  have s71 : F63 6 = .int .i64 (0) := (hF64 6).trans rfl
  clear hF64
  refine then_normal ?_
  refine wq_block ?_
  refine wq_loop (fun nn FF ww => ∃ (k : Nat), k ≤ 16 ∧ nn = 16 - k ∧ FF 0 = blkV (a) ∧ FF 1 = blkV (b) ∧ FF 2 = .pointer (some ⟨p1, 0, none⟩) ∧ FF 3 = .pointer (some ⟨p8, 0, none⟩) ∧ FF 4 = .pointer (some ⟨p17, 0, none⟩) ∧ FF 5 = .pointer (some ⟨p35, 0, none⟩) ∧ FF 6 = .int .i64 (((k : Nat) : Int)) ∧ Kept (fun _ => False) w0 ww ∧ Blk ww p1 22 (a) ∧ Blk ww p8 22 (b) ∧ Blk ww p17 22 (fun _ => 0) ∧ Blk ww p35 22 (upto k (fun _ => 0) (moreB a b))) (16 - (0)) ⟨0, by omega, rfl, s65, s66, s67, s68, s69, s70, s71, K54, B51, B52, B53, B49.first⟩ ?_
  rintro n75 F72 w73 ⟨k, i76, hn75, s77, s78, s79, s80, s81, s82, s83, K74, B84, B85, B86, B87⟩
  refine wq_seq ?_
  refine wq_seq ?_
  refine wq_region ?_
  refine wl_v (.int .i64 (((k : Nat) : Int))) rfl rfl (y_mov rfl s83 ⟨rfl, rfl⟩) ?_
  refine wl_v (.bool (decide ((((k : Nat) : Int)) < (16)))) rfl rfl (y_lss rfl rfl rfl rfl ⟨rfl, rfl⟩) ?_
  refine wl_nil fun F88 hF89 => ?_
  have s90 : F88 0 = blkV (a) := (hF89 0).trans s77
  have s91 : F88 1 = blkV (b) := (hF89 1).trans s78
  have s92 : F88 2 = .pointer (some ⟨p1, 0, none⟩) := (hF89 2).trans s79
  have s93 : F88 3 = .pointer (some ⟨p8, 0, none⟩) := (hF89 3).trans s80
  have s94 : F88 4 = .pointer (some ⟨p17, 0, none⟩) := (hF89 4).trans s81
  have s95 : F88 5 = .pointer (some ⟨p35, 0, none⟩) := (hF89 5).trans s82
  have s96 : F88 6 = .int .i64 (((k : Nat) : Int)) := (hF89 6).trans s83
  have s97 : F88 9 = .bool (decide ((((k : Nat) : Int)) < (16))) := (hF89 9).trans rfl
  clear hF89
  refine then_normal ?_
  refine wq_cond s97 (fun c98 => ?_) (fun c98 => ?_)
  · replace c98 := of_decide_eq_true c98
    refine wq_skip ?_
    refine then_normal ?_
    refine wq_seq ?_
    refine wq_block ?_
    have h1 : -1048576 ≤ cl 1048576 (a k) ∧ cl 1048576 (a k) ≤ 1048576 := clB_le a k
    have h2 : -1048576 ≤ cl 1048576 (b k) ∧ cl 1048576 (b k) ≤ 1048576 := clB_le b k
    refine wq_tail 11 [some 12, some 13, some 14, some 15, some 16, some 17, some 18, some 19, some 20, some 21, some 22] [Pd.eq (.int .i64 (((k : Nat) : Int))), Pd.eq (.int .i64 (((k : Nat) : Int))), Pd.eq (.pointer (some ⟨p1, k, none⟩)), Pd.eq (.int .i64 ((a) (k))), Pd.eq (.int .i64 (cl 1048576 ((a) (k)))), Pd.eq (.int .i64 (((k : Nat) : Int))), Pd.eq (.pointer (some ⟨p8, k, none⟩)), Pd.eq (.int .i64 ((b) (k))), Pd.eq (.int .i64 (cl 1048576 ((b) (k)))), Pd.eq (.int .i64 ((cl 1048576 ((a) (k))) + (cl 1048576 ((b) (k))))), Pd.eq (.pointer (some ⟨p35, k, none⟩))] (by kernel_rfl) (by kernel_rfl) (by kernel_rfl) ?_ ?_
    · refine stepsF_cons ?_ ?_
      · refine StepF.one rfl fun F_ w_ hR hout hD => ?_
        exact (y_mov rfl ((hout 6 (by decide)).trans s96) ⟨rfl, Kept.refl _ _⟩)
      refine stepsF_cons ?_ ?_
      · refine StepF.one rfl fun F_ w_ hR hout hD => ?_
        exact (y_mov rfl ((hout 6 (by decide)).trans s96) ⟨rfl, Kept.refl _ _⟩)
      refine stepsF_cons ?_ ?_
      · refine StepF.one rfl fun F_ w_ hR hout hD => ?_
        have g13 : F_ 13 = .int .i64 (((k : Nat) : Int)) := hD.get 0 rfl rfl rfl
        exact (y_atR (k) (s := 1) rfl ((hout 2 (by decide)).trans s92) g13 (by omega) Tryd.underlying22 (by omega) (by kernel_rfl) (by omega) ⟨rfl, Kept.refl _ _⟩)
      refine stepsF_cons ?_ ?_
      · refine StepF.one rfl fun F_ w_ hR hout hD => ?_
        have g14 : F_ 14 = .pointer (some ⟨p1, k, none⟩) := hD.get 0 rfl rfl rfl
        exact (y_ldR rfl g14 Tryd.underlying3 (((B84.all hR id)).cell (by omega)) ⟨rfl, Kept.refl _ _⟩)
      refine stepsF_cons ?_ ?_
      · refine StepF.one rfl fun F_ w_ hR hout hD => ?_
        have g15 : F_ 15 = .int .i64 ((a) (k)) := hD.get 0 rfl rfl rfl
        exact (y_cs rfl rfl rfl (fun _ _ => by kernel_rfl) (ev_func _) (vsC g15 vsN) (ref_clamp ((a) (k)) _ ) (fun e_ w_ h_ => ⟨_, h_.1, rfl, h_.2⟩))
      refine stepsF_cons ?_ ?_
      · refine StepF.one rfl fun F_ w_ hR hout hD => ?_
        exact (y_mov rfl ((hout 6 (by decide)).trans s96) ⟨rfl, Kept.refl _ _⟩)
      refine stepsF_cons ?_ ?_
      · refine StepF.one rfl fun F_ w_ hR hout hD => ?_
        have g17 : F_ 17 = .int .i64 (((k : Nat) : Int)) := hD.get 0 rfl rfl rfl
        exact (y_atR (k) (s := 1) rfl ((hout 3 (by decide)).trans s93) g17 (by omega) Tryd.underlying22 (by omega) (by kernel_rfl) (by omega) ⟨rfl, Kept.refl _ _⟩)
      refine stepsF_cons ?_ ?_
      · refine StepF.one rfl fun F_ w_ hR hout hD => ?_
        have g18 : F_ 18 = .pointer (some ⟨p8, k, none⟩) := hD.get 0 rfl rfl rfl
        exact (y_ldR rfl g18 Tryd.underlying3 (((B85.all hR id)).cell (by omega)) ⟨rfl, Kept.refl _ _⟩)
      refine stepsF_cons ?_ ?_
      · refine StepF.one rfl fun F_ w_ hR hout hD => ?_
        have g19 : F_ 19 = .int .i64 ((b) (k)) := hD.get 0 rfl rfl rfl
        exact (y_cs rfl rfl rfl (fun _ _ => by kernel_rfl) (ev_func _) (vsC g19 vsN) (ref_clamp ((b) (k)) _ ) (fun e_ w_ h_ => ⟨_, h_.1, rfl, h_.2⟩))
      refine stepsF_cons ?_ ?_
      · refine StepF.one rfl fun F_ w_ hR hout hD => ?_
        have g16 : F_ 16 = .int .i64 (cl 1048576 ((a) (k))) := hD.get 0 rfl rfl rfl
        have g20 : F_ 20 = .int .i64 (cl 1048576 ((b) (k))) := hD.get 1 rfl rfl rfl
        exact (y_add rfl g16 g20 (i64_i rfl (by omega)) ⟨rfl, Kept.refl _ _⟩)
      refine stepsF_cons ?_ ?_
      · refine StepF.one rfl fun F_ w_ hR hout hD => ?_
        have g12 : F_ 12 = .int .i64 (((k : Nat) : Int)) := hD.get 0 rfl rfl rfl
        exact (y_atR (k) (s := 1) rfl ((hout 5 (by decide)).trans s95) g12 (by omega) Tryd.underlying22 (by omega) (by kernel_rfl) (by omega) ⟨rfl, Kept.refl _ _⟩)
      exact stepsF_nil
    intro v99 F100 w101 k102 G103 hF104
    have B105 := B84.all k102 id
    have B106 := B85.all k102 id
    have B107 := B86.all k102 id
    have B108 := B87.all k102 id
    have K109 := K74.trans k102 (fun _ _ x => x)
    have s110 : F100 0 = blkV (a) := (hF104 0).trans s90
    have s111 : F100 1 = blkV (b) := (hF104 1).trans s91
    have s112 : F100 2 = .pointer (some ⟨p1, 0, none⟩) := (hF104 2).trans s92
    have s113 : F100 3 = .pointer (some ⟨p8, 0, none⟩) := (hF104 3).trans s93
    have s114 : F100 4 = .pointer (some ⟨p17, 0, none⟩) := (hF104 4).trans s94
    have s115 : F100 5 = .pointer (some ⟨p35, 0, none⟩) := (hF104 5).trans s95
    have s116 : F100 6 = .int .i64 (((k : Nat) : Int)) := (hF104 6).trans s96
    have s117 : F100 9 = .bool (decide ((((k : Nat) : Int)) < (16))) := (hF104 9).trans s97
    have s118 : F100 21 = .int .i64 ((cl 1048576 ((a) (k))) + (cl 1048576 ((b) (k)))) := (hF104 21).trans (G103 9 (by decide))
    have s119 : F100 22 = .pointer (some ⟨p35, k, none⟩) := (hF104 22).trans (G103 10 (by decide))
    clear G103 hF104
    refine wl_set_blk rfl rfl rfl s119 s118 B108 (by omega) (by kernel_rfl) fun w120 B121 k122 => ?_
    have B123 := B105.all k122 ne40
    have B124 := B106.all k122 ne41
    have B125 := B107.all k122 ne42
    have K126 := K109.trans k122 (fun _ hi e => absurd (e ▸ hi) (Nat.not_lt.2 lp43))
    refine wl_nil fun F127 hF128 => ?_
    have s129 : F127 0 = blkV (a) := (hF128 0).trans s110
    have s130 : F127 1 = blkV (b) := (hF128 1).trans s111
    have s131 : F127 2 = .pointer (some ⟨p1, 0, none⟩) := (hF128 2).trans s112
    have s132 : F127 3 = .pointer (some ⟨p8, 0, none⟩) := (hF128 3).trans s113
    have s133 : F127 4 = .pointer (some ⟨p17, 0, none⟩) := (hF128 4).trans s114
    have s134 : F127 5 = .pointer (some ⟨p35, 0, none⟩) := (hF128 5).trans s115
    have s135 : F127 6 = .int .i64 (((k : Nat) : Int)) := (hF128 6).trans s116
    have s136 : F127 9 = .bool (decide ((((k : Nat) : Int)) < (16))) := (hF128 9).trans s117
    clear hF128
    refine in_normal ?_
    refine then_normal ?_
    refine wq_region ?_
    refine wl_v (.int .i64 (((k : Nat) : Int))) rfl rfl (y_mov rfl s135 ⟨rfl, rfl⟩) ?_
    refine wl_v (.int .i64 (((k + 1 : Nat) : Int))) rfl rfl (y_add rfl rfl rfl (i64_n (by omega) (by omega)) ⟨rfl, rfl⟩) ?_
    refine wl_v (.int .i64 (((k + 1 : Nat) : Int))) rfl rfl (y_asg rfl rfl ⟨rfl, rfl⟩) ?_
    refine wl_nil fun F137 hF138 => ?_
    have s139 : F137 0 = blkV (a) := (hF138 0).trans s129
    have s140 : F137 1 = blkV (b) := (hF138 1).trans s130
    have s141 : F137 2 = .pointer (some ⟨p1, 0, none⟩) := (hF138 2).trans s131
    have s142 : F137 3 = .pointer (some ⟨p8, 0, none⟩) := (hF138 3).trans s132
    have s143 : F137 4 = .pointer (some ⟨p17, 0, none⟩) := (hF138 4).trans s133
    have s144 : F137 5 = .pointer (some ⟨p35, 0, none⟩) := (hF138 5).trans s134
    have s145 : F137 9 = .bool (decide ((((k : Nat) : Int)) < (16))) := (hF138 9).trans s136
    have s146 : F137 6 = .int .i64 (((k + 1 : Nat) : Int)) := (hF138 6).trans rfl
    clear hF138
    exact then_normal ⟨(16 - (k + 1)), by omega, k + 1, by omega, rfl, s139, s140, s141, s142, s143, s144, s146, K126, B123, B124, B125, (B121.next rfl)⟩
  · replace c98 := of_decide_eq_false c98
    refine wq_exit ?_
    refine then_exit ?_
    refine then_exit ?_
    have l147 : 16 = k := by omega
    subst l147
    have B148 : Blk w73 p35 22 (moreB a b) := (B87.last)
    refine in_here ?_
    refine then_normal ?_
    refine wq_seq ?_
    refine wq_region ?_
    refine wl_v (blkV (moreB a b)) rfl rfl (y_load_blk blkT_arr rfl s95 B148 ⟨rfl, rfl⟩) ?_
    refine wl_store_blk blkT_arr rfl rfl rfl s94 rfl B86 fun w149 B150 k151 => ?_
    have B152 := B84.all k151 ne22
    have B153 := B85.all k151 ne23
    have B154 := B148.all k151 (Ne.symm ne42)
    have K155 := K74.trans k151 (fun _ hi e => absurd (e ▸ hi) (Nat.not_lt.2 lp24))
    refine wl_nil fun F156 hF157 => ?_
    have s158 : F156 0 = blkV (a) := (hF157 0).trans s90
    have s159 : F156 1 = blkV (b) := (hF157 1).trans s91
    have s160 : F156 2 = .pointer (some ⟨p1, 0, none⟩) := (hF157 2).trans s92
    have s161 : F156 3 = .pointer (some ⟨p8, 0, none⟩) := (hF157 3).trans s93
    have s162 : F156 4 = .pointer (some ⟨p17, 0, none⟩) := (hF157 4).trans s94
    have s163 : F156 5 = .pointer (some ⟨p35, 0, none⟩) := (hF157 5).trans s95
    have s164 : F156 6 = .int .i64 (((16 : Nat) : Int)) := (hF157 6).trans s96
    have s165 : F156 9 = .bool (decide ((((16 : Nat) : Int)) < (16))) := (hF157 9).trans s97
    clear hF157
    refine then_normal ?_
    refine wq_ret ?_
    exact end_blk blkT_arr rfl s162 B150 ⟨rfl, K155⟩

set_option maxHeartbeats 4000000 in
set_option maxRecDepth 100000 in
theorem law_clamped (b : Nat → Int) (m : Int) (w0 : World) (hm : 0 ≤ m ∧ m ≤ 1048576) :
    Calls Tryd.prog 18 #[blkV (b), .int .i64 (m)] w0 fun e w' => e = .returned (blkV (clB m b)) ∧ Kept (fun _ => False) w0 w' := by
  refine calls_wq (args := [blkV (b), .int .i64 (m)]) 21 Tryd.func18 rfl rfl (Nat.le_of_ble_eq_true rfl) ?_
  have K0 := Kept.refl (fun _ => False) w0
  refine wq_seq ?_
  refine wq_region ?_
  refine wl_box_blk rfl rfl rfl rfl fun p1 w2 e5 B3 k4 => ?_
  have lp6 : w0.heap.size ≤ p1 := by have h_ := K0.size; omega
  clear e5
  have K7 := K0.trans k4 (fun _ _ x => x)
  refine wl_alloc_blk rfl rfl rfl blkT_block.2.2 fun p8 w9 e12 B10 k11 => ?_
  have ne13 : p1 ≠ p8 := by have h_ := B3.lt; omega
  have lp14 : w0.heap.size ≤ p8 := by have h_ := K7.size; omega
  clear e12
  have B15 := B3.all k11 id
  have K16 := K7.trans k11 (fun _ _ x => x)
  refine wl_nil fun F17 hF18 => ?_
  have s19 : F17 0 = blkV (b) := (hF18 0).trans rfl
  have s20 : F17 1 = .int .i64 (m) := (hF18 1).trans rfl
  have s21 : F17 2 = .pointer (some ⟨p1, 0, none⟩) := (hF18 2).trans rfl
  have s22 : F17 4 = .pointer (some ⟨p8, 0, none⟩) := (hF18 4).trans rfl
  clear hF18
  refine then_normal ?_
  refine wq_seq ?_
  refine wq_seq ?_
  refine wq_region ?_
  refine wl_v (.int .i64 (0)) rfl rfl (y_asg rfl rfl ⟨rfl, rfl⟩) ?_
  refine wl_nil fun F23 hF24 => ?_
  have s25 : F23 0 = blkV (b) := (hF24 0).trans s19
  have s26 : F23 1 = .int .i64 (m) := (hF24 1).trans s20
  have s27 : F23 2 = .pointer (some ⟨p1, 0, none⟩) := (hF24 2).trans s21
  have s28 : F23 4 = .pointer (some ⟨p8, 0, none⟩) := (hF24 4).trans s22
  have s29 : F23 5 = .int .i64 (0) := (hF24 5).trans rfl
  clear hF24
  refine then_normal ?_
  refine wq_block ?_
  refine wq_loop (fun nn FF ww => ∃ (k : Nat), k ≤ 16 ∧ nn = 16 - k ∧ FF 0 = blkV (b) ∧ FF 1 = .int .i64 (m) ∧ FF 2 = .pointer (some ⟨p1, 0, none⟩) ∧ FF 4 = .pointer (some ⟨p8, 0, none⟩) ∧ FF 5 = .int .i64 (((k : Nat) : Int)) ∧ Kept (fun _ => False) w0 ww ∧ Blk ww p1 24 (upto k b (clB m b)) ∧ Blk ww p8 24 (fun _ => 0)) (16 - (0)) ⟨0, by omega, rfl, s25, s26, s27, s28, s29, K16, B15.first, B10⟩ ?_
  rintro n33 F30 w31 ⟨k, i34, hn33, s35, s36, s37, s38, s39, K32, B40, B41⟩
  refine wq_seq ?_
  refine wq_seq ?_
  refine wq_region ?_
  refine wl_v (.int .i64 (((k : Nat) : Int))) rfl rfl (y_mov rfl s39 ⟨rfl, rfl⟩) ?_
  refine wl_v (.bool (decide ((((k : Nat) : Int)) < (16)))) rfl rfl (y_lss rfl rfl rfl rfl ⟨rfl, rfl⟩) ?_
  refine wl_nil fun F42 hF43 => ?_
  have s44 : F42 0 = blkV (b) := (hF43 0).trans s35
  have s45 : F42 1 = .int .i64 (m) := (hF43 1).trans s36
  have s46 : F42 2 = .pointer (some ⟨p1, 0, none⟩) := (hF43 2).trans s37
  have s47 : F42 4 = .pointer (some ⟨p8, 0, none⟩) := (hF43 4).trans s38
  have s48 : F42 5 = .int .i64 (((k : Nat) : Int)) := (hF43 5).trans s39
  have s49 : F42 7 = .bool (decide ((((k : Nat) : Int)) < (16))) := (hF43 7).trans rfl
  clear hF43
  refine then_normal ?_
  refine wq_cond s49 (fun c50 => ?_) (fun c50 => ?_)
  · replace c50 := of_decide_eq_true c50
    refine wq_skip ?_
    refine then_normal ?_
    refine wq_seq ?_
    refine wq_block ?_
    refine wq_region ?_
    refine wl_v (.int .i64 (((k : Nat) : Int))) rfl rfl (y_mov rfl s48 ⟨rfl, rfl⟩) ?_
    refine wl_v (.int .i64 (((k : Nat) : Int))) rfl rfl (y_mov rfl s48 ⟨rfl, rfl⟩) ?_
    refine wl_v (.pointer (some ⟨p1, k, none⟩)) rfl rfl (y_atR (k) (s := 1) rfl s46 rfl (by omega) Tryd.underlying24 (by omega) (by kernel_rfl) (by omega) ⟨rfl, rfl⟩) ?_
    refine wl_v (.int .i64 (b k)) rfl rfl (y_ldR rfl rfl Tryd.underlying3 (((B40).cell (by omega)).trans (some_int (upto_at k _ _))) ⟨rfl, rfl⟩) ?_
    refine wl_v (.int .i64 (m)) rfl rfl (y_mov rfl s45 ⟨rfl, rfl⟩) ?_
    refine wl_v (.int .i64 (-(m))) rfl rfl (y_neg rfl rfl (i64_i rfl (by omega)) ⟨rfl, rfl⟩) ?_
    refine wl_v (.int .i64 (max (b k) (-(m)))) rfl rfl (y_maxR rfl rfl rfl rfl ⟨rfl, rfl⟩) ?_
    refine wl_v (.int .i64 (m)) rfl rfl (y_mov rfl s45 ⟨rfl, rfl⟩) ?_
    refine wl_v (.int .i64 (cl m (b k))) rfl rfl (y_minR rfl rfl rfl (by unfold cl; omega) ⟨rfl, rfl⟩) ?_
    refine wl_v (.pointer (some ⟨p1, k, none⟩)) rfl rfl (y_atR (k) (s := 1) rfl s46 rfl (by omega) Tryd.underlying24 (by omega) (by kernel_rfl) (by omega) ⟨rfl, rfl⟩) ?_
    refine wl_set_blk rfl rfl rfl rfl rfl B40 (by omega) (by kernel_rfl) fun w51 B52 k53 => ?_
    have B54 := B41.all k53 (Ne.symm ne13)
    have K55 := K32.trans k53 (fun _ hi e => absurd (e ▸ hi) (Nat.not_lt.2 lp6))
    refine wl_nil fun F56 hF57 => ?_
    have s58 : F56 0 = blkV (b) := (hF57 0).trans s44
    have s59 : F56 1 = .int .i64 (m) := (hF57 1).trans s45
    have s60 : F56 2 = .pointer (some ⟨p1, 0, none⟩) := (hF57 2).trans s46
    have s61 : F56 4 = .pointer (some ⟨p8, 0, none⟩) := (hF57 4).trans s47
    have s62 : F56 5 = .int .i64 (((k : Nat) : Int)) := (hF57 5).trans s48
    have s63 : F56 7 = .bool (decide ((((k : Nat) : Int)) < (16))) := (hF57 7).trans s49
    clear hF57
    refine in_normal ?_
    refine then_normal ?_
    refine wq_region ?_
    refine wl_v (.int .i64 (((k : Nat) : Int))) rfl rfl (y_mov rfl s62 ⟨rfl, rfl⟩) ?_
    refine wl_v (.int .i64 (((k + 1 : Nat) : Int))) rfl rfl (y_add rfl rfl rfl (i64_n (by omega) (by omega)) ⟨rfl, rfl⟩) ?_
    refine wl_v (.int .i64 (((k + 1 : Nat) : Int))) rfl rfl (y_asg rfl rfl ⟨rfl, rfl⟩) ?_
    refine wl_nil fun F64 hF65 => ?_
    have s66 : F64 0 = blkV (b) := (hF65 0).trans s58
    have s67 : F64 1 = .int .i64 (m) := (hF65 1).trans s59
    have s68 : F64 2 = .pointer (some ⟨p1, 0, none⟩) := (hF65 2).trans s60
    have s69 : F64 4 = .pointer (some ⟨p8, 0, none⟩) := (hF65 4).trans s61
    have s70 : F64 7 = .bool (decide ((((k : Nat) : Int)) < (16))) := (hF65 7).trans s63
    have s71 : F64 5 = .int .i64 (((k + 1 : Nat) : Int)) := (hF65 5).trans rfl
    clear hF65
    exact then_normal ⟨(16 - (k + 1)), by omega, k + 1, by omega, rfl, s66, s67, s68, s69, s71, K55, (B52.next rfl), B54⟩
  · replace c50 := of_decide_eq_false c50
    refine wq_exit ?_
    refine then_exit ?_
    refine then_exit ?_
    have l72 : 16 = k := by omega
    subst l72
    have B73 : Blk w31 p1 24 (clB m b) := (B40.last)
    refine in_here ?_
    refine then_normal ?_
    refine wq_seq ?_
    refine wq_region ?_
    refine wl_v (blkV (clB m b)) rfl rfl (y_load_blk blkT_block rfl s46 B73 ⟨rfl, rfl⟩) ?_
    refine wl_store_blk blkT_block rfl rfl rfl s47 rfl B41 fun w74 B75 k76 => ?_
    have B77 := B73.all k76 ne13
    have K78 := K32.trans k76 (fun _ hi e => absurd (e ▸ hi) (Nat.not_lt.2 lp14))
    refine wl_nil fun F79 hF80 => ?_
    have s81 : F79 0 = blkV (b) := (hF80 0).trans s44
    have s82 : F79 1 = .int .i64 (m) := (hF80 1).trans s45
    have s83 : F79 2 = .pointer (some ⟨p1, 0, none⟩) := (hF80 2).trans s46
    have s84 : F79 4 = .pointer (some ⟨p8, 0, none⟩) := (hF80 4).trans s47
    have s85 : F79 5 = .int .i64 (((16 : Nat) : Int)) := (hF80 5).trans s48
    have s86 : F79 7 = .bool (decide ((((16 : Nat) : Int)) < (16))) := (hF80 7).trans s49
    clear hF80
    refine then_normal ?_
    refine wq_ret ?_
    exact end_blk blkT_block rfl s84 B75 ⟨rfl, K78⟩

set_option maxHeartbeats 4000000 in
set_option maxRecDepth 100000 in
theorem awake_any (w0 : World) (hw : Waves w0) :
    Calls Tryd.prog 9 #[] w0 fun e w' => e = .returned (.bool true) ∧ Kept (fun _ => False) w0 w' := by
  refine calls_wq (args := []) 38 Tryd.func9 rfl rfl (Nat.le_of_ble_eq_true rfl) ?_
  have K0 := Kept.refl (fun _ => False) w0
  refine wq_seq ?_
  refine wq_region ?_
  refine wl_v (.bool false) rfl rfl (y_asg rfl rfl ⟨rfl, rfl⟩) ?_
  refine wl_nil fun F1 hF2 => ?_
  have s3 : F1 0 = .bool false := (hF2 0).trans rfl
  clear hF2
  refine then_normal ?_
  refine wq_seq ?_
  refine wq_region ?_
  refine wl_v (blkV (fun _ => 0)) rfl rfl (y_buildR (cells := (arrL 16 (fun _ => 0)).toArray) rfl (by kernel_rfl) rfl ⟨rfl, rfl⟩) ?_
  refine wl_alloc_blk rfl rfl rfl blkT_block.2.2 fun p4 w5 e8 B6 k7 => ?_
  have lp9 : w0.heap.size ≤ p4 := by have h_ := K0.size; omega
  clear e8
  have K10 := K0.trans k7 (fun _ _ x => x)
  refine wl_store_blk blkT_block rfl rfl rfl rfl rfl B6 fun w11 B12 k13 => ?_
  have K14 := K10.trans k13 (fun _ hi e => absurd (e ▸ hi) (Nat.not_lt.2 lp9))
  refine wl_nil fun F15 hF16 => ?_
  have s17 : F15 0 = .bool false := (hF16 0).trans s3
  have s18 : F15 1 = .pointer (some ⟨p4, 0, none⟩) := (hF16 1).trans rfl
  clear hF16
  refine then_normal ?_
  refine wq_seq ?_
  refine wq_seq ?_
  refine wq_region ?_
  refine wl_v (.int .i64 (0)) rfl rfl (y_asg rfl rfl ⟨rfl, rfl⟩) ?_
  refine wl_nil fun F19 hF20 => ?_
  have s21 : F19 0 = .bool false := (hF20 0).trans s17
  have s22 : F19 1 = .pointer (some ⟨p4, 0, none⟩) := (hF20 1).trans s18
  have s23 : F19 2 = .int .i64 (0) := (hF20 2).trans rfl
  clear hF20
  refine then_normal ?_
  refine wq_block ?_
  refine wq_loop (fun nn FF ww => ∃ (k : Nat), k ≤ 16 ∧ nn = 16 - k ∧ FF 0 = .bool false ∧ FF 1 = .pointer (some ⟨p4, 0, none⟩) ∧ FF 2 = .int .i64 (((k : Nat) : Int)) ∧ Kept (fun _ => False) w0 ww ∧ Blk ww p4 24 (upto k (fun _ => 0) (fun _ => 3))) (16 - (0)) ⟨0, by omega, rfl, s21, s22, s23, K14, B12.first⟩ ?_
  rintro n27 F24 w25 ⟨k, i28, hn27, s29, s30, s31, K26, B32⟩
  refine wq_seq ?_
  refine wq_seq ?_
  refine wq_region ?_
  refine wl_v (.int .i64 (((k : Nat) : Int))) rfl rfl (y_mov rfl s31 ⟨rfl, rfl⟩) ?_
  refine wl_v (.bool (decide ((((k : Nat) : Int)) < (16)))) rfl rfl (y_lss rfl rfl rfl rfl ⟨rfl, rfl⟩) ?_
  refine wl_nil fun F33 hF34 => ?_
  have s35 : F33 0 = .bool false := (hF34 0).trans s29
  have s36 : F33 1 = .pointer (some ⟨p4, 0, none⟩) := (hF34 1).trans s30
  have s37 : F33 2 = .int .i64 (((k : Nat) : Int)) := (hF34 2).trans s31
  have s38 : F33 6 = .bool (decide ((((k : Nat) : Int)) < (16))) := (hF34 6).trans rfl
  clear hF34
  refine then_normal ?_
  refine wq_cond s38 (fun c39 => ?_) (fun c39 => ?_)
  · replace c39 := of_decide_eq_true c39
    refine wq_skip ?_
    refine then_normal ?_
    refine wq_seq ?_
    refine wq_block ?_
    refine wq_region ?_
    refine wl_v (.int .i64 (((k : Nat) : Int))) rfl rfl (y_mov rfl s37 ⟨rfl, rfl⟩) ?_
    refine wl_v (.pointer (some ⟨p4, k, none⟩)) rfl rfl (y_atR (k) (s := 1) rfl s36 rfl (by omega) Tryd.underlying24 (by omega) (by kernel_rfl) (by omega) ⟨rfl, rfl⟩) ?_
    refine wl_set_blk rfl rfl rfl rfl rfl B32 (by omega) (by kernel_rfl) fun w40 B41 k42 => ?_
    have K43 := K26.trans k42 (fun _ hi e => absurd (e ▸ hi) (Nat.not_lt.2 lp9))
    refine wl_nil fun F44 hF45 => ?_
    have s46 : F44 0 = .bool false := (hF45 0).trans s35
    have s47 : F44 1 = .pointer (some ⟨p4, 0, none⟩) := (hF45 1).trans s36
    have s48 : F44 2 = .int .i64 (((k : Nat) : Int)) := (hF45 2).trans s37
    have s49 : F44 6 = .bool (decide ((((k : Nat) : Int)) < (16))) := (hF45 6).trans s38
    clear hF45
    refine in_normal ?_
    refine then_normal ?_
    refine wq_region ?_
    refine wl_v (.int .i64 (((k : Nat) : Int))) rfl rfl (y_mov rfl s48 ⟨rfl, rfl⟩) ?_
    refine wl_v (.int .i64 (((k + 1 : Nat) : Int))) rfl rfl (y_add rfl rfl rfl (i64_n (by omega) (by omega)) ⟨rfl, rfl⟩) ?_
    refine wl_v (.int .i64 (((k + 1 : Nat) : Int))) rfl rfl (y_asg rfl rfl ⟨rfl, rfl⟩) ?_
    refine wl_nil fun F50 hF51 => ?_
    have s52 : F50 0 = .bool false := (hF51 0).trans s46
    have s53 : F50 1 = .pointer (some ⟨p4, 0, none⟩) := (hF51 1).trans s47
    have s54 : F50 6 = .bool (decide ((((k : Nat) : Int)) < (16))) := (hF51 6).trans s49
    have s55 : F50 2 = .int .i64 (((k + 1 : Nat) : Int)) := (hF51 2).trans rfl
    clear hF51
    exact then_normal ⟨(16 - (k + 1)), by omega, k + 1, by omega, rfl, s52, s53, s55, K43, (B41.next rfl)⟩
  · replace c39 := of_decide_eq_false c39
    refine wq_exit ?_
    refine then_exit ?_
    refine then_exit ?_
    have l56 : 16 = k := by omega
    subst l56
    have B57 : Blk w25 p4 24 (fun _ => 3) := (B32.last)
    refine in_here ?_
    refine then_normal ?_
    refine wq_seq ?_
    refine wq_region ?_
    refine wl_v (blkV (fun _ => 3)) rfl rfl (y_load_blk blkT_block rfl s36 B57 ⟨rfl, rfl⟩) ?_
    refine wl_call (R := fun v_ w_ => v_ = blkV (fwd (clB 1048576 (fun _ => 3))) ∧ Kept (fun _ => False) w25 w_) rfl rfl (y_cs rfl rfl rfl (fun _ _ => by kernel_rfl) (ev_func _) (vsC rfl vsN) (forward_any (fun _ => 3) _ (hw.all K26)) (fun e_ w_ h_ => ⟨_, h_.1, rfl, h_.2⟩)) ?_
    rintro _ w58 ⟨rfl, k59⟩
    have B60 := B57.all k59 id
    have K61 := K26.trans k59 (fun _ _ x => x)
    refine wl_alloc_blk rfl rfl rfl blkT_block.2.2 fun p62 w63 e66 B64 k65 => ?_
    have ne67 : p4 ≠ p62 := by have h_ := B60.lt; omega
    have lp68 : w0.heap.size ≤ p62 := by have h_ := K61.size; omega
    clear e66
    have B69 := B60.all k65 id
    have K70 := K61.trans k65 (fun _ _ x => x)
    refine wl_store_blk blkT_block rfl rfl rfl rfl rfl B64 fun w71 B72 k73 => ?_
    have B74 := B69.all k73 ne67
    have K75 := K70.trans k73 (fun _ hi e => absurd (e ▸ hi) (Nat.not_lt.2 lp68))
    refine wl_nil fun F76 hF77 => ?_
    have s78 : F76 0 = .bool false := (hF77 0).trans s35
    have s79 : F76 1 = .pointer (some ⟨p4, 0, none⟩) := (hF77 1).trans s36
    have s80 : F76 2 = .int .i64 (((16 : Nat) : Int)) := (hF77 2).trans s37
    have s81 : F76 6 = .bool (decide ((((16 : Nat) : Int)) < (16))) := (hF77 6).trans s38
    have s82 : F76 3 = .pointer (some ⟨p62, 0, none⟩) := (hF77 3).trans rfl
    clear hF77
    refine then_normal ?_
    refine wq_seq ?_
    refine wq_said [some 13, some 14, some 15, some 16, some 17, some 18, some 19, some 20, some 21, some 22, some 23, some 24, some 25, some 26, some 27, some 28, some 29, some 30, some 31, some 32, some 33, some 34, some 35, some 36, some 37, some 0] [Pd.eq (blkV (fwd (clB 1048576 (fun _ => 3)))), Pd.eq (blkV (blL [48])), Pd.eq (.bool true), Pd.eq (.bool true), Pd.eq (blkV (fwd (clB 1048576 (fun _ => 3)))), Pd.eq (blkV (backB (fwd (clB 1048576 (fun _ => 3))))), Pd.eq (blkV (fun _ => 3)), Pd.eq (.bool true), Pd.eq (.bool true), Pd.eq (.bool true), Pd.eq (blkV (fun _ => 3)), Pd.eq (blkV (fun _ => 3)), Pd.eq (blkV (lessB (fun _ => 3) (fun _ => 3))), Pd.eq (blkV (fun _ => 0)), Pd.eq (.bool true), Pd.eq (.bool true), Pd.eq (.bool true), Pd.eq (blkV (fun _ => 3)), Pd.eq (blkV (fun _ => 3)), Pd.eq (blkV (moreB (fun _ => 3) (fun _ => 3))), Pd.eq (.int .i64 ((moreB (fun _ => 3) (fun _ => 3)) (5))), Pd.eq (.bool true), Pd.eq (.bool true), Pd.eq (.bool true), Pd.eq (.bool true), Pd.eq (.bool true)] (by kernel_rfl) (by kernel_rfl) ?_ ?_
    · refine stepsF_cons ?_ ?_
      · refine StepF.one rfl fun F_ w_ hR hout hD => ?_
        exact (y_load_blk blkT_block rfl ((hout 3 (by decide)).trans s82) (B72.all hR id) ⟨rfl, Kept.refl _ _⟩)
      refine stepsF_cons ?_ ?_
      · refine StepF.one rfl fun F_ w_ hR hout hD => ?_
        exact (y_buildR (cells := (arrL 16 (blL [48])).toArray) rfl (by kernel_rfl) rfl ⟨rfl, Kept.refl _ _⟩)
      refine stepsF_cons ?_ ?_
      · refine StepF.one rfl fun F_ w_ hR hout hD => ?_
        have g13 : F_ 13 = blkV (fwd (clB 1048576 (fun _ => 3))) := hD.get 0 rfl rfl rfl
        have g14 : F_ 14 = blkV (blL [48]) := hD.get 1 rfl rfl rfl
        exact (y_sameR rfl g13 g14 (by decide +kernel) ⟨rfl, Kept.refl _ _⟩)
      refine stepsF_cons ?_ ?_
      · refine StepF.one rfl fun F_ w_ hR hout hD => ?_
        have g15 : F_ 15 = .bool true := hD.get 0 rfl rfl rfl
        exact (y_mov rfl g15 ⟨rfl, Kept.refl _ _⟩)
      refine stepsF_cons ?_ ?_
      · refine StepF.when 3 true 16 rfl rfl fun F_ w_ hR hout hD => ?_
        have g16 : F_ 16 = .bool true := hD.get 0 rfl rfl rfl
        exact ⟨g16, (y_load_blk blkT_block rfl ((hout 3 (by decide)).trans s82) (B72.all hR id) ⟨rfl, Kept.refl _ _⟩)⟩
      refine stepsF_cons ?_ ?_
      · refine StepF.when 3 true 16 rfl rfl fun F_ w_ hR hout hD => ?_
        have g16 : F_ 16 = .bool true := hD.get 1 rfl rfl rfl
        have g17 : F_ 17 = blkV (fwd (clB 1048576 (fun _ => 3))) := hD.get 0 rfl rfl rfl
        exact ⟨g16, (y_cs rfl rfl rfl (fun _ _ => by kernel_rfl) (ev_func _) (vsC g17 vsN) (back_any (fwd (clB 1048576 (fun _ => 3))) _ (hw.all (K75.trans hR (fun _ _ x => x)))) (fun e_ w_ h_ => ⟨_, h_.1, rfl, h_.2⟩))⟩
      refine stepsF_cons ?_ ?_
      · refine StepF.when 3 true 16 rfl rfl fun F_ w_ hR hout hD => ?_
        have g16 : F_ 16 = .bool true := hD.get 0 rfl rfl rfl
        exact ⟨g16, (y_load_blk blkT_block rfl ((hout 1 (by decide)).trans s79) (B74.all hR id) ⟨rfl, Kept.refl _ _⟩)⟩
      refine stepsF_cons ?_ ?_
      · refine StepF.when 3 true 16 rfl rfl fun F_ w_ hR hout hD => ?_
        have g16 : F_ 16 = .bool true := hD.get 2 rfl rfl rfl
        have g18 : F_ 18 = blkV (backB (fwd (clB 1048576 (fun _ => 3)))) := hD.get 0 rfl rfl rfl
        have g19 : F_ 19 = blkV (fun _ => 3) := hD.get 1 rfl rfl rfl
        exact ⟨g16, (y_sameR rfl g18 g19 (by decide +kernel) ⟨rfl, Kept.refl _ _⟩)⟩
      refine stepsF_cons ?_ ?_
      · refine StepF.one rfl fun F_ w_ hR hout hD => ?_
        have g16 : F_ 16 = .bool true := hD.get 0 rfl rfl rfl
        have g20 : F_ 20 = .bool true := hD.get 1 rfl rfl rfl
        exact (y_pickT rfl g16 g20 ⟨rfl, Kept.refl _ _⟩)
      refine stepsF_cons ?_ ?_
      · refine StepF.one rfl fun F_ w_ hR hout hD => ?_
        have g21 : F_ 21 = .bool true := hD.get 0 rfl rfl rfl
        exact (y_mov rfl g21 ⟨rfl, Kept.refl _ _⟩)
      refine stepsF_cons ?_ ?_
      · refine StepF.when 9 true 22 rfl rfl fun F_ w_ hR hout hD => ?_
        have g22 : F_ 22 = .bool true := hD.get 0 rfl rfl rfl
        exact ⟨g22, (y_load_blk blkT_block rfl ((hout 1 (by decide)).trans s79) (B74.all hR id) ⟨rfl, Kept.refl _ _⟩)⟩
      refine stepsF_cons ?_ ?_
      · refine StepF.when 9 true 22 rfl rfl fun F_ w_ hR hout hD => ?_
        have g22 : F_ 22 = .bool true := hD.get 0 rfl rfl rfl
        exact ⟨g22, (y_load_blk blkT_block rfl ((hout 1 (by decide)).trans s79) (B74.all hR id) ⟨rfl, Kept.refl _ _⟩)⟩
      refine stepsF_cons ?_ ?_
      · refine StepF.when 9 true 22 rfl rfl fun F_ w_ hR hout hD => ?_
        have g22 : F_ 22 = .bool true := hD.get 2 rfl rfl rfl
        have g23 : F_ 23 = blkV (fun _ => 3) := hD.get 0 rfl rfl rfl
        have g24 : F_ 24 = blkV (fun _ => 3) := hD.get 1 rfl rfl rfl
        exact ⟨g22, (y_cs rfl rfl rfl (fun _ _ => by kernel_rfl) (ev_func _) (vsC g23 (vsC g24 vsN)) (less_any (fun _ => 3) (fun _ => 3) _ ) (fun e_ w_ h_ => ⟨_, h_.1, rfl, h_.2⟩))⟩
      refine stepsF_cons ?_ ?_
      · refine StepF.when 9 true 22 rfl rfl fun F_ w_ hR hout hD => ?_
        have g22 : F_ 22 = .bool true := hD.get 0 rfl rfl rfl
        exact ⟨g22, (y_buildR (cells := (arrL 16 (fun _ => 0)).toArray) rfl (by kernel_rfl) rfl ⟨rfl, Kept.refl _ _⟩)⟩
      refine stepsF_cons ?_ ?_
      · refine StepF.when 9 true 22 rfl rfl fun F_ w_ hR hout hD => ?_
        have g22 : F_ 22 = .bool true := hD.get 2 rfl rfl rfl
        have g25 : F_ 25 = blkV (lessB (fun _ => 3) (fun _ => 3)) := hD.get 0 rfl rfl rfl
        have g26 : F_ 26 = blkV (fun _ => 0) := hD.get 1 rfl rfl rfl
        exact ⟨g22, (y_sameR rfl g25 g26 (by decide +kernel) ⟨rfl, Kept.refl _ _⟩)⟩
      refine stepsF_cons ?_ ?_
      · refine StepF.one rfl fun F_ w_ hR hout hD => ?_
        have g22 : F_ 22 = .bool true := hD.get 0 rfl rfl rfl
        have g27 : F_ 27 = .bool true := hD.get 1 rfl rfl rfl
        exact (y_pickT rfl g22 g27 ⟨rfl, Kept.refl _ _⟩)
      refine stepsF_cons ?_ ?_
      · refine StepF.one rfl fun F_ w_ hR hout hD => ?_
        have g28 : F_ 28 = .bool true := hD.get 0 rfl rfl rfl
        exact (y_mov rfl g28 ⟨rfl, Kept.refl _ _⟩)
      refine stepsF_cons ?_ ?_
      · refine StepF.when 16 true 29 rfl rfl fun F_ w_ hR hout hD => ?_
        have g29 : F_ 29 = .bool true := hD.get 0 rfl rfl rfl
        exact ⟨g29, (y_load_blk blkT_block rfl ((hout 1 (by decide)).trans s79) (B74.all hR id) ⟨rfl, Kept.refl _ _⟩)⟩
      refine stepsF_cons ?_ ?_
      · refine StepF.when 16 true 29 rfl rfl fun F_ w_ hR hout hD => ?_
        have g29 : F_ 29 = .bool true := hD.get 0 rfl rfl rfl
        exact ⟨g29, (y_load_blk blkT_block rfl ((hout 1 (by decide)).trans s79) (B74.all hR id) ⟨rfl, Kept.refl _ _⟩)⟩
      refine stepsF_cons ?_ ?_
      · refine StepF.when 16 true 29 rfl rfl fun F_ w_ hR hout hD => ?_
        have g29 : F_ 29 = .bool true := hD.get 2 rfl rfl rfl
        have g30 : F_ 30 = blkV (fun _ => 3) := hD.get 0 rfl rfl rfl
        have g31 : F_ 31 = blkV (fun _ => 3) := hD.get 1 rfl rfl rfl
        exact ⟨g29, (y_cs rfl rfl rfl (fun _ _ => by kernel_rfl) (ev_func _) (vsC g30 (vsC g31 vsN)) (more_any (fun _ => 3) (fun _ => 3) _ ) (fun e_ w_ h_ => ⟨_, h_.1, rfl, h_.2⟩))⟩
      refine stepsF_cons ?_ ?_
      · refine StepF.when 16 true 29 rfl rfl fun F_ w_ hR hout hD => ?_
        have g29 : F_ 29 = .bool true := hD.get 1 rfl rfl rfl
        have g32 : F_ 32 = blkV (moreB (fun _ => 3) (fun _ => 3)) := hD.get 0 rfl rfl rfl
        exact ⟨g29, (y_look (5) blkT_block rfl g32 rfl (by omega) rfl ⟨rfl, Kept.refl _ _⟩)⟩
      refine stepsF_cons ?_ ?_
      · refine StepF.when 16 true 29 rfl rfl fun F_ w_ hR hout hD => ?_
        have g29 : F_ 29 = .bool true := hD.get 1 rfl rfl rfl
        have g33 : F_ 33 = .int .i64 ((moreB (fun _ => 3) (fun _ => 3)) (5)) := hD.get 0 rfl rfl rfl
        exact ⟨g29, (y_eqlI rfl g33 rfl (by decide +kernel) ⟨rfl, Kept.refl _ _⟩)⟩
      refine stepsF_cons ?_ ?_
      · refine StepF.one rfl fun F_ w_ hR hout hD => ?_
        have g29 : F_ 29 = .bool true := hD.get 0 rfl rfl rfl
        have g34 : F_ 34 = .bool true := hD.get 1 rfl rfl rfl
        exact (y_pickT rfl g29 g34 ⟨rfl, Kept.refl _ _⟩)
      refine stepsF_cons ?_ ?_
      · refine StepF.one rfl fun F_ w_ hR hout hD => ?_
        have g35 : F_ 35 = .bool true := hD.get 0 rfl rfl rfl
        exact (y_mov rfl g35 ⟨rfl, Kept.refl _ _⟩)
      refine stepsF_cons ?_ ?_
      · refine StepF.one rfl fun F_ w_ hR hout hD => ?_
        have g36 : F_ 36 = .bool true := hD.get 0 rfl rfl rfl
        exact (y_pickT rfl g36 rfl ⟨rfl, Kept.refl _ _⟩)
      refine stepsF_cons ?_ ?_
      · refine StepF.one rfl fun F_ w_ hR hout hD => ?_
        have g37 : F_ 37 = .bool true := hD.get 0 rfl rfl rfl
        exact (y_asg rfl g37 ⟨rfl, Kept.refl _ _⟩)
      exact stepsF_nil
    intro v83 F84 w85 k86 G87 hF88
    have B89 := B74.all k86 id
    have B90 := B72.all k86 id
    have K91 := K75.trans k86 (fun _ _ x => x)
    have s92 : F84 1 = .pointer (some ⟨p4, 0, none⟩) := (hF88 1).trans s79
    have s93 : F84 2 = .int .i64 (((16 : Nat) : Int)) := (hF88 2).trans s80
    have s94 : F84 6 = .bool (decide ((((16 : Nat) : Int)) < (16))) := (hF88 6).trans s81
    have s95 : F84 3 = .pointer (some ⟨p62, 0, none⟩) := (hF88 3).trans s82
    have s96 : F84 0 = .bool true := (hF88 0).trans (G87 25 (by decide))
    clear G87 hF88
    refine then_normal ?_
    refine wq_ret ?_
    exact end_tmp (v := .bool true) rfl s96 ⟨rfl, K91⟩
end Go.Proofs.YtjfbfkjmbegacaaDoor
