/- What the document's quant functions do, and the law's own head. -/
import Derived.Test.YtnlpiafgbeknhaaDoorQx
namespace Go.Proofs.YtnlpiafgbeknhaaDoor
open Go.RowKit

set_option maxHeartbeats 4000000 in
set_option maxRecDepth 100000 in
theorem qref_step (q : Int) (w0 : World) :
    Calls Tryd.prog 11 #[.int .i64 (q)] w0 fun e w' => e = .returned (.tuple #[.int .i64 (stp q), .int .i64 (ern q)]) ∧ Kept (fun _ => False) w0 w' := by
  refine calls_wq (args := [.int .i64 (q)]) 15 Tryd.func11 rfl rfl (Nat.le_of_ble_eq_true rfl) ?_
  have K0 := Kept.refl (fun _ => False) w0
  refine wq_seq ?_
  refine wq_region ?_
  refine wl_v (.int .i64 (0)) rfl rfl (y_asg rfl rfl ⟨rfl, rfl⟩) ?_
  refine wl_v (.int .i64 (0)) rfl rfl (y_asg rfl rfl ⟨rfl, rfl⟩) ?_
  refine wl_nil fun F1 hF2 => ?_
  have s3 : F1 0 = .int .i64 (q) := (hF2 0).trans rfl
  clear hF2
  refine then_normal ?_
  refine wq_seq ?_
  refine wq_region ?_
  refine wl_v (.agg (arrL 21 (blL [1, 2, 3, 4, 5, 6, 8, 10, 12, 16, 20, 24, 32, 40, 48, 64, 80, 96, 128, 160, 192])).toArray) rfl rfl (y_buildR (cells := (arrL 21 (blL [1, 2, 3, 4, 5, 6, 8, 10, 12, 16, 20, 24, 32, 40, 48, 64, 80, 96, 128, 160, 192])).toArray) rfl (by kernel_rfl) rfl ⟨rfl, rfl⟩) ?_
  refine wl_alloc_arr rfl rfl rfl arrT21.2.2 fun p4 w5 e8 B6 k7 => ?_
  have lp9 : w0.heap.size ≤ p4 := by have h_ := K0.size; omega
  clear e8
  have K10 := K0.trans k7 (fun _ _ x => x)
  refine wl_store_arr arrT21 rfl rfl rfl rfl rfl B6 fun w11 B12 k13 => ?_
  have K14 := K10.trans k13 (fun _ hi e => absurd (e ▸ hi) (Nat.not_lt.2 lp9))
  refine wl_nil fun F15 hF16 => ?_
  have s17 : F15 0 = .int .i64 (q) := (hF16 0).trans s3
  have s18 : F15 4 = .pointer (some ⟨p4, 0, none⟩) := (hF16 4).trans rfl
  clear hF16
  refine then_normal ?_
  refine wq_seq ?_
  refine wq_seq ?_
  by_cases d19 : (q) < (0)
  · skip
    refine wq_region ?_
    refine wl_v (.int .i64 (q)) rfl rfl (y_mov rfl s17 ⟨rfl, rfl⟩) ?_
    refine wl_v (.bool true) rfl rfl (y_lss rfl rfl rfl (decide_eq_true d19) ⟨rfl, rfl⟩) ?_
    refine wl_v (.bool true) rfl rfl (y_mov rfl rfl ⟨rfl, rfl⟩) ?_
    refine wl_unless 2 false 8 rfl rfl rfl (Or.inl rfl) rfl ?_
    refine wl_unless 2 false 8 rfl rfl rfl (Or.inl rfl) rfl ?_
    refine wl_v (.bool true) rfl rfl (y_pickT rfl rfl rfl ⟨rfl, rfl⟩) ?_
    refine wl_nil fun F20 hF21 => ?_
    have s22 : F20 0 = .int .i64 (q) := (hF21 0).trans s17
    have s23 : F20 4 = .pointer (some ⟨p4, 0, none⟩) := (hF21 4).trans s18
    have s24 : F20 11 = .bool true := (hF21 11).trans rfl
    clear hF21
    refine then_normal ?_
    refine wq_cond (t := true) s24 (fun _ => ?_) (fun e => by cases e)
    refine wq_seq ?_
    refine wq_region ?_
    refine wl_v (.int .i64 (0)) rfl rfl (y_asg rfl rfl ⟨rfl, rfl⟩) ?_
    refine wl_v (.int .i64 (50)) rfl rfl (y_asg rfl rfl ⟨rfl, rfl⟩) ?_
    refine wl_nil fun F25 hF26 => ?_
    have s27 : F25 2 = .int .i64 (0) := (hF26 2).trans rfl
    have s28 : F25 3 = .int .i64 (50) := (hF26 3).trans rfl
    clear hF26
    refine then_normal ?_
    refine wq_ret ?_
    refine then_ret ?_
    exact end_2 rfl (res_tmp (v := .int .i64 (0)) s27) (res_tmp (v := .int .i64 (50)) s28) ⟨(by first | (rw [ern_ok (by omega)]) | (rw [stp_no (by omega), ern_no (by omega)])), K14⟩
  · skip
    refine wq_region ?_
    refine wl_v (.int .i64 (q)) rfl rfl (y_mov rfl s17 ⟨rfl, rfl⟩) ?_
    refine wl_v (.bool false) rfl rfl (y_lss rfl rfl rfl (decide_eq_false d19) ⟨rfl, rfl⟩) ?_
    refine wl_v (.bool false) rfl rfl (y_mov rfl rfl ⟨rfl, rfl⟩) ?_
    refine wl_vw (.int .i64 (q)) 2 false 8 rfl rfl rfl rfl rfl (y_mov rfl s17 ⟨rfl, rfl⟩) ?_
    refine wl_vw (.bool (decide ((20) < (q)))) 2 false 8 rfl rfl rfl rfl rfl (y_gtr rfl rfl rfl rfl ⟨rfl, rfl⟩) ?_
    refine wl_v (.bool (decide ((20) < (q)))) rfl rfl (y_pickF rfl rfl rfl ⟨rfl, rfl⟩) ?_
    refine wl_nil fun F29 hF30 => ?_
    have s31 : F29 0 = .int .i64 (q) := (hF30 0).trans s17
    have s32 : F29 4 = .pointer (some ⟨p4, 0, none⟩) := (hF30 4).trans s18
    have s33 : F29 11 = .bool (decide ((20) < (q))) := (hF30 11).trans rfl
    clear hF30
    refine then_normal ?_
    refine wq_cond s33 (fun c34 => ?_) (fun c34 => ?_)
    · replace c34 := of_decide_eq_true c34
      refine wq_seq ?_
      refine wq_region ?_
      refine wl_v (.int .i64 (0)) rfl rfl (y_asg rfl rfl ⟨rfl, rfl⟩) ?_
      refine wl_v (.int .i64 (50)) rfl rfl (y_asg rfl rfl ⟨rfl, rfl⟩) ?_
      refine wl_nil fun F35 hF36 => ?_
      have s37 : F35 2 = .int .i64 (0) := (hF36 2).trans rfl
      have s38 : F35 3 = .int .i64 (50) := (hF36 3).trans rfl
      clear hF36
      refine then_normal ?_
      refine wq_ret ?_
      refine then_ret ?_
      exact end_2 rfl (res_tmp (v := .int .i64 (0)) s37) (res_tmp (v := .int .i64 (50)) s38) ⟨(by first | (rw [ern_ok (by omega)]) | (rw [stp_no (by omega), ern_no (by omega)])), K14⟩
    · replace c34 := of_decide_eq_false c34
      refine wq_skip ?_
      refine then_normal ?_
      refine wq_seq ?_
      refine wq_region ?_
      refine wl_v (.int .i64 (q)) rfl rfl (y_mov rfl s31 ⟨rfl, rfl⟩) ?_
      refine wl_v (.pointer (some ⟨p4, (q).toNat, none⟩)) rfl rfl (y_atR ((q).toNat) (s := 1) rfl s32 rfl (by omega) Tryd.underlying40 (by omega) (by kernel_rfl) (by omega) ⟨rfl, rfl⟩) ?_
      refine wl_v (.int .i64 (stp q)) rfl rfl (y_ldR rfl rfl Tryd.underlying3 (((B12).cell (by omega)).trans (some_int (by rw [stp_ok (by omega)]; rfl))) ⟨rfl, rfl⟩) ?_
      refine wl_v (.int .i64 (stp q)) rfl rfl (y_asg rfl rfl ⟨rfl, rfl⟩) ?_
      refine wl_v (.int .i64 (0)) rfl rfl (y_asg rfl rfl ⟨rfl, rfl⟩) ?_
      refine wl_nil fun F39 hF40 => ?_
      have s41 : F39 2 = .int .i64 (stp q) := (hF40 2).trans rfl
      have s42 : F39 3 = .int .i64 (0) := (hF40 3).trans rfl
      clear hF40
      refine then_normal ?_
      refine wq_ret ?_
      exact end_2 rfl (res_tmp (v := .int .i64 (stp q)) s41) (res_tmp (v := .int .i64 (0)) s42) ⟨(by first | (rw [ern_ok (by omega)]) | (rw [stp_no (by omega), ern_no (by omega)])), K14⟩

set_option maxHeartbeats 4000000 in
set_option maxRecDepth 100000 in
theorem qref_clamp (n : Int) (w0 : World) :
    Calls Tryd.prog 22 #[.int .i64 (n)] w0 fun e w' => e = .returned (.int .i64 (cl 1048576 n)) ∧ Kept (fun _ => False) w0 w' := by
  refine calls_wq (args := [.int .i64 (n)]) 6 Tryd.func22 rfl rfl (Nat.le_of_ble_eq_true rfl) ?_
  have K0 := Kept.refl (fun _ => False) w0
  refine wq_seq ?_
  refine wq_region ?_
  refine wl_v (.int .i64 (0)) rfl rfl (y_asg rfl rfl ⟨rfl, rfl⟩) ?_
  refine wl_nil fun F1 hF2 => ?_
  have s3 : F1 0 = .int .i64 (n) := (hF2 0).trans rfl
  clear hF2
  refine then_normal ?_
  refine wq_seq ?_
  refine wq_region ?_
  refine wl_v (.int .i64 (n)) rfl rfl (y_mov rfl s3 ⟨rfl, rfl⟩) ?_
  refine wl_v (.int .i64 (max (n) (-1048576))) rfl rfl (y_maxR rfl rfl rfl rfl ⟨rfl, rfl⟩) ?_
  refine wl_v (.int .i64 (cl 1048576 n)) rfl rfl (y_minR rfl rfl rfl (by unfold cl; omega) ⟨rfl, rfl⟩) ?_
  refine wl_v (.int .i64 (cl 1048576 n)) rfl rfl (y_asg rfl rfl ⟨rfl, rfl⟩) ?_
  refine wl_nil fun F4 hF5 => ?_
  have s6 : F4 2 = .int .i64 (cl 1048576 n) := (hF5 2).trans rfl
  clear hF5
  refine then_normal ?_
  refine wq_ret ?_
  exact end_tmp (v := .int .i64 (cl 1048576 n)) rfl s6 ⟨rfl, K0⟩

theorem lev_negd {n s : Int} (h : n < 0) : -((-n + s / 2) / s) = lev n s := by unfold lev; rw [if_pos h]

set_option maxHeartbeats 4000000 in
set_option maxRecDepth 100000 in
theorem qref_down (b : Nat → Int) (q : Int) (w0 : World) :
    Calls Tryd.prog 14 #[blkV (b), .int .i64 (q)] w0 fun e w' => e = .returned (.tuple #[blkV (downB b q), .int .i64 (ern q)]) ∧ Kept (fun _ => False) w0 w' := by
  refine calls_wq (args := [blkV (b), .int .i64 (q)]) 50 Tryd.func14 rfl rfl (Nat.le_of_ble_eq_true rfl) ?_
  have K0 := Kept.refl (fun _ => False) w0
  refine wq_seq ?_
  refine wq_region ?_
  refine wl_box_blk rfl rfl rfl rfl fun p1 w2 e5 B3 k4 => ?_
  have lp6 : w0.heap.size ≤ p1 := by have h_ := K0.size; omega
  clear e5
  have K7 := K0.trans k4 (fun _ _ x => x)
  refine wl_alloc_blk rfl rfl rfl blkT_arr.2.2 fun p8 w9 e12 B10 k11 => ?_
  have ne13 : p1 ≠ p8 := by have h_ := B3.lt; omega
  have lp14 : w0.heap.size ≤ p8 := by have h_ := K7.size; omega
  clear e12
  have B15 := B3.all k11 id
  have K16 := K7.trans k11 (fun _ _ x => x)
  refine wl_v (.int .i64 (0)) rfl rfl (y_asg rfl rfl ⟨rfl, rfl⟩) ?_
  refine wl_nil fun F17 hF18 => ?_
  have s19 : F17 1 = .int .i64 (q) := (hF18 1).trans rfl
  have s20 : F17 2 = .pointer (some ⟨p1, 0, none⟩) := (hF18 2).trans rfl
  have s21 : F17 4 = .pointer (some ⟨p8, 0, none⟩) := (hF18 4).trans rfl
  clear hF18
  refine then_normal ?_
  refine wq_seq ?_
  refine wq_region ?_
  refine wl_v (.int .i64 (q)) rfl rfl (y_mov rfl s19 ⟨rfl, rfl⟩) ?_
  refine wl_call (R := fun v_ w_ => v_ = .tuple #[.int .i64 (stp (q)), .int .i64 (ern (q))] ∧ Kept (fun _ => False) w9 w_) rfl rfl (y_cs rfl rfl rfl (fun _ _ => by kernel_rfl) (ev_func _) (vsC rfl vsN) (qref_step (q) _ ) (fun e_ w_ h_ => ⟨_, h_.1, rfl, h_.2⟩)) ?_
  rintro _ w22 ⟨rfl, k23⟩
  have B24 := B15.all k23 id
  have B25 := B10.all k23 id
  have K26 := K16.trans k23 (fun _ _ x => x)
  refine wl_v (.tuple #[.int .i64 (stp (q)), .int .i64 (ern (q))]) rfl rfl (y_mov rfl rfl ⟨rfl, rfl⟩) ?_
  refine wl_v (.int .i64 (stp (q))) rfl rfl (y_ext rfl rfl rfl ⟨rfl, rfl⟩) ?_
  refine wl_v (.int .i64 (ern (q))) rfl rfl (y_ext rfl rfl rfl ⟨rfl, rfl⟩) ?_
  refine wl_v (.int .i64 (stp (q))) rfl rfl (y_asg rfl rfl ⟨rfl, rfl⟩) ?_
  refine wl_v (.int .i64 (ern (q))) rfl rfl (y_asg rfl rfl ⟨rfl, rfl⟩) ?_
  refine wl_nil fun F27 hF28 => ?_
  have s29 : F27 2 = .pointer (some ⟨p1, 0, none⟩) := (hF28 2).trans s20
  have s30 : F27 4 = .pointer (some ⟨p8, 0, none⟩) := (hF28 4).trans s21
  have s31 : F27 6 = .int .i64 (stp (q)) := (hF28 6).trans rfl
  have s32 : F27 7 = .int .i64 (ern (q)) := (hF28 7).trans rfl
  clear hF28
  refine then_normal ?_
  refine wq_seq ?_
  refine wq_region ?_
  refine wl_v (blkV (fun _ => 0)) rfl rfl (y_buildR (cells := (arrL 16 (fun _ => 0)).toArray) rfl (by kernel_rfl) rfl ⟨rfl, rfl⟩) ?_
  refine wl_alloc_blk rfl rfl rfl blkT_arr.2.2 fun p33 w34 e37 B35 k36 => ?_
  have ne38 : p1 ≠ p33 := by have h_ := B24.lt; omega
  have ne39 : p8 ≠ p33 := by have h_ := B25.lt; omega
  have lp40 : w0.heap.size ≤ p33 := by have h_ := K26.size; omega
  clear e37
  have B41 := B24.all k36 id
  have B42 := B25.all k36 id
  have K43 := K26.trans k36 (fun _ _ x => x)
  refine wl_store_blk blkT_arr rfl rfl rfl rfl rfl B35 fun w44 B45 k46 => ?_
  have B47 := B41.all k46 ne38
  have B48 := B42.all k46 ne39
  have K49 := K43.trans k46 (fun _ hi e => absurd (e ▸ hi) (Nat.not_lt.2 lp40))
  refine wl_nil fun F50 hF51 => ?_
  have s52 : F50 2 = .pointer (some ⟨p1, 0, none⟩) := (hF51 2).trans s29
  have s53 : F50 4 = .pointer (some ⟨p8, 0, none⟩) := (hF51 4).trans s30
  have s54 : F50 6 = .int .i64 (stp (q)) := (hF51 6).trans s31
  have s55 : F50 7 = .int .i64 (ern (q)) := (hF51 7).trans s32
  have s56 : F50 8 = .pointer (some ⟨p33, 0, none⟩) := (hF51 8).trans rfl
  clear hF51
  refine then_normal ?_
  refine wq_seq ?_
  refine wq_seq ?_
  refine wq_region ?_
  refine wl_v (.int .i64 (ern (q))) rfl rfl (y_mov rfl s55 ⟨rfl, rfl⟩) ?_
  refine wl_v (.bool (decide ((ern (q)) ≠ (0)))) rfl rfl (y_neqI rfl rfl rfl rfl ⟨rfl, rfl⟩) ?_
  refine wl_nil fun F57 hF58 => ?_
  have s59 : F57 2 = .pointer (some ⟨p1, 0, none⟩) := (hF58 2).trans s52
  have s60 : F57 4 = .pointer (some ⟨p8, 0, none⟩) := (hF58 4).trans s53
  have s61 : F57 6 = .int .i64 (stp (q)) := (hF58 6).trans s54
  have s62 : F57 7 = .int .i64 (ern (q)) := (hF58 7).trans s55
  have s63 : F57 8 = .pointer (some ⟨p33, 0, none⟩) := (hF58 8).trans s56
  have s64 : F57 18 = .bool (decide ((ern (q)) ≠ (0))) := (hF58 18).trans rfl
  clear hF58
  refine then_normal ?_
  refine wq_cond s64 (fun c65 => ?_) (fun c65 => ?_)
  · replace c65 := of_decide_eq_true c65
    refine wq_seq ?_
    refine wq_region ?_
    refine wl_v (blkV (fun _ => 0)) rfl rfl (y_load_blk blkT_arr rfl s63 B45 ⟨rfl, rfl⟩) ?_
    refine wl_v (.int .i64 (ern (q))) rfl rfl (y_mov rfl s62 ⟨rfl, rfl⟩) ?_
    refine wl_store_blk blkT_arr rfl rfl rfl s60 rfl B48 fun w66 B67 k68 => ?_
    have B69 := B47.all k68 ne13
    have B70 := B45.all k68 (Ne.symm ne39)
    have K71 := K49.trans k68 (fun _ hi e => absurd (e ▸ hi) (Nat.not_lt.2 lp14))
    refine wl_v (.int .i64 (ern (q))) rfl rfl (y_asg rfl rfl ⟨rfl, rfl⟩) ?_
    refine wl_nil fun F72 hF73 => ?_
    have s74 : F72 4 = .pointer (some ⟨p8, 0, none⟩) := (hF73 4).trans s60
    have s75 : F72 5 = .int .i64 (ern (q)) := (hF73 5).trans rfl
    clear hF73
    refine then_normal ?_
    refine wq_ret ?_
    refine then_ret ?_
    exact end_2 rfl (res_blk blkT_arr s74 B67) (res_tmp (v := .int .i64 (ern (q))) s75) ⟨(by first | (unfold downB; rw [each_no (by omega)]) | (rw [show ern q = 0 by omega])), K71⟩
  · replace c65 := of_decide_eq_false c65
    refine wq_skip ?_
    refine then_normal ?_
    refine wq_seq ?_
    refine wq_seq ?_
    refine wq_region ?_
    refine wl_v (.int .i64 (0)) rfl rfl (y_asg rfl rfl ⟨rfl, rfl⟩) ?_
    refine wl_nil fun F76 hF77 => ?_
    have s78 : F76 2 = .pointer (some ⟨p1, 0, none⟩) := (hF77 2).trans s59
    have s79 : F76 4 = .pointer (some ⟨p8, 0, none⟩) := (hF77 4).trans s60
    have s80 : F76 6 = .int .i64 (stp (q)) := (hF77 6).trans s61
    have s81 : F76 8 = .pointer (some ⟨p33, 0, none⟩) := (hF77 8).trans s63
    have s82 : F76 9 = .int .i64 (0) := (hF77 9).trans rfl
    clear hF77
    refine then_normal ?_
    refine wq_block ?_
    refine wq_loop (fun nn FF ww => ∃ (k : Nat), k ≤ 16 ∧ nn = 16 - k ∧ FF 2 = .pointer (some ⟨p1, 0, none⟩) ∧ FF 4 = .pointer (some ⟨p8, 0, none⟩) ∧ FF 6 = .int .i64 (stp (q)) ∧ FF 8 = .pointer (some ⟨p33, 0, none⟩) ∧ FF 9 = .int .i64 (((k : Nat) : Int)) ∧ Kept (fun _ => False) w0 ww ∧ Blk ww p1 22 (b) ∧ Blk ww p8 22 (fun _ => 0) ∧ Blk ww p33 22 (upto k (fun _ => 0) (downB b q))) (16 - (0)) ⟨0, by omega, rfl, s78, s79, s80, s81, s82, K49, B47, B48, B45.first⟩ ?_
    rintro n86 F83 w84 ⟨k, i87, hn86, s88, s89, s90, s91, s92, K85, B93, B94, B95⟩
    refine wq_seq ?_
    refine wq_seq ?_
    refine wq_region ?_
    refine wl_v (.int .i64 (((k : Nat) : Int))) rfl rfl (y_mov rfl s92 ⟨rfl, rfl⟩) ?_
    refine wl_v (.bool (decide ((((k : Nat) : Int)) < (16)))) rfl rfl (y_lss rfl rfl rfl rfl ⟨rfl, rfl⟩) ?_
    refine wl_nil fun F96 hF97 => ?_
    have s98 : F96 2 = .pointer (some ⟨p1, 0, none⟩) := (hF97 2).trans s88
    have s99 : F96 4 = .pointer (some ⟨p8, 0, none⟩) := (hF97 4).trans s89
    have s100 : F96 6 = .int .i64 (stp (q)) := (hF97 6).trans s90
    have s101 : F96 8 = .pointer (some ⟨p33, 0, none⟩) := (hF97 8).trans s91
    have s102 : F96 9 = .int .i64 (((k : Nat) : Int)) := (hF97 9).trans s92
    have s103 : F96 22 = .bool (decide ((((k : Nat) : Int)) < (16))) := (hF97 22).trans rfl
    clear hF97
    refine then_normal ?_
    refine wq_cond s103 (fun c104 => ?_) (fun c104 => ?_)
    · replace c104 := of_decide_eq_true c104
      refine wq_skip ?_
      refine then_normal ?_
      refine wq_seq ?_
      refine wq_block ?_
      refine wq_seq ?_
      have hst := stp_le (q := q) (by omega)
      have hcl := cl_le 1048576 (b k) (by omega)
      have hlv := lev_le hcl hst
      refine wq_region ?_
      refine wl_v (.int .i64 (((k : Nat) : Int))) rfl rfl (y_mov rfl s102 ⟨rfl, rfl⟩) ?_
      refine wl_v (.pointer (some ⟨p1, k, none⟩)) rfl rfl (y_atR (k) (s := 1) rfl s98 rfl (by omega) Tryd.underlying22 (by omega) (by kernel_rfl) (by omega) ⟨rfl, rfl⟩) ?_
      refine wl_v (.int .i64 ((b) (k))) rfl rfl (y_ldR rfl rfl Tryd.underlying3 ((B93).cell (by omega)) ⟨rfl, rfl⟩) ?_
      refine wl_call (R := fun v_ w_ => v_ = .int .i64 (cl 1048576 ((b) (k))) ∧ Kept (fun _ => False) w84 w_) rfl rfl (y_cs rfl rfl rfl (fun _ _ => by kernel_rfl) (ev_func _) (vsC rfl vsN) (qref_clamp ((b) (k)) _ ) (fun e_ w_ h_ => ⟨_, h_.1, rfl, h_.2⟩)) ?_
      rintro _ w105 ⟨rfl, k106⟩
      have B107 := B93.all k106 id
      have B108 := B94.all k106 id
      have B109 := B95.all k106 id
      have K110 := K85.trans k106 (fun _ _ x => x)
      refine wl_v (.int .i64 (cl 1048576 ((b) (k)))) rfl rfl (y_asg rfl rfl ⟨rfl, rfl⟩) ?_
      refine wl_nil fun F111 hF112 => ?_
      have s113 : F111 2 = .pointer (some ⟨p1, 0, none⟩) := (hF112 2).trans s98
      have s114 : F111 4 = .pointer (some ⟨p8, 0, none⟩) := (hF112 4).trans s99
      have s115 : F111 6 = .int .i64 (stp (q)) := (hF112 6).trans s100
      have s116 : F111 8 = .pointer (some ⟨p33, 0, none⟩) := (hF112 8).trans s101
      have s117 : F111 9 = .int .i64 (((k : Nat) : Int)) := (hF112 9).trans s102
      have s118 : F111 10 = .int .i64 (cl 1048576 ((b) (k))) := (hF112 10).trans rfl
      clear hF112
      refine then_normal ?_
      refine wq_seq ?_
      refine wq_region ?_
      refine wl_v (.int .i64 (cl 1048576 ((b) (k)))) rfl rfl (y_mov rfl s118 ⟨rfl, rfl⟩) ?_
      refine wl_v (.bool (decide ((cl 1048576 ((b) (k))) < (0)))) rfl rfl (y_lss rfl rfl rfl rfl ⟨rfl, rfl⟩) ?_
      refine wl_nil fun F119 hF120 => ?_
      have s121 : F119 2 = .pointer (some ⟨p1, 0, none⟩) := (hF120 2).trans s113
      have s122 : F119 4 = .pointer (some ⟨p8, 0, none⟩) := (hF120 4).trans s114
      have s123 : F119 6 = .int .i64 (stp (q)) := (hF120 6).trans s115
      have s124 : F119 8 = .pointer (some ⟨p33, 0, none⟩) := (hF120 8).trans s116
      have s125 : F119 9 = .int .i64 (((k : Nat) : Int)) := (hF120 9).trans s117
      have s126 : F119 10 = .int .i64 (cl 1048576 ((b) (k))) := (hF120 10).trans s118
      have s127 : F119 30 = .bool (decide ((cl 1048576 ((b) (k))) < (0))) := (hF120 30).trans rfl
      clear hF120
      refine then_normal ?_
      refine wq_cond s127 (fun c128 => ?_) (fun c128 => ?_)
      · replace c128 := of_decide_eq_true c128
        have hdv := div_in (m := -(cl 1048576 (b k)) + stp q / 2) hst.1 (by omega)
        refine wq_region ?_
        refine wl_v (.int .i64 (((k : Nat) : Int))) rfl rfl (y_mov rfl s125 ⟨rfl, rfl⟩) ?_
        refine wl_v (.int .i64 (cl 1048576 ((b) (k)))) rfl rfl (y_mov rfl s126 ⟨rfl, rfl⟩) ?_
        refine wl_v (.int .i64 (-(cl 1048576 ((b) (k))))) rfl rfl (y_neg rfl rfl (i64_i rfl (by omega)) ⟨rfl, rfl⟩) ?_
        refine wl_v (.int .i64 (stp (q))) rfl rfl (y_mov rfl s123 ⟨rfl, rfl⟩) ?_
        refine wl_v (.int .i64 (stp q / 2)) rfl rfl (y_quo rfl rfl rfl (by first | decide | omega) (i64_i (Int.tdiv_eq_ediv_of_nonneg (by omega)) (by omega)) ⟨rfl, rfl⟩) ?_
        refine wl_v (.int .i64 ((-(cl 1048576 ((b) (k)))) + (stp q / 2))) rfl rfl (y_add rfl rfl rfl (i64_i rfl (by omega)) ⟨rfl, rfl⟩) ?_
        refine wl_v (.int .i64 (stp (q))) rfl rfl (y_mov rfl s123 ⟨rfl, rfl⟩) ?_
        refine wl_v (.int .i64 ((-(cl 1048576 (b k)) + stp q / 2) / stp q)) rfl rfl (y_quo rfl rfl rfl (by first | decide | omega) (i64_i (Int.tdiv_eq_ediv_of_nonneg (by omega)) (by omega)) ⟨rfl, rfl⟩) ?_
        refine wl_v (.int .i64 (lev (cl 1048576 (b k)) (stp q))) rfl rfl (y_neg rfl rfl (i64_i (lev_negd (by omega)) (by omega)) ⟨rfl, rfl⟩) ?_
        refine wl_v (.pointer (some ⟨p33, k, none⟩)) rfl rfl (y_atR (k) (s := 1) rfl s124 rfl (by omega) Tryd.underlying22 (by omega) (by kernel_rfl) (by omega) ⟨rfl, rfl⟩) ?_
        refine wl_set_blk rfl rfl rfl rfl rfl B109 (by omega) (by kernel_rfl) fun w129 B130 k131 => ?_
        have B132 := B107.all k131 ne38
        have B133 := B108.all k131 ne39
        have K134 := K110.trans k131 (fun _ hi e => absurd (e ▸ hi) (Nat.not_lt.2 lp40))
        refine wl_nil fun F135 hF136 => ?_
        have s137 : F135 2 = .pointer (some ⟨p1, 0, none⟩) := (hF136 2).trans s121
        have s138 : F135 4 = .pointer (some ⟨p8, 0, none⟩) := (hF136 4).trans s122
        have s139 : F135 6 = .int .i64 (stp (q)) := (hF136 6).trans s123
        have s140 : F135 8 = .pointer (some ⟨p33, 0, none⟩) := (hF136 8).trans s124
        have s141 : F135 9 = .int .i64 (((k : Nat) : Int)) := (hF136 9).trans s125
        clear hF136
        refine in_normal ?_
        refine then_normal ?_
        refine wq_region ?_
        refine wl_v (.int .i64 (((k : Nat) : Int))) rfl rfl (y_mov rfl s141 ⟨rfl, rfl⟩) ?_
        refine wl_v (.int .i64 (((k + 1 : Nat) : Int))) rfl rfl (y_add rfl rfl rfl (i64_n (by omega) (by omega)) ⟨rfl, rfl⟩) ?_
        refine wl_v (.int .i64 (((k + 1 : Nat) : Int))) rfl rfl (y_asg rfl rfl ⟨rfl, rfl⟩) ?_
        refine wl_nil fun F142 hF143 => ?_
        have s144 : F142 2 = .pointer (some ⟨p1, 0, none⟩) := (hF143 2).trans s137
        have s145 : F142 4 = .pointer (some ⟨p8, 0, none⟩) := (hF143 4).trans s138
        have s146 : F142 6 = .int .i64 (stp (q)) := (hF143 6).trans s139
        have s147 : F142 8 = .pointer (some ⟨p33, 0, none⟩) := (hF143 8).trans s140
        have s148 : F142 9 = .int .i64 (((k + 1 : Nat) : Int)) := (hF143 9).trans rfl
        clear hF143
        exact then_normal ⟨(16 - (k + 1)), by omega, k + 1, by omega, rfl, s144, s145, s146, s147, s148, K134, B132, B133, (B130.next (by rw [down_at (by omega)]))⟩
      · replace c128 := of_decide_eq_false c128
        refine wq_region ?_
        refine wl_v (.int .i64 (((k : Nat) : Int))) rfl rfl (y_mov rfl s125 ⟨rfl, rfl⟩) ?_
        refine wl_v (.int .i64 (cl 1048576 ((b) (k)))) rfl rfl (y_mov rfl s126 ⟨rfl, rfl⟩) ?_
        refine wl_v (.int .i64 (stp (q))) rfl rfl (y_mov rfl s123 ⟨rfl, rfl⟩) ?_
        refine wl_v (.int .i64 (stp q / 2)) rfl rfl (y_quo rfl rfl rfl (by first | decide | omega) (i64_i (Int.tdiv_eq_ediv_of_nonneg (by omega)) (by omega)) ⟨rfl, rfl⟩) ?_
        refine wl_v (.int .i64 ((cl 1048576 ((b) (k))) + (stp q / 2))) rfl rfl (y_add rfl rfl rfl (i64_i rfl (by omega)) ⟨rfl, rfl⟩) ?_
        refine wl_v (.int .i64 (stp (q))) rfl rfl (y_mov rfl s123 ⟨rfl, rfl⟩) ?_
        refine wl_v (.int .i64 (lev (cl 1048576 (b k)) (stp q))) rfl rfl (y_quo rfl rfl rfl (by first | decide | omega) (i64_i (lev_pos (by omega) (by omega)) (by omega)) ⟨rfl, rfl⟩) ?_
        refine wl_v (.pointer (some ⟨p33, k, none⟩)) rfl rfl (y_atR (k) (s := 1) rfl s124 rfl (by omega) Tryd.underlying22 (by omega) (by kernel_rfl) (by omega) ⟨rfl, rfl⟩) ?_
        refine wl_set_blk rfl rfl rfl rfl rfl B109 (by omega) (by kernel_rfl) fun w149 B150 k151 => ?_
        have B152 := B107.all k151 ne38
        have B153 := B108.all k151 ne39
        have K154 := K110.trans k151 (fun _ hi e => absurd (e ▸ hi) (Nat.not_lt.2 lp40))
        refine wl_nil fun F155 hF156 => ?_
        have s157 : F155 2 = .pointer (some ⟨p1, 0, none⟩) := (hF156 2).trans s121
        have s158 : F155 4 = .pointer (some ⟨p8, 0, none⟩) := (hF156 4).trans s122
        have s159 : F155 6 = .int .i64 (stp (q)) := (hF156 6).trans s123
        have s160 : F155 8 = .pointer (some ⟨p33, 0, none⟩) := (hF156 8).trans s124
        have s161 : F155 9 = .int .i64 (((k : Nat) : Int)) := (hF156 9).trans s125
        clear hF156
        refine in_normal ?_
        refine then_normal ?_
        refine wq_region ?_
        refine wl_v (.int .i64 (((k : Nat) : Int))) rfl rfl (y_mov rfl s161 ⟨rfl, rfl⟩) ?_
        refine wl_v (.int .i64 (((k + 1 : Nat) : Int))) rfl rfl (y_add rfl rfl rfl (i64_n (by omega) (by omega)) ⟨rfl, rfl⟩) ?_
        refine wl_v (.int .i64 (((k + 1 : Nat) : Int))) rfl rfl (y_asg rfl rfl ⟨rfl, rfl⟩) ?_
        refine wl_nil fun F162 hF163 => ?_
        have s164 : F162 2 = .pointer (some ⟨p1, 0, none⟩) := (hF163 2).trans s157
        have s165 : F162 4 = .pointer (some ⟨p8, 0, none⟩) := (hF163 4).trans s158
        have s166 : F162 6 = .int .i64 (stp (q)) := (hF163 6).trans s159
        have s167 : F162 8 = .pointer (some ⟨p33, 0, none⟩) := (hF163 8).trans s160
        have s168 : F162 9 = .int .i64 (((k + 1 : Nat) : Int)) := (hF163 9).trans rfl
        clear hF163
        exact then_normal ⟨(16 - (k + 1)), by omega, k + 1, by omega, rfl, s164, s165, s166, s167, s168, K154, B152, B153, (B150.next (by rw [down_at (by omega)]))⟩
    · replace c104 := of_decide_eq_false c104
      refine wq_exit ?_
      refine then_exit ?_
      refine then_exit ?_
      have l169 : 16 = k := by omega
      subst l169
      have B170 : Blk w84 p33 22 (downB b q) := (B95.last)
      refine in_here ?_
      refine then_normal ?_
      refine wq_seq ?_
      refine wq_region ?_
      refine wl_v (blkV (downB b q)) rfl rfl (y_load_blk blkT_arr rfl s101 B170 ⟨rfl, rfl⟩) ?_
      refine wl_store_blk blkT_arr rfl rfl rfl s99 rfl B94 fun w171 B172 k173 => ?_
      have B174 := B93.all k173 ne13
      have B175 := B170.all k173 (Ne.symm ne39)
      have K176 := K85.trans k173 (fun _ hi e => absurd (e ▸ hi) (Nat.not_lt.2 lp14))
      refine wl_v (.int .i64 (0)) rfl rfl (y_asg rfl rfl ⟨rfl, rfl⟩) ?_
      refine wl_nil fun F177 hF178 => ?_
      have s179 : F177 4 = .pointer (some ⟨p8, 0, none⟩) := (hF178 4).trans s99
      have s180 : F177 5 = .int .i64 (0) := (hF178 5).trans rfl
      clear hF178
      refine then_normal ?_
      refine wq_ret ?_
      exact end_2 rfl (res_blk blkT_arr s179 B172) (res_tmp (v := .int .i64 (0)) s180) ⟨(by first | (unfold downB; rw [each_no (by omega)]) | (rw [show ern q = 0 by omega])), K176⟩

set_option maxHeartbeats 4000000 in
set_option maxRecDepth 100000 in
theorem qref_up_ok (b : Nat → Int) (q : Int) (w0 : World) (he : ern q = 0) :
    Calls Tryd.prog 16 #[blkV (b), .int .i64 (q)] w0 fun e w' => e = .returned (.tuple #[blkV (upB b q), .int .i64 (ern q)]) ∧ Kept (fun _ => False) w0 w' := by
  refine calls_wq (args := [blkV (b), .int .i64 (q)]) 34 Tryd.func16 rfl rfl (Nat.le_of_ble_eq_true rfl) ?_
  have K0 := Kept.refl (fun _ => False) w0
  refine wq_seq ?_
  refine wq_region ?_
  refine wl_box_blk rfl rfl rfl rfl fun p1 w2 e5 B3 k4 => ?_
  have lp6 : w0.heap.size ≤ p1 := by have h_ := K0.size; omega
  clear e5
  have K7 := K0.trans k4 (fun _ _ x => x)
  refine wl_alloc_blk rfl rfl rfl blkT_arr.2.2 fun p8 w9 e12 B10 k11 => ?_
  have ne13 : p1 ≠ p8 := by have h_ := B3.lt; omega
  have lp14 : w0.heap.size ≤ p8 := by have h_ := K7.size; omega
  clear e12
  have B15 := B3.all k11 id
  have K16 := K7.trans k11 (fun _ _ x => x)
  refine wl_v (.int .i64 (0)) rfl rfl (y_asg rfl rfl ⟨rfl, rfl⟩) ?_
  refine wl_nil fun F17 hF18 => ?_
  have s19 : F17 1 = .int .i64 (q) := (hF18 1).trans rfl
  have s20 : F17 2 = .pointer (some ⟨p1, 0, none⟩) := (hF18 2).trans rfl
  have s21 : F17 4 = .pointer (some ⟨p8, 0, none⟩) := (hF18 4).trans rfl
  clear hF18
  refine then_normal ?_
  refine wq_seq ?_
  refine wq_region ?_
  refine wl_v (.int .i64 (q)) rfl rfl (y_mov rfl s19 ⟨rfl, rfl⟩) ?_
  refine wl_call (R := fun v_ w_ => v_ = .tuple #[.int .i64 (stp (q)), .int .i64 (ern (q))] ∧ Kept (fun _ => False) w9 w_) rfl rfl (y_cs rfl rfl rfl (fun _ _ => by kernel_rfl) (ev_func _) (vsC rfl vsN) (qref_step (q) _ ) (fun e_ w_ h_ => ⟨_, h_.1, rfl, h_.2⟩)) ?_
  rintro _ w22 ⟨rfl, k23⟩
  have B24 := B15.all k23 id
  have B25 := B10.all k23 id
  have K26 := K16.trans k23 (fun _ _ x => x)
  refine wl_v (.tuple #[.int .i64 (stp (q)), .int .i64 (ern (q))]) rfl rfl (y_mov rfl rfl ⟨rfl, rfl⟩) ?_
  refine wl_v (.int .i64 (stp (q))) rfl rfl (y_ext rfl rfl rfl ⟨rfl, rfl⟩) ?_
  refine wl_v (.int .i64 (ern (q))) rfl rfl (y_ext rfl rfl rfl ⟨rfl, rfl⟩) ?_
  refine wl_v (.int .i64 (stp (q))) rfl rfl (y_asg rfl rfl ⟨rfl, rfl⟩) ?_
  refine wl_v (.int .i64 (ern (q))) rfl rfl (y_asg rfl rfl ⟨rfl, rfl⟩) ?_
  refine wl_nil fun F27 hF28 => ?_
  have s29 : F27 2 = .pointer (some ⟨p1, 0, none⟩) := (hF28 2).trans s20
  have s30 : F27 4 = .pointer (some ⟨p8, 0, none⟩) := (hF28 4).trans s21
  have s31 : F27 6 = .int .i64 (stp (q)) := (hF28 6).trans rfl
  have s32 : F27 7 = .int .i64 (ern (q)) := (hF28 7).trans rfl
  clear hF28
  refine then_normal ?_
  refine wq_seq ?_
  refine wq_region ?_
  refine wl_v (blkV (fun _ => 0)) rfl rfl (y_buildR (cells := (arrL 16 (fun _ => 0)).toArray) rfl (by kernel_rfl) rfl ⟨rfl, rfl⟩) ?_
  refine wl_alloc_blk rfl rfl rfl blkT_arr.2.2 fun p33 w34 e37 B35 k36 => ?_
  have ne38 : p1 ≠ p33 := by have h_ := B24.lt; omega
  have ne39 : p8 ≠ p33 := by have h_ := B25.lt; omega
  have lp40 : w0.heap.size ≤ p33 := by have h_ := K26.size; omega
  clear e37
  have B41 := B24.all k36 id
  have B42 := B25.all k36 id
  have K43 := K26.trans k36 (fun _ _ x => x)
  refine wl_store_blk blkT_arr rfl rfl rfl rfl rfl B35 fun w44 B45 k46 => ?_
  have B47 := B41.all k46 ne38
  have B48 := B42.all k46 ne39
  have K49 := K43.trans k46 (fun _ hi e => absurd (e ▸ hi) (Nat.not_lt.2 lp40))
  refine wl_nil fun F50 hF51 => ?_
  have s52 : F50 2 = .pointer (some ⟨p1, 0, none⟩) := (hF51 2).trans s29
  have s53 : F50 4 = .pointer (some ⟨p8, 0, none⟩) := (hF51 4).trans s30
  have s54 : F50 6 = .int .i64 (stp (q)) := (hF51 6).trans s31
  have s55 : F50 7 = .int .i64 (ern (q)) := (hF51 7).trans s32
  have s56 : F50 8 = .pointer (some ⟨p33, 0, none⟩) := (hF51 8).trans rfl
  clear hF51
  refine then_normal ?_
  refine wq_seq ?_
  refine wq_seq ?_
  refine wq_region ?_
  refine wl_v (.int .i64 (0)) rfl rfl (y_asg rfl rfl ⟨rfl, rfl⟩) ?_
  refine wl_nil fun F57 hF58 => ?_
  have s59 : F57 2 = .pointer (some ⟨p1, 0, none⟩) := (hF58 2).trans s52
  have s60 : F57 4 = .pointer (some ⟨p8, 0, none⟩) := (hF58 4).trans s53
  have s61 : F57 6 = .int .i64 (stp (q)) := (hF58 6).trans s54
  have s62 : F57 7 = .int .i64 (ern (q)) := (hF58 7).trans s55
  have s63 : F57 8 = .pointer (some ⟨p33, 0, none⟩) := (hF58 8).trans s56
  have s64 : F57 9 = .int .i64 (0) := (hF58 9).trans rfl
  clear hF58
  refine then_normal ?_
  refine wq_block ?_
  refine wq_loop (fun nn FF ww => ∃ (k : Nat), k ≤ 16 ∧ nn = 16 - k ∧ FF 2 = .pointer (some ⟨p1, 0, none⟩) ∧ FF 4 = .pointer (some ⟨p8, 0, none⟩) ∧ FF 6 = .int .i64 (stp (q)) ∧ FF 7 = .int .i64 (ern (q)) ∧ FF 8 = .pointer (some ⟨p33, 0, none⟩) ∧ FF 9 = .int .i64 (((k : Nat) : Int)) ∧ Kept (fun _ => False) w0 ww ∧ Blk ww p1 22 (b) ∧ Blk ww p8 22 (fun _ => 0) ∧ Blk ww p33 22 (upto k (fun _ => 0) (upB b q))) (16 - (0)) ⟨0, by omega, rfl, s59, s60, s61, s62, s63, s64, K49, B47, B48, B45.first⟩ ?_
  rintro n68 F65 w66 ⟨k, i69, hn68, s70, s71, s72, s73, s74, s75, K67, B76, B77, B78⟩
  refine wq_seq ?_
  refine wq_seq ?_
  by_cases d79 : (((k : Nat) : Int)) < (16)
  · skip
    refine wq_region ?_
    refine wl_v (.int .i64 (((k : Nat) : Int))) rfl rfl (y_mov rfl s75 ⟨rfl, rfl⟩) ?_
    refine wl_v (.bool true) rfl rfl (y_lss rfl rfl rfl (decide_eq_true d79) ⟨rfl, rfl⟩) ?_
    refine wl_v (.bool true) rfl rfl (y_mov rfl rfl ⟨rfl, rfl⟩) ?_
    refine wl_vw (.int .i64 (ern (q))) 2 true 18 rfl rfl rfl rfl rfl (y_mov rfl s73 ⟨rfl, rfl⟩) ?_
    refine wl_vw (.bool true) 2 true 18 rfl rfl rfl rfl rfl (y_eqlI rfl rfl rfl (decide_eq_true he) ⟨rfl, rfl⟩) ?_
    refine wl_v (.bool true) rfl rfl (y_pickT rfl rfl rfl ⟨rfl, rfl⟩) ?_
    refine wl_nil fun F80 hF81 => ?_
    have s82 : F80 2 = .pointer (some ⟨p1, 0, none⟩) := (hF81 2).trans s70
    have s83 : F80 4 = .pointer (some ⟨p8, 0, none⟩) := (hF81 4).trans s71
    have s84 : F80 6 = .int .i64 (stp (q)) := (hF81 6).trans s72
    have s85 : F80 7 = .int .i64 (ern (q)) := (hF81 7).trans s73
    have s86 : F80 8 = .pointer (some ⟨p33, 0, none⟩) := (hF81 8).trans s74
    have s87 : F80 9 = .int .i64 (((k : Nat) : Int)) := (hF81 9).trans s75
    have s88 : F80 21 = .bool true := (hF81 21).trans rfl
    clear hF81
    refine then_normal ?_
    refine wq_cond (t := true) s88 (fun _ => ?_) (fun e => by cases e)
    refine wq_skip ?_
    refine then_normal ?_
    refine wq_seq ?_
    refine wq_block ?_
    have hst := stp_le (q := q) (by omega)
    have hcl := cl_le 1048576 (b k) (by omega)
    have hmu : -201326592 ≤ cl 1048576 (b k) * stp q ∧ cl 1048576 (b k) * stp q ≤ 201326592 := mul_in hcl hst
    refine wq_region ?_
    refine wl_v (.int .i64 (((k : Nat) : Int))) rfl rfl (y_mov rfl s87 ⟨rfl, rfl⟩) ?_
    refine wl_v (.int .i64 (((k : Nat) : Int))) rfl rfl (y_mov rfl s87 ⟨rfl, rfl⟩) ?_
    refine wl_v (.pointer (some ⟨p1, k, none⟩)) rfl rfl (y_atR (k) (s := 1) rfl s82 rfl (by omega) Tryd.underlying22 (by omega) (by kernel_rfl) (by omega) ⟨rfl, rfl⟩) ?_
    refine wl_v (.int .i64 ((b) (k))) rfl rfl (y_ldR rfl rfl Tryd.underlying3 ((B76).cell (by omega)) ⟨rfl, rfl⟩) ?_
    refine wl_call (R := fun v_ w_ => v_ = .int .i64 (cl 1048576 ((b) (k))) ∧ Kept (fun _ => False) w66 w_) rfl rfl (y_cs rfl rfl rfl (fun _ _ => by kernel_rfl) (ev_func _) (vsC rfl vsN) (qref_clamp ((b) (k)) _ ) (fun e_ w_ h_ => ⟨_, h_.1, rfl, h_.2⟩)) ?_
    rintro _ w89 ⟨rfl, k90⟩
    have B91 := B76.all k90 id
    have B92 := B77.all k90 id
    have B93 := B78.all k90 id
    have K94 := K67.trans k90 (fun _ _ x => x)
    refine wl_v (.int .i64 (stp (q))) rfl rfl (y_mov rfl s84 ⟨rfl, rfl⟩) ?_
    refine wl_v (.int .i64 ((cl 1048576 ((b) (k))) * (stp (q)))) rfl rfl (y_mul rfl rfl rfl (i64_i rfl (by omega)) ⟨rfl, rfl⟩) ?_
    refine wl_v (.pointer (some ⟨p33, k, none⟩)) rfl rfl (y_atR (k) (s := 1) rfl s86 rfl (by omega) Tryd.underlying22 (by omega) (by kernel_rfl) (by omega) ⟨rfl, rfl⟩) ?_
    refine wl_set_blk rfl rfl rfl rfl rfl B93 (by omega) (by kernel_rfl) fun w95 B96 k97 => ?_
    have B98 := B91.all k97 ne38
    have B99 := B92.all k97 ne39
    have K100 := K94.trans k97 (fun _ hi e => absurd (e ▸ hi) (Nat.not_lt.2 lp40))
    refine wl_nil fun F101 hF102 => ?_
    have s103 : F101 2 = .pointer (some ⟨p1, 0, none⟩) := (hF102 2).trans s82
    have s104 : F101 4 = .pointer (some ⟨p8, 0, none⟩) := (hF102 4).trans s83
    have s105 : F101 6 = .int .i64 (stp (q)) := (hF102 6).trans s84
    have s106 : F101 7 = .int .i64 (ern (q)) := (hF102 7).trans s85
    have s107 : F101 8 = .pointer (some ⟨p33, 0, none⟩) := (hF102 8).trans s86
    have s108 : F101 9 = .int .i64 (((k : Nat) : Int)) := (hF102 9).trans s87
    clear hF102
    refine in_normal ?_
    refine then_normal ?_
    refine wq_region ?_
    refine wl_v (.int .i64 (((k : Nat) : Int))) rfl rfl (y_mov rfl s108 ⟨rfl, rfl⟩) ?_
    refine wl_v (.int .i64 (((k + 1 : Nat) : Int))) rfl rfl (y_add rfl rfl rfl (i64_n (by omega) (by omega)) ⟨rfl, rfl⟩) ?_
    refine wl_v (.int .i64 (((k + 1 : Nat) : Int))) rfl rfl (y_asg rfl rfl ⟨rfl, rfl⟩) ?_
    refine wl_nil fun F109 hF110 => ?_
    have s111 : F109 2 = .pointer (some ⟨p1, 0, none⟩) := (hF110 2).trans s103
    have s112 : F109 4 = .pointer (some ⟨p8, 0, none⟩) := (hF110 4).trans s104
    have s113 : F109 6 = .int .i64 (stp (q)) := (hF110 6).trans s105
    have s114 : F109 7 = .int .i64 (ern (q)) := (hF110 7).trans s106
    have s115 : F109 8 = .pointer (some ⟨p33, 0, none⟩) := (hF110 8).trans s107
    have s116 : F109 9 = .int .i64 (((k + 1 : Nat) : Int)) := (hF110 9).trans rfl
    clear hF110
    exact then_normal ⟨(16 - (k + 1)), by omega, k + 1, by omega, rfl, s111, s112, s113, s114, s115, s116, K100, B98, B99, (B96.next (by rw [up_at he]))⟩
  · skip
    refine wq_region ?_
    refine wl_v (.int .i64 (((k : Nat) : Int))) rfl rfl (y_mov rfl s75 ⟨rfl, rfl⟩) ?_
    refine wl_v (.bool false) rfl rfl (y_lss rfl rfl rfl (decide_eq_false d79) ⟨rfl, rfl⟩) ?_
    refine wl_v (.bool false) rfl rfl (y_mov rfl rfl ⟨rfl, rfl⟩) ?_
    refine wl_unless 2 true 18 rfl rfl rfl (Or.inl rfl) rfl ?_
    refine wl_unless 2 true 18 rfl rfl rfl (Or.inl rfl) rfl ?_
    refine wl_v (.bool false) rfl rfl (y_pickF rfl rfl rfl ⟨rfl, rfl⟩) ?_
    refine wl_nil fun F117 hF118 => ?_
    have s119 : F117 2 = .pointer (some ⟨p1, 0, none⟩) := (hF118 2).trans s70
    have s120 : F117 4 = .pointer (some ⟨p8, 0, none⟩) := (hF118 4).trans s71
    have s121 : F117 6 = .int .i64 (stp (q)) := (hF118 6).trans s72
    have s122 : F117 7 = .int .i64 (ern (q)) := (hF118 7).trans s73
    have s123 : F117 8 = .pointer (some ⟨p33, 0, none⟩) := (hF118 8).trans s74
    have s124 : F117 9 = .int .i64 (((k : Nat) : Int)) := (hF118 9).trans s75
    have s125 : F117 21 = .bool false := (hF118 21).trans rfl
    clear hF118
    refine then_normal ?_
    refine wq_cond (t := false) s125 (fun e => by cases e) (fun _ => ?_)
    refine wq_exit ?_
    refine then_exit ?_
    refine then_exit ?_
    have l126 : 16 = k := by omega
    subst l126
    have B127 : Blk w66 p33 22 (upB b q) := (B78.last)
    refine in_here ?_
    refine then_normal ?_
    refine wq_seq ?_
    refine wq_region ?_
    refine wl_v (blkV (upB b q)) rfl rfl (y_load_blk blkT_arr rfl s123 B127 ⟨rfl, rfl⟩) ?_
    refine wl_v (.int .i64 (ern (q))) rfl rfl (y_mov rfl s122 ⟨rfl, rfl⟩) ?_
    refine wl_store_blk blkT_arr rfl rfl rfl s120 rfl B77 fun w128 B129 k130 => ?_
    have B131 := B76.all k130 ne13
    have B132 := B127.all k130 (Ne.symm ne39)
    have K133 := K67.trans k130 (fun _ hi e => absurd (e ▸ hi) (Nat.not_lt.2 lp14))
    refine wl_v (.int .i64 (ern (q))) rfl rfl (y_asg rfl rfl ⟨rfl, rfl⟩) ?_
    refine wl_nil fun F134 hF135 => ?_
    have s136 : F134 4 = .pointer (some ⟨p8, 0, none⟩) := (hF135 4).trans s120
    have s137 : F134 5 = .int .i64 (ern (q)) := (hF135 5).trans rfl
    clear hF135
    refine then_normal ?_
    refine wq_ret ?_
    exact end_2 rfl (res_blk blkT_arr s136 B129) (res_tmp (v := .int .i64 (ern (q))) s137) ⟨rfl, K133⟩

set_option maxHeartbeats 4000000 in
set_option maxRecDepth 100000 in
theorem qref_up_no (b : Nat → Int) (q : Int) (w0 : World) (he : ern q ≠ 0) :
    Calls Tryd.prog 16 #[blkV (b), .int .i64 (q)] w0 fun e w' => e = .returned (.tuple #[blkV (upB b q), .int .i64 (ern q)]) ∧ Kept (fun _ => False) w0 w' := by
  refine calls_wq (args := [blkV (b), .int .i64 (q)]) 34 Tryd.func16 rfl rfl (Nat.le_of_ble_eq_true rfl) ?_
  have K0 := Kept.refl (fun _ => False) w0
  refine wq_seq ?_
  refine wq_region ?_
  refine wl_box_blk rfl rfl rfl rfl fun p1 w2 e5 B3 k4 => ?_
  have lp6 : w0.heap.size ≤ p1 := by have h_ := K0.size; omega
  clear e5
  have K7 := K0.trans k4 (fun _ _ x => x)
  refine wl_alloc_blk rfl rfl rfl blkT_arr.2.2 fun p8 w9 e12 B10 k11 => ?_
  have ne13 : p1 ≠ p8 := by have h_ := B3.lt; omega
  have lp14 : w0.heap.size ≤ p8 := by have h_ := K7.size; omega
  clear e12
  have B15 := B3.all k11 id
  have K16 := K7.trans k11 (fun _ _ x => x)
  refine wl_v (.int .i64 (0)) rfl rfl (y_asg rfl rfl ⟨rfl, rfl⟩) ?_
  refine wl_nil fun F17 hF18 => ?_
  have s19 : F17 1 = .int .i64 (q) := (hF18 1).trans rfl
  have s20 : F17 2 = .pointer (some ⟨p1, 0, none⟩) := (hF18 2).trans rfl
  have s21 : F17 4 = .pointer (some ⟨p8, 0, none⟩) := (hF18 4).trans rfl
  clear hF18
  refine then_normal ?_
  refine wq_seq ?_
  refine wq_region ?_
  refine wl_v (.int .i64 (q)) rfl rfl (y_mov rfl s19 ⟨rfl, rfl⟩) ?_
  refine wl_call (R := fun v_ w_ => v_ = .tuple #[.int .i64 (stp (q)), .int .i64 (ern (q))] ∧ Kept (fun _ => False) w9 w_) rfl rfl (y_cs rfl rfl rfl (fun _ _ => by kernel_rfl) (ev_func _) (vsC rfl vsN) (qref_step (q) _ ) (fun e_ w_ h_ => ⟨_, h_.1, rfl, h_.2⟩)) ?_
  rintro _ w22 ⟨rfl, k23⟩
  have B24 := B15.all k23 id
  have B25 := B10.all k23 id
  have K26 := K16.trans k23 (fun _ _ x => x)
  refine wl_v (.tuple #[.int .i64 (stp (q)), .int .i64 (ern (q))]) rfl rfl (y_mov rfl rfl ⟨rfl, rfl⟩) ?_
  refine wl_v (.int .i64 (stp (q))) rfl rfl (y_ext rfl rfl rfl ⟨rfl, rfl⟩) ?_
  refine wl_v (.int .i64 (ern (q))) rfl rfl (y_ext rfl rfl rfl ⟨rfl, rfl⟩) ?_
  refine wl_v (.int .i64 (stp (q))) rfl rfl (y_asg rfl rfl ⟨rfl, rfl⟩) ?_
  refine wl_v (.int .i64 (ern (q))) rfl rfl (y_asg rfl rfl ⟨rfl, rfl⟩) ?_
  refine wl_nil fun F27 hF28 => ?_
  have s29 : F27 2 = .pointer (some ⟨p1, 0, none⟩) := (hF28 2).trans s20
  have s30 : F27 4 = .pointer (some ⟨p8, 0, none⟩) := (hF28 4).trans s21
  have s31 : F27 6 = .int .i64 (stp (q)) := (hF28 6).trans rfl
  have s32 : F27 7 = .int .i64 (ern (q)) := (hF28 7).trans rfl
  clear hF28
  refine then_normal ?_
  refine wq_seq ?_
  refine wq_region ?_
  refine wl_v (blkV (fun _ => 0)) rfl rfl (y_buildR (cells := (arrL 16 (fun _ => 0)).toArray) rfl (by kernel_rfl) rfl ⟨rfl, rfl⟩) ?_
  refine wl_alloc_blk rfl rfl rfl blkT_arr.2.2 fun p33 w34 e37 B35 k36 => ?_
  have ne38 : p1 ≠ p33 := by have h_ := B24.lt; omega
  have ne39 : p8 ≠ p33 := by have h_ := B25.lt; omega
  have lp40 : w0.heap.size ≤ p33 := by have h_ := K26.size; omega
  clear e37
  have B41 := B24.all k36 id
  have B42 := B25.all k36 id
  have K43 := K26.trans k36 (fun _ _ x => x)
  refine wl_store_blk blkT_arr rfl rfl rfl rfl rfl B35 fun w44 B45 k46 => ?_
  have B47 := B41.all k46 ne38
  have B48 := B42.all k46 ne39
  have K49 := K43.trans k46 (fun _ hi e => absurd (e ▸ hi) (Nat.not_lt.2 lp40))
  refine wl_nil fun F50 hF51 => ?_
  have s52 : F50 2 = .pointer (some ⟨p1, 0, none⟩) := (hF51 2).trans s29
  have s53 : F50 4 = .pointer (some ⟨p8, 0, none⟩) := (hF51 4).trans s30
  have s54 : F50 6 = .int .i64 (stp (q)) := (hF51 6).trans s31
  have s55 : F50 7 = .int .i64 (ern (q)) := (hF51 7).trans s32
  have s56 : F50 8 = .pointer (some ⟨p33, 0, none⟩) := (hF51 8).trans rfl
  clear hF51
  refine then_normal ?_
  refine wq_seq ?_
  refine wq_seq ?_
  refine wq_region ?_
  refine wl_v (.int .i64 (0)) rfl rfl (y_asg rfl rfl ⟨rfl, rfl⟩) ?_
  refine wl_nil fun F57 hF58 => ?_
  have s59 : F57 2 = .pointer (some ⟨p1, 0, none⟩) := (hF58 2).trans s52
  have s60 : F57 4 = .pointer (some ⟨p8, 0, none⟩) := (hF58 4).trans s53
  have s61 : F57 6 = .int .i64 (stp (q)) := (hF58 6).trans s54
  have s62 : F57 7 = .int .i64 (ern (q)) := (hF58 7).trans s55
  have s63 : F57 8 = .pointer (some ⟨p33, 0, none⟩) := (hF58 8).trans s56
  have s64 : F57 9 = .int .i64 (0) := (hF58 9).trans rfl
  clear hF58
  refine then_normal ?_
  refine wq_block ?_
  refine wq_loop (fun nn FF ww => ∃ (k : Nat), nn = 16 - k ∧ FF 2 = .pointer (some ⟨p1, 0, none⟩) ∧ FF 4 = .pointer (some ⟨p8, 0, none⟩) ∧ FF 6 = .int .i64 (stp (q)) ∧ FF 7 = .int .i64 (ern (q)) ∧ FF 8 = .pointer (some ⟨p33, 0, none⟩) ∧ FF 9 = .int .i64 (((k : Nat) : Int)) ∧ Kept (fun _ => False) w0 ww ∧ Blk ww p1 22 (b) ∧ Blk ww p8 22 (fun _ => 0) ∧ Blk ww p33 22 (fun _ => 0)) (16 - (0)) ⟨0, rfl, s59, s60, s61, s62, s63, s64, K49, B47, B48, B45⟩ ?_
  rintro n68 F65 w66 ⟨k, hn68, s69, s70, s71, s72, s73, s74, K67, B75, B76, B77⟩
  refine wq_seq ?_
  refine wq_seq ?_
  by_cases d78 : (((k : Nat) : Int)) < (16)
  · skip
    refine wq_region ?_
    refine wl_v (.int .i64 (((k : Nat) : Int))) rfl rfl (y_mov rfl s74 ⟨rfl, rfl⟩) ?_
    refine wl_v (.bool true) rfl rfl (y_lss rfl rfl rfl (decide_eq_true d78) ⟨rfl, rfl⟩) ?_
    refine wl_v (.bool true) rfl rfl (y_mov rfl rfl ⟨rfl, rfl⟩) ?_
    refine wl_vw (.int .i64 (ern (q))) 2 true 18 rfl rfl rfl rfl rfl (y_mov rfl s72 ⟨rfl, rfl⟩) ?_
    refine wl_vw (.bool false) 2 true 18 rfl rfl rfl rfl rfl (y_eqlI rfl rfl rfl (decide_eq_false he) ⟨rfl, rfl⟩) ?_
    refine wl_v (.bool false) rfl rfl (y_pickT rfl rfl rfl ⟨rfl, rfl⟩) ?_
    refine wl_nil fun F79 hF80 => ?_
    have s81 : F79 2 = .pointer (some ⟨p1, 0, none⟩) := (hF80 2).trans s69
    have s82 : F79 4 = .pointer (some ⟨p8, 0, none⟩) := (hF80 4).trans s70
    have s83 : F79 6 = .int .i64 (stp (q)) := (hF80 6).trans s71
    have s84 : F79 7 = .int .i64 (ern (q)) := (hF80 7).trans s72
    have s85 : F79 8 = .pointer (some ⟨p33, 0, none⟩) := (hF80 8).trans s73
    have s86 : F79 9 = .int .i64 (((k : Nat) : Int)) := (hF80 9).trans s74
    have s87 : F79 21 = .bool false := (hF80 21).trans rfl
    clear hF80
    refine then_normal ?_
    refine wq_cond (t := false) s87 (fun e => by cases e) (fun _ => ?_)
    refine wq_exit ?_
    refine then_exit ?_
    refine then_exit ?_
    refine in_here ?_
    refine then_normal ?_
    refine wq_seq ?_
    refine wq_region ?_
    refine wl_v (blkV (fun _ => 0)) rfl rfl (y_load_blk blkT_arr rfl s85 B77 ⟨rfl, rfl⟩) ?_
    refine wl_v (.int .i64 (ern (q))) rfl rfl (y_mov rfl s84 ⟨rfl, rfl⟩) ?_
    refine wl_store_blk blkT_arr rfl rfl rfl s82 rfl B76 fun w88 B89 k90 => ?_
    have B91 := B75.all k90 ne13
    have B92 := B77.all k90 (Ne.symm ne39)
    have K93 := K67.trans k90 (fun _ hi e => absurd (e ▸ hi) (Nat.not_lt.2 lp14))
    refine wl_v (.int .i64 (ern (q))) rfl rfl (y_asg rfl rfl ⟨rfl, rfl⟩) ?_
    refine wl_nil fun F94 hF95 => ?_
    have s96 : F94 4 = .pointer (some ⟨p8, 0, none⟩) := (hF95 4).trans s82
    have s97 : F94 5 = .int .i64 (ern (q)) := (hF95 5).trans rfl
    clear hF95
    refine then_normal ?_
    refine wq_ret ?_
    exact end_2 rfl (res_blk blkT_arr s96 B89) (res_tmp (v := .int .i64 (ern (q))) s97) ⟨(by unfold upB; rw [each_no he]), K93⟩
  · skip
    refine wq_region ?_
    refine wl_v (.int .i64 (((k : Nat) : Int))) rfl rfl (y_mov rfl s74 ⟨rfl, rfl⟩) ?_
    refine wl_v (.bool false) rfl rfl (y_lss rfl rfl rfl (decide_eq_false d78) ⟨rfl, rfl⟩) ?_
    refine wl_v (.bool false) rfl rfl (y_mov rfl rfl ⟨rfl, rfl⟩) ?_
    refine wl_unless 2 true 18 rfl rfl rfl (Or.inl rfl) rfl ?_
    refine wl_unless 2 true 18 rfl rfl rfl (Or.inl rfl) rfl ?_
    refine wl_v (.bool false) rfl rfl (y_pickF rfl rfl rfl ⟨rfl, rfl⟩) ?_
    refine wl_nil fun F98 hF99 => ?_
    have s100 : F98 2 = .pointer (some ⟨p1, 0, none⟩) := (hF99 2).trans s69
    have s101 : F98 4 = .pointer (some ⟨p8, 0, none⟩) := (hF99 4).trans s70
    have s102 : F98 6 = .int .i64 (stp (q)) := (hF99 6).trans s71
    have s103 : F98 7 = .int .i64 (ern (q)) := (hF99 7).trans s72
    have s104 : F98 8 = .pointer (some ⟨p33, 0, none⟩) := (hF99 8).trans s73
    have s105 : F98 9 = .int .i64 (((k : Nat) : Int)) := (hF99 9).trans s74
    have s106 : F98 21 = .bool false := (hF99 21).trans rfl
    clear hF99
    refine then_normal ?_
    refine wq_cond (t := false) s106 (fun e => by cases e) (fun _ => ?_)
    refine wq_exit ?_
    refine then_exit ?_
    refine then_exit ?_
    refine in_here ?_
    refine then_normal ?_
    refine wq_seq ?_
    refine wq_region ?_
    refine wl_v (blkV (fun _ => 0)) rfl rfl (y_load_blk blkT_arr rfl s104 B77 ⟨rfl, rfl⟩) ?_
    refine wl_v (.int .i64 (ern (q))) rfl rfl (y_mov rfl s103 ⟨rfl, rfl⟩) ?_
    refine wl_store_blk blkT_arr rfl rfl rfl s101 rfl B76 fun w107 B108 k109 => ?_
    have B110 := B75.all k109 ne13
    have B111 := B77.all k109 (Ne.symm ne39)
    have K112 := K67.trans k109 (fun _ hi e => absurd (e ▸ hi) (Nat.not_lt.2 lp14))
    refine wl_v (.int .i64 (ern (q))) rfl rfl (y_asg rfl rfl ⟨rfl, rfl⟩) ?_
    refine wl_nil fun F113 hF114 => ?_
    have s115 : F113 4 = .pointer (some ⟨p8, 0, none⟩) := (hF114 4).trans s101
    have s116 : F113 5 = .int .i64 (ern (q)) := (hF114 5).trans rfl
    clear hF114
    refine then_normal ?_
    refine wq_ret ?_
    exact end_2 rfl (res_blk blkT_arr s115 B108) (res_tmp (v := .int .i64 (ern (q))) s116) ⟨(by unfold upB; rw [each_no he]), K112⟩

theorem qref_up (b : Nat → Int) (q : Int) (w0 : World) : Calls Tryd.prog 16 #[blkV b, .int .i64 q] w0 fun e w' => e = .returned (.tuple #[blkV (upB b q), .int .i64 (ern q)]) ∧ Kept (fun _ => False) w0 w' := by
  by_cases h : ern q = 0
  · exact qref_up_ok b q w0 h
  · exact qref_up_no b q w0 h

set_option maxHeartbeats 4000000 in
set_option maxRecDepth 100000 in
theorem qawake_any (w0 : World) (hs : StepsAt w0) :
    Calls Tryd.prog 9 #[] w0 fun e w' => e = .returned (.bool true) ∧ Kept (fun _ => False) w0 w' := by
  refine calls_wq (args := []) 73 Tryd.func9 rfl rfl (Nat.le_of_ble_eq_true rfl) ?_
  have K0 := Kept.refl (fun _ => False) w0
  refine wq_seq ?_
  refine wq_region ?_
  refine wl_v (.bool false) rfl rfl (y_asg rfl rfl ⟨rfl, rfl⟩) ?_
  refine wl_nil fun F1 hF2 => ?_
  clear hF2
  refine then_normal ?_
  refine wq_seq ?_
  refine wq_region ?_
  refine wl_call (R := fun v_ w_ => v_ = .tuple #[.int .i64 (stp (6)), .int .i64 (ern (6))] ∧ Kept (fun _ => False) w0 w_) rfl rfl (y_cs rfl rfl rfl (fun _ _ => by kernel_rfl) (ev_func _) (vsC rfl vsN) (step_any (6) _ (hs.all K0)) (fun e_ w_ h_ => ⟨_, h_.1, rfl, h_.2⟩)) ?_
  rintro _ w3 ⟨rfl, k4⟩
  have K5 := K0.trans k4 (fun _ _ x => x)
  refine wl_v (.tuple #[.int .i64 (stp (6)), .int .i64 (ern (6))]) rfl rfl (y_mov rfl rfl ⟨rfl, rfl⟩) ?_
  refine wl_v (.int .i64 (stp (6))) rfl rfl (y_ext rfl rfl rfl ⟨rfl, rfl⟩) ?_
  refine wl_v (.int .i64 (ern (6))) rfl rfl (y_ext rfl rfl rfl ⟨rfl, rfl⟩) ?_
  refine wl_v (.int .i64 (stp (6))) rfl rfl (y_asg rfl rfl ⟨rfl, rfl⟩) ?_
  refine wl_v (.int .i64 (ern (6))) rfl rfl (y_asg rfl rfl ⟨rfl, rfl⟩) ?_
  refine wl_nil fun F6 hF7 => ?_
  have s8 : F6 1 = .int .i64 (stp (6)) := (hF7 1).trans rfl
  have s9 : F6 2 = .int .i64 (ern (6)) := (hF7 2).trans rfl
  clear hF7
  refine then_normal ?_
  refine wq_seq ?_
  refine wq_region ?_
  refine wl_call (R := fun v_ w_ => v_ = .tuple #[.int .i64 (stp (6) / 2), .int .i64 (ern (6))] ∧ Kept (fun _ => False) w3 w_) rfl rfl (y_cs rfl rfl rfl (fun _ _ => by kernel_rfl) (ev_func _) (vsC rfl vsN) (bound_any (6) _ (hs.all K5)) (fun e_ w_ h_ => ⟨_, h_.1, rfl, h_.2⟩)) ?_
  rintro _ w10 ⟨rfl, k11⟩
  have K12 := K5.trans k11 (fun _ _ x => x)
  refine wl_v (.tuple #[.int .i64 (stp (6) / 2), .int .i64 (ern (6))]) rfl rfl (y_mov rfl rfl ⟨rfl, rfl⟩) ?_
  refine wl_v (.int .i64 (stp (6) / 2)) rfl rfl (y_ext rfl rfl rfl ⟨rfl, rfl⟩) ?_
  refine wl_v (.int .i64 (ern (6))) rfl rfl (y_ext rfl rfl rfl ⟨rfl, rfl⟩) ?_
  refine wl_v (.int .i64 (stp (6) / 2)) rfl rfl (y_asg rfl rfl ⟨rfl, rfl⟩) ?_
  refine wl_v (.int .i64 (ern (6))) rfl rfl (y_asg rfl rfl ⟨rfl, rfl⟩) ?_
  refine wl_nil fun F13 hF14 => ?_
  have s15 : F13 1 = .int .i64 (stp (6)) := (hF14 1).trans s8
  have s16 : F13 2 = .int .i64 (ern (6)) := (hF14 2).trans s9
  have s17 : F13 3 = .int .i64 (stp (6) / 2) := (hF14 3).trans rfl
  have s18 : F13 4 = .int .i64 (ern (6)) := (hF14 4).trans rfl
  clear hF14
  refine then_normal ?_
  refine wq_seq ?_
  refine wq_region ?_
  refine wl_v (blkV (blL [12, 11, -12])) rfl rfl (y_buildR (cells := (arrL 16 (blL [12, 11, -12])).toArray) rfl (by kernel_rfl) rfl ⟨rfl, rfl⟩) ?_
  refine wl_call (R := fun v_ w_ => v_ = .tuple #[blkV (downB (blL [12, 11, -12]) (6)), .int .i64 (ern (6))] ∧ Kept (fun _ => False) w10 w_) rfl rfl (y_cs rfl rfl rfl (fun _ _ => by kernel_rfl) (ev_func _) (vsC rfl (vsC rfl vsN)) (down_any (blL [12, 11, -12]) (6) _ (hs.all K12)) (fun e_ w_ h_ => ⟨_, h_.1, rfl, h_.2⟩)) ?_
  rintro _ w19 ⟨rfl, k20⟩
  have K21 := K12.trans k20 (fun _ _ x => x)
  refine wl_v (.tuple #[blkV (downB (blL [12, 11, -12]) (6)), .int .i64 (ern (6))]) rfl rfl (y_mov rfl rfl ⟨rfl, rfl⟩) ?_
  refine wl_v (blkV (downB (blL [12, 11, -12]) (6))) rfl rfl (y_ext rfl rfl rfl ⟨rfl, rfl⟩) ?_
  refine wl_v (.int .i64 (ern (6))) rfl rfl (y_ext rfl rfl rfl ⟨rfl, rfl⟩) ?_
  refine wl_alloc_blk rfl rfl rfl blkT_block.2.2 fun p22 w23 e26 B24 k25 => ?_
  have lp27 : w0.heap.size ≤ p22 := by have h_ := K21.size; omega
  clear e26
  have K28 := K21.trans k25 (fun _ _ x => x)
  refine wl_store_blk blkT_block rfl rfl rfl rfl rfl B24 fun w29 B30 k31 => ?_
  have K32 := K28.trans k31 (fun _ hi e => absurd (e ▸ hi) (Nat.not_lt.2 lp27))
  refine wl_v (.int .i64 (ern (6))) rfl rfl (y_asg rfl rfl ⟨rfl, rfl⟩) ?_
  refine wl_nil fun F33 hF34 => ?_
  have s35 : F33 1 = .int .i64 (stp (6)) := (hF34 1).trans s15
  have s36 : F33 2 = .int .i64 (ern (6)) := (hF34 2).trans s16
  have s37 : F33 3 = .int .i64 (stp (6) / 2) := (hF34 3).trans s17
  have s38 : F33 4 = .int .i64 (ern (6)) := (hF34 4).trans s18
  have s39 : F33 5 = .pointer (some ⟨p22, 0, none⟩) := (hF34 5).trans rfl
  have s40 : F33 6 = .int .i64 (ern (6)) := (hF34 6).trans rfl
  clear hF34
  refine then_normal ?_
  refine wq_seq ?_
  refine wq_region ?_
  refine wl_v (blkV (downB (blL [12, 11, -12]) (6))) rfl rfl (y_load_blk blkT_block rfl s39 B30 ⟨rfl, rfl⟩) ?_
  refine wl_call (R := fun v_ w_ => v_ = .tuple #[blkV (upB (downB (blL [12, 11, -12]) (6)) (6)), .int .i64 (ern (6))] ∧ Kept (fun _ => False) w29 w_) rfl rfl (y_cs rfl rfl rfl (fun _ _ => by kernel_rfl) (ev_func _) (vsC rfl (vsC rfl vsN)) (up_any (downB (blL [12, 11, -12]) (6)) (6) _ (hs.all K32)) (fun e_ w_ h_ => ⟨_, h_.1, rfl, h_.2⟩)) ?_
  rintro _ w41 ⟨rfl, k42⟩
  have B43 := B30.all k42 id
  have K44 := K32.trans k42 (fun _ _ x => x)
  refine wl_v (.tuple #[blkV (upB (downB (blL [12, 11, -12]) (6)) (6)), .int .i64 (ern (6))]) rfl rfl (y_mov rfl rfl ⟨rfl, rfl⟩) ?_
  refine wl_v (blkV (upB (downB (blL [12, 11, -12]) (6)) (6))) rfl rfl (y_ext rfl rfl rfl ⟨rfl, rfl⟩) ?_
  refine wl_v (.int .i64 (ern (6))) rfl rfl (y_ext rfl rfl rfl ⟨rfl, rfl⟩) ?_
  refine wl_alloc_blk rfl rfl rfl blkT_block.2.2 fun p45 w46 e49 B47 k48 => ?_
  have ne50 : p22 ≠ p45 := by have h_ := B43.lt; omega
  have lp51 : w0.heap.size ≤ p45 := by have h_ := K44.size; omega
  clear e49
  have B52 := B43.all k48 id
  have K53 := K44.trans k48 (fun _ _ x => x)
  refine wl_store_blk blkT_block rfl rfl rfl rfl rfl B47 fun w54 B55 k56 => ?_
  have B57 := B52.all k56 ne50
  have K58 := K53.trans k56 (fun _ hi e => absurd (e ▸ hi) (Nat.not_lt.2 lp51))
  refine wl_v (.int .i64 (ern (6))) rfl rfl (y_asg rfl rfl ⟨rfl, rfl⟩) ?_
  refine wl_nil fun F59 hF60 => ?_
  have s61 : F59 1 = .int .i64 (stp (6)) := (hF60 1).trans s35
  have s62 : F59 2 = .int .i64 (ern (6)) := (hF60 2).trans s36
  have s63 : F59 3 = .int .i64 (stp (6) / 2) := (hF60 3).trans s37
  have s64 : F59 4 = .int .i64 (ern (6)) := (hF60 4).trans s38
  have s65 : F59 5 = .pointer (some ⟨p22, 0, none⟩) := (hF60 5).trans s39
  have s66 : F59 6 = .int .i64 (ern (6)) := (hF60 6).trans s40
  have s67 : F59 7 = .pointer (some ⟨p45, 0, none⟩) := (hF60 7).trans rfl
  have s68 : F59 8 = .int .i64 (ern (6)) := (hF60 8).trans rfl
  clear hF60
  refine then_normal ?_
  refine wq_seq ?_
  refine wq_region ?_
  refine wl_call (R := fun v_ w_ => v_ = .tuple #[.int .i64 (stp (21)), .int .i64 (ern (21))] ∧ Kept (fun _ => False) w54 w_) rfl rfl (y_cs rfl rfl rfl (fun _ _ => by kernel_rfl) (ev_func _) (vsC rfl vsN) (step_any (21) _ (hs.all K58)) (fun e_ w_ h_ => ⟨_, h_.1, rfl, h_.2⟩)) ?_
  rintro _ w69 ⟨rfl, k70⟩
  have B71 := B57.all k70 id
  have B72 := B55.all k70 id
  have K73 := K58.trans k70 (fun _ _ x => x)
  refine wl_v (.tuple #[.int .i64 (stp (21)), .int .i64 (ern (21))]) rfl rfl (y_mov rfl rfl ⟨rfl, rfl⟩) ?_
  refine wl_v (.int .i64 (stp (21))) rfl rfl (y_ext rfl rfl rfl ⟨rfl, rfl⟩) ?_
  refine wl_v (.int .i64 (ern (21))) rfl rfl (y_ext rfl rfl rfl ⟨rfl, rfl⟩) ?_
  refine wl_v (.int .i64 (stp (21))) rfl rfl (y_asg rfl rfl ⟨rfl, rfl⟩) ?_
  refine wl_v (.int .i64 (ern (21))) rfl rfl (y_asg rfl rfl ⟨rfl, rfl⟩) ?_
  refine wl_nil fun F74 hF75 => ?_
  have s76 : F74 1 = .int .i64 (stp (6)) := (hF75 1).trans s61
  have s77 : F74 2 = .int .i64 (ern (6)) := (hF75 2).trans s62
  have s78 : F74 3 = .int .i64 (stp (6) / 2) := (hF75 3).trans s63
  have s79 : F74 4 = .int .i64 (ern (6)) := (hF75 4).trans s64
  have s80 : F74 5 = .pointer (some ⟨p22, 0, none⟩) := (hF75 5).trans s65
  have s81 : F74 6 = .int .i64 (ern (6)) := (hF75 6).trans s66
  have s82 : F74 7 = .pointer (some ⟨p45, 0, none⟩) := (hF75 7).trans s67
  have s83 : F74 8 = .int .i64 (ern (6)) := (hF75 8).trans s68
  have s84 : F74 10 = .int .i64 (ern (21)) := (hF75 10).trans rfl
  clear hF75
  refine then_normal ?_
  refine wq_seq ?_
  refine wq_region ?_
  refine wl_v (.int .i64 (stp (6))) rfl rfl (y_mov rfl s76 ⟨rfl, rfl⟩) ?_
  refine wl_v (.bool true) rfl rfl (y_eqlI rfl rfl rfl (by decide +kernel) ⟨rfl, rfl⟩) ?_
  refine wl_v (.bool true) rfl rfl (y_mov rfl rfl ⟨rfl, rfl⟩) ?_
  refine wl_vw (.int .i64 (ern (6))) 2 true 35 rfl rfl rfl rfl rfl (y_mov rfl s77 ⟨rfl, rfl⟩) ?_
  refine wl_vw (.bool true) 2 true 35 rfl rfl rfl rfl rfl (y_eqlI rfl rfl rfl (by decide +kernel) ⟨rfl, rfl⟩) ?_
  refine wl_v (.bool true) rfl rfl (y_pickT rfl rfl rfl ⟨rfl, rfl⟩) ?_
  refine wl_v (.bool true) rfl rfl (y_mov rfl rfl ⟨rfl, rfl⟩) ?_
  refine wl_vw (.int .i64 (stp (6) / 2)) 6 true 39 rfl rfl rfl rfl rfl (y_mov rfl s78 ⟨rfl, rfl⟩) ?_
  refine wl_vw (.bool true) 6 true 39 rfl rfl rfl rfl rfl (y_eqlI rfl rfl rfl (by decide +kernel) ⟨rfl, rfl⟩) ?_
  refine wl_v (.bool true) rfl rfl (y_pickT rfl rfl rfl ⟨rfl, rfl⟩) ?_
  refine wl_v (.bool true) rfl rfl (y_mov rfl rfl ⟨rfl, rfl⟩) ?_
  refine wl_vw (.int .i64 (ern (6))) 10 true 43 rfl rfl rfl rfl rfl (y_mov rfl s79 ⟨rfl, rfl⟩) ?_
  refine wl_vw (.bool true) 10 true 43 rfl rfl rfl rfl rfl (y_eqlI rfl rfl rfl (by decide +kernel) ⟨rfl, rfl⟩) ?_
  refine wl_v (.bool true) rfl rfl (y_pickT rfl rfl rfl ⟨rfl, rfl⟩) ?_
  refine wl_v (.bool true) rfl rfl (y_mov rfl rfl ⟨rfl, rfl⟩) ?_
  refine wl_vw (blkV (downB (blL [12, 11, -12]) (6))) 14 true 47 rfl rfl rfl rfl rfl (y_load_blk blkT_block rfl s80 B71 ⟨rfl, rfl⟩) ?_
  refine wl_vw (blkV (blL [2, 1, -2])) 14 true 47 rfl rfl rfl rfl rfl (y_buildR (cells := (arrL 16 (blL [2, 1, -2])).toArray) rfl (by kernel_rfl) rfl ⟨rfl, rfl⟩) ?_
  refine wl_vw (.bool true) 14 true 47 rfl rfl rfl rfl rfl (y_sameR rfl rfl rfl (by decide +kernel) ⟨rfl, rfl⟩) ?_
  refine wl_v (.bool true) rfl rfl (y_pickT rfl rfl rfl ⟨rfl, rfl⟩) ?_
  refine wl_v (.bool true) rfl rfl (y_mov rfl rfl ⟨rfl, rfl⟩) ?_
  refine wl_vw (.int .i64 (ern (6))) 19 true 52 rfl rfl rfl rfl rfl (y_mov rfl s81 ⟨rfl, rfl⟩) ?_
  refine wl_vw (.bool true) 19 true 52 rfl rfl rfl rfl rfl (y_eqlI rfl rfl rfl (by decide +kernel) ⟨rfl, rfl⟩) ?_
  refine wl_v (.bool true) rfl rfl (y_pickT rfl rfl rfl ⟨rfl, rfl⟩) ?_
  refine wl_v (.bool true) rfl rfl (y_mov rfl rfl ⟨rfl, rfl⟩) ?_
  refine wl_vw (blkV (upB (downB (blL [12, 11, -12]) (6)) (6))) 23 true 56 rfl rfl rfl rfl rfl (y_load_blk blkT_block rfl s82 B72 ⟨rfl, rfl⟩) ?_
  refine wl_vw (blkV (blL [16, 8, -16])) 23 true 56 rfl rfl rfl rfl rfl (y_buildR (cells := (arrL 16 (blL [16, 8, -16])).toArray) rfl (by kernel_rfl) rfl ⟨rfl, rfl⟩) ?_
  refine wl_vw (.bool true) 23 true 56 rfl rfl rfl rfl rfl (y_sameR rfl rfl rfl (by decide +kernel) ⟨rfl, rfl⟩) ?_
  refine wl_v (.bool true) rfl rfl (y_pickT rfl rfl rfl ⟨rfl, rfl⟩) ?_
  refine wl_v (.bool true) rfl rfl (y_mov rfl rfl ⟨rfl, rfl⟩) ?_
  refine wl_vw (.int .i64 (ern (6))) 28 true 61 rfl rfl rfl rfl rfl (y_mov rfl s83 ⟨rfl, rfl⟩) ?_
  refine wl_vw (.bool true) 28 true 61 rfl rfl rfl rfl rfl (y_eqlI rfl rfl rfl (by decide +kernel) ⟨rfl, rfl⟩) ?_
  refine wl_v (.bool true) rfl rfl (y_pickT rfl rfl rfl ⟨rfl, rfl⟩) ?_
  refine wl_v (.bool true) rfl rfl (y_mov rfl rfl ⟨rfl, rfl⟩) ?_
  refine wl_vw (.int .i64 (ern (21))) 32 true 65 rfl rfl rfl rfl rfl (y_mov rfl s84 ⟨rfl, rfl⟩) ?_
  refine wl_vw (.bool true) 32 true 65 rfl rfl rfl rfl rfl (y_eqlI rfl rfl rfl (by decide +kernel) ⟨rfl, rfl⟩) ?_
  refine wl_v (.bool true) rfl rfl (y_pickT rfl rfl rfl ⟨rfl, rfl⟩) ?_
  refine wl_v (.bool true) rfl rfl (y_mov rfl rfl ⟨rfl, rfl⟩) ?_
  refine wl_v (.bool true) rfl rfl (y_pickT rfl rfl rfl ⟨rfl, rfl⟩) ?_
  refine wl_v (.bool true) rfl rfl (y_mov rfl rfl ⟨rfl, rfl⟩) ?_
  refine wl_v (.bool true) rfl rfl (y_pickT rfl rfl rfl ⟨rfl, rfl⟩) ?_
  refine wl_v (.bool true) rfl rfl (y_asg rfl rfl ⟨rfl, rfl⟩) ?_
  refine wl_nil fun F85 hF86 => ?_
  have s87 : F85 0 = .bool true := (hF86 0).trans rfl
  clear hF86
  refine then_normal ?_
  refine wq_ret ?_
  exact end_tmp (v := .bool true) rfl s87 ⟨rfl, K73⟩
end Go.Proofs.YtnlpiafgbeknhaaDoor
