/- What quant's functions do, and the document's. -/
import Derived.Test.YtnlpiafgbeknhaaDoorQPure
import Derived.Test.YtnlpiafgbeknhaaDoorSa
namespace Go.Proofs.YtnlpiafgbeknhaaDoor
open Go.RowKit

/-- Where the program's steps lie. -/
def StepsAt (w : World) : Prop := 0 < w.heap.size ∧ ∀ i, i < 21 → w.cell? ⟨0, i, none⟩ = some (.int .i64 (stl.getD i 0))
theorem StepsAt.all {w w' : World} (h : StepsAt w) (k : Kept (fun _ => False) w w') : StepsAt w' :=
  ⟨Nat.lt_of_lt_of_le h.1 k.size, fun i hi => (k.cell0 h.1 id).trans (h.2 i hi)⟩
theorem StepsAt.at {w : World} (h : StepsAt w) {q : Int} (hq : 0 ≤ q ∧ q ≤ 20) : w.cell? ⟨0, q.toNat, none⟩ = some (.int .i64 (stp q)) := by
  rw [stp_ok hq, ← h.2 q.toNat (by omega)]

theorem arrT21 : ArrT 40 21 := ArrT.of Tryd.underlying40 (by kernel_rfl)

/-- A function of two numbers, by its number. -/
def FnIs (f : Nat) (g : Int → Int → Int) : Prop := (∀ args w, (callFunc f args).run Tryd.prog w = .ok (.enter f args) w) ∧
  ∀ (n s : Int) (w0 : World), -1048576 ≤ n ∧ n ≤ 1048576 → 1 ≤ s ∧ s ≤ 192 → Calls Tryd.prog f #[.int .i64 n, .int .i64 s] w0 fun e w' => e = .returned (.int .i64 (g n s)) ∧ Kept (fun _ => False) w0 w'

set_option maxHeartbeats 4000000 in
set_option maxRecDepth 100000 in
theorem half_any (s : Int) (w0 : World) (hs : 0 ≤ s ∧ s ≤ 192) :
    Calls Tryd.prog 19 #[.int .i64 (s)] w0 fun e w' => e = .returned (.int .i64 (s / 2)) ∧ Kept (fun _ => False) w0 w' := by
  refine calls_wq (args := [.int .i64 (s)]) 5 Tryd.func19 rfl rfl (Nat.le_of_ble_eq_true rfl) ?_
  have K0 := Kept.refl (fun _ => False) w0
  refine wq_seq ?_
  refine wq_region ?_
  refine wl_v (.int .i64 (0)) rfl rfl (y_asg rfl rfl ⟨rfl, rfl⟩) ?_
  refine wl_nil fun F1 hF2 => ?_
  have s3 : F1 0 = .int .i64 (s) := (hF2 0).trans rfl
  clear hF2
  refine then_normal ?_
  refine wq_seq ?_
  refine wq_region ?_
  refine wl_v (.int .i64 (s)) rfl rfl (y_mov rfl s3 ⟨rfl, rfl⟩) ?_
  refine wl_v (.int .i64 (s / 2)) rfl rfl (y_quo rfl rfl rfl (by first | decide | omega) (i64_i (Int.tdiv_eq_ediv_of_nonneg (by omega)) (by omega)) ⟨rfl, rfl⟩) ?_
  refine wl_v (.int .i64 (s / 2)) rfl rfl (y_asg rfl rfl ⟨rfl, rfl⟩) ?_
  refine wl_nil fun F4 hF5 => ?_
  have s6 : F4 2 = .int .i64 (s / 2) := (hF5 2).trans rfl
  clear hF5
  refine then_normal ?_
  refine wq_ret ?_
  exact end_tmp (v := .int .i64 (s / 2)) rfl s6 ⟨rfl, K0⟩

set_option maxHeartbeats 4000000 in
set_option maxRecDepth 100000 in
theorem times_any (n s : Int) (w0 : World) (hn : -1048576 ≤ n ∧ n ≤ 1048576) (hs : 1 ≤ s ∧ s ≤ 192) :
    Calls Tryd.prog 23 #[.int .i64 (n), .int .i64 (s)] w0 fun e w' => e = .returned (.int .i64 (mulF n s)) ∧ Kept (fun _ => False) w0 w' := by
  refine calls_wq (args := [.int .i64 (n), .int .i64 (s)]) 8 Tryd.func23 rfl rfl (Nat.le_of_ble_eq_true rfl) ?_
  have K0 := Kept.refl (fun _ => False) w0
  have hm := mul_in hn hs
  refine wq_seq ?_
  refine wq_region ?_
  refine wl_v (.int .i64 (0)) rfl rfl (y_asg rfl rfl ⟨rfl, rfl⟩) ?_
  refine wl_nil fun F1 hF2 => ?_
  have s3 : F1 0 = .int .i64 (n) := (hF2 0).trans rfl
  have s4 : F1 1 = .int .i64 (s) := (hF2 1).trans rfl
  clear hF2
  refine then_normal ?_
  refine wq_seq ?_
  refine wq_region ?_
  refine wl_v (.int .i64 (n)) rfl rfl (y_mov rfl s3 ⟨rfl, rfl⟩) ?_
  refine wl_v (.int .i64 (s)) rfl rfl (y_mov rfl s4 ⟨rfl, rfl⟩) ?_
  refine wl_v (.int .i64 (mulF n s)) rfl rfl (y_mul rfl rfl rfl (i64_i (y := mulF n s) rfl (by omega)) ⟨rfl, rfl⟩) ?_
  refine wl_v (.int .i64 (mulF n s)) rfl rfl (y_asg rfl rfl ⟨rfl, rfl⟩) ?_
  refine wl_nil fun F5 hF6 => ?_
  have s7 : F5 4 = .int .i64 (mulF n s) := (hF6 4).trans rfl
  clear hF6
  refine then_normal ?_
  refine wq_ret ?_
  exact end_tmp (v := .int .i64 (mulF n s)) rfl s7 ⟨rfl, K0⟩

set_option maxHeartbeats 4000000 in
set_option maxRecDepth 100000 in
theorem nearest_any (n s : Int) (w0 : World) (hn : -1048576 ≤ n ∧ n ≤ 1048576) (hs : 1 ≤ s ∧ s ≤ 192) :
    Calls Tryd.prog 21 #[.int .i64 (n), .int .i64 (s)] w0 fun e w' => e = .returned (.int .i64 (lev n s)) ∧ Kept (fun _ => False) w0 w' := by
  refine calls_wq (args := [.int .i64 (n), .int .i64 (s)]) 19 Tryd.func21 rfl rfl (Nat.le_of_ble_eq_true rfl) ?_
  have K0 := Kept.refl (fun _ => False) w0
  have hm := lev_le hn hs
  refine wq_seq ?_
  refine wq_region ?_
  refine wl_v (.int .i64 (0)) rfl rfl (y_asg rfl rfl ⟨rfl, rfl⟩) ?_
  refine wl_nil fun F1 hF2 => ?_
  have s3 : F1 0 = .int .i64 (n) := (hF2 0).trans rfl
  have s4 : F1 1 = .int .i64 (s) := (hF2 1).trans rfl
  clear hF2
  refine then_normal ?_
  refine wq_seq ?_
  refine wq_seq ?_
  refine wq_region ?_
  refine wl_v (.int .i64 (n)) rfl rfl (y_mov rfl s3 ⟨rfl, rfl⟩) ?_
  refine wl_v (.bool (decide ((n) < (0)))) rfl rfl (y_lss rfl rfl rfl rfl ⟨rfl, rfl⟩) ?_
  refine wl_nil fun F5 hF6 => ?_
  have s7 : F5 0 = .int .i64 (n) := (hF6 0).trans s3
  have s8 : F5 1 = .int .i64 (s) := (hF6 1).trans s4
  have s9 : F5 6 = .bool (decide ((n) < (0))) := (hF6 6).trans rfl
  clear hF6
  refine then_normal ?_
  refine wq_cond s9 (fun c10 => ?_) (fun c10 => ?_)
  · replace c10 := of_decide_eq_true c10
    refine wq_seq ?_
    refine wq_region ?_
    refine wl_v (.int .i64 (n)) rfl rfl (y_mov rfl s7 ⟨rfl, rfl⟩) ?_
    refine wl_v (.int .i64 (s)) rfl rfl (y_mov rfl s8 ⟨rfl, rfl⟩) ?_
    refine wl_call (R := fun v_ w_ => v_ = .int .i64 ((s) / 2) ∧ Kept (fun _ => False) w0 w_) rfl rfl (y_cs rfl rfl rfl (fun _ _ => by kernel_rfl) (ev_func _) (vsC rfl vsN) (half_any (s) _ (by omega)) (fun e_ w_ h_ => ⟨_, h_.1, rfl, h_.2⟩)) ?_
    rintro _ w11 ⟨rfl, k12⟩
    have K13 := K0.trans k12 (fun _ _ x => x)
    refine wl_v (.int .i64 ((n) - ((s) / 2))) rfl rfl (y_sub rfl rfl rfl (i64_i rfl (by omega)) ⟨rfl, rfl⟩) ?_
    refine wl_v (.int .i64 (s)) rfl rfl (y_mov rfl s8 ⟨rfl, rfl⟩) ?_
    refine wl_v (.int .i64 (lev n s)) rfl rfl (y_quo rfl rfl rfl (by first | decide | omega) (i64_i (lev_neg (by omega) (by omega)) (by omega)) ⟨rfl, rfl⟩) ?_
    refine wl_v (.int .i64 (lev n s)) rfl rfl (y_asg rfl rfl ⟨rfl, rfl⟩) ?_
    refine wl_nil fun F14 hF15 => ?_
    have s16 : F14 4 = .int .i64 (lev n s) := (hF15 4).trans rfl
    clear hF15
    refine then_normal ?_
    refine wq_ret ?_
    refine then_ret ?_
    exact end_tmp (v := .int .i64 (lev n s)) rfl s16 ⟨rfl, K13⟩
  · replace c10 := of_decide_eq_false c10
    refine wq_skip ?_
    refine then_normal ?_
    refine wq_seq ?_
    refine wq_region ?_
    refine wl_v (.int .i64 (n)) rfl rfl (y_mov rfl s7 ⟨rfl, rfl⟩) ?_
    refine wl_v (.int .i64 (s)) rfl rfl (y_mov rfl s8 ⟨rfl, rfl⟩) ?_
    refine wl_call (R := fun v_ w_ => v_ = .int .i64 ((s) / 2) ∧ Kept (fun _ => False) w0 w_) rfl rfl (y_cs rfl rfl rfl (fun _ _ => by kernel_rfl) (ev_func _) (vsC rfl vsN) (half_any (s) _ (by omega)) (fun e_ w_ h_ => ⟨_, h_.1, rfl, h_.2⟩)) ?_
    rintro _ w17 ⟨rfl, k18⟩
    have K19 := K0.trans k18 (fun _ _ x => x)
    refine wl_v (.int .i64 ((n) + ((s) / 2))) rfl rfl (y_add rfl rfl rfl (i64_i rfl (by omega)) ⟨rfl, rfl⟩) ?_
    refine wl_v (.int .i64 (s)) rfl rfl (y_mov rfl s8 ⟨rfl, rfl⟩) ?_
    refine wl_v (.int .i64 (lev n s)) rfl rfl (y_quo rfl rfl rfl (by first | decide | omega) (i64_i (lev_pos (by omega) (by omega)) (by omega)) ⟨rfl, rfl⟩) ?_
    refine wl_v (.int .i64 (lev n s)) rfl rfl (y_asg rfl rfl ⟨rfl, rfl⟩) ?_
    refine wl_nil fun F20 hF21 => ?_
    have s22 : F20 4 = .int .i64 (lev n s) := (hF21 4).trans rfl
    clear hF21
    refine then_normal ?_
    refine wq_ret ?_
    exact end_tmp (v := .int .i64 (lev n s)) rfl s22 ⟨rfl, K19⟩

theorem times_fn : FnIs 23 mulF := ⟨fun _ _ => by kernel_rfl, fun n s w0 hn hs => times_any n s w0 hn hs⟩
theorem nearest_fn : FnIs 21 lev := ⟨fun _ _ => by kernel_rfl, fun n s w0 hn hs => nearest_any n s w0 hn hs⟩

set_option maxHeartbeats 4000000 in
set_option maxRecDepth 100000 in
theorem qclamped_any (n : Int) (w0 : World) :
    Calls Tryd.prog 26 #[.int .i64 (n)] w0 fun e w' => e = .returned (.int .i64 (cl 1048576 n)) ∧ Kept (fun _ => False) w0 w' := by
  refine calls_wq (args := [.int .i64 (n)]) 6 Tryd.func26 rfl rfl (Nat.le_of_ble_eq_true rfl) ?_
  have K0 := Kept.refl (fun _ => False) w0
  refine wq_seq ?_
  refine wq_region ?_
  refine wl_v (.int .i64 (0)) rfl rfl (y_asg rfl rfl ⟨rfl, rfl⟩) ?_
  refine wl_nil fun F1 hF2 => ?_
  have s3 : F1 0 = .int .i64 (n) := (hF2 0).trans rfl
  clear hF2
  refine then_normal ?_
  refine wq_seq ?_
  refine wq_region ?_
  refine wl_v (.int .i64 (n)) rfl rfl (y_mov rfl s3 ⟨rfl, rfl⟩) ?_
  refine wl_v (.int .i64 (min (n) (1048576))) rfl rfl (y_minR rfl rfl rfl rfl ⟨rfl, rfl⟩) ?_
  refine wl_v (.int .i64 (cl 1048576 n)) rfl rfl (y_maxR rfl rfl rfl (by unfold cl; omega) ⟨rfl, rfl⟩) ?_
  refine wl_v (.int .i64 (cl 1048576 n)) rfl rfl (y_asg rfl rfl ⟨rfl, rfl⟩) ?_
  refine wl_nil fun F4 hF5 => ?_
  have s6 : F4 2 = .int .i64 (cl 1048576 n) := (hF5 2).trans rfl
  clear hF5
  refine then_normal ?_
  refine wq_ret ?_
  exact end_tmp (v := .int .i64 (cl 1048576 n)) rfl s6 ⟨rfl, K0⟩

set_option maxHeartbeats 4000000 in
set_option maxRecDepth 100000 in
theorem step_any (q : Int) (w0 : World) (hs : StepsAt w0) :
    Calls Tryd.prog 10 #[.int .i64 (q)] w0 fun e w' => e = .returned (.tuple #[.int .i64 (stp q), .int .i64 (ern q)]) ∧ Kept (fun _ => False) w0 w' := by
  refine calls_wq (args := [.int .i64 (q)]) 13 Tryd.func10 rfl rfl (Nat.le_of_ble_eq_true rfl) ?_
  have K0 := Kept.refl (fun _ => False) w0
  refine wq_seq ?_
  refine wq_region ?_
  refine wl_v (.int .i64 (0)) rfl rfl (y_asg rfl rfl ⟨rfl, rfl⟩) ?_
  refine wl_v (.int .i64 (0)) rfl rfl (y_asg rfl rfl ⟨rfl, rfl⟩) ?_
  refine wl_nil fun F1 hF2 => ?_
  have s3 : F1 0 = .int .i64 (q) := (hF2 0).trans rfl
  clear hF2
  refine then_normal ?_
  refine wq_seq ?_
  refine wq_block ?_
  refine wq_seq ?_
  refine wq_block ?_
  refine wq_block ?_
  refine wq_seq ?_
  refine wq_seq ?_
  refine wq_seq ?_
  refine wq_region ?_
  refine wl_v (.int .i64 (q)) rfl rfl (y_mov rfl s3 ⟨rfl, rfl⟩) ?_
  refine wl_v (.bool (decide ((q) < (0)))) rfl rfl (y_lss rfl rfl rfl rfl ⟨rfl, rfl⟩) ?_
  refine wl_v (.bool (decide ((q) < (0)))) rfl rfl (y_asg rfl rfl ⟨rfl, rfl⟩) ?_
  refine wl_nil fun F4 hF5 => ?_
  have s6 : F4 0 = .int .i64 (q) := (hF5 0).trans s3
  have s7 : F4 4 = .bool (decide ((q) < (0))) := (hF5 4).trans rfl
  clear hF5
  refine then_normal ?_
  refine wq_cond s7 (fun c8 => ?_) (fun c8 => ?_)
  · replace c8 := of_decide_eq_true c8
    refine wq_exit ?_
    refine then_exit ?_
    refine then_exit ?_
    refine in_here ?_
    refine in_normal ?_
    refine then_normal ?_
    refine wq_seq ?_
    refine wq_seq ?_
    refine wq_region ?_
    refine wl_v (.int .i64 (0)) rfl rfl (y_asg rfl rfl ⟨rfl, rfl⟩) ?_
    refine wl_v (.int .i64 (50)) rfl rfl (y_asg rfl rfl ⟨rfl, rfl⟩) ?_
    refine wl_nil fun F9 hF10 => ?_
    have s11 : F9 2 = .int .i64 (0) := (hF10 2).trans rfl
    have s12 : F9 3 = .int .i64 (50) := (hF10 3).trans rfl
    clear hF10
    refine then_normal ?_
    refine wq_ret ?_
    refine then_ret ?_
    refine in_ret ?_
    refine then_ret ?_
    exact end_2 rfl (res_tmp (v := .int .i64 (0)) s11) (res_tmp (v := .int .i64 (50)) s12) ⟨(by first | (rw [ern_ok (by omega)]) | (rw [stp_no (by omega), ern_no (by omega)])), K0⟩
  · replace c8 := of_decide_eq_false c8
    refine wq_skip ?_
    refine then_normal ?_
    refine wq_seq ?_
    refine wq_region ?_
    refine wl_v (.int .i64 (q)) rfl rfl (y_mov rfl s6 ⟨rfl, rfl⟩) ?_
    refine wl_v (.bool (decide ((20) < (q)))) rfl rfl (y_gtr rfl rfl rfl rfl ⟨rfl, rfl⟩) ?_
    refine wl_v (.bool (decide ((20) < (q)))) rfl rfl (y_asg rfl rfl ⟨rfl, rfl⟩) ?_
    refine wl_nil fun F13 hF14 => ?_
    have s15 : F13 0 = .int .i64 (q) := (hF14 0).trans s6
    have s16 : F13 7 = .bool (decide ((20) < (q))) := (hF14 7).trans rfl
    clear hF14
    refine then_normal ?_
    refine wq_cond s16 (fun c17 => ?_) (fun c17 => ?_)
    · replace c17 := of_decide_eq_true c17
      refine wq_exit ?_
      refine then_exit ?_
      refine in_other (by decide) ?_
      refine in_here ?_
      refine then_normal ?_
      refine wq_seq ?_
      refine wq_seq ?_
      refine wq_region ?_
      refine wl_v (.int .i64 (0)) rfl rfl (y_asg rfl rfl ⟨rfl, rfl⟩) ?_
      refine wl_v (.int .i64 (50)) rfl rfl (y_asg rfl rfl ⟨rfl, rfl⟩) ?_
      refine wl_nil fun F18 hF19 => ?_
      have s20 : F18 2 = .int .i64 (0) := (hF19 2).trans rfl
      have s21 : F18 3 = .int .i64 (50) := (hF19 3).trans rfl
      clear hF19
      refine then_normal ?_
      refine wq_ret ?_
      refine then_ret ?_
      refine in_ret ?_
      refine then_ret ?_
      exact end_2 rfl (res_tmp (v := .int .i64 (0)) s20) (res_tmp (v := .int .i64 (50)) s21) ⟨(by first | (rw [ern_ok (by omega)]) | (rw [stp_no (by omega), ern_no (by omega)])), K0⟩
    · replace c17 := of_decide_eq_false c17
      refine wq_skip ?_
      refine then_normal ?_
      refine wq_exit ?_
      refine in_other (by decide) ?_
      refine in_other (by decide) ?_
      refine then_exit ?_
      refine in_here ?_
      refine then_normal ?_
      refine wq_seq ?_
      refine wq_region ?_
      refine wl_v (.int .i64 (q)) rfl rfl (y_mov rfl s15 ⟨rfl, rfl⟩) ?_
      refine wl_v (.pointer (some ⟨0, (q).toNat, none⟩)) rfl rfl (y_atR ((q).toNat) (s := 1) rfl rfl rfl (by omega) Tryd.underlying40 (by omega) (by kernel_rfl) (by omega) ⟨rfl, rfl⟩) ?_
      refine wl_v (.int .i64 (stp q)) rfl rfl (y_ldR rfl rfl Tryd.underlying3 (((hs.all K0).at (q := q) (by omega))) ⟨rfl, rfl⟩) ?_
      refine wl_v (.int .i64 (stp q)) rfl rfl (y_asg rfl rfl ⟨rfl, rfl⟩) ?_
      refine wl_v (.int .i64 (0)) rfl rfl (y_asg rfl rfl ⟨rfl, rfl⟩) ?_
      refine wl_nil fun F22 hF23 => ?_
      have s24 : F22 2 = .int .i64 (stp q) := (hF23 2).trans rfl
      have s25 : F22 3 = .int .i64 (0) := (hF23 3).trans rfl
      clear hF23
      refine then_normal ?_
      refine wq_ret ?_
      exact end_2 rfl (res_tmp (v := .int .i64 (stp q)) s24) (res_tmp (v := .int .i64 (0)) s25) ⟨(by first | (rw [ern_ok (by omega)]) | (rw [stp_no (by omega), ern_no (by omega)])), K0⟩

set_option maxHeartbeats 4000000 in
set_option maxRecDepth 100000 in
theorem bound_any (q : Int) (w0 : World) (hs : StepsAt w0) :
    Calls Tryd.prog 12 #[.int .i64 (q)] w0 fun e w' => e = .returned (.tuple #[.int .i64 (stp q / 2), .int .i64 (ern q)]) ∧ Kept (fun _ => False) w0 w' := by
  refine calls_wq (args := [.int .i64 (q)]) 14 Tryd.func12 rfl rfl (Nat.le_of_ble_eq_true rfl) ?_
  have K0 := Kept.refl (fun _ => False) w0
  have hq := stp_any q
  refine wq_seq ?_
  refine wq_region ?_
  refine wl_v (.int .i64 (0)) rfl rfl (y_asg rfl rfl ⟨rfl, rfl⟩) ?_
  refine wl_v (.int .i64 (0)) rfl rfl (y_asg rfl rfl ⟨rfl, rfl⟩) ?_
  refine wl_nil fun F1 hF2 => ?_
  have s3 : F1 0 = .int .i64 (q) := (hF2 0).trans rfl
  clear hF2
  refine then_normal ?_
  refine wq_seq ?_
  refine wq_region ?_
  refine wl_v (.int .i64 (q)) rfl rfl (y_mov rfl s3 ⟨rfl, rfl⟩) ?_
  refine wl_call (R := fun v_ w_ => v_ = .tuple #[.int .i64 (stp (q)), .int .i64 (ern (q))] ∧ Kept (fun _ => False) w0 w_) rfl rfl (y_cs rfl rfl rfl (fun _ _ => by kernel_rfl) (ev_func _) (vsC rfl vsN) (step_any (q) _ (hs.all K0)) (fun e_ w_ h_ => ⟨_, h_.1, rfl, h_.2⟩)) ?_
  rintro _ w4 ⟨rfl, k5⟩
  have K6 := K0.trans k5 (fun _ _ x => x)
  refine wl_v (.tuple #[.int .i64 (stp (q)), .int .i64 (ern (q))]) rfl rfl (y_mov rfl rfl ⟨rfl, rfl⟩) ?_
  refine wl_v (.int .i64 (stp (q))) rfl rfl (y_ext rfl rfl rfl ⟨rfl, rfl⟩) ?_
  refine wl_v (.int .i64 (ern (q))) rfl rfl (y_ext rfl rfl rfl ⟨rfl, rfl⟩) ?_
  refine wl_v (.int .i64 (stp (q))) rfl rfl (y_asg rfl rfl ⟨rfl, rfl⟩) ?_
  refine wl_v (.int .i64 (ern (q))) rfl rfl (y_asg rfl rfl ⟨rfl, rfl⟩) ?_
  refine wl_nil fun F7 hF8 => ?_
  have s9 : F7 4 = .int .i64 (stp (q)) := (hF8 4).trans rfl
  have s10 : F7 5 = .int .i64 (ern (q)) := (hF8 5).trans rfl
  clear hF8
  refine then_normal ?_
  refine wq_seq ?_
  refine wq_region ?_
  refine wl_v (.int .i64 (stp (q))) rfl rfl (y_mov rfl s9 ⟨rfl, rfl⟩) ?_
  refine wl_call (R := fun v_ w_ => v_ = .int .i64 ((stp (q)) / 2) ∧ Kept (fun _ => False) w4 w_) rfl rfl (y_cs rfl rfl rfl (fun _ _ => by kernel_rfl) (ev_func _) (vsC rfl vsN) (half_any (stp (q)) _ (by omega)) (fun e_ w_ h_ => ⟨_, h_.1, rfl, h_.2⟩)) ?_
  rintro _ w11 ⟨rfl, k12⟩
  have K13 := K6.trans k12 (fun _ _ x => x)
  refine wl_v (.int .i64 (ern (q))) rfl rfl (y_mov rfl s10 ⟨rfl, rfl⟩) ?_
  refine wl_v (.int .i64 ((stp (q)) / 2)) rfl rfl (y_asg rfl rfl ⟨rfl, rfl⟩) ?_
  refine wl_v (.int .i64 (ern (q))) rfl rfl (y_asg rfl rfl ⟨rfl, rfl⟩) ?_
  refine wl_nil fun F14 hF15 => ?_
  have s16 : F14 2 = .int .i64 ((stp (q)) / 2) := (hF15 2).trans rfl
  have s17 : F14 3 = .int .i64 (ern (q)) := (hF15 3).trans rfl
  clear hF15
  refine then_normal ?_
  refine wq_ret ?_
  exact end_2 rfl (res_tmp (v := .int .i64 ((stp (q)) / 2)) s16) (res_tmp (v := .int .i64 (ern (q))) s17) ⟨rfl, K13⟩

set_option maxHeartbeats 4000000 in
set_option maxRecDepth 100000 in
theorem each_any (f : Nat) (g : Int → Int → Int) (b : Nat → Int) (q : Int) (w0 : World) (hs : StepsAt w0) (hf : FnIs f g) :
    Calls Tryd.prog 20 #[blkV (b), .int .i64 (q), .func (.func (f)) #[] #[]] w0 fun e w' => e = .returned (.tuple #[blkV (eachB g b q), .int .i64 (ern q)]) ∧ Kept (fun _ => False) w0 w' := by
  refine calls_wq (args := [blkV (b), .int .i64 (q), .func (.func (f)) #[] #[]]) 35 Tryd.func20 rfl rfl (Nat.le_of_ble_eq_true rfl) ?_
  have K0 := Kept.refl (fun _ => False) w0
  refine wq_seq ?_
  refine wq_region ?_
  refine wl_box_blk rfl rfl rfl rfl fun p1 w2 e5 B3 k4 => ?_
  have lp6 : w0.heap.size ≤ p1 := by have h_ := K0.size; omega
  clear e5
  have K7 := K0.trans k4 (fun _ _ x => x)
  refine wl_alloc_blk rfl rfl rfl blkT_block.2.2 fun p8 w9 e12 B10 k11 => ?_
  have ne13 : p1 ≠ p8 := by have h_ := B3.lt; omega
  have lp14 : w0.heap.size ≤ p8 := by have h_ := K7.size; omega
  clear e12
  have B15 := B3.all k11 id
  have K16 := K7.trans k11 (fun _ _ x => x)
  refine wl_v (.int .i64 (0)) rfl rfl (y_asg rfl rfl ⟨rfl, rfl⟩) ?_
  refine wl_nil fun F17 hF18 => ?_
  have s19 : F17 1 = .int .i64 (q) := (hF18 1).trans rfl
  have s20 : F17 2 = .func (.func (f)) #[] #[] := (hF18 2).trans rfl
  have s21 : F17 3 = .pointer (some ⟨p1, 0, none⟩) := (hF18 3).trans rfl
  have s22 : F17 6 = .pointer (some ⟨p8, 0, none⟩) := (hF18 6).trans rfl
  clear hF18
  refine then_normal ?_
  refine wq_seq ?_
  refine wq_region ?_
  refine wl_v (.int .i64 (q)) rfl rfl (y_mov rfl s19 ⟨rfl, rfl⟩) ?_
  refine wl_call (R := fun v_ w_ => v_ = .tuple #[.int .i64 (stp (q)), .int .i64 (ern (q))] ∧ Kept (fun _ => False) w9 w_) rfl rfl (y_cs rfl rfl rfl (fun _ _ => by kernel_rfl) (ev_func _) (vsC rfl vsN) (step_any (q) _ (hs.all K16)) (fun e_ w_ h_ => ⟨_, h_.1, rfl, h_.2⟩)) ?_
  rintro _ w23 ⟨rfl, k24⟩
  have B25 := B15.all k24 id
  have B26 := B10.all k24 id
  have K27 := K16.trans k24 (fun _ _ x => x)
  refine wl_v (.tuple #[.int .i64 (stp (q)), .int .i64 (ern (q))]) rfl rfl (y_mov rfl rfl ⟨rfl, rfl⟩) ?_
  refine wl_v (.int .i64 (stp (q))) rfl rfl (y_ext rfl rfl rfl ⟨rfl, rfl⟩) ?_
  refine wl_v (.int .i64 (ern (q))) rfl rfl (y_ext rfl rfl rfl ⟨rfl, rfl⟩) ?_
  refine wl_v (.int .i64 (stp (q))) rfl rfl (y_asg rfl rfl ⟨rfl, rfl⟩) ?_
  refine wl_v (.int .i64 (ern (q))) rfl rfl (y_asg rfl rfl ⟨rfl, rfl⟩) ?_
  refine wl_nil fun F28 hF29 => ?_
  have s30 : F28 2 = .func (.func (f)) #[] #[] := (hF29 2).trans s20
  have s31 : F28 3 = .pointer (some ⟨p1, 0, none⟩) := (hF29 3).trans s21
  have s32 : F28 6 = .pointer (some ⟨p8, 0, none⟩) := (hF29 6).trans s22
  have s33 : F28 8 = .int .i64 (stp (q)) := (hF29 8).trans rfl
  have s34 : F28 9 = .int .i64 (ern (q)) := (hF29 9).trans rfl
  clear hF29
  refine then_normal ?_
  refine wq_seq ?_
  refine wq_seq ?_
  refine wq_region ?_
  refine wl_v (.int .i64 (ern (q))) rfl rfl (y_mov rfl s34 ⟨rfl, rfl⟩) ?_
  refine wl_v (.bool (decide ((ern (q)) ≠ (0)))) rfl rfl (y_neqI rfl rfl rfl rfl ⟨rfl, rfl⟩) ?_
  refine wl_nil fun F35 hF36 => ?_
  have s37 : F35 2 = .func (.func (f)) #[] #[] := (hF36 2).trans s30
  have s38 : F35 3 = .pointer (some ⟨p1, 0, none⟩) := (hF36 3).trans s31
  have s39 : F35 6 = .pointer (some ⟨p8, 0, none⟩) := (hF36 6).trans s32
  have s40 : F35 8 = .int .i64 (stp (q)) := (hF36 8).trans s33
  have s41 : F35 9 = .int .i64 (ern (q)) := (hF36 9).trans s34
  have s42 : F35 18 = .bool (decide ((ern (q)) ≠ (0))) := (hF36 18).trans rfl
  clear hF36
  refine then_normal ?_
  refine wq_cond s42 (fun c43 => ?_) (fun c43 => ?_)
  · replace c43 := of_decide_eq_true c43
    refine wq_seq ?_
    refine wq_region ?_
    refine wl_v (blkV (fun _ => 0)) rfl rfl (y_buildR (cells := (arrL 16 (fun _ => 0)).toArray) rfl (by kernel_rfl) rfl ⟨rfl, rfl⟩) ?_
    refine wl_v (.int .i64 (ern (q))) rfl rfl (y_mov rfl s41 ⟨rfl, rfl⟩) ?_
    refine wl_store_blk blkT_block rfl rfl rfl s39 rfl B26 fun w44 B45 k46 => ?_
    have B47 := B25.all k46 ne13
    have K48 := K27.trans k46 (fun _ hi e => absurd (e ▸ hi) (Nat.not_lt.2 lp14))
    refine wl_v (.int .i64 (ern (q))) rfl rfl (y_asg rfl rfl ⟨rfl, rfl⟩) ?_
    refine wl_nil fun F49 hF50 => ?_
    have s51 : F49 6 = .pointer (some ⟨p8, 0, none⟩) := (hF50 6).trans s39
    have s52 : F49 7 = .int .i64 (ern (q)) := (hF50 7).trans rfl
    clear hF50
    refine then_normal ?_
    refine wq_ret ?_
    refine then_ret ?_
    exact end_2 rfl (res_blk blkT_block s51 B45) (res_tmp (v := .int .i64 (ern (q))) s52) ⟨(by first | (rw [each_no (by omega)]) | (rw [show ern q = 0 by omega])), K48⟩
  · replace c43 := of_decide_eq_false c43
    refine wq_skip ?_
    refine then_normal ?_
    refine wq_seq ?_
    refine wq_seq ?_
    refine wq_region ?_
    refine wl_v (blkV (b)) rfl rfl (y_load_blk blkT_block rfl s38 B25 ⟨rfl, rfl⟩) ?_
    refine wl_v (.int .i64 (0)) rfl rfl (y_mov rfl rfl ⟨rfl, rfl⟩) ?_
    refine wl_nil fun F53 hF54 => ?_
    have s55 : F53 2 = .func (.func (f)) #[] #[] := (hF54 2).trans s37
    have s56 : F53 3 = .pointer (some ⟨p1, 0, none⟩) := (hF54 3).trans s38
    have s57 : F53 6 = .pointer (some ⟨p8, 0, none⟩) := (hF54 6).trans s39
    have s58 : F53 8 = .int .i64 (stp (q)) := (hF54 8).trans s40
    have s59 : F53 21 = blkV (b) := (hF54 21).trans rfl
    have s60 : F53 22 = .int .i64 (0) := (hF54 22).trans rfl
    clear hF54
    refine then_normal ?_
    refine wq_block ?_
    refine wq_loop (fun nn FF ww => ∃ (k : Nat), k ≤ 16 ∧ nn = 16 - k ∧ FF 2 = .func (.func (f)) #[] #[] ∧ FF 3 = .pointer (some ⟨p1, 0, none⟩) ∧ FF 6 = .pointer (some ⟨p8, 0, none⟩) ∧ FF 8 = .int .i64 (stp (q)) ∧ FF 21 = blkV (b) ∧ FF 22 = .int .i64 (((k : Nat) : Int)) ∧ Kept (fun _ => False) w0 ww ∧ Blk ww p1 27 (upto k b (eachB g b q)) ∧ Blk ww p8 27 (fun _ => 0)) (16 - (0)) ⟨0, by omega, rfl, s55, s56, s57, s58, s59, s60, K27, B25.first, B26⟩ ?_
    rintro n64 F61 w62 ⟨k, i65, hn64, s66, s67, s68, s69, s70, s71, K63, B72, B73⟩
    refine wq_seq ?_
    refine wq_region ?_
    refine wl_v (.bool (decide ((((k : Nat) : Int)) < (16)))) rfl rfl (y_lss rfl s71 rfl rfl ⟨rfl, rfl⟩) ?_
    refine wl_nil fun F74 hF75 => ?_
    have s76 : F74 2 = .func (.func (f)) #[] #[] := (hF75 2).trans s66
    have s77 : F74 3 = .pointer (some ⟨p1, 0, none⟩) := (hF75 3).trans s67
    have s78 : F74 6 = .pointer (some ⟨p8, 0, none⟩) := (hF75 6).trans s68
    have s79 : F74 8 = .int .i64 (stp (q)) := (hF75 8).trans s69
    have s80 : F74 21 = blkV (b) := (hF75 21).trans s70
    have s81 : F74 22 = .int .i64 (((k : Nat) : Int)) := (hF75 22).trans s71
    have s82 : F74 23 = .bool (decide ((((k : Nat) : Int)) < (16))) := (hF75 23).trans rfl
    clear hF75
    refine then_normal ?_
    refine wq_seq ?_
    refine wq_cond s82 (fun c83 => ?_) (fun c83 => ?_)
    · replace c83 := of_decide_eq_true c83
      refine wq_skip ?_
      refine then_normal ?_
      refine wq_seq ?_
      refine wq_block ?_
      refine wq_seq ?_
      refine wq_region ?_
      refine wl_v (.int .i64 (((k : Nat) : Int))) rfl rfl (y_mov rfl s81 ⟨rfl, rfl⟩) ?_
      refine wl_v (.int .i64 ((b) (k))) rfl rfl (y_look (k) blkT_block rfl s80 s81 (by omega) rfl ⟨rfl, rfl⟩) ?_
      refine wl_v (.int .i64 (((k : Nat) : Int))) rfl rfl (y_asg rfl rfl ⟨rfl, rfl⟩) ?_
      refine wl_v (.int .i64 ((b) (k))) rfl rfl (y_asg rfl rfl ⟨rfl, rfl⟩) ?_
      refine wl_nil fun F84 hF85 => ?_
      have s86 : F84 2 = .func (.func (f)) #[] #[] := (hF85 2).trans s76
      have s87 : F84 3 = .pointer (some ⟨p1, 0, none⟩) := (hF85 3).trans s77
      have s88 : F84 6 = .pointer (some ⟨p8, 0, none⟩) := (hF85 6).trans s78
      have s89 : F84 8 = .int .i64 (stp (q)) := (hF85 8).trans s79
      have s90 : F84 21 = blkV (b) := (hF85 21).trans s80
      have s91 : F84 22 = .int .i64 (((k : Nat) : Int)) := (hF85 22).trans s81
      have s92 : F84 10 = .int .i64 (((k : Nat) : Int)) := (hF85 10).trans rfl
      have s93 : F84 11 = .int .i64 ((b) (k)) := (hF85 11).trans rfl
      clear hF85
      refine then_normal ?_
      have hst := stp_le (q := q) (by omega)
      refine wq_region ?_
      refine wl_v (.int .i64 (((k : Nat) : Int))) rfl rfl (y_mov rfl s92 ⟨rfl, rfl⟩) ?_
      refine wl_v (.func (.func (f)) #[] #[]) rfl rfl (y_mov rfl s86 ⟨rfl, rfl⟩) ?_
      refine wl_v (.int .i64 ((b) (k))) rfl rfl (y_mov rfl s93 ⟨rfl, rfl⟩) ?_
      refine wl_call (R := fun v_ w_ => v_ = .int .i64 (cl 1048576 ((b) (k))) ∧ Kept (fun _ => False) w62 w_) rfl rfl (y_cs rfl rfl rfl (fun _ _ => by kernel_rfl) (ev_func _) (vsC rfl vsN) (qclamped_any ((b) (k)) _ ) (fun e_ w_ h_ => ⟨_, h_.1, rfl, h_.2⟩)) ?_
      rintro _ w94 ⟨rfl, k95⟩
      have B96 := B72.all k95 id
      have B97 := B73.all k95 id
      have K98 := K63.trans k95 (fun _ _ x => x)
      refine wl_v (.int .i64 (stp (q))) rfl rfl (y_mov rfl s89 ⟨rfl, rfl⟩) ?_
      refine wl_call (R := fun v_ w_ => v_ = .int .i64 (g (cl 1048576 (b k)) (stp q)) ∧ Kept (fun _ => False) w94 w_) rfl rfl (y_cv rfl rfl rfl rfl (hf.1) (vsC rfl (vsC rfl vsN)) (hf.2 _ _ _ (cl_le 1048576 _ (by omega)) (by omega)) (fun e_ w_ h_ => ⟨_, h_.1, rfl, h_.2⟩)) ?_
      rintro _ w99 ⟨rfl, k100⟩
      have B101 := B96.all k100 id
      have B102 := B97.all k100 id
      have K103 := K98.trans k100 (fun _ _ x => x)
      refine wl_v (.pointer (some ⟨p1, k, none⟩)) rfl rfl (y_atR (k) (s := 1) rfl s87 rfl (by omega) Tryd.underlying27 (by omega) (by kernel_rfl) (by omega) ⟨rfl, rfl⟩) ?_
      refine wl_set_blk rfl rfl rfl rfl rfl B101 (by omega) (by kernel_rfl) fun w104 B105 k106 => ?_
      have B107 := B102.all k106 (Ne.symm ne13)
      have K108 := K103.trans k106 (fun _ hi e => absurd (e ▸ hi) (Nat.not_lt.2 lp6))
      refine wl_nil fun F109 hF110 => ?_
      have s111 : F109 2 = .func (.func (f)) #[] #[] := (hF110 2).trans s86
      have s112 : F109 3 = .pointer (some ⟨p1, 0, none⟩) := (hF110 3).trans s87
      have s113 : F109 6 = .pointer (some ⟨p8, 0, none⟩) := (hF110 6).trans s88
      have s114 : F109 8 = .int .i64 (stp (q)) := (hF110 8).trans s89
      have s115 : F109 21 = blkV (b) := (hF110 21).trans s90
      have s116 : F109 22 = .int .i64 (((k : Nat) : Int)) := (hF110 22).trans s91
      clear hF110
      refine in_normal ?_
      refine then_normal ?_
      refine wq_region ?_
      refine wl_v (.int .i64 (((k + 1 : Nat) : Int))) rfl rfl (y_add rfl s116 rfl (i64_n (by omega) (by omega)) ⟨rfl, rfl⟩) ?_
      refine wl_v (.int .i64 (((k + 1 : Nat) : Int))) rfl rfl (y_mov rfl rfl ⟨rfl, rfl⟩) ?_
      refine wl_nil fun F117 hF118 => ?_
      have s119 : F117 2 = .func (.func (f)) #[] #[] := (hF118 2).trans s111
      have s120 : F117 3 = .pointer (some ⟨p1, 0, none⟩) := (hF118 3).trans s112
      have s121 : F117 6 = .pointer (some ⟨p8, 0, none⟩) := (hF118 6).trans s113
      have s122 : F117 8 = .int .i64 (stp (q)) := (hF118 8).trans s114
      have s123 : F117 21 = blkV (b) := (hF118 21).trans s115
      have s124 : F117 22 = .int .i64 (((k + 1 : Nat) : Int)) := (hF118 22).trans rfl
      clear hF118
      exact then_normal ⟨(16 - (k + 1)), by omega, k + 1, by omega, rfl, s119, s120, s121, s122, s123, s124, K108, (B105.next (by rw [each_ok (by omega)])), B107⟩
    · replace c83 := of_decide_eq_false c83
      refine wq_exit ?_
      refine then_exit ?_
      refine then_exit ?_
      have l125 : 16 = k := by omega
      subst l125
      have B126 : Blk w62 p1 27 (eachB g b q) := (B72.last)
      refine in_here ?_
      refine then_normal ?_
      refine wq_seq ?_
      refine wq_region ?_
      refine wl_v (blkV (eachB g b q)) rfl rfl (y_load_blk blkT_block rfl s77 B126 ⟨rfl, rfl⟩) ?_
      refine wl_store_blk blkT_block rfl rfl rfl s78 rfl B73 fun w127 B128 k129 => ?_
      have B130 := B126.all k129 ne13
      have K131 := K63.trans k129 (fun _ hi e => absurd (e ▸ hi) (Nat.not_lt.2 lp14))
      refine wl_v (.int .i64 (0)) rfl rfl (y_asg rfl rfl ⟨rfl, rfl⟩) ?_
      refine wl_nil fun F132 hF133 => ?_
      have s134 : F132 6 = .pointer (some ⟨p8, 0, none⟩) := (hF133 6).trans s78
      have s135 : F132 7 = .int .i64 (0) := (hF133 7).trans rfl
      clear hF133
      refine then_normal ?_
      refine wq_ret ?_
      exact end_2 rfl (res_blk blkT_block s134 B128) (res_tmp (v := .int .i64 (0)) s135) ⟨(by first | (rw [each_no (by omega)]) | (rw [show ern q = 0 by omega])), K131⟩

set_option maxHeartbeats 4000000 in
set_option maxRecDepth 100000 in
theorem down_any (b : Nat → Int) (q : Int) (w0 : World) (hs : StepsAt w0) :
    Calls Tryd.prog 13 #[blkV (b), .int .i64 (q)] w0 fun e w' => e = .returned (.tuple #[blkV (downB b q), .int .i64 (ern q)]) ∧ Kept (fun _ => False) w0 w' := by
  refine calls_wq (args := [blkV (b), .int .i64 (q)]) 11 Tryd.func13 rfl rfl (Nat.le_of_ble_eq_true rfl) ?_
  have K0 := Kept.refl (fun _ => False) w0
  refine wq_seq ?_
  refine wq_region ?_
  refine wl_box_blk rfl rfl rfl rfl fun p1 w2 e5 B3 k4 => ?_
  have lp6 : w0.heap.size ≤ p1 := by have h_ := K0.size; omega
  clear e5
  have K7 := K0.trans k4 (fun _ _ x => x)
  refine wl_alloc_blk rfl rfl rfl blkT_block.2.2 fun p8 w9 e12 B10 k11 => ?_
  have ne13 : p1 ≠ p8 := by have h_ := B3.lt; omega
  have lp14 : w0.heap.size ≤ p8 := by have h_ := K7.size; omega
  clear e12
  have B15 := B3.all k11 id
  have K16 := K7.trans k11 (fun _ _ x => x)
  refine wl_v (.int .i64 (0)) rfl rfl (y_asg rfl rfl ⟨rfl, rfl⟩) ?_
  refine wl_nil fun F17 hF18 => ?_
  have s19 : F17 1 = .int .i64 (q) := (hF18 1).trans rfl
  have s20 : F17 2 = .pointer (some ⟨p1, 0, none⟩) := (hF18 2).trans rfl
  have s21 : F17 4 = .pointer (some ⟨p8, 0, none⟩) := (hF18 4).trans rfl
  clear hF18
  refine then_normal ?_
  refine wq_seq ?_
  refine wq_region ?_
  refine wl_v (blkV (b)) rfl rfl (y_load_blk blkT_block rfl s20 B15 ⟨rfl, rfl⟩) ?_
  refine wl_v (.int .i64 (q)) rfl rfl (y_mov rfl s19 ⟨rfl, rfl⟩) ?_
  refine wl_call (R := fun v_ w_ => v_ = .tuple #[blkV (eachB (lev) (b) (q)), .int .i64 (ern (q))] ∧ Kept (fun _ => False) w9 w_) rfl rfl (y_cs rfl rfl rfl (fun _ _ => by kernel_rfl) (ev_func _) (vsC rfl (vsC rfl (vsC rfl vsN))) (each_any _ lev b q _ (hs.all K16) nearest_fn) (fun e_ w_ h_ => ⟨_, h_.1, rfl, h_.2⟩)) ?_
  rintro _ w22 ⟨rfl, k23⟩
  have B24 := B15.all k23 id
  have B25 := B10.all k23 id
  have K26 := K16.trans k23 (fun _ _ x => x)
  refine wl_v (blkV (eachB (lev) (b) (q))) rfl rfl (y_ext rfl rfl rfl ⟨rfl, rfl⟩) ?_
  refine wl_v (.int .i64 (ern (q))) rfl rfl (y_ext rfl rfl rfl ⟨rfl, rfl⟩) ?_
  refine wl_store_blk blkT_block rfl rfl rfl s21 rfl B25 fun w27 B28 k29 => ?_
  have B30 := B24.all k29 ne13
  have K31 := K26.trans k29 (fun _ hi e => absurd (e ▸ hi) (Nat.not_lt.2 lp14))
  refine wl_v (.int .i64 (ern (q))) rfl rfl (y_asg rfl rfl ⟨rfl, rfl⟩) ?_
  refine wl_nil fun F32 hF33 => ?_
  have s34 : F32 4 = .pointer (some ⟨p8, 0, none⟩) := (hF33 4).trans s21
  have s35 : F32 5 = .int .i64 (ern (q)) := (hF33 5).trans rfl
  clear hF33
  refine then_normal ?_
  refine wq_ret ?_
  exact end_2 rfl (res_blk blkT_block s34 B28) (res_tmp (v := .int .i64 (ern (q))) s35) ⟨rfl, K31⟩

set_option maxHeartbeats 4000000 in
set_option maxRecDepth 100000 in
theorem up_any (b : Nat → Int) (q : Int) (w0 : World) (hs : StepsAt w0) :
    Calls Tryd.prog 15 #[blkV (b), .int .i64 (q)] w0 fun e w' => e = .returned (.tuple #[blkV (upB b q), .int .i64 (ern q)]) ∧ Kept (fun _ => False) w0 w' := by
  refine calls_wq (args := [blkV (b), .int .i64 (q)]) 11 Tryd.func15 rfl rfl (Nat.le_of_ble_eq_true rfl) ?_
  have K0 := Kept.refl (fun _ => False) w0
  refine wq_seq ?_
  refine wq_region ?_
  refine wl_box_blk rfl rfl rfl rfl fun p1 w2 e5 B3 k4 => ?_
  have lp6 : w0.heap.size ≤ p1 := by have h_ := K0.size; omega
  clear e5
  have K7 := K0.trans k4 (fun _ _ x => x)
  refine wl_alloc_blk rfl rfl rfl blkT_block.2.2 fun p8 w9 e12 B10 k11 => ?_
  have ne13 : p1 ≠ p8 := by have h_ := B3.lt; omega
  have lp14 : w0.heap.size ≤ p8 := by have h_ := K7.size; omega
  clear e12
  have B15 := B3.all k11 id
  have K16 := K7.trans k11 (fun _ _ x => x)
  refine wl_v (.int .i64 (0)) rfl rfl (y_asg rfl rfl ⟨rfl, rfl⟩) ?_
  refine wl_nil fun F17 hF18 => ?_
  have s19 : F17 1 = .int .i64 (q) := (hF18 1).trans rfl
  have s20 : F17 2 = .pointer (some ⟨p1, 0, none⟩) := (hF18 2).trans rfl
  have s21 : F17 4 = .pointer (some ⟨p8, 0, none⟩) := (hF18 4).trans rfl
  clear hF18
  refine then_normal ?_
  refine wq_seq ?_
  refine wq_region ?_
  refine wl_v (blkV (b)) rfl rfl (y_load_blk blkT_block rfl s20 B15 ⟨rfl, rfl⟩) ?_
  refine wl_v (.int .i64 (q)) rfl rfl (y_mov rfl s19 ⟨rfl, rfl⟩) ?_
  refine wl_call (R := fun v_ w_ => v_ = .tuple #[blkV (eachB (mulF) (b) (q)), .int .i64 (ern (q))] ∧ Kept (fun _ => False) w9 w_) rfl rfl (y_cs rfl rfl rfl (fun _ _ => by kernel_rfl) (ev_func _) (vsC rfl (vsC rfl (vsC rfl vsN))) (each_any _ mulF b q _ (hs.all K16) times_fn) (fun e_ w_ h_ => ⟨_, h_.1, rfl, h_.2⟩)) ?_
  rintro _ w22 ⟨rfl, k23⟩
  have B24 := B15.all k23 id
  have B25 := B10.all k23 id
  have K26 := K16.trans k23 (fun _ _ x => x)
  refine wl_v (blkV (eachB (mulF) (b) (q))) rfl rfl (y_ext rfl rfl rfl ⟨rfl, rfl⟩) ?_
  refine wl_v (.int .i64 (ern (q))) rfl rfl (y_ext rfl rfl rfl ⟨rfl, rfl⟩) ?_
  refine wl_store_blk blkT_block rfl rfl rfl s21 rfl B25 fun w27 B28 k29 => ?_
  have B30 := B24.all k29 ne13
  have K31 := K26.trans k29 (fun _ hi e => absurd (e ▸ hi) (Nat.not_lt.2 lp14))
  refine wl_v (.int .i64 (ern (q))) rfl rfl (y_asg rfl rfl ⟨rfl, rfl⟩) ?_
  refine wl_nil fun F32 hF33 => ?_
  have s34 : F32 4 = .pointer (some ⟨p8, 0, none⟩) := (hF33 4).trans s21
  have s35 : F32 5 = .int .i64 (ern (q)) := (hF33 5).trans rfl
  clear hF33
  refine then_normal ?_
  refine wq_ret ?_
  exact end_2 rfl (res_blk blkT_block s34 B28) (res_tmp (v := .int .i64 (ern (q))) s35) ⟨rfl, K31⟩
end Go.Proofs.YtnlpiafgbeknhaaDoor
