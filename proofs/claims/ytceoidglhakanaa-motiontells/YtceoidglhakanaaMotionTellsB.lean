/- What MotionTells reaches of my texts, part 2. -/
import Derived.Test.YtceoidglhakanaaMotionTellsA
namespace Go.Proofs.Ytceoidglhakanaa
open Go.RowKit
theorem stcT_frame : StcT Try.prog 25 5 := ⟨_, Try.underlying25, rfl, by kernel_rfl⟩

set_option maxHeartbeats 4000000 in
set_option maxRecDepth 100000 in
theorem fref_side (n : Int) (w0 : World) :
    Calls Try.prog 49 #[.int .i64 (n)] w0 fun e w' => e = .returned (.bool (sideB n)) ∧ Kept (fun _ => False) w0 w' := by
  refine calls_wq (args := [.int .i64 (n)]) 14 Try.func49 rfl rfl (Nat.le_of_ble_eq_true rfl) ?_
  have K0 := Kept.refl (fun _ => False) w0
  refine wq_seq ?_
  refine wq_region ?_
  refine wl_v (.bool false) rfl rfl (y_asg rfl rfl ⟨rfl, rfl⟩) ?_
  refine wl_nil fun F1 hF2 => ?_
  have s3 : F1 0 = .int .i64 (n) := (hF2 0).trans rfl
  have s4 : F1 14 = undef := (hF2 14).trans rfl
  clear hF2
  refine then_normal ?_
  refine wq_seq ?_
  by_cases d5 : (8) ≤ (n)
  · skip
    by_cases d6 : (n) ≤ (64)
    · skip
      refine wq_region ?_
      refine wl_v (.int .i64 (n)) rfl rfl (y_mov rfl s3 ⟨rfl, rfl⟩) ?_
      refine wl_v (.bool true) rfl rfl (y_geq rfl rfl rfl (decide_eq_true d5) ⟨rfl, rfl⟩) ?_
      refine wl_v (.bool true) rfl rfl (y_mov rfl rfl ⟨rfl, rfl⟩) ?_
      refine wl_vw (.int .i64 (n)) 2 true 5 rfl rfl rfl rfl rfl (y_mov rfl s3 ⟨rfl, rfl⟩) ?_
      refine wl_vw (.bool true) 2 true 5 rfl rfl rfl rfl rfl (y_leq rfl rfl rfl (decide_eq_true d6) ⟨rfl, rfl⟩) ?_
      refine wl_v (.bool true) rfl rfl (y_pickT rfl rfl rfl ⟨rfl, rfl⟩) ?_
      refine wl_v (.bool true) rfl rfl (y_mov rfl rfl ⟨rfl, rfl⟩) ?_
      refine wl_vw (.int .i64 (n)) 6 true 9 rfl rfl rfl rfl rfl (y_mov rfl s3 ⟨rfl, rfl⟩) ?_
      refine wl_vw (.int .i64 (Int.tmod (n) (8))) 6 true 9 rfl rfl rfl rfl rfl (y_rem rfl rfl rfl (by first | decide | omega) rfl ⟨rfl, rfl⟩) ?_
      refine wl_vw (.bool (decide ((Int.tmod (n) (8)) = (0)))) 6 true 9 rfl rfl rfl rfl rfl (y_eqlI rfl rfl rfl rfl ⟨rfl, rfl⟩) ?_
      refine wl_v (.bool (decide ((Int.tmod (n) (8)) = (0)))) rfl rfl (y_pickT rfl rfl rfl ⟨rfl, rfl⟩) ?_
      refine wl_v (.bool (decide ((Int.tmod (n) (8)) = (0)))) rfl rfl (y_asg rfl rfl ⟨rfl, rfl⟩) ?_
      refine wl_nil fun F7 hF8 => ?_
      have s9 : F7 14 = undef := (hF8 14).trans s4
      have s10 : F7 2 = .bool (decide ((Int.tmod (n) (8)) = (0))) := (hF8 2).trans rfl
      clear hF8
      refine then_normal ?_
      refine wq_ret ?_
      exact end_tmp (v := .bool (decide ((Int.tmod (n) (8)) = (0)))) s9 rfl rfl s10 ⟨(by first | rw [sideB_low (by omega)] | rw [sideB_high (by omega)] | rw [sideB_mid (by omega) (by omega)]), K0⟩
    · skip
      refine wq_region ?_
      refine wl_v (.int .i64 (n)) rfl rfl (y_mov rfl s3 ⟨rfl, rfl⟩) ?_
      refine wl_v (.bool true) rfl rfl (y_geq rfl rfl rfl (decide_eq_true d5) ⟨rfl, rfl⟩) ?_
      refine wl_v (.bool true) rfl rfl (y_mov rfl rfl ⟨rfl, rfl⟩) ?_
      refine wl_vw (.int .i64 (n)) 2 true 5 rfl rfl rfl rfl rfl (y_mov rfl s3 ⟨rfl, rfl⟩) ?_
      refine wl_vw (.bool false) 2 true 5 rfl rfl rfl rfl rfl (y_leq rfl rfl rfl (decide_eq_false d6) ⟨rfl, rfl⟩) ?_
      refine wl_v (.bool false) rfl rfl (y_pickT rfl rfl rfl ⟨rfl, rfl⟩) ?_
      refine wl_v (.bool false) rfl rfl (y_mov rfl rfl ⟨rfl, rfl⟩) ?_
      refine wl_unless 6 true 9 rfl rfl rfl (Or.inl rfl) rfl ?_
      refine wl_unless 6 true 9 rfl rfl rfl (Or.inl rfl) rfl ?_
      refine wl_unless 6 true 9 rfl rfl rfl (Or.inl rfl) rfl ?_
      refine wl_v (.bool false) rfl rfl (y_pickF rfl rfl rfl ⟨rfl, rfl⟩) ?_
      refine wl_v (.bool false) rfl rfl (y_asg rfl rfl ⟨rfl, rfl⟩) ?_
      refine wl_nil fun F11 hF12 => ?_
      have s13 : F11 14 = undef := (hF12 14).trans s4
      have s14 : F11 2 = .bool false := (hF12 2).trans rfl
      clear hF12
      refine then_normal ?_
      refine wq_ret ?_
      exact end_tmp (v := .bool false) s13 rfl rfl s14 ⟨(by first | rw [sideB_low (by omega)] | rw [sideB_high (by omega)] | rw [sideB_mid (by omega) (by omega)]), K0⟩
  · skip
    refine wq_region ?_
    refine wl_v (.int .i64 (n)) rfl rfl (y_mov rfl s3 ⟨rfl, rfl⟩) ?_
    refine wl_v (.bool false) rfl rfl (y_geq rfl rfl rfl (decide_eq_false d5) ⟨rfl, rfl⟩) ?_
    refine wl_v (.bool false) rfl rfl (y_mov rfl rfl ⟨rfl, rfl⟩) ?_
    refine wl_unless 2 true 5 rfl rfl rfl (Or.inl rfl) rfl ?_
    refine wl_unless 2 true 5 rfl rfl rfl (Or.inl rfl) rfl ?_
    refine wl_v (.bool false) rfl rfl (y_pickF rfl rfl rfl ⟨rfl, rfl⟩) ?_
    refine wl_v (.bool false) rfl rfl (y_mov rfl rfl ⟨rfl, rfl⟩) ?_
    refine wl_unless 6 true 9 rfl rfl rfl (Or.inl rfl) rfl ?_
    refine wl_unless 6 true 9 rfl rfl rfl (Or.inl rfl) rfl ?_
    refine wl_unless 6 true 9 rfl rfl rfl (Or.inl rfl) rfl ?_
    refine wl_v (.bool false) rfl rfl (y_pickF rfl rfl rfl ⟨rfl, rfl⟩) ?_
    refine wl_v (.bool false) rfl rfl (y_asg rfl rfl ⟨rfl, rfl⟩) ?_
    refine wl_nil fun F15 hF16 => ?_
    have s17 : F15 14 = undef := (hF16 14).trans s4
    have s18 : F15 2 = .bool false := (hF16 2).trans rfl
    clear hF16
    refine then_normal ?_
    refine wq_ret ?_
    exact end_tmp (v := .bool false) s17 rfl rfl s18 ⟨(by first | rw [sideB_low (by omega)] | rw [sideB_high (by omega)] | rw [sideB_mid (by omega) (by omega)]), K0⟩

set_option maxHeartbeats 4000000 in
set_option maxRecDepth 100000 in
theorem fref_check (f : FD) (f0 f1 f2 : Value) (T_f0 : Nat → Prop) (T_f1 : Nat → Prop) (T_f2 : Nat → Prop) (w0 : World) (h_f0 : Byt w0 T_f0 f0 ((f).p0)) (h_f1 : Byt w0 T_f1 f1 ((f).p1)) (h_f2 : Byt w0 T_f2 f2 ((f).p2)) :
    Calls Try.prog 28 #[.agg #[.int .i64 ((f).W), .int .i64 ((f).H), f0, f1, f2]] w0 fun e w' => e = .returned (.int .i64 (checkE f)) ∧ Kept (fun _ => False) w0 w' := by
  refine calls_wq (args := [.agg #[.int .i64 ((f).W), .int .i64 ((f).H), f0, f1, f2]]) 51 Try.func28 rfl rfl (Nat.le_of_ble_eq_true rfl) ?_
  have K0 := Kept.refl (fun _ => False) w0
  have hmul := @area_bounds f.W f.H
  have g_f0 := Grew.refl w0 T_f0
  have g_f1 := Grew.refl w0 T_f1
  have g_f2 := Grew.refl w0 T_f2
  refine wq_seq ?_
  refine wq_region ?_
  refine wl_box_stc (vs := [.int .i64 ((f).W), .int .i64 ((f).H), f0, f1, f2]) rfl rfl rfl rfl fun p1 w2 B4 g5 k3 => ?_
  have gr6 : Grew w0 noB (onB p1) := Grew.new K0 g5
  have ap7 : Apart (onB p1) (T_f0) := Apart.new g5 (h_f0).live
  have ap8 : Apart (onB p1) (T_f1) := Apart.new g5 (h_f1).live
  have ap9 : Apart (onB p1) (T_f2) := Apart.new g5 (h_f2).live
  have B10 := h_f0.all k3 Apart.none
  have B11 := h_f1.all k3 Apart.none
  have B12 := h_f2.all k3 Apart.none
  have K13 := K0.trans k3 (fun _ _ x => x.elim)
  refine wl_v (.int .i64 (0)) rfl rfl (y_asg rfl rfl ⟨rfl, rfl⟩) ?_
  refine wl_nil fun F14 hF15 => ?_
  have s16 : F14 51 = undef := (hF15 51).trans rfl
  have s17 : F14 1 = .pointer (some ⟨p1, 0, none⟩) := (hF15 1).trans rfl
  clear hF15
  refine then_normal ?_
  refine wq_seq ?_
  refine wq_seq ?_
  rcases Bool.eq_false_or_eq_true (sideB ((f).W)) with d18 | d18
  · skip
    rcases Bool.eq_false_or_eq_true (sideB ((f).H)) with d19 | d19
    · skip
      by_cases d20 : (((((f).p0).length : Nat) : Int)) ≠ ((f).W * (f).H)
      · skip
        refine wq_region ?_
        refine wl_v (.pointer (some ⟨p1, 0, none⟩)) rfl rfl (y_fieldR (n := 1) rfl s17 Try.underlying25 rfl (by kernel_rfl) (by decide) rfl ⟨rfl, rfl⟩) ?_
        refine wl_v (.int .i64 ((f).W)) rfl rfl (y_ld_stc rfl rfl Try.underlying3 B4 rfl rfl ⟨rfl, rfl⟩) ?_
        refine wl_call (R := fun v_ w_ => v_ = .bool true ∧ Kept (fun _ => False) w2 w_) rfl rfl (y_cs rfl rfl rfl (fun _ _ => by kernel_rfl) (ev_func _) (vsC rfl vsN) (fref_side ((f).W)  _   ) (fun e_ w_ h_ => ⟨_, h_.1, (congrArg Value.bool d18), h_.2⟩)) ?_
        rintro _ w21 ⟨rfl, k22⟩
        have B23 := B10.all k22 Apart.none
        have B24 := B11.all k22 Apart.none
        have B25 := B12.all k22 Apart.none
        have B26 := B4.all k22 id
        have K27 := K13.trans k22 (fun _ _ x => x.elim)
        refine wl_v (.bool false) rfl rfl (y_not rfl rfl rfl ⟨rfl, rfl⟩) ?_
        refine wl_v (.bool false) rfl rfl (y_mov rfl rfl ⟨rfl, rfl⟩) ?_
        refine wl_vw (.pointer (some ⟨p1, 1, none⟩)) 4 false 7 rfl rfl rfl rfl rfl (y_fieldR (n := 1) rfl s17 Try.underlying25 rfl (by kernel_rfl) (by decide) rfl ⟨rfl, rfl⟩) ?_
        refine wl_vw (.int .i64 ((f).H)) 4 false 7 rfl rfl rfl rfl rfl (y_ld_stc rfl rfl Try.underlying3 B26 rfl rfl ⟨rfl, rfl⟩) ?_
        refine wl_callw (R := fun v_ w_ => v_ = .bool true ∧ Kept (fun _ => False) w21 w_) 4 false 7 rfl rfl rfl rfl rfl (y_cs rfl rfl rfl (fun _ _ => by kernel_rfl) (ev_func _) (vsC rfl vsN) (fref_side ((f).H)  _   ) (fun e_ w_ h_ => ⟨_, h_.1, (congrArg Value.bool d19), h_.2⟩)) ?_
        rintro _ w28 ⟨rfl, k29⟩
        have B30 := B23.all k29 Apart.none
        have B31 := B24.all k29 Apart.none
        have B32 := B25.all k29 Apart.none
        have B33 := B26.all k29 id
        have K34 := K27.trans k29 (fun _ _ x => x.elim)
        refine wl_vw (.bool false) 4 false 7 rfl rfl rfl rfl rfl (y_not rfl rfl rfl ⟨rfl, rfl⟩) ?_
        refine wl_v (.bool false) rfl rfl (y_pickF rfl rfl rfl ⟨rfl, rfl⟩) ?_
        refine wl_v (.bool false) rfl rfl (y_mov rfl rfl ⟨rfl, rfl⟩) ?_
        refine wl_vw (.pointer (some ⟨p1, 2, none⟩)) 10 false 13 rfl rfl rfl rfl rfl (y_fieldR (n := 3) rfl s17 Try.underlying25 rfl (by kernel_rfl) (by decide) rfl ⟨rfl, rfl⟩) ?_
        refine wl_vw (.pointer (some ⟨p1, 2, none⟩)) 10 false 13 rfl rfl rfl rfl rfl (y_atR (0) (s := 1) rfl rfl rfl (by omega) Try.underlying23 (by omega) (by kernel_rfl) (by omega) ⟨rfl, rfl⟩) ?_
        refine wl_vw (f0) 10 false 13 rfl rfl rfl rfl rfl (y_ld_stc rfl rfl Try.underlying22 B33 rfl rfl ⟨rfl, rfl⟩) ?_
        refine wl_vw (.int .i64 (((((f).p0).length : Nat) : Int))) 10 false 13 rfl rfl rfl rfl rfl (y_lenV rfl rfl rfl B30 ⟨rfl, rfl⟩) ?_
        refine wl_vw (.pointer (some ⟨p1, 0, none⟩)) 10 false 13 rfl rfl rfl rfl rfl (y_fieldR (n := 1) rfl s17 Try.underlying25 rfl (by kernel_rfl) (by decide) rfl ⟨rfl, rfl⟩) ?_
        refine wl_vw (.int .i64 ((f).W)) 10 false 13 rfl rfl rfl rfl rfl (y_ld_stc rfl rfl Try.underlying3 B33 rfl rfl ⟨rfl, rfl⟩) ?_
        refine wl_vw (.pointer (some ⟨p1, 1, none⟩)) 10 false 13 rfl rfl rfl rfl rfl (y_fieldR (n := 1) rfl s17 Try.underlying25 rfl (by kernel_rfl) (by decide) rfl ⟨rfl, rfl⟩) ?_
        refine wl_vw (.int .i64 ((f).H)) 10 false 13 rfl rfl rfl rfl rfl (y_ld_stc rfl rfl Try.underlying3 B33 rfl rfl ⟨rfl, rfl⟩) ?_
        refine wl_vw (.int .i64 ((f).W * (f).H)) 10 false 13 rfl rfl rfl rfl rfl (y_mul rfl rfl rfl (i64_i rfl (by have h := hmul (by assumption) (by assumption); omega)) ⟨rfl, rfl⟩) ?_
        refine wl_vw (.bool true) 10 false 13 rfl rfl rfl rfl rfl (y_neqI rfl rfl rfl (decide_eq_true d20) ⟨rfl, rfl⟩) ?_
        refine wl_v (.bool true) rfl rfl (y_pickF rfl rfl rfl ⟨rfl, rfl⟩) ?_
        refine wl_v (.bool true) rfl rfl (y_mov rfl rfl ⟨rfl, rfl⟩) ?_
        refine wl_unless 22 false 25 rfl rfl rfl (Or.inl rfl) rfl ?_
        refine wl_unless 22 false 25 rfl rfl rfl (Or.inl rfl) rfl ?_
        refine wl_unless 22 false 25 rfl rfl rfl (Or.inl rfl) rfl ?_
        refine wl_unless 22 false 25 rfl rfl rfl (Or.inl rfl) rfl ?_
        refine wl_unless 22 false 25 rfl rfl rfl (Or.inl rfl) rfl ?_
        refine wl_unless 22 false 25 rfl rfl rfl (Or.inl rfl) rfl ?_
        refine wl_unless 22 false 25 rfl rfl rfl (Or.inl rfl) rfl ?_
        refine wl_unless 22 false 25 rfl rfl rfl (Or.inl rfl) rfl ?_
        refine wl_unless 22 false 25 rfl rfl rfl (Or.inl rfl) rfl ?_
        refine wl_unless 22 false 25 rfl rfl rfl (Or.inl rfl) rfl ?_
        refine wl_unless 22 false 25 rfl rfl rfl (Or.inl rfl) rfl ?_
        refine wl_v (.bool true) rfl rfl (y_pickT rfl rfl rfl ⟨rfl, rfl⟩) ?_
        refine wl_v (.bool true) rfl rfl (y_mov rfl rfl ⟨rfl, rfl⟩) ?_
        refine wl_unless 35 false 38 rfl rfl rfl (Or.inl rfl) rfl ?_
        refine wl_unless 35 false 38 rfl rfl rfl (Or.inl rfl) rfl ?_
        refine wl_unless 35 false 38 rfl rfl rfl (Or.inl rfl) rfl ?_
        refine wl_unless 35 false 38 rfl rfl rfl (Or.inl rfl) rfl ?_
        refine wl_unless 35 false 38 rfl rfl rfl (Or.inl rfl) rfl ?_
        refine wl_unless 35 false 38 rfl rfl rfl (Or.inl rfl) rfl ?_
        refine wl_unless 35 false 38 rfl rfl rfl (Or.inl rfl) rfl ?_
        refine wl_unless 35 false 38 rfl rfl rfl (Or.inl rfl) rfl ?_
        refine wl_unless 35 false 38 rfl rfl rfl (Or.inl rfl) rfl ?_
        refine wl_unless 35 false 38 rfl rfl rfl (Or.inl rfl) rfl ?_
        refine wl_unless 35 false 38 rfl rfl rfl (Or.inl rfl) rfl ?_
        refine wl_v (.bool true) rfl rfl (y_pickT rfl rfl rfl ⟨rfl, rfl⟩) ?_
        refine wl_nil fun F35 hF36 => ?_
        have s37 : F35 51 = undef := (hF36 51).trans s16
        have s38 : F35 50 = .bool true := (hF36 50).trans rfl
        clear hF36
        refine then_normal ?_
        refine wq_cond (t := true) s38 (fun _ => ?_) (fun e => by cases e)
        refine wq_seq ?_
        refine wq_region ?_
        refine wl_v (.int .i64 (70)) rfl rfl (y_asg rfl rfl ⟨rfl, rfl⟩) ?_
        refine wl_nil fun F39 hF40 => ?_
        have s41 : F39 51 = undef := (hF40 51).trans s37
        have s42 : F39 2 = .int .i64 (70) := (hF40 2).trans rfl
        clear hF40
        refine then_normal ?_
        refine wq_ret ?_
        refine then_ret ?_
        exact end_tmp (v := .int .i64 (70)) s41 rfl rfl s42 ⟨(by first | rw [checkE_ok ⟨by assumption, by assumption, by first | assumption | (apply Decidable.byContradiction; assumption), by first | assumption | (apply Decidable.byContradiction; assumption), by first | assumption | (apply Decidable.byContradiction; assumption)⟩] | rw [checkE_no (by rintro ⟨h1, h2, h3, h4, h5⟩; simp_all)]), K34⟩
      · skip
        by_cases d43 : (((((f).p1).length : Nat) : Int)) ≠ (Int.tdiv ((f).W * (f).H) 4)
        · skip
          refine wq_region ?_
          refine wl_v (.pointer (some ⟨p1, 0, none⟩)) rfl rfl (y_fieldR (n := 1) rfl s17 Try.underlying25 rfl (by kernel_rfl) (by decide) rfl ⟨rfl, rfl⟩) ?_
          refine wl_v (.int .i64 ((f).W)) rfl rfl (y_ld_stc rfl rfl Try.underlying3 B4 rfl rfl ⟨rfl, rfl⟩) ?_
          refine wl_call (R := fun v_ w_ => v_ = .bool true ∧ Kept (fun _ => False) w2 w_) rfl rfl (y_cs rfl rfl rfl (fun _ _ => by kernel_rfl) (ev_func _) (vsC rfl vsN) (fref_side ((f).W)  _   ) (fun e_ w_ h_ => ⟨_, h_.1, (congrArg Value.bool d18), h_.2⟩)) ?_
          rintro _ w44 ⟨rfl, k45⟩
          have B46 := B10.all k45 Apart.none
          have B47 := B11.all k45 Apart.none
          have B48 := B12.all k45 Apart.none
          have B49 := B4.all k45 id
          have K50 := K13.trans k45 (fun _ _ x => x.elim)
          refine wl_v (.bool false) rfl rfl (y_not rfl rfl rfl ⟨rfl, rfl⟩) ?_
          refine wl_v (.bool false) rfl rfl (y_mov rfl rfl ⟨rfl, rfl⟩) ?_
          refine wl_vw (.pointer (some ⟨p1, 1, none⟩)) 4 false 7 rfl rfl rfl rfl rfl (y_fieldR (n := 1) rfl s17 Try.underlying25 rfl (by kernel_rfl) (by decide) rfl ⟨rfl, rfl⟩) ?_
          refine wl_vw (.int .i64 ((f).H)) 4 false 7 rfl rfl rfl rfl rfl (y_ld_stc rfl rfl Try.underlying3 B49 rfl rfl ⟨rfl, rfl⟩) ?_
          refine wl_callw (R := fun v_ w_ => v_ = .bool true ∧ Kept (fun _ => False) w44 w_) 4 false 7 rfl rfl rfl rfl rfl (y_cs rfl rfl rfl (fun _ _ => by kernel_rfl) (ev_func _) (vsC rfl vsN) (fref_side ((f).H)  _   ) (fun e_ w_ h_ => ⟨_, h_.1, (congrArg Value.bool d19), h_.2⟩)) ?_
          rintro _ w51 ⟨rfl, k52⟩
          have B53 := B46.all k52 Apart.none
          have B54 := B47.all k52 Apart.none
          have B55 := B48.all k52 Apart.none
          have B56 := B49.all k52 id
          have K57 := K50.trans k52 (fun _ _ x => x.elim)
          refine wl_vw (.bool false) 4 false 7 rfl rfl rfl rfl rfl (y_not rfl rfl rfl ⟨rfl, rfl⟩) ?_
          refine wl_v (.bool false) rfl rfl (y_pickF rfl rfl rfl ⟨rfl, rfl⟩) ?_
          refine wl_v (.bool false) rfl rfl (y_mov rfl rfl ⟨rfl, rfl⟩) ?_
          refine wl_vw (.pointer (some ⟨p1, 2, none⟩)) 10 false 13 rfl rfl rfl rfl rfl (y_fieldR (n := 3) rfl s17 Try.underlying25 rfl (by kernel_rfl) (by decide) rfl ⟨rfl, rfl⟩) ?_
          refine wl_vw (.pointer (some ⟨p1, 2, none⟩)) 10 false 13 rfl rfl rfl rfl rfl (y_atR (0) (s := 1) rfl rfl rfl (by omega) Try.underlying23 (by omega) (by kernel_rfl) (by omega) ⟨rfl, rfl⟩) ?_
          refine wl_vw (f0) 10 false 13 rfl rfl rfl rfl rfl (y_ld_stc rfl rfl Try.underlying22 B56 rfl rfl ⟨rfl, rfl⟩) ?_
          refine wl_vw (.int .i64 (((((f).p0).length : Nat) : Int))) 10 false 13 rfl rfl rfl rfl rfl (y_lenV rfl rfl rfl B53 ⟨rfl, rfl⟩) ?_
          refine wl_vw (.pointer (some ⟨p1, 0, none⟩)) 10 false 13 rfl rfl rfl rfl rfl (y_fieldR (n := 1) rfl s17 Try.underlying25 rfl (by kernel_rfl) (by decide) rfl ⟨rfl, rfl⟩) ?_
          refine wl_vw (.int .i64 ((f).W)) 10 false 13 rfl rfl rfl rfl rfl (y_ld_stc rfl rfl Try.underlying3 B56 rfl rfl ⟨rfl, rfl⟩) ?_
          refine wl_vw (.pointer (some ⟨p1, 1, none⟩)) 10 false 13 rfl rfl rfl rfl rfl (y_fieldR (n := 1) rfl s17 Try.underlying25 rfl (by kernel_rfl) (by decide) rfl ⟨rfl, rfl⟩) ?_
          refine wl_vw (.int .i64 ((f).H)) 10 false 13 rfl rfl rfl rfl rfl (y_ld_stc rfl rfl Try.underlying3 B56 rfl rfl ⟨rfl, rfl⟩) ?_
          refine wl_vw (.int .i64 ((f).W * (f).H)) 10 false 13 rfl rfl rfl rfl rfl (y_mul rfl rfl rfl (i64_i rfl (by have h := hmul (by assumption) (by assumption); omega)) ⟨rfl, rfl⟩) ?_
          refine wl_vw (.bool false) 10 false 13 rfl rfl rfl rfl rfl (y_neqI rfl rfl rfl (decide_eq_false d20) ⟨rfl, rfl⟩) ?_
          refine wl_v (.bool false) rfl rfl (y_pickF rfl rfl rfl ⟨rfl, rfl⟩) ?_
          refine wl_v (.bool false) rfl rfl (y_mov rfl rfl ⟨rfl, rfl⟩) ?_
          refine wl_vw (.pointer (some ⟨p1, 2, none⟩)) 22 false 25 rfl rfl rfl rfl rfl (y_fieldR (n := 3) rfl s17 Try.underlying25 rfl (by kernel_rfl) (by decide) rfl ⟨rfl, rfl⟩) ?_
          refine wl_vw (.pointer (some ⟨p1, 3, none⟩)) 22 false 25 rfl rfl rfl rfl rfl (y_atR (1) (s := 1) rfl rfl rfl (by omega) Try.underlying23 (by omega) (by kernel_rfl) (by omega) ⟨rfl, rfl⟩) ?_
          refine wl_vw (f1) 22 false 25 rfl rfl rfl rfl rfl (y_ld_stc rfl rfl Try.underlying22 B56 rfl rfl ⟨rfl, rfl⟩) ?_
          refine wl_vw (.int .i64 (((((f).p1).length : Nat) : Int))) 22 false 25 rfl rfl rfl rfl rfl (y_lenV rfl rfl rfl B54 ⟨rfl, rfl⟩) ?_
          refine wl_vw (.pointer (some ⟨p1, 0, none⟩)) 22 false 25 rfl rfl rfl rfl rfl (y_fieldR (n := 1) rfl s17 Try.underlying25 rfl (by kernel_rfl) (by decide) rfl ⟨rfl, rfl⟩) ?_
          refine wl_vw (.int .i64 ((f).W)) 22 false 25 rfl rfl rfl rfl rfl (y_ld_stc rfl rfl Try.underlying3 B56 rfl rfl ⟨rfl, rfl⟩) ?_
          refine wl_vw (.pointer (some ⟨p1, 1, none⟩)) 22 false 25 rfl rfl rfl rfl rfl (y_fieldR (n := 1) rfl s17 Try.underlying25 rfl (by kernel_rfl) (by decide) rfl ⟨rfl, rfl⟩) ?_
          refine wl_vw (.int .i64 ((f).H)) 22 false 25 rfl rfl rfl rfl rfl (y_ld_stc rfl rfl Try.underlying3 B56 rfl rfl ⟨rfl, rfl⟩) ?_
          refine wl_vw (.int .i64 ((f).W * (f).H)) 22 false 25 rfl rfl rfl rfl rfl (y_mul rfl rfl rfl (i64_i rfl (by have h := hmul (by assumption) (by assumption); omega)) ⟨rfl, rfl⟩) ?_
          refine wl_vw (.int .i64 (Int.tdiv ((f).W * (f).H) 4)) 22 false 25 rfl rfl rfl rfl rfl (y_quo rfl rfl rfl (by first | decide | omega) (i64_i rfl (by have h := hmul (by assumption) (by assumption); rw [tdiv4 (by omega)]; omega)) ⟨rfl, rfl⟩) ?_
          refine wl_vw (.bool true) 22 false 25 rfl rfl rfl rfl rfl (y_neqI rfl rfl rfl (decide_eq_true d43) ⟨rfl, rfl⟩) ?_
          refine wl_v (.bool true) rfl rfl (y_pickF rfl rfl rfl ⟨rfl, rfl⟩) ?_
          refine wl_v (.bool true) rfl rfl (y_mov rfl rfl ⟨rfl, rfl⟩) ?_
          refine wl_unless 35 false 38 rfl rfl rfl (Or.inl rfl) rfl ?_
          refine wl_unless 35 false 38 rfl rfl rfl (Or.inl rfl) rfl ?_
          refine wl_unless 35 false 38 rfl rfl rfl (Or.inl rfl) rfl ?_
          refine wl_unless 35 false 38 rfl rfl rfl (Or.inl rfl) rfl ?_
          refine wl_unless 35 false 38 rfl rfl rfl (Or.inl rfl) rfl ?_
          refine wl_unless 35 false 38 rfl rfl rfl (Or.inl rfl) rfl ?_
          refine wl_unless 35 false 38 rfl rfl rfl (Or.inl rfl) rfl ?_
          refine wl_unless 35 false 38 rfl rfl rfl (Or.inl rfl) rfl ?_
          refine wl_unless 35 false 38 rfl rfl rfl (Or.inl rfl) rfl ?_
          refine wl_unless 35 false 38 rfl rfl rfl (Or.inl rfl) rfl ?_
          refine wl_unless 35 false 38 rfl rfl rfl (Or.inl rfl) rfl ?_
          refine wl_v (.bool true) rfl rfl (y_pickT rfl rfl rfl ⟨rfl, rfl⟩) ?_
          refine wl_nil fun F58 hF59 => ?_
          have s60 : F58 51 = undef := (hF59 51).trans s16
          have s61 : F58 50 = .bool true := (hF59 50).trans rfl
          clear hF59
          refine then_normal ?_
          refine wq_cond (t := true) s61 (fun _ => ?_) (fun e => by cases e)
          refine wq_seq ?_
          refine wq_region ?_
          refine wl_v (.int .i64 (70)) rfl rfl (y_asg rfl rfl ⟨rfl, rfl⟩) ?_
          refine wl_nil fun F62 hF63 => ?_
          have s64 : F62 51 = undef := (hF63 51).trans s60
          have s65 : F62 2 = .int .i64 (70) := (hF63 2).trans rfl
          clear hF63
          refine then_normal ?_
          refine wq_ret ?_
          refine then_ret ?_
          exact end_tmp (v := .int .i64 (70)) s64 rfl rfl s65 ⟨(by first | rw [checkE_ok ⟨by assumption, by assumption, by first | assumption | (apply Decidable.byContradiction; assumption), by first | assumption | (apply Decidable.byContradiction; assumption), by first | assumption | (apply Decidable.byContradiction; assumption)⟩] | rw [checkE_no (by rintro ⟨h1, h2, h3, h4, h5⟩; simp_all)]), K57⟩
        · skip
          refine wq_region ?_
          refine wl_v (.pointer (some ⟨p1, 0, none⟩)) rfl rfl (y_fieldR (n := 1) rfl s17 Try.underlying25 rfl (by kernel_rfl) (by decide) rfl ⟨rfl, rfl⟩) ?_
          refine wl_v (.int .i64 ((f).W)) rfl rfl (y_ld_stc rfl rfl Try.underlying3 B4 rfl rfl ⟨rfl, rfl⟩) ?_
          refine wl_call (R := fun v_ w_ => v_ = .bool true ∧ Kept (fun _ => False) w2 w_) rfl rfl (y_cs rfl rfl rfl (fun _ _ => by kernel_rfl) (ev_func _) (vsC rfl vsN) (fref_side ((f).W)  _   ) (fun e_ w_ h_ => ⟨_, h_.1, (congrArg Value.bool d18), h_.2⟩)) ?_
          rintro _ w66 ⟨rfl, k67⟩
          have B68 := B10.all k67 Apart.none
          have B69 := B11.all k67 Apart.none
          have B70 := B12.all k67 Apart.none
          have B71 := B4.all k67 id
          have K72 := K13.trans k67 (fun _ _ x => x.elim)
          refine wl_v (.bool false) rfl rfl (y_not rfl rfl rfl ⟨rfl, rfl⟩) ?_
          refine wl_v (.bool false) rfl rfl (y_mov rfl rfl ⟨rfl, rfl⟩) ?_
          refine wl_vw (.pointer (some ⟨p1, 1, none⟩)) 4 false 7 rfl rfl rfl rfl rfl (y_fieldR (n := 1) rfl s17 Try.underlying25 rfl (by kernel_rfl) (by decide) rfl ⟨rfl, rfl⟩) ?_
          refine wl_vw (.int .i64 ((f).H)) 4 false 7 rfl rfl rfl rfl rfl (y_ld_stc rfl rfl Try.underlying3 B71 rfl rfl ⟨rfl, rfl⟩) ?_
          refine wl_callw (R := fun v_ w_ => v_ = .bool true ∧ Kept (fun _ => False) w66 w_) 4 false 7 rfl rfl rfl rfl rfl (y_cs rfl rfl rfl (fun _ _ => by kernel_rfl) (ev_func _) (vsC rfl vsN) (fref_side ((f).H)  _   ) (fun e_ w_ h_ => ⟨_, h_.1, (congrArg Value.bool d19), h_.2⟩)) ?_
          rintro _ w73 ⟨rfl, k74⟩
          have B75 := B68.all k74 Apart.none
          have B76 := B69.all k74 Apart.none
          have B77 := B70.all k74 Apart.none
          have B78 := B71.all k74 id
          have K79 := K72.trans k74 (fun _ _ x => x.elim)
          refine wl_vw (.bool false) 4 false 7 rfl rfl rfl rfl rfl (y_not rfl rfl rfl ⟨rfl, rfl⟩) ?_
          refine wl_v (.bool false) rfl rfl (y_pickF rfl rfl rfl ⟨rfl, rfl⟩) ?_
          refine wl_v (.bool false) rfl rfl (y_mov rfl rfl ⟨rfl, rfl⟩) ?_
          refine wl_vw (.pointer (some ⟨p1, 2, none⟩)) 10 false 13 rfl rfl rfl rfl rfl (y_fieldR (n := 3) rfl s17 Try.underlying25 rfl (by kernel_rfl) (by decide) rfl ⟨rfl, rfl⟩) ?_
          refine wl_vw (.pointer (some ⟨p1, 2, none⟩)) 10 false 13 rfl rfl rfl rfl rfl (y_atR (0) (s := 1) rfl rfl rfl (by omega) Try.underlying23 (by omega) (by kernel_rfl) (by omega) ⟨rfl, rfl⟩) ?_
          refine wl_vw (f0) 10 false 13 rfl rfl rfl rfl rfl (y_ld_stc rfl rfl Try.underlying22 B78 rfl rfl ⟨rfl, rfl⟩) ?_
          refine wl_vw (.int .i64 (((((f).p0).length : Nat) : Int))) 10 false 13 rfl rfl rfl rfl rfl (y_lenV rfl rfl rfl B75 ⟨rfl, rfl⟩) ?_
          refine wl_vw (.pointer (some ⟨p1, 0, none⟩)) 10 false 13 rfl rfl rfl rfl rfl (y_fieldR (n := 1) rfl s17 Try.underlying25 rfl (by kernel_rfl) (by decide) rfl ⟨rfl, rfl⟩) ?_
          refine wl_vw (.int .i64 ((f).W)) 10 false 13 rfl rfl rfl rfl rfl (y_ld_stc rfl rfl Try.underlying3 B78 rfl rfl ⟨rfl, rfl⟩) ?_
          refine wl_vw (.pointer (some ⟨p1, 1, none⟩)) 10 false 13 rfl rfl rfl rfl rfl (y_fieldR (n := 1) rfl s17 Try.underlying25 rfl (by kernel_rfl) (by decide) rfl ⟨rfl, rfl⟩) ?_
          refine wl_vw (.int .i64 ((f).H)) 10 false 13 rfl rfl rfl rfl rfl (y_ld_stc rfl rfl Try.underlying3 B78 rfl rfl ⟨rfl, rfl⟩) ?_
          refine wl_vw (.int .i64 ((f).W * (f).H)) 10 false 13 rfl rfl rfl rfl rfl (y_mul rfl rfl rfl (i64_i rfl (by have h := hmul (by assumption) (by assumption); omega)) ⟨rfl, rfl⟩) ?_
          refine wl_vw (.bool false) 10 false 13 rfl rfl rfl rfl rfl (y_neqI rfl rfl rfl (decide_eq_false d20) ⟨rfl, rfl⟩) ?_
          refine wl_v (.bool false) rfl rfl (y_pickF rfl rfl rfl ⟨rfl, rfl⟩) ?_
          refine wl_v (.bool false) rfl rfl (y_mov rfl rfl ⟨rfl, rfl⟩) ?_
          refine wl_vw (.pointer (some ⟨p1, 2, none⟩)) 22 false 25 rfl rfl rfl rfl rfl (y_fieldR (n := 3) rfl s17 Try.underlying25 rfl (by kernel_rfl) (by decide) rfl ⟨rfl, rfl⟩) ?_
          refine wl_vw (.pointer (some ⟨p1, 3, none⟩)) 22 false 25 rfl rfl rfl rfl rfl (y_atR (1) (s := 1) rfl rfl rfl (by omega) Try.underlying23 (by omega) (by kernel_rfl) (by omega) ⟨rfl, rfl⟩) ?_
          refine wl_vw (f1) 22 false 25 rfl rfl rfl rfl rfl (y_ld_stc rfl rfl Try.underlying22 B78 rfl rfl ⟨rfl, rfl⟩) ?_
          refine wl_vw (.int .i64 (((((f).p1).length : Nat) : Int))) 22 false 25 rfl rfl rfl rfl rfl (y_lenV rfl rfl rfl B76 ⟨rfl, rfl⟩) ?_
          refine wl_vw (.pointer (some ⟨p1, 0, none⟩)) 22 false 25 rfl rfl rfl rfl rfl (y_fieldR (n := 1) rfl s17 Try.underlying25 rfl (by kernel_rfl) (by decide) rfl ⟨rfl, rfl⟩) ?_
          refine wl_vw (.int .i64 ((f).W)) 22 false 25 rfl rfl rfl rfl rfl (y_ld_stc rfl rfl Try.underlying3 B78 rfl rfl ⟨rfl, rfl⟩) ?_
          refine wl_vw (.pointer (some ⟨p1, 1, none⟩)) 22 false 25 rfl rfl rfl rfl rfl (y_fieldR (n := 1) rfl s17 Try.underlying25 rfl (by kernel_rfl) (by decide) rfl ⟨rfl, rfl⟩) ?_
          refine wl_vw (.int .i64 ((f).H)) 22 false 25 rfl rfl rfl rfl rfl (y_ld_stc rfl rfl Try.underlying3 B78 rfl rfl ⟨rfl, rfl⟩) ?_
          refine wl_vw (.int .i64 ((f).W * (f).H)) 22 false 25 rfl rfl rfl rfl rfl (y_mul rfl rfl rfl (i64_i rfl (by have h := hmul (by assumption) (by assumption); omega)) ⟨rfl, rfl⟩) ?_
          refine wl_vw (.int .i64 (Int.tdiv ((f).W * (f).H) 4)) 22 false 25 rfl rfl rfl rfl rfl (y_quo rfl rfl rfl (by first | decide | omega) (i64_i rfl (by have h := hmul (by assumption) (by assumption); rw [tdiv4 (by omega)]; omega)) ⟨rfl, rfl⟩) ?_
          refine wl_vw (.bool false) 22 false 25 rfl rfl rfl rfl rfl (y_neqI rfl rfl rfl (decide_eq_false d43) ⟨rfl, rfl⟩) ?_
          refine wl_v (.bool false) rfl rfl (y_pickF rfl rfl rfl ⟨rfl, rfl⟩) ?_
          refine wl_v (.bool false) rfl rfl (y_mov rfl rfl ⟨rfl, rfl⟩) ?_
          refine wl_vw (.pointer (some ⟨p1, 2, none⟩)) 35 false 38 rfl rfl rfl rfl rfl (y_fieldR (n := 3) rfl s17 Try.underlying25 rfl (by kernel_rfl) (by decide) rfl ⟨rfl, rfl⟩) ?_
          refine wl_vw (.pointer (some ⟨p1, 4, none⟩)) 35 false 38 rfl rfl rfl rfl rfl (y_atR (2) (s := 1) rfl rfl rfl (by omega) Try.underlying23 (by omega) (by kernel_rfl) (by omega) ⟨rfl, rfl⟩) ?_
          refine wl_vw (f2) 35 false 38 rfl rfl rfl rfl rfl (y_ld_stc rfl rfl Try.underlying22 B78 rfl rfl ⟨rfl, rfl⟩) ?_
          refine wl_vw (.int .i64 (((((f).p2).length : Nat) : Int))) 35 false 38 rfl rfl rfl rfl rfl (y_lenV rfl rfl rfl B77 ⟨rfl, rfl⟩) ?_
          refine wl_vw (.pointer (some ⟨p1, 0, none⟩)) 35 false 38 rfl rfl rfl rfl rfl (y_fieldR (n := 1) rfl s17 Try.underlying25 rfl (by kernel_rfl) (by decide) rfl ⟨rfl, rfl⟩) ?_
          refine wl_vw (.int .i64 ((f).W)) 35 false 38 rfl rfl rfl rfl rfl (y_ld_stc rfl rfl Try.underlying3 B78 rfl rfl ⟨rfl, rfl⟩) ?_
          refine wl_vw (.pointer (some ⟨p1, 1, none⟩)) 35 false 38 rfl rfl rfl rfl rfl (y_fieldR (n := 1) rfl s17 Try.underlying25 rfl (by kernel_rfl) (by decide) rfl ⟨rfl, rfl⟩) ?_
          refine wl_vw (.int .i64 ((f).H)) 35 false 38 rfl rfl rfl rfl rfl (y_ld_stc rfl rfl Try.underlying3 B78 rfl rfl ⟨rfl, rfl⟩) ?_
          refine wl_vw (.int .i64 ((f).W * (f).H)) 35 false 38 rfl rfl rfl rfl rfl (y_mul rfl rfl rfl (i64_i rfl (by have h := hmul (by assumption) (by assumption); omega)) ⟨rfl, rfl⟩) ?_
          refine wl_vw (.int .i64 (Int.tdiv ((f).W * (f).H) 4)) 35 false 38 rfl rfl rfl rfl rfl (y_quo rfl rfl rfl (by first | decide | omega) (i64_i rfl (by have h := hmul (by assumption) (by assumption); rw [tdiv4 (by omega)]; omega)) ⟨rfl, rfl⟩) ?_
          refine wl_vw (.bool (decide ((((((f).p2).length : Nat) : Int)) ≠ (Int.tdiv ((f).W * (f).H) 4)))) 35 false 38 rfl rfl rfl rfl rfl (y_neqI rfl rfl rfl rfl ⟨rfl, rfl⟩) ?_
          refine wl_v (.bool (decide ((((((f).p2).length : Nat) : Int)) ≠ (Int.tdiv ((f).W * (f).H) 4)))) rfl rfl (y_pickF rfl rfl rfl ⟨rfl, rfl⟩) ?_
          refine wl_nil fun F80 hF81 => ?_
          have s82 : F80 51 = undef := (hF81 51).trans s16
          have s83 : F80 50 = .bool (decide ((((((f).p2).length : Nat) : Int)) ≠ (Int.tdiv ((f).W * (f).H) 4))) := (hF81 50).trans rfl
          clear hF81
          refine then_normal ?_
          refine wq_cond s83 (fun c84 => ?_) (fun c84 => ?_)
          · replace c84 := of_decide_eq_true c84
            refine wq_seq ?_
            refine wq_region ?_
            refine wl_v (.int .i64 (70)) rfl rfl (y_asg rfl rfl ⟨rfl, rfl⟩) ?_
            refine wl_nil fun F85 hF86 => ?_
            have s87 : F85 51 = undef := (hF86 51).trans s82
            have s88 : F85 2 = .int .i64 (70) := (hF86 2).trans rfl
            clear hF86
            refine then_normal ?_
            refine wq_ret ?_
            refine then_ret ?_
            exact end_tmp (v := .int .i64 (70)) s87 rfl rfl s88 ⟨(by first | rw [checkE_ok ⟨by assumption, by assumption, by first | assumption | (apply Decidable.byContradiction; assumption), by first | assumption | (apply Decidable.byContradiction; assumption), by first | assumption | (apply Decidable.byContradiction; assumption)⟩] | rw [checkE_no (by rintro ⟨h1, h2, h3, h4, h5⟩; simp_all)]), K79⟩
          · replace c84 := of_decide_eq_false c84
            refine wq_skip ?_
            refine then_normal ?_
            refine wq_seq ?_
            refine wq_region ?_
            refine wl_v (.int .i64 (0)) rfl rfl (y_asg rfl rfl ⟨rfl, rfl⟩) ?_
            refine wl_nil fun F89 hF90 => ?_
            have s91 : F89 51 = undef := (hF90 51).trans s82
            have s92 : F89 2 = .int .i64 (0) := (hF90 2).trans rfl
            clear hF90
            refine then_normal ?_
            refine wq_ret ?_
            exact end_tmp (v := .int .i64 (0)) s91 rfl rfl s92 ⟨(by first | rw [checkE_ok ⟨by assumption, by assumption, by first | assumption | (apply Decidable.byContradiction; assumption), by first | assumption | (apply Decidable.byContradiction; assumption), by first | assumption | (apply Decidable.byContradiction; assumption)⟩] | rw [checkE_no (by rintro ⟨h1, h2, h3, h4, h5⟩; simp_all)]), K79⟩
    · skip
      refine wq_region ?_
      refine wl_v (.pointer (some ⟨p1, 0, none⟩)) rfl rfl (y_fieldR (n := 1) rfl s17 Try.underlying25 rfl (by kernel_rfl) (by decide) rfl ⟨rfl, rfl⟩) ?_
      refine wl_v (.int .i64 ((f).W)) rfl rfl (y_ld_stc rfl rfl Try.underlying3 B4 rfl rfl ⟨rfl, rfl⟩) ?_
      refine wl_call (R := fun v_ w_ => v_ = .bool true ∧ Kept (fun _ => False) w2 w_) rfl rfl (y_cs rfl rfl rfl (fun _ _ => by kernel_rfl) (ev_func _) (vsC rfl vsN) (fref_side ((f).W)  _   ) (fun e_ w_ h_ => ⟨_, h_.1, (congrArg Value.bool d18), h_.2⟩)) ?_
      rintro _ w93 ⟨rfl, k94⟩
      have B95 := B10.all k94 Apart.none
      have B96 := B11.all k94 Apart.none
      have B97 := B12.all k94 Apart.none
      have B98 := B4.all k94 id
      have K99 := K13.trans k94 (fun _ _ x => x.elim)
      refine wl_v (.bool false) rfl rfl (y_not rfl rfl rfl ⟨rfl, rfl⟩) ?_
      refine wl_v (.bool false) rfl rfl (y_mov rfl rfl ⟨rfl, rfl⟩) ?_
      refine wl_vw (.pointer (some ⟨p1, 1, none⟩)) 4 false 7 rfl rfl rfl rfl rfl (y_fieldR (n := 1) rfl s17 Try.underlying25 rfl (by kernel_rfl) (by decide) rfl ⟨rfl, rfl⟩) ?_
      refine wl_vw (.int .i64 ((f).H)) 4 false 7 rfl rfl rfl rfl rfl (y_ld_stc rfl rfl Try.underlying3 B98 rfl rfl ⟨rfl, rfl⟩) ?_
      refine wl_callw (R := fun v_ w_ => v_ = .bool false ∧ Kept (fun _ => False) w93 w_) 4 false 7 rfl rfl rfl rfl rfl (y_cs rfl rfl rfl (fun _ _ => by kernel_rfl) (ev_func _) (vsC rfl vsN) (fref_side ((f).H)  _   ) (fun e_ w_ h_ => ⟨_, h_.1, (congrArg Value.bool d19), h_.2⟩)) ?_
      rintro _ w100 ⟨rfl, k101⟩
      have B102 := B95.all k101 Apart.none
      have B103 := B96.all k101 Apart.none
      have B104 := B97.all k101 Apart.none
      have B105 := B98.all k101 id
      have K106 := K99.trans k101 (fun _ _ x => x.elim)
      refine wl_vw (.bool true) 4 false 7 rfl rfl rfl rfl rfl (y_not rfl rfl rfl ⟨rfl, rfl⟩) ?_
      refine wl_v (.bool true) rfl rfl (y_pickF rfl rfl rfl ⟨rfl, rfl⟩) ?_
      refine wl_v (.bool true) rfl rfl (y_mov rfl rfl ⟨rfl, rfl⟩) ?_
      refine wl_unless 10 false 13 rfl rfl rfl (Or.inl rfl) rfl ?_
      refine wl_unless 10 false 13 rfl rfl rfl (Or.inl rfl) rfl ?_
      refine wl_unless 10 false 13 rfl rfl rfl (Or.inl rfl) rfl ?_
      refine wl_unless 10 false 13 rfl rfl rfl (Or.inl rfl) rfl ?_
      refine wl_unless 10 false 13 rfl rfl rfl (Or.inl rfl) rfl ?_
      refine wl_unless 10 false 13 rfl rfl rfl (Or.inl rfl) rfl ?_
      refine wl_unless 10 false 13 rfl rfl rfl (Or.inl rfl) rfl ?_
      refine wl_unless 10 false 13 rfl rfl rfl (Or.inl rfl) rfl ?_
      refine wl_unless 10 false 13 rfl rfl rfl (Or.inl rfl) rfl ?_
      refine wl_unless 10 false 13 rfl rfl rfl (Or.inl rfl) rfl ?_
      refine wl_v (.bool true) rfl rfl (y_pickT rfl rfl rfl ⟨rfl, rfl⟩) ?_
      refine wl_v (.bool true) rfl rfl (y_mov rfl rfl ⟨rfl, rfl⟩) ?_
      refine wl_unless 22 false 25 rfl rfl rfl (Or.inl rfl) rfl ?_
      refine wl_unless 22 false 25 rfl rfl rfl (Or.inl rfl) rfl ?_
      refine wl_unless 22 false 25 rfl rfl rfl (Or.inl rfl) rfl ?_
      refine wl_unless 22 false 25 rfl rfl rfl (Or.inl rfl) rfl ?_
      refine wl_unless 22 false 25 rfl rfl rfl (Or.inl rfl) rfl ?_
      refine wl_unless 22 false 25 rfl rfl rfl (Or.inl rfl) rfl ?_
      refine wl_unless 22 false 25 rfl rfl rfl (Or.inl rfl) rfl ?_
      refine wl_unless 22 false 25 rfl rfl rfl (Or.inl rfl) rfl ?_
      refine wl_unless 22 false 25 rfl rfl rfl (Or.inl rfl) rfl ?_
      refine wl_unless 22 false 25 rfl rfl rfl (Or.inl rfl) rfl ?_
      refine wl_unless 22 false 25 rfl rfl rfl (Or.inl rfl) rfl ?_
      refine wl_v (.bool true) rfl rfl (y_pickT rfl rfl rfl ⟨rfl, rfl⟩) ?_
      refine wl_v (.bool true) rfl rfl (y_mov rfl rfl ⟨rfl, rfl⟩) ?_
      refine wl_unless 35 false 38 rfl rfl rfl (Or.inl rfl) rfl ?_
      refine wl_unless 35 false 38 rfl rfl rfl (Or.inl rfl) rfl ?_
      refine wl_unless 35 false 38 rfl rfl rfl (Or.inl rfl) rfl ?_
      refine wl_unless 35 false 38 rfl rfl rfl (Or.inl rfl) rfl ?_
      refine wl_unless 35 false 38 rfl rfl rfl (Or.inl rfl) rfl ?_
      refine wl_unless 35 false 38 rfl rfl rfl (Or.inl rfl) rfl ?_
      refine wl_unless 35 false 38 rfl rfl rfl (Or.inl rfl) rfl ?_
      refine wl_unless 35 false 38 rfl rfl rfl (Or.inl rfl) rfl ?_
      refine wl_unless 35 false 38 rfl rfl rfl (Or.inl rfl) rfl ?_
      refine wl_unless 35 false 38 rfl rfl rfl (Or.inl rfl) rfl ?_
      refine wl_unless 35 false 38 rfl rfl rfl (Or.inl rfl) rfl ?_
      refine wl_v (.bool true) rfl rfl (y_pickT rfl rfl rfl ⟨rfl, rfl⟩) ?_
      refine wl_nil fun F107 hF108 => ?_
      have s109 : F107 51 = undef := (hF108 51).trans s16
      have s110 : F107 50 = .bool true := (hF108 50).trans rfl
      clear hF108
      refine then_normal ?_
      refine wq_cond (t := true) s110 (fun _ => ?_) (fun e => by cases e)
      refine wq_seq ?_
      refine wq_region ?_
      refine wl_v (.int .i64 (70)) rfl rfl (y_asg rfl rfl ⟨rfl, rfl⟩) ?_
      refine wl_nil fun F111 hF112 => ?_
      have s113 : F111 51 = undef := (hF112 51).trans s109
      have s114 : F111 2 = .int .i64 (70) := (hF112 2).trans rfl
      clear hF112
      refine then_normal ?_
      refine wq_ret ?_
      refine then_ret ?_
      exact end_tmp (v := .int .i64 (70)) s113 rfl rfl s114 ⟨(by first | rw [checkE_ok ⟨by assumption, by assumption, by first | assumption | (apply Decidable.byContradiction; assumption), by first | assumption | (apply Decidable.byContradiction; assumption), by first | assumption | (apply Decidable.byContradiction; assumption)⟩] | rw [checkE_no (by rintro ⟨h1, h2, h3, h4, h5⟩; simp_all)]), K106⟩
  · skip
    refine wq_region ?_
    refine wl_v (.pointer (some ⟨p1, 0, none⟩)) rfl rfl (y_fieldR (n := 1) rfl s17 Try.underlying25 rfl (by kernel_rfl) (by decide) rfl ⟨rfl, rfl⟩) ?_
    refine wl_v (.int .i64 ((f).W)) rfl rfl (y_ld_stc rfl rfl Try.underlying3 B4 rfl rfl ⟨rfl, rfl⟩) ?_
    refine wl_call (R := fun v_ w_ => v_ = .bool false ∧ Kept (fun _ => False) w2 w_) rfl rfl (y_cs rfl rfl rfl (fun _ _ => by kernel_rfl) (ev_func _) (vsC rfl vsN) (fref_side ((f).W)  _   ) (fun e_ w_ h_ => ⟨_, h_.1, (congrArg Value.bool d18), h_.2⟩)) ?_
    rintro _ w115 ⟨rfl, k116⟩
    have B117 := B10.all k116 Apart.none
    have B118 := B11.all k116 Apart.none
    have B119 := B12.all k116 Apart.none
    have B120 := B4.all k116 id
    have K121 := K13.trans k116 (fun _ _ x => x.elim)
    refine wl_v (.bool true) rfl rfl (y_not rfl rfl rfl ⟨rfl, rfl⟩) ?_
    refine wl_v (.bool true) rfl rfl (y_mov rfl rfl ⟨rfl, rfl⟩) ?_
    refine wl_unless 4 false 7 rfl rfl rfl (Or.inl rfl) rfl ?_
    refine wl_unless 4 false 7 rfl rfl rfl (Or.inl rfl) rfl ?_
    refine wl_unless 4 false 7 rfl rfl rfl (Or.inl rfl) rfl ?_
    refine wl_unless 4 false 7 rfl rfl rfl (Or.inl rfl) rfl ?_
    refine wl_v (.bool true) rfl rfl (y_pickT rfl rfl rfl ⟨rfl, rfl⟩) ?_
    refine wl_v (.bool true) rfl rfl (y_mov rfl rfl ⟨rfl, rfl⟩) ?_
    refine wl_unless 10 false 13 rfl rfl rfl (Or.inl rfl) rfl ?_
    refine wl_unless 10 false 13 rfl rfl rfl (Or.inl rfl) rfl ?_
    refine wl_unless 10 false 13 rfl rfl rfl (Or.inl rfl) rfl ?_
    refine wl_unless 10 false 13 rfl rfl rfl (Or.inl rfl) rfl ?_
    refine wl_unless 10 false 13 rfl rfl rfl (Or.inl rfl) rfl ?_
    refine wl_unless 10 false 13 rfl rfl rfl (Or.inl rfl) rfl ?_
    refine wl_unless 10 false 13 rfl rfl rfl (Or.inl rfl) rfl ?_
    refine wl_unless 10 false 13 rfl rfl rfl (Or.inl rfl) rfl ?_
    refine wl_unless 10 false 13 rfl rfl rfl (Or.inl rfl) rfl ?_
    refine wl_unless 10 false 13 rfl rfl rfl (Or.inl rfl) rfl ?_
    refine wl_v (.bool true) rfl rfl (y_pickT rfl rfl rfl ⟨rfl, rfl⟩) ?_
    refine wl_v (.bool true) rfl rfl (y_mov rfl rfl ⟨rfl, rfl⟩) ?_
    refine wl_unless 22 false 25 rfl rfl rfl (Or.inl rfl) rfl ?_
    refine wl_unless 22 false 25 rfl rfl rfl (Or.inl rfl) rfl ?_
    refine wl_unless 22 false 25 rfl rfl rfl (Or.inl rfl) rfl ?_
    refine wl_unless 22 false 25 rfl rfl rfl (Or.inl rfl) rfl ?_
    refine wl_unless 22 false 25 rfl rfl rfl (Or.inl rfl) rfl ?_
    refine wl_unless 22 false 25 rfl rfl rfl (Or.inl rfl) rfl ?_
    refine wl_unless 22 false 25 rfl rfl rfl (Or.inl rfl) rfl ?_
    refine wl_unless 22 false 25 rfl rfl rfl (Or.inl rfl) rfl ?_
    refine wl_unless 22 false 25 rfl rfl rfl (Or.inl rfl) rfl ?_
    refine wl_unless 22 false 25 rfl rfl rfl (Or.inl rfl) rfl ?_
    refine wl_unless 22 false 25 rfl rfl rfl (Or.inl rfl) rfl ?_
    refine wl_v (.bool true) rfl rfl (y_pickT rfl rfl rfl ⟨rfl, rfl⟩) ?_
    refine wl_v (.bool true) rfl rfl (y_mov rfl rfl ⟨rfl, rfl⟩) ?_
    refine wl_unless 35 false 38 rfl rfl rfl (Or.inl rfl) rfl ?_
    refine wl_unless 35 false 38 rfl rfl rfl (Or.inl rfl) rfl ?_
    refine wl_unless 35 false 38 rfl rfl rfl (Or.inl rfl) rfl ?_
    refine wl_unless 35 false 38 rfl rfl rfl (Or.inl rfl) rfl ?_
    refine wl_unless 35 false 38 rfl rfl rfl (Or.inl rfl) rfl ?_
    refine wl_unless 35 false 38 rfl rfl rfl (Or.inl rfl) rfl ?_
    refine wl_unless 35 false 38 rfl rfl rfl (Or.inl rfl) rfl ?_
    refine wl_unless 35 false 38 rfl rfl rfl (Or.inl rfl) rfl ?_
    refine wl_unless 35 false 38 rfl rfl rfl (Or.inl rfl) rfl ?_
    refine wl_unless 35 false 38 rfl rfl rfl (Or.inl rfl) rfl ?_
    refine wl_unless 35 false 38 rfl rfl rfl (Or.inl rfl) rfl ?_
    refine wl_v (.bool true) rfl rfl (y_pickT rfl rfl rfl ⟨rfl, rfl⟩) ?_
    refine wl_nil fun F122 hF123 => ?_
    have s124 : F122 51 = undef := (hF123 51).trans s16
    have s125 : F122 50 = .bool true := (hF123 50).trans rfl
    clear hF123
    refine then_normal ?_
    refine wq_cond (t := true) s125 (fun _ => ?_) (fun e => by cases e)
    refine wq_seq ?_
    refine wq_region ?_
    refine wl_v (.int .i64 (70)) rfl rfl (y_asg rfl rfl ⟨rfl, rfl⟩) ?_
    refine wl_nil fun F126 hF127 => ?_
    have s128 : F126 51 = undef := (hF127 51).trans s124
    have s129 : F126 2 = .int .i64 (70) := (hF127 2).trans rfl
    clear hF127
    refine then_normal ?_
    refine wq_ret ?_
    refine then_ret ?_
    exact end_tmp (v := .int .i64 (70)) s128 rfl rfl s129 ⟨(by first | rw [checkE_ok ⟨by assumption, by assumption, by first | assumption | (apply Decidable.byContradiction; assumption), by first | assumption | (apply Decidable.byContradiction; assumption), by first | assumption | (apply Decidable.byContradiction; assumption)⟩] | rw [checkE_no (by rintro ⟨h1, h2, h3, h4, h5⟩; simp_all)]), K121⟩

set_option maxHeartbeats 4000000 in
set_option maxRecDepth 100000 in
theorem fref_size (p : Int) (f : FD) (f0 f1 f2 : Value) (T_f0 : Nat → Prop) (T_f1 : Nat → Prop) (T_f2 : Nat → Prop) (w0 : World) (h_f0 : Byt w0 T_f0 f0 ((f).p0)) (h_f1 : Byt w0 T_f1 f1 ((f).p1)) (h_f2 : Byt w0 T_f2 f2 ((f).p2)) :
    Calls Try.prog 50 #[.agg #[.int .i64 ((f).W), .int .i64 ((f).H), f0, f1, f2], .int .i64 (p)] w0 fun e w' => e = .returned (.tuple #[.int .i64 ((sizeF f p).1), .int .i64 ((sizeF f p).2)]) ∧ Kept (fun _ => False) w0 w' := by
  refine calls_wq (args := [.agg #[.int .i64 ((f).W), .int .i64 ((f).H), f0, f1, f2], .int .i64 (p)]) 29 Try.func50 rfl rfl (Nat.le_of_ble_eq_true rfl) ?_
  have K0 := Kept.refl (fun _ => False) w0
  have g_f0 := Grew.refl w0 T_f0
  have g_f1 := Grew.refl w0 T_f1
  have g_f2 := Grew.refl w0 T_f2
  refine wq_seq ?_
  refine wq_region ?_
  refine wl_box_stc (vs := [.int .i64 ((f).W), .int .i64 ((f).H), f0, f1, f2]) rfl rfl rfl rfl fun p1 w2 B4 g5 k3 => ?_
  have gr6 : Grew w0 noB (onB p1) := Grew.new K0 g5
  have ap7 : Apart (onB p1) (T_f0) := Apart.new g5 (h_f0).live
  have ap8 : Apart (onB p1) (T_f1) := Apart.new g5 (h_f1).live
  have ap9 : Apart (onB p1) (T_f2) := Apart.new g5 (h_f2).live
  have B10 := h_f0.all k3 Apart.none
  have B11 := h_f1.all k3 Apart.none
  have B12 := h_f2.all k3 Apart.none
  have K13 := K0.trans k3 (fun _ _ x => x.elim)
  refine wl_v (.int .i64 (0)) rfl rfl (y_asg rfl rfl ⟨rfl, rfl⟩) ?_
  refine wl_v (.int .i64 (0)) rfl rfl (y_asg rfl rfl ⟨rfl, rfl⟩) ?_
  refine wl_nil fun F14 hF15 => ?_
  have s16 : F14 1 = .int .i64 (p) := (hF15 1).trans rfl
  have s17 : F14 29 = undef := (hF15 29).trans rfl
  have s18 : F14 2 = .pointer (some ⟨p1, 0, none⟩) := (hF15 2).trans rfl
  clear hF15
  refine then_normal ?_
  refine wq_seq ?_
  refine wq_seq ?_
  by_cases d19 : (checkE (f)) ≠ (0)
  · skip
    refine wq_region ?_
    refine wl_v (.agg #[.int .i64 ((f).W), .int .i64 ((f).H), f0, f1, f2]) rfl rfl (y_load_stc stcT_frame rfl s18 B4 ⟨rfl, rfl⟩) ?_
    refine wl_call (R := fun v_ w_ => v_ = .int .i64 (checkE (f)) ∧ Kept (fun _ => False) w2 w_) rfl rfl (y_cs rfl rfl rfl (fun _ _ => by kernel_rfl) (ev_func _) (vsC rfl vsN) (fref_check (f) (f0) (f1) (f2) (T_f0) (T_f1) (T_f2) _  B10 B11 B12 ) (fun e_ w_ h_ => ⟨_, h_.1, rfl, h_.2⟩)) ?_
    rintro _ w20 ⟨rfl, k21⟩
    have B22 := B10.all k21 Apart.none
    have B23 := B11.all k21 Apart.none
    have B24 := B12.all k21 Apart.none
    have B25 := B4.all k21 id
    have K26 := K13.trans k21 (fun _ _ x => x.elim)
    refine wl_v (.bool true) rfl rfl (y_neqI rfl rfl rfl (decide_eq_true d19) ⟨rfl, rfl⟩) ?_
    refine wl_v (.bool true) rfl rfl (y_mov rfl rfl ⟨rfl, rfl⟩) ?_
    refine wl_unless 3 false 9 rfl rfl rfl (Or.inl rfl) rfl ?_
    refine wl_unless 3 false 9 rfl rfl rfl (Or.inl rfl) rfl ?_
    refine wl_v (.bool true) rfl rfl (y_pickT rfl rfl rfl ⟨rfl, rfl⟩) ?_
    refine wl_v (.bool true) rfl rfl (y_mov rfl rfl ⟨rfl, rfl⟩) ?_
    refine wl_unless 7 false 13 rfl rfl rfl (Or.inl rfl) rfl ?_
    refine wl_unless 7 false 13 rfl rfl rfl (Or.inl rfl) rfl ?_
    refine wl_v (.bool true) rfl rfl (y_pickT rfl rfl rfl ⟨rfl, rfl⟩) ?_
    refine wl_nil fun F27 hF28 => ?_
    have s29 : F27 1 = .int .i64 (p) := (hF28 1).trans s16
    have s30 : F27 29 = undef := (hF28 29).trans s17
    have s31 : F27 2 = .pointer (some ⟨p1, 0, none⟩) := (hF28 2).trans s18
    have s32 : F27 16 = .bool true := (hF28 16).trans rfl
    clear hF28
    refine then_normal ?_
    refine wq_cond (t := true) s32 (fun _ => ?_) (fun e => by cases e)
    refine wq_seq ?_
    refine wq_region ?_
    refine wl_v (.int .i64 (0)) rfl rfl (y_asg rfl rfl ⟨rfl, rfl⟩) ?_
    refine wl_v (.int .i64 (0)) rfl rfl (y_asg rfl rfl ⟨rfl, rfl⟩) ?_
    refine wl_nil fun F33 hF34 => ?_
    have s35 : F33 29 = undef := (hF34 29).trans s30
    have s36 : F33 4 = .int .i64 (0) := (hF34 4).trans rfl
    have s37 : F33 5 = .int .i64 (0) := (hF34 5).trans rfl
    clear hF34
    refine then_normal ?_
    refine wq_ret ?_
    refine then_ret ?_
    exact end_2 s35 rfl (res_tmp (v := .int .i64 (0)) rfl s36) (res_tmp (v := .int .i64 (0)) rfl s37) ⟨(by first | rw [sizeF_first hok (by omega)] | rw [sizeF_other hok (by omega) (by omega) (by omega)] | rw [sizeF_no (by rintro ⟨h1, h2, h3⟩; first | exact absurd ((checkE_iff f).2 h1) (by assumption) | omega)]), K26⟩
  · skip
    by_cases d38 : (p) < (0)
    · skip
      refine wq_region ?_
      refine wl_v (.agg #[.int .i64 ((f).W), .int .i64 ((f).H), f0, f1, f2]) rfl rfl (y_load_stc stcT_frame rfl s18 B4 ⟨rfl, rfl⟩) ?_
      refine wl_call (R := fun v_ w_ => v_ = .int .i64 (checkE (f)) ∧ Kept (fun _ => False) w2 w_) rfl rfl (y_cs rfl rfl rfl (fun _ _ => by kernel_rfl) (ev_func _) (vsC rfl vsN) (fref_check (f) (f0) (f1) (f2) (T_f0) (T_f1) (T_f2) _  B10 B11 B12 ) (fun e_ w_ h_ => ⟨_, h_.1, rfl, h_.2⟩)) ?_
      rintro _ w39 ⟨rfl, k40⟩
      have B41 := B10.all k40 Apart.none
      have B42 := B11.all k40 Apart.none
      have B43 := B12.all k40 Apart.none
      have B44 := B4.all k40 id
      have K45 := K13.trans k40 (fun _ _ x => x.elim)
      refine wl_v (.bool false) rfl rfl (y_neqI rfl rfl rfl (decide_eq_false d19) ⟨rfl, rfl⟩) ?_
      refine wl_v (.bool false) rfl rfl (y_mov rfl rfl ⟨rfl, rfl⟩) ?_
      refine wl_vw (.int .i64 (p)) 3 false 9 rfl rfl rfl rfl rfl (y_mov rfl s16 ⟨rfl, rfl⟩) ?_
      refine wl_vw (.bool true) 3 false 9 rfl rfl rfl rfl rfl (y_lss rfl rfl rfl (decide_eq_true d38) ⟨rfl, rfl⟩) ?_
      refine wl_v (.bool true) rfl rfl (y_pickF rfl rfl rfl ⟨rfl, rfl⟩) ?_
      refine wl_v (.bool true) rfl rfl (y_mov rfl rfl ⟨rfl, rfl⟩) ?_
      refine wl_unless 7 false 13 rfl rfl rfl (Or.inl rfl) rfl ?_
      refine wl_unless 7 false 13 rfl rfl rfl (Or.inl rfl) rfl ?_
      refine wl_v (.bool true) rfl rfl (y_pickT rfl rfl rfl ⟨rfl, rfl⟩) ?_
      refine wl_nil fun F46 hF47 => ?_
      have s48 : F46 1 = .int .i64 (p) := (hF47 1).trans s16
      have s49 : F46 29 = undef := (hF47 29).trans s17
      have s50 : F46 2 = .pointer (some ⟨p1, 0, none⟩) := (hF47 2).trans s18
      have s51 : F46 16 = .bool true := (hF47 16).trans rfl
      clear hF47
      refine then_normal ?_
      refine wq_cond (t := true) s51 (fun _ => ?_) (fun e => by cases e)
      refine wq_seq ?_
      refine wq_region ?_
      refine wl_v (.int .i64 (0)) rfl rfl (y_asg rfl rfl ⟨rfl, rfl⟩) ?_
      refine wl_v (.int .i64 (0)) rfl rfl (y_asg rfl rfl ⟨rfl, rfl⟩) ?_
      refine wl_nil fun F52 hF53 => ?_
      have s54 : F52 29 = undef := (hF53 29).trans s49
      have s55 : F52 4 = .int .i64 (0) := (hF53 4).trans rfl
      have s56 : F52 5 = .int .i64 (0) := (hF53 5).trans rfl
      clear hF53
      refine then_normal ?_
      refine wq_ret ?_
      refine then_ret ?_
      exact end_2 s54 rfl (res_tmp (v := .int .i64 (0)) rfl s55) (res_tmp (v := .int .i64 (0)) rfl s56) ⟨(by first | rw [sizeF_first hok (by omega)] | rw [sizeF_other hok (by omega) (by omega) (by omega)] | rw [sizeF_no (by rintro ⟨h1, h2, h3⟩; first | exact absurd ((checkE_iff f).2 h1) (by assumption) | omega)]), K45⟩
    · skip
      refine wq_region ?_
      refine wl_v (.agg #[.int .i64 ((f).W), .int .i64 ((f).H), f0, f1, f2]) rfl rfl (y_load_stc stcT_frame rfl s18 B4 ⟨rfl, rfl⟩) ?_
      refine wl_call (R := fun v_ w_ => v_ = .int .i64 (checkE (f)) ∧ Kept (fun _ => False) w2 w_) rfl rfl (y_cs rfl rfl rfl (fun _ _ => by kernel_rfl) (ev_func _) (vsC rfl vsN) (fref_check (f) (f0) (f1) (f2) (T_f0) (T_f1) (T_f2) _  B10 B11 B12 ) (fun e_ w_ h_ => ⟨_, h_.1, rfl, h_.2⟩)) ?_
      rintro _ w57 ⟨rfl, k58⟩
      have B59 := B10.all k58 Apart.none
      have B60 := B11.all k58 Apart.none
      have B61 := B12.all k58 Apart.none
      have B62 := B4.all k58 id
      have K63 := K13.trans k58 (fun _ _ x => x.elim)
      refine wl_v (.bool false) rfl rfl (y_neqI rfl rfl rfl (decide_eq_false d19) ⟨rfl, rfl⟩) ?_
      refine wl_v (.bool false) rfl rfl (y_mov rfl rfl ⟨rfl, rfl⟩) ?_
      refine wl_vw (.int .i64 (p)) 3 false 9 rfl rfl rfl rfl rfl (y_mov rfl s16 ⟨rfl, rfl⟩) ?_
      refine wl_vw (.bool false) 3 false 9 rfl rfl rfl rfl rfl (y_lss rfl rfl rfl (decide_eq_false d38) ⟨rfl, rfl⟩) ?_
      refine wl_v (.bool false) rfl rfl (y_pickF rfl rfl rfl ⟨rfl, rfl⟩) ?_
      refine wl_v (.bool false) rfl rfl (y_mov rfl rfl ⟨rfl, rfl⟩) ?_
      refine wl_vw (.int .i64 (p)) 7 false 13 rfl rfl rfl rfl rfl (y_mov rfl s16 ⟨rfl, rfl⟩) ?_
      refine wl_vw (.bool (decide ((2) < (p)))) 7 false 13 rfl rfl rfl rfl rfl (y_gtr rfl rfl rfl rfl ⟨rfl, rfl⟩) ?_
      refine wl_v (.bool (decide ((2) < (p)))) rfl rfl (y_pickF rfl rfl rfl ⟨rfl, rfl⟩) ?_
      refine wl_nil fun F64 hF65 => ?_
      have s66 : F64 1 = .int .i64 (p) := (hF65 1).trans s16
      have s67 : F64 29 = undef := (hF65 29).trans s17
      have s68 : F64 2 = .pointer (some ⟨p1, 0, none⟩) := (hF65 2).trans s18
      have s69 : F64 16 = .bool (decide ((2) < (p))) := (hF65 16).trans rfl
      clear hF65
      refine then_normal ?_
      refine wq_cond s69 (fun c70 => ?_) (fun c70 => ?_)
      · replace c70 := of_decide_eq_true c70
        refine wq_seq ?_
        refine wq_region ?_
        refine wl_v (.int .i64 (0)) rfl rfl (y_asg rfl rfl ⟨rfl, rfl⟩) ?_
        refine wl_v (.int .i64 (0)) rfl rfl (y_asg rfl rfl ⟨rfl, rfl⟩) ?_
        refine wl_nil fun F71 hF72 => ?_
        have s73 : F71 29 = undef := (hF72 29).trans s67
        have s74 : F71 4 = .int .i64 (0) := (hF72 4).trans rfl
        have s75 : F71 5 = .int .i64 (0) := (hF72 5).trans rfl
        clear hF72
        refine then_normal ?_
        refine wq_ret ?_
        refine then_ret ?_
        exact end_2 s73 rfl (res_tmp (v := .int .i64 (0)) rfl s74) (res_tmp (v := .int .i64 (0)) rfl s75) ⟨(by first | rw [sizeF_first hok (by omega)] | rw [sizeF_other hok (by omega) (by omega) (by omega)] | rw [sizeF_no (by rintro ⟨h1, h2, h3⟩; first | exact absurd ((checkE_iff f).2 h1) (by assumption) | omega)]), K63⟩
      · replace c70 := of_decide_eq_false c70
        refine wq_skip ?_
        refine then_normal ?_
        refine wq_seq ?_
        refine wq_seq ?_
        refine wq_region ?_
        refine wl_v (.int .i64 (p)) rfl rfl (y_mov rfl s66 ⟨rfl, rfl⟩) ?_
        refine wl_v (.bool (decide ((p) = (0)))) rfl rfl (y_eqlI rfl rfl rfl rfl ⟨rfl, rfl⟩) ?_
        refine wl_nil fun F76 hF77 => ?_
        have s78 : F76 29 = undef := (hF77 29).trans s67
        have s79 : F76 2 = .pointer (some ⟨p1, 0, none⟩) := (hF77 2).trans s68
        have s80 : F76 18 = .bool (decide ((p) = (0))) := (hF77 18).trans rfl
        clear hF77
        refine then_normal ?_
        refine wq_cond s80 (fun c81 => ?_) (fun c81 => ?_)
        · replace c81 := of_decide_eq_true c81
          refine wq_seq ?_
          have hok := (checkE_iff f).1 (by first | assumption | (apply Decidable.byContradiction; assumption))
          refine wq_said [some 19, some 20, some 21, some 22, some 4, some 5] [Pd.eq (.pointer (some ⟨p1, 0, none⟩)), Pd.eq (.int .i64 ((f).W)), Pd.eq (.pointer (some ⟨p1, 1, none⟩)), Pd.eq (.int .i64 ((f).H)), Pd.eq (.int .i64 ((f).W)), Pd.eq (.int .i64 ((f).H))] (by kernel_rfl) (by kernel_rfl) ?_ ?_
          · refine stepsF_cons ?_ ?_
            · refine StepF.one rfl fun F_ w_ hR hout hD => ?_
              exact (y_fieldR (n := 1) rfl ((hout 2 rfl (by decide)).trans s79) Try.underlying25 rfl (by kernel_rfl) (by decide) rfl ⟨rfl, Kept.refl _ _⟩)
            refine stepsF_cons ?_ ?_
            · refine StepF.one rfl fun F_ w_ hR hout hD => ?_
              have g19 : F_ 19 = .pointer (some ⟨p1, 0, none⟩) := hD.get 0 rfl rfl rfl
              exact (y_ld_stc rfl g19 Try.underlying3 (B62.all hR id) rfl rfl ⟨rfl, Kept.refl _ _⟩)
            refine stepsF_cons ?_ ?_
            · refine StepF.one rfl fun F_ w_ hR hout hD => ?_
              exact (y_fieldR (n := 1) rfl ((hout 2 rfl (by decide)).trans s79) Try.underlying25 rfl (by kernel_rfl) (by decide) rfl ⟨rfl, Kept.refl _ _⟩)
            refine stepsF_cons ?_ ?_
            · refine StepF.one rfl fun F_ w_ hR hout hD => ?_
              have g21 : F_ 21 = .pointer (some ⟨p1, 1, none⟩) := hD.get 0 rfl rfl rfl
              exact (y_ld_stc rfl g21 Try.underlying3 (B62.all hR id) rfl rfl ⟨rfl, Kept.refl _ _⟩)
            refine stepsF_cons ?_ ?_
            · refine StepF.one rfl fun F_ w_ hR hout hD => ?_
              have g20 : F_ 20 = .int .i64 ((f).W) := hD.get 0 rfl rfl rfl
              exact (y_asg rfl g20 ⟨rfl, Kept.refl _ _⟩)
            refine stepsF_cons ?_ ?_
            · refine StepF.one rfl fun F_ w_ hR hout hD => ?_
              have g22 : F_ 22 = .int .i64 ((f).H) := hD.get 0 rfl rfl rfl
              exact (y_asg rfl g22 ⟨rfl, Kept.refl _ _⟩)
            exact stepsF_nil
          intro v82 F83 w84 k85 G86 hF87
          have B89 := B59.all k85 Apart.none
          have B90 := B60.all k85 Apart.none
          have B91 := B61.all k85 Apart.none
          have B92 := B62.all k85 id
          have K93 := K63.trans k85 (fun _ _ x => x.elim)
          have s94 : F83 29 = undef := (hF87 29).trans s78
          have s95 : F83 4 = .int .i64 ((f).W) := (hF87 4).trans (G86 4 (by decide))
          have s96 : F83 5 = .int .i64 ((f).H) := (hF87 5).trans (G86 5 (by decide))
          clear G86 hF87
          refine then_normal ?_
          refine wq_ret ?_
          refine then_ret ?_
          exact end_2 s94 rfl (res_tmp (v := .int .i64 ((f).W)) rfl s95) (res_tmp (v := .int .i64 ((f).H)) rfl s96) ⟨(by first | rw [sizeF_first hok (by omega)] | rw [sizeF_other hok (by omega) (by omega) (by omega)] | rw [sizeF_no (by rintro ⟨h1, h2, h3⟩; first | exact absurd ((checkE_iff f).2 h1) (by assumption) | omega)]), K93⟩
        · replace c81 := of_decide_eq_false c81
          refine wq_skip ?_
          refine then_normal ?_
          refine wq_seq ?_
          have hok := (checkE_iff f).1 (by first | assumption | (apply Decidable.byContradiction; assumption))
          have hws := (sideB_iff _).1 hok.1
          have hhs := (sideB_iff _).1 hok.2.1
          refine wq_said [some 23, some 24, some 25, some 26, some 27, some 28, some 4, some 5] [Pd.eq (.pointer (some ⟨p1, 0, none⟩)), Pd.eq (.int .i64 ((f).W)), Pd.eq (.int .i64 (Int.tdiv (f).W 2)), Pd.eq (.pointer (some ⟨p1, 1, none⟩)), Pd.eq (.int .i64 ((f).H)), Pd.eq (.int .i64 (Int.tdiv (f).H 2)), Pd.eq (.int .i64 (Int.tdiv (f).W 2)), Pd.eq (.int .i64 (Int.tdiv (f).H 2))] (by kernel_rfl) (by kernel_rfl) ?_ ?_
          · refine stepsF_cons ?_ ?_
            · refine StepF.one rfl fun F_ w_ hR hout hD => ?_
              exact (y_fieldR (n := 1) rfl ((hout 2 rfl (by decide)).trans s79) Try.underlying25 rfl (by kernel_rfl) (by decide) rfl ⟨rfl, Kept.refl _ _⟩)
            refine stepsF_cons ?_ ?_
            · refine StepF.one rfl fun F_ w_ hR hout hD => ?_
              have g23 : F_ 23 = .pointer (some ⟨p1, 0, none⟩) := hD.get 0 rfl rfl rfl
              exact (y_ld_stc rfl g23 Try.underlying3 (B62.all hR id) rfl rfl ⟨rfl, Kept.refl _ _⟩)
            refine stepsF_cons ?_ ?_
            · refine StepF.one rfl fun F_ w_ hR hout hD => ?_
              have g24 : F_ 24 = .int .i64 ((f).W) := hD.get 0 rfl rfl rfl
              exact (y_quo rfl g24 rfl (by first | decide | omega) (i64_i rfl (by rw [tdiv2 (by omega)]; omega)) ⟨rfl, Kept.refl _ _⟩)
            refine stepsF_cons ?_ ?_
            · refine StepF.one rfl fun F_ w_ hR hout hD => ?_
              exact (y_fieldR (n := 1) rfl ((hout 2 rfl (by decide)).trans s79) Try.underlying25 rfl (by kernel_rfl) (by decide) rfl ⟨rfl, Kept.refl _ _⟩)
            refine stepsF_cons ?_ ?_
            · refine StepF.one rfl fun F_ w_ hR hout hD => ?_
              have g26 : F_ 26 = .pointer (some ⟨p1, 1, none⟩) := hD.get 0 rfl rfl rfl
              exact (y_ld_stc rfl g26 Try.underlying3 (B62.all hR id) rfl rfl ⟨rfl, Kept.refl _ _⟩)
            refine stepsF_cons ?_ ?_
            · refine StepF.one rfl fun F_ w_ hR hout hD => ?_
              have g27 : F_ 27 = .int .i64 ((f).H) := hD.get 0 rfl rfl rfl
              exact (y_quo rfl g27 rfl (by first | decide | omega) (i64_i rfl (by rw [tdiv2 (by omega)]; omega)) ⟨rfl, Kept.refl _ _⟩)
            refine stepsF_cons ?_ ?_
            · refine StepF.one rfl fun F_ w_ hR hout hD => ?_
              have g25 : F_ 25 = .int .i64 (Int.tdiv (f).W 2) := hD.get 0 rfl rfl rfl
              exact (y_asg rfl g25 ⟨rfl, Kept.refl _ _⟩)
            refine stepsF_cons ?_ ?_
            · refine StepF.one rfl fun F_ w_ hR hout hD => ?_
              have g28 : F_ 28 = .int .i64 (Int.tdiv (f).H 2) := hD.get 0 rfl rfl rfl
              exact (y_asg rfl g28 ⟨rfl, Kept.refl _ _⟩)
            exact stepsF_nil
          intro v97 F98 w99 k100 G101 hF102
          have B104 := B59.all k100 Apart.none
          have B105 := B60.all k100 Apart.none
          have B106 := B61.all k100 Apart.none
          have B107 := B62.all k100 id
          have K108 := K63.trans k100 (fun _ _ x => x.elim)
          have s109 : F98 29 = undef := (hF102 29).trans s78
          have s110 : F98 4 = .int .i64 (Int.tdiv (f).W 2) := (hF102 4).trans (G101 6 (by decide))
          have s111 : F98 5 = .int .i64 (Int.tdiv (f).H 2) := (hF102 5).trans (G101 7 (by decide))
          clear G101 hF102
          refine then_normal ?_
          refine wq_ret ?_
          exact end_2 s109 rfl (res_tmp (v := .int .i64 (Int.tdiv (f).W 2)) rfl s110) (res_tmp (v := .int .i64 (Int.tdiv (f).H 2)) rfl s111) ⟨(by first | rw [sizeF_first hok (by omega)] | rw [sizeF_other hok (by omega) (by omega) (by omega)] | rw [sizeF_no (by rintro ⟨h1, h2, h3⟩; first | exact absurd ((checkE_iff f).2 h1) (by assumption) | omega)]), K108⟩

set_option maxHeartbeats 4000000 in
set_option maxRecDepth 100000 in
theorem fref_at (p x y : Int) (f : FD) (f0 f1 f2 : Value) (T_f0 : Nat → Prop) (T_f1 : Nat → Prop) (T_f2 : Nat → Prop) (w0 : World) (h_f0 : Byt w0 T_f0 f0 ((f).p0)) (h_f1 : Byt w0 T_f1 f1 ((f).p1)) (h_f2 : Byt w0 T_f2 f2 ((f).p2)) :
    Calls Try.prog 33 #[.agg #[.int .i64 ((f).W), .int .i64 ((f).H), f0, f1, f2], .int .i64 (p), .int .i64 (x), .int .i64 (y)] w0 fun e w' => e = .returned (.int .i64 (atF f p x y)) ∧ Kept (fun _ => False) w0 w' := by
  refine calls_wq (args := [.agg #[.int .i64 ((f).W), .int .i64 ((f).H), f0, f1, f2], .int .i64 (p), .int .i64 (x), .int .i64 (y)]) 39 Try.func33 rfl rfl (Nat.le_of_ble_eq_true rfl) ?_
  have K0 := Kept.refl (fun _ => False) w0
  have g_f0 := Grew.refl w0 T_f0
  have g_f1 := Grew.refl w0 T_f1
  have g_f2 := Grew.refl w0 T_f2
  refine wq_seq ?_
  refine wq_region ?_
  refine wl_box_stc (vs := [.int .i64 ((f).W), .int .i64 ((f).H), f0, f1, f2]) rfl rfl rfl rfl fun p1 w2 B4 g5 k3 => ?_
  have gr6 : Grew w0 noB (onB p1) := Grew.new K0 g5
  have ap7 : Apart (onB p1) (T_f0) := Apart.new g5 (h_f0).live
  have ap8 : Apart (onB p1) (T_f1) := Apart.new g5 (h_f1).live
  have ap9 : Apart (onB p1) (T_f2) := Apart.new g5 (h_f2).live
  have B10 := h_f0.all k3 Apart.none
  have B11 := h_f1.all k3 Apart.none
  have B12 := h_f2.all k3 Apart.none
  have K13 := K0.trans k3 (fun _ _ x => x.elim)
  refine wl_v (.int .i64 (0)) rfl rfl (y_asg rfl rfl ⟨rfl, rfl⟩) ?_
  refine wl_nil fun F14 hF15 => ?_
  have s16 : F14 1 = .int .i64 (p) := (hF15 1).trans rfl
  have s17 : F14 2 = .int .i64 (x) := (hF15 2).trans rfl
  have s18 : F14 3 = .int .i64 (y) := (hF15 3).trans rfl
  have s19 : F14 39 = undef := (hF15 39).trans rfl
  have s20 : F14 4 = .pointer (some ⟨p1, 0, none⟩) := (hF15 4).trans rfl
  clear hF15
  refine then_normal ?_
  refine wq_seq ?_
  refine wq_region ?_
  refine wl_v (.agg #[.int .i64 ((f).W), .int .i64 ((f).H), f0, f1, f2]) rfl rfl (y_load_stc stcT_frame rfl s20 B4 ⟨rfl, rfl⟩) ?_
  refine wl_v (.int .i64 (p)) rfl rfl (y_mov rfl s16 ⟨rfl, rfl⟩) ?_
  refine wl_call (R := fun v_ w_ => v_ = .tuple #[.int .i64 ((sizeF (f) (p)).1), .int .i64 ((sizeF (f) (p)).2)] ∧ Kept (fun _ => False) w2 w_) rfl rfl (y_cs rfl rfl rfl (fun _ _ => by kernel_rfl) (ev_func _) (vsC rfl (vsC rfl vsN)) (fref_size (p) (f) (f0) (f1) (f2) (T_f0) (T_f1) (T_f2) _  B10 B11 B12 ) (fun e_ w_ h_ => ⟨_, h_.1, rfl, h_.2⟩)) ?_
  rintro _ w21 ⟨rfl, k22⟩
  have B23 := B10.all k22 Apart.none
  have B24 := B11.all k22 Apart.none
  have B25 := B12.all k22 Apart.none
  have B26 := B4.all k22 id
  have K27 := K13.trans k22 (fun _ _ x => x.elim)
  refine wl_v (.tuple #[.int .i64 ((sizeF (f) (p)).1), .int .i64 ((sizeF (f) (p)).2)]) rfl rfl (y_mov rfl rfl ⟨rfl, rfl⟩) ?_
  refine wl_v (.int .i64 ((sizeF (f) (p)).1)) rfl rfl (y_ext rfl rfl rfl ⟨rfl, rfl⟩) ?_
  refine wl_v (.int .i64 ((sizeF (f) (p)).2)) rfl rfl (y_ext rfl rfl rfl ⟨rfl, rfl⟩) ?_
  refine wl_v (.int .i64 ((sizeF (f) (p)).1)) rfl rfl (y_asg rfl rfl ⟨rfl, rfl⟩) ?_
  refine wl_v (.int .i64 ((sizeF (f) (p)).2)) rfl rfl (y_asg rfl rfl ⟨rfl, rfl⟩) ?_
  refine wl_nil fun F28 hF29 => ?_
  have s30 : F28 1 = .int .i64 (p) := (hF29 1).trans s16
  have s31 : F28 2 = .int .i64 (x) := (hF29 2).trans s17
  have s32 : F28 3 = .int .i64 (y) := (hF29 3).trans s18
  have s33 : F28 39 = undef := (hF29 39).trans s19
  have s34 : F28 4 = .pointer (some ⟨p1, 0, none⟩) := (hF29 4).trans s20
  have s35 : F28 9 = .int .i64 ((sizeF (f) (p)).1) := (hF29 9).trans rfl
  have s36 : F28 10 = .int .i64 ((sizeF (f) (p)).2) := (hF29 10).trans rfl
  clear hF29
  refine then_normal ?_
  refine wq_seq ?_
  refine wq_seq ?_
  refine wq_region ?_
  refine wl_v (.int .i64 ((sizeF (f) (p)).1)) rfl rfl (y_mov rfl s35 ⟨rfl, rfl⟩) ?_
  refine wl_v (.bool (decide (((sizeF (f) (p)).1) = (0)))) rfl rfl (y_eqlI rfl rfl rfl rfl ⟨rfl, rfl⟩) ?_
  refine wl_nil fun F37 hF38 => ?_
  have s39 : F37 1 = .int .i64 (p) := (hF38 1).trans s30
  have s40 : F37 2 = .int .i64 (x) := (hF38 2).trans s31
  have s41 : F37 3 = .int .i64 (y) := (hF38 3).trans s32
  have s42 : F37 39 = undef := (hF38 39).trans s33
  have s43 : F37 4 = .pointer (some ⟨p1, 0, none⟩) := (hF38 4).trans s34
  have s44 : F37 9 = .int .i64 ((sizeF (f) (p)).1) := (hF38 9).trans s35
  have s45 : F37 10 = .int .i64 ((sizeF (f) (p)).2) := (hF38 10).trans s36
  have s46 : F37 18 = .bool (decide (((sizeF (f) (p)).1) = (0))) := (hF38 18).trans rfl
  clear hF38
  refine then_normal ?_
  refine wq_cond s46 (fun c47 => ?_) (fun c47 => ?_)
  · replace c47 := of_decide_eq_true c47
    refine wq_seq ?_
    refine wq_region ?_
    refine wl_v (.int .i64 (0)) rfl rfl (y_asg rfl rfl ⟨rfl, rfl⟩) ?_
    refine wl_nil fun F48 hF49 => ?_
    have s50 : F48 39 = undef := (hF49 39).trans s42
    have s51 : F48 8 = .int .i64 (0) := (hF49 8).trans rfl
    clear hF49
    refine then_normal ?_
    refine wq_ret ?_
    refine then_ret ?_
    exact end_tmp (v := .int .i64 (0)) s50 rfl rfl s51 ⟨(by first | rw [atF_none x y (by assumption)] | rw [atF_some x y hsz]; rfl), K27⟩
  · replace c47 := of_decide_eq_false c47
    refine wq_skip ?_
    refine then_normal ?_
    refine wq_seq ?_
    rcases (show p = 0 ∨ p = 1 ∨ p = 2 from size_cases (f := f) (by assumption)) with rfl | rfl | rfl
    · skip
      have hsz : (sizeF f 0).1 ≠ 0 := by assumption
      have hb := size_bounds f 0
      have hc := cell_bounds x y hsz
      refine wq_region ?_
      refine wl_v (.int .i64 (0)) rfl rfl (y_mov rfl s39 ⟨rfl, rfl⟩) ?_
      refine wl_v (.pointer (some ⟨p1, 2, none⟩)) rfl rfl (y_fieldR (n := 3) rfl s43 Try.underlying25 rfl (by kernel_rfl) (by decide) rfl ⟨rfl, rfl⟩) ?_
      refine wl_v (.pointer (some ⟨p1, 2, none⟩)) rfl rfl (y_atR (0) (s := 1) rfl rfl rfl (by omega) Try.underlying23 (by omega) (by kernel_rfl) (by omega) ⟨rfl, rfl⟩) ?_
      refine wl_v (f0) rfl rfl (y_ld_stc rfl rfl Try.underlying22 B26 rfl rfl ⟨rfl, rfl⟩) ?_
      refine wl_v (.int .i64 (y)) rfl rfl (y_mov rfl s41 ⟨rfl, rfl⟩) ?_
      refine wl_v (.int .i64 (max (y) (0))) rfl rfl (y_maxR rfl rfl rfl rfl ⟨rfl, rfl⟩) ?_
      refine wl_v (.int .i64 ((sizeF (f) (0)).2)) rfl rfl (y_mov rfl s45 ⟨rfl, rfl⟩) ?_
      refine wl_v (.int .i64 (((sizeF (f) (0)).2) - (1))) rfl rfl (y_sub rfl rfl rfl (i64_i rfl (by omega)) ⟨rfl, rfl⟩) ?_
      refine wl_v (.int .i64 (min (max (y) (0)) (((sizeF (f) (0)).2) - (1)))) rfl rfl (y_minR rfl rfl rfl rfl ⟨rfl, rfl⟩) ?_
      refine wl_v (.int .i64 ((sizeF (f) (0)).1)) rfl rfl (y_mov rfl s44 ⟨rfl, rfl⟩) ?_
      refine wl_v (.int .i64 (min (max y 0) ((sizeF f 0).2 - 1) * (sizeF f 0).1)) rfl rfl (y_mul rfl rfl rfl (i64_i rfl (by omega)) ⟨rfl, rfl⟩) ?_
      refine wl_v (.int .i64 (x)) rfl rfl (y_mov rfl s40 ⟨rfl, rfl⟩) ?_
      refine wl_v (.int .i64 (max (x) (0))) rfl rfl (y_maxR rfl rfl rfl rfl ⟨rfl, rfl⟩) ?_
      refine wl_v (.int .i64 ((sizeF (f) (0)).1)) rfl rfl (y_mov rfl s44 ⟨rfl, rfl⟩) ?_
      refine wl_v (.int .i64 (((sizeF (f) (0)).1) - (1))) rfl rfl (y_sub rfl rfl rfl (i64_i rfl (by omega)) ⟨rfl, rfl⟩) ?_
      refine wl_v (.int .i64 (min (max (x) (0)) (((sizeF (f) (0)).1) - (1)))) rfl rfl (y_minR rfl rfl rfl rfl ⟨rfl, rfl⟩) ?_
      refine wl_v (.int .i64 ((((cellF f 0 x y).toNat : Nat) : Int))) rfl rfl (y_add rfl rfl rfl ((i64_i rfl (by show _ ≤ cellF f 0 x y ∧ cellF f 0 x y ≤ _; omega)).trans (Int.toNat_of_nonneg (by omega)).symm) ⟨rfl, rfl⟩) ?_
      refine wl_v (bytAddr (f0) ((cellF f 0 x y).toNat)) rfl rfl (y_atB ((cellF f 0 x y).toNat) rfl rfl rfl (by omega) B23 (cell_at x y hsz) ⟨rfl, rfl⟩) ?_
      have u52 := getD_lt (B23).lt256 ((cellF f 0 x y).toNat)
      refine wl_v (.int .u8 (((((f).p0).getD ((cellF f 0 x y).toNat) 0 : Nat) : Int))) rfl rfl (y_ldB rfl rfl B23 (cell_at x y hsz) ⟨rfl, rfl⟩) ?_
      refine wl_v (.int .i64 (((((f).p0).getD ((cellF f 0 x y).toNat) 0 : Nat) : Int))) rfl rfl (y_convR rfl rfl Try.underlying5 Try.underlying3 (i64_i rfl (by omega)) ⟨rfl, rfl⟩) ?_
      refine wl_v (.int .i64 (((((f).p0).getD ((cellF f 0 x y).toNat) 0 : Nat) : Int))) rfl rfl (y_asg rfl rfl ⟨rfl, rfl⟩) ?_
      refine wl_nil fun F53 hF54 => ?_
      have s55 : F53 39 = undef := (hF54 39).trans s42
      have s56 : F53 8 = .int .i64 (((((f).p0).getD ((cellF f 0 x y).toNat) 0 : Nat) : Int)) := (hF54 8).trans rfl
      clear hF54
      refine then_normal ?_
      refine wq_ret ?_
      exact end_tmp (v := .int .i64 (((((f).p0).getD ((cellF f 0 x y).toNat) 0 : Nat) : Int))) s55 rfl rfl s56 ⟨(by first | rw [atF_none x y (by assumption)] | rw [atF_some x y hsz]; rfl), K27⟩
    · skip
      have hsz : (sizeF f 1).1 ≠ 0 := by assumption
      have hb := size_bounds f 1
      have hc := cell_bounds x y hsz
      refine wq_region ?_
      refine wl_v (.int .i64 (1)) rfl rfl (y_mov rfl s39 ⟨rfl, rfl⟩) ?_
      refine wl_v (.pointer (some ⟨p1, 2, none⟩)) rfl rfl (y_fieldR (n := 3) rfl s43 Try.underlying25 rfl (by kernel_rfl) (by decide) rfl ⟨rfl, rfl⟩) ?_
      refine wl_v (.pointer (some ⟨p1, 3, none⟩)) rfl rfl (y_atR (1) (s := 1) rfl rfl rfl (by omega) Try.underlying23 (by omega) (by kernel_rfl) (by omega) ⟨rfl, rfl⟩) ?_
      refine wl_v (f1) rfl rfl (y_ld_stc rfl rfl Try.underlying22 B26 rfl rfl ⟨rfl, rfl⟩) ?_
      refine wl_v (.int .i64 (y)) rfl rfl (y_mov rfl s41 ⟨rfl, rfl⟩) ?_
      refine wl_v (.int .i64 (max (y) (0))) rfl rfl (y_maxR rfl rfl rfl rfl ⟨rfl, rfl⟩) ?_
      refine wl_v (.int .i64 ((sizeF (f) (1)).2)) rfl rfl (y_mov rfl s45 ⟨rfl, rfl⟩) ?_
      refine wl_v (.int .i64 (((sizeF (f) (1)).2) - (1))) rfl rfl (y_sub rfl rfl rfl (i64_i rfl (by omega)) ⟨rfl, rfl⟩) ?_
      refine wl_v (.int .i64 (min (max (y) (0)) (((sizeF (f) (1)).2) - (1)))) rfl rfl (y_minR rfl rfl rfl rfl ⟨rfl, rfl⟩) ?_
      refine wl_v (.int .i64 ((sizeF (f) (1)).1)) rfl rfl (y_mov rfl s44 ⟨rfl, rfl⟩) ?_
      refine wl_v (.int .i64 (min (max y 0) ((sizeF f 1).2 - 1) * (sizeF f 1).1)) rfl rfl (y_mul rfl rfl rfl (i64_i rfl (by omega)) ⟨rfl, rfl⟩) ?_
      refine wl_v (.int .i64 (x)) rfl rfl (y_mov rfl s40 ⟨rfl, rfl⟩) ?_
      refine wl_v (.int .i64 (max (x) (0))) rfl rfl (y_maxR rfl rfl rfl rfl ⟨rfl, rfl⟩) ?_
      refine wl_v (.int .i64 ((sizeF (f) (1)).1)) rfl rfl (y_mov rfl s44 ⟨rfl, rfl⟩) ?_
      refine wl_v (.int .i64 (((sizeF (f) (1)).1) - (1))) rfl rfl (y_sub rfl rfl rfl (i64_i rfl (by omega)) ⟨rfl, rfl⟩) ?_
      refine wl_v (.int .i64 (min (max (x) (0)) (((sizeF (f) (1)).1) - (1)))) rfl rfl (y_minR rfl rfl rfl rfl ⟨rfl, rfl⟩) ?_
      refine wl_v (.int .i64 ((((cellF f 1 x y).toNat : Nat) : Int))) rfl rfl (y_add rfl rfl rfl ((i64_i rfl (by show _ ≤ cellF f 1 x y ∧ cellF f 1 x y ≤ _; omega)).trans (Int.toNat_of_nonneg (by omega)).symm) ⟨rfl, rfl⟩) ?_
      refine wl_v (bytAddr (f1) ((cellF f 1 x y).toNat)) rfl rfl (y_atB ((cellF f 1 x y).toNat) rfl rfl rfl (by omega) B24 (cell_at x y hsz) ⟨rfl, rfl⟩) ?_
      have u57 := getD_lt (B24).lt256 ((cellF f 1 x y).toNat)
      refine wl_v (.int .u8 (((((f).p1).getD ((cellF f 1 x y).toNat) 0 : Nat) : Int))) rfl rfl (y_ldB rfl rfl B24 (cell_at x y hsz) ⟨rfl, rfl⟩) ?_
      refine wl_v (.int .i64 (((((f).p1).getD ((cellF f 1 x y).toNat) 0 : Nat) : Int))) rfl rfl (y_convR rfl rfl Try.underlying5 Try.underlying3 (i64_i rfl (by omega)) ⟨rfl, rfl⟩) ?_
      refine wl_v (.int .i64 (((((f).p1).getD ((cellF f 1 x y).toNat) 0 : Nat) : Int))) rfl rfl (y_asg rfl rfl ⟨rfl, rfl⟩) ?_
      refine wl_nil fun F58 hF59 => ?_
      have s60 : F58 39 = undef := (hF59 39).trans s42
      have s61 : F58 8 = .int .i64 (((((f).p1).getD ((cellF f 1 x y).toNat) 0 : Nat) : Int)) := (hF59 8).trans rfl
      clear hF59
      refine then_normal ?_
      refine wq_ret ?_
      exact end_tmp (v := .int .i64 (((((f).p1).getD ((cellF f 1 x y).toNat) 0 : Nat) : Int))) s60 rfl rfl s61 ⟨(by first | rw [atF_none x y (by assumption)] | rw [atF_some x y hsz]; rfl), K27⟩
    · skip
      have hsz : (sizeF f 2).1 ≠ 0 := by assumption
      have hb := size_bounds f 2
      have hc := cell_bounds x y hsz
      refine wq_region ?_
      refine wl_v (.int .i64 (2)) rfl rfl (y_mov rfl s39 ⟨rfl, rfl⟩) ?_
      refine wl_v (.pointer (some ⟨p1, 2, none⟩)) rfl rfl (y_fieldR (n := 3) rfl s43 Try.underlying25 rfl (by kernel_rfl) (by decide) rfl ⟨rfl, rfl⟩) ?_
      refine wl_v (.pointer (some ⟨p1, 4, none⟩)) rfl rfl (y_atR (2) (s := 1) rfl rfl rfl (by omega) Try.underlying23 (by omega) (by kernel_rfl) (by omega) ⟨rfl, rfl⟩) ?_
      refine wl_v (f2) rfl rfl (y_ld_stc rfl rfl Try.underlying22 B26 rfl rfl ⟨rfl, rfl⟩) ?_
      refine wl_v (.int .i64 (y)) rfl rfl (y_mov rfl s41 ⟨rfl, rfl⟩) ?_
      refine wl_v (.int .i64 (max (y) (0))) rfl rfl (y_maxR rfl rfl rfl rfl ⟨rfl, rfl⟩) ?_
      refine wl_v (.int .i64 ((sizeF (f) (2)).2)) rfl rfl (y_mov rfl s45 ⟨rfl, rfl⟩) ?_
      refine wl_v (.int .i64 (((sizeF (f) (2)).2) - (1))) rfl rfl (y_sub rfl rfl rfl (i64_i rfl (by omega)) ⟨rfl, rfl⟩) ?_
      refine wl_v (.int .i64 (min (max (y) (0)) (((sizeF (f) (2)).2) - (1)))) rfl rfl (y_minR rfl rfl rfl rfl ⟨rfl, rfl⟩) ?_
      refine wl_v (.int .i64 ((sizeF (f) (2)).1)) rfl rfl (y_mov rfl s44 ⟨rfl, rfl⟩) ?_
      refine wl_v (.int .i64 (min (max y 0) ((sizeF f 2).2 - 1) * (sizeF f 2).1)) rfl rfl (y_mul rfl rfl rfl (i64_i rfl (by omega)) ⟨rfl, rfl⟩) ?_
      refine wl_v (.int .i64 (x)) rfl rfl (y_mov rfl s40 ⟨rfl, rfl⟩) ?_
      refine wl_v (.int .i64 (max (x) (0))) rfl rfl (y_maxR rfl rfl rfl rfl ⟨rfl, rfl⟩) ?_
      refine wl_v (.int .i64 ((sizeF (f) (2)).1)) rfl rfl (y_mov rfl s44 ⟨rfl, rfl⟩) ?_
      refine wl_v (.int .i64 (((sizeF (f) (2)).1) - (1))) rfl rfl (y_sub rfl rfl rfl (i64_i rfl (by omega)) ⟨rfl, rfl⟩) ?_
      refine wl_v (.int .i64 (min (max (x) (0)) (((sizeF (f) (2)).1) - (1)))) rfl rfl (y_minR rfl rfl rfl rfl ⟨rfl, rfl⟩) ?_
      refine wl_v (.int .i64 ((((cellF f 2 x y).toNat : Nat) : Int))) rfl rfl (y_add rfl rfl rfl ((i64_i rfl (by show _ ≤ cellF f 2 x y ∧ cellF f 2 x y ≤ _; omega)).trans (Int.toNat_of_nonneg (by omega)).symm) ⟨rfl, rfl⟩) ?_
      refine wl_v (bytAddr (f2) ((cellF f 2 x y).toNat)) rfl rfl (y_atB ((cellF f 2 x y).toNat) rfl rfl rfl (by omega) B25 (cell_at x y hsz) ⟨rfl, rfl⟩) ?_
      have u62 := getD_lt (B25).lt256 ((cellF f 2 x y).toNat)
      refine wl_v (.int .u8 (((((f).p2).getD ((cellF f 2 x y).toNat) 0 : Nat) : Int))) rfl rfl (y_ldB rfl rfl B25 (cell_at x y hsz) ⟨rfl, rfl⟩) ?_
      refine wl_v (.int .i64 (((((f).p2).getD ((cellF f 2 x y).toNat) 0 : Nat) : Int))) rfl rfl (y_convR rfl rfl Try.underlying5 Try.underlying3 (i64_i rfl (by omega)) ⟨rfl, rfl⟩) ?_
      refine wl_v (.int .i64 (((((f).p2).getD ((cellF f 2 x y).toNat) 0 : Nat) : Int))) rfl rfl (y_asg rfl rfl ⟨rfl, rfl⟩) ?_
      refine wl_nil fun F63 hF64 => ?_
      have s65 : F63 39 = undef := (hF64 39).trans s42
      have s66 : F63 8 = .int .i64 (((((f).p2).getD ((cellF f 2 x y).toNat) 0 : Nat) : Int)) := (hF64 8).trans rfl
      clear hF64
      refine then_normal ?_
      refine wq_ret ?_
      exact end_tmp (v := .int .i64 (((((f).p2).getD ((cellF f 2 x y).toNat) 0 : Nat) : Int))) s65 rfl rfl s66 ⟨(by first | rw [atF_none x y (by assumption)] | rw [atF_some x y hsz]; rfl), K27⟩

end Go.Proofs.Ytceoidglhakanaa
namespace Go.Proofs.Ytceoidglhakanaa

def fewF (f : FD) : Bool := decide ((f.p0.length : Int) ≤ 10000) && decide ((f.p1.length : Int) ≤ 10000) && decide ((f.p2.length : Int) ≤ 10000)
theorem fewF_0 {f : FD} (h : ¬ (f.p0.length : Int) ≤ 10000) : fewF f = false := by unfold fewF; simp only [decide_eq_false h]; rfl
theorem fewF_1 {f : FD} (h : ¬ (f.p1.length : Int) ≤ 10000) : fewF f = false := by unfold fewF; simp only [decide_eq_false h, Bool.and_false, Bool.false_and]
theorem fewF_2 {f : FD} (h0 : (f.p0.length : Int) ≤ 10000) (h1 : (f.p1.length : Int) ≤ 10000) : fewF f = decide ((f.p2.length : Int) ≤ 10000) := by unfold fewF; simp only [decide_eq_true h0, decide_eq_true h1, Bool.true_and]

def alikeF (a b : FD) : Prop := okF a ∧ okF b ∧ a.W = b.W ∧ a.H = b.H
instance (a b : FD) : Decidable (alikeF a b) := by unfold alikeF; infer_instance
def copyF (f : FD) : FD := if okF f then f else FD.none
theorem copyF_yes {f : FD} (h : okF f) : copyF f = f := if_pos h
theorem copyF_no {f : FD} (h : ¬ okF f) : copyF f = FD.none := if_neg h
def FD.setp (f : FD) (p : Int) (j n : Nat) : FD := if p = 0 then { f with p0 := f.p0.set j n } else if p = 1 then { f with p1 := f.p1.set j n } else { f with p2 := f.p2.set j n }
def byteI (n : Int) : Nat := (min (max n 0) 255).toNat
theorem byteI_lt (n : Int) : byteI n < 256 := by unfold byteI; omega
def within (w h u v : Int) : Prop := 0 ≤ u ∧ u < w ∧ 0 ≤ v ∧ v < h
instance (w h u v : Int) : Decidable (within w h u v) := by unfold within; infer_instance
def putTo (f : FD) (p x y : Int) (b : Nat → Int) : Nat → FD
  | 0 => copyF f
  | k + 1 => if within (sizeF f p).1 (sizeF f p).2 (nearI x + ((k % 4 : Nat) : Int)) (nearI y + ((k / 4 : Nat) : Int)) then
      (putTo f p x y b k).setp p ((nearI y + ((k / 4 : Nat) : Int)) * (sizeF f p).1 + (nearI x + ((k % 4 : Nat) : Int))).toNat (byteI (b k))
    else putTo f p x y b k
def putFr (f : FD) (p x y : Int) (b : Nat → Int) : FD := putTo f p x y b 16
theorem put_out {f : FD} {p x y : Int} {b : Nat → Int} {k : Nat} (h : ¬ within (sizeF f p).1 (sizeF f p).2 (nearI x + ((k % 4 : Nat) : Int)) (nearI y + ((k / 4 : Nat) : Int))) : putTo f p x y b (k + 1) = putTo f p x y b k := by rw [putTo, if_neg h]
theorem put_in {f : FD} {p x y : Int} {b : Nat → Int} {k : Nat} (h : within (sizeF f p).1 (sizeF f p).2 (nearI x + ((k % 4 : Nat) : Int)) (nearI y + ((k / 4 : Nat) : Int))) :
    putTo f p x y b (k + 1) = (putTo f p x y b k).setp p ((nearI y + ((k / 4 : Nat) : Int)) * (sizeF f p).1 + (nearI x + ((k % 4 : Nat) : Int))).toNat (byteI (b k)) := by rw [putTo, if_pos h]
theorem setp_side (f : FD) (p : Int) (j n : Nat) : (f.setp p j n).W = f.W ∧ (f.setp p j n).H = f.H ∧ (f.setp p j n).p0.length = f.p0.length ∧ (f.setp p j n).p1.length = f.p1.length ∧ (f.setp p j n).p2.length = f.p2.length := by
  unfold FD.setp
  split
  · simp
  · split <;> simp
theorem put_side (f : FD) (p x y : Int) (b : Nat → Int) (k : Nat) : (putTo f p x y b k).W = (copyF f).W ∧ (putTo f p x y b k).H = (copyF f).H ∧ (putTo f p x y b k).p0.length = (copyF f).p0.length ∧ (putTo f p x y b k).p1.length = (copyF f).p1.length ∧ (putTo f p x y b k).p2.length = (copyF f).p2.length := by
  induction k with
  | zero => simp [putTo]
  | succ k ih =>
    rw [putTo]
    split
    · have h := setp_side (putTo f p x y b k) p ((nearI y + ((k / 4 : Nat) : Int)) * (sizeF f p).1 + (nearI x + ((k % 4 : Nat) : Int))).toNat (byteI (b k))
      omega
    · exact ih
theorem put_lens {f : FD} {p : Int} (x y : Int) (b : Nat → Int) (k : Nat) (h : (sizeF f p).1 ≠ 0) : (putTo f p x y b k).p0.length = f.p0.length ∧ (putTo f p x y b k).p1.length = f.p1.length ∧ (putTo f p x y b k).p2.length = f.p2.length := by
  have h1 := put_side f p x y b k
  rw [copyF_yes (size_some h).1] at h1
  exact h1.2.2
theorem within_cell {f : FD} {p u v : Int} (h : within (sizeF f p).1 (sizeF f p).2 u v) : (sizeF f p).1 ≠ 0 ∧ 0 ≤ v * (sizeF f p).1 ∧ v * (sizeF f p).1 ≤ 4096 ∧ 0 ≤ v * (sizeF f p).1 + u ∧ v * (sizeF f p).1 + u < ((f.pl p).length : Int) := by
  obtain ⟨h1, h2, h3, h4⟩ := h
  have hne : (sizeF f p).1 ≠ 0 := by omega
  obtain ⟨_, _, hl⟩ := size_pos (size_some hne)
  have hb := size_bounds f p
  have hc := cell_in (w := (sizeF f p).1) (h := (sizeF f p).2) (x := u) (y := v) (by omega) (by omega) (by omega) (by omega) (by omega)
  have h5 : (sizeF f p).1 * (sizeF f p).2 ≤ 64 * 64 := Int.mul_le_mul hb.2.1 hb.2.2.2 hb.2.2.1 (by omega)
  rw [hl] at hc h5
  exact ⟨hne, by omega, by omega, by omega, by omega⟩

end Go.Proofs.Ytceoidglhakanaa
namespace Go.Proofs.Ytceoidglhakanaa
open Go.RowKit

theorem u8_byte (n : Int) : IntKind.u8.wrap (min (max n 0) 255) = ((byteI n : Nat) : Int) := by
  unfold byteI IntKind.wrap; simp [IntKind.signed, IntKind.bits]; omega
set_option maxHeartbeats 4000000 in
set_option maxRecDepth 100000 in
theorem flaw_few (f : FD) (f0 f1 f2 : Value) (T_f0 : Nat → Prop) (T_f1 : Nat → Prop) (T_f2 : Nat → Prop) (w0 : World) (h_f0 : Byt w0 T_f0 f0 ((f).p0)) (h_f1 : Byt w0 T_f1 f1 ((f).p1)) (h_f2 : Byt w0 T_f2 f2 ((f).p2)) :
    Calls Try.prog 10 #[.agg #[.int .i64 ((f).W), .int .i64 ((f).H), f0, f1, f2]] w0 fun e w' => e = .returned (.bool (fewF f)) ∧ Kept (fun _ => False) w0 w' := by
  refine calls_wq (args := [.agg #[.int .i64 ((f).W), .int .i64 ((f).H), f0, f1, f2]]) 22 Try.func10 rfl rfl (Nat.le_of_ble_eq_true rfl) ?_
  have K0 := Kept.refl (fun _ => False) w0
  have g_f0 := Grew.refl w0 T_f0
  have g_f1 := Grew.refl w0 T_f1
  have g_f2 := Grew.refl w0 T_f2
  refine wq_seq ?_
  refine wq_region ?_
  refine wl_box_stc (vs := [.int .i64 ((f).W), .int .i64 ((f).H), f0, f1, f2]) rfl rfl rfl rfl fun p1 w2 B4 g5 k3 => ?_
  have gr6 : Grew w0 noB (onB p1) := Grew.new K0 g5
  have ap7 : Apart (onB p1) (T_f0) := Apart.new g5 (h_f0).live
  have ap8 : Apart (onB p1) (T_f1) := Apart.new g5 (h_f1).live
  have ap9 : Apart (onB p1) (T_f2) := Apart.new g5 (h_f2).live
  have B10 := h_f0.all k3 Apart.none
  have B11 := h_f1.all k3 Apart.none
  have B12 := h_f2.all k3 Apart.none
  have K13 := K0.trans k3 (fun _ _ x => x.elim)
  refine wl_v (.bool false) rfl rfl (y_asg rfl rfl ⟨rfl, rfl⟩) ?_
  refine wl_nil fun F14 hF15 => ?_
  have s16 : F14 22 = undef := (hF15 22).trans rfl
  have s17 : F14 1 = .pointer (some ⟨p1, 0, none⟩) := (hF15 1).trans rfl
  clear hF15
  refine then_normal ?_
  refine wq_seq ?_
  by_cases d18 : (((((f).p0).length : Nat) : Int)) ≤ (10000)
  · skip
    by_cases d19 : (((((f).p1).length : Nat) : Int)) ≤ (10000)
    · skip
      refine wq_region ?_
      refine wl_v (.pointer (some ⟨p1, 2, none⟩)) rfl rfl (y_fieldR (n := 3) rfl s17 Try.underlying25 rfl (by kernel_rfl) (by decide) rfl ⟨rfl, rfl⟩) ?_
      refine wl_v (.pointer (some ⟨p1, 2, none⟩)) rfl rfl (y_atR (0) (s := 1) rfl rfl rfl (by omega) Try.underlying23 (by omega) (by kernel_rfl) (by omega) ⟨rfl, rfl⟩) ?_
      refine wl_v (f0) rfl rfl (y_ld_stc rfl rfl Try.underlying22 B4 rfl rfl ⟨rfl, rfl⟩) ?_
      refine wl_v (.int .i64 (((((f).p0).length : Nat) : Int))) rfl rfl (y_lenV rfl rfl rfl B10 ⟨rfl, rfl⟩) ?_
      refine wl_v (.bool true) rfl rfl (y_leq rfl rfl rfl (decide_eq_true d18) ⟨rfl, rfl⟩) ?_
      refine wl_v (.bool true) rfl rfl (y_mov rfl rfl ⟨rfl, rfl⟩) ?_
      refine wl_vw (.pointer (some ⟨p1, 2, none⟩)) 5 true 8 rfl rfl rfl rfl rfl (y_fieldR (n := 3) rfl s17 Try.underlying25 rfl (by kernel_rfl) (by decide) rfl ⟨rfl, rfl⟩) ?_
      refine wl_vw (.pointer (some ⟨p1, 3, none⟩)) 5 true 8 rfl rfl rfl rfl rfl (y_atR (1) (s := 1) rfl rfl rfl (by omega) Try.underlying23 (by omega) (by kernel_rfl) (by omega) ⟨rfl, rfl⟩) ?_
      refine wl_vw (f1) 5 true 8 rfl rfl rfl rfl rfl (y_ld_stc rfl rfl Try.underlying22 B4 rfl rfl ⟨rfl, rfl⟩) ?_
      refine wl_vw (.int .i64 (((((f).p1).length : Nat) : Int))) 5 true 8 rfl rfl rfl rfl rfl (y_lenV rfl rfl rfl B11 ⟨rfl, rfl⟩) ?_
      refine wl_vw (.bool true) 5 true 8 rfl rfl rfl rfl rfl (y_leq rfl rfl rfl (decide_eq_true d19) ⟨rfl, rfl⟩) ?_
      refine wl_v (.bool true) rfl rfl (y_pickT rfl rfl rfl ⟨rfl, rfl⟩) ?_
      refine wl_v (.bool true) rfl rfl (y_mov rfl rfl ⟨rfl, rfl⟩) ?_
      refine wl_vw (.pointer (some ⟨p1, 2, none⟩)) 12 true 15 rfl rfl rfl rfl rfl (y_fieldR (n := 3) rfl s17 Try.underlying25 rfl (by kernel_rfl) (by decide) rfl ⟨rfl, rfl⟩) ?_
      refine wl_vw (.pointer (some ⟨p1, 4, none⟩)) 12 true 15 rfl rfl rfl rfl rfl (y_atR (2) (s := 1) rfl rfl rfl (by omega) Try.underlying23 (by omega) (by kernel_rfl) (by omega) ⟨rfl, rfl⟩) ?_
      refine wl_vw (f2) 12 true 15 rfl rfl rfl rfl rfl (y_ld_stc rfl rfl Try.underlying22 B4 rfl rfl ⟨rfl, rfl⟩) ?_
      refine wl_vw (.int .i64 (((((f).p2).length : Nat) : Int))) 12 true 15 rfl rfl rfl rfl rfl (y_lenV rfl rfl rfl B12 ⟨rfl, rfl⟩) ?_
      refine wl_vw (.bool (decide ((((((f).p2).length : Nat) : Int)) ≤ (10000)))) 12 true 15 rfl rfl rfl rfl rfl (y_leq rfl rfl rfl rfl ⟨rfl, rfl⟩) ?_
      refine wl_v (.bool (decide ((((((f).p2).length : Nat) : Int)) ≤ (10000)))) rfl rfl (y_pickT rfl rfl rfl ⟨rfl, rfl⟩) ?_
      refine wl_v (.bool (decide ((((((f).p2).length : Nat) : Int)) ≤ (10000)))) rfl rfl (y_asg rfl rfl ⟨rfl, rfl⟩) ?_
      refine wl_nil fun F20 hF21 => ?_
      have s22 : F20 22 = undef := (hF21 22).trans s16
      have s23 : F20 2 = .bool (decide ((((((f).p2).length : Nat) : Int)) ≤ (10000))) := (hF21 2).trans rfl
      clear hF21
      refine then_normal ?_
      refine wq_ret ?_
      exact end_tmp (v := .bool (decide ((((((f).p2).length : Nat) : Int)) ≤ (10000)))) s22 rfl rfl s23 ⟨(by first | rw [fewF_0 (by assumption)] | rw [fewF_1 (by assumption)] | rw [fewF_2 (by assumption) (by assumption)]), K13⟩
    · skip
      refine wq_region ?_
      refine wl_v (.pointer (some ⟨p1, 2, none⟩)) rfl rfl (y_fieldR (n := 3) rfl s17 Try.underlying25 rfl (by kernel_rfl) (by decide) rfl ⟨rfl, rfl⟩) ?_
      refine wl_v (.pointer (some ⟨p1, 2, none⟩)) rfl rfl (y_atR (0) (s := 1) rfl rfl rfl (by omega) Try.underlying23 (by omega) (by kernel_rfl) (by omega) ⟨rfl, rfl⟩) ?_
      refine wl_v (f0) rfl rfl (y_ld_stc rfl rfl Try.underlying22 B4 rfl rfl ⟨rfl, rfl⟩) ?_
      refine wl_v (.int .i64 (((((f).p0).length : Nat) : Int))) rfl rfl (y_lenV rfl rfl rfl B10 ⟨rfl, rfl⟩) ?_
      refine wl_v (.bool true) rfl rfl (y_leq rfl rfl rfl (decide_eq_true d18) ⟨rfl, rfl⟩) ?_
      refine wl_v (.bool true) rfl rfl (y_mov rfl rfl ⟨rfl, rfl⟩) ?_
      refine wl_vw (.pointer (some ⟨p1, 2, none⟩)) 5 true 8 rfl rfl rfl rfl rfl (y_fieldR (n := 3) rfl s17 Try.underlying25 rfl (by kernel_rfl) (by decide) rfl ⟨rfl, rfl⟩) ?_
      refine wl_vw (.pointer (some ⟨p1, 3, none⟩)) 5 true 8 rfl rfl rfl rfl rfl (y_atR (1) (s := 1) rfl rfl rfl (by omega) Try.underlying23 (by omega) (by kernel_rfl) (by omega) ⟨rfl, rfl⟩) ?_
      refine wl_vw (f1) 5 true 8 rfl rfl rfl rfl rfl (y_ld_stc rfl rfl Try.underlying22 B4 rfl rfl ⟨rfl, rfl⟩) ?_
      refine wl_vw (.int .i64 (((((f).p1).length : Nat) : Int))) 5 true 8 rfl rfl rfl rfl rfl (y_lenV rfl rfl rfl B11 ⟨rfl, rfl⟩) ?_
      refine wl_vw (.bool false) 5 true 8 rfl rfl rfl rfl rfl (y_leq rfl rfl rfl (decide_eq_false d19) ⟨rfl, rfl⟩) ?_
      refine wl_v (.bool false) rfl rfl (y_pickT rfl rfl rfl ⟨rfl, rfl⟩) ?_
      refine wl_v (.bool false) rfl rfl (y_mov rfl rfl ⟨rfl, rfl⟩) ?_
      refine wl_unless 12 true 15 rfl rfl rfl (Or.inl rfl) rfl ?_
      refine wl_unless 12 true 15 rfl rfl rfl (Or.inl rfl) rfl ?_
      refine wl_unless 12 true 15 rfl rfl rfl (Or.inl rfl) rfl ?_
      refine wl_unless 12 true 15 rfl rfl rfl (Or.inl rfl) rfl ?_
      refine wl_unless 12 true 15 rfl rfl rfl (Or.inl rfl) rfl ?_
      refine wl_v (.bool false) rfl rfl (y_pickF rfl rfl rfl ⟨rfl, rfl⟩) ?_
      refine wl_v (.bool false) rfl rfl (y_asg rfl rfl ⟨rfl, rfl⟩) ?_
      refine wl_nil fun F24 hF25 => ?_
      have s26 : F24 22 = undef := (hF25 22).trans s16
      have s27 : F24 2 = .bool false := (hF25 2).trans rfl
      clear hF25
      refine then_normal ?_
      refine wq_ret ?_
      exact end_tmp (v := .bool false) s26 rfl rfl s27 ⟨(by first | rw [fewF_0 (by assumption)] | rw [fewF_1 (by assumption)] | rw [fewF_2 (by assumption) (by assumption)]), K13⟩
  · skip
    refine wq_region ?_
    refine wl_v (.pointer (some ⟨p1, 2, none⟩)) rfl rfl (y_fieldR (n := 3) rfl s17 Try.underlying25 rfl (by kernel_rfl) (by decide) rfl ⟨rfl, rfl⟩) ?_
    refine wl_v (.pointer (some ⟨p1, 2, none⟩)) rfl rfl (y_atR (0) (s := 1) rfl rfl rfl (by omega) Try.underlying23 (by omega) (by kernel_rfl) (by omega) ⟨rfl, rfl⟩) ?_
    refine wl_v (f0) rfl rfl (y_ld_stc rfl rfl Try.underlying22 B4 rfl rfl ⟨rfl, rfl⟩) ?_
    refine wl_v (.int .i64 (((((f).p0).length : Nat) : Int))) rfl rfl (y_lenV rfl rfl rfl B10 ⟨rfl, rfl⟩) ?_
    refine wl_v (.bool false) rfl rfl (y_leq rfl rfl rfl (decide_eq_false d18) ⟨rfl, rfl⟩) ?_
    refine wl_v (.bool false) rfl rfl (y_mov rfl rfl ⟨rfl, rfl⟩) ?_
    refine wl_unless 5 true 8 rfl rfl rfl (Or.inl rfl) rfl ?_
    refine wl_unless 5 true 8 rfl rfl rfl (Or.inl rfl) rfl ?_
    refine wl_unless 5 true 8 rfl rfl rfl (Or.inl rfl) rfl ?_
    refine wl_unless 5 true 8 rfl rfl rfl (Or.inl rfl) rfl ?_
    refine wl_unless 5 true 8 rfl rfl rfl (Or.inl rfl) rfl ?_
    refine wl_v (.bool false) rfl rfl (y_pickF rfl rfl rfl ⟨rfl, rfl⟩) ?_
    refine wl_v (.bool false) rfl rfl (y_mov rfl rfl ⟨rfl, rfl⟩) ?_
    refine wl_unless 12 true 15 rfl rfl rfl (Or.inl rfl) rfl ?_
    refine wl_unless 12 true 15 rfl rfl rfl (Or.inl rfl) rfl ?_
    refine wl_unless 12 true 15 rfl rfl rfl (Or.inl rfl) rfl ?_
    refine wl_unless 12 true 15 rfl rfl rfl (Or.inl rfl) rfl ?_
    refine wl_unless 12 true 15 rfl rfl rfl (Or.inl rfl) rfl ?_
    refine wl_v (.bool false) rfl rfl (y_pickF rfl rfl rfl ⟨rfl, rfl⟩) ?_
    refine wl_v (.bool false) rfl rfl (y_asg rfl rfl ⟨rfl, rfl⟩) ?_
    refine wl_nil fun F28 hF29 => ?_
    have s30 : F28 22 = undef := (hF29 22).trans s16
    have s31 : F28 2 = .bool false := (hF29 2).trans rfl
    clear hF29
    refine then_normal ?_
    refine wq_ret ?_
    exact end_tmp (v := .bool false) s30 rfl rfl s31 ⟨(by first | rw [fewF_0 (by assumption)] | rw [fewF_1 (by assumption)] | rw [fewF_2 (by assumption) (by assumption)]), K13⟩

end Go.Proofs.Ytceoidglhakanaa
namespace Go.Proofs.Ytceoidglhakanaa
open Go.RowKit
/-- A frame that can be read. -/
def FrmV (w : World) (v : Value) (f : FD) : Prop := ∃ (a b c : Value) (Ta Tb Tc : Nat → Prop), v = .agg #[.int .i64 f.W, .int .i64 f.H, a, b, c] ∧ Owb w Ta a f.p0 ∧ Owb w Tb b f.p1 ∧ Owb w Tc c f.p2
theorem FrmV.all {w w' : World} {v : Value} {f : FD} (h : FrmV w v f) (k : Kept (fun _ => False) w w') : FrmV w' v f := by
  obtain ⟨a, b, c, Ta, Tb, Tc, e, h1, h2, h3⟩ := h
  exact ⟨a, b, c, Ta, Tb, Tc, e, h1.all k Apart.none, h2.all k Apart.none, h3.all k Apart.none⟩
theorem Stc.apart {w : World} {p : Nat} {t : TypeId} {vs : List Value} {T : Nat → Prop} {v : Value} {l : List Nat} (h : Stc w p t vs) (ho : Owb w T v l) (ht : t ≠ 5) : Apart (onB p) T := fun i hi hT => by
  cases hi
  have hv := (ho.2 _).1 hT
  rcases ho.1.1.2 with ⟨rfl, _⟩ | ⟨g, cap, cur, rfl, _, hg, _⟩
  · cases hv
  · cases hv
    have h' := h
    unfold Stc at h'
    rw [h'] at hg
    cases hg; exact ht rfl
end Go.Proofs.Ytceoidglhakanaa
namespace Go.Proofs.Ytceoidglhakanaa

theorem FD.eq {a b : FD} (h1 : a.W = b.W) (h2 : a.H = b.H) (h3 : a.p0 = b.p0) (h4 : a.p1 = b.p1) (h5 : a.p2 = b.p2) : a = b := by
  cases a; cases b; simp only at *; subst h1; subst h2; subst h3; subst h4; subst h5; rfl
theorem ok_of {f g : FD} (h : okF f) (hw : g.W = f.W) (hh : g.H = f.H) (h0 : g.p0.length = f.p0.length) (h1 : g.p1.length = f.p1.length) (h2 : g.p2.length = f.p2.length) : okF g := by
  obtain ⟨a, b, c, d, e⟩ := h
  exact ⟨by rw [hw]; exact a, by rw [hh]; exact b, by rw [hw, hh, h0]; exact c, by rw [hw, hh, h1]; exact d, by rw [hw, hh, h2]; exact e⟩
theorem getD_set (l : List Nat) (i q x : Nat) : (l.set i x).getD q 0 = if i = q ∧ q < l.length then x else l.getD q 0 := by
  by_cases h : i = q
  · subst h
    by_cases hl : i < l.length
    · rw [if_pos ⟨rfl, hl⟩]; simp [List.getD, hl]
    · rw [if_neg (fun h => hl h.2)]; simp [List.getD, hl]
  · rw [if_neg (fun e => h e.1)]; simp [List.getD, List.getElem?_set_ne h]
structure Inside (f : FD) (k x y : Int) : Prop where
  ok : okF f
  k0 : 0 ≤ k
  k2 : k ≤ 2
  x0 : 0 ≤ x
  x1 : x + 4 ≤ (sizeF f k).1
  y0 : 0 ≤ y
  y1 : y + 4 ≤ (sizeF f k).2
def jAt (f : FD) (k x y : Int) (i : Nat) : Nat := ((y + ((i / 4 : Nat) : Int)) * (sizeF f k).1 + (x + ((i % 4 : Nat) : Int))).toNat
theorem Inside.within {f : FD} {k x y : Int} (h : Inside f k x y) (i : Nat) (hi : i < 16) : within (sizeF f k).1 (sizeF f k).2 (x + ((i % 4 : Nat) : Int)) (y + ((i / 4 : Nat) : Int)) := by
  have h1 := h.x0; have h2 := h.x1; have h3 := h.y0; have h4 := h.y1
  exact ⟨by omega, by omega, by omega, by omega⟩
theorem Inside.lt {f : FD} {k x y : Int} (h : Inside f k x y) (i : Nat) (hi : i < 16) : jAt f k x y i < (f.pl k).length := by
  have := within_cell (h.within i hi)
  unfold jAt; omega
theorem Inside.inj {f : FD} {k x y : Int} (h : Inside f k x y) (i i' : Nat) (hi : i < 16) (hi' : i' < 16) (e : jAt f k x y i = jAt f k x y i') : i = i' := by
  have w1 := within_cell (h.within i hi)
  have w2 := within_cell (h.within i' hi')
  have hx1 := h.x1; have hx0 := h.x0
  unfold jAt at e
  have e2 : (y + ((i / 4 : Nat) : Int)) * (sizeF f k).1 + (x + ((i % 4 : Nat) : Int)) = (y + ((i' / 4 : Nat) : Int)) * (sizeF f k).1 + (x + ((i' % 4 : Nat) : Int)) := by omega
  rw [Int.add_mul, Int.add_mul] at e2
  have hw : 4 ≤ (sizeF f k).1 := by omega
  generalize (sizeF f k).1 = w at *
  have hq : i / 4 = i' / 4 := by
    by_cases hlt : i / 4 < i' / 4
    · have : ((i / 4 : Nat) : Int) * w + w ≤ ((i' / 4 : Nat) : Int) * w := by
        have h5 : (((i / 4 : Nat) : Int) + 1) * w ≤ ((i' / 4 : Nat) : Int) * w := Int.mul_le_mul_of_nonneg_right (by omega) (by omega)
        rw [Int.add_mul, Int.one_mul] at h5; exact h5
      omega
    · by_cases hgt : i' / 4 < i / 4
      · have : ((i' / 4 : Nat) : Int) * w + w ≤ ((i / 4 : Nat) : Int) * w := by
          have h5 : (((i' / 4 : Nat) : Int) + 1) * w ≤ ((i / 4 : Nat) : Int) * w := Int.mul_le_mul_of_nonneg_right (by omega) (by omega)
          rw [Int.add_mul, Int.one_mul] at h5; exact h5
        omega
      · omega
  rw [hq] at e2
  omega
theorem setp_pl (f : FD) (p : Int) (j n : Nat) (hp : 0 ≤ p) (hp2 : p ≤ 2) : (f.setp p j n).pl p = (f.pl p).set j n ∧ ∀ q, 0 ≤ q → q ≤ 2 → q ≠ p → (f.setp p j n).pl q = f.pl q := by
  have h3 : p = 0 ∨ p = 1 ∨ p = 2 := by omega
  have hq3 : ∀ q : Int, 0 ≤ q → q ≤ 2 → q = 0 ∨ q = 1 ∨ q = 2 := by omega
  rcases h3 with rfl | rfl | rfl
  · refine ⟨rfl, fun q h1 h2 h3 => ?_⟩
    rcases hq3 q h1 h2 with rfl | rfl | rfl
    · exact absurd rfl h3
    · rfl
    · rfl
  · refine ⟨rfl, fun q h1 h2 h3 => ?_⟩
    rcases hq3 q h1 h2 with rfl | rfl | rfl
    · rfl
    · exact absurd rfl h3
    · rfl
  · refine ⟨rfl, fun q h1 h2 h3 => ?_⟩
    rcases hq3 q h1 h2 with rfl | rfl | rfl
    · rfl
    · rfl
    · exact absurd rfl h3
end Go.Proofs.Ytceoidglhakanaa
namespace Go.Proofs.Ytceoidglhakanaa

structure Bytes3 (f : FD) : Prop where
  b0 : ∀ x ∈ f.p0, x < 256
  b1 : ∀ x ∈ f.p1, x < 256
  b2 : ∀ x ∈ f.p2, x < 256
end Go.Proofs.Ytceoidglhakanaa
namespace Go.Proofs.Ytceoidglhakanaa

def newF (w h : Int) (s : Nat) : FD := if sideB w = true ∧ sideB h = true then ⟨w, h, List.replicate (w * h).toNat s, List.replicate (w * h / 4).toNat s, List.replicate (w * h / 4).toNat s⟩ else FD.none
def newE (w h : Int) : Int := if sideB w = true ∧ sideB h = true then 0 else 70
theorem newF_yes {w h : Int} (s : Nat) (hw : sideB w = true) (hh : sideB h = true) : newF w h s = ⟨w, h, List.replicate (w * h).toNat s, List.replicate (w * h / 4).toNat s, List.replicate (w * h / 4).toNat s⟩ := if_pos ⟨hw, hh⟩
theorem newF_no {w h : Int} (s : Nat) (hn : ¬ (sideB w = true ∧ sideB h = true)) : newF w h s = FD.none := if_neg hn
theorem newE_yes {w h : Int} (hw : sideB w = true) (hh : sideB h = true) : newE w h = 0 := if_pos ⟨hw, hh⟩
theorem newE_no {w h : Int} (hn : ¬ (sideB w = true ∧ sideB h = true)) : newE w h = 70 := if_neg hn
theorem new_ok {w h : Int} (s : Nat) (hw : sideB w = true) (hh : sideB h = true) : okF (newF w h s) := by
  rw [newF_yes s hw hh]
  have ha := area_bounds hw hh
  refine ⟨hw, hh, ?_, ?_, ?_⟩
  · simp only [List.length_replicate]; omega
  · simp only [List.length_replicate]; rw [tdiv4 (by omega)]; omega
  · simp only [List.length_replicate]; rw [tdiv4 (by omega)]; omega
end Go.Proofs.Ytceoidglhakanaa
namespace Go.Proofs.Ytceoidglhakanaa
open Go.RowKit

/-- A part of a slice of bytes: from l, up to h, its room up to m. -/
def subV (v : Value) (l h m : Nat) : Value := match v with
  | .slice a _ _ => .slice (if m = l then a else a.map (·.add l)) (h - l) (m - l)
  | _ => undef
def capV : Value → Nat
  | .slice _ _ c => c
  | _ => 0
theorem Byt.cap {w : World} {T : Nat → Prop} {v : Value} {l : List Nat} (h : Byt w T v l) : l.length ≤ capV v ∧ capV v ≤ maxLen := by
  obtain ⟨⟨a, cap, rfl, h1, h2, _⟩, _⟩ := h; exact ⟨h1, h2⟩
theorem Byt.sub {w : World} {T : Nat → Prop} {v : Value} {l : List Nat} (hb : Byt w T v l) {i j m : Nat} (h1 : i ≤ j) (h2 : j ≤ m) (h3 : j ≤ l.length) (h4 : m ≤ capV v) : Byt w T (subV v i j m) ((l.drop i).take (j - i)) := by
  have hc := hb.cap
  obtain ⟨hB, hL, hT⟩ := hb
  obtain ⟨a, cap, rfl, k1, k2, k3, k4, k5⟩ := hB
  have hB : BytesArg w (.slice a l.length cap) l := ⟨a, cap, rfl, k1, k2, k3, k4, k5⟩
  have hm : m ≤ cap := h4
  refine ⟨hB.cut i j (m - i) h1 h3 (by omega) (by omega) (if m = i then a else a.map (fun z : Addr => z.add i)) (fun hp => by rw [if_neg (by omega)]) (fun h0 => ?_), hL, fun hp a' n c e => ?_⟩
  · split at h0
    · omega
    · have : a = none := by cases a <;> simp_all
      have := k3 this; omega
  · have hlen : 0 < j - i := by
      have : ((l.drop i).take (j - i)).length = j - i := by simp; omega
      omega
    simp only [subV] at e
    rw [if_neg (by omega)] at e
    cases a with
    | none => simp at e
    | some a0 =>
      simp at e
      obtain ⟨e1, _, _⟩ := e
      have hblk : a'.block = a0.block := by rw [← e1]; unfold Addr.add; split <;> rfl
      rw [hblk]
      exact hT (by omega) a0 _ _ rfl
theorem sub_addr {w : World} {T : Nat → Prop} {v : Value} {l : List Nat} (hb : Byt w T v l) {i j m : Nat} (t : Nat) (h2 : j ≤ m) (h3 : j ≤ l.length) (ht : t < j - i) : bytAddr (subV v i j m) t = bytAddr v (i + t) := by
  obtain ⟨⟨a, cap, rfl, _, _, _, _, k5⟩, _⟩ := hb
  obtain ⟨b, off, rfl, _, _⟩ := k5 (by omega)
  simp only [subV, bytAddr]
  rw [if_neg (by omega)]
  simp [Addr.add_lit, Nat.add_assoc]
section
variable {ρ : Operand → Value} {o : Oper} {w : World} {R : Value → World → Prop}
theorem y_cut3 {x lo hi mx : Operand} {T : Nat → Prop} {v : Value} {l : List Nat} {kl kh km : IntKind} (i j m : Nat) {il ih im : Int} (ho : o.op = .slice 22 x (some lo) (some hi) (some mx)) (hx : ρ x = v) (hl : ρ lo = .int kl il) (hh : ρ hi = .int kh ih) (hm : ρ mx = .int km im) (e1 : il = (i : Int)) (e2 : ih = (j : Int)) (e3 : im = (m : Int)) (hb : Byt w T v l) (h1 : i ≤ j) (h2 : j ≤ m) (h3 : m ≤ l.length) (h : R (subV v i j m) w) : Yields Try.prog ρ o w R := by
  subst e1; subst e2; subst e3
  have hc := hb.cap
  obtain ⟨⟨a, cap, rfl, k1, _⟩, _⟩ := hb
  obtain ⟨i0, hi0, hz0, hz1, hz2⟩ := info_parts Try.info_u8
  have hmc : m ≤ cap := by omega
  refine y_val (v := subV (.slice a l.length cap) i j m) (w' := w) ?_ h
  have b1 : (Instr.sliceBounds true l.length cap (some (.int kl (i : Int))) (some (.int kh (j : Int))) (some (.int km (m : Int)))).run Try.prog w = .ok (i, j, m) w := by
    simp [Instr.sliceBounds, Instr.sliceBound, asIntOf, hmc, h1, h2]
  simp [execOp, ho, hx, hl, hh, hm, Instr.sliceAt, Instr.slice, run_underlying Try.underlying22, b1, sizeOf, typeInfo, hi0, hz1, subV]
theorem y_atS {x ix : Operand} {T : Nat → Prop} {v : Value} {l : List Nat} {k : IntKind} {i j m : Nat} (t : Nat) {it : Int} (ho : o.op = .indexAddr 22 x ix) (hx : ρ x = subV v i j m) (hi : ρ ix = .int k it) (hij : it = (t : Int)) (hb : Byt w T v l) (h1 : i ≤ j) (h2 : j ≤ m) (h3 : j ≤ l.length) (h4 : m ≤ capV v) (ht : t < j - i) (h : R (bytAddr v (i + t)) w) : Yields Try.prog ρ o w R := by
  have hl : ((l.drop i).take (j - i)).length = j - i := by simp; omega
  refine y_atB t ho hx hi hij (hb.sub h1 h2 h3 h4) (by rw [hl]; exact ht) ?_
  rw [sub_addr hb t h2 h3 ht]; exact h
theorem sub_len {w : World} {T : Nat → Prop} {v : Value} {l : List Nat} (hb : Byt w T v l) (i j m : Nat) : ∃ a, subV v i j m = .slice a (j - i) (m - i) := by
  obtain ⟨⟨a, cap, rfl, _⟩, _⟩ := hb
  exact ⟨_, rfl⟩
theorem y_lenS {c : Call} {x : Operand} {T : Nat → Prop} {v : Value} {l : List Nat} {i j m : Nat} (ho : o.op = .call c) (hc : c = { callee := .builtin .len, args := #[x], argTypes := #[22] }) (hx : ρ x = subV v i j m) (hb : Byt w T v l) (h : R (.int .i64 ((j - i : Nat) : Int)) w) : Yields Try.prog ρ o w R := by
  subst hc
  obtain ⟨a, e⟩ := sub_len hb i j m
  rw [e] at hx
  exact y_len ho rfl rfl rfl Try.underlying22 hx h
end
end Go.Proofs.Ytceoidglhakanaa
namespace Go.Proofs.Ytceoidglhakanaa
open Go.RowKit

section
variable {ρ : Operand → Value} {o : Oper} {w : World} {R : Value → World → Prop}
theorem y_ldPl {t : TypeId} {x : Operand} {p k : Nat} {vs : List Value} {a b c : Value} (ho : o.op = .load 23 x) (hx : ρ x = .pointer (some ⟨p, k, none⟩)) (hB : Stc w p t vs) (h0 : vs[k]? = some a) (h1 : vs[k + 1]? = some b) (h2 : vs[k + 2]? = some c) (h : R (.agg #[a, b, c]) w) : Yields Try.prog ρ o w R := by
  have hr : w.rangeAt p k [a, b, c] := by
    intro j v hj
    match j, hj with
    | 0, hj => obtain rfl : a = v := by simpa using hj
               exact hB.cell h0
    | 1, hj => obtain rfl : b = v := by simpa using hj
               exact hB.cell h1
    | 2, hj => obtain rfl : c = v := by simpa using hj
               exact hB.cell h2
    | n + 3, hj => simp at hj
  refine y_val (v := .agg #[a, b, c]) (w' := w) ?_ h
  simp only [execOp, ho, hx, Sem.run_bind, run_loadAt_mid w p k 23 [a, b, c] _ hr Try.underlying23 rfl (by kernel_rfl), Result.andThen_ok, Sem.run_pure]
theorem y_ixPl {x y : Operand} {k : IntKind} {cs : Array Value} {v : Value} (j : Nat) (ho : o.op = .index 23 x y) (hx : ρ x = .agg cs) (hy : ρ y = .int k (j : Int)) (hj : j < 3) (hv : cs[j]? = some v) (h : R v w) : Yields Try.prog ρ o w R := by
  have hs : (Try.prog.info? 22).map (·.size) = some 1 := by kernel_rfl
  cases hq : Try.prog.info? 22 with
  | none => simp [hq] at hs
  | some i =>
    have hs' : i.size = 1 := by simpa [hq] using hs
    have hp : (part 22 cs j).run Try.prog w = .ok v w := by simp [part, isAgg, run_underlying Try.underlying22, hv]
    have h1 : (0 : Int) ≤ (j : Int) := by omega
    have h2 : (j : Int) < 3 := by omega
    exact y_val (v := v) (w' := w) (by simp [execOp, ho, hx, hy, Instr.index, run_underlying Try.underlying23, asIntOf, sizeOf, typeInfo, hq, hs', hj, hp]) h
theorem y_cut2L {x lo : Operand} {T : Nat → Prop} {v : Value} {l : List Nat} {kl : IntKind} {i j m : Nat} (k : Nat) {il : Int} (ho : o.op = .slice 22 x (some lo) none none) (hx : ρ x = subV v i j m) (hl : ρ lo = .int kl il) (e1 : il = (k : Int)) (hb : Byt w T v l) (h1 : k ≤ j - i) (h : R (subV (subV v i j m) k (j - i) (m - i)) w) : Yields Try.prog ρ o w R := by
  subst e1
  obtain ⟨a, e⟩ := sub_len hb i j m
  obtain ⟨i0, hi0, hz0, hz1, hz2⟩ := info_parts Try.info_u8
  refine y_val (v := subV (subV v i j m) k (j - i) (m - i)) (w' := w) ?_ h
  rw [e] at hx ⊢
  have b1 : (Instr.sliceBounds true (j - i) (m - i) (some (.int kl (k : Int))) none none).run Try.prog w = .ok (k, j - i, m - i) w := by
    simp [Instr.sliceBounds, Instr.sliceBound, asIntOf, h1]
  simp [execOp, ho, hx, hl, Instr.sliceAt, Instr.slice, run_underlying Try.underlying22, b1, sizeOf, typeInfo, hi0, hz1, subV]
theorem y_cut2H {x hi : Operand} {T : Nat → Prop} {v : Value} {l : List Nat} {kl : IntKind} {i j m : Nat} (k : Nat) {il : Int} (ho : o.op = .slice 22 x none (some hi) none) (hx : ρ x = subV v i j m) (hl : ρ hi = .int kl il) (e1 : il = (k : Int)) (hb : Byt w T v l) (h1 : k ≤ m - i) (h : R (subV (subV v i j m) 0 k (m - i)) w) : Yields Try.prog ρ o w R := by
  subst e1
  obtain ⟨a, e⟩ := sub_len hb i j m
  obtain ⟨i0, hi0, hz0, hz1, hz2⟩ := info_parts Try.info_u8
  refine y_val (v := subV (subV v i j m) 0 k (m - i)) (w' := w) ?_ h
  rw [e] at hx ⊢
  have b1 : (Instr.sliceBounds true (j - i) (m - i) none (some (.int kl (k : Int))) none).run Try.prog w = .ok (0, k, m - i) w := by
    simp [Instr.sliceBounds, Instr.sliceBound, asIntOf, h1]
  simp [execOp, ho, hx, hl, Instr.sliceAt, Instr.slice, run_underlying Try.underlying22, b1, sizeOf, typeInfo, hi0, hz1, subV]
theorem y_cut3T {x hi mx : Operand} {T : Nat → Prop} {v : Value} {l : List Nat} {kh km : IntKind} (j m : Nat) {ih im : Int} (ho : o.op = .slice 22 x none (some hi) (some mx)) (hx : ρ x = v) (hh : ρ hi = .int kh ih) (hm : ρ mx = .int km im) (e2 : ih = (j : Int)) (e3 : im = (m : Int)) (hb : Byt w T v l) (h2 : j ≤ m) (h4 : m ≤ l.length) (h : R (subV v 0 j m) w) : Yields Try.prog ρ o w R := by
  subst e2; subst e3
  obtain ⟨⟨a, cap, rfl, k1, _⟩, _⟩ := hb
  obtain ⟨i0, hi0, hz0, hz1, hz2⟩ := info_parts Try.info_u8
  have hmc : m ≤ cap := by omega
  refine y_val (v := subV (.slice a l.length cap) 0 j m) (w' := w) ?_ h
  have b1 : (Instr.sliceBounds true l.length cap none (some (.int kh (j : Int))) (some (.int km (m : Int)))).run Try.prog w = .ok (0, j, m) w := by
    simp [Instr.sliceBounds, Instr.sliceBound, asIntOf, hmc, h2]
  simp [execOp, ho, hx, hh, hm, Instr.sliceAt, Instr.slice, run_underlying Try.underlying22, b1, sizeOf, typeInfo, hi0, hz1, subV]
end

/-- A part of bytes of one's own: where it lies. -/
def PartAt (x v : Value) (off n : Nat) : Prop := ∃ d cp, x = .slice d n cp ∧ (0 < n → ∀ g nn cc, v = .slice (some ⟨g, 0, none⟩) nn cc → d = some ⟨g, off, none⟩)
theorem part_sub {w : World} {T : Nat → Prop} {v : Value} {l : List Nat} (hb : Byt w T v l) {i j m : Nat} (h2 : j ≤ m) : PartAt (subV v i j m) v i (j - i) := by
  obtain ⟨⟨a, cap, rfl, k1, k2, k3, k4, k5⟩, k6⟩ := hb
  clear k3 k4 k5 k6
  refine ⟨_, _, rfl, fun hp g nn cc e => ?_⟩
  cases e
  rw [if_neg (by omega)]
  simp [Addr.add_lit]
theorem part_sub2 {w : World} {T : Nat → Prop} {v : Value} {l : List Nat} (hb : Byt w T v l) {i j m k q r : Nat} (h2 : j ≤ m) (h3 : q ≤ j - i) (hr : r = i + k) : PartAt (subV (subV v i j m) k q (m - i)) v r (q - k) := by
  subst hr
  obtain ⟨⟨a, cap, rfl, k1, k2, k3, k4, k5⟩, k6⟩ := hb
  clear k3 k4 k5 k6
  refine ⟨_, _, rfl, fun hp g nn cc e => ?_⟩
  cases e
  rw [if_neg (by omega), if_neg (by omega)]
  simp [Addr.add_lit]
section
variable {ro : Option Nat} {N : Nat} {Q : (Exit → (Nat → Value) → World → Prop)} {F : Nat → Value} {w : World} {o : Oper}
theorem run_copyM {ρ : Operand → Value} {c : Call} {x y : Operand} {T U : Nat → Prop} {v u : Value} {l m : List Nat} {off n : Nat} (ho : o.op = .call c) (hc : c = { callee := .builtin .copy, args := #[x, y], argTypes := #[22, 22] }) (hx : PartAt (ρ x) v off n) (hy : ρ y = u) (hv : Owb w T v l) (hu : Byt w U u m) (hoff : off + n ≤ l.length) :
    ∃ w', (execOp ρ o).run Try.prog w = .ok (.value (.int .i64 ((min n m.length : Nat) : Int))) w' ∧ Owb w' T v (l.take off ++ (m.take n ++ l.drop (off + min n m.length))) ∧ Kept T w w' := by
  subst hc
  have hsz : (Try.prog.info? 5).map (·.size) = some 1 := by
    obtain ⟨i0, hi0, hz0, hz1, hz2⟩ := info_parts Try.info_u8
    rw [hi0]; simp [hz1]
  have hlen : (l.take off ++ (m.take n ++ l.drop (off + min n m.length))).length = l.length := by simp; omega
  have hml : (m.take n).length = min n m.length := by simp
  have hall : ∀ y ∈ l.take off ++ (m.take n ++ l.drop (off + min n m.length)), y < 256 := by
    intro y hy
    rcases List.mem_append.1 hy with h' | h'
    · exact hv.lt256 y (List.mem_of_mem_take h')
    · rcases List.mem_append.1 h' with h' | h'
      · exact hu.lt256 y (List.mem_of_mem_take h')
      · exact hv.lt256 y (List.mem_of_mem_drop h')
  obtain ⟨d, cp, hxx, hd⟩ := hx
  by_cases h0 : min n m.length = 0
  · have h0' : min m.length n = 0 := by omega
    obtain ⟨⟨a, cap, rfl, k1, k2, k3, h256, hcu⟩, _⟩ := hu
    clear hcu hd
    have hm : m.take n = [] := List.eq_nil_of_length_eq_zero (by omega)
    have hrun := run_copy_none (P := Try.prog) w 22 22 o.type 5 d a n cp m.length cap Try.underlying22 hsz h0'
    refine ⟨w, by rw [h0]; simp [execOp, ho, resolve, invoke, builtin, hxx, hy, hrun, Result.andThen]; rfl, ?_, Kept.refl _ _⟩
    rw [h0, hm, List.nil_append, Nat.add_zero, List.take_append_drop]; exact hv
  · have hm0 : 0 < m.length := by omega
    have hn0 : 0 < n := by omega
    obtain ⟨⟨a, cap, rfl, k1, k2, k3, h256, hcu⟩, hu2⟩ := hu
    clear k3 hu2
    obtain ⟨b, o1, rfl, hb1, hcell⟩ := hcu hm0
    clear hcu
    replace hd := hd hn0
    rcases hv.1.1.2 with ⟨rfl, hz⟩ | ⟨g, cp2, cur, rfl, hb, hgg, hnc, hcm, hcs, htake⟩
    · omega
    · obtain rfl := hd g _ _ rfl
      have hbl : (byteVals (m.take n)).length = min n m.length := by rw [byteVals_length, hml]
      have hrun := run_copy_row (P := Try.prog) w 22 22 o.type 5 g off n cp ⟨b, o1, none⟩ m.length cap cur 5 (byteVals (m.take n)) Try.underlying22 hsz hgg (by rw [hbl]; show min n m.length = min m.length n; omega) (fun t u ht => by
        have hjl : t < (m.take n).length := by
          have := (List.getElem?_eq_some_iff.1 ht).1
          rwa [byteVals_length] at this
        rw [Addr.add_lit, hcell t (by omega), ← ht, byteVals_at (m.take n) t hjl]
        rw [show (m.take n).getD t 0 = m.getD t 0 by simp [List.getD, show t < n by omega]]) (by rw [hbl]; omega) (byteVals_one _)
      refine ⟨w.setRow g (cur.toList.take off ++ byteVals (m.take n) ++ cur.toList.drop (off + (byteVals (m.take n)).length)).toArray, by simp [execOp, ho, resolve, invoke, builtin, hxx, hy, hrun, Result.andThen, hbl]; rfl, ⟨⟨⟨?_, .inr ⟨g, cp2, _, ?_, hb, setRow_heap w g cur _ _ _ hgg, ?_, hcm, ?_, ?_⟩⟩, hall⟩, hv.2⟩, (Kept.refl T w).setRow g (fun _ => (hv.2 g).2 rfl) _⟩
      · rw [byteVals_length]; omega
      · rw [hlen]
      · omega
      · simp [byteVals_length]; omega
      · have htk : cur.toList.take l.length = byteVals l := by simpa using htake
        have hcl : cur.toList = byteVals l ++ cur.toList.drop l.length := by rw [← htk, List.take_append_drop]
        rw [hcl]
        generalize cur.toList.drop l.length = rest2
        have hli : off ≤ (byteVals l).length := by rw [byteVals_length]; omega
        have hlj : off + (byteVals (m.take n)).length ≤ (byteVals l).length := by rw [hbl, byteVals_length]; omega
        rw [List.take_append_of_le_length hli, List.drop_append_of_le_length hlj, hlen, Nat.mul_one]
        have e2 : byteVals (l.take off ++ (m.take n ++ l.drop (off + min n m.length))) = (byteVals l).take off ++ (byteVals (m.take n) ++ (byteVals l).drop (off + (byteVals (m.take n)).length)) := by
          rw [hbl]
          simp [byteVals, List.map_take, List.map_drop]
        rw [e2]
        have e3 : ((byteVals l).take off ++ byteVals (m.take n) ++ ((byteVals l).drop (off + (byteVals (m.take n)).length) ++ rest2)) = ((byteVals l).take off ++ (byteVals (m.take n) ++ (byteVals l).drop (off + (byteVals (m.take n)).length))) ++ rest2 := by simp
        rw [e3, List.take_append_of_le_length (by simp [byteVals_length]; omega)]
        rw [List.take_of_length_le (by simp [byteVals_length]; omega)]
theorem wl_copyM {ops : Array Oper} {rest : List Oper} {c : Call} {x y : Operand} {T U : Nat → Prop} {v u : Value} {l m : List Nat} {off n : Nat} {X : Value} (hg : o.guard = none) (hd : fits N o.dst = true) (ho : o.op = .call c) (hc : c = { callee := .builtin .copy, args := #[x, y], argTypes := #[22, 22] }) (hxX : ev (cutF N F) x = X) (hp : PartAt X v off n) (hy : ev (cutF N F) y = u) (hv : Owb w T v l) (hu : Byt w U u m) (hoff : off + n ≤ l.length)
    (h : ∀ w', Owb w' T v (l.take off ++ (m.take n ++ l.drop (off + min n m.length))) → Kept T w w' → wl ro Try.prog N ops Q rest (putF F o.dst (.int .i64 ((min n m.length : Nat) : Int))) w') : wl ro Try.prog N ops Q (o :: rest) F w := by
  obtain ⟨w', hr, h1, h2⟩ := run_copyM ho hc (by rw [hxX]; exact hp) hy hv hu hoff
  exact wl_op hg hd (y_val hr (h w' h1 h2))
end

theorem stcT_by4 : StcT Try.prog 74 4 := ⟨_, Try.underlying74, rfl, by kernel_rfl⟩
def arrV (p k : Nat) : Value := .slice (some (if 4 = k then ⟨p, 0, none⟩ else ⟨p, k, none⟩)) (4 - k) (4 - k)
theorem Stc.bytes {w : World} {p t : Nat} {a b c d : Nat} (h : Stc w p t [.int .u8 (a : Int), .int .u8 (b : Int), .int .u8 (c : Int), .int .u8 (d : Int)]) (ha : a < 256) (hb : b < 256) (hc : c < 256) (hd : d < 256) {k : Nat} (hk : k ≤ 4) : Byt w (onB p) (arrV p k) ([a, b, c, d].drop k) := by
  have hl : ([a, b, c, d].drop k).length = 4 - k := by simp
  refine ⟨⟨some (if 4 = k then ⟨p, 0, none⟩ else ⟨p, k, none⟩), 4 - k, by rw [hl]; rfl, by omega, Nat.le_trans (Nat.sub_le 4 k) (by decide), (fun e => by cases e), ?_, fun hp => ⟨p, k, by rw [if_neg (by omega)], h.lt, fun i hi => ?_⟩⟩, onB_live h.lt, fun _ a' n c' e => ?_⟩
  · intro x hx
    have := List.mem_of_mem_drop hx
    simp at this
    omega
  · rw [hl] at hi
    have hc := h.cell (i := k + i) (v := .int .u8 (([a, b, c, d].drop k).getD i 0 : Nat)) (by
      have : k = 0 ∨ k = 1 ∨ k = 2 ∨ k = 3 := by omega
      have hi4 : i = 0 ∨ i = 1 ∨ i = 2 ∨ i = 3 := by omega
      rcases this with rfl | rfl | rfl | rfl <;> rcases hi4 with rfl | rfl | rfl | rfl <;> first | rfl | omega)
    exact hc
  · unfold arrV at e
    simp only [Value.slice.injEq, Option.some.injEq] at e
    rw [← e.1]
    split <;> rfl
section
variable {ρ : Operand → Value} {o : Oper} {w : World} {R : Value → World → Prop}
theorem y_cutA {x lo : Operand} {p : Nat} {kl : IntKind} (k : Nat) {il : Int} (ho : o.op = .slice 74 x (some lo) none none) (hx : ρ x = .pointer (some ⟨p, 0, none⟩)) (hl : ρ lo = .int kl il) (e1 : il = (k : Int)) (hk : k ≤ 4) (h : R (arrV p k) w) : Yields Try.prog ρ o w R := by
  subst e1
  obtain ⟨i0, hi0, hz0, hz1, hz2⟩ := info_parts Try.info_u8
  refine y_val (v := arrV p k) (w' := w) ?_ h
  have b1 : (Instr.sliceBounds false 4 4 (some (.int kl (k : Int))) none none).run Try.prog w = .ok (k, 4, 4) w := by
    simp [Instr.sliceBounds, Instr.sliceBound, asIntOf, hk]
  simp [execOp, ho, hx, hl, Instr.sliceAt, Instr.sureAddr, run_underlying Try.underlying74, b1, sizeOf, typeInfo, hi0, hz1, arrV, Addr.add_lit]
end

theorem digits_bytes : ∀ (n t : Nat) (acc : List Nat), (∀ x ∈ acc, x < 256) → ∃ l : List Nat, Extern.BytealgMakeNoZero.digits n t (byteVals acc).toArray = (byteVals l).toArray ∧ (∀ x ∈ l, x < 256) ∧ l.length = acc.length + n
  | 0, _, acc, h => ⟨acc, rfl, h, rfl⟩
  | n + 1, t, acc, h => by
    obtain ⟨l, h1, h2, h3⟩ := digits_bytes n (t / 256) (acc ++ [t % 256]) (by
      intro x hx
      rcases List.mem_append.1 hx with hx | hx
      · exact h x hx
      · simp at hx; omega)
    refine ⟨l, ?_, h2, by simp at h3; omega⟩
    rw [Extern.BytealgMakeNoZero.digits, ← h1]
    congr 1
    simp [byteVals]
theorem run_makeNoZero_bytes (w : World) (n : Nat) (hn : n < 1099511627776) :
    ∃ cs : Array Value, (Extern.BytealgMakeNoZero.makeNoZero #[3] #[22] #[.int .i64 n]).run Try.prog w = .ok (.slice (some ⟨w.heap.size, 0, none⟩) n cs.size) (w.drew.drew.alloc (.cells cs 5)) ∧ n ≤ cs.size ∧ cs.size ≤ maxLen ∧ ∃ l : List Nat, cs = (byteVals l).toArray ∧ (∀ x ∈ l, x < 256) ∧ l.length = cs.size := by
  obtain ⟨cs, hr, h1, h2⟩ := Lib.run_makeNoZero (P := Try.prog) w #[3] 22 5 Try.underlying22 n (by omega)
  refine ⟨cs, hr, h1, h2 (Nat.le_trans (Nat.le_of_lt hn) (by decide)), ?_⟩
  have h0 : ¬ (n : Int) < 0 := by omega
  have h3 : ¬ (281474976710656 : Int) < (n : Int) := by omega
  have hd : Extern.BytealgMakeNoZero.makeNoZero #[3] #[22] #[.int .i64 n] = underlying 22 >>= _ := rfl
  have hr2 := hr
  rw [hd] at hr2
  simp [run_underlying Try.underlying22, h0, h3, Question.forced, newRow] at hr2
  have e := congrArg (fun W : World => W.heap[w.drew.drew.heap.size]?) hr2.2
  simp only [heap_alloc_new] at e
  have e2 := (Obj.cells.inj (Option.some.inj e)).1
  rw [hr2.1] at e2
  obtain ⟨T, hT⟩ : ∃ T, Extern.BytealgMakeNoZero.digits cs.size T #[] = cs := ⟨_, e2⟩
  obtain ⟨l, k1, k2, k3⟩ := digits_bytes cs.size T [] (by simp)
  exact ⟨l, hT.symm.trans k1, k2, by simpa using k3⟩
/-- bytes that are made, whatever they are: 'n' of them, of a row of their own. -/
theorem wl_mnz {ro : Option Nat} {N : Nat} {Q : (Exit → (Nat → Value) → World → Prop)} {F : Nat → Value} {w : World} {o : Oper} {ops : Array Oper} {rest : List Oper} {c : Call} {x : Operand} {f : FuncId} {fn : Func} {n : Nat} {i : Int} (hg : o.guard = none) (hd : fits N o.dst = true) (ho : o.op = .call c) (hc : c = { callee := .value (.func f), args := #[x], argTypes := #[3] }) (hx : ev (cutF N F) x = .int .i64 i) (hi : i = (n : Int)) (hn : n < 1099511627776)
    (hf : Try.prog.funcs[f]? = some fn) (hname : (fn.name == "runtime.NumGoroutine") = false) (hb : fn.body.isNone = true) (hnx : Extern.findNext fn = none) (he : Extern.find fn = some (Extern.BytealgMakeNoZero.makeNoZero #[3] #[22]))
    (h : ∀ v w' T (l : List Nat), Owb w' T v l → l.length = n → Grew w noB T → Kept (fun _ => False) w w' → wl ro Try.prog N ops Q rest (putF F o.dst v) w') : wl ro Try.prog N ops Q (o :: rest) F w := by
  subst hc; subst hi
  obtain ⟨cs, hrun, hle, hmx, hcap⟩ := run_makeNoZero_bytes w n hn
  obtain ⟨J, hJ, hJ2, hJ3⟩ := hcap
  have hcall : (callFunc f #[.int .i64 (n : Int)]).run Try.prog w = .ok (.value (.slice (some ⟨w.heap.size, 0, none⟩) n cs.size)) (w.drew.drew.alloc (.cells cs 5)) := by
    rw [run_callFunc_extern hf hname hb hnx he, hrun]; rfl
  have hsz : cs.size = J.length := by rw [hJ]; simp [byteVals_length]
  refine wl_op hg hd (y_val (v := .slice (some ⟨w.heap.size, 0, none⟩) n cs.size) (w' := w.drew.drew.alloc (.cells cs 5)) (by simp [execOp, ho, resolve, ev_func, Deferred.ofValue, invoke, hx, hcall]) (h _ _ _ (J.take n) (Owb.of ⟨⟨by rw [byteVals_length]; omega, .inr ⟨w.heap.size, cs.size, cs, by rw [List.length_take, Nat.min_eq_left (by omega)], Nat.zero_le _, ?_, by rw [List.length_take]; omega, hmx, by omega, ?_⟩⟩, fun y hy => hJ2 y (List.mem_of_mem_take hy)⟩) (by rw [List.length_take]; omega) (fun i hi => .inr ?_) (((Kept.refl _ w).drew.drew).alloc _)))
  · exact heap_alloc_new w.drew.drew _
  · rw [hJ, List.length_take, Nat.min_eq_left (by omega), Nat.mul_one]
    simp [byteVals, List.map_take]
  · cases hi; exact Nat.le_refl _
end Go.Proofs.Ytceoidglhakanaa
