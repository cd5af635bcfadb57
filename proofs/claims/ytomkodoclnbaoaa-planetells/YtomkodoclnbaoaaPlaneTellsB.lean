/- What PlaneTells reaches of my texts, part 2. -/
import Derived.Test.YtomkodoclnbaoaaPlaneTellsA
namespace Go.Proofs.Ytomkodoclnbaoaa
open Go.RowKit
theorem stcT_frame : StcT Try.prog 25 5 := ⟨_, Try.underlying25, rfl, by kernel_rfl⟩

set_option maxHeartbeats 4000000 in
set_option maxRecDepth 100000 in
theorem fref_side (n : Int) (w0 : World) :
    Calls Try.prog 35 #[.int .i64 (n)] w0 fun e w' => e = .returned (.bool (sideB n)) ∧ Kept (fun _ => False) w0 w' := by
  refine calls_wq (args := [.int .i64 (n)]) 14 Try.func35 rfl rfl (Nat.le_of_ble_eq_true rfl) ?_
  have K0 := Kept.refl (fun _ => False) w0
  refine wq_seq ?_
  refine wq_region ?_
  refine wl_v (.bool false) rfl rfl (y_asg rfl rfl ⟨rfl, rfl⟩) ?_
  refine wl_nil fun F1 hF2 => ?_
  have s3 : F1 0 = .int .i64 (n) := (hF2 0).trans rfl
  have s4 : F1 14 = undef := (hF2 14).trans rfl
  clear hF2
  refine then_normal ?_
  refine wq_seq ?_
  by_cases d5 : (8) ≤ (n)
  · skip
    by_cases d6 : (n) ≤ (64)
    · skip
      refine wq_region ?_
      refine wl_v (.int .i64 (n)) rfl rfl (y_mov rfl s3 ⟨rfl, rfl⟩) ?_
      refine wl_v (.bool true) rfl rfl (y_geq rfl rfl rfl (decide_eq_true d5) ⟨rfl, rfl⟩) ?_
      refine wl_v (.bool true) rfl rfl (y_mov rfl rfl ⟨rfl, rfl⟩) ?_
      refine wl_vw (.int .i64 (n)) 2 true 5 rfl rfl rfl rfl rfl (y_mov rfl s3 ⟨rfl, rfl⟩) ?_
      refine wl_vw (.bool true) 2 true 5 rfl rfl rfl rfl rfl (y_leq rfl rfl rfl (decide_eq_true d6) ⟨rfl, rfl⟩) ?_
      refine wl_v (.bool true) rfl rfl (y_pickT rfl rfl rfl ⟨rfl, rfl⟩) ?_
      refine wl_v (.bool true) rfl rfl (y_mov rfl rfl ⟨rfl, rfl⟩) ?_
      refine wl_vw (.int .i64 (n)) 6 true 9 rfl rfl rfl rfl rfl (y_mov rfl s3 ⟨rfl, rfl⟩) ?_
      refine wl_vw (.int .i64 (Int.tmod (n) (8))) 6 true 9 rfl rfl rfl rfl rfl (y_rem rfl rfl rfl (by first | decide | omega) rfl ⟨rfl, rfl⟩) ?_
      refine wl_vw (.bool (decide ((Int.tmod (n) (8)) = (0)))) 6 true 9 rfl rfl rfl rfl rfl (y_eqlI rfl rfl rfl rfl ⟨rfl, rfl⟩) ?_
      refine wl_v (.bool (decide ((Int.tmod (n) (8)) = (0)))) rfl rfl (y_pickT rfl rfl rfl ⟨rfl, rfl⟩) ?_
      refine wl_v (.bool (decide ((Int.tmod (n) (8)) = (0)))) rfl rfl (y_asg rfl rfl ⟨rfl, rfl⟩) ?_
      refine wl_nil fun F7 hF8 => ?_
      have s9 : F7 14 = undef := (hF8 14).trans s4
      have s10 : F7 2 = .bool (decide ((Int.tmod (n) (8)) = (0))) := (hF8 2).trans rfl
      clear hF8
      refine then_normal ?_
      refine wq_ret ?_
      exact end_tmp (v := .bool (decide ((Int.tmod (n) (8)) = (0)))) s9 rfl rfl s10 ⟨(by first | rw [sideB_low (by omega)] | rw [sideB_high (by omega)] | rw [sideB_mid (by omega) (by omega)]), K0⟩
    · skip
      refine wq_region ?_
      refine wl_v (.int .i64 (n)) rfl rfl (y_mov rfl s3 ⟨rfl, rfl⟩) ?_
      refine wl_v (.bool true) rfl rfl (y_geq rfl rfl rfl (decide_eq_true d5) ⟨rfl, rfl⟩) ?_
      refine wl_v (.bool true) rfl rfl (y_mov rfl rfl ⟨rfl, rfl⟩) ?_
      refine wl_vw (.int .i64 (n)) 2 true 5 rfl rfl rfl rfl rfl (y_mov rfl s3 ⟨rfl, rfl⟩) ?_
      refine wl_vw (.bool false) 2 true 5 rfl rfl rfl rfl rfl (y_leq rfl rfl rfl (decide_eq_false d6) ⟨rfl, rfl⟩) ?_
      refine wl_v (.bool false) rfl rfl (y_pickT rfl rfl rfl ⟨rfl, rfl⟩) ?_
      refine wl_v (.bool false) rfl rfl (y_mov rfl rfl ⟨rfl, rfl⟩) ?_
      refine wl_unless 6 true 9 rfl rfl rfl (Or.inl rfl) rfl ?_
      refine wl_unless 6 true 9 rfl rfl rfl (Or.inl rfl) rfl ?_
      refine wl_unless 6 true 9 rfl rfl rfl (Or.inl rfl) rfl ?_
      refine wl_v (.bool false) rfl rfl (y_pickF rfl rfl rfl ⟨rfl, rfl⟩) ?_
      refine wl_v (.bool false) rfl rfl (y_asg rfl rfl ⟨rfl, rfl⟩) ?_
      refine wl_nil fun F11 hF12 => ?_
      have s13 : F11 14 = undef := (hF12 14).trans s4
      have s14 : F11 2 = .bool false := (hF12 2).trans rfl
      clear hF12
      refine then_normal ?_
      refine wq_ret ?_
      exact end_tmp (v := .bool false) s13 rfl rfl s14 ⟨(by first | rw [sideB_low (by omega)] | rw [sideB_high (by omega)] | rw [sideB_mid (by omega) (by omega)]), K0⟩
  · skip
    refine wq_region ?_
    refine wl_v (.int .i64 (n)) rfl rfl (y_mov rfl s3 ⟨rfl, rfl⟩) ?_
    refine wl_v (.bool false) rfl rfl (y_geq rfl rfl rfl (decide_eq_false d5) ⟨rfl, rfl⟩) ?_
    refine wl_v (.bool false) rfl rfl (y_mov rfl rfl ⟨rfl, rfl⟩) ?_
    refine wl_unless 2 true 5 rfl rfl rfl (Or.inl rfl) rfl ?_
    refine wl_unless 2 true 5 rfl rfl rfl (Or.inl rfl) rfl ?_
    refine wl_v (.bool false) rfl rfl (y_pickF rfl rfl rfl ⟨rfl, rfl⟩) ?_
    refine wl_v (.bool false) rfl rfl (y_mov rfl rfl ⟨rfl, rfl⟩) ?_
    refine wl_unless 6 true 9 rfl rfl rfl (Or.inl rfl) rfl ?_
    refine wl_unless 6 true 9 rfl rfl rfl (Or.inl rfl) rfl ?_
    refine wl_unless 6 true 9 rfl rfl rfl (Or.inl rfl) rfl ?_
    refine wl_v (.bool false) rfl rfl (y_pickF rfl rfl rfl ⟨rfl, rfl⟩) ?_
    refine wl_v (.bool false) rfl rfl (y_asg rfl rfl ⟨rfl, rfl⟩) ?_
    refine wl_nil fun F15 hF16 => ?_
    have s17 : F15 14 = undef := (hF16 14).trans s4
    have s18 : F15 2 = .bool false := (hF16 2).trans rfl
    clear hF16
    refine then_normal ?_
    refine wq_ret ?_
    exact end_tmp (v := .bool false) s17 rfl rfl s18 ⟨(by first | rw [sideB_low (by omega)] | rw [sideB_high (by omega)] | rw [sideB_mid (by omega) (by omega)]), K0⟩

set_option maxHeartbeats 4000000 in
set_option maxRecDepth 100000 in
theorem fref_check (f : FD) (f0 f1 f2 : Value) (T_f0 : Nat → Prop) (T_f1 : Nat → Prop) (T_f2 : Nat → Prop) (w0 : World) (h_f0 : Byt w0 T_f0 f0 ((f).p0)) (h_f1 : Byt w0 T_f1 f1 ((f).p1)) (h_f2 : Byt w0 T_f2 f2 ((f).p2)) :
    Calls Try.prog 17 #[.agg #[.int .i64 ((f).W), .int .i64 ((f).H), f0, f1, f2]] w0 fun e w' => e = .returned (.int .i64 (checkE f)) ∧ Kept (fun _ => False) w0 w' := by
  refine calls_wq (args := [.agg #[.int .i64 ((f).W), .int .i64 ((f).H), f0, f1, f2]]) 51 Try.func17 rfl rfl (Nat.le_of_ble_eq_true rfl) ?_
  have K0 := Kept.refl (fun _ => False) w0
  have hmul := @area_bounds f.W f.H
  have g_f0 := Grew.refl w0 T_f0
  have g_f1 := Grew.refl w0 T_f1
  have g_f2 := Grew.refl w0 T_f2
  refine wq_seq ?_
  refine wq_region ?_
  refine wl_box_stc (vs := [.int .i64 ((f).W), .int .i64 ((f).H), f0, f1, f2]) rfl rfl rfl rfl fun p1 w2 B4 g5 k3 => ?_
  have gr6 : Grew w0 noB (onB p1) := Grew.new K0 g5
  have ap7 : Apart (onB p1) (T_f0) := Apart.new g5 (h_f0).live
  have ap8 : Apart (onB p1) (T_f1) := Apart.new g5 (h_f1).live
  have ap9 : Apart (onB p1) (T_f2) := Apart.new g5 (h_f2).live
  have B10 := h_f0.all k3 Apart.none
  have B11 := h_f1.all k3 Apart.none
  have B12 := h_f2.all k3 Apart.none
  have K13 := K0.trans k3 (fun _ _ x => x.elim)
  refine wl_v (.int .i64 (0)) rfl rfl (y_asg rfl rfl ⟨rfl, rfl⟩) ?_
  refine wl_nil fun F14 hF15 => ?_
  have s16 : F14 51 = undef := (hF15 51).trans rfl
  have s17 : F14 1 = .pointer (some ⟨p1, 0, none⟩) := (hF15 1).trans rfl
  clear hF15
  refine then_normal ?_
  refine wq_seq ?_
  refine wq_seq ?_
  rcases Bool.eq_false_or_eq_true (sideB ((f).W)) with d18 | d18
  · skip
    rcases Bool.eq_false_or_eq_true (sideB ((f).H)) with d19 | d19
    · skip
      by_cases d20 : (((((f).p0).length : Nat) : Int)) ≠ ((f).W * (f).H)
      · skip
        refine wq_region ?_
        refine wl_v (.pointer (some ⟨p1, 0, none⟩)) rfl rfl (y_fieldR (n := 1) rfl s17 Try.underlying25 rfl (by kernel_rfl) (by decide) rfl ⟨rfl, rfl⟩) ?_
        refine wl_v (.int .i64 ((f).W)) rfl rfl (y_ld_stc rfl rfl Try.underlying3 B4 rfl rfl ⟨rfl, rfl⟩) ?_
        refine wl_call (R := fun v_ w_ => v_ = .bool true ∧ Kept (fun _ => False) w2 w_) rfl rfl (y_cs rfl rfl rfl (fun _ _ => by kernel_rfl) (ev_func _) (vsC rfl vsN) (fref_side ((f).W)  _   ) (fun e_ w_ h_ => ⟨_, h_.1, (congrArg Value.bool d18), h_.2⟩)) ?_
        rintro _ w21 ⟨rfl, k22⟩
        have B23 := B10.all k22 Apart.none
        have B24 := B11.all k22 Apart.none
        have B25 := B12.all k22 Apart.none
        have B26 := B4.all k22 id
        have K27 := K13.trans k22 (fun _ _ x => x.elim)
        refine wl_v (.bool false) rfl rfl (y_not rfl rfl rfl ⟨rfl, rfl⟩) ?_
        refine wl_v (.bool false) rfl rfl (y_mov rfl rfl ⟨rfl, rfl⟩) ?_
        refine wl_vw (.pointer (some ⟨p1, 1, none⟩)) 4 false 7 rfl rfl rfl rfl rfl (y_fieldR (n := 1) rfl s17 Try.underlying25 rfl (by kernel_rfl) (by decide) rfl ⟨rfl, rfl⟩) ?_
        refine wl_vw (.int .i64 ((f).H)) 4 false 7 rfl rfl rfl rfl rfl (y_ld_stc rfl rfl Try.underlying3 B26 rfl rfl ⟨rfl, rfl⟩) ?_
        refine wl_callw (R := fun v_ w_ => v_ = .bool true ∧ Kept (fun _ => False) w21 w_) 4 false 7 rfl rfl rfl rfl rfl (y_cs rfl rfl rfl (fun _ _ => by kernel_rfl) (ev_func _) (vsC rfl vsN) (fref_side ((f).H)  _   ) (fun e_ w_ h_ => ⟨_, h_.1, (congrArg Value.bool d19), h_.2⟩)) ?_
        rintro _ w28 ⟨rfl, k29⟩
        have B30 := B23.all k29 Apart.none
        have B31 := B24.all k29 Apart.none
        have B32 := B25.all k29 Apart.none
        have B33 := B26.all k29 id
        have K34 := K27.trans k29 (fun _ _ x => x.elim)
        refine wl_vw (.bool false) 4 false 7 rfl rfl rfl rfl rfl (y_not rfl rfl rfl ⟨rfl, rfl⟩) ?_
        refine wl_v (.bool false) rfl rfl (y_pickF rfl rfl rfl ⟨rfl, rfl⟩) ?_
        refine wl_v (.bool false) rfl rfl (y_mov rfl rfl ⟨rfl, rfl⟩) ?_
        refine wl_vw (.pointer (some ⟨p1, 2, none⟩)) 10 false 13 rfl rfl rfl rfl rfl (y_fieldR (n := 3) rfl s17 Try.underlying25 rfl (by kernel_rfl) (by decide) rfl ⟨rfl, rfl⟩) ?_
        refine wl_vw (.pointer (some ⟨p1, 2, none⟩)) 10 false 13 rfl rfl rfl rfl rfl (y_atR (0) (s := 1) rfl rfl rfl (by omega) Try.underlying23 (by omega) (by kernel_rfl) (by omega) ⟨rfl, rfl⟩) ?_
        refine wl_vw (f0) 10 false 13 rfl rfl rfl rfl rfl (y_ld_stc rfl rfl Try.underlying22 B33 rfl rfl ⟨rfl, rfl⟩) ?_
        refine wl_vw (.int .i64 (((((f).p0).length : Nat) : Int))) 10 false 13 rfl rfl rfl rfl rfl (y_lenV rfl rfl rfl B30 ⟨rfl, rfl⟩) ?_
        refine wl_vw (.pointer (some ⟨p1, 0, none⟩)) 10 false 13 rfl rfl rfl rfl rfl (y_fieldR (n := 1) rfl s17 Try.underlying25 rfl (by kernel_rfl) (by decide) rfl ⟨rfl, rfl⟩) ?_
        refine wl_vw (.int .i64 ((f).W)) 10 false 13 rfl rfl rfl rfl rfl (y_ld_stc rfl rfl Try.underlying3 B33 rfl rfl ⟨rfl, rfl⟩) ?_
        refine wl_vw (.pointer (some ⟨p1, 1, none⟩)) 10 false 13 rfl rfl rfl rfl rfl (y_fieldR (n := 1) rfl s17 Try.underlying25 rfl (by kernel_rfl) (by decide) rfl ⟨rfl, rfl⟩) ?_
        refine wl_vw (.int .i64 ((f).H)) 10 false 13 rfl rfl rfl rfl rfl (y_ld_stc rfl rfl Try.underlying3 B33 rfl rfl ⟨rfl, rfl⟩) ?_
        refine wl_vw (.int .i64 ((f).W * (f).H)) 10 false 13 rfl rfl rfl rfl rfl (y_mul rfl rfl rfl (i64_i rfl (by have h := hmul (by assumption) (by assumption); omega)) ⟨rfl, rfl⟩) ?_
        refine wl_vw (.bool true) 10 false 13 rfl rfl rfl rfl rfl (y_neqI rfl rfl rfl (decide_eq_true d20) ⟨rfl, rfl⟩) ?_
        refine wl_v (.bool true) rfl rfl (y_pickF rfl rfl rfl ⟨rfl, rfl⟩) ?_
        refine wl_v (.bool true) rfl rfl (y_mov rfl rfl ⟨rfl, rfl⟩) ?_
        refine wl_unless 22 false 25 rfl rfl rfl (Or.inl rfl) rfl ?_
        refine wl_unless 22 false 25 rfl rfl rfl (Or.inl rfl) rfl ?_
        refine wl_unless 22 false 25 rfl rfl rfl (Or.inl rfl) rfl ?_
        refine wl_unless 22 false 25 rfl rfl rfl (Or.inl rfl) rfl ?_
        refine wl_unless 22 false 25 rfl rfl rfl (Or.inl rfl) rfl ?_
        refine wl_unless 22 false 25 rfl rfl rfl (Or.inl rfl) rfl ?_
        refine wl_unless 22 false 25 rfl rfl rfl (Or.inl rfl) rfl ?_
        refine wl_unless 22 false 25 rfl rfl rfl (Or.inl rfl) rfl ?_
        refine wl_unless 22 false 25 rfl rfl rfl (Or.inl rfl) rfl ?_
        refine wl_unless 22 false 25 rfl rfl rfl (Or.inl rfl) rfl ?_
        refine wl_unless 22 false 25 rfl rfl rfl (Or.inl rfl) rfl ?_
        refine wl_v (.bool true) rfl rfl (y_pickT rfl rfl rfl ⟨rfl, rfl⟩) ?_
        refine wl_v (.bool true) rfl rfl (y_mov rfl rfl ⟨rfl, rfl⟩) ?_
        refine wl_unless 35 false 38 rfl rfl rfl (Or.inl rfl) rfl ?_
        refine wl_unless 35 false 38 rfl rfl rfl (Or.inl rfl) rfl ?_
        refine wl_unless 35 false 38 rfl rfl rfl (Or.inl rfl) rfl ?_
        refine wl_unless 35 false 38 rfl rfl rfl (Or.inl rfl) rfl ?_
        refine wl_unless 35 false 38 rfl rfl rfl (Or.inl rfl) rfl ?_
        refine wl_unless 35 false 38 rfl rfl rfl (Or.inl rfl) rfl ?_
        refine wl_unless 35 false 38 rfl rfl rfl (Or.inl rfl) rfl ?_
        refine wl_unless 35 false 38 rfl rfl rfl (Or.inl rfl) rfl ?_
        refine wl_unless 35 false 38 rfl rfl rfl (Or.inl rfl) rfl ?_
        refine wl_unless 35 false 38 rfl rfl rfl (Or.inl rfl) rfl ?_
        refine wl_unless 35 false 38 rfl rfl rfl (Or.inl rfl) rfl ?_
        refine wl_v (.bool true) rfl rfl (y_pickT rfl rfl rfl ⟨rfl, rfl⟩) ?_
        refine wl_nil fun F35 hF36 => ?_
        have s37 : F35 51 = undef := (hF36 51).trans s16
        have s38 : F35 50 = .bool true := (hF36 50).trans rfl
        clear hF36
        refine then_normal ?_
        refine wq_cond (t := true) s38 (fun _ => ?_) (fun e => by cases e)
        refine wq_seq ?_
        refine wq_region ?_
        refine wl_v (.int .i64 (70)) rfl rfl (y_asg rfl rfl ⟨rfl, rfl⟩) ?_
        refine wl_nil fun F39 hF40 => ?_
        have s41 : F39 51 = undef := (hF40 51).trans s37
        have s42 : F39 2 = .int .i64 (70) := (hF40 2).trans rfl
        clear hF40
        refine then_normal ?_
        refine wq_ret ?_
        refine then_ret ?_
        exact end_tmp (v := .int .i64 (70)) s41 rfl rfl s42 ⟨(by first | rw [checkE_ok ⟨by assumption, by assumption, by first | assumption | (apply Decidable.byContradiction; assumption), by first | assumption | (apply Decidable.byContradiction; assumption), by first | assumption | (apply Decidable.byContradiction; assumption)⟩] | rw [checkE_no (by rintro ⟨h1, h2, h3, h4, h5⟩; simp_all)]), K34⟩
      · skip
        by_cases d43 : (((((f).p1).length : Nat) : Int)) ≠ (Int.tdiv ((f).W * (f).H) 4)
        · skip
          refine wq_region ?_
          refine wl_v (.pointer (some ⟨p1, 0, none⟩)) rfl rfl (y_fieldR (n := 1) rfl s17 Try.underlying25 rfl (by kernel_rfl) (by decide) rfl ⟨rfl, rfl⟩) ?_
          refine wl_v (.int .i64 ((f).W)) rfl rfl (y_ld_stc rfl rfl Try.underlying3 B4 rfl rfl ⟨rfl, rfl⟩) ?_
          refine wl_call (R := fun v_ w_ => v_ = .bool true ∧ Kept (fun _ => False) w2 w_) rfl rfl (y_cs rfl rfl rfl (fun _ _ => by kernel_rfl) (ev_func _) (vsC rfl vsN) (fref_side ((f).W)  _   ) (fun e_ w_ h_ => ⟨_, h_.1, (congrArg Value.bool d18), h_.2⟩)) ?_
          rintro _ w44 ⟨rfl, k45⟩
          have B46 := B10.all k45 Apart.none
          have B47 := B11.all k45 Apart.none
          have B48 := B12.all k45 Apart.none
          have B49 := B4.all k45 id
          have K50 := K13.trans k45 (fun _ _ x => x.elim)
          refine wl_v (.bool false) rfl rfl (y_not rfl rfl rfl ⟨rfl, rfl⟩) ?_
          refine wl_v (.bool false) rfl rfl (y_mov rfl rfl ⟨rfl, rfl⟩) ?_
          refine wl_vw (.pointer (some ⟨p1, 1, none⟩)) 4 false 7 rfl rfl rfl rfl rfl (y_fieldR (n := 1) rfl s17 Try.underlying25 rfl (by kernel_rfl) (by decide) rfl ⟨rfl, rfl⟩) ?_
          refine wl_vw (.int .i64 ((f).H)) 4 false 7 rfl rfl rfl rfl rfl (y_ld_stc rfl rfl Try.underlying3 B49 rfl rfl ⟨rfl, rfl⟩) ?_
          refine wl_callw (R := fun v_ w_ => v_ = .bool true ∧ Kept (fun _ => False) w44 w_) 4 false 7 rfl rfl rfl rfl rfl (y_cs rfl rfl rfl (fun _ _ => by kernel_rfl) (ev_func _) (vsC rfl vsN) (fref_side ((f).H)  _   ) (fun e_ w_ h_ => ⟨_, h_.1, (congrArg Value.bool d19), h_.2⟩)) ?_
          rintro _ w51 ⟨rfl, k52⟩
          have B53 := B46.all k52 Apart.none
          have B54 := B47.all k52 Apart.none
          have B55 := B48.all k52 Apart.none
          have B56 := B49.all k52 id
          have K57 := K50.trans k52 (fun _ _ x => x.elim)
          refine wl_vw (.bool false) 4 false 7 rfl rfl rfl rfl rfl (y_not rfl rfl rfl ⟨rfl, rfl⟩) ?_
          refine wl_v (.bool false) rfl rfl (y_pickF rfl rfl rfl ⟨rfl, rfl⟩) ?_
          refine wl_v (.bool false) rfl rfl (y_mov rfl rfl ⟨rfl, rfl⟩) ?_
          refine wl_vw (.pointer (some ⟨p1, 2, none⟩)) 10 false 13 rfl rfl rfl rfl rfl (y_fieldR (n := 3) rfl s17 Try.underlying25 rfl (by kernel_rfl) (by decide) rfl ⟨rfl, rfl⟩) ?_
          refine wl_vw (.pointer (some ⟨p1, 2, none⟩)) 10 false 13 rfl rfl rfl rfl rfl (y_atR (0) (s := 1) rfl rfl rfl (by omega) Try.underlying23 (by omega) (by kernel_rfl) (by omega) ⟨rfl, rfl⟩) ?_
          refine wl_vw (f0) 10 false 13 rfl rfl rfl rfl rfl (y_ld_stc rfl rfl Try.underlying22 B56 rfl rfl ⟨rfl, rfl⟩) ?_
          refine wl_vw (.int .i64 (((((f).p0).length : Nat) : Int))) 10 false 13 rfl rfl rfl rfl rfl (y_lenV rfl rfl rfl B53 ⟨rfl, rfl⟩) ?_
          refine wl_vw (.pointer (some ⟨p1, 0, none⟩)) 10 false 13 rfl rfl rfl rfl rfl (y_fieldR (n := 1) rfl s17 Try.underlying25 rfl (by kernel_rfl) (by decide) rfl ⟨rfl, rfl⟩) ?_
          refine wl_vw (.int .i64 ((f).W)) 10 false 13 rfl rfl rfl rfl rfl (y_ld_stc rfl rfl Try.underlying3 B56 rfl rfl ⟨rfl, rfl⟩) ?_
          refine wl_vw (.pointer (some ⟨p1, 1, none⟩)) 10 false 13 rfl rfl rfl rfl rfl (y_fieldR (n := 1) rfl s17 Try.underlying25 rfl (by kernel_rfl) (by decide) rfl ⟨rfl, rfl⟩) ?_
          refine wl_vw (.int .i64 ((f).H)) 10 false 13 rfl rfl rfl rfl rfl (y_ld_stc rfl rfl Try.underlying3 B56 rfl rfl ⟨rfl, rfl⟩) ?_
          refine wl_vw (.int .i64 ((f).W * (f).H)) 10 false 13 rfl rfl rfl rfl rfl (y_mul rfl rfl rfl (i64_i rfl (by have h := hmul (by assumption) (by assumption); omega)) ⟨rfl, rfl⟩) ?_
          refine wl_vw (.bool false) 10 false 13 rfl rfl rfl rfl rfl (y_neqI rfl rfl rfl (decide_eq_false d20) ⟨rfl, rfl⟩) ?_
          refine wl_v (.bool false) rfl rfl (y_pickF rfl rfl rfl ⟨rfl, rfl⟩) ?_
          refine wl_v (.bool false) rfl rfl (y_mov rfl rfl ⟨rfl, rfl⟩) ?_
          refine wl_vw (.pointer (some ⟨p1, 2, none⟩)) 22 false 25 rfl rfl rfl rfl rfl (y_fieldR (n := 3) rfl s17 Try.underlying25 rfl (by kernel_rfl) (by decide) rfl ⟨rfl, rfl⟩) ?_
          refine wl_vw (.pointer (some ⟨p1, 3, none⟩)) 22 false 25 rfl rfl rfl rfl rfl (y_atR (1) (s := 1) rfl rfl rfl (by omega) Try.underlying23 (by omega) (by kernel_rfl) (by omega) ⟨rfl, rfl⟩) ?_
          refine wl_vw (f1) 22 false 25 rfl rfl rfl rfl rfl (y_ld_stc rfl rfl Try.underlying22 B56 rfl rfl ⟨rfl, rfl⟩) ?_
          refine wl_vw (.int .i64 (((((f).p1).length : Nat) : Int))) 22 false 25 rfl rfl rfl rfl rfl (y_lenV rfl rfl rfl B54 ⟨rfl, rfl⟩) ?_
          refine wl_vw (.pointer (some ⟨p1, 0, none⟩)) 22 false 25 rfl rfl rfl rfl rfl (y_fieldR (n := 1) rfl s17 Try.underlying25 rfl (by kernel_rfl) (by decide) rfl ⟨rfl, rfl⟩) ?_
          refine wl_vw (.int .i64 ((f).W)) 22 false 25 rfl rfl rfl rfl rfl (y_ld_stc rfl rfl Try.underlying3 B56 rfl rfl ⟨rfl, rfl⟩) ?_
          refine wl_vw (.pointer (some ⟨p1, 1, none⟩)) 22 false 25 rfl rfl rfl rfl rfl (y_fieldR (n := 1) rfl s17 Try.underlying25 rfl (by kernel_rfl) (by decide) rfl ⟨rfl, rfl⟩) ?_
          refine wl_vw (.int .i64 ((f).H)) 22 false 25 rfl rfl rfl rfl rfl (y_ld_stc rfl rfl Try.underlying3 B56 rfl rfl ⟨rfl, rfl⟩) ?_
          refine wl_vw (.int .i64 ((f).W * (f).H)) 22 false 25 rfl rfl rfl rfl rfl (y_mul rfl rfl rfl (i64_i rfl (by have h := hmul (by assumption) (by assumption); omega)) ⟨rfl, rfl⟩) ?_
          refine wl_vw (.int .i64 (Int.tdiv ((f).W * (f).H) 4)) 22 false 25 rfl rfl rfl rfl rfl (y_quo rfl rfl rfl (by first | decide | omega) (i64_i rfl (by have h := hmul (by assumption) (by assumption); rw [tdiv4 (by omega)]; omega)) ⟨rfl, rfl⟩) ?_
          refine wl_vw (.bool true) 22 false 25 rfl rfl rfl rfl rfl (y_neqI rfl rfl rfl (decide_eq_true d43) ⟨rfl, rfl⟩) ?_
          refine wl_v (.bool true) rfl rfl (y_pickF rfl rfl rfl ⟨rfl, rfl⟩) ?_
          refine wl_v (.bool true) rfl rfl (y_mov rfl rfl ⟨rfl, rfl⟩) ?_
          refine wl_unless 35 false 38 rfl rfl rfl (Or.inl rfl) rfl ?_
          refine wl_unless 35 false 38 rfl rfl rfl (Or.inl rfl) rfl ?_
          refine wl_unless 35 false 38 rfl rfl rfl (Or.inl rfl) rfl ?_
          refine wl_unless 35 false 38 rfl rfl rfl (Or.inl rfl) rfl ?_
          refine wl_unless 35 false 38 rfl rfl rfl (Or.inl rfl) rfl ?_
          refine wl_unless 35 false 38 rfl rfl rfl (Or.inl rfl) rfl ?_
          refine wl_unless 35 false 38 rfl rfl rfl (Or.inl rfl) rfl ?_
          refine wl_unless 35 false 38 rfl rfl rfl (Or.inl rfl) rfl ?_
          refine wl_unless 35 false 38 rfl rfl rfl (Or.inl rfl) rfl ?_
          refine wl_unless 35 false 38 rfl rfl rfl (Or.inl rfl) rfl ?_
          refine wl_unless 35 false 38 rfl rfl rfl (Or.inl rfl) rfl ?_
          refine wl_v (.bool true) rfl rfl (y_pickT rfl rfl rfl ⟨rfl, rfl⟩) ?_
          refine wl_nil fun F58 hF59 => ?_
          have s60 : F58 51 = undef := (hF59 51).trans s16
          have s61 : F58 50 = .bool true := (hF59 50).trans rfl
          clear hF59
          refine then_normal ?_
          refine wq_cond (t := true) s61 (fun _ => ?_) (fun e => by cases e)
          refine wq_seq ?_
          refine wq_region ?_
          refine wl_v (.int .i64 (70)) rfl rfl (y_asg rfl rfl ⟨rfl, rfl⟩) ?_
          refine wl_nil fun F62 hF63 => ?_
          have s64 : F62 51 = undef := (hF63 51).trans s60
          have s65 : F62 2 = .int .i64 (70) := (hF63 2).trans rfl
          clear hF63
          refine then_normal ?_
          refine wq_ret ?_
          refine then_ret ?_
          exact end_tmp (v := .int .i64 (70)) s64 rfl rfl s65 ⟨(by first | rw [checkE_ok ⟨by assumption, by assumption, by first | assumption | (apply Decidable.byContradiction; assumption), by first | assumption | (apply Decidable.byContradiction; assumption), by first | assumption | (apply Decidable.byContradiction; assumption)⟩] | rw [checkE_no (by rintro ⟨h1, h2, h3, h4, h5⟩; simp_all)]), K57⟩
        · skip
          refine wq_region ?_
          refine wl_v (.pointer (some ⟨p1, 0, none⟩)) rfl rfl (y_fieldR (n := 1) rfl s17 Try.underlying25 rfl (by kernel_rfl) (by decide) rfl ⟨rfl, rfl⟩) ?_
          refine wl_v (.int .i64 ((f).W)) rfl rfl (y_ld_stc rfl rfl Try.underlying3 B4 rfl rfl ⟨rfl, rfl⟩) ?_
          refine wl_call (R := fun v_ w_ => v_ = .bool true ∧ Kept (fun _ => False) w2 w_) rfl rfl (y_cs rfl rfl rfl (fun _ _ => by kernel_rfl) (ev_func _) (vsC rfl vsN) (fref_side ((f).W)  _   ) (fun e_ w_ h_ => ⟨_, h_.1, (congrArg Value.bool d18), h_.2⟩)) ?_
          rintro _ w66 ⟨rfl, k67⟩
          have B68 := B10.all k67 Apart.none
          have B69 := B11.all k67 Apart.none
          have B70 := B12.all k67 Apart.none
          have B71 := B4.all k67 id
          have K72 := K13.trans k67 (fun _ _ x => x.elim)
          refine wl_v (.bool false) rfl rfl (y_not rfl rfl rfl ⟨rfl, rfl⟩) ?_
          refine wl_v (.bool false) rfl rfl (y_mov rfl rfl ⟨rfl, rfl⟩) ?_
          refine wl_vw (.pointer (some ⟨p1, 1, none⟩)) 4 false 7 rfl rfl rfl rfl rfl (y_fieldR (n := 1) rfl s17 Try.underlying25 rfl (by kernel_rfl) (by decide) rfl ⟨rfl, rfl⟩) ?_
          refine wl_vw (.int .i64 ((f).H)) 4 false 7 rfl rfl rfl rfl rfl (y_ld_stc rfl rfl Try.underlying3 B71 rfl rfl ⟨rfl, rfl⟩) ?_
          refine wl_callw (R := fun v_ w_ => v_ = .bool true ∧ Kept (fun _ => False) w66 w_) 4 false 7 rfl rfl rfl rfl rfl (y_cs rfl rfl rfl (fun _ _ => by kernel_rfl) (ev_func _) (vsC rfl vsN) (fref_side ((f).H)  _   ) (fun e_ w_ h_ => ⟨_, h_.1, (congrArg Value.bool d19), h_.2⟩)) ?_
          rintro _ w73 ⟨rfl, k74⟩
          have B75 := B68.all k74 Apart.none
          have B76 := B69.all k74 Apart.none
          have B77 := B70.all k74 Apart.none
          have B78 := B71.all k74 id
          have K79 := K72.trans k74 (fun _ _ x => x.elim)
          refine wl_vw (.bool false) 4 false 7 rfl rfl rfl rfl rfl (y_not rfl rfl rfl ⟨rfl, rfl⟩) ?_
          refine wl_v (.bool false) rfl rfl (y_pickF rfl rfl rfl ⟨rfl, rfl⟩) ?_
          refine wl_v (.bool false) rfl rfl (y_mov rfl rfl ⟨rfl, rfl⟩) ?_
          refine wl_vw (.pointer (some ⟨p1, 2, none⟩)) 10 false 13 rfl rfl rfl rfl rfl (y_fieldR (n := 3) rfl s17 Try.underlying25 rfl (by kernel_rfl) (by decide) rfl ⟨rfl, rfl⟩) ?_
          refine wl_vw (.pointer (some ⟨p1, 2, none⟩)) 10 false 13 rfl rfl rfl rfl rfl (y_atR (0) (s := 1) rfl rfl rfl (by omega) Try.underlying23 (by omega) (by kernel_rfl) (by omega) ⟨rfl, rfl⟩) ?_
          refine wl_vw (f0) 10 false 13 rfl rfl rfl rfl rfl (y_ld_stc rfl rfl Try.underlying22 B78 rfl rfl ⟨rfl, rfl⟩) ?_
          refine wl_vw (.int .i64 (((((f).p0).length : Nat) : Int))) 10 false 13 rfl rfl rfl rfl rfl (y_lenV rfl rfl rfl B75 ⟨rfl, rfl⟩) ?_
          refine wl_vw (.pointer (some ⟨p1, 0, none⟩)) 10 false 13 rfl rfl rfl rfl rfl (y_fieldR (n := 1) rfl s17 Try.underlying25 rfl (by kernel_rfl) (by decide) rfl ⟨rfl, rfl⟩) ?_
          refine wl_vw (.int .i64 ((f).W)) 10 false 13 rfl rfl rfl rfl rfl (y_ld_stc rfl rfl Try.underlying3 B78 rfl rfl ⟨rfl, rfl⟩) ?_
          refine wl_vw (.pointer (some ⟨p1, 1, none⟩)) 10 false 13 rfl rfl rfl rfl rfl (y_fieldR (n := 1) rfl s17 Try.underlying25 rfl (by kernel_rfl) (by decide) rfl ⟨rfl, rfl⟩) ?_
          refine wl_vw (.int .i64 ((f).H)) 10 false 13 rfl rfl rfl rfl rfl (y_ld_stc rfl rfl Try.underlying3 B78 rfl rfl ⟨rfl, rfl⟩) ?_
          refine wl_vw (.int .i64 ((f).W * (f).H)) 10 false 13 rfl rfl rfl rfl rfl (y_mul rfl rfl rfl (i64_i rfl (by have h := hmul (by assumption) (by assumption); omega)) ⟨rfl, rfl⟩) ?_
          refine wl_vw (.bool false) 10 false 13 rfl rfl rfl rfl rfl (y_neqI rfl rfl rfl (decide_eq_false d20) ⟨rfl, rfl⟩) ?_
          refine wl_v (.bool false) rfl rfl (y_pickF rfl rfl rfl ⟨rfl, rfl⟩) ?_
          refine wl_v (.bool false) rfl rfl (y_mov rfl rfl ⟨rfl, rfl⟩) ?_
          refine wl_vw (.pointer (some ⟨p1, 2, none⟩)) 22 false 25 rfl rfl rfl rfl rfl (y_fieldR (n := 3) rfl s17 Try.underlying25 rfl (by kernel_rfl) (by decide) rfl ⟨rfl, rfl⟩) ?_
          refine wl_vw (.pointer (some ⟨p1, 3, none⟩)) 22 false 25 rfl rfl rfl rfl rfl (y_atR (1) (s := 1) rfl rfl rfl (by omega) Try.underlying23 (by omega) (by kernel_rfl) (by omega) ⟨rfl, rfl⟩) ?_
          refine wl_vw (f1) 22 false 25 rfl rfl rfl rfl rfl (y_ld_stc rfl rfl Try.underlying22 B78 rfl rfl ⟨rfl, rfl⟩) ?_
          refine wl_vw (.int .i64 (((((f).p1).length : Nat) : Int))) 22 false 25 rfl rfl rfl rfl rfl (y_lenV rfl rfl rfl B76 ⟨rfl, rfl⟩) ?_
          refine wl_vw (.pointer (some ⟨p1, 0, none⟩)) 22 false 25 rfl rfl rfl rfl rfl (y_fieldR (n := 1) rfl s17 Try.underlying25 rfl (by kernel_rfl) (by decide) rfl ⟨rfl, rfl⟩) ?_
          refine wl_vw (.int .i64 ((f).W)) 22 false 25 rfl rfl rfl rfl rfl (y_ld_stc rfl rfl Try.underlying3 B78 rfl rfl ⟨rfl, rfl⟩) ?_
          refine wl_vw (.pointer (some ⟨p1, 1, none⟩)) 22 false 25 rfl rfl rfl rfl rfl (y_fieldR (n := 1) rfl s17 Try.underlying25 rfl (by kernel_rfl) (by decide) rfl ⟨rfl, rfl⟩) ?_
          refine wl_vw (.int .i64 ((f).H)) 22 false 25 rfl rfl rfl rfl rfl (y_ld_stc rfl rfl Try.underlying3 B78 rfl rfl ⟨rfl, rfl⟩) ?_
          refine wl_vw (.int .i64 ((f).W * (f).H)) 22 false 25 rfl rfl rfl rfl rfl (y_mul rfl rfl rfl (i64_i rfl (by have h := hmul (by assumption) (by assumption); omega)) ⟨rfl, rfl⟩) ?_
          refine wl_vw (.int .i64 (Int.tdiv ((f).W * (f).H) 4)) 22 false 25 rfl rfl rfl rfl rfl (y_quo rfl rfl rfl (by first | decide | omega) (i64_i rfl (by have h := hmul (by assumption) (by assumption); rw [tdiv4 (by omega)]; omega)) ⟨rfl, rfl⟩) ?_
          refine wl_vw (.bool false) 22 false 25 rfl rfl rfl rfl rfl (y_neqI rfl rfl rfl (decide_eq_false d43) ⟨rfl, rfl⟩) ?_
          refine wl_v (.bool false) rfl rfl (y_pickF rfl rfl rfl ⟨rfl, rfl⟩) ?_
          refine wl_v (.bool false) rfl rfl (y_mov rfl rfl ⟨rfl, rfl⟩) ?_
          refine wl_vw (.pointer (some ⟨p1, 2, none⟩)) 35 false 38 rfl rfl rfl rfl rfl (y_fieldR (n := 3) rfl s17 Try.underlying25 rfl (by kernel_rfl) (by decide) rfl ⟨rfl, rfl⟩) ?_
          refine wl_vw (.pointer (some ⟨p1, 4, none⟩)) 35 false 38 rfl rfl rfl rfl rfl (y_atR (2) (s := 1) rfl rfl rfl (by omega) Try.underlying23 (by omega) (by kernel_rfl) (by omega) ⟨rfl, rfl⟩) ?_
          refine wl_vw (f2) 35 false 38 rfl rfl rfl rfl rfl (y_ld_stc rfl rfl Try.underlying22 B78 rfl rfl ⟨rfl, rfl⟩) ?_
          refine wl_vw (.int .i64 (((((f).p2).length : Nat) : Int))) 35 false 38 rfl rfl rfl rfl rfl (y_lenV rfl rfl rfl B77 ⟨rfl, rfl⟩) ?_
          refine wl_vw (.pointer (some ⟨p1, 0, none⟩)) 35 false 38 rfl rfl rfl rfl rfl (y_fieldR (n := 1) rfl s17 Try.underlying25 rfl (by kernel_rfl) (by decide) rfl ⟨rfl, rfl⟩) ?_
          refine wl_vw (.int .i64 ((f).W)) 35 false 38 rfl rfl rfl rfl rfl (y_ld_stc rfl rfl Try.underlying3 B78 rfl rfl ⟨rfl, rfl⟩) ?_
          refine wl_vw (.pointer (some ⟨p1, 1, none⟩)) 35 false 38 rfl rfl rfl rfl rfl (y_fieldR (n := 1) rfl s17 Try.underlying25 rfl (by kernel_rfl) (by decide) rfl ⟨rfl, rfl⟩) ?_
          refine wl_vw (.int .i64 ((f).H)) 35 false 38 rfl rfl rfl rfl rfl (y_ld_stc rfl rfl Try.underlying3 B78 rfl rfl ⟨rfl, rfl⟩) ?_
          refine wl_vw (.int .i64 ((f).W * (f).H)) 35 false 38 rfl rfl rfl rfl rfl (y_mul rfl rfl rfl (i64_i rfl (by have h := hmul (by assumption) (by assumption); omega)) ⟨rfl, rfl⟩) ?_
          refine wl_vw (.int .i64 (Int.tdiv ((f).W * (f).H) 4)) 35 false 38 rfl rfl rfl rfl rfl (y_quo rfl rfl rfl (by first | decide | omega) (i64_i rfl (by have h := hmul (by assumption) (by assumption); rw [tdiv4 (by omega)]; omega)) ⟨rfl, rfl⟩) ?_
          refine wl_vw (.bool (decide ((((((f).p2).length : Nat) : Int)) ≠ (Int.tdiv ((f).W * (f).H) 4)))) 35 false 38 rfl rfl rfl rfl rfl (y_neqI rfl rfl rfl rfl ⟨rfl, rfl⟩) ?_
          refine wl_v (.bool (decide ((((((f).p2).length : Nat) : Int)) ≠ (Int.tdiv ((f).W * (f).H) 4)))) rfl rfl (y_pickF rfl rfl rfl ⟨rfl, rfl⟩) ?_
          refine wl_nil fun F80 hF81 => ?_
          have s82 : F80 51 = undef := (hF81 51).trans s16
          have s83 : F80 50 = .bool (decide ((((((f).p2).length : Nat) : Int)) ≠ (Int.tdiv ((f).W * (f).H) 4))) := (hF81 50).trans rfl
          clear hF81
          refine then_normal ?_
          refine wq_cond s83 (fun c84 => ?_) (fun c84 => ?_)
          · replace c84 := of_decide_eq_true c84
            refine wq_seq ?_
            refine wq_region ?_
            refine wl_v (.int .i64 (70)) rfl rfl (y_asg rfl rfl ⟨rfl, rfl⟩) ?_
            refine wl_nil fun F85 hF86 => ?_
            have s87 : F85 51 = undef := (hF86 51).trans s82
            have s88 : F85 2 = .int .i64 (70) := (hF86 2).trans rfl
            clear hF86
            refine then_normal ?_
            refine wq_ret ?_
            refine then_ret ?_
            exact end_tmp (v := .int .i64 (70)) s87 rfl rfl s88 ⟨(by first | rw [checkE_ok ⟨by assumption, by assumption, by first | assumption | (apply Decidable.byContradiction; assumption), by first | assumption | (apply Decidable.byContradiction; assumption), by first | assumption | (apply Decidable.byContradiction; assumption)⟩] | rw [checkE_no (by rintro ⟨h1, h2, h3, h4, h5⟩; simp_all)]), K79⟩
          · replace c84 := of_decide_eq_false c84
            refine wq_skip ?_
            refine then_normal ?_
            refine wq_seq ?_
            refine wq_region ?_
            refine wl_v (.int .i64 (0)) rfl rfl (y_asg rfl rfl ⟨rfl, rfl⟩) ?_
            refine wl_nil fun F89 hF90 => ?_
            have s91 : F89 51 = undef := (hF90 51).trans s82
            have s92 : F89 2 = .int .i64 (0) := (hF90 2).trans rfl
            clear hF90
            refine then_normal ?_
            refine wq_ret ?_
            exact end_tmp (v := .int .i64 (0)) s91 rfl rfl s92 ⟨(by first | rw [checkE_ok ⟨by assumption, by assumption, by first | assumption | (apply Decidable.byContradiction; assumption), by first | assumption | (apply Decidable.byContradiction; assumption), by first | assumption | (apply Decidable.byContradiction; assumption)⟩] | rw [checkE_no (by rintro ⟨h1, h2, h3, h4, h5⟩; simp_all)]), K79⟩
    · skip
      refine wq_region ?_
      refine wl_v (.pointer (some ⟨p1, 0, none⟩)) rfl rfl (y_fieldR (n := 1) rfl s17 Try.underlying25 rfl (by kernel_rfl) (by decide) rfl ⟨rfl, rfl⟩) ?_
      refine wl_v (.int .i64 ((f).W)) rfl rfl (y_ld_stc rfl rfl Try.underlying3 B4 rfl rfl ⟨rfl, rfl⟩) ?_
      refine wl_call (R := fun v_ w_ => v_ = .bool true ∧ Kept (fun _ => False) w2 w_) rfl rfl (y_cs rfl rfl rfl (fun _ _ => by kernel_rfl) (ev_func _) (vsC rfl vsN) (fref_side ((f).W)  _   ) (fun e_ w_ h_ => ⟨_, h_.1, (congrArg Value.bool d18), h_.2⟩)) ?_
      rintro _ w93 ⟨rfl, k94⟩
      have B95 := B10.all k94 Apart.none
      have B96 := B11.all k94 Apart.none
      have B97 := B12.all k94 Apart.none
      have B98 := B4.all k94 id
      have K99 := K13.trans k94 (fun _ _ x => x.elim)
      refine wl_v (.bool false) rfl rfl (y_not rfl rfl rfl ⟨rfl, rfl⟩) ?_
      refine wl_v (.bool false) rfl rfl (y_mov rfl rfl ⟨rfl, rfl⟩) ?_
      refine wl_vw (.pointer (some ⟨p1, 1, none⟩)) 4 false 7 rfl rfl rfl rfl rfl (y_fieldR (n := 1) rfl s17 Try.underlying25 rfl (by kernel_rfl) (by decide) rfl ⟨rfl, rfl⟩) ?_
      refine wl_vw (.int .i64 ((f).H)) 4 false 7 rfl rfl rfl rfl rfl (y_ld_stc rfl rfl Try.underlying3 B98 rfl rfl ⟨rfl, rfl⟩) ?_
      refine wl_callw (R := fun v_ w_ => v_ = .bool false ∧ Kept (fun _ => False) w93 w_) 4 false 7 rfl rfl rfl rfl rfl (y_cs rfl rfl rfl (fun _ _ => by kernel_rfl) (ev_func _) (vsC rfl vsN) (fref_side ((f).H)  _   ) (fun e_ w_ h_ => ⟨_, h_.1, (congrArg Value.bool d19), h_.2⟩)) ?_
      rintro _ w100 ⟨rfl, k101⟩
      have B102 := B95.all k101 Apart.none
      have B103 := B96.all k101 Apart.none
      have B104 := B97.all k101 Apart.none
      have B105 := B98.all k101 id
      have K106 := K99.trans k101 (fun _ _ x => x.elim)
      refine wl_vw (.bool true) 4 false 7 rfl rfl rfl rfl rfl (y_not rfl rfl rfl ⟨rfl, rfl⟩) ?_
      refine wl_v (.bool true) rfl rfl (y_pickF rfl rfl rfl ⟨rfl, rfl⟩) ?_
      refine wl_v (.bool true) rfl rfl (y_mov rfl rfl ⟨rfl, rfl⟩) ?_
      refine wl_unless 10 false 13 rfl rfl rfl (Or.inl rfl) rfl ?_
      refine wl_unless 10 false 13 rfl rfl rfl (Or.inl rfl) rfl ?_
      refine wl_unless 10 false 13 rfl rfl rfl (Or.inl rfl) rfl ?_
      refine wl_unless 10 false 13 rfl rfl rfl (Or.inl rfl) rfl ?_
      refine wl_unless 10 false 13 rfl rfl rfl (Or.inl rfl) rfl ?_
      refine wl_unless 10 false 13 rfl rfl rfl (Or.inl rfl) rfl ?_
      refine wl_unless 10 false 13 rfl rfl rfl (Or.inl rfl) rfl ?_
      refine wl_unless 10 false 13 rfl rfl rfl (Or.inl rfl) rfl ?_
      refine wl_unless 10 false 13 rfl rfl rfl (Or.inl rfl) rfl ?_
      refine wl_unless 10 false 13 rfl rfl rfl (Or.inl rfl) rfl ?_
      refine wl_v (.bool true) rfl rfl (y_pickT rfl rfl rfl ⟨rfl, rfl⟩) ?_
      refine wl_v (.bool true) rfl rfl (y_mov rfl rfl ⟨rfl, rfl⟩) ?_
      refine wl_unless 22 false 25 rfl rfl rfl (Or.inl rfl) rfl ?_
      refine wl_unless 22 false 25 rfl rfl rfl (Or.inl rfl) rfl ?_
      refine wl_unless 22 false 25 rfl rfl rfl (Or.inl rfl) rfl ?_
      refine wl_unless 22 false 25 rfl rfl rfl (Or.inl rfl) rfl ?_
      refine wl_unless 22 false 25 rfl rfl rfl (Or.inl rfl) rfl ?_
      refine wl_unless 22 false 25 rfl rfl rfl (Or.inl rfl) rfl ?_
      refine wl_unless 22 false 25 rfl rfl rfl (Or.inl rfl) rfl ?_
      refine wl_unless 22 false 25 rfl rfl rfl (Or.inl rfl) rfl ?_
      refine wl_unless 22 false 25 rfl rfl rfl (Or.inl rfl) rfl ?_
      refine wl_unless 22 false 25 rfl rfl rfl (Or.inl rfl) rfl ?_
      refine wl_unless 22 false 25 rfl rfl rfl (Or.inl rfl) rfl ?_
      refine wl_v (.bool true) rfl rfl (y_pickT rfl rfl rfl ⟨rfl, rfl⟩) ?_
      refine wl_v (.bool true) rfl rfl (y_mov rfl rfl ⟨rfl, rfl⟩) ?_
      refine wl_unless 35 false 38 rfl rfl rfl (Or.inl rfl) rfl ?_
      refine wl_unless 35 false 38 rfl rfl rfl (Or.inl rfl) rfl ?_
      refine wl_unless 35 false 38 rfl rfl rfl (Or.inl rfl) rfl ?_
      refine wl_unless 35 false 38 rfl rfl rfl (Or.inl rfl) rfl ?_
      refine wl_unless 35 false 38 rfl rfl rfl (Or.inl rfl) rfl ?_
      refine wl_unless 35 false 38 rfl rfl rfl (Or.inl rfl) rfl ?_
      refine wl_unless 35 false 38 rfl rfl rfl (Or.inl rfl) rfl ?_
      refine wl_unless 35 false 38 rfl rfl rfl (Or.inl rfl) rfl ?_
      refine wl_unless 35 false 38 rfl rfl rfl (Or.inl rfl) rfl ?_
      refine wl_unless 35 false 38 rfl rfl rfl (Or.inl rfl) rfl ?_
      refine wl_unless 35 false 38 rfl rfl rfl (Or.inl rfl) rfl ?_
      refine wl_v (.bool true) rfl rfl (y_pickT rfl rfl rfl ⟨rfl, rfl⟩) ?_
      refine wl_nil fun F107 hF108 => ?_
      have s109 : F107 51 = undef := (hF108 51).trans s16
      have s110 : F107 50 = .bool true := (hF108 50).trans rfl
      clear hF108
      refine then_normal ?_
      refine wq_cond (t := true) s110 (fun _ => ?_) (fun e => by cases e)
      refine wq_seq ?_
      refine wq_region ?_
      refine wl_v (.int .i64 (70)) rfl rfl (y_asg rfl rfl ⟨rfl, rfl⟩) ?_
      refine wl_nil fun F111 hF112 => ?_
      have s113 : F111 51 = undef := (hF112 51).trans s109
      have s114 : F111 2 = .int .i64 (70) := (hF112 2).trans rfl
      clear hF112
      refine then_normal ?_
      refine wq_ret ?_
      refine then_ret ?_
      exact end_tmp (v := .int .i64 (70)) s113 rfl rfl s114 ⟨(by first | rw [checkE_ok ⟨by assumption, by assumption, by first | assumption | (apply Decidable.byContradiction; assumption), by first | assumption | (apply Decidable.byContradiction; assumption), by first | assumption | (apply Decidable.byContradiction; assumption)⟩] | rw [checkE_no (by rintro ⟨h1, h2, h3, h4, h5⟩; simp_all)]), K106⟩
  · skip
    refine wq_region ?_
    refine wl_v (.pointer (some ⟨p1, 0, none⟩)) rfl rfl (y_fieldR (n := 1) rfl s17 Try.underlying25 rfl (by kernel_rfl) (by decide) rfl ⟨rfl, rfl⟩) ?_
    refine wl_v (.int .i64 ((f).W)) rfl rfl (y_ld_stc rfl rfl Try.underlying3 B4 rfl rfl ⟨rfl, rfl⟩) ?_
    refine wl_call (R := fun v_ w_ => v_ = .bool false ∧ Kept (fun _ => False) w2 w_) rfl rfl (y_cs rfl rfl rfl (fun _ _ => by kernel_rfl) (ev_func _) (vsC rfl vsN) (fref_side ((f).W)  _   ) (fun e_ w_ h_ => ⟨_, h_.1, (congrArg Value.bool d18), h_.2⟩)) ?_
    rintro _ w115 ⟨rfl, k116⟩
    have B117 := B10.all k116 Apart.none
    have B118 := B11.all k116 Apart.none
    have B119 := B12.all k116 Apart.none
    have B120 := B4.all k116 id
    have K121 := K13.trans k116 (fun _ _ x => x.elim)
    refine wl_v (.bool true) rfl rfl (y_not rfl rfl rfl ⟨rfl, rfl⟩) ?_
    refine wl_v (.bool true) rfl rfl (y_mov rfl rfl ⟨rfl, rfl⟩) ?_
    refine wl_unless 4 false 7 rfl rfl rfl (Or.inl rfl) rfl ?_
    refine wl_unless 4 false 7 rfl rfl rfl (Or.inl rfl) rfl ?_
    refine wl_unless 4 false 7 rfl rfl rfl (Or.inl rfl) rfl ?_
    refine wl_unless 4 false 7 rfl rfl rfl (Or.inl rfl) rfl ?_
    refine wl_v (.bool true) rfl rfl (y_pickT rfl rfl rfl ⟨rfl, rfl⟩) ?_
    refine wl_v (.bool true) rfl rfl (y_mov rfl rfl ⟨rfl, rfl⟩) ?_
    refine wl_unless 10 false 13 rfl rfl rfl (Or.inl rfl) rfl ?_
    refine wl_unless 10 false 13 rfl rfl rfl (Or.inl rfl) rfl ?_
    refine wl_unless 10 false 13 rfl rfl rfl (Or.inl rfl) rfl ?_
    refine wl_unless 10 false 13 rfl rfl rfl (Or.inl rfl) rfl ?_
    refine wl_unless 10 false 13 rfl rfl rfl (Or.inl rfl) rfl ?_
    refine wl_unless 10 false 13 rfl rfl rfl (Or.inl rfl) rfl ?_
    refine wl_unless 10 false 13 rfl rfl rfl (Or.inl rfl) rfl ?_
    refine wl_unless 10 false 13 rfl rfl rfl (Or.inl rfl) rfl ?_
    refine wl_unless 10 false 13 rfl rfl rfl (Or.inl rfl) rfl ?_
    refine wl_unless 10 false 13 rfl rfl rfl (Or.inl rfl) rfl ?_
    refine wl_v (.bool true) rfl rfl (y_pickT rfl rfl rfl ⟨rfl, rfl⟩) ?_
    refine wl_v (.bool true) rfl rfl (y_mov rfl rfl ⟨rfl, rfl⟩) ?_
    refine wl_unless 22 false 25 rfl rfl rfl (Or.inl rfl) rfl ?_
    refine wl_unless 22 false 25 rfl rfl rfl (Or.inl rfl) rfl ?_
    refine wl_unless 22 false 25 rfl rfl rfl (Or.inl rfl) rfl ?_
    refine wl_unless 22 false 25 rfl rfl rfl (Or.inl rfl) rfl ?_
    refine wl_unless 22 false 25 rfl rfl rfl (Or.inl rfl) rfl ?_
    refine wl_unless 22 false 25 rfl rfl rfl (Or.inl rfl) rfl ?_
    refine wl_unless 22 false 25 rfl rfl rfl (Or.inl rfl) rfl ?_
    refine wl_unless 22 false 25 rfl rfl rfl (Or.inl rfl) rfl ?_
    refine wl_unless 22 false 25 rfl rfl rfl (Or.inl rfl) rfl ?_
    refine wl_unless 22 false 25 rfl rfl rfl (Or.inl rfl) rfl ?_
    refine wl_unless 22 false 25 rfl rfl rfl (Or.inl rfl) rfl ?_
    refine wl_v (.bool true) rfl rfl (y_pickT rfl rfl rfl ⟨rfl, rfl⟩) ?_
    refine wl_v (.bool true) rfl rfl (y_mov rfl rfl ⟨rfl, rfl⟩) ?_
    refine wl_unless 35 false 38 rfl rfl rfl (Or.inl rfl) rfl ?_
    refine wl_unless 35 false 38 rfl rfl rfl (Or.inl rfl) rfl ?_
    refine wl_unless 35 false 38 rfl rfl rfl (Or.inl rfl) rfl ?_
    refine wl_unless 35 false 38 rfl rfl rfl (Or.inl rfl) rfl ?_
    refine wl_unless 35 false 38 rfl rfl rfl (Or.inl rfl) rfl ?_
    refine wl_unless 35 false 38 rfl rfl rfl (Or.inl rfl) rfl ?_
    refine wl_unless 35 false 38 rfl rfl rfl (Or.inl rfl) rfl ?_
    refine wl_unless 35 false 38 rfl rfl rfl (Or.inl rfl) rfl ?_
    refine wl_unless 35 false 38 rfl rfl rfl (Or.inl rfl) rfl ?_
    refine wl_unless 35 false 38 rfl rfl rfl (Or.inl rfl) rfl ?_
    refine wl_unless 35 false 38 rfl rfl rfl (Or.inl rfl) rfl ?_
    refine wl_v (.bool true) rfl rfl (y_pickT rfl rfl rfl ⟨rfl, rfl⟩) ?_
    refine wl_nil fun F122 hF123 => ?_
    have s124 : F122 51 = undef := (hF123 51).trans s16
    have s125 : F122 50 = .bool true := (hF123 50).trans rfl
    clear hF123
    refine then_normal ?_
    refine wq_cond (t := true) s125 (fun _ => ?_) (fun e => by cases e)
    refine wq_seq ?_
    refine wq_region ?_
    refine wl_v (.int .i64 (70)) rfl rfl (y_asg rfl rfl ⟨rfl, rfl⟩) ?_
    refine wl_nil fun F126 hF127 => ?_
    have s128 : F126 51 = undef := (hF127 51).trans s124
    have s129 : F126 2 = .int .i64 (70) := (hF127 2).trans rfl
    clear hF127
    refine then_normal ?_
    refine wq_ret ?_
    refine then_ret ?_
    exact end_tmp (v := .int .i64 (70)) s128 rfl rfl s129 ⟨(by first | rw [checkE_ok ⟨by assumption, by assumption, by first | assumption | (apply Decidable.byContradiction; assumption), by first | assumption | (apply Decidable.byContradiction; assumption), by first | assumption | (apply Decidable.byContradiction; assumption)⟩] | rw [checkE_no (by rintro ⟨h1, h2, h3, h4, h5⟩; simp_all)]), K121⟩

set_option maxHeartbeats 4000000 in
set_option maxRecDepth 100000 in
theorem fref_size (p : Int) (f : FD) (f0 f1 f2 : Value) (T_f0 : Nat → Prop) (T_f1 : Nat → Prop) (T_f2 : Nat → Prop) (w0 : World) (h_f0 : Byt w0 T_f0 f0 ((f).p0)) (h_f1 : Byt w0 T_f1 f1 ((f).p1)) (h_f2 : Byt w0 T_f2 f2 ((f).p2)) :
    Calls Try.prog 12 #[.agg #[.int .i64 ((f).W), .int .i64 ((f).H), f0, f1, f2], .int .i64 (p)] w0 fun e w' => e = .returned (.tuple #[.int .i64 ((sizeF f p).1), .int .i64 ((sizeF f p).2)]) ∧ Kept (fun _ => False) w0 w' := by
  refine calls_wq (args := [.agg #[.int .i64 ((f).W), .int .i64 ((f).H), f0, f1, f2], .int .i64 (p)]) 29 Try.func12 rfl rfl (Nat.le_of_ble_eq_true rfl) ?_
  have K0 := Kept.refl (fun _ => False) w0
  have g_f0 := Grew.refl w0 T_f0
  have g_f1 := Grew.refl w0 T_f1
  have g_f2 := Grew.refl w0 T_f2
  refine wq_seq ?_
  refine wq_region ?_
  refine wl_box_stc (vs := [.int .i64 ((f).W), .int .i64 ((f).H), f0, f1, f2]) rfl rfl rfl rfl fun p1 w2 B4 g5 k3 => ?_
  have gr6 : Grew w0 noB (onB p1) := Grew.new K0 g5
  have ap7 : Apart (onB p1) (T_f0) := Apart.new g5 (h_f0).live
  have ap8 : Apart (onB p1) (T_f1) := Apart.new g5 (h_f1).live
  have ap9 : Apart (onB p1) (T_f2) := Apart.new g5 (h_f2).live
  have B10 := h_f0.all k3 Apart.none
  have B11 := h_f1.all k3 Apart.none
  have B12 := h_f2.all k3 Apart.none
  have K13 := K0.trans k3 (fun _ _ x => x.elim)
  refine wl_v (.int .i64 (0)) rfl rfl (y_asg rfl rfl ⟨rfl, rfl⟩) ?_
  refine wl_v (.int .i64 (0)) rfl rfl (y_asg rfl rfl ⟨rfl, rfl⟩) ?_
  refine wl_nil fun F14 hF15 => ?_
  have s16 : F14 1 = .int .i64 (p) := (hF15 1).trans rfl
  have s17 : F14 29 = undef := (hF15 29).trans rfl
  have s18 : F14 2 = .pointer (some ⟨p1, 0, none⟩) := (hF15 2).trans rfl
  clear hF15
  refine then_normal ?_
  refine wq_seq ?_
  refine wq_seq ?_
  by_cases d19 : (checkE (f)) ≠ (0)
  · skip
    refine wq_region ?_
    refine wl_v (.agg #[.int .i64 ((f).W), .int .i64 ((f).H), f0, f1, f2]) rfl rfl (y_load_stc stcT_frame rfl s18 B4 ⟨rfl, rfl⟩) ?_
    refine wl_call (R := fun v_ w_ => v_ = .int .i64 (checkE (f)) ∧ Kept (fun _ => False) w2 w_) rfl rfl (y_cs rfl rfl rfl (fun _ _ => by kernel_rfl) (ev_func _) (vsC rfl vsN) (fref_check (f) (f0) (f1) (f2) (T_f0) (T_f1) (T_f2) _  B10 B11 B12 ) (fun e_ w_ h_ => ⟨_, h_.1, rfl, h_.2⟩)) ?_
    rintro _ w20 ⟨rfl, k21⟩
    have B22 := B10.all k21 Apart.none
    have B23 := B11.all k21 Apart.none
    have B24 := B12.all k21 Apart.none
    have B25 := B4.all k21 id
    have K26 := K13.trans k21 (fun _ _ x => x.elim)
    refine wl_v (.bool true) rfl rfl (y_neqI rfl rfl rfl (decide_eq_true d19) ⟨rfl, rfl⟩) ?_
    refine wl_v (.bool true) rfl rfl (y_mov rfl rfl ⟨rfl, rfl⟩) ?_
    refine wl_unless 3 false 9 rfl rfl rfl (Or.inl rfl) rfl ?_
    refine wl_unless 3 false 9 rfl rfl rfl (Or.inl rfl) rfl ?_
    refine wl_v (.bool true) rfl rfl (y_pickT rfl rfl rfl ⟨rfl, rfl⟩) ?_
    refine wl_v (.bool true) rfl rfl (y_mov rfl rfl ⟨rfl, rfl⟩) ?_
    refine wl_unless 7 false 13 rfl rfl rfl (Or.inl rfl) rfl ?_
    refine wl_unless 7 false 13 rfl rfl rfl (Or.inl rfl) rfl ?_
    refine wl_v (.bool true) rfl rfl (y_pickT rfl rfl rfl ⟨rfl, rfl⟩) ?_
    refine wl_nil fun F27 hF28 => ?_
    have s29 : F27 1 = .int .i64 (p) := (hF28 1).trans s16
    have s30 : F27 29 = undef := (hF28 29).trans s17
    have s31 : F27 2 = .pointer (some ⟨p1, 0, none⟩) := (hF28 2).trans s18
    have s32 : F27 16 = .bool true := (hF28 16).trans rfl
    clear hF28
    refine then_normal ?_
    refine wq_cond (t := true) s32 (fun _ => ?_) (fun e => by cases e)
    refine wq_seq ?_
    refine wq_region ?_
    refine wl_v (.int .i64 (0)) rfl rfl (y_asg rfl rfl ⟨rfl, rfl⟩) ?_
    refine wl_v (.int .i64 (0)) rfl rfl (y_asg rfl rfl ⟨rfl, rfl⟩) ?_
    refine wl_nil fun F33 hF34 => ?_
    have s35 : F33 29 = undef := (hF34 29).trans s30
    have s36 : F33 4 = .int .i64 (0) := (hF34 4).trans rfl
    have s37 : F33 5 = .int .i64 (0) := (hF34 5).trans rfl
    clear hF34
    refine then_normal ?_
    refine wq_ret ?_
    refine then_ret ?_
    exact end_2 s35 rfl (res_tmp (v := .int .i64 (0)) rfl s36) (res_tmp (v := .int .i64 (0)) rfl s37) ⟨(by first | rw [sizeF_first hok (by omega)] | rw [sizeF_other hok (by omega) (by omega) (by omega)] | rw [sizeF_no (by rintro ⟨h1, h2, h3⟩; first | exact absurd ((checkE_iff f).2 h1) (by assumption) | omega)]), K26⟩
  · skip
    by_cases d38 : (p) < (0)
    · skip
      refine wq_region ?_
      refine wl_v (.agg #[.int .i64 ((f).W), .int .i64 ((f).H), f0, f1, f2]) rfl rfl (y_load_stc stcT_frame rfl s18 B4 ⟨rfl, rfl⟩) ?_
      refine wl_call (R := fun v_ w_ => v_ = .int .i64 (checkE (f)) ∧ Kept (fun _ => False) w2 w_) rfl rfl (y_cs rfl rfl rfl (fun _ _ => by kernel_rfl) (ev_func _) (vsC rfl vsN) (fref_check (f) (f0) (f1) (f2) (T_f0) (T_f1) (T_f2) _  B10 B11 B12 ) (fun e_ w_ h_ => ⟨_, h_.1, rfl, h_.2⟩)) ?_
      rintro _ w39 ⟨rfl, k40⟩
      have B41 := B10.all k40 Apart.none
      have B42 := B11.all k40 Apart.none
      have B43 := B12.all k40 Apart.none
      have B44 := B4.all k40 id
      have K45 := K13.trans k40 (fun _ _ x => x.elim)
      refine wl_v (.bool false) rfl rfl (y_neqI rfl rfl rfl (decide_eq_false d19) ⟨rfl, rfl⟩) ?_
      refine wl_v (.bool false) rfl rfl (y_mov rfl rfl ⟨rfl, rfl⟩) ?_
      refine wl_vw (.int .i64 (p)) 3 false 9 rfl rfl rfl rfl rfl (y_mov rfl s16 ⟨rfl, rfl⟩) ?_
      refine wl_vw (.bool true) 3 false 9 rfl rfl rfl rfl rfl (y_lss rfl rfl rfl (decide_eq_true d38) ⟨rfl, rfl⟩) ?_
      refine wl_v (.bool true) rfl rfl (y_pickF rfl rfl rfl ⟨rfl, rfl⟩) ?_
      refine wl_v (.bool true) rfl rfl (y_mov rfl rfl ⟨rfl, rfl⟩) ?_
      refine wl_unless 7 false 13 rfl rfl rfl (Or.inl rfl) rfl ?_
      refine wl_unless 7 false 13 rfl rfl rfl (Or.inl rfl) rfl ?_
      refine wl_v (.bool true) rfl rfl (y_pickT rfl rfl rfl ⟨rfl, rfl⟩) ?_
      refine wl_nil fun F46 hF47 => ?_
      have s48 : F46 1 = .int .i64 (p) := (hF47 1).trans s16
      have s49 : F46 29 = undef := (hF47 29).trans s17
      have s50 : F46 2 = .pointer (some ⟨p1, 0, none⟩) := (hF47 2).trans s18
      have s51 : F46 16 = .bool true := (hF47 16).trans rfl
      clear hF47
      refine then_normal ?_
      refine wq_cond (t := true) s51 (fun _ => ?_) (fun e => by cases e)
      refine wq_seq ?_
      refine wq_region ?_
      refine wl_v (.int .i64 (0)) rfl rfl (y_asg rfl rfl ⟨rfl, rfl⟩) ?_
      refine wl_v (.int .i64 (0)) rfl rfl (y_asg rfl rfl ⟨rfl, rfl⟩) ?_
      refine wl_nil fun F52 hF53 => ?_
      have s54 : F52 29 = undef := (hF53 29).trans s49
      have s55 : F52 4 = .int .i64 (0) := (hF53 4).trans rfl
      have s56 : F52 5 = .int .i64 (0) := (hF53 5).trans rfl
      clear hF53
      refine then_normal ?_
      refine wq_ret ?_
      refine then_ret ?_
      exact end_2 s54 rfl (res_tmp (v := .int .i64 (0)) rfl s55) (res_tmp (v := .int .i64 (0)) rfl s56) ⟨(by first | rw [sizeF_first hok (by omega)] | rw [sizeF_other hok (by omega) (by omega) (by omega)] | rw [sizeF_no (by rintro ⟨h1, h2, h3⟩; first | exact absurd ((checkE_iff f).2 h1) (by assumption) | omega)]), K45⟩
    · skip
      refine wq_region ?_
      refine wl_v (.agg #[.int .i64 ((f).W), .int .i64 ((f).H), f0, f1, f2]) rfl rfl (y_load_stc stcT_frame rfl s18 B4 ⟨rfl, rfl⟩) ?_
      refine wl_call (R := fun v_ w_ => v_ = .int .i64 (checkE (f)) ∧ Kept (fun _ => False) w2 w_) rfl rfl (y_cs rfl rfl rfl (fun _ _ => by kernel_rfl) (ev_func _) (vsC rfl vsN) (fref_check (f) (f0) (f1) (f2) (T_f0) (T_f1) (T_f2) _  B10 B11 B12 ) (fun e_ w_ h_ => ⟨_, h_.1, rfl, h_.2⟩)) ?_
      rintro _ w57 ⟨rfl, k58⟩
      have B59 := B10.all k58 Apart.none
      have B60 := B11.all k58 Apart.none
      have B61 := B12.all k58 Apart.none
      have B62 := B4.all k58 id
      have K63 := K13.trans k58 (fun _ _ x => x.elim)
      refine wl_v (.bool false) rfl rfl (y_neqI rfl rfl rfl (decide_eq_false d19) ⟨rfl, rfl⟩) ?_
      refine wl_v (.bool false) rfl rfl (y_mov rfl rfl ⟨rfl, rfl⟩) ?_
      refine wl_vw (.int .i64 (p)) 3 false 9 rfl rfl rfl rfl rfl (y_mov rfl s16 ⟨rfl, rfl⟩) ?_
      refine wl_vw (.bool false) 3 false 9 rfl rfl rfl rfl rfl (y_lss rfl rfl rfl (decide_eq_false d38) ⟨rfl, rfl⟩) ?_
      refine wl_v (.bool false) rfl rfl (y_pickF rfl rfl rfl ⟨rfl, rfl⟩) ?_
      refine wl_v (.bool false) rfl rfl (y_mov rfl rfl ⟨rfl, rfl⟩) ?_
      refine wl_vw (.int .i64 (p)) 7 false 13 rfl rfl rfl rfl rfl (y_mov rfl s16 ⟨rfl, rfl⟩) ?_
      refine wl_vw (.bool (decide ((2) < (p)))) 7 false 13 rfl rfl rfl rfl rfl (y_gtr rfl rfl rfl rfl ⟨rfl, rfl⟩) ?_
      refine wl_v (.bool (decide ((2) < (p)))) rfl rfl (y_pickF rfl rfl rfl ⟨rfl, rfl⟩) ?_
      refine wl_nil fun F64 hF65 => ?_
      have s66 : F64 1 = .int .i64 (p) := (hF65 1).trans s16
      have s67 : F64 29 = undef := (hF65 29).trans s17
      have s68 : F64 2 = .pointer (some ⟨p1, 0, none⟩) := (hF65 2).trans s18
      have s69 : F64 16 = .bool (decide ((2) < (p))) := (hF65 16).trans rfl
      clear hF65
      refine then_normal ?_
      refine wq_cond s69 (fun c70 => ?_) (fun c70 => ?_)
      · replace c70 := of_decide_eq_true c70
        refine wq_seq ?_
        refine wq_region ?_
        refine wl_v (.int .i64 (0)) rfl rfl (y_asg rfl rfl ⟨rfl, rfl⟩) ?_
        refine wl_v (.int .i64 (0)) rfl rfl (y_asg rfl rfl ⟨rfl, rfl⟩) ?_
        refine wl_nil fun F71 hF72 => ?_
        have s73 : F71 29 = undef := (hF72 29).trans s67
        have s74 : F71 4 = .int .i64 (0) := (hF72 4).trans rfl
        have s75 : F71 5 = .int .i64 (0) := (hF72 5).trans rfl
        clear hF72
        refine then_normal ?_
        refine wq_ret ?_
        refine then_ret ?_
        exact end_2 s73 rfl (res_tmp (v := .int .i64 (0)) rfl s74) (res_tmp (v := .int .i64 (0)) rfl s75) ⟨(by first | rw [sizeF_first hok (by omega)] | rw [sizeF_other hok (by omega) (by omega) (by omega)] | rw [sizeF_no (by rintro ⟨h1, h2, h3⟩; first | exact absurd ((checkE_iff f).2 h1) (by assumption) | omega)]), K63⟩
      · replace c70 := of_decide_eq_false c70
        refine wq_skip ?_
        refine then_normal ?_
        refine wq_seq ?_
        refine wq_seq ?_
        refine wq_region ?_
        refine wl_v (.int .i64 (p)) rfl rfl (y_mov rfl s66 ⟨rfl, rfl⟩) ?_
        refine wl_v (.bool (decide ((p) = (0)))) rfl rfl (y_eqlI rfl rfl rfl rfl ⟨rfl, rfl⟩) ?_
        refine wl_nil fun F76 hF77 => ?_
        have s78 : F76 29 = undef := (hF77 29).trans s67
        have s79 : F76 2 = .pointer (some ⟨p1, 0, none⟩) := (hF77 2).trans s68
        have s80 : F76 18 = .bool (decide ((p) = (0))) := (hF77 18).trans rfl
        clear hF77
        refine then_normal ?_
        refine wq_cond s80 (fun c81 => ?_) (fun c81 => ?_)
        · replace c81 := of_decide_eq_true c81
          refine wq_seq ?_
          have hok := (checkE_iff f).1 (by first | assumption | (apply Decidable.byContradiction; assumption))
          refine wq_said [some 19, some 20, some 21, some 22, some 4, some 5] [Pd.eq (.pointer (some ⟨p1, 0, none⟩)), Pd.eq (.int .i64 ((f).W)), Pd.eq (.pointer (some ⟨p1, 1, none⟩)), Pd.eq (.int .i64 ((f).H)), Pd.eq (.int .i64 ((f).W)), Pd.eq (.int .i64 ((f).H))] (by kernel_rfl) (by kernel_rfl) ?_ ?_
          · refine stepsF_cons ?_ ?_
            · refine StepF.one rfl fun F_ w_ hR hout hD => ?_
              exact (y_fieldR (n := 1) rfl ((hout 2 rfl (by decide)).trans s79) Try.underlying25 rfl (by kernel_rfl) (by decide) rfl ⟨rfl, Kept.refl _ _⟩)
            refine stepsF_cons ?_ ?_
            · refine StepF.one rfl fun F_ w_ hR hout hD => ?_
              have g19 : F_ 19 = .pointer (some ⟨p1, 0, none⟩) := hD.get 0 rfl rfl rfl
              exact (y_ld_stc rfl g19 Try.underlying3 (B62.all hR id) rfl rfl ⟨rfl, Kept.refl _ _⟩)
            refine stepsF_cons ?_ ?_
            · refine StepF.one rfl fun F_ w_ hR hout hD => ?_
              exact (y_fieldR (n := 1) rfl ((hout 2 rfl (by decide)).trans s79) Try.underlying25 rfl (by kernel_rfl) (by decide) rfl ⟨rfl, Kept.refl _ _⟩)
            refine stepsF_cons ?_ ?_
            · refine StepF.one rfl fun F_ w_ hR hout hD => ?_
              have g21 : F_ 21 = .pointer (some ⟨p1, 1, none⟩) := hD.get 0 rfl rfl rfl
              exact (y_ld_stc rfl g21 Try.underlying3 (B62.all hR id) rfl rfl ⟨rfl, Kept.refl _ _⟩)
            refine stepsF_cons ?_ ?_
            · refine StepF.one rfl fun F_ w_ hR hout hD => ?_
              have g20 : F_ 20 = .int .i64 ((f).W) := hD.get 0 rfl rfl rfl
              exact (y_asg rfl g20 ⟨rfl, Kept.refl _ _⟩)
            refine stepsF_cons ?_ ?_
            · refine StepF.one rfl fun F_ w_ hR hout hD => ?_
              have g22 : F_ 22 = .int .i64 ((f).H) := hD.get 0 rfl rfl rfl
              exact (y_asg rfl g22 ⟨rfl, Kept.refl _ _⟩)
            exact stepsF_nil
          intro v82 F83 w84 k85 G86 hF87
          have B89 := B59.all k85 Apart.none
          have B90 := B60.all k85 Apart.none
          have B91 := B61.all k85 Apart.none
          have B92 := B62.all k85 id
          have K93 := K63.trans k85 (fun _ _ x => x.elim)
          have s94 : F83 29 = undef := (hF87 29).trans s78
          have s95 : F83 4 = .int .i64 ((f).W) := (hF87 4).trans (G86 4 (by decide))
          have s96 : F83 5 = .int .i64 ((f).H) := (hF87 5).trans (G86 5 (by decide))
          clear G86 hF87
          refine then_normal ?_
          refine wq_ret ?_
          refine then_ret ?_
          exact end_2 s94 rfl (res_tmp (v := .int .i64 ((f).W)) rfl s95) (res_tmp (v := .int .i64 ((f).H)) rfl s96) ⟨(by first | rw [sizeF_first hok (by omega)] | rw [sizeF_other hok (by omega) (by omega) (by omega)] | rw [sizeF_no (by rintro ⟨h1, h2, h3⟩; first | exact absurd ((checkE_iff f).2 h1) (by assumption) | omega)]), K93⟩
        · replace c81 := of_decide_eq_false c81
          refine wq_skip ?_
          refine then_normal ?_
          refine wq_seq ?_
          have hok := (checkE_iff f).1 (by first | assumption | (apply Decidable.byContradiction; assumption))
          have hws := (sideB_iff _).1 hok.1
          have hhs := (sideB_iff _).1 hok.2.1
          refine wq_said [some 23, some 24, some 25, some 26, some 27, some 28, some 4, some 5] [Pd.eq (.pointer (some ⟨p1, 0, none⟩)), Pd.eq (.int .i64 ((f).W)), Pd.eq (.int .i64 (Int.tdiv (f).W 2)), Pd.eq (.pointer (some ⟨p1, 1, none⟩)), Pd.eq (.int .i64 ((f).H)), Pd.eq (.int .i64 (Int.tdiv (f).H 2)), Pd.eq (.int .i64 (Int.tdiv (f).W 2)), Pd.eq (.int .i64 (Int.tdiv (f).H 2))] (by kernel_rfl) (by kernel_rfl) ?_ ?_
          · refine stepsF_cons ?_ ?_
            · refine StepF.one rfl fun F_ w_ hR hout hD => ?_
              exact (y_fieldR (n := 1) rfl ((hout 2 rfl (by decide)).trans s79) Try.underlying25 rfl (by kernel_rfl) (by decide) rfl ⟨rfl, Kept.refl _ _⟩)
            refine stepsF_cons ?_ ?_
            · refine StepF.one rfl fun F_ w_ hR hout hD => ?_
              have g23 : F_ 23 = .pointer (some ⟨p1, 0, none⟩) := hD.get 0 rfl rfl rfl
              exact (y_ld_stc rfl g23 Try.underlying3 (B62.all hR id) rfl rfl ⟨rfl, Kept.refl _ _⟩)
            refine stepsF_cons ?_ ?_
            · refine StepF.one rfl fun F_ w_ hR hout hD => ?_
              have g24 : F_ 24 = .int .i64 ((f).W) := hD.get 0 rfl rfl rfl
              exact (y_quo rfl g24 rfl (by first | decide | omega) (i64_i rfl (by rw [tdiv2 (by omega)]; omega)) ⟨rfl, Kept.refl _ _⟩)
            refine stepsF_cons ?_ ?_
            · refine StepF.one rfl fun F_ w_ hR hout hD => ?_
              exact (y_fieldR (n := 1) rfl ((hout 2 rfl (by decide)).trans s79) Try.underlying25 rfl (by kernel_rfl) (by decide) rfl ⟨rfl, Kept.refl _ _⟩)
            refine stepsF_cons ?_ ?_
            · refine StepF.one rfl fun F_ w_ hR hout hD => ?_
              have g26 : F_ 26 = .pointer (some ⟨p1, 1, none⟩) := hD.get 0 rfl rfl rfl
              exact (y_ld_stc rfl g26 Try.underlying3 (B62.all hR id) rfl rfl ⟨rfl, Kept.refl _ _⟩)
            refine stepsF_cons ?_ ?_
            · refine StepF.one rfl fun F_ w_ hR hout hD => ?_
              have g27 : F_ 27 = .int .i64 ((f).H) := hD.get 0 rfl rfl rfl
              exact (y_quo rfl g27 rfl (by first | decide | omega) (i64_i rfl (by rw [tdiv2 (by omega)]; omega)) ⟨rfl, Kept.refl _ _⟩)
            refine stepsF_cons ?_ ?_
            · refine StepF.one rfl fun F_ w_ hR hout hD => ?_
              have g25 : F_ 25 = .int .i64 (Int.tdiv (f).W 2) := hD.get 0 rfl rfl rfl
              exact (y_asg rfl g25 ⟨rfl, Kept.refl _ _⟩)
            refine stepsF_cons ?_ ?_
            · refine StepF.one rfl fun F_ w_ hR hout hD => ?_
              have g28 : F_ 28 = .int .i64 (Int.tdiv (f).H 2) := hD.get 0 rfl rfl rfl
              exact (y_asg rfl g28 ⟨rfl, Kept.refl _ _⟩)
            exact stepsF_nil
          intro v97 F98 w99 k100 G101 hF102
          have B104 := B59.all k100 Apart.none
          have B105 := B60.all k100 Apart.none
          have B106 := B61.all k100 Apart.none
          have B107 := B62.all k100 id
          have K108 := K63.trans k100 (fun _ _ x => x.elim)
          have s109 : F98 29 = undef := (hF102 29).trans s78
          have s110 : F98 4 = .int .i64 (Int.tdiv (f).W 2) := (hF102 4).trans (G101 6 (by decide))
          have s111 : F98 5 = .int .i64 (Int.tdiv (f).H 2) := (hF102 5).trans (G101 7 (by decide))
          clear G101 hF102
          refine then_normal ?_
          refine wq_ret ?_
          exact end_2 s109 rfl (res_tmp (v := .int .i64 (Int.tdiv (f).W 2)) rfl s110) (res_tmp (v := .int .i64 (Int.tdiv (f).H 2)) rfl s111) ⟨(by first | rw [sizeF_first hok (by omega)] | rw [sizeF_other hok (by omega) (by omega) (by omega)] | rw [sizeF_no (by rintro ⟨h1, h2, h3⟩; first | exact absurd ((checkE_iff f).2 h1) (by assumption) | omega)]), K108⟩

set_option maxHeartbeats 4000000 in
set_option maxRecDepth 100000 in
theorem fref_near (n : Int) (w0 : World) :
    Calls Try.prog 33 #[.int .i64 (n)] w0 fun e w' => e = .returned (.int .i64 (nearI n)) ∧ Kept (fun _ => False) w0 w' := by
  refine calls_wq (args := [.int .i64 (n)]) 6 Try.func33 rfl rfl (Nat.le_of_ble_eq_true rfl) ?_
  have K0 := Kept.refl (fun _ => False) w0
  refine wq_seq ?_
  refine wq_region ?_
  refine wl_v (.int .i64 (0)) rfl rfl (y_asg rfl rfl ⟨rfl, rfl⟩) ?_
  refine wl_nil fun F1 hF2 => ?_
  have s3 : F1 0 = .int .i64 (n) := (hF2 0).trans rfl
  have s4 : F1 6 = undef := (hF2 6).trans rfl
  clear hF2
  refine then_normal ?_
  refine wq_seq ?_
  refine wq_region ?_
  refine wl_v (.int .i64 (n)) rfl rfl (y_mov rfl s3 ⟨rfl, rfl⟩) ?_
  refine wl_v (.int .i64 (max (n) (-64))) rfl rfl (y_maxR rfl rfl rfl rfl ⟨rfl, rfl⟩) ?_
  refine wl_v (.int .i64 (min (max (n) (-64)) (128))) rfl rfl (y_minR rfl rfl rfl rfl ⟨rfl, rfl⟩) ?_
  refine wl_v (.int .i64 (min (max (n) (-64)) (128))) rfl rfl (y_asg rfl rfl ⟨rfl, rfl⟩) ?_
  refine wl_nil fun F5 hF6 => ?_
  have s7 : F5 6 = undef := (hF6 6).trans s4
  have s8 : F5 2 = .int .i64 (min (max (n) (-64)) (128)) := (hF6 2).trans rfl
  clear hF6
  refine then_normal ?_
  refine wq_ret ?_
  exact end_tmp (v := .int .i64 (min (max (n) (-64)) (128))) s7 rfl rfl s8 ⟨rfl, K0⟩

set_option maxHeartbeats 4000000 in
set_option maxRecDepth 100000 in
theorem fref_at (p x y : Int) (f : FD) (f0 f1 f2 : Value) (T_f0 : Nat → Prop) (T_f1 : Nat → Prop) (T_f2 : Nat → Prop) (w0 : World) (h_f0 : Byt w0 T_f0 f0 ((f).p0)) (h_f1 : Byt w0 T_f1 f1 ((f).p1)) (h_f2 : Byt w0 T_f2 f2 ((f).p2)) :
    Calls Try.prog 19 #[.agg #[.int .i64 ((f).W), .int .i64 ((f).H), f0, f1, f2], .int .i64 (p), .int .i64 (x), .int .i64 (y)] w0 fun e w' => e = .returned (.int .i64 (atF f p x y)) ∧ Kept (fun _ => False) w0 w' := by
  refine calls_wq (args := [.agg #[.int .i64 ((f).W), .int .i64 ((f).H), f0, f1, f2], .int .i64 (p), .int .i64 (x), .int .i64 (y)]) 39 Try.func19 rfl rfl (Nat.le_of_ble_eq_true rfl) ?_
  have K0 := Kept.refl (fun _ => False) w0
  have g_f0 := Grew.refl w0 T_f0
  have g_f1 := Grew.refl w0 T_f1
  have g_f2 := Grew.refl w0 T_f2
  refine wq_seq ?_
  refine wq_region ?_
  refine wl_box_stc (vs := [.int .i64 ((f).W), .int .i64 ((f).H), f0, f1, f2]) rfl rfl rfl rfl fun p1 w2 B4 g5 k3 => ?_
  have gr6 : Grew w0 noB (onB p1) := Grew.new K0 g5
  have ap7 : Apart (onB p1) (T_f0) := Apart.new g5 (h_f0).live
  have ap8 : Apart (onB p1) (T_f1) := Apart.new g5 (h_f1).live
  have ap9 : Apart (onB p1) (T_f2) := Apart.new g5 (h_f2).live
  have B10 := h_f0.all k3 Apart.none
  have B11 := h_f1.all k3 Apart.none
  have B12 := h_f2.all k3 Apart.none
  have K13 := K0.trans k3 (fun _ _ x => x.elim)
  refine wl_v (.int .i64 (0)) rfl rfl (y_asg rfl rfl ⟨rfl, rfl⟩) ?_
  refine wl_nil fun F14 hF15 => ?_
  have s16 : F14 1 = .int .i64 (p) := (hF15 1).trans rfl
  have s17 : F14 2 = .int .i64 (x) := (hF15 2).trans rfl
  have s18 : F14 3 = .int .i64 (y) := (hF15 3).trans rfl
  have s19 : F14 39 = undef := (hF15 39).trans rfl
  have s20 : F14 4 = .pointer (some ⟨p1, 0, none⟩) := (hF15 4).trans rfl
  clear hF15
  refine then_normal ?_
  refine wq_seq ?_
  refine wq_region ?_
  refine wl_v (.agg #[.int .i64 ((f).W), .int .i64 ((f).H), f0, f1, f2]) rfl rfl (y_load_stc stcT_frame rfl s20 B4 ⟨rfl, rfl⟩) ?_
  refine wl_v (.int .i64 (p)) rfl rfl (y_mov rfl s16 ⟨rfl, rfl⟩) ?_
  refine wl_call (R := fun v_ w_ => v_ = .tuple #[.int .i64 ((sizeF (f) (p)).1), .int .i64 ((sizeF (f) (p)).2)] ∧ Kept (fun _ => False) w2 w_) rfl rfl (y_cs rfl rfl rfl (fun _ _ => by kernel_rfl) (ev_func _) (vsC rfl (vsC rfl vsN)) (fref_size (p) (f) (f0) (f1) (f2) (T_f0) (T_f1) (T_f2) _  B10 B11 B12 ) (fun e_ w_ h_ => ⟨_, h_.1, rfl, h_.2⟩)) ?_
  rintro _ w21 ⟨rfl, k22⟩
  have B23 := B10.all k22 Apart.none
  have B24 := B11.all k22 Apart.none
  have B25 := B12.all k22 Apart.none
  have B26 := B4.all k22 id
  have K27 := K13.trans k22 (fun _ _ x => x.elim)
  refine wl_v (.tuple #[.int .i64 ((sizeF (f) (p)).1), .int .i64 ((sizeF (f) (p)).2)]) rfl rfl (y_mov rfl rfl ⟨rfl, rfl⟩) ?_
  refine wl_v (.int .i64 ((sizeF (f) (p)).1)) rfl rfl (y_ext rfl rfl rfl ⟨rfl, rfl⟩) ?_
  refine wl_v (.int .i64 ((sizeF (f) (p)).2)) rfl rfl (y_ext rfl rfl rfl ⟨rfl, rfl⟩) ?_
  refine wl_v (.int .i64 ((sizeF (f) (p)).1)) rfl rfl (y_asg rfl rfl ⟨rfl, rfl⟩) ?_
  refine wl_v (.int .i64 ((sizeF (f) (p)).2)) rfl rfl (y_asg rfl rfl ⟨rfl, rfl⟩) ?_
  refine wl_nil fun F28 hF29 => ?_
  have s30 : F28 1 = .int .i64 (p) := (hF29 1).trans s16
  have s31 : F28 2 = .int .i64 (x) := (hF29 2).trans s17
  have s32 : F28 3 = .int .i64 (y) := (hF29 3).trans s18
  have s33 : F28 39 = undef := (hF29 39).trans s19
  have s34 : F28 4 = .pointer (some ⟨p1, 0, none⟩) := (hF29 4).trans s20
  have s35 : F28 9 = .int .i64 ((sizeF (f) (p)).1) := (hF29 9).trans rfl
  have s36 : F28 10 = .int .i64 ((sizeF (f) (p)).2) := (hF29 10).trans rfl
  clear hF29
  refine then_normal ?_
  refine wq_seq ?_
  refine wq_seq ?_
  refine wq_region ?_
  refine wl_v (.int .i64 ((sizeF (f) (p)).1)) rfl rfl (y_mov rfl s35 ⟨rfl, rfl⟩) ?_
  refine wl_v (.bool (decide (((sizeF (f) (p)).1) = (0)))) rfl rfl (y_eqlI rfl rfl rfl rfl ⟨rfl, rfl⟩) ?_
  refine wl_nil fun F37 hF38 => ?_
  have s39 : F37 1 = .int .i64 (p) := (hF38 1).trans s30
  have s40 : F37 2 = .int .i64 (x) := (hF38 2).trans s31
  have s41 : F37 3 = .int .i64 (y) := (hF38 3).trans s32
  have s42 : F37 39 = undef := (hF38 39).trans s33
  have s43 : F37 4 = .pointer (some ⟨p1, 0, none⟩) := (hF38 4).trans s34
  have s44 : F37 9 = .int .i64 ((sizeF (f) (p)).1) := (hF38 9).trans s35
  have s45 : F37 10 = .int .i64 ((sizeF (f) (p)).2) := (hF38 10).trans s36
  have s46 : F37 18 = .bool (decide (((sizeF (f) (p)).1) = (0))) := (hF38 18).trans rfl
  clear hF38
  refine then_normal ?_
  refine wq_cond s46 (fun c47 => ?_) (fun c47 => ?_)
  · replace c47 := of_decide_eq_true c47
    refine wq_seq ?_
    refine wq_region ?_
    refine wl_v (.int .i64 (0)) rfl rfl (y_asg rfl rfl ⟨rfl, rfl⟩) ?_
    refine wl_nil fun F48 hF49 => ?_
    have s50 : F48 39 = undef := (hF49 39).trans s42
    have s51 : F48 8 = .int .i64 (0) := (hF49 8).trans rfl
    clear hF49
    refine then_normal ?_
    refine wq_ret ?_
    refine then_ret ?_
    exact end_tmp (v := .int .i64 (0)) s50 rfl rfl s51 ⟨(by first | rw [atF_none x y (by assumption)] | rw [atF_some x y hsz]; rfl), K27⟩
  · replace c47 := of_decide_eq_false c47
    refine wq_skip ?_
    refine then_normal ?_
    refine wq_seq ?_
    rcases (show p = 0 ∨ p = 1 ∨ p = 2 from size_cases (f := f) (by assumption)) with rfl | rfl | rfl
    · skip
      have hsz : (sizeF f 0).1 ≠ 0 := by assumption
      have hb := size_bounds f 0
      have hc := cell_bounds x y hsz
      refine wq_region ?_
      refine wl_v (.int .i64 (0)) rfl rfl (y_mov rfl s39 ⟨rfl, rfl⟩) ?_
      refine wl_v (.pointer (some ⟨p1, 2, none⟩)) rfl rfl (y_fieldR (n := 3) rfl s43 Try.underlying25 rfl (by kernel_rfl) (by decide) rfl ⟨rfl, rfl⟩) ?_
      refine wl_v (.pointer (some ⟨p1, 2, none⟩)) rfl rfl (y_atR (0) (s := 1) rfl rfl rfl (by omega) Try.underlying23 (by omega) (by kernel_rfl) (by omega) ⟨rfl, rfl⟩) ?_
      refine wl_v (f0) rfl rfl (y_ld_stc rfl rfl Try.underlying22 B26 rfl rfl ⟨rfl, rfl⟩) ?_
      refine wl_v (.int .i64 (y)) rfl rfl (y_mov rfl s41 ⟨rfl, rfl⟩) ?_
      refine wl_v (.int .i64 (max (y) (0))) rfl rfl (y_maxR rfl rfl rfl rfl ⟨rfl, rfl⟩) ?_
      refine wl_v (.int .i64 ((sizeF (f) (0)).2)) rfl rfl (y_mov rfl s45 ⟨rfl, rfl⟩) ?_
      refine wl_v (.int .i64 (((sizeF (f) (0)).2) - (1))) rfl rfl (y_sub rfl rfl rfl (i64_i rfl (by omega)) ⟨rfl, rfl⟩) ?_
      refine wl_v (.int .i64 (min (max (y) (0)) (((sizeF (f) (0)).2) - (1)))) rfl rfl (y_minR rfl rfl rfl rfl ⟨rfl, rfl⟩) ?_
      refine wl_v (.int .i64 ((sizeF (f) (0)).1)) rfl rfl (y_mov rfl s44 ⟨rfl, rfl⟩) ?_
      refine wl_v (.int .i64 (min (max y 0) ((sizeF f 0).2 - 1) * (sizeF f 0).1)) rfl rfl (y_mul rfl rfl rfl (i64_i rfl (by omega)) ⟨rfl, rfl⟩) ?_
      refine wl_v (.int .i64 (x)) rfl rfl (y_mov rfl s40 ⟨rfl, rfl⟩) ?_
      refine wl_v (.int .i64 (max (x) (0))) rfl rfl (y_maxR rfl rfl rfl rfl ⟨rfl, rfl⟩) ?_
      refine wl_v (.int .i64 ((sizeF (f) (0)).1)) rfl rfl (y_mov rfl s44 ⟨rfl, rfl⟩) ?_
      refine wl_v (.int .i64 (((sizeF (f) (0)).1) - (1))) rfl rfl (y_sub rfl rfl rfl (i64_i rfl (by omega)) ⟨rfl, rfl⟩) ?_
      refine wl_v (.int .i64 (min (max (x) (0)) (((sizeF (f) (0)).1) - (1)))) rfl rfl (y_minR rfl rfl rfl rfl ⟨rfl, rfl⟩) ?_
      refine wl_v (.int .i64 ((((cellF f 0 x y).toNat : Nat) : Int))) rfl rfl (y_add rfl rfl rfl ((i64_i rfl (by show _ ≤ cellF f 0 x y ∧ cellF f 0 x y ≤ _; omega)).trans (Int.toNat_of_nonneg (by omega)).symm) ⟨rfl, rfl⟩) ?_
      refine wl_v (bytAddr (f0) ((cellF f 0 x y).toNat)) rfl rfl (y_atB ((cellF f 0 x y).toNat) rfl rfl rfl (by omega) B23 (cell_at x y hsz) ⟨rfl, rfl⟩) ?_
      have u52 := getD_lt (B23).lt256 ((cellF f 0 x y).toNat)
      refine wl_v (.int .u8 (((((f).p0).getD ((cellF f 0 x y).toNat) 0 : Nat) : Int))) rfl rfl (y_ldB rfl rfl B23 (cell_at x y hsz) ⟨rfl, rfl⟩) ?_
      refine wl_v (.int .i64 (((((f).p0).getD ((cellF f 0 x y).toNat) 0 : Nat) : Int))) rfl rfl (y_convR rfl rfl Try.underlying5 Try.underlying3 (i64_i rfl (by omega)) ⟨rfl, rfl⟩) ?_
      refine wl_v (.int .i64 (((((f).p0).getD ((cellF f 0 x y).toNat) 0 : Nat) : Int))) rfl rfl (y_asg rfl rfl ⟨rfl, rfl⟩) ?_
      refine wl_nil fun F53 hF54 => ?_
      have s55 : F53 39 = undef := (hF54 39).trans s42
      have s56 : F53 8 = .int .i64 (((((f).p0).getD ((cellF f 0 x y).toNat) 0 : Nat) : Int)) := (hF54 8).trans rfl
      clear hF54
      refine then_normal ?_
      refine wq_ret ?_
      exact end_tmp (v := .int .i64 (((((f).p0).getD ((cellF f 0 x y).toNat) 0 : Nat) : Int))) s55 rfl rfl s56 ⟨(by first | rw [atF_none x y (by assumption)] | rw [atF_some x y hsz]; rfl), K27⟩
    · skip
      have hsz : (sizeF f 1).1 ≠ 0 := by assumption
      have hb := size_bounds f 1
      have hc := cell_bounds x y hsz
      refine wq_region ?_
      refine wl_v (.int .i64 (1)) rfl rfl (y_mov rfl s39 ⟨rfl, rfl⟩) ?_
      refine wl_v (.pointer (some ⟨p1, 2, none⟩)) rfl rfl (y_fieldR (n := 3) rfl s43 Try.underlying25 rfl (by kernel_rfl) (by decide) rfl ⟨rfl, rfl⟩) ?_
      refine wl_v (.pointer (some ⟨p1, 3, none⟩)) rfl rfl (y_atR (1) (s := 1) rfl rfl rfl (by omega) Try.underlying23 (by omega) (by kernel_rfl) (by omega) ⟨rfl, rfl⟩) ?_
      refine wl_v (f1) rfl rfl (y_ld_stc rfl rfl Try.underlying22 B26 rfl rfl ⟨rfl, rfl⟩) ?_
      refine wl_v (.int .i64 (y)) rfl rfl (y_mov rfl s41 ⟨rfl, rfl⟩) ?_
      refine wl_v (.int .i64 (max (y) (0))) rfl rfl (y_maxR rfl rfl rfl rfl ⟨rfl, rfl⟩) ?_
      refine wl_v (.int .i64 ((sizeF (f) (1)).2)) rfl rfl (y_mov rfl s45 ⟨rfl, rfl⟩) ?_
      refine wl_v (.int .i64 (((sizeF (f) (1)).2) - (1))) rfl rfl (y_sub rfl rfl rfl (i64_i rfl (by omega)) ⟨rfl, rfl⟩) ?_
      refine wl_v (.int .i64 (min (max (y) (0)) (((sizeF (f) (1)).2) - (1)))) rfl rfl (y_minR rfl rfl rfl rfl ⟨rfl, rfl⟩) ?_
      refine wl_v (.int .i64 ((sizeF (f) (1)).1)) rfl rfl (y_mov rfl s44 ⟨rfl, rfl⟩) ?_
      refine wl_v (.int .i64 (min (max y 0) ((sizeF f 1).2 - 1) * (sizeF f 1).1)) rfl rfl (y_mul rfl rfl rfl (i64_i rfl (by omega)) ⟨rfl, rfl⟩) ?_
      refine wl_v (.int .i64 (x)) rfl rfl (y_mov rfl s40 ⟨rfl, rfl⟩) ?_
      refine wl_v (.int .i64 (max (x) (0))) rfl rfl (y_maxR rfl rfl rfl rfl ⟨rfl, rfl⟩) ?_
      refine wl_v (.int .i64 ((sizeF (f) (1)).1)) rfl rfl (y_mov rfl s44 ⟨rfl, rfl⟩) ?_
      refine wl_v (.int .i64 (((sizeF (f) (1)).1) - (1))) rfl rfl (y_sub rfl rfl rfl (i64_i rfl (by omega)) ⟨rfl, rfl⟩) ?_
      refine wl_v (.int .i64 (min (max (x) (0)) (((sizeF (f) (1)).1) - (1)))) rfl rfl (y_minR rfl rfl rfl rfl ⟨rfl, rfl⟩) ?_
      refine wl_v (.int .i64 ((((cellF f 1 x y).toNat : Nat) : Int))) rfl rfl (y_add rfl rfl rfl ((i64_i rfl (by show _ ≤ cellF f 1 x y ∧ cellF f 1 x y ≤ _; omega)).trans (Int.toNat_of_nonneg (by omega)).symm) ⟨rfl, rfl⟩) ?_
      refine wl_v (bytAddr (f1) ((cellF f 1 x y).toNat)) rfl rfl (y_atB ((cellF f 1 x y).toNat) rfl rfl rfl (by omega) B24 (cell_at x y hsz) ⟨rfl, rfl⟩) ?_
      have u57 := getD_lt (B24).lt256 ((cellF f 1 x y).toNat)
      refine wl_v (.int .u8 (((((f).p1).getD ((cellF f 1 x y).toNat) 0 : Nat) : Int))) rfl rfl (y_ldB rfl rfl B24 (cell_at x y hsz) ⟨rfl, rfl⟩) ?_
      refine wl_v (.int .i64 (((((f).p1).getD ((cellF f 1 x y).toNat) 0 : Nat) : Int))) rfl rfl (y_convR rfl rfl Try.underlying5 Try.underlying3 (i64_i rfl (by omega)) ⟨rfl, rfl⟩) ?_
      refine wl_v (.int .i64 (((((f).p1).getD ((cellF f 1 x y).toNat) 0 : Nat) : Int))) rfl rfl (y_asg rfl rfl ⟨rfl, rfl⟩) ?_
      refine wl_nil fun F58 hF59 => ?_
      have s60 : F58 39 = undef := (hF59 39).trans s42
      have s61 : F58 8 = .int .i64 (((((f).p1).getD ((cellF f 1 x y).toNat) 0 : Nat) : Int)) := (hF59 8).trans rfl
      clear hF59
      refine then_normal ?_
      refine wq_ret ?_
      exact end_tmp (v := .int .i64 (((((f).p1).getD ((cellF f 1 x y).toNat) 0 : Nat) : Int))) s60 rfl rfl s61 ⟨(by first | rw [atF_none x y (by assumption)] | rw [atF_some x y hsz]; rfl), K27⟩
    · skip
      have hsz : (sizeF f 2).1 ≠ 0 := by assumption
      have hb := size_bounds f 2
      have hc := cell_bounds x y hsz
      refine wq_region ?_
      refine wl_v (.int .i64 (2)) rfl rfl (y_mov rfl s39 ⟨rfl, rfl⟩) ?_
      refine wl_v (.pointer (some ⟨p1, 2, none⟩)) rfl rfl (y_fieldR (n := 3) rfl s43 Try.underlying25 rfl (by kernel_rfl) (by decide) rfl ⟨rfl, rfl⟩) ?_
      refine wl_v (.pointer (some ⟨p1, 4, none⟩)) rfl rfl (y_atR (2) (s := 1) rfl rfl rfl (by omega) Try.underlying23 (by omega) (by kernel_rfl) (by omega) ⟨rfl, rfl⟩) ?_
      refine wl_v (f2) rfl rfl (y_ld_stc rfl rfl Try.underlying22 B26 rfl rfl ⟨rfl, rfl⟩) ?_
      refine wl_v (.int .i64 (y)) rfl rfl (y_mov rfl s41 ⟨rfl, rfl⟩) ?_
      refine wl_v (.int .i64 (max (y) (0))) rfl rfl (y_maxR rfl rfl rfl rfl ⟨rfl, rfl⟩) ?_
      refine wl_v (.int .i64 ((sizeF (f) (2)).2)) rfl rfl (y_mov rfl s45 ⟨rfl, rfl⟩) ?_
      refine wl_v (.int .i64 (((sizeF (f) (2)).2) - (1))) rfl rfl (y_sub rfl rfl rfl (i64_i rfl (by omega)) ⟨rfl, rfl⟩) ?_
      refine wl_v (.int .i64 (min (max (y) (0)) (((sizeF (f) (2)).2) - (1)))) rfl rfl (y_minR rfl rfl rfl rfl ⟨rfl, rfl⟩) ?_
      refine wl_v (.int .i64 ((sizeF (f) (2)).1)) rfl rfl (y_mov rfl s44 ⟨rfl, rfl⟩) ?_
      refine wl_v (.int .i64 (min (max y 0) ((sizeF f 2).2 - 1) * (sizeF f 2).1)) rfl rfl (y_mul rfl rfl rfl (i64_i rfl (by omega)) ⟨rfl, rfl⟩) ?_
      refine wl_v (.int .i64 (x)) rfl rfl (y_mov rfl s40 ⟨rfl, rfl⟩) ?_
      refine wl_v (.int .i64 (max (x) (0))) rfl rfl (y_maxR rfl rfl rfl rfl ⟨rfl, rfl⟩) ?_
      refine wl_v (.int .i64 ((sizeF (f) (2)).1)) rfl rfl (y_mov rfl s44 ⟨rfl, rfl⟩) ?_
      refine wl_v (.int .i64 (((sizeF (f) (2)).1) - (1))) rfl rfl (y_sub rfl rfl rfl (i64_i rfl (by omega)) ⟨rfl, rfl⟩) ?_
      refine wl_v (.int .i64 (min (max (x) (0)) (((sizeF (f) (2)).1) - (1)))) rfl rfl (y_minR rfl rfl rfl rfl ⟨rfl, rfl⟩) ?_
      refine wl_v (.int .i64 ((((cellF f 2 x y).toNat : Nat) : Int))) rfl rfl (y_add rfl rfl rfl ((i64_i rfl (by show _ ≤ cellF f 2 x y ∧ cellF f 2 x y ≤ _; omega)).trans (Int.toNat_of_nonneg (by omega)).symm) ⟨rfl, rfl⟩) ?_
      refine wl_v (bytAddr (f2) ((cellF f 2 x y).toNat)) rfl rfl (y_atB ((cellF f 2 x y).toNat) rfl rfl rfl (by omega) B25 (cell_at x y hsz) ⟨rfl, rfl⟩) ?_
      have u62 := getD_lt (B25).lt256 ((cellF f 2 x y).toNat)
      refine wl_v (.int .u8 (((((f).p2).getD ((cellF f 2 x y).toNat) 0 : Nat) : Int))) rfl rfl (y_ldB rfl rfl B25 (cell_at x y hsz) ⟨rfl, rfl⟩) ?_
      refine wl_v (.int .i64 (((((f).p2).getD ((cellF f 2 x y).toNat) 0 : Nat) : Int))) rfl rfl (y_convR rfl rfl Try.underlying5 Try.underlying3 (i64_i rfl (by omega)) ⟨rfl, rfl⟩) ?_
      refine wl_v (.int .i64 (((((f).p2).getD ((cellF f 2 x y).toNat) 0 : Nat) : Int))) rfl rfl (y_asg rfl rfl ⟨rfl, rfl⟩) ?_
      refine wl_nil fun F63 hF64 => ?_
      have s65 : F63 39 = undef := (hF64 39).trans s42
      have s66 : F63 8 = .int .i64 (((((f).p2).getD ((cellF f 2 x y).toNat) 0 : Nat) : Int)) := (hF64 8).trans rfl
      clear hF64
      refine then_normal ?_
      refine wq_ret ?_
      exact end_tmp (v := .int .i64 (((((f).p2).getD ((cellF f 2 x y).toNat) 0 : Nat) : Int))) s65 rfl rfl s66 ⟨(by first | rw [atF_none x y (by assumption)] | rw [atF_some x y hsz]; rfl), K27⟩

set_option maxHeartbeats 4000000 in
set_option maxRecDepth 100000 in
theorem fref_get (p x y : Int) (f : FD) (f0 f1 f2 : Value) (T_f0 : Nat → Prop) (T_f1 : Nat → Prop) (T_f2 : Nat → Prop) (w0 : World) (h_f0 : Byt w0 T_f0 f0 ((f).p0)) (h_f1 : Byt w0 T_f1 f1 ((f).p1)) (h_f2 : Byt w0 T_f2 f2 ((f).p2)) :
    Calls Try.prog 21 #[.agg #[.int .i64 ((f).W), .int .i64 ((f).H), f0, f1, f2], .int .i64 (p), .int .i64 (x), .int .i64 (y)] w0 fun e w' => e = .returned (blkV (getF f p x y)) ∧ Kept (fun _ => False) w0 w' := by
  refine calls_wq (args := [.agg #[.int .i64 ((f).W), .int .i64 ((f).H), f0, f1, f2], .int .i64 (p), .int .i64 (x), .int .i64 (y)]) 32 Try.func21 rfl rfl (Nat.le_of_ble_eq_true rfl) ?_
  have K0 := Kept.refl (fun _ => False) w0
  have hnx := near_bounds x
  have hny := near_bounds y
  have g_f0 := Grew.refl w0 T_f0
  have g_f1 := Grew.refl w0 T_f1
  have g_f2 := Grew.refl w0 T_f2
  refine wq_seq ?_
  refine wq_region ?_
  refine wl_box_stc (vs := [.int .i64 ((f).W), .int .i64 ((f).H), f0, f1, f2]) rfl rfl rfl rfl fun p1 w2 B4 g5 k3 => ?_
  have gr6 : Grew w0 noB (onB p1) := Grew.new K0 g5
  have ap7 : Apart (onB p1) (T_f0) := Apart.new g5 (h_f0).live
  have ap8 : Apart (onB p1) (T_f1) := Apart.new g5 (h_f1).live
  have ap9 : Apart (onB p1) (T_f2) := Apart.new g5 (h_f2).live
  have B10 := h_f0.all k3 Apart.none
  have B11 := h_f1.all k3 Apart.none
  have B12 := h_f2.all k3 Apart.none
  have K13 := K0.trans k3 (fun _ _ x => x.elim)
  refine wl_alloc_blk rfl rfl rfl blkT_arr.2.2 fun p14 w15 e18 B16 k17 => ?_
  have g19 := onB_new (Nat.le_of_eq e18.symm)
  have gr20 : Grew w0 noB (onB p14) := Grew.new K13 g19
  have ap21 : Apart (onB p14) (T_f0) := Apart.new g19 (B10).live
  have ap22 : Apart (onB p14) (T_f1) := Apart.new g19 (B11).live
  have ap23 : Apart (onB p14) (T_f2) := Apart.new g19 (B12).live
  have ap24 : Apart (onB p14) (onB p1) := Apart.new g19 (onB_live (B4).lt)
  clear e18 g19
  have B25 := B10.all k17 Apart.none
  have B26 := B11.all k17 Apart.none
  have B27 := B12.all k17 Apart.none
  have B28 := B4.all k17 id
  have K29 := K13.trans k17 (fun _ _ x => x.elim)
  refine wl_nil fun F30 hF31 => ?_
  have s32 : F30 1 = .int .i64 (p) := (hF31 1).trans rfl
  have s33 : F30 2 = .int .i64 (x) := (hF31 2).trans rfl
  have s34 : F30 3 = .int .i64 (y) := (hF31 3).trans rfl
  have s35 : F30 32 = undef := (hF31 32).trans rfl
  have s36 : F30 4 = .pointer (some ⟨p1, 0, none⟩) := (hF31 4).trans rfl
  have s37 : F30 8 = .pointer (some ⟨p14, 0, none⟩) := (hF31 8).trans rfl
  clear hF31
  refine then_normal ?_
  refine wq_seq ?_
  refine wq_region ?_
  refine wl_v (blkV (fun _ => 0)) rfl rfl (y_buildR (cells := (arrL 16 (fun _ => 0)).toArray) rfl (by kernel_rfl) rfl ⟨rfl, rfl⟩) ?_
  refine wl_alloc_blk rfl rfl rfl blkT_arr.2.2 fun p38 w39 e42 B40 k41 => ?_
  have g43 := onB_new (Nat.le_of_eq e42.symm)
  have gr44 : Grew w0 noB (onB p38) := Grew.new K29 g43
  have ap45 : Apart (onB p38) (T_f0) := Apart.new g43 (B25).live
  have ap46 : Apart (onB p38) (T_f1) := Apart.new g43 (B26).live
  have ap47 : Apart (onB p38) (T_f2) := Apart.new g43 (B27).live
  have ap48 : Apart (onB p38) (onB p1) := Apart.new g43 (onB_live (B28).lt)
  have ap49 : Apart (onB p38) (onB p14) := Apart.new g43 (onB_live (B16).lt)
  clear e42 g43
  have B50 := B25.all k41 Apart.none
  have B51 := B26.all k41 Apart.none
  have B52 := B27.all k41 Apart.none
  have B53 := B28.all k41 id
  have B54 := B16.all k41 id
  have K55 := K29.trans k41 (fun _ _ x => x.elim)
  refine wl_store_blk blkT_arr rfl rfl rfl rfl rfl B40 fun w56 B57 k58 => ?_
  have B59 := B50.all k58 (fun i h x => (((ap45).symm) i h x))
  have B60 := B51.all k58 (fun i h x => (((ap46).symm) i h x))
  have B61 := B52.all k58 (fun i h x => (((ap47).symm) i h x))
  have B62 := B53.all k58 (fun x => (((ap48).symm) p1 rfl x))
  have B63 := B54.all k58 (fun x => (((ap49).symm) p14 rfl x))
  have K64 := K55.trans k58 (Grew.ok (S := fun _ => False) gr44 noB_le)
  refine wl_nil fun F65 hF66 => ?_
  have s67 : F65 1 = .int .i64 (p) := (hF66 1).trans s32
  have s68 : F65 2 = .int .i64 (x) := (hF66 2).trans s33
  have s69 : F65 3 = .int .i64 (y) := (hF66 3).trans s34
  have s70 : F65 32 = undef := (hF66 32).trans s35
  have s71 : F65 4 = .pointer (some ⟨p1, 0, none⟩) := (hF66 4).trans s36
  have s72 : F65 8 = .pointer (some ⟨p14, 0, none⟩) := (hF66 8).trans s37
  have s73 : F65 9 = .pointer (some ⟨p38, 0, none⟩) := (hF66 9).trans rfl
  clear hF66
  refine then_normal ?_
  refine wq_seq ?_
  refine wq_seq ?_
  refine wq_region ?_
  refine wl_v (.int .i64 (0)) rfl rfl (y_asg rfl rfl ⟨rfl, rfl⟩) ?_
  refine wl_nil fun F74 hF75 => ?_
  have s76 : F74 1 = .int .i64 (p) := (hF75 1).trans s67
  have s77 : F74 2 = .int .i64 (x) := (hF75 2).trans s68
  have s78 : F74 3 = .int .i64 (y) := (hF75 3).trans s69
  have s79 : F74 32 = undef := (hF75 32).trans s70
  have s80 : F74 4 = .pointer (some ⟨p1, 0, none⟩) := (hF75 4).trans s71
  have s81 : F74 8 = .pointer (some ⟨p14, 0, none⟩) := (hF75 8).trans s72
  have s82 : F74 9 = .pointer (some ⟨p38, 0, none⟩) := (hF75 9).trans s73
  have s83 : F74 10 = .int .i64 (0) := (hF75 10).trans rfl
  clear hF75
  refine then_normal ?_
  refine wq_block ?_
  refine wq_loop (fun nn FF ww => ∃ (i : Nat), (i ≤ 16) ∧ nn = 16 - i ∧ FF 1 = .int .i64 (p) ∧ FF 2 = .int .i64 (x) ∧ FF 3 = .int .i64 (y) ∧ FF 4 = .pointer (some ⟨p1, 0, none⟩) ∧ FF 8 = .pointer (some ⟨p14, 0, none⟩) ∧ FF 9 = .pointer (some ⟨p38, 0, none⟩) ∧ FF 32 = undef ∧ FF 10 = .int .i64 (((i : Nat) : Int)) ∧ Kept (fun _ => False) w0 ww ∧ Byt ww (T_f0) f0 ((f).p0) ∧ Byt ww (T_f1) f1 ((f).p1) ∧ Byt ww (T_f2) f2 ((f).p2) ∧ Stc ww p1 25 [.int .i64 ((f).W), .int .i64 ((f).H), f0, f1, f2] ∧ Blk ww p14 26 (fun _ => 0) ∧ Blk ww p38 26 (upto i (fun _ => 0) (getF f p x y))) (16 - (0)) ⟨0, by omega, rfl, s76, s77, s78, s80, s81, s82, s79, s83, K64, B59, B60, B61, B62, B63, B57.first⟩ ?_
  rintro n87 F84 w85 ⟨i, i88, hn87, s89, s90, s91, s92, s93, s94, s95, s96, K86, B97, B98, B99, B100, B101, B102⟩
  refine wq_seq ?_
  refine wq_seq ?_
  refine wq_region ?_
  refine wl_v (.int .i64 (((i : Nat) : Int))) rfl rfl (y_mov rfl s96 ⟨rfl, rfl⟩) ?_
  refine wl_v (.bool (decide ((((i : Nat) : Int)) < (16)))) rfl rfl (y_lss rfl rfl rfl rfl ⟨rfl, rfl⟩) ?_
  refine wl_nil fun F103 hF104 => ?_
  have s105 : F103 1 = .int .i64 (p) := (hF104 1).trans s89
  have s106 : F103 2 = .int .i64 (x) := (hF104 2).trans s90
  have s107 : F103 3 = .int .i64 (y) := (hF104 3).trans s91
  have s108 : F103 4 = .pointer (some ⟨p1, 0, none⟩) := (hF104 4).trans s92
  have s109 : F103 8 = .pointer (some ⟨p14, 0, none⟩) := (hF104 8).trans s93
  have s110 : F103 9 = .pointer (some ⟨p38, 0, none⟩) := (hF104 9).trans s94
  have s111 : F103 32 = undef := (hF104 32).trans s95
  have s112 : F103 10 = .int .i64 (((i : Nat) : Int)) := (hF104 10).trans s96
  have s113 : F103 13 = .bool (decide ((((i : Nat) : Int)) < (16))) := (hF104 13).trans rfl
  clear hF104
  refine then_normal ?_
  refine wq_cond s113 (fun c114 => ?_) (fun c114 => ?_)
  · replace c114 := of_decide_eq_true c114
    refine wq_skip ?_
    refine then_normal ?_
    refine wq_seq ?_
    refine wq_block ?_
    refine wq_tail 15 [some 16, some 17, some 18, some 19, some 20, some 21, some 22, some 23, some 24, some 25, some 26, some 27, some 28, some 29, some 30] [Pd.eq (.int .i64 (((i : Nat) : Int))), Pd.eq (.agg #[.int .i64 ((f).W), .int .i64 ((f).H), f0, f1, f2]), Pd.eq (.int .i64 (p)), Pd.eq (.int .i64 (x)), Pd.eq (.int .i64 (nearI (x))), Pd.eq (.int .i64 (((i : Nat) : Int))), Pd.eq (.int .i64 ((((i % 4) : Nat) : Int))), Pd.eq (.int .i64 ((nearI (x)) + ((((i % 4) : Nat) : Int)))), Pd.eq (.int .i64 (y)), Pd.eq (.int .i64 (nearI (y))), Pd.eq (.int .i64 (((i : Nat) : Int))), Pd.eq (.int .i64 ((((i / 4) : Nat) : Int))), Pd.eq (.int .i64 ((nearI (y)) + ((((i / 4) : Nat) : Int)))), Pd.eq (.int .i64 (atF (f) (p) ((nearI (x)) + ((((i % 4) : Nat) : Int))) ((nearI (y)) + ((((i / 4) : Nat) : Int))))), Pd.eq (.pointer (some ⟨p38, i, none⟩))] (by kernel_rfl) (by kernel_rfl) (by kernel_rfl) ?_ ?_
    · refine stepsF_cons ?_ ?_
      · refine StepF.one rfl fun F_ w_ hR hout hD => ?_
        exact (y_mov rfl ((hout 10 rfl (by decide)).trans s112) ⟨rfl, Kept.refl _ _⟩)
      refine stepsF_cons ?_ ?_
      · refine StepF.one rfl fun F_ w_ hR hout hD => ?_
        exact (y_load_stc stcT_frame rfl ((hout 4 rfl (by decide)).trans s108) (B100.all hR id) ⟨rfl, Kept.refl _ _⟩)
      refine stepsF_cons ?_ ?_
      · refine StepF.one rfl fun F_ w_ hR hout hD => ?_
        exact (y_mov rfl ((hout 1 rfl (by decide)).trans s105) ⟨rfl, Kept.refl _ _⟩)
      refine stepsF_cons ?_ ?_
      · refine StepF.one rfl fun F_ w_ hR hout hD => ?_
        exact (y_mov rfl ((hout 2 rfl (by decide)).trans s106) ⟨rfl, Kept.refl _ _⟩)
      refine stepsF_cons ?_ ?_
      · refine StepF.one rfl fun F_ w_ hR hout hD => ?_
        have g19 : F_ 19 = .int .i64 (x) := hD.get 0 rfl rfl rfl
        exact (y_cs rfl rfl rfl (fun _ _ => by kernel_rfl) (ev_func _) (vsC g19 vsN) (fref_near (x)  _   ) (fun e_ w_ h_ => ⟨_, h_.1, rfl, h_.2⟩))
      refine stepsF_cons ?_ ?_
      · refine StepF.one rfl fun F_ w_ hR hout hD => ?_
        exact (y_mov rfl ((hout 10 rfl (by decide)).trans s112) ⟨rfl, Kept.refl _ _⟩)
      refine stepsF_cons ?_ ?_
      · refine StepF.one rfl fun F_ w_ hR hout hD => ?_
        have g21 : F_ 21 = .int .i64 (((i : Nat) : Int)) := hD.get 0 rfl rfl rfl
        exact (y_rem rfl g21 rfl (by first | decide | omega) (rfl) ⟨rfl, Kept.refl _ _⟩)
      refine stepsF_cons ?_ ?_
      · refine StepF.one rfl fun F_ w_ hR hout hD => ?_
        have g20 : F_ 20 = .int .i64 (nearI (x)) := hD.get 0 rfl rfl rfl
        have g22 : F_ 22 = .int .i64 ((((i % 4) : Nat) : Int)) := hD.get 1 rfl rfl rfl
        exact (y_add rfl g20 g22 (i64_i rfl (by omega)) ⟨rfl, Kept.refl _ _⟩)
      refine stepsF_cons ?_ ?_
      · refine StepF.one rfl fun F_ w_ hR hout hD => ?_
        exact (y_mov rfl ((hout 3 rfl (by decide)).trans s107) ⟨rfl, Kept.refl _ _⟩)
      refine stepsF_cons ?_ ?_
      · refine StepF.one rfl fun F_ w_ hR hout hD => ?_
        have g24 : F_ 24 = .int .i64 (y) := hD.get 0 rfl rfl rfl
        exact (y_cs rfl rfl rfl (fun _ _ => by kernel_rfl) (ev_func _) (vsC g24 vsN) (fref_near (y)  _   ) (fun e_ w_ h_ => ⟨_, h_.1, rfl, h_.2⟩))
      refine stepsF_cons ?_ ?_
      · refine StepF.one rfl fun F_ w_ hR hout hD => ?_
        exact (y_mov rfl ((hout 10 rfl (by decide)).trans s112) ⟨rfl, Kept.refl _ _⟩)
      refine stepsF_cons ?_ ?_
      · refine StepF.one rfl fun F_ w_ hR hout hD => ?_
        have g26 : F_ 26 = .int .i64 (((i : Nat) : Int)) := hD.get 0 rfl rfl rfl
        exact (y_quo rfl g26 rfl (by first | decide | omega) (i64_n (quo_nat i 4) (by omega)) ⟨rfl, Kept.refl _ _⟩)
      refine stepsF_cons ?_ ?_
      · refine StepF.one rfl fun F_ w_ hR hout hD => ?_
        have g25 : F_ 25 = .int .i64 (nearI (y)) := hD.get 0 rfl rfl rfl
        have g27 : F_ 27 = .int .i64 ((((i / 4) : Nat) : Int)) := hD.get 1 rfl rfl rfl
        exact (y_add rfl g25 g27 (i64_i rfl (by omega)) ⟨rfl, Kept.refl _ _⟩)
      refine stepsF_cons ?_ ?_
      · refine StepF.one rfl fun F_ w_ hR hout hD => ?_
        have g17 : F_ 17 = .agg #[.int .i64 ((f).W), .int .i64 ((f).H), f0, f1, f2] := hD.get 0 rfl rfl rfl
        have g18 : F_ 18 = .int .i64 (p) := hD.get 1 rfl rfl rfl
        have g23 : F_ 23 = .int .i64 ((nearI (x)) + ((((i % 4) : Nat) : Int))) := hD.get 2 rfl rfl rfl
        have g28 : F_ 28 = .int .i64 ((nearI (y)) + ((((i / 4) : Nat) : Int))) := hD.get 3 rfl rfl rfl
        exact (y_cs rfl rfl rfl (fun _ _ => by kernel_rfl) (ev_func _) (vsC g17 (vsC g18 (vsC g23 (vsC g28 vsN)))) (fref_at (p) ((nearI (x)) + ((((i % 4) : Nat) : Int))) ((nearI (y)) + ((((i / 4) : Nat) : Int))) (f) (f0) (f1) (f2) (T_f0) (T_f1) (T_f2) _  (B97.all hR Apart.none) (B98.all hR Apart.none) (B99.all hR Apart.none) ) (fun e_ w_ h_ => ⟨_, h_.1, rfl, h_.2⟩))
      refine stepsF_cons ?_ ?_
      · refine StepF.one rfl fun F_ w_ hR hout hD => ?_
        have g16 : F_ 16 = .int .i64 (((i : Nat) : Int)) := hD.get 0 rfl rfl rfl
        exact (y_atR (i) (s := 1) rfl ((hout 9 rfl (by decide)).trans s110) g16 (by omega) Try.underlying26 (by omega) (by kernel_rfl) (by omega) ⟨rfl, Kept.refl _ _⟩)
      exact stepsF_nil
    intro v115 F116 w117 k118 G119 hF120
    have B122 := B97.all k118 Apart.none
    have B123 := B98.all k118 Apart.none
    have B124 := B99.all k118 Apart.none
    have B125 := B100.all k118 id
    have B126 := B101.all k118 id
    have B127 := B102.all k118 id
    have K128 := K86.trans k118 (fun _ _ x => x.elim)
    have s129 : F116 1 = .int .i64 (p) := (hF120 1).trans s105
    have s130 : F116 2 = .int .i64 (x) := (hF120 2).trans s106
    have s131 : F116 3 = .int .i64 (y) := (hF120 3).trans s107
    have s132 : F116 4 = .pointer (some ⟨p1, 0, none⟩) := (hF120 4).trans s108
    have s133 : F116 8 = .pointer (some ⟨p14, 0, none⟩) := (hF120 8).trans s109
    have s134 : F116 9 = .pointer (some ⟨p38, 0, none⟩) := (hF120 9).trans s110
    have s135 : F116 32 = undef := (hF120 32).trans s111
    have s136 : F116 10 = .int .i64 (((i : Nat) : Int)) := (hF120 10).trans s112
    have s137 : F116 29 = .int .i64 (atF (f) (p) ((nearI (x)) + ((((i % 4) : Nat) : Int))) ((nearI (y)) + ((((i / 4) : Nat) : Int)))) := (hF120 29).trans (G119 13 (by decide))
    have s138 : F116 30 = .pointer (some ⟨p38, i, none⟩) := (hF120 30).trans (G119 14 (by decide))
    clear G119 hF120
    refine wl_set_blk rfl rfl rfl s138 s137 B127 (by omega) (by kernel_rfl) fun w139 B140 k141 => ?_
    have B142 := B122.all k141 (fun i h x => (((ap45).symm) i h x))
    have B143 := B123.all k141 (fun i h x => (((ap46).symm) i h x))
    have B144 := B124.all k141 (fun i h x => (((ap47).symm) i h x))
    have B145 := B125.all k141 (fun x => (((ap48).symm) p1 rfl x))
    have B146 := B126.all k141 (fun x => (((ap49).symm) p14 rfl x))
    have K147 := K128.trans k141 (Grew.ok (S := fun _ => False) gr44 noB_le)
    refine wl_nil fun F148 hF149 => ?_
    have s150 : F148 1 = .int .i64 (p) := (hF149 1).trans s129
    have s151 : F148 2 = .int .i64 (x) := (hF149 2).trans s130
    have s152 : F148 3 = .int .i64 (y) := (hF149 3).trans s131
    have s153 : F148 4 = .pointer (some ⟨p1, 0, none⟩) := (hF149 4).trans s132
    have s154 : F148 8 = .pointer (some ⟨p14, 0, none⟩) := (hF149 8).trans s133
    have s155 : F148 9 = .pointer (some ⟨p38, 0, none⟩) := (hF149 9).trans s134
    have s156 : F148 32 = undef := (hF149 32).trans s135
    have s157 : F148 10 = .int .i64 (((i : Nat) : Int)) := (hF149 10).trans s136
    clear hF149
    refine in_normal ?_
    refine then_normal ?_
    refine wq_region ?_
    refine wl_v (.int .i64 (((i : Nat) : Int))) rfl rfl (y_mov rfl s157 ⟨rfl, rfl⟩) ?_
    refine wl_v (.int .i64 (((i + 1 : Nat) : Int))) rfl rfl (y_add rfl rfl rfl (i64_n (by omega) (by omega)) ⟨rfl, rfl⟩) ?_
    refine wl_v (.int .i64 (((i + 1 : Nat) : Int))) rfl rfl (y_asg rfl rfl ⟨rfl, rfl⟩) ?_
    refine wl_nil fun F158 hF159 => ?_
    have s160 : F158 1 = .int .i64 (p) := (hF159 1).trans s150
    have s161 : F158 2 = .int .i64 (x) := (hF159 2).trans s151
    have s162 : F158 3 = .int .i64 (y) := (hF159 3).trans s152
    have s163 : F158 4 = .pointer (some ⟨p1, 0, none⟩) := (hF159 4).trans s153
    have s164 : F158 8 = .pointer (some ⟨p14, 0, none⟩) := (hF159 8).trans s154
    have s165 : F158 9 = .pointer (some ⟨p38, 0, none⟩) := (hF159 9).trans s155
    have s166 : F158 32 = undef := (hF159 32).trans s156
    have s167 : F158 10 = .int .i64 (((i + 1 : Nat) : Int)) := (hF159 10).trans rfl
    clear hF159
    exact then_normal ⟨(16 - (i + 1)), by omega, i + 1, by omega, rfl, s160, s161, s162, s163, s164, s165, s166, s167, K147, B142, B143, B144, B145, B146, (B140.next rfl)⟩
  · replace c114 := of_decide_eq_false c114
    refine wq_exit ?_
    refine then_exit ?_
    refine then_exit ?_
    have l168 : 16 = i := by omega
    subst l168
    have B169 : Blk w85 p38 26 (getF f p x y) := (B102.last)
    refine in_here ?_
    refine then_normal ?_
    refine wq_seq ?_
    refine wq_region ?_
    refine wl_v (blkV (getF f p x y)) rfl rfl (y_load_blk blkT_arr rfl s110 B169 ⟨rfl, rfl⟩) ?_
    refine wl_store_blk blkT_arr rfl rfl rfl s109 rfl B101 fun w170 B171 k172 => ?_
    have B173 := B97.all k172 (fun i h x => (((ap21).symm) i h x))
    have B174 := B98.all k172 (fun i h x => (((ap22).symm) i h x))
    have B175 := B99.all k172 (fun i h x => (((ap23).symm) i h x))
    have B176 := B100.all k172 (fun x => (((ap24).symm) p1 rfl x))
    have B177 := B169.all k172 (fun x => ((ap49) p38 rfl x))
    have K178 := K86.trans k172 (Grew.ok (S := fun _ => False) gr20 noB_le)
    refine wl_nil fun F179 hF180 => ?_
    have s181 : F179 8 = .pointer (some ⟨p14, 0, none⟩) := (hF180 8).trans s109
    have s182 : F179 32 = undef := (hF180 32).trans s111
    clear hF180
    refine then_normal ?_
    refine wq_ret ?_
    exact end_blk blkT_arr s182 rfl rfl s181 B171 ⟨rfl, K178⟩
end Go.Proofs.Ytomkodoclnbaoaa
namespace Go.Proofs.Ytomkodoclnbaoaa

def sameT (l m : List Nat) : Bool := (textOf l).toList == (textOf m).toList
def sameF (a b : FD) : Bool := decide (a.W = b.W) && decide (a.H = b.H) && (sameT a.p0 b.p0 && sameT a.p1 b.p1 && sameT a.p2 b.p2)
theorem sameF_0 {a b : FD} (h : ((textOf a.p0).toList == (textOf b.p0).toList) = false) : sameF a b = false := by unfold sameF sameT; rw [h]; simp
theorem sameF_1 {a b : FD} (h : ((textOf a.p1).toList == (textOf b.p1).toList) = false) : sameF a b = false := by unfold sameF sameT; rw [h]; simp
theorem sameF_W {a b : FD} (h : ¬ a.W = b.W) : sameF a b = false := by unfold sameF; simp [h]
theorem sameF_H {a b : FD} (h : ¬ a.H = b.H) : sameF a b = false := by unfold sameF; simp [h]
theorem sameF_2 {a b : FD} (h0 : ((textOf a.p0).toList == (textOf b.p0).toList) = true) (h1 : ((textOf a.p1).toList == (textOf b.p1).toList) = true) (hw : a.W = b.W) (hh : a.H = b.H) : sameF a b = ((textOf a.p2).toList == (textOf b.p2).toList) := by
  unfold sameF sameT; rw [h0, h1]; simp [hw, hh]
def fewF (f : FD) : Bool := decide ((f.p0.length : Int) ≤ 10000) && decide ((f.p1.length : Int) ≤ 10000) && decide ((f.p2.length : Int) ≤ 10000)
theorem fewF_0 {f : FD} (h : ¬ (f.p0.length : Int) ≤ 10000) : fewF f = false := by unfold fewF; simp only [decide_eq_false h]; rfl
theorem fewF_1 {f : FD} (h : ¬ (f.p1.length : Int) ≤ 10000) : fewF f = false := by unfold fewF; simp only [decide_eq_false h, Bool.and_false, Bool.false_and]
theorem fewF_2 {f : FD} (h0 : (f.p0.length : Int) ≤ 10000) (h1 : (f.p1.length : Int) ≤ 10000) : fewF f = decide ((f.p2.length : Int) ≤ 10000) := by unfold fewF; simp only [decide_eq_true h0, decide_eq_true h1, Bool.true_and]

def farTo (l m : List Nat) (s : Int) : Nat → Int
  | 0 => s
  | k + 1 => max (max (farTo l m s k) (((l.getD k 0 : Nat) : Int) - ((m.getD k 0 : Nat) : Int))) (-(((l.getD k 0 : Nat) : Int) - ((m.getD k 0 : Nat) : Int)))
def farS (a b : FD) : Nat → Int
  | 0 => 0
  | 1 => farTo a.p0 b.p0 0 a.p0.length
  | 2 => farTo a.p1 b.p1 (farTo a.p0 b.p0 0 a.p0.length) a.p1.length
  | _ => farTo a.p2 b.p2 (farTo a.p1 b.p1 (farTo a.p0 b.p0 0 a.p0.length) a.p1.length) a.p2.length
def alikeF (a b : FD) : Prop := okF a ∧ okF b ∧ a.W = b.W ∧ a.H = b.H
instance (a b : FD) : Decidable (alikeF a b) := by unfold alikeF; infer_instance
def farF (a b : FD) : Int := if alikeF a b then farS a b 3 else -1
theorem farF_yes {a b : FD} (h : alikeF a b) : farF a b = farS a b 3 := if_pos h
theorem farF_no {a b : FD} (h : ¬ alikeF a b) : farF a b = -1 := if_neg h
theorem alike_len {a b : FD} (h : alikeF a b) : a.p0.length = b.p0.length ∧ a.p1.length = b.p1.length ∧ a.p2.length = b.p2.length := by
  obtain ⟨⟨_, _, h0, h1, h2⟩, ⟨_, _, k0, k1, k2⟩, hw, hh⟩ := h
  rw [← hw, ← hh] at k0 k1 k2
  omega

def copyF (f : FD) : FD := if okF f then f else FD.none
theorem copyF_yes {f : FD} (h : okF f) : copyF f = f := if_pos h
theorem copyF_no {f : FD} (h : ¬ okF f) : copyF f = FD.none := if_neg h
def FD.setp (f : FD) (p : Int) (j n : Nat) : FD := if p = 0 then { f with p0 := f.p0.set j n } else if p = 1 then { f with p1 := f.p1.set j n } else { f with p2 := f.p2.set j n }
def byteI (n : Int) : Nat := (min (max n 0) 255).toNat
theorem byteI_lt (n : Int) : byteI n < 256 := by unfold byteI; omega
def within (w h u v : Int) : Prop := 0 ≤ u ∧ u < w ∧ 0 ≤ v ∧ v < h
instance (w h u v : Int) : Decidable (within w h u v) := by unfold within; infer_instance
def putTo (f : FD) (p x y : Int) (b : Nat → Int) : Nat → FD
  | 0 => copyF f
  | k + 1 => if within (sizeF f p).1 (sizeF f p).2 (nearI x + ((k % 4 : Nat) : Int)) (nearI y + ((k / 4 : Nat) : Int)) then
      (putTo f p x y b k).setp p ((nearI y + ((k / 4 : Nat) : Int)) * (sizeF f p).1 + (nearI x + ((k % 4 : Nat) : Int))).toNat (byteI (b k))
    else putTo f p x y b k
def putFr (f : FD) (p x y : Int) (b : Nat → Int) : FD := putTo f p x y b 16
theorem put_out {f : FD} {p x y : Int} {b : Nat → Int} {k : Nat} (h : ¬ within (sizeF f p).1 (sizeF f p).2 (nearI x + ((k % 4 : Nat) : Int)) (nearI y + ((k / 4 : Nat) : Int))) : putTo f p x y b (k + 1) = putTo f p x y b k := by rw [putTo, if_neg h]
theorem put_in {f : FD} {p x y : Int} {b : Nat → Int} {k : Nat} (h : within (sizeF f p).1 (sizeF f p).2 (nearI x + ((k % 4 : Nat) : Int)) (nearI y + ((k / 4 : Nat) : Int))) :
    putTo f p x y b (k + 1) = (putTo f p x y b k).setp p ((nearI y + ((k / 4 : Nat) : Int)) * (sizeF f p).1 + (nearI x + ((k % 4 : Nat) : Int))).toNat (byteI (b k)) := by rw [putTo, if_pos h]
theorem setp_side (f : FD) (p : Int) (j n : Nat) : (f.setp p j n).W = f.W ∧ (f.setp p j n).H = f.H ∧ (f.setp p j n).p0.length = f.p0.length ∧ (f.setp p j n).p1.length = f.p1.length ∧ (f.setp p j n).p2.length = f.p2.length := by
  unfold FD.setp
  split
  · simp
  · split <;> simp
theorem put_side (f : FD) (p x y : Int) (b : Nat → Int) (k : Nat) : (putTo f p x y b k).W = (copyF f).W ∧ (putTo f p x y b k).H = (copyF f).H ∧ (putTo f p x y b k).p0.length = (copyF f).p0.length ∧ (putTo f p x y b k).p1.length = (copyF f).p1.length ∧ (putTo f p x y b k).p2.length = (copyF f).p2.length := by
  induction k with
  | zero => simp [putTo]
  | succ k ih =>
    rw [putTo]
    split
    · have h := setp_side (putTo f p x y b k) p ((nearI y + ((k / 4 : Nat) : Int)) * (sizeF f p).1 + (nearI x + ((k % 4 : Nat) : Int))).toNat (byteI (b k))
      omega
    · exact ih
theorem put_lens {f : FD} {p : Int} (x y : Int) (b : Nat → Int) (k : Nat) (h : (sizeF f p).1 ≠ 0) : (putTo f p x y b k).p0.length = f.p0.length ∧ (putTo f p x y b k).p1.length = f.p1.length ∧ (putTo f p x y b k).p2.length = f.p2.length := by
  have h1 := put_side f p x y b k
  rw [copyF_yes (size_some h).1] at h1
  exact h1.2.2
theorem within_cell {f : FD} {p u v : Int} (h : within (sizeF f p).1 (sizeF f p).2 u v) : (sizeF f p).1 ≠ 0 ∧ 0 ≤ v * (sizeF f p).1 ∧ v * (sizeF f p).1 ≤ 4096 ∧ 0 ≤ v * (sizeF f p).1 + u ∧ v * (sizeF f p).1 + u < ((f.pl p).length : Int) := by
  obtain ⟨h1, h2, h3, h4⟩ := h
  have hne : (sizeF f p).1 ≠ 0 := by omega
  obtain ⟨_, _, hl⟩ := size_pos (size_some hne)
  have hb := size_bounds f p
  have hc := cell_in (w := (sizeF f p).1) (h := (sizeF f p).2) (x := u) (y := v) (by omega) (by omega) (by omega) (by omega) (by omega)
  have h5 : (sizeF f p).1 * (sizeF f p).2 ≤ 64 * 64 := Int.mul_le_mul hb.2.1 hb.2.2.2 hb.2.2.1 (by omega)
  rw [hl] at hc h5
  exact ⟨hne, by omega, by omega, by omega, by omega⟩

end Go.Proofs.Ytomkodoclnbaoaa
