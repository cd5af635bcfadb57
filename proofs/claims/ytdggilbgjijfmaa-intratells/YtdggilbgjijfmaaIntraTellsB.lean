/- What IntraTells reaches of my texts, part 2. -/
import Derived.Test.YtdggilbgjijfmaaIntraTellsA
namespace Go.Proofs.Ytdggilbgjijfmaa
open Go.RowKit
theorem stcT_frame : StcT Try.prog 25 5 := ⟨_, Try.underlying25, rfl, by kernel_rfl⟩

set_option maxHeartbeats 4000000 in
set_option maxRecDepth 100000 in
theorem fref_side (n : Int) (w0 : World) :
    Calls Try.prog 44 #[.int .i64 (n)] w0 fun e w' => e = .returned (.bool (sideB n)) ∧ Kept (fun _ => False) w0 w' := by
  refine calls_wq (args := [.int .i64 (n)]) 14 Try.func44 rfl rfl (Nat.le_of_ble_eq_true rfl) ?_
  have K0 := Kept.refl (fun _ => False) w0
  refine wq_seq ?_
  refine wq_region ?_
  refine wl_v (.bool false) rfl rfl (y_asg rfl rfl ⟨rfl, rfl⟩) ?_
  refine wl_nil fun F1 hF2 => ?_
  have s3 : F1 0 = .int .i64 (n) := (hF2 0).trans rfl
  have s4 : F1 14 = undef := (hF2 14).trans rfl
  clear hF2
  refine then_normal ?_
  refine wq_seq ?_
  by_cases d5 : (8) ≤ (n)
  · skip
    by_cases d6 : (n) ≤ (64)
    · skip
      refine wq_region ?_
      refine wl_v (.int .i64 (n)) rfl rfl (y_mov rfl s3 ⟨rfl, rfl⟩) ?_
      refine wl_v (.bool true) rfl rfl (y_geq rfl rfl rfl (decide_eq_true d5) ⟨rfl, rfl⟩) ?_
      refine wl_v (.bool true) rfl rfl (y_mov rfl rfl ⟨rfl, rfl⟩) ?_
      refine wl_vw (.int .i64 (n)) 2 true 5 rfl rfl rfl rfl rfl (y_mov rfl s3 ⟨rfl, rfl⟩) ?_
      refine wl_vw (.bool true) 2 true 5 rfl rfl rfl rfl rfl (y_leq rfl rfl rfl (decide_eq_true d6) ⟨rfl, rfl⟩) ?_
      refine wl_v (.bool true) rfl rfl (y_pickT rfl rfl rfl ⟨rfl, rfl⟩) ?_
      refine wl_v (.bool true) rfl rfl (y_mov rfl rfl ⟨rfl, rfl⟩) ?_
      refine wl_vw (.int .i64 (n)) 6 true 9 rfl rfl rfl rfl rfl (y_mov rfl s3 ⟨rfl, rfl⟩) ?_
      refine wl_vw (.int .i64 (Int.tmod (n) (8))) 6 true 9 rfl rfl rfl rfl rfl (y_rem rfl rfl rfl (by first | decide | omega) rfl ⟨rfl, rfl⟩) ?_
      refine wl_vw (.bool (decide ((Int.tmod (n) (8)) = (0)))) 6 true 9 rfl rfl rfl rfl rfl (y_eqlI rfl rfl rfl rfl ⟨rfl, rfl⟩) ?_
      refine wl_v (.bool (decide ((Int.tmod (n) (8)) = (0)))) rfl rfl (y_pickT rfl rfl rfl ⟨rfl, rfl⟩) ?_
      refine wl_v (.bool (decide ((Int.tmod (n) (8)) = (0)))) rfl rfl (y_asg rfl rfl ⟨rfl, rfl⟩) ?_
      refine wl_nil fun F7 hF8 => ?_
      have s9 : F7 14 = undef := (hF8 14).trans s4
      have s10 : F7 2 = .bool (decide ((Int.tmod (n) (8)) = (0))) := (hF8 2).trans rfl
      clear hF8
      refine then_normal ?_
      refine wq_ret ?_
      exact end_tmp (v := .bool (decide ((Int.tmod (n) (8)) = (0)))) s9 rfl rfl s10 ⟨(by first | rw [sideB_low (by omega)] | rw [sideB_high (by omega)] | rw [sideB_mid (by omega) (by omega)]), K0⟩
    · skip
      refine wq_region ?_
      refine wl_v (.int .i64 (n)) rfl rfl (y_mov rfl s3 ⟨rfl, rfl⟩) ?_
      refine wl_v (.bool true) rfl rfl (y_geq rfl rfl rfl (decide_eq_true d5) ⟨rfl, rfl⟩) ?_
      refine wl_v (.bool true) rfl rfl (y_mov rfl rfl ⟨rfl, rfl⟩) ?_
      refine wl_vw (.int .i64 (n)) 2 true 5 rfl rfl rfl rfl rfl (y_mov rfl s3 ⟨rfl, rfl⟩) ?_
      refine wl_vw (.bool false) 2 true 5 rfl rfl rfl rfl rfl (y_leq rfl rfl rfl (decide_eq_false d6) ⟨rfl, rfl⟩) ?_
      refine wl_v (.bool false) rfl rfl (y_pickT rfl rfl rfl ⟨rfl, rfl⟩) ?_
      refine wl_v (.bool false) rfl rfl (y_mov rfl rfl ⟨rfl, rfl⟩) ?_
      refine wl_unless 6 true 9 rfl rfl rfl (Or.inl rfl) rfl ?_
      refine wl_unless 6 true 9 rfl rfl rfl (Or.inl rfl) rfl ?_
      refine wl_unless 6 true 9 rfl rfl rfl (Or.inl rfl) rfl ?_
      refine wl_v (.bool false) rfl rfl (y_pickF rfl rfl rfl ⟨rfl, rfl⟩) ?_
      refine wl_v (.bool false) rfl rfl (y_asg rfl rfl ⟨rfl, rfl⟩) ?_
      refine wl_nil fun F11 hF12 => ?_
      have s13 : F11 14 = undef := (hF12 14).trans s4
      have s14 : F11 2 = .bool false := (hF12 2).trans rfl
      clear hF12
      refine then_normal ?_
      refine wq_ret ?_
      exact end_tmp (v := .bool false) s13 rfl rfl s14 ⟨(by first | rw [sideB_low (by omega)] | rw [sideB_high (by omega)] | rw [sideB_mid (by omega) (by omega)]), K0⟩
  · skip
    refine wq_region ?_
    refine wl_v (.int .i64 (n)) rfl rfl (y_mov rfl s3 ⟨rfl, rfl⟩) ?_
    refine wl_v (.bool false) rfl rfl (y_geq rfl rfl rfl (decide_eq_false d5) ⟨rfl, rfl⟩) ?_
    refine wl_v (.bool false) rfl rfl (y_mov rfl rfl ⟨rfl, rfl⟩) ?_
    refine wl_unless 2 true 5 rfl rfl rfl (Or.inl rfl) rfl ?_
    refine wl_unless 2 true 5 rfl rfl rfl (Or.inl rfl) rfl ?_
    refine wl_v (.bool false) rfl rfl (y_pickF rfl rfl rfl ⟨rfl, rfl⟩) ?_
    refine wl_v (.bool false) rfl rfl (y_mov rfl rfl ⟨rfl, rfl⟩) ?_
    refine wl_unless 6 true 9 rfl rfl rfl (Or.inl rfl) rfl ?_
    refine wl_unless 6 true 9 rfl rfl rfl (Or.inl rfl) rfl ?_
    refine wl_unless 6 true 9 rfl rfl rfl (Or.inl rfl) rfl ?_
    refine wl_v (.bool false) rfl rfl (y_pickF rfl rfl rfl ⟨rfl, rfl⟩) ?_
    refine wl_v (.bool false) rfl rfl (y_asg rfl rfl ⟨rfl, rfl⟩) ?_
    refine wl_nil fun F15 hF16 => ?_
    have s17 : F15 14 = undef := (hF16 14).trans s4
    have s18 : F15 2 = .bool false := (hF16 2).trans rfl
    clear hF16
    refine then_normal ?_
    refine wq_ret ?_
    exact end_tmp (v := .bool false) s17 rfl rfl s18 ⟨(by first | rw [sideB_low (by omega)] | rw [sideB_high (by omega)] | rw [sideB_mid (by omega) (by omega)]), K0⟩

set_option maxHeartbeats 4000000 in
set_option maxRecDepth 100000 in
theorem fref_check (f : FD) (f0 f1 f2 : Value) (T_f0 : Nat → Prop) (T_f1 : Nat → Prop) (T_f2 : Nat → Prop) (w0 : World) (h_f0 : Byt w0 T_f0 f0 ((f).p0)) (h_f1 : Byt w0 T_f1 f1 ((f).p1)) (h_f2 : Byt w0 T_f2 f2 ((f).p2)) :
    Calls Try.prog 25 #[.agg #[.int .i64 ((f).W), .int .i64 ((f).H), f0, f1, f2]] w0 fun e w' => e = .returned (.int .i64 (checkE f)) ∧ Kept (fun _ => False) w0 w' := by
  refine calls_wq (args := [.agg #[.int .i64 ((f).W), .int .i64 ((f).H), f0, f1, f2]]) 51 Try.func25 rfl rfl (Nat.le_of_ble_eq_true rfl) ?_
  have K0 := Kept.refl (fun _ => False) w0
  have hmul := @area_bounds f.W f.H
  have g_f0 := Grew.refl w0 T_f0
  have g_f1 := Grew.refl w0 T_f1
  have g_f2 := Grew.refl w0 T_f2
  refine wq_seq ?_
  refine wq_region ?_
  refine wl_box_stc (vs := [.int .i64 ((f).W), .int .i64 ((f).H), f0, f1, f2]) rfl rfl rfl rfl fun p1 w2 B4 g5 k3 => ?_
  have gr6 : Grew w0 noB (onB p1) := Grew.new K0 g5
  have ap7 : Apart (onB p1) (T_f0) := Apart.new g5 (h_f0).live
  have ap8 : Apart (onB p1) (T_f1) := Apart.new g5 (h_f1).live
  have ap9 : Apart (onB p1) (T_f2) := Apart.new g5 (h_f2).live
  have B10 := h_f0.all k3 Apart.none
  have B11 := h_f1.all k3 Apart.none
  have B12 := h_f2.all k3 Apart.none
  have K13 := K0.trans k3 (fun _ _ x => x.elim)
  refine wl_v (.int .i64 (0)) rfl rfl (y_asg rfl rfl ⟨rfl, rfl⟩) ?_
  refine wl_nil fun F14 hF15 => ?_
  have s16 : F14 51 = undef := (hF15 51).trans rfl
  have s17 : F14 1 = .pointer (some ⟨p1, 0, none⟩) := (hF15 1).trans rfl
  clear hF15
  refine then_normal ?_
  refine wq_seq ?_
  refine wq_seq ?_
  rcases Bool.eq_false_or_eq_true (sideB ((f).W)) with d18 | d18
  · skip
    rcases Bool.eq_false_or_eq_true (sideB ((f).H)) with d19 | d19
    · skip
      by_cases d20 : (((((f).p0).length : Nat) : Int)) ≠ ((f).W * (f).H)
      · skip
        refine wq_region ?_
        refine wl_v (.pointer (some ⟨p1, 0, none⟩)) rfl rfl (y_fieldR (n := 1) rfl s17 Try.underlying25 rfl (by kernel_rfl) (by decide) rfl ⟨rfl, rfl⟩) ?_
        refine wl_v (.int .i64 ((f).W)) rfl rfl (y_ld_stc rfl rfl Try.underlying3 B4 rfl rfl ⟨rfl, rfl⟩) ?_
        refine wl_call (R := fun v_ w_ => v_ = .bool true ∧ Kept (fun _ => False) w2 w_) rfl rfl (y_cs rfl rfl rfl (fun _ _ => by kernel_rfl) (ev_func _) (vsC rfl vsN) (fref_side ((f).W)  _   ) (fun e_ w_ h_ => ⟨_, h_.1, (congrArg Value.bool d18), h_.2⟩)) ?_
        rintro _ w21 ⟨rfl, k22⟩
        have B23 := B10.all k22 Apart.none
        have B24 := B11.all k22 Apart.none
        have B25 := B12.all k22 Apart.none
        have B26 := B4.all k22 id
        have K27 := K13.trans k22 (fun _ _ x => x.elim)
        refine wl_v (.bool false) rfl rfl (y_not rfl rfl rfl ⟨rfl, rfl⟩) ?_
        refine wl_v (.bool false) rfl rfl (y_mov rfl rfl ⟨rfl, rfl⟩) ?_
        refine wl_vw (.pointer (some ⟨p1, 1, none⟩)) 4 false 7 rfl rfl rfl rfl rfl (y_fieldR (n := 1) rfl s17 Try.underlying25 rfl (by kernel_rfl) (by decide) rfl ⟨rfl, rfl⟩) ?_
        refine wl_vw (.int .i64 ((f).H)) 4 false 7 rfl rfl rfl rfl rfl (y_ld_stc rfl rfl Try.underlying3 B26 rfl rfl ⟨rfl, rfl⟩) ?_
        refine wl_callw (R := fun v_ w_ => v_ = .bool true ∧ Kept (fun _ => False) w21 w_) 4 false 7 rfl rfl rfl rfl rfl (y_cs rfl rfl rfl (fun _ _ => by kernel_rfl) (ev_func _) (vsC rfl vsN) (fref_side ((f).H)  _   ) (fun e_ w_ h_ => ⟨_, h_.1, (congrArg Value.bool d19), h_.2⟩)) ?_
        rintro _ w28 ⟨rfl, k29⟩
        have B30 := B23.all k29 Apart.none
        have B31 := B24.all k29 Apart.none
        have B32 := B25.all k29 Apart.none
        have B33 := B26.all k29 id
        have K34 := K27.trans k29 (fun _ _ x => x.elim)
        refine wl_vw (.bool false) 4 false 7 rfl rfl rfl rfl rfl (y_not rfl rfl rfl ⟨rfl, rfl⟩) ?_
        refine wl_v (.bool false) rfl rfl (y_pickF rfl rfl rfl ⟨rfl, rfl⟩) ?_
        refine wl_v (.bool false) rfl rfl (y_mov rfl rfl ⟨rfl, rfl⟩) ?_
        refine wl_vw (.pointer (some ⟨p1, 2, none⟩)) 10 false 13 rfl rfl rfl rfl rfl (y_fieldR (n := 3) rfl s17 Try.underlying25 rfl (by kernel_rfl) (by decide) rfl ⟨rfl, rfl⟩) ?_
        refine wl_vw (.pointer (some ⟨p1, 2, none⟩)) 10 false 13 rfl rfl rfl rfl rfl (y_atR (0) (s := 1) rfl rfl rfl (by omega) Try.underlying23 (by omega) (by kernel_rfl) (by omega) ⟨rfl, rfl⟩) ?_
        refine wl_vw (f0) 10 false 13 rfl rfl rfl rfl rfl (y_ld_stc rfl rfl Try.underlying22 B33 rfl rfl ⟨rfl, rfl⟩) ?_
        refine wl_vw (.int .i64 (((((f).p0).length : Nat) : Int))) 10 false 13 rfl rfl rfl rfl rfl (y_lenV rfl rfl rfl B30 ⟨rfl, rfl⟩) ?_
        refine wl_vw (.pointer (some ⟨p1, 0, none⟩)) 10 false 13 rfl rfl rfl rfl rfl (y_fieldR (n := 1) rfl s17 Try.underlying25 rfl (by kernel_rfl) (by decide) rfl ⟨rfl, rfl⟩) ?_
        refine wl_vw (.int .i64 ((f).W)) 10 false 13 rfl rfl rfl rfl rfl (y_ld_stc rfl rfl Try.underlying3 B33 rfl rfl ⟨rfl, rfl⟩) ?_
        refine wl_vw (.pointer (some ⟨p1, 1, none⟩)) 10 false 13 rfl rfl rfl rfl rfl (y_fieldR (n := 1) rfl s17 Try.underlying25 rfl (by kernel_rfl) (by decide) rfl ⟨rfl, rfl⟩) ?_
        refine wl_vw (.int .i64 ((f).H)) 10 false 13 rfl rfl rfl rfl rfl (y_ld_stc rfl rfl Try.underlying3 B33 rfl rfl ⟨rfl, rfl⟩) ?_
        refine wl_vw (.int .i64 ((f).W * (f).H)) 10 false 13 rfl rfl rfl rfl rfl (y_mul rfl rfl rfl (i64_i rfl (by have h := hmul (by assumption) (by assumption); omega)) ⟨rfl, rfl⟩) ?_
        refine wl_vw (.bool true) 10 false 13 rfl rfl rfl rfl rfl (y_neqI rfl rfl rfl (decide_eq_true d20) ⟨rfl, rfl⟩) ?_
        refine wl_v (.bool true) rfl rfl (y_pickF rfl rfl rfl ⟨rfl, rfl⟩) ?_
        refine wl_v (.bool true) rfl rfl (y_mov rfl rfl ⟨rfl, rfl⟩) ?_
        refine wl_unless 22 false 25 rfl rfl rfl (Or.inl rfl) rfl ?_
        refine wl_unless 22 false 25 rfl rfl rfl (Or.inl rfl) rfl ?_
        refine wl_unless 22 false 25 rfl rfl rfl (Or.inl rfl) rfl ?_
        refine wl_unless 22 false 25 rfl rfl rfl (Or.inl rfl) rfl ?_
        refine wl_unless 22 false 25 rfl rfl rfl (Or.inl rfl) rfl ?_
        refine wl_unless 22 false 25 rfl rfl rfl (Or.inl rfl) rfl ?_
        refine wl_unless 22 false 25 rfl rfl rfl (Or.inl rfl) rfl ?_
        refine wl_unless 22 false 25 rfl rfl rfl (Or.inl rfl) rfl ?_
        refine wl_unless 22 false 25 rfl rfl rfl (Or.inl rfl) rfl ?_
        refine wl_unless 22 false 25 rfl rfl rfl (Or.inl rfl) rfl ?_
        refine wl_unless 22 false 25 rfl rfl rfl (Or.inl rfl) rfl ?_
        refine wl_v (.bool true) rfl rfl (y_pickT rfl rfl rfl ⟨rfl, rfl⟩) ?_
        refine wl_v (.bool true) rfl rfl (y_mov rfl rfl ⟨rfl, rfl⟩) ?_
        refine wl_unless 35 false 38 rfl rfl rfl (Or.inl rfl) rfl ?_
        refine wl_unless 35 false 38 rfl rfl rfl (Or.inl rfl) rfl ?_
        refine wl_unless 35 false 38 rfl rfl rfl (Or.inl rfl) rfl ?_
        refine wl_unless 35 false 38 rfl rfl rfl (Or.inl rfl) rfl ?_
        refine wl_unless 35 false 38 rfl rfl rfl (Or.inl rfl) rfl ?_
        refine wl_unless 35 false 38 rfl rfl rfl (Or.inl rfl) rfl ?_
        refine wl_unless 35 false 38 rfl rfl rfl (Or.inl rfl) rfl ?_
        refine wl_unless 35 false 38 rfl rfl rfl (Or.inl rfl) rfl ?_
        refine wl_unless 35 false 38 rfl rfl rfl (Or.inl rfl) rfl ?_
        refine wl_unless 35 false 38 rfl rfl rfl (Or.inl rfl) rfl ?_
        refine wl_unless 35 false 38 rfl rfl rfl (Or.inl rfl) rfl ?_
        refine wl_v (.bool true) rfl rfl (y_pickT rfl rfl rfl ⟨rfl, rfl⟩) ?_
        refine wl_nil fun F35 hF36 => ?_
        have s37 : F35 51 = undef := (hF36 51).trans s16
        have s38 : F35 50 = .bool true := (hF36 50).trans rfl
        clear hF36
        refine then_normal ?_
        refine wq_cond (t := true) s38 (fun _ => ?_) (fun e => by cases e)
        refine wq_seq ?_
        refine wq_region ?_
        refine wl_v (.int .i64 (70)) rfl rfl (y_asg rfl rfl ⟨rfl, rfl⟩) ?_
        refine wl_nil fun F39 hF40 => ?_
        have s41 : F39 51 = undef := (hF40 51).trans s37
        have s42 : F39 2 = .int .i64 (70) := (hF40 2).trans rfl
        clear hF40
        refine then_normal ?_
        refine wq_ret ?_
        refine then_ret ?_
        exact end_tmp (v := .int .i64 (70)) s41 rfl rfl s42 ⟨(by first | rw [checkE_ok ⟨by assumption, by assumption, by first | assumption | (apply Decidable.byContradiction; assumption), by first | assumption | (apply Decidable.byContradiction; assumption), by first | assumption | (apply Decidable.byContradiction; assumption)⟩] | rw [checkE_no (by rintro ⟨h1, h2, h3, h4, h5⟩; simp_all)]), K34⟩
      · skip
        by_cases d43 : (((((f).p1).length : Nat) : Int)) ≠ (Int.tdiv ((f).W * (f).H) 4)
        · skip
          refine wq_region ?_
          refine wl_v (.pointer (some ⟨p1, 0, none⟩)) rfl rfl (y_fieldR (n := 1) rfl s17 Try.underlying25 rfl (by kernel_rfl) (by decide) rfl ⟨rfl, rfl⟩) ?_
          refine wl_v (.int .i64 ((f).W)) rfl rfl (y_ld_stc rfl rfl Try.underlying3 B4 rfl rfl ⟨rfl, rfl⟩) ?_
          refine wl_call (R := fun v_ w_ => v_ = .bool true ∧ Kept (fun _ => False) w2 w_) rfl rfl (y_cs rfl rfl rfl (fun _ _ => by kernel_rfl) (ev_func _) (vsC rfl vsN) (fref_side ((f).W)  _   ) (fun e_ w_ h_ => ⟨_, h_.1, (congrArg Value.bool d18), h_.2⟩)) ?_
          rintro _ w44 ⟨rfl, k45⟩
          have B46 := B10.all k45 Apart.none
          have B47 := B11.all k45 Apart.none
          have B48 := B12.all k45 Apart.none
          have B49 := B4.all k45 id
          have K50 := K13.trans k45 (fun _ _ x => x.elim)
          refine wl_v (.bool false) rfl rfl (y_not rfl rfl rfl ⟨rfl, rfl⟩) ?_
          refine wl_v (.bool false) rfl rfl (y_mov rfl rfl ⟨rfl, rfl⟩) ?_
          refine wl_vw (.pointer (some ⟨p1, 1, none⟩)) 4 false 7 rfl rfl rfl rfl rfl (y_fieldR (n := 1) rfl s17 Try.underlying25 rfl (by kernel_rfl) (by decide) rfl ⟨rfl, rfl⟩) ?_
          refine wl_vw (.int .i64 ((f).H)) 4 false 7 rfl rfl rfl rfl rfl (y_ld_stc rfl rfl Try.underlying3 B49 rfl rfl ⟨rfl, rfl⟩) ?_
          refine wl_callw (R := fun v_ w_ => v_ = .bool true ∧ Kept (fun _ => False) w44 w_) 4 false 7 rfl rfl rfl rfl rfl (y_cs rfl rfl rfl (fun _ _ => by kernel_rfl) (ev_func _) (vsC rfl vsN) (fref_side ((f).H)  _   ) (fun e_ w_ h_ => ⟨_, h_.1, (congrArg Value.bool d19), h_.2⟩)) ?_
          rintro _ w51 ⟨rfl, k52⟩
          have B53 := B46.all k52 Apart.none
          have B54 := B47.all k52 Apart.none
          have B55 := B48.all k52 Apart.none
          have B56 := B49.all k52 id
          have K57 := K50.trans k52 (fun _ _ x => x.elim)
          refine wl_vw (.bool false) 4 false 7 rfl rfl rfl rfl rfl (y_not rfl rfl rfl ⟨rfl, rfl⟩) ?_
          refine wl_v (.bool false) rfl rfl (y_pickF rfl rfl rfl ⟨rfl, rfl⟩) ?_
          refine wl_v (.bool false) rfl rfl (y_mov rfl rfl ⟨rfl, rfl⟩) ?_
          refine wl_vw (.pointer (some ⟨p1, 2, none⟩)) 10 false 13 rfl rfl rfl rfl rfl (y_fieldR (n := 3) rfl s17 Try.underlying25 rfl (by kernel_rfl) (by decide) rfl ⟨rfl, rfl⟩) ?_
          refine wl_vw (.pointer (some ⟨p1, 2, none⟩)) 10 false 13 rfl rfl rfl rfl rfl (y_atR (0) (s := 1) rfl rfl rfl (by omega) Try.underlying23 (by omega) (by kernel_rfl) (by omega) ⟨rfl, rfl⟩) ?_
          refine wl_vw (f0) 10 false 13 rfl rfl rfl rfl rfl (y_ld_stc rfl rfl Try.underlying22 B56 rfl rfl ⟨rfl, rfl⟩) ?_
          refine wl_vw (.int .i64 (((((f).p0).length : Nat) : Int))) 10 false 13 rfl rfl rfl rfl rfl (y_lenV rfl rfl rfl B53 ⟨rfl, rfl⟩) ?_
          refine wl_vw (.pointer (some ⟨p1, 0, none⟩)) 10 false 13 rfl rfl rfl rfl rfl (y_fieldR (n := 1) rfl s17 Try.underlying25 rfl (by kernel_rfl) (by decide) rfl ⟨rfl, rfl⟩) ?_
          refine wl_vw (.int .i64 ((f).W)) 10 false 13 rfl rfl rfl rfl rfl (y_ld_stc rfl rfl Try.underlying3 B56 rfl rfl ⟨rfl, rfl⟩) ?_
          refine wl_vw (.pointer (some ⟨p1, 1, none⟩)) 10 false 13 rfl rfl rfl rfl rfl (y_fieldR (n := 1) rfl s17 Try.underlying25 rfl (by kernel_rfl) (by decide) rfl ⟨rfl, rfl⟩) ?_
          refine wl_vw (.int .i64 ((f).H)) 10 false 13 rfl rfl rfl rfl rfl (y_ld_stc rfl rfl Try.underlying3 B56 rfl rfl ⟨rfl, rfl⟩) ?_
          refine wl_vw (.int .i64 ((f).W * (f).H)) 10 false 13 rfl rfl rfl rfl rfl (y_mul rfl rfl rfl (i64_i rfl (by have h := hmul (by assumption) (by assumption); omega)) ⟨rfl, rfl⟩) ?_
          refine wl_vw (.bool false) 10 false 13 rfl rfl rfl rfl rfl (y_neqI rfl rfl rfl (decide_eq_false d20) ⟨rfl, rfl⟩) ?_
          refine wl_v (.bool false) rfl rfl (y_pickF rfl rfl rfl ⟨rfl, rfl⟩) ?_
          refine wl_v (.bool false) rfl rfl (y_mov rfl rfl ⟨rfl, rfl⟩) ?_
          refine wl_vw (.pointer (some ⟨p1, 2, none⟩)) 22 false 25 rfl rfl rfl rfl rfl (y_fieldR (n := 3) rfl s17 Try.underlying25 rfl (by kernel_rfl) (by decide) rfl ⟨rfl, rfl⟩) ?_
          refine wl_vw (.pointer (some ⟨p1, 3, none⟩)) 22 false 25 rfl rfl rfl rfl rfl (y_atR (1) (s := 1) rfl rfl rfl (by omega) Try.underlying23 (by omega) (by kernel_rfl) (by omega) ⟨rfl, rfl⟩) ?_
          refine wl_vw (f1) 22 false 25 rfl rfl rfl rfl rfl (y_ld_stc rfl rfl Try.underlying22 B56 rfl rfl ⟨rfl, rfl⟩) ?_
          refine wl_vw (.int .i64 (((((f).p1).length : Nat) : Int))) 22 false 25 rfl rfl rfl rfl rfl (y_lenV rfl rfl rfl B54 ⟨rfl, rfl⟩) ?_
          refine wl_vw (.pointer (some ⟨p1, 0, none⟩)) 22 false 25 rfl rfl rfl rfl rfl (y_fieldR (n := 1) rfl s17 Try.underlying25 rfl (by kernel_rfl) (by decide) rfl ⟨rfl, rfl⟩) ?_
          refine wl_vw (.int .i64 ((f).W)) 22 false 25 rfl rfl rfl rfl rfl (y_ld_stc rfl rfl Try.underlying3 B56 rfl rfl ⟨rfl, rfl⟩) ?_
          refine wl_vw (.pointer (some ⟨p1, 1, none⟩)) 22 false 25 rfl rfl rfl rfl rfl (y_fieldR (n := 1) rfl s17 Try.underlying25 rfl (by kernel_rfl) (by decide) rfl ⟨rfl, rfl⟩) ?_
          refine wl_vw (.int .i64 ((f).H)) 22 false 25 rfl rfl rfl rfl rfl (y_ld_stc rfl rfl Try.underlying3 B56 rfl rfl ⟨rfl, rfl⟩) ?_
          refine wl_vw (.int .i64 ((f).W * (f).H)) 22 false 25 rfl rfl rfl rfl rfl (y_mul rfl rfl rfl (i64_i rfl (by have h := hmul (by assumption) (by assumption); omega)) ⟨rfl, rfl⟩) ?_
          refine wl_vw (.int .i64 (Int.tdiv ((f).W * (f).H) 4)) 22 false 25 rfl rfl rfl rfl rfl (y_quo rfl rfl rfl (by first | decide | omega) (i64_i rfl (by have h := hmul (by assumption) (by assumption); rw [tdiv4 (by omega)]; omega)) ⟨rfl, rfl⟩) ?_
          refine wl_vw (.bool true) 22 false 25 rfl rfl rfl rfl rfl (y_neqI rfl rfl rfl (decide_eq_true d43) ⟨rfl, rfl⟩) ?_
          refine wl_v (.bool true) rfl rfl (y_pickF rfl rfl rfl ⟨rfl, rfl⟩) ?_
          refine wl_v (.bool true) rfl rfl (y_mov rfl rfl ⟨rfl, rfl⟩) ?_
          refine wl_unless 35 false 38 rfl rfl rfl (Or.inl rfl) rfl ?_
          refine wl_unless 35 false 38 rfl rfl rfl (Or.inl rfl) rfl ?_
          refine wl_unless 35 false 38 rfl rfl rfl (Or.inl rfl) rfl ?_
          refine wl_unless 35 false 38 rfl rfl rfl (Or.inl rfl) rfl ?_
          refine wl_unless 35 false 38 rfl rfl rfl (Or.inl rfl) rfl ?_
          refine wl_unless 35 false 38 rfl rfl rfl (Or.inl rfl) rfl ?_
          refine wl_unless 35 false 38 rfl rfl rfl (Or.inl rfl) rfl ?_
          refine wl_unless 35 false 38 rfl rfl rfl (Or.inl rfl) rfl ?_
          refine wl_unless 35 false 38 rfl rfl rfl (Or.inl rfl) rfl ?_
          refine wl_unless 35 false 38 rfl rfl rfl (Or.inl rfl) rfl ?_
          refine wl_unless 35 false 38 rfl rfl rfl (Or.inl rfl) rfl ?_
          refine wl_v (.bool true) rfl rfl (y_pickT rfl rfl rfl ⟨rfl, rfl⟩) ?_
          refine wl_nil fun F58 hF59 => ?_
          have s60 : F58 51 = undef := (hF59 51).trans s16
          have s61 : F58 50 = .bool true := (hF59 50).trans rfl
          clear hF59
          refine then_normal ?_
          refine wq_cond (t := true) s61 (fun _ => ?_) (fun e => by cases e)
          refine wq_seq ?_
          refine wq_region ?_
          refine wl_v (.int .i64 (70)) rfl rfl (y_asg rfl rfl ⟨rfl, rfl⟩) ?_
          refine wl_nil fun F62 hF63 => ?_
          have s64 : F62 51 = undef := (hF63 51).trans s60
          have s65 : F62 2 = .int .i64 (70) := (hF63 2).trans rfl
          clear hF63
          refine then_normal ?_
          refine wq_ret ?_
          refine then_ret ?_
          exact end_tmp (v := .int .i64 (70)) s64 rfl rfl s65 ⟨(by first | rw [checkE_ok ⟨by assumption, by assumption, by first | assumption | (apply Decidable.byContradiction; assumption), by first | assumption | (apply Decidable.byContradiction; assumption), by first | assumption | (apply Decidable.byContradiction; assumption)⟩] | rw [checkE_no (by rintro ⟨h1, h2, h3, h4, h5⟩; simp_all)]), K57⟩
        · skip
          refine wq_region ?_
          refine wl_v (.pointer (some ⟨p1, 0, none⟩)) rfl rfl (y_fieldR (n := 1) rfl s17 Try.underlying25 rfl (by kernel_rfl) (by decide) rfl ⟨rfl, rfl⟩) ?_
          refine wl_v (.int .i64 ((f).W)) rfl rfl (y_ld_stc rfl rfl Try.underlying3 B4 rfl rfl ⟨rfl, rfl⟩) ?_
          refine wl_call (R := fun v_ w_ => v_ = .bool true ∧ Kept (fun _ => False) w2 w_) rfl rfl (y_cs rfl rfl rfl (fun _ _ => by kernel_rfl) (ev_func _) (vsC rfl vsN) (fref_side ((f).W)  _   ) (fun e_ w_ h_ => ⟨_, h_.1, (congrArg Value.bool d18), h_.2⟩)) ?_
          rintro _ w66 ⟨rfl, k67⟩
          have B68 := B10.all k67 Apart.none
          have B69 := B11.all k67 Apart.none
          have B70 := B12.all k67 Apart.none
          have B71 := B4.all k67 id
          have K72 := K13.trans k67 (fun _ _ x => x.elim)
          refine wl_v (.bool false) rfl rfl (y_not rfl rfl rfl ⟨rfl, rfl⟩) ?_
          refine wl_v (.bool false) rfl rfl (y_mov rfl rfl ⟨rfl, rfl⟩) ?_
          refine wl_vw (.pointer (some ⟨p1, 1, none⟩)) 4 false 7 rfl rfl rfl rfl rfl (y_fieldR (n := 1) rfl s17 Try.underlying25 rfl (by kernel_rfl) (by decide) rfl ⟨rfl, rfl⟩) ?_
          refine wl_vw (.int .i64 ((f).H)) 4 false 7 rfl rfl rfl rfl rfl (y_ld_stc rfl rfl Try.underlying3 B71 rfl rfl ⟨rfl, rfl⟩) ?_
          refine wl_callw (R := fun v_ w_ => v_ = .bool true ∧ Kept (fun _ => False) w66 w_) 4 false 7 rfl rfl rfl rfl rfl (y_cs rfl rfl rfl (fun _ _ => by kernel_rfl) (ev_func _) (vsC rfl vsN) (fref_side ((f).H)  _   ) (fun e_ w_ h_ => ⟨_, h_.1, (congrArg Value.bool d19), h_.2⟩)) ?_
          rintro _ w73 ⟨rfl, k74⟩
          have B75 := B68.all k74 Apart.none
          have B76 := B69.all k74 Apart.none
          have B77 := B70.all k74 Apart.none
          have B78 := B71.all k74 id
          have K79 := K72.trans k74 (fun _ _ x => x.elim)
          refine wl_vw (.bool false) 4 false 7 rfl rfl rfl rfl rfl (y_not rfl rfl rfl ⟨rfl, rfl⟩) ?_
          refine wl_v (.bool false) rfl rfl (y_pickF rfl rfl rfl ⟨rfl, rfl⟩) ?_
          refine wl_v (.bool false) rfl rfl (y_mov rfl rfl ⟨rfl, rfl⟩) ?_
          refine wl_vw (.pointer (some ⟨p1, 2, none⟩)) 10 false 13 rfl rfl rfl rfl rfl (y_fieldR (n := 3) rfl s17 Try.underlying25 rfl (by kernel_rfl) (by decide) rfl ⟨rfl, rfl⟩) ?_
          refine wl_vw (.pointer (some ⟨p1, 2, none⟩)) 10 false 13 rfl rfl rfl rfl rfl (y_atR (0) (s := 1) rfl rfl rfl (by omega) Try.underlying23 (by omega) (by kernel_rfl) (by omega) ⟨rfl, rfl⟩) ?_
          refine wl_vw (f0) 10 false 13 rfl rfl rfl rfl rfl (y_ld_stc rfl rfl Try.underlying22 B78 rfl rfl ⟨rfl, rfl⟩) ?_
          refine wl_vw (.int .i64 (((((f).p0).length : Nat) : Int))) 10 false 13 rfl rfl rfl rfl rfl (y_lenV rfl rfl rfl B75 ⟨rfl, rfl⟩) ?_
          refine wl_vw (.pointer (some ⟨p1, 0, none⟩)) 10 false 13 rfl rfl rfl rfl rfl (y_fieldR (n := 1) rfl s17 Try.underlying25 rfl (by kernel_rfl) (by decide) rfl ⟨rfl, rfl⟩) ?_
          refine wl_vw (.int .i64 ((f).W)) 10 false 13 rfl rfl rfl rfl rfl (y_ld_stc rfl rfl Try.underlying3 B78 rfl rfl ⟨rfl, rfl⟩) ?_
          refine wl_vw (.pointer (some ⟨p1, 1, none⟩)) 10 false 13 rfl rfl rfl rfl rfl (y_fieldR (n := 1) rfl s17 Try.underlying25 rfl (by kernel_rfl) (by decide) rfl ⟨rfl, rfl⟩) ?_
          refine wl_vw (.int .i64 ((f).H)) 10 false 13 rfl rfl rfl rfl rfl (y_ld_stc rfl rfl Try.underlying3 B78 rfl rfl ⟨rfl, rfl⟩) ?_
          refine wl_vw (.int .i64 ((f).W * (f).H)) 10 false 13 rfl rfl rfl rfl rfl (y_mul rfl rfl rfl (i64_i rfl (by have h := hmul (by assumption) (by assumption); omega)) ⟨rfl, rfl⟩) ?_
          refine wl_vw (.bool false) 10 false 13 rfl rfl rfl rfl rfl (y_neqI rfl rfl rfl (decide_eq_false d20) ⟨rfl, rfl⟩) ?_
          refine wl_v (.bool false) rfl rfl (y_pickF rfl rfl rfl ⟨rfl, rfl⟩) ?_
          refine wl_v (.bool false) rfl rfl (y_mov rfl rfl ⟨rfl, rfl⟩) ?_
          refine wl_vw (.pointer (some ⟨p1, 2, none⟩)) 22 false 25 rfl rfl rfl rfl rfl (y_fieldR (n := 3) rfl s17 Try.underlying25 rfl (by kernel_rfl) (by decide) rfl ⟨rfl, rfl⟩) ?_
          refine wl_vw (.pointer (some ⟨p1, 3, none⟩)) 22 false 25 rfl rfl rfl rfl rfl (y_atR (1) (s := 1) rfl rfl rfl (by omega) Try.underlying23 (by omega) (by kernel_rfl) (by omega) ⟨rfl, rfl⟩) ?_
          refine wl_vw (f1) 22 false 25 rfl rfl rfl rfl rfl (y_ld_stc rfl rfl Try.underlying22 B78 rfl rfl ⟨rfl, rfl⟩) ?_
          refine wl_vw (.int .i64 (((((f).p1).length : Nat) : Int))) 22 false 25 rfl rfl rfl rfl rfl (y_lenV rfl rfl rfl B76 ⟨rfl, rfl⟩) ?_
          refine wl_vw (.pointer (some ⟨p1, 0, none⟩)) 22 false 25 rfl rfl rfl rfl rfl (y_fieldR (n := 1) rfl s17 Try.underlying25 rfl (by kernel_rfl) (by decide) rfl ⟨rfl, rfl⟩) ?_
          refine wl_vw (.int .i64 ((f).W)) 22 false 25 rfl rfl rfl rfl rfl (y_ld_stc rfl rfl Try.underlying3 B78 rfl rfl ⟨rfl, rfl⟩) ?_
          refine wl_vw (.pointer (some ⟨p1, 1, none⟩)) 22 false 25 rfl rfl rfl rfl rfl (y_fieldR (n := 1) rfl s17 Try.underlying25 rfl (by kernel_rfl) (by decide) rfl ⟨rfl, rfl⟩) ?_
          refine wl_vw (.int .i64 ((f).H)) 22 false 25 rfl rfl rfl rfl rfl (y_ld_stc rfl rfl Try.underlying3 B78 rfl rfl ⟨rfl, rfl⟩) ?_
          refine wl_vw (.int .i64 ((f).W * (f).H)) 22 false 25 rfl rfl rfl rfl rfl (y_mul rfl rfl rfl (i64_i rfl (by have h := hmul (by assumption) (by assumption); omega)) ⟨rfl, rfl⟩) ?_
          refine wl_vw (.int .i64 (Int.tdiv ((f).W * (f).H) 4)) 22 false 25 rfl rfl rfl rfl rfl (y_quo rfl rfl rfl (by first | decide | omega) (i64_i rfl (by have h := hmul (by assumption) (by assumption); rw [tdiv4 (by omega)]; omega)) ⟨rfl, rfl⟩) ?_
          refine wl_vw (.bool false) 22 false 25 rfl rfl rfl rfl rfl (y_neqI rfl rfl rfl (decide_eq_false d43) ⟨rfl, rfl⟩) ?_
          refine wl_v (.bool false) rfl rfl (y_pickF rfl rfl rfl ⟨rfl, rfl⟩) ?_
          refine wl_v (.bool false) rfl rfl (y_mov rfl rfl ⟨rfl, rfl⟩) ?_
          refine wl_vw (.pointer (some ⟨p1, 2, none⟩)) 35 false 38 rfl rfl rfl rfl rfl (y_fieldR (n := 3) rfl s17 Try.underlying25 rfl (by kernel_rfl) (by decide) rfl ⟨rfl, rfl⟩) ?_
          refine wl_vw (.pointer (some ⟨p1, 4, none⟩)) 35 false 38 rfl rfl rfl rfl rfl (y_atR (2) (s := 1) rfl rfl rfl (by omega) Try.underlying23 (by omega) (by kernel_rfl) (by omega) ⟨rfl, rfl⟩) ?_
          refine wl_vw (f2) 35 false 38 rfl rfl rfl rfl rfl (y_ld_stc rfl rfl Try.underlying22 B78 rfl rfl ⟨rfl, rfl⟩) ?_
          refine wl_vw (.int .i64 (((((f).p2).length : Nat) : Int))) 35 false 38 rfl rfl rfl rfl rfl (y_lenV rfl rfl rfl B77 ⟨rfl, rfl⟩) ?_
          refine wl_vw (.pointer (some ⟨p1, 0, none⟩)) 35 false 38 rfl rfl rfl rfl rfl (y_fieldR (n := 1) rfl s17 Try.underlying25 rfl (by kernel_rfl) (by decide) rfl ⟨rfl, rfl⟩) ?_
          refine wl_vw (.int .i64 ((f).W)) 35 false 38 rfl rfl rfl rfl rfl (y_ld_stc rfl rfl Try.underlying3 B78 rfl rfl ⟨rfl, rfl⟩) ?_
          refine wl_vw (.pointer (some ⟨p1, 1, none⟩)) 35 false 38 rfl rfl rfl rfl rfl (y_fieldR (n := 1) rfl s17 Try.underlying25 rfl (by kernel_rfl) (by decide) rfl ⟨rfl, rfl⟩) ?_
          refine wl_vw (.int .i64 ((f).H)) 35 false 38 rfl rfl rfl rfl rfl (y_ld_stc rfl rfl Try.underlying3 B78 rfl rfl ⟨rfl, rfl⟩) ?_
          refine wl_vw (.int .i64 ((f).W * (f).H)) 35 false 38 rfl rfl rfl rfl rfl (y_mul rfl rfl rfl (i64_i rfl (by have h := hmul (by assumption) (by assumption); omega)) ⟨rfl, rfl⟩) ?_
          refine wl_vw (.int .i64 (Int.tdiv ((f).W * (f).H) 4)) 35 false 38 rfl rfl rfl rfl rfl (y_quo rfl rfl rfl (by first | decide | omega) (i64_i rfl (by have h := hmul (by assumption) (by assumption); rw [tdiv4 (by omega)]; omega)) ⟨rfl, rfl⟩) ?_
          refine wl_vw (.bool (decide ((((((f).p2).length : Nat) : Int)) ≠ (Int.tdiv ((f).W * (f).H) 4)))) 35 false 38 rfl rfl rfl rfl rfl (y_neqI rfl rfl rfl rfl ⟨rfl, rfl⟩) ?_
          refine wl_v (.bool (decide ((((((f).p2).length : Nat) : Int)) ≠ (Int.tdiv ((f).W * (f).H) 4)))) rfl rfl (y_pickF rfl rfl rfl ⟨rfl, rfl⟩) ?_
          refine wl_nil fun F80 hF81 => ?_
          have s82 : F80 51 = undef := (hF81 51).trans s16
          have s83 : F80 50 = .bool (decide ((((((f).p2).length : Nat) : Int)) ≠ (Int.tdiv ((f).W * (f).H) 4))) := (hF81 50).trans rfl
          clear hF81
          refine then_normal ?_
          refine wq_cond s83 (fun c84 => ?_) (fun c84 => ?_)
          · replace c84 := of_decide_eq_true c84
            refine wq_seq ?_
            refine wq_region ?_
            refine wl_v (.int .i64 (70)) rfl rfl (y_asg rfl rfl ⟨rfl, rfl⟩) ?_
            refine wl_nil fun F85 hF86 => ?_
            have s87 : F85 51 = undef := (hF86 51).trans s82
            have s88 : F85 2 = .int .i64 (70) := (hF86 2).trans rfl
            clear hF86
            refine then_normal ?_
            refine wq_ret ?_
            refine then_ret ?_
            exact end_tmp (v := .int .i64 (70)) s87 rfl rfl s88 ⟨(by first | rw [checkE_ok ⟨by assumption, by assumption, by first | assumption | (apply Decidable.byContradiction; assumption), by first | assumption | (apply Decidable.byContradiction; assumption), by first | assumption | (apply Decidable.byContradiction; assumption)⟩] | rw [checkE_no (by rintro ⟨h1, h2, h3, h4, h5⟩; simp_all)]), K79⟩
          · replace c84 := of_decide_eq_false c84
            refine wq_skip ?_
            refine then_normal ?_
            refine wq_seq ?_
            refine wq_region ?_
            refine wl_v (.int .i64 (0)) rfl rfl (y_asg rfl rfl ⟨rfl, rfl⟩) ?_
            refine wl_nil fun F89 hF90 => ?_
            have s91 : F89 51 = undef := (hF90 51).trans s82
            have s92 : F89 2 = .int .i64 (0) := (hF90 2).trans rfl
            clear hF90
            refine then_normal ?_
            refine wq_ret ?_
            exact end_tmp (v := .int .i64 (0)) s91 rfl rfl s92 ⟨(by first | rw [checkE_ok ⟨by assumption, by assumption, by first | assumption | (apply Decidable.byContradiction; assumption), by first | assumption | (apply Decidable.byContradiction; assumption), by first | assumption | (apply Decidable.byContradiction; assumption)⟩] | rw [checkE_no (by rintro ⟨h1, h2, h3, h4, h5⟩; simp_all)]), K79⟩
    · skip
      refine wq_region ?_
      refine wl_v (.pointer (some ⟨p1, 0, none⟩)) rfl rfl (y_fieldR (n := 1) rfl s17 Try.underlying25 rfl (by kernel_rfl) (by decide) rfl ⟨rfl, rfl⟩) ?_
      refine wl_v (.int .i64 ((f).W)) rfl rfl (y_ld_stc rfl rfl Try.underlying3 B4 rfl rfl ⟨rfl, rfl⟩) ?_
      refine wl_call (R := fun v_ w_ => v_ = .bool true ∧ Kept (fun _ => False) w2 w_) rfl rfl (y_cs rfl rfl rfl (fun _ _ => by kernel_rfl) (ev_func _) (vsC rfl vsN) (fref_side ((f).W)  _   ) (fun e_ w_ h_ => ⟨_, h_.1, (congrArg Value.bool d18), h_.2⟩)) ?_
      rintro _ w93 ⟨rfl, k94⟩
      have B95 := B10.all k94 Apart.none
      have B96 := B11.all k94 Apart.none
      have B97 := B12.all k94 Apart.none
      have B98 := B4.all k94 id
      have K99 := K13.trans k94 (fun _ _ x => x.elim)
      refine wl_v (.bool false) rfl rfl (y_not rfl rfl rfl ⟨rfl, rfl⟩) ?_
      refine wl_v (.bool false) rfl rfl (y_mov rfl rfl ⟨rfl, rfl⟩) ?_
      refine wl_vw (.pointer (some ⟨p1, 1, none⟩)) 4 false 7 rfl rfl rfl rfl rfl (y_fieldR (n := 1) rfl s17 Try.underlying25 rfl (by kernel_rfl) (by decide) rfl ⟨rfl, rfl⟩) ?_
      refine wl_vw (.int .i64 ((f).H)) 4 false 7 rfl rfl rfl rfl rfl (y_ld_stc rfl rfl Try.underlying3 B98 rfl rfl ⟨rfl, rfl⟩) ?_
      refine wl_callw (R := fun v_ w_ => v_ = .bool false ∧ Kept (fun _ => False) w93 w_) 4 false 7 rfl rfl rfl rfl rfl (y_cs rfl rfl rfl (fun _ _ => by kernel_rfl) (ev_func _) (vsC rfl vsN) (fref_side ((f).H)  _   ) (fun e_ w_ h_ => ⟨_, h_.1, (congrArg Value.bool d19), h_.2⟩)) ?_
      rintro _ w100 ⟨rfl, k101⟩
      have B102 := B95.all k101 Apart.none
      have B103 := B96.all k101 Apart.none
      have B104 := B97.all k101 Apart.none
      have B105 := B98.all k101 id
      have K106 := K99.trans k101 (fun _ _ x => x.elim)
      refine wl_vw (.bool true) 4 false 7 rfl rfl rfl rfl rfl (y_not rfl rfl rfl ⟨rfl, rfl⟩) ?_
      refine wl_v (.bool true) rfl rfl (y_pickF rfl rfl rfl ⟨rfl, rfl⟩) ?_
      refine wl_v (.bool true) rfl rfl (y_mov rfl rfl ⟨rfl, rfl⟩) ?_
      refine wl_unless 10 false 13 rfl rfl rfl (Or.inl rfl) rfl ?_
      refine wl_unless 10 false 13 rfl rfl rfl (Or.inl rfl) rfl ?_
      refine wl_unless 10 false 13 rfl rfl rfl (Or.inl rfl) rfl ?_
      refine wl_unless 10 false 13 rfl rfl rfl (Or.inl rfl) rfl ?_
      refine wl_unless 10 false 13 rfl rfl rfl (Or.inl rfl) rfl ?_
      refine wl_unless 10 false 13 rfl rfl rfl (Or.inl rfl) rfl ?_
      refine wl_unless 10 false 13 rfl rfl rfl (Or.inl rfl) rfl ?_
      refine wl_unless 10 false 13 rfl rfl rfl (Or.inl rfl) rfl ?_
      refine wl_unless 10 false 13 rfl rfl rfl (Or.inl rfl) rfl ?_
      refine wl_unless 10 false 13 rfl rfl rfl (Or.inl rfl) rfl ?_
      refine wl_v (.bool true) rfl rfl (y_pickT rfl rfl rfl ⟨rfl, rfl⟩) ?_
      refine wl_v (.bool true) rfl rfl (y_mov rfl rfl ⟨rfl, rfl⟩) ?_
      refine wl_unless 22 false 25 rfl rfl rfl (Or.inl rfl) rfl ?_
      refine wl_unless 22 false 25 rfl rfl rfl (Or.inl rfl) rfl ?_
      refine wl_unless 22 false 25 rfl rfl rfl (Or.inl rfl) rfl ?_
      refine wl_unless 22 false 25 rfl rfl rfl (Or.inl rfl) rfl ?_
      refine wl_unless 22 false 25 rfl rfl rfl (Or.inl rfl) rfl ?_
      refine wl_unless 22 false 25 rfl rfl rfl (Or.inl rfl) rfl ?_
      refine wl_unless 22 false 25 rfl rfl rfl (Or.inl rfl) rfl ?_
      refine wl_unless 22 false 25 rfl rfl rfl (Or.inl rfl) rfl ?_
      refine wl_unless 22 false 25 rfl rfl rfl (Or.inl rfl) rfl ?_
      refine wl_unless 22 false 25 rfl rfl rfl (Or.inl rfl) rfl ?_
      refine wl_unless 22 false 25 rfl rfl rfl (Or.inl rfl) rfl ?_
      refine wl_v (.bool true) rfl rfl (y_pickT rfl rfl rfl ⟨rfl, rfl⟩) ?_
      refine wl_v (.bool true) rfl rfl (y_mov rfl rfl ⟨rfl, rfl⟩) ?_
      refine wl_unless 35 false 38 rfl rfl rfl (Or.inl rfl) rfl ?_
      refine wl_unless 35 false 38 rfl rfl rfl (Or.inl rfl) rfl ?_
      refine wl_unless 35 false 38 rfl rfl rfl (Or.inl rfl) rfl ?_
      refine wl_unless 35 false 38 rfl rfl rfl (Or.inl rfl) rfl ?_
      refine wl_unless 35 false 38 rfl rfl rfl (Or.inl rfl) rfl ?_
      refine wl_unless 35 false 38 rfl rfl rfl (Or.inl rfl) rfl ?_
      refine wl_unless 35 false 38 rfl rfl rfl (Or.inl rfl) rfl ?_
      refine wl_unless 35 false 38 rfl rfl rfl (Or.inl rfl) rfl ?_
      refine wl_unless 35 false 38 rfl rfl rfl (Or.inl rfl) rfl ?_
      refine wl_unless 35 false 38 rfl rfl rfl (Or.inl rfl) rfl ?_
      refine wl_unless 35 false 38 rfl rfl rfl (Or.inl rfl) rfl ?_
      refine wl_v (.bool true) rfl rfl (y_pickT rfl rfl rfl ⟨rfl, rfl⟩) ?_
      refine wl_nil fun F107 hF108 => ?_
      have s109 : F107 51 = undef := (hF108 51).trans s16
      have s110 : F107 50 = .bool true := (hF108 50).trans rfl
      clear hF108
      refine then_normal ?_
      refine wq_cond (t := true) s110 (fun _ => ?_) (fun e => by cases e)
      refine wq_seq ?_
      refine wq_region ?_
      refine wl_v (.int .i64 (70)) rfl rfl (y_asg rfl rfl ⟨rfl, rfl⟩) ?_
      refine wl_nil fun F111 hF112 => ?_
      have s113 : F111 51 = undef := (hF112 51).trans s109
      have s114 : F111 2 = .int .i64 (70) := (hF112 2).trans rfl
      clear hF112
      refine then_normal ?_
      refine wq_ret ?_
      refine then_ret ?_
      exact end_tmp (v := .int .i64 (70)) s113 rfl rfl s114 ⟨(by first | rw [checkE_ok ⟨by assumption, by assumption, by first | assumption | (apply Decidable.byContradiction; assumption), by first | assumption | (apply Decidable.byContradiction; assumption), by first | assumption | (apply Decidable.byContradiction; assumption)⟩] | rw [checkE_no (by rintro ⟨h1, h2, h3, h4, h5⟩; simp_all)]), K106⟩
  · skip
    refine wq_region ?_
    refine wl_v (.pointer (some ⟨p1, 0, none⟩)) rfl rfl (y_fieldR (n := 1) rfl s17 Try.underlying25 rfl (by kernel_rfl) (by decide) rfl ⟨rfl, rfl⟩) ?_
    refine wl_v (.int .i64 ((f).W)) rfl rfl (y_ld_stc rfl rfl Try.underlying3 B4 rfl rfl ⟨rfl, rfl⟩) ?_
    refine wl_call (R := fun v_ w_ => v_ = .bool false ∧ Kept (fun _ => False) w2 w_) rfl rfl (y_cs rfl rfl rfl (fun _ _ => by kernel_rfl) (ev_func _) (vsC rfl vsN) (fref_side ((f).W)  _   ) (fun e_ w_ h_ => ⟨_, h_.1, (congrArg Value.bool d18), h_.2⟩)) ?_
    rintro _ w115 ⟨rfl, k116⟩
    have B117 := B10.all k116 Apart.none
    have B118 := B11.all k116 Apart.none
    have B119 := B12.all k116 Apart.none
    have B120 := B4.all k116 id
    have K121 := K13.trans k116 (fun _ _ x => x.elim)
    refine wl_v (.bool true) rfl rfl (y_not rfl rfl rfl ⟨rfl, rfl⟩) ?_
    refine wl_v (.bool true) rfl rfl (y_mov rfl rfl ⟨rfl, rfl⟩) ?_
    refine wl_unless 4 false 7 rfl rfl rfl (Or.inl rfl) rfl ?_
    refine wl_unless 4 false 7 rfl rfl rfl (Or.inl rfl) rfl ?_
    refine wl_unless 4 false 7 rfl rfl rfl (Or.inl rfl) rfl ?_
    refine wl_unless 4 false 7 rfl rfl rfl (Or.inl rfl) rfl ?_
    refine wl_v (.bool true) rfl rfl (y_pickT rfl rfl rfl ⟨rfl, rfl⟩) ?_
    refine wl_v (.bool true) rfl rfl (y_mov rfl rfl ⟨rfl, rfl⟩) ?_
    refine wl_unless 10 false 13 rfl rfl rfl (Or.inl rfl) rfl ?_
    refine wl_unless 10 false 13 rfl rfl rfl (Or.inl rfl) rfl ?_
    refine wl_unless 10 false 13 rfl rfl rfl (Or.inl rfl) rfl ?_
    refine wl_unless 10 false 13 rfl rfl rfl (Or.inl rfl) rfl ?_
    refine wl_unless 10 false 13 rfl rfl rfl (Or.inl rfl) rfl ?_
    refine wl_unless 10 false 13 rfl rfl rfl (Or.inl rfl) rfl ?_
    refine wl_unless 10 false 13 rfl rfl rfl (Or.inl rfl) rfl ?_
    refine wl_unless 10 false 13 rfl rfl rfl (Or.inl rfl) rfl ?_
    refine wl_unless 10 false 13 rfl rfl rfl (Or.inl rfl) rfl ?_
    refine wl_unless 10 false 13 rfl rfl rfl (Or.inl rfl) rfl ?_
    refine wl_v (.bool true) rfl rfl (y_pickT rfl rfl rfl ⟨rfl, rfl⟩) ?_
    refine wl_v (.bool true) rfl rfl (y_mov rfl rfl ⟨rfl, rfl⟩) ?_
    refine wl_unless 22 false 25 rfl rfl rfl (Or.inl rfl) rfl ?_
    refine wl_unless 22 false 25 rfl rfl rfl (Or.inl rfl) rfl ?_
    refine wl_unless 22 false 25 rfl rfl rfl (Or.inl rfl) rfl ?_
    refine wl_unless 22 false 25 rfl rfl rfl (Or.inl rfl) rfl ?_
    refine wl_unless 22 false 25 rfl rfl rfl (Or.inl rfl) rfl ?_
    refine wl_unless 22 false 25 rfl rfl rfl (Or.inl rfl) rfl ?_
    refine wl_unless 22 false 25 rfl rfl rfl (Or.inl rfl) rfl ?_
    refine wl_unless 22 false 25 rfl rfl rfl (Or.inl rfl) rfl ?_
    refine wl_unless 22 false 25 rfl rfl rfl (Or.inl rfl) rfl ?_
    refine wl_unless 22 false 25 rfl rfl rfl (Or.inl rfl) rfl ?_
    refine wl_unless 22 false 25 rfl rfl rfl (Or.inl rfl) rfl ?_
    refine wl_v (.bool true) rfl rfl (y_pickT rfl rfl rfl ⟨rfl, rfl⟩) ?_
    refine wl_v (.bool true) rfl rfl (y_mov rfl rfl ⟨rfl, rfl⟩) ?_
    refine wl_unless 35 false 38 rfl rfl rfl (Or.inl rfl) rfl ?_
    refine wl_unless 35 false 38 rfl rfl rfl (Or.inl rfl) rfl ?_
    refine wl_unless 35 false 38 rfl rfl rfl (Or.inl rfl) rfl ?_
    refine wl_unless 35 false 38 rfl rfl rfl (Or.inl rfl) rfl ?_
    refine wl_unless 35 false 38 rfl rfl rfl (Or.inl rfl) rfl ?_
    refine wl_unless 35 false 38 rfl rfl rfl (Or.inl rfl) rfl ?_
    refine wl_unless 35 false 38 rfl rfl rfl (Or.inl rfl) rfl ?_
    refine wl_unless 35 false 38 rfl rfl rfl (Or.inl rfl) rfl ?_
    refine wl_unless 35 false 38 rfl rfl rfl (Or.inl rfl) rfl ?_
    refine wl_unless 35 false 38 rfl rfl rfl (Or.inl rfl) rfl ?_
    refine wl_unless 35 false 38 rfl rfl rfl (Or.inl rfl) rfl ?_
    refine wl_v (.bool true) rfl rfl (y_pickT rfl rfl rfl ⟨rfl, rfl⟩) ?_
    refine wl_nil fun F122 hF123 => ?_
    have s124 : F122 51 = undef := (hF123 51).trans s16
    have s125 : F122 50 = .bool true := (hF123 50).trans rfl
    clear hF123
    refine then_normal ?_
    refine wq_cond (t := true) s125 (fun _ => ?_) (fun e => by cases e)
    refine wq_seq ?_
    refine wq_region ?_
    refine wl_v (.int .i64 (70)) rfl rfl (y_asg rfl rfl ⟨rfl, rfl⟩) ?_
    refine wl_nil fun F126 hF127 => ?_
    have s128 : F126 51 = undef := (hF127 51).trans s124
    have s129 : F126 2 = .int .i64 (70) := (hF127 2).trans rfl
    clear hF127
    refine then_normal ?_
    refine wq_ret ?_
    refine then_ret ?_
    exact end_tmp (v := .int .i64 (70)) s128 rfl rfl s129 ⟨(by first | rw [checkE_ok ⟨by assumption, by assumption, by first | assumption | (apply Decidable.byContradiction; assumption), by first | assumption | (apply Decidable.byContradiction; assumption), by first | assumption | (apply Decidable.byContradiction; assumption)⟩] | rw [checkE_no (by rintro ⟨h1, h2, h3, h4, h5⟩; simp_all)]), K121⟩

set_option maxHeartbeats 4000000 in
set_option maxRecDepth 100000 in
theorem fref_size (p : Int) (f : FD) (f0 f1 f2 : Value) (T_f0 : Nat → Prop) (T_f1 : Nat → Prop) (T_f2 : Nat → Prop) (w0 : World) (h_f0 : Byt w0 T_f0 f0 ((f).p0)) (h_f1 : Byt w0 T_f1 f1 ((f).p1)) (h_f2 : Byt w0 T_f2 f2 ((f).p2)) :
    Calls Try.prog 49 #[.agg #[.int .i64 ((f).W), .int .i64 ((f).H), f0, f1, f2], .int .i64 (p)] w0 fun e w' => e = .returned (.tuple #[.int .i64 ((sizeF f p).1), .int .i64 ((sizeF f p).2)]) ∧ Kept (fun _ => False) w0 w' := by
  refine calls_wq (args := [.agg #[.int .i64 ((f).W), .int .i64 ((f).H), f0, f1, f2], .int .i64 (p)]) 29 Try.func49 rfl rfl (Nat.le_of_ble_eq_true rfl) ?_
  have K0 := Kept.refl (fun _ => False) w0
  have g_f0 := Grew.refl w0 T_f0
  have g_f1 := Grew.refl w0 T_f1
  have g_f2 := Grew.refl w0 T_f2
  refine wq_seq ?_
  refine wq_region ?_
  refine wl_box_stc (vs := [.int .i64 ((f).W), .int .i64 ((f).H), f0, f1, f2]) rfl rfl rfl rfl fun p1 w2 B4 g5 k3 => ?_
  have gr6 : Grew w0 noB (onB p1) := Grew.new K0 g5
  have ap7 : Apart (onB p1) (T_f0) := Apart.new g5 (h_f0).live
  have ap8 : Apart (onB p1) (T_f1) := Apart.new g5 (h_f1).live
  have ap9 : Apart (onB p1) (T_f2) := Apart.new g5 (h_f2).live
  have B10 := h_f0.all k3 Apart.none
  have B11 := h_f1.all k3 Apart.none
  have B12 := h_f2.all k3 Apart.none
  have K13 := K0.trans k3 (fun _ _ x => x.elim)
  refine wl_v (.int .i64 (0)) rfl rfl (y_asg rfl rfl ⟨rfl, rfl⟩) ?_
  refine wl_v (.int .i64 (0)) rfl rfl (y_asg rfl rfl ⟨rfl, rfl⟩) ?_
  refine wl_nil fun F14 hF15 => ?_
  have s16 : F14 1 = .int .i64 (p) := (hF15 1).trans rfl
  have s17 : F14 29 = undef := (hF15 29).trans rfl
  have s18 : F14 2 = .pointer (some ⟨p1, 0, none⟩) := (hF15 2).trans rfl
  clear hF15
  refine then_normal ?_
  refine wq_seq ?_
  refine wq_seq ?_
  by_cases d19 : (checkE (f)) ≠ (0)
  · skip
    refine wq_region ?_
    refine wl_v (.agg #[.int .i64 ((f).W), .int .i64 ((f).H), f0, f1, f2]) rfl rfl (y_load_stc stcT_frame rfl s18 B4 ⟨rfl, rfl⟩) ?_
    refine wl_call (R := fun v_ w_ => v_ = .int .i64 (checkE (f)) ∧ Kept (fun _ => False) w2 w_) rfl rfl (y_cs rfl rfl rfl (fun _ _ => by kernel_rfl) (ev_func _) (vsC rfl vsN) (fref_check (f) (f0) (f1) (f2) (T_f0) (T_f1) (T_f2) _  B10 B11 B12 ) (fun e_ w_ h_ => ⟨_, h_.1, rfl, h_.2⟩)) ?_
    rintro _ w20 ⟨rfl, k21⟩
    have B22 := B10.all k21 Apart.none
    have B23 := B11.all k21 Apart.none
    have B24 := B12.all k21 Apart.none
    have B25 := B4.all k21 id
    have K26 := K13.trans k21 (fun _ _ x => x.elim)
    refine wl_v (.bool true) rfl rfl (y_neqI rfl rfl rfl (decide_eq_true d19) ⟨rfl, rfl⟩) ?_
    refine wl_v (.bool true) rfl rfl (y_mov rfl rfl ⟨rfl, rfl⟩) ?_
    refine wl_unless 3 false 9 rfl rfl rfl (Or.inl rfl) rfl ?_
    refine wl_unless 3 false 9 rfl rfl rfl (Or.inl rfl) rfl ?_
    refine wl_v (.bool true) rfl rfl (y_pickT rfl rfl rfl ⟨rfl, rfl⟩) ?_
    refine wl_v (.bool true) rfl rfl (y_mov rfl rfl ⟨rfl, rfl⟩) ?_
    refine wl_unless 7 false 13 rfl rfl rfl (Or.inl rfl) rfl ?_
    refine wl_unless 7 false 13 rfl rfl rfl (Or.inl rfl) rfl ?_
    refine wl_v (.bool true) rfl rfl (y_pickT rfl rfl rfl ⟨rfl, rfl⟩) ?_
    refine wl_nil fun F27 hF28 => ?_
    have s29 : F27 1 = .int .i64 (p) := (hF28 1).trans s16
    have s30 : F27 29 = undef := (hF28 29).trans s17
    have s31 : F27 2 = .pointer (some ⟨p1, 0, none⟩) := (hF28 2).trans s18
    have s32 : F27 16 = .bool true := (hF28 16).trans rfl
    clear hF28
    refine then_normal ?_
    refine wq_cond (t := true) s32 (fun _ => ?_) (fun e => by cases e)
    refine wq_seq ?_
    refine wq_region ?_
    refine wl_v (.int .i64 (0)) rfl rfl (y_asg rfl rfl ⟨rfl, rfl⟩) ?_
    refine wl_v (.int .i64 (0)) rfl rfl (y_asg rfl rfl ⟨rfl, rfl⟩) ?_
    refine wl_nil fun F33 hF34 => ?_
    have s35 : F33 29 = undef := (hF34 29).trans s30
    have s36 : F33 4 = .int .i64 (0) := (hF34 4).trans rfl
    have s37 : F33 5 = .int .i64 (0) := (hF34 5).trans rfl
    clear hF34
    refine then_normal ?_
    refine wq_ret ?_
    refine then_ret ?_
    exact end_2 s35 rfl (res_tmp (v := .int .i64 (0)) rfl s36) (res_tmp (v := .int .i64 (0)) rfl s37) ⟨(by first | rw [sizeF_first hok (by omega)] | rw [sizeF_other hok (by omega) (by omega) (by omega)] | rw [sizeF_no (by rintro ⟨h1, h2, h3⟩; first | exact absurd ((checkE_iff f).2 h1) (by assumption) | omega)]), K26⟩
  · skip
    by_cases d38 : (p) < (0)
    · skip
      refine wq_region ?_
      refine wl_v (.agg #[.int .i64 ((f).W), .int .i64 ((f).H), f0, f1, f2]) rfl rfl (y_load_stc stcT_frame rfl s18 B4 ⟨rfl, rfl⟩) ?_
      refine wl_call (R := fun v_ w_ => v_ = .int .i64 (checkE (f)) ∧ Kept (fun _ => False) w2 w_) rfl rfl (y_cs rfl rfl rfl (fun _ _ => by kernel_rfl) (ev_func _) (vsC rfl vsN) (fref_check (f) (f0) (f1) (f2) (T_f0) (T_f1) (T_f2) _  B10 B11 B12 ) (fun e_ w_ h_ => ⟨_, h_.1, rfl, h_.2⟩)) ?_
      rintro _ w39 ⟨rfl, k40⟩
      have B41 := B10.all k40 Apart.none
      have B42 := B11.all k40 Apart.none
      have B43 := B12.all k40 Apart.none
      have B44 := B4.all k40 id
      have K45 := K13.trans k40 (fun _ _ x => x.elim)
      refine wl_v (.bool false) rfl rfl (y_neqI rfl rfl rfl (decide_eq_false d19) ⟨rfl, rfl⟩) ?_
      refine wl_v (.bool false) rfl rfl (y_mov rfl rfl ⟨rfl, rfl⟩) ?_
      refine wl_vw (.int .i64 (p)) 3 false 9 rfl rfl rfl rfl rfl (y_mov rfl s16 ⟨rfl, rfl⟩) ?_
      refine wl_vw (.bool true) 3 false 9 rfl rfl rfl rfl rfl (y_lss rfl rfl rfl (decide_eq_true d38) ⟨rfl, rfl⟩) ?_
      refine wl_v (.bool true) rfl rfl (y_pickF rfl rfl rfl ⟨rfl, rfl⟩) ?_
      refine wl_v (.bool true) rfl rfl (y_mov rfl rfl ⟨rfl, rfl⟩) ?_
      refine wl_unless 7 false 13 rfl rfl rfl (Or.inl rfl) rfl ?_
      refine wl_unless 7 false 13 rfl rfl rfl (Or.inl rfl) rfl ?_
      refine wl_v (.bool true) rfl rfl (y_pickT rfl rfl rfl ⟨rfl, rfl⟩) ?_
      refine wl_nil fun F46 hF47 => ?_
      have s48 : F46 1 = .int .i64 (p) := (hF47 1).trans s16
      have s49 : F46 29 = undef := (hF47 29).trans s17
      have s50 : F46 2 = .pointer (some ⟨p1, 0, none⟩) := (hF47 2).trans s18
      have s51 : F46 16 = .bool true := (hF47 16).trans rfl
      clear hF47
      refine then_normal ?_
      refine wq_cond (t := true) s51 (fun _ => ?_) (fun e => by cases e)
      refine wq_seq ?_
      refine wq_region ?_
      refine wl_v (.int .i64 (0)) rfl rfl (y_asg rfl rfl ⟨rfl, rfl⟩) ?_
      refine wl_v (.int .i64 (0)) rfl rfl (y_asg rfl rfl ⟨rfl, rfl⟩) ?_
      refine wl_nil fun F52 hF53 => ?_
      have s54 : F52 29 = undef := (hF53 29).trans s49
      have s55 : F52 4 = .int .i64 (0) := (hF53 4).trans rfl
      have s56 : F52 5 = .int .i64 (0) := (hF53 5).trans rfl
      clear hF53
      refine then_normal ?_
      refine wq_ret ?_
      refine then_ret ?_
      exact end_2 s54 rfl (res_tmp (v := .int .i64 (0)) rfl s55) (res_tmp (v := .int .i64 (0)) rfl s56) ⟨(by first | rw [sizeF_first hok (by omega)] | rw [sizeF_other hok (by omega) (by omega) (by omega)] | rw [sizeF_no (by rintro ⟨h1, h2, h3⟩; first | exact absurd ((checkE_iff f).2 h1) (by assumption) | omega)]), K45⟩
    · skip
      refine wq_region ?_
      refine wl_v (.agg #[.int .i64 ((f).W), .int .i64 ((f).H), f0, f1, f2]) rfl rfl (y_load_stc stcT_frame rfl s18 B4 ⟨rfl, rfl⟩) ?_
      refine wl_call (R := fun v_ w_ => v_ = .int .i64 (checkE (f)) ∧ Kept (fun _ => False) w2 w_) rfl rfl (y_cs rfl rfl rfl (fun _ _ => by kernel_rfl) (ev_func _) (vsC rfl vsN) (fref_check (f) (f0) (f1) (f2) (T_f0) (T_f1) (T_f2) _  B10 B11 B12 ) (fun e_ w_ h_ => ⟨_, h_.1, rfl, h_.2⟩)) ?_
      rintro _ w57 ⟨rfl, k58⟩
      have B59 := B10.all k58 Apart.none
      have B60 := B11.all k58 Apart.none
      have B61 := B12.all k58 Apart.none
      have B62 := B4.all k58 id
      have K63 := K13.trans k58 (fun _ _ x => x.elim)
      refine wl_v (.bool false) rfl rfl (y_neqI rfl rfl rfl (decide_eq_false d19) ⟨rfl, rfl⟩) ?_
      refine wl_v (.bool false) rfl rfl (y_mov rfl rfl ⟨rfl, rfl⟩) ?_
      refine wl_vw (.int .i64 (p)) 3 false 9 rfl rfl rfl rfl rfl (y_mov rfl s16 ⟨rfl, rfl⟩) ?_
      refine wl_vw (.bool false) 3 false 9 rfl rfl rfl rfl rfl (y_lss rfl rfl rfl (decide_eq_false d38) ⟨rfl, rfl⟩) ?_
      refine wl_v (.bool false) rfl rfl (y_pickF rfl rfl rfl ⟨rfl, rfl⟩) ?_
      refine wl_v (.bool false) rfl rfl (y_mov rfl rfl ⟨rfl, rfl⟩) ?_
      refine wl_vw (.int .i64 (p)) 7 false 13 rfl rfl rfl rfl rfl (y_mov rfl s16 ⟨rfl, rfl⟩) ?_
      refine wl_vw (.bool (decide ((2) < (p)))) 7 false 13 rfl rfl rfl rfl rfl (y_gtr rfl rfl rfl rfl ⟨rfl, rfl⟩) ?_
      refine wl_v (.bool (decide ((2) < (p)))) rfl rfl (y_pickF rfl rfl rfl ⟨rfl, rfl⟩) ?_
      refine wl_nil fun F64 hF65 => ?_
      have s66 : F64 1 = .int .i64 (p) := (hF65 1).trans s16
      have s67 : F64 29 = undef := (hF65 29).trans s17
      have s68 : F64 2 = .pointer (some ⟨p1, 0, none⟩) := (hF65 2).trans s18
      have s69 : F64 16 = .bool (decide ((2) < (p))) := (hF65 16).trans rfl
      clear hF65
      refine then_normal ?_
      refine wq_cond s69 (fun c70 => ?_) (fun c70 => ?_)
      · replace c70 := of_decide_eq_true c70
        refine wq_seq ?_
        refine wq_region ?_
        refine wl_v (.int .i64 (0)) rfl rfl (y_asg rfl rfl ⟨rfl, rfl⟩) ?_
        refine wl_v (.int .i64 (0)) rfl rfl (y_asg rfl rfl ⟨rfl, rfl⟩) ?_
        refine wl_nil fun F71 hF72 => ?_
        have s73 : F71 29 = undef := (hF72 29).trans s67
        have s74 : F71 4 = .int .i64 (0) := (hF72 4).trans rfl
        have s75 : F71 5 = .int .i64 (0) := (hF72 5).trans rfl
        clear hF72
        refine then_normal ?_
        refine wq_ret ?_
        refine then_ret ?_
        exact end_2 s73 rfl (res_tmp (v := .int .i64 (0)) rfl s74) (res_tmp (v := .int .i64 (0)) rfl s75) ⟨(by first | rw [sizeF_first hok (by omega)] | rw [sizeF_other hok (by omega) (by omega) (by omega)] | rw [sizeF_no (by rintro ⟨h1, h2, h3⟩; first | exact absurd ((checkE_iff f).2 h1) (by assumption) | omega)]), K63⟩
      · replace c70 := of_decide_eq_false c70
        refine wq_skip ?_
        refine then_normal ?_
        refine wq_seq ?_
        refine wq_seq ?_
        refine wq_region ?_
        refine wl_v (.int .i64 (p)) rfl rfl (y_mov rfl s66 ⟨rfl, rfl⟩) ?_
        refine wl_v (.bool (decide ((p) = (0)))) rfl rfl (y_eqlI rfl rfl rfl rfl ⟨rfl, rfl⟩) ?_
        refine wl_nil fun F76 hF77 => ?_
        have s78 : F76 29 = undef := (hF77 29).trans s67
        have s79 : F76 2 = .pointer (some ⟨p1, 0, none⟩) := (hF77 2).trans s68
        have s80 : F76 18 = .bool (decide ((p) = (0))) := (hF77 18).trans rfl
        clear hF77
        refine then_normal ?_
        refine wq_cond s80 (fun c81 => ?_) (fun c81 => ?_)
        · replace c81 := of_decide_eq_true c81
          refine wq_seq ?_
          have hok := (checkE_iff f).1 (by first | assumption | (apply Decidable.byContradiction; assumption))
          refine wq_said [some 19, some 20, some 21, some 22, some 4, some 5] [Pd.eq (.pointer (some ⟨p1, 0, none⟩)), Pd.eq (.int .i64 ((f).W)), Pd.eq (.pointer (some ⟨p1, 1, none⟩)), Pd.eq (.int .i64 ((f).H)), Pd.eq (.int .i64 ((f).W)), Pd.eq (.int .i64 ((f).H))] (by kernel_rfl) (by kernel_rfl) ?_ ?_
          · refine stepsF_cons ?_ ?_
            · refine StepF.one rfl fun F_ w_ hR hout hD => ?_
              exact (y_fieldR (n := 1) rfl ((hout 2 rfl (by decide)).trans s79) Try.underlying25 rfl (by kernel_rfl) (by decide) rfl ⟨rfl, Kept.refl _ _⟩)
            refine stepsF_cons ?_ ?_
            · refine StepF.one rfl fun F_ w_ hR hout hD => ?_
              have g19 : F_ 19 = .pointer (some ⟨p1, 0, none⟩) := hD.get 0 rfl rfl rfl
              exact (y_ld_stc rfl g19 Try.underlying3 (B62.all hR id) rfl rfl ⟨rfl, Kept.refl _ _⟩)
            refine stepsF_cons ?_ ?_
            · refine StepF.one rfl fun F_ w_ hR hout hD => ?_
              exact (y_fieldR (n := 1) rfl ((hout 2 rfl (by decide)).trans s79) Try.underlying25 rfl (by kernel_rfl) (by decide) rfl ⟨rfl, Kept.refl _ _⟩)
            refine stepsF_cons ?_ ?_
            · refine StepF.one rfl fun F_ w_ hR hout hD => ?_
              have g21 : F_ 21 = .pointer (some ⟨p1, 1, none⟩) := hD.get 0 rfl rfl rfl
              exact (y_ld_stc rfl g21 Try.underlying3 (B62.all hR id) rfl rfl ⟨rfl, Kept.refl _ _⟩)
            refine stepsF_cons ?_ ?_
            · refine StepF.one rfl fun F_ w_ hR hout hD => ?_
              have g20 : F_ 20 = .int .i64 ((f).W) := hD.get 0 rfl rfl rfl
              exact (y_asg rfl g20 ⟨rfl, Kept.refl _ _⟩)
            refine stepsF_cons ?_ ?_
            · refine StepF.one rfl fun F_ w_ hR hout hD => ?_
              have g22 : F_ 22 = .int .i64 ((f).H) := hD.get 0 rfl rfl rfl
              exact (y_asg rfl g22 ⟨rfl, Kept.refl _ _⟩)
            exact stepsF_nil
          intro v82 F83 w84 k85 G86 hF87
          have B89 := B59.all k85 Apart.none
          have B90 := B60.all k85 Apart.none
          have B91 := B61.all k85 Apart.none
          have B92 := B62.all k85 id
          have K93 := K63.trans k85 (fun _ _ x => x.elim)
          have s94 : F83 29 = undef := (hF87 29).trans s78
          have s95 : F83 4 = .int .i64 ((f).W) := (hF87 4).trans (G86 4 (by decide))
          have s96 : F83 5 = .int .i64 ((f).H) := (hF87 5).trans (G86 5 (by decide))
          clear G86 hF87
          refine then_normal ?_
          refine wq_ret ?_
          refine then_ret ?_
          exact end_2 s94 rfl (res_tmp (v := .int .i64 ((f).W)) rfl s95) (res_tmp (v := .int .i64 ((f).H)) rfl s96) ⟨(by first | rw [sizeF_first hok (by omega)] | rw [sizeF_other hok (by omega) (by omega) (by omega)] | rw [sizeF_no (by rintro ⟨h1, h2, h3⟩; first | exact absurd ((checkE_iff f).2 h1) (by assumption) | omega)]), K93⟩
        · replace c81 := of_decide_eq_false c81
          refine wq_skip ?_
          refine then_normal ?_
          refine wq_seq ?_
          have hok := (checkE_iff f).1 (by first | assumption | (apply Decidable.byContradiction; assumption))
          have hws := (sideB_iff _).1 hok.1
          have hhs := (sideB_iff _).1 hok.2.1
          refine wq_said [some 23, some 24, some 25, some 26, some 27, some 28, some 4, some 5] [Pd.eq (.pointer (some ⟨p1, 0, none⟩)), Pd.eq (.int .i64 ((f).W)), Pd.eq (.int .i64 (Int.tdiv (f).W 2)), Pd.eq (.pointer (some ⟨p1, 1, none⟩)), Pd.eq (.int .i64 ((f).H)), Pd.eq (.int .i64 (Int.tdiv (f).H 2)), Pd.eq (.int .i64 (Int.tdiv (f).W 2)), Pd.eq (.int .i64 (Int.tdiv (f).H 2))] (by kernel_rfl) (by kernel_rfl) ?_ ?_
          · refine stepsF_cons ?_ ?_
            · refine StepF.one rfl fun F_ w_ hR hout hD => ?_
              exact (y_fieldR (n := 1) rfl ((hout 2 rfl (by decide)).trans s79) Try.underlying25 rfl (by kernel_rfl) (by decide) rfl ⟨rfl, Kept.refl _ _⟩)
            refine stepsF_cons ?_ ?_
            · refine StepF.one rfl fun F_ w_ hR hout hD => ?_
              have g23 : F_ 23 = .pointer (some ⟨p1, 0, none⟩) := hD.get 0 rfl rfl rfl
              exact (y_ld_stc rfl g23 Try.underlying3 (B62.all hR id) rfl rfl ⟨rfl, Kept.refl _ _⟩)
            refine stepsF_cons ?_ ?_
            · refine StepF.one rfl fun F_ w_ hR hout hD => ?_
              have g24 : F_ 24 = .int .i64 ((f).W) := hD.get 0 rfl rfl rfl
              exact (y_quo rfl g24 rfl (by first | decide | omega) (i64_i rfl (by rw [tdiv2 (by omega)]; omega)) ⟨rfl, Kept.refl _ _⟩)
            refine stepsF_cons ?_ ?_
            · refine StepF.one rfl fun F_ w_ hR hout hD => ?_
              exact (y_fieldR (n := 1) rfl ((hout 2 rfl (by decide)).trans s79) Try.underlying25 rfl (by kernel_rfl) (by decide) rfl ⟨rfl, Kept.refl _ _⟩)
            refine stepsF_cons ?_ ?_
            · refine StepF.one rfl fun F_ w_ hR hout hD => ?_
              have g26 : F_ 26 = .pointer (some ⟨p1, 1, none⟩) := hD.get 0 rfl rfl rfl
              exact (y_ld_stc rfl g26 Try.underlying3 (B62.all hR id) rfl rfl ⟨rfl, Kept.refl _ _⟩)
            refine stepsF_cons ?_ ?_
            · refine StepF.one rfl fun F_ w_ hR hout hD => ?_
              have g27 : F_ 27 = .int .i64 ((f).H) := hD.get 0 rfl rfl rfl
              exact (y_quo rfl g27 rfl (by first | decide | omega) (i64_i rfl (by rw [tdiv2 (by omega)]; omega)) ⟨rfl, Kept.refl _ _⟩)
            refine stepsF_cons ?_ ?_
            · refine StepF.one rfl fun F_ w_ hR hout hD => ?_
              have g25 : F_ 25 = .int .i64 (Int.tdiv (f).W 2) := hD.get 0 rfl rfl rfl
              exact (y_asg rfl g25 ⟨rfl, Kept.refl _ _⟩)
            refine stepsF_cons ?_ ?_
            · refine StepF.one rfl fun F_ w_ hR hout hD => ?_
              have g28 : F_ 28 = .int .i64 (Int.tdiv (f).H 2) := hD.get 0 rfl rfl rfl
              exact (y_asg rfl g28 ⟨rfl, Kept.refl _ _⟩)
            exact stepsF_nil
          intro v97 F98 w99 k100 G101 hF102
          have B104 := B59.all k100 Apart.none
          have B105 := B60.all k100 Apart.none
          have B106 := B61.all k100 Apart.none
          have B107 := B62.all k100 id
          have K108 := K63.trans k100 (fun _ _ x => x.elim)
          have s109 : F98 29 = undef := (hF102 29).trans s78
          have s110 : F98 4 = .int .i64 (Int.tdiv (f).W 2) := (hF102 4).trans (G101 6 (by decide))
          have s111 : F98 5 = .int .i64 (Int.tdiv (f).H 2) := (hF102 5).trans (G101 7 (by decide))
          clear G101 hF102
          refine then_normal ?_
          refine wq_ret ?_
          exact end_2 s109 rfl (res_tmp (v := .int .i64 (Int.tdiv (f).W 2)) rfl s110) (res_tmp (v := .int .i64 (Int.tdiv (f).H 2)) rfl s111) ⟨(by first | rw [sizeF_first hok (by omega)] | rw [sizeF_other hok (by omega) (by omega) (by omega)] | rw [sizeF_no (by rintro ⟨h1, h2, h3⟩; first | exact absurd ((checkE_iff f).2 h1) (by assumption) | omega)]), K108⟩

set_option maxHeartbeats 4000000 in
set_option maxRecDepth 100000 in
theorem fref_at (p x y : Int) (f : FD) (f0 f1 f2 : Value) (T_f0 : Nat → Prop) (T_f1 : Nat → Prop) (T_f2 : Nat → Prop) (w0 : World) (h_f0 : Byt w0 T_f0 f0 ((f).p0)) (h_f1 : Byt w0 T_f1 f1 ((f).p1)) (h_f2 : Byt w0 T_f2 f2 ((f).p2)) :
    Calls Try.prog 45 #[.agg #[.int .i64 ((f).W), .int .i64 ((f).H), f0, f1, f2], .int .i64 (p), .int .i64 (x), .int .i64 (y)] w0 fun e w' => e = .returned (.int .i64 (atF f p x y)) ∧ Kept (fun _ => False) w0 w' := by
  refine calls_wq (args := [.agg #[.int .i64 ((f).W), .int .i64 ((f).H), f0, f1, f2], .int .i64 (p), .int .i64 (x), .int .i64 (y)]) 39 Try.func45 rfl rfl (Nat.le_of_ble_eq_true rfl) ?_
  have K0 := Kept.refl (fun _ => False) w0
  have g_f0 := Grew.refl w0 T_f0
  have g_f1 := Grew.refl w0 T_f1
  have g_f2 := Grew.refl w0 T_f2
  refine wq_seq ?_
  refine wq_region ?_
  refine wl_box_stc (vs := [.int .i64 ((f).W), .int .i64 ((f).H), f0, f1, f2]) rfl rfl rfl rfl fun p1 w2 B4 g5 k3 => ?_
  have gr6 : Grew w0 noB (onB p1) := Grew.new K0 g5
  have ap7 : Apart (onB p1) (T_f0) := Apart.new g5 (h_f0).live
  have ap8 : Apart (onB p1) (T_f1) := Apart.new g5 (h_f1).live
  have ap9 : Apart (onB p1) (T_f2) := Apart.new g5 (h_f2).live
  have B10 := h_f0.all k3 Apart.none
  have B11 := h_f1.all k3 Apart.none
  have B12 := h_f2.all k3 Apart.none
  have K13 := K0.trans k3 (fun _ _ x => x.elim)
  refine wl_v (.int .i64 (0)) rfl rfl (y_asg rfl rfl ⟨rfl, rfl⟩) ?_
  refine wl_nil fun F14 hF15 => ?_
  have s16 : F14 1 = .int .i64 (p) := (hF15 1).trans rfl
  have s17 : F14 2 = .int .i64 (x) := (hF15 2).trans rfl
  have s18 : F14 3 = .int .i64 (y) := (hF15 3).trans rfl
  have s19 : F14 39 = undef := (hF15 39).trans rfl
  have s20 : F14 4 = .pointer (some ⟨p1, 0, none⟩) := (hF15 4).trans rfl
  clear hF15
  refine then_normal ?_
  refine wq_seq ?_
  refine wq_region ?_
  refine wl_v (.agg #[.int .i64 ((f).W), .int .i64 ((f).H), f0, f1, f2]) rfl rfl (y_load_stc stcT_frame rfl s20 B4 ⟨rfl, rfl⟩) ?_
  refine wl_v (.int .i64 (p)) rfl rfl (y_mov rfl s16 ⟨rfl, rfl⟩) ?_
  refine wl_call (R := fun v_ w_ => v_ = .tuple #[.int .i64 ((sizeF (f) (p)).1), .int .i64 ((sizeF (f) (p)).2)] ∧ Kept (fun _ => False) w2 w_) rfl rfl (y_cs rfl rfl rfl (fun _ _ => by kernel_rfl) (ev_func _) (vsC rfl (vsC rfl vsN)) (fref_size (p) (f) (f0) (f1) (f2) (T_f0) (T_f1) (T_f2) _  B10 B11 B12 ) (fun e_ w_ h_ => ⟨_, h_.1, rfl, h_.2⟩)) ?_
  rintro _ w21 ⟨rfl, k22⟩
  have B23 := B10.all k22 Apart.none
  have B24 := B11.all k22 Apart.none
  have B25 := B12.all k22 Apart.none
  have B26 := B4.all k22 id
  have K27 := K13.trans k22 (fun _ _ x => x.elim)
  refine wl_v (.tuple #[.int .i64 ((sizeF (f) (p)).1), .int .i64 ((sizeF (f) (p)).2)]) rfl rfl (y_mov rfl rfl ⟨rfl, rfl⟩) ?_
  refine wl_v (.int .i64 ((sizeF (f) (p)).1)) rfl rfl (y_ext rfl rfl rfl ⟨rfl, rfl⟩) ?_
  refine wl_v (.int .i64 ((sizeF (f) (p)).2)) rfl rfl (y_ext rfl rfl rfl ⟨rfl, rfl⟩) ?_
  refine wl_v (.int .i64 ((sizeF (f) (p)).1)) rfl rfl (y_asg rfl rfl ⟨rfl, rfl⟩) ?_
  refine wl_v (.int .i64 ((sizeF (f) (p)).2)) rfl rfl (y_asg rfl rfl ⟨rfl, rfl⟩) ?_
  refine wl_nil fun F28 hF29 => ?_
  have s30 : F28 1 = .int .i64 (p) := (hF29 1).trans s16
  have s31 : F28 2 = .int .i64 (x) := (hF29 2).trans s17
  have s32 : F28 3 = .int .i64 (y) := (hF29 3).trans s18
  have s33 : F28 39 = undef := (hF29 39).trans s19
  have s34 : F28 4 = .pointer (some ⟨p1, 0, none⟩) := (hF29 4).trans s20
  have s35 : F28 9 = .int .i64 ((sizeF (f) (p)).1) := (hF29 9).trans rfl
  have s36 : F28 10 = .int .i64 ((sizeF (f) (p)).2) := (hF29 10).trans rfl
  clear hF29
  refine then_normal ?_
  refine wq_seq ?_
  refine wq_seq ?_
  refine wq_region ?_
  refine wl_v (.int .i64 ((sizeF (f) (p)).1)) rfl rfl (y_mov rfl s35 ⟨rfl, rfl⟩) ?_
  refine wl_v (.bool (decide (((sizeF (f) (p)).1) = (0)))) rfl rfl (y_eqlI rfl rfl rfl rfl ⟨rfl, rfl⟩) ?_
  refine wl_nil fun F37 hF38 => ?_
  have s39 : F37 1 = .int .i64 (p) := (hF38 1).trans s30
  have s40 : F37 2 = .int .i64 (x) := (hF38 2).trans s31
  have s41 : F37 3 = .int .i64 (y) := (hF38 3).trans s32
  have s42 : F37 39 = undef := (hF38 39).trans s33
  have s43 : F37 4 = .pointer (some ⟨p1, 0, none⟩) := (hF38 4).trans s34
  have s44 : F37 9 = .int .i64 ((sizeF (f) (p)).1) := (hF38 9).trans s35
  have s45 : F37 10 = .int .i64 ((sizeF (f) (p)).2) := (hF38 10).trans s36
  have s46 : F37 18 = .bool (decide (((sizeF (f) (p)).1) = (0))) := (hF38 18).trans rfl
  clear hF38
  refine then_normal ?_
  refine wq_cond s46 (fun c47 => ?_) (fun c47 => ?_)
  · replace c47 := of_decide_eq_true c47
    refine wq_seq ?_
    refine wq_region ?_
    refine wl_v (.int .i64 (0)) rfl rfl (y_asg rfl rfl ⟨rfl, rfl⟩) ?_
    refine wl_nil fun F48 hF49 => ?_
    have s50 : F48 39 = undef := (hF49 39).trans s42
    have s51 : F48 8 = .int .i64 (0) := (hF49 8).trans rfl
    clear hF49
    refine then_normal ?_
    refine wq_ret ?_
    refine then_ret ?_
    exact end_tmp (v := .int .i64 (0)) s50 rfl rfl s51 ⟨(by first | rw [atF_none x y (by assumption)] | rw [atF_some x y hsz]; rfl), K27⟩
  · replace c47 := of_decide_eq_false c47
    refine wq_skip ?_
    refine then_normal ?_
    refine wq_seq ?_
    rcases (show p = 0 ∨ p = 1 ∨ p = 2 from size_cases (f := f) (by assumption)) with rfl | rfl | rfl
    · skip
      have hsz : (sizeF f 0).1 ≠ 0 := by assumption
      have hb := size_bounds f 0
      have hc := cell_bounds x y hsz
      refine wq_region ?_
      refine wl_v (.int .i64 (0)) rfl rfl (y_mov rfl s39 ⟨rfl, rfl⟩) ?_
      refine wl_v (.pointer (some ⟨p1, 2, none⟩)) rfl rfl (y_fieldR (n := 3) rfl s43 Try.underlying25 rfl (by kernel_rfl) (by decide) rfl ⟨rfl, rfl⟩) ?_
      refine wl_v (.pointer (some ⟨p1, 2, none⟩)) rfl rfl (y_atR (0) (s := 1) rfl rfl rfl (by omega) Try.underlying23 (by omega) (by kernel_rfl) (by omega) ⟨rfl, rfl⟩) ?_
      refine wl_v (f0) rfl rfl (y_ld_stc rfl rfl Try.underlying22 B26 rfl rfl ⟨rfl, rfl⟩) ?_
      refine wl_v (.int .i64 (y)) rfl rfl (y_mov rfl s41 ⟨rfl, rfl⟩) ?_
      refine wl_v (.int .i64 (max (y) (0))) rfl rfl (y_maxR rfl rfl rfl rfl ⟨rfl, rfl⟩) ?_
      refine wl_v (.int .i64 ((sizeF (f) (0)).2)) rfl rfl (y_mov rfl s45 ⟨rfl, rfl⟩) ?_
      refine wl_v (.int .i64 (((sizeF (f) (0)).2) - (1))) rfl rfl (y_sub rfl rfl rfl (i64_i rfl (by omega)) ⟨rfl, rfl⟩) ?_
      refine wl_v (.int .i64 (min (max (y) (0)) (((sizeF (f) (0)).2) - (1)))) rfl rfl (y_minR rfl rfl rfl rfl ⟨rfl, rfl⟩) ?_
      refine wl_v (.int .i64 ((sizeF (f) (0)).1)) rfl rfl (y_mov rfl s44 ⟨rfl, rfl⟩) ?_
      refine wl_v (.int .i64 (min (max y 0) ((sizeF f 0).2 - 1) * (sizeF f 0).1)) rfl rfl (y_mul rfl rfl rfl (i64_i rfl (by omega)) ⟨rfl, rfl⟩) ?_
      refine wl_v (.int .i64 (x)) rfl rfl (y_mov rfl s40 ⟨rfl, rfl⟩) ?_
      refine wl_v (.int .i64 (max (x) (0))) rfl rfl (y_maxR rfl rfl rfl rfl ⟨rfl, rfl⟩) ?_
      refine wl_v (.int .i64 ((sizeF (f) (0)).1)) rfl rfl (y_mov rfl s44 ⟨rfl, rfl⟩) ?_
      refine wl_v (.int .i64 (((sizeF (f) (0)).1) - (1))) rfl rfl (y_sub rfl rfl rfl (i64_i rfl (by omega)) ⟨rfl, rfl⟩) ?_
      refine wl_v (.int .i64 (min (max (x) (0)) (((sizeF (f) (0)).1) - (1)))) rfl rfl (y_minR rfl rfl rfl rfl ⟨rfl, rfl⟩) ?_
      refine wl_v (.int .i64 ((((cellF f 0 x y).toNat : Nat) : Int))) rfl rfl (y_add rfl rfl rfl ((i64_i rfl (by show _ ≤ cellF f 0 x y ∧ cellF f 0 x y ≤ _; omega)).trans (Int.toNat_of_nonneg (by omega)).symm) ⟨rfl, rfl⟩) ?_
      refine wl_v (bytAddr (f0) ((cellF f 0 x y).toNat)) rfl rfl (y_atB ((cellF f 0 x y).toNat) rfl rfl rfl (by omega) B23 (cell_at x y hsz) ⟨rfl, rfl⟩) ?_
      have u52 := getD_lt (B23).lt256 ((cellF f 0 x y).toNat)
      refine wl_v (.int .u8 (((((f).p0).getD ((cellF f 0 x y).toNat) 0 : Nat) : Int))) rfl rfl (y_ldB rfl rfl B23 (cell_at x y hsz) ⟨rfl, rfl⟩) ?_
      refine wl_v (.int .i64 (((((f).p0).getD ((cellF f 0 x y).toNat) 0 : Nat) : Int))) rfl rfl (y_convR rfl rfl Try.underlying5 Try.underlying3 (i64_i rfl (by omega)) ⟨rfl, rfl⟩) ?_
      refine wl_v (.int .i64 (((((f).p0).getD ((cellF f 0 x y).toNat) 0 : Nat) : Int))) rfl rfl (y_asg rfl rfl ⟨rfl, rfl⟩) ?_
      refine wl_nil fun F53 hF54 => ?_
      have s55 : F53 39 = undef := (hF54 39).trans s42
      have s56 : F53 8 = .int .i64 (((((f).p0).getD ((cellF f 0 x y).toNat) 0 : Nat) : Int)) := (hF54 8).trans rfl
      clear hF54
      refine then_normal ?_
      refine wq_ret ?_
      exact end_tmp (v := .int .i64 (((((f).p0).getD ((cellF f 0 x y).toNat) 0 : Nat) : Int))) s55 rfl rfl s56 ⟨(by first | rw [atF_none x y (by assumption)] | rw [atF_some x y hsz]; rfl), K27⟩
    · skip
      have hsz : (sizeF f 1).1 ≠ 0 := by assumption
      have hb := size_bounds f 1
      have hc := cell_bounds x y hsz
      refine wq_region ?_
      refine wl_v (.int .i64 (1)) rfl rfl (y_mov rfl s39 ⟨rfl, rfl⟩) ?_
      refine wl_v (.pointer (some ⟨p1, 2, none⟩)) rfl rfl (y_fieldR (n := 3) rfl s43 Try.underlying25 rfl (by kernel_rfl) (by decide) rfl ⟨rfl, rfl⟩) ?_
      refine wl_v (.pointer (some ⟨p1, 3, none⟩)) rfl rfl (y_atR (1) (s := 1) rfl rfl rfl (by omega) Try.underlying23 (by omega) (by kernel_rfl) (by omega) ⟨rfl, rfl⟩) ?_
      refine wl_v (f1) rfl rfl (y_ld_stc rfl rfl Try.underlying22 B26 rfl rfl ⟨rfl, rfl⟩) ?_
      refine wl_v (.int .i64 (y)) rfl rfl (y_mov rfl s41 ⟨rfl, rfl⟩) ?_
      refine wl_v (.int .i64 (max (y) (0))) rfl rfl (y_maxR rfl rfl rfl rfl ⟨rfl, rfl⟩) ?_
      refine wl_v (.int .i64 ((sizeF (f) (1)).2)) rfl rfl (y_mov rfl s45 ⟨rfl, rfl⟩) ?_
      refine wl_v (.int .i64 (((sizeF (f) (1)).2) - (1))) rfl rfl (y_sub rfl rfl rfl (i64_i rfl (by omega)) ⟨rfl, rfl⟩) ?_
      refine wl_v (.int .i64 (min (max (y) (0)) (((sizeF (f) (1)).2) - (1)))) rfl rfl (y_minR rfl rfl rfl rfl ⟨rfl, rfl⟩) ?_
      refine wl_v (.int .i64 ((sizeF (f) (1)).1)) rfl rfl (y_mov rfl s44 ⟨rfl, rfl⟩) ?_
      refine wl_v (.int .i64 (min (max y 0) ((sizeF f 1).2 - 1) * (sizeF f 1).1)) rfl rfl (y_mul rfl rfl rfl (i64_i rfl (by omega)) ⟨rfl, rfl⟩) ?_
      refine wl_v (.int .i64 (x)) rfl rfl (y_mov rfl s40 ⟨rfl, rfl⟩) ?_
      refine wl_v (.int .i64 (max (x) (0))) rfl rfl (y_maxR rfl rfl rfl rfl ⟨rfl, rfl⟩) ?_
      refine wl_v (.int .i64 ((sizeF (f) (1)).1)) rfl rfl (y_mov rfl s44 ⟨rfl, rfl⟩) ?_
      refine wl_v (.int .i64 (((sizeF (f) (1)).1) - (1))) rfl rfl (y_sub rfl rfl rfl (i64_i rfl (by omega)) ⟨rfl, rfl⟩) ?_
      refine wl_v (.int .i64 (min (max (x) (0)) (((sizeF (f) (1)).1) - (1)))) rfl rfl (y_minR rfl rfl rfl rfl ⟨rfl, rfl⟩) ?_
      refine wl_v (.int .i64 ((((cellF f 1 x y).toNat : Nat) : Int))) rfl rfl (y_add rfl rfl rfl ((i64_i rfl (by show _ ≤ cellF f 1 x y ∧ cellF f 1 x y ≤ _; omega)).trans (Int.toNat_of_nonneg (by omega)).symm) ⟨rfl, rfl⟩) ?_
      refine wl_v (bytAddr (f1) ((cellF f 1 x y).toNat)) rfl rfl (y_atB ((cellF f 1 x y).toNat) rfl rfl rfl (by omega) B24 (cell_at x y hsz) ⟨rfl, rfl⟩) ?_
      have u57 := getD_lt (B24).lt256 ((cellF f 1 x y).toNat)
      refine wl_v (.int .u8 (((((f).p1).getD ((cellF f 1 x y).toNat) 0 : Nat) : Int))) rfl rfl (y_ldB rfl rfl B24 (cell_at x y hsz) ⟨rfl, rfl⟩) ?_
      refine wl_v (.int .i64 (((((f).p1).getD ((cellF f 1 x y).toNat) 0 : Nat) : Int))) rfl rfl (y_convR rfl rfl Try.underlying5 Try.underlying3 (i64_i rfl (by omega)) ⟨rfl, rfl⟩) ?_
      refine wl_v (.int .i64 (((((f).p1).getD ((cellF f 1 x y).toNat) 0 : Nat) : Int))) rfl rfl (y_asg rfl rfl ⟨rfl, rfl⟩) ?_
      refine wl_nil fun F58 hF59 => ?_
      have s60 : F58 39 = undef := (hF59 39).trans s42
      have s61 : F58 8 = .int .i64 (((((f).p1).getD ((cellF f 1 x y).toNat) 0 : Nat) : Int)) := (hF59 8).trans rfl
      clear hF59
      refine then_normal ?_
      refine wq_ret ?_
      exact end_tmp (v := .int .i64 (((((f).p1).getD ((cellF f 1 x y).toNat) 0 : Nat) : Int))) s60 rfl rfl s61 ⟨(by first | rw [atF_none x y (by assumption)] | rw [atF_some x y hsz]; rfl), K27⟩
    · skip
      have hsz : (sizeF f 2).1 ≠ 0 := by assumption
      have hb := size_bounds f 2
      have hc := cell_bounds x y hsz
      refine wq_region ?_
      refine wl_v (.int .i64 (2)) rfl rfl (y_mov rfl s39 ⟨rfl, rfl⟩) ?_
      refine wl_v (.pointer (some ⟨p1, 2, none⟩)) rfl rfl (y_fieldR (n := 3) rfl s43 Try.underlying25 rfl (by kernel_rfl) (by decide) rfl ⟨rfl, rfl⟩) ?_
      refine wl_v (.pointer (some ⟨p1, 4, none⟩)) rfl rfl (y_atR (2) (s := 1) rfl rfl rfl (by omega) Try.underlying23 (by omega) (by kernel_rfl) (by omega) ⟨rfl, rfl⟩) ?_
      refine wl_v (f2) rfl rfl (y_ld_stc rfl rfl Try.underlying22 B26 rfl rfl ⟨rfl, rfl⟩) ?_
      refine wl_v (.int .i64 (y)) rfl rfl (y_mov rfl s41 ⟨rfl, rfl⟩) ?_
      refine wl_v (.int .i64 (max (y) (0))) rfl rfl (y_maxR rfl rfl rfl rfl ⟨rfl, rfl⟩) ?_
      refine wl_v (.int .i64 ((sizeF (f) (2)).2)) rfl rfl (y_mov rfl s45 ⟨rfl, rfl⟩) ?_
      refine wl_v (.int .i64 (((sizeF (f) (2)).2) - (1))) rfl rfl (y_sub rfl rfl rfl (i64_i rfl (by omega)) ⟨rfl, rfl⟩) ?_
      refine wl_v (.int .i64 (min (max (y) (0)) (((sizeF (f) (2)).2) - (1)))) rfl rfl (y_minR rfl rfl rfl rfl ⟨rfl, rfl⟩) ?_
      refine wl_v (.int .i64 ((sizeF (f) (2)).1)) rfl rfl (y_mov rfl s44 ⟨rfl, rfl⟩) ?_
      refine wl_v (.int .i64 (min (max y 0) ((sizeF f 2).2 - 1) * (sizeF f 2).1)) rfl rfl (y_mul rfl rfl rfl (i64_i rfl (by omega)) ⟨rfl, rfl⟩) ?_
      refine wl_v (.int .i64 (x)) rfl rfl (y_mov rfl s40 ⟨rfl, rfl⟩) ?_
      refine wl_v (.int .i64 (max (x) (0))) rfl rfl (y_maxR rfl rfl rfl rfl ⟨rfl, rfl⟩) ?_
      refine wl_v (.int .i64 ((sizeF (f) (2)).1)) rfl rfl (y_mov rfl s44 ⟨rfl, rfl⟩) ?_
      refine wl_v (.int .i64 (((sizeF (f) (2)).1) - (1))) rfl rfl (y_sub rfl rfl rfl (i64_i rfl (by omega)) ⟨rfl, rfl⟩) ?_
      refine wl_v (.int .i64 (min (max (x) (0)) (((sizeF (f) (2)).1) - (1)))) rfl rfl (y_minR rfl rfl rfl rfl ⟨rfl, rfl⟩) ?_
      refine wl_v (.int .i64 ((((cellF f 2 x y).toNat : Nat) : Int))) rfl rfl (y_add rfl rfl rfl ((i64_i rfl (by show _ ≤ cellF f 2 x y ∧ cellF f 2 x y ≤ _; omega)).trans (Int.toNat_of_nonneg (by omega)).symm) ⟨rfl, rfl⟩) ?_
      refine wl_v (bytAddr (f2) ((cellF f 2 x y).toNat)) rfl rfl (y_atB ((cellF f 2 x y).toNat) rfl rfl rfl (by omega) B25 (cell_at x y hsz) ⟨rfl, rfl⟩) ?_
      have u62 := getD_lt (B25).lt256 ((cellF f 2 x y).toNat)
      refine wl_v (.int .u8 (((((f).p2).getD ((cellF f 2 x y).toNat) 0 : Nat) : Int))) rfl rfl (y_ldB rfl rfl B25 (cell_at x y hsz) ⟨rfl, rfl⟩) ?_
      refine wl_v (.int .i64 (((((f).p2).getD ((cellF f 2 x y).toNat) 0 : Nat) : Int))) rfl rfl (y_convR rfl rfl Try.underlying5 Try.underlying3 (i64_i rfl (by omega)) ⟨rfl, rfl⟩) ?_
      refine wl_v (.int .i64 (((((f).p2).getD ((cellF f 2 x y).toNat) 0 : Nat) : Int))) rfl rfl (y_asg rfl rfl ⟨rfl, rfl⟩) ?_
      refine wl_nil fun F63 hF64 => ?_
      have s65 : F63 39 = undef := (hF64 39).trans s42
      have s66 : F63 8 = .int .i64 (((((f).p2).getD ((cellF f 2 x y).toNat) 0 : Nat) : Int)) := (hF64 8).trans rfl
      clear hF64
      refine then_normal ?_
      refine wq_ret ?_
      exact end_tmp (v := .int .i64 (((((f).p2).getD ((cellF f 2 x y).toNat) 0 : Nat) : Int))) s65 rfl rfl s66 ⟨(by first | rw [atF_none x y (by assumption)] | rw [atF_some x y hsz]; rfl), K27⟩

end Go.Proofs.Ytdggilbgjijfmaa
namespace Go.Proofs.Ytdggilbgjijfmaa

def fewF (f : FD) : Bool := decide ((f.p0.length : Int) ≤ 10000) && decide ((f.p1.length : Int) ≤ 10000) && decide ((f.p2.length : Int) ≤ 10000)
theorem fewF_0 {f : FD} (h : ¬ (f.p0.length : Int) ≤ 10000) : fewF f = false := by unfold fewF; simp only [decide_eq_false h]; rfl
theorem fewF_1 {f : FD} (h : ¬ (f.p1.length : Int) ≤ 10000) : fewF f = false := by unfold fewF; simp only [decide_eq_false h, Bool.and_false, Bool.false_and]
theorem fewF_2 {f : FD} (h0 : (f.p0.length : Int) ≤ 10000) (h1 : (f.p1.length : Int) ≤ 10000) : fewF f = decide ((f.p2.length : Int) ≤ 10000) := by unfold fewF; simp only [decide_eq_true h0, decide_eq_true h1, Bool.true_and]

def alikeF (a b : FD) : Prop := okF a ∧ okF b ∧ a.W = b.W ∧ a.H = b.H
instance (a b : FD) : Decidable (alikeF a b) := by unfold alikeF; infer_instance
def within (w h u v : Int) : Prop := 0 ≤ u ∧ u < w ∧ 0 ≤ v ∧ v < h
instance (w h u v : Int) : Decidable (within w h u v) := by unfold within; infer_instance
theorem within_cell {f : FD} {p u v : Int} (h : within (sizeF f p).1 (sizeF f p).2 u v) : (sizeF f p).1 ≠ 0 ∧ 0 ≤ v * (sizeF f p).1 ∧ v * (sizeF f p).1 ≤ 4096 ∧ 0 ≤ v * (sizeF f p).1 + u ∧ v * (sizeF f p).1 + u < ((f.pl p).length : Int) := by
  obtain ⟨h1, h2, h3, h4⟩ := h
  have hne : (sizeF f p).1 ≠ 0 := by omega
  obtain ⟨_, _, hl⟩ := size_pos (size_some hne)
  have hb := size_bounds f p
  have hc := cell_in (w := (sizeF f p).1) (h := (sizeF f p).2) (x := u) (y := v) (by omega) (by omega) (by omega) (by omega) (by omega)
  have h5 : (sizeF f p).1 * (sizeF f p).2 ≤ 64 * 64 := Int.mul_le_mul hb.2.1 hb.2.2.2 hb.2.2.1 (by omega)
  rw [hl] at hc h5
  exact ⟨hne, by omega, by omega, by omega, by omega⟩

end Go.Proofs.Ytdggilbgjijfmaa
namespace Go.Proofs.Ytdggilbgjijfmaa
open Go.RowKit

set_option maxHeartbeats 4000000 in
set_option maxRecDepth 100000 in
theorem flaw_few (f : FD) (f0 f1 f2 : Value) (T_f0 : Nat → Prop) (T_f1 : Nat → Prop) (T_f2 : Nat → Prop) (w0 : World) (h_f0 : Byt w0 T_f0 f0 ((f).p0)) (h_f1 : Byt w0 T_f1 f1 ((f).p1)) (h_f2 : Byt w0 T_f2 f2 ((f).p2)) :
    Calls Try.prog 10 #[.agg #[.int .i64 ((f).W), .int .i64 ((f).H), f0, f1, f2]] w0 fun e w' => e = .returned (.bool (fewF f)) ∧ Kept (fun _ => False) w0 w' := by
  refine calls_wq (args := [.agg #[.int .i64 ((f).W), .int .i64 ((f).H), f0, f1, f2]]) 22 Try.func10 rfl rfl (Nat.le_of_ble_eq_true rfl) ?_
  have K0 := Kept.refl (fun _ => False) w0
  have g_f0 := Grew.refl w0 T_f0
  have g_f1 := Grew.refl w0 T_f1
  have g_f2 := Grew.refl w0 T_f2
  refine wq_seq ?_
  refine wq_region ?_
  refine wl_box_stc (vs := [.int .i64 ((f).W), .int .i64 ((f).H), f0, f1, f2]) rfl rfl rfl rfl fun p1 w2 B4 g5 k3 => ?_
  have gr6 : Grew w0 noB (onB p1) := Grew.new K0 g5
  have ap7 : Apart (onB p1) (T_f0) := Apart.new g5 (h_f0).live
  have ap8 : Apart (onB p1) (T_f1) := Apart.new g5 (h_f1).live
  have ap9 : Apart (onB p1) (T_f2) := Apart.new g5 (h_f2).live
  have B10 := h_f0.all k3 Apart.none
  have B11 := h_f1.all k3 Apart.none
  have B12 := h_f2.all k3 Apart.none
  have K13 := K0.trans k3 (fun _ _ x => x.elim)
  refine wl_v (.bool false) rfl rfl (y_asg rfl rfl ⟨rfl, rfl⟩) ?_
  refine wl_nil fun F14 hF15 => ?_
  have s16 : F14 22 = undef := (hF15 22).trans rfl
  have s17 : F14 1 = .pointer (some ⟨p1, 0, none⟩) := (hF15 1).trans rfl
  clear hF15
  refine then_normal ?_
  refine wq_seq ?_
  by_cases d18 : (((((f).p0).length : Nat) : Int)) ≤ (10000)
  · skip
    by_cases d19 : (((((f).p1).length : Nat) : Int)) ≤ (10000)
    · skip
      refine wq_region ?_
      refine wl_v (.pointer (some ⟨p1, 2, none⟩)) rfl rfl (y_fieldR (n := 3) rfl s17 Try.underlying25 rfl (by kernel_rfl) (by decide) rfl ⟨rfl, rfl⟩) ?_
      refine wl_v (.pointer (some ⟨p1, 2, none⟩)) rfl rfl (y_atR (0) (s := 1) rfl rfl rfl (by omega) Try.underlying23 (by omega) (by kernel_rfl) (by omega) ⟨rfl, rfl⟩) ?_
      refine wl_v (f0) rfl rfl (y_ld_stc rfl rfl Try.underlying22 B4 rfl rfl ⟨rfl, rfl⟩) ?_
      refine wl_v (.int .i64 (((((f).p0).length : Nat) : Int))) rfl rfl (y_lenV rfl rfl rfl B10 ⟨rfl, rfl⟩) ?_
      refine wl_v (.bool true) rfl rfl (y_leq rfl rfl rfl (decide_eq_true d18) ⟨rfl, rfl⟩) ?_
      refine wl_v (.bool true) rfl rfl (y_mov rfl rfl ⟨rfl, rfl⟩) ?_
      refine wl_vw (.pointer (some ⟨p1, 2, none⟩)) 5 true 8 rfl rfl rfl rfl rfl (y_fieldR (n := 3) rfl s17 Try.underlying25 rfl (by kernel_rfl) (by decide) rfl ⟨rfl, rfl⟩) ?_
      refine wl_vw (.pointer (some ⟨p1, 3, none⟩)) 5 true 8 rfl rfl rfl rfl rfl (y_atR (1) (s := 1) rfl rfl rfl (by omega) Try.underlying23 (by omega) (by kernel_rfl) (by omega) ⟨rfl, rfl⟩) ?_
      refine wl_vw (f1) 5 true 8 rfl rfl rfl rfl rfl (y_ld_stc rfl rfl Try.underlying22 B4 rfl rfl ⟨rfl, rfl⟩) ?_
      refine wl_vw (.int .i64 (((((f).p1).length : Nat) : Int))) 5 true 8 rfl rfl rfl rfl rfl (y_lenV rfl rfl rfl B11 ⟨rfl, rfl⟩) ?_
      refine wl_vw (.bool true) 5 true 8 rfl rfl rfl rfl rfl (y_leq rfl rfl rfl (decide_eq_true d19) ⟨rfl, rfl⟩) ?_
      refine wl_v (.bool true) rfl rfl (y_pickT rfl rfl rfl ⟨rfl, rfl⟩) ?_
      refine wl_v (.bool true) rfl rfl (y_mov rfl rfl ⟨rfl, rfl⟩) ?_
      refine wl_vw (.pointer (some ⟨p1, 2, none⟩)) 12 true 15 rfl rfl rfl rfl rfl (y_fieldR (n := 3) rfl s17 Try.underlying25 rfl (by kernel_rfl) (by decide) rfl ⟨rfl, rfl⟩) ?_
      refine wl_vw (.pointer (some ⟨p1, 4, none⟩)) 12 true 15 rfl rfl rfl rfl rfl (y_atR (2) (s := 1) rfl rfl rfl (by omega) Try.underlying23 (by omega) (by kernel_rfl) (by omega) ⟨rfl, rfl⟩) ?_
      refine wl_vw (f2) 12 true 15 rfl rfl rfl rfl rfl (y_ld_stc rfl rfl Try.underlying22 B4 rfl rfl ⟨rfl, rfl⟩) ?_
      refine wl_vw (.int .i64 (((((f).p2).length : Nat) : Int))) 12 true 15 rfl rfl rfl rfl rfl (y_lenV rfl rfl rfl B12 ⟨rfl, rfl⟩) ?_
      refine wl_vw (.bool (decide ((((((f).p2).length : Nat) : Int)) ≤ (10000)))) 12 true 15 rfl rfl rfl rfl rfl (y_leq rfl rfl rfl rfl ⟨rfl, rfl⟩) ?_
      refine wl_v (.bool (decide ((((((f).p2).length : Nat) : Int)) ≤ (10000)))) rfl rfl (y_pickT rfl rfl rfl ⟨rfl, rfl⟩) ?_
      refine wl_v (.bool (decide ((((((f).p2).length : Nat) : Int)) ≤ (10000)))) rfl rfl (y_asg rfl rfl ⟨rfl, rfl⟩) ?_
      refine wl_nil fun F20 hF21 => ?_
      have s22 : F20 22 = undef := (hF21 22).trans s16
      have s23 : F20 2 = .bool (decide ((((((f).p2).length : Nat) : Int)) ≤ (10000))) := (hF21 2).trans rfl
      clear hF21
      refine then_normal ?_
      refine wq_ret ?_
      exact end_tmp (v := .bool (decide ((((((f).p2).length : Nat) : Int)) ≤ (10000)))) s22 rfl rfl s23 ⟨(by first | rw [fewF_0 (by assumption)] | rw [fewF_1 (by assumption)] | rw [fewF_2 (by assumption) (by assumption)]), K13⟩
    · skip
      refine wq_region ?_
      refine wl_v (.pointer (some ⟨p1, 2, none⟩)) rfl rfl (y_fieldR (n := 3) rfl s17 Try.underlying25 rfl (by kernel_rfl) (by decide) rfl ⟨rfl, rfl⟩) ?_
      refine wl_v (.pointer (some ⟨p1, 2, none⟩)) rfl rfl (y_atR (0) (s := 1) rfl rfl rfl (by omega) Try.underlying23 (by omega) (by kernel_rfl) (by omega) ⟨rfl, rfl⟩) ?_
      refine wl_v (f0) rfl rfl (y_ld_stc rfl rfl Try.underlying22 B4 rfl rfl ⟨rfl, rfl⟩) ?_
      refine wl_v (.int .i64 (((((f).p0).length : Nat) : Int))) rfl rfl (y_lenV rfl rfl rfl B10 ⟨rfl, rfl⟩) ?_
      refine wl_v (.bool true) rfl rfl (y_leq rfl rfl rfl (decide_eq_true d18) ⟨rfl, rfl⟩) ?_
      refine wl_v (.bool true) rfl rfl (y_mov rfl rfl ⟨rfl, rfl⟩) ?_
      refine wl_vw (.pointer (some ⟨p1, 2, none⟩)) 5 true 8 rfl rfl rfl rfl rfl (y_fieldR (n := 3) rfl s17 Try.underlying25 rfl (by kernel_rfl) (by decide) rfl ⟨rfl, rfl⟩) ?_
      refine wl_vw (.pointer (some ⟨p1, 3, none⟩)) 5 true 8 rfl rfl rfl rfl rfl (y_atR (1) (s := 1) rfl rfl rfl (by omega) Try.underlying23 (by omega) (by kernel_rfl) (by omega) ⟨rfl, rfl⟩) ?_
      refine wl_vw (f1) 5 true 8 rfl rfl rfl rfl rfl (y_ld_stc rfl rfl Try.underlying22 B4 rfl rfl ⟨rfl, rfl⟩) ?_
      refine wl_vw (.int .i64 (((((f).p1).length : Nat) : Int))) 5 true 8 rfl rfl rfl rfl rfl (y_lenV rfl rfl rfl B11 ⟨rfl, rfl⟩) ?_
      refine wl_vw (.bool false) 5 true 8 rfl rfl rfl rfl rfl (y_leq rfl rfl rfl (decide_eq_false d19) ⟨rfl, rfl⟩) ?_
      refine wl_v (.bool false) rfl rfl (y_pickT rfl rfl rfl ⟨rfl, rfl⟩) ?_
      refine wl_v (.bool false) rfl rfl (y_mov rfl rfl ⟨rfl, rfl⟩) ?_
      refine wl_unless 12 true 15 rfl rfl rfl (Or.inl rfl) rfl ?_
      refine wl_unless 12 true 15 rfl rfl rfl (Or.inl rfl) rfl ?_
      refine wl_unless 12 true 15 rfl rfl rfl (Or.inl rfl) rfl ?_
      refine wl_unless 12 true 15 rfl rfl rfl (Or.inl rfl) rfl ?_
      refine wl_unless 12 true 15 rfl rfl rfl (Or.inl rfl) rfl ?_
      refine wl_v (.bool false) rfl rfl (y_pickF rfl rfl rfl ⟨rfl, rfl⟩) ?_
      refine wl_v (.bool false) rfl rfl (y_asg rfl rfl ⟨rfl, rfl⟩) ?_
      refine wl_nil fun F24 hF25 => ?_
      have s26 : F24 22 = undef := (hF25 22).trans s16
      have s27 : F24 2 = .bool false := (hF25 2).trans rfl
      clear hF25
      refine then_normal ?_
      refine wq_ret ?_
      exact end_tmp (v := .bool false) s26 rfl rfl s27 ⟨(by first | rw [fewF_0 (by assumption)] | rw [fewF_1 (by assumption)] | rw [fewF_2 (by assumption) (by assumption)]), K13⟩
  · skip
    refine wq_region ?_
    refine wl_v (.pointer (some ⟨p1, 2, none⟩)) rfl rfl (y_fieldR (n := 3) rfl s17 Try.underlying25 rfl (by kernel_rfl) (by decide) rfl ⟨rfl, rfl⟩) ?_
    refine wl_v (.pointer (some ⟨p1, 2, none⟩)) rfl rfl (y_atR (0) (s := 1) rfl rfl rfl (by omega) Try.underlying23 (by omega) (by kernel_rfl) (by omega) ⟨rfl, rfl⟩) ?_
    refine wl_v (f0) rfl rfl (y_ld_stc rfl rfl Try.underlying22 B4 rfl rfl ⟨rfl, rfl⟩) ?_
    refine wl_v (.int .i64 (((((f).p0).length : Nat) : Int))) rfl rfl (y_lenV rfl rfl rfl B10 ⟨rfl, rfl⟩) ?_
    refine wl_v (.bool false) rfl rfl (y_leq rfl rfl rfl (decide_eq_false d18) ⟨rfl, rfl⟩) ?_
    refine wl_v (.bool false) rfl rfl (y_mov rfl rfl ⟨rfl, rfl⟩) ?_
    refine wl_unless 5 true 8 rfl rfl rfl (Or.inl rfl) rfl ?_
    refine wl_unless 5 true 8 rfl rfl rfl (Or.inl rfl) rfl ?_
    refine wl_unless 5 true 8 rfl rfl rfl (Or.inl rfl) rfl ?_
    refine wl_unless 5 true 8 rfl rfl rfl (Or.inl rfl) rfl ?_
    refine wl_unless 5 true 8 rfl rfl rfl (Or.inl rfl) rfl ?_
    refine wl_v (.bool false) rfl rfl (y_pickF rfl rfl rfl ⟨rfl, rfl⟩) ?_
    refine wl_v (.bool false) rfl rfl (y_mov rfl rfl ⟨rfl, rfl⟩) ?_
    refine wl_unless 12 true 15 rfl rfl rfl (Or.inl rfl) rfl ?_
    refine wl_unless 12 true 15 rfl rfl rfl (Or.inl rfl) rfl ?_
    refine wl_unless 12 true 15 rfl rfl rfl (Or.inl rfl) rfl ?_
    refine wl_unless 12 true 15 rfl rfl rfl (Or.inl rfl) rfl ?_
    refine wl_unless 12 true 15 rfl rfl rfl (Or.inl rfl) rfl ?_
    refine wl_v (.bool false) rfl rfl (y_pickF rfl rfl rfl ⟨rfl, rfl⟩) ?_
    refine wl_v (.bool false) rfl rfl (y_asg rfl rfl ⟨rfl, rfl⟩) ?_
    refine wl_nil fun F28 hF29 => ?_
    have s30 : F28 22 = undef := (hF29 22).trans s16
    have s31 : F28 2 = .bool false := (hF29 2).trans rfl
    clear hF29
    refine then_normal ?_
    refine wq_ret ?_
    exact end_tmp (v := .bool false) s30 rfl rfl s31 ⟨(by first | rw [fewF_0 (by assumption)] | rw [fewF_1 (by assumption)] | rw [fewF_2 (by assumption) (by assumption)]), K13⟩

end Go.Proofs.Ytdggilbgjijfmaa
namespace Go.Proofs.Ytdggilbgjijfmaa
open Go.RowKit
/-- A frame that can be read. -/
def FrmV (w : World) (v : Value) (f : FD) : Prop := ∃ (a b c : Value) (Ta Tb Tc : Nat → Prop), v = .agg #[.int .i64 f.W, .int .i64 f.H, a, b, c] ∧ Owb w Ta a f.p0 ∧ Owb w Tb b f.p1 ∧ Owb w Tc c f.p2
theorem FrmV.all {w w' : World} {v : Value} {f : FD} (h : FrmV w v f) (k : Kept (fun _ => False) w w') : FrmV w' v f := by
  obtain ⟨a, b, c, Ta, Tb, Tc, e, h1, h2, h3⟩ := h
  exact ⟨a, b, c, Ta, Tb, Tc, e, h1.all k Apart.none, h2.all k Apart.none, h3.all k Apart.none⟩
theorem Stc.apart {w : World} {p : Nat} {t : TypeId} {vs : List Value} {T : Nat → Prop} {v : Value} {l : List Nat} (h : Stc w p t vs) (ho : Owb w T v l) (ht : t ≠ 5) : Apart (onB p) T := fun i hi hT => by
  cases hi
  have hv := (ho.2 _).1 hT
  rcases ho.1.1.2 with ⟨rfl, _⟩ | ⟨g, cap, cur, rfl, _, hg, _⟩
  · cases hv
  · cases hv
    have h' := h
    unfold Stc at h'
    rw [h'] at hg
    cases hg; exact ht rfl
end Go.Proofs.Ytdggilbgjijfmaa
namespace Go.Proofs.Ytdggilbgjijfmaa

theorem FD.eq {a b : FD} (h1 : a.W = b.W) (h2 : a.H = b.H) (h3 : a.p0 = b.p0) (h4 : a.p1 = b.p1) (h5 : a.p2 = b.p2) : a = b := by
  cases a; cases b; simp only at *; subst h1; subst h2; subst h3; subst h4; subst h5; rfl
theorem ok_of {f g : FD} (h : okF f) (hw : g.W = f.W) (hh : g.H = f.H) (h0 : g.p0.length = f.p0.length) (h1 : g.p1.length = f.p1.length) (h2 : g.p2.length = f.p2.length) : okF g := by
  obtain ⟨a, b, c, d, e⟩ := h
  exact ⟨by rw [hw]; exact a, by rw [hh]; exact b, by rw [hw, hh, h0]; exact c, by rw [hw, hh, h1]; exact d, by rw [hw, hh, h2]; exact e⟩
structure Inside (f : FD) (k x y : Int) : Prop where
  ok : okF f
  k0 : 0 ≤ k
  k2 : k ≤ 2
  x0 : 0 ≤ x
  x1 : x + 4 ≤ (sizeF f k).1
  y0 : 0 ≤ y
  y1 : y + 4 ≤ (sizeF f k).2
def jAt (f : FD) (k x y : Int) (i : Nat) : Nat := ((y + ((i / 4 : Nat) : Int)) * (sizeF f k).1 + (x + ((i % 4 : Nat) : Int))).toNat
theorem Inside.within {f : FD} {k x y : Int} (h : Inside f k x y) (i : Nat) (hi : i < 16) : within (sizeF f k).1 (sizeF f k).2 (x + ((i % 4 : Nat) : Int)) (y + ((i / 4 : Nat) : Int)) := by
  have h1 := h.x0; have h2 := h.x1; have h3 := h.y0; have h4 := h.y1
  exact ⟨by omega, by omega, by omega, by omega⟩
theorem Inside.lt {f : FD} {k x y : Int} (h : Inside f k x y) (i : Nat) (hi : i < 16) : jAt f k x y i < (f.pl k).length := by
  have := within_cell (h.within i hi)
  unfold jAt; omega
theorem Inside.inj {f : FD} {k x y : Int} (h : Inside f k x y) (i i' : Nat) (hi : i < 16) (hi' : i' < 16) (e : jAt f k x y i = jAt f k x y i') : i = i' := by
  have w1 := within_cell (h.within i hi)
  have w2 := within_cell (h.within i' hi')
  have hx1 := h.x1; have hx0 := h.x0
  unfold jAt at e
  have e2 : (y + ((i / 4 : Nat) : Int)) * (sizeF f k).1 + (x + ((i % 4 : Nat) : Int)) = (y + ((i' / 4 : Nat) : Int)) * (sizeF f k).1 + (x + ((i' % 4 : Nat) : Int)) := by omega
  rw [Int.add_mul, Int.add_mul] at e2
  have hw : 4 ≤ (sizeF f k).1 := by omega
  generalize (sizeF f k).1 = w at *
  have hq : i / 4 = i' / 4 := by
    by_cases hlt : i / 4 < i' / 4
    · have : ((i / 4 : Nat) : Int) * w + w ≤ ((i' / 4 : Nat) : Int) * w := by
        have h5 : (((i / 4 : Nat) : Int) + 1) * w ≤ ((i' / 4 : Nat) : Int) * w := Int.mul_le_mul_of_nonneg_right (by omega) (by omega)
        rw [Int.add_mul, Int.one_mul] at h5; exact h5
      omega
    · by_cases hgt : i' / 4 < i / 4
      · have : ((i' / 4 : Nat) : Int) * w + w ≤ ((i / 4 : Nat) : Int) * w := by
          have h5 : (((i' / 4 : Nat) : Int) + 1) * w ≤ ((i / 4 : Nat) : Int) * w := Int.mul_le_mul_of_nonneg_right (by omega) (by omega)
          rw [Int.add_mul, Int.one_mul] at h5; exact h5
        omega
      · omega
  rw [hq] at e2
  omega
end Go.Proofs.Ytdggilbgjijfmaa
namespace Go.Proofs.Ytdggilbgjijfmaa

structure Bytes3 (f : FD) : Prop where
  b0 : ∀ x ∈ f.p0, x < 256
  b1 : ∀ x ∈ f.p1, x < 256
  b2 : ∀ x ∈ f.p2, x < 256
end Go.Proofs.Ytdggilbgjijfmaa
namespace Go.Proofs.Ytdggilbgjijfmaa

def newF (w h : Int) (s : Nat) : FD := if sideB w = true ∧ sideB h = true then ⟨w, h, List.replicate (w * h).toNat s, List.replicate (w * h / 4).toNat s, List.replicate (w * h / 4).toNat s⟩ else FD.none
def newE (w h : Int) : Int := if sideB w = true ∧ sideB h = true then 0 else 70
theorem newF_yes {w h : Int} (s : Nat) (hw : sideB w = true) (hh : sideB h = true) : newF w h s = ⟨w, h, List.replicate (w * h).toNat s, List.replicate (w * h / 4).toNat s, List.replicate (w * h / 4).toNat s⟩ := if_pos ⟨hw, hh⟩
theorem newF_no {w h : Int} (s : Nat) (hn : ¬ (sideB w = true ∧ sideB h = true)) : newF w h s = FD.none := if_neg hn
theorem newE_yes {w h : Int} (hw : sideB w = true) (hh : sideB h = true) : newE w h = 0 := if_pos ⟨hw, hh⟩
theorem newE_no {w h : Int} (hn : ¬ (sideB w = true ∧ sideB h = true)) : newE w h = 70 := if_neg hn
theorem new_ok {w h : Int} (s : Nat) (hw : sideB w = true) (hh : sideB h = true) : okF (newF w h s) := by
  rw [newF_yes s hw hh]
  have ha := area_bounds hw hh
  refine ⟨hw, hh, ?_, ?_, ?_⟩
  · simp only [List.length_replicate]; omega
  · simp only [List.length_replicate]; rw [tdiv4 (by omega)]; omega
  · simp only [List.length_replicate]; rw [tdiv4 (by omega)]; omega
end Go.Proofs.Ytdggilbgjijfmaa
namespace Go.Proofs.Ytdggilbgjijfmaa
open Go.RowKit

/-- A part of a slice of bytes: from l, up to h, its room up to m. -/
def subV (v : Value) (l h m : Nat) : Value := match v with
  | .slice a _ _ => .slice (if m = l then a else a.map (·.add l)) (h - l) (m - l)
  | _ => undef
def capV : Value → Nat
  | .slice _ _ c => c
  | _ => 0
theorem Byt.cap {w : World} {T : Nat → Prop} {v : Value} {l : List Nat} (h : Byt w T v l) : l.length ≤ capV v ∧ capV v ≤ maxLen := by
  obtain ⟨⟨a, cap, rfl, h1, h2, _⟩, _⟩ := h; exact ⟨h1, h2⟩
theorem Byt.sub {w : World} {T : Nat → Prop} {v : Value} {l : List Nat} (hb : Byt w T v l) {i j m : Nat} (h1 : i ≤ j) (h2 : j ≤ m) (h3 : j ≤ l.length) (h4 : m ≤ capV v) : Byt w T (subV v i j m) ((l.drop i).take (j - i)) := by
  have hc := hb.cap
  obtain ⟨hB, hL, hT⟩ := hb
  obtain ⟨a, cap, rfl, k1, k2, k3, k4, k5⟩ := hB
  have hB : BytesArg w (.slice a l.length cap) l := ⟨a, cap, rfl, k1, k2, k3, k4, k5⟩
  have hm : m ≤ cap := h4
  refine ⟨hB.cut i j (m - i) h1 h3 (by omega) (by omega) (if m = i then a else a.map (fun z : Addr => z.add i)) (fun hp => by rw [if_neg (by omega)]) (fun h0 => ?_), hL, fun hp a' n c e => ?_⟩
  · split at h0
    · omega
    · have : a = none := by cases a <;> simp_all
      have := k3 this; omega
  · have hlen : 0 < j - i := by
      have : ((l.drop i).take (j - i)).length = j - i := by simp; omega
      omega
    simp only [subV] at e
    rw [if_neg (by omega)] at e
    cases a with
    | none => simp at e
    | some a0 =>
      simp at e
      obtain ⟨e1, _, _⟩ := e
      have hblk : a'.block = a0.block := by rw [← e1]; unfold Addr.add; split <;> rfl
      rw [hblk]
      exact hT (by omega) a0 _ _ rfl
theorem sub_addr {w : World} {T : Nat → Prop} {v : Value} {l : List Nat} (hb : Byt w T v l) {i j m : Nat} (t : Nat) (h2 : j ≤ m) (h3 : j ≤ l.length) (ht : t < j - i) : bytAddr (subV v i j m) t = bytAddr v (i + t) := by
  obtain ⟨⟨a, cap, rfl, _, _, _, _, k5⟩, _⟩ := hb
  obtain ⟨b, off, rfl, _, _⟩ := k5 (by omega)
  simp only [subV, bytAddr]
  rw [if_neg (by omega)]
  simp [Addr.add_lit, Nat.add_assoc]
section
variable {ρ : Operand → Value} {o : Oper} {w : World} {R : Value → World → Prop}
theorem y_cut3 {x lo hi mx : Operand} {T : Nat → Prop} {v : Value} {l : List Nat} {kl kh km : IntKind} (i j m : Nat) {il ih im : Int} (ho : o.op = .slice 22 x (some lo) (some hi) (some mx)) (hx : ρ x = v) (hl : ρ lo = .int kl il) (hh : ρ hi = .int kh ih) (hm : ρ mx = .int km im) (e1 : il = (i : Int)) (e2 : ih = (j : Int)) (e3 : im = (m : Int)) (hb : Byt w T v l) (h1 : i ≤ j) (h2 : j ≤ m) (h3 : m ≤ l.length) (h : R (subV v i j m) w) : Yields Try.prog ρ o w R := by
  subst e1; subst e2; subst e3
  have hc := hb.cap
  obtain ⟨⟨a, cap, rfl, k1, _⟩, _⟩ := hb
  obtain ⟨i0, hi0, hz0, hz1, hz2⟩ := info_parts Try.info_u8
  have hmc : m ≤ cap := by omega
  refine y_val (v := subV (.slice a l.length cap) i j m) (w' := w) ?_ h
  have b1 : (Instr.sliceBounds true l.length cap (some (.int kl (i : Int))) (some (.int kh (j : Int))) (some (.int km (m : Int)))).run Try.prog w = .ok (i, j, m) w := by
    simp [Instr.sliceBounds, Instr.sliceBound, asIntOf, hmc, h1, h2]
  simp [execOp, ho, hx, hl, hh, hm, Instr.sliceAt, Instr.slice, run_underlying Try.underlying22, b1, sizeOf, typeInfo, hi0, hz1, subV]
theorem y_atS {x ix : Operand} {T : Nat → Prop} {v : Value} {l : List Nat} {k : IntKind} {i j m : Nat} (t : Nat) {it : Int} (ho : o.op = .indexAddr 22 x ix) (hx : ρ x = subV v i j m) (hi : ρ ix = .int k it) (hij : it = (t : Int)) (hb : Byt w T v l) (h1 : i ≤ j) (h2 : j ≤ m) (h3 : j ≤ l.length) (h4 : m ≤ capV v) (ht : t < j - i) (h : R (bytAddr v (i + t)) w) : Yields Try.prog ρ o w R := by
  have hl : ((l.drop i).take (j - i)).length = j - i := by simp; omega
  refine y_atB t ho hx hi hij (hb.sub h1 h2 h3 h4) (by rw [hl]; exact ht) ?_
  rw [sub_addr hb t h2 h3 ht]; exact h
theorem sub_len {w : World} {T : Nat → Prop} {v : Value} {l : List Nat} (hb : Byt w T v l) (i j m : Nat) : ∃ a, subV v i j m = .slice a (j - i) (m - i) := by
  obtain ⟨⟨a, cap, rfl, _⟩, _⟩ := hb
  exact ⟨_, rfl⟩
end
end Go.Proofs.Ytdggilbgjijfmaa
namespace Go.Proofs.Ytdggilbgjijfmaa
open Go.RowKit

section
variable {ρ : Operand → Value} {o : Oper} {w : World} {R : Value → World → Prop}
theorem y_ldPl {t : TypeId} {x : Operand} {p k : Nat} {vs : List Value} {a b c : Value} (ho : o.op = .load 23 x) (hx : ρ x = .pointer (some ⟨p, k, none⟩)) (hB : Stc w p t vs) (h0 : vs[k]? = some a) (h1 : vs[k + 1]? = some b) (h2 : vs[k + 2]? = some c) (h : R (.agg #[a, b, c]) w) : Yields Try.prog ρ o w R := by
  have hr : w.rangeAt p k [a, b, c] := by
    intro j v hj
    match j, hj with
    | 0, hj => obtain rfl : a = v := by simpa using hj
               exact hB.cell h0
    | 1, hj => obtain rfl : b = v := by simpa using hj
               exact hB.cell h1
    | 2, hj => obtain rfl : c = v := by simpa using hj
               exact hB.cell h2
    | n + 3, hj => simp at hj
  refine y_val (v := .agg #[a, b, c]) (w' := w) ?_ h
  simp only [execOp, ho, hx, Sem.run_bind, run_loadAt_mid w p k 23 [a, b, c] _ hr Try.underlying23 rfl (by kernel_rfl), Result.andThen_ok, Sem.run_pure]
theorem y_ixPl {x y : Operand} {k : IntKind} {cs : Array Value} {v : Value} (j : Nat) (ho : o.op = .index 23 x y) (hx : ρ x = .agg cs) (hy : ρ y = .int k (j : Int)) (hj : j < 3) (hv : cs[j]? = some v) (h : R v w) : Yields Try.prog ρ o w R := by
  have hs : (Try.prog.info? 22).map (·.size) = some 1 := by kernel_rfl
  cases hq : Try.prog.info? 22 with
  | none => simp [hq] at hs
  | some i =>
    have hs' : i.size = 1 := by simpa [hq] using hs
    have hp : (part 22 cs j).run Try.prog w = .ok v w := by simp [part, isAgg, run_underlying Try.underlying22, hv]
    have h1 : (0 : Int) ≤ (j : Int) := by omega
    have h2 : (j : Int) < 3 := by omega
    exact y_val (v := v) (w' := w) (by simp [execOp, ho, hx, hy, Instr.index, run_underlying Try.underlying23, asIntOf, sizeOf, typeInfo, hq, hs', hj, hp]) h
theorem y_cut2L {x lo : Operand} {T : Nat → Prop} {v : Value} {l : List Nat} {kl : IntKind} {i j m : Nat} (k : Nat) {il : Int} (ho : o.op = .slice 22 x (some lo) none none) (hx : ρ x = subV v i j m) (hl : ρ lo = .int kl il) (e1 : il = (k : Int)) (hb : Byt w T v l) (h1 : k ≤ j - i) (h : R (subV (subV v i j m) k (j - i) (m - i)) w) : Yields Try.prog ρ o w R := by
  subst e1
  obtain ⟨a, e⟩ := sub_len hb i j m
  obtain ⟨i0, hi0, hz0, hz1, hz2⟩ := info_parts Try.info_u8
  refine y_val (v := subV (subV v i j m) k (j - i) (m - i)) (w' := w) ?_ h
  rw [e] at hx ⊢
  have b1 : (Instr.sliceBounds true (j - i) (m - i) (some (.int kl (k : Int))) none none).run Try.prog w = .ok (k, j - i, m - i) w := by
    simp [Instr.sliceBounds, Instr.sliceBound, asIntOf, h1]
  simp [execOp, ho, hx, hl, Instr.sliceAt, Instr.slice, run_underlying Try.underlying22, b1, sizeOf, typeInfo, hi0, hz1, subV]
theorem y_cut2H {x hi : Operand} {T : Nat → Prop} {v : Value} {l : List Nat} {kl : IntKind} {i j m : Nat} (k : Nat) {il : Int} (ho : o.op = .slice 22 x none (some hi) none) (hx : ρ x = subV v i j m) (hl : ρ hi = .int kl il) (e1 : il = (k : Int)) (hb : Byt w T v l) (h1 : k ≤ m - i) (h : R (subV (subV v i j m) 0 k (m - i)) w) : Yields Try.prog ρ o w R := by
  subst e1
  obtain ⟨a, e⟩ := sub_len hb i j m
  obtain ⟨i0, hi0, hz0, hz1, hz2⟩ := info_parts Try.info_u8
  refine y_val (v := subV (subV v i j m) 0 k (m - i)) (w' := w) ?_ h
  rw [e] at hx ⊢
  have b1 : (Instr.sliceBounds true (j - i) (m - i) none (some (.int kl (k : Int))) none).run Try.prog w = .ok (0, k, m - i) w := by
    simp [Instr.sliceBounds, Instr.sliceBound, asIntOf, h1]
  simp [execOp, ho, hx, hl, Instr.sliceAt, Instr.slice, run_underlying Try.underlying22, b1, sizeOf, typeInfo, hi0, hz1, subV]
theorem y_cut3T {x hi mx : Operand} {T : Nat → Prop} {v : Value} {l : List Nat} {kh km : IntKind} (j m : Nat) {ih im : Int} (ho : o.op = .slice 22 x none (some hi) (some mx)) (hx : ρ x = v) (hh : ρ hi = .int kh ih) (hm : ρ mx = .int km im) (e2 : ih = (j : Int)) (e3 : im = (m : Int)) (hb : Byt w T v l) (h2 : j ≤ m) (h4 : m ≤ l.length) (h : R (subV v 0 j m) w) : Yields Try.prog ρ o w R := by
  subst e2; subst e3
  obtain ⟨⟨a, cap, rfl, k1, _⟩, _⟩ := hb
  obtain ⟨i0, hi0, hz0, hz1, hz2⟩ := info_parts Try.info_u8
  have hmc : m ≤ cap := by omega
  refine y_val (v := subV (.slice a l.length cap) 0 j m) (w' := w) ?_ h
  have b1 : (Instr.sliceBounds true l.length cap none (some (.int kh (j : Int))) (some (.int km (m : Int)))).run Try.prog w = .ok (0, j, m) w := by
    simp [Instr.sliceBounds, Instr.sliceBound, asIntOf, hmc, h2]
  simp [execOp, ho, hx, hh, hm, Instr.sliceAt, Instr.slice, run_underlying Try.underlying22, b1, sizeOf, typeInfo, hi0, hz1, subV]
end

/-- A part of bytes of one's own: where it lies. -/
def PartAt (x v : Value) (off n : Nat) : Prop := ∃ d cp, x = .slice d n cp ∧ (0 < n → ∀ g nn cc, v = .slice (some ⟨g, 0, none⟩) nn cc → d = some ⟨g, off, none⟩)
theorem part_sub {w : World} {T : Nat → Prop} {v : Value} {l : List Nat} (hb : Byt w T v l) {i j m : Nat} (h2 : j ≤ m) : PartAt (subV v i j m) v i (j - i) := by
  obtain ⟨⟨a, cap, rfl, k1, k2, k3, k4, k5⟩, k6⟩ := hb
  clear k3 k4 k5 k6
  refine ⟨_, _, rfl, fun hp g nn cc e => ?_⟩
  cases e
  rw [if_neg (by omega)]
  simp [Addr.add_lit]
theorem part_sub2 {w : World} {T : Nat → Prop} {v : Value} {l : List Nat} (hb : Byt w T v l) {i j m k q r : Nat} (h2 : j ≤ m) (h3 : q ≤ j - i) (hr : r = i + k) : PartAt (subV (subV v i j m) k q (m - i)) v r (q - k) := by
  subst hr
  obtain ⟨⟨a, cap, rfl, k1, k2, k3, k4, k5⟩, k6⟩ := hb
  clear k3 k4 k5 k6
  refine ⟨_, _, rfl, fun hp g nn cc e => ?_⟩
  cases e
  rw [if_neg (by omega), if_neg (by omega)]
  simp [Addr.add_lit]
section
variable {ro : Option Nat} {N : Nat} {Q : (Exit → (Nat → Value) → World → Prop)} {F : Nat → Value} {w : World} {o : Oper}
theorem run_copyM {ρ : Operand → Value} {c : Call} {x y : Operand} {T U : Nat → Prop} {v u : Value} {l m : List Nat} {off n : Nat} (ho : o.op = .call c) (hc : c = { callee := .builtin .copy, args := #[x, y], argTypes := #[22, 22] }) (hx : PartAt (ρ x) v off n) (hy : ρ y = u) (hv : Owb w T v l) (hu : Byt w U u m) (hoff : off + n ≤ l.length) :
    ∃ w', (execOp ρ o).run Try.prog w = .ok (.value (.int .i64 ((min n m.length : Nat) : Int))) w' ∧ Owb w' T v (l.take off ++ (m.take n ++ l.drop (off + min n m.length))) ∧ Kept T w w' := by
  subst hc
  have hsz : (Try.prog.info? 5).map (·.size) = some 1 := by
    obtain ⟨i0, hi0, hz0, hz1, hz2⟩ := info_parts Try.info_u8
    rw [hi0]; simp [hz1]
  have hlen : (l.take off ++ (m.take n ++ l.drop (off + min n m.length))).length = l.length := by simp; omega
  have hml : (m.take n).length = min n m.length := by simp
  have hall : ∀ y ∈ l.take off ++ (m.take n ++ l.drop (off + min n m.length)), y < 256 := by
    intro y hy
    rcases List.mem_append.1 hy with h' | h'
    · exact hv.lt256 y (List.mem_of_mem_take h')
    · rcases List.mem_append.1 h' with h' | h'
      · exact hu.lt256 y (List.mem_of_mem_take h')
      · exact hv.lt256 y (List.mem_of_mem_drop h')
  obtain ⟨d, cp, hxx, hd⟩ := hx
  by_cases h0 : min n m.length = 0
  · have h0' : min m.length n = 0 := by omega
    obtain ⟨⟨a, cap, rfl, k1, k2, k3, h256, hcu⟩, _⟩ := hu
    clear hcu hd
    have hm : m.take n = [] := List.eq_nil_of_length_eq_zero (by omega)
    have hrun := run_copy_none (P := Try.prog) w 22 22 o.type 5 d a n cp m.length cap Try.underlying22 hsz h0'
    refine ⟨w, by rw [h0]; simp [execOp, ho, resolve, invoke, builtin, hxx, hy, hrun, Result.andThen]; rfl, ?_, Kept.refl _ _⟩
    rw [h0, hm, List.nil_append, Nat.add_zero, List.take_append_drop]; exact hv
  · have hm0 : 0 < m.length := by omega
    have hn0 : 0 < n := by omega
    obtain ⟨⟨a, cap, rfl, k1, k2, k3, h256, hcu⟩, hu2⟩ := hu
    clear k3 hu2
    obtain ⟨b, o1, rfl, hb1, hcell⟩ := hcu hm0
    clear hcu
    replace hd := hd hn0
    rcases hv.1.1.2 with ⟨rfl, hz⟩ | ⟨g, cp2, cur, rfl, hb, hgg, hnc, hcm, hcs, htake⟩
    · omega
    · obtain rfl := hd g _ _ rfl
      have hbl : (byteVals (m.take n)).length = min n m.length := by rw [byteVals_length, hml]
      have hrun := run_copy_row (P := Try.prog) w 22 22 o.type 5 g off n cp ⟨b, o1, none⟩ m.length cap cur 5 (byteVals (m.take n)) Try.underlying22 hsz hgg (by rw [hbl]; show min n m.length = min m.length n; omega) (fun t u ht => by
        have hjl : t < (m.take n).length := by
          have := (List.getElem?_eq_some_iff.1 ht).1
          rwa [byteVals_length] at this
        rw [Addr.add_lit, hcell t (by omega), ← ht, byteVals_at (m.take n) t hjl]
        rw [show (m.take n).getD t 0 = m.getD t 0 by simp [List.getD, show t < n by omega]]) (by rw [hbl]; omega) (byteVals_one _)
      refine ⟨w.setRow g (cur.toList.take off ++ byteVals (m.take n) ++ cur.toList.drop (off + (byteVals (m.take n)).length)).toArray, by simp [execOp, ho, resolve, invoke, builtin, hxx, hy, hrun, Result.andThen, hbl]; rfl, ⟨⟨⟨?_, .inr ⟨g, cp2, _, ?_, hb, setRow_heap w g cur _ _ _ hgg, ?_, hcm, ?_, ?_⟩⟩, hall⟩, hv.2⟩, (Kept.refl T w).setRow g (fun _ => (hv.2 g).2 rfl) _⟩
      · rw [byteVals_length]; omega
      · rw [hlen]
      · omega
      · simp [byteVals_length]; omega
      · have htk : cur.toList.take l.length = byteVals l := by simpa using htake
        have hcl : cur.toList = byteVals l ++ cur.toList.drop l.length := by rw [← htk, List.take_append_drop]
        rw [hcl]
        generalize cur.toList.drop l.length = rest2
        have hli : off ≤ (byteVals l).length := by rw [byteVals_length]; omega
        have hlj : off + (byteVals (m.take n)).length ≤ (byteVals l).length := by rw [hbl, byteVals_length]; omega
        rw [List.take_append_of_le_length hli, List.drop_append_of_le_length hlj, hlen, Nat.mul_one]
        have e2 : byteVals (l.take off ++ (m.take n ++ l.drop (off + min n m.length))) = (byteVals l).take off ++ (byteVals (m.take n) ++ (byteVals l).drop (off + (byteVals (m.take n)).length)) := by
          rw [hbl]
          simp [byteVals, List.map_take, List.map_drop]
        rw [e2]
        have e3 : ((byteVals l).take off ++ byteVals (m.take n) ++ ((byteVals l).drop (off + (byteVals (m.take n)).length) ++ rest2)) = ((byteVals l).take off ++ (byteVals (m.take n) ++ (byteVals l).drop (off + (byteVals (m.take n)).length))) ++ rest2 := by simp
        rw [e3, List.take_append_of_le_length (by simp [byteVals_length]; omega)]
        rw [List.take_of_length_le (by simp [byteVals_length]; omega)]
theorem wl_copyM {ops : Array Oper} {rest : List Oper} {c : Call} {x y : Operand} {T U : Nat → Prop} {v u : Value} {l m : List Nat} {off n : Nat} {X : Value} (hg : o.guard = none) (hd : fits N o.dst = true) (ho : o.op = .call c) (hc : c = { callee := .builtin .copy, args := #[x, y], argTypes := #[22, 22] }) (hxX : ev (cutF N F) x = X) (hp : PartAt X v off n) (hy : ev (cutF N F) y = u) (hv : Owb w T v l) (hu : Byt w U u m) (hoff : off + n ≤ l.length)
    (h : ∀ w', Owb w' T v (l.take off ++ (m.take n ++ l.drop (off + min n m.length))) → Kept T w w' → wl ro Try.prog N ops Q rest (putF F o.dst (.int .i64 ((min n m.length : Nat) : Int))) w') : wl ro Try.prog N ops Q (o :: rest) F w := by
  obtain ⟨w', hr, h1, h2⟩ := run_copyM ho hc (by rw [hxX]; exact hp) hy hv hu hoff
  exact wl_op hg hd (y_val hr (h w' h1 h2))
end

def arrV (p k : Nat) : Value := .slice (some (if 4 = k then ⟨p, 0, none⟩ else ⟨p, k, none⟩)) (4 - k) (4 - k)
theorem Stc.bytes {w : World} {p t : Nat} {a b c d : Nat} (h : Stc w p t [.int .u8 (a : Int), .int .u8 (b : Int), .int .u8 (c : Int), .int .u8 (d : Int)]) (ha : a < 256) (hb : b < 256) (hc : c < 256) (hd : d < 256) {k : Nat} (hk : k ≤ 4) : Byt w (onB p) (arrV p k) ([a, b, c, d].drop k) := by
  have hl : ([a, b, c, d].drop k).length = 4 - k := by simp
  refine ⟨⟨some (if 4 = k then ⟨p, 0, none⟩ else ⟨p, k, none⟩), 4 - k, by rw [hl]; rfl, by omega, Nat.le_trans (Nat.sub_le 4 k) (by decide), (fun e => by cases e), ?_, fun hp => ⟨p, k, by rw [if_neg (by omega)], h.lt, fun i hi => ?_⟩⟩, onB_live h.lt, fun _ a' n c' e => ?_⟩
  · intro x hx
    have := List.mem_of_mem_drop hx
    simp at this
    omega
  · rw [hl] at hi
    have hc := h.cell (i := k + i) (v := .int .u8 (([a, b, c, d].drop k).getD i 0 : Nat)) (by
      have : k = 0 ∨ k = 1 ∨ k = 2 ∨ k = 3 := by omega
      have hi4 : i = 0 ∨ i = 1 ∨ i = 2 ∨ i = 3 := by omega
      rcases this with rfl | rfl | rfl | rfl <;> rcases hi4 with rfl | rfl | rfl | rfl <;> first | rfl | omega)
    exact hc
  · unfold arrV at e
    simp only [Value.slice.injEq, Option.some.injEq] at e
    rw [← e.1]
    split <;> rfl

theorem digits_bytes : ∀ (n t : Nat) (acc : List Nat), (∀ x ∈ acc, x < 256) → ∃ l : List Nat, Extern.BytealgMakeNoZero.digits n t (byteVals acc).toArray = (byteVals l).toArray ∧ (∀ x ∈ l, x < 256) ∧ l.length = acc.length + n
  | 0, _, acc, h => ⟨acc, rfl, h, rfl⟩
  | n + 1, t, acc, h => by
    obtain ⟨l, h1, h2, h3⟩ := digits_bytes n (t / 256) (acc ++ [t % 256]) (by
      intro x hx
      rcases List.mem_append.1 hx with hx | hx
      · exact h x hx
      · simp at hx; omega)
    refine ⟨l, ?_, h2, by simp at h3; omega⟩
    rw [Extern.BytealgMakeNoZero.digits, ← h1]
    congr 1
    simp [byteVals]
theorem run_makeNoZero_bytes (w : World) (n : Nat) (hn : n < 1099511627776) :
    ∃ cs : Array Value, (Extern.BytealgMakeNoZero.makeNoZero #[3] #[22] #[.int .i64 n]).run Try.prog w = .ok (.slice (some ⟨w.heap.size, 0, none⟩) n cs.size) (w.drew.drew.alloc (.cells cs 5)) ∧ n ≤ cs.size ∧ cs.size ≤ maxLen ∧ ∃ l : List Nat, cs = (byteVals l).toArray ∧ (∀ x ∈ l, x < 256) ∧ l.length = cs.size := by
  obtain ⟨cs, hr, h1, h2⟩ := Lib.run_makeNoZero (P := Try.prog) w #[3] 22 5 Try.underlying22 n (by omega)
  refine ⟨cs, hr, h1, h2 (Nat.le_trans (Nat.le_of_lt hn) (by decide)), ?_⟩
  have h0 : ¬ (n : Int) < 0 := by omega
  have h3 : ¬ (281474976710656 : Int) < (n : Int) := by omega
  have hd : Extern.BytealgMakeNoZero.makeNoZero #[3] #[22] #[.int .i64 n] = underlying 22 >>= _ := rfl
  have hr2 := hr
  rw [hd] at hr2
  simp [run_underlying Try.underlying22, h0, h3, Question.forced, newRow] at hr2
  have e := congrArg (fun W : World => W.heap[w.drew.drew.heap.size]?) hr2.2
  simp only [heap_alloc_new] at e
  have e2 := (Obj.cells.inj (Option.some.inj e)).1
  rw [hr2.1] at e2
  obtain ⟨T, hT⟩ : ∃ T, Extern.BytealgMakeNoZero.digits cs.size T #[] = cs := ⟨_, e2⟩
  obtain ⟨l, k1, k2, k3⟩ := digits_bytes cs.size T [] (by simp)
  exact ⟨l, hT.symm.trans k1, k2, by simpa using k3⟩
/-- bytes that are made, whatever they are: 'n' of them, of a row of their own. -/
theorem wl_mnz {ro : Option Nat} {N : Nat} {Q : (Exit → (Nat → Value) → World → Prop)} {F : Nat → Value} {w : World} {o : Oper} {ops : Array Oper} {rest : List Oper} {c : Call} {x : Operand} {f : FuncId} {fn : Func} {n : Nat} {i : Int} (hg : o.guard = none) (hd : fits N o.dst = true) (ho : o.op = .call c) (hc : c = { callee := .value (.func f), args := #[x], argTypes := #[3] }) (hx : ev (cutF N F) x = .int .i64 i) (hi : i = (n : Int)) (hn : n < 1099511627776)
    (hf : Try.prog.funcs[f]? = some fn) (hname : (fn.name == "runtime.NumGoroutine") = false) (hb : fn.body.isNone = true) (hnx : Extern.findNext fn = none) (he : Extern.find fn = some (Extern.BytealgMakeNoZero.makeNoZero #[3] #[22]))
    (h : ∀ v w' T (l : List Nat), Owb w' T v l → l.length = n → Grew w noB T → Kept (fun _ => False) w w' → wl ro Try.prog N ops Q rest (putF F o.dst v) w') : wl ro Try.prog N ops Q (o :: rest) F w := by
  subst hc; subst hi
  obtain ⟨cs, hrun, hle, hmx, hcap⟩ := run_makeNoZero_bytes w n hn
  obtain ⟨J, hJ, hJ2, hJ3⟩ := hcap
  have hcall : (callFunc f #[.int .i64 (n : Int)]).run Try.prog w = .ok (.value (.slice (some ⟨w.heap.size, 0, none⟩) n cs.size)) (w.drew.drew.alloc (.cells cs 5)) := by
    rw [run_callFunc_extern hf hname hb hnx he, hrun]; rfl
  have hsz : cs.size = J.length := by rw [hJ]; simp [byteVals_length]
  refine wl_op hg hd (y_val (v := .slice (some ⟨w.heap.size, 0, none⟩) n cs.size) (w' := w.drew.drew.alloc (.cells cs 5)) (by simp [execOp, ho, resolve, ev_func, Deferred.ofValue, invoke, hx, hcall]) (h _ _ _ (J.take n) (Owb.of ⟨⟨by rw [byteVals_length]; omega, .inr ⟨w.heap.size, cs.size, cs, by rw [List.length_take, Nat.min_eq_left (by omega)], Nat.zero_le _, ?_, by rw [List.length_take]; omega, hmx, by omega, ?_⟩⟩, fun y hy => hJ2 y (List.mem_of_mem_take hy)⟩) (by rw [List.length_take]; omega) (fun i hi => .inr ?_) (((Kept.refl _ w).drew.drew).alloc _)))
  · exact heap_alloc_new w.drew.drew _
  · rw [hJ, List.length_take, Nat.min_eq_left (by omega), Nat.mul_one]
    simp [byteVals, List.map_take]
  · cases hi; exact Nat.le_refl _
end Go.Proofs.Ytdggilbgjijfmaa
namespace Go.Proofs.Ytdggilbgjijfmaa
open Go.RowKit

set_option maxHeartbeats 4000000 in
set_option maxRecDepth 100000 in
theorem ps_clamped (n a b : Int) (w0 : World) :
    Calls Try.prog 52 #[.int .i64 (n), .int .i64 (a), .int .i64 (b)] w0 fun e w' => e = .returned (.int .i64 (max a (min n b))) ∧ Kept (fun _ => False) w0 w' := by
  refine calls_wq (args := [.int .i64 (n), .int .i64 (a), .int .i64 (b)]) 12 Try.func52 rfl rfl (Nat.le_of_ble_eq_true rfl) ?_
  have K0 := Kept.refl (fun _ => False) w0
  refine wq_seq ?_
  refine wq_region ?_
  refine wl_v (.int .i64 (0)) rfl rfl (y_asg rfl rfl ⟨rfl, rfl⟩) ?_
  refine wl_nil fun F1 hF2 => ?_
  have s3 : F1 0 = .int .i64 (n) := (hF2 0).trans rfl
  have s4 : F1 1 = .int .i64 (a) := (hF2 1).trans rfl
  have s5 : F1 2 = .int .i64 (b) := (hF2 2).trans rfl
  have s6 : F1 12 = undef := (hF2 12).trans rfl
  clear hF2
  refine then_normal ?_
  refine wq_seq ?_
  refine wq_region ?_
  refine wl_v (.int .i64 (a)) rfl rfl (y_mov rfl s4 ⟨rfl, rfl⟩) ?_
  refine wl_v (.int .i64 (n)) rfl rfl (y_mov rfl s3 ⟨rfl, rfl⟩) ?_
  refine wl_v (.int .i64 (b)) rfl rfl (y_mov rfl s5 ⟨rfl, rfl⟩) ?_
  refine wl_v (.int .i64 (min (n) (b))) rfl rfl (y_minR rfl rfl rfl rfl ⟨rfl, rfl⟩) ?_
  refine wl_v (.int .i64 (max (a) (min (n) (b)))) rfl rfl (y_maxR rfl rfl rfl rfl ⟨rfl, rfl⟩) ?_
  refine wl_v (.int .i64 (max (a) (min (n) (b)))) rfl rfl (y_asg rfl rfl ⟨rfl, rfl⟩) ?_
  refine wl_nil fun F7 hF8 => ?_
  have s9 : F7 12 = undef := (hF8 12).trans s6
  have s10 : F7 6 = .int .i64 (max (a) (min (n) (b))) := (hF8 6).trans rfl
  clear hF8
  refine then_normal ?_
  refine wq_ret ?_
  exact end_tmp (v := .int .i64 (max (a) (min (n) (b)))) s9 rfl rfl s10 ⟨rfl, K0⟩

set_option maxHeartbeats 4000000 in
set_option maxRecDepth 100000 in
theorem ps_side (n : Int) (w0 : World) :
    Calls Try.prog 29 #[.int .i64 (n)] w0 fun e w' => e = .returned (.bool (sideB n)) ∧ Kept (fun _ => False) w0 w' := by
  refine calls_wq (args := [.int .i64 (n)]) 14 Try.func29 rfl rfl (Nat.le_of_ble_eq_true rfl) ?_
  have K0 := Kept.refl (fun _ => False) w0
  refine wq_seq ?_
  refine wq_region ?_
  refine wl_v (.bool false) rfl rfl (y_asg rfl rfl ⟨rfl, rfl⟩) ?_
  refine wl_nil fun F1 hF2 => ?_
  have s3 : F1 0 = .int .i64 (n) := (hF2 0).trans rfl
  have s4 : F1 14 = undef := (hF2 14).trans rfl
  clear hF2
  refine then_normal ?_
  refine wq_seq ?_
  by_cases d5 : (8) ≤ (n)
  · skip
    by_cases d6 : (n) ≤ (64)
    · skip
      refine wq_region ?_
      refine wl_v (.int .i64 (n)) rfl rfl (y_mov rfl s3 ⟨rfl, rfl⟩) ?_
      refine wl_v (.bool true) rfl rfl (y_geq rfl rfl rfl (decide_eq_true d5) ⟨rfl, rfl⟩) ?_
      refine wl_v (.bool true) rfl rfl (y_mov rfl rfl ⟨rfl, rfl⟩) ?_
      refine wl_vw (.int .i64 (n)) 2 true 5 rfl rfl rfl rfl rfl (y_mov rfl s3 ⟨rfl, rfl⟩) ?_
      refine wl_vw (.bool true) 2 true 5 rfl rfl rfl rfl rfl (y_leq rfl rfl rfl (decide_eq_true d6) ⟨rfl, rfl⟩) ?_
      refine wl_v (.bool true) rfl rfl (y_pickT rfl rfl rfl ⟨rfl, rfl⟩) ?_
      refine wl_v (.bool true) rfl rfl (y_mov rfl rfl ⟨rfl, rfl⟩) ?_
      refine wl_vw (.int .i64 (n)) 6 true 9 rfl rfl rfl rfl rfl (y_mov rfl s3 ⟨rfl, rfl⟩) ?_
      refine wl_vw (.int .i64 (Int.tmod (n) (8))) 6 true 9 rfl rfl rfl rfl rfl (y_rem rfl rfl rfl (by first | decide | omega) rfl ⟨rfl, rfl⟩) ?_
      refine wl_vw (.bool (decide ((Int.tmod (n) (8)) = (0)))) 6 true 9 rfl rfl rfl rfl rfl (y_eqlI rfl rfl rfl rfl ⟨rfl, rfl⟩) ?_
      refine wl_v (.bool (decide ((Int.tmod (n) (8)) = (0)))) rfl rfl (y_pickT rfl rfl rfl ⟨rfl, rfl⟩) ?_
      refine wl_v (.bool (decide ((Int.tmod (n) (8)) = (0)))) rfl rfl (y_asg rfl rfl ⟨rfl, rfl⟩) ?_
      refine wl_nil fun F7 hF8 => ?_
      have s9 : F7 14 = undef := (hF8 14).trans s4
      have s10 : F7 2 = .bool (decide ((Int.tmod (n) (8)) = (0))) := (hF8 2).trans rfl
      clear hF8
      refine then_normal ?_
      refine wq_ret ?_
      exact end_tmp (v := .bool (decide ((Int.tmod (n) (8)) = (0)))) s9 rfl rfl s10 ⟨(by first | rw [sideB_low (by omega)] | rw [sideB_high (by omega)] | rw [sideB_mid (by omega) (by omega)]), K0⟩
    · skip
      refine wq_region ?_
      refine wl_v (.int .i64 (n)) rfl rfl (y_mov rfl s3 ⟨rfl, rfl⟩) ?_
      refine wl_v (.bool true) rfl rfl (y_geq rfl rfl rfl (decide_eq_true d5) ⟨rfl, rfl⟩) ?_
      refine wl_v (.bool true) rfl rfl (y_mov rfl rfl ⟨rfl, rfl⟩) ?_
      refine wl_vw (.int .i64 (n)) 2 true 5 rfl rfl rfl rfl rfl (y_mov rfl s3 ⟨rfl, rfl⟩) ?_
      refine wl_vw (.bool false) 2 true 5 rfl rfl rfl rfl rfl (y_leq rfl rfl rfl (decide_eq_false d6) ⟨rfl, rfl⟩) ?_
      refine wl_v (.bool false) rfl rfl (y_pickT rfl rfl rfl ⟨rfl, rfl⟩) ?_
      refine wl_v (.bool false) rfl rfl (y_mov rfl rfl ⟨rfl, rfl⟩) ?_
      refine wl_unless 6 true 9 rfl rfl rfl (Or.inl rfl) rfl ?_
      refine wl_unless 6 true 9 rfl rfl rfl (Or.inl rfl) rfl ?_
      refine wl_unless 6 true 9 rfl rfl rfl (Or.inl rfl) rfl ?_
      refine wl_v (.bool false) rfl rfl (y_pickF rfl rfl rfl ⟨rfl, rfl⟩) ?_
      refine wl_v (.bool false) rfl rfl (y_asg rfl rfl ⟨rfl, rfl⟩) ?_
      refine wl_nil fun F11 hF12 => ?_
      have s13 : F11 14 = undef := (hF12 14).trans s4
      have s14 : F11 2 = .bool false := (hF12 2).trans rfl
      clear hF12
      refine then_normal ?_
      refine wq_ret ?_
      exact end_tmp (v := .bool false) s13 rfl rfl s14 ⟨(by first | rw [sideB_low (by omega)] | rw [sideB_high (by omega)] | rw [sideB_mid (by omega) (by omega)]), K0⟩
  · skip
    refine wq_region ?_
    refine wl_v (.int .i64 (n)) rfl rfl (y_mov rfl s3 ⟨rfl, rfl⟩) ?_
    refine wl_v (.bool false) rfl rfl (y_geq rfl rfl rfl (decide_eq_false d5) ⟨rfl, rfl⟩) ?_
    refine wl_v (.bool false) rfl rfl (y_mov rfl rfl ⟨rfl, rfl⟩) ?_
    refine wl_unless 2 true 5 rfl rfl rfl (Or.inl rfl) rfl ?_
    refine wl_unless 2 true 5 rfl rfl rfl (Or.inl rfl) rfl ?_
    refine wl_v (.bool false) rfl rfl (y_pickF rfl rfl rfl ⟨rfl, rfl⟩) ?_
    refine wl_v (.bool false) rfl rfl (y_mov rfl rfl ⟨rfl, rfl⟩) ?_
    refine wl_unless 6 true 9 rfl rfl rfl (Or.inl rfl) rfl ?_
    refine wl_unless 6 true 9 rfl rfl rfl (Or.inl rfl) rfl ?_
    refine wl_unless 6 true 9 rfl rfl rfl (Or.inl rfl) rfl ?_
    refine wl_v (.bool false) rfl rfl (y_pickF rfl rfl rfl ⟨rfl, rfl⟩) ?_
    refine wl_v (.bool false) rfl rfl (y_asg rfl rfl ⟨rfl, rfl⟩) ?_
    refine wl_nil fun F15 hF16 => ?_
    have s17 : F15 14 = undef := (hF16 14).trans s4
    have s18 : F15 2 = .bool false := (hF16 2).trans rfl
    clear hF16
    refine then_normal ?_
    refine wq_ret ?_
    exact end_tmp (v := .bool false) s17 rfl rfl s18 ⟨(by first | rw [sideB_low (by omega)] | rw [sideB_high (by omega)] | rw [sideB_mid (by omega) (by omega)]), K0⟩

def sidesF (f : FD) (p : Int) : Int × Int := if p = 0 then (f.W, f.H) else (Int.tdiv f.W 2, Int.tdiv f.H 2)
set_option maxHeartbeats 4000000 in
set_option maxRecDepth 100000 in
theorem ps_sides (p : Int) (f : FD) (f0 f1 f2 : Value) (T_f0 : Nat → Prop) (T_f1 : Nat → Prop) (T_f2 : Nat → Prop) (w0 : World) (hw : 0 ≤ f.W ∧ f.W ≤ 64) (hh : 0 ≤ f.H ∧ f.H ≤ 64) (h_f0 : Byt w0 T_f0 f0 ((f).p0)) (h_f1 : Byt w0 T_f1 f1 ((f).p1)) (h_f2 : Byt w0 T_f2 f2 ((f).p2)) :
    Calls Try.prog 34 #[.agg #[.int .i64 ((f).W), .int .i64 ((f).H), f0, f1, f2], .int .i64 (p)] w0 fun e w' => e = .returned (.tuple #[.int .i64 ((sidesF f p).1), .int .i64 ((sidesF f p).2)]) ∧ Kept (fun _ => False) w0 w' := by
  refine calls_wq (args := [.agg #[.int .i64 ((f).W), .int .i64 ((f).H), f0, f1, f2], .int .i64 (p)]) 18 Try.func34 rfl rfl (Nat.le_of_ble_eq_true rfl) ?_
  have K0 := Kept.refl (fun _ => False) w0
  have g_f0 := Grew.refl w0 T_f0
  have g_f1 := Grew.refl w0 T_f1
  have g_f2 := Grew.refl w0 T_f2
  refine wq_seq ?_
  refine wq_region ?_
  refine wl_box_stc (vs := [.int .i64 ((f).W), .int .i64 ((f).H), f0, f1, f2]) rfl rfl rfl rfl fun p1 w2 B4 g5 k3 => ?_
  have gr6 : Grew w0 noB (onB p1) := Grew.new K0 g5
  have ap7 : Apart (onB p1) (T_f0) := Apart.new g5 (h_f0).live
  have ap8 : Apart (onB p1) (T_f1) := Apart.new g5 (h_f1).live
  have ap9 : Apart (onB p1) (T_f2) := Apart.new g5 (h_f2).live
  have B10 := h_f0.all k3 Apart.none
  have B11 := h_f1.all k3 Apart.none
  have B12 := h_f2.all k3 Apart.none
  have K13 := K0.trans k3 (fun _ _ x => x.elim)
  refine wl_v (.int .i64 (0)) rfl rfl (y_asg rfl rfl ⟨rfl, rfl⟩) ?_
  refine wl_v (.int .i64 (0)) rfl rfl (y_asg rfl rfl ⟨rfl, rfl⟩) ?_
  refine wl_nil fun F14 hF15 => ?_
  have s16 : F14 1 = .int .i64 (p) := (hF15 1).trans rfl
  have s17 : F14 18 = undef := (hF15 18).trans rfl
  have s18 : F14 2 = .pointer (some ⟨p1, 0, none⟩) := (hF15 2).trans rfl
  clear hF15
  refine then_normal ?_
  refine wq_seq ?_
  refine wq_seq ?_
  refine wq_region ?_
  refine wl_v (.int .i64 (p)) rfl rfl (y_mov rfl s16 ⟨rfl, rfl⟩) ?_
  refine wl_v (.bool (decide ((p) = (0)))) rfl rfl (y_eqlI rfl rfl rfl rfl ⟨rfl, rfl⟩) ?_
  refine wl_nil fun F19 hF20 => ?_
  have s21 : F19 18 = undef := (hF20 18).trans s17
  have s22 : F19 2 = .pointer (some ⟨p1, 0, none⟩) := (hF20 2).trans s18
  have s23 : F19 7 = .bool (decide ((p) = (0))) := (hF20 7).trans rfl
  clear hF20
  refine then_normal ?_
  refine wq_cond s23 (fun c24 => ?_) (fun c24 => ?_)
  · replace c24 := of_decide_eq_true c24
    refine wq_seq ?_
    refine wq_said [some 8, some 9, some 10, some 11, some 4, some 5] [Pd.eq (.pointer (some ⟨p1, 0, none⟩)), Pd.eq (.int .i64 ((f).W)), Pd.eq (.pointer (some ⟨p1, 1, none⟩)), Pd.eq (.int .i64 ((f).H)), Pd.eq (.int .i64 ((f).W)), Pd.eq (.int .i64 ((f).H))] (by kernel_rfl) (by kernel_rfl) ?_ ?_
    · refine stepsF_cons ?_ ?_
      · refine StepF.one rfl fun F_ w_ hR hout hD => ?_
        exact (y_fieldR (n := 1) rfl ((hout 2 rfl (by decide)).trans s22) Try.underlying25 rfl (by kernel_rfl) (by decide) rfl ⟨rfl, Kept.refl _ _⟩)
      refine stepsF_cons ?_ ?_
      · refine StepF.one rfl fun F_ w_ hR hout hD => ?_
        have g8 : F_ 8 = .pointer (some ⟨p1, 0, none⟩) := hD.get 0 rfl rfl rfl
        exact (y_ld_stc rfl g8 Try.underlying3 (B4.all hR id) rfl rfl ⟨rfl, Kept.refl _ _⟩)
      refine stepsF_cons ?_ ?_
      · refine StepF.one rfl fun F_ w_ hR hout hD => ?_
        exact (y_fieldR (n := 1) rfl ((hout 2 rfl (by decide)).trans s22) Try.underlying25 rfl (by kernel_rfl) (by decide) rfl ⟨rfl, Kept.refl _ _⟩)
      refine stepsF_cons ?_ ?_
      · refine StepF.one rfl fun F_ w_ hR hout hD => ?_
        have g10 : F_ 10 = .pointer (some ⟨p1, 1, none⟩) := hD.get 0 rfl rfl rfl
        exact (y_ld_stc rfl g10 Try.underlying3 (B4.all hR id) rfl rfl ⟨rfl, Kept.refl _ _⟩)
      refine stepsF_cons ?_ ?_
      · refine StepF.one rfl fun F_ w_ hR hout hD => ?_
        have g9 : F_ 9 = .int .i64 ((f).W) := hD.get 0 rfl rfl rfl
        exact (y_asg rfl g9 ⟨rfl, Kept.refl _ _⟩)
      refine stepsF_cons ?_ ?_
      · refine StepF.one rfl fun F_ w_ hR hout hD => ?_
        have g11 : F_ 11 = .int .i64 ((f).H) := hD.get 0 rfl rfl rfl
        exact (y_asg rfl g11 ⟨rfl, Kept.refl _ _⟩)
      exact stepsF_nil
    intro v25 F26 w27 k28 G29 hF30
    have B32 := B10.all k28 Apart.none
    have B33 := B11.all k28 Apart.none
    have B34 := B12.all k28 Apart.none
    have B35 := B4.all k28 id
    have K36 := K13.trans k28 (fun _ _ x => x.elim)
    have s37 : F26 18 = undef := (hF30 18).trans s21
    have s38 : F26 4 = .int .i64 ((f).W) := (hF30 4).trans (G29 4 (by decide))
    have s39 : F26 5 = .int .i64 ((f).H) := (hF30 5).trans (G29 5 (by decide))
    clear G29 hF30
    refine then_normal ?_
    refine wq_ret ?_
    refine then_ret ?_
    exact end_2 s37 rfl (res_tmp (v := .int .i64 ((f).W)) rfl s38) (res_tmp (v := .int .i64 ((f).H)) rfl s39) ⟨(by unfold sidesF; first | rw [if_pos (by assumption)] | rw [if_neg (by assumption)]), K36⟩
  · replace c24 := of_decide_eq_false c24
    refine wq_skip ?_
    refine then_normal ?_
    refine wq_seq ?_
    refine wq_said [some 12, some 13, some 14, some 15, some 16, some 17, some 4, some 5] [Pd.eq (.pointer (some ⟨p1, 0, none⟩)), Pd.eq (.int .i64 ((f).W)), Pd.eq (.int .i64 (Int.tdiv (f).W 2)), Pd.eq (.pointer (some ⟨p1, 1, none⟩)), Pd.eq (.int .i64 ((f).H)), Pd.eq (.int .i64 (Int.tdiv (f).H 2)), Pd.eq (.int .i64 (Int.tdiv (f).W 2)), Pd.eq (.int .i64 (Int.tdiv (f).H 2))] (by kernel_rfl) (by kernel_rfl) ?_ ?_
    · refine stepsF_cons ?_ ?_
      · refine StepF.one rfl fun F_ w_ hR hout hD => ?_
        exact (y_fieldR (n := 1) rfl ((hout 2 rfl (by decide)).trans s22) Try.underlying25 rfl (by kernel_rfl) (by decide) rfl ⟨rfl, Kept.refl _ _⟩)
      refine stepsF_cons ?_ ?_
      · refine StepF.one rfl fun F_ w_ hR hout hD => ?_
        have g12 : F_ 12 = .pointer (some ⟨p1, 0, none⟩) := hD.get 0 rfl rfl rfl
        exact (y_ld_stc rfl g12 Try.underlying3 (B4.all hR id) rfl rfl ⟨rfl, Kept.refl _ _⟩)
      refine stepsF_cons ?_ ?_
      · refine StepF.one rfl fun F_ w_ hR hout hD => ?_
        have g13 : F_ 13 = .int .i64 ((f).W) := hD.get 0 rfl rfl rfl
        exact (y_quo rfl g13 rfl (by first | decide | omega) (i64_i rfl (by rw [tdiv2 (by omega)]; omega)) ⟨rfl, Kept.refl _ _⟩)
      refine stepsF_cons ?_ ?_
      · refine StepF.one rfl fun F_ w_ hR hout hD => ?_
        exact (y_fieldR (n := 1) rfl ((hout 2 rfl (by decide)).trans s22) Try.underlying25 rfl (by kernel_rfl) (by decide) rfl ⟨rfl, Kept.refl _ _⟩)
      refine stepsF_cons ?_ ?_
      · refine StepF.one rfl fun F_ w_ hR hout hD => ?_
        have g15 : F_ 15 = .pointer (some ⟨p1, 1, none⟩) := hD.get 0 rfl rfl rfl
        exact (y_ld_stc rfl g15 Try.underlying3 (B4.all hR id) rfl rfl ⟨rfl, Kept.refl _ _⟩)
      refine stepsF_cons ?_ ?_
      · refine StepF.one rfl fun F_ w_ hR hout hD => ?_
        have g16 : F_ 16 = .int .i64 ((f).H) := hD.get 0 rfl rfl rfl
        exact (y_quo rfl g16 rfl (by first | decide | omega) (i64_i rfl (by rw [tdiv2 (by omega)]; omega)) ⟨rfl, Kept.refl _ _⟩)
      refine stepsF_cons ?_ ?_
      · refine StepF.one rfl fun F_ w_ hR hout hD => ?_
        have g14 : F_ 14 = .int .i64 (Int.tdiv (f).W 2) := hD.get 0 rfl rfl rfl
        exact (y_asg rfl g14 ⟨rfl, Kept.refl _ _⟩)
      refine stepsF_cons ?_ ?_
      · refine StepF.one rfl fun F_ w_ hR hout hD => ?_
        have g17 : F_ 17 = .int .i64 (Int.tdiv (f).H 2) := hD.get 0 rfl rfl rfl
        exact (y_asg rfl g17 ⟨rfl, Kept.refl _ _⟩)
      exact stepsF_nil
    intro v40 F41 w42 k43 G44 hF45
    have B47 := B10.all k43 Apart.none
    have B48 := B11.all k43 Apart.none
    have B49 := B12.all k43 Apart.none
    have B50 := B4.all k43 id
    have K51 := K13.trans k43 (fun _ _ x => x.elim)
    have s52 : F41 18 = undef := (hF45 18).trans s21
    have s53 : F41 4 = .int .i64 (Int.tdiv (f).W 2) := (hF45 4).trans (G44 6 (by decide))
    have s54 : F41 5 = .int .i64 (Int.tdiv (f).H 2) := (hF45 5).trans (G44 7 (by decide))
    clear G44 hF45
    refine then_normal ?_
    refine wq_ret ?_
    exact end_2 s52 rfl (res_tmp (v := .int .i64 (Int.tdiv (f).W 2)) rfl s53) (res_tmp (v := .int .i64 (Int.tdiv (f).H 2)) rfl s54) ⟨(by unfold sidesF; first | rw [if_pos (by assumption)] | rw [if_neg (by assumption)]), K51⟩

theorem quarter {w h : Int} (h1 : w % 8 = 0) (h2 : h % 8 = 0) (hw : 0 ≤ w) (hh : 0 ≤ h) : Int.tdiv w 2 * Int.tdiv h 2 = w * h / 4 := by
  rw [tdiv2 hw, tdiv2 hh]
  obtain ⟨a, rfl⟩ : ∃ a, w = 2 * a := ⟨w / 2, by omega⟩
  obtain ⟨b, rfl⟩ : ∃ b, h = 2 * b := ⟨h / 2, by omega⟩
  rw [show 2 * a / 2 = a by omega, show 2 * b / 2 = b by omega, show 2 * a * (2 * b) = 4 * (a * b) by rw [Int.mul_assoc, Int.mul_left_comm a 2 b, ← Int.mul_assoc]; rfl]
  omega
theorem sides_area {f : FD} (hw : sideB f.W = true) (hh : sideB f.H = true) (p : Int) : 0 ≤ (sidesF f p).1 * (sidesF f p).2 ∧ (sidesF f p).1 * (sidesF f p).2 ≤ 4096 ∧ (sidesF f p).1 * (sidesF f p).2 = (if p = 0 then f.W * f.H else f.W * f.H / 4) := by
  have h := area_bounds hw hh
  have h1 := (sideB_iff _).1 hw
  have h2 := (sideB_iff _).1 hh
  unfold sidesF
  by_cases hp : p = 0
  · rw [if_pos hp, if_pos hp]; refine ⟨?_, ?_, rfl⟩ <;> (dsimp only; omega)
  · rw [if_neg hp, if_neg hp]
    have q := quarter h1.2.2 h2.2.2 (by omega) (by omega)
    dsimp only
    rw [q]; refine ⟨?_, ?_, rfl⟩ <;> omega

theorem check_parts {f : FD} (hw : sideB f.W = true) (hh : sideB f.H = true) : okF f ↔ (f.p0.length : Int) = (sidesF f ((0 : Nat) : Int)).1 * (sidesF f ((0 : Nat) : Int)).2 ∧ (f.p1.length : Int) = (sidesF f ((1 : Nat) : Int)).1 * (sidesF f ((1 : Nat) : Int)).2 ∧ (f.p2.length : Int) = (sidesF f ((2 : Nat) : Int)).1 * (sidesF f ((2 : Nat) : Int)).2 := by
  have har := area_bounds hw hh
  rw [(sides_area hw hh _).2.2, (sides_area hw hh _).2.2, (sides_area hw hh _).2.2, if_pos (show ((0 : Nat) : Int) = 0 from rfl), if_neg (by decide), if_neg (by decide)]
  unfold okF
  rw [tdiv4 (by omega)]
  exact ⟨fun h => h.2.2, fun h => ⟨hw, hh, h⟩⟩
theorem check_yes {f : FD} (hw : sideB f.W = true) (hh : sideB f.H = true) (h0 : (f.p0.length : Int) = (sidesF f ((0 : Nat) : Int)).1 * (sidesF f ((0 : Nat) : Int)).2) (h1 : (f.p1.length : Int) = (sidesF f ((1 : Nat) : Int)).1 * (sidesF f ((1 : Nat) : Int)).2) (h2 : (f.p2.length : Int) = (sidesF f ((2 : Nat) : Int)).1 * (sidesF f ((2 : Nat) : Int)).2) : checkE f = 0 := checkE_ok ((check_parts hw hh).2 ⟨h0, h1, h2⟩)
theorem check_no0 {f : FD} (hw : sideB f.W = true) (hh : sideB f.H = true) (h : (f.p0.length : Int) ≠ (sidesF f ((0 : Nat) : Int)).1 * (sidesF f ((0 : Nat) : Int)).2) : checkE f = 70 := checkE_no fun k => h ((check_parts hw hh).1 k).1
theorem check_no1 {f : FD} (hw : sideB f.W = true) (hh : sideB f.H = true) (h : (f.p1.length : Int) ≠ (sidesF f ((1 : Nat) : Int)).1 * (sidesF f ((1 : Nat) : Int)).2) : checkE f = 70 := checkE_no fun k => h ((check_parts hw hh).1 k).2.1
theorem check_no2 {f : FD} (hw : sideB f.W = true) (hh : sideB f.H = true) (h : (f.p2.length : Int) ≠ (sidesF f ((2 : Nat) : Int)).1 * (sidesF f ((2 : Nat) : Int)).2) : checkE f = 70 := checkE_no fun k => h ((check_parts hw hh).1 k).2.2

set_option maxHeartbeats 4000000 in
set_option maxRecDepth 100000 in
theorem pl_check (f : FD) (f0 f1 f2 : Value) (T_f0 : Nat → Prop) (T_f1 : Nat → Prop) (T_f2 : Nat → Prop) (w0 : World) (h_f0 : Byt w0 T_f0 f0 ((f).p0)) (h_f1 : Byt w0 T_f1 f1 ((f).p1)) (h_f2 : Byt w0 T_f2 f2 ((f).p2)) :
    Calls Try.prog 19 #[.agg #[.int .i64 ((f).W), .int .i64 ((f).H), f0, f1, f2]] w0 fun e w' => e = .returned (.int .i64 (checkE f)) ∧ Kept (fun _ => False) w0 w' := by
  refine calls_wq (args := [.agg #[.int .i64 ((f).W), .int .i64 ((f).H), f0, f1, f2]]) 36 Try.func19 rfl rfl (Nat.le_of_ble_eq_true rfl) ?_
  have K0 := Kept.refl (fun _ => False) w0
  have g_f0 := Grew.refl w0 T_f0
  have g_f1 := Grew.refl w0 T_f1
  have g_f2 := Grew.refl w0 T_f2
  refine wq_seq ?_
  refine wq_region ?_
  refine wl_box_stc (vs := [.int .i64 ((f).W), .int .i64 ((f).H), f0, f1, f2]) rfl rfl rfl rfl fun p1 w2 B4 g5 k3 => ?_
  have gr6 : Grew w0 noB (onB p1) := Grew.new K0 g5
  have ap7 : Apart (onB p1) (T_f0) := Apart.new g5 (h_f0).live
  have ap8 : Apart (onB p1) (T_f1) := Apart.new g5 (h_f1).live
  have ap9 : Apart (onB p1) (T_f2) := Apart.new g5 (h_f2).live
  have B10 := h_f0.all k3 Apart.none
  have B11 := h_f1.all k3 Apart.none
  have B12 := h_f2.all k3 Apart.none
  have K13 := K0.trans k3 (fun _ _ x => x.elim)
  refine wl_v (.int .i64 (0)) rfl rfl (y_asg rfl rfl ⟨rfl, rfl⟩) ?_
  refine wl_nil fun F14 hF15 => ?_
  have s16 : F14 36 = undef := (hF15 36).trans rfl
  have s17 : F14 1 = .pointer (some ⟨p1, 0, none⟩) := (hF15 1).trans rfl
  clear hF15
  refine then_normal ?_
  refine wq_seq ?_
  refine wq_seq ?_
  rcases Bool.eq_false_or_eq_true (sideB ((f).W)) with d18 | d18
  · skip
    rcases Bool.eq_false_or_eq_true (sideB ((f).H)) with d19 | d19
    · skip
      refine wq_region ?_
      refine wl_v (.pointer (some ⟨p1, 0, none⟩)) rfl rfl (y_fieldR (n := 1) rfl s17 Try.underlying25 rfl (by kernel_rfl) (by decide) rfl ⟨rfl, rfl⟩) ?_
      refine wl_v (.int .i64 ((f).W)) rfl rfl (y_ld_stc rfl rfl Try.underlying3 B4 rfl rfl ⟨rfl, rfl⟩) ?_
      refine wl_call (R := fun v_ w_ => v_ = .bool true ∧ Kept (fun _ => False) w2 w_) rfl rfl (y_cs rfl rfl rfl (fun _ _ => by kernel_rfl) (ev_func _) (vsC rfl vsN) (ps_side ((f).W)  _   ) (fun e_ w_ h_ => ⟨_, h_.1, (congrArg Value.bool d18), h_.2⟩)) ?_
      rintro _ w20 ⟨rfl, k21⟩
      have B22 := B10.all k21 Apart.none
      have B23 := B11.all k21 Apart.none
      have B24 := B12.all k21 Apart.none
      have B25 := B4.all k21 id
      have K26 := K13.trans k21 (fun _ _ x => x.elim)
      refine wl_v (.bool false) rfl rfl (y_not rfl rfl rfl ⟨rfl, rfl⟩) ?_
      refine wl_v (.bool false) rfl rfl (y_mov rfl rfl ⟨rfl, rfl⟩) ?_
      refine wl_vw (.pointer (some ⟨p1, 1, none⟩)) 4 false 11 rfl rfl rfl rfl rfl (y_fieldR (n := 1) rfl s17 Try.underlying25 rfl (by kernel_rfl) (by decide) rfl ⟨rfl, rfl⟩) ?_
      refine wl_vw (.int .i64 ((f).H)) 4 false 11 rfl rfl rfl rfl rfl (y_ld_stc rfl rfl Try.underlying3 B25 rfl rfl ⟨rfl, rfl⟩) ?_
      refine wl_callw (R := fun v_ w_ => v_ = .bool true ∧ Kept (fun _ => False) w20 w_) 4 false 11 rfl rfl rfl rfl rfl (y_cs rfl rfl rfl (fun _ _ => by kernel_rfl) (ev_func _) (vsC rfl vsN) (ps_side ((f).H)  _   ) (fun e_ w_ h_ => ⟨_, h_.1, (congrArg Value.bool d19), h_.2⟩)) ?_
      rintro _ w27 ⟨rfl, k28⟩
      have B29 := B22.all k28 Apart.none
      have B30 := B23.all k28 Apart.none
      have B31 := B24.all k28 Apart.none
      have B32 := B25.all k28 id
      have K33 := K26.trans k28 (fun _ _ x => x.elim)
      refine wl_vw (.bool false) 4 false 11 rfl rfl rfl rfl rfl (y_not rfl rfl rfl ⟨rfl, rfl⟩) ?_
      refine wl_v (.bool false) rfl rfl (y_pickF rfl rfl rfl ⟨rfl, rfl⟩) ?_
      refine wl_nil fun F34 hF35 => ?_
      have s36 : F34 36 = undef := (hF35 36).trans s16
      have s37 : F34 1 = .pointer (some ⟨p1, 0, none⟩) := (hF35 1).trans s17
      have s38 : F34 16 = .bool false := (hF35 16).trans rfl
      clear hF35
      refine then_normal ?_
      refine wq_cond (t := false) s38 (fun e => by cases e) (fun _ => ?_)
      refine wq_skip ?_
      refine then_normal ?_
      refine wq_seq ?_
      refine wq_seq ?_
      have hsw : sideB f.W = true := by assumption
      have hsh : sideB f.H = true := by assumption
      have hws := (sideB_iff _).1 hsw
      have hhs := (sideB_iff _).1 hsh
      have hA := sides_area hsw hsh
      have har := area_bounds hsw hsh
      refine wq_region ?_
      refine wl_v (.pointer (some ⟨p1, 2, none⟩)) rfl rfl (y_fieldR (n := 3) rfl s37 Try.underlying25 rfl (by kernel_rfl) (by decide) rfl ⟨rfl, rfl⟩) ?_
      refine wl_v (.agg #[f0, f1, f2]) rfl rfl (y_ldPl rfl rfl B32 rfl rfl rfl ⟨rfl, rfl⟩) ?_
      refine wl_v (.int .i64 (0)) rfl rfl (y_mov rfl rfl ⟨rfl, rfl⟩) ?_
      refine wl_nil fun F39 hF40 => ?_
      have s41 : F39 36 = undef := (hF40 36).trans s36
      have s42 : F39 1 = .pointer (some ⟨p1, 0, none⟩) := (hF40 1).trans s37
      have s43 : F39 18 = .agg #[f0, f1, f2] := (hF40 18).trans rfl
      have s44 : F39 19 = .int .i64 (0) := (hF40 19).trans rfl
      clear hF40
      refine then_normal ?_
      refine wq_block ?_
      refine wq_rounds 4 ?_
      refine wqr_step ?_
      refine wq_seq ?_
      refine wq_region ?_
      refine wl_v (.bool true) rfl rfl (y_lss rfl s44 rfl rfl ⟨rfl, rfl⟩) ?_
      refine wl_nil fun F45 hF46 => ?_
      have s47 : F45 36 = undef := (hF46 36).trans s41
      have s48 : F45 1 = .pointer (some ⟨p1, 0, none⟩) := (hF46 1).trans s42
      have s49 : F45 18 = .agg #[f0, f1, f2] := (hF46 18).trans s43
      have s50 : F45 19 = .int .i64 (0) := (hF46 19).trans s44
      have s51 : F45 20 = .bool true := (hF46 20).trans rfl
      clear hF46
      refine then_normal ?_
      refine wq_seq ?_
      refine wq_cond (t := true) s51 (fun _ => ?_) (fun e => by cases e)
      refine wq_skip ?_
      refine then_normal ?_
      refine wq_seq ?_
      refine wq_block ?_
      refine wq_seq ?_
      refine wq_region ?_
      refine wl_v (.int .i64 (0)) rfl rfl (y_mov rfl s50 ⟨rfl, rfl⟩) ?_
      refine wl_v (f0) rfl rfl (y_ixPl (0) rfl s49 s50 (by decide) rfl ⟨rfl, rfl⟩) ?_
      refine wl_v (.int .i64 (0)) rfl rfl (y_asg rfl rfl ⟨rfl, rfl⟩) ?_
      refine wl_v (f0) rfl rfl (y_asg rfl rfl ⟨rfl, rfl⟩) ?_
      refine wl_nil fun F52 hF53 => ?_
      have s54 : F52 36 = undef := (hF53 36).trans s47
      have s55 : F52 1 = .pointer (some ⟨p1, 0, none⟩) := (hF53 1).trans s48
      have s56 : F52 18 = .agg #[f0, f1, f2] := (hF53 18).trans s49
      have s57 : F52 19 = .int .i64 (0) := (hF53 19).trans s50
      have s58 : F52 3 = .int .i64 (0) := (hF53 3).trans rfl
      have s59 : F52 4 = f0 := (hF53 4).trans rfl
      clear hF53
      refine then_normal ?_
      refine wq_seq ?_
      refine wq_region ?_
      refine wl_v (.agg #[.int .i64 ((f).W), .int .i64 ((f).H), f0, f1, f2]) rfl rfl (y_load_stc stcT_frame rfl s55 B32 ⟨rfl, rfl⟩) ?_
      refine wl_v (.int .i64 (0)) rfl rfl (y_mov rfl s58 ⟨rfl, rfl⟩) ?_
      refine wl_call (R := fun v_ w_ => v_ = .tuple #[.int .i64 ((sidesF (f) (0)).1), .int .i64 ((sidesF (f) (0)).2)] ∧ Kept (fun _ => False) w27 w_) rfl rfl (y_cs rfl rfl rfl (fun _ _ => by kernel_rfl) (ev_func _) (vsC rfl (vsC rfl vsN)) (ps_sides (0) (f) (f0) (f1) (f2) (T_f0) (T_f1) (T_f2) _ (by omega) (by omega) B29 B30 B31 ) (fun e_ w_ h_ => ⟨_, h_.1, rfl, h_.2⟩)) ?_
      rintro _ w60 ⟨rfl, k61⟩
      have B62 := B29.all k61 Apart.none
      have B63 := B30.all k61 Apart.none
      have B64 := B31.all k61 Apart.none
      have B65 := B32.all k61 id
      have K66 := K33.trans k61 (fun _ _ x => x.elim)
      refine wl_v (.tuple #[.int .i64 ((sidesF (f) (0)).1), .int .i64 ((sidesF (f) (0)).2)]) rfl rfl (y_mov rfl rfl ⟨rfl, rfl⟩) ?_
      refine wl_v (.int .i64 ((sidesF (f) (0)).1)) rfl rfl (y_ext rfl rfl rfl ⟨rfl, rfl⟩) ?_
      refine wl_v (.int .i64 ((sidesF (f) (0)).2)) rfl rfl (y_ext rfl rfl rfl ⟨rfl, rfl⟩) ?_
      refine wl_v (.int .i64 ((sidesF (f) (0)).1)) rfl rfl (y_asg rfl rfl ⟨rfl, rfl⟩) ?_
      refine wl_v (.int .i64 ((sidesF (f) (0)).2)) rfl rfl (y_asg rfl rfl ⟨rfl, rfl⟩) ?_
      refine wl_nil fun F67 hF68 => ?_
      have s69 : F67 36 = undef := (hF68 36).trans s54
      have s70 : F67 1 = .pointer (some ⟨p1, 0, none⟩) := (hF68 1).trans s55
      have s71 : F67 18 = .agg #[f0, f1, f2] := (hF68 18).trans s56
      have s72 : F67 19 = .int .i64 (0) := (hF68 19).trans s57
      have s73 : F67 4 = f0 := (hF68 4).trans s59
      have s74 : F67 5 = .int .i64 ((sidesF (f) (0)).1) := (hF68 5).trans rfl
      have s75 : F67 6 = .int .i64 ((sidesF (f) (0)).2) := (hF68 6).trans rfl
      clear hF68
      refine then_normal ?_
      refine wq_seq ?_
      refine wq_region ?_
      refine wl_v (f0) rfl rfl (y_mov rfl s73 ⟨rfl, rfl⟩) ?_
      refine wl_v (.int .i64 (((((f).p0).length : Nat) : Int))) rfl rfl (y_lenV rfl rfl rfl B62 ⟨rfl, rfl⟩) ?_
      refine wl_v (.int .i64 ((sidesF (f) (0)).1)) rfl rfl (y_mov rfl s74 ⟨rfl, rfl⟩) ?_
      refine wl_v (.int .i64 ((sidesF (f) (0)).2)) rfl rfl (y_mov rfl s75 ⟨rfl, rfl⟩) ?_
      refine wl_v (.int .i64 ((sidesF f ((0 : Nat) : Int)).1 * (sidesF f ((0 : Nat) : Int)).2)) rfl rfl (y_mul rfl rfl rfl (i64_i rfl ⟨Int.le_trans (by decide) (hA _).1, Int.le_trans (hA _).2.1 (by decide)⟩) ⟨rfl, rfl⟩) ?_
      refine wl_v (.bool (decide ((((((f).p0).length : Nat) : Int)) ≠ ((sidesF f ((0 : Nat) : Int)).1 * (sidesF f ((0 : Nat) : Int)).2)))) rfl rfl (y_neqI rfl rfl rfl rfl ⟨rfl, rfl⟩) ?_
      refine wl_nil fun F76 hF77 => ?_
      have s78 : F76 36 = undef := (hF77 36).trans s69
      have s79 : F76 1 = .pointer (some ⟨p1, 0, none⟩) := (hF77 1).trans s70
      have s80 : F76 18 = .agg #[f0, f1, f2] := (hF77 18).trans s71
      have s81 : F76 19 = .int .i64 (0) := (hF77 19).trans s72
      have s82 : F76 34 = .bool (decide ((((((f).p0).length : Nat) : Int)) ≠ ((sidesF f ((0 : Nat) : Int)).1 * (sidesF f ((0 : Nat) : Int)).2))) := (hF77 34).trans rfl
      clear hF77
      refine then_normal ?_
      refine wq_cond s82 (fun c83 => ?_) (fun c83 => ?_)
      · replace c83 := of_decide_eq_true c83
        refine wq_seq ?_
        refine wq_region ?_
        refine wl_v (.int .i64 (70)) rfl rfl (y_asg rfl rfl ⟨rfl, rfl⟩) ?_
        refine wl_nil fun F84 hF85 => ?_
        have s86 : F84 36 = undef := (hF85 36).trans s78
        have s87 : F84 2 = .int .i64 (70) := (hF85 2).trans rfl
        clear hF85
        refine then_normal ?_
        refine wq_ret ?_
        refine in_ret ?_
        refine then_ret ?_
        refine then_ret ?_
        refine in_ret ?_
        refine then_ret ?_
        exact end_tmp (v := .int .i64 (70)) s86 rfl rfl s87 ⟨(by first | rw [check_yes hsw hsh (by first | assumption | (apply Decidable.byContradiction; assumption)) (by first | assumption | (apply Decidable.byContradiction; assumption)) (by first | assumption | (apply Decidable.byContradiction; assumption))] | rw [check_no0 hsw hsh (by assumption)] | rw [check_no1 hsw hsh (by assumption)] | rw [check_no2 hsw hsh (by assumption)] | rw [checkE_no (by rintro ⟨h1, h2, h3, h4, h5⟩; simp_all; done)]), K66⟩
      · replace c83 := of_decide_eq_false c83
        refine wq_skip ?_
        refine in_normal ?_
        refine then_normal ?_
        refine wq_region ?_
        refine wl_v (.int .i64 (((1 : Nat) : Int))) rfl rfl (y_add rfl s81 rfl (i64_n (by omega) (by omega)) ⟨rfl, rfl⟩) ?_
        refine wl_v (.int .i64 (((1 : Nat) : Int))) rfl rfl (y_mov rfl rfl ⟨rfl, rfl⟩) ?_
        refine wl_nil fun F88 hF89 => ?_
        have s90 : F88 36 = undef := (hF89 36).trans s78
        have s91 : F88 1 = .pointer (some ⟨p1, 0, none⟩) := (hF89 1).trans s79
        have s92 : F88 18 = .agg #[f0, f1, f2] := (hF89 18).trans s80
        have s93 : F88 19 = .int .i64 (((1 : Nat) : Int)) := (hF89 19).trans rfl
        clear hF89
        refine then_normal ?_
        refine wqr_step ?_
        refine wq_seq ?_
        refine wq_region ?_
        refine wl_v (.bool true) rfl rfl (y_lss rfl s93 rfl rfl ⟨rfl, rfl⟩) ?_
        refine wl_nil fun F94 hF95 => ?_
        have s96 : F94 36 = undef := (hF95 36).trans s90
        have s97 : F94 1 = .pointer (some ⟨p1, 0, none⟩) := (hF95 1).trans s91
        have s98 : F94 18 = .agg #[f0, f1, f2] := (hF95 18).trans s92
        have s99 : F94 19 = .int .i64 (((1 : Nat) : Int)) := (hF95 19).trans s93
        have s100 : F94 20 = .bool true := (hF95 20).trans rfl
        clear hF95
        refine then_normal ?_
        refine wq_seq ?_
        refine wq_cond (t := true) s100 (fun _ => ?_) (fun e => by cases e)
        refine wq_skip ?_
        refine then_normal ?_
        refine wq_seq ?_
        refine wq_block ?_
        refine wq_seq ?_
        refine wq_region ?_
        refine wl_v (.int .i64 (((1 : Nat) : Int))) rfl rfl (y_mov rfl s99 ⟨rfl, rfl⟩) ?_
        refine wl_v (f1) rfl rfl (y_ixPl (1) rfl s98 s99 (by decide) rfl ⟨rfl, rfl⟩) ?_
        refine wl_v (.int .i64 (((1 : Nat) : Int))) rfl rfl (y_asg rfl rfl ⟨rfl, rfl⟩) ?_
        refine wl_v (f1) rfl rfl (y_asg rfl rfl ⟨rfl, rfl⟩) ?_
        refine wl_nil fun F101 hF102 => ?_
        have s103 : F101 36 = undef := (hF102 36).trans s96
        have s104 : F101 1 = .pointer (some ⟨p1, 0, none⟩) := (hF102 1).trans s97
        have s105 : F101 18 = .agg #[f0, f1, f2] := (hF102 18).trans s98
        have s106 : F101 19 = .int .i64 (((1 : Nat) : Int)) := (hF102 19).trans s99
        have s107 : F101 3 = .int .i64 (((1 : Nat) : Int)) := (hF102 3).trans rfl
        have s108 : F101 4 = f1 := (hF102 4).trans rfl
        clear hF102
        refine then_normal ?_
        refine wq_seq ?_
        refine wq_region ?_
        refine wl_v (.agg #[.int .i64 ((f).W), .int .i64 ((f).H), f0, f1, f2]) rfl rfl (y_load_stc stcT_frame rfl s104 B65 ⟨rfl, rfl⟩) ?_
        refine wl_v (.int .i64 (((1 : Nat) : Int))) rfl rfl (y_mov rfl s107 ⟨rfl, rfl⟩) ?_
        refine wl_call (R := fun v_ w_ => v_ = .tuple #[.int .i64 ((sidesF (f) (((1 : Nat) : Int))).1), .int .i64 ((sidesF (f) (((1 : Nat) : Int))).2)] ∧ Kept (fun _ => False) w60 w_) rfl rfl (y_cs rfl rfl rfl (fun _ _ => by kernel_rfl) (ev_func _) (vsC rfl (vsC rfl vsN)) (ps_sides (((1 : Nat) : Int)) (f) (f0) (f1) (f2) (T_f0) (T_f1) (T_f2) _ (by omega) (by omega) B62 B63 B64 ) (fun e_ w_ h_ => ⟨_, h_.1, rfl, h_.2⟩)) ?_
        rintro _ w109 ⟨rfl, k110⟩
        have B111 := B62.all k110 Apart.none
        have B112 := B63.all k110 Apart.none
        have B113 := B64.all k110 Apart.none
        have B114 := B65.all k110 id
        have K115 := K66.trans k110 (fun _ _ x => x.elim)
        refine wl_v (.tuple #[.int .i64 ((sidesF (f) (((1 : Nat) : Int))).1), .int .i64 ((sidesF (f) (((1 : Nat) : Int))).2)]) rfl rfl (y_mov rfl rfl ⟨rfl, rfl⟩) ?_
        refine wl_v (.int .i64 ((sidesF (f) (((1 : Nat) : Int))).1)) rfl rfl (y_ext rfl rfl rfl ⟨rfl, rfl⟩) ?_
        refine wl_v (.int .i64 ((sidesF (f) (((1 : Nat) : Int))).2)) rfl rfl (y_ext rfl rfl rfl ⟨rfl, rfl⟩) ?_
        refine wl_v (.int .i64 ((sidesF (f) (((1 : Nat) : Int))).1)) rfl rfl (y_asg rfl rfl ⟨rfl, rfl⟩) ?_
        refine wl_v (.int .i64 ((sidesF (f) (((1 : Nat) : Int))).2)) rfl rfl (y_asg rfl rfl ⟨rfl, rfl⟩) ?_
        refine wl_nil fun F116 hF117 => ?_
        have s118 : F116 36 = undef := (hF117 36).trans s103
        have s119 : F116 1 = .pointer (some ⟨p1, 0, none⟩) := (hF117 1).trans s104
        have s120 : F116 18 = .agg #[f0, f1, f2] := (hF117 18).trans s105
        have s121 : F116 19 = .int .i64 (((1 : Nat) : Int)) := (hF117 19).trans s106
        have s122 : F116 4 = f1 := (hF117 4).trans s108
        have s123 : F116 5 = .int .i64 ((sidesF (f) (((1 : Nat) : Int))).1) := (hF117 5).trans rfl
        have s124 : F116 6 = .int .i64 ((sidesF (f) (((1 : Nat) : Int))).2) := (hF117 6).trans rfl
        clear hF117
        refine then_normal ?_
        refine wq_seq ?_
        refine wq_region ?_
        refine wl_v (f1) rfl rfl (y_mov rfl s122 ⟨rfl, rfl⟩) ?_
        refine wl_v (.int .i64 (((((f).p1).length : Nat) : Int))) rfl rfl (y_lenV rfl rfl rfl B112 ⟨rfl, rfl⟩) ?_
        refine wl_v (.int .i64 ((sidesF (f) (((1 : Nat) : Int))).1)) rfl rfl (y_mov rfl s123 ⟨rfl, rfl⟩) ?_
        refine wl_v (.int .i64 ((sidesF (f) (((1 : Nat) : Int))).2)) rfl rfl (y_mov rfl s124 ⟨rfl, rfl⟩) ?_
        refine wl_v (.int .i64 ((sidesF f ((1 : Nat) : Int)).1 * (sidesF f ((1 : Nat) : Int)).2)) rfl rfl (y_mul rfl rfl rfl (i64_i rfl ⟨Int.le_trans (by decide) (hA _).1, Int.le_trans (hA _).2.1 (by decide)⟩) ⟨rfl, rfl⟩) ?_
        refine wl_v (.bool (decide ((((((f).p1).length : Nat) : Int)) ≠ ((sidesF f ((1 : Nat) : Int)).1 * (sidesF f ((1 : Nat) : Int)).2)))) rfl rfl (y_neqI rfl rfl rfl rfl ⟨rfl, rfl⟩) ?_
        refine wl_nil fun F125 hF126 => ?_
        have s127 : F125 36 = undef := (hF126 36).trans s118
        have s128 : F125 1 = .pointer (some ⟨p1, 0, none⟩) := (hF126 1).trans s119
        have s129 : F125 18 = .agg #[f0, f1, f2] := (hF126 18).trans s120
        have s130 : F125 19 = .int .i64 (((1 : Nat) : Int)) := (hF126 19).trans s121
        have s131 : F125 34 = .bool (decide ((((((f).p1).length : Nat) : Int)) ≠ ((sidesF f ((1 : Nat) : Int)).1 * (sidesF f ((1 : Nat) : Int)).2))) := (hF126 34).trans rfl
        clear hF126
        refine then_normal ?_
        refine wq_cond s131 (fun c132 => ?_) (fun c132 => ?_)
        · replace c132 := of_decide_eq_true c132
          refine wq_seq ?_
          refine wq_region ?_
          refine wl_v (.int .i64 (70)) rfl rfl (y_asg rfl rfl ⟨rfl, rfl⟩) ?_
          refine wl_nil fun F133 hF134 => ?_
          have s135 : F133 36 = undef := (hF134 36).trans s127
          have s136 : F133 2 = .int .i64 (70) := (hF134 2).trans rfl
          clear hF134
          refine then_normal ?_
          refine wq_ret ?_
          refine in_ret ?_
          refine then_ret ?_
          refine then_ret ?_
          refine in_ret ?_
          refine then_ret ?_
          exact end_tmp (v := .int .i64 (70)) s135 rfl rfl s136 ⟨(by first | rw [check_yes hsw hsh (by first | assumption | (apply Decidable.byContradiction; assumption)) (by first | assumption | (apply Decidable.byContradiction; assumption)) (by first | assumption | (apply Decidable.byContradiction; assumption))] | rw [check_no0 hsw hsh (by assumption)] | rw [check_no1 hsw hsh (by assumption)] | rw [check_no2 hsw hsh (by assumption)] | rw [checkE_no (by rintro ⟨h1, h2, h3, h4, h5⟩; simp_all; done)]), K115⟩
        · replace c132 := of_decide_eq_false c132
          refine wq_skip ?_
          refine in_normal ?_
          refine then_normal ?_
          refine wq_region ?_
          refine wl_v (.int .i64 (((2 : Nat) : Int))) rfl rfl (y_add rfl s130 rfl (i64_n (by omega) (by omega)) ⟨rfl, rfl⟩) ?_
          refine wl_v (.int .i64 (((2 : Nat) : Int))) rfl rfl (y_mov rfl rfl ⟨rfl, rfl⟩) ?_
          refine wl_nil fun F137 hF138 => ?_
          have s139 : F137 36 = undef := (hF138 36).trans s127
          have s140 : F137 1 = .pointer (some ⟨p1, 0, none⟩) := (hF138 1).trans s128
          have s141 : F137 18 = .agg #[f0, f1, f2] := (hF138 18).trans s129
          have s142 : F137 19 = .int .i64 (((2 : Nat) : Int)) := (hF138 19).trans rfl
          clear hF138
          refine then_normal ?_
          refine wqr_step ?_
          refine wq_seq ?_
          refine wq_region ?_
          refine wl_v (.bool true) rfl rfl (y_lss rfl s142 rfl rfl ⟨rfl, rfl⟩) ?_
          refine wl_nil fun F143 hF144 => ?_
          have s145 : F143 36 = undef := (hF144 36).trans s139
          have s146 : F143 1 = .pointer (some ⟨p1, 0, none⟩) := (hF144 1).trans s140
          have s147 : F143 18 = .agg #[f0, f1, f2] := (hF144 18).trans s141
          have s148 : F143 19 = .int .i64 (((2 : Nat) : Int)) := (hF144 19).trans s142
          have s149 : F143 20 = .bool true := (hF144 20).trans rfl
          clear hF144
          refine then_normal ?_
          refine wq_seq ?_
          refine wq_cond (t := true) s149 (fun _ => ?_) (fun e => by cases e)
          refine wq_skip ?_
          refine then_normal ?_
          refine wq_seq ?_
          refine wq_block ?_
          refine wq_seq ?_
          refine wq_region ?_
          refine wl_v (.int .i64 (((2 : Nat) : Int))) rfl rfl (y_mov rfl s148 ⟨rfl, rfl⟩) ?_
          refine wl_v (f2) rfl rfl (y_ixPl (2) rfl s147 s148 (by decide) rfl ⟨rfl, rfl⟩) ?_
          refine wl_v (.int .i64 (((2 : Nat) : Int))) rfl rfl (y_asg rfl rfl ⟨rfl, rfl⟩) ?_
          refine wl_v (f2) rfl rfl (y_asg rfl rfl ⟨rfl, rfl⟩) ?_
          refine wl_nil fun F150 hF151 => ?_
          have s152 : F150 36 = undef := (hF151 36).trans s145
          have s153 : F150 1 = .pointer (some ⟨p1, 0, none⟩) := (hF151 1).trans s146
          have s154 : F150 18 = .agg #[f0, f1, f2] := (hF151 18).trans s147
          have s155 : F150 19 = .int .i64 (((2 : Nat) : Int)) := (hF151 19).trans s148
          have s156 : F150 3 = .int .i64 (((2 : Nat) : Int)) := (hF151 3).trans rfl
          have s157 : F150 4 = f2 := (hF151 4).trans rfl
          clear hF151
          refine then_normal ?_
          refine wq_seq ?_
          refine wq_region ?_
          refine wl_v (.agg #[.int .i64 ((f).W), .int .i64 ((f).H), f0, f1, f2]) rfl rfl (y_load_stc stcT_frame rfl s153 B114 ⟨rfl, rfl⟩) ?_
          refine wl_v (.int .i64 (((2 : Nat) : Int))) rfl rfl (y_mov rfl s156 ⟨rfl, rfl⟩) ?_
          refine wl_call (R := fun v_ w_ => v_ = .tuple #[.int .i64 ((sidesF (f) (((2 : Nat) : Int))).1), .int .i64 ((sidesF (f) (((2 : Nat) : Int))).2)] ∧ Kept (fun _ => False) w109 w_) rfl rfl (y_cs rfl rfl rfl (fun _ _ => by kernel_rfl) (ev_func _) (vsC rfl (vsC rfl vsN)) (ps_sides (((2 : Nat) : Int)) (f) (f0) (f1) (f2) (T_f0) (T_f1) (T_f2) _ (by omega) (by omega) B111 B112 B113 ) (fun e_ w_ h_ => ⟨_, h_.1, rfl, h_.2⟩)) ?_
          rintro _ w158 ⟨rfl, k159⟩
          have B160 := B111.all k159 Apart.none
          have B161 := B112.all k159 Apart.none
          have B162 := B113.all k159 Apart.none
          have B163 := B114.all k159 id
          have K164 := K115.trans k159 (fun _ _ x => x.elim)
          refine wl_v (.tuple #[.int .i64 ((sidesF (f) (((2 : Nat) : Int))).1), .int .i64 ((sidesF (f) (((2 : Nat) : Int))).2)]) rfl rfl (y_mov rfl rfl ⟨rfl, rfl⟩) ?_
          refine wl_v (.int .i64 ((sidesF (f) (((2 : Nat) : Int))).1)) rfl rfl (y_ext rfl rfl rfl ⟨rfl, rfl⟩) ?_
          refine wl_v (.int .i64 ((sidesF (f) (((2 : Nat) : Int))).2)) rfl rfl (y_ext rfl rfl rfl ⟨rfl, rfl⟩) ?_
          refine wl_v (.int .i64 ((sidesF (f) (((2 : Nat) : Int))).1)) rfl rfl (y_asg rfl rfl ⟨rfl, rfl⟩) ?_
          refine wl_v (.int .i64 ((sidesF (f) (((2 : Nat) : Int))).2)) rfl rfl (y_asg rfl rfl ⟨rfl, rfl⟩) ?_
          refine wl_nil fun F165 hF166 => ?_
          have s167 : F165 36 = undef := (hF166 36).trans s152
          have s168 : F165 1 = .pointer (some ⟨p1, 0, none⟩) := (hF166 1).trans s153
          have s169 : F165 18 = .agg #[f0, f1, f2] := (hF166 18).trans s154
          have s170 : F165 19 = .int .i64 (((2 : Nat) : Int)) := (hF166 19).trans s155
          have s171 : F165 4 = f2 := (hF166 4).trans s157
          have s172 : F165 5 = .int .i64 ((sidesF (f) (((2 : Nat) : Int))).1) := (hF166 5).trans rfl
          have s173 : F165 6 = .int .i64 ((sidesF (f) (((2 : Nat) : Int))).2) := (hF166 6).trans rfl
          clear hF166
          refine then_normal ?_
          refine wq_seq ?_
          refine wq_region ?_
          refine wl_v (f2) rfl rfl (y_mov rfl s171 ⟨rfl, rfl⟩) ?_
          refine wl_v (.int .i64 (((((f).p2).length : Nat) : Int))) rfl rfl (y_lenV rfl rfl rfl B162 ⟨rfl, rfl⟩) ?_
          refine wl_v (.int .i64 ((sidesF (f) (((2 : Nat) : Int))).1)) rfl rfl (y_mov rfl s172 ⟨rfl, rfl⟩) ?_
          refine wl_v (.int .i64 ((sidesF (f) (((2 : Nat) : Int))).2)) rfl rfl (y_mov rfl s173 ⟨rfl, rfl⟩) ?_
          refine wl_v (.int .i64 ((sidesF f ((2 : Nat) : Int)).1 * (sidesF f ((2 : Nat) : Int)).2)) rfl rfl (y_mul rfl rfl rfl (i64_i rfl ⟨Int.le_trans (by decide) (hA _).1, Int.le_trans (hA _).2.1 (by decide)⟩) ⟨rfl, rfl⟩) ?_
          refine wl_v (.bool (decide ((((((f).p2).length : Nat) : Int)) ≠ ((sidesF f ((2 : Nat) : Int)).1 * (sidesF f ((2 : Nat) : Int)).2)))) rfl rfl (y_neqI rfl rfl rfl rfl ⟨rfl, rfl⟩) ?_
          refine wl_nil fun F174 hF175 => ?_
          have s176 : F174 36 = undef := (hF175 36).trans s167
          have s177 : F174 1 = .pointer (some ⟨p1, 0, none⟩) := (hF175 1).trans s168
          have s178 : F174 18 = .agg #[f0, f1, f2] := (hF175 18).trans s169
          have s179 : F174 19 = .int .i64 (((2 : Nat) : Int)) := (hF175 19).trans s170
          have s180 : F174 34 = .bool (decide ((((((f).p2).length : Nat) : Int)) ≠ ((sidesF f ((2 : Nat) : Int)).1 * (sidesF f ((2 : Nat) : Int)).2))) := (hF175 34).trans rfl
          clear hF175
          refine then_normal ?_
          refine wq_cond s180 (fun c181 => ?_) (fun c181 => ?_)
          · replace c181 := of_decide_eq_true c181
            refine wq_seq ?_
            refine wq_region ?_
            refine wl_v (.int .i64 (70)) rfl rfl (y_asg rfl rfl ⟨rfl, rfl⟩) ?_
            refine wl_nil fun F182 hF183 => ?_
            have s184 : F182 36 = undef := (hF183 36).trans s176
            have s185 : F182 2 = .int .i64 (70) := (hF183 2).trans rfl
            clear hF183
            refine then_normal ?_
            refine wq_ret ?_
            refine in_ret ?_
            refine then_ret ?_
            refine then_ret ?_
            refine in_ret ?_
            refine then_ret ?_
            exact end_tmp (v := .int .i64 (70)) s184 rfl rfl s185 ⟨(by first | rw [check_yes hsw hsh (by first | assumption | (apply Decidable.byContradiction; assumption)) (by first | assumption | (apply Decidable.byContradiction; assumption)) (by first | assumption | (apply Decidable.byContradiction; assumption))] | rw [check_no0 hsw hsh (by assumption)] | rw [check_no1 hsw hsh (by assumption)] | rw [check_no2 hsw hsh (by assumption)] | rw [checkE_no (by rintro ⟨h1, h2, h3, h4, h5⟩; simp_all; done)]), K164⟩
          · replace c181 := of_decide_eq_false c181
            refine wq_skip ?_
            refine in_normal ?_
            refine then_normal ?_
            refine wq_region ?_
            refine wl_v (.int .i64 (((3 : Nat) : Int))) rfl rfl (y_add rfl s179 rfl (i64_n (by omega) (by omega)) ⟨rfl, rfl⟩) ?_
            refine wl_v (.int .i64 (((3 : Nat) : Int))) rfl rfl (y_mov rfl rfl ⟨rfl, rfl⟩) ?_
            refine wl_nil fun F186 hF187 => ?_
            have s188 : F186 36 = undef := (hF187 36).trans s176
            have s189 : F186 1 = .pointer (some ⟨p1, 0, none⟩) := (hF187 1).trans s177
            have s190 : F186 18 = .agg #[f0, f1, f2] := (hF187 18).trans s178
            have s191 : F186 19 = .int .i64 (((3 : Nat) : Int)) := (hF187 19).trans rfl
            clear hF187
            refine then_normal ?_
            refine wqr_step ?_
            refine wq_seq ?_
            refine wq_region ?_
            refine wl_v (.bool false) rfl rfl (y_lss rfl s191 rfl rfl ⟨rfl, rfl⟩) ?_
            refine wl_nil fun F192 hF193 => ?_
            have s194 : F192 36 = undef := (hF193 36).trans s188
            have s195 : F192 1 = .pointer (some ⟨p1, 0, none⟩) := (hF193 1).trans s189
            have s196 : F192 18 = .agg #[f0, f1, f2] := (hF193 18).trans s190
            have s197 : F192 19 = .int .i64 (((3 : Nat) : Int)) := (hF193 19).trans s191
            have s198 : F192 20 = .bool false := (hF193 20).trans rfl
            clear hF193
            refine then_normal ?_
            refine wq_seq ?_
            refine wq_cond (t := false) s198 (fun e => by cases e) (fun _ => ?_)
            refine wq_exit ?_
            refine then_exit ?_
            refine then_exit ?_
            refine in_here ?_
            refine then_normal ?_
            refine wq_seq ?_
            refine wq_region ?_
            refine wl_v (.int .i64 (0)) rfl rfl (y_asg rfl rfl ⟨rfl, rfl⟩) ?_
            refine wl_nil fun F199 hF200 => ?_
            have s201 : F199 36 = undef := (hF200 36).trans s194
            have s202 : F199 2 = .int .i64 (0) := (hF200 2).trans rfl
            clear hF200
            refine then_normal ?_
            refine wq_ret ?_
            exact end_tmp (v := .int .i64 (0)) s201 rfl rfl s202 ⟨(by first | rw [check_yes hsw hsh (by first | assumption | (apply Decidable.byContradiction; assumption)) (by first | assumption | (apply Decidable.byContradiction; assumption)) (by first | assumption | (apply Decidable.byContradiction; assumption))] | rw [check_no0 hsw hsh (by assumption)] | rw [check_no1 hsw hsh (by assumption)] | rw [check_no2 hsw hsh (by assumption)] | rw [checkE_no (by rintro ⟨h1, h2, h3, h4, h5⟩; simp_all; done)]), K164⟩
    · skip
      refine wq_region ?_
      refine wl_v (.pointer (some ⟨p1, 0, none⟩)) rfl rfl (y_fieldR (n := 1) rfl s17 Try.underlying25 rfl (by kernel_rfl) (by decide) rfl ⟨rfl, rfl⟩) ?_
      refine wl_v (.int .i64 ((f).W)) rfl rfl (y_ld_stc rfl rfl Try.underlying3 B4 rfl rfl ⟨rfl, rfl⟩) ?_
      refine wl_call (R := fun v_ w_ => v_ = .bool true ∧ Kept (fun _ => False) w2 w_) rfl rfl (y_cs rfl rfl rfl (fun _ _ => by kernel_rfl) (ev_func _) (vsC rfl vsN) (ps_side ((f).W)  _   ) (fun e_ w_ h_ => ⟨_, h_.1, (congrArg Value.bool d18), h_.2⟩)) ?_
      rintro _ w203 ⟨rfl, k204⟩
      have B205 := B10.all k204 Apart.none
      have B206 := B11.all k204 Apart.none
      have B207 := B12.all k204 Apart.none
      have B208 := B4.all k204 id
      have K209 := K13.trans k204 (fun _ _ x => x.elim)
      refine wl_v (.bool false) rfl rfl (y_not rfl rfl rfl ⟨rfl, rfl⟩) ?_
      refine wl_v (.bool false) rfl rfl (y_mov rfl rfl ⟨rfl, rfl⟩) ?_
      refine wl_vw (.pointer (some ⟨p1, 1, none⟩)) 4 false 11 rfl rfl rfl rfl rfl (y_fieldR (n := 1) rfl s17 Try.underlying25 rfl (by kernel_rfl) (by decide) rfl ⟨rfl, rfl⟩) ?_
      refine wl_vw (.int .i64 ((f).H)) 4 false 11 rfl rfl rfl rfl rfl (y_ld_stc rfl rfl Try.underlying3 B208 rfl rfl ⟨rfl, rfl⟩) ?_
      refine wl_callw (R := fun v_ w_ => v_ = .bool false ∧ Kept (fun _ => False) w203 w_) 4 false 11 rfl rfl rfl rfl rfl (y_cs rfl rfl rfl (fun _ _ => by kernel_rfl) (ev_func _) (vsC rfl vsN) (ps_side ((f).H)  _   ) (fun e_ w_ h_ => ⟨_, h_.1, (congrArg Value.bool d19), h_.2⟩)) ?_
      rintro _ w210 ⟨rfl, k211⟩
      have B212 := B205.all k211 Apart.none
      have B213 := B206.all k211 Apart.none
      have B214 := B207.all k211 Apart.none
      have B215 := B208.all k211 id
      have K216 := K209.trans k211 (fun _ _ x => x.elim)
      refine wl_vw (.bool true) 4 false 11 rfl rfl rfl rfl rfl (y_not rfl rfl rfl ⟨rfl, rfl⟩) ?_
      refine wl_v (.bool true) rfl rfl (y_pickF rfl rfl rfl ⟨rfl, rfl⟩) ?_
      refine wl_nil fun F217 hF218 => ?_
      have s219 : F217 36 = undef := (hF218 36).trans s16
      have s220 : F217 1 = .pointer (some ⟨p1, 0, none⟩) := (hF218 1).trans s17
      have s221 : F217 16 = .bool true := (hF218 16).trans rfl
      clear hF218
      refine then_normal ?_
      refine wq_cond (t := true) s221 (fun _ => ?_) (fun e => by cases e)
      refine wq_seq ?_
      refine wq_region ?_
      refine wl_v (.int .i64 (70)) rfl rfl (y_asg rfl rfl ⟨rfl, rfl⟩) ?_
      refine wl_nil fun F222 hF223 => ?_
      have s224 : F222 36 = undef := (hF223 36).trans s219
      have s225 : F222 2 = .int .i64 (70) := (hF223 2).trans rfl
      clear hF223
      refine then_normal ?_
      refine wq_ret ?_
      refine then_ret ?_
      exact end_tmp (v := .int .i64 (70)) s224 rfl rfl s225 ⟨(by first | rw [check_yes hsw hsh (by first | assumption | (apply Decidable.byContradiction; assumption)) (by first | assumption | (apply Decidable.byContradiction; assumption)) (by first | assumption | (apply Decidable.byContradiction; assumption))] | rw [check_no0 hsw hsh (by assumption)] | rw [check_no1 hsw hsh (by assumption)] | rw [check_no2 hsw hsh (by assumption)] | rw [checkE_no (by rintro ⟨h1, h2, h3, h4, h5⟩; simp_all; done)]), K216⟩
  · skip
    refine wq_region ?_
    refine wl_v (.pointer (some ⟨p1, 0, none⟩)) rfl rfl (y_fieldR (n := 1) rfl s17 Try.underlying25 rfl (by kernel_rfl) (by decide) rfl ⟨rfl, rfl⟩) ?_
    refine wl_v (.int .i64 ((f).W)) rfl rfl (y_ld_stc rfl rfl Try.underlying3 B4 rfl rfl ⟨rfl, rfl⟩) ?_
    refine wl_call (R := fun v_ w_ => v_ = .bool false ∧ Kept (fun _ => False) w2 w_) rfl rfl (y_cs rfl rfl rfl (fun _ _ => by kernel_rfl) (ev_func _) (vsC rfl vsN) (ps_side ((f).W)  _   ) (fun e_ w_ h_ => ⟨_, h_.1, (congrArg Value.bool d18), h_.2⟩)) ?_
    rintro _ w226 ⟨rfl, k227⟩
    have B228 := B10.all k227 Apart.none
    have B229 := B11.all k227 Apart.none
    have B230 := B12.all k227 Apart.none
    have B231 := B4.all k227 id
    have K232 := K13.trans k227 (fun _ _ x => x.elim)
    refine wl_v (.bool true) rfl rfl (y_not rfl rfl rfl ⟨rfl, rfl⟩) ?_
    refine wl_v (.bool true) rfl rfl (y_mov rfl rfl ⟨rfl, rfl⟩) ?_
    refine wl_unless 4 false 11 rfl rfl rfl (Or.inl rfl) rfl ?_
    refine wl_unless 4 false 11 rfl rfl rfl (Or.inl rfl) rfl ?_
    refine wl_unless 4 false 11 rfl rfl rfl (Or.inl rfl) rfl ?_
    refine wl_unless 4 false 11 rfl rfl rfl (Or.inl rfl) rfl ?_
    refine wl_v (.bool true) rfl rfl (y_pickT rfl rfl rfl ⟨rfl, rfl⟩) ?_
    refine wl_nil fun F233 hF234 => ?_
    have s235 : F233 36 = undef := (hF234 36).trans s16
    have s236 : F233 1 = .pointer (some ⟨p1, 0, none⟩) := (hF234 1).trans s17
    have s237 : F233 16 = .bool true := (hF234 16).trans rfl
    clear hF234
    refine then_normal ?_
    refine wq_cond (t := true) s237 (fun _ => ?_) (fun e => by cases e)
    refine wq_seq ?_
    refine wq_region ?_
    refine wl_v (.int .i64 (70)) rfl rfl (y_asg rfl rfl ⟨rfl, rfl⟩) ?_
    refine wl_nil fun F238 hF239 => ?_
    have s240 : F238 36 = undef := (hF239 36).trans s235
    have s241 : F238 2 = .int .i64 (70) := (hF239 2).trans rfl
    clear hF239
    refine then_normal ?_
    refine wq_ret ?_
    refine then_ret ?_
    exact end_tmp (v := .int .i64 (70)) s240 rfl rfl s241 ⟨(by first | rw [check_yes hsw hsh (by first | assumption | (apply Decidable.byContradiction; assumption)) (by first | assumption | (apply Decidable.byContradiction; assumption)) (by first | assumption | (apply Decidable.byContradiction; assumption))] | rw [check_no0 hsw hsh (by assumption)] | rw [check_no1 hsw hsh (by assumption)] | rw [check_no2 hsw hsh (by assumption)] | rw [checkE_no (by rintro ⟨h1, h2, h3, h4, h5⟩; simp_all; done)]), K232⟩

set_option maxHeartbeats 4000000 in
set_option maxRecDepth 100000 in
theorem ps_row (v : Value) (l : List Nat) (w y : Int) (T_s : Nat → Prop) (w0 : World) (hw : 0 ≤ w ∧ w ≤ 64) (hy : 0 ≤ y ∧ y ≤ 64) (hl : y * w + w ≤ (l.length : Int)) (hyw : 0 ≤ y * w ∧ y * w ≤ 4096) (h_s : Byt w0 T_s v (l)) :
    Calls Try.prog 33 #[v, .int .i64 (w), .int .i64 (y)] w0 fun e w' => e = .returned (subV (v) ((y * w).toNat) ((y * w + w).toNat) ((y * w + w).toNat)) ∧ Kept (fun _ => False) w0 w' := by
  refine calls_wq (args := [v, .int .i64 (w), .int .i64 (y)]) 20 Try.func33 rfl rfl (Nat.le_of_ble_eq_true rfl) ?_
  have K0 := Kept.refl (fun _ => False) w0
  have g_s := Grew.refl w0 T_s
  refine wq_seq ?_
  refine wq_region ?_
  refine wl_v (.slice none 0 0) rfl rfl (y_asg rfl rfl ⟨rfl, rfl⟩) ?_
  refine wl_nil fun F1 hF2 => ?_
  have s3 : F1 0 = v := (hF2 0).trans rfl
  have s4 : F1 1 = .int .i64 (w) := (hF2 1).trans rfl
  have s5 : F1 2 = .int .i64 (y) := (hF2 2).trans rfl
  have s6 : F1 20 = undef := (hF2 20).trans rfl
  clear hF2
  refine then_normal ?_
  refine wq_seq ?_
  refine wq_region ?_
  refine wl_v (v) rfl rfl (y_mov rfl s3 ⟨rfl, rfl⟩) ?_
  refine wl_v (.int .i64 (y)) rfl rfl (y_mov rfl s5 ⟨rfl, rfl⟩) ?_
  refine wl_v (.int .i64 (w)) rfl rfl (y_mov rfl s4 ⟨rfl, rfl⟩) ?_
  refine wl_v (.int .i64 (y * w)) rfl rfl (y_mul rfl rfl rfl (i64_i rfl (by omega)) ⟨rfl, rfl⟩) ?_
  refine wl_v (.int .i64 (y)) rfl rfl (y_mov rfl s5 ⟨rfl, rfl⟩) ?_
  refine wl_v (.int .i64 ((y) + (1))) rfl rfl (y_add rfl rfl rfl (i64_i rfl (by omega)) ⟨rfl, rfl⟩) ?_
  refine wl_v (.int .i64 (w)) rfl rfl (y_mov rfl s4 ⟨rfl, rfl⟩) ?_
  refine wl_v (.int .i64 (y * w + w)) rfl rfl (y_mul rfl rfl rfl (i64_i (by rw [Int.add_mul, Int.one_mul]) (by omega)) ⟨rfl, rfl⟩) ?_
  refine wl_v (.int .i64 (y)) rfl rfl (y_mov rfl s5 ⟨rfl, rfl⟩) ?_
  refine wl_v (.int .i64 ((y) + (1))) rfl rfl (y_add rfl rfl rfl (i64_i rfl (by omega)) ⟨rfl, rfl⟩) ?_
  refine wl_v (.int .i64 (w)) rfl rfl (y_mov rfl s4 ⟨rfl, rfl⟩) ?_
  refine wl_v (.int .i64 (y * w + w)) rfl rfl (y_mul rfl rfl rfl (i64_i (by rw [Int.add_mul, Int.one_mul]) (by omega)) ⟨rfl, rfl⟩) ?_
  refine wl_v (subV (v) ((y * w).toNat) ((y * w + w).toNat) ((y * w + w).toNat)) rfl rfl (y_cut3 ((y * w).toNat) ((y * w + w).toNat) ((y * w + w).toNat) rfl rfl rfl rfl rfl (by omega) (by omega) (by omega) h_s (by omega) (by omega) (by omega) ⟨rfl, rfl⟩) ?_
  refine wl_v (subV (v) ((y * w).toNat) ((y * w + w).toNat) ((y * w + w).toNat)) rfl rfl (y_asg rfl rfl ⟨rfl, rfl⟩) ?_
  refine wl_nil fun F7 hF8 => ?_
  have s9 : F7 20 = undef := (hF8 20).trans s6
  have s10 : F7 6 = subV (v) ((y * w).toNat) ((y * w + w).toNat) ((y * w + w).toNat) := (hF8 6).trans rfl
  clear hF8
  refine then_normal ?_
  refine wq_ret ?_
  exact end_tmp (v := subV (v) ((y * w).toNat) ((y * w + w).toNat) ((y * w + w).toNat)) s9 rfl rfl s10 ⟨rfl, K0⟩

def nearS (l : List Nat) (w h x y : Int) : Int := ((l.getD ((max 0 (min y (h - 1)) * w).toNat + (max 0 (min x (w - 1))).toNat) 0 : Nat) : Int)
set_option maxHeartbeats 4000000 in
set_option maxRecDepth 100000 in
theorem ps_nearest (v : Value) (l : List Nat) (w h x y : Int) (T_s : Nat → Prop) (w0 : World) (hw : 0 < w ∧ w ≤ 64) (hh : 0 < h ∧ h ≤ 64) (hl : max 0 (min y (h - 1)) * w + w ≤ (l.length : Int)) (hyw : 0 ≤ max 0 (min y (h - 1)) * w ∧ max 0 (min y (h - 1)) * w ≤ 4096) (h_s : Byt w0 T_s v (l)) :
    Calls Try.prog 48 #[v, .int .i64 (w), .int .i64 (h), .int .i64 (x), .int .i64 (y)] w0 fun e w' => e = .returned (.int .i64 (nearS l w h x y)) ∧ Kept (fun _ => False) w0 w' := by
  refine calls_wq (args := [v, .int .i64 (w), .int .i64 (h), .int .i64 (x), .int .i64 (y)]) 25 Try.func48 rfl rfl (Nat.le_of_ble_eq_true rfl) ?_
  have K0 := Kept.refl (fun _ => False) w0
  have g_s := Grew.refl w0 T_s
  refine wq_seq ?_
  refine wq_region ?_
  refine wl_v (.int .i64 (0)) rfl rfl (y_asg rfl rfl ⟨rfl, rfl⟩) ?_
  refine wl_nil fun F1 hF2 => ?_
  have s3 : F1 0 = v := (hF2 0).trans rfl
  have s4 : F1 1 = .int .i64 (w) := (hF2 1).trans rfl
  have s5 : F1 2 = .int .i64 (h) := (hF2 2).trans rfl
  have s6 : F1 3 = .int .i64 (x) := (hF2 3).trans rfl
  have s7 : F1 4 = .int .i64 (y) := (hF2 4).trans rfl
  have s8 : F1 25 = undef := (hF2 25).trans rfl
  clear hF2
  refine then_normal ?_
  refine wq_seq ?_
  refine wq_region ?_
  refine wl_v (v) rfl rfl (y_mov rfl s3 ⟨rfl, rfl⟩) ?_
  refine wl_v (.int .i64 (w)) rfl rfl (y_mov rfl s4 ⟨rfl, rfl⟩) ?_
  refine wl_v (.int .i64 (y)) rfl rfl (y_mov rfl s7 ⟨rfl, rfl⟩) ?_
  refine wl_v (.int .i64 (h)) rfl rfl (y_mov rfl s5 ⟨rfl, rfl⟩) ?_
  refine wl_v (.int .i64 ((h) - (1))) rfl rfl (y_sub rfl rfl rfl (i64_i rfl (by omega)) ⟨rfl, rfl⟩) ?_
  refine wl_call (R := fun v_ w_ => v_ = .int .i64 (max (0) (min (y) ((h) - (1)))) ∧ Kept (fun _ => False) w0 w_) rfl rfl (y_cs rfl rfl rfl (fun _ _ => by kernel_rfl) (ev_func _) (vsC rfl (vsC rfl (vsC rfl vsN))) (ps_clamped (y) (0) ((h) - (1))  _   ) (fun e_ w_ h_ => ⟨_, h_.1, rfl, h_.2⟩)) ?_
  rintro _ w9 ⟨rfl, k10⟩
  have B11 := h_s.all k10 Apart.none
  have K12 := K0.trans k10 (fun _ _ x => x.elim)
  refine wl_call (R := fun v_ w_ => v_ = subV (v) (((max (0) (min (y) ((h) - (1)))) * (w)).toNat) (((max (0) (min (y) ((h) - (1)))) * (w) + (w)).toNat) (((max (0) (min (y) ((h) - (1)))) * (w) + (w)).toNat) ∧ Kept (fun _ => False) w9 w_) rfl rfl (y_cs rfl rfl rfl (fun _ _ => by kernel_rfl) (ev_func _) (vsC rfl (vsC rfl (vsC rfl vsN))) (ps_row (v) (l) (w) (max (0) (min (y) ((h) - (1)))) (T_s) _ (by omega) (by omega) (by exact hl) (by exact hyw) B11 ) (fun e_ w_ h_ => ⟨_, h_.1, rfl, h_.2⟩)) ?_
  rintro _ w13 ⟨rfl, k14⟩
  have B15 := B11.all k14 Apart.none
  have K16 := K12.trans k14 (fun _ _ x => x.elim)
  refine wl_v (.int .i64 (x)) rfl rfl (y_mov rfl s6 ⟨rfl, rfl⟩) ?_
  refine wl_v (.int .i64 (w)) rfl rfl (y_mov rfl s4 ⟨rfl, rfl⟩) ?_
  refine wl_v (.int .i64 ((w) - (1))) rfl rfl (y_sub rfl rfl rfl (i64_i rfl (by omega)) ⟨rfl, rfl⟩) ?_
  refine wl_call (R := fun v_ w_ => v_ = .int .i64 ((((max 0 (min x (w - 1))).toNat : Nat) : Int)) ∧ Kept (fun _ => False) w13 w_) rfl rfl (y_cs rfl rfl rfl (fun _ _ => by kernel_rfl) (ev_func _) (vsC rfl (vsC rfl (vsC rfl vsN))) (ps_clamped (x) (0) ((w) - (1))  _   ) (fun e_ w_ h_ => ⟨_, h_.1, congrArg (Value.int .i64) (by omega), h_.2⟩)) ?_
  rintro _ w17 ⟨rfl, k18⟩
  have B19 := B15.all k18 Apart.none
  have K20 := K16.trans k18 (fun _ _ x => x.elim)
  refine wl_v (bytAddr (v) (((max (0) (min (y) ((h) - (1)))) * (w)).toNat + (max 0 (min x (w - 1))).toNat)) rfl rfl (y_atS ((max 0 (min x (w - 1))).toNat) rfl rfl rfl (by omega) B19 (by omega) (by have hc_ := (B19).cap; omega) (by omega) (by have hc_ := (B19).cap; omega) (by omega) ⟨rfl, rfl⟩) ?_
  have u21 := getD_lt (B19).lt256 (((max (0) (min (y) ((h) - (1)))) * (w)).toNat + (max 0 (min x (w - 1))).toNat)
  refine wl_v (.int .u8 ((((l).getD (((max (0) (min (y) ((h) - (1)))) * (w)).toNat + (max 0 (min x (w - 1))).toNat) 0 : Nat) : Int))) rfl rfl (y_ldB rfl rfl B19 (by omega) ⟨rfl, rfl⟩) ?_
  refine wl_v (.int .i64 ((((l).getD (((max (0) (min (y) ((h) - (1)))) * (w)).toNat + (max 0 (min x (w - 1))).toNat) 0 : Nat) : Int))) rfl rfl (y_convR rfl rfl Try.underlying5 Try.underlying3 (i64_i rfl (by omega)) ⟨rfl, rfl⟩) ?_
  refine wl_v (.int .i64 ((((l).getD (((max (0) (min (y) ((h) - (1)))) * (w)).toNat + (max 0 (min x (w - 1))).toNat) 0 : Nat) : Int))) rfl rfl (y_asg rfl rfl ⟨rfl, rfl⟩) ?_
  refine wl_nil fun F22 hF23 => ?_
  have s24 : F22 25 = undef := (hF23 25).trans s8
  have s25 : F22 10 = .int .i64 ((((l).getD (((max (0) (min (y) ((h) - (1)))) * (w)).toNat + (max 0 (min x (w - 1))).toNat) 0 : Nat) : Int)) := (hF23 10).trans rfl
  clear hF23
  refine then_normal ?_
  refine wq_ret ?_
  exact end_tmp (v := .int .i64 ((((l).getD (((max (0) (min (y) ((h) - (1)))) * (w)).toNat + (max 0 (min x (w - 1))).toNat) 0 : Nat) : Int))) s24 rfl rfl s25 ⟨rfl, K20⟩

theorem row_in {f : FD} {p : Int} (y : Int) (h : (sizeF f p).1 ≠ 0) : max 0 (min y ((sizeF f p).2 - 1)) * (sizeF f p).1 + (sizeF f p).1 ≤ ((f.pl p).length : Int) ∧ 0 ≤ max 0 (min y ((sizeF f p).2 - 1)) * (sizeF f p).1 ∧ max 0 (min y ((sizeF f p).2 - 1)) * (sizeF f p).1 ≤ 4096 := by
  have h2 := cell_bounds (sizeF f p).1 y h
  have hb := size_bounds f p
  have hs := size_pos (size_some h)
  rw [show max 0 (min y ((sizeF f p).2 - 1)) = min (max y 0) ((sizeF f p).2 - 1) by omega]
  unfold cellF at h2
  omega
theorem near_at {f : FD} {p : Int} (x y : Int) (h : (sizeF f p).1 ≠ 0) : nearS (f.pl p) (sizeF f p).1 (sizeF f p).2 x y = atF f p x y := by
  have hc := cell_bounds x y h
  have hb := size_bounds f p
  have hs := size_pos (size_some h)
  rw [atF_some x y h]
  unfold nearS
  have e : (cellF f p x y).toNat = (max 0 (min y ((sizeF f p).2 - 1)) * (sizeF f p).1).toNat + (max 0 (min x ((sizeF f p).1 - 1))).toNat := by
    rw [show max 0 (min y ((sizeF f p).2 - 1)) = min (max y 0) ((sizeF f p).2 - 1) by omega, show max 0 (min x ((sizeF f p).1 - 1)) = min (max x 0) ((sizeF f p).1 - 1) by omega]
    unfold cellF at *
    rw [Int.toNat_add (by omega) (by omega)]
  rw [e]

set_option maxHeartbeats 4000000 in
set_option maxRecDepth 100000 in
theorem pl_size (p : Int) (f : FD) (f0 f1 f2 : Value) (T_f0 : Nat → Prop) (T_f1 : Nat → Prop) (T_f2 : Nat → Prop) (w0 : World) (h_f0 : Byt w0 T_f0 f0 ((f).p0)) (h_f1 : Byt w0 T_f1 f1 ((f).p1)) (h_f2 : Byt w0 T_f2 f2 ((f).p2)) :
    Calls Try.prog 32 #[.agg #[.int .i64 ((f).W), .int .i64 ((f).H), f0, f1, f2], .int .i64 (p)] w0 fun e w' => e = .returned (.tuple #[.int .i64 ((sizeF f p).1), .int .i64 ((sizeF f p).2)]) ∧ Kept (fun _ => False) w0 w' := by
  refine calls_wq (args := [.agg #[.int .i64 ((f).W), .int .i64 ((f).H), f0, f1, f2], .int .i64 (p)]) 22 Try.func32 rfl rfl (Nat.le_of_ble_eq_true rfl) ?_
  have K0 := Kept.refl (fun _ => False) w0
  have g_f0 := Grew.refl w0 T_f0
  have g_f1 := Grew.refl w0 T_f1
  have g_f2 := Grew.refl w0 T_f2
  refine wq_seq ?_
  refine wq_region ?_
  refine wl_box_stc (vs := [.int .i64 ((f).W), .int .i64 ((f).H), f0, f1, f2]) rfl rfl rfl rfl fun p1 w2 B4 g5 k3 => ?_
  have gr6 : Grew w0 noB (onB p1) := Grew.new K0 g5
  have ap7 : Apart (onB p1) (T_f0) := Apart.new g5 (h_f0).live
  have ap8 : Apart (onB p1) (T_f1) := Apart.new g5 (h_f1).live
  have ap9 : Apart (onB p1) (T_f2) := Apart.new g5 (h_f2).live
  have B10 := h_f0.all k3 Apart.none
  have B11 := h_f1.all k3 Apart.none
  have B12 := h_f2.all k3 Apart.none
  have K13 := K0.trans k3 (fun _ _ x => x.elim)
  refine wl_v (.int .i64 (0)) rfl rfl (y_asg rfl rfl ⟨rfl, rfl⟩) ?_
  refine wl_v (.int .i64 (0)) rfl rfl (y_asg rfl rfl ⟨rfl, rfl⟩) ?_
  refine wl_nil fun F14 hF15 => ?_
  have s16 : F14 1 = .int .i64 (p) := (hF15 1).trans rfl
  have s17 : F14 22 = undef := (hF15 22).trans rfl
  have s18 : F14 2 = .pointer (some ⟨p1, 0, none⟩) := (hF15 2).trans rfl
  clear hF15
  refine then_normal ?_
  refine wq_seq ?_
  refine wq_seq ?_
  by_cases d19 : (p) < (0)
  · skip
    refine wq_region ?_
    refine wl_v (.int .i64 (p)) rfl rfl (y_mov rfl s16 ⟨rfl, rfl⟩) ?_
    refine wl_v (.bool true) rfl rfl (y_lss rfl rfl rfl (decide_eq_true d19) ⟨rfl, rfl⟩) ?_
    refine wl_v (.bool true) rfl rfl (y_mov rfl rfl ⟨rfl, rfl⟩) ?_
    refine wl_unless 2 false 8 rfl rfl rfl (Or.inl rfl) rfl ?_
    refine wl_unless 2 false 8 rfl rfl rfl (Or.inl rfl) rfl ?_
    refine wl_v (.bool true) rfl rfl (y_pickT rfl rfl rfl ⟨rfl, rfl⟩) ?_
    refine wl_v (.bool true) rfl rfl (y_mov rfl rfl ⟨rfl, rfl⟩) ?_
    refine wl_unless 6 false 12 rfl rfl rfl (Or.inl rfl) rfl ?_
    refine wl_unless 6 false 12 rfl rfl rfl (Or.inl rfl) rfl ?_
    refine wl_unless 6 false 12 rfl rfl rfl (Or.inl rfl) rfl ?_
    refine wl_v (.bool true) rfl rfl (y_pickT rfl rfl rfl ⟨rfl, rfl⟩) ?_
    refine wl_nil fun F20 hF21 => ?_
    have s22 : F20 1 = .int .i64 (p) := (hF21 1).trans s16
    have s23 : F20 22 = undef := (hF21 22).trans s17
    have s24 : F20 2 = .pointer (some ⟨p1, 0, none⟩) := (hF21 2).trans s18
    have s25 : F20 16 = .bool true := (hF21 16).trans rfl
    clear hF21
    refine then_normal ?_
    refine wq_cond (t := true) s25 (fun _ => ?_) (fun e => by cases e)
    refine wq_seq ?_
    refine wq_region ?_
    refine wl_v (.int .i64 (0)) rfl rfl (y_asg rfl rfl ⟨rfl, rfl⟩) ?_
    refine wl_v (.int .i64 (0)) rfl rfl (y_asg rfl rfl ⟨rfl, rfl⟩) ?_
    refine wl_nil fun F26 hF27 => ?_
    have s28 : F26 22 = undef := (hF27 22).trans s23
    have s29 : F26 4 = .int .i64 (0) := (hF27 4).trans rfl
    have s30 : F26 5 = .int .i64 (0) := (hF27 5).trans rfl
    clear hF27
    refine then_normal ?_
    refine wq_ret ?_
    refine then_ret ?_
    exact end_2 s28 rfl (res_tmp (v := .int .i64 (0)) rfl s29) (res_tmp (v := .int .i64 (0)) rfl s30) ⟨(by first | rw [he] | rw [sizeF_no (by rintro ⟨h1, h2, h3⟩; first | exact absurd ((checkE_iff f).2 h1) (by assumption) | omega)]), K13⟩
  · skip
    by_cases d31 : (3) ≤ (p)
    · skip
      refine wq_region ?_
      refine wl_v (.int .i64 (p)) rfl rfl (y_mov rfl s16 ⟨rfl, rfl⟩) ?_
      refine wl_v (.bool false) rfl rfl (y_lss rfl rfl rfl (decide_eq_false d19) ⟨rfl, rfl⟩) ?_
      refine wl_v (.bool false) rfl rfl (y_mov rfl rfl ⟨rfl, rfl⟩) ?_
      refine wl_vw (.int .i64 (p)) 2 false 8 rfl rfl rfl rfl rfl (y_mov rfl s16 ⟨rfl, rfl⟩) ?_
      refine wl_vw (.bool true) 2 false 8 rfl rfl rfl rfl rfl (y_geq rfl rfl rfl (decide_eq_true d31) ⟨rfl, rfl⟩) ?_
      refine wl_v (.bool true) rfl rfl (y_pickF rfl rfl rfl ⟨rfl, rfl⟩) ?_
      refine wl_v (.bool true) rfl rfl (y_mov rfl rfl ⟨rfl, rfl⟩) ?_
      refine wl_unless 6 false 12 rfl rfl rfl (Or.inl rfl) rfl ?_
      refine wl_unless 6 false 12 rfl rfl rfl (Or.inl rfl) rfl ?_
      refine wl_unless 6 false 12 rfl rfl rfl (Or.inl rfl) rfl ?_
      refine wl_v (.bool true) rfl rfl (y_pickT rfl rfl rfl ⟨rfl, rfl⟩) ?_
      refine wl_nil fun F32 hF33 => ?_
      have s34 : F32 1 = .int .i64 (p) := (hF33 1).trans s16
      have s35 : F32 22 = undef := (hF33 22).trans s17
      have s36 : F32 2 = .pointer (some ⟨p1, 0, none⟩) := (hF33 2).trans s18
      have s37 : F32 16 = .bool true := (hF33 16).trans rfl
      clear hF33
      refine then_normal ?_
      refine wq_cond (t := true) s37 (fun _ => ?_) (fun e => by cases e)
      refine wq_seq ?_
      refine wq_region ?_
      refine wl_v (.int .i64 (0)) rfl rfl (y_asg rfl rfl ⟨rfl, rfl⟩) ?_
      refine wl_v (.int .i64 (0)) rfl rfl (y_asg rfl rfl ⟨rfl, rfl⟩) ?_
      refine wl_nil fun F38 hF39 => ?_
      have s40 : F38 22 = undef := (hF39 22).trans s35
      have s41 : F38 4 = .int .i64 (0) := (hF39 4).trans rfl
      have s42 : F38 5 = .int .i64 (0) := (hF39 5).trans rfl
      clear hF39
      refine then_normal ?_
      refine wq_ret ?_
      refine then_ret ?_
      exact end_2 s40 rfl (res_tmp (v := .int .i64 (0)) rfl s41) (res_tmp (v := .int .i64 (0)) rfl s42) ⟨(by first | rw [he] | rw [sizeF_no (by rintro ⟨h1, h2, h3⟩; first | exact absurd ((checkE_iff f).2 h1) (by assumption) | omega)]), K13⟩
    · skip
      refine wq_region ?_
      refine wl_v (.int .i64 (p)) rfl rfl (y_mov rfl s16 ⟨rfl, rfl⟩) ?_
      refine wl_v (.bool false) rfl rfl (y_lss rfl rfl rfl (decide_eq_false d19) ⟨rfl, rfl⟩) ?_
      refine wl_v (.bool false) rfl rfl (y_mov rfl rfl ⟨rfl, rfl⟩) ?_
      refine wl_vw (.int .i64 (p)) 2 false 8 rfl rfl rfl rfl rfl (y_mov rfl s16 ⟨rfl, rfl⟩) ?_
      refine wl_vw (.bool false) 2 false 8 rfl rfl rfl rfl rfl (y_geq rfl rfl rfl (decide_eq_false d31) ⟨rfl, rfl⟩) ?_
      refine wl_v (.bool false) rfl rfl (y_pickF rfl rfl rfl ⟨rfl, rfl⟩) ?_
      refine wl_v (.bool false) rfl rfl (y_mov rfl rfl ⟨rfl, rfl⟩) ?_
      refine wl_vw (.agg #[.int .i64 ((f).W), .int .i64 ((f).H), f0, f1, f2]) 6 false 12 rfl rfl rfl rfl rfl (y_load_stc stcT_frame rfl s18 B4 ⟨rfl, rfl⟩) ?_
      refine wl_callw (R := fun v_ w_ => v_ = .int .i64 (checkE (f)) ∧ Kept (fun _ => False) w2 w_) 6 false 12 rfl rfl rfl rfl rfl (y_cs rfl rfl rfl (fun _ _ => by kernel_rfl) (ev_func _) (vsC rfl vsN) (pl_check (f) (f0) (f1) (f2) (T_f0) (T_f1) (T_f2) _  B10 B11 B12 ) (fun e_ w_ h_ => ⟨_, h_.1, rfl, h_.2⟩)) ?_
      rintro _ w43 ⟨rfl, k44⟩
      have B45 := B10.all k44 Apart.none
      have B46 := B11.all k44 Apart.none
      have B47 := B12.all k44 Apart.none
      have B48 := B4.all k44 id
      have K49 := K13.trans k44 (fun _ _ x => x.elim)
      refine wl_vw (.bool (decide ((checkE (f)) ≠ (0)))) 6 false 12 rfl rfl rfl rfl rfl (y_neqI rfl rfl rfl rfl ⟨rfl, rfl⟩) ?_
      refine wl_v (.bool (decide ((checkE (f)) ≠ (0)))) rfl rfl (y_pickF rfl rfl rfl ⟨rfl, rfl⟩) ?_
      refine wl_nil fun F50 hF51 => ?_
      have s52 : F50 1 = .int .i64 (p) := (hF51 1).trans s16
      have s53 : F50 22 = undef := (hF51 22).trans s17
      have s54 : F50 2 = .pointer (some ⟨p1, 0, none⟩) := (hF51 2).trans s18
      have s55 : F50 16 = .bool (decide ((checkE (f)) ≠ (0))) := (hF51 16).trans rfl
      clear hF51
      refine then_normal ?_
      refine wq_cond s55 (fun c56 => ?_) (fun c56 => ?_)
      · replace c56 := of_decide_eq_true c56
        refine wq_seq ?_
        refine wq_region ?_
        refine wl_v (.int .i64 (0)) rfl rfl (y_asg rfl rfl ⟨rfl, rfl⟩) ?_
        refine wl_v (.int .i64 (0)) rfl rfl (y_asg rfl rfl ⟨rfl, rfl⟩) ?_
        refine wl_nil fun F57 hF58 => ?_
        have s59 : F57 22 = undef := (hF58 22).trans s53
        have s60 : F57 4 = .int .i64 (0) := (hF58 4).trans rfl
        have s61 : F57 5 = .int .i64 (0) := (hF58 5).trans rfl
        clear hF58
        refine then_normal ?_
        refine wq_ret ?_
        refine then_ret ?_
        exact end_2 s59 rfl (res_tmp (v := .int .i64 (0)) rfl s60) (res_tmp (v := .int .i64 (0)) rfl s61) ⟨(by first | rw [he] | rw [sizeF_no (by rintro ⟨h1, h2, h3⟩; first | exact absurd ((checkE_iff f).2 h1) (by assumption) | omega)]), K49⟩
      · replace c56 := of_decide_eq_false c56
        refine wq_skip ?_
        refine then_normal ?_
        refine wq_seq ?_
        have hok := (checkE_iff f).1 (by first | assumption | (apply Decidable.byContradiction; assumption))
        have hws := (sideB_iff _).1 hok.1
        have hhs := (sideB_iff _).1 hok.2.1
        have he : sizeF f p = sidesF f p := by unfold sizeF sidesF; rw [if_pos ⟨hok, by omega, by omega⟩]
        refine wq_region ?_
        refine wl_v (.agg #[.int .i64 ((f).W), .int .i64 ((f).H), f0, f1, f2]) rfl rfl (y_load_stc stcT_frame rfl s54 B48 ⟨rfl, rfl⟩) ?_
        refine wl_v (.int .i64 (p)) rfl rfl (y_mov rfl s52 ⟨rfl, rfl⟩) ?_
        refine wl_call (R := fun v_ w_ => v_ = .tuple #[.int .i64 ((sidesF (f) (p)).1), .int .i64 ((sidesF (f) (p)).2)] ∧ Kept (fun _ => False) w43 w_) rfl rfl (y_cs rfl rfl rfl (fun _ _ => by kernel_rfl) (ev_func _) (vsC rfl (vsC rfl vsN)) (ps_sides (p) (f) (f0) (f1) (f2) (T_f0) (T_f1) (T_f2) _ (by omega) (by omega) B45 B46 B47 ) (fun e_ w_ h_ => ⟨_, h_.1, rfl, h_.2⟩)) ?_
        rintro _ w62 ⟨rfl, k63⟩
        have B64 := B45.all k63 Apart.none
        have B65 := B46.all k63 Apart.none
        have B66 := B47.all k63 Apart.none
        have B67 := B48.all k63 id
        have K68 := K49.trans k63 (fun _ _ x => x.elim)
        refine wl_v (.int .i64 ((sidesF (f) (p)).1)) rfl rfl (y_ext rfl rfl rfl ⟨rfl, rfl⟩) ?_
        refine wl_v (.int .i64 ((sidesF (f) (p)).2)) rfl rfl (y_ext rfl rfl rfl ⟨rfl, rfl⟩) ?_
        refine wl_v (.int .i64 ((sidesF (f) (p)).1)) rfl rfl (y_asg rfl rfl ⟨rfl, rfl⟩) ?_
        refine wl_v (.int .i64 ((sidesF (f) (p)).2)) rfl rfl (y_asg rfl rfl ⟨rfl, rfl⟩) ?_
        refine wl_nil fun F69 hF70 => ?_
        have s71 : F69 22 = undef := (hF70 22).trans s53
        have s72 : F69 4 = .int .i64 ((sidesF (f) (p)).1) := (hF70 4).trans rfl
        have s73 : F69 5 = .int .i64 ((sidesF (f) (p)).2) := (hF70 5).trans rfl
        clear hF70
        refine then_normal ?_
        refine wq_ret ?_
        exact end_2 s71 rfl (res_tmp (v := .int .i64 ((sidesF (f) (p)).1)) rfl s72) (res_tmp (v := .int .i64 ((sidesF (f) (p)).2)) rfl s73) ⟨(by first | rw [he] | rw [sizeF_no (by rintro ⟨h1, h2, h3⟩; first | exact absurd ((checkE_iff f).2 h1) (by assumption) | omega)]), K68⟩

set_option maxHeartbeats 4000000 in
set_option maxRecDepth 100000 in
theorem pl_at (p x y : Int) (f : FD) (f0 f1 f2 : Value) (T_f0 : Nat → Prop) (T_f1 : Nat → Prop) (T_f2 : Nat → Prop) (w0 : World) (h_f0 : Byt w0 T_f0 f0 ((f).p0)) (h_f1 : Byt w0 T_f1 f1 ((f).p1)) (h_f2 : Byt w0 T_f2 f2 ((f).p2)) :
    Calls Try.prog 42 #[.agg #[.int .i64 ((f).W), .int .i64 ((f).H), f0, f1, f2], .int .i64 (p), .int .i64 (x), .int .i64 (y)] w0 fun e w' => e = .returned (.int .i64 (atF f p x y)) ∧ Kept (fun _ => False) w0 w' := by
  refine calls_wq (args := [.agg #[.int .i64 ((f).W), .int .i64 ((f).H), f0, f1, f2], .int .i64 (p), .int .i64 (x), .int .i64 (y)]) 28 Try.func42 rfl rfl (Nat.le_of_ble_eq_true rfl) ?_
  have K0 := Kept.refl (fun _ => False) w0
  have g_f0 := Grew.refl w0 T_f0
  have g_f1 := Grew.refl w0 T_f1
  have g_f2 := Grew.refl w0 T_f2
  refine wq_seq ?_
  refine wq_region ?_
  refine wl_box_stc (vs := [.int .i64 ((f).W), .int .i64 ((f).H), f0, f1, f2]) rfl rfl rfl rfl fun p1 w2 B4 g5 k3 => ?_
  have gr6 : Grew w0 noB (onB p1) := Grew.new K0 g5
  have ap7 : Apart (onB p1) (T_f0) := Apart.new g5 (h_f0).live
  have ap8 : Apart (onB p1) (T_f1) := Apart.new g5 (h_f1).live
  have ap9 : Apart (onB p1) (T_f2) := Apart.new g5 (h_f2).live
  have B10 := h_f0.all k3 Apart.none
  have B11 := h_f1.all k3 Apart.none
  have B12 := h_f2.all k3 Apart.none
  have K13 := K0.trans k3 (fun _ _ x => x.elim)
  refine wl_v (.int .i64 (0)) rfl rfl (y_asg rfl rfl ⟨rfl, rfl⟩) ?_
  refine wl_nil fun F14 hF15 => ?_
  have s16 : F14 1 = .int .i64 (p) := (hF15 1).trans rfl
  have s17 : F14 2 = .int .i64 (x) := (hF15 2).trans rfl
  have s18 : F14 3 = .int .i64 (y) := (hF15 3).trans rfl
  have s19 : F14 28 = undef := (hF15 28).trans rfl
  have s20 : F14 4 = .pointer (some ⟨p1, 0, none⟩) := (hF15 4).trans rfl
  clear hF15
  refine then_normal ?_
  refine wq_seq ?_
  refine wq_region ?_
  refine wl_v (.agg #[.int .i64 ((f).W), .int .i64 ((f).H), f0, f1, f2]) rfl rfl (y_load_stc stcT_frame rfl s20 B4 ⟨rfl, rfl⟩) ?_
  refine wl_v (.int .i64 (p)) rfl rfl (y_mov rfl s16 ⟨rfl, rfl⟩) ?_
  refine wl_call (R := fun v_ w_ => v_ = .tuple #[.int .i64 ((sizeF (f) (p)).1), .int .i64 ((sizeF (f) (p)).2)] ∧ Kept (fun _ => False) w2 w_) rfl rfl (y_cs rfl rfl rfl (fun _ _ => by kernel_rfl) (ev_func _) (vsC rfl (vsC rfl vsN)) (pl_size (p) (f) (f0) (f1) (f2) (T_f0) (T_f1) (T_f2) _  B10 B11 B12 ) (fun e_ w_ h_ => ⟨_, h_.1, rfl, h_.2⟩)) ?_
  rintro _ w21 ⟨rfl, k22⟩
  have B23 := B10.all k22 Apart.none
  have B24 := B11.all k22 Apart.none
  have B25 := B12.all k22 Apart.none
  have B26 := B4.all k22 id
  have K27 := K13.trans k22 (fun _ _ x => x.elim)
  refine wl_v (.tuple #[.int .i64 ((sizeF (f) (p)).1), .int .i64 ((sizeF (f) (p)).2)]) rfl rfl (y_mov rfl rfl ⟨rfl, rfl⟩) ?_
  refine wl_v (.int .i64 ((sizeF (f) (p)).1)) rfl rfl (y_ext rfl rfl rfl ⟨rfl, rfl⟩) ?_
  refine wl_v (.int .i64 ((sizeF (f) (p)).2)) rfl rfl (y_ext rfl rfl rfl ⟨rfl, rfl⟩) ?_
  refine wl_v (.int .i64 ((sizeF (f) (p)).1)) rfl rfl (y_asg rfl rfl ⟨rfl, rfl⟩) ?_
  refine wl_v (.int .i64 ((sizeF (f) (p)).2)) rfl rfl (y_asg rfl rfl ⟨rfl, rfl⟩) ?_
  refine wl_nil fun F28 hF29 => ?_
  have s30 : F28 1 = .int .i64 (p) := (hF29 1).trans s16
  have s31 : F28 2 = .int .i64 (x) := (hF29 2).trans s17
  have s32 : F28 3 = .int .i64 (y) := (hF29 3).trans s18
  have s33 : F28 28 = undef := (hF29 28).trans s19
  have s34 : F28 4 = .pointer (some ⟨p1, 0, none⟩) := (hF29 4).trans s20
  have s35 : F28 9 = .int .i64 ((sizeF (f) (p)).1) := (hF29 9).trans rfl
  have s36 : F28 10 = .int .i64 ((sizeF (f) (p)).2) := (hF29 10).trans rfl
  clear hF29
  refine then_normal ?_
  refine wq_seq ?_
  refine wq_seq ?_
  refine wq_region ?_
  refine wl_v (.int .i64 ((sizeF (f) (p)).1)) rfl rfl (y_mov rfl s35 ⟨rfl, rfl⟩) ?_
  refine wl_v (.bool (decide (((sizeF (f) (p)).1) = (0)))) rfl rfl (y_eqlI rfl rfl rfl rfl ⟨rfl, rfl⟩) ?_
  refine wl_nil fun F37 hF38 => ?_
  have s39 : F37 1 = .int .i64 (p) := (hF38 1).trans s30
  have s40 : F37 2 = .int .i64 (x) := (hF38 2).trans s31
  have s41 : F37 3 = .int .i64 (y) := (hF38 3).trans s32
  have s42 : F37 28 = undef := (hF38 28).trans s33
  have s43 : F37 4 = .pointer (some ⟨p1, 0, none⟩) := (hF38 4).trans s34
  have s44 : F37 9 = .int .i64 ((sizeF (f) (p)).1) := (hF38 9).trans s35
  have s45 : F37 10 = .int .i64 ((sizeF (f) (p)).2) := (hF38 10).trans s36
  have s46 : F37 18 = .bool (decide (((sizeF (f) (p)).1) = (0))) := (hF38 18).trans rfl
  clear hF38
  refine then_normal ?_
  refine wq_cond s46 (fun c47 => ?_) (fun c47 => ?_)
  · replace c47 := of_decide_eq_true c47
    refine wq_seq ?_
    refine wq_region ?_
    refine wl_v (.int .i64 (0)) rfl rfl (y_asg rfl rfl ⟨rfl, rfl⟩) ?_
    refine wl_nil fun F48 hF49 => ?_
    have s50 : F48 28 = undef := (hF49 28).trans s42
    have s51 : F48 8 = .int .i64 (0) := (hF49 8).trans rfl
    clear hF49
    refine then_normal ?_
    refine wq_ret ?_
    refine then_ret ?_
    exact end_tmp (v := .int .i64 (0)) s50 rfl rfl s51 ⟨(by first | rw [atF_none x y (by assumption)] | (rw [← near_at x y hsz]; rfl)), K27⟩
  · replace c47 := of_decide_eq_false c47
    refine wq_skip ?_
    refine then_normal ?_
    refine wq_seq ?_
    rcases (show p = 0 ∨ p = 1 ∨ p = 2 from size_cases (f := f) (by assumption)) with rfl | rfl | rfl
    · skip
      have hsz : (sizeF f 0).1 ≠ 0 := by assumption
      have hb := size_bounds f 0
      have hsp := size_pos (size_some hsz)
      have hr := row_in y hsz
      refine wq_region ?_
      refine wl_v (.int .i64 (0)) rfl rfl (y_mov rfl s39 ⟨rfl, rfl⟩) ?_
      refine wl_v (.pointer (some ⟨p1, 2, none⟩)) rfl rfl (y_fieldR (n := 3) rfl s43 Try.underlying25 rfl (by kernel_rfl) (by decide) rfl ⟨rfl, rfl⟩) ?_
      refine wl_v (.pointer (some ⟨p1, 2, none⟩)) rfl rfl (y_atR (0) (s := 1) rfl rfl rfl (by omega) Try.underlying23 (by omega) (by kernel_rfl) (by omega) ⟨rfl, rfl⟩) ?_
      refine wl_v (f0) rfl rfl (y_ld_stc rfl rfl Try.underlying22 B26 rfl rfl ⟨rfl, rfl⟩) ?_
      refine wl_v (.int .i64 ((sizeF (f) (0)).1)) rfl rfl (y_mov rfl s44 ⟨rfl, rfl⟩) ?_
      refine wl_v (.int .i64 ((sizeF (f) (0)).2)) rfl rfl (y_mov rfl s45 ⟨rfl, rfl⟩) ?_
      refine wl_v (.int .i64 (x)) rfl rfl (y_mov rfl s40 ⟨rfl, rfl⟩) ?_
      refine wl_v (.int .i64 (y)) rfl rfl (y_mov rfl s41 ⟨rfl, rfl⟩) ?_
      refine wl_call (R := fun v_ w_ => v_ = .int .i64 (nearS ((f).p0) ((sizeF (f) (0)).1) ((sizeF (f) (0)).2) (x) (y)) ∧ Kept (fun _ => False) w21 w_) rfl rfl (y_cs rfl rfl rfl (fun _ _ => by kernel_rfl) (ev_func _) (vsC rfl (vsC rfl (vsC rfl (vsC rfl (vsC rfl vsN))))) (ps_nearest (f0) ((f).p0) ((sizeF (f) (0)).1) ((sizeF (f) (0)).2) (x) (y) (T_f0) _ (by omega) (by omega) (by exact hr.1) (by exact hr.2) B23 ) (fun e_ w_ h_ => ⟨_, h_.1, rfl, h_.2⟩)) ?_
      rintro _ w52 ⟨rfl, k53⟩
      have B54 := B23.all k53 Apart.none
      have B55 := B24.all k53 Apart.none
      have B56 := B25.all k53 Apart.none
      have B57 := B26.all k53 id
      have K58 := K27.trans k53 (fun _ _ x => x.elim)
      refine wl_v (.int .i64 (nearS ((f).p0) ((sizeF (f) (0)).1) ((sizeF (f) (0)).2) (x) (y))) rfl rfl (y_asg rfl rfl ⟨rfl, rfl⟩) ?_
      refine wl_nil fun F59 hF60 => ?_
      have s61 : F59 28 = undef := (hF60 28).trans s42
      have s62 : F59 8 = .int .i64 (nearS ((f).p0) ((sizeF (f) (0)).1) ((sizeF (f) (0)).2) (x) (y)) := (hF60 8).trans rfl
      clear hF60
      refine then_normal ?_
      refine wq_ret ?_
      exact end_tmp (v := .int .i64 (nearS ((f).p0) ((sizeF (f) (0)).1) ((sizeF (f) (0)).2) (x) (y))) s61 rfl rfl s62 ⟨(by first | rw [atF_none x y (by assumption)] | (rw [← near_at x y hsz]; rfl)), K58⟩
    · skip
      have hsz : (sizeF f 1).1 ≠ 0 := by assumption
      have hb := size_bounds f 1
      have hsp := size_pos (size_some hsz)
      have hr := row_in y hsz
      refine wq_region ?_
      refine wl_v (.int .i64 (1)) rfl rfl (y_mov rfl s39 ⟨rfl, rfl⟩) ?_
      refine wl_v (.pointer (some ⟨p1, 2, none⟩)) rfl rfl (y_fieldR (n := 3) rfl s43 Try.underlying25 rfl (by kernel_rfl) (by decide) rfl ⟨rfl, rfl⟩) ?_
      refine wl_v (.pointer (some ⟨p1, 3, none⟩)) rfl rfl (y_atR (1) (s := 1) rfl rfl rfl (by omega) Try.underlying23 (by omega) (by kernel_rfl) (by omega) ⟨rfl, rfl⟩) ?_
      refine wl_v (f1) rfl rfl (y_ld_stc rfl rfl Try.underlying22 B26 rfl rfl ⟨rfl, rfl⟩) ?_
      refine wl_v (.int .i64 ((sizeF (f) (1)).1)) rfl rfl (y_mov rfl s44 ⟨rfl, rfl⟩) ?_
      refine wl_v (.int .i64 ((sizeF (f) (1)).2)) rfl rfl (y_mov rfl s45 ⟨rfl, rfl⟩) ?_
      refine wl_v (.int .i64 (x)) rfl rfl (y_mov rfl s40 ⟨rfl, rfl⟩) ?_
      refine wl_v (.int .i64 (y)) rfl rfl (y_mov rfl s41 ⟨rfl, rfl⟩) ?_
      refine wl_call (R := fun v_ w_ => v_ = .int .i64 (nearS ((f).p1) ((sizeF (f) (1)).1) ((sizeF (f) (1)).2) (x) (y)) ∧ Kept (fun _ => False) w21 w_) rfl rfl (y_cs rfl rfl rfl (fun _ _ => by kernel_rfl) (ev_func _) (vsC rfl (vsC rfl (vsC rfl (vsC rfl (vsC rfl vsN))))) (ps_nearest (f1) ((f).p1) ((sizeF (f) (1)).1) ((sizeF (f) (1)).2) (x) (y) (T_f1) _ (by omega) (by omega) (by exact hr.1) (by exact hr.2) B24 ) (fun e_ w_ h_ => ⟨_, h_.1, rfl, h_.2⟩)) ?_
      rintro _ w63 ⟨rfl, k64⟩
      have B65 := B23.all k64 Apart.none
      have B66 := B24.all k64 Apart.none
      have B67 := B25.all k64 Apart.none
      have B68 := B26.all k64 id
      have K69 := K27.trans k64 (fun _ _ x => x.elim)
      refine wl_v (.int .i64 (nearS ((f).p1) ((sizeF (f) (1)).1) ((sizeF (f) (1)).2) (x) (y))) rfl rfl (y_asg rfl rfl ⟨rfl, rfl⟩) ?_
      refine wl_nil fun F70 hF71 => ?_
      have s72 : F70 28 = undef := (hF71 28).trans s42
      have s73 : F70 8 = .int .i64 (nearS ((f).p1) ((sizeF (f) (1)).1) ((sizeF (f) (1)).2) (x) (y)) := (hF71 8).trans rfl
      clear hF71
      refine then_normal ?_
      refine wq_ret ?_
      exact end_tmp (v := .int .i64 (nearS ((f).p1) ((sizeF (f) (1)).1) ((sizeF (f) (1)).2) (x) (y))) s72 rfl rfl s73 ⟨(by first | rw [atF_none x y (by assumption)] | (rw [← near_at x y hsz]; rfl)), K69⟩
    · skip
      have hsz : (sizeF f 2).1 ≠ 0 := by assumption
      have hb := size_bounds f 2
      have hsp := size_pos (size_some hsz)
      have hr := row_in y hsz
      refine wq_region ?_
      refine wl_v (.int .i64 (2)) rfl rfl (y_mov rfl s39 ⟨rfl, rfl⟩) ?_
      refine wl_v (.pointer (some ⟨p1, 2, none⟩)) rfl rfl (y_fieldR (n := 3) rfl s43 Try.underlying25 rfl (by kernel_rfl) (by decide) rfl ⟨rfl, rfl⟩) ?_
      refine wl_v (.pointer (some ⟨p1, 4, none⟩)) rfl rfl (y_atR (2) (s := 1) rfl rfl rfl (by omega) Try.underlying23 (by omega) (by kernel_rfl) (by omega) ⟨rfl, rfl⟩) ?_
      refine wl_v (f2) rfl rfl (y_ld_stc rfl rfl Try.underlying22 B26 rfl rfl ⟨rfl, rfl⟩) ?_
      refine wl_v (.int .i64 ((sizeF (f) (2)).1)) rfl rfl (y_mov rfl s44 ⟨rfl, rfl⟩) ?_
      refine wl_v (.int .i64 ((sizeF (f) (2)).2)) rfl rfl (y_mov rfl s45 ⟨rfl, rfl⟩) ?_
      refine wl_v (.int .i64 (x)) rfl rfl (y_mov rfl s40 ⟨rfl, rfl⟩) ?_
      refine wl_v (.int .i64 (y)) rfl rfl (y_mov rfl s41 ⟨rfl, rfl⟩) ?_
      refine wl_call (R := fun v_ w_ => v_ = .int .i64 (nearS ((f).p2) ((sizeF (f) (2)).1) ((sizeF (f) (2)).2) (x) (y)) ∧ Kept (fun _ => False) w21 w_) rfl rfl (y_cs rfl rfl rfl (fun _ _ => by kernel_rfl) (ev_func _) (vsC rfl (vsC rfl (vsC rfl (vsC rfl (vsC rfl vsN))))) (ps_nearest (f2) ((f).p2) ((sizeF (f) (2)).1) ((sizeF (f) (2)).2) (x) (y) (T_f2) _ (by omega) (by omega) (by exact hr.1) (by exact hr.2) B25 ) (fun e_ w_ h_ => ⟨_, h_.1, rfl, h_.2⟩)) ?_
      rintro _ w74 ⟨rfl, k75⟩
      have B76 := B23.all k75 Apart.none
      have B77 := B24.all k75 Apart.none
      have B78 := B25.all k75 Apart.none
      have B79 := B26.all k75 id
      have K80 := K27.trans k75 (fun _ _ x => x.elim)
      refine wl_v (.int .i64 (nearS ((f).p2) ((sizeF (f) (2)).1) ((sizeF (f) (2)).2) (x) (y))) rfl rfl (y_asg rfl rfl ⟨rfl, rfl⟩) ?_
      refine wl_nil fun F81 hF82 => ?_
      have s83 : F81 28 = undef := (hF82 28).trans s42
      have s84 : F81 8 = .int .i64 (nearS ((f).p2) ((sizeF (f) (2)).1) ((sizeF (f) (2)).2) (x) (y)) := (hF82 8).trans rfl
      clear hF82
      refine then_normal ?_
      refine wq_ret ?_
      exact end_tmp (v := .int .i64 (nearS ((f).p2) ((sizeF (f) (2)).1) ((sizeF (f) (2)).2) (x) (y))) s83 rfl rfl s84 ⟨(by first | rw [atF_none x y (by assumption)] | (rw [← near_at x y hsz]; rfl)), K80⟩

def pn2 (a b : Nat) : Nat → Nat
  | 0 => a
  | _ => b
theorem pn2_le (a b k : Nat) : pn2 a b k = a ∨ pn2 a b k = b := by cases k <;> simp [pn2]
theorem new_side {w h : Int} (s : Nat) (hw : sideB w = true) (hh : sideB h = true) : (newF w h s).W = w ∧ (newF w h s).H = h := by rw [newF_yes s hw hh]; exact ⟨rfl, rfl⟩
set_option maxHeartbeats 4000000 in
set_option maxRecDepth 100000 in
theorem ps_blank (w h : Int) (w0 : World) (hsw : sideB w = true) (hsh : sideB h = true) :
    Calls Try.prog 30 #[.int .i64 (w), .int .i64 (h)] w0 fun e w' => ∃ (v1 : Value) (T1 : Nat → Prop) (v2 : Value) (T2 : Nat → Prop) (v3 : Value) (T3 : Nat → Prop), e = .returned (.agg #[.int .i64 ((newF w h 0).W), .int .i64 ((newF w h 0).H), v1, v2, v3]) ∧ Kept (fun _ => False) w0 w' ∧ (Owb w' T1 v1 ((newF w h 0).p0) ∧ Grew w0 noB T1) ∧ (Owb w' T2 v2 ((newF w h 0).p1) ∧ Grew w0 noB T2) ∧ (Owb w' T3 v3 ((newF w h 0).p2) ∧ Grew w0 noB T3) ∧ Apart T1 T2 ∧ Apart T1 T3 ∧ Apart T2 T3 := by
  refine calls_wq (args := [.int .i64 (w), .int .i64 (h)]) 30 Try.func30 rfl rfl (Nat.le_of_ble_eq_true rfl) ?_
  have K0 := Kept.refl (fun _ => False) w0
  have hws := (sideB_iff _).1 hsw
  have hhs := (sideB_iff _).1 hsh
  have har := area_bounds hsw hsh
  obtain ⟨n0, hn0⟩ : ∃ n : Nat, (n : Int) = w * h := ⟨(w * h).toNat, by omega⟩
  obtain ⟨n1, hn1⟩ : ∃ n : Nat, (n : Int) = Int.tdiv w 2 * Int.tdiv h 2 := ⟨(Int.tdiv w 2 * Int.tdiv h 2).toNat, Int.toNat_of_nonneg (Int.mul_nonneg (by rw [tdiv2 (by omega)]; omega) (by rw [tdiv2 (by omega)]; omega))⟩
  have hq : (n1 : Int) = w * h / 4 := by rw [hn1]; exact quarter hws.2.2 hhs.2.2 (by omega) (by omega)
  have hF : newF w h 0 = ⟨w, h, List.replicate n0 0, List.replicate n1 0, List.replicate n1 0⟩ := by rw [newF_yes 0 hsw hsh, ← hq, ← hn0, Int.toNat_natCast, Int.toNat_natCast]
  refine wq_seq ?_
  refine wq_region ?_
  refine wl_alloc_stc (n := 5) (vs := [.int .i64 (0), .int .i64 (0), .slice none 0 0, .slice none 0 0, .slice none 0 0]) rfl rfl rfl (by kernel_rfl) fun p1 w2 B4 g5 k3 => ?_
  have gr6 : Grew w0 noB (onB p1) := Grew.new K0 g5
  have K7 := K0.trans k3 (fun _ _ x => x.elim)
  refine wl_nil fun F8 hF9 => ?_
  have s10 : F8 0 = .int .i64 (w) := (hF9 0).trans rfl
  have s11 : F8 1 = .int .i64 (h) := (hF9 1).trans rfl
  have s12 : F8 30 = undef := (hF9 30).trans rfl
  have s13 : F8 4 = .pointer (some ⟨p1, 0, none⟩) := (hF9 4).trans rfl
  clear hF9
  refine then_normal ?_
  refine wq_seq ?_
  refine wq_region ?_
  refine wl_v (.int .i64 (w)) rfl rfl (y_mov rfl s10 ⟨rfl, rfl⟩) ?_
  refine wl_v (.int .i64 (h)) rfl rfl (y_mov rfl s11 ⟨rfl, rfl⟩) ?_
  refine wl_v (.agg #[.int .i64 (w), .int .i64 (h), .slice none 0 0, .slice none 0 0, .slice none 0 0]) rfl rfl (y_buildL (l' := [(0, .int .i64 (w)), (1, .int .i64 (h))]) (cells := #[.int .i64 (w), .int .i64 (h), .slice none 0 0, .slice none 0 0, .slice none 0 0]) rfl (bpC rfl (bpC rfl bpN)) (by kernel_rfl) rfl ⟨rfl, rfl⟩) ?_
  refine wl_alloc_stc (n := 5) (vs := [.int .i64 (0), .int .i64 (0), .slice none 0 0, .slice none 0 0, .slice none 0 0]) rfl rfl rfl (by kernel_rfl) fun p14 w15 B17 g18 k16 => ?_
  have gr19 : Grew w0 noB (onB p14) := Grew.new K7 g18
  have ap20 : Apart (onB p14) (onB p1) := Apart.new g18 (onB_live (B4).lt)
  have B21 := B4.all k16 id
  have K22 := K7.trans k16 (fun _ _ x => x.elim)
  refine wl_store_stc (us := [.int .i64 (w), .int .i64 (h), .slice none 0 0, .slice none 0 0, .slice none 0 0]) stcT_frame rfl rfl rfl rfl rfl B17 rfl (oneI rfl (oneI rfl (oneI rfl (oneI rfl (oneI rfl oneN))))) fun w23 B24 k25 => ?_
  have B26 := B21.all k25 (fun x => (((ap20).symm) p1 rfl x))
  have K27 := K22.trans k25 (Grew.ok (S := fun _ => False) gr19 noB_le)
  refine wl_nil fun F28 hF29 => ?_
  have s30 : F28 30 = undef := (hF29 30).trans s12
  have s31 : F28 4 = .pointer (some ⟨p1, 0, none⟩) := (hF29 4).trans s13
  have s32 : F28 5 = .pointer (some ⟨p14, 0, none⟩) := (hF29 5).trans rfl
  clear hF29
  refine then_normal ?_
  refine wq_seq ?_
  refine wq_seq ?_
  refine wq_region ?_
  refine wl_v (.int .i64 (0)) rfl rfl (y_mov rfl rfl ⟨rfl, rfl⟩) ?_
  refine wl_nil fun F33 hF34 => ?_
  have s35 : F33 30 = undef := (hF34 30).trans s30
  have s36 : F33 4 = .pointer (some ⟨p1, 0, none⟩) := (hF34 4).trans s31
  have s37 : F33 5 = .pointer (some ⟨p14, 0, none⟩) := (hF34 5).trans s32
  have s38 : F33 12 = .int .i64 (0) := (hF34 12).trans rfl
  clear hF34
  refine then_normal ?_
  refine wq_block ?_
  refine wq_rounds 4 ?_
  refine wqr_step ?_
  refine wq_seq ?_
  refine wq_region ?_
  refine wl_v (.bool true) rfl rfl (y_lss rfl s38 rfl rfl ⟨rfl, rfl⟩) ?_
  refine wl_nil fun F39 hF40 => ?_
  have s41 : F39 30 = undef := (hF40 30).trans s35
  have s42 : F39 4 = .pointer (some ⟨p1, 0, none⟩) := (hF40 4).trans s36
  have s43 : F39 5 = .pointer (some ⟨p14, 0, none⟩) := (hF40 5).trans s37
  have s44 : F39 12 = .int .i64 (0) := (hF40 12).trans s38
  have s45 : F39 13 = .bool true := (hF40 13).trans rfl
  clear hF40
  refine then_normal ?_
  refine wq_seq ?_
  refine wq_cond (t := true) s45 (fun _ => ?_) (fun e => by cases e)
  refine wq_skip ?_
  refine then_normal ?_
  refine wq_seq ?_
  refine wq_block ?_
  refine wq_seq ?_
  refine wq_region ?_
  refine wl_v (.int .i64 (0)) rfl rfl (y_mov rfl s44 ⟨rfl, rfl⟩) ?_
  refine wl_v (.int .i64 (0)) rfl rfl (y_asg rfl rfl ⟨rfl, rfl⟩) ?_
  refine wl_nil fun F46 hF47 => ?_
  have s48 : F46 30 = undef := (hF47 30).trans s41
  have s49 : F46 4 = .pointer (some ⟨p1, 0, none⟩) := (hF47 4).trans s42
  have s50 : F46 5 = .pointer (some ⟨p14, 0, none⟩) := (hF47 5).trans s43
  have s51 : F46 12 = .int .i64 (0) := (hF47 12).trans s44
  have s52 : F46 6 = .int .i64 (0) := (hF47 6).trans rfl
  clear hF47
  refine then_normal ?_
  refine wq_seq ?_
  refine wq_region ?_
  refine wl_v (.agg #[.int .i64 (w), .int .i64 (h), .slice none 0 0, .slice none 0 0, .slice none 0 0]) rfl rfl (y_load_stc stcT_frame rfl s50 B24 ⟨rfl, rfl⟩) ?_
  refine wl_v (.int .i64 (0)) rfl rfl (y_mov rfl s52 ⟨rfl, rfl⟩) ?_
  refine wl_call (R := fun v_ w_ => v_ = .tuple #[.int .i64 ((sidesF (FD.mk (w) (h) ([]) ([]) ([])) (0)).1), .int .i64 ((sidesF (FD.mk (w) (h) ([]) ([]) ([])) (0)).2)] ∧ Kept (fun _ => False) w23 w_) rfl rfl (y_cs rfl rfl rfl (fun _ _ => by kernel_rfl) (ev_func _) (vsC rfl (vsC rfl vsN)) (ps_sides (0) (FD.mk (w) (h) ([]) ([]) ([])) (.slice none 0 0) (.slice none 0 0) (.slice none 0 0) (noB) (noB) (noB) _ (by dsimp only; omega) (by dsimp only; omega) (Byt.nil _) (Byt.nil _) (Byt.nil _) ) (fun e_ w_ h_ => ⟨_, h_.1, rfl, h_.2⟩)) ?_
  rintro _ w53 ⟨rfl, k54⟩
  have B55 := B26.all k54 id
  have B56 := B24.all k54 id
  have K57 := K27.trans k54 (fun _ _ x => x.elim)
  refine wl_v (.tuple #[.int .i64 ((sidesF (FD.mk (w) (h) ([]) ([]) ([])) (0)).1), .int .i64 ((sidesF (FD.mk (w) (h) ([]) ([]) ([])) (0)).2)]) rfl rfl (y_mov rfl rfl ⟨rfl, rfl⟩) ?_
  refine wl_v (.int .i64 ((sidesF (FD.mk (w) (h) ([]) ([]) ([])) (0)).1)) rfl rfl (y_ext rfl rfl rfl ⟨rfl, rfl⟩) ?_
  refine wl_v (.int .i64 ((sidesF (FD.mk (w) (h) ([]) ([]) ([])) (0)).2)) rfl rfl (y_ext rfl rfl rfl ⟨rfl, rfl⟩) ?_
  refine wl_v (.int .i64 ((sidesF (FD.mk (w) (h) ([]) ([]) ([])) (0)).1)) rfl rfl (y_asg rfl rfl ⟨rfl, rfl⟩) ?_
  refine wl_v (.int .i64 ((sidesF (FD.mk (w) (h) ([]) ([]) ([])) (0)).2)) rfl rfl (y_asg rfl rfl ⟨rfl, rfl⟩) ?_
  refine wl_nil fun F58 hF59 => ?_
  have s60 : F58 30 = undef := (hF59 30).trans s48
  have s61 : F58 4 = .pointer (some ⟨p1, 0, none⟩) := (hF59 4).trans s49
  have s62 : F58 5 = .pointer (some ⟨p14, 0, none⟩) := (hF59 5).trans s50
  have s63 : F58 12 = .int .i64 (0) := (hF59 12).trans s51
  have s64 : F58 6 = .int .i64 (0) := (hF59 6).trans s52
  have s65 : F58 7 = .int .i64 ((sidesF (FD.mk (w) (h) ([]) ([]) ([])) (0)).1) := (hF59 7).trans rfl
  have s66 : F58 8 = .int .i64 ((sidesF (FD.mk (w) (h) ([]) ([]) ([])) (0)).2) := (hF59 8).trans rfl
  clear hF59
  refine then_normal ?_
  have hpq := pn2_le n0 n1 0
  refine wq_region ?_
  refine wl_v (.int .i64 (0)) rfl rfl (y_mov rfl s64 ⟨rfl, rfl⟩) ?_
  refine wl_v (.int .i64 ((sidesF (FD.mk (w) (h) ([]) ([]) ([])) (0)).1)) rfl rfl (y_mov rfl s65 ⟨rfl, rfl⟩) ?_
  refine wl_v (.int .i64 ((sidesF (FD.mk (w) (h) ([]) ([]) ([])) (0)).2)) rfl rfl (y_mov rfl s66 ⟨rfl, rfl⟩) ?_
  refine wl_v (.int .i64 ((((pn2 n0 n1 0) : Nat) : Int))) rfl rfl (y_mul rfl rfl rfl (by first | exact (i64_i rfl (by show _ ≤ w * h ∧ w * h ≤ _; omega)).trans (hn0.symm) | exact (i64_i rfl (by show _ ≤ Int.tdiv w 2 * Int.tdiv h 2 ∧ Int.tdiv w 2 * Int.tdiv h 2 ≤ _; omega)).trans hn1.symm) ⟨rfl, rfl⟩) ?_
  refine wl_makeB (n := (pn2 n0 n1 0)) rfl rfl rfl rfl rfl (by omega) (by omega) (by omega) fun v67 w68 T72 B70 g71 k69 => ?_
  have gr73 : Grew w0 noB (T72) := Grew.new K57 g71
  have ap74 : Apart (T72) (onB p1) := Apart.new g71 (onB_live (B55).lt)
  have ap75 : Apart (T72) (onB p14) := Apart.new g71 (onB_live (B56).lt)
  have B76 := B55.all k69 id
  have B77 := B56.all k69 id
  have K78 := K57.trans k69 (fun _ _ x => x.elim)
  refine wl_v (.pointer (some ⟨p14, 2, none⟩)) rfl rfl (y_fieldR (n := 3) rfl s62 Try.underlying25 rfl (by kernel_rfl) (by decide) rfl ⟨rfl, rfl⟩) ?_
  refine wl_v (.pointer (some ⟨p14, 2, none⟩)) rfl rfl (y_atR (0) (s := 1) rfl rfl rfl (by omega) Try.underlying23 (by omega) (by kernel_rfl) (by omega) ⟨rfl, rfl⟩) ?_
  refine wl_set_stc rfl rfl rfl rfl rfl B77 rfl (B70).oneC (by kernel_rfl) fun w79 B80 k81 => ?_
  replace B80 : Stc w79 p14 25 [.int .i64 (w), .int .i64 (h), v67, .slice none 0 0, .slice none 0 0] := B80
  have B82 := B76.all k81 (fun x => (((ap20).symm) p1 rfl x))
  have B83 := B70.all k81 (fun i h x => ((ap75) i h x))
  have K84 := K78.trans k81 (Grew.ok (S := fun _ => False) gr19 noB_le)
  refine wl_nil fun F85 hF86 => ?_
  have s87 : F85 30 = undef := (hF86 30).trans s60
  have s88 : F85 4 = .pointer (some ⟨p1, 0, none⟩) := (hF86 4).trans s61
  have s89 : F85 5 = .pointer (some ⟨p14, 0, none⟩) := (hF86 5).trans s62
  have s90 : F85 12 = .int .i64 (0) := (hF86 12).trans s63
  clear hF86
  refine in_normal ?_
  refine then_normal ?_
  refine wq_region ?_
  refine wl_v (.int .i64 (((1 : Nat) : Int))) rfl rfl (y_add rfl s90 rfl (i64_n (by omega) (by omega)) ⟨rfl, rfl⟩) ?_
  refine wl_v (.int .i64 (((1 : Nat) : Int))) rfl rfl (y_mov rfl rfl ⟨rfl, rfl⟩) ?_
  refine wl_nil fun F91 hF92 => ?_
  have s93 : F91 30 = undef := (hF92 30).trans s87
  have s94 : F91 4 = .pointer (some ⟨p1, 0, none⟩) := (hF92 4).trans s88
  have s95 : F91 5 = .pointer (some ⟨p14, 0, none⟩) := (hF92 5).trans s89
  have s96 : F91 12 = .int .i64 (((1 : Nat) : Int)) := (hF92 12).trans rfl
  clear hF92
  refine then_normal ?_
  refine wqr_step ?_
  refine wq_seq ?_
  refine wq_region ?_
  refine wl_v (.bool true) rfl rfl (y_lss rfl s96 rfl rfl ⟨rfl, rfl⟩) ?_
  refine wl_nil fun F97 hF98 => ?_
  have s99 : F97 30 = undef := (hF98 30).trans s93
  have s100 : F97 4 = .pointer (some ⟨p1, 0, none⟩) := (hF98 4).trans s94
  have s101 : F97 5 = .pointer (some ⟨p14, 0, none⟩) := (hF98 5).trans s95
  have s102 : F97 12 = .int .i64 (((1 : Nat) : Int)) := (hF98 12).trans s96
  have s103 : F97 13 = .bool true := (hF98 13).trans rfl
  clear hF98
  refine then_normal ?_
  refine wq_seq ?_
  refine wq_cond (t := true) s103 (fun _ => ?_) (fun e => by cases e)
  refine wq_skip ?_
  refine then_normal ?_
  refine wq_seq ?_
  refine wq_block ?_
  refine wq_seq ?_
  refine wq_region ?_
  refine wl_v (.int .i64 (((1 : Nat) : Int))) rfl rfl (y_mov rfl s102 ⟨rfl, rfl⟩) ?_
  refine wl_v (.int .i64 (((1 : Nat) : Int))) rfl rfl (y_asg rfl rfl ⟨rfl, rfl⟩) ?_
  refine wl_nil fun F104 hF105 => ?_
  have s106 : F104 30 = undef := (hF105 30).trans s99
  have s107 : F104 4 = .pointer (some ⟨p1, 0, none⟩) := (hF105 4).trans s100
  have s108 : F104 5 = .pointer (some ⟨p14, 0, none⟩) := (hF105 5).trans s101
  have s109 : F104 12 = .int .i64 (((1 : Nat) : Int)) := (hF105 12).trans s102
  have s110 : F104 6 = .int .i64 (((1 : Nat) : Int)) := (hF105 6).trans rfl
  clear hF105
  refine then_normal ?_
  refine wq_seq ?_
  refine wq_region ?_
  refine wl_v (.agg #[.int .i64 (w), .int .i64 (h), v67, .slice none 0 0, .slice none 0 0]) rfl rfl (y_load_stc stcT_frame rfl s108 B80 ⟨rfl, rfl⟩) ?_
  refine wl_v (.int .i64 (((1 : Nat) : Int))) rfl rfl (y_mov rfl s110 ⟨rfl, rfl⟩) ?_
  refine wl_call (R := fun v_ w_ => v_ = .tuple #[.int .i64 ((sidesF (FD.mk (w) (h) (List.replicate ((pn2 n0 n1 0)) 0) ([]) ([])) (((1 : Nat) : Int))).1), .int .i64 ((sidesF (FD.mk (w) (h) (List.replicate ((pn2 n0 n1 0)) 0) ([]) ([])) (((1 : Nat) : Int))).2)] ∧ Kept (fun _ => False) w79 w_) rfl rfl (y_cs rfl rfl rfl (fun _ _ => by kernel_rfl) (ev_func _) (vsC rfl (vsC rfl vsN)) (ps_sides (((1 : Nat) : Int)) (FD.mk (w) (h) (List.replicate ((pn2 n0 n1 0)) 0) ([]) ([])) (v67) (.slice none 0 0) (.slice none 0 0) (T72) (noB) (noB) _ (by dsimp only; omega) (by dsimp only; omega) (B83).byt (Byt.nil _) (Byt.nil _) ) (fun e_ w_ h_ => ⟨_, h_.1, rfl, h_.2⟩)) ?_
  rintro _ w111 ⟨rfl, k112⟩
  have B113 := B82.all k112 id
  have B114 := B80.all k112 id
  have B115 := B83.all k112 Apart.none
  have K116 := K84.trans k112 (fun _ _ x => x.elim)
  refine wl_v (.tuple #[.int .i64 ((sidesF (FD.mk (w) (h) (List.replicate ((pn2 n0 n1 0)) 0) ([]) ([])) (((1 : Nat) : Int))).1), .int .i64 ((sidesF (FD.mk (w) (h) (List.replicate ((pn2 n0 n1 0)) 0) ([]) ([])) (((1 : Nat) : Int))).2)]) rfl rfl (y_mov rfl rfl ⟨rfl, rfl⟩) ?_
  refine wl_v (.int .i64 ((sidesF (FD.mk (w) (h) (List.replicate ((pn2 n0 n1 0)) 0) ([]) ([])) (((1 : Nat) : Int))).1)) rfl rfl (y_ext rfl rfl rfl ⟨rfl, rfl⟩) ?_
  refine wl_v (.int .i64 ((sidesF (FD.mk (w) (h) (List.replicate ((pn2 n0 n1 0)) 0) ([]) ([])) (((1 : Nat) : Int))).2)) rfl rfl (y_ext rfl rfl rfl ⟨rfl, rfl⟩) ?_
  refine wl_v (.int .i64 ((sidesF (FD.mk (w) (h) (List.replicate ((pn2 n0 n1 0)) 0) ([]) ([])) (((1 : Nat) : Int))).1)) rfl rfl (y_asg rfl rfl ⟨rfl, rfl⟩) ?_
  refine wl_v (.int .i64 ((sidesF (FD.mk (w) (h) (List.replicate ((pn2 n0 n1 0)) 0) ([]) ([])) (((1 : Nat) : Int))).2)) rfl rfl (y_asg rfl rfl ⟨rfl, rfl⟩) ?_
  refine wl_nil fun F117 hF118 => ?_
  have s119 : F117 30 = undef := (hF118 30).trans s106
  have s120 : F117 4 = .pointer (some ⟨p1, 0, none⟩) := (hF118 4).trans s107
  have s121 : F117 5 = .pointer (some ⟨p14, 0, none⟩) := (hF118 5).trans s108
  have s122 : F117 12 = .int .i64 (((1 : Nat) : Int)) := (hF118 12).trans s109
  have s123 : F117 6 = .int .i64 (((1 : Nat) : Int)) := (hF118 6).trans s110
  have s124 : F117 7 = .int .i64 ((sidesF (FD.mk (w) (h) (List.replicate ((pn2 n0 n1 0)) 0) ([]) ([])) (((1 : Nat) : Int))).1) := (hF118 7).trans rfl
  have s125 : F117 8 = .int .i64 ((sidesF (FD.mk (w) (h) (List.replicate ((pn2 n0 n1 0)) 0) ([]) ([])) (((1 : Nat) : Int))).2) := (hF118 8).trans rfl
  clear hF118
  refine then_normal ?_
  have hpq := pn2_le n0 n1 1
  refine wq_region ?_
  refine wl_v (.int .i64 (((1 : Nat) : Int))) rfl rfl (y_mov rfl s123 ⟨rfl, rfl⟩) ?_
  refine wl_v (.int .i64 ((sidesF (FD.mk (w) (h) (List.replicate ((pn2 n0 n1 0)) 0) ([]) ([])) (((1 : Nat) : Int))).1)) rfl rfl (y_mov rfl s124 ⟨rfl, rfl⟩) ?_
  refine wl_v (.int .i64 ((sidesF (FD.mk (w) (h) (List.replicate ((pn2 n0 n1 0)) 0) ([]) ([])) (((1 : Nat) : Int))).2)) rfl rfl (y_mov rfl s125 ⟨rfl, rfl⟩) ?_
  refine wl_v (.int .i64 ((((pn2 n0 n1 1) : Nat) : Int))) rfl rfl (y_mul rfl rfl rfl (by first | exact (i64_i rfl (by show _ ≤ w * h ∧ w * h ≤ _; omega)).trans (hn0.symm) | exact (i64_i rfl (by show _ ≤ Int.tdiv w 2 * Int.tdiv h 2 ∧ Int.tdiv w 2 * Int.tdiv h 2 ≤ _; omega)).trans hn1.symm) ⟨rfl, rfl⟩) ?_
  refine wl_makeB (n := (pn2 n0 n1 1)) rfl rfl rfl rfl rfl (by omega) (by omega) (by omega) fun v126 w127 T131 B129 g130 k128 => ?_
  have gr132 : Grew w0 noB (T131) := Grew.new K116 g130
  have ap133 : Apart (T131) (onB p1) := Apart.new g130 (onB_live (B113).lt)
  have ap134 : Apart (T131) (onB p14) := Apart.new g130 (onB_live (B114).lt)
  have ap135 : Apart (T131) (T72) := Apart.new g130 (B115).live
  have B136 := B113.all k128 id
  have B137 := B114.all k128 id
  have B138 := B115.all k128 Apart.none
  have K139 := K116.trans k128 (fun _ _ x => x.elim)
  refine wl_v (.pointer (some ⟨p14, 2, none⟩)) rfl rfl (y_fieldR (n := 3) rfl s121 Try.underlying25 rfl (by kernel_rfl) (by decide) rfl ⟨rfl, rfl⟩) ?_
  refine wl_v (.pointer (some ⟨p14, 3, none⟩)) rfl rfl (y_atR (1) (s := 1) rfl rfl rfl (by omega) Try.underlying23 (by omega) (by kernel_rfl) (by omega) ⟨rfl, rfl⟩) ?_
  refine wl_set_stc rfl rfl rfl rfl rfl B137 rfl (B129).oneC (by kernel_rfl) fun w140 B141 k142 => ?_
  replace B141 : Stc w140 p14 25 [.int .i64 (w), .int .i64 (h), v67, v126, .slice none 0 0] := B141
  have B143 := B136.all k142 (fun x => (((ap20).symm) p1 rfl x))
  have B144 := B138.all k142 (fun i h x => ((ap75) i h x))
  have B145 := B129.all k142 (fun i h x => ((ap134) i h x))
  have K146 := K139.trans k142 (Grew.ok (S := fun _ => False) gr19 noB_le)
  refine wl_nil fun F147 hF148 => ?_
  have s149 : F147 30 = undef := (hF148 30).trans s119
  have s150 : F147 4 = .pointer (some ⟨p1, 0, none⟩) := (hF148 4).trans s120
  have s151 : F147 5 = .pointer (some ⟨p14, 0, none⟩) := (hF148 5).trans s121
  have s152 : F147 12 = .int .i64 (((1 : Nat) : Int)) := (hF148 12).trans s122
  clear hF148
  refine in_normal ?_
  refine then_normal ?_
  refine wq_region ?_
  refine wl_v (.int .i64 (((2 : Nat) : Int))) rfl rfl (y_add rfl s152 rfl (i64_n (by omega) (by omega)) ⟨rfl, rfl⟩) ?_
  refine wl_v (.int .i64 (((2 : Nat) : Int))) rfl rfl (y_mov rfl rfl ⟨rfl, rfl⟩) ?_
  refine wl_nil fun F153 hF154 => ?_
  have s155 : F153 30 = undef := (hF154 30).trans s149
  have s156 : F153 4 = .pointer (some ⟨p1, 0, none⟩) := (hF154 4).trans s150
  have s157 : F153 5 = .pointer (some ⟨p14, 0, none⟩) := (hF154 5).trans s151
  have s158 : F153 12 = .int .i64 (((2 : Nat) : Int)) := (hF154 12).trans rfl
  clear hF154
  refine then_normal ?_
  refine wqr_step ?_
  refine wq_seq ?_
  refine wq_region ?_
  refine wl_v (.bool true) rfl rfl (y_lss rfl s158 rfl rfl ⟨rfl, rfl⟩) ?_
  refine wl_nil fun F159 hF160 => ?_
  have s161 : F159 30 = undef := (hF160 30).trans s155
  have s162 : F159 4 = .pointer (some ⟨p1, 0, none⟩) := (hF160 4).trans s156
  have s163 : F159 5 = .pointer (some ⟨p14, 0, none⟩) := (hF160 5).trans s157
  have s164 : F159 12 = .int .i64 (((2 : Nat) : Int)) := (hF160 12).trans s158
  have s165 : F159 13 = .bool true := (hF160 13).trans rfl
  clear hF160
  refine then_normal ?_
  refine wq_seq ?_
  refine wq_cond (t := true) s165 (fun _ => ?_) (fun e => by cases e)
  refine wq_skip ?_
  refine then_normal ?_
  refine wq_seq ?_
  refine wq_block ?_
  refine wq_seq ?_
  refine wq_region ?_
  refine wl_v (.int .i64 (((2 : Nat) : Int))) rfl rfl (y_mov rfl s164 ⟨rfl, rfl⟩) ?_
  refine wl_v (.int .i64 (((2 : Nat) : Int))) rfl rfl (y_asg rfl rfl ⟨rfl, rfl⟩) ?_
  refine wl_nil fun F166 hF167 => ?_
  have s168 : F166 30 = undef := (hF167 30).trans s161
  have s169 : F166 4 = .pointer (some ⟨p1, 0, none⟩) := (hF167 4).trans s162
  have s170 : F166 5 = .pointer (some ⟨p14, 0, none⟩) := (hF167 5).trans s163
  have s171 : F166 12 = .int .i64 (((2 : Nat) : Int)) := (hF167 12).trans s164
  have s172 : F166 6 = .int .i64 (((2 : Nat) : Int)) := (hF167 6).trans rfl
  clear hF167
  refine then_normal ?_
  refine wq_seq ?_
  refine wq_region ?_
  refine wl_v (.agg #[.int .i64 (w), .int .i64 (h), v67, v126, .slice none 0 0]) rfl rfl (y_load_stc stcT_frame rfl s170 B141 ⟨rfl, rfl⟩) ?_
  refine wl_v (.int .i64 (((2 : Nat) : Int))) rfl rfl (y_mov rfl s172 ⟨rfl, rfl⟩) ?_
  refine wl_call (R := fun v_ w_ => v_ = .tuple #[.int .i64 ((sidesF (FD.mk (w) (h) (List.replicate ((pn2 n0 n1 0)) 0) (List.replicate ((pn2 n0 n1 1)) 0) ([])) (((2 : Nat) : Int))).1), .int .i64 ((sidesF (FD.mk (w) (h) (List.replicate ((pn2 n0 n1 0)) 0) (List.replicate ((pn2 n0 n1 1)) 0) ([])) (((2 : Nat) : Int))).2)] ∧ Kept (fun _ => False) w140 w_) rfl rfl (y_cs rfl rfl rfl (fun _ _ => by kernel_rfl) (ev_func _) (vsC rfl (vsC rfl vsN)) (ps_sides (((2 : Nat) : Int)) (FD.mk (w) (h) (List.replicate ((pn2 n0 n1 0)) 0) (List.replicate ((pn2 n0 n1 1)) 0) ([])) (v67) (v126) (.slice none 0 0) (T72) (T131) (noB) _ (by dsimp only; omega) (by dsimp only; omega) (B144).byt (B145).byt (Byt.nil _) ) (fun e_ w_ h_ => ⟨_, h_.1, rfl, h_.2⟩)) ?_
  rintro _ w173 ⟨rfl, k174⟩
  have B175 := B143.all k174 id
  have B176 := B141.all k174 id
  have B177 := B144.all k174 Apart.none
  have B178 := B145.all k174 Apart.none
  have K179 := K146.trans k174 (fun _ _ x => x.elim)
  refine wl_v (.tuple #[.int .i64 ((sidesF (FD.mk (w) (h) (List.replicate ((pn2 n0 n1 0)) 0) (List.replicate ((pn2 n0 n1 1)) 0) ([])) (((2 : Nat) : Int))).1), .int .i64 ((sidesF (FD.mk (w) (h) (List.replicate ((pn2 n0 n1 0)) 0) (List.replicate ((pn2 n0 n1 1)) 0) ([])) (((2 : Nat) : Int))).2)]) rfl rfl (y_mov rfl rfl ⟨rfl, rfl⟩) ?_
  refine wl_v (.int .i64 ((sidesF (FD.mk (w) (h) (List.replicate ((pn2 n0 n1 0)) 0) (List.replicate ((pn2 n0 n1 1)) 0) ([])) (((2 : Nat) : Int))).1)) rfl rfl (y_ext rfl rfl rfl ⟨rfl, rfl⟩) ?_
  refine wl_v (.int .i64 ((sidesF (FD.mk (w) (h) (List.replicate ((pn2 n0 n1 0)) 0) (List.replicate ((pn2 n0 n1 1)) 0) ([])) (((2 : Nat) : Int))).2)) rfl rfl (y_ext rfl rfl rfl ⟨rfl, rfl⟩) ?_
  refine wl_v (.int .i64 ((sidesF (FD.mk (w) (h) (List.replicate ((pn2 n0 n1 0)) 0) (List.replicate ((pn2 n0 n1 1)) 0) ([])) (((2 : Nat) : Int))).1)) rfl rfl (y_asg rfl rfl ⟨rfl, rfl⟩) ?_
  refine wl_v (.int .i64 ((sidesF (FD.mk (w) (h) (List.replicate ((pn2 n0 n1 0)) 0) (List.replicate ((pn2 n0 n1 1)) 0) ([])) (((2 : Nat) : Int))).2)) rfl rfl (y_asg rfl rfl ⟨rfl, rfl⟩) ?_
  refine wl_nil fun F180 hF181 => ?_
  have s182 : F180 30 = undef := (hF181 30).trans s168
  have s183 : F180 4 = .pointer (some ⟨p1, 0, none⟩) := (hF181 4).trans s169
  have s184 : F180 5 = .pointer (some ⟨p14, 0, none⟩) := (hF181 5).trans s170
  have s185 : F180 12 = .int .i64 (((2 : Nat) : Int)) := (hF181 12).trans s171
  have s186 : F180 6 = .int .i64 (((2 : Nat) : Int)) := (hF181 6).trans s172
  have s187 : F180 7 = .int .i64 ((sidesF (FD.mk (w) (h) (List.replicate ((pn2 n0 n1 0)) 0) (List.replicate ((pn2 n0 n1 1)) 0) ([])) (((2 : Nat) : Int))).1) := (hF181 7).trans rfl
  have s188 : F180 8 = .int .i64 ((sidesF (FD.mk (w) (h) (List.replicate ((pn2 n0 n1 0)) 0) (List.replicate ((pn2 n0 n1 1)) 0) ([])) (((2 : Nat) : Int))).2) := (hF181 8).trans rfl
  clear hF181
  refine then_normal ?_
  have hpq := pn2_le n0 n1 2
  refine wq_region ?_
  refine wl_v (.int .i64 (((2 : Nat) : Int))) rfl rfl (y_mov rfl s186 ⟨rfl, rfl⟩) ?_
  refine wl_v (.int .i64 ((sidesF (FD.mk (w) (h) (List.replicate ((pn2 n0 n1 0)) 0) (List.replicate ((pn2 n0 n1 1)) 0) ([])) (((2 : Nat) : Int))).1)) rfl rfl (y_mov rfl s187 ⟨rfl, rfl⟩) ?_
  refine wl_v (.int .i64 ((sidesF (FD.mk (w) (h) (List.replicate ((pn2 n0 n1 0)) 0) (List.replicate ((pn2 n0 n1 1)) 0) ([])) (((2 : Nat) : Int))).2)) rfl rfl (y_mov rfl s188 ⟨rfl, rfl⟩) ?_
  refine wl_v (.int .i64 ((((pn2 n0 n1 2) : Nat) : Int))) rfl rfl (y_mul rfl rfl rfl (by first | exact (i64_i rfl (by show _ ≤ w * h ∧ w * h ≤ _; omega)).trans (hn0.symm) | exact (i64_i rfl (by show _ ≤ Int.tdiv w 2 * Int.tdiv h 2 ∧ Int.tdiv w 2 * Int.tdiv h 2 ≤ _; omega)).trans hn1.symm) ⟨rfl, rfl⟩) ?_
  refine wl_makeB (n := (pn2 n0 n1 2)) rfl rfl rfl rfl rfl (by omega) (by omega) (by omega) fun v189 w190 T194 B192 g193 k191 => ?_
  have gr195 : Grew w0 noB (T194) := Grew.new K179 g193
  have ap196 : Apart (T194) (onB p1) := Apart.new g193 (onB_live (B175).lt)
  have ap197 : Apart (T194) (onB p14) := Apart.new g193 (onB_live (B176).lt)
  have ap198 : Apart (T194) (T72) := Apart.new g193 (B177).live
  have ap199 : Apart (T194) (T131) := Apart.new g193 (B178).live
  have B200 := B175.all k191 id
  have B201 := B176.all k191 id
  have B202 := B177.all k191 Apart.none
  have B203 := B178.all k191 Apart.none
  have K204 := K179.trans k191 (fun _ _ x => x.elim)
  refine wl_v (.pointer (some ⟨p14, 2, none⟩)) rfl rfl (y_fieldR (n := 3) rfl s184 Try.underlying25 rfl (by kernel_rfl) (by decide) rfl ⟨rfl, rfl⟩) ?_
  refine wl_v (.pointer (some ⟨p14, 4, none⟩)) rfl rfl (y_atR (2) (s := 1) rfl rfl rfl (by omega) Try.underlying23 (by omega) (by kernel_rfl) (by omega) ⟨rfl, rfl⟩) ?_
  refine wl_set_stc rfl rfl rfl rfl rfl B201 rfl (B192).oneC (by kernel_rfl) fun w205 B206 k207 => ?_
  replace B206 : Stc w205 p14 25 [.int .i64 (w), .int .i64 (h), v67, v126, v189] := B206
  have B208 := B200.all k207 (fun x => (((ap20).symm) p1 rfl x))
  have B209 := B202.all k207 (fun i h x => ((ap75) i h x))
  have B210 := B203.all k207 (fun i h x => ((ap134) i h x))
  have B211 := B192.all k207 (fun i h x => ((ap197) i h x))
  have K212 := K204.trans k207 (Grew.ok (S := fun _ => False) gr19 noB_le)
  refine wl_nil fun F213 hF214 => ?_
  have s215 : F213 30 = undef := (hF214 30).trans s182
  have s216 : F213 4 = .pointer (some ⟨p1, 0, none⟩) := (hF214 4).trans s183
  have s217 : F213 5 = .pointer (some ⟨p14, 0, none⟩) := (hF214 5).trans s184
  have s218 : F213 12 = .int .i64 (((2 : Nat) : Int)) := (hF214 12).trans s185
  clear hF214
  refine in_normal ?_
  refine then_normal ?_
  refine wq_region ?_
  refine wl_v (.int .i64 (((3 : Nat) : Int))) rfl rfl (y_add rfl s218 rfl (i64_n (by omega) (by omega)) ⟨rfl, rfl⟩) ?_
  refine wl_v (.int .i64 (((3 : Nat) : Int))) rfl rfl (y_mov rfl rfl ⟨rfl, rfl⟩) ?_
  refine wl_nil fun F219 hF220 => ?_
  have s221 : F219 30 = undef := (hF220 30).trans s215
  have s222 : F219 4 = .pointer (some ⟨p1, 0, none⟩) := (hF220 4).trans s216
  have s223 : F219 5 = .pointer (some ⟨p14, 0, none⟩) := (hF220 5).trans s217
  have s224 : F219 12 = .int .i64 (((3 : Nat) : Int)) := (hF220 12).trans rfl
  clear hF220
  refine then_normal ?_
  refine wqr_step ?_
  refine wq_seq ?_
  refine wq_region ?_
  refine wl_v (.bool false) rfl rfl (y_lss rfl s224 rfl rfl ⟨rfl, rfl⟩) ?_
  refine wl_nil fun F225 hF226 => ?_
  have s227 : F225 30 = undef := (hF226 30).trans s221
  have s228 : F225 4 = .pointer (some ⟨p1, 0, none⟩) := (hF226 4).trans s222
  have s229 : F225 5 = .pointer (some ⟨p14, 0, none⟩) := (hF226 5).trans s223
  have s230 : F225 12 = .int .i64 (((3 : Nat) : Int)) := (hF226 12).trans s224
  have s231 : F225 13 = .bool false := (hF226 13).trans rfl
  clear hF226
  refine then_normal ?_
  refine wq_seq ?_
  refine wq_cond (t := false) s231 (fun e => by cases e) (fun _ => ?_)
  refine wq_exit ?_
  refine then_exit ?_
  refine then_exit ?_
  refine in_here ?_
  refine then_normal ?_
  refine wq_seq ?_
  refine wq_region ?_
  refine wl_v (.agg #[.int .i64 (w), .int .i64 (h), v67, v126, v189]) rfl rfl (y_load_stc stcT_frame rfl s229 B206 ⟨rfl, rfl⟩) ?_
  refine wl_store_stc (us := [.int .i64 (w), .int .i64 (h), v67, v126, v189]) stcT_frame rfl rfl rfl s228 rfl B208 rfl (oneI rfl (oneI rfl (oneI (B209).one (oneI (B210).one (oneI (B211).one oneN))))) fun w232 B233 k234 => ?_
  have B235 := B206.all k234 (fun x => ((ap20) p14 rfl x))
  have B236 := B209.all k234 (fun i h x => ((ap74) i h x))
  have B237 := B210.all k234 (fun i h x => ((ap133) i h x))
  have B238 := B211.all k234 (fun i h x => ((ap196) i h x))
  have K239 := K212.trans k234 (Grew.ok (S := fun _ => False) gr6 noB_le)
  refine wl_nil fun F240 hF241 => ?_
  have s242 : F240 30 = undef := (hF241 30).trans s227
  have s243 : F240 4 = .pointer (some ⟨p1, 0, none⟩) := (hF241 4).trans s228
  clear hF241
  refine then_normal ?_
  refine wq_ret ?_
  exact end_stc (vs := [.int .i64 (w), .int .i64 (h), v67, v126, v189]) stcT_frame s242 rfl rfl s243 B233 ⟨v67, T72, v126, T131, v189, T194, (by rw [hF]), K239, ⟨(by rw [hF]; exact B236), gr73⟩, ⟨(by rw [hF]; exact B237), gr132⟩, ⟨(by rw [hF]; exact B238), gr195⟩, (ap135).symm, (ap198).symm, (ap199).symm⟩

end Go.Proofs.Ytdggilbgjijfmaa
namespace Go.Proofs.Ytdggilbgjijfmaa

theorem atF_le {f : FD} (hb : Bytes3 f) (p x y : Int) : 0 ≤ atF f p x y ∧ atF f p x y ≤ 255 := by
  by_cases h : (sizeF f p).1 = 0
  · rw [atF_none x y h]; omega
  · rw [atF_some x y h]
    have h3 := size_cases h
    have : (f.pl p).getD (cellF f p x y).toNat 0 < 256 := by
      rcases h3 with rfl | rfl | rfl
      · exact getD_lt hb.b0 _
      · exact getD_lt hb.b1 _
      · exact getD_lt hb.b2 _
    omega
def aboveF (f : FD) (p x y k : Int) : Int := if y ≤ 0 then 128 else atF f p (x + k) (y - 1)
def leftF (f : FD) (p x y i : Int) : Int := if x ≤ 0 then 128 else atF f p (x - 1) (y + i)
theorem above_none {f : FD} {p x y k : Int} (h : y ≤ 0) : aboveF f p x y k = 128 := if_pos h
theorem above_some {f : FD} {p x y k : Int} (h : ¬ y ≤ 0) : aboveF f p x y k = atF f p (x + k) (y - 1) := if_neg h
theorem left_none {f : FD} {p x y k : Int} (h : x ≤ 0) : leftF f p x y k = 128 := if_pos h
theorem left_some {f : FD} {p x y k : Int} (h : ¬ x ≤ 0) : leftF f p x y k = atF f p (x - 1) (y + k) := if_neg h
theorem above_le {f : FD} (hb : Bytes3 f) (p x y k : Int) : 0 ≤ aboveF f p x y k ∧ aboveF f p x y k ≤ 255 := by
  unfold aboveF; split
  · omega
  · exact atF_le hb _ _ _
theorem left_le {f : FD} (hb : Bytes3 f) (p x y k : Int) : 0 ≤ leftF f p x y k ∧ leftF f p x y k ≤ 255 := by
  unfold leftF; split
  · omega
  · exact atF_le hb _ _ _
def sumTo (f : FD) (p x y : Int) : Nat → Int
  | 0 => 4
  | k + 1 => sumTo f p x y k + aboveF f p x y (k : Nat) + leftF f p x y (k : Nat)
theorem sumTo_le {f : FD} (hb : Bytes3 f) (p x y : Int) (k : Nat) : 4 ≤ sumTo f p x y k ∧ sumTo f p x y k ≤ 4 + 510 * k := by
  induction k with
  | zero => simp [sumTo]
  | succ k ih =>
    have h1 := above_le hb p x y (k : Nat)
    have h2 := left_le hb p x y (k : Nat)
    rw [sumTo]; omega
/-- The numbers of a prediction. -/
def predN (f : FD) (p x y mode : Int) (n : Nat) : Int :=
  if mode = 0 then Int.tdiv (sumTo f p x y 4) 8 else if mode = 1 then aboveF f p x y ((n % 4 : Nat) : Int) else if mode = 2 then leftF f p x y ((n / 4 : Nat) : Int)
  else Int.tdiv (aboveF f p x y ((n % 4 : Nat) : Int) + leftF f p x y ((n / 4 : Nat) : Int) + 1) 2
theorem tdiv8 {n : Int} (h : 0 ≤ n) : Int.tdiv n 8 = n / 8 := Int.tdiv_eq_ediv_of_nonneg h
def placeF (f : FD) (p x y : Int) : Prop := okF f ∧ 0 ≤ p ∧ p ≤ 2 ∧ 0 ≤ x ∧ x ≤ 64 ∧ 0 ≤ y ∧ y ≤ 64
instance (f : FD) (p x y : Int) : Decidable (placeF f p x y) := by unfold placeF; infer_instance
def predE (f : FD) (p x y mode : Int) : Int := if placeF f p x y then (if 0 ≤ mode ∧ mode ≤ 3 then 0 else 80) else 70
def predB (f : FD) (p x y mode : Int) : Nat → Int := if placeF f p x y ∧ 0 ≤ mode ∧ mode ≤ 3 then predN f p x y mode else fun _ => 0
theorem pred_no {f : FD} {p x y mode : Int} (h : ¬ placeF f p x y) : predE f p x y mode = 70 ∧ predB f p x y mode = fun _ => 0 := ⟨if_neg h, if_neg (fun x => h x.1)⟩
theorem pred_none {f : FD} {p x y mode : Int} (h : placeF f p x y) (hm : ¬ (0 ≤ mode ∧ mode ≤ 3)) : predE f p x y mode = 80 ∧ predB f p x y mode = fun _ => 0 := by
  refine ⟨?_, if_neg (fun x => hm x.2)⟩
  unfold predE; rw [if_pos h, if_neg hm]
theorem pred_yes {f : FD} {p x y mode : Int} (h : placeF f p x y) (hm : 0 ≤ mode ∧ mode ≤ 3) : predE f p x y mode = 0 ∧ predB f p x y mode = predN f p x y mode := by
  refine ⟨?_, if_pos ⟨h, hm⟩⟩
  unfold predE; rw [if_pos h, if_pos hm]
theorem predE_iff {f : FD} {p x y mode : Int} (hm : 0 ≤ mode ∧ mode ≤ 3) : predE f p x y mode = 0 ↔ placeF f p x y := by
  unfold predE; rw [if_pos hm]; split <;> simp_all

def costTo (a b : Nat → Int) : Nat → Int
  | 0 => 0
  | k + 1 => costTo a b k + max (cl 1048576 (a k) - cl 1048576 (b k)) (-(cl 1048576 (a k) - cl 1048576 (b k)))
def costF (a b : Nat → Int) : Int := costTo a b 16
theorem cl_20 (n : Int) : -1048576 ≤ cl 1048576 n ∧ cl 1048576 n ≤ 1048576 := by unfold cl; omega
theorem costTo_le (a b : Nat → Int) (k : Nat) : 0 ≤ costTo a b k ∧ costTo a b k ≤ 2097152 * k := by
  induction k with
  | zero => simp [costTo]
  | succ k ih =>
    have h1 := cl_20 (a k); have h2 := cl_20 (b k)
    rw [costTo]; omega
def bestTo (f : FD) (p x y : Int) (b : Nat → Int) : Nat → Int × Int
  | 0 => (-1, -1)
  | k + 1 => if (bestTo f p x y b k).1 < 0 ∨ costF (predB f p x y (k : Nat)) b < (bestTo f p x y b k).2 then (((k : Nat) : Int), costF (predB f p x y ((k : Nat) : Int)) b) else bestTo f p x y b k
def bestF (f : FD) (p x y : Int) (b : Nat → Int) : Int × Int := if placeF f p x y then bestTo f p x y b 4 else (-1, -1)
theorem best_no {f : FD} {p x y : Int} {b : Nat → Int} (h : ¬ placeF f p x y) : bestF f p x y b = (-1, -1) := if_neg h
theorem best_yes {f : FD} {p x y : Int} {b : Nat → Int} (h : placeF f p x y) : bestF f p x y b = bestTo f p x y b 4 := if_pos h
theorem best_take {f : FD} {p x y : Int} {b : Nat → Int} {k : Nat} (h : (bestTo f p x y b k).1 < 0 ∨ costF (predB f p x y (k : Nat)) b < (bestTo f p x y b k).2) : bestTo f p x y b (k + 1) = (((k : Nat) : Int), costF (predB f p x y ((k : Nat) : Int)) b) := by rw [bestTo, if_pos h]
theorem best_keep {f : FD} {p x y : Int} {b : Nat → Int} {k : Nat} (h : ¬ ((bestTo f p x y b k).1 < 0 ∨ costF (predB f p x y (k : Nat)) b < (bestTo f p x y b k).2)) : bestTo f p x y b (k + 1) = bestTo f p x y b k := by rw [bestTo, if_neg h]
end Go.Proofs.Ytdggilbgjijfmaa
namespace Go.Proofs.Ytdggilbgjijfmaa

theorem awake8 : predE (newF 8 8 7) 0 4 4 0 = 0 ∧ predB (newF 8 8 7) 0 4 4 0 9 = 7 ∧ predB (newF 8 8 7) 0 0 0 0 3 = 128 ∧ predB (newF 8 8 7) 0 0 4 1 0 = 7 ∧ predE (newF 8 8 7) 0 0 0 4 = 80 ∧ predE (FD.mk 0 0 [] [] []) 0 0 0 0 = 70 ∧
    (bestF (newF 8 8 7) 0 4 4 (predB (newF 8 8 7) 0 4 4 0)).1 = 0 ∧ (bestF (newF 8 8 7) 0 4 4 (predB (newF 8 8 7) 0 4 4 0)).2 = 0 ∧ costF (predB (newF 8 8 7) 0 4 4 0) (predB (newF 8 8 7) 0 0 0 0) = 1936 := by
  refine ⟨?_, ?_, ?_, ?_, ?_, ?_, ?_, ?_, ?_⟩ <;> decide +kernel
end Go.Proofs.Ytdggilbgjijfmaa
