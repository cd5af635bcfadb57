/- What MotionTells reaches of my texts, part 4. -/
import Derived.Test.YtceoidglhakanaaMotionTellsC
namespace Go.Proofs.Ytceoidglhakanaa
open Go.RowKit
theorem stcT_vector : StcT Try.prog 27 2 := ⟨_, Try.underlying27, rfl, by kernel_rfl⟩
theorem half_is (n : Int) : (Int.tmod n 2 = 0 → Int.tdiv n 2 = n / 2) ∧ (Int.tmod n 2 ≠ 0 → Int.tdiv (n - 1) 2 = n / 2) := by
  have h1 : ∀ m : Int, Int.tmod m 2 = 0 → Int.tdiv m 2 = m / 2 := fun m h => by
    have e := Int.tmod_add_mul_tdiv m 2
    omega
  refine ⟨h1 n, fun h => ?_⟩
  have e := Int.tmod_add_mul_tdiv (n - 1) 2
  have e2 := Int.tmod_add_mul_tdiv n 2
  have h3 : n % 2 = 1 := by
    by_cases h4 : n % 2 = 0
    · exact absurd (Int.tmod_eq_zero_of_dvd (Int.dvd_of_emod_eq_zero h4)) h
    · omega
  have h5 : Int.tmod (n - 1) 2 = 0 := Int.tmod_eq_zero_of_dvd (Int.dvd_of_emod_eq_zero (by omega))
  omega
theorem tmod2 (n : Int) : Int.tmod n 2 = 0 ↔ n % 2 = 0 := by
  constructor
  · intro h; have e := Int.tmod_add_mul_tdiv n 2; omega
  · intro h; exact Int.tmod_eq_zero_of_dvd (Int.dvd_of_emod_eq_zero h)

set_option maxHeartbeats 4000000 in
set_option maxRecDepth 100000 in
theorem mref_check (X Y : Int) (w0 : World) :
    Calls Try.prog 14 #[.agg #[.int .i64 (X), .int .i64 (Y)]] w0 fun e w' => e = .returned (.int .i64 (vecE X Y)) ∧ Kept (fun _ => False) w0 w' := by
  refine calls_wq (args := [.agg #[.int .i64 (X), .int .i64 (Y)]]) 21 Try.func14 rfl rfl (Nat.le_of_ble_eq_true rfl) ?_
  have K0 := Kept.refl (fun _ => False) w0
  refine wq_seq ?_
  refine wq_region ?_
  refine wl_box_stc (vs := [.int .i64 (X), .int .i64 (Y)]) rfl rfl rfl rfl fun p1 w2 B4 g5 k3 => ?_
  have gr6 : Grew w0 noB (onB p1) := Grew.new K0 g5
  have K7 := K0.trans k3 (fun _ _ x => x.elim)
  refine wl_v (.int .i64 (0)) rfl rfl (y_asg rfl rfl ⟨rfl, rfl⟩) ?_
  refine wl_nil fun F8 hF9 => ?_
  have s10 : F8 21 = undef := (hF9 21).trans rfl
  have s11 : F8 1 = .pointer (some ⟨p1, 0, none⟩) := (hF9 1).trans rfl
  clear hF9
  refine then_normal ?_
  refine wq_seq ?_
  refine wq_seq ?_
  by_cases d12 : (X) < (-31)
  · skip
    refine wq_region ?_
    refine wl_v (.pointer (some ⟨p1, 0, none⟩)) rfl rfl (y_fieldR (n := 1) rfl s11 Try.underlying27 rfl (by kernel_rfl) (by decide) rfl ⟨rfl, rfl⟩) ?_
    refine wl_v (.int .i64 (X)) rfl rfl (y_ld_stc rfl rfl Try.underlying3 B4 rfl rfl ⟨rfl, rfl⟩) ?_
    refine wl_v (.bool true) rfl rfl (y_lss rfl rfl rfl (decide_eq_true d12) ⟨rfl, rfl⟩) ?_
    refine wl_v (.bool true) rfl rfl (y_mov rfl rfl ⟨rfl, rfl⟩) ?_
    refine wl_unless 3 false 6 rfl rfl rfl (Or.inl rfl) rfl ?_
    refine wl_unless 3 false 6 rfl rfl rfl (Or.inl rfl) rfl ?_
    refine wl_unless 3 false 6 rfl rfl rfl (Or.inl rfl) rfl ?_
    refine wl_v (.bool true) rfl rfl (y_pickT rfl rfl rfl ⟨rfl, rfl⟩) ?_
    refine wl_v (.bool true) rfl rfl (y_mov rfl rfl ⟨rfl, rfl⟩) ?_
    refine wl_unless 8 false 11 rfl rfl rfl (Or.inl rfl) rfl ?_
    refine wl_unless 8 false 11 rfl rfl rfl (Or.inl rfl) rfl ?_
    refine wl_unless 8 false 11 rfl rfl rfl (Or.inl rfl) rfl ?_
    refine wl_v (.bool true) rfl rfl (y_pickT rfl rfl rfl ⟨rfl, rfl⟩) ?_
    refine wl_v (.bool true) rfl rfl (y_mov rfl rfl ⟨rfl, rfl⟩) ?_
    refine wl_unless 13 false 16 rfl rfl rfl (Or.inl rfl) rfl ?_
    refine wl_unless 13 false 16 rfl rfl rfl (Or.inl rfl) rfl ?_
    refine wl_unless 13 false 16 rfl rfl rfl (Or.inl rfl) rfl ?_
    refine wl_v (.bool true) rfl rfl (y_pickT rfl rfl rfl ⟨rfl, rfl⟩) ?_
    refine wl_nil fun F13 hF14 => ?_
    have s15 : F13 21 = undef := (hF14 21).trans s10
    have s16 : F13 20 = .bool true := (hF14 20).trans rfl
    clear hF14
    refine then_normal ?_
    refine wq_cond (t := true) s16 (fun _ => ?_) (fun e => by cases e)
    refine wq_seq ?_
    refine wq_region ?_
    refine wl_v (.int .i64 (90)) rfl rfl (y_asg rfl rfl ⟨rfl, rfl⟩) ?_
    refine wl_nil fun F17 hF18 => ?_
    have s19 : F17 21 = undef := (hF18 21).trans s15
    have s20 : F17 2 = .int .i64 (90) := (hF18 2).trans rfl
    clear hF18
    refine then_normal ?_
    refine wq_ret ?_
    refine then_ret ?_
    exact end_tmp (v := .int .i64 (90)) s19 rfl rfl s20 ⟨(by first | rw [vecE_yes (by unfold vecOk; omega)] | rw [vecE_no (by unfold vecOk; omega)]), K7⟩
  · skip
    by_cases d21 : (31) < (X)
    · skip
      refine wq_region ?_
      refine wl_v (.pointer (some ⟨p1, 0, none⟩)) rfl rfl (y_fieldR (n := 1) rfl s11 Try.underlying27 rfl (by kernel_rfl) (by decide) rfl ⟨rfl, rfl⟩) ?_
      refine wl_v (.int .i64 (X)) rfl rfl (y_ld_stc rfl rfl Try.underlying3 B4 rfl rfl ⟨rfl, rfl⟩) ?_
      refine wl_v (.bool false) rfl rfl (y_lss rfl rfl rfl (decide_eq_false d12) ⟨rfl, rfl⟩) ?_
      refine wl_v (.bool false) rfl rfl (y_mov rfl rfl ⟨rfl, rfl⟩) ?_
      refine wl_vw (.pointer (some ⟨p1, 0, none⟩)) 3 false 6 rfl rfl rfl rfl rfl (y_fieldR (n := 1) rfl s11 Try.underlying27 rfl (by kernel_rfl) (by decide) rfl ⟨rfl, rfl⟩) ?_
      refine wl_vw (.int .i64 (X)) 3 false 6 rfl rfl rfl rfl rfl (y_ld_stc rfl rfl Try.underlying3 B4 rfl rfl ⟨rfl, rfl⟩) ?_
      refine wl_vw (.bool true) 3 false 6 rfl rfl rfl rfl rfl (y_gtr rfl rfl rfl (decide_eq_true d21) ⟨rfl, rfl⟩) ?_
      refine wl_v (.bool true) rfl rfl (y_pickF rfl rfl rfl ⟨rfl, rfl⟩) ?_
      refine wl_v (.bool true) rfl rfl (y_mov rfl rfl ⟨rfl, rfl⟩) ?_
      refine wl_unless 8 false 11 rfl rfl rfl (Or.inl rfl) rfl ?_
      refine wl_unless 8 false 11 rfl rfl rfl (Or.inl rfl) rfl ?_
      refine wl_unless 8 false 11 rfl rfl rfl (Or.inl rfl) rfl ?_
      refine wl_v (.bool true) rfl rfl (y_pickT rfl rfl rfl ⟨rfl, rfl⟩) ?_
      refine wl_v (.bool true) rfl rfl (y_mov rfl rfl ⟨rfl, rfl⟩) ?_
      refine wl_unless 13 false 16 rfl rfl rfl (Or.inl rfl) rfl ?_
      refine wl_unless 13 false 16 rfl rfl rfl (Or.inl rfl) rfl ?_
      refine wl_unless 13 false 16 rfl rfl rfl (Or.inl rfl) rfl ?_
      refine wl_v (.bool true) rfl rfl (y_pickT rfl rfl rfl ⟨rfl, rfl⟩) ?_
      refine wl_nil fun F22 hF23 => ?_
      have s24 : F22 21 = undef := (hF23 21).trans s10
      have s25 : F22 20 = .bool true := (hF23 20).trans rfl
      clear hF23
      refine then_normal ?_
      refine wq_cond (t := true) s25 (fun _ => ?_) (fun e => by cases e)
      refine wq_seq ?_
      refine wq_region ?_
      refine wl_v (.int .i64 (90)) rfl rfl (y_asg rfl rfl ⟨rfl, rfl⟩) ?_
      refine wl_nil fun F26 hF27 => ?_
      have s28 : F26 21 = undef := (hF27 21).trans s24
      have s29 : F26 2 = .int .i64 (90) := (hF27 2).trans rfl
      clear hF27
      refine then_normal ?_
      refine wq_ret ?_
      refine then_ret ?_
      exact end_tmp (v := .int .i64 (90)) s28 rfl rfl s29 ⟨(by first | rw [vecE_yes (by unfold vecOk; omega)] | rw [vecE_no (by unfold vecOk; omega)]), K7⟩
    · skip
      by_cases d30 : (Y) < (-31)
      · skip
        refine wq_region ?_
        refine wl_v (.pointer (some ⟨p1, 0, none⟩)) rfl rfl (y_fieldR (n := 1) rfl s11 Try.underlying27 rfl (by kernel_rfl) (by decide) rfl ⟨rfl, rfl⟩) ?_
        refine wl_v (.int .i64 (X)) rfl rfl (y_ld_stc rfl rfl Try.underlying3 B4 rfl rfl ⟨rfl, rfl⟩) ?_
        refine wl_v (.bool false) rfl rfl (y_lss rfl rfl rfl (decide_eq_false d12) ⟨rfl, rfl⟩) ?_
        refine wl_v (.bool false) rfl rfl (y_mov rfl rfl ⟨rfl, rfl⟩) ?_
        refine wl_vw (.pointer (some ⟨p1, 0, none⟩)) 3 false 6 rfl rfl rfl rfl rfl (y_fieldR (n := 1) rfl s11 Try.underlying27 rfl (by kernel_rfl) (by decide) rfl ⟨rfl, rfl⟩) ?_
        refine wl_vw (.int .i64 (X)) 3 false 6 rfl rfl rfl rfl rfl (y_ld_stc rfl rfl Try.underlying3 B4 rfl rfl ⟨rfl, rfl⟩) ?_
        refine wl_vw (.bool false) 3 false 6 rfl rfl rfl rfl rfl (y_gtr rfl rfl rfl (decide_eq_false d21) ⟨rfl, rfl⟩) ?_
        refine wl_v (.bool false) rfl rfl (y_pickF rfl rfl rfl ⟨rfl, rfl⟩) ?_
        refine wl_v (.bool false) rfl rfl (y_mov rfl rfl ⟨rfl, rfl⟩) ?_
        refine wl_vw (.pointer (some ⟨p1, 1, none⟩)) 8 false 11 rfl rfl rfl rfl rfl (y_fieldR (n := 1) rfl s11 Try.underlying27 rfl (by kernel_rfl) (by decide) rfl ⟨rfl, rfl⟩) ?_
        refine wl_vw (.int .i64 (Y)) 8 false 11 rfl rfl rfl rfl rfl (y_ld_stc rfl rfl Try.underlying3 B4 rfl rfl ⟨rfl, rfl⟩) ?_
        refine wl_vw (.bool true) 8 false 11 rfl rfl rfl rfl rfl (y_lss rfl rfl rfl (decide_eq_true d30) ⟨rfl, rfl⟩) ?_
        refine wl_v (.bool true) rfl rfl (y_pickF rfl rfl rfl ⟨rfl, rfl⟩) ?_
        refine wl_v (.bool true) rfl rfl (y_mov rfl rfl ⟨rfl, rfl⟩) ?_
        refine wl_unless 13 false 16 rfl rfl rfl (Or.inl rfl) rfl ?_
        refine wl_unless 13 false 16 rfl rfl rfl (Or.inl rfl) rfl ?_
        refine wl_unless 13 false 16 rfl rfl rfl (Or.inl rfl) rfl ?_
        refine wl_v (.bool true) rfl rfl (y_pickT rfl rfl rfl ⟨rfl, rfl⟩) ?_
        refine wl_nil fun F31 hF32 => ?_
        have s33 : F31 21 = undef := (hF32 21).trans s10
        have s34 : F31 20 = .bool true := (hF32 20).trans rfl
        clear hF32
        refine then_normal ?_
        refine wq_cond (t := true) s34 (fun _ => ?_) (fun e => by cases e)
        refine wq_seq ?_
        refine wq_region ?_
        refine wl_v (.int .i64 (90)) rfl rfl (y_asg rfl rfl ⟨rfl, rfl⟩) ?_
        refine wl_nil fun F35 hF36 => ?_
        have s37 : F35 21 = undef := (hF36 21).trans s33
        have s38 : F35 2 = .int .i64 (90) := (hF36 2).trans rfl
        clear hF36
        refine then_normal ?_
        refine wq_ret ?_
        refine then_ret ?_
        exact end_tmp (v := .int .i64 (90)) s37 rfl rfl s38 ⟨(by first | rw [vecE_yes (by unfold vecOk; omega)] | rw [vecE_no (by unfold vecOk; omega)]), K7⟩
      · skip
        refine wq_region ?_
        refine wl_v (.pointer (some ⟨p1, 0, none⟩)) rfl rfl (y_fieldR (n := 1) rfl s11 Try.underlying27 rfl (by kernel_rfl) (by decide) rfl ⟨rfl, rfl⟩) ?_
        refine wl_v (.int .i64 (X)) rfl rfl (y_ld_stc rfl rfl Try.underlying3 B4 rfl rfl ⟨rfl, rfl⟩) ?_
        refine wl_v (.bool false) rfl rfl (y_lss rfl rfl rfl (decide_eq_false d12) ⟨rfl, rfl⟩) ?_
        refine wl_v (.bool false) rfl rfl (y_mov rfl rfl ⟨rfl, rfl⟩) ?_
        refine wl_vw (.pointer (some ⟨p1, 0, none⟩)) 3 false 6 rfl rfl rfl rfl rfl (y_fieldR (n := 1) rfl s11 Try.underlying27 rfl (by kernel_rfl) (by decide) rfl ⟨rfl, rfl⟩) ?_
        refine wl_vw (.int .i64 (X)) 3 false 6 rfl rfl rfl rfl rfl (y_ld_stc rfl rfl Try.underlying3 B4 rfl rfl ⟨rfl, rfl⟩) ?_
        refine wl_vw (.bool false) 3 false 6 rfl rfl rfl rfl rfl (y_gtr rfl rfl rfl (decide_eq_false d21) ⟨rfl, rfl⟩) ?_
        refine wl_v (.bool false) rfl rfl (y_pickF rfl rfl rfl ⟨rfl, rfl⟩) ?_
        refine wl_v (.bool false) rfl rfl (y_mov rfl rfl ⟨rfl, rfl⟩) ?_
        refine wl_vw (.pointer (some ⟨p1, 1, none⟩)) 8 false 11 rfl rfl rfl rfl rfl (y_fieldR (n := 1) rfl s11 Try.underlying27 rfl (by kernel_rfl) (by decide) rfl ⟨rfl, rfl⟩) ?_
        refine wl_vw (.int .i64 (Y)) 8 false 11 rfl rfl rfl rfl rfl (y_ld_stc rfl rfl Try.underlying3 B4 rfl rfl ⟨rfl, rfl⟩) ?_
        refine wl_vw (.bool false) 8 false 11 rfl rfl rfl rfl rfl (y_lss rfl rfl rfl (decide_eq_false d30) ⟨rfl, rfl⟩) ?_
        refine wl_v (.bool false) rfl rfl (y_pickF rfl rfl rfl ⟨rfl, rfl⟩) ?_
        refine wl_v (.bool false) rfl rfl (y_mov rfl rfl ⟨rfl, rfl⟩) ?_
        refine wl_vw (.pointer (some ⟨p1, 1, none⟩)) 13 false 16 rfl rfl rfl rfl rfl (y_fieldR (n := 1) rfl s11 Try.underlying27 rfl (by kernel_rfl) (by decide) rfl ⟨rfl, rfl⟩) ?_
        refine wl_vw (.int .i64 (Y)) 13 false 16 rfl rfl rfl rfl rfl (y_ld_stc rfl rfl Try.underlying3 B4 rfl rfl ⟨rfl, rfl⟩) ?_
        refine wl_vw (.bool (decide ((31) < (Y)))) 13 false 16 rfl rfl rfl rfl rfl (y_gtr rfl rfl rfl rfl ⟨rfl, rfl⟩) ?_
        refine wl_v (.bool (decide ((31) < (Y)))) rfl rfl (y_pickF rfl rfl rfl ⟨rfl, rfl⟩) ?_
        refine wl_nil fun F39 hF40 => ?_
        have s41 : F39 21 = undef := (hF40 21).trans s10
        have s42 : F39 20 = .bool (decide ((31) < (Y))) := (hF40 20).trans rfl
        clear hF40
        refine then_normal ?_
        refine wq_cond s42 (fun c43 => ?_) (fun c43 => ?_)
        · replace c43 := of_decide_eq_true c43
          refine wq_seq ?_
          refine wq_region ?_
          refine wl_v (.int .i64 (90)) rfl rfl (y_asg rfl rfl ⟨rfl, rfl⟩) ?_
          refine wl_nil fun F44 hF45 => ?_
          have s46 : F44 21 = undef := (hF45 21).trans s41
          have s47 : F44 2 = .int .i64 (90) := (hF45 2).trans rfl
          clear hF45
          refine then_normal ?_
          refine wq_ret ?_
          refine then_ret ?_
          exact end_tmp (v := .int .i64 (90)) s46 rfl rfl s47 ⟨(by first | rw [vecE_yes (by unfold vecOk; omega)] | rw [vecE_no (by unfold vecOk; omega)]), K7⟩
        · replace c43 := of_decide_eq_false c43
          refine wq_skip ?_
          refine then_normal ?_
          refine wq_seq ?_
          refine wq_region ?_
          refine wl_v (.int .i64 (0)) rfl rfl (y_asg rfl rfl ⟨rfl, rfl⟩) ?_
          refine wl_nil fun F48 hF49 => ?_
          have s50 : F48 21 = undef := (hF49 21).trans s41
          have s51 : F48 2 = .int .i64 (0) := (hF49 2).trans rfl
          clear hF49
          refine then_normal ?_
          refine wq_ret ?_
          exact end_tmp (v := .int .i64 (0)) s50 rfl rfl s51 ⟨(by first | rw [vecE_yes (by unfold vecOk; omega)] | rw [vecE_no (by unfold vecOk; omega)]), K7⟩

set_option maxHeartbeats 4000000 in
set_option maxRecDepth 100000 in
theorem mref_half (n : Int) (w0 : World) (hn : -300 ≤ n ∧ n ≤ 300) :
    Calls Try.prog 34 #[.int .i64 (n)] w0 fun e w' => e = .returned (.int .i64 (n / 2)) ∧ Kept (fun _ => False) w0 w' := by
  refine calls_wq (args := [.int .i64 (n)]) 10 Try.func34 rfl rfl (Nat.le_of_ble_eq_true rfl) ?_
  have K0 := Kept.refl (fun _ => False) w0
  have hh := half_is n
  refine wq_seq ?_
  refine wq_region ?_
  refine wl_v (.int .i64 (0)) rfl rfl (y_asg rfl rfl ⟨rfl, rfl⟩) ?_
  refine wl_nil fun F1 hF2 => ?_
  have s3 : F1 0 = .int .i64 (n) := (hF2 0).trans rfl
  have s4 : F1 10 = undef := (hF2 10).trans rfl
  clear hF2
  refine then_normal ?_
  refine wq_seq ?_
  refine wq_seq ?_
  refine wq_region ?_
  refine wl_v (.int .i64 (n)) rfl rfl (y_mov rfl s3 ⟨rfl, rfl⟩) ?_
  refine wl_v (.int .i64 (Int.tmod (n) (2))) rfl rfl (y_rem rfl rfl rfl (by first | decide | omega) rfl ⟨rfl, rfl⟩) ?_
  refine wl_v (.bool (decide ((Int.tmod (n) (2)) ≠ (0)))) rfl rfl (y_neqI rfl rfl rfl rfl ⟨rfl, rfl⟩) ?_
  refine wl_nil fun F5 hF6 => ?_
  have s7 : F5 0 = .int .i64 (n) := (hF6 0).trans s3
  have s8 : F5 10 = undef := (hF6 10).trans s4
  have s9 : F5 5 = .bool (decide ((Int.tmod (n) (2)) ≠ (0))) := (hF6 5).trans rfl
  clear hF6
  refine then_normal ?_
  refine wq_cond s9 (fun c10 => ?_) (fun c10 => ?_)
  · replace c10 := of_decide_eq_true c10
    refine wq_region ?_
    refine wl_v (.int .i64 (n)) rfl rfl (y_mov rfl s7 ⟨rfl, rfl⟩) ?_
    refine wl_v (.int .i64 ((n) - (1))) rfl rfl (y_sub rfl rfl rfl (i64_i rfl (by omega)) ⟨rfl, rfl⟩) ?_
    refine wl_v (.int .i64 ((n) - (1))) rfl rfl (y_asg rfl rfl ⟨rfl, rfl⟩) ?_
    refine wl_nil fun F11 hF12 => ?_
    have s13 : F11 10 = undef := (hF12 10).trans s8
    have s14 : F11 0 = .int .i64 ((n) - (1)) := (hF12 0).trans rfl
    clear hF12
    refine then_normal ?_
    refine wq_seq ?_
    refine wq_region ?_
    refine wl_v (.int .i64 ((n) - (1))) rfl rfl (y_mov rfl s14 ⟨rfl, rfl⟩) ?_
    refine wl_v (.int .i64 (n / 2)) rfl rfl (y_quo rfl rfl rfl (by first | decide | omega) ((by first | exact i64_i (hh.1 (by first | assumption | (apply Decidable.byContradiction; assumption))) (by omega) | exact i64_i (hh.2 (by assumption)) (by omega))) ⟨rfl, rfl⟩) ?_
    refine wl_v (.int .i64 (n / 2)) rfl rfl (y_asg rfl rfl ⟨rfl, rfl⟩) ?_
    refine wl_nil fun F15 hF16 => ?_
    have s17 : F15 10 = undef := (hF16 10).trans s13
    have s18 : F15 2 = .int .i64 (n / 2) := (hF16 2).trans rfl
    clear hF16
    refine then_normal ?_
    refine wq_ret ?_
    exact end_tmp (v := .int .i64 (n / 2)) s17 rfl rfl s18 ⟨rfl, K0⟩
  · replace c10 := of_decide_eq_false c10
    refine wq_skip ?_
    refine then_normal ?_
    refine wq_seq ?_
    refine wq_region ?_
    refine wl_v (.int .i64 (n)) rfl rfl (y_mov rfl s7 ⟨rfl, rfl⟩) ?_
    refine wl_v (.int .i64 (n / 2)) rfl rfl (y_quo rfl rfl rfl (by first | decide | omega) ((by first | exact i64_i (hh.1 (by first | assumption | (apply Decidable.byContradiction; assumption))) (by omega) | exact i64_i (hh.2 (by assumption)) (by omega))) ⟨rfl, rfl⟩) ?_
    refine wl_v (.int .i64 (n / 2)) rfl rfl (y_asg rfl rfl ⟨rfl, rfl⟩) ?_
    refine wl_nil fun F19 hF20 => ?_
    have s21 : F19 10 = undef := (hF20 10).trans s8
    have s22 : F19 2 = .int .i64 (n / 2) := (hF20 2).trans rfl
    clear hF20
    refine then_normal ?_
    refine wq_ret ?_
    exact end_tmp (v := .int .i64 (n / 2)) s21 rfl rfl s22 ⟨rfl, K0⟩

set_option maxHeartbeats 4000000 in
set_option maxRecDepth 100000 in
theorem mref_sample (p x y : Int) (f : FD) (f0 f1 f2 : Value) (T_f0 : Nat → Prop) (T_f1 : Nat → Prop) (T_f2 : Nat → Prop) (w0 : World) (h_f0 : Byt w0 T_f0 f0 ((f).p0)) (h_f1 : Byt w0 T_f1 f1 ((f).p1)) (h_f2 : Byt w0 T_f2 f2 ((f).p2)) :
    Calls Try.prog 16 #[.agg #[.int .i64 ((f).W), .int .i64 ((f).H), f0, f1, f2], .int .i64 (p), .int .i64 (x), .int .i64 (y)] w0 fun e w' => e = .returned (.int .i64 (smpF f p x y)) ∧ Kept (fun _ => False) w0 w' := by
  refine calls_wq (args := [.agg #[.int .i64 ((f).W), .int .i64 ((f).H), f0, f1, f2], .int .i64 (p), .int .i64 (x), .int .i64 (y)]) 90 Try.func16 rfl rfl (Nat.le_of_ble_eq_true rfl) ?_
  have K0 := Kept.refl (fun _ => False) w0
  have hb : Bytes3 f := ⟨h_f0.lt256, h_f1.lt256, h_f2.lt256⟩
  obtain ⟨u, hu⟩ : ∃ u, u = c256 x := ⟨_, rfl⟩
  obtain ⟨v, hv⟩ : ∃ v, v = c256 y := ⟨_, rfl⟩
  have hu2 : -256 ≤ u ∧ u ≤ 256 := by rw [hu]; unfold c256; omega
  have hv2 : -256 ≤ v ∧ v ≤ 256 := by rw [hv]; unfold c256; omega
  have hm : smpF f p x y = mid f p u v := by rw [hu, hv]; rfl
  have a1 := atF_le hb p (u / 2) (v / 2)
  have a2 := atF_le hb p ((u + 1) / 2) (v / 2)
  have a3 := atF_le hb p (u / 2) ((v + 1) / 2)
  have a4 := atF_le hb p ((u + 1) / 2) ((v + 1) / 2)
  have tu := tmod2 u
  have tv := tmod2 v
  have g_f0 := Grew.refl w0 T_f0
  have g_f1 := Grew.refl w0 T_f1
  have g_f2 := Grew.refl w0 T_f2
  refine wq_seq ?_
  refine wq_region ?_
  refine wl_box_stc (vs := [.int .i64 ((f).W), .int .i64 ((f).H), f0, f1, f2]) rfl rfl rfl rfl fun p1 w2 B4 g5 k3 => ?_
  have gr6 : Grew w0 noB (onB p1) := Grew.new K0 g5
  have ap7 : Apart (onB p1) (T_f0) := Apart.new g5 (h_f0).live
  have ap8 : Apart (onB p1) (T_f1) := Apart.new g5 (h_f1).live
  have ap9 : Apart (onB p1) (T_f2) := Apart.new g5 (h_f2).live
  have B10 := h_f0.all k3 Apart.none
  have B11 := h_f1.all k3 Apart.none
  have B12 := h_f2.all k3 Apart.none
  have K13 := K0.trans k3 (fun _ _ x => x.elim)
  refine wl_v (.int .i64 (0)) rfl rfl (y_asg rfl rfl ⟨rfl, rfl⟩) ?_
  refine wl_nil fun F14 hF15 => ?_
  have s16 : F14 1 = .int .i64 (p) := (hF15 1).trans rfl
  have s17 : F14 2 = .int .i64 (x) := (hF15 2).trans rfl
  have s18 : F14 3 = .int .i64 (y) := (hF15 3).trans rfl
  have s19 : F14 90 = undef := (hF15 90).trans rfl
  have s20 : F14 4 = .pointer (some ⟨p1, 0, none⟩) := (hF15 4).trans rfl
  clear hF15
  refine then_normal ?_
  refine wq_seq ?_
  refine wq_region ?_
  refine wl_v (.int .i64 (x)) rfl rfl (y_mov rfl s17 ⟨rfl, rfl⟩) ?_
  refine wl_v (.int .i64 (max (x) (-256))) rfl rfl (y_maxR rfl rfl rfl rfl ⟨rfl, rfl⟩) ?_
  refine wl_v (.int .i64 (u)) rfl rfl (y_minR rfl rfl rfl (hu.symm) ⟨rfl, rfl⟩) ?_
  refine wl_v (.int .i64 (u)) rfl rfl (y_asg rfl rfl ⟨rfl, rfl⟩) ?_
  refine wl_nil fun F21 hF22 => ?_
  have s23 : F21 1 = .int .i64 (p) := (hF22 1).trans s16
  have s24 : F21 3 = .int .i64 (y) := (hF22 3).trans s18
  have s25 : F21 90 = undef := (hF22 90).trans s19
  have s26 : F21 4 = .pointer (some ⟨p1, 0, none⟩) := (hF22 4).trans s20
  have s27 : F21 9 = .int .i64 (u) := (hF22 9).trans rfl
  clear hF22
  refine then_normal ?_
  refine wq_seq ?_
  refine wq_region ?_
  refine wl_v (.int .i64 (y)) rfl rfl (y_mov rfl s24 ⟨rfl, rfl⟩) ?_
  refine wl_v (.int .i64 (max (y) (-256))) rfl rfl (y_maxR rfl rfl rfl rfl ⟨rfl, rfl⟩) ?_
  refine wl_v (.int .i64 (v)) rfl rfl (y_minR rfl rfl rfl (hv.symm) ⟨rfl, rfl⟩) ?_
  refine wl_v (.int .i64 (v)) rfl rfl (y_asg rfl rfl ⟨rfl, rfl⟩) ?_
  refine wl_nil fun F28 hF29 => ?_
  have s30 : F28 1 = .int .i64 (p) := (hF29 1).trans s23
  have s31 : F28 90 = undef := (hF29 90).trans s25
  have s32 : F28 4 = .pointer (some ⟨p1, 0, none⟩) := (hF29 4).trans s26
  have s33 : F28 9 = .int .i64 (u) := (hF29 9).trans s27
  have s34 : F28 10 = .int .i64 (v) := (hF29 10).trans rfl
  clear hF29
  refine then_normal ?_
  refine wq_seq ?_
  refine wq_said [some 21, some 22, some 23, some 24, some 25, some 26, some 27, some 11] [Pd.eq (.agg #[.int .i64 ((f).W), .int .i64 ((f).H), f0, f1, f2]), Pd.eq (.int .i64 (p)), Pd.eq (.int .i64 (u)), Pd.eq (.int .i64 ((u) / 2)), Pd.eq (.int .i64 (v)), Pd.eq (.int .i64 ((v) / 2)), Pd.eq (.int .i64 (atF (f) (p) ((u) / 2) ((v) / 2))), Pd.eq (.int .i64 (atF (f) (p) ((u) / 2) ((v) / 2)))] (by kernel_rfl) (by kernel_rfl) ?_ ?_
  · refine stepsF_cons ?_ ?_
    · refine StepF.one rfl fun F_ w_ hR hout hD => ?_
      exact (y_load_stc stcT_frame rfl ((hout 4 rfl (by decide)).trans s32) (B4.all hR id) ⟨rfl, Kept.refl _ _⟩)
    refine stepsF_cons ?_ ?_
    · refine StepF.one rfl fun F_ w_ hR hout hD => ?_
      exact (y_mov rfl ((hout 1 rfl (by decide)).trans s30) ⟨rfl, Kept.refl _ _⟩)
    refine stepsF_cons ?_ ?_
    · refine StepF.one rfl fun F_ w_ hR hout hD => ?_
      exact (y_mov rfl ((hout 9 rfl (by decide)).trans s33) ⟨rfl, Kept.refl _ _⟩)
    refine stepsF_cons ?_ ?_
    · refine StepF.one rfl fun F_ w_ hR hout hD => ?_
      have g23 : F_ 23 = .int .i64 (u) := hD.get 0 rfl rfl rfl
      exact (y_cs rfl rfl rfl (fun _ _ => by kernel_rfl) (ev_func _) (vsC g23 vsN) (mref_half (u)  _ (by omega)  ) (fun e_ w_ h_ => ⟨_, h_.1, rfl, h_.2⟩))
    refine stepsF_cons ?_ ?_
    · refine StepF.one rfl fun F_ w_ hR hout hD => ?_
      exact (y_mov rfl ((hout 10 rfl (by decide)).trans s34) ⟨rfl, Kept.refl _ _⟩)
    refine stepsF_cons ?_ ?_
    · refine StepF.one rfl fun F_ w_ hR hout hD => ?_
      have g25 : F_ 25 = .int .i64 (v) := hD.get 0 rfl rfl rfl
      exact (y_cs rfl rfl rfl (fun _ _ => by kernel_rfl) (ev_func _) (vsC g25 vsN) (mref_half (v)  _ (by omega)  ) (fun e_ w_ h_ => ⟨_, h_.1, rfl, h_.2⟩))
    refine stepsF_cons ?_ ?_
    · refine StepF.one rfl fun F_ w_ hR hout hD => ?_
      have g21 : F_ 21 = .agg #[.int .i64 ((f).W), .int .i64 ((f).H), f0, f1, f2] := hD.get 0 rfl rfl rfl
      have g22 : F_ 22 = .int .i64 (p) := hD.get 1 rfl rfl rfl
      have g24 : F_ 24 = .int .i64 ((u) / 2) := hD.get 2 rfl rfl rfl
      have g26 : F_ 26 = .int .i64 ((v) / 2) := hD.get 3 rfl rfl rfl
      exact (y_cs rfl rfl rfl (fun _ _ => by kernel_rfl) (ev_func _) (vsC g21 (vsC g22 (vsC g24 (vsC g26 vsN)))) (fref_at (p) ((u) / 2) ((v) / 2) (f) (f0) (f1) (f2) (T_f0) (T_f1) (T_f2) _  (B10.all hR Apart.none) (B11.all hR Apart.none) (B12.all hR Apart.none) ) (fun e_ w_ h_ => ⟨_, h_.1, rfl, h_.2⟩))
    refine stepsF_cons ?_ ?_
    · refine StepF.one rfl fun F_ w_ hR hout hD => ?_
      have g27 : F_ 27 = .int .i64 (atF (f) (p) ((u) / 2) ((v) / 2)) := hD.get 0 rfl rfl rfl
      exact (y_asg rfl g27 ⟨rfl, Kept.refl _ _⟩)
    exact stepsF_nil
  intro v35 F36 w37 k38 G39 hF40
  have B42 := B10.all k38 Apart.none
  have B43 := B11.all k38 Apart.none
  have B44 := B12.all k38 Apart.none
  have B45 := B4.all k38 id
  have K46 := K13.trans k38 (fun _ _ x => x.elim)
  have s47 : F36 1 = .int .i64 (p) := (hF40 1).trans s30
  have s48 : F36 90 = undef := (hF40 90).trans s31
  have s49 : F36 4 = .pointer (some ⟨p1, 0, none⟩) := (hF40 4).trans s32
  have s50 : F36 9 = .int .i64 (u) := (hF40 9).trans s33
  have s51 : F36 10 = .int .i64 (v) := (hF40 10).trans s34
  have s52 : F36 11 = .int .i64 (atF (f) (p) ((u) / 2) ((v) / 2)) := (hF40 11).trans (G39 7 (by decide))
  clear G39 hF40
  refine then_normal ?_
  refine wq_seq ?_
  refine wq_said [some 28, some 29, some 30, some 31, some 32, some 33, some 34, some 35, some 12] [Pd.eq (.agg #[.int .i64 ((f).W), .int .i64 ((f).H), f0, f1, f2]), Pd.eq (.int .i64 (p)), Pd.eq (.int .i64 (u)), Pd.eq (.int .i64 ((u) + (1))), Pd.eq (.int .i64 (((u) + (1)) / 2)), Pd.eq (.int .i64 (v)), Pd.eq (.int .i64 ((v) / 2)), Pd.eq (.int .i64 (atF (f) (p) (((u) + (1)) / 2) ((v) / 2))), Pd.eq (.int .i64 (atF (f) (p) (((u) + (1)) / 2) ((v) / 2)))] (by kernel_rfl) (by kernel_rfl) ?_ ?_
  · refine stepsF_cons ?_ ?_
    · refine StepF.one rfl fun F_ w_ hR hout hD => ?_
      exact (y_load_stc stcT_frame rfl ((hout 4 rfl (by decide)).trans s49) (B45.all hR id) ⟨rfl, Kept.refl _ _⟩)
    refine stepsF_cons ?_ ?_
    · refine StepF.one rfl fun F_ w_ hR hout hD => ?_
      exact (y_mov rfl ((hout 1 rfl (by decide)).trans s47) ⟨rfl, Kept.refl _ _⟩)
    refine stepsF_cons ?_ ?_
    · refine StepF.one rfl fun F_ w_ hR hout hD => ?_
      exact (y_mov rfl ((hout 9 rfl (by decide)).trans s50) ⟨rfl, Kept.refl _ _⟩)
    refine stepsF_cons ?_ ?_
    · refine StepF.one rfl fun F_ w_ hR hout hD => ?_
      have g30 : F_ 30 = .int .i64 (u) := hD.get 0 rfl rfl rfl
      exact (y_add rfl g30 rfl (i64_i rfl (by omega)) ⟨rfl, Kept.refl _ _⟩)
    refine stepsF_cons ?_ ?_
    · refine StepF.one rfl fun F_ w_ hR hout hD => ?_
      have g31 : F_ 31 = .int .i64 ((u) + (1)) := hD.get 0 rfl rfl rfl
      exact (y_cs rfl rfl rfl (fun _ _ => by kernel_rfl) (ev_func _) (vsC g31 vsN) (mref_half ((u) + (1))  _ (by omega)  ) (fun e_ w_ h_ => ⟨_, h_.1, rfl, h_.2⟩))
    refine stepsF_cons ?_ ?_
    · refine StepF.one rfl fun F_ w_ hR hout hD => ?_
      exact (y_mov rfl ((hout 10 rfl (by decide)).trans s51) ⟨rfl, Kept.refl _ _⟩)
    refine stepsF_cons ?_ ?_
    · refine StepF.one rfl fun F_ w_ hR hout hD => ?_
      have g33 : F_ 33 = .int .i64 (v) := hD.get 0 rfl rfl rfl
      exact (y_cs rfl rfl rfl (fun _ _ => by kernel_rfl) (ev_func _) (vsC g33 vsN) (mref_half (v)  _ (by omega)  ) (fun e_ w_ h_ => ⟨_, h_.1, rfl, h_.2⟩))
    refine stepsF_cons ?_ ?_
    · refine StepF.one rfl fun F_ w_ hR hout hD => ?_
      have g28 : F_ 28 = .agg #[.int .i64 ((f).W), .int .i64 ((f).H), f0, f1, f2] := hD.get 0 rfl rfl rfl
      have g29 : F_ 29 = .int .i64 (p) := hD.get 1 rfl rfl rfl
      have g32 : F_ 32 = .int .i64 (((u) + (1)) / 2) := hD.get 2 rfl rfl rfl
      have g34 : F_ 34 = .int .i64 ((v) / 2) := hD.get 3 rfl rfl rfl
      exact (y_cs rfl rfl rfl (fun _ _ => by kernel_rfl) (ev_func _) (vsC g28 (vsC g29 (vsC g32 (vsC g34 vsN)))) (fref_at (p) (((u) + (1)) / 2) ((v) / 2) (f) (f0) (f1) (f2) (T_f0) (T_f1) (T_f2) _  (B42.all hR Apart.none) (B43.all hR Apart.none) (B44.all hR Apart.none) ) (fun e_ w_ h_ => ⟨_, h_.1, rfl, h_.2⟩))
    refine stepsF_cons ?_ ?_
    · refine StepF.one rfl fun F_ w_ hR hout hD => ?_
      have g35 : F_ 35 = .int .i64 (atF (f) (p) (((u) + (1)) / 2) ((v) / 2)) := hD.get 0 rfl rfl rfl
      exact (y_asg rfl g35 ⟨rfl, Kept.refl _ _⟩)
    exact stepsF_nil
  intro v53 F54 w55 k56 G57 hF58
  have B60 := B42.all k56 Apart.none
  have B61 := B43.all k56 Apart.none
  have B62 := B44.all k56 Apart.none
  have B63 := B45.all k56 id
  have K64 := K46.trans k56 (fun _ _ x => x.elim)
  have s65 : F54 1 = .int .i64 (p) := (hF58 1).trans s47
  have s66 : F54 90 = undef := (hF58 90).trans s48
  have s67 : F54 4 = .pointer (some ⟨p1, 0, none⟩) := (hF58 4).trans s49
  have s68 : F54 9 = .int .i64 (u) := (hF58 9).trans s50
  have s69 : F54 10 = .int .i64 (v) := (hF58 10).trans s51
  have s70 : F54 11 = .int .i64 (atF (f) (p) ((u) / 2) ((v) / 2)) := (hF58 11).trans s52
  have s71 : F54 12 = .int .i64 (atF (f) (p) (((u) + (1)) / 2) ((v) / 2)) := (hF58 12).trans (G57 8 (by decide))
  clear G57 hF58
  refine then_normal ?_
  refine wq_seq ?_
  refine wq_said [some 36, some 37, some 38, some 39, some 40, some 41, some 42, some 43, some 13] [Pd.eq (.agg #[.int .i64 ((f).W), .int .i64 ((f).H), f0, f1, f2]), Pd.eq (.int .i64 (p)), Pd.eq (.int .i64 (u)), Pd.eq (.int .i64 ((u) / 2)), Pd.eq (.int .i64 (v)), Pd.eq (.int .i64 ((v) + (1))), Pd.eq (.int .i64 (((v) + (1)) / 2)), Pd.eq (.int .i64 (atF (f) (p) ((u) / 2) (((v) + (1)) / 2))), Pd.eq (.int .i64 (atF (f) (p) ((u) / 2) (((v) + (1)) / 2)))] (by kernel_rfl) (by kernel_rfl) ?_ ?_
  · refine stepsF_cons ?_ ?_
    · refine StepF.one rfl fun F_ w_ hR hout hD => ?_
      exact (y_load_stc stcT_frame rfl ((hout 4 rfl (by decide)).trans s67) (B63.all hR id) ⟨rfl, Kept.refl _ _⟩)
    refine stepsF_cons ?_ ?_
    · refine StepF.one rfl fun F_ w_ hR hout hD => ?_
      exact (y_mov rfl ((hout 1 rfl (by decide)).trans s65) ⟨rfl, Kept.refl _ _⟩)
    refine stepsF_cons ?_ ?_
    · refine StepF.one rfl fun F_ w_ hR hout hD => ?_
      exact (y_mov rfl ((hout 9 rfl (by decide)).trans s68) ⟨rfl, Kept.refl _ _⟩)
    refine stepsF_cons ?_ ?_
    · refine StepF.one rfl fun F_ w_ hR hout hD => ?_
      have g38 : F_ 38 = .int .i64 (u) := hD.get 0 rfl rfl rfl
      exact (y_cs rfl rfl rfl (fun _ _ => by kernel_rfl) (ev_func _) (vsC g38 vsN) (mref_half (u)  _ (by omega)  ) (fun e_ w_ h_ => ⟨_, h_.1, rfl, h_.2⟩))
    refine stepsF_cons ?_ ?_
    · refine StepF.one rfl fun F_ w_ hR hout hD => ?_
      exact (y_mov rfl ((hout 10 rfl (by decide)).trans s69) ⟨rfl, Kept.refl _ _⟩)
    refine stepsF_cons ?_ ?_
    · refine StepF.one rfl fun F_ w_ hR hout hD => ?_
      have g40 : F_ 40 = .int .i64 (v) := hD.get 0 rfl rfl rfl
      exact (y_add rfl g40 rfl (i64_i rfl (by omega)) ⟨rfl, Kept.refl _ _⟩)
    refine stepsF_cons ?_ ?_
    · refine StepF.one rfl fun F_ w_ hR hout hD => ?_
      have g41 : F_ 41 = .int .i64 ((v) + (1)) := hD.get 0 rfl rfl rfl
      exact (y_cs rfl rfl rfl (fun _ _ => by kernel_rfl) (ev_func _) (vsC g41 vsN) (mref_half ((v) + (1))  _ (by omega)  ) (fun e_ w_ h_ => ⟨_, h_.1, rfl, h_.2⟩))
    refine stepsF_cons ?_ ?_
    · refine StepF.one rfl fun F_ w_ hR hout hD => ?_
      have g36 : F_ 36 = .agg #[.int .i64 ((f).W), .int .i64 ((f).H), f0, f1, f2] := hD.get 0 rfl rfl rfl
      have g37 : F_ 37 = .int .i64 (p) := hD.get 1 rfl rfl rfl
      have g39 : F_ 39 = .int .i64 ((u) / 2) := hD.get 2 rfl rfl rfl
      have g42 : F_ 42 = .int .i64 (((v) + (1)) / 2) := hD.get 3 rfl rfl rfl
      exact (y_cs rfl rfl rfl (fun _ _ => by kernel_rfl) (ev_func _) (vsC g36 (vsC g37 (vsC g39 (vsC g42 vsN)))) (fref_at (p) ((u) / 2) (((v) + (1)) / 2) (f) (f0) (f1) (f2) (T_f0) (T_f1) (T_f2) _  (B60.all hR Apart.none) (B61.all hR Apart.none) (B62.all hR Apart.none) ) (fun e_ w_ h_ => ⟨_, h_.1, rfl, h_.2⟩))
    refine stepsF_cons ?_ ?_
    · refine StepF.one rfl fun F_ w_ hR hout hD => ?_
      have g43 : F_ 43 = .int .i64 (atF (f) (p) ((u) / 2) (((v) + (1)) / 2)) := hD.get 0 rfl rfl rfl
      exact (y_asg rfl g43 ⟨rfl, Kept.refl _ _⟩)
    exact stepsF_nil
  intro v72 F73 w74 k75 G76 hF77
  have B79 := B60.all k75 Apart.none
  have B80 := B61.all k75 Apart.none
  have B81 := B62.all k75 Apart.none
  have B82 := B63.all k75 id
  have K83 := K64.trans k75 (fun _ _ x => x.elim)
  have s84 : F73 1 = .int .i64 (p) := (hF77 1).trans s65
  have s85 : F73 90 = undef := (hF77 90).trans s66
  have s86 : F73 4 = .pointer (some ⟨p1, 0, none⟩) := (hF77 4).trans s67
  have s87 : F73 9 = .int .i64 (u) := (hF77 9).trans s68
  have s88 : F73 10 = .int .i64 (v) := (hF77 10).trans s69
  have s89 : F73 11 = .int .i64 (atF (f) (p) ((u) / 2) ((v) / 2)) := (hF77 11).trans s70
  have s90 : F73 12 = .int .i64 (atF (f) (p) (((u) + (1)) / 2) ((v) / 2)) := (hF77 12).trans s71
  have s91 : F73 13 = .int .i64 (atF (f) (p) ((u) / 2) (((v) + (1)) / 2)) := (hF77 13).trans (G76 8 (by decide))
  clear G76 hF77
  refine then_normal ?_
  refine wq_seq ?_
  refine wq_said [some 44, some 45, some 46, some 47, some 48, some 49, some 50, some 51, some 52, some 14] [Pd.eq (.agg #[.int .i64 ((f).W), .int .i64 ((f).H), f0, f1, f2]), Pd.eq (.int .i64 (p)), Pd.eq (.int .i64 (u)), Pd.eq (.int .i64 ((u) + (1))), Pd.eq (.int .i64 (((u) + (1)) / 2)), Pd.eq (.int .i64 (v)), Pd.eq (.int .i64 ((v) + (1))), Pd.eq (.int .i64 (((v) + (1)) / 2)), Pd.eq (.int .i64 (atF (f) (p) (((u) + (1)) / 2) (((v) + (1)) / 2))), Pd.eq (.int .i64 (atF (f) (p) (((u) + (1)) / 2) (((v) + (1)) / 2)))] (by kernel_rfl) (by kernel_rfl) ?_ ?_
  · refine stepsF_cons ?_ ?_
    · refine StepF.one rfl fun F_ w_ hR hout hD => ?_
      exact (y_load_stc stcT_frame rfl ((hout 4 rfl (by decide)).trans s86) (B82.all hR id) ⟨rfl, Kept.refl _ _⟩)
    refine stepsF_cons ?_ ?_
    · refine StepF.one rfl fun F_ w_ hR hout hD => ?_
      exact (y_mov rfl ((hout 1 rfl (by decide)).trans s84) ⟨rfl, Kept.refl _ _⟩)
    refine stepsF_cons ?_ ?_
    · refine StepF.one rfl fun F_ w_ hR hout hD => ?_
      exact (y_mov rfl ((hout 9 rfl (by decide)).trans s87) ⟨rfl, Kept.refl _ _⟩)
    refine stepsF_cons ?_ ?_
    · refine StepF.one rfl fun F_ w_ hR hout hD => ?_
      have g46 : F_ 46 = .int .i64 (u) := hD.get 0 rfl rfl rfl
      exact (y_add rfl g46 rfl (i64_i rfl (by omega)) ⟨rfl, Kept.refl _ _⟩)
    refine stepsF_cons ?_ ?_
    · refine StepF.one rfl fun F_ w_ hR hout hD => ?_
      have g47 : F_ 47 = .int .i64 ((u) + (1)) := hD.get 0 rfl rfl rfl
      exact (y_cs rfl rfl rfl (fun _ _ => by kernel_rfl) (ev_func _) (vsC g47 vsN) (mref_half ((u) + (1))  _ (by omega)  ) (fun e_ w_ h_ => ⟨_, h_.1, rfl, h_.2⟩))
    refine stepsF_cons ?_ ?_
    · refine StepF.one rfl fun F_ w_ hR hout hD => ?_
      exact (y_mov rfl ((hout 10 rfl (by decide)).trans s88) ⟨rfl, Kept.refl _ _⟩)
    refine stepsF_cons ?_ ?_
    · refine StepF.one rfl fun F_ w_ hR hout hD => ?_
      have g49 : F_ 49 = .int .i64 (v) := hD.get 0 rfl rfl rfl
      exact (y_add rfl g49 rfl (i64_i rfl (by omega)) ⟨rfl, Kept.refl _ _⟩)
    refine stepsF_cons ?_ ?_
    · refine StepF.one rfl fun F_ w_ hR hout hD => ?_
      have g50 : F_ 50 = .int .i64 ((v) + (1)) := hD.get 0 rfl rfl rfl
      exact (y_cs rfl rfl rfl (fun _ _ => by kernel_rfl) (ev_func _) (vsC g50 vsN) (mref_half ((v) + (1))  _ (by omega)  ) (fun e_ w_ h_ => ⟨_, h_.1, rfl, h_.2⟩))
    refine stepsF_cons ?_ ?_
    · refine StepF.one rfl fun F_ w_ hR hout hD => ?_
      have g44 : F_ 44 = .agg #[.int .i64 ((f).W), .int .i64 ((f).H), f0, f1, f2] := hD.get 0 rfl rfl rfl
      have g45 : F_ 45 = .int .i64 (p) := hD.get 1 rfl rfl rfl
      have g48 : F_ 48 = .int .i64 (((u) + (1)) / 2) := hD.get 2 rfl rfl rfl
      have g51 : F_ 51 = .int .i64 (((v) + (1)) / 2) := hD.get 3 rfl rfl rfl
      exact (y_cs rfl rfl rfl (fun _ _ => by kernel_rfl) (ev_func _) (vsC g44 (vsC g45 (vsC g48 (vsC g51 vsN)))) (fref_at (p) (((u) + (1)) / 2) (((v) + (1)) / 2) (f) (f0) (f1) (f2) (T_f0) (T_f1) (T_f2) _  (B79.all hR Apart.none) (B80.all hR Apart.none) (B81.all hR Apart.none) ) (fun e_ w_ h_ => ⟨_, h_.1, rfl, h_.2⟩))
    refine stepsF_cons ?_ ?_
    · refine StepF.one rfl fun F_ w_ hR hout hD => ?_
      have g52 : F_ 52 = .int .i64 (atF (f) (p) (((u) + (1)) / 2) (((v) + (1)) / 2)) := hD.get 0 rfl rfl rfl
      exact (y_asg rfl g52 ⟨rfl, Kept.refl _ _⟩)
    exact stepsF_nil
  intro v92 F93 w94 k95 G96 hF97
  have B99 := B79.all k95 Apart.none
  have B100 := B80.all k95 Apart.none
  have B101 := B81.all k95 Apart.none
  have B102 := B82.all k95 id
  have K103 := K83.trans k95 (fun _ _ x => x.elim)
  have s104 : F93 90 = undef := (hF97 90).trans s85
  have s105 : F93 9 = .int .i64 (u) := (hF97 9).trans s87
  have s106 : F93 10 = .int .i64 (v) := (hF97 10).trans s88
  have s107 : F93 11 = .int .i64 (atF (f) (p) ((u) / 2) ((v) / 2)) := (hF97 11).trans s89
  have s108 : F93 12 = .int .i64 (atF (f) (p) (((u) + (1)) / 2) ((v) / 2)) := (hF97 12).trans s90
  have s109 : F93 13 = .int .i64 (atF (f) (p) ((u) / 2) (((v) + (1)) / 2)) := (hF97 13).trans s91
  have s110 : F93 14 = .int .i64 (atF (f) (p) (((u) + (1)) / 2) (((v) + (1)) / 2)) := (hF97 14).trans (G96 9 (by decide))
  clear G96 hF97
  refine then_normal ?_
  refine wq_seq ?_
  refine wq_block ?_
  refine wq_seq ?_
  by_cases d111 : (Int.tmod (u) (2)) = (0)
  · skip
    refine wq_region ?_
    refine wl_v (.int .i64 (u)) rfl rfl (y_mov rfl s105 ⟨rfl, rfl⟩) ?_
    refine wl_v (.int .i64 (Int.tmod (u) (2))) rfl rfl (y_rem rfl rfl rfl (by first | decide | omega) rfl ⟨rfl, rfl⟩) ?_
    refine wl_v (.bool true) rfl rfl (y_eqlI rfl rfl rfl (decide_eq_true d111) ⟨rfl, rfl⟩) ?_
    refine wl_v (.bool true) rfl rfl (y_mov rfl rfl ⟨rfl, rfl⟩) ?_
    refine wl_vw (.int .i64 (v)) 3 true 57 rfl rfl rfl rfl rfl (y_mov rfl s106 ⟨rfl, rfl⟩) ?_
    refine wl_vw (.int .i64 (Int.tmod (v) (2))) 3 true 57 rfl rfl rfl rfl rfl (y_rem rfl rfl rfl (by first | decide | omega) rfl ⟨rfl, rfl⟩) ?_
    refine wl_vw (.bool (decide ((Int.tmod (v) (2)) = (0)))) 3 true 57 rfl rfl rfl rfl rfl (y_eqlI rfl rfl rfl rfl ⟨rfl, rfl⟩) ?_
    refine wl_v (.bool (decide ((Int.tmod (v) (2)) = (0)))) rfl rfl (y_pickT rfl rfl rfl ⟨rfl, rfl⟩) ?_
    refine wl_v (.bool (decide ((Int.tmod (v) (2)) = (0)))) rfl rfl (y_asg rfl rfl ⟨rfl, rfl⟩) ?_
    refine wl_nil fun F112 hF113 => ?_
    have s114 : F112 90 = undef := (hF113 90).trans s104
    have s115 : F112 9 = .int .i64 (u) := (hF113 9).trans s105
    have s116 : F112 10 = .int .i64 (v) := (hF113 10).trans s106
    have s117 : F112 11 = .int .i64 (atF (f) (p) ((u) / 2) ((v) / 2)) := (hF113 11).trans s107
    have s118 : F112 12 = .int .i64 (atF (f) (p) (((u) + (1)) / 2) ((v) / 2)) := (hF113 12).trans s108
    have s119 : F112 13 = .int .i64 (atF (f) (p) ((u) / 2) (((v) + (1)) / 2)) := (hF113 13).trans s109
    have s120 : F112 14 = .int .i64 (atF (f) (p) (((u) + (1)) / 2) (((v) + (1)) / 2)) := (hF113 14).trans s110
    have s121 : F112 53 = .bool (decide ((Int.tmod (v) (2)) = (0))) := (hF113 53).trans rfl
    clear hF113
    refine then_normal ?_
    refine wq_cond s121 (fun c122 => ?_) (fun c122 => ?_)
    · replace c122 := of_decide_eq_true c122
      refine wq_seq ?_
      refine wq_region ?_
      refine wl_v (.int .i64 (atF (f) (p) ((u) / 2) ((v) / 2))) rfl rfl (y_mov rfl s117 ⟨rfl, rfl⟩) ?_
      refine wl_v (.int .i64 (atF (f) (p) ((u) / 2) ((v) / 2))) rfl rfl (y_asg rfl rfl ⟨rfl, rfl⟩) ?_
      refine wl_nil fun F123 hF124 => ?_
      have s125 : F123 90 = undef := (hF124 90).trans s114
      have s126 : F123 8 = .int .i64 (atF (f) (p) ((u) / 2) ((v) / 2)) := (hF124 8).trans rfl
      clear hF124
      refine then_normal ?_
      refine wq_ret ?_
      refine in_ret ?_
      refine then_ret ?_
      exact end_tmp (v := .int .i64 (atF (f) (p) ((u) / 2) ((v) / 2))) s125 rfl rfl s126 ⟨(by first | (rw [hm]; done) | rw [hm, mid_both (by omega) (by omega)]), K103⟩
    · replace c122 := of_decide_eq_false c122
      refine wq_seq ?_
      refine wq_region ?_
      refine wl_v (.int .i64 (v)) rfl rfl (y_mov rfl s116 ⟨rfl, rfl⟩) ?_
      refine wl_v (.int .i64 (Int.tmod (v) (2))) rfl rfl (y_rem rfl rfl rfl (by first | decide | omega) rfl ⟨rfl, rfl⟩) ?_
      refine wl_v (.bool false) rfl rfl (y_eqlI rfl rfl rfl (decide_eq_false c122) ⟨rfl, rfl⟩) ?_
      refine wl_v (.bool false) rfl rfl (y_asg rfl rfl ⟨rfl, rfl⟩) ?_
      refine wl_nil fun F127 hF128 => ?_
      have s129 : F127 90 = undef := (hF128 90).trans s114
      have s130 : F127 9 = .int .i64 (u) := (hF128 9).trans s115
      have s131 : F127 11 = .int .i64 (atF (f) (p) ((u) / 2) ((v) / 2)) := (hF128 11).trans s117
      have s132 : F127 12 = .int .i64 (atF (f) (p) (((u) + (1)) / 2) ((v) / 2)) := (hF128 12).trans s118
      have s133 : F127 13 = .int .i64 (atF (f) (p) ((u) / 2) (((v) + (1)) / 2)) := (hF128 13).trans s119
      have s134 : F127 14 = .int .i64 (atF (f) (p) (((u) + (1)) / 2) (((v) + (1)) / 2)) := (hF128 14).trans s120
      have s135 : F127 63 = .bool false := (hF128 63).trans rfl
      clear hF128
      refine then_normal ?_
      refine wq_cond (t := false) s135 (fun e => by cases e) (fun _ => ?_)
      refine wq_seq ?_
      refine wq_region ?_
      refine wl_v (.int .i64 (u)) rfl rfl (y_mov rfl s130 ⟨rfl, rfl⟩) ?_
      refine wl_v (.int .i64 (Int.tmod (u) (2))) rfl rfl (y_rem rfl rfl rfl (by first | decide | omega) rfl ⟨rfl, rfl⟩) ?_
      refine wl_v (.bool true) rfl rfl (y_eqlI rfl rfl rfl (decide_eq_true d111) ⟨rfl, rfl⟩) ?_
      refine wl_v (.bool true) rfl rfl (y_asg rfl rfl ⟨rfl, rfl⟩) ?_
      refine wl_nil fun F136 hF137 => ?_
      have s138 : F136 90 = undef := (hF137 90).trans s129
      have s139 : F136 11 = .int .i64 (atF (f) (p) ((u) / 2) ((v) / 2)) := (hF137 11).trans s131
      have s140 : F136 12 = .int .i64 (atF (f) (p) (((u) + (1)) / 2) ((v) / 2)) := (hF137 12).trans s132
      have s141 : F136 13 = .int .i64 (atF (f) (p) ((u) / 2) (((v) + (1)) / 2)) := (hF137 13).trans s133
      have s142 : F136 14 = .int .i64 (atF (f) (p) (((u) + (1)) / 2) (((v) + (1)) / 2)) := (hF137 14).trans s134
      have s143 : F136 72 = .bool true := (hF137 72).trans rfl
      clear hF137
      refine then_normal ?_
      refine wq_cond (t := true) s143 (fun _ => ?_) (fun e => by cases e)
      refine wq_seq ?_
      refine wq_region ?_
      refine wl_v (.int .i64 (atF (f) (p) ((u) / 2) ((v) / 2))) rfl rfl (y_mov rfl s139 ⟨rfl, rfl⟩) ?_
      refine wl_v (.int .i64 (atF (f) (p) ((u) / 2) (((v) + (1)) / 2))) rfl rfl (y_mov rfl s141 ⟨rfl, rfl⟩) ?_
      refine wl_v (.int .i64 ((atF (f) (p) ((u) / 2) ((v) / 2)) + (atF (f) (p) ((u) / 2) (((v) + (1)) / 2)))) rfl rfl (y_add rfl rfl rfl (i64_i rfl (by omega)) ⟨rfl, rfl⟩) ?_
      refine wl_v (.int .i64 (((atF (f) (p) ((u) / 2) ((v) / 2)) + (atF (f) (p) ((u) / 2) (((v) + (1)) / 2))) + (1))) rfl rfl (y_add rfl rfl rfl (i64_i rfl (by omega)) ⟨rfl, rfl⟩) ?_
      refine wl_v (.int .i64 (mid f p u v)) rfl rfl (y_quo rfl rfl rfl (by first | decide | omega) ((by rw [mid_down (by omega) (by omega)]; exact i64_i (tdiv2 (by omega)) (by omega))) ⟨rfl, rfl⟩) ?_
      refine wl_v (.int .i64 (mid f p u v)) rfl rfl (y_asg rfl rfl ⟨rfl, rfl⟩) ?_
      refine wl_nil fun F144 hF145 => ?_
      have s146 : F144 90 = undef := (hF145 90).trans s138
      have s147 : F144 8 = .int .i64 (mid f p u v) := (hF145 8).trans rfl
      clear hF145
      refine then_normal ?_
      refine wq_ret ?_
      refine in_ret ?_
      refine then_ret ?_
      exact end_tmp (v := .int .i64 (mid f p u v)) s146 rfl rfl s147 ⟨(by first | (rw [hm]; done) | rw [hm, mid_both (by omega) (by omega)]), K103⟩
  · skip
    refine wq_region ?_
    refine wl_v (.int .i64 (u)) rfl rfl (y_mov rfl s105 ⟨rfl, rfl⟩) ?_
    refine wl_v (.int .i64 (Int.tmod (u) (2))) rfl rfl (y_rem rfl rfl rfl (by first | decide | omega) rfl ⟨rfl, rfl⟩) ?_
    refine wl_v (.bool false) rfl rfl (y_eqlI rfl rfl rfl (decide_eq_false d111) ⟨rfl, rfl⟩) ?_
    refine wl_v (.bool false) rfl rfl (y_mov rfl rfl ⟨rfl, rfl⟩) ?_
    refine wl_unless 3 true 57 rfl rfl rfl (Or.inl rfl) rfl ?_
    refine wl_unless 3 true 57 rfl rfl rfl (Or.inl rfl) rfl ?_
    refine wl_unless 3 true 57 rfl rfl rfl (Or.inl rfl) rfl ?_
    refine wl_v (.bool false) rfl rfl (y_pickF rfl rfl rfl ⟨rfl, rfl⟩) ?_
    refine wl_v (.bool false) rfl rfl (y_asg rfl rfl ⟨rfl, rfl⟩) ?_
    refine wl_nil fun F148 hF149 => ?_
    have s150 : F148 90 = undef := (hF149 90).trans s104
    have s151 : F148 9 = .int .i64 (u) := (hF149 9).trans s105
    have s152 : F148 10 = .int .i64 (v) := (hF149 10).trans s106
    have s153 : F148 11 = .int .i64 (atF (f) (p) ((u) / 2) ((v) / 2)) := (hF149 11).trans s107
    have s154 : F148 12 = .int .i64 (atF (f) (p) (((u) + (1)) / 2) ((v) / 2)) := (hF149 12).trans s108
    have s155 : F148 13 = .int .i64 (atF (f) (p) ((u) / 2) (((v) + (1)) / 2)) := (hF149 13).trans s109
    have s156 : F148 14 = .int .i64 (atF (f) (p) (((u) + (1)) / 2) (((v) + (1)) / 2)) := (hF149 14).trans s110
    have s157 : F148 53 = .bool false := (hF149 53).trans rfl
    clear hF149
    refine then_normal ?_
    refine wq_cond (t := false) s157 (fun e => by cases e) (fun _ => ?_)
    refine wq_seq ?_
    refine wq_region ?_
    refine wl_v (.int .i64 (v)) rfl rfl (y_mov rfl s152 ⟨rfl, rfl⟩) ?_
    refine wl_v (.int .i64 (Int.tmod (v) (2))) rfl rfl (y_rem rfl rfl rfl (by first | decide | omega) rfl ⟨rfl, rfl⟩) ?_
    refine wl_v (.bool (decide ((Int.tmod (v) (2)) = (0)))) rfl rfl (y_eqlI rfl rfl rfl rfl ⟨rfl, rfl⟩) ?_
    refine wl_v (.bool (decide ((Int.tmod (v) (2)) = (0)))) rfl rfl (y_asg rfl rfl ⟨rfl, rfl⟩) ?_
    refine wl_nil fun F158 hF159 => ?_
    have s160 : F158 90 = undef := (hF159 90).trans s150
    have s161 : F158 9 = .int .i64 (u) := (hF159 9).trans s151
    have s162 : F158 11 = .int .i64 (atF (f) (p) ((u) / 2) ((v) / 2)) := (hF159 11).trans s153
    have s163 : F158 12 = .int .i64 (atF (f) (p) (((u) + (1)) / 2) ((v) / 2)) := (hF159 12).trans s154
    have s164 : F158 13 = .int .i64 (atF (f) (p) ((u) / 2) (((v) + (1)) / 2)) := (hF159 13).trans s155
    have s165 : F158 14 = .int .i64 (atF (f) (p) (((u) + (1)) / 2) (((v) + (1)) / 2)) := (hF159 14).trans s156
    have s166 : F158 63 = .bool (decide ((Int.tmod (v) (2)) = (0))) := (hF159 63).trans rfl
    clear hF159
    refine then_normal ?_
    refine wq_cond s166 (fun c167 => ?_) (fun c167 => ?_)
    · replace c167 := of_decide_eq_true c167
      refine wq_seq ?_
      refine wq_region ?_
      refine wl_v (.int .i64 (atF (f) (p) ((u) / 2) ((v) / 2))) rfl rfl (y_mov rfl s162 ⟨rfl, rfl⟩) ?_
      refine wl_v (.int .i64 (atF (f) (p) (((u) + (1)) / 2) ((v) / 2))) rfl rfl (y_mov rfl s163 ⟨rfl, rfl⟩) ?_
      refine wl_v (.int .i64 ((atF (f) (p) ((u) / 2) ((v) / 2)) + (atF (f) (p) (((u) + (1)) / 2) ((v) / 2)))) rfl rfl (y_add rfl rfl rfl (i64_i rfl (by omega)) ⟨rfl, rfl⟩) ?_
      refine wl_v (.int .i64 (((atF (f) (p) ((u) / 2) ((v) / 2)) + (atF (f) (p) (((u) + (1)) / 2) ((v) / 2))) + (1))) rfl rfl (y_add rfl rfl rfl (i64_i rfl (by omega)) ⟨rfl, rfl⟩) ?_
      refine wl_v (.int .i64 (mid f p u v)) rfl rfl (y_quo rfl rfl rfl (by first | decide | omega) ((by rw [mid_side (by omega) (by omega)]; exact i64_i (tdiv2 (by omega)) (by omega))) ⟨rfl, rfl⟩) ?_
      refine wl_v (.int .i64 (mid f p u v)) rfl rfl (y_asg rfl rfl ⟨rfl, rfl⟩) ?_
      refine wl_nil fun F168 hF169 => ?_
      have s170 : F168 90 = undef := (hF169 90).trans s160
      have s171 : F168 8 = .int .i64 (mid f p u v) := (hF169 8).trans rfl
      clear hF169
      refine then_normal ?_
      refine wq_ret ?_
      refine in_ret ?_
      refine then_ret ?_
      exact end_tmp (v := .int .i64 (mid f p u v)) s170 rfl rfl s171 ⟨(by first | (rw [hm]; done) | rw [hm, mid_both (by omega) (by omega)]), K103⟩
    · replace c167 := of_decide_eq_false c167
      refine wq_seq ?_
      refine wq_region ?_
      refine wl_v (.int .i64 (u)) rfl rfl (y_mov rfl s161 ⟨rfl, rfl⟩) ?_
      refine wl_v (.int .i64 (Int.tmod (u) (2))) rfl rfl (y_rem rfl rfl rfl (by first | decide | omega) rfl ⟨rfl, rfl⟩) ?_
      refine wl_v (.bool false) rfl rfl (y_eqlI rfl rfl rfl (decide_eq_false d111) ⟨rfl, rfl⟩) ?_
      refine wl_v (.bool false) rfl rfl (y_asg rfl rfl ⟨rfl, rfl⟩) ?_
      refine wl_nil fun F172 hF173 => ?_
      have s174 : F172 90 = undef := (hF173 90).trans s160
      have s175 : F172 11 = .int .i64 (atF (f) (p) ((u) / 2) ((v) / 2)) := (hF173 11).trans s162
      have s176 : F172 12 = .int .i64 (atF (f) (p) (((u) + (1)) / 2) ((v) / 2)) := (hF173 12).trans s163
      have s177 : F172 13 = .int .i64 (atF (f) (p) ((u) / 2) (((v) + (1)) / 2)) := (hF173 13).trans s164
      have s178 : F172 14 = .int .i64 (atF (f) (p) (((u) + (1)) / 2) (((v) + (1)) / 2)) := (hF173 14).trans s165
      have s179 : F172 72 = .bool false := (hF173 72).trans rfl
      clear hF173
      refine then_normal ?_
      refine wq_cond (t := false) s179 (fun e => by cases e) (fun _ => ?_)
      refine wq_skip ?_
      refine in_normal ?_
      refine then_normal ?_
      refine wq_seq ?_
      refine wq_region ?_
      refine wl_v (.int .i64 (atF (f) (p) ((u) / 2) ((v) / 2))) rfl rfl (y_mov rfl s175 ⟨rfl, rfl⟩) ?_
      refine wl_v (.int .i64 (atF (f) (p) (((u) + (1)) / 2) ((v) / 2))) rfl rfl (y_mov rfl s176 ⟨rfl, rfl⟩) ?_
      refine wl_v (.int .i64 ((atF (f) (p) ((u) / 2) ((v) / 2)) + (atF (f) (p) (((u) + (1)) / 2) ((v) / 2)))) rfl rfl (y_add rfl rfl rfl (i64_i rfl (by omega)) ⟨rfl, rfl⟩) ?_
      refine wl_v (.int .i64 (atF (f) (p) ((u) / 2) (((v) + (1)) / 2))) rfl rfl (y_mov rfl s177 ⟨rfl, rfl⟩) ?_
      refine wl_v (.int .i64 (((atF (f) (p) ((u) / 2) ((v) / 2)) + (atF (f) (p) (((u) + (1)) / 2) ((v) / 2))) + (atF (f) (p) ((u) / 2) (((v) + (1)) / 2)))) rfl rfl (y_add rfl rfl rfl (i64_i rfl (by omega)) ⟨rfl, rfl⟩) ?_
      refine wl_v (.int .i64 (atF (f) (p) (((u) + (1)) / 2) (((v) + (1)) / 2))) rfl rfl (y_mov rfl s178 ⟨rfl, rfl⟩) ?_
      refine wl_v (.int .i64 ((((atF (f) (p) ((u) / 2) ((v) / 2)) + (atF (f) (p) (((u) + (1)) / 2) ((v) / 2))) + (atF (f) (p) ((u) / 2) (((v) + (1)) / 2))) + (atF (f) (p) (((u) + (1)) / 2) (((v) + (1)) / 2)))) rfl rfl (y_add rfl rfl rfl (i64_i rfl (by omega)) ⟨rfl, rfl⟩) ?_
      refine wl_v (.int .i64 (((((atF (f) (p) ((u) / 2) ((v) / 2)) + (atF (f) (p) (((u) + (1)) / 2) ((v) / 2))) + (atF (f) (p) ((u) / 2) (((v) + (1)) / 2))) + (atF (f) (p) (((u) + (1)) / 2) (((v) + (1)) / 2))) + (2))) rfl rfl (y_add rfl rfl rfl (i64_i rfl (by omega)) ⟨rfl, rfl⟩) ?_
      refine wl_v (.int .i64 (mid f p u v)) rfl rfl (y_quo rfl rfl rfl (by first | decide | omega) ((by rw [mid_none (by omega) (by omega)]; exact i64_i (tdiv4 (by omega)) (by omega))) ⟨rfl, rfl⟩) ?_
      refine wl_v (.int .i64 (mid f p u v)) rfl rfl (y_asg rfl rfl ⟨rfl, rfl⟩) ?_
      refine wl_nil fun F180 hF181 => ?_
      have s182 : F180 90 = undef := (hF181 90).trans s174
      have s183 : F180 8 = .int .i64 (mid f p u v) := (hF181 8).trans rfl
      clear hF181
      refine then_normal ?_
      refine wq_ret ?_
      exact end_tmp (v := .int .i64 (mid f p u v)) s182 rfl rfl s183 ⟨(by first | (rw [hm]; done) | rw [hm, mid_both (by omega) (by omega)]), K103⟩

set_option maxHeartbeats 4000000 in
set_option maxRecDepth 100000 in
theorem mref_predict (p x y X Y : Int) (f : FD) (f0 f1 f2 : Value) (T_f0 : Nat → Prop) (T_f1 : Nat → Prop) (T_f2 : Nat → Prop) (w0 : World) (h_f0 : Byt w0 T_f0 f0 ((f).p0)) (h_f1 : Byt w0 T_f1 f1 ((f).p1)) (h_f2 : Byt w0 T_f2 f2 ((f).p2)) :
    Calls Try.prog 12 #[.agg #[.int .i64 ((f).W), .int .i64 ((f).H), f0, f1, f2], .int .i64 (p), .int .i64 (x), .int .i64 (y), .agg #[.int .i64 (X), .int .i64 (Y)]] w0 fun e w' => e = .returned (.tuple #[blkV (mvB f p x y X Y), .int .i64 (mvE f p x y X Y)]) ∧ Kept (fun _ => False) w0 w' := by
  refine calls_wq (args := [.agg #[.int .i64 ((f).W), .int .i64 ((f).H), f0, f1, f2], .int .i64 (p), .int .i64 (x), .int .i64 (y), .agg #[.int .i64 (X), .int .i64 (Y)]]) 73 Try.func12 rfl rfl (Nat.le_of_ble_eq_true rfl) ?_
  have K0 := Kept.refl (fun _ => False) w0
  have g_f0 := Grew.refl w0 T_f0
  have g_f1 := Grew.refl w0 T_f1
  have g_f2 := Grew.refl w0 T_f2
  refine wq_seq ?_
  refine wq_region ?_
  refine wl_box_stc (vs := [.int .i64 ((f).W), .int .i64 ((f).H), f0, f1, f2]) rfl rfl rfl rfl fun p1 w2 B4 g5 k3 => ?_
  have gr6 : Grew w0 noB (onB p1) := Grew.new K0 g5
  have ap7 : Apart (onB p1) (T_f0) := Apart.new g5 (h_f0).live
  have ap8 : Apart (onB p1) (T_f1) := Apart.new g5 (h_f1).live
  have ap9 : Apart (onB p1) (T_f2) := Apart.new g5 (h_f2).live
  have B10 := h_f0.all k3 Apart.none
  have B11 := h_f1.all k3 Apart.none
  have B12 := h_f2.all k3 Apart.none
  have K13 := K0.trans k3 (fun _ _ x => x.elim)
  refine wl_box_stc (vs := [.int .i64 (X), .int .i64 (Y)]) rfl rfl rfl rfl fun p14 w15 B17 g18 k16 => ?_
  have gr19 : Grew w0 noB (onB p14) := Grew.new K13 g18
  have ap20 : Apart (onB p14) (T_f0) := Apart.new g18 (B10).live
  have ap21 : Apart (onB p14) (T_f1) := Apart.new g18 (B11).live
  have ap22 : Apart (onB p14) (T_f2) := Apart.new g18 (B12).live
  have ap23 : Apart (onB p14) (onB p1) := Apart.new g18 (onB_live (B4).lt)
  have B24 := B10.all k16 Apart.none
  have B25 := B11.all k16 Apart.none
  have B26 := B12.all k16 Apart.none
  have B27 := B4.all k16 id
  have K28 := K13.trans k16 (fun _ _ x => x.elim)
  refine wl_alloc_blk rfl rfl rfl blkT_arr.2.2 fun p29 w30 e33 B31 k32 => ?_
  have g34 := onB_new (Nat.le_of_eq e33.symm)
  have gr35 : Grew w0 noB (onB p29) := Grew.new K28 g34
  have ap36 : Apart (onB p29) (T_f0) := Apart.new g34 (B24).live
  have ap37 : Apart (onB p29) (T_f1) := Apart.new g34 (B25).live
  have ap38 : Apart (onB p29) (T_f2) := Apart.new g34 (B26).live
  have ap39 : Apart (onB p29) (onB p1) := Apart.new g34 (onB_live (B27).lt)
  have ap40 : Apart (onB p29) (onB p14) := Apart.new g34 (onB_live (B17).lt)
  clear e33 g34
  have B41 := B24.all k32 Apart.none
  have B42 := B25.all k32 Apart.none
  have B43 := B26.all k32 Apart.none
  have B44 := B27.all k32 id
  have B45 := B17.all k32 id
  have K46 := K28.trans k32 (fun _ _ x => x.elim)
  refine wl_v (.int .i64 (0)) rfl rfl (y_asg rfl rfl ⟨rfl, rfl⟩) ?_
  refine wl_nil fun F47 hF48 => ?_
  have s49 : F47 1 = .int .i64 (p) := (hF48 1).trans rfl
  have s50 : F47 2 = .int .i64 (x) := (hF48 2).trans rfl
  have s51 : F47 3 = .int .i64 (y) := (hF48 3).trans rfl
  have s52 : F47 73 = undef := (hF48 73).trans rfl
  have s53 : F47 5 = .pointer (some ⟨p1, 0, none⟩) := (hF48 5).trans rfl
  have s54 : F47 9 = .pointer (some ⟨p14, 0, none⟩) := (hF48 9).trans rfl
  have s55 : F47 10 = .pointer (some ⟨p29, 0, none⟩) := (hF48 10).trans rfl
  clear hF48
  refine then_normal ?_
  refine wq_seq ?_
  refine wq_region ?_
  refine wl_v (blkV (fun _ => 0)) rfl rfl (y_buildR (cells := (arrL 16 (fun _ => 0)).toArray) rfl (by kernel_rfl) rfl ⟨rfl, rfl⟩) ?_
  refine wl_alloc_blk rfl rfl rfl blkT_arr.2.2 fun p56 w57 e60 B58 k59 => ?_
  have g61 := onB_new (Nat.le_of_eq e60.symm)
  have gr62 : Grew w0 noB (onB p56) := Grew.new K46 g61
  have ap63 : Apart (onB p56) (T_f0) := Apart.new g61 (B41).live
  have ap64 : Apart (onB p56) (T_f1) := Apart.new g61 (B42).live
  have ap65 : Apart (onB p56) (T_f2) := Apart.new g61 (B43).live
  have ap66 : Apart (onB p56) (onB p1) := Apart.new g61 (onB_live (B44).lt)
  have ap67 : Apart (onB p56) (onB p14) := Apart.new g61 (onB_live (B45).lt)
  have ap68 : Apart (onB p56) (onB p29) := Apart.new g61 (onB_live (B31).lt)
  clear e60 g61
  have B69 := B41.all k59 Apart.none
  have B70 := B42.all k59 Apart.none
  have B71 := B43.all k59 Apart.none
  have B72 := B44.all k59 id
  have B73 := B45.all k59 id
  have B74 := B31.all k59 id
  have K75 := K46.trans k59 (fun _ _ x => x.elim)
  refine wl_store_blk blkT_arr rfl rfl rfl rfl rfl B58 fun w76 B77 k78 => ?_
  have B79 := B69.all k78 (fun i h x => (((ap63).symm) i h x))
  have B80 := B70.all k78 (fun i h x => (((ap64).symm) i h x))
  have B81 := B71.all k78 (fun i h x => (((ap65).symm) i h x))
  have B82 := B72.all k78 (fun x => (((ap66).symm) p1 rfl x))
  have B83 := B73.all k78 (fun x => (((ap67).symm) p14 rfl x))
  have B84 := B74.all k78 (fun x => (((ap68).symm) p29 rfl x))
  have K85 := K75.trans k78 (Grew.ok (S := fun _ => False) gr62 noB_le)
  refine wl_nil fun F86 hF87 => ?_
  have s88 : F86 1 = .int .i64 (p) := (hF87 1).trans s49
  have s89 : F86 2 = .int .i64 (x) := (hF87 2).trans s50
  have s90 : F86 3 = .int .i64 (y) := (hF87 3).trans s51
  have s91 : F86 73 = undef := (hF87 73).trans s52
  have s92 : F86 5 = .pointer (some ⟨p1, 0, none⟩) := (hF87 5).trans s53
  have s93 : F86 9 = .pointer (some ⟨p14, 0, none⟩) := (hF87 9).trans s54
  have s94 : F86 10 = .pointer (some ⟨p29, 0, none⟩) := (hF87 10).trans s55
  have s95 : F86 12 = .pointer (some ⟨p56, 0, none⟩) := (hF87 12).trans rfl
  clear hF87
  refine then_normal ?_
  refine wq_seq ?_
  refine wq_seq ?_
  by_cases d96 : (checkE (f)) ≠ (0)
  · skip
    refine wq_region ?_
    refine wl_v (.agg #[.int .i64 ((f).W), .int .i64 ((f).H), f0, f1, f2]) rfl rfl (y_load_stc stcT_frame rfl s92 B82 ⟨rfl, rfl⟩) ?_
    refine wl_call (R := fun v_ w_ => v_ = .int .i64 (checkE (f)) ∧ Kept (fun _ => False) w76 w_) rfl rfl (y_cs rfl rfl rfl (fun _ _ => by kernel_rfl) (ev_func _) (vsC rfl vsN) (fref_check (f) (f0) (f1) (f2) (T_f0) (T_f1) (T_f2) _  B79 B80 B81 ) (fun e_ w_ h_ => ⟨_, h_.1, rfl, h_.2⟩)) ?_
    rintro _ w97 ⟨rfl, k98⟩
    have B99 := B79.all k98 Apart.none
    have B100 := B80.all k98 Apart.none
    have B101 := B81.all k98 Apart.none
    have B102 := B82.all k98 id
    have B103 := B83.all k98 id
    have B104 := B84.all k98 id
    have B105 := B77.all k98 id
    have K106 := K85.trans k98 (fun _ _ x => x.elim)
    refine wl_v (.bool true) rfl rfl (y_neqI rfl rfl rfl (decide_eq_true d96) ⟨rfl, rfl⟩) ?_
    refine wl_v (.bool true) rfl rfl (y_mov rfl rfl ⟨rfl, rfl⟩) ?_
    refine wl_unless 3 false 18 rfl rfl rfl (Or.inl rfl) rfl ?_
    refine wl_unless 3 false 18 rfl rfl rfl (Or.inl rfl) rfl ?_
    refine wl_v (.bool true) rfl rfl (y_pickT rfl rfl rfl ⟨rfl, rfl⟩) ?_
    refine wl_v (.bool true) rfl rfl (y_mov rfl rfl ⟨rfl, rfl⟩) ?_
    refine wl_unless 7 false 22 rfl rfl rfl (Or.inl rfl) rfl ?_
    refine wl_unless 7 false 22 rfl rfl rfl (Or.inl rfl) rfl ?_
    refine wl_v (.bool true) rfl rfl (y_pickT rfl rfl rfl ⟨rfl, rfl⟩) ?_
    refine wl_v (.bool true) rfl rfl (y_mov rfl rfl ⟨rfl, rfl⟩) ?_
    refine wl_unless 11 false 26 rfl rfl rfl (Or.inl rfl) rfl ?_
    refine wl_unless 11 false 26 rfl rfl rfl (Or.inl rfl) rfl ?_
    refine wl_v (.bool true) rfl rfl (y_pickT rfl rfl rfl ⟨rfl, rfl⟩) ?_
    refine wl_v (.bool true) rfl rfl (y_mov rfl rfl ⟨rfl, rfl⟩) ?_
    refine wl_unless 15 false 30 rfl rfl rfl (Or.inl rfl) rfl ?_
    refine wl_unless 15 false 30 rfl rfl rfl (Or.inl rfl) rfl ?_
    refine wl_v (.bool true) rfl rfl (y_pickT rfl rfl rfl ⟨rfl, rfl⟩) ?_
    refine wl_v (.bool true) rfl rfl (y_mov rfl rfl ⟨rfl, rfl⟩) ?_
    refine wl_unless 19 false 34 rfl rfl rfl (Or.inl rfl) rfl ?_
    refine wl_unless 19 false 34 rfl rfl rfl (Or.inl rfl) rfl ?_
    refine wl_v (.bool true) rfl rfl (y_pickT rfl rfl rfl ⟨rfl, rfl⟩) ?_
    refine wl_v (.bool true) rfl rfl (y_mov rfl rfl ⟨rfl, rfl⟩) ?_
    refine wl_unless 23 false 38 rfl rfl rfl (Or.inl rfl) rfl ?_
    refine wl_unless 23 false 38 rfl rfl rfl (Or.inl rfl) rfl ?_
    refine wl_v (.bool true) rfl rfl (y_pickT rfl rfl rfl ⟨rfl, rfl⟩) ?_
    refine wl_nil fun F107 hF108 => ?_
    have s109 : F107 1 = .int .i64 (p) := (hF108 1).trans s88
    have s110 : F107 2 = .int .i64 (x) := (hF108 2).trans s89
    have s111 : F107 3 = .int .i64 (y) := (hF108 3).trans s90
    have s112 : F107 73 = undef := (hF108 73).trans s91
    have s113 : F107 5 = .pointer (some ⟨p1, 0, none⟩) := (hF108 5).trans s92
    have s114 : F107 9 = .pointer (some ⟨p14, 0, none⟩) := (hF108 9).trans s93
    have s115 : F107 10 = .pointer (some ⟨p29, 0, none⟩) := (hF108 10).trans s94
    have s116 : F107 12 = .pointer (some ⟨p56, 0, none⟩) := (hF108 12).trans s95
    have s117 : F107 41 = .bool true := (hF108 41).trans rfl
    clear hF108
    refine then_normal ?_
    refine wq_cond (t := true) s117 (fun _ => ?_) (fun e => by cases e)
    refine wq_seq ?_
    have hno : ¬ placeF f p x y := by rintro ⟨h1, h2, h3, h4, h5, h6, h7⟩; first | exact absurd ((checkE_iff f).2 h1) (by assumption) | omega
    refine wq_region ?_
    refine wl_v (blkV (fun _ => 0)) rfl rfl (y_load_blk blkT_arr rfl s116 B105 ⟨rfl, rfl⟩) ?_
    refine wl_store_blk blkT_arr rfl rfl rfl s115 rfl B104 fun w118 B119 k120 => ?_
    have B121 := B99.all k120 (fun i h x => (((ap36).symm) i h x))
    have B122 := B100.all k120 (fun i h x => (((ap37).symm) i h x))
    have B123 := B101.all k120 (fun i h x => (((ap38).symm) i h x))
    have B124 := B102.all k120 (fun x => (((ap39).symm) p1 rfl x))
    have B125 := B103.all k120 (fun x => (((ap40).symm) p14 rfl x))
    have B126 := B105.all k120 (fun x => ((ap68) p56 rfl x))
    have K127 := K106.trans k120 (Grew.ok (S := fun _ => False) gr35 noB_le)
    refine wl_v (.int .i64 (70)) rfl rfl (y_asg rfl rfl ⟨rfl, rfl⟩) ?_
    refine wl_nil fun F128 hF129 => ?_
    have s130 : F128 73 = undef := (hF129 73).trans s112
    have s131 : F128 10 = .pointer (some ⟨p29, 0, none⟩) := (hF129 10).trans s115
    have s132 : F128 11 = .int .i64 (70) := (hF129 11).trans rfl
    clear hF129
    refine then_normal ?_
    refine wq_ret ?_
    refine then_ret ?_
    exact end_2 s130 rfl (res_blk blkT_arr rfl s131 B119) (res_tmp (v := .int .i64 (70)) rfl s132) ⟨(by first | rw [(mv_no hno).1, (mv_no hno).2] | rw [(mv_none hpl hvn).1, (mv_none hpl hvn).2] | rw [(mv_yes hpl hv).1, (mv_yes hpl hv).2]), K127⟩
  · skip
    by_cases d133 : (p) < (0)
    · skip
      refine wq_region ?_
      refine wl_v (.agg #[.int .i64 ((f).W), .int .i64 ((f).H), f0, f1, f2]) rfl rfl (y_load_stc stcT_frame rfl s92 B82 ⟨rfl, rfl⟩) ?_
      refine wl_call (R := fun v_ w_ => v_ = .int .i64 (checkE (f)) ∧ Kept (fun _ => False) w76 w_) rfl rfl (y_cs rfl rfl rfl (fun _ _ => by kernel_rfl) (ev_func _) (vsC rfl vsN) (fref_check (f) (f0) (f1) (f2) (T_f0) (T_f1) (T_f2) _  B79 B80 B81 ) (fun e_ w_ h_ => ⟨_, h_.1, rfl, h_.2⟩)) ?_
      rintro _ w134 ⟨rfl, k135⟩
      have B136 := B79.all k135 Apart.none
      have B137 := B80.all k135 Apart.none
      have B138 := B81.all k135 Apart.none
      have B139 := B82.all k135 id
      have B140 := B83.all k135 id
      have B141 := B84.all k135 id
      have B142 := B77.all k135 id
      have K143 := K85.trans k135 (fun _ _ x => x.elim)
      refine wl_v (.bool false) rfl rfl (y_neqI rfl rfl rfl (decide_eq_false d96) ⟨rfl, rfl⟩) ?_
      refine wl_v (.bool false) rfl rfl (y_mov rfl rfl ⟨rfl, rfl⟩) ?_
      refine wl_vw (.int .i64 (p)) 3 false 18 rfl rfl rfl rfl rfl (y_mov rfl s88 ⟨rfl, rfl⟩) ?_
      refine wl_vw (.bool true) 3 false 18 rfl rfl rfl rfl rfl (y_lss rfl rfl rfl (decide_eq_true d133) ⟨rfl, rfl⟩) ?_
      refine wl_v (.bool true) rfl rfl (y_pickF rfl rfl rfl ⟨rfl, rfl⟩) ?_
      refine wl_v (.bool true) rfl rfl (y_mov rfl rfl ⟨rfl, rfl⟩) ?_
      refine wl_unless 7 false 22 rfl rfl rfl (Or.inl rfl) rfl ?_
      refine wl_unless 7 false 22 rfl rfl rfl (Or.inl rfl) rfl ?_
      refine wl_v (.bool true) rfl rfl (y_pickT rfl rfl rfl ⟨rfl, rfl⟩) ?_
      refine wl_v (.bool true) rfl rfl (y_mov rfl rfl ⟨rfl, rfl⟩) ?_
      refine wl_unless 11 false 26 rfl rfl rfl (Or.inl rfl) rfl ?_
      refine wl_unless 11 false 26 rfl rfl rfl (Or.inl rfl) rfl ?_
      refine wl_v (.bool true) rfl rfl (y_pickT rfl rfl rfl ⟨rfl, rfl⟩) ?_
      refine wl_v (.bool true) rfl rfl (y_mov rfl rfl ⟨rfl, rfl⟩) ?_
      refine wl_unless 15 false 30 rfl rfl rfl (Or.inl rfl) rfl ?_
      refine wl_unless 15 false 30 rfl rfl rfl (Or.inl rfl) rfl ?_
      refine wl_v (.bool true) rfl rfl (y_pickT rfl rfl rfl ⟨rfl, rfl⟩) ?_
      refine wl_v (.bool true) rfl rfl (y_mov rfl rfl ⟨rfl, rfl⟩) ?_
      refine wl_unless 19 false 34 rfl rfl rfl (Or.inl rfl) rfl ?_
      refine wl_unless 19 false 34 rfl rfl rfl (Or.inl rfl) rfl ?_
      refine wl_v (.bool true) rfl rfl (y_pickT rfl rfl rfl ⟨rfl, rfl⟩) ?_
      refine wl_v (.bool true) rfl rfl (y_mov rfl rfl ⟨rfl, rfl⟩) ?_
      refine wl_unless 23 false 38 rfl rfl rfl (Or.inl rfl) rfl ?_
      refine wl_unless 23 false 38 rfl rfl rfl (Or.inl rfl) rfl ?_
      refine wl_v (.bool true) rfl rfl (y_pickT rfl rfl rfl ⟨rfl, rfl⟩) ?_
      refine wl_nil fun F144 hF145 => ?_
      have s146 : F144 1 = .int .i64 (p) := (hF145 1).trans s88
      have s147 : F144 2 = .int .i64 (x) := (hF145 2).trans s89
      have s148 : F144 3 = .int .i64 (y) := (hF145 3).trans s90
      have s149 : F144 73 = undef := (hF145 73).trans s91
      have s150 : F144 5 = .pointer (some ⟨p1, 0, none⟩) := (hF145 5).trans s92
      have s151 : F144 9 = .pointer (some ⟨p14, 0, none⟩) := (hF145 9).trans s93
      have s152 : F144 10 = .pointer (some ⟨p29, 0, none⟩) := (hF145 10).trans s94
      have s153 : F144 12 = .pointer (some ⟨p56, 0, none⟩) := (hF145 12).trans s95
      have s154 : F144 41 = .bool true := (hF145 41).trans rfl
      clear hF145
      refine then_normal ?_
      refine wq_cond (t := true) s154 (fun _ => ?_) (fun e => by cases e)
      refine wq_seq ?_
      have hno : ¬ placeF f p x y := by rintro ⟨h1, h2, h3, h4, h5, h6, h7⟩; first | exact absurd ((checkE_iff f).2 h1) (by assumption) | omega
      refine wq_region ?_
      refine wl_v (blkV (fun _ => 0)) rfl rfl (y_load_blk blkT_arr rfl s153 B142 ⟨rfl, rfl⟩) ?_
      refine wl_store_blk blkT_arr rfl rfl rfl s152 rfl B141 fun w155 B156 k157 => ?_
      have B158 := B136.all k157 (fun i h x => (((ap36).symm) i h x))
      have B159 := B137.all k157 (fun i h x => (((ap37).symm) i h x))
      have B160 := B138.all k157 (fun i h x => (((ap38).symm) i h x))
      have B161 := B139.all k157 (fun x => (((ap39).symm) p1 rfl x))
      have B162 := B140.all k157 (fun x => (((ap40).symm) p14 rfl x))
      have B163 := B142.all k157 (fun x => ((ap68) p56 rfl x))
      have K164 := K143.trans k157 (Grew.ok (S := fun _ => False) gr35 noB_le)
      refine wl_v (.int .i64 (70)) rfl rfl (y_asg rfl rfl ⟨rfl, rfl⟩) ?_
      refine wl_nil fun F165 hF166 => ?_
      have s167 : F165 73 = undef := (hF166 73).trans s149
      have s168 : F165 10 = .pointer (some ⟨p29, 0, none⟩) := (hF166 10).trans s152
      have s169 : F165 11 = .int .i64 (70) := (hF166 11).trans rfl
      clear hF166
      refine then_normal ?_
      refine wq_ret ?_
      refine then_ret ?_
      exact end_2 s167 rfl (res_blk blkT_arr rfl s168 B156) (res_tmp (v := .int .i64 (70)) rfl s169) ⟨(by first | rw [(mv_no hno).1, (mv_no hno).2] | rw [(mv_none hpl hvn).1, (mv_none hpl hvn).2] | rw [(mv_yes hpl hv).1, (mv_yes hpl hv).2]), K164⟩
    · skip
      by_cases d170 : (2) < (p)
      · skip
        refine wq_region ?_
        refine wl_v (.agg #[.int .i64 ((f).W), .int .i64 ((f).H), f0, f1, f2]) rfl rfl (y_load_stc stcT_frame rfl s92 B82 ⟨rfl, rfl⟩) ?_
        refine wl_call (R := fun v_ w_ => v_ = .int .i64 (checkE (f)) ∧ Kept (fun _ => False) w76 w_) rfl rfl (y_cs rfl rfl rfl (fun _ _ => by kernel_rfl) (ev_func _) (vsC rfl vsN) (fref_check (f) (f0) (f1) (f2) (T_f0) (T_f1) (T_f2) _  B79 B80 B81 ) (fun e_ w_ h_ => ⟨_, h_.1, rfl, h_.2⟩)) ?_
        rintro _ w171 ⟨rfl, k172⟩
        have B173 := B79.all k172 Apart.none
        have B174 := B80.all k172 Apart.none
        have B175 := B81.all k172 Apart.none
        have B176 := B82.all k172 id
        have B177 := B83.all k172 id
        have B178 := B84.all k172 id
        have B179 := B77.all k172 id
        have K180 := K85.trans k172 (fun _ _ x => x.elim)
        refine wl_v (.bool false) rfl rfl (y_neqI rfl rfl rfl (decide_eq_false d96) ⟨rfl, rfl⟩) ?_
        refine wl_v (.bool false) rfl rfl (y_mov rfl rfl ⟨rfl, rfl⟩) ?_
        refine wl_vw (.int .i64 (p)) 3 false 18 rfl rfl rfl rfl rfl (y_mov rfl s88 ⟨rfl, rfl⟩) ?_
        refine wl_vw (.bool false) 3 false 18 rfl rfl rfl rfl rfl (y_lss rfl rfl rfl (decide_eq_false d133) ⟨rfl, rfl⟩) ?_
        refine wl_v (.bool false) rfl rfl (y_pickF rfl rfl rfl ⟨rfl, rfl⟩) ?_
        refine wl_v (.bool false) rfl rfl (y_mov rfl rfl ⟨rfl, rfl⟩) ?_
        refine wl_vw (.int .i64 (p)) 7 false 22 rfl rfl rfl rfl rfl (y_mov rfl s88 ⟨rfl, rfl⟩) ?_
        refine wl_vw (.bool true) 7 false 22 rfl rfl rfl rfl rfl (y_gtr rfl rfl rfl (decide_eq_true d170) ⟨rfl, rfl⟩) ?_
        refine wl_v (.bool true) rfl rfl (y_pickF rfl rfl rfl ⟨rfl, rfl⟩) ?_
        refine wl_v (.bool true) rfl rfl (y_mov rfl rfl ⟨rfl, rfl⟩) ?_
        refine wl_unless 11 false 26 rfl rfl rfl (Or.inl rfl) rfl ?_
        refine wl_unless 11 false 26 rfl rfl rfl (Or.inl rfl) rfl ?_
        refine wl_v (.bool true) rfl rfl (y_pickT rfl rfl rfl ⟨rfl, rfl⟩) ?_
        refine wl_v (.bool true) rfl rfl (y_mov rfl rfl ⟨rfl, rfl⟩) ?_
        refine wl_unless 15 false 30 rfl rfl rfl (Or.inl rfl) rfl ?_
        refine wl_unless 15 false 30 rfl rfl rfl (Or.inl rfl) rfl ?_
        refine wl_v (.bool true) rfl rfl (y_pickT rfl rfl rfl ⟨rfl, rfl⟩) ?_
        refine wl_v (.bool true) rfl rfl (y_mov rfl rfl ⟨rfl, rfl⟩) ?_
        refine wl_unless 19 false 34 rfl rfl rfl (Or.inl rfl) rfl ?_
        refine wl_unless 19 false 34 rfl rfl rfl (Or.inl rfl) rfl ?_
        refine wl_v (.bool true) rfl rfl (y_pickT rfl rfl rfl ⟨rfl, rfl⟩) ?_
        refine wl_v (.bool true) rfl rfl (y_mov rfl rfl ⟨rfl, rfl⟩) ?_
        refine wl_unless 23 false 38 rfl rfl rfl (Or.inl rfl) rfl ?_
        refine wl_unless 23 false 38 rfl rfl rfl (Or.inl rfl) rfl ?_
        refine wl_v (.bool true) rfl rfl (y_pickT rfl rfl rfl ⟨rfl, rfl⟩) ?_
        refine wl_nil fun F181 hF182 => ?_
        have s183 : F181 1 = .int .i64 (p) := (hF182 1).trans s88
        have s184 : F181 2 = .int .i64 (x) := (hF182 2).trans s89
        have s185 : F181 3 = .int .i64 (y) := (hF182 3).trans s90
        have s186 : F181 73 = undef := (hF182 73).trans s91
        have s187 : F181 5 = .pointer (some ⟨p1, 0, none⟩) := (hF182 5).trans s92
        have s188 : F181 9 = .pointer (some ⟨p14, 0, none⟩) := (hF182 9).trans s93
        have s189 : F181 10 = .pointer (some ⟨p29, 0, none⟩) := (hF182 10).trans s94
        have s190 : F181 12 = .pointer (some ⟨p56, 0, none⟩) := (hF182 12).trans s95
        have s191 : F181 41 = .bool true := (hF182 41).trans rfl
        clear hF182
        refine then_normal ?_
        refine wq_cond (t := true) s191 (fun _ => ?_) (fun e => by cases e)
        refine wq_seq ?_
        have hno : ¬ placeF f p x y := by rintro ⟨h1, h2, h3, h4, h5, h6, h7⟩; first | exact absurd ((checkE_iff f).2 h1) (by assumption) | omega
        refine wq_region ?_
        refine wl_v (blkV (fun _ => 0)) rfl rfl (y_load_blk blkT_arr rfl s190 B179 ⟨rfl, rfl⟩) ?_
        refine wl_store_blk blkT_arr rfl rfl rfl s189 rfl B178 fun w192 B193 k194 => ?_
        have B195 := B173.all k194 (fun i h x => (((ap36).symm) i h x))
        have B196 := B174.all k194 (fun i h x => (((ap37).symm) i h x))
        have B197 := B175.all k194 (fun i h x => (((ap38).symm) i h x))
        have B198 := B176.all k194 (fun x => (((ap39).symm) p1 rfl x))
        have B199 := B177.all k194 (fun x => (((ap40).symm) p14 rfl x))
        have B200 := B179.all k194 (fun x => ((ap68) p56 rfl x))
        have K201 := K180.trans k194 (Grew.ok (S := fun _ => False) gr35 noB_le)
        refine wl_v (.int .i64 (70)) rfl rfl (y_asg rfl rfl ⟨rfl, rfl⟩) ?_
        refine wl_nil fun F202 hF203 => ?_
        have s204 : F202 73 = undef := (hF203 73).trans s186
        have s205 : F202 10 = .pointer (some ⟨p29, 0, none⟩) := (hF203 10).trans s189
        have s206 : F202 11 = .int .i64 (70) := (hF203 11).trans rfl
        clear hF203
        refine then_normal ?_
        refine wq_ret ?_
        refine then_ret ?_
        exact end_2 s204 rfl (res_blk blkT_arr rfl s205 B193) (res_tmp (v := .int .i64 (70)) rfl s206) ⟨(by first | rw [(mv_no hno).1, (mv_no hno).2] | rw [(mv_none hpl hvn).1, (mv_none hpl hvn).2] | rw [(mv_yes hpl hv).1, (mv_yes hpl hv).2]), K201⟩
      · skip
        by_cases d207 : (x) < (0)
        · skip
          refine wq_region ?_
          refine wl_v (.agg #[.int .i64 ((f).W), .int .i64 ((f).H), f0, f1, f2]) rfl rfl (y_load_stc stcT_frame rfl s92 B82 ⟨rfl, rfl⟩) ?_
          refine wl_call (R := fun v_ w_ => v_ = .int .i64 (checkE (f)) ∧ Kept (fun _ => False) w76 w_) rfl rfl (y_cs rfl rfl rfl (fun _ _ => by kernel_rfl) (ev_func _) (vsC rfl vsN) (fref_check (f) (f0) (f1) (f2) (T_f0) (T_f1) (T_f2) _  B79 B80 B81 ) (fun e_ w_ h_ => ⟨_, h_.1, rfl, h_.2⟩)) ?_
          rintro _ w208 ⟨rfl, k209⟩
          have B210 := B79.all k209 Apart.none
          have B211 := B80.all k209 Apart.none
          have B212 := B81.all k209 Apart.none
          have B213 := B82.all k209 id
          have B214 := B83.all k209 id
          have B215 := B84.all k209 id
          have B216 := B77.all k209 id
          have K217 := K85.trans k209 (fun _ _ x => x.elim)
          refine wl_v (.bool false) rfl rfl (y_neqI rfl rfl rfl (decide_eq_false d96) ⟨rfl, rfl⟩) ?_
          refine wl_v (.bool false) rfl rfl (y_mov rfl rfl ⟨rfl, rfl⟩) ?_
          refine wl_vw (.int .i64 (p)) 3 false 18 rfl rfl rfl rfl rfl (y_mov rfl s88 ⟨rfl, rfl⟩) ?_
          refine wl_vw (.bool false) 3 false 18 rfl rfl rfl rfl rfl (y_lss rfl rfl rfl (decide_eq_false d133) ⟨rfl, rfl⟩) ?_
          refine wl_v (.bool false) rfl rfl (y_pickF rfl rfl rfl ⟨rfl, rfl⟩) ?_
          refine wl_v (.bool false) rfl rfl (y_mov rfl rfl ⟨rfl, rfl⟩) ?_
          refine wl_vw (.int .i64 (p)) 7 false 22 rfl rfl rfl rfl rfl (y_mov rfl s88 ⟨rfl, rfl⟩) ?_
          refine wl_vw (.bool false) 7 false 22 rfl rfl rfl rfl rfl (y_gtr rfl rfl rfl (decide_eq_false d170) ⟨rfl, rfl⟩) ?_
          refine wl_v (.bool false) rfl rfl (y_pickF rfl rfl rfl ⟨rfl, rfl⟩) ?_
          refine wl_v (.bool false) rfl rfl (y_mov rfl rfl ⟨rfl, rfl⟩) ?_
          refine wl_vw (.int .i64 (x)) 11 false 26 rfl rfl rfl rfl rfl (y_mov rfl s89 ⟨rfl, rfl⟩) ?_
          refine wl_vw (.bool true) 11 false 26 rfl rfl rfl rfl rfl (y_lss rfl rfl rfl (decide_eq_true d207) ⟨rfl, rfl⟩) ?_
          refine wl_v (.bool true) rfl rfl (y_pickF rfl rfl rfl ⟨rfl, rfl⟩) ?_
          refine wl_v (.bool true) rfl rfl (y_mov rfl rfl ⟨rfl, rfl⟩) ?_
          refine wl_unless 15 false 30 rfl rfl rfl (Or.inl rfl) rfl ?_
          refine wl_unless 15 false 30 rfl rfl rfl (Or.inl rfl) rfl ?_
          refine wl_v (.bool true) rfl rfl (y_pickT rfl rfl rfl ⟨rfl, rfl⟩) ?_
          refine wl_v (.bool true) rfl rfl (y_mov rfl rfl ⟨rfl, rfl⟩) ?_
          refine wl_unless 19 false 34 rfl rfl rfl (Or.inl rfl) rfl ?_
          refine wl_unless 19 false 34 rfl rfl rfl (Or.inl rfl) rfl ?_
          refine wl_v (.bool true) rfl rfl (y_pickT rfl rfl rfl ⟨rfl, rfl⟩) ?_
          refine wl_v (.bool true) rfl rfl (y_mov rfl rfl ⟨rfl, rfl⟩) ?_
          refine wl_unless 23 false 38 rfl rfl rfl (Or.inl rfl) rfl ?_
          refine wl_unless 23 false 38 rfl rfl rfl (Or.inl rfl) rfl ?_
          refine wl_v (.bool true) rfl rfl (y_pickT rfl rfl rfl ⟨rfl, rfl⟩) ?_
          refine wl_nil fun F218 hF219 => ?_
          have s220 : F218 1 = .int .i64 (p) := (hF219 1).trans s88
          have s221 : F218 2 = .int .i64 (x) := (hF219 2).trans s89
          have s222 : F218 3 = .int .i64 (y) := (hF219 3).trans s90
          have s223 : F218 73 = undef := (hF219 73).trans s91
          have s224 : F218 5 = .pointer (some ⟨p1, 0, none⟩) := (hF219 5).trans s92
          have s225 : F218 9 = .pointer (some ⟨p14, 0, none⟩) := (hF219 9).trans s93
          have s226 : F218 10 = .pointer (some ⟨p29, 0, none⟩) := (hF219 10).trans s94
          have s227 : F218 12 = .pointer (some ⟨p56, 0, none⟩) := (hF219 12).trans s95
          have s228 : F218 41 = .bool true := (hF219 41).trans rfl
          clear hF219
          refine then_normal ?_
          refine wq_cond (t := true) s228 (fun _ => ?_) (fun e => by cases e)
          refine wq_seq ?_
          have hno : ¬ placeF f p x y := by rintro ⟨h1, h2, h3, h4, h5, h6, h7⟩; first | exact absurd ((checkE_iff f).2 h1) (by assumption) | omega
          refine wq_region ?_
          refine wl_v (blkV (fun _ => 0)) rfl rfl (y_load_blk blkT_arr rfl s227 B216 ⟨rfl, rfl⟩) ?_
          refine wl_store_blk blkT_arr rfl rfl rfl s226 rfl B215 fun w229 B230 k231 => ?_
          have B232 := B210.all k231 (fun i h x => (((ap36).symm) i h x))
          have B233 := B211.all k231 (fun i h x => (((ap37).symm) i h x))
          have B234 := B212.all k231 (fun i h x => (((ap38).symm) i h x))
          have B235 := B213.all k231 (fun x => (((ap39).symm) p1 rfl x))
          have B236 := B214.all k231 (fun x => (((ap40).symm) p14 rfl x))
          have B237 := B216.all k231 (fun x => ((ap68) p56 rfl x))
          have K238 := K217.trans k231 (Grew.ok (S := fun _ => False) gr35 noB_le)
          refine wl_v (.int .i64 (70)) rfl rfl (y_asg rfl rfl ⟨rfl, rfl⟩) ?_
          refine wl_nil fun F239 hF240 => ?_
          have s241 : F239 73 = undef := (hF240 73).trans s223
          have s242 : F239 10 = .pointer (some ⟨p29, 0, none⟩) := (hF240 10).trans s226
          have s243 : F239 11 = .int .i64 (70) := (hF240 11).trans rfl
          clear hF240
          refine then_normal ?_
          refine wq_ret ?_
          refine then_ret ?_
          exact end_2 s241 rfl (res_blk blkT_arr rfl s242 B230) (res_tmp (v := .int .i64 (70)) rfl s243) ⟨(by first | rw [(mv_no hno).1, (mv_no hno).2] | rw [(mv_none hpl hvn).1, (mv_none hpl hvn).2] | rw [(mv_yes hpl hv).1, (mv_yes hpl hv).2]), K238⟩
        · skip
          by_cases d244 : (64) < (x)
          · skip
            refine wq_region ?_
            refine wl_v (.agg #[.int .i64 ((f).W), .int .i64 ((f).H), f0, f1, f2]) rfl rfl (y_load_stc stcT_frame rfl s92 B82 ⟨rfl, rfl⟩) ?_
            refine wl_call (R := fun v_ w_ => v_ = .int .i64 (checkE (f)) ∧ Kept (fun _ => False) w76 w_) rfl rfl (y_cs rfl rfl rfl (fun _ _ => by kernel_rfl) (ev_func _) (vsC rfl vsN) (fref_check (f) (f0) (f1) (f2) (T_f0) (T_f1) (T_f2) _  B79 B80 B81 ) (fun e_ w_ h_ => ⟨_, h_.1, rfl, h_.2⟩)) ?_
            rintro _ w245 ⟨rfl, k246⟩
            have B247 := B79.all k246 Apart.none
            have B248 := B80.all k246 Apart.none
            have B249 := B81.all k246 Apart.none
            have B250 := B82.all k246 id
            have B251 := B83.all k246 id
            have B252 := B84.all k246 id
            have B253 := B77.all k246 id
            have K254 := K85.trans k246 (fun _ _ x => x.elim)
            refine wl_v (.bool false) rfl rfl (y_neqI rfl rfl rfl (decide_eq_false d96) ⟨rfl, rfl⟩) ?_
            refine wl_v (.bool false) rfl rfl (y_mov rfl rfl ⟨rfl, rfl⟩) ?_
            refine wl_vw (.int .i64 (p)) 3 false 18 rfl rfl rfl rfl rfl (y_mov rfl s88 ⟨rfl, rfl⟩) ?_
            refine wl_vw (.bool false) 3 false 18 rfl rfl rfl rfl rfl (y_lss rfl rfl rfl (decide_eq_false d133) ⟨rfl, rfl⟩) ?_
            refine wl_v (.bool false) rfl rfl (y_pickF rfl rfl rfl ⟨rfl, rfl⟩) ?_
            refine wl_v (.bool false) rfl rfl (y_mov rfl rfl ⟨rfl, rfl⟩) ?_
            refine wl_vw (.int .i64 (p)) 7 false 22 rfl rfl rfl rfl rfl (y_mov rfl s88 ⟨rfl, rfl⟩) ?_
            refine wl_vw (.bool false) 7 false 22 rfl rfl rfl rfl rfl (y_gtr rfl rfl rfl (decide_eq_false d170) ⟨rfl, rfl⟩) ?_
            refine wl_v (.bool false) rfl rfl (y_pickF rfl rfl rfl ⟨rfl, rfl⟩) ?_
            refine wl_v (.bool false) rfl rfl (y_mov rfl rfl ⟨rfl, rfl⟩) ?_
            refine wl_vw (.int .i64 (x)) 11 false 26 rfl rfl rfl rfl rfl (y_mov rfl s89 ⟨rfl, rfl⟩) ?_
            refine wl_vw (.bool false) 11 false 26 rfl rfl rfl rfl rfl (y_lss rfl rfl rfl (decide_eq_false d207) ⟨rfl, rfl⟩) ?_
            refine wl_v (.bool false) rfl rfl (y_pickF rfl rfl rfl ⟨rfl, rfl⟩) ?_
            refine wl_v (.bool false) rfl rfl (y_mov rfl rfl ⟨rfl, rfl⟩) ?_
            refine wl_vw (.int .i64 (x)) 15 false 30 rfl rfl rfl rfl rfl (y_mov rfl s89 ⟨rfl, rfl⟩) ?_
            refine wl_vw (.bool true) 15 false 30 rfl rfl rfl rfl rfl (y_gtr rfl rfl rfl (decide_eq_true d244) ⟨rfl, rfl⟩) ?_
            refine wl_v (.bool true) rfl rfl (y_pickF rfl rfl rfl ⟨rfl, rfl⟩) ?_
            refine wl_v (.bool true) rfl rfl (y_mov rfl rfl ⟨rfl, rfl⟩) ?_
            refine wl_unless 19 false 34 rfl rfl rfl (Or.inl rfl) rfl ?_
            refine wl_unless 19 false 34 rfl rfl rfl (Or.inl rfl) rfl ?_
            refine wl_v (.bool true) rfl rfl (y_pickT rfl rfl rfl ⟨rfl, rfl⟩) ?_
            refine wl_v (.bool true) rfl rfl (y_mov rfl rfl ⟨rfl, rfl⟩) ?_
            refine wl_unless 23 false 38 rfl rfl rfl (Or.inl rfl) rfl ?_
            refine wl_unless 23 false 38 rfl rfl rfl (Or.inl rfl) rfl ?_
            refine wl_v (.bool true) rfl rfl (y_pickT rfl rfl rfl ⟨rfl, rfl⟩) ?_
            refine wl_nil fun F255 hF256 => ?_
            have s257 : F255 1 = .int .i64 (p) := (hF256 1).trans s88
            have s258 : F255 2 = .int .i64 (x) := (hF256 2).trans s89
            have s259 : F255 3 = .int .i64 (y) := (hF256 3).trans s90
            have s260 : F255 73 = undef := (hF256 73).trans s91
            have s261 : F255 5 = .pointer (some ⟨p1, 0, none⟩) := (hF256 5).trans s92
            have s262 : F255 9 = .pointer (some ⟨p14, 0, none⟩) := (hF256 9).trans s93
            have s263 : F255 10 = .pointer (some ⟨p29, 0, none⟩) := (hF256 10).trans s94
            have s264 : F255 12 = .pointer (some ⟨p56, 0, none⟩) := (hF256 12).trans s95
            have s265 : F255 41 = .bool true := (hF256 41).trans rfl
            clear hF256
            refine then_normal ?_
            refine wq_cond (t := true) s265 (fun _ => ?_) (fun e => by cases e)
            refine wq_seq ?_
            have hno : ¬ placeF f p x y := by rintro ⟨h1, h2, h3, h4, h5, h6, h7⟩; first | exact absurd ((checkE_iff f).2 h1) (by assumption) | omega
            refine wq_region ?_
            refine wl_v (blkV (fun _ => 0)) rfl rfl (y_load_blk blkT_arr rfl s264 B253 ⟨rfl, rfl⟩) ?_
            refine wl_store_blk blkT_arr rfl rfl rfl s263 rfl B252 fun w266 B267 k268 => ?_
            have B269 := B247.all k268 (fun i h x => (((ap36).symm) i h x))
            have B270 := B248.all k268 (fun i h x => (((ap37).symm) i h x))
            have B271 := B249.all k268 (fun i h x => (((ap38).symm) i h x))
            have B272 := B250.all k268 (fun x => (((ap39).symm) p1 rfl x))
            have B273 := B251.all k268 (fun x => (((ap40).symm) p14 rfl x))
            have B274 := B253.all k268 (fun x => ((ap68) p56 rfl x))
            have K275 := K254.trans k268 (Grew.ok (S := fun _ => False) gr35 noB_le)
            refine wl_v (.int .i64 (70)) rfl rfl (y_asg rfl rfl ⟨rfl, rfl⟩) ?_
            refine wl_nil fun F276 hF277 => ?_
            have s278 : F276 73 = undef := (hF277 73).trans s260
            have s279 : F276 10 = .pointer (some ⟨p29, 0, none⟩) := (hF277 10).trans s263
            have s280 : F276 11 = .int .i64 (70) := (hF277 11).trans rfl
            clear hF277
            refine then_normal ?_
            refine wq_ret ?_
            refine then_ret ?_
            exact end_2 s278 rfl (res_blk blkT_arr rfl s279 B267) (res_tmp (v := .int .i64 (70)) rfl s280) ⟨(by first | rw [(mv_no hno).1, (mv_no hno).2] | rw [(mv_none hpl hvn).1, (mv_none hpl hvn).2] | rw [(mv_yes hpl hv).1, (mv_yes hpl hv).2]), K275⟩
          · skip
            by_cases d281 : (y) < (0)
            · skip
              refine wq_region ?_
              refine wl_v (.agg #[.int .i64 ((f).W), .int .i64 ((f).H), f0, f1, f2]) rfl rfl (y_load_stc stcT_frame rfl s92 B82 ⟨rfl, rfl⟩) ?_
              refine wl_call (R := fun v_ w_ => v_ = .int .i64 (checkE (f)) ∧ Kept (fun _ => False) w76 w_) rfl rfl (y_cs rfl rfl rfl (fun _ _ => by kernel_rfl) (ev_func _) (vsC rfl vsN) (fref_check (f) (f0) (f1) (f2) (T_f0) (T_f1) (T_f2) _  B79 B80 B81 ) (fun e_ w_ h_ => ⟨_, h_.1, rfl, h_.2⟩)) ?_
              rintro _ w282 ⟨rfl, k283⟩
              have B284 := B79.all k283 Apart.none
              have B285 := B80.all k283 Apart.none
              have B286 := B81.all k283 Apart.none
              have B287 := B82.all k283 id
              have B288 := B83.all k283 id
              have B289 := B84.all k283 id
              have B290 := B77.all k283 id
              have K291 := K85.trans k283 (fun _ _ x => x.elim)
              refine wl_v (.bool false) rfl rfl (y_neqI rfl rfl rfl (decide_eq_false d96) ⟨rfl, rfl⟩) ?_
              refine wl_v (.bool false) rfl rfl (y_mov rfl rfl ⟨rfl, rfl⟩) ?_
              refine wl_vw (.int .i64 (p)) 3 false 18 rfl rfl rfl rfl rfl (y_mov rfl s88 ⟨rfl, rfl⟩) ?_
              refine wl_vw (.bool false) 3 false 18 rfl rfl rfl rfl rfl (y_lss rfl rfl rfl (decide_eq_false d133) ⟨rfl, rfl⟩) ?_
              refine wl_v (.bool false) rfl rfl (y_pickF rfl rfl rfl ⟨rfl, rfl⟩) ?_
              refine wl_v (.bool false) rfl rfl (y_mov rfl rfl ⟨rfl, rfl⟩) ?_
              refine wl_vw (.int .i64 (p)) 7 false 22 rfl rfl rfl rfl rfl (y_mov rfl s88 ⟨rfl, rfl⟩) ?_
              refine wl_vw (.bool false) 7 false 22 rfl rfl rfl rfl rfl (y_gtr rfl rfl rfl (decide_eq_false d170) ⟨rfl, rfl⟩) ?_
              refine wl_v (.bool false) rfl rfl (y_pickF rfl rfl rfl ⟨rfl, rfl⟩) ?_
              refine wl_v (.bool false) rfl rfl (y_mov rfl rfl ⟨rfl, rfl⟩) ?_
              refine wl_vw (.int .i64 (x)) 11 false 26 rfl rfl rfl rfl rfl (y_mov rfl s89 ⟨rfl, rfl⟩) ?_
              refine wl_vw (.bool false) 11 false 26 rfl rfl rfl rfl rfl (y_lss rfl rfl rfl (decide_eq_false d207) ⟨rfl, rfl⟩) ?_
              refine wl_v (.bool false) rfl rfl (y_pickF rfl rfl rfl ⟨rfl, rfl⟩) ?_
              refine wl_v (.bool false) rfl rfl (y_mov rfl rfl ⟨rfl, rfl⟩) ?_
              refine wl_vw (.int .i64 (x)) 15 false 30 rfl rfl rfl rfl rfl (y_mov rfl s89 ⟨rfl, rfl⟩) ?_
              refine wl_vw (.bool false) 15 false 30 rfl rfl rfl rfl rfl (y_gtr rfl rfl rfl (decide_eq_false d244) ⟨rfl, rfl⟩) ?_
              refine wl_v (.bool false) rfl rfl (y_pickF rfl rfl rfl ⟨rfl, rfl⟩) ?_
              refine wl_v (.bool false) rfl rfl (y_mov rfl rfl ⟨rfl, rfl⟩) ?_
              refine wl_vw (.int .i64 (y)) 19 false 34 rfl rfl rfl rfl rfl (y_mov rfl s90 ⟨rfl, rfl⟩) ?_
              refine wl_vw (.bool true) 19 false 34 rfl rfl rfl rfl rfl (y_lss rfl rfl rfl (decide_eq_true d281) ⟨rfl, rfl⟩) ?_
              refine wl_v (.bool true) rfl rfl (y_pickF rfl rfl rfl ⟨rfl, rfl⟩) ?_
              refine wl_v (.bool true) rfl rfl (y_mov rfl rfl ⟨rfl, rfl⟩) ?_
              refine wl_unless 23 false 38 rfl rfl rfl (Or.inl rfl) rfl ?_
              refine wl_unless 23 false 38 rfl rfl rfl (Or.inl rfl) rfl ?_
              refine wl_v (.bool true) rfl rfl (y_pickT rfl rfl rfl ⟨rfl, rfl⟩) ?_
              refine wl_nil fun F292 hF293 => ?_
              have s294 : F292 1 = .int .i64 (p) := (hF293 1).trans s88
              have s295 : F292 2 = .int .i64 (x) := (hF293 2).trans s89
              have s296 : F292 3 = .int .i64 (y) := (hF293 3).trans s90
              have s297 : F292 73 = undef := (hF293 73).trans s91
              have s298 : F292 5 = .pointer (some ⟨p1, 0, none⟩) := (hF293 5).trans s92
              have s299 : F292 9 = .pointer (some ⟨p14, 0, none⟩) := (hF293 9).trans s93
              have s300 : F292 10 = .pointer (some ⟨p29, 0, none⟩) := (hF293 10).trans s94
              have s301 : F292 12 = .pointer (some ⟨p56, 0, none⟩) := (hF293 12).trans s95
              have s302 : F292 41 = .bool true := (hF293 41).trans rfl
              clear hF293
              refine then_normal ?_
              refine wq_cond (t := true) s302 (fun _ => ?_) (fun e => by cases e)
              refine wq_seq ?_
              have hno : ¬ placeF f p x y := by rintro ⟨h1, h2, h3, h4, h5, h6, h7⟩; first | exact absurd ((checkE_iff f).2 h1) (by assumption) | omega
              refine wq_region ?_
              refine wl_v (blkV (fun _ => 0)) rfl rfl (y_load_blk blkT_arr rfl s301 B290 ⟨rfl, rfl⟩) ?_
              refine wl_store_blk blkT_arr rfl rfl rfl s300 rfl B289 fun w303 B304 k305 => ?_
              have B306 := B284.all k305 (fun i h x => (((ap36).symm) i h x))
              have B307 := B285.all k305 (fun i h x => (((ap37).symm) i h x))
              have B308 := B286.all k305 (fun i h x => (((ap38).symm) i h x))
              have B309 := B287.all k305 (fun x => (((ap39).symm) p1 rfl x))
              have B310 := B288.all k305 (fun x => (((ap40).symm) p14 rfl x))
              have B311 := B290.all k305 (fun x => ((ap68) p56 rfl x))
              have K312 := K291.trans k305 (Grew.ok (S := fun _ => False) gr35 noB_le)
              refine wl_v (.int .i64 (70)) rfl rfl (y_asg rfl rfl ⟨rfl, rfl⟩) ?_
              refine wl_nil fun F313 hF314 => ?_
              have s315 : F313 73 = undef := (hF314 73).trans s297
              have s316 : F313 10 = .pointer (some ⟨p29, 0, none⟩) := (hF314 10).trans s300
              have s317 : F313 11 = .int .i64 (70) := (hF314 11).trans rfl
              clear hF314
              refine then_normal ?_
              refine wq_ret ?_
              refine then_ret ?_
              exact end_2 s315 rfl (res_blk blkT_arr rfl s316 B304) (res_tmp (v := .int .i64 (70)) rfl s317) ⟨(by first | rw [(mv_no hno).1, (mv_no hno).2] | rw [(mv_none hpl hvn).1, (mv_none hpl hvn).2] | rw [(mv_yes hpl hv).1, (mv_yes hpl hv).2]), K312⟩
            · skip
              refine wq_region ?_
              refine wl_v (.agg #[.int .i64 ((f).W), .int .i64 ((f).H), f0, f1, f2]) rfl rfl (y_load_stc stcT_frame rfl s92 B82 ⟨rfl, rfl⟩) ?_
              refine wl_call (R := fun v_ w_ => v_ = .int .i64 (checkE (f)) ∧ Kept (fun _ => False) w76 w_) rfl rfl (y_cs rfl rfl rfl (fun _ _ => by kernel_rfl) (ev_func _) (vsC rfl vsN) (fref_check (f) (f0) (f1) (f2) (T_f0) (T_f1) (T_f2) _  B79 B80 B81 ) (fun e_ w_ h_ => ⟨_, h_.1, rfl, h_.2⟩)) ?_
              rintro _ w318 ⟨rfl, k319⟩
              have B320 := B79.all k319 Apart.none
              have B321 := B80.all k319 Apart.none
              have B322 := B81.all k319 Apart.none
              have B323 := B82.all k319 id
              have B324 := B83.all k319 id
              have B325 := B84.all k319 id
              have B326 := B77.all k319 id
              have K327 := K85.trans k319 (fun _ _ x => x.elim)
              refine wl_v (.bool false) rfl rfl (y_neqI rfl rfl rfl (decide_eq_false d96) ⟨rfl, rfl⟩) ?_
              refine wl_v (.bool false) rfl rfl (y_mov rfl rfl ⟨rfl, rfl⟩) ?_
              refine wl_vw (.int .i64 (p)) 3 false 18 rfl rfl rfl rfl rfl (y_mov rfl s88 ⟨rfl, rfl⟩) ?_
              refine wl_vw (.bool false) 3 false 18 rfl rfl rfl rfl rfl (y_lss rfl rfl rfl (decide_eq_false d133) ⟨rfl, rfl⟩) ?_
              refine wl_v (.bool false) rfl rfl (y_pickF rfl rfl rfl ⟨rfl, rfl⟩) ?_
              refine wl_v (.bool false) rfl rfl (y_mov rfl rfl ⟨rfl, rfl⟩) ?_
              refine wl_vw (.int .i64 (p)) 7 false 22 rfl rfl rfl rfl rfl (y_mov rfl s88 ⟨rfl, rfl⟩) ?_
              refine wl_vw (.bool false) 7 false 22 rfl rfl rfl rfl rfl (y_gtr rfl rfl rfl (decide_eq_false d170) ⟨rfl, rfl⟩) ?_
              refine wl_v (.bool false) rfl rfl (y_pickF rfl rfl rfl ⟨rfl, rfl⟩) ?_
              refine wl_v (.bool false) rfl rfl (y_mov rfl rfl ⟨rfl, rfl⟩) ?_
              refine wl_vw (.int .i64 (x)) 11 false 26 rfl rfl rfl rfl rfl (y_mov rfl s89 ⟨rfl, rfl⟩) ?_
              refine wl_vw (.bool false) 11 false 26 rfl rfl rfl rfl rfl (y_lss rfl rfl rfl (decide_eq_false d207) ⟨rfl, rfl⟩) ?_
              refine wl_v (.bool false) rfl rfl (y_pickF rfl rfl rfl ⟨rfl, rfl⟩) ?_
              refine wl_v (.bool false) rfl rfl (y_mov rfl rfl ⟨rfl, rfl⟩) ?_
              refine wl_vw (.int .i64 (x)) 15 false 30 rfl rfl rfl rfl rfl (y_mov rfl s89 ⟨rfl, rfl⟩) ?_
              refine wl_vw (.bool false) 15 false 30 rfl rfl rfl rfl rfl (y_gtr rfl rfl rfl (decide_eq_false d244) ⟨rfl, rfl⟩) ?_
              refine wl_v (.bool false) rfl rfl (y_pickF rfl rfl rfl ⟨rfl, rfl⟩) ?_
              refine wl_v (.bool false) rfl rfl (y_mov rfl rfl ⟨rfl, rfl⟩) ?_
              refine wl_vw (.int .i64 (y)) 19 false 34 rfl rfl rfl rfl rfl (y_mov rfl s90 ⟨rfl, rfl⟩) ?_
              refine wl_vw (.bool false) 19 false 34 rfl rfl rfl rfl rfl (y_lss rfl rfl rfl (decide_eq_false d281) ⟨rfl, rfl⟩) ?_
              refine wl_v (.bool false) rfl rfl (y_pickF rfl rfl rfl ⟨rfl, rfl⟩) ?_
              refine wl_v (.bool false) rfl rfl (y_mov rfl rfl ⟨rfl, rfl⟩) ?_
              refine wl_vw (.int .i64 (y)) 23 false 38 rfl rfl rfl rfl rfl (y_mov rfl s90 ⟨rfl, rfl⟩) ?_
              refine wl_vw (.bool (decide ((64) < (y)))) 23 false 38 rfl rfl rfl rfl rfl (y_gtr rfl rfl rfl rfl ⟨rfl, rfl⟩) ?_
              refine wl_v (.bool (decide ((64) < (y)))) rfl rfl (y_pickF rfl rfl rfl ⟨rfl, rfl⟩) ?_
              refine wl_nil fun F328 hF329 => ?_
              have s330 : F328 1 = .int .i64 (p) := (hF329 1).trans s88
              have s331 : F328 2 = .int .i64 (x) := (hF329 2).trans s89
              have s332 : F328 3 = .int .i64 (y) := (hF329 3).trans s90
              have s333 : F328 73 = undef := (hF329 73).trans s91
              have s334 : F328 5 = .pointer (some ⟨p1, 0, none⟩) := (hF329 5).trans s92
              have s335 : F328 9 = .pointer (some ⟨p14, 0, none⟩) := (hF329 9).trans s93
              have s336 : F328 10 = .pointer (some ⟨p29, 0, none⟩) := (hF329 10).trans s94
              have s337 : F328 12 = .pointer (some ⟨p56, 0, none⟩) := (hF329 12).trans s95
              have s338 : F328 41 = .bool (decide ((64) < (y))) := (hF329 41).trans rfl
              clear hF329
              refine then_normal ?_
              refine wq_cond s338 (fun c339 => ?_) (fun c339 => ?_)
              · replace c339 := of_decide_eq_true c339
                refine wq_seq ?_
                have hno : ¬ placeF f p x y := by rintro ⟨h1, h2, h3, h4, h5, h6, h7⟩; first | exact absurd ((checkE_iff f).2 h1) (by assumption) | omega
                refine wq_region ?_
                refine wl_v (blkV (fun _ => 0)) rfl rfl (y_load_blk blkT_arr rfl s337 B326 ⟨rfl, rfl⟩) ?_
                refine wl_store_blk blkT_arr rfl rfl rfl s336 rfl B325 fun w340 B341 k342 => ?_
                have B343 := B320.all k342 (fun i h x => (((ap36).symm) i h x))
                have B344 := B321.all k342 (fun i h x => (((ap37).symm) i h x))
                have B345 := B322.all k342 (fun i h x => (((ap38).symm) i h x))
                have B346 := B323.all k342 (fun x => (((ap39).symm) p1 rfl x))
                have B347 := B324.all k342 (fun x => (((ap40).symm) p14 rfl x))
                have B348 := B326.all k342 (fun x => ((ap68) p56 rfl x))
                have K349 := K327.trans k342 (Grew.ok (S := fun _ => False) gr35 noB_le)
                refine wl_v (.int .i64 (70)) rfl rfl (y_asg rfl rfl ⟨rfl, rfl⟩) ?_
                refine wl_nil fun F350 hF351 => ?_
                have s352 : F350 73 = undef := (hF351 73).trans s333
                have s353 : F350 10 = .pointer (some ⟨p29, 0, none⟩) := (hF351 10).trans s336
                have s354 : F350 11 = .int .i64 (70) := (hF351 11).trans rfl
                clear hF351
                refine then_normal ?_
                refine wq_ret ?_
                refine then_ret ?_
                exact end_2 s352 rfl (res_blk blkT_arr rfl s353 B341) (res_tmp (v := .int .i64 (70)) rfl s354) ⟨(by first | rw [(mv_no hno).1, (mv_no hno).2] | rw [(mv_none hpl hvn).1, (mv_none hpl hvn).2] | rw [(mv_yes hpl hv).1, (mv_yes hpl hv).2]), K349⟩
              · replace c339 := of_decide_eq_false c339
                refine wq_skip ?_
                refine then_normal ?_
                refine wq_seq ?_
                refine wq_seq ?_
                have hpl : placeF f p x y := ⟨(checkE_iff f).1 (by first | assumption | (apply Decidable.byContradiction; assumption)), by omega, by omega, by omega, by omega, by omega, by omega⟩
                refine wq_region ?_
                refine wl_v (.agg #[.int .i64 (X), .int .i64 (Y)]) rfl rfl (y_load_stc stcT_vector rfl s335 B324 ⟨rfl, rfl⟩) ?_
                refine wl_call (R := fun v_ w_ => v_ = .int .i64 (vecE (X) (Y)) ∧ Kept (fun _ => False) w318 w_) rfl rfl (y_cs rfl rfl rfl (fun _ _ => by kernel_rfl) (ev_func _) (vsC rfl vsN) (mref_check (X) (Y)  _   ) (fun e_ w_ h_ => ⟨_, h_.1, rfl, h_.2⟩)) ?_
                rintro _ w355 ⟨rfl, k356⟩
                have B357 := B320.all k356 Apart.none
                have B358 := B321.all k356 Apart.none
                have B359 := B322.all k356 Apart.none
                have B360 := B323.all k356 id
                have B361 := B324.all k356 id
                have B362 := B325.all k356 id
                have B363 := B326.all k356 id
                have K364 := K327.trans k356 (fun _ _ x => x.elim)
                refine wl_v (.bool (decide ((vecE (X) (Y)) ≠ (0)))) rfl rfl (y_neqI rfl rfl rfl rfl ⟨rfl, rfl⟩) ?_
                refine wl_nil fun F365 hF366 => ?_
                have s367 : F365 1 = .int .i64 (p) := (hF366 1).trans s330
                have s368 : F365 2 = .int .i64 (x) := (hF366 2).trans s331
                have s369 : F365 3 = .int .i64 (y) := (hF366 3).trans s332
                have s370 : F365 73 = undef := (hF366 73).trans s333
                have s371 : F365 5 = .pointer (some ⟨p1, 0, none⟩) := (hF366 5).trans s334
                have s372 : F365 9 = .pointer (some ⟨p14, 0, none⟩) := (hF366 9).trans s335
                have s373 : F365 10 = .pointer (some ⟨p29, 0, none⟩) := (hF366 10).trans s336
                have s374 : F365 12 = .pointer (some ⟨p56, 0, none⟩) := (hF366 12).trans s337
                have s375 : F365 45 = .bool (decide ((vecE (X) (Y)) ≠ (0))) := (hF366 45).trans rfl
                clear hF366
                refine then_normal ?_
                refine wq_cond s375 (fun c376 => ?_) (fun c376 => ?_)
                · replace c376 := of_decide_eq_true c376
                  refine wq_seq ?_
                  have hvn : ¬ vecOk X Y := fun h => absurd ((vecE_iff X Y).2 h) (by assumption)
                  refine wq_region ?_
                  refine wl_v (blkV (fun _ => 0)) rfl rfl (y_load_blk blkT_arr rfl s374 B363 ⟨rfl, rfl⟩) ?_
                  refine wl_store_blk blkT_arr rfl rfl rfl s373 rfl B362 fun w377 B378 k379 => ?_
                  have B380 := B357.all k379 (fun i h x => (((ap36).symm) i h x))
                  have B381 := B358.all k379 (fun i h x => (((ap37).symm) i h x))
                  have B382 := B359.all k379 (fun i h x => (((ap38).symm) i h x))
                  have B383 := B360.all k379 (fun x => (((ap39).symm) p1 rfl x))
                  have B384 := B361.all k379 (fun x => (((ap40).symm) p14 rfl x))
                  have B385 := B363.all k379 (fun x => ((ap68) p56 rfl x))
                  have K386 := K364.trans k379 (Grew.ok (S := fun _ => False) gr35 noB_le)
                  refine wl_v (.int .i64 (90)) rfl rfl (y_asg rfl rfl ⟨rfl, rfl⟩) ?_
                  refine wl_nil fun F387 hF388 => ?_
                  have s389 : F387 73 = undef := (hF388 73).trans s370
                  have s390 : F387 10 = .pointer (some ⟨p29, 0, none⟩) := (hF388 10).trans s373
                  have s391 : F387 11 = .int .i64 (90) := (hF388 11).trans rfl
                  clear hF388
                  refine then_normal ?_
                  refine wq_ret ?_
                  refine then_ret ?_
                  exact end_2 s389 rfl (res_blk blkT_arr rfl s390 B378) (res_tmp (v := .int .i64 (90)) rfl s391) ⟨(by first | rw [(mv_no hno).1, (mv_no hno).2] | rw [(mv_none hpl hvn).1, (mv_none hpl hvn).2] | rw [(mv_yes hpl hv).1, (mv_yes hpl hv).2]), K386⟩
                · replace c376 := of_decide_eq_false c376
                  refine wq_skip ?_
                  refine then_normal ?_
                  refine wq_seq ?_
                  refine wq_seq ?_
                  have hv : vecOk X Y := (vecE_iff X Y).1 (by first | assumption | (apply Decidable.byContradiction; assumption))
                  obtain ⟨hv1, hv2, hv3, hv4⟩ := (show vecOk X Y from hv)
                  refine wq_region ?_
                  refine wl_v (.int .i64 (0)) rfl rfl (y_asg rfl rfl ⟨rfl, rfl⟩) ?_
                  refine wl_nil fun F392 hF393 => ?_
                  have s394 : F392 1 = .int .i64 (p) := (hF393 1).trans s367
                  have s395 : F392 2 = .int .i64 (x) := (hF393 2).trans s368
                  have s396 : F392 3 = .int .i64 (y) := (hF393 3).trans s369
                  have s397 : F392 73 = undef := (hF393 73).trans s370
                  have s398 : F392 5 = .pointer (some ⟨p1, 0, none⟩) := (hF393 5).trans s371
                  have s399 : F392 9 = .pointer (some ⟨p14, 0, none⟩) := (hF393 9).trans s372
                  have s400 : F392 10 = .pointer (some ⟨p29, 0, none⟩) := (hF393 10).trans s373
                  have s401 : F392 12 = .pointer (some ⟨p56, 0, none⟩) := (hF393 12).trans s374
                  have s402 : F392 13 = .int .i64 (0) := (hF393 13).trans rfl
                  clear hF393
                  refine then_normal ?_
                  refine wq_block ?_
                  refine wq_loop (fun nn FF ww => ∃ (n : Nat), (n ≤ 16) ∧ nn = 16 - n ∧ FF 1 = .int .i64 (p) ∧ FF 2 = .int .i64 (x) ∧ FF 3 = .int .i64 (y) ∧ FF 5 = .pointer (some ⟨p1, 0, none⟩) ∧ FF 9 = .pointer (some ⟨p14, 0, none⟩) ∧ FF 10 = .pointer (some ⟨p29, 0, none⟩) ∧ FF 12 = .pointer (some ⟨p56, 0, none⟩) ∧ FF 73 = undef ∧ FF 13 = .int .i64 (((n : Nat) : Int)) ∧ Kept (fun _ => False) w0 ww ∧ Byt ww (T_f0) f0 ((f).p0) ∧ Byt ww (T_f1) f1 ((f).p1) ∧ Byt ww (T_f2) f2 ((f).p2) ∧ Stc ww p1 25 [.int .i64 ((f).W), .int .i64 ((f).H), f0, f1, f2] ∧ Stc ww p14 27 [.int .i64 (X), .int .i64 (Y)] ∧ Blk ww p29 28 (fun _ => 0) ∧ Blk ww p56 28 (upto n (fun _ => 0) (mvN f p x y X Y))) (16 - (0)) ⟨0, by omega, rfl, s394, s395, s396, s398, s399, s400, s401, s397, s402, K364, B357, B358, B359, B360, B361, B362, B363.first⟩ ?_
                  rintro n406 F403 w404 ⟨n, i407, hn406, s408, s409, s410, s411, s412, s413, s414, s415, s416, K405, B417, B418, B419, B420, B421, B422, B423⟩
                  refine wq_seq ?_
                  refine wq_seq ?_
                  refine wq_region ?_
                  refine wl_v (.int .i64 (((n : Nat) : Int))) rfl rfl (y_mov rfl s416 ⟨rfl, rfl⟩) ?_
                  refine wl_v (.bool (decide ((((n : Nat) : Int)) < (16)))) rfl rfl (y_lss rfl rfl rfl rfl ⟨rfl, rfl⟩) ?_
                  refine wl_nil fun F424 hF425 => ?_
                  have s426 : F424 1 = .int .i64 (p) := (hF425 1).trans s408
                  have s427 : F424 2 = .int .i64 (x) := (hF425 2).trans s409
                  have s428 : F424 3 = .int .i64 (y) := (hF425 3).trans s410
                  have s429 : F424 5 = .pointer (some ⟨p1, 0, none⟩) := (hF425 5).trans s411
                  have s430 : F424 9 = .pointer (some ⟨p14, 0, none⟩) := (hF425 9).trans s412
                  have s431 : F424 10 = .pointer (some ⟨p29, 0, none⟩) := (hF425 10).trans s413
                  have s432 : F424 12 = .pointer (some ⟨p56, 0, none⟩) := (hF425 12).trans s414
                  have s433 : F424 73 = undef := (hF425 73).trans s415
                  have s434 : F424 13 = .int .i64 (((n : Nat) : Int)) := (hF425 13).trans s416
                  have s435 : F424 48 = .bool (decide ((((n : Nat) : Int)) < (16))) := (hF425 48).trans rfl
                  clear hF425
                  refine then_normal ?_
                  refine wq_cond s435 (fun c436 => ?_) (fun c436 => ?_)
                  · replace c436 := of_decide_eq_true c436
                    refine wq_skip ?_
                    refine then_normal ?_
                    refine wq_seq ?_
                    refine wq_block ?_
                    refine wq_region ?_
                    refine wl_v (.int .i64 (((n : Nat) : Int))) rfl rfl (y_mov rfl s434 ⟨rfl, rfl⟩) ?_
                    refine wl_v (.agg #[.int .i64 ((f).W), .int .i64 ((f).H), f0, f1, f2]) rfl rfl (y_load_stc stcT_frame rfl s429 B420 ⟨rfl, rfl⟩) ?_
                    refine wl_v (.int .i64 (p)) rfl rfl (y_mov rfl s426 ⟨rfl, rfl⟩) ?_
                    refine wl_v (.int .i64 (x)) rfl rfl (y_mov rfl s427 ⟨rfl, rfl⟩) ?_
                    refine wl_v (.int .i64 (((n : Nat) : Int))) rfl rfl (y_mov rfl s434 ⟨rfl, rfl⟩) ?_
                    refine wl_v (.int .i64 ((((n % 4) : Nat) : Int))) rfl rfl (y_rem rfl rfl rfl (by first | decide | omega) (rem_nat n 4) ⟨rfl, rfl⟩) ?_
                    refine wl_v (.int .i64 ((x) + ((((n % 4) : Nat) : Int)))) rfl rfl (y_add rfl rfl rfl (i64_i rfl (by omega)) ⟨rfl, rfl⟩) ?_
                    refine wl_v (.int .i64 ((2) * ((x) + ((((n % 4) : Nat) : Int))))) rfl rfl (y_mul rfl rfl rfl (i64_i rfl (by omega)) ⟨rfl, rfl⟩) ?_
                    refine wl_v (.pointer (some ⟨p14, 0, none⟩)) rfl rfl (y_fieldR (n := 1) rfl s430 Try.underlying27 rfl (by kernel_rfl) (by decide) rfl ⟨rfl, rfl⟩) ?_
                    refine wl_v (.int .i64 (X)) rfl rfl (y_ld_stc rfl rfl Try.underlying3 B421 rfl rfl ⟨rfl, rfl⟩) ?_
                    refine wl_v (.int .i64 (((2) * ((x) + ((((n % 4) : Nat) : Int)))) + (X))) rfl rfl (y_add rfl rfl rfl (i64_i rfl (by omega)) ⟨rfl, rfl⟩) ?_
                    refine wl_v (.int .i64 (y)) rfl rfl (y_mov rfl s428 ⟨rfl, rfl⟩) ?_
                    refine wl_v (.int .i64 (((n : Nat) : Int))) rfl rfl (y_mov rfl s434 ⟨rfl, rfl⟩) ?_
                    refine wl_v (.int .i64 ((((n / 4) : Nat) : Int))) rfl rfl (y_quo rfl rfl rfl (by first | decide | omega) (i64_n (quo_nat n 4) (by omega)) ⟨rfl, rfl⟩) ?_
                    refine wl_v (.int .i64 ((y) + ((((n / 4) : Nat) : Int)))) rfl rfl (y_add rfl rfl rfl (i64_i rfl (by omega)) ⟨rfl, rfl⟩) ?_
                    refine wl_v (.int .i64 ((2) * ((y) + ((((n / 4) : Nat) : Int))))) rfl rfl (y_mul rfl rfl rfl (i64_i rfl (by omega)) ⟨rfl, rfl⟩) ?_
                    refine wl_v (.pointer (some ⟨p14, 1, none⟩)) rfl rfl (y_fieldR (n := 1) rfl s430 Try.underlying27 rfl (by kernel_rfl) (by decide) rfl ⟨rfl, rfl⟩) ?_
                    refine wl_v (.int .i64 (Y)) rfl rfl (y_ld_stc rfl rfl Try.underlying3 B421 rfl rfl ⟨rfl, rfl⟩) ?_
                    refine wl_v (.int .i64 (((2) * ((y) + ((((n / 4) : Nat) : Int)))) + (Y))) rfl rfl (y_add rfl rfl rfl (i64_i rfl (by omega)) ⟨rfl, rfl⟩) ?_
                    refine wl_call (R := fun v_ w_ => v_ = .int .i64 (smpF (f) (p) (((2) * ((x) + ((((n % 4) : Nat) : Int)))) + (X)) (((2) * ((y) + ((((n / 4) : Nat) : Int)))) + (Y))) ∧ Kept (fun _ => False) w404 w_) rfl rfl (y_cs rfl rfl rfl (fun _ _ => by kernel_rfl) (ev_func _) (vsC rfl (vsC rfl (vsC rfl (vsC rfl vsN)))) (mref_sample (p) (((2) * ((x) + ((((n % 4) : Nat) : Int)))) + (X)) (((2) * ((y) + ((((n / 4) : Nat) : Int)))) + (Y)) (f) (f0) (f1) (f2) (T_f0) (T_f1) (T_f2) _  B417 B418 B419 ) (fun e_ w_ h_ => ⟨_, h_.1, rfl, h_.2⟩)) ?_
                    rintro _ w437 ⟨rfl, k438⟩
                    have B439 := B417.all k438 Apart.none
                    have B440 := B418.all k438 Apart.none
                    have B441 := B419.all k438 Apart.none
                    have B442 := B420.all k438 id
                    have B443 := B421.all k438 id
                    have B444 := B422.all k438 id
                    have B445 := B423.all k438 id
                    have K446 := K405.trans k438 (fun _ _ x => x.elim)
                    refine wl_v (.pointer (some ⟨p56, n, none⟩)) rfl rfl (y_atR (n) (s := 1) rfl s432 rfl (by omega) Try.underlying28 (by omega) (by kernel_rfl) (by omega) ⟨rfl, rfl⟩) ?_
                    refine wl_set_blk rfl rfl rfl rfl rfl B445 (by omega) (by kernel_rfl) fun w447 B448 k449 => ?_
                    have B450 := B439.all k449 (fun i h x => (((ap63).symm) i h x))
                    have B451 := B440.all k449 (fun i h x => (((ap64).symm) i h x))
                    have B452 := B441.all k449 (fun i h x => (((ap65).symm) i h x))
                    have B453 := B442.all k449 (fun x => (((ap66).symm) p1 rfl x))
                    have B454 := B443.all k449 (fun x => (((ap67).symm) p14 rfl x))
                    have B455 := B444.all k449 (fun x => (((ap68).symm) p29 rfl x))
                    have K456 := K446.trans k449 (Grew.ok (S := fun _ => False) gr62 noB_le)
                    refine wl_nil fun F457 hF458 => ?_
                    have s459 : F457 1 = .int .i64 (p) := (hF458 1).trans s426
                    have s460 : F457 2 = .int .i64 (x) := (hF458 2).trans s427
                    have s461 : F457 3 = .int .i64 (y) := (hF458 3).trans s428
                    have s462 : F457 5 = .pointer (some ⟨p1, 0, none⟩) := (hF458 5).trans s429
                    have s463 : F457 9 = .pointer (some ⟨p14, 0, none⟩) := (hF458 9).trans s430
                    have s464 : F457 10 = .pointer (some ⟨p29, 0, none⟩) := (hF458 10).trans s431
                    have s465 : F457 12 = .pointer (some ⟨p56, 0, none⟩) := (hF458 12).trans s432
                    have s466 : F457 73 = undef := (hF458 73).trans s433
                    have s467 : F457 13 = .int .i64 (((n : Nat) : Int)) := (hF458 13).trans s434
                    clear hF458
                    refine in_normal ?_
                    refine then_normal ?_
                    refine wq_region ?_
                    refine wl_v (.int .i64 (((n : Nat) : Int))) rfl rfl (y_mov rfl s467 ⟨rfl, rfl⟩) ?_
                    refine wl_v (.int .i64 (((n + 1 : Nat) : Int))) rfl rfl (y_add rfl rfl rfl (i64_n (by omega) (by omega)) ⟨rfl, rfl⟩) ?_
                    refine wl_v (.int .i64 (((n + 1 : Nat) : Int))) rfl rfl (y_asg rfl rfl ⟨rfl, rfl⟩) ?_
                    refine wl_nil fun F468 hF469 => ?_
                    have s470 : F468 1 = .int .i64 (p) := (hF469 1).trans s459
                    have s471 : F468 2 = .int .i64 (x) := (hF469 2).trans s460
                    have s472 : F468 3 = .int .i64 (y) := (hF469 3).trans s461
                    have s473 : F468 5 = .pointer (some ⟨p1, 0, none⟩) := (hF469 5).trans s462
                    have s474 : F468 9 = .pointer (some ⟨p14, 0, none⟩) := (hF469 9).trans s463
                    have s475 : F468 10 = .pointer (some ⟨p29, 0, none⟩) := (hF469 10).trans s464
                    have s476 : F468 12 = .pointer (some ⟨p56, 0, none⟩) := (hF469 12).trans s465
                    have s477 : F468 73 = undef := (hF469 73).trans s466
                    have s478 : F468 13 = .int .i64 (((n + 1 : Nat) : Int)) := (hF469 13).trans rfl
                    clear hF469
                    exact then_normal ⟨(16 - (n + 1)), by omega, n + 1, by omega, rfl, s470, s471, s472, s473, s474, s475, s476, s477, s478, K456, B450, B451, B452, B453, B454, B455, (B448.next rfl)⟩
                  · replace c436 := of_decide_eq_false c436
                    refine wq_exit ?_
                    refine then_exit ?_
                    refine then_exit ?_
                    have l479 : 16 = n := by omega
                    subst l479
                    have B480 : Blk w404 p56 28 (mvN f p x y X Y) := (B423.last)
                    refine in_here ?_
                    refine then_normal ?_
                    refine wq_seq ?_
                    refine wq_region ?_
                    refine wl_v (blkV (mvN f p x y X Y)) rfl rfl (y_load_blk blkT_arr rfl s432 B480 ⟨rfl, rfl⟩) ?_
                    refine wl_store_blk blkT_arr rfl rfl rfl s431 rfl B422 fun w481 B482 k483 => ?_
                    have B484 := B417.all k483 (fun i h x => (((ap36).symm) i h x))
                    have B485 := B418.all k483 (fun i h x => (((ap37).symm) i h x))
                    have B486 := B419.all k483 (fun i h x => (((ap38).symm) i h x))
                    have B487 := B420.all k483 (fun x => (((ap39).symm) p1 rfl x))
                    have B488 := B421.all k483 (fun x => (((ap40).symm) p14 rfl x))
                    have B489 := B480.all k483 (fun x => ((ap68) p56 rfl x))
                    have K490 := K405.trans k483 (Grew.ok (S := fun _ => False) gr35 noB_le)
                    refine wl_v (.int .i64 (0)) rfl rfl (y_asg rfl rfl ⟨rfl, rfl⟩) ?_
                    refine wl_nil fun F491 hF492 => ?_
                    have s493 : F491 10 = .pointer (some ⟨p29, 0, none⟩) := (hF492 10).trans s431
                    have s494 : F491 73 = undef := (hF492 73).trans s433
                    have s495 : F491 11 = .int .i64 (0) := (hF492 11).trans rfl
                    clear hF492
                    refine then_normal ?_
                    refine wq_ret ?_
                    exact end_2 s494 rfl (res_blk blkT_arr rfl s493 B482) (res_tmp (v := .int .i64 (0)) rfl s495) ⟨(by first | rw [(mv_no hno).1, (mv_no hno).2] | rw [(mv_none hpl hvn).1, (mv_none hpl hvn).2] | rw [(mv_yes hpl hv).1, (mv_yes hpl hv).2]), K490⟩

set_option maxHeartbeats 4000000 in
set_option maxRecDepth 100000 in
theorem mref_both (a b : Nat → Int) (w0 : World) :
    Calls Try.prog 18 #[blkV (a), blkV (b)] w0 fun e w' => e = .returned (blkV (bothB a b)) ∧ Kept (fun _ => False) w0 w' := by
  refine calls_wq (args := [blkV (a), blkV (b)]) 28 Try.func18 rfl rfl (Nat.le_of_ble_eq_true rfl) ?_
  have K0 := Kept.refl (fun _ => False) w0
  refine wq_seq ?_
  refine wq_region ?_
  refine wl_box_blk rfl rfl rfl rfl fun p1 w2 e5 B3 k4 => ?_
  have g6 := onB_new (Nat.le_of_eq e5.symm)
  have gr7 : Grew w0 noB (onB p1) := Grew.new K0 g6
  clear e5 g6
  have K8 := K0.trans k4 (fun _ _ x => x.elim)
  refine wl_box_blk rfl rfl rfl rfl fun p9 w10 e13 B11 k12 => ?_
  have g14 := onB_new (Nat.le_of_eq e13.symm)
  have gr15 : Grew w0 noB (onB p9) := Grew.new K8 g14
  have ap16 : Apart (onB p9) (onB p1) := Apart.new g14 (onB_live (B3).lt)
  clear e13 g14
  have B17 := B3.all k12 id
  have K18 := K8.trans k12 (fun _ _ x => x.elim)
  refine wl_alloc_blk rfl rfl rfl blkT_arr.2.2 fun p19 w20 e23 B21 k22 => ?_
  have g24 := onB_new (Nat.le_of_eq e23.symm)
  have gr25 : Grew w0 noB (onB p19) := Grew.new K18 g24
  have ap26 : Apart (onB p19) (onB p1) := Apart.new g24 (onB_live (B17).lt)
  have ap27 : Apart (onB p19) (onB p9) := Apart.new g24 (onB_live (B11).lt)
  clear e23 g24
  have B28 := B17.all k22 id
  have B29 := B11.all k22 id
  have K30 := K18.trans k22 (fun _ _ x => x.elim)
  refine wl_nil fun F31 hF32 => ?_
  have s33 : F31 28 = undef := (hF32 28).trans rfl
  have s34 : F31 2 = .pointer (some ⟨p1, 0, none⟩) := (hF32 2).trans rfl
  have s35 : F31 3 = .pointer (some ⟨p9, 0, none⟩) := (hF32 3).trans rfl
  have s36 : F31 4 = .pointer (some ⟨p19, 0, none⟩) := (hF32 4).trans rfl
  clear hF32
  refine then_normal ?_
  refine wq_seq ?_
  refine wq_region ?_
  refine wl_v (blkV (fun _ => 0)) rfl rfl (y_buildR (cells := (arrL 16 (fun _ => 0)).toArray) rfl (by kernel_rfl) rfl ⟨rfl, rfl⟩) ?_
  refine wl_alloc_blk rfl rfl rfl blkT_arr.2.2 fun p37 w38 e41 B39 k40 => ?_
  have g42 := onB_new (Nat.le_of_eq e41.symm)
  have gr43 : Grew w0 noB (onB p37) := Grew.new K30 g42
  have ap44 : Apart (onB p37) (onB p1) := Apart.new g42 (onB_live (B28).lt)
  have ap45 : Apart (onB p37) (onB p9) := Apart.new g42 (onB_live (B29).lt)
  have ap46 : Apart (onB p37) (onB p19) := Apart.new g42 (onB_live (B21).lt)
  clear e41 g42
  have B47 := B28.all k40 id
  have B48 := B29.all k40 id
  have B49 := B21.all k40 id
  have K50 := K30.trans k40 (fun _ _ x => x.elim)
  refine wl_store_blk blkT_arr rfl rfl rfl rfl rfl B39 fun w51 B52 k53 => ?_
  have B54 := B47.all k53 (fun x => (((ap44).symm) p1 rfl x))
  have B55 := B48.all k53 (fun x => (((ap45).symm) p9 rfl x))
  have B56 := B49.all k53 (fun x => (((ap46).symm) p19 rfl x))
  have K57 := K50.trans k53 (Grew.ok (S := fun _ => False) gr43 noB_le)
  refine wl_nil fun F58 hF59 => ?_
  have s60 : F58 28 = undef := (hF59 28).trans s33
  have s61 : F58 2 = .pointer (some ⟨p1, 0, none⟩) := (hF59 2).trans s34
  have s62 : F58 3 = .pointer (some ⟨p9, 0, none⟩) := (hF59 3).trans s35
  have s63 : F58 4 = .pointer (some ⟨p19, 0, none⟩) := (hF59 4).trans s36
  have s64 : F58 5 = .pointer (some ⟨p37, 0, none⟩) := (hF59 5).trans rfl
  clear hF59
  refine then_normal ?_
  refine wq_seq ?_
  refine wq_seq ?_
  refine wq_region ?_
  refine wl_v (.int .i64 (0)) rfl rfl (y_asg rfl rfl ⟨rfl, rfl⟩) ?_
  refine wl_nil fun F65 hF66 => ?_
  have s67 : F65 28 = undef := (hF66 28).trans s60
  have s68 : F65 2 = .pointer (some ⟨p1, 0, none⟩) := (hF66 2).trans s61
  have s69 : F65 3 = .pointer (some ⟨p9, 0, none⟩) := (hF66 3).trans s62
  have s70 : F65 4 = .pointer (some ⟨p19, 0, none⟩) := (hF66 4).trans s63
  have s71 : F65 5 = .pointer (some ⟨p37, 0, none⟩) := (hF66 5).trans s64
  have s72 : F65 6 = .int .i64 (0) := (hF66 6).trans rfl
  clear hF66
  refine then_normal ?_
  refine wq_block ?_
  refine wq_loop (fun nn FF ww => ∃ (i : Nat), (i ≤ 16) ∧ nn = 16 - i ∧ FF 2 = .pointer (some ⟨p1, 0, none⟩) ∧ FF 3 = .pointer (some ⟨p9, 0, none⟩) ∧ FF 4 = .pointer (some ⟨p19, 0, none⟩) ∧ FF 5 = .pointer (some ⟨p37, 0, none⟩) ∧ FF 28 = undef ∧ FF 6 = .int .i64 (((i : Nat) : Int)) ∧ Kept (fun _ => False) w0 ww ∧ Blk ww p1 28 (a) ∧ Blk ww p9 28 (b) ∧ Blk ww p19 28 (fun _ => 0) ∧ Blk ww p37 28 (upto i (fun _ => 0) (bothB a b))) (16 - (0)) ⟨0, by omega, rfl, s68, s69, s70, s71, s67, s72, K57, B54, B55, B56, B52.first⟩ ?_
  rintro n76 F73 w74 ⟨i, i77, hn76, s78, s79, s80, s81, s82, s83, K75, B84, B85, B86, B87⟩
  refine wq_seq ?_
  refine wq_seq ?_
  refine wq_region ?_
  refine wl_v (.int .i64 (((i : Nat) : Int))) rfl rfl (y_mov rfl s83 ⟨rfl, rfl⟩) ?_
  refine wl_v (.bool (decide ((((i : Nat) : Int)) < (16)))) rfl rfl (y_lss rfl rfl rfl rfl ⟨rfl, rfl⟩) ?_
  refine wl_nil fun F88 hF89 => ?_
  have s90 : F88 2 = .pointer (some ⟨p1, 0, none⟩) := (hF89 2).trans s78
  have s91 : F88 3 = .pointer (some ⟨p9, 0, none⟩) := (hF89 3).trans s79
  have s92 : F88 4 = .pointer (some ⟨p19, 0, none⟩) := (hF89 4).trans s80
  have s93 : F88 5 = .pointer (some ⟨p37, 0, none⟩) := (hF89 5).trans s81
  have s94 : F88 28 = undef := (hF89 28).trans s82
  have s95 : F88 6 = .int .i64 (((i : Nat) : Int)) := (hF89 6).trans s83
  have s96 : F88 9 = .bool (decide ((((i : Nat) : Int)) < (16))) := (hF89 9).trans rfl
  clear hF89
  refine then_normal ?_
  refine wq_cond s96 (fun c97 => ?_) (fun c97 => ?_)
  · replace c97 := of_decide_eq_true c97
    refine wq_skip ?_
    refine then_normal ?_
    refine wq_seq ?_
    refine wq_block ?_
    have h1 := c8_le (a i)
    have h2 := c8_le (b i)
    refine wq_tail 15 [some 12, some 13, some 14, some 15, some 16, some 17, some 18, some 19, some 20, some 21, some 22, some 23, some 24, some 25, some 26] [Pd.eq (.int .i64 (((i : Nat) : Int))), Pd.eq (.int .i64 (((i : Nat) : Int))), Pd.eq (.pointer (some ⟨p1, i, none⟩)), Pd.eq (.int .i64 ((a) (i))), Pd.eq (.int .i64 (max ((a) (i)) (0))), Pd.eq (.int .i64 (c8 (a i))), Pd.eq (.int .i64 (((i : Nat) : Int))), Pd.eq (.pointer (some ⟨p9, i, none⟩)), Pd.eq (.int .i64 ((b) (i))), Pd.eq (.int .i64 (max ((b) (i)) (0))), Pd.eq (.int .i64 (c8 (b i))), Pd.eq (.int .i64 ((c8 (a i)) + (c8 (b i)))), Pd.eq (.int .i64 (((c8 (a i)) + (c8 (b i))) + (1))), Pd.eq (.int .i64 (Int.tdiv (c8 (a i) + c8 (b i) + 1) 2)), Pd.eq (.pointer (some ⟨p37, i, none⟩))] (by kernel_rfl) (by kernel_rfl) (by kernel_rfl) ?_ ?_
    · refine stepsF_cons ?_ ?_
      · refine StepF.one rfl fun F_ w_ hR hout hD => ?_
        exact (y_mov rfl ((hout 6 rfl (by decide)).trans s95) ⟨rfl, Kept.refl _ _⟩)
      refine stepsF_cons ?_ ?_
      · refine StepF.one rfl fun F_ w_ hR hout hD => ?_
        exact (y_mov rfl ((hout 6 rfl (by decide)).trans s95) ⟨rfl, Kept.refl _ _⟩)
      refine stepsF_cons ?_ ?_
      · refine StepF.one rfl fun F_ w_ hR hout hD => ?_
        have g13 : F_ 13 = .int .i64 (((i : Nat) : Int)) := hD.get 0 rfl rfl rfl
        exact (y_atR (i) (s := 1) rfl ((hout 2 rfl (by decide)).trans s90) g13 (by omega) Try.underlying28 (by omega) (by kernel_rfl) (by omega) ⟨rfl, Kept.refl _ _⟩)
      refine stepsF_cons ?_ ?_
      · refine StepF.one rfl fun F_ w_ hR hout hD => ?_
        have g14 : F_ 14 = .pointer (some ⟨p1, i, none⟩) := hD.get 0 rfl rfl rfl
        exact (y_ldR rfl g14 Try.underlying3 (((B84.all hR id)).cell (by omega)) ⟨rfl, Kept.refl _ _⟩)
      refine stepsF_cons ?_ ?_
      · refine StepF.one rfl fun F_ w_ hR hout hD => ?_
        have g15 : F_ 15 = .int .i64 ((a) (i)) := hD.get 0 rfl rfl rfl
        exact (y_maxR rfl g15 rfl rfl ⟨rfl, Kept.refl _ _⟩)
      refine stepsF_cons ?_ ?_
      · refine StepF.one rfl fun F_ w_ hR hout hD => ?_
        have g16 : F_ 16 = .int .i64 (max ((a) (i)) (0)) := hD.get 0 rfl rfl rfl
        exact (y_minR rfl g16 rfl (rfl) ⟨rfl, Kept.refl _ _⟩)
      refine stepsF_cons ?_ ?_
      · refine StepF.one rfl fun F_ w_ hR hout hD => ?_
        exact (y_mov rfl ((hout 6 rfl (by decide)).trans s95) ⟨rfl, Kept.refl _ _⟩)
      refine stepsF_cons ?_ ?_
      · refine StepF.one rfl fun F_ w_ hR hout hD => ?_
        have g18 : F_ 18 = .int .i64 (((i : Nat) : Int)) := hD.get 0 rfl rfl rfl
        exact (y_atR (i) (s := 1) rfl ((hout 3 rfl (by decide)).trans s91) g18 (by omega) Try.underlying28 (by omega) (by kernel_rfl) (by omega) ⟨rfl, Kept.refl _ _⟩)
      refine stepsF_cons ?_ ?_
      · refine StepF.one rfl fun F_ w_ hR hout hD => ?_
        have g19 : F_ 19 = .pointer (some ⟨p9, i, none⟩) := hD.get 0 rfl rfl rfl
        exact (y_ldR rfl g19 Try.underlying3 (((B85.all hR id)).cell (by omega)) ⟨rfl, Kept.refl _ _⟩)
      refine stepsF_cons ?_ ?_
      · refine StepF.one rfl fun F_ w_ hR hout hD => ?_
        have g20 : F_ 20 = .int .i64 ((b) (i)) := hD.get 0 rfl rfl rfl
        exact (y_maxR rfl g20 rfl rfl ⟨rfl, Kept.refl _ _⟩)
      refine stepsF_cons ?_ ?_
      · refine StepF.one rfl fun F_ w_ hR hout hD => ?_
        have g21 : F_ 21 = .int .i64 (max ((b) (i)) (0)) := hD.get 0 rfl rfl rfl
        exact (y_minR rfl g21 rfl (rfl) ⟨rfl, Kept.refl _ _⟩)
      refine stepsF_cons ?_ ?_
      · refine StepF.one rfl fun F_ w_ hR hout hD => ?_
        have g17 : F_ 17 = .int .i64 (c8 (a i)) := hD.get 0 rfl rfl rfl
        have g22 : F_ 22 = .int .i64 (c8 (b i)) := hD.get 1 rfl rfl rfl
        exact (y_add rfl g17 g22 (i64_i rfl (by omega)) ⟨rfl, Kept.refl _ _⟩)
      refine stepsF_cons ?_ ?_
      · refine StepF.one rfl fun F_ w_ hR hout hD => ?_
        have g23 : F_ 23 = .int .i64 ((c8 (a i)) + (c8 (b i))) := hD.get 0 rfl rfl rfl
        exact (y_add rfl g23 rfl (i64_i rfl (by omega)) ⟨rfl, Kept.refl _ _⟩)
      refine stepsF_cons ?_ ?_
      · refine StepF.one rfl fun F_ w_ hR hout hD => ?_
        have g24 : F_ 24 = .int .i64 (((c8 (a i)) + (c8 (b i))) + (1)) := hD.get 0 rfl rfl rfl
        exact (y_quo rfl g24 rfl (by first | decide | omega) (i64_i rfl (by rw [tdiv2 (by omega)]; omega)) ⟨rfl, Kept.refl _ _⟩)
      refine stepsF_cons ?_ ?_
      · refine StepF.one rfl fun F_ w_ hR hout hD => ?_
        have g12 : F_ 12 = .int .i64 (((i : Nat) : Int)) := hD.get 0 rfl rfl rfl
        exact (y_atR (i) (s := 1) rfl ((hout 5 rfl (by decide)).trans s93) g12 (by omega) Try.underlying28 (by omega) (by kernel_rfl) (by omega) ⟨rfl, Kept.refl _ _⟩)
      exact stepsF_nil
    intro v98 F99 w100 k101 G102 hF103
    have B105 := B84.all k101 id
    have B106 := B85.all k101 id
    have B107 := B86.all k101 id
    have B108 := B87.all k101 id
    have K109 := K75.trans k101 (fun _ _ x => x.elim)
    have s110 : F99 2 = .pointer (some ⟨p1, 0, none⟩) := (hF103 2).trans s90
    have s111 : F99 3 = .pointer (some ⟨p9, 0, none⟩) := (hF103 3).trans s91
    have s112 : F99 4 = .pointer (some ⟨p19, 0, none⟩) := (hF103 4).trans s92
    have s113 : F99 5 = .pointer (some ⟨p37, 0, none⟩) := (hF103 5).trans s93
    have s114 : F99 28 = undef := (hF103 28).trans s94
    have s115 : F99 6 = .int .i64 (((i : Nat) : Int)) := (hF103 6).trans s95
    have s116 : F99 25 = .int .i64 (Int.tdiv (c8 (a i) + c8 (b i) + 1) 2) := (hF103 25).trans (G102 13 (by decide))
    have s117 : F99 26 = .pointer (some ⟨p37, i, none⟩) := (hF103 26).trans (G102 14 (by decide))
    clear G102 hF103
    refine wl_set_blk rfl rfl rfl s117 s116 B108 (by omega) (by kernel_rfl) fun w118 B119 k120 => ?_
    have B121 := B105.all k120 (fun x => (((ap44).symm) p1 rfl x))
    have B122 := B106.all k120 (fun x => (((ap45).symm) p9 rfl x))
    have B123 := B107.all k120 (fun x => (((ap46).symm) p19 rfl x))
    have K124 := K109.trans k120 (Grew.ok (S := fun _ => False) gr43 noB_le)
    refine wl_nil fun F125 hF126 => ?_
    have s127 : F125 2 = .pointer (some ⟨p1, 0, none⟩) := (hF126 2).trans s110
    have s128 : F125 3 = .pointer (some ⟨p9, 0, none⟩) := (hF126 3).trans s111
    have s129 : F125 4 = .pointer (some ⟨p19, 0, none⟩) := (hF126 4).trans s112
    have s130 : F125 5 = .pointer (some ⟨p37, 0, none⟩) := (hF126 5).trans s113
    have s131 : F125 28 = undef := (hF126 28).trans s114
    have s132 : F125 6 = .int .i64 (((i : Nat) : Int)) := (hF126 6).trans s115
    clear hF126
    refine in_normal ?_
    refine then_normal ?_
    refine wq_region ?_
    refine wl_v (.int .i64 (((i : Nat) : Int))) rfl rfl (y_mov rfl s132 ⟨rfl, rfl⟩) ?_
    refine wl_v (.int .i64 (((i + 1 : Nat) : Int))) rfl rfl (y_add rfl rfl rfl (i64_n (by omega) (by omega)) ⟨rfl, rfl⟩) ?_
    refine wl_v (.int .i64 (((i + 1 : Nat) : Int))) rfl rfl (y_asg rfl rfl ⟨rfl, rfl⟩) ?_
    refine wl_nil fun F133 hF134 => ?_
    have s135 : F133 2 = .pointer (some ⟨p1, 0, none⟩) := (hF134 2).trans s127
    have s136 : F133 3 = .pointer (some ⟨p9, 0, none⟩) := (hF134 3).trans s128
    have s137 : F133 4 = .pointer (some ⟨p19, 0, none⟩) := (hF134 4).trans s129
    have s138 : F133 5 = .pointer (some ⟨p37, 0, none⟩) := (hF134 5).trans s130
    have s139 : F133 28 = undef := (hF134 28).trans s131
    have s140 : F133 6 = .int .i64 (((i + 1 : Nat) : Int)) := (hF134 6).trans rfl
    clear hF134
    exact then_normal ⟨(16 - (i + 1)), by omega, i + 1, by omega, rfl, s135, s136, s137, s138, s139, s140, K124, B121, B122, B123, (B119.next rfl)⟩
  · replace c97 := of_decide_eq_false c97
    refine wq_exit ?_
    refine then_exit ?_
    refine then_exit ?_
    have l141 : 16 = i := by omega
    subst l141
    have B142 : Blk w74 p37 28 (bothB a b) := (B87.last)
    refine in_here ?_
    refine then_normal ?_
    refine wq_seq ?_
    refine wq_region ?_
    refine wl_v (blkV (bothB a b)) rfl rfl (y_load_blk blkT_arr rfl s93 B142 ⟨rfl, rfl⟩) ?_
    refine wl_store_blk blkT_arr rfl rfl rfl s92 rfl B86 fun w143 B144 k145 => ?_
    have B146 := B84.all k145 (fun x => (((ap26).symm) p1 rfl x))
    have B147 := B85.all k145 (fun x => (((ap27).symm) p9 rfl x))
    have B148 := B142.all k145 (fun x => ((ap46) p37 rfl x))
    have K149 := K75.trans k145 (Grew.ok (S := fun _ => False) gr25 noB_le)
    refine wl_nil fun F150 hF151 => ?_
    have s152 : F150 4 = .pointer (some ⟨p19, 0, none⟩) := (hF151 4).trans s92
    have s153 : F150 28 = undef := (hF151 28).trans s94
    clear hF151
    refine then_normal ?_
    refine wq_ret ?_
    exact end_blk blkT_arr s153 rfl rfl s152 B144 ⟨rfl, K149⟩

end Go.Proofs.Ytceoidglhakanaa
namespace Go.Proofs.Ytceoidglhakanaa

/-- A vector that may be. -/
structure Vok where
  X : Int
  Y : Int
  ok : vecOk X Y
def c34 (n : Int) : Int := max (-34) (min n 34)
def nx (a : Int) (k : Nat) : Int := a - 2 + ((k % 5 : Nat) : Int)
def ny (c : Int) (k : Nat) : Int := c - 2 + ((k / 5 : Nat) : Int)
def vecsTo (a c : Int) : Nat → List Vok
  | 0 => []
  | k + 1 => if h : vecOk (nx a k) (ny c k) then vecsTo a c k ++ [⟨nx a k, ny c k, h⟩] else vecsTo a c k
theorem vecs_take {a c : Int} {k : Nat} (h : vecOk (nx a k) (ny c k)) : vecsTo a c (k + 1) = vecsTo a c k ++ [⟨nx a k, ny c k, h⟩] := by rw [vecsTo, dif_pos h]
theorem vecs_skip {a c : Int} {k : Nat} (h : ¬ vecOk (nx a k) (ny c k)) : vecsTo a c (k + 1) = vecsTo a c k := by rw [vecsTo, dif_neg h]
theorem vecs_le (a c : Int) (k : Nat) : (vecsTo a c k).length ≤ k := by
  induction k with
  | zero => exact Nat.le_refl _
  | succ k ih =>
    rw [vecsTo]; split
    · simp; omega
    · omega
def stepV (f : FD) (p x y : Int) (b : Nat → Int) (s : Found) (v : Vok) : Found :=
  if mvE f p x y v.X v.Y = 0 ∧ (s.n < 0 ∨ costF (mvB f p x y v.X v.Y) b < s.n) then ⟨v.X, v.Y, costF (mvB f p x y v.X v.Y) b⟩ else s
def foldV (f : FD) (p x y : Int) (b : Nat → Int) (l : List Vok) : Found := l.foldl (stepV f p x y b) ⟨0, 0, -1⟩
theorem fold_one (f : FD) (p x y : Int) (b : Nat → Int) (l : List Vok) (v : Vok) : foldV f p x y b (l ++ [v]) = stepV f p x y b (foldV f p x y b l) v := by unfold foldV; rw [List.foldl_append]; rfl
theorem fold_take {f : FD} {p x y : Int} {b : Nat → Int} {l : List Vok} {v : Vok} (h : mvE f p x y v.X v.Y = 0) (h2 : (foldV f p x y b l).n < 0 ∨ costF (mvB f p x y v.X v.Y) b < (foldV f p x y b l).n) : foldV f p x y b (l ++ [v]) = ⟨v.X, v.Y, costF (mvB f p x y v.X v.Y) b⟩ := by
  rw [fold_one, stepV, if_pos ⟨h, h2⟩]
theorem fold_keep {f : FD} {p x y : Int} {b : Nat → Int} {l : List Vok} {v : Vok} (h2 : ¬ ((foldV f p x y b l).n < 0 ∨ costF (mvB f p x y v.X v.Y) b < (foldV f p x y b l).n)) : foldV f p x y b (l ++ [v]) = foldV f p x y b l := by
  rw [fold_one, stepV, if_neg (fun z => h2 z.2)]
theorem sr_noplace {f : FD} {p x y : Int} (h : ¬ placeF f p x y) (b : Nat → Int) (X Y : Int) (k : Nat) : srTo f p x y b X Y k = ⟨0, 0, -1⟩ := by
  induction k with
  | zero => rfl
  | succ k ih => rw [sr_bad (fun e => h ((mvE_iff _ _ _ _ _ _).1 e).1), ih]
/-- Both searches, step by step. -/
theorem sr_fold (f : FD) (p x y : Int) (b : Nat → Int) (X Y : Int) (k : Nat) : srTo f p x y b X Y k = foldV f p x y b (vecsTo (c100 X) (c100 Y) k) := by
  induction k with
  | zero => rfl
  | succ k ih =>
    by_cases hv : vecOk (nx (c100 X) k) (ny (c100 Y) k)
    · rw [vecs_take hv, fold_one, ← ih]
      rfl
    · rw [vecs_skip hv, ← ih]
      exact sr_bad (fun e => hv ((mvE_iff _ _ _ _ _ _).1 e).2)
theorem vecs_none {a c : Int} (h : ∀ k, k < 25 → ¬ vecOk (nx a k) (ny c k)) : ∀ k, k ≤ 25 → vecsTo a c k = [] := by
  intro k
  induction k with
  | zero => intro _; rfl
  | succ k ih => intro hk; rw [vecs_skip (h k (by omega)), ih (by omega)]
theorem vecs_34 (X Y : Int) : vecsTo (c34 X) (c34 Y) 25 = vecsTo (c100 X) (c100 Y) 25 := by
  by_cases hX : c34 X = c100 X
  · by_cases hY : c34 Y = c100 Y
    · rw [hX, hY]
    · rw [vecs_none (fun k hk hv => ?_) 25 (Nat.le_refl _), vecs_none (fun k hk hv => ?_) 25 (Nat.le_refl _)]
      · obtain ⟨_, _, h3, h4⟩ := hv; unfold ny c100 at h3 h4; unfold c34 c100 at hY; omega
      · obtain ⟨_, _, h3, h4⟩ := hv; unfold ny c34 at h3 h4; unfold c34 c100 at hY; omega
  · rw [vecs_none (fun k hk hv => ?_) 25 (Nat.le_refl _), vecs_none (fun k hk hv => ?_) 25 (Nat.le_refl _)]
    · obtain ⟨h1, h2, _⟩ := hv; unfold nx c100 at h1 h2; unfold c34 c100 at hX; omega
    · obtain ⟨h1, h2, _⟩ := hv; unfold nx c34 at h1 h2; unfold c34 c100 at hX; omega
theorem sr_is_fold (f : FD) (p x y : Int) (b : Nat → Int) (X Y : Int) : srF f p x y b X Y = foldV f p x y b (vecsTo (c34 X) (c34 Y) 25) := by
  rw [vecs_34]; exact sr_fold f p x y b X Y 25
theorem c34_le (n : Int) : -34 ≤ c34 n ∧ c34 n ≤ 34 := by unfold c34; omega
theorem nx_in (a : Int) (i : Nat) {j : Nat} (h : j < 5) : nx a (5 * i + j) = a - 2 + (j : Int) := by unfold nx; omega
theorem ny_in (c : Int) (i : Nat) {j : Nat} (h : j < 5) : ny c (5 * i + j) = c - 2 + (i : Int) := by unfold ny; omega
end Go.Proofs.Ytceoidglhakanaa
namespace Go.Proofs.Ytceoidglhakanaa
open Go.RowKit

theorem Byt.row {A B : World} {row : Option Nat} {n : Nat} {T : Nat → Prop} {v : Value} {l : List Nat} (h : Byt A T v l) (hg : A.grownBy B row) (hr : RowNew n A row) : Byt B T v l := by
  obtain ⟨⟨a, cap, rfl, h1, h2, h3, hl, hc⟩, hL, hT⟩ := h
  have k := kept_row hg
  refine ⟨⟨a, cap, rfl, h1, h2, h3, hl, fun hpos => ?_⟩, hL.mono k, hT⟩
  obtain ⟨b, off, rfl, hb, hcell⟩ := hc hpos
  refine ⟨b, off, rfl, Nat.lt_of_lt_of_le hb k.size, fun i hi => (World.cell?_of_block (k.block b hb fun e => ?_)).trans (hcell i hi)⟩
  obtain ⟨_, o, ho, hn⟩ := hr b e.symm
  have := hcell 0 hpos
  unfold World.cell? at this
  simp only at this
  rw [ho] at this
  cases o <;> simp_all [Obj.isCells]
theorem Mrk.far {w : World} {D : Nat} {T : Nat → Prop} (hd : w.heap.size ≤ D) (hL : Live w T) : Apart (onB D) T := fun i hi ht => by
  cases hi
  exact absurd (hL _ ht) (by omega)

def asP (B : Nat) (Kp : World → World → Prop) (I : World → Prop) (Ax : (Nat → Value) → World → Prop) (W : World) : Exit → (Nat → Value) → World → Prop
  | .normal, F, W' => KeepsFrom B W W' ∧ Kp W W' ∧ I W' ∧ Ax F W'
  | _, _, _ => False
def roundR (B : Nat) (Kp : World → World → Prop) (J Jx : World → Prop) (W : World) : Exit → (Nat → Value) → World → Prop
  | .normal, _, W' => KeepsFrom B W W' ∧ Kp W W' ∧ J W'
  | .ret, _, W' => KeepsFrom B W W' ∧ Jx W'
  | _, _, _ => False
def atRet {α : Type} (Ix : List α → World → Prop) : Code → List α → World → Prop
  | .ret, pre, W => Ix pre W
  | _, _, _ => False
theorem atRet_own {α : Type} {B : Nat} {Ix : List α → World → Prop} (h : OwnFrom B Ix) : ∀ c, OwnFrom B (atRet Ix c) := by
  intro c s W W' row hs hg hr
  cases c <;> first | exact h s W W' row hs hg hr | exact hs.elim

theorem wq_rangeR {α : Type} {P : Program} {N : Nat} {Q : Exit → (Nat → Value) → World → Prop} {F : Nat → Value} {w : World} {g : Operand} {ps : Array Tmp} {assign body : Code} {gf : Nat} {lb : Array Value}
    {encs : α → List Value} {U : Nat → Prop} {S Sp : List α → Prop} {M : Nat}
    (hg : ev (cutF N F) g = .func (.func gf) #[] lb) (eg : ∀ args w, (callFunc gf args).run P w = .ok (.enter gf args) w)
    (hseq : SeqStopsK Fence.wide 1 P gf lb (fun x => (encs x).toArray) (Kept U) S Sp M w) (hU : ∀ i, w.heap.size ≤ i → U i)
    (pl : List Tmp) (hpl : ps = pl.toArray) (hps : ∀ x, (encs x).length = pl.length) (hpN : (pl.all fun p => Nat.blt p N) = true)
    (I Ix : List α → World → Prop) (hI : OwnFrom w.heap.size I) (hIx : OwnFrom w.heap.size Ix) (h0 : I [] w) (Ax : α → (Nat → Value) → World → Prop) (hAx : ∀ x FF, OwnFrom w.heap.size (fun (_ : Unit) W => Ax x FF W))
    (hassign : ∀ l pre x W, I pre W → wq (some (l + 1)) P N assign (asP w.heap.size (Kept U) (I pre) (Ax x) W) (loopF N F (pl.zip (encs x))) W)
    (hbody : ∀ (l : Nat) (pre : List α) (x : α) (F' : Nat → Value) (W : World), I pre W → Ax x F' W → pre.length < M → wq (some (l + 1)) P N body (roundR w.heap.size (Kept U) (I (pre ++ [x])) (Ix (pre ++ [x])) W) F' W)
    (hdone : ∀ (D : Nat) (xs : List α) (W : World), w.heap.size ≤ D → S xs → I xs W → W.heap[D]? = some (.deferred (some [])) → Q .normal (up F N (markV (D :: marksOf (F N)))) W)
    (hstop : ∀ (D : Nat) (pre : List α) (W : World), w.heap.size ≤ D → Ix pre W → W.heap[D]? = some (.deferred (some [])) → Q .ret (up F N (markV (D :: marksOf (F N)))) W) :
    wq none P N (.rangeFunc g ps assign body) Q F w := by
  subst hpl
  intro a ha
  refine wpIn_wide.2 ((wpIn_wide (n := 2)).1 ?_)
  refine wpIn_rangeFunc_ownH rfl (by decide) (gf := gf) (lb := lb) (by rw [ha.eval]; exact hg) trivial eg hseq
    (fun h k => h.trans k (fun _ _ x => x)) (fun W l o o' hl ho hc hw => ?_) (Below.refl _ _) (fun x => by simp [hps]) I (atRet Ix) hI (atRet_own hIx) h0
    (fun x a' W => ∃ F', Fr N F' a' ∧ Ax x F' W) (fun x a' s W W' row h hg hr => ?_) ?_ ?_ ?_ ?_
  · exact (Kept.refl U W).grown (grownBy_putObj' W l o') (fun k e hk => by cases e; exact hU _ hl)
  · obtain ⟨F', hF, hx⟩ := h
    exact ⟨F', hF, hAx x F' s W W' row hx hg hr⟩
  · intro l pre x W K hi hK
    have hz : ((pl.toArray.zip (encs x).toArray).foldl (fun t (p, v) => t.setIfInBounds p v) a.tmps) = (pl.zip (encs x)).foldl (fun t p => t.setIfInBounds p.1 p.2) a.tmps := by simp
    rw [hz]
    have hf : Fr N (loopF N F (pl.zip (encs x))) { tmps := (pl.zip (encs x)).foldl (fun t p => t.setIfInBounds p.1 p.2) a.tmps, defers := [] } :=
      Fr.rounds _ _ _ (ha.last undef [] rfl) (all_zip pl _ hpN)
    refine wpIn_mono (hassign l pre x W hi _ hf) ?_
    rintro e a' w' ⟨F', hF, hq⟩
    cases e <;> first
      | (obtain ⟨h1, h2, h3, h4⟩ := hq; exact hK a' _ h1 h2 h3 ⟨F', hF, h4⟩)
      | exact hq.elim
  · rintro l pre x a' W _ _ hi ⟨F', hF, hx⟩ hlt
    refine wpIn_mono (hbody l pre x F' W hi hx hlt a' hF) ?_
    rintro e a'' w' ⟨F'', _, hq⟩
    cases e <;> first | exact hq | exact hq.elim
  · intro D xs W hD hS hi hd
    exact ⟨_, ha.mark D, hdone D xs W hD hS hi hd⟩
  · intro D c pre W hD _ h hd
    cases c <;> first
      | exact wpIn_ret ⟨_, ha.mark D, hstop D pre W hD h hd⟩
      | exact h.elim

section
variable {P : Program} {N : Nat} {Q : (Exit → (Nat → Value) → World → Prop)} {F : Nat → Value} {w : World}
theorem wl_yieldw {ops : Array Oper} {o : Oper} {rest : List Oper} {R : Ending → World → Prop} {l : Nat} {c : Call} {cx : Operand} {xs : List Operand} {vs : List Value} (j : Nat) (want : Bool) (d : Tmp) (hg : o.guard = some (j, want)) (hj : (ops[j]?).bind (·.dst) = some d) (hdn : Nat.blt d N = true) (hv' : F d = .bool want) (hd : fits N o.dst = true) (ho : o.op = .call c) (hc : c.callee = .value cx) (hcx : ev (cutF N F) cx = .func (.yield l) #[] #[])
    (hx : c.args = xs.toArray) (hv : xs.map (ev (cutF N F)) = vs) (hY : YieldAt Fence.wide 0 P l vs.toArray w R)
    (h : ∀ e w', R e w' → ∃ v, e = .returned v ∧ wl (some 0) P N ops Q rest (putF F o.dst v) w') : wl (some 0) P N ops Q (o :: rest) F w := by
  intro a ha
  show wpListIn Fence.wide 0 P ops (Fp N Q) (o :: rest) a w
  refine wpListIn_step fun K hK => ?_
  rw [if_pos (by unfold Region.wanted; rw [hg]; simp only [yielded_of ha hj hdn, hv']; simp)]
  refine ⟨fun f _ => trivial, ?_⟩
  have hnd : ∀ c, o.op ≠ .defer c := fun c' e => by rw [ho] at e; cases e
  rw [Oper.semAt_eq _ _ _ hnd]
  obtain ⟨cl, ars, ts⟩ := c
  simp only at hc hx
  subst hc; subst hx; subst hv
  obtain ⟨fn, tmps, assign, body, hy, hR⟩ := hY
  have e : (execOp a.eval o).run P w = .ok (.round l fn tmps assign body) w := by
    rw [ha.eval, ← hy]
    simp [execOp, ho, resolve, hcx, Deferred.ofValue, invoke]
  rw [e]
  refine ⟨fun e => (by cases e), hR.mono ?_⟩
  intro e' w' hr
  obtain ⟨v, rfl, hk⟩ := h e' w' hr
  exact hK _ _ (hk _ (ha.put hd v))
end

section
variable {P : Program} {fn : Func} {N : Nat} {R : Ending → World → Prop} {F : Nat → Value} {w : World}
theorem res_cel {p : Tmp} {ty t : TypeId} {q : Nat} {v : Value} {d : TypeDesc} (hu : P.underlying ty = some d) (hd : plainD d = true) (ht : Nat.blt p N = true) (hp : F p = .pointer (some ⟨q, 0, none⟩)) (hB : Cel w q t v) : ResOk P N F w (.cell p ty) v := by
  refine ⟨ht, _, hp, ?_⟩
  have hc := hB.cell
  cases d <;> simp [plainD] at hd <;> simp [loadVar, isAgg, run_underlying hu, hc, go_sem]
theorem endm_2 {ms : List Nat} {r1 r2 : ResultVar} {v1 v2 : Value} (hm : F N = markV ms) (ho : Opens ms w) (h : fn.results = #[r1, r2]) (h1 : ResOk P N F (shut ms w) r1 v1) (h2 : ResOk P N F (shut ms w) r2 v2)
    (hR : R (.returned (.tuple #[v1, v2])) (shut ms w)) : endM P fn N R .ret F w := by
  refine ⟨ms, hm, ho, fun a ha => ⟨_, ?_, hR⟩⟩
  cases r1 <;> cases r2 <;> simp only [ResOk] at h1 h2
  · obtain ⟨b1, h1⟩ := h1; obtain ⟨b2, h2⟩ := h2
    rw [← ha.at' _ b1] at h1; rw [← ha.at' _ b2] at h2
    simp [results, h] at *; simp [h1, h2]
  · obtain ⟨b1, h1⟩ := h1; obtain ⟨b2, ad, e, hl⟩ := h2
    rw [← ha.at' _ b1] at h1; rw [← ha.at' _ b2] at e
    simp [results, h] at *; simp [h1, e, asAddr, hl]
  · obtain ⟨b1, ad, e, hl⟩ := h1; obtain ⟨b2, h2⟩ := h2
    rw [← ha.at' _ b1] at e; rw [← ha.at' _ b2] at h2
    simp [results, h] at *; simp [h2, e, asAddr, hl]
  · obtain ⟨b1, ad, e, hl⟩ := h1; obtain ⟨b2, ad2, e2, hl2⟩ := h2
    rw [← ha.at' _ b1] at e; rw [← ha.at' _ b2] at e2
    simp [results, h] at *; simp [e, e2, asAddr, hl, hl2]
end

theorem y_storeStc {P : Program} {ρ : Operand → Value} {o : Oper} {w : World} {R : Value → World → Prop} {ty t : TypeId} {x y : Operand} {p : Nat} {vs us : List Value} (hT : StcT P ty us.length) (ho : o.op = .store ty x y) (hx : ρ x = .pointer (some ⟨p, 0, none⟩)) (hy : ρ y = .agg us.toArray) (hB : Stc w p t vs) (hl : vs.length = us.length) (h1 : OneAll us)
    (h : ∀ w', Stc w' p t us → Kept (fun k => k = p) w w' → R undef w') : Yields P ρ o w R := by
  obtain ⟨d, _, _, hsz⟩ := hT
  exact y_store_row ty x y ho p _ us.toArray t hx hy hB (by simpa using hl) (by rw [List.size_toArray]; exact hsz) (all_oneCell_toArray h1) fun w' hw hk => h w' hw hk
section
variable {P : Program} {ρ : Operand → Value} {o : Oper} {w : World} {R : Value → World → Prop}
theorem y_shlR {t t' : TypeId} {k k' : IntKind} {x y : Operand} {m r : Int} (n : Nat) (ho : o.op = .binOp .shl t x y t') (hx : ρ x = .int k m) (hy : ρ y = .int k' (n : Int)) (hr : k.wrap (m * 2 ^ min n k.bits) = r) (h : R (.int k r) w) : Yields P ρ o w R :=
  y_of (v := .int k (k.wrap (m * 2 ^ min n k.bits))) (w' := w) (by
    have h0 : (0 : Int) ≤ (n : Int) := by omega
    simp only [execOp, ho, hx, hy, binOp_shl, shift_shl_any k k' m (n : Int) h0, Int.toNat_natCast, eqGuard]
    rfl) (by rw [hr]; exact h)
theorem y_andR {P : Program} {ρ : Operand → Value} {o : Oper} {w : World} {R : Value → World → Prop} {t t' : TypeId} {k : IntKind} {x y : Operand} {m n r : Int} (ho : o.op = .binOp .and t x y t') (hx : ρ x = .int k m) (hy : ρ y = .int k n) (hr : bits .and k m n = r) (h : R (.int k r) w) : Yields P ρ o w R :=
  y_of (v := .int k (bits .and k m n)) (w' := w) (by simp [execOp, ho, hx, hy, go_sem]) (by rw [hr]; exact h)
end
end Go.Proofs.Ytceoidglhakanaa
namespace Go.Proofs.Ytceoidglhakanaa
open Go.RowKit

/-- What is asked of one operation. U tells which operation uses an answer up. -/
def StepU (U : Nat → Option Nat) (P : Program) (R : World → Prop) (D : List (Option Tmp)) (G H : Nat → Value → World → Prop) (a0 : Act) (i : Nat) (o : Oper) : Prop :=
  ∀ (a : Act) (w : World), R w → (∀ t, some t ∉ D → a.eval (.tmp t) = a0.eval (.tmp t)) → Deps D (fun j v w => (U j = none ∨ U j = some i) → G j v w) a w o.after.toList →
    (goes D o a = true → Yields P a.eval o w (fun v w' => G i v w' ∧ R w' ∧ (∀ j x, j ≠ i → U j ≠ some i → G j x w → G j x w') ∧ (∀ j x, U j ≠ some i → H j x w → H j x w') ∧ ∀ j d, U j = some i → D[j]? = some (some d) → H j (a.eval (.tmp d)) w')) ∧ (goes D o a = false → G i undef w ∧ ∀ j, U j ≠ some i)
def StepsU (U : Nat → Option Nat) (P : Program) (R : World → Prop) (D : List (Option Tmp)) (G H : Nat → Value → World → Prop) (a0 : Act) : Nat → List Oper → Prop
  | _, [] => True
  | i, o :: r => StepU U P R D G H a0 i o ∧ StepsU U P R D G H a0 (i + 1) r
theorem StepsU.at {U : Nat → Option Nat} {P : Program} {R : World → Prop} {D : List (Option Tmp)} {G H : Nat → Value → World → Prop} {a0 : Act} : ∀ {i : Nat} {os : List Oper}, StepsU U P R D G H a0 i os → ∀ k o, os[k]? = some o → StepU U P R D G H a0 (i + k) o := by
  intro i os
  induction os generalizing i with
  | nil => intro _ k o h; simp at h
  | cons x r ih =>
    intro h k o hk
    cases k with
    | zero => simp at hk; subst hk; exact h.1
    | succ k =>
      simp at hk
      have := ih h.2 k o hk
      rwa [show i + 1 + k = i + (k + 1) by omega] at this
end Go.Proofs.Ytceoidglhakanaa
namespace Go.Proofs.Ytceoidglhakanaa
open Go.RowKit

/-- Which operation uses an answer up. -/
def usedBy (l : List (Nat × Nat)) (j : Nat) : Option Nat := (l.find? fun q => q.1 == j).map (·.2)
theorem usedBy_mem {l : List (Nat × Nat)} {j k : Nat} (h : usedBy l j = some k) : (j, k) ∈ l := by
  unfold usedBy at h
  cases hf : l.find? fun q => q.1 == j with
  | none => rw [hf] at h; cases h
  | some q =>
    rw [hf] at h
    cases h
    have h1 := List.find?_some hf
    have h2 := List.mem_of_find?_eq_some hf
    have : q.1 = j := by simpa using h1
    rw [← this]; exact h2
def noUse (l : List (Nat × Nat)) (i : Nat) : Bool := l.all fun q => q.2 != i
theorem noUse_at {l : List (Nat × Nat)} {i : Nat} (h : noUse l i = true) (j : Nat) : usedBy l j ≠ some i := fun e => by
  have := List.all_eq_true.1 h _ (usedBy_mem e)
  simp at this
def oneUse (l : List (Nat × Nat)) (i j : Nat) : Bool := l.all fun q => q.2 != i || q.1 == j
theorem oneUse_at {l : List (Nat × Nat)} {i j : Nat} (h : oneUse l i j = true) {j' : Nat} (e : usedBy l j' = some i) : j' = j := by
  have := List.all_eq_true.1 h _ (usedBy_mem e)
  simpa using this
/-- What is told to operation i. -/
def Told (l : List (Nat × Nat)) (Gs : List Pd) (i : Nat) : Nat → Value → World → Prop := fun j v w => (usedBy l j = none ∨ usedBy l j = some i) → Said Gs j v w
/-- What operation i leaves. -/
def Left (l : List (Nat × Nat)) (D : List (Option Tmp)) (Gs Hs : List Pd) (w0 : World) (i : Nat) (ρ : Operand → Value) (w : World) (v : Value) (w' : World) : Prop :=
  Said Gs i v w' ∧ Kept (fun _ => False) w0 w' ∧ (∀ j x, j ≠ i → usedBy l j ≠ some i → Said Gs j x w → Said Gs j x w') ∧ (∀ j x, usedBy l j ≠ some i → Said Hs j x w → Said Hs j x w') ∧ ∀ j d, usedBy l j = some i → D[j]? = some (some d) → Said Hs j (ρ (.tmp d)) w'
section
variable {P : Program} {N : Nat} {F : Nat → Value} {w : World} {Q : Exit → (Nat → Value) → World → Prop}

def StepFU (l : List (Nat × Nat)) (N : Nat) (P : Program) (D : List (Option Tmp)) (Gs Hs : List Pd) (F0 : Nat → Value) (w0 : World) (i : Nat) (o : Oper) : Prop :=
  ∀ (F : Nat → Value) (w : World), Kept (fun _ => False) w0 w → (∀ t, Nat.blt t N = true → some t ∉ D → F t = F0 t) → DepsF D (Told l Gs i) F w o.after.toList →
    match o.guard with
    | none => Yields P (ev F) o w (Left l D Gs Hs w0 i (ev F) w)
    | some (j, want) => ∃ d, D.getD j none = some d ∧
      ((F d = .bool want ∧ Yields P (ev F) o w (Left l D Gs Hs w0 i (ev F) w)) ∨ ((F d = .bool (!want) ∨ F d = undef) ∧ Said Gs i undef w ∧ noUse l i = true))
def StepsFU (l : List (Nat × Nat)) (N : Nat) (P : Program) (D : List (Option Tmp)) (Gs Hs : List Pd) (F0 : Nat → Value) (w0 : World) : Nat → List Oper → Prop
  | _, [] => True
  | i, o :: r => StepFU l N P D Gs Hs F0 w0 i o ∧ StepsFU l N P D Gs Hs F0 w0 (i + 1) r
theorem StepFU.step {l : List (Nat × Nat)} {D : List (Option Tmp)} {Gs Hs : List Pd} {w0 : World} {i : Nat} {o : Oper} {a0 : Act} (ha : Fr N F a0) (h : StepFU l N P D Gs Hs F w0 i o) : StepU (usedBy l) P (Kept (fun _ => False) w0) D (Said Gs) (Said Hs) a0 i o := by
  intro a w hR hout hD
  have h1 := h (fun t => a.tmps.getD t undef) w hR (fun t hb ht => by rw [← ha.at' t hb]; exact hout t ht) hD.toF
  rw [← eval_ev a] at h1
  unfold goes
  cases hg : o.guard with
  | none => rw [hg] at h1; exact ⟨fun _ => h1, fun e => by cases e⟩
  | some g =>
    obtain ⟨j, want⟩ := g
    rw [hg] at h1
    obtain ⟨d, hd, h1⟩ := h1
    simp only [hd]
    have hev : a.eval (.tmp d) = a.tmps.getD d undef := rfl
    rcases h1 with ⟨hv, hy⟩ | ⟨hv, hs⟩
    · rw [hev, hv]; exact ⟨fun _ => hy, fun e => by simp at e⟩
    · refine ⟨fun e => ?_, fun _ => ⟨hs.1, noUse_at hs.2⟩⟩
      rcases hv with hv | hv
      · rw [hev, hv] at e; cases want <;> simp at e
      · rw [hev, hv] at e; simp [undef] at e
theorem StepsFU.steps {l : List (Nat × Nat)} {D : List (Option Tmp)} {Gs Hs : List Pd} {w0 : World} {a0 : Act} (ha : Fr N F a0) : ∀ {os : List Oper} {i : Nat}, StepsFU l N P D Gs Hs F w0 i os → StepsU (usedBy l) P (Kept (fun _ => False) w0) D (Said Gs) (Said Hs) a0 i os := by
  intro os
  induction os with
  | nil => intro i _; exact trivial
  | cons o r ih => intro i h; exact ⟨h.1.step ha, ih h.2⟩
theorem left_plain {l : List (Nat × Nat)} {D : List (Option Tmp)} {Gs Hs : List Pd} {w0 w w' : World} {i : Nat} {ρ : Operand → Value} {v : Value} (hn : noUse l i = true) (hR : Kept (fun _ => False) w0 w) (h : Said Gs i v w' ∧ Kept (fun _ => False) w w') : Left l D Gs Hs w0 i ρ w v w' :=
  ⟨h.1, hR.trans h.2 (fun _ _ x => x), fun j _ _ _ hj => (Gs.getD j Pd.any).stays _ _ _ hj h.2, fun j _ _ hj => (Hs.getD j Pd.any).stays _ _ _ hj h.2, fun j _ e => absurd e (noUse_at hn j)⟩
theorem Yields.mono' {ρ : Operand → Value} {o : Oper} {R R' : Value → World → Prop} (h : Yields P ρ o w R) (hr : ∀ v w', R v w' → R' v w') : Yields P ρ o w R' := by
  revert h
  unfold Yields
  generalize (execOp ρ o).run P w = r
  intro h
  cases r with
  | ok n w' =>
    cases n <;> simp only at h ⊢ <;> first
      | exact hr _ _ h
      | exact h.elim
      | exact Calls.mono h (fun e w'' ⟨y, he, hk⟩ => ⟨y, he, hr _ _ hk⟩)
  | halt y w' => exact h.elim
theorem StepFU.one {l : List (Nat × Nat)} {D : List (Option Tmp)} {Gs Hs : List Pd} {F0 : Nat → Value} {w0 : World} {i : Nat} {o : Oper} (hn : noUse l i = true) (hg : o.guard = none)
    (h : ∀ (F : Nat → Value) (w : World), Kept (fun _ => False) w0 w → (∀ t, Nat.blt t N = true → some t ∉ D → F t = F0 t) → DepsF D (Told l Gs i) F w o.after.toList → Yields P (ev F) o w (fun v w' => Said Gs i v w' ∧ Kept (fun _ => False) w w')) : StepFU l N P D Gs Hs F0 w0 i o := by
  intro F w h1 h2 h3
  rw [hg]
  exact (h F w h1 h2 h3).mono' fun _ _ x => left_plain hn h1 x
theorem StepFU.when {l : List (Nat × Nat)} {D : List (Option Tmp)} {Gs Hs : List Pd} {F0 : Nat → Value} {w0 : World} {i : Nat} {o : Oper} (hn : noUse l i = true) (j : Nat) (want : Bool) (d : Tmp) (hg : o.guard = some (j, want)) (hd : D.getD j none = some d)
    (h : ∀ (F : Nat → Value) (w : World), Kept (fun _ => False) w0 w → (∀ t, Nat.blt t N = true → some t ∉ D → F t = F0 t) → DepsF D (Told l Gs i) F w o.after.toList → F d = .bool want ∧ Yields P (ev F) o w (fun v w' => Said Gs i v w' ∧ Kept (fun _ => False) w w')) : StepFU l N P D Gs Hs F0 w0 i o := by
  intro F w h1 h2 h3
  rw [hg]
  obtain ⟨hv, hy⟩ := h F w h1 h2 h3
  exact ⟨d, hd, .inl ⟨hv, hy.mono' fun _ _ x => left_plain hn h1 x⟩⟩
def Pd.under (Ty : TypeId → Prop) (p : Pd) : Prop := ∀ v w w' S, p.says v w → Kept S w w' → (∀ i, S i → ∀ c e f, w.heap[i]? = some (.cells c e f) → Ty e) → p.says v w'
theorem under_any {Ty : TypeId → Prop} : Pd.any.under Ty := fun _ _ _ _ _ _ _ => trivial
def AllUnder (Ty : TypeId → Prop) (skip : Nat → Bool) : Nat → List Pd → Prop
  | _, [] => True
  | k, p :: r => (skip k = true ∨ p.under Ty) ∧ AllUnder Ty skip (k + 1) r
theorem AllUnder.at {Ty : TypeId → Prop} {skip : Nat → Bool} : ∀ {Gs : List Pd} {k : Nat}, AllUnder Ty skip k Gs → ∀ j, skip (k + j) = false → (Gs.getD j Pd.any).under Ty := by
  intro Gs
  induction Gs with
  | nil => intro k _ j _; exact under_any
  | cons p r ih =>
    intro k h j hj
    cases j with
    | zero =>
      rcases h.1 with e | e
      · rw [Nat.add_zero] at hj; rw [hj] at e; cases e
      · exact e
    | succ j => exact ih h.2 j (by rw [show k + 1 + j = k + (j + 1) by omega]; exact hj)
/-- The operation that uses an answer up: it turns blocks that were made here. -/
theorem StepFU.turn {l : List (Nat × Nat)} {D : List (Option Tmp)} {Gs Hs : List Pd} {F0 : Nat → Value} {w0 : World} {i : Nat} {o : Oper} (j : Nat) (d : Tmp) (Ty : TypeId → Prop) (hg : o.guard = none) (hd : D[j]? = some (some d)) (h1u : oneUse l i j = true) (hu : AllUnder Ty (fun q => decide (q = i ∨ usedBy l q = some i)) 0 Gs) (hu2 : AllUnder Ty (fun q => decide (usedBy l q = some i)) 0 Hs)
    (h : ∀ (F : Nat → Value) (w : World), Kept (fun _ => False) w0 w → (∀ t, Nat.blt t N = true → some t ∉ D → F t = F0 t) → DepsF D (Told l Gs i) F w o.after.toList →
      Yields P (ev F) o w (fun v w' => Said Gs i v w' ∧ Said Hs j (F d) w' ∧ ∃ S, Kept S w w' ∧ (∀ x, S x → w0.heap.size ≤ x) ∧ ∀ x, S x → ∀ c e f, w.heap[x]? = some (.cells c e f) → Ty e)) : StepFU l N P D Gs Hs F0 w0 i o := by
  intro F w h1 h2 h3
  rw [hg]
  refine (h F w h1 h2 h3).mono' fun v w' ⟨hs, hs2, S, k, hn, ht⟩ => ⟨hs, h1.trans k (fun x hx hS => absurd (hn x hS) (by omega)), fun q x hj hU hx => ?_, fun q x hU hx => ?_, fun q d' hU hq => ?_⟩
  · exact hu.at q (by rw [Nat.zero_add]; exact decide_eq_false (fun e => e.elim hj hU)) x w w' S hx k ht
  · exact hu2.at q (by rw [Nat.zero_add]; exact decide_eq_false hU) x w w' S hx k ht
  · have e := oneUse_at h1u hU
    subst e
    rw [hd] at hq
    cases hq
    exact hs2

end
end Go.Proofs.Ytceoidglhakanaa
namespace Go.Proofs.Ytceoidglhakanaa
open Go.RowKit

/-- What is said of an operation: what it answers; that it turns the block of operation j; that it makes a block that holds zs until operation k, and us from then on; that it turns a block that was there. -/
inductive Pc where
  | eq (v : Value)
  | turn (j : Nat)
  | blk (t : TypeId) (zs : List Value) (k : Nat) (us : List Value)
  | told (p : Nat) (t : TypeId) (zs us : List Value)
def Pc.none : Pc := .eq undef
def isBlk : Pc → Bool
  | .blk _ _ _ _ => true
  | _ => false
def HoldC (n0 : Nat) (p : Pc) (L : Nat → Bool) (v : Value) (w : World) : Prop := match p with
  | .eq x => v = x
  | .turn _ => True
  | .told _ _ _ _ => True
  | .blk t zs k us => ∃ q, v = .pointer (some ⟨q, 0, none⟩) ∧ n0 ≤ q ∧ Stc w q t (if L k = true then us else zs)
/-- The blocks that were there and are turned: they are there, and none is another one. -/
def NotTold (p : Nat) : List Pc → Prop
  | [] => True
  | .told q _ _ _ :: r => p ≠ q ∧ NotTold p r
  | .eq _ :: r => NotTold p r
  | .turn _ :: r => NotTold p r
  | .blk _ _ _ _ :: r => NotTold p r
def Olds (S : Nat → Prop) (w0 : World) : List Pc → Prop
  | [] => True
  | .told p t zs _ :: r => (S p ∧ Stc w0 p t zs ∧ NotTold p r) ∧ Olds S w0 r
  | .eq _ :: r => Olds S w0 r
  | .turn _ :: r => Olds S w0 r
  | .blk _ _ _ _ :: r => Olds S w0 r
theorem NotTold.at {p : Nat} : ∀ {Gs : List Pc}, NotTold p Gs → ∀ i q t zs us, Gs.getD i Pc.none = .told q t zs us → p ≠ q := by
  intro Gs
  induction Gs with
  | nil => intro _ i q t zs us h; cases h
  | cons g r ih =>
    intro h i q t zs us e
    cases i with
    | zero =>
      have e : g = .told q t zs us := by simpa using e
      subst e; exact h.1
    | succ i =>
      have e : r.getD i Pc.none = .told q t zs us := by simpa using e
      cases g <;> first | exact ih h.2 i q t zs us e | exact ih h i q t zs us e
theorem Olds.at {S : Nat → Prop} {w0 : World} : ∀ {Gs : List Pc}, Olds S w0 Gs → ∀ i p t zs us, Gs.getD i Pc.none = .told p t zs us → S p ∧ Stc w0 p t zs := by
  intro Gs
  induction Gs with
  | nil => intro _ i q t zs us h; cases h
  | cons g r ih =>
    intro h i q t zs us e
    cases i with
    | zero =>
      have e : g = .told q t zs us := by simpa using e
      subst e; exact ⟨h.1.1, h.1.2.1⟩
    | succ i =>
      have e : r.getD i Pc.none = .told q t zs us := by simpa using e
      cases g <;> first | exact ih h.2 i q t zs us e | exact ih h i q t zs us e
theorem Olds.ne {S : Nat → Prop} {w0 : World} : ∀ {Gs : List Pc}, Olds S w0 Gs → ∀ i j p t zs us p' t' zs' us', i ≠ j → Gs.getD i Pc.none = .told p t zs us → Gs.getD j Pc.none = .told p' t' zs' us' → p ≠ p' := by
  intro Gs
  induction Gs with
  | nil => intro _ i j p t zs us p' t' zs' us' _ h; cases h
  | cons g r ih =>
    intro h i j p t zs us p' t' zs' us' hij e1 e2
    cases i with
    | zero =>
      have e1 : g = .told p t zs us := by simpa using e1
      subst e1
      cases j with
      | zero => exact absurd rfl hij
      | succ j => exact h.1.2.2.at j p' t' zs' us' (by simpa using e2)
    | succ i =>
      cases j with
      | zero =>
        have e2 : g = .told p' t' zs' us' := by simpa using e2
        subst e2
        exact fun e => h.1.2.2.at i p t zs us (by simpa using e1) e.symm
      | succ j =>
        have hr : Olds S w0 r := by cases g <;> first | exact h.2 | exact h
        exact ih hr i j p t zs us p' t' zs' us' (fun e => hij (by rw [e])) (by simpa using e1) (by simpa using e2)
structure JC (S : Nat → Prop) (w0 : World) (Gs : List Pc) (L : Nat → Bool) (v : Nat → Value) (w : World) : Prop where
  kept : Kept S w0 w
  olds : ∀ i p t zs us, Gs.getD i Pc.none = .told p t zs us → Stc w p t (if L i = true then us else zs)
  holds : ∀ i, L i = true → HoldC w0.heap.size (Gs.getD i Pc.none) L (v i) w
  apart : ∀ i j, i ≠ j → L i = true → L j = true → isBlk (Gs.getD i Pc.none) = true → isBlk (Gs.getD j Pc.none) = true → v i ≠ v j
  clos : ∀ k j, L k = true → Gs.getD k Pc.none = .turn j → L j = true
/-- Each block is turned by one operation, that waits for it. -/
def wfAt (os : List Oper) (D : List (Option Tmp)) (Gs : List Pc) (i : Nat) : Pc → Bool
  | .eq _ => true
  | .told _ _ _ _ => true
  | .turn j => (match Gs.getD j Pc.none with | .blk _ _ k _ => k == i | _ => false) && (match D.getD j none with | some _ => true | none => false) && (match os[i]? with | some o => waitsOn o j | none => false)
  | .blk _ _ k _ => match Gs.getD k Pc.none with | .turn j => j == i | _ => false
def wfC (os : List Oper) (D : List (Option Tmp)) (Gs : List Pc) : Bool := (List.range Gs.length).all fun i => wfAt os D Gs i (Gs.getD i Pc.none)
theorem wfC_at {os : List Oper} {D : List (Option Tmp)} {Gs : List Pc} (h : wfC os D Gs = true) (i : Nat) : wfAt os D Gs i (Gs.getD i Pc.none) = true := by
  by_cases hi : i < Gs.length
  · exact List.all_eq_true.1 h i (List.mem_range.2 hi)
  · have : Gs.getD i Pc.none = Pc.none := by simp [List.getD, List.getElem?_eq_none (show Gs.length ≤ i by omega)]
    rw [this]; rfl
theorem wf_blk {os : List Oper} {D : List (Option Tmp)} {Gs : List Pc} (h : wfC os D Gs = true) {i k : Nat} {t : TypeId} {zs us : List Value} (e : Gs.getD i Pc.none = .blk t zs k us) : Gs.getD k Pc.none = .turn i := by
  have := wfC_at h i
  rw [e] at this
  simp only [wfAt] at this
  split at this
  · rename_i j hj; rw [hj]; have : j = i := by simpa using this
    rw [this]
  · cases this

/-- What is told to operation i of those that it waits for. -/
def ToldC (n0 : Nat) (Gs : List Pc) (i : Nat) : Nat → Value → World → Prop := fun j v w => match Gs.getD j Pc.none with
  | .eq x => v = x
  | .turn _ => True
  | .told _ _ _ _ => True
  | .blk t zs k _ => k = i → ∃ q, v = .pointer (some ⟨q, 0, none⟩) ∧ n0 ≤ q ∧ Stc w q t zs
def LeftC (Gs : List Pc) (D : List (Option Tmp)) (i : Nat) (ρ : Operand → Value) (w : World) (v : Value) (w' : World) : Prop := match Gs.getD i Pc.none with
  | .eq x => v = x ∧ Kept (fun _ => False) w w'
  | .blk t zs _ _ => ∃ q, v = .pointer (some ⟨q, 0, none⟩) ∧ w.heap.size ≤ q ∧ Stc w' q t zs ∧ Kept (fun _ => False) w w'
  | .told p t _ us => Stc w' p t us ∧ Kept (onB p) w w'
  | .turn j => ∃ d q, D.getD j none = some d ∧ ρ (.tmp d) = .pointer (some ⟨q, 0, none⟩) ∧ (∀ t zs us, Gs.getD j Pc.none = .blk t zs i us → Stc w' q t us) ∧ Kept (onB q) w w'
section
variable {P : Program} {N : Nat} {F : Nat → Value} {w : World} {Q : Exit → (Nat → Value) → World → Prop}
def StepFC (S : Nat → Prop) (N : Nat) (P : Program) (D : List (Option Tmp)) (Gs : List Pc) (F0 : Nat → Value) (w0 : World) (i : Nat) (o : Oper) : Prop :=
  ∀ (F : Nat → Value) (w : World), Kept S w0 w → (∀ t, Nat.blt t N = true → some t ∉ D → F t = F0 t) → DepsF D (ToldC w0.heap.size Gs i) F w o.after.toList → (∀ p t zs us, Gs.getD i Pc.none = .told p t zs us → Stc w p t zs) →
    match o.guard with
    | none => Yields P (ev F) o w (LeftC Gs D i (ev F) w)
    | some (j, want) => ∃ d, D.getD j none = some d ∧
      ((F d = .bool want ∧ Yields P (ev F) o w (LeftC Gs D i (ev F) w)) ∨ ((F d = .bool (!want) ∨ F d = undef) ∧ Gs.getD i Pc.none = .eq undef))
def StepsFC (S : Nat → Prop) (N : Nat) (P : Program) (D : List (Option Tmp)) (Gs : List Pc) (F0 : Nat → Value) (w0 : World) : Nat → List Oper → Prop
  | _, [] => True
  | i, o :: r => StepFC S N P D Gs F0 w0 i o ∧ StepsFC S N P D Gs F0 w0 (i + 1) r
theorem stepsFC_nil {S : Nat → Prop} {D : List (Option Tmp)} {Gs : List Pc} {F0 : Nat → Value} {w0 : World} {i : Nat} : StepsFC S N P D Gs F0 w0 i [] := trivial
theorem stepsFC_cons {S : Nat → Prop} {D : List (Option Tmp)} {Gs : List Pc} {F0 : Nat → Value} {w0 : World} {i : Nat} {o : Oper} {r : List Oper} (h : StepFC S N P D Gs F0 w0 i o) (k : StepsFC S N P D Gs F0 w0 (i + 1) r) : StepsFC S N P D Gs F0 w0 i (o :: r) := ⟨h, k⟩
theorem StepFC.one {S : Nat → Prop} {D : List (Option Tmp)} {Gs : List Pc} {F0 : Nat → Value} {w0 : World} {i : Nat} {o : Oper} (hg : o.guard = none)
    (h : ∀ (F : Nat → Value) (w : World), Kept S w0 w → (∀ t, Nat.blt t N = true → some t ∉ D → F t = F0 t) → DepsF D (ToldC w0.heap.size Gs i) F w o.after.toList → Yields P (ev F) o w (LeftC Gs D i (ev F) w)) : StepFC S N P D Gs F0 w0 i o := by
  intro F w h1 h2 h3 _
  rw [hg]
  exact h F w h1 h2 h3
theorem StepFC.old {S : Nat → Prop} {D : List (Option Tmp)} {Gs : List Pc} {F0 : Nat → Value} {w0 : World} {i p : Nat} {t : TypeId} {zs us : List Value} {o : Oper} (hg : o.guard = none) (he : Gs.getD i Pc.none = .told p t zs us)
    (h : ∀ (F : Nat → Value) (w : World), Kept S w0 w → (∀ t, Nat.blt t N = true → some t ∉ D → F t = F0 t) → DepsF D (ToldC w0.heap.size Gs i) F w o.after.toList → Stc w p t zs → Yields P (ev F) o w (fun _ w' => Stc w' p t us ∧ Kept (onB p) w w')) : StepFC S N P D Gs F0 w0 i o := by
  intro F w h1 h2 h3 h4
  rw [hg]
  refine (h F w h1 h2 h3 (h4 _ _ _ _ he)).mono' fun v w' hx => ?_
  unfold LeftC
  rw [he]; exact hx
theorem StepFC.when {S : Nat → Prop} {D : List (Option Tmp)} {Gs : List Pc} {F0 : Nat → Value} {w0 : World} {i : Nat} {o : Oper} (j : Nat) (want : Bool) (d : Tmp) (hg : o.guard = some (j, want)) (hd : D.getD j none = some d)
    (h : ∀ (F : Nat → Value) (w : World), Kept S w0 w → (∀ t, Nat.blt t N = true → some t ∉ D → F t = F0 t) → DepsF D (ToldC w0.heap.size Gs i) F w o.after.toList → F d = .bool want ∧ Yields P (ev F) o w (LeftC Gs D i (ev F) w)) : StepFC S N P D Gs F0 w0 i o := by
  intro F w h1 h2 h3 _
  rw [hg]
  exact ⟨d, hd, .inl (h F w h1 h2 h3)⟩
theorem upL_here {L : Nat → Bool} {i : Nat} : upL L i i = true := if_pos rfl
theorem upL_ne {L : Nat → Bool} {i j : Nat} (h : j ≠ i) : upL L i j = L j := if_neg h
theorem upV_here {v : Nat → Value} {i : Nat} {x : Value} : upV v i x i = x := if_pos rfl
theorem upV_ne {v : Nat → Value} {i j : Nat} {x : Value} (h : j ≠ i) : upV v i x j = v j := if_neg h
theorem getElem_getD {α : Type} {l : List α} {d x : α} {i : Nat} (h : l.getD i d = x) (hn : x ≠ d) : l[i]? = some x := by
  unfold List.getD at h
  cases hq : l[i]? with
  | none => rw [hq] at h; exact absurd h.symm hn
  | some y => rw [hq] at h; simpa using h

/-- One more operation that is no turn. -/
theorem JC.more {S : Nat → Prop} {os : List Oper} {D : List (Option Tmp)} {Gs : List Pc} {w0 w w' : World} {L : Nat → Bool} {v : Nat → Value} {i : Nat} {x : Value} (hwf : wfC os D Gs = true) (h : JC S w0 Gs L v w) (hi : L i = false) (k : Kept (fun _ => False) w w')
    (hnt : ∀ j, Gs.getD i Pc.none ≠ .turn j) (hnd : ∀ p t zs us, Gs.getD i Pc.none ≠ .told p t zs us) (hx : HoldC w0.heap.size (Gs.getD i Pc.none) (upL L i) x w') (hb : isBlk (Gs.getD i Pc.none) = true → ∃ q, x = .pointer (some ⟨q, 0, none⟩) ∧ w.heap.size ≤ q) : JC S w0 Gs (upL L i) (upV v i x) w' := by
  have hkeep : ∀ j, L j = true → HoldC w0.heap.size (Gs.getD j Pc.none) (upL L i) (v j) w' := by
    intro j hj
    have := h.holds j hj
    revert this
    cases e : Gs.getD j Pc.none with
    | eq y => exact id
    | turn y => exact id
    | told y1 y2 y3 y4 => exact id
    | blk t zs kk us =>
      rintro ⟨q, e1, e2, e3⟩
      have hki : kk ≠ i := fun e' => hnt j (by rw [← e']; exact wf_blk hwf e)
      refine ⟨q, e1, e2, ?_⟩
      rw [upL_ne hki]
      exact e3.all k id
  refine ⟨h.kept.trans k (fun _ _ x => x.elim), fun j p t zs us hj => ?_, fun j hj => ?_, fun a b hab ha hb' hA hB => ?_, fun a b ha hab => ?_⟩
  · have hji : j ≠ i := fun e => hnd p t zs us (by rw [← e]; exact hj)
    rw [upL_ne hji]
    exact (h.olds j p t zs us hj).all k id
  · by_cases hji : j = i
    · subst hji; rw [upV_here]; exact hx
    · rw [upL_ne hji] at hj; rw [upV_ne hji]; exact hkeep j hj
  · have hnew : ∀ c, c ≠ i → L c = true → isBlk (Gs.getD c Pc.none) = true → isBlk (Gs.getD i Pc.none) = true → v c ≠ x := by
      intro c _ hc hC hI e
      obtain ⟨q, e1, e2⟩ := hb hI
      have := h.holds c hc
      revert this hC
      cases e' : Gs.getD c Pc.none with
      | eq y => intro hC; cases hC
      | turn y => intro hC; cases hC
      | told y1 y2 y3 y4 => intro hC; cases hC
      | blk t zs kk us =>
        rintro - ⟨q', f1, f2, f3⟩
        rw [f1, e1] at e
        cases e
        have := f3.lt
        omega
    by_cases hai : a = i
    · subst hai
      have hba : b ≠ a := fun e => hab e.symm
      rw [upL_ne hba] at hb'
      rw [upV_here, upV_ne hba]
      exact fun e => hnew b hba hb' hB hA e.symm
    · rw [upL_ne hai] at ha
      rw [upV_ne hai]
      by_cases hbi : b = i
      · subst hbi; rw [upV_here]; exact hnew a hai ha hA hB
      · rw [upL_ne hbi] at hb'; rw [upV_ne hbi]; exact h.apart a b hab ha hb' hA hB
  · by_cases hai : a = i
    · subst hai; exact absurd hab (hnt b)
    · rw [upL_ne hai] at ha
      have := h.clos a b ha hab
      by_cases hbi : b = i
      · subst hbi; exact upL_here
      · rw [upL_ne hbi]; exact this
/-- One more turn. -/
theorem JC.turned {S : Nat → Prop} {os : List Oper} {D : List (Option Tmp)} {Gs : List Pc} {w0 w w' : World} {L : Nat → Bool} {v : Nat → Value} {i j q : Nat} {x : Value} (hwf : wfC os D Gs = true) (hO : Olds S w0 Gs) (h : JC S w0 Gs L v w) (hi : L i = false) (hj : L j = true) (he : Gs.getD i Pc.none = .turn j)
    (hv : v j = .pointer (some ⟨q, 0, none⟩)) (hq : ∀ t zs us, Gs.getD j Pc.none = .blk t zs i us → Stc w' q t us) (k : Kept (onB q) w w') : JC S w0 Gs (upL L i) (upV v i x) w' := by
  have hw := wfC_at hwf i
  rw [he] at hw
  simp only [wfAt, Bool.and_eq_true] at hw
  have hn0 : w0.heap.size ≤ q := by
    have := h.holds j hj
    revert this
    obtain ⟨⟨h1, _⟩, _⟩ := hw
    cases e : Gs.getD j Pc.none with
    | eq y => rw [e] at h1; cases h1
    | turn y => rw [e] at h1; cases h1
    | told y1 y2 y3 y4 => rw [e] at h1; cases h1
    | blk t zs kk us =>
      rintro ⟨q', e1, e2, _⟩
      rw [hv] at e1; cases e1; exact e2
  have hjB : isBlk (Gs.getD j Pc.none) = true := by
    obtain ⟨⟨h1, _⟩, _⟩ := hw
    cases e : Gs.getD j Pc.none with
    | eq y => rw [e] at h1; cases h1
    | turn y => rw [e] at h1; cases h1
    | told y1 y2 y3 y4 => rw [e] at h1; cases h1
    | blk t zs kk us => rfl
  refine ⟨h.kept.trans k (fun b hb e => by cases e; omega), fun a p t zs us ha => ?_, fun a ha => ?_, fun a b hab ha hb hA hB => ?_, fun a b ha hab => ?_⟩
  · have hai : a ≠ i := fun e => by rw [e, he] at ha; cases ha
    rw [upL_ne hai]
    exact (h.olds a p t zs us ha).all k (fun e => by have := (hO.at a p t zs us ha).2.lt; rw [show p = q from e] at this; omega)
  · by_cases hai : a = i
    · subst hai; rw [upV_here, he]; exact trivial
    · rw [upL_ne hai] at ha; rw [upV_ne hai]
      have := h.holds a ha
      revert this
      cases e : Gs.getD a Pc.none with
      | eq y => exact id
      | turn y => exact id
      | told y1 y2 y3 y4 => exact id
      | blk t zs kk us =>
        rintro ⟨q', e1, e2, e3⟩
        have hk := wf_blk hwf e
        by_cases haj : a = j
        · subst haj
          have hki : kk = i := by
            obtain ⟨⟨h1, _⟩, _⟩ := hw
            rw [e] at h1; simpa using h1
          subst hki
          rw [hv] at e1; cases e1
          refine ⟨q, hv, hn0, ?_⟩
          rw [if_pos upL_here]
          exact hq t zs us e
        · have hki : kk ≠ i := fun e' => by rw [e', he] at hk; cases hk; exact haj rfl
          refine ⟨q', e1, e2, ?_⟩
          rw [upL_ne hki]
          refine e3.all k (fun e' => ?_)
          have := h.apart a j haj ha hj (by rw [e]; rfl) hjB
          rw [e1, hv] at this
          exact this (by rw [show q' = q from e'])
  · have hni : ∀ c, isBlk (Gs.getD c Pc.none) = true → c ≠ i := fun c hc e => by rw [e, he] at hc; cases hc
    rw [upV_ne (hni a hA), upV_ne (hni b hB)]
    rw [upL_ne (hni a hA)] at ha
    rw [upL_ne (hni b hB)] at hb
    exact h.apart a b hab ha hb hA hB
  · by_cases hai : a = i
    · subst hai
      rw [he] at hab; cases hab
      by_cases hji : j = a
      · subst hji; exact upL_here
      · rw [upL_ne hji]; exact hj
    · rw [upL_ne hai] at ha
      have := h.clos a b ha hab
      by_cases hbi : b = i
      · subst hbi; exact upL_here
      · rw [upL_ne hbi]; exact this

/-- One more turn of a block that was there. -/
theorem JC.oldTurned {S : Nat → Prop} {os : List Oper} {D : List (Option Tmp)} {Gs : List Pc} {w0 w w' : World} {L : Nat → Bool} {v : Nat → Value} {i p : Nat} {t : TypeId} {zs us : List Value} {x : Value} (hwf : wfC os D Gs = true) (hO : Olds S w0 Gs) (h : JC S w0 Gs L v w) (he : Gs.getD i Pc.none = .told p t zs us)
    (hq : Stc w' p t us) (k : Kept (onB p) w w') : JC S w0 Gs (upL L i) (upV v i x) w' := by
  have hp := hO.at i p t zs us he
  have hni : ∀ c, isBlk (Gs.getD c Pc.none) = true → c ≠ i := fun c hc e => by rw [e, he] at hc; cases hc
  refine ⟨h.kept.trans k (fun b hb e => by cases e; exact hp.1), fun a p' t' zs' us' ha => ?_, fun a ha => ?_, fun a b hab ha hb hA hB => ?_, fun a b ha hab => ?_⟩
  · by_cases hai : a = i
    · subst hai
      rw [he] at ha; cases ha
      rw [if_pos upL_here]; exact hq
    · rw [upL_ne hai]
      exact (h.olds a p' t' zs' us' ha).all k (fun e => hO.ne a i p' t' zs' us' p t zs us hai ha he e)
  · by_cases hai : a = i
    · subst hai; rw [upV_here, he]; exact trivial
    · rw [upL_ne hai] at ha; rw [upV_ne hai]
      have := h.holds a ha
      revert this
      cases e : Gs.getD a Pc.none with
      | eq y => exact id
      | turn y => exact id
      | told y1 y2 y3 y4 => exact id
      | blk t zs kk us =>
        rintro ⟨q', e1, e2, e3⟩
        have hk := wf_blk hwf e
        have hki : kk ≠ i := fun e' => by rw [e', he] at hk; cases hk
        refine ⟨q', e1, e2, ?_⟩
        rw [upL_ne hki]
        exact e3.all k (fun e' => by have := hp.2.lt; rw [show q' = p from e'] at e2; omega)
  · rw [upV_ne (hni a hA), upV_ne (hni b hB)]
    rw [upL_ne (hni a hA)] at ha
    rw [upL_ne (hni b hB)] at hb
    exact h.apart a b hab ha hb hA hB
  · have hai : a ≠ i := fun e => by rw [e, he] at hab; cases hab
    rw [upL_ne hai] at ha
    have := h.clos a b ha hab
    by_cases hbi : b = i
    · subst hbi; exact upL_here
    · rw [upL_ne hbi]; exact this

theorem StepFC.step {S : Nat → Prop} {os : List Oper} {D : List (Option Tmp)} {Gs : List Pc} {w0 : World} {i : Nat} {o : Oper} {a0 : Act} (hwf : wfC os D Gs = true) (hO : Olds S w0 Gs) (ho : os[i]? = some o) (ha : Fr N F a0) (h : StepFC S N P D Gs F w0 i o) : StepJ os P D (JC S w0 Gs) a0 i o := by
  intro L v a w hJ hi hdone hout hhere _
  have hdeps : DepsF D (ToldC w0.heap.size Gs i) (fun t => a.tmps.getD t undef) w o.after.toList := by
    refine Deps.toF (Deps.mk fun e he hb d hd => ?_)
    have hl := hdone e he hb
    have hDe := getElem_getD hd (by simp)
    have hv := hhere e.on d hl hDe
    rw [hv]
    have := hJ.holds e.on hl
    unfold ToldC
    revert this
    cases e' : Gs.getD e.on Pc.none with
    | eq y => exact id
    | turn y => exact id
    | told y1 y2 y3 y4 => exact id
    | blk t zs kk us =>
      rintro ⟨q, e1, e2, e3⟩ hk
      refine ⟨q, e1, e2, ?_⟩
      subst hk
      rw [hi, if_neg (by simp)] at e3
      exact e3
  have h1 := h (fun t => a.tmps.getD t undef) w hJ.kept (fun t hb ht => by rw [← ha.at' t hb]; exact hout t ht) hdeps (fun p t zs us e => by have := hJ.olds i p t zs us e; rw [hi, if_neg (by simp)] at this; exact this)
  rw [← eval_ev a] at h1
  have hleft : ∀ x w', LeftC Gs D i a.eval w x w' → JC S w0 Gs (upL L i) (upV v i x) w' := by
    intro x w' hx
    unfold LeftC at hx
    cases e : Gs.getD i Pc.none with
    | eq y =>
      rw [e] at hx
      exact hJ.more hwf hi hx.2 (fun j hj => by rw [e] at hj; cases hj) (fun _ _ _ _ hj => by rw [e] at hj; cases hj) (by rw [e]; exact hx.1) (by rw [e]; intro hb; cases hb)
    | blk t zs kk us =>
      rw [e] at hx
      obtain ⟨q, e1, e2, e3, e4⟩ := hx
      have hk := wf_blk hwf e
      have hki : kk ≠ i := fun e' => by rw [e', e] at hk; cases hk
      have hLk : L kk = false := by
        cases hq : L kk with
        | false => rfl
        | true => have := hJ.clos kk i hq hk; rw [hi] at this; cases this
      refine hJ.more hwf hi e4 (fun j hj => by rw [e] at hj; cases hj) (fun _ _ _ _ hj => by rw [e] at hj; cases hj) ?_ (fun _ => ⟨q, e1, e2⟩)
      rw [e]
      refine ⟨q, e1, Nat.le_trans hJ.kept.size e2, ?_⟩
      rw [upL_ne hki, hLk, if_neg (by simp)]
      exact e3
    | told p t zs us =>
      rw [e] at hx
      exact hJ.oldTurned hwf hO e hx.1 hx.2
    | turn j =>
      rw [e] at hx
      obtain ⟨d, q, hd, e1, e2, e3⟩ := hx
      have hw := wfC_at hwf i
      rw [e] at hw
      simp only [wfAt, Bool.and_eq_true, ho] at hw
      obtain ⟨ed, hed, hb, hon⟩ := waitsOn_iff.1 hw.2
      have hLj := hdone ed hed hb
      rw [hon] at hLj
      have hv := hhere j d hLj (getElem_getD hd (by simp))
      exact hJ.turned hwf hO hi hLj e (by rw [← hv]; exact e1) e2 e3
  unfold goes
  cases hg : o.guard with
  | none => rw [hg] at h1; exact ⟨fun _ => h1.mono' hleft, fun e => by cases e⟩
  | some g =>
    obtain ⟨j, want⟩ := g
    rw [hg] at h1
    obtain ⟨d, hd, h1⟩ := h1
    simp only [hd]
    have hev : a.eval (.tmp d) = a.tmps.getD d undef := rfl
    rcases h1 with ⟨hv, hy⟩ | ⟨hv, hs⟩
    · rw [hev, hv]; exact ⟨fun _ => hy.mono' hleft, fun e => by simp at e⟩
    · refine ⟨fun e => ?_, fun _ => hJ.more hwf hi (Kept.refl _ _) (fun j hj => by rw [hs] at hj; cases hj) (fun _ _ _ _ hj => by rw [hs] at hj; cases hj) (by rw [hs]; rfl) (by rw [hs]; intro hb; cases hb)⟩
      rcases hv with hv | hv
      · rw [hev, hv] at e; cases want <;> simp at e
      · rw [hev, hv] at e; simp [undef] at e
theorem StepsFC.steps {S : Nat → Prop} {all : List Oper} {D : List (Option Tmp)} {Gs : List Pc} {w0 : World} {a0 : Act} (hwf : wfC all D Gs = true) (hO : Olds S w0 Gs) (ha : Fr N F a0) : ∀ {os : List Oper} {i : Nat}, (∀ k o, os[k]? = some o → all[i + k]? = some o) → StepsFC S N P D Gs F w0 i os → StepsJ all P D (JC S w0 Gs) a0 i os := by
  intro os
  induction os with
  | nil => intro i _ _; exact trivial
  | cons o r ih =>
    intro i hat h
    exact ⟨h.1.step hwf hO (hat 0 o rfl) ha, ih (fun k o' hk => by have := hat (k + 1) o' hk; rwa [show i + (k + 1) = i + 1 + k by omega] at this) h.2⟩
/-- What is known behind the region. -/
def EndC (n0 : Nat) (Gs : List Pc) (i : Nat) (v : Value) (w : World) : Prop := match Gs.getD i Pc.none with
  | .eq x => v = x
  | .turn _ => True
  | .told p t _ us => Stc w p t us
  | .blk t _ _ us => ∃ q, v = .pointer (some ⟨q, 0, none⟩) ∧ n0 ≤ q ∧ Stc w q t us
theorem wq_cells {S : Nat → Prop} {id : Nat} {ops : Array Oper} (D : List (Option Tmp)) (Gs : List Pc) (hm : P.follows .mixedOrders = true) (hpl : plain N 0 D ops.toList = true) (hwf : wfC ops.toList D Gs = true) (hsz : Gs.length = ops.size) (hO : Olds S w Gs) (hsteps : StepsFC S N P D Gs F w 0 ops.toList)
    (hend : ∀ (v : Nat → Value) (F' : Nat → Value) (w' : World), Kept S w w' → (∀ i, i < ops.size → EndC w.heap.size Gs i (v i) w') → (∀ i j, i ≠ j → i < ops.size → j < ops.size → isBlk (Gs.getD i Pc.none) = true → isBlk (Gs.getD j Pc.none) = true → v i ≠ v j) → (∀ t, F' t = putsF v 0 D F t) → Q .normal F' w') : wq none P N (.region id ops true) Q F w := by
  intro a ha
  refine wpIn_wide.2 ?_
  refine wp_region_inv D (JC S w Gs) hm (by rw [ha.size]; exact hpl) ⟨(Kept.refl _ w).drew, fun i p t zs us e => (by rw [if_neg (by simp)]; exact (hO.at i p t zs us e).2.all ((Kept.refl (fun _ => False) w).drew) (fun z => z)), fun _ e => (by cases e), fun _ _ _ e => (by cases e), fun _ _ e => (by cases e)⟩ (hsteps.steps hwf hO ha (fun k o hk => by rw [Nat.zero_add]; exact hk)) fun L v w' hJ hL => ?_
  refine ⟨putsF v 0 D F, putAll_fr v D 0 F a ha (plain_fits hpl), hend v _ w' hJ.kept (fun i hi => ?_) (fun i j hij hi hj hI hJ' => hJ.apart i j hij (hL i hi) (hL j hj) hI hJ') fun _ => rfl⟩
  have := hJ.holds i (hL i hi)
  unfold EndC
  revert this
  cases e : Gs.getD i Pc.none with
  | eq y => exact fun z => z
  | turn y => exact fun z => z
  | told p t zs us =>
    intro _
    have := hJ.olds i p t zs us e
    rw [if_pos (hL i hi)] at this
    exact this
  | blk t zs kk us =>
    rintro ⟨q, e1, e2, e3⟩
    have hk := wf_blk hwf e
    have hkk : kk < ops.size := by
      rw [← hsz]
      rcases Nat.lt_or_ge kk Gs.length with h' | h'
      · exact h'
      · have : Gs.getD kk Pc.none = Pc.none := by simp [List.getD, List.getElem?_eq_none h']
        rw [this] at hk; cases hk
    rw [if_pos (hL kk hkk)] at e3
    exact ⟨q, e1, e2, e3⟩
end
theorem apart_of_ne {v1 v2 : Value} {p q : Nat} (h : v1 ≠ v2) (e1 : v1 = .pointer (some ⟨p, 0, none⟩)) (e2 : v2 = .pointer (some ⟨q, 0, none⟩)) : Apart (onB p) (onB q) := fun i h1 h2 => by
  unfold onB at h1 h2
  subst h1; subst h2
  exact h (e1.trans e2.symm)
theorem y_storeCel {P : Program} {ρ : Operand → Value} {o : Oper} {w : World} {R : Value → World → Prop} {ty t : TypeId} {x y : Operand} {p : Nat} {v v' : Value} (ho : o.op = .store ty x y) (hx : ρ x = .pointer (some ⟨p, 0, none⟩)) (hy : ρ y = v') (hB : Cel w p t v) (hv : oneC v' = true)
    (hs : (P.info? ty).map (·.size) = some 1)
    (h : ∀ u w', Cel w' p t v' → Kept (onB p) w w' → R u w') : Yields P ρ o w R := by
  have hc := hB.cell
  have hf : w.frozen? ⟨p, 0, none⟩ = false := frozen_of_heap hB
  cases hq : P.info? ty with
  | none => simp [hq] at hs
  | some i =>
    have hs' : i.size = 1 := by simpa [hq] using hs
    have e : (execOp ρ o).run P w = .ok .skip (w.setCell ⟨p, 0, none⟩ v') ∨ (execOp ρ o).run P w = .ok (.value undef) (w.setCell ⟨p, 0, none⟩ v') := by
      cases v' <;> first | (simp [oneC] at hv; done) | simp [execOp, ho, hx, hy, Instr.storeAt, Instr.sureAddr, storeVar, sizeOf, typeInfo, hq, hs', Value.cells, hc, hf, go_sem]
    have hn : Cel (w.setCell ⟨p, 0, none⟩ v') p t v' := by unfold Cel; rw [heap_setCell_same _ _ _ _ hB]; rfl
    have k : Kept (onB p) w (w.setCell ⟨p, 0, none⟩ v') := (Kept.refl (onB p) w).setCell ⟨p, 0, none⟩ (fun _ => rfl) _
    unfold Yields
    rcases e with e | e <;> rw [e] <;> exact h _ _ hn k
end Go.Proofs.Ytceoidglhakanaa
