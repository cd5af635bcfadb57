/- What BlockPredicts reaches of my texts, part 5. -/
import Derived.Test.YtdcbabgcbkdlhaaGreatDoorBlockPredictsD
set_option maxRecDepth 100000
set_option maxRecDepth 100000
namespace Go.Proofs.YtdcbabgcbkdlhaaGreatDoor
open Go.RowKit
theorem stcT_vector : StcT Tryz.prog 27 2 := ⟨_, Tryz.underlying27, rfl, by kernel_rfl⟩
theorem half_is (n : Int) : (Int.tmod n 2 = 0 → Int.tdiv n 2 = n / 2) ∧ (Int.tmod n 2 ≠ 0 → Int.tdiv (n - 1) 2 = n / 2) := by
  have h1 : ∀ m : Int, Int.tmod m 2 = 0 → Int.tdiv m 2 = m / 2 := fun m h => by
    have e := Int.tmod_add_mul_tdiv m 2
    omega
  refine ⟨h1 n, fun h => ?_⟩
  have e := Int.tmod_add_mul_tdiv (n - 1) 2
  have e2 := Int.tmod_add_mul_tdiv n 2
  have h3 : n % 2 = 1 := by
    by_cases h4 : n % 2 = 0
    · exact absurd (Int.tmod_eq_zero_of_dvd (Int.dvd_of_emod_eq_zero h4)) h
    · omega
  have h5 : Int.tmod (n - 1) 2 = 0 := Int.tmod_eq_zero_of_dvd (Int.dvd_of_emod_eq_zero (by omega))
  omega
theorem tmod2 (n : Int) : Int.tmod n 2 = 0 ↔ n % 2 = 0 := by
  constructor
  · intro h; have e := Int.tmod_add_mul_tdiv n 2; omega
  · intro h; exact Int.tmod_eq_zero_of_dvd (Int.dvd_of_emod_eq_zero h)

set_option maxHeartbeats 4000000 in
set_option maxRecDepth 100000 in
theorem mref_check (X Y : Int) (w0 : World) :
  Calls Tryz.prog 53 #[.agg #[.int .i64 (X), .int .i64 (Y)]] w0 fun e w' => e = .returned (.int .i64 (vecE X Y)) ∧ Kept (fun _ => False) w0 w' := by
 refine calls_wq (args := [.agg #[.int .i64 (X), .int .i64 (Y)]]) 21 Tryz.func53 rfl rfl (Nat.le_of_ble_eq_true rfl) ?_
 have K0 := Kept.refl (fun _ => False) w0
 refine wq_seq ?_
 refine wq_region ?_
 refine wl_box_stc (vs := [.int .i64 (X), .int .i64 (Y)]) rfl rfl rfl rfl fun p1 w2 B4 g5 k3 => ?_
 have K7 := K0.trans k3 (fun _ _ x => x.elim)
 refine wl_v (.int .i64 (0)) rfl rfl (y_asg rfl rfl ⟨rfl, rfl⟩) ?_
 refine wl_nil fun F8 hF9 => ?_
 have s10 : F8 21 = undef := (hF9 21).trans rfl
 have s11 : F8 1 = .pointer (some ⟨p1, 0, none⟩) := (hF9 1).trans rfl
 clear hF9
 refine then_normal ?_
 refine wq_seq ?_
 refine wq_seq ?_
 by_cases d12 : (X) < (-31)
 ·skip
  refine wq_region ?_
  refine wl_v (.pointer (some ⟨p1, 0, none⟩)) rfl rfl (y_fieldR (n := 1) rfl s11 Tryz.underlying27 rfl (by kernel_rfl) (by decide) rfl ⟨rfl, rfl⟩) ?_
  refine wl_v (.int .i64 (X)) rfl rfl (y_ld_stc rfl rfl Tryz.underlying3 B4 rfl rfl ⟨rfl, rfl⟩) ?_
  refine wl_v (.bool true) rfl rfl (y_lss rfl rfl rfl (decide_eq_true d12) ⟨rfl, rfl⟩) ?_
  refine wl_v (.bool true) rfl rfl (y_mov rfl rfl ⟨rfl, rfl⟩) ?_
  refine wl_unless 3 false 6 rfl rfl rfl (Or.inl rfl) rfl ?_
  refine wl_unless 3 false 6 rfl rfl rfl (Or.inl rfl) rfl ?_
  refine wl_unless 3 false 6 rfl rfl rfl (Or.inl rfl) rfl ?_
  refine wl_v (.bool true) rfl rfl (y_pickT rfl rfl rfl ⟨rfl, rfl⟩) ?_
  refine wl_v (.bool true) rfl rfl (y_mov rfl rfl ⟨rfl, rfl⟩) ?_
  refine wl_unless 8 false 11 rfl rfl rfl (Or.inl rfl) rfl ?_
  refine wl_unless 8 false 11 rfl rfl rfl (Or.inl rfl) rfl ?_
  refine wl_unless 8 false 11 rfl rfl rfl (Or.inl rfl) rfl ?_
  refine wl_v (.bool true) rfl rfl (y_pickT rfl rfl rfl ⟨rfl, rfl⟩) ?_
  refine wl_v (.bool true) rfl rfl (y_mov rfl rfl ⟨rfl, rfl⟩) ?_
  refine wl_unless 13 false 16 rfl rfl rfl (Or.inl rfl) rfl ?_
  refine wl_unless 13 false 16 rfl rfl rfl (Or.inl rfl) rfl ?_
  refine wl_unless 13 false 16 rfl rfl rfl (Or.inl rfl) rfl ?_
  refine wl_v (.bool true) rfl rfl (y_pickT rfl rfl rfl ⟨rfl, rfl⟩) ?_
  refine wl_nil fun F13 hF14 => ?_
  have s15 := (hF14 21).trans s10
  have s16 : F13 20 = .bool true := (hF14 20).trans rfl
  clear hF14
  refine then_normal ?_
  refine wq_cond (t := true) s16 (fun _ => ?_) (fun e => by cases e)
  refine wq_seq ?_
  refine wq_region ?_
  refine wl_v (.int .i64 (90)) rfl rfl (y_asg rfl rfl ⟨rfl, rfl⟩) ?_
  refine wl_nil fun F17 hF18 => ?_
  have s19 := (hF18 21).trans s15
  have s20 : F17 2 = .int .i64 (90) := (hF18 2).trans rfl
  clear hF18
  refine then_normal ?_
  refine wq_ret ?_
  refine then_ret ?_
  exact end_tmp (v := .int .i64 (90)) s19 rfl rfl s20 ⟨(by first | rw [vecE_yes (by unfold vecOk; omega)] | rw [vecE_no (by unfold vecOk; omega)]), K7⟩
 ·skip
  by_cases d21 : (31) < (X)
  ·skip
   refine wq_region ?_
   refine wl_v (.pointer (some ⟨p1, 0, none⟩)) rfl rfl (y_fieldR (n := 1) rfl s11 Tryz.underlying27 rfl (by kernel_rfl) (by decide) rfl ⟨rfl, rfl⟩) ?_
   refine wl_v (.int .i64 (X)) rfl rfl (y_ld_stc rfl rfl Tryz.underlying3 B4 rfl rfl ⟨rfl, rfl⟩) ?_
   refine wl_v (.bool false) rfl rfl (y_lss rfl rfl rfl (decide_eq_false d12) ⟨rfl, rfl⟩) ?_
   refine wl_v (.bool false) rfl rfl (y_mov rfl rfl ⟨rfl, rfl⟩) ?_
   refine wl_vw (.pointer (some ⟨p1, 0, none⟩)) 3 false 6 rfl rfl rfl rfl rfl (y_fieldR (n := 1) rfl s11 Tryz.underlying27 rfl (by kernel_rfl) (by decide) rfl ⟨rfl, rfl⟩) ?_
   refine wl_vw (.int .i64 (X)) 3 false 6 rfl rfl rfl rfl rfl (y_ld_stc rfl rfl Tryz.underlying3 B4 rfl rfl ⟨rfl, rfl⟩) ?_
   refine wl_vw (.bool true) 3 false 6 rfl rfl rfl rfl rfl (y_gtr rfl rfl rfl (decide_eq_true d21) ⟨rfl, rfl⟩) ?_
   refine wl_v (.bool true) rfl rfl (y_pickF rfl rfl rfl ⟨rfl, rfl⟩) ?_
   refine wl_v (.bool true) rfl rfl (y_mov rfl rfl ⟨rfl, rfl⟩) ?_
   refine wl_unless 8 false 11 rfl rfl rfl (Or.inl rfl) rfl ?_
   refine wl_unless 8 false 11 rfl rfl rfl (Or.inl rfl) rfl ?_
   refine wl_unless 8 false 11 rfl rfl rfl (Or.inl rfl) rfl ?_
   refine wl_v (.bool true) rfl rfl (y_pickT rfl rfl rfl ⟨rfl, rfl⟩) ?_
   refine wl_v (.bool true) rfl rfl (y_mov rfl rfl ⟨rfl, rfl⟩) ?_
   refine wl_unless 13 false 16 rfl rfl rfl (Or.inl rfl) rfl ?_
   refine wl_unless 13 false 16 rfl rfl rfl (Or.inl rfl) rfl ?_
   refine wl_unless 13 false 16 rfl rfl rfl (Or.inl rfl) rfl ?_
   refine wl_v (.bool true) rfl rfl (y_pickT rfl rfl rfl ⟨rfl, rfl⟩) ?_
   refine wl_nil fun F22 hF23 => ?_
   have s24 := (hF23 21).trans s10
   have s25 : F22 20 = .bool true := (hF23 20).trans rfl
   clear hF23
   refine then_normal ?_
   refine wq_cond (t := true) s25 (fun _ => ?_) (fun e => by cases e)
   refine wq_seq ?_
   refine wq_region ?_
   refine wl_v (.int .i64 (90)) rfl rfl (y_asg rfl rfl ⟨rfl, rfl⟩) ?_
   refine wl_nil fun F26 hF27 => ?_
   have s28 := (hF27 21).trans s24
   have s29 : F26 2 = .int .i64 (90) := (hF27 2).trans rfl
   clear hF27
   refine then_normal ?_
   refine wq_ret ?_
   refine then_ret ?_
   exact end_tmp (v := .int .i64 (90)) s28 rfl rfl s29 ⟨(by first | rw [vecE_yes (by unfold vecOk; omega)] | rw [vecE_no (by unfold vecOk; omega)]), K7⟩
  ·skip
   by_cases d30 : (Y) < (-31)
   ·skip
    refine wq_region ?_
    refine wl_v (.pointer (some ⟨p1, 0, none⟩)) rfl rfl (y_fieldR (n := 1) rfl s11 Tryz.underlying27 rfl (by kernel_rfl) (by decide) rfl ⟨rfl, rfl⟩) ?_
    refine wl_v (.int .i64 (X)) rfl rfl (y_ld_stc rfl rfl Tryz.underlying3 B4 rfl rfl ⟨rfl, rfl⟩) ?_
    refine wl_v (.bool false) rfl rfl (y_lss rfl rfl rfl (decide_eq_false d12) ⟨rfl, rfl⟩) ?_
    refine wl_v (.bool false) rfl rfl (y_mov rfl rfl ⟨rfl, rfl⟩) ?_
    refine wl_vw (.pointer (some ⟨p1, 0, none⟩)) 3 false 6 rfl rfl rfl rfl rfl (y_fieldR (n := 1) rfl s11 Tryz.underlying27 rfl (by kernel_rfl) (by decide) rfl ⟨rfl, rfl⟩) ?_
    refine wl_vw (.int .i64 (X)) 3 false 6 rfl rfl rfl rfl rfl (y_ld_stc rfl rfl Tryz.underlying3 B4 rfl rfl ⟨rfl, rfl⟩) ?_
    refine wl_vw (.bool false) 3 false 6 rfl rfl rfl rfl rfl (y_gtr rfl rfl rfl (decide_eq_false d21) ⟨rfl, rfl⟩) ?_
    refine wl_v (.bool false) rfl rfl (y_pickF rfl rfl rfl ⟨rfl, rfl⟩) ?_
    refine wl_v (.bool false) rfl rfl (y_mov rfl rfl ⟨rfl, rfl⟩) ?_
    refine wl_vw (.pointer (some ⟨p1, 1, none⟩)) 8 false 11 rfl rfl rfl rfl rfl (y_fieldR (n := 1) rfl s11 Tryz.underlying27 rfl (by kernel_rfl) (by decide) rfl ⟨rfl, rfl⟩) ?_
    refine wl_vw (.int .i64 (Y)) 8 false 11 rfl rfl rfl rfl rfl (y_ld_stc rfl rfl Tryz.underlying3 B4 rfl rfl ⟨rfl, rfl⟩) ?_
    refine wl_vw (.bool true) 8 false 11 rfl rfl rfl rfl rfl (y_lss rfl rfl rfl (decide_eq_true d30) ⟨rfl, rfl⟩) ?_
    refine wl_v (.bool true) rfl rfl (y_pickF rfl rfl rfl ⟨rfl, rfl⟩) ?_
    refine wl_v (.bool true) rfl rfl (y_mov rfl rfl ⟨rfl, rfl⟩) ?_
    refine wl_unless 13 false 16 rfl rfl rfl (Or.inl rfl) rfl ?_
    refine wl_unless 13 false 16 rfl rfl rfl (Or.inl rfl) rfl ?_
    refine wl_unless 13 false 16 rfl rfl rfl (Or.inl rfl) rfl ?_
    refine wl_v (.bool true) rfl rfl (y_pickT rfl rfl rfl ⟨rfl, rfl⟩) ?_
    refine wl_nil fun F31 hF32 => ?_
    have s33 := (hF32 21).trans s10
    have s34 : F31 20 = .bool true := (hF32 20).trans rfl
    clear hF32
    refine then_normal ?_
    refine wq_cond (t := true) s34 (fun _ => ?_) (fun e => by cases e)
    refine wq_seq ?_
    refine wq_region ?_
    refine wl_v (.int .i64 (90)) rfl rfl (y_asg rfl rfl ⟨rfl, rfl⟩) ?_
    refine wl_nil fun F35 hF36 => ?_
    have s37 := (hF36 21).trans s33
    have s38 : F35 2 = .int .i64 (90) := (hF36 2).trans rfl
    clear hF36
    refine then_normal ?_
    refine wq_ret ?_
    refine then_ret ?_
    exact end_tmp (v := .int .i64 (90)) s37 rfl rfl s38 ⟨(by first | rw [vecE_yes (by unfold vecOk; omega)] | rw [vecE_no (by unfold vecOk; omega)]), K7⟩
   ·skip
    refine wq_region ?_
    refine wl_v (.pointer (some ⟨p1, 0, none⟩)) rfl rfl (y_fieldR (n := 1) rfl s11 Tryz.underlying27 rfl (by kernel_rfl) (by decide) rfl ⟨rfl, rfl⟩) ?_
    refine wl_v (.int .i64 (X)) rfl rfl (y_ld_stc rfl rfl Tryz.underlying3 B4 rfl rfl ⟨rfl, rfl⟩) ?_
    refine wl_v (.bool false) rfl rfl (y_lss rfl rfl rfl (decide_eq_false d12) ⟨rfl, rfl⟩) ?_
    refine wl_v (.bool false) rfl rfl (y_mov rfl rfl ⟨rfl, rfl⟩) ?_
    refine wl_vw (.pointer (some ⟨p1, 0, none⟩)) 3 false 6 rfl rfl rfl rfl rfl (y_fieldR (n := 1) rfl s11 Tryz.underlying27 rfl (by kernel_rfl) (by decide) rfl ⟨rfl, rfl⟩) ?_
    refine wl_vw (.int .i64 (X)) 3 false 6 rfl rfl rfl rfl rfl (y_ld_stc rfl rfl Tryz.underlying3 B4 rfl rfl ⟨rfl, rfl⟩) ?_
    refine wl_vw (.bool false) 3 false 6 rfl rfl rfl rfl rfl (y_gtr rfl rfl rfl (decide_eq_false d21) ⟨rfl, rfl⟩) ?_
    refine wl_v (.bool false) rfl rfl (y_pickF rfl rfl rfl ⟨rfl, rfl⟩) ?_
    refine wl_v (.bool false) rfl rfl (y_mov rfl rfl ⟨rfl, rfl⟩) ?_
    refine wl_vw (.pointer (some ⟨p1, 1, none⟩)) 8 false 11 rfl rfl rfl rfl rfl (y_fieldR (n := 1) rfl s11 Tryz.underlying27 rfl (by kernel_rfl) (by decide) rfl ⟨rfl, rfl⟩) ?_
    refine wl_vw (.int .i64 (Y)) 8 false 11 rfl rfl rfl rfl rfl (y_ld_stc rfl rfl Tryz.underlying3 B4 rfl rfl ⟨rfl, rfl⟩) ?_
    refine wl_vw (.bool false) 8 false 11 rfl rfl rfl rfl rfl (y_lss rfl rfl rfl (decide_eq_false d30) ⟨rfl, rfl⟩) ?_
    refine wl_v (.bool false) rfl rfl (y_pickF rfl rfl rfl ⟨rfl, rfl⟩) ?_
    refine wl_v (.bool false) rfl rfl (y_mov rfl rfl ⟨rfl, rfl⟩) ?_
    refine wl_vw (.pointer (some ⟨p1, 1, none⟩)) 13 false 16 rfl rfl rfl rfl rfl (y_fieldR (n := 1) rfl s11 Tryz.underlying27 rfl (by kernel_rfl) (by decide) rfl ⟨rfl, rfl⟩) ?_
    refine wl_vw (.int .i64 (Y)) 13 false 16 rfl rfl rfl rfl rfl (y_ld_stc rfl rfl Tryz.underlying3 B4 rfl rfl ⟨rfl, rfl⟩) ?_
    refine wl_vw (.bool (decide ((31) < (Y)))) 13 false 16 rfl rfl rfl rfl rfl (y_gtr rfl rfl rfl rfl ⟨rfl, rfl⟩) ?_
    refine wl_v (.bool (decide ((31) < (Y)))) rfl rfl (y_pickF rfl rfl rfl ⟨rfl, rfl⟩) ?_
    refine wl_nil fun F39 hF40 => ?_
    have s41 := (hF40 21).trans s10
    have s42 : F39 20 = .bool (decide ((31) < (Y))) := (hF40 20).trans rfl
    clear hF40
    refine then_normal ?_
    refine wq_cond s42 (fun c43 => ?_) (fun c43 => ?_)
    ·replace c43 := of_decide_eq_true c43
     refine wq_seq ?_
     refine wq_region ?_
     refine wl_v (.int .i64 (90)) rfl rfl (y_asg rfl rfl ⟨rfl, rfl⟩) ?_
     refine wl_nil fun F44 hF45 => ?_
     have s46 := (hF45 21).trans s41
     have s47 : F44 2 = .int .i64 (90) := (hF45 2).trans rfl
     clear hF45
     refine then_normal ?_
     refine wq_ret ?_
     refine then_ret ?_
     exact end_tmp (v := .int .i64 (90)) s46 rfl rfl s47 ⟨(by first | rw [vecE_yes (by unfold vecOk; omega)] | rw [vecE_no (by unfold vecOk; omega)]), K7⟩
    ·replace c43 := of_decide_eq_false c43
     refine wq_skip ?_
     refine then_normal ?_
     refine wq_seq ?_
     refine wq_region ?_
     refine wl_v (.int .i64 (0)) rfl rfl (y_asg rfl rfl ⟨rfl, rfl⟩) ?_
     refine wl_nil fun F48 hF49 => ?_
     have s50 := (hF49 21).trans s41
     have s51 : F48 2 = .int .i64 (0) := (hF49 2).trans rfl
     clear hF49
     refine then_normal ?_
     refine wq_ret ?_
     exact end_tmp (v := .int .i64 (0)) s50 rfl rfl s51 ⟨(by first | rw [vecE_yes (by unfold vecOk; omega)] | rw [vecE_no (by unfold vecOk; omega)]), K7⟩

set_option maxHeartbeats 4000000 in
set_option maxRecDepth 100000 in
theorem mref_half (n : Int) (w0 : World) (hn : -300 ≤ n ∧ n ≤ 300) :
  Calls Tryz.prog 89 #[.int .i64 (n)] w0 fun e w' => e = .returned (.int .i64 (n / 2)) ∧ Kept (fun _ => False) w0 w' := by
 refine calls_wq (args := [.int .i64 (n)]) 10 Tryz.func89 rfl rfl (Nat.le_of_ble_eq_true rfl) ?_
 have K0 := Kept.refl (fun _ => False) w0
 have hh := half_is n
 refine wq_seq ?_
 refine wq_region ?_
 refine wl_v (.int .i64 (0)) rfl rfl (y_asg rfl rfl ⟨rfl, rfl⟩) ?_
 refine wl_nil fun F1 hF2 => ?_
 have s3 : F1 0 = .int .i64 (n) := (hF2 0).trans rfl
 have s4 : F1 10 = undef := (hF2 10).trans rfl
 clear hF2
 refine then_normal ?_
 refine wq_seq ?_
 refine wq_seq ?_
 refine wq_region ?_
 refine wl_v (.int .i64 (n)) rfl rfl (y_mov rfl s3 ⟨rfl, rfl⟩) ?_
 refine wl_v (.int .i64 (Int.tmod (n) (2))) rfl rfl (y_rem rfl rfl rfl (by first | decide | omega) rfl ⟨rfl, rfl⟩) ?_
 refine wl_v (.bool (decide ((Int.tmod (n) (2)) ≠ (0)))) rfl rfl (y_neqI rfl rfl rfl rfl ⟨rfl, rfl⟩) ?_
 refine wl_nil fun F5 hF6 => ?_
 have s7 := (hF6 0).trans s3
 have s8 := (hF6 10).trans s4
 have s9 : F5 5 = .bool (decide ((Int.tmod (n) (2)) ≠ (0))) := (hF6 5).trans rfl
 clear hF6
 refine then_normal ?_
 refine wq_cond s9 (fun c10 => ?_) (fun c10 => ?_)
 ·replace c10 := of_decide_eq_true c10
  refine wq_region ?_
  refine wl_v (.int .i64 (n)) rfl rfl (y_mov rfl s7 ⟨rfl, rfl⟩) ?_
  refine wl_v (.int .i64 ((n) - (1))) rfl rfl (y_sub rfl rfl rfl (i64_i rfl (by omega)) ⟨rfl, rfl⟩) ?_
  refine wl_v (.int .i64 ((n) - (1))) rfl rfl (y_asg rfl rfl ⟨rfl, rfl⟩) ?_
  refine wl_nil fun F11 hF12 => ?_
  have s13 := (hF12 10).trans s8
  have s14 : F11 0 = .int .i64 ((n) - (1)) := (hF12 0).trans rfl
  clear hF12
  refine then_normal ?_
  refine wq_seq ?_
  refine wq_region ?_
  refine wl_v (.int .i64 ((n) - (1))) rfl rfl (y_mov rfl s14 ⟨rfl, rfl⟩) ?_
  refine wl_v (.int .i64 (n / 2)) rfl rfl (y_quo rfl rfl rfl (by first | decide | omega) ((by first | exact i64_i (hh.1 (by first | assumption | (apply Decidable.byContradiction; assumption))) (by omega) | exact i64_i (hh.2 (by assumption)) (by omega))) ⟨rfl, rfl⟩) ?_
  refine wl_v (.int .i64 (n / 2)) rfl rfl (y_asg rfl rfl ⟨rfl, rfl⟩) ?_
  refine wl_nil fun F15 hF16 => ?_
  have s17 := (hF16 10).trans s13
  have s18 : F15 2 = .int .i64 (n / 2) := (hF16 2).trans rfl
  clear hF16
  refine then_normal ?_
  refine wq_ret ?_
  exact end_tmp (v := .int .i64 (n / 2)) s17 rfl rfl s18 ⟨rfl, K0⟩
 ·replace c10 := of_decide_eq_false c10
  refine wq_skip ?_
  refine then_normal ?_
  refine wq_seq ?_
  refine wq_region ?_
  refine wl_v (.int .i64 (n)) rfl rfl (y_mov rfl s7 ⟨rfl, rfl⟩) ?_
  refine wl_v (.int .i64 (n / 2)) rfl rfl (y_quo rfl rfl rfl (by first | decide | omega) ((by first | exact i64_i (hh.1 (by first | assumption | (apply Decidable.byContradiction; assumption))) (by omega) | exact i64_i (hh.2 (by assumption)) (by omega))) ⟨rfl, rfl⟩) ?_
  refine wl_v (.int .i64 (n / 2)) rfl rfl (y_asg rfl rfl ⟨rfl, rfl⟩) ?_
  refine wl_nil fun F19 hF20 => ?_
  have s21 := (hF20 10).trans s8
  have s22 : F19 2 = .int .i64 (n / 2) := (hF20 2).trans rfl
  clear hF20
  refine then_normal ?_
  refine wq_ret ?_
  exact end_tmp (v := .int .i64 (n / 2)) s21 rfl rfl s22 ⟨rfl, K0⟩

set_option maxHeartbeats 4000000 in
set_option maxRecDepth 100000 in
theorem mref_sample (p x y : Int) (f : FD) (f0 f1 f2 : Value) (T_f0 : Nat → Prop) (T_f1 : Nat → Prop) (T_f2 : Nat → Prop) (w0 : World) (h_f0 : Byt w0 T_f0 f0 ((f).p0)) (h_f1 : Byt w0 T_f1 f1 ((f).p1)) (h_f2 : Byt w0 T_f2 f2 ((f).p2)) :
  Calls Tryz.prog 54 #[.agg #[.int .i64 ((f).W), .int .i64 ((f).H), f0, f1, f2], .int .i64 (p), .int .i64 (x), .int .i64 (y)] w0 fun e w' => e = .returned (.int .i64 (smpF f p x y)) ∧ Kept (fun _ => False) w0 w' := by
 refine calls_wq (args := [.agg #[.int .i64 ((f).W), .int .i64 ((f).H), f0, f1, f2], .int .i64 (p), .int .i64 (x), .int .i64 (y)]) 90 Tryz.func54 rfl rfl (Nat.le_of_ble_eq_true rfl) ?_
 have K0 := Kept.refl (fun _ => False) w0
 have hb : Bytes3 f := ⟨h_f0.lt256, h_f1.lt256, h_f2.lt256⟩
 obtain ⟨u, hu⟩ : ∃ u, u = c256 x := ⟨_, rfl⟩
 obtain ⟨v, hv⟩ : ∃ v, v = c256 y := ⟨_, rfl⟩
 have hu2 : -256 ≤ u ∧ u ≤ 256 := by rw [hu]; unfold c256; omega
 have hv2 : -256 ≤ v ∧ v ≤ 256 := by rw [hv]; unfold c256; omega
 have hm : smpF f p x y = mid f p u v := by rw [hu, hv]; rfl
 have a1 := atF_le hb p (u / 2) (v / 2)
 have a2 := atF_le hb p ((u + 1) / 2) (v / 2)
 have a3 := atF_le hb p (u / 2) ((v + 1) / 2)
 have a4 := atF_le hb p ((u + 1) / 2) ((v + 1) / 2)
 have tu := tmod2 u
 have tv := tmod2 v
 have g_f0 := Grew.refl w0 T_f0
 have g_f1 := Grew.refl w0 T_f1
 have g_f2 := Grew.refl w0 T_f2
 refine wq_seq ?_
 refine wq_region ?_
 refine wl_box_stc (vs := [.int .i64 ((f).W), .int .i64 ((f).H), f0, f1, f2]) rfl rfl rfl rfl fun p1 w2 B4 g5 k3 => ?_
 have B10 := h_f0.all k3 Apart.none
 have B11 := h_f1.all k3 Apart.none
 have B12 := h_f2.all k3 Apart.none
 have K13 := K0.trans k3 (fun _ _ x => x.elim)
 refine wl_v (.int .i64 (0)) rfl rfl (y_asg rfl rfl ⟨rfl, rfl⟩) ?_
 refine wl_nil fun F14 hF15 => ?_
 have s16 : F14 1 = .int .i64 (p) := (hF15 1).trans rfl
 have s17 : F14 2 = .int .i64 (x) := (hF15 2).trans rfl
 have s18 : F14 3 = .int .i64 (y) := (hF15 3).trans rfl
 have s19 : F14 90 = undef := (hF15 90).trans rfl
 have s20 : F14 4 = .pointer (some ⟨p1, 0, none⟩) := (hF15 4).trans rfl
 clear hF15
 refine then_normal ?_
 refine wq_seq ?_
 refine wq_region ?_
 refine wl_v (.int .i64 (x)) rfl rfl (y_mov rfl s17 ⟨rfl, rfl⟩) ?_
 refine wl_v (.int .i64 (max (x) (-256))) rfl rfl (y_maxR rfl rfl rfl rfl ⟨rfl, rfl⟩) ?_
 refine wl_v (.int .i64 (u)) rfl rfl (y_minR rfl rfl rfl (hu.symm) ⟨rfl, rfl⟩) ?_
 refine wl_v (.int .i64 (u)) rfl rfl (y_asg rfl rfl ⟨rfl, rfl⟩) ?_
 refine wl_nil fun F21 hF22 => ?_
 have s23 := (hF22 1).trans s16
 have s24 := (hF22 3).trans s18
 have s25 := (hF22 90).trans s19
 have s26 := (hF22 4).trans s20
 have s27 : F21 9 = .int .i64 (u) := (hF22 9).trans rfl
 clear hF22
 refine then_normal ?_
 refine wq_seq ?_
 refine wq_region ?_
 refine wl_v (.int .i64 (y)) rfl rfl (y_mov rfl s24 ⟨rfl, rfl⟩) ?_
 refine wl_v (.int .i64 (max (y) (-256))) rfl rfl (y_maxR rfl rfl rfl rfl ⟨rfl, rfl⟩) ?_
 refine wl_v (.int .i64 (v)) rfl rfl (y_minR rfl rfl rfl (hv.symm) ⟨rfl, rfl⟩) ?_
 refine wl_v (.int .i64 (v)) rfl rfl (y_asg rfl rfl ⟨rfl, rfl⟩) ?_
 refine wl_nil fun F28 hF29 => ?_
 have s30 := (hF29 1).trans s23
 have s31 := (hF29 90).trans s25
 have s32 := (hF29 4).trans s26
 have s33 := (hF29 9).trans s27
 have s34 : F28 10 = .int .i64 (v) := (hF29 10).trans rfl
 clear hF29
 refine then_normal ?_
 refine wq_seq ?_
 refine wq_said [some 21, some 22, some 23, some 24, some 25, some 26, some 27, some 11] [Pd.eq (.agg #[.int .i64 ((f).W), .int .i64 ((f).H), f0, f1, f2]), Pd.eq (.int .i64 (p)), Pd.eq (.int .i64 (u)), Pd.eq (.int .i64 ((u) / 2)), Pd.eq (.int .i64 (v)), Pd.eq (.int .i64 ((v) / 2)), Pd.eq (.int .i64 (atF (f) (p) ((u) / 2) ((v) / 2))), Pd.eq (.int .i64 (atF (f) (p) ((u) / 2) ((v) / 2)))] (by kernel_rfl) (by kernel_rfl) ?_ ?_
 ·refine stepsF_cons ?_ ?_
  ·refine StepF.one rfl fun F_ w_ hR hout hD => ?_
   exact (y_load_stc stcT_frame rfl ((hout 4 rfl (by decide)).trans s32) (B4.all hR id) ⟨rfl, Kept.refl _ _⟩)
  refine stepsF_cons ?_ ?_
  ·refine StepF.one rfl fun F_ w_ hR hout hD => ?_
   exact (y_mov rfl ((hout 1 rfl (by decide)).trans s30) ⟨rfl, Kept.refl _ _⟩)
  refine stepsF_cons ?_ ?_
  ·refine StepF.one rfl fun F_ w_ hR hout hD => ?_
   exact (y_mov rfl ((hout 9 rfl (by decide)).trans s33) ⟨rfl, Kept.refl _ _⟩)
  refine stepsF_cons ?_ ?_
  ·refine StepF.one rfl fun F_ w_ hR hout hD => ?_
   have g23 : F_ 23 = .int .i64 (u) := (hD.get 0 rfl rfl rfl)
   exact (y_cs rfl rfl rfl (fun _ _ => by kernel_rfl) (ev_func _) (vsC g23 vsN) (mref_half (u)  _ (by omega)  ) (fun e_ w_ h_ => ⟨_, h_.1, rfl, h_.2⟩))
  refine stepsF_cons ?_ ?_
  ·refine StepF.one rfl fun F_ w_ hR hout hD => ?_
   exact (y_mov rfl ((hout 10 rfl (by decide)).trans s34) ⟨rfl, Kept.refl _ _⟩)
  refine stepsF_cons ?_ ?_
  ·refine StepF.one rfl fun F_ w_ hR hout hD => ?_
   have g25 : F_ 25 = .int .i64 (v) := (hD.get 0 rfl rfl rfl)
   exact (y_cs rfl rfl rfl (fun _ _ => by kernel_rfl) (ev_func _) (vsC g25 vsN) (mref_half (v)  _ (by omega)  ) (fun e_ w_ h_ => ⟨_, h_.1, rfl, h_.2⟩))
  refine stepsF_cons ?_ ?_
  ·refine StepF.one rfl fun F_ w_ hR hout hD => ?_
   have g21 : F_ 21 = .agg #[.int .i64 ((f).W), .int .i64 ((f).H), f0, f1, f2] := (hD.get 0 rfl rfl rfl)
   have g22 : F_ 22 = .int .i64 (p) := (hD.get 1 rfl rfl rfl)
   have g24 : F_ 24 = .int .i64 ((u) / 2) := (hD.get 2 rfl rfl rfl)
   have g26 : F_ 26 = .int .i64 ((v) / 2) := (hD.get 3 rfl rfl rfl)
   exact (y_cs rfl rfl rfl (fun _ _ => by kernel_rfl) (ev_func _) (vsC g21 (vsC g22 (vsC g24 (vsC g26 vsN)))) (fref_at (p) ((u) / 2) ((v) / 2) (f) (f0) (f1) (f2) (T_f0) (T_f1) (T_f2) _  (B10.all hR Apart.none) (B11.all hR Apart.none) (B12.all hR Apart.none) ) (fun e_ w_ h_ => ⟨_, h_.1, rfl, h_.2⟩))
  refine stepsF_cons ?_ ?_
  ·refine StepF.one rfl fun F_ w_ hR hout hD => ?_
   have g27 : F_ 27 = .int .i64 (atF (f) (p) ((u) / 2) ((v) / 2)) := (hD.get 0 rfl rfl rfl)
   exact (y_asg rfl g27 ⟨rfl, Kept.refl _ _⟩)
  exact stepsF_nil
 intro v35 F36 w37 k38 G39 hF40
 have B42 := B10.all k38 Apart.none
 have B43 := B11.all k38 Apart.none
 have B44 := B12.all k38 Apart.none
 have B45 := B4.all k38 id
 have K46 := K13.trans k38 (fun _ _ x => x.elim)
 have s47 := (hF40 1).trans s30
 have s48 := (hF40 90).trans s31
 have s49 := (hF40 4).trans s32
 have s50 := (hF40 9).trans s33
 have s51 := (hF40 10).trans s34
 have s52 : F36 11 = .int .i64 (atF (f) (p) ((u) / 2) ((v) / 2)) := (hF40 11).trans (G39 7 (by decide))
 clear G39 hF40
 refine then_normal ?_
 refine wq_seq ?_
 refine wq_said [some 28, some 29, some 30, some 31, some 32, some 33, some 34, some 35, some 12] [Pd.eq (.agg #[.int .i64 ((f).W), .int .i64 ((f).H), f0, f1, f2]), Pd.eq (.int .i64 (p)), Pd.eq (.int .i64 (u)), Pd.eq (.int .i64 ((u) + (1))), Pd.eq (.int .i64 (((u) + (1)) / 2)), Pd.eq (.int .i64 (v)), Pd.eq (.int .i64 ((v) / 2)), Pd.eq (.int .i64 (atF (f) (p) (((u) + (1)) / 2) ((v) / 2))), Pd.eq (.int .i64 (atF (f) (p) (((u) + (1)) / 2) ((v) / 2)))] (by kernel_rfl) (by kernel_rfl) ?_ ?_
 ·refine stepsF_cons ?_ ?_
  ·refine StepF.one rfl fun F_ w_ hR hout hD => ?_
   exact (y_load_stc stcT_frame rfl ((hout 4 rfl (by decide)).trans s49) (B45.all hR id) ⟨rfl, Kept.refl _ _⟩)
  refine stepsF_cons ?_ ?_
  ·refine StepF.one rfl fun F_ w_ hR hout hD => ?_
   exact (y_mov rfl ((hout 1 rfl (by decide)).trans s47) ⟨rfl, Kept.refl _ _⟩)
  refine stepsF_cons ?_ ?_
  ·refine StepF.one rfl fun F_ w_ hR hout hD => ?_
   exact (y_mov rfl ((hout 9 rfl (by decide)).trans s50) ⟨rfl, Kept.refl _ _⟩)
  refine stepsF_cons ?_ ?_
  ·refine StepF.one rfl fun F_ w_ hR hout hD => ?_
   have g30 : F_ 30 = .int .i64 (u) := (hD.get 0 rfl rfl rfl)
   exact (y_add rfl g30 rfl (i64_i rfl (by omega)) ⟨rfl, Kept.refl _ _⟩)
  refine stepsF_cons ?_ ?_
  ·refine StepF.one rfl fun F_ w_ hR hout hD => ?_
   have g31 : F_ 31 = .int .i64 ((u) + (1)) := (hD.get 0 rfl rfl rfl)
   exact (y_cs rfl rfl rfl (fun _ _ => by kernel_rfl) (ev_func _) (vsC g31 vsN) (mref_half ((u) + (1))  _ (by omega)  ) (fun e_ w_ h_ => ⟨_, h_.1, rfl, h_.2⟩))
  refine stepsF_cons ?_ ?_
  ·refine StepF.one rfl fun F_ w_ hR hout hD => ?_
   exact (y_mov rfl ((hout 10 rfl (by decide)).trans s51) ⟨rfl, Kept.refl _ _⟩)
  refine stepsF_cons ?_ ?_
  ·refine StepF.one rfl fun F_ w_ hR hout hD => ?_
   have g33 : F_ 33 = .int .i64 (v) := (hD.get 0 rfl rfl rfl)
   exact (y_cs rfl rfl rfl (fun _ _ => by kernel_rfl) (ev_func _) (vsC g33 vsN) (mref_half (v)  _ (by omega)  ) (fun e_ w_ h_ => ⟨_, h_.1, rfl, h_.2⟩))
  refine stepsF_cons ?_ ?_
  ·refine StepF.one rfl fun F_ w_ hR hout hD => ?_
   have g28 : F_ 28 = .agg #[.int .i64 ((f).W), .int .i64 ((f).H), f0, f1, f2] := (hD.get 0 rfl rfl rfl)
   have g29 : F_ 29 = .int .i64 (p) := (hD.get 1 rfl rfl rfl)
   have g32 : F_ 32 = .int .i64 (((u) + (1)) / 2) := (hD.get 2 rfl rfl rfl)
   have g34 : F_ 34 = .int .i64 ((v) / 2) := (hD.get 3 rfl rfl rfl)
   exact (y_cs rfl rfl rfl (fun _ _ => by kernel_rfl) (ev_func _) (vsC g28 (vsC g29 (vsC g32 (vsC g34 vsN)))) (fref_at (p) (((u) + (1)) / 2) ((v) / 2) (f) (f0) (f1) (f2) (T_f0) (T_f1) (T_f2) _  (B42.all hR Apart.none) (B43.all hR Apart.none) (B44.all hR Apart.none) ) (fun e_ w_ h_ => ⟨_, h_.1, rfl, h_.2⟩))
  refine stepsF_cons ?_ ?_
  ·refine StepF.one rfl fun F_ w_ hR hout hD => ?_
   have g35 : F_ 35 = .int .i64 (atF (f) (p) (((u) + (1)) / 2) ((v) / 2)) := (hD.get 0 rfl rfl rfl)
   exact (y_asg rfl g35 ⟨rfl, Kept.refl _ _⟩)
  exact stepsF_nil
 intro v53 F54 w55 k56 G57 hF58
 have B60 := B42.all k56 Apart.none
 have B61 := B43.all k56 Apart.none
 have B62 := B44.all k56 Apart.none
 have B63 := B45.all k56 id
 have K64 := K46.trans k56 (fun _ _ x => x.elim)
 have s65 := (hF58 1).trans s47
 have s66 := (hF58 90).trans s48
 have s67 := (hF58 4).trans s49
 have s68 := (hF58 9).trans s50
 have s69 := (hF58 10).trans s51
 have s70 := (hF58 11).trans s52
 have s71 : F54 12 = .int .i64 (atF (f) (p) (((u) + (1)) / 2) ((v) / 2)) := (hF58 12).trans (G57 8 (by decide))
 clear G57 hF58
 refine then_normal ?_
 refine wq_seq ?_
 refine wq_said [some 36, some 37, some 38, some 39, some 40, some 41, some 42, some 43, some 13] [Pd.eq (.agg #[.int .i64 ((f).W), .int .i64 ((f).H), f0, f1, f2]), Pd.eq (.int .i64 (p)), Pd.eq (.int .i64 (u)), Pd.eq (.int .i64 ((u) / 2)), Pd.eq (.int .i64 (v)), Pd.eq (.int .i64 ((v) + (1))), Pd.eq (.int .i64 (((v) + (1)) / 2)), Pd.eq (.int .i64 (atF (f) (p) ((u) / 2) (((v) + (1)) / 2))), Pd.eq (.int .i64 (atF (f) (p) ((u) / 2) (((v) + (1)) / 2)))] (by kernel_rfl) (by kernel_rfl) ?_ ?_
 ·refine stepsF_cons ?_ ?_
  ·refine StepF.one rfl fun F_ w_ hR hout hD => ?_
   exact (y_load_stc stcT_frame rfl ((hout 4 rfl (by decide)).trans s67) (B63.all hR id) ⟨rfl, Kept.refl _ _⟩)
  refine stepsF_cons ?_ ?_
  ·refine StepF.one rfl fun F_ w_ hR hout hD => ?_
   exact (y_mov rfl ((hout 1 rfl (by decide)).trans s65) ⟨rfl, Kept.refl _ _⟩)
  refine stepsF_cons ?_ ?_
  ·refine StepF.one rfl fun F_ w_ hR hout hD => ?_
   exact (y_mov rfl ((hout 9 rfl (by decide)).trans s68) ⟨rfl, Kept.refl _ _⟩)
  refine stepsF_cons ?_ ?_
  ·refine StepF.one rfl fun F_ w_ hR hout hD => ?_
   have g38 : F_ 38 = .int .i64 (u) := (hD.get 0 rfl rfl rfl)
   exact (y_cs rfl rfl rfl (fun _ _ => by kernel_rfl) (ev_func _) (vsC g38 vsN) (mref_half (u)  _ (by omega)  ) (fun e_ w_ h_ => ⟨_, h_.1, rfl, h_.2⟩))
  refine stepsF_cons ?_ ?_
  ·refine StepF.one rfl fun F_ w_ hR hout hD => ?_
   exact (y_mov rfl ((hout 10 rfl (by decide)).trans s69) ⟨rfl, Kept.refl _ _⟩)
  refine stepsF_cons ?_ ?_
  ·refine StepF.one rfl fun F_ w_ hR hout hD => ?_
   have g40 : F_ 40 = .int .i64 (v) := (hD.get 0 rfl rfl rfl)
   exact (y_add rfl g40 rfl (i64_i rfl (by omega)) ⟨rfl, Kept.refl _ _⟩)
  refine stepsF_cons ?_ ?_
  ·refine StepF.one rfl fun F_ w_ hR hout hD => ?_
   have g41 : F_ 41 = .int .i64 ((v) + (1)) := (hD.get 0 rfl rfl rfl)
   exact (y_cs rfl rfl rfl (fun _ _ => by kernel_rfl) (ev_func _) (vsC g41 vsN) (mref_half ((v) + (1))  _ (by omega)  ) (fun e_ w_ h_ => ⟨_, h_.1, rfl, h_.2⟩))
  refine stepsF_cons ?_ ?_
  ·refine StepF.one rfl fun F_ w_ hR hout hD => ?_
   have g36 : F_ 36 = .agg #[.int .i64 ((f).W), .int .i64 ((f).H), f0, f1, f2] := (hD.get 0 rfl rfl rfl)
   have g37 : F_ 37 = .int .i64 (p) := (hD.get 1 rfl rfl rfl)
   have g39 : F_ 39 = .int .i64 ((u) / 2) := (hD.get 2 rfl rfl rfl)
   have g42 : F_ 42 = .int .i64 (((v) + (1)) / 2) := (hD.get 3 rfl rfl rfl)
   exact (y_cs rfl rfl rfl (fun _ _ => by kernel_rfl) (ev_func _) (vsC g36 (vsC g37 (vsC g39 (vsC g42 vsN)))) (fref_at (p) ((u) / 2) (((v) + (1)) / 2) (f) (f0) (f1) (f2) (T_f0) (T_f1) (T_f2) _  (B60.all hR Apart.none) (B61.all hR Apart.none) (B62.all hR Apart.none) ) (fun e_ w_ h_ => ⟨_, h_.1, rfl, h_.2⟩))
  refine stepsF_cons ?_ ?_
  ·refine StepF.one rfl fun F_ w_ hR hout hD => ?_
   have g43 : F_ 43 = .int .i64 (atF (f) (p) ((u) / 2) (((v) + (1)) / 2)) := (hD.get 0 rfl rfl rfl)
   exact (y_asg rfl g43 ⟨rfl, Kept.refl _ _⟩)
  exact stepsF_nil
 intro v72 F73 w74 k75 G76 hF77
 have B79 := B60.all k75 Apart.none
 have B80 := B61.all k75 Apart.none
 have B81 := B62.all k75 Apart.none
 have B82 := B63.all k75 id
 have K83 := K64.trans k75 (fun _ _ x => x.elim)
 have s84 := (hF77 1).trans s65
 have s85 := (hF77 90).trans s66
 have s86 := (hF77 4).trans s67
 have s87 := (hF77 9).trans s68
 have s88 := (hF77 10).trans s69
 have s89 := (hF77 11).trans s70
 have s90 := (hF77 12).trans s71
 have s91 : F73 13 = .int .i64 (atF (f) (p) ((u) / 2) (((v) + (1)) / 2)) := (hF77 13).trans (G76 8 (by decide))
 clear G76 hF77
 refine then_normal ?_
 refine wq_seq ?_
 refine wq_said [some 44, some 45, some 46, some 47, some 48, some 49, some 50, some 51, some 52, some 14] [Pd.eq (.agg #[.int .i64 ((f).W), .int .i64 ((f).H), f0, f1, f2]), Pd.eq (.int .i64 (p)), Pd.eq (.int .i64 (u)), Pd.eq (.int .i64 ((u) + (1))), Pd.eq (.int .i64 (((u) + (1)) / 2)), Pd.eq (.int .i64 (v)), Pd.eq (.int .i64 ((v) + (1))), Pd.eq (.int .i64 (((v) + (1)) / 2)), Pd.eq (.int .i64 (atF (f) (p) (((u) + (1)) / 2) (((v) + (1)) / 2))), Pd.eq (.int .i64 (atF (f) (p) (((u) + (1)) / 2) (((v) + (1)) / 2)))] (by kernel_rfl) (by kernel_rfl) ?_ ?_
 ·refine stepsF_cons ?_ ?_
  ·refine StepF.one rfl fun F_ w_ hR hout hD => ?_
   exact (y_load_stc stcT_frame rfl ((hout 4 rfl (by decide)).trans s86) (B82.all hR id) ⟨rfl, Kept.refl _ _⟩)
  refine stepsF_cons ?_ ?_
  ·refine StepF.one rfl fun F_ w_ hR hout hD => ?_
   exact (y_mov rfl ((hout 1 rfl (by decide)).trans s84) ⟨rfl, Kept.refl _ _⟩)
  refine stepsF_cons ?_ ?_
  ·refine StepF.one rfl fun F_ w_ hR hout hD => ?_
   exact (y_mov rfl ((hout 9 rfl (by decide)).trans s87) ⟨rfl, Kept.refl _ _⟩)
  refine stepsF_cons ?_ ?_
  ·refine StepF.one rfl fun F_ w_ hR hout hD => ?_
   have g46 : F_ 46 = .int .i64 (u) := (hD.get 0 rfl rfl rfl)
   exact (y_add rfl g46 rfl (i64_i rfl (by omega)) ⟨rfl, Kept.refl _ _⟩)
  refine stepsF_cons ?_ ?_
  ·refine StepF.one rfl fun F_ w_ hR hout hD => ?_
   have g47 : F_ 47 = .int .i64 ((u) + (1)) := (hD.get 0 rfl rfl rfl)
   exact (y_cs rfl rfl rfl (fun _ _ => by kernel_rfl) (ev_func _) (vsC g47 vsN) (mref_half ((u) + (1))  _ (by omega)  ) (fun e_ w_ h_ => ⟨_, h_.1, rfl, h_.2⟩))
  refine stepsF_cons ?_ ?_
  ·refine StepF.one rfl fun F_ w_ hR hout hD => ?_
   exact (y_mov rfl ((hout 10 rfl (by decide)).trans s88) ⟨rfl, Kept.refl _ _⟩)
  refine stepsF_cons ?_ ?_
  ·refine StepF.one rfl fun F_ w_ hR hout hD => ?_
   have g49 : F_ 49 = .int .i64 (v) := (hD.get 0 rfl rfl rfl)
   exact (y_add rfl g49 rfl (i64_i rfl (by omega)) ⟨rfl, Kept.refl _ _⟩)
  refine stepsF_cons ?_ ?_
  ·refine StepF.one rfl fun F_ w_ hR hout hD => ?_
   have g50 : F_ 50 = .int .i64 ((v) + (1)) := (hD.get 0 rfl rfl rfl)
   exact (y_cs rfl rfl rfl (fun _ _ => by kernel_rfl) (ev_func _) (vsC g50 vsN) (mref_half ((v) + (1))  _ (by omega)  ) (fun e_ w_ h_ => ⟨_, h_.1, rfl, h_.2⟩))
  refine stepsF_cons ?_ ?_
  ·refine StepF.one rfl fun F_ w_ hR hout hD => ?_
   have g44 : F_ 44 = .agg #[.int .i64 ((f).W), .int .i64 ((f).H), f0, f1, f2] := (hD.get 0 rfl rfl rfl)
   have g45 : F_ 45 = .int .i64 (p) := (hD.get 1 rfl rfl rfl)
   have g48 : F_ 48 = .int .i64 (((u) + (1)) / 2) := (hD.get 2 rfl rfl rfl)
   have g51 : F_ 51 = .int .i64 (((v) + (1)) / 2) := (hD.get 3 rfl rfl rfl)
   exact (y_cs rfl rfl rfl (fun _ _ => by kernel_rfl) (ev_func _) (vsC g44 (vsC g45 (vsC g48 (vsC g51 vsN)))) (fref_at (p) (((u) + (1)) / 2) (((v) + (1)) / 2) (f) (f0) (f1) (f2) (T_f0) (T_f1) (T_f2) _  (B79.all hR Apart.none) (B80.all hR Apart.none) (B81.all hR Apart.none) ) (fun e_ w_ h_ => ⟨_, h_.1, rfl, h_.2⟩))
  refine stepsF_cons ?_ ?_
  ·refine StepF.one rfl fun F_ w_ hR hout hD => ?_
   have g52 : F_ 52 = .int .i64 (atF (f) (p) (((u) + (1)) / 2) (((v) + (1)) / 2)) := (hD.get 0 rfl rfl rfl)
   exact (y_asg rfl g52 ⟨rfl, Kept.refl _ _⟩)
  exact stepsF_nil
 intro v92 F93 w94 k95 G96 hF97
 have K103 := K83.trans k95 (fun _ _ x => x.elim)
 have s104 := (hF97 90).trans s85
 have s105 := (hF97 9).trans s87
 have s106 := (hF97 10).trans s88
 have s107 := (hF97 11).trans s89
 have s108 := (hF97 12).trans s90
 have s109 := (hF97 13).trans s91
 have s110 : F93 14 = .int .i64 (atF (f) (p) (((u) + (1)) / 2) (((v) + (1)) / 2)) := (hF97 14).trans (G96 9 (by decide))
 clear G96 hF97
 refine then_normal ?_
 refine wq_seq ?_
 refine wq_block ?_
 refine wq_seq ?_
 by_cases d111 : (Int.tmod (u) (2)) = (0)
 ·skip
  refine wq_region ?_
  refine wl_v (.int .i64 (u)) rfl rfl (y_mov rfl s105 ⟨rfl, rfl⟩) ?_
  refine wl_v (.int .i64 (Int.tmod (u) (2))) rfl rfl (y_rem rfl rfl rfl (by first | decide | omega) rfl ⟨rfl, rfl⟩) ?_
  refine wl_v (.bool true) rfl rfl (y_eqlI rfl rfl rfl (decide_eq_true d111) ⟨rfl, rfl⟩) ?_
  refine wl_v (.bool true) rfl rfl (y_mov rfl rfl ⟨rfl, rfl⟩) ?_
  refine wl_vw (.int .i64 (v)) 3 true 57 rfl rfl rfl rfl rfl (y_mov rfl s106 ⟨rfl, rfl⟩) ?_
  refine wl_vw (.int .i64 (Int.tmod (v) (2))) 3 true 57 rfl rfl rfl rfl rfl (y_rem rfl rfl rfl (by first | decide | omega) rfl ⟨rfl, rfl⟩) ?_
  refine wl_vw (.bool (decide ((Int.tmod (v) (2)) = (0)))) 3 true 57 rfl rfl rfl rfl rfl (y_eqlI rfl rfl rfl rfl ⟨rfl, rfl⟩) ?_
  refine wl_v (.bool (decide ((Int.tmod (v) (2)) = (0)))) rfl rfl (y_pickT rfl rfl rfl ⟨rfl, rfl⟩) ?_
  refine wl_v (.bool (decide ((Int.tmod (v) (2)) = (0)))) rfl rfl (y_asg rfl rfl ⟨rfl, rfl⟩) ?_
  refine wl_nil fun F112 hF113 => ?_
  have s114 := (hF113 90).trans s104
  have s115 := (hF113 9).trans s105
  have s116 := (hF113 10).trans s106
  have s117 := (hF113 11).trans s107
  have s119 := (hF113 13).trans s109
  have s121 : F112 53 = .bool (decide ((Int.tmod (v) (2)) = (0))) := (hF113 53).trans rfl
  clear hF113
  refine then_normal ?_
  refine wq_cond s121 (fun c122 => ?_) (fun c122 => ?_)
  ·replace c122 := of_decide_eq_true c122
   refine wq_seq ?_
   refine wq_region ?_
   refine wl_v (.int .i64 (atF (f) (p) ((u) / 2) ((v) / 2))) rfl rfl (y_mov rfl s117 ⟨rfl, rfl⟩) ?_
   refine wl_v (.int .i64 (atF (f) (p) ((u) / 2) ((v) / 2))) rfl rfl (y_asg rfl rfl ⟨rfl, rfl⟩) ?_
   refine wl_nil fun F123 hF124 => ?_
   have s125 := (hF124 90).trans s114
   have s126 : F123 8 = .int .i64 (atF (f) (p) ((u) / 2) ((v) / 2)) := (hF124 8).trans rfl
   clear hF124
   refine then_normal ?_
   refine wq_ret ?_
   refine in_ret ?_
   refine then_ret ?_
   exact end_tmp (v := .int .i64 (atF (f) (p) ((u) / 2) ((v) / 2))) s125 rfl rfl s126 ⟨(by first | (rw [hm]; done) | rw [hm, mid_both (by omega) (by omega)]), K103⟩
  ·replace c122 := of_decide_eq_false c122
   refine wq_seq ?_
   refine wq_region ?_
   refine wl_v (.int .i64 (v)) rfl rfl (y_mov rfl s116 ⟨rfl, rfl⟩) ?_
   refine wl_v (.int .i64 (Int.tmod (v) (2))) rfl rfl (y_rem rfl rfl rfl (by first | decide | omega) rfl ⟨rfl, rfl⟩) ?_
   refine wl_v (.bool false) rfl rfl (y_eqlI rfl rfl rfl (decide_eq_false c122) ⟨rfl, rfl⟩) ?_
   refine wl_v (.bool false) rfl rfl (y_asg rfl rfl ⟨rfl, rfl⟩) ?_
   refine wl_nil fun F127 hF128 => ?_
   have s129 := (hF128 90).trans s114
   have s130 := (hF128 9).trans s115
   have s131 := (hF128 11).trans s117
   have s133 := (hF128 13).trans s119
   have s135 : F127 63 = .bool false := (hF128 63).trans rfl
   clear hF128
   refine then_normal ?_
   refine wq_cond (t := false) s135 (fun e => by cases e) (fun _ => ?_)
   refine wq_seq ?_
   refine wq_region ?_
   refine wl_v (.int .i64 (u)) rfl rfl (y_mov rfl s130 ⟨rfl, rfl⟩) ?_
   refine wl_v (.int .i64 (Int.tmod (u) (2))) rfl rfl (y_rem rfl rfl rfl (by first | decide | omega) rfl ⟨rfl, rfl⟩) ?_
   refine wl_v (.bool true) rfl rfl (y_eqlI rfl rfl rfl (decide_eq_true d111) ⟨rfl, rfl⟩) ?_
   refine wl_v (.bool true) rfl rfl (y_asg rfl rfl ⟨rfl, rfl⟩) ?_
   refine wl_nil fun F136 hF137 => ?_
   have s138 := (hF137 90).trans s129
   have s139 := (hF137 11).trans s131
   have s141 := (hF137 13).trans s133
   have s143 : F136 72 = .bool true := (hF137 72).trans rfl
   clear hF137
   refine then_normal ?_
   refine wq_cond (t := true) s143 (fun _ => ?_) (fun e => by cases e)
   refine wq_seq ?_
   refine wq_region ?_
   refine wl_v (.int .i64 (atF (f) (p) ((u) / 2) ((v) / 2))) rfl rfl (y_mov rfl s139 ⟨rfl, rfl⟩) ?_
   refine wl_v (.int .i64 (atF (f) (p) ((u) / 2) (((v) + (1)) / 2))) rfl rfl (y_mov rfl s141 ⟨rfl, rfl⟩) ?_
   refine wl_v (.int .i64 ((atF (f) (p) ((u) / 2) ((v) / 2)) + (atF (f) (p) ((u) / 2) (((v) + (1)) / 2)))) rfl rfl (y_add rfl rfl rfl (i64_i rfl (by omega)) ⟨rfl, rfl⟩) ?_
   refine wl_v (.int .i64 (((atF (f) (p) ((u) / 2) ((v) / 2)) + (atF (f) (p) ((u) / 2) (((v) + (1)) / 2))) + (1))) rfl rfl (y_add rfl rfl rfl (i64_i rfl (by omega)) ⟨rfl, rfl⟩) ?_
   refine wl_v (.int .i64 (mid f p u v)) rfl rfl (y_quo rfl rfl rfl (by first | decide | omega) ((by rw [mid_down (by omega) (by omega)]; exact i64_i (tdiv2 (by omega)) (by omega))) ⟨rfl, rfl⟩) ?_
   refine wl_v (.int .i64 (mid f p u v)) rfl rfl (y_asg rfl rfl ⟨rfl, rfl⟩) ?_
   refine wl_nil fun F144 hF145 => ?_
   have s146 := (hF145 90).trans s138
   have s147 : F144 8 = .int .i64 (mid f p u v) := (hF145 8).trans rfl
   clear hF145
   refine then_normal ?_
   refine wq_ret ?_
   refine in_ret ?_
   refine then_ret ?_
   exact end_tmp (v := .int .i64 (mid f p u v)) s146 rfl rfl s147 ⟨(by first | (rw [hm]; done) | rw [hm, mid_both (by omega) (by omega)]), K103⟩
 ·skip
  refine wq_region ?_
  refine wl_v (.int .i64 (u)) rfl rfl (y_mov rfl s105 ⟨rfl, rfl⟩) ?_
  refine wl_v (.int .i64 (Int.tmod (u) (2))) rfl rfl (y_rem rfl rfl rfl (by first | decide | omega) rfl ⟨rfl, rfl⟩) ?_
  refine wl_v (.bool false) rfl rfl (y_eqlI rfl rfl rfl (decide_eq_false d111) ⟨rfl, rfl⟩) ?_
  refine wl_v (.bool false) rfl rfl (y_mov rfl rfl ⟨rfl, rfl⟩) ?_
  refine wl_unless 3 true 57 rfl rfl rfl (Or.inl rfl) rfl ?_
  refine wl_unless 3 true 57 rfl rfl rfl (Or.inl rfl) rfl ?_
  refine wl_unless 3 true 57 rfl rfl rfl (Or.inl rfl) rfl ?_
  refine wl_v (.bool false) rfl rfl (y_pickF rfl rfl rfl ⟨rfl, rfl⟩) ?_
  refine wl_v (.bool false) rfl rfl (y_asg rfl rfl ⟨rfl, rfl⟩) ?_
  refine wl_nil fun F148 hF149 => ?_
  have s150 := (hF149 90).trans s104
  have s151 := (hF149 9).trans s105
  have s152 := (hF149 10).trans s106
  have s153 := (hF149 11).trans s107
  have s154 := (hF149 12).trans s108
  have s155 := (hF149 13).trans s109
  have s156 := (hF149 14).trans s110
  have s157 : F148 53 = .bool false := (hF149 53).trans rfl
  clear hF149
  refine then_normal ?_
  refine wq_cond (t := false) s157 (fun e => by cases e) (fun _ => ?_)
  refine wq_seq ?_
  refine wq_region ?_
  refine wl_v (.int .i64 (v)) rfl rfl (y_mov rfl s152 ⟨rfl, rfl⟩) ?_
  refine wl_v (.int .i64 (Int.tmod (v) (2))) rfl rfl (y_rem rfl rfl rfl (by first | decide | omega) rfl ⟨rfl, rfl⟩) ?_
  refine wl_v (.bool (decide ((Int.tmod (v) (2)) = (0)))) rfl rfl (y_eqlI rfl rfl rfl rfl ⟨rfl, rfl⟩) ?_
  refine wl_v (.bool (decide ((Int.tmod (v) (2)) = (0)))) rfl rfl (y_asg rfl rfl ⟨rfl, rfl⟩) ?_
  refine wl_nil fun F158 hF159 => ?_
  have s160 := (hF159 90).trans s150
  have s161 := (hF159 9).trans s151
  have s162 := (hF159 11).trans s153
  have s163 := (hF159 12).trans s154
  have s164 := (hF159 13).trans s155
  have s165 := (hF159 14).trans s156
  have s166 : F158 63 = .bool (decide ((Int.tmod (v) (2)) = (0))) := (hF159 63).trans rfl
  clear hF159
  refine then_normal ?_
  refine wq_cond s166 (fun c167 => ?_) (fun c167 => ?_)
  ·replace c167 := of_decide_eq_true c167
   refine wq_seq ?_
   refine wq_region ?_
   refine wl_v (.int .i64 (atF (f) (p) ((u) / 2) ((v) / 2))) rfl rfl (y_mov rfl s162 ⟨rfl, rfl⟩) ?_
   refine wl_v (.int .i64 (atF (f) (p) (((u) + (1)) / 2) ((v) / 2))) rfl rfl (y_mov rfl s163 ⟨rfl, rfl⟩) ?_
   refine wl_v (.int .i64 ((atF (f) (p) ((u) / 2) ((v) / 2)) + (atF (f) (p) (((u) + (1)) / 2) ((v) / 2)))) rfl rfl (y_add rfl rfl rfl (i64_i rfl (by omega)) ⟨rfl, rfl⟩) ?_
   refine wl_v (.int .i64 (((atF (f) (p) ((u) / 2) ((v) / 2)) + (atF (f) (p) (((u) + (1)) / 2) ((v) / 2))) + (1))) rfl rfl (y_add rfl rfl rfl (i64_i rfl (by omega)) ⟨rfl, rfl⟩) ?_
   refine wl_v (.int .i64 (mid f p u v)) rfl rfl (y_quo rfl rfl rfl (by first | decide | omega) ((by rw [mid_side (by omega) (by omega)]; exact i64_i (tdiv2 (by omega)) (by omega))) ⟨rfl, rfl⟩) ?_
   refine wl_v (.int .i64 (mid f p u v)) rfl rfl (y_asg rfl rfl ⟨rfl, rfl⟩) ?_
   refine wl_nil fun F168 hF169 => ?_
   have s170 := (hF169 90).trans s160
   have s171 : F168 8 = .int .i64 (mid f p u v) := (hF169 8).trans rfl
   clear hF169
   refine then_normal ?_
   refine wq_ret ?_
   refine in_ret ?_
   refine then_ret ?_
   exact end_tmp (v := .int .i64 (mid f p u v)) s170 rfl rfl s171 ⟨(by first | (rw [hm]; done) | rw [hm, mid_both (by omega) (by omega)]), K103⟩
  ·replace c167 := of_decide_eq_false c167
   refine wq_seq ?_
   refine wq_region ?_
   refine wl_v (.int .i64 (u)) rfl rfl (y_mov rfl s161 ⟨rfl, rfl⟩) ?_
   refine wl_v (.int .i64 (Int.tmod (u) (2))) rfl rfl (y_rem rfl rfl rfl (by first | decide | omega) rfl ⟨rfl, rfl⟩) ?_
   refine wl_v (.bool false) rfl rfl (y_eqlI rfl rfl rfl (decide_eq_false d111) ⟨rfl, rfl⟩) ?_
   refine wl_v (.bool false) rfl rfl (y_asg rfl rfl ⟨rfl, rfl⟩) ?_
   refine wl_nil fun F172 hF173 => ?_
   have s174 := (hF173 90).trans s160
   have s175 := (hF173 11).trans s162
   have s176 := (hF173 12).trans s163
   have s177 := (hF173 13).trans s164
   have s178 := (hF173 14).trans s165
   have s179 : F172 72 = .bool false := (hF173 72).trans rfl
   clear hF173
   refine then_normal ?_
   refine wq_cond (t := false) s179 (fun e => by cases e) (fun _ => ?_)
   refine wq_skip ?_
   refine in_normal ?_
   refine then_normal ?_
   refine wq_seq ?_
   refine wq_region ?_
   refine wl_v (.int .i64 (atF (f) (p) ((u) / 2) ((v) / 2))) rfl rfl (y_mov rfl s175 ⟨rfl, rfl⟩) ?_
   refine wl_v (.int .i64 (atF (f) (p) (((u) + (1)) / 2) ((v) / 2))) rfl rfl (y_mov rfl s176 ⟨rfl, rfl⟩) ?_
   refine wl_v (.int .i64 ((atF (f) (p) ((u) / 2) ((v) / 2)) + (atF (f) (p) (((u) + (1)) / 2) ((v) / 2)))) rfl rfl (y_add rfl rfl rfl (i64_i rfl (by omega)) ⟨rfl, rfl⟩) ?_
   refine wl_v (.int .i64 (atF (f) (p) ((u) / 2) (((v) + (1)) / 2))) rfl rfl (y_mov rfl s177 ⟨rfl, rfl⟩) ?_
   refine wl_v (.int .i64 (((atF (f) (p) ((u) / 2) ((v) / 2)) + (atF (f) (p) (((u) + (1)) / 2) ((v) / 2))) + (atF (f) (p) ((u) / 2) (((v) + (1)) / 2)))) rfl rfl (y_add rfl rfl rfl (i64_i rfl (by omega)) ⟨rfl, rfl⟩) ?_
   refine wl_v (.int .i64 (atF (f) (p) (((u) + (1)) / 2) (((v) + (1)) / 2))) rfl rfl (y_mov rfl s178 ⟨rfl, rfl⟩) ?_
   refine wl_v (.int .i64 ((((atF (f) (p) ((u) / 2) ((v) / 2)) + (atF (f) (p) (((u) + (1)) / 2) ((v) / 2))) + (atF (f) (p) ((u) / 2) (((v) + (1)) / 2))) + (atF (f) (p) (((u) + (1)) / 2) (((v) + (1)) / 2)))) rfl rfl (y_add rfl rfl rfl (i64_i rfl (by omega)) ⟨rfl, rfl⟩) ?_
   refine wl_v (.int .i64 (((((atF (f) (p) ((u) / 2) ((v) / 2)) + (atF (f) (p) (((u) + (1)) / 2) ((v) / 2))) + (atF (f) (p) ((u) / 2) (((v) + (1)) / 2))) + (atF (f) (p) (((u) + (1)) / 2) (((v) + (1)) / 2))) + (2))) rfl rfl (y_add rfl rfl rfl (i64_i rfl (by omega)) ⟨rfl, rfl⟩) ?_
   refine wl_v (.int .i64 (mid f p u v)) rfl rfl (y_quo rfl rfl rfl (by first | decide | omega) ((by rw [mid_none (by omega) (by omega)]; exact i64_i (tdiv4 (by omega)) (by omega))) ⟨rfl, rfl⟩) ?_
   refine wl_v (.int .i64 (mid f p u v)) rfl rfl (y_asg rfl rfl ⟨rfl, rfl⟩) ?_
   refine wl_nil fun F180 hF181 => ?_
   have s182 := (hF181 90).trans s174
   have s183 : F180 8 = .int .i64 (mid f p u v) := (hF181 8).trans rfl
   clear hF181
   refine then_normal ?_
   refine wq_ret ?_
   exact end_tmp (v := .int .i64 (mid f p u v)) s182 rfl rfl s183 ⟨(by first | (rw [hm]; done) | rw [hm, mid_both (by omega) (by omega)]), K103⟩

set_option maxHeartbeats 4000000 in
set_option maxRecDepth 100000 in
theorem mref_predict (p x y X Y : Int) (f : FD) (f0 f1 f2 : Value) (T_f0 : Nat → Prop) (T_f1 : Nat → Prop) (T_f2 : Nat → Prop) (w0 : World) (h_f0 : Byt w0 T_f0 f0 ((f).p0)) (h_f1 : Byt w0 T_f1 f1 ((f).p1)) (h_f2 : Byt w0 T_f2 f2 ((f).p2)) :
  Calls Tryz.prog 21 #[.agg #[.int .i64 ((f).W), .int .i64 ((f).H), f0, f1, f2], .int .i64 (p), .int .i64 (x), .int .i64 (y), .agg #[.int .i64 (X), .int .i64 (Y)]] w0 fun e w' => e = .returned (.tuple #[blkV (mvB f p x y X Y), .int .i64 (mvE f p x y X Y)]) ∧ Kept (fun _ => False) w0 w' := by
 refine calls_wq (args := [.agg #[.int .i64 ((f).W), .int .i64 ((f).H), f0, f1, f2], .int .i64 (p), .int .i64 (x), .int .i64 (y), .agg #[.int .i64 (X), .int .i64 (Y)]]) 73 Tryz.func21 rfl rfl (Nat.le_of_ble_eq_true rfl) ?_
 have K0 := Kept.refl (fun _ => False) w0
 have g_f0 := Grew.refl w0 T_f0
 have g_f1 := Grew.refl w0 T_f1
 have g_f2 := Grew.refl w0 T_f2
 refine wq_seq ?_
 refine wq_region ?_
 refine wl_box_stc (vs := [.int .i64 ((f).W), .int .i64 ((f).H), f0, f1, f2]) rfl rfl rfl rfl fun p1 w2 B4 g5 k3 => ?_
 have B10 := h_f0.all k3 Apart.none
 have B11 := h_f1.all k3 Apart.none
 have B12 := h_f2.all k3 Apart.none
 have K13 := K0.trans k3 (fun _ _ x => x.elim)
 refine wl_box_stc (vs := [.int .i64 (X), .int .i64 (Y)]) rfl rfl rfl rfl fun p14 w15 B17 g18 k16 => ?_
 have B24 := B10.all k16 Apart.none
 have B25 := B11.all k16 Apart.none
 have B26 := B12.all k16 Apart.none
 have B27 := B4.all k16 id
 have K28 := K13.trans k16 (fun _ _ x => x.elim)
 refine wl_alloc_blk rfl rfl rfl blkT_arr.2.2 fun p29 w30 e33 B31 k32 => ?_
 have g34 := onB_new (Nat.le_of_eq e33.symm)
 have gr35 : Grew w0 noB (onB p29) := Grew.new K28 g34
 clear e33 g34
 have B41 := B24.all k32 Apart.none
 have B42 := B25.all k32 Apart.none
 have B43 := B26.all k32 Apart.none
 have B44 := B27.all k32 id
 have B45 := B17.all k32 id
 have K46 := K28.trans k32 (fun _ _ x => x.elim)
 refine wl_v (.int .i64 (0)) rfl rfl (y_asg rfl rfl ⟨rfl, rfl⟩) ?_
 refine wl_nil fun F47 hF48 => ?_
 have s49 : F47 1 = .int .i64 (p) := (hF48 1).trans rfl
 have s50 : F47 2 = .int .i64 (x) := (hF48 2).trans rfl
 have s51 : F47 3 = .int .i64 (y) := (hF48 3).trans rfl
 have s52 : F47 73 = undef := (hF48 73).trans rfl
 have s53 : F47 5 = .pointer (some ⟨p1, 0, none⟩) := (hF48 5).trans rfl
 have s54 : F47 9 = .pointer (some ⟨p14, 0, none⟩) := (hF48 9).trans rfl
 have s55 : F47 10 = .pointer (some ⟨p29, 0, none⟩) := (hF48 10).trans rfl
 clear hF48
 refine then_normal ?_
 refine wq_seq ?_
 refine wq_region ?_
 refine wl_v (blkV (fun _ => 0)) rfl rfl (y_buildR (cells := (arrL 16 (fun _ => 0)).toArray) rfl (by kernel_rfl) rfl ⟨rfl, rfl⟩) ?_
 refine wl_alloc_blk rfl rfl rfl blkT_arr.2.2 fun p56 w57 e60 B58 k59 => ?_
 have g61 := onB_new (Nat.le_of_eq e60.symm)
 have gr62 : Grew w0 noB (onB p56) := Grew.new K46 g61
 have ap63 : Apart (onB p56) (T_f0) := Apart.new g61 (B41).live
 have ap64 : Apart (onB p56) (T_f1) := Apart.new g61 (B42).live
 have ap65 : Apart (onB p56) (T_f2) := Apart.new g61 (B43).live
 have ap66 : Apart (onB p56) (onB p1) := Apart.new g61 (onB_live (B44).lt)
 have ap67 : Apart (onB p56) (onB p14) := Apart.new g61 (onB_live (B45).lt)
 have ap68 : Apart (onB p56) (onB p29) := Apart.new g61 (onB_live (B31).lt)
 clear e60 g61
 have B69 := B41.all k59 Apart.none
 have B70 := B42.all k59 Apart.none
 have B71 := B43.all k59 Apart.none
 have B72 := B44.all k59 id
 have B73 := B45.all k59 id
 have B74 := B31.all k59 id
 have K75 := K46.trans k59 (fun _ _ x => x.elim)
 refine wl_store_blk blkT_arr rfl rfl rfl rfl rfl B58 fun w76 B77 k78 => ?_
 have B79 := B69.all k78 (fun i h x => (((ap63).symm) i h x))
 have B80 := B70.all k78 (fun i h x => (((ap64).symm) i h x))
 have B81 := B71.all k78 (fun i h x => (((ap65).symm) i h x))
 have B82 := B72.all k78 (fun x => (((ap66).symm) p1 rfl x))
 have B83 := B73.all k78 (fun x => (((ap67).symm) p14 rfl x))
 have B84 := B74.all k78 (fun x => (((ap68).symm) p29 rfl x))
 have K85 := K75.trans k78 (Grew.ok (S := fun _ => False) gr62 noB_le)
 refine wl_nil fun F86 hF87 => ?_
 have s88 := (hF87 1).trans s49
 have s89 := (hF87 2).trans s50
 have s90 := (hF87 3).trans s51
 have s91 := (hF87 73).trans s52
 have s92 := (hF87 5).trans s53
 have s93 := (hF87 9).trans s54
 have s94 := (hF87 10).trans s55
 have s95 : F86 12 = .pointer (some ⟨p56, 0, none⟩) := (hF87 12).trans rfl
 clear hF87
 refine then_normal ?_
 refine wq_seq ?_
 refine wq_seq ?_
 by_cases d96 : (checkE (f)) ≠ (0)
 ·skip
  refine wq_region ?_
  refine wl_v (.agg #[.int .i64 ((f).W), .int .i64 ((f).H), f0, f1, f2]) rfl rfl (y_load_stc stcT_frame rfl s92 B82 ⟨rfl, rfl⟩) ?_
  refine wl_call (R := fun v_ w_ => v_ = .int .i64 (checkE (f)) ∧ Kept (fun _ => False) w76 w_) rfl rfl (y_cs rfl rfl rfl (fun _ _ => by kernel_rfl) (ev_func _) (vsC rfl vsN) (fref_check (f) (f0) (f1) (f2) (T_f0) (T_f1) (T_f2) _  B79 B80 B81 ) (fun e_ w_ h_ => ⟨_, h_.1, rfl, h_.2⟩)) ?_
  rintro _ w97 ⟨rfl, k98⟩
  have B104 := B84.all k98 id
  have B105 := B77.all k98 id
  have K106 := K85.trans k98 (fun _ _ x => x.elim)
  refine wl_v (.bool true) rfl rfl (y_neqI rfl rfl rfl (decide_eq_true d96) ⟨rfl, rfl⟩) ?_
  refine wl_v (.bool true) rfl rfl (y_mov rfl rfl ⟨rfl, rfl⟩) ?_
  refine wl_unless 3 false 18 rfl rfl rfl (Or.inl rfl) rfl ?_
  refine wl_unless 3 false 18 rfl rfl rfl (Or.inl rfl) rfl ?_
  refine wl_v (.bool true) rfl rfl (y_pickT rfl rfl rfl ⟨rfl, rfl⟩) ?_
  refine wl_v (.bool true) rfl rfl (y_mov rfl rfl ⟨rfl, rfl⟩) ?_
  refine wl_unless 7 false 22 rfl rfl rfl (Or.inl rfl) rfl ?_
  refine wl_unless 7 false 22 rfl rfl rfl (Or.inl rfl) rfl ?_
  refine wl_v (.bool true) rfl rfl (y_pickT rfl rfl rfl ⟨rfl, rfl⟩) ?_
  refine wl_v (.bool true) rfl rfl (y_mov rfl rfl ⟨rfl, rfl⟩) ?_
  refine wl_unless 11 false 26 rfl rfl rfl (Or.inl rfl) rfl ?_
  refine wl_unless 11 false 26 rfl rfl rfl (Or.inl rfl) rfl ?_
  refine wl_v (.bool true) rfl rfl (y_pickT rfl rfl rfl ⟨rfl, rfl⟩) ?_
  refine wl_v (.bool true) rfl rfl (y_mov rfl rfl ⟨rfl, rfl⟩) ?_
  refine wl_unless 15 false 30 rfl rfl rfl (Or.inl rfl) rfl ?_
  refine wl_unless 15 false 30 rfl rfl rfl (Or.inl rfl) rfl ?_
  refine wl_v (.bool true) rfl rfl (y_pickT rfl rfl rfl ⟨rfl, rfl⟩) ?_
  refine wl_v (.bool true) rfl rfl (y_mov rfl rfl ⟨rfl, rfl⟩) ?_
  refine wl_unless 19 false 34 rfl rfl rfl (Or.inl rfl) rfl ?_
  refine wl_unless 19 false 34 rfl rfl rfl (Or.inl rfl) rfl ?_
  refine wl_v (.bool true) rfl rfl (y_pickT rfl rfl rfl ⟨rfl, rfl⟩) ?_
  refine wl_v (.bool true) rfl rfl (y_mov rfl rfl ⟨rfl, rfl⟩) ?_
  refine wl_unless 23 false 38 rfl rfl rfl (Or.inl rfl) rfl ?_
  refine wl_unless 23 false 38 rfl rfl rfl (Or.inl rfl) rfl ?_
  refine wl_v (.bool true) rfl rfl (y_pickT rfl rfl rfl ⟨rfl, rfl⟩) ?_
  refine wl_nil fun F107 hF108 => ?_
  have s112 := (hF108 73).trans s91
  have s115 := (hF108 10).trans s94
  have s116 := (hF108 12).trans s95
  have s117 : F107 41 = .bool true := (hF108 41).trans rfl
  clear hF108
  refine then_normal ?_
  refine wq_cond (t := true) s117 (fun _ => ?_) (fun e => by cases e)
  refine wq_seq ?_
  have hno : ¬ placeF f p x y := by rintro ⟨h1, h2, h3, h4, h5, h6, h7⟩; first | exact absurd ((checkE_iff f).2 h1) (by assumption) | omega
  refine wq_region ?_
  refine wl_v (blkV (fun _ => 0)) rfl rfl (y_load_blk blkT_arr rfl s116 B105 ⟨rfl, rfl⟩) ?_
  refine wl_store_blk blkT_arr rfl rfl rfl s115 rfl B104 fun w118 B119 k120 => ?_
  have K127 := K106.trans k120 (Grew.ok (S := fun _ => False) gr35 noB_le)
  refine wl_v (.int .i64 (70)) rfl rfl (y_asg rfl rfl ⟨rfl, rfl⟩) ?_
  refine wl_nil fun F128 hF129 => ?_
  have s130 := (hF129 73).trans s112
  have s131 := (hF129 10).trans s115
  have s132 : F128 11 = .int .i64 (70) := (hF129 11).trans rfl
  clear hF129
  refine then_normal ?_
  refine wq_ret ?_
  refine then_ret ?_
  exact end_2 s130 rfl (res_blk blkT_arr rfl s131 B119) (res_tmp (v := .int .i64 (70)) rfl s132) ⟨(by first | rw [(mv_no hno).1, (mv_no hno).2] | rw [(mv_none hpl hvn).1, (mv_none hpl hvn).2] | rw [(mv_yes hpl hv).1, (mv_yes hpl hv).2]), K127⟩
 ·skip
  by_cases d133 : (p) < (0)
  ·skip
   refine wq_region ?_
   refine wl_v (.agg #[.int .i64 ((f).W), .int .i64 ((f).H), f0, f1, f2]) rfl rfl (y_load_stc stcT_frame rfl s92 B82 ⟨rfl, rfl⟩) ?_
   refine wl_call (R := fun v_ w_ => v_ = .int .i64 (checkE (f)) ∧ Kept (fun _ => False) w76 w_) rfl rfl (y_cs rfl rfl rfl (fun _ _ => by kernel_rfl) (ev_func _) (vsC rfl vsN) (fref_check (f) (f0) (f1) (f2) (T_f0) (T_f1) (T_f2) _  B79 B80 B81 ) (fun e_ w_ h_ => ⟨_, h_.1, rfl, h_.2⟩)) ?_
   rintro _ w134 ⟨rfl, k135⟩
   have B141 := B84.all k135 id
   have B142 := B77.all k135 id
   have K143 := K85.trans k135 (fun _ _ x => x.elim)
   refine wl_v (.bool false) rfl rfl (y_neqI rfl rfl rfl (decide_eq_false d96) ⟨rfl, rfl⟩) ?_
   refine wl_v (.bool false) rfl rfl (y_mov rfl rfl ⟨rfl, rfl⟩) ?_
   refine wl_vw (.int .i64 (p)) 3 false 18 rfl rfl rfl rfl rfl (y_mov rfl s88 ⟨rfl, rfl⟩) ?_
   refine wl_vw (.bool true) 3 false 18 rfl rfl rfl rfl rfl (y_lss rfl rfl rfl (decide_eq_true d133) ⟨rfl, rfl⟩) ?_
   refine wl_v (.bool true) rfl rfl (y_pickF rfl rfl rfl ⟨rfl, rfl⟩) ?_
   refine wl_v (.bool true) rfl rfl (y_mov rfl rfl ⟨rfl, rfl⟩) ?_
   refine wl_unless 7 false 22 rfl rfl rfl (Or.inl rfl) rfl ?_
   refine wl_unless 7 false 22 rfl rfl rfl (Or.inl rfl) rfl ?_
   refine wl_v (.bool true) rfl rfl (y_pickT rfl rfl rfl ⟨rfl, rfl⟩) ?_
   refine wl_v (.bool true) rfl rfl (y_mov rfl rfl ⟨rfl, rfl⟩) ?_
   refine wl_unless 11 false 26 rfl rfl rfl (Or.inl rfl) rfl ?_
   refine wl_unless 11 false 26 rfl rfl rfl (Or.inl rfl) rfl ?_
   refine wl_v (.bool true) rfl rfl (y_pickT rfl rfl rfl ⟨rfl, rfl⟩) ?_
   refine wl_v (.bool true) rfl rfl (y_mov rfl rfl ⟨rfl, rfl⟩) ?_
   refine wl_unless 15 false 30 rfl rfl rfl (Or.inl rfl) rfl ?_
   refine wl_unless 15 false 30 rfl rfl rfl (Or.inl rfl) rfl ?_
   refine wl_v (.bool true) rfl rfl (y_pickT rfl rfl rfl ⟨rfl, rfl⟩) ?_
   refine wl_v (.bool true) rfl rfl (y_mov rfl rfl ⟨rfl, rfl⟩) ?_
   refine wl_unless 19 false 34 rfl rfl rfl (Or.inl rfl) rfl ?_
   refine wl_unless 19 false 34 rfl rfl rfl (Or.inl rfl) rfl ?_
   refine wl_v (.bool true) rfl rfl (y_pickT rfl rfl rfl ⟨rfl, rfl⟩) ?_
   refine wl_v (.bool true) rfl rfl (y_mov rfl rfl ⟨rfl, rfl⟩) ?_
   refine wl_unless 23 false 38 rfl rfl rfl (Or.inl rfl) rfl ?_
   refine wl_unless 23 false 38 rfl rfl rfl (Or.inl rfl) rfl ?_
   refine wl_v (.bool true) rfl rfl (y_pickT rfl rfl rfl ⟨rfl, rfl⟩) ?_
   refine wl_nil fun F144 hF145 => ?_
   have s149 := (hF145 73).trans s91
   have s152 := (hF145 10).trans s94
   have s153 := (hF145 12).trans s95
   have s154 : F144 41 = .bool true := (hF145 41).trans rfl
   clear hF145
   refine then_normal ?_
   refine wq_cond (t := true) s154 (fun _ => ?_) (fun e => by cases e)
   refine wq_seq ?_
   have hno : ¬ placeF f p x y := by rintro ⟨h1, h2, h3, h4, h5, h6, h7⟩; first | exact absurd ((checkE_iff f).2 h1) (by assumption) | omega
   refine wq_region ?_
   refine wl_v (blkV (fun _ => 0)) rfl rfl (y_load_blk blkT_arr rfl s153 B142 ⟨rfl, rfl⟩) ?_
   refine wl_store_blk blkT_arr rfl rfl rfl s152 rfl B141 fun w155 B156 k157 => ?_
   have K164 := K143.trans k157 (Grew.ok (S := fun _ => False) gr35 noB_le)
   refine wl_v (.int .i64 (70)) rfl rfl (y_asg rfl rfl ⟨rfl, rfl⟩) ?_
   refine wl_nil fun F165 hF166 => ?_
   have s167 := (hF166 73).trans s149
   have s168 := (hF166 10).trans s152
   have s169 : F165 11 = .int .i64 (70) := (hF166 11).trans rfl
   clear hF166
   refine then_normal ?_
   refine wq_ret ?_
   refine then_ret ?_
   exact end_2 s167 rfl (res_blk blkT_arr rfl s168 B156) (res_tmp (v := .int .i64 (70)) rfl s169) ⟨(by first | rw [(mv_no hno).1, (mv_no hno).2] | rw [(mv_none hpl hvn).1, (mv_none hpl hvn).2] | rw [(mv_yes hpl hv).1, (mv_yes hpl hv).2]), K164⟩
  ·skip
   by_cases d170 : (2) < (p)
   ·skip
    refine wq_region ?_
    refine wl_v (.agg #[.int .i64 ((f).W), .int .i64 ((f).H), f0, f1, f2]) rfl rfl (y_load_stc stcT_frame rfl s92 B82 ⟨rfl, rfl⟩) ?_
    refine wl_call (R := fun v_ w_ => v_ = .int .i64 (checkE (f)) ∧ Kept (fun _ => False) w76 w_) rfl rfl (y_cs rfl rfl rfl (fun _ _ => by kernel_rfl) (ev_func _) (vsC rfl vsN) (fref_check (f) (f0) (f1) (f2) (T_f0) (T_f1) (T_f2) _  B79 B80 B81 ) (fun e_ w_ h_ => ⟨_, h_.1, rfl, h_.2⟩)) ?_
    rintro _ w171 ⟨rfl, k172⟩
    have B178 := B84.all k172 id
    have B179 := B77.all k172 id
    have K180 := K85.trans k172 (fun _ _ x => x.elim)
    refine wl_v (.bool false) rfl rfl (y_neqI rfl rfl rfl (decide_eq_false d96) ⟨rfl, rfl⟩) ?_
    refine wl_v (.bool false) rfl rfl (y_mov rfl rfl ⟨rfl, rfl⟩) ?_
    refine wl_vw (.int .i64 (p)) 3 false 18 rfl rfl rfl rfl rfl (y_mov rfl s88 ⟨rfl, rfl⟩) ?_
    refine wl_vw (.bool false) 3 false 18 rfl rfl rfl rfl rfl (y_lss rfl rfl rfl (decide_eq_false d133) ⟨rfl, rfl⟩) ?_
    refine wl_v (.bool false) rfl rfl (y_pickF rfl rfl rfl ⟨rfl, rfl⟩) ?_
    refine wl_v (.bool false) rfl rfl (y_mov rfl rfl ⟨rfl, rfl⟩) ?_
    refine wl_vw (.int .i64 (p)) 7 false 22 rfl rfl rfl rfl rfl (y_mov rfl s88 ⟨rfl, rfl⟩) ?_
    refine wl_vw (.bool true) 7 false 22 rfl rfl rfl rfl rfl (y_gtr rfl rfl rfl (decide_eq_true d170) ⟨rfl, rfl⟩) ?_
    refine wl_v (.bool true) rfl rfl (y_pickF rfl rfl rfl ⟨rfl, rfl⟩) ?_
    refine wl_v (.bool true) rfl rfl (y_mov rfl rfl ⟨rfl, rfl⟩) ?_
    refine wl_unless 11 false 26 rfl rfl rfl (Or.inl rfl) rfl ?_
    refine wl_unless 11 false 26 rfl rfl rfl (Or.inl rfl) rfl ?_
    refine wl_v (.bool true) rfl rfl (y_pickT rfl rfl rfl ⟨rfl, rfl⟩) ?_
    refine wl_v (.bool true) rfl rfl (y_mov rfl rfl ⟨rfl, rfl⟩) ?_
    refine wl_unless 15 false 30 rfl rfl rfl (Or.inl rfl) rfl ?_
    refine wl_unless 15 false 30 rfl rfl rfl (Or.inl rfl) rfl ?_
    refine wl_v (.bool true) rfl rfl (y_pickT rfl rfl rfl ⟨rfl, rfl⟩) ?_
    refine wl_v (.bool true) rfl rfl (y_mov rfl rfl ⟨rfl, rfl⟩) ?_
    refine wl_unless 19 false 34 rfl rfl rfl (Or.inl rfl) rfl ?_
    refine wl_unless 19 false 34 rfl rfl rfl (Or.inl rfl) rfl ?_
    refine wl_v (.bool true) rfl rfl (y_pickT rfl rfl rfl ⟨rfl, rfl⟩) ?_
    refine wl_v (.bool true) rfl rfl (y_mov rfl rfl ⟨rfl, rfl⟩) ?_
    refine wl_unless 23 false 38 rfl rfl rfl (Or.inl rfl) rfl ?_
    refine wl_unless 23 false 38 rfl rfl rfl (Or.inl rfl) rfl ?_
    refine wl_v (.bool true) rfl rfl (y_pickT rfl rfl rfl ⟨rfl, rfl⟩) ?_
    refine wl_nil fun F181 hF182 => ?_
    have s186 := (hF182 73).trans s91
    have s189 := (hF182 10).trans s94
    have s190 := (hF182 12).trans s95
    have s191 : F181 41 = .bool true := (hF182 41).trans rfl
    clear hF182
    refine then_normal ?_
    refine wq_cond (t := true) s191 (fun _ => ?_) (fun e => by cases e)
    refine wq_seq ?_
    have hno : ¬ placeF f p x y := by rintro ⟨h1, h2, h3, h4, h5, h6, h7⟩; first | exact absurd ((checkE_iff f).2 h1) (by assumption) | omega
    refine wq_region ?_
    refine wl_v (blkV (fun _ => 0)) rfl rfl (y_load_blk blkT_arr rfl s190 B179 ⟨rfl, rfl⟩) ?_
    refine wl_store_blk blkT_arr rfl rfl rfl s189 rfl B178 fun w192 B193 k194 => ?_
    have K201 := K180.trans k194 (Grew.ok (S := fun _ => False) gr35 noB_le)
    refine wl_v (.int .i64 (70)) rfl rfl (y_asg rfl rfl ⟨rfl, rfl⟩) ?_
    refine wl_nil fun F202 hF203 => ?_
    have s204 := (hF203 73).trans s186
    have s205 := (hF203 10).trans s189
    have s206 : F202 11 = .int .i64 (70) := (hF203 11).trans rfl
    clear hF203
    refine then_normal ?_
    refine wq_ret ?_
    refine then_ret ?_
    exact end_2 s204 rfl (res_blk blkT_arr rfl s205 B193) (res_tmp (v := .int .i64 (70)) rfl s206) ⟨(by first | rw [(mv_no hno).1, (mv_no hno).2] | rw [(mv_none hpl hvn).1, (mv_none hpl hvn).2] | rw [(mv_yes hpl hv).1, (mv_yes hpl hv).2]), K201⟩
   ·skip
    by_cases d207 : (x) < (0)
    ·skip
     refine wq_region ?_
     refine wl_v (.agg #[.int .i64 ((f).W), .int .i64 ((f).H), f0, f1, f2]) rfl rfl (y_load_stc stcT_frame rfl s92 B82 ⟨rfl, rfl⟩) ?_
     refine wl_call (R := fun v_ w_ => v_ = .int .i64 (checkE (f)) ∧ Kept (fun _ => False) w76 w_) rfl rfl (y_cs rfl rfl rfl (fun _ _ => by kernel_rfl) (ev_func _) (vsC rfl vsN) (fref_check (f) (f0) (f1) (f2) (T_f0) (T_f1) (T_f2) _  B79 B80 B81 ) (fun e_ w_ h_ => ⟨_, h_.1, rfl, h_.2⟩)) ?_
     rintro _ w208 ⟨rfl, k209⟩
     have B215 := B84.all k209 id
     have B216 := B77.all k209 id
     have K217 := K85.trans k209 (fun _ _ x => x.elim)
     refine wl_v (.bool false) rfl rfl (y_neqI rfl rfl rfl (decide_eq_false d96) ⟨rfl, rfl⟩) ?_
     refine wl_v (.bool false) rfl rfl (y_mov rfl rfl ⟨rfl, rfl⟩) ?_
     refine wl_vw (.int .i64 (p)) 3 false 18 rfl rfl rfl rfl rfl (y_mov rfl s88 ⟨rfl, rfl⟩) ?_
     refine wl_vw (.bool false) 3 false 18 rfl rfl rfl rfl rfl (y_lss rfl rfl rfl (decide_eq_false d133) ⟨rfl, rfl⟩) ?_
     refine wl_v (.bool false) rfl rfl (y_pickF rfl rfl rfl ⟨rfl, rfl⟩) ?_
     refine wl_v (.bool false) rfl rfl (y_mov rfl rfl ⟨rfl, rfl⟩) ?_
     refine wl_vw (.int .i64 (p)) 7 false 22 rfl rfl rfl rfl rfl (y_mov rfl s88 ⟨rfl, rfl⟩) ?_
     refine wl_vw (.bool false) 7 false 22 rfl rfl rfl rfl rfl (y_gtr rfl rfl rfl (decide_eq_false d170) ⟨rfl, rfl⟩) ?_
     refine wl_v (.bool false) rfl rfl (y_pickF rfl rfl rfl ⟨rfl, rfl⟩) ?_
     refine wl_v (.bool false) rfl rfl (y_mov rfl rfl ⟨rfl, rfl⟩) ?_
     refine wl_vw (.int .i64 (x)) 11 false 26 rfl rfl rfl rfl rfl (y_mov rfl s89 ⟨rfl, rfl⟩) ?_
     refine wl_vw (.bool true) 11 false 26 rfl rfl rfl rfl rfl (y_lss rfl rfl rfl (decide_eq_true d207) ⟨rfl, rfl⟩) ?_
     refine wl_v (.bool true) rfl rfl (y_pickF rfl rfl rfl ⟨rfl, rfl⟩) ?_
     refine wl_v (.bool true) rfl rfl (y_mov rfl rfl ⟨rfl, rfl⟩) ?_
     refine wl_unless 15 false 30 rfl rfl rfl (Or.inl rfl) rfl ?_
     refine wl_unless 15 false 30 rfl rfl rfl (Or.inl rfl) rfl ?_
     refine wl_v (.bool true) rfl rfl (y_pickT rfl rfl rfl ⟨rfl, rfl⟩) ?_
     refine wl_v (.bool true) rfl rfl (y_mov rfl rfl ⟨rfl, rfl⟩) ?_
     refine wl_unless 19 false 34 rfl rfl rfl (Or.inl rfl) rfl ?_
     refine wl_unless 19 false 34 rfl rfl rfl (Or.inl rfl) rfl ?_
     refine wl_v (.bool true) rfl rfl (y_pickT rfl rfl rfl ⟨rfl, rfl⟩) ?_
     refine wl_v (.bool true) rfl rfl (y_mov rfl rfl ⟨rfl, rfl⟩) ?_
     refine wl_unless 23 false 38 rfl rfl rfl (Or.inl rfl) rfl ?_
     refine wl_unless 23 false 38 rfl rfl rfl (Or.inl rfl) rfl ?_
     refine wl_v (.bool true) rfl rfl (y_pickT rfl rfl rfl ⟨rfl, rfl⟩) ?_
     refine wl_nil fun F218 hF219 => ?_
     have s223 := (hF219 73).trans s91
     have s226 := (hF219 10).trans s94
     have s227 := (hF219 12).trans s95
     have s228 : F218 41 = .bool true := (hF219 41).trans rfl
     clear hF219
     refine then_normal ?_
     refine wq_cond (t := true) s228 (fun _ => ?_) (fun e => by cases e)
     refine wq_seq ?_
     have hno : ¬ placeF f p x y := by rintro ⟨h1, h2, h3, h4, h5, h6, h7⟩; first | exact absurd ((checkE_iff f).2 h1) (by assumption) | omega
     refine wq_region ?_
     refine wl_v (blkV (fun _ => 0)) rfl rfl (y_load_blk blkT_arr rfl s227 B216 ⟨rfl, rfl⟩) ?_
     refine wl_store_blk blkT_arr rfl rfl rfl s226 rfl B215 fun w229 B230 k231 => ?_
     have K238 := K217.trans k231 (Grew.ok (S := fun _ => False) gr35 noB_le)
     refine wl_v (.int .i64 (70)) rfl rfl (y_asg rfl rfl ⟨rfl, rfl⟩) ?_
     refine wl_nil fun F239 hF240 => ?_
     have s241 := (hF240 73).trans s223
     have s242 := (hF240 10).trans s226
     have s243 : F239 11 = .int .i64 (70) := (hF240 11).trans rfl
     clear hF240
     refine then_normal ?_
     refine wq_ret ?_
     refine then_ret ?_
     exact end_2 s241 rfl (res_blk blkT_arr rfl s242 B230) (res_tmp (v := .int .i64 (70)) rfl s243) ⟨(by first | rw [(mv_no hno).1, (mv_no hno).2] | rw [(mv_none hpl hvn).1, (mv_none hpl hvn).2] | rw [(mv_yes hpl hv).1, (mv_yes hpl hv).2]), K238⟩
    ·skip
     by_cases d244 : (64) < (x)
     ·skip
      refine wq_region ?_
      refine wl_v (.agg #[.int .i64 ((f).W), .int .i64 ((f).H), f0, f1, f2]) rfl rfl (y_load_stc stcT_frame rfl s92 B82 ⟨rfl, rfl⟩) ?_
      refine wl_call (R := fun v_ w_ => v_ = .int .i64 (checkE (f)) ∧ Kept (fun _ => False) w76 w_) rfl rfl (y_cs rfl rfl rfl (fun _ _ => by kernel_rfl) (ev_func _) (vsC rfl vsN) (fref_check (f) (f0) (f1) (f2) (T_f0) (T_f1) (T_f2) _  B79 B80 B81 ) (fun e_ w_ h_ => ⟨_, h_.1, rfl, h_.2⟩)) ?_
      rintro _ w245 ⟨rfl, k246⟩
      have B252 := B84.all k246 id
      have B253 := B77.all k246 id
      have K254 := K85.trans k246 (fun _ _ x => x.elim)
      refine wl_v (.bool false) rfl rfl (y_neqI rfl rfl rfl (decide_eq_false d96) ⟨rfl, rfl⟩) ?_
      refine wl_v (.bool false) rfl rfl (y_mov rfl rfl ⟨rfl, rfl⟩) ?_
      refine wl_vw (.int .i64 (p)) 3 false 18 rfl rfl rfl rfl rfl (y_mov rfl s88 ⟨rfl, rfl⟩) ?_
      refine wl_vw (.bool false) 3 false 18 rfl rfl rfl rfl rfl (y_lss rfl rfl rfl (decide_eq_false d133) ⟨rfl, rfl⟩) ?_
      refine wl_v (.bool false) rfl rfl (y_pickF rfl rfl rfl ⟨rfl, rfl⟩) ?_
      refine wl_v (.bool false) rfl rfl (y_mov rfl rfl ⟨rfl, rfl⟩) ?_
      refine wl_vw (.int .i64 (p)) 7 false 22 rfl rfl rfl rfl rfl (y_mov rfl s88 ⟨rfl, rfl⟩) ?_
      refine wl_vw (.bool false) 7 false 22 rfl rfl rfl rfl rfl (y_gtr rfl rfl rfl (decide_eq_false d170) ⟨rfl, rfl⟩) ?_
      refine wl_v (.bool false) rfl rfl (y_pickF rfl rfl rfl ⟨rfl, rfl⟩) ?_
      refine wl_v (.bool false) rfl rfl (y_mov rfl rfl ⟨rfl, rfl⟩) ?_
      refine wl_vw (.int .i64 (x)) 11 false 26 rfl rfl rfl rfl rfl (y_mov rfl s89 ⟨rfl, rfl⟩) ?_
      refine wl_vw (.bool false) 11 false 26 rfl rfl rfl rfl rfl (y_lss rfl rfl rfl (decide_eq_false d207) ⟨rfl, rfl⟩) ?_
      refine wl_v (.bool false) rfl rfl (y_pickF rfl rfl rfl ⟨rfl, rfl⟩) ?_
      refine wl_v (.bool false) rfl rfl (y_mov rfl rfl ⟨rfl, rfl⟩) ?_
      refine wl_vw (.int .i64 (x)) 15 false 30 rfl rfl rfl rfl rfl (y_mov rfl s89 ⟨rfl, rfl⟩) ?_
      refine wl_vw (.bool true) 15 false 30 rfl rfl rfl rfl rfl (y_gtr rfl rfl rfl (decide_eq_true d244) ⟨rfl, rfl⟩) ?_
      refine wl_v (.bool true) rfl rfl (y_pickF rfl rfl rfl ⟨rfl, rfl⟩) ?_
      refine wl_v (.bool true) rfl rfl (y_mov rfl rfl ⟨rfl, rfl⟩) ?_
      refine wl_unless 19 false 34 rfl rfl rfl (Or.inl rfl) rfl ?_
      refine wl_unless 19 false 34 rfl rfl rfl (Or.inl rfl) rfl ?_
      refine wl_v (.bool true) rfl rfl (y_pickT rfl rfl rfl ⟨rfl, rfl⟩) ?_
      refine wl_v (.bool true) rfl rfl (y_mov rfl rfl ⟨rfl, rfl⟩) ?_
      refine wl_unless 23 false 38 rfl rfl rfl (Or.inl rfl) rfl ?_
      refine wl_unless 23 false 38 rfl rfl rfl (Or.inl rfl) rfl ?_
      refine wl_v (.bool true) rfl rfl (y_pickT rfl rfl rfl ⟨rfl, rfl⟩) ?_
      refine wl_nil fun F255 hF256 => ?_
      have s260 := (hF256 73).trans s91
      have s263 := (hF256 10).trans s94
      have s264 := (hF256 12).trans s95
      have s265 : F255 41 = .bool true := (hF256 41).trans rfl
      clear hF256
      refine then_normal ?_
      refine wq_cond (t := true) s265 (fun _ => ?_) (fun e => by cases e)
      refine wq_seq ?_
      have hno : ¬ placeF f p x y := by rintro ⟨h1, h2, h3, h4, h5, h6, h7⟩; first | exact absurd ((checkE_iff f).2 h1) (by assumption) | omega
      refine wq_region ?_
      refine wl_v (blkV (fun _ => 0)) rfl rfl (y_load_blk blkT_arr rfl s264 B253 ⟨rfl, rfl⟩) ?_
      refine wl_store_blk blkT_arr rfl rfl rfl s263 rfl B252 fun w266 B267 k268 => ?_
      have K275 := K254.trans k268 (Grew.ok (S := fun _ => False) gr35 noB_le)
      refine wl_v (.int .i64 (70)) rfl rfl (y_asg rfl rfl ⟨rfl, rfl⟩) ?_
      refine wl_nil fun F276 hF277 => ?_
      have s278 := (hF277 73).trans s260
      have s279 := (hF277 10).trans s263
      have s280 : F276 11 = .int .i64 (70) := (hF277 11).trans rfl
      clear hF277
      refine then_normal ?_
      refine wq_ret ?_
      refine then_ret ?_
      exact end_2 s278 rfl (res_blk blkT_arr rfl s279 B267) (res_tmp (v := .int .i64 (70)) rfl s280) ⟨(by first | rw [(mv_no hno).1, (mv_no hno).2] | rw [(mv_none hpl hvn).1, (mv_none hpl hvn).2] | rw [(mv_yes hpl hv).1, (mv_yes hpl hv).2]), K275⟩
     ·skip
      by_cases d281 : (y) < (0)
      ·skip
       refine wq_region ?_
       refine wl_v (.agg #[.int .i64 ((f).W), .int .i64 ((f).H), f0, f1, f2]) rfl rfl (y_load_stc stcT_frame rfl s92 B82 ⟨rfl, rfl⟩) ?_
       refine wl_call (R := fun v_ w_ => v_ = .int .i64 (checkE (f)) ∧ Kept (fun _ => False) w76 w_) rfl rfl (y_cs rfl rfl rfl (fun _ _ => by kernel_rfl) (ev_func _) (vsC rfl vsN) (fref_check (f) (f0) (f1) (f2) (T_f0) (T_f1) (T_f2) _  B79 B80 B81 ) (fun e_ w_ h_ => ⟨_, h_.1, rfl, h_.2⟩)) ?_
       rintro _ w282 ⟨rfl, k283⟩
       have B289 := B84.all k283 id
       have B290 := B77.all k283 id
       have K291 := K85.trans k283 (fun _ _ x => x.elim)
       refine wl_v (.bool false) rfl rfl (y_neqI rfl rfl rfl (decide_eq_false d96) ⟨rfl, rfl⟩) ?_
       refine wl_v (.bool false) rfl rfl (y_mov rfl rfl ⟨rfl, rfl⟩) ?_
       refine wl_vw (.int .i64 (p)) 3 false 18 rfl rfl rfl rfl rfl (y_mov rfl s88 ⟨rfl, rfl⟩) ?_
       refine wl_vw (.bool false) 3 false 18 rfl rfl rfl rfl rfl (y_lss rfl rfl rfl (decide_eq_false d133) ⟨rfl, rfl⟩) ?_
       refine wl_v (.bool false) rfl rfl (y_pickF rfl rfl rfl ⟨rfl, rfl⟩) ?_
       refine wl_v (.bool false) rfl rfl (y_mov rfl rfl ⟨rfl, rfl⟩) ?_
       refine wl_vw (.int .i64 (p)) 7 false 22 rfl rfl rfl rfl rfl (y_mov rfl s88 ⟨rfl, rfl⟩) ?_
       refine wl_vw (.bool false) 7 false 22 rfl rfl rfl rfl rfl (y_gtr rfl rfl rfl (decide_eq_false d170) ⟨rfl, rfl⟩) ?_
       refine wl_v (.bool false) rfl rfl (y_pickF rfl rfl rfl ⟨rfl, rfl⟩) ?_
       refine wl_v (.bool false) rfl rfl (y_mov rfl rfl ⟨rfl, rfl⟩) ?_
       refine wl_vw (.int .i64 (x)) 11 false 26 rfl rfl rfl rfl rfl (y_mov rfl s89 ⟨rfl, rfl⟩) ?_
       refine wl_vw (.bool false) 11 false 26 rfl rfl rfl rfl rfl (y_lss rfl rfl rfl (decide_eq_false d207) ⟨rfl, rfl⟩) ?_
       refine wl_v (.bool false) rfl rfl (y_pickF rfl rfl rfl ⟨rfl, rfl⟩) ?_
       refine wl_v (.bool false) rfl rfl (y_mov rfl rfl ⟨rfl, rfl⟩) ?_
       refine wl_vw (.int .i64 (x)) 15 false 30 rfl rfl rfl rfl rfl (y_mov rfl s89 ⟨rfl, rfl⟩) ?_
       refine wl_vw (.bool false) 15 false 30 rfl rfl rfl rfl rfl (y_gtr rfl rfl rfl (decide_eq_false d244) ⟨rfl, rfl⟩) ?_
       refine wl_v (.bool false) rfl rfl (y_pickF rfl rfl rfl ⟨rfl, rfl⟩) ?_
       refine wl_v (.bool false) rfl rfl (y_mov rfl rfl ⟨rfl, rfl⟩) ?_
       refine wl_vw (.int .i64 (y)) 19 false 34 rfl rfl rfl rfl rfl (y_mov rfl s90 ⟨rfl, rfl⟩) ?_
       refine wl_vw (.bool true) 19 false 34 rfl rfl rfl rfl rfl (y_lss rfl rfl rfl (decide_eq_true d281) ⟨rfl, rfl⟩) ?_
       refine wl_v (.bool true) rfl rfl (y_pickF rfl rfl rfl ⟨rfl, rfl⟩) ?_
       refine wl_v (.bool true) rfl rfl (y_mov rfl rfl ⟨rfl, rfl⟩) ?_
       refine wl_unless 23 false 38 rfl rfl rfl (Or.inl rfl) rfl ?_
       refine wl_unless 23 false 38 rfl rfl rfl (Or.inl rfl) rfl ?_
       refine wl_v (.bool true) rfl rfl (y_pickT rfl rfl rfl ⟨rfl, rfl⟩) ?_
       refine wl_nil fun F292 hF293 => ?_
       have s297 := (hF293 73).trans s91
       have s300 := (hF293 10).trans s94
       have s301 := (hF293 12).trans s95
       have s302 : F292 41 = .bool true := (hF293 41).trans rfl
       clear hF293
       refine then_normal ?_
       refine wq_cond (t := true) s302 (fun _ => ?_) (fun e => by cases e)
       refine wq_seq ?_
       have hno : ¬ placeF f p x y := by rintro ⟨h1, h2, h3, h4, h5, h6, h7⟩; first | exact absurd ((checkE_iff f).2 h1) (by assumption) | omega
       refine wq_region ?_
       refine wl_v (blkV (fun _ => 0)) rfl rfl (y_load_blk blkT_arr rfl s301 B290 ⟨rfl, rfl⟩) ?_
       refine wl_store_blk blkT_arr rfl rfl rfl s300 rfl B289 fun w303 B304 k305 => ?_
       have K312 := K291.trans k305 (Grew.ok (S := fun _ => False) gr35 noB_le)
       refine wl_v (.int .i64 (70)) rfl rfl (y_asg rfl rfl ⟨rfl, rfl⟩) ?_
       refine wl_nil fun F313 hF314 => ?_
       have s315 := (hF314 73).trans s297
       have s316 := (hF314 10).trans s300
       have s317 : F313 11 = .int .i64 (70) := (hF314 11).trans rfl
       clear hF314
       refine then_normal ?_
       refine wq_ret ?_
       refine then_ret ?_
       exact end_2 s315 rfl (res_blk blkT_arr rfl s316 B304) (res_tmp (v := .int .i64 (70)) rfl s317) ⟨(by first | rw [(mv_no hno).1, (mv_no hno).2] | rw [(mv_none hpl hvn).1, (mv_none hpl hvn).2] | rw [(mv_yes hpl hv).1, (mv_yes hpl hv).2]), K312⟩
      ·skip
       refine wq_region ?_
       refine wl_v (.agg #[.int .i64 ((f).W), .int .i64 ((f).H), f0, f1, f2]) rfl rfl (y_load_stc stcT_frame rfl s92 B82 ⟨rfl, rfl⟩) ?_
       refine wl_call (R := fun v_ w_ => v_ = .int .i64 (checkE (f)) ∧ Kept (fun _ => False) w76 w_) rfl rfl (y_cs rfl rfl rfl (fun _ _ => by kernel_rfl) (ev_func _) (vsC rfl vsN) (fref_check (f) (f0) (f1) (f2) (T_f0) (T_f1) (T_f2) _  B79 B80 B81 ) (fun e_ w_ h_ => ⟨_, h_.1, rfl, h_.2⟩)) ?_
       rintro _ w318 ⟨rfl, k319⟩
       have B320 := B79.all k319 Apart.none
       have B321 := B80.all k319 Apart.none
       have B322 := B81.all k319 Apart.none
       have B323 := B82.all k319 id
       have B324 := B83.all k319 id
       have B325 := B84.all k319 id
       have B326 := B77.all k319 id
       have K327 := K85.trans k319 (fun _ _ x => x.elim)
       refine wl_v (.bool false) rfl rfl (y_neqI rfl rfl rfl (decide_eq_false d96) ⟨rfl, rfl⟩) ?_
       refine wl_v (.bool false) rfl rfl (y_mov rfl rfl ⟨rfl, rfl⟩) ?_
       refine wl_vw (.int .i64 (p)) 3 false 18 rfl rfl rfl rfl rfl (y_mov rfl s88 ⟨rfl, rfl⟩) ?_
       refine wl_vw (.bool false) 3 false 18 rfl rfl rfl rfl rfl (y_lss rfl rfl rfl (decide_eq_false d133) ⟨rfl, rfl⟩) ?_
       refine wl_v (.bool false) rfl rfl (y_pickF rfl rfl rfl ⟨rfl, rfl⟩) ?_
       refine wl_v (.bool false) rfl rfl (y_mov rfl rfl ⟨rfl, rfl⟩) ?_
       refine wl_vw (.int .i64 (p)) 7 false 22 rfl rfl rfl rfl rfl (y_mov rfl s88 ⟨rfl, rfl⟩) ?_
       refine wl_vw (.bool false) 7 false 22 rfl rfl rfl rfl rfl (y_gtr rfl rfl rfl (decide_eq_false d170) ⟨rfl, rfl⟩) ?_
       refine wl_v (.bool false) rfl rfl (y_pickF rfl rfl rfl ⟨rfl, rfl⟩) ?_
       refine wl_v (.bool false) rfl rfl (y_mov rfl rfl ⟨rfl, rfl⟩) ?_
       refine wl_vw (.int .i64 (x)) 11 false 26 rfl rfl rfl rfl rfl (y_mov rfl s89 ⟨rfl, rfl⟩) ?_
       refine wl_vw (.bool false) 11 false 26 rfl rfl rfl rfl rfl (y_lss rfl rfl rfl (decide_eq_false d207) ⟨rfl, rfl⟩) ?_
       refine wl_v (.bool false) rfl rfl (y_pickF rfl rfl rfl ⟨rfl, rfl⟩) ?_
       refine wl_v (.bool false) rfl rfl (y_mov rfl rfl ⟨rfl, rfl⟩) ?_
       refine wl_vw (.int .i64 (x)) 15 false 30 rfl rfl rfl rfl rfl (y_mov rfl s89 ⟨rfl, rfl⟩) ?_
       refine wl_vw (.bool false) 15 false 30 rfl rfl rfl rfl rfl (y_gtr rfl rfl rfl (decide_eq_false d244) ⟨rfl, rfl⟩) ?_
       refine wl_v (.bool false) rfl rfl (y_pickF rfl rfl rfl ⟨rfl, rfl⟩) ?_
       refine wl_v (.bool false) rfl rfl (y_mov rfl rfl ⟨rfl, rfl⟩) ?_
       refine wl_vw (.int .i64 (y)) 19 false 34 rfl rfl rfl rfl rfl (y_mov rfl s90 ⟨rfl, rfl⟩) ?_
       refine wl_vw (.bool false) 19 false 34 rfl rfl rfl rfl rfl (y_lss rfl rfl rfl (decide_eq_false d281) ⟨rfl, rfl⟩) ?_
       refine wl_v (.bool false) rfl rfl (y_pickF rfl rfl rfl ⟨rfl, rfl⟩) ?_
       refine wl_v (.bool false) rfl rfl (y_mov rfl rfl ⟨rfl, rfl⟩) ?_
       refine wl_vw (.int .i64 (y)) 23 false 38 rfl rfl rfl rfl rfl (y_mov rfl s90 ⟨rfl, rfl⟩) ?_
       refine wl_vw (.bool (decide ((64) < (y)))) 23 false 38 rfl rfl rfl rfl rfl (y_gtr rfl rfl rfl rfl ⟨rfl, rfl⟩) ?_
       refine wl_v (.bool (decide ((64) < (y)))) rfl rfl (y_pickF rfl rfl rfl ⟨rfl, rfl⟩) ?_
       refine wl_nil fun F328 hF329 => ?_
       have s330 := (hF329 1).trans s88
       have s331 := (hF329 2).trans s89
       have s332 := (hF329 3).trans s90
       have s333 := (hF329 73).trans s91
       have s334 := (hF329 5).trans s92
       have s335 := (hF329 9).trans s93
       have s336 := (hF329 10).trans s94
       have s337 := (hF329 12).trans s95
       have s338 : F328 41 = .bool (decide ((64) < (y))) := (hF329 41).trans rfl
       clear hF329
       refine then_normal ?_
       refine wq_cond s338 (fun c339 => ?_) (fun c339 => ?_)
       ·replace c339 := of_decide_eq_true c339
        refine wq_seq ?_
        have hno : ¬ placeF f p x y := by rintro ⟨h1, h2, h3, h4, h5, h6, h7⟩; first | exact absurd ((checkE_iff f).2 h1) (by assumption) | omega
        refine wq_region ?_
        refine wl_v (blkV (fun _ => 0)) rfl rfl (y_load_blk blkT_arr rfl s337 B326 ⟨rfl, rfl⟩) ?_
        refine wl_store_blk blkT_arr rfl rfl rfl s336 rfl B325 fun w340 B341 k342 => ?_
        have K349 := K327.trans k342 (Grew.ok (S := fun _ => False) gr35 noB_le)
        refine wl_v (.int .i64 (70)) rfl rfl (y_asg rfl rfl ⟨rfl, rfl⟩) ?_
        refine wl_nil fun F350 hF351 => ?_
        have s352 := (hF351 73).trans s333
        have s353 := (hF351 10).trans s336
        have s354 : F350 11 = .int .i64 (70) := (hF351 11).trans rfl
        clear hF351
        refine then_normal ?_
        refine wq_ret ?_
        refine then_ret ?_
        exact end_2 s352 rfl (res_blk blkT_arr rfl s353 B341) (res_tmp (v := .int .i64 (70)) rfl s354) ⟨(by first | rw [(mv_no hno).1, (mv_no hno).2] | rw [(mv_none hpl hvn).1, (mv_none hpl hvn).2] | rw [(mv_yes hpl hv).1, (mv_yes hpl hv).2]), K349⟩
       ·replace c339 := of_decide_eq_false c339
        refine wq_skip ?_
        refine then_normal ?_
        refine wq_seq ?_
        refine wq_seq ?_
        have hpl : placeF f p x y := ⟨(checkE_iff f).1 (by first | assumption | (apply Decidable.byContradiction; assumption)), by omega, by omega, by omega, by omega, by omega, by omega⟩
        refine wq_region ?_
        refine wl_v (.agg #[.int .i64 (X), .int .i64 (Y)]) rfl rfl (y_load_stc stcT_vector rfl s335 B324 ⟨rfl, rfl⟩) ?_
        refine wl_call (R := fun v_ w_ => v_ = .int .i64 (vecE (X) (Y)) ∧ Kept (fun _ => False) w318 w_) rfl rfl (y_cs rfl rfl rfl (fun _ _ => by kernel_rfl) (ev_func _) (vsC rfl vsN) (mref_check (X) (Y)  _   ) (fun e_ w_ h_ => ⟨_, h_.1, rfl, h_.2⟩)) ?_
        rintro _ w355 ⟨rfl, k356⟩
        have B357 := B320.all k356 Apart.none
        have B358 := B321.all k356 Apart.none
        have B359 := B322.all k356 Apart.none
        have B360 := B323.all k356 id
        have B361 := B324.all k356 id
        have B362 := B325.all k356 id
        have B363 := B326.all k356 id
        have K364 := K327.trans k356 (fun _ _ x => x.elim)
        refine wl_v (.bool (decide ((vecE (X) (Y)) ≠ (0)))) rfl rfl (y_neqI rfl rfl rfl rfl ⟨rfl, rfl⟩) ?_
        refine wl_nil fun F365 hF366 => ?_
        have s367 := (hF366 1).trans s330
        have s368 := (hF366 2).trans s331
        have s369 := (hF366 3).trans s332
        have s370 := (hF366 73).trans s333
        have s371 := (hF366 5).trans s334
        have s372 := (hF366 9).trans s335
        have s373 := (hF366 10).trans s336
        have s374 := (hF366 12).trans s337
        have s375 : F365 45 = .bool (decide ((vecE (X) (Y)) ≠ (0))) := (hF366 45).trans rfl
        clear hF366
        refine then_normal ?_
        refine wq_cond s375 (fun c376 => ?_) (fun c376 => ?_)
        ·replace c376 := of_decide_eq_true c376
         refine wq_seq ?_
         have hvn : ¬ vecOk X Y := fun h => absurd ((vecE_iff X Y).2 h) (by assumption)
         refine wq_region ?_
         refine wl_v (blkV (fun _ => 0)) rfl rfl (y_load_blk blkT_arr rfl s374 B363 ⟨rfl, rfl⟩) ?_
         refine wl_store_blk blkT_arr rfl rfl rfl s373 rfl B362 fun w377 B378 k379 => ?_
         have K386 := K364.trans k379 (Grew.ok (S := fun _ => False) gr35 noB_le)
         refine wl_v (.int .i64 (90)) rfl rfl (y_asg rfl rfl ⟨rfl, rfl⟩) ?_
         refine wl_nil fun F387 hF388 => ?_
         have s389 := (hF388 73).trans s370
         have s390 := (hF388 10).trans s373
         have s391 : F387 11 = .int .i64 (90) := (hF388 11).trans rfl
         clear hF388
         refine then_normal ?_
         refine wq_ret ?_
         refine then_ret ?_
         exact end_2 s389 rfl (res_blk blkT_arr rfl s390 B378) (res_tmp (v := .int .i64 (90)) rfl s391) ⟨(by first | rw [(mv_no hno).1, (mv_no hno).2] | rw [(mv_none hpl hvn).1, (mv_none hpl hvn).2] | rw [(mv_yes hpl hv).1, (mv_yes hpl hv).2]), K386⟩
        ·replace c376 := of_decide_eq_false c376
         refine wq_skip ?_
         refine then_normal ?_
         refine wq_seq ?_
         refine wq_seq ?_
         have hv : vecOk X Y := (vecE_iff X Y).1 (by first | assumption | (apply Decidable.byContradiction; assumption))
         obtain ⟨hv1, hv2, hv3, hv4⟩ := (show vecOk X Y from hv)
         refine wq_region ?_
         refine wl_v (.int .i64 (0)) rfl rfl (y_asg rfl rfl ⟨rfl, rfl⟩) ?_
         refine wl_nil fun F392 hF393 => ?_
         have s394 := (hF393 1).trans s367
         have s395 := (hF393 2).trans s368
         have s396 := (hF393 3).trans s369
         have s397 := (hF393 73).trans s370
         have s398 := (hF393 5).trans s371
         have s399 := (hF393 9).trans s372
         have s400 := (hF393 10).trans s373
         have s401 := (hF393 12).trans s374
         have s402 : F392 13 = .int .i64 (0) := (hF393 13).trans rfl
         clear hF393
         refine then_normal ?_
         refine wq_block ?_
         refine wq_loop (fun nn FF ww => ∃ (n : Nat), (n ≤ 16) ∧ nn = 16 - n ∧ FF 1 = .int .i64 (p) ∧ FF 2 = .int .i64 (x) ∧ FF 3 = .int .i64 (y) ∧ FF 5 = .pointer (some ⟨p1, 0, none⟩) ∧ FF 9 = .pointer (some ⟨p14, 0, none⟩) ∧ FF 10 = .pointer (some ⟨p29, 0, none⟩) ∧ FF 12 = .pointer (some ⟨p56, 0, none⟩) ∧ FF 73 = undef ∧ FF 13 = .int .i64 (((n : Nat) : Int)) ∧ Kept (fun _ => False) w0 ww ∧ Byt ww (T_f0) f0 ((f).p0) ∧ Byt ww (T_f1) f1 ((f).p1) ∧ Byt ww (T_f2) f2 ((f).p2) ∧ Stc ww p1 25 [.int .i64 ((f).W), .int .i64 ((f).H), f0, f1, f2] ∧ Stc ww p14 27 [.int .i64 (X), .int .i64 (Y)] ∧ Blk ww p29 28 (fun _ => 0) ∧ Blk ww p56 28 (upto n (fun _ => 0) (mvN f p x y X Y))) (16 - (0)) ⟨0, by omega, rfl, s394, s395, s396, s398, s399, s400, s401, s397, s402, K364, B357, B358, B359, B360, B361, B362, B363.first⟩ ?_
         rintro n406 F403 w404 ⟨n, i407, hn406, s408, s409, s410, s411, s412, s413, s414, s415, s416, K405, B417, B418, B419, B420, B421, B422, B423⟩
         refine wq_seq ?_
         refine wq_seq ?_
         refine wq_region ?_
         refine wl_v (.int .i64 (((n : Nat) : Int))) rfl rfl (y_mov rfl s416 ⟨rfl, rfl⟩) ?_
         refine wl_v (.bool (decide ((((n : Nat) : Int)) < (16)))) rfl rfl (y_lss rfl rfl rfl rfl ⟨rfl, rfl⟩) ?_
         refine wl_nil fun F424 hF425 => ?_
         have s426 := (hF425 1).trans s408
         have s427 := (hF425 2).trans s409
         have s428 := (hF425 3).trans s410
         have s429 := (hF425 5).trans s411
         have s430 := (hF425 9).trans s412
         have s431 := (hF425 10).trans s413
         have s432 := (hF425 12).trans s414
         have s433 := (hF425 73).trans s415
         have s434 := (hF425 13).trans s416
         have s435 : F424 48 = .bool (decide ((((n : Nat) : Int)) < (16))) := (hF425 48).trans rfl
         clear hF425
         refine then_normal ?_
         refine wq_cond s435 (fun c436 => ?_) (fun c436 => ?_)
         ·replace c436 := of_decide_eq_true c436
          refine wq_skip ?_
          refine then_normal ?_
          refine wq_seq ?_
          refine wq_block ?_
          refine wq_region ?_
          refine wl_v (.int .i64 (((n : Nat) : Int))) rfl rfl (y_mov rfl s434 ⟨rfl, rfl⟩) ?_
          refine wl_v (.agg #[.int .i64 ((f).W), .int .i64 ((f).H), f0, f1, f2]) rfl rfl (y_load_stc stcT_frame rfl s429 B420 ⟨rfl, rfl⟩) ?_
          refine wl_v (.int .i64 (p)) rfl rfl (y_mov rfl s426 ⟨rfl, rfl⟩) ?_
          refine wl_v (.int .i64 (x)) rfl rfl (y_mov rfl s427 ⟨rfl, rfl⟩) ?_
          refine wl_v (.int .i64 (((n : Nat) : Int))) rfl rfl (y_mov rfl s434 ⟨rfl, rfl⟩) ?_
          refine wl_v (.int .i64 ((((n % 4) : Nat) : Int))) rfl rfl (y_rem rfl rfl rfl (by first | decide | omega) (rem_nat n 4) ⟨rfl, rfl⟩) ?_
          refine wl_v (.int .i64 ((x) + ((((n % 4) : Nat) : Int)))) rfl rfl (y_add rfl rfl rfl (i64_i rfl (by omega)) ⟨rfl, rfl⟩) ?_
          refine wl_v (.int .i64 ((2) * ((x) + ((((n % 4) : Nat) : Int))))) rfl rfl (y_mul rfl rfl rfl (i64_i rfl (by omega)) ⟨rfl, rfl⟩) ?_
          refine wl_v (.pointer (some ⟨p14, 0, none⟩)) rfl rfl (y_fieldR (n := 1) rfl s430 Tryz.underlying27 rfl (by kernel_rfl) (by decide) rfl ⟨rfl, rfl⟩) ?_
          refine wl_v (.int .i64 (X)) rfl rfl (y_ld_stc rfl rfl Tryz.underlying3 B421 rfl rfl ⟨rfl, rfl⟩) ?_
          refine wl_v (.int .i64 (((2) * ((x) + ((((n % 4) : Nat) : Int)))) + (X))) rfl rfl (y_add rfl rfl rfl (i64_i rfl (by omega)) ⟨rfl, rfl⟩) ?_
          refine wl_v (.int .i64 (y)) rfl rfl (y_mov rfl s428 ⟨rfl, rfl⟩) ?_
          refine wl_v (.int .i64 (((n : Nat) : Int))) rfl rfl (y_mov rfl s434 ⟨rfl, rfl⟩) ?_
          refine wl_v (.int .i64 ((((n / 4) : Nat) : Int))) rfl rfl (y_quo rfl rfl rfl (by first | decide | omega) (i64_n (quo_nat n 4) (by omega)) ⟨rfl, rfl⟩) ?_
          refine wl_v (.int .i64 ((y) + ((((n / 4) : Nat) : Int)))) rfl rfl (y_add rfl rfl rfl (i64_i rfl (by omega)) ⟨rfl, rfl⟩) ?_
          refine wl_v (.int .i64 ((2) * ((y) + ((((n / 4) : Nat) : Int))))) rfl rfl (y_mul rfl rfl rfl (i64_i rfl (by omega)) ⟨rfl, rfl⟩) ?_
          refine wl_v (.pointer (some ⟨p14, 1, none⟩)) rfl rfl (y_fieldR (n := 1) rfl s430 Tryz.underlying27 rfl (by kernel_rfl) (by decide) rfl ⟨rfl, rfl⟩) ?_
          refine wl_v (.int .i64 (Y)) rfl rfl (y_ld_stc rfl rfl Tryz.underlying3 B421 rfl rfl ⟨rfl, rfl⟩) ?_
          refine wl_v (.int .i64 (((2) * ((y) + ((((n / 4) : Nat) : Int)))) + (Y))) rfl rfl (y_add rfl rfl rfl (i64_i rfl (by omega)) ⟨rfl, rfl⟩) ?_
          refine wl_call (R := fun v_ w_ => v_ = .int .i64 (smpF (f) (p) (((2) * ((x) + ((((n % 4) : Nat) : Int)))) + (X)) (((2) * ((y) + ((((n / 4) : Nat) : Int)))) + (Y))) ∧ Kept (fun _ => False) w404 w_) rfl rfl (y_cs rfl rfl rfl (fun _ _ => by kernel_rfl) (ev_func _) (vsC rfl (vsC rfl (vsC rfl (vsC rfl vsN)))) (mref_sample (p) (((2) * ((x) + ((((n % 4) : Nat) : Int)))) + (X)) (((2) * ((y) + ((((n / 4) : Nat) : Int)))) + (Y)) (f) (f0) (f1) (f2) (T_f0) (T_f1) (T_f2) _  B417 B418 B419 ) (fun e_ w_ h_ => ⟨_, h_.1, rfl, h_.2⟩)) ?_
          rintro _ w437 ⟨rfl, k438⟩
          have B439 := B417.all k438 Apart.none
          have B440 := B418.all k438 Apart.none
          have B441 := B419.all k438 Apart.none
          have B442 := B420.all k438 id
          have B443 := B421.all k438 id
          have B444 := B422.all k438 id
          have B445 := B423.all k438 id
          have K446 := K405.trans k438 (fun _ _ x => x.elim)
          refine wl_v (.pointer (some ⟨p56, n, none⟩)) rfl rfl (y_atR (n) (s := 1) rfl s432 rfl (by omega) Tryz.underlying28 (by omega) (by kernel_rfl) (by omega) ⟨rfl, rfl⟩) ?_
          refine wl_set_blk rfl rfl rfl rfl rfl B445 (by omega) (by kernel_rfl) fun w447 B448 k449 => ?_
          have B450 := B439.all k449 (fun i h x => (((ap63).symm) i h x))
          have B451 := B440.all k449 (fun i h x => (((ap64).symm) i h x))
          have B452 := B441.all k449 (fun i h x => (((ap65).symm) i h x))
          have B453 := B442.all k449 (fun x => (((ap66).symm) p1 rfl x))
          have B454 := B443.all k449 (fun x => (((ap67).symm) p14 rfl x))
          have B455 := B444.all k449 (fun x => (((ap68).symm) p29 rfl x))
          have K456 := K446.trans k449 (Grew.ok (S := fun _ => False) gr62 noB_le)
          refine wl_nil fun F457 hF458 => ?_
          have s459 := (hF458 1).trans s426
          have s460 := (hF458 2).trans s427
          have s461 := (hF458 3).trans s428
          have s462 := (hF458 5).trans s429
          have s463 := (hF458 9).trans s430
          have s464 := (hF458 10).trans s431
          have s465 := (hF458 12).trans s432
          have s466 := (hF458 73).trans s433
          have s467 := (hF458 13).trans s434
          clear hF458
          refine in_normal ?_
          refine then_normal ?_
          refine wq_region ?_
          refine wl_v (.int .i64 (((n : Nat) : Int))) rfl rfl (y_mov rfl s467 ⟨rfl, rfl⟩) ?_
          refine wl_v (.int .i64 (((n + 1 : Nat) : Int))) rfl rfl (y_add rfl rfl rfl (i64_n (by omega) (by omega)) ⟨rfl, rfl⟩) ?_
          refine wl_v (.int .i64 (((n + 1 : Nat) : Int))) rfl rfl (y_asg rfl rfl ⟨rfl, rfl⟩) ?_
          refine wl_nil fun F468 hF469 => ?_
          have s470 := (hF469 1).trans s459
          have s471 := (hF469 2).trans s460
          have s472 := (hF469 3).trans s461
          have s473 := (hF469 5).trans s462
          have s474 := (hF469 9).trans s463
          have s475 := (hF469 10).trans s464
          have s476 := (hF469 12).trans s465
          have s477 := (hF469 73).trans s466
          have s478 : F468 13 = .int .i64 (((n + 1 : Nat) : Int)) := (hF469 13).trans rfl
          clear hF469
          exact then_normal ⟨(16 - (n + 1)), by omega, n + 1, by omega, rfl, s470, s471, s472, s473, s474, s475, s476, s477, s478, K456, B450, B451, B452, B453, B454, B455, (B448.next rfl)⟩
         ·replace c436 := of_decide_eq_false c436
          refine wq_exit ?_
          refine then_exit ?_
          refine then_exit ?_
          have l479 : 16 = n := by omega
          subst l479
          have B480 : Blk w404 p56 28 (mvN f p x y X Y) := (B423.last)
          refine in_here ?_
          refine then_normal ?_
          refine wq_seq ?_
          refine wq_region ?_
          refine wl_v (blkV (mvN f p x y X Y)) rfl rfl (y_load_blk blkT_arr rfl s432 B480 ⟨rfl, rfl⟩) ?_
          refine wl_store_blk blkT_arr rfl rfl rfl s431 rfl B422 fun w481 B482 k483 => ?_
          have K490 := K405.trans k483 (Grew.ok (S := fun _ => False) gr35 noB_le)
          refine wl_v (.int .i64 (0)) rfl rfl (y_asg rfl rfl ⟨rfl, rfl⟩) ?_
          refine wl_nil fun F491 hF492 => ?_
          have s493 := (hF492 10).trans s431
          have s494 := (hF492 73).trans s433
          have s495 : F491 11 = .int .i64 (0) := (hF492 11).trans rfl
          clear hF492
          refine then_normal ?_
          refine wq_ret ?_
          exact end_2 s494 rfl (res_blk blkT_arr rfl s493 B482) (res_tmp (v := .int .i64 (0)) rfl s495) ⟨(by first | rw [(mv_no hno).1, (mv_no hno).2] | rw [(mv_none hpl hvn).1, (mv_none hpl hvn).2] | rw [(mv_yes hpl hv).1, (mv_yes hpl hv).2]), K490⟩

set_option maxHeartbeats 4000000 in
set_option maxRecDepth 100000 in
theorem mref_both (a b : Nat → Int) (w0 : World) :
  Calls Tryz.prog 22 #[blkV (a), blkV (b)] w0 fun e w' => e = .returned (blkV (bothB a b)) ∧ Kept (fun _ => False) w0 w' := by
 refine calls_wq (args := [blkV (a), blkV (b)]) 28 Tryz.func22 rfl rfl (Nat.le_of_ble_eq_true rfl) ?_
 have K0 := Kept.refl (fun _ => False) w0
 refine wq_seq ?_
 refine wq_region ?_
 refine wl_box_blk rfl rfl rfl rfl fun p1 w2 e5 B3 k4 => ?_
 have g6 := onB_new (Nat.le_of_eq e5.symm)
 clear e5 g6
 have K8 := K0.trans k4 (fun _ _ x => x.elim)
 refine wl_box_blk rfl rfl rfl rfl fun p9 w10 e13 B11 k12 => ?_
 have g14 := onB_new (Nat.le_of_eq e13.symm)
 clear e13 g14
 have B17 := B3.all k12 id
 have K18 := K8.trans k12 (fun _ _ x => x.elim)
 refine wl_alloc_blk rfl rfl rfl blkT_arr.2.2 fun p19 w20 e23 B21 k22 => ?_
 have g24 := onB_new (Nat.le_of_eq e23.symm)
 have gr25 : Grew w0 noB (onB p19) := Grew.new K18 g24
 clear e23 g24
 have B28 := B17.all k22 id
 have B29 := B11.all k22 id
 have K30 := K18.trans k22 (fun _ _ x => x.elim)
 refine wl_nil fun F31 hF32 => ?_
 have s33 : F31 28 = undef := (hF32 28).trans rfl
 have s34 : F31 2 = .pointer (some ⟨p1, 0, none⟩) := (hF32 2).trans rfl
 have s35 : F31 3 = .pointer (some ⟨p9, 0, none⟩) := (hF32 3).trans rfl
 have s36 : F31 4 = .pointer (some ⟨p19, 0, none⟩) := (hF32 4).trans rfl
 clear hF32
 refine then_normal ?_
 refine wq_seq ?_
 refine wq_region ?_
 refine wl_v (blkV (fun _ => 0)) rfl rfl (y_buildR (cells := (arrL 16 (fun _ => 0)).toArray) rfl (by kernel_rfl) rfl ⟨rfl, rfl⟩) ?_
 refine wl_alloc_blk rfl rfl rfl blkT_arr.2.2 fun p37 w38 e41 B39 k40 => ?_
 have g42 := onB_new (Nat.le_of_eq e41.symm)
 have gr43 : Grew w0 noB (onB p37) := Grew.new K30 g42
 have ap44 : Apart (onB p37) (onB p1) := Apart.new g42 (onB_live (B28).lt)
 have ap45 : Apart (onB p37) (onB p9) := Apart.new g42 (onB_live (B29).lt)
 have ap46 : Apart (onB p37) (onB p19) := Apart.new g42 (onB_live (B21).lt)
 clear e41 g42
 have B47 := B28.all k40 id
 have B48 := B29.all k40 id
 have B49 := B21.all k40 id
 have K50 := K30.trans k40 (fun _ _ x => x.elim)
 refine wl_store_blk blkT_arr rfl rfl rfl rfl rfl B39 fun w51 B52 k53 => ?_
 have B54 := B47.all k53 (fun x => (((ap44).symm) p1 rfl x))
 have B55 := B48.all k53 (fun x => (((ap45).symm) p9 rfl x))
 have B56 := B49.all k53 (fun x => (((ap46).symm) p19 rfl x))
 have K57 := K50.trans k53 (Grew.ok (S := fun _ => False) gr43 noB_le)
 refine wl_nil fun F58 hF59 => ?_
 have s60 := (hF59 28).trans s33
 have s61 := (hF59 2).trans s34
 have s62 := (hF59 3).trans s35
 have s63 := (hF59 4).trans s36
 have s64 : F58 5 = .pointer (some ⟨p37, 0, none⟩) := (hF59 5).trans rfl
 clear hF59
 refine then_normal ?_
 refine wq_seq ?_
 refine wq_seq ?_
 refine wq_region ?_
 refine wl_v (.int .i64 (0)) rfl rfl (y_asg rfl rfl ⟨rfl, rfl⟩) ?_
 refine wl_nil fun F65 hF66 => ?_
 have s67 := (hF66 28).trans s60
 have s68 := (hF66 2).trans s61
 have s69 := (hF66 3).trans s62
 have s70 := (hF66 4).trans s63
 have s71 := (hF66 5).trans s64
 have s72 : F65 6 = .int .i64 (0) := (hF66 6).trans rfl
 clear hF66
 refine then_normal ?_
 refine wq_block ?_
 refine wq_loop (fun nn FF ww => ∃ (i : Nat), (i ≤ 16) ∧ nn = 16 - i ∧ FF 2 = .pointer (some ⟨p1, 0, none⟩) ∧ FF 3 = .pointer (some ⟨p9, 0, none⟩) ∧ FF 4 = .pointer (some ⟨p19, 0, none⟩) ∧ FF 5 = .pointer (some ⟨p37, 0, none⟩) ∧ FF 28 = undef ∧ FF 6 = .int .i64 (((i : Nat) : Int)) ∧ Kept (fun _ => False) w0 ww ∧ Blk ww p1 28 (a) ∧ Blk ww p9 28 (b) ∧ Blk ww p19 28 (fun _ => 0) ∧ Blk ww p37 28 (upto i (fun _ => 0) (bothB a b))) (16 - (0)) ⟨0, by omega, rfl, s68, s69, s70, s71, s67, s72, K57, B54, B55, B56, B52.first⟩ ?_
 rintro n76 F73 w74 ⟨i, i77, hn76, s78, s79, s80, s81, s82, s83, K75, B84, B85, B86, B87⟩
 refine wq_seq ?_
 refine wq_seq ?_
 refine wq_region ?_
 refine wl_v (.int .i64 (((i : Nat) : Int))) rfl rfl (y_mov rfl s83 ⟨rfl, rfl⟩) ?_
 refine wl_v (.bool (decide ((((i : Nat) : Int)) < (16)))) rfl rfl (y_lss rfl rfl rfl rfl ⟨rfl, rfl⟩) ?_
 refine wl_nil fun F88 hF89 => ?_
 have s90 := (hF89 2).trans s78
 have s91 := (hF89 3).trans s79
 have s92 := (hF89 4).trans s80
 have s93 := (hF89 5).trans s81
 have s94 := (hF89 28).trans s82
 have s95 := (hF89 6).trans s83
 have s96 : F88 9 = .bool (decide ((((i : Nat) : Int)) < (16))) := (hF89 9).trans rfl
 clear hF89
 refine then_normal ?_
 refine wq_cond s96 (fun c97 => ?_) (fun c97 => ?_)
 ·replace c97 := of_decide_eq_true c97
  refine wq_skip ?_
  refine then_normal ?_
  refine wq_seq ?_
  refine wq_block ?_
  have h1 := c8_le (a i)
  have h2 := c8_le (b i)
  refine wq_tail 15 [some 12, some 13, some 14, some 15, some 16, some 17, some 18, some 19, some 20, some 21, some 22, some 23, some 24, some 25, some 26] [Pd.eq (.int .i64 (((i : Nat) : Int))), Pd.eq (.int .i64 (((i : Nat) : Int))), Pd.eq (.pointer (some ⟨p1, i, none⟩)), Pd.eq (.int .i64 ((a) (i))), Pd.eq (.int .i64 (max ((a) (i)) (0))), Pd.eq (.int .i64 (c8 (a i))), Pd.eq (.int .i64 (((i : Nat) : Int))), Pd.eq (.pointer (some ⟨p9, i, none⟩)), Pd.eq (.int .i64 ((b) (i))), Pd.eq (.int .i64 (max ((b) (i)) (0))), Pd.eq (.int .i64 (c8 (b i))), Pd.eq (.int .i64 ((c8 (a i)) + (c8 (b i)))), Pd.eq (.int .i64 (((c8 (a i)) + (c8 (b i))) + (1))), Pd.eq (.int .i64 (Int.tdiv (c8 (a i) + c8 (b i) + 1) 2)), Pd.eq (.pointer (some ⟨p37, i, none⟩))] (by kernel_rfl) (by kernel_rfl) (by kernel_rfl) ?_ ?_
  ·refine stepsF_cons ?_ ?_
   ·refine StepF.one rfl fun F_ w_ hR hout hD => ?_
    exact (y_mov rfl ((hout 6 rfl (by decide)).trans s95) ⟨rfl, Kept.refl _ _⟩)
   refine stepsF_cons ?_ ?_
   ·refine StepF.one rfl fun F_ w_ hR hout hD => ?_
    exact (y_mov rfl ((hout 6 rfl (by decide)).trans s95) ⟨rfl, Kept.refl _ _⟩)
   refine stepsF_cons ?_ ?_
   ·refine StepF.one rfl fun F_ w_ hR hout hD => ?_
    have g13 : F_ 13 = .int .i64 (((i : Nat) : Int)) := (hD.get 0 rfl rfl rfl)
    exact (y_atR (i) (s := 1) rfl ((hout 2 rfl (by decide)).trans s90) g13 (by omega) Tryz.underlying28 (by omega) (by kernel_rfl) (by omega) ⟨rfl, Kept.refl _ _⟩)
   refine stepsF_cons ?_ ?_
   ·refine StepF.one rfl fun F_ w_ hR hout hD => ?_
    have g14 : F_ 14 = .pointer (some ⟨p1, i, none⟩) := (hD.get 0 rfl rfl rfl)
    exact (y_ldR rfl g14 Tryz.underlying3 (((B84.all hR id)).cell (by omega)) ⟨rfl, Kept.refl _ _⟩)
   refine stepsF_cons ?_ ?_
   ·refine StepF.one rfl fun F_ w_ hR hout hD => ?_
    have g15 : F_ 15 = .int .i64 ((a) (i)) := (hD.get 0 rfl rfl rfl)
    exact (y_maxR rfl g15 rfl rfl ⟨rfl, Kept.refl _ _⟩)
   refine stepsF_cons ?_ ?_
   ·refine StepF.one rfl fun F_ w_ hR hout hD => ?_
    have g16 : F_ 16 = .int .i64 (max ((a) (i)) (0)) := (hD.get 0 rfl rfl rfl)
    exact (y_minR rfl g16 rfl (rfl) ⟨rfl, Kept.refl _ _⟩)
   refine stepsF_cons ?_ ?_
   ·refine StepF.one rfl fun F_ w_ hR hout hD => ?_
    exact (y_mov rfl ((hout 6 rfl (by decide)).trans s95) ⟨rfl, Kept.refl _ _⟩)
   refine stepsF_cons ?_ ?_
   ·refine StepF.one rfl fun F_ w_ hR hout hD => ?_
    have g18 : F_ 18 = .int .i64 (((i : Nat) : Int)) := (hD.get 0 rfl rfl rfl)
    exact (y_atR (i) (s := 1) rfl ((hout 3 rfl (by decide)).trans s91) g18 (by omega) Tryz.underlying28 (by omega) (by kernel_rfl) (by omega) ⟨rfl, Kept.refl _ _⟩)
   refine stepsF_cons ?_ ?_
   ·refine StepF.one rfl fun F_ w_ hR hout hD => ?_
    have g19 : F_ 19 = .pointer (some ⟨p9, i, none⟩) := (hD.get 0 rfl rfl rfl)
    exact (y_ldR rfl g19 Tryz.underlying3 (((B85.all hR id)).cell (by omega)) ⟨rfl, Kept.refl _ _⟩)
   refine stepsF_cons ?_ ?_
   ·refine StepF.one rfl fun F_ w_ hR hout hD => ?_
    have g20 : F_ 20 = .int .i64 ((b) (i)) := (hD.get 0 rfl rfl rfl)
    exact (y_maxR rfl g20 rfl rfl ⟨rfl, Kept.refl _ _⟩)
   refine stepsF_cons ?_ ?_
   ·refine StepF.one rfl fun F_ w_ hR hout hD => ?_
    have g21 : F_ 21 = .int .i64 (max ((b) (i)) (0)) := (hD.get 0 rfl rfl rfl)
    exact (y_minR rfl g21 rfl (rfl) ⟨rfl, Kept.refl _ _⟩)
   refine stepsF_cons ?_ ?_
   ·refine StepF.one rfl fun F_ w_ hR hout hD => ?_
    have g17 : F_ 17 = .int .i64 (c8 (a i)) := (hD.get 0 rfl rfl rfl)
    have g22 : F_ 22 = .int .i64 (c8 (b i)) := (hD.get 1 rfl rfl rfl)
    exact (y_add rfl g17 g22 (i64_i rfl (by omega)) ⟨rfl, Kept.refl _ _⟩)
   refine stepsF_cons ?_ ?_
   ·refine StepF.one rfl fun F_ w_ hR hout hD => ?_
    have g23 : F_ 23 = .int .i64 ((c8 (a i)) + (c8 (b i))) := (hD.get 0 rfl rfl rfl)
    exact (y_add rfl g23 rfl (i64_i rfl (by omega)) ⟨rfl, Kept.refl _ _⟩)
   refine stepsF_cons ?_ ?_
   ·refine StepF.one rfl fun F_ w_ hR hout hD => ?_
    have g24 : F_ 24 = .int .i64 (((c8 (a i)) + (c8 (b i))) + (1)) := (hD.get 0 rfl rfl rfl)
    exact (y_quo rfl g24 rfl (by first | decide | omega) (i64_i rfl (by rw [tdiv2 (by omega)]; omega)) ⟨rfl, Kept.refl _ _⟩)
   refine stepsF_cons ?_ ?_
   ·refine StepF.one rfl fun F_ w_ hR hout hD => ?_
    have g12 : F_ 12 = .int .i64 (((i : Nat) : Int)) := (hD.get 0 rfl rfl rfl)
    exact (y_atR (i) (s := 1) rfl ((hout 5 rfl (by decide)).trans s93) g12 (by omega) Tryz.underlying28 (by omega) (by kernel_rfl) (by omega) ⟨rfl, Kept.refl _ _⟩)
   exact stepsF_nil
  intro v98 F99 w100 k101 G102 hF103
  have B105 := B84.all k101 id
  have B106 := B85.all k101 id
  have B107 := B86.all k101 id
  have B108 := B87.all k101 id
  have K109 := K75.trans k101 (fun _ _ x => x.elim)
  have s110 := (hF103 2).trans s90
  have s111 := (hF103 3).trans s91
  have s112 := (hF103 4).trans s92
  have s113 := (hF103 5).trans s93
  have s114 := (hF103 28).trans s94
  have s115 := (hF103 6).trans s95
  have s116 : F99 25 = .int .i64 (Int.tdiv (c8 (a i) + c8 (b i) + 1) 2) := (hF103 25).trans (G102 13 (by decide))
  have s117 : F99 26 = .pointer (some ⟨p37, i, none⟩) := (hF103 26).trans (G102 14 (by decide))
  clear G102 hF103
  refine wl_set_blk rfl rfl rfl s117 s116 B108 (by omega) (by kernel_rfl) fun w118 B119 k120 => ?_
  have B121 := B105.all k120 (fun x => (((ap44).symm) p1 rfl x))
  have B122 := B106.all k120 (fun x => (((ap45).symm) p9 rfl x))
  have B123 := B107.all k120 (fun x => (((ap46).symm) p19 rfl x))
  have K124 := K109.trans k120 (Grew.ok (S := fun _ => False) gr43 noB_le)
  refine wl_nil fun F125 hF126 => ?_
  have s127 := (hF126 2).trans s110
  have s128 := (hF126 3).trans s111
  have s129 := (hF126 4).trans s112
  have s130 := (hF126 5).trans s113
  have s131 := (hF126 28).trans s114
  have s132 := (hF126 6).trans s115
  clear hF126
  refine in_normal ?_
  refine then_normal ?_
  refine wq_region ?_
  refine wl_v (.int .i64 (((i : Nat) : Int))) rfl rfl (y_mov rfl s132 ⟨rfl, rfl⟩) ?_
  refine wl_v (.int .i64 (((i + 1 : Nat) : Int))) rfl rfl (y_add rfl rfl rfl (i64_n (by omega) (by omega)) ⟨rfl, rfl⟩) ?_
  refine wl_v (.int .i64 (((i + 1 : Nat) : Int))) rfl rfl (y_asg rfl rfl ⟨rfl, rfl⟩) ?_
  refine wl_nil fun F133 hF134 => ?_
  have s135 := (hF134 2).trans s127
  have s136 := (hF134 3).trans s128
  have s137 := (hF134 4).trans s129
  have s138 := (hF134 5).trans s130
  have s139 := (hF134 28).trans s131
  have s140 : F133 6 = .int .i64 (((i + 1 : Nat) : Int)) := (hF134 6).trans rfl
  clear hF134
  exact then_normal ⟨(16 - (i + 1)), by omega, i + 1, by omega, rfl, s135, s136, s137, s138, s139, s140, K124, B121, B122, B123, (B119.next rfl)⟩
 ·replace c97 := of_decide_eq_false c97
  refine wq_exit ?_
  refine then_exit ?_
  refine then_exit ?_
  have l141 : 16 = i := by omega
  subst l141
  have B142 : Blk w74 p37 28 (bothB a b) := (B87.last)
  refine in_here ?_
  refine then_normal ?_
  refine wq_seq ?_
  refine wq_region ?_
  refine wl_v (blkV (bothB a b)) rfl rfl (y_load_blk blkT_arr rfl s93 B142 ⟨rfl, rfl⟩) ?_
  refine wl_store_blk blkT_arr rfl rfl rfl s92 rfl B86 fun w143 B144 k145 => ?_
  have K149 := K75.trans k145 (Grew.ok (S := fun _ => False) gr25 noB_le)
  refine wl_nil fun F150 hF151 => ?_
  have s152 := (hF151 4).trans s92
  have s153 := (hF151 28).trans s94
  clear hF151
  refine then_normal ?_
  refine wq_ret ?_
  exact end_blk blkT_arr s153 rfl rfl s152 B144 ⟨rfl, K149⟩

end Go.Proofs.YtdcbabgcbkdlhaaGreatDoor
set_option maxRecDepth 100000
namespace Go.Proofs.YtdcbabgcbkdlhaaGreatDoor

def nx (a : Int) (k : Nat) : Int := a - 2 + ((k % 5 : Nat) : Int)
def ny (c : Int) (k : Nat) : Int := c - 2 + ((k / 5 : Nat) : Int)
end Go.Proofs.YtdcbabgcbkdlhaaGreatDoor
set_option maxRecDepth 100000
namespace Go.Proofs.YtdcbabgcbkdlhaaGreatDoor
open Go.RowKit

/-- What is said of an operation: what it answers; that it turns the block of operation j; that it makes a block that holds zs until operation k, and us from then on; that it turns a block that was there. -/
inductive Pc where
  | eq (v : Value)
  | turn (j : Nat)
  | blk (t : TypeId) (zs : List Value) (k : Nat) (us : List Value)
  | told (p : Nat) (t : TypeId) (zs us : List Value)
def Pc.none : Pc := .eq undef
def isBlk : Pc → Bool
  | .blk _ _ _ _ => true
  | _ => false
def HoldC (n0 : Nat) (p : Pc) (L : Nat → Bool) (v : Value) (w : World) : Prop := match p with
  | .eq x => v = x
  | .turn _ => True
  | .told _ _ _ _ => True
  | .blk t zs k us => ∃ q, v = .pointer (some ⟨q, 0, none⟩) ∧ n0 ≤ q ∧ Stc w q t (if L k = true then us else zs)
/-- The blocks that were there and are turned: they are there, and none is another one. -/
def NotTold (p : Nat) : List Pc → Prop
  | [] => True
  | .told q _ _ _ :: r => p ≠ q ∧ NotTold p r
  | .eq _ :: r => NotTold p r
  | .turn _ :: r => NotTold p r
  | .blk _ _ _ _ :: r => NotTold p r
def Olds (S : Nat → Prop) (w0 : World) : List Pc → Prop
  | [] => True
  | .told p t zs _ :: r => (S p ∧ Stc w0 p t zs ∧ NotTold p r) ∧ Olds S w0 r
  | .eq _ :: r => Olds S w0 r
  | .turn _ :: r => Olds S w0 r
  | .blk _ _ _ _ :: r => Olds S w0 r
theorem NotTold.at {p : Nat} : ∀ {Gs : List Pc}, NotTold p Gs → ∀ i q t zs us, Gs.getD i Pc.none = .told q t zs us → p ≠ q := by
  intro Gs
  induction Gs with
  | nil => intro _ i q t zs us h; cases h
  | cons g r ih =>
    intro h i q t zs us e
    cases i with
    | zero =>
      have e : g = .told q t zs us := by simpa using e
      subst e; exact h.1
    | succ i =>
      have e : r.getD i Pc.none = .told q t zs us := by simpa using e
      cases g <;> first | exact ih h.2 i q t zs us e | exact ih h i q t zs us e
theorem Olds.at {S : Nat → Prop} {w0 : World} : ∀ {Gs : List Pc}, Olds S w0 Gs → ∀ i p t zs us, Gs.getD i Pc.none = .told p t zs us → S p ∧ Stc w0 p t zs := by
  intro Gs
  induction Gs with
  | nil => intro _ i q t zs us h; cases h
  | cons g r ih =>
    intro h i q t zs us e
    cases i with
    | zero =>
      have e : g = .told q t zs us := by simpa using e
      subst e; exact ⟨h.1.1, h.1.2.1⟩
    | succ i =>
      have e : r.getD i Pc.none = .told q t zs us := by simpa using e
      cases g <;> first | exact ih h.2 i q t zs us e | exact ih h i q t zs us e
theorem Olds.ne {S : Nat → Prop} {w0 : World} : ∀ {Gs : List Pc}, Olds S w0 Gs → ∀ i j p t zs us p' t' zs' us', i ≠ j → Gs.getD i Pc.none = .told p t zs us → Gs.getD j Pc.none = .told p' t' zs' us' → p ≠ p' := by
  intro Gs
  induction Gs with
  | nil => intro _ i j p t zs us p' t' zs' us' _ h; cases h
  | cons g r ih =>
    intro h i j p t zs us p' t' zs' us' hij e1 e2
    cases i with
    | zero =>
      have e1 : g = .told p t zs us := by simpa using e1
      subst e1
      cases j with
      | zero => exact absurd rfl hij
      | succ j => exact h.1.2.2.at j p' t' zs' us' (by simpa using e2)
    | succ i =>
      cases j with
      | zero =>
        have e2 : g = .told p' t' zs' us' := by simpa using e2
        subst e2
        exact fun e => h.1.2.2.at i p t zs us (by simpa using e1) e.symm
      | succ j =>
        have hr : Olds S w0 r := by cases g <;> first | exact h.2 | exact h
        exact ih hr i j p t zs us p' t' zs' us' (fun e => hij (by rw [e])) (by simpa using e1) (by simpa using e2)
structure JC (S : Nat → Prop) (w0 : World) (Gs : List Pc) (L : Nat → Bool) (v : Nat → Value) (w : World) : Prop where
  kept : Kept S w0 w
  olds : ∀ i p t zs us, Gs.getD i Pc.none = .told p t zs us → Stc w p t (if L i = true then us else zs)
  holds : ∀ i, L i = true → HoldC w0.heap.size (Gs.getD i Pc.none) L (v i) w
  apart : ∀ i j, i ≠ j → L i = true → L j = true → isBlk (Gs.getD i Pc.none) = true → isBlk (Gs.getD j Pc.none) = true → v i ≠ v j
  clos : ∀ k j, L k = true → Gs.getD k Pc.none = .turn j → L j = true
/-- Each block is turned by one operation, that waits for it. -/
def wfAt (os : List Oper) (D : List (Option Tmp)) (Gs : List Pc) (i : Nat) : Pc → Bool
  | .eq _ => true
  | .told _ _ _ _ => true
  | .turn j => (match Gs.getD j Pc.none with | .blk _ _ k _ => k == i | _ => false) && (match D.getD j none with | some _ => true | none => false) && (match os[i]? with | some o => waitsOn o j | none => false)
  | .blk _ _ k _ => match Gs.getD k Pc.none with | .turn j => j == i | _ => false
def wfC (os : List Oper) (D : List (Option Tmp)) (Gs : List Pc) : Bool := (List.range Gs.length).all fun i => wfAt os D Gs i (Gs.getD i Pc.none)
theorem wfC_at {os : List Oper} {D : List (Option Tmp)} {Gs : List Pc} (h : wfC os D Gs = true) (i : Nat) : wfAt os D Gs i (Gs.getD i Pc.none) = true := by
  by_cases hi : i < Gs.length
  · exact List.all_eq_true.1 h i (List.mem_range.2 hi)
  · have : Gs.getD i Pc.none = Pc.none := by simp [List.getD, List.getElem?_eq_none (show Gs.length ≤ i by omega)]
    rw [this]; rfl
theorem wf_blk {os : List Oper} {D : List (Option Tmp)} {Gs : List Pc} (h : wfC os D Gs = true) {i k : Nat} {t : TypeId} {zs us : List Value} (e : Gs.getD i Pc.none = .blk t zs k us) : Gs.getD k Pc.none = .turn i := by
  have := wfC_at h i
  rw [e] at this
  simp only [wfAt] at this
  split at this
  · rename_i j hj; rw [hj]; have : j = i := by simpa using this
    rw [this]
  · cases this

/-- What is told to operation i of those that it waits for. -/
def ToldC (n0 : Nat) (Gs : List Pc) (i : Nat) : Nat → Value → World → Prop := fun j v w => match Gs.getD j Pc.none with
  | .eq x => v = x
  | .turn _ => True
  | .told _ _ _ _ => True
  | .blk t zs k _ => k = i → ∃ q, v = .pointer (some ⟨q, 0, none⟩) ∧ n0 ≤ q ∧ Stc w q t zs
def LeftC (Gs : List Pc) (D : List (Option Tmp)) (i : Nat) (ρ : Operand → Value) (w : World) (v : Value) (w' : World) : Prop := match Gs.getD i Pc.none with
  | .eq x => v = x ∧ Kept (fun _ => False) w w'
  | .blk t zs _ _ => ∃ q, v = .pointer (some ⟨q, 0, none⟩) ∧ w.heap.size ≤ q ∧ Stc w' q t zs ∧ Kept (fun _ => False) w w'
  | .told p t _ us => Stc w' p t us ∧ Kept (onB p) w w'
  | .turn j => ∃ d q, D.getD j none = some d ∧ ρ (.tmp d) = .pointer (some ⟨q, 0, none⟩) ∧ (∀ t zs us, Gs.getD j Pc.none = .blk t zs i us → Stc w' q t us) ∧ Kept (onB q) w w'
section
variable {P : Program} {N : Nat} {F : Nat → Value} {w : World} {Q : Exit → (Nat → Value) → World → Prop}
def StepFC (S : Nat → Prop) (N : Nat) (P : Program) (D : List (Option Tmp)) (Gs : List Pc) (F0 : Nat → Value) (w0 : World) (i : Nat) (o : Oper) : Prop :=
  ∀ (F : Nat → Value) (w : World), Kept S w0 w → (∀ t, Nat.blt t N = true → some t ∉ D → F t = F0 t) → DepsF D (ToldC w0.heap.size Gs i) F w o.after.toList → (∀ p t zs us, Gs.getD i Pc.none = .told p t zs us → Stc w p t zs) →
    match o.guard with
    | none => Yields P (ev F) o w (LeftC Gs D i (ev F) w)
    | some (j, want) => ∃ d, D.getD j none = some d ∧
      ((F d = .bool want ∧ Yields P (ev F) o w (LeftC Gs D i (ev F) w)) ∨ ((F d = .bool (!want) ∨ F d = undef) ∧ Gs.getD i Pc.none = .eq undef))
def StepsFC (S : Nat → Prop) (N : Nat) (P : Program) (D : List (Option Tmp)) (Gs : List Pc) (F0 : Nat → Value) (w0 : World) : Nat → List Oper → Prop
  | _, [] => True
  | i, o :: r => StepFC S N P D Gs F0 w0 i o ∧ StepsFC S N P D Gs F0 w0 (i + 1) r
theorem StepFC.one {S : Nat → Prop} {D : List (Option Tmp)} {Gs : List Pc} {F0 : Nat → Value} {w0 : World} {i : Nat} {o : Oper} (hg : o.guard = none)
    (h : ∀ (F : Nat → Value) (w : World), Kept S w0 w → (∀ t, Nat.blt t N = true → some t ∉ D → F t = F0 t) → DepsF D (ToldC w0.heap.size Gs i) F w o.after.toList → Yields P (ev F) o w (LeftC Gs D i (ev F) w)) : StepFC S N P D Gs F0 w0 i o := by
  intro F w h1 h2 h3 _
  rw [hg]
  exact h F w h1 h2 h3
theorem StepFC.old {S : Nat → Prop} {D : List (Option Tmp)} {Gs : List Pc} {F0 : Nat → Value} {w0 : World} {i p : Nat} {t : TypeId} {zs us : List Value} {o : Oper} (hg : o.guard = none) (he : Gs.getD i Pc.none = .told p t zs us)
    (h : ∀ (F : Nat → Value) (w : World), Kept S w0 w → (∀ t, Nat.blt t N = true → some t ∉ D → F t = F0 t) → DepsF D (ToldC w0.heap.size Gs i) F w o.after.toList → Stc w p t zs → Yields P (ev F) o w (fun _ w' => Stc w' p t us ∧ Kept (onB p) w w')) : StepFC S N P D Gs F0 w0 i o := by
  intro F w h1 h2 h3 h4
  rw [hg]
  refine (h F w h1 h2 h3 (h4 _ _ _ _ he)).mono' fun v w' hx => ?_
  unfold LeftC
  rw [he]; exact hx
theorem upL_here {L : Nat → Bool} {i : Nat} : upL L i i = true := if_pos rfl
theorem upL_ne {L : Nat → Bool} {i j : Nat} (h : j ≠ i) : upL L i j = L j := if_neg h
theorem upV_here {v : Nat → Value} {i : Nat} {x : Value} : upV v i x i = x := if_pos rfl
theorem upV_ne {v : Nat → Value} {i j : Nat} {x : Value} (h : j ≠ i) : upV v i x j = v j := if_neg h
theorem getElem_getD {α : Type} {l : List α} {d x : α} {i : Nat} (h : l.getD i d = x) (hn : x ≠ d) : l[i]? = some x := by
  unfold List.getD at h
  cases hq : l[i]? with
  | none => rw [hq] at h; exact absurd h.symm hn
  | some y => rw [hq] at h; simpa using h

/-- One more operation that is no turn. -/
theorem JC.more {S : Nat → Prop} {os : List Oper} {D : List (Option Tmp)} {Gs : List Pc} {w0 w w' : World} {L : Nat → Bool} {v : Nat → Value} {i : Nat} {x : Value} (hwf : wfC os D Gs = true) (h : JC S w0 Gs L v w) (hi : L i = false) (k : Kept (fun _ => False) w w')
    (hnt : ∀ j, Gs.getD i Pc.none ≠ .turn j) (hnd : ∀ p t zs us, Gs.getD i Pc.none ≠ .told p t zs us) (hx : HoldC w0.heap.size (Gs.getD i Pc.none) (upL L i) x w') (hb : isBlk (Gs.getD i Pc.none) = true → ∃ q, x = .pointer (some ⟨q, 0, none⟩) ∧ w.heap.size ≤ q) : JC S w0 Gs (upL L i) (upV v i x) w' := by
  have hkeep : ∀ j, L j = true → HoldC w0.heap.size (Gs.getD j Pc.none) (upL L i) (v j) w' := by
    intro j hj
    have := h.holds j hj
    revert this
    cases e : Gs.getD j Pc.none with
    | eq y => exact id
    | turn y => exact id
    | told y1 y2 y3 y4 => exact id
    | blk t zs kk us =>
      rintro ⟨q, e1, e2, e3⟩
      have hki : kk ≠ i := fun e' => hnt j (by rw [← e']; exact wf_blk hwf e)
      refine ⟨q, e1, e2, ?_⟩
      rw [upL_ne hki]
      exact e3.all k id
  refine ⟨h.kept.trans k (fun _ _ x => x.elim), fun j p t zs us hj => ?_, fun j hj => ?_, fun a b hab ha hb' hA hB => ?_, fun a b ha hab => ?_⟩
  · have hji : j ≠ i := fun e => hnd p t zs us (by rw [← e]; exact hj)
    rw [upL_ne hji]
    exact (h.olds j p t zs us hj).all k id
  · by_cases hji : j = i
    · subst hji; rw [upV_here]; exact hx
    · rw [upL_ne hji] at hj; rw [upV_ne hji]; exact hkeep j hj
  · have hnew : ∀ c, c ≠ i → L c = true → isBlk (Gs.getD c Pc.none) = true → isBlk (Gs.getD i Pc.none) = true → v c ≠ x := by
      intro c _ hc hC hI e
      obtain ⟨q, e1, e2⟩ := hb hI
      have := h.holds c hc
      revert this hC
      cases e' : Gs.getD c Pc.none with
      | eq y => intro hC; cases hC
      | turn y => intro hC; cases hC
      | told y1 y2 y3 y4 => intro hC; cases hC
      | blk t zs kk us =>
        rintro - ⟨q', f1, f2, f3⟩
        rw [f1, e1] at e
        cases e
        have := f3.lt
        omega
    by_cases hai : a = i
    · subst hai
      have hba : b ≠ a := fun e => hab e.symm
      rw [upL_ne hba] at hb'
      rw [upV_here, upV_ne hba]
      exact fun e => hnew b hba hb' hB hA e.symm
    · rw [upL_ne hai] at ha
      rw [upV_ne hai]
      by_cases hbi : b = i
      · subst hbi; rw [upV_here]; exact hnew a hai ha hA hB
      · rw [upL_ne hbi] at hb'; rw [upV_ne hbi]; exact h.apart a b hab ha hb' hA hB
  · by_cases hai : a = i
    · subst hai; exact absurd hab (hnt b)
    · rw [upL_ne hai] at ha
      have := h.clos a b ha hab
      by_cases hbi : b = i
      · subst hbi; exact upL_here
      · rw [upL_ne hbi]; exact this
/-- One more turn. -/
theorem JC.turned {S : Nat → Prop} {os : List Oper} {D : List (Option Tmp)} {Gs : List Pc} {w0 w w' : World} {L : Nat → Bool} {v : Nat → Value} {i j q : Nat} {x : Value} (hwf : wfC os D Gs = true) (hO : Olds S w0 Gs) (h : JC S w0 Gs L v w) (hi : L i = false) (hj : L j = true) (he : Gs.getD i Pc.none = .turn j)
    (hv : v j = .pointer (some ⟨q, 0, none⟩)) (hq : ∀ t zs us, Gs.getD j Pc.none = .blk t zs i us → Stc w' q t us) (k : Kept (onB q) w w') : JC S w0 Gs (upL L i) (upV v i x) w' := by
  have hw := wfC_at hwf i
  rw [he] at hw
  simp only [wfAt, Bool.and_eq_true] at hw
  have hn0 : w0.heap.size ≤ q := by
    have := h.holds j hj
    revert this
    obtain ⟨⟨h1, _⟩, _⟩ := hw
    cases e : Gs.getD j Pc.none with
    | eq y => rw [e] at h1; cases h1
    | turn y => rw [e] at h1; cases h1
    | told y1 y2 y3 y4 => rw [e] at h1; cases h1
    | blk t zs kk us =>
      rintro ⟨q', e1, e2, _⟩
      rw [hv] at e1; cases e1; exact e2
  have hjB : isBlk (Gs.getD j Pc.none) = true := by
    obtain ⟨⟨h1, _⟩, _⟩ := hw
    cases e : Gs.getD j Pc.none with
    | eq y => rw [e] at h1; cases h1
    | turn y => rw [e] at h1; cases h1
    | told y1 y2 y3 y4 => rw [e] at h1; cases h1
    | blk t zs kk us => rfl
  refine ⟨h.kept.trans k (fun b hb e => by cases e; omega), fun a p t zs us ha => ?_, fun a ha => ?_, fun a b hab ha hb hA hB => ?_, fun a b ha hab => ?_⟩
  · have hai : a ≠ i := fun e => by rw [e, he] at ha; cases ha
    rw [upL_ne hai]
    exact (h.olds a p t zs us ha).all k (fun e => by have := (hO.at a p t zs us ha).2.lt; rw [show p = q from e] at this; omega)
  · by_cases hai : a = i
    · subst hai; rw [upV_here, he]; exact trivial
    · rw [upL_ne hai] at ha; rw [upV_ne hai]
      have := h.holds a ha
      revert this
      cases e : Gs.getD a Pc.none with
      | eq y => exact id
      | turn y => exact id
      | told y1 y2 y3 y4 => exact id
      | blk t zs kk us =>
        rintro ⟨q', e1, e2, e3⟩
        have hk := wf_blk hwf e
        by_cases haj : a = j
        · subst haj
          have hki : kk = i := by
            obtain ⟨⟨h1, _⟩, _⟩ := hw
            rw [e] at h1; simpa using h1
          subst hki
          rw [hv] at e1; cases e1
          refine ⟨q, hv, hn0, ?_⟩
          rw [if_pos upL_here]
          exact hq t zs us e
        · have hki : kk ≠ i := fun e' => by rw [e', he] at hk; cases hk; exact haj rfl
          refine ⟨q', e1, e2, ?_⟩
          rw [upL_ne hki]
          refine e3.all k (fun e' => ?_)
          have := h.apart a j haj ha hj (by rw [e]; rfl) hjB
          rw [e1, hv] at this
          exact this (by rw [show q' = q from e'])
  · have hni : ∀ c, isBlk (Gs.getD c Pc.none) = true → c ≠ i := fun c hc e => by rw [e, he] at hc; cases hc
    rw [upV_ne (hni a hA), upV_ne (hni b hB)]
    rw [upL_ne (hni a hA)] at ha
    rw [upL_ne (hni b hB)] at hb
    exact h.apart a b hab ha hb hA hB
  · by_cases hai : a = i
    · subst hai
      rw [he] at hab; cases hab
      by_cases hji : j = a
      · subst hji; exact upL_here
      · rw [upL_ne hji]; exact hj
    · rw [upL_ne hai] at ha
      have := h.clos a b ha hab
      by_cases hbi : b = i
      · subst hbi; exact upL_here
      · rw [upL_ne hbi]; exact this

/-- One more turn of a block that was there. -/
theorem JC.oldTurned {S : Nat → Prop} {os : List Oper} {D : List (Option Tmp)} {Gs : List Pc} {w0 w w' : World} {L : Nat → Bool} {v : Nat → Value} {i p : Nat} {t : TypeId} {zs us : List Value} {x : Value} (hwf : wfC os D Gs = true) (hO : Olds S w0 Gs) (h : JC S w0 Gs L v w) (he : Gs.getD i Pc.none = .told p t zs us)
    (hq : Stc w' p t us) (k : Kept (onB p) w w') : JC S w0 Gs (upL L i) (upV v i x) w' := by
  have hp := hO.at i p t zs us he
  have hni : ∀ c, isBlk (Gs.getD c Pc.none) = true → c ≠ i := fun c hc e => by rw [e, he] at hc; cases hc
  refine ⟨h.kept.trans k (fun b hb e => by cases e; exact hp.1), fun a p' t' zs' us' ha => ?_, fun a ha => ?_, fun a b hab ha hb hA hB => ?_, fun a b ha hab => ?_⟩
  · by_cases hai : a = i
    · subst hai
      rw [he] at ha; cases ha
      rw [if_pos upL_here]; exact hq
    · rw [upL_ne hai]
      exact (h.olds a p' t' zs' us' ha).all k (fun e => hO.ne a i p' t' zs' us' p t zs us hai ha he e)
  · by_cases hai : a = i
    · subst hai; rw [upV_here, he]; exact trivial
    · rw [upL_ne hai] at ha; rw [upV_ne hai]
      have := h.holds a ha
      revert this
      cases e : Gs.getD a Pc.none with
      | eq y => exact id
      | turn y => exact id
      | told y1 y2 y3 y4 => exact id
      | blk t zs kk us =>
        rintro ⟨q', e1, e2, e3⟩
        have hk := wf_blk hwf e
        have hki : kk ≠ i := fun e' => by rw [e', he] at hk; cases hk
        refine ⟨q', e1, e2, ?_⟩
        rw [upL_ne hki]
        exact e3.all k (fun e' => by have := hp.2.lt; rw [show q' = p from e'] at e2; omega)
  · rw [upV_ne (hni a hA), upV_ne (hni b hB)]
    rw [upL_ne (hni a hA)] at ha
    rw [upL_ne (hni b hB)] at hb
    exact h.apart a b hab ha hb hA hB
  · have hai : a ≠ i := fun e => by rw [e, he] at hab; cases hab
    rw [upL_ne hai] at ha
    have := h.clos a b ha hab
    by_cases hbi : b = i
    · subst hbi; exact upL_here
    · rw [upL_ne hbi]; exact this

theorem StepFC.step {S : Nat → Prop} {os : List Oper} {D : List (Option Tmp)} {Gs : List Pc} {w0 : World} {i : Nat} {o : Oper} {a0 : Act} (hwf : wfC os D Gs = true) (hO : Olds S w0 Gs) (ho : os[i]? = some o) (ha : Fr N F a0) (h : StepFC S N P D Gs F w0 i o) : StepJ os P D (JC S w0 Gs) a0 i o := by
  intro L v a w hJ hi hdone hout hhere _
  have hdeps : DepsF D (ToldC w0.heap.size Gs i) (fun t => a.tmps.getD t undef) w o.after.toList := by
    refine Deps.toF (Deps.mk fun e he hb d hd => ?_)
    have hl := hdone e he hb
    have hDe := getElem_getD hd (by simp)
    have hv := hhere e.on d hl hDe
    rw [hv]
    have := hJ.holds e.on hl
    unfold ToldC
    revert this
    cases e' : Gs.getD e.on Pc.none with
    | eq y => exact id
    | turn y => exact id
    | told y1 y2 y3 y4 => exact id
    | blk t zs kk us =>
      rintro ⟨q, e1, e2, e3⟩ hk
      refine ⟨q, e1, e2, ?_⟩
      subst hk
      rw [hi, if_neg (by simp)] at e3
      exact e3
  have h1 := h (fun t => a.tmps.getD t undef) w hJ.kept (fun t hb ht => by rw [← ha.at' t hb]; exact hout t ht) hdeps (fun p t zs us e => by have := hJ.olds i p t zs us e; rw [hi, if_neg (by simp)] at this; exact this)
  rw [← eval_ev a] at h1
  have hleft : ∀ x w', LeftC Gs D i a.eval w x w' → JC S w0 Gs (upL L i) (upV v i x) w' := by
    intro x w' hx
    unfold LeftC at hx
    cases e : Gs.getD i Pc.none with
    | eq y =>
      rw [e] at hx
      exact hJ.more hwf hi hx.2 (fun j hj => by rw [e] at hj; cases hj) (fun _ _ _ _ hj => by rw [e] at hj; cases hj) (by rw [e]; exact hx.1) (by rw [e]; intro hb; cases hb)
    | blk t zs kk us =>
      rw [e] at hx
      obtain ⟨q, e1, e2, e3, e4⟩ := hx
      have hk := wf_blk hwf e
      have hki : kk ≠ i := fun e' => by rw [e', e] at hk; cases hk
      have hLk : L kk = false := by
        cases hq : L kk with
        | false => rfl
        | true => have := hJ.clos kk i hq hk; rw [hi] at this; cases this
      refine hJ.more hwf hi e4 (fun j hj => by rw [e] at hj; cases hj) (fun _ _ _ _ hj => by rw [e] at hj; cases hj) ?_ (fun _ => ⟨q, e1, e2⟩)
      rw [e]
      refine ⟨q, e1, Nat.le_trans hJ.kept.size e2, ?_⟩
      rw [upL_ne hki, hLk, if_neg (by simp)]
      exact e3
    | told p t zs us =>
      rw [e] at hx
      exact hJ.oldTurned hwf hO e hx.1 hx.2
    | turn j =>
      rw [e] at hx
      obtain ⟨d, q, hd, e1, e2, e3⟩ := hx
      have hw := wfC_at hwf i
      rw [e] at hw
      simp only [wfAt, Bool.and_eq_true, ho] at hw
      obtain ⟨ed, hed, hb, hon⟩ := waitsOn_iff.1 hw.2
      have hLj := hdone ed hed hb
      rw [hon] at hLj
      have hv := hhere j d hLj (getElem_getD hd (by simp))
      exact hJ.turned hwf hO hi hLj e (by rw [← hv]; exact e1) e2 e3
  unfold goes
  cases hg : o.guard with
  | none => rw [hg] at h1; exact ⟨fun _ => h1.mono' hleft, fun e => by cases e⟩
  | some g =>
    obtain ⟨j, want⟩ := g
    rw [hg] at h1
    obtain ⟨d, hd, h1⟩ := h1
    simp only [hd]
    have hev : a.eval (.tmp d) = a.tmps.getD d undef := rfl
    rcases h1 with ⟨hv, hy⟩ | ⟨hv, hs⟩
    · rw [hev, hv]; exact ⟨fun _ => hy.mono' hleft, fun e => by simp at e⟩
    · refine ⟨fun e => ?_, fun _ => hJ.more hwf hi (Kept.refl _ _) (fun j hj => by rw [hs] at hj; cases hj) (fun _ _ _ _ hj => by rw [hs] at hj; cases hj) (by rw [hs]; rfl) (by rw [hs]; intro hb; cases hb)⟩
      rcases hv with hv | hv
      · rw [hev, hv] at e; cases want <;> simp at e
      · rw [hev, hv] at e; simp [undef] at e
theorem StepsFC.steps {S : Nat → Prop} {all : List Oper} {D : List (Option Tmp)} {Gs : List Pc} {w0 : World} {a0 : Act} (hwf : wfC all D Gs = true) (hO : Olds S w0 Gs) (ha : Fr N F a0) : ∀ {os : List Oper} {i : Nat}, (∀ k o, os[k]? = some o → all[i + k]? = some o) → StepsFC S N P D Gs F w0 i os → StepsJ all P D (JC S w0 Gs) a0 i os := by
  intro os
  induction os with
  | nil => intro i _ _; exact trivial
  | cons o r ih =>
    intro i hat h
    exact ⟨h.1.step hwf hO (hat 0 o rfl) ha, ih (fun k o' hk => by have := hat (k + 1) o' hk; rwa [show i + (k + 1) = i + 1 + k by omega] at this) h.2⟩
end
end Go.Proofs.YtdcbabgcbkdlhaaGreatDoor
set_option maxRecDepth 100000
namespace Go.Proofs.YtdcbabgcbkdlhaaGreatDoor
open Go.RowKit

def sameVec (a b c d : Int) : Bool := decide (a = c) && decide (b = d)
theorem Tryz.vecFields : (Tryz.prog.fieldsOf 27).toList.map (fun f => (f.name, f.type, f.offset)) = [("X", 3, 0), ("Y", 3, 1)] := by kernel_rfl
theorem part_int (w : World) (xs : Array Value) (i : Nat) (z : Int) (h : xs[i]? = some (.int .i64 z)) : (part 3 xs i).run Tryz.prog w = .ok (.int .i64 z) w := by
  simp [part, isAgg, run_underlying Tryz.underlying3, h]
theorem run_same_vec (w : World) (a b c d : Int) : (Op.equalIn 10000 27 (.agg #[.int .i64 a, .int .i64 b]) (.agg #[.int .i64 c, .int .i64 d])).run Tryz.prog w = .ok (sameVec a b c d) w := by
  rw [run_equalIn_struct w 9999 _ _ _ (by kernel_rfl) (by kernel_rfl)]
  have hf := Tryz.vecFields
  generalize (Tryz.prog.fieldsOf 27).toList = fs at hf
  have hlen : fs.length = 2 := by simpa using congrArg List.length hf
  have p1 := part_int w #[.int .i64 a, .int .i64 b] 0 a rfl
  have p2 := part_int w #[.int .i64 c, .int .i64 d] 0 c rfl
  have p3 := part_int w #[.int .i64 a, .int .i64 b] 1 b rfl
  have p4 := part_int w #[.int .i64 c, .int .i64 d] 1 d rfl
  match fs, hlen with
  | [f0, f1], _ =>
    simp only [List.map_cons, List.map_nil, List.cons.injEq, Prod.mk.injEq, and_true] at hf
    obtain ⟨⟨n0, t0, o0⟩, ⟨n1, t1, o1⟩⟩ := hf
    simp only [Op.eqFields, n0, t0, o0, n1, t1, o1]
    rw [if_pos (by decide), if_pos (by decide)]
    simp only [Sem.run_bind, p1, p2, Result.andThen_ok, run_equalIn_int w 9998 3 .i64 .i64 _ _ Tryz.underlying3]
    unfold sameVec
    by_cases h1 : a = c
    · subst h1
      simp only [beq_self_eq_true, Bool.not_true, Bool.false_eq_true, if_false, Sem.run_bind, p3, p4, Result.andThen_ok, run_equalIn_int w 9998 3 .i64 .i64 _ _ Tryz.underlying3]
      by_cases h2 : b = d
      · subst h2; simp
      · have : (b == d) = false := by simpa using h2
        simp [this, h2]
    · have : (a == c) = false := by simpa using h1
      simp [this, h1]
theorem Tryz.guard_vec : Tryz.prog.eqGuardType Tryz.prog.depth 27 = false := by kernel_rfl
section
variable {ρ : Operand → Value} {o : Oper} {w : World} {R : Value → World → Prop}
theorem y_eqlVec {t' : TypeId} {x y : Operand} {a b c d : Int} {q : Bool} (ho : o.op = .binOp .eql 27 x y t') (hx : ρ x = .agg #[.int .i64 a, .int .i64 b]) (hy : ρ y = .agg #[.int .i64 c, .int .i64 d]) (hr : sameVec a b c d = q) (h : R (.bool q) w) : Yields Tryz.prog ρ o w R :=
  y_of (v := .bool (sameVec a b c d)) (w' := w) (by simp only [execOp, ho, hx, hy, Sem.run_bind, run_eqGuard_agg w .eql _ _ _ _ _ Tryz.guard_vec, run_eql_struct, run_same_vec, Result.andThen_ok, Sem.run_pure]) (by rw [hr]; exact h)
end

def Cin (w : World) (T : Nat → Prop) (p : Nat) (n : Int) : Prop := T = onB p ∧ Cel w p 3 (.int .i64 n)
theorem Cin.live {w : World} {T : Nat → Prop} {p : Nat} {n : Int} (h : Cin w T p n) : Live w T := by
  obtain ⟨rfl, h⟩ := h; exact onB_live h.lt
theorem Cin.all {S : Nat → Prop} {w w' : World} {T : Nat → Prop} {p : Nat} {n : Int} (h : Cin w T p n) (k : Kept S w w') (ha : Apart T S) : Cin w' T p n := by
  obtain ⟨rfl, h⟩ := h; exact ⟨rfl, h.all k (ha p rfl)⟩
theorem Cin.cells {w : World} {T : Nat → Prop} {p : Nat} {n : Int} (h : Cin w T p n) : Cells w T := by
  obtain ⟨rfl, h⟩ := h; exact h.cells
theorem Cin.row {A B : World} {row : Option Nat} {m p : Nat} {T : Nat → Prop} {n : Int} (h : Cin A T p n) (hg : A.grownBy B row) (hr : RowNew m A row) : Cin B T p n := h.all (kept_row hg) (h.cells.apart hr)

theorem and_1 : ∀ k : Fin 513, bits .and .i64 ((k.1 : Int) - 256) 1 = ((k.1 : Int) - 256) % 2 := by decide +kernel
theorem and_one {u : Int} (h : -256 ≤ u ∧ u ≤ 256) : bits .and .i64 u 1 = u % 2 := by
  have := and_1 ⟨(u + 256).toNat, by omega⟩
  simp only at this
  rwa [show (((u + 256).toNat : Nat) : Int) - 256 = u by omega] at this

set_option maxHeartbeats 4000000 in
set_option maxRecDepth 100000 in
theorem mo_clamped (n a b : Int) (w0 : World) :
  Calls Tryz.prog 44 #[.int .i64 (n), .int .i64 (a), .int .i64 (b)] w0 fun e w' => e = .returned (.int .i64 (max a (min n b))) ∧ Kept (fun _ => False) w0 w' := by
 refine calls_wq (args := [.int .i64 (n), .int .i64 (a), .int .i64 (b)]) 12 Tryz.func44 rfl rfl (Nat.le_of_ble_eq_true rfl) ?_
 have K0 := Kept.refl (fun _ => False) w0
 refine wq_seq ?_
 refine wq_region ?_
 refine wl_v (.int .i64 (0)) rfl rfl (y_asg rfl rfl ⟨rfl, rfl⟩) ?_
 refine wl_nil fun F1 hF2 => ?_
 have s3 : F1 0 = .int .i64 (n) := (hF2 0).trans rfl
 have s4 : F1 1 = .int .i64 (a) := (hF2 1).trans rfl
 have s5 : F1 2 = .int .i64 (b) := (hF2 2).trans rfl
 have s6 : F1 12 = undef := (hF2 12).trans rfl
 clear hF2
 refine then_normal ?_
 refine wq_seq ?_
 refine wq_region ?_
 refine wl_v (.int .i64 (a)) rfl rfl (y_mov rfl s4 ⟨rfl, rfl⟩) ?_
 refine wl_v (.int .i64 (n)) rfl rfl (y_mov rfl s3 ⟨rfl, rfl⟩) ?_
 refine wl_v (.int .i64 (b)) rfl rfl (y_mov rfl s5 ⟨rfl, rfl⟩) ?_
 refine wl_v (.int .i64 (min (n) (b))) rfl rfl (y_minR rfl rfl rfl rfl ⟨rfl, rfl⟩) ?_
 refine wl_v (.int .i64 (max (a) (min (n) (b)))) rfl rfl (y_maxR rfl rfl rfl rfl ⟨rfl, rfl⟩) ?_
 refine wl_v (.int .i64 (max (a) (min (n) (b)))) rfl rfl (y_asg rfl rfl ⟨rfl, rfl⟩) ?_
 refine wl_nil fun F7 hF8 => ?_
 have s9 := (hF8 12).trans s6
 have s10 : F7 6 = .int .i64 (max (a) (min (n) (b))) := (hF8 6).trans rfl
 clear hF8
 refine then_normal ?_
 refine wq_ret ?_
 exact end_tmp (v := .int .i64 (max (a) (min (n) (b)))) s9 rfl rfl s10 ⟨rfl, K0⟩
set_option maxHeartbeats 4000000 in
set_option maxRecDepth 100000 in
theorem mo_mayGo (n : Int) (w0 : World) :
  Calls Tryz.prog 75 #[.int .i64 (n)] w0 fun e w' => e = .returned (.bool (decide (-31 ≤ n ∧ n ≤ 31))) ∧ Kept (fun _ => False) w0 w' := by
 refine calls_wq (args := [.int .i64 (n)]) 9 Tryz.func75 rfl rfl (Nat.le_of_ble_eq_true rfl) ?_
 have K0 := Kept.refl (fun _ => False) w0
 refine wq_seq ?_
 refine wq_region ?_
 refine wl_v (.bool false) rfl rfl (y_asg rfl rfl ⟨rfl, rfl⟩) ?_
 refine wl_nil fun F1 hF2 => ?_
 have s3 : F1 0 = .int .i64 (n) := (hF2 0).trans rfl
 have s4 : F1 9 = undef := (hF2 9).trans rfl
 clear hF2
 refine then_normal ?_
 refine wq_seq ?_
 by_cases d5 : (-31) ≤ (n)
 ·skip
  refine wq_region ?_
  refine wl_v (.int .i64 (n)) rfl rfl (y_mov rfl s3 ⟨rfl, rfl⟩) ?_
  refine wl_v (.bool true) rfl rfl (y_geq rfl rfl rfl (decide_eq_true d5) ⟨rfl, rfl⟩) ?_
  refine wl_v (.bool true) rfl rfl (y_mov rfl rfl ⟨rfl, rfl⟩) ?_
  refine wl_vw (.int .i64 (n)) 2 true 5 rfl rfl rfl rfl rfl (y_mov rfl s3 ⟨rfl, rfl⟩) ?_
  refine wl_vw (.bool (decide ((n) ≤ (31)))) 2 true 5 rfl rfl rfl rfl rfl (y_leq rfl rfl rfl rfl ⟨rfl, rfl⟩) ?_
  refine wl_v (.bool (decide ((n) ≤ (31)))) rfl rfl (y_pickT rfl rfl rfl ⟨rfl, rfl⟩) ?_
  refine wl_v (.bool (decide ((n) ≤ (31)))) rfl rfl (y_asg rfl rfl ⟨rfl, rfl⟩) ?_
  refine wl_nil fun F6 hF7 => ?_
  have s8 := (hF7 9).trans s4
  have s9 : F6 2 = .bool (decide ((n) ≤ (31))) := (hF7 2).trans rfl
  clear hF7
  refine then_normal ?_
  refine wq_ret ?_
  exact end_tmp (v := .bool (decide ((n) ≤ (31)))) s8 rfl rfl s9 ⟨(retB (by first | exact (decide_eq_true (by omega)).symm | exact (decide_eq_false (by omega)).symm | exact decide_eq_decide.2 (by omega))), K0⟩
 ·skip
  refine wq_region ?_
  refine wl_v (.int .i64 (n)) rfl rfl (y_mov rfl s3 ⟨rfl, rfl⟩) ?_
  refine wl_v (.bool false) rfl rfl (y_geq rfl rfl rfl (decide_eq_false d5) ⟨rfl, rfl⟩) ?_
  refine wl_v (.bool false) rfl rfl (y_mov rfl rfl ⟨rfl, rfl⟩) ?_
  refine wl_unless 2 true 5 rfl rfl rfl (Or.inl rfl) rfl ?_
  refine wl_unless 2 true 5 rfl rfl rfl (Or.inl rfl) rfl ?_
  refine wl_v (.bool false) rfl rfl (y_pickF rfl rfl rfl ⟨rfl, rfl⟩) ?_
  refine wl_v (.bool false) rfl rfl (y_asg rfl rfl ⟨rfl, rfl⟩) ?_
  refine wl_nil fun F10 hF11 => ?_
  have s12 := (hF11 9).trans s4
  have s13 : F10 2 = .bool false := (hF11 2).trans rfl
  clear hF11
  refine then_normal ?_
  refine wq_ret ?_
  exact end_tmp (v := .bool false) s12 rfl rfl s13 ⟨(retB (by first | exact (decide_eq_true (by omega)).symm | exact (decide_eq_false (by omega)).symm | exact decide_eq_decide.2 (by omega))), K0⟩
set_option maxHeartbeats 4000000 in
set_option maxRecDepth 100000 in
theorem mo_mayPlace (n : Int) (w0 : World) :
  Calls Tryz.prog 41 #[.int .i64 (n)] w0 fun e w' => e = .returned (.bool (decide (0 ≤ n ∧ n ≤ 64))) ∧ Kept (fun _ => False) w0 w' := by
 refine calls_wq (args := [.int .i64 (n)]) 9 Tryz.func41 rfl rfl (Nat.le_of_ble_eq_true rfl) ?_
 have K0 := Kept.refl (fun _ => False) w0
 refine wq_seq ?_
 refine wq_region ?_
 refine wl_v (.bool false) rfl rfl (y_asg rfl rfl ⟨rfl, rfl⟩) ?_
 refine wl_nil fun F1 hF2 => ?_
 have s3 : F1 0 = .int .i64 (n) := (hF2 0).trans rfl
 have s4 : F1 9 = undef := (hF2 9).trans rfl
 clear hF2
 refine then_normal ?_
 refine wq_seq ?_
 by_cases d5 : (0) ≤ (n)
 ·skip
  refine wq_region ?_
  refine wl_v (.int .i64 (n)) rfl rfl (y_mov rfl s3 ⟨rfl, rfl⟩) ?_
  refine wl_v (.bool true) rfl rfl (y_geq rfl rfl rfl (decide_eq_true d5) ⟨rfl, rfl⟩) ?_
  refine wl_v (.bool true) rfl rfl (y_mov rfl rfl ⟨rfl, rfl⟩) ?_
  refine wl_vw (.int .i64 (n)) 2 true 5 rfl rfl rfl rfl rfl (y_mov rfl s3 ⟨rfl, rfl⟩) ?_
  refine wl_vw (.bool (decide ((n) ≤ (64)))) 2 true 5 rfl rfl rfl rfl rfl (y_leq rfl rfl rfl rfl ⟨rfl, rfl⟩) ?_
  refine wl_v (.bool (decide ((n) ≤ (64)))) rfl rfl (y_pickT rfl rfl rfl ⟨rfl, rfl⟩) ?_
  refine wl_v (.bool (decide ((n) ≤ (64)))) rfl rfl (y_asg rfl rfl ⟨rfl, rfl⟩) ?_
  refine wl_nil fun F6 hF7 => ?_
  have s8 := (hF7 9).trans s4
  have s9 : F6 2 = .bool (decide ((n) ≤ (64))) := (hF7 2).trans rfl
  clear hF7
  refine then_normal ?_
  refine wq_ret ?_
  exact end_tmp (v := .bool (decide ((n) ≤ (64)))) s8 rfl rfl s9 ⟨(retB (by first | exact (decide_eq_true (by omega)).symm | exact (decide_eq_false (by omega)).symm | exact decide_eq_decide.2 (by omega))), K0⟩
 ·skip
  refine wq_region ?_
  refine wl_v (.int .i64 (n)) rfl rfl (y_mov rfl s3 ⟨rfl, rfl⟩) ?_
  refine wl_v (.bool false) rfl rfl (y_geq rfl rfl rfl (decide_eq_false d5) ⟨rfl, rfl⟩) ?_
  refine wl_v (.bool false) rfl rfl (y_mov rfl rfl ⟨rfl, rfl⟩) ?_
  refine wl_unless 2 true 5 rfl rfl rfl (Or.inl rfl) rfl ?_
  refine wl_unless 2 true 5 rfl rfl rfl (Or.inl rfl) rfl ?_
  refine wl_v (.bool false) rfl rfl (y_pickF rfl rfl rfl ⟨rfl, rfl⟩) ?_
  refine wl_v (.bool false) rfl rfl (y_asg rfl rfl ⟨rfl, rfl⟩) ?_
  refine wl_nil fun F10 hF11 => ?_
  have s12 := (hF11 9).trans s4
  have s13 : F10 2 = .bool false := (hF11 2).trans rfl
  clear hF11
  refine then_normal ?_
  refine wq_ret ?_
  exact end_tmp (v := .bool false) s12 rfl rfl s13 ⟨(retB (by first | exact (decide_eq_true (by omega)).symm | exact (decide_eq_false (by omega)).symm | exact decide_eq_decide.2 (by omega))), K0⟩
set_option maxHeartbeats 4000000 in
set_option maxRecDepth 100000 in
theorem mo_mean (s m : Int) (w0 : World) (hs : 0 ≤ s ∧ s ≤ 4000) (hm : m = 1 ∨ m = 2 ∨ m = 4) :
  Calls Tryz.prog 43 #[.int .i64 (s), .int .i64 (m)] w0 fun e w' => e = .returned (.int .i64 ((s + m / 2) / m)) ∧ Kept (fun _ => False) w0 w' := by
 refine calls_wq (args := [.int .i64 (s), .int .i64 (m)]) 11 Tryz.func43 rfl rfl (Nat.le_of_ble_eq_true rfl) ?_
 have K0 := Kept.refl (fun _ => False) w0
 refine wq_seq ?_
 refine wq_region ?_
 refine wl_v (.int .i64 (0)) rfl rfl (y_asg rfl rfl ⟨rfl, rfl⟩) ?_
 refine wl_nil fun F1 hF2 => ?_
 have s3 : F1 0 = .int .i64 (s) := (hF2 0).trans rfl
 have s4 : F1 1 = .int .i64 (m) := (hF2 1).trans rfl
 have s5 : F1 11 = undef := (hF2 11).trans rfl
 clear hF2
 refine then_normal ?_
 refine wq_seq ?_
 refine wq_region ?_
 refine wl_v (.int .i64 (s)) rfl rfl (y_mov rfl s3 ⟨rfl, rfl⟩) ?_
 refine wl_v (.int .i64 (m)) rfl rfl (y_mov rfl s4 ⟨rfl, rfl⟩) ?_
 refine wl_v (.int .i64 (m / 2)) rfl rfl (y_quo rfl rfl rfl (by first | decide | omega) (i64_i (tdiv2 (by omega)) (by omega)) ⟨rfl, rfl⟩) ?_
 refine wl_v (.int .i64 (s + m / 2)) rfl rfl (y_add rfl rfl rfl (i64_i rfl (by omega)) ⟨rfl, rfl⟩) ?_
 refine wl_v (.int .i64 (m)) rfl rfl (y_mov rfl s4 ⟨rfl, rfl⟩) ?_
 refine wl_v (.int .i64 ((s + m / 2) / m)) rfl rfl (y_quo rfl rfl rfl (by first | decide | omega) (i64_i (Int.tdiv_eq_ediv_of_nonneg (by omega)) (by rcases hm with rfl | rfl | rfl <;> omega)) ⟨rfl, rfl⟩) ?_
 refine wl_v (.int .i64 ((s + m / 2) / m)) rfl rfl (y_asg rfl rfl ⟨rfl, rfl⟩) ?_
 refine wl_nil fun F6 hF7 => ?_
 have s8 := (hF7 11).trans s5
 have s9 : F6 4 = .int .i64 ((s + m / 2) / m) := (hF7 4).trans rfl
 clear hF7
 refine then_normal ?_
 refine wq_ret ?_
 exact end_tmp (v := .int .i64 ((s + m / 2) / m)) s8 rfl rfl s9 ⟨rfl, K0⟩
set_option maxHeartbeats 4000000 in
set_option maxRecDepth 100000 in
theorem mo_check (X Y : Int) (w0 : World) :
  Calls Tryz.prog 39 #[.agg #[.int .i64 (X), .int .i64 (Y)]] w0 fun e w' => e = .returned (.int .i64 (vecE X Y)) ∧ Kept (fun _ => False) w0 w' := by
 refine calls_wq (args := [.agg #[.int .i64 (X), .int .i64 (Y)]]) 13 Tryz.func39 rfl rfl (Nat.le_of_ble_eq_true rfl) ?_
 have K0 := Kept.refl (fun _ => False) w0
 refine wq_seq ?_
 refine wq_region ?_
 refine wl_box_stc (vs := [.int .i64 (X), .int .i64 (Y)]) rfl rfl rfl rfl fun p1 w2 B4 g5 k3 => ?_
 have K7 := K0.trans k3 (fun _ _ x => x.elim)
 refine wl_v (.int .i64 (0)) rfl rfl (y_asg rfl rfl ⟨rfl, rfl⟩) ?_
 refine wl_nil fun F8 hF9 => ?_
 have s10 : F8 13 = undef := (hF9 13).trans rfl
 have s11 : F8 1 = .pointer (some ⟨p1, 0, none⟩) := (hF9 1).trans rfl
 clear hF9
 refine then_normal ?_
 refine wq_seq ?_
 refine wq_seq ?_
 by_cases d12 : -31 ≤ (X) ∧ (X) ≤ 31
 ·skip
  by_cases d13 : -31 ≤ (Y) ∧ (Y) ≤ 31
  ·skip
   refine wq_region ?_
   refine wl_v (.pointer (some ⟨p1, 0, none⟩)) rfl rfl (y_fieldR (n := 1) rfl s11 Tryz.underlying27 rfl (by kernel_rfl) (by decide) rfl ⟨rfl, rfl⟩) ?_
   refine wl_v (.int .i64 (X)) rfl rfl (y_ld_stc rfl rfl Tryz.underlying3 B4 rfl rfl ⟨rfl, rfl⟩) ?_
   refine wl_call (R := fun v_ w_ => v_ = .bool true ∧ Kept (fun _ => False) w2 w_) rfl rfl (y_cs rfl rfl rfl (fun _ _ => by kernel_rfl) (ev_func _) (vsC rfl vsN) (mo_mayGo (X)  _   ) (fun e_ w_ h_ => ⟨_, h_.1, (congrArg Value.bool (decide_eq_true d12)), h_.2⟩)) ?_
   rintro _ w14 ⟨rfl, k15⟩
   have B16 := B4.all k15 id
   have K17 := K7.trans k15 (fun _ _ x => x.elim)
   refine wl_v (.bool false) rfl rfl (y_not rfl rfl rfl ⟨rfl, rfl⟩) ?_
   refine wl_v (.bool false) rfl rfl (y_mov rfl rfl ⟨rfl, rfl⟩) ?_
   refine wl_vw (.pointer (some ⟨p1, 1, none⟩)) 4 false 7 rfl rfl rfl rfl rfl (y_fieldR (n := 1) rfl s11 Tryz.underlying27 rfl (by kernel_rfl) (by decide) rfl ⟨rfl, rfl⟩) ?_
   refine wl_vw (.int .i64 (Y)) 4 false 7 rfl rfl rfl rfl rfl (y_ld_stc rfl rfl Tryz.underlying3 B16 rfl rfl ⟨rfl, rfl⟩) ?_
   refine wl_callw (R := fun v_ w_ => v_ = .bool true ∧ Kept (fun _ => False) w14 w_) 4 false 7 rfl rfl rfl rfl rfl (y_cs rfl rfl rfl (fun _ _ => by kernel_rfl) (ev_func _) (vsC rfl vsN) (mo_mayGo (Y)  _   ) (fun e_ w_ h_ => ⟨_, h_.1, (congrArg Value.bool (decide_eq_true d13)), h_.2⟩)) ?_
   rintro _ w18 ⟨rfl, k19⟩
   have K21 := K17.trans k19 (fun _ _ x => x.elim)
   refine wl_vw (.bool false) 4 false 7 rfl rfl rfl rfl rfl (y_not rfl rfl rfl ⟨rfl, rfl⟩) ?_
   refine wl_v (.bool false) rfl rfl (y_pickF rfl rfl rfl ⟨rfl, rfl⟩) ?_
   refine wl_nil fun F22 hF23 => ?_
   have s24 := (hF23 13).trans s10
   have s25 : F22 12 = .bool false := (hF23 12).trans rfl
   clear hF23
   refine then_normal ?_
   refine wq_cond (t := false) s25 (fun e => by cases e) (fun _ => ?_)
   refine wq_skip ?_
   refine then_normal ?_
   refine wq_seq ?_
   refine wq_region ?_
   refine wl_v (.int .i64 (0)) rfl rfl (y_asg rfl rfl ⟨rfl, rfl⟩) ?_
   refine wl_nil fun F26 hF27 => ?_
   have s28 := (hF27 13).trans s24
   have s29 : F26 2 = .int .i64 (0) := (hF27 2).trans rfl
   clear hF27
   refine then_normal ?_
   refine wq_ret ?_
   exact end_tmp (v := .int .i64 (0)) s28 rfl rfl s29 ⟨(by first | rw [vecE_yes (by unfold vecOk; omega)] | rw [vecE_no (by unfold vecOk; omega)]), K21⟩
  ·skip
   refine wq_region ?_
   refine wl_v (.pointer (some ⟨p1, 0, none⟩)) rfl rfl (y_fieldR (n := 1) rfl s11 Tryz.underlying27 rfl (by kernel_rfl) (by decide) rfl ⟨rfl, rfl⟩) ?_
   refine wl_v (.int .i64 (X)) rfl rfl (y_ld_stc rfl rfl Tryz.underlying3 B4 rfl rfl ⟨rfl, rfl⟩) ?_
   refine wl_call (R := fun v_ w_ => v_ = .bool true ∧ Kept (fun _ => False) w2 w_) rfl rfl (y_cs rfl rfl rfl (fun _ _ => by kernel_rfl) (ev_func _) (vsC rfl vsN) (mo_mayGo (X)  _   ) (fun e_ w_ h_ => ⟨_, h_.1, (congrArg Value.bool (decide_eq_true d12)), h_.2⟩)) ?_
   rintro _ w30 ⟨rfl, k31⟩
   have B32 := B4.all k31 id
   have K33 := K7.trans k31 (fun _ _ x => x.elim)
   refine wl_v (.bool false) rfl rfl (y_not rfl rfl rfl ⟨rfl, rfl⟩) ?_
   refine wl_v (.bool false) rfl rfl (y_mov rfl rfl ⟨rfl, rfl⟩) ?_
   refine wl_vw (.pointer (some ⟨p1, 1, none⟩)) 4 false 7 rfl rfl rfl rfl rfl (y_fieldR (n := 1) rfl s11 Tryz.underlying27 rfl (by kernel_rfl) (by decide) rfl ⟨rfl, rfl⟩) ?_
   refine wl_vw (.int .i64 (Y)) 4 false 7 rfl rfl rfl rfl rfl (y_ld_stc rfl rfl Tryz.underlying3 B32 rfl rfl ⟨rfl, rfl⟩) ?_
   refine wl_callw (R := fun v_ w_ => v_ = .bool false ∧ Kept (fun _ => False) w30 w_) 4 false 7 rfl rfl rfl rfl rfl (y_cs rfl rfl rfl (fun _ _ => by kernel_rfl) (ev_func _) (vsC rfl vsN) (mo_mayGo (Y)  _   ) (fun e_ w_ h_ => ⟨_, h_.1, (congrArg Value.bool (decide_eq_false d13)), h_.2⟩)) ?_
   rintro _ w34 ⟨rfl, k35⟩
   have K37 := K33.trans k35 (fun _ _ x => x.elim)
   refine wl_vw (.bool true) 4 false 7 rfl rfl rfl rfl rfl (y_not rfl rfl rfl ⟨rfl, rfl⟩) ?_
   refine wl_v (.bool true) rfl rfl (y_pickF rfl rfl rfl ⟨rfl, rfl⟩) ?_
   refine wl_nil fun F38 hF39 => ?_
   have s40 := (hF39 13).trans s10
   have s41 : F38 12 = .bool true := (hF39 12).trans rfl
   clear hF39
   refine then_normal ?_
   refine wq_cond (t := true) s41 (fun _ => ?_) (fun e => by cases e)
   refine wq_seq ?_
   refine wq_region ?_
   refine wl_v (.int .i64 (90)) rfl rfl (y_asg rfl rfl ⟨rfl, rfl⟩) ?_
   refine wl_nil fun F42 hF43 => ?_
   have s44 := (hF43 13).trans s40
   have s45 : F42 2 = .int .i64 (90) := (hF43 2).trans rfl
   clear hF43
   refine then_normal ?_
   refine wq_ret ?_
   refine then_ret ?_
   exact end_tmp (v := .int .i64 (90)) s44 rfl rfl s45 ⟨(by first | rw [vecE_yes (by unfold vecOk; omega)] | rw [vecE_no (by unfold vecOk; omega)]), K37⟩
 ·skip
  refine wq_region ?_
  refine wl_v (.pointer (some ⟨p1, 0, none⟩)) rfl rfl (y_fieldR (n := 1) rfl s11 Tryz.underlying27 rfl (by kernel_rfl) (by decide) rfl ⟨rfl, rfl⟩) ?_
  refine wl_v (.int .i64 (X)) rfl rfl (y_ld_stc rfl rfl Tryz.underlying3 B4 rfl rfl ⟨rfl, rfl⟩) ?_
  refine wl_call (R := fun v_ w_ => v_ = .bool false ∧ Kept (fun _ => False) w2 w_) rfl rfl (y_cs rfl rfl rfl (fun _ _ => by kernel_rfl) (ev_func _) (vsC rfl vsN) (mo_mayGo (X)  _   ) (fun e_ w_ h_ => ⟨_, h_.1, (congrArg Value.bool (decide_eq_false d12)), h_.2⟩)) ?_
  rintro _ w46 ⟨rfl, k47⟩
  have K49 := K7.trans k47 (fun _ _ x => x.elim)
  refine wl_v (.bool true) rfl rfl (y_not rfl rfl rfl ⟨rfl, rfl⟩) ?_
  refine wl_v (.bool true) rfl rfl (y_mov rfl rfl ⟨rfl, rfl⟩) ?_
  refine wl_unless 4 false 7 rfl rfl rfl (Or.inl rfl) rfl ?_
  refine wl_unless 4 false 7 rfl rfl rfl (Or.inl rfl) rfl ?_
  refine wl_unless 4 false 7 rfl rfl rfl (Or.inl rfl) rfl ?_
  refine wl_unless 4 false 7 rfl rfl rfl (Or.inl rfl) rfl ?_
  refine wl_v (.bool true) rfl rfl (y_pickT rfl rfl rfl ⟨rfl, rfl⟩) ?_
  refine wl_nil fun F50 hF51 => ?_
  have s52 := (hF51 13).trans s10
  have s53 : F50 12 = .bool true := (hF51 12).trans rfl
  clear hF51
  refine then_normal ?_
  refine wq_cond (t := true) s53 (fun _ => ?_) (fun e => by cases e)
  refine wq_seq ?_
  refine wq_region ?_
  refine wl_v (.int .i64 (90)) rfl rfl (y_asg rfl rfl ⟨rfl, rfl⟩) ?_
  refine wl_nil fun F54 hF55 => ?_
  have s56 := (hF55 13).trans s52
  have s57 : F54 2 = .int .i64 (90) := (hF55 2).trans rfl
  clear hF55
  refine then_normal ?_
  refine wq_ret ?_
  refine then_ret ?_
  exact end_tmp (v := .int .i64 (90)) s56 rfl rfl s57 ⟨(by first | rw [vecE_yes (by unfold vecOk; omega)] | rw [vecE_no (by unfold vecOk; omega)]), K49⟩
set_option maxHeartbeats 4000000 in
set_option maxRecDepth 100000 in
theorem mo_both (a b : Nat → Int) (w0 : World) :
  Calls Tryz.prog 18 #[blkV (a), blkV (b)] w0 fun e w' => e = .returned (blkV (bothB a b)) ∧ Kept (fun _ => False) w0 w' := by
 refine calls_wq (args := [blkV (a), blkV (b)]) 23 Tryz.func18 rfl rfl (Nat.le_of_ble_eq_true rfl) ?_
 have K0 := Kept.refl (fun _ => False) w0
 refine wq_seq ?_
 refine wq_region ?_
 refine wl_box_blk rfl rfl rfl rfl fun p1 w2 e5 B3 k4 => ?_
 have g6 := onB_new (Nat.le_of_eq e5.symm)
 have gr7 : Grew w0 noB (onB p1) := Grew.new K0 g6
 clear e5 g6
 have K8 := K0.trans k4 (fun _ _ x => x.elim)
 refine wl_box_blk rfl rfl rfl rfl fun p9 w10 e13 B11 k12 => ?_
 have g14 := onB_new (Nat.le_of_eq e13.symm)
 have ap16 : Apart (onB p9) (onB p1) := Apart.new g14 (onB_live (B3).lt)
 clear e13 g14
 have B17 := B3.all k12 id
 have K18 := K8.trans k12 (fun _ _ x => x.elim)
 refine wl_alloc_blk rfl rfl rfl blkT_block.2.2 fun p19 w20 e23 B21 k22 => ?_
 have g24 := onB_new (Nat.le_of_eq e23.symm)
 have gr25 : Grew w0 noB (onB p19) := Grew.new K18 g24
 have ap26 : Apart (onB p19) (onB p1) := Apart.new g24 (onB_live (B17).lt)
 clear e23 g24
 have B28 := B17.all k22 id
 have B29 := B11.all k22 id
 have K30 := K18.trans k22 (fun _ _ x => x.elim)
 refine wl_nil fun F31 hF32 => ?_
 have s33 : F31 23 = undef := (hF32 23).trans rfl
 have s34 : F31 2 = .pointer (some ⟨p1, 0, none⟩) := (hF32 2).trans rfl
 have s35 : F31 3 = .pointer (some ⟨p9, 0, none⟩) := (hF32 3).trans rfl
 have s36 : F31 4 = .pointer (some ⟨p19, 0, none⟩) := (hF32 4).trans rfl
 clear hF32
 refine then_normal ?_
 refine wq_seq ?_
 refine wq_seq ?_
 refine wq_region ?_
 refine wl_v (.int .i64 (0)) rfl rfl (y_mov rfl rfl ⟨rfl, rfl⟩) ?_
 refine wl_nil fun F37 hF38 => ?_
 have s39 := (hF38 23).trans s33
 have s40 := (hF38 2).trans s34
 have s41 := (hF38 3).trans s35
 have s42 := (hF38 4).trans s36
 have s43 : F37 6 = .int .i64 (0) := (hF38 6).trans rfl
 clear hF38
 refine then_normal ?_
 refine wq_block ?_
 refine wq_loop (fun nn FF ww => ∃ (i : Nat), (i ≤ 16) ∧ nn = 16 - i ∧ FF 2 = .pointer (some ⟨p1, 0, none⟩) ∧ FF 3 = .pointer (some ⟨p9, 0, none⟩) ∧ FF 4 = .pointer (some ⟨p19, 0, none⟩) ∧ FF 23 = undef ∧ FF 6 = .int .i64 (((i : Nat) : Int)) ∧ Kept (fun _ => False) w0 ww ∧ Blk ww p1 29 (upto i a (bothB a b)) ∧ Blk ww p9 29 (b) ∧ Blk ww p19 29 (fun _ => 0)) (16 - (0)) ⟨0, by omega, rfl, s40, s41, s42, s39, s43, K30, B28.first, B29, B21⟩ ?_
 rintro n47 F44 w45 ⟨i, i48, hn47, s49, s50, s51, s52, s53, K46, B54, B55, B56⟩
 refine wq_seq ?_
 refine wq_region ?_
 refine wl_v (.bool (decide ((((i : Nat) : Int)) < (16)))) rfl rfl (y_lss rfl s53 rfl rfl ⟨rfl, rfl⟩) ?_
 refine wl_nil fun F57 hF58 => ?_
 have s59 := (hF58 2).trans s49
 have s60 := (hF58 3).trans s50
 have s61 := (hF58 4).trans s51
 have s62 := (hF58 23).trans s52
 have s63 := (hF58 6).trans s53
 have s64 : F57 7 = .bool (decide ((((i : Nat) : Int)) < (16))) := (hF58 7).trans rfl
 clear hF58
 refine then_normal ?_
 refine wq_seq ?_
 refine wq_cond s64 (fun c65 => ?_) (fun c65 => ?_)
 ·replace c65 := of_decide_eq_true c65
  refine wq_skip ?_
  refine then_normal ?_
  refine wq_seq ?_
  refine wq_block ?_
  refine wq_seq ?_
  refine wq_region ?_
  refine wl_v (.int .i64 (((i : Nat) : Int))) rfl rfl (y_mov rfl s63 ⟨rfl, rfl⟩) ?_
  refine wl_v (.int .i64 (((i : Nat) : Int))) rfl rfl (y_asg rfl rfl ⟨rfl, rfl⟩) ?_
  refine wl_nil fun F66 hF67 => ?_
  have s68 := (hF67 2).trans s59
  have s69 := (hF67 3).trans s60
  have s70 := (hF67 4).trans s61
  have s71 := (hF67 23).trans s62
  have s72 := (hF67 6).trans s63
  have s73 : F66 5 = .int .i64 (((i : Nat) : Int)) := (hF67 5).trans rfl
  clear hF67
  refine then_normal ?_
  have h1 := c8_le (a i)
  have h2 := c8_le (b i)
  refine wq_tail 12 [some 9, some 10, some 11, some 12, some 13, some 14, some 15, some 16, some 17, some 18, some 19, some 20] [Pd.eq (.int .i64 (((i : Nat) : Int))), Pd.eq (.int .i64 (((i : Nat) : Int))), Pd.eq (.pointer (some ⟨p1, i, none⟩)), Pd.eq (.int .i64 (a i)), Pd.eq (.int .i64 (c8 (a i))), Pd.eq (.int .i64 (((i : Nat) : Int))), Pd.eq (.pointer (some ⟨p9, i, none⟩)), Pd.eq (.int .i64 ((b) (i))), Pd.eq (.int .i64 (c8 (b i))), Pd.eq (.int .i64 ((c8 (a i)) + (c8 (b i)))), Pd.eq (.int .i64 ((c8 (a i) + c8 (b i) + 1) / 2)), Pd.eq (.pointer (some ⟨p1, i, none⟩))] (by kernel_rfl) (by kernel_rfl) (by kernel_rfl) ?_ ?_
  ·refine stepsF_cons ?_ ?_
   ·refine StepF.one rfl fun F_ w_ hR hout hD => ?_
    exact (y_mov rfl ((hout 5 rfl (by decide)).trans s73) ⟨rfl, Kept.refl _ _⟩)
   refine stepsF_cons ?_ ?_
   ·refine StepF.one rfl fun F_ w_ hR hout hD => ?_
    exact (y_mov rfl ((hout 5 rfl (by decide)).trans s73) ⟨rfl, Kept.refl _ _⟩)
   refine stepsF_cons ?_ ?_
   ·refine StepF.one rfl fun F_ w_ hR hout hD => ?_
    have g10 : F_ 10 = .int .i64 (((i : Nat) : Int)) := (hD.get 0 rfl rfl rfl)
    exact (y_atR (i) (s := 1) rfl ((hout 2 rfl (by decide)).trans s68) g10 (by omega) Tryz.underlying29 (by omega) (by kernel_rfl) (by omega) ⟨rfl, Kept.refl _ _⟩)
   refine stepsF_cons ?_ ?_
   ·refine StepF.one rfl fun F_ w_ hR hout hD => ?_
    have g11 : F_ 11 = .pointer (some ⟨p1, i, none⟩) := (hD.get 0 rfl rfl rfl)
    exact (y_ldR rfl g11 Tryz.underlying3 ((((B54.all hR id)).cell (by omega)).trans (some_int (upto_at i _ _))) ⟨rfl, Kept.refl _ _⟩)
   refine stepsF_cons ?_ ?_
   ·refine StepF.one rfl fun F_ w_ hR hout hD => ?_
    have g12 : F_ 12 = .int .i64 (a i) := (hD.get 0 rfl rfl rfl)
    exact (y_cs rfl rfl rfl (fun _ _ => by kernel_rfl) (ev_func _) (vsC g12 (vsC rfl (vsC rfl vsN))) (mo_clamped (a i) (0) (255)  _   ) (fun e_ w_ h_ => ⟨_, h_.1, congrArg (Value.int .i64) (by unfold c8; omega), h_.2⟩))
   refine stepsF_cons ?_ ?_
   ·refine StepF.one rfl fun F_ w_ hR hout hD => ?_
    exact (y_mov rfl ((hout 5 rfl (by decide)).trans s73) ⟨rfl, Kept.refl _ _⟩)
   refine stepsF_cons ?_ ?_
   ·refine StepF.one rfl fun F_ w_ hR hout hD => ?_
    have g14 : F_ 14 = .int .i64 (((i : Nat) : Int)) := (hD.get 0 rfl rfl rfl)
    exact (y_atR (i) (s := 1) rfl ((hout 3 rfl (by decide)).trans s69) g14 (by omega) Tryz.underlying29 (by omega) (by kernel_rfl) (by omega) ⟨rfl, Kept.refl _ _⟩)
   refine stepsF_cons ?_ ?_
   ·refine StepF.one rfl fun F_ w_ hR hout hD => ?_
    have g15 : F_ 15 = .pointer (some ⟨p9, i, none⟩) := (hD.get 0 rfl rfl rfl)
    exact (y_ldR rfl g15 Tryz.underlying3 (((B55.all hR id)).cell (by omega)) ⟨rfl, Kept.refl _ _⟩)
   refine stepsF_cons ?_ ?_
   ·refine StepF.one rfl fun F_ w_ hR hout hD => ?_
    have g16 : F_ 16 = .int .i64 ((b) (i)) := (hD.get 0 rfl rfl rfl)
    exact (y_cs rfl rfl rfl (fun _ _ => by kernel_rfl) (ev_func _) (vsC g16 (vsC rfl (vsC rfl vsN))) (mo_clamped ((b) (i)) (0) (255)  _   ) (fun e_ w_ h_ => ⟨_, h_.1, congrArg (Value.int .i64) (by unfold c8; omega), h_.2⟩))
   refine stepsF_cons ?_ ?_
   ·refine StepF.one rfl fun F_ w_ hR hout hD => ?_
    have g13 : F_ 13 = .int .i64 (c8 (a i)) := (hD.get 0 rfl rfl rfl)
    have g17 : F_ 17 = .int .i64 (c8 (b i)) := (hD.get 1 rfl rfl rfl)
    exact (y_add rfl g13 g17 (i64_i rfl (by omega)) ⟨rfl, Kept.refl _ _⟩)
   refine stepsF_cons ?_ ?_
   ·refine StepF.one rfl fun F_ w_ hR hout hD => ?_
    have g18 : F_ 18 = .int .i64 ((c8 (a i)) + (c8 (b i))) := (hD.get 0 rfl rfl rfl)
    exact (y_cs rfl rfl rfl (fun _ _ => by kernel_rfl) (ev_func _) (vsC g18 (vsC rfl vsN)) (mo_mean ((c8 (a i)) + (c8 (b i))) (2)  _ (by omega) (by omega)  ) (fun e_ w_ h_ => ⟨_, h_.1, congrArg (Value.int .i64) (by omega), h_.2⟩))
   refine stepsF_cons ?_ ?_
   ·refine StepF.one rfl fun F_ w_ hR hout hD => ?_
    have g9 : F_ 9 = .int .i64 (((i : Nat) : Int)) := (hD.get 0 rfl rfl rfl)
    exact (y_atR (i) (s := 1) rfl ((hout 2 rfl (by decide)).trans s68) g9 (by omega) Tryz.underlying29 (by omega) (by kernel_rfl) (by omega) ⟨rfl, Kept.refl _ _⟩)
   exact stepsF_nil
  intro v74 F75 w76 k77 G78 hF79
  have B81 := B54.all k77 id
  have B82 := B55.all k77 id
  have B83 := B56.all k77 id
  have K84 := K46.trans k77 (fun _ _ x => x.elim)
  have s85 := (hF79 2).trans s68
  have s86 := (hF79 3).trans s69
  have s87 := (hF79 4).trans s70
  have s88 := (hF79 23).trans s71
  have s89 := (hF79 6).trans s72
  have s90 : F75 19 = .int .i64 ((c8 (a i) + c8 (b i) + 1) / 2) := (hF79 19).trans (G78 10 (by decide))
  have s91 : F75 20 = .pointer (some ⟨p1, i, none⟩) := (hF79 20).trans (G78 11 (by decide))
  clear G78 hF79
  refine wl_set_blk rfl rfl rfl s91 s90 B81 (by omega) (by kernel_rfl) fun w92 B93 k94 => ?_
  have B95 := B82.all k94 (fun x => ((ap16) p9 rfl x))
  have B96 := B83.all k94 (fun x => ((ap26) p19 rfl x))
  have K97 := K84.trans k94 (Grew.ok (S := fun _ => False) gr7 noB_le)
  refine wl_nil fun F98 hF99 => ?_
  have s100 := (hF99 2).trans s85
  have s101 := (hF99 3).trans s86
  have s102 := (hF99 4).trans s87
  have s103 := (hF99 23).trans s88
  have s104 := (hF99 6).trans s89
  clear hF99
  refine in_normal ?_
  refine then_normal ?_
  refine wq_region ?_
  refine wl_v (.int .i64 (((i + 1 : Nat) : Int))) rfl rfl (y_add rfl s104 rfl (i64_n (by omega) (by omega)) ⟨rfl, rfl⟩) ?_
  refine wl_v (.int .i64 (((i + 1 : Nat) : Int))) rfl rfl (y_mov rfl rfl ⟨rfl, rfl⟩) ?_
  refine wl_nil fun F105 hF106 => ?_
  have s107 := (hF106 2).trans s100
  have s108 := (hF106 3).trans s101
  have s109 := (hF106 4).trans s102
  have s110 := (hF106 23).trans s103
  have s111 : F105 6 = .int .i64 (((i + 1 : Nat) : Int)) := (hF106 6).trans rfl
  clear hF106
  exact then_normal ⟨(16 - (i + 1)), by omega, i + 1, by omega, rfl, s107, s108, s109, s110, s111, K97, (B93.next (bothB_at a b i).symm), B95, B96⟩
 ·replace c65 := of_decide_eq_false c65
  refine wq_exit ?_
  refine then_exit ?_
  refine then_exit ?_
  have l112 : 16 = i := by omega
  subst l112
  have B113 : Blk w45 p1 29 (bothB a b) := (B54.last)
  refine in_here ?_
  refine then_normal ?_
  refine wq_seq ?_
  refine wq_region ?_
  refine wl_v (blkV (bothB a b)) rfl rfl (y_load_blk blkT_block rfl s59 B113 ⟨rfl, rfl⟩) ?_
  refine wl_store_blk blkT_block rfl rfl rfl s61 rfl B56 fun w114 B115 k116 => ?_
  have K119 := K46.trans k116 (Grew.ok (S := fun _ => False) gr25 noB_le)
  refine wl_nil fun F120 hF121 => ?_
  have s122 := (hF121 4).trans s61
  have s123 := (hF121 23).trans s62
  clear hF121
  refine then_normal ?_
  refine wq_ret ?_
  exact end_blk blkT_block s123 rfl rfl s122 B115 ⟨rfl, K119⟩
set_option maxHeartbeats 4000000 in
set_option maxRecDepth 100000 in
theorem mo_sample (p x y : Int) (f : FD) (f0 f1 f2 : Value) (T_f0 : Nat → Prop) (T_f1 : Nat → Prop) (T_f2 : Nat → Prop) (w0 : World) (h_f0 : Byt w0 T_f0 f0 ((f).p0)) (h_f1 : Byt w0 T_f1 f1 ((f).p1)) (h_f2 : Byt w0 T_f2 f2 ((f).p2)) :
  Calls Tryz.prog 42 #[.agg #[.int .i64 ((f).W), .int .i64 ((f).H), f0, f1, f2], .int .i64 (p), .int .i64 (x), .int .i64 (y)] w0 fun e w' => e = .returned (.int .i64 (smpF f p x y)) ∧ Kept (fun _ => False) w0 w' := by
 refine calls_wq (args := [.agg #[.int .i64 ((f).W), .int .i64 ((f).H), f0, f1, f2], .int .i64 (p), .int .i64 (x), .int .i64 (y)]) 72 Tryz.func42 rfl rfl (Nat.le_of_ble_eq_true rfl) ?_
 have K0 := Kept.refl (fun _ => False) w0
 have hb : Bytes3 f := ⟨h_f0.lt256, h_f1.lt256, h_f2.lt256⟩
 obtain ⟨u, hu⟩ : ∃ u, u = c256 x := ⟨_, rfl⟩
 obtain ⟨v, hv⟩ : ∃ v, v = c256 y := ⟨_, rfl⟩
 have hu2 : -256 ≤ u ∧ u ≤ 256 := by rw [hu]; unfold c256; omega
 have hv2 : -256 ≤ v ∧ v ≤ 256 := by rw [hv]; unfold c256; omega
 have hm : smpF f p x y = mid f p u v := by rw [hu, hv]; rfl
 have a1 := atF_le hb p (u / 2) (v / 2)
 have a2 := atF_le hb p ((u + 1) / 2) (v / 2)
 have a3 := atF_le hb p (u / 2) ((v + 1) / 2)
 have a4 := atF_le hb p ((u + 1) / 2) ((v + 1) / 2)
 obtain ⟨N, hN⟩ : ∃ N : Nat, (N : Int) = u % 2 + v % 2 := ⟨(u % 2 + v % 2).toNat, by omega⟩
 obtain ⟨M, hM⟩ : ∃ M : Int, M = 2 ^ N := ⟨_, rfl⟩
 have hM2 : (N = 0 ∧ M = 1) ∨ (N = 1 ∧ M = 2) ∨ (N = 2 ∧ M = 4) := by rcases (by omega : N = 0 ∨ N = 1 ∨ N = 2) with h | h | h <;> subst h <;> simp [hM]
 have g_f0 := Grew.refl w0 T_f0
 have g_f1 := Grew.refl w0 T_f1
 have g_f2 := Grew.refl w0 T_f2
 refine wq_seq ?_
 refine wq_region ?_
 refine wl_box_stc (vs := [.int .i64 ((f).W), .int .i64 ((f).H), f0, f1, f2]) rfl rfl rfl rfl fun p1 w2 B4 g5 k3 => ?_
 have B10 := h_f0.all k3 Apart.none
 have B11 := h_f1.all k3 Apart.none
 have B12 := h_f2.all k3 Apart.none
 have K13 := K0.trans k3 (fun _ _ x => x.elim)
 refine wl_v (.int .i64 (0)) rfl rfl (y_asg rfl rfl ⟨rfl, rfl⟩) ?_
 refine wl_nil fun F14 hF15 => ?_
 have s16 : F14 1 = .int .i64 (p) := (hF15 1).trans rfl
 have s17 : F14 2 = .int .i64 (x) := (hF15 2).trans rfl
 have s18 : F14 3 = .int .i64 (y) := (hF15 3).trans rfl
 have s19 : F14 72 = undef := (hF15 72).trans rfl
 have s20 : F14 4 = .pointer (some ⟨p1, 0, none⟩) := (hF15 4).trans rfl
 clear hF15
 refine then_normal ?_
 refine wq_seq ?_
 refine wq_region ?_
 refine wl_v (.int .i64 (x)) rfl rfl (y_mov rfl s17 ⟨rfl, rfl⟩) ?_
 refine wl_call (R := fun v_ w_ => v_ = .int .i64 (u) ∧ Kept (fun _ => False) w2 w_) rfl rfl (y_cs rfl rfl rfl (fun _ _ => by kernel_rfl) (ev_func _) (vsC rfl (vsC rfl (vsC rfl vsN))) (mo_clamped (x) (-256) (256)  _   ) (fun e_ w_ h_ => ⟨_, h_.1, congrArg (Value.int .i64) (by rw [hu]; unfold c256; omega), h_.2⟩)) ?_
 rintro _ w21 ⟨rfl, k22⟩
 have B23 := B10.all k22 Apart.none
 have B24 := B11.all k22 Apart.none
 have B25 := B12.all k22 Apart.none
 have B26 := B4.all k22 id
 have K27 := K13.trans k22 (fun _ _ x => x.elim)
 refine wl_v (.int .i64 (y)) rfl rfl (y_mov rfl s18 ⟨rfl, rfl⟩) ?_
 refine wl_call (R := fun v_ w_ => v_ = .int .i64 (v) ∧ Kept (fun _ => False) w21 w_) rfl rfl (y_cs rfl rfl rfl (fun _ _ => by kernel_rfl) (ev_func _) (vsC rfl (vsC rfl (vsC rfl vsN))) (mo_clamped (y) (-256) (256)  _   ) (fun e_ w_ h_ => ⟨_, h_.1, congrArg (Value.int .i64) (by rw [hv]; unfold c256; omega), h_.2⟩)) ?_
 rintro _ w28 ⟨rfl, k29⟩
 have B30 := B23.all k29 Apart.none
 have B31 := B24.all k29 Apart.none
 have B32 := B25.all k29 Apart.none
 have B33 := B26.all k29 id
 have K34 := K27.trans k29 (fun _ _ x => x.elim)
 refine wl_v (.int .i64 (u)) rfl rfl (y_asg rfl rfl ⟨rfl, rfl⟩) ?_
 refine wl_v (.int .i64 (v)) rfl rfl (y_asg rfl rfl ⟨rfl, rfl⟩) ?_
 refine wl_nil fun F35 hF36 => ?_
 have s37 := (hF36 1).trans s16
 have s38 := (hF36 72).trans s19
 have s39 := (hF36 4).trans s20
 have s40 : F35 2 = .int .i64 (u) := (hF36 2).trans rfl
 have s41 : F35 3 = .int .i64 (v) := (hF36 3).trans rfl
 clear hF36
 refine then_normal ?_
 refine wq_seq ?_
 refine wq_region ?_
 refine wl_v (.int .i64 (u)) rfl rfl (y_mov rfl s40 ⟨rfl, rfl⟩) ?_
 refine wl_v (.int .i64 (u / 2)) rfl rfl (y_shrR 1 rfl rfl rfl (by decide) ((by simp)) ⟨rfl, rfl⟩) ?_
 refine wl_v (.int .i64 (v)) rfl rfl (y_mov rfl s41 ⟨rfl, rfl⟩) ?_
 refine wl_v (.int .i64 (v / 2)) rfl rfl (y_shrR 1 rfl rfl rfl (by decide) ((by simp)) ⟨rfl, rfl⟩) ?_
 refine wl_v (.int .i64 (u / 2)) rfl rfl (y_asg rfl rfl ⟨rfl, rfl⟩) ?_
 refine wl_v (.int .i64 (v / 2)) rfl rfl (y_asg rfl rfl ⟨rfl, rfl⟩) ?_
 refine wl_nil fun F42 hF43 => ?_
 have s44 := (hF43 1).trans s37
 have s45 := (hF43 72).trans s38
 have s46 := (hF43 4).trans s39
 have s47 := (hF43 2).trans s40
 have s48 := (hF43 3).trans s41
 have s49 : F42 9 = .int .i64 (u / 2) := (hF43 9).trans rfl
 have s50 : F42 10 = .int .i64 (v / 2) := (hF43 10).trans rfl
 clear hF43
 refine then_normal ?_
 refine wq_seq ?_
 refine wq_region ?_
 refine wl_v (.int .i64 (u)) rfl rfl (y_mov rfl s47 ⟨rfl, rfl⟩) ?_
 refine wl_v (.int .i64 (u % 2)) rfl rfl (y_andR rfl rfl rfl (and_one hu2) ⟨rfl, rfl⟩) ?_
 refine wl_v (.int .i64 (v)) rfl rfl (y_mov rfl s48 ⟨rfl, rfl⟩) ?_
 refine wl_v (.int .i64 (v % 2)) rfl rfl (y_andR rfl rfl rfl (and_one hv2) ⟨rfl, rfl⟩) ?_
 refine wl_v (.int .i64 (u % 2)) rfl rfl (y_asg rfl rfl ⟨rfl, rfl⟩) ?_
 refine wl_v (.int .i64 (v % 2)) rfl rfl (y_asg rfl rfl ⟨rfl, rfl⟩) ?_
 refine wl_nil fun F51 hF52 => ?_
 have s53 := (hF52 1).trans s44
 have s54 := (hF52 72).trans s45
 have s55 := (hF52 4).trans s46
 have s56 := (hF52 9).trans s49
 have s57 := (hF52 10).trans s50
 have s58 : F51 11 = .int .i64 (u % 2) := (hF52 11).trans rfl
 have s59 : F51 12 = .int .i64 (v % 2) := (hF52 12).trans rfl
 clear hF52
 refine then_normal ?_
 refine wq_seq ?_
 refine wq_region ?_
 refine wl_v (.int .i64 (0)) rfl rfl (y_asg rfl rfl ⟨rfl, rfl⟩) ?_
 refine wl_nil fun F60 hF61 => ?_
 have s62 := (hF61 1).trans s53
 have s63 := (hF61 72).trans s54
 have s64 := (hF61 4).trans s55
 have s65 := (hF61 9).trans s56
 have s66 := (hF61 10).trans s57
 have s67 := (hF61 11).trans s58
 have s68 := (hF61 12).trans s59
 have s69 : F60 13 = .int .i64 (0) := (hF61 13).trans rfl
 clear hF61
 refine then_normal ?_
 refine wq_seq ?_
 refine wq_seq ?_
 refine wq_region ?_
 refine wl_v (.int .i64 (u % 2)) rfl rfl (y_mov rfl s67 ⟨rfl, rfl⟩) ?_
 refine wl_v (.int .i64 (v % 2)) rfl rfl (y_mov rfl s68 ⟨rfl, rfl⟩) ?_
 refine wl_v (.int .i64 (((N : Nat) : Int))) rfl rfl (y_add rfl rfl rfl (i64_i hN.symm (by omega)) ⟨rfl, rfl⟩) ?_
 refine wl_nil fun F70 hF71 => ?_
 have s72 := (hF71 1).trans s62
 have s73 := (hF71 72).trans s63
 have s74 := (hF71 4).trans s64
 have s75 := (hF71 9).trans s65
 have s76 := (hF71 10).trans s66
 have s77 := (hF71 11).trans s67
 have s78 := (hF71 12).trans s68
 have s79 := (hF71 13).trans s69
 have s80 : F70 28 = .int .i64 (((N : Nat) : Int)) := (hF71 28).trans rfl
 clear hF71
 refine then_normal ?_
 refine wq_block ?_
 refine wq_seq ?_
 refine wq_block ?_
 refine wq_seq ?_
 refine wq_block ?_
 refine wq_seq ?_
 refine wq_block ?_
 refine wq_seq ?_
 refine wq_seq ?_
 refine wq_seq ?_
 refine wq_region ?_
 refine wl_v (.bool (decide ((((N : Nat) : Int)) = (2)))) rfl rfl (y_eqlI rfl s80 rfl rfl ⟨rfl, rfl⟩) ?_
 refine wl_v (.bool (decide ((((N : Nat) : Int)) = (2)))) rfl rfl (y_asg rfl rfl ⟨rfl, rfl⟩) ?_
 refine wl_nil fun F81 hF82 => ?_
 have s83 := (hF82 1).trans s72
 have s84 := (hF82 72).trans s73
 have s85 := (hF82 4).trans s74
 have s86 := (hF82 9).trans s75
 have s87 := (hF82 10).trans s76
 have s88 := (hF82 11).trans s77
 have s89 := (hF82 12).trans s78
 have s90 := (hF82 13).trans s79
 have s91 := (hF82 28).trans s80
 have s92 : F81 29 = .bool (decide ((((N : Nat) : Int)) = (2))) := (hF82 29).trans rfl
 clear hF82
 refine then_normal ?_
 refine wq_cond s92 (fun c93 => ?_) (fun c93 => ?_)
 ·replace c93 := of_decide_eq_true c93
  refine wq_exit ?_
  refine then_exit ?_
  refine then_exit ?_
  refine in_here ?_
  refine then_normal ?_
  refine wq_tail 15 [some 33, some 34, some 35, some 36, some 37, some 38, some 39, some 40, some 41, some 42, some 43, some 44, some 45, some 46, some 47] [Pd.eq (.int .i64 (0)), Pd.eq (.agg #[.int .i64 ((f).W), .int .i64 ((f).H), f0, f1, f2]), Pd.eq (.int .i64 (p)), Pd.eq (.int .i64 (u / 2)), Pd.eq (.int .i64 ((u + 1) / 2)), Pd.eq (.int .i64 (v / 2)), Pd.eq (.int .i64 (atF (f) (p) ((u + 1) / 2) (v / 2))), Pd.eq (.agg #[.int .i64 ((f).W), .int .i64 ((f).H), f0, f1, f2]), Pd.eq (.int .i64 (p)), Pd.eq (.int .i64 (u / 2)), Pd.eq (.int .i64 (v / 2)), Pd.eq (.int .i64 ((v + 1) / 2)), Pd.eq (.int .i64 (atF (f) (p) (u / 2) ((v + 1) / 2))), Pd.eq (.int .i64 ((atF (f) (p) ((u + 1) / 2) (v / 2)) + (atF (f) (p) (u / 2) ((v + 1) / 2)))), Pd.eq (.int .i64 ((0) + ((atF (f) (p) ((u + 1) / 2) (v / 2)) + (atF (f) (p) (u / 2) ((v + 1) / 2)))))] (by kernel_rfl) (by kernel_rfl) (by kernel_rfl) ?_ ?_
  ·refine stepsF_cons ?_ ?_
   ·refine StepF.one rfl fun F_ w_ hR hout hD => ?_
    exact (y_mov rfl ((hout 13 rfl (by decide)).trans s90) ⟨rfl, Kept.refl _ _⟩)
   refine stepsF_cons ?_ ?_
   ·refine StepF.one rfl fun F_ w_ hR hout hD => ?_
    exact (y_load_stc stcT_frame rfl ((hout 4 rfl (by decide)).trans s85) (B33.all hR id) ⟨rfl, Kept.refl _ _⟩)
   refine stepsF_cons ?_ ?_
   ·refine StepF.one rfl fun F_ w_ hR hout hD => ?_
    exact (y_mov rfl ((hout 1 rfl (by decide)).trans s83) ⟨rfl, Kept.refl _ _⟩)
   refine stepsF_cons ?_ ?_
   ·refine StepF.one rfl fun F_ w_ hR hout hD => ?_
    exact (y_mov rfl ((hout 9 rfl (by decide)).trans s86) ⟨rfl, Kept.refl _ _⟩)
   refine stepsF_cons ?_ ?_
   ·refine StepF.one rfl fun F_ w_ hR hout hD => ?_
    have g36 : F_ 36 = .int .i64 (u / 2) := (hD.get 0 rfl rfl rfl)
    exact (y_add rfl g36 rfl (i64_i (by omega) (by omega)) ⟨rfl, Kept.refl _ _⟩)
   refine stepsF_cons ?_ ?_
   ·refine StepF.one rfl fun F_ w_ hR hout hD => ?_
    exact (y_mov rfl ((hout 10 rfl (by decide)).trans s87) ⟨rfl, Kept.refl _ _⟩)
   refine stepsF_cons ?_ ?_
   ·refine StepF.one rfl fun F_ w_ hR hout hD => ?_
    have g34 : F_ 34 = .agg #[.int .i64 ((f).W), .int .i64 ((f).H), f0, f1, f2] := (hD.get 0 rfl rfl rfl)
    have g35 : F_ 35 = .int .i64 (p) := (hD.get 1 rfl rfl rfl)
    have g37 : F_ 37 = .int .i64 ((u + 1) / 2) := (hD.get 2 rfl rfl rfl)
    have g38 : F_ 38 = .int .i64 (v / 2) := (hD.get 3 rfl rfl rfl)
    exact (y_cs rfl rfl rfl (fun _ _ => by kernel_rfl) (ev_func _) (vsC g34 (vsC g35 (vsC g37 (vsC g38 vsN)))) (pl_at (p) ((u + 1) / 2) (v / 2) (f) (f0) (f1) (f2) (T_f0) (T_f1) (T_f2) _  (B30.all hR Apart.none) (B31.all hR Apart.none) (B32.all hR Apart.none) ) (fun e_ w_ h_ => ⟨_, h_.1, rfl, h_.2⟩))
   refine stepsF_cons ?_ ?_
   ·refine StepF.one rfl fun F_ w_ hR hout hD => ?_
    exact (y_load_stc stcT_frame rfl ((hout 4 rfl (by decide)).trans s85) (B33.all hR id) ⟨rfl, Kept.refl _ _⟩)
   refine stepsF_cons ?_ ?_
   ·refine StepF.one rfl fun F_ w_ hR hout hD => ?_
    exact (y_mov rfl ((hout 1 rfl (by decide)).trans s83) ⟨rfl, Kept.refl _ _⟩)
   refine stepsF_cons ?_ ?_
   ·refine StepF.one rfl fun F_ w_ hR hout hD => ?_
    exact (y_mov rfl ((hout 9 rfl (by decide)).trans s86) ⟨rfl, Kept.refl _ _⟩)
   refine stepsF_cons ?_ ?_
   ·refine StepF.one rfl fun F_ w_ hR hout hD => ?_
    exact (y_mov rfl ((hout 10 rfl (by decide)).trans s87) ⟨rfl, Kept.refl _ _⟩)
   refine stepsF_cons ?_ ?_
   ·refine StepF.one rfl fun F_ w_ hR hout hD => ?_
    have g43 : F_ 43 = .int .i64 (v / 2) := (hD.get 0 rfl rfl rfl)
    exact (y_add rfl g43 rfl (i64_i (by omega) (by omega)) ⟨rfl, Kept.refl _ _⟩)
   refine stepsF_cons ?_ ?_
   ·refine StepF.one rfl fun F_ w_ hR hout hD => ?_
    have g40 : F_ 40 = .agg #[.int .i64 ((f).W), .int .i64 ((f).H), f0, f1, f2] := (hD.get 0 rfl rfl rfl)
    have g41 : F_ 41 = .int .i64 (p) := (hD.get 1 rfl rfl rfl)
    have g42 : F_ 42 = .int .i64 (u / 2) := (hD.get 2 rfl rfl rfl)
    have g44 : F_ 44 = .int .i64 ((v + 1) / 2) := (hD.get 3 rfl rfl rfl)
    exact (y_cs rfl rfl rfl (fun _ _ => by kernel_rfl) (ev_func _) (vsC g40 (vsC g41 (vsC g42 (vsC g44 vsN)))) (pl_at (p) (u / 2) ((v + 1) / 2) (f) (f0) (f1) (f2) (T_f0) (T_f1) (T_f2) _  (B30.all hR Apart.none) (B31.all hR Apart.none) (B32.all hR Apart.none) ) (fun e_ w_ h_ => ⟨_, h_.1, rfl, h_.2⟩))
   refine stepsF_cons ?_ ?_
   ·refine StepF.one rfl fun F_ w_ hR hout hD => ?_
    have g39 : F_ 39 = .int .i64 (atF (f) (p) ((u + 1) / 2) (v / 2)) := (hD.get 0 rfl rfl rfl)
    have g45 : F_ 45 = .int .i64 (atF (f) (p) (u / 2) ((v + 1) / 2)) := (hD.get 1 rfl rfl rfl)
    exact (y_add rfl g39 g45 (i64_i rfl (by omega)) ⟨rfl, Kept.refl _ _⟩)
   refine stepsF_cons ?_ ?_
   ·refine StepF.one rfl fun F_ w_ hR hout hD => ?_
    have g33 : F_ 33 = .int .i64 (0) := (hD.get 0 rfl rfl rfl)
    have g46 : F_ 46 = .int .i64 ((atF (f) (p) ((u + 1) / 2) (v / 2)) + (atF (f) (p) (u / 2) ((v + 1) / 2))) := (hD.get 1 rfl rfl rfl)
    exact (y_add rfl g33 g46 (i64_i rfl (by omega)) ⟨rfl, Kept.refl _ _⟩)
   exact stepsF_nil
  intro v94 F95 w96 k97 G98 hF99
  have B101 := B30.all k97 Apart.none
  have B102 := B31.all k97 Apart.none
  have B103 := B32.all k97 Apart.none
  have B104 := B33.all k97 id
  have K105 := K34.trans k97 (fun _ _ x => x.elim)
  have s106 := (hF99 1).trans s83
  have s107 := (hF99 72).trans s84
  have s108 := (hF99 4).trans s85
  have s109 := (hF99 9).trans s86
  have s110 := (hF99 10).trans s87
  have s111 := (hF99 11).trans s88
  have s112 := (hF99 12).trans s89
  have s114 : F95 47 = .int .i64 ((0) + ((atF (f) (p) ((u + 1) / 2) (v / 2)) + (atF (f) (p) (u / 2) ((v + 1) / 2)))) := (hF99 47).trans (G98 14 (by decide))
  clear G98 hF99
  refine wl_v (.int .i64 ((0) + ((atF (f) (p) ((u + 1) / 2) (v / 2)) + (atF (f) (p) (u / 2) ((v + 1) / 2))))) rfl rfl (y_asg rfl s114 ⟨rfl, rfl⟩) ?_
  refine wl_nil fun F115 hF116 => ?_
  have s117 := (hF116 1).trans s106
  have s118 := (hF116 72).trans s107
  have s119 := (hF116 4).trans s108
  have s120 := (hF116 9).trans s109
  have s121 := (hF116 10).trans s110
  have s122 := (hF116 11).trans s111
  have s123 := (hF116 12).trans s112
  have s124 : F115 13 = .int .i64 ((0) + ((atF (f) (p) ((u + 1) / 2) (v / 2)) + (atF (f) (p) (u / 2) ((v + 1) / 2)))) := (hF116 13).trans rfl
  clear hF116
  refine in_normal ?_
  refine then_normal ?_
  refine wq_region ?_
  refine wl_v (.int .i64 ((0) + ((atF (f) (p) ((u + 1) / 2) (v / 2)) + (atF (f) (p) (u / 2) ((v + 1) / 2))))) rfl rfl (y_mov rfl s124 ⟨rfl, rfl⟩) ?_
  refine wl_v (.agg #[.int .i64 ((f).W), .int .i64 ((f).H), f0, f1, f2]) rfl rfl (y_load_stc stcT_frame rfl s119 B104 ⟨rfl, rfl⟩) ?_
  refine wl_v (.int .i64 (p)) rfl rfl (y_mov rfl s117 ⟨rfl, rfl⟩) ?_
  refine wl_v (.int .i64 (u / 2)) rfl rfl (y_mov rfl s120 ⟨rfl, rfl⟩) ?_
  refine wl_v (.int .i64 (u % 2)) rfl rfl (y_mov rfl s122 ⟨rfl, rfl⟩) ?_
  refine wl_v (.int .i64 ((u + 1) / 2)) rfl rfl (y_add rfl rfl rfl (i64_i (by omega) (by omega)) ⟨rfl, rfl⟩) ?_
  refine wl_v (.int .i64 (v / 2)) rfl rfl (y_mov rfl s121 ⟨rfl, rfl⟩) ?_
  refine wl_v (.int .i64 (v % 2)) rfl rfl (y_mov rfl s123 ⟨rfl, rfl⟩) ?_
  refine wl_v (.int .i64 ((v + 1) / 2)) rfl rfl (y_add rfl rfl rfl (i64_i (by omega) (by omega)) ⟨rfl, rfl⟩) ?_
  refine wl_call (R := fun v_ w_ => v_ = .int .i64 (atF (f) (p) ((u + 1) / 2) ((v + 1) / 2)) ∧ Kept (fun _ => False) w96 w_) rfl rfl (y_cs rfl rfl rfl (fun _ _ => by kernel_rfl) (ev_func _) (vsC rfl (vsC rfl (vsC rfl (vsC rfl vsN)))) (pl_at (p) ((u + 1) / 2) ((v + 1) / 2) (f) (f0) (f1) (f2) (T_f0) (T_f1) (T_f2) _  B101 B102 B103 ) (fun e_ w_ h_ => ⟨_, h_.1, rfl, h_.2⟩)) ?_
  rintro _ w125 ⟨rfl, k126⟩
  have B127 := B101.all k126 Apart.none
  have B128 := B102.all k126 Apart.none
  have B129 := B103.all k126 Apart.none
  have B130 := B104.all k126 id
  have K131 := K105.trans k126 (fun _ _ x => x.elim)
  refine wl_v (.int .i64 (((0) + ((atF (f) (p) ((u + 1) / 2) (v / 2)) + (atF (f) (p) (u / 2) ((v + 1) / 2)))) + (atF (f) (p) ((u + 1) / 2) ((v + 1) / 2)))) rfl rfl (y_add rfl rfl rfl (i64_i rfl (by omega)) ⟨rfl, rfl⟩) ?_
  refine wl_v (.int .i64 (((0) + ((atF (f) (p) ((u + 1) / 2) (v / 2)) + (atF (f) (p) (u / 2) ((v + 1) / 2)))) + (atF (f) (p) ((u + 1) / 2) ((v + 1) / 2)))) rfl rfl (y_asg rfl rfl ⟨rfl, rfl⟩) ?_
  refine wl_nil fun F132 hF133 => ?_
  have s134 := (hF133 1).trans s117
  have s135 := (hF133 72).trans s118
  have s136 := (hF133 4).trans s119
  have s137 := (hF133 9).trans s120
  have s138 := (hF133 10).trans s121
  have s139 := (hF133 11).trans s122
  have s140 := (hF133 12).trans s123
  have s141 : F132 13 = .int .i64 (((0) + ((atF (f) (p) ((u + 1) / 2) (v / 2)) + (atF (f) (p) (u / 2) ((v + 1) / 2)))) + (atF (f) (p) ((u + 1) / 2) ((v + 1) / 2))) := (hF133 13).trans rfl
  clear hF133
  refine in_normal ?_
  refine then_normal ?_
  refine wq_seq ?_
  refine wq_region ?_
  refine wl_v (.int .i64 (((0) + ((atF (f) (p) ((u + 1) / 2) (v / 2)) + (atF (f) (p) (u / 2) ((v + 1) / 2)))) + (atF (f) (p) ((u + 1) / 2) ((v + 1) / 2)))) rfl rfl (y_mov rfl s141 ⟨rfl, rfl⟩) ?_
  refine wl_v (.agg #[.int .i64 ((f).W), .int .i64 ((f).H), f0, f1, f2]) rfl rfl (y_load_stc stcT_frame rfl s136 B130 ⟨rfl, rfl⟩) ?_
  refine wl_v (.int .i64 (p)) rfl rfl (y_mov rfl s134 ⟨rfl, rfl⟩) ?_
  refine wl_v (.int .i64 (u / 2)) rfl rfl (y_mov rfl s137 ⟨rfl, rfl⟩) ?_
  refine wl_v (.int .i64 (v / 2)) rfl rfl (y_mov rfl s138 ⟨rfl, rfl⟩) ?_
  refine wl_call (R := fun v_ w_ => v_ = .int .i64 (atF (f) (p) (u / 2) (v / 2)) ∧ Kept (fun _ => False) w125 w_) rfl rfl (y_cs rfl rfl rfl (fun _ _ => by kernel_rfl) (ev_func _) (vsC rfl (vsC rfl (vsC rfl (vsC rfl vsN)))) (pl_at (p) (u / 2) (v / 2) (f) (f0) (f1) (f2) (T_f0) (T_f1) (T_f2) _  B127 B128 B129 ) (fun e_ w_ h_ => ⟨_, h_.1, rfl, h_.2⟩)) ?_
  rintro _ w142 ⟨rfl, k143⟩
  have K148 := K131.trans k143 (fun _ _ x => x.elim)
  refine wl_v (.int .i64 ((((0) + ((atF (f) (p) ((u + 1) / 2) (v / 2)) + (atF (f) (p) (u / 2) ((v + 1) / 2)))) + (atF (f) (p) ((u + 1) / 2) ((v + 1) / 2))) + (atF (f) (p) (u / 2) (v / 2)))) rfl rfl (y_add rfl rfl rfl (i64_i rfl (by omega)) ⟨rfl, rfl⟩) ?_
  refine wl_v (.int .i64 ((((0) + ((atF (f) (p) ((u + 1) / 2) (v / 2)) + (atF (f) (p) (u / 2) ((v + 1) / 2)))) + (atF (f) (p) ((u + 1) / 2) ((v + 1) / 2))) + (atF (f) (p) (u / 2) (v / 2)))) rfl rfl (y_asg rfl rfl ⟨rfl, rfl⟩) ?_
  refine wl_nil fun F149 hF150 => ?_
  have s151 := (hF150 72).trans s135
  have s152 := (hF150 11).trans s139
  have s153 := (hF150 12).trans s140
  have s154 : F149 13 = .int .i64 ((((0) + ((atF (f) (p) ((u + 1) / 2) (v / 2)) + (atF (f) (p) (u / 2) ((v + 1) / 2)))) + (atF (f) (p) ((u + 1) / 2) ((v + 1) / 2))) + (atF (f) (p) (u / 2) (v / 2))) := (hF150 13).trans rfl
  clear hF150
  refine then_normal ?_
  refine wq_exit ?_
  refine in_here ?_
  refine then_normal ?_
  refine wq_seq ?_
  refine wq_region ?_
  refine wl_v (.int .i64 ((((0) + ((atF (f) (p) ((u + 1) / 2) (v / 2)) + (atF (f) (p) (u / 2) ((v + 1) / 2)))) + (atF (f) (p) ((u + 1) / 2) ((v + 1) / 2))) + (atF (f) (p) (u / 2) (v / 2)))) rfl rfl (y_mov rfl s154 ⟨rfl, rfl⟩) ?_
  refine wl_v (.int .i64 (u % 2)) rfl rfl (y_mov rfl s152 ⟨rfl, rfl⟩) ?_
  refine wl_v (.int .i64 (v % 2)) rfl rfl (y_mov rfl s153 ⟨rfl, rfl⟩) ?_
  refine wl_v (.int .i64 (((N : Nat) : Int))) rfl rfl (y_add rfl rfl rfl (i64_i hN.symm (by omega)) ⟨rfl, rfl⟩) ?_
  refine wl_v (.int .i64 (M)) rfl rfl (y_shlR (N) rfl rfl rfl ((by rcases hM2 with ⟨h1, h2⟩ | ⟨h1, h2⟩ | ⟨h1, h2⟩ <;> subst h1 <;> rw [h2] <;> rfl)) ⟨rfl, rfl⟩) ?_
  refine wl_call (R := fun v_ w_ => v_ = .int .i64 (mid f p u v) ∧ Kept (fun _ => False) w142 w_) rfl rfl (y_cs rfl rfl rfl (fun _ _ => by kernel_rfl) (ev_func _) (vsC rfl (vsC rfl vsN)) (mo_mean ((((0) + ((atF (f) (p) ((u + 1) / 2) (v / 2)) + (atF (f) (p) (u / 2) ((v + 1) / 2)))) + (atF (f) (p) ((u + 1) / 2) ((v + 1) / 2))) + (atF (f) (p) (u / 2) (v / 2))) (M)  _ (by omega) (by omega)  ) (fun e_ w_ h_ => ⟨_, h_.1, congrArg (Value.int .i64) (by first | (rw [(by omega : M = 4)]; have e := mid_none (f := f) (p := p) (u := u) (v := v) (by omega) (by omega); omega) | (rw [(by omega : M = 2)]; rcases (by omega : u % 2 = 0 ∨ v % 2 = 0) with h0 | h0; (have e := mid_down (f := f) (p := p) (u := u) (v := v) (by omega) (by omega); rw [show (u + 1) / 2 = u / 2 by omega]; omega); (have e := mid_side (f := f) (p := p) (u := u) (v := v) (by omega) (by omega); rw [show (v + 1) / 2 = v / 2 by omega]; omega)) | (rw [(by omega : M = 1)]; have e := mid_both (f := f) (p := p) (u := u) (v := v) (by omega) (by omega); omega)), h_.2⟩)) ?_
  rintro _ w155 ⟨rfl, k156⟩
  have K161 := K148.trans k156 (fun _ _ x => x.elim)
  refine wl_v (.int .i64 (mid f p u v)) rfl rfl (y_asg rfl rfl ⟨rfl, rfl⟩) ?_
  refine wl_nil fun F162 hF163 => ?_
  have s164 := (hF163 72).trans s151
  have s165 : F162 8 = .int .i64 (mid f p u v) := (hF163 8).trans rfl
  clear hF163
  refine then_normal ?_
  refine wq_ret ?_
  exact end_tmp (v := .int .i64 (mid f p u v)) s164 rfl rfl s165 ⟨(by rw [hm]), K161⟩
 ·replace c93 := of_decide_eq_false c93
  refine wq_skip ?_
  refine then_normal ?_
  refine wq_seq ?_
  refine wq_region ?_
  refine wl_v (.bool (decide ((((N : Nat) : Int)) = (1)))) rfl rfl (y_eqlI rfl s91 rfl rfl ⟨rfl, rfl⟩) ?_
  refine wl_v (.bool (decide ((((N : Nat) : Int)) = (1)))) rfl rfl (y_asg rfl rfl ⟨rfl, rfl⟩) ?_
  refine wl_nil fun F166 hF167 => ?_
  have s168 := (hF167 1).trans s83
  have s169 := (hF167 72).trans s84
  have s170 := (hF167 4).trans s85
  have s171 := (hF167 9).trans s86
  have s172 := (hF167 10).trans s87
  have s173 := (hF167 11).trans s88
  have s174 := (hF167 12).trans s89
  have s175 := (hF167 13).trans s90
  have s176 : F166 31 = .bool (decide ((((N : Nat) : Int)) = (1))) := (hF167 31).trans rfl
  clear hF167
  refine then_normal ?_
  refine wq_cond s176 (fun c177 => ?_) (fun c177 => ?_)
  ·replace c177 := of_decide_eq_true c177
   refine wq_exit ?_
   refine then_exit ?_
   refine in_other (by decide) ?_
   refine then_exit ?_
   refine in_here ?_
   refine then_normal ?_
   refine wq_region ?_
   refine wl_v (.int .i64 (0)) rfl rfl (y_mov rfl s175 ⟨rfl, rfl⟩) ?_
   refine wl_v (.agg #[.int .i64 ((f).W), .int .i64 ((f).H), f0, f1, f2]) rfl rfl (y_load_stc stcT_frame rfl s170 B33 ⟨rfl, rfl⟩) ?_
   refine wl_v (.int .i64 (p)) rfl rfl (y_mov rfl s168 ⟨rfl, rfl⟩) ?_
   refine wl_v (.int .i64 (u / 2)) rfl rfl (y_mov rfl s171 ⟨rfl, rfl⟩) ?_
   refine wl_v (.int .i64 (u % 2)) rfl rfl (y_mov rfl s173 ⟨rfl, rfl⟩) ?_
   refine wl_v (.int .i64 ((u + 1) / 2)) rfl rfl (y_add rfl rfl rfl (i64_i (by omega) (by omega)) ⟨rfl, rfl⟩) ?_
   refine wl_v (.int .i64 (v / 2)) rfl rfl (y_mov rfl s172 ⟨rfl, rfl⟩) ?_
   refine wl_v (.int .i64 (v % 2)) rfl rfl (y_mov rfl s174 ⟨rfl, rfl⟩) ?_
   refine wl_v (.int .i64 ((v + 1) / 2)) rfl rfl (y_add rfl rfl rfl (i64_i (by omega) (by omega)) ⟨rfl, rfl⟩) ?_
   refine wl_call (R := fun v_ w_ => v_ = .int .i64 (atF (f) (p) ((u + 1) / 2) ((v + 1) / 2)) ∧ Kept (fun _ => False) w28 w_) rfl rfl (y_cs rfl rfl rfl (fun _ _ => by kernel_rfl) (ev_func _) (vsC rfl (vsC rfl (vsC rfl (vsC rfl vsN)))) (pl_at (p) ((u + 1) / 2) ((v + 1) / 2) (f) (f0) (f1) (f2) (T_f0) (T_f1) (T_f2) _  B30 B31 B32 ) (fun e_ w_ h_ => ⟨_, h_.1, rfl, h_.2⟩)) ?_
   rintro _ w178 ⟨rfl, k179⟩
   have B180 := B30.all k179 Apart.none
   have B181 := B31.all k179 Apart.none
   have B182 := B32.all k179 Apart.none
   have B183 := B33.all k179 id
   have K184 := K34.trans k179 (fun _ _ x => x.elim)
   refine wl_v (.int .i64 ((0) + (atF (f) (p) ((u + 1) / 2) ((v + 1) / 2)))) rfl rfl (y_add rfl rfl rfl (i64_i rfl (by omega)) ⟨rfl, rfl⟩) ?_
   refine wl_v (.int .i64 ((0) + (atF (f) (p) ((u + 1) / 2) ((v + 1) / 2)))) rfl rfl (y_asg rfl rfl ⟨rfl, rfl⟩) ?_
   refine wl_nil fun F185 hF186 => ?_
   have s187 := (hF186 1).trans s168
   have s188 := (hF186 72).trans s169
   have s189 := (hF186 4).trans s170
   have s190 := (hF186 9).trans s171
   have s191 := (hF186 10).trans s172
   have s192 := (hF186 11).trans s173
   have s193 := (hF186 12).trans s174
   have s194 : F185 13 = .int .i64 ((0) + (atF (f) (p) ((u + 1) / 2) ((v + 1) / 2))) := (hF186 13).trans rfl
   clear hF186
   refine in_normal ?_
   refine then_normal ?_
   refine wq_seq ?_
   refine wq_region ?_
   refine wl_v (.int .i64 ((0) + (atF (f) (p) ((u + 1) / 2) ((v + 1) / 2)))) rfl rfl (y_mov rfl s194 ⟨rfl, rfl⟩) ?_
   refine wl_v (.agg #[.int .i64 ((f).W), .int .i64 ((f).H), f0, f1, f2]) rfl rfl (y_load_stc stcT_frame rfl s189 B183 ⟨rfl, rfl⟩) ?_
   refine wl_v (.int .i64 (p)) rfl rfl (y_mov rfl s187 ⟨rfl, rfl⟩) ?_
   refine wl_v (.int .i64 (u / 2)) rfl rfl (y_mov rfl s190 ⟨rfl, rfl⟩) ?_
   refine wl_v (.int .i64 (v / 2)) rfl rfl (y_mov rfl s191 ⟨rfl, rfl⟩) ?_
   refine wl_call (R := fun v_ w_ => v_ = .int .i64 (atF (f) (p) (u / 2) (v / 2)) ∧ Kept (fun _ => False) w178 w_) rfl rfl (y_cs rfl rfl rfl (fun _ _ => by kernel_rfl) (ev_func _) (vsC rfl (vsC rfl (vsC rfl (vsC rfl vsN)))) (pl_at (p) (u / 2) (v / 2) (f) (f0) (f1) (f2) (T_f0) (T_f1) (T_f2) _  B180 B181 B182 ) (fun e_ w_ h_ => ⟨_, h_.1, rfl, h_.2⟩)) ?_
   rintro _ w195 ⟨rfl, k196⟩
   have K201 := K184.trans k196 (fun _ _ x => x.elim)
   refine wl_v (.int .i64 (((0) + (atF (f) (p) ((u + 1) / 2) ((v + 1) / 2))) + (atF (f) (p) (u / 2) (v / 2)))) rfl rfl (y_add rfl rfl rfl (i64_i rfl (by omega)) ⟨rfl, rfl⟩) ?_
   refine wl_v (.int .i64 (((0) + (atF (f) (p) ((u + 1) / 2) ((v + 1) / 2))) + (atF (f) (p) (u / 2) (v / 2)))) rfl rfl (y_asg rfl rfl ⟨rfl, rfl⟩) ?_
   refine wl_nil fun F202 hF203 => ?_
   have s204 := (hF203 72).trans s188
   have s205 := (hF203 11).trans s192
   have s206 := (hF203 12).trans s193
   have s207 : F202 13 = .int .i64 (((0) + (atF (f) (p) ((u + 1) / 2) ((v + 1) / 2))) + (atF (f) (p) (u / 2) (v / 2))) := (hF203 13).trans rfl
   clear hF203
   refine then_normal ?_
   refine wq_exit ?_
   refine in_here ?_
   refine then_normal ?_
   refine wq_seq ?_
   refine wq_region ?_
   refine wl_v (.int .i64 (((0) + (atF (f) (p) ((u + 1) / 2) ((v + 1) / 2))) + (atF (f) (p) (u / 2) (v / 2)))) rfl rfl (y_mov rfl s207 ⟨rfl, rfl⟩) ?_
   refine wl_v (.int .i64 (u % 2)) rfl rfl (y_mov rfl s205 ⟨rfl, rfl⟩) ?_
   refine wl_v (.int .i64 (v % 2)) rfl rfl (y_mov rfl s206 ⟨rfl, rfl⟩) ?_
   refine wl_v (.int .i64 (((N : Nat) : Int))) rfl rfl (y_add rfl rfl rfl (i64_i hN.symm (by omega)) ⟨rfl, rfl⟩) ?_
   refine wl_v (.int .i64 (M)) rfl rfl (y_shlR (N) rfl rfl rfl ((by rcases hM2 with ⟨h1, h2⟩ | ⟨h1, h2⟩ | ⟨h1, h2⟩ <;> subst h1 <;> rw [h2] <;> rfl)) ⟨rfl, rfl⟩) ?_
   refine wl_call (R := fun v_ w_ => v_ = .int .i64 (mid f p u v) ∧ Kept (fun _ => False) w195 w_) rfl rfl (y_cs rfl rfl rfl (fun _ _ => by kernel_rfl) (ev_func _) (vsC rfl (vsC rfl vsN)) (mo_mean (((0) + (atF (f) (p) ((u + 1) / 2) ((v + 1) / 2))) + (atF (f) (p) (u / 2) (v / 2))) (M)  _ (by omega) (by omega)  ) (fun e_ w_ h_ => ⟨_, h_.1, congrArg (Value.int .i64) (by first | (rw [(by omega : M = 4)]; have e := mid_none (f := f) (p := p) (u := u) (v := v) (by omega) (by omega); omega) | (rw [(by omega : M = 2)]; rcases (by omega : u % 2 = 0 ∨ v % 2 = 0) with h0 | h0; (have e := mid_down (f := f) (p := p) (u := u) (v := v) (by omega) (by omega); rw [show (u + 1) / 2 = u / 2 by omega]; omega); (have e := mid_side (f := f) (p := p) (u := u) (v := v) (by omega) (by omega); rw [show (v + 1) / 2 = v / 2 by omega]; omega)) | (rw [(by omega : M = 1)]; have e := mid_both (f := f) (p := p) (u := u) (v := v) (by omega) (by omega); omega)), h_.2⟩)) ?_
   rintro _ w208 ⟨rfl, k209⟩
   have K214 := K201.trans k209 (fun _ _ x => x.elim)
   refine wl_v (.int .i64 (mid f p u v)) rfl rfl (y_asg rfl rfl ⟨rfl, rfl⟩) ?_
   refine wl_nil fun F215 hF216 => ?_
   have s217 := (hF216 72).trans s204
   have s218 : F215 8 = .int .i64 (mid f p u v) := (hF216 8).trans rfl
   clear hF216
   refine then_normal ?_
   refine wq_ret ?_
   exact end_tmp (v := .int .i64 (mid f p u v)) s217 rfl rfl s218 ⟨(by rw [hm]), K214⟩
  ·replace c177 := of_decide_eq_false c177
   refine wq_skip ?_
   refine then_normal ?_
   refine wq_exit ?_
   refine in_other (by decide) ?_
   refine then_exit ?_
   refine in_other (by decide) ?_
   refine then_exit ?_
   refine in_here ?_
   refine then_normal ?_
   refine wq_seq ?_
   refine wq_region ?_
   refine wl_v (.int .i64 (0)) rfl rfl (y_mov rfl s175 ⟨rfl, rfl⟩) ?_
   refine wl_v (.agg #[.int .i64 ((f).W), .int .i64 ((f).H), f0, f1, f2]) rfl rfl (y_load_stc stcT_frame rfl s170 B33 ⟨rfl, rfl⟩) ?_
   refine wl_v (.int .i64 (p)) rfl rfl (y_mov rfl s168 ⟨rfl, rfl⟩) ?_
   refine wl_v (.int .i64 (u / 2)) rfl rfl (y_mov rfl s171 ⟨rfl, rfl⟩) ?_
   refine wl_v (.int .i64 (v / 2)) rfl rfl (y_mov rfl s172 ⟨rfl, rfl⟩) ?_
   refine wl_call (R := fun v_ w_ => v_ = .int .i64 (atF (f) (p) (u / 2) (v / 2)) ∧ Kept (fun _ => False) w28 w_) rfl rfl (y_cs rfl rfl rfl (fun _ _ => by kernel_rfl) (ev_func _) (vsC rfl (vsC rfl (vsC rfl (vsC rfl vsN)))) (pl_at (p) (u / 2) (v / 2) (f) (f0) (f1) (f2) (T_f0) (T_f1) (T_f2) _  B30 B31 B32 ) (fun e_ w_ h_ => ⟨_, h_.1, rfl, h_.2⟩)) ?_
   rintro _ w219 ⟨rfl, k220⟩
   have K225 := K34.trans k220 (fun _ _ x => x.elim)
   refine wl_v (.int .i64 ((0) + (atF (f) (p) (u / 2) (v / 2)))) rfl rfl (y_add rfl rfl rfl (i64_i rfl (by omega)) ⟨rfl, rfl⟩) ?_
   refine wl_v (.int .i64 ((0) + (atF (f) (p) (u / 2) (v / 2)))) rfl rfl (y_asg rfl rfl ⟨rfl, rfl⟩) ?_
   refine wl_nil fun F226 hF227 => ?_
   have s228 := (hF227 72).trans s169
   have s229 := (hF227 11).trans s173
   have s230 := (hF227 12).trans s174
   have s231 : F226 13 = .int .i64 ((0) + (atF (f) (p) (u / 2) (v / 2))) := (hF227 13).trans rfl
   clear hF227
   refine then_normal ?_
   refine wq_exit ?_
   refine in_here ?_
   refine then_normal ?_
   refine wq_seq ?_
   refine wq_region ?_
   refine wl_v (.int .i64 ((0) + (atF (f) (p) (u / 2) (v / 2)))) rfl rfl (y_mov rfl s231 ⟨rfl, rfl⟩) ?_
   refine wl_v (.int .i64 (u % 2)) rfl rfl (y_mov rfl s229 ⟨rfl, rfl⟩) ?_
   refine wl_v (.int .i64 (v % 2)) rfl rfl (y_mov rfl s230 ⟨rfl, rfl⟩) ?_
   refine wl_v (.int .i64 (((N : Nat) : Int))) rfl rfl (y_add rfl rfl rfl (i64_i hN.symm (by omega)) ⟨rfl, rfl⟩) ?_
   refine wl_v (.int .i64 (M)) rfl rfl (y_shlR (N) rfl rfl rfl ((by rcases hM2 with ⟨h1, h2⟩ | ⟨h1, h2⟩ | ⟨h1, h2⟩ <;> subst h1 <;> rw [h2] <;> rfl)) ⟨rfl, rfl⟩) ?_
   refine wl_call (R := fun v_ w_ => v_ = .int .i64 (mid f p u v) ∧ Kept (fun _ => False) w219 w_) rfl rfl (y_cs rfl rfl rfl (fun _ _ => by kernel_rfl) (ev_func _) (vsC rfl (vsC rfl vsN)) (mo_mean ((0) + (atF (f) (p) (u / 2) (v / 2))) (M)  _ (by omega) (by omega)  ) (fun e_ w_ h_ => ⟨_, h_.1, congrArg (Value.int .i64) (by first | (rw [(by omega : M = 4)]; have e := mid_none (f := f) (p := p) (u := u) (v := v) (by omega) (by omega); omega) | (rw [(by omega : M = 2)]; rcases (by omega : u % 2 = 0 ∨ v % 2 = 0) with h0 | h0; (have e := mid_down (f := f) (p := p) (u := u) (v := v) (by omega) (by omega); rw [show (u + 1) / 2 = u / 2 by omega]; omega); (have e := mid_side (f := f) (p := p) (u := u) (v := v) (by omega) (by omega); rw [show (v + 1) / 2 = v / 2 by omega]; omega)) | (rw [(by omega : M = 1)]; have e := mid_both (f := f) (p := p) (u := u) (v := v) (by omega) (by omega); omega)), h_.2⟩)) ?_
   rintro _ w232 ⟨rfl, k233⟩
   have K238 := K225.trans k233 (fun _ _ x => x.elim)
   refine wl_v (.int .i64 (mid f p u v)) rfl rfl (y_asg rfl rfl ⟨rfl, rfl⟩) ?_
   refine wl_nil fun F239 hF240 => ?_
   have s241 := (hF240 72).trans s228
   have s242 : F239 8 = .int .i64 (mid f p u v) := (hF240 8).trans rfl
   clear hF240
   refine then_normal ?_
   refine wq_ret ?_
   exact end_tmp (v := .int .i64 (mid f p u v)) s241 rfl rfl s242 ⟨(by rw [hm]), K238⟩
set_option maxHeartbeats 4000000 in
set_option maxRecDepth 100000 in
theorem mo_predict (p x y X Y : Int) (f : FD) (f0 f1 f2 : Value) (T_f0 : Nat → Prop) (T_f1 : Nat → Prop) (T_f2 : Nat → Prop) (w0 : World) (h_f0 : Byt w0 T_f0 f0 ((f).p0)) (h_f1 : Byt w0 T_f1 f1 ((f).p1)) (h_f2 : Byt w0 T_f2 f2 ((f).p2)) :
  Calls Tryz.prog 17 #[.agg #[.int .i64 ((f).W), .int .i64 ((f).H), f0, f1, f2], .int .i64 (p), .int .i64 (x), .int .i64 (y), .agg #[.int .i64 (X), .int .i64 (Y)]] w0 fun e w' => e = .returned (.tuple #[blkV (mvB f p x y X Y), .int .i64 (mvE f p x y X Y)]) ∧ Kept (fun _ => False) w0 w' := by
 refine calls_wq (args := [.agg #[.int .i64 ((f).W), .int .i64 ((f).H), f0, f1, f2], .int .i64 (p), .int .i64 (x), .int .i64 (y), .agg #[.int .i64 (X), .int .i64 (Y)]]) 69 Tryz.func17 rfl rfl (Nat.le_of_ble_eq_true rfl) ?_
 have K0 := Kept.refl (fun _ => False) w0
 have g_f0 := Grew.refl w0 T_f0
 have g_f1 := Grew.refl w0 T_f1
 have g_f2 := Grew.refl w0 T_f2
 refine wq_seq ?_
 refine wq_region ?_
 refine wl_box_stc (vs := [.int .i64 ((f).W), .int .i64 ((f).H), f0, f1, f2]) rfl rfl rfl rfl fun p1 w2 B4 g5 k3 => ?_
 have B10 := h_f0.all k3 Apart.none
 have B11 := h_f1.all k3 Apart.none
 have B12 := h_f2.all k3 Apart.none
 have K13 := K0.trans k3 (fun _ _ x => x.elim)
 refine wl_box_stc (vs := [.int .i64 (X), .int .i64 (Y)]) rfl rfl rfl rfl fun p14 w15 B17 g18 k16 => ?_
 have B24 := B10.all k16 Apart.none
 have B25 := B11.all k16 Apart.none
 have B26 := B12.all k16 Apart.none
 have B27 := B4.all k16 id
 have K28 := K13.trans k16 (fun _ _ x => x.elim)
 refine wl_alloc_blk rfl rfl rfl blkT_block.2.2 fun p29 w30 e33 B31 k32 => ?_
 have g34 := onB_new (Nat.le_of_eq e33.symm)
 have gr35 : Grew w0 noB (onB p29) := Grew.new K28 g34
 clear e33 g34
 have B41 := B24.all k32 Apart.none
 have B42 := B25.all k32 Apart.none
 have B43 := B26.all k32 Apart.none
 have B44 := B27.all k32 id
 have B45 := B17.all k32 id
 have K46 := K28.trans k32 (fun _ _ x => x.elim)
 refine wl_v (.int .i64 (0)) rfl rfl (y_asg rfl rfl ⟨rfl, rfl⟩) ?_
 refine wl_nil fun F47 hF48 => ?_
 have s49 : F47 1 = .int .i64 (p) := (hF48 1).trans rfl
 have s50 : F47 2 = .int .i64 (x) := (hF48 2).trans rfl
 have s51 : F47 3 = .int .i64 (y) := (hF48 3).trans rfl
 have s52 : F47 69 = undef := (hF48 69).trans rfl
 have s53 : F47 5 = .pointer (some ⟨p1, 0, none⟩) := (hF48 5).trans rfl
 have s54 : F47 9 = .pointer (some ⟨p14, 0, none⟩) := (hF48 9).trans rfl
 have s55 : F47 10 = .pointer (some ⟨p29, 0, none⟩) := (hF48 10).trans rfl
 clear hF48
 refine then_normal ?_
 refine wq_seq ?_
 refine wq_seq ?_
 by_cases d56 : (checkE (f)) ≠ (0)
 ·skip
  refine wq_region ?_
  refine wl_v (.agg #[.int .i64 ((f).W), .int .i64 ((f).H), f0, f1, f2]) rfl rfl (y_load_stc stcT_frame rfl s53 B44 ⟨rfl, rfl⟩) ?_
  refine wl_call (R := fun v_ w_ => v_ = .int .i64 (checkE (f)) ∧ Kept (fun _ => False) w30 w_) rfl rfl (y_cs rfl rfl rfl (fun _ _ => by kernel_rfl) (ev_func _) (vsC rfl vsN) (pl_check (f) (f0) (f1) (f2) (T_f0) (T_f1) (T_f2) _  B41 B42 B43 ) (fun e_ w_ h_ => ⟨_, h_.1, rfl, h_.2⟩)) ?_
  rintro _ w57 ⟨rfl, k58⟩
  have B64 := B31.all k58 id
  have K65 := K46.trans k58 (fun _ _ x => x.elim)
  refine wl_v (.bool true) rfl rfl (y_neqI rfl rfl rfl (decide_eq_true d56) ⟨rfl, rfl⟩) ?_
  refine wl_v (.bool true) rfl rfl (y_mov rfl rfl ⟨rfl, rfl⟩) ?_
  refine wl_unless 3 false 18 rfl rfl rfl (Or.inl rfl) rfl ?_
  refine wl_unless 3 false 18 rfl rfl rfl (Or.inl rfl) rfl ?_
  refine wl_v (.bool true) rfl rfl (y_pickT rfl rfl rfl ⟨rfl, rfl⟩) ?_
  refine wl_v (.bool true) rfl rfl (y_mov rfl rfl ⟨rfl, rfl⟩) ?_
  refine wl_unless 7 false 22 rfl rfl rfl (Or.inl rfl) rfl ?_
  refine wl_unless 7 false 22 rfl rfl rfl (Or.inl rfl) rfl ?_
  refine wl_v (.bool true) rfl rfl (y_pickT rfl rfl rfl ⟨rfl, rfl⟩) ?_
  refine wl_v (.bool true) rfl rfl (y_mov rfl rfl ⟨rfl, rfl⟩) ?_
  refine wl_unless 11 false 26 rfl rfl rfl (Or.inl rfl) rfl ?_
  refine wl_unless 11 false 26 rfl rfl rfl (Or.inl rfl) rfl ?_
  refine wl_unless 11 false 26 rfl rfl rfl (Or.inl rfl) rfl ?_
  refine wl_v (.bool true) rfl rfl (y_pickT rfl rfl rfl ⟨rfl, rfl⟩) ?_
  refine wl_v (.bool true) rfl rfl (y_mov rfl rfl ⟨rfl, rfl⟩) ?_
  refine wl_unless 16 false 31 rfl rfl rfl (Or.inl rfl) rfl ?_
  refine wl_unless 16 false 31 rfl rfl rfl (Or.inl rfl) rfl ?_
  refine wl_unless 16 false 31 rfl rfl rfl (Or.inl rfl) rfl ?_
  refine wl_v (.bool true) rfl rfl (y_pickT rfl rfl rfl ⟨rfl, rfl⟩) ?_
  refine wl_nil fun F66 hF67 => ?_
  have s71 := (hF67 69).trans s52
  have s74 := (hF67 10).trans s55
  have s75 : F66 35 = .bool true := (hF67 35).trans rfl
  clear hF67
  refine then_normal ?_
  refine wq_cond (t := true) s75 (fun _ => ?_) (fun e => by cases e)
  refine wq_seq ?_
  have hno : ¬ placeF f p x y := by rintro ⟨h1, h2, h3, h4, h5, h6, h7⟩; first | exact absurd ((checkE_iff f).2 h1) (by assumption) | omega
  refine wq_region ?_
  refine wl_v (blkV (fun _ => 0)) rfl rfl (y_buildR (cells := (arrL 16 (fun _ => 0)).toArray) rfl (by kernel_rfl) rfl ⟨rfl, rfl⟩) ?_
  refine wl_store_blk blkT_block rfl rfl rfl s74 rfl B64 fun w76 B77 k78 => ?_
  have K84 := K65.trans k78 (Grew.ok (S := fun _ => False) gr35 noB_le)
  refine wl_v (.int .i64 (70)) rfl rfl (y_asg rfl rfl ⟨rfl, rfl⟩) ?_
  refine wl_nil fun F85 hF86 => ?_
  have s87 := (hF86 69).trans s71
  have s88 := (hF86 10).trans s74
  have s89 : F85 11 = .int .i64 (70) := (hF86 11).trans rfl
  clear hF86
  refine then_normal ?_
  refine wq_ret ?_
  refine then_ret ?_
  exact end_2 s87 rfl (res_blk blkT_block rfl s88 B77) (res_tmp (v := .int .i64 (70)) rfl s89) ⟨(by first | rw [(mv_no hno).1, (mv_no hno).2] | rw [(mv_none hpl hvn).1, (mv_none hpl hvn).2, vecE_no hvn] | rw [(mv_yes hpl hv).1, (mv_yes hpl hv).2]), K84⟩
 ·skip
  by_cases d90 : (p) < (0)
  ·skip
   refine wq_region ?_
   refine wl_v (.agg #[.int .i64 ((f).W), .int .i64 ((f).H), f0, f1, f2]) rfl rfl (y_load_stc stcT_frame rfl s53 B44 ⟨rfl, rfl⟩) ?_
   refine wl_call (R := fun v_ w_ => v_ = .int .i64 (checkE (f)) ∧ Kept (fun _ => False) w30 w_) rfl rfl (y_cs rfl rfl rfl (fun _ _ => by kernel_rfl) (ev_func _) (vsC rfl vsN) (pl_check (f) (f0) (f1) (f2) (T_f0) (T_f1) (T_f2) _  B41 B42 B43 ) (fun e_ w_ h_ => ⟨_, h_.1, rfl, h_.2⟩)) ?_
   rintro _ w91 ⟨rfl, k92⟩
   have B98 := B31.all k92 id
   have K99 := K46.trans k92 (fun _ _ x => x.elim)
   refine wl_v (.bool false) rfl rfl (y_neqI rfl rfl rfl (decide_eq_false d56) ⟨rfl, rfl⟩) ?_
   refine wl_v (.bool false) rfl rfl (y_mov rfl rfl ⟨rfl, rfl⟩) ?_
   refine wl_vw (.int .i64 (p)) 3 false 18 rfl rfl rfl rfl rfl (y_mov rfl s49 ⟨rfl, rfl⟩) ?_
   refine wl_vw (.bool true) 3 false 18 rfl rfl rfl rfl rfl (y_lss rfl rfl rfl (decide_eq_true d90) ⟨rfl, rfl⟩) ?_
   refine wl_v (.bool true) rfl rfl (y_pickF rfl rfl rfl ⟨rfl, rfl⟩) ?_
   refine wl_v (.bool true) rfl rfl (y_mov rfl rfl ⟨rfl, rfl⟩) ?_
   refine wl_unless 7 false 22 rfl rfl rfl (Or.inl rfl) rfl ?_
   refine wl_unless 7 false 22 rfl rfl rfl (Or.inl rfl) rfl ?_
   refine wl_v (.bool true) rfl rfl (y_pickT rfl rfl rfl ⟨rfl, rfl⟩) ?_
   refine wl_v (.bool true) rfl rfl (y_mov rfl rfl ⟨rfl, rfl⟩) ?_
   refine wl_unless 11 false 26 rfl rfl rfl (Or.inl rfl) rfl ?_
   refine wl_unless 11 false 26 rfl rfl rfl (Or.inl rfl) rfl ?_
   refine wl_unless 11 false 26 rfl rfl rfl (Or.inl rfl) rfl ?_
   refine wl_v (.bool true) rfl rfl (y_pickT rfl rfl rfl ⟨rfl, rfl⟩) ?_
   refine wl_v (.bool true) rfl rfl (y_mov rfl rfl ⟨rfl, rfl⟩) ?_
   refine wl_unless 16 false 31 rfl rfl rfl (Or.inl rfl) rfl ?_
   refine wl_unless 16 false 31 rfl rfl rfl (Or.inl rfl) rfl ?_
   refine wl_unless 16 false 31 rfl rfl rfl (Or.inl rfl) rfl ?_
   refine wl_v (.bool true) rfl rfl (y_pickT rfl rfl rfl ⟨rfl, rfl⟩) ?_
   refine wl_nil fun F100 hF101 => ?_
   have s105 := (hF101 69).trans s52
   have s108 := (hF101 10).trans s55
   have s109 : F100 35 = .bool true := (hF101 35).trans rfl
   clear hF101
   refine then_normal ?_
   refine wq_cond (t := true) s109 (fun _ => ?_) (fun e => by cases e)
   refine wq_seq ?_
   have hno : ¬ placeF f p x y := by rintro ⟨h1, h2, h3, h4, h5, h6, h7⟩; first | exact absurd ((checkE_iff f).2 h1) (by assumption) | omega
   refine wq_region ?_
   refine wl_v (blkV (fun _ => 0)) rfl rfl (y_buildR (cells := (arrL 16 (fun _ => 0)).toArray) rfl (by kernel_rfl) rfl ⟨rfl, rfl⟩) ?_
   refine wl_store_blk blkT_block rfl rfl rfl s108 rfl B98 fun w110 B111 k112 => ?_
   have K118 := K99.trans k112 (Grew.ok (S := fun _ => False) gr35 noB_le)
   refine wl_v (.int .i64 (70)) rfl rfl (y_asg rfl rfl ⟨rfl, rfl⟩) ?_
   refine wl_nil fun F119 hF120 => ?_
   have s121 := (hF120 69).trans s105
   have s122 := (hF120 10).trans s108
   have s123 : F119 11 = .int .i64 (70) := (hF120 11).trans rfl
   clear hF120
   refine then_normal ?_
   refine wq_ret ?_
   refine then_ret ?_
   exact end_2 s121 rfl (res_blk blkT_block rfl s122 B111) (res_tmp (v := .int .i64 (70)) rfl s123) ⟨(by first | rw [(mv_no hno).1, (mv_no hno).2] | rw [(mv_none hpl hvn).1, (mv_none hpl hvn).2, vecE_no hvn] | rw [(mv_yes hpl hv).1, (mv_yes hpl hv).2]), K118⟩
  ·skip
   by_cases d124 : (3) ≤ (p)
   ·skip
    refine wq_region ?_
    refine wl_v (.agg #[.int .i64 ((f).W), .int .i64 ((f).H), f0, f1, f2]) rfl rfl (y_load_stc stcT_frame rfl s53 B44 ⟨rfl, rfl⟩) ?_
    refine wl_call (R := fun v_ w_ => v_ = .int .i64 (checkE (f)) ∧ Kept (fun _ => False) w30 w_) rfl rfl (y_cs rfl rfl rfl (fun _ _ => by kernel_rfl) (ev_func _) (vsC rfl vsN) (pl_check (f) (f0) (f1) (f2) (T_f0) (T_f1) (T_f2) _  B41 B42 B43 ) (fun e_ w_ h_ => ⟨_, h_.1, rfl, h_.2⟩)) ?_
    rintro _ w125 ⟨rfl, k126⟩
    have B132 := B31.all k126 id
    have K133 := K46.trans k126 (fun _ _ x => x.elim)
    refine wl_v (.bool false) rfl rfl (y_neqI rfl rfl rfl (decide_eq_false d56) ⟨rfl, rfl⟩) ?_
    refine wl_v (.bool false) rfl rfl (y_mov rfl rfl ⟨rfl, rfl⟩) ?_
    refine wl_vw (.int .i64 (p)) 3 false 18 rfl rfl rfl rfl rfl (y_mov rfl s49 ⟨rfl, rfl⟩) ?_
    refine wl_vw (.bool false) 3 false 18 rfl rfl rfl rfl rfl (y_lss rfl rfl rfl (decide_eq_false d90) ⟨rfl, rfl⟩) ?_
    refine wl_v (.bool false) rfl rfl (y_pickF rfl rfl rfl ⟨rfl, rfl⟩) ?_
    refine wl_v (.bool false) rfl rfl (y_mov rfl rfl ⟨rfl, rfl⟩) ?_
    refine wl_vw (.int .i64 (p)) 7 false 22 rfl rfl rfl rfl rfl (y_mov rfl s49 ⟨rfl, rfl⟩) ?_
    refine wl_vw (.bool true) 7 false 22 rfl rfl rfl rfl rfl (y_geq rfl rfl rfl (decide_eq_true d124) ⟨rfl, rfl⟩) ?_
    refine wl_v (.bool true) rfl rfl (y_pickF rfl rfl rfl ⟨rfl, rfl⟩) ?_
    refine wl_v (.bool true) rfl rfl (y_mov rfl rfl ⟨rfl, rfl⟩) ?_
    refine wl_unless 11 false 26 rfl rfl rfl (Or.inl rfl) rfl ?_
    refine wl_unless 11 false 26 rfl rfl rfl (Or.inl rfl) rfl ?_
    refine wl_unless 11 false 26 rfl rfl rfl (Or.inl rfl) rfl ?_
    refine wl_v (.bool true) rfl rfl (y_pickT rfl rfl rfl ⟨rfl, rfl⟩) ?_
    refine wl_v (.bool true) rfl rfl (y_mov rfl rfl ⟨rfl, rfl⟩) ?_
    refine wl_unless 16 false 31 rfl rfl rfl (Or.inl rfl) rfl ?_
    refine wl_unless 16 false 31 rfl rfl rfl (Or.inl rfl) rfl ?_
    refine wl_unless 16 false 31 rfl rfl rfl (Or.inl rfl) rfl ?_
    refine wl_v (.bool true) rfl rfl (y_pickT rfl rfl rfl ⟨rfl, rfl⟩) ?_
    refine wl_nil fun F134 hF135 => ?_
    have s139 := (hF135 69).trans s52
    have s142 := (hF135 10).trans s55
    have s143 : F134 35 = .bool true := (hF135 35).trans rfl
    clear hF135
    refine then_normal ?_
    refine wq_cond (t := true) s143 (fun _ => ?_) (fun e => by cases e)
    refine wq_seq ?_
    have hno : ¬ placeF f p x y := by rintro ⟨h1, h2, h3, h4, h5, h6, h7⟩; first | exact absurd ((checkE_iff f).2 h1) (by assumption) | omega
    refine wq_region ?_
    refine wl_v (blkV (fun _ => 0)) rfl rfl (y_buildR (cells := (arrL 16 (fun _ => 0)).toArray) rfl (by kernel_rfl) rfl ⟨rfl, rfl⟩) ?_
    refine wl_store_blk blkT_block rfl rfl rfl s142 rfl B132 fun w144 B145 k146 => ?_
    have K152 := K133.trans k146 (Grew.ok (S := fun _ => False) gr35 noB_le)
    refine wl_v (.int .i64 (70)) rfl rfl (y_asg rfl rfl ⟨rfl, rfl⟩) ?_
    refine wl_nil fun F153 hF154 => ?_
    have s155 := (hF154 69).trans s139
    have s156 := (hF154 10).trans s142
    have s157 : F153 11 = .int .i64 (70) := (hF154 11).trans rfl
    clear hF154
    refine then_normal ?_
    refine wq_ret ?_
    refine then_ret ?_
    exact end_2 s155 rfl (res_blk blkT_block rfl s156 B145) (res_tmp (v := .int .i64 (70)) rfl s157) ⟨(by first | rw [(mv_no hno).1, (mv_no hno).2] | rw [(mv_none hpl hvn).1, (mv_none hpl hvn).2, vecE_no hvn] | rw [(mv_yes hpl hv).1, (mv_yes hpl hv).2]), K152⟩
   ·skip
    by_cases d158 : 0 ≤ (x) ∧ (x) ≤ 64
    ·skip
     by_cases d159 : 0 ≤ (y) ∧ (y) ≤ 64
     ·skip
      refine wq_region ?_
      refine wl_v (.agg #[.int .i64 ((f).W), .int .i64 ((f).H), f0, f1, f2]) rfl rfl (y_load_stc stcT_frame rfl s53 B44 ⟨rfl, rfl⟩) ?_
      refine wl_call (R := fun v_ w_ => v_ = .int .i64 (checkE (f)) ∧ Kept (fun _ => False) w30 w_) rfl rfl (y_cs rfl rfl rfl (fun _ _ => by kernel_rfl) (ev_func _) (vsC rfl vsN) (pl_check (f) (f0) (f1) (f2) (T_f0) (T_f1) (T_f2) _  B41 B42 B43 ) (fun e_ w_ h_ => ⟨_, h_.1, rfl, h_.2⟩)) ?_
      rintro _ w160 ⟨rfl, k161⟩
      have B162 := B41.all k161 Apart.none
      have B163 := B42.all k161 Apart.none
      have B164 := B43.all k161 Apart.none
      have B165 := B44.all k161 id
      have B166 := B45.all k161 id
      have B167 := B31.all k161 id
      have K168 := K46.trans k161 (fun _ _ x => x.elim)
      refine wl_v (.bool false) rfl rfl (y_neqI rfl rfl rfl (decide_eq_false d56) ⟨rfl, rfl⟩) ?_
      refine wl_v (.bool false) rfl rfl (y_mov rfl rfl ⟨rfl, rfl⟩) ?_
      refine wl_vw (.int .i64 (p)) 3 false 18 rfl rfl rfl rfl rfl (y_mov rfl s49 ⟨rfl, rfl⟩) ?_
      refine wl_vw (.bool false) 3 false 18 rfl rfl rfl rfl rfl (y_lss rfl rfl rfl (decide_eq_false d90) ⟨rfl, rfl⟩) ?_
      refine wl_v (.bool false) rfl rfl (y_pickF rfl rfl rfl ⟨rfl, rfl⟩) ?_
      refine wl_v (.bool false) rfl rfl (y_mov rfl rfl ⟨rfl, rfl⟩) ?_
      refine wl_vw (.int .i64 (p)) 7 false 22 rfl rfl rfl rfl rfl (y_mov rfl s49 ⟨rfl, rfl⟩) ?_
      refine wl_vw (.bool false) 7 false 22 rfl rfl rfl rfl rfl (y_geq rfl rfl rfl (decide_eq_false d124) ⟨rfl, rfl⟩) ?_
      refine wl_v (.bool false) rfl rfl (y_pickF rfl rfl rfl ⟨rfl, rfl⟩) ?_
      refine wl_v (.bool false) rfl rfl (y_mov rfl rfl ⟨rfl, rfl⟩) ?_
      refine wl_vw (.int .i64 (x)) 11 false 26 rfl rfl rfl rfl rfl (y_mov rfl s50 ⟨rfl, rfl⟩) ?_
      refine wl_callw (R := fun v_ w_ => v_ = .bool true ∧ Kept (fun _ => False) w160 w_) 11 false 26 rfl rfl rfl rfl rfl (y_cs rfl rfl rfl (fun _ _ => by kernel_rfl) (ev_func _) (vsC rfl vsN) (mo_mayPlace (x)  _   ) (fun e_ w_ h_ => ⟨_, h_.1, (congrArg Value.bool (decide_eq_true d158)), h_.2⟩)) ?_
      rintro _ w169 ⟨rfl, k170⟩
      have B171 := B162.all k170 Apart.none
      have B172 := B163.all k170 Apart.none
      have B173 := B164.all k170 Apart.none
      have B174 := B165.all k170 id
      have B175 := B166.all k170 id
      have B176 := B167.all k170 id
      have K177 := K168.trans k170 (fun _ _ x => x.elim)
      refine wl_vw (.bool false) 11 false 26 rfl rfl rfl rfl rfl (y_not rfl rfl rfl ⟨rfl, rfl⟩) ?_
      refine wl_v (.bool false) rfl rfl (y_pickF rfl rfl rfl ⟨rfl, rfl⟩) ?_
      refine wl_v (.bool false) rfl rfl (y_mov rfl rfl ⟨rfl, rfl⟩) ?_
      refine wl_vw (.int .i64 (y)) 16 false 31 rfl rfl rfl rfl rfl (y_mov rfl s51 ⟨rfl, rfl⟩) ?_
      refine wl_callw (R := fun v_ w_ => v_ = .bool true ∧ Kept (fun _ => False) w169 w_) 16 false 31 rfl rfl rfl rfl rfl (y_cs rfl rfl rfl (fun _ _ => by kernel_rfl) (ev_func _) (vsC rfl vsN) (mo_mayPlace (y)  _   ) (fun e_ w_ h_ => ⟨_, h_.1, (congrArg Value.bool (decide_eq_true d159)), h_.2⟩)) ?_
      rintro _ w178 ⟨rfl, k179⟩
      have B180 := B171.all k179 Apart.none
      have B181 := B172.all k179 Apart.none
      have B182 := B173.all k179 Apart.none
      have B183 := B174.all k179 id
      have B184 := B175.all k179 id
      have B185 := B176.all k179 id
      have K186 := K177.trans k179 (fun _ _ x => x.elim)
      refine wl_vw (.bool false) 16 false 31 rfl rfl rfl rfl rfl (y_not rfl rfl rfl ⟨rfl, rfl⟩) ?_
      refine wl_v (.bool false) rfl rfl (y_pickF rfl rfl rfl ⟨rfl, rfl⟩) ?_
      refine wl_nil fun F187 hF188 => ?_
      have s189 := (hF188 1).trans s49
      have s190 := (hF188 2).trans s50
      have s191 := (hF188 3).trans s51
      have s192 := (hF188 69).trans s52
      have s193 := (hF188 5).trans s53
      have s194 := (hF188 9).trans s54
      have s195 := (hF188 10).trans s55
      have s196 : F187 35 = .bool false := (hF188 35).trans rfl
      clear hF188
      refine then_normal ?_
      refine wq_cond (t := false) s196 (fun e => by cases e) (fun _ => ?_)
      refine wq_skip ?_
      refine then_normal ?_
      refine wq_seq ?_
      refine wq_seq ?_
      have hpl : placeF f p x y := ⟨(checkE_iff f).1 (by first | assumption | (apply Decidable.byContradiction; assumption)), by omega, by omega, by omega, by omega, by omega, by omega⟩
      refine wq_region ?_
      refine wl_v (.agg #[.int .i64 (X), .int .i64 (Y)]) rfl rfl (y_load_stc stcT_vector rfl s194 B184 ⟨rfl, rfl⟩) ?_
      refine wl_call (R := fun v_ w_ => v_ = .int .i64 (vecE (X) (Y)) ∧ Kept (fun _ => False) w178 w_) rfl rfl (y_cs rfl rfl rfl (fun _ _ => by kernel_rfl) (ev_func _) (vsC rfl vsN) (mo_check (X) (Y)  _   ) (fun e_ w_ h_ => ⟨_, h_.1, rfl, h_.2⟩)) ?_
      rintro _ w197 ⟨rfl, k198⟩
      have B199 := B180.all k198 Apart.none
      have B200 := B181.all k198 Apart.none
      have B201 := B182.all k198 Apart.none
      have B202 := B183.all k198 id
      have B203 := B184.all k198 id
      have B204 := B185.all k198 id
      have K205 := K186.trans k198 (fun _ _ x => x.elim)
      refine wl_v (.int .i64 (vecE (X) (Y))) rfl rfl (y_asg rfl rfl ⟨rfl, rfl⟩) ?_
      refine wl_nil fun F206 hF207 => ?_
      have s208 := (hF207 1).trans s189
      have s209 := (hF207 2).trans s190
      have s210 := (hF207 3).trans s191
      have s211 := (hF207 69).trans s192
      have s212 := (hF207 5).trans s193
      have s213 := (hF207 9).trans s194
      have s214 := (hF207 10).trans s195
      have s215 : F206 12 = .int .i64 (vecE (X) (Y)) := (hF207 12).trans rfl
      clear hF207
      refine then_normal ?_
      refine wq_seq ?_
      refine wq_region ?_
      refine wl_v (.int .i64 (vecE (X) (Y))) rfl rfl (y_mov rfl s215 ⟨rfl, rfl⟩) ?_
      refine wl_v (.bool (decide ((vecE (X) (Y)) ≠ (0)))) rfl rfl (y_neqI rfl rfl rfl rfl ⟨rfl, rfl⟩) ?_
      refine wl_nil fun F216 hF217 => ?_
      have s218 := (hF217 1).trans s208
      have s219 := (hF217 2).trans s209
      have s220 := (hF217 3).trans s210
      have s221 := (hF217 69).trans s211
      have s222 := (hF217 5).trans s212
      have s223 := (hF217 9).trans s213
      have s224 := (hF217 10).trans s214
      have s225 := (hF217 12).trans s215
      have s226 : F216 40 = .bool (decide ((vecE (X) (Y)) ≠ (0))) := (hF217 40).trans rfl
      clear hF217
      refine then_normal ?_
      refine wq_cond s226 (fun c227 => ?_) (fun c227 => ?_)
      ·replace c227 := of_decide_eq_true c227
       refine wq_seq ?_
       have hvn : ¬ vecOk X Y := fun h => absurd ((vecE_iff X Y).2 h) (by assumption)
       refine wq_region ?_
       refine wl_v (blkV (fun _ => 0)) rfl rfl (y_buildR (cells := (arrL 16 (fun _ => 0)).toArray) rfl (by kernel_rfl) rfl ⟨rfl, rfl⟩) ?_
       refine wl_v (.int .i64 (vecE (X) (Y))) rfl rfl (y_mov rfl s225 ⟨rfl, rfl⟩) ?_
       refine wl_store_blk blkT_block rfl rfl rfl s224 rfl B204 fun w228 B229 k230 => ?_
       have K236 := K205.trans k230 (Grew.ok (S := fun _ => False) gr35 noB_le)
       refine wl_v (.int .i64 (vecE (X) (Y))) rfl rfl (y_asg rfl rfl ⟨rfl, rfl⟩) ?_
       refine wl_nil fun F237 hF238 => ?_
       have s239 := (hF238 69).trans s221
       have s240 := (hF238 10).trans s224
       have s241 : F237 11 = .int .i64 (vecE (X) (Y)) := (hF238 11).trans rfl
       clear hF238
       refine then_normal ?_
       refine wq_ret ?_
       refine then_ret ?_
       exact end_2 s239 rfl (res_blk blkT_block rfl s240 B229) (res_tmp (v := .int .i64 (vecE (X) (Y))) rfl s241) ⟨(by first | rw [(mv_no hno).1, (mv_no hno).2] | rw [(mv_none hpl hvn).1, (mv_none hpl hvn).2, vecE_no hvn] | rw [(mv_yes hpl hv).1, (mv_yes hpl hv).2]), K236⟩
      ·replace c227 := of_decide_eq_false c227
       refine wq_skip ?_
       refine then_normal ?_
       refine wq_seq ?_
       have hv : vecOk X Y := (vecE_iff X Y).1 (by first | assumption | (apply Decidable.byContradiction; assumption))
       obtain ⟨hv1, hv2, hv3, hv4⟩ := (show vecOk X Y from hv)
       refine wq_region ?_
       refine wl_alloc_blk rfl rfl rfl blkT_block.2.2 fun p242 w243 e246 B244 k245 => ?_
       have g247 := onB_new (Nat.le_of_eq e246.symm)
       have gr248 : Grew w0 noB (onB p242) := Grew.new K205 g247
       have ap249 : Apart (onB p242) (T_f0) := Apart.new g247 (B199).live
       have ap250 : Apart (onB p242) (T_f1) := Apart.new g247 (B200).live
       have ap251 : Apart (onB p242) (T_f2) := Apart.new g247 (B201).live
       have ap252 : Apart (onB p242) (onB p1) := Apart.new g247 (onB_live (B202).lt)
       have ap253 : Apart (onB p242) (onB p14) := Apart.new g247 (onB_live (B203).lt)
       have ap254 : Apart (onB p242) (onB p29) := Apart.new g247 (onB_live (B204).lt)
       clear e246 g247
       have B255 := B199.all k245 Apart.none
       have B256 := B200.all k245 Apart.none
       have B257 := B201.all k245 Apart.none
       have B258 := B202.all k245 id
       have B259 := B203.all k245 id
       have B260 := B204.all k245 id
       have K261 := K205.trans k245 (fun _ _ x => x.elim)
       refine wl_nil fun F262 hF263 => ?_
       have s264 := (hF263 1).trans s218
       have s265 := (hF263 2).trans s219
       have s266 := (hF263 3).trans s220
       have s267 := (hF263 69).trans s221
       have s268 := (hF263 5).trans s222
       have s269 := (hF263 9).trans s223
       have s270 := (hF263 10).trans s224
       have s271 : F262 13 = .pointer (some ⟨p242, 0, none⟩) := (hF263 13).trans rfl
       clear hF263
       refine then_normal ?_
       refine wq_seq ?_
       refine wq_seq ?_
       refine wq_region ?_
       refine wl_v (.int .i64 (0)) rfl rfl (y_mov rfl rfl ⟨rfl, rfl⟩) ?_
       refine wl_nil fun F272 hF273 => ?_
       have s274 := (hF273 1).trans s264
       have s275 := (hF273 2).trans s265
       have s276 := (hF273 3).trans s266
       have s277 := (hF273 69).trans s267
       have s278 := (hF273 5).trans s268
       have s279 := (hF273 9).trans s269
       have s280 := (hF273 10).trans s270
       have s281 := (hF273 13).trans s271
       have s282 : F272 43 = .int .i64 (0) := (hF273 43).trans rfl
       clear hF273
       refine then_normal ?_
       refine wq_block ?_
       refine wq_loop (fun nn FF ww => ∃ (n : Nat), (n ≤ 16) ∧ nn = 16 - n ∧ FF 1 = .int .i64 (p) ∧ FF 2 = .int .i64 (x) ∧ FF 3 = .int .i64 (y) ∧ FF 5 = .pointer (some ⟨p1, 0, none⟩) ∧ FF 9 = .pointer (some ⟨p14, 0, none⟩) ∧ FF 10 = .pointer (some ⟨p29, 0, none⟩) ∧ FF 13 = .pointer (some ⟨p242, 0, none⟩) ∧ FF 69 = undef ∧ FF 43 = .int .i64 (((n : Nat) : Int)) ∧ Kept (fun _ => False) w0 ww ∧ Byt ww (T_f0) f0 ((f).p0) ∧ Byt ww (T_f1) f1 ((f).p1) ∧ Byt ww (T_f2) f2 ((f).p2) ∧ Stc ww p1 25 [.int .i64 ((f).W), .int .i64 ((f).H), f0, f1, f2] ∧ Stc ww p14 27 [.int .i64 (X), .int .i64 (Y)] ∧ Blk ww p29 29 (fun _ => 0) ∧ Blk ww p242 29 (upto n (fun _ => 0) (mvN f p x y X Y))) (16 - (0)) ⟨0, by omega, rfl, s274, s275, s276, s278, s279, s280, s281, s277, s282, K261, B255, B256, B257, B258, B259, B260, B244.first⟩ ?_
       rintro n286 F283 w284 ⟨n, i287, hn286, s288, s289, s290, s291, s292, s293, s294, s295, s296, K285, B297, B298, B299, B300, B301, B302, B303⟩
       refine wq_seq ?_
       refine wq_region ?_
       refine wl_v (.bool (decide ((((n : Nat) : Int)) < (16)))) rfl rfl (y_lss rfl s296 rfl rfl ⟨rfl, rfl⟩) ?_
       refine wl_nil fun F304 hF305 => ?_
       have s306 := (hF305 1).trans s288
       have s307 := (hF305 2).trans s289
       have s308 := (hF305 3).trans s290
       have s309 := (hF305 5).trans s291
       have s310 := (hF305 9).trans s292
       have s311 := (hF305 10).trans s293
       have s312 := (hF305 13).trans s294
       have s313 := (hF305 69).trans s295
       have s314 := (hF305 43).trans s296
       have s315 : F304 44 = .bool (decide ((((n : Nat) : Int)) < (16))) := (hF305 44).trans rfl
       clear hF305
       refine then_normal ?_
       refine wq_seq ?_
       refine wq_cond s315 (fun c316 => ?_) (fun c316 => ?_)
       ·replace c316 := of_decide_eq_true c316
        refine wq_skip ?_
        refine then_normal ?_
        refine wq_seq ?_
        refine wq_block ?_
        refine wq_seq ?_
        refine wq_region ?_
        refine wl_v (.int .i64 (((n : Nat) : Int))) rfl rfl (y_mov rfl s314 ⟨rfl, rfl⟩) ?_
        refine wl_v (.int .i64 (((n : Nat) : Int))) rfl rfl (y_asg rfl rfl ⟨rfl, rfl⟩) ?_
        refine wl_nil fun F317 hF318 => ?_
        have s319 := (hF318 1).trans s306
        have s320 := (hF318 2).trans s307
        have s321 := (hF318 3).trans s308
        have s322 := (hF318 5).trans s309
        have s323 := (hF318 9).trans s310
        have s324 := (hF318 10).trans s311
        have s325 := (hF318 13).trans s312
        have s326 := (hF318 69).trans s313
        have s327 := (hF318 43).trans s314
        have s328 : F317 14 = .int .i64 (((n : Nat) : Int)) := (hF318 14).trans rfl
        clear hF318
        refine then_normal ?_
        refine wq_region ?_
        refine wl_v (.int .i64 (((n : Nat) : Int))) rfl rfl (y_mov rfl s328 ⟨rfl, rfl⟩) ?_
        refine wl_v (.agg #[.int .i64 ((f).W), .int .i64 ((f).H), f0, f1, f2]) rfl rfl (y_load_stc stcT_frame rfl s322 B300 ⟨rfl, rfl⟩) ?_
        refine wl_v (.int .i64 (p)) rfl rfl (y_mov rfl s319 ⟨rfl, rfl⟩) ?_
        refine wl_v (.int .i64 (x)) rfl rfl (y_mov rfl s320 ⟨rfl, rfl⟩) ?_
        refine wl_v (.int .i64 (((n : Nat) : Int))) rfl rfl (y_mov rfl s328 ⟨rfl, rfl⟩) ?_
        refine wl_v (.int .i64 ((((n % 4) : Nat) : Int))) rfl rfl (y_rem rfl rfl rfl (by first | decide | omega) (rem_nat n 4) ⟨rfl, rfl⟩) ?_
        refine wl_v (.int .i64 ((x) + ((((n % 4) : Nat) : Int)))) rfl rfl (y_add rfl rfl rfl (i64_i rfl (by omega)) ⟨rfl, rfl⟩) ?_
        refine wl_v (.int .i64 ((2) * ((x) + ((((n % 4) : Nat) : Int))))) rfl rfl (y_mul rfl rfl rfl (i64_i rfl (by omega)) ⟨rfl, rfl⟩) ?_
        refine wl_v (.pointer (some ⟨p14, 0, none⟩)) rfl rfl (y_fieldR (n := 1) rfl s323 Tryz.underlying27 rfl (by kernel_rfl) (by decide) rfl ⟨rfl, rfl⟩) ?_
        refine wl_v (.int .i64 (X)) rfl rfl (y_ld_stc rfl rfl Tryz.underlying3 B301 rfl rfl ⟨rfl, rfl⟩) ?_
        refine wl_v (.int .i64 (((2) * ((x) + ((((n % 4) : Nat) : Int)))) + (X))) rfl rfl (y_add rfl rfl rfl (i64_i rfl (by omega)) ⟨rfl, rfl⟩) ?_
        refine wl_v (.int .i64 (y)) rfl rfl (y_mov rfl s321 ⟨rfl, rfl⟩) ?_
        refine wl_v (.int .i64 (((n : Nat) : Int))) rfl rfl (y_mov rfl s328 ⟨rfl, rfl⟩) ?_
        refine wl_v (.int .i64 ((((n / 4) : Nat) : Int))) rfl rfl (y_quo rfl rfl rfl (by first | decide | omega) (i64_n (quo_nat n 4) (by omega)) ⟨rfl, rfl⟩) ?_
        refine wl_v (.int .i64 ((y) + ((((n / 4) : Nat) : Int)))) rfl rfl (y_add rfl rfl rfl (i64_i rfl (by omega)) ⟨rfl, rfl⟩) ?_
        refine wl_v (.int .i64 ((2) * ((y) + ((((n / 4) : Nat) : Int))))) rfl rfl (y_mul rfl rfl rfl (i64_i rfl (by omega)) ⟨rfl, rfl⟩) ?_
        refine wl_v (.pointer (some ⟨p14, 1, none⟩)) rfl rfl (y_fieldR (n := 1) rfl s323 Tryz.underlying27 rfl (by kernel_rfl) (by decide) rfl ⟨rfl, rfl⟩) ?_
        refine wl_v (.int .i64 (Y)) rfl rfl (y_ld_stc rfl rfl Tryz.underlying3 B301 rfl rfl ⟨rfl, rfl⟩) ?_
        refine wl_v (.int .i64 (((2) * ((y) + ((((n / 4) : Nat) : Int)))) + (Y))) rfl rfl (y_add rfl rfl rfl (i64_i rfl (by omega)) ⟨rfl, rfl⟩) ?_
        refine wl_call (R := fun v_ w_ => v_ = .int .i64 (smpF (f) (p) (((2) * ((x) + ((((n % 4) : Nat) : Int)))) + (X)) (((2) * ((y) + ((((n / 4) : Nat) : Int)))) + (Y))) ∧ Kept (fun _ => False) w284 w_) rfl rfl (y_cs rfl rfl rfl (fun _ _ => by kernel_rfl) (ev_func _) (vsC rfl (vsC rfl (vsC rfl (vsC rfl vsN)))) (mo_sample (p) (((2) * ((x) + ((((n % 4) : Nat) : Int)))) + (X)) (((2) * ((y) + ((((n / 4) : Nat) : Int)))) + (Y)) (f) (f0) (f1) (f2) (T_f0) (T_f1) (T_f2) _  B297 B298 B299 ) (fun e_ w_ h_ => ⟨_, h_.1, rfl, h_.2⟩)) ?_
        rintro _ w329 ⟨rfl, k330⟩
        have B331 := B297.all k330 Apart.none
        have B332 := B298.all k330 Apart.none
        have B333 := B299.all k330 Apart.none
        have B334 := B300.all k330 id
        have B335 := B301.all k330 id
        have B336 := B302.all k330 id
        have B337 := B303.all k330 id
        have K338 := K285.trans k330 (fun _ _ x => x.elim)
        refine wl_v (.pointer (some ⟨p242, n, none⟩)) rfl rfl (y_atR (n) (s := 1) rfl s325 rfl (by omega) Tryz.underlying29 (by omega) (by kernel_rfl) (by omega) ⟨rfl, rfl⟩) ?_
        refine wl_set_blk rfl rfl rfl rfl rfl B337 (by omega) (by kernel_rfl) fun w339 B340 k341 => ?_
        have B342 := B331.all k341 (fun i h x => (((ap249).symm) i h x))
        have B343 := B332.all k341 (fun i h x => (((ap250).symm) i h x))
        have B344 := B333.all k341 (fun i h x => (((ap251).symm) i h x))
        have B345 := B334.all k341 (fun x => (((ap252).symm) p1 rfl x))
        have B346 := B335.all k341 (fun x => (((ap253).symm) p14 rfl x))
        have B347 := B336.all k341 (fun x => (((ap254).symm) p29 rfl x))
        have K348 := K338.trans k341 (Grew.ok (S := fun _ => False) gr248 noB_le)
        refine wl_nil fun F349 hF350 => ?_
        have s351 := (hF350 1).trans s319
        have s352 := (hF350 2).trans s320
        have s353 := (hF350 3).trans s321
        have s354 := (hF350 5).trans s322
        have s355 := (hF350 9).trans s323
        have s356 := (hF350 10).trans s324
        have s357 := (hF350 13).trans s325
        have s358 := (hF350 69).trans s326
        have s359 := (hF350 43).trans s327
        clear hF350
        refine in_normal ?_
        refine then_normal ?_
        refine wq_region ?_
        refine wl_v (.int .i64 (((n + 1 : Nat) : Int))) rfl rfl (y_add rfl s359 rfl (i64_n (by omega) (by omega)) ⟨rfl, rfl⟩) ?_
        refine wl_v (.int .i64 (((n + 1 : Nat) : Int))) rfl rfl (y_mov rfl rfl ⟨rfl, rfl⟩) ?_
        refine wl_nil fun F360 hF361 => ?_
        have s362 := (hF361 1).trans s351
        have s363 := (hF361 2).trans s352
        have s364 := (hF361 3).trans s353
        have s365 := (hF361 5).trans s354
        have s366 := (hF361 9).trans s355
        have s367 := (hF361 10).trans s356
        have s368 := (hF361 13).trans s357
        have s369 := (hF361 69).trans s358
        have s370 : F360 43 = .int .i64 (((n + 1 : Nat) : Int)) := (hF361 43).trans rfl
        clear hF361
        exact then_normal ⟨(16 - (n + 1)), by omega, n + 1, by omega, rfl, s362, s363, s364, s365, s366, s367, s368, s369, s370, K348, B342, B343, B344, B345, B346, B347, (B340.next rfl)⟩
       ·replace c316 := of_decide_eq_false c316
        refine wq_exit ?_
        refine then_exit ?_
        refine then_exit ?_
        have l371 : 16 = n := by omega
        subst l371
        have B372 : Blk w284 p242 29 (mvN f p x y X Y) := (B303.last)
        refine in_here ?_
        refine then_normal ?_
        refine wq_seq ?_
        refine wq_region ?_
        refine wl_v (blkV (mvN f p x y X Y)) rfl rfl (y_load_blk blkT_block rfl s312 B372 ⟨rfl, rfl⟩) ?_
        refine wl_store_blk blkT_block rfl rfl rfl s311 rfl B302 fun w373 B374 k375 => ?_
        have K382 := K285.trans k375 (Grew.ok (S := fun _ => False) gr35 noB_le)
        refine wl_v (.int .i64 (0)) rfl rfl (y_asg rfl rfl ⟨rfl, rfl⟩) ?_
        refine wl_nil fun F383 hF384 => ?_
        have s385 := (hF384 10).trans s311
        have s386 := (hF384 69).trans s313
        have s387 : F383 11 = .int .i64 (0) := (hF384 11).trans rfl
        clear hF384
        refine then_normal ?_
        refine wq_ret ?_
        exact end_2 s386 rfl (res_blk blkT_block rfl s385 B374) (res_tmp (v := .int .i64 (0)) rfl s387) ⟨(by first | rw [(mv_no hno).1, (mv_no hno).2] | rw [(mv_none hpl hvn).1, (mv_none hpl hvn).2, vecE_no hvn] | rw [(mv_yes hpl hv).1, (mv_yes hpl hv).2]), K382⟩
     ·skip
      refine wq_region ?_
      refine wl_v (.agg #[.int .i64 ((f).W), .int .i64 ((f).H), f0, f1, f2]) rfl rfl (y_load_stc stcT_frame rfl s53 B44 ⟨rfl, rfl⟩) ?_
      refine wl_call (R := fun v_ w_ => v_ = .int .i64 (checkE (f)) ∧ Kept (fun _ => False) w30 w_) rfl rfl (y_cs rfl rfl rfl (fun _ _ => by kernel_rfl) (ev_func _) (vsC rfl vsN) (pl_check (f) (f0) (f1) (f2) (T_f0) (T_f1) (T_f2) _  B41 B42 B43 ) (fun e_ w_ h_ => ⟨_, h_.1, rfl, h_.2⟩)) ?_
      rintro _ w388 ⟨rfl, k389⟩
      have B395 := B31.all k389 id
      have K396 := K46.trans k389 (fun _ _ x => x.elim)
      refine wl_v (.bool false) rfl rfl (y_neqI rfl rfl rfl (decide_eq_false d56) ⟨rfl, rfl⟩) ?_
      refine wl_v (.bool false) rfl rfl (y_mov rfl rfl ⟨rfl, rfl⟩) ?_
      refine wl_vw (.int .i64 (p)) 3 false 18 rfl rfl rfl rfl rfl (y_mov rfl s49 ⟨rfl, rfl⟩) ?_
      refine wl_vw (.bool false) 3 false 18 rfl rfl rfl rfl rfl (y_lss rfl rfl rfl (decide_eq_false d90) ⟨rfl, rfl⟩) ?_
      refine wl_v (.bool false) rfl rfl (y_pickF rfl rfl rfl ⟨rfl, rfl⟩) ?_
      refine wl_v (.bool false) rfl rfl (y_mov rfl rfl ⟨rfl, rfl⟩) ?_
      refine wl_vw (.int .i64 (p)) 7 false 22 rfl rfl rfl rfl rfl (y_mov rfl s49 ⟨rfl, rfl⟩) ?_
      refine wl_vw (.bool false) 7 false 22 rfl rfl rfl rfl rfl (y_geq rfl rfl rfl (decide_eq_false d124) ⟨rfl, rfl⟩) ?_
      refine wl_v (.bool false) rfl rfl (y_pickF rfl rfl rfl ⟨rfl, rfl⟩) ?_
      refine wl_v (.bool false) rfl rfl (y_mov rfl rfl ⟨rfl, rfl⟩) ?_
      refine wl_vw (.int .i64 (x)) 11 false 26 rfl rfl rfl rfl rfl (y_mov rfl s50 ⟨rfl, rfl⟩) ?_
      refine wl_callw (R := fun v_ w_ => v_ = .bool true ∧ Kept (fun _ => False) w388 w_) 11 false 26 rfl rfl rfl rfl rfl (y_cs rfl rfl rfl (fun _ _ => by kernel_rfl) (ev_func _) (vsC rfl vsN) (mo_mayPlace (x)  _   ) (fun e_ w_ h_ => ⟨_, h_.1, (congrArg Value.bool (decide_eq_true d158)), h_.2⟩)) ?_
      rintro _ w397 ⟨rfl, k398⟩
      have B404 := B395.all k398 id
      have K405 := K396.trans k398 (fun _ _ x => x.elim)
      refine wl_vw (.bool false) 11 false 26 rfl rfl rfl rfl rfl (y_not rfl rfl rfl ⟨rfl, rfl⟩) ?_
      refine wl_v (.bool false) rfl rfl (y_pickF rfl rfl rfl ⟨rfl, rfl⟩) ?_
      refine wl_v (.bool false) rfl rfl (y_mov rfl rfl ⟨rfl, rfl⟩) ?_
      refine wl_vw (.int .i64 (y)) 16 false 31 rfl rfl rfl rfl rfl (y_mov rfl s51 ⟨rfl, rfl⟩) ?_
      refine wl_callw (R := fun v_ w_ => v_ = .bool false ∧ Kept (fun _ => False) w397 w_) 16 false 31 rfl rfl rfl rfl rfl (y_cs rfl rfl rfl (fun _ _ => by kernel_rfl) (ev_func _) (vsC rfl vsN) (mo_mayPlace (y)  _   ) (fun e_ w_ h_ => ⟨_, h_.1, (congrArg Value.bool (decide_eq_false d159)), h_.2⟩)) ?_
      rintro _ w406 ⟨rfl, k407⟩
      have B413 := B404.all k407 id
      have K414 := K405.trans k407 (fun _ _ x => x.elim)
      refine wl_vw (.bool true) 16 false 31 rfl rfl rfl rfl rfl (y_not rfl rfl rfl ⟨rfl, rfl⟩) ?_
      refine wl_v (.bool true) rfl rfl (y_pickF rfl rfl rfl ⟨rfl, rfl⟩) ?_
      refine wl_nil fun F415 hF416 => ?_
      have s420 := (hF416 69).trans s52
      have s423 := (hF416 10).trans s55
      have s424 : F415 35 = .bool true := (hF416 35).trans rfl
      clear hF416
      refine then_normal ?_
      refine wq_cond (t := true) s424 (fun _ => ?_) (fun e => by cases e)
      refine wq_seq ?_
      have hno : ¬ placeF f p x y := by rintro ⟨h1, h2, h3, h4, h5, h6, h7⟩; first | exact absurd ((checkE_iff f).2 h1) (by assumption) | omega
      refine wq_region ?_
      refine wl_v (blkV (fun _ => 0)) rfl rfl (y_buildR (cells := (arrL 16 (fun _ => 0)).toArray) rfl (by kernel_rfl) rfl ⟨rfl, rfl⟩) ?_
      refine wl_store_blk blkT_block rfl rfl rfl s423 rfl B413 fun w425 B426 k427 => ?_
      have K433 := K414.trans k427 (Grew.ok (S := fun _ => False) gr35 noB_le)
      refine wl_v (.int .i64 (70)) rfl rfl (y_asg rfl rfl ⟨rfl, rfl⟩) ?_
      refine wl_nil fun F434 hF435 => ?_
      have s436 := (hF435 69).trans s420
      have s437 := (hF435 10).trans s423
      have s438 : F434 11 = .int .i64 (70) := (hF435 11).trans rfl
      clear hF435
      refine then_normal ?_
      refine wq_ret ?_
      refine then_ret ?_
      exact end_2 s436 rfl (res_blk blkT_block rfl s437 B426) (res_tmp (v := .int .i64 (70)) rfl s438) ⟨(by first | rw [(mv_no hno).1, (mv_no hno).2] | rw [(mv_none hpl hvn).1, (mv_none hpl hvn).2, vecE_no hvn] | rw [(mv_yes hpl hv).1, (mv_yes hpl hv).2]), K433⟩
    ·skip
     refine wq_region ?_
     refine wl_v (.agg #[.int .i64 ((f).W), .int .i64 ((f).H), f0, f1, f2]) rfl rfl (y_load_stc stcT_frame rfl s53 B44 ⟨rfl, rfl⟩) ?_
     refine wl_call (R := fun v_ w_ => v_ = .int .i64 (checkE (f)) ∧ Kept (fun _ => False) w30 w_) rfl rfl (y_cs rfl rfl rfl (fun _ _ => by kernel_rfl) (ev_func _) (vsC rfl vsN) (pl_check (f) (f0) (f1) (f2) (T_f0) (T_f1) (T_f2) _  B41 B42 B43 ) (fun e_ w_ h_ => ⟨_, h_.1, rfl, h_.2⟩)) ?_
     rintro _ w439 ⟨rfl, k440⟩
     have B446 := B31.all k440 id
     have K447 := K46.trans k440 (fun _ _ x => x.elim)
     refine wl_v (.bool false) rfl rfl (y_neqI rfl rfl rfl (decide_eq_false d56) ⟨rfl, rfl⟩) ?_
     refine wl_v (.bool false) rfl rfl (y_mov rfl rfl ⟨rfl, rfl⟩) ?_
     refine wl_vw (.int .i64 (p)) 3 false 18 rfl rfl rfl rfl rfl (y_mov rfl s49 ⟨rfl, rfl⟩) ?_
     refine wl_vw (.bool false) 3 false 18 rfl rfl rfl rfl rfl (y_lss rfl rfl rfl (decide_eq_false d90) ⟨rfl, rfl⟩) ?_
     refine wl_v (.bool false) rfl rfl (y_pickF rfl rfl rfl ⟨rfl, rfl⟩) ?_
     refine wl_v (.bool false) rfl rfl (y_mov rfl rfl ⟨rfl, rfl⟩) ?_
     refine wl_vw (.int .i64 (p)) 7 false 22 rfl rfl rfl rfl rfl (y_mov rfl s49 ⟨rfl, rfl⟩) ?_
     refine wl_vw (.bool false) 7 false 22 rfl rfl rfl rfl rfl (y_geq rfl rfl rfl (decide_eq_false d124) ⟨rfl, rfl⟩) ?_
     refine wl_v (.bool false) rfl rfl (y_pickF rfl rfl rfl ⟨rfl, rfl⟩) ?_
     refine wl_v (.bool false) rfl rfl (y_mov rfl rfl ⟨rfl, rfl⟩) ?_
     refine wl_vw (.int .i64 (x)) 11 false 26 rfl rfl rfl rfl rfl (y_mov rfl s50 ⟨rfl, rfl⟩) ?_
     refine wl_callw (R := fun v_ w_ => v_ = .bool false ∧ Kept (fun _ => False) w439 w_) 11 false 26 rfl rfl rfl rfl rfl (y_cs rfl rfl rfl (fun _ _ => by kernel_rfl) (ev_func _) (vsC rfl vsN) (mo_mayPlace (x)  _   ) (fun e_ w_ h_ => ⟨_, h_.1, (congrArg Value.bool (decide_eq_false d158)), h_.2⟩)) ?_
     rintro _ w448 ⟨rfl, k449⟩
     have B455 := B446.all k449 id
     have K456 := K447.trans k449 (fun _ _ x => x.elim)
     refine wl_vw (.bool true) 11 false 26 rfl rfl rfl rfl rfl (y_not rfl rfl rfl ⟨rfl, rfl⟩) ?_
     refine wl_v (.bool true) rfl rfl (y_pickF rfl rfl rfl ⟨rfl, rfl⟩) ?_
     refine wl_v (.bool true) rfl rfl (y_mov rfl rfl ⟨rfl, rfl⟩) ?_
     refine wl_unless 16 false 31 rfl rfl rfl (Or.inl rfl) rfl ?_
     refine wl_unless 16 false 31 rfl rfl rfl (Or.inl rfl) rfl ?_
     refine wl_unless 16 false 31 rfl rfl rfl (Or.inl rfl) rfl ?_
     refine wl_v (.bool true) rfl rfl (y_pickT rfl rfl rfl ⟨rfl, rfl⟩) ?_
     refine wl_nil fun F457 hF458 => ?_
     have s462 := (hF458 69).trans s52
     have s465 := (hF458 10).trans s55
     have s466 : F457 35 = .bool true := (hF458 35).trans rfl
     clear hF458
     refine then_normal ?_
     refine wq_cond (t := true) s466 (fun _ => ?_) (fun e => by cases e)
     refine wq_seq ?_
     have hno : ¬ placeF f p x y := by rintro ⟨h1, h2, h3, h4, h5, h6, h7⟩; first | exact absurd ((checkE_iff f).2 h1) (by assumption) | omega
     refine wq_region ?_
     refine wl_v (blkV (fun _ => 0)) rfl rfl (y_buildR (cells := (arrL 16 (fun _ => 0)).toArray) rfl (by kernel_rfl) rfl ⟨rfl, rfl⟩) ?_
     refine wl_store_blk blkT_block rfl rfl rfl s465 rfl B455 fun w467 B468 k469 => ?_
     have K475 := K456.trans k469 (Grew.ok (S := fun _ => False) gr35 noB_le)
     refine wl_v (.int .i64 (70)) rfl rfl (y_asg rfl rfl ⟨rfl, rfl⟩) ?_
     refine wl_nil fun F476 hF477 => ?_
     have s478 := (hF477 69).trans s462
     have s479 := (hF477 10).trans s465
     have s480 : F476 11 = .int .i64 (70) := (hF477 11).trans rfl
     clear hF477
     refine then_normal ?_
     refine wq_ret ?_
     refine then_ret ?_
     exact end_2 s478 rfl (res_blk blkT_block rfl s479 B468) (res_tmp (v := .int .i64 (70)) rfl s480) ⟨(by first | rw [(mv_no hno).1, (mv_no hno).2] | rw [(mv_none hpl hvn).1, (mv_none hpl hvn).2, vecE_no hvn] | rw [(mv_yes hpl hv).1, (mv_yes hpl hv).2]), K475⟩
end Go.Proofs.YtdcbabgcbkdlhaaGreatDoor
set_option maxRecDepth 100000
namespace Go.Proofs.YtdcbabgcbkdlhaaGreatDoor
open Go.RowKit

structure Ch where
  m : Int
  px : Int
  py : Int
  nx : Int
  ny : Int
  b : Nat → Int
def chV (c : Ch) : List Value := .int .i64 c.m :: .int .i64 c.px :: .int .i64 c.py :: .int .i64 c.nx :: .int .i64 c.ny :: arrL 16 c.b
/-- Cells written out. -/
abbrev chL (m px py nx ny : Int) (b : Nat → Int) : List Value := [.int .i64 m, .int .i64 px, .int .i64 py, .int .i64 nx, .int .i64 ny, .int .i64 (b 0), .int .i64 (b 1), .int .i64 (b 2), .int .i64 (b 3), .int .i64 (b 4), .int .i64 (b 5), .int .i64 (b 6), .int .i64 (b 7), .int .i64 (b 8), .int .i64 (b 9), .int .i64 (b 10), .int .i64 (b 11), .int .i64 (b 12), .int .i64 (b 13), .int .i64 (b 14), .int .i64 (b 15)]
abbrev chW (c : Ch) : List Value := chL c.m c.px c.py c.nx c.ny c.b
theorem one_arrL (n : Nat) (b : Nat → Int) : OneAll (arrL n b) := fun v h => by
  obtain ⟨i, _, rfl⟩ := List.mem_map.1 h; rfl
theorem stcT_choice : StcT Tryz.prog 31 21 := ⟨_, Tryz.underlying31, rfl, by kernel_rfl⟩
theorem stcT_block : StcT Tryz.prog 29 16 := ⟨_, Tryz.underlying29, rfl, by kernel_rfl⟩
section
variable {P : Program} {ρ : Operand → Value} {o : Oper} {w : World} {R : Value → World → Prop}
/-- A part of a struct is loaded. -/
theorem y_ldPart {ty t : TypeId} {x : Operand} {p k n : Nat} {vs us : List Value} (hT : StcT P ty n) (ho : o.op = .load ty x) (hx : ρ x = .pointer (some ⟨p, k, none⟩)) (hB : Stc w p t vs) (hkn : k + n ≤ vs.length) (hu : (vs.drop k).take n = us) (h : R (.agg us.toArray) w) : Yields P ρ o w R := by
  subst hu
  obtain ⟨d, hu, hd, hs⟩ := hT
  have hlen : ((vs.drop k).take n).length = n := by rw [List.length_take, List.length_drop]; omega
  have e := run_loadVar_mid (P := P) w p k ty ((vs.drop k).take n) d (fun q u hq => by
    have hqn : q < n := by have := (List.getElem?_eq_some_iff.1 hq).1; omega
    exact hB.cell (by rwa [List.getElem?_take, if_pos hqn, List.getElem?_drop] at hq)) hu hd (by rw [hlen]; exact hs)
  exact y_val (v := .agg ((vs.drop k).take n).toArray) (w' := w) (by simp only [execOp, ho, hx, Instr.loadAt, Instr.sureAddr, Sem.run_bind, Sem.run_pure, Result.andThen_ok, e]) h
/-- A part of a struct is stored. -/
theorem y_setPart {ty t : TypeId} {x y : Operand} {p k : Nat} {vs us ns : List Value} (hT : StcT P ty us.length) (ho : o.op = .store ty x y) (hx : ρ x = .pointer (some ⟨p, k, none⟩)) (hy : ρ y = .agg us.toArray) (hB : Stc w p t vs) (hk : k + us.length ≤ vs.length) (h1 : OneAll us) (hn : vs.take k ++ us ++ vs.drop (k + us.length) = ns)
    (h : ∀ w', Stc w' p t ns → Kept (fun k => k = p) w w' → R undef w') : Yields P ρ o w R := by
  subst hn
  obtain ⟨d, _, _, hs⟩ := hT
  have hst := run_storeCells_at P p k t us 0 vs.toArray w hB (by simpa using hk) h1
  simp only [Nat.add_zero] at hst
  cases hq : P.info? ty with
  | none => rw [hq] at hs; cases hs
  | some i =>
    have hs' : i.size = us.length := by simpa [hq] using hs
    have hsv : (storeVar ty ⟨p, k, none⟩ (.agg us.toArray)).run P w = .ok () (w.setRow p (vs.take k ++ us ++ vs.drop (k + us.length)).toArray) := by
      simp [storeVar, sizeOf, typeInfo, hq, hs', Value.cells, hst]
    have e : (execOp ρ o).run P w = .ok .skip (w.setRow p (vs.take k ++ us ++ vs.drop (k + us.length)).toArray) := by
      simp only [execOp, ho, hx, hy, Instr.storeAt, Instr.sureAddr, Sem.run_bind, Sem.run_pure, Result.andThen_ok, hsv]
    unfold Yields
    rw [e]
    exact h _ (setRow_heap _ _ _ _ _ _ hB) ((Kept.refl (fun k => k = p) w).setRow p (fun _ => rfl) _)
end
section
variable {ro : Option Nat} {P : Program} {N : Nat} {Q : (Exit → (Nat → Value) → World → Prop)} {F : Nat → Value} {w : World} {o : Oper}
theorem wl_setPart {ops : Array Oper} {rest : List Oper} {ty t : TypeId} {x y : Operand} {p k : Nat} {vs us ns : List Value} (hT : StcT P ty us.length) (hg : o.guard = none) (hdn : o.dst = none) (ho : o.op = .store ty x y) (hx : ev (cutF N F) x = .pointer (some ⟨p, k, none⟩)) (hy : ev (cutF N F) y = .agg us.toArray) (hB : Stc w p t vs) (hk : k + us.length ≤ vs.length) (h1 : OneAll us) (hn : vs.take k ++ us ++ vs.drop (k + us.length) = ns)
    (h : ∀ w', Stc w' p t ns → Kept (fun k => k = p) w w' → wl ro P N ops Q rest F w') : wl ro P N ops Q (o :: rest) F w := by
  refine wl_op hg (by rw [hdn]; rfl) (y_setPart hT ho hx hy hB hk h1 hn fun w' hw hk => ?_)
  rw [hdn]
  exact h w' hw hk
end
end Go.Proofs.YtdcbabgcbkdlhaaGreatDoor
set_option maxRecDepth 100000
namespace Go.Proofs.YtdcbabgcbkdlhaaGreatDoor

def pastB (m : Int) : Bool := decide (m = 4) || decide (m = 6)
def nextB (m : Int) : Bool := decide (m = 5) || decide (m = 6)
def mostK (k : Int) : Int := if k = 0 then 3 else if k = 1 then 4 else if k = 2 then 6 else -1
def farCh (b : Nat → Int) : Nat → Bool
  | 0 => false
  | i + 1 => farCh b i || decide (b i < -1048576 ∨ 1048576 < b i)
def badM (k : Int) (c : Ch) : Prop := c.m < 0 ∨ mostK k < c.m ∨ (pastB c.m = false ∧ sameVec c.px c.py 0 0 = false) ∨ (nextB c.m = false ∧ sameVec c.nx c.ny 0 0 = false)
instance (k : Int) (c : Ch) : Decidable (badM k c) := by unfold badM; infer_instance
def chE (k : Int) (c : Ch) : Int := if badM k c then 120 else if farCh c.b 16 = true then 120 else if vecOk c.px c.py ∧ vecOk c.nx c.ny then 0 else 90
theorem chE_bad {k : Int} {c : Ch} (h : badM k c) : chE k c = 120 := if_pos h
theorem chE_far {k : Int} {c : Ch} (h : ¬ badM k c) (hf : farCh c.b 16 = true) : chE k c = 120 := by unfold chE; rw [if_neg h, if_pos hf]
theorem chE_vec {k : Int} {c : Ch} (h : ¬ badM k c) (hf : farCh c.b 16 = false) : chE k c = if vecOk c.px c.py ∧ vecOk c.nx c.ny then 0 else 90 := by unfold chE; rw [if_neg h, if_neg (by rw [hf]; exact Bool.false_ne_true)]
theorem far_hit {b : Nat → Int} {i : Nat} (h : b i < -1048576 ∨ 1048576 < b i) : ∀ n, i < n → farCh b n = true := by
  intro n
  induction n with
  | zero => intro hi; omega
  | succ n ih =>
    intro hi
    unfold farCh
    by_cases e : i = n
    · subst e; rw [decide_eq_true h, Bool.or_true]
    · rw [ih (by omega), Bool.true_or]
def pastBits (c : Ch) (gx gy : Int) : List Bool := if pastB c.m = true then vecBits c.px c.py gx gy else []
def nextBits (c : Ch) (gx gy : Int) : List Bool := if nextB c.m = true then vecBits c.nx c.ny gx gy else []
def chBits (c : Ch) (ax ay bx yy : Int) : List Bool := wholeBits c.m ++ pastBits c ax ay ++ nextBits c bx yy ++ scanBits c.b
def wrCh (k : Int) (c : Ch) (ax ay bx yy : Int) : List Bool := if chE k c = 0 then chBits c ax ay bx yy else []
def ch0 : Ch := ⟨0, 0, 0, 0, 0, fun _ => 0⟩
/-- A vector that a mode has, or has not. -/
def stV (has : Bool) (l : List Nat) (gx gy : Int) (s : Option Nat) : Int × Int × Int × Option Nat := if has = true then (vrX l gx gy s, vrY l gx gy s, vrE l gx gy s, vrS l s) else (0, 0, 0, s)
def rd4 (l : List Nat) (m : Int) (p n : Int × Int × Int × Option Nat) : Ch × Int × Option Nat :=
  if (scanRd l n.2.2.2).2.1 = 0 then (⟨m, p.1, p.2.1, n.1, n.2.1, (scanRd l n.2.2.2).1⟩, 0, (scanRd l n.2.2.2).2.2) else (ch0, (scanRd l n.2.2.2).2.1, (scanRd l n.2.2.2).2.2)
def rd3 (l : List Nat) (m : Int) (p n : Int × Int × Int × Option Nat) : Ch × Int × Option Nat := if n.2.2.1 = 0 then rd4 l m p n else (ch0, n.2.2.1, n.2.2.2)
def rd2 (l : List Nat) (m : Int) (bx yy : Int) (p : Int × Int × Int × Option Nat) : Ch × Int × Option Nat := if p.2.2.1 = 0 then rd3 l m p (stV (nextB m) l bx yy p.2.2.2) else (ch0, p.2.2.1, p.2.2.2)
def rd1 (l : List Nat) (ax ay bx yy : Int) (m : Int × Option Nat) : Ch × Int × Option Nat := if m.2.isNone = true then (ch0, 120, m.2) else rd2 l m.1 bx yy (stV (pastB m.1) l ax ay m.2)
def rdCh (l : List Nat) (k ax ay bx yy : Int) (st : Option Nat) : Ch × Int × Option Nat := rd1 l ax ay bx yy (rdStep (wholeRd l (mostK k)) st)
theorem stV_yes {has : Bool} {l : List Nat} {gx gy : Int} {s : Option Nat} (h : has = true) : stV has l gx gy s = (vrX l gx gy s, vrY l gx gy s, vrE l gx gy s, vrS l s) := if_pos h
theorem stV_no {has : Bool} {l : List Nat} {gx gy : Int} {s : Option Nat} (h : has = false) : stV has l gx gy s = (0, 0, 0, s) := if_neg (by rw [h]; exact Bool.false_ne_true)
end Go.Proofs.YtdcbabgcbkdlhaaGreatDoor
