/- What PictureTells reaches of my texts, part 6. -/
import Derived.Test.YtknjpdcpmpfklaaGreatDoorPictureTellsE
set_option maxRecDepth 100000
set_option maxHeartbeats 4000000
set_option maxRecDepth 100000
namespace Go.Proofs.YtknjpdcpmpfklaaGreatDoor
open Go.RowKit
theorem stcT_vector : StcT Tryz.prog 67 2 := ⟨_, Tryz.underlying67, rfl, by kernel_rfl⟩
theorem half_is (n : Int) : (Int.tmod n 2 = 0 → Int.tdiv n 2 = n / 2) ∧ (Int.tmod n 2 ≠ 0 → Int.tdiv (n - 1) 2 = n / 2) := by
  have h1 : ∀ m : Int, Int.tmod m 2 = 0 → Int.tdiv m 2 = m / 2 := fun m h => by
    have e := Int.tmod_add_mul_tdiv m 2
    omega
  refine ⟨h1 n, fun h => ?_⟩
  have e := Int.tmod_add_mul_tdiv (n - 1) 2
  have e2 := Int.tmod_add_mul_tdiv n 2
  have h3 : n % 2 = 1 := by
    by_cases h4 : n % 2 = 0
    · exact absurd (Int.tmod_eq_zero_of_dvd (Int.dvd_of_emod_eq_zero h4)) h
    · omega
  have h5 : Int.tmod (n - 1) 2 = 0 := Int.tmod_eq_zero_of_dvd (Int.dvd_of_emod_eq_zero (by omega))
  omega
theorem tmod2 (n : Int) : Int.tmod n 2 = 0 ↔ n % 2 = 0 := by
  constructor
  · intro h; have e := Int.tmod_add_mul_tdiv n 2; omega
  · intro h; exact Int.tmod_eq_zero_of_dvd (Int.dvd_of_emod_eq_zero h)
theorem mref_check (X Y : Int) (w0 : World) :
  Calls Tryz.prog 74 #[.agg #[.int .i64 (X), .int .i64 (Y)]] w0 fun e w' => e = .returned (.int .i64 (vecE X Y)) ∧ Kept (fun _ => False) w0 w' := by
 refine calls_wq (args := [.agg #[iv X, iv Y]]) 21 Tryz.func74 rfl rfl (Nat.le_of_ble_eq_true rfl) ?_
 have K0 := Kept.refl (fun _ => False) w0
 refine wq_seq (wq_region (wl_box_stc (vs := [iv X, iv Y]) rfl rfl rfl rfl fun p1 w2 B4 g5 k3 => ?_))
 have K7 := K0.tr k3
 refine wl_v (iv 0) rfl rfl (y_asg rfl rfl rr) (wl_nil fun F8 hF9 => ?_)
 have s10 : F8 21 = undef := (hF9 21).trans rfl
 have s11 : F8 1 = pt p1 0 := (hF9 1).trans rfl
 clear hF9
 refine then_normal (wq_seq (wq_seq ?_))
 by_cases d12 : X < (-31)
 ·skip
  refine wq_region (wl_v (pt p1 0) rfl rfl (y_fieldR (n := 1) rfl s11 Tryz.underlying67 rfl (by kernel_rfl) (by decide) rfl rr) (wl_v (iv X) rfl rfl (y_ld_stc rfl rfl Tryz.underlying3 B4 rfl rfl rr) (wl_v (.bool true) rfl rfl (y_lss rfl rfl rfl (decide_eq_true d12) rr) (wl_v (.bool true) rfl rfl (y_mov rfl rfl rr) (wl_unless 3 false 6 rfl rfl rfl (Or.inl rfl) rfl (wl_unless 3 false 6 rfl rfl rfl (Or.inl rfl) rfl (wl_unless 3 false 6 rfl rfl rfl (Or.inl rfl) rfl (wl_v (.bool true) rfl rfl (y_pickT rfl rfl rfl rr) (wl_v (.bool true) rfl rfl (y_mov rfl rfl rr) (wl_unless 8 false 11 rfl rfl rfl (Or.inl rfl) rfl (wl_unless 8 false 11 rfl rfl rfl (Or.inl rfl) rfl ?_)))))))))))
  refine wl_unless 8 false 11 rfl rfl rfl (Or.inl rfl) rfl (wl_v (.bool true) rfl rfl (y_pickT rfl rfl rfl rr) (wl_v (.bool true) rfl rfl (y_mov rfl rfl rr) (wl_unless 13 false 16 rfl rfl rfl (Or.inl rfl) rfl (wl_unless 13 false 16 rfl rfl rfl (Or.inl rfl) rfl (wl_unless 13 false 16 rfl rfl rfl (Or.inl rfl) rfl (wl_v (.bool true) rfl rfl (y_pickT rfl rfl rfl rr) (wl_nil fun F13 hF14 => ?_)))))))
  have s15 := (hF14 21).trans s10
  have s16 : F13 20 = .bool true := (hF14 20).trans rfl
  clear hF14
  refine then_normal ?_
  refine wq_cond (t := true) s16 (fun _ => ?_) (fun e => by cases e)
  refine wq_seq (wq_region (wl_v (iv 90) rfl rfl (y_asg rfl rfl rr) (wl_nil fun F17 hF18 => ?_)))
  have s19 := (hF18 21).trans s15
  have s20 : F17 2 = iv 90 := (hF18 2).trans rfl
  clear hF18
  refine then_normal (wq_ret (then_ret ?_))
  exact end_tmp (v := iv 90) s19 rfl rfl s20 ⟨(by first | rw [vecE_yes (by unfold vecOk; omega)] | rw [vecE_no (by unfold vecOk; omega)]), K7⟩
 ·skip
  by_cases d21 : 31 < X
  ·skip
   refine wq_region (wl_v (pt p1 0) rfl rfl (y_fieldR (n := 1) rfl s11 Tryz.underlying67 rfl (by kernel_rfl) (by decide) rfl rr) (wl_v (iv X) rfl rfl (y_ld_stc rfl rfl Tryz.underlying3 B4 rfl rfl rr) (wl_v (.bool false) rfl rfl (y_lss rfl rfl rfl (decide_eq_false d12) rr) (wl_v (.bool false) rfl rfl (y_mov rfl rfl rr) (wl_vw (pt p1 0) 3 false 6 rfl rfl rfl rfl rfl (y_fieldR (n := 1) rfl s11 Tryz.underlying67 rfl (by kernel_rfl) (by decide) rfl rr) (wl_vw (iv X) 3 false 6 rfl rfl rfl rfl rfl (y_ld_stc rfl rfl Tryz.underlying3 B4 rfl rfl rr) (wl_vw (.bool true) 3 false 6 rfl rfl rfl rfl rfl (y_gtr rfl rfl rfl (decide_eq_true d21) rr) (wl_v (.bool true) rfl rfl (y_pickF rfl rfl rfl rr) (wl_v (.bool true) rfl rfl (y_mov rfl rfl rr) (wl_unless 8 false 11 rfl rfl rfl (Or.inl rfl) rfl (wl_unless 8 false 11 rfl rfl rfl (Or.inl rfl) rfl ?_)))))))))))
   refine wl_unless 8 false 11 rfl rfl rfl (Or.inl rfl) rfl (wl_v (.bool true) rfl rfl (y_pickT rfl rfl rfl rr) (wl_v (.bool true) rfl rfl (y_mov rfl rfl rr) (wl_unless 13 false 16 rfl rfl rfl (Or.inl rfl) rfl (wl_unless 13 false 16 rfl rfl rfl (Or.inl rfl) rfl (wl_unless 13 false 16 rfl rfl rfl (Or.inl rfl) rfl (wl_v (.bool true) rfl rfl (y_pickT rfl rfl rfl rr) (wl_nil fun F22 hF23 => ?_)))))))
   have s24 := (hF23 21).trans s10
   have s25 : F22 20 = .bool true := (hF23 20).trans rfl
   clear hF23
   refine then_normal ?_
   refine wq_cond (t := true) s25 (fun _ => ?_) (fun e => by cases e)
   refine wq_seq (wq_region (wl_v (iv 90) rfl rfl (y_asg rfl rfl rr) (wl_nil fun F26 hF27 => ?_)))
   have s28 := (hF27 21).trans s24
   have s29 : F26 2 = iv 90 := (hF27 2).trans rfl
   clear hF27
   refine then_normal (wq_ret (then_ret ?_))
   exact end_tmp (v := iv 90) s28 rfl rfl s29 ⟨(by first | rw [vecE_yes (by unfold vecOk; omega)] | rw [vecE_no (by unfold vecOk; omega)]), K7⟩
  ·skip
   by_cases d30 : Y < (-31)
   ·skip
    refine wq_region (wl_v (pt p1 0) rfl rfl (y_fieldR (n := 1) rfl s11 Tryz.underlying67 rfl (by kernel_rfl) (by decide) rfl rr) (wl_v (iv X) rfl rfl (y_ld_stc rfl rfl Tryz.underlying3 B4 rfl rfl rr) (wl_v (.bool false) rfl rfl (y_lss rfl rfl rfl (decide_eq_false d12) rr) (wl_v (.bool false) rfl rfl (y_mov rfl rfl rr) (wl_vw (pt p1 0) 3 false 6 rfl rfl rfl rfl rfl (y_fieldR (n := 1) rfl s11 Tryz.underlying67 rfl (by kernel_rfl) (by decide) rfl rr) (wl_vw (iv X) 3 false 6 rfl rfl rfl rfl rfl (y_ld_stc rfl rfl Tryz.underlying3 B4 rfl rfl rr) (wl_vw (.bool false) 3 false 6 rfl rfl rfl rfl rfl (y_gtr rfl rfl rfl (decide_eq_false d21) rr) (wl_v (.bool false) rfl rfl (y_pickF rfl rfl rfl rr) (wl_v (.bool false) rfl rfl (y_mov rfl rfl rr) (wl_vw (pt p1 1) 8 false 11 rfl rfl rfl rfl rfl (y_fieldR (n := 1) rfl s11 Tryz.underlying67 rfl (by kernel_rfl) (by decide) rfl rr) (wl_vw (iv Y) 8 false 11 rfl rfl rfl rfl rfl (y_ld_stc rfl rfl Tryz.underlying3 B4 rfl rfl rr) ?_)))))))))))
    refine wl_vw (.bool true) 8 false 11 rfl rfl rfl rfl rfl (y_lss rfl rfl rfl (decide_eq_true d30) rr) (wl_v (.bool true) rfl rfl (y_pickF rfl rfl rfl rr) (wl_v (.bool true) rfl rfl (y_mov rfl rfl rr) (wl_unless 13 false 16 rfl rfl rfl (Or.inl rfl) rfl (wl_unless 13 false 16 rfl rfl rfl (Or.inl rfl) rfl (wl_unless 13 false 16 rfl rfl rfl (Or.inl rfl) rfl (wl_v (.bool true) rfl rfl (y_pickT rfl rfl rfl rr) (wl_nil fun F31 hF32 => ?_)))))))
    have s33 := (hF32 21).trans s10
    have s34 : F31 20 = .bool true := (hF32 20).trans rfl
    clear hF32
    refine then_normal ?_
    refine wq_cond (t := true) s34 (fun _ => ?_) (fun e => by cases e)
    refine wq_seq (wq_region (wl_v (iv 90) rfl rfl (y_asg rfl rfl rr) (wl_nil fun F35 hF36 => ?_)))
    have s37 := (hF36 21).trans s33
    have s38 : F35 2 = iv 90 := (hF36 2).trans rfl
    clear hF36
    refine then_normal (wq_ret (then_ret ?_))
    exact end_tmp (v := iv 90) s37 rfl rfl s38 ⟨(by first | rw [vecE_yes (by unfold vecOk; omega)] | rw [vecE_no (by unfold vecOk; omega)]), K7⟩
   ·skip
    refine wq_region (wl_v (pt p1 0) rfl rfl (y_fieldR (n := 1) rfl s11 Tryz.underlying67 rfl (by kernel_rfl) (by decide) rfl rr) (wl_v (iv X) rfl rfl (y_ld_stc rfl rfl Tryz.underlying3 B4 rfl rfl rr) (wl_v (.bool false) rfl rfl (y_lss rfl rfl rfl (decide_eq_false d12) rr) (wl_v (.bool false) rfl rfl (y_mov rfl rfl rr) (wl_vw (pt p1 0) 3 false 6 rfl rfl rfl rfl rfl (y_fieldR (n := 1) rfl s11 Tryz.underlying67 rfl (by kernel_rfl) (by decide) rfl rr) (wl_vw (iv X) 3 false 6 rfl rfl rfl rfl rfl (y_ld_stc rfl rfl Tryz.underlying3 B4 rfl rfl rr) (wl_vw (.bool false) 3 false 6 rfl rfl rfl rfl rfl (y_gtr rfl rfl rfl (decide_eq_false d21) rr) (wl_v (.bool false) rfl rfl (y_pickF rfl rfl rfl rr) (wl_v (.bool false) rfl rfl (y_mov rfl rfl rr) (wl_vw (pt p1 1) 8 false 11 rfl rfl rfl rfl rfl (y_fieldR (n := 1) rfl s11 Tryz.underlying67 rfl (by kernel_rfl) (by decide) rfl rr) (wl_vw (iv Y) 8 false 11 rfl rfl rfl rfl rfl (y_ld_stc rfl rfl Tryz.underlying3 B4 rfl rfl rr) ?_)))))))))))
    refine wl_vw (.bool false) 8 false 11 rfl rfl rfl rfl rfl (y_lss rfl rfl rfl (decide_eq_false d30) rr) (wl_v (.bool false) rfl rfl (y_pickF rfl rfl rfl rr) (wl_v (.bool false) rfl rfl (y_mov rfl rfl rr) (wl_vw (pt p1 1) 13 false 16 rfl rfl rfl rfl rfl (y_fieldR (n := 1) rfl s11 Tryz.underlying67 rfl (by kernel_rfl) (by decide) rfl rr) (wl_vw (iv Y) 13 false 16 rfl rfl rfl rfl rfl (y_ld_stc rfl rfl Tryz.underlying3 B4 rfl rfl rr) (wl_vw (.bool (decide (31 < Y))) 13 false 16 rfl rfl rfl rfl rfl (y_gtr rfl rfl rfl rfl rr) (wl_v (.bool (decide (31 < Y))) rfl rfl (y_pickF rfl rfl rfl rr) (wl_nil fun F39 hF40 => ?_)))))))
    have s41 := (hF40 21).trans s10
    have s42 : F39 20 = .bool (decide (31 < Y)) := (hF40 20).trans rfl
    clear hF40
    refine then_normal ?_
    refine wq_cond s42 (fun c43 => ?_) (fun c43 => ?_)
    ·replace c43 := of_decide_eq_true c43
     refine wq_seq (wq_region (wl_v (iv 90) rfl rfl (y_asg rfl rfl rr) (wl_nil fun F44 hF45 => ?_)))
     have s46 := (hF45 21).trans s41
     have s47 : F44 2 = iv 90 := (hF45 2).trans rfl
     clear hF45
     refine then_normal (wq_ret (then_ret ?_))
     exact end_tmp (v := iv 90) s46 rfl rfl s47 ⟨(by first | rw [vecE_yes (by unfold vecOk; omega)] | rw [vecE_no (by unfold vecOk; omega)]), K7⟩
    ·replace c43 := of_decide_eq_false c43
     refine wq_skip (then_normal (wq_seq (wq_region (wl_v (iv 0) rfl rfl (y_asg rfl rfl rr) (wl_nil fun F48 hF49 => ?_)))))
     have s50 := (hF49 21).trans s41
     have s51 : F48 2 = iv 0 := (hF49 2).trans rfl
     clear hF49
     refine then_normal (wq_ret ?_)
     exact end_tmp (v := iv 0) s50 rfl rfl s51 ⟨(by first | rw [vecE_yes (by unfold vecOk; omega)] | rw [vecE_no (by unfold vecOk; omega)]), K7⟩
theorem mref_half (n : Int) (w0 : World) (hn : -300 ≤ n ∧ n ≤ 300) :
  Calls Tryz.prog 149 #[.int .i64 (n)] w0 fun e w' => e = .returned (.int .i64 (n / 2)) ∧ Kept (fun _ => False) w0 w' := by
 refine calls_wq (args := [iv n]) 10 Tryz.func149 rfl rfl (Nat.le_of_ble_eq_true rfl) ?_
 have K0 := Kept.refl (fun _ => False) w0
 have hh := half_is n
 refine wq_seq (wq_region (wl_v (iv 0) rfl rfl (y_asg rfl rfl rr) (wl_nil fun F1 hF2 => ?_)))
 have s3 : F1 0 = iv n := (hF2 0).trans rfl
 have s4 : F1 10 = undef := (hF2 10).trans rfl
 clear hF2
 refine then_normal (wq_seq (wq_seq (wq_region (wl_mv rfl rfl rfl s3 (wl_v (iv (Int.tmod n 2)) rfl rfl (y_rem rfl rfl rfl (by first | decide | omega) rfl rr) (wl_v (.bool (decide ((Int.tmod n 2) ≠ 0))) rfl rfl (y_neqI rfl rfl rfl rfl rr) (wl_nil fun F5 hF6 => ?_)))))))
 obtain ⟨s7, s8⟩ := t2 hF6 0 s3 10 s4
 have s9 : F5 5 = .bool (decide ((Int.tmod n 2) ≠ 0)) := (hF6 5).trans rfl
 clear hF6
 refine then_normal ?_
 refine wq_cond s9 (fun c10 => ?_) (fun c10 => ?_)
 ·replace c10 := of_decide_eq_true c10
  refine wq_region (wl_mv rfl rfl rfl s7 (wl_v (iv (n - 1)) rfl rfl (y_sub rfl rfl rfl (i64_i rfl (by omega)) rr) (wl_v (iv (n - 1)) rfl rfl (y_asg rfl rfl rr) (wl_nil fun F11 hF12 => ?_))))
  have s13 := (hF12 10).trans s8
  have s14 : F11 0 = iv (n - 1) := (hF12 0).trans rfl
  clear hF12
  refine then_normal (wq_seq (wq_region (wl_mv rfl rfl rfl s14 (wl_v (iv (n / 2)) rfl rfl (y_quo rfl rfl rfl (by first | decide | omega) (by first | exact i64_i (hh.1 (by first | assumption | (apply Decidable.byContradiction; assumption))) (by omega) | exact i64_i (hh.2 (by assumption)) (by omega)) rr) (wl_v (iv (n / 2)) rfl rfl (y_asg rfl rfl rr) (wl_nil fun F15 hF16 => ?_))))))
  have s17 := (hF16 10).trans s13
  have s18 : F15 2 = iv (n / 2) := (hF16 2).trans rfl
  clear hF16
  refine then_normal (wq_ret ?_)
  exact end_tmp (v := iv (n / 2)) s17 rfl rfl s18 ⟨rfl, K0⟩
 ·replace c10 := of_decide_eq_false c10
  refine wq_skip (then_normal (wq_seq (wq_region (wl_mv rfl rfl rfl s7 (wl_v (iv (n / 2)) rfl rfl (y_quo rfl rfl rfl (by first | decide | omega) (by first | exact i64_i (hh.1 (by first | assumption | (apply Decidable.byContradiction; assumption))) (by omega) | exact i64_i (hh.2 (by assumption)) (by omega)) rr) (wl_v (iv (n / 2)) rfl rfl (y_asg rfl rfl rr) (wl_nil fun F19 hF20 => ?_)))))))
  have s21 := (hF20 10).trans s8
  have s22 : F19 2 = iv (n / 2) := (hF20 2).trans rfl
  clear hF20
  refine then_normal (wq_ret ?_)
  exact end_tmp (v := iv (n / 2)) s21 rfl rfl s22 ⟨rfl, K0⟩
theorem mref_sample (p x y : Int) (f : FD) (f0 f1 f2 : Value) (T_f0 : Nat → Prop) (T_f1 : Nat → Prop) (T_f2 : Nat → Prop) (w0 : World) (h_f0 : Byt w0 T_f0 f0 ((f).p0)) (h_f1 : Byt w0 T_f1 f1 ((f).p1)) (h_f2 : Byt w0 T_f2 f2 ((f).p2)) :
  Calls Tryz.prog 119 #[.agg #[.int .i64 ((f).W), .int .i64 ((f).H), f0, f1, f2], .int .i64 (p), .int .i64 (x), .int .i64 (y)] w0 fun e w' => e = .returned (.int .i64 (smpF f p x y)) ∧ Kept (fun _ => False) w0 w' := by
 refine calls_wq (args := [.agg #[iv (f.W), iv (f.H), f0, f1, f2], iv p, iv x, iv y]) 90 Tryz.func119 rfl rfl (Nat.le_of_ble_eq_true rfl) ?_
 have K0 := Kept.refl (fun _ => False) w0
 have hb : Bytes3 f := ⟨h_f0.lt256, h_f1.lt256, h_f2.lt256⟩
 obtain ⟨u, hu⟩ : ∃ u, u = c256 x := ⟨_, rfl⟩
 obtain ⟨v, hv⟩ : ∃ v, v = c256 y := ⟨_, rfl⟩
 have hu2 : -256 ≤ u ∧ u ≤ 256 := by rw [hu]; unfold c256; omega
 have hv2 : -256 ≤ v ∧ v ≤ 256 := by rw [hv]; unfold c256; omega
 have hm : smpF f p x y = mid f p u v := by rw [hu, hv]; rfl
 have a1 := atF_le hb p (u / 2) (v / 2)
 have a2 := atF_le hb p ((u + 1) / 2) (v / 2)
 have a3 := atF_le hb p (u / 2) ((v + 1) / 2)
 have a4 := atF_le hb p ((u + 1) / 2) ((v + 1) / 2)
 have tu := tmod2 u
 have tv := tmod2 v
 have g_f0 := Grew.refl w0 T_f0
 have g_f1 := Grew.refl w0 T_f1
 have g_f2 := Grew.refl w0 T_f2
 refine wq_seq (wq_region (wl_box_stc (vs := [iv (f.W), iv (f.H), f0, f1, f2]) rfl rfl rfl rfl fun p1 w2 B4 g5 k3 => ?_))
 have B10 := h_f0.all k3 Apart.none
 have B11 := h_f1.all k3 Apart.none
 have B12 := h_f2.all k3 Apart.none
 have K13 := K0.tr k3
 refine wl_v (iv 0) rfl rfl (y_asg rfl rfl rr) (wl_nil fun F14 hF15 => ?_)
 have s16 : F14 1 = iv p := (hF15 1).trans rfl
 have s17 : F14 2 = iv x := (hF15 2).trans rfl
 have s18 : F14 3 = iv y := (hF15 3).trans rfl
 have s19 : F14 90 = undef := (hF15 90).trans rfl
 have s20 : F14 4 = pt p1 0 := (hF15 4).trans rfl
 clear hF15
 refine then_normal (wq_seq (wq_region (wl_mv rfl rfl rfl s17 (wl_v (iv (max x (-256))) rfl rfl (y_maxR rfl rfl rfl rfl rr) (wl_v (iv u) rfl rfl (y_minR rfl rfl rfl (hu.symm) rr) (wl_v (iv u) rfl rfl (y_asg rfl rfl rr) (wl_nil fun F21 hF22 => ?_)))))))
 obtain ⟨s23, s24, s25, s26⟩ := t4 hF22 1 s16 3 s18 90 s19 4 s20
 have s27 : F21 9 = iv u := (hF22 9).trans rfl
 clear hF22
 refine then_normal (wq_seq (wq_region (wl_mv rfl rfl rfl s24 (wl_v (iv (max y (-256))) rfl rfl (y_maxR rfl rfl rfl rfl rr) (wl_v (iv v) rfl rfl (y_minR rfl rfl rfl (hv.symm) rr) (wl_v (iv v) rfl rfl (y_asg rfl rfl rr) (wl_nil fun F28 hF29 => ?_)))))))
 obtain ⟨s30, s31, s32, s33⟩ := t4 hF29 1 s23 90 s25 4 s26 9 s27
 have s34 : F28 10 = iv v := (hF29 10).trans rfl
 clear hF29
 refine then_normal (wq_seq ?_)
 refine wq_said [some 21, some 22, some 23, some 24, some 25, some 26, some 27, some 11] [Pd.eq (.agg #[iv (f.W), iv (f.H), f0, f1, f2]), Pd.eq (iv p), Pd.eq (iv u), Pd.eq (iv (u / 2)), Pd.eq (iv v), Pd.eq (iv (v / 2)), Pd.eq (iv (atF f p (u / 2) (v / 2))), Pd.eq (iv (atF f p (u / 2) (v / 2)))] (by kernel_rfl) (by kernel_rfl) ?_ ?_
 ·refine stepsF_cons ?_ ?_
  ·refine StepF.one rfl fun F_ w_ hR hout hD => ?_
   exact (y_load_stc stcT_frame rfl ((hout 4 rfl (by decide)).trans s32) (B4.all hR id) ⟨rfl, Kept.refl _ _⟩)
  refine stepsF_cons ?_ ?_
  ·refine StepF.one rfl fun F_ w_ hR hout hD => ?_
   exact (y_mov rfl ((hout 1 rfl (by decide)).trans s30) ⟨rfl, Kept.refl _ _⟩)
  refine stepsF_cons ?_ ?_
  ·refine StepF.one rfl fun F_ w_ hR hout hD => ?_
   exact (y_mov rfl ((hout 9 rfl (by decide)).trans s33) ⟨rfl, Kept.refl _ _⟩)
  refine stepsF_cons ?_ ?_
  ·refine StepF.one rfl fun F_ w_ hR hout hD => ?_
   have g23 : F_ 23 = iv u := (hD.get 0 rfl rfl rfl)
   exact (y_cs rfl rfl rfl (fun _ _ => by kernel_rfl) (ev_func _) (vsC g23 vsN) (mref_half u  _ (by omega)  ) (fun e_ w_ h_ => ⟨_, h_.1, rfl, h_.2⟩))
  refine stepsF_cons ?_ ?_
  ·refine StepF.one rfl fun F_ w_ hR hout hD => ?_
   exact (y_mov rfl ((hout 10 rfl (by decide)).trans s34) ⟨rfl, Kept.refl _ _⟩)
  refine stepsF_cons ?_ ?_
  ·refine StepF.one rfl fun F_ w_ hR hout hD => ?_
   have g25 : F_ 25 = iv v := (hD.get 0 rfl rfl rfl)
   exact (y_cs rfl rfl rfl (fun _ _ => by kernel_rfl) (ev_func _) (vsC g25 vsN) (mref_half v  _ (by omega)  ) (fun e_ w_ h_ => ⟨_, h_.1, rfl, h_.2⟩))
  refine stepsF_cons ?_ ?_
  ·refine StepF.one rfl fun F_ w_ hR hout hD => ?_
   have g21 : F_ 21 = .agg #[iv (f.W), iv (f.H), f0, f1, f2] := (hD.get 0 rfl rfl rfl)
   have g22 : F_ 22 = iv p := (hD.get 1 rfl rfl rfl)
   have g24 : F_ 24 = iv (u / 2) := (hD.get 2 rfl rfl rfl)
   have g26 : F_ 26 = iv (v / 2) := (hD.get 3 rfl rfl rfl)
   exact (y_cs rfl rfl rfl (fun _ _ => by kernel_rfl) (ev_func _) (vsC g21 (vsC g22 (vsC g24 (vsC g26 vsN)))) (fref_at p (u / 2) (v / 2) f f0 f1 f2 T_f0 T_f1 T_f2 _  (B10.all hR Apart.none) (B11.all hR Apart.none) (B12.all hR Apart.none) ) (fun e_ w_ h_ => ⟨_, h_.1, rfl, h_.2⟩))
  refine stepsF_cons ?_ ?_
  ·refine StepF.one rfl fun F_ w_ hR hout hD => ?_
   have g27 : F_ 27 = iv (atF f p (u / 2) (v / 2)) := (hD.get 0 rfl rfl rfl)
   exact (y_asg rfl g27 ⟨rfl, Kept.refl _ _⟩)
  exact stepsF_nil
 intro v35 F36 w37 k38 G39 hF40
 have B42 := B10.all k38 Apart.none
 have B43 := B11.all k38 Apart.none
 have B44 := B12.all k38 Apart.none
 have B45 := B4.all k38 id
 have K46 := K13.tr k38
 obtain ⟨s47, s48, s49, s50, s51⟩ := t5 hF40 1 s30 90 s31 4 s32 9 s33 10 s34
 have s52 : F36 11 = iv (atF f p (u / 2) (v / 2)) := (hF40 11).trans (G39 7 (by decide))
 clear G39 hF40
 refine then_normal (wq_seq ?_)
 refine wq_said [some 28, some 29, some 30, some 31, some 32, some 33, some 34, some 35, some 12] [Pd.eq (.agg #[iv (f.W), iv (f.H), f0, f1, f2]), Pd.eq (iv p), Pd.eq (iv u), Pd.eq (iv (u + 1)), Pd.eq (iv ((u + 1) / 2)), Pd.eq (iv v), Pd.eq (iv (v / 2)), Pd.eq (iv (atF f p ((u + 1) / 2) (v / 2))), Pd.eq (iv (atF f p ((u + 1) / 2) (v / 2)))] (by kernel_rfl) (by kernel_rfl) ?_ ?_
 ·refine stepsF_cons ?_ ?_
  ·refine StepF.one rfl fun F_ w_ hR hout hD => ?_
   exact (y_load_stc stcT_frame rfl ((hout 4 rfl (by decide)).trans s49) (B45.all hR id) ⟨rfl, Kept.refl _ _⟩)
  refine stepsF_cons ?_ ?_
  ·refine StepF.one rfl fun F_ w_ hR hout hD => ?_
   exact (y_mov rfl ((hout 1 rfl (by decide)).trans s47) ⟨rfl, Kept.refl _ _⟩)
  refine stepsF_cons ?_ ?_
  ·refine StepF.one rfl fun F_ w_ hR hout hD => ?_
   exact (y_mov rfl ((hout 9 rfl (by decide)).trans s50) ⟨rfl, Kept.refl _ _⟩)
  refine stepsF_cons ?_ ?_
  ·refine StepF.one rfl fun F_ w_ hR hout hD => ?_
   have g30 : F_ 30 = iv u := (hD.get 0 rfl rfl rfl)
   exact (y_add rfl g30 rfl (i64_i rfl (by omega)) ⟨rfl, Kept.refl _ _⟩)
  refine stepsF_cons ?_ ?_
  ·refine StepF.one rfl fun F_ w_ hR hout hD => ?_
   have g31 : F_ 31 = iv (u + 1) := (hD.get 0 rfl rfl rfl)
   exact (y_cs rfl rfl rfl (fun _ _ => by kernel_rfl) (ev_func _) (vsC g31 vsN) (mref_half (u + 1)  _ (by omega)  ) (fun e_ w_ h_ => ⟨_, h_.1, rfl, h_.2⟩))
  refine stepsF_cons ?_ ?_
  ·refine StepF.one rfl fun F_ w_ hR hout hD => ?_
   exact (y_mov rfl ((hout 10 rfl (by decide)).trans s51) ⟨rfl, Kept.refl _ _⟩)
  refine stepsF_cons ?_ ?_
  ·refine StepF.one rfl fun F_ w_ hR hout hD => ?_
   have g33 : F_ 33 = iv v := (hD.get 0 rfl rfl rfl)
   exact (y_cs rfl rfl rfl (fun _ _ => by kernel_rfl) (ev_func _) (vsC g33 vsN) (mref_half v  _ (by omega)  ) (fun e_ w_ h_ => ⟨_, h_.1, rfl, h_.2⟩))
  refine stepsF_cons ?_ ?_
  ·refine StepF.one rfl fun F_ w_ hR hout hD => ?_
   have g28 : F_ 28 = .agg #[iv (f.W), iv (f.H), f0, f1, f2] := (hD.get 0 rfl rfl rfl)
   have g29 : F_ 29 = iv p := (hD.get 1 rfl rfl rfl)
   have g32 : F_ 32 = iv ((u + 1) / 2) := (hD.get 2 rfl rfl rfl)
   have g34 : F_ 34 = iv (v / 2) := (hD.get 3 rfl rfl rfl)
   exact (y_cs rfl rfl rfl (fun _ _ => by kernel_rfl) (ev_func _) (vsC g28 (vsC g29 (vsC g32 (vsC g34 vsN)))) (fref_at p ((u + 1) / 2) (v / 2) f f0 f1 f2 T_f0 T_f1 T_f2 _  (B42.all hR Apart.none) (B43.all hR Apart.none) (B44.all hR Apart.none) ) (fun e_ w_ h_ => ⟨_, h_.1, rfl, h_.2⟩))
  refine stepsF_cons ?_ ?_
  ·refine StepF.one rfl fun F_ w_ hR hout hD => ?_
   have g35 : F_ 35 = iv (atF f p ((u + 1) / 2) (v / 2)) := (hD.get 0 rfl rfl rfl)
   exact (y_asg rfl g35 ⟨rfl, Kept.refl _ _⟩)
  exact stepsF_nil
 intro v53 F54 w55 k56 G57 hF58
 have B60 := B42.all k56 Apart.none
 have B61 := B43.all k56 Apart.none
 have B62 := B44.all k56 Apart.none
 have B63 := B45.all k56 id
 have K64 := K46.tr k56
 obtain ⟨s65, s66, s67, s68, s69, s70⟩ := t6 hF58 1 s47 90 s48 4 s49 9 s50 10 s51 11 s52
 have s71 : F54 12 = iv (atF f p ((u + 1) / 2) (v / 2)) := (hF58 12).trans (G57 8 (by decide))
 clear G57 hF58
 refine then_normal (wq_seq ?_)
 refine wq_said [some 36, some 37, some 38, some 39, some 40, some 41, some 42, some 43, some 13] [Pd.eq (.agg #[iv (f.W), iv (f.H), f0, f1, f2]), Pd.eq (iv p), Pd.eq (iv u), Pd.eq (iv (u / 2)), Pd.eq (iv v), Pd.eq (iv (v + 1)), Pd.eq (iv ((v + 1) / 2)), Pd.eq (iv (atF f p (u / 2) ((v + 1) / 2))), Pd.eq (iv (atF f p (u / 2) ((v + 1) / 2)))] (by kernel_rfl) (by kernel_rfl) ?_ ?_
 ·refine stepsF_cons ?_ ?_
  ·refine StepF.one rfl fun F_ w_ hR hout hD => ?_
   exact (y_load_stc stcT_frame rfl ((hout 4 rfl (by decide)).trans s67) (B63.all hR id) ⟨rfl, Kept.refl _ _⟩)
  refine stepsF_cons ?_ ?_
  ·refine StepF.one rfl fun F_ w_ hR hout hD => ?_
   exact (y_mov rfl ((hout 1 rfl (by decide)).trans s65) ⟨rfl, Kept.refl _ _⟩)
  refine stepsF_cons ?_ ?_
  ·refine StepF.one rfl fun F_ w_ hR hout hD => ?_
   exact (y_mov rfl ((hout 9 rfl (by decide)).trans s68) ⟨rfl, Kept.refl _ _⟩)
  refine stepsF_cons ?_ ?_
  ·refine StepF.one rfl fun F_ w_ hR hout hD => ?_
   have g38 : F_ 38 = iv u := (hD.get 0 rfl rfl rfl)
   exact (y_cs rfl rfl rfl (fun _ _ => by kernel_rfl) (ev_func _) (vsC g38 vsN) (mref_half u  _ (by omega)  ) (fun e_ w_ h_ => ⟨_, h_.1, rfl, h_.2⟩))
  refine stepsF_cons ?_ ?_
  ·refine StepF.one rfl fun F_ w_ hR hout hD => ?_
   exact (y_mov rfl ((hout 10 rfl (by decide)).trans s69) ⟨rfl, Kept.refl _ _⟩)
  refine stepsF_cons ?_ ?_
  ·refine StepF.one rfl fun F_ w_ hR hout hD => ?_
   have g40 : F_ 40 = iv v := (hD.get 0 rfl rfl rfl)
   exact (y_add rfl g40 rfl (i64_i rfl (by omega)) ⟨rfl, Kept.refl _ _⟩)
  refine stepsF_cons ?_ ?_
  ·refine StepF.one rfl fun F_ w_ hR hout hD => ?_
   have g41 : F_ 41 = iv (v + 1) := (hD.get 0 rfl rfl rfl)
   exact (y_cs rfl rfl rfl (fun _ _ => by kernel_rfl) (ev_func _) (vsC g41 vsN) (mref_half (v + 1)  _ (by omega)  ) (fun e_ w_ h_ => ⟨_, h_.1, rfl, h_.2⟩))
  refine stepsF_cons ?_ ?_
  ·refine StepF.one rfl fun F_ w_ hR hout hD => ?_
   have g36 : F_ 36 = .agg #[iv (f.W), iv (f.H), f0, f1, f2] := (hD.get 0 rfl rfl rfl)
   have g37 : F_ 37 = iv p := (hD.get 1 rfl rfl rfl)
   have g39 : F_ 39 = iv (u / 2) := (hD.get 2 rfl rfl rfl)
   have g42 : F_ 42 = iv ((v + 1) / 2) := (hD.get 3 rfl rfl rfl)
   exact (y_cs rfl rfl rfl (fun _ _ => by kernel_rfl) (ev_func _) (vsC g36 (vsC g37 (vsC g39 (vsC g42 vsN)))) (fref_at p (u / 2) ((v + 1) / 2) f f0 f1 f2 T_f0 T_f1 T_f2 _  (B60.all hR Apart.none) (B61.all hR Apart.none) (B62.all hR Apart.none) ) (fun e_ w_ h_ => ⟨_, h_.1, rfl, h_.2⟩))
  refine stepsF_cons ?_ ?_
  ·refine StepF.one rfl fun F_ w_ hR hout hD => ?_
   have g43 : F_ 43 = iv (atF f p (u / 2) ((v + 1) / 2)) := (hD.get 0 rfl rfl rfl)
   exact (y_asg rfl g43 ⟨rfl, Kept.refl _ _⟩)
  exact stepsF_nil
 intro v72 F73 w74 k75 G76 hF77
 have B79 := B60.all k75 Apart.none
 have B80 := B61.all k75 Apart.none
 have B81 := B62.all k75 Apart.none
 have B82 := B63.all k75 id
 have K83 := K64.tr k75
 obtain ⟨s84, s85, s86, s87, s88, s89, s90⟩ := t7 hF77 1 s65 90 s66 4 s67 9 s68 10 s69 11 s70 12 s71
 have s91 : F73 13 = iv (atF f p (u / 2) ((v + 1) / 2)) := (hF77 13).trans (G76 8 (by decide))
 clear G76 hF77
 refine then_normal (wq_seq ?_)
 refine wq_said [some 44, some 45, some 46, some 47, some 48, some 49, some 50, some 51, some 52, some 14] [Pd.eq (.agg #[iv (f.W), iv (f.H), f0, f1, f2]), Pd.eq (iv p), Pd.eq (iv u), Pd.eq (iv (u + 1)), Pd.eq (iv ((u + 1) / 2)), Pd.eq (iv v), Pd.eq (iv (v + 1)), Pd.eq (iv ((v + 1) / 2)), Pd.eq (iv (atF f p ((u + 1) / 2) ((v + 1) / 2))), Pd.eq (iv (atF f p ((u + 1) / 2) ((v + 1) / 2)))] (by kernel_rfl) (by kernel_rfl) ?_ ?_
 ·refine stepsF_cons ?_ ?_
  ·refine StepF.one rfl fun F_ w_ hR hout hD => ?_
   exact (y_load_stc stcT_frame rfl ((hout 4 rfl (by decide)).trans s86) (B82.all hR id) ⟨rfl, Kept.refl _ _⟩)
  refine stepsF_cons ?_ ?_
  ·refine StepF.one rfl fun F_ w_ hR hout hD => ?_
   exact (y_mov rfl ((hout 1 rfl (by decide)).trans s84) ⟨rfl, Kept.refl _ _⟩)
  refine stepsF_cons ?_ ?_
  ·refine StepF.one rfl fun F_ w_ hR hout hD => ?_
   exact (y_mov rfl ((hout 9 rfl (by decide)).trans s87) ⟨rfl, Kept.refl _ _⟩)
  refine stepsF_cons ?_ ?_
  ·refine StepF.one rfl fun F_ w_ hR hout hD => ?_
   have g46 : F_ 46 = iv u := (hD.get 0 rfl rfl rfl)
   exact (y_add rfl g46 rfl (i64_i rfl (by omega)) ⟨rfl, Kept.refl _ _⟩)
  refine stepsF_cons ?_ ?_
  ·refine StepF.one rfl fun F_ w_ hR hout hD => ?_
   have g47 : F_ 47 = iv (u + 1) := (hD.get 0 rfl rfl rfl)
   exact (y_cs rfl rfl rfl (fun _ _ => by kernel_rfl) (ev_func _) (vsC g47 vsN) (mref_half (u + 1)  _ (by omega)  ) (fun e_ w_ h_ => ⟨_, h_.1, rfl, h_.2⟩))
  refine stepsF_cons ?_ ?_
  ·refine StepF.one rfl fun F_ w_ hR hout hD => ?_
   exact (y_mov rfl ((hout 10 rfl (by decide)).trans s88) ⟨rfl, Kept.refl _ _⟩)
  refine stepsF_cons ?_ ?_
  ·refine StepF.one rfl fun F_ w_ hR hout hD => ?_
   have g49 : F_ 49 = iv v := (hD.get 0 rfl rfl rfl)
   exact (y_add rfl g49 rfl (i64_i rfl (by omega)) ⟨rfl, Kept.refl _ _⟩)
  refine stepsF_cons ?_ ?_
  ·refine StepF.one rfl fun F_ w_ hR hout hD => ?_
   have g50 : F_ 50 = iv (v + 1) := (hD.get 0 rfl rfl rfl)
   exact (y_cs rfl rfl rfl (fun _ _ => by kernel_rfl) (ev_func _) (vsC g50 vsN) (mref_half (v + 1)  _ (by omega)  ) (fun e_ w_ h_ => ⟨_, h_.1, rfl, h_.2⟩))
  refine stepsF_cons ?_ ?_
  ·refine StepF.one rfl fun F_ w_ hR hout hD => ?_
   have g44 : F_ 44 = .agg #[iv (f.W), iv (f.H), f0, f1, f2] := (hD.get 0 rfl rfl rfl)
   have g45 : F_ 45 = iv p := (hD.get 1 rfl rfl rfl)
   have g48 : F_ 48 = iv ((u + 1) / 2) := (hD.get 2 rfl rfl rfl)
   have g51 : F_ 51 = iv ((v + 1) / 2) := (hD.get 3 rfl rfl rfl)
   exact (y_cs rfl rfl rfl (fun _ _ => by kernel_rfl) (ev_func _) (vsC g44 (vsC g45 (vsC g48 (vsC g51 vsN)))) (fref_at p ((u + 1) / 2) ((v + 1) / 2) f f0 f1 f2 T_f0 T_f1 T_f2 _  (B79.all hR Apart.none) (B80.all hR Apart.none) (B81.all hR Apart.none) ) (fun e_ w_ h_ => ⟨_, h_.1, rfl, h_.2⟩))
  refine stepsF_cons ?_ ?_
  ·refine StepF.one rfl fun F_ w_ hR hout hD => ?_
   have g52 : F_ 52 = iv (atF f p ((u + 1) / 2) ((v + 1) / 2)) := (hD.get 0 rfl rfl rfl)
   exact (y_asg rfl g52 ⟨rfl, Kept.refl _ _⟩)
  exact stepsF_nil
 intro v92 F93 w94 k95 G96 hF97
 have K103 := K83.tr k95
 obtain ⟨s104, s105, s106, s107, s108, s109⟩ := t6 hF97 90 s85 9 s87 10 s88 11 s89 12 s90 13 s91
 have s110 : F93 14 = iv (atF f p ((u + 1) / 2) ((v + 1) / 2)) := (hF97 14).trans (G96 9 (by decide))
 clear G96 hF97
 refine then_normal (wq_seq (wq_block (wq_seq ?_)))
 by_cases d111 : (Int.tmod u 2) = 0
 ·skip
  refine wq_region (wl_mv rfl rfl rfl s105 (wl_v (iv (Int.tmod u 2)) rfl rfl (y_rem rfl rfl rfl (by first | decide | omega) rfl rr) (wl_v (.bool true) rfl rfl (y_eqlI rfl rfl rfl (decide_eq_true d111) rr) (wl_v (.bool true) rfl rfl (y_mov rfl rfl rr) (wl_vw (iv v) 3 true 57 rfl rfl rfl rfl rfl (y_mov rfl s106 rr) (wl_vw (iv (Int.tmod v 2)) 3 true 57 rfl rfl rfl rfl rfl (y_rem rfl rfl rfl (by first | decide | omega) rfl rr) (wl_vw (.bool (decide ((Int.tmod v 2) = 0))) 3 true 57 rfl rfl rfl rfl rfl (y_eqlI rfl rfl rfl rfl rr) (wl_v (.bool (decide ((Int.tmod v 2) = 0))) rfl rfl (y_pickT rfl rfl rfl rr) (wl_v (.bool (decide ((Int.tmod v 2) = 0))) rfl rfl (y_asg rfl rfl rr) (wl_nil fun F112 hF113 => ?_))))))))))
  obtain ⟨s114, s115, s116, s117, s119⟩ := t5 hF113 90 s104 9 s105 10 s106 11 s107 13 s109
  have s121 : F112 53 = .bool (decide ((Int.tmod v 2) = 0)) := (hF113 53).trans rfl
  clear hF113
  refine then_normal ?_
  refine wq_cond s121 (fun c122 => ?_) (fun c122 => ?_)
  ·replace c122 := of_decide_eq_true c122
   refine wq_seq (wq_region (wl_mv rfl rfl rfl s117 (wl_v (iv (atF f p (u / 2) (v / 2))) rfl rfl (y_asg rfl rfl rr) (wl_nil fun F123 hF124 => ?_))))
   have s125 := (hF124 90).trans s114
   have s126 : F123 8 = iv (atF f p (u / 2) (v / 2)) := (hF124 8).trans rfl
   clear hF124
   refine then_normal (wq_ret (in_ret (then_ret ?_)))
   exact end_tmp (v := iv (atF f p (u / 2) (v / 2))) s125 rfl rfl s126 ⟨(by first | (rw [hm]; done) | rw [hm, mid_both (by omega) (by omega)]), K103⟩
  ·replace c122 := of_decide_eq_false c122
   refine wq_seq (wq_region (wl_mv rfl rfl rfl s116 (wl_v (iv (Int.tmod v 2)) rfl rfl (y_rem rfl rfl rfl (by first | decide | omega) rfl rr) (wl_v (.bool false) rfl rfl (y_eqlI rfl rfl rfl (decide_eq_false c122) rr) (wl_v (.bool false) rfl rfl (y_asg rfl rfl rr) (wl_nil fun F127 hF128 => ?_))))))
   obtain ⟨s129, s130, s131, s133⟩ := t4 hF128 90 s114 9 s115 11 s117 13 s119
   have s135 : F127 63 = .bool false := (hF128 63).trans rfl
   clear hF128
   refine then_normal ?_
   refine wq_cond (t := false) s135 (fun e => by cases e) (fun _ => ?_)
   refine wq_seq (wq_region (wl_mv rfl rfl rfl s130 (wl_v (iv (Int.tmod u 2)) rfl rfl (y_rem rfl rfl rfl (by first | decide | omega) rfl rr) (wl_v (.bool true) rfl rfl (y_eqlI rfl rfl rfl (decide_eq_true d111) rr) (wl_v (.bool true) rfl rfl (y_asg rfl rfl rr) (wl_nil fun F136 hF137 => ?_))))))
   obtain ⟨s138, s139, s141⟩ := t3 hF137 90 s129 11 s131 13 s133
   have s143 : F136 72 = .bool true := (hF137 72).trans rfl
   clear hF137
   refine then_normal ?_
   refine wq_cond (t := true) s143 (fun _ => ?_) (fun e => by cases e)
   refine wq_seq (wq_region (wl_mv rfl rfl rfl s139 (wl_mv rfl rfl rfl s141 (wl_v (iv ((atF f p (u / 2) (v / 2)) + (atF f p (u / 2) ((v + 1) / 2)))) rfl rfl (y_add rfl rfl rfl (i64_i rfl (by omega)) rr) (wl_v (iv (((atF f p (u / 2) (v / 2)) + (atF f p (u / 2) ((v + 1) / 2))) + 1)) rfl rfl (y_add rfl rfl rfl (i64_i rfl (by omega)) rr) (wl_v (iv (mid f p u v)) rfl rfl (y_quo rfl rfl rfl (by first | decide | omega) (by rw [mid_down (by omega) (by omega)]; exact i64_i (tdiv2 (by omega)) (by omega)) rr) (wl_v (iv (mid f p u v)) rfl rfl (y_asg rfl rfl rr) (wl_nil fun F144 hF145 => ?_))))))))
   have s146 := (hF145 90).trans s138
   have s147 : F144 8 = iv (mid f p u v) := (hF145 8).trans rfl
   clear hF145
   refine then_normal (wq_ret (in_ret (then_ret ?_)))
   exact end_tmp (v := iv (mid f p u v)) s146 rfl rfl s147 ⟨(by first | (rw [hm]; done) | rw [hm, mid_both (by omega) (by omega)]), K103⟩
 ·skip
  refine wq_region (wl_mv rfl rfl rfl s105 (wl_v (iv (Int.tmod u 2)) rfl rfl (y_rem rfl rfl rfl (by first | decide | omega) rfl rr) (wl_v (.bool false) rfl rfl (y_eqlI rfl rfl rfl (decide_eq_false d111) rr) (wl_v (.bool false) rfl rfl (y_mov rfl rfl rr) (wl_unless 3 true 57 rfl rfl rfl (Or.inl rfl) rfl (wl_unless 3 true 57 rfl rfl rfl (Or.inl rfl) rfl (wl_unless 3 true 57 rfl rfl rfl (Or.inl rfl) rfl (wl_v (.bool false) rfl rfl (y_pickF rfl rfl rfl rr) (wl_v (.bool false) rfl rfl (y_asg rfl rfl rr) (wl_nil fun F148 hF149 => ?_))))))))))
  obtain ⟨s150, s151, s152, s153, s154, s155, s156⟩ := t7 hF149 90 s104 9 s105 10 s106 11 s107 12 s108 13 s109 14 s110
  have s157 : F148 53 = .bool false := (hF149 53).trans rfl
  clear hF149
  refine then_normal ?_
  refine wq_cond (t := false) s157 (fun e => by cases e) (fun _ => ?_)
  refine wq_seq (wq_region (wl_mv rfl rfl rfl s152 (wl_v (iv (Int.tmod v 2)) rfl rfl (y_rem rfl rfl rfl (by first | decide | omega) rfl rr) (wl_v (.bool (decide ((Int.tmod v 2) = 0))) rfl rfl (y_eqlI rfl rfl rfl rfl rr) (wl_v (.bool (decide ((Int.tmod v 2) = 0))) rfl rfl (y_asg rfl rfl rr) (wl_nil fun F158 hF159 => ?_))))))
  obtain ⟨s160, s161, s162, s163, s164, s165⟩ := t6 hF159 90 s150 9 s151 11 s153 12 s154 13 s155 14 s156
  have s166 : F158 63 = .bool (decide ((Int.tmod v 2) = 0)) := (hF159 63).trans rfl
  clear hF159
  refine then_normal ?_
  refine wq_cond s166 (fun c167 => ?_) (fun c167 => ?_)
  ·replace c167 := of_decide_eq_true c167
   refine wq_seq (wq_region (wl_mv rfl rfl rfl s162 (wl_mv rfl rfl rfl s163 (wl_v (iv ((atF f p (u / 2) (v / 2)) + (atF f p ((u + 1) / 2) (v / 2)))) rfl rfl (y_add rfl rfl rfl (i64_i rfl (by omega)) rr) (wl_v (iv (((atF f p (u / 2) (v / 2)) + (atF f p ((u + 1) / 2) (v / 2))) + 1)) rfl rfl (y_add rfl rfl rfl (i64_i rfl (by omega)) rr) (wl_v (iv (mid f p u v)) rfl rfl (y_quo rfl rfl rfl (by first | decide | omega) (by rw [mid_side (by omega) (by omega)]; exact i64_i (tdiv2 (by omega)) (by omega)) rr) (wl_v (iv (mid f p u v)) rfl rfl (y_asg rfl rfl rr) (wl_nil fun F168 hF169 => ?_))))))))
   have s170 := (hF169 90).trans s160
   have s171 : F168 8 = iv (mid f p u v) := (hF169 8).trans rfl
   clear hF169
   refine then_normal (wq_ret (in_ret (then_ret ?_)))
   exact end_tmp (v := iv (mid f p u v)) s170 rfl rfl s171 ⟨(by first | (rw [hm]; done) | rw [hm, mid_both (by omega) (by omega)]), K103⟩
  ·replace c167 := of_decide_eq_false c167
   refine wq_seq (wq_region (wl_mv rfl rfl rfl s161 (wl_v (iv (Int.tmod u 2)) rfl rfl (y_rem rfl rfl rfl (by first | decide | omega) rfl rr) (wl_v (.bool false) rfl rfl (y_eqlI rfl rfl rfl (decide_eq_false d111) rr) (wl_v (.bool false) rfl rfl (y_asg rfl rfl rr) (wl_nil fun F172 hF173 => ?_))))))
   obtain ⟨s174, s175, s176, s177, s178⟩ := t5 hF173 90 s160 11 s162 12 s163 13 s164 14 s165
   have s179 : F172 72 = .bool false := (hF173 72).trans rfl
   clear hF173
   refine then_normal ?_
   refine wq_cond (t := false) s179 (fun e => by cases e) (fun _ => ?_)
   refine wq_skip (in_normal (then_normal (wq_seq (wq_region (wl_mv rfl rfl rfl s175 (wl_mv rfl rfl rfl s176 (wl_v (iv ((atF f p (u / 2) (v / 2)) + (atF f p ((u + 1) / 2) (v / 2)))) rfl rfl (y_add rfl rfl rfl (i64_i rfl (by omega)) rr) (wl_mv rfl rfl rfl s177 (wl_v (iv (((atF f p (u / 2) (v / 2)) + (atF f p ((u + 1) / 2) (v / 2))) + (atF f p (u / 2) ((v + 1) / 2)))) rfl rfl (y_add rfl rfl rfl (i64_i rfl (by omega)) rr) (wl_mv rfl rfl rfl s178 (wl_v (iv ((((atF f p (u / 2) (v / 2)) + (atF f p ((u + 1) / 2) (v / 2))) + (atF f p (u / 2) ((v + 1) / 2))) + (atF f p ((u + 1) / 2) ((v + 1) / 2)))) rfl rfl (y_add rfl rfl rfl (i64_i rfl (by omega)) rr) ?_)))))))))))
   refine wl_v (iv (((((atF f p (u / 2) (v / 2)) + (atF f p ((u + 1) / 2) (v / 2))) + (atF f p (u / 2) ((v + 1) / 2))) + (atF f p ((u + 1) / 2) ((v + 1) / 2))) + 2)) rfl rfl (y_add rfl rfl rfl (i64_i rfl (by omega)) rr) (wl_v (iv (mid f p u v)) rfl rfl (y_quo rfl rfl rfl (by first | decide | omega) (by rw [mid_none (by omega) (by omega)]; exact i64_i (tdiv4 (by omega)) (by omega)) rr) (wl_v (iv (mid f p u v)) rfl rfl (y_asg rfl rfl rr) (wl_nil fun F180 hF181 => ?_)))
   have s182 := (hF181 90).trans s174
   have s183 : F180 8 = iv (mid f p u v) := (hF181 8).trans rfl
   clear hF181
   refine then_normal (wq_ret ?_)
   exact end_tmp (v := iv (mid f p u v)) s182 rfl rfl s183 ⟨(by first | (rw [hm]; done) | rw [hm, mid_both (by omega) (by omega)]), K103⟩
theorem mref_predict (p x y X Y : Int) (f : FD) (f0 f1 f2 : Value) (T_f0 : Nat → Prop) (T_f1 : Nat → Prop) (T_f2 : Nat → Prop) (w0 : World) (h_f0 : Byt w0 T_f0 f0 ((f).p0)) (h_f1 : Byt w0 T_f1 f1 ((f).p1)) (h_f2 : Byt w0 T_f2 f2 ((f).p2)) :
  Calls Tryz.prog 81 #[.agg #[.int .i64 ((f).W), .int .i64 ((f).H), f0, f1, f2], .int .i64 (p), .int .i64 (x), .int .i64 (y), .agg #[.int .i64 (X), .int .i64 (Y)]] w0 fun e w' => e = .returned (.tuple #[blkV (mvB f p x y X Y), .int .i64 (mvE f p x y X Y)]) ∧ Kept (fun _ => False) w0 w' := by
 refine calls_wq (args := [.agg #[iv (f.W), iv (f.H), f0, f1, f2], iv p, iv x, iv y, .agg #[iv X, iv Y]]) 73 Tryz.func81 rfl rfl (Nat.le_of_ble_eq_true rfl) ?_
 have K0 := Kept.refl (fun _ => False) w0
 have g_f0 := Grew.refl w0 T_f0
 have g_f1 := Grew.refl w0 T_f1
 have g_f2 := Grew.refl w0 T_f2
 refine wq_seq (wq_region (wl_box_stc (vs := [iv (f.W), iv (f.H), f0, f1, f2]) rfl rfl rfl rfl fun p1 w2 B4 g5 k3 => ?_))
 have B10 := h_f0.all k3 Apart.none
 have B11 := h_f1.all k3 Apart.none
 have B12 := h_f2.all k3 Apart.none
 have K13 := K0.tr k3
 refine wl_box_stc (vs := [iv X, iv Y]) rfl rfl rfl rfl fun p14 w15 B17 g18 k16 => ?_
 have B24 := B10.all k16 Apart.none
 have B25 := B11.all k16 Apart.none
 have B26 := B12.all k16 Apart.none
 have B27 := B4.all k16 id
 have K28 := K13.tr k16
 refine wl_alloc_blk rfl rfl rfl blkT_arr.2.2 fun p29 w30 e33 B31 k32 => ?_
 have g34 := onB_new (Nat.le_of_eq e33.symm)
 have gr35 : Grew w0 noB (onB p29) := Grew.new K28 g34
 clear e33 g34
 have B41 := B24.all k32 Apart.none
 have B42 := B25.all k32 Apart.none
 have B43 := B26.all k32 Apart.none
 have B44 := B27.all k32 id
 have B45 := B17.all k32 id
 have K46 := K28.tr k32
 refine wl_v (iv 0) rfl rfl (y_asg rfl rfl rr) (wl_nil fun F47 hF48 => ?_)
 have s49 : F47 1 = iv p := (hF48 1).trans rfl
 have s50 : F47 2 = iv x := (hF48 2).trans rfl
 have s51 : F47 3 = iv y := (hF48 3).trans rfl
 have s52 : F47 73 = undef := (hF48 73).trans rfl
 have s53 : F47 5 = pt p1 0 := (hF48 5).trans rfl
 have s54 : F47 9 = pt p14 0 := (hF48 9).trans rfl
 have s55 : F47 10 = pt p29 0 := (hF48 10).trans rfl
 clear hF48
 refine then_normal (wq_seq (wq_region (wl_v (blkV (fun _ => 0)) rfl rfl (y_buildR (cells := (arrL 16 (fun _ => 0)).toArray) rfl (by kernel_rfl) rfl rr) (wl_alloc_blk rfl rfl rfl blkT_arr.2.2 fun p56 w57 e60 B58 k59 => ?_))))
 have g61 := onB_new (Nat.le_of_eq e60.symm)
 have gr62 : Grew w0 noB (onB p56) := Grew.new K46 g61
 have ap63 : Apart (onB p56) T_f0 := Apart.new g61 B41.live
 have ap64 : Apart (onB p56) T_f1 := Apart.new g61 B42.live
 have ap65 : Apart (onB p56) T_f2 := Apart.new g61 B43.live
 have ap66 : Apart (onB p56) (onB p1) := Apart.new g61 (onB_live B44.lt)
 have ap67 : Apart (onB p56) (onB p14) := Apart.new g61 (onB_live B45.lt)
 have ap68 : Apart (onB p56) (onB p29) := Apart.new g61 (onB_live B31.lt)
 clear e60 g61
 have B69 := B41.all k59 Apart.none
 have B70 := B42.all k59 Apart.none
 have B71 := B43.all k59 Apart.none
 have B72 := B44.all k59 id
 have B73 := B45.all k59 id
 have B74 := B31.all k59 id
 have K75 := K46.tr k59
 refine wl_store_blk blkT_arr rfl rfl rfl rfl rfl B58 fun w76 B77 k78 => ?_
 have B79 := B69.all k78 ap63.symm
 have B80 := B70.all k78 ap64.symm
 have B81 := B71.all k78 ap65.symm
 have B82 := B72.all k78 (ap66.symm p1 rfl)
 have B83 := B73.all k78 (ap67.symm p14 rfl)
 have B84 := B74.all k78 (ap68.symm p29 rfl)
 have K85 := K75.trans k78 (Grew.ok (S := fun _ => False) gr62 noB_le)
 refine wl_nil fun F86 hF87 => ?_
 obtain ⟨s88, s89, s90, s91, s92, s93, s94⟩ := t7 hF87 1 s49 2 s50 3 s51 73 s52 5 s53 9 s54 10 s55
 have s95 : F86 12 = pt p56 0 := (hF87 12).trans rfl
 clear hF87
 refine then_normal (wq_seq (wq_seq ?_))
 by_cases d96 : (checkE f) ≠ 0
 ·skip
  refine wq_region (wl_v (.agg #[iv (f.W), iv (f.H), f0, f1, f2]) rfl rfl (y_load_stc stcT_frame rfl s92 B82 rr) (wl_cs rfl rfl rfl rfl rfl (fun _ _ => by kernel_rfl) (vsC rfl vsN) (fref_check f f0 f1 f2 T_f0 T_f1 T_f2 _  B79 B80 B81 ) fun w97 k98 => ?_))
  have B104 := B84.all k98 id
  have B105 := B77.all k98 id
  have K106 := K85.tr k98
  refine wl_v (.bool true) rfl rfl (y_neqI rfl rfl rfl (decide_eq_true d96) rr) (wl_v (.bool true) rfl rfl (y_mov rfl rfl rr) (wl_unless 3 false 18 rfl rfl rfl (Or.inl rfl) rfl (wl_unless 3 false 18 rfl rfl rfl (Or.inl rfl) rfl (wl_v (.bool true) rfl rfl (y_pickT rfl rfl rfl rr) (wl_v (.bool true) rfl rfl (y_mov rfl rfl rr) (wl_unless 7 false 22 rfl rfl rfl (Or.inl rfl) rfl (wl_unless 7 false 22 rfl rfl rfl (Or.inl rfl) rfl (wl_v (.bool true) rfl rfl (y_pickT rfl rfl rfl rr) (wl_v (.bool true) rfl rfl (y_mov rfl rfl rr) (wl_unless 11 false 26 rfl rfl rfl (Or.inl rfl) rfl (wl_unless 11 false 26 rfl rfl rfl (Or.inl rfl) rfl ?_)))))))))))
  refine wl_v (.bool true) rfl rfl (y_pickT rfl rfl rfl rr) (wl_v (.bool true) rfl rfl (y_mov rfl rfl rr) (wl_unless 15 false 30 rfl rfl rfl (Or.inl rfl) rfl (wl_unless 15 false 30 rfl rfl rfl (Or.inl rfl) rfl (wl_v (.bool true) rfl rfl (y_pickT rfl rfl rfl rr) (wl_v (.bool true) rfl rfl (y_mov rfl rfl rr) (wl_unless 19 false 34 rfl rfl rfl (Or.inl rfl) rfl (wl_unless 19 false 34 rfl rfl rfl (Or.inl rfl) rfl (wl_v (.bool true) rfl rfl (y_pickT rfl rfl rfl rr) (wl_v (.bool true) rfl rfl (y_mov rfl rfl rr) (wl_unless 23 false 38 rfl rfl rfl (Or.inl rfl) rfl (wl_unless 23 false 38 rfl rfl rfl (Or.inl rfl) rfl ?_)))))))))))
  refine wl_v (.bool true) rfl rfl (y_pickT rfl rfl rfl rr) (wl_nil fun F107 hF108 => ?_)
  obtain ⟨s112, s115, s116⟩ := t3 hF108 73 s91 10 s94 12 s95
  have s117 : F107 41 = .bool true := (hF108 41).trans rfl
  clear hF108
  refine then_normal ?_
  refine wq_cond (t := true) s117 (fun _ => ?_) (fun e => by cases e)
  refine wq_seq ?_
  have hno : ¬ placeF f p x y := by rintro ⟨h1, h2, h3, h4, h5, h6, h7⟩; first | exact absurd ((checkE_iff f).2 h1) (by assumption) | omega
  refine wq_region (wl_v (blkV (fun _ => 0)) rfl rfl (y_load_blk blkT_arr rfl s116 B105 rr) (wl_store_blk blkT_arr rfl rfl rfl s115 rfl B104 fun w118 B119 k120 => ?_))
  have K127 := K106.trans k120 (Grew.ok (S := fun _ => False) gr35 noB_le)
  refine wl_v (iv 70) rfl rfl (y_asg rfl rfl rr) (wl_nil fun F128 hF129 => ?_)
  obtain ⟨s130, s131⟩ := t2 hF129 73 s112 10 s115
  have s132 : F128 11 = iv 70 := (hF129 11).trans rfl
  clear hF129
  refine then_normal (wq_ret (then_ret ?_))
  exact end_2 s130 rfl (res_blk blkT_arr rfl s131 B119) (res_tmp (v := iv 70) rfl s132) ⟨(by first | rw [(mv_no hno).1, (mv_no hno).2] | rw [(mv_none hpl hvn).1, (mv_none hpl hvn).2] | rw [(mv_yes hpl hv).1, (mv_yes hpl hv).2]), K127⟩
 ·skip
  by_cases d133 : p < 0
  ·skip
   refine wq_region (wl_v (.agg #[iv (f.W), iv (f.H), f0, f1, f2]) rfl rfl (y_load_stc stcT_frame rfl s92 B82 rr) (wl_cs rfl rfl rfl rfl rfl (fun _ _ => by kernel_rfl) (vsC rfl vsN) (fref_check f f0 f1 f2 T_f0 T_f1 T_f2 _  B79 B80 B81 ) fun w134 k135 => ?_))
   have B141 := B84.all k135 id
   have B142 := B77.all k135 id
   have K143 := K85.tr k135
   refine wl_v (.bool false) rfl rfl (y_neqI rfl rfl rfl (decide_eq_false d96) rr) (wl_v (.bool false) rfl rfl (y_mov rfl rfl rr) (wl_vw (iv p) 3 false 18 rfl rfl rfl rfl rfl (y_mov rfl s88 rr) (wl_vw (.bool true) 3 false 18 rfl rfl rfl rfl rfl (y_lss rfl rfl rfl (decide_eq_true d133) rr) (wl_v (.bool true) rfl rfl (y_pickF rfl rfl rfl rr) (wl_v (.bool true) rfl rfl (y_mov rfl rfl rr) (wl_unless 7 false 22 rfl rfl rfl (Or.inl rfl) rfl (wl_unless 7 false 22 rfl rfl rfl (Or.inl rfl) rfl (wl_v (.bool true) rfl rfl (y_pickT rfl rfl rfl rr) (wl_v (.bool true) rfl rfl (y_mov rfl rfl rr) (wl_unless 11 false 26 rfl rfl rfl (Or.inl rfl) rfl (wl_unless 11 false 26 rfl rfl rfl (Or.inl rfl) rfl ?_)))))))))))
   refine wl_v (.bool true) rfl rfl (y_pickT rfl rfl rfl rr) (wl_v (.bool true) rfl rfl (y_mov rfl rfl rr) (wl_unless 15 false 30 rfl rfl rfl (Or.inl rfl) rfl (wl_unless 15 false 30 rfl rfl rfl (Or.inl rfl) rfl (wl_v (.bool true) rfl rfl (y_pickT rfl rfl rfl rr) (wl_v (.bool true) rfl rfl (y_mov rfl rfl rr) (wl_unless 19 false 34 rfl rfl rfl (Or.inl rfl) rfl (wl_unless 19 false 34 rfl rfl rfl (Or.inl rfl) rfl (wl_v (.bool true) rfl rfl (y_pickT rfl rfl rfl rr) (wl_v (.bool true) rfl rfl (y_mov rfl rfl rr) (wl_unless 23 false 38 rfl rfl rfl (Or.inl rfl) rfl (wl_unless 23 false 38 rfl rfl rfl (Or.inl rfl) rfl ?_)))))))))))
   refine wl_v (.bool true) rfl rfl (y_pickT rfl rfl rfl rr) (wl_nil fun F144 hF145 => ?_)
   obtain ⟨s149, s152, s153⟩ := t3 hF145 73 s91 10 s94 12 s95
   have s154 : F144 41 = .bool true := (hF145 41).trans rfl
   clear hF145
   refine then_normal ?_
   refine wq_cond (t := true) s154 (fun _ => ?_) (fun e => by cases e)
   refine wq_seq ?_
   have hno : ¬ placeF f p x y := by rintro ⟨h1, h2, h3, h4, h5, h6, h7⟩; first | exact absurd ((checkE_iff f).2 h1) (by assumption) | omega
   refine wq_region (wl_v (blkV (fun _ => 0)) rfl rfl (y_load_blk blkT_arr rfl s153 B142 rr) (wl_store_blk blkT_arr rfl rfl rfl s152 rfl B141 fun w155 B156 k157 => ?_))
   have K164 := K143.trans k157 (Grew.ok (S := fun _ => False) gr35 noB_le)
   refine wl_v (iv 70) rfl rfl (y_asg rfl rfl rr) (wl_nil fun F165 hF166 => ?_)
   obtain ⟨s167, s168⟩ := t2 hF166 73 s149 10 s152
   have s169 : F165 11 = iv 70 := (hF166 11).trans rfl
   clear hF166
   refine then_normal (wq_ret (then_ret ?_))
   exact end_2 s167 rfl (res_blk blkT_arr rfl s168 B156) (res_tmp (v := iv 70) rfl s169) ⟨(by first | rw [(mv_no hno).1, (mv_no hno).2] | rw [(mv_none hpl hvn).1, (mv_none hpl hvn).2] | rw [(mv_yes hpl hv).1, (mv_yes hpl hv).2]), K164⟩
  ·skip
   by_cases d170 : 2 < p
   ·skip
    refine wq_region (wl_v (.agg #[iv (f.W), iv (f.H), f0, f1, f2]) rfl rfl (y_load_stc stcT_frame rfl s92 B82 rr) (wl_cs rfl rfl rfl rfl rfl (fun _ _ => by kernel_rfl) (vsC rfl vsN) (fref_check f f0 f1 f2 T_f0 T_f1 T_f2 _  B79 B80 B81 ) fun w171 k172 => ?_))
    have B178 := B84.all k172 id
    have B179 := B77.all k172 id
    have K180 := K85.tr k172
    refine wl_v (.bool false) rfl rfl (y_neqI rfl rfl rfl (decide_eq_false d96) rr) (wl_v (.bool false) rfl rfl (y_mov rfl rfl rr) (wl_vw (iv p) 3 false 18 rfl rfl rfl rfl rfl (y_mov rfl s88 rr) (wl_vw (.bool false) 3 false 18 rfl rfl rfl rfl rfl (y_lss rfl rfl rfl (decide_eq_false d133) rr) (wl_v (.bool false) rfl rfl (y_pickF rfl rfl rfl rr) (wl_v (.bool false) rfl rfl (y_mov rfl rfl rr) (wl_vw (iv p) 7 false 22 rfl rfl rfl rfl rfl (y_mov rfl s88 rr) (wl_vw (.bool true) 7 false 22 rfl rfl rfl rfl rfl (y_gtr rfl rfl rfl (decide_eq_true d170) rr) (wl_v (.bool true) rfl rfl (y_pickF rfl rfl rfl rr) (wl_v (.bool true) rfl rfl (y_mov rfl rfl rr) (wl_unless 11 false 26 rfl rfl rfl (Or.inl rfl) rfl (wl_unless 11 false 26 rfl rfl rfl (Or.inl rfl) rfl ?_)))))))))))
    refine wl_v (.bool true) rfl rfl (y_pickT rfl rfl rfl rr) (wl_v (.bool true) rfl rfl (y_mov rfl rfl rr) (wl_unless 15 false 30 rfl rfl rfl (Or.inl rfl) rfl (wl_unless 15 false 30 rfl rfl rfl (Or.inl rfl) rfl (wl_v (.bool true) rfl rfl (y_pickT rfl rfl rfl rr) (wl_v (.bool true) rfl rfl (y_mov rfl rfl rr) (wl_unless 19 false 34 rfl rfl rfl (Or.inl rfl) rfl (wl_unless 19 false 34 rfl rfl rfl (Or.inl rfl) rfl (wl_v (.bool true) rfl rfl (y_pickT rfl rfl rfl rr) (wl_v (.bool true) rfl rfl (y_mov rfl rfl rr) (wl_unless 23 false 38 rfl rfl rfl (Or.inl rfl) rfl (wl_unless 23 false 38 rfl rfl rfl (Or.inl rfl) rfl ?_)))))))))))
    refine wl_v (.bool true) rfl rfl (y_pickT rfl rfl rfl rr) (wl_nil fun F181 hF182 => ?_)
    obtain ⟨s186, s189, s190⟩ := t3 hF182 73 s91 10 s94 12 s95
    have s191 : F181 41 = .bool true := (hF182 41).trans rfl
    clear hF182
    refine then_normal ?_
    refine wq_cond (t := true) s191 (fun _ => ?_) (fun e => by cases e)
    refine wq_seq ?_
    have hno : ¬ placeF f p x y := by rintro ⟨h1, h2, h3, h4, h5, h6, h7⟩; first | exact absurd ((checkE_iff f).2 h1) (by assumption) | omega
    refine wq_region (wl_v (blkV (fun _ => 0)) rfl rfl (y_load_blk blkT_arr rfl s190 B179 rr) (wl_store_blk blkT_arr rfl rfl rfl s189 rfl B178 fun w192 B193 k194 => ?_))
    have K201 := K180.trans k194 (Grew.ok (S := fun _ => False) gr35 noB_le)
    refine wl_v (iv 70) rfl rfl (y_asg rfl rfl rr) (wl_nil fun F202 hF203 => ?_)
    obtain ⟨s204, s205⟩ := t2 hF203 73 s186 10 s189
    have s206 : F202 11 = iv 70 := (hF203 11).trans rfl
    clear hF203
    refine then_normal (wq_ret (then_ret ?_))
    exact end_2 s204 rfl (res_blk blkT_arr rfl s205 B193) (res_tmp (v := iv 70) rfl s206) ⟨(by first | rw [(mv_no hno).1, (mv_no hno).2] | rw [(mv_none hpl hvn).1, (mv_none hpl hvn).2] | rw [(mv_yes hpl hv).1, (mv_yes hpl hv).2]), K201⟩
   ·skip
    by_cases d207 : x < 0
    ·skip
     refine wq_region (wl_v (.agg #[iv (f.W), iv (f.H), f0, f1, f2]) rfl rfl (y_load_stc stcT_frame rfl s92 B82 rr) (wl_cs rfl rfl rfl rfl rfl (fun _ _ => by kernel_rfl) (vsC rfl vsN) (fref_check f f0 f1 f2 T_f0 T_f1 T_f2 _  B79 B80 B81 ) fun w208 k209 => ?_))
     have B215 := B84.all k209 id
     have B216 := B77.all k209 id
     have K217 := K85.tr k209
     refine wl_v (.bool false) rfl rfl (y_neqI rfl rfl rfl (decide_eq_false d96) rr) (wl_v (.bool false) rfl rfl (y_mov rfl rfl rr) (wl_vw (iv p) 3 false 18 rfl rfl rfl rfl rfl (y_mov rfl s88 rr) (wl_vw (.bool false) 3 false 18 rfl rfl rfl rfl rfl (y_lss rfl rfl rfl (decide_eq_false d133) rr) (wl_v (.bool false) rfl rfl (y_pickF rfl rfl rfl rr) (wl_v (.bool false) rfl rfl (y_mov rfl rfl rr) (wl_vw (iv p) 7 false 22 rfl rfl rfl rfl rfl (y_mov rfl s88 rr) (wl_vw (.bool false) 7 false 22 rfl rfl rfl rfl rfl (y_gtr rfl rfl rfl (decide_eq_false d170) rr) (wl_v (.bool false) rfl rfl (y_pickF rfl rfl rfl rr) (wl_v (.bool false) rfl rfl (y_mov rfl rfl rr) (wl_vw (iv x) 11 false 26 rfl rfl rfl rfl rfl (y_mov rfl s89 rr) (wl_vw (.bool true) 11 false 26 rfl rfl rfl rfl rfl (y_lss rfl rfl rfl (decide_eq_true d207) rr) ?_)))))))))))
     refine wl_v (.bool true) rfl rfl (y_pickF rfl rfl rfl rr) (wl_v (.bool true) rfl rfl (y_mov rfl rfl rr) (wl_unless 15 false 30 rfl rfl rfl (Or.inl rfl) rfl (wl_unless 15 false 30 rfl rfl rfl (Or.inl rfl) rfl (wl_v (.bool true) rfl rfl (y_pickT rfl rfl rfl rr) (wl_v (.bool true) rfl rfl (y_mov rfl rfl rr) (wl_unless 19 false 34 rfl rfl rfl (Or.inl rfl) rfl (wl_unless 19 false 34 rfl rfl rfl (Or.inl rfl) rfl (wl_v (.bool true) rfl rfl (y_pickT rfl rfl rfl rr) (wl_v (.bool true) rfl rfl (y_mov rfl rfl rr) (wl_unless 23 false 38 rfl rfl rfl (Or.inl rfl) rfl (wl_unless 23 false 38 rfl rfl rfl (Or.inl rfl) rfl ?_)))))))))))
     refine wl_v (.bool true) rfl rfl (y_pickT rfl rfl rfl rr) (wl_nil fun F218 hF219 => ?_)
     obtain ⟨s223, s226, s227⟩ := t3 hF219 73 s91 10 s94 12 s95
     have s228 : F218 41 = .bool true := (hF219 41).trans rfl
     clear hF219
     refine then_normal ?_
     refine wq_cond (t := true) s228 (fun _ => ?_) (fun e => by cases e)
     refine wq_seq ?_
     have hno : ¬ placeF f p x y := by rintro ⟨h1, h2, h3, h4, h5, h6, h7⟩; first | exact absurd ((checkE_iff f).2 h1) (by assumption) | omega
     refine wq_region (wl_v (blkV (fun _ => 0)) rfl rfl (y_load_blk blkT_arr rfl s227 B216 rr) (wl_store_blk blkT_arr rfl rfl rfl s226 rfl B215 fun w229 B230 k231 => ?_))
     have K238 := K217.trans k231 (Grew.ok (S := fun _ => False) gr35 noB_le)
     refine wl_v (iv 70) rfl rfl (y_asg rfl rfl rr) (wl_nil fun F239 hF240 => ?_)
     obtain ⟨s241, s242⟩ := t2 hF240 73 s223 10 s226
     have s243 : F239 11 = iv 70 := (hF240 11).trans rfl
     clear hF240
     refine then_normal (wq_ret (then_ret ?_))
     exact end_2 s241 rfl (res_blk blkT_arr rfl s242 B230) (res_tmp (v := iv 70) rfl s243) ⟨(by first | rw [(mv_no hno).1, (mv_no hno).2] | rw [(mv_none hpl hvn).1, (mv_none hpl hvn).2] | rw [(mv_yes hpl hv).1, (mv_yes hpl hv).2]), K238⟩
    ·skip
     by_cases d244 : 64 < x
     ·skip
      refine wq_region (wl_v (.agg #[iv (f.W), iv (f.H), f0, f1, f2]) rfl rfl (y_load_stc stcT_frame rfl s92 B82 rr) (wl_cs rfl rfl rfl rfl rfl (fun _ _ => by kernel_rfl) (vsC rfl vsN) (fref_check f f0 f1 f2 T_f0 T_f1 T_f2 _  B79 B80 B81 ) fun w245 k246 => ?_))
      have B252 := B84.all k246 id
      have B253 := B77.all k246 id
      have K254 := K85.tr k246
      refine wl_v (.bool false) rfl rfl (y_neqI rfl rfl rfl (decide_eq_false d96) rr) (wl_v (.bool false) rfl rfl (y_mov rfl rfl rr) (wl_vw (iv p) 3 false 18 rfl rfl rfl rfl rfl (y_mov rfl s88 rr) (wl_vw (.bool false) 3 false 18 rfl rfl rfl rfl rfl (y_lss rfl rfl rfl (decide_eq_false d133) rr) (wl_v (.bool false) rfl rfl (y_pickF rfl rfl rfl rr) (wl_v (.bool false) rfl rfl (y_mov rfl rfl rr) (wl_vw (iv p) 7 false 22 rfl rfl rfl rfl rfl (y_mov rfl s88 rr) (wl_vw (.bool false) 7 false 22 rfl rfl rfl rfl rfl (y_gtr rfl rfl rfl (decide_eq_false d170) rr) (wl_v (.bool false) rfl rfl (y_pickF rfl rfl rfl rr) (wl_v (.bool false) rfl rfl (y_mov rfl rfl rr) (wl_vw (iv x) 11 false 26 rfl rfl rfl rfl rfl (y_mov rfl s89 rr) (wl_vw (.bool false) 11 false 26 rfl rfl rfl rfl rfl (y_lss rfl rfl rfl (decide_eq_false d207) rr) ?_)))))))))))
      refine wl_v (.bool false) rfl rfl (y_pickF rfl rfl rfl rr) (wl_v (.bool false) rfl rfl (y_mov rfl rfl rr) (wl_vw (iv x) 15 false 30 rfl rfl rfl rfl rfl (y_mov rfl s89 rr) (wl_vw (.bool true) 15 false 30 rfl rfl rfl rfl rfl (y_gtr rfl rfl rfl (decide_eq_true d244) rr) (wl_v (.bool true) rfl rfl (y_pickF rfl rfl rfl rr) (wl_v (.bool true) rfl rfl (y_mov rfl rfl rr) (wl_unless 19 false 34 rfl rfl rfl (Or.inl rfl) rfl (wl_unless 19 false 34 rfl rfl rfl (Or.inl rfl) rfl (wl_v (.bool true) rfl rfl (y_pickT rfl rfl rfl rr) (wl_v (.bool true) rfl rfl (y_mov rfl rfl rr) (wl_unless 23 false 38 rfl rfl rfl (Or.inl rfl) rfl (wl_unless 23 false 38 rfl rfl rfl (Or.inl rfl) rfl ?_)))))))))))
      refine wl_v (.bool true) rfl rfl (y_pickT rfl rfl rfl rr) (wl_nil fun F255 hF256 => ?_)
      obtain ⟨s260, s263, s264⟩ := t3 hF256 73 s91 10 s94 12 s95
      have s265 : F255 41 = .bool true := (hF256 41).trans rfl
      clear hF256
      refine then_normal ?_
      refine wq_cond (t := true) s265 (fun _ => ?_) (fun e => by cases e)
      refine wq_seq ?_
      have hno : ¬ placeF f p x y := by rintro ⟨h1, h2, h3, h4, h5, h6, h7⟩; first | exact absurd ((checkE_iff f).2 h1) (by assumption) | omega
      refine wq_region (wl_v (blkV (fun _ => 0)) rfl rfl (y_load_blk blkT_arr rfl s264 B253 rr) (wl_store_blk blkT_arr rfl rfl rfl s263 rfl B252 fun w266 B267 k268 => ?_))
      have K275 := K254.trans k268 (Grew.ok (S := fun _ => False) gr35 noB_le)
      refine wl_v (iv 70) rfl rfl (y_asg rfl rfl rr) (wl_nil fun F276 hF277 => ?_)
      obtain ⟨s278, s279⟩ := t2 hF277 73 s260 10 s263
      have s280 : F276 11 = iv 70 := (hF277 11).trans rfl
      clear hF277
      refine then_normal (wq_ret (then_ret ?_))
      exact end_2 s278 rfl (res_blk blkT_arr rfl s279 B267) (res_tmp (v := iv 70) rfl s280) ⟨(by first | rw [(mv_no hno).1, (mv_no hno).2] | rw [(mv_none hpl hvn).1, (mv_none hpl hvn).2] | rw [(mv_yes hpl hv).1, (mv_yes hpl hv).2]), K275⟩
     ·skip
      by_cases d281 : y < 0
      ·skip
       refine wq_region (wl_v (.agg #[iv (f.W), iv (f.H), f0, f1, f2]) rfl rfl (y_load_stc stcT_frame rfl s92 B82 rr) (wl_cs rfl rfl rfl rfl rfl (fun _ _ => by kernel_rfl) (vsC rfl vsN) (fref_check f f0 f1 f2 T_f0 T_f1 T_f2 _  B79 B80 B81 ) fun w282 k283 => ?_))
       have B289 := B84.all k283 id
       have B290 := B77.all k283 id
       have K291 := K85.tr k283
       refine wl_v (.bool false) rfl rfl (y_neqI rfl rfl rfl (decide_eq_false d96) rr) (wl_v (.bool false) rfl rfl (y_mov rfl rfl rr) (wl_vw (iv p) 3 false 18 rfl rfl rfl rfl rfl (y_mov rfl s88 rr) (wl_vw (.bool false) 3 false 18 rfl rfl rfl rfl rfl (y_lss rfl rfl rfl (decide_eq_false d133) rr) (wl_v (.bool false) rfl rfl (y_pickF rfl rfl rfl rr) (wl_v (.bool false) rfl rfl (y_mov rfl rfl rr) (wl_vw (iv p) 7 false 22 rfl rfl rfl rfl rfl (y_mov rfl s88 rr) (wl_vw (.bool false) 7 false 22 rfl rfl rfl rfl rfl (y_gtr rfl rfl rfl (decide_eq_false d170) rr) (wl_v (.bool false) rfl rfl (y_pickF rfl rfl rfl rr) (wl_v (.bool false) rfl rfl (y_mov rfl rfl rr) (wl_vw (iv x) 11 false 26 rfl rfl rfl rfl rfl (y_mov rfl s89 rr) (wl_vw (.bool false) 11 false 26 rfl rfl rfl rfl rfl (y_lss rfl rfl rfl (decide_eq_false d207) rr) ?_)))))))))))
       refine wl_v (.bool false) rfl rfl (y_pickF rfl rfl rfl rr) (wl_v (.bool false) rfl rfl (y_mov rfl rfl rr) (wl_vw (iv x) 15 false 30 rfl rfl rfl rfl rfl (y_mov rfl s89 rr) (wl_vw (.bool false) 15 false 30 rfl rfl rfl rfl rfl (y_gtr rfl rfl rfl (decide_eq_false d244) rr) (wl_v (.bool false) rfl rfl (y_pickF rfl rfl rfl rr) (wl_v (.bool false) rfl rfl (y_mov rfl rfl rr) (wl_vw (iv y) 19 false 34 rfl rfl rfl rfl rfl (y_mov rfl s90 rr) (wl_vw (.bool true) 19 false 34 rfl rfl rfl rfl rfl (y_lss rfl rfl rfl (decide_eq_true d281) rr) (wl_v (.bool true) rfl rfl (y_pickF rfl rfl rfl rr) (wl_v (.bool true) rfl rfl (y_mov rfl rfl rr) (wl_unless 23 false 38 rfl rfl rfl (Or.inl rfl) rfl (wl_unless 23 false 38 rfl rfl rfl (Or.inl rfl) rfl ?_)))))))))))
       refine wl_v (.bool true) rfl rfl (y_pickT rfl rfl rfl rr) (wl_nil fun F292 hF293 => ?_)
       obtain ⟨s297, s300, s301⟩ := t3 hF293 73 s91 10 s94 12 s95
       have s302 : F292 41 = .bool true := (hF293 41).trans rfl
       clear hF293
       refine then_normal ?_
       refine wq_cond (t := true) s302 (fun _ => ?_) (fun e => by cases e)
       refine wq_seq ?_
       have hno : ¬ placeF f p x y := by rintro ⟨h1, h2, h3, h4, h5, h6, h7⟩; first | exact absurd ((checkE_iff f).2 h1) (by assumption) | omega
       refine wq_region (wl_v (blkV (fun _ => 0)) rfl rfl (y_load_blk blkT_arr rfl s301 B290 rr) (wl_store_blk blkT_arr rfl rfl rfl s300 rfl B289 fun w303 B304 k305 => ?_))
       have K312 := K291.trans k305 (Grew.ok (S := fun _ => False) gr35 noB_le)
       refine wl_v (iv 70) rfl rfl (y_asg rfl rfl rr) (wl_nil fun F313 hF314 => ?_)
       obtain ⟨s315, s316⟩ := t2 hF314 73 s297 10 s300
       have s317 : F313 11 = iv 70 := (hF314 11).trans rfl
       clear hF314
       refine then_normal (wq_ret (then_ret ?_))
       exact end_2 s315 rfl (res_blk blkT_arr rfl s316 B304) (res_tmp (v := iv 70) rfl s317) ⟨(by first | rw [(mv_no hno).1, (mv_no hno).2] | rw [(mv_none hpl hvn).1, (mv_none hpl hvn).2] | rw [(mv_yes hpl hv).1, (mv_yes hpl hv).2]), K312⟩
      ·skip
       refine wq_region (wl_v (.agg #[iv (f.W), iv (f.H), f0, f1, f2]) rfl rfl (y_load_stc stcT_frame rfl s92 B82 rr) (wl_cs rfl rfl rfl rfl rfl (fun _ _ => by kernel_rfl) (vsC rfl vsN) (fref_check f f0 f1 f2 T_f0 T_f1 T_f2 _  B79 B80 B81 ) fun w318 k319 => ?_))
       have B320 := B79.all k319 Apart.none
       have B321 := B80.all k319 Apart.none
       have B322 := B81.all k319 Apart.none
       have B323 := B82.all k319 id
       have B324 := B83.all k319 id
       have B325 := B84.all k319 id
       have B326 := B77.all k319 id
       have K327 := K85.tr k319
       refine wl_v (.bool false) rfl rfl (y_neqI rfl rfl rfl (decide_eq_false d96) rr) (wl_v (.bool false) rfl rfl (y_mov rfl rfl rr) (wl_vw (iv p) 3 false 18 rfl rfl rfl rfl rfl (y_mov rfl s88 rr) (wl_vw (.bool false) 3 false 18 rfl rfl rfl rfl rfl (y_lss rfl rfl rfl (decide_eq_false d133) rr) (wl_v (.bool false) rfl rfl (y_pickF rfl rfl rfl rr) (wl_v (.bool false) rfl rfl (y_mov rfl rfl rr) (wl_vw (iv p) 7 false 22 rfl rfl rfl rfl rfl (y_mov rfl s88 rr) (wl_vw (.bool false) 7 false 22 rfl rfl rfl rfl rfl (y_gtr rfl rfl rfl (decide_eq_false d170) rr) (wl_v (.bool false) rfl rfl (y_pickF rfl rfl rfl rr) (wl_v (.bool false) rfl rfl (y_mov rfl rfl rr) (wl_vw (iv x) 11 false 26 rfl rfl rfl rfl rfl (y_mov rfl s89 rr) (wl_vw (.bool false) 11 false 26 rfl rfl rfl rfl rfl (y_lss rfl rfl rfl (decide_eq_false d207) rr) ?_)))))))))))
       refine wl_v (.bool false) rfl rfl (y_pickF rfl rfl rfl rr) (wl_v (.bool false) rfl rfl (y_mov rfl rfl rr) (wl_vw (iv x) 15 false 30 rfl rfl rfl rfl rfl (y_mov rfl s89 rr) (wl_vw (.bool false) 15 false 30 rfl rfl rfl rfl rfl (y_gtr rfl rfl rfl (decide_eq_false d244) rr) (wl_v (.bool false) rfl rfl (y_pickF rfl rfl rfl rr) (wl_v (.bool false) rfl rfl (y_mov rfl rfl rr) (wl_vw (iv y) 19 false 34 rfl rfl rfl rfl rfl (y_mov rfl s90 rr) (wl_vw (.bool false) 19 false 34 rfl rfl rfl rfl rfl (y_lss rfl rfl rfl (decide_eq_false d281) rr) (wl_v (.bool false) rfl rfl (y_pickF rfl rfl rfl rr) (wl_v (.bool false) rfl rfl (y_mov rfl rfl rr) (wl_vw (iv y) 23 false 38 rfl rfl rfl rfl rfl (y_mov rfl s90 rr) (wl_vw (.bool (decide (64 < y))) 23 false 38 rfl rfl rfl rfl rfl (y_gtr rfl rfl rfl rfl rr) ?_)))))))))))
       refine wl_v (.bool (decide (64 < y))) rfl rfl (y_pickF rfl rfl rfl rr) (wl_nil fun F328 hF329 => ?_)
       obtain ⟨s330, s331, s332, s333, s334, s335, s336, s337⟩ := t8 hF329 1 s88 2 s89 3 s90 73 s91 5 s92 9 s93 10 s94 12 s95
       have s338 : F328 41 = .bool (decide (64 < y)) := (hF329 41).trans rfl
       clear hF329
       refine then_normal ?_
       refine wq_cond s338 (fun c339 => ?_) (fun c339 => ?_)
       ·replace c339 := of_decide_eq_true c339
        refine wq_seq ?_
        have hno : ¬ placeF f p x y := by rintro ⟨h1, h2, h3, h4, h5, h6, h7⟩; first | exact absurd ((checkE_iff f).2 h1) (by assumption) | omega
        refine wq_region (wl_v (blkV (fun _ => 0)) rfl rfl (y_load_blk blkT_arr rfl s337 B326 rr) (wl_store_blk blkT_arr rfl rfl rfl s336 rfl B325 fun w340 B341 k342 => ?_))
        have K349 := K327.trans k342 (Grew.ok (S := fun _ => False) gr35 noB_le)
        refine wl_v (iv 70) rfl rfl (y_asg rfl rfl rr) (wl_nil fun F350 hF351 => ?_)
        obtain ⟨s352, s353⟩ := t2 hF351 73 s333 10 s336
        have s354 : F350 11 = iv 70 := (hF351 11).trans rfl
        clear hF351
        refine then_normal (wq_ret (then_ret ?_))
        exact end_2 s352 rfl (res_blk blkT_arr rfl s353 B341) (res_tmp (v := iv 70) rfl s354) ⟨(by first | rw [(mv_no hno).1, (mv_no hno).2] | rw [(mv_none hpl hvn).1, (mv_none hpl hvn).2] | rw [(mv_yes hpl hv).1, (mv_yes hpl hv).2]), K349⟩
       ·replace c339 := of_decide_eq_false c339
        refine wq_skip (then_normal (wq_seq (wq_seq ?_)))
        have hpl : placeF f p x y := ⟨(checkE_iff f).1 (by first | assumption | (apply Decidable.byContradiction; assumption)), by omega, by omega, by omega, by omega, by omega, by omega⟩
        refine wq_region (wl_v (.agg #[iv X, iv Y]) rfl rfl (y_load_stc stcT_vector rfl s335 B324 rr) (wl_cs rfl rfl rfl rfl rfl (fun _ _ => by kernel_rfl) (vsC rfl vsN) (mref_check X Y  _   ) fun w355 k356 => ?_))
        have B357 := B320.all k356 Apart.none
        have B358 := B321.all k356 Apart.none
        have B359 := B322.all k356 Apart.none
        have B360 := B323.all k356 id
        have B361 := B324.all k356 id
        have B362 := B325.all k356 id
        have B363 := B326.all k356 id
        have K364 := K327.tr k356
        refine wl_v (.bool (decide ((vecE X Y) ≠ 0))) rfl rfl (y_neqI rfl rfl rfl rfl rr) (wl_nil fun F365 hF366 => ?_)
        obtain ⟨s367, s368, s369, s370, s371, s372, s373, s374⟩ := t8 hF366 1 s330 2 s331 3 s332 73 s333 5 s334 9 s335 10 s336 12 s337
        have s375 : F365 45 = .bool (decide ((vecE X Y) ≠ 0)) := (hF366 45).trans rfl
        clear hF366
        refine then_normal ?_
        refine wq_cond s375 (fun c376 => ?_) (fun c376 => ?_)
        ·replace c376 := of_decide_eq_true c376
         refine wq_seq ?_
         have hvn : ¬ vecOk X Y := fun h => absurd ((vecE_iff X Y).2 h) (by assumption)
         refine wq_region (wl_v (blkV (fun _ => 0)) rfl rfl (y_load_blk blkT_arr rfl s374 B363 rr) (wl_store_blk blkT_arr rfl rfl rfl s373 rfl B362 fun w377 B378 k379 => ?_))
         have K386 := K364.trans k379 (Grew.ok (S := fun _ => False) gr35 noB_le)
         refine wl_v (iv 90) rfl rfl (y_asg rfl rfl rr) (wl_nil fun F387 hF388 => ?_)
         obtain ⟨s389, s390⟩ := t2 hF388 73 s370 10 s373
         have s391 : F387 11 = iv 90 := (hF388 11).trans rfl
         clear hF388
         refine then_normal (wq_ret (then_ret ?_))
         exact end_2 s389 rfl (res_blk blkT_arr rfl s390 B378) (res_tmp (v := iv 90) rfl s391) ⟨(by first | rw [(mv_no hno).1, (mv_no hno).2] | rw [(mv_none hpl hvn).1, (mv_none hpl hvn).2] | rw [(mv_yes hpl hv).1, (mv_yes hpl hv).2]), K386⟩
        ·replace c376 := of_decide_eq_false c376
         refine wq_skip (then_normal (wq_seq (wq_seq ?_)))
         have hv : vecOk X Y := (vecE_iff X Y).1 (by first | assumption | (apply Decidable.byContradiction; assumption))
         obtain ⟨hv1, hv2, hv3, hv4⟩ := (show vecOk X Y from hv)
         refine wq_region (wl_v (iv 0) rfl rfl (y_asg rfl rfl rr) (wl_nil fun F392 hF393 => ?_))
         obtain ⟨s394, s395, s396, s397, s398, s399, s400, s401⟩ := t8 hF393 1 s367 2 s368 3 s369 73 s370 5 s371 9 s372 10 s373 12 s374
         have s402 : F392 13 = iv 0 := (hF393 13).trans rfl
         clear hF393
         refine then_normal (wq_block (wq_loop (fun nn FF ww => ∃ (n : Nat), (n ≤ 16) ∧ nn = 16 - n ∧ FF 1 = iv p ∧ FF 2 = iv x ∧ FF 3 = iv y ∧ FF 5 = pt p1 0 ∧ FF 9 = pt p14 0 ∧ FF 10 = pt p29 0 ∧ FF 12 = pt p56 0 ∧ FF 73 = undef ∧ FF 13 = iv ((n : Nat) : Int) ∧ Kept (fun _ => False) w0 ww ∧ Byt ww T_f0 f0 (f.p0) ∧ Byt ww T_f1 f1 (f.p1) ∧ Byt ww T_f2 f2 (f.p2) ∧ Stc ww p1 29 [iv (f.W), iv (f.H), f0, f1, f2] ∧ Stc ww p14 67 [iv X, iv Y] ∧ Blk ww p29 68 (fun _ => 0) ∧ Blk ww p56 68 (upto n (fun _ => 0) (mvN f p x y X Y))) (16 - 0) ⟨0, by omega, rfl, s394, s395, s396, s398, s399, s400, s401, s397, s402, K364, B357, B358, B359, B360, B361, B362, B363.first⟩ ?_))
         rintro n406 F403 w404 ⟨n, i407, hn406, s408, s409, s410, s411, s412, s413, s414, s415, s416, K405, B417, B418, B419, B420, B421, B422, B423⟩
         refine wq_seq (wq_seq (wq_region (wl_mv rfl rfl rfl s416 (wl_v (.bool (decide (((n : Nat) : Int) < 16))) rfl rfl (y_lss rfl rfl rfl rfl rr) (wl_nil fun F424 hF425 => ?_)))))
         obtain ⟨s426, s427, s428, s429, s430, s431, s432, s433, s434⟩ := t9 hF425 1 s408 2 s409 3 s410 5 s411 9 s412 10 s413 12 s414 73 s415 13 s416
         have s435 : F424 48 = .bool (decide (((n : Nat) : Int) < 16)) := (hF425 48).trans rfl
         clear hF425
         refine then_normal ?_
         refine wq_cond s435 (fun c436 => ?_) (fun c436 => ?_)
         ·replace c436 := of_decide_eq_true c436
          refine wq_skip (then_normal (wq_seq (wq_block (wq_region (wl_mv rfl rfl rfl s434 (wl_v (.agg #[iv (f.W), iv (f.H), f0, f1, f2]) rfl rfl (y_load_stc stcT_frame rfl s429 B420 rr) (wl_mv rfl rfl rfl s426 (wl_mv rfl rfl rfl s427 (wl_mv rfl rfl rfl s434 (wl_v (iv (((n % 4) : Nat) : Int)) rfl rfl (y_rem rfl rfl rfl (by first | decide | omega) (rem_nat n 4) rr) (wl_v (iv (x + (((n % 4) : Nat) : Int))) rfl rfl (y_add rfl rfl rfl (i64_i rfl (by omega)) rr) ?_)))))))))))
          refine wl_v (iv (2 * (x + (((n % 4) : Nat) : Int)))) rfl rfl (y_mul rfl rfl rfl (i64_i rfl (by omega)) rr) (wl_v (pt p14 0) rfl rfl (y_fieldR (n := 1) rfl s430 Tryz.underlying67 rfl (by kernel_rfl) (by decide) rfl rr) (wl_v (iv X) rfl rfl (y_ld_stc rfl rfl Tryz.underlying3 B421 rfl rfl rr) (wl_v (iv ((2 * (x + (((n % 4) : Nat) : Int))) + X)) rfl rfl (y_add rfl rfl rfl (i64_i rfl (by omega)) rr) (wl_mv rfl rfl rfl s428 (wl_mv rfl rfl rfl s434 (wl_v (iv (((n / 4) : Nat) : Int)) rfl rfl (y_quo rfl rfl rfl (by first | decide | omega) (i64_n (quo_nat n 4) (by omega)) rr) (wl_v (iv (y + (((n / 4) : Nat) : Int))) rfl rfl (y_add rfl rfl rfl (i64_i rfl (by omega)) rr) (wl_v (iv (2 * (y + (((n / 4) : Nat) : Int)))) rfl rfl (y_mul rfl rfl rfl (i64_i rfl (by omega)) rr) (wl_v (pt p14 1) rfl rfl (y_fieldR (n := 1) rfl s430 Tryz.underlying67 rfl (by kernel_rfl) (by decide) rfl rr) (wl_v (iv Y) rfl rfl (y_ld_stc rfl rfl Tryz.underlying3 B421 rfl rfl rr) (wl_v (iv ((2 * (y + (((n / 4) : Nat) : Int))) + Y)) rfl rfl (y_add rfl rfl rfl (i64_i rfl (by omega)) rr) ?_)))))))))))
          refine wl_cs rfl rfl rfl rfl rfl (fun _ _ => by kernel_rfl) (vsC rfl (vsC rfl (vsC rfl (vsC rfl vsN)))) (mref_sample p ((2 * (x + (((n % 4) : Nat) : Int))) + X) ((2 * (y + (((n / 4) : Nat) : Int))) + Y) f f0 f1 f2 T_f0 T_f1 T_f2 _  B417 B418 B419 ) fun w437 k438 => ?_
          have B439 := B417.all k438 Apart.none
          have B440 := B418.all k438 Apart.none
          have B441 := B419.all k438 Apart.none
          have B442 := B420.all k438 id
          have B443 := B421.all k438 id
          have B444 := B422.all k438 id
          have B445 := B423.all k438 id
          have K446 := K405.tr k438
          refine wl_v (.pointer (some ⟨p56, n, none⟩)) rfl rfl (y_atR n (s := 1) rfl s432 rfl (by omega) Tryz.underlying68 (by omega) (by kernel_rfl) (by omega) rr) (wl_set_blk rfl rfl rfl rfl rfl B445 (by omega) (by kernel_rfl) fun w447 B448 k449 => ?_)
          have B450 := B439.all k449 ap63.symm
          have B451 := B440.all k449 ap64.symm
          have B452 := B441.all k449 ap65.symm
          have B453 := B442.all k449 (ap66.symm p1 rfl)
          have B454 := B443.all k449 (ap67.symm p14 rfl)
          have B455 := B444.all k449 (ap68.symm p29 rfl)
          have K456 := K446.trans k449 (Grew.ok (S := fun _ => False) gr62 noB_le)
          refine wl_nil fun F457 hF458 => ?_
          obtain ⟨s459, s460, s461, s462, s463, s464, s465, s466, s467⟩ := t9 hF458 1 s426 2 s427 3 s428 5 s429 9 s430 10 s431 12 s432 73 s433 13 s434
          clear hF458
          refine in_normal (then_normal (wq_region (wl_mv rfl rfl rfl s467 (wl_v (iv ((n + 1 : Nat) : Int)) rfl rfl (y_add rfl rfl rfl (i64_n (by omega) (by omega)) rr) (wl_v (iv ((n + 1 : Nat) : Int)) rfl rfl (y_asg rfl rfl rr) (wl_nil fun F468 hF469 => ?_))))))
          obtain ⟨s470, s471, s472, s473, s474, s475, s476, s477⟩ := t8 hF469 1 s459 2 s460 3 s461 5 s462 9 s463 10 s464 12 s465 73 s466
          have s478 : F468 13 = iv ((n + 1 : Nat) : Int) := (hF469 13).trans rfl
          clear hF469
          exact then_normal ⟨(16 - (n + 1)), by omega, n + 1, by omega, rfl, s470, s471, s472, s473, s474, s475, s476, s477, s478, K456, B450, B451, B452, B453, B454, B455, (B448.next rfl)⟩
         ·replace c436 := of_decide_eq_false c436
          refine wq_exit (then_exit (then_exit ?_))
          have l479 : 16 = n := by omega
          subst l479
          have B480 : Blk w404 p56 68 (mvN f p x y X Y) := (B423.last)
          refine in_here (then_normal (wq_seq (wq_region (wl_v (blkV (mvN f p x y X Y)) rfl rfl (y_load_blk blkT_arr rfl s432 B480 rr) (wl_store_blk blkT_arr rfl rfl rfl s431 rfl B422 fun w481 B482 k483 => ?_)))))
          have K490 := K405.trans k483 (Grew.ok (S := fun _ => False) gr35 noB_le)
          refine wl_v (iv 0) rfl rfl (y_asg rfl rfl rr) (wl_nil fun F491 hF492 => ?_)
          obtain ⟨s493, s494⟩ := t2 hF492 10 s431 73 s433
          have s495 : F491 11 = iv 0 := (hF492 11).trans rfl
          clear hF492
          refine then_normal (wq_ret ?_)
          exact end_2 s494 rfl (res_blk blkT_arr rfl s493 B482) (res_tmp (v := iv 0) rfl s495) ⟨(by first | rw [(mv_no hno).1, (mv_no hno).2] | rw [(mv_none hpl hvn).1, (mv_none hpl hvn).2] | rw [(mv_yes hpl hv).1, (mv_yes hpl hv).2]), K490⟩
theorem mref_both (a b : Nat → Int) (w0 : World) :
  Calls Tryz.prog 82 #[blkV (a), blkV (b)] w0 fun e w' => e = .returned (blkV (bothB a b)) ∧ Kept (fun _ => False) w0 w' := by
 refine calls_wq (args := [blkV a, blkV b]) 28 Tryz.func82 rfl rfl (Nat.le_of_ble_eq_true rfl) ?_
 have K0 := Kept.refl (fun _ => False) w0
 refine wq_seq (wq_region (wl_box_blk rfl rfl rfl rfl fun p1 w2 e5 B3 k4 => ?_))
 have g6 := onB_new (Nat.le_of_eq e5.symm)
 clear e5 g6
 have K8 := K0.tr k4
 refine wl_box_blk rfl rfl rfl rfl fun p9 w10 e13 B11 k12 => ?_
 have g14 := onB_new (Nat.le_of_eq e13.symm)
 clear e13 g14
 have B17 := B3.all k12 id
 have K18 := K8.tr k12
 refine wl_alloc_blk rfl rfl rfl blkT_arr.2.2 fun p19 w20 e23 B21 k22 => ?_
 have g24 := onB_new (Nat.le_of_eq e23.symm)
 have gr25 : Grew w0 noB (onB p19) := Grew.new K18 g24
 clear e23 g24
 have B28 := B17.all k22 id
 have B29 := B11.all k22 id
 have K30 := K18.tr k22
 refine wl_nil fun F31 hF32 => ?_
 have s33 : F31 28 = undef := (hF32 28).trans rfl
 have s34 : F31 2 = pt p1 0 := (hF32 2).trans rfl
 have s35 : F31 3 = pt p9 0 := (hF32 3).trans rfl
 have s36 : F31 4 = pt p19 0 := (hF32 4).trans rfl
 clear hF32
 refine then_normal (wq_seq (wq_region (wl_v (blkV (fun _ => 0)) rfl rfl (y_buildR (cells := (arrL 16 (fun _ => 0)).toArray) rfl (by kernel_rfl) rfl rr) (wl_alloc_blk rfl rfl rfl blkT_arr.2.2 fun p37 w38 e41 B39 k40 => ?_))))
 have g42 := onB_new (Nat.le_of_eq e41.symm)
 have gr43 : Grew w0 noB (onB p37) := Grew.new K30 g42
 have ap44 : Apart (onB p37) (onB p1) := Apart.new g42 (onB_live B28.lt)
 have ap45 : Apart (onB p37) (onB p9) := Apart.new g42 (onB_live B29.lt)
 have ap46 : Apart (onB p37) (onB p19) := Apart.new g42 (onB_live B21.lt)
 clear e41 g42
 have B47 := B28.all k40 id
 have B48 := B29.all k40 id
 have B49 := B21.all k40 id
 have K50 := K30.tr k40
 refine wl_store_blk blkT_arr rfl rfl rfl rfl rfl B39 fun w51 B52 k53 => ?_
 have B54 := B47.all k53 (ap44.symm p1 rfl)
 have B55 := B48.all k53 (ap45.symm p9 rfl)
 have B56 := B49.all k53 (ap46.symm p19 rfl)
 have K57 := K50.trans k53 (Grew.ok (S := fun _ => False) gr43 noB_le)
 refine wl_nil fun F58 hF59 => ?_
 obtain ⟨s60, s61, s62, s63⟩ := t4 hF59 28 s33 2 s34 3 s35 4 s36
 have s64 : F58 5 = pt p37 0 := (hF59 5).trans rfl
 clear hF59
 refine then_normal (wq_seq (wq_seq (wq_region (wl_v (iv 0) rfl rfl (y_asg rfl rfl rr) (wl_nil fun F65 hF66 => ?_)))))
 obtain ⟨s67, s68, s69, s70, s71⟩ := t5 hF66 28 s60 2 s61 3 s62 4 s63 5 s64
 have s72 : F65 6 = iv 0 := (hF66 6).trans rfl
 clear hF66
 refine then_normal (wq_block (wq_loop (fun nn FF ww => ∃ (i : Nat), (i ≤ 16) ∧ nn = 16 - i ∧ FF 2 = pt p1 0 ∧ FF 3 = pt p9 0 ∧ FF 4 = pt p19 0 ∧ FF 5 = pt p37 0 ∧ FF 28 = undef ∧ FF 6 = iv ((i : Nat) : Int) ∧ Kept (fun _ => False) w0 ww ∧ Blk ww p1 68 a ∧ Blk ww p9 68 b ∧ Blk ww p19 68 (fun _ => 0) ∧ Blk ww p37 68 (upto i (fun _ => 0) (bothB a b))) (16 - 0) ⟨0, by omega, rfl, s68, s69, s70, s71, s67, s72, K57, B54, B55, B56, B52.first⟩ ?_))
 rintro n76 F73 w74 ⟨i, i77, hn76, s78, s79, s80, s81, s82, s83, K75, B84, B85, B86, B87⟩
 refine wq_seq (wq_seq (wq_region (wl_mv rfl rfl rfl s83 (wl_v (.bool (decide (((i : Nat) : Int) < 16))) rfl rfl (y_lss rfl rfl rfl rfl rr) (wl_nil fun F88 hF89 => ?_)))))
 obtain ⟨s90, s91, s92, s93, s94, s95⟩ := t6 hF89 2 s78 3 s79 4 s80 5 s81 28 s82 6 s83
 have s96 : F88 9 = .bool (decide (((i : Nat) : Int) < 16)) := (hF89 9).trans rfl
 clear hF89
 refine then_normal ?_
 refine wq_cond s96 (fun c97 => ?_) (fun c97 => ?_)
 ·replace c97 := of_decide_eq_true c97
  refine wq_skip (then_normal (wq_seq (wq_block ?_)))
  have h1 := c8_le (a i)
  have h2 := c8_le (b i)
  refine wq_tail 15 [some 12, some 13, some 14, some 15, some 16, some 17, some 18, some 19, some 20, some 21, some 22, some 23, some 24, some 25, some 26] [Pd.eq (iv ((i : Nat) : Int)), Pd.eq (iv ((i : Nat) : Int)), Pd.eq (.pointer (some ⟨p1, i, none⟩)), Pd.eq (iv (a i)), Pd.eq (iv (max (a i) 0)), Pd.eq (iv (c8 (a i))), Pd.eq (iv ((i : Nat) : Int)), Pd.eq (.pointer (some ⟨p9, i, none⟩)), Pd.eq (iv (b i)), Pd.eq (iv (max (b i) 0)), Pd.eq (iv (c8 (b i))), Pd.eq (iv ((c8 (a i)) + (c8 (b i)))), Pd.eq (iv (((c8 (a i)) + (c8 (b i))) + 1)), Pd.eq (iv (Int.tdiv (c8 (a i) + c8 (b i) + 1) 2)), Pd.eq (.pointer (some ⟨p37, i, none⟩))] (by kernel_rfl) (by kernel_rfl) (by kernel_rfl) ?_ ?_
  ·refine stepsF_cons ?_ ?_
   ·refine StepF.one rfl fun F_ w_ hR hout hD => ?_
    exact (y_mov rfl ((hout 6 rfl (by decide)).trans s95) ⟨rfl, Kept.refl _ _⟩)
   refine stepsF_cons ?_ ?_
   ·refine StepF.one rfl fun F_ w_ hR hout hD => ?_
    exact (y_mov rfl ((hout 6 rfl (by decide)).trans s95) ⟨rfl, Kept.refl _ _⟩)
   refine stepsF_cons ?_ ?_
   ·refine StepF.one rfl fun F_ w_ hR hout hD => ?_
    have g13 : F_ 13 = iv ((i : Nat) : Int) := (hD.get 0 rfl rfl rfl)
    exact (y_atR i (s := 1) rfl ((hout 2 rfl (by decide)).trans s90) g13 (by omega) Tryz.underlying68 (by omega) (by kernel_rfl) (by omega) ⟨rfl, Kept.refl _ _⟩)
   refine stepsF_cons ?_ ?_
   ·refine StepF.one rfl fun F_ w_ hR hout hD => ?_
    have g14 : F_ 14 = .pointer (some ⟨p1, i, none⟩) := (hD.get 0 rfl rfl rfl)
    exact (y_ldR rfl g14 Tryz.underlying3 ((B84.all hR id).cell (by omega)) ⟨rfl, Kept.refl _ _⟩)
   refine stepsF_cons ?_ ?_
   ·refine StepF.one rfl fun F_ w_ hR hout hD => ?_
    have g15 : F_ 15 = iv (a i) := (hD.get 0 rfl rfl rfl)
    exact (y_maxR rfl g15 rfl rfl ⟨rfl, Kept.refl _ _⟩)
   refine stepsF_cons ?_ ?_
   ·refine StepF.one rfl fun F_ w_ hR hout hD => ?_
    have g16 : F_ 16 = iv (max (a i) 0) := (hD.get 0 rfl rfl rfl)
    exact (y_minR rfl g16 rfl rfl ⟨rfl, Kept.refl _ _⟩)
   refine stepsF_cons ?_ ?_
   ·refine StepF.one rfl fun F_ w_ hR hout hD => ?_
    exact (y_mov rfl ((hout 6 rfl (by decide)).trans s95) ⟨rfl, Kept.refl _ _⟩)
   refine stepsF_cons ?_ ?_
   ·refine StepF.one rfl fun F_ w_ hR hout hD => ?_
    have g18 : F_ 18 = iv ((i : Nat) : Int) := (hD.get 0 rfl rfl rfl)
    exact (y_atR i (s := 1) rfl ((hout 3 rfl (by decide)).trans s91) g18 (by omega) Tryz.underlying68 (by omega) (by kernel_rfl) (by omega) ⟨rfl, Kept.refl _ _⟩)
   refine stepsF_cons ?_ ?_
   ·refine StepF.one rfl fun F_ w_ hR hout hD => ?_
    have g19 : F_ 19 = .pointer (some ⟨p9, i, none⟩) := (hD.get 0 rfl rfl rfl)
    exact (y_ldR rfl g19 Tryz.underlying3 ((B85.all hR id).cell (by omega)) ⟨rfl, Kept.refl _ _⟩)
   refine stepsF_cons ?_ ?_
   ·refine StepF.one rfl fun F_ w_ hR hout hD => ?_
    have g20 : F_ 20 = iv (b i) := (hD.get 0 rfl rfl rfl)
    exact (y_maxR rfl g20 rfl rfl ⟨rfl, Kept.refl _ _⟩)
   refine stepsF_cons ?_ ?_
   ·refine StepF.one rfl fun F_ w_ hR hout hD => ?_
    have g21 : F_ 21 = iv (max (b i) 0) := (hD.get 0 rfl rfl rfl)
    exact (y_minR rfl g21 rfl rfl ⟨rfl, Kept.refl _ _⟩)
   refine stepsF_cons ?_ ?_
   ·refine StepF.one rfl fun F_ w_ hR hout hD => ?_
    have g17 : F_ 17 = iv (c8 (a i)) := (hD.get 0 rfl rfl rfl)
    have g22 : F_ 22 = iv (c8 (b i)) := (hD.get 1 rfl rfl rfl)
    exact (y_add rfl g17 g22 (i64_i rfl (by omega)) ⟨rfl, Kept.refl _ _⟩)
   refine stepsF_cons ?_ ?_
   ·refine StepF.one rfl fun F_ w_ hR hout hD => ?_
    have g23 : F_ 23 = iv ((c8 (a i)) + (c8 (b i))) := (hD.get 0 rfl rfl rfl)
    exact (y_add rfl g23 rfl (i64_i rfl (by omega)) ⟨rfl, Kept.refl _ _⟩)
   refine stepsF_cons ?_ ?_
   ·refine StepF.one rfl fun F_ w_ hR hout hD => ?_
    have g24 : F_ 24 = iv (((c8 (a i)) + (c8 (b i))) + 1) := (hD.get 0 rfl rfl rfl)
    exact (y_quo rfl g24 rfl (by first | decide | omega) (i64_i rfl (by rw [tdiv2 (by omega)]; omega)) ⟨rfl, Kept.refl _ _⟩)
   refine stepsF_cons ?_ ?_
   ·refine StepF.one rfl fun F_ w_ hR hout hD => ?_
    have g12 : F_ 12 = iv ((i : Nat) : Int) := (hD.get 0 rfl rfl rfl)
    exact (y_atR i (s := 1) rfl ((hout 5 rfl (by decide)).trans s93) g12 (by omega) Tryz.underlying68 (by omega) (by kernel_rfl) (by omega) ⟨rfl, Kept.refl _ _⟩)
   exact stepsF_nil
  intro v98 F99 w100 k101 G102 hF103
  have B105 := B84.all k101 id
  have B106 := B85.all k101 id
  have B107 := B86.all k101 id
  have B108 := B87.all k101 id
  have K109 := K75.tr k101
  obtain ⟨s110, s111, s112, s113, s114, s115⟩ := t6 hF103 2 s90 3 s91 4 s92 5 s93 28 s94 6 s95
  have s116 : F99 25 = iv (Int.tdiv (c8 (a i) + c8 (b i) + 1) 2) := (hF103 25).trans (G102 13 (by decide))
  have s117 : F99 26 = .pointer (some ⟨p37, i, none⟩) := (hF103 26).trans (G102 14 (by decide))
  clear G102 hF103
  refine wl_set_blk rfl rfl rfl s117 s116 B108 (by omega) (by kernel_rfl) fun w118 B119 k120 => ?_
  have B121 := B105.all k120 (ap44.symm p1 rfl)
  have B122 := B106.all k120 (ap45.symm p9 rfl)
  have B123 := B107.all k120 (ap46.symm p19 rfl)
  have K124 := K109.trans k120 (Grew.ok (S := fun _ => False) gr43 noB_le)
  refine wl_nil fun F125 hF126 => ?_
  obtain ⟨s127, s128, s129, s130, s131, s132⟩ := t6 hF126 2 s110 3 s111 4 s112 5 s113 28 s114 6 s115
  clear hF126
  refine in_normal (then_normal (wq_region (wl_mv rfl rfl rfl s132 (wl_v (iv ((i + 1 : Nat) : Int)) rfl rfl (y_add rfl rfl rfl (i64_n (by omega) (by omega)) rr) (wl_v (iv ((i + 1 : Nat) : Int)) rfl rfl (y_asg rfl rfl rr) (wl_nil fun F133 hF134 => ?_))))))
  obtain ⟨s135, s136, s137, s138, s139⟩ := t5 hF134 2 s127 3 s128 4 s129 5 s130 28 s131
  have s140 : F133 6 = iv ((i + 1 : Nat) : Int) := (hF134 6).trans rfl
  clear hF134
  exact then_normal ⟨(16 - (i + 1)), by omega, i + 1, by omega, rfl, s135, s136, s137, s138, s139, s140, K124, B121, B122, B123, (B119.next rfl)⟩
 ·replace c97 := of_decide_eq_false c97
  refine wq_exit (then_exit (then_exit ?_))
  have l141 : 16 = i := by omega
  subst l141
  have B142 : Blk w74 p37 68 (bothB a b) := (B87.last)
  refine in_here (then_normal (wq_seq (wq_region (wl_v (blkV (bothB a b)) rfl rfl (y_load_blk blkT_arr rfl s93 B142 rr) (wl_store_blk blkT_arr rfl rfl rfl s92 rfl B86 fun w143 B144 k145 => ?_)))))
  have K149 := K75.trans k145 (Grew.ok (S := fun _ => False) gr25 noB_le)
  refine wl_nil fun F150 hF151 => ?_
  obtain ⟨s152, s153⟩ := t2 hF151 4 s92 28 s94
  clear hF151
  refine then_normal (wq_ret ?_)
  exact end_blk blkT_arr s153 rfl rfl s152 B144 ⟨rfl, K149⟩
end Go.Proofs.YtknjpdcpmpfklaaGreatDoor
set_option maxRecDepth 100000
namespace Go.Proofs.YtknjpdcpmpfklaaGreatDoor
def c34 (n : Int) : Int := max (-34) (min n 34)
def nx (a : Int) (k : Nat) : Int := a - 2 + ((k % 5 : Nat) : Int)
def ny (c : Int) (k : Nat) : Int := c - 2 + ((k / 5 : Nat) : Int)
end Go.Proofs.YtknjpdcpmpfklaaGreatDoor
set_option maxRecDepth 100000
namespace Go.Proofs.YtknjpdcpmpfklaaGreatDoor
open Go.RowKit
inductive Pc where
  | eq (v : Value)
  | turn (j : Nat)
  | blk (t : TypeId) (zs : List Value) (k : Nat) (us : List Value)
  | told (p : Nat) (t : TypeId) (zs us : List Value)
def Pc.none : Pc := .eq undef
def isBlk : Pc → Bool
  | .blk _ _ _ _ => true
  | _ => false
def HoldC (n0 : Nat) (p : Pc) (L : Nat → Bool) (v : Value) (w : World) : Prop := match p with
  | .eq x => v = x
  | .turn _ => True
  | .told _ _ _ _ => True
  | .blk t zs k us => ∃ q, v = .pointer (some ⟨q, 0, none⟩) ∧ n0 ≤ q ∧ Stc w q t (if L k = true then us else zs)
def NotTold (p : Nat) : List Pc → Prop
  | [] => True
  | .told q _ _ _ :: r => p ≠ q ∧ NotTold p r
  | .eq _ :: r => NotTold p r
  | .turn _ :: r => NotTold p r
  | .blk _ _ _ _ :: r => NotTold p r
def Olds (S : Nat → Prop) (w0 : World) : List Pc → Prop
  | [] => True
  | .told p t zs _ :: r => (S p ∧ Stc w0 p t zs ∧ NotTold p r) ∧ Olds S w0 r
  | .eq _ :: r => Olds S w0 r
  | .turn _ :: r => Olds S w0 r
  | .blk _ _ _ _ :: r => Olds S w0 r
theorem NotTold.at {p : Nat} : ∀ {Gs : List Pc}, NotTold p Gs → ∀ i q t zs us, Gs.getD i Pc.none = .told q t zs us → p ≠ q := by
  intro Gs
  induction Gs with
  | nil => intro _ i q t zs us h; cases h
  | cons g r ih =>
    intro h i q t zs us e
    cases i with
    | zero =>
      have e : g = .told q t zs us := by simpa using e
      subst e; exact h.1
    | succ i =>
      have e : r.getD i Pc.none = .told q t zs us := by simpa using e
      cases g <;> first | exact ih h.2 i q t zs us e | exact ih h i q t zs us e
theorem Olds.at {S : Nat → Prop} {w0 : World} : ∀ {Gs : List Pc}, Olds S w0 Gs → ∀ i p t zs us, Gs.getD i Pc.none = .told p t zs us → S p ∧ Stc w0 p t zs := by
  intro Gs
  induction Gs with
  | nil => intro _ i q t zs us h; cases h
  | cons g r ih =>
    intro h i q t zs us e
    cases i with
    | zero =>
      have e : g = .told q t zs us := by simpa using e
      subst e; exact ⟨h.1.1, h.1.2.1⟩
    | succ i =>
      have e : r.getD i Pc.none = .told q t zs us := by simpa using e
      cases g <;> first | exact ih h.2 i q t zs us e | exact ih h i q t zs us e
theorem Olds.ne {S : Nat → Prop} {w0 : World} : ∀ {Gs : List Pc}, Olds S w0 Gs → ∀ i j p t zs us p' t' zs' us', i ≠ j → Gs.getD i Pc.none = .told p t zs us → Gs.getD j Pc.none = .told p' t' zs' us' → p ≠ p' := by
  intro Gs
  induction Gs with
  | nil => intro _ i j p t zs us p' t' zs' us' _ h; cases h
  | cons g r ih =>
    intro h i j p t zs us p' t' zs' us' hij e1 e2
    cases i with
    | zero =>
      have e1 : g = .told p t zs us := by simpa using e1
      subst e1
      cases j with
      | zero => exact absurd rfl hij
      | succ j => exact h.1.2.2.at j p' t' zs' us' (by simpa using e2)
    | succ i =>
      cases j with
      | zero =>
        have e2 : g = .told p' t' zs' us' := by simpa using e2
        subst e2
        exact fun e => h.1.2.2.at i p t zs us (by simpa using e1) e.symm
      | succ j =>
        have hr : Olds S w0 r := by cases g <;> first | exact h.2 | exact h
        exact ih hr i j p t zs us p' t' zs' us' (fun e => hij (by rw [e])) (by simpa using e1) (by simpa using e2)
structure JC (S : Nat → Prop) (w0 : World) (Gs : List Pc) (L : Nat → Bool) (v : Nat → Value) (w : World) : Prop where
  kept : Kept S w0 w
  olds : ∀ i p t zs us, Gs.getD i Pc.none = .told p t zs us → Stc w p t (if L i = true then us else zs)
  holds : ∀ i, L i = true → HoldC w0.heap.size (Gs.getD i Pc.none) L (v i) w
  apart : ∀ i j, i ≠ j → L i = true → L j = true → isBlk (Gs.getD i Pc.none) = true → isBlk (Gs.getD j Pc.none) = true → v i ≠ v j
  clos : ∀ k j, L k = true → Gs.getD k Pc.none = .turn j → L j = true
def wfAt (os : List Oper) (D : List (Option Tmp)) (Gs : List Pc) (i : Nat) : Pc → Bool
  | .eq _ => true
  | .told _ _ _ _ => true
  | .turn j => (match Gs.getD j Pc.none with | .blk _ _ k _ => k == i | _ => false) && (match D.getD j none with | some _ => true | none => false) && (match os[i]? with | some o => waitsOn o j | none => false)
  | .blk _ _ k _ => match Gs.getD k Pc.none with | .turn j => j == i | _ => false
def wfC (os : List Oper) (D : List (Option Tmp)) (Gs : List Pc) : Bool := (List.range Gs.length).all fun i => wfAt os D Gs i (Gs.getD i Pc.none)
theorem wfC_at {os : List Oper} {D : List (Option Tmp)} {Gs : List Pc} (h : wfC os D Gs = true) (i : Nat) : wfAt os D Gs i (Gs.getD i Pc.none) = true := by
  by_cases hi : i < Gs.length
  · exact List.all_eq_true.1 h i (List.mem_range.2 hi)
  · have : Gs.getD i Pc.none = Pc.none := by simp [List.getD, List.getElem?_eq_none (show Gs.length ≤ i by omega)]
    rw [this]; rfl
theorem wf_blk {os : List Oper} {D : List (Option Tmp)} {Gs : List Pc} (h : wfC os D Gs = true) {i k : Nat} {t : TypeId} {zs us : List Value} (e : Gs.getD i Pc.none = .blk t zs k us) : Gs.getD k Pc.none = .turn i := by
  have := wfC_at h i
  rw [e] at this
  simp only [wfAt] at this
  split at this
  · rename_i j hj; rw [hj]; have : j = i := by simpa using this
    rw [this]
  · cases this
def ToldC (n0 : Nat) (Gs : List Pc) (i : Nat) : Nat → Value → World → Prop := fun j v w => match Gs.getD j Pc.none with
  | .eq x => v = x
  | .turn _ => True
  | .told _ _ _ _ => True
  | .blk t zs k _ => k = i → ∃ q, v = .pointer (some ⟨q, 0, none⟩) ∧ n0 ≤ q ∧ Stc w q t zs
def LeftC (Gs : List Pc) (D : List (Option Tmp)) (i : Nat) (ρ : Operand → Value) (w : World) (v : Value) (w' : World) : Prop := match Gs.getD i Pc.none with
  | .eq x => v = x ∧ Kept (fun _ => False) w w'
  | .blk t zs _ _ => ∃ q, v = .pointer (some ⟨q, 0, none⟩) ∧ w.heap.size ≤ q ∧ Stc w' q t zs ∧ Kept (fun _ => False) w w'
  | .told p t _ us => Stc w' p t us ∧ Kept (onB p) w w'
  | .turn j => ∃ d q, D.getD j none = some d ∧ ρ (.tmp d) = .pointer (some ⟨q, 0, none⟩) ∧ (∀ t zs us, Gs.getD j Pc.none = .blk t zs i us → Stc w' q t us) ∧ Kept (onB q) w w'
section
variable {P : Program} {N : Nat} {F : Nat → Value} {w : World} {Q : Exit → (Nat → Value) → World → Prop}
def StepFC (S : Nat → Prop) (N : Nat) (P : Program) (D : List (Option Tmp)) (Gs : List Pc) (F0 : Nat → Value) (w0 : World) (i : Nat) (o : Oper) : Prop :=
  ∀ (F : Nat → Value) (w : World), Kept S w0 w → (∀ t, Nat.blt t N = true → some t ∉ D → F t = F0 t) → DepsF D (ToldC w0.heap.size Gs i) F w o.after.toList → (∀ p t zs us, Gs.getD i Pc.none = .told p t zs us → Stc w p t zs) →
    match o.guard with
    | none => Yields P (ev F) o w (LeftC Gs D i (ev F) w)
    | some (j, want) => ∃ d, D.getD j none = some d ∧
      ((F d = .bool want ∧ Yields P (ev F) o w (LeftC Gs D i (ev F) w)) ∨ ((F d = .bool (!want) ∨ F d = undef) ∧ Gs.getD i Pc.none = .eq undef))
def StepsFC (S : Nat → Prop) (N : Nat) (P : Program) (D : List (Option Tmp)) (Gs : List Pc) (F0 : Nat → Value) (w0 : World) : Nat → List Oper → Prop
  | _, [] => True
  | i, o :: r => StepFC S N P D Gs F0 w0 i o ∧ StepsFC S N P D Gs F0 w0 (i + 1) r
theorem stepsFC_nil {S : Nat → Prop} {D : List (Option Tmp)} {Gs : List Pc} {F0 : Nat → Value} {w0 : World} {i : Nat} : StepsFC S N P D Gs F0 w0 i [] := trivial
theorem stepsFC_cons {S : Nat → Prop} {D : List (Option Tmp)} {Gs : List Pc} {F0 : Nat → Value} {w0 : World} {i : Nat} {o : Oper} {r : List Oper} (h : StepFC S N P D Gs F0 w0 i o) (k : StepsFC S N P D Gs F0 w0 (i + 1) r) : StepsFC S N P D Gs F0 w0 i (o :: r) := ⟨h, k⟩
theorem StepFC.one {S : Nat → Prop} {D : List (Option Tmp)} {Gs : List Pc} {F0 : Nat → Value} {w0 : World} {i : Nat} {o : Oper} (hg : o.guard = none)
    (h : ∀ (F : Nat → Value) (w : World), Kept S w0 w → (∀ t, Nat.blt t N = true → some t ∉ D → F t = F0 t) → DepsF D (ToldC w0.heap.size Gs i) F w o.after.toList → Yields P (ev F) o w (LeftC Gs D i (ev F) w)) : StepFC S N P D Gs F0 w0 i o := by
  intro F w h1 h2 h3 _
  rw [hg]
  exact h F w h1 h2 h3
theorem StepFC.old {S : Nat → Prop} {D : List (Option Tmp)} {Gs : List Pc} {F0 : Nat → Value} {w0 : World} {i p : Nat} {t : TypeId} {zs us : List Value} {o : Oper} (hg : o.guard = none) (he : Gs.getD i Pc.none = .told p t zs us)
    (h : ∀ (F : Nat → Value) (w : World), Kept S w0 w → (∀ t, Nat.blt t N = true → some t ∉ D → F t = F0 t) → DepsF D (ToldC w0.heap.size Gs i) F w o.after.toList → Stc w p t zs → Yields P (ev F) o w (fun _ w' => Stc w' p t us ∧ Kept (onB p) w w')) : StepFC S N P D Gs F0 w0 i o := by
  intro F w h1 h2 h3 h4
  rw [hg]
  refine (h F w h1 h2 h3 (h4 _ _ _ _ he)).mono' fun v w' hx => ?_
  unfold LeftC
  rw [he]; exact hx
theorem StepFC.when {S : Nat → Prop} {D : List (Option Tmp)} {Gs : List Pc} {F0 : Nat → Value} {w0 : World} {i : Nat} {o : Oper} (j : Nat) (want : Bool) (d : Tmp) (hg : o.guard = some (j, want)) (hd : D.getD j none = some d)
    (h : ∀ (F : Nat → Value) (w : World), Kept S w0 w → (∀ t, Nat.blt t N = true → some t ∉ D → F t = F0 t) → DepsF D (ToldC w0.heap.size Gs i) F w o.after.toList → F d = .bool want ∧ Yields P (ev F) o w (LeftC Gs D i (ev F) w)) : StepFC S N P D Gs F0 w0 i o := by
  intro F w h1 h2 h3 _
  rw [hg]
  exact ⟨d, hd, .inl (h F w h1 h2 h3)⟩
theorem upL_here {L : Nat → Bool} {i : Nat} : upL L i i = true := if_pos rfl
theorem upL_ne {L : Nat → Bool} {i j : Nat} (h : j ≠ i) : upL L i j = L j := if_neg h
theorem upV_here {v : Nat → Value} {i : Nat} {x : Value} : upV v i x i = x := if_pos rfl
theorem upV_ne {v : Nat → Value} {i j : Nat} {x : Value} (h : j ≠ i) : upV v i x j = v j := if_neg h
theorem getElem_getD {α : Type} {l : List α} {d x : α} {i : Nat} (h : l.getD i d = x) (hn : x ≠ d) : l[i]? = some x := by
  unfold List.getD at h
  cases hq : l[i]? with
  | none => rw [hq] at h; exact absurd h.symm hn
  | some y => rw [hq] at h; simpa using h
theorem JC.more {S : Nat → Prop} {os : List Oper} {D : List (Option Tmp)} {Gs : List Pc} {w0 w w' : World} {L : Nat → Bool} {v : Nat → Value} {i : Nat} {x : Value} (hwf : wfC os D Gs = true) (h : JC S w0 Gs L v w) (hi : L i = false) (k : Kept (fun _ => False) w w')
    (hnt : ∀ j, Gs.getD i Pc.none ≠ .turn j) (hnd : ∀ p t zs us, Gs.getD i Pc.none ≠ .told p t zs us) (hx : HoldC w0.heap.size (Gs.getD i Pc.none) (upL L i) x w') (hb : isBlk (Gs.getD i Pc.none) = true → ∃ q, x = .pointer (some ⟨q, 0, none⟩) ∧ w.heap.size ≤ q) : JC S w0 Gs (upL L i) (upV v i x) w' := by
  have hkeep : ∀ j, L j = true → HoldC w0.heap.size (Gs.getD j Pc.none) (upL L i) (v j) w' := by
    intro j hj
    have := h.holds j hj
    revert this
    cases e : Gs.getD j Pc.none with
    | eq y => exact id
    | turn y => exact id
    | told y1 y2 y3 y4 => exact id
    | blk t zs kk us =>
      rintro ⟨q, e1, e2, e3⟩
      have hki : kk ≠ i := fun e' => hnt j (by rw [← e']; exact wf_blk hwf e)
      refine ⟨q, e1, e2, ?_⟩
      rw [upL_ne hki]
      exact e3.all k id
  refine ⟨h.kept.trans k (fun _ _ x => x.elim), fun j p t zs us hj => ?_, fun j hj => ?_, fun a b hab ha hb' hA hB => ?_, fun a b ha hab => ?_⟩
  · have hji : j ≠ i := fun e => hnd p t zs us (by rw [← e]; exact hj)
    rw [upL_ne hji]
    exact (h.olds j p t zs us hj).all k id
  · by_cases hji : j = i
    · subst hji; rw [upV_here]; exact hx
    · rw [upL_ne hji] at hj; rw [upV_ne hji]; exact hkeep j hj
  · have hnew : ∀ c, c ≠ i → L c = true → isBlk (Gs.getD c Pc.none) = true → isBlk (Gs.getD i Pc.none) = true → v c ≠ x := by
      intro c _ hc hC hI e
      obtain ⟨q, e1, e2⟩ := hb hI
      have := h.holds c hc
      revert this hC
      cases e' : Gs.getD c Pc.none with
      | eq y => intro hC; cases hC
      | turn y => intro hC; cases hC
      | told y1 y2 y3 y4 => intro hC; cases hC
      | blk t zs kk us =>
        rintro - ⟨q', f1, f2, f3⟩
        rw [f1, e1] at e
        cases e
        have := f3.lt
        omega
    by_cases hai : a = i
    · subst hai
      have hba : b ≠ a := fun e => hab e.symm
      rw [upL_ne hba] at hb'
      rw [upV_here, upV_ne hba]
      exact fun e => hnew b hba hb' hB hA e.symm
    · rw [upL_ne hai] at ha
      rw [upV_ne hai]
      by_cases hbi : b = i
      · subst hbi; rw [upV_here]; exact hnew a hai ha hA hB
      · rw [upL_ne hbi] at hb'; rw [upV_ne hbi]; exact h.apart a b hab ha hb' hA hB
  · by_cases hai : a = i
    · subst hai; exact absurd hab (hnt b)
    · rw [upL_ne hai] at ha
      have := h.clos a b ha hab
      by_cases hbi : b = i
      · subst hbi; exact upL_here
      · rw [upL_ne hbi]; exact this
theorem JC.turned {S : Nat → Prop} {os : List Oper} {D : List (Option Tmp)} {Gs : List Pc} {w0 w w' : World} {L : Nat → Bool} {v : Nat → Value} {i j q : Nat} {x : Value} (hwf : wfC os D Gs = true) (hO : Olds S w0 Gs) (h : JC S w0 Gs L v w) (hi : L i = false) (hj : L j = true) (he : Gs.getD i Pc.none = .turn j)
    (hv : v j = .pointer (some ⟨q, 0, none⟩)) (hq : ∀ t zs us, Gs.getD j Pc.none = .blk t zs i us → Stc w' q t us) (k : Kept (onB q) w w') : JC S w0 Gs (upL L i) (upV v i x) w' := by
  have hw := wfC_at hwf i
  rw [he] at hw
  simp only [wfAt, Bool.and_eq_true] at hw
  have hn0 : w0.heap.size ≤ q := by
    have := h.holds j hj
    revert this
    obtain ⟨⟨h1, _⟩, _⟩ := hw
    cases e : Gs.getD j Pc.none with
    | eq y => rw [e] at h1; cases h1
    | turn y => rw [e] at h1; cases h1
    | told y1 y2 y3 y4 => rw [e] at h1; cases h1
    | blk t zs kk us =>
      rintro ⟨q', e1, e2, _⟩
      rw [hv] at e1; cases e1; exact e2
  have hjB : isBlk (Gs.getD j Pc.none) = true := by
    obtain ⟨⟨h1, _⟩, _⟩ := hw
    cases e : Gs.getD j Pc.none with
    | eq y => rw [e] at h1; cases h1
    | turn y => rw [e] at h1; cases h1
    | told y1 y2 y3 y4 => rw [e] at h1; cases h1
    | blk t zs kk us => rfl
  refine ⟨h.kept.trans k (fun b hb e => by cases e; omega), fun a p t zs us ha => ?_, fun a ha => ?_, fun a b hab ha hb hA hB => ?_, fun a b ha hab => ?_⟩
  · have hai : a ≠ i := fun e => by rw [e, he] at ha; cases ha
    rw [upL_ne hai]
    exact (h.olds a p t zs us ha).all k (fun e => by have := (hO.at a p t zs us ha).2.lt; rw [show p = q from e] at this; omega)
  · by_cases hai : a = i
    · subst hai; rw [upV_here, he]; exact trivial
    · rw [upL_ne hai] at ha; rw [upV_ne hai]
      have := h.holds a ha
      revert this
      cases e : Gs.getD a Pc.none with
      | eq y => exact id
      | turn y => exact id
      | told y1 y2 y3 y4 => exact id
      | blk t zs kk us =>
        rintro ⟨q', e1, e2, e3⟩
        have hk := wf_blk hwf e
        by_cases haj : a = j
        · subst haj
          have hki : kk = i := by
            obtain ⟨⟨h1, _⟩, _⟩ := hw
            rw [e] at h1; simpa using h1
          subst hki
          rw [hv] at e1; cases e1
          refine ⟨q, hv, hn0, ?_⟩
          rw [if_pos upL_here]
          exact hq t zs us e
        · have hki : kk ≠ i := fun e' => by rw [e', he] at hk; cases hk; exact haj rfl
          refine ⟨q', e1, e2, ?_⟩
          rw [upL_ne hki]
          refine e3.all k (fun e' => ?_)
          have := h.apart a j haj ha hj (by rw [e]; rfl) hjB
          rw [e1, hv] at this
          exact this (by rw [show q' = q from e'])
  · have hni : ∀ c, isBlk (Gs.getD c Pc.none) = true → c ≠ i := fun c hc e => by rw [e, he] at hc; cases hc
    rw [upV_ne (hni a hA), upV_ne (hni b hB)]
    rw [upL_ne (hni a hA)] at ha
    rw [upL_ne (hni b hB)] at hb
    exact h.apart a b hab ha hb hA hB
  · by_cases hai : a = i
    · subst hai
      rw [he] at hab; cases hab
      by_cases hji : j = a
      · subst hji; exact upL_here
      · rw [upL_ne hji]; exact hj
    · rw [upL_ne hai] at ha
      have := h.clos a b ha hab
      by_cases hbi : b = i
      · subst hbi; exact upL_here
      · rw [upL_ne hbi]; exact this
theorem JC.oldTurned {S : Nat → Prop} {os : List Oper} {D : List (Option Tmp)} {Gs : List Pc} {w0 w w' : World} {L : Nat → Bool} {v : Nat → Value} {i p : Nat} {t : TypeId} {zs us : List Value} {x : Value} (hwf : wfC os D Gs = true) (hO : Olds S w0 Gs) (h : JC S w0 Gs L v w) (he : Gs.getD i Pc.none = .told p t zs us)
    (hq : Stc w' p t us) (k : Kept (onB p) w w') : JC S w0 Gs (upL L i) (upV v i x) w' := by
  have hp := hO.at i p t zs us he
  have hni : ∀ c, isBlk (Gs.getD c Pc.none) = true → c ≠ i := fun c hc e => by rw [e, he] at hc; cases hc
  refine ⟨h.kept.trans k (fun b hb e => by cases e; exact hp.1), fun a p' t' zs' us' ha => ?_, fun a ha => ?_, fun a b hab ha hb hA hB => ?_, fun a b ha hab => ?_⟩
  · by_cases hai : a = i
    · subst hai
      rw [he] at ha; cases ha
      rw [if_pos upL_here]; exact hq
    · rw [upL_ne hai]
      exact (h.olds a p' t' zs' us' ha).all k (fun e => hO.ne a i p' t' zs' us' p t zs us hai ha he e)
  · by_cases hai : a = i
    · subst hai; rw [upV_here, he]; exact trivial
    · rw [upL_ne hai] at ha; rw [upV_ne hai]
      have := h.holds a ha
      revert this
      cases e : Gs.getD a Pc.none with
      | eq y => exact id
      | turn y => exact id
      | told y1 y2 y3 y4 => exact id
      | blk t zs kk us =>
        rintro ⟨q', e1, e2, e3⟩
        have hk := wf_blk hwf e
        have hki : kk ≠ i := fun e' => by rw [e', he] at hk; cases hk
        refine ⟨q', e1, e2, ?_⟩
        rw [upL_ne hki]
        exact e3.all k (fun e' => by have := hp.2.lt; rw [show q' = p from e'] at e2; omega)
  · rw [upV_ne (hni a hA), upV_ne (hni b hB)]
    rw [upL_ne (hni a hA)] at ha
    rw [upL_ne (hni b hB)] at hb
    exact h.apart a b hab ha hb hA hB
  · have hai : a ≠ i := fun e => by rw [e, he] at hab; cases hab
    rw [upL_ne hai] at ha
    have := h.clos a b ha hab
    by_cases hbi : b = i
    · subst hbi; exact upL_here
    · rw [upL_ne hbi]; exact this
theorem StepFC.step {S : Nat → Prop} {os : List Oper} {D : List (Option Tmp)} {Gs : List Pc} {w0 : World} {i : Nat} {o : Oper} {a0 : Act} (hwf : wfC os D Gs = true) (hO : Olds S w0 Gs) (ho : os[i]? = some o) (ha : Fr N F a0) (h : StepFC S N P D Gs F w0 i o) : StepJ os P D (JC S w0 Gs) a0 i o := by
  intro L v a w hJ hi hdone hout hhere _
  have hdeps : DepsF D (ToldC w0.heap.size Gs i) (fun t => a.tmps.getD t undef) w o.after.toList := by
    refine Deps.toF (Deps.mk fun e he hb d hd => ?_)
    have hl := hdone e he hb
    have hDe := getElem_getD hd (by simp)
    have hv := hhere e.on d hl hDe
    rw [hv]
    have := hJ.holds e.on hl
    unfold ToldC
    revert this
    cases e' : Gs.getD e.on Pc.none with
    | eq y => exact id
    | turn y => exact id
    | told y1 y2 y3 y4 => exact id
    | blk t zs kk us =>
      rintro ⟨q, e1, e2, e3⟩ hk
      refine ⟨q, e1, e2, ?_⟩
      subst hk
      rw [hi, if_neg (by simp)] at e3
      exact e3
  have h1 := h (fun t => a.tmps.getD t undef) w hJ.kept (fun t hb ht => by rw [← ha.at' t hb]; exact hout t ht) hdeps (fun p t zs us e => by have := hJ.olds i p t zs us e; rw [hi, if_neg (by simp)] at this; exact this)
  rw [← eval_ev a] at h1
  have hleft : ∀ x w', LeftC Gs D i a.eval w x w' → JC S w0 Gs (upL L i) (upV v i x) w' := by
    intro x w' hx
    unfold LeftC at hx
    cases e : Gs.getD i Pc.none with
    | eq y =>
      rw [e] at hx
      exact hJ.more hwf hi hx.2 (fun j hj => by rw [e] at hj; cases hj) (fun _ _ _ _ hj => by rw [e] at hj; cases hj) (by rw [e]; exact hx.1) (by rw [e]; intro hb; cases hb)
    | blk t zs kk us =>
      rw [e] at hx
      obtain ⟨q, e1, e2, e3, e4⟩ := hx
      have hk := wf_blk hwf e
      have hki : kk ≠ i := fun e' => by rw [e', e] at hk; cases hk
      have hLk : L kk = false := by
        cases hq : L kk with
        | false => rfl
        | true => have := hJ.clos kk i hq hk; rw [hi] at this; cases this
      refine hJ.more hwf hi e4 (fun j hj => by rw [e] at hj; cases hj) (fun _ _ _ _ hj => by rw [e] at hj; cases hj) ?_ (fun _ => ⟨q, e1, e2⟩)
      rw [e]
      refine ⟨q, e1, Nat.le_trans hJ.kept.size e2, ?_⟩
      rw [upL_ne hki, hLk, if_neg (by simp)]
      exact e3
    | told p t zs us =>
      rw [e] at hx
      exact hJ.oldTurned hwf hO e hx.1 hx.2
    | turn j =>
      rw [e] at hx
      obtain ⟨d, q, hd, e1, e2, e3⟩ := hx
      have hw := wfC_at hwf i
      rw [e] at hw
      simp only [wfAt, Bool.and_eq_true, ho] at hw
      obtain ⟨ed, hed, hb, hon⟩ := waitsOn_iff.1 hw.2
      have hLj := hdone ed hed hb
      rw [hon] at hLj
      have hv := hhere j d hLj (getElem_getD hd (by simp))
      exact hJ.turned hwf hO hi hLj e (by rw [← hv]; exact e1) e2 e3
  unfold goes
  cases hg : o.guard with
  | none => rw [hg] at h1; exact ⟨fun _ => h1.mono' hleft, fun e => by cases e⟩
  | some g =>
    obtain ⟨j, want⟩ := g
    rw [hg] at h1
    obtain ⟨d, hd, h1⟩ := h1
    simp only [hd]
    have hev : a.eval (.tmp d) = a.tmps.getD d undef := rfl
    rcases h1 with ⟨hv, hy⟩ | ⟨hv, hs⟩
    · rw [hev, hv]; exact ⟨fun _ => hy.mono' hleft, fun e => by simp at e⟩
    · refine ⟨fun e => ?_, fun _ => hJ.more hwf hi (Kept.refl _ _) (fun j hj => by rw [hs] at hj; cases hj) (fun _ _ _ _ hj => by rw [hs] at hj; cases hj) (by rw [hs]; rfl) (by rw [hs]; intro hb; cases hb)⟩
      rcases hv with hv | hv
      · rw [hev, hv] at e; cases want <;> simp at e
      · rw [hev, hv] at e; simp [undef] at e
theorem StepsFC.steps {S : Nat → Prop} {all : List Oper} {D : List (Option Tmp)} {Gs : List Pc} {w0 : World} {a0 : Act} (hwf : wfC all D Gs = true) (hO : Olds S w0 Gs) (ha : Fr N F a0) : ∀ {os : List Oper} {i : Nat}, (∀ k o, os[k]? = some o → all[i + k]? = some o) → StepsFC S N P D Gs F w0 i os → StepsJ all P D (JC S w0 Gs) a0 i os := by
  intro os
  induction os with
  | nil => intro i _ _; exact trivial
  | cons o r ih =>
    intro i hat h
    exact ⟨h.1.step hwf hO (hat 0 o rfl) ha, ih (fun k o' hk => by have := hat (k + 1) o' hk; rwa [show i + (k + 1) = i + 1 + k by omega] at this) h.2⟩
def EndC (n0 : Nat) (Gs : List Pc) (i : Nat) (v : Value) (w : World) : Prop := match Gs.getD i Pc.none with
  | .eq x => v = x
  | .turn _ => True
  | .told p t _ us => Stc w p t us
  | .blk t _ _ us => ∃ q, v = .pointer (some ⟨q, 0, none⟩) ∧ n0 ≤ q ∧ Stc w q t us
theorem wq_cells {S : Nat → Prop} {id : Nat} {ops : Array Oper} (D : List (Option Tmp)) (Gs : List Pc) (hm : P.follows .mixedOrders = true) (hpl : plain N 0 D ops.toList = true) (hwf : wfC ops.toList D Gs = true) (hsz : Gs.length = ops.size) (hO : Olds S w Gs) (hsteps : StepsFC S N P D Gs F w 0 ops.toList)
    (hend : ∀ (v : Nat → Value) (F' : Nat → Value) (w' : World), Kept S w w' → (∀ i, i < ops.size → EndC w.heap.size Gs i (v i) w') → (∀ i j, i ≠ j → i < ops.size → j < ops.size → isBlk (Gs.getD i Pc.none) = true → isBlk (Gs.getD j Pc.none) = true → v i ≠ v j) → (∀ t, F' t = putsF v 0 D F t) → Q .normal F' w') : wq none P N (.region id ops true) Q F w := by
  intro a ha
  refine wpIn_wide.2 ?_
  refine wp_region_inv D (JC S w Gs) hm (by rw [ha.size]; exact hpl) ⟨(Kept.refl _ w).drew, fun i p t zs us e => (by rw [if_neg (by simp)]; exact (hO.at i p t zs us e).2.all ((Kept.refl (fun _ => False) w).drew) (fun z => z)), fun _ e => (by cases e), fun _ _ _ e => (by cases e), fun _ _ e => (by cases e)⟩ (hsteps.steps hwf hO ha (fun k o hk => by rw [Nat.zero_add]; exact hk)) fun L v w' hJ hL => ?_
  refine ⟨putsF v 0 D F, putAll_fr v D 0 F a ha (plain_fits hpl), hend v _ w' hJ.kept (fun i hi => ?_) (fun i j hij hi hj hI hJ' => hJ.apart i j hij (hL i hi) (hL j hj) hI hJ') fun _ => rfl⟩
  have := hJ.holds i (hL i hi)
  unfold EndC
  revert this
  cases e : Gs.getD i Pc.none with
  | eq y => exact fun z => z
  | turn y => exact fun z => z
  | told p t zs us =>
    intro _
    have := hJ.olds i p t zs us e
    rw [if_pos (hL i hi)] at this
    exact this
  | blk t zs kk us =>
    rintro ⟨q, e1, e2, e3⟩
    have hk := wf_blk hwf e
    have hkk : kk < ops.size := by
      rw [← hsz]
      rcases Nat.lt_or_ge kk Gs.length with h' | h'
      · exact h'
      · have : Gs.getD kk Pc.none = Pc.none := by simp [List.getD, List.getElem?_eq_none h']
        rw [this] at hk; cases hk
    rw [if_pos (hL kk hkk)] at e3
    exact ⟨q, e1, e2, e3⟩
end
end Go.Proofs.YtknjpdcpmpfklaaGreatDoor
set_option maxRecDepth 100000
namespace Go.Proofs.YtknjpdcpmpfklaaGreatDoor
open Go.RowKit
def sameVec (a b c d : Int) : Bool := decide (a = c) && decide (b = d)
theorem sameVec_self (a b : Int) : sameVec a b a b = true := by unfold sameVec; simp
theorem Tryz.vecFields : (Tryz.prog.fieldsOf 67).toList.map (fun f => (f.name, f.type, f.offset)) = [("X", 3, 0), ("Y", 3, 1)] := by kernel_rfl
theorem part_int (w : World) (xs : Array Value) (i : Nat) (z : Int) (h : xs[i]? = some (.int .i64 z)) : (part 3 xs i).run Tryz.prog w = .ok (.int .i64 z) w := by
  simp [part, isAgg, run_underlying Tryz.underlying3, h]
theorem run_same_vec (w : World) (a b c d : Int) : (Op.equalIn 10000 67 (.agg #[.int .i64 a, .int .i64 b]) (.agg #[.int .i64 c, .int .i64 d])).run Tryz.prog w = .ok (sameVec a b c d) w := by
  rw [run_equalIn_struct w 9999 _ _ _ (by kernel_rfl) (by kernel_rfl)]
  have hf := Tryz.vecFields
  generalize (Tryz.prog.fieldsOf 67).toList = fs at hf
  have hlen : fs.length = 2 := by simpa using congrArg List.length hf
  have p1 := part_int w #[.int .i64 a, .int .i64 b] 0 a rfl
  have p2 := part_int w #[.int .i64 c, .int .i64 d] 0 c rfl
  have p3 := part_int w #[.int .i64 a, .int .i64 b] 1 b rfl
  have p4 := part_int w #[.int .i64 c, .int .i64 d] 1 d rfl
  match fs, hlen with
  | [f0, f1], _ =>
    simp only [List.map_cons, List.map_nil, List.cons.injEq, Prod.mk.injEq, and_true] at hf
    obtain ⟨⟨n0, t0, o0⟩, ⟨n1, t1, o1⟩⟩ := hf
    simp only [Op.eqFields, n0, t0, o0, n1, t1, o1]
    rw [if_pos (by decide), if_pos (by decide)]
    simp only [Sem.run_bind, p1, p2, Result.andThen_ok, run_equalIn_int w 9998 3 .i64 .i64 _ _ Tryz.underlying3]
    unfold sameVec
    by_cases h1 : a = c
    · subst h1
      simp only [beq_self_eq_true, Bool.not_true, Bool.false_eq_true, if_false, Sem.run_bind, p3, p4, Result.andThen_ok, run_equalIn_int w 9998 3 .i64 .i64 _ _ Tryz.underlying3]
      by_cases h2 : b = d
      · subst h2; simp
      · have : (b == d) = false := by simpa using h2
        simp [this, h2]
    · have : (a == c) = false := by simpa using h1
      simp [this, h1]
theorem Tryz.guard_vec : Tryz.prog.eqGuardType Tryz.prog.depth 67 = false := by kernel_rfl
section
variable {ρ : Operand → Value} {o : Oper} {w : World} {R : Value → World → Prop}
theorem y_eqlVec {t' : TypeId} {x y : Operand} {a b c d : Int} {q : Bool} (ho : o.op = .binOp .eql 67 x y t') (hx : ρ x = .agg #[.int .i64 a, .int .i64 b]) (hy : ρ y = .agg #[.int .i64 c, .int .i64 d]) (hr : sameVec a b c d = q) (h : R (.bool q) w) : Yields Tryz.prog ρ o w R :=
  y_of (v := .bool (sameVec a b c d)) (w' := w) (by simp only [execOp, ho, hx, hy, Sem.run_bind, run_eqGuard_agg w .eql _ _ _ _ _ Tryz.guard_vec, run_eql_struct, run_same_vec, Result.andThen_ok, Sem.run_pure]) (by rw [hr]; exact h)
end
def Cin (w : World) (T : Nat → Prop) (p : Nat) (n : Int) : Prop := T = onB p ∧ Cel w p 3 (.int .i64 n)
theorem Cin.live {w : World} {T : Nat → Prop} {p : Nat} {n : Int} (h : Cin w T p n) : Live w T := by
  obtain ⟨rfl, h⟩ := h; exact onB_live h.lt
theorem Cin.all {S : Nat → Prop} {w w' : World} {T : Nat → Prop} {p : Nat} {n : Int} (h : Cin w T p n) (k : Kept S w w') (ha : Apart T S) : Cin w' T p n := by
  obtain ⟨rfl, h⟩ := h; exact ⟨rfl, h.all k (ha p rfl)⟩
theorem Cin.cells {w : World} {T : Nat → Prop} {p : Nat} {n : Int} (h : Cin w T p n) : Cells w T := by
  obtain ⟨rfl, h⟩ := h; exact h.cells
theorem Cin.row {A B : World} {row : Option Nat} {m p : Nat} {T : Nat → Prop} {n : Int} (h : Cin A T p n) (hg : A.grownBy B row) (hr : RowNew m A row) : Cin B T p n := h.all (kept_row hg) (h.cells.apart hr)
theorem and_1 : ∀ k : Fin 513, bits .and .i64 ((k.1 : Int) - 256) 1 = ((k.1 : Int) - 256) % 2 := by decide +kernel
theorem and_one {u : Int} (h : -256 ≤ u ∧ u ≤ 256) : bits .and .i64 u 1 = u % 2 := by
  have := and_1 ⟨(u + 256).toNat, by omega⟩
  simp only at this
  rwa [show (((u + 256).toNat : Nat) : Int) - 256 = u by omega] at this
theorem mo_clamped (n a b : Int) (w0 : World) :
  Calls Tryz.prog 138 #[.int .i64 (n), .int .i64 (a), .int .i64 (b)] w0 fun e w' => e = .returned (.int .i64 (max a (min n b))) ∧ Kept (fun _ => False) w0 w' := by
 refine calls_wq (args := [iv n, iv a, iv b]) 12 Tryz.func138 rfl rfl (Nat.le_of_ble_eq_true rfl) ?_
 have K0 := Kept.refl (fun _ => False) w0
 refine wq_seq (wq_region (wl_v (iv 0) rfl rfl (y_asg rfl rfl rr) (wl_nil fun F1 hF2 => ?_)))
 have s3 : F1 0 = iv n := (hF2 0).trans rfl
 have s4 : F1 1 = iv a := (hF2 1).trans rfl
 have s5 : F1 2 = iv b := (hF2 2).trans rfl
 have s6 : F1 12 = undef := (hF2 12).trans rfl
 clear hF2
 refine then_normal (wq_seq (wq_region (wl_mv rfl rfl rfl s4 (wl_mv rfl rfl rfl s3 (wl_mv rfl rfl rfl s5 (wl_v (iv (min n b)) rfl rfl (y_minR rfl rfl rfl rfl rr) (wl_v (iv (max a (min n b))) rfl rfl (y_maxR rfl rfl rfl rfl rr) (wl_v (iv (max a (min n b))) rfl rfl (y_asg rfl rfl rr) (wl_nil fun F7 hF8 => ?_)))))))))
 have s9 := (hF8 12).trans s6
 have s10 : F7 6 = iv (max a (min n b)) := (hF8 6).trans rfl
 clear hF8
 refine then_normal (wq_ret ?_)
 exact end_tmp (v := iv (max a (min n b))) s9 rfl rfl s10 ⟨rfl, K0⟩
theorem mo_mayGo (n : Int) (w0 : World) :
  Calls Tryz.prog 134 #[.int .i64 (n)] w0 fun e w' => e = .returned (.bool (decide (-31 ≤ n ∧ n ≤ 31))) ∧ Kept (fun _ => False) w0 w' := by
 refine calls_wq (args := [iv n]) 9 Tryz.func134 rfl rfl (Nat.le_of_ble_eq_true rfl) ?_
 have K0 := Kept.refl (fun _ => False) w0
 refine wq_seq (wq_region (wl_v (.bool false) rfl rfl (y_asg rfl rfl rr) (wl_nil fun F1 hF2 => ?_)))
 have s3 : F1 0 = iv n := (hF2 0).trans rfl
 have s4 : F1 9 = undef := (hF2 9).trans rfl
 clear hF2
 refine then_normal (wq_seq ?_)
 by_cases d5 : (-31) ≤ n
 ·skip
  refine wq_region (wl_mv rfl rfl rfl s3 (wl_v (.bool true) rfl rfl (y_geq rfl rfl rfl (decide_eq_true d5) rr) (wl_v (.bool true) rfl rfl (y_mov rfl rfl rr) (wl_vw (iv n) 2 true 5 rfl rfl rfl rfl rfl (y_mov rfl s3 rr) (wl_vw (.bool (decide (n ≤ 31))) 2 true 5 rfl rfl rfl rfl rfl (y_leq rfl rfl rfl rfl rr) (wl_v (.bool (decide (n ≤ 31))) rfl rfl (y_pickT rfl rfl rfl rr) (wl_v (.bool (decide (n ≤ 31))) rfl rfl (y_asg rfl rfl rr) (wl_nil fun F6 hF7 => ?_))))))))
  have s8 := (hF7 9).trans s4
  have s9 : F6 2 = .bool (decide (n ≤ 31)) := (hF7 2).trans rfl
  clear hF7
  refine then_normal (wq_ret ?_)
  exact end_tmp (v := .bool (decide (n ≤ 31))) s8 rfl rfl s9 ⟨(retB (by first | exact (decide_eq_true (by omega)).symm | exact (decide_eq_false (by omega)).symm | exact decide_eq_decide.2 (by omega))), K0⟩
 ·skip
  refine wq_region (wl_mv rfl rfl rfl s3 (wl_v (.bool false) rfl rfl (y_geq rfl rfl rfl (decide_eq_false d5) rr) (wl_v (.bool false) rfl rfl (y_mov rfl rfl rr) (wl_unless 2 true 5 rfl rfl rfl (Or.inl rfl) rfl (wl_unless 2 true 5 rfl rfl rfl (Or.inl rfl) rfl (wl_v (.bool false) rfl rfl (y_pickF rfl rfl rfl rr) (wl_v (.bool false) rfl rfl (y_asg rfl rfl rr) (wl_nil fun F10 hF11 => ?_))))))))
  have s12 := (hF11 9).trans s4
  have s13 : F10 2 = .bool false := (hF11 2).trans rfl
  clear hF11
  refine then_normal (wq_ret ?_)
  exact end_tmp (v := .bool false) s12 rfl rfl s13 ⟨(retB (by first | exact (decide_eq_true (by omega)).symm | exact (decide_eq_false (by omega)).symm | exact decide_eq_decide.2 (by omega))), K0⟩
theorem mo_mayPlace (n : Int) (w0 : World) :
  Calls Tryz.prog 135 #[.int .i64 (n)] w0 fun e w' => e = .returned (.bool (decide (0 ≤ n ∧ n ≤ 64))) ∧ Kept (fun _ => False) w0 w' := by
 refine calls_wq (args := [iv n]) 9 Tryz.func135 rfl rfl (Nat.le_of_ble_eq_true rfl) ?_
 have K0 := Kept.refl (fun _ => False) w0
 refine wq_seq (wq_region (wl_v (.bool false) rfl rfl (y_asg rfl rfl rr) (wl_nil fun F1 hF2 => ?_)))
 have s3 : F1 0 = iv n := (hF2 0).trans rfl
 have s4 : F1 9 = undef := (hF2 9).trans rfl
 clear hF2
 refine then_normal (wq_seq ?_)
 by_cases d5 : 0 ≤ n
 ·skip
  refine wq_region (wl_mv rfl rfl rfl s3 (wl_v (.bool true) rfl rfl (y_geq rfl rfl rfl (decide_eq_true d5) rr) (wl_v (.bool true) rfl rfl (y_mov rfl rfl rr) (wl_vw (iv n) 2 true 5 rfl rfl rfl rfl rfl (y_mov rfl s3 rr) (wl_vw (.bool (decide (n ≤ 64))) 2 true 5 rfl rfl rfl rfl rfl (y_leq rfl rfl rfl rfl rr) (wl_v (.bool (decide (n ≤ 64))) rfl rfl (y_pickT rfl rfl rfl rr) (wl_v (.bool (decide (n ≤ 64))) rfl rfl (y_asg rfl rfl rr) (wl_nil fun F6 hF7 => ?_))))))))
  have s8 := (hF7 9).trans s4
  have s9 : F6 2 = .bool (decide (n ≤ 64)) := (hF7 2).trans rfl
  clear hF7
  refine then_normal (wq_ret ?_)
  exact end_tmp (v := .bool (decide (n ≤ 64))) s8 rfl rfl s9 ⟨(retB (by first | exact (decide_eq_true (by omega)).symm | exact (decide_eq_false (by omega)).symm | exact decide_eq_decide.2 (by omega))), K0⟩
 ·skip
  refine wq_region (wl_mv rfl rfl rfl s3 (wl_v (.bool false) rfl rfl (y_geq rfl rfl rfl (decide_eq_false d5) rr) (wl_v (.bool false) rfl rfl (y_mov rfl rfl rr) (wl_unless 2 true 5 rfl rfl rfl (Or.inl rfl) rfl (wl_unless 2 true 5 rfl rfl rfl (Or.inl rfl) rfl (wl_v (.bool false) rfl rfl (y_pickF rfl rfl rfl rr) (wl_v (.bool false) rfl rfl (y_asg rfl rfl rr) (wl_nil fun F10 hF11 => ?_))))))))
  have s12 := (hF11 9).trans s4
  have s13 : F10 2 = .bool false := (hF11 2).trans rfl
  clear hF11
  refine then_normal (wq_ret ?_)
  exact end_tmp (v := .bool false) s12 rfl rfl s13 ⟨(retB (by first | exact (decide_eq_true (by omega)).symm | exact (decide_eq_false (by omega)).symm | exact decide_eq_decide.2 (by omega))), K0⟩
theorem mo_mean (s m : Int) (w0 : World) (hs : 0 ≤ s ∧ s ≤ 4000) (hm : m = 1 ∨ m = 2 ∨ m = 4) :
  Calls Tryz.prog 137 #[.int .i64 (s), .int .i64 (m)] w0 fun e w' => e = .returned (.int .i64 ((s + m / 2) / m)) ∧ Kept (fun _ => False) w0 w' := by
 refine calls_wq (args := [iv s, iv m]) 11 Tryz.func137 rfl rfl (Nat.le_of_ble_eq_true rfl) ?_
 have K0 := Kept.refl (fun _ => False) w0
 refine wq_seq (wq_region (wl_v (iv 0) rfl rfl (y_asg rfl rfl rr) (wl_nil fun F1 hF2 => ?_)))
 have s3 : F1 0 = iv s := (hF2 0).trans rfl
 have s4 : F1 1 = iv m := (hF2 1).trans rfl
 have s5 : F1 11 = undef := (hF2 11).trans rfl
 clear hF2
 refine then_normal (wq_seq (wq_region (wl_mv rfl rfl rfl s3 (wl_mv rfl rfl rfl s4 (wl_v (iv (m / 2)) rfl rfl (y_quo rfl rfl rfl (by first | decide | omega) (i64_i (tdiv2 (by omega)) (by omega)) rr) (wl_v (iv (s + m / 2)) rfl rfl (y_add rfl rfl rfl (i64_i rfl (by omega)) rr) (wl_mv rfl rfl rfl s4 (wl_v (iv ((s + m / 2) / m)) rfl rfl (y_quo rfl rfl rfl (by first | decide | omega) (i64_i (Int.tdiv_eq_ediv_of_nonneg (by omega)) (by rcases hm with rfl | rfl | rfl <;> omega)) rr) (wl_v (iv ((s + m / 2) / m)) rfl rfl (y_asg rfl rfl rr) (wl_nil fun F6 hF7 => ?_))))))))))
 have s8 := (hF7 11).trans s5
 have s9 : F6 4 = iv ((s + m / 2) / m) := (hF7 4).trans rfl
 clear hF7
 refine then_normal (wq_ret ?_)
 exact end_tmp (v := iv ((s + m / 2) / m)) s8 rfl rfl s9 ⟨rfl, K0⟩
theorem mo_check (X Y : Int) (w0 : World) :
  Calls Tryz.prog 103 #[.agg #[.int .i64 (X), .int .i64 (Y)]] w0 fun e w' => e = .returned (.int .i64 (vecE X Y)) ∧ Kept (fun _ => False) w0 w' := by
 refine calls_wq (args := [.agg #[iv X, iv Y]]) 13 Tryz.func103 rfl rfl (Nat.le_of_ble_eq_true rfl) ?_
 have K0 := Kept.refl (fun _ => False) w0
 refine wq_seq (wq_region (wl_box_stc (vs := [iv X, iv Y]) rfl rfl rfl rfl fun p1 w2 B4 g5 k3 => ?_))
 have K7 := K0.tr k3
 refine wl_v (iv 0) rfl rfl (y_asg rfl rfl rr) (wl_nil fun F8 hF9 => ?_)
 have s10 : F8 13 = undef := (hF9 13).trans rfl
 have s11 : F8 1 = pt p1 0 := (hF9 1).trans rfl
 clear hF9
 refine then_normal (wq_seq (wq_seq ?_))
 by_cases d12 : -31 ≤ X ∧ X ≤ 31
 ·skip
  by_cases d13 : -31 ≤ Y ∧ Y ≤ 31
  ·skip
   refine wq_region (wl_v (pt p1 0) rfl rfl (y_fieldR (n := 1) rfl s11 Tryz.underlying67 rfl (by kernel_rfl) (by decide) rfl rr) (wl_v (iv X) rfl rfl (y_ld_stc rfl rfl Tryz.underlying3 B4 rfl rfl rr) (wl_call (R := fun v_ w_ => v_ = .bool true ∧ Kept (fun _ => False) w2 w_) rfl rfl (y_cs rfl rfl rfl (fun _ _ => by kernel_rfl) (ev_func _) (vsC rfl vsN) (mo_mayGo X  _   ) (fun e_ w_ h_ => ⟨_, h_.1, (congrArg Value.bool (decide_eq_true d12)), h_.2⟩)) ?_)))
   rintro _ w14 ⟨rfl, k15⟩
   have B16 := B4.all k15 id
   have K17 := K7.tr k15
   refine wl_v (.bool false) rfl rfl (y_not rfl rfl rfl rr) (wl_v (.bool false) rfl rfl (y_mov rfl rfl rr) (wl_vw (pt p1 1) 4 false 7 rfl rfl rfl rfl rfl (y_fieldR (n := 1) rfl s11 Tryz.underlying67 rfl (by kernel_rfl) (by decide) rfl rr) (wl_vw (iv Y) 4 false 7 rfl rfl rfl rfl rfl (y_ld_stc rfl rfl Tryz.underlying3 B16 rfl rfl rr) (wl_callw (R := fun v_ w_ => v_ = .bool true ∧ Kept (fun _ => False) w14 w_) 4 false 7 rfl rfl rfl rfl rfl (y_cs rfl rfl rfl (fun _ _ => by kernel_rfl) (ev_func _) (vsC rfl vsN) (mo_mayGo Y  _   ) (fun e_ w_ h_ => ⟨_, h_.1, (congrArg Value.bool (decide_eq_true d13)), h_.2⟩)) ?_))))
   rintro _ w18 ⟨rfl, k19⟩
   have K21 := K17.tr k19
   refine wl_vw (.bool false) 4 false 7 rfl rfl rfl rfl rfl (y_not rfl rfl rfl rr) (wl_v (.bool false) rfl rfl (y_pickF rfl rfl rfl rr) (wl_nil fun F22 hF23 => ?_))
   have s24 := (hF23 13).trans s10
   have s25 : F22 12 = .bool false := (hF23 12).trans rfl
   clear hF23
   refine then_normal ?_
   refine wq_cond (t := false) s25 (fun e => by cases e) (fun _ => ?_)
   refine wq_skip (then_normal (wq_seq (wq_region (wl_v (iv 0) rfl rfl (y_asg rfl rfl rr) (wl_nil fun F26 hF27 => ?_)))))
   have s28 := (hF27 13).trans s24
   have s29 : F26 2 = iv 0 := (hF27 2).trans rfl
   clear hF27
   refine then_normal (wq_ret ?_)
   exact end_tmp (v := iv 0) s28 rfl rfl s29 ⟨(by first | rw [vecE_yes (by unfold vecOk; omega)] | rw [vecE_no (by unfold vecOk; omega)]), K21⟩
  ·skip
   refine wq_region (wl_v (pt p1 0) rfl rfl (y_fieldR (n := 1) rfl s11 Tryz.underlying67 rfl (by kernel_rfl) (by decide) rfl rr) (wl_v (iv X) rfl rfl (y_ld_stc rfl rfl Tryz.underlying3 B4 rfl rfl rr) (wl_call (R := fun v_ w_ => v_ = .bool true ∧ Kept (fun _ => False) w2 w_) rfl rfl (y_cs rfl rfl rfl (fun _ _ => by kernel_rfl) (ev_func _) (vsC rfl vsN) (mo_mayGo X  _   ) (fun e_ w_ h_ => ⟨_, h_.1, (congrArg Value.bool (decide_eq_true d12)), h_.2⟩)) ?_)))
   rintro _ w30 ⟨rfl, k31⟩
   have B32 := B4.all k31 id
   have K33 := K7.tr k31
   refine wl_v (.bool false) rfl rfl (y_not rfl rfl rfl rr) (wl_v (.bool false) rfl rfl (y_mov rfl rfl rr) (wl_vw (pt p1 1) 4 false 7 rfl rfl rfl rfl rfl (y_fieldR (n := 1) rfl s11 Tryz.underlying67 rfl (by kernel_rfl) (by decide) rfl rr) (wl_vw (iv Y) 4 false 7 rfl rfl rfl rfl rfl (y_ld_stc rfl rfl Tryz.underlying3 B32 rfl rfl rr) (wl_callw (R := fun v_ w_ => v_ = .bool false ∧ Kept (fun _ => False) w30 w_) 4 false 7 rfl rfl rfl rfl rfl (y_cs rfl rfl rfl (fun _ _ => by kernel_rfl) (ev_func _) (vsC rfl vsN) (mo_mayGo Y  _   ) (fun e_ w_ h_ => ⟨_, h_.1, (congrArg Value.bool (decide_eq_false d13)), h_.2⟩)) ?_))))
   rintro _ w34 ⟨rfl, k35⟩
   have K37 := K33.tr k35
   refine wl_vw (.bool true) 4 false 7 rfl rfl rfl rfl rfl (y_not rfl rfl rfl rr) (wl_v (.bool true) rfl rfl (y_pickF rfl rfl rfl rr) (wl_nil fun F38 hF39 => ?_))
   have s40 := (hF39 13).trans s10
   have s41 : F38 12 = .bool true := (hF39 12).trans rfl
   clear hF39
   refine then_normal ?_
   refine wq_cond (t := true) s41 (fun _ => ?_) (fun e => by cases e)
   refine wq_seq (wq_region (wl_v (iv 90) rfl rfl (y_asg rfl rfl rr) (wl_nil fun F42 hF43 => ?_)))
   have s44 := (hF43 13).trans s40
   have s45 : F42 2 = iv 90 := (hF43 2).trans rfl
   clear hF43
   refine then_normal (wq_ret (then_ret ?_))
   exact end_tmp (v := iv 90) s44 rfl rfl s45 ⟨(by first | rw [vecE_yes (by unfold vecOk; omega)] | rw [vecE_no (by unfold vecOk; omega)]), K37⟩
 ·skip
  refine wq_region (wl_v (pt p1 0) rfl rfl (y_fieldR (n := 1) rfl s11 Tryz.underlying67 rfl (by kernel_rfl) (by decide) rfl rr) (wl_v (iv X) rfl rfl (y_ld_stc rfl rfl Tryz.underlying3 B4 rfl rfl rr) (wl_call (R := fun v_ w_ => v_ = .bool false ∧ Kept (fun _ => False) w2 w_) rfl rfl (y_cs rfl rfl rfl (fun _ _ => by kernel_rfl) (ev_func _) (vsC rfl vsN) (mo_mayGo X  _   ) (fun e_ w_ h_ => ⟨_, h_.1, (congrArg Value.bool (decide_eq_false d12)), h_.2⟩)) ?_)))
  rintro _ w46 ⟨rfl, k47⟩
  have K49 := K7.tr k47
  refine wl_v (.bool true) rfl rfl (y_not rfl rfl rfl rr) (wl_v (.bool true) rfl rfl (y_mov rfl rfl rr) (wl_unless 4 false 7 rfl rfl rfl (Or.inl rfl) rfl (wl_unless 4 false 7 rfl rfl rfl (Or.inl rfl) rfl (wl_unless 4 false 7 rfl rfl rfl (Or.inl rfl) rfl (wl_unless 4 false 7 rfl rfl rfl (Or.inl rfl) rfl (wl_v (.bool true) rfl rfl (y_pickT rfl rfl rfl rr) (wl_nil fun F50 hF51 => ?_)))))))
  have s52 := (hF51 13).trans s10
  have s53 : F50 12 = .bool true := (hF51 12).trans rfl
  clear hF51
  refine then_normal ?_
  refine wq_cond (t := true) s53 (fun _ => ?_) (fun e => by cases e)
  refine wq_seq (wq_region (wl_v (iv 90) rfl rfl (y_asg rfl rfl rr) (wl_nil fun F54 hF55 => ?_)))
  have s56 := (hF55 13).trans s52
  have s57 : F54 2 = iv 90 := (hF55 2).trans rfl
  clear hF55
  refine then_normal (wq_ret (then_ret ?_))
  exact end_tmp (v := iv 90) s56 rfl rfl s57 ⟨(by first | rw [vecE_yes (by unfold vecOk; omega)] | rw [vecE_no (by unfold vecOk; omega)]), K49⟩
theorem mo_both (a b : Nat → Int) (w0 : World) :
  Calls Tryz.prog 111 #[blkV (a), blkV (b)] w0 fun e w' => e = .returned (blkV (bothB a b)) ∧ Kept (fun _ => False) w0 w' := by
 refine calls_wq (args := [blkV a, blkV b]) 23 Tryz.func111 rfl rfl (Nat.le_of_ble_eq_true rfl) ?_
 have K0 := Kept.refl (fun _ => False) w0
 refine wq_seq (wq_region (wl_box_blk rfl rfl rfl rfl fun p1 w2 e5 B3 k4 => ?_))
 have g6 := onB_new (Nat.le_of_eq e5.symm)
 have gr7 : Grew w0 noB (onB p1) := Grew.new K0 g6
 clear e5 g6
 have K8 := K0.tr k4
 refine wl_box_blk rfl rfl rfl rfl fun p9 w10 e13 B11 k12 => ?_
 have g14 := onB_new (Nat.le_of_eq e13.symm)
 have ap16 : Apart (onB p9) (onB p1) := Apart.new g14 (onB_live B3.lt)
 clear e13 g14
 have B17 := B3.all k12 id
 have K18 := K8.tr k12
 refine wl_alloc_blk rfl rfl rfl blkT_block.2.2 fun p19 w20 e23 B21 k22 => ?_
 have g24 := onB_new (Nat.le_of_eq e23.symm)
 have gr25 : Grew w0 noB (onB p19) := Grew.new K18 g24
 have ap26 : Apart (onB p19) (onB p1) := Apart.new g24 (onB_live B17.lt)
 clear e23 g24
 have B28 := B17.all k22 id
 have B29 := B11.all k22 id
 have K30 := K18.tr k22
 refine wl_nil fun F31 hF32 => ?_
 have s33 : F31 23 = undef := (hF32 23).trans rfl
 have s34 : F31 2 = pt p1 0 := (hF32 2).trans rfl
 have s35 : F31 3 = pt p9 0 := (hF32 3).trans rfl
 have s36 : F31 4 = pt p19 0 := (hF32 4).trans rfl
 clear hF32
 refine then_normal (wq_seq (wq_seq (wq_region (wl_v (iv 0) rfl rfl (y_mov rfl rfl rr) (wl_nil fun F37 hF38 => ?_)))))
 obtain ⟨s39, s40, s41, s42⟩ := t4 hF38 23 s33 2 s34 3 s35 4 s36
 have s43 : F37 6 = iv 0 := (hF38 6).trans rfl
 clear hF38
 refine then_normal (wq_block (wq_loop (fun nn FF ww => ∃ (i : Nat), (i ≤ 16) ∧ nn = 16 - i ∧ FF 2 = pt p1 0 ∧ FF 3 = pt p9 0 ∧ FF 4 = pt p19 0 ∧ FF 23 = undef ∧ FF 6 = iv ((i : Nat) : Int) ∧ Kept (fun _ => False) w0 ww ∧ Blk ww p1 69 (upto i a (bothB a b)) ∧ Blk ww p9 69 b ∧ Blk ww p19 69 (fun _ => 0)) (16 - 0) ⟨0, by omega, rfl, s40, s41, s42, s39, s43, K30, B28.first, B29, B21⟩ ?_))
 rintro n47 F44 w45 ⟨i, i48, hn47, s49, s50, s51, s52, s53, K46, B54, B55, B56⟩
 refine wq_seq (wq_region (wl_v (.bool (decide (((i : Nat) : Int) < 16))) rfl rfl (y_lss rfl s53 rfl rfl rr) (wl_nil fun F57 hF58 => ?_)))
 obtain ⟨s59, s60, s61, s62, s63⟩ := t5 hF58 2 s49 3 s50 4 s51 23 s52 6 s53
 have s64 : F57 7 = .bool (decide (((i : Nat) : Int) < 16)) := (hF58 7).trans rfl
 clear hF58
 refine then_normal (wq_seq ?_)
 refine wq_cond s64 (fun c65 => ?_) (fun c65 => ?_)
 ·replace c65 := of_decide_eq_true c65
  refine wq_skip (then_normal (wq_seq (wq_block (wq_seq (wq_region (wl_mv rfl rfl rfl s63 (wl_v (iv ((i : Nat) : Int)) rfl rfl (y_asg rfl rfl rr) (wl_nil fun F66 hF67 => ?_))))))))
  obtain ⟨s68, s69, s70, s71, s72⟩ := t5 hF67 2 s59 3 s60 4 s61 23 s62 6 s63
  have s73 : F66 5 = iv ((i : Nat) : Int) := (hF67 5).trans rfl
  clear hF67
  refine then_normal ?_
  have h1 := c8_le (a i)
  have h2 := c8_le (b i)
  refine wq_tail 12 [some 9, some 10, some 11, some 12, some 13, some 14, some 15, some 16, some 17, some 18, some 19, some 20] [Pd.eq (iv ((i : Nat) : Int)), Pd.eq (iv ((i : Nat) : Int)), Pd.eq (.pointer (some ⟨p1, i, none⟩)), Pd.eq (iv (a i)), Pd.eq (iv (c8 (a i))), Pd.eq (iv ((i : Nat) : Int)), Pd.eq (.pointer (some ⟨p9, i, none⟩)), Pd.eq (iv (b i)), Pd.eq (iv (c8 (b i))), Pd.eq (iv ((c8 (a i)) + (c8 (b i)))), Pd.eq (iv ((c8 (a i) + c8 (b i) + 1) / 2)), Pd.eq (.pointer (some ⟨p1, i, none⟩))] (by kernel_rfl) (by kernel_rfl) (by kernel_rfl) ?_ ?_
  ·refine stepsF_cons ?_ ?_
   ·refine StepF.one rfl fun F_ w_ hR hout hD => ?_
    exact (y_mov rfl ((hout 5 rfl (by decide)).trans s73) ⟨rfl, Kept.refl _ _⟩)
   refine stepsF_cons ?_ ?_
   ·refine StepF.one rfl fun F_ w_ hR hout hD => ?_
    exact (y_mov rfl ((hout 5 rfl (by decide)).trans s73) ⟨rfl, Kept.refl _ _⟩)
   refine stepsF_cons ?_ ?_
   ·refine StepF.one rfl fun F_ w_ hR hout hD => ?_
    have g10 : F_ 10 = iv ((i : Nat) : Int) := (hD.get 0 rfl rfl rfl)
    exact (y_atR i (s := 1) rfl ((hout 2 rfl (by decide)).trans s68) g10 (by omega) Tryz.underlying69 (by omega) (by kernel_rfl) (by omega) ⟨rfl, Kept.refl _ _⟩)
   refine stepsF_cons ?_ ?_
   ·refine StepF.one rfl fun F_ w_ hR hout hD => ?_
    have g11 : F_ 11 = .pointer (some ⟨p1, i, none⟩) := (hD.get 0 rfl rfl rfl)
    exact (y_ldR rfl g11 Tryz.underlying3 (((B54.all hR id).cell (by omega)).trans (some_int (upto_at i _ _))) ⟨rfl, Kept.refl _ _⟩)
   refine stepsF_cons ?_ ?_
   ·refine StepF.one rfl fun F_ w_ hR hout hD => ?_
    have g12 : F_ 12 = iv (a i) := (hD.get 0 rfl rfl rfl)
    exact (y_cs rfl rfl rfl (fun _ _ => by kernel_rfl) (ev_func _) (vsC g12 (vsC rfl (vsC rfl vsN))) (mo_clamped (a i) 0 255  _   ) (fun e_ w_ h_ => ⟨_, h_.1, congrArg (Value.int .i64) (by unfold c8; omega), h_.2⟩))
   refine stepsF_cons ?_ ?_
   ·refine StepF.one rfl fun F_ w_ hR hout hD => ?_
    exact (y_mov rfl ((hout 5 rfl (by decide)).trans s73) ⟨rfl, Kept.refl _ _⟩)
   refine stepsF_cons ?_ ?_
   ·refine StepF.one rfl fun F_ w_ hR hout hD => ?_
    have g14 : F_ 14 = iv ((i : Nat) : Int) := (hD.get 0 rfl rfl rfl)
    exact (y_atR i (s := 1) rfl ((hout 3 rfl (by decide)).trans s69) g14 (by omega) Tryz.underlying69 (by omega) (by kernel_rfl) (by omega) ⟨rfl, Kept.refl _ _⟩)
   refine stepsF_cons ?_ ?_
   ·refine StepF.one rfl fun F_ w_ hR hout hD => ?_
    have g15 : F_ 15 = .pointer (some ⟨p9, i, none⟩) := (hD.get 0 rfl rfl rfl)
    exact (y_ldR rfl g15 Tryz.underlying3 ((B55.all hR id).cell (by omega)) ⟨rfl, Kept.refl _ _⟩)
   refine stepsF_cons ?_ ?_
   ·refine StepF.one rfl fun F_ w_ hR hout hD => ?_
    have g16 : F_ 16 = iv (b i) := (hD.get 0 rfl rfl rfl)
    exact (y_cs rfl rfl rfl (fun _ _ => by kernel_rfl) (ev_func _) (vsC g16 (vsC rfl (vsC rfl vsN))) (mo_clamped (b i) 0 255  _   ) (fun e_ w_ h_ => ⟨_, h_.1, congrArg (Value.int .i64) (by unfold c8; omega), h_.2⟩))
   refine stepsF_cons ?_ ?_
   ·refine StepF.one rfl fun F_ w_ hR hout hD => ?_
    have g13 : F_ 13 = iv (c8 (a i)) := (hD.get 0 rfl rfl rfl)
    have g17 : F_ 17 = iv (c8 (b i)) := (hD.get 1 rfl rfl rfl)
    exact (y_add rfl g13 g17 (i64_i rfl (by omega)) ⟨rfl, Kept.refl _ _⟩)
   refine stepsF_cons ?_ ?_
   ·refine StepF.one rfl fun F_ w_ hR hout hD => ?_
    have g18 : F_ 18 = iv ((c8 (a i)) + (c8 (b i))) := (hD.get 0 rfl rfl rfl)
    exact (y_cs rfl rfl rfl (fun _ _ => by kernel_rfl) (ev_func _) (vsC g18 (vsC rfl vsN)) (mo_mean ((c8 (a i)) + (c8 (b i))) 2  _ (by omega) (by omega)  ) (fun e_ w_ h_ => ⟨_, h_.1, congrArg (Value.int .i64) (by omega), h_.2⟩))
   refine stepsF_cons ?_ ?_
   ·refine StepF.one rfl fun F_ w_ hR hout hD => ?_
    have g9 : F_ 9 = iv ((i : Nat) : Int) := (hD.get 0 rfl rfl rfl)
    exact (y_atR i (s := 1) rfl ((hout 2 rfl (by decide)).trans s68) g9 (by omega) Tryz.underlying69 (by omega) (by kernel_rfl) (by omega) ⟨rfl, Kept.refl _ _⟩)
   exact stepsF_nil
  intro v74 F75 w76 k77 G78 hF79
  have B81 := B54.all k77 id
  have B82 := B55.all k77 id
  have B83 := B56.all k77 id
  have K84 := K46.tr k77
  obtain ⟨s85, s86, s87, s88, s89⟩ := t5 hF79 2 s68 3 s69 4 s70 23 s71 6 s72
  have s90 : F75 19 = iv ((c8 (a i) + c8 (b i) + 1) / 2) := (hF79 19).trans (G78 10 (by decide))
  have s91 : F75 20 = .pointer (some ⟨p1, i, none⟩) := (hF79 20).trans (G78 11 (by decide))
  clear G78 hF79
  refine wl_set_blk rfl rfl rfl s91 s90 B81 (by omega) (by kernel_rfl) fun w92 B93 k94 => ?_
  have B95 := B82.all k94 (ap16 p9 rfl)
  have B96 := B83.all k94 (ap26 p19 rfl)
  have K97 := K84.trans k94 (Grew.ok (S := fun _ => False) gr7 noB_le)
  refine wl_nil fun F98 hF99 => ?_
  obtain ⟨s100, s101, s102, s103, s104⟩ := t5 hF99 2 s85 3 s86 4 s87 23 s88 6 s89
  clear hF99
  refine in_normal (then_normal (wq_region (wl_v (iv ((i + 1 : Nat) : Int)) rfl rfl (y_add rfl s104 rfl (i64_n (by omega) (by omega)) rr) (wl_v (iv ((i + 1 : Nat) : Int)) rfl rfl (y_mov rfl rfl rr) (wl_nil fun F105 hF106 => ?_)))))
  obtain ⟨s107, s108, s109, s110⟩ := t4 hF106 2 s100 3 s101 4 s102 23 s103
  have s111 : F105 6 = iv ((i + 1 : Nat) : Int) := (hF106 6).trans rfl
  clear hF106
  exact then_normal ⟨(16 - (i + 1)), by omega, i + 1, by omega, rfl, s107, s108, s109, s110, s111, K97, (B93.next (bothB_at a b i).symm), B95, B96⟩
 ·replace c65 := of_decide_eq_false c65
  refine wq_exit (then_exit (then_exit ?_))
  have l112 : 16 = i := by omega
  subst l112
  have B113 : Blk w45 p1 69 (bothB a b) := (B54.last)
  refine in_here (then_normal (wq_seq (wq_region (wl_v (blkV (bothB a b)) rfl rfl (y_load_blk blkT_block rfl s59 B113 rr) (wl_store_blk blkT_block rfl rfl rfl s61 rfl B56 fun w114 B115 k116 => ?_)))))
  have K119 := K46.trans k116 (Grew.ok (S := fun _ => False) gr25 noB_le)
  refine wl_nil fun F120 hF121 => ?_
  obtain ⟨s122, s123⟩ := t2 hF121 4 s61 23 s62
  clear hF121
  refine then_normal (wq_ret ?_)
  exact end_blk blkT_block s123 rfl rfl s122 B115 ⟨rfl, K119⟩
theorem mo_sample (p x y : Int) (f : FD) (f0 f1 f2 : Value) (T_f0 : Nat → Prop) (T_f1 : Nat → Prop) (T_f2 : Nat → Prop) (w0 : World) (h_f0 : Byt w0 T_f0 f0 ((f).p0)) (h_f1 : Byt w0 T_f1 f1 ((f).p1)) (h_f2 : Byt w0 T_f2 f2 ((f).p2)) :
  Calls Tryz.prog 136 #[.agg #[.int .i64 ((f).W), .int .i64 ((f).H), f0, f1, f2], .int .i64 (p), .int .i64 (x), .int .i64 (y)] w0 fun e w' => e = .returned (.int .i64 (smpF f p x y)) ∧ Kept (fun _ => False) w0 w' := by
 refine calls_wq (args := [.agg #[iv (f.W), iv (f.H), f0, f1, f2], iv p, iv x, iv y]) 72 Tryz.func136 rfl rfl (Nat.le_of_ble_eq_true rfl) ?_
 have K0 := Kept.refl (fun _ => False) w0
 have hb : Bytes3 f := ⟨h_f0.lt256, h_f1.lt256, h_f2.lt256⟩
 obtain ⟨u, hu⟩ : ∃ u, u = c256 x := ⟨_, rfl⟩
 obtain ⟨v, hv⟩ : ∃ v, v = c256 y := ⟨_, rfl⟩
 have hu2 : -256 ≤ u ∧ u ≤ 256 := by rw [hu]; unfold c256; omega
 have hv2 : -256 ≤ v ∧ v ≤ 256 := by rw [hv]; unfold c256; omega
 have hm : smpF f p x y = mid f p u v := by rw [hu, hv]; rfl
 have a1 := atF_le hb p (u / 2) (v / 2)
 have a2 := atF_le hb p ((u + 1) / 2) (v / 2)
 have a3 := atF_le hb p (u / 2) ((v + 1) / 2)
 have a4 := atF_le hb p ((u + 1) / 2) ((v + 1) / 2)
 obtain ⟨N, hN⟩ : ∃ N : Nat, (N : Int) = u % 2 + v % 2 := ⟨(u % 2 + v % 2).toNat, by omega⟩
 obtain ⟨M, hM⟩ : ∃ M : Int, M = 2 ^ N := ⟨_, rfl⟩
 have hM2 : (N = 0 ∧ M = 1) ∨ (N = 1 ∧ M = 2) ∨ (N = 2 ∧ M = 4) := by rcases (by omega : N = 0 ∨ N = 1 ∨ N = 2) with h | h | h <;> subst h <;> simp [hM]
 have g_f0 := Grew.refl w0 T_f0
 have g_f1 := Grew.refl w0 T_f1
 have g_f2 := Grew.refl w0 T_f2
 refine wq_seq (wq_region (wl_box_stc (vs := [iv (f.W), iv (f.H), f0, f1, f2]) rfl rfl rfl rfl fun p1 w2 B4 g5 k3 => ?_))
 have B10 := h_f0.all k3 Apart.none
 have B11 := h_f1.all k3 Apart.none
 have B12 := h_f2.all k3 Apart.none
 have K13 := K0.tr k3
 refine wl_v (iv 0) rfl rfl (y_asg rfl rfl rr) (wl_nil fun F14 hF15 => ?_)
 have s16 : F14 1 = iv p := (hF15 1).trans rfl
 have s17 : F14 2 = iv x := (hF15 2).trans rfl
 have s18 : F14 3 = iv y := (hF15 3).trans rfl
 have s19 : F14 72 = undef := (hF15 72).trans rfl
 have s20 : F14 4 = pt p1 0 := (hF15 4).trans rfl
 clear hF15
 refine then_normal (wq_seq (wq_region (wl_mv rfl rfl rfl s17 (wl_call (R := fun v_ w_ => v_ = iv u ∧ Kept (fun _ => False) w2 w_) rfl rfl (y_cs rfl rfl rfl (fun _ _ => by kernel_rfl) (ev_func _) (vsC rfl (vsC rfl (vsC rfl vsN))) (mo_clamped x (-256) 256  _   ) (fun e_ w_ h_ => ⟨_, h_.1, congrArg (Value.int .i64) (by rw [hu]; unfold c256; omega), h_.2⟩)) ?_))))
 rintro _ w21 ⟨rfl, k22⟩
 have B23 := B10.all k22 Apart.none
 have B24 := B11.all k22 Apart.none
 have B25 := B12.all k22 Apart.none
 have B26 := B4.all k22 id
 have K27 := K13.tr k22
 refine wl_mv rfl rfl rfl s18 (wl_call (R := fun v_ w_ => v_ = iv v ∧ Kept (fun _ => False) w21 w_) rfl rfl (y_cs rfl rfl rfl (fun _ _ => by kernel_rfl) (ev_func _) (vsC rfl (vsC rfl (vsC rfl vsN))) (mo_clamped y (-256) 256  _   ) (fun e_ w_ h_ => ⟨_, h_.1, congrArg (Value.int .i64) (by rw [hv]; unfold c256; omega), h_.2⟩)) ?_)
 rintro _ w28 ⟨rfl, k29⟩
 have B30 := B23.all k29 Apart.none
 have B31 := B24.all k29 Apart.none
 have B32 := B25.all k29 Apart.none
 have B33 := B26.all k29 id
 have K34 := K27.tr k29
 refine wl_v (iv u) rfl rfl (y_asg rfl rfl rr) (wl_v (iv v) rfl rfl (y_asg rfl rfl rr) (wl_nil fun F35 hF36 => ?_))
 obtain ⟨s37, s38, s39⟩ := t3 hF36 1 s16 72 s19 4 s20
 have s40 : F35 2 = iv u := (hF36 2).trans rfl
 have s41 : F35 3 = iv v := (hF36 3).trans rfl
 clear hF36
 refine then_normal (wq_seq (wq_region (wl_mv rfl rfl rfl s40 (wl_v (iv (u / 2)) rfl rfl (y_shrR 1 rfl rfl rfl (by decide) (by simp) rr) (wl_mv rfl rfl rfl s41 (wl_v (iv (v / 2)) rfl rfl (y_shrR 1 rfl rfl rfl (by decide) (by simp) rr) (wl_v (iv (u / 2)) rfl rfl (y_asg rfl rfl rr) (wl_v (iv (v / 2)) rfl rfl (y_asg rfl rfl rr) (wl_nil fun F42 hF43 => ?_)))))))))
 obtain ⟨s44, s45, s46, s47, s48⟩ := t5 hF43 1 s37 72 s38 4 s39 2 s40 3 s41
 have s49 : F42 9 = iv (u / 2) := (hF43 9).trans rfl
 have s50 : F42 10 = iv (v / 2) := (hF43 10).trans rfl
 clear hF43
 refine then_normal (wq_seq (wq_region (wl_mv rfl rfl rfl s47 (wl_v (iv (u % 2)) rfl rfl (y_andR rfl rfl rfl (and_one hu2) rr) (wl_mv rfl rfl rfl s48 (wl_v (iv (v % 2)) rfl rfl (y_andR rfl rfl rfl (and_one hv2) rr) (wl_v (iv (u % 2)) rfl rfl (y_asg rfl rfl rr) (wl_v (iv (v % 2)) rfl rfl (y_asg rfl rfl rr) (wl_nil fun F51 hF52 => ?_)))))))))
 obtain ⟨s53, s54, s55, s56, s57⟩ := t5 hF52 1 s44 72 s45 4 s46 9 s49 10 s50
 have s58 : F51 11 = iv (u % 2) := (hF52 11).trans rfl
 have s59 : F51 12 = iv (v % 2) := (hF52 12).trans rfl
 clear hF52
 refine then_normal (wq_seq (wq_region (wl_v (iv 0) rfl rfl (y_asg rfl rfl rr) (wl_nil fun F60 hF61 => ?_))))
 obtain ⟨s62, s63, s64, s65, s66, s67, s68⟩ := t7 hF61 1 s53 72 s54 4 s55 9 s56 10 s57 11 s58 12 s59
 have s69 : F60 13 = iv 0 := (hF61 13).trans rfl
 clear hF61
 refine then_normal (wq_seq (wq_seq (wq_region (wl_mv rfl rfl rfl s67 (wl_mv rfl rfl rfl s68 (wl_v (iv ((N : Nat) : Int)) rfl rfl (y_add rfl rfl rfl (i64_i hN.symm (by omega)) rr) (wl_nil fun F70 hF71 => ?_)))))))
 obtain ⟨s72, s73, s74, s75, s76, s77, s78, s79⟩ := t8 hF71 1 s62 72 s63 4 s64 9 s65 10 s66 11 s67 12 s68 13 s69
 have s80 : F70 28 = iv ((N : Nat) : Int) := (hF71 28).trans rfl
 clear hF71
 refine then_normal (wq_block (wq_seq (wq_block (wq_seq (wq_block (wq_seq (wq_block (wq_seq (wq_seq (wq_seq (wq_region ?_)))))))))))
 refine wl_v (.bool (decide (((N : Nat) : Int) = 2))) rfl rfl (y_eqlI rfl s80 rfl rfl rr) (wl_v (.bool (decide (((N : Nat) : Int) = 2))) rfl rfl (y_asg rfl rfl rr) (wl_nil fun F81 hF82 => ?_))
 obtain ⟨s83, s84, s85, s86, s87, s88, s89, s90, s91⟩ := t9 hF82 1 s72 72 s73 4 s74 9 s75 10 s76 11 s77 12 s78 13 s79 28 s80
 have s92 : F81 29 = .bool (decide (((N : Nat) : Int) = 2)) := (hF82 29).trans rfl
 clear hF82
 refine then_normal ?_
 refine wq_cond s92 (fun c93 => ?_) (fun c93 => ?_)
 ·replace c93 := of_decide_eq_true c93
  refine wq_exit (then_exit (then_exit (in_here (then_normal ?_))))
  refine wq_tail 15 [some 33, some 34, some 35, some 36, some 37, some 38, some 39, some 40, some 41, some 42, some 43, some 44, some 45, some 46, some 47] [Pd.eq (iv 0), Pd.eq (.agg #[iv (f.W), iv (f.H), f0, f1, f2]), Pd.eq (iv p), Pd.eq (iv (u / 2)), Pd.eq (iv ((u + 1) / 2)), Pd.eq (iv (v / 2)), Pd.eq (iv (atF f p ((u + 1) / 2) (v / 2))), Pd.eq (.agg #[iv (f.W), iv (f.H), f0, f1, f2]), Pd.eq (iv p), Pd.eq (iv (u / 2)), Pd.eq (iv (v / 2)), Pd.eq (iv ((v + 1) / 2)), Pd.eq (iv (atF f p (u / 2) ((v + 1) / 2))), Pd.eq (iv ((atF f p ((u + 1) / 2) (v / 2)) + (atF f p (u / 2) ((v + 1) / 2)))), Pd.eq (iv (0 + ((atF f p ((u + 1) / 2) (v / 2)) + (atF f p (u / 2) ((v + 1) / 2)))))] (by kernel_rfl) (by kernel_rfl) (by kernel_rfl) ?_ ?_
  ·refine stepsF_cons ?_ ?_
   ·refine StepF.one rfl fun F_ w_ hR hout hD => ?_
    exact (y_mov rfl ((hout 13 rfl (by decide)).trans s90) ⟨rfl, Kept.refl _ _⟩)
   refine stepsF_cons ?_ ?_
   ·refine StepF.one rfl fun F_ w_ hR hout hD => ?_
    exact (y_load_stc stcT_frame rfl ((hout 4 rfl (by decide)).trans s85) (B33.all hR id) ⟨rfl, Kept.refl _ _⟩)
   refine stepsF_cons ?_ ?_
   ·refine StepF.one rfl fun F_ w_ hR hout hD => ?_
    exact (y_mov rfl ((hout 1 rfl (by decide)).trans s83) ⟨rfl, Kept.refl _ _⟩)
   refine stepsF_cons ?_ ?_
   ·refine StepF.one rfl fun F_ w_ hR hout hD => ?_
    exact (y_mov rfl ((hout 9 rfl (by decide)).trans s86) ⟨rfl, Kept.refl _ _⟩)
   refine stepsF_cons ?_ ?_
   ·refine StepF.one rfl fun F_ w_ hR hout hD => ?_
    have g36 : F_ 36 = iv (u / 2) := (hD.get 0 rfl rfl rfl)
    exact (y_add rfl g36 rfl (i64_i (by omega) (by omega)) ⟨rfl, Kept.refl _ _⟩)
   refine stepsF_cons ?_ ?_
   ·refine StepF.one rfl fun F_ w_ hR hout hD => ?_
    exact (y_mov rfl ((hout 10 rfl (by decide)).trans s87) ⟨rfl, Kept.refl _ _⟩)
   refine stepsF_cons ?_ ?_
   ·refine StepF.one rfl fun F_ w_ hR hout hD => ?_
    have g34 : F_ 34 = .agg #[iv (f.W), iv (f.H), f0, f1, f2] := (hD.get 0 rfl rfl rfl)
    have g35 : F_ 35 = iv p := (hD.get 1 rfl rfl rfl)
    have g37 : F_ 37 = iv ((u + 1) / 2) := (hD.get 2 rfl rfl rfl)
    have g38 : F_ 38 = iv (v / 2) := (hD.get 3 rfl rfl rfl)
    exact (y_cs rfl rfl rfl (fun _ _ => by kernel_rfl) (ev_func _) (vsC g34 (vsC g35 (vsC g37 (vsC g38 vsN)))) (pl_at p ((u + 1) / 2) (v / 2) f f0 f1 f2 T_f0 T_f1 T_f2 _  (B30.all hR Apart.none) (B31.all hR Apart.none) (B32.all hR Apart.none) ) (fun e_ w_ h_ => ⟨_, h_.1, rfl, h_.2⟩))
   refine stepsF_cons ?_ ?_
   ·refine StepF.one rfl fun F_ w_ hR hout hD => ?_
    exact (y_load_stc stcT_frame rfl ((hout 4 rfl (by decide)).trans s85) (B33.all hR id) ⟨rfl, Kept.refl _ _⟩)
   refine stepsF_cons ?_ ?_
   ·refine StepF.one rfl fun F_ w_ hR hout hD => ?_
    exact (y_mov rfl ((hout 1 rfl (by decide)).trans s83) ⟨rfl, Kept.refl _ _⟩)
   refine stepsF_cons ?_ ?_
   ·refine StepF.one rfl fun F_ w_ hR hout hD => ?_
    exact (y_mov rfl ((hout 9 rfl (by decide)).trans s86) ⟨rfl, Kept.refl _ _⟩)
   refine stepsF_cons ?_ ?_
   ·refine StepF.one rfl fun F_ w_ hR hout hD => ?_
    exact (y_mov rfl ((hout 10 rfl (by decide)).trans s87) ⟨rfl, Kept.refl _ _⟩)
   refine stepsF_cons ?_ ?_
   ·refine StepF.one rfl fun F_ w_ hR hout hD => ?_
    have g43 : F_ 43 = iv (v / 2) := (hD.get 0 rfl rfl rfl)
    exact (y_add rfl g43 rfl (i64_i (by omega) (by omega)) ⟨rfl, Kept.refl _ _⟩)
   refine stepsF_cons ?_ ?_
   ·refine StepF.one rfl fun F_ w_ hR hout hD => ?_
    have g40 : F_ 40 = .agg #[iv (f.W), iv (f.H), f0, f1, f2] := (hD.get 0 rfl rfl rfl)
    have g41 : F_ 41 = iv p := (hD.get 1 rfl rfl rfl)
    have g42 : F_ 42 = iv (u / 2) := (hD.get 2 rfl rfl rfl)
    have g44 : F_ 44 = iv ((v + 1) / 2) := (hD.get 3 rfl rfl rfl)
    exact (y_cs rfl rfl rfl (fun _ _ => by kernel_rfl) (ev_func _) (vsC g40 (vsC g41 (vsC g42 (vsC g44 vsN)))) (pl_at p (u / 2) ((v + 1) / 2) f f0 f1 f2 T_f0 T_f1 T_f2 _  (B30.all hR Apart.none) (B31.all hR Apart.none) (B32.all hR Apart.none) ) (fun e_ w_ h_ => ⟨_, h_.1, rfl, h_.2⟩))
   refine stepsF_cons ?_ ?_
   ·refine StepF.one rfl fun F_ w_ hR hout hD => ?_
    have g39 : F_ 39 = iv (atF f p ((u + 1) / 2) (v / 2)) := (hD.get 0 rfl rfl rfl)
    have g45 : F_ 45 = iv (atF f p (u / 2) ((v + 1) / 2)) := (hD.get 1 rfl rfl rfl)
    exact (y_add rfl g39 g45 (i64_i rfl (by omega)) ⟨rfl, Kept.refl _ _⟩)
   refine stepsF_cons ?_ ?_
   ·refine StepF.one rfl fun F_ w_ hR hout hD => ?_
    have g33 : F_ 33 = iv 0 := (hD.get 0 rfl rfl rfl)
    have g46 : F_ 46 = iv ((atF f p ((u + 1) / 2) (v / 2)) + (atF f p (u / 2) ((v + 1) / 2))) := (hD.get 1 rfl rfl rfl)
    exact (y_add rfl g33 g46 (i64_i rfl (by omega)) ⟨rfl, Kept.refl _ _⟩)
   exact stepsF_nil
  intro v94 F95 w96 k97 G98 hF99
  have B101 := B30.all k97 Apart.none
  have B102 := B31.all k97 Apart.none
  have B103 := B32.all k97 Apart.none
  have B104 := B33.all k97 id
  have K105 := K34.tr k97
  obtain ⟨s106, s107, s108, s109, s110, s111, s112⟩ := t7 hF99 1 s83 72 s84 4 s85 9 s86 10 s87 11 s88 12 s89
  have s114 : F95 47 = iv (0 + ((atF f p ((u + 1) / 2) (v / 2)) + (atF f p (u / 2) ((v + 1) / 2)))) := (hF99 47).trans (G98 14 (by decide))
  clear G98 hF99
  refine wl_as rfl rfl rfl s114 (wl_nil fun F115 hF116 => ?_)
  obtain ⟨s117, s118, s119, s120, s121, s122, s123⟩ := t7 hF116 1 s106 72 s107 4 s108 9 s109 10 s110 11 s111 12 s112
  have s124 : F115 13 = iv (0 + ((atF f p ((u + 1) / 2) (v / 2)) + (atF f p (u / 2) ((v + 1) / 2)))) := (hF116 13).trans rfl
  clear hF116
  refine in_normal (then_normal (wq_region (wl_mv rfl rfl rfl s124 (wl_v (.agg #[iv (f.W), iv (f.H), f0, f1, f2]) rfl rfl (y_load_stc stcT_frame rfl s119 B104 rr) (wl_mv rfl rfl rfl s117 (wl_mv rfl rfl rfl s120 (wl_mv rfl rfl rfl s122 (wl_v (iv ((u + 1) / 2)) rfl rfl (y_add rfl rfl rfl (i64_i (by omega) (by omega)) rr) (wl_mv rfl rfl rfl s121 (wl_mv rfl rfl rfl s123 (wl_v (iv ((v + 1) / 2)) rfl rfl (y_add rfl rfl rfl (i64_i (by omega) (by omega)) rr) ?_)))))))))))
  refine wl_cs rfl rfl rfl rfl rfl (fun _ _ => by kernel_rfl) (vsC rfl (vsC rfl (vsC rfl (vsC rfl vsN)))) (pl_at p ((u + 1) / 2) ((v + 1) / 2) f f0 f1 f2 T_f0 T_f1 T_f2 _  B101 B102 B103 ) fun w125 k126 => ?_
  have B127 := B101.all k126 Apart.none
  have B128 := B102.all k126 Apart.none
  have B129 := B103.all k126 Apart.none
  have B130 := B104.all k126 id
  have K131 := K105.tr k126
  refine wl_v (iv ((0 + ((atF f p ((u + 1) / 2) (v / 2)) + (atF f p (u / 2) ((v + 1) / 2)))) + (atF f p ((u + 1) / 2) ((v + 1) / 2)))) rfl rfl (y_add rfl rfl rfl (i64_i rfl (by omega)) rr) (wl_v (iv ((0 + ((atF f p ((u + 1) / 2) (v / 2)) + (atF f p (u / 2) ((v + 1) / 2)))) + (atF f p ((u + 1) / 2) ((v + 1) / 2)))) rfl rfl (y_asg rfl rfl rr) (wl_nil fun F132 hF133 => ?_))
  obtain ⟨s134, s135, s136, s137, s138, s139, s140⟩ := t7 hF133 1 s117 72 s118 4 s119 9 s120 10 s121 11 s122 12 s123
  have s141 : F132 13 = iv ((0 + ((atF f p ((u + 1) / 2) (v / 2)) + (atF f p (u / 2) ((v + 1) / 2)))) + (atF f p ((u + 1) / 2) ((v + 1) / 2))) := (hF133 13).trans rfl
  clear hF133
  refine in_normal (then_normal (wq_seq (wq_region (wl_mv rfl rfl rfl s141 (wl_v (.agg #[iv (f.W), iv (f.H), f0, f1, f2]) rfl rfl (y_load_stc stcT_frame rfl s136 B130 rr) (wl_mv rfl rfl rfl s134 (wl_mv rfl rfl rfl s137 (wl_mv rfl rfl rfl s138 (wl_cs rfl rfl rfl rfl rfl (fun _ _ => by kernel_rfl) (vsC rfl (vsC rfl (vsC rfl (vsC rfl vsN)))) (pl_at p (u / 2) (v / 2) f f0 f1 f2 T_f0 T_f1 T_f2 _  B127 B128 B129 ) fun w142 k143 => ?_)))))))))
  have K148 := K131.tr k143
  refine wl_v (iv (((0 + ((atF f p ((u + 1) / 2) (v / 2)) + (atF f p (u / 2) ((v + 1) / 2)))) + (atF f p ((u + 1) / 2) ((v + 1) / 2))) + (atF f p (u / 2) (v / 2)))) rfl rfl (y_add rfl rfl rfl (i64_i rfl (by omega)) rr) (wl_v (iv (((0 + ((atF f p ((u + 1) / 2) (v / 2)) + (atF f p (u / 2) ((v + 1) / 2)))) + (atF f p ((u + 1) / 2) ((v + 1) / 2))) + (atF f p (u / 2) (v / 2)))) rfl rfl (y_asg rfl rfl rr) (wl_nil fun F149 hF150 => ?_))
  obtain ⟨s151, s152, s153⟩ := t3 hF150 72 s135 11 s139 12 s140
  have s154 : F149 13 = iv (((0 + ((atF f p ((u + 1) / 2) (v / 2)) + (atF f p (u / 2) ((v + 1) / 2)))) + (atF f p ((u + 1) / 2) ((v + 1) / 2))) + (atF f p (u / 2) (v / 2))) := (hF150 13).trans rfl
  clear hF150
  refine then_normal (wq_exit (in_here (then_normal (wq_seq (wq_region (wl_mv rfl rfl rfl s154 (wl_mv rfl rfl rfl s152 (wl_mv rfl rfl rfl s153 (wl_v (iv ((N : Nat) : Int)) rfl rfl (y_add rfl rfl rfl (i64_i hN.symm (by omega)) rr) (wl_v (iv M) rfl rfl (y_shlR N rfl rfl rfl (by rcases hM2 with ⟨h1, h2⟩ | ⟨h1, h2⟩ | ⟨h1, h2⟩ <;> subst h1 <;> rw [h2] <;> rfl) rr) (wl_call (R := fun v_ w_ => v_ = iv (mid f p u v) ∧ Kept (fun _ => False) w142 w_) rfl rfl (y_cs rfl rfl rfl (fun _ _ => by kernel_rfl) (ev_func _) (vsC rfl (vsC rfl vsN)) (mo_mean (((0 + ((atF f p ((u + 1) / 2) (v / 2)) + (atF f p (u / 2) ((v + 1) / 2)))) + (atF f p ((u + 1) / 2) ((v + 1) / 2))) + (atF f p (u / 2) (v / 2))) M  _ (by omega) (by omega)  ) (fun e_ w_ h_ => ⟨_, h_.1, congrArg (Value.int .i64) (by first | (rw [(by omega : M = 4)]; have e := mid_none (f := f) (p := p) (u := u) (v := v) (by omega) (by omega); omega) | (rw [(by omega : M = 2)]; rcases (by omega : u % 2 = 0 ∨ v % 2 = 0) with h0 | h0; (have e := mid_down (f := f) (p := p) (u := u) (v := v) (by omega) (by omega); rw [show (u + 1) / 2 = u / 2 by omega]; omega); (have e := mid_side (f := f) (p := p) (u := u) (v := v) (by omega) (by omega); rw [show (v + 1) / 2 = v / 2 by omega]; omega)) | (rw [(by omega : M = 1)]; have e := mid_both (f := f) (p := p) (u := u) (v := v) (by omega) (by omega); omega)), h_.2⟩)) ?_)))))))))))
  rintro _ w155 ⟨rfl, k156⟩
  have K161 := K148.tr k156
  refine wl_v (iv (mid f p u v)) rfl rfl (y_asg rfl rfl rr) (wl_nil fun F162 hF163 => ?_)
  have s164 := (hF163 72).trans s151
  have s165 : F162 8 = iv (mid f p u v) := (hF163 8).trans rfl
  clear hF163
  refine then_normal (wq_ret ?_)
  exact end_tmp (v := iv (mid f p u v)) s164 rfl rfl s165 ⟨(by rw [hm]), K161⟩
 ·replace c93 := of_decide_eq_false c93
  refine wq_skip (then_normal (wq_seq (wq_region (wl_v (.bool (decide (((N : Nat) : Int) = 1))) rfl rfl (y_eqlI rfl s91 rfl rfl rr) (wl_v (.bool (decide (((N : Nat) : Int) = 1))) rfl rfl (y_asg rfl rfl rr) (wl_nil fun F166 hF167 => ?_))))))
  obtain ⟨s168, s169, s170, s171, s172, s173, s174, s175⟩ := t8 hF167 1 s83 72 s84 4 s85 9 s86 10 s87 11 s88 12 s89 13 s90
  have s176 : F166 31 = .bool (decide (((N : Nat) : Int) = 1)) := (hF167 31).trans rfl
  clear hF167
  refine then_normal ?_
  refine wq_cond s176 (fun c177 => ?_) (fun c177 => ?_)
  ·replace c177 := of_decide_eq_true c177
   refine wq_exit (then_exit (in_other (by decide) (then_exit (in_here (then_normal (wq_region (wl_mv rfl rfl rfl s175 (wl_v (.agg #[iv (f.W), iv (f.H), f0, f1, f2]) rfl rfl (y_load_stc stcT_frame rfl s170 B33 rr) (wl_mv rfl rfl rfl s168 (wl_mv rfl rfl rfl s171 (wl_mv rfl rfl rfl s173 ?_)))))))))))
   refine wl_v (iv ((u + 1) / 2)) rfl rfl (y_add rfl rfl rfl (i64_i (by omega) (by omega)) rr) (wl_mv rfl rfl rfl s172 (wl_mv rfl rfl rfl s174 (wl_v (iv ((v + 1) / 2)) rfl rfl (y_add rfl rfl rfl (i64_i (by omega) (by omega)) rr) (wl_cs rfl rfl rfl rfl rfl (fun _ _ => by kernel_rfl) (vsC rfl (vsC rfl (vsC rfl (vsC rfl vsN)))) (pl_at p ((u + 1) / 2) ((v + 1) / 2) f f0 f1 f2 T_f0 T_f1 T_f2 _  B30 B31 B32 ) fun w178 k179 => ?_))))
   have B180 := B30.all k179 Apart.none
   have B181 := B31.all k179 Apart.none
   have B182 := B32.all k179 Apart.none
   have B183 := B33.all k179 id
   have K184 := K34.tr k179
   refine wl_v (iv (0 + (atF f p ((u + 1) / 2) ((v + 1) / 2)))) rfl rfl (y_add rfl rfl rfl (i64_i rfl (by omega)) rr) (wl_v (iv (0 + (atF f p ((u + 1) / 2) ((v + 1) / 2)))) rfl rfl (y_asg rfl rfl rr) (wl_nil fun F185 hF186 => ?_))
   obtain ⟨s187, s188, s189, s190, s191, s192, s193⟩ := t7 hF186 1 s168 72 s169 4 s170 9 s171 10 s172 11 s173 12 s174
   have s194 : F185 13 = iv (0 + (atF f p ((u + 1) / 2) ((v + 1) / 2))) := (hF186 13).trans rfl
   clear hF186
   refine in_normal (then_normal (wq_seq (wq_region (wl_mv rfl rfl rfl s194 (wl_v (.agg #[iv (f.W), iv (f.H), f0, f1, f2]) rfl rfl (y_load_stc stcT_frame rfl s189 B183 rr) (wl_mv rfl rfl rfl s187 (wl_mv rfl rfl rfl s190 (wl_mv rfl rfl rfl s191 (wl_cs rfl rfl rfl rfl rfl (fun _ _ => by kernel_rfl) (vsC rfl (vsC rfl (vsC rfl (vsC rfl vsN)))) (pl_at p (u / 2) (v / 2) f f0 f1 f2 T_f0 T_f1 T_f2 _  B180 B181 B182 ) fun w195 k196 => ?_)))))))))
   have K201 := K184.tr k196
   refine wl_v (iv ((0 + (atF f p ((u + 1) / 2) ((v + 1) / 2))) + (atF f p (u / 2) (v / 2)))) rfl rfl (y_add rfl rfl rfl (i64_i rfl (by omega)) rr) (wl_v (iv ((0 + (atF f p ((u + 1) / 2) ((v + 1) / 2))) + (atF f p (u / 2) (v / 2)))) rfl rfl (y_asg rfl rfl rr) (wl_nil fun F202 hF203 => ?_))
   obtain ⟨s204, s205, s206⟩ := t3 hF203 72 s188 11 s192 12 s193
   have s207 : F202 13 = iv ((0 + (atF f p ((u + 1) / 2) ((v + 1) / 2))) + (atF f p (u / 2) (v / 2))) := (hF203 13).trans rfl
   clear hF203
   refine then_normal (wq_exit (in_here (then_normal (wq_seq (wq_region (wl_mv rfl rfl rfl s207 (wl_mv rfl rfl rfl s205 (wl_mv rfl rfl rfl s206 (wl_v (iv ((N : Nat) : Int)) rfl rfl (y_add rfl rfl rfl (i64_i hN.symm (by omega)) rr) (wl_v (iv M) rfl rfl (y_shlR N rfl rfl rfl (by rcases hM2 with ⟨h1, h2⟩ | ⟨h1, h2⟩ | ⟨h1, h2⟩ <;> subst h1 <;> rw [h2] <;> rfl) rr) (wl_call (R := fun v_ w_ => v_ = iv (mid f p u v) ∧ Kept (fun _ => False) w195 w_) rfl rfl (y_cs rfl rfl rfl (fun _ _ => by kernel_rfl) (ev_func _) (vsC rfl (vsC rfl vsN)) (mo_mean ((0 + (atF f p ((u + 1) / 2) ((v + 1) / 2))) + (atF f p (u / 2) (v / 2))) M  _ (by omega) (by omega)  ) (fun e_ w_ h_ => ⟨_, h_.1, congrArg (Value.int .i64) (by first | (rw [(by omega : M = 4)]; have e := mid_none (f := f) (p := p) (u := u) (v := v) (by omega) (by omega); omega) | (rw [(by omega : M = 2)]; rcases (by omega : u % 2 = 0 ∨ v % 2 = 0) with h0 | h0; (have e := mid_down (f := f) (p := p) (u := u) (v := v) (by omega) (by omega); rw [show (u + 1) / 2 = u / 2 by omega]; omega); (have e := mid_side (f := f) (p := p) (u := u) (v := v) (by omega) (by omega); rw [show (v + 1) / 2 = v / 2 by omega]; omega)) | (rw [(by omega : M = 1)]; have e := mid_both (f := f) (p := p) (u := u) (v := v) (by omega) (by omega); omega)), h_.2⟩)) ?_)))))))))))
   rintro _ w208 ⟨rfl, k209⟩
   have K214 := K201.tr k209
   refine wl_v (iv (mid f p u v)) rfl rfl (y_asg rfl rfl rr) (wl_nil fun F215 hF216 => ?_)
   have s217 := (hF216 72).trans s204
   have s218 : F215 8 = iv (mid f p u v) := (hF216 8).trans rfl
   clear hF216
   refine then_normal (wq_ret ?_)
   exact end_tmp (v := iv (mid f p u v)) s217 rfl rfl s218 ⟨(by rw [hm]), K214⟩
  ·replace c177 := of_decide_eq_false c177
   refine wq_skip (then_normal (wq_exit (in_other (by decide) (then_exit (in_other (by decide) (then_exit (in_here (then_normal (wq_seq (wq_region (wl_mv rfl rfl rfl s175 ?_)))))))))))
   refine wl_v (.agg #[iv (f.W), iv (f.H), f0, f1, f2]) rfl rfl (y_load_stc stcT_frame rfl s170 B33 rr) (wl_mv rfl rfl rfl s168 (wl_mv rfl rfl rfl s171 (wl_mv rfl rfl rfl s172 (wl_cs rfl rfl rfl rfl rfl (fun _ _ => by kernel_rfl) (vsC rfl (vsC rfl (vsC rfl (vsC rfl vsN)))) (pl_at p (u / 2) (v / 2) f f0 f1 f2 T_f0 T_f1 T_f2 _  B30 B31 B32 ) fun w219 k220 => ?_))))
   have K225 := K34.tr k220
   refine wl_v (iv (0 + (atF f p (u / 2) (v / 2)))) rfl rfl (y_add rfl rfl rfl (i64_i rfl (by omega)) rr) (wl_v (iv (0 + (atF f p (u / 2) (v / 2)))) rfl rfl (y_asg rfl rfl rr) (wl_nil fun F226 hF227 => ?_))
   obtain ⟨s228, s229, s230⟩ := t3 hF227 72 s169 11 s173 12 s174
   have s231 : F226 13 = iv (0 + (atF f p (u / 2) (v / 2))) := (hF227 13).trans rfl
   clear hF227
   refine then_normal (wq_exit (in_here (then_normal (wq_seq (wq_region (wl_mv rfl rfl rfl s231 (wl_mv rfl rfl rfl s229 (wl_mv rfl rfl rfl s230 (wl_v (iv ((N : Nat) : Int)) rfl rfl (y_add rfl rfl rfl (i64_i hN.symm (by omega)) rr) (wl_v (iv M) rfl rfl (y_shlR N rfl rfl rfl (by rcases hM2 with ⟨h1, h2⟩ | ⟨h1, h2⟩ | ⟨h1, h2⟩ <;> subst h1 <;> rw [h2] <;> rfl) rr) (wl_call (R := fun v_ w_ => v_ = iv (mid f p u v) ∧ Kept (fun _ => False) w219 w_) rfl rfl (y_cs rfl rfl rfl (fun _ _ => by kernel_rfl) (ev_func _) (vsC rfl (vsC rfl vsN)) (mo_mean (0 + (atF f p (u / 2) (v / 2))) M  _ (by omega) (by omega)  ) (fun e_ w_ h_ => ⟨_, h_.1, congrArg (Value.int .i64) (by first | (rw [(by omega : M = 4)]; have e := mid_none (f := f) (p := p) (u := u) (v := v) (by omega) (by omega); omega) | (rw [(by omega : M = 2)]; rcases (by omega : u % 2 = 0 ∨ v % 2 = 0) with h0 | h0; (have e := mid_down (f := f) (p := p) (u := u) (v := v) (by omega) (by omega); rw [show (u + 1) / 2 = u / 2 by omega]; omega); (have e := mid_side (f := f) (p := p) (u := u) (v := v) (by omega) (by omega); rw [show (v + 1) / 2 = v / 2 by omega]; omega)) | (rw [(by omega : M = 1)]; have e := mid_both (f := f) (p := p) (u := u) (v := v) (by omega) (by omega); omega)), h_.2⟩)) ?_)))))))))))
   rintro _ w232 ⟨rfl, k233⟩
   have K238 := K225.tr k233
   refine wl_v (iv (mid f p u v)) rfl rfl (y_asg rfl rfl rr) (wl_nil fun F239 hF240 => ?_)
   have s241 := (hF240 72).trans s228
   have s242 : F239 8 = iv (mid f p u v) := (hF240 8).trans rfl
   clear hF240
   refine then_normal (wq_ret ?_)
   exact end_tmp (v := iv (mid f p u v)) s241 rfl rfl s242 ⟨(by rw [hm]), K238⟩
theorem mo_predict (p x y X Y : Int) (f : FD) (f0 f1 f2 : Value) (T_f0 : Nat → Prop) (T_f1 : Nat → Prop) (T_f2 : Nat → Prop) (w0 : World) (h_f0 : Byt w0 T_f0 f0 ((f).p0)) (h_f1 : Byt w0 T_f1 f1 ((f).p1)) (h_f2 : Byt w0 T_f2 f2 ((f).p2)) :
  Calls Tryz.prog 110 #[.agg #[.int .i64 ((f).W), .int .i64 ((f).H), f0, f1, f2], .int .i64 (p), .int .i64 (x), .int .i64 (y), .agg #[.int .i64 (X), .int .i64 (Y)]] w0 fun e w' => e = .returned (.tuple #[blkV (mvB f p x y X Y), .int .i64 (mvE f p x y X Y)]) ∧ Kept (fun _ => False) w0 w' := by
 refine calls_wq (args := [.agg #[iv (f.W), iv (f.H), f0, f1, f2], iv p, iv x, iv y, .agg #[iv X, iv Y]]) 69 Tryz.func110 rfl rfl (Nat.le_of_ble_eq_true rfl) ?_
 have K0 := Kept.refl (fun _ => False) w0
 have g_f0 := Grew.refl w0 T_f0
 have g_f1 := Grew.refl w0 T_f1
 have g_f2 := Grew.refl w0 T_f2
 refine wq_seq (wq_region (wl_box_stc (vs := [iv (f.W), iv (f.H), f0, f1, f2]) rfl rfl rfl rfl fun p1 w2 B4 g5 k3 => ?_))
 have B10 := h_f0.all k3 Apart.none
 have B11 := h_f1.all k3 Apart.none
 have B12 := h_f2.all k3 Apart.none
 have K13 := K0.tr k3
 refine wl_box_stc (vs := [iv X, iv Y]) rfl rfl rfl rfl fun p14 w15 B17 g18 k16 => ?_
 have B24 := B10.all k16 Apart.none
 have B25 := B11.all k16 Apart.none
 have B26 := B12.all k16 Apart.none
 have B27 := B4.all k16 id
 have K28 := K13.tr k16
 refine wl_alloc_blk rfl rfl rfl blkT_block.2.2 fun p29 w30 e33 B31 k32 => ?_
 have g34 := onB_new (Nat.le_of_eq e33.symm)
 have gr35 : Grew w0 noB (onB p29) := Grew.new K28 g34
 clear e33 g34
 have B41 := B24.all k32 Apart.none
 have B42 := B25.all k32 Apart.none
 have B43 := B26.all k32 Apart.none
 have B44 := B27.all k32 id
 have B45 := B17.all k32 id
 have K46 := K28.tr k32
 refine wl_v (iv 0) rfl rfl (y_asg rfl rfl rr) (wl_nil fun F47 hF48 => ?_)
 have s49 : F47 1 = iv p := (hF48 1).trans rfl
 have s50 : F47 2 = iv x := (hF48 2).trans rfl
 have s51 : F47 3 = iv y := (hF48 3).trans rfl
 have s52 : F47 69 = undef := (hF48 69).trans rfl
 have s53 : F47 5 = pt p1 0 := (hF48 5).trans rfl
 have s54 : F47 9 = pt p14 0 := (hF48 9).trans rfl
 have s55 : F47 10 = pt p29 0 := (hF48 10).trans rfl
 clear hF48
 refine then_normal (wq_seq (wq_seq ?_))
 by_cases d56 : (checkE f) ≠ 0
 ·skip
  refine wq_region (wl_v (.agg #[iv (f.W), iv (f.H), f0, f1, f2]) rfl rfl (y_load_stc stcT_frame rfl s53 B44 rr) (wl_cs rfl rfl rfl rfl rfl (fun _ _ => by kernel_rfl) (vsC rfl vsN) (pl_check f f0 f1 f2 T_f0 T_f1 T_f2 _  B41 B42 B43 ) fun w57 k58 => ?_))
  have B64 := B31.all k58 id
  have K65 := K46.tr k58
  refine wl_v (.bool true) rfl rfl (y_neqI rfl rfl rfl (decide_eq_true d56) rr) (wl_v (.bool true) rfl rfl (y_mov rfl rfl rr) (wl_unless 3 false 18 rfl rfl rfl (Or.inl rfl) rfl (wl_unless 3 false 18 rfl rfl rfl (Or.inl rfl) rfl (wl_v (.bool true) rfl rfl (y_pickT rfl rfl rfl rr) (wl_v (.bool true) rfl rfl (y_mov rfl rfl rr) (wl_unless 7 false 22 rfl rfl rfl (Or.inl rfl) rfl (wl_unless 7 false 22 rfl rfl rfl (Or.inl rfl) rfl (wl_v (.bool true) rfl rfl (y_pickT rfl rfl rfl rr) (wl_v (.bool true) rfl rfl (y_mov rfl rfl rr) (wl_unless 11 false 26 rfl rfl rfl (Or.inl rfl) rfl (wl_unless 11 false 26 rfl rfl rfl (Or.inl rfl) rfl ?_)))))))))))
  refine wl_unless 11 false 26 rfl rfl rfl (Or.inl rfl) rfl (wl_v (.bool true) rfl rfl (y_pickT rfl rfl rfl rr) (wl_v (.bool true) rfl rfl (y_mov rfl rfl rr) (wl_unless 16 false 31 rfl rfl rfl (Or.inl rfl) rfl (wl_unless 16 false 31 rfl rfl rfl (Or.inl rfl) rfl (wl_unless 16 false 31 rfl rfl rfl (Or.inl rfl) rfl (wl_v (.bool true) rfl rfl (y_pickT rfl rfl rfl rr) (wl_nil fun F66 hF67 => ?_)))))))
  obtain ⟨s71, s74⟩ := t2 hF67 69 s52 10 s55
  have s75 : F66 35 = .bool true := (hF67 35).trans rfl
  clear hF67
  refine then_normal ?_
  refine wq_cond (t := true) s75 (fun _ => ?_) (fun e => by cases e)
  refine wq_seq ?_
  have hno : ¬ placeF f p x y := by rintro ⟨h1, h2, h3, h4, h5, h6, h7⟩; first | exact absurd ((checkE_iff f).2 h1) (by assumption) | omega
  refine wq_region (wl_v (blkV (fun _ => 0)) rfl rfl (y_buildR (cells := (arrL 16 (fun _ => 0)).toArray) rfl (by kernel_rfl) rfl rr) (wl_store_blk blkT_block rfl rfl rfl s74 rfl B64 fun w76 B77 k78 => ?_))
  have K84 := K65.trans k78 (Grew.ok (S := fun _ => False) gr35 noB_le)
  refine wl_v (iv 70) rfl rfl (y_asg rfl rfl rr) (wl_nil fun F85 hF86 => ?_)
  obtain ⟨s87, s88⟩ := t2 hF86 69 s71 10 s74
  have s89 : F85 11 = iv 70 := (hF86 11).trans rfl
  clear hF86
  refine then_normal (wq_ret (then_ret ?_))
  exact end_2 s87 rfl (res_blk blkT_block rfl s88 B77) (res_tmp (v := iv 70) rfl s89) ⟨(by first | rw [(mv_no hno).1, (mv_no hno).2] | rw [(mv_none hpl hvn).1, (mv_none hpl hvn).2, vecE_no hvn] | rw [(mv_yes hpl hv).1, (mv_yes hpl hv).2]), K84⟩
 ·skip
  by_cases d90 : p < 0
  ·skip
   refine wq_region (wl_v (.agg #[iv (f.W), iv (f.H), f0, f1, f2]) rfl rfl (y_load_stc stcT_frame rfl s53 B44 rr) (wl_cs rfl rfl rfl rfl rfl (fun _ _ => by kernel_rfl) (vsC rfl vsN) (pl_check f f0 f1 f2 T_f0 T_f1 T_f2 _  B41 B42 B43 ) fun w91 k92 => ?_))
   have B98 := B31.all k92 id
   have K99 := K46.tr k92
   refine wl_v (.bool false) rfl rfl (y_neqI rfl rfl rfl (decide_eq_false d56) rr) (wl_v (.bool false) rfl rfl (y_mov rfl rfl rr) (wl_vw (iv p) 3 false 18 rfl rfl rfl rfl rfl (y_mov rfl s49 rr) (wl_vw (.bool true) 3 false 18 rfl rfl rfl rfl rfl (y_lss rfl rfl rfl (decide_eq_true d90) rr) (wl_v (.bool true) rfl rfl (y_pickF rfl rfl rfl rr) (wl_v (.bool true) rfl rfl (y_mov rfl rfl rr) (wl_unless 7 false 22 rfl rfl rfl (Or.inl rfl) rfl (wl_unless 7 false 22 rfl rfl rfl (Or.inl rfl) rfl (wl_v (.bool true) rfl rfl (y_pickT rfl rfl rfl rr) (wl_v (.bool true) rfl rfl (y_mov rfl rfl rr) (wl_unless 11 false 26 rfl rfl rfl (Or.inl rfl) rfl (wl_unless 11 false 26 rfl rfl rfl (Or.inl rfl) rfl ?_)))))))))))
   refine wl_unless 11 false 26 rfl rfl rfl (Or.inl rfl) rfl (wl_v (.bool true) rfl rfl (y_pickT rfl rfl rfl rr) (wl_v (.bool true) rfl rfl (y_mov rfl rfl rr) (wl_unless 16 false 31 rfl rfl rfl (Or.inl rfl) rfl (wl_unless 16 false 31 rfl rfl rfl (Or.inl rfl) rfl (wl_unless 16 false 31 rfl rfl rfl (Or.inl rfl) rfl (wl_v (.bool true) rfl rfl (y_pickT rfl rfl rfl rr) (wl_nil fun F100 hF101 => ?_)))))))
   obtain ⟨s105, s108⟩ := t2 hF101 69 s52 10 s55
   have s109 : F100 35 = .bool true := (hF101 35).trans rfl
   clear hF101
   refine then_normal ?_
   refine wq_cond (t := true) s109 (fun _ => ?_) (fun e => by cases e)
   refine wq_seq ?_
   have hno : ¬ placeF f p x y := by rintro ⟨h1, h2, h3, h4, h5, h6, h7⟩; first | exact absurd ((checkE_iff f).2 h1) (by assumption) | omega
   refine wq_region (wl_v (blkV (fun _ => 0)) rfl rfl (y_buildR (cells := (arrL 16 (fun _ => 0)).toArray) rfl (by kernel_rfl) rfl rr) (wl_store_blk blkT_block rfl rfl rfl s108 rfl B98 fun w110 B111 k112 => ?_))
   have K118 := K99.trans k112 (Grew.ok (S := fun _ => False) gr35 noB_le)
   refine wl_v (iv 70) rfl rfl (y_asg rfl rfl rr) (wl_nil fun F119 hF120 => ?_)
   obtain ⟨s121, s122⟩ := t2 hF120 69 s105 10 s108
   have s123 : F119 11 = iv 70 := (hF120 11).trans rfl
   clear hF120
   refine then_normal (wq_ret (then_ret ?_))
   exact end_2 s121 rfl (res_blk blkT_block rfl s122 B111) (res_tmp (v := iv 70) rfl s123) ⟨(by first | rw [(mv_no hno).1, (mv_no hno).2] | rw [(mv_none hpl hvn).1, (mv_none hpl hvn).2, vecE_no hvn] | rw [(mv_yes hpl hv).1, (mv_yes hpl hv).2]), K118⟩
  ·skip
   by_cases d124 : 3 ≤ p
   ·skip
    refine wq_region (wl_v (.agg #[iv (f.W), iv (f.H), f0, f1, f2]) rfl rfl (y_load_stc stcT_frame rfl s53 B44 rr) (wl_cs rfl rfl rfl rfl rfl (fun _ _ => by kernel_rfl) (vsC rfl vsN) (pl_check f f0 f1 f2 T_f0 T_f1 T_f2 _  B41 B42 B43 ) fun w125 k126 => ?_))
    have B132 := B31.all k126 id
    have K133 := K46.tr k126
    refine wl_v (.bool false) rfl rfl (y_neqI rfl rfl rfl (decide_eq_false d56) rr) (wl_v (.bool false) rfl rfl (y_mov rfl rfl rr) (wl_vw (iv p) 3 false 18 rfl rfl rfl rfl rfl (y_mov rfl s49 rr) (wl_vw (.bool false) 3 false 18 rfl rfl rfl rfl rfl (y_lss rfl rfl rfl (decide_eq_false d90) rr) (wl_v (.bool false) rfl rfl (y_pickF rfl rfl rfl rr) (wl_v (.bool false) rfl rfl (y_mov rfl rfl rr) (wl_vw (iv p) 7 false 22 rfl rfl rfl rfl rfl (y_mov rfl s49 rr) (wl_vw (.bool true) 7 false 22 rfl rfl rfl rfl rfl (y_geq rfl rfl rfl (decide_eq_true d124) rr) (wl_v (.bool true) rfl rfl (y_pickF rfl rfl rfl rr) (wl_v (.bool true) rfl rfl (y_mov rfl rfl rr) (wl_unless 11 false 26 rfl rfl rfl (Or.inl rfl) rfl (wl_unless 11 false 26 rfl rfl rfl (Or.inl rfl) rfl ?_)))))))))))
    refine wl_unless 11 false 26 rfl rfl rfl (Or.inl rfl) rfl (wl_v (.bool true) rfl rfl (y_pickT rfl rfl rfl rr) (wl_v (.bool true) rfl rfl (y_mov rfl rfl rr) (wl_unless 16 false 31 rfl rfl rfl (Or.inl rfl) rfl (wl_unless 16 false 31 rfl rfl rfl (Or.inl rfl) rfl (wl_unless 16 false 31 rfl rfl rfl (Or.inl rfl) rfl (wl_v (.bool true) rfl rfl (y_pickT rfl rfl rfl rr) (wl_nil fun F134 hF135 => ?_)))))))
    obtain ⟨s139, s142⟩ := t2 hF135 69 s52 10 s55
    have s143 : F134 35 = .bool true := (hF135 35).trans rfl
    clear hF135
    refine then_normal ?_
    refine wq_cond (t := true) s143 (fun _ => ?_) (fun e => by cases e)
    refine wq_seq ?_
    have hno : ¬ placeF f p x y := by rintro ⟨h1, h2, h3, h4, h5, h6, h7⟩; first | exact absurd ((checkE_iff f).2 h1) (by assumption) | omega
    refine wq_region (wl_v (blkV (fun _ => 0)) rfl rfl (y_buildR (cells := (arrL 16 (fun _ => 0)).toArray) rfl (by kernel_rfl) rfl rr) (wl_store_blk blkT_block rfl rfl rfl s142 rfl B132 fun w144 B145 k146 => ?_))
    have K152 := K133.trans k146 (Grew.ok (S := fun _ => False) gr35 noB_le)
    refine wl_v (iv 70) rfl rfl (y_asg rfl rfl rr) (wl_nil fun F153 hF154 => ?_)
    obtain ⟨s155, s156⟩ := t2 hF154 69 s139 10 s142
    have s157 : F153 11 = iv 70 := (hF154 11).trans rfl
    clear hF154
    refine then_normal (wq_ret (then_ret ?_))
    exact end_2 s155 rfl (res_blk blkT_block rfl s156 B145) (res_tmp (v := iv 70) rfl s157) ⟨(by first | rw [(mv_no hno).1, (mv_no hno).2] | rw [(mv_none hpl hvn).1, (mv_none hpl hvn).2, vecE_no hvn] | rw [(mv_yes hpl hv).1, (mv_yes hpl hv).2]), K152⟩
   ·skip
    by_cases d158 : 0 ≤ x ∧ x ≤ 64
    ·skip
     by_cases d159 : 0 ≤ y ∧ y ≤ 64
     ·skip
      refine wq_region (wl_v (.agg #[iv (f.W), iv (f.H), f0, f1, f2]) rfl rfl (y_load_stc stcT_frame rfl s53 B44 rr) (wl_cs rfl rfl rfl rfl rfl (fun _ _ => by kernel_rfl) (vsC rfl vsN) (pl_check f f0 f1 f2 T_f0 T_f1 T_f2 _  B41 B42 B43 ) fun w160 k161 => ?_))
      have B162 := B41.all k161 Apart.none
      have B163 := B42.all k161 Apart.none
      have B164 := B43.all k161 Apart.none
      have B165 := B44.all k161 id
      have B166 := B45.all k161 id
      have B167 := B31.all k161 id
      have K168 := K46.tr k161
      refine wl_v (.bool false) rfl rfl (y_neqI rfl rfl rfl (decide_eq_false d56) rr) (wl_v (.bool false) rfl rfl (y_mov rfl rfl rr) (wl_vw (iv p) 3 false 18 rfl rfl rfl rfl rfl (y_mov rfl s49 rr) (wl_vw (.bool false) 3 false 18 rfl rfl rfl rfl rfl (y_lss rfl rfl rfl (decide_eq_false d90) rr) (wl_v (.bool false) rfl rfl (y_pickF rfl rfl rfl rr) (wl_v (.bool false) rfl rfl (y_mov rfl rfl rr) (wl_vw (iv p) 7 false 22 rfl rfl rfl rfl rfl (y_mov rfl s49 rr) (wl_vw (.bool false) 7 false 22 rfl rfl rfl rfl rfl (y_geq rfl rfl rfl (decide_eq_false d124) rr) (wl_v (.bool false) rfl rfl (y_pickF rfl rfl rfl rr) (wl_v (.bool false) rfl rfl (y_mov rfl rfl rr) (wl_vw (iv x) 11 false 26 rfl rfl rfl rfl rfl (y_mov rfl s50 rr) (wl_callw (R := fun v_ w_ => v_ = .bool true ∧ Kept (fun _ => False) w160 w_) 11 false 26 rfl rfl rfl rfl rfl (y_cs rfl rfl rfl (fun _ _ => by kernel_rfl) (ev_func _) (vsC rfl vsN) (mo_mayPlace x  _   ) (fun e_ w_ h_ => ⟨_, h_.1, (congrArg Value.bool (decide_eq_true d158)), h_.2⟩)) ?_)))))))))))
      rintro _ w169 ⟨rfl, k170⟩
      have B171 := B162.all k170 Apart.none
      have B172 := B163.all k170 Apart.none
      have B173 := B164.all k170 Apart.none
      have B174 := B165.all k170 id
      have B175 := B166.all k170 id
      have B176 := B167.all k170 id
      have K177 := K168.tr k170
      refine wl_vw (.bool false) 11 false 26 rfl rfl rfl rfl rfl (y_not rfl rfl rfl rr) (wl_v (.bool false) rfl rfl (y_pickF rfl rfl rfl rr) (wl_v (.bool false) rfl rfl (y_mov rfl rfl rr) (wl_vw (iv y) 16 false 31 rfl rfl rfl rfl rfl (y_mov rfl s51 rr) (wl_callw (R := fun v_ w_ => v_ = .bool true ∧ Kept (fun _ => False) w169 w_) 16 false 31 rfl rfl rfl rfl rfl (y_cs rfl rfl rfl (fun _ _ => by kernel_rfl) (ev_func _) (vsC rfl vsN) (mo_mayPlace y  _   ) (fun e_ w_ h_ => ⟨_, h_.1, (congrArg Value.bool (decide_eq_true d159)), h_.2⟩)) ?_))))
      rintro _ w178 ⟨rfl, k179⟩
      have B180 := B171.all k179 Apart.none
      have B181 := B172.all k179 Apart.none
      have B182 := B173.all k179 Apart.none
      have B183 := B174.all k179 id
      have B184 := B175.all k179 id
      have B185 := B176.all k179 id
      have K186 := K177.tr k179
      refine wl_vw (.bool false) 16 false 31 rfl rfl rfl rfl rfl (y_not rfl rfl rfl rr) (wl_v (.bool false) rfl rfl (y_pickF rfl rfl rfl rr) (wl_nil fun F187 hF188 => ?_))
      obtain ⟨s189, s190, s191, s192, s193, s194, s195⟩ := t7 hF188 1 s49 2 s50 3 s51 69 s52 5 s53 9 s54 10 s55
      have s196 : F187 35 = .bool false := (hF188 35).trans rfl
      clear hF188
      refine then_normal ?_
      refine wq_cond (t := false) s196 (fun e => by cases e) (fun _ => ?_)
      refine wq_skip (then_normal (wq_seq (wq_seq ?_)))
      have hpl : placeF f p x y := ⟨(checkE_iff f).1 (by first | assumption | (apply Decidable.byContradiction; assumption)), by omega, by omega, by omega, by omega, by omega, by omega⟩
      refine wq_region (wl_v (.agg #[iv X, iv Y]) rfl rfl (y_load_stc stcT_vector rfl s194 B184 rr) (wl_cs rfl rfl rfl rfl rfl (fun _ _ => by kernel_rfl) (vsC rfl vsN) (mo_check X Y  _   ) fun w197 k198 => ?_))
      have B199 := B180.all k198 Apart.none
      have B200 := B181.all k198 Apart.none
      have B201 := B182.all k198 Apart.none
      have B202 := B183.all k198 id
      have B203 := B184.all k198 id
      have B204 := B185.all k198 id
      have K205 := K186.tr k198
      refine wl_v (iv (vecE X Y)) rfl rfl (y_asg rfl rfl rr) (wl_nil fun F206 hF207 => ?_)
      obtain ⟨s208, s209, s210, s211, s212, s213, s214⟩ := t7 hF207 1 s189 2 s190 3 s191 69 s192 5 s193 9 s194 10 s195
      have s215 : F206 12 = iv (vecE X Y) := (hF207 12).trans rfl
      clear hF207
      refine then_normal (wq_seq (wq_region (wl_mv rfl rfl rfl s215 (wl_v (.bool (decide ((vecE X Y) ≠ 0))) rfl rfl (y_neqI rfl rfl rfl rfl rr) (wl_nil fun F216 hF217 => ?_)))))
      obtain ⟨s218, s219, s220, s221, s222, s223, s224, s225⟩ := t8 hF217 1 s208 2 s209 3 s210 69 s211 5 s212 9 s213 10 s214 12 s215
      have s226 : F216 40 = .bool (decide ((vecE X Y) ≠ 0)) := (hF217 40).trans rfl
      clear hF217
      refine then_normal ?_
      refine wq_cond s226 (fun c227 => ?_) (fun c227 => ?_)
      ·replace c227 := of_decide_eq_true c227
       refine wq_seq ?_
       have hvn : ¬ vecOk X Y := fun h => absurd ((vecE_iff X Y).2 h) (by assumption)
       refine wq_region (wl_v (blkV (fun _ => 0)) rfl rfl (y_buildR (cells := (arrL 16 (fun _ => 0)).toArray) rfl (by kernel_rfl) rfl rr) (wl_mv rfl rfl rfl s225 (wl_store_blk blkT_block rfl rfl rfl s224 rfl B204 fun w228 B229 k230 => ?_)))
       have K236 := K205.trans k230 (Grew.ok (S := fun _ => False) gr35 noB_le)
       refine wl_v (iv (vecE X Y)) rfl rfl (y_asg rfl rfl rr) (wl_nil fun F237 hF238 => ?_)
       obtain ⟨s239, s240⟩ := t2 hF238 69 s221 10 s224
       have s241 : F237 11 = iv (vecE X Y) := (hF238 11).trans rfl
       clear hF238
       refine then_normal (wq_ret (then_ret ?_))
       exact end_2 s239 rfl (res_blk blkT_block rfl s240 B229) (res_tmp (v := iv (vecE X Y)) rfl s241) ⟨(by first | rw [(mv_no hno).1, (mv_no hno).2] | rw [(mv_none hpl hvn).1, (mv_none hpl hvn).2, vecE_no hvn] | rw [(mv_yes hpl hv).1, (mv_yes hpl hv).2]), K236⟩
      ·replace c227 := of_decide_eq_false c227
       refine wq_skip (then_normal (wq_seq ?_))
       have hv : vecOk X Y := (vecE_iff X Y).1 (by first | assumption | (apply Decidable.byContradiction; assumption))
       obtain ⟨hv1, hv2, hv3, hv4⟩ := (show vecOk X Y from hv)
       refine wq_region (wl_alloc_blk rfl rfl rfl blkT_block.2.2 fun p242 w243 e246 B244 k245 => ?_)
       have g247 := onB_new (Nat.le_of_eq e246.symm)
       have gr248 : Grew w0 noB (onB p242) := Grew.new K205 g247
       have ap249 : Apart (onB p242) T_f0 := Apart.new g247 B199.live
       have ap250 : Apart (onB p242) T_f1 := Apart.new g247 B200.live
       have ap251 : Apart (onB p242) T_f2 := Apart.new g247 B201.live
       have ap252 : Apart (onB p242) (onB p1) := Apart.new g247 (onB_live B202.lt)
       have ap253 : Apart (onB p242) (onB p14) := Apart.new g247 (onB_live B203.lt)
       have ap254 : Apart (onB p242) (onB p29) := Apart.new g247 (onB_live B204.lt)
       clear e246 g247
       have B255 := B199.all k245 Apart.none
       have B256 := B200.all k245 Apart.none
       have B257 := B201.all k245 Apart.none
       have B258 := B202.all k245 id
       have B259 := B203.all k245 id
       have B260 := B204.all k245 id
       have K261 := K205.tr k245
       refine wl_nil fun F262 hF263 => ?_
       obtain ⟨s264, s265, s266, s267, s268, s269, s270⟩ := t7 hF263 1 s218 2 s219 3 s220 69 s221 5 s222 9 s223 10 s224
       have s271 : F262 13 = pt p242 0 := (hF263 13).trans rfl
       clear hF263
       refine then_normal (wq_seq (wq_seq (wq_region (wl_v (iv 0) rfl rfl (y_mov rfl rfl rr) (wl_nil fun F272 hF273 => ?_)))))
       obtain ⟨s274, s275, s276, s277, s278, s279, s280, s281⟩ := t8 hF273 1 s264 2 s265 3 s266 69 s267 5 s268 9 s269 10 s270 13 s271
       have s282 : F272 43 = iv 0 := (hF273 43).trans rfl
       clear hF273
       refine then_normal (wq_block (wq_loop (fun nn FF ww => ∃ (n : Nat), (n ≤ 16) ∧ nn = 16 - n ∧ FF 1 = iv p ∧ FF 2 = iv x ∧ FF 3 = iv y ∧ FF 5 = pt p1 0 ∧ FF 9 = pt p14 0 ∧ FF 10 = pt p29 0 ∧ FF 13 = pt p242 0 ∧ FF 69 = undef ∧ FF 43 = iv ((n : Nat) : Int) ∧ Kept (fun _ => False) w0 ww ∧ Byt ww T_f0 f0 (f.p0) ∧ Byt ww T_f1 f1 (f.p1) ∧ Byt ww T_f2 f2 (f.p2) ∧ Stc ww p1 29 [iv (f.W), iv (f.H), f0, f1, f2] ∧ Stc ww p14 67 [iv X, iv Y] ∧ Blk ww p29 69 (fun _ => 0) ∧ Blk ww p242 69 (upto n (fun _ => 0) (mvN f p x y X Y))) (16 - 0) ⟨0, by omega, rfl, s274, s275, s276, s278, s279, s280, s281, s277, s282, K261, B255, B256, B257, B258, B259, B260, B244.first⟩ ?_))
       rintro n286 F283 w284 ⟨n, i287, hn286, s288, s289, s290, s291, s292, s293, s294, s295, s296, K285, B297, B298, B299, B300, B301, B302, B303⟩
       refine wq_seq (wq_region (wl_v (.bool (decide (((n : Nat) : Int) < 16))) rfl rfl (y_lss rfl s296 rfl rfl rr) (wl_nil fun F304 hF305 => ?_)))
       obtain ⟨s306, s307, s308, s309, s310, s311, s312, s313, s314⟩ := t9 hF305 1 s288 2 s289 3 s290 5 s291 9 s292 10 s293 13 s294 69 s295 43 s296
       have s315 : F304 44 = .bool (decide (((n : Nat) : Int) < 16)) := (hF305 44).trans rfl
       clear hF305
       refine then_normal (wq_seq ?_)
       refine wq_cond s315 (fun c316 => ?_) (fun c316 => ?_)
       ·replace c316 := of_decide_eq_true c316
        refine wq_skip (then_normal (wq_seq (wq_block (wq_seq (wq_region (wl_mv rfl rfl rfl s314 (wl_v (iv ((n : Nat) : Int)) rfl rfl (y_asg rfl rfl rr) (wl_nil fun F317 hF318 => ?_))))))))
        obtain ⟨s319, s320, s321, s322, s323, s324, s325, s326, s327⟩ := t9 hF318 1 s306 2 s307 3 s308 5 s309 9 s310 10 s311 13 s312 69 s313 43 s314
        have s328 : F317 14 = iv ((n : Nat) : Int) := (hF318 14).trans rfl
        clear hF318
        refine then_normal (wq_region (wl_mv rfl rfl rfl s328 (wl_v (.agg #[iv (f.W), iv (f.H), f0, f1, f2]) rfl rfl (y_load_stc stcT_frame rfl s322 B300 rr) (wl_mv rfl rfl rfl s319 (wl_mv rfl rfl rfl s320 (wl_mv rfl rfl rfl s328 (wl_v (iv (((n % 4) : Nat) : Int)) rfl rfl (y_rem rfl rfl rfl (by first | decide | omega) (rem_nat n 4) rr) (wl_v (iv (x + (((n % 4) : Nat) : Int))) rfl rfl (y_add rfl rfl rfl (i64_i rfl (by omega)) rr) (wl_v (iv (2 * (x + (((n % 4) : Nat) : Int)))) rfl rfl (y_mul rfl rfl rfl (i64_i rfl (by omega)) rr) (wl_v (pt p14 0) rfl rfl (y_fieldR (n := 1) rfl s323 Tryz.underlying67 rfl (by kernel_rfl) (by decide) rfl rr) (wl_v (iv X) rfl rfl (y_ld_stc rfl rfl Tryz.underlying3 B301 rfl rfl rr) ?_)))))))))))
        refine wl_v (iv ((2 * (x + (((n % 4) : Nat) : Int))) + X)) rfl rfl (y_add rfl rfl rfl (i64_i rfl (by omega)) rr) (wl_mv rfl rfl rfl s321 (wl_mv rfl rfl rfl s328 (wl_v (iv (((n / 4) : Nat) : Int)) rfl rfl (y_quo rfl rfl rfl (by first | decide | omega) (i64_n (quo_nat n 4) (by omega)) rr) (wl_v (iv (y + (((n / 4) : Nat) : Int))) rfl rfl (y_add rfl rfl rfl (i64_i rfl (by omega)) rr) (wl_v (iv (2 * (y + (((n / 4) : Nat) : Int)))) rfl rfl (y_mul rfl rfl rfl (i64_i rfl (by omega)) rr) (wl_v (pt p14 1) rfl rfl (y_fieldR (n := 1) rfl s323 Tryz.underlying67 rfl (by kernel_rfl) (by decide) rfl rr) (wl_v (iv Y) rfl rfl (y_ld_stc rfl rfl Tryz.underlying3 B301 rfl rfl rr) (wl_v (iv ((2 * (y + (((n / 4) : Nat) : Int))) + Y)) rfl rfl (y_add rfl rfl rfl (i64_i rfl (by omega)) rr) (wl_cs rfl rfl rfl rfl rfl (fun _ _ => by kernel_rfl) (vsC rfl (vsC rfl (vsC rfl (vsC rfl vsN)))) (mo_sample p ((2 * (x + (((n % 4) : Nat) : Int))) + X) ((2 * (y + (((n / 4) : Nat) : Int))) + Y) f f0 f1 f2 T_f0 T_f1 T_f2 _  B297 B298 B299 ) fun w329 k330 => ?_)))))))))
        have B331 := B297.all k330 Apart.none
        have B332 := B298.all k330 Apart.none
        have B333 := B299.all k330 Apart.none
        have B334 := B300.all k330 id
        have B335 := B301.all k330 id
        have B336 := B302.all k330 id
        have B337 := B303.all k330 id
        have K338 := K285.tr k330
        refine wl_v (.pointer (some ⟨p242, n, none⟩)) rfl rfl (y_atR n (s := 1) rfl s325 rfl (by omega) Tryz.underlying69 (by omega) (by kernel_rfl) (by omega) rr) (wl_set_blk rfl rfl rfl rfl rfl B337 (by omega) (by kernel_rfl) fun w339 B340 k341 => ?_)
        have B342 := B331.all k341 ap249.symm
        have B343 := B332.all k341 ap250.symm
        have B344 := B333.all k341 ap251.symm
        have B345 := B334.all k341 (ap252.symm p1 rfl)
        have B346 := B335.all k341 (ap253.symm p14 rfl)
        have B347 := B336.all k341 (ap254.symm p29 rfl)
        have K348 := K338.trans k341 (Grew.ok (S := fun _ => False) gr248 noB_le)
        refine wl_nil fun F349 hF350 => ?_
        obtain ⟨s351, s352, s353, s354, s355, s356, s357, s358, s359⟩ := t9 hF350 1 s319 2 s320 3 s321 5 s322 9 s323 10 s324 13 s325 69 s326 43 s327
        clear hF350
        refine in_normal (then_normal (wq_region (wl_v (iv ((n + 1 : Nat) : Int)) rfl rfl (y_add rfl s359 rfl (i64_n (by omega) (by omega)) rr) (wl_v (iv ((n + 1 : Nat) : Int)) rfl rfl (y_mov rfl rfl rr) (wl_nil fun F360 hF361 => ?_)))))
        obtain ⟨s362, s363, s364, s365, s366, s367, s368, s369⟩ := t8 hF361 1 s351 2 s352 3 s353 5 s354 9 s355 10 s356 13 s357 69 s358
        have s370 : F360 43 = iv ((n + 1 : Nat) : Int) := (hF361 43).trans rfl
        clear hF361
        exact then_normal ⟨(16 - (n + 1)), by omega, n + 1, by omega, rfl, s362, s363, s364, s365, s366, s367, s368, s369, s370, K348, B342, B343, B344, B345, B346, B347, (B340.next rfl)⟩
       ·replace c316 := of_decide_eq_false c316
        refine wq_exit (then_exit (then_exit ?_))
        have l371 : 16 = n := by omega
        subst l371
        have B372 : Blk w284 p242 69 (mvN f p x y X Y) := (B303.last)
        refine in_here (then_normal (wq_seq (wq_region (wl_v (blkV (mvN f p x y X Y)) rfl rfl (y_load_blk blkT_block rfl s312 B372 rr) (wl_store_blk blkT_block rfl rfl rfl s311 rfl B302 fun w373 B374 k375 => ?_)))))
        have K382 := K285.trans k375 (Grew.ok (S := fun _ => False) gr35 noB_le)
        refine wl_v (iv 0) rfl rfl (y_asg rfl rfl rr) (wl_nil fun F383 hF384 => ?_)
        obtain ⟨s385, s386⟩ := t2 hF384 10 s311 69 s313
        have s387 : F383 11 = iv 0 := (hF384 11).trans rfl
        clear hF384
        refine then_normal (wq_ret ?_)
        exact end_2 s386 rfl (res_blk blkT_block rfl s385 B374) (res_tmp (v := iv 0) rfl s387) ⟨(by first | rw [(mv_no hno).1, (mv_no hno).2] | rw [(mv_none hpl hvn).1, (mv_none hpl hvn).2, vecE_no hvn] | rw [(mv_yes hpl hv).1, (mv_yes hpl hv).2]), K382⟩
     ·skip
      refine wq_region (wl_v (.agg #[iv (f.W), iv (f.H), f0, f1, f2]) rfl rfl (y_load_stc stcT_frame rfl s53 B44 rr) (wl_cs rfl rfl rfl rfl rfl (fun _ _ => by kernel_rfl) (vsC rfl vsN) (pl_check f f0 f1 f2 T_f0 T_f1 T_f2 _  B41 B42 B43 ) fun w388 k389 => ?_))
      have B395 := B31.all k389 id
      have K396 := K46.tr k389
      refine wl_v (.bool false) rfl rfl (y_neqI rfl rfl rfl (decide_eq_false d56) rr) (wl_v (.bool false) rfl rfl (y_mov rfl rfl rr) (wl_vw (iv p) 3 false 18 rfl rfl rfl rfl rfl (y_mov rfl s49 rr) (wl_vw (.bool false) 3 false 18 rfl rfl rfl rfl rfl (y_lss rfl rfl rfl (decide_eq_false d90) rr) (wl_v (.bool false) rfl rfl (y_pickF rfl rfl rfl rr) (wl_v (.bool false) rfl rfl (y_mov rfl rfl rr) (wl_vw (iv p) 7 false 22 rfl rfl rfl rfl rfl (y_mov rfl s49 rr) (wl_vw (.bool false) 7 false 22 rfl rfl rfl rfl rfl (y_geq rfl rfl rfl (decide_eq_false d124) rr) (wl_v (.bool false) rfl rfl (y_pickF rfl rfl rfl rr) (wl_v (.bool false) rfl rfl (y_mov rfl rfl rr) (wl_vw (iv x) 11 false 26 rfl rfl rfl rfl rfl (y_mov rfl s50 rr) (wl_callw (R := fun v_ w_ => v_ = .bool true ∧ Kept (fun _ => False) w388 w_) 11 false 26 rfl rfl rfl rfl rfl (y_cs rfl rfl rfl (fun _ _ => by kernel_rfl) (ev_func _) (vsC rfl vsN) (mo_mayPlace x  _   ) (fun e_ w_ h_ => ⟨_, h_.1, (congrArg Value.bool (decide_eq_true d158)), h_.2⟩)) ?_)))))))))))
      rintro _ w397 ⟨rfl, k398⟩
      have B404 := B395.all k398 id
      have K405 := K396.tr k398
      refine wl_vw (.bool false) 11 false 26 rfl rfl rfl rfl rfl (y_not rfl rfl rfl rr) (wl_v (.bool false) rfl rfl (y_pickF rfl rfl rfl rr) (wl_v (.bool false) rfl rfl (y_mov rfl rfl rr) (wl_vw (iv y) 16 false 31 rfl rfl rfl rfl rfl (y_mov rfl s51 rr) (wl_callw (R := fun v_ w_ => v_ = .bool false ∧ Kept (fun _ => False) w397 w_) 16 false 31 rfl rfl rfl rfl rfl (y_cs rfl rfl rfl (fun _ _ => by kernel_rfl) (ev_func _) (vsC rfl vsN) (mo_mayPlace y  _   ) (fun e_ w_ h_ => ⟨_, h_.1, (congrArg Value.bool (decide_eq_false d159)), h_.2⟩)) ?_))))
      rintro _ w406 ⟨rfl, k407⟩
      have B413 := B404.all k407 id
      have K414 := K405.tr k407
      refine wl_vw (.bool true) 16 false 31 rfl rfl rfl rfl rfl (y_not rfl rfl rfl rr) (wl_v (.bool true) rfl rfl (y_pickF rfl rfl rfl rr) (wl_nil fun F415 hF416 => ?_))
      obtain ⟨s420, s423⟩ := t2 hF416 69 s52 10 s55
      have s424 : F415 35 = .bool true := (hF416 35).trans rfl
      clear hF416
      refine then_normal ?_
      refine wq_cond (t := true) s424 (fun _ => ?_) (fun e => by cases e)
      refine wq_seq ?_
      have hno : ¬ placeF f p x y := by rintro ⟨h1, h2, h3, h4, h5, h6, h7⟩; first | exact absurd ((checkE_iff f).2 h1) (by assumption) | omega
      refine wq_region (wl_v (blkV (fun _ => 0)) rfl rfl (y_buildR (cells := (arrL 16 (fun _ => 0)).toArray) rfl (by kernel_rfl) rfl rr) (wl_store_blk blkT_block rfl rfl rfl s423 rfl B413 fun w425 B426 k427 => ?_))
      have K433 := K414.trans k427 (Grew.ok (S := fun _ => False) gr35 noB_le)
      refine wl_v (iv 70) rfl rfl (y_asg rfl rfl rr) (wl_nil fun F434 hF435 => ?_)
      obtain ⟨s436, s437⟩ := t2 hF435 69 s420 10 s423
      have s438 : F434 11 = iv 70 := (hF435 11).trans rfl
      clear hF435
      refine then_normal (wq_ret (then_ret ?_))
      exact end_2 s436 rfl (res_blk blkT_block rfl s437 B426) (res_tmp (v := iv 70) rfl s438) ⟨(by first | rw [(mv_no hno).1, (mv_no hno).2] | rw [(mv_none hpl hvn).1, (mv_none hpl hvn).2, vecE_no hvn] | rw [(mv_yes hpl hv).1, (mv_yes hpl hv).2]), K433⟩
    ·skip
     refine wq_region (wl_v (.agg #[iv (f.W), iv (f.H), f0, f1, f2]) rfl rfl (y_load_stc stcT_frame rfl s53 B44 rr) (wl_cs rfl rfl rfl rfl rfl (fun _ _ => by kernel_rfl) (vsC rfl vsN) (pl_check f f0 f1 f2 T_f0 T_f1 T_f2 _  B41 B42 B43 ) fun w439 k440 => ?_))
     have B446 := B31.all k440 id
     have K447 := K46.tr k440
     refine wl_v (.bool false) rfl rfl (y_neqI rfl rfl rfl (decide_eq_false d56) rr) (wl_v (.bool false) rfl rfl (y_mov rfl rfl rr) (wl_vw (iv p) 3 false 18 rfl rfl rfl rfl rfl (y_mov rfl s49 rr) (wl_vw (.bool false) 3 false 18 rfl rfl rfl rfl rfl (y_lss rfl rfl rfl (decide_eq_false d90) rr) (wl_v (.bool false) rfl rfl (y_pickF rfl rfl rfl rr) (wl_v (.bool false) rfl rfl (y_mov rfl rfl rr) (wl_vw (iv p) 7 false 22 rfl rfl rfl rfl rfl (y_mov rfl s49 rr) (wl_vw (.bool false) 7 false 22 rfl rfl rfl rfl rfl (y_geq rfl rfl rfl (decide_eq_false d124) rr) (wl_v (.bool false) rfl rfl (y_pickF rfl rfl rfl rr) (wl_v (.bool false) rfl rfl (y_mov rfl rfl rr) (wl_vw (iv x) 11 false 26 rfl rfl rfl rfl rfl (y_mov rfl s50 rr) (wl_callw (R := fun v_ w_ => v_ = .bool false ∧ Kept (fun _ => False) w439 w_) 11 false 26 rfl rfl rfl rfl rfl (y_cs rfl rfl rfl (fun _ _ => by kernel_rfl) (ev_func _) (vsC rfl vsN) (mo_mayPlace x  _   ) (fun e_ w_ h_ => ⟨_, h_.1, (congrArg Value.bool (decide_eq_false d158)), h_.2⟩)) ?_)))))))))))
     rintro _ w448 ⟨rfl, k449⟩
     have B455 := B446.all k449 id
     have K456 := K447.tr k449
     refine wl_vw (.bool true) 11 false 26 rfl rfl rfl rfl rfl (y_not rfl rfl rfl rr) (wl_v (.bool true) rfl rfl (y_pickF rfl rfl rfl rr) (wl_v (.bool true) rfl rfl (y_mov rfl rfl rr) (wl_unless 16 false 31 rfl rfl rfl (Or.inl rfl) rfl (wl_unless 16 false 31 rfl rfl rfl (Or.inl rfl) rfl (wl_unless 16 false 31 rfl rfl rfl (Or.inl rfl) rfl (wl_v (.bool true) rfl rfl (y_pickT rfl rfl rfl rr) (wl_nil fun F457 hF458 => ?_)))))))
     obtain ⟨s462, s465⟩ := t2 hF458 69 s52 10 s55
     have s466 : F457 35 = .bool true := (hF458 35).trans rfl
     clear hF458
     refine then_normal ?_
     refine wq_cond (t := true) s466 (fun _ => ?_) (fun e => by cases e)
     refine wq_seq ?_
     have hno : ¬ placeF f p x y := by rintro ⟨h1, h2, h3, h4, h5, h6, h7⟩; first | exact absurd ((checkE_iff f).2 h1) (by assumption) | omega
     refine wq_region (wl_v (blkV (fun _ => 0)) rfl rfl (y_buildR (cells := (arrL 16 (fun _ => 0)).toArray) rfl (by kernel_rfl) rfl rr) (wl_store_blk blkT_block rfl rfl rfl s465 rfl B455 fun w467 B468 k469 => ?_))
     have K475 := K456.trans k469 (Grew.ok (S := fun _ => False) gr35 noB_le)
     refine wl_v (iv 70) rfl rfl (y_asg rfl rfl rr) (wl_nil fun F476 hF477 => ?_)
     obtain ⟨s478, s479⟩ := t2 hF477 69 s462 10 s465
     have s480 : F476 11 = iv 70 := (hF477 11).trans rfl
     clear hF477
     refine then_normal (wq_ret (then_ret ?_))
     exact end_2 s478 rfl (res_blk blkT_block rfl s479 B468) (res_tmp (v := iv 70) rfl s480) ⟨(by first | rw [(mv_no hno).1, (mv_no hno).2] | rw [(mv_none hpl hvn).1, (mv_none hpl hvn).2, vecE_no hvn] | rw [(mv_yes hpl hv).1, (mv_yes hpl hv).2]), K475⟩
end Go.Proofs.YtknjpdcpmpfklaaGreatDoor
set_option maxRecDepth 100000
namespace Go.Proofs.YtknjpdcpmpfklaaGreatDoor
open Go.RowKit
structure Ch where
  m : Int
  px : Int
  py : Int
  nx : Int
  ny : Int
  b : Nat → Int
def chV (c : Ch) : List Value := .int .i64 c.m :: .int .i64 c.px :: .int .i64 c.py :: .int .i64 c.nx :: .int .i64 c.ny :: arrL 16 c.b
abbrev chL (m px py nx ny : Int) (b : Nat → Int) : List Value := [.int .i64 m, .int .i64 px, .int .i64 py, .int .i64 nx, .int .i64 ny, .int .i64 (b 0), .int .i64 (b 1), .int .i64 (b 2), .int .i64 (b 3), .int .i64 (b 4), .int .i64 (b 5), .int .i64 (b 6), .int .i64 (b 7), .int .i64 (b 8), .int .i64 (b 9), .int .i64 (b 10), .int .i64 (b 11), .int .i64 (b 12), .int .i64 (b 13), .int .i64 (b 14), .int .i64 (b 15)]
abbrev chW (c : Ch) : List Value := chL c.m c.px c.py c.nx c.ny c.b
theorem one_arrL (n : Nat) (b : Nat → Int) : OneAll (arrL n b) := fun v h => by
  obtain ⟨i, _, rfl⟩ := List.mem_map.1 h; rfl
theorem one_ch (c : Ch) : OneAll (chV c) := oneI rfl (oneI rfl (oneI rfl (oneI rfl (oneI rfl (one_arrL 16 c.b)))))
theorem stcT_choice : StcT Tryz.prog 71 21 := ⟨_, Tryz.underlying71, rfl, by kernel_rfl⟩
theorem stcT_block : StcT Tryz.prog 69 16 := ⟨_, Tryz.underlying69, rfl, by kernel_rfl⟩
section
variable {P : Program} {ρ : Operand → Value} {o : Oper} {w : World} {R : Value → World → Prop}
theorem y_ldPart {ty t : TypeId} {x : Operand} {p k n : Nat} {vs us : List Value} (hT : StcT P ty n) (ho : o.op = .load ty x) (hx : ρ x = .pointer (some ⟨p, k, none⟩)) (hB : Stc w p t vs) (hkn : k + n ≤ vs.length) (hu : (vs.drop k).take n = us) (h : R (.agg us.toArray) w) : Yields P ρ o w R := by
  subst hu
  obtain ⟨d, hu, hd, hs⟩ := hT
  have hlen : ((vs.drop k).take n).length = n := by rw [List.length_take, List.length_drop]; omega
  have e := run_loadVar_mid (P := P) w p k ty ((vs.drop k).take n) d (fun q u hq => by
    have hqn : q < n := by have := (List.getElem?_eq_some_iff.1 hq).1; omega
    exact hB.cell (by rwa [List.getElem?_take, if_pos hqn, List.getElem?_drop] at hq)) hu hd (by rw [hlen]; exact hs)
  exact y_val (v := .agg ((vs.drop k).take n).toArray) (w' := w) (by simp only [execOp, ho, hx, Instr.loadAt, Instr.sureAddr, Sem.run_bind, Sem.run_pure, Result.andThen_ok, e]) h
theorem y_setPart {ty t : TypeId} {x y : Operand} {p k : Nat} {vs us ns : List Value} (hT : StcT P ty us.length) (ho : o.op = .store ty x y) (hx : ρ x = .pointer (some ⟨p, k, none⟩)) (hy : ρ y = .agg us.toArray) (hB : Stc w p t vs) (hk : k + us.length ≤ vs.length) (h1 : OneAll us) (hn : vs.take k ++ us ++ vs.drop (k + us.length) = ns)
    (h : ∀ w', Stc w' p t ns → Kept (fun k => k = p) w w' → R undef w') : Yields P ρ o w R := by
  subst hn
  obtain ⟨d, _, _, hs⟩ := hT
  have hst := run_storeCells_at P p k t us 0 vs.toArray w hB (by simpa using hk) h1
  simp only [Nat.add_zero] at hst
  cases hq : P.info? ty with
  | none => rw [hq] at hs; cases hs
  | some i =>
    have hs' : i.size = us.length := by simpa [hq] using hs
    have hsv : (storeVar ty ⟨p, k, none⟩ (.agg us.toArray)).run P w = .ok () (w.setRow p (vs.take k ++ us ++ vs.drop (k + us.length)).toArray) := by
      simp [storeVar, sizeOf, typeInfo, hq, hs', Value.cells, hst]
    have e : (execOp ρ o).run P w = .ok .skip (w.setRow p (vs.take k ++ us ++ vs.drop (k + us.length)).toArray) := by
      simp only [execOp, ho, hx, hy, Instr.storeAt, Instr.sureAddr, Sem.run_bind, Sem.run_pure, Result.andThen_ok, hsv]
    unfold Yields
    rw [e]
    exact h _ (setRow_heap _ _ _ _ _ _ hB) ((Kept.refl (fun k => k = p) w).setRow p (fun _ => rfl) _)
end
section
variable {ro : Option Nat} {P : Program} {N : Nat} {Q : (Exit → (Nat → Value) → World → Prop)} {F : Nat → Value} {w : World} {o : Oper}
theorem wl_setPart {ops : Array Oper} {rest : List Oper} {ty t : TypeId} {x y : Operand} {p k : Nat} {vs us ns : List Value} (hT : StcT P ty us.length) (hg : o.guard = none) (hdn : o.dst = none) (ho : o.op = .store ty x y) (hx : ev (cutF N F) x = .pointer (some ⟨p, k, none⟩)) (hy : ev (cutF N F) y = .agg us.toArray) (hB : Stc w p t vs) (hk : k + us.length ≤ vs.length) (h1 : OneAll us) (hn : vs.take k ++ us ++ vs.drop (k + us.length) = ns)
    (h : ∀ w', Stc w' p t ns → Kept (fun k => k = p) w w' → wl ro P N ops Q rest F w') : wl ro P N ops Q (o :: rest) F w := by
  refine wl_op hg (by rw [hdn]; rfl) (y_setPart hT ho hx hy hB hk h1 hn fun w' hw hk => ?_)
  rw [hdn]
  exact h w' hw hk
end
end Go.Proofs.YtknjpdcpmpfklaaGreatDoor
set_option maxRecDepth 100000
namespace Go.Proofs.YtknjpdcpmpfklaaGreatDoor
def pastB (m : Int) : Bool := decide (m = 4) || decide (m = 6)
def nextB (m : Int) : Bool := decide (m = 5) || decide (m = 6)
def mostK (k : Int) : Int := if k = 0 then 3 else if k = 1 then 4 else if k = 2 then 6 else -1
def badM (k : Int) (c : Ch) : Prop := c.m < 0 ∨ mostK k < c.m ∨ (pastB c.m = false ∧ sameVec c.px c.py 0 0 = false) ∨ (nextB c.m = false ∧ sameVec c.nx c.ny 0 0 = false)
instance (k : Int) (c : Ch) : Decidable (badM k c) := by unfold badM; infer_instance
def ch0 : Ch := ⟨0, 0, 0, 0, 0, fun _ => 0⟩
def stV (has : Bool) (l : List Nat) (gx gy : Int) (s : Option Nat) : Int × Int × Int × Option Nat := if has = true then (vrX l gx gy s, vrY l gx gy s, vrE l gx gy s, vrS l s) else (0, 0, 0, s)
def rd4 (l : List Nat) (m : Int) (p n : Int × Int × Int × Option Nat) : Ch × Int × Option Nat :=
  if (scanRd l n.2.2.2).2.1 = 0 then (⟨m, p.1, p.2.1, n.1, n.2.1, (scanRd l n.2.2.2).1⟩, 0, (scanRd l n.2.2.2).2.2) else (ch0, (scanRd l n.2.2.2).2.1, (scanRd l n.2.2.2).2.2)
def rd3 (l : List Nat) (m : Int) (p n : Int × Int × Int × Option Nat) : Ch × Int × Option Nat := if n.2.2.1 = 0 then rd4 l m p n else (ch0, n.2.2.1, n.2.2.2)
def rd2 (l : List Nat) (m : Int) (bx yy : Int) (p : Int × Int × Int × Option Nat) : Ch × Int × Option Nat := if p.2.2.1 = 0 then rd3 l m p (stV (nextB m) l bx yy p.2.2.2) else (ch0, p.2.2.1, p.2.2.2)
def rd1 (l : List Nat) (ax ay bx yy : Int) (m : Int × Option Nat) : Ch × Int × Option Nat := if m.2.isNone = true then (ch0, 120, m.2) else rd2 l m.1 bx yy (stV (pastB m.1) l ax ay m.2)
def rdCh (l : List Nat) (k ax ay bx yy : Int) (st : Option Nat) : Ch × Int × Option Nat := rd1 l ax ay bx yy (rdStep (wholeRd l (mostK k)) st)
theorem stV_yes {has : Bool} {l : List Nat} {gx gy : Int} {s : Option Nat} (h : has = true) : stV has l gx gy s = (vrX l gx gy s, vrY l gx gy s, vrE l gx gy s, vrS l s) := if_pos h
theorem stV_no {has : Bool} {l : List Nat} {gx gy : Int} {s : Option Nat} (h : has = false) : stV has l gx gy s = (0, 0, 0, s) := if_neg (by rw [h]; exact Bool.false_ne_true)
end Go.Proofs.YtknjpdcpmpfklaaGreatDoor
set_option maxRecDepth 100000
namespace Go.Proofs.YtknjpdcpmpfklaaGreatDoor
open Go.RowKit
def intsV (xs : List Int) : Array Value := (xs.map fun x => Value.int .i64 x).toArray
def sameI (xs ys : List Int) : Bool := decide (xs = ys)
theorem sameI_self (xs : List Int) : sameI xs xs = true := decide_eq_true rfl
theorem part_i64 (w : World) (xs : List Int) (i : Nat) (z : Int) (h : xs[i]? = some z) : (part 3 (intsV xs) i).run Tryz.prog w = .ok (.int .i64 z) w := by
  have e : (intsV xs)[i]? = some (.int .i64 z) := by
    unfold intsV
    rw [List.getElem?_toArray, List.getElem?_map, h]; rfl
  simp [part, isAgg, run_underlying Tryz.underlying3, e]
theorem run_same_fields (w : World) (d : Nat) (xs ys : List Int) : ∀ (fs : List Field) (k : Nat), fs.map (fun f => (f.name == "_", f.type, f.offset)) = (List.range' k fs.length).map (fun i => (false, 3, i)) → xs.length = k + fs.length → ys.length = k + fs.length →
    (Op.eqFields (d + 1) (intsV xs) (intsV ys) fs).run Tryz.prog w = .ok (sameI (xs.drop k) (ys.drop k)) w := by
  intro fs
  induction fs with
  | nil =>
    intro k _ hx hy
    simp only [List.length_nil, Nat.add_zero] at hx hy
    rw [List.drop_of_length_le (by omega), List.drop_of_length_le (by omega), sameI_self]
    simp [Op.eqFields]
  | cons f r ih =>
    intro k hf hx hy
    simp only [List.length_cons] at hx hy
    simp only [List.map_cons, List.length_cons, List.range'_succ, List.cons.injEq, Prod.mk.injEq] at hf
    obtain ⟨⟨hn, ht, ho⟩, hr⟩ := hf
    have hn' : f.name ≠ "_" := by simpa using hn
    have hkx : k < xs.length := by omega
    have hky : k < ys.length := by omega
    have p1 := part_i64 w xs k xs[k] (List.getElem?_eq_getElem hkx)
    have p2 := part_i64 w ys k ys[k] (List.getElem?_eq_getElem hky)
    have p3 := ih (k + 1) hr (by omega) (by omega)
    have ex : xs.drop k = xs[k] :: xs.drop (k + 1) := List.drop_eq_getElem_cons hkx
    have ey : ys.drop k = ys[k] :: ys.drop (k + 1) := List.drop_eq_getElem_cons hky
    have hs : sameI (xs.drop k) (ys.drop k) = (decide (xs[k] = ys[k]) && sameI (xs.drop (k + 1)) (ys.drop (k + 1))) := by
      rw [ex, ey]
      generalize xs[k] = a
      generalize ys[k] = b
      generalize xs.drop (k + 1) = X
      generalize ys.drop (k + 1) = Y
      unfold sameI
      by_cases h : a = b <;> simp [h]
    rw [hs]
    generalize sameI (xs.drop (k + 1)) (ys.drop (k + 1)) = q at p3
    generalize xs[k] = a at p1
    generalize ys[k] = b at p2
    simp only [Op.eqFields, ht, ho]
    rw [if_pos hn']
    simp only [Sem.run_bind, p1, p2, Result.andThen_ok, run_equalIn_int w d 3 .i64 .i64 _ _ Tryz.underlying3]
    by_cases h1 : a = b
    · subst h1
      simp only [beq_self_eq_true, Bool.not_true, Bool.false_eq_true, if_false, p3, decide_true, Bool.true_and]
    · have : (a == b) = false := by simpa using h1
      simp [this, h1]
def StructI (ty : TypeId) (n : Nat) : Prop := (Tryz.prog.underlying ty = some (.struct (Tryz.prog.fieldsOf ty)) ∧ Tryz.prog.stoodInHeld ty = false) ∧ Tryz.prog.eqGuardType Tryz.prog.depth ty = false ∧ (Tryz.prog.fieldsOf ty).toList.map (fun f => (f.name == "_", f.type, f.offset)) = (List.range' 0 n).map (fun i => (false, 3, i))
end Go.Proofs.YtknjpdcpmpfklaaGreatDoor
set_option maxRecDepth 100000
namespace Go.Proofs.YtknjpdcpmpfklaaGreatDoor
open Go.RowKit
def sameCh (c d : Ch) : Bool := decide (c.m = d.m) && (sameI [c.px, c.py] [d.px, d.py] && (sameI [c.nx, c.ny] [d.nx, d.ny] && sameB c.b d.b))
theorem sameCh_self (c : Ch) : sameCh c c = true := by
  unfold sameCh; rw [sameI_self, sameI_self, sameB_true (fun _ _ => rfl)]; simp
theorem run_same_intsD (w : World) (n0 : Nat) {ty : TypeId} {n : Nat} (hS : StructI ty n) (xs ys : List Int) (hx : xs.length = n) (hy : ys.length = n) : (Op.equalIn (n0 + 2) ty (.agg (intsV xs)) (.agg (intsV ys))).run Tryz.prog w = .ok (sameI xs ys) w := by
  rw [run_equalIn_struct w (n0 + 1) _ _ _ hS.1.1 hS.1.2]
  have hlen : (Tryz.prog.fieldsOf ty).toList.length = n := by have := congrArg List.length hS.2.2; simpa using this
  have := run_same_fields w n0 xs ys (Tryz.prog.fieldsOf ty).toList 0 (by rw [hlen]; exact hS.2.2) (by omega) (by omega)
  simpa using this
theorem run_same_blkD (w : World) (n0 : Nat) (t : TypeId) (ht : BlkT t) (a b : Nat → Int) : (Op.equalIn (n0 + 2) t (blkV a) (blkV b)).run Tryz.prog w = .ok (sameB a b) w := by
  obtain ⟨i0, hi⟩ : ∃ i, Tryz.prog.info? 3 = some i := by
    have := Tryz.size_int
    cases h : Tryz.prog.info? 3 with
    | none => rw [h] at this; cases this
    | some i => exact ⟨i, rfl⟩
  unfold blkV
  rw [run_equalIn_array w (n0 + 1) _ _ ht.1 hi, run_eqItems_ints Tryz.underlying3 Tryz.cells_int w n0 16 a b _ (fun i hi => by simpa using hi)]
  rfl
theorem structI_vec : StructI 67 2 := ⟨⟨by kernel_rfl, by kernel_rfl⟩, by kernel_rfl, by kernel_rfl⟩
theorem Tryz.chFields : (Tryz.prog.fieldsOf 71).toList.map (fun f => (f.name == "_", f.type, f.offset)) = [(false, 3, 0), (false, 67, 1), (false, 67, 3), (false, 69, 5)] := by kernel_rfl
theorem Tryz.guard_ch : Tryz.prog.eqGuardType Tryz.prog.depth 71 = false := by kernel_rfl
theorem Tryz.held_ch : Tryz.prog.underlying 71 = some (.struct (Tryz.prog.fieldsOf 71)) ∧ Tryz.prog.stoodInHeld 71 = false := ⟨by kernel_rfl, by kernel_rfl⟩
theorem part_ch0 (w : World) (c : Ch) : (part 3 (chV c).toArray 0).run Tryz.prog w = .ok (.int .i64 c.m) w := by
  simp [part, isAgg, run_underlying Tryz.underlying3, chV]
theorem part_agg (w : World) (ty : TypeId) (vs us : List Value) (k n : Nat) {d : TypeDesc} (hu : Tryz.prog.underlying ty = some d) (hd : (match d with | .struct _ => true | .array _ _ => true | _ => false) = true) (hs : (Tryz.prog.info? ty).map (·.size) = some n) (hk : (vs.drop k).take n = us) : (part ty vs.toArray k).run Tryz.prog w = .ok (.agg us.toArray) w := by
  cases hq : Tryz.prog.info? ty with
  | none => rw [hq] at hs; cases hs
  | some i =>
    have hs' : i.size = n := by simpa [hq] using hs
    subst hs'
    subst hk
    have e : vs.toArray.extract k (k + i.size) = ((vs.drop k).take i.size).toArray := by
      rw [List.extract_toArray]; simp [List.extract_eq_take_drop]
    cases d <;> simp at hd <;> simp only [part, isAgg, run_underlying hu, sizeOf, typeInfo, hq, Sem.run_bind, Sem.run_pure, Result.andThen_ok, run_program, if_true, e]
theorem eqFields_more {w : World} {z : Nat} {A B : Array Value} {f : Field} {r : List Field} {t : TypeId} {k : Nat} {a b : Value} {s q : Bool} (hf : (f.name == "_", f.type, f.offset) = (false, t, k))
    (ha : (part t A k).run Tryz.prog w = .ok a w) (hb : (part t B k).run Tryz.prog w = .ok b w) (hs : (Op.equalIn z t a b).run Tryz.prog w = .ok s w) (hq : (Op.eqFields z A B r).run Tryz.prog w = .ok q w) :
    (Op.eqFields z A B (f :: r)).run Tryz.prog w = .ok (s && q) w := by
  simp only [Prod.mk.injEq] at hf
  obtain ⟨n0, t0, o0⟩ := hf
  have m0 : f.name ≠ "_" := by simpa using n0
  simp only [Op.eqFields, t0, o0]
  rw [if_pos m0]
  simp only [Sem.run_bind, ha, hb, hs, Result.andThen_ok]
  cases s
  · simp
  · simp only [Bool.not_true, Bool.false_eq_true, if_false, hq, Bool.true_and]
theorem eqFields_none {w : World} {z : Nat} {A B : Array Value} : (Op.eqFields z A B []).run Tryz.prog w = .ok true w := by simp [Op.eqFields]
theorem list_four {α : Type} {l : List α} (h : l.length = 4) : ∃ a b c d, l = [a, b, c, d] := by
  match l, h with
  | [a, b, c, d], _ => exact ⟨a, b, c, d, rfl⟩
theorem run_same_chD (w : World) (z : Nat) (c d : Ch) : (Op.equalIn (z + 3) 71 (.agg (chV c).toArray) (.agg (chV d).toArray)).run Tryz.prog w = .ok (sameCh c d) w := by
  rw [run_equalIn_struct w (z + 2) _ _ _ Tryz.held_ch.1 Tryz.held_ch.2]
  have hf := Tryz.chFields
  have ri := run_equalIn_int w (z + 1) 3 .i64 .i64 c.m d.m Tryz.underlying3
  have hv : ∀ (x : Ch), (part 67 (chV x).toArray 1).run Tryz.prog w = .ok (.agg (intsV [x.px, x.py])) w := fun x => part_agg w 67 (chV x) [.int .i64 x.px, .int .i64 x.py] 1 2 Tryz.underlying67 rfl (by kernel_rfl) rfl
  have hn : ∀ (x : Ch), (part 67 (chV x).toArray 3).run Tryz.prog w = .ok (.agg (intsV [x.nx, x.ny])) w := fun x => part_agg w 67 (chV x) [.int .i64 x.nx, .int .i64 x.ny] 3 2 Tryz.underlying67 rfl (by kernel_rfl) rfl
  have hb : ∀ (x : Ch), (part 69 (chV x).toArray 5).run Tryz.prog w = .ok (blkV x.b) w := fun x => part_agg w 69 (chV x) (arrL 16 x.b) 5 16 Tryz.underlying69 rfl (by kernel_rfl) rfl
  have p0 := part_ch0 w c
  have q0 := part_ch0 w d
  have r1 := run_same_intsD w z structI_vec [c.px, c.py] [d.px, d.py] rfl rfl
  have r2 := run_same_intsD w z structI_vec [c.nx, c.ny] [d.nx, d.ny] rfl rfl
  have r3 := run_same_blkD w z 69 blkT_block c.b d.b
  have p1 := hv c; have q1 := hv d; have p2 := hn c; have q2 := hn d; have p3 := hb c; have q3 := hb d
  generalize (chV c).toArray = A at *
  generalize (chV d).toArray = B at *
  generalize (Tryz.prog.fieldsOf 71).toList = fs at hf ⊢
  obtain ⟨f0, f1, f2, f3, rfl⟩ := list_four (l := fs) (by have := congrArg List.length hf; simpa using this)
  simp only [List.map_cons, List.map_nil, List.cons.injEq, and_true] at hf
  obtain ⟨h0, h1, h2, h3⟩ := hf
  have e := eqFields_more h0 p0 q0 ri (eqFields_more h1 p1 q1 r1 (eqFields_more h2 p2 q2 r2 (eqFields_more h3 p3 q3 r3 eqFields_none)))
  rw [e]
  unfold sameCh
  rw [Bool.and_true, show (c.m == d.m) = decide (c.m = d.m) from by rw [Bool.eq_iff_iff]; simp]
theorem run_same_ch (w : World) (c d : Ch) : (Op.equalIn 10000 71 (.agg (chV c).toArray) (.agg (chV d).toArray)).run Tryz.prog w = .ok (sameCh c d) w := run_same_chD w 9997 c d
section
variable {ρ : Operand → Value} {o : Oper} {w : World} {R : Value → World → Prop}
theorem y_neqCh {t' : TypeId} {x y : Operand} {c d : Ch} {q : Bool} (ho : o.op = .binOp .neq 71 x y t') (hx : ρ x = .agg (chV c).toArray) (hy : ρ y = .agg (chV d).toArray) (hr : (!sameCh c d) = q) (h : R (.bool q) w) : Yields Tryz.prog ρ o w R :=
  y_of (v := .bool (!sameCh c d)) (w' := w) (by simp only [execOp, ho, hx, hy, Sem.run_bind, run_eqGuard_agg w .neq _ _ _ _ _ Tryz.guard_ch, run_neq_struct, run_same_ch, Result.andThen_ok, Sem.run_pure]) (by rw [hr]; exact h)
end
end Go.Proofs.YtknjpdcpmpfklaaGreatDoor
set_option maxRecDepth 100000
namespace Go.Proofs.YtknjpdcpmpfklaaGreatDoor
def cpB (f p n : FD) (k x y : Int) (c : Ch) : Nat → Int :=
  if c.m < 0 ∨ 6 < c.m then fun _ => 0 else if c.m < 4 then predB f k x y c.m else if c.m = 5 then mvB n k x y c.nx c.ny
  else if mvE p k x y c.px c.py ≠ 0 ∨ c.m = 4 then mvB p k x y c.px c.py else if mvE n k x y c.nx c.ny ≠ 0 then fun _ => 0 else bothB (mvB p k x y c.px c.py) (mvB n k x y c.nx c.ny)
def cpE (f p n : FD) (k x y : Int) (c : Ch) : Int :=
  if c.m < 0 ∨ 6 < c.m then 120 else if c.m < 4 then predE f k x y c.m else if c.m = 5 then mvE n k x y c.nx c.ny
  else if mvE p k x y c.px c.py ≠ 0 ∨ c.m = 4 then mvE p k x y c.px c.py else if mvE n k x y c.nx c.ny ≠ 0 then mvE n k x y c.nx c.ny else 0
section
variable {f p n : FD} {k x y : Int} {c : Ch}
theorem mv_err {f : FD} {p x y X Y : Int} (h : mvE f p x y X Y ≠ 0) : mvB f p x y X Y = fun _ => 0 := by
  by_cases hp : placeF f p x y
  · by_cases hv : vecOk X Y
    · exact absurd (mv_yes hp hv).1 h
    · exact (mv_none hp hv).2
  · exact (mv_no hp).2
theorem cp_bad (h : c.m < 0 ∨ 6 < c.m) : cpB f p n k x y c = (fun _ => 0) ∧ cpE f p n k x y c = 120 := ⟨if_pos h, if_pos h⟩
theorem cp_own (h : 0 ≤ c.m ∧ c.m < 4) : cpB f p n k x y c = predB f k x y c.m ∧ cpE f p n k x y c = predE f k x y c.m := by
  have n1 : ¬ (c.m < 0 ∨ 6 < c.m) := by omega
  exact ⟨(if_neg n1).trans (if_pos h.2), (if_neg n1).trans (if_pos h.2)⟩
theorem cp_next (h : c.m = 5) : cpB f p n k x y c = mvB n k x y c.nx c.ny ∧ cpE f p n k x y c = mvE n k x y c.nx c.ny := by
  have n1 : ¬ (c.m < 0 ∨ 6 < c.m) := by omega
  have n2 : ¬ c.m < 4 := by omega
  exact ⟨(if_neg n1).trans ((if_neg n2).trans (if_pos h)), (if_neg n1).trans ((if_neg n2).trans (if_pos h))⟩
theorem cp_past (h : c.m = 4) : cpB f p n k x y c = mvB p k x y c.px c.py ∧ cpE f p n k x y c = mvE p k x y c.px c.py := by
  have n1 : ¬ (c.m < 0 ∨ 6 < c.m) := by omega
  have n2 : ¬ c.m < 4 := by omega
  have n3 : ¬ c.m = 5 := by omega
  exact ⟨(if_neg n1).trans ((if_neg n2).trans ((if_neg n3).trans (if_pos (Or.inr h)))), (if_neg n1).trans ((if_neg n2).trans ((if_neg n3).trans (if_pos (Or.inr h))))⟩
theorem cp_both1 (h : c.m = 6) (e : mvE p k x y c.px c.py ≠ 0) : cpB f p n k x y c = mvB p k x y c.px c.py ∧ cpE f p n k x y c = mvE p k x y c.px c.py := by
  have n1 : ¬ (c.m < 0 ∨ 6 < c.m) := by omega
  have n2 : ¬ c.m < 4 := by omega
  have n3 : ¬ c.m = 5 := by omega
  exact ⟨(if_neg n1).trans ((if_neg n2).trans ((if_neg n3).trans (if_pos (Or.inl e)))), (if_neg n1).trans ((if_neg n2).trans ((if_neg n3).trans (if_pos (Or.inl e))))⟩
theorem cp_both2 (h : c.m = 6) (e : mvE p k x y c.px c.py = 0) (e2 : mvE n k x y c.nx c.ny ≠ 0) : cpB f p n k x y c = (fun _ => 0) ∧ cpE f p n k x y c = mvE n k x y c.nx c.ny := by
  have n1 : ¬ (c.m < 0 ∨ 6 < c.m) := by omega
  have n2 : ¬ c.m < 4 := by omega
  have n3 : ¬ c.m = 5 := by omega
  have n4 : ¬ (mvE p k x y c.px c.py ≠ 0 ∨ c.m = 4) := fun z => z.elim (fun z => z e) (fun z => by omega)
  exact ⟨(if_neg n1).trans ((if_neg n2).trans ((if_neg n3).trans ((if_neg n4).trans (if_pos e2)))), (if_neg n1).trans ((if_neg n2).trans ((if_neg n3).trans ((if_neg n4).trans (if_pos e2))))⟩
theorem cp_both (h : c.m = 6) (e : mvE p k x y c.px c.py = 0) (e2 : mvE n k x y c.nx c.ny = 0) : cpB f p n k x y c = bothB (mvB p k x y c.px c.py) (mvB n k x y c.nx c.ny) ∧ cpE f p n k x y c = 0 := by
  have n1 : ¬ (c.m < 0 ∨ 6 < c.m) := by omega
  have n2 : ¬ c.m < 4 := by omega
  have n3 : ¬ c.m = 5 := by omega
  have n4 : ¬ (mvE p k x y c.px c.py ≠ 0 ∨ c.m = 4) := fun z => z.elim (fun z => z e) (fun z => by omega)
  exact ⟨(if_neg n1).trans ((if_neg n2).trans ((if_neg n3).trans ((if_neg n4).trans (if_neg (fun z => z e2))))), (if_neg n1).trans ((if_neg n2).trans ((if_neg n3).trans ((if_neg n4).trans (if_neg (fun z => z e2)))))⟩
theorem cp_pastE (h : c.m = 4 ∨ c.m = 6) (e : mvE p k x y c.px c.py ≠ 0) : cpB f p n k x y c = (fun _ => 0) ∧ cpE f p n k x y c = mvE p k x y c.px c.py := by
  rcases h with h | h
  · exact ⟨(cp_past h).1.trans (mv_err e), (cp_past h).2⟩
  · exact ⟨(cp_both1 h e).1.trans (mv_err e), (cp_both1 h e).2⟩
theorem cp_nextE (h : c.m = 5) (e : mvE n k x y c.nx c.ny ≠ 0) : cpB f p n k x y c = (fun _ => 0) ∧ cpE f p n k x y c = mvE n k x y c.nx c.ny :=
  ⟨(cp_next h).1.trans (mv_err e), (cp_next h).2⟩
end
theorem past_t {m : Int} (h : pastB m = true) : m = 4 ∨ m = 6 := by unfold pastB at h; simpa using h
theorem past_f {m : Int} (h : pastB m = false) : m ≠ 4 ∧ m ≠ 6 := by unfold pastB at h; simpa using h
theorem next_t {m : Int} (h : nextB m = true) : m = 5 ∨ m = 6 := by unfold nextB at h; simpa using h
theorem next_f {m : Int} (h : nextB m = false) : m ≠ 5 ∧ m ≠ 6 := by unfold nextB at h; simpa using h
def c8M (a : Nat → Int) : Nat → Int := fun i => min (max (a i) 0) 255
def buB (b : Nat → Int) (l : Nat → Int) (q : Int) : Nat → Int := if ern q = 0 then c8M (moreB b (backB (upB l q))) else fun _ => 0
theorem bu_yes {b l : Nat → Int} {q : Int} (h : ern q = 0) : buB b l q = c8M (moreB b (backB (upB l q))) := if_pos h
theorem bu_no {b l : Nat → Int} {q : Int} (h : ern q ≠ 0) : buB b l q = fun _ => 0 := if_neg h
theorem mostK_le (k : Int) : mostK k ≤ 6 := by unfold mostK; split; omega; split; omega; split <;> omega
def rdChT (l : List Nat) (k ax ay bx yy : Int) (st : Option Nat) : Option Nat := if (rdCh l k ax ay bx yy st).2.1 = 0 then (rdCh l k ax ay bx yy st).2.2 else st
theorem rdStep_at (l : List Nat) (n : Int) (a : Nat) : rdStep (wholeRd l n) (some a) = match wholeAt l a with
    | some (v, a') => if n < v then (0, none) else (v, some a')
    | none => (0, none) := by
  cases hq : wholeAt l a with
  | none => simp [rdStep, wholeRd, hq]
  | some x =>
    obtain ⟨v, a'⟩ := x
    by_cases h : n < v
    · simp [rdStep, wholeRd, hq, h]
    · simp [rdStep, wholeRd, hq, h]
theorem rdStep_most {l : List Nat} {m n : Int} (h : m ≤ n) (st : Option Nat) :
    rdStep (wholeRd l m) st = if (rdStep (wholeRd l n) st).2.isNone = true ∨ m < (rdStep (wholeRd l n) st).1 then (0, none) else rdStep (wholeRd l n) st := by
  cases st with
  | none => rfl
  | some a =>
    rw [rdStep_at l m a, rdStep_at l n a]
    cases wholeAt l a with
    | none => rfl
    | some x =>
      obtain ⟨v, a'⟩ := x
      simp only
      by_cases h1 : n < v
      · rw [if_pos h1, if_pos (show m < v by omega)]; exact (if_pos (Or.inl rfl)).symm
      · rw [if_neg h1]
        by_cases h2 : m < v
        · rw [if_pos h2, if_pos (Or.inr h2)]
        · rw [if_neg h2, if_neg (by rintro (z | z); cases z; exact h2 z)]
end Go.Proofs.YtknjpdcpmpfklaaGreatDoor
set_option maxRecDepth 100000
namespace Go.Proofs.YtknjpdcpmpfklaaGreatDoor
open Go.RowKit
theorem between_never (a b c : Int) (h : False) (w0 : World) : Calls Tryz.prog 108 #[.int .i64 a, .int .i64 b, .int .i64 c] w0 fun e w' => e = .returned (.int .i64 (med a b c)) ∧ Kept (fun _ => False) w0 w' := h.elim
theorem vref_between0 (a b c : Int) (w0 : World) (h : a ≤ b) :
  Calls Tryz.prog 108 #[.int .i64 (a), .int .i64 (b), .int .i64 (c)] w0 fun e w' => e = .returned (.int .i64 (med a b c)) ∧ Kept (fun _ => False) w0 w' := by
 refine calls_wq (args := [iv a, iv b, iv c]) 19 Tryz.func108 rfl rfl (Nat.le_of_ble_eq_true rfl) ?_
 have K0 := Kept.refl (fun _ => False) w0
 refine wq_seq (wq_region (wl_v (iv 0) rfl rfl (y_asg rfl rfl rr) (wl_nil fun F1 hF2 => ?_)))
 have s3 : F1 0 = iv a := (hF2 0).trans rfl
 have s4 : F1 1 = iv b := (hF2 1).trans rfl
 have s5 : F1 2 = iv c := (hF2 2).trans rfl
 have s6 : F1 19 = undef := (hF2 19).trans rfl
 clear hF2
 refine then_normal (wq_seq (wq_seq (wq_region (wl_mv rfl rfl rfl s3 (wl_mv rfl rfl rfl s4 (wl_v (.bool (decide (b < a))) rfl rfl (y_gtr rfl rfl rfl rfl rr) (wl_nil fun F7 hF8 => ?_)))))))
 obtain ⟨s9, s10, s11, s12⟩ := t4 hF8 0 s3 1 s4 2 s5 19 s6
 have s13 : F7 9 = .bool (decide (b < a)) := (hF8 9).trans rfl
 clear hF8
 refine then_normal ?_
 refine wq_cond s13 (fun c14 => ?_) (fun c14 => ?_)
 ·replace c14 := of_decide_eq_true c14
  refine wq_seq (wq_region (wl_mv rfl rfl rfl s10 (wl_mv rfl rfl rfl s9 (wl_mv rfl rfl rfl s11 (wl_cs rfl rfl rfl rfl rfl (fun _ _ => by kernel_rfl) (vsC rfl (vsC rfl (vsC rfl vsN))) (between_never b a c (by omega) _) fun w15 k16 => ?_)))))
  have K17 := K0.tr k16
  refine wl_v (iv (med b a c)) rfl rfl (y_asg rfl rfl rr) (wl_nil fun F18 hF19 => ?_)
  have s20 := (hF19 19).trans s12
  have s21 : F18 6 = iv (med b a c) := (hF19 6).trans rfl
  clear hF19
  refine then_normal (wq_ret (then_ret ?_))
  exact end_tmp (v := iv (med b a c)) s20 rfl rfl s21 ⟨(by first | rfl | rw [med_swap]), K17⟩
 ·replace c14 := of_decide_eq_false c14
  refine wq_skip (then_normal (wq_seq (wq_region (wl_mv rfl rfl rfl s9 (wl_mv rfl rfl rfl s10 (wl_mv rfl rfl rfl s11 (wl_v (iv (min b c)) rfl rfl (y_minR rfl rfl rfl rfl rr) (wl_v (iv (med a b c)) rfl rfl (y_maxR rfl rfl rfl (by unfold med; omega) rr) (wl_v (iv (med a b c)) rfl rfl (y_asg rfl rfl rr) (wl_nil fun F22 hF23 => ?_))))))))))
  have s24 := (hF23 19).trans s12
  have s25 : F22 6 = iv (med a b c) := (hF23 6).trans rfl
  clear hF23
  refine then_normal (wq_ret ?_)
  exact end_tmp (v := iv (med a b c)) s24 rfl rfl s25 ⟨(by first | rfl | rw [med_swap]), K0⟩
theorem vref_between (a b c : Int) (w0 : World) :
  Calls Tryz.prog 108 #[.int .i64 (a), .int .i64 (b), .int .i64 (c)] w0 fun e w' => e = .returned (.int .i64 (med a b c)) ∧ Kept (fun _ => False) w0 w' := by
 refine calls_wq (args := [iv a, iv b, iv c]) 19 Tryz.func108 rfl rfl (Nat.le_of_ble_eq_true rfl) ?_
 have K0 := Kept.refl (fun _ => False) w0
 refine wq_seq (wq_region (wl_v (iv 0) rfl rfl (y_asg rfl rfl rr) (wl_nil fun F1 hF2 => ?_)))
 have s3 : F1 0 = iv a := (hF2 0).trans rfl
 have s4 : F1 1 = iv b := (hF2 1).trans rfl
 have s5 : F1 2 = iv c := (hF2 2).trans rfl
 have s6 : F1 19 = undef := (hF2 19).trans rfl
 clear hF2
 refine then_normal (wq_seq (wq_seq (wq_region (wl_mv rfl rfl rfl s3 (wl_mv rfl rfl rfl s4 (wl_v (.bool (decide (b < a))) rfl rfl (y_gtr rfl rfl rfl rfl rr) (wl_nil fun F7 hF8 => ?_)))))))
 obtain ⟨s9, s10, s11, s12⟩ := t4 hF8 0 s3 1 s4 2 s5 19 s6
 have s13 : F7 9 = .bool (decide (b < a)) := (hF8 9).trans rfl
 clear hF8
 refine then_normal ?_
 refine wq_cond s13 (fun c14 => ?_) (fun c14 => ?_)
 ·replace c14 := of_decide_eq_true c14
  refine wq_seq (wq_region (wl_mv rfl rfl rfl s10 (wl_mv rfl rfl rfl s9 (wl_mv rfl rfl rfl s11 (wl_cs rfl rfl rfl rfl rfl (fun _ _ => by kernel_rfl) (vsC rfl (vsC rfl (vsC rfl vsN))) (vref_between0 b a c _ (by omega)) fun w15 k16 => ?_)))))
  have K17 := K0.tr k16
  refine wl_v (iv (med b a c)) rfl rfl (y_asg rfl rfl rr) (wl_nil fun F18 hF19 => ?_)
  have s20 := (hF19 19).trans s12
  have s21 : F18 6 = iv (med b a c) := (hF19 6).trans rfl
  clear hF19
  refine then_normal (wq_ret (then_ret ?_))
  exact end_tmp (v := iv (med b a c)) s20 rfl rfl s21 ⟨(by first | rfl | rw [med_swap]), K17⟩
 ·replace c14 := of_decide_eq_false c14
  refine wq_skip (then_normal (wq_seq (wq_region (wl_mv rfl rfl rfl s9 (wl_mv rfl rfl rfl s10 (wl_mv rfl rfl rfl s11 (wl_v (iv (min b c)) rfl rfl (y_minR rfl rfl rfl rfl rr) (wl_v (iv (med a b c)) rfl rfl (y_maxR rfl rfl rfl (by unfold med; omega) rr) (wl_v (iv (med a b c)) rfl rfl (y_asg rfl rfl rr) (wl_nil fun F22 hF23 => ?_))))))))))
  have s24 := (hF23 19).trans s12
  have s25 : F22 6 = iv (med a b c) := (hF23 6).trans rfl
  clear hF23
  refine then_normal (wq_ret ?_)
  exact end_tmp (v := iv (med a b c)) s24 rfl rfl s25 ⟨(by first | rfl | rw [med_swap]), K0⟩
theorem vref_median (a b c d m n : Int) (w0 : World) :
  Calls Tryz.prog 72 #[.agg #[.int .i64 (a), .int .i64 (b)], .agg #[.int .i64 (c), .int .i64 (d)], .agg #[.int .i64 (m), .int .i64 (n)]] w0 fun e w' => e = .returned (.agg #[.int .i64 (med a c m), .int .i64 (med b d n)]) ∧ Kept (fun _ => False) w0 w' := by
 refine calls_wq (args := [.agg #[iv a, iv b], .agg #[iv c, iv d], .agg #[iv m, iv n]]) 22 Tryz.func72 rfl rfl (Nat.le_of_ble_eq_true rfl) ?_
 have K0 := Kept.refl (fun _ => False) w0
 refine wq_seq (wq_region (wl_box_stc (vs := [iv a, iv b]) rfl rfl rfl rfl fun p1 w2 B4 g5 k3 => ?_))
 have K7 := K0.tr k3
 refine wl_box_stc (vs := [iv c, iv d]) rfl rfl rfl rfl fun p8 w9 B11 g12 k10 => ?_
 have B15 := B4.all k10 id
 have K16 := K7.tr k10
 refine wl_box_stc (vs := [iv m, iv n]) rfl rfl rfl rfl fun p17 w18 B20 g21 k19 => ?_
 have B25 := B15.all k19 id
 have B26 := B11.all k19 id
 have K27 := K16.tr k19
 refine wl_alloc_stc (n := 2) (vs := [iv 0, iv 0]) rfl rfl rfl (by kernel_rfl) fun p28 w29 B31 g32 k30 => ?_
 have gr33 : Grew w0 noB (onB p28) := Grew.new K27 g32
 have B37 := B25.all k30 id
 have B38 := B26.all k30 id
 have B39 := B20.all k30 id
 have K40 := K27.tr k30
 refine wl_nil fun F41 hF42 => ?_
 have s43 : F41 22 = undef := (hF42 22).trans rfl
 have s44 : F41 3 = pt p1 0 := (hF42 3).trans rfl
 have s45 : F41 4 = pt p8 0 := (hF42 4).trans rfl
 have s46 : F41 5 = pt p17 0 := (hF42 5).trans rfl
 have s47 : F41 6 = pt p28 0 := (hF42 6).trans rfl
 clear hF42
 refine then_normal (wq_seq ?_)
 refine wq_tail 15 [some 7, some 8, some 9, some 10, some 11, some 12, some 13, some 14, some 15, some 16, some 17, some 18, some 19, some 20, some 21] [Pd.eq (pt p1 0), Pd.eq (iv a), Pd.eq (pt p8 0), Pd.eq (iv c), Pd.eq (pt p17 0), Pd.eq (iv m), Pd.eq (iv (med a c m)), Pd.eq (pt p1 1), Pd.eq (iv b), Pd.eq (pt p8 1), Pd.eq (iv d), Pd.eq (pt p17 1), Pd.eq (iv n), Pd.eq (iv (med b d n)), Pd.eq (.agg #[iv (med a c m), iv (med b d n)])] (by kernel_rfl) (by kernel_rfl) (by kernel_rfl) ?_ ?_
 ·refine stepsF_cons ?_ ?_
  ·refine StepF.one rfl fun F_ w_ hR hout hD => ?_
   exact (y_fieldR (n := 1) rfl ((hout 3 rfl (by decide)).trans s44) Tryz.underlying67 rfl (by kernel_rfl) (by decide) rfl ⟨rfl, Kept.refl _ _⟩)
  refine stepsF_cons ?_ ?_
  ·refine StepF.one rfl fun F_ w_ hR hout hD => ?_
   have g7 : F_ 7 = pt p1 0 := (hD.get 0 rfl rfl rfl)
   exact (y_ld_stc rfl g7 Tryz.underlying3 (B37.all hR id) rfl rfl ⟨rfl, Kept.refl _ _⟩)
  refine stepsF_cons ?_ ?_
  ·refine StepF.one rfl fun F_ w_ hR hout hD => ?_
   exact (y_fieldR (n := 1) rfl ((hout 4 rfl (by decide)).trans s45) Tryz.underlying67 rfl (by kernel_rfl) (by decide) rfl ⟨rfl, Kept.refl _ _⟩)
  refine stepsF_cons ?_ ?_
  ·refine StepF.one rfl fun F_ w_ hR hout hD => ?_
   have g9 : F_ 9 = pt p8 0 := (hD.get 0 rfl rfl rfl)
   exact (y_ld_stc rfl g9 Tryz.underlying3 (B38.all hR id) rfl rfl ⟨rfl, Kept.refl _ _⟩)
  refine stepsF_cons ?_ ?_
  ·refine StepF.one rfl fun F_ w_ hR hout hD => ?_
   exact (y_fieldR (n := 1) rfl ((hout 5 rfl (by decide)).trans s46) Tryz.underlying67 rfl (by kernel_rfl) (by decide) rfl ⟨rfl, Kept.refl _ _⟩)
  refine stepsF_cons ?_ ?_
  ·refine StepF.one rfl fun F_ w_ hR hout hD => ?_
   have g11 : F_ 11 = pt p17 0 := (hD.get 0 rfl rfl rfl)
   exact (y_ld_stc rfl g11 Tryz.underlying3 (B39.all hR id) rfl rfl ⟨rfl, Kept.refl _ _⟩)
  refine stepsF_cons ?_ ?_
  ·refine StepF.one rfl fun F_ w_ hR hout hD => ?_
   have g8 : F_ 8 = iv a := (hD.get 0 rfl rfl rfl)
   have g10 : F_ 10 = iv c := (hD.get 1 rfl rfl rfl)
   have g12 : F_ 12 = iv m := (hD.get 2 rfl rfl rfl)
   exact (y_cs rfl rfl rfl (fun _ _ => by kernel_rfl) (ev_func _) (vsC g8 (vsC g10 (vsC g12 vsN))) (vref_between a c m  _   ) (fun e_ w_ h_ => ⟨_, h_.1, rfl, h_.2⟩))
  refine stepsF_cons ?_ ?_
  ·refine StepF.one rfl fun F_ w_ hR hout hD => ?_
   exact (y_fieldR (n := 1) rfl ((hout 3 rfl (by decide)).trans s44) Tryz.underlying67 rfl (by kernel_rfl) (by decide) rfl ⟨rfl, Kept.refl _ _⟩)
  refine stepsF_cons ?_ ?_
  ·refine StepF.one rfl fun F_ w_ hR hout hD => ?_
   have g14 : F_ 14 = pt p1 1 := (hD.get 0 rfl rfl rfl)
   exact (y_ld_stc rfl g14 Tryz.underlying3 (B37.all hR id) rfl rfl ⟨rfl, Kept.refl _ _⟩)
  refine stepsF_cons ?_ ?_
  ·refine StepF.one rfl fun F_ w_ hR hout hD => ?_
   exact (y_fieldR (n := 1) rfl ((hout 4 rfl (by decide)).trans s45) Tryz.underlying67 rfl (by kernel_rfl) (by decide) rfl ⟨rfl, Kept.refl _ _⟩)
  refine stepsF_cons ?_ ?_
  ·refine StepF.one rfl fun F_ w_ hR hout hD => ?_
   have g16 : F_ 16 = pt p8 1 := (hD.get 0 rfl rfl rfl)
   exact (y_ld_stc rfl g16 Tryz.underlying3 (B38.all hR id) rfl rfl ⟨rfl, Kept.refl _ _⟩)
  refine stepsF_cons ?_ ?_
  ·refine StepF.one rfl fun F_ w_ hR hout hD => ?_
   exact (y_fieldR (n := 1) rfl ((hout 5 rfl (by decide)).trans s46) Tryz.underlying67 rfl (by kernel_rfl) (by decide) rfl ⟨rfl, Kept.refl _ _⟩)
  refine stepsF_cons ?_ ?_
  ·refine StepF.one rfl fun F_ w_ hR hout hD => ?_
   have g18 : F_ 18 = pt p17 1 := (hD.get 0 rfl rfl rfl)
   exact (y_ld_stc rfl g18 Tryz.underlying3 (B39.all hR id) rfl rfl ⟨rfl, Kept.refl _ _⟩)
  refine stepsF_cons ?_ ?_
  ·refine StepF.one rfl fun F_ w_ hR hout hD => ?_
   have g15 : F_ 15 = iv b := (hD.get 0 rfl rfl rfl)
   have g17 : F_ 17 = iv d := (hD.get 1 rfl rfl rfl)
   have g19 : F_ 19 = iv n := (hD.get 2 rfl rfl rfl)
   exact (y_cs rfl rfl rfl (fun _ _ => by kernel_rfl) (ev_func _) (vsC g15 (vsC g17 (vsC g19 vsN))) (vref_between b d n  _   ) (fun e_ w_ h_ => ⟨_, h_.1, rfl, h_.2⟩))
  refine stepsF_cons ?_ ?_
  ·refine StepF.one rfl fun F_ w_ hR hout hD => ?_
   have g13 : F_ 13 = iv (med a c m) := (hD.get 0 rfl rfl rfl)
   have g20 : F_ 20 = iv (med b d n) := (hD.get 1 rfl rfl rfl)
   exact (y_buildL (l' := [(0, iv (med a c m)), (1, iv (med b d n))]) (cells := #[iv (med a c m), iv (med b d n)]) rfl (bpC g13 (bpC g20 bpN)) (by kernel_rfl) rfl ⟨rfl, Kept.refl _ _⟩)
  exact stepsF_nil
 intro v48 F49 w50 k51 G52 hF53
 have B58 := B31.all k51 id
 have K59 := K40.tr k51
 obtain ⟨s60, s61⟩ := t2 hF53 22 s43 6 s47
 have s62 : F49 21 = .agg #[iv (med a c m), iv (med b d n)] := (hF53 21).trans (G52 14 (by decide))
 clear G52 hF53
 refine wl_store_stc (us := [iv (med a c m), iv (med b d n)]) stcT_vector rfl rfl rfl s61 s62 B58 rfl (oneI rfl (oneI rfl oneN)) fun w63 B64 k65 => ?_
 have K69 := K59.trans k65 (Grew.ok (S := fun _ => False) gr33 noB_le)
 refine wl_nil fun F70 hF71 => ?_
 obtain ⟨s72, s73⟩ := t2 hF71 22 s60 6 s61
 clear hF71
 refine then_normal (wq_ret ?_)
 exact end_stc (vs := [iv (med a c m), iv (med b d n)]) stcT_vector s72 rfl rfl s73 B64 ⟨rfl, K69⟩
theorem vref_clamp (n : Int) (w0 : World) :
  Calls Tryz.prog 106 #[.int .i64 (n)] w0 fun e w' => e = .returned (.int .i64 (cl 64 n)) ∧ Kept (fun _ => False) w0 w' := by
 refine calls_wq (args := [iv n]) 6 Tryz.func106 rfl rfl (Nat.le_of_ble_eq_true rfl) ?_
 have K0 := Kept.refl (fun _ => False) w0
 refine wq_seq (wq_region (wl_v (iv 0) rfl rfl (y_asg rfl rfl rr) (wl_nil fun F1 hF2 => ?_)))
 have s3 : F1 0 = iv n := (hF2 0).trans rfl
 have s4 : F1 6 = undef := (hF2 6).trans rfl
 clear hF2
 refine then_normal (wq_seq (wq_region (wl_mv rfl rfl rfl s3 (wl_v (iv (max n (-64))) rfl rfl (y_maxR rfl rfl rfl rfl rr) (wl_v (iv (cl 64 n)) rfl rfl (y_minR rfl rfl rfl (by unfold cl; omega) rr) (wl_v (iv (cl 64 n)) rfl rfl (y_asg rfl rfl rr) (wl_nil fun F5 hF6 => ?_)))))))
 have s7 := (hF6 6).trans s4
 have s8 : F5 2 = iv (cl 64 n) := (hF6 2).trans rfl
 clear hF6
 refine then_normal (wq_ret ?_)
 exact end_tmp (v := iv (cl 64 n)) s7 rfl rfl s8 ⟨rfl, K0⟩
theorem vref_read (p : Nat) (l : List Nat) (st : Option Nat) (A B : Int) (T_r : Nat → Prop) (w0 : World) (h_r : Rfi w0 T_r p (l) (st)) :
  Calls Tryz.prog 69 #[.pointer (some ⟨p, 0, none⟩), .agg #[.int .i64 (A), .int .i64 (B)]] w0 fun e w' => ∃ (T_r' : Nat → Prop), e = .returned (.tuple #[.agg #[.int .i64 (vrX l A B st), .int .i64 (vrY l A B st)], .int .i64 (vrE l A B st)]) ∧ Kept (T_r) w0 w' ∧ (Rfi w' T_r' p (l) (vrS l st) ∧ Grew w0 T_r T_r') := by
 refine calls_wq (args := [pt p 0, .agg #[iv A, iv B]]) 35 Tryz.func69 rfl rfl (Nat.le_of_ble_eq_true rfl) ?_
 have K0 := Kept.refl T_r w0
 have h1 := cl64 A
 have h2 := cl64 B
 have h3 := rdX_le l st
 have h4 := rdX_le l (rdX l st).2
 have g_r := Grew.refl w0 T_r
 refine wq_seq (wq_region (wl_box_stc (vs := [iv A, iv B]) rfl rfl rfl rfl fun p1 w2 B4 g5 k3 => ?_))
 have ap7 : Apart (onB p1) T_r := Apart.new g5 h_r.live
 have B8 := h_r.all k3 Apart.none
 have K9 := K0.tr k3
 refine wl_alloc_stc (n := 2) (vs := [iv 0, iv 0]) rfl rfl rfl (by kernel_rfl) fun p10 w11 B13 g14 k12 => ?_
 have gr15 : Grew w0 noB (onB p10) := Grew.new K9 g14
 have ap16 : Apart (onB p10) T_r := Apart.new g14 B8.live
 have B18 := B8.all k12 Apart.none
 have B19 := B4.all k12 id
 have K20 := K9.tr k12
 refine wl_v (iv 0) rfl rfl (y_asg rfl rfl rr) (wl_nil fun F21 hF22 => ?_)
 have s23 : F21 0 = pt p 0 := (hF22 0).trans rfl
 have s24 : F21 35 = undef := (hF22 35).trans rfl
 have s25 : F21 3 = pt p1 0 := (hF22 3).trans rfl
 have s26 : F21 4 = pt p10 0 := (hF22 4).trans rfl
 clear hF22
 refine then_normal (wq_seq (wq_region (wl_mv rfl rfl rfl s23 (wl_call (R := fun v_ w_ => ∃ (T29 : Nat → Prop), iv ((rdX l st).1) = v_ ∧ Kept T_r w11 w_ ∧ (Rfi w_ T29 p l ((rdStep (signedRd l 128) st).2) ∧ Grew w11 T_r T29)) rfl rfl (y_cs rfl rfl rfl (fun _ _ => by kernel_rfl) (ev_func _) (vsC rfl (vsC rfl vsN)) (t_fsigned p l st 128 T_r _  B18 ) (fun e_ w_ h_ => by obtain ⟨T29_, he_, hr_⟩ := h_; exact ⟨_, he_, T29_, rfl, hr_⟩)) ?_))))
 rintro _ w27 ⟨T29, rfl, k28, ⟨B30, g31⟩⟩
 have B32 := B19.all k28 (ap7 p1 rfl)
 have B33 := B13.all k28 (ap16 p10 rfl)
 have K34 := K20.trans k28 (fun i hi x => ((Grew.ok (S := T_r) g_r (fun _ x => x)) i hi x))
 have gr35 := g_r.trans K20 g31
 have ap36 : Apart T29 (onB p1) := (ap7.symm).grew g31 (onB_live B19.lt)
 have ap37 : Apart T29 (onB p10) := (ap16.symm).grew g31 (onB_live B13.lt)
 refine wl_v (iv ((rdX l st).1)) rfl rfl (y_asg rfl rfl rr) (wl_nil fun F38 hF39 => ?_)
 obtain ⟨s40, s41, s42, s43⟩ := t4 hF39 0 s23 35 s24 3 s25 4 s26
 have s44 : F38 6 = iv ((rdX l st).1) := (hF39 6).trans rfl
 clear hF39
 refine then_normal (wq_seq (wq_region (wl_mv rfl rfl rfl s40 (wl_call (R := fun v_ w_ => ∃ (T47 : Nat → Prop), iv ((rdX l (rdX l st).2).1) = v_ ∧ Kept T29 w27 w_ ∧ (Rfi w_ T47 p l ((rdStep (signedRd l 128) ((rdStep (signedRd l 128) st).2)).2) ∧ Grew w27 T29 T47)) rfl rfl (y_cs rfl rfl rfl (fun _ _ => by kernel_rfl) (ev_func _) (vsC rfl (vsC rfl vsN)) (t_fsigned p l ((rdStep (signedRd l 128) st).2) 128 T29 _  B30 ) (fun e_ w_ h_ => by obtain ⟨T47_, he_, hr_⟩ := h_; exact ⟨_, he_, T47_, rfl, hr_⟩)) ?_))))
 rintro _ w45 ⟨T47, rfl, k46, ⟨B48, g49⟩⟩
 have B50 := B32.all k46 (ap36.symm p1 rfl)
 have B51 := B33.all k46 (ap37.symm p10 rfl)
 have K52 := K34.trans k46 (fun i hi x => ((Grew.ok (S := T_r) gr35 (fun _ x => x)) i hi x))
 have gr53 := gr35.trans K34 g49
 have ap55 : Apart T47 (onB p10) := ap37.grew g49 (onB_live B33.lt)
 refine wl_v (iv ((rdX l (rdX l st).2).1)) rfl rfl (y_asg rfl rfl rr) (wl_nil fun F56 hF57 => ?_)
 obtain ⟨s58, s59, s60, s61, s62⟩ := t5 hF57 0 s40 35 s41 3 s42 4 s43 6 s44
 have s63 : F56 7 = iv ((rdX l (rdX l st).2).1) := (hF57 7).trans rfl
 clear hF57
 refine then_normal (wq_seq ?_)
 refine wq_tail 12 [some 13, some 14, some 15, some 16, some 17, some 18, some 19, some 20, some 21, some 22, some 23, some 8] [Pd.eq (iv ((rdX l st).1)), Pd.eq (pt p1 0), Pd.eq (iv A), Pd.eq (iv (cl 64 A)), Pd.eq (iv (((rdX l st).1) + (cl 64 A))), Pd.eq (iv ((rdX l (rdX l st).2).1)), Pd.eq (pt p1 1), Pd.eq (iv B), Pd.eq (iv (cl 64 B)), Pd.eq (iv (((rdX l (rdX l st).2).1) + (cl 64 B))), Pd.eq (.agg #[iv (((rdX l st).1) + (cl 64 A)), iv (((rdX l (rdX l st).2).1) + (cl 64 B))]), Pd.stc w45.heap.size 67 [iv 0, iv 0]] (by kernel_rfl) (by kernel_rfl) (by kernel_rfl) ?_ ?_
 ·refine stepsF_cons ?_ ?_
  ·refine StepF.one rfl fun F_ w_ hR hout hD => ?_
   exact (y_mov rfl ((hout 6 rfl (by decide)).trans s62) ⟨rfl, Kept.refl _ _⟩)
  refine stepsF_cons ?_ ?_
  ·refine StepF.one rfl fun F_ w_ hR hout hD => ?_
   exact (y_fieldR (n := 1) rfl ((hout 3 rfl (by decide)).trans s60) Tryz.underlying67 rfl (by kernel_rfl) (by decide) rfl ⟨rfl, Kept.refl _ _⟩)
  refine stepsF_cons ?_ ?_
  ·refine StepF.one rfl fun F_ w_ hR hout hD => ?_
   have g14 : F_ 14 = pt p1 0 := (hD.get 0 rfl rfl rfl)
   exact (y_ld_stc rfl g14 Tryz.underlying3 (B50.all hR id) rfl rfl ⟨rfl, Kept.refl _ _⟩)
  refine stepsF_cons ?_ ?_
  ·refine StepF.one rfl fun F_ w_ hR hout hD => ?_
   have g15 : F_ 15 = iv A := (hD.get 0 rfl rfl rfl)
   exact (y_cs rfl rfl rfl (fun _ _ => by kernel_rfl) (ev_func _) (vsC g15 vsN) (vref_clamp A  _   ) (fun e_ w_ h_ => ⟨_, h_.1, rfl, h_.2⟩))
  refine stepsF_cons ?_ ?_
  ·refine StepF.one rfl fun F_ w_ hR hout hD => ?_
   have g13 : F_ 13 = iv ((rdX l st).1) := (hD.get 0 rfl rfl rfl)
   have g16 : F_ 16 = iv (cl 64 A) := (hD.get 1 rfl rfl rfl)
   exact (y_add rfl g13 g16 (i64_i rfl (by omega)) ⟨rfl, Kept.refl _ _⟩)
  refine stepsF_cons ?_ ?_
  ·refine StepF.one rfl fun F_ w_ hR hout hD => ?_
   exact (y_mov rfl ((hout 7 rfl (by decide)).trans s63) ⟨rfl, Kept.refl _ _⟩)
  refine stepsF_cons ?_ ?_
  ·refine StepF.one rfl fun F_ w_ hR hout hD => ?_
   exact (y_fieldR (n := 1) rfl ((hout 3 rfl (by decide)).trans s60) Tryz.underlying67 rfl (by kernel_rfl) (by decide) rfl ⟨rfl, Kept.refl _ _⟩)
  refine stepsF_cons ?_ ?_
  ·refine StepF.one rfl fun F_ w_ hR hout hD => ?_
   have g19 : F_ 19 = pt p1 1 := (hD.get 0 rfl rfl rfl)
   exact (y_ld_stc rfl g19 Tryz.underlying3 (B50.all hR id) rfl rfl ⟨rfl, Kept.refl _ _⟩)
  refine stepsF_cons ?_ ?_
  ·refine StepF.one rfl fun F_ w_ hR hout hD => ?_
   have g20 : F_ 20 = iv B := (hD.get 0 rfl rfl rfl)
   exact (y_cs rfl rfl rfl (fun _ _ => by kernel_rfl) (ev_func _) (vsC g20 vsN) (vref_clamp B  _   ) (fun e_ w_ h_ => ⟨_, h_.1, rfl, h_.2⟩))
  refine stepsF_cons ?_ ?_
  ·refine StepF.one rfl fun F_ w_ hR hout hD => ?_
   have g18 : F_ 18 = iv ((rdX l (rdX l st).2).1) := (hD.get 0 rfl rfl rfl)
   have g21 : F_ 21 = iv (cl 64 B) := (hD.get 1 rfl rfl rfl)
   exact (y_add rfl g18 g21 (i64_i rfl (by omega)) ⟨rfl, Kept.refl _ _⟩)
  refine stepsF_cons ?_ ?_
  ·refine StepF.one rfl fun F_ w_ hR hout hD => ?_
   have g17 : F_ 17 = iv (((rdX l st).1) + (cl 64 A)) := (hD.get 0 rfl rfl rfl)
   have g22 : F_ 22 = iv (((rdX l (rdX l st).2).1) + (cl 64 B)) := (hD.get 1 rfl rfl rfl)
   exact (y_buildL (l' := [(0, iv (((rdX l st).1) + (cl 64 A))), (1, iv (((rdX l (rdX l st).2).1) + (cl 64 B)))]) (cells := #[iv (((rdX l st).1) + (cl 64 A)), iv (((rdX l (rdX l st).2).1) + (cl 64 B))]) rfl (bpC g17 (bpC g22 bpN)) (by kernel_rfl) rfl ⟨rfl, Kept.refl _ _⟩)
  refine stepsF_cons ?_ ?_
  ·refine StepF.one rfl fun F_ w_ hR hout hD => ?_
   exact y_alloc_stc (n := 2) (vs := [iv 0, iv 0]) rfl (by kernel_rfl) ⟨⟨_, rfl, hR.size, heap_alloc_new _ _⟩, (Kept.refl _ _).alloc _⟩
  exact stepsF_nil
 intro v64 F65 w66 k67 G68 hF69
 have B71 := B48.all k67 Apart.none
 have B73 := B51.all k67 id
 have K74 := K52.tr k67
 obtain ⟨s75, s76, s77⟩ := t3 hF69 0 s58 35 s59 4 s61
 obtain ⟨p80, e79, e81, B82⟩ := G68 11 (by decide)
 replace B82 : Stc w66 p80 67 [iv 0, iv 0] := B82
 have gr83 : Grew w0 noB (onB p80) := Grew.new K52 (onB_new e81)
 have ap84 : Apart (onB p80) T47 := Apart.new (onB_new e81) B48.live
 have ap86 : Apart (onB p80) (onB p10) := Apart.new (onB_new e81) (onB_live B51.lt)
 have s78 : F65 8 = pt p80 0 := (hF69 8).trans e79
 have s87 : F65 23 = .agg #[iv (((rdX l st).1) + (cl 64 A)), iv (((rdX l (rdX l st).2).1) + (cl 64 B))] := (hF69 23).trans (G68 10 (by decide))
 clear G68 hF69
 refine wl_store_stc (us := [iv (((rdX l st).1) + (cl 64 A)), iv (((rdX l (rdX l st).2).1) + (cl 64 B))]) stcT_vector rfl rfl rfl s78 s87 B82 rfl (oneI rfl (oneI rfl oneN)) fun w88 B89 k90 => ?_
 have B91 := B71.all k90 ap84.symm
 have B93 := B73.all k90 (ap86.symm p10 rfl)
 have K94 := K74.trans k90 (Grew.ok (S := T_r) gr83 noB_le)
 refine wl_nil fun F95 hF96 => ?_
 obtain ⟨s97, s98, s99, s100⟩ := t4 hF96 0 s75 35 s76 4 s77 8 s78
 clear hF96
 refine then_normal (wq_seq (wq_seq ?_))
 rcases Bool.eq_false_or_eq_true (((rdStep (signedRd l 128) ((rdStep (signedRd l 128) st).2)).2).isNone) with d101 | d101
 ·skip
  refine wq_region (wl_mv rfl rfl rfl s97 (wl_v (pt p 0) rfl rfl (y_nilc rfl rfl rr) (wl_v (pt p 2) rfl rfl (y_fieldR (n := 1) rfl rfl Tryz.underlying80 rfl (by kernel_rfl) (by decide) rfl rr) (wl_v (.bool true) rfl rfl (y_rf_lost rfl rfl B91 d101 rr) (wl_v (.bool true) rfl rfl (y_mov rfl rfl rr) (wl_unless 4 false 28 rfl rfl rfl (Or.inl rfl) rfl (wl_unless 4 false 28 rfl rfl rfl (Or.inl rfl) rfl (wl_unless 4 false 28 rfl rfl rfl (Or.inl rfl) rfl (wl_v (.bool true) rfl rfl (y_pickT rfl rfl rfl rr) (wl_nil fun F102 hF103 => ?_))))))))))
  obtain ⟨s104, s105⟩ := t2 hF103 35 s98 4 s99
  have s107 : F102 32 = .bool true := (hF103 32).trans rfl
  clear hF103
  refine then_normal ?_
  refine wq_cond (t := true) s107 (fun _ => ?_) (fun e => by cases e)
  refine wq_seq ?_
  have hR := vr_no (l := l) (gx := A) (gy := B) (s := st) (by unfold rdOk; rintro ⟨h7, h8⟩; first | exact h7 (Option.isNone_iff_eq_none.1 (by assumption)) | exact absurd (vecE_yes h8) (by assumption))
  refine wq_region (wl_v (.agg #[iv 0, iv 0]) rfl rfl (y_buildL (l' := []) (cells := #[iv 0, iv 0]) rfl bpN (by kernel_rfl) rfl rr) (wl_store_stc (us := [iv 0, iv 0]) stcT_vector rfl rfl rfl s105 rfl B93 rfl (oneI rfl (oneI rfl oneN)) fun w108 B109 k110 => ?_))
  have B111 := B91.all k110 ap55
  have K114 := K94.trans k110 (Grew.ok (S := T_r) gr15 noB_le)
  refine wl_v (iv 90) rfl rfl (y_asg rfl rfl rr) (wl_nil fun F115 hF116 => ?_)
  obtain ⟨s117, s118⟩ := t2 hF116 35 s104 4 s105
  have s119 : F115 5 = iv 90 := (hF116 5).trans rfl
  clear hF116
  refine then_normal (wq_ret (then_ret ?_))
  exact end_2 s117 rfl (res_stc (vs := [iv 0, iv 0]) stcT_vector rfl s118 B109) (res_tmp (v := iv 90) rfl s119) ⟨T47, (by rw [hR.1, hR.2.1, hR.2.2]), K114, ⟨B111, gr53⟩⟩
 ·skip
  refine wq_region (wl_mv rfl rfl rfl s97 (wl_v (pt p 0) rfl rfl (y_nilc rfl rfl rr) (wl_v (pt p 2) rfl rfl (y_fieldR (n := 1) rfl rfl Tryz.underlying80 rfl (by kernel_rfl) (by decide) rfl rr) (wl_v (.bool false) rfl rfl (y_rf_lost rfl rfl B91 d101 rr) (wl_v (.bool false) rfl rfl (y_mov rfl rfl rr) (wl_vw (.agg #[iv (((rdX l st).1) + (cl 64 A)), iv (((rdX l (rdX l st).2).1) + (cl 64 B))]) 4 false 28 rfl rfl rfl rfl rfl (y_load_stc stcT_vector rfl s100 B89 rr) (wl_callw (R := fun v_ w_ => v_ = iv (vecE (((rdX l st).1) + (cl 64 A)) (((rdX l (rdX l st).2).1) + (cl 64 B))) ∧ Kept (fun _ => False) w88 w_) 4 false 28 rfl rfl rfl rfl rfl (y_cs rfl rfl rfl (fun _ _ => by kernel_rfl) (ev_func _) (vsC rfl vsN) (mref_check (((rdX l st).1) + (cl 64 A)) (((rdX l (rdX l st).2).1) + (cl 64 B))  _   ) (fun e_ w_ h_ => ⟨_, h_.1, rfl, h_.2⟩)) ?_)))))))
  rintro _ w120 ⟨rfl, k121⟩
  have B122 := B91.all k121 Apart.none
  have B124 := B93.all k121 id
  have B125 := B89.all k121 id
  have K126 := K94.tr k121
  refine wl_vw (.bool (decide ((vecE (((rdX l st).1) + (cl 64 A)) (((rdX l (rdX l st).2).1) + (cl 64 B))) ≠ 0))) 4 false 28 rfl rfl rfl rfl rfl (y_neqI rfl rfl rfl rfl rr) (wl_v (.bool (decide ((vecE (((rdX l st).1) + (cl 64 A)) (((rdX l (rdX l st).2).1) + (cl 64 B))) ≠ 0))) rfl rfl (y_pickF rfl rfl rfl rr) (wl_nil fun F127 hF128 => ?_))
  obtain ⟨s129, s130, s131⟩ := t3 hF128 35 s98 4 s99 8 s100
  have s132 : F127 32 = .bool (decide ((vecE (((rdX l st).1) + (cl 64 A)) (((rdX l (rdX l st).2).1) + (cl 64 B))) ≠ 0)) := (hF128 32).trans rfl
  clear hF128
  refine then_normal ?_
  refine wq_cond s132 (fun c133 => ?_) (fun c133 => ?_)
  ·replace c133 := of_decide_eq_true c133
   refine wq_seq ?_
   have hR := vr_no (l := l) (gx := A) (gy := B) (s := st) (by unfold rdOk; rintro ⟨h7, h8⟩; first | exact h7 (Option.isNone_iff_eq_none.1 (by assumption)) | exact absurd (vecE_yes h8) (by assumption))
   refine wq_region (wl_v (.agg #[iv 0, iv 0]) rfl rfl (y_buildL (l' := []) (cells := #[iv 0, iv 0]) rfl bpN (by kernel_rfl) rfl rr) (wl_store_stc (us := [iv 0, iv 0]) stcT_vector rfl rfl rfl s130 rfl B124 rfl (oneI rfl (oneI rfl oneN)) fun w134 B135 k136 => ?_))
   have B137 := B122.all k136 ap55
   have K140 := K126.trans k136 (Grew.ok (S := T_r) gr15 noB_le)
   refine wl_v (iv 90) rfl rfl (y_asg rfl rfl rr) (wl_nil fun F141 hF142 => ?_)
   obtain ⟨s143, s144⟩ := t2 hF142 35 s129 4 s130
   have s145 : F141 5 = iv 90 := (hF142 5).trans rfl
   clear hF142
   refine then_normal (wq_ret (then_ret ?_))
   exact end_2 s143 rfl (res_stc (vs := [iv 0, iv 0]) stcT_vector rfl s144 B135) (res_tmp (v := iv 90) rfl s145) ⟨T47, (by rw [hR.1, hR.2.1, hR.2.2]), K140, ⟨B137, gr53⟩⟩
  ·replace c133 := of_decide_eq_false c133
   refine wq_skip (then_normal (wq_seq ?_))
   have hR := vr_yes (l := l) (gx := A) (gy := B) (s := st) (by unfold rdOk; exact ⟨fun h7 => absurd (Option.isNone_iff_eq_none.2 h7) (Bool.eq_false_iff.1 (by assumption)), (vecE_iff _ _).1 (Decidable.byContradiction (by assumption))⟩)
   refine wq_region (wl_v (.agg #[iv (((rdX l st).1) + (cl 64 A)), iv (((rdX l (rdX l st).2).1) + (cl 64 B))]) rfl rfl (y_load_stc stcT_vector rfl s131 B125 rr) (wl_store_stc (us := [iv (((rdX l st).1) + (cl 64 A)), iv (((rdX l (rdX l st).2).1) + (cl 64 B))]) stcT_vector rfl rfl rfl s130 rfl B124 rfl (oneI rfl (oneI rfl oneN)) fun w146 B147 k148 => ?_))
   have B149 := B122.all k148 ap55
   have K152 := K126.trans k148 (Grew.ok (S := T_r) gr15 noB_le)
   refine wl_v (iv 0) rfl rfl (y_asg rfl rfl rr) (wl_nil fun F153 hF154 => ?_)
   obtain ⟨s155, s156⟩ := t2 hF154 35 s129 4 s130
   have s157 : F153 5 = iv 0 := (hF154 5).trans rfl
   clear hF154
   refine then_normal (wq_ret ?_)
   exact end_2 s155 rfl (res_stc (vs := [iv (((rdX l st).1) + (cl 64 A)), iv (((rdX l (rdX l st).2).1) + (cl 64 B))]) stcT_vector rfl s156 B147) (res_tmp (v := iv 0) rfl s157) ⟨T47, (by rw [hR.1, hR.2.1, hR.2.2]), K152, ⟨B149, gr53⟩⟩
end Go.Proofs.YtknjpdcpmpfklaaGreatDoor
set_option maxRecDepth 100000
namespace Go.Proofs.YtknjpdcpmpfklaaGreatDoor
open Go.RowKit
def Rdi.ty (e : TypeId) : Prop := e = 106 ∨ e = 5
def Rfi.ty (e : TypeId) : Prop := e = 80
instance (e : TypeId) : Decidable (Rdi.ty e) := by unfold Rdi.ty; infer_instance
instance (e : TypeId) : Decidable (Rfi.ty e) := by unfold Rfi.ty; infer_instance
theorem Rdi.types {w : World} {T : Nat → Prop} {p : Nat} {l : List Nat} {st : Option Nat} (h : Rdi w T p l st) : ∀ x, T x → ∀ c e f, w.heap[x]? = some (.cells c e f) → Rdi.ty e := by
  obtain ⟨_, g, rfl, h⟩ := h
  have hr : ∃ a b, RdAt w p g l a b := by
    cases st with
    | none => obtain ⟨a, h⟩ := h; exact ⟨a, _, h⟩
    | some a => exact ⟨a, _, h.2⟩
  obtain ⟨a, b, h1, h2, _⟩ := hr
  intro x hx c e f hc
  rcases hx with rfl | rfl
  · rw [h1] at hc; cases hc; exact .inl rfl
  · rw [h2] at hc; cases hc; exact .inr rfl
theorem Rfi.types {w : World} {T : Nat → Prop} {p : Nat} {l : List Nat} {st : Option Nat} (h : Rfi w T p l st) : ∀ x, T x → ∀ c e f, w.heap[x]? = some (.cells c e f) → Rfi.ty e := by
  obtain ⟨_, _, rfl, h⟩ := h
  have hr : ∃ a b, RfAt w p l a b := by
    cases st with
    | none => obtain ⟨a, _, h⟩ := h; exact ⟨a, _, h⟩
    | some a => exact ⟨a, _, h.2⟩
  obtain ⟨a, b, h1⟩ := hr
  intro x hx c e f hc
  cases hx
  rw [h1] at hc; cases hc; rfl
theorem Rdi.at {w : World} {T : Nat → Prop} {p : Nat} {l : List Nat} {st : Option Nat} (h : Rdi w T p l st) (x : Nat) (hx : T x) : ∃ c e f, w.heap[x]? = some (.cells c e f) ∧ Rdi.ty e := by
  obtain ⟨_, g, rfl, h⟩ := h
  have hr : ∃ a b, RdAt w p g l a b := by
    cases st with
    | none => obtain ⟨a, h⟩ := h; exact ⟨a, _, h⟩
    | some a => exact ⟨a, _, h.2⟩
  obtain ⟨a, b, h1, h2, _⟩ := hr
  rcases hx with rfl | rfl
  · exact ⟨_, _, _, h1, .inl rfl⟩
  · exact ⟨_, _, _, h2, .inr rfl⟩
theorem Rfi.at {w : World} {T : Nat → Prop} {p : Nat} {l : List Nat} {st : Option Nat} (h : Rfi w T p l st) (x : Nat) (hx : T x) : ∃ c e f, w.heap[x]? = some (.cells c e f) ∧ Rfi.ty e := by
  obtain ⟨_, _, rfl, h⟩ := h
  have hr : ∃ a b, RfAt w p l a b := by
    cases st with
    | none => obtain ⟨a, _, h⟩ := h; exact ⟨a, _, h⟩
    | some a => exact ⟨a, _, h.2⟩
  obtain ⟨a, b, h1⟩ := hr
  cases hx
  exact ⟨_, _, _, h1, rfl⟩
theorem Stc.types {w : World} {p : Nat} {t : TypeId} {vs : List Value} (h : Stc w p t vs) : ∀ x, x = p → ∀ c e f, w.heap[x]? = some (.cells c e f) → e = t := by
  intro x hx c e f hc
  subst hx
  unfold Stc at h
  rw [h] at hc; cases hc; rfl
end Go.Proofs.YtknjpdcpmpfklaaGreatDoor
