/- What MotionSearches reaches of my texts, part 3. -/
import Derived.Test.YtceoidglhakanaaMotionSearchesB
namespace Go.Proofs.Ytceoidglhakanaa
open Go.RowKit

set_option maxHeartbeats 4000000 in
set_option maxRecDepth 100000 in
theorem ps_clamped (n a b : Int) (w0 : World) :
    Calls Try.prog 53 #[.int .i64 (n), .int .i64 (a), .int .i64 (b)] w0 fun e w' => e = .returned (.int .i64 (max a (min n b))) ∧ Kept (fun _ => False) w0 w' := by
  refine calls_wq (args := [.int .i64 (n), .int .i64 (a), .int .i64 (b)]) 12 Try.func53 rfl rfl (Nat.le_of_ble_eq_true rfl) ?_
  have K0 := Kept.refl (fun _ => False) w0
  refine wq_seq ?_
  refine wq_region ?_
  refine wl_v (.int .i64 (0)) rfl rfl (y_asg rfl rfl ⟨rfl, rfl⟩) ?_
  refine wl_nil fun F1 hF2 => ?_
  have s3 : F1 0 = .int .i64 (n) := (hF2 0).trans rfl
  have s4 : F1 1 = .int .i64 (a) := (hF2 1).trans rfl
  have s5 : F1 2 = .int .i64 (b) := (hF2 2).trans rfl
  have s6 : F1 12 = undef := (hF2 12).trans rfl
  clear hF2
  refine then_normal ?_
  refine wq_seq ?_
  refine wq_region ?_
  refine wl_v (.int .i64 (a)) rfl rfl (y_mov rfl s4 ⟨rfl, rfl⟩) ?_
  refine wl_v (.int .i64 (n)) rfl rfl (y_mov rfl s3 ⟨rfl, rfl⟩) ?_
  refine wl_v (.int .i64 (b)) rfl rfl (y_mov rfl s5 ⟨rfl, rfl⟩) ?_
  refine wl_v (.int .i64 (min (n) (b))) rfl rfl (y_minR rfl rfl rfl rfl ⟨rfl, rfl⟩) ?_
  refine wl_v (.int .i64 (max (a) (min (n) (b)))) rfl rfl (y_maxR rfl rfl rfl rfl ⟨rfl, rfl⟩) ?_
  refine wl_v (.int .i64 (max (a) (min (n) (b)))) rfl rfl (y_asg rfl rfl ⟨rfl, rfl⟩) ?_
  refine wl_nil fun F7 hF8 => ?_
  have s9 : F7 12 = undef := (hF8 12).trans s6
  have s10 : F7 6 = .int .i64 (max (a) (min (n) (b))) := (hF8 6).trans rfl
  clear hF8
  refine then_normal ?_
  refine wq_ret ?_
  exact end_tmp (v := .int .i64 (max (a) (min (n) (b)))) s9 rfl rfl s10 ⟨rfl, K0⟩

set_option maxHeartbeats 4000000 in
set_option maxRecDepth 100000 in
theorem ps_side (n : Int) (w0 : World) :
    Calls Try.prog 41 #[.int .i64 (n)] w0 fun e w' => e = .returned (.bool (sideB n)) ∧ Kept (fun _ => False) w0 w' := by
  refine calls_wq (args := [.int .i64 (n)]) 14 Try.func41 rfl rfl (Nat.le_of_ble_eq_true rfl) ?_
  have K0 := Kept.refl (fun _ => False) w0
  refine wq_seq ?_
  refine wq_region ?_
  refine wl_v (.bool false) rfl rfl (y_asg rfl rfl ⟨rfl, rfl⟩) ?_
  refine wl_nil fun F1 hF2 => ?_
  have s3 : F1 0 = .int .i64 (n) := (hF2 0).trans rfl
  have s4 : F1 14 = undef := (hF2 14).trans rfl
  clear hF2
  refine then_normal ?_
  refine wq_seq ?_
  by_cases d5 : (8) ≤ (n)
  · skip
    by_cases d6 : (n) ≤ (64)
    · skip
      refine wq_region ?_
      refine wl_v (.int .i64 (n)) rfl rfl (y_mov rfl s3 ⟨rfl, rfl⟩) ?_
      refine wl_v (.bool true) rfl rfl (y_geq rfl rfl rfl (decide_eq_true d5) ⟨rfl, rfl⟩) ?_
      refine wl_v (.bool true) rfl rfl (y_mov rfl rfl ⟨rfl, rfl⟩) ?_
      refine wl_vw (.int .i64 (n)) 2 true 5 rfl rfl rfl rfl rfl (y_mov rfl s3 ⟨rfl, rfl⟩) ?_
      refine wl_vw (.bool true) 2 true 5 rfl rfl rfl rfl rfl (y_leq rfl rfl rfl (decide_eq_true d6) ⟨rfl, rfl⟩) ?_
      refine wl_v (.bool true) rfl rfl (y_pickT rfl rfl rfl ⟨rfl, rfl⟩) ?_
      refine wl_v (.bool true) rfl rfl (y_mov rfl rfl ⟨rfl, rfl⟩) ?_
      refine wl_vw (.int .i64 (n)) 6 true 9 rfl rfl rfl rfl rfl (y_mov rfl s3 ⟨rfl, rfl⟩) ?_
      refine wl_vw (.int .i64 (Int.tmod (n) (8))) 6 true 9 rfl rfl rfl rfl rfl (y_rem rfl rfl rfl (by first | decide | omega) rfl ⟨rfl, rfl⟩) ?_
      refine wl_vw (.bool (decide ((Int.tmod (n) (8)) = (0)))) 6 true 9 rfl rfl rfl rfl rfl (y_eqlI rfl rfl rfl rfl ⟨rfl, rfl⟩) ?_
      refine wl_v (.bool (decide ((Int.tmod (n) (8)) = (0)))) rfl rfl (y_pickT rfl rfl rfl ⟨rfl, rfl⟩) ?_
      refine wl_v (.bool (decide ((Int.tmod (n) (8)) = (0)))) rfl rfl (y_asg rfl rfl ⟨rfl, rfl⟩) ?_
      refine wl_nil fun F7 hF8 => ?_
      have s9 : F7 14 = undef := (hF8 14).trans s4
      have s10 : F7 2 = .bool (decide ((Int.tmod (n) (8)) = (0))) := (hF8 2).trans rfl
      clear hF8
      refine then_normal ?_
      refine wq_ret ?_
      exact end_tmp (v := .bool (decide ((Int.tmod (n) (8)) = (0)))) s9 rfl rfl s10 ⟨(by first | rw [sideB_low (by omega)] | rw [sideB_high (by omega)] | rw [sideB_mid (by omega) (by omega)]), K0⟩
    · skip
      refine wq_region ?_
      refine wl_v (.int .i64 (n)) rfl rfl (y_mov rfl s3 ⟨rfl, rfl⟩) ?_
      refine wl_v (.bool true) rfl rfl (y_geq rfl rfl rfl (decide_eq_true d5) ⟨rfl, rfl⟩) ?_
      refine wl_v (.bool true) rfl rfl (y_mov rfl rfl ⟨rfl, rfl⟩) ?_
      refine wl_vw (.int .i64 (n)) 2 true 5 rfl rfl rfl rfl rfl (y_mov rfl s3 ⟨rfl, rfl⟩) ?_
      refine wl_vw (.bool false) 2 true 5 rfl rfl rfl rfl rfl (y_leq rfl rfl rfl (decide_eq_false d6) ⟨rfl, rfl⟩) ?_
      refine wl_v (.bool false) rfl rfl (y_pickT rfl rfl rfl ⟨rfl, rfl⟩) ?_
      refine wl_v (.bool false) rfl rfl (y_mov rfl rfl ⟨rfl, rfl⟩) ?_
      refine wl_unless 6 true 9 rfl rfl rfl (Or.inl rfl) rfl ?_
      refine wl_unless 6 true 9 rfl rfl rfl (Or.inl rfl) rfl ?_
      refine wl_unless 6 true 9 rfl rfl rfl (Or.inl rfl) rfl ?_
      refine wl_v (.bool false) rfl rfl (y_pickF rfl rfl rfl ⟨rfl, rfl⟩) ?_
      refine wl_v (.bool false) rfl rfl (y_asg rfl rfl ⟨rfl, rfl⟩) ?_
      refine wl_nil fun F11 hF12 => ?_
      have s13 : F11 14 = undef := (hF12 14).trans s4
      have s14 : F11 2 = .bool false := (hF12 2).trans rfl
      clear hF12
      refine then_normal ?_
      refine wq_ret ?_
      exact end_tmp (v := .bool false) s13 rfl rfl s14 ⟨(by first | rw [sideB_low (by omega)] | rw [sideB_high (by omega)] | rw [sideB_mid (by omega) (by omega)]), K0⟩
  · skip
    refine wq_region ?_
    refine wl_v (.int .i64 (n)) rfl rfl (y_mov rfl s3 ⟨rfl, rfl⟩) ?_
    refine wl_v (.bool false) rfl rfl (y_geq rfl rfl rfl (decide_eq_false d5) ⟨rfl, rfl⟩) ?_
    refine wl_v (.bool false) rfl rfl (y_mov rfl rfl ⟨rfl, rfl⟩) ?_
    refine wl_unless 2 true 5 rfl rfl rfl (Or.inl rfl) rfl ?_
    refine wl_unless 2 true 5 rfl rfl rfl (Or.inl rfl) rfl ?_
    refine wl_v (.bool false) rfl rfl (y_pickF rfl rfl rfl ⟨rfl, rfl⟩) ?_
    refine wl_v (.bool false) rfl rfl (y_mov rfl rfl ⟨rfl, rfl⟩) ?_
    refine wl_unless 6 true 9 rfl rfl rfl (Or.inl rfl) rfl ?_
    refine wl_unless 6 true 9 rfl rfl rfl (Or.inl rfl) rfl ?_
    refine wl_unless 6 true 9 rfl rfl rfl (Or.inl rfl) rfl ?_
    refine wl_v (.bool false) rfl rfl (y_pickF rfl rfl rfl ⟨rfl, rfl⟩) ?_
    refine wl_v (.bool false) rfl rfl (y_asg rfl rfl ⟨rfl, rfl⟩) ?_
    refine wl_nil fun F15 hF16 => ?_
    have s17 : F15 14 = undef := (hF16 14).trans s4
    have s18 : F15 2 = .bool false := (hF16 2).trans rfl
    clear hF16
    refine then_normal ?_
    refine wq_ret ?_
    exact end_tmp (v := .bool false) s17 rfl rfl s18 ⟨(by first | rw [sideB_low (by omega)] | rw [sideB_high (by omega)] | rw [sideB_mid (by omega) (by omega)]), K0⟩

def sidesF (f : FD) (p : Int) : Int × Int := if p = 0 then (f.W, f.H) else (Int.tdiv f.W 2, Int.tdiv f.H 2)
set_option maxHeartbeats 4000000 in
set_option maxRecDepth 100000 in
theorem ps_sides (p : Int) (f : FD) (f0 f1 f2 : Value) (T_f0 : Nat → Prop) (T_f1 : Nat → Prop) (T_f2 : Nat → Prop) (w0 : World) (hw : 0 ≤ f.W ∧ f.W ≤ 64) (hh : 0 ≤ f.H ∧ f.H ≤ 64) (h_f0 : Byt w0 T_f0 f0 ((f).p0)) (h_f1 : Byt w0 T_f1 f1 ((f).p1)) (h_f2 : Byt w0 T_f2 f2 ((f).p2)) :
    Calls Try.prog 48 #[.agg #[.int .i64 ((f).W), .int .i64 ((f).H), f0, f1, f2], .int .i64 (p)] w0 fun e w' => e = .returned (.tuple #[.int .i64 ((sidesF f p).1), .int .i64 ((sidesF f p).2)]) ∧ Kept (fun _ => False) w0 w' := by
  refine calls_wq (args := [.agg #[.int .i64 ((f).W), .int .i64 ((f).H), f0, f1, f2], .int .i64 (p)]) 18 Try.func48 rfl rfl (Nat.le_of_ble_eq_true rfl) ?_
  have K0 := Kept.refl (fun _ => False) w0
  have g_f0 := Grew.refl w0 T_f0
  have g_f1 := Grew.refl w0 T_f1
  have g_f2 := Grew.refl w0 T_f2
  refine wq_seq ?_
  refine wq_region ?_
  refine wl_box_stc (vs := [.int .i64 ((f).W), .int .i64 ((f).H), f0, f1, f2]) rfl rfl rfl rfl fun p1 w2 B4 g5 k3 => ?_
  have gr6 : Grew w0 noB (onB p1) := Grew.new K0 g5
  have ap7 : Apart (onB p1) (T_f0) := Apart.new g5 (h_f0).live
  have ap8 : Apart (onB p1) (T_f1) := Apart.new g5 (h_f1).live
  have ap9 : Apart (onB p1) (T_f2) := Apart.new g5 (h_f2).live
  have B10 := h_f0.all k3 Apart.none
  have B11 := h_f1.all k3 Apart.none
  have B12 := h_f2.all k3 Apart.none
  have K13 := K0.trans k3 (fun _ _ x => x.elim)
  refine wl_v (.int .i64 (0)) rfl rfl (y_asg rfl rfl ⟨rfl, rfl⟩) ?_
  refine wl_v (.int .i64 (0)) rfl rfl (y_asg rfl rfl ⟨rfl, rfl⟩) ?_
  refine wl_nil fun F14 hF15 => ?_
  have s16 : F14 1 = .int .i64 (p) := (hF15 1).trans rfl
  have s17 : F14 18 = undef := (hF15 18).trans rfl
  have s18 : F14 2 = .pointer (some ⟨p1, 0, none⟩) := (hF15 2).trans rfl
  clear hF15
  refine then_normal ?_
  refine wq_seq ?_
  refine wq_seq ?_
  refine wq_region ?_
  refine wl_v (.int .i64 (p)) rfl rfl (y_mov rfl s16 ⟨rfl, rfl⟩) ?_
  refine wl_v (.bool (decide ((p) = (0)))) rfl rfl (y_eqlI rfl rfl rfl rfl ⟨rfl, rfl⟩) ?_
  refine wl_nil fun F19 hF20 => ?_
  have s21 : F19 18 = undef := (hF20 18).trans s17
  have s22 : F19 2 = .pointer (some ⟨p1, 0, none⟩) := (hF20 2).trans s18
  have s23 : F19 7 = .bool (decide ((p) = (0))) := (hF20 7).trans rfl
  clear hF20
  refine then_normal ?_
  refine wq_cond s23 (fun c24 => ?_) (fun c24 => ?_)
  · replace c24 := of_decide_eq_true c24
    refine wq_seq ?_
    refine wq_said [some 8, some 9, some 10, some 11, some 4, some 5] [Pd.eq (.pointer (some ⟨p1, 0, none⟩)), Pd.eq (.int .i64 ((f).W)), Pd.eq (.pointer (some ⟨p1, 1, none⟩)), Pd.eq (.int .i64 ((f).H)), Pd.eq (.int .i64 ((f).W)), Pd.eq (.int .i64 ((f).H))] (by kernel_rfl) (by kernel_rfl) ?_ ?_
    · refine stepsF_cons ?_ ?_
      · refine StepF.one rfl fun F_ w_ hR hout hD => ?_
        exact (y_fieldR (n := 1) rfl ((hout 2 rfl (by decide)).trans s22) Try.underlying25 rfl (by kernel_rfl) (by decide) rfl ⟨rfl, Kept.refl _ _⟩)
      refine stepsF_cons ?_ ?_
      · refine StepF.one rfl fun F_ w_ hR hout hD => ?_
        have g8 : F_ 8 = .pointer (some ⟨p1, 0, none⟩) := hD.get 0 rfl rfl rfl
        exact (y_ld_stc rfl g8 Try.underlying3 (B4.all hR id) rfl rfl ⟨rfl, Kept.refl _ _⟩)
      refine stepsF_cons ?_ ?_
      · refine StepF.one rfl fun F_ w_ hR hout hD => ?_
        exact (y_fieldR (n := 1) rfl ((hout 2 rfl (by decide)).trans s22) Try.underlying25 rfl (by kernel_rfl) (by decide) rfl ⟨rfl, Kept.refl _ _⟩)
      refine stepsF_cons ?_ ?_
      · refine StepF.one rfl fun F_ w_ hR hout hD => ?_
        have g10 : F_ 10 = .pointer (some ⟨p1, 1, none⟩) := hD.get 0 rfl rfl rfl
        exact (y_ld_stc rfl g10 Try.underlying3 (B4.all hR id) rfl rfl ⟨rfl, Kept.refl _ _⟩)
      refine stepsF_cons ?_ ?_
      · refine StepF.one rfl fun F_ w_ hR hout hD => ?_
        have g9 : F_ 9 = .int .i64 ((f).W) := hD.get 0 rfl rfl rfl
        exact (y_asg rfl g9 ⟨rfl, Kept.refl _ _⟩)
      refine stepsF_cons ?_ ?_
      · refine StepF.one rfl fun F_ w_ hR hout hD => ?_
        have g11 : F_ 11 = .int .i64 ((f).H) := hD.get 0 rfl rfl rfl
        exact (y_asg rfl g11 ⟨rfl, Kept.refl _ _⟩)
      exact stepsF_nil
    intro v25 F26 w27 k28 G29 hF30
    have B32 := B10.all k28 Apart.none
    have B33 := B11.all k28 Apart.none
    have B34 := B12.all k28 Apart.none
    have B35 := B4.all k28 id
    have K36 := K13.trans k28 (fun _ _ x => x.elim)
    have s37 : F26 18 = undef := (hF30 18).trans s21
    have s38 : F26 4 = .int .i64 ((f).W) := (hF30 4).trans (G29 4 (by decide))
    have s39 : F26 5 = .int .i64 ((f).H) := (hF30 5).trans (G29 5 (by decide))
    clear G29 hF30
    refine then_normal ?_
    refine wq_ret ?_
    refine then_ret ?_
    exact end_2 s37 rfl (res_tmp (v := .int .i64 ((f).W)) rfl s38) (res_tmp (v := .int .i64 ((f).H)) rfl s39) ⟨(by unfold sidesF; first | rw [if_pos (by assumption)] | rw [if_neg (by assumption)]), K36⟩
  · replace c24 := of_decide_eq_false c24
    refine wq_skip ?_
    refine then_normal ?_
    refine wq_seq ?_
    refine wq_said [some 12, some 13, some 14, some 15, some 16, some 17, some 4, some 5] [Pd.eq (.pointer (some ⟨p1, 0, none⟩)), Pd.eq (.int .i64 ((f).W)), Pd.eq (.int .i64 (Int.tdiv (f).W 2)), Pd.eq (.pointer (some ⟨p1, 1, none⟩)), Pd.eq (.int .i64 ((f).H)), Pd.eq (.int .i64 (Int.tdiv (f).H 2)), Pd.eq (.int .i64 (Int.tdiv (f).W 2)), Pd.eq (.int .i64 (Int.tdiv (f).H 2))] (by kernel_rfl) (by kernel_rfl) ?_ ?_
    · refine stepsF_cons ?_ ?_
      · refine StepF.one rfl fun F_ w_ hR hout hD => ?_
        exact (y_fieldR (n := 1) rfl ((hout 2 rfl (by decide)).trans s22) Try.underlying25 rfl (by kernel_rfl) (by decide) rfl ⟨rfl, Kept.refl _ _⟩)
      refine stepsF_cons ?_ ?_
      · refine StepF.one rfl fun F_ w_ hR hout hD => ?_
        have g12 : F_ 12 = .pointer (some ⟨p1, 0, none⟩) := hD.get 0 rfl rfl rfl
        exact (y_ld_stc rfl g12 Try.underlying3 (B4.all hR id) rfl rfl ⟨rfl, Kept.refl _ _⟩)
      refine stepsF_cons ?_ ?_
      · refine StepF.one rfl fun F_ w_ hR hout hD => ?_
        have g13 : F_ 13 = .int .i64 ((f).W) := hD.get 0 rfl rfl rfl
        exact (y_quo rfl g13 rfl (by first | decide | omega) (i64_i rfl (by rw [tdiv2 (by omega)]; omega)) ⟨rfl, Kept.refl _ _⟩)
      refine stepsF_cons ?_ ?_
      · refine StepF.one rfl fun F_ w_ hR hout hD => ?_
        exact (y_fieldR (n := 1) rfl ((hout 2 rfl (by decide)).trans s22) Try.underlying25 rfl (by kernel_rfl) (by decide) rfl ⟨rfl, Kept.refl _ _⟩)
      refine stepsF_cons ?_ ?_
      · refine StepF.one rfl fun F_ w_ hR hout hD => ?_
        have g15 : F_ 15 = .pointer (some ⟨p1, 1, none⟩) := hD.get 0 rfl rfl rfl
        exact (y_ld_stc rfl g15 Try.underlying3 (B4.all hR id) rfl rfl ⟨rfl, Kept.refl _ _⟩)
      refine stepsF_cons ?_ ?_
      · refine StepF.one rfl fun F_ w_ hR hout hD => ?_
        have g16 : F_ 16 = .int .i64 ((f).H) := hD.get 0 rfl rfl rfl
        exact (y_quo rfl g16 rfl (by first | decide | omega) (i64_i rfl (by rw [tdiv2 (by omega)]; omega)) ⟨rfl, Kept.refl _ _⟩)
      refine stepsF_cons ?_ ?_
      · refine StepF.one rfl fun F_ w_ hR hout hD => ?_
        have g14 : F_ 14 = .int .i64 (Int.tdiv (f).W 2) := hD.get 0 rfl rfl rfl
        exact (y_asg rfl g14 ⟨rfl, Kept.refl _ _⟩)
      refine stepsF_cons ?_ ?_
      · refine StepF.one rfl fun F_ w_ hR hout hD => ?_
        have g17 : F_ 17 = .int .i64 (Int.tdiv (f).H 2) := hD.get 0 rfl rfl rfl
        exact (y_asg rfl g17 ⟨rfl, Kept.refl _ _⟩)
      exact stepsF_nil
    intro v40 F41 w42 k43 G44 hF45
    have B47 := B10.all k43 Apart.none
    have B48 := B11.all k43 Apart.none
    have B49 := B12.all k43 Apart.none
    have B50 := B4.all k43 id
    have K51 := K13.trans k43 (fun _ _ x => x.elim)
    have s52 : F41 18 = undef := (hF45 18).trans s21
    have s53 : F41 4 = .int .i64 (Int.tdiv (f).W 2) := (hF45 4).trans (G44 6 (by decide))
    have s54 : F41 5 = .int .i64 (Int.tdiv (f).H 2) := (hF45 5).trans (G44 7 (by decide))
    clear G44 hF45
    refine then_normal ?_
    refine wq_ret ?_
    exact end_2 s52 rfl (res_tmp (v := .int .i64 (Int.tdiv (f).W 2)) rfl s53) (res_tmp (v := .int .i64 (Int.tdiv (f).H 2)) rfl s54) ⟨(by unfold sidesF; first | rw [if_pos (by assumption)] | rw [if_neg (by assumption)]), K51⟩

theorem quarter {w h : Int} (h1 : w % 8 = 0) (h2 : h % 8 = 0) (hw : 0 ≤ w) (hh : 0 ≤ h) : Int.tdiv w 2 * Int.tdiv h 2 = w * h / 4 := by
  rw [tdiv2 hw, tdiv2 hh]
  obtain ⟨a, rfl⟩ : ∃ a, w = 2 * a := ⟨w / 2, by omega⟩
  obtain ⟨b, rfl⟩ : ∃ b, h = 2 * b := ⟨h / 2, by omega⟩
  rw [show 2 * a / 2 = a by omega, show 2 * b / 2 = b by omega, show 2 * a * (2 * b) = 4 * (a * b) by rw [Int.mul_assoc, Int.mul_left_comm a 2 b, ← Int.mul_assoc]; rfl]
  omega
theorem sides_area {f : FD} (hw : sideB f.W = true) (hh : sideB f.H = true) (p : Int) : 0 ≤ (sidesF f p).1 * (sidesF f p).2 ∧ (sidesF f p).1 * (sidesF f p).2 ≤ 4096 ∧ (sidesF f p).1 * (sidesF f p).2 = (if p = 0 then f.W * f.H else f.W * f.H / 4) := by
  have h := area_bounds hw hh
  have h1 := (sideB_iff _).1 hw
  have h2 := (sideB_iff _).1 hh
  unfold sidesF
  by_cases hp : p = 0
  · rw [if_pos hp, if_pos hp]; refine ⟨?_, ?_, rfl⟩ <;> (dsimp only; omega)
  · rw [if_neg hp, if_neg hp]
    have q := quarter h1.2.2 h2.2.2 (by omega) (by omega)
    dsimp only
    rw [q]; refine ⟨?_, ?_, rfl⟩ <;> omega

theorem check_parts {f : FD} (hw : sideB f.W = true) (hh : sideB f.H = true) : okF f ↔ (f.p0.length : Int) = (sidesF f ((0 : Nat) : Int)).1 * (sidesF f ((0 : Nat) : Int)).2 ∧ (f.p1.length : Int) = (sidesF f ((1 : Nat) : Int)).1 * (sidesF f ((1 : Nat) : Int)).2 ∧ (f.p2.length : Int) = (sidesF f ((2 : Nat) : Int)).1 * (sidesF f ((2 : Nat) : Int)).2 := by
  have har := area_bounds hw hh
  rw [(sides_area hw hh _).2.2, (sides_area hw hh _).2.2, (sides_area hw hh _).2.2, if_pos (show ((0 : Nat) : Int) = 0 from rfl), if_neg (by decide), if_neg (by decide)]
  unfold okF
  rw [tdiv4 (by omega)]
  exact ⟨fun h => h.2.2, fun h => ⟨hw, hh, h⟩⟩
theorem check_yes {f : FD} (hw : sideB f.W = true) (hh : sideB f.H = true) (h0 : (f.p0.length : Int) = (sidesF f ((0 : Nat) : Int)).1 * (sidesF f ((0 : Nat) : Int)).2) (h1 : (f.p1.length : Int) = (sidesF f ((1 : Nat) : Int)).1 * (sidesF f ((1 : Nat) : Int)).2) (h2 : (f.p2.length : Int) = (sidesF f ((2 : Nat) : Int)).1 * (sidesF f ((2 : Nat) : Int)).2) : checkE f = 0 := checkE_ok ((check_parts hw hh).2 ⟨h0, h1, h2⟩)
theorem check_no0 {f : FD} (hw : sideB f.W = true) (hh : sideB f.H = true) (h : (f.p0.length : Int) ≠ (sidesF f ((0 : Nat) : Int)).1 * (sidesF f ((0 : Nat) : Int)).2) : checkE f = 70 := checkE_no fun k => h ((check_parts hw hh).1 k).1
theorem check_no1 {f : FD} (hw : sideB f.W = true) (hh : sideB f.H = true) (h : (f.p1.length : Int) ≠ (sidesF f ((1 : Nat) : Int)).1 * (sidesF f ((1 : Nat) : Int)).2) : checkE f = 70 := checkE_no fun k => h ((check_parts hw hh).1 k).2.1
theorem check_no2 {f : FD} (hw : sideB f.W = true) (hh : sideB f.H = true) (h : (f.p2.length : Int) ≠ (sidesF f ((2 : Nat) : Int)).1 * (sidesF f ((2 : Nat) : Int)).2) : checkE f = 70 := checkE_no fun k => h ((check_parts hw hh).1 k).2.2

set_option maxHeartbeats 4000000 in
set_option maxRecDepth 100000 in
theorem pl_check (f : FD) (f0 f1 f2 : Value) (T_f0 : Nat → Prop) (T_f1 : Nat → Prop) (T_f2 : Nat → Prop) (w0 : World) (h_f0 : Byt w0 T_f0 f0 ((f).p0)) (h_f1 : Byt w0 T_f1 f1 ((f).p1)) (h_f2 : Byt w0 T_f2 f2 ((f).p2)) :
    Calls Try.prog 26 #[.agg #[.int .i64 ((f).W), .int .i64 ((f).H), f0, f1, f2]] w0 fun e w' => e = .returned (.int .i64 (checkE f)) ∧ Kept (fun _ => False) w0 w' := by
  refine calls_wq (args := [.agg #[.int .i64 ((f).W), .int .i64 ((f).H), f0, f1, f2]]) 36 Try.func26 rfl rfl (Nat.le_of_ble_eq_true rfl) ?_
  have K0 := Kept.refl (fun _ => False) w0
  have g_f0 := Grew.refl w0 T_f0
  have g_f1 := Grew.refl w0 T_f1
  have g_f2 := Grew.refl w0 T_f2
  refine wq_seq ?_
  refine wq_region ?_
  refine wl_box_stc (vs := [.int .i64 ((f).W), .int .i64 ((f).H), f0, f1, f2]) rfl rfl rfl rfl fun p1 w2 B4 g5 k3 => ?_
  have gr6 : Grew w0 noB (onB p1) := Grew.new K0 g5
  have ap7 : Apart (onB p1) (T_f0) := Apart.new g5 (h_f0).live
  have ap8 : Apart (onB p1) (T_f1) := Apart.new g5 (h_f1).live
  have ap9 : Apart (onB p1) (T_f2) := Apart.new g5 (h_f2).live
  have B10 := h_f0.all k3 Apart.none
  have B11 := h_f1.all k3 Apart.none
  have B12 := h_f2.all k3 Apart.none
  have K13 := K0.trans k3 (fun _ _ x => x.elim)
  refine wl_v (.int .i64 (0)) rfl rfl (y_asg rfl rfl ⟨rfl, rfl⟩) ?_
  refine wl_nil fun F14 hF15 => ?_
  have s16 : F14 36 = undef := (hF15 36).trans rfl
  have s17 : F14 1 = .pointer (some ⟨p1, 0, none⟩) := (hF15 1).trans rfl
  clear hF15
  refine then_normal ?_
  refine wq_seq ?_
  refine wq_seq ?_
  rcases Bool.eq_false_or_eq_true (sideB ((f).W)) with d18 | d18
  · skip
    rcases Bool.eq_false_or_eq_true (sideB ((f).H)) with d19 | d19
    · skip
      refine wq_region ?_
      refine wl_v (.pointer (some ⟨p1, 0, none⟩)) rfl rfl (y_fieldR (n := 1) rfl s17 Try.underlying25 rfl (by kernel_rfl) (by decide) rfl ⟨rfl, rfl⟩) ?_
      refine wl_v (.int .i64 ((f).W)) rfl rfl (y_ld_stc rfl rfl Try.underlying3 B4 rfl rfl ⟨rfl, rfl⟩) ?_
      refine wl_call (R := fun v_ w_ => v_ = .bool true ∧ Kept (fun _ => False) w2 w_) rfl rfl (y_cs rfl rfl rfl (fun _ _ => by kernel_rfl) (ev_func _) (vsC rfl vsN) (ps_side ((f).W)  _   ) (fun e_ w_ h_ => ⟨_, h_.1, (congrArg Value.bool d18), h_.2⟩)) ?_
      rintro _ w20 ⟨rfl, k21⟩
      have B22 := B10.all k21 Apart.none
      have B23 := B11.all k21 Apart.none
      have B24 := B12.all k21 Apart.none
      have B25 := B4.all k21 id
      have K26 := K13.trans k21 (fun _ _ x => x.elim)
      refine wl_v (.bool false) rfl rfl (y_not rfl rfl rfl ⟨rfl, rfl⟩) ?_
      refine wl_v (.bool false) rfl rfl (y_mov rfl rfl ⟨rfl, rfl⟩) ?_
      refine wl_vw (.pointer (some ⟨p1, 1, none⟩)) 4 false 11 rfl rfl rfl rfl rfl (y_fieldR (n := 1) rfl s17 Try.underlying25 rfl (by kernel_rfl) (by decide) rfl ⟨rfl, rfl⟩) ?_
      refine wl_vw (.int .i64 ((f).H)) 4 false 11 rfl rfl rfl rfl rfl (y_ld_stc rfl rfl Try.underlying3 B25 rfl rfl ⟨rfl, rfl⟩) ?_
      refine wl_callw (R := fun v_ w_ => v_ = .bool true ∧ Kept (fun _ => False) w20 w_) 4 false 11 rfl rfl rfl rfl rfl (y_cs rfl rfl rfl (fun _ _ => by kernel_rfl) (ev_func _) (vsC rfl vsN) (ps_side ((f).H)  _   ) (fun e_ w_ h_ => ⟨_, h_.1, (congrArg Value.bool d19), h_.2⟩)) ?_
      rintro _ w27 ⟨rfl, k28⟩
      have B29 := B22.all k28 Apart.none
      have B30 := B23.all k28 Apart.none
      have B31 := B24.all k28 Apart.none
      have B32 := B25.all k28 id
      have K33 := K26.trans k28 (fun _ _ x => x.elim)
      refine wl_vw (.bool false) 4 false 11 rfl rfl rfl rfl rfl (y_not rfl rfl rfl ⟨rfl, rfl⟩) ?_
      refine wl_v (.bool false) rfl rfl (y_pickF rfl rfl rfl ⟨rfl, rfl⟩) ?_
      refine wl_nil fun F34 hF35 => ?_
      have s36 : F34 36 = undef := (hF35 36).trans s16
      have s37 : F34 1 = .pointer (some ⟨p1, 0, none⟩) := (hF35 1).trans s17
      have s38 : F34 16 = .bool false := (hF35 16).trans rfl
      clear hF35
      refine then_normal ?_
      refine wq_cond (t := false) s38 (fun e => by cases e) (fun _ => ?_)
      refine wq_skip ?_
      refine then_normal ?_
      refine wq_seq ?_
      refine wq_seq ?_
      have hsw : sideB f.W = true := by assumption
      have hsh : sideB f.H = true := by assumption
      have hws := (sideB_iff _).1 hsw
      have hhs := (sideB_iff _).1 hsh
      have hA := sides_area hsw hsh
      have har := area_bounds hsw hsh
      refine wq_region ?_
      refine wl_v (.pointer (some ⟨p1, 2, none⟩)) rfl rfl (y_fieldR (n := 3) rfl s37 Try.underlying25 rfl (by kernel_rfl) (by decide) rfl ⟨rfl, rfl⟩) ?_
      refine wl_v (.agg #[f0, f1, f2]) rfl rfl (y_ldPl rfl rfl B32 rfl rfl rfl ⟨rfl, rfl⟩) ?_
      refine wl_v (.int .i64 (0)) rfl rfl (y_mov rfl rfl ⟨rfl, rfl⟩) ?_
      refine wl_nil fun F39 hF40 => ?_
      have s41 : F39 36 = undef := (hF40 36).trans s36
      have s42 : F39 1 = .pointer (some ⟨p1, 0, none⟩) := (hF40 1).trans s37
      have s43 : F39 18 = .agg #[f0, f1, f2] := (hF40 18).trans rfl
      have s44 : F39 19 = .int .i64 (0) := (hF40 19).trans rfl
      clear hF40
      refine then_normal ?_
      refine wq_block ?_
      refine wq_rounds 4 ?_
      refine wqr_step ?_
      refine wq_seq ?_
      refine wq_region ?_
      refine wl_v (.bool true) rfl rfl (y_lss rfl s44 rfl rfl ⟨rfl, rfl⟩) ?_
      refine wl_nil fun F45 hF46 => ?_
      have s47 : F45 36 = undef := (hF46 36).trans s41
      have s48 : F45 1 = .pointer (some ⟨p1, 0, none⟩) := (hF46 1).trans s42
      have s49 : F45 18 = .agg #[f0, f1, f2] := (hF46 18).trans s43
      have s50 : F45 19 = .int .i64 (0) := (hF46 19).trans s44
      have s51 : F45 20 = .bool true := (hF46 20).trans rfl
      clear hF46
      refine then_normal ?_
      refine wq_seq ?_
      refine wq_cond (t := true) s51 (fun _ => ?_) (fun e => by cases e)
      refine wq_skip ?_
      refine then_normal ?_
      refine wq_seq ?_
      refine wq_block ?_
      refine wq_seq ?_
      refine wq_region ?_
      refine wl_v (.int .i64 (0)) rfl rfl (y_mov rfl s50 ⟨rfl, rfl⟩) ?_
      refine wl_v (f0) rfl rfl (y_ixPl (0) rfl s49 s50 (by decide) rfl ⟨rfl, rfl⟩) ?_
      refine wl_v (.int .i64 (0)) rfl rfl (y_asg rfl rfl ⟨rfl, rfl⟩) ?_
      refine wl_v (f0) rfl rfl (y_asg rfl rfl ⟨rfl, rfl⟩) ?_
      refine wl_nil fun F52 hF53 => ?_
      have s54 : F52 36 = undef := (hF53 36).trans s47
      have s55 : F52 1 = .pointer (some ⟨p1, 0, none⟩) := (hF53 1).trans s48
      have s56 : F52 18 = .agg #[f0, f1, f2] := (hF53 18).trans s49
      have s57 : F52 19 = .int .i64 (0) := (hF53 19).trans s50
      have s58 : F52 3 = .int .i64 (0) := (hF53 3).trans rfl
      have s59 : F52 4 = f0 := (hF53 4).trans rfl
      clear hF53
      refine then_normal ?_
      refine wq_seq ?_
      refine wq_region ?_
      refine wl_v (.agg #[.int .i64 ((f).W), .int .i64 ((f).H), f0, f1, f2]) rfl rfl (y_load_stc stcT_frame rfl s55 B32 ⟨rfl, rfl⟩) ?_
      refine wl_v (.int .i64 (0)) rfl rfl (y_mov rfl s58 ⟨rfl, rfl⟩) ?_
      refine wl_call (R := fun v_ w_ => v_ = .tuple #[.int .i64 ((sidesF (f) (0)).1), .int .i64 ((sidesF (f) (0)).2)] ∧ Kept (fun _ => False) w27 w_) rfl rfl (y_cs rfl rfl rfl (fun _ _ => by kernel_rfl) (ev_func _) (vsC rfl (vsC rfl vsN)) (ps_sides (0) (f) (f0) (f1) (f2) (T_f0) (T_f1) (T_f2) _ (by omega) (by omega) B29 B30 B31 ) (fun e_ w_ h_ => ⟨_, h_.1, rfl, h_.2⟩)) ?_
      rintro _ w60 ⟨rfl, k61⟩
      have B62 := B29.all k61 Apart.none
      have B63 := B30.all k61 Apart.none
      have B64 := B31.all k61 Apart.none
      have B65 := B32.all k61 id
      have K66 := K33.trans k61 (fun _ _ x => x.elim)
      refine wl_v (.tuple #[.int .i64 ((sidesF (f) (0)).1), .int .i64 ((sidesF (f) (0)).2)]) rfl rfl (y_mov rfl rfl ⟨rfl, rfl⟩) ?_
      refine wl_v (.int .i64 ((sidesF (f) (0)).1)) rfl rfl (y_ext rfl rfl rfl ⟨rfl, rfl⟩) ?_
      refine wl_v (.int .i64 ((sidesF (f) (0)).2)) rfl rfl (y_ext rfl rfl rfl ⟨rfl, rfl⟩) ?_
      refine wl_v (.int .i64 ((sidesF (f) (0)).1)) rfl rfl (y_asg rfl rfl ⟨rfl, rfl⟩) ?_
      refine wl_v (.int .i64 ((sidesF (f) (0)).2)) rfl rfl (y_asg rfl rfl ⟨rfl, rfl⟩) ?_
      refine wl_nil fun F67 hF68 => ?_
      have s69 : F67 36 = undef := (hF68 36).trans s54
      have s70 : F67 1 = .pointer (some ⟨p1, 0, none⟩) := (hF68 1).trans s55
      have s71 : F67 18 = .agg #[f0, f1, f2] := (hF68 18).trans s56
      have s72 : F67 19 = .int .i64 (0) := (hF68 19).trans s57
      have s73 : F67 4 = f0 := (hF68 4).trans s59
      have s74 : F67 5 = .int .i64 ((sidesF (f) (0)).1) := (hF68 5).trans rfl
      have s75 : F67 6 = .int .i64 ((sidesF (f) (0)).2) := (hF68 6).trans rfl
      clear hF68
      refine then_normal ?_
      refine wq_seq ?_
      refine wq_region ?_
      refine wl_v (f0) rfl rfl (y_mov rfl s73 ⟨rfl, rfl⟩) ?_
      refine wl_v (.int .i64 (((((f).p0).length : Nat) : Int))) rfl rfl (y_lenV rfl rfl rfl B62 ⟨rfl, rfl⟩) ?_
      refine wl_v (.int .i64 ((sidesF (f) (0)).1)) rfl rfl (y_mov rfl s74 ⟨rfl, rfl⟩) ?_
      refine wl_v (.int .i64 ((sidesF (f) (0)).2)) rfl rfl (y_mov rfl s75 ⟨rfl, rfl⟩) ?_
      refine wl_v (.int .i64 ((sidesF f ((0 : Nat) : Int)).1 * (sidesF f ((0 : Nat) : Int)).2)) rfl rfl (y_mul rfl rfl rfl (i64_i rfl ⟨Int.le_trans (by decide) (hA _).1, Int.le_trans (hA _).2.1 (by decide)⟩) ⟨rfl, rfl⟩) ?_
      refine wl_v (.bool (decide ((((((f).p0).length : Nat) : Int)) ≠ ((sidesF f ((0 : Nat) : Int)).1 * (sidesF f ((0 : Nat) : Int)).2)))) rfl rfl (y_neqI rfl rfl rfl rfl ⟨rfl, rfl⟩) ?_
      refine wl_nil fun F76 hF77 => ?_
      have s78 : F76 36 = undef := (hF77 36).trans s69
      have s79 : F76 1 = .pointer (some ⟨p1, 0, none⟩) := (hF77 1).trans s70
      have s80 : F76 18 = .agg #[f0, f1, f2] := (hF77 18).trans s71
      have s81 : F76 19 = .int .i64 (0) := (hF77 19).trans s72
      have s82 : F76 34 = .bool (decide ((((((f).p0).length : Nat) : Int)) ≠ ((sidesF f ((0 : Nat) : Int)).1 * (sidesF f ((0 : Nat) : Int)).2))) := (hF77 34).trans rfl
      clear hF77
      refine then_normal ?_
      refine wq_cond s82 (fun c83 => ?_) (fun c83 => ?_)
      · replace c83 := of_decide_eq_true c83
        refine wq_seq ?_
        refine wq_region ?_
        refine wl_v (.int .i64 (70)) rfl rfl (y_asg rfl rfl ⟨rfl, rfl⟩) ?_
        refine wl_nil fun F84 hF85 => ?_
        have s86 : F84 36 = undef := (hF85 36).trans s78
        have s87 : F84 2 = .int .i64 (70) := (hF85 2).trans rfl
        clear hF85
        refine then_normal ?_
        refine wq_ret ?_
        refine in_ret ?_
        refine then_ret ?_
        refine then_ret ?_
        refine in_ret ?_
        refine then_ret ?_
        exact end_tmp (v := .int .i64 (70)) s86 rfl rfl s87 ⟨(by first | rw [check_yes hsw hsh (by first | assumption | (apply Decidable.byContradiction; assumption)) (by first | assumption | (apply Decidable.byContradiction; assumption)) (by first | assumption | (apply Decidable.byContradiction; assumption))] | rw [check_no0 hsw hsh (by assumption)] | rw [check_no1 hsw hsh (by assumption)] | rw [check_no2 hsw hsh (by assumption)] | rw [checkE_no (by rintro ⟨h1, h2, h3, h4, h5⟩; simp_all; done)]), K66⟩
      · replace c83 := of_decide_eq_false c83
        refine wq_skip ?_
        refine in_normal ?_
        refine then_normal ?_
        refine wq_region ?_
        refine wl_v (.int .i64 (((1 : Nat) : Int))) rfl rfl (y_add rfl s81 rfl (i64_n (by omega) (by omega)) ⟨rfl, rfl⟩) ?_
        refine wl_v (.int .i64 (((1 : Nat) : Int))) rfl rfl (y_mov rfl rfl ⟨rfl, rfl⟩) ?_
        refine wl_nil fun F88 hF89 => ?_
        have s90 : F88 36 = undef := (hF89 36).trans s78
        have s91 : F88 1 = .pointer (some ⟨p1, 0, none⟩) := (hF89 1).trans s79
        have s92 : F88 18 = .agg #[f0, f1, f2] := (hF89 18).trans s80
        have s93 : F88 19 = .int .i64 (((1 : Nat) : Int)) := (hF89 19).trans rfl
        clear hF89
        refine then_normal ?_
        refine wqr_step ?_
        refine wq_seq ?_
        refine wq_region ?_
        refine wl_v (.bool true) rfl rfl (y_lss rfl s93 rfl rfl ⟨rfl, rfl⟩) ?_
        refine wl_nil fun F94 hF95 => ?_
        have s96 : F94 36 = undef := (hF95 36).trans s90
        have s97 : F94 1 = .pointer (some ⟨p1, 0, none⟩) := (hF95 1).trans s91
        have s98 : F94 18 = .agg #[f0, f1, f2] := (hF95 18).trans s92
        have s99 : F94 19 = .int .i64 (((1 : Nat) : Int)) := (hF95 19).trans s93
        have s100 : F94 20 = .bool true := (hF95 20).trans rfl
        clear hF95
        refine then_normal ?_
        refine wq_seq ?_
        refine wq_cond (t := true) s100 (fun _ => ?_) (fun e => by cases e)
        refine wq_skip ?_
        refine then_normal ?_
        refine wq_seq ?_
        refine wq_block ?_
        refine wq_seq ?_
        refine wq_region ?_
        refine wl_v (.int .i64 (((1 : Nat) : Int))) rfl rfl (y_mov rfl s99 ⟨rfl, rfl⟩) ?_
        refine wl_v (f1) rfl rfl (y_ixPl (1) rfl s98 s99 (by decide) rfl ⟨rfl, rfl⟩) ?_
        refine wl_v (.int .i64 (((1 : Nat) : Int))) rfl rfl (y_asg rfl rfl ⟨rfl, rfl⟩) ?_
        refine wl_v (f1) rfl rfl (y_asg rfl rfl ⟨rfl, rfl⟩) ?_
        refine wl_nil fun F101 hF102 => ?_
        have s103 : F101 36 = undef := (hF102 36).trans s96
        have s104 : F101 1 = .pointer (some ⟨p1, 0, none⟩) := (hF102 1).trans s97
        have s105 : F101 18 = .agg #[f0, f1, f2] := (hF102 18).trans s98
        have s106 : F101 19 = .int .i64 (((1 : Nat) : Int)) := (hF102 19).trans s99
        have s107 : F101 3 = .int .i64 (((1 : Nat) : Int)) := (hF102 3).trans rfl
        have s108 : F101 4 = f1 := (hF102 4).trans rfl
        clear hF102
        refine then_normal ?_
        refine wq_seq ?_
        refine wq_region ?_
        refine wl_v (.agg #[.int .i64 ((f).W), .int .i64 ((f).H), f0, f1, f2]) rfl rfl (y_load_stc stcT_frame rfl s104 B65 ⟨rfl, rfl⟩) ?_
        refine wl_v (.int .i64 (((1 : Nat) : Int))) rfl rfl (y_mov rfl s107 ⟨rfl, rfl⟩) ?_
        refine wl_call (R := fun v_ w_ => v_ = .tuple #[.int .i64 ((sidesF (f) (((1 : Nat) : Int))).1), .int .i64 ((sidesF (f) (((1 : Nat) : Int))).2)] ∧ Kept (fun _ => False) w60 w_) rfl rfl (y_cs rfl rfl rfl (fun _ _ => by kernel_rfl) (ev_func _) (vsC rfl (vsC rfl vsN)) (ps_sides (((1 : Nat) : Int)) (f) (f0) (f1) (f2) (T_f0) (T_f1) (T_f2) _ (by omega) (by omega) B62 B63 B64 ) (fun e_ w_ h_ => ⟨_, h_.1, rfl, h_.2⟩)) ?_
        rintro _ w109 ⟨rfl, k110⟩
        have B111 := B62.all k110 Apart.none
        have B112 := B63.all k110 Apart.none
        have B113 := B64.all k110 Apart.none
        have B114 := B65.all k110 id
        have K115 := K66.trans k110 (fun _ _ x => x.elim)
        refine wl_v (.tuple #[.int .i64 ((sidesF (f) (((1 : Nat) : Int))).1), .int .i64 ((sidesF (f) (((1 : Nat) : Int))).2)]) rfl rfl (y_mov rfl rfl ⟨rfl, rfl⟩) ?_
        refine wl_v (.int .i64 ((sidesF (f) (((1 : Nat) : Int))).1)) rfl rfl (y_ext rfl rfl rfl ⟨rfl, rfl⟩) ?_
        refine wl_v (.int .i64 ((sidesF (f) (((1 : Nat) : Int))).2)) rfl rfl (y_ext rfl rfl rfl ⟨rfl, rfl⟩) ?_
        refine wl_v (.int .i64 ((sidesF (f) (((1 : Nat) : Int))).1)) rfl rfl (y_asg rfl rfl ⟨rfl, rfl⟩) ?_
        refine wl_v (.int .i64 ((sidesF (f) (((1 : Nat) : Int))).2)) rfl rfl (y_asg rfl rfl ⟨rfl, rfl⟩) ?_
        refine wl_nil fun F116 hF117 => ?_
        have s118 : F116 36 = undef := (hF117 36).trans s103
        have s119 : F116 1 = .pointer (some ⟨p1, 0, none⟩) := (hF117 1).trans s104
        have s120 : F116 18 = .agg #[f0, f1, f2] := (hF117 18).trans s105
        have s121 : F116 19 = .int .i64 (((1 : Nat) : Int)) := (hF117 19).trans s106
        have s122 : F116 4 = f1 := (hF117 4).trans s108
        have s123 : F116 5 = .int .i64 ((sidesF (f) (((1 : Nat) : Int))).1) := (hF117 5).trans rfl
        have s124 : F116 6 = .int .i64 ((sidesF (f) (((1 : Nat) : Int))).2) := (hF117 6).trans rfl
        clear hF117
        refine then_normal ?_
        refine wq_seq ?_
        refine wq_region ?_
        refine wl_v (f1) rfl rfl (y_mov rfl s122 ⟨rfl, rfl⟩) ?_
        refine wl_v (.int .i64 (((((f).p1).length : Nat) : Int))) rfl rfl (y_lenV rfl rfl rfl B112 ⟨rfl, rfl⟩) ?_
        refine wl_v (.int .i64 ((sidesF (f) (((1 : Nat) : Int))).1)) rfl rfl (y_mov rfl s123 ⟨rfl, rfl⟩) ?_
        refine wl_v (.int .i64 ((sidesF (f) (((1 : Nat) : Int))).2)) rfl rfl (y_mov rfl s124 ⟨rfl, rfl⟩) ?_
        refine wl_v (.int .i64 ((sidesF f ((1 : Nat) : Int)).1 * (sidesF f ((1 : Nat) : Int)).2)) rfl rfl (y_mul rfl rfl rfl (i64_i rfl ⟨Int.le_trans (by decide) (hA _).1, Int.le_trans (hA _).2.1 (by decide)⟩) ⟨rfl, rfl⟩) ?_
        refine wl_v (.bool (decide ((((((f).p1).length : Nat) : Int)) ≠ ((sidesF f ((1 : Nat) : Int)).1 * (sidesF f ((1 : Nat) : Int)).2)))) rfl rfl (y_neqI rfl rfl rfl rfl ⟨rfl, rfl⟩) ?_
        refine wl_nil fun F125 hF126 => ?_
        have s127 : F125 36 = undef := (hF126 36).trans s118
        have s128 : F125 1 = .pointer (some ⟨p1, 0, none⟩) := (hF126 1).trans s119
        have s129 : F125 18 = .agg #[f0, f1, f2] := (hF126 18).trans s120
        have s130 : F125 19 = .int .i64 (((1 : Nat) : Int)) := (hF126 19).trans s121
        have s131 : F125 34 = .bool (decide ((((((f).p1).length : Nat) : Int)) ≠ ((sidesF f ((1 : Nat) : Int)).1 * (sidesF f ((1 : Nat) : Int)).2))) := (hF126 34).trans rfl
        clear hF126
        refine then_normal ?_
        refine wq_cond s131 (fun c132 => ?_) (fun c132 => ?_)
        · replace c132 := of_decide_eq_true c132
          refine wq_seq ?_
          refine wq_region ?_
          refine wl_v (.int .i64 (70)) rfl rfl (y_asg rfl rfl ⟨rfl, rfl⟩) ?_
          refine wl_nil fun F133 hF134 => ?_
          have s135 : F133 36 = undef := (hF134 36).trans s127
          have s136 : F133 2 = .int .i64 (70) := (hF134 2).trans rfl
          clear hF134
          refine then_normal ?_
          refine wq_ret ?_
          refine in_ret ?_
          refine then_ret ?_
          refine then_ret ?_
          refine in_ret ?_
          refine then_ret ?_
          exact end_tmp (v := .int .i64 (70)) s135 rfl rfl s136 ⟨(by first | rw [check_yes hsw hsh (by first | assumption | (apply Decidable.byContradiction; assumption)) (by first | assumption | (apply Decidable.byContradiction; assumption)) (by first | assumption | (apply Decidable.byContradiction; assumption))] | rw [check_no0 hsw hsh (by assumption)] | rw [check_no1 hsw hsh (by assumption)] | rw [check_no2 hsw hsh (by assumption)] | rw [checkE_no (by rintro ⟨h1, h2, h3, h4, h5⟩; simp_all; done)]), K115⟩
        · replace c132 := of_decide_eq_false c132
          refine wq_skip ?_
          refine in_normal ?_
          refine then_normal ?_
          refine wq_region ?_
          refine wl_v (.int .i64 (((2 : Nat) : Int))) rfl rfl (y_add rfl s130 rfl (i64_n (by omega) (by omega)) ⟨rfl, rfl⟩) ?_
          refine wl_v (.int .i64 (((2 : Nat) : Int))) rfl rfl (y_mov rfl rfl ⟨rfl, rfl⟩) ?_
          refine wl_nil fun F137 hF138 => ?_
          have s139 : F137 36 = undef := (hF138 36).trans s127
          have s140 : F137 1 = .pointer (some ⟨p1, 0, none⟩) := (hF138 1).trans s128
          have s141 : F137 18 = .agg #[f0, f1, f2] := (hF138 18).trans s129
          have s142 : F137 19 = .int .i64 (((2 : Nat) : Int)) := (hF138 19).trans rfl
          clear hF138
          refine then_normal ?_
          refine wqr_step ?_
          refine wq_seq ?_
          refine wq_region ?_
          refine wl_v (.bool true) rfl rfl (y_lss rfl s142 rfl rfl ⟨rfl, rfl⟩) ?_
          refine wl_nil fun F143 hF144 => ?_
          have s145 : F143 36 = undef := (hF144 36).trans s139
          have s146 : F143 1 = .pointer (some ⟨p1, 0, none⟩) := (hF144 1).trans s140
          have s147 : F143 18 = .agg #[f0, f1, f2] := (hF144 18).trans s141
          have s148 : F143 19 = .int .i64 (((2 : Nat) : Int)) := (hF144 19).trans s142
          have s149 : F143 20 = .bool true := (hF144 20).trans rfl
          clear hF144
          refine then_normal ?_
          refine wq_seq ?_
          refine wq_cond (t := true) s149 (fun _ => ?_) (fun e => by cases e)
          refine wq_skip ?_
          refine then_normal ?_
          refine wq_seq ?_
          refine wq_block ?_
          refine wq_seq ?_
          refine wq_region ?_
          refine wl_v (.int .i64 (((2 : Nat) : Int))) rfl rfl (y_mov rfl s148 ⟨rfl, rfl⟩) ?_
          refine wl_v (f2) rfl rfl (y_ixPl (2) rfl s147 s148 (by decide) rfl ⟨rfl, rfl⟩) ?_
          refine wl_v (.int .i64 (((2 : Nat) : Int))) rfl rfl (y_asg rfl rfl ⟨rfl, rfl⟩) ?_
          refine wl_v (f2) rfl rfl (y_asg rfl rfl ⟨rfl, rfl⟩) ?_
          refine wl_nil fun F150 hF151 => ?_
          have s152 : F150 36 = undef := (hF151 36).trans s145
          have s153 : F150 1 = .pointer (some ⟨p1, 0, none⟩) := (hF151 1).trans s146
          have s154 : F150 18 = .agg #[f0, f1, f2] := (hF151 18).trans s147
          have s155 : F150 19 = .int .i64 (((2 : Nat) : Int)) := (hF151 19).trans s148
          have s156 : F150 3 = .int .i64 (((2 : Nat) : Int)) := (hF151 3).trans rfl
          have s157 : F150 4 = f2 := (hF151 4).trans rfl
          clear hF151
          refine then_normal ?_
          refine wq_seq ?_
          refine wq_region ?_
          refine wl_v (.agg #[.int .i64 ((f).W), .int .i64 ((f).H), f0, f1, f2]) rfl rfl (y_load_stc stcT_frame rfl s153 B114 ⟨rfl, rfl⟩) ?_
          refine wl_v (.int .i64 (((2 : Nat) : Int))) rfl rfl (y_mov rfl s156 ⟨rfl, rfl⟩) ?_
          refine wl_call (R := fun v_ w_ => v_ = .tuple #[.int .i64 ((sidesF (f) (((2 : Nat) : Int))).1), .int .i64 ((sidesF (f) (((2 : Nat) : Int))).2)] ∧ Kept (fun _ => False) w109 w_) rfl rfl (y_cs rfl rfl rfl (fun _ _ => by kernel_rfl) (ev_func _) (vsC rfl (vsC rfl vsN)) (ps_sides (((2 : Nat) : Int)) (f) (f0) (f1) (f2) (T_f0) (T_f1) (T_f2) _ (by omega) (by omega) B111 B112 B113 ) (fun e_ w_ h_ => ⟨_, h_.1, rfl, h_.2⟩)) ?_
          rintro _ w158 ⟨rfl, k159⟩
          have B160 := B111.all k159 Apart.none
          have B161 := B112.all k159 Apart.none
          have B162 := B113.all k159 Apart.none
          have B163 := B114.all k159 id
          have K164 := K115.trans k159 (fun _ _ x => x.elim)
          refine wl_v (.tuple #[.int .i64 ((sidesF (f) (((2 : Nat) : Int))).1), .int .i64 ((sidesF (f) (((2 : Nat) : Int))).2)]) rfl rfl (y_mov rfl rfl ⟨rfl, rfl⟩) ?_
          refine wl_v (.int .i64 ((sidesF (f) (((2 : Nat) : Int))).1)) rfl rfl (y_ext rfl rfl rfl ⟨rfl, rfl⟩) ?_
          refine wl_v (.int .i64 ((sidesF (f) (((2 : Nat) : Int))).2)) rfl rfl (y_ext rfl rfl rfl ⟨rfl, rfl⟩) ?_
          refine wl_v (.int .i64 ((sidesF (f) (((2 : Nat) : Int))).1)) rfl rfl (y_asg rfl rfl ⟨rfl, rfl⟩) ?_
          refine wl_v (.int .i64 ((sidesF (f) (((2 : Nat) : Int))).2)) rfl rfl (y_asg rfl rfl ⟨rfl, rfl⟩) ?_
          refine wl_nil fun F165 hF166 => ?_
          have s167 : F165 36 = undef := (hF166 36).trans s152
          have s168 : F165 1 = .pointer (some ⟨p1, 0, none⟩) := (hF166 1).trans s153
          have s169 : F165 18 = .agg #[f0, f1, f2] := (hF166 18).trans s154
          have s170 : F165 19 = .int .i64 (((2 : Nat) : Int)) := (hF166 19).trans s155
          have s171 : F165 4 = f2 := (hF166 4).trans s157
          have s172 : F165 5 = .int .i64 ((sidesF (f) (((2 : Nat) : Int))).1) := (hF166 5).trans rfl
          have s173 : F165 6 = .int .i64 ((sidesF (f) (((2 : Nat) : Int))).2) := (hF166 6).trans rfl
          clear hF166
          refine then_normal ?_
          refine wq_seq ?_
          refine wq_region ?_
          refine wl_v (f2) rfl rfl (y_mov rfl s171 ⟨rfl, rfl⟩) ?_
          refine wl_v (.int .i64 (((((f).p2).length : Nat) : Int))) rfl rfl (y_lenV rfl rfl rfl B162 ⟨rfl, rfl⟩) ?_
          refine wl_v (.int .i64 ((sidesF (f) (((2 : Nat) : Int))).1)) rfl rfl (y_mov rfl s172 ⟨rfl, rfl⟩) ?_
          refine wl_v (.int .i64 ((sidesF (f) (((2 : Nat) : Int))).2)) rfl rfl (y_mov rfl s173 ⟨rfl, rfl⟩) ?_
          refine wl_v (.int .i64 ((sidesF f ((2 : Nat) : Int)).1 * (sidesF f ((2 : Nat) : Int)).2)) rfl rfl (y_mul rfl rfl rfl (i64_i rfl ⟨Int.le_trans (by decide) (hA _).1, Int.le_trans (hA _).2.1 (by decide)⟩) ⟨rfl, rfl⟩) ?_
          refine wl_v (.bool (decide ((((((f).p2).length : Nat) : Int)) ≠ ((sidesF f ((2 : Nat) : Int)).1 * (sidesF f ((2 : Nat) : Int)).2)))) rfl rfl (y_neqI rfl rfl rfl rfl ⟨rfl, rfl⟩) ?_
          refine wl_nil fun F174 hF175 => ?_
          have s176 : F174 36 = undef := (hF175 36).trans s167
          have s177 : F174 1 = .pointer (some ⟨p1, 0, none⟩) := (hF175 1).trans s168
          have s178 : F174 18 = .agg #[f0, f1, f2] := (hF175 18).trans s169
          have s179 : F174 19 = .int .i64 (((2 : Nat) : Int)) := (hF175 19).trans s170
          have s180 : F174 34 = .bool (decide ((((((f).p2).length : Nat) : Int)) ≠ ((sidesF f ((2 : Nat) : Int)).1 * (sidesF f ((2 : Nat) : Int)).2))) := (hF175 34).trans rfl
          clear hF175
          refine then_normal ?_
          refine wq_cond s180 (fun c181 => ?_) (fun c181 => ?_)
          · replace c181 := of_decide_eq_true c181
            refine wq_seq ?_
            refine wq_region ?_
            refine wl_v (.int .i64 (70)) rfl rfl (y_asg rfl rfl ⟨rfl, rfl⟩) ?_
            refine wl_nil fun F182 hF183 => ?_
            have s184 : F182 36 = undef := (hF183 36).trans s176
            have s185 : F182 2 = .int .i64 (70) := (hF183 2).trans rfl
            clear hF183
            refine then_normal ?_
            refine wq_ret ?_
            refine in_ret ?_
            refine then_ret ?_
            refine then_ret ?_
            refine in_ret ?_
            refine then_ret ?_
            exact end_tmp (v := .int .i64 (70)) s184 rfl rfl s185 ⟨(by first | rw [check_yes hsw hsh (by first | assumption | (apply Decidable.byContradiction; assumption)) (by first | assumption | (apply Decidable.byContradiction; assumption)) (by first | assumption | (apply Decidable.byContradiction; assumption))] | rw [check_no0 hsw hsh (by assumption)] | rw [check_no1 hsw hsh (by assumption)] | rw [check_no2 hsw hsh (by assumption)] | rw [checkE_no (by rintro ⟨h1, h2, h3, h4, h5⟩; simp_all; done)]), K164⟩
          · replace c181 := of_decide_eq_false c181
            refine wq_skip ?_
            refine in_normal ?_
            refine then_normal ?_
            refine wq_region ?_
            refine wl_v (.int .i64 (((3 : Nat) : Int))) rfl rfl (y_add rfl s179 rfl (i64_n (by omega) (by omega)) ⟨rfl, rfl⟩) ?_
            refine wl_v (.int .i64 (((3 : Nat) : Int))) rfl rfl (y_mov rfl rfl ⟨rfl, rfl⟩) ?_
            refine wl_nil fun F186 hF187 => ?_
            have s188 : F186 36 = undef := (hF187 36).trans s176
            have s189 : F186 1 = .pointer (some ⟨p1, 0, none⟩) := (hF187 1).trans s177
            have s190 : F186 18 = .agg #[f0, f1, f2] := (hF187 18).trans s178
            have s191 : F186 19 = .int .i64 (((3 : Nat) : Int)) := (hF187 19).trans rfl
            clear hF187
            refine then_normal ?_
            refine wqr_step ?_
            refine wq_seq ?_
            refine wq_region ?_
            refine wl_v (.bool false) rfl rfl (y_lss rfl s191 rfl rfl ⟨rfl, rfl⟩) ?_
            refine wl_nil fun F192 hF193 => ?_
            have s194 : F192 36 = undef := (hF193 36).trans s188
            have s195 : F192 1 = .pointer (some ⟨p1, 0, none⟩) := (hF193 1).trans s189
            have s196 : F192 18 = .agg #[f0, f1, f2] := (hF193 18).trans s190
            have s197 : F192 19 = .int .i64 (((3 : Nat) : Int)) := (hF193 19).trans s191
            have s198 : F192 20 = .bool false := (hF193 20).trans rfl
            clear hF193
            refine then_normal ?_
            refine wq_seq ?_
            refine wq_cond (t := false) s198 (fun e => by cases e) (fun _ => ?_)
            refine wq_exit ?_
            refine then_exit ?_
            refine then_exit ?_
            refine in_here ?_
            refine then_normal ?_
            refine wq_seq ?_
            refine wq_region ?_
            refine wl_v (.int .i64 (0)) rfl rfl (y_asg rfl rfl ⟨rfl, rfl⟩) ?_
            refine wl_nil fun F199 hF200 => ?_
            have s201 : F199 36 = undef := (hF200 36).trans s194
            have s202 : F199 2 = .int .i64 (0) := (hF200 2).trans rfl
            clear hF200
            refine then_normal ?_
            refine wq_ret ?_
            exact end_tmp (v := .int .i64 (0)) s201 rfl rfl s202 ⟨(by first | rw [check_yes hsw hsh (by first | assumption | (apply Decidable.byContradiction; assumption)) (by first | assumption | (apply Decidable.byContradiction; assumption)) (by first | assumption | (apply Decidable.byContradiction; assumption))] | rw [check_no0 hsw hsh (by assumption)] | rw [check_no1 hsw hsh (by assumption)] | rw [check_no2 hsw hsh (by assumption)] | rw [checkE_no (by rintro ⟨h1, h2, h3, h4, h5⟩; simp_all; done)]), K164⟩
    · skip
      refine wq_region ?_
      refine wl_v (.pointer (some ⟨p1, 0, none⟩)) rfl rfl (y_fieldR (n := 1) rfl s17 Try.underlying25 rfl (by kernel_rfl) (by decide) rfl ⟨rfl, rfl⟩) ?_
      refine wl_v (.int .i64 ((f).W)) rfl rfl (y_ld_stc rfl rfl Try.underlying3 B4 rfl rfl ⟨rfl, rfl⟩) ?_
      refine wl_call (R := fun v_ w_ => v_ = .bool true ∧ Kept (fun _ => False) w2 w_) rfl rfl (y_cs rfl rfl rfl (fun _ _ => by kernel_rfl) (ev_func _) (vsC rfl vsN) (ps_side ((f).W)  _   ) (fun e_ w_ h_ => ⟨_, h_.1, (congrArg Value.bool d18), h_.2⟩)) ?_
      rintro _ w203 ⟨rfl, k204⟩
      have B205 := B10.all k204 Apart.none
      have B206 := B11.all k204 Apart.none
      have B207 := B12.all k204 Apart.none
      have B208 := B4.all k204 id
      have K209 := K13.trans k204 (fun _ _ x => x.elim)
      refine wl_v (.bool false) rfl rfl (y_not rfl rfl rfl ⟨rfl, rfl⟩) ?_
      refine wl_v (.bool false) rfl rfl (y_mov rfl rfl ⟨rfl, rfl⟩) ?_
      refine wl_vw (.pointer (some ⟨p1, 1, none⟩)) 4 false 11 rfl rfl rfl rfl rfl (y_fieldR (n := 1) rfl s17 Try.underlying25 rfl (by kernel_rfl) (by decide) rfl ⟨rfl, rfl⟩) ?_
      refine wl_vw (.int .i64 ((f).H)) 4 false 11 rfl rfl rfl rfl rfl (y_ld_stc rfl rfl Try.underlying3 B208 rfl rfl ⟨rfl, rfl⟩) ?_
      refine wl_callw (R := fun v_ w_ => v_ = .bool false ∧ Kept (fun _ => False) w203 w_) 4 false 11 rfl rfl rfl rfl rfl (y_cs rfl rfl rfl (fun _ _ => by kernel_rfl) (ev_func _) (vsC rfl vsN) (ps_side ((f).H)  _   ) (fun e_ w_ h_ => ⟨_, h_.1, (congrArg Value.bool d19), h_.2⟩)) ?_
      rintro _ w210 ⟨rfl, k211⟩
      have B212 := B205.all k211 Apart.none
      have B213 := B206.all k211 Apart.none
      have B214 := B207.all k211 Apart.none
      have B215 := B208.all k211 id
      have K216 := K209.trans k211 (fun _ _ x => x.elim)
      refine wl_vw (.bool true) 4 false 11 rfl rfl rfl rfl rfl (y_not rfl rfl rfl ⟨rfl, rfl⟩) ?_
      refine wl_v (.bool true) rfl rfl (y_pickF rfl rfl rfl ⟨rfl, rfl⟩) ?_
      refine wl_nil fun F217 hF218 => ?_
      have s219 : F217 36 = undef := (hF218 36).trans s16
      have s220 : F217 1 = .pointer (some ⟨p1, 0, none⟩) := (hF218 1).trans s17
      have s221 : F217 16 = .bool true := (hF218 16).trans rfl
      clear hF218
      refine then_normal ?_
      refine wq_cond (t := true) s221 (fun _ => ?_) (fun e => by cases e)
      refine wq_seq ?_
      refine wq_region ?_
      refine wl_v (.int .i64 (70)) rfl rfl (y_asg rfl rfl ⟨rfl, rfl⟩) ?_
      refine wl_nil fun F222 hF223 => ?_
      have s224 : F222 36 = undef := (hF223 36).trans s219
      have s225 : F222 2 = .int .i64 (70) := (hF223 2).trans rfl
      clear hF223
      refine then_normal ?_
      refine wq_ret ?_
      refine then_ret ?_
      exact end_tmp (v := .int .i64 (70)) s224 rfl rfl s225 ⟨(by first | rw [check_yes hsw hsh (by first | assumption | (apply Decidable.byContradiction; assumption)) (by first | assumption | (apply Decidable.byContradiction; assumption)) (by first | assumption | (apply Decidable.byContradiction; assumption))] | rw [check_no0 hsw hsh (by assumption)] | rw [check_no1 hsw hsh (by assumption)] | rw [check_no2 hsw hsh (by assumption)] | rw [checkE_no (by rintro ⟨h1, h2, h3, h4, h5⟩; simp_all; done)]), K216⟩
  · skip
    refine wq_region ?_
    refine wl_v (.pointer (some ⟨p1, 0, none⟩)) rfl rfl (y_fieldR (n := 1) rfl s17 Try.underlying25 rfl (by kernel_rfl) (by decide) rfl ⟨rfl, rfl⟩) ?_
    refine wl_v (.int .i64 ((f).W)) rfl rfl (y_ld_stc rfl rfl Try.underlying3 B4 rfl rfl ⟨rfl, rfl⟩) ?_
    refine wl_call (R := fun v_ w_ => v_ = .bool false ∧ Kept (fun _ => False) w2 w_) rfl rfl (y_cs rfl rfl rfl (fun _ _ => by kernel_rfl) (ev_func _) (vsC rfl vsN) (ps_side ((f).W)  _   ) (fun e_ w_ h_ => ⟨_, h_.1, (congrArg Value.bool d18), h_.2⟩)) ?_
    rintro _ w226 ⟨rfl, k227⟩
    have B228 := B10.all k227 Apart.none
    have B229 := B11.all k227 Apart.none
    have B230 := B12.all k227 Apart.none
    have B231 := B4.all k227 id
    have K232 := K13.trans k227 (fun _ _ x => x.elim)
    refine wl_v (.bool true) rfl rfl (y_not rfl rfl rfl ⟨rfl, rfl⟩) ?_
    refine wl_v (.bool true) rfl rfl (y_mov rfl rfl ⟨rfl, rfl⟩) ?_
    refine wl_unless 4 false 11 rfl rfl rfl (Or.inl rfl) rfl ?_
    refine wl_unless 4 false 11 rfl rfl rfl (Or.inl rfl) rfl ?_
    refine wl_unless 4 false 11 rfl rfl rfl (Or.inl rfl) rfl ?_
    refine wl_unless 4 false 11 rfl rfl rfl (Or.inl rfl) rfl ?_
    refine wl_v (.bool true) rfl rfl (y_pickT rfl rfl rfl ⟨rfl, rfl⟩) ?_
    refine wl_nil fun F233 hF234 => ?_
    have s235 : F233 36 = undef := (hF234 36).trans s16
    have s236 : F233 1 = .pointer (some ⟨p1, 0, none⟩) := (hF234 1).trans s17
    have s237 : F233 16 = .bool true := (hF234 16).trans rfl
    clear hF234
    refine then_normal ?_
    refine wq_cond (t := true) s237 (fun _ => ?_) (fun e => by cases e)
    refine wq_seq ?_
    refine wq_region ?_
    refine wl_v (.int .i64 (70)) rfl rfl (y_asg rfl rfl ⟨rfl, rfl⟩) ?_
    refine wl_nil fun F238 hF239 => ?_
    have s240 : F238 36 = undef := (hF239 36).trans s235
    have s241 : F238 2 = .int .i64 (70) := (hF239 2).trans rfl
    clear hF239
    refine then_normal ?_
    refine wq_ret ?_
    refine then_ret ?_
    exact end_tmp (v := .int .i64 (70)) s240 rfl rfl s241 ⟨(by first | rw [check_yes hsw hsh (by first | assumption | (apply Decidable.byContradiction; assumption)) (by first | assumption | (apply Decidable.byContradiction; assumption)) (by first | assumption | (apply Decidable.byContradiction; assumption))] | rw [check_no0 hsw hsh (by assumption)] | rw [check_no1 hsw hsh (by assumption)] | rw [check_no2 hsw hsh (by assumption)] | rw [checkE_no (by rintro ⟨h1, h2, h3, h4, h5⟩; simp_all; done)]), K232⟩

set_option maxHeartbeats 4000000 in
set_option maxRecDepth 100000 in
theorem ps_row (v : Value) (l : List Nat) (w y : Int) (T_s : Nat → Prop) (w0 : World) (hw : 0 ≤ w ∧ w ≤ 64) (hy : 0 ≤ y ∧ y ≤ 64) (hl : y * w + w ≤ (l.length : Int)) (hyw : 0 ≤ y * w ∧ y * w ≤ 4096) (h_s : Byt w0 T_s v (l)) :
    Calls Try.prog 44 #[v, .int .i64 (w), .int .i64 (y)] w0 fun e w' => e = .returned (subV (v) ((y * w).toNat) ((y * w + w).toNat) ((y * w + w).toNat)) ∧ Kept (fun _ => False) w0 w' := by
  refine calls_wq (args := [v, .int .i64 (w), .int .i64 (y)]) 20 Try.func44 rfl rfl (Nat.le_of_ble_eq_true rfl) ?_
  have K0 := Kept.refl (fun _ => False) w0
  have g_s := Grew.refl w0 T_s
  refine wq_seq ?_
  refine wq_region ?_
  refine wl_v (.slice none 0 0) rfl rfl (y_asg rfl rfl ⟨rfl, rfl⟩) ?_
  refine wl_nil fun F1 hF2 => ?_
  have s3 : F1 0 = v := (hF2 0).trans rfl
  have s4 : F1 1 = .int .i64 (w) := (hF2 1).trans rfl
  have s5 : F1 2 = .int .i64 (y) := (hF2 2).trans rfl
  have s6 : F1 20 = undef := (hF2 20).trans rfl
  clear hF2
  refine then_normal ?_
  refine wq_seq ?_
  refine wq_region ?_
  refine wl_v (v) rfl rfl (y_mov rfl s3 ⟨rfl, rfl⟩) ?_
  refine wl_v (.int .i64 (y)) rfl rfl (y_mov rfl s5 ⟨rfl, rfl⟩) ?_
  refine wl_v (.int .i64 (w)) rfl rfl (y_mov rfl s4 ⟨rfl, rfl⟩) ?_
  refine wl_v (.int .i64 (y * w)) rfl rfl (y_mul rfl rfl rfl (i64_i rfl (by omega)) ⟨rfl, rfl⟩) ?_
  refine wl_v (.int .i64 (y)) rfl rfl (y_mov rfl s5 ⟨rfl, rfl⟩) ?_
  refine wl_v (.int .i64 ((y) + (1))) rfl rfl (y_add rfl rfl rfl (i64_i rfl (by omega)) ⟨rfl, rfl⟩) ?_
  refine wl_v (.int .i64 (w)) rfl rfl (y_mov rfl s4 ⟨rfl, rfl⟩) ?_
  refine wl_v (.int .i64 (y * w + w)) rfl rfl (y_mul rfl rfl rfl (i64_i (by rw [Int.add_mul, Int.one_mul]) (by omega)) ⟨rfl, rfl⟩) ?_
  refine wl_v (.int .i64 (y)) rfl rfl (y_mov rfl s5 ⟨rfl, rfl⟩) ?_
  refine wl_v (.int .i64 ((y) + (1))) rfl rfl (y_add rfl rfl rfl (i64_i rfl (by omega)) ⟨rfl, rfl⟩) ?_
  refine wl_v (.int .i64 (w)) rfl rfl (y_mov rfl s4 ⟨rfl, rfl⟩) ?_
  refine wl_v (.int .i64 (y * w + w)) rfl rfl (y_mul rfl rfl rfl (i64_i (by rw [Int.add_mul, Int.one_mul]) (by omega)) ⟨rfl, rfl⟩) ?_
  refine wl_v (subV (v) ((y * w).toNat) ((y * w + w).toNat) ((y * w + w).toNat)) rfl rfl (y_cut3 ((y * w).toNat) ((y * w + w).toNat) ((y * w + w).toNat) rfl rfl rfl rfl rfl (by omega) (by omega) (by omega) h_s (by omega) (by omega) (by omega) ⟨rfl, rfl⟩) ?_
  refine wl_v (subV (v) ((y * w).toNat) ((y * w + w).toNat) ((y * w + w).toNat)) rfl rfl (y_asg rfl rfl ⟨rfl, rfl⟩) ?_
  refine wl_nil fun F7 hF8 => ?_
  have s9 : F7 20 = undef := (hF8 20).trans s6
  have s10 : F7 6 = subV (v) ((y * w).toNat) ((y * w + w).toNat) ((y * w + w).toNat) := (hF8 6).trans rfl
  clear hF8
  refine then_normal ?_
  refine wq_ret ?_
  exact end_tmp (v := subV (v) ((y * w).toNat) ((y * w + w).toNat) ((y * w + w).toNat)) s9 rfl rfl s10 ⟨rfl, K0⟩

def nearS (l : List Nat) (w h x y : Int) : Int := ((l.getD ((max 0 (min y (h - 1)) * w).toNat + (max 0 (min x (w - 1))).toNat) 0 : Nat) : Int)
set_option maxHeartbeats 4000000 in
set_option maxRecDepth 100000 in
theorem ps_nearest (v : Value) (l : List Nat) (w h x y : Int) (T_s : Nat → Prop) (w0 : World) (hw : 0 < w ∧ w ≤ 64) (hh : 0 < h ∧ h ≤ 64) (hl : max 0 (min y (h - 1)) * w + w ≤ (l.length : Int)) (hyw : 0 ≤ max 0 (min y (h - 1)) * w ∧ max 0 (min y (h - 1)) * w ≤ 4096) (h_s : Byt w0 T_s v (l)) :
    Calls Try.prog 39 #[v, .int .i64 (w), .int .i64 (h), .int .i64 (x), .int .i64 (y)] w0 fun e w' => e = .returned (.int .i64 (nearS l w h x y)) ∧ Kept (fun _ => False) w0 w' := by
  refine calls_wq (args := [v, .int .i64 (w), .int .i64 (h), .int .i64 (x), .int .i64 (y)]) 25 Try.func39 rfl rfl (Nat.le_of_ble_eq_true rfl) ?_
  have K0 := Kept.refl (fun _ => False) w0
  have g_s := Grew.refl w0 T_s
  refine wq_seq ?_
  refine wq_region ?_
  refine wl_v (.int .i64 (0)) rfl rfl (y_asg rfl rfl ⟨rfl, rfl⟩) ?_
  refine wl_nil fun F1 hF2 => ?_
  have s3 : F1 0 = v := (hF2 0).trans rfl
  have s4 : F1 1 = .int .i64 (w) := (hF2 1).trans rfl
  have s5 : F1 2 = .int .i64 (h) := (hF2 2).trans rfl
  have s6 : F1 3 = .int .i64 (x) := (hF2 3).trans rfl
  have s7 : F1 4 = .int .i64 (y) := (hF2 4).trans rfl
  have s8 : F1 25 = undef := (hF2 25).trans rfl
  clear hF2
  refine then_normal ?_
  refine wq_seq ?_
  refine wq_region ?_
  refine wl_v (v) rfl rfl (y_mov rfl s3 ⟨rfl, rfl⟩) ?_
  refine wl_v (.int .i64 (w)) rfl rfl (y_mov rfl s4 ⟨rfl, rfl⟩) ?_
  refine wl_v (.int .i64 (y)) rfl rfl (y_mov rfl s7 ⟨rfl, rfl⟩) ?_
  refine wl_v (.int .i64 (h)) rfl rfl (y_mov rfl s5 ⟨rfl, rfl⟩) ?_
  refine wl_v (.int .i64 ((h) - (1))) rfl rfl (y_sub rfl rfl rfl (i64_i rfl (by omega)) ⟨rfl, rfl⟩) ?_
  refine wl_call (R := fun v_ w_ => v_ = .int .i64 (max (0) (min (y) ((h) - (1)))) ∧ Kept (fun _ => False) w0 w_) rfl rfl (y_cs rfl rfl rfl (fun _ _ => by kernel_rfl) (ev_func _) (vsC rfl (vsC rfl (vsC rfl vsN))) (ps_clamped (y) (0) ((h) - (1))  _   ) (fun e_ w_ h_ => ⟨_, h_.1, rfl, h_.2⟩)) ?_
  rintro _ w9 ⟨rfl, k10⟩
  have B11 := h_s.all k10 Apart.none
  have K12 := K0.trans k10 (fun _ _ x => x.elim)
  refine wl_call (R := fun v_ w_ => v_ = subV (v) (((max (0) (min (y) ((h) - (1)))) * (w)).toNat) (((max (0) (min (y) ((h) - (1)))) * (w) + (w)).toNat) (((max (0) (min (y) ((h) - (1)))) * (w) + (w)).toNat) ∧ Kept (fun _ => False) w9 w_) rfl rfl (y_cs rfl rfl rfl (fun _ _ => by kernel_rfl) (ev_func _) (vsC rfl (vsC rfl (vsC rfl vsN))) (ps_row (v) (l) (w) (max (0) (min (y) ((h) - (1)))) (T_s) _ (by omega) (by omega) (by exact hl) (by exact hyw) B11 ) (fun e_ w_ h_ => ⟨_, h_.1, rfl, h_.2⟩)) ?_
  rintro _ w13 ⟨rfl, k14⟩
  have B15 := B11.all k14 Apart.none
  have K16 := K12.trans k14 (fun _ _ x => x.elim)
  refine wl_v (.int .i64 (x)) rfl rfl (y_mov rfl s6 ⟨rfl, rfl⟩) ?_
  refine wl_v (.int .i64 (w)) rfl rfl (y_mov rfl s4 ⟨rfl, rfl⟩) ?_
  refine wl_v (.int .i64 ((w) - (1))) rfl rfl (y_sub rfl rfl rfl (i64_i rfl (by omega)) ⟨rfl, rfl⟩) ?_
  refine wl_call (R := fun v_ w_ => v_ = .int .i64 ((((max 0 (min x (w - 1))).toNat : Nat) : Int)) ∧ Kept (fun _ => False) w13 w_) rfl rfl (y_cs rfl rfl rfl (fun _ _ => by kernel_rfl) (ev_func _) (vsC rfl (vsC rfl (vsC rfl vsN))) (ps_clamped (x) (0) ((w) - (1))  _   ) (fun e_ w_ h_ => ⟨_, h_.1, congrArg (Value.int .i64) (by omega), h_.2⟩)) ?_
  rintro _ w17 ⟨rfl, k18⟩
  have B19 := B15.all k18 Apart.none
  have K20 := K16.trans k18 (fun _ _ x => x.elim)
  refine wl_v (bytAddr (v) (((max (0) (min (y) ((h) - (1)))) * (w)).toNat + (max 0 (min x (w - 1))).toNat)) rfl rfl (y_atS ((max 0 (min x (w - 1))).toNat) rfl rfl rfl (by omega) B19 (by omega) (by have hc_ := (B19).cap; omega) (by omega) (by have hc_ := (B19).cap; omega) (by omega) ⟨rfl, rfl⟩) ?_
  have u21 := getD_lt (B19).lt256 (((max (0) (min (y) ((h) - (1)))) * (w)).toNat + (max 0 (min x (w - 1))).toNat)
  refine wl_v (.int .u8 ((((l).getD (((max (0) (min (y) ((h) - (1)))) * (w)).toNat + (max 0 (min x (w - 1))).toNat) 0 : Nat) : Int))) rfl rfl (y_ldB rfl rfl B19 (by omega) ⟨rfl, rfl⟩) ?_
  refine wl_v (.int .i64 ((((l).getD (((max (0) (min (y) ((h) - (1)))) * (w)).toNat + (max 0 (min x (w - 1))).toNat) 0 : Nat) : Int))) rfl rfl (y_convR rfl rfl Try.underlying5 Try.underlying3 (i64_i rfl (by omega)) ⟨rfl, rfl⟩) ?_
  refine wl_v (.int .i64 ((((l).getD (((max (0) (min (y) ((h) - (1)))) * (w)).toNat + (max 0 (min x (w - 1))).toNat) 0 : Nat) : Int))) rfl rfl (y_asg rfl rfl ⟨rfl, rfl⟩) ?_
  refine wl_nil fun F22 hF23 => ?_
  have s24 : F22 25 = undef := (hF23 25).trans s8
  have s25 : F22 10 = .int .i64 ((((l).getD (((max (0) (min (y) ((h) - (1)))) * (w)).toNat + (max 0 (min x (w - 1))).toNat) 0 : Nat) : Int)) := (hF23 10).trans rfl
  clear hF23
  refine then_normal ?_
  refine wq_ret ?_
  exact end_tmp (v := .int .i64 ((((l).getD (((max (0) (min (y) ((h) - (1)))) * (w)).toNat + (max 0 (min x (w - 1))).toNat) 0 : Nat) : Int))) s24 rfl rfl s25 ⟨rfl, K20⟩

set_option maxHeartbeats 4000000 in
set_option maxRecDepth 100000 in
theorem ps_near (n : Int) (w0 : World) :
    Calls Try.prog 38 #[.int .i64 (n)] w0 fun e w' => e = .returned (.int .i64 (nearI n)) ∧ Kept (fun _ => False) w0 w' := by
  refine calls_wq (args := [.int .i64 (n)]) 5 Try.func38 rfl rfl (Nat.le_of_ble_eq_true rfl) ?_
  have K0 := Kept.refl (fun _ => False) w0
  refine wq_seq ?_
  refine wq_region ?_
  refine wl_v (.int .i64 (0)) rfl rfl (y_asg rfl rfl ⟨rfl, rfl⟩) ?_
  refine wl_nil fun F1 hF2 => ?_
  have s3 : F1 0 = .int .i64 (n) := (hF2 0).trans rfl
  have s4 : F1 5 = undef := (hF2 5).trans rfl
  clear hF2
  refine then_normal ?_
  refine wq_seq ?_
  refine wq_region ?_
  refine wl_v (.int .i64 (n)) rfl rfl (y_mov rfl s3 ⟨rfl, rfl⟩) ?_
  refine wl_call (R := fun v_ w_ => v_ = .int .i64 (nearI n) ∧ Kept (fun _ => False) w0 w_) rfl rfl (y_cs rfl rfl rfl (fun _ _ => by kernel_rfl) (ev_func _) (vsC rfl (vsC rfl (vsC rfl vsN))) (ps_clamped (n) (-64) (128)  _   ) (fun e_ w_ h_ => ⟨_, h_.1, congrArg (Value.int .i64) (by unfold nearI; omega), h_.2⟩)) ?_
  rintro _ w5 ⟨rfl, k6⟩
  have K7 := K0.trans k6 (fun _ _ x => x.elim)
  refine wl_v (.int .i64 (nearI n)) rfl rfl (y_asg rfl rfl ⟨rfl, rfl⟩) ?_
  refine wl_nil fun F8 hF9 => ?_
  have s10 : F8 5 = undef := (hF9 5).trans s4
  have s11 : F8 2 = .int .i64 (nearI n) := (hF9 2).trans rfl
  clear hF9
  refine then_normal ?_
  refine wq_ret ?_
  exact end_tmp (v := .int .i64 (nearI n)) s10 rfl rfl s11 ⟨rfl, K7⟩

theorem row_in {f : FD} {p : Int} (y : Int) (h : (sizeF f p).1 ≠ 0) : max 0 (min y ((sizeF f p).2 - 1)) * (sizeF f p).1 + (sizeF f p).1 ≤ ((f.pl p).length : Int) ∧ 0 ≤ max 0 (min y ((sizeF f p).2 - 1)) * (sizeF f p).1 ∧ max 0 (min y ((sizeF f p).2 - 1)) * (sizeF f p).1 ≤ 4096 := by
  have h2 := cell_bounds (sizeF f p).1 y h
  have hb := size_bounds f p
  have hs := size_pos (size_some h)
  rw [show max 0 (min y ((sizeF f p).2 - 1)) = min (max y 0) ((sizeF f p).2 - 1) by omega]
  unfold cellF at h2
  omega
theorem near_at {f : FD} {p : Int} (x y : Int) (h : (sizeF f p).1 ≠ 0) : nearS (f.pl p) (sizeF f p).1 (sizeF f p).2 x y = atF f p x y := by
  have hc := cell_bounds x y h
  have hb := size_bounds f p
  have hs := size_pos (size_some h)
  rw [atF_some x y h]
  unfold nearS
  have e : (cellF f p x y).toNat = (max 0 (min y ((sizeF f p).2 - 1)) * (sizeF f p).1).toNat + (max 0 (min x ((sizeF f p).1 - 1))).toNat := by
    rw [show max 0 (min y ((sizeF f p).2 - 1)) = min (max y 0) ((sizeF f p).2 - 1) by omega, show max 0 (min x ((sizeF f p).1 - 1)) = min (max x 0) ((sizeF f p).1 - 1) by omega]
    unfold cellF at *
    rw [Int.toNat_add (by omega) (by omega)]
  rw [e]

set_option maxHeartbeats 4000000 in
set_option maxRecDepth 100000 in
theorem pl_size (p : Int) (f : FD) (f0 f1 f2 : Value) (T_f0 : Nat → Prop) (T_f1 : Nat → Prop) (T_f2 : Nat → Prop) (w0 : World) (h_f0 : Byt w0 T_f0 f0 ((f).p0)) (h_f1 : Byt w0 T_f1 f1 ((f).p1)) (h_f2 : Byt w0 T_f2 f2 ((f).p2)) :
    Calls Try.prog 37 #[.agg #[.int .i64 ((f).W), .int .i64 ((f).H), f0, f1, f2], .int .i64 (p)] w0 fun e w' => e = .returned (.tuple #[.int .i64 ((sizeF f p).1), .int .i64 ((sizeF f p).2)]) ∧ Kept (fun _ => False) w0 w' := by
  refine calls_wq (args := [.agg #[.int .i64 ((f).W), .int .i64 ((f).H), f0, f1, f2], .int .i64 (p)]) 22 Try.func37 rfl rfl (Nat.le_of_ble_eq_true rfl) ?_
  have K0 := Kept.refl (fun _ => False) w0
  have g_f0 := Grew.refl w0 T_f0
  have g_f1 := Grew.refl w0 T_f1
  have g_f2 := Grew.refl w0 T_f2
  refine wq_seq ?_
  refine wq_region ?_
  refine wl_box_stc (vs := [.int .i64 ((f).W), .int .i64 ((f).H), f0, f1, f2]) rfl rfl rfl rfl fun p1 w2 B4 g5 k3 => ?_
  have gr6 : Grew w0 noB (onB p1) := Grew.new K0 g5
  have ap7 : Apart (onB p1) (T_f0) := Apart.new g5 (h_f0).live
  have ap8 : Apart (onB p1) (T_f1) := Apart.new g5 (h_f1).live
  have ap9 : Apart (onB p1) (T_f2) := Apart.new g5 (h_f2).live
  have B10 := h_f0.all k3 Apart.none
  have B11 := h_f1.all k3 Apart.none
  have B12 := h_f2.all k3 Apart.none
  have K13 := K0.trans k3 (fun _ _ x => x.elim)
  refine wl_v (.int .i64 (0)) rfl rfl (y_asg rfl rfl ⟨rfl, rfl⟩) ?_
  refine wl_v (.int .i64 (0)) rfl rfl (y_asg rfl rfl ⟨rfl, rfl⟩) ?_
  refine wl_nil fun F14 hF15 => ?_
  have s16 : F14 1 = .int .i64 (p) := (hF15 1).trans rfl
  have s17 : F14 22 = undef := (hF15 22).trans rfl
  have s18 : F14 2 = .pointer (some ⟨p1, 0, none⟩) := (hF15 2).trans rfl
  clear hF15
  refine then_normal ?_
  refine wq_seq ?_
  refine wq_seq ?_
  by_cases d19 : (p) < (0)
  · skip
    refine wq_region ?_
    refine wl_v (.int .i64 (p)) rfl rfl (y_mov rfl s16 ⟨rfl, rfl⟩) ?_
    refine wl_v (.bool true) rfl rfl (y_lss rfl rfl rfl (decide_eq_true d19) ⟨rfl, rfl⟩) ?_
    refine wl_v (.bool true) rfl rfl (y_mov rfl rfl ⟨rfl, rfl⟩) ?_
    refine wl_unless 2 false 8 rfl rfl rfl (Or.inl rfl) rfl ?_
    refine wl_unless 2 false 8 rfl rfl rfl (Or.inl rfl) rfl ?_
    refine wl_v (.bool true) rfl rfl (y_pickT rfl rfl rfl ⟨rfl, rfl⟩) ?_
    refine wl_v (.bool true) rfl rfl (y_mov rfl rfl ⟨rfl, rfl⟩) ?_
    refine wl_unless 6 false 12 rfl rfl rfl (Or.inl rfl) rfl ?_
    refine wl_unless 6 false 12 rfl rfl rfl (Or.inl rfl) rfl ?_
    refine wl_unless 6 false 12 rfl rfl rfl (Or.inl rfl) rfl ?_
    refine wl_v (.bool true) rfl rfl (y_pickT rfl rfl rfl ⟨rfl, rfl⟩) ?_
    refine wl_nil fun F20 hF21 => ?_
    have s22 : F20 1 = .int .i64 (p) := (hF21 1).trans s16
    have s23 : F20 22 = undef := (hF21 22).trans s17
    have s24 : F20 2 = .pointer (some ⟨p1, 0, none⟩) := (hF21 2).trans s18
    have s25 : F20 16 = .bool true := (hF21 16).trans rfl
    clear hF21
    refine then_normal ?_
    refine wq_cond (t := true) s25 (fun _ => ?_) (fun e => by cases e)
    refine wq_seq ?_
    refine wq_region ?_
    refine wl_v (.int .i64 (0)) rfl rfl (y_asg rfl rfl ⟨rfl, rfl⟩) ?_
    refine wl_v (.int .i64 (0)) rfl rfl (y_asg rfl rfl ⟨rfl, rfl⟩) ?_
    refine wl_nil fun F26 hF27 => ?_
    have s28 : F26 22 = undef := (hF27 22).trans s23
    have s29 : F26 4 = .int .i64 (0) := (hF27 4).trans rfl
    have s30 : F26 5 = .int .i64 (0) := (hF27 5).trans rfl
    clear hF27
    refine then_normal ?_
    refine wq_ret ?_
    refine then_ret ?_
    exact end_2 s28 rfl (res_tmp (v := .int .i64 (0)) rfl s29) (res_tmp (v := .int .i64 (0)) rfl s30) ⟨(by first | rw [he] | rw [sizeF_no (by rintro ⟨h1, h2, h3⟩; first | exact absurd ((checkE_iff f).2 h1) (by assumption) | omega)]), K13⟩
  · skip
    by_cases d31 : (3) ≤ (p)
    · skip
      refine wq_region ?_
      refine wl_v (.int .i64 (p)) rfl rfl (y_mov rfl s16 ⟨rfl, rfl⟩) ?_
      refine wl_v (.bool false) rfl rfl (y_lss rfl rfl rfl (decide_eq_false d19) ⟨rfl, rfl⟩) ?_
      refine wl_v (.bool false) rfl rfl (y_mov rfl rfl ⟨rfl, rfl⟩) ?_
      refine wl_vw (.int .i64 (p)) 2 false 8 rfl rfl rfl rfl rfl (y_mov rfl s16 ⟨rfl, rfl⟩) ?_
      refine wl_vw (.bool true) 2 false 8 rfl rfl rfl rfl rfl (y_geq rfl rfl rfl (decide_eq_true d31) ⟨rfl, rfl⟩) ?_
      refine wl_v (.bool true) rfl rfl (y_pickF rfl rfl rfl ⟨rfl, rfl⟩) ?_
      refine wl_v (.bool true) rfl rfl (y_mov rfl rfl ⟨rfl, rfl⟩) ?_
      refine wl_unless 6 false 12 rfl rfl rfl (Or.inl rfl) rfl ?_
      refine wl_unless 6 false 12 rfl rfl rfl (Or.inl rfl) rfl ?_
      refine wl_unless 6 false 12 rfl rfl rfl (Or.inl rfl) rfl ?_
      refine wl_v (.bool true) rfl rfl (y_pickT rfl rfl rfl ⟨rfl, rfl⟩) ?_
      refine wl_nil fun F32 hF33 => ?_
      have s34 : F32 1 = .int .i64 (p) := (hF33 1).trans s16
      have s35 : F32 22 = undef := (hF33 22).trans s17
      have s36 : F32 2 = .pointer (some ⟨p1, 0, none⟩) := (hF33 2).trans s18
      have s37 : F32 16 = .bool true := (hF33 16).trans rfl
      clear hF33
      refine then_normal ?_
      refine wq_cond (t := true) s37 (fun _ => ?_) (fun e => by cases e)
      refine wq_seq ?_
      refine wq_region ?_
      refine wl_v (.int .i64 (0)) rfl rfl (y_asg rfl rfl ⟨rfl, rfl⟩) ?_
      refine wl_v (.int .i64 (0)) rfl rfl (y_asg rfl rfl ⟨rfl, rfl⟩) ?_
      refine wl_nil fun F38 hF39 => ?_
      have s40 : F38 22 = undef := (hF39 22).trans s35
      have s41 : F38 4 = .int .i64 (0) := (hF39 4).trans rfl
      have s42 : F38 5 = .int .i64 (0) := (hF39 5).trans rfl
      clear hF39
      refine then_normal ?_
      refine wq_ret ?_
      refine then_ret ?_
      exact end_2 s40 rfl (res_tmp (v := .int .i64 (0)) rfl s41) (res_tmp (v := .int .i64 (0)) rfl s42) ⟨(by first | rw [he] | rw [sizeF_no (by rintro ⟨h1, h2, h3⟩; first | exact absurd ((checkE_iff f).2 h1) (by assumption) | omega)]), K13⟩
    · skip
      refine wq_region ?_
      refine wl_v (.int .i64 (p)) rfl rfl (y_mov rfl s16 ⟨rfl, rfl⟩) ?_
      refine wl_v (.bool false) rfl rfl (y_lss rfl rfl rfl (decide_eq_false d19) ⟨rfl, rfl⟩) ?_
      refine wl_v (.bool false) rfl rfl (y_mov rfl rfl ⟨rfl, rfl⟩) ?_
      refine wl_vw (.int .i64 (p)) 2 false 8 rfl rfl rfl rfl rfl (y_mov rfl s16 ⟨rfl, rfl⟩) ?_
      refine wl_vw (.bool false) 2 false 8 rfl rfl rfl rfl rfl (y_geq rfl rfl rfl (decide_eq_false d31) ⟨rfl, rfl⟩) ?_
      refine wl_v (.bool false) rfl rfl (y_pickF rfl rfl rfl ⟨rfl, rfl⟩) ?_
      refine wl_v (.bool false) rfl rfl (y_mov rfl rfl ⟨rfl, rfl⟩) ?_
      refine wl_vw (.agg #[.int .i64 ((f).W), .int .i64 ((f).H), f0, f1, f2]) 6 false 12 rfl rfl rfl rfl rfl (y_load_stc stcT_frame rfl s18 B4 ⟨rfl, rfl⟩) ?_
      refine wl_callw (R := fun v_ w_ => v_ = .int .i64 (checkE (f)) ∧ Kept (fun _ => False) w2 w_) 6 false 12 rfl rfl rfl rfl rfl (y_cs rfl rfl rfl (fun _ _ => by kernel_rfl) (ev_func _) (vsC rfl vsN) (pl_check (f) (f0) (f1) (f2) (T_f0) (T_f1) (T_f2) _  B10 B11 B12 ) (fun e_ w_ h_ => ⟨_, h_.1, rfl, h_.2⟩)) ?_
      rintro _ w43 ⟨rfl, k44⟩
      have B45 := B10.all k44 Apart.none
      have B46 := B11.all k44 Apart.none
      have B47 := B12.all k44 Apart.none
      have B48 := B4.all k44 id
      have K49 := K13.trans k44 (fun _ _ x => x.elim)
      refine wl_vw (.bool (decide ((checkE (f)) ≠ (0)))) 6 false 12 rfl rfl rfl rfl rfl (y_neqI rfl rfl rfl rfl ⟨rfl, rfl⟩) ?_
      refine wl_v (.bool (decide ((checkE (f)) ≠ (0)))) rfl rfl (y_pickF rfl rfl rfl ⟨rfl, rfl⟩) ?_
      refine wl_nil fun F50 hF51 => ?_
      have s52 : F50 1 = .int .i64 (p) := (hF51 1).trans s16
      have s53 : F50 22 = undef := (hF51 22).trans s17
      have s54 : F50 2 = .pointer (some ⟨p1, 0, none⟩) := (hF51 2).trans s18
      have s55 : F50 16 = .bool (decide ((checkE (f)) ≠ (0))) := (hF51 16).trans rfl
      clear hF51
      refine then_normal ?_
      refine wq_cond s55 (fun c56 => ?_) (fun c56 => ?_)
      · replace c56 := of_decide_eq_true c56
        refine wq_seq ?_
        refine wq_region ?_
        refine wl_v (.int .i64 (0)) rfl rfl (y_asg rfl rfl ⟨rfl, rfl⟩) ?_
        refine wl_v (.int .i64 (0)) rfl rfl (y_asg rfl rfl ⟨rfl, rfl⟩) ?_
        refine wl_nil fun F57 hF58 => ?_
        have s59 : F57 22 = undef := (hF58 22).trans s53
        have s60 : F57 4 = .int .i64 (0) := (hF58 4).trans rfl
        have s61 : F57 5 = .int .i64 (0) := (hF58 5).trans rfl
        clear hF58
        refine then_normal ?_
        refine wq_ret ?_
        refine then_ret ?_
        exact end_2 s59 rfl (res_tmp (v := .int .i64 (0)) rfl s60) (res_tmp (v := .int .i64 (0)) rfl s61) ⟨(by first | rw [he] | rw [sizeF_no (by rintro ⟨h1, h2, h3⟩; first | exact absurd ((checkE_iff f).2 h1) (by assumption) | omega)]), K49⟩
      · replace c56 := of_decide_eq_false c56
        refine wq_skip ?_
        refine then_normal ?_
        refine wq_seq ?_
        have hok := (checkE_iff f).1 (by first | assumption | (apply Decidable.byContradiction; assumption))
        have hws := (sideB_iff _).1 hok.1
        have hhs := (sideB_iff _).1 hok.2.1
        have he : sizeF f p = sidesF f p := by unfold sizeF sidesF; rw [if_pos ⟨hok, by omega, by omega⟩]
        refine wq_region ?_
        refine wl_v (.agg #[.int .i64 ((f).W), .int .i64 ((f).H), f0, f1, f2]) rfl rfl (y_load_stc stcT_frame rfl s54 B48 ⟨rfl, rfl⟩) ?_
        refine wl_v (.int .i64 (p)) rfl rfl (y_mov rfl s52 ⟨rfl, rfl⟩) ?_
        refine wl_call (R := fun v_ w_ => v_ = .tuple #[.int .i64 ((sidesF (f) (p)).1), .int .i64 ((sidesF (f) (p)).2)] ∧ Kept (fun _ => False) w43 w_) rfl rfl (y_cs rfl rfl rfl (fun _ _ => by kernel_rfl) (ev_func _) (vsC rfl (vsC rfl vsN)) (ps_sides (p) (f) (f0) (f1) (f2) (T_f0) (T_f1) (T_f2) _ (by omega) (by omega) B45 B46 B47 ) (fun e_ w_ h_ => ⟨_, h_.1, rfl, h_.2⟩)) ?_
        rintro _ w62 ⟨rfl, k63⟩
        have B64 := B45.all k63 Apart.none
        have B65 := B46.all k63 Apart.none
        have B66 := B47.all k63 Apart.none
        have B67 := B48.all k63 id
        have K68 := K49.trans k63 (fun _ _ x => x.elim)
        refine wl_v (.int .i64 ((sidesF (f) (p)).1)) rfl rfl (y_ext rfl rfl rfl ⟨rfl, rfl⟩) ?_
        refine wl_v (.int .i64 ((sidesF (f) (p)).2)) rfl rfl (y_ext rfl rfl rfl ⟨rfl, rfl⟩) ?_
        refine wl_v (.int .i64 ((sidesF (f) (p)).1)) rfl rfl (y_asg rfl rfl ⟨rfl, rfl⟩) ?_
        refine wl_v (.int .i64 ((sidesF (f) (p)).2)) rfl rfl (y_asg rfl rfl ⟨rfl, rfl⟩) ?_
        refine wl_nil fun F69 hF70 => ?_
        have s71 : F69 22 = undef := (hF70 22).trans s53
        have s72 : F69 4 = .int .i64 ((sidesF (f) (p)).1) := (hF70 4).trans rfl
        have s73 : F69 5 = .int .i64 ((sidesF (f) (p)).2) := (hF70 5).trans rfl
        clear hF70
        refine then_normal ?_
        refine wq_ret ?_
        exact end_2 s71 rfl (res_tmp (v := .int .i64 ((sidesF (f) (p)).1)) rfl s72) (res_tmp (v := .int .i64 ((sidesF (f) (p)).2)) rfl s73) ⟨(by first | rw [he] | rw [sizeF_no (by rintro ⟨h1, h2, h3⟩; first | exact absurd ((checkE_iff f).2 h1) (by assumption) | omega)]), K68⟩

set_option maxHeartbeats 4000000 in
set_option maxRecDepth 100000 in
theorem pl_at (p x y : Int) (f : FD) (f0 f1 f2 : Value) (T_f0 : Nat → Prop) (T_f1 : Nat → Prop) (T_f2 : Nat → Prop) (w0 : World) (h_f0 : Byt w0 T_f0 f0 ((f).p0)) (h_f1 : Byt w0 T_f1 f1 ((f).p1)) (h_f2 : Byt w0 T_f2 f2 ((f).p2)) :
    Calls Try.prog 31 #[.agg #[.int .i64 ((f).W), .int .i64 ((f).H), f0, f1, f2], .int .i64 (p), .int .i64 (x), .int .i64 (y)] w0 fun e w' => e = .returned (.int .i64 (atF f p x y)) ∧ Kept (fun _ => False) w0 w' := by
  refine calls_wq (args := [.agg #[.int .i64 ((f).W), .int .i64 ((f).H), f0, f1, f2], .int .i64 (p), .int .i64 (x), .int .i64 (y)]) 28 Try.func31 rfl rfl (Nat.le_of_ble_eq_true rfl) ?_
  have K0 := Kept.refl (fun _ => False) w0
  have g_f0 := Grew.refl w0 T_f0
  have g_f1 := Grew.refl w0 T_f1
  have g_f2 := Grew.refl w0 T_f2
  refine wq_seq ?_
  refine wq_region ?_
  refine wl_box_stc (vs := [.int .i64 ((f).W), .int .i64 ((f).H), f0, f1, f2]) rfl rfl rfl rfl fun p1 w2 B4 g5 k3 => ?_
  have gr6 : Grew w0 noB (onB p1) := Grew.new K0 g5
  have ap7 : Apart (onB p1) (T_f0) := Apart.new g5 (h_f0).live
  have ap8 : Apart (onB p1) (T_f1) := Apart.new g5 (h_f1).live
  have ap9 : Apart (onB p1) (T_f2) := Apart.new g5 (h_f2).live
  have B10 := h_f0.all k3 Apart.none
  have B11 := h_f1.all k3 Apart.none
  have B12 := h_f2.all k3 Apart.none
  have K13 := K0.trans k3 (fun _ _ x => x.elim)
  refine wl_v (.int .i64 (0)) rfl rfl (y_asg rfl rfl ⟨rfl, rfl⟩) ?_
  refine wl_nil fun F14 hF15 => ?_
  have s16 : F14 1 = .int .i64 (p) := (hF15 1).trans rfl
  have s17 : F14 2 = .int .i64 (x) := (hF15 2).trans rfl
  have s18 : F14 3 = .int .i64 (y) := (hF15 3).trans rfl
  have s19 : F14 28 = undef := (hF15 28).trans rfl
  have s20 : F14 4 = .pointer (some ⟨p1, 0, none⟩) := (hF15 4).trans rfl
  clear hF15
  refine then_normal ?_
  refine wq_seq ?_
  refine wq_region ?_
  refine wl_v (.agg #[.int .i64 ((f).W), .int .i64 ((f).H), f0, f1, f2]) rfl rfl (y_load_stc stcT_frame rfl s20 B4 ⟨rfl, rfl⟩) ?_
  refine wl_v (.int .i64 (p)) rfl rfl (y_mov rfl s16 ⟨rfl, rfl⟩) ?_
  refine wl_call (R := fun v_ w_ => v_ = .tuple #[.int .i64 ((sizeF (f) (p)).1), .int .i64 ((sizeF (f) (p)).2)] ∧ Kept (fun _ => False) w2 w_) rfl rfl (y_cs rfl rfl rfl (fun _ _ => by kernel_rfl) (ev_func _) (vsC rfl (vsC rfl vsN)) (pl_size (p) (f) (f0) (f1) (f2) (T_f0) (T_f1) (T_f2) _  B10 B11 B12 ) (fun e_ w_ h_ => ⟨_, h_.1, rfl, h_.2⟩)) ?_
  rintro _ w21 ⟨rfl, k22⟩
  have B23 := B10.all k22 Apart.none
  have B24 := B11.all k22 Apart.none
  have B25 := B12.all k22 Apart.none
  have B26 := B4.all k22 id
  have K27 := K13.trans k22 (fun _ _ x => x.elim)
  refine wl_v (.tuple #[.int .i64 ((sizeF (f) (p)).1), .int .i64 ((sizeF (f) (p)).2)]) rfl rfl (y_mov rfl rfl ⟨rfl, rfl⟩) ?_
  refine wl_v (.int .i64 ((sizeF (f) (p)).1)) rfl rfl (y_ext rfl rfl rfl ⟨rfl, rfl⟩) ?_
  refine wl_v (.int .i64 ((sizeF (f) (p)).2)) rfl rfl (y_ext rfl rfl rfl ⟨rfl, rfl⟩) ?_
  refine wl_v (.int .i64 ((sizeF (f) (p)).1)) rfl rfl (y_asg rfl rfl ⟨rfl, rfl⟩) ?_
  refine wl_v (.int .i64 ((sizeF (f) (p)).2)) rfl rfl (y_asg rfl rfl ⟨rfl, rfl⟩) ?_
  refine wl_nil fun F28 hF29 => ?_
  have s30 : F28 1 = .int .i64 (p) := (hF29 1).trans s16
  have s31 : F28 2 = .int .i64 (x) := (hF29 2).trans s17
  have s32 : F28 3 = .int .i64 (y) := (hF29 3).trans s18
  have s33 : F28 28 = undef := (hF29 28).trans s19
  have s34 : F28 4 = .pointer (some ⟨p1, 0, none⟩) := (hF29 4).trans s20
  have s35 : F28 9 = .int .i64 ((sizeF (f) (p)).1) := (hF29 9).trans rfl
  have s36 : F28 10 = .int .i64 ((sizeF (f) (p)).2) := (hF29 10).trans rfl
  clear hF29
  refine then_normal ?_
  refine wq_seq ?_
  refine wq_seq ?_
  refine wq_region ?_
  refine wl_v (.int .i64 ((sizeF (f) (p)).1)) rfl rfl (y_mov rfl s35 ⟨rfl, rfl⟩) ?_
  refine wl_v (.bool (decide (((sizeF (f) (p)).1) = (0)))) rfl rfl (y_eqlI rfl rfl rfl rfl ⟨rfl, rfl⟩) ?_
  refine wl_nil fun F37 hF38 => ?_
  have s39 : F37 1 = .int .i64 (p) := (hF38 1).trans s30
  have s40 : F37 2 = .int .i64 (x) := (hF38 2).trans s31
  have s41 : F37 3 = .int .i64 (y) := (hF38 3).trans s32
  have s42 : F37 28 = undef := (hF38 28).trans s33
  have s43 : F37 4 = .pointer (some ⟨p1, 0, none⟩) := (hF38 4).trans s34
  have s44 : F37 9 = .int .i64 ((sizeF (f) (p)).1) := (hF38 9).trans s35
  have s45 : F37 10 = .int .i64 ((sizeF (f) (p)).2) := (hF38 10).trans s36
  have s46 : F37 18 = .bool (decide (((sizeF (f) (p)).1) = (0))) := (hF38 18).trans rfl
  clear hF38
  refine then_normal ?_
  refine wq_cond s46 (fun c47 => ?_) (fun c47 => ?_)
  · replace c47 := of_decide_eq_true c47
    refine wq_seq ?_
    refine wq_region ?_
    refine wl_v (.int .i64 (0)) rfl rfl (y_asg rfl rfl ⟨rfl, rfl⟩) ?_
    refine wl_nil fun F48 hF49 => ?_
    have s50 : F48 28 = undef := (hF49 28).trans s42
    have s51 : F48 8 = .int .i64 (0) := (hF49 8).trans rfl
    clear hF49
    refine then_normal ?_
    refine wq_ret ?_
    refine then_ret ?_
    exact end_tmp (v := .int .i64 (0)) s50 rfl rfl s51 ⟨(by first | rw [atF_none x y (by assumption)] | (rw [← near_at x y hsz]; rfl)), K27⟩
  · replace c47 := of_decide_eq_false c47
    refine wq_skip ?_
    refine then_normal ?_
    refine wq_seq ?_
    rcases (show p = 0 ∨ p = 1 ∨ p = 2 from size_cases (f := f) (by assumption)) with rfl | rfl | rfl
    · skip
      have hsz : (sizeF f 0).1 ≠ 0 := by assumption
      have hb := size_bounds f 0
      have hsp := size_pos (size_some hsz)
      have hr := row_in y hsz
      refine wq_region ?_
      refine wl_v (.int .i64 (0)) rfl rfl (y_mov rfl s39 ⟨rfl, rfl⟩) ?_
      refine wl_v (.pointer (some ⟨p1, 2, none⟩)) rfl rfl (y_fieldR (n := 3) rfl s43 Try.underlying25 rfl (by kernel_rfl) (by decide) rfl ⟨rfl, rfl⟩) ?_
      refine wl_v (.pointer (some ⟨p1, 2, none⟩)) rfl rfl (y_atR (0) (s := 1) rfl rfl rfl (by omega) Try.underlying23 (by omega) (by kernel_rfl) (by omega) ⟨rfl, rfl⟩) ?_
      refine wl_v (f0) rfl rfl (y_ld_stc rfl rfl Try.underlying22 B26 rfl rfl ⟨rfl, rfl⟩) ?_
      refine wl_v (.int .i64 ((sizeF (f) (0)).1)) rfl rfl (y_mov rfl s44 ⟨rfl, rfl⟩) ?_
      refine wl_v (.int .i64 ((sizeF (f) (0)).2)) rfl rfl (y_mov rfl s45 ⟨rfl, rfl⟩) ?_
      refine wl_v (.int .i64 (x)) rfl rfl (y_mov rfl s40 ⟨rfl, rfl⟩) ?_
      refine wl_v (.int .i64 (y)) rfl rfl (y_mov rfl s41 ⟨rfl, rfl⟩) ?_
      refine wl_call (R := fun v_ w_ => v_ = .int .i64 (nearS ((f).p0) ((sizeF (f) (0)).1) ((sizeF (f) (0)).2) (x) (y)) ∧ Kept (fun _ => False) w21 w_) rfl rfl (y_cs rfl rfl rfl (fun _ _ => by kernel_rfl) (ev_func _) (vsC rfl (vsC rfl (vsC rfl (vsC rfl (vsC rfl vsN))))) (ps_nearest (f0) ((f).p0) ((sizeF (f) (0)).1) ((sizeF (f) (0)).2) (x) (y) (T_f0) _ (by omega) (by omega) (by exact hr.1) (by exact hr.2) B23 ) (fun e_ w_ h_ => ⟨_, h_.1, rfl, h_.2⟩)) ?_
      rintro _ w52 ⟨rfl, k53⟩
      have B54 := B23.all k53 Apart.none
      have B55 := B24.all k53 Apart.none
      have B56 := B25.all k53 Apart.none
      have B57 := B26.all k53 id
      have K58 := K27.trans k53 (fun _ _ x => x.elim)
      refine wl_v (.int .i64 (nearS ((f).p0) ((sizeF (f) (0)).1) ((sizeF (f) (0)).2) (x) (y))) rfl rfl (y_asg rfl rfl ⟨rfl, rfl⟩) ?_
      refine wl_nil fun F59 hF60 => ?_
      have s61 : F59 28 = undef := (hF60 28).trans s42
      have s62 : F59 8 = .int .i64 (nearS ((f).p0) ((sizeF (f) (0)).1) ((sizeF (f) (0)).2) (x) (y)) := (hF60 8).trans rfl
      clear hF60
      refine then_normal ?_
      refine wq_ret ?_
      exact end_tmp (v := .int .i64 (nearS ((f).p0) ((sizeF (f) (0)).1) ((sizeF (f) (0)).2) (x) (y))) s61 rfl rfl s62 ⟨(by first | rw [atF_none x y (by assumption)] | (rw [← near_at x y hsz]; rfl)), K58⟩
    · skip
      have hsz : (sizeF f 1).1 ≠ 0 := by assumption
      have hb := size_bounds f 1
      have hsp := size_pos (size_some hsz)
      have hr := row_in y hsz
      refine wq_region ?_
      refine wl_v (.int .i64 (1)) rfl rfl (y_mov rfl s39 ⟨rfl, rfl⟩) ?_
      refine wl_v (.pointer (some ⟨p1, 2, none⟩)) rfl rfl (y_fieldR (n := 3) rfl s43 Try.underlying25 rfl (by kernel_rfl) (by decide) rfl ⟨rfl, rfl⟩) ?_
      refine wl_v (.pointer (some ⟨p1, 3, none⟩)) rfl rfl (y_atR (1) (s := 1) rfl rfl rfl (by omega) Try.underlying23 (by omega) (by kernel_rfl) (by omega) ⟨rfl, rfl⟩) ?_
      refine wl_v (f1) rfl rfl (y_ld_stc rfl rfl Try.underlying22 B26 rfl rfl ⟨rfl, rfl⟩) ?_
      refine wl_v (.int .i64 ((sizeF (f) (1)).1)) rfl rfl (y_mov rfl s44 ⟨rfl, rfl⟩) ?_
      refine wl_v (.int .i64 ((sizeF (f) (1)).2)) rfl rfl (y_mov rfl s45 ⟨rfl, rfl⟩) ?_
      refine wl_v (.int .i64 (x)) rfl rfl (y_mov rfl s40 ⟨rfl, rfl⟩) ?_
      refine wl_v (.int .i64 (y)) rfl rfl (y_mov rfl s41 ⟨rfl, rfl⟩) ?_
      refine wl_call (R := fun v_ w_ => v_ = .int .i64 (nearS ((f).p1) ((sizeF (f) (1)).1) ((sizeF (f) (1)).2) (x) (y)) ∧ Kept (fun _ => False) w21 w_) rfl rfl (y_cs rfl rfl rfl (fun _ _ => by kernel_rfl) (ev_func _) (vsC rfl (vsC rfl (vsC rfl (vsC rfl (vsC rfl vsN))))) (ps_nearest (f1) ((f).p1) ((sizeF (f) (1)).1) ((sizeF (f) (1)).2) (x) (y) (T_f1) _ (by omega) (by omega) (by exact hr.1) (by exact hr.2) B24 ) (fun e_ w_ h_ => ⟨_, h_.1, rfl, h_.2⟩)) ?_
      rintro _ w63 ⟨rfl, k64⟩
      have B65 := B23.all k64 Apart.none
      have B66 := B24.all k64 Apart.none
      have B67 := B25.all k64 Apart.none
      have B68 := B26.all k64 id
      have K69 := K27.trans k64 (fun _ _ x => x.elim)
      refine wl_v (.int .i64 (nearS ((f).p1) ((sizeF (f) (1)).1) ((sizeF (f) (1)).2) (x) (y))) rfl rfl (y_asg rfl rfl ⟨rfl, rfl⟩) ?_
      refine wl_nil fun F70 hF71 => ?_
      have s72 : F70 28 = undef := (hF71 28).trans s42
      have s73 : F70 8 = .int .i64 (nearS ((f).p1) ((sizeF (f) (1)).1) ((sizeF (f) (1)).2) (x) (y)) := (hF71 8).trans rfl
      clear hF71
      refine then_normal ?_
      refine wq_ret ?_
      exact end_tmp (v := .int .i64 (nearS ((f).p1) ((sizeF (f) (1)).1) ((sizeF (f) (1)).2) (x) (y))) s72 rfl rfl s73 ⟨(by first | rw [atF_none x y (by assumption)] | (rw [← near_at x y hsz]; rfl)), K69⟩
    · skip
      have hsz : (sizeF f 2).1 ≠ 0 := by assumption
      have hb := size_bounds f 2
      have hsp := size_pos (size_some hsz)
      have hr := row_in y hsz
      refine wq_region ?_
      refine wl_v (.int .i64 (2)) rfl rfl (y_mov rfl s39 ⟨rfl, rfl⟩) ?_
      refine wl_v (.pointer (some ⟨p1, 2, none⟩)) rfl rfl (y_fieldR (n := 3) rfl s43 Try.underlying25 rfl (by kernel_rfl) (by decide) rfl ⟨rfl, rfl⟩) ?_
      refine wl_v (.pointer (some ⟨p1, 4, none⟩)) rfl rfl (y_atR (2) (s := 1) rfl rfl rfl (by omega) Try.underlying23 (by omega) (by kernel_rfl) (by omega) ⟨rfl, rfl⟩) ?_
      refine wl_v (f2) rfl rfl (y_ld_stc rfl rfl Try.underlying22 B26 rfl rfl ⟨rfl, rfl⟩) ?_
      refine wl_v (.int .i64 ((sizeF (f) (2)).1)) rfl rfl (y_mov rfl s44 ⟨rfl, rfl⟩) ?_
      refine wl_v (.int .i64 ((sizeF (f) (2)).2)) rfl rfl (y_mov rfl s45 ⟨rfl, rfl⟩) ?_
      refine wl_v (.int .i64 (x)) rfl rfl (y_mov rfl s40 ⟨rfl, rfl⟩) ?_
      refine wl_v (.int .i64 (y)) rfl rfl (y_mov rfl s41 ⟨rfl, rfl⟩) ?_
      refine wl_call (R := fun v_ w_ => v_ = .int .i64 (nearS ((f).p2) ((sizeF (f) (2)).1) ((sizeF (f) (2)).2) (x) (y)) ∧ Kept (fun _ => False) w21 w_) rfl rfl (y_cs rfl rfl rfl (fun _ _ => by kernel_rfl) (ev_func _) (vsC rfl (vsC rfl (vsC rfl (vsC rfl (vsC rfl vsN))))) (ps_nearest (f2) ((f).p2) ((sizeF (f) (2)).1) ((sizeF (f) (2)).2) (x) (y) (T_f2) _ (by omega) (by omega) (by exact hr.1) (by exact hr.2) B25 ) (fun e_ w_ h_ => ⟨_, h_.1, rfl, h_.2⟩)) ?_
      rintro _ w74 ⟨rfl, k75⟩
      have B76 := B23.all k75 Apart.none
      have B77 := B24.all k75 Apart.none
      have B78 := B25.all k75 Apart.none
      have B79 := B26.all k75 id
      have K80 := K27.trans k75 (fun _ _ x => x.elim)
      refine wl_v (.int .i64 (nearS ((f).p2) ((sizeF (f) (2)).1) ((sizeF (f) (2)).2) (x) (y))) rfl rfl (y_asg rfl rfl ⟨rfl, rfl⟩) ?_
      refine wl_nil fun F81 hF82 => ?_
      have s83 : F81 28 = undef := (hF82 28).trans s42
      have s84 : F81 8 = .int .i64 (nearS ((f).p2) ((sizeF (f) (2)).1) ((sizeF (f) (2)).2) (x) (y)) := (hF82 8).trans rfl
      clear hF82
      refine then_normal ?_
      refine wq_ret ?_
      exact end_tmp (v := .int .i64 (nearS ((f).p2) ((sizeF (f) (2)).1) ((sizeF (f) (2)).2) (x) (y))) s83 rfl rfl s84 ⟨(by first | rw [atF_none x y (by assumption)] | (rw [← near_at x y hsz]; rfl)), K80⟩

def pn2 (a b : Nat) : Nat → Nat
  | 0 => a
  | _ => b
theorem pn2_le (a b k : Nat) : pn2 a b k = a ∨ pn2 a b k = b := by cases k <;> simp [pn2]
theorem new_side {w h : Int} (s : Nat) (hw : sideB w = true) (hh : sideB h = true) : (newF w h s).W = w ∧ (newF w h s).H = h := by rw [newF_yes s hw hh]; exact ⟨rfl, rfl⟩
theorem blank_lens {f : FD} (h : okF f) : (newF f.W f.H 0).p0.length = f.p0.length ∧ (newF f.W f.H 0).p1.length = f.p1.length ∧ (newF f.W f.H 0).p2.length = f.p2.length := by
  have h3 := h.2.2
  have hw := new_ok 0 h.1 h.2.1
  have h4 := hw.2.2
  have e := new_side 0 h.1 h.2.1
  rw [e.1, e.2] at h4
  omega

set_option maxHeartbeats 4000000 in
set_option maxRecDepth 100000 in
theorem ps_blank (w h : Int) (w0 : World) (hsw : sideB w = true) (hsh : sideB h = true) :
    Calls Try.prog 42 #[.int .i64 (w), .int .i64 (h)] w0 fun e w' => ∃ (v1 : Value) (T1 : Nat → Prop) (v2 : Value) (T2 : Nat → Prop) (v3 : Value) (T3 : Nat → Prop), e = .returned (.agg #[.int .i64 ((newF w h 0).W), .int .i64 ((newF w h 0).H), v1, v2, v3]) ∧ Kept (fun _ => False) w0 w' ∧ (Owb w' T1 v1 ((newF w h 0).p0) ∧ Grew w0 noB T1) ∧ (Owb w' T2 v2 ((newF w h 0).p1) ∧ Grew w0 noB T2) ∧ (Owb w' T3 v3 ((newF w h 0).p2) ∧ Grew w0 noB T3) ∧ Apart T1 T2 ∧ Apart T1 T3 ∧ Apart T2 T3 := by
  refine calls_wq (args := [.int .i64 (w), .int .i64 (h)]) 30 Try.func42 rfl rfl (Nat.le_of_ble_eq_true rfl) ?_
  have K0 := Kept.refl (fun _ => False) w0
  have hws := (sideB_iff _).1 hsw
  have hhs := (sideB_iff _).1 hsh
  have har := area_bounds hsw hsh
  obtain ⟨n0, hn0⟩ : ∃ n : Nat, (n : Int) = w * h := ⟨(w * h).toNat, by omega⟩
  obtain ⟨n1, hn1⟩ : ∃ n : Nat, (n : Int) = Int.tdiv w 2 * Int.tdiv h 2 := ⟨(Int.tdiv w 2 * Int.tdiv h 2).toNat, Int.toNat_of_nonneg (Int.mul_nonneg (by rw [tdiv2 (by omega)]; omega) (by rw [tdiv2 (by omega)]; omega))⟩
  have hq : (n1 : Int) = w * h / 4 := by rw [hn1]; exact quarter hws.2.2 hhs.2.2 (by omega) (by omega)
  have hF : newF w h 0 = ⟨w, h, List.replicate n0 0, List.replicate n1 0, List.replicate n1 0⟩ := by rw [newF_yes 0 hsw hsh, ← hq, ← hn0, Int.toNat_natCast, Int.toNat_natCast]
  refine wq_seq ?_
  refine wq_region ?_
  refine wl_alloc_stc (n := 5) (vs := [.int .i64 (0), .int .i64 (0), .slice none 0 0, .slice none 0 0, .slice none 0 0]) rfl rfl rfl (by kernel_rfl) fun p1 w2 B4 g5 k3 => ?_
  have gr6 : Grew w0 noB (onB p1) := Grew.new K0 g5
  have K7 := K0.trans k3 (fun _ _ x => x.elim)
  refine wl_nil fun F8 hF9 => ?_
  have s10 : F8 0 = .int .i64 (w) := (hF9 0).trans rfl
  have s11 : F8 1 = .int .i64 (h) := (hF9 1).trans rfl
  have s12 : F8 30 = undef := (hF9 30).trans rfl
  have s13 : F8 4 = .pointer (some ⟨p1, 0, none⟩) := (hF9 4).trans rfl
  clear hF9
  refine then_normal ?_
  refine wq_seq ?_
  refine wq_region ?_
  refine wl_v (.int .i64 (w)) rfl rfl (y_mov rfl s10 ⟨rfl, rfl⟩) ?_
  refine wl_v (.int .i64 (h)) rfl rfl (y_mov rfl s11 ⟨rfl, rfl⟩) ?_
  refine wl_v (.agg #[.int .i64 (w), .int .i64 (h), .slice none 0 0, .slice none 0 0, .slice none 0 0]) rfl rfl (y_buildL (l' := [(0, .int .i64 (w)), (1, .int .i64 (h))]) (cells := #[.int .i64 (w), .int .i64 (h), .slice none 0 0, .slice none 0 0, .slice none 0 0]) rfl (bpC rfl (bpC rfl bpN)) (by kernel_rfl) rfl ⟨rfl, rfl⟩) ?_
  refine wl_alloc_stc (n := 5) (vs := [.int .i64 (0), .int .i64 (0), .slice none 0 0, .slice none 0 0, .slice none 0 0]) rfl rfl rfl (by kernel_rfl) fun p14 w15 B17 g18 k16 => ?_
  have gr19 : Grew w0 noB (onB p14) := Grew.new K7 g18
  have ap20 : Apart (onB p14) (onB p1) := Apart.new g18 (onB_live (B4).lt)
  have B21 := B4.all k16 id
  have K22 := K7.trans k16 (fun _ _ x => x.elim)
  refine wl_store_stc (us := [.int .i64 (w), .int .i64 (h), .slice none 0 0, .slice none 0 0, .slice none 0 0]) stcT_frame rfl rfl rfl rfl rfl B17 rfl (oneI rfl (oneI rfl (oneI rfl (oneI rfl (oneI rfl oneN))))) fun w23 B24 k25 => ?_
  have B26 := B21.all k25 (fun x => (((ap20).symm) p1 rfl x))
  have K27 := K22.trans k25 (Grew.ok (S := fun _ => False) gr19 noB_le)
  refine wl_nil fun F28 hF29 => ?_
  have s30 : F28 30 = undef := (hF29 30).trans s12
  have s31 : F28 4 = .pointer (some ⟨p1, 0, none⟩) := (hF29 4).trans s13
  have s32 : F28 5 = .pointer (some ⟨p14, 0, none⟩) := (hF29 5).trans rfl
  clear hF29
  refine then_normal ?_
  refine wq_seq ?_
  refine wq_seq ?_
  refine wq_region ?_
  refine wl_v (.int .i64 (0)) rfl rfl (y_mov rfl rfl ⟨rfl, rfl⟩) ?_
  refine wl_nil fun F33 hF34 => ?_
  have s35 : F33 30 = undef := (hF34 30).trans s30
  have s36 : F33 4 = .pointer (some ⟨p1, 0, none⟩) := (hF34 4).trans s31
  have s37 : F33 5 = .pointer (some ⟨p14, 0, none⟩) := (hF34 5).trans s32
  have s38 : F33 12 = .int .i64 (0) := (hF34 12).trans rfl
  clear hF34
  refine then_normal ?_
  refine wq_block ?_
  refine wq_rounds 4 ?_
  refine wqr_step ?_
  refine wq_seq ?_
  refine wq_region ?_
  refine wl_v (.bool true) rfl rfl (y_lss rfl s38 rfl rfl ⟨rfl, rfl⟩) ?_
  refine wl_nil fun F39 hF40 => ?_
  have s41 : F39 30 = undef := (hF40 30).trans s35
  have s42 : F39 4 = .pointer (some ⟨p1, 0, none⟩) := (hF40 4).trans s36
  have s43 : F39 5 = .pointer (some ⟨p14, 0, none⟩) := (hF40 5).trans s37
  have s44 : F39 12 = .int .i64 (0) := (hF40 12).trans s38
  have s45 : F39 13 = .bool true := (hF40 13).trans rfl
  clear hF40
  refine then_normal ?_
  refine wq_seq ?_
  refine wq_cond (t := true) s45 (fun _ => ?_) (fun e => by cases e)
  refine wq_skip ?_
  refine then_normal ?_
  refine wq_seq ?_
  refine wq_block ?_
  refine wq_seq ?_
  refine wq_region ?_
  refine wl_v (.int .i64 (0)) rfl rfl (y_mov rfl s44 ⟨rfl, rfl⟩) ?_
  refine wl_v (.int .i64 (0)) rfl rfl (y_asg rfl rfl ⟨rfl, rfl⟩) ?_
  refine wl_nil fun F46 hF47 => ?_
  have s48 : F46 30 = undef := (hF47 30).trans s41
  have s49 : F46 4 = .pointer (some ⟨p1, 0, none⟩) := (hF47 4).trans s42
  have s50 : F46 5 = .pointer (some ⟨p14, 0, none⟩) := (hF47 5).trans s43
  have s51 : F46 12 = .int .i64 (0) := (hF47 12).trans s44
  have s52 : F46 6 = .int .i64 (0) := (hF47 6).trans rfl
  clear hF47
  refine then_normal ?_
  refine wq_seq ?_
  refine wq_region ?_
  refine wl_v (.agg #[.int .i64 (w), .int .i64 (h), .slice none 0 0, .slice none 0 0, .slice none 0 0]) rfl rfl (y_load_stc stcT_frame rfl s50 B24 ⟨rfl, rfl⟩) ?_
  refine wl_v (.int .i64 (0)) rfl rfl (y_mov rfl s52 ⟨rfl, rfl⟩) ?_
  refine wl_call (R := fun v_ w_ => v_ = .tuple #[.int .i64 ((sidesF (FD.mk (w) (h) ([]) ([]) ([])) (0)).1), .int .i64 ((sidesF (FD.mk (w) (h) ([]) ([]) ([])) (0)).2)] ∧ Kept (fun _ => False) w23 w_) rfl rfl (y_cs rfl rfl rfl (fun _ _ => by kernel_rfl) (ev_func _) (vsC rfl (vsC rfl vsN)) (ps_sides (0) (FD.mk (w) (h) ([]) ([]) ([])) (.slice none 0 0) (.slice none 0 0) (.slice none 0 0) (noB) (noB) (noB) _ (by dsimp only; omega) (by dsimp only; omega) (Byt.nil _) (Byt.nil _) (Byt.nil _) ) (fun e_ w_ h_ => ⟨_, h_.1, rfl, h_.2⟩)) ?_
  rintro _ w53 ⟨rfl, k54⟩
  have B55 := B26.all k54 id
  have B56 := B24.all k54 id
  have K57 := K27.trans k54 (fun _ _ x => x.elim)
  refine wl_v (.tuple #[.int .i64 ((sidesF (FD.mk (w) (h) ([]) ([]) ([])) (0)).1), .int .i64 ((sidesF (FD.mk (w) (h) ([]) ([]) ([])) (0)).2)]) rfl rfl (y_mov rfl rfl ⟨rfl, rfl⟩) ?_
  refine wl_v (.int .i64 ((sidesF (FD.mk (w) (h) ([]) ([]) ([])) (0)).1)) rfl rfl (y_ext rfl rfl rfl ⟨rfl, rfl⟩) ?_
  refine wl_v (.int .i64 ((sidesF (FD.mk (w) (h) ([]) ([]) ([])) (0)).2)) rfl rfl (y_ext rfl rfl rfl ⟨rfl, rfl⟩) ?_
  refine wl_v (.int .i64 ((sidesF (FD.mk (w) (h) ([]) ([]) ([])) (0)).1)) rfl rfl (y_asg rfl rfl ⟨rfl, rfl⟩) ?_
  refine wl_v (.int .i64 ((sidesF (FD.mk (w) (h) ([]) ([]) ([])) (0)).2)) rfl rfl (y_asg rfl rfl ⟨rfl, rfl⟩) ?_
  refine wl_nil fun F58 hF59 => ?_
  have s60 : F58 30 = undef := (hF59 30).trans s48
  have s61 : F58 4 = .pointer (some ⟨p1, 0, none⟩) := (hF59 4).trans s49
  have s62 : F58 5 = .pointer (some ⟨p14, 0, none⟩) := (hF59 5).trans s50
  have s63 : F58 12 = .int .i64 (0) := (hF59 12).trans s51
  have s64 : F58 6 = .int .i64 (0) := (hF59 6).trans s52
  have s65 : F58 7 = .int .i64 ((sidesF (FD.mk (w) (h) ([]) ([]) ([])) (0)).1) := (hF59 7).trans rfl
  have s66 : F58 8 = .int .i64 ((sidesF (FD.mk (w) (h) ([]) ([]) ([])) (0)).2) := (hF59 8).trans rfl
  clear hF59
  refine then_normal ?_
  have hpq := pn2_le n0 n1 0
  refine wq_region ?_
  refine wl_v (.int .i64 (0)) rfl rfl (y_mov rfl s64 ⟨rfl, rfl⟩) ?_
  refine wl_v (.int .i64 ((sidesF (FD.mk (w) (h) ([]) ([]) ([])) (0)).1)) rfl rfl (y_mov rfl s65 ⟨rfl, rfl⟩) ?_
  refine wl_v (.int .i64 ((sidesF (FD.mk (w) (h) ([]) ([]) ([])) (0)).2)) rfl rfl (y_mov rfl s66 ⟨rfl, rfl⟩) ?_
  refine wl_v (.int .i64 ((((pn2 n0 n1 0) : Nat) : Int))) rfl rfl (y_mul rfl rfl rfl (by first | exact (i64_i rfl (by show _ ≤ w * h ∧ w * h ≤ _; omega)).trans (hn0.symm) | exact (i64_i rfl (by show _ ≤ Int.tdiv w 2 * Int.tdiv h 2 ∧ Int.tdiv w 2 * Int.tdiv h 2 ≤ _; omega)).trans hn1.symm) ⟨rfl, rfl⟩) ?_
  refine wl_makeB (n := (pn2 n0 n1 0)) rfl rfl rfl rfl rfl (by omega) (by omega) (by omega) fun v67 w68 T72 B70 g71 k69 => ?_
  have gr73 : Grew w0 noB (T72) := Grew.new K57 g71
  have ap74 : Apart (T72) (onB p1) := Apart.new g71 (onB_live (B55).lt)
  have ap75 : Apart (T72) (onB p14) := Apart.new g71 (onB_live (B56).lt)
  have B76 := B55.all k69 id
  have B77 := B56.all k69 id
  have K78 := K57.trans k69 (fun _ _ x => x.elim)
  refine wl_v (.pointer (some ⟨p14, 2, none⟩)) rfl rfl (y_fieldR (n := 3) rfl s62 Try.underlying25 rfl (by kernel_rfl) (by decide) rfl ⟨rfl, rfl⟩) ?_
  refine wl_v (.pointer (some ⟨p14, 2, none⟩)) rfl rfl (y_atR (0) (s := 1) rfl rfl rfl (by omega) Try.underlying23 (by omega) (by kernel_rfl) (by omega) ⟨rfl, rfl⟩) ?_
  refine wl_set_stc rfl rfl rfl rfl rfl B77 rfl (B70).oneC (by kernel_rfl) fun w79 B80 k81 => ?_
  replace B80 : Stc w79 p14 25 [.int .i64 (w), .int .i64 (h), v67, .slice none 0 0, .slice none 0 0] := B80
  have B82 := B76.all k81 (fun x => (((ap20).symm) p1 rfl x))
  have B83 := B70.all k81 (fun i h x => ((ap75) i h x))
  have K84 := K78.trans k81 (Grew.ok (S := fun _ => False) gr19 noB_le)
  refine wl_nil fun F85 hF86 => ?_
  have s87 : F85 30 = undef := (hF86 30).trans s60
  have s88 : F85 4 = .pointer (some ⟨p1, 0, none⟩) := (hF86 4).trans s61
  have s89 : F85 5 = .pointer (some ⟨p14, 0, none⟩) := (hF86 5).trans s62
  have s90 : F85 12 = .int .i64 (0) := (hF86 12).trans s63
  clear hF86
  refine in_normal ?_
  refine then_normal ?_
  refine wq_region ?_
  refine wl_v (.int .i64 (((1 : Nat) : Int))) rfl rfl (y_add rfl s90 rfl (i64_n (by omega) (by omega)) ⟨rfl, rfl⟩) ?_
  refine wl_v (.int .i64 (((1 : Nat) : Int))) rfl rfl (y_mov rfl rfl ⟨rfl, rfl⟩) ?_
  refine wl_nil fun F91 hF92 => ?_
  have s93 : F91 30 = undef := (hF92 30).trans s87
  have s94 : F91 4 = .pointer (some ⟨p1, 0, none⟩) := (hF92 4).trans s88
  have s95 : F91 5 = .pointer (some ⟨p14, 0, none⟩) := (hF92 5).trans s89
  have s96 : F91 12 = .int .i64 (((1 : Nat) : Int)) := (hF92 12).trans rfl
  clear hF92
  refine then_normal ?_
  refine wqr_step ?_
  refine wq_seq ?_
  refine wq_region ?_
  refine wl_v (.bool true) rfl rfl (y_lss rfl s96 rfl rfl ⟨rfl, rfl⟩) ?_
  refine wl_nil fun F97 hF98 => ?_
  have s99 : F97 30 = undef := (hF98 30).trans s93
  have s100 : F97 4 = .pointer (some ⟨p1, 0, none⟩) := (hF98 4).trans s94
  have s101 : F97 5 = .pointer (some ⟨p14, 0, none⟩) := (hF98 5).trans s95
  have s102 : F97 12 = .int .i64 (((1 : Nat) : Int)) := (hF98 12).trans s96
  have s103 : F97 13 = .bool true := (hF98 13).trans rfl
  clear hF98
  refine then_normal ?_
  refine wq_seq ?_
  refine wq_cond (t := true) s103 (fun _ => ?_) (fun e => by cases e)
  refine wq_skip ?_
  refine then_normal ?_
  refine wq_seq ?_
  refine wq_block ?_
  refine wq_seq ?_
  refine wq_region ?_
  refine wl_v (.int .i64 (((1 : Nat) : Int))) rfl rfl (y_mov rfl s102 ⟨rfl, rfl⟩) ?_
  refine wl_v (.int .i64 (((1 : Nat) : Int))) rfl rfl (y_asg rfl rfl ⟨rfl, rfl⟩) ?_
  refine wl_nil fun F104 hF105 => ?_
  have s106 : F104 30 = undef := (hF105 30).trans s99
  have s107 : F104 4 = .pointer (some ⟨p1, 0, none⟩) := (hF105 4).trans s100
  have s108 : F104 5 = .pointer (some ⟨p14, 0, none⟩) := (hF105 5).trans s101
  have s109 : F104 12 = .int .i64 (((1 : Nat) : Int)) := (hF105 12).trans s102
  have s110 : F104 6 = .int .i64 (((1 : Nat) : Int)) := (hF105 6).trans rfl
  clear hF105
  refine then_normal ?_
  refine wq_seq ?_
  refine wq_region ?_
  refine wl_v (.agg #[.int .i64 (w), .int .i64 (h), v67, .slice none 0 0, .slice none 0 0]) rfl rfl (y_load_stc stcT_frame rfl s108 B80 ⟨rfl, rfl⟩) ?_
  refine wl_v (.int .i64 (((1 : Nat) : Int))) rfl rfl (y_mov rfl s110 ⟨rfl, rfl⟩) ?_
  refine wl_call (R := fun v_ w_ => v_ = .tuple #[.int .i64 ((sidesF (FD.mk (w) (h) (List.replicate ((pn2 n0 n1 0)) 0) ([]) ([])) (((1 : Nat) : Int))).1), .int .i64 ((sidesF (FD.mk (w) (h) (List.replicate ((pn2 n0 n1 0)) 0) ([]) ([])) (((1 : Nat) : Int))).2)] ∧ Kept (fun _ => False) w79 w_) rfl rfl (y_cs rfl rfl rfl (fun _ _ => by kernel_rfl) (ev_func _) (vsC rfl (vsC rfl vsN)) (ps_sides (((1 : Nat) : Int)) (FD.mk (w) (h) (List.replicate ((pn2 n0 n1 0)) 0) ([]) ([])) (v67) (.slice none 0 0) (.slice none 0 0) (T72) (noB) (noB) _ (by dsimp only; omega) (by dsimp only; omega) (B83).byt (Byt.nil _) (Byt.nil _) ) (fun e_ w_ h_ => ⟨_, h_.1, rfl, h_.2⟩)) ?_
  rintro _ w111 ⟨rfl, k112⟩
  have B113 := B82.all k112 id
  have B114 := B80.all k112 id
  have B115 := B83.all k112 Apart.none
  have K116 := K84.trans k112 (fun _ _ x => x.elim)
  refine wl_v (.tuple #[.int .i64 ((sidesF (FD.mk (w) (h) (List.replicate ((pn2 n0 n1 0)) 0) ([]) ([])) (((1 : Nat) : Int))).1), .int .i64 ((sidesF (FD.mk (w) (h) (List.replicate ((pn2 n0 n1 0)) 0) ([]) ([])) (((1 : Nat) : Int))).2)]) rfl rfl (y_mov rfl rfl ⟨rfl, rfl⟩) ?_
  refine wl_v (.int .i64 ((sidesF (FD.mk (w) (h) (List.replicate ((pn2 n0 n1 0)) 0) ([]) ([])) (((1 : Nat) : Int))).1)) rfl rfl (y_ext rfl rfl rfl ⟨rfl, rfl⟩) ?_
  refine wl_v (.int .i64 ((sidesF (FD.mk (w) (h) (List.replicate ((pn2 n0 n1 0)) 0) ([]) ([])) (((1 : Nat) : Int))).2)) rfl rfl (y_ext rfl rfl rfl ⟨rfl, rfl⟩) ?_
  refine wl_v (.int .i64 ((sidesF (FD.mk (w) (h) (List.replicate ((pn2 n0 n1 0)) 0) ([]) ([])) (((1 : Nat) : Int))).1)) rfl rfl (y_asg rfl rfl ⟨rfl, rfl⟩) ?_
  refine wl_v (.int .i64 ((sidesF (FD.mk (w) (h) (List.replicate ((pn2 n0 n1 0)) 0) ([]) ([])) (((1 : Nat) : Int))).2)) rfl rfl (y_asg rfl rfl ⟨rfl, rfl⟩) ?_
  refine wl_nil fun F117 hF118 => ?_
  have s119 : F117 30 = undef := (hF118 30).trans s106
  have s120 : F117 4 = .pointer (some ⟨p1, 0, none⟩) := (hF118 4).trans s107
  have s121 : F117 5 = .pointer (some ⟨p14, 0, none⟩) := (hF118 5).trans s108
  have s122 : F117 12 = .int .i64 (((1 : Nat) : Int)) := (hF118 12).trans s109
  have s123 : F117 6 = .int .i64 (((1 : Nat) : Int)) := (hF118 6).trans s110
  have s124 : F117 7 = .int .i64 ((sidesF (FD.mk (w) (h) (List.replicate ((pn2 n0 n1 0)) 0) ([]) ([])) (((1 : Nat) : Int))).1) := (hF118 7).trans rfl
  have s125 : F117 8 = .int .i64 ((sidesF (FD.mk (w) (h) (List.replicate ((pn2 n0 n1 0)) 0) ([]) ([])) (((1 : Nat) : Int))).2) := (hF118 8).trans rfl
  clear hF118
  refine then_normal ?_
  have hpq := pn2_le n0 n1 1
  refine wq_region ?_
  refine wl_v (.int .i64 (((1 : Nat) : Int))) rfl rfl (y_mov rfl s123 ⟨rfl, rfl⟩) ?_
  refine wl_v (.int .i64 ((sidesF (FD.mk (w) (h) (List.replicate ((pn2 n0 n1 0)) 0) ([]) ([])) (((1 : Nat) : Int))).1)) rfl rfl (y_mov rfl s124 ⟨rfl, rfl⟩) ?_
  refine wl_v (.int .i64 ((sidesF (FD.mk (w) (h) (List.replicate ((pn2 n0 n1 0)) 0) ([]) ([])) (((1 : Nat) : Int))).2)) rfl rfl (y_mov rfl s125 ⟨rfl, rfl⟩) ?_
  refine wl_v (.int .i64 ((((pn2 n0 n1 1) : Nat) : Int))) rfl rfl (y_mul rfl rfl rfl (by first | exact (i64_i rfl (by show _ ≤ w * h ∧ w * h ≤ _; omega)).trans (hn0.symm) | exact (i64_i rfl (by show _ ≤ Int.tdiv w 2 * Int.tdiv h 2 ∧ Int.tdiv w 2 * Int.tdiv h 2 ≤ _; omega)).trans hn1.symm) ⟨rfl, rfl⟩) ?_
  refine wl_makeB (n := (pn2 n0 n1 1)) rfl rfl rfl rfl rfl (by omega) (by omega) (by omega) fun v126 w127 T131 B129 g130 k128 => ?_
  have gr132 : Grew w0 noB (T131) := Grew.new K116 g130
  have ap133 : Apart (T131) (onB p1) := Apart.new g130 (onB_live (B113).lt)
  have ap134 : Apart (T131) (onB p14) := Apart.new g130 (onB_live (B114).lt)
  have ap135 : Apart (T131) (T72) := Apart.new g130 (B115).live
  have B136 := B113.all k128 id
  have B137 := B114.all k128 id
  have B138 := B115.all k128 Apart.none
  have K139 := K116.trans k128 (fun _ _ x => x.elim)
  refine wl_v (.pointer (some ⟨p14, 2, none⟩)) rfl rfl (y_fieldR (n := 3) rfl s121 Try.underlying25 rfl (by kernel_rfl) (by decide) rfl ⟨rfl, rfl⟩) ?_
  refine wl_v (.pointer (some ⟨p14, 3, none⟩)) rfl rfl (y_atR (1) (s := 1) rfl rfl rfl (by omega) Try.underlying23 (by omega) (by kernel_rfl) (by omega) ⟨rfl, rfl⟩) ?_
  refine wl_set_stc rfl rfl rfl rfl rfl B137 rfl (B129).oneC (by kernel_rfl) fun w140 B141 k142 => ?_
  replace B141 : Stc w140 p14 25 [.int .i64 (w), .int .i64 (h), v67, v126, .slice none 0 0] := B141
  have B143 := B136.all k142 (fun x => (((ap20).symm) p1 rfl x))
  have B144 := B138.all k142 (fun i h x => ((ap75) i h x))
  have B145 := B129.all k142 (fun i h x => ((ap134) i h x))
  have K146 := K139.trans k142 (Grew.ok (S := fun _ => False) gr19 noB_le)
  refine wl_nil fun F147 hF148 => ?_
  have s149 : F147 30 = undef := (hF148 30).trans s119
  have s150 : F147 4 = .pointer (some ⟨p1, 0, none⟩) := (hF148 4).trans s120
  have s151 : F147 5 = .pointer (some ⟨p14, 0, none⟩) := (hF148 5).trans s121
  have s152 : F147 12 = .int .i64 (((1 : Nat) : Int)) := (hF148 12).trans s122
  clear hF148
  refine in_normal ?_
  refine then_normal ?_
  refine wq_region ?_
  refine wl_v (.int .i64 (((2 : Nat) : Int))) rfl rfl (y_add rfl s152 rfl (i64_n (by omega) (by omega)) ⟨rfl, rfl⟩) ?_
  refine wl_v (.int .i64 (((2 : Nat) : Int))) rfl rfl (y_mov rfl rfl ⟨rfl, rfl⟩) ?_
  refine wl_nil fun F153 hF154 => ?_
  have s155 : F153 30 = undef := (hF154 30).trans s149
  have s156 : F153 4 = .pointer (some ⟨p1, 0, none⟩) := (hF154 4).trans s150
  have s157 : F153 5 = .pointer (some ⟨p14, 0, none⟩) := (hF154 5).trans s151
  have s158 : F153 12 = .int .i64 (((2 : Nat) : Int)) := (hF154 12).trans rfl
  clear hF154
  refine then_normal ?_
  refine wqr_step ?_
  refine wq_seq ?_
  refine wq_region ?_
  refine wl_v (.bool true) rfl rfl (y_lss rfl s158 rfl rfl ⟨rfl, rfl⟩) ?_
  refine wl_nil fun F159 hF160 => ?_
  have s161 : F159 30 = undef := (hF160 30).trans s155
  have s162 : F159 4 = .pointer (some ⟨p1, 0, none⟩) := (hF160 4).trans s156
  have s163 : F159 5 = .pointer (some ⟨p14, 0, none⟩) := (hF160 5).trans s157
  have s164 : F159 12 = .int .i64 (((2 : Nat) : Int)) := (hF160 12).trans s158
  have s165 : F159 13 = .bool true := (hF160 13).trans rfl
  clear hF160
  refine then_normal ?_
  refine wq_seq ?_
  refine wq_cond (t := true) s165 (fun _ => ?_) (fun e => by cases e)
  refine wq_skip ?_
  refine then_normal ?_
  refine wq_seq ?_
  refine wq_block ?_
  refine wq_seq ?_
  refine wq_region ?_
  refine wl_v (.int .i64 (((2 : Nat) : Int))) rfl rfl (y_mov rfl s164 ⟨rfl, rfl⟩) ?_
  refine wl_v (.int .i64 (((2 : Nat) : Int))) rfl rfl (y_asg rfl rfl ⟨rfl, rfl⟩) ?_
  refine wl_nil fun F166 hF167 => ?_
  have s168 : F166 30 = undef := (hF167 30).trans s161
  have s169 : F166 4 = .pointer (some ⟨p1, 0, none⟩) := (hF167 4).trans s162
  have s170 : F166 5 = .pointer (some ⟨p14, 0, none⟩) := (hF167 5).trans s163
  have s171 : F166 12 = .int .i64 (((2 : Nat) : Int)) := (hF167 12).trans s164
  have s172 : F166 6 = .int .i64 (((2 : Nat) : Int)) := (hF167 6).trans rfl
  clear hF167
  refine then_normal ?_
  refine wq_seq ?_
  refine wq_region ?_
  refine wl_v (.agg #[.int .i64 (w), .int .i64 (h), v67, v126, .slice none 0 0]) rfl rfl (y_load_stc stcT_frame rfl s170 B141 ⟨rfl, rfl⟩) ?_
  refine wl_v (.int .i64 (((2 : Nat) : Int))) rfl rfl (y_mov rfl s172 ⟨rfl, rfl⟩) ?_
  refine wl_call (R := fun v_ w_ => v_ = .tuple #[.int .i64 ((sidesF (FD.mk (w) (h) (List.replicate ((pn2 n0 n1 0)) 0) (List.replicate ((pn2 n0 n1 1)) 0) ([])) (((2 : Nat) : Int))).1), .int .i64 ((sidesF (FD.mk (w) (h) (List.replicate ((pn2 n0 n1 0)) 0) (List.replicate ((pn2 n0 n1 1)) 0) ([])) (((2 : Nat) : Int))).2)] ∧ Kept (fun _ => False) w140 w_) rfl rfl (y_cs rfl rfl rfl (fun _ _ => by kernel_rfl) (ev_func _) (vsC rfl (vsC rfl vsN)) (ps_sides (((2 : Nat) : Int)) (FD.mk (w) (h) (List.replicate ((pn2 n0 n1 0)) 0) (List.replicate ((pn2 n0 n1 1)) 0) ([])) (v67) (v126) (.slice none 0 0) (T72) (T131) (noB) _ (by dsimp only; omega) (by dsimp only; omega) (B144).byt (B145).byt (Byt.nil _) ) (fun e_ w_ h_ => ⟨_, h_.1, rfl, h_.2⟩)) ?_
  rintro _ w173 ⟨rfl, k174⟩
  have B175 := B143.all k174 id
  have B176 := B141.all k174 id
  have B177 := B144.all k174 Apart.none
  have B178 := B145.all k174 Apart.none
  have K179 := K146.trans k174 (fun _ _ x => x.elim)
  refine wl_v (.tuple #[.int .i64 ((sidesF (FD.mk (w) (h) (List.replicate ((pn2 n0 n1 0)) 0) (List.replicate ((pn2 n0 n1 1)) 0) ([])) (((2 : Nat) : Int))).1), .int .i64 ((sidesF (FD.mk (w) (h) (List.replicate ((pn2 n0 n1 0)) 0) (List.replicate ((pn2 n0 n1 1)) 0) ([])) (((2 : Nat) : Int))).2)]) rfl rfl (y_mov rfl rfl ⟨rfl, rfl⟩) ?_
  refine wl_v (.int .i64 ((sidesF (FD.mk (w) (h) (List.replicate ((pn2 n0 n1 0)) 0) (List.replicate ((pn2 n0 n1 1)) 0) ([])) (((2 : Nat) : Int))).1)) rfl rfl (y_ext rfl rfl rfl ⟨rfl, rfl⟩) ?_
  refine wl_v (.int .i64 ((sidesF (FD.mk (w) (h) (List.replicate ((pn2 n0 n1 0)) 0) (List.replicate ((pn2 n0 n1 1)) 0) ([])) (((2 : Nat) : Int))).2)) rfl rfl (y_ext rfl rfl rfl ⟨rfl, rfl⟩) ?_
  refine wl_v (.int .i64 ((sidesF (FD.mk (w) (h) (List.replicate ((pn2 n0 n1 0)) 0) (List.replicate ((pn2 n0 n1 1)) 0) ([])) (((2 : Nat) : Int))).1)) rfl rfl (y_asg rfl rfl ⟨rfl, rfl⟩) ?_
  refine wl_v (.int .i64 ((sidesF (FD.mk (w) (h) (List.replicate ((pn2 n0 n1 0)) 0) (List.replicate ((pn2 n0 n1 1)) 0) ([])) (((2 : Nat) : Int))).2)) rfl rfl (y_asg rfl rfl ⟨rfl, rfl⟩) ?_
  refine wl_nil fun F180 hF181 => ?_
  have s182 : F180 30 = undef := (hF181 30).trans s168
  have s183 : F180 4 = .pointer (some ⟨p1, 0, none⟩) := (hF181 4).trans s169
  have s184 : F180 5 = .pointer (some ⟨p14, 0, none⟩) := (hF181 5).trans s170
  have s185 : F180 12 = .int .i64 (((2 : Nat) : Int)) := (hF181 12).trans s171
  have s186 : F180 6 = .int .i64 (((2 : Nat) : Int)) := (hF181 6).trans s172
  have s187 : F180 7 = .int .i64 ((sidesF (FD.mk (w) (h) (List.replicate ((pn2 n0 n1 0)) 0) (List.replicate ((pn2 n0 n1 1)) 0) ([])) (((2 : Nat) : Int))).1) := (hF181 7).trans rfl
  have s188 : F180 8 = .int .i64 ((sidesF (FD.mk (w) (h) (List.replicate ((pn2 n0 n1 0)) 0) (List.replicate ((pn2 n0 n1 1)) 0) ([])) (((2 : Nat) : Int))).2) := (hF181 8).trans rfl
  clear hF181
  refine then_normal ?_
  have hpq := pn2_le n0 n1 2
  refine wq_region ?_
  refine wl_v (.int .i64 (((2 : Nat) : Int))) rfl rfl (y_mov rfl s186 ⟨rfl, rfl⟩) ?_
  refine wl_v (.int .i64 ((sidesF (FD.mk (w) (h) (List.replicate ((pn2 n0 n1 0)) 0) (List.replicate ((pn2 n0 n1 1)) 0) ([])) (((2 : Nat) : Int))).1)) rfl rfl (y_mov rfl s187 ⟨rfl, rfl⟩) ?_
  refine wl_v (.int .i64 ((sidesF (FD.mk (w) (h) (List.replicate ((pn2 n0 n1 0)) 0) (List.replicate ((pn2 n0 n1 1)) 0) ([])) (((2 : Nat) : Int))).2)) rfl rfl (y_mov rfl s188 ⟨rfl, rfl⟩) ?_
  refine wl_v (.int .i64 ((((pn2 n0 n1 2) : Nat) : Int))) rfl rfl (y_mul rfl rfl rfl (by first | exact (i64_i rfl (by show _ ≤ w * h ∧ w * h ≤ _; omega)).trans (hn0.symm) | exact (i64_i rfl (by show _ ≤ Int.tdiv w 2 * Int.tdiv h 2 ∧ Int.tdiv w 2 * Int.tdiv h 2 ≤ _; omega)).trans hn1.symm) ⟨rfl, rfl⟩) ?_
  refine wl_makeB (n := (pn2 n0 n1 2)) rfl rfl rfl rfl rfl (by omega) (by omega) (by omega) fun v189 w190 T194 B192 g193 k191 => ?_
  have gr195 : Grew w0 noB (T194) := Grew.new K179 g193
  have ap196 : Apart (T194) (onB p1) := Apart.new g193 (onB_live (B175).lt)
  have ap197 : Apart (T194) (onB p14) := Apart.new g193 (onB_live (B176).lt)
  have ap198 : Apart (T194) (T72) := Apart.new g193 (B177).live
  have ap199 : Apart (T194) (T131) := Apart.new g193 (B178).live
  have B200 := B175.all k191 id
  have B201 := B176.all k191 id
  have B202 := B177.all k191 Apart.none
  have B203 := B178.all k191 Apart.none
  have K204 := K179.trans k191 (fun _ _ x => x.elim)
  refine wl_v (.pointer (some ⟨p14, 2, none⟩)) rfl rfl (y_fieldR (n := 3) rfl s184 Try.underlying25 rfl (by kernel_rfl) (by decide) rfl ⟨rfl, rfl⟩) ?_
  refine wl_v (.pointer (some ⟨p14, 4, none⟩)) rfl rfl (y_atR (2) (s := 1) rfl rfl rfl (by omega) Try.underlying23 (by omega) (by kernel_rfl) (by omega) ⟨rfl, rfl⟩) ?_
  refine wl_set_stc rfl rfl rfl rfl rfl B201 rfl (B192).oneC (by kernel_rfl) fun w205 B206 k207 => ?_
  replace B206 : Stc w205 p14 25 [.int .i64 (w), .int .i64 (h), v67, v126, v189] := B206
  have B208 := B200.all k207 (fun x => (((ap20).symm) p1 rfl x))
  have B209 := B202.all k207 (fun i h x => ((ap75) i h x))
  have B210 := B203.all k207 (fun i h x => ((ap134) i h x))
  have B211 := B192.all k207 (fun i h x => ((ap197) i h x))
  have K212 := K204.trans k207 (Grew.ok (S := fun _ => False) gr19 noB_le)
  refine wl_nil fun F213 hF214 => ?_
  have s215 : F213 30 = undef := (hF214 30).trans s182
  have s216 : F213 4 = .pointer (some ⟨p1, 0, none⟩) := (hF214 4).trans s183
  have s217 : F213 5 = .pointer (some ⟨p14, 0, none⟩) := (hF214 5).trans s184
  have s218 : F213 12 = .int .i64 (((2 : Nat) : Int)) := (hF214 12).trans s185
  clear hF214
  refine in_normal ?_
  refine then_normal ?_
  refine wq_region ?_
  refine wl_v (.int .i64 (((3 : Nat) : Int))) rfl rfl (y_add rfl s218 rfl (i64_n (by omega) (by omega)) ⟨rfl, rfl⟩) ?_
  refine wl_v (.int .i64 (((3 : Nat) : Int))) rfl rfl (y_mov rfl rfl ⟨rfl, rfl⟩) ?_
  refine wl_nil fun F219 hF220 => ?_
  have s221 : F219 30 = undef := (hF220 30).trans s215
  have s222 : F219 4 = .pointer (some ⟨p1, 0, none⟩) := (hF220 4).trans s216
  have s223 : F219 5 = .pointer (some ⟨p14, 0, none⟩) := (hF220 5).trans s217
  have s224 : F219 12 = .int .i64 (((3 : Nat) : Int)) := (hF220 12).trans rfl
  clear hF220
  refine then_normal ?_
  refine wqr_step ?_
  refine wq_seq ?_
  refine wq_region ?_
  refine wl_v (.bool false) rfl rfl (y_lss rfl s224 rfl rfl ⟨rfl, rfl⟩) ?_
  refine wl_nil fun F225 hF226 => ?_
  have s227 : F225 30 = undef := (hF226 30).trans s221
  have s228 : F225 4 = .pointer (some ⟨p1, 0, none⟩) := (hF226 4).trans s222
  have s229 : F225 5 = .pointer (some ⟨p14, 0, none⟩) := (hF226 5).trans s223
  have s230 : F225 12 = .int .i64 (((3 : Nat) : Int)) := (hF226 12).trans s224
  have s231 : F225 13 = .bool false := (hF226 13).trans rfl
  clear hF226
  refine then_normal ?_
  refine wq_seq ?_
  refine wq_cond (t := false) s231 (fun e => by cases e) (fun _ => ?_)
  refine wq_exit ?_
  refine then_exit ?_
  refine then_exit ?_
  refine in_here ?_
  refine then_normal ?_
  refine wq_seq ?_
  refine wq_region ?_
  refine wl_v (.agg #[.int .i64 (w), .int .i64 (h), v67, v126, v189]) rfl rfl (y_load_stc stcT_frame rfl s229 B206 ⟨rfl, rfl⟩) ?_
  refine wl_store_stc (us := [.int .i64 (w), .int .i64 (h), v67, v126, v189]) stcT_frame rfl rfl rfl s228 rfl B208 rfl (oneI rfl (oneI rfl (oneI (B209).one (oneI (B210).one (oneI (B211).one oneN))))) fun w232 B233 k234 => ?_
  have B235 := B206.all k234 (fun x => ((ap20) p14 rfl x))
  have B236 := B209.all k234 (fun i h x => ((ap74) i h x))
  have B237 := B210.all k234 (fun i h x => ((ap133) i h x))
  have B238 := B211.all k234 (fun i h x => ((ap196) i h x))
  have K239 := K212.trans k234 (Grew.ok (S := fun _ => False) gr6 noB_le)
  refine wl_nil fun F240 hF241 => ?_
  have s242 : F240 30 = undef := (hF241 30).trans s227
  have s243 : F240 4 = .pointer (some ⟨p1, 0, none⟩) := (hF241 4).trans s228
  clear hF241
  refine then_normal ?_
  refine wq_ret ?_
  exact end_stc (vs := [.int .i64 (w), .int .i64 (h), v67, v126, v189]) stcT_frame s242 rfl rfl s243 B233 ⟨v67, T72, v126, T131, v189, T194, (by rw [hF]), K239, ⟨(by rw [hF]; exact B236), gr73⟩, ⟨(by rw [hF]; exact B237), gr132⟩, ⟨(by rw [hF]; exact B238), gr195⟩, (ap135).symm, (ap198).symm, (ap199).symm⟩

set_option maxHeartbeats 4000000 in
set_option maxRecDepth 100000 in
theorem pl_copy (f : FD) (f0 f1 f2 : Value) (T_f0 : Nat → Prop) (T_f1 : Nat → Prop) (T_f2 : Nat → Prop) (w0 : World) (h_f0 : Byt w0 T_f0 f0 ((f).p0)) (h_f1 : Byt w0 T_f1 f1 ((f).p1)) (h_f2 : Byt w0 T_f2 f2 ((f).p2)) :
    Calls Try.prog 45 #[.agg #[.int .i64 ((f).W), .int .i64 ((f).H), f0, f1, f2]] w0 fun e w' => ∃ (v1 : Value) (T1 : Nat → Prop) (v2 : Value) (T2 : Nat → Prop) (v3 : Value) (T3 : Nat → Prop), e = .returned (.agg #[.int .i64 ((copyF f).W), .int .i64 ((copyF f).H), v1, v2, v3]) ∧ Kept (fun _ => False) w0 w' ∧ (Owb w' T1 v1 ((copyF f).p0) ∧ Grew w0 noB T1) ∧ (Owb w' T2 v2 ((copyF f).p1) ∧ Grew w0 noB T2) ∧ (Owb w' T3 v3 ((copyF f).p2) ∧ Grew w0 noB T3) ∧ Apart T1 T2 ∧ Apart T1 T3 ∧ Apart T2 T3 := by
  refine calls_wq (args := [.agg #[.int .i64 ((f).W), .int .i64 ((f).H), f0, f1, f2]]) 28 Try.func45 rfl rfl (Nat.le_of_ble_eq_true rfl) ?_
  have K0 := Kept.refl (fun _ => False) w0
  have g_f0 := Grew.refl w0 T_f0
  have g_f1 := Grew.refl w0 T_f1
  have g_f2 := Grew.refl w0 T_f2
  refine wq_seq ?_
  refine wq_region ?_
  refine wl_box_stc (vs := [.int .i64 ((f).W), .int .i64 ((f).H), f0, f1, f2]) rfl rfl rfl rfl fun p1 w2 B4 g5 k3 => ?_
  have gr6 : Grew w0 noB (onB p1) := Grew.new K0 g5
  have ap7 : Apart (onB p1) (T_f0) := Apart.new g5 (h_f0).live
  have ap8 : Apart (onB p1) (T_f1) := Apart.new g5 (h_f1).live
  have ap9 : Apart (onB p1) (T_f2) := Apart.new g5 (h_f2).live
  have B10 := h_f0.all k3 Apart.none
  have B11 := h_f1.all k3 Apart.none
  have B12 := h_f2.all k3 Apart.none
  have K13 := K0.trans k3 (fun _ _ x => x.elim)
  refine wl_alloc_stc (n := 5) (vs := [.int .i64 (0), .int .i64 (0), .slice none 0 0, .slice none 0 0, .slice none 0 0]) rfl rfl rfl (by kernel_rfl) fun p14 w15 B17 g18 k16 => ?_
  have gr19 : Grew w0 noB (onB p14) := Grew.new K13 g18
  have ap20 : Apart (onB p14) (T_f0) := Apart.new g18 (B10).live
  have ap21 : Apart (onB p14) (T_f1) := Apart.new g18 (B11).live
  have ap22 : Apart (onB p14) (T_f2) := Apart.new g18 (B12).live
  have ap23 : Apart (onB p14) (onB p1) := Apart.new g18 (onB_live (B4).lt)
  have B24 := B10.all k16 Apart.none
  have B25 := B11.all k16 Apart.none
  have B26 := B12.all k16 Apart.none
  have B27 := B4.all k16 id
  have K28 := K13.trans k16 (fun _ _ x => x.elim)
  refine wl_nil fun F29 hF30 => ?_
  have s31 : F29 28 = undef := (hF30 28).trans rfl
  have s32 : F29 1 = .pointer (some ⟨p1, 0, none⟩) := (hF30 1).trans rfl
  have s33 : F29 2 = .pointer (some ⟨p14, 0, none⟩) := (hF30 2).trans rfl
  clear hF30
  refine then_normal ?_
  refine wq_seq ?_
  refine wq_seq ?_
  refine wq_region ?_
  refine wl_v (.agg #[.int .i64 ((f).W), .int .i64 ((f).H), f0, f1, f2]) rfl rfl (y_load_stc stcT_frame rfl s32 B27 ⟨rfl, rfl⟩) ?_
  refine wl_call (R := fun v_ w_ => v_ = .int .i64 (checkE (f)) ∧ Kept (fun _ => False) w15 w_) rfl rfl (y_cs rfl rfl rfl (fun _ _ => by kernel_rfl) (ev_func _) (vsC rfl vsN) (pl_check (f) (f0) (f1) (f2) (T_f0) (T_f1) (T_f2) _  B24 B25 B26 ) (fun e_ w_ h_ => ⟨_, h_.1, rfl, h_.2⟩)) ?_
  rintro _ w34 ⟨rfl, k35⟩
  have B36 := B24.all k35 Apart.none
  have B37 := B25.all k35 Apart.none
  have B38 := B26.all k35 Apart.none
  have B39 := B27.all k35 id
  have B40 := B17.all k35 id
  have K41 := K28.trans k35 (fun _ _ x => x.elim)
  refine wl_v (.bool (decide ((checkE (f)) ≠ (0)))) rfl rfl (y_neqI rfl rfl rfl rfl ⟨rfl, rfl⟩) ?_
  refine wl_nil fun F42 hF43 => ?_
  have s44 : F42 28 = undef := (hF43 28).trans s31
  have s45 : F42 1 = .pointer (some ⟨p1, 0, none⟩) := (hF43 1).trans s32
  have s46 : F42 2 = .pointer (some ⟨p14, 0, none⟩) := (hF43 2).trans s33
  have s47 : F42 7 = .bool (decide ((checkE (f)) ≠ (0))) := (hF43 7).trans rfl
  clear hF43
  refine then_normal ?_
  refine wq_cond s47 (fun c48 => ?_) (fun c48 => ?_)
  · replace c48 := of_decide_eq_true c48
    refine wq_seq ?_
    have hno : ¬ okF f := fun h => absurd ((checkE_iff f).2 h) (by assumption)
    refine wq_region ?_
    refine wl_v (.agg #[.int .i64 (0), .int .i64 (0), .slice none 0 0, .slice none 0 0, .slice none 0 0]) rfl rfl (y_buildL (l' := []) (cells := #[.int .i64 (0), .int .i64 (0), .slice none 0 0, .slice none 0 0, .slice none 0 0]) rfl bpN (by kernel_rfl) rfl ⟨rfl, rfl⟩) ?_
    refine wl_store_stc (us := [.int .i64 (0), .int .i64 (0), .slice none 0 0, .slice none 0 0, .slice none 0 0]) stcT_frame rfl rfl rfl s46 rfl B40 rfl (oneI rfl (oneI rfl (oneI rfl (oneI rfl (oneI rfl oneN))))) fun w49 B50 k51 => ?_
    have B52 := B36.all k51 (fun i h x => (((ap20).symm) i h x))
    have B53 := B37.all k51 (fun i h x => (((ap21).symm) i h x))
    have B54 := B38.all k51 (fun i h x => (((ap22).symm) i h x))
    have B55 := B39.all k51 (fun x => (((ap23).symm) p1 rfl x))
    have K56 := K41.trans k51 (Grew.ok (S := fun _ => False) gr19 noB_le)
    refine wl_nil fun F57 hF58 => ?_
    have s59 : F57 28 = undef := (hF58 28).trans s44
    have s60 : F57 2 = .pointer (some ⟨p14, 0, none⟩) := (hF58 2).trans s46
    clear hF58
    refine then_normal ?_
    refine wq_ret ?_
    refine then_ret ?_
    exact end_stc (vs := [.int .i64 (0), .int .i64 (0), .slice none 0 0, .slice none 0 0, .slice none 0 0]) stcT_frame s59 rfl rfl s60 B50 ⟨(.slice none 0 0), noB, (.slice none 0 0), noB, (.slice none 0 0), noB, (by first | rw [copyF_yes hok, (new_side 0 hok.1 hok.2.1).1, (new_side 0 hok.1 hok.2.1).2] | rw [copyF_no hno]; rfl), K56, ⟨(by first | (rw [copyF_yes hok]; exact (Owb.nil _)) | (rw [copyF_no hno]; exact (Owb.nil _))), (Grew.refl _ _)⟩, ⟨(by first | (rw [copyF_yes hok]; exact (Owb.nil _)) | (rw [copyF_no hno]; exact (Owb.nil _))), (Grew.refl _ _)⟩, ⟨(by first | (rw [copyF_yes hok]; exact (Owb.nil _)) | (rw [copyF_no hno]; exact (Owb.nil _))), (Grew.refl _ _)⟩, Apart.none, Apart.none, Apart.none⟩
  · replace c48 := of_decide_eq_false c48
    refine wq_skip ?_
    refine then_normal ?_
    refine wq_seq ?_
    have hok := (checkE_iff f).1 (by first | assumption | (apply Decidable.byContradiction; assumption))
    have hmost := ok_lens hok
    have hnl := blank_lens hok
    refine wq_region ?_
    refine wl_v (.pointer (some ⟨p1, 0, none⟩)) rfl rfl (y_fieldR (n := 1) rfl s45 Try.underlying25 rfl (by kernel_rfl) (by decide) rfl ⟨rfl, rfl⟩) ?_
    refine wl_v (.int .i64 ((f).W)) rfl rfl (y_ld_stc rfl rfl Try.underlying3 B39 rfl rfl ⟨rfl, rfl⟩) ?_
    refine wl_v (.pointer (some ⟨p1, 1, none⟩)) rfl rfl (y_fieldR (n := 1) rfl s45 Try.underlying25 rfl (by kernel_rfl) (by decide) rfl ⟨rfl, rfl⟩) ?_
    refine wl_v (.int .i64 ((f).H)) rfl rfl (y_ld_stc rfl rfl Try.underlying3 B39 rfl rfl ⟨rfl, rfl⟩) ?_
    refine wl_call (R := fun v_ w_ => ∃ (v61 : Value) (T66 : Nat → Prop) (v62 : Value) (T67 : Nat → Prop) (v63 : Value) (T68 : Nat → Prop), .agg #[.int .i64 ((newF ((f).W) ((f).H) 0).W), .int .i64 ((newF ((f).W) ((f).H) 0).H), v61, v62, v63] = v_ ∧ Kept (fun _ => False) w34 w_ ∧ (Owb w_ T66 v61 ((newF ((f).W) ((f).H) 0).p0) ∧ Grew w34 noB T66) ∧ (Owb w_ T67 v62 ((newF ((f).W) ((f).H) 0).p1) ∧ Grew w34 noB T67) ∧ (Owb w_ T68 v63 ((newF ((f).W) ((f).H) 0).p2) ∧ Grew w34 noB T68) ∧ Apart T66 T67 ∧ Apart T66 T68 ∧ Apart T67 T68) rfl rfl (y_cs rfl rfl rfl (fun _ _ => by kernel_rfl) (ev_func _) (vsC rfl (vsC rfl vsN)) (ps_blank ((f).W) ((f).H)  _ hok.1 hok.2.1  ) (fun e_ w_ h_ => by obtain ⟨v61_, T66_, v62_, T67_, v63_, T68_, he_, hr_⟩ := h_; exact ⟨_, he_, v61_, T66_, v62_, T67_, v63_, T68_, rfl, hr_⟩)) ?_
    rintro _ w64 ⟨v61, T66, v62, T67, v63, T68, rfl, k65, ⟨B69, g72⟩, ⟨B70, g73⟩, ⟨B71, g74⟩, ap75, ap76, ap77⟩
    have B78 := B36.all k65 Apart.none
    have B79 := B37.all k65 Apart.none
    have B80 := B38.all k65 Apart.none
    have B81 := B39.all k65 id
    have B82 := B40.all k65 id
    have K83 := K41.trans k65 (fun _ _ x => x.elim)
    have gr84 : Grew w0 noB (T66) := Grew.new K41 g72
    have ap85 : Apart (T66) (T_f0) := Apart.new g72 (B36).live
    have ap86 : Apart (T66) (T_f1) := Apart.new g72 (B37).live
    have ap87 : Apart (T66) (T_f2) := Apart.new g72 (B38).live
    have ap88 : Apart (T66) (onB p1) := Apart.new g72 (onB_live (B39).lt)
    have ap89 : Apart (T66) (onB p14) := Apart.new g72 (onB_live (B40).lt)
    have gr90 : Grew w0 noB (T67) := Grew.new K41 g73
    have ap91 : Apart (T67) (T_f0) := Apart.new g73 (B36).live
    have ap92 : Apart (T67) (T_f1) := Apart.new g73 (B37).live
    have ap93 : Apart (T67) (T_f2) := Apart.new g73 (B38).live
    have ap94 : Apart (T67) (onB p1) := Apart.new g73 (onB_live (B39).lt)
    have ap95 : Apart (T67) (onB p14) := Apart.new g73 (onB_live (B40).lt)
    have gr96 : Grew w0 noB (T68) := Grew.new K41 g74
    have ap97 : Apart (T68) (T_f0) := Apart.new g74 (B36).live
    have ap98 : Apart (T68) (T_f1) := Apart.new g74 (B37).live
    have ap99 : Apart (T68) (T_f2) := Apart.new g74 (B38).live
    have ap100 : Apart (T68) (onB p1) := Apart.new g74 (onB_live (B39).lt)
    have ap101 : Apart (T68) (onB p14) := Apart.new g74 (onB_live (B40).lt)
    refine wl_alloc_stc (n := 5) (vs := [.int .i64 (0), .int .i64 (0), .slice none 0 0, .slice none 0 0, .slice none 0 0]) rfl rfl rfl (by kernel_rfl) fun p102 w103 B105 g106 k104 => ?_
    have gr107 : Grew w0 noB (onB p102) := Grew.new K83 g106
    have ap108 : Apart (onB p102) (T_f0) := Apart.new g106 (B78).live
    have ap109 : Apart (onB p102) (T_f1) := Apart.new g106 (B79).live
    have ap110 : Apart (onB p102) (T_f2) := Apart.new g106 (B80).live
    have ap111 : Apart (onB p102) (onB p1) := Apart.new g106 (onB_live (B81).lt)
    have ap112 : Apart (onB p102) (onB p14) := Apart.new g106 (onB_live (B82).lt)
    have ap113 : Apart (onB p102) (T66) := Apart.new g106 (B69).live
    have ap114 : Apart (onB p102) (T67) := Apart.new g106 (B70).live
    have ap115 : Apart (onB p102) (T68) := Apart.new g106 (B71).live
    have B116 := B78.all k104 Apart.none
    have B117 := B79.all k104 Apart.none
    have B118 := B80.all k104 Apart.none
    have B119 := B81.all k104 id
    have B120 := B82.all k104 id
    have B121 := B69.all k104 Apart.none
    have B122 := B70.all k104 Apart.none
    have B123 := B71.all k104 Apart.none
    have K124 := K83.trans k104 (fun _ _ x => x.elim)
    refine wl_store_stc (us := [.int .i64 ((newF ((f).W) ((f).H) 0).W), .int .i64 ((newF ((f).W) ((f).H) 0).H), v61, v62, v63]) stcT_frame rfl rfl rfl rfl rfl B105 rfl (oneI rfl (oneI rfl (oneI (B121).one (oneI (B122).one (oneI (B123).one oneN))))) fun w125 B126 k127 => ?_
    have B128 := B116.all k127 (fun i h x => (((ap108).symm) i h x))
    have B129 := B117.all k127 (fun i h x => (((ap109).symm) i h x))
    have B130 := B118.all k127 (fun i h x => (((ap110).symm) i h x))
    have B131 := B119.all k127 (fun x => (((ap111).symm) p1 rfl x))
    have B132 := B120.all k127 (fun x => (((ap112).symm) p14 rfl x))
    have B133 := B121.all k127 (fun i h x => (((ap113).symm) i h x))
    have B134 := B122.all k127 (fun i h x => (((ap114).symm) i h x))
    have B135 := B123.all k127 (fun i h x => (((ap115).symm) i h x))
    have K136 := K124.trans k127 (Grew.ok (S := fun _ => False) gr107 noB_le)
    refine wl_nil fun F137 hF138 => ?_
    have s139 : F137 28 = undef := (hF138 28).trans s44
    have s140 : F137 1 = .pointer (some ⟨p1, 0, none⟩) := (hF138 1).trans s45
    have s141 : F137 2 = .pointer (some ⟨p14, 0, none⟩) := (hF138 2).trans s46
    have s142 : F137 3 = .pointer (some ⟨p102, 0, none⟩) := (hF138 3).trans rfl
    clear hF138
    refine then_normal ?_
    refine wq_seq ?_
    refine wq_seq ?_
    refine wq_region ?_
    refine wl_v (.int .i64 (0)) rfl rfl (y_mov rfl rfl ⟨rfl, rfl⟩) ?_
    refine wl_nil fun F143 hF144 => ?_
    have s145 : F143 28 = undef := (hF144 28).trans s139
    have s146 : F143 1 = .pointer (some ⟨p1, 0, none⟩) := (hF144 1).trans s140
    have s147 : F143 2 = .pointer (some ⟨p14, 0, none⟩) := (hF144 2).trans s141
    have s148 : F143 3 = .pointer (some ⟨p102, 0, none⟩) := (hF144 3).trans s142
    have s149 : F143 14 = .int .i64 (0) := (hF144 14).trans rfl
    clear hF144
    refine then_normal ?_
    refine wq_block ?_
    refine wq_rounds 4 ?_
    refine wqr_step ?_
    refine wq_seq ?_
    refine wq_region ?_
    refine wl_v (.bool true) rfl rfl (y_lss rfl s149 rfl rfl ⟨rfl, rfl⟩) ?_
    refine wl_nil fun F150 hF151 => ?_
    have s152 : F150 28 = undef := (hF151 28).trans s145
    have s153 : F150 1 = .pointer (some ⟨p1, 0, none⟩) := (hF151 1).trans s146
    have s154 : F150 2 = .pointer (some ⟨p14, 0, none⟩) := (hF151 2).trans s147
    have s155 : F150 3 = .pointer (some ⟨p102, 0, none⟩) := (hF151 3).trans s148
    have s156 : F150 14 = .int .i64 (0) := (hF151 14).trans s149
    have s157 : F150 15 = .bool true := (hF151 15).trans rfl
    clear hF151
    refine then_normal ?_
    refine wq_seq ?_
    refine wq_cond (t := true) s157 (fun _ => ?_) (fun e => by cases e)
    refine wq_skip ?_
    refine then_normal ?_
    refine wq_seq ?_
    refine wq_block ?_
    refine wq_seq ?_
    refine wq_region ?_
    refine wl_v (.int .i64 (0)) rfl rfl (y_mov rfl s156 ⟨rfl, rfl⟩) ?_
    refine wl_v (.int .i64 (0)) rfl rfl (y_asg rfl rfl ⟨rfl, rfl⟩) ?_
    refine wl_nil fun F158 hF159 => ?_
    have s160 : F158 28 = undef := (hF159 28).trans s152
    have s161 : F158 1 = .pointer (some ⟨p1, 0, none⟩) := (hF159 1).trans s153
    have s162 : F158 2 = .pointer (some ⟨p14, 0, none⟩) := (hF159 2).trans s154
    have s163 : F158 3 = .pointer (some ⟨p102, 0, none⟩) := (hF159 3).trans s155
    have s164 : F158 14 = .int .i64 (0) := (hF159 14).trans s156
    have s165 : F158 4 = .int .i64 (0) := (hF159 4).trans rfl
    clear hF159
    refine then_normal ?_
    refine wq_tail 8 [some 17, some 18, some 19, some 20, some 21, some 22, some 23, some 24] [Pd.eq (.int .i64 (0)), Pd.eq (.pointer (some ⟨p102, 2, none⟩)), Pd.eq (.pointer (some ⟨p102, 2, none⟩)), Pd.eq (v61), Pd.eq (.int .i64 (0)), Pd.eq (.pointer (some ⟨p1, 2, none⟩)), Pd.eq (.pointer (some ⟨p1, 2, none⟩)), Pd.eq (f0)] (by kernel_rfl) (by kernel_rfl) (by kernel_rfl) ?_ ?_
    · refine stepsF_cons ?_ ?_
      · refine StepF.one rfl fun F_ w_ hR hout hD => ?_
        exact (y_mov rfl ((hout 4 rfl (by decide)).trans s165) ⟨rfl, Kept.refl _ _⟩)
      refine stepsF_cons ?_ ?_
      · refine StepF.one rfl fun F_ w_ hR hout hD => ?_
        exact (y_fieldR (n := 3) rfl ((hout 3 rfl (by decide)).trans s163) Try.underlying25 rfl (by kernel_rfl) (by decide) rfl ⟨rfl, Kept.refl _ _⟩)
      refine stepsF_cons ?_ ?_
      · refine StepF.one rfl fun F_ w_ hR hout hD => ?_
        have g18 : F_ 18 = .pointer (some ⟨p102, 2, none⟩) := hD.get 0 rfl rfl rfl
        have g17 : F_ 17 = .int .i64 (0) := hD.get 1 rfl rfl rfl
        exact (y_atR (0) (s := 1) rfl g18 g17 (by omega) Try.underlying23 (by omega) (by kernel_rfl) (by omega) ⟨rfl, Kept.refl _ _⟩)
      refine stepsF_cons ?_ ?_
      · refine StepF.one rfl fun F_ w_ hR hout hD => ?_
        have g19 : F_ 19 = .pointer (some ⟨p102, 2, none⟩) := hD.get 0 rfl rfl rfl
        exact (y_ld_stc rfl g19 Try.underlying22 (B126.all hR id) rfl rfl ⟨rfl, Kept.refl _ _⟩)
      refine stepsF_cons ?_ ?_
      · refine StepF.one rfl fun F_ w_ hR hout hD => ?_
        exact (y_mov rfl ((hout 4 rfl (by decide)).trans s165) ⟨rfl, Kept.refl _ _⟩)
      refine stepsF_cons ?_ ?_
      · refine StepF.one rfl fun F_ w_ hR hout hD => ?_
        exact (y_fieldR (n := 3) rfl ((hout 1 rfl (by decide)).trans s161) Try.underlying25 rfl (by kernel_rfl) (by decide) rfl ⟨rfl, Kept.refl _ _⟩)
      refine stepsF_cons ?_ ?_
      · refine StepF.one rfl fun F_ w_ hR hout hD => ?_
        have g22 : F_ 22 = .pointer (some ⟨p1, 2, none⟩) := hD.get 0 rfl rfl rfl
        have g21 : F_ 21 = .int .i64 (0) := hD.get 1 rfl rfl rfl
        exact (y_atR (0) (s := 1) rfl g22 g21 (by omega) Try.underlying23 (by omega) (by kernel_rfl) (by omega) ⟨rfl, Kept.refl _ _⟩)
      refine stepsF_cons ?_ ?_
      · refine StepF.one rfl fun F_ w_ hR hout hD => ?_
        have g23 : F_ 23 = .pointer (some ⟨p1, 2, none⟩) := hD.get 0 rfl rfl rfl
        exact (y_ld_stc rfl g23 Try.underlying22 (B131.all hR id) rfl rfl ⟨rfl, Kept.refl _ _⟩)
      exact stepsF_nil
    intro v166 F167 w168 k169 G170 hF171
    have B173 := B128.all k169 Apart.none
    have B174 := B129.all k169 Apart.none
    have B175 := B130.all k169 Apart.none
    have B176 := B131.all k169 id
    have B177 := B132.all k169 id
    have B178 := B133.all k169 Apart.none
    have B179 := B134.all k169 Apart.none
    have B180 := B135.all k169 Apart.none
    have B181 := B126.all k169 id
    have K182 := K136.trans k169 (fun _ _ x => x.elim)
    have s183 : F167 28 = undef := (hF171 28).trans s160
    have s184 : F167 1 = .pointer (some ⟨p1, 0, none⟩) := (hF171 1).trans s161
    have s185 : F167 2 = .pointer (some ⟨p14, 0, none⟩) := (hF171 2).trans s162
    have s186 : F167 3 = .pointer (some ⟨p102, 0, none⟩) := (hF171 3).trans s163
    have s187 : F167 14 = .int .i64 (0) := (hF171 14).trans s164
    have s188 : F167 20 = v61 := (hF171 20).trans (G170 3 (by decide))
    have s189 : F167 24 = f0 := (hF171 24).trans (G170 7 (by decide))
    clear G170 hF171
    refine wl_copyB rfl rfl rfl rfl s188 s189 B178 B173 (by first | exact hnl.1 | exact hnl.2.1 | exact hnl.2.2) fun w191 B193 k192 => ?_
    have B196 := B173.all k192 (fun i h x => (((ap85).symm) i h x))
    have B197 := B174.all k192 (fun i h x => (((ap86).symm) i h x))
    have B198 := B175.all k192 (fun i h x => (((ap87).symm) i h x))
    have B199 := B176.all k192 (fun x => (((ap88).symm) p1 rfl x))
    have B200 := B177.all k192 (fun x => (((ap89).symm) p14 rfl x))
    have B201 := B179.all k192 (fun i h x => (((ap75).symm) i h x))
    have B202 := B180.all k192 (fun i h x => (((ap76).symm) i h x))
    have B203 := B181.all k192 (fun x => ((ap113) p102 rfl x))
    have K204 := K182.trans k192 (Grew.ok (S := fun _ => False) gr84 noB_le)
    refine wl_nil fun F205 hF206 => ?_
    have s207 : F205 28 = undef := (hF206 28).trans s183
    have s208 : F205 1 = .pointer (some ⟨p1, 0, none⟩) := (hF206 1).trans s184
    have s209 : F205 2 = .pointer (some ⟨p14, 0, none⟩) := (hF206 2).trans s185
    have s210 : F205 3 = .pointer (some ⟨p102, 0, none⟩) := (hF206 3).trans s186
    have s211 : F205 14 = .int .i64 (0) := (hF206 14).trans s187
    clear hF206
    refine in_normal ?_
    refine then_normal ?_
    refine wq_region ?_
    refine wl_v (.int .i64 (((1 : Nat) : Int))) rfl rfl (y_add rfl s211 rfl (i64_n (by omega) (by omega)) ⟨rfl, rfl⟩) ?_
    refine wl_v (.int .i64 (((1 : Nat) : Int))) rfl rfl (y_mov rfl rfl ⟨rfl, rfl⟩) ?_
    refine wl_nil fun F212 hF213 => ?_
    have s214 : F212 28 = undef := (hF213 28).trans s207
    have s215 : F212 1 = .pointer (some ⟨p1, 0, none⟩) := (hF213 1).trans s208
    have s216 : F212 2 = .pointer (some ⟨p14, 0, none⟩) := (hF213 2).trans s209
    have s217 : F212 3 = .pointer (some ⟨p102, 0, none⟩) := (hF213 3).trans s210
    have s218 : F212 14 = .int .i64 (((1 : Nat) : Int)) := (hF213 14).trans rfl
    clear hF213
    refine then_normal ?_
    refine wqr_step ?_
    refine wq_seq ?_
    refine wq_region ?_
    refine wl_v (.bool true) rfl rfl (y_lss rfl s218 rfl rfl ⟨rfl, rfl⟩) ?_
    refine wl_nil fun F219 hF220 => ?_
    have s221 : F219 28 = undef := (hF220 28).trans s214
    have s222 : F219 1 = .pointer (some ⟨p1, 0, none⟩) := (hF220 1).trans s215
    have s223 : F219 2 = .pointer (some ⟨p14, 0, none⟩) := (hF220 2).trans s216
    have s224 : F219 3 = .pointer (some ⟨p102, 0, none⟩) := (hF220 3).trans s217
    have s225 : F219 14 = .int .i64 (((1 : Nat) : Int)) := (hF220 14).trans s218
    have s226 : F219 15 = .bool true := (hF220 15).trans rfl
    clear hF220
    refine then_normal ?_
    refine wq_seq ?_
    refine wq_cond (t := true) s226 (fun _ => ?_) (fun e => by cases e)
    refine wq_skip ?_
    refine then_normal ?_
    refine wq_seq ?_
    refine wq_block ?_
    refine wq_seq ?_
    refine wq_region ?_
    refine wl_v (.int .i64 (((1 : Nat) : Int))) rfl rfl (y_mov rfl s225 ⟨rfl, rfl⟩) ?_
    refine wl_v (.int .i64 (((1 : Nat) : Int))) rfl rfl (y_asg rfl rfl ⟨rfl, rfl⟩) ?_
    refine wl_nil fun F227 hF228 => ?_
    have s229 : F227 28 = undef := (hF228 28).trans s221
    have s230 : F227 1 = .pointer (some ⟨p1, 0, none⟩) := (hF228 1).trans s222
    have s231 : F227 2 = .pointer (some ⟨p14, 0, none⟩) := (hF228 2).trans s223
    have s232 : F227 3 = .pointer (some ⟨p102, 0, none⟩) := (hF228 3).trans s224
    have s233 : F227 14 = .int .i64 (((1 : Nat) : Int)) := (hF228 14).trans s225
    have s234 : F227 4 = .int .i64 (((1 : Nat) : Int)) := (hF228 4).trans rfl
    clear hF228
    refine then_normal ?_
    refine wq_tail 8 [some 17, some 18, some 19, some 20, some 21, some 22, some 23, some 24] [Pd.eq (.int .i64 (((1 : Nat) : Int))), Pd.eq (.pointer (some ⟨p102, 2, none⟩)), Pd.eq (.pointer (some ⟨p102, 3, none⟩)), Pd.eq (v62), Pd.eq (.int .i64 (((1 : Nat) : Int))), Pd.eq (.pointer (some ⟨p1, 2, none⟩)), Pd.eq (.pointer (some ⟨p1, 3, none⟩)), Pd.eq (f1)] (by kernel_rfl) (by kernel_rfl) (by kernel_rfl) ?_ ?_
    · refine stepsF_cons ?_ ?_
      · refine StepF.one rfl fun F_ w_ hR hout hD => ?_
        exact (y_mov rfl ((hout 4 rfl (by decide)).trans s234) ⟨rfl, Kept.refl _ _⟩)
      refine stepsF_cons ?_ ?_
      · refine StepF.one rfl fun F_ w_ hR hout hD => ?_
        exact (y_fieldR (n := 3) rfl ((hout 3 rfl (by decide)).trans s232) Try.underlying25 rfl (by kernel_rfl) (by decide) rfl ⟨rfl, Kept.refl _ _⟩)
      refine stepsF_cons ?_ ?_
      · refine StepF.one rfl fun F_ w_ hR hout hD => ?_
        have g18 : F_ 18 = .pointer (some ⟨p102, 2, none⟩) := hD.get 0 rfl rfl rfl
        have g17 : F_ 17 = .int .i64 (((1 : Nat) : Int)) := hD.get 1 rfl rfl rfl
        exact (y_atR (1) (s := 1) rfl g18 g17 (by omega) Try.underlying23 (by omega) (by kernel_rfl) (by omega) ⟨rfl, Kept.refl _ _⟩)
      refine stepsF_cons ?_ ?_
      · refine StepF.one rfl fun F_ w_ hR hout hD => ?_
        have g19 : F_ 19 = .pointer (some ⟨p102, 3, none⟩) := hD.get 0 rfl rfl rfl
        exact (y_ld_stc rfl g19 Try.underlying22 (B203.all hR id) rfl rfl ⟨rfl, Kept.refl _ _⟩)
      refine stepsF_cons ?_ ?_
      · refine StepF.one rfl fun F_ w_ hR hout hD => ?_
        exact (y_mov rfl ((hout 4 rfl (by decide)).trans s234) ⟨rfl, Kept.refl _ _⟩)
      refine stepsF_cons ?_ ?_
      · refine StepF.one rfl fun F_ w_ hR hout hD => ?_
        exact (y_fieldR (n := 3) rfl ((hout 1 rfl (by decide)).trans s230) Try.underlying25 rfl (by kernel_rfl) (by decide) rfl ⟨rfl, Kept.refl _ _⟩)
      refine stepsF_cons ?_ ?_
      · refine StepF.one rfl fun F_ w_ hR hout hD => ?_
        have g22 : F_ 22 = .pointer (some ⟨p1, 2, none⟩) := hD.get 0 rfl rfl rfl
        have g21 : F_ 21 = .int .i64 (((1 : Nat) : Int)) := hD.get 1 rfl rfl rfl
        exact (y_atR (1) (s := 1) rfl g22 g21 (by omega) Try.underlying23 (by omega) (by kernel_rfl) (by omega) ⟨rfl, Kept.refl _ _⟩)
      refine stepsF_cons ?_ ?_
      · refine StepF.one rfl fun F_ w_ hR hout hD => ?_
        have g23 : F_ 23 = .pointer (some ⟨p1, 3, none⟩) := hD.get 0 rfl rfl rfl
        exact (y_ld_stc rfl g23 Try.underlying22 (B199.all hR id) rfl rfl ⟨rfl, Kept.refl _ _⟩)
      exact stepsF_nil
    intro v235 F236 w237 k238 G239 hF240
    have B242 := B196.all k238 Apart.none
    have B243 := B197.all k238 Apart.none
    have B244 := B198.all k238 Apart.none
    have B245 := B199.all k238 id
    have B246 := B200.all k238 id
    have B247 := B193.all k238 Apart.none
    have B248 := B201.all k238 Apart.none
    have B249 := B202.all k238 Apart.none
    have B250 := B203.all k238 id
    have K251 := K204.trans k238 (fun _ _ x => x.elim)
    have s252 : F236 28 = undef := (hF240 28).trans s229
    have s253 : F236 1 = .pointer (some ⟨p1, 0, none⟩) := (hF240 1).trans s230
    have s254 : F236 2 = .pointer (some ⟨p14, 0, none⟩) := (hF240 2).trans s231
    have s255 : F236 3 = .pointer (some ⟨p102, 0, none⟩) := (hF240 3).trans s232
    have s256 : F236 14 = .int .i64 (((1 : Nat) : Int)) := (hF240 14).trans s233
    have s257 : F236 20 = v62 := (hF240 20).trans (G239 3 (by decide))
    have s258 : F236 24 = f1 := (hF240 24).trans (G239 7 (by decide))
    clear G239 hF240
    refine wl_copyB rfl rfl rfl rfl s257 s258 B248 B243 (by first | exact hnl.1 | exact hnl.2.1 | exact hnl.2.2) fun w260 B262 k261 => ?_
    have B265 := B242.all k261 (fun i h x => (((ap91).symm) i h x))
    have B266 := B243.all k261 (fun i h x => (((ap92).symm) i h x))
    have B267 := B244.all k261 (fun i h x => (((ap93).symm) i h x))
    have B268 := B245.all k261 (fun x => (((ap94).symm) p1 rfl x))
    have B269 := B246.all k261 (fun x => (((ap95).symm) p14 rfl x))
    have B270 := B247.all k261 (fun i h x => ((ap75) i h x))
    have B271 := B249.all k261 (fun i h x => (((ap77).symm) i h x))
    have B272 := B250.all k261 (fun x => ((ap114) p102 rfl x))
    have K273 := K251.trans k261 (Grew.ok (S := fun _ => False) gr90 noB_le)
    refine wl_nil fun F274 hF275 => ?_
    have s276 : F274 28 = undef := (hF275 28).trans s252
    have s277 : F274 1 = .pointer (some ⟨p1, 0, none⟩) := (hF275 1).trans s253
    have s278 : F274 2 = .pointer (some ⟨p14, 0, none⟩) := (hF275 2).trans s254
    have s279 : F274 3 = .pointer (some ⟨p102, 0, none⟩) := (hF275 3).trans s255
    have s280 : F274 14 = .int .i64 (((1 : Nat) : Int)) := (hF275 14).trans s256
    clear hF275
    refine in_normal ?_
    refine then_normal ?_
    refine wq_region ?_
    refine wl_v (.int .i64 (((2 : Nat) : Int))) rfl rfl (y_add rfl s280 rfl (i64_n (by omega) (by omega)) ⟨rfl, rfl⟩) ?_
    refine wl_v (.int .i64 (((2 : Nat) : Int))) rfl rfl (y_mov rfl rfl ⟨rfl, rfl⟩) ?_
    refine wl_nil fun F281 hF282 => ?_
    have s283 : F281 28 = undef := (hF282 28).trans s276
    have s284 : F281 1 = .pointer (some ⟨p1, 0, none⟩) := (hF282 1).trans s277
    have s285 : F281 2 = .pointer (some ⟨p14, 0, none⟩) := (hF282 2).trans s278
    have s286 : F281 3 = .pointer (some ⟨p102, 0, none⟩) := (hF282 3).trans s279
    have s287 : F281 14 = .int .i64 (((2 : Nat) : Int)) := (hF282 14).trans rfl
    clear hF282
    refine then_normal ?_
    refine wqr_step ?_
    refine wq_seq ?_
    refine wq_region ?_
    refine wl_v (.bool true) rfl rfl (y_lss rfl s287 rfl rfl ⟨rfl, rfl⟩) ?_
    refine wl_nil fun F288 hF289 => ?_
    have s290 : F288 28 = undef := (hF289 28).trans s283
    have s291 : F288 1 = .pointer (some ⟨p1, 0, none⟩) := (hF289 1).trans s284
    have s292 : F288 2 = .pointer (some ⟨p14, 0, none⟩) := (hF289 2).trans s285
    have s293 : F288 3 = .pointer (some ⟨p102, 0, none⟩) := (hF289 3).trans s286
    have s294 : F288 14 = .int .i64 (((2 : Nat) : Int)) := (hF289 14).trans s287
    have s295 : F288 15 = .bool true := (hF289 15).trans rfl
    clear hF289
    refine then_normal ?_
    refine wq_seq ?_
    refine wq_cond (t := true) s295 (fun _ => ?_) (fun e => by cases e)
    refine wq_skip ?_
    refine then_normal ?_
    refine wq_seq ?_
    refine wq_block ?_
    refine wq_seq ?_
    refine wq_region ?_
    refine wl_v (.int .i64 (((2 : Nat) : Int))) rfl rfl (y_mov rfl s294 ⟨rfl, rfl⟩) ?_
    refine wl_v (.int .i64 (((2 : Nat) : Int))) rfl rfl (y_asg rfl rfl ⟨rfl, rfl⟩) ?_
    refine wl_nil fun F296 hF297 => ?_
    have s298 : F296 28 = undef := (hF297 28).trans s290
    have s299 : F296 1 = .pointer (some ⟨p1, 0, none⟩) := (hF297 1).trans s291
    have s300 : F296 2 = .pointer (some ⟨p14, 0, none⟩) := (hF297 2).trans s292
    have s301 : F296 3 = .pointer (some ⟨p102, 0, none⟩) := (hF297 3).trans s293
    have s302 : F296 14 = .int .i64 (((2 : Nat) : Int)) := (hF297 14).trans s294
    have s303 : F296 4 = .int .i64 (((2 : Nat) : Int)) := (hF297 4).trans rfl
    clear hF297
    refine then_normal ?_
    refine wq_tail 8 [some 17, some 18, some 19, some 20, some 21, some 22, some 23, some 24] [Pd.eq (.int .i64 (((2 : Nat) : Int))), Pd.eq (.pointer (some ⟨p102, 2, none⟩)), Pd.eq (.pointer (some ⟨p102, 4, none⟩)), Pd.eq (v63), Pd.eq (.int .i64 (((2 : Nat) : Int))), Pd.eq (.pointer (some ⟨p1, 2, none⟩)), Pd.eq (.pointer (some ⟨p1, 4, none⟩)), Pd.eq (f2)] (by kernel_rfl) (by kernel_rfl) (by kernel_rfl) ?_ ?_
    · refine stepsF_cons ?_ ?_
      · refine StepF.one rfl fun F_ w_ hR hout hD => ?_
        exact (y_mov rfl ((hout 4 rfl (by decide)).trans s303) ⟨rfl, Kept.refl _ _⟩)
      refine stepsF_cons ?_ ?_
      · refine StepF.one rfl fun F_ w_ hR hout hD => ?_
        exact (y_fieldR (n := 3) rfl ((hout 3 rfl (by decide)).trans s301) Try.underlying25 rfl (by kernel_rfl) (by decide) rfl ⟨rfl, Kept.refl _ _⟩)
      refine stepsF_cons ?_ ?_
      · refine StepF.one rfl fun F_ w_ hR hout hD => ?_
        have g18 : F_ 18 = .pointer (some ⟨p102, 2, none⟩) := hD.get 0 rfl rfl rfl
        have g17 : F_ 17 = .int .i64 (((2 : Nat) : Int)) := hD.get 1 rfl rfl rfl
        exact (y_atR (2) (s := 1) rfl g18 g17 (by omega) Try.underlying23 (by omega) (by kernel_rfl) (by omega) ⟨rfl, Kept.refl _ _⟩)
      refine stepsF_cons ?_ ?_
      · refine StepF.one rfl fun F_ w_ hR hout hD => ?_
        have g19 : F_ 19 = .pointer (some ⟨p102, 4, none⟩) := hD.get 0 rfl rfl rfl
        exact (y_ld_stc rfl g19 Try.underlying22 (B272.all hR id) rfl rfl ⟨rfl, Kept.refl _ _⟩)
      refine stepsF_cons ?_ ?_
      · refine StepF.one rfl fun F_ w_ hR hout hD => ?_
        exact (y_mov rfl ((hout 4 rfl (by decide)).trans s303) ⟨rfl, Kept.refl _ _⟩)
      refine stepsF_cons ?_ ?_
      · refine StepF.one rfl fun F_ w_ hR hout hD => ?_
        exact (y_fieldR (n := 3) rfl ((hout 1 rfl (by decide)).trans s299) Try.underlying25 rfl (by kernel_rfl) (by decide) rfl ⟨rfl, Kept.refl _ _⟩)
      refine stepsF_cons ?_ ?_
      · refine StepF.one rfl fun F_ w_ hR hout hD => ?_
        have g22 : F_ 22 = .pointer (some ⟨p1, 2, none⟩) := hD.get 0 rfl rfl rfl
        have g21 : F_ 21 = .int .i64 (((2 : Nat) : Int)) := hD.get 1 rfl rfl rfl
        exact (y_atR (2) (s := 1) rfl g22 g21 (by omega) Try.underlying23 (by omega) (by kernel_rfl) (by omega) ⟨rfl, Kept.refl _ _⟩)
      refine stepsF_cons ?_ ?_
      · refine StepF.one rfl fun F_ w_ hR hout hD => ?_
        have g23 : F_ 23 = .pointer (some ⟨p1, 4, none⟩) := hD.get 0 rfl rfl rfl
        exact (y_ld_stc rfl g23 Try.underlying22 (B268.all hR id) rfl rfl ⟨rfl, Kept.refl _ _⟩)
      exact stepsF_nil
    intro v304 F305 w306 k307 G308 hF309
    have B311 := B265.all k307 Apart.none
    have B312 := B266.all k307 Apart.none
    have B313 := B267.all k307 Apart.none
    have B314 := B268.all k307 id
    have B315 := B269.all k307 id
    have B316 := B270.all k307 Apart.none
    have B317 := B262.all k307 Apart.none
    have B318 := B271.all k307 Apart.none
    have B319 := B272.all k307 id
    have K320 := K273.trans k307 (fun _ _ x => x.elim)
    have s321 : F305 28 = undef := (hF309 28).trans s298
    have s322 : F305 1 = .pointer (some ⟨p1, 0, none⟩) := (hF309 1).trans s299
    have s323 : F305 2 = .pointer (some ⟨p14, 0, none⟩) := (hF309 2).trans s300
    have s324 : F305 3 = .pointer (some ⟨p102, 0, none⟩) := (hF309 3).trans s301
    have s325 : F305 14 = .int .i64 (((2 : Nat) : Int)) := (hF309 14).trans s302
    have s326 : F305 20 = v63 := (hF309 20).trans (G308 3 (by decide))
    have s327 : F305 24 = f2 := (hF309 24).trans (G308 7 (by decide))
    clear G308 hF309
    refine wl_copyB rfl rfl rfl rfl s326 s327 B318 B313 (by first | exact hnl.1 | exact hnl.2.1 | exact hnl.2.2) fun w329 B331 k330 => ?_
    have B334 := B311.all k330 (fun i h x => (((ap97).symm) i h x))
    have B335 := B312.all k330 (fun i h x => (((ap98).symm) i h x))
    have B336 := B313.all k330 (fun i h x => (((ap99).symm) i h x))
    have B337 := B314.all k330 (fun x => (((ap100).symm) p1 rfl x))
    have B338 := B315.all k330 (fun x => (((ap101).symm) p14 rfl x))
    have B339 := B316.all k330 (fun i h x => ((ap76) i h x))
    have B340 := B317.all k330 (fun i h x => ((ap77) i h x))
    have B341 := B319.all k330 (fun x => ((ap115) p102 rfl x))
    have K342 := K320.trans k330 (Grew.ok (S := fun _ => False) gr96 noB_le)
    refine wl_nil fun F343 hF344 => ?_
    have s345 : F343 28 = undef := (hF344 28).trans s321
    have s346 : F343 1 = .pointer (some ⟨p1, 0, none⟩) := (hF344 1).trans s322
    have s347 : F343 2 = .pointer (some ⟨p14, 0, none⟩) := (hF344 2).trans s323
    have s348 : F343 3 = .pointer (some ⟨p102, 0, none⟩) := (hF344 3).trans s324
    have s349 : F343 14 = .int .i64 (((2 : Nat) : Int)) := (hF344 14).trans s325
    clear hF344
    refine in_normal ?_
    refine then_normal ?_
    refine wq_region ?_
    refine wl_v (.int .i64 (((3 : Nat) : Int))) rfl rfl (y_add rfl s349 rfl (i64_n (by omega) (by omega)) ⟨rfl, rfl⟩) ?_
    refine wl_v (.int .i64 (((3 : Nat) : Int))) rfl rfl (y_mov rfl rfl ⟨rfl, rfl⟩) ?_
    refine wl_nil fun F350 hF351 => ?_
    have s352 : F350 28 = undef := (hF351 28).trans s345
    have s353 : F350 1 = .pointer (some ⟨p1, 0, none⟩) := (hF351 1).trans s346
    have s354 : F350 2 = .pointer (some ⟨p14, 0, none⟩) := (hF351 2).trans s347
    have s355 : F350 3 = .pointer (some ⟨p102, 0, none⟩) := (hF351 3).trans s348
    have s356 : F350 14 = .int .i64 (((3 : Nat) : Int)) := (hF351 14).trans rfl
    clear hF351
    refine then_normal ?_
    refine wqr_step ?_
    refine wq_seq ?_
    refine wq_region ?_
    refine wl_v (.bool false) rfl rfl (y_lss rfl s356 rfl rfl ⟨rfl, rfl⟩) ?_
    refine wl_nil fun F357 hF358 => ?_
    have s359 : F357 28 = undef := (hF358 28).trans s352
    have s360 : F357 1 = .pointer (some ⟨p1, 0, none⟩) := (hF358 1).trans s353
    have s361 : F357 2 = .pointer (some ⟨p14, 0, none⟩) := (hF358 2).trans s354
    have s362 : F357 3 = .pointer (some ⟨p102, 0, none⟩) := (hF358 3).trans s355
    have s363 : F357 14 = .int .i64 (((3 : Nat) : Int)) := (hF358 14).trans s356
    have s364 : F357 15 = .bool false := (hF358 15).trans rfl
    clear hF358
    refine then_normal ?_
    refine wq_seq ?_
    refine wq_cond (t := false) s364 (fun e => by cases e) (fun _ => ?_)
    refine wq_exit ?_
    refine then_exit ?_
    refine then_exit ?_
    refine in_here ?_
    refine then_normal ?_
    refine wq_seq ?_
    refine wq_region ?_
    refine wl_v (.agg #[.int .i64 ((newF ((f).W) ((f).H) 0).W), .int .i64 ((newF ((f).W) ((f).H) 0).H), v61, v62, v63]) rfl rfl (y_load_stc stcT_frame rfl s362 B341 ⟨rfl, rfl⟩) ?_
    refine wl_store_stc (us := [.int .i64 ((newF ((f).W) ((f).H) 0).W), .int .i64 ((newF ((f).W) ((f).H) 0).H), v61, v62, v63]) stcT_frame rfl rfl rfl s361 rfl B338 rfl (oneI rfl (oneI rfl (oneI (B339).one (oneI (B340).one (oneI (B331).one oneN))))) fun w365 B366 k367 => ?_
    have B368 := B334.all k367 (fun i h x => (((ap20).symm) i h x))
    have B369 := B335.all k367 (fun i h x => (((ap21).symm) i h x))
    have B370 := B336.all k367 (fun i h x => (((ap22).symm) i h x))
    have B371 := B337.all k367 (fun x => (((ap23).symm) p1 rfl x))
    have B372 := B339.all k367 (fun i h x => ((ap89) i h x))
    have B373 := B340.all k367 (fun i h x => ((ap95) i h x))
    have B374 := B331.all k367 (fun i h x => ((ap101) i h x))
    have B375 := B341.all k367 (fun x => ((ap112) p102 rfl x))
    have K376 := K342.trans k367 (Grew.ok (S := fun _ => False) gr19 noB_le)
    refine wl_nil fun F377 hF378 => ?_
    have s379 : F377 28 = undef := (hF378 28).trans s359
    have s380 : F377 2 = .pointer (some ⟨p14, 0, none⟩) := (hF378 2).trans s361
    clear hF378
    refine then_normal ?_
    refine wq_ret ?_
    exact end_stc (vs := [.int .i64 ((newF ((f).W) ((f).H) 0).W), .int .i64 ((newF ((f).W) ((f).H) 0).H), v61, v62, v63]) stcT_frame s379 rfl rfl s380 B366 ⟨v61, T66, v62, T67, v63, T68, (by first | rw [copyF_yes hok, (new_side 0 hok.1 hok.2.1).1, (new_side 0 hok.1 hok.2.1).2] | rw [copyF_no hno]; rfl), K376, ⟨(by first | (rw [copyF_yes hok]; exact B372) | (rw [copyF_no hno]; exact B372)), gr84⟩, ⟨(by first | (rw [copyF_yes hok]; exact B373) | (rw [copyF_no hno]; exact B373)), gr90⟩, ⟨(by first | (rw [copyF_yes hok]; exact B374) | (rw [copyF_no hno]; exact B374)), gr96⟩, ap75, ap76, ap77⟩

end Go.Proofs.Ytceoidglhakanaa
namespace Go.Proofs.Ytceoidglhakanaa

theorem atF_le {f : FD} (hb : Bytes3 f) (p x y : Int) : 0 ≤ atF f p x y ∧ atF f p x y ≤ 255 := by
  by_cases h : (sizeF f p).1 = 0
  · rw [atF_none x y h]; omega
  · rw [atF_some x y h]
    have h3 := size_cases h
    have : (f.pl p).getD (cellF f p x y).toNat 0 < 256 := by
      rcases h3 with rfl | rfl | rfl
      · exact getD_lt hb.b0 _
      · exact getD_lt hb.b1 _
      · exact getD_lt hb.b2 _
    omega
def placeF (f : FD) (p x y : Int) : Prop := okF f ∧ 0 ≤ p ∧ p ≤ 2 ∧ 0 ≤ x ∧ x ≤ 64 ∧ 0 ≤ y ∧ y ≤ 64
instance (f : FD) (p x y : Int) : Decidable (placeF f p x y) := by unfold placeF; infer_instance
def costTo (a b : Nat → Int) : Nat → Int
  | 0 => 0
  | k + 1 => costTo a b k + max (cl 1048576 (a k) - cl 1048576 (b k)) (-(cl 1048576 (a k) - cl 1048576 (b k)))
def costF (a b : Nat → Int) : Int := costTo a b 16
theorem cl_20 (n : Int) : -1048576 ≤ cl 1048576 n ∧ cl 1048576 n ≤ 1048576 := by unfold cl; omega
theorem costTo_le (a b : Nat → Int) (k : Nat) : 0 ≤ costTo a b k ∧ costTo a b k ≤ 2097152 * k := by
  induction k with
  | zero => simp [costTo]
  | succ k ih =>
    have h1 := cl_20 (a k); have h2 := cl_20 (b k)
    rw [costTo]; omega
end Go.Proofs.Ytceoidglhakanaa
namespace Go.Proofs.Ytceoidglhakanaa
open Go.RowKit

/-- A function that is asked with a number below n, in whatever world in which nothing that was there has changed. -/
def Ask1 (w : World) (n : Nat) (v : Value) (g : Nat → Int) : Prop :=
  ∃ (f : FuncId) (cs : List Value), v = .func (.func f) #[] cs.toArray ∧ (∀ args w, (callFunc f args).run Try.prog w = .ok (.enter f args) w) ∧
    ∀ w', Kept (fun _ => False) w w' → ∀ k : Nat, k < n → Calls Try.prog f (.int .i64 (k : Int) :: cs).toArray w' fun e w'' => e = .returned (.int .i64 (g k)) ∧ Kept (fun _ => False) w' w''
theorem Ask1.all {w w' : World} {n : Nat} {v : Value} {g : Nat → Int} (h : Ask1 w n v g) (k : Kept (fun _ => False) w w') : Ask1 w' n v g := by
  obtain ⟨f, cs, e, hf, h⟩ := h
  exact ⟨f, cs, e, hf, fun w2 k2 => h w2 (k.trans k2 (fun _ _ x => x))⟩
/-- .. with two. -/
def Ask2 (w : World) (n : Nat) (v : Value) (g : Nat → Nat → Int) : Prop :=
  ∃ (f : FuncId) (cs : List Value), v = .func (.func f) #[] cs.toArray ∧ (∀ args w, (callFunc f args).run Try.prog w = .ok (.enter f args) w) ∧
    ∀ w', Kept (fun _ => False) w w' → ∀ i k : Nat, i < n → k < n → Calls Try.prog f (.int .i64 (i : Int) :: .int .i64 (k : Int) :: cs).toArray w' fun e w'' => e = .returned (.int .i64 (g i k)) ∧ Kept (fun _ => False) w' w''
theorem Ask2.all {w w' : World} {n : Nat} {v : Value} {g : Nat → Nat → Int} (h : Ask2 w n v g) (k : Kept (fun _ => False) w w') : Ask2 w' n v g := by
  obtain ⟨f, cs, e, hf, h⟩ := h
  exact ⟨f, cs, e, hf, fun w2 k2 => h w2 (k.trans k2 (fun _ _ x => x))⟩
section
variable {ρ : Operand → Value} {o : Oper} {w : World} {R : Value → World → Prop}
theorem y_fnc {P : Program} {f : FuncId} {xs : List Operand} {vs : List Value} (ho : o.op = .makeFunc (.func f) #[] xs.toArray) (hx : xs.map ρ = vs) (h : R (.func (.func f) #[] vs.toArray) w) : Yields P ρ o w R := by
  subst hx
  exact y_of (v := .func (.func f) #[] (xs.map ρ).toArray) (w' := w) (by simp [execOp, ho, show ∀ cap, (Instr.makeFunc (.func f) #[] cap).run P w = .ok (.func (.func f) #[] cap) w from fun _ => rfl]) h
theorem y_alloc_cel {P : Program} {t : TypeId} {v : Value} (ho : o.op = .alloc t) (hi : (P.info? t).map (fun i => (i.zero, i.size)) = some (some v, 1)) (hv : oneC v = true) (h : R (.pointer (some ⟨w.heap.size, 0, none⟩)) (w.alloc (.cells #[v] t))) : Yields P ρ o w R :=
  y_of (v := .pointer (some ⟨w.heap.size, 0, none⟩)) (w' := w.alloc (.cells #[v] t)) (by simp [execOp, ho, (zero_of_info hi).1, go_sem]; cases v <;> first | rfl | (simp [oneC] at hv; done)) h
end
end Go.Proofs.Ytceoidglhakanaa
namespace Go.Proofs.Ytceoidglhakanaa
open Go.RowKit

theorem retB {a b : Bool} (h : a = b) : Ending.returned (.bool a) = .returned (.bool b) := by rw [h]
theorem Arr.first {w : World} {p n : Nat} {t : TypeId} {b c : Nat → Int} (h : Arr w p t n b) : Arr w p t n (upto 0 b c) := by rw [upto_zero]; exact h
theorem Arr.next {w : World} {p n : Nat} {t : TypeId} {b c : Nat → Int} {k : Nat} {x : Int} (h : Arr w p t n (upd (upto k b c) k x)) (e : x = c k) : Arr w p t n (upto (k + 1) b c) := by rw [← upto_set, ← e]; exact h
theorem Arr.last {w : World} {p n : Nat} {t : TypeId} {b c : Nat → Int} (h : Arr w p t n (upto n b c)) : Arr w p t n c := h.congr (fun i hi => by simp [upto, hi])

set_option maxHeartbeats 4000000 in
set_option maxRecDepth 100000 in
theorem is_clamped (n : Int) (w0 : World) :
    Calls Try.prog 40 #[.int .i64 (n)] w0 fun e w' => e = .returned (.int .i64 (cl 1048576 n)) ∧ Kept (fun _ => False) w0 w' := by
  refine calls_wq (args := [.int .i64 (n)]) 6 Try.func40 rfl rfl (Nat.le_of_ble_eq_true rfl) ?_
  have K0 := Kept.refl (fun _ => False) w0
  refine wq_seq ?_
  refine wq_region ?_
  refine wl_v (.int .i64 (0)) rfl rfl (y_asg rfl rfl ⟨rfl, rfl⟩) ?_
  refine wl_nil fun F1 hF2 => ?_
  have s3 : F1 0 = .int .i64 (n) := (hF2 0).trans rfl
  have s4 : F1 6 = undef := (hF2 6).trans rfl
  clear hF2
  refine then_normal ?_
  refine wq_seq ?_
  refine wq_region ?_
  refine wl_v (.int .i64 (n)) rfl rfl (y_mov rfl s3 ⟨rfl, rfl⟩) ?_
  refine wl_v (.int .i64 (min (n) (1048576))) rfl rfl (y_minR rfl rfl rfl rfl ⟨rfl, rfl⟩) ?_
  refine wl_v (.int .i64 (cl 1048576 n)) rfl rfl (y_maxR rfl rfl rfl (by unfold cl; omega) ⟨rfl, rfl⟩) ?_
  refine wl_v (.int .i64 (cl 1048576 n)) rfl rfl (y_asg rfl rfl ⟨rfl, rfl⟩) ?_
  refine wl_nil fun F5 hF6 => ?_
  have s7 : F5 6 = undef := (hF6 6).trans s4
  have s8 : F5 2 = .int .i64 (cl 1048576 n) := (hF6 2).trans rfl
  clear hF6
  refine then_normal ?_
  refine wq_ret ?_
  exact end_tmp (v := .int .i64 (cl 1048576 n)) s7 rfl rfl s8 ⟨rfl, K0⟩

/-- Four functions, one a mode. -/
def Fns (w : World) (v : Value) (g : Nat → Nat → Nat → Int) : Prop := ∃ c : Nat → Value, v = .agg #[c 0, c 1, c 2, c 3] ∧ ∀ m, m < 4 → Ask2 w 4 (c m) (g m)
theorem Fns.all {w w' : World} {v : Value} {g : Nat → Nat → Nat → Int} (h : Fns w v g) (k : Kept (fun _ => False) w w') : Fns w' v g := by
  obtain ⟨c, e, h⟩ := h; exact ⟨c, e, fun m hm => (h m hm).all k⟩
set_option maxHeartbeats 4000000 in
set_option maxRecDepth 100000 in
theorem il_cost (a b : Nat → Int) (w0 : World) :
    Calls Try.prog 23 #[blkV (a), blkV (b)] w0 fun e w' => e = .returned (.int .i64 (costF a b)) ∧ Kept (fun _ => False) w0 w' := by
  refine calls_wq (args := [blkV (a), blkV (b)]) 31 Try.func23 rfl rfl (Nat.le_of_ble_eq_true rfl) ?_
  have K0 := Kept.refl (fun _ => False) w0
  refine wq_seq ?_
  refine wq_region ?_
  refine wl_box_blk rfl rfl rfl rfl fun p1 w2 e5 B3 k4 => ?_
  have g6 := onB_new (Nat.le_of_eq e5.symm)
  have gr7 : Grew w0 noB (onB p1) := Grew.new K0 g6
  clear e5 g6
  have K8 := K0.trans k4 (fun _ _ x => x.elim)
  refine wl_box_blk rfl rfl rfl rfl fun p9 w10 e13 B11 k12 => ?_
  have g14 := onB_new (Nat.le_of_eq e13.symm)
  have gr15 : Grew w0 noB (onB p9) := Grew.new K8 g14
  have ap16 : Apart (onB p9) (onB p1) := Apart.new g14 (onB_live (B3).lt)
  clear e13 g14
  have B17 := B3.all k12 id
  have K18 := K8.trans k12 (fun _ _ x => x.elim)
  refine wl_v (.int .i64 (0)) rfl rfl (y_asg rfl rfl ⟨rfl, rfl⟩) ?_
  refine wl_nil fun F19 hF20 => ?_
  have s21 : F19 31 = undef := (hF20 31).trans rfl
  have s22 : F19 2 = .pointer (some ⟨p1, 0, none⟩) := (hF20 2).trans rfl
  have s23 : F19 3 = .pointer (some ⟨p9, 0, none⟩) := (hF20 3).trans rfl
  clear hF20
  refine then_normal ?_
  refine wq_seq ?_
  refine wq_region ?_
  refine wl_v (.int .i64 (0)) rfl rfl (y_asg rfl rfl ⟨rfl, rfl⟩) ?_
  refine wl_nil fun F24 hF25 => ?_
  have s26 : F24 31 = undef := (hF25 31).trans s21
  have s27 : F24 2 = .pointer (some ⟨p1, 0, none⟩) := (hF25 2).trans s22
  have s28 : F24 3 = .pointer (some ⟨p9, 0, none⟩) := (hF25 3).trans s23
  have s29 : F24 5 = .int .i64 (0) := (hF25 5).trans rfl
  clear hF25
  refine then_normal ?_
  refine wq_seq ?_
  refine wq_seq ?_
  refine wq_region ?_
  refine wl_v (.int .i64 (0)) rfl rfl (y_mov rfl rfl ⟨rfl, rfl⟩) ?_
  refine wl_nil fun F30 hF31 => ?_
  have s32 : F30 31 = undef := (hF31 31).trans s26
  have s33 : F30 2 = .pointer (some ⟨p1, 0, none⟩) := (hF31 2).trans s27
  have s34 : F30 3 = .pointer (some ⟨p9, 0, none⟩) := (hF31 3).trans s28
  have s35 : F30 5 = .int .i64 (0) := (hF31 5).trans s29
  have s36 : F30 9 = .int .i64 (0) := (hF31 9).trans rfl
  clear hF31
  refine then_normal ?_
  refine wq_block ?_
  refine wq_loop (fun nn FF ww => ∃ (i : Nat), (i ≤ 16) ∧ nn = 16 - i ∧ FF 2 = .pointer (some ⟨p1, 0, none⟩) ∧ FF 3 = .pointer (some ⟨p9, 0, none⟩) ∧ FF 31 = undef ∧ FF 5 = .int .i64 (costTo a b i) ∧ FF 9 = .int .i64 (((i : Nat) : Int)) ∧ Kept (fun _ => False) w0 ww ∧ Blk ww p1 31 (a) ∧ Blk ww p9 31 (b)) (16 - (0)) ⟨0, by omega, rfl, s33, s34, s32, s35, s36, K18, B17, B11⟩ ?_
  rintro n40 F37 w38 ⟨i, i41, hn40, s42, s43, s44, s45, s46, K39, B47, B48⟩
  refine wq_seq ?_
  refine wq_region ?_
  refine wl_v (.bool (decide ((((i : Nat) : Int)) < (16)))) rfl rfl (y_lss rfl s46 rfl rfl ⟨rfl, rfl⟩) ?_
  refine wl_nil fun F49 hF50 => ?_
  have s51 : F49 2 = .pointer (some ⟨p1, 0, none⟩) := (hF50 2).trans s42
  have s52 : F49 3 = .pointer (some ⟨p9, 0, none⟩) := (hF50 3).trans s43
  have s53 : F49 31 = undef := (hF50 31).trans s44
  have s54 : F49 5 = .int .i64 (costTo a b i) := (hF50 5).trans s45
  have s55 : F49 9 = .int .i64 (((i : Nat) : Int)) := (hF50 9).trans s46
  have s56 : F49 10 = .bool (decide ((((i : Nat) : Int)) < (16))) := (hF50 10).trans rfl
  clear hF50
  refine then_normal ?_
  refine wq_seq ?_
  refine wq_cond s56 (fun c57 => ?_) (fun c57 => ?_)
  · replace c57 := of_decide_eq_true c57
    refine wq_skip ?_
    refine then_normal ?_
    refine wq_seq ?_
    refine wq_block ?_
    refine wq_seq ?_
    refine wq_region ?_
    refine wl_v (.int .i64 (((i : Nat) : Int))) rfl rfl (y_mov rfl s55 ⟨rfl, rfl⟩) ?_
    refine wl_v (.int .i64 (((i : Nat) : Int))) rfl rfl (y_asg rfl rfl ⟨rfl, rfl⟩) ?_
    refine wl_nil fun F58 hF59 => ?_
    have s60 : F58 2 = .pointer (some ⟨p1, 0, none⟩) := (hF59 2).trans s51
    have s61 : F58 3 = .pointer (some ⟨p9, 0, none⟩) := (hF59 3).trans s52
    have s62 : F58 31 = undef := (hF59 31).trans s53
    have s63 : F58 5 = .int .i64 (costTo a b i) := (hF59 5).trans s54
    have s64 : F58 9 = .int .i64 (((i : Nat) : Int)) := (hF59 9).trans s55
    have s65 : F58 6 = .int .i64 (((i : Nat) : Int)) := (hF59 6).trans rfl
    clear hF59
    refine then_normal ?_
    refine wq_seq ?_
    refine wq_said [some 12, some 13, some 14, some 15, some 16, some 17, some 18, some 19, some 7, some 8] [Pd.eq (.int .i64 (((i : Nat) : Int))), Pd.eq (.pointer (some ⟨p1, i, none⟩)), Pd.eq (.int .i64 ((a) (i))), Pd.eq (.int .i64 (cl 1048576 ((a) (i)))), Pd.eq (.int .i64 (((i : Nat) : Int))), Pd.eq (.pointer (some ⟨p9, i, none⟩)), Pd.eq (.int .i64 ((b) (i))), Pd.eq (.int .i64 (cl 1048576 ((b) (i)))), Pd.eq (.int .i64 (cl 1048576 ((a) (i)))), Pd.eq (.int .i64 (cl 1048576 ((b) (i))))] (by kernel_rfl) (by kernel_rfl) ?_ ?_
    · refine stepsF_cons ?_ ?_
      · refine StepF.one rfl fun F_ w_ hR hout hD => ?_
        exact (y_mov rfl ((hout 6 rfl (by decide)).trans s65) ⟨rfl, Kept.refl _ _⟩)
      refine stepsF_cons ?_ ?_
      · refine StepF.one rfl fun F_ w_ hR hout hD => ?_
        have g12 : F_ 12 = .int .i64 (((i : Nat) : Int)) := hD.get 0 rfl rfl rfl
        exact (y_atR (i) (s := 1) rfl ((hout 2 rfl (by decide)).trans s60) g12 (by omega) Try.underlying31 (by omega) (by kernel_rfl) (by omega) ⟨rfl, Kept.refl _ _⟩)
      refine stepsF_cons ?_ ?_
      · refine StepF.one rfl fun F_ w_ hR hout hD => ?_
        have g13 : F_ 13 = .pointer (some ⟨p1, i, none⟩) := hD.get 0 rfl rfl rfl
        exact (y_ldR rfl g13 Try.underlying3 (((B47.all hR id)).cell (by omega)) ⟨rfl, Kept.refl _ _⟩)
      refine stepsF_cons ?_ ?_
      · refine StepF.one rfl fun F_ w_ hR hout hD => ?_
        have g14 : F_ 14 = .int .i64 ((a) (i)) := hD.get 0 rfl rfl rfl
        exact (y_cs rfl rfl rfl (fun _ _ => by kernel_rfl) (ev_func _) (vsC g14 vsN) (is_clamped ((a) (i))  _   ) (fun e_ w_ h_ => ⟨_, h_.1, rfl, h_.2⟩))
      refine stepsF_cons ?_ ?_
      · refine StepF.one rfl fun F_ w_ hR hout hD => ?_
        exact (y_mov rfl ((hout 6 rfl (by decide)).trans s65) ⟨rfl, Kept.refl _ _⟩)
      refine stepsF_cons ?_ ?_
      · refine StepF.one rfl fun F_ w_ hR hout hD => ?_
        have g16 : F_ 16 = .int .i64 (((i : Nat) : Int)) := hD.get 0 rfl rfl rfl
        exact (y_atR (i) (s := 1) rfl ((hout 3 rfl (by decide)).trans s61) g16 (by omega) Try.underlying31 (by omega) (by kernel_rfl) (by omega) ⟨rfl, Kept.refl _ _⟩)
      refine stepsF_cons ?_ ?_
      · refine StepF.one rfl fun F_ w_ hR hout hD => ?_
        have g17 : F_ 17 = .pointer (some ⟨p9, i, none⟩) := hD.get 0 rfl rfl rfl
        exact (y_ldR rfl g17 Try.underlying3 (((B48.all hR id)).cell (by omega)) ⟨rfl, Kept.refl _ _⟩)
      refine stepsF_cons ?_ ?_
      · refine StepF.one rfl fun F_ w_ hR hout hD => ?_
        have g18 : F_ 18 = .int .i64 ((b) (i)) := hD.get 0 rfl rfl rfl
        exact (y_cs rfl rfl rfl (fun _ _ => by kernel_rfl) (ev_func _) (vsC g18 vsN) (is_clamped ((b) (i))  _   ) (fun e_ w_ h_ => ⟨_, h_.1, rfl, h_.2⟩))
      refine stepsF_cons ?_ ?_
      · refine StepF.one rfl fun F_ w_ hR hout hD => ?_
        have g15 : F_ 15 = .int .i64 (cl 1048576 ((a) (i))) := hD.get 0 rfl rfl rfl
        exact (y_asg rfl g15 ⟨rfl, Kept.refl _ _⟩)
      refine stepsF_cons ?_ ?_
      · refine StepF.one rfl fun F_ w_ hR hout hD => ?_
        have g19 : F_ 19 = .int .i64 (cl 1048576 ((b) (i))) := hD.get 0 rfl rfl rfl
        exact (y_asg rfl g19 ⟨rfl, Kept.refl _ _⟩)
      exact stepsF_nil
    intro v66 F67 w68 k69 G70 hF71
    have B73 := B47.all k69 id
    have B74 := B48.all k69 id
    have K75 := K39.trans k69 (fun _ _ x => x.elim)
    have s76 : F67 2 = .pointer (some ⟨p1, 0, none⟩) := (hF71 2).trans s60
    have s77 : F67 3 = .pointer (some ⟨p9, 0, none⟩) := (hF71 3).trans s61
    have s78 : F67 31 = undef := (hF71 31).trans s62
    have s79 : F67 5 = .int .i64 (costTo a b i) := (hF71 5).trans s63
    have s80 : F67 9 = .int .i64 (((i : Nat) : Int)) := (hF71 9).trans s64
    have s81 : F67 7 = .int .i64 (cl 1048576 ((a) (i))) := (hF71 7).trans (G70 8 (by decide))
    have s82 : F67 8 = .int .i64 (cl 1048576 ((b) (i))) := (hF71 8).trans (G70 9 (by decide))
    clear G70 hF71
    refine then_normal ?_
    have hc := costTo_le a b i
    have h1 := cl_20 (a i)
    have h2 := cl_20 (b i)
    refine wq_region ?_
    refine wl_v (.int .i64 (costTo a b i)) rfl rfl (y_mov rfl s79 ⟨rfl, rfl⟩) ?_
    refine wl_v (.int .i64 (cl 1048576 ((a) (i)))) rfl rfl (y_mov rfl s81 ⟨rfl, rfl⟩) ?_
    refine wl_v (.int .i64 (cl 1048576 ((b) (i)))) rfl rfl (y_mov rfl s82 ⟨rfl, rfl⟩) ?_
    refine wl_v (.int .i64 (max (cl 1048576 ((a) (i))) (cl 1048576 ((b) (i))))) rfl rfl (y_maxR rfl rfl rfl rfl ⟨rfl, rfl⟩) ?_
    refine wl_v (.int .i64 (cl 1048576 ((a) (i)))) rfl rfl (y_mov rfl s81 ⟨rfl, rfl⟩) ?_
    refine wl_v (.int .i64 (cl 1048576 ((b) (i)))) rfl rfl (y_mov rfl s82 ⟨rfl, rfl⟩) ?_
    refine wl_v (.int .i64 (min (cl 1048576 ((a) (i))) (cl 1048576 ((b) (i))))) rfl rfl (y_minR rfl rfl rfl rfl ⟨rfl, rfl⟩) ?_
    refine wl_v (.int .i64 (max (cl 1048576 (a i) - cl 1048576 (b i)) (-(cl 1048576 (a i) - cl 1048576 (b i))))) rfl rfl (y_sub rfl rfl rfl (i64_i (by omega) (by omega)) ⟨rfl, rfl⟩) ?_
    refine wl_v (.int .i64 ((costTo a b i) + (max (cl 1048576 (a i) - cl 1048576 (b i)) (-(cl 1048576 (a i) - cl 1048576 (b i)))))) rfl rfl (y_add rfl rfl rfl (i64_i rfl (by omega)) ⟨rfl, rfl⟩) ?_
    refine wl_v (.int .i64 ((costTo a b i) + (max (cl 1048576 (a i) - cl 1048576 (b i)) (-(cl 1048576 (a i) - cl 1048576 (b i)))))) rfl rfl (y_asg rfl rfl ⟨rfl, rfl⟩) ?_
    refine wl_nil fun F83 hF84 => ?_
    have s85 : F83 2 = .pointer (some ⟨p1, 0, none⟩) := (hF84 2).trans s76
    have s86 : F83 3 = .pointer (some ⟨p9, 0, none⟩) := (hF84 3).trans s77
    have s87 : F83 31 = undef := (hF84 31).trans s78
    have s88 : F83 9 = .int .i64 (((i : Nat) : Int)) := (hF84 9).trans s80
    have s89 : F83 5 = .int .i64 ((costTo a b i) + (max (cl 1048576 (a i) - cl 1048576 (b i)) (-(cl 1048576 (a i) - cl 1048576 (b i))))) := (hF84 5).trans rfl
    clear hF84
    refine in_normal ?_
    refine then_normal ?_
    refine wq_region ?_
    refine wl_v (.int .i64 (((i + 1 : Nat) : Int))) rfl rfl (y_add rfl s88 rfl (i64_n (by omega) (by omega)) ⟨rfl, rfl⟩) ?_
    refine wl_v (.int .i64 (((i + 1 : Nat) : Int))) rfl rfl (y_mov rfl rfl ⟨rfl, rfl⟩) ?_
    refine wl_nil fun F90 hF91 => ?_
    have s92 : F90 2 = .pointer (some ⟨p1, 0, none⟩) := (hF91 2).trans s85
    have s93 : F90 3 = .pointer (some ⟨p9, 0, none⟩) := (hF91 3).trans s86
    have s94 : F90 31 = undef := (hF91 31).trans s87
    have s95 : F90 5 = .int .i64 ((costTo a b i) + (max (cl 1048576 (a i) - cl 1048576 (b i)) (-(cl 1048576 (a i) - cl 1048576 (b i))))) := (hF91 5).trans s89
    have s96 : F90 9 = .int .i64 (((i + 1 : Nat) : Int)) := (hF91 9).trans rfl
    clear hF91
    exact then_normal ⟨(16 - (i + 1)), by omega, i + 1, by omega, rfl, s92, s93, s94, s95, s96, K75, B73, B74⟩
  · replace c57 := of_decide_eq_false c57
    refine wq_exit ?_
    refine then_exit ?_
    refine then_exit ?_
    have l97 : 16 = i := by omega
    subst l97
    refine in_here ?_
    refine then_normal ?_
    refine wq_seq ?_
    refine wq_region ?_
    refine wl_v (.int .i64 (costTo a b 16)) rfl rfl (y_mov rfl s54 ⟨rfl, rfl⟩) ?_
    refine wl_v (.int .i64 (costTo a b 16)) rfl rfl (y_asg rfl rfl ⟨rfl, rfl⟩) ?_
    refine wl_nil fun F98 hF99 => ?_
    have s100 : F98 31 = undef := (hF99 31).trans s53
    have s101 : F98 4 = .int .i64 (costTo a b 16) := (hF99 4).trans rfl
    clear hF99
    refine then_normal ?_
    refine wq_ret ?_
    exact end_tmp (v := .int .i64 (costTo a b 16)) s100 rfl rfl s101 ⟨rfl, K39⟩
end Go.Proofs.Ytceoidglhakanaa
namespace Go.Proofs.Ytceoidglhakanaa
open Go.RowKit

set_option maxHeartbeats 4000000 in
set_option maxRecDepth 100000 in
theorem iref_cost (a b : Nat → Int) (w0 : World) :
    Calls Try.prog 36 #[blkV (a), blkV (b)] w0 fun e w' => e = .returned (.int .i64 (costF a b)) ∧ Kept (fun _ => False) w0 w' := by
  refine calls_wq (args := [blkV (a), blkV (b)]) 30 Try.func36 rfl rfl (Nat.le_of_ble_eq_true rfl) ?_
  have K0 := Kept.refl (fun _ => False) w0
  refine wq_seq ?_
  refine wq_region ?_
  refine wl_box_blk rfl rfl rfl rfl fun p1 w2 e5 B3 k4 => ?_
  have g6 := onB_new (Nat.le_of_eq e5.symm)
  have gr7 : Grew w0 noB (onB p1) := Grew.new K0 g6
  clear e5 g6
  have K8 := K0.trans k4 (fun _ _ x => x.elim)
  refine wl_box_blk rfl rfl rfl rfl fun p9 w10 e13 B11 k12 => ?_
  have g14 := onB_new (Nat.le_of_eq e13.symm)
  have gr15 : Grew w0 noB (onB p9) := Grew.new K8 g14
  have ap16 : Apart (onB p9) (onB p1) := Apart.new g14 (onB_live (B3).lt)
  clear e13 g14
  have B17 := B3.all k12 id
  have K18 := K8.trans k12 (fun _ _ x => x.elim)
  refine wl_v (.int .i64 (0)) rfl rfl (y_asg rfl rfl ⟨rfl, rfl⟩) ?_
  refine wl_nil fun F19 hF20 => ?_
  have s21 : F19 30 = undef := (hF20 30).trans rfl
  have s22 : F19 2 = .pointer (some ⟨p1, 0, none⟩) := (hF20 2).trans rfl
  have s23 : F19 3 = .pointer (some ⟨p9, 0, none⟩) := (hF20 3).trans rfl
  clear hF20
  refine then_normal ?_
  refine wq_seq ?_
  refine wq_region ?_
  refine wl_v (.int .i64 (0)) rfl rfl (y_asg rfl rfl ⟨rfl, rfl⟩) ?_
  refine wl_nil fun F24 hF25 => ?_
  have s26 : F24 30 = undef := (hF25 30).trans s21
  have s27 : F24 2 = .pointer (some ⟨p1, 0, none⟩) := (hF25 2).trans s22
  have s28 : F24 3 = .pointer (some ⟨p9, 0, none⟩) := (hF25 3).trans s23
  have s29 : F24 5 = .int .i64 (0) := (hF25 5).trans rfl
  clear hF25
  refine then_normal ?_
  refine wq_seq ?_
  refine wq_seq ?_
  refine wq_region ?_
  refine wl_v (.int .i64 (0)) rfl rfl (y_asg rfl rfl ⟨rfl, rfl⟩) ?_
  refine wl_nil fun F30 hF31 => ?_
  have s32 : F30 30 = undef := (hF31 30).trans s26
  have s33 : F30 2 = .pointer (some ⟨p1, 0, none⟩) := (hF31 2).trans s27
  have s34 : F30 3 = .pointer (some ⟨p9, 0, none⟩) := (hF31 3).trans s28
  have s35 : F30 5 = .int .i64 (0) := (hF31 5).trans s29
  have s36 : F30 6 = .int .i64 (0) := (hF31 6).trans rfl
  clear hF31
  refine then_normal ?_
  refine wq_block ?_
  refine wq_loop (fun nn FF ww => ∃ (i : Nat), (i ≤ 16) ∧ nn = 16 - i ∧ FF 2 = .pointer (some ⟨p1, 0, none⟩) ∧ FF 3 = .pointer (some ⟨p9, 0, none⟩) ∧ FF 30 = undef ∧ FF 5 = .int .i64 (costTo a b i) ∧ FF 6 = .int .i64 (((i : Nat) : Int)) ∧ Kept (fun _ => False) w0 ww ∧ Blk ww p1 28 (a) ∧ Blk ww p9 28 (b)) (16 - (0)) ⟨0, by omega, rfl, s33, s34, s32, s35, s36, K18, B17, B11⟩ ?_
  rintro n40 F37 w38 ⟨i, i41, hn40, s42, s43, s44, s45, s46, K39, B47, B48⟩
  refine wq_seq ?_
  refine wq_seq ?_
  refine wq_region ?_
  refine wl_v (.int .i64 (((i : Nat) : Int))) rfl rfl (y_mov rfl s46 ⟨rfl, rfl⟩) ?_
  refine wl_v (.bool (decide ((((i : Nat) : Int)) < (16)))) rfl rfl (y_lss rfl rfl rfl rfl ⟨rfl, rfl⟩) ?_
  refine wl_nil fun F49 hF50 => ?_
  have s51 : F49 2 = .pointer (some ⟨p1, 0, none⟩) := (hF50 2).trans s42
  have s52 : F49 3 = .pointer (some ⟨p9, 0, none⟩) := (hF50 3).trans s43
  have s53 : F49 30 = undef := (hF50 30).trans s44
  have s54 : F49 5 = .int .i64 (costTo a b i) := (hF50 5).trans s45
  have s55 : F49 6 = .int .i64 (((i : Nat) : Int)) := (hF50 6).trans s46
  have s56 : F49 9 = .bool (decide ((((i : Nat) : Int)) < (16))) := (hF50 9).trans rfl
  clear hF50
  refine then_normal ?_
  refine wq_cond s56 (fun c57 => ?_) (fun c57 => ?_)
  · replace c57 := of_decide_eq_true c57
    refine wq_skip ?_
    refine then_normal ?_
    refine wq_seq ?_
    refine wq_block ?_
    refine wq_seq ?_
    have hc := costTo_le a b i
    have h1 := cl_20 (a i)
    have h2 := cl_20 (b i)
    refine wq_said [some 12, some 13, some 14, some 15, some 16, some 17, some 18, some 19, some 20, some 21, some 22, some 7] [Pd.eq (.int .i64 (((i : Nat) : Int))), Pd.eq (.pointer (some ⟨p1, i, none⟩)), Pd.eq (.int .i64 ((a) (i))), Pd.eq (.int .i64 (max ((a) (i)) (-1048576))), Pd.eq (.int .i64 (cl 1048576 (a i))), Pd.eq (.int .i64 (((i : Nat) : Int))), Pd.eq (.pointer (some ⟨p9, i, none⟩)), Pd.eq (.int .i64 ((b) (i))), Pd.eq (.int .i64 (max ((b) (i)) (-1048576))), Pd.eq (.int .i64 (cl 1048576 (b i))), Pd.eq (.int .i64 ((cl 1048576 (a i)) - (cl 1048576 (b i)))), Pd.eq (.int .i64 ((cl 1048576 (a i)) - (cl 1048576 (b i))))] (by kernel_rfl) (by kernel_rfl) ?_ ?_
    · refine stepsF_cons ?_ ?_
      · refine StepF.one rfl fun F_ w_ hR hout hD => ?_
        exact (y_mov rfl ((hout 6 rfl (by decide)).trans s55) ⟨rfl, Kept.refl _ _⟩)
      refine stepsF_cons ?_ ?_
      · refine StepF.one rfl fun F_ w_ hR hout hD => ?_
        have g12 : F_ 12 = .int .i64 (((i : Nat) : Int)) := hD.get 0 rfl rfl rfl
        exact (y_atR (i) (s := 1) rfl ((hout 2 rfl (by decide)).trans s51) g12 (by omega) Try.underlying28 (by omega) (by kernel_rfl) (by omega) ⟨rfl, Kept.refl _ _⟩)
      refine stepsF_cons ?_ ?_
      · refine StepF.one rfl fun F_ w_ hR hout hD => ?_
        have g13 : F_ 13 = .pointer (some ⟨p1, i, none⟩) := hD.get 0 rfl rfl rfl
        exact (y_ldR rfl g13 Try.underlying3 (((B47.all hR id)).cell (by omega)) ⟨rfl, Kept.refl _ _⟩)
      refine stepsF_cons ?_ ?_
      · refine StepF.one rfl fun F_ w_ hR hout hD => ?_
        have g14 : F_ 14 = .int .i64 ((a) (i)) := hD.get 0 rfl rfl rfl
        exact (y_maxR rfl g14 rfl rfl ⟨rfl, Kept.refl _ _⟩)
      refine stepsF_cons ?_ ?_
      · refine StepF.one rfl fun F_ w_ hR hout hD => ?_
        have g15 : F_ 15 = .int .i64 (max ((a) (i)) (-1048576)) := hD.get 0 rfl rfl rfl
        exact (y_minR rfl g15 rfl (by unfold cl; omega) ⟨rfl, Kept.refl _ _⟩)
      refine stepsF_cons ?_ ?_
      · refine StepF.one rfl fun F_ w_ hR hout hD => ?_
        exact (y_mov rfl ((hout 6 rfl (by decide)).trans s55) ⟨rfl, Kept.refl _ _⟩)
      refine stepsF_cons ?_ ?_
      · refine StepF.one rfl fun F_ w_ hR hout hD => ?_
        have g17 : F_ 17 = .int .i64 (((i : Nat) : Int)) := hD.get 0 rfl rfl rfl
        exact (y_atR (i) (s := 1) rfl ((hout 3 rfl (by decide)).trans s52) g17 (by omega) Try.underlying28 (by omega) (by kernel_rfl) (by omega) ⟨rfl, Kept.refl _ _⟩)
      refine stepsF_cons ?_ ?_
      · refine StepF.one rfl fun F_ w_ hR hout hD => ?_
        have g18 : F_ 18 = .pointer (some ⟨p9, i, none⟩) := hD.get 0 rfl rfl rfl
        exact (y_ldR rfl g18 Try.underlying3 (((B48.all hR id)).cell (by omega)) ⟨rfl, Kept.refl _ _⟩)
      refine stepsF_cons ?_ ?_
      · refine StepF.one rfl fun F_ w_ hR hout hD => ?_
        have g19 : F_ 19 = .int .i64 ((b) (i)) := hD.get 0 rfl rfl rfl
        exact (y_maxR rfl g19 rfl rfl ⟨rfl, Kept.refl _ _⟩)
      refine stepsF_cons ?_ ?_
      · refine StepF.one rfl fun F_ w_ hR hout hD => ?_
        have g20 : F_ 20 = .int .i64 (max ((b) (i)) (-1048576)) := hD.get 0 rfl rfl rfl
        exact (y_minR rfl g20 rfl (by unfold cl; omega) ⟨rfl, Kept.refl _ _⟩)
      refine stepsF_cons ?_ ?_
      · refine StepF.one rfl fun F_ w_ hR hout hD => ?_
        have g16 : F_ 16 = .int .i64 (cl 1048576 (a i)) := hD.get 0 rfl rfl rfl
        have g21 : F_ 21 = .int .i64 (cl 1048576 (b i)) := hD.get 1 rfl rfl rfl
        exact (y_sub rfl g16 g21 (i64_i rfl (by omega)) ⟨rfl, Kept.refl _ _⟩)
      refine stepsF_cons ?_ ?_
      · refine StepF.one rfl fun F_ w_ hR hout hD => ?_
        have g22 : F_ 22 = .int .i64 ((cl 1048576 (a i)) - (cl 1048576 (b i))) := hD.get 0 rfl rfl rfl
        exact (y_asg rfl g22 ⟨rfl, Kept.refl _ _⟩)
      exact stepsF_nil
    intro v58 F59 w60 k61 G62 hF63
    have B65 := B47.all k61 id
    have B66 := B48.all k61 id
    have K67 := K39.trans k61 (fun _ _ x => x.elim)
    have s68 : F59 2 = .pointer (some ⟨p1, 0, none⟩) := (hF63 2).trans s51
    have s69 : F59 3 = .pointer (some ⟨p9, 0, none⟩) := (hF63 3).trans s52
    have s70 : F59 30 = undef := (hF63 30).trans s53
    have s71 : F59 5 = .int .i64 (costTo a b i) := (hF63 5).trans s54
    have s72 : F59 6 = .int .i64 (((i : Nat) : Int)) := (hF63 6).trans s55
    have s73 : F59 7 = .int .i64 ((cl 1048576 (a i)) - (cl 1048576 (b i))) := (hF63 7).trans (G62 11 (by decide))
    clear G62 hF63
    refine then_normal ?_
    refine wq_region ?_
    refine wl_v (.int .i64 (costTo a b i)) rfl rfl (y_mov rfl s71 ⟨rfl, rfl⟩) ?_
    refine wl_v (.int .i64 ((cl 1048576 (a i)) - (cl 1048576 (b i)))) rfl rfl (y_mov rfl s73 ⟨rfl, rfl⟩) ?_
    refine wl_v (.int .i64 ((cl 1048576 (a i)) - (cl 1048576 (b i)))) rfl rfl (y_mov rfl s73 ⟨rfl, rfl⟩) ?_
    refine wl_v (.int .i64 (-((cl 1048576 (a i)) - (cl 1048576 (b i))))) rfl rfl (y_neg rfl rfl (i64_i rfl (by omega)) ⟨rfl, rfl⟩) ?_
    refine wl_v (.int .i64 (max ((cl 1048576 (a i)) - (cl 1048576 (b i))) (-((cl 1048576 (a i)) - (cl 1048576 (b i)))))) rfl rfl (y_maxR rfl rfl rfl rfl ⟨rfl, rfl⟩) ?_
    refine wl_v (.int .i64 ((costTo a b i) + (max ((cl 1048576 (a i)) - (cl 1048576 (b i))) (-((cl 1048576 (a i)) - (cl 1048576 (b i))))))) rfl rfl (y_add rfl rfl rfl (i64_i rfl (by omega)) ⟨rfl, rfl⟩) ?_
    refine wl_v (.int .i64 ((costTo a b i) + (max ((cl 1048576 (a i)) - (cl 1048576 (b i))) (-((cl 1048576 (a i)) - (cl 1048576 (b i))))))) rfl rfl (y_asg rfl rfl ⟨rfl, rfl⟩) ?_
    refine wl_nil fun F74 hF75 => ?_
    have s76 : F74 2 = .pointer (some ⟨p1, 0, none⟩) := (hF75 2).trans s68
    have s77 : F74 3 = .pointer (some ⟨p9, 0, none⟩) := (hF75 3).trans s69
    have s78 : F74 30 = undef := (hF75 30).trans s70
    have s79 : F74 6 = .int .i64 (((i : Nat) : Int)) := (hF75 6).trans s72
    have s80 : F74 5 = .int .i64 ((costTo a b i) + (max ((cl 1048576 (a i)) - (cl 1048576 (b i))) (-((cl 1048576 (a i)) - (cl 1048576 (b i)))))) := (hF75 5).trans rfl
    clear hF75
    refine in_normal ?_
    refine then_normal ?_
    refine wq_region ?_
    refine wl_v (.int .i64 (((i : Nat) : Int))) rfl rfl (y_mov rfl s79 ⟨rfl, rfl⟩) ?_
    refine wl_v (.int .i64 (((i + 1 : Nat) : Int))) rfl rfl (y_add rfl rfl rfl (i64_n (by omega) (by omega)) ⟨rfl, rfl⟩) ?_
    refine wl_v (.int .i64 (((i + 1 : Nat) : Int))) rfl rfl (y_asg rfl rfl ⟨rfl, rfl⟩) ?_
    refine wl_nil fun F81 hF82 => ?_
    have s83 : F81 2 = .pointer (some ⟨p1, 0, none⟩) := (hF82 2).trans s76
    have s84 : F81 3 = .pointer (some ⟨p9, 0, none⟩) := (hF82 3).trans s77
    have s85 : F81 30 = undef := (hF82 30).trans s78
    have s86 : F81 5 = .int .i64 ((costTo a b i) + (max ((cl 1048576 (a i)) - (cl 1048576 (b i))) (-((cl 1048576 (a i)) - (cl 1048576 (b i)))))) := (hF82 5).trans s80
    have s87 : F81 6 = .int .i64 (((i + 1 : Nat) : Int)) := (hF82 6).trans rfl
    clear hF82
    exact then_normal ⟨(16 - (i + 1)), by omega, i + 1, by omega, rfl, s83, s84, s85, s86, s87, K67, B65, B66⟩
  · replace c57 := of_decide_eq_false c57
    refine wq_exit ?_
    refine then_exit ?_
    refine then_exit ?_
    have l88 : 16 = i := by omega
    subst l88
    refine in_here ?_
    refine then_normal ?_
    refine wq_seq ?_
    refine wq_region ?_
    refine wl_v (.int .i64 (costTo a b 16)) rfl rfl (y_mov rfl s54 ⟨rfl, rfl⟩) ?_
    refine wl_v (.int .i64 (costTo a b 16)) rfl rfl (y_asg rfl rfl ⟨rfl, rfl⟩) ?_
    refine wl_nil fun F89 hF90 => ?_
    have s91 : F89 30 = undef := (hF90 30).trans s53
    have s92 : F89 4 = .int .i64 (costTo a b 16) := (hF90 4).trans rfl
    clear hF90
    refine then_normal ?_
    refine wq_ret ?_
    exact end_tmp (v := .int .i64 (costTo a b 16)) s91 rfl rfl s92 ⟨rfl, K39⟩

end Go.Proofs.Ytceoidglhakanaa
namespace Go.Proofs.Ytceoidglhakanaa

/-- What stands between. -/
def mid (f : FD) (p u v : Int) : Int :=
  if u % 2 = 0 ∧ v % 2 = 0 then atF f p (u / 2) (v / 2)
  else if v % 2 = 0 then (atF f p (u / 2) (v / 2) + atF f p ((u + 1) / 2) (v / 2) + 1) / 2
  else if u % 2 = 0 then (atF f p (u / 2) (v / 2) + atF f p (u / 2) ((v + 1) / 2) + 1) / 2
  else (atF f p (u / 2) (v / 2) + atF f p ((u + 1) / 2) (v / 2) + atF f p (u / 2) ((v + 1) / 2) + atF f p ((u + 1) / 2) ((v + 1) / 2) + 2) / 4
def c256 (n : Int) : Int := min (max n (-256)) 256
def smpF (f : FD) (p x y : Int) : Int := mid f p (c256 x) (c256 y)
theorem mid_both {f : FD} {p u v : Int} (h1 : u % 2 = 0) (h2 : v % 2 = 0) : mid f p u v = atF f p (u / 2) (v / 2) := by unfold mid; rw [if_pos ⟨h1, h2⟩]
theorem mid_side {f : FD} {p u v : Int} (h1 : ¬ u % 2 = 0) (h2 : v % 2 = 0) : mid f p u v = (atF f p (u / 2) (v / 2) + atF f p ((u + 1) / 2) (v / 2) + 1) / 2 := by
  unfold mid; rw [if_neg (fun h => h1 h.1), if_pos h2]
theorem mid_down {f : FD} {p u v : Int} (h1 : u % 2 = 0) (h2 : ¬ v % 2 = 0) : mid f p u v = (atF f p (u / 2) (v / 2) + atF f p (u / 2) ((v + 1) / 2) + 1) / 2 := by
  unfold mid; rw [if_neg (fun h => h2 h.2), if_neg h2, if_pos h1]
theorem mid_none {f : FD} {p u v : Int} (h1 : ¬ u % 2 = 0) (h2 : ¬ v % 2 = 0) : mid f p u v = (atF f p (u / 2) (v / 2) + atF f p ((u + 1) / 2) (v / 2) + atF f p (u / 2) ((v + 1) / 2) + atF f p ((u + 1) / 2) ((v + 1) / 2) + 2) / 4 := by
  unfold mid; rw [if_neg (fun h => h1 h.1), if_neg h2, if_neg h1]
def vecOk (X Y : Int) : Prop := -31 ≤ X ∧ X ≤ 31 ∧ -31 ≤ Y ∧ Y ≤ 31
instance (X Y : Int) : Decidable (vecOk X Y) := by unfold vecOk; infer_instance
def vecE (X Y : Int) : Int := if vecOk X Y then 0 else 90
theorem vecE_yes {X Y : Int} (h : vecOk X Y) : vecE X Y = 0 := if_pos h
theorem vecE_no {X Y : Int} (h : ¬ vecOk X Y) : vecE X Y = 90 := if_neg h
theorem vecE_iff (X Y : Int) : vecE X Y = 0 ↔ vecOk X Y := by unfold vecE; split <;> simp_all
def mvN (f : FD) (p x y X Y : Int) (n : Nat) : Int := smpF f p (2 * (x + ((n % 4 : Nat) : Int)) + X) (2 * (y + ((n / 4 : Nat) : Int)) + Y)
def mvE (f : FD) (p x y X Y : Int) : Int := if placeF f p x y then vecE X Y else 70
def mvB (f : FD) (p x y X Y : Int) : Nat → Int := if placeF f p x y ∧ vecOk X Y then mvN f p x y X Y else fun _ => 0
theorem mv_no {f : FD} {p x y X Y : Int} (h : ¬ placeF f p x y) : mvE f p x y X Y = 70 ∧ mvB f p x y X Y = fun _ => 0 := ⟨if_neg h, if_neg (fun x => h x.1)⟩
theorem mv_none {f : FD} {p x y X Y : Int} (h : placeF f p x y) (hv : ¬ vecOk X Y) : mvE f p x y X Y = 90 ∧ mvB f p x y X Y = fun _ => 0 :=
  ⟨by unfold mvE; rw [if_pos h, vecE_no hv], if_neg (fun x => hv x.2)⟩
theorem mv_yes {f : FD} {p x y X Y : Int} (h : placeF f p x y) (hv : vecOk X Y) : mvE f p x y X Y = 0 ∧ mvB f p x y X Y = mvN f p x y X Y :=
  ⟨by unfold mvE; rw [if_pos h, vecE_yes hv], if_pos ⟨h, hv⟩⟩
theorem mvE_iff (f : FD) (p x y X Y : Int) : mvE f p x y X Y = 0 ↔ placeF f p x y ∧ vecOk X Y := by
  unfold mvE
  split
  · rw [vecE_iff]; simp_all
  · simp_all
def c8 (n : Int) : Int := min (max n 0) 255
theorem c8_le (n : Int) : 0 ≤ c8 n ∧ c8 n ≤ 255 := by unfold c8; omega
def bothB (a b : Nat → Int) : Nat → Int := fun i => Int.tdiv (c8 (a i) + c8 (b i) + 1) 2
theorem bothB_at (a b : Nat → Int) (i : Nat) : bothB a b i = (c8 (a i) + c8 (b i) + 1) / 2 := by
  have h1 := c8_le (a i); have h2 := c8_le (b i)
  unfold bothB; rw [tdiv2 (by omega)]

def c100 (n : Int) : Int := min (max n (-100)) 100
def vx (X : Int) (k : Nat) : Int := c100 X - 2 + ((k % 5 : Nat) : Int)
def vy (Y : Int) (k : Nat) : Int := c100 Y - 2 + ((k / 5 : Nat) : Int)
structure Found where
  X : Int
  Y : Int
  n : Int
def srTo (f : FD) (p x y : Int) (b : Nat → Int) (X Y : Int) : Nat → Found
  | 0 => ⟨0, 0, -1⟩
  | k + 1 => if mvE f p x y (vx X k) (vy Y k) = 0 ∧ ((srTo f p x y b X Y k).n < 0 ∨ costF (mvB f p x y (vx X k) (vy Y k)) b < (srTo f p x y b X Y k).n) then ⟨vx X k, vy Y k, costF (mvB f p x y (vx X k) (vy Y k)) b⟩ else srTo f p x y b X Y k
def srF (f : FD) (p x y : Int) (b : Nat → Int) (X Y : Int) : Found := srTo f p x y b X Y 25
section
variable {f : FD} {p x y : Int} {b : Nat → Int} {X Y : Int} {k : Nat}
theorem sr_bad (h : ¬ mvE f p x y (vx X k) (vy Y k) = 0) : srTo f p x y b X Y (k + 1) = srTo f p x y b X Y k := by rw [srTo, if_neg (fun z => h z.1)]
theorem sr_take (h : mvE f p x y (vx X k) (vy Y k) = 0) (h2 : (srTo f p x y b X Y k).n < 0 ∨ costF (mvB f p x y (vx X k) (vy Y k)) b < (srTo f p x y b X Y k).n) : srTo f p x y b X Y (k + 1) = ⟨vx X k, vy Y k, costF (mvB f p x y (vx X k) (vy Y k)) b⟩ := by rw [srTo, if_pos ⟨h, h2⟩]
theorem sr_keep (h2 : ¬ ((srTo f p x y b X Y k).n < 0 ∨ costF (mvB f p x y (vx X k) (vy Y k)) b < (srTo f p x y b X Y k).n)) : srTo f p x y b X Y (k + 1) = srTo f p x y b X Y k := by rw [srTo, if_neg (fun z => h2 z.2)]
end
end Go.Proofs.Ytceoidglhakanaa
