/- What BlockStill reaches of my texts, part 4. -/
import Derived.Test.YtdcbabgcbkdlhaaDoorBlockStillC
set_option maxRecDepth 100000
set_option maxRecDepth 100000
namespace Go.Proofs.YtdcbabgcbkdlhaaDoor
open Go.RowKit

set_option maxHeartbeats 4000000 in
set_option maxRecDepth 100000 in
theorem ps_clamped (n a b : Int) (w0 : World) :
  Calls Tryd.prog 95 #[.int .i64 (n), .int .i64 (a), .int .i64 (b)] w0 fun e w' => e = .returned (.int .i64 (max a (min n b))) ∧ Kept (fun _ => False) w0 w' := by
 refine calls_wq (args := [.int .i64 (n), .int .i64 (a), .int .i64 (b)]) 12 Tryd.func95 rfl rfl (Nat.le_of_ble_eq_true rfl) ?_
 have K0 := Kept.refl (fun _ => False) w0
 refine wq_seq ?_
 refine wq_region ?_
 refine wl_v (.int .i64 (0)) rfl rfl (y_asg rfl rfl ⟨rfl, rfl⟩) ?_
 refine wl_nil fun F1 hF2 => ?_
 have s3 : F1 0 = .int .i64 (n) := (hF2 0).trans rfl
 have s4 : F1 1 = .int .i64 (a) := (hF2 1).trans rfl
 have s5 : F1 2 = .int .i64 (b) := (hF2 2).trans rfl
 have s6 : F1 12 = undef := (hF2 12).trans rfl
 clear hF2
 refine then_normal ?_
 refine wq_seq ?_
 refine wq_region ?_
 refine wl_v (.int .i64 (a)) rfl rfl (y_mov rfl s4 ⟨rfl, rfl⟩) ?_
 refine wl_v (.int .i64 (n)) rfl rfl (y_mov rfl s3 ⟨rfl, rfl⟩) ?_
 refine wl_v (.int .i64 (b)) rfl rfl (y_mov rfl s5 ⟨rfl, rfl⟩) ?_
 refine wl_v (.int .i64 (min (n) (b))) rfl rfl (y_minR rfl rfl rfl rfl ⟨rfl, rfl⟩) ?_
 refine wl_v (.int .i64 (max (a) (min (n) (b)))) rfl rfl (y_maxR rfl rfl rfl rfl ⟨rfl, rfl⟩) ?_
 refine wl_v (.int .i64 (max (a) (min (n) (b)))) rfl rfl (y_asg rfl rfl ⟨rfl, rfl⟩) ?_
 refine wl_nil fun F7 hF8 => ?_
 have s9 := (hF8 12).trans s6
 have s10 : F7 6 = .int .i64 (max (a) (min (n) (b))) := (hF8 6).trans rfl
 clear hF8
 refine then_normal ?_
 refine wq_ret ?_
 exact end_tmp (v := .int .i64 (max (a) (min (n) (b)))) s9 rfl rfl s10 ⟨rfl, K0⟩

set_option maxHeartbeats 4000000 in
set_option maxRecDepth 100000 in
theorem ps_side (n : Int) (w0 : World) :
  Calls Tryd.prog 113 #[.int .i64 (n)] w0 fun e w' => e = .returned (.bool (sideB n)) ∧ Kept (fun _ => False) w0 w' := by
 refine calls_wq (args := [.int .i64 (n)]) 14 Tryd.func113 rfl rfl (Nat.le_of_ble_eq_true rfl) ?_
 have K0 := Kept.refl (fun _ => False) w0
 refine wq_seq ?_
 refine wq_region ?_
 refine wl_v (.bool false) rfl rfl (y_asg rfl rfl ⟨rfl, rfl⟩) ?_
 refine wl_nil fun F1 hF2 => ?_
 have s3 : F1 0 = .int .i64 (n) := (hF2 0).trans rfl
 have s4 : F1 14 = undef := (hF2 14).trans rfl
 clear hF2
 refine then_normal ?_
 refine wq_seq ?_
 by_cases d5 : (8) ≤ (n)
 ·skip
  by_cases d6 : (n) ≤ (64)
  ·skip
   refine wq_region ?_
   refine wl_v (.int .i64 (n)) rfl rfl (y_mov rfl s3 ⟨rfl, rfl⟩) ?_
   refine wl_v (.bool true) rfl rfl (y_geq rfl rfl rfl (decide_eq_true d5) ⟨rfl, rfl⟩) ?_
   refine wl_v (.bool true) rfl rfl (y_mov rfl rfl ⟨rfl, rfl⟩) ?_
   refine wl_vw (.int .i64 (n)) 2 true 5 rfl rfl rfl rfl rfl (y_mov rfl s3 ⟨rfl, rfl⟩) ?_
   refine wl_vw (.bool true) 2 true 5 rfl rfl rfl rfl rfl (y_leq rfl rfl rfl (decide_eq_true d6) ⟨rfl, rfl⟩) ?_
   refine wl_v (.bool true) rfl rfl (y_pickT rfl rfl rfl ⟨rfl, rfl⟩) ?_
   refine wl_v (.bool true) rfl rfl (y_mov rfl rfl ⟨rfl, rfl⟩) ?_
   refine wl_vw (.int .i64 (n)) 6 true 9 rfl rfl rfl rfl rfl (y_mov rfl s3 ⟨rfl, rfl⟩) ?_
   refine wl_vw (.int .i64 (Int.tmod (n) (8))) 6 true 9 rfl rfl rfl rfl rfl (y_rem rfl rfl rfl (by first | decide | omega) rfl ⟨rfl, rfl⟩) ?_
   refine wl_vw (.bool (decide ((Int.tmod (n) (8)) = (0)))) 6 true 9 rfl rfl rfl rfl rfl (y_eqlI rfl rfl rfl rfl ⟨rfl, rfl⟩) ?_
   refine wl_v (.bool (decide ((Int.tmod (n) (8)) = (0)))) rfl rfl (y_pickT rfl rfl rfl ⟨rfl, rfl⟩) ?_
   refine wl_v (.bool (decide ((Int.tmod (n) (8)) = (0)))) rfl rfl (y_asg rfl rfl ⟨rfl, rfl⟩) ?_
   refine wl_nil fun F7 hF8 => ?_
   have s9 := (hF8 14).trans s4
   have s10 : F7 2 = .bool (decide ((Int.tmod (n) (8)) = (0))) := (hF8 2).trans rfl
   clear hF8
   refine then_normal ?_
   refine wq_ret ?_
   exact end_tmp (v := .bool (decide ((Int.tmod (n) (8)) = (0)))) s9 rfl rfl s10 ⟨(by first | rw [sideB_low (by omega)] | rw [sideB_high (by omega)] | rw [sideB_mid (by omega) (by omega)]), K0⟩
  ·skip
   refine wq_region ?_
   refine wl_v (.int .i64 (n)) rfl rfl (y_mov rfl s3 ⟨rfl, rfl⟩) ?_
   refine wl_v (.bool true) rfl rfl (y_geq rfl rfl rfl (decide_eq_true d5) ⟨rfl, rfl⟩) ?_
   refine wl_v (.bool true) rfl rfl (y_mov rfl rfl ⟨rfl, rfl⟩) ?_
   refine wl_vw (.int .i64 (n)) 2 true 5 rfl rfl rfl rfl rfl (y_mov rfl s3 ⟨rfl, rfl⟩) ?_
   refine wl_vw (.bool false) 2 true 5 rfl rfl rfl rfl rfl (y_leq rfl rfl rfl (decide_eq_false d6) ⟨rfl, rfl⟩) ?_
   refine wl_v (.bool false) rfl rfl (y_pickT rfl rfl rfl ⟨rfl, rfl⟩) ?_
   refine wl_v (.bool false) rfl rfl (y_mov rfl rfl ⟨rfl, rfl⟩) ?_
   refine wl_unless 6 true 9 rfl rfl rfl (Or.inl rfl) rfl ?_
   refine wl_unless 6 true 9 rfl rfl rfl (Or.inl rfl) rfl ?_
   refine wl_unless 6 true 9 rfl rfl rfl (Or.inl rfl) rfl ?_
   refine wl_v (.bool false) rfl rfl (y_pickF rfl rfl rfl ⟨rfl, rfl⟩) ?_
   refine wl_v (.bool false) rfl rfl (y_asg rfl rfl ⟨rfl, rfl⟩) ?_
   refine wl_nil fun F11 hF12 => ?_
   have s13 := (hF12 14).trans s4
   have s14 : F11 2 = .bool false := (hF12 2).trans rfl
   clear hF12
   refine then_normal ?_
   refine wq_ret ?_
   exact end_tmp (v := .bool false) s13 rfl rfl s14 ⟨(by first | rw [sideB_low (by omega)] | rw [sideB_high (by omega)] | rw [sideB_mid (by omega) (by omega)]), K0⟩
 ·skip
  refine wq_region ?_
  refine wl_v (.int .i64 (n)) rfl rfl (y_mov rfl s3 ⟨rfl, rfl⟩) ?_
  refine wl_v (.bool false) rfl rfl (y_geq rfl rfl rfl (decide_eq_false d5) ⟨rfl, rfl⟩) ?_
  refine wl_v (.bool false) rfl rfl (y_mov rfl rfl ⟨rfl, rfl⟩) ?_
  refine wl_unless 2 true 5 rfl rfl rfl (Or.inl rfl) rfl ?_
  refine wl_unless 2 true 5 rfl rfl rfl (Or.inl rfl) rfl ?_
  refine wl_v (.bool false) rfl rfl (y_pickF rfl rfl rfl ⟨rfl, rfl⟩) ?_
  refine wl_v (.bool false) rfl rfl (y_mov rfl rfl ⟨rfl, rfl⟩) ?_
  refine wl_unless 6 true 9 rfl rfl rfl (Or.inl rfl) rfl ?_
  refine wl_unless 6 true 9 rfl rfl rfl (Or.inl rfl) rfl ?_
  refine wl_unless 6 true 9 rfl rfl rfl (Or.inl rfl) rfl ?_
  refine wl_v (.bool false) rfl rfl (y_pickF rfl rfl rfl ⟨rfl, rfl⟩) ?_
  refine wl_v (.bool false) rfl rfl (y_asg rfl rfl ⟨rfl, rfl⟩) ?_
  refine wl_nil fun F15 hF16 => ?_
  have s17 := (hF16 14).trans s4
  have s18 : F15 2 = .bool false := (hF16 2).trans rfl
  clear hF16
  refine then_normal ?_
  refine wq_ret ?_
  exact end_tmp (v := .bool false) s17 rfl rfl s18 ⟨(by first | rw [sideB_low (by omega)] | rw [sideB_high (by omega)] | rw [sideB_mid (by omega) (by omega)]), K0⟩

def sidesF (f : FD) (p : Int) : Int × Int := if p = 0 then (f.W, f.H) else (Int.tdiv f.W 2, Int.tdiv f.H 2)
set_option maxHeartbeats 4000000 in
set_option maxRecDepth 100000 in
theorem ps_sides (p : Int) (f : FD) (f0 f1 f2 : Value) (T_f0 : Nat → Prop) (T_f1 : Nat → Prop) (T_f2 : Nat → Prop) (w0 : World) (hw : 0 ≤ f.W ∧ f.W ≤ 64) (hh : 0 ≤ f.H ∧ f.H ≤ 64) (_h_f0 : Byt w0 T_f0 f0 ((f).p0)) (_h_f1 : Byt w0 T_f1 f1 ((f).p1)) (_h_f2 : Byt w0 T_f2 f2 ((f).p2)) :
  Calls Tryd.prog 94 #[.agg #[.int .i64 ((f).W), .int .i64 ((f).H), f0, f1, f2], .int .i64 (p)] w0 fun e w' => e = .returned (.tuple #[.int .i64 ((sidesF f p).1), .int .i64 ((sidesF f p).2)]) ∧ Kept (fun _ => False) w0 w' := by
 refine calls_wq (args := [.agg #[.int .i64 ((f).W), .int .i64 ((f).H), f0, f1, f2], .int .i64 (p)]) 18 Tryd.func94 rfl rfl (Nat.le_of_ble_eq_true rfl) ?_
 have K0 := Kept.refl (fun _ => False) w0
 have g_f0 := Grew.refl w0 T_f0
 have g_f1 := Grew.refl w0 T_f1
 have g_f2 := Grew.refl w0 T_f2
 refine wq_seq ?_
 refine wq_region ?_
 refine wl_box_stc (vs := [.int .i64 ((f).W), .int .i64 ((f).H), f0, f1, f2]) rfl rfl rfl rfl fun p1 w2 B4 g5 k3 => ?_
 have K13 := K0.trans k3 (fun _ _ x => x.elim)
 refine wl_v (.int .i64 (0)) rfl rfl (y_asg rfl rfl ⟨rfl, rfl⟩) ?_
 refine wl_v (.int .i64 (0)) rfl rfl (y_asg rfl rfl ⟨rfl, rfl⟩) ?_
 refine wl_nil fun F14 hF15 => ?_
 have s16 : F14 1 = .int .i64 (p) := (hF15 1).trans rfl
 have s17 : F14 18 = undef := (hF15 18).trans rfl
 have s18 : F14 2 = .pointer (some ⟨p1, 0, none⟩) := (hF15 2).trans rfl
 clear hF15
 refine then_normal ?_
 refine wq_seq ?_
 refine wq_seq ?_
 refine wq_region ?_
 refine wl_v (.int .i64 (p)) rfl rfl (y_mov rfl s16 ⟨rfl, rfl⟩) ?_
 refine wl_v (.bool (decide ((p) = (0)))) rfl rfl (y_eqlI rfl rfl rfl rfl ⟨rfl, rfl⟩) ?_
 refine wl_nil fun F19 hF20 => ?_
 have s21 := (hF20 18).trans s17
 have s22 := (hF20 2).trans s18
 have s23 : F19 7 = .bool (decide ((p) = (0))) := (hF20 7).trans rfl
 clear hF20
 refine then_normal ?_
 refine wq_cond s23 (fun c24 => ?_) (fun c24 => ?_)
 ·replace c24 := of_decide_eq_true c24
  refine wq_seq ?_
  refine wq_said [some 8, some 9, some 10, some 11, some 4, some 5] [Pd.eq (.pointer (some ⟨p1, 0, none⟩)), Pd.eq (.int .i64 ((f).W)), Pd.eq (.pointer (some ⟨p1, 1, none⟩)), Pd.eq (.int .i64 ((f).H)), Pd.eq (.int .i64 ((f).W)), Pd.eq (.int .i64 ((f).H))] (by kernel_rfl) (by kernel_rfl) ?_ ?_
  ·refine stepsF_cons ?_ ?_
   ·refine StepF.one rfl fun F_ w_ hR hout hD => ?_
    exact (y_fieldR (n := 1) rfl ((hout 2 rfl (by decide)).trans s22) Tryd.underlying68 rfl (by kernel_rfl) (by decide) rfl ⟨rfl, Kept.refl _ _⟩)
   refine stepsF_cons ?_ ?_
   ·refine StepF.one rfl fun F_ w_ hR hout hD => ?_
    have g8 : F_ 8 = .pointer (some ⟨p1, 0, none⟩) := (hD.get 0 rfl rfl rfl)
    exact (y_ld_stc rfl g8 Tryd.underlying3 (B4.all hR id) rfl rfl ⟨rfl, Kept.refl _ _⟩)
   refine stepsF_cons ?_ ?_
   ·refine StepF.one rfl fun F_ w_ hR hout hD => ?_
    exact (y_fieldR (n := 1) rfl ((hout 2 rfl (by decide)).trans s22) Tryd.underlying68 rfl (by kernel_rfl) (by decide) rfl ⟨rfl, Kept.refl _ _⟩)
   refine stepsF_cons ?_ ?_
   ·refine StepF.one rfl fun F_ w_ hR hout hD => ?_
    have g10 : F_ 10 = .pointer (some ⟨p1, 1, none⟩) := (hD.get 0 rfl rfl rfl)
    exact (y_ld_stc rfl g10 Tryd.underlying3 (B4.all hR id) rfl rfl ⟨rfl, Kept.refl _ _⟩)
   refine stepsF_cons ?_ ?_
   ·refine StepF.one rfl fun F_ w_ hR hout hD => ?_
    have g9 : F_ 9 = .int .i64 ((f).W) := (hD.get 0 rfl rfl rfl)
    exact (y_asg rfl g9 ⟨rfl, Kept.refl _ _⟩)
   refine stepsF_cons ?_ ?_
   ·refine StepF.one rfl fun F_ w_ hR hout hD => ?_
    have g11 : F_ 11 = .int .i64 ((f).H) := (hD.get 0 rfl rfl rfl)
    exact (y_asg rfl g11 ⟨rfl, Kept.refl _ _⟩)
   exact stepsF_nil
  intro v25 F26 w27 k28 G29 hF30
  have K36 := K13.trans k28 (fun _ _ x => x.elim)
  have s37 := (hF30 18).trans s21
  have s38 : F26 4 = .int .i64 ((f).W) := (hF30 4).trans (G29 4 (by decide))
  have s39 : F26 5 = .int .i64 ((f).H) := (hF30 5).trans (G29 5 (by decide))
  clear G29 hF30
  refine then_normal ?_
  refine wq_ret ?_
  refine then_ret ?_
  exact end_2 s37 rfl (res_tmp (v := .int .i64 ((f).W)) rfl s38) (res_tmp (v := .int .i64 ((f).H)) rfl s39) ⟨(by unfold sidesF; first | rw [if_pos (by assumption)] | rw [if_neg (by assumption)]), K36⟩
 ·replace c24 := of_decide_eq_false c24
  refine wq_skip ?_
  refine then_normal ?_
  refine wq_seq ?_
  refine wq_said [some 12, some 13, some 14, some 15, some 16, some 17, some 4, some 5] [Pd.eq (.pointer (some ⟨p1, 0, none⟩)), Pd.eq (.int .i64 ((f).W)), Pd.eq (.int .i64 (Int.tdiv (f).W 2)), Pd.eq (.pointer (some ⟨p1, 1, none⟩)), Pd.eq (.int .i64 ((f).H)), Pd.eq (.int .i64 (Int.tdiv (f).H 2)), Pd.eq (.int .i64 (Int.tdiv (f).W 2)), Pd.eq (.int .i64 (Int.tdiv (f).H 2))] (by kernel_rfl) (by kernel_rfl) ?_ ?_
  ·refine stepsF_cons ?_ ?_
   ·refine StepF.one rfl fun F_ w_ hR hout hD => ?_
    exact (y_fieldR (n := 1) rfl ((hout 2 rfl (by decide)).trans s22) Tryd.underlying68 rfl (by kernel_rfl) (by decide) rfl ⟨rfl, Kept.refl _ _⟩)
   refine stepsF_cons ?_ ?_
   ·refine StepF.one rfl fun F_ w_ hR hout hD => ?_
    have g12 : F_ 12 = .pointer (some ⟨p1, 0, none⟩) := (hD.get 0 rfl rfl rfl)
    exact (y_ld_stc rfl g12 Tryd.underlying3 (B4.all hR id) rfl rfl ⟨rfl, Kept.refl _ _⟩)
   refine stepsF_cons ?_ ?_
   ·refine StepF.one rfl fun F_ w_ hR hout hD => ?_
    have g13 : F_ 13 = .int .i64 ((f).W) := (hD.get 0 rfl rfl rfl)
    exact (y_quo rfl g13 rfl (by first | decide | omega) (i64_i rfl (by rw [tdiv2 (by omega)]; omega)) ⟨rfl, Kept.refl _ _⟩)
   refine stepsF_cons ?_ ?_
   ·refine StepF.one rfl fun F_ w_ hR hout hD => ?_
    exact (y_fieldR (n := 1) rfl ((hout 2 rfl (by decide)).trans s22) Tryd.underlying68 rfl (by kernel_rfl) (by decide) rfl ⟨rfl, Kept.refl _ _⟩)
   refine stepsF_cons ?_ ?_
   ·refine StepF.one rfl fun F_ w_ hR hout hD => ?_
    have g15 : F_ 15 = .pointer (some ⟨p1, 1, none⟩) := (hD.get 0 rfl rfl rfl)
    exact (y_ld_stc rfl g15 Tryd.underlying3 (B4.all hR id) rfl rfl ⟨rfl, Kept.refl _ _⟩)
   refine stepsF_cons ?_ ?_
   ·refine StepF.one rfl fun F_ w_ hR hout hD => ?_
    have g16 : F_ 16 = .int .i64 ((f).H) := (hD.get 0 rfl rfl rfl)
    exact (y_quo rfl g16 rfl (by first | decide | omega) (i64_i rfl (by rw [tdiv2 (by omega)]; omega)) ⟨rfl, Kept.refl _ _⟩)
   refine stepsF_cons ?_ ?_
   ·refine StepF.one rfl fun F_ w_ hR hout hD => ?_
    have g14 : F_ 14 = .int .i64 (Int.tdiv (f).W 2) := (hD.get 0 rfl rfl rfl)
    exact (y_asg rfl g14 ⟨rfl, Kept.refl _ _⟩)
   refine stepsF_cons ?_ ?_
   ·refine StepF.one rfl fun F_ w_ hR hout hD => ?_
    have g17 : F_ 17 = .int .i64 (Int.tdiv (f).H 2) := (hD.get 0 rfl rfl rfl)
    exact (y_asg rfl g17 ⟨rfl, Kept.refl _ _⟩)
   exact stepsF_nil
  intro v40 F41 w42 k43 G44 hF45
  have K51 := K13.trans k43 (fun _ _ x => x.elim)
  have s52 := (hF45 18).trans s21
  have s53 : F41 4 = .int .i64 (Int.tdiv (f).W 2) := (hF45 4).trans (G44 6 (by decide))
  have s54 : F41 5 = .int .i64 (Int.tdiv (f).H 2) := (hF45 5).trans (G44 7 (by decide))
  clear G44 hF45
  refine then_normal ?_
  refine wq_ret ?_
  exact end_2 s52 rfl (res_tmp (v := .int .i64 (Int.tdiv (f).W 2)) rfl s53) (res_tmp (v := .int .i64 (Int.tdiv (f).H 2)) rfl s54) ⟨(by unfold sidesF; first | rw [if_pos (by assumption)] | rw [if_neg (by assumption)]), K51⟩

theorem quarter {w h : Int} (h1 : w % 8 = 0) (h2 : h % 8 = 0) (hw : 0 ≤ w) (hh : 0 ≤ h) : Int.tdiv w 2 * Int.tdiv h 2 = w * h / 4 := by
  rw [tdiv2 hw, tdiv2 hh]
  obtain ⟨a, rfl⟩ : ∃ a, w = 2 * a := ⟨w / 2, by omega⟩
  obtain ⟨b, rfl⟩ : ∃ b, h = 2 * b := ⟨h / 2, by omega⟩
  rw [show 2 * a / 2 = a by omega, show 2 * b / 2 = b by omega, show 2 * a * (2 * b) = 4 * (a * b) by rw [Int.mul_assoc, Int.mul_left_comm a 2 b, ← Int.mul_assoc]; rfl]
  omega
theorem sides_area {f : FD} (hw : sideB f.W = true) (hh : sideB f.H = true) (p : Int) : 0 ≤ (sidesF f p).1 * (sidesF f p).2 ∧ (sidesF f p).1 * (sidesF f p).2 ≤ 4096 ∧ (sidesF f p).1 * (sidesF f p).2 = (if p = 0 then f.W * f.H else f.W * f.H / 4) := by
  have h := area_bounds hw hh
  have h1 := (sideB_iff _).1 hw
  have h2 := (sideB_iff _).1 hh
  unfold sidesF
  by_cases hp : p = 0
  · rw [if_pos hp, if_pos hp]; refine ⟨?_, ?_, rfl⟩ <;> (dsimp only; omega)
  · rw [if_neg hp, if_neg hp]
    have q := quarter h1.2.2 h2.2.2 (by omega) (by omega)
    dsimp only
    rw [q]; refine ⟨?_, ?_, rfl⟩ <;> omega

theorem check_parts {f : FD} (hw : sideB f.W = true) (hh : sideB f.H = true) : okF f ↔ (f.p0.length : Int) = (sidesF f ((0 : Nat) : Int)).1 * (sidesF f ((0 : Nat) : Int)).2 ∧ (f.p1.length : Int) = (sidesF f ((1 : Nat) : Int)).1 * (sidesF f ((1 : Nat) : Int)).2 ∧ (f.p2.length : Int) = (sidesF f ((2 : Nat) : Int)).1 * (sidesF f ((2 : Nat) : Int)).2 := by
  have har := area_bounds hw hh
  rw [(sides_area hw hh _).2.2, (sides_area hw hh _).2.2, (sides_area hw hh _).2.2, if_pos (show ((0 : Nat) : Int) = 0 from rfl), if_neg (by decide), if_neg (by decide)]
  unfold okF
  rw [tdiv4 (by omega)]
  exact ⟨fun h => h.2.2, fun h => ⟨hw, hh, h⟩⟩
theorem check_yes {f : FD} (hw : sideB f.W = true) (hh : sideB f.H = true) (h0 : (f.p0.length : Int) = (sidesF f ((0 : Nat) : Int)).1 * (sidesF f ((0 : Nat) : Int)).2) (h1 : (f.p1.length : Int) = (sidesF f ((1 : Nat) : Int)).1 * (sidesF f ((1 : Nat) : Int)).2) (h2 : (f.p2.length : Int) = (sidesF f ((2 : Nat) : Int)).1 * (sidesF f ((2 : Nat) : Int)).2) : checkE f = 0 := checkE_ok ((check_parts hw hh).2 ⟨h0, h1, h2⟩)
theorem check_no0 {f : FD} (hw : sideB f.W = true) (hh : sideB f.H = true) (h : (f.p0.length : Int) ≠ (sidesF f ((0 : Nat) : Int)).1 * (sidesF f ((0 : Nat) : Int)).2) : checkE f = 70 := checkE_no fun k => h ((check_parts hw hh).1 k).1
theorem check_no1 {f : FD} (hw : sideB f.W = true) (hh : sideB f.H = true) (h : (f.p1.length : Int) ≠ (sidesF f ((1 : Nat) : Int)).1 * (sidesF f ((1 : Nat) : Int)).2) : checkE f = 70 := checkE_no fun k => h ((check_parts hw hh).1 k).2.1
theorem check_no2 {f : FD} (hw : sideB f.W = true) (hh : sideB f.H = true) (h : (f.p2.length : Int) ≠ (sidesF f ((2 : Nat) : Int)).1 * (sidesF f ((2 : Nat) : Int)).2) : checkE f = 70 := checkE_no fun k => h ((check_parts hw hh).1 k).2.2

set_option maxHeartbeats 4000000 in
set_option maxRecDepth 100000 in
theorem pl_check (f : FD) (f0 f1 f2 : Value) (T_f0 : Nat → Prop) (T_f1 : Nat → Prop) (T_f2 : Nat → Prop) (w0 : World) (h_f0 : Byt w0 T_f0 f0 ((f).p0)) (h_f1 : Byt w0 T_f1 f1 ((f).p1)) (h_f2 : Byt w0 T_f2 f2 ((f).p2)) :
  Calls Tryd.prog 93 #[.agg #[.int .i64 ((f).W), .int .i64 ((f).H), f0, f1, f2]] w0 fun e w' => e = .returned (.int .i64 (checkE f)) ∧ Kept (fun _ => False) w0 w' := by
 refine calls_wq (args := [.agg #[.int .i64 ((f).W), .int .i64 ((f).H), f0, f1, f2]]) 36 Tryd.func93 rfl rfl (Nat.le_of_ble_eq_true rfl) ?_
 have K0 := Kept.refl (fun _ => False) w0
 have g_f0 := Grew.refl w0 T_f0
 have g_f1 := Grew.refl w0 T_f1
 have g_f2 := Grew.refl w0 T_f2
 refine wq_seq ?_
 refine wq_region ?_
 refine wl_box_stc (vs := [.int .i64 ((f).W), .int .i64 ((f).H), f0, f1, f2]) rfl rfl rfl rfl fun p1 w2 B4 g5 k3 => ?_
 have B10 := h_f0.all k3 Apart.none
 have B11 := h_f1.all k3 Apart.none
 have B12 := h_f2.all k3 Apart.none
 have K13 := K0.trans k3 (fun _ _ x => x.elim)
 refine wl_v (.int .i64 (0)) rfl rfl (y_asg rfl rfl ⟨rfl, rfl⟩) ?_
 refine wl_nil fun F14 hF15 => ?_
 have s16 : F14 36 = undef := (hF15 36).trans rfl
 have s17 : F14 1 = .pointer (some ⟨p1, 0, none⟩) := (hF15 1).trans rfl
 clear hF15
 refine then_normal ?_
 refine wq_seq ?_
 refine wq_seq ?_
 rcases Bool.eq_false_or_eq_true (sideB ((f).W)) with d18 | d18
 ·skip
  rcases Bool.eq_false_or_eq_true (sideB ((f).H)) with d19 | d19
  ·skip
   refine wq_region ?_
   refine wl_v (.pointer (some ⟨p1, 0, none⟩)) rfl rfl (y_fieldR (n := 1) rfl s17 Tryd.underlying68 rfl (by kernel_rfl) (by decide) rfl ⟨rfl, rfl⟩) ?_
   refine wl_v (.int .i64 ((f).W)) rfl rfl (y_ld_stc rfl rfl Tryd.underlying3 B4 rfl rfl ⟨rfl, rfl⟩) ?_
   refine wl_call (R := fun v_ w_ => v_ = .bool true ∧ Kept (fun _ => False) w2 w_) rfl rfl (y_cs rfl rfl rfl (fun _ _ => by kernel_rfl) (ev_func _) (vsC rfl vsN) (ps_side ((f).W)  _   ) (fun e_ w_ h_ => ⟨_, h_.1, (congrArg Value.bool d18), h_.2⟩)) ?_
   rintro _ w20 ⟨rfl, k21⟩
   have B22 := B10.all k21 Apart.none
   have B23 := B11.all k21 Apart.none
   have B24 := B12.all k21 Apart.none
   have B25 := B4.all k21 id
   have K26 := K13.trans k21 (fun _ _ x => x.elim)
   refine wl_v (.bool false) rfl rfl (y_not rfl rfl rfl ⟨rfl, rfl⟩) ?_
   refine wl_v (.bool false) rfl rfl (y_mov rfl rfl ⟨rfl, rfl⟩) ?_
   refine wl_vw (.pointer (some ⟨p1, 1, none⟩)) 4 false 11 rfl rfl rfl rfl rfl (y_fieldR (n := 1) rfl s17 Tryd.underlying68 rfl (by kernel_rfl) (by decide) rfl ⟨rfl, rfl⟩) ?_
   refine wl_vw (.int .i64 ((f).H)) 4 false 11 rfl rfl rfl rfl rfl (y_ld_stc rfl rfl Tryd.underlying3 B25 rfl rfl ⟨rfl, rfl⟩) ?_
   refine wl_callw (R := fun v_ w_ => v_ = .bool true ∧ Kept (fun _ => False) w20 w_) 4 false 11 rfl rfl rfl rfl rfl (y_cs rfl rfl rfl (fun _ _ => by kernel_rfl) (ev_func _) (vsC rfl vsN) (ps_side ((f).H)  _   ) (fun e_ w_ h_ => ⟨_, h_.1, (congrArg Value.bool d19), h_.2⟩)) ?_
   rintro _ w27 ⟨rfl, k28⟩
   have B29 := B22.all k28 Apart.none
   have B30 := B23.all k28 Apart.none
   have B31 := B24.all k28 Apart.none
   have B32 := B25.all k28 id
   have K33 := K26.trans k28 (fun _ _ x => x.elim)
   refine wl_vw (.bool false) 4 false 11 rfl rfl rfl rfl rfl (y_not rfl rfl rfl ⟨rfl, rfl⟩) ?_
   refine wl_v (.bool false) rfl rfl (y_pickF rfl rfl rfl ⟨rfl, rfl⟩) ?_
   refine wl_nil fun F34 hF35 => ?_
   have s36 := (hF35 36).trans s16
   have s37 := (hF35 1).trans s17
   have s38 : F34 16 = .bool false := (hF35 16).trans rfl
   clear hF35
   refine then_normal ?_
   refine wq_cond (t := false) s38 (fun e => by cases e) (fun _ => ?_)
   refine wq_skip ?_
   refine then_normal ?_
   refine wq_seq ?_
   refine wq_seq ?_
   have hsw : sideB f.W = true := by assumption
   have hsh : sideB f.H = true := by assumption
   have hws := (sideB_iff _).1 hsw
   have hhs := (sideB_iff _).1 hsh
   have hA := sides_area hsw hsh
   have har := area_bounds hsw hsh
   refine wq_region ?_
   refine wl_v (.pointer (some ⟨p1, 2, none⟩)) rfl rfl (y_fieldR (n := 3) rfl s37 Tryd.underlying68 rfl (by kernel_rfl) (by decide) rfl ⟨rfl, rfl⟩) ?_
   refine wl_v (.agg #[f0, f1, f2]) rfl rfl (y_ldPl rfl rfl B32 rfl rfl rfl ⟨rfl, rfl⟩) ?_
   refine wl_v (.int .i64 (0)) rfl rfl (y_mov rfl rfl ⟨rfl, rfl⟩) ?_
   refine wl_nil fun F39 hF40 => ?_
   have s41 := (hF40 36).trans s36
   have s42 := (hF40 1).trans s37
   have s43 : F39 18 = .agg #[f0, f1, f2] := (hF40 18).trans rfl
   have s44 : F39 19 = .int .i64 (0) := (hF40 19).trans rfl
   clear hF40
   refine then_normal ?_
   refine wq_block ?_
   refine wq_rounds 4 ?_
   refine wqr_step ?_
   refine wq_seq ?_
   refine wq_region ?_
   refine wl_v (.bool true) rfl rfl (y_lss rfl s44 rfl rfl ⟨rfl, rfl⟩) ?_
   refine wl_nil fun F45 hF46 => ?_
   have s47 := (hF46 36).trans s41
   have s48 := (hF46 1).trans s42
   have s49 := (hF46 18).trans s43
   have s50 := (hF46 19).trans s44
   have s51 : F45 20 = .bool true := (hF46 20).trans rfl
   clear hF46
   refine then_normal ?_
   refine wq_seq ?_
   refine wq_cond (t := true) s51 (fun _ => ?_) (fun e => by cases e)
   refine wq_skip ?_
   refine then_normal ?_
   refine wq_seq ?_
   refine wq_block ?_
   refine wq_seq ?_
   refine wq_region ?_
   refine wl_v (.int .i64 (0)) rfl rfl (y_mov rfl s50 ⟨rfl, rfl⟩) ?_
   refine wl_v (f0) rfl rfl (y_ixPl (0) rfl s49 s50 (by decide) rfl ⟨rfl, rfl⟩) ?_
   refine wl_v (.int .i64 (0)) rfl rfl (y_asg rfl rfl ⟨rfl, rfl⟩) ?_
   refine wl_v (f0) rfl rfl (y_asg rfl rfl ⟨rfl, rfl⟩) ?_
   refine wl_nil fun F52 hF53 => ?_
   have s54 := (hF53 36).trans s47
   have s55 := (hF53 1).trans s48
   have s56 := (hF53 18).trans s49
   have s57 := (hF53 19).trans s50
   have s58 : F52 3 = .int .i64 (0) := (hF53 3).trans rfl
   have s59 : F52 4 = f0 := (hF53 4).trans rfl
   clear hF53
   refine then_normal ?_
   refine wq_seq ?_
   refine wq_region ?_
   refine wl_v (.agg #[.int .i64 ((f).W), .int .i64 ((f).H), f0, f1, f2]) rfl rfl (y_load_stc stcT_frame rfl s55 B32 ⟨rfl, rfl⟩) ?_
   refine wl_v (.int .i64 (0)) rfl rfl (y_mov rfl s58 ⟨rfl, rfl⟩) ?_
   refine wl_call (R := fun v_ w_ => v_ = .tuple #[.int .i64 ((sidesF (f) (0)).1), .int .i64 ((sidesF (f) (0)).2)] ∧ Kept (fun _ => False) w27 w_) rfl rfl (y_cs rfl rfl rfl (fun _ _ => by kernel_rfl) (ev_func _) (vsC rfl (vsC rfl vsN)) (ps_sides (0) (f) (f0) (f1) (f2) (T_f0) (T_f1) (T_f2) _ (by omega) (by omega) B29 B30 B31 ) (fun e_ w_ h_ => ⟨_, h_.1, rfl, h_.2⟩)) ?_
   rintro _ w60 ⟨rfl, k61⟩
   have B62 := B29.all k61 Apart.none
   have B63 := B30.all k61 Apart.none
   have B64 := B31.all k61 Apart.none
   have B65 := B32.all k61 id
   have K66 := K33.trans k61 (fun _ _ x => x.elim)
   refine wl_v (.tuple #[.int .i64 ((sidesF (f) (0)).1), .int .i64 ((sidesF (f) (0)).2)]) rfl rfl (y_mov rfl rfl ⟨rfl, rfl⟩) ?_
   refine wl_v (.int .i64 ((sidesF (f) (0)).1)) rfl rfl (y_ext rfl rfl rfl ⟨rfl, rfl⟩) ?_
   refine wl_v (.int .i64 ((sidesF (f) (0)).2)) rfl rfl (y_ext rfl rfl rfl ⟨rfl, rfl⟩) ?_
   refine wl_v (.int .i64 ((sidesF (f) (0)).1)) rfl rfl (y_asg rfl rfl ⟨rfl, rfl⟩) ?_
   refine wl_v (.int .i64 ((sidesF (f) (0)).2)) rfl rfl (y_asg rfl rfl ⟨rfl, rfl⟩) ?_
   refine wl_nil fun F67 hF68 => ?_
   have s69 := (hF68 36).trans s54
   have s70 := (hF68 1).trans s55
   have s71 := (hF68 18).trans s56
   have s72 := (hF68 19).trans s57
   have s73 := (hF68 4).trans s59
   have s74 : F67 5 = .int .i64 ((sidesF (f) (0)).1) := (hF68 5).trans rfl
   have s75 : F67 6 = .int .i64 ((sidesF (f) (0)).2) := (hF68 6).trans rfl
   clear hF68
   refine then_normal ?_
   refine wq_seq ?_
   refine wq_region ?_
   refine wl_v (f0) rfl rfl (y_mov rfl s73 ⟨rfl, rfl⟩) ?_
   refine wl_v (.int .i64 (((((f).p0).length : Nat) : Int))) rfl rfl (y_lenV rfl rfl rfl B62 ⟨rfl, rfl⟩) ?_
   refine wl_v (.int .i64 ((sidesF (f) (0)).1)) rfl rfl (y_mov rfl s74 ⟨rfl, rfl⟩) ?_
   refine wl_v (.int .i64 ((sidesF (f) (0)).2)) rfl rfl (y_mov rfl s75 ⟨rfl, rfl⟩) ?_
   refine wl_v (.int .i64 ((sidesF f ((0 : Nat) : Int)).1 * (sidesF f ((0 : Nat) : Int)).2)) rfl rfl (y_mul rfl rfl rfl (i64_i rfl ⟨Int.le_trans (by decide) (hA _).1, Int.le_trans (hA _).2.1 (by decide)⟩) ⟨rfl, rfl⟩) ?_
   refine wl_v (.bool (decide ((((((f).p0).length : Nat) : Int)) ≠ ((sidesF f ((0 : Nat) : Int)).1 * (sidesF f ((0 : Nat) : Int)).2)))) rfl rfl (y_neqI rfl rfl rfl rfl ⟨rfl, rfl⟩) ?_
   refine wl_nil fun F76 hF77 => ?_
   have s78 := (hF77 36).trans s69
   have s79 := (hF77 1).trans s70
   have s80 := (hF77 18).trans s71
   have s81 := (hF77 19).trans s72
   have s82 : F76 34 = .bool (decide ((((((f).p0).length : Nat) : Int)) ≠ ((sidesF f ((0 : Nat) : Int)).1 * (sidesF f ((0 : Nat) : Int)).2))) := (hF77 34).trans rfl
   clear hF77
   refine then_normal ?_
   refine wq_cond s82 (fun c83 => ?_) (fun c83 => ?_)
   ·replace c83 := of_decide_eq_true c83
    refine wq_seq ?_
    refine wq_region ?_
    refine wl_v (.int .i64 (70)) rfl rfl (y_asg rfl rfl ⟨rfl, rfl⟩) ?_
    refine wl_nil fun F84 hF85 => ?_
    have s86 := (hF85 36).trans s78
    have s87 : F84 2 = .int .i64 (70) := (hF85 2).trans rfl
    clear hF85
    refine then_normal ?_
    refine wq_ret ?_
    refine in_ret ?_
    refine then_ret ?_
    refine then_ret ?_
    refine in_ret ?_
    refine then_ret ?_
    exact end_tmp (v := .int .i64 (70)) s86 rfl rfl s87 ⟨(by first | rw [check_yes hsw hsh (by first | assumption | (apply Decidable.byContradiction; assumption)) (by first | assumption | (apply Decidable.byContradiction; assumption)) (by first | assumption | (apply Decidable.byContradiction; assumption))] | rw [check_no0 hsw hsh (by assumption)] | rw [check_no1 hsw hsh (by assumption)] | rw [check_no2 hsw hsh (by assumption)] | rw [checkE_no (by rintro ⟨h1, h2, h3, h4, h5⟩; simp_all; done)]), K66⟩
   ·replace c83 := of_decide_eq_false c83
    refine wq_skip ?_
    refine in_normal ?_
    refine then_normal ?_
    refine wq_region ?_
    refine wl_v (.int .i64 (((1 : Nat) : Int))) rfl rfl (y_add rfl s81 rfl (i64_n (by omega) (by omega)) ⟨rfl, rfl⟩) ?_
    refine wl_v (.int .i64 (((1 : Nat) : Int))) rfl rfl (y_mov rfl rfl ⟨rfl, rfl⟩) ?_
    refine wl_nil fun F88 hF89 => ?_
    have s90 := (hF89 36).trans s78
    have s91 := (hF89 1).trans s79
    have s92 := (hF89 18).trans s80
    have s93 : F88 19 = .int .i64 (((1 : Nat) : Int)) := (hF89 19).trans rfl
    clear hF89
    refine then_normal ?_
    refine wqr_step ?_
    refine wq_seq ?_
    refine wq_region ?_
    refine wl_v (.bool true) rfl rfl (y_lss rfl s93 rfl rfl ⟨rfl, rfl⟩) ?_
    refine wl_nil fun F94 hF95 => ?_
    have s96 := (hF95 36).trans s90
    have s97 := (hF95 1).trans s91
    have s98 := (hF95 18).trans s92
    have s99 := (hF95 19).trans s93
    have s100 : F94 20 = .bool true := (hF95 20).trans rfl
    clear hF95
    refine then_normal ?_
    refine wq_seq ?_
    refine wq_cond (t := true) s100 (fun _ => ?_) (fun e => by cases e)
    refine wq_skip ?_
    refine then_normal ?_
    refine wq_seq ?_
    refine wq_block ?_
    refine wq_seq ?_
    refine wq_region ?_
    refine wl_v (.int .i64 (((1 : Nat) : Int))) rfl rfl (y_mov rfl s99 ⟨rfl, rfl⟩) ?_
    refine wl_v (f1) rfl rfl (y_ixPl (1) rfl s98 s99 (by decide) rfl ⟨rfl, rfl⟩) ?_
    refine wl_v (.int .i64 (((1 : Nat) : Int))) rfl rfl (y_asg rfl rfl ⟨rfl, rfl⟩) ?_
    refine wl_v (f1) rfl rfl (y_asg rfl rfl ⟨rfl, rfl⟩) ?_
    refine wl_nil fun F101 hF102 => ?_
    have s103 := (hF102 36).trans s96
    have s104 := (hF102 1).trans s97
    have s105 := (hF102 18).trans s98
    have s106 := (hF102 19).trans s99
    have s107 : F101 3 = .int .i64 (((1 : Nat) : Int)) := (hF102 3).trans rfl
    have s108 : F101 4 = f1 := (hF102 4).trans rfl
    clear hF102
    refine then_normal ?_
    refine wq_seq ?_
    refine wq_region ?_
    refine wl_v (.agg #[.int .i64 ((f).W), .int .i64 ((f).H), f0, f1, f2]) rfl rfl (y_load_stc stcT_frame rfl s104 B65 ⟨rfl, rfl⟩) ?_
    refine wl_v (.int .i64 (((1 : Nat) : Int))) rfl rfl (y_mov rfl s107 ⟨rfl, rfl⟩) ?_
    refine wl_call (R := fun v_ w_ => v_ = .tuple #[.int .i64 ((sidesF (f) (((1 : Nat) : Int))).1), .int .i64 ((sidesF (f) (((1 : Nat) : Int))).2)] ∧ Kept (fun _ => False) w60 w_) rfl rfl (y_cs rfl rfl rfl (fun _ _ => by kernel_rfl) (ev_func _) (vsC rfl (vsC rfl vsN)) (ps_sides (((1 : Nat) : Int)) (f) (f0) (f1) (f2) (T_f0) (T_f1) (T_f2) _ (by omega) (by omega) B62 B63 B64 ) (fun e_ w_ h_ => ⟨_, h_.1, rfl, h_.2⟩)) ?_
    rintro _ w109 ⟨rfl, k110⟩
    have B111 := B62.all k110 Apart.none
    have B112 := B63.all k110 Apart.none
    have B113 := B64.all k110 Apart.none
    have B114 := B65.all k110 id
    have K115 := K66.trans k110 (fun _ _ x => x.elim)
    refine wl_v (.tuple #[.int .i64 ((sidesF (f) (((1 : Nat) : Int))).1), .int .i64 ((sidesF (f) (((1 : Nat) : Int))).2)]) rfl rfl (y_mov rfl rfl ⟨rfl, rfl⟩) ?_
    refine wl_v (.int .i64 ((sidesF (f) (((1 : Nat) : Int))).1)) rfl rfl (y_ext rfl rfl rfl ⟨rfl, rfl⟩) ?_
    refine wl_v (.int .i64 ((sidesF (f) (((1 : Nat) : Int))).2)) rfl rfl (y_ext rfl rfl rfl ⟨rfl, rfl⟩) ?_
    refine wl_v (.int .i64 ((sidesF (f) (((1 : Nat) : Int))).1)) rfl rfl (y_asg rfl rfl ⟨rfl, rfl⟩) ?_
    refine wl_v (.int .i64 ((sidesF (f) (((1 : Nat) : Int))).2)) rfl rfl (y_asg rfl rfl ⟨rfl, rfl⟩) ?_
    refine wl_nil fun F116 hF117 => ?_
    have s118 := (hF117 36).trans s103
    have s119 := (hF117 1).trans s104
    have s120 := (hF117 18).trans s105
    have s121 := (hF117 19).trans s106
    have s122 := (hF117 4).trans s108
    have s123 : F116 5 = .int .i64 ((sidesF (f) (((1 : Nat) : Int))).1) := (hF117 5).trans rfl
    have s124 : F116 6 = .int .i64 ((sidesF (f) (((1 : Nat) : Int))).2) := (hF117 6).trans rfl
    clear hF117
    refine then_normal ?_
    refine wq_seq ?_
    refine wq_region ?_
    refine wl_v (f1) rfl rfl (y_mov rfl s122 ⟨rfl, rfl⟩) ?_
    refine wl_v (.int .i64 (((((f).p1).length : Nat) : Int))) rfl rfl (y_lenV rfl rfl rfl B112 ⟨rfl, rfl⟩) ?_
    refine wl_v (.int .i64 ((sidesF (f) (((1 : Nat) : Int))).1)) rfl rfl (y_mov rfl s123 ⟨rfl, rfl⟩) ?_
    refine wl_v (.int .i64 ((sidesF (f) (((1 : Nat) : Int))).2)) rfl rfl (y_mov rfl s124 ⟨rfl, rfl⟩) ?_
    refine wl_v (.int .i64 ((sidesF f ((1 : Nat) : Int)).1 * (sidesF f ((1 : Nat) : Int)).2)) rfl rfl (y_mul rfl rfl rfl (i64_i rfl ⟨Int.le_trans (by decide) (hA _).1, Int.le_trans (hA _).2.1 (by decide)⟩) ⟨rfl, rfl⟩) ?_
    refine wl_v (.bool (decide ((((((f).p1).length : Nat) : Int)) ≠ ((sidesF f ((1 : Nat) : Int)).1 * (sidesF f ((1 : Nat) : Int)).2)))) rfl rfl (y_neqI rfl rfl rfl rfl ⟨rfl, rfl⟩) ?_
    refine wl_nil fun F125 hF126 => ?_
    have s127 := (hF126 36).trans s118
    have s128 := (hF126 1).trans s119
    have s129 := (hF126 18).trans s120
    have s130 := (hF126 19).trans s121
    have s131 : F125 34 = .bool (decide ((((((f).p1).length : Nat) : Int)) ≠ ((sidesF f ((1 : Nat) : Int)).1 * (sidesF f ((1 : Nat) : Int)).2))) := (hF126 34).trans rfl
    clear hF126
    refine then_normal ?_
    refine wq_cond s131 (fun c132 => ?_) (fun c132 => ?_)
    ·replace c132 := of_decide_eq_true c132
     refine wq_seq ?_
     refine wq_region ?_
     refine wl_v (.int .i64 (70)) rfl rfl (y_asg rfl rfl ⟨rfl, rfl⟩) ?_
     refine wl_nil fun F133 hF134 => ?_
     have s135 := (hF134 36).trans s127
     have s136 : F133 2 = .int .i64 (70) := (hF134 2).trans rfl
     clear hF134
     refine then_normal ?_
     refine wq_ret ?_
     refine in_ret ?_
     refine then_ret ?_
     refine then_ret ?_
     refine in_ret ?_
     refine then_ret ?_
     exact end_tmp (v := .int .i64 (70)) s135 rfl rfl s136 ⟨(by first | rw [check_yes hsw hsh (by first | assumption | (apply Decidable.byContradiction; assumption)) (by first | assumption | (apply Decidable.byContradiction; assumption)) (by first | assumption | (apply Decidable.byContradiction; assumption))] | rw [check_no0 hsw hsh (by assumption)] | rw [check_no1 hsw hsh (by assumption)] | rw [check_no2 hsw hsh (by assumption)] | rw [checkE_no (by rintro ⟨h1, h2, h3, h4, h5⟩; simp_all; done)]), K115⟩
    ·replace c132 := of_decide_eq_false c132
     refine wq_skip ?_
     refine in_normal ?_
     refine then_normal ?_
     refine wq_region ?_
     refine wl_v (.int .i64 (((2 : Nat) : Int))) rfl rfl (y_add rfl s130 rfl (i64_n (by omega) (by omega)) ⟨rfl, rfl⟩) ?_
     refine wl_v (.int .i64 (((2 : Nat) : Int))) rfl rfl (y_mov rfl rfl ⟨rfl, rfl⟩) ?_
     refine wl_nil fun F137 hF138 => ?_
     have s139 := (hF138 36).trans s127
     have s140 := (hF138 1).trans s128
     have s141 := (hF138 18).trans s129
     have s142 : F137 19 = .int .i64 (((2 : Nat) : Int)) := (hF138 19).trans rfl
     clear hF138
     refine then_normal ?_
     refine wqr_step ?_
     refine wq_seq ?_
     refine wq_region ?_
     refine wl_v (.bool true) rfl rfl (y_lss rfl s142 rfl rfl ⟨rfl, rfl⟩) ?_
     refine wl_nil fun F143 hF144 => ?_
     have s145 := (hF144 36).trans s139
     have s146 := (hF144 1).trans s140
     have s147 := (hF144 18).trans s141
     have s148 := (hF144 19).trans s142
     have s149 : F143 20 = .bool true := (hF144 20).trans rfl
     clear hF144
     refine then_normal ?_
     refine wq_seq ?_
     refine wq_cond (t := true) s149 (fun _ => ?_) (fun e => by cases e)
     refine wq_skip ?_
     refine then_normal ?_
     refine wq_seq ?_
     refine wq_block ?_
     refine wq_seq ?_
     refine wq_region ?_
     refine wl_v (.int .i64 (((2 : Nat) : Int))) rfl rfl (y_mov rfl s148 ⟨rfl, rfl⟩) ?_
     refine wl_v (f2) rfl rfl (y_ixPl (2) rfl s147 s148 (by decide) rfl ⟨rfl, rfl⟩) ?_
     refine wl_v (.int .i64 (((2 : Nat) : Int))) rfl rfl (y_asg rfl rfl ⟨rfl, rfl⟩) ?_
     refine wl_v (f2) rfl rfl (y_asg rfl rfl ⟨rfl, rfl⟩) ?_
     refine wl_nil fun F150 hF151 => ?_
     have s152 := (hF151 36).trans s145
     have s153 := (hF151 1).trans s146
     have s155 := (hF151 19).trans s148
     have s156 : F150 3 = .int .i64 (((2 : Nat) : Int)) := (hF151 3).trans rfl
     have s157 : F150 4 = f2 := (hF151 4).trans rfl
     clear hF151
     refine then_normal ?_
     refine wq_seq ?_
     refine wq_region ?_
     refine wl_v (.agg #[.int .i64 ((f).W), .int .i64 ((f).H), f0, f1, f2]) rfl rfl (y_load_stc stcT_frame rfl s153 B114 ⟨rfl, rfl⟩) ?_
     refine wl_v (.int .i64 (((2 : Nat) : Int))) rfl rfl (y_mov rfl s156 ⟨rfl, rfl⟩) ?_
     refine wl_call (R := fun v_ w_ => v_ = .tuple #[.int .i64 ((sidesF (f) (((2 : Nat) : Int))).1), .int .i64 ((sidesF (f) (((2 : Nat) : Int))).2)] ∧ Kept (fun _ => False) w109 w_) rfl rfl (y_cs rfl rfl rfl (fun _ _ => by kernel_rfl) (ev_func _) (vsC rfl (vsC rfl vsN)) (ps_sides (((2 : Nat) : Int)) (f) (f0) (f1) (f2) (T_f0) (T_f1) (T_f2) _ (by omega) (by omega) B111 B112 B113 ) (fun e_ w_ h_ => ⟨_, h_.1, rfl, h_.2⟩)) ?_
     rintro _ w158 ⟨rfl, k159⟩
     have B162 := B113.all k159 Apart.none
     have K164 := K115.trans k159 (fun _ _ x => x.elim)
     refine wl_v (.tuple #[.int .i64 ((sidesF (f) (((2 : Nat) : Int))).1), .int .i64 ((sidesF (f) (((2 : Nat) : Int))).2)]) rfl rfl (y_mov rfl rfl ⟨rfl, rfl⟩) ?_
     refine wl_v (.int .i64 ((sidesF (f) (((2 : Nat) : Int))).1)) rfl rfl (y_ext rfl rfl rfl ⟨rfl, rfl⟩) ?_
     refine wl_v (.int .i64 ((sidesF (f) (((2 : Nat) : Int))).2)) rfl rfl (y_ext rfl rfl rfl ⟨rfl, rfl⟩) ?_
     refine wl_v (.int .i64 ((sidesF (f) (((2 : Nat) : Int))).1)) rfl rfl (y_asg rfl rfl ⟨rfl, rfl⟩) ?_
     refine wl_v (.int .i64 ((sidesF (f) (((2 : Nat) : Int))).2)) rfl rfl (y_asg rfl rfl ⟨rfl, rfl⟩) ?_
     refine wl_nil fun F165 hF166 => ?_
     have s167 := (hF166 36).trans s152
     have s170 := (hF166 19).trans s155
     have s171 := (hF166 4).trans s157
     have s172 : F165 5 = .int .i64 ((sidesF (f) (((2 : Nat) : Int))).1) := (hF166 5).trans rfl
     have s173 : F165 6 = .int .i64 ((sidesF (f) (((2 : Nat) : Int))).2) := (hF166 6).trans rfl
     clear hF166
     refine then_normal ?_
     refine wq_seq ?_
     refine wq_region ?_
     refine wl_v (f2) rfl rfl (y_mov rfl s171 ⟨rfl, rfl⟩) ?_
     refine wl_v (.int .i64 (((((f).p2).length : Nat) : Int))) rfl rfl (y_lenV rfl rfl rfl B162 ⟨rfl, rfl⟩) ?_
     refine wl_v (.int .i64 ((sidesF (f) (((2 : Nat) : Int))).1)) rfl rfl (y_mov rfl s172 ⟨rfl, rfl⟩) ?_
     refine wl_v (.int .i64 ((sidesF (f) (((2 : Nat) : Int))).2)) rfl rfl (y_mov rfl s173 ⟨rfl, rfl⟩) ?_
     refine wl_v (.int .i64 ((sidesF f ((2 : Nat) : Int)).1 * (sidesF f ((2 : Nat) : Int)).2)) rfl rfl (y_mul rfl rfl rfl (i64_i rfl ⟨Int.le_trans (by decide) (hA _).1, Int.le_trans (hA _).2.1 (by decide)⟩) ⟨rfl, rfl⟩) ?_
     refine wl_v (.bool (decide ((((((f).p2).length : Nat) : Int)) ≠ ((sidesF f ((2 : Nat) : Int)).1 * (sidesF f ((2 : Nat) : Int)).2)))) rfl rfl (y_neqI rfl rfl rfl rfl ⟨rfl, rfl⟩) ?_
     refine wl_nil fun F174 hF175 => ?_
     have s176 := (hF175 36).trans s167
     have s179 := (hF175 19).trans s170
     have s180 : F174 34 = .bool (decide ((((((f).p2).length : Nat) : Int)) ≠ ((sidesF f ((2 : Nat) : Int)).1 * (sidesF f ((2 : Nat) : Int)).2))) := (hF175 34).trans rfl
     clear hF175
     refine then_normal ?_
     refine wq_cond s180 (fun c181 => ?_) (fun c181 => ?_)
     ·replace c181 := of_decide_eq_true c181
      refine wq_seq ?_
      refine wq_region ?_
      refine wl_v (.int .i64 (70)) rfl rfl (y_asg rfl rfl ⟨rfl, rfl⟩) ?_
      refine wl_nil fun F182 hF183 => ?_
      have s184 := (hF183 36).trans s176
      have s185 : F182 2 = .int .i64 (70) := (hF183 2).trans rfl
      clear hF183
      refine then_normal ?_
      refine wq_ret ?_
      refine in_ret ?_
      refine then_ret ?_
      refine then_ret ?_
      refine in_ret ?_
      refine then_ret ?_
      exact end_tmp (v := .int .i64 (70)) s184 rfl rfl s185 ⟨(by first | rw [check_yes hsw hsh (by first | assumption | (apply Decidable.byContradiction; assumption)) (by first | assumption | (apply Decidable.byContradiction; assumption)) (by first | assumption | (apply Decidable.byContradiction; assumption))] | rw [check_no0 hsw hsh (by assumption)] | rw [check_no1 hsw hsh (by assumption)] | rw [check_no2 hsw hsh (by assumption)] | rw [checkE_no (by rintro ⟨h1, h2, h3, h4, h5⟩; simp_all; done)]), K164⟩
     ·replace c181 := of_decide_eq_false c181
      refine wq_skip ?_
      refine in_normal ?_
      refine then_normal ?_
      refine wq_region ?_
      refine wl_v (.int .i64 (((3 : Nat) : Int))) rfl rfl (y_add rfl s179 rfl (i64_n (by omega) (by omega)) ⟨rfl, rfl⟩) ?_
      refine wl_v (.int .i64 (((3 : Nat) : Int))) rfl rfl (y_mov rfl rfl ⟨rfl, rfl⟩) ?_
      refine wl_nil fun F186 hF187 => ?_
      have s188 := (hF187 36).trans s176
      have s191 : F186 19 = .int .i64 (((3 : Nat) : Int)) := (hF187 19).trans rfl
      clear hF187
      refine then_normal ?_
      refine wqr_step ?_
      refine wq_seq ?_
      refine wq_region ?_
      refine wl_v (.bool false) rfl rfl (y_lss rfl s191 rfl rfl ⟨rfl, rfl⟩) ?_
      refine wl_nil fun F192 hF193 => ?_
      have s194 := (hF193 36).trans s188
      have s198 : F192 20 = .bool false := (hF193 20).trans rfl
      clear hF193
      refine then_normal ?_
      refine wq_seq ?_
      refine wq_cond (t := false) s198 (fun e => by cases e) (fun _ => ?_)
      refine wq_exit ?_
      refine then_exit ?_
      refine then_exit ?_
      refine in_here ?_
      refine then_normal ?_
      refine wq_seq ?_
      refine wq_region ?_
      refine wl_v (.int .i64 (0)) rfl rfl (y_asg rfl rfl ⟨rfl, rfl⟩) ?_
      refine wl_nil fun F199 hF200 => ?_
      have s201 := (hF200 36).trans s194
      have s202 : F199 2 = .int .i64 (0) := (hF200 2).trans rfl
      clear hF200
      refine then_normal ?_
      refine wq_ret ?_
      exact end_tmp (v := .int .i64 (0)) s201 rfl rfl s202 ⟨(by first | rw [check_yes hsw hsh (by first | assumption | (apply Decidable.byContradiction; assumption)) (by first | assumption | (apply Decidable.byContradiction; assumption)) (by first | assumption | (apply Decidable.byContradiction; assumption))] | rw [check_no0 hsw hsh (by assumption)] | rw [check_no1 hsw hsh (by assumption)] | rw [check_no2 hsw hsh (by assumption)] | rw [checkE_no (by rintro ⟨h1, h2, h3, h4, h5⟩; simp_all; done)]), K164⟩
  ·skip
   refine wq_region ?_
   refine wl_v (.pointer (some ⟨p1, 0, none⟩)) rfl rfl (y_fieldR (n := 1) rfl s17 Tryd.underlying68 rfl (by kernel_rfl) (by decide) rfl ⟨rfl, rfl⟩) ?_
   refine wl_v (.int .i64 ((f).W)) rfl rfl (y_ld_stc rfl rfl Tryd.underlying3 B4 rfl rfl ⟨rfl, rfl⟩) ?_
   refine wl_call (R := fun v_ w_ => v_ = .bool true ∧ Kept (fun _ => False) w2 w_) rfl rfl (y_cs rfl rfl rfl (fun _ _ => by kernel_rfl) (ev_func _) (vsC rfl vsN) (ps_side ((f).W)  _   ) (fun e_ w_ h_ => ⟨_, h_.1, (congrArg Value.bool d18), h_.2⟩)) ?_
   rintro _ w203 ⟨rfl, k204⟩
   have B208 := B4.all k204 id
   have K209 := K13.trans k204 (fun _ _ x => x.elim)
   refine wl_v (.bool false) rfl rfl (y_not rfl rfl rfl ⟨rfl, rfl⟩) ?_
   refine wl_v (.bool false) rfl rfl (y_mov rfl rfl ⟨rfl, rfl⟩) ?_
   refine wl_vw (.pointer (some ⟨p1, 1, none⟩)) 4 false 11 rfl rfl rfl rfl rfl (y_fieldR (n := 1) rfl s17 Tryd.underlying68 rfl (by kernel_rfl) (by decide) rfl ⟨rfl, rfl⟩) ?_
   refine wl_vw (.int .i64 ((f).H)) 4 false 11 rfl rfl rfl rfl rfl (y_ld_stc rfl rfl Tryd.underlying3 B208 rfl rfl ⟨rfl, rfl⟩) ?_
   refine wl_callw (R := fun v_ w_ => v_ = .bool false ∧ Kept (fun _ => False) w203 w_) 4 false 11 rfl rfl rfl rfl rfl (y_cs rfl rfl rfl (fun _ _ => by kernel_rfl) (ev_func _) (vsC rfl vsN) (ps_side ((f).H)  _   ) (fun e_ w_ h_ => ⟨_, h_.1, (congrArg Value.bool d19), h_.2⟩)) ?_
   rintro _ w210 ⟨rfl, k211⟩
   have K216 := K209.trans k211 (fun _ _ x => x.elim)
   refine wl_vw (.bool true) 4 false 11 rfl rfl rfl rfl rfl (y_not rfl rfl rfl ⟨rfl, rfl⟩) ?_
   refine wl_v (.bool true) rfl rfl (y_pickF rfl rfl rfl ⟨rfl, rfl⟩) ?_
   refine wl_nil fun F217 hF218 => ?_
   have s219 := (hF218 36).trans s16
   have s221 : F217 16 = .bool true := (hF218 16).trans rfl
   clear hF218
   refine then_normal ?_
   refine wq_cond (t := true) s221 (fun _ => ?_) (fun e => by cases e)
   refine wq_seq ?_
   refine wq_region ?_
   refine wl_v (.int .i64 (70)) rfl rfl (y_asg rfl rfl ⟨rfl, rfl⟩) ?_
   refine wl_nil fun F222 hF223 => ?_
   have s224 := (hF223 36).trans s219
   have s225 : F222 2 = .int .i64 (70) := (hF223 2).trans rfl
   clear hF223
   refine then_normal ?_
   refine wq_ret ?_
   refine then_ret ?_
   exact end_tmp (v := .int .i64 (70)) s224 rfl rfl s225 ⟨(by first | rw [check_yes hsw hsh (by first | assumption | (apply Decidable.byContradiction; assumption)) (by first | assumption | (apply Decidable.byContradiction; assumption)) (by first | assumption | (apply Decidable.byContradiction; assumption))] | rw [check_no0 hsw hsh (by assumption)] | rw [check_no1 hsw hsh (by assumption)] | rw [check_no2 hsw hsh (by assumption)] | rw [checkE_no (by rintro ⟨h1, h2, h3, h4, h5⟩; simp_all; done)]), K216⟩
 ·skip
  refine wq_region ?_
  refine wl_v (.pointer (some ⟨p1, 0, none⟩)) rfl rfl (y_fieldR (n := 1) rfl s17 Tryd.underlying68 rfl (by kernel_rfl) (by decide) rfl ⟨rfl, rfl⟩) ?_
  refine wl_v (.int .i64 ((f).W)) rfl rfl (y_ld_stc rfl rfl Tryd.underlying3 B4 rfl rfl ⟨rfl, rfl⟩) ?_
  refine wl_call (R := fun v_ w_ => v_ = .bool false ∧ Kept (fun _ => False) w2 w_) rfl rfl (y_cs rfl rfl rfl (fun _ _ => by kernel_rfl) (ev_func _) (vsC rfl vsN) (ps_side ((f).W)  _   ) (fun e_ w_ h_ => ⟨_, h_.1, (congrArg Value.bool d18), h_.2⟩)) ?_
  rintro _ w226 ⟨rfl, k227⟩
  have K232 := K13.trans k227 (fun _ _ x => x.elim)
  refine wl_v (.bool true) rfl rfl (y_not rfl rfl rfl ⟨rfl, rfl⟩) ?_
  refine wl_v (.bool true) rfl rfl (y_mov rfl rfl ⟨rfl, rfl⟩) ?_
  refine wl_unless 4 false 11 rfl rfl rfl (Or.inl rfl) rfl ?_
  refine wl_unless 4 false 11 rfl rfl rfl (Or.inl rfl) rfl ?_
  refine wl_unless 4 false 11 rfl rfl rfl (Or.inl rfl) rfl ?_
  refine wl_unless 4 false 11 rfl rfl rfl (Or.inl rfl) rfl ?_
  refine wl_v (.bool true) rfl rfl (y_pickT rfl rfl rfl ⟨rfl, rfl⟩) ?_
  refine wl_nil fun F233 hF234 => ?_
  have s235 := (hF234 36).trans s16
  have s237 : F233 16 = .bool true := (hF234 16).trans rfl
  clear hF234
  refine then_normal ?_
  refine wq_cond (t := true) s237 (fun _ => ?_) (fun e => by cases e)
  refine wq_seq ?_
  refine wq_region ?_
  refine wl_v (.int .i64 (70)) rfl rfl (y_asg rfl rfl ⟨rfl, rfl⟩) ?_
  refine wl_nil fun F238 hF239 => ?_
  have s240 := (hF239 36).trans s235
  have s241 : F238 2 = .int .i64 (70) := (hF239 2).trans rfl
  clear hF239
  refine then_normal ?_
  refine wq_ret ?_
  refine then_ret ?_
  exact end_tmp (v := .int .i64 (70)) s240 rfl rfl s241 ⟨(by first | rw [check_yes hsw hsh (by first | assumption | (apply Decidable.byContradiction; assumption)) (by first | assumption | (apply Decidable.byContradiction; assumption)) (by first | assumption | (apply Decidable.byContradiction; assumption))] | rw [check_no0 hsw hsh (by assumption)] | rw [check_no1 hsw hsh (by assumption)] | rw [check_no2 hsw hsh (by assumption)] | rw [checkE_no (by rintro ⟨h1, h2, h3, h4, h5⟩; simp_all; done)]), K232⟩

set_option maxHeartbeats 4000000 in
set_option maxRecDepth 100000 in
theorem ps_row (v : Value) (l : List Nat) (w y : Int) (T_s : Nat → Prop) (w0 : World) (hw : 0 ≤ w ∧ w ≤ 64) (hy : 0 ≤ y ∧ y ≤ 64) (hl : y * w + w ≤ (l.length : Int)) (hyw : 0 ≤ y * w ∧ y * w ≤ 4096) (h_s : Byt w0 T_s v (l)) :
  Calls Tryd.prog 96 #[v, .int .i64 (w), .int .i64 (y)] w0 fun e w' => e = .returned (subV (v) ((y * w).toNat) ((y * w + w).toNat) ((y * w + w).toNat)) ∧ Kept (fun _ => False) w0 w' := by
 refine calls_wq (args := [v, .int .i64 (w), .int .i64 (y)]) 20 Tryd.func96 rfl rfl (Nat.le_of_ble_eq_true rfl) ?_
 have K0 := Kept.refl (fun _ => False) w0
 have g_s := Grew.refl w0 T_s
 refine wq_seq ?_
 refine wq_region ?_
 refine wl_v (.slice none 0 0) rfl rfl (y_asg rfl rfl ⟨rfl, rfl⟩) ?_
 refine wl_nil fun F1 hF2 => ?_
 have s3 : F1 0 = v := (hF2 0).trans rfl
 have s4 : F1 1 = .int .i64 (w) := (hF2 1).trans rfl
 have s5 : F1 2 = .int .i64 (y) := (hF2 2).trans rfl
 have s6 : F1 20 = undef := (hF2 20).trans rfl
 clear hF2
 refine then_normal ?_
 refine wq_seq ?_
 refine wq_region ?_
 refine wl_v (v) rfl rfl (y_mov rfl s3 ⟨rfl, rfl⟩) ?_
 refine wl_v (.int .i64 (y)) rfl rfl (y_mov rfl s5 ⟨rfl, rfl⟩) ?_
 refine wl_v (.int .i64 (w)) rfl rfl (y_mov rfl s4 ⟨rfl, rfl⟩) ?_
 refine wl_v (.int .i64 (y * w)) rfl rfl (y_mul rfl rfl rfl (i64_i rfl (by omega)) ⟨rfl, rfl⟩) ?_
 refine wl_v (.int .i64 (y)) rfl rfl (y_mov rfl s5 ⟨rfl, rfl⟩) ?_
 refine wl_v (.int .i64 ((y) + (1))) rfl rfl (y_add rfl rfl rfl (i64_i rfl (by omega)) ⟨rfl, rfl⟩) ?_
 refine wl_v (.int .i64 (w)) rfl rfl (y_mov rfl s4 ⟨rfl, rfl⟩) ?_
 refine wl_v (.int .i64 (y * w + w)) rfl rfl (y_mul rfl rfl rfl (i64_i (by rw [Int.add_mul, Int.one_mul]) (by omega)) ⟨rfl, rfl⟩) ?_
 refine wl_v (.int .i64 (y)) rfl rfl (y_mov rfl s5 ⟨rfl, rfl⟩) ?_
 refine wl_v (.int .i64 ((y) + (1))) rfl rfl (y_add rfl rfl rfl (i64_i rfl (by omega)) ⟨rfl, rfl⟩) ?_
 refine wl_v (.int .i64 (w)) rfl rfl (y_mov rfl s4 ⟨rfl, rfl⟩) ?_
 refine wl_v (.int .i64 (y * w + w)) rfl rfl (y_mul rfl rfl rfl (i64_i (by rw [Int.add_mul, Int.one_mul]) (by omega)) ⟨rfl, rfl⟩) ?_
 refine wl_v (subV (v) ((y * w).toNat) ((y * w + w).toNat) ((y * w + w).toNat)) rfl rfl (y_cut3 ((y * w).toNat) ((y * w + w).toNat) ((y * w + w).toNat) rfl rfl rfl rfl rfl (by omega) (by omega) (by omega) h_s (by omega) (by omega) (by omega) ⟨rfl, rfl⟩) ?_
 refine wl_v (subV (v) ((y * w).toNat) ((y * w + w).toNat) ((y * w + w).toNat)) rfl rfl (y_asg rfl rfl ⟨rfl, rfl⟩) ?_
 refine wl_nil fun F7 hF8 => ?_
 have s9 := (hF8 20).trans s6
 have s10 : F7 6 = subV (v) ((y * w).toNat) ((y * w + w).toNat) ((y * w + w).toNat) := (hF8 6).trans rfl
 clear hF8
 refine then_normal ?_
 refine wq_ret ?_
 exact end_tmp (v := subV (v) ((y * w).toNat) ((y * w + w).toNat) ((y * w + w).toNat)) s9 rfl rfl s10 ⟨rfl, K0⟩

def nearS (l : List Nat) (w h x y : Int) : Int := ((l.getD ((max 0 (min y (h - 1)) * w).toNat + (max 0 (min x (w - 1))).toNat) 0 : Nat) : Int)
set_option maxHeartbeats 4000000 in
set_option maxRecDepth 100000 in
theorem ps_nearest (v : Value) (l : List Nat) (w h x y : Int) (T_s : Nat → Prop) (w0 : World) (hw : 0 < w ∧ w ≤ 64) (hh : 0 < h ∧ h ≤ 64) (hl : max 0 (min y (h - 1)) * w + w ≤ (l.length : Int)) (hyw : 0 ≤ max 0 (min y (h - 1)) * w ∧ max 0 (min y (h - 1)) * w ≤ 4096) (h_s : Byt w0 T_s v (l)) :
  Calls Tryd.prog 68 #[v, .int .i64 (w), .int .i64 (h), .int .i64 (x), .int .i64 (y)] w0 fun e w' => e = .returned (.int .i64 (nearS l w h x y)) ∧ Kept (fun _ => False) w0 w' := by
 refine calls_wq (args := [v, .int .i64 (w), .int .i64 (h), .int .i64 (x), .int .i64 (y)]) 25 Tryd.func68 rfl rfl (Nat.le_of_ble_eq_true rfl) ?_
 have K0 := Kept.refl (fun _ => False) w0
 have g_s := Grew.refl w0 T_s
 refine wq_seq ?_
 refine wq_region ?_
 refine wl_v (.int .i64 (0)) rfl rfl (y_asg rfl rfl ⟨rfl, rfl⟩) ?_
 refine wl_nil fun F1 hF2 => ?_
 have s3 : F1 0 = v := (hF2 0).trans rfl
 have s4 : F1 1 = .int .i64 (w) := (hF2 1).trans rfl
 have s5 : F1 2 = .int .i64 (h) := (hF2 2).trans rfl
 have s6 : F1 3 = .int .i64 (x) := (hF2 3).trans rfl
 have s7 : F1 4 = .int .i64 (y) := (hF2 4).trans rfl
 have s8 : F1 25 = undef := (hF2 25).trans rfl
 clear hF2
 refine then_normal ?_
 refine wq_seq ?_
 refine wq_region ?_
 refine wl_v (v) rfl rfl (y_mov rfl s3 ⟨rfl, rfl⟩) ?_
 refine wl_v (.int .i64 (w)) rfl rfl (y_mov rfl s4 ⟨rfl, rfl⟩) ?_
 refine wl_v (.int .i64 (y)) rfl rfl (y_mov rfl s7 ⟨rfl, rfl⟩) ?_
 refine wl_v (.int .i64 (h)) rfl rfl (y_mov rfl s5 ⟨rfl, rfl⟩) ?_
 refine wl_v (.int .i64 ((h) - (1))) rfl rfl (y_sub rfl rfl rfl (i64_i rfl (by omega)) ⟨rfl, rfl⟩) ?_
 refine wl_call (R := fun v_ w_ => v_ = .int .i64 (max (0) (min (y) ((h) - (1)))) ∧ Kept (fun _ => False) w0 w_) rfl rfl (y_cs rfl rfl rfl (fun _ _ => by kernel_rfl) (ev_func _) (vsC rfl (vsC rfl (vsC rfl vsN))) (ps_clamped (y) (0) ((h) - (1))  _   ) (fun e_ w_ h_ => ⟨_, h_.1, rfl, h_.2⟩)) ?_
 rintro _ w9 ⟨rfl, k10⟩
 have B11 := h_s.all k10 Apart.none
 have K12 := K0.trans k10 (fun _ _ x => x.elim)
 refine wl_call (R := fun v_ w_ => v_ = subV (v) (((max (0) (min (y) ((h) - (1)))) * (w)).toNat) (((max (0) (min (y) ((h) - (1)))) * (w) + (w)).toNat) (((max (0) (min (y) ((h) - (1)))) * (w) + (w)).toNat) ∧ Kept (fun _ => False) w9 w_) rfl rfl (y_cs rfl rfl rfl (fun _ _ => by kernel_rfl) (ev_func _) (vsC rfl (vsC rfl (vsC rfl vsN))) (ps_row (v) (l) (w) (max (0) (min (y) ((h) - (1)))) (T_s) _ (by omega) (by omega) (by exact hl) (by exact hyw) B11 ) (fun e_ w_ h_ => ⟨_, h_.1, rfl, h_.2⟩)) ?_
 rintro _ w13 ⟨rfl, k14⟩
 have B15 := B11.all k14 Apart.none
 have K16 := K12.trans k14 (fun _ _ x => x.elim)
 refine wl_v (.int .i64 (x)) rfl rfl (y_mov rfl s6 ⟨rfl, rfl⟩) ?_
 refine wl_v (.int .i64 (w)) rfl rfl (y_mov rfl s4 ⟨rfl, rfl⟩) ?_
 refine wl_v (.int .i64 ((w) - (1))) rfl rfl (y_sub rfl rfl rfl (i64_i rfl (by omega)) ⟨rfl, rfl⟩) ?_
 refine wl_call (R := fun v_ w_ => v_ = .int .i64 ((((max 0 (min x (w - 1))).toNat : Nat) : Int)) ∧ Kept (fun _ => False) w13 w_) rfl rfl (y_cs rfl rfl rfl (fun _ _ => by kernel_rfl) (ev_func _) (vsC rfl (vsC rfl (vsC rfl vsN))) (ps_clamped (x) (0) ((w) - (1))  _   ) (fun e_ w_ h_ => ⟨_, h_.1, congrArg (Value.int .i64) (by omega), h_.2⟩)) ?_
 rintro _ w17 ⟨rfl, k18⟩
 have B19 := B15.all k18 Apart.none
 have K20 := K16.trans k18 (fun _ _ x => x.elim)
 refine wl_v (bytAddr (v) (((max (0) (min (y) ((h) - (1)))) * (w)).toNat + (max 0 (min x (w - 1))).toNat)) rfl rfl (y_atS ((max 0 (min x (w - 1))).toNat) rfl rfl rfl (by omega) B19 (by omega) (by have hc_ := (B19).cap; omega) (by omega) (by have hc_ := (B19).cap; omega) (by omega) ⟨rfl, rfl⟩) ?_
 have u21 := getD_lt (B19).lt256 (((max (0) (min (y) ((h) - (1)))) * (w)).toNat + (max 0 (min x (w - 1))).toNat)
 refine wl_v (.int .u8 ((((l).getD (((max (0) (min (y) ((h) - (1)))) * (w)).toNat + (max 0 (min x (w - 1))).toNat) 0 : Nat) : Int))) rfl rfl (y_ldB rfl rfl B19 (by omega) ⟨rfl, rfl⟩) ?_
 refine wl_v (.int .i64 ((((l).getD (((max (0) (min (y) ((h) - (1)))) * (w)).toNat + (max 0 (min x (w - 1))).toNat) 0 : Nat) : Int))) rfl rfl (y_convR rfl rfl Tryd.underlying5 Tryd.underlying3 (i64_i rfl (by omega)) ⟨rfl, rfl⟩) ?_
 refine wl_v (.int .i64 ((((l).getD (((max (0) (min (y) ((h) - (1)))) * (w)).toNat + (max 0 (min x (w - 1))).toNat) 0 : Nat) : Int))) rfl rfl (y_asg rfl rfl ⟨rfl, rfl⟩) ?_
 refine wl_nil fun F22 hF23 => ?_
 have s24 := (hF23 25).trans s8
 have s25 : F22 10 = .int .i64 ((((l).getD (((max (0) (min (y) ((h) - (1)))) * (w)).toNat + (max 0 (min x (w - 1))).toNat) 0 : Nat) : Int)) := (hF23 10).trans rfl
 clear hF23
 refine then_normal ?_
 refine wq_ret ?_
 exact end_tmp (v := .int .i64 ((((l).getD (((max (0) (min (y) ((h) - (1)))) * (w)).toNat + (max 0 (min x (w - 1))).toNat) 0 : Nat) : Int))) s24 rfl rfl s25 ⟨rfl, K20⟩

set_option maxHeartbeats 4000000 in
set_option maxRecDepth 100000 in
theorem ps_near (n : Int) (w0 : World) :
  Calls Tryd.prog 67 #[.int .i64 (n)] w0 fun e w' => e = .returned (.int .i64 (nearI n)) ∧ Kept (fun _ => False) w0 w' := by
 refine calls_wq (args := [.int .i64 (n)]) 5 Tryd.func67 rfl rfl (Nat.le_of_ble_eq_true rfl) ?_
 have K0 := Kept.refl (fun _ => False) w0
 refine wq_seq ?_
 refine wq_region ?_
 refine wl_v (.int .i64 (0)) rfl rfl (y_asg rfl rfl ⟨rfl, rfl⟩) ?_
 refine wl_nil fun F1 hF2 => ?_
 have s3 : F1 0 = .int .i64 (n) := (hF2 0).trans rfl
 have s4 : F1 5 = undef := (hF2 5).trans rfl
 clear hF2
 refine then_normal ?_
 refine wq_seq ?_
 refine wq_region ?_
 refine wl_v (.int .i64 (n)) rfl rfl (y_mov rfl s3 ⟨rfl, rfl⟩) ?_
 refine wl_call (R := fun v_ w_ => v_ = .int .i64 (nearI n) ∧ Kept (fun _ => False) w0 w_) rfl rfl (y_cs rfl rfl rfl (fun _ _ => by kernel_rfl) (ev_func _) (vsC rfl (vsC rfl (vsC rfl vsN))) (ps_clamped (n) (-64) (128)  _   ) (fun e_ w_ h_ => ⟨_, h_.1, congrArg (Value.int .i64) (by unfold nearI; omega), h_.2⟩)) ?_
 rintro _ w5 ⟨rfl, k6⟩
 have K7 := K0.trans k6 (fun _ _ x => x.elim)
 refine wl_v (.int .i64 (nearI n)) rfl rfl (y_asg rfl rfl ⟨rfl, rfl⟩) ?_
 refine wl_nil fun F8 hF9 => ?_
 have s10 := (hF9 5).trans s4
 have s11 : F8 2 = .int .i64 (nearI n) := (hF9 2).trans rfl
 clear hF9
 refine then_normal ?_
 refine wq_ret ?_
 exact end_tmp (v := .int .i64 (nearI n)) s10 rfl rfl s11 ⟨rfl, K7⟩

theorem row_in {f : FD} {p : Int} (y : Int) (h : (sizeF f p).1 ≠ 0) : max 0 (min y ((sizeF f p).2 - 1)) * (sizeF f p).1 + (sizeF f p).1 ≤ ((f.pl p).length : Int) ∧ 0 ≤ max 0 (min y ((sizeF f p).2 - 1)) * (sizeF f p).1 ∧ max 0 (min y ((sizeF f p).2 - 1)) * (sizeF f p).1 ≤ 4096 := by
  have h2 := cell_bounds (sizeF f p).1 y h
  have hb := size_bounds f p
  have hs := size_pos (size_some h)
  rw [show max 0 (min y ((sizeF f p).2 - 1)) = min (max y 0) ((sizeF f p).2 - 1) by omega]
  unfold cellF at h2
  omega
theorem near_at {f : FD} {p : Int} (x y : Int) (h : (sizeF f p).1 ≠ 0) : nearS (f.pl p) (sizeF f p).1 (sizeF f p).2 x y = atF f p x y := by
  have hc := cell_bounds x y h
  have hb := size_bounds f p
  have hs := size_pos (size_some h)
  rw [atF_some x y h]
  unfold nearS
  have e : (cellF f p x y).toNat = (max 0 (min y ((sizeF f p).2 - 1)) * (sizeF f p).1).toNat + (max 0 (min x ((sizeF f p).1 - 1))).toNat := by
    rw [show max 0 (min y ((sizeF f p).2 - 1)) = min (max y 0) ((sizeF f p).2 - 1) by omega, show max 0 (min x ((sizeF f p).1 - 1)) = min (max x 0) ((sizeF f p).1 - 1) by omega]
    unfold cellF at *
    rw [Int.toNat_add (by omega) (by omega)]
  rw [e]

set_option maxHeartbeats 4000000 in
set_option maxRecDepth 100000 in
theorem pl_size (p : Int) (f : FD) (f0 f1 f2 : Value) (T_f0 : Nat → Prop) (T_f1 : Nat → Prop) (T_f2 : Nat → Prop) (w0 : World) (h_f0 : Byt w0 T_f0 f0 ((f).p0)) (h_f1 : Byt w0 T_f1 f1 ((f).p1)) (h_f2 : Byt w0 T_f2 f2 ((f).p2)) :
  Calls Tryd.prog 66 #[.agg #[.int .i64 ((f).W), .int .i64 ((f).H), f0, f1, f2], .int .i64 (p)] w0 fun e w' => e = .returned (.tuple #[.int .i64 ((sizeF f p).1), .int .i64 ((sizeF f p).2)]) ∧ Kept (fun _ => False) w0 w' := by
 refine calls_wq (args := [.agg #[.int .i64 ((f).W), .int .i64 ((f).H), f0, f1, f2], .int .i64 (p)]) 22 Tryd.func66 rfl rfl (Nat.le_of_ble_eq_true rfl) ?_
 have K0 := Kept.refl (fun _ => False) w0
 have g_f0 := Grew.refl w0 T_f0
 have g_f1 := Grew.refl w0 T_f1
 have g_f2 := Grew.refl w0 T_f2
 refine wq_seq ?_
 refine wq_region ?_
 refine wl_box_stc (vs := [.int .i64 ((f).W), .int .i64 ((f).H), f0, f1, f2]) rfl rfl rfl rfl fun p1 w2 B4 g5 k3 => ?_
 have B10 := h_f0.all k3 Apart.none
 have B11 := h_f1.all k3 Apart.none
 have B12 := h_f2.all k3 Apart.none
 have K13 := K0.trans k3 (fun _ _ x => x.elim)
 refine wl_v (.int .i64 (0)) rfl rfl (y_asg rfl rfl ⟨rfl, rfl⟩) ?_
 refine wl_v (.int .i64 (0)) rfl rfl (y_asg rfl rfl ⟨rfl, rfl⟩) ?_
 refine wl_nil fun F14 hF15 => ?_
 have s16 : F14 1 = .int .i64 (p) := (hF15 1).trans rfl
 have s17 : F14 22 = undef := (hF15 22).trans rfl
 have s18 : F14 2 = .pointer (some ⟨p1, 0, none⟩) := (hF15 2).trans rfl
 clear hF15
 refine then_normal ?_
 refine wq_seq ?_
 refine wq_seq ?_
 by_cases d19 : (p) < (0)
 ·skip
  refine wq_region ?_
  refine wl_v (.int .i64 (p)) rfl rfl (y_mov rfl s16 ⟨rfl, rfl⟩) ?_
  refine wl_v (.bool true) rfl rfl (y_lss rfl rfl rfl (decide_eq_true d19) ⟨rfl, rfl⟩) ?_
  refine wl_v (.bool true) rfl rfl (y_mov rfl rfl ⟨rfl, rfl⟩) ?_
  refine wl_unless 2 false 8 rfl rfl rfl (Or.inl rfl) rfl ?_
  refine wl_unless 2 false 8 rfl rfl rfl (Or.inl rfl) rfl ?_
  refine wl_v (.bool true) rfl rfl (y_pickT rfl rfl rfl ⟨rfl, rfl⟩) ?_
  refine wl_v (.bool true) rfl rfl (y_mov rfl rfl ⟨rfl, rfl⟩) ?_
  refine wl_unless 6 false 12 rfl rfl rfl (Or.inl rfl) rfl ?_
  refine wl_unless 6 false 12 rfl rfl rfl (Or.inl rfl) rfl ?_
  refine wl_unless 6 false 12 rfl rfl rfl (Or.inl rfl) rfl ?_
  refine wl_v (.bool true) rfl rfl (y_pickT rfl rfl rfl ⟨rfl, rfl⟩) ?_
  refine wl_nil fun F20 hF21 => ?_
  have s23 := (hF21 22).trans s17
  have s25 : F20 16 = .bool true := (hF21 16).trans rfl
  clear hF21
  refine then_normal ?_
  refine wq_cond (t := true) s25 (fun _ => ?_) (fun e => by cases e)
  refine wq_seq ?_
  refine wq_region ?_
  refine wl_v (.int .i64 (0)) rfl rfl (y_asg rfl rfl ⟨rfl, rfl⟩) ?_
  refine wl_v (.int .i64 (0)) rfl rfl (y_asg rfl rfl ⟨rfl, rfl⟩) ?_
  refine wl_nil fun F26 hF27 => ?_
  have s28 := (hF27 22).trans s23
  have s29 : F26 4 = .int .i64 (0) := (hF27 4).trans rfl
  have s30 : F26 5 = .int .i64 (0) := (hF27 5).trans rfl
  clear hF27
  refine then_normal ?_
  refine wq_ret ?_
  refine then_ret ?_
  exact end_2 s28 rfl (res_tmp (v := .int .i64 (0)) rfl s29) (res_tmp (v := .int .i64 (0)) rfl s30) ⟨(by first | rw [he] | rw [sizeF_no (by rintro ⟨h1, h2, h3⟩; first | exact absurd ((checkE_iff f).2 h1) (by assumption) | omega)]), K13⟩
 ·skip
  by_cases d31 : (3) ≤ (p)
  ·skip
   refine wq_region ?_
   refine wl_v (.int .i64 (p)) rfl rfl (y_mov rfl s16 ⟨rfl, rfl⟩) ?_
   refine wl_v (.bool false) rfl rfl (y_lss rfl rfl rfl (decide_eq_false d19) ⟨rfl, rfl⟩) ?_
   refine wl_v (.bool false) rfl rfl (y_mov rfl rfl ⟨rfl, rfl⟩) ?_
   refine wl_vw (.int .i64 (p)) 2 false 8 rfl rfl rfl rfl rfl (y_mov rfl s16 ⟨rfl, rfl⟩) ?_
   refine wl_vw (.bool true) 2 false 8 rfl rfl rfl rfl rfl (y_geq rfl rfl rfl (decide_eq_true d31) ⟨rfl, rfl⟩) ?_
   refine wl_v (.bool true) rfl rfl (y_pickF rfl rfl rfl ⟨rfl, rfl⟩) ?_
   refine wl_v (.bool true) rfl rfl (y_mov rfl rfl ⟨rfl, rfl⟩) ?_
   refine wl_unless 6 false 12 rfl rfl rfl (Or.inl rfl) rfl ?_
   refine wl_unless 6 false 12 rfl rfl rfl (Or.inl rfl) rfl ?_
   refine wl_unless 6 false 12 rfl rfl rfl (Or.inl rfl) rfl ?_
   refine wl_v (.bool true) rfl rfl (y_pickT rfl rfl rfl ⟨rfl, rfl⟩) ?_
   refine wl_nil fun F32 hF33 => ?_
   have s35 := (hF33 22).trans s17
   have s37 : F32 16 = .bool true := (hF33 16).trans rfl
   clear hF33
   refine then_normal ?_
   refine wq_cond (t := true) s37 (fun _ => ?_) (fun e => by cases e)
   refine wq_seq ?_
   refine wq_region ?_
   refine wl_v (.int .i64 (0)) rfl rfl (y_asg rfl rfl ⟨rfl, rfl⟩) ?_
   refine wl_v (.int .i64 (0)) rfl rfl (y_asg rfl rfl ⟨rfl, rfl⟩) ?_
   refine wl_nil fun F38 hF39 => ?_
   have s40 := (hF39 22).trans s35
   have s41 : F38 4 = .int .i64 (0) := (hF39 4).trans rfl
   have s42 : F38 5 = .int .i64 (0) := (hF39 5).trans rfl
   clear hF39
   refine then_normal ?_
   refine wq_ret ?_
   refine then_ret ?_
   exact end_2 s40 rfl (res_tmp (v := .int .i64 (0)) rfl s41) (res_tmp (v := .int .i64 (0)) rfl s42) ⟨(by first | rw [he] | rw [sizeF_no (by rintro ⟨h1, h2, h3⟩; first | exact absurd ((checkE_iff f).2 h1) (by assumption) | omega)]), K13⟩
  ·skip
   refine wq_region ?_
   refine wl_v (.int .i64 (p)) rfl rfl (y_mov rfl s16 ⟨rfl, rfl⟩) ?_
   refine wl_v (.bool false) rfl rfl (y_lss rfl rfl rfl (decide_eq_false d19) ⟨rfl, rfl⟩) ?_
   refine wl_v (.bool false) rfl rfl (y_mov rfl rfl ⟨rfl, rfl⟩) ?_
   refine wl_vw (.int .i64 (p)) 2 false 8 rfl rfl rfl rfl rfl (y_mov rfl s16 ⟨rfl, rfl⟩) ?_
   refine wl_vw (.bool false) 2 false 8 rfl rfl rfl rfl rfl (y_geq rfl rfl rfl (decide_eq_false d31) ⟨rfl, rfl⟩) ?_
   refine wl_v (.bool false) rfl rfl (y_pickF rfl rfl rfl ⟨rfl, rfl⟩) ?_
   refine wl_v (.bool false) rfl rfl (y_mov rfl rfl ⟨rfl, rfl⟩) ?_
   refine wl_vw (.agg #[.int .i64 ((f).W), .int .i64 ((f).H), f0, f1, f2]) 6 false 12 rfl rfl rfl rfl rfl (y_load_stc stcT_frame rfl s18 B4 ⟨rfl, rfl⟩) ?_
   refine wl_callw (R := fun v_ w_ => v_ = .int .i64 (checkE (f)) ∧ Kept (fun _ => False) w2 w_) 6 false 12 rfl rfl rfl rfl rfl (y_cs rfl rfl rfl (fun _ _ => by kernel_rfl) (ev_func _) (vsC rfl vsN) (pl_check (f) (f0) (f1) (f2) (T_f0) (T_f1) (T_f2) _  B10 B11 B12 ) (fun e_ w_ h_ => ⟨_, h_.1, rfl, h_.2⟩)) ?_
   rintro _ w43 ⟨rfl, k44⟩
   have B45 := B10.all k44 Apart.none
   have B46 := B11.all k44 Apart.none
   have B47 := B12.all k44 Apart.none
   have B48 := B4.all k44 id
   have K49 := K13.trans k44 (fun _ _ x => x.elim)
   refine wl_vw (.bool (decide ((checkE (f)) ≠ (0)))) 6 false 12 rfl rfl rfl rfl rfl (y_neqI rfl rfl rfl rfl ⟨rfl, rfl⟩) ?_
   refine wl_v (.bool (decide ((checkE (f)) ≠ (0)))) rfl rfl (y_pickF rfl rfl rfl ⟨rfl, rfl⟩) ?_
   refine wl_nil fun F50 hF51 => ?_
   have s52 := (hF51 1).trans s16
   have s53 := (hF51 22).trans s17
   have s54 := (hF51 2).trans s18
   have s55 : F50 16 = .bool (decide ((checkE (f)) ≠ (0))) := (hF51 16).trans rfl
   clear hF51
   refine then_normal ?_
   refine wq_cond s55 (fun c56 => ?_) (fun c56 => ?_)
   ·replace c56 := of_decide_eq_true c56
    refine wq_seq ?_
    refine wq_region ?_
    refine wl_v (.int .i64 (0)) rfl rfl (y_asg rfl rfl ⟨rfl, rfl⟩) ?_
    refine wl_v (.int .i64 (0)) rfl rfl (y_asg rfl rfl ⟨rfl, rfl⟩) ?_
    refine wl_nil fun F57 hF58 => ?_
    have s59 := (hF58 22).trans s53
    have s60 : F57 4 = .int .i64 (0) := (hF58 4).trans rfl
    have s61 : F57 5 = .int .i64 (0) := (hF58 5).trans rfl
    clear hF58
    refine then_normal ?_
    refine wq_ret ?_
    refine then_ret ?_
    exact end_2 s59 rfl (res_tmp (v := .int .i64 (0)) rfl s60) (res_tmp (v := .int .i64 (0)) rfl s61) ⟨(by first | rw [he] | rw [sizeF_no (by rintro ⟨h1, h2, h3⟩; first | exact absurd ((checkE_iff f).2 h1) (by assumption) | omega)]), K49⟩
   ·replace c56 := of_decide_eq_false c56
    refine wq_skip ?_
    refine then_normal ?_
    refine wq_seq ?_
    have hok := (checkE_iff f).1 (by first | assumption | (apply Decidable.byContradiction; assumption))
    have hws := (sideB_iff _).1 hok.1
    have hhs := (sideB_iff _).1 hok.2.1
    have he : sizeF f p = sidesF f p := by unfold sizeF sidesF; rw [if_pos ⟨hok, by omega, by omega⟩]
    refine wq_region ?_
    refine wl_v (.agg #[.int .i64 ((f).W), .int .i64 ((f).H), f0, f1, f2]) rfl rfl (y_load_stc stcT_frame rfl s54 B48 ⟨rfl, rfl⟩) ?_
    refine wl_v (.int .i64 (p)) rfl rfl (y_mov rfl s52 ⟨rfl, rfl⟩) ?_
    refine wl_call (R := fun v_ w_ => v_ = .tuple #[.int .i64 ((sidesF (f) (p)).1), .int .i64 ((sidesF (f) (p)).2)] ∧ Kept (fun _ => False) w43 w_) rfl rfl (y_cs rfl rfl rfl (fun _ _ => by kernel_rfl) (ev_func _) (vsC rfl (vsC rfl vsN)) (ps_sides (p) (f) (f0) (f1) (f2) (T_f0) (T_f1) (T_f2) _ (by omega) (by omega) B45 B46 B47 ) (fun e_ w_ h_ => ⟨_, h_.1, rfl, h_.2⟩)) ?_
    rintro _ w62 ⟨rfl, k63⟩
    have K68 := K49.trans k63 (fun _ _ x => x.elim)
    refine wl_v (.int .i64 ((sidesF (f) (p)).1)) rfl rfl (y_ext rfl rfl rfl ⟨rfl, rfl⟩) ?_
    refine wl_v (.int .i64 ((sidesF (f) (p)).2)) rfl rfl (y_ext rfl rfl rfl ⟨rfl, rfl⟩) ?_
    refine wl_v (.int .i64 ((sidesF (f) (p)).1)) rfl rfl (y_asg rfl rfl ⟨rfl, rfl⟩) ?_
    refine wl_v (.int .i64 ((sidesF (f) (p)).2)) rfl rfl (y_asg rfl rfl ⟨rfl, rfl⟩) ?_
    refine wl_nil fun F69 hF70 => ?_
    have s71 := (hF70 22).trans s53
    have s72 : F69 4 = .int .i64 ((sidesF (f) (p)).1) := (hF70 4).trans rfl
    have s73 : F69 5 = .int .i64 ((sidesF (f) (p)).2) := (hF70 5).trans rfl
    clear hF70
    refine then_normal ?_
    refine wq_ret ?_
    exact end_2 s71 rfl (res_tmp (v := .int .i64 ((sidesF (f) (p)).1)) rfl s72) (res_tmp (v := .int .i64 ((sidesF (f) (p)).2)) rfl s73) ⟨(by first | rw [he] | rw [sizeF_no (by rintro ⟨h1, h2, h3⟩; first | exact absurd ((checkE_iff f).2 h1) (by assumption) | omega)]), K68⟩

set_option maxHeartbeats 4000000 in
set_option maxRecDepth 100000 in
theorem pl_at (p x y : Int) (f : FD) (f0 f1 f2 : Value) (T_f0 : Nat → Prop) (T_f1 : Nat → Prop) (T_f2 : Nat → Prop) (w0 : World) (h_f0 : Byt w0 T_f0 f0 ((f).p0)) (h_f1 : Byt w0 T_f1 f1 ((f).p1)) (h_f2 : Byt w0 T_f2 f2 ((f).p2)) :
  Calls Tryd.prog 114 #[.agg #[.int .i64 ((f).W), .int .i64 ((f).H), f0, f1, f2], .int .i64 (p), .int .i64 (x), .int .i64 (y)] w0 fun e w' => e = .returned (.int .i64 (atF f p x y)) ∧ Kept (fun _ => False) w0 w' := by
 refine calls_wq (args := [.agg #[.int .i64 ((f).W), .int .i64 ((f).H), f0, f1, f2], .int .i64 (p), .int .i64 (x), .int .i64 (y)]) 28 Tryd.func114 rfl rfl (Nat.le_of_ble_eq_true rfl) ?_
 have K0 := Kept.refl (fun _ => False) w0
 have g_f0 := Grew.refl w0 T_f0
 have g_f1 := Grew.refl w0 T_f1
 have g_f2 := Grew.refl w0 T_f2
 refine wq_seq ?_
 refine wq_region ?_
 refine wl_box_stc (vs := [.int .i64 ((f).W), .int .i64 ((f).H), f0, f1, f2]) rfl rfl rfl rfl fun p1 w2 B4 g5 k3 => ?_
 have B10 := h_f0.all k3 Apart.none
 have B11 := h_f1.all k3 Apart.none
 have B12 := h_f2.all k3 Apart.none
 have K13 := K0.trans k3 (fun _ _ x => x.elim)
 refine wl_v (.int .i64 (0)) rfl rfl (y_asg rfl rfl ⟨rfl, rfl⟩) ?_
 refine wl_nil fun F14 hF15 => ?_
 have s16 : F14 1 = .int .i64 (p) := (hF15 1).trans rfl
 have s17 : F14 2 = .int .i64 (x) := (hF15 2).trans rfl
 have s18 : F14 3 = .int .i64 (y) := (hF15 3).trans rfl
 have s19 : F14 28 = undef := (hF15 28).trans rfl
 have s20 : F14 4 = .pointer (some ⟨p1, 0, none⟩) := (hF15 4).trans rfl
 clear hF15
 refine then_normal ?_
 refine wq_seq ?_
 refine wq_region ?_
 refine wl_v (.agg #[.int .i64 ((f).W), .int .i64 ((f).H), f0, f1, f2]) rfl rfl (y_load_stc stcT_frame rfl s20 B4 ⟨rfl, rfl⟩) ?_
 refine wl_v (.int .i64 (p)) rfl rfl (y_mov rfl s16 ⟨rfl, rfl⟩) ?_
 refine wl_call (R := fun v_ w_ => v_ = .tuple #[.int .i64 ((sizeF (f) (p)).1), .int .i64 ((sizeF (f) (p)).2)] ∧ Kept (fun _ => False) w2 w_) rfl rfl (y_cs rfl rfl rfl (fun _ _ => by kernel_rfl) (ev_func _) (vsC rfl (vsC rfl vsN)) (pl_size (p) (f) (f0) (f1) (f2) (T_f0) (T_f1) (T_f2) _  B10 B11 B12 ) (fun e_ w_ h_ => ⟨_, h_.1, rfl, h_.2⟩)) ?_
 rintro _ w21 ⟨rfl, k22⟩
 have B23 := B10.all k22 Apart.none
 have B24 := B11.all k22 Apart.none
 have B25 := B12.all k22 Apart.none
 have B26 := B4.all k22 id
 have K27 := K13.trans k22 (fun _ _ x => x.elim)
 refine wl_v (.tuple #[.int .i64 ((sizeF (f) (p)).1), .int .i64 ((sizeF (f) (p)).2)]) rfl rfl (y_mov rfl rfl ⟨rfl, rfl⟩) ?_
 refine wl_v (.int .i64 ((sizeF (f) (p)).1)) rfl rfl (y_ext rfl rfl rfl ⟨rfl, rfl⟩) ?_
 refine wl_v (.int .i64 ((sizeF (f) (p)).2)) rfl rfl (y_ext rfl rfl rfl ⟨rfl, rfl⟩) ?_
 refine wl_v (.int .i64 ((sizeF (f) (p)).1)) rfl rfl (y_asg rfl rfl ⟨rfl, rfl⟩) ?_
 refine wl_v (.int .i64 ((sizeF (f) (p)).2)) rfl rfl (y_asg rfl rfl ⟨rfl, rfl⟩) ?_
 refine wl_nil fun F28 hF29 => ?_
 have s30 := (hF29 1).trans s16
 have s31 := (hF29 2).trans s17
 have s32 := (hF29 3).trans s18
 have s33 := (hF29 28).trans s19
 have s34 := (hF29 4).trans s20
 have s35 : F28 9 = .int .i64 ((sizeF (f) (p)).1) := (hF29 9).trans rfl
 have s36 : F28 10 = .int .i64 ((sizeF (f) (p)).2) := (hF29 10).trans rfl
 clear hF29
 refine then_normal ?_
 refine wq_seq ?_
 refine wq_seq ?_
 refine wq_region ?_
 refine wl_v (.int .i64 ((sizeF (f) (p)).1)) rfl rfl (y_mov rfl s35 ⟨rfl, rfl⟩) ?_
 refine wl_v (.bool (decide (((sizeF (f) (p)).1) = (0)))) rfl rfl (y_eqlI rfl rfl rfl rfl ⟨rfl, rfl⟩) ?_
 refine wl_nil fun F37 hF38 => ?_
 have s39 := (hF38 1).trans s30
 have s40 := (hF38 2).trans s31
 have s41 := (hF38 3).trans s32
 have s42 := (hF38 28).trans s33
 have s43 := (hF38 4).trans s34
 have s44 := (hF38 9).trans s35
 have s45 := (hF38 10).trans s36
 have s46 : F37 18 = .bool (decide (((sizeF (f) (p)).1) = (0))) := (hF38 18).trans rfl
 clear hF38
 refine then_normal ?_
 refine wq_cond s46 (fun c47 => ?_) (fun c47 => ?_)
 ·replace c47 := of_decide_eq_true c47
  refine wq_seq ?_
  refine wq_region ?_
  refine wl_v (.int .i64 (0)) rfl rfl (y_asg rfl rfl ⟨rfl, rfl⟩) ?_
  refine wl_nil fun F48 hF49 => ?_
  have s50 := (hF49 28).trans s42
  have s51 : F48 8 = .int .i64 (0) := (hF49 8).trans rfl
  clear hF49
  refine then_normal ?_
  refine wq_ret ?_
  refine then_ret ?_
  exact end_tmp (v := .int .i64 (0)) s50 rfl rfl s51 ⟨(by first | rw [atF_none x y (by assumption)] | (rw [← near_at x y hsz]; rfl)), K27⟩
 ·replace c47 := of_decide_eq_false c47
  refine wq_skip ?_
  refine then_normal ?_
  refine wq_seq ?_
  rcases (show p = 0 ∨ p = 1 ∨ p = 2 from size_cases (f := f) (by assumption)) with rfl | rfl | rfl
  ·skip
   have hsz : (sizeF f 0).1 ≠ 0 := by assumption
   have hb := size_bounds f 0
   have hsp := size_pos (size_some hsz)
   have hr := row_in y hsz
   refine wq_region ?_
   refine wl_v (.int .i64 (0)) rfl rfl (y_mov rfl s39 ⟨rfl, rfl⟩) ?_
   refine wl_v (.pointer (some ⟨p1, 2, none⟩)) rfl rfl (y_fieldR (n := 3) rfl s43 Tryd.underlying68 rfl (by kernel_rfl) (by decide) rfl ⟨rfl, rfl⟩) ?_
   refine wl_v (.pointer (some ⟨p1, 2, none⟩)) rfl rfl (y_atR (0) (s := 1) rfl rfl rfl (by omega) Tryd.underlying66 (by omega) (by kernel_rfl) (by omega) ⟨rfl, rfl⟩) ?_
   refine wl_v (f0) rfl rfl (y_ld_stc rfl rfl Tryd.underlying28 B26 rfl rfl ⟨rfl, rfl⟩) ?_
   refine wl_v (.int .i64 ((sizeF (f) (0)).1)) rfl rfl (y_mov rfl s44 ⟨rfl, rfl⟩) ?_
   refine wl_v (.int .i64 ((sizeF (f) (0)).2)) rfl rfl (y_mov rfl s45 ⟨rfl, rfl⟩) ?_
   refine wl_v (.int .i64 (x)) rfl rfl (y_mov rfl s40 ⟨rfl, rfl⟩) ?_
   refine wl_v (.int .i64 (y)) rfl rfl (y_mov rfl s41 ⟨rfl, rfl⟩) ?_
   refine wl_call (R := fun v_ w_ => v_ = .int .i64 (nearS ((f).p0) ((sizeF (f) (0)).1) ((sizeF (f) (0)).2) (x) (y)) ∧ Kept (fun _ => False) w21 w_) rfl rfl (y_cs rfl rfl rfl (fun _ _ => by kernel_rfl) (ev_func _) (vsC rfl (vsC rfl (vsC rfl (vsC rfl (vsC rfl vsN))))) (ps_nearest (f0) ((f).p0) ((sizeF (f) (0)).1) ((sizeF (f) (0)).2) (x) (y) (T_f0) _ (by omega) (by omega) (by exact hr.1) (by exact hr.2) B23 ) (fun e_ w_ h_ => ⟨_, h_.1, rfl, h_.2⟩)) ?_
   rintro _ w52 ⟨rfl, k53⟩
   have K58 := K27.trans k53 (fun _ _ x => x.elim)
   refine wl_v (.int .i64 (nearS ((f).p0) ((sizeF (f) (0)).1) ((sizeF (f) (0)).2) (x) (y))) rfl rfl (y_asg rfl rfl ⟨rfl, rfl⟩) ?_
   refine wl_nil fun F59 hF60 => ?_
   have s61 := (hF60 28).trans s42
   have s62 : F59 8 = .int .i64 (nearS ((f).p0) ((sizeF (f) (0)).1) ((sizeF (f) (0)).2) (x) (y)) := (hF60 8).trans rfl
   clear hF60
   refine then_normal ?_
   refine wq_ret ?_
   exact end_tmp (v := .int .i64 (nearS ((f).p0) ((sizeF (f) (0)).1) ((sizeF (f) (0)).2) (x) (y))) s61 rfl rfl s62 ⟨(by first | rw [atF_none x y (by assumption)] | (rw [← near_at x y hsz]; rfl)), K58⟩
  ·skip
   have hsz : (sizeF f 1).1 ≠ 0 := by assumption
   have hb := size_bounds f 1
   have hsp := size_pos (size_some hsz)
   have hr := row_in y hsz
   refine wq_region ?_
   refine wl_v (.int .i64 (1)) rfl rfl (y_mov rfl s39 ⟨rfl, rfl⟩) ?_
   refine wl_v (.pointer (some ⟨p1, 2, none⟩)) rfl rfl (y_fieldR (n := 3) rfl s43 Tryd.underlying68 rfl (by kernel_rfl) (by decide) rfl ⟨rfl, rfl⟩) ?_
   refine wl_v (.pointer (some ⟨p1, 3, none⟩)) rfl rfl (y_atR (1) (s := 1) rfl rfl rfl (by omega) Tryd.underlying66 (by omega) (by kernel_rfl) (by omega) ⟨rfl, rfl⟩) ?_
   refine wl_v (f1) rfl rfl (y_ld_stc rfl rfl Tryd.underlying28 B26 rfl rfl ⟨rfl, rfl⟩) ?_
   refine wl_v (.int .i64 ((sizeF (f) (1)).1)) rfl rfl (y_mov rfl s44 ⟨rfl, rfl⟩) ?_
   refine wl_v (.int .i64 ((sizeF (f) (1)).2)) rfl rfl (y_mov rfl s45 ⟨rfl, rfl⟩) ?_
   refine wl_v (.int .i64 (x)) rfl rfl (y_mov rfl s40 ⟨rfl, rfl⟩) ?_
   refine wl_v (.int .i64 (y)) rfl rfl (y_mov rfl s41 ⟨rfl, rfl⟩) ?_
   refine wl_call (R := fun v_ w_ => v_ = .int .i64 (nearS ((f).p1) ((sizeF (f) (1)).1) ((sizeF (f) (1)).2) (x) (y)) ∧ Kept (fun _ => False) w21 w_) rfl rfl (y_cs rfl rfl rfl (fun _ _ => by kernel_rfl) (ev_func _) (vsC rfl (vsC rfl (vsC rfl (vsC rfl (vsC rfl vsN))))) (ps_nearest (f1) ((f).p1) ((sizeF (f) (1)).1) ((sizeF (f) (1)).2) (x) (y) (T_f1) _ (by omega) (by omega) (by exact hr.1) (by exact hr.2) B24 ) (fun e_ w_ h_ => ⟨_, h_.1, rfl, h_.2⟩)) ?_
   rintro _ w63 ⟨rfl, k64⟩
   have K69 := K27.trans k64 (fun _ _ x => x.elim)
   refine wl_v (.int .i64 (nearS ((f).p1) ((sizeF (f) (1)).1) ((sizeF (f) (1)).2) (x) (y))) rfl rfl (y_asg rfl rfl ⟨rfl, rfl⟩) ?_
   refine wl_nil fun F70 hF71 => ?_
   have s72 := (hF71 28).trans s42
   have s73 : F70 8 = .int .i64 (nearS ((f).p1) ((sizeF (f) (1)).1) ((sizeF (f) (1)).2) (x) (y)) := (hF71 8).trans rfl
   clear hF71
   refine then_normal ?_
   refine wq_ret ?_
   exact end_tmp (v := .int .i64 (nearS ((f).p1) ((sizeF (f) (1)).1) ((sizeF (f) (1)).2) (x) (y))) s72 rfl rfl s73 ⟨(by first | rw [atF_none x y (by assumption)] | (rw [← near_at x y hsz]; rfl)), K69⟩
  ·skip
   have hsz : (sizeF f 2).1 ≠ 0 := by assumption
   have hb := size_bounds f 2
   have hsp := size_pos (size_some hsz)
   have hr := row_in y hsz
   refine wq_region ?_
   refine wl_v (.int .i64 (2)) rfl rfl (y_mov rfl s39 ⟨rfl, rfl⟩) ?_
   refine wl_v (.pointer (some ⟨p1, 2, none⟩)) rfl rfl (y_fieldR (n := 3) rfl s43 Tryd.underlying68 rfl (by kernel_rfl) (by decide) rfl ⟨rfl, rfl⟩) ?_
   refine wl_v (.pointer (some ⟨p1, 4, none⟩)) rfl rfl (y_atR (2) (s := 1) rfl rfl rfl (by omega) Tryd.underlying66 (by omega) (by kernel_rfl) (by omega) ⟨rfl, rfl⟩) ?_
   refine wl_v (f2) rfl rfl (y_ld_stc rfl rfl Tryd.underlying28 B26 rfl rfl ⟨rfl, rfl⟩) ?_
   refine wl_v (.int .i64 ((sizeF (f) (2)).1)) rfl rfl (y_mov rfl s44 ⟨rfl, rfl⟩) ?_
   refine wl_v (.int .i64 ((sizeF (f) (2)).2)) rfl rfl (y_mov rfl s45 ⟨rfl, rfl⟩) ?_
   refine wl_v (.int .i64 (x)) rfl rfl (y_mov rfl s40 ⟨rfl, rfl⟩) ?_
   refine wl_v (.int .i64 (y)) rfl rfl (y_mov rfl s41 ⟨rfl, rfl⟩) ?_
   refine wl_call (R := fun v_ w_ => v_ = .int .i64 (nearS ((f).p2) ((sizeF (f) (2)).1) ((sizeF (f) (2)).2) (x) (y)) ∧ Kept (fun _ => False) w21 w_) rfl rfl (y_cs rfl rfl rfl (fun _ _ => by kernel_rfl) (ev_func _) (vsC rfl (vsC rfl (vsC rfl (vsC rfl (vsC rfl vsN))))) (ps_nearest (f2) ((f).p2) ((sizeF (f) (2)).1) ((sizeF (f) (2)).2) (x) (y) (T_f2) _ (by omega) (by omega) (by exact hr.1) (by exact hr.2) B25 ) (fun e_ w_ h_ => ⟨_, h_.1, rfl, h_.2⟩)) ?_
   rintro _ w74 ⟨rfl, k75⟩
   have K80 := K27.trans k75 (fun _ _ x => x.elim)
   refine wl_v (.int .i64 (nearS ((f).p2) ((sizeF (f) (2)).1) ((sizeF (f) (2)).2) (x) (y))) rfl rfl (y_asg rfl rfl ⟨rfl, rfl⟩) ?_
   refine wl_nil fun F81 hF82 => ?_
   have s83 := (hF82 28).trans s42
   have s84 : F81 8 = .int .i64 (nearS ((f).p2) ((sizeF (f) (2)).1) ((sizeF (f) (2)).2) (x) (y)) := (hF82 8).trans rfl
   clear hF82
   refine then_normal ?_
   refine wq_ret ?_
   exact end_tmp (v := .int .i64 (nearS ((f).p2) ((sizeF (f) (2)).1) ((sizeF (f) (2)).2) (x) (y))) s83 rfl rfl s84 ⟨(by first | rw [atF_none x y (by assumption)] | (rw [← near_at x y hsz]; rfl)), K80⟩

set_option maxHeartbeats 4000000 in
set_option maxRecDepth 100000 in
theorem pl_get (p x y : Int) (f : FD) (f0 f1 f2 : Value) (T_f0 : Nat → Prop) (T_f1 : Nat → Prop) (T_f2 : Nat → Prop) (w0 : World) (h_f0 : Byt w0 T_f0 f0 ((f).p0)) (h_f1 : Byt w0 T_f1 f1 ((f).p1)) (h_f2 : Byt w0 T_f2 f2 ((f).p2)) :
  Calls Tryd.prog 32 #[.agg #[.int .i64 ((f).W), .int .i64 ((f).H), f0, f1, f2], .int .i64 (p), .int .i64 (x), .int .i64 (y)] w0 fun e w' => e = .returned (blkV (getF f p x y)) ∧ Kept (fun _ => False) w0 w' := by
 refine calls_wq (args := [.agg #[.int .i64 ((f).W), .int .i64 ((f).H), f0, f1, f2], .int .i64 (p), .int .i64 (x), .int .i64 (y)]) 48 Tryd.func32 rfl rfl (Nat.le_of_ble_eq_true rfl) ?_
 have K0 := Kept.refl (fun _ => False) w0
 have hnx := near_bounds x
 have hny := near_bounds y
 have g_f0 := Grew.refl w0 T_f0
 have g_f1 := Grew.refl w0 T_f1
 have g_f2 := Grew.refl w0 T_f2
 refine wq_seq ?_
 refine wq_region ?_
 refine wl_box_stc (vs := [.int .i64 ((f).W), .int .i64 ((f).H), f0, f1, f2]) rfl rfl rfl rfl fun p1 w2 B4 g5 k3 => ?_
 have B10 := h_f0.all k3 Apart.none
 have B11 := h_f1.all k3 Apart.none
 have B12 := h_f2.all k3 Apart.none
 have K13 := K0.trans k3 (fun _ _ x => x.elim)
 refine wl_alloc_blk rfl rfl rfl blkT_block.2.2 fun p14 w15 e18 B16 k17 => ?_
 have g19 := onB_new (Nat.le_of_eq e18.symm)
 have gr20 : Grew w0 noB (onB p14) := Grew.new K13 g19
 clear e18 g19
 have B25 := B10.all k17 Apart.none
 have B26 := B11.all k17 Apart.none
 have B27 := B12.all k17 Apart.none
 have B28 := B4.all k17 id
 have K29 := K13.trans k17 (fun _ _ x => x.elim)
 refine wl_nil fun F30 hF31 => ?_
 have s32 : F30 1 = .int .i64 (p) := (hF31 1).trans rfl
 have s33 : F30 2 = .int .i64 (x) := (hF31 2).trans rfl
 have s34 : F30 3 = .int .i64 (y) := (hF31 3).trans rfl
 have s35 : F30 48 = undef := (hF31 48).trans rfl
 have s36 : F30 4 = .pointer (some ⟨p1, 0, none⟩) := (hF31 4).trans rfl
 have s37 : F30 8 = .pointer (some ⟨p14, 0, none⟩) := (hF31 8).trans rfl
 clear hF31
 refine then_normal ?_
 refine wq_seq ?_
 refine wq_region ?_
 refine wl_v (.agg #[.int .i64 ((f).W), .int .i64 ((f).H), f0, f1, f2]) rfl rfl (y_load_stc stcT_frame rfl s36 B28 ⟨rfl, rfl⟩) ?_
 refine wl_v (.int .i64 (p)) rfl rfl (y_mov rfl s32 ⟨rfl, rfl⟩) ?_
 refine wl_call (R := fun v_ w_ => v_ = .tuple #[.int .i64 ((sizeF (f) (p)).1), .int .i64 ((sizeF (f) (p)).2)] ∧ Kept (fun _ => False) w15 w_) rfl rfl (y_cs rfl rfl rfl (fun _ _ => by kernel_rfl) (ev_func _) (vsC rfl (vsC rfl vsN)) (pl_size (p) (f) (f0) (f1) (f2) (T_f0) (T_f1) (T_f2) _  B25 B26 B27 ) (fun e_ w_ h_ => ⟨_, h_.1, rfl, h_.2⟩)) ?_
 rintro _ w38 ⟨rfl, k39⟩
 have B40 := B25.all k39 Apart.none
 have B41 := B26.all k39 Apart.none
 have B42 := B27.all k39 Apart.none
 have B43 := B28.all k39 id
 have B44 := B16.all k39 id
 have K45 := K29.trans k39 (fun _ _ x => x.elim)
 refine wl_v (.tuple #[.int .i64 ((sizeF (f) (p)).1), .int .i64 ((sizeF (f) (p)).2)]) rfl rfl (y_mov rfl rfl ⟨rfl, rfl⟩) ?_
 refine wl_v (.int .i64 ((sizeF (f) (p)).1)) rfl rfl (y_ext rfl rfl rfl ⟨rfl, rfl⟩) ?_
 refine wl_v (.int .i64 ((sizeF (f) (p)).2)) rfl rfl (y_ext rfl rfl rfl ⟨rfl, rfl⟩) ?_
 refine wl_v (.int .i64 ((sizeF (f) (p)).1)) rfl rfl (y_asg rfl rfl ⟨rfl, rfl⟩) ?_
 refine wl_v (.int .i64 ((sizeF (f) (p)).2)) rfl rfl (y_asg rfl rfl ⟨rfl, rfl⟩) ?_
 refine wl_nil fun F46 hF47 => ?_
 have s48 := (hF47 1).trans s32
 have s49 := (hF47 2).trans s33
 have s50 := (hF47 3).trans s34
 have s51 := (hF47 48).trans s35
 have s52 := (hF47 4).trans s36
 have s53 := (hF47 8).trans s37
 have s54 : F46 9 = .int .i64 ((sizeF (f) (p)).1) := (hF47 9).trans rfl
 have s55 : F46 10 = .int .i64 ((sizeF (f) (p)).2) := (hF47 10).trans rfl
 clear hF47
 refine then_normal ?_
 refine wq_seq ?_
 refine wq_seq ?_
 refine wq_region ?_
 refine wl_v (.int .i64 ((sizeF (f) (p)).1)) rfl rfl (y_mov rfl s54 ⟨rfl, rfl⟩) ?_
 refine wl_v (.bool (decide (((sizeF (f) (p)).1) = (0)))) rfl rfl (y_eqlI rfl rfl rfl rfl ⟨rfl, rfl⟩) ?_
 refine wl_nil fun F56 hF57 => ?_
 have s58 := (hF57 1).trans s48
 have s59 := (hF57 2).trans s49
 have s60 := (hF57 3).trans s50
 have s61 := (hF57 48).trans s51
 have s62 := (hF57 4).trans s52
 have s63 := (hF57 8).trans s53
 have s64 := (hF57 9).trans s54
 have s65 := (hF57 10).trans s55
 have s66 : F56 20 = .bool (decide (((sizeF (f) (p)).1) = (0))) := (hF57 20).trans rfl
 clear hF57
 refine then_normal ?_
 refine wq_cond s66 (fun c67 => ?_) (fun c67 => ?_)
 ·replace c67 := of_decide_eq_true c67
  refine wq_seq ?_
  refine wq_region ?_
  refine wl_v (blkV (fun _ => 0)) rfl rfl (y_buildR (cells := (arrL 16 (fun _ => 0)).toArray) rfl (by kernel_rfl) rfl ⟨rfl, rfl⟩) ?_
  refine wl_store_blk blkT_block rfl rfl rfl s63 rfl B44 fun w68 B69 k70 => ?_
  have K75 := K45.trans k70 (Grew.ok (S := fun _ => False) gr20 noB_le)
  refine wl_nil fun F76 hF77 => ?_
  have s78 := (hF77 48).trans s61
  have s79 := (hF77 8).trans s63
  clear hF77
  refine then_normal ?_
  refine wq_ret ?_
  refine then_ret ?_
  exact end_blk blkT_block s78 rfl rfl s79 B69 ⟨(by first | rfl | (rw [show getF f p x y = fun _ => 0 from funext fun i => atF_none _ _ (by assumption)])), K75⟩
 ·replace c67 := of_decide_eq_false c67
  refine wq_skip ?_
  refine then_normal ?_
  refine wq_seq ?_
  rcases (show p = 0 ∨ p = 1 ∨ p = 2 from size_cases (f := f) (by assumption)) with rfl | rfl | rfl
  ·skip
   have hsz : (sizeF f 0).1 ≠ 0 := by assumption
   have hb := size_bounds f 0
   have hsp := size_pos (size_some hsz)
   refine wq_region ?_
   refine wl_v (.int .i64 (x)) rfl rfl (y_mov rfl s59 ⟨rfl, rfl⟩) ?_
   refine wl_call (R := fun v_ w_ => v_ = .int .i64 (nearI (x)) ∧ Kept (fun _ => False) w38 w_) rfl rfl (y_cs rfl rfl rfl (fun _ _ => by kernel_rfl) (ev_func _) (vsC rfl vsN) (ps_near (x)  _   ) (fun e_ w_ h_ => ⟨_, h_.1, rfl, h_.2⟩)) ?_
   rintro _ w80 ⟨rfl, k81⟩
   have B82 := B40.all k81 Apart.none
   have B83 := B41.all k81 Apart.none
   have B84 := B42.all k81 Apart.none
   have B85 := B43.all k81 id
   have B86 := B44.all k81 id
   have K87 := K45.trans k81 (fun _ _ x => x.elim)
   refine wl_v (.int .i64 (y)) rfl rfl (y_mov rfl s60 ⟨rfl, rfl⟩) ?_
   refine wl_call (R := fun v_ w_ => v_ = .int .i64 (nearI (y)) ∧ Kept (fun _ => False) w80 w_) rfl rfl (y_cs rfl rfl rfl (fun _ _ => by kernel_rfl) (ev_func _) (vsC rfl vsN) (ps_near (y)  _   ) (fun e_ w_ h_ => ⟨_, h_.1, rfl, h_.2⟩)) ?_
   rintro _ w88 ⟨rfl, k89⟩
   have B90 := B82.all k89 Apart.none
   have B91 := B83.all k89 Apart.none
   have B92 := B84.all k89 Apart.none
   have B93 := B85.all k89 id
   have B94 := B86.all k89 id
   have K95 := K87.trans k89 (fun _ _ x => x.elim)
   refine wl_v (.int .i64 (nearI (x))) rfl rfl (y_asg rfl rfl ⟨rfl, rfl⟩) ?_
   refine wl_v (.int .i64 (nearI (y))) rfl rfl (y_asg rfl rfl ⟨rfl, rfl⟩) ?_
   refine wl_nil fun F96 hF97 => ?_
   have s98 := (hF97 1).trans s58
   have s99 := (hF97 48).trans s61
   have s100 := (hF97 4).trans s62
   have s101 := (hF97 8).trans s63
   have s102 := (hF97 9).trans s64
   have s103 := (hF97 10).trans s65
   have s104 : F96 2 = .int .i64 (nearI (x)) := (hF97 2).trans rfl
   have s105 : F96 3 = .int .i64 (nearI (y)) := (hF97 3).trans rfl
   clear hF97
   refine then_normal ?_
   refine wq_seq ?_
   refine wq_region ?_
   refine wl_alloc_blk rfl rfl rfl blkT_block.2.2 fun p106 w107 e110 B108 k109 => ?_
   have g111 := onB_new (Nat.le_of_eq e110.symm)
   have gr112 : Grew w0 noB (onB p106) := Grew.new K95 g111
   have ap113 : Apart (onB p106) (T_f0) := Apart.new g111 (B90).live
   have ap114 : Apart (onB p106) (T_f1) := Apart.new g111 (B91).live
   have ap115 : Apart (onB p106) (T_f2) := Apart.new g111 (B92).live
   have ap116 : Apart (onB p106) (onB p1) := Apart.new g111 (onB_live (B93).lt)
   have ap117 : Apart (onB p106) (onB p14) := Apart.new g111 (onB_live (B94).lt)
   clear e110 g111
   have B118 := B90.all k109 Apart.none
   have B119 := B91.all k109 Apart.none
   have B120 := B92.all k109 Apart.none
   have B121 := B93.all k109 id
   have B122 := B94.all k109 id
   have K123 := K95.trans k109 (fun _ _ x => x.elim)
   refine wl_nil fun F124 hF125 => ?_
   have s126 := (hF125 1).trans s98
   have s127 := (hF125 48).trans s99
   have s128 := (hF125 4).trans s100
   have s129 := (hF125 8).trans s101
   have s130 := (hF125 9).trans s102
   have s131 := (hF125 10).trans s103
   have s132 := (hF125 2).trans s104
   have s133 := (hF125 3).trans s105
   have s134 : F124 11 = .pointer (some ⟨p106, 0, none⟩) := (hF125 11).trans rfl
   clear hF125
   refine then_normal ?_
   refine wq_seq ?_
   refine wq_seq ?_
   refine wq_region ?_
   refine wl_v (.int .i64 (0)) rfl rfl (y_mov rfl rfl ⟨rfl, rfl⟩) ?_
   refine wl_nil fun F135 hF136 => ?_
   have s137 := (hF136 1).trans s126
   have s138 := (hF136 48).trans s127
   have s139 := (hF136 4).trans s128
   have s140 := (hF136 8).trans s129
   have s141 := (hF136 9).trans s130
   have s142 := (hF136 10).trans s131
   have s143 := (hF136 2).trans s132
   have s144 := (hF136 3).trans s133
   have s145 := (hF136 11).trans s134
   have s146 : F135 26 = .int .i64 (0) := (hF136 26).trans rfl
   clear hF136
   refine then_normal ?_
   refine wq_block ?_
   refine wq_loop (fun nn FF ww => ∃ (i : Nat), (i ≤ 16) ∧ nn = 16 - i ∧ FF 1 = .int .i64 (0) ∧ FF 2 = .int .i64 (nearI (x)) ∧ FF 3 = .int .i64 (nearI (y)) ∧ FF 4 = .pointer (some ⟨p1, 0, none⟩) ∧ FF 8 = .pointer (some ⟨p14, 0, none⟩) ∧ FF 9 = .int .i64 ((sizeF (f) (0)).1) ∧ FF 10 = .int .i64 ((sizeF (f) (0)).2) ∧ FF 11 = .pointer (some ⟨p106, 0, none⟩) ∧ FF 48 = undef ∧ FF 26 = .int .i64 (((i : Nat) : Int)) ∧ Kept (fun _ => False) w0 ww ∧ Byt ww (T_f0) f0 ((f).p0) ∧ Byt ww (T_f1) f1 ((f).p1) ∧ Byt ww (T_f2) f2 ((f).p2) ∧ Stc ww p1 68 [.int .i64 ((f).W), .int .i64 ((f).H), f0, f1, f2] ∧ Blk ww p14 25 (fun _ => 0) ∧ Blk ww p106 25 (upto i (fun _ => 0) (getF f 0 x y))) (16 - (0)) ⟨0, by omega, rfl, s137, s143, s144, s139, s140, s141, s142, s145, s138, s146, K123, B118, B119, B120, B121, B122, B108.first⟩ ?_
   rintro n150 F147 w148 ⟨i, i151, hn150, s152, s153, s154, s155, s156, s157, s158, s159, s160, s161, K149, B162, B163, B164, B165, B166, B167⟩
   refine wq_seq ?_
   refine wq_region ?_
   refine wl_v (.bool (decide ((((i : Nat) : Int)) < (16)))) rfl rfl (y_lss rfl s161 rfl rfl ⟨rfl, rfl⟩) ?_
   refine wl_nil fun F168 hF169 => ?_
   have s170 := (hF169 1).trans s152
   have s171 := (hF169 2).trans s153
   have s172 := (hF169 3).trans s154
   have s173 := (hF169 4).trans s155
   have s174 := (hF169 8).trans s156
   have s175 := (hF169 9).trans s157
   have s176 := (hF169 10).trans s158
   have s177 := (hF169 11).trans s159
   have s178 := (hF169 48).trans s160
   have s179 := (hF169 26).trans s161
   have s180 : F168 27 = .bool (decide ((((i : Nat) : Int)) < (16))) := (hF169 27).trans rfl
   clear hF169
   refine then_normal ?_
   refine wq_seq ?_
   refine wq_cond s180 (fun c181 => ?_) (fun c181 => ?_)
   ·replace c181 := of_decide_eq_true c181
    refine wq_skip ?_
    refine then_normal ?_
    refine wq_seq ?_
    refine wq_block ?_
    refine wq_seq ?_
    refine wq_region ?_
    refine wl_v (.int .i64 (((i : Nat) : Int))) rfl rfl (y_mov rfl s179 ⟨rfl, rfl⟩) ?_
    refine wl_v (.int .i64 (((i : Nat) : Int))) rfl rfl (y_asg rfl rfl ⟨rfl, rfl⟩) ?_
    refine wl_nil fun F182 hF183 => ?_
    have s184 := (hF183 1).trans s170
    have s185 := (hF183 2).trans s171
    have s186 := (hF183 3).trans s172
    have s187 := (hF183 4).trans s173
    have s188 := (hF183 8).trans s174
    have s189 := (hF183 9).trans s175
    have s190 := (hF183 10).trans s176
    have s191 := (hF183 11).trans s177
    have s192 := (hF183 48).trans s178
    have s193 := (hF183 26).trans s179
    have s194 : F182 12 = .int .i64 (((i : Nat) : Int)) := (hF183 12).trans rfl
    clear hF183
    refine then_normal ?_
    have hr := row_in (nearI y + ((i / 4 : Nat) : Int)) hsz
    refine wq_region ?_
    refine wl_v (.int .i64 (((i : Nat) : Int))) rfl rfl (y_mov rfl s194 ⟨rfl, rfl⟩) ?_
    refine wl_v (.int .i64 (0)) rfl rfl (y_mov rfl s184 ⟨rfl, rfl⟩) ?_
    refine wl_v (.pointer (some ⟨p1, 2, none⟩)) rfl rfl (y_fieldR (n := 3) rfl s187 Tryd.underlying68 rfl (by kernel_rfl) (by decide) rfl ⟨rfl, rfl⟩) ?_
    refine wl_v (.pointer (some ⟨p1, 2, none⟩)) rfl rfl (y_atR (0) (s := 1) rfl rfl rfl (by omega) Tryd.underlying66 (by omega) (by kernel_rfl) (by omega) ⟨rfl, rfl⟩) ?_
    refine wl_v (f0) rfl rfl (y_ld_stc rfl rfl Tryd.underlying28 B165 rfl rfl ⟨rfl, rfl⟩) ?_
    refine wl_v (.int .i64 ((sizeF (f) (0)).1)) rfl rfl (y_mov rfl s189 ⟨rfl, rfl⟩) ?_
    refine wl_v (.int .i64 ((sizeF (f) (0)).2)) rfl rfl (y_mov rfl s190 ⟨rfl, rfl⟩) ?_
    refine wl_v (.int .i64 (nearI (x))) rfl rfl (y_mov rfl s185 ⟨rfl, rfl⟩) ?_
    refine wl_v (.int .i64 (((i : Nat) : Int))) rfl rfl (y_mov rfl s194 ⟨rfl, rfl⟩) ?_
    refine wl_v (.int .i64 ((((i % 4) : Nat) : Int))) rfl rfl (y_rem rfl rfl rfl (by first | decide | omega) (rfl) ⟨rfl, rfl⟩) ?_
    refine wl_v (.int .i64 ((nearI (x)) + ((((i % 4) : Nat) : Int)))) rfl rfl (y_add rfl rfl rfl (i64_i rfl (by omega)) ⟨rfl, rfl⟩) ?_
    refine wl_v (.int .i64 (nearI (y))) rfl rfl (y_mov rfl s186 ⟨rfl, rfl⟩) ?_
    refine wl_v (.int .i64 (((i : Nat) : Int))) rfl rfl (y_mov rfl s194 ⟨rfl, rfl⟩) ?_
    refine wl_v (.int .i64 ((((i / 4) : Nat) : Int))) rfl rfl (y_quo rfl rfl rfl (by first | decide | omega) (i64_n (quo_nat i 4) (by omega)) ⟨rfl, rfl⟩) ?_
    refine wl_v (.int .i64 ((nearI (y)) + ((((i / 4) : Nat) : Int)))) rfl rfl (y_add rfl rfl rfl (i64_i rfl (by omega)) ⟨rfl, rfl⟩) ?_
    refine wl_call (R := fun v_ w_ => v_ = .int .i64 (nearS ((f).p0) ((sizeF (f) (0)).1) ((sizeF (f) (0)).2) ((nearI (x)) + ((((i % 4) : Nat) : Int))) ((nearI (y)) + ((((i / 4) : Nat) : Int)))) ∧ Kept (fun _ => False) w148 w_) rfl rfl (y_cs rfl rfl rfl (fun _ _ => by kernel_rfl) (ev_func _) (vsC rfl (vsC rfl (vsC rfl (vsC rfl (vsC rfl vsN))))) (ps_nearest (f0) ((f).p0) ((sizeF (f) (0)).1) ((sizeF (f) (0)).2) ((nearI (x)) + ((((i % 4) : Nat) : Int))) ((nearI (y)) + ((((i / 4) : Nat) : Int))) (T_f0) _ (by omega) (by omega) (by exact hr.1) (by exact hr.2) B162 ) (fun e_ w_ h_ => ⟨_, h_.1, rfl, h_.2⟩)) ?_
    rintro _ w195 ⟨rfl, k196⟩
    have B197 := B162.all k196 Apart.none
    have B198 := B163.all k196 Apart.none
    have B199 := B164.all k196 Apart.none
    have B200 := B165.all k196 id
    have B201 := B166.all k196 id
    have B202 := B167.all k196 id
    have K203 := K149.trans k196 (fun _ _ x => x.elim)
    refine wl_v (.pointer (some ⟨p106, i, none⟩)) rfl rfl (y_atR (i) (s := 1) rfl s191 rfl (by omega) Tryd.underlying25 (by omega) (by kernel_rfl) (by omega) ⟨rfl, rfl⟩) ?_
    refine wl_set_blk rfl rfl rfl rfl rfl B202 (by omega) (by kernel_rfl) fun w204 B205 k206 => ?_
    have B207 := B197.all k206 (fun i h x => (((ap113).symm) i h x))
    have B208 := B198.all k206 (fun i h x => (((ap114).symm) i h x))
    have B209 := B199.all k206 (fun i h x => (((ap115).symm) i h x))
    have B210 := B200.all k206 (fun x => (((ap116).symm) p1 rfl x))
    have B211 := B201.all k206 (fun x => (((ap117).symm) p14 rfl x))
    have K212 := K203.trans k206 (Grew.ok (S := fun _ => False) gr112 noB_le)
    refine wl_nil fun F213 hF214 => ?_
    have s215 := (hF214 1).trans s184
    have s216 := (hF214 2).trans s185
    have s217 := (hF214 3).trans s186
    have s218 := (hF214 4).trans s187
    have s219 := (hF214 8).trans s188
    have s220 := (hF214 9).trans s189
    have s221 := (hF214 10).trans s190
    have s222 := (hF214 11).trans s191
    have s223 := (hF214 48).trans s192
    have s224 := (hF214 26).trans s193
    clear hF214
    refine in_normal ?_
    refine then_normal ?_
    refine wq_region ?_
    refine wl_v (.int .i64 (((i + 1 : Nat) : Int))) rfl rfl (y_add rfl s224 rfl (i64_n (by omega) (by omega)) ⟨rfl, rfl⟩) ?_
    refine wl_v (.int .i64 (((i + 1 : Nat) : Int))) rfl rfl (y_mov rfl rfl ⟨rfl, rfl⟩) ?_
    refine wl_nil fun F225 hF226 => ?_
    have s227 := (hF226 1).trans s215
    have s228 := (hF226 2).trans s216
    have s229 := (hF226 3).trans s217
    have s230 := (hF226 4).trans s218
    have s231 := (hF226 8).trans s219
    have s232 := (hF226 9).trans s220
    have s233 := (hF226 10).trans s221
    have s234 := (hF226 11).trans s222
    have s235 := (hF226 48).trans s223
    have s236 : F225 26 = .int .i64 (((i + 1 : Nat) : Int)) := (hF226 26).trans rfl
    clear hF226
    exact then_normal ⟨(16 - (i + 1)), by omega, i + 1, by omega, rfl, s227, s228, s229, s230, s231, s232, s233, s234, s235, s236, K212, B207, B208, B209, B210, B211, (B205.next (near_at _ _ hsz))⟩
   ·replace c181 := of_decide_eq_false c181
    refine wq_exit ?_
    refine then_exit ?_
    refine then_exit ?_
    have l237 : 16 = i := by omega
    subst l237
    have B238 : Blk w148 p106 25 (getF f 0 x y) := (B167.last)
    refine in_here ?_
    refine then_normal ?_
    refine wq_seq ?_
    refine wq_region ?_
    refine wl_v (blkV (getF f 0 x y)) rfl rfl (y_load_blk blkT_block rfl s177 B238 ⟨rfl, rfl⟩) ?_
    refine wl_store_blk blkT_block rfl rfl rfl s174 rfl B166 fun w239 B240 k241 => ?_
    have K247 := K149.trans k241 (Grew.ok (S := fun _ => False) gr20 noB_le)
    refine wl_nil fun F248 hF249 => ?_
    have s250 := (hF249 8).trans s174
    have s251 := (hF249 48).trans s178
    clear hF249
    refine then_normal ?_
    refine wq_ret ?_
    exact end_blk blkT_block s251 rfl rfl s250 B240 ⟨(by first | rfl | (rw [show getF f 0 x y = fun _ => 0 from funext fun i => atF_none _ _ (by assumption)])), K247⟩
  ·skip
   have hsz : (sizeF f 1).1 ≠ 0 := by assumption
   have hb := size_bounds f 1
   have hsp := size_pos (size_some hsz)
   refine wq_region ?_
   refine wl_v (.int .i64 (x)) rfl rfl (y_mov rfl s59 ⟨rfl, rfl⟩) ?_
   refine wl_call (R := fun v_ w_ => v_ = .int .i64 (nearI (x)) ∧ Kept (fun _ => False) w38 w_) rfl rfl (y_cs rfl rfl rfl (fun _ _ => by kernel_rfl) (ev_func _) (vsC rfl vsN) (ps_near (x)  _   ) (fun e_ w_ h_ => ⟨_, h_.1, rfl, h_.2⟩)) ?_
   rintro _ w252 ⟨rfl, k253⟩
   have B254 := B40.all k253 Apart.none
   have B255 := B41.all k253 Apart.none
   have B256 := B42.all k253 Apart.none
   have B257 := B43.all k253 id
   have B258 := B44.all k253 id
   have K259 := K45.trans k253 (fun _ _ x => x.elim)
   refine wl_v (.int .i64 (y)) rfl rfl (y_mov rfl s60 ⟨rfl, rfl⟩) ?_
   refine wl_call (R := fun v_ w_ => v_ = .int .i64 (nearI (y)) ∧ Kept (fun _ => False) w252 w_) rfl rfl (y_cs rfl rfl rfl (fun _ _ => by kernel_rfl) (ev_func _) (vsC rfl vsN) (ps_near (y)  _   ) (fun e_ w_ h_ => ⟨_, h_.1, rfl, h_.2⟩)) ?_
   rintro _ w260 ⟨rfl, k261⟩
   have B262 := B254.all k261 Apart.none
   have B263 := B255.all k261 Apart.none
   have B264 := B256.all k261 Apart.none
   have B265 := B257.all k261 id
   have B266 := B258.all k261 id
   have K267 := K259.trans k261 (fun _ _ x => x.elim)
   refine wl_v (.int .i64 (nearI (x))) rfl rfl (y_asg rfl rfl ⟨rfl, rfl⟩) ?_
   refine wl_v (.int .i64 (nearI (y))) rfl rfl (y_asg rfl rfl ⟨rfl, rfl⟩) ?_
   refine wl_nil fun F268 hF269 => ?_
   have s270 := (hF269 1).trans s58
   have s271 := (hF269 48).trans s61
   have s272 := (hF269 4).trans s62
   have s273 := (hF269 8).trans s63
   have s274 := (hF269 9).trans s64
   have s275 := (hF269 10).trans s65
   have s276 : F268 2 = .int .i64 (nearI (x)) := (hF269 2).trans rfl
   have s277 : F268 3 = .int .i64 (nearI (y)) := (hF269 3).trans rfl
   clear hF269
   refine then_normal ?_
   refine wq_seq ?_
   refine wq_region ?_
   refine wl_alloc_blk rfl rfl rfl blkT_block.2.2 fun p278 w279 e282 B280 k281 => ?_
   have g283 := onB_new (Nat.le_of_eq e282.symm)
   have gr284 : Grew w0 noB (onB p278) := Grew.new K267 g283
   have ap285 : Apart (onB p278) (T_f0) := Apart.new g283 (B262).live
   have ap286 : Apart (onB p278) (T_f1) := Apart.new g283 (B263).live
   have ap287 : Apart (onB p278) (T_f2) := Apart.new g283 (B264).live
   have ap288 : Apart (onB p278) (onB p1) := Apart.new g283 (onB_live (B265).lt)
   have ap289 : Apart (onB p278) (onB p14) := Apart.new g283 (onB_live (B266).lt)
   clear e282 g283
   have B290 := B262.all k281 Apart.none
   have B291 := B263.all k281 Apart.none
   have B292 := B264.all k281 Apart.none
   have B293 := B265.all k281 id
   have B294 := B266.all k281 id
   have K295 := K267.trans k281 (fun _ _ x => x.elim)
   refine wl_nil fun F296 hF297 => ?_
   have s298 := (hF297 1).trans s270
   have s299 := (hF297 48).trans s271
   have s300 := (hF297 4).trans s272
   have s301 := (hF297 8).trans s273
   have s302 := (hF297 9).trans s274
   have s303 := (hF297 10).trans s275
   have s304 := (hF297 2).trans s276
   have s305 := (hF297 3).trans s277
   have s306 : F296 11 = .pointer (some ⟨p278, 0, none⟩) := (hF297 11).trans rfl
   clear hF297
   refine then_normal ?_
   refine wq_seq ?_
   refine wq_seq ?_
   refine wq_region ?_
   refine wl_v (.int .i64 (0)) rfl rfl (y_mov rfl rfl ⟨rfl, rfl⟩) ?_
   refine wl_nil fun F307 hF308 => ?_
   have s309 := (hF308 1).trans s298
   have s310 := (hF308 48).trans s299
   have s311 := (hF308 4).trans s300
   have s312 := (hF308 8).trans s301
   have s313 := (hF308 9).trans s302
   have s314 := (hF308 10).trans s303
   have s315 := (hF308 2).trans s304
   have s316 := (hF308 3).trans s305
   have s317 := (hF308 11).trans s306
   have s318 : F307 26 = .int .i64 (0) := (hF308 26).trans rfl
   clear hF308
   refine then_normal ?_
   refine wq_block ?_
   refine wq_loop (fun nn FF ww => ∃ (i : Nat), (i ≤ 16) ∧ nn = 16 - i ∧ FF 1 = .int .i64 (1) ∧ FF 2 = .int .i64 (nearI (x)) ∧ FF 3 = .int .i64 (nearI (y)) ∧ FF 4 = .pointer (some ⟨p1, 0, none⟩) ∧ FF 8 = .pointer (some ⟨p14, 0, none⟩) ∧ FF 9 = .int .i64 ((sizeF (f) (1)).1) ∧ FF 10 = .int .i64 ((sizeF (f) (1)).2) ∧ FF 11 = .pointer (some ⟨p278, 0, none⟩) ∧ FF 48 = undef ∧ FF 26 = .int .i64 (((i : Nat) : Int)) ∧ Kept (fun _ => False) w0 ww ∧ Byt ww (T_f0) f0 ((f).p0) ∧ Byt ww (T_f1) f1 ((f).p1) ∧ Byt ww (T_f2) f2 ((f).p2) ∧ Stc ww p1 68 [.int .i64 ((f).W), .int .i64 ((f).H), f0, f1, f2] ∧ Blk ww p14 25 (fun _ => 0) ∧ Blk ww p278 25 (upto i (fun _ => 0) (getF f 1 x y))) (16 - (0)) ⟨0, by omega, rfl, s309, s315, s316, s311, s312, s313, s314, s317, s310, s318, K295, B290, B291, B292, B293, B294, B280.first⟩ ?_
   rintro n322 F319 w320 ⟨i, i323, hn322, s324, s325, s326, s327, s328, s329, s330, s331, s332, s333, K321, B334, B335, B336, B337, B338, B339⟩
   refine wq_seq ?_
   refine wq_region ?_
   refine wl_v (.bool (decide ((((i : Nat) : Int)) < (16)))) rfl rfl (y_lss rfl s333 rfl rfl ⟨rfl, rfl⟩) ?_
   refine wl_nil fun F340 hF341 => ?_
   have s342 := (hF341 1).trans s324
   have s343 := (hF341 2).trans s325
   have s344 := (hF341 3).trans s326
   have s345 := (hF341 4).trans s327
   have s346 := (hF341 8).trans s328
   have s347 := (hF341 9).trans s329
   have s348 := (hF341 10).trans s330
   have s349 := (hF341 11).trans s331
   have s350 := (hF341 48).trans s332
   have s351 := (hF341 26).trans s333
   have s352 : F340 27 = .bool (decide ((((i : Nat) : Int)) < (16))) := (hF341 27).trans rfl
   clear hF341
   refine then_normal ?_
   refine wq_seq ?_
   refine wq_cond s352 (fun c353 => ?_) (fun c353 => ?_)
   ·replace c353 := of_decide_eq_true c353
    refine wq_skip ?_
    refine then_normal ?_
    refine wq_seq ?_
    refine wq_block ?_
    refine wq_seq ?_
    refine wq_region ?_
    refine wl_v (.int .i64 (((i : Nat) : Int))) rfl rfl (y_mov rfl s351 ⟨rfl, rfl⟩) ?_
    refine wl_v (.int .i64 (((i : Nat) : Int))) rfl rfl (y_asg rfl rfl ⟨rfl, rfl⟩) ?_
    refine wl_nil fun F354 hF355 => ?_
    have s356 := (hF355 1).trans s342
    have s357 := (hF355 2).trans s343
    have s358 := (hF355 3).trans s344
    have s359 := (hF355 4).trans s345
    have s360 := (hF355 8).trans s346
    have s361 := (hF355 9).trans s347
    have s362 := (hF355 10).trans s348
    have s363 := (hF355 11).trans s349
    have s364 := (hF355 48).trans s350
    have s365 := (hF355 26).trans s351
    have s366 : F354 12 = .int .i64 (((i : Nat) : Int)) := (hF355 12).trans rfl
    clear hF355
    refine then_normal ?_
    have hr := row_in (nearI y + ((i / 4 : Nat) : Int)) hsz
    refine wq_region ?_
    refine wl_v (.int .i64 (((i : Nat) : Int))) rfl rfl (y_mov rfl s366 ⟨rfl, rfl⟩) ?_
    refine wl_v (.int .i64 (1)) rfl rfl (y_mov rfl s356 ⟨rfl, rfl⟩) ?_
    refine wl_v (.pointer (some ⟨p1, 2, none⟩)) rfl rfl (y_fieldR (n := 3) rfl s359 Tryd.underlying68 rfl (by kernel_rfl) (by decide) rfl ⟨rfl, rfl⟩) ?_
    refine wl_v (.pointer (some ⟨p1, 3, none⟩)) rfl rfl (y_atR (1) (s := 1) rfl rfl rfl (by omega) Tryd.underlying66 (by omega) (by kernel_rfl) (by omega) ⟨rfl, rfl⟩) ?_
    refine wl_v (f1) rfl rfl (y_ld_stc rfl rfl Tryd.underlying28 B337 rfl rfl ⟨rfl, rfl⟩) ?_
    refine wl_v (.int .i64 ((sizeF (f) (1)).1)) rfl rfl (y_mov rfl s361 ⟨rfl, rfl⟩) ?_
    refine wl_v (.int .i64 ((sizeF (f) (1)).2)) rfl rfl (y_mov rfl s362 ⟨rfl, rfl⟩) ?_
    refine wl_v (.int .i64 (nearI (x))) rfl rfl (y_mov rfl s357 ⟨rfl, rfl⟩) ?_
    refine wl_v (.int .i64 (((i : Nat) : Int))) rfl rfl (y_mov rfl s366 ⟨rfl, rfl⟩) ?_
    refine wl_v (.int .i64 ((((i % 4) : Nat) : Int))) rfl rfl (y_rem rfl rfl rfl (by first | decide | omega) (rfl) ⟨rfl, rfl⟩) ?_
    refine wl_v (.int .i64 ((nearI (x)) + ((((i % 4) : Nat) : Int)))) rfl rfl (y_add rfl rfl rfl (i64_i rfl (by omega)) ⟨rfl, rfl⟩) ?_
    refine wl_v (.int .i64 (nearI (y))) rfl rfl (y_mov rfl s358 ⟨rfl, rfl⟩) ?_
    refine wl_v (.int .i64 (((i : Nat) : Int))) rfl rfl (y_mov rfl s366 ⟨rfl, rfl⟩) ?_
    refine wl_v (.int .i64 ((((i / 4) : Nat) : Int))) rfl rfl (y_quo rfl rfl rfl (by first | decide | omega) (i64_n (quo_nat i 4) (by omega)) ⟨rfl, rfl⟩) ?_
    refine wl_v (.int .i64 ((nearI (y)) + ((((i / 4) : Nat) : Int)))) rfl rfl (y_add rfl rfl rfl (i64_i rfl (by omega)) ⟨rfl, rfl⟩) ?_
    refine wl_call (R := fun v_ w_ => v_ = .int .i64 (nearS ((f).p1) ((sizeF (f) (1)).1) ((sizeF (f) (1)).2) ((nearI (x)) + ((((i % 4) : Nat) : Int))) ((nearI (y)) + ((((i / 4) : Nat) : Int)))) ∧ Kept (fun _ => False) w320 w_) rfl rfl (y_cs rfl rfl rfl (fun _ _ => by kernel_rfl) (ev_func _) (vsC rfl (vsC rfl (vsC rfl (vsC rfl (vsC rfl vsN))))) (ps_nearest (f1) ((f).p1) ((sizeF (f) (1)).1) ((sizeF (f) (1)).2) ((nearI (x)) + ((((i % 4) : Nat) : Int))) ((nearI (y)) + ((((i / 4) : Nat) : Int))) (T_f1) _ (by omega) (by omega) (by exact hr.1) (by exact hr.2) B335 ) (fun e_ w_ h_ => ⟨_, h_.1, rfl, h_.2⟩)) ?_
    rintro _ w367 ⟨rfl, k368⟩
    have B369 := B334.all k368 Apart.none
    have B370 := B335.all k368 Apart.none
    have B371 := B336.all k368 Apart.none
    have B372 := B337.all k368 id
    have B373 := B338.all k368 id
    have B374 := B339.all k368 id
    have K375 := K321.trans k368 (fun _ _ x => x.elim)
    refine wl_v (.pointer (some ⟨p278, i, none⟩)) rfl rfl (y_atR (i) (s := 1) rfl s363 rfl (by omega) Tryd.underlying25 (by omega) (by kernel_rfl) (by omega) ⟨rfl, rfl⟩) ?_
    refine wl_set_blk rfl rfl rfl rfl rfl B374 (by omega) (by kernel_rfl) fun w376 B377 k378 => ?_
    have B379 := B369.all k378 (fun i h x => (((ap285).symm) i h x))
    have B380 := B370.all k378 (fun i h x => (((ap286).symm) i h x))
    have B381 := B371.all k378 (fun i h x => (((ap287).symm) i h x))
    have B382 := B372.all k378 (fun x => (((ap288).symm) p1 rfl x))
    have B383 := B373.all k378 (fun x => (((ap289).symm) p14 rfl x))
    have K384 := K375.trans k378 (Grew.ok (S := fun _ => False) gr284 noB_le)
    refine wl_nil fun F385 hF386 => ?_
    have s387 := (hF386 1).trans s356
    have s388 := (hF386 2).trans s357
    have s389 := (hF386 3).trans s358
    have s390 := (hF386 4).trans s359
    have s391 := (hF386 8).trans s360
    have s392 := (hF386 9).trans s361
    have s393 := (hF386 10).trans s362
    have s394 := (hF386 11).trans s363
    have s395 := (hF386 48).trans s364
    have s396 := (hF386 26).trans s365
    clear hF386
    refine in_normal ?_
    refine then_normal ?_
    refine wq_region ?_
    refine wl_v (.int .i64 (((i + 1 : Nat) : Int))) rfl rfl (y_add rfl s396 rfl (i64_n (by omega) (by omega)) ⟨rfl, rfl⟩) ?_
    refine wl_v (.int .i64 (((i + 1 : Nat) : Int))) rfl rfl (y_mov rfl rfl ⟨rfl, rfl⟩) ?_
    refine wl_nil fun F397 hF398 => ?_
    have s399 := (hF398 1).trans s387
    have s400 := (hF398 2).trans s388
    have s401 := (hF398 3).trans s389
    have s402 := (hF398 4).trans s390
    have s403 := (hF398 8).trans s391
    have s404 := (hF398 9).trans s392
    have s405 := (hF398 10).trans s393
    have s406 := (hF398 11).trans s394
    have s407 := (hF398 48).trans s395
    have s408 : F397 26 = .int .i64 (((i + 1 : Nat) : Int)) := (hF398 26).trans rfl
    clear hF398
    exact then_normal ⟨(16 - (i + 1)), by omega, i + 1, by omega, rfl, s399, s400, s401, s402, s403, s404, s405, s406, s407, s408, K384, B379, B380, B381, B382, B383, (B377.next (near_at _ _ hsz))⟩
   ·replace c353 := of_decide_eq_false c353
    refine wq_exit ?_
    refine then_exit ?_
    refine then_exit ?_
    have l409 : 16 = i := by omega
    subst l409
    have B410 : Blk w320 p278 25 (getF f 1 x y) := (B339.last)
    refine in_here ?_
    refine then_normal ?_
    refine wq_seq ?_
    refine wq_region ?_
    refine wl_v (blkV (getF f 1 x y)) rfl rfl (y_load_blk blkT_block rfl s349 B410 ⟨rfl, rfl⟩) ?_
    refine wl_store_blk blkT_block rfl rfl rfl s346 rfl B338 fun w411 B412 k413 => ?_
    have K419 := K321.trans k413 (Grew.ok (S := fun _ => False) gr20 noB_le)
    refine wl_nil fun F420 hF421 => ?_
    have s422 := (hF421 8).trans s346
    have s423 := (hF421 48).trans s350
    clear hF421
    refine then_normal ?_
    refine wq_ret ?_
    exact end_blk blkT_block s423 rfl rfl s422 B412 ⟨(by first | rfl | (rw [show getF f 1 x y = fun _ => 0 from funext fun i => atF_none _ _ (by assumption)])), K419⟩
  ·skip
   have hsz : (sizeF f 2).1 ≠ 0 := by assumption
   have hb := size_bounds f 2
   have hsp := size_pos (size_some hsz)
   refine wq_region ?_
   refine wl_v (.int .i64 (x)) rfl rfl (y_mov rfl s59 ⟨rfl, rfl⟩) ?_
   refine wl_call (R := fun v_ w_ => v_ = .int .i64 (nearI (x)) ∧ Kept (fun _ => False) w38 w_) rfl rfl (y_cs rfl rfl rfl (fun _ _ => by kernel_rfl) (ev_func _) (vsC rfl vsN) (ps_near (x)  _   ) (fun e_ w_ h_ => ⟨_, h_.1, rfl, h_.2⟩)) ?_
   rintro _ w424 ⟨rfl, k425⟩
   have B426 := B40.all k425 Apart.none
   have B427 := B41.all k425 Apart.none
   have B428 := B42.all k425 Apart.none
   have B429 := B43.all k425 id
   have B430 := B44.all k425 id
   have K431 := K45.trans k425 (fun _ _ x => x.elim)
   refine wl_v (.int .i64 (y)) rfl rfl (y_mov rfl s60 ⟨rfl, rfl⟩) ?_
   refine wl_call (R := fun v_ w_ => v_ = .int .i64 (nearI (y)) ∧ Kept (fun _ => False) w424 w_) rfl rfl (y_cs rfl rfl rfl (fun _ _ => by kernel_rfl) (ev_func _) (vsC rfl vsN) (ps_near (y)  _   ) (fun e_ w_ h_ => ⟨_, h_.1, rfl, h_.2⟩)) ?_
   rintro _ w432 ⟨rfl, k433⟩
   have B434 := B426.all k433 Apart.none
   have B435 := B427.all k433 Apart.none
   have B436 := B428.all k433 Apart.none
   have B437 := B429.all k433 id
   have B438 := B430.all k433 id
   have K439 := K431.trans k433 (fun _ _ x => x.elim)
   refine wl_v (.int .i64 (nearI (x))) rfl rfl (y_asg rfl rfl ⟨rfl, rfl⟩) ?_
   refine wl_v (.int .i64 (nearI (y))) rfl rfl (y_asg rfl rfl ⟨rfl, rfl⟩) ?_
   refine wl_nil fun F440 hF441 => ?_
   have s442 := (hF441 1).trans s58
   have s443 := (hF441 48).trans s61
   have s444 := (hF441 4).trans s62
   have s445 := (hF441 8).trans s63
   have s446 := (hF441 9).trans s64
   have s447 := (hF441 10).trans s65
   have s448 : F440 2 = .int .i64 (nearI (x)) := (hF441 2).trans rfl
   have s449 : F440 3 = .int .i64 (nearI (y)) := (hF441 3).trans rfl
   clear hF441
   refine then_normal ?_
   refine wq_seq ?_
   refine wq_region ?_
   refine wl_alloc_blk rfl rfl rfl blkT_block.2.2 fun p450 w451 e454 B452 k453 => ?_
   have g455 := onB_new (Nat.le_of_eq e454.symm)
   have gr456 : Grew w0 noB (onB p450) := Grew.new K439 g455
   have ap457 : Apart (onB p450) (T_f0) := Apart.new g455 (B434).live
   have ap458 : Apart (onB p450) (T_f1) := Apart.new g455 (B435).live
   have ap459 : Apart (onB p450) (T_f2) := Apart.new g455 (B436).live
   have ap460 : Apart (onB p450) (onB p1) := Apart.new g455 (onB_live (B437).lt)
   have ap461 : Apart (onB p450) (onB p14) := Apart.new g455 (onB_live (B438).lt)
   clear e454 g455
   have B462 := B434.all k453 Apart.none
   have B463 := B435.all k453 Apart.none
   have B464 := B436.all k453 Apart.none
   have B465 := B437.all k453 id
   have B466 := B438.all k453 id
   have K467 := K439.trans k453 (fun _ _ x => x.elim)
   refine wl_nil fun F468 hF469 => ?_
   have s470 := (hF469 1).trans s442
   have s471 := (hF469 48).trans s443
   have s472 := (hF469 4).trans s444
   have s473 := (hF469 8).trans s445
   have s474 := (hF469 9).trans s446
   have s475 := (hF469 10).trans s447
   have s476 := (hF469 2).trans s448
   have s477 := (hF469 3).trans s449
   have s478 : F468 11 = .pointer (some ⟨p450, 0, none⟩) := (hF469 11).trans rfl
   clear hF469
   refine then_normal ?_
   refine wq_seq ?_
   refine wq_seq ?_
   refine wq_region ?_
   refine wl_v (.int .i64 (0)) rfl rfl (y_mov rfl rfl ⟨rfl, rfl⟩) ?_
   refine wl_nil fun F479 hF480 => ?_
   have s481 := (hF480 1).trans s470
   have s482 := (hF480 48).trans s471
   have s483 := (hF480 4).trans s472
   have s484 := (hF480 8).trans s473
   have s485 := (hF480 9).trans s474
   have s486 := (hF480 10).trans s475
   have s487 := (hF480 2).trans s476
   have s488 := (hF480 3).trans s477
   have s489 := (hF480 11).trans s478
   have s490 : F479 26 = .int .i64 (0) := (hF480 26).trans rfl
   clear hF480
   refine then_normal ?_
   refine wq_block ?_
   refine wq_loop (fun nn FF ww => ∃ (i : Nat), (i ≤ 16) ∧ nn = 16 - i ∧ FF 1 = .int .i64 (2) ∧ FF 2 = .int .i64 (nearI (x)) ∧ FF 3 = .int .i64 (nearI (y)) ∧ FF 4 = .pointer (some ⟨p1, 0, none⟩) ∧ FF 8 = .pointer (some ⟨p14, 0, none⟩) ∧ FF 9 = .int .i64 ((sizeF (f) (2)).1) ∧ FF 10 = .int .i64 ((sizeF (f) (2)).2) ∧ FF 11 = .pointer (some ⟨p450, 0, none⟩) ∧ FF 48 = undef ∧ FF 26 = .int .i64 (((i : Nat) : Int)) ∧ Kept (fun _ => False) w0 ww ∧ Byt ww (T_f0) f0 ((f).p0) ∧ Byt ww (T_f1) f1 ((f).p1) ∧ Byt ww (T_f2) f2 ((f).p2) ∧ Stc ww p1 68 [.int .i64 ((f).W), .int .i64 ((f).H), f0, f1, f2] ∧ Blk ww p14 25 (fun _ => 0) ∧ Blk ww p450 25 (upto i (fun _ => 0) (getF f 2 x y))) (16 - (0)) ⟨0, by omega, rfl, s481, s487, s488, s483, s484, s485, s486, s489, s482, s490, K467, B462, B463, B464, B465, B466, B452.first⟩ ?_
   rintro n494 F491 w492 ⟨i, i495, hn494, s496, s497, s498, s499, s500, s501, s502, s503, s504, s505, K493, B506, B507, B508, B509, B510, B511⟩
   refine wq_seq ?_
   refine wq_region ?_
   refine wl_v (.bool (decide ((((i : Nat) : Int)) < (16)))) rfl rfl (y_lss rfl s505 rfl rfl ⟨rfl, rfl⟩) ?_
   refine wl_nil fun F512 hF513 => ?_
   have s514 := (hF513 1).trans s496
   have s515 := (hF513 2).trans s497
   have s516 := (hF513 3).trans s498
   have s517 := (hF513 4).trans s499
   have s518 := (hF513 8).trans s500
   have s519 := (hF513 9).trans s501
   have s520 := (hF513 10).trans s502
   have s521 := (hF513 11).trans s503
   have s522 := (hF513 48).trans s504
   have s523 := (hF513 26).trans s505
   have s524 : F512 27 = .bool (decide ((((i : Nat) : Int)) < (16))) := (hF513 27).trans rfl
   clear hF513
   refine then_normal ?_
   refine wq_seq ?_
   refine wq_cond s524 (fun c525 => ?_) (fun c525 => ?_)
   ·replace c525 := of_decide_eq_true c525
    refine wq_skip ?_
    refine then_normal ?_
    refine wq_seq ?_
    refine wq_block ?_
    refine wq_seq ?_
    refine wq_region ?_
    refine wl_v (.int .i64 (((i : Nat) : Int))) rfl rfl (y_mov rfl s523 ⟨rfl, rfl⟩) ?_
    refine wl_v (.int .i64 (((i : Nat) : Int))) rfl rfl (y_asg rfl rfl ⟨rfl, rfl⟩) ?_
    refine wl_nil fun F526 hF527 => ?_
    have s528 := (hF527 1).trans s514
    have s529 := (hF527 2).trans s515
    have s530 := (hF527 3).trans s516
    have s531 := (hF527 4).trans s517
    have s532 := (hF527 8).trans s518
    have s533 := (hF527 9).trans s519
    have s534 := (hF527 10).trans s520
    have s535 := (hF527 11).trans s521
    have s536 := (hF527 48).trans s522
    have s537 := (hF527 26).trans s523
    have s538 : F526 12 = .int .i64 (((i : Nat) : Int)) := (hF527 12).trans rfl
    clear hF527
    refine then_normal ?_
    have hr := row_in (nearI y + ((i / 4 : Nat) : Int)) hsz
    refine wq_region ?_
    refine wl_v (.int .i64 (((i : Nat) : Int))) rfl rfl (y_mov rfl s538 ⟨rfl, rfl⟩) ?_
    refine wl_v (.int .i64 (2)) rfl rfl (y_mov rfl s528 ⟨rfl, rfl⟩) ?_
    refine wl_v (.pointer (some ⟨p1, 2, none⟩)) rfl rfl (y_fieldR (n := 3) rfl s531 Tryd.underlying68 rfl (by kernel_rfl) (by decide) rfl ⟨rfl, rfl⟩) ?_
    refine wl_v (.pointer (some ⟨p1, 4, none⟩)) rfl rfl (y_atR (2) (s := 1) rfl rfl rfl (by omega) Tryd.underlying66 (by omega) (by kernel_rfl) (by omega) ⟨rfl, rfl⟩) ?_
    refine wl_v (f2) rfl rfl (y_ld_stc rfl rfl Tryd.underlying28 B509 rfl rfl ⟨rfl, rfl⟩) ?_
    refine wl_v (.int .i64 ((sizeF (f) (2)).1)) rfl rfl (y_mov rfl s533 ⟨rfl, rfl⟩) ?_
    refine wl_v (.int .i64 ((sizeF (f) (2)).2)) rfl rfl (y_mov rfl s534 ⟨rfl, rfl⟩) ?_
    refine wl_v (.int .i64 (nearI (x))) rfl rfl (y_mov rfl s529 ⟨rfl, rfl⟩) ?_
    refine wl_v (.int .i64 (((i : Nat) : Int))) rfl rfl (y_mov rfl s538 ⟨rfl, rfl⟩) ?_
    refine wl_v (.int .i64 ((((i % 4) : Nat) : Int))) rfl rfl (y_rem rfl rfl rfl (by first | decide | omega) (rfl) ⟨rfl, rfl⟩) ?_
    refine wl_v (.int .i64 ((nearI (x)) + ((((i % 4) : Nat) : Int)))) rfl rfl (y_add rfl rfl rfl (i64_i rfl (by omega)) ⟨rfl, rfl⟩) ?_
    refine wl_v (.int .i64 (nearI (y))) rfl rfl (y_mov rfl s530 ⟨rfl, rfl⟩) ?_
    refine wl_v (.int .i64 (((i : Nat) : Int))) rfl rfl (y_mov rfl s538 ⟨rfl, rfl⟩) ?_
    refine wl_v (.int .i64 ((((i / 4) : Nat) : Int))) rfl rfl (y_quo rfl rfl rfl (by first | decide | omega) (i64_n (quo_nat i 4) (by omega)) ⟨rfl, rfl⟩) ?_
    refine wl_v (.int .i64 ((nearI (y)) + ((((i / 4) : Nat) : Int)))) rfl rfl (y_add rfl rfl rfl (i64_i rfl (by omega)) ⟨rfl, rfl⟩) ?_
    refine wl_call (R := fun v_ w_ => v_ = .int .i64 (nearS ((f).p2) ((sizeF (f) (2)).1) ((sizeF (f) (2)).2) ((nearI (x)) + ((((i % 4) : Nat) : Int))) ((nearI (y)) + ((((i / 4) : Nat) : Int)))) ∧ Kept (fun _ => False) w492 w_) rfl rfl (y_cs rfl rfl rfl (fun _ _ => by kernel_rfl) (ev_func _) (vsC rfl (vsC rfl (vsC rfl (vsC rfl (vsC rfl vsN))))) (ps_nearest (f2) ((f).p2) ((sizeF (f) (2)).1) ((sizeF (f) (2)).2) ((nearI (x)) + ((((i % 4) : Nat) : Int))) ((nearI (y)) + ((((i / 4) : Nat) : Int))) (T_f2) _ (by omega) (by omega) (by exact hr.1) (by exact hr.2) B508 ) (fun e_ w_ h_ => ⟨_, h_.1, rfl, h_.2⟩)) ?_
    rintro _ w539 ⟨rfl, k540⟩
    have B541 := B506.all k540 Apart.none
    have B542 := B507.all k540 Apart.none
    have B543 := B508.all k540 Apart.none
    have B544 := B509.all k540 id
    have B545 := B510.all k540 id
    have B546 := B511.all k540 id
    have K547 := K493.trans k540 (fun _ _ x => x.elim)
    refine wl_v (.pointer (some ⟨p450, i, none⟩)) rfl rfl (y_atR (i) (s := 1) rfl s535 rfl (by omega) Tryd.underlying25 (by omega) (by kernel_rfl) (by omega) ⟨rfl, rfl⟩) ?_
    refine wl_set_blk rfl rfl rfl rfl rfl B546 (by omega) (by kernel_rfl) fun w548 B549 k550 => ?_
    have B551 := B541.all k550 (fun i h x => (((ap457).symm) i h x))
    have B552 := B542.all k550 (fun i h x => (((ap458).symm) i h x))
    have B553 := B543.all k550 (fun i h x => (((ap459).symm) i h x))
    have B554 := B544.all k550 (fun x => (((ap460).symm) p1 rfl x))
    have B555 := B545.all k550 (fun x => (((ap461).symm) p14 rfl x))
    have K556 := K547.trans k550 (Grew.ok (S := fun _ => False) gr456 noB_le)
    refine wl_nil fun F557 hF558 => ?_
    have s559 := (hF558 1).trans s528
    have s560 := (hF558 2).trans s529
    have s561 := (hF558 3).trans s530
    have s562 := (hF558 4).trans s531
    have s563 := (hF558 8).trans s532
    have s564 := (hF558 9).trans s533
    have s565 := (hF558 10).trans s534
    have s566 := (hF558 11).trans s535
    have s567 := (hF558 48).trans s536
    have s568 := (hF558 26).trans s537
    clear hF558
    refine in_normal ?_
    refine then_normal ?_
    refine wq_region ?_
    refine wl_v (.int .i64 (((i + 1 : Nat) : Int))) rfl rfl (y_add rfl s568 rfl (i64_n (by omega) (by omega)) ⟨rfl, rfl⟩) ?_
    refine wl_v (.int .i64 (((i + 1 : Nat) : Int))) rfl rfl (y_mov rfl rfl ⟨rfl, rfl⟩) ?_
    refine wl_nil fun F569 hF570 => ?_
    have s571 := (hF570 1).trans s559
    have s572 := (hF570 2).trans s560
    have s573 := (hF570 3).trans s561
    have s574 := (hF570 4).trans s562
    have s575 := (hF570 8).trans s563
    have s576 := (hF570 9).trans s564
    have s577 := (hF570 10).trans s565
    have s578 := (hF570 11).trans s566
    have s579 := (hF570 48).trans s567
    have s580 : F569 26 = .int .i64 (((i + 1 : Nat) : Int)) := (hF570 26).trans rfl
    clear hF570
    exact then_normal ⟨(16 - (i + 1)), by omega, i + 1, by omega, rfl, s571, s572, s573, s574, s575, s576, s577, s578, s579, s580, K556, B551, B552, B553, B554, B555, (B549.next (near_at _ _ hsz))⟩
   ·replace c525 := of_decide_eq_false c525
    refine wq_exit ?_
    refine then_exit ?_
    refine then_exit ?_
    have l581 : 16 = i := by omega
    subst l581
    have B582 : Blk w492 p450 25 (getF f 2 x y) := (B511.last)
    refine in_here ?_
    refine then_normal ?_
    refine wq_seq ?_
    refine wq_region ?_
    refine wl_v (blkV (getF f 2 x y)) rfl rfl (y_load_blk blkT_block rfl s521 B582 ⟨rfl, rfl⟩) ?_
    refine wl_store_blk blkT_block rfl rfl rfl s518 rfl B510 fun w583 B584 k585 => ?_
    have K591 := K493.trans k585 (Grew.ok (S := fun _ => False) gr20 noB_le)
    refine wl_nil fun F592 hF593 => ?_
    have s594 := (hF593 8).trans s518
    have s595 := (hF593 48).trans s522
    clear hF593
    refine then_normal ?_
    refine wq_ret ?_
    exact end_blk blkT_block s595 rfl rfl s594 B584 ⟨(by first | rfl | (rw [show getF f 2 x y = fun _ => 0 from funext fun i => atF_none _ _ (by assumption)])), K591⟩

end Go.Proofs.YtdcbabgcbkdlhaaDoor
set_option maxRecDepth 100000
namespace Go.Proofs.YtdcbabgcbkdlhaaDoor
open Go.RowKit

theorem retB {a b : Bool} (h : a = b) : Ending.returned (.bool a) = .returned (.bool b) := by rw [h]
/-- A function that is asked with a number below n, in whatever world in which nothing that was there has changed. -/
def Ask1 (w : World) (n : Nat) (v : Value) (g : Nat → Int) : Prop :=
  ∃ (f : FuncId) (cs : List Value), v = .func (.func f) #[] cs.toArray ∧ (∀ args w, (callFunc f args).run Tryd.prog w = .ok (.enter f args) w) ∧
    ∀ w', Kept (fun _ => False) w w' → ∀ k : Nat, k < n → Calls Tryd.prog f (.int .i64 (k : Int) :: cs).toArray w' fun e w'' => e = .returned (.int .i64 (g k)) ∧ Kept (fun _ => False) w' w''
theorem Ask1.all {w w' : World} {n : Nat} {v : Value} {g : Nat → Int} (h : Ask1 w n v g) (k : Kept (fun _ => False) w w') : Ask1 w' n v g := by
  obtain ⟨f, cs, e, hf, h⟩ := h
  exact ⟨f, cs, e, hf, fun w2 k2 => h w2 (k.trans k2 (fun _ _ x => x))⟩
/-- .. with two. -/
def Ask2 (w : World) (n : Nat) (v : Value) (g : Nat → Nat → Int) : Prop :=
  ∃ (f : FuncId) (cs : List Value), v = .func (.func f) #[] cs.toArray ∧ (∀ args w, (callFunc f args).run Tryd.prog w = .ok (.enter f args) w) ∧
    ∀ w', Kept (fun _ => False) w w' → ∀ i k : Nat, i < n → k < n → Calls Tryd.prog f (.int .i64 (i : Int) :: .int .i64 (k : Int) :: cs).toArray w' fun e w'' => e = .returned (.int .i64 (g i k)) ∧ Kept (fun _ => False) w' w''
theorem Ask2.all {w w' : World} {n : Nat} {v : Value} {g : Nat → Nat → Int} (h : Ask2 w n v g) (k : Kept (fun _ => False) w w') : Ask2 w' n v g := by
  obtain ⟨f, cs, e, hf, h⟩ := h
  exact ⟨f, cs, e, hf, fun w2 k2 => h w2 (k.trans k2 (fun _ _ x => x))⟩
def Pd.ask2 (n : Nat) (g : Nat → Nat → Int) : Pd := ⟨fun v w => Ask2 w n v g, fun _ _ _ h k => h.all k⟩

section
variable {ρ : Operand → Value} {o : Oper} {w : World} {R : Value → World → Prop}
theorem y_fnc {P : Program} {f : FuncId} {xs : List Operand} {vs : List Value} (ho : o.op = .makeFunc (.func f) #[] xs.toArray) (hx : xs.map ρ = vs) (h : R (.func (.func f) #[] vs.toArray) w) : Yields P ρ o w R := by
  subst hx
  exact y_of (v := .func (.func f) #[] (xs.map ρ).toArray) (w' := w) (by simp [execOp, ho, show ∀ cap, (Instr.makeFunc (.func f) #[] cap).run P w = .ok (.func (.func f) #[] cap) w from fun _ => rfl]) h
theorem y_ask1 {c : Call} {cx x : Operand} {v : Value} {n k : Nat} {g : Nat → Int} (ho : o.op = .call c) (hc : c.callee = .value cx) (hcx : ρ cx = v) (hx : c.args = #[x]) (hv : ρ x = .int .i64 (k : Int)) (ha : Ask1 w n v g) (hk : k < n)
    (hS : ∀ (e : Ending) w', (e = .returned (.int .i64 (g k)) ∧ Kept (fun _ => False) w w') → ∃ v, e = .returned v ∧ R v w') : Yields Tryd.prog ρ o w R := by
  obtain ⟨f, cs, rfl, hf, h⟩ := ha
  obtain ⟨cl, ag, ts⟩ := c
  simp only at hc hx
  subst hc; subst hx
  unfold Yields
  have e : (execOp ρ o).run Tryd.prog w = .ok (.enter f (.int .i64 (k : Int) :: cs).toArray) w := by simp [execOp, ho, resolve, hcx, hv, Deferred.ofValue, invoke, hf]
  rw [e]
  exact (h w (Kept.refl _ _) k hk).mono hS
theorem y_ask2 {c : Call} {cx x y : Operand} {v : Value} {n i k : Nat} {g : Nat → Nat → Int} (ho : o.op = .call c) (hc : c.callee = .value cx) (hcx : ρ cx = v) (hx : c.args = #[x, y]) (hv : ρ x = .int .i64 (i : Int)) (hv2 : ρ y = .int .i64 (k : Int)) (ha : Ask2 w n v g) (hi : i < n) (hk : k < n)
    (hS : ∀ (e : Ending) w', (e = .returned (.int .i64 (g i k)) ∧ Kept (fun _ => False) w w') → ∃ v, e = .returned v ∧ R v w') : Yields Tryd.prog ρ o w R := by
  obtain ⟨f, cs, rfl, hf, h⟩ := ha
  obtain ⟨cl, ag, ts⟩ := c
  simp only at hc hx
  subst hc; subst hx
  unfold Yields
  have e : (execOp ρ o).run Tryd.prog w = .ok (.enter f (.int .i64 (i : Int) :: .int .i64 (k : Int) :: cs).toArray) w := by simp [execOp, ho, resolve, hcx, hv, hv2, Deferred.ofValue, invoke, hf]
  rw [e]
  exact (h w (Kept.refl _ _) i k hi hk).mono hS
theorem y_lookA {t : TypeId} {x y : Operand} {k : IntKind} {n : Nat} (j : Nat) {a : Nat → Int} {r : Int} (ht : ArrT t n) (ho : o.op = .index t x y) (hx : ρ x = .agg (arrL n a).toArray) (hy : ρ y = .int k (j : Int)) (hj : j < n) (hr : a j = r) (h : R (.int .i64 r) w) : Yields Tryd.prog ρ o w R := by
  subst hr
  have h1 : (arrL n a).toArray[j]? = some (.int .i64 (a j)) := by rw [List.getElem?_toArray]; exact arrL_at hj
  cases hq : Tryd.prog.info? 3 with
  | none => have := Tryd.size_int; simp [hq] at this
  | some i =>
    have hs' : i.size = 1 := by have := Tryd.size_int; simpa [hq] using this
    have hp : (part 3 (arrL n a).toArray j).run Tryd.prog w = .ok (.int .i64 (a j)) w := by simp [part, isAgg, run_underlying Tryd.underlying3, h1]
    have h2 : (j : Int) < (n : Int) := by omega
    exact y_of (v := .int .i64 (a j)) (w' := w) (by simp [execOp, ho, hx, hy, Instr.index, run_underlying ht.1, asIntOf, sizeOf, typeInfo, hq, hs', hj, hp]) h
theorem end_arr {N n : Nat} {F : Nat → Value} {fn : Func} {p : Tmp} {ty t : TypeId} {q : Nat} {b : Nat → Int} {R : Ending → World → Prop} (hT : ArrT ty n) (hm : F N = undef) (ht : Nat.blt p N = true) (h : fn.results = #[.cell p ty]) (hp : F p = .pointer (some ⟨q, 0, none⟩)) (hB : Arr w q t n b) (hR : R (.returned (.agg (arrL n b).toArray)) w) : endP Tryd.prog fn N R .ret F w :=
  ⟨hm, fun a ha => ⟨_, results_cell h _ _ q (by rw [ha.at' p ht]; exact hp) _ t (0, 0) _ hB hT.1 rfl (hT.size b), hR⟩⟩
def Pd.cel (n : Nat) (t : TypeId) (v : Value) : Pd := ⟨fun u w => ∃ p, u = .pointer (some ⟨p, 0, none⟩) ∧ n ≤ p ∧ Cel w p t v, fun _ _ _ ⟨p, e, hn, h⟩ k => ⟨p, e, hn, h.all k id⟩⟩
theorem y_alloc_cel {P : Program} {t : TypeId} {v : Value} (ho : o.op = .alloc t) (hi : (P.info? t).map (fun i => (i.zero, i.size)) = some (some v, 1)) (hv : oneC v = true) (h : R (.pointer (some ⟨w.heap.size, 0, none⟩)) (w.alloc (.cells #[v] t))) : Yields P ρ o w R :=
  y_of (v := .pointer (some ⟨w.heap.size, 0, none⟩)) (w' := w.alloc (.cells #[v] t)) (by simp [execOp, ho, (zero_of_info hi).1, go_sem]; cases v <;> first | rfl | (simp [oneC] at hv; done)) h
end
end Go.Proofs.YtdcbabgcbkdlhaaDoor
set_option maxRecDepth 100000
namespace Go.Proofs.YtdcbabgcbkdlhaaDoor
open Go.RowKit

theorem arrT_edge : ArrT 125 4 := ArrT.of Tryd.underlying125 (by kernel_rfl)
theorem stcT_fn4 : StcT Tryd.prog 122 4 := ⟨_, Tryd.underlying122, rfl, by kernel_rfl⟩
theorem Arr.first {w : World} {p n : Nat} {t : TypeId} {b c : Nat → Int} (h : Arr w p t n b) : Arr w p t n (upto 0 b c) := by rw [upto_zero]; exact h
theorem Arr.next {w : World} {p n : Nat} {t : TypeId} {b c : Nat → Int} {k : Nat} {x : Int} (h : Arr w p t n (upd (upto k b c) k x)) (e : x = c k) : Arr w p t n (upto (k + 1) b c) := by rw [← upto_set, ← e]; exact h
theorem upd_twice (b : Nat → Int) (k : Nat) (x y : Int) : upd (upd b k x) k y = upd b k y := by funext i; unfold upd; split <;> rfl
theorem Arr.next2 {w : World} {p n : Nat} {t : TypeId} {b c : Nat → Int} {k : Nat} {x y : Int} (h : Arr w p t n (upd (upd (upto k b c) k x) k y)) (e : y = c k) : Arr w p t n (upto (k + 1) b c) := by rw [upd_twice] at h; exact h.next e
theorem Arr.last {w : World} {p n : Nat} {t : TypeId} {b c : Nat → Int} (h : Arr w p t n (upto n b c)) : Arr w p t n c := h.congr (fun i hi => by simp [upto, hi])

set_option maxHeartbeats 4000000 in
set_option maxRecDepth 100000 in
theorem is_place (n : Int) (w0 : World) :
  Calls Tryd.prog 101 #[.int .i64 (n)] w0 fun e w' => e = .returned (.bool (decide (0 ≤ n ∧ n ≤ 64))) ∧ Kept (fun _ => False) w0 w' := by
 refine calls_wq (args := [.int .i64 (n)]) 9 Tryd.func101 rfl rfl (Nat.le_of_ble_eq_true rfl) ?_
 have K0 := Kept.refl (fun _ => False) w0
 refine wq_seq ?_
 refine wq_region ?_
 refine wl_v (.bool false) rfl rfl (y_asg rfl rfl ⟨rfl, rfl⟩) ?_
 refine wl_nil fun F1 hF2 => ?_
 have s3 : F1 0 = .int .i64 (n) := (hF2 0).trans rfl
 have s4 : F1 9 = undef := (hF2 9).trans rfl
 clear hF2
 refine then_normal ?_
 refine wq_seq ?_
 by_cases d5 : (0) ≤ (n)
 ·skip
  refine wq_region ?_
  refine wl_v (.int .i64 (n)) rfl rfl (y_mov rfl s3 ⟨rfl, rfl⟩) ?_
  refine wl_v (.bool true) rfl rfl (y_geq rfl rfl rfl (decide_eq_true d5) ⟨rfl, rfl⟩) ?_
  refine wl_v (.bool true) rfl rfl (y_mov rfl rfl ⟨rfl, rfl⟩) ?_
  refine wl_vw (.int .i64 (n)) 2 true 5 rfl rfl rfl rfl rfl (y_mov rfl s3 ⟨rfl, rfl⟩) ?_
  refine wl_vw (.bool (decide ((n) ≤ (64)))) 2 true 5 rfl rfl rfl rfl rfl (y_leq rfl rfl rfl rfl ⟨rfl, rfl⟩) ?_
  refine wl_v (.bool (decide ((n) ≤ (64)))) rfl rfl (y_pickT rfl rfl rfl ⟨rfl, rfl⟩) ?_
  refine wl_v (.bool (decide ((n) ≤ (64)))) rfl rfl (y_asg rfl rfl ⟨rfl, rfl⟩) ?_
  refine wl_nil fun F6 hF7 => ?_
  have s8 := (hF7 9).trans s4
  have s9 : F6 2 = .bool (decide ((n) ≤ (64))) := (hF7 2).trans rfl
  clear hF7
  refine then_normal ?_
  refine wq_ret ?_
  exact end_tmp (v := .bool (decide ((n) ≤ (64)))) s8 rfl rfl s9 ⟨(retB (by first | exact (decide_eq_true (by omega)).symm | exact (decide_eq_false (by omega)).symm | exact decide_eq_decide.2 (by omega))), K0⟩
 ·skip
  refine wq_region ?_
  refine wl_v (.int .i64 (n)) rfl rfl (y_mov rfl s3 ⟨rfl, rfl⟩) ?_
  refine wl_v (.bool false) rfl rfl (y_geq rfl rfl rfl (decide_eq_false d5) ⟨rfl, rfl⟩) ?_
  refine wl_v (.bool false) rfl rfl (y_mov rfl rfl ⟨rfl, rfl⟩) ?_
  refine wl_unless 2 true 5 rfl rfl rfl (Or.inl rfl) rfl ?_
  refine wl_unless 2 true 5 rfl rfl rfl (Or.inl rfl) rfl ?_
  refine wl_v (.bool false) rfl rfl (y_pickF rfl rfl rfl ⟨rfl, rfl⟩) ?_
  refine wl_v (.bool false) rfl rfl (y_asg rfl rfl ⟨rfl, rfl⟩) ?_
  refine wl_nil fun F10 hF11 => ?_
  have s12 := (hF11 9).trans s4
  have s13 : F10 2 = .bool false := (hF11 2).trans rfl
  clear hF11
  refine then_normal ?_
  refine wq_ret ?_
  exact end_tmp (v := .bool false) s12 rfl rfl s13 ⟨(retB (by first | exact (decide_eq_true (by omega)).symm | exact (decide_eq_false (by omega)).symm | exact decide_eq_decide.2 (by omega))), K0⟩

set_option maxHeartbeats 4000000 in
set_option maxRecDepth 100000 in
theorem is_above1 (p x y : Int) (k : Nat) (f : FD) (f0 f1 f2 : Value) (b1 : Nat) (b2 : Nat) (b3 : Nat) (b4 : Nat) (T_f0 : Nat → Prop) (T_f1 : Nat → Prop) (T_f2 : Nat → Prop) (w0 : World) (hx : 0 ≤ x ∧ x ≤ 64) (hy : 0 ≤ y ∧ y ≤ 64) (hk : k < 4) (h_f0 : Byt w0 T_f0 f0 ((f).p0)) (h_f1 : Byt w0 T_f1 f1 ((f).p1)) (h_f2 : Byt w0 T_f2 f2 ((f).p2)) (h_b1 : Stc w0 b1 68 [.int .i64 ((f).W), .int .i64 ((f).H), f0, f1, f2]) (h_b2 : Cel w0 b2 3 (.int .i64 (p))) (h_b3 : Cel w0 b3 3 (.int .i64 (x))) (h_b4 : Cel w0 b4 3 (.int .i64 (y))) :
  Calls Tryd.prog 121 #[.int .i64 (((k : Nat) : Int)), .pointer (some ⟨b1, 0, none⟩), .pointer (some ⟨b2, 0, none⟩), .pointer (some ⟨b3, 0, none⟩), .pointer (some ⟨b4, 0, none⟩)] w0 fun e w' => e = .returned (.int .i64 (atF f p (x + (k : Int)) (y - 1))) ∧ Kept (fun _ => False) w0 w' := by
 refine calls_wq (args := [.int .i64 (((k : Nat) : Int)), .pointer (some ⟨b1, 0, none⟩), .pointer (some ⟨b2, 0, none⟩), .pointer (some ⟨b3, 0, none⟩), .pointer (some ⟨b4, 0, none⟩)]) 15 Tryd.func121 rfl rfl (Nat.le_of_ble_eq_true rfl) ?_
 have K0 := Kept.refl (fun _ => False) w0
 have g_f0 := Grew.refl w0 T_f0
 have g_f1 := Grew.refl w0 T_f1
 have g_f2 := Grew.refl w0 T_f2
 refine wq_seq ?_
 refine wq_region ?_
 refine wl_v (.int .i64 (0)) rfl rfl (y_asg rfl rfl ⟨rfl, rfl⟩) ?_
 refine wl_nil fun F1 hF2 => ?_
 have s3 : F1 0 = .int .i64 (((k : Nat) : Int)) := (hF2 0).trans rfl
 have s4 : F1 1 = .pointer (some ⟨b1, 0, none⟩) := (hF2 1).trans rfl
 have s5 : F1 2 = .pointer (some ⟨b2, 0, none⟩) := (hF2 2).trans rfl
 have s6 : F1 3 = .pointer (some ⟨b3, 0, none⟩) := (hF2 3).trans rfl
 have s7 : F1 4 = .pointer (some ⟨b4, 0, none⟩) := (hF2 4).trans rfl
 have s8 : F1 15 = undef := (hF2 15).trans rfl
 clear hF2
 refine then_normal ?_
 refine wq_seq ?_
 refine wq_region ?_
 refine wl_v (.agg #[.int .i64 ((f).W), .int .i64 ((f).H), f0, f1, f2]) rfl rfl (y_load_stc stcT_frame rfl s4 h_b1 ⟨rfl, rfl⟩) ?_
 refine wl_v (.int .i64 (p)) rfl rfl (y_load_cel rfl s5 Tryd.underlying3 h_b2 rfl ⟨rfl, rfl⟩) ?_
 refine wl_v (.int .i64 (x)) rfl rfl (y_load_cel rfl s6 Tryd.underlying3 h_b3 rfl ⟨rfl, rfl⟩) ?_
 refine wl_v (.int .i64 (((k : Nat) : Int))) rfl rfl (y_mov rfl s3 ⟨rfl, rfl⟩) ?_
 refine wl_v (.int .i64 ((x) + (((k : Nat) : Int)))) rfl rfl (y_add rfl rfl rfl (i64_i rfl (by omega)) ⟨rfl, rfl⟩) ?_
 refine wl_v (.int .i64 (y)) rfl rfl (y_load_cel rfl s7 Tryd.underlying3 h_b4 rfl ⟨rfl, rfl⟩) ?_
 refine wl_v (.int .i64 ((y) - (1))) rfl rfl (y_sub rfl rfl rfl (i64_i rfl (by omega)) ⟨rfl, rfl⟩) ?_
 refine wl_call (R := fun v_ w_ => v_ = .int .i64 (atF (f) (p) ((x) + (((k : Nat) : Int))) ((y) - (1))) ∧ Kept (fun _ => False) w0 w_) rfl rfl (y_cs rfl rfl rfl (fun _ _ => by kernel_rfl) (ev_func _) (vsC rfl (vsC rfl (vsC rfl (vsC rfl vsN)))) (pl_at (p) ((x) + (((k : Nat) : Int))) ((y) - (1)) (f) (f0) (f1) (f2) (T_f0) (T_f1) (T_f2) _  h_f0 h_f1 h_f2 ) (fun e_ w_ h_ => ⟨_, h_.1, rfl, h_.2⟩)) ?_
 rintro _ w9 ⟨rfl, k10⟩
 have K18 := K0.trans k10 (fun _ _ x => x.elim)
 refine wl_v (.int .i64 (atF (f) (p) ((x) + (((k : Nat) : Int))) ((y) - (1)))) rfl rfl (y_asg rfl rfl ⟨rfl, rfl⟩) ?_
 refine wl_nil fun F19 hF20 => ?_
 have s21 := (hF20 15).trans s8
 have s22 : F19 6 = .int .i64 (atF (f) (p) ((x) + (((k : Nat) : Int))) ((y) - (1))) := (hF20 6).trans rfl
 clear hF20
 refine then_normal ?_
 refine wq_ret ?_
 exact end_tmp (v := .int .i64 (atF (f) (p) ((x) + (((k : Nat) : Int))) ((y) - (1)))) s21 rfl rfl s22 ⟨rfl, K18⟩

set_option maxHeartbeats 4000000 in
set_option maxRecDepth 100000 in
theorem is_left1 (p x y : Int) (k : Nat) (f : FD) (f0 f1 f2 : Value) (b1 : Nat) (b2 : Nat) (b3 : Nat) (b4 : Nat) (T_f0 : Nat → Prop) (T_f1 : Nat → Prop) (T_f2 : Nat → Prop) (w0 : World) (hx : 0 ≤ x ∧ x ≤ 64) (hy : 0 ≤ y ∧ y ≤ 64) (hk : k < 4) (h_f0 : Byt w0 T_f0 f0 ((f).p0)) (h_f1 : Byt w0 T_f1 f1 ((f).p1)) (h_f2 : Byt w0 T_f2 f2 ((f).p2)) (h_b1 : Stc w0 b1 68 [.int .i64 ((f).W), .int .i64 ((f).H), f0, f1, f2]) (h_b2 : Cel w0 b2 3 (.int .i64 (p))) (h_b3 : Cel w0 b3 3 (.int .i64 (x))) (h_b4 : Cel w0 b4 3 (.int .i64 (y))) :
  Calls Tryd.prog 122 #[.int .i64 (((k : Nat) : Int)), .pointer (some ⟨b1, 0, none⟩), .pointer (some ⟨b2, 0, none⟩), .pointer (some ⟨b3, 0, none⟩), .pointer (some ⟨b4, 0, none⟩)] w0 fun e w' => e = .returned (.int .i64 (atF f p (x - 1) (y + (k : Int)))) ∧ Kept (fun _ => False) w0 w' := by
 refine calls_wq (args := [.int .i64 (((k : Nat) : Int)), .pointer (some ⟨b1, 0, none⟩), .pointer (some ⟨b2, 0, none⟩), .pointer (some ⟨b3, 0, none⟩), .pointer (some ⟨b4, 0, none⟩)]) 15 Tryd.func122 rfl rfl (Nat.le_of_ble_eq_true rfl) ?_
 have K0 := Kept.refl (fun _ => False) w0
 have g_f0 := Grew.refl w0 T_f0
 have g_f1 := Grew.refl w0 T_f1
 have g_f2 := Grew.refl w0 T_f2
 refine wq_seq ?_
 refine wq_region ?_
 refine wl_v (.int .i64 (0)) rfl rfl (y_asg rfl rfl ⟨rfl, rfl⟩) ?_
 refine wl_nil fun F1 hF2 => ?_
 have s3 : F1 0 = .int .i64 (((k : Nat) : Int)) := (hF2 0).trans rfl
 have s4 : F1 1 = .pointer (some ⟨b1, 0, none⟩) := (hF2 1).trans rfl
 have s5 : F1 2 = .pointer (some ⟨b2, 0, none⟩) := (hF2 2).trans rfl
 have s6 : F1 3 = .pointer (some ⟨b3, 0, none⟩) := (hF2 3).trans rfl
 have s7 : F1 4 = .pointer (some ⟨b4, 0, none⟩) := (hF2 4).trans rfl
 have s8 : F1 15 = undef := (hF2 15).trans rfl
 clear hF2
 refine then_normal ?_
 refine wq_seq ?_
 refine wq_region ?_
 refine wl_v (.agg #[.int .i64 ((f).W), .int .i64 ((f).H), f0, f1, f2]) rfl rfl (y_load_stc stcT_frame rfl s4 h_b1 ⟨rfl, rfl⟩) ?_
 refine wl_v (.int .i64 (p)) rfl rfl (y_load_cel rfl s5 Tryd.underlying3 h_b2 rfl ⟨rfl, rfl⟩) ?_
 refine wl_v (.int .i64 (x)) rfl rfl (y_load_cel rfl s6 Tryd.underlying3 h_b3 rfl ⟨rfl, rfl⟩) ?_
 refine wl_v (.int .i64 ((x) - (1))) rfl rfl (y_sub rfl rfl rfl (i64_i rfl (by omega)) ⟨rfl, rfl⟩) ?_
 refine wl_v (.int .i64 (y)) rfl rfl (y_load_cel rfl s7 Tryd.underlying3 h_b4 rfl ⟨rfl, rfl⟩) ?_
 refine wl_v (.int .i64 (((k : Nat) : Int))) rfl rfl (y_mov rfl s3 ⟨rfl, rfl⟩) ?_
 refine wl_v (.int .i64 ((y) + (((k : Nat) : Int)))) rfl rfl (y_add rfl rfl rfl (i64_i rfl (by omega)) ⟨rfl, rfl⟩) ?_
 refine wl_call (R := fun v_ w_ => v_ = .int .i64 (atF (f) (p) ((x) - (1)) ((y) + (((k : Nat) : Int)))) ∧ Kept (fun _ => False) w0 w_) rfl rfl (y_cs rfl rfl rfl (fun _ _ => by kernel_rfl) (ev_func _) (vsC rfl (vsC rfl (vsC rfl (vsC rfl vsN)))) (pl_at (p) ((x) - (1)) ((y) + (((k : Nat) : Int))) (f) (f0) (f1) (f2) (T_f0) (T_f1) (T_f2) _  h_f0 h_f1 h_f2 ) (fun e_ w_ h_ => ⟨_, h_.1, rfl, h_.2⟩)) ?_
 rintro _ w9 ⟨rfl, k10⟩
 have K18 := K0.trans k10 (fun _ _ x => x.elim)
 refine wl_v (.int .i64 (atF (f) (p) ((x) - (1)) ((y) + (((k : Nat) : Int))))) rfl rfl (y_asg rfl rfl ⟨rfl, rfl⟩) ?_
 refine wl_nil fun F19 hF20 => ?_
 have s21 := (hF20 15).trans s8
 have s22 : F19 6 = .int .i64 (atF (f) (p) ((x) - (1)) ((y) + (((k : Nat) : Int)))) := (hF20 6).trans rfl
 clear hF20
 refine then_normal ?_
 refine wq_ret ?_
 exact end_tmp (v := .int .i64 (atF (f) (p) ((x) - (1)) ((y) + (((k : Nat) : Int))))) s21 rfl rfl s22 ⟨rfl, K18⟩

/-- An edge, where something is ahead. -/
def edgeOf (ahead : Int) (g : Nat → Int) : Nat → Int := fun i => if ahead > 0 then g i else 128
theorem edge_yes {a : Int} {g : Nat → Int} {k : Nat} (h : a > 0) : g k = edgeOf a g k := (if_pos h).symm
theorem edge_no {a : Int} {g : Nat → Int} {k : Nat} (h : ¬ a > 0) : 128 = edgeOf a g k := (if_neg h).symm
set_option maxHeartbeats 4000000 in
set_option maxRecDepth 100000 in
theorem is_along (ahead : Int) (fv : Value) (g : Nat → Int) (w0 : World) (hg : Ask1 w0 4 fv g) :
  Calls Tryd.prog 120 #[.int .i64 (ahead), fv] w0 fun e w' => e = .returned (.agg (arrL 4 (edgeOf ahead g)).toArray) ∧ Kept (fun _ => False) w0 w' := by
 refine calls_wq (args := [.int .i64 (ahead), fv]) 21 Tryd.func120 rfl rfl (Nat.le_of_ble_eq_true rfl) ?_
 have K0 := Kept.refl (fun _ => False) w0
 refine wq_seq ?_
 refine wq_region ?_
 refine wl_alloc_arr rfl rfl rfl arrT_edge.2.2 fun p1 w2 e5 B3 k4 => ?_
 have g6 := onB_new (Nat.le_of_eq e5.symm)
 have gr7 : Grew w0 noB (onB p1) := Grew.new K0 g6
 clear e5 g6
 have K8 := K0.trans k4 (fun _ _ x => x.elim)
 refine wl_nil fun F9 hF10 => ?_
 have s11 : F9 0 = .int .i64 (ahead) := (hF10 0).trans rfl
 have s12 : F9 1 = fv := (hF10 1).trans rfl
 have s13 : F9 21 = undef := (hF10 21).trans rfl
 have s14 : F9 4 = .pointer (some ⟨p1, 0, none⟩) := (hF10 4).trans rfl
 clear hF10
 refine then_normal ?_
 refine wq_seq ?_
 refine wq_region ?_
 refine wl_alloc_arr rfl rfl rfl arrT_edge.2.2 fun p15 w16 e19 B17 k18 => ?_
 have g20 := onB_new (Nat.le_of_eq e19.symm)
 have gr21 : Grew w0 noB (onB p15) := Grew.new K8 g20
 have ap22 : Apart (onB p15) (onB p1) := Apart.new g20 (onB_live (B3).lt)
 clear e19 g20
 have B23 := B3.all k18 id
 have K24 := K8.trans k18 (fun _ _ x => x.elim)
 refine wl_nil fun F25 hF26 => ?_
 have s27 := (hF26 0).trans s11
 have s28 := (hF26 1).trans s12
 have s29 := (hF26 21).trans s13
 have s30 := (hF26 4).trans s14
 have s31 : F25 5 = .pointer (some ⟨p15, 0, none⟩) := (hF26 5).trans rfl
 clear hF26
 refine then_normal ?_
 refine wq_seq ?_
 refine wq_seq ?_
 refine wq_region ?_
 refine wl_v (.int .i64 (0)) rfl rfl (y_mov rfl rfl ⟨rfl, rfl⟩) ?_
 refine wl_nil fun F32 hF33 => ?_
 have s34 := (hF33 0).trans s27
 have s35 := (hF33 1).trans s28
 have s36 := (hF33 21).trans s29
 have s37 := (hF33 4).trans s30
 have s38 := (hF33 5).trans s31
 have s39 : F32 7 = .int .i64 (0) := (hF33 7).trans rfl
 clear hF33
 refine then_normal ?_
 refine wq_block ?_
 refine wq_loop (fun nn FF ww => ∃ (k : Nat), (k ≤ 4) ∧ nn = 4 - k ∧ FF 0 = .int .i64 (ahead) ∧ FF 1 = fv ∧ FF 4 = .pointer (some ⟨p1, 0, none⟩) ∧ FF 5 = .pointer (some ⟨p15, 0, none⟩) ∧ FF 21 = undef ∧ FF 7 = .int .i64 (((k : Nat) : Int)) ∧ Kept (fun _ => False) w0 ww ∧ Arr ww p1 125 4 (fun _ => 0) ∧ Arr ww p15 125 4 (upto k (fun _ => 0) (edgeOf ahead g))) (4 - (0)) ⟨0, by omega, rfl, s34, s35, s37, s38, s36, s39, K24, B23, B17.first⟩ ?_
 rintro n43 F40 w41 ⟨k, i44, hn43, s45, s46, s47, s48, s49, s50, K42, B51, B52⟩
 refine wq_seq ?_
 refine wq_region ?_
 refine wl_v (.bool (decide ((((k : Nat) : Int)) < (4)))) rfl rfl (y_lss rfl s50 rfl rfl ⟨rfl, rfl⟩) ?_
 refine wl_nil fun F53 hF54 => ?_
 have s55 := (hF54 0).trans s45
 have s56 := (hF54 1).trans s46
 have s57 := (hF54 4).trans s47
 have s58 := (hF54 5).trans s48
 have s59 := (hF54 21).trans s49
 have s60 := (hF54 7).trans s50
 have s61 : F53 8 = .bool (decide ((((k : Nat) : Int)) < (4))) := (hF54 8).trans rfl
 clear hF54
 refine then_normal ?_
 refine wq_seq ?_
 refine wq_cond s61 (fun c62 => ?_) (fun c62 => ?_)
 ·replace c62 := of_decide_eq_true c62
  refine wq_skip ?_
  refine then_normal ?_
  refine wq_seq ?_
  refine wq_block ?_
  refine wq_seq ?_
  refine wq_region ?_
  refine wl_v (.int .i64 (((k : Nat) : Int))) rfl rfl (y_mov rfl s60 ⟨rfl, rfl⟩) ?_
  refine wl_v (.int .i64 (((k : Nat) : Int))) rfl rfl (y_asg rfl rfl ⟨rfl, rfl⟩) ?_
  refine wl_nil fun F63 hF64 => ?_
  have s65 := (hF64 0).trans s55
  have s66 := (hF64 1).trans s56
  have s67 := (hF64 4).trans s57
  have s68 := (hF64 5).trans s58
  have s69 := (hF64 21).trans s59
  have s70 := (hF64 7).trans s60
  have s71 : F63 6 = .int .i64 (((k : Nat) : Int)) := (hF64 6).trans rfl
  clear hF64
  refine then_normal ?_
  refine wq_seq ?_
  refine wq_region ?_
  refine wl_v (.int .i64 (((k : Nat) : Int))) rfl rfl (y_mov rfl s71 ⟨rfl, rfl⟩) ?_
  refine wl_v (.pointer (some ⟨p15, k, none⟩)) rfl rfl (y_atR (k) (s := 1) rfl s68 rfl (by omega) Tryd.underlying125 (by omega) (by kernel_rfl) (by omega) ⟨rfl, rfl⟩) ?_
  refine wl_set_arr rfl rfl rfl rfl rfl B52 (by omega) (by kernel_rfl) fun w72 B73 k74 => ?_
  have B75 := B51.all k74 (fun x => (((ap22).symm) p1 rfl x))
  have K76 := K42.trans k74 (Grew.ok (S := fun _ => False) gr21 noB_le)
  refine wl_nil fun F77 hF78 => ?_
  have s79 := (hF78 0).trans s65
  have s80 := (hF78 1).trans s66
  have s81 := (hF78 4).trans s67
  have s82 := (hF78 5).trans s68
  have s83 := (hF78 21).trans s69
  have s84 := (hF78 7).trans s70
  have s85 := (hF78 6).trans s71
  clear hF78
  refine then_normal ?_
  refine wq_seq ?_
  refine wq_region ?_
  refine wl_v (.int .i64 (ahead)) rfl rfl (y_mov rfl s79 ⟨rfl, rfl⟩) ?_
  refine wl_v (.bool (decide ((0) < (ahead)))) rfl rfl (y_gtr rfl rfl rfl rfl ⟨rfl, rfl⟩) ?_
  refine wl_nil fun F86 hF87 => ?_
  have s88 := (hF87 0).trans s79
  have s89 := (hF87 1).trans s80
  have s90 := (hF87 4).trans s81
  have s91 := (hF87 5).trans s82
  have s92 := (hF87 21).trans s83
  have s93 := (hF87 7).trans s84
  have s94 := (hF87 6).trans s85
  have s95 : F86 13 = .bool (decide ((0) < (ahead))) := (hF87 13).trans rfl
  clear hF87
  refine then_normal ?_
  refine wq_cond s95 (fun c96 => ?_) (fun c96 => ?_)
  ·replace c96 := of_decide_eq_true c96
   refine wq_region ?_
   refine wl_v (.int .i64 (((k : Nat) : Int))) rfl rfl (y_mov rfl s94 ⟨rfl, rfl⟩) ?_
   refine wl_v (fv) rfl rfl (y_mov rfl s89 ⟨rfl, rfl⟩) ?_
   refine wl_v (.int .i64 (((k : Nat) : Int))) rfl rfl (y_mov rfl s94 ⟨rfl, rfl⟩) ?_
   refine wl_call (R := fun v_ w_ => v_ = .int .i64 (g (k)) ∧ Kept (fun _ => False) w72 w_) rfl rfl (y_ask1 rfl rfl rfl rfl rfl (hg.all K76) (by omega) (fun e_ w_ h_ => ⟨_, h_.1, rfl, h_.2⟩)) ?_
   rintro _ w97 ⟨rfl, k98⟩
   have B99 := B75.all k98 id
   have B100 := B73.all k98 id
   have K101 := K76.trans k98 (fun _ _ x => x.elim)
   refine wl_v (.pointer (some ⟨p15, k, none⟩)) rfl rfl (y_atR (k) (s := 1) rfl s91 rfl (by omega) Tryd.underlying125 (by omega) (by kernel_rfl) (by omega) ⟨rfl, rfl⟩) ?_
   refine wl_set_arr rfl rfl rfl rfl rfl B100 (by omega) (by kernel_rfl) fun w102 B103 k104 => ?_
   have B105 := B99.all k104 (fun x => (((ap22).symm) p1 rfl x))
   have K106 := K101.trans k104 (Grew.ok (S := fun _ => False) gr21 noB_le)
   refine wl_nil fun F107 hF108 => ?_
   have s109 := (hF108 0).trans s88
   have s110 := (hF108 1).trans s89
   have s111 := (hF108 4).trans s90
   have s112 := (hF108 5).trans s91
   have s113 := (hF108 21).trans s92
   have s114 := (hF108 7).trans s93
   clear hF108
   refine in_normal ?_
   refine then_normal ?_
   refine wq_region ?_
   refine wl_v (.int .i64 (((k + 1 : Nat) : Int))) rfl rfl (y_add rfl s114 rfl (i64_n (by omega) (by omega)) ⟨rfl, rfl⟩) ?_
   refine wl_v (.int .i64 (((k + 1 : Nat) : Int))) rfl rfl (y_mov rfl rfl ⟨rfl, rfl⟩) ?_
   refine wl_nil fun F115 hF116 => ?_
   have s117 := (hF116 0).trans s109
   have s118 := (hF116 1).trans s110
   have s119 := (hF116 4).trans s111
   have s120 := (hF116 5).trans s112
   have s121 := (hF116 21).trans s113
   have s122 : F115 7 = .int .i64 (((k + 1 : Nat) : Int)) := (hF116 7).trans rfl
   clear hF116
   exact then_normal ⟨(4 - (k + 1)), by omega, k + 1, by omega, rfl, s117, s118, s119, s120, s121, s122, K106, B105, (by first | exact B103.next2 (edge_yes (by omega)) | exact B103.next (edge_no (by omega)))⟩
  ·replace c96 := of_decide_eq_false c96
   refine wq_skip ?_
   refine in_normal ?_
   refine then_normal ?_
   refine wq_region ?_
   refine wl_v (.int .i64 (((k + 1 : Nat) : Int))) rfl rfl (y_add rfl s93 rfl (i64_n (by omega) (by omega)) ⟨rfl, rfl⟩) ?_
   refine wl_v (.int .i64 (((k + 1 : Nat) : Int))) rfl rfl (y_mov rfl rfl ⟨rfl, rfl⟩) ?_
   refine wl_nil fun F123 hF124 => ?_
   have s125 := (hF124 0).trans s88
   have s126 := (hF124 1).trans s89
   have s127 := (hF124 4).trans s90
   have s128 := (hF124 5).trans s91
   have s129 := (hF124 21).trans s92
   have s130 : F123 7 = .int .i64 (((k + 1 : Nat) : Int)) := (hF124 7).trans rfl
   clear hF124
   exact then_normal ⟨(4 - (k + 1)), by omega, k + 1, by omega, rfl, s125, s126, s127, s128, s129, s130, K76, B75, (by first | exact B73.next2 (edge_yes (by omega)) | exact B73.next (edge_no (by omega)))⟩
 ·replace c62 := of_decide_eq_false c62
  refine wq_exit ?_
  refine then_exit ?_
  refine then_exit ?_
  have l131 : 4 = k := by omega
  subst l131
  have B132 : Arr w41 p15 125 4 (edgeOf ahead g) := (B52.last)
  refine in_here ?_
  refine then_normal ?_
  refine wq_seq ?_
  refine wq_region ?_
  refine wl_v (.agg (arrL 4 (edgeOf ahead g)).toArray) rfl rfl (y_load_arr arrT_edge rfl s58 B132 ⟨rfl, rfl⟩) ?_
  refine wl_store_arr arrT_edge rfl rfl rfl s57 rfl B51 fun w133 B134 k135 => ?_
  have K137 := K42.trans k135 (Grew.ok (S := fun _ => False) gr7 noB_le)
  refine wl_nil fun F138 hF139 => ?_
  have s140 := (hF139 4).trans s57
  have s141 := (hF139 21).trans s59
  clear hF139
  refine then_normal ?_
  refine wq_ret ?_
  exact end_arr arrT_edge s141 rfl rfl s140 B134 ⟨rfl, K137⟩

theorem above_ask {p x y : Int} {f : FD} {f0 f1 f2 : Value} {b1 b2 b3 b4 : Nat} {T0 T1 T2 : Nat → Prop} {w : World} (hx : 0 ≤ x ∧ x ≤ 64) (hy : 0 ≤ y ∧ y ≤ 64) (h0 : Byt w T0 f0 f.p0) (h1 : Byt w T1 f1 f.p1) (h2 : Byt w T2 f2 f.p2)
    (g1 : Stc w b1 68 [.int .i64 f.W, .int .i64 f.H, f0, f1, f2]) (g2 : Cel w b2 3 (.int .i64 p)) (g3 : Cel w b3 3 (.int .i64 x)) (g4 : Cel w b4 3 (.int .i64 y)) :
    Ask1 w 4 (.func (.func 121) #[] #[.pointer (some ⟨b1, 0, none⟩), .pointer (some ⟨b2, 0, none⟩), .pointer (some ⟨b3, 0, none⟩), .pointer (some ⟨b4, 0, none⟩)]) (fun k => atF f p (x + (k : Int)) (y - 1)) :=
  ⟨_, [.pointer (some ⟨b1, 0, none⟩), .pointer (some ⟨b2, 0, none⟩), .pointer (some ⟨b3, 0, none⟩), .pointer (some ⟨b4, 0, none⟩)], rfl, fun _ _ => by kernel_rfl, fun w' k i hi =>
    is_above1 p x y i f f0 f1 f2 b1 b2 b3 b4 T0 T1 T2 w' hx hy hi (h0.all k Apart.none) (h1.all k Apart.none) (h2.all k Apart.none) (g1.all k id) (g2.all k id) (g3.all k id) (g4.all k id)⟩
theorem left_ask {p x y : Int} {f : FD} {f0 f1 f2 : Value} {b1 b2 b3 b4 : Nat} {T0 T1 T2 : Nat → Prop} {w : World} (hx : 0 ≤ x ∧ x ≤ 64) (hy : 0 ≤ y ∧ y ≤ 64) (h0 : Byt w T0 f0 f.p0) (h1 : Byt w T1 f1 f.p1) (h2 : Byt w T2 f2 f.p2)
    (g1 : Stc w b1 68 [.int .i64 f.W, .int .i64 f.H, f0, f1, f2]) (g2 : Cel w b2 3 (.int .i64 p)) (g3 : Cel w b3 3 (.int .i64 x)) (g4 : Cel w b4 3 (.int .i64 y)) :
    Ask1 w 4 (.func (.func 122) #[] #[.pointer (some ⟨b1, 0, none⟩), .pointer (some ⟨b2, 0, none⟩), .pointer (some ⟨b3, 0, none⟩), .pointer (some ⟨b4, 0, none⟩)]) (fun k => atF f p (x - 1) (y + (k : Int))) :=
  ⟨_, [.pointer (some ⟨b1, 0, none⟩), .pointer (some ⟨b2, 0, none⟩), .pointer (some ⟨b3, 0, none⟩), .pointer (some ⟨b4, 0, none⟩)], rfl, fun _ _ => by kernel_rfl, fun w' k i hi =>
    is_left1 p x y i f f0 f1 f2 b1 b2 b3 b4 T0 T1 T2 w' hx hy hi (h0.all k Apart.none) (h1.all k Apart.none) (h2.all k Apart.none) (g1.all k id) (g2.all k id) (g3.all k id) (g4.all k id)⟩

theorem edge_above (f : FD) (p x y : Int) : edgeOf y (fun k => atF f p (x + (k : Int)) (y - 1)) = fun k => aboveF f p x y ((k : Nat) : Int) := by
  funext k; unfold edgeOf aboveF; by_cases h : y ≤ 0
  · rw [if_neg (by omega), if_pos h]
  · rw [if_pos (by omega), if_neg h]
theorem edge_left (f : FD) (p x y : Int) : edgeOf x (fun k => atF f p (x - 1) (y + (k : Int))) = fun k => leftF f p x y ((k : Nat) : Int) := by
  funext k; unfold edgeOf leftF; by_cases h : x ≤ 0
  · rw [if_neg (by omega), if_pos h]
  · rw [if_pos (by omega), if_neg h]
set_option maxHeartbeats 4000000 in
set_option maxRecDepth 100000 in
theorem is_above (p x y : Int) (f : FD) (f0 f1 f2 : Value) (T_f0 : Nat → Prop) (T_f1 : Nat → Prop) (T_f2 : Nat → Prop) (w0 : World) (hx : 0 ≤ x ∧ x ≤ 64) (hy : 0 ≤ y ∧ y ≤ 64) (h_f0 : Byt w0 T_f0 f0 ((f).p0)) (h_f1 : Byt w0 T_f1 f1 ((f).p1)) (h_f2 : Byt w0 T_f2 f2 ((f).p2)) :
  Calls Tryd.prog 104 #[.agg #[.int .i64 ((f).W), .int .i64 ((f).H), f0, f1, f2], .int .i64 (p), .int .i64 (x), .int .i64 (y)] w0 fun e w' => e = .returned (.agg (arrL 4 (fun k => aboveF f p x y ((k : Nat) : Int))).toArray) ∧ Kept (fun _ => False) w0 w' := by
 refine calls_wq (args := [.agg #[.int .i64 ((f).W), .int .i64 ((f).H), f0, f1, f2], .int .i64 (p), .int .i64 (x), .int .i64 (y)]) 12 Tryd.func104 rfl rfl (Nat.le_of_ble_eq_true rfl) ?_
 have K0 := Kept.refl (fun _ => False) w0
 have g_f0 := Grew.refl w0 T_f0
 have g_f1 := Grew.refl w0 T_f1
 have g_f2 := Grew.refl w0 T_f2
 refine wq_seq ?_
 refine wq_region ?_
 refine wl_box_stc (vs := [.int .i64 ((f).W), .int .i64 ((f).H), f0, f1, f2]) rfl rfl rfl rfl fun p1 w2 B4 g5 k3 => ?_
 have B10 := h_f0.all k3 Apart.none
 have B11 := h_f1.all k3 Apart.none
 have B12 := h_f2.all k3 Apart.none
 have K13 := K0.trans k3 (fun _ _ x => x.elim)
 refine wl_box_cel rfl rfl rfl rfl (by rfl) fun p14 w15 B18 g20 k16 => ?_
 have B26 := B10.all k16 Apart.none
 have B27 := B11.all k16 Apart.none
 have B28 := B12.all k16 Apart.none
 have B29 := B4.all k16 id
 have K30 := K13.trans k16 (fun _ _ x => x.elim)
 refine wl_box_cel rfl rfl rfl rfl (by rfl) fun p31 w32 B35 g37 k33 => ?_
 have B44 := B26.all k33 Apart.none
 have B45 := B27.all k33 Apart.none
 have B46 := B28.all k33 Apart.none
 have B47 := B29.all k33 id
 have B48 := B18.all k33 id
 have K49 := K30.trans k33 (fun _ _ x => x.elim)
 refine wl_box_cel rfl rfl rfl rfl (by rfl) fun p50 w51 B54 g56 k52 => ?_
 have B64 := B44.all k52 Apart.none
 have B65 := B45.all k52 Apart.none
 have B66 := B46.all k52 Apart.none
 have B67 := B47.all k52 id
 have B68 := B48.all k52 id
 have B69 := B35.all k52 id
 have K70 := K49.trans k52 (fun _ _ x => x.elim)
 refine wl_alloc_arr rfl rfl rfl arrT_edge.2.2 fun p71 w72 e75 B73 k74 => ?_
 have g76 := onB_new (Nat.le_of_eq e75.symm)
 have gr77 : Grew w0 noB (onB p71) := Grew.new K70 g76
 clear e75 g76
 have B85 := B64.all k74 Apart.none
 have B86 := B65.all k74 Apart.none
 have B87 := B66.all k74 Apart.none
 have B88 := B67.all k74 id
 have B89 := B68.all k74 id
 have B90 := B69.all k74 id
 have B91 := B54.all k74 id
 have K92 := K70.trans k74 (fun _ _ x => x.elim)
 refine wl_nil fun F93 hF94 => ?_
 have s95 : F93 12 = undef := (hF94 12).trans rfl
 have s96 : F93 4 = .pointer (some ⟨p1, 0, none⟩) := (hF94 4).trans rfl
 have s97 : F93 5 = .pointer (some ⟨p14, 0, none⟩) := (hF94 5).trans rfl
 have s98 : F93 6 = .pointer (some ⟨p31, 0, none⟩) := (hF94 6).trans rfl
 have s99 : F93 7 = .pointer (some ⟨p50, 0, none⟩) := (hF94 7).trans rfl
 have s100 : F93 8 = .pointer (some ⟨p71, 0, none⟩) := (hF94 8).trans rfl
 clear hF94
 refine then_normal ?_
 refine wq_seq ?_
 refine wq_region ?_
 refine wl_v (.int .i64 (y)) rfl rfl (y_load_cel rfl s99 Tryd.underlying3 B91 rfl ⟨rfl, rfl⟩) ?_
 refine wl_v (.func (.func 121) #[] #[.pointer (some ⟨p1, 0, none⟩), .pointer (some ⟨p14, 0, none⟩), .pointer (some ⟨p31, 0, none⟩), .pointer (some ⟨p50, 0, none⟩)]) rfl rfl (y_fnc rfl (vsC s96 (vsC s97 (vsC s98 (vsC s99 vsN)))) ⟨rfl, rfl⟩) ?_
 refine wl_call (R := fun v_ w_ => v_ = .agg (arrL 4 (fun k => aboveF f p x y ((k : Nat) : Int))).toArray ∧ Kept (fun _ => False) w72 w_) rfl rfl (y_cs rfl rfl rfl (fun _ _ => by kernel_rfl) (ev_func _) (vsC rfl (vsC rfl vsN)) (is_along (y) (.func (.func 121) #[] #[.pointer (some ⟨p1, 0, none⟩), .pointer (some ⟨p14, 0, none⟩), .pointer (some ⟨p31, 0, none⟩), .pointer (some ⟨p50, 0, none⟩)]) (fun k => atF f p (x + (k : Int)) (y - 1))  _ (above_ask hx hy B85 B86 B87 B88 B89 B90 B91)  ) (fun e_ w_ h_ => ⟨_, h_.1, congrArg (fun z => Value.agg (arrL 4 z).toArray) (edge_above f p x y), h_.2⟩)) ?_
 rintro _ w101 ⟨rfl, k102⟩
 have B110 := B73.all k102 id
 have K111 := K92.trans k102 (fun _ _ x => x.elim)
 refine wl_store_arr arrT_edge rfl rfl rfl s100 rfl B110 fun w112 B113 k114 => ?_
 have K122 := K111.trans k114 (Grew.ok (S := fun _ => False) gr77 noB_le)
 refine wl_nil fun F123 hF124 => ?_
 have s125 := (hF124 12).trans s95
 have s126 := (hF124 8).trans s100
 clear hF124
 refine then_normal ?_
 refine wq_ret ?_
 exact end_arr arrT_edge s125 rfl rfl s126 B113 ⟨rfl, K122⟩
set_option maxHeartbeats 4000000 in
set_option maxRecDepth 100000 in
theorem is_left (p x y : Int) (f : FD) (f0 f1 f2 : Value) (T_f0 : Nat → Prop) (T_f1 : Nat → Prop) (T_f2 : Nat → Prop) (w0 : World) (hx : 0 ≤ x ∧ x ≤ 64) (hy : 0 ≤ y ∧ y ≤ 64) (h_f0 : Byt w0 T_f0 f0 ((f).p0)) (h_f1 : Byt w0 T_f1 f1 ((f).p1)) (h_f2 : Byt w0 T_f2 f2 ((f).p2)) :
  Calls Tryd.prog 105 #[.agg #[.int .i64 ((f).W), .int .i64 ((f).H), f0, f1, f2], .int .i64 (p), .int .i64 (x), .int .i64 (y)] w0 fun e w' => e = .returned (.agg (arrL 4 (fun k => leftF f p x y ((k : Nat) : Int))).toArray) ∧ Kept (fun _ => False) w0 w' := by
 refine calls_wq (args := [.agg #[.int .i64 ((f).W), .int .i64 ((f).H), f0, f1, f2], .int .i64 (p), .int .i64 (x), .int .i64 (y)]) 12 Tryd.func105 rfl rfl (Nat.le_of_ble_eq_true rfl) ?_
 have K0 := Kept.refl (fun _ => False) w0
 have g_f0 := Grew.refl w0 T_f0
 have g_f1 := Grew.refl w0 T_f1
 have g_f2 := Grew.refl w0 T_f2
 refine wq_seq ?_
 refine wq_region ?_
 refine wl_box_stc (vs := [.int .i64 ((f).W), .int .i64 ((f).H), f0, f1, f2]) rfl rfl rfl rfl fun p1 w2 B4 g5 k3 => ?_
 have B10 := h_f0.all k3 Apart.none
 have B11 := h_f1.all k3 Apart.none
 have B12 := h_f2.all k3 Apart.none
 have K13 := K0.trans k3 (fun _ _ x => x.elim)
 refine wl_box_cel rfl rfl rfl rfl (by rfl) fun p14 w15 B18 g20 k16 => ?_
 have B26 := B10.all k16 Apart.none
 have B27 := B11.all k16 Apart.none
 have B28 := B12.all k16 Apart.none
 have B29 := B4.all k16 id
 have K30 := K13.trans k16 (fun _ _ x => x.elim)
 refine wl_box_cel rfl rfl rfl rfl (by rfl) fun p31 w32 B35 g37 k33 => ?_
 have B44 := B26.all k33 Apart.none
 have B45 := B27.all k33 Apart.none
 have B46 := B28.all k33 Apart.none
 have B47 := B29.all k33 id
 have B48 := B18.all k33 id
 have K49 := K30.trans k33 (fun _ _ x => x.elim)
 refine wl_box_cel rfl rfl rfl rfl (by rfl) fun p50 w51 B54 g56 k52 => ?_
 have B64 := B44.all k52 Apart.none
 have B65 := B45.all k52 Apart.none
 have B66 := B46.all k52 Apart.none
 have B67 := B47.all k52 id
 have B68 := B48.all k52 id
 have B69 := B35.all k52 id
 have K70 := K49.trans k52 (fun _ _ x => x.elim)
 refine wl_alloc_arr rfl rfl rfl arrT_edge.2.2 fun p71 w72 e75 B73 k74 => ?_
 have g76 := onB_new (Nat.le_of_eq e75.symm)
 have gr77 : Grew w0 noB (onB p71) := Grew.new K70 g76
 clear e75 g76
 have B85 := B64.all k74 Apart.none
 have B86 := B65.all k74 Apart.none
 have B87 := B66.all k74 Apart.none
 have B88 := B67.all k74 id
 have B89 := B68.all k74 id
 have B90 := B69.all k74 id
 have B91 := B54.all k74 id
 have K92 := K70.trans k74 (fun _ _ x => x.elim)
 refine wl_nil fun F93 hF94 => ?_
 have s95 : F93 12 = undef := (hF94 12).trans rfl
 have s96 : F93 4 = .pointer (some ⟨p1, 0, none⟩) := (hF94 4).trans rfl
 have s97 : F93 5 = .pointer (some ⟨p14, 0, none⟩) := (hF94 5).trans rfl
 have s98 : F93 6 = .pointer (some ⟨p31, 0, none⟩) := (hF94 6).trans rfl
 have s99 : F93 7 = .pointer (some ⟨p50, 0, none⟩) := (hF94 7).trans rfl
 have s100 : F93 8 = .pointer (some ⟨p71, 0, none⟩) := (hF94 8).trans rfl
 clear hF94
 refine then_normal ?_
 refine wq_seq ?_
 refine wq_region ?_
 refine wl_v (.int .i64 (x)) rfl rfl (y_load_cel rfl s98 Tryd.underlying3 B90 rfl ⟨rfl, rfl⟩) ?_
 refine wl_v (.func (.func 122) #[] #[.pointer (some ⟨p1, 0, none⟩), .pointer (some ⟨p14, 0, none⟩), .pointer (some ⟨p31, 0, none⟩), .pointer (some ⟨p50, 0, none⟩)]) rfl rfl (y_fnc rfl (vsC s96 (vsC s97 (vsC s98 (vsC s99 vsN)))) ⟨rfl, rfl⟩) ?_
 refine wl_call (R := fun v_ w_ => v_ = .agg (arrL 4 (fun k => leftF f p x y ((k : Nat) : Int))).toArray ∧ Kept (fun _ => False) w72 w_) rfl rfl (y_cs rfl rfl rfl (fun _ _ => by kernel_rfl) (ev_func _) (vsC rfl (vsC rfl vsN)) (is_along (x) (.func (.func 122) #[] #[.pointer (some ⟨p1, 0, none⟩), .pointer (some ⟨p14, 0, none⟩), .pointer (some ⟨p31, 0, none⟩), .pointer (some ⟨p50, 0, none⟩)]) (fun k => atF f p (x - 1) (y + (k : Int)))  _ (left_ask hx hy B85 B86 B87 B88 B89 B90 B91)  ) (fun e_ w_ h_ => ⟨_, h_.1, congrArg (fun z => Value.agg (arrL 4 z).toArray) (edge_left f p x y), h_.2⟩)) ?_
 rintro _ w101 ⟨rfl, k102⟩
 have B110 := B73.all k102 id
 have K111 := K92.trans k102 (fun _ _ x => x.elim)
 refine wl_store_arr arrT_edge rfl rfl rfl s100 rfl B110 fun w112 B113 k114 => ?_
 have K122 := K111.trans k114 (Grew.ok (S := fun _ => False) gr77 noB_le)
 refine wl_nil fun F123 hF124 => ?_
 have s125 := (hF124 12).trans s95
 have s126 := (hF124 8).trans s100
 clear hF124
 refine then_normal ?_
 refine wq_ret ?_
 exact end_arr arrT_edge s125 rfl rfl s126 B113 ⟨rfl, K122⟩

def totTo (e : Nat → Int) : Nat → Int
  | 0 => 0
  | k + 1 => totTo e k + e k
theorem totTo_le {e : Nat → Int} (h : ∀ i, 0 ≤ e i ∧ e i ≤ 255) (k : Nat) : 0 ≤ totTo e k ∧ totTo e k ≤ 255 * k := by
  induction k with
  | zero => simp [totTo]
  | succ k ih => have := h k; rw [totTo]; omega
set_option maxHeartbeats 4000000 in
set_option maxRecDepth 100000 in
theorem is_total (s : Nat → Int) (w0 : World) (he : ∀ i, 0 ≤ s i ∧ s i ≤ 255) :
  Calls Tryd.prog 115 #[.agg (arrL 4 (s)).toArray] w0 fun e w' => e = .returned (.int .i64 (totTo s 4)) ∧ Kept (fun _ => False) w0 w' := by
 refine calls_wq (args := [.agg (arrL 4 (s)).toArray]) 15 Tryd.func115 rfl rfl (Nat.le_of_ble_eq_true rfl) ?_
 have K0 := Kept.refl (fun _ => False) w0
 refine wq_seq ?_
 refine wq_region ?_
 refine wl_box_arr rfl rfl rfl rfl fun p1 w2 e5 B3 k4 => ?_
 have g6 := onB_new (Nat.le_of_eq e5.symm)
 clear e5 g6
 have K8 := K0.trans k4 (fun _ _ x => x.elim)
 refine wl_v (.int .i64 (0)) rfl rfl (y_asg rfl rfl ⟨rfl, rfl⟩) ?_
 refine wl_nil fun F9 hF10 => ?_
 have s11 : F9 15 = undef := (hF10 15).trans rfl
 have s12 : F9 1 = .pointer (some ⟨p1, 0, none⟩) := (hF10 1).trans rfl
 clear hF10
 refine then_normal ?_
 refine wq_seq ?_
 refine wq_region ?_
 refine wl_v (.int .i64 (0)) rfl rfl (y_asg rfl rfl ⟨rfl, rfl⟩) ?_
 refine wl_nil fun F13 hF14 => ?_
 have s15 := (hF14 15).trans s11
 have s16 := (hF14 1).trans s12
 have s17 : F13 3 = .int .i64 (0) := (hF14 3).trans rfl
 clear hF14
 refine then_normal ?_
 refine wq_seq ?_
 refine wq_seq ?_
 refine wq_region ?_
 refine wl_v (.agg (arrL 4 (s)).toArray) rfl rfl (y_load_arr arrT_edge rfl s16 B3 ⟨rfl, rfl⟩) ?_
 refine wl_v (.int .i64 (0)) rfl rfl (y_mov rfl rfl ⟨rfl, rfl⟩) ?_
 refine wl_nil fun F18 hF19 => ?_
 have s20 := (hF19 15).trans s15
 have s21 := (hF19 3).trans s17
 have s22 : F18 6 = .agg (arrL 4 (s)).toArray := (hF19 6).trans rfl
 have s23 : F18 7 = .int .i64 (0) := (hF19 7).trans rfl
 clear hF19
 refine then_normal ?_
 refine wq_block ?_
 refine wq_loop (fun nn FF ww => ∃ (k : Nat), (k ≤ 4) ∧ nn = 4 - k ∧ FF 6 = .agg (arrL 4 (s)).toArray ∧ FF 15 = undef ∧ FF 3 = .int .i64 (totTo s k) ∧ FF 7 = .int .i64 (((k : Nat) : Int)) ∧ Kept (fun _ => False) w0 ww ∧ Arr ww p1 125 4 (s)) (4 - (0)) ⟨0, by omega, rfl, s22, s20, s21, s23, K8, B3⟩ ?_
 rintro n27 F24 w25 ⟨k, i28, hn27, s29, s30, s31, s32, K26, B33⟩
 refine wq_seq ?_
 refine wq_region ?_
 refine wl_v (.bool (decide ((((k : Nat) : Int)) < (4)))) rfl rfl (y_lss rfl s32 rfl rfl ⟨rfl, rfl⟩) ?_
 refine wl_nil fun F34 hF35 => ?_
 have s36 := (hF35 6).trans s29
 have s37 := (hF35 15).trans s30
 have s38 := (hF35 3).trans s31
 have s39 := (hF35 7).trans s32
 have s40 : F34 8 = .bool (decide ((((k : Nat) : Int)) < (4))) := (hF35 8).trans rfl
 clear hF35
 refine then_normal ?_
 refine wq_seq ?_
 refine wq_cond s40 (fun c41 => ?_) (fun c41 => ?_)
 ·replace c41 := of_decide_eq_true c41
  refine wq_skip ?_
  refine then_normal ?_
  refine wq_seq ?_
  refine wq_block ?_
  refine wq_seq ?_
  refine wq_region ?_
  refine wl_v (.int .i64 ((s) (k))) rfl rfl (y_lookA (k) arrT_edge rfl s36 s39 (by omega) rfl ⟨rfl, rfl⟩) ?_
  refine wl_v (.int .i64 ((s) (k))) rfl rfl (y_asg rfl rfl ⟨rfl, rfl⟩) ?_
  refine wl_nil fun F42 hF43 => ?_
  have s44 := (hF43 6).trans s36
  have s45 := (hF43 15).trans s37
  have s46 := (hF43 3).trans s38
  have s47 := (hF43 7).trans s39
  have s48 : F42 5 = .int .i64 ((s) (k)) := (hF43 5).trans rfl
  clear hF43
  refine then_normal ?_
  have ht := totTo_le he k
  have hk := he k
  refine wq_region ?_
  refine wl_v (.int .i64 (totTo s k)) rfl rfl (y_mov rfl s46 ⟨rfl, rfl⟩) ?_
  refine wl_v (.int .i64 ((s) (k))) rfl rfl (y_mov rfl s48 ⟨rfl, rfl⟩) ?_
  refine wl_v (.int .i64 ((totTo s k) + ((s) (k)))) rfl rfl (y_add rfl rfl rfl (i64_i rfl (by omega)) ⟨rfl, rfl⟩) ?_
  refine wl_v (.int .i64 ((totTo s k) + ((s) (k)))) rfl rfl (y_asg rfl rfl ⟨rfl, rfl⟩) ?_
  refine wl_nil fun F49 hF50 => ?_
  have s51 := (hF50 6).trans s44
  have s52 := (hF50 15).trans s45
  have s53 := (hF50 7).trans s47
  have s54 : F49 3 = .int .i64 ((totTo s k) + ((s) (k))) := (hF50 3).trans rfl
  clear hF50
  refine in_normal ?_
  refine then_normal ?_
  refine wq_region ?_
  refine wl_v (.int .i64 (((k + 1 : Nat) : Int))) rfl rfl (y_add rfl s53 rfl (i64_n (by omega) (by omega)) ⟨rfl, rfl⟩) ?_
  refine wl_v (.int .i64 (((k + 1 : Nat) : Int))) rfl rfl (y_mov rfl rfl ⟨rfl, rfl⟩) ?_
  refine wl_nil fun F55 hF56 => ?_
  have s57 := (hF56 6).trans s51
  have s58 := (hF56 15).trans s52
  have s59 := (hF56 3).trans s54
  have s60 : F55 7 = .int .i64 (((k + 1 : Nat) : Int)) := (hF56 7).trans rfl
  clear hF56
  exact then_normal ⟨(4 - (k + 1)), by omega, k + 1, by omega, rfl, s57, s58, s59, s60, K26, B33⟩
 ·replace c41 := of_decide_eq_false c41
  refine wq_exit ?_
  refine then_exit ?_
  refine then_exit ?_
  have l61 : 4 = k := by omega
  subst l61
  refine in_here ?_
  refine then_normal ?_
  refine wq_seq ?_
  refine wq_region ?_
  refine wl_v (.int .i64 (totTo s 4)) rfl rfl (y_mov rfl s38 ⟨rfl, rfl⟩) ?_
  refine wl_v (.int .i64 (totTo s 4)) rfl rfl (y_asg rfl rfl ⟨rfl, rfl⟩) ?_
  refine wl_nil fun F62 hF63 => ?_
  have s64 := (hF63 15).trans s37
  have s65 : F62 2 = .int .i64 (totTo s 4) := (hF63 2).trans rfl
  clear hF63
  refine then_normal ?_
  refine wq_ret ?_
  exact end_tmp (v := .int .i64 (totTo s 4)) s64 rfl rfl s65 ⟨rfl, K26⟩

/-- What the four modes tell. -/
def predG (a l : Nat → Int) (m i k : Nat) : Int :=
  if m = 0 then Int.tdiv (totTo a 4 + totTo l 4 + 4) 8 else if m = 1 then a k else if m = 2 then l i else Int.tdiv (a k + l i + 1) 2
set_option maxHeartbeats 4000000 in
set_option maxRecDepth 100000 in
theorem is_p1 (i k : Nat) (n : Int) (b1 : Nat) (w0 : World) (h_b1 : Cel w0 b1 3 (.int .i64 (n))) :
  Calls Tryd.prog 116 #[.int .i64 (((i : Nat) : Int)), .int .i64 (((k : Nat) : Int)), .pointer (some ⟨b1, 0, none⟩)] w0 fun e w' => e = .returned (.int .i64 (n)) ∧ Kept (fun _ => False) w0 w' := by
 refine calls_wq (args := [.int .i64 (((i : Nat) : Int)), .int .i64 (((k : Nat) : Int)), .pointer (some ⟨b1, 0, none⟩)]) 7 Tryd.func116 rfl rfl (Nat.le_of_ble_eq_true rfl) ?_
 have K0 := Kept.refl (fun _ => False) w0
 refine wq_seq ?_
 refine wq_region ?_
 refine wl_v (.int .i64 (0)) rfl rfl (y_asg rfl rfl ⟨rfl, rfl⟩) ?_
 refine wl_nil fun F1 hF2 => ?_
 have s3 : F1 2 = .pointer (some ⟨b1, 0, none⟩) := (hF2 2).trans rfl
 have s4 : F1 7 = undef := (hF2 7).trans rfl
 clear hF2
 refine then_normal ?_
 refine wq_seq ?_
 refine wq_region ?_
 refine wl_v (.int .i64 (n)) rfl rfl (y_load_cel rfl s3 Tryd.underlying3 h_b1 rfl ⟨rfl, rfl⟩) ?_
 refine wl_v (.int .i64 (n)) rfl rfl (y_asg rfl rfl ⟨rfl, rfl⟩) ?_
 refine wl_nil fun F5 hF6 => ?_
 have s7 := (hF6 7).trans s4
 have s8 : F5 5 = .int .i64 (n) := (hF6 5).trans rfl
 clear hF6
 refine then_normal ?_
 refine wq_ret ?_
 exact end_tmp (v := .int .i64 (n)) s7 rfl rfl s8 ⟨rfl, K0⟩
set_option maxHeartbeats 4000000 in
set_option maxRecDepth 100000 in
theorem is_p2 (i k : Nat) (a : Nat → Int) (b1 : Nat) (w0 : World) (hk : k < 4) (h_b1 : Arr w0 b1 125 4 (a)) :
  Calls Tryd.prog 117 #[.int .i64 (((i : Nat) : Int)), .int .i64 (((k : Nat) : Int)), .pointer (some ⟨b1, 0, none⟩)] w0 fun e w' => e = .returned (.int .i64 (a k)) ∧ Kept (fun _ => False) w0 w' := by
 refine calls_wq (args := [.int .i64 (((i : Nat) : Int)), .int .i64 (((k : Nat) : Int)), .pointer (some ⟨b1, 0, none⟩)]) 9 Tryd.func117 rfl rfl (Nat.le_of_ble_eq_true rfl) ?_
 have K0 := Kept.refl (fun _ => False) w0
 refine wq_seq ?_
 refine wq_region ?_
 refine wl_v (.int .i64 (0)) rfl rfl (y_asg rfl rfl ⟨rfl, rfl⟩) ?_
 refine wl_nil fun F1 hF2 => ?_
 have s3 : F1 1 = .int .i64 (((k : Nat) : Int)) := (hF2 1).trans rfl
 have s4 : F1 2 = .pointer (some ⟨b1, 0, none⟩) := (hF2 2).trans rfl
 have s5 : F1 9 = undef := (hF2 9).trans rfl
 clear hF2
 refine then_normal ?_
 refine wq_seq ?_
 refine wq_region ?_
 refine wl_v (.int .i64 (((k : Nat) : Int))) rfl rfl (y_mov rfl s3 ⟨rfl, rfl⟩) ?_
 refine wl_v (.pointer (some ⟨b1, k, none⟩)) rfl rfl (y_atR (k) (s := 1) rfl s4 rfl (by omega) Tryd.underlying125 (by omega) (by kernel_rfl) (by omega) ⟨rfl, rfl⟩) ?_
 refine wl_v (.int .i64 ((a) (k))) rfl rfl (y_ldR rfl rfl Tryd.underlying3 ((h_b1).cell (by omega)) ⟨rfl, rfl⟩) ?_
 refine wl_v (.int .i64 ((a) (k))) rfl rfl (y_asg rfl rfl ⟨rfl, rfl⟩) ?_
 refine wl_nil fun F6 hF7 => ?_
 have s8 := (hF7 9).trans s5
 have s9 : F6 5 = .int .i64 ((a) (k)) := (hF7 5).trans rfl
 clear hF7
 refine then_normal ?_
 refine wq_ret ?_
 exact end_tmp (v := .int .i64 ((a) (k))) s8 rfl rfl s9 ⟨rfl, K0⟩
set_option maxHeartbeats 4000000 in
set_option maxRecDepth 100000 in
theorem is_p3 (i k : Nat) (l : Nat → Int) (b1 : Nat) (w0 : World) (hi : i < 4) (h_b1 : Arr w0 b1 125 4 (l)) :
  Calls Tryd.prog 118 #[.int .i64 (((i : Nat) : Int)), .int .i64 (((k : Nat) : Int)), .pointer (some ⟨b1, 0, none⟩)] w0 fun e w' => e = .returned (.int .i64 (l i)) ∧ Kept (fun _ => False) w0 w' := by
 refine calls_wq (args := [.int .i64 (((i : Nat) : Int)), .int .i64 (((k : Nat) : Int)), .pointer (some ⟨b1, 0, none⟩)]) 9 Tryd.func118 rfl rfl (Nat.le_of_ble_eq_true rfl) ?_
 have K0 := Kept.refl (fun _ => False) w0
 refine wq_seq ?_
 refine wq_region ?_
 refine wl_v (.int .i64 (0)) rfl rfl (y_asg rfl rfl ⟨rfl, rfl⟩) ?_
 refine wl_nil fun F1 hF2 => ?_
 have s3 : F1 0 = .int .i64 (((i : Nat) : Int)) := (hF2 0).trans rfl
 have s4 : F1 2 = .pointer (some ⟨b1, 0, none⟩) := (hF2 2).trans rfl
 have s5 : F1 9 = undef := (hF2 9).trans rfl
 clear hF2
 refine then_normal ?_
 refine wq_seq ?_
 refine wq_region ?_
 refine wl_v (.int .i64 (((i : Nat) : Int))) rfl rfl (y_mov rfl s3 ⟨rfl, rfl⟩) ?_
 refine wl_v (.pointer (some ⟨b1, i, none⟩)) rfl rfl (y_atR (i) (s := 1) rfl s4 rfl (by omega) Tryd.underlying125 (by omega) (by kernel_rfl) (by omega) ⟨rfl, rfl⟩) ?_
 refine wl_v (.int .i64 ((l) (i))) rfl rfl (y_ldR rfl rfl Tryd.underlying3 ((h_b1).cell (by omega)) ⟨rfl, rfl⟩) ?_
 refine wl_v (.int .i64 ((l) (i))) rfl rfl (y_asg rfl rfl ⟨rfl, rfl⟩) ?_
 refine wl_nil fun F6 hF7 => ?_
 have s8 := (hF7 9).trans s5
 have s9 : F6 5 = .int .i64 ((l) (i)) := (hF7 5).trans rfl
 clear hF7
 refine then_normal ?_
 refine wq_ret ?_
 exact end_tmp (v := .int .i64 ((l) (i))) s8 rfl rfl s9 ⟨rfl, K0⟩
set_option maxHeartbeats 4000000 in
set_option maxRecDepth 100000 in
theorem is_p4 (i k : Nat) (a l : Nat → Int) (b1 : Nat) (b2 : Nat) (w0 : World) (hi : i < 4) (hk : k < 4) (ha : ∀ i, 0 ≤ a i ∧ a i ≤ 255) (hl : ∀ i, 0 ≤ l i ∧ l i ≤ 255) (h_b1 : Arr w0 b1 125 4 (a)) (h_b2 : Arr w0 b2 125 4 (l)) :
  Calls Tryd.prog 119 #[.int .i64 (((i : Nat) : Int)), .int .i64 (((k : Nat) : Int)), .pointer (some ⟨b1, 0, none⟩), .pointer (some ⟨b2, 0, none⟩)] w0 fun e w' => e = .returned (.int .i64 (Int.tdiv (a k + l i + 1) 2)) ∧ Kept (fun _ => False) w0 w' := by
 refine calls_wq (args := [.int .i64 (((i : Nat) : Int)), .int .i64 (((k : Nat) : Int)), .pointer (some ⟨b1, 0, none⟩), .pointer (some ⟨b2, 0, none⟩)]) 16 Tryd.func119 rfl rfl (Nat.le_of_ble_eq_true rfl) ?_
 have K0 := Kept.refl (fun _ => False) w0
 refine wq_seq ?_
 refine wq_region ?_
 refine wl_v (.int .i64 (0)) rfl rfl (y_asg rfl rfl ⟨rfl, rfl⟩) ?_
 refine wl_nil fun F1 hF2 => ?_
 have s3 : F1 0 = .int .i64 (((i : Nat) : Int)) := (hF2 0).trans rfl
 have s4 : F1 1 = .int .i64 (((k : Nat) : Int)) := (hF2 1).trans rfl
 have s5 : F1 2 = .pointer (some ⟨b1, 0, none⟩) := (hF2 2).trans rfl
 have s6 : F1 3 = .pointer (some ⟨b2, 0, none⟩) := (hF2 3).trans rfl
 have s7 : F1 16 = undef := (hF2 16).trans rfl
 clear hF2
 refine then_normal ?_
 refine wq_seq ?_
 have h1 := ha k
 have h2 := hl i
 refine wq_said [some 7, some 8, some 9, some 10, some 11, some 12, some 13, some 14, some 15, some 6] [Pd.eq (.int .i64 (((k : Nat) : Int))), Pd.eq (.pointer (some ⟨b1, k, none⟩)), Pd.eq (.int .i64 ((a) (k))), Pd.eq (.int .i64 (((i : Nat) : Int))), Pd.eq (.pointer (some ⟨b2, i, none⟩)), Pd.eq (.int .i64 ((l) (i))), Pd.eq (.int .i64 (((a) (k)) + ((l) (i)))), Pd.eq (.int .i64 ((((a) (k)) + ((l) (i))) + (1))), Pd.eq (.int .i64 (Int.tdiv (a k + l i + 1) 2)), Pd.eq (.int .i64 (Int.tdiv (a k + l i + 1) 2))] (by kernel_rfl) (by kernel_rfl) ?_ ?_
 ·refine stepsF_cons ?_ ?_
  ·refine StepF.one rfl fun F_ w_ hR hout hD => ?_
   exact (y_mov rfl ((hout 1 rfl (by decide)).trans s4) ⟨rfl, Kept.refl _ _⟩)
  refine stepsF_cons ?_ ?_
  ·refine StepF.one rfl fun F_ w_ hR hout hD => ?_
   have g7 : F_ 7 = .int .i64 (((k : Nat) : Int)) := (hD.get 0 rfl rfl rfl)
   exact (y_atR (k) (s := 1) rfl ((hout 2 rfl (by decide)).trans s5) g7 (by omega) Tryd.underlying125 (by omega) (by kernel_rfl) (by omega) ⟨rfl, Kept.refl _ _⟩)
  refine stepsF_cons ?_ ?_
  ·refine StepF.one rfl fun F_ w_ hR hout hD => ?_
   have g8 : F_ 8 = .pointer (some ⟨b1, k, none⟩) := (hD.get 0 rfl rfl rfl)
   exact (y_ldR rfl g8 Tryd.underlying3 (((h_b1.all hR id)).cell (by omega)) ⟨rfl, Kept.refl _ _⟩)
  refine stepsF_cons ?_ ?_
  ·refine StepF.one rfl fun F_ w_ hR hout hD => ?_
   exact (y_mov rfl ((hout 0 rfl (by decide)).trans s3) ⟨rfl, Kept.refl _ _⟩)
  refine stepsF_cons ?_ ?_
  ·refine StepF.one rfl fun F_ w_ hR hout hD => ?_
   have g10 : F_ 10 = .int .i64 (((i : Nat) : Int)) := (hD.get 0 rfl rfl rfl)
   exact (y_atR (i) (s := 1) rfl ((hout 3 rfl (by decide)).trans s6) g10 (by omega) Tryd.underlying125 (by omega) (by kernel_rfl) (by omega) ⟨rfl, Kept.refl _ _⟩)
  refine stepsF_cons ?_ ?_
  ·refine StepF.one rfl fun F_ w_ hR hout hD => ?_
   have g11 : F_ 11 = .pointer (some ⟨b2, i, none⟩) := (hD.get 0 rfl rfl rfl)
   exact (y_ldR rfl g11 Tryd.underlying3 (((h_b2.all hR id)).cell (by omega)) ⟨rfl, Kept.refl _ _⟩)
  refine stepsF_cons ?_ ?_
  ·refine StepF.one rfl fun F_ w_ hR hout hD => ?_
   have g9 : F_ 9 = .int .i64 ((a) (k)) := (hD.get 0 rfl rfl rfl)
   have g12 : F_ 12 = .int .i64 ((l) (i)) := (hD.get 1 rfl rfl rfl)
   exact (y_add rfl g9 g12 (i64_i rfl (by omega)) ⟨rfl, Kept.refl _ _⟩)
  refine stepsF_cons ?_ ?_
  ·refine StepF.one rfl fun F_ w_ hR hout hD => ?_
   have g13 : F_ 13 = .int .i64 (((a) (k)) + ((l) (i))) := (hD.get 0 rfl rfl rfl)
   exact (y_add rfl g13 rfl (i64_i rfl (by omega)) ⟨rfl, Kept.refl _ _⟩)
  refine stepsF_cons ?_ ?_
  ·refine StepF.one rfl fun F_ w_ hR hout hD => ?_
   have g14 : F_ 14 = .int .i64 ((((a) (k)) + ((l) (i))) + (1)) := (hD.get 0 rfl rfl rfl)
   exact (y_quo rfl g14 rfl (by first | decide | omega) (i64_i rfl (by rw [tdiv2 (by omega)]; omega)) ⟨rfl, Kept.refl _ _⟩)
  refine stepsF_cons ?_ ?_
  ·refine StepF.one rfl fun F_ w_ hR hout hD => ?_
   have g15 : F_ 15 = .int .i64 (Int.tdiv (a k + l i + 1) 2) := (hD.get 0 rfl rfl rfl)
   exact (y_asg rfl g15 ⟨rfl, Kept.refl _ _⟩)
  exact stepsF_nil
 intro v8 F9 w10 k11 G12 hF13
 have K17 := K0.trans k11 (fun _ _ x => x.elim)
 have s18 := (hF13 16).trans s7
 have s19 : F9 6 = .int .i64 (Int.tdiv (a k + l i + 1) 2) := (hF13 6).trans (G12 9 (by decide))
 clear G12 hF13
 refine then_normal ?_
 refine wq_ret ?_
 exact end_tmp (v := .int .i64 (Int.tdiv (a k + l i + 1) 2)) s18 rfl rfl s19 ⟨rfl, K17⟩
/-- Four functions, one a mode. -/
def Fns (w : World) (v : Value) (g : Nat → Nat → Nat → Int) : Prop := ∃ c : Nat → Value, v = .agg #[c 0, c 1, c 2, c 3] ∧ ∀ m, m < 4 → Ask2 w 4 (c m) (g m)
theorem Fns.all {w w' : World} {v : Value} {g : Nat → Nat → Nat → Int} (h : Fns w v g) (k : Kept (fun _ => False) w w') : Fns w' v g := by
  obtain ⟨c, e, h⟩ := h; exact ⟨c, e, fun m hm => (h m hm).all k⟩
def Pd.fns (g : Nat → Nat → Nat → Int) : Pd := ⟨fun v w => Fns w v g, fun _ _ _ h k => h.all k⟩
theorem y_ixF {ρ : Operand → Value} {o : Oper} {w : World} {R : Value → World → Prop} {x y : Operand} {k : IntKind} {v : Value} {g : Nat → Nat → Nat → Int} (j : Nat) {i : Int} (ho : o.op = .index 122 x y) (hx : ρ x = v) (hb : Fns w v g) (hy : ρ y = .int k i) (hi : i = (j : Int)) (hj : j < 4) (h : ∀ c, Ask2 w 4 c (g j) → R c w) : Yields Tryd.prog ρ o w R := by
  obtain ⟨c, rfl, hc⟩ := hb
  subst hi
  have hs : (Tryd.prog.info? 99).map (·.size) = some 1 := by kernel_rfl
  have hv : #[c 0, c 1, c 2, c 3][j]? = some (c j) := by
    rcases (by omega : j = 0 ∨ j = 1 ∨ j = 2 ∨ j = 3) with rfl | rfl | rfl | rfl <;> rfl
  cases hq : Tryd.prog.info? 99 with
  | none => simp [hq] at hs
  | some i =>
    have hs' : i.size = 1 := by simpa [hq] using hs
    have hp : (part 99 #[c 0, c 1, c 2, c 3] j).run Tryd.prog w = .ok (c j) w := by simp [part, isAgg, run_underlying Tryd.underlying99, hv]
    have h1 : (0 : Int) ≤ (j : Int) := by omega
    exact y_of (v := c j) (w' := w) (by simp [execOp, ho, hx, hy, Instr.index, run_underlying Tryd.underlying122, asIntOf, sizeOf, typeInfo, hq, hs', hp, h1, hj]) (h _ (hc j hj))
theorem fns_mk {w : World} {a l : Nat → Int} {b2 b3 b5 : Nat} (ha : ∀ i, 0 ≤ a i ∧ a i ≤ 255) (hl : ∀ i, 0 ≤ l i ∧ l i ≤ 255) (h2 : Arr w b2 125 4 a) (h3 : Arr w b3 125 4 l) (h5 : Cel w b5 3 (.int .i64 (Int.tdiv (totTo a 4 + totTo l 4 + 4) 8))) :
    Fns w (.agg [.func (.func 116) #[] #[.pointer (some ⟨b5, 0, none⟩)], .func (.func 117) #[] #[.pointer (some ⟨b2, 0, none⟩)], .func (.func 118) #[] #[.pointer (some ⟨b3, 0, none⟩)], .func (.func 119) #[] #[.pointer (some ⟨b2, 0, none⟩), .pointer (some ⟨b3, 0, none⟩)]].toArray) (predG a l) := by
  refine ⟨fun m => match m with
    | 0 => .func (.func 116) #[] #[.pointer (some ⟨b5, 0, none⟩)]
    | 1 => .func (.func 117) #[] #[.pointer (some ⟨b2, 0, none⟩)]
    | 2 => .func (.func 118) #[] #[.pointer (some ⟨b3, 0, none⟩)]
    | _ => .func (.func 119) #[] #[.pointer (some ⟨b2, 0, none⟩), .pointer (some ⟨b3, 0, none⟩)], rfl, fun m hm => ?_⟩
  rcases (by omega : m = 0 ∨ m = 1 ∨ m = 2 ∨ m = 3) with rfl | rfl | rfl | rfl
  · exact ⟨_, [_], rfl, fun _ _ => by kernel_rfl, fun w' k i j hi hj => is_p1 i j _ b5 w' (h5.all k id)⟩
  · exact ⟨_, [_], rfl, fun _ _ => by kernel_rfl, fun w' k i j hi hj => is_p2 i j a b2 w' hj (h2.all k id)⟩
  · exact ⟨_, [_], rfl, fun _ _ => by kernel_rfl, fun w' k i j hi hj => is_p3 i j l b3 w' hi (h3.all k id)⟩
  · exact ⟨_, [_, _], rfl, fun _ _ => by kernel_rfl, fun w' k i j hi hj => is_p4 i j a l b2 b3 w' hi hj ha hl (h2.all k id) (h3.all k id)⟩
set_option maxHeartbeats 4000000 in
set_option maxRecDepth 100000 in
theorem is_predictions (a l : Nat → Int) (w0 : World) (ha : ∀ i, 0 ≤ a i ∧ a i ≤ 255) (hl : ∀ i, 0 ≤ l i ∧ l i ≤ 255) :
  Calls Tryd.prog 103 #[.agg (arrL 4 (a)).toArray, .agg (arrL 4 (l)).toArray] w0 fun e w' => ∃ (v1 : Value), e = .returned v1 ∧ Kept (fun _ => False) w0 w' ∧ (Pd.fns (predG a l)).says v1 w' := by
 refine calls_wq (args := [.agg (arrL 4 (a)).toArray, .agg (arrL 4 (l)).toArray]) 18 Tryd.func103 rfl rfl (Nat.le_of_ble_eq_true rfl) ?_
 have K0 := Kept.refl (fun _ => False) w0
 refine wq_seq ?_
 refine wq_region ?_
 refine wl_box_arr rfl rfl rfl rfl fun p1 w2 e5 B3 k4 => ?_
 have g6 := onB_new (Nat.le_of_eq e5.symm)
 clear e5 g6
 have K8 := K0.trans k4 (fun _ _ x => x.elim)
 refine wl_box_arr rfl rfl rfl rfl fun p9 w10 e13 B11 k12 => ?_
 have g14 := onB_new (Nat.le_of_eq e13.symm)
 clear e13 g14
 have B17 := B3.all k12 id
 have K18 := K8.trans k12 (fun _ _ x => x.elim)
 refine wl_alloc_stc (n := 4) (vs := [Value.nilFunc, Value.nilFunc, Value.nilFunc, Value.nilFunc]) rfl rfl rfl (by kernel_rfl) fun p19 w20 B22 g23 k21 => ?_
 have gr24 : Grew w0 noB (onB p19) := Grew.new K18 g23
 have ap25 : Apart (onB p19) (onB p1) := Apart.new g23 (onB_live (B17).lt)
 have ap26 : Apart (onB p19) (onB p9) := Apart.new g23 (onB_live (B11).lt)
 have B27 := B17.all k21 id
 have B28 := B11.all k21 id
 have K29 := K18.trans k21 (fun _ _ x => x.elim)
 refine wl_nil fun F30 hF31 => ?_
 have s32 : F30 18 = undef := (hF31 18).trans rfl
 have s33 : F30 2 = .pointer (some ⟨p1, 0, none⟩) := (hF31 2).trans rfl
 have s34 : F30 3 = .pointer (some ⟨p9, 0, none⟩) := (hF31 3).trans rfl
 have s35 : F30 4 = .pointer (some ⟨p19, 0, none⟩) := (hF31 4).trans rfl
 clear hF31
 refine then_normal ?_
 refine wq_seq ?_
 have h1 := totTo_le ha 4
 have h2 := totTo_le hl 4
 refine wq_tail 8 [some 6, some 7, some 8, some 9, some 10, some 11, some 12, some 5] [Pd.eq (.agg (arrL 4 (a)).toArray), Pd.eq (.int .i64 (totTo (a) 4)), Pd.eq (.agg (arrL 4 (l)).toArray), Pd.eq (.int .i64 (totTo (l) 4)), Pd.eq (.int .i64 ((totTo (a) 4) + (totTo (l) 4))), Pd.eq (.int .i64 (((totTo (a) 4) + (totTo (l) 4)) + (4))), Pd.eq (.int .i64 (Int.tdiv (totTo a 4 + totTo l 4 + 4) 8)), Pd.cel w20.heap.size 3 (.int .i64 (0))] (by kernel_rfl) (by kernel_rfl) (by kernel_rfl) ?_ ?_
 ·refine stepsF_cons ?_ ?_
  ·refine StepF.one rfl fun F_ w_ hR hout hD => ?_
   exact (y_load_arr arrT_edge rfl ((hout 2 rfl (by decide)).trans s33) (B27.all hR id) ⟨rfl, Kept.refl _ _⟩)
  refine stepsF_cons ?_ ?_
  ·refine StepF.one rfl fun F_ w_ hR hout hD => ?_
   have g6 : F_ 6 = .agg (arrL 4 (a)).toArray := (hD.get 0 rfl rfl rfl)
   exact (y_cs rfl rfl rfl (fun _ _ => by kernel_rfl) (ev_func _) (vsC g6 vsN) (is_total (a)  _ ha  ) (fun e_ w_ h_ => ⟨_, h_.1, rfl, h_.2⟩))
  refine stepsF_cons ?_ ?_
  ·refine StepF.one rfl fun F_ w_ hR hout hD => ?_
   exact (y_load_arr arrT_edge rfl ((hout 3 rfl (by decide)).trans s34) (B28.all hR id) ⟨rfl, Kept.refl _ _⟩)
  refine stepsF_cons ?_ ?_
  ·refine StepF.one rfl fun F_ w_ hR hout hD => ?_
   have g8 : F_ 8 = .agg (arrL 4 (l)).toArray := (hD.get 0 rfl rfl rfl)
   exact (y_cs rfl rfl rfl (fun _ _ => by kernel_rfl) (ev_func _) (vsC g8 vsN) (is_total (l)  _ hl  ) (fun e_ w_ h_ => ⟨_, h_.1, rfl, h_.2⟩))
  refine stepsF_cons ?_ ?_
  ·refine StepF.one rfl fun F_ w_ hR hout hD => ?_
   have g7 : F_ 7 = .int .i64 (totTo (a) 4) := (hD.get 0 rfl rfl rfl)
   have g9 : F_ 9 = .int .i64 (totTo (l) 4) := (hD.get 1 rfl rfl rfl)
   exact (y_add rfl g7 g9 (i64_i rfl (by omega)) ⟨rfl, Kept.refl _ _⟩)
  refine stepsF_cons ?_ ?_
  ·refine StepF.one rfl fun F_ w_ hR hout hD => ?_
   have g10 : F_ 10 = .int .i64 ((totTo (a) 4) + (totTo (l) 4)) := (hD.get 0 rfl rfl rfl)
   exact (y_add rfl g10 rfl (i64_i rfl (by omega)) ⟨rfl, Kept.refl _ _⟩)
  refine stepsF_cons ?_ ?_
  ·refine StepF.one rfl fun F_ w_ hR hout hD => ?_
   have g11 : F_ 11 = .int .i64 (((totTo (a) 4) + (totTo (l) 4)) + (4)) := (hD.get 0 rfl rfl rfl)
   exact (y_quo rfl g11 rfl (by first | decide | omega) (i64_i rfl (by rw [tdiv8 (by omega)]; omega)) ⟨rfl, Kept.refl _ _⟩)
  refine stepsF_cons ?_ ?_
  ·refine StepF.one rfl fun F_ w_ hR hout hD => ?_
   exact y_alloc_cel (v := .int .i64 (0)) rfl (by kernel_rfl) rfl ⟨⟨_, rfl, hR.size, heap_alloc_new _ _⟩, (Kept.refl _ _).alloc _⟩
  exact stepsF_nil
 intro v36 F37 w38 k39 G40 hF41
 have B43 := B27.all k39 id
 have B44 := B28.all k39 id
 have B45 := B22.all k39 id
 have K46 := K29.trans k39 (fun _ _ x => x.elim)
 have s47 := (hF41 18).trans s32
 have s48 := (hF41 2).trans s33
 have s49 := (hF41 3).trans s34
 have s50 := (hF41 4).trans s35
 obtain ⟨p53, e52, e54, B55⟩ := G40 7 (by decide)
 replace B55 : Cel w38 p53 3 (.int .i64 (0)) := B55
 have gr56 : Grew w0 noB (onB p53) := Grew.new K29 (onB_new e54)
 have ap57 : Apart (onB p53) (onB p1) := Apart.new (onB_new e54) (onB_live (B27).lt)
 have ap58 : Apart (onB p53) (onB p9) := Apart.new (onB_new e54) (onB_live (B28).lt)
 have ap59 : Apart (onB p53) (onB p19) := Apart.new (onB_new e54) (onB_live (B22).lt)
 have s51 : F37 5 = .pointer (some ⟨p53, 0, none⟩) := (hF41 5).trans e52
 have s60 : F37 12 = .int .i64 (Int.tdiv (totTo a 4 + totTo l 4 + 4) 8) := (hF41 12).trans (G40 6 (by decide))
 clear G40 hF41
 refine wl_store_cel rfl rfl rfl s51 s60 B55 (by rfl) (by kernel_rfl) fun w61 B62 k63 => ?_
 have B64 := B43.all k63 (fun x => (((ap57).symm) p1 rfl x))
 have B65 := B44.all k63 (fun x => (((ap58).symm) p9 rfl x))
 have B66 := B45.all k63 (fun x => (((ap59).symm) p19 rfl x))
 have K67 := K46.trans k63 (Grew.ok (S := fun _ => False) gr56 noB_le)
 refine wl_nil fun F68 hF69 => ?_
 have s70 := (hF69 18).trans s47
 have s71 := (hF69 2).trans s48
 have s72 := (hF69 3).trans s49
 have s73 := (hF69 4).trans s50
 have s74 := (hF69 5).trans s51
 clear hF69
 refine then_normal ?_
 refine wq_seq ?_
 refine wq_region ?_
 refine wl_v (.func (.func 116) #[] #[.pointer (some ⟨p53, 0, none⟩)]) rfl rfl (y_fnc rfl (vsC s74 vsN) ⟨rfl, rfl⟩) ?_
 refine wl_v (.func (.func 117) #[] #[.pointer (some ⟨p1, 0, none⟩)]) rfl rfl (y_fnc rfl (vsC s71 vsN) ⟨rfl, rfl⟩) ?_
 refine wl_v (.func (.func 118) #[] #[.pointer (some ⟨p9, 0, none⟩)]) rfl rfl (y_fnc rfl (vsC s72 vsN) ⟨rfl, rfl⟩) ?_
 refine wl_v (.func (.func 119) #[] #[.pointer (some ⟨p1, 0, none⟩), .pointer (some ⟨p9, 0, none⟩)]) rfl rfl (y_fnc rfl (vsC s71 (vsC s72 vsN)) ⟨rfl, rfl⟩) ?_
 refine wl_v (.agg #[.func (.func 116) #[] #[.pointer (some ⟨p53, 0, none⟩)], .func (.func 117) #[] #[.pointer (some ⟨p1, 0, none⟩)], .func (.func 118) #[] #[.pointer (some ⟨p9, 0, none⟩)], .func (.func 119) #[] #[.pointer (some ⟨p1, 0, none⟩), .pointer (some ⟨p9, 0, none⟩)]]) rfl rfl (y_buildL (l' := [(0, .func (.func 116) #[] #[.pointer (some ⟨p53, 0, none⟩)]), (1, .func (.func 117) #[] #[.pointer (some ⟨p1, 0, none⟩)]), (2, .func (.func 118) #[] #[.pointer (some ⟨p9, 0, none⟩)]), (3, .func (.func 119) #[] #[.pointer (some ⟨p1, 0, none⟩), .pointer (some ⟨p9, 0, none⟩)])]) (cells := #[.func (.func 116) #[] #[.pointer (some ⟨p53, 0, none⟩)], .func (.func 117) #[] #[.pointer (some ⟨p1, 0, none⟩)], .func (.func 118) #[] #[.pointer (some ⟨p9, 0, none⟩)], .func (.func 119) #[] #[.pointer (some ⟨p1, 0, none⟩), .pointer (some ⟨p9, 0, none⟩)]]) rfl (bpC rfl (bpC rfl (bpC rfl (bpC rfl bpN)))) (by kernel_rfl) rfl ⟨rfl, rfl⟩) ?_
 refine wl_store_stc (us := [.func (.func 116) #[] #[.pointer (some ⟨p53, 0, none⟩)], .func (.func 117) #[] #[.pointer (some ⟨p1, 0, none⟩)], .func (.func 118) #[] #[.pointer (some ⟨p9, 0, none⟩)], .func (.func 119) #[] #[.pointer (some ⟨p1, 0, none⟩), .pointer (some ⟨p9, 0, none⟩)]]) stcT_fn4 rfl rfl rfl s73 rfl B66 rfl (oneI rfl (oneI rfl (oneI rfl (oneI rfl oneN)))) fun w75 B76 k77 => ?_
 have B78 := B64.all k77 (fun x => (((ap25).symm) p1 rfl x))
 have B79 := B65.all k77 (fun x => (((ap26).symm) p9 rfl x))
 have B80 := B62.all k77 (fun x => ((ap59) p53 rfl x))
 have K81 := K67.trans k77 (Grew.ok (S := fun _ => False) gr24 noB_le)
 refine wl_nil fun F82 hF83 => ?_
 have s84 := (hF83 18).trans s70
 have s85 := (hF83 4).trans s73
 clear hF83
 refine then_normal ?_
 refine wq_ret ?_
 exact end_stc (vs := [.func (.func 116) #[] #[.pointer (some ⟨p53, 0, none⟩)], .func (.func 117) #[] #[.pointer (some ⟨p1, 0, none⟩)], .func (.func 118) #[] #[.pointer (some ⟨p9, 0, none⟩)], .func (.func 119) #[] #[.pointer (some ⟨p1, 0, none⟩), .pointer (some ⟨p9, 0, none⟩)]]) stcT_fn4 s84 rfl rfl s85 B76 ⟨_, rfl, K81, fns_mk ha hl B78 B79 B80⟩

set_option maxHeartbeats 4000000 in
set_option maxRecDepth 100000 in
theorem is_filled (fv : Value) (g : Nat → Nat → Int) (w0 : World) (hg : Ask2 w0 4 fv g) :
  Calls Tryd.prog 102 #[fv] w0 fun e w' => e = .returned (blkV (fun n => g (n / 4) (n % 4))) ∧ Kept (fun _ => False) w0 w' := by
 refine calls_wq (args := [fv]) 18 Tryd.func102 rfl rfl (Nat.le_of_ble_eq_true rfl) ?_
 have K0 := Kept.refl (fun _ => False) w0
 refine wq_seq ?_
 refine wq_region ?_
 refine wl_alloc_blk rfl rfl rfl blkT_block.2.2 fun p1 w2 e5 B3 k4 => ?_
 have g6 := onB_new (Nat.le_of_eq e5.symm)
 have gr7 : Grew w0 noB (onB p1) := Grew.new K0 g6
 clear e5 g6
 have K8 := K0.trans k4 (fun _ _ x => x.elim)
 refine wl_nil fun F9 hF10 => ?_
 have s11 : F9 0 = fv := (hF10 0).trans rfl
 have s12 : F9 18 = undef := (hF10 18).trans rfl
 have s13 : F9 2 = .pointer (some ⟨p1, 0, none⟩) := (hF10 2).trans rfl
 clear hF10
 refine then_normal ?_
 refine wq_seq ?_
 refine wq_region ?_
 refine wl_alloc_blk rfl rfl rfl blkT_block.2.2 fun p14 w15 e18 B16 k17 => ?_
 have g19 := onB_new (Nat.le_of_eq e18.symm)
 have gr20 : Grew w0 noB (onB p14) := Grew.new K8 g19
 have ap21 : Apart (onB p14) (onB p1) := Apart.new g19 (onB_live (B3).lt)
 clear e18 g19
 have B22 := B3.all k17 id
 have K23 := K8.trans k17 (fun _ _ x => x.elim)
 refine wl_nil fun F24 hF25 => ?_
 have s26 := (hF25 0).trans s11
 have s27 := (hF25 18).trans s12
 have s28 := (hF25 2).trans s13
 have s29 : F24 3 = .pointer (some ⟨p14, 0, none⟩) := (hF25 3).trans rfl
 clear hF25
 refine then_normal ?_
 refine wq_seq ?_
 refine wq_seq ?_
 refine wq_region ?_
 refine wl_v (.int .i64 (0)) rfl rfl (y_mov rfl rfl ⟨rfl, rfl⟩) ?_
 refine wl_nil fun F30 hF31 => ?_
 have s32 := (hF31 0).trans s26
 have s33 := (hF31 18).trans s27
 have s34 := (hF31 2).trans s28
 have s35 := (hF31 3).trans s29
 have s36 : F30 5 = .int .i64 (0) := (hF31 5).trans rfl
 clear hF31
 refine then_normal ?_
 refine wq_block ?_
 refine wq_loop (fun nn FF ww => ∃ (n : Nat), (n ≤ 16) ∧ nn = 16 - n ∧ FF 0 = fv ∧ FF 2 = .pointer (some ⟨p1, 0, none⟩) ∧ FF 3 = .pointer (some ⟨p14, 0, none⟩) ∧ FF 18 = undef ∧ FF 5 = .int .i64 (((n : Nat) : Int)) ∧ Kept (fun _ => False) w0 ww ∧ Blk ww p1 25 (fun _ => 0) ∧ Blk ww p14 25 (upto n (fun _ => 0) (fun n => g (n / 4) (n % 4)))) (16 - (0)) ⟨0, by omega, rfl, s32, s34, s35, s33, s36, K23, B22, B16.first⟩ ?_
 rintro n40 F37 w38 ⟨n, i41, hn40, s42, s43, s44, s45, s46, K39, B47, B48⟩
 refine wq_seq ?_
 refine wq_region ?_
 refine wl_v (.bool (decide ((((n : Nat) : Int)) < (16)))) rfl rfl (y_lss rfl s46 rfl rfl ⟨rfl, rfl⟩) ?_
 refine wl_nil fun F49 hF50 => ?_
 have s51 := (hF50 0).trans s42
 have s52 := (hF50 2).trans s43
 have s53 := (hF50 3).trans s44
 have s54 := (hF50 18).trans s45
 have s55 := (hF50 5).trans s46
 have s56 : F49 6 = .bool (decide ((((n : Nat) : Int)) < (16))) := (hF50 6).trans rfl
 clear hF50
 refine then_normal ?_
 refine wq_seq ?_
 refine wq_cond s56 (fun c57 => ?_) (fun c57 => ?_)
 ·replace c57 := of_decide_eq_true c57
  refine wq_skip ?_
  refine then_normal ?_
  refine wq_seq ?_
  refine wq_block ?_
  refine wq_seq ?_
  refine wq_region ?_
  refine wl_v (.int .i64 (((n : Nat) : Int))) rfl rfl (y_mov rfl s55 ⟨rfl, rfl⟩) ?_
  refine wl_v (.int .i64 (((n : Nat) : Int))) rfl rfl (y_asg rfl rfl ⟨rfl, rfl⟩) ?_
  refine wl_nil fun F58 hF59 => ?_
  have s60 := (hF59 0).trans s51
  have s61 := (hF59 2).trans s52
  have s62 := (hF59 3).trans s53
  have s63 := (hF59 18).trans s54
  have s64 := (hF59 5).trans s55
  have s65 : F58 4 = .int .i64 (((n : Nat) : Int)) := (hF59 4).trans rfl
  clear hF59
  refine then_normal ?_
  refine wq_region ?_
  refine wl_v (.int .i64 (((n : Nat) : Int))) rfl rfl (y_mov rfl s65 ⟨rfl, rfl⟩) ?_
  refine wl_v (fv) rfl rfl (y_mov rfl s60 ⟨rfl, rfl⟩) ?_
  refine wl_v (.int .i64 (((n : Nat) : Int))) rfl rfl (y_mov rfl s65 ⟨rfl, rfl⟩) ?_
  refine wl_v (.int .i64 ((((n / 4) : Nat) : Int))) rfl rfl (y_quo rfl rfl rfl (by first | decide | omega) (i64_n (quo_nat n 4) (by omega)) ⟨rfl, rfl⟩) ?_
  refine wl_v (.int .i64 (((n : Nat) : Int))) rfl rfl (y_mov rfl s65 ⟨rfl, rfl⟩) ?_
  refine wl_v (.int .i64 ((((n % 4) : Nat) : Int))) rfl rfl (y_rem rfl rfl rfl (by first | decide | omega) (rem_nat n 4) ⟨rfl, rfl⟩) ?_
  refine wl_call (R := fun v_ w_ => v_ = .int .i64 (g ((n / 4)) ((n % 4))) ∧ Kept (fun _ => False) w38 w_) rfl rfl (y_ask2 rfl rfl rfl rfl rfl rfl (hg.all K39) (by omega) (by omega) (fun e_ w_ h_ => ⟨_, h_.1, rfl, h_.2⟩)) ?_
  rintro _ w66 ⟨rfl, k67⟩
  have B68 := B47.all k67 id
  have B69 := B48.all k67 id
  have K70 := K39.trans k67 (fun _ _ x => x.elim)
  refine wl_v (.pointer (some ⟨p14, n, none⟩)) rfl rfl (y_atR (n) (s := 1) rfl s62 rfl (by omega) Tryd.underlying25 (by omega) (by kernel_rfl) (by omega) ⟨rfl, rfl⟩) ?_
  refine wl_set_blk rfl rfl rfl rfl rfl B69 (by omega) (by kernel_rfl) fun w71 B72 k73 => ?_
  have B74 := B68.all k73 (fun x => (((ap21).symm) p1 rfl x))
  have K75 := K70.trans k73 (Grew.ok (S := fun _ => False) gr20 noB_le)
  refine wl_nil fun F76 hF77 => ?_
  have s78 := (hF77 0).trans s60
  have s79 := (hF77 2).trans s61
  have s80 := (hF77 3).trans s62
  have s81 := (hF77 18).trans s63
  have s82 := (hF77 5).trans s64
  clear hF77
  refine in_normal ?_
  refine then_normal ?_
  refine wq_region ?_
  refine wl_v (.int .i64 (((n + 1 : Nat) : Int))) rfl rfl (y_add rfl s82 rfl (i64_n (by omega) (by omega)) ⟨rfl, rfl⟩) ?_
  refine wl_v (.int .i64 (((n + 1 : Nat) : Int))) rfl rfl (y_mov rfl rfl ⟨rfl, rfl⟩) ?_
  refine wl_nil fun F83 hF84 => ?_
  have s85 := (hF84 0).trans s78
  have s86 := (hF84 2).trans s79
  have s87 := (hF84 3).trans s80
  have s88 := (hF84 18).trans s81
  have s89 : F83 5 = .int .i64 (((n + 1 : Nat) : Int)) := (hF84 5).trans rfl
  clear hF84
  exact then_normal ⟨(16 - (n + 1)), by omega, n + 1, by omega, rfl, s85, s86, s87, s88, s89, K75, B74, (B72.next rfl)⟩
 ·replace c57 := of_decide_eq_false c57
  refine wq_exit ?_
  refine then_exit ?_
  refine then_exit ?_
  have l90 : 16 = n := by omega
  subst l90
  have B91 : Blk w38 p14 25 (fun n => g (n / 4) (n % 4)) := (B48.last)
  refine in_here ?_
  refine then_normal ?_
  refine wq_seq ?_
  refine wq_region ?_
  refine wl_v (blkV (fun n => g (n / 4) (n % 4))) rfl rfl (y_load_blk blkT_block rfl s53 B91 ⟨rfl, rfl⟩) ?_
  refine wl_store_blk blkT_block rfl rfl rfl s52 rfl B47 fun w92 B93 k94 => ?_
  have K96 := K39.trans k94 (Grew.ok (S := fun _ => False) gr7 noB_le)
  refine wl_nil fun F97 hF98 => ?_
  have s99 := (hF98 2).trans s52
  have s100 := (hF98 18).trans s54
  clear hF98
  refine then_normal ?_
  refine wq_ret ?_
  exact end_blk blkT_block s100 rfl rfl s99 B93 ⟨rfl, K96⟩

theorem predG_is {f : FD} {p x y mode : Int} (hm : 0 ≤ mode ∧ mode ≤ 3) : (fun n => predG (fun k => aboveF f p x y ((k : Nat) : Int)) (fun k => leftF f p x y ((k : Nat) : Int)) mode.toNat (n / 4) (n % 4)) = predN f p x y mode := by
  funext n
  rcases (by omega : mode = 0 ∨ mode = 1 ∨ mode = 2 ∨ mode = 3) with rfl | rfl | rfl | rfl
  · show Int.tdiv _ 8 = Int.tdiv _ 8
    congr 1
    simp only [totTo, sumTo]; omega
  · rfl
  · rfl
  · rfl
set_option maxHeartbeats 4000000 in
set_option maxRecDepth 100000 in
theorem il_predict (p x y mode : Int) (f : FD) (f0 f1 f2 : Value) (T_f0 : Nat → Prop) (T_f1 : Nat → Prop) (T_f2 : Nat → Prop) (w0 : World) (h_f0 : Byt w0 T_f0 f0 ((f).p0)) (h_f1 : Byt w0 T_f1 f1 ((f).p1)) (h_f2 : Byt w0 T_f2 f2 ((f).p2)) :
  Calls Tryd.prog 71 #[.agg #[.int .i64 ((f).W), .int .i64 ((f).H), f0, f1, f2], .int .i64 (p), .int .i64 (x), .int .i64 (y), .int .i64 (mode)] w0 fun e w' => e = .returned (.tuple #[blkV (predB f p x y mode), .int .i64 (predE f p x y mode)]) ∧ Kept (fun _ => False) w0 w' := by
 refine calls_wq (args := [.agg #[.int .i64 ((f).W), .int .i64 ((f).H), f0, f1, f2], .int .i64 (p), .int .i64 (x), .int .i64 (y), .int .i64 (mode)]) 55 Tryd.func71 rfl rfl (Nat.le_of_ble_eq_true rfl) ?_
 have K0 := Kept.refl (fun _ => False) w0
 have hb : Bytes3 f := ⟨h_f0.lt256, h_f1.lt256, h_f2.lt256⟩
 have g_f0 := Grew.refl w0 T_f0
 have g_f1 := Grew.refl w0 T_f1
 have g_f2 := Grew.refl w0 T_f2
 refine wq_seq ?_
 refine wq_region ?_
 refine wl_box_stc (vs := [.int .i64 ((f).W), .int .i64 ((f).H), f0, f1, f2]) rfl rfl rfl rfl fun p1 w2 B4 g5 k3 => ?_
 have B10 := h_f0.all k3 Apart.none
 have B11 := h_f1.all k3 Apart.none
 have B12 := h_f2.all k3 Apart.none
 have K13 := K0.trans k3 (fun _ _ x => x.elim)
 refine wl_alloc_blk rfl rfl rfl blkT_block.2.2 fun p14 w15 e18 B16 k17 => ?_
 have g19 := onB_new (Nat.le_of_eq e18.symm)
 have gr20 : Grew w0 noB (onB p14) := Grew.new K13 g19
 clear e18 g19
 have B25 := B10.all k17 Apart.none
 have B26 := B11.all k17 Apart.none
 have B27 := B12.all k17 Apart.none
 have B28 := B4.all k17 id
 have K29 := K13.trans k17 (fun _ _ x => x.elim)
 refine wl_v (.int .i64 (0)) rfl rfl (y_asg rfl rfl ⟨rfl, rfl⟩) ?_
 refine wl_nil fun F30 hF31 => ?_
 have s32 : F30 1 = .int .i64 (p) := (hF31 1).trans rfl
 have s33 : F30 2 = .int .i64 (x) := (hF31 2).trans rfl
 have s34 : F30 3 = .int .i64 (y) := (hF31 3).trans rfl
 have s35 : F30 4 = .int .i64 (mode) := (hF31 4).trans rfl
 have s36 : F30 55 = undef := (hF31 55).trans rfl
 have s37 : F30 5 = .pointer (some ⟨p1, 0, none⟩) := (hF31 5).trans rfl
 have s38 : F30 10 = .pointer (some ⟨p14, 0, none⟩) := (hF31 10).trans rfl
 clear hF31
 refine then_normal ?_
 refine wq_seq ?_
 refine wq_seq ?_
 by_cases d39 : (checkE (f)) ≠ (0)
 ·skip
  refine wq_region ?_
  refine wl_v (.agg #[.int .i64 ((f).W), .int .i64 ((f).H), f0, f1, f2]) rfl rfl (y_load_stc stcT_frame rfl s37 B28 ⟨rfl, rfl⟩) ?_
  refine wl_call (R := fun v_ w_ => v_ = .int .i64 (checkE (f)) ∧ Kept (fun _ => False) w15 w_) rfl rfl (y_cs rfl rfl rfl (fun _ _ => by kernel_rfl) (ev_func _) (vsC rfl vsN) (pl_check (f) (f0) (f1) (f2) (T_f0) (T_f1) (T_f2) _  B25 B26 B27 ) (fun e_ w_ h_ => ⟨_, h_.1, rfl, h_.2⟩)) ?_
  rintro _ w40 ⟨rfl, k41⟩
  have B46 := B16.all k41 id
  have K47 := K29.trans k41 (fun _ _ x => x.elim)
  refine wl_v (.bool true) rfl rfl (y_neqI rfl rfl rfl (decide_eq_true d39) ⟨rfl, rfl⟩) ?_
  refine wl_v (.bool true) rfl rfl (y_mov rfl rfl ⟨rfl, rfl⟩) ?_
  refine wl_unless 3 false 15 rfl rfl rfl (Or.inl rfl) rfl ?_
  refine wl_unless 3 false 15 rfl rfl rfl (Or.inl rfl) rfl ?_
  refine wl_v (.bool true) rfl rfl (y_pickT rfl rfl rfl ⟨rfl, rfl⟩) ?_
  refine wl_v (.bool true) rfl rfl (y_mov rfl rfl ⟨rfl, rfl⟩) ?_
  refine wl_unless 7 false 19 rfl rfl rfl (Or.inl rfl) rfl ?_
  refine wl_unless 7 false 19 rfl rfl rfl (Or.inl rfl) rfl ?_
  refine wl_v (.bool true) rfl rfl (y_pickT rfl rfl rfl ⟨rfl, rfl⟩) ?_
  refine wl_v (.bool true) rfl rfl (y_mov rfl rfl ⟨rfl, rfl⟩) ?_
  refine wl_unless 11 false 23 rfl rfl rfl (Or.inl rfl) rfl ?_
  refine wl_unless 11 false 23 rfl rfl rfl (Or.inl rfl) rfl ?_
  refine wl_unless 11 false 23 rfl rfl rfl (Or.inl rfl) rfl ?_
  refine wl_v (.bool true) rfl rfl (y_pickT rfl rfl rfl ⟨rfl, rfl⟩) ?_
  refine wl_v (.bool true) rfl rfl (y_mov rfl rfl ⟨rfl, rfl⟩) ?_
  refine wl_unless 16 false 28 rfl rfl rfl (Or.inl rfl) rfl ?_
  refine wl_unless 16 false 28 rfl rfl rfl (Or.inl rfl) rfl ?_
  refine wl_unless 16 false 28 rfl rfl rfl (Or.inl rfl) rfl ?_
  refine wl_v (.bool true) rfl rfl (y_pickT rfl rfl rfl ⟨rfl, rfl⟩) ?_
  refine wl_nil fun F48 hF49 => ?_
  have s54 := (hF49 55).trans s36
  have s56 := (hF49 10).trans s38
  have s57 : F48 32 = .bool true := (hF49 32).trans rfl
  clear hF49
  refine then_normal ?_
  refine wq_cond (t := true) s57 (fun _ => ?_) (fun e => by cases e)
  refine wq_seq ?_
  have hno : ¬ placeF f p x y := by rintro ⟨h1, h2, h3, h4, h5, h6, h7⟩; first | exact absurd ((checkE_iff f).2 h1) (by assumption) | omega
  refine wq_region ?_
  refine wl_v (blkV (fun _ => 0)) rfl rfl (y_buildR (cells := (arrL 16 (fun _ => 0)).toArray) rfl (by kernel_rfl) rfl ⟨rfl, rfl⟩) ?_
  refine wl_store_blk blkT_block rfl rfl rfl s56 rfl B46 fun w58 B59 k60 => ?_
  have K65 := K47.trans k60 (Grew.ok (S := fun _ => False) gr20 noB_le)
  refine wl_v (.int .i64 (70)) rfl rfl (y_asg rfl rfl ⟨rfl, rfl⟩) ?_
  refine wl_nil fun F66 hF67 => ?_
  have s68 := (hF67 55).trans s54
  have s69 := (hF67 10).trans s56
  have s70 : F66 11 = .int .i64 (70) := (hF67 11).trans rfl
  clear hF67
  refine then_normal ?_
  refine wq_ret ?_
  refine then_ret ?_
  exact end_2 s68 rfl (res_blk blkT_block rfl s69 B59) (res_tmp (v := .int .i64 (70)) rfl s70) ⟨(by first | rw [(pred_no hno).1, (pred_no hno).2] | rw [(pred_none hpl hm).1, (pred_none hpl hm).2] | rw [(pred_yes hpl hm).1, (pred_yes hpl hm).2]), K65⟩
 ·skip
  by_cases d71 : (p) < (0)
  ·skip
   refine wq_region ?_
   refine wl_v (.agg #[.int .i64 ((f).W), .int .i64 ((f).H), f0, f1, f2]) rfl rfl (y_load_stc stcT_frame rfl s37 B28 ⟨rfl, rfl⟩) ?_
   refine wl_call (R := fun v_ w_ => v_ = .int .i64 (checkE (f)) ∧ Kept (fun _ => False) w15 w_) rfl rfl (y_cs rfl rfl rfl (fun _ _ => by kernel_rfl) (ev_func _) (vsC rfl vsN) (pl_check (f) (f0) (f1) (f2) (T_f0) (T_f1) (T_f2) _  B25 B26 B27 ) (fun e_ w_ h_ => ⟨_, h_.1, rfl, h_.2⟩)) ?_
   rintro _ w72 ⟨rfl, k73⟩
   have B78 := B16.all k73 id
   have K79 := K29.trans k73 (fun _ _ x => x.elim)
   refine wl_v (.bool false) rfl rfl (y_neqI rfl rfl rfl (decide_eq_false d39) ⟨rfl, rfl⟩) ?_
   refine wl_v (.bool false) rfl rfl (y_mov rfl rfl ⟨rfl, rfl⟩) ?_
   refine wl_vw (.int .i64 (p)) 3 false 15 rfl rfl rfl rfl rfl (y_mov rfl s32 ⟨rfl, rfl⟩) ?_
   refine wl_vw (.bool true) 3 false 15 rfl rfl rfl rfl rfl (y_lss rfl rfl rfl (decide_eq_true d71) ⟨rfl, rfl⟩) ?_
   refine wl_v (.bool true) rfl rfl (y_pickF rfl rfl rfl ⟨rfl, rfl⟩) ?_
   refine wl_v (.bool true) rfl rfl (y_mov rfl rfl ⟨rfl, rfl⟩) ?_
   refine wl_unless 7 false 19 rfl rfl rfl (Or.inl rfl) rfl ?_
   refine wl_unless 7 false 19 rfl rfl rfl (Or.inl rfl) rfl ?_
   refine wl_v (.bool true) rfl rfl (y_pickT rfl rfl rfl ⟨rfl, rfl⟩) ?_
   refine wl_v (.bool true) rfl rfl (y_mov rfl rfl ⟨rfl, rfl⟩) ?_
   refine wl_unless 11 false 23 rfl rfl rfl (Or.inl rfl) rfl ?_
   refine wl_unless 11 false 23 rfl rfl rfl (Or.inl rfl) rfl ?_
   refine wl_unless 11 false 23 rfl rfl rfl (Or.inl rfl) rfl ?_
   refine wl_v (.bool true) rfl rfl (y_pickT rfl rfl rfl ⟨rfl, rfl⟩) ?_
   refine wl_v (.bool true) rfl rfl (y_mov rfl rfl ⟨rfl, rfl⟩) ?_
   refine wl_unless 16 false 28 rfl rfl rfl (Or.inl rfl) rfl ?_
   refine wl_unless 16 false 28 rfl rfl rfl (Or.inl rfl) rfl ?_
   refine wl_unless 16 false 28 rfl rfl rfl (Or.inl rfl) rfl ?_
   refine wl_v (.bool true) rfl rfl (y_pickT rfl rfl rfl ⟨rfl, rfl⟩) ?_
   refine wl_nil fun F80 hF81 => ?_
   have s86 := (hF81 55).trans s36
   have s88 := (hF81 10).trans s38
   have s89 : F80 32 = .bool true := (hF81 32).trans rfl
   clear hF81
   refine then_normal ?_
   refine wq_cond (t := true) s89 (fun _ => ?_) (fun e => by cases e)
   refine wq_seq ?_
   have hno : ¬ placeF f p x y := by rintro ⟨h1, h2, h3, h4, h5, h6, h7⟩; first | exact absurd ((checkE_iff f).2 h1) (by assumption) | omega
   refine wq_region ?_
   refine wl_v (blkV (fun _ => 0)) rfl rfl (y_buildR (cells := (arrL 16 (fun _ => 0)).toArray) rfl (by kernel_rfl) rfl ⟨rfl, rfl⟩) ?_
   refine wl_store_blk blkT_block rfl rfl rfl s88 rfl B78 fun w90 B91 k92 => ?_
   have K97 := K79.trans k92 (Grew.ok (S := fun _ => False) gr20 noB_le)
   refine wl_v (.int .i64 (70)) rfl rfl (y_asg rfl rfl ⟨rfl, rfl⟩) ?_
   refine wl_nil fun F98 hF99 => ?_
   have s100 := (hF99 55).trans s86
   have s101 := (hF99 10).trans s88
   have s102 : F98 11 = .int .i64 (70) := (hF99 11).trans rfl
   clear hF99
   refine then_normal ?_
   refine wq_ret ?_
   refine then_ret ?_
   exact end_2 s100 rfl (res_blk blkT_block rfl s101 B91) (res_tmp (v := .int .i64 (70)) rfl s102) ⟨(by first | rw [(pred_no hno).1, (pred_no hno).2] | rw [(pred_none hpl hm).1, (pred_none hpl hm).2] | rw [(pred_yes hpl hm).1, (pred_yes hpl hm).2]), K97⟩
  ·skip
   by_cases d103 : (3) ≤ (p)
   ·skip
    refine wq_region ?_
    refine wl_v (.agg #[.int .i64 ((f).W), .int .i64 ((f).H), f0, f1, f2]) rfl rfl (y_load_stc stcT_frame rfl s37 B28 ⟨rfl, rfl⟩) ?_
    refine wl_call (R := fun v_ w_ => v_ = .int .i64 (checkE (f)) ∧ Kept (fun _ => False) w15 w_) rfl rfl (y_cs rfl rfl rfl (fun _ _ => by kernel_rfl) (ev_func _) (vsC rfl vsN) (pl_check (f) (f0) (f1) (f2) (T_f0) (T_f1) (T_f2) _  B25 B26 B27 ) (fun e_ w_ h_ => ⟨_, h_.1, rfl, h_.2⟩)) ?_
    rintro _ w104 ⟨rfl, k105⟩
    have B110 := B16.all k105 id
    have K111 := K29.trans k105 (fun _ _ x => x.elim)
    refine wl_v (.bool false) rfl rfl (y_neqI rfl rfl rfl (decide_eq_false d39) ⟨rfl, rfl⟩) ?_
    refine wl_v (.bool false) rfl rfl (y_mov rfl rfl ⟨rfl, rfl⟩) ?_
    refine wl_vw (.int .i64 (p)) 3 false 15 rfl rfl rfl rfl rfl (y_mov rfl s32 ⟨rfl, rfl⟩) ?_
    refine wl_vw (.bool false) 3 false 15 rfl rfl rfl rfl rfl (y_lss rfl rfl rfl (decide_eq_false d71) ⟨rfl, rfl⟩) ?_
    refine wl_v (.bool false) rfl rfl (y_pickF rfl rfl rfl ⟨rfl, rfl⟩) ?_
    refine wl_v (.bool false) rfl rfl (y_mov rfl rfl ⟨rfl, rfl⟩) ?_
    refine wl_vw (.int .i64 (p)) 7 false 19 rfl rfl rfl rfl rfl (y_mov rfl s32 ⟨rfl, rfl⟩) ?_
    refine wl_vw (.bool true) 7 false 19 rfl rfl rfl rfl rfl (y_geq rfl rfl rfl (decide_eq_true d103) ⟨rfl, rfl⟩) ?_
    refine wl_v (.bool true) rfl rfl (y_pickF rfl rfl rfl ⟨rfl, rfl⟩) ?_
    refine wl_v (.bool true) rfl rfl (y_mov rfl rfl ⟨rfl, rfl⟩) ?_
    refine wl_unless 11 false 23 rfl rfl rfl (Or.inl rfl) rfl ?_
    refine wl_unless 11 false 23 rfl rfl rfl (Or.inl rfl) rfl ?_
    refine wl_unless 11 false 23 rfl rfl rfl (Or.inl rfl) rfl ?_
    refine wl_v (.bool true) rfl rfl (y_pickT rfl rfl rfl ⟨rfl, rfl⟩) ?_
    refine wl_v (.bool true) rfl rfl (y_mov rfl rfl ⟨rfl, rfl⟩) ?_
    refine wl_unless 16 false 28 rfl rfl rfl (Or.inl rfl) rfl ?_
    refine wl_unless 16 false 28 rfl rfl rfl (Or.inl rfl) rfl ?_
    refine wl_unless 16 false 28 rfl rfl rfl (Or.inl rfl) rfl ?_
    refine wl_v (.bool true) rfl rfl (y_pickT rfl rfl rfl ⟨rfl, rfl⟩) ?_
    refine wl_nil fun F112 hF113 => ?_
    have s118 := (hF113 55).trans s36
    have s120 := (hF113 10).trans s38
    have s121 : F112 32 = .bool true := (hF113 32).trans rfl
    clear hF113
    refine then_normal ?_
    refine wq_cond (t := true) s121 (fun _ => ?_) (fun e => by cases e)
    refine wq_seq ?_
    have hno : ¬ placeF f p x y := by rintro ⟨h1, h2, h3, h4, h5, h6, h7⟩; first | exact absurd ((checkE_iff f).2 h1) (by assumption) | omega
    refine wq_region ?_
    refine wl_v (blkV (fun _ => 0)) rfl rfl (y_buildR (cells := (arrL 16 (fun _ => 0)).toArray) rfl (by kernel_rfl) rfl ⟨rfl, rfl⟩) ?_
    refine wl_store_blk blkT_block rfl rfl rfl s120 rfl B110 fun w122 B123 k124 => ?_
    have K129 := K111.trans k124 (Grew.ok (S := fun _ => False) gr20 noB_le)
    refine wl_v (.int .i64 (70)) rfl rfl (y_asg rfl rfl ⟨rfl, rfl⟩) ?_
    refine wl_nil fun F130 hF131 => ?_
    have s132 := (hF131 55).trans s118
    have s133 := (hF131 10).trans s120
    have s134 : F130 11 = .int .i64 (70) := (hF131 11).trans rfl
    clear hF131
    refine then_normal ?_
    refine wq_ret ?_
    refine then_ret ?_
    exact end_2 s132 rfl (res_blk blkT_block rfl s133 B123) (res_tmp (v := .int .i64 (70)) rfl s134) ⟨(by first | rw [(pred_no hno).1, (pred_no hno).2] | rw [(pred_none hpl hm).1, (pred_none hpl hm).2] | rw [(pred_yes hpl hm).1, (pred_yes hpl hm).2]), K129⟩
   ·skip
    by_cases d135 : 0 ≤ (x) ∧ (x) ≤ 64
    ·skip
     by_cases d136 : 0 ≤ (y) ∧ (y) ≤ 64
     ·skip
      refine wq_region ?_
      refine wl_v (.agg #[.int .i64 ((f).W), .int .i64 ((f).H), f0, f1, f2]) rfl rfl (y_load_stc stcT_frame rfl s37 B28 ⟨rfl, rfl⟩) ?_
      refine wl_call (R := fun v_ w_ => v_ = .int .i64 (checkE (f)) ∧ Kept (fun _ => False) w15 w_) rfl rfl (y_cs rfl rfl rfl (fun _ _ => by kernel_rfl) (ev_func _) (vsC rfl vsN) (pl_check (f) (f0) (f1) (f2) (T_f0) (T_f1) (T_f2) _  B25 B26 B27 ) (fun e_ w_ h_ => ⟨_, h_.1, rfl, h_.2⟩)) ?_
      rintro _ w137 ⟨rfl, k138⟩
      have B139 := B25.all k138 Apart.none
      have B140 := B26.all k138 Apart.none
      have B141 := B27.all k138 Apart.none
      have B142 := B28.all k138 id
      have B143 := B16.all k138 id
      have K144 := K29.trans k138 (fun _ _ x => x.elim)
      refine wl_v (.bool false) rfl rfl (y_neqI rfl rfl rfl (decide_eq_false d39) ⟨rfl, rfl⟩) ?_
      refine wl_v (.bool false) rfl rfl (y_mov rfl rfl ⟨rfl, rfl⟩) ?_
      refine wl_vw (.int .i64 (p)) 3 false 15 rfl rfl rfl rfl rfl (y_mov rfl s32 ⟨rfl, rfl⟩) ?_
      refine wl_vw (.bool false) 3 false 15 rfl rfl rfl rfl rfl (y_lss rfl rfl rfl (decide_eq_false d71) ⟨rfl, rfl⟩) ?_
      refine wl_v (.bool false) rfl rfl (y_pickF rfl rfl rfl ⟨rfl, rfl⟩) ?_
      refine wl_v (.bool false) rfl rfl (y_mov rfl rfl ⟨rfl, rfl⟩) ?_
      refine wl_vw (.int .i64 (p)) 7 false 19 rfl rfl rfl rfl rfl (y_mov rfl s32 ⟨rfl, rfl⟩) ?_
      refine wl_vw (.bool false) 7 false 19 rfl rfl rfl rfl rfl (y_geq rfl rfl rfl (decide_eq_false d103) ⟨rfl, rfl⟩) ?_
      refine wl_v (.bool false) rfl rfl (y_pickF rfl rfl rfl ⟨rfl, rfl⟩) ?_
      refine wl_v (.bool false) rfl rfl (y_mov rfl rfl ⟨rfl, rfl⟩) ?_
      refine wl_vw (.int .i64 (x)) 11 false 23 rfl rfl rfl rfl rfl (y_mov rfl s33 ⟨rfl, rfl⟩) ?_
      refine wl_callw (R := fun v_ w_ => v_ = .bool true ∧ Kept (fun _ => False) w137 w_) 11 false 23 rfl rfl rfl rfl rfl (y_cs rfl rfl rfl (fun _ _ => by kernel_rfl) (ev_func _) (vsC rfl vsN) (is_place (x)  _   ) (fun e_ w_ h_ => ⟨_, h_.1, (congrArg Value.bool (decide_eq_true d135)), h_.2⟩)) ?_
      rintro _ w145 ⟨rfl, k146⟩
      have B147 := B139.all k146 Apart.none
      have B148 := B140.all k146 Apart.none
      have B149 := B141.all k146 Apart.none
      have B150 := B142.all k146 id
      have B151 := B143.all k146 id
      have K152 := K144.trans k146 (fun _ _ x => x.elim)
      refine wl_vw (.bool false) 11 false 23 rfl rfl rfl rfl rfl (y_not rfl rfl rfl ⟨rfl, rfl⟩) ?_
      refine wl_v (.bool false) rfl rfl (y_pickF rfl rfl rfl ⟨rfl, rfl⟩) ?_
      refine wl_v (.bool false) rfl rfl (y_mov rfl rfl ⟨rfl, rfl⟩) ?_
      refine wl_vw (.int .i64 (y)) 16 false 28 rfl rfl rfl rfl rfl (y_mov rfl s34 ⟨rfl, rfl⟩) ?_
      refine wl_callw (R := fun v_ w_ => v_ = .bool true ∧ Kept (fun _ => False) w145 w_) 16 false 28 rfl rfl rfl rfl rfl (y_cs rfl rfl rfl (fun _ _ => by kernel_rfl) (ev_func _) (vsC rfl vsN) (is_place (y)  _   ) (fun e_ w_ h_ => ⟨_, h_.1, (congrArg Value.bool (decide_eq_true d136)), h_.2⟩)) ?_
      rintro _ w153 ⟨rfl, k154⟩
      have B155 := B147.all k154 Apart.none
      have B156 := B148.all k154 Apart.none
      have B157 := B149.all k154 Apart.none
      have B158 := B150.all k154 id
      have B159 := B151.all k154 id
      have K160 := K152.trans k154 (fun _ _ x => x.elim)
      refine wl_vw (.bool false) 16 false 28 rfl rfl rfl rfl rfl (y_not rfl rfl rfl ⟨rfl, rfl⟩) ?_
      refine wl_v (.bool false) rfl rfl (y_pickF rfl rfl rfl ⟨rfl, rfl⟩) ?_
      refine wl_nil fun F161 hF162 => ?_
      have s163 := (hF162 1).trans s32
      have s164 := (hF162 2).trans s33
      have s165 := (hF162 3).trans s34
      have s166 := (hF162 4).trans s35
      have s167 := (hF162 55).trans s36
      have s168 := (hF162 5).trans s37
      have s169 := (hF162 10).trans s38
      have s170 : F161 32 = .bool false := (hF162 32).trans rfl
      clear hF162
      refine then_normal ?_
      refine wq_cond (t := false) s170 (fun e => by cases e) (fun _ => ?_)
      refine wq_skip ?_
      refine then_normal ?_
      refine wq_seq ?_
      refine wq_seq ?_
      have hpl : placeF f p x y := ⟨(checkE_iff f).1 (by first | assumption | (apply Decidable.byContradiction; assumption)), by omega, by omega, by omega, by omega, by omega, by omega⟩
      by_cases d171 : (mode) < (0)
      ·skip
       refine wq_region ?_
       refine wl_v (.int .i64 (mode)) rfl rfl (y_mov rfl s166 ⟨rfl, rfl⟩) ?_
       refine wl_v (.bool true) rfl rfl (y_lss rfl rfl rfl (decide_eq_true d171) ⟨rfl, rfl⟩) ?_
       refine wl_v (.bool true) rfl rfl (y_mov rfl rfl ⟨rfl, rfl⟩) ?_
       refine wl_unless 2 false 36 rfl rfl rfl (Or.inl rfl) rfl ?_
       refine wl_unless 2 false 36 rfl rfl rfl (Or.inl rfl) rfl ?_
       refine wl_v (.bool true) rfl rfl (y_pickT rfl rfl rfl ⟨rfl, rfl⟩) ?_
       refine wl_nil fun F172 hF173 => ?_
       have s178 := (hF173 55).trans s167
       have s180 := (hF173 10).trans s169
       have s181 : F172 39 = .bool true := (hF173 39).trans rfl
       clear hF173
       refine then_normal ?_
       refine wq_cond (t := true) s181 (fun _ => ?_) (fun e => by cases e)
       refine wq_seq ?_
       have hm : ¬ (0 ≤ mode ∧ mode ≤ 3) := by omega
       refine wq_region ?_
       refine wl_v (blkV (fun _ => 0)) rfl rfl (y_buildR (cells := (arrL 16 (fun _ => 0)).toArray) rfl (by kernel_rfl) rfl ⟨rfl, rfl⟩) ?_
       refine wl_store_blk blkT_block rfl rfl rfl s180 rfl B159 fun w182 B183 k184 => ?_
       have K189 := K160.trans k184 (Grew.ok (S := fun _ => False) gr20 noB_le)
       refine wl_v (.int .i64 (80)) rfl rfl (y_asg rfl rfl ⟨rfl, rfl⟩) ?_
       refine wl_nil fun F190 hF191 => ?_
       have s192 := (hF191 55).trans s178
       have s193 := (hF191 10).trans s180
       have s194 : F190 11 = .int .i64 (80) := (hF191 11).trans rfl
       clear hF191
       refine then_normal ?_
       refine wq_ret ?_
       refine then_ret ?_
       exact end_2 s192 rfl (res_blk blkT_block rfl s193 B183) (res_tmp (v := .int .i64 (80)) rfl s194) ⟨(by first | rw [(pred_no hno).1, (pred_no hno).2] | rw [(pred_none hpl hm).1, (pred_none hpl hm).2] | rw [(pred_yes hpl hm).1, (pred_yes hpl hm).2]), K189⟩
      ·skip
       refine wq_region ?_
       refine wl_v (.int .i64 (mode)) rfl rfl (y_mov rfl s166 ⟨rfl, rfl⟩) ?_
       refine wl_v (.bool false) rfl rfl (y_lss rfl rfl rfl (decide_eq_false d171) ⟨rfl, rfl⟩) ?_
       refine wl_v (.bool false) rfl rfl (y_mov rfl rfl ⟨rfl, rfl⟩) ?_
       refine wl_vw (.int .i64 (mode)) 2 false 36 rfl rfl rfl rfl rfl (y_mov rfl s166 ⟨rfl, rfl⟩) ?_
       refine wl_vw (.bool (decide ((4) ≤ (mode)))) 2 false 36 rfl rfl rfl rfl rfl (y_geq rfl rfl rfl rfl ⟨rfl, rfl⟩) ?_
       refine wl_v (.bool (decide ((4) ≤ (mode)))) rfl rfl (y_pickF rfl rfl rfl ⟨rfl, rfl⟩) ?_
       refine wl_nil fun F195 hF196 => ?_
       have s197 := (hF196 1).trans s163
       have s198 := (hF196 2).trans s164
       have s199 := (hF196 3).trans s165
       have s200 := (hF196 4).trans s166
       have s201 := (hF196 55).trans s167
       have s202 := (hF196 5).trans s168
       have s203 := (hF196 10).trans s169
       have s204 : F195 39 = .bool (decide ((4) ≤ (mode))) := (hF196 39).trans rfl
       clear hF196
       refine then_normal ?_
       refine wq_cond s204 (fun c205 => ?_) (fun c205 => ?_)
       ·replace c205 := of_decide_eq_true c205
        refine wq_seq ?_
        have hm : ¬ (0 ≤ mode ∧ mode ≤ 3) := by omega
        refine wq_region ?_
        refine wl_v (blkV (fun _ => 0)) rfl rfl (y_buildR (cells := (arrL 16 (fun _ => 0)).toArray) rfl (by kernel_rfl) rfl ⟨rfl, rfl⟩) ?_
        refine wl_store_blk blkT_block rfl rfl rfl s203 rfl B159 fun w206 B207 k208 => ?_
        have K213 := K160.trans k208 (Grew.ok (S := fun _ => False) gr20 noB_le)
        refine wl_v (.int .i64 (80)) rfl rfl (y_asg rfl rfl ⟨rfl, rfl⟩) ?_
        refine wl_nil fun F214 hF215 => ?_
        have s216 := (hF215 55).trans s201
        have s217 := (hF215 10).trans s203
        have s218 : F214 11 = .int .i64 (80) := (hF215 11).trans rfl
        clear hF215
        refine then_normal ?_
        refine wq_ret ?_
        refine then_ret ?_
        exact end_2 s216 rfl (res_blk blkT_block rfl s217 B207) (res_tmp (v := .int .i64 (80)) rfl s218) ⟨(by first | rw [(pred_no hno).1, (pred_no hno).2] | rw [(pred_none hpl hm).1, (pred_none hpl hm).2] | rw [(pred_yes hpl hm).1, (pred_yes hpl hm).2]), K213⟩
       ·replace c205 := of_decide_eq_false c205
        refine wq_skip ?_
        refine then_normal ?_
        refine wq_seq ?_
        have hm : 0 ≤ mode ∧ mode ≤ 3 := by omega
        refine wq_tail 14 [some 41, some 42, some 43, some 44, some 45, some 46, some 47, some 48, some 49, some 50, some 51, some 52, some 53, some 54] [Pd.eq (.agg #[.int .i64 ((f).W), .int .i64 ((f).H), f0, f1, f2]), Pd.eq (.int .i64 (p)), Pd.eq (.int .i64 (x)), Pd.eq (.int .i64 (y)), Pd.eq (.agg (arrL 4 (fun k => aboveF (f) (p) (x) (y) ((k : Nat) : Int))).toArray), Pd.eq (.agg #[.int .i64 ((f).W), .int .i64 ((f).H), f0, f1, f2]), Pd.eq (.int .i64 (p)), Pd.eq (.int .i64 (x)), Pd.eq (.int .i64 (y)), Pd.eq (.agg (arrL 4 (fun k => leftF (f) (p) (x) (y) ((k : Nat) : Int))).toArray), Pd.fns (predG (fun k => aboveF (f) (p) (x) (y) ((k : Nat) : Int)) (fun k => leftF (f) (p) (x) (y) ((k : Nat) : Int))), Pd.eq (.int .i64 (mode)), Pd.ask2 4 (predG (fun k => aboveF f p x y ((k : Nat) : Int)) (fun k => leftF f p x y ((k : Nat) : Int)) mode.toNat), Pd.eq (blkV (predN f p x y mode))] (by kernel_rfl) (by kernel_rfl) (by kernel_rfl) ?_ ?_
        ·refine stepsF_cons ?_ ?_
         ·refine StepF.one rfl fun F_ w_ hR hout hD => ?_
          exact (y_load_stc stcT_frame rfl ((hout 5 rfl (by decide)).trans s202) (B158.all hR id) ⟨rfl, Kept.refl _ _⟩)
         refine stepsF_cons ?_ ?_
         ·refine StepF.one rfl fun F_ w_ hR hout hD => ?_
          exact (y_mov rfl ((hout 1 rfl (by decide)).trans s197) ⟨rfl, Kept.refl _ _⟩)
         refine stepsF_cons ?_ ?_
         ·refine StepF.one rfl fun F_ w_ hR hout hD => ?_
          exact (y_mov rfl ((hout 2 rfl (by decide)).trans s198) ⟨rfl, Kept.refl _ _⟩)
         refine stepsF_cons ?_ ?_
         ·refine StepF.one rfl fun F_ w_ hR hout hD => ?_
          exact (y_mov rfl ((hout 3 rfl (by decide)).trans s199) ⟨rfl, Kept.refl _ _⟩)
         refine stepsF_cons ?_ ?_
         ·refine StepF.one rfl fun F_ w_ hR hout hD => ?_
          have g41 : F_ 41 = .agg #[.int .i64 ((f).W), .int .i64 ((f).H), f0, f1, f2] := (hD.get 0 rfl rfl rfl)
          have g42 : F_ 42 = .int .i64 (p) := (hD.get 1 rfl rfl rfl)
          have g43 : F_ 43 = .int .i64 (x) := (hD.get 2 rfl rfl rfl)
          have g44 : F_ 44 = .int .i64 (y) := (hD.get 3 rfl rfl rfl)
          exact (y_cs rfl rfl rfl (fun _ _ => by kernel_rfl) (ev_func _) (vsC g41 (vsC g42 (vsC g43 (vsC g44 vsN)))) (is_above (p) (x) (y) (f) (f0) (f1) (f2) (T_f0) (T_f1) (T_f2) _ (by omega) (by omega) (B155.all hR Apart.none) (B156.all hR Apart.none) (B157.all hR Apart.none) ) (fun e_ w_ h_ => ⟨_, h_.1, rfl, h_.2⟩))
         refine stepsF_cons ?_ ?_
         ·refine StepF.one rfl fun F_ w_ hR hout hD => ?_
          exact (y_load_stc stcT_frame rfl ((hout 5 rfl (by decide)).trans s202) (B158.all hR id) ⟨rfl, Kept.refl _ _⟩)
         refine stepsF_cons ?_ ?_
         ·refine StepF.one rfl fun F_ w_ hR hout hD => ?_
          exact (y_mov rfl ((hout 1 rfl (by decide)).trans s197) ⟨rfl, Kept.refl _ _⟩)
         refine stepsF_cons ?_ ?_
         ·refine StepF.one rfl fun F_ w_ hR hout hD => ?_
          exact (y_mov rfl ((hout 2 rfl (by decide)).trans s198) ⟨rfl, Kept.refl _ _⟩)
         refine stepsF_cons ?_ ?_
         ·refine StepF.one rfl fun F_ w_ hR hout hD => ?_
          exact (y_mov rfl ((hout 3 rfl (by decide)).trans s199) ⟨rfl, Kept.refl _ _⟩)
         refine stepsF_cons ?_ ?_
         ·refine StepF.one rfl fun F_ w_ hR hout hD => ?_
          have g46 : F_ 46 = .agg #[.int .i64 ((f).W), .int .i64 ((f).H), f0, f1, f2] := (hD.get 0 rfl rfl rfl)
          have g47 : F_ 47 = .int .i64 (p) := (hD.get 1 rfl rfl rfl)
          have g48 : F_ 48 = .int .i64 (x) := (hD.get 2 rfl rfl rfl)
          have g49 : F_ 49 = .int .i64 (y) := (hD.get 3 rfl rfl rfl)
          exact (y_cs rfl rfl rfl (fun _ _ => by kernel_rfl) (ev_func _) (vsC g46 (vsC g47 (vsC g48 (vsC g49 vsN)))) (is_left (p) (x) (y) (f) (f0) (f1) (f2) (T_f0) (T_f1) (T_f2) _ (by omega) (by omega) (B155.all hR Apart.none) (B156.all hR Apart.none) (B157.all hR Apart.none) ) (fun e_ w_ h_ => ⟨_, h_.1, rfl, h_.2⟩))
         refine stepsF_cons ?_ ?_
         ·refine StepF.one rfl fun F_ w_ hR hout hD => ?_
          have g45 : F_ 45 = .agg (arrL 4 (fun k => aboveF (f) (p) (x) (y) ((k : Nat) : Int))).toArray := (hD.get 0 rfl rfl rfl)
          have g50 : F_ 50 = .agg (arrL 4 (fun k => leftF (f) (p) (x) (y) ((k : Nat) : Int))).toArray := (hD.get 1 rfl rfl rfl)
          exact (y_cs rfl rfl rfl (fun _ _ => by kernel_rfl) (ev_func _) (vsC g45 (vsC g50 vsN)) (is_predictions (fun k => aboveF (f) (p) (x) (y) ((k : Nat) : Int)) (fun k => leftF (f) (p) (x) (y) ((k : Nat) : Int))  _ (fun i => above_le hb p x y _) (fun i => left_le hb p x y _)  ) (fun e_ w_ h_ => by obtain ⟨v_, he_, k_, hb_⟩ := h_; exact ⟨v_, he_, hb_, k_⟩))
         refine stepsF_cons ?_ ?_
         ·refine StepF.one rfl fun F_ w_ hR hout hD => ?_
          exact (y_mov rfl ((hout 4 rfl (by decide)).trans s200) ⟨rfl, Kept.refl _ _⟩)
         refine stepsF_cons ?_ ?_
         ·refine StepF.one rfl fun F_ w_ hR hout hD => ?_
          have g51 : (Pd.fns (predG (fun k => aboveF (f) (p) (x) (y) ((k : Nat) : Int)) (fun k => leftF (f) (p) (x) (y) ((k : Nat) : Int)))).says (F_ 51) w_ := hD.get 0 rfl rfl rfl
          have g52 : F_ 52 = .int .i64 (mode) := (hD.get 1 rfl rfl rfl)
          exact y_ixF (mode.toNat) rfl rfl g51 g52 (by omega) (by omega) fun c_ hc_ => ⟨hc_, Kept.refl _ _⟩
         refine stepsF_cons ?_ ?_
         ·refine StepF.one rfl fun F_ w_ hR hout hD => ?_
          have g53 : (Pd.ask2 4 (predG (fun k => aboveF f p x y ((k : Nat) : Int)) (fun k => leftF f p x y ((k : Nat) : Int)) mode.toNat)).says (F_ 53) w_ := hD.get 0 rfl rfl rfl
          exact (y_cs rfl rfl rfl (fun _ _ => by kernel_rfl) (ev_func _) (vsC rfl vsN) (is_filled (F_ 53) (predG (fun k => aboveF f p x y ((k : Nat) : Int)) (fun k => leftF f p x y ((k : Nat) : Int)) mode.toNat)  _ g53  ) (fun e_ w_ h_ => ⟨_, h_.1, congrArg blkV (predG_is hm), h_.2⟩))
         exact stepsF_nil
        intro v219 F220 w221 k222 G223 hF224
        have B230 := B159.all k222 id
        have K231 := K160.trans k222 (fun _ _ x => x.elim)
        have s232 := (hF224 55).trans s201
        have s233 := (hF224 10).trans s203
        have s234 : F220 54 = blkV (predN f p x y mode) := (hF224 54).trans (G223 13 (by decide))
        clear G223 hF224
        refine wl_store_blk blkT_block rfl rfl rfl s233 s234 B230 fun w235 B236 k237 => ?_
        have K242 := K231.trans k237 (Grew.ok (S := fun _ => False) gr20 noB_le)
        refine wl_v (.int .i64 (0)) rfl rfl (y_asg rfl rfl ⟨rfl, rfl⟩) ?_
        refine wl_nil fun F243 hF244 => ?_
        have s245 := (hF244 55).trans s232
        have s246 := (hF244 10).trans s233
        have s247 : F243 11 = .int .i64 (0) := (hF244 11).trans rfl
        clear hF244
        refine then_normal ?_
        refine wq_ret ?_
        exact end_2 s245 rfl (res_blk blkT_block rfl s246 B236) (res_tmp (v := .int .i64 (0)) rfl s247) ⟨(by first | rw [(pred_no hno).1, (pred_no hno).2] | rw [(pred_none hpl hm).1, (pred_none hpl hm).2] | rw [(pred_yes hpl hm).1, (pred_yes hpl hm).2]), K242⟩
     ·skip
      refine wq_region ?_
      refine wl_v (.agg #[.int .i64 ((f).W), .int .i64 ((f).H), f0, f1, f2]) rfl rfl (y_load_stc stcT_frame rfl s37 B28 ⟨rfl, rfl⟩) ?_
      refine wl_call (R := fun v_ w_ => v_ = .int .i64 (checkE (f)) ∧ Kept (fun _ => False) w15 w_) rfl rfl (y_cs rfl rfl rfl (fun _ _ => by kernel_rfl) (ev_func _) (vsC rfl vsN) (pl_check (f) (f0) (f1) (f2) (T_f0) (T_f1) (T_f2) _  B25 B26 B27 ) (fun e_ w_ h_ => ⟨_, h_.1, rfl, h_.2⟩)) ?_
      rintro _ w248 ⟨rfl, k249⟩
      have B254 := B16.all k249 id
      have K255 := K29.trans k249 (fun _ _ x => x.elim)
      refine wl_v (.bool false) rfl rfl (y_neqI rfl rfl rfl (decide_eq_false d39) ⟨rfl, rfl⟩) ?_
      refine wl_v (.bool false) rfl rfl (y_mov rfl rfl ⟨rfl, rfl⟩) ?_
      refine wl_vw (.int .i64 (p)) 3 false 15 rfl rfl rfl rfl rfl (y_mov rfl s32 ⟨rfl, rfl⟩) ?_
      refine wl_vw (.bool false) 3 false 15 rfl rfl rfl rfl rfl (y_lss rfl rfl rfl (decide_eq_false d71) ⟨rfl, rfl⟩) ?_
      refine wl_v (.bool false) rfl rfl (y_pickF rfl rfl rfl ⟨rfl, rfl⟩) ?_
      refine wl_v (.bool false) rfl rfl (y_mov rfl rfl ⟨rfl, rfl⟩) ?_
      refine wl_vw (.int .i64 (p)) 7 false 19 rfl rfl rfl rfl rfl (y_mov rfl s32 ⟨rfl, rfl⟩) ?_
      refine wl_vw (.bool false) 7 false 19 rfl rfl rfl rfl rfl (y_geq rfl rfl rfl (decide_eq_false d103) ⟨rfl, rfl⟩) ?_
      refine wl_v (.bool false) rfl rfl (y_pickF rfl rfl rfl ⟨rfl, rfl⟩) ?_
      refine wl_v (.bool false) rfl rfl (y_mov rfl rfl ⟨rfl, rfl⟩) ?_
      refine wl_vw (.int .i64 (x)) 11 false 23 rfl rfl rfl rfl rfl (y_mov rfl s33 ⟨rfl, rfl⟩) ?_
      refine wl_callw (R := fun v_ w_ => v_ = .bool true ∧ Kept (fun _ => False) w248 w_) 11 false 23 rfl rfl rfl rfl rfl (y_cs rfl rfl rfl (fun _ _ => by kernel_rfl) (ev_func _) (vsC rfl vsN) (is_place (x)  _   ) (fun e_ w_ h_ => ⟨_, h_.1, (congrArg Value.bool (decide_eq_true d135)), h_.2⟩)) ?_
      rintro _ w256 ⟨rfl, k257⟩
      have B262 := B254.all k257 id
      have K263 := K255.trans k257 (fun _ _ x => x.elim)
      refine wl_vw (.bool false) 11 false 23 rfl rfl rfl rfl rfl (y_not rfl rfl rfl ⟨rfl, rfl⟩) ?_
      refine wl_v (.bool false) rfl rfl (y_pickF rfl rfl rfl ⟨rfl, rfl⟩) ?_
      refine wl_v (.bool false) rfl rfl (y_mov rfl rfl ⟨rfl, rfl⟩) ?_
      refine wl_vw (.int .i64 (y)) 16 false 28 rfl rfl rfl rfl rfl (y_mov rfl s34 ⟨rfl, rfl⟩) ?_
      refine wl_callw (R := fun v_ w_ => v_ = .bool false ∧ Kept (fun _ => False) w256 w_) 16 false 28 rfl rfl rfl rfl rfl (y_cs rfl rfl rfl (fun _ _ => by kernel_rfl) (ev_func _) (vsC rfl vsN) (is_place (y)  _   ) (fun e_ w_ h_ => ⟨_, h_.1, (congrArg Value.bool (decide_eq_false d136)), h_.2⟩)) ?_
      rintro _ w264 ⟨rfl, k265⟩
      have B270 := B262.all k265 id
      have K271 := K263.trans k265 (fun _ _ x => x.elim)
      refine wl_vw (.bool true) 16 false 28 rfl rfl rfl rfl rfl (y_not rfl rfl rfl ⟨rfl, rfl⟩) ?_
      refine wl_v (.bool true) rfl rfl (y_pickF rfl rfl rfl ⟨rfl, rfl⟩) ?_
      refine wl_nil fun F272 hF273 => ?_
      have s278 := (hF273 55).trans s36
      have s280 := (hF273 10).trans s38
      have s281 : F272 32 = .bool true := (hF273 32).trans rfl
      clear hF273
      refine then_normal ?_
      refine wq_cond (t := true) s281 (fun _ => ?_) (fun e => by cases e)
      refine wq_seq ?_
      have hno : ¬ placeF f p x y := by rintro ⟨h1, h2, h3, h4, h5, h6, h7⟩; first | exact absurd ((checkE_iff f).2 h1) (by assumption) | omega
      refine wq_region ?_
      refine wl_v (blkV (fun _ => 0)) rfl rfl (y_buildR (cells := (arrL 16 (fun _ => 0)).toArray) rfl (by kernel_rfl) rfl ⟨rfl, rfl⟩) ?_
      refine wl_store_blk blkT_block rfl rfl rfl s280 rfl B270 fun w282 B283 k284 => ?_
      have K289 := K271.trans k284 (Grew.ok (S := fun _ => False) gr20 noB_le)
      refine wl_v (.int .i64 (70)) rfl rfl (y_asg rfl rfl ⟨rfl, rfl⟩) ?_
      refine wl_nil fun F290 hF291 => ?_
      have s292 := (hF291 55).trans s278
      have s293 := (hF291 10).trans s280
      have s294 : F290 11 = .int .i64 (70) := (hF291 11).trans rfl
      clear hF291
      refine then_normal ?_
      refine wq_ret ?_
      refine then_ret ?_
      exact end_2 s292 rfl (res_blk blkT_block rfl s293 B283) (res_tmp (v := .int .i64 (70)) rfl s294) ⟨(by first | rw [(pred_no hno).1, (pred_no hno).2] | rw [(pred_none hpl hm).1, (pred_none hpl hm).2] | rw [(pred_yes hpl hm).1, (pred_yes hpl hm).2]), K289⟩
    ·skip
     refine wq_region ?_
     refine wl_v (.agg #[.int .i64 ((f).W), .int .i64 ((f).H), f0, f1, f2]) rfl rfl (y_load_stc stcT_frame rfl s37 B28 ⟨rfl, rfl⟩) ?_
     refine wl_call (R := fun v_ w_ => v_ = .int .i64 (checkE (f)) ∧ Kept (fun _ => False) w15 w_) rfl rfl (y_cs rfl rfl rfl (fun _ _ => by kernel_rfl) (ev_func _) (vsC rfl vsN) (pl_check (f) (f0) (f1) (f2) (T_f0) (T_f1) (T_f2) _  B25 B26 B27 ) (fun e_ w_ h_ => ⟨_, h_.1, rfl, h_.2⟩)) ?_
     rintro _ w295 ⟨rfl, k296⟩
     have B301 := B16.all k296 id
     have K302 := K29.trans k296 (fun _ _ x => x.elim)
     refine wl_v (.bool false) rfl rfl (y_neqI rfl rfl rfl (decide_eq_false d39) ⟨rfl, rfl⟩) ?_
     refine wl_v (.bool false) rfl rfl (y_mov rfl rfl ⟨rfl, rfl⟩) ?_
     refine wl_vw (.int .i64 (p)) 3 false 15 rfl rfl rfl rfl rfl (y_mov rfl s32 ⟨rfl, rfl⟩) ?_
     refine wl_vw (.bool false) 3 false 15 rfl rfl rfl rfl rfl (y_lss rfl rfl rfl (decide_eq_false d71) ⟨rfl, rfl⟩) ?_
     refine wl_v (.bool false) rfl rfl (y_pickF rfl rfl rfl ⟨rfl, rfl⟩) ?_
     refine wl_v (.bool false) rfl rfl (y_mov rfl rfl ⟨rfl, rfl⟩) ?_
     refine wl_vw (.int .i64 (p)) 7 false 19 rfl rfl rfl rfl rfl (y_mov rfl s32 ⟨rfl, rfl⟩) ?_
     refine wl_vw (.bool false) 7 false 19 rfl rfl rfl rfl rfl (y_geq rfl rfl rfl (decide_eq_false d103) ⟨rfl, rfl⟩) ?_
     refine wl_v (.bool false) rfl rfl (y_pickF rfl rfl rfl ⟨rfl, rfl⟩) ?_
     refine wl_v (.bool false) rfl rfl (y_mov rfl rfl ⟨rfl, rfl⟩) ?_
     refine wl_vw (.int .i64 (x)) 11 false 23 rfl rfl rfl rfl rfl (y_mov rfl s33 ⟨rfl, rfl⟩) ?_
     refine wl_callw (R := fun v_ w_ => v_ = .bool false ∧ Kept (fun _ => False) w295 w_) 11 false 23 rfl rfl rfl rfl rfl (y_cs rfl rfl rfl (fun _ _ => by kernel_rfl) (ev_func _) (vsC rfl vsN) (is_place (x)  _   ) (fun e_ w_ h_ => ⟨_, h_.1, (congrArg Value.bool (decide_eq_false d135)), h_.2⟩)) ?_
     rintro _ w303 ⟨rfl, k304⟩
     have B309 := B301.all k304 id
     have K310 := K302.trans k304 (fun _ _ x => x.elim)
     refine wl_vw (.bool true) 11 false 23 rfl rfl rfl rfl rfl (y_not rfl rfl rfl ⟨rfl, rfl⟩) ?_
     refine wl_v (.bool true) rfl rfl (y_pickF rfl rfl rfl ⟨rfl, rfl⟩) ?_
     refine wl_v (.bool true) rfl rfl (y_mov rfl rfl ⟨rfl, rfl⟩) ?_
     refine wl_unless 16 false 28 rfl rfl rfl (Or.inl rfl) rfl ?_
     refine wl_unless 16 false 28 rfl rfl rfl (Or.inl rfl) rfl ?_
     refine wl_unless 16 false 28 rfl rfl rfl (Or.inl rfl) rfl ?_
     refine wl_v (.bool true) rfl rfl (y_pickT rfl rfl rfl ⟨rfl, rfl⟩) ?_
     refine wl_nil fun F311 hF312 => ?_
     have s317 := (hF312 55).trans s36
     have s319 := (hF312 10).trans s38
     have s320 : F311 32 = .bool true := (hF312 32).trans rfl
     clear hF312
     refine then_normal ?_
     refine wq_cond (t := true) s320 (fun _ => ?_) (fun e => by cases e)
     refine wq_seq ?_
     have hno : ¬ placeF f p x y := by rintro ⟨h1, h2, h3, h4, h5, h6, h7⟩; first | exact absurd ((checkE_iff f).2 h1) (by assumption) | omega
     refine wq_region ?_
     refine wl_v (blkV (fun _ => 0)) rfl rfl (y_buildR (cells := (arrL 16 (fun _ => 0)).toArray) rfl (by kernel_rfl) rfl ⟨rfl, rfl⟩) ?_
     refine wl_store_blk blkT_block rfl rfl rfl s319 rfl B309 fun w321 B322 k323 => ?_
     have K328 := K310.trans k323 (Grew.ok (S := fun _ => False) gr20 noB_le)
     refine wl_v (.int .i64 (70)) rfl rfl (y_asg rfl rfl ⟨rfl, rfl⟩) ?_
     refine wl_nil fun F329 hF330 => ?_
     have s331 := (hF330 55).trans s317
     have s332 := (hF330 10).trans s319
     have s333 : F329 11 = .int .i64 (70) := (hF330 11).trans rfl
     clear hF330
     refine then_normal ?_
     refine wq_ret ?_
     refine then_ret ?_
     exact end_2 s331 rfl (res_blk blkT_block rfl s332 B322) (res_tmp (v := .int .i64 (70)) rfl s333) ⟨(by first | rw [(pred_no hno).1, (pred_no hno).2] | rw [(pred_none hpl hm).1, (pred_none hpl hm).2] | rw [(pred_yes hpl hm).1, (pred_yes hpl hm).2]), K328⟩
end Go.Proofs.YtdcbabgcbkdlhaaDoor
set_option maxRecDepth 100000
namespace Go.Proofs.YtdcbabgcbkdlhaaDoor

theorem c256_id {n : Int} (h1 : -256 ≤ n) (h2 : n ≤ 256) : c256 n = n := by unfold c256; omega
theorem near_id2 {n : Int} (h1 : -64 ≤ n) (h2 : n ≤ 128) : nearI n = n := by unfold nearI; omega
/-- Whole vectors move a block. -/
theorem mv_even {f : FD} {k u t a c : Int} (hu : 0 ≤ u ∧ u ≤ 64) (ht : 0 ≤ t ∧ t ≤ 64) (ha : -15 ≤ a ∧ a ≤ 15) (hc : -15 ≤ c ∧ c ≤ 15) (n : Nat) (hn : n < 16) : mvN f k u t (a * 2) (c * 2) n = getF f k (u + a) (t + c) n := by
  unfold mvN smpF getF
  rw [c256_id (by omega) (by omega), c256_id (by omega) (by omega), near_id2 (by omega) (by omega), near_id2 (by omega) (by omega), mid_both (by omega) (by omega)]
  congr 1 <;> omega
theorem getF_le {f : FD} (hb : Bytes3 f) (p x y : Int) (n : Nat) : 0 ≤ getF f p x y n ∧ getF f p x y n ≤ 255 := atF_le hb _ _ _
theorem c8_id {n : Int} (h1 : 0 ≤ n) (h2 : n ≤ 255) : c8 n = n := by unfold c8; omega
theorem both_self (a : Nat → Int) (i : Nat) (h : 0 ≤ a i ∧ a i ≤ 255) : bothB a a i = a i := by rw [bothB_at, c8_id h.1 h.2]; omega
end Go.Proofs.YtdcbabgcbkdlhaaDoor
set_option maxRecDepth 100000
namespace Go.Proofs.YtdcbabgcbkdlhaaDoor
open Go.RowKit
theorem stcT_vector : StcT Tryd.prog 23 2 := ⟨_, Tryd.underlying23, rfl, by kernel_rfl⟩
end Go.Proofs.YtdcbabgcbkdlhaaDoor
set_option maxRecDepth 100000
namespace Go.Proofs.YtdcbabgcbkdlhaaDoor

def nx (a : Int) (k : Nat) : Int := a - 2 + ((k % 5 : Nat) : Int)
def ny (c : Int) (k : Nat) : Int := c - 2 + ((k / 5 : Nat) : Int)
end Go.Proofs.YtdcbabgcbkdlhaaDoor
