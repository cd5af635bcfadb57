/- What BlockTells reaches of my texts, part 6. -/
import Derived.Test.YtdcbabgcbkdlhaaDoorBlockTellsE
set_option maxRecDepth 100000
set_option maxRecDepth 100000
namespace Go.Proofs.YtdcbabgcbkdlhaaDoor
open Go.RowKit

set_option maxHeartbeats 4000000 in
set_option maxRecDepth 100000 in
theorem bref_past (m : Int) (w0 : World) :
  Calls Tryd.prog 22 #[.int .i64 (m)] w0 fun e w' => e = .returned (.bool (pastB m)) ∧ Kept (fun _ => False) w0 w' := by
 refine calls_wq (args := [.int .i64 (m)]) 9 Tryd.func22 rfl rfl (Nat.le_of_ble_eq_true rfl) ?_
 have K0 := Kept.refl (fun _ => False) w0
 refine wq_seq ?_
 refine wq_region ?_
 refine wl_v (.bool false) rfl rfl (y_asg rfl rfl ⟨rfl, rfl⟩) ?_
 refine wl_nil fun F1 hF2 => ?_
 have s3 : F1 0 = .int .i64 (m) := (hF2 0).trans rfl
 have s4 : F1 9 = undef := (hF2 9).trans rfl
 clear hF2
 refine then_normal ?_
 refine wq_seq ?_
 by_cases d5 : (m) = (4)
 ·skip
  refine wq_region ?_
  refine wl_v (.int .i64 (m)) rfl rfl (y_mov rfl s3 ⟨rfl, rfl⟩) ?_
  refine wl_v (.bool true) rfl rfl (y_eqlI rfl rfl rfl (decide_eq_true d5) ⟨rfl, rfl⟩) ?_
  refine wl_v (.bool true) rfl rfl (y_mov rfl rfl ⟨rfl, rfl⟩) ?_
  refine wl_unless 2 false 5 rfl rfl rfl (Or.inl rfl) rfl ?_
  refine wl_unless 2 false 5 rfl rfl rfl (Or.inl rfl) rfl ?_
  refine wl_v (.bool true) rfl rfl (y_pickT rfl rfl rfl ⟨rfl, rfl⟩) ?_
  refine wl_v (.bool true) rfl rfl (y_asg rfl rfl ⟨rfl, rfl⟩) ?_
  refine wl_nil fun F6 hF7 => ?_
  have s8 := (hF7 9).trans s4
  have s9 : F6 2 = .bool true := (hF7 2).trans rfl
  clear hF7
  refine then_normal ?_
  refine wq_ret ?_
  exact end_tmp (v := .bool true) s8 rfl rfl s9 ⟨(retB (by unfold pastB; first | (rw [decide_eq_true (p := m = 4) (by assumption)]; rfl) | (rw [decide_eq_false (p := m = 4) (by assumption)]; rfl) | (simp; omega))), K0⟩
 ·skip
  refine wq_region ?_
  refine wl_v (.int .i64 (m)) rfl rfl (y_mov rfl s3 ⟨rfl, rfl⟩) ?_
  refine wl_v (.bool false) rfl rfl (y_eqlI rfl rfl rfl (decide_eq_false d5) ⟨rfl, rfl⟩) ?_
  refine wl_v (.bool false) rfl rfl (y_mov rfl rfl ⟨rfl, rfl⟩) ?_
  refine wl_vw (.int .i64 (m)) 2 false 5 rfl rfl rfl rfl rfl (y_mov rfl s3 ⟨rfl, rfl⟩) ?_
  refine wl_vw (.bool (decide ((m) = (6)))) 2 false 5 rfl rfl rfl rfl rfl (y_eqlI rfl rfl rfl rfl ⟨rfl, rfl⟩) ?_
  refine wl_v (.bool (decide ((m) = (6)))) rfl rfl (y_pickF rfl rfl rfl ⟨rfl, rfl⟩) ?_
  refine wl_v (.bool (decide ((m) = (6)))) rfl rfl (y_asg rfl rfl ⟨rfl, rfl⟩) ?_
  refine wl_nil fun F10 hF11 => ?_
  have s12 := (hF11 9).trans s4
  have s13 : F10 2 = .bool (decide ((m) = (6))) := (hF11 2).trans rfl
  clear hF11
  refine then_normal ?_
  refine wq_ret ?_
  exact end_tmp (v := .bool (decide ((m) = (6)))) s12 rfl rfl s13 ⟨(retB (by unfold pastB; first | (rw [decide_eq_true (p := m = 4) (by assumption)]; rfl) | (rw [decide_eq_false (p := m = 4) (by assumption)]; rfl) | (simp; omega))), K0⟩
set_option maxHeartbeats 4000000 in
set_option maxRecDepth 100000 in
theorem bref_next (m : Int) (w0 : World) :
  Calls Tryd.prog 23 #[.int .i64 (m)] w0 fun e w' => e = .returned (.bool (nextB m)) ∧ Kept (fun _ => False) w0 w' := by
 refine calls_wq (args := [.int .i64 (m)]) 9 Tryd.func23 rfl rfl (Nat.le_of_ble_eq_true rfl) ?_
 have K0 := Kept.refl (fun _ => False) w0
 refine wq_seq ?_
 refine wq_region ?_
 refine wl_v (.bool false) rfl rfl (y_asg rfl rfl ⟨rfl, rfl⟩) ?_
 refine wl_nil fun F1 hF2 => ?_
 have s3 : F1 0 = .int .i64 (m) := (hF2 0).trans rfl
 have s4 : F1 9 = undef := (hF2 9).trans rfl
 clear hF2
 refine then_normal ?_
 refine wq_seq ?_
 by_cases d5 : (m) = (5)
 ·skip
  refine wq_region ?_
  refine wl_v (.int .i64 (m)) rfl rfl (y_mov rfl s3 ⟨rfl, rfl⟩) ?_
  refine wl_v (.bool true) rfl rfl (y_eqlI rfl rfl rfl (decide_eq_true d5) ⟨rfl, rfl⟩) ?_
  refine wl_v (.bool true) rfl rfl (y_mov rfl rfl ⟨rfl, rfl⟩) ?_
  refine wl_unless 2 false 5 rfl rfl rfl (Or.inl rfl) rfl ?_
  refine wl_unless 2 false 5 rfl rfl rfl (Or.inl rfl) rfl ?_
  refine wl_v (.bool true) rfl rfl (y_pickT rfl rfl rfl ⟨rfl, rfl⟩) ?_
  refine wl_v (.bool true) rfl rfl (y_asg rfl rfl ⟨rfl, rfl⟩) ?_
  refine wl_nil fun F6 hF7 => ?_
  have s8 := (hF7 9).trans s4
  have s9 : F6 2 = .bool true := (hF7 2).trans rfl
  clear hF7
  refine then_normal ?_
  refine wq_ret ?_
  exact end_tmp (v := .bool true) s8 rfl rfl s9 ⟨(retB (by unfold nextB; first | (rw [decide_eq_true (p := m = 5) (by assumption)]; rfl) | (rw [decide_eq_false (p := m = 5) (by assumption)]; rfl) | (simp; omega))), K0⟩
 ·skip
  refine wq_region ?_
  refine wl_v (.int .i64 (m)) rfl rfl (y_mov rfl s3 ⟨rfl, rfl⟩) ?_
  refine wl_v (.bool false) rfl rfl (y_eqlI rfl rfl rfl (decide_eq_false d5) ⟨rfl, rfl⟩) ?_
  refine wl_v (.bool false) rfl rfl (y_mov rfl rfl ⟨rfl, rfl⟩) ?_
  refine wl_vw (.int .i64 (m)) 2 false 5 rfl rfl rfl rfl rfl (y_mov rfl s3 ⟨rfl, rfl⟩) ?_
  refine wl_vw (.bool (decide ((m) = (6)))) 2 false 5 rfl rfl rfl rfl rfl (y_eqlI rfl rfl rfl rfl ⟨rfl, rfl⟩) ?_
  refine wl_v (.bool (decide ((m) = (6)))) rfl rfl (y_pickF rfl rfl rfl ⟨rfl, rfl⟩) ?_
  refine wl_v (.bool (decide ((m) = (6)))) rfl rfl (y_asg rfl rfl ⟨rfl, rfl⟩) ?_
  refine wl_nil fun F10 hF11 => ?_
  have s12 := (hF11 9).trans s4
  have s13 : F10 2 = .bool (decide ((m) = (6))) := (hF11 2).trans rfl
  clear hF11
  refine then_normal ?_
  refine wq_ret ?_
  exact end_tmp (v := .bool (decide ((m) = (6)))) s12 rfl rfl s13 ⟨(retB (by unfold nextB; first | (rw [decide_eq_true (p := m = 5) (by assumption)]; rfl) | (rw [decide_eq_false (p := m = 5) (by assumption)]; rfl) | (simp; omega))), K0⟩
set_option maxHeartbeats 4000000 in
set_option maxRecDepth 100000 in
theorem bref_most (k : Int) (w0 : World) :
  Calls Tryd.prog 46 #[.int .i64 (k)] w0 fun e w' => e = .returned (.int .i64 (mostK k)) ∧ Kept (fun _ => False) w0 w' := by
 refine calls_wq (args := [.int .i64 (k)]) 10 Tryd.func46 rfl rfl (Nat.le_of_ble_eq_true rfl) ?_
 have K0 := Kept.refl (fun _ => False) w0
 refine wq_seq ?_
 refine wq_region ?_
 refine wl_v (.int .i64 (0)) rfl rfl (y_asg rfl rfl ⟨rfl, rfl⟩) ?_
 refine wl_nil fun F1 hF2 => ?_
 have s3 : F1 0 = .int .i64 (k) := (hF2 0).trans rfl
 have s4 : F1 10 = undef := (hF2 10).trans rfl
 clear hF2
 refine then_normal ?_
 refine wq_seq ?_
 refine wq_seq ?_
 refine wq_region ?_
 refine wl_v (.int .i64 (k)) rfl rfl (y_mov rfl s3 ⟨rfl, rfl⟩) ?_
 refine wl_nil fun F5 hF6 => ?_
 have s7 := (hF6 10).trans s4
 have s8 : F5 3 = .int .i64 (k) := (hF6 3).trans rfl
 clear hF6
 refine then_normal ?_
 refine wq_block ?_
 refine wq_seq ?_
 refine wq_region ?_
 refine wl_v (.bool (decide ((k) = (0)))) rfl rfl (y_eqlI rfl s8 rfl rfl ⟨rfl, rfl⟩) ?_
 refine wl_v (.bool (decide ((k) = (0)))) rfl rfl (y_asg rfl rfl ⟨rfl, rfl⟩) ?_
 refine wl_nil fun F9 hF10 => ?_
 have s11 := (hF10 10).trans s7
 have s12 := (hF10 3).trans s8
 have s13 : F9 4 = .bool (decide ((k) = (0))) := (hF10 4).trans rfl
 clear hF10
 refine then_normal ?_
 refine wq_cond s13 (fun c14 => ?_) (fun c14 => ?_)
 ·replace c14 := of_decide_eq_true c14
  refine wq_seq ?_
  have hm : mostK k = 3 := by unfold mostK; rw [if_pos (by omega)]
  refine wq_region ?_
  refine wl_v (.int .i64 (3)) rfl rfl (y_asg rfl rfl ⟨rfl, rfl⟩) ?_
  refine wl_nil fun F15 hF16 => ?_
  have s17 := (hF16 10).trans s11
  have s18 : F15 2 = .int .i64 (3) := (hF16 2).trans rfl
  clear hF16
  refine then_normal ?_
  refine wq_ret ?_
  refine in_ret ?_
  refine then_ret ?_
  exact end_tmp (v := .int .i64 (3)) s17 rfl rfl s18 ⟨(by rw [hm]), K0⟩
 ·replace c14 := of_decide_eq_false c14
  refine wq_seq ?_
  refine wq_region ?_
  refine wl_v (.bool (decide ((k) = (1)))) rfl rfl (y_eqlI rfl s12 rfl rfl ⟨rfl, rfl⟩) ?_
  refine wl_v (.bool (decide ((k) = (1)))) rfl rfl (y_asg rfl rfl ⟨rfl, rfl⟩) ?_
  refine wl_nil fun F19 hF20 => ?_
  have s21 := (hF20 10).trans s11
  have s22 := (hF20 3).trans s12
  have s23 : F19 6 = .bool (decide ((k) = (1))) := (hF20 6).trans rfl
  clear hF20
  refine then_normal ?_
  refine wq_cond s23 (fun c24 => ?_) (fun c24 => ?_)
  ·replace c24 := of_decide_eq_true c24
   refine wq_seq ?_
   have hm : mostK k = 4 := by unfold mostK; rw [if_neg (by omega), if_pos (by omega)]
   refine wq_region ?_
   refine wl_v (.int .i64 (4)) rfl rfl (y_asg rfl rfl ⟨rfl, rfl⟩) ?_
   refine wl_nil fun F25 hF26 => ?_
   have s27 := (hF26 10).trans s21
   have s28 : F25 2 = .int .i64 (4) := (hF26 2).trans rfl
   clear hF26
   refine then_normal ?_
   refine wq_ret ?_
   refine in_ret ?_
   refine then_ret ?_
   exact end_tmp (v := .int .i64 (4)) s27 rfl rfl s28 ⟨(by rw [hm]), K0⟩
  ·replace c24 := of_decide_eq_false c24
   refine wq_seq ?_
   refine wq_region ?_
   refine wl_v (.bool (decide ((k) = (2)))) rfl rfl (y_eqlI rfl s22 rfl rfl ⟨rfl, rfl⟩) ?_
   refine wl_v (.bool (decide ((k) = (2)))) rfl rfl (y_asg rfl rfl ⟨rfl, rfl⟩) ?_
   refine wl_nil fun F29 hF30 => ?_
   have s31 := (hF30 10).trans s21
   have s32 : F29 8 = .bool (decide ((k) = (2))) := (hF30 8).trans rfl
   clear hF30
   refine then_normal ?_
   refine wq_cond s32 (fun c33 => ?_) (fun c33 => ?_)
   ·replace c33 := of_decide_eq_true c33
    refine wq_seq ?_
    have hm : mostK k = 6 := by unfold mostK; rw [if_neg (by omega), if_neg (by omega), if_pos (by omega)]
    refine wq_region ?_
    refine wl_v (.int .i64 (6)) rfl rfl (y_asg rfl rfl ⟨rfl, rfl⟩) ?_
    refine wl_nil fun F34 hF35 => ?_
    have s36 := (hF35 10).trans s31
    have s37 : F34 2 = .int .i64 (6) := (hF35 2).trans rfl
    clear hF35
    refine then_normal ?_
    refine wq_ret ?_
    refine in_ret ?_
    refine then_ret ?_
    exact end_tmp (v := .int .i64 (6)) s36 rfl rfl s37 ⟨(by rw [hm]), K0⟩
   ·replace c33 := of_decide_eq_false c33
    refine wq_skip ?_
    refine in_normal ?_
    refine then_normal ?_
    refine wq_seq ?_
    have hm : mostK k = -1 := by unfold mostK; rw [if_neg (by omega), if_neg (by omega), if_neg (by omega)]
    refine wq_region ?_
    refine wl_v (.int .i64 (-1)) rfl rfl (y_asg rfl rfl ⟨rfl, rfl⟩) ?_
    refine wl_nil fun F38 hF39 => ?_
    have s40 := (hF39 10).trans s31
    have s41 : F38 2 = .int .i64 (-1) := (hF39 2).trans rfl
    clear hF39
    refine then_normal ?_
    refine wq_ret ?_
    exact end_tmp (v := .int .i64 (-1)) s40 rfl rfl s41 ⟨(by rw [hm]), K0⟩
theorem badM_in {k : Int} {c : Ch} (h1 : 0 ≤ c.m) (h2 : c.m ≤ mostK k) : badM k c ↔ (pastB c.m = false ∧ sameVec c.px c.py 0 0 = false) ∨ (nextB c.m = false ∧ sameVec c.nx c.ny 0 0 = false) := by
  unfold badM
  constructor
  · rintro (h | h | h | h)
    · omega
    · omega
    · exact .inl h
    · exact .inr h
  · rintro (h | h)
    · exact .inr (.inr (.inl h))
    · exact .inr (.inr (.inr h))
theorem badM_at {k : Int} {c : Ch} {q : Prop} (h : 0 ≤ c.m ∧ c.m ≤ mostK k) (e : q ↔ ((pastB c.m = false ∧ sameVec c.px c.py 0 0 = false) ∨ (nextB c.m = false ∧ sameVec c.nx c.ny 0 0 = false))) : q ↔ badM k c := e.trans (badM_in h.1 h.2).symm
theorem badM_off {k : Int} {c : Ch} (h : ¬ (0 ≤ c.m ∧ c.m ≤ mostK k)) : badM k c := by unfold badM; omega
set_option maxHeartbeats 4000000 in
set_option maxRecDepth 100000 in
theorem bref_check (k : Int) (c : Ch) (w0 : World) :
  Calls Tryd.prog 18 #[.int .i64 (k), .agg (chW (c)).toArray] w0 fun e w' => e = .returned (.int .i64 (chE k c)) ∧ Kept (fun _ => False) w0 w' := by
 refine calls_wq (args := [.int .i64 (k), .agg (chW (c)).toArray]) 70 Tryd.func18 rfl rfl (Nat.le_of_ble_eq_true rfl) ?_
 have K0 := Kept.refl (fun _ => False) w0
 refine wq_seq ?_
 refine wq_region ?_
 refine wl_box_stc (vs := (chW (c))) rfl rfl rfl rfl fun p1 w2 B4 g5 k3 => ?_
 have K7 := K0.trans k3 (fun _ _ x => x.elim)
 refine wl_v (.int .i64 (0)) rfl rfl (y_asg rfl rfl ⟨rfl, rfl⟩) ?_
 refine wl_nil fun F8 hF9 => ?_
 have s10 : F8 0 = .int .i64 (k) := (hF9 0).trans rfl
 have s11 : F8 70 = undef := (hF9 70).trans rfl
 have s12 : F8 3 = .pointer (some ⟨p1, 0, none⟩) := (hF9 3).trans rfl
 clear hF9
 refine then_normal ?_
 refine wq_seq ?_
 refine wq_region ?_
 refine wl_v (.pointer (some ⟨p1, 0, none⟩)) rfl rfl (y_fieldR (n := 1) rfl s12 Tryd.underlying27 rfl (by kernel_rfl) (by decide) rfl ⟨rfl, rfl⟩) ?_
 refine wl_v (.int .i64 ((c).m)) rfl rfl (y_ld_stc rfl rfl Tryd.underlying3 B4 rfl rfl ⟨rfl, rfl⟩) ?_
 refine wl_call (R := fun v_ w_ => v_ = .bool (pastB ((c).m)) ∧ Kept (fun _ => False) w2 w_) rfl rfl (y_cs rfl rfl rfl (fun _ _ => by kernel_rfl) (ev_func _) (vsC rfl vsN) (bref_past ((c).m)  _   ) (fun e_ w_ h_ => ⟨_, h_.1, rfl, h_.2⟩)) ?_
 rintro _ w13 ⟨rfl, k14⟩
 have B15 := B4.all k14 id
 have K16 := K7.trans k14 (fun _ _ x => x.elim)
 refine wl_v (.bool (pastB ((c).m))) rfl rfl (y_asg rfl rfl ⟨rfl, rfl⟩) ?_
 refine wl_nil fun F17 hF18 => ?_
 have s19 := (hF18 0).trans s10
 have s20 := (hF18 70).trans s11
 have s21 := (hF18 3).trans s12
 have s22 : F17 5 = .bool (pastB ((c).m)) := (hF18 5).trans rfl
 clear hF18
 refine then_normal ?_
 refine wq_seq ?_
 refine wq_region ?_
 refine wl_v (.pointer (some ⟨p1, 0, none⟩)) rfl rfl (y_fieldR (n := 1) rfl s21 Tryd.underlying27 rfl (by kernel_rfl) (by decide) rfl ⟨rfl, rfl⟩) ?_
 refine wl_v (.int .i64 ((c).m)) rfl rfl (y_ld_stc rfl rfl Tryd.underlying3 B15 rfl rfl ⟨rfl, rfl⟩) ?_
 refine wl_call (R := fun v_ w_ => v_ = .bool (nextB ((c).m)) ∧ Kept (fun _ => False) w13 w_) rfl rfl (y_cs rfl rfl rfl (fun _ _ => by kernel_rfl) (ev_func _) (vsC rfl vsN) (bref_next ((c).m)  _   ) (fun e_ w_ h_ => ⟨_, h_.1, rfl, h_.2⟩)) ?_
 rintro _ w23 ⟨rfl, k24⟩
 have B25 := B15.all k24 id
 have K26 := K16.trans k24 (fun _ _ x => x.elim)
 refine wl_v (.bool (nextB ((c).m))) rfl rfl (y_asg rfl rfl ⟨rfl, rfl⟩) ?_
 refine wl_nil fun F27 hF28 => ?_
 have s29 := (hF28 0).trans s19
 have s30 := (hF28 70).trans s20
 have s31 := (hF28 3).trans s21
 have s32 := (hF28 5).trans s22
 have s33 : F27 6 = .bool (nextB ((c).m)) := (hF28 6).trans rfl
 clear hF28
 refine then_normal ?_
 refine wq_seq ?_
 refine wq_seq ?_
 refine wq_cut (fun FF ww => FF 43 = .bool (decide (badM k c)) ∧ FF 3 = .pointer (some ⟨p1, 0, none⟩) ∧ FF 70 = undef ∧ Kept (fun _ => False) w0 ww ∧ Stc ww p1 27 (chW (c))) ?_ ?_
 ·skip
  by_cases d34 : ((c).m) < (0)
  ·skip
   refine wq_said [some 14, some 15, some 16, some 17, some 18, some 19, some 20, some 21, some 22, some 23, some 24, some 25, some 26, some 27, some 28, some 29, some 30, some 31, some 32, some 33, some 34, some 35, some 36, some 37, some 38, some 39, some 40, some 41, some 42, some 43] [Pd.eq (.pointer (some ⟨p1, 0, none⟩)), Pd.eq (.int .i64 ((c).m)), Pd.eq (.bool true), Pd.eq (.bool true), Pd.eq undef, Pd.eq undef, Pd.eq undef, Pd.eq undef, Pd.eq undef, Pd.eq (.bool true), Pd.eq (.bool true), Pd.eq undef, Pd.eq undef, Pd.eq undef, Pd.eq undef, Pd.eq undef, Pd.eq undef, Pd.eq undef, Pd.eq undef, Pd.eq (.bool true), Pd.eq (.bool true), Pd.eq undef, Pd.eq undef, Pd.eq undef, Pd.eq undef, Pd.eq undef, Pd.eq undef, Pd.eq undef, Pd.eq undef, Pd.eq (.bool true)] (by kernel_rfl) (by kernel_rfl) ?_ ?_
   ·refine stepsF_cons ?_ ?_
    ·refine StepF.one rfl fun F_ w_ hR hout hD => ?_
     exact (y_fieldR (n := 1) rfl ((hout 3 rfl (by decide)).trans s31) Tryd.underlying27 rfl (by kernel_rfl) (by decide) rfl ⟨rfl, Kept.refl _ _⟩)
    refine stepsF_cons ?_ ?_
    ·refine StepF.one rfl fun F_ w_ hR hout hD => ?_
     have g14 : F_ 14 = .pointer (some ⟨p1, 0, none⟩) := (hD.get 0 rfl rfl rfl)
     exact (y_ld_stc rfl g14 Tryd.underlying3 (B25.all hR id) rfl rfl ⟨rfl, Kept.refl _ _⟩)
    refine stepsF_cons ?_ ?_
    ·refine StepF.one rfl fun F_ w_ hR hout hD => ?_
     have g15 : F_ 15 = .int .i64 ((c).m) := (hD.get 0 rfl rfl rfl)
     exact (y_lss rfl g15 rfl (decide_eq_true d34) ⟨rfl, Kept.refl _ _⟩)
    refine stepsF_cons ?_ ?_
    ·refine StepF.one rfl fun F_ w_ hR hout hD => ?_
     have g16 : F_ 16 = .bool true := (hD.get 0 rfl rfl rfl)
     exact (y_mov rfl g16 ⟨rfl, Kept.refl _ _⟩)
    refine stepsF_cons ?_ ?_
    ·refine StepF.unless 3 false 17 rfl rfl fun F_ w_ hR hout hD => ?_
     have g17 : F_ 17 = .bool true := (hD.get 0 rfl rfl rfl)
     exact ⟨Or.inl g17, rfl⟩
    refine stepsF_cons ?_ ?_
    ·refine StepF.unless 3 false 17 rfl rfl fun F_ w_ hR hout hD => ?_
     have g17 : F_ 17 = .bool true := (hD.get 1 rfl rfl rfl)
     exact ⟨Or.inl g17, rfl⟩
    refine stepsF_cons ?_ ?_
    ·refine StepF.unless 3 false 17 rfl rfl fun F_ w_ hR hout hD => ?_
     have g17 : F_ 17 = .bool true := (hD.get 0 rfl rfl rfl)
     exact ⟨Or.inl g17, rfl⟩
    refine stepsF_cons ?_ ?_
    ·refine StepF.unless 3 false 17 rfl rfl fun F_ w_ hR hout hD => ?_
     have g17 : F_ 17 = .bool true := (hD.get 1 rfl rfl rfl)
     exact ⟨Or.inl g17, rfl⟩
    refine stepsF_cons ?_ ?_
    ·refine StepF.unless 3 false 17 rfl rfl fun F_ w_ hR hout hD => ?_
     have g17 : F_ 17 = .bool true := (hD.get 2 rfl rfl rfl)
     exact ⟨Or.inl g17, rfl⟩
    refine stepsF_cons ?_ ?_
    ·refine StepF.one rfl fun F_ w_ hR hout hD => ?_
     have g17 : F_ 17 = .bool true := (hD.get 0 rfl rfl rfl)
     exact (y_pickT rfl g17 rfl ⟨rfl, Kept.refl _ _⟩)
    refine stepsF_cons ?_ ?_
    ·refine StepF.one rfl fun F_ w_ hR hout hD => ?_
     have g23 : F_ 23 = .bool true := (hD.get 0 rfl rfl rfl)
     exact (y_mov rfl g23 ⟨rfl, Kept.refl _ _⟩)
    refine stepsF_cons ?_ ?_
    ·refine StepF.unless 10 false 24 rfl rfl fun F_ w_ hR hout hD => ?_
     have g24 : F_ 24 = .bool true := (hD.get 0 rfl rfl rfl)
     exact ⟨Or.inl g24, rfl⟩
    refine stepsF_cons ?_ ?_
    ·refine StepF.unless 10 false 24 rfl rfl fun F_ w_ hR hout hD => ?_
     have g24 : F_ 24 = .bool true := (hD.get 1 rfl rfl rfl)
     exact ⟨Or.inl g24, rfl⟩
    refine stepsF_cons ?_ ?_
    ·refine StepF.unless 10 false 24 rfl rfl fun F_ w_ hR hout hD => ?_
     have g24 : F_ 24 = .bool true := (hD.get 1 rfl rfl rfl)
     exact ⟨Or.inl g24, rfl⟩
    refine stepsF_cons ?_ ?_
    ·refine StepF.unless 13 true 27 rfl rfl fun F_ w_ hR hout hD => ?_
     have g27 : F_ 27 = undef := (hD.get 0 rfl rfl rfl)
     exact ⟨Or.inr g27, rfl⟩
    refine stepsF_cons ?_ ?_
    ·refine StepF.unless 13 true 27 rfl rfl fun F_ w_ hR hout hD => ?_
     have g27 : F_ 27 = undef := (hD.get 1 rfl rfl rfl)
     exact ⟨Or.inr g27, rfl⟩
    refine stepsF_cons ?_ ?_
    ·refine StepF.unless 13 true 27 rfl rfl fun F_ w_ hR hout hD => ?_
     have g27 : F_ 27 = undef := (hD.get 0 rfl rfl rfl)
     exact ⟨Or.inr g27, rfl⟩
    refine stepsF_cons ?_ ?_
    ·refine StepF.unless 13 true 27 rfl rfl fun F_ w_ hR hout hD => ?_
     have g27 : F_ 27 = undef := (hD.get 2 rfl rfl rfl)
     exact ⟨Or.inr g27, rfl⟩
    refine stepsF_cons ?_ ?_
    ·refine StepF.unless 10 false 24 rfl rfl fun F_ w_ hR hout hD => ?_
     have g24 : F_ 24 = .bool true := (hD.get 2 rfl rfl rfl)
     exact ⟨Or.inl g24, rfl⟩
    refine stepsF_cons ?_ ?_
    ·refine StepF.one rfl fun F_ w_ hR hout hD => ?_
     have g24 : F_ 24 = .bool true := (hD.get 0 rfl rfl rfl)
     exact (y_pickT rfl g24 rfl ⟨rfl, Kept.refl _ _⟩)
    refine stepsF_cons ?_ ?_
    ·refine StepF.one rfl fun F_ w_ hR hout hD => ?_
     have g33 : F_ 33 = .bool true := (hD.get 0 rfl rfl rfl)
     exact (y_mov rfl g33 ⟨rfl, Kept.refl _ _⟩)
    refine stepsF_cons ?_ ?_
    ·refine StepF.unless 20 false 34 rfl rfl fun F_ w_ hR hout hD => ?_
     have g34 : F_ 34 = .bool true := (hD.get 0 rfl rfl rfl)
     exact ⟨Or.inl g34, rfl⟩
    refine stepsF_cons ?_ ?_
    ·refine StepF.unless 20 false 34 rfl rfl fun F_ w_ hR hout hD => ?_
     have g34 : F_ 34 = .bool true := (hD.get 1 rfl rfl rfl)
     exact ⟨Or.inl g34, rfl⟩
    refine stepsF_cons ?_ ?_
    ·refine StepF.unless 20 false 34 rfl rfl fun F_ w_ hR hout hD => ?_
     have g34 : F_ 34 = .bool true := (hD.get 1 rfl rfl rfl)
     exact ⟨Or.inl g34, rfl⟩
    refine stepsF_cons ?_ ?_
    ·refine StepF.unless 23 true 37 rfl rfl fun F_ w_ hR hout hD => ?_
     have g37 : F_ 37 = undef := (hD.get 0 rfl rfl rfl)
     exact ⟨Or.inr g37, rfl⟩
    refine stepsF_cons ?_ ?_
    ·refine StepF.unless 23 true 37 rfl rfl fun F_ w_ hR hout hD => ?_
     have g37 : F_ 37 = undef := (hD.get 1 rfl rfl rfl)
     exact ⟨Or.inr g37, rfl⟩
    refine stepsF_cons ?_ ?_
    ·refine StepF.unless 23 true 37 rfl rfl fun F_ w_ hR hout hD => ?_
     have g37 : F_ 37 = undef := (hD.get 0 rfl rfl rfl)
     exact ⟨Or.inr g37, rfl⟩
    refine stepsF_cons ?_ ?_
    ·refine StepF.unless 23 true 37 rfl rfl fun F_ w_ hR hout hD => ?_
     have g37 : F_ 37 = undef := (hD.get 2 rfl rfl rfl)
     exact ⟨Or.inr g37, rfl⟩
    refine stepsF_cons ?_ ?_
    ·refine StepF.unless 20 false 34 rfl rfl fun F_ w_ hR hout hD => ?_
     have g34 : F_ 34 = .bool true := (hD.get 2 rfl rfl rfl)
     exact ⟨Or.inl g34, rfl⟩
    refine stepsF_cons ?_ ?_
    ·refine StepF.one rfl fun F_ w_ hR hout hD => ?_
     have g34 : F_ 34 = .bool true := (hD.get 0 rfl rfl rfl)
     exact (y_pickT rfl g34 rfl ⟨rfl, Kept.refl _ _⟩)
    exact stepsF_nil
   intro v35 F36 w37 k38 G39 hF40
   have B42 := B25.all k38 id
   have K43 := K26.trans k38 (fun _ _ x => x.elim)
   have s44 := (hF40 70).trans s30
   have s45 := (hF40 3).trans s31
   have s46 : F36 43 = .bool true := (hF40 43).trans (G39 29 (by decide))
   clear G39 hF40
   exact ⟨s46.trans (congrArg Value.bool (show (true) = decide (badM k c) from (by rw [Bool.eq_iff_iff, decide_eq_true_iff]; by_cases hq1 : 0 ≤ c.m ∧ c.m ≤ mostK k; exact badM_at hq1 (by first | (exfalso; omega) | simp_all); exact iff_of_true (by first | rfl | (exfalso; omega)) (badM_off hq1)))), s45, s44, K43, B42⟩
  ·skip
   by_cases d47 : (mostK (k)) < ((c).m)
   ·skip
    refine wq_said [some 14, some 15, some 16, some 17, some 18, some 19, some 20, some 21, some 22, some 23, some 24, some 25, some 26, some 27, some 28, some 29, some 30, some 31, some 32, some 33, some 34, some 35, some 36, some 37, some 38, some 39, some 40, some 41, some 42, some 43] [Pd.eq (.pointer (some ⟨p1, 0, none⟩)), Pd.eq (.int .i64 ((c).m)), Pd.eq (.bool false), Pd.eq (.bool false), Pd.eq (.pointer (some ⟨p1, 0, none⟩)), Pd.eq (.int .i64 ((c).m)), Pd.eq (.int .i64 (k)), Pd.eq (.int .i64 (mostK (k))), Pd.eq (.bool true), Pd.eq (.bool true), Pd.eq (.bool true), Pd.eq undef, Pd.eq undef, Pd.eq undef, Pd.eq undef, Pd.eq undef, Pd.eq undef, Pd.eq undef, Pd.eq undef, Pd.eq (.bool true), Pd.eq (.bool true), Pd.eq undef, Pd.eq undef, Pd.eq undef, Pd.eq undef, Pd.eq undef, Pd.eq undef, Pd.eq undef, Pd.eq undef, Pd.eq (.bool true)] (by kernel_rfl) (by kernel_rfl) ?_ ?_
    ·refine stepsF_cons ?_ ?_
     ·refine StepF.one rfl fun F_ w_ hR hout hD => ?_
      exact (y_fieldR (n := 1) rfl ((hout 3 rfl (by decide)).trans s31) Tryd.underlying27 rfl (by kernel_rfl) (by decide) rfl ⟨rfl, Kept.refl _ _⟩)
     refine stepsF_cons ?_ ?_
     ·refine StepF.one rfl fun F_ w_ hR hout hD => ?_
      have g14 : F_ 14 = .pointer (some ⟨p1, 0, none⟩) := (hD.get 0 rfl rfl rfl)
      exact (y_ld_stc rfl g14 Tryd.underlying3 (B25.all hR id) rfl rfl ⟨rfl, Kept.refl _ _⟩)
     refine stepsF_cons ?_ ?_
     ·refine StepF.one rfl fun F_ w_ hR hout hD => ?_
      have g15 : F_ 15 = .int .i64 ((c).m) := (hD.get 0 rfl rfl rfl)
      exact (y_lss rfl g15 rfl (decide_eq_false d34) ⟨rfl, Kept.refl _ _⟩)
     refine stepsF_cons ?_ ?_
     ·refine StepF.one rfl fun F_ w_ hR hout hD => ?_
      have g16 : F_ 16 = .bool false := (hD.get 0 rfl rfl rfl)
      exact (y_mov rfl g16 ⟨rfl, Kept.refl _ _⟩)
     refine stepsF_cons ?_ ?_
     ·refine StepF.when 3 false 17 rfl rfl fun F_ w_ hR hout hD => ?_
      have g17 : F_ 17 = .bool false := (hD.get 0 rfl rfl rfl)
      exact ⟨g17, (y_fieldR (n := 1) rfl ((hout 3 rfl (by decide)).trans s31) Tryd.underlying27 rfl (by kernel_rfl) (by decide) rfl ⟨rfl, Kept.refl _ _⟩)⟩
     refine stepsF_cons ?_ ?_
     ·refine StepF.when 3 false 17 rfl rfl fun F_ w_ hR hout hD => ?_
      have g17 : F_ 17 = .bool false := (hD.get 1 rfl rfl rfl)
      have g18 : F_ 18 = .pointer (some ⟨p1, 0, none⟩) := (hD.get 0 rfl rfl rfl)
      exact ⟨g17, (y_ld_stc rfl g18 Tryd.underlying3 (B25.all hR id) rfl rfl ⟨rfl, Kept.refl _ _⟩)⟩
     refine stepsF_cons ?_ ?_
     ·refine StepF.when 3 false 17 rfl rfl fun F_ w_ hR hout hD => ?_
      have g17 : F_ 17 = .bool false := (hD.get 0 rfl rfl rfl)
      exact ⟨g17, (y_mov rfl ((hout 0 rfl (by decide)).trans s29) ⟨rfl, Kept.refl _ _⟩)⟩
     refine stepsF_cons ?_ ?_
     ·refine StepF.when 3 false 17 rfl rfl fun F_ w_ hR hout hD => ?_
      have g17 : F_ 17 = .bool false := (hD.get 1 rfl rfl rfl)
      have g20 : F_ 20 = .int .i64 (k) := (hD.get 0 rfl rfl rfl)
      exact ⟨g17, (y_cs rfl rfl rfl (fun _ _ => by kernel_rfl) (ev_func _) (vsC g20 vsN) (bref_most (k)  _   ) (fun e_ w_ h_ => ⟨_, h_.1, rfl, h_.2⟩))⟩
     refine stepsF_cons ?_ ?_
     ·refine StepF.when 3 false 17 rfl rfl fun F_ w_ hR hout hD => ?_
      have g17 : F_ 17 = .bool false := (hD.get 2 rfl rfl rfl)
      have g19 : F_ 19 = .int .i64 ((c).m) := (hD.get 0 rfl rfl rfl)
      have g21 : F_ 21 = .int .i64 (mostK (k)) := (hD.get 1 rfl rfl rfl)
      exact ⟨g17, (y_gtr rfl g19 g21 (decide_eq_true d47) ⟨rfl, Kept.refl _ _⟩)⟩
     refine stepsF_cons ?_ ?_
     ·refine StepF.one rfl fun F_ w_ hR hout hD => ?_
      have g17 : F_ 17 = .bool false := (hD.get 0 rfl rfl rfl)
      have g22 : F_ 22 = .bool true := (hD.get 1 rfl rfl rfl)
      exact (y_pickF rfl g17 g22 ⟨rfl, Kept.refl _ _⟩)
     refine stepsF_cons ?_ ?_
     ·refine StepF.one rfl fun F_ w_ hR hout hD => ?_
      have g23 : F_ 23 = .bool true := (hD.get 0 rfl rfl rfl)
      exact (y_mov rfl g23 ⟨rfl, Kept.refl _ _⟩)
     refine stepsF_cons ?_ ?_
     ·refine StepF.unless 10 false 24 rfl rfl fun F_ w_ hR hout hD => ?_
      have g24 : F_ 24 = .bool true := (hD.get 0 rfl rfl rfl)
      exact ⟨Or.inl g24, rfl⟩
     refine stepsF_cons ?_ ?_
     ·refine StepF.unless 10 false 24 rfl rfl fun F_ w_ hR hout hD => ?_
      have g24 : F_ 24 = .bool true := (hD.get 1 rfl rfl rfl)
      exact ⟨Or.inl g24, rfl⟩
     refine stepsF_cons ?_ ?_
     ·refine StepF.unless 10 false 24 rfl rfl fun F_ w_ hR hout hD => ?_
      have g24 : F_ 24 = .bool true := (hD.get 1 rfl rfl rfl)
      exact ⟨Or.inl g24, rfl⟩
     refine stepsF_cons ?_ ?_
     ·refine StepF.unless 13 true 27 rfl rfl fun F_ w_ hR hout hD => ?_
      have g27 : F_ 27 = undef := (hD.get 0 rfl rfl rfl)
      exact ⟨Or.inr g27, rfl⟩
     refine stepsF_cons ?_ ?_
     ·refine StepF.unless 13 true 27 rfl rfl fun F_ w_ hR hout hD => ?_
      have g27 : F_ 27 = undef := (hD.get 1 rfl rfl rfl)
      exact ⟨Or.inr g27, rfl⟩
     refine stepsF_cons ?_ ?_
     ·refine StepF.unless 13 true 27 rfl rfl fun F_ w_ hR hout hD => ?_
      have g27 : F_ 27 = undef := (hD.get 0 rfl rfl rfl)
      exact ⟨Or.inr g27, rfl⟩
     refine stepsF_cons ?_ ?_
     ·refine StepF.unless 13 true 27 rfl rfl fun F_ w_ hR hout hD => ?_
      have g27 : F_ 27 = undef := (hD.get 2 rfl rfl rfl)
      exact ⟨Or.inr g27, rfl⟩
     refine stepsF_cons ?_ ?_
     ·refine StepF.unless 10 false 24 rfl rfl fun F_ w_ hR hout hD => ?_
      have g24 : F_ 24 = .bool true := (hD.get 2 rfl rfl rfl)
      exact ⟨Or.inl g24, rfl⟩
     refine stepsF_cons ?_ ?_
     ·refine StepF.one rfl fun F_ w_ hR hout hD => ?_
      have g24 : F_ 24 = .bool true := (hD.get 0 rfl rfl rfl)
      exact (y_pickT rfl g24 rfl ⟨rfl, Kept.refl _ _⟩)
     refine stepsF_cons ?_ ?_
     ·refine StepF.one rfl fun F_ w_ hR hout hD => ?_
      have g33 : F_ 33 = .bool true := (hD.get 0 rfl rfl rfl)
      exact (y_mov rfl g33 ⟨rfl, Kept.refl _ _⟩)
     refine stepsF_cons ?_ ?_
     ·refine StepF.unless 20 false 34 rfl rfl fun F_ w_ hR hout hD => ?_
      have g34 : F_ 34 = .bool true := (hD.get 0 rfl rfl rfl)
      exact ⟨Or.inl g34, rfl⟩
     refine stepsF_cons ?_ ?_
     ·refine StepF.unless 20 false 34 rfl rfl fun F_ w_ hR hout hD => ?_
      have g34 : F_ 34 = .bool true := (hD.get 1 rfl rfl rfl)
      exact ⟨Or.inl g34, rfl⟩
     refine stepsF_cons ?_ ?_
     ·refine StepF.unless 20 false 34 rfl rfl fun F_ w_ hR hout hD => ?_
      have g34 : F_ 34 = .bool true := (hD.get 1 rfl rfl rfl)
      exact ⟨Or.inl g34, rfl⟩
     refine stepsF_cons ?_ ?_
     ·refine StepF.unless 23 true 37 rfl rfl fun F_ w_ hR hout hD => ?_
      have g37 : F_ 37 = undef := (hD.get 0 rfl rfl rfl)
      exact ⟨Or.inr g37, rfl⟩
     refine stepsF_cons ?_ ?_
     ·refine StepF.unless 23 true 37 rfl rfl fun F_ w_ hR hout hD => ?_
      have g37 : F_ 37 = undef := (hD.get 1 rfl rfl rfl)
      exact ⟨Or.inr g37, rfl⟩
     refine stepsF_cons ?_ ?_
     ·refine StepF.unless 23 true 37 rfl rfl fun F_ w_ hR hout hD => ?_
      have g37 : F_ 37 = undef := (hD.get 0 rfl rfl rfl)
      exact ⟨Or.inr g37, rfl⟩
     refine stepsF_cons ?_ ?_
     ·refine StepF.unless 23 true 37 rfl rfl fun F_ w_ hR hout hD => ?_
      have g37 : F_ 37 = undef := (hD.get 2 rfl rfl rfl)
      exact ⟨Or.inr g37, rfl⟩
     refine stepsF_cons ?_ ?_
     ·refine StepF.unless 20 false 34 rfl rfl fun F_ w_ hR hout hD => ?_
      have g34 : F_ 34 = .bool true := (hD.get 2 rfl rfl rfl)
      exact ⟨Or.inl g34, rfl⟩
     refine stepsF_cons ?_ ?_
     ·refine StepF.one rfl fun F_ w_ hR hout hD => ?_
      have g34 : F_ 34 = .bool true := (hD.get 0 rfl rfl rfl)
      exact (y_pickT rfl g34 rfl ⟨rfl, Kept.refl _ _⟩)
     exact stepsF_nil
    intro v48 F49 w50 k51 G52 hF53
    have B55 := B25.all k51 id
    have K56 := K26.trans k51 (fun _ _ x => x.elim)
    have s57 := (hF53 70).trans s30
    have s58 := (hF53 3).trans s31
    have s59 : F49 43 = .bool true := (hF53 43).trans (G52 29 (by decide))
    clear G52 hF53
    exact ⟨s59.trans (congrArg Value.bool (show (true) = decide (badM k c) from (by rw [Bool.eq_iff_iff, decide_eq_true_iff]; by_cases hq1 : 0 ≤ c.m ∧ c.m ≤ mostK k; exact badM_at hq1 (by first | (exfalso; omega) | simp_all); exact iff_of_true (by first | rfl | (exfalso; omega)) (badM_off hq1)))), s58, s57, K56, B55⟩
   ·skip
    rcases Bool.eq_false_or_eq_true (pastB ((c).m)) with d60 | d60
    ·skip
     rcases Bool.eq_false_or_eq_true (nextB ((c).m)) with d61 | d61
     ·skip
      refine wq_said [some 14, some 15, some 16, some 17, some 18, some 19, some 20, some 21, some 22, some 23, some 24, some 25, some 26, some 27, some 28, some 29, some 30, some 31, some 32, some 33, some 34, some 35, some 36, some 37, some 38, some 39, some 40, some 41, some 42, some 43] [Pd.eq (.pointer (some ⟨p1, 0, none⟩)), Pd.eq (.int .i64 ((c).m)), Pd.eq (.bool false), Pd.eq (.bool false), Pd.eq (.pointer (some ⟨p1, 0, none⟩)), Pd.eq (.int .i64 ((c).m)), Pd.eq (.int .i64 (k)), Pd.eq (.int .i64 (mostK (k))), Pd.eq (.bool false), Pd.eq (.bool false), Pd.eq (.bool false), Pd.eq (.bool true), Pd.eq (.bool false), Pd.eq (.bool false), Pd.eq undef, Pd.eq undef, Pd.eq undef, Pd.eq undef, Pd.eq (.bool false), Pd.eq (.bool false), Pd.eq (.bool false), Pd.eq (.bool true), Pd.eq (.bool false), Pd.eq (.bool false), Pd.eq undef, Pd.eq undef, Pd.eq undef, Pd.eq undef, Pd.eq (.bool false), Pd.eq (.bool false)] (by kernel_rfl) (by kernel_rfl) ?_ ?_
      ·refine stepsF_cons ?_ ?_
       ·refine StepF.one rfl fun F_ w_ hR hout hD => ?_
        exact (y_fieldR (n := 1) rfl ((hout 3 rfl (by decide)).trans s31) Tryd.underlying27 rfl (by kernel_rfl) (by decide) rfl ⟨rfl, Kept.refl _ _⟩)
       refine stepsF_cons ?_ ?_
       ·refine StepF.one rfl fun F_ w_ hR hout hD => ?_
        have g14 : F_ 14 = .pointer (some ⟨p1, 0, none⟩) := (hD.get 0 rfl rfl rfl)
        exact (y_ld_stc rfl g14 Tryd.underlying3 (B25.all hR id) rfl rfl ⟨rfl, Kept.refl _ _⟩)
       refine stepsF_cons ?_ ?_
       ·refine StepF.one rfl fun F_ w_ hR hout hD => ?_
        have g15 : F_ 15 = .int .i64 ((c).m) := (hD.get 0 rfl rfl rfl)
        exact (y_lss rfl g15 rfl (decide_eq_false d34) ⟨rfl, Kept.refl _ _⟩)
       refine stepsF_cons ?_ ?_
       ·refine StepF.one rfl fun F_ w_ hR hout hD => ?_
        have g16 : F_ 16 = .bool false := (hD.get 0 rfl rfl rfl)
        exact (y_mov rfl g16 ⟨rfl, Kept.refl _ _⟩)
       refine stepsF_cons ?_ ?_
       ·refine StepF.when 3 false 17 rfl rfl fun F_ w_ hR hout hD => ?_
        have g17 : F_ 17 = .bool false := (hD.get 0 rfl rfl rfl)
        exact ⟨g17, (y_fieldR (n := 1) rfl ((hout 3 rfl (by decide)).trans s31) Tryd.underlying27 rfl (by kernel_rfl) (by decide) rfl ⟨rfl, Kept.refl _ _⟩)⟩
       refine stepsF_cons ?_ ?_
       ·refine StepF.when 3 false 17 rfl rfl fun F_ w_ hR hout hD => ?_
        have g17 : F_ 17 = .bool false := (hD.get 1 rfl rfl rfl)
        have g18 : F_ 18 = .pointer (some ⟨p1, 0, none⟩) := (hD.get 0 rfl rfl rfl)
        exact ⟨g17, (y_ld_stc rfl g18 Tryd.underlying3 (B25.all hR id) rfl rfl ⟨rfl, Kept.refl _ _⟩)⟩
       refine stepsF_cons ?_ ?_
       ·refine StepF.when 3 false 17 rfl rfl fun F_ w_ hR hout hD => ?_
        have g17 : F_ 17 = .bool false := (hD.get 0 rfl rfl rfl)
        exact ⟨g17, (y_mov rfl ((hout 0 rfl (by decide)).trans s29) ⟨rfl, Kept.refl _ _⟩)⟩
       refine stepsF_cons ?_ ?_
       ·refine StepF.when 3 false 17 rfl rfl fun F_ w_ hR hout hD => ?_
        have g17 : F_ 17 = .bool false := (hD.get 1 rfl rfl rfl)
        have g20 : F_ 20 = .int .i64 (k) := (hD.get 0 rfl rfl rfl)
        exact ⟨g17, (y_cs rfl rfl rfl (fun _ _ => by kernel_rfl) (ev_func _) (vsC g20 vsN) (bref_most (k)  _   ) (fun e_ w_ h_ => ⟨_, h_.1, rfl, h_.2⟩))⟩
       refine stepsF_cons ?_ ?_
       ·refine StepF.when 3 false 17 rfl rfl fun F_ w_ hR hout hD => ?_
        have g17 : F_ 17 = .bool false := (hD.get 2 rfl rfl rfl)
        have g19 : F_ 19 = .int .i64 ((c).m) := (hD.get 0 rfl rfl rfl)
        have g21 : F_ 21 = .int .i64 (mostK (k)) := (hD.get 1 rfl rfl rfl)
        exact ⟨g17, (y_gtr rfl g19 g21 (decide_eq_false d47) ⟨rfl, Kept.refl _ _⟩)⟩
       refine stepsF_cons ?_ ?_
       ·refine StepF.one rfl fun F_ w_ hR hout hD => ?_
        have g17 : F_ 17 = .bool false := (hD.get 0 rfl rfl rfl)
        have g22 : F_ 22 = .bool false := (hD.get 1 rfl rfl rfl)
        exact (y_pickF rfl g17 g22 ⟨rfl, Kept.refl _ _⟩)
       refine stepsF_cons ?_ ?_
       ·refine StepF.one rfl fun F_ w_ hR hout hD => ?_
        have g23 : F_ 23 = .bool false := (hD.get 0 rfl rfl rfl)
        exact (y_mov rfl g23 ⟨rfl, Kept.refl _ _⟩)
       refine stepsF_cons ?_ ?_
       ·refine StepF.when 10 false 24 rfl rfl fun F_ w_ hR hout hD => ?_
        have g24 : F_ 24 = .bool false := (hD.get 0 rfl rfl rfl)
        exact ⟨g24, (y_mov rfl ((hout 5 rfl (by decide)).trans (Eq.trans s32 (congrArg Value.bool (d60)))) ⟨rfl, Kept.refl _ _⟩)⟩
       refine stepsF_cons ?_ ?_
       ·refine StepF.when 10 false 24 rfl rfl fun F_ w_ hR hout hD => ?_
        have g24 : F_ 24 = .bool false := (hD.get 1 rfl rfl rfl)
        have g25 : F_ 25 = .bool true := (hD.get 0 rfl rfl rfl)
        exact ⟨g24, (y_not rfl g25 rfl ⟨rfl, Kept.refl _ _⟩)⟩
       refine stepsF_cons ?_ ?_
       ·refine StepF.when 10 false 24 rfl rfl fun F_ w_ hR hout hD => ?_
        have g24 : F_ 24 = .bool false := (hD.get 1 rfl rfl rfl)
        have g26 : F_ 26 = .bool false := (hD.get 0 rfl rfl rfl)
        exact ⟨g24, (y_mov rfl g26 ⟨rfl, Kept.refl _ _⟩)⟩
       refine stepsF_cons ?_ ?_
       ·refine StepF.unless 13 true 27 rfl rfl fun F_ w_ hR hout hD => ?_
        have g27 : F_ 27 = .bool false := (hD.get 0 rfl rfl rfl)
        exact ⟨Or.inl g27, rfl⟩
       refine stepsF_cons ?_ ?_
       ·refine StepF.unless 13 true 27 rfl rfl fun F_ w_ hR hout hD => ?_
        have g27 : F_ 27 = .bool false := (hD.get 1 rfl rfl rfl)
        exact ⟨Or.inl g27, rfl⟩
       refine stepsF_cons ?_ ?_
       ·refine StepF.unless 13 true 27 rfl rfl fun F_ w_ hR hout hD => ?_
        have g27 : F_ 27 = .bool false := (hD.get 0 rfl rfl rfl)
        exact ⟨Or.inl g27, rfl⟩
       refine stepsF_cons ?_ ?_
       ·refine StepF.unless 13 true 27 rfl rfl fun F_ w_ hR hout hD => ?_
        have g27 : F_ 27 = .bool false := (hD.get 2 rfl rfl rfl)
        exact ⟨Or.inl g27, rfl⟩
       refine stepsF_cons ?_ ?_
       ·refine StepF.when 10 false 24 rfl rfl fun F_ w_ hR hout hD => ?_
        have g24 : F_ 24 = .bool false := (hD.get 2 rfl rfl rfl)
        have g27 : F_ 27 = .bool false := (hD.get 0 rfl rfl rfl)
        exact ⟨g24, (y_pickF rfl g27 rfl ⟨rfl, Kept.refl _ _⟩)⟩
       refine stepsF_cons ?_ ?_
       ·refine StepF.one rfl fun F_ w_ hR hout hD => ?_
        have g24 : F_ 24 = .bool false := (hD.get 0 rfl rfl rfl)
        have g32 : F_ 32 = .bool false := (hD.get 1 rfl rfl rfl)
        exact (y_pickF rfl g24 g32 ⟨rfl, Kept.refl _ _⟩)
       refine stepsF_cons ?_ ?_
       ·refine StepF.one rfl fun F_ w_ hR hout hD => ?_
        have g33 : F_ 33 = .bool false := (hD.get 0 rfl rfl rfl)
        exact (y_mov rfl g33 ⟨rfl, Kept.refl _ _⟩)
       refine stepsF_cons ?_ ?_
       ·refine StepF.when 20 false 34 rfl rfl fun F_ w_ hR hout hD => ?_
        have g34 : F_ 34 = .bool false := (hD.get 0 rfl rfl rfl)
        exact ⟨g34, (y_mov rfl ((hout 6 rfl (by decide)).trans (Eq.trans s33 (congrArg Value.bool (d61)))) ⟨rfl, Kept.refl _ _⟩)⟩
       refine stepsF_cons ?_ ?_
       ·refine StepF.when 20 false 34 rfl rfl fun F_ w_ hR hout hD => ?_
        have g34 : F_ 34 = .bool false := (hD.get 1 rfl rfl rfl)
        have g35 : F_ 35 = .bool true := (hD.get 0 rfl rfl rfl)
        exact ⟨g34, (y_not rfl g35 rfl ⟨rfl, Kept.refl _ _⟩)⟩
       refine stepsF_cons ?_ ?_
       ·refine StepF.when 20 false 34 rfl rfl fun F_ w_ hR hout hD => ?_
        have g34 : F_ 34 = .bool false := (hD.get 1 rfl rfl rfl)
        have g36 : F_ 36 = .bool false := (hD.get 0 rfl rfl rfl)
        exact ⟨g34, (y_mov rfl g36 ⟨rfl, Kept.refl _ _⟩)⟩
       refine stepsF_cons ?_ ?_
       ·refine StepF.unless 23 true 37 rfl rfl fun F_ w_ hR hout hD => ?_
        have g37 : F_ 37 = .bool false := (hD.get 0 rfl rfl rfl)
        exact ⟨Or.inl g37, rfl⟩
       refine stepsF_cons ?_ ?_
       ·refine StepF.unless 23 true 37 rfl rfl fun F_ w_ hR hout hD => ?_
        have g37 : F_ 37 = .bool false := (hD.get 1 rfl rfl rfl)
        exact ⟨Or.inl g37, rfl⟩
       refine stepsF_cons ?_ ?_
       ·refine StepF.unless 23 true 37 rfl rfl fun F_ w_ hR hout hD => ?_
        have g37 : F_ 37 = .bool false := (hD.get 0 rfl rfl rfl)
        exact ⟨Or.inl g37, rfl⟩
       refine stepsF_cons ?_ ?_
       ·refine StepF.unless 23 true 37 rfl rfl fun F_ w_ hR hout hD => ?_
        have g37 : F_ 37 = .bool false := (hD.get 2 rfl rfl rfl)
        exact ⟨Or.inl g37, rfl⟩
       refine stepsF_cons ?_ ?_
       ·refine StepF.when 20 false 34 rfl rfl fun F_ w_ hR hout hD => ?_
        have g34 : F_ 34 = .bool false := (hD.get 2 rfl rfl rfl)
        have g37 : F_ 37 = .bool false := (hD.get 0 rfl rfl rfl)
        exact ⟨g34, (y_pickF rfl g37 rfl ⟨rfl, Kept.refl _ _⟩)⟩
       refine stepsF_cons ?_ ?_
       ·refine StepF.one rfl fun F_ w_ hR hout hD => ?_
        have g34 : F_ 34 = .bool false := (hD.get 0 rfl rfl rfl)
        have g42 : F_ 42 = .bool false := (hD.get 1 rfl rfl rfl)
        exact (y_pickF rfl g34 g42 ⟨rfl, Kept.refl _ _⟩)
       exact stepsF_nil
      intro v62 F63 w64 k65 G66 hF67
      have B69 := B25.all k65 id
      have K70 := K26.trans k65 (fun _ _ x => x.elim)
      have s71 := (hF67 70).trans s30
      have s72 := (hF67 3).trans s31
      have s73 : F63 43 = .bool false := (hF67 43).trans (G66 29 (by decide))
      clear G66 hF67
      exact ⟨s73.trans (congrArg Value.bool (show (false) = decide (badM k c) from (by rw [Bool.eq_iff_iff, decide_eq_true_iff]; by_cases hq1 : 0 ≤ c.m ∧ c.m ≤ mostK k; exact badM_at hq1 (by first | (exfalso; omega) | simp_all); exact iff_of_true (by first | rfl | (exfalso; omega)) (badM_off hq1)))), s72, s71, K70, B69⟩
     ·skip
      refine wq_said [some 14, some 15, some 16, some 17, some 18, some 19, some 20, some 21, some 22, some 23, some 24, some 25, some 26, some 27, some 28, some 29, some 30, some 31, some 32, some 33, some 34, some 35, some 36, some 37, some 38, some 39, some 40, some 41, some 42, some 43] [Pd.eq (.pointer (some ⟨p1, 0, none⟩)), Pd.eq (.int .i64 ((c).m)), Pd.eq (.bool false), Pd.eq (.bool false), Pd.eq (.pointer (some ⟨p1, 0, none⟩)), Pd.eq (.int .i64 ((c).m)), Pd.eq (.int .i64 (k)), Pd.eq (.int .i64 (mostK (k))), Pd.eq (.bool false), Pd.eq (.bool false), Pd.eq (.bool false), Pd.eq (.bool true), Pd.eq (.bool false), Pd.eq (.bool false), Pd.eq undef, Pd.eq undef, Pd.eq undef, Pd.eq undef, Pd.eq (.bool false), Pd.eq (.bool false), Pd.eq (.bool false), Pd.eq (.bool false), Pd.eq (.bool true), Pd.eq (.bool true), Pd.eq (.pointer (some ⟨p1, 3, none⟩)), Pd.eq (.agg #[.int .i64 ((c).nx), .int .i64 ((c).ny)]), Pd.eq (.agg #[.int .i64 (0), .int .i64 (0)]), Pd.eq (.bool (!sameVec ((c).nx) ((c).ny) (0) (0))), Pd.eq (.bool (!sameVec ((c).nx) ((c).ny) (0) (0))), Pd.eq (.bool (!sameVec ((c).nx) ((c).ny) (0) (0)))] (by kernel_rfl) (by kernel_rfl) ?_ ?_
      ·refine stepsF_cons ?_ ?_
       ·refine StepF.one rfl fun F_ w_ hR hout hD => ?_
        exact (y_fieldR (n := 1) rfl ((hout 3 rfl (by decide)).trans s31) Tryd.underlying27 rfl (by kernel_rfl) (by decide) rfl ⟨rfl, Kept.refl _ _⟩)
       refine stepsF_cons ?_ ?_
       ·refine StepF.one rfl fun F_ w_ hR hout hD => ?_
        have g14 : F_ 14 = .pointer (some ⟨p1, 0, none⟩) := (hD.get 0 rfl rfl rfl)
        exact (y_ld_stc rfl g14 Tryd.underlying3 (B25.all hR id) rfl rfl ⟨rfl, Kept.refl _ _⟩)
       refine stepsF_cons ?_ ?_
       ·refine StepF.one rfl fun F_ w_ hR hout hD => ?_
        have g15 : F_ 15 = .int .i64 ((c).m) := (hD.get 0 rfl rfl rfl)
        exact (y_lss rfl g15 rfl (decide_eq_false d34) ⟨rfl, Kept.refl _ _⟩)
       refine stepsF_cons ?_ ?_
       ·refine StepF.one rfl fun F_ w_ hR hout hD => ?_
        have g16 : F_ 16 = .bool false := (hD.get 0 rfl rfl rfl)
        exact (y_mov rfl g16 ⟨rfl, Kept.refl _ _⟩)
       refine stepsF_cons ?_ ?_
       ·refine StepF.when 3 false 17 rfl rfl fun F_ w_ hR hout hD => ?_
        have g17 : F_ 17 = .bool false := (hD.get 0 rfl rfl rfl)
        exact ⟨g17, (y_fieldR (n := 1) rfl ((hout 3 rfl (by decide)).trans s31) Tryd.underlying27 rfl (by kernel_rfl) (by decide) rfl ⟨rfl, Kept.refl _ _⟩)⟩
       refine stepsF_cons ?_ ?_
       ·refine StepF.when 3 false 17 rfl rfl fun F_ w_ hR hout hD => ?_
        have g17 : F_ 17 = .bool false := (hD.get 1 rfl rfl rfl)
        have g18 : F_ 18 = .pointer (some ⟨p1, 0, none⟩) := (hD.get 0 rfl rfl rfl)
        exact ⟨g17, (y_ld_stc rfl g18 Tryd.underlying3 (B25.all hR id) rfl rfl ⟨rfl, Kept.refl _ _⟩)⟩
       refine stepsF_cons ?_ ?_
       ·refine StepF.when 3 false 17 rfl rfl fun F_ w_ hR hout hD => ?_
        have g17 : F_ 17 = .bool false := (hD.get 0 rfl rfl rfl)
        exact ⟨g17, (y_mov rfl ((hout 0 rfl (by decide)).trans s29) ⟨rfl, Kept.refl _ _⟩)⟩
       refine stepsF_cons ?_ ?_
       ·refine StepF.when 3 false 17 rfl rfl fun F_ w_ hR hout hD => ?_
        have g17 : F_ 17 = .bool false := (hD.get 1 rfl rfl rfl)
        have g20 : F_ 20 = .int .i64 (k) := (hD.get 0 rfl rfl rfl)
        exact ⟨g17, (y_cs rfl rfl rfl (fun _ _ => by kernel_rfl) (ev_func _) (vsC g20 vsN) (bref_most (k)  _   ) (fun e_ w_ h_ => ⟨_, h_.1, rfl, h_.2⟩))⟩
       refine stepsF_cons ?_ ?_
       ·refine StepF.when 3 false 17 rfl rfl fun F_ w_ hR hout hD => ?_
        have g17 : F_ 17 = .bool false := (hD.get 2 rfl rfl rfl)
        have g19 : F_ 19 = .int .i64 ((c).m) := (hD.get 0 rfl rfl rfl)
        have g21 : F_ 21 = .int .i64 (mostK (k)) := (hD.get 1 rfl rfl rfl)
        exact ⟨g17, (y_gtr rfl g19 g21 (decide_eq_false d47) ⟨rfl, Kept.refl _ _⟩)⟩
       refine stepsF_cons ?_ ?_
       ·refine StepF.one rfl fun F_ w_ hR hout hD => ?_
        have g17 : F_ 17 = .bool false := (hD.get 0 rfl rfl rfl)
        have g22 : F_ 22 = .bool false := (hD.get 1 rfl rfl rfl)
        exact (y_pickF rfl g17 g22 ⟨rfl, Kept.refl _ _⟩)
       refine stepsF_cons ?_ ?_
       ·refine StepF.one rfl fun F_ w_ hR hout hD => ?_
        have g23 : F_ 23 = .bool false := (hD.get 0 rfl rfl rfl)
        exact (y_mov rfl g23 ⟨rfl, Kept.refl _ _⟩)
       refine stepsF_cons ?_ ?_
       ·refine StepF.when 10 false 24 rfl rfl fun F_ w_ hR hout hD => ?_
        have g24 : F_ 24 = .bool false := (hD.get 0 rfl rfl rfl)
        exact ⟨g24, (y_mov rfl ((hout 5 rfl (by decide)).trans (Eq.trans s32 (congrArg Value.bool (d60)))) ⟨rfl, Kept.refl _ _⟩)⟩
       refine stepsF_cons ?_ ?_
       ·refine StepF.when 10 false 24 rfl rfl fun F_ w_ hR hout hD => ?_
        have g24 : F_ 24 = .bool false := (hD.get 1 rfl rfl rfl)
        have g25 : F_ 25 = .bool true := (hD.get 0 rfl rfl rfl)
        exact ⟨g24, (y_not rfl g25 rfl ⟨rfl, Kept.refl _ _⟩)⟩
       refine stepsF_cons ?_ ?_
       ·refine StepF.when 10 false 24 rfl rfl fun F_ w_ hR hout hD => ?_
        have g24 : F_ 24 = .bool false := (hD.get 1 rfl rfl rfl)
        have g26 : F_ 26 = .bool false := (hD.get 0 rfl rfl rfl)
        exact ⟨g24, (y_mov rfl g26 ⟨rfl, Kept.refl _ _⟩)⟩
       refine stepsF_cons ?_ ?_
       ·refine StepF.unless 13 true 27 rfl rfl fun F_ w_ hR hout hD => ?_
        have g27 : F_ 27 = .bool false := (hD.get 0 rfl rfl rfl)
        exact ⟨Or.inl g27, rfl⟩
       refine stepsF_cons ?_ ?_
       ·refine StepF.unless 13 true 27 rfl rfl fun F_ w_ hR hout hD => ?_
        have g27 : F_ 27 = .bool false := (hD.get 1 rfl rfl rfl)
        exact ⟨Or.inl g27, rfl⟩
       refine stepsF_cons ?_ ?_
       ·refine StepF.unless 13 true 27 rfl rfl fun F_ w_ hR hout hD => ?_
        have g27 : F_ 27 = .bool false := (hD.get 0 rfl rfl rfl)
        exact ⟨Or.inl g27, rfl⟩
       refine stepsF_cons ?_ ?_
       ·refine StepF.unless 13 true 27 rfl rfl fun F_ w_ hR hout hD => ?_
        have g27 : F_ 27 = .bool false := (hD.get 2 rfl rfl rfl)
        exact ⟨Or.inl g27, rfl⟩
       refine stepsF_cons ?_ ?_
       ·refine StepF.when 10 false 24 rfl rfl fun F_ w_ hR hout hD => ?_
        have g24 : F_ 24 = .bool false := (hD.get 2 rfl rfl rfl)
        have g27 : F_ 27 = .bool false := (hD.get 0 rfl rfl rfl)
        exact ⟨g24, (y_pickF rfl g27 rfl ⟨rfl, Kept.refl _ _⟩)⟩
       refine stepsF_cons ?_ ?_
       ·refine StepF.one rfl fun F_ w_ hR hout hD => ?_
        have g24 : F_ 24 = .bool false := (hD.get 0 rfl rfl rfl)
        have g32 : F_ 32 = .bool false := (hD.get 1 rfl rfl rfl)
        exact (y_pickF rfl g24 g32 ⟨rfl, Kept.refl _ _⟩)
       refine stepsF_cons ?_ ?_
       ·refine StepF.one rfl fun F_ w_ hR hout hD => ?_
        have g33 : F_ 33 = .bool false := (hD.get 0 rfl rfl rfl)
        exact (y_mov rfl g33 ⟨rfl, Kept.refl _ _⟩)
       refine stepsF_cons ?_ ?_
       ·refine StepF.when 20 false 34 rfl rfl fun F_ w_ hR hout hD => ?_
        have g34 : F_ 34 = .bool false := (hD.get 0 rfl rfl rfl)
        exact ⟨g34, (y_mov rfl ((hout 6 rfl (by decide)).trans (Eq.trans s33 (congrArg Value.bool (d61)))) ⟨rfl, Kept.refl _ _⟩)⟩
       refine stepsF_cons ?_ ?_
       ·refine StepF.when 20 false 34 rfl rfl fun F_ w_ hR hout hD => ?_
        have g34 : F_ 34 = .bool false := (hD.get 1 rfl rfl rfl)
        have g35 : F_ 35 = .bool false := (hD.get 0 rfl rfl rfl)
        exact ⟨g34, (y_not rfl g35 rfl ⟨rfl, Kept.refl _ _⟩)⟩
       refine stepsF_cons ?_ ?_
       ·refine StepF.when 20 false 34 rfl rfl fun F_ w_ hR hout hD => ?_
        have g34 : F_ 34 = .bool false := (hD.get 1 rfl rfl rfl)
        have g36 : F_ 36 = .bool true := (hD.get 0 rfl rfl rfl)
        exact ⟨g34, (y_mov rfl g36 ⟨rfl, Kept.refl _ _⟩)⟩
       refine stepsF_cons ?_ ?_
       ·refine StepF.when 23 true 37 rfl rfl fun F_ w_ hR hout hD => ?_
        have g37 : F_ 37 = .bool true := (hD.get 0 rfl rfl rfl)
        exact ⟨g37, (y_fieldR (n := 2) rfl ((hout 3 rfl (by decide)).trans s31) Tryd.underlying27 rfl (by kernel_rfl) (by decide) rfl ⟨rfl, Kept.refl _ _⟩)⟩
       refine stepsF_cons ?_ ?_
       ·refine StepF.when 23 true 37 rfl rfl fun F_ w_ hR hout hD => ?_
        have g37 : F_ 37 = .bool true := (hD.get 1 rfl rfl rfl)
        have g38 : F_ 38 = .pointer (some ⟨p1, 3, none⟩) := (hD.get 0 rfl rfl rfl)
        exact ⟨g37, (y_ldPart (n := 2) stcT_vector rfl g38 (B25.all hR id) (Nat.le_of_ble_eq_true rfl) rfl ⟨rfl, Kept.refl _ _⟩)⟩
       refine stepsF_cons ?_ ?_
       ·refine StepF.when 23 true 37 rfl rfl fun F_ w_ hR hout hD => ?_
        have g37 : F_ 37 = .bool true := (hD.get 0 rfl rfl rfl)
        exact ⟨g37, (y_buildL (l' := []) (cells := #[.int .i64 (0), .int .i64 (0)]) rfl bpN (by kernel_rfl) rfl ⟨rfl, Kept.refl _ _⟩)⟩
       refine stepsF_cons ?_ ?_
       ·refine StepF.when 23 true 37 rfl rfl fun F_ w_ hR hout hD => ?_
        have g37 : F_ 37 = .bool true := (hD.get 2 rfl rfl rfl)
        have g39 : F_ 39 = .agg #[.int .i64 ((c).nx), .int .i64 ((c).ny)] := (hD.get 0 rfl rfl rfl)
        have g40 : F_ 40 = .agg #[.int .i64 (0), .int .i64 (0)] := (hD.get 1 rfl rfl rfl)
        exact ⟨g37, (y_neqVec rfl g39 g40 rfl ⟨rfl, Kept.refl _ _⟩)⟩
       refine stepsF_cons ?_ ?_
       ·refine StepF.when 20 false 34 rfl rfl fun F_ w_ hR hout hD => ?_
        have g34 : F_ 34 = .bool false := (hD.get 2 rfl rfl rfl)
        have g37 : F_ 37 = .bool true := (hD.get 0 rfl rfl rfl)
        have g41 : F_ 41 = .bool (!sameVec ((c).nx) ((c).ny) (0) (0)) := (hD.get 1 rfl rfl rfl)
        exact ⟨g34, (y_pickT rfl g37 g41 ⟨rfl, Kept.refl _ _⟩)⟩
       refine stepsF_cons ?_ ?_
       ·refine StepF.one rfl fun F_ w_ hR hout hD => ?_
        have g34 : F_ 34 = .bool false := (hD.get 0 rfl rfl rfl)
        have g42 : F_ 42 = .bool (!sameVec ((c).nx) ((c).ny) (0) (0)) := (hD.get 1 rfl rfl rfl)
        exact (y_pickF rfl g34 g42 ⟨rfl, Kept.refl _ _⟩)
       exact stepsF_nil
      intro v74 F75 w76 k77 G78 hF79
      have B81 := B25.all k77 id
      have K82 := K26.trans k77 (fun _ _ x => x.elim)
      have s83 := (hF79 70).trans s30
      have s84 := (hF79 3).trans s31
      have s85 : F75 43 = .bool (!sameVec ((c).nx) ((c).ny) (0) (0)) := (hF79 43).trans (G78 29 (by decide))
      clear G78 hF79
      exact ⟨s85.trans (congrArg Value.bool (show (!sameVec ((c).nx) ((c).ny) (0) (0)) = decide (badM k c) from (by rw [Bool.eq_iff_iff, decide_eq_true_iff]; by_cases hq1 : 0 ≤ c.m ∧ c.m ≤ mostK k; exact badM_at hq1 (by first | (exfalso; omega) | simp_all); exact iff_of_true (by first | rfl | (exfalso; omega)) (badM_off hq1)))), s84, s83, K82, B81⟩
    ·skip
     rcases Bool.eq_false_or_eq_true (!sameVec ((c).px) ((c).py) (0) (0)) with d86 | d86
     ·skip
      refine wq_said [some 14, some 15, some 16, some 17, some 18, some 19, some 20, some 21, some 22, some 23, some 24, some 25, some 26, some 27, some 28, some 29, some 30, some 31, some 32, some 33, some 34, some 35, some 36, some 37, some 38, some 39, some 40, some 41, some 42, some 43] [Pd.eq (.pointer (some ⟨p1, 0, none⟩)), Pd.eq (.int .i64 ((c).m)), Pd.eq (.bool false), Pd.eq (.bool false), Pd.eq (.pointer (some ⟨p1, 0, none⟩)), Pd.eq (.int .i64 ((c).m)), Pd.eq (.int .i64 (k)), Pd.eq (.int .i64 (mostK (k))), Pd.eq (.bool false), Pd.eq (.bool false), Pd.eq (.bool false), Pd.eq (.bool false), Pd.eq (.bool true), Pd.eq (.bool true), Pd.eq (.pointer (some ⟨p1, 1, none⟩)), Pd.eq (.agg #[.int .i64 ((c).px), .int .i64 ((c).py)]), Pd.eq (.agg #[.int .i64 (0), .int .i64 (0)]), Pd.eq (.bool true), Pd.eq (.bool true), Pd.eq (.bool true), Pd.eq (.bool true), Pd.eq undef, Pd.eq undef, Pd.eq undef, Pd.eq undef, Pd.eq undef, Pd.eq undef, Pd.eq undef, Pd.eq undef, Pd.eq (.bool true)] (by kernel_rfl) (by kernel_rfl) ?_ ?_
      ·refine stepsF_cons ?_ ?_
       ·refine StepF.one rfl fun F_ w_ hR hout hD => ?_
        exact (y_fieldR (n := 1) rfl ((hout 3 rfl (by decide)).trans s31) Tryd.underlying27 rfl (by kernel_rfl) (by decide) rfl ⟨rfl, Kept.refl _ _⟩)
       refine stepsF_cons ?_ ?_
       ·refine StepF.one rfl fun F_ w_ hR hout hD => ?_
        have g14 : F_ 14 = .pointer (some ⟨p1, 0, none⟩) := (hD.get 0 rfl rfl rfl)
        exact (y_ld_stc rfl g14 Tryd.underlying3 (B25.all hR id) rfl rfl ⟨rfl, Kept.refl _ _⟩)
       refine stepsF_cons ?_ ?_
       ·refine StepF.one rfl fun F_ w_ hR hout hD => ?_
        have g15 : F_ 15 = .int .i64 ((c).m) := (hD.get 0 rfl rfl rfl)
        exact (y_lss rfl g15 rfl (decide_eq_false d34) ⟨rfl, Kept.refl _ _⟩)
       refine stepsF_cons ?_ ?_
       ·refine StepF.one rfl fun F_ w_ hR hout hD => ?_
        have g16 : F_ 16 = .bool false := (hD.get 0 rfl rfl rfl)
        exact (y_mov rfl g16 ⟨rfl, Kept.refl _ _⟩)
       refine stepsF_cons ?_ ?_
       ·refine StepF.when 3 false 17 rfl rfl fun F_ w_ hR hout hD => ?_
        have g17 : F_ 17 = .bool false := (hD.get 0 rfl rfl rfl)
        exact ⟨g17, (y_fieldR (n := 1) rfl ((hout 3 rfl (by decide)).trans s31) Tryd.underlying27 rfl (by kernel_rfl) (by decide) rfl ⟨rfl, Kept.refl _ _⟩)⟩
       refine stepsF_cons ?_ ?_
       ·refine StepF.when 3 false 17 rfl rfl fun F_ w_ hR hout hD => ?_
        have g17 : F_ 17 = .bool false := (hD.get 1 rfl rfl rfl)
        have g18 : F_ 18 = .pointer (some ⟨p1, 0, none⟩) := (hD.get 0 rfl rfl rfl)
        exact ⟨g17, (y_ld_stc rfl g18 Tryd.underlying3 (B25.all hR id) rfl rfl ⟨rfl, Kept.refl _ _⟩)⟩
       refine stepsF_cons ?_ ?_
       ·refine StepF.when 3 false 17 rfl rfl fun F_ w_ hR hout hD => ?_
        have g17 : F_ 17 = .bool false := (hD.get 0 rfl rfl rfl)
        exact ⟨g17, (y_mov rfl ((hout 0 rfl (by decide)).trans s29) ⟨rfl, Kept.refl _ _⟩)⟩
       refine stepsF_cons ?_ ?_
       ·refine StepF.when 3 false 17 rfl rfl fun F_ w_ hR hout hD => ?_
        have g17 : F_ 17 = .bool false := (hD.get 1 rfl rfl rfl)
        have g20 : F_ 20 = .int .i64 (k) := (hD.get 0 rfl rfl rfl)
        exact ⟨g17, (y_cs rfl rfl rfl (fun _ _ => by kernel_rfl) (ev_func _) (vsC g20 vsN) (bref_most (k)  _   ) (fun e_ w_ h_ => ⟨_, h_.1, rfl, h_.2⟩))⟩
       refine stepsF_cons ?_ ?_
       ·refine StepF.when 3 false 17 rfl rfl fun F_ w_ hR hout hD => ?_
        have g17 : F_ 17 = .bool false := (hD.get 2 rfl rfl rfl)
        have g19 : F_ 19 = .int .i64 ((c).m) := (hD.get 0 rfl rfl rfl)
        have g21 : F_ 21 = .int .i64 (mostK (k)) := (hD.get 1 rfl rfl rfl)
        exact ⟨g17, (y_gtr rfl g19 g21 (decide_eq_false d47) ⟨rfl, Kept.refl _ _⟩)⟩
       refine stepsF_cons ?_ ?_
       ·refine StepF.one rfl fun F_ w_ hR hout hD => ?_
        have g17 : F_ 17 = .bool false := (hD.get 0 rfl rfl rfl)
        have g22 : F_ 22 = .bool false := (hD.get 1 rfl rfl rfl)
        exact (y_pickF rfl g17 g22 ⟨rfl, Kept.refl _ _⟩)
       refine stepsF_cons ?_ ?_
       ·refine StepF.one rfl fun F_ w_ hR hout hD => ?_
        have g23 : F_ 23 = .bool false := (hD.get 0 rfl rfl rfl)
        exact (y_mov rfl g23 ⟨rfl, Kept.refl _ _⟩)
       refine stepsF_cons ?_ ?_
       ·refine StepF.when 10 false 24 rfl rfl fun F_ w_ hR hout hD => ?_
        have g24 : F_ 24 = .bool false := (hD.get 0 rfl rfl rfl)
        exact ⟨g24, (y_mov rfl ((hout 5 rfl (by decide)).trans (Eq.trans s32 (congrArg Value.bool (d60)))) ⟨rfl, Kept.refl _ _⟩)⟩
       refine stepsF_cons ?_ ?_
       ·refine StepF.when 10 false 24 rfl rfl fun F_ w_ hR hout hD => ?_
        have g24 : F_ 24 = .bool false := (hD.get 1 rfl rfl rfl)
        have g25 : F_ 25 = .bool false := (hD.get 0 rfl rfl rfl)
        exact ⟨g24, (y_not rfl g25 rfl ⟨rfl, Kept.refl _ _⟩)⟩
       refine stepsF_cons ?_ ?_
       ·refine StepF.when 10 false 24 rfl rfl fun F_ w_ hR hout hD => ?_
        have g24 : F_ 24 = .bool false := (hD.get 1 rfl rfl rfl)
        have g26 : F_ 26 = .bool true := (hD.get 0 rfl rfl rfl)
        exact ⟨g24, (y_mov rfl g26 ⟨rfl, Kept.refl _ _⟩)⟩
       refine stepsF_cons ?_ ?_
       ·refine StepF.when 13 true 27 rfl rfl fun F_ w_ hR hout hD => ?_
        have g27 : F_ 27 = .bool true := (hD.get 0 rfl rfl rfl)
        exact ⟨g27, (y_fieldR (n := 2) rfl ((hout 3 rfl (by decide)).trans s31) Tryd.underlying27 rfl (by kernel_rfl) (by decide) rfl ⟨rfl, Kept.refl _ _⟩)⟩
       refine stepsF_cons ?_ ?_
       ·refine StepF.when 13 true 27 rfl rfl fun F_ w_ hR hout hD => ?_
        have g27 : F_ 27 = .bool true := (hD.get 1 rfl rfl rfl)
        have g28 : F_ 28 = .pointer (some ⟨p1, 1, none⟩) := (hD.get 0 rfl rfl rfl)
        exact ⟨g27, (y_ldPart (n := 2) stcT_vector rfl g28 (B25.all hR id) (Nat.le_of_ble_eq_true rfl) rfl ⟨rfl, Kept.refl _ _⟩)⟩
       refine stepsF_cons ?_ ?_
       ·refine StepF.when 13 true 27 rfl rfl fun F_ w_ hR hout hD => ?_
        have g27 : F_ 27 = .bool true := (hD.get 0 rfl rfl rfl)
        exact ⟨g27, (y_buildL (l' := []) (cells := #[.int .i64 (0), .int .i64 (0)]) rfl bpN (by kernel_rfl) rfl ⟨rfl, Kept.refl _ _⟩)⟩
       refine stepsF_cons ?_ ?_
       ·refine StepF.when 13 true 27 rfl rfl fun F_ w_ hR hout hD => ?_
        have g27 : F_ 27 = .bool true := (hD.get 2 rfl rfl rfl)
        have g29 : F_ 29 = .agg #[.int .i64 ((c).px), .int .i64 ((c).py)] := (hD.get 0 rfl rfl rfl)
        have g30 : F_ 30 = .agg #[.int .i64 (0), .int .i64 (0)] := (hD.get 1 rfl rfl rfl)
        exact ⟨g27, (y_neqVec rfl g29 g30 d86 ⟨rfl, Kept.refl _ _⟩)⟩
       refine stepsF_cons ?_ ?_
       ·refine StepF.when 10 false 24 rfl rfl fun F_ w_ hR hout hD => ?_
        have g24 : F_ 24 = .bool false := (hD.get 2 rfl rfl rfl)
        have g27 : F_ 27 = .bool true := (hD.get 0 rfl rfl rfl)
        have g31 : F_ 31 = .bool true := (hD.get 1 rfl rfl rfl)
        exact ⟨g24, (y_pickT rfl g27 g31 ⟨rfl, Kept.refl _ _⟩)⟩
       refine stepsF_cons ?_ ?_
       ·refine StepF.one rfl fun F_ w_ hR hout hD => ?_
        have g24 : F_ 24 = .bool false := (hD.get 0 rfl rfl rfl)
        have g32 : F_ 32 = .bool true := (hD.get 1 rfl rfl rfl)
        exact (y_pickF rfl g24 g32 ⟨rfl, Kept.refl _ _⟩)
       refine stepsF_cons ?_ ?_
       ·refine StepF.one rfl fun F_ w_ hR hout hD => ?_
        have g33 : F_ 33 = .bool true := (hD.get 0 rfl rfl rfl)
        exact (y_mov rfl g33 ⟨rfl, Kept.refl _ _⟩)
       refine stepsF_cons ?_ ?_
       ·refine StepF.unless 20 false 34 rfl rfl fun F_ w_ hR hout hD => ?_
        have g34 : F_ 34 = .bool true := (hD.get 0 rfl rfl rfl)
        exact ⟨Or.inl g34, rfl⟩
       refine stepsF_cons ?_ ?_
       ·refine StepF.unless 20 false 34 rfl rfl fun F_ w_ hR hout hD => ?_
        have g34 : F_ 34 = .bool true := (hD.get 1 rfl rfl rfl)
        exact ⟨Or.inl g34, rfl⟩
       refine stepsF_cons ?_ ?_
       ·refine StepF.unless 20 false 34 rfl rfl fun F_ w_ hR hout hD => ?_
        have g34 : F_ 34 = .bool true := (hD.get 1 rfl rfl rfl)
        exact ⟨Or.inl g34, rfl⟩
       refine stepsF_cons ?_ ?_
       ·refine StepF.unless 23 true 37 rfl rfl fun F_ w_ hR hout hD => ?_
        have g37 : F_ 37 = undef := (hD.get 0 rfl rfl rfl)
        exact ⟨Or.inr g37, rfl⟩
       refine stepsF_cons ?_ ?_
       ·refine StepF.unless 23 true 37 rfl rfl fun F_ w_ hR hout hD => ?_
        have g37 : F_ 37 = undef := (hD.get 1 rfl rfl rfl)
        exact ⟨Or.inr g37, rfl⟩
       refine stepsF_cons ?_ ?_
       ·refine StepF.unless 23 true 37 rfl rfl fun F_ w_ hR hout hD => ?_
        have g37 : F_ 37 = undef := (hD.get 0 rfl rfl rfl)
        exact ⟨Or.inr g37, rfl⟩
       refine stepsF_cons ?_ ?_
       ·refine StepF.unless 23 true 37 rfl rfl fun F_ w_ hR hout hD => ?_
        have g37 : F_ 37 = undef := (hD.get 2 rfl rfl rfl)
        exact ⟨Or.inr g37, rfl⟩
       refine stepsF_cons ?_ ?_
       ·refine StepF.unless 20 false 34 rfl rfl fun F_ w_ hR hout hD => ?_
        have g34 : F_ 34 = .bool true := (hD.get 2 rfl rfl rfl)
        exact ⟨Or.inl g34, rfl⟩
       refine stepsF_cons ?_ ?_
       ·refine StepF.one rfl fun F_ w_ hR hout hD => ?_
        have g34 : F_ 34 = .bool true := (hD.get 0 rfl rfl rfl)
        exact (y_pickT rfl g34 rfl ⟨rfl, Kept.refl _ _⟩)
       exact stepsF_nil
      intro v87 F88 w89 k90 G91 hF92
      have B94 := B25.all k90 id
      have K95 := K26.trans k90 (fun _ _ x => x.elim)
      have s96 := (hF92 70).trans s30
      have s97 := (hF92 3).trans s31
      have s98 : F88 43 = .bool true := (hF92 43).trans (G91 29 (by decide))
      clear G91 hF92
      exact ⟨s98.trans (congrArg Value.bool (show (true) = decide (badM k c) from (by rw [Bool.eq_iff_iff, decide_eq_true_iff]; by_cases hq1 : 0 ≤ c.m ∧ c.m ≤ mostK k; exact badM_at hq1 (by first | (exfalso; omega) | simp_all); exact iff_of_true (by first | rfl | (exfalso; omega)) (badM_off hq1)))), s97, s96, K95, B94⟩
     ·skip
      rcases Bool.eq_false_or_eq_true (nextB ((c).m)) with d99 | d99
      ·skip
       refine wq_said [some 14, some 15, some 16, some 17, some 18, some 19, some 20, some 21, some 22, some 23, some 24, some 25, some 26, some 27, some 28, some 29, some 30, some 31, some 32, some 33, some 34, some 35, some 36, some 37, some 38, some 39, some 40, some 41, some 42, some 43] [Pd.eq (.pointer (some ⟨p1, 0, none⟩)), Pd.eq (.int .i64 ((c).m)), Pd.eq (.bool false), Pd.eq (.bool false), Pd.eq (.pointer (some ⟨p1, 0, none⟩)), Pd.eq (.int .i64 ((c).m)), Pd.eq (.int .i64 (k)), Pd.eq (.int .i64 (mostK (k))), Pd.eq (.bool false), Pd.eq (.bool false), Pd.eq (.bool false), Pd.eq (.bool false), Pd.eq (.bool true), Pd.eq (.bool true), Pd.eq (.pointer (some ⟨p1, 1, none⟩)), Pd.eq (.agg #[.int .i64 ((c).px), .int .i64 ((c).py)]), Pd.eq (.agg #[.int .i64 (0), .int .i64 (0)]), Pd.eq (.bool false), Pd.eq (.bool false), Pd.eq (.bool false), Pd.eq (.bool false), Pd.eq (.bool true), Pd.eq (.bool false), Pd.eq (.bool false), Pd.eq undef, Pd.eq undef, Pd.eq undef, Pd.eq undef, Pd.eq (.bool false), Pd.eq (.bool false)] (by kernel_rfl) (by kernel_rfl) ?_ ?_
       ·refine stepsF_cons ?_ ?_
        ·refine StepF.one rfl fun F_ w_ hR hout hD => ?_
         exact (y_fieldR (n := 1) rfl ((hout 3 rfl (by decide)).trans s31) Tryd.underlying27 rfl (by kernel_rfl) (by decide) rfl ⟨rfl, Kept.refl _ _⟩)
        refine stepsF_cons ?_ ?_
        ·refine StepF.one rfl fun F_ w_ hR hout hD => ?_
         have g14 : F_ 14 = .pointer (some ⟨p1, 0, none⟩) := (hD.get 0 rfl rfl rfl)
         exact (y_ld_stc rfl g14 Tryd.underlying3 (B25.all hR id) rfl rfl ⟨rfl, Kept.refl _ _⟩)
        refine stepsF_cons ?_ ?_
        ·refine StepF.one rfl fun F_ w_ hR hout hD => ?_
         have g15 : F_ 15 = .int .i64 ((c).m) := (hD.get 0 rfl rfl rfl)
         exact (y_lss rfl g15 rfl (decide_eq_false d34) ⟨rfl, Kept.refl _ _⟩)
        refine stepsF_cons ?_ ?_
        ·refine StepF.one rfl fun F_ w_ hR hout hD => ?_
         have g16 : F_ 16 = .bool false := (hD.get 0 rfl rfl rfl)
         exact (y_mov rfl g16 ⟨rfl, Kept.refl _ _⟩)
        refine stepsF_cons ?_ ?_
        ·refine StepF.when 3 false 17 rfl rfl fun F_ w_ hR hout hD => ?_
         have g17 : F_ 17 = .bool false := (hD.get 0 rfl rfl rfl)
         exact ⟨g17, (y_fieldR (n := 1) rfl ((hout 3 rfl (by decide)).trans s31) Tryd.underlying27 rfl (by kernel_rfl) (by decide) rfl ⟨rfl, Kept.refl _ _⟩)⟩
        refine stepsF_cons ?_ ?_
        ·refine StepF.when 3 false 17 rfl rfl fun F_ w_ hR hout hD => ?_
         have g17 : F_ 17 = .bool false := (hD.get 1 rfl rfl rfl)
         have g18 : F_ 18 = .pointer (some ⟨p1, 0, none⟩) := (hD.get 0 rfl rfl rfl)
         exact ⟨g17, (y_ld_stc rfl g18 Tryd.underlying3 (B25.all hR id) rfl rfl ⟨rfl, Kept.refl _ _⟩)⟩
        refine stepsF_cons ?_ ?_
        ·refine StepF.when 3 false 17 rfl rfl fun F_ w_ hR hout hD => ?_
         have g17 : F_ 17 = .bool false := (hD.get 0 rfl rfl rfl)
         exact ⟨g17, (y_mov rfl ((hout 0 rfl (by decide)).trans s29) ⟨rfl, Kept.refl _ _⟩)⟩
        refine stepsF_cons ?_ ?_
        ·refine StepF.when 3 false 17 rfl rfl fun F_ w_ hR hout hD => ?_
         have g17 : F_ 17 = .bool false := (hD.get 1 rfl rfl rfl)
         have g20 : F_ 20 = .int .i64 (k) := (hD.get 0 rfl rfl rfl)
         exact ⟨g17, (y_cs rfl rfl rfl (fun _ _ => by kernel_rfl) (ev_func _) (vsC g20 vsN) (bref_most (k)  _   ) (fun e_ w_ h_ => ⟨_, h_.1, rfl, h_.2⟩))⟩
        refine stepsF_cons ?_ ?_
        ·refine StepF.when 3 false 17 rfl rfl fun F_ w_ hR hout hD => ?_
         have g17 : F_ 17 = .bool false := (hD.get 2 rfl rfl rfl)
         have g19 : F_ 19 = .int .i64 ((c).m) := (hD.get 0 rfl rfl rfl)
         have g21 : F_ 21 = .int .i64 (mostK (k)) := (hD.get 1 rfl rfl rfl)
         exact ⟨g17, (y_gtr rfl g19 g21 (decide_eq_false d47) ⟨rfl, Kept.refl _ _⟩)⟩
        refine stepsF_cons ?_ ?_
        ·refine StepF.one rfl fun F_ w_ hR hout hD => ?_
         have g17 : F_ 17 = .bool false := (hD.get 0 rfl rfl rfl)
         have g22 : F_ 22 = .bool false := (hD.get 1 rfl rfl rfl)
         exact (y_pickF rfl g17 g22 ⟨rfl, Kept.refl _ _⟩)
        refine stepsF_cons ?_ ?_
        ·refine StepF.one rfl fun F_ w_ hR hout hD => ?_
         have g23 : F_ 23 = .bool false := (hD.get 0 rfl rfl rfl)
         exact (y_mov rfl g23 ⟨rfl, Kept.refl _ _⟩)
        refine stepsF_cons ?_ ?_
        ·refine StepF.when 10 false 24 rfl rfl fun F_ w_ hR hout hD => ?_
         have g24 : F_ 24 = .bool false := (hD.get 0 rfl rfl rfl)
         exact ⟨g24, (y_mov rfl ((hout 5 rfl (by decide)).trans (Eq.trans s32 (congrArg Value.bool (d60)))) ⟨rfl, Kept.refl _ _⟩)⟩
        refine stepsF_cons ?_ ?_
        ·refine StepF.when 10 false 24 rfl rfl fun F_ w_ hR hout hD => ?_
         have g24 : F_ 24 = .bool false := (hD.get 1 rfl rfl rfl)
         have g25 : F_ 25 = .bool false := (hD.get 0 rfl rfl rfl)
         exact ⟨g24, (y_not rfl g25 rfl ⟨rfl, Kept.refl _ _⟩)⟩
        refine stepsF_cons ?_ ?_
        ·refine StepF.when 10 false 24 rfl rfl fun F_ w_ hR hout hD => ?_
         have g24 : F_ 24 = .bool false := (hD.get 1 rfl rfl rfl)
         have g26 : F_ 26 = .bool true := (hD.get 0 rfl rfl rfl)
         exact ⟨g24, (y_mov rfl g26 ⟨rfl, Kept.refl _ _⟩)⟩
        refine stepsF_cons ?_ ?_
        ·refine StepF.when 13 true 27 rfl rfl fun F_ w_ hR hout hD => ?_
         have g27 : F_ 27 = .bool true := (hD.get 0 rfl rfl rfl)
         exact ⟨g27, (y_fieldR (n := 2) rfl ((hout 3 rfl (by decide)).trans s31) Tryd.underlying27 rfl (by kernel_rfl) (by decide) rfl ⟨rfl, Kept.refl _ _⟩)⟩
        refine stepsF_cons ?_ ?_
        ·refine StepF.when 13 true 27 rfl rfl fun F_ w_ hR hout hD => ?_
         have g27 : F_ 27 = .bool true := (hD.get 1 rfl rfl rfl)
         have g28 : F_ 28 = .pointer (some ⟨p1, 1, none⟩) := (hD.get 0 rfl rfl rfl)
         exact ⟨g27, (y_ldPart (n := 2) stcT_vector rfl g28 (B25.all hR id) (Nat.le_of_ble_eq_true rfl) rfl ⟨rfl, Kept.refl _ _⟩)⟩
        refine stepsF_cons ?_ ?_
        ·refine StepF.when 13 true 27 rfl rfl fun F_ w_ hR hout hD => ?_
         have g27 : F_ 27 = .bool true := (hD.get 0 rfl rfl rfl)
         exact ⟨g27, (y_buildL (l' := []) (cells := #[.int .i64 (0), .int .i64 (0)]) rfl bpN (by kernel_rfl) rfl ⟨rfl, Kept.refl _ _⟩)⟩
        refine stepsF_cons ?_ ?_
        ·refine StepF.when 13 true 27 rfl rfl fun F_ w_ hR hout hD => ?_
         have g27 : F_ 27 = .bool true := (hD.get 2 rfl rfl rfl)
         have g29 : F_ 29 = .agg #[.int .i64 ((c).px), .int .i64 ((c).py)] := (hD.get 0 rfl rfl rfl)
         have g30 : F_ 30 = .agg #[.int .i64 (0), .int .i64 (0)] := (hD.get 1 rfl rfl rfl)
         exact ⟨g27, (y_neqVec rfl g29 g30 d86 ⟨rfl, Kept.refl _ _⟩)⟩
        refine stepsF_cons ?_ ?_
        ·refine StepF.when 10 false 24 rfl rfl fun F_ w_ hR hout hD => ?_
         have g24 : F_ 24 = .bool false := (hD.get 2 rfl rfl rfl)
         have g27 : F_ 27 = .bool true := (hD.get 0 rfl rfl rfl)
         have g31 : F_ 31 = .bool false := (hD.get 1 rfl rfl rfl)
         exact ⟨g24, (y_pickT rfl g27 g31 ⟨rfl, Kept.refl _ _⟩)⟩
        refine stepsF_cons ?_ ?_
        ·refine StepF.one rfl fun F_ w_ hR hout hD => ?_
         have g24 : F_ 24 = .bool false := (hD.get 0 rfl rfl rfl)
         have g32 : F_ 32 = .bool false := (hD.get 1 rfl rfl rfl)
         exact (y_pickF rfl g24 g32 ⟨rfl, Kept.refl _ _⟩)
        refine stepsF_cons ?_ ?_
        ·refine StepF.one rfl fun F_ w_ hR hout hD => ?_
         have g33 : F_ 33 = .bool false := (hD.get 0 rfl rfl rfl)
         exact (y_mov rfl g33 ⟨rfl, Kept.refl _ _⟩)
        refine stepsF_cons ?_ ?_
        ·refine StepF.when 20 false 34 rfl rfl fun F_ w_ hR hout hD => ?_
         have g34 : F_ 34 = .bool false := (hD.get 0 rfl rfl rfl)
         exact ⟨g34, (y_mov rfl ((hout 6 rfl (by decide)).trans (Eq.trans s33 (congrArg Value.bool (d99)))) ⟨rfl, Kept.refl _ _⟩)⟩
        refine stepsF_cons ?_ ?_
        ·refine StepF.when 20 false 34 rfl rfl fun F_ w_ hR hout hD => ?_
         have g34 : F_ 34 = .bool false := (hD.get 1 rfl rfl rfl)
         have g35 : F_ 35 = .bool true := (hD.get 0 rfl rfl rfl)
         exact ⟨g34, (y_not rfl g35 rfl ⟨rfl, Kept.refl _ _⟩)⟩
        refine stepsF_cons ?_ ?_
        ·refine StepF.when 20 false 34 rfl rfl fun F_ w_ hR hout hD => ?_
         have g34 : F_ 34 = .bool false := (hD.get 1 rfl rfl rfl)
         have g36 : F_ 36 = .bool false := (hD.get 0 rfl rfl rfl)
         exact ⟨g34, (y_mov rfl g36 ⟨rfl, Kept.refl _ _⟩)⟩
        refine stepsF_cons ?_ ?_
        ·refine StepF.unless 23 true 37 rfl rfl fun F_ w_ hR hout hD => ?_
         have g37 : F_ 37 = .bool false := (hD.get 0 rfl rfl rfl)
         exact ⟨Or.inl g37, rfl⟩
        refine stepsF_cons ?_ ?_
        ·refine StepF.unless 23 true 37 rfl rfl fun F_ w_ hR hout hD => ?_
         have g37 : F_ 37 = .bool false := (hD.get 1 rfl rfl rfl)
         exact ⟨Or.inl g37, rfl⟩
        refine stepsF_cons ?_ ?_
        ·refine StepF.unless 23 true 37 rfl rfl fun F_ w_ hR hout hD => ?_
         have g37 : F_ 37 = .bool false := (hD.get 0 rfl rfl rfl)
         exact ⟨Or.inl g37, rfl⟩
        refine stepsF_cons ?_ ?_
        ·refine StepF.unless 23 true 37 rfl rfl fun F_ w_ hR hout hD => ?_
         have g37 : F_ 37 = .bool false := (hD.get 2 rfl rfl rfl)
         exact ⟨Or.inl g37, rfl⟩
        refine stepsF_cons ?_ ?_
        ·refine StepF.when 20 false 34 rfl rfl fun F_ w_ hR hout hD => ?_
         have g34 : F_ 34 = .bool false := (hD.get 2 rfl rfl rfl)
         have g37 : F_ 37 = .bool false := (hD.get 0 rfl rfl rfl)
         exact ⟨g34, (y_pickF rfl g37 rfl ⟨rfl, Kept.refl _ _⟩)⟩
        refine stepsF_cons ?_ ?_
        ·refine StepF.one rfl fun F_ w_ hR hout hD => ?_
         have g34 : F_ 34 = .bool false := (hD.get 0 rfl rfl rfl)
         have g42 : F_ 42 = .bool false := (hD.get 1 rfl rfl rfl)
         exact (y_pickF rfl g34 g42 ⟨rfl, Kept.refl _ _⟩)
        exact stepsF_nil
       intro v100 F101 w102 k103 G104 hF105
       have B107 := B25.all k103 id
       have K108 := K26.trans k103 (fun _ _ x => x.elim)
       have s109 := (hF105 70).trans s30
       have s110 := (hF105 3).trans s31
       have s111 : F101 43 = .bool false := (hF105 43).trans (G104 29 (by decide))
       clear G104 hF105
       exact ⟨s111.trans (congrArg Value.bool (show (false) = decide (badM k c) from (by rw [Bool.eq_iff_iff, decide_eq_true_iff]; by_cases hq1 : 0 ≤ c.m ∧ c.m ≤ mostK k; exact badM_at hq1 (by first | (exfalso; omega) | simp_all); exact iff_of_true (by first | rfl | (exfalso; omega)) (badM_off hq1)))), s110, s109, K108, B107⟩
      ·skip
       refine wq_said [some 14, some 15, some 16, some 17, some 18, some 19, some 20, some 21, some 22, some 23, some 24, some 25, some 26, some 27, some 28, some 29, some 30, some 31, some 32, some 33, some 34, some 35, some 36, some 37, some 38, some 39, some 40, some 41, some 42, some 43] [Pd.eq (.pointer (some ⟨p1, 0, none⟩)), Pd.eq (.int .i64 ((c).m)), Pd.eq (.bool false), Pd.eq (.bool false), Pd.eq (.pointer (some ⟨p1, 0, none⟩)), Pd.eq (.int .i64 ((c).m)), Pd.eq (.int .i64 (k)), Pd.eq (.int .i64 (mostK (k))), Pd.eq (.bool false), Pd.eq (.bool false), Pd.eq (.bool false), Pd.eq (.bool false), Pd.eq (.bool true), Pd.eq (.bool true), Pd.eq (.pointer (some ⟨p1, 1, none⟩)), Pd.eq (.agg #[.int .i64 ((c).px), .int .i64 ((c).py)]), Pd.eq (.agg #[.int .i64 (0), .int .i64 (0)]), Pd.eq (.bool false), Pd.eq (.bool false), Pd.eq (.bool false), Pd.eq (.bool false), Pd.eq (.bool false), Pd.eq (.bool true), Pd.eq (.bool true), Pd.eq (.pointer (some ⟨p1, 3, none⟩)), Pd.eq (.agg #[.int .i64 ((c).nx), .int .i64 ((c).ny)]), Pd.eq (.agg #[.int .i64 (0), .int .i64 (0)]), Pd.eq (.bool (!sameVec ((c).nx) ((c).ny) (0) (0))), Pd.eq (.bool (!sameVec ((c).nx) ((c).ny) (0) (0))), Pd.eq (.bool (!sameVec ((c).nx) ((c).ny) (0) (0)))] (by kernel_rfl) (by kernel_rfl) ?_ ?_
       ·refine stepsF_cons ?_ ?_
        ·refine StepF.one rfl fun F_ w_ hR hout hD => ?_
         exact (y_fieldR (n := 1) rfl ((hout 3 rfl (by decide)).trans s31) Tryd.underlying27 rfl (by kernel_rfl) (by decide) rfl ⟨rfl, Kept.refl _ _⟩)
        refine stepsF_cons ?_ ?_
        ·refine StepF.one rfl fun F_ w_ hR hout hD => ?_
         have g14 : F_ 14 = .pointer (some ⟨p1, 0, none⟩) := (hD.get 0 rfl rfl rfl)
         exact (y_ld_stc rfl g14 Tryd.underlying3 (B25.all hR id) rfl rfl ⟨rfl, Kept.refl _ _⟩)
        refine stepsF_cons ?_ ?_
        ·refine StepF.one rfl fun F_ w_ hR hout hD => ?_
         have g15 : F_ 15 = .int .i64 ((c).m) := (hD.get 0 rfl rfl rfl)
         exact (y_lss rfl g15 rfl (decide_eq_false d34) ⟨rfl, Kept.refl _ _⟩)
        refine stepsF_cons ?_ ?_
        ·refine StepF.one rfl fun F_ w_ hR hout hD => ?_
         have g16 : F_ 16 = .bool false := (hD.get 0 rfl rfl rfl)
         exact (y_mov rfl g16 ⟨rfl, Kept.refl _ _⟩)
        refine stepsF_cons ?_ ?_
        ·refine StepF.when 3 false 17 rfl rfl fun F_ w_ hR hout hD => ?_
         have g17 : F_ 17 = .bool false := (hD.get 0 rfl rfl rfl)
         exact ⟨g17, (y_fieldR (n := 1) rfl ((hout 3 rfl (by decide)).trans s31) Tryd.underlying27 rfl (by kernel_rfl) (by decide) rfl ⟨rfl, Kept.refl _ _⟩)⟩
        refine stepsF_cons ?_ ?_
        ·refine StepF.when 3 false 17 rfl rfl fun F_ w_ hR hout hD => ?_
         have g17 : F_ 17 = .bool false := (hD.get 1 rfl rfl rfl)
         have g18 : F_ 18 = .pointer (some ⟨p1, 0, none⟩) := (hD.get 0 rfl rfl rfl)
         exact ⟨g17, (y_ld_stc rfl g18 Tryd.underlying3 (B25.all hR id) rfl rfl ⟨rfl, Kept.refl _ _⟩)⟩
        refine stepsF_cons ?_ ?_
        ·refine StepF.when 3 false 17 rfl rfl fun F_ w_ hR hout hD => ?_
         have g17 : F_ 17 = .bool false := (hD.get 0 rfl rfl rfl)
         exact ⟨g17, (y_mov rfl ((hout 0 rfl (by decide)).trans s29) ⟨rfl, Kept.refl _ _⟩)⟩
        refine stepsF_cons ?_ ?_
        ·refine StepF.when 3 false 17 rfl rfl fun F_ w_ hR hout hD => ?_
         have g17 : F_ 17 = .bool false := (hD.get 1 rfl rfl rfl)
         have g20 : F_ 20 = .int .i64 (k) := (hD.get 0 rfl rfl rfl)
         exact ⟨g17, (y_cs rfl rfl rfl (fun _ _ => by kernel_rfl) (ev_func _) (vsC g20 vsN) (bref_most (k)  _   ) (fun e_ w_ h_ => ⟨_, h_.1, rfl, h_.2⟩))⟩
        refine stepsF_cons ?_ ?_
        ·refine StepF.when 3 false 17 rfl rfl fun F_ w_ hR hout hD => ?_
         have g17 : F_ 17 = .bool false := (hD.get 2 rfl rfl rfl)
         have g19 : F_ 19 = .int .i64 ((c).m) := (hD.get 0 rfl rfl rfl)
         have g21 : F_ 21 = .int .i64 (mostK (k)) := (hD.get 1 rfl rfl rfl)
         exact ⟨g17, (y_gtr rfl g19 g21 (decide_eq_false d47) ⟨rfl, Kept.refl _ _⟩)⟩
        refine stepsF_cons ?_ ?_
        ·refine StepF.one rfl fun F_ w_ hR hout hD => ?_
         have g17 : F_ 17 = .bool false := (hD.get 0 rfl rfl rfl)
         have g22 : F_ 22 = .bool false := (hD.get 1 rfl rfl rfl)
         exact (y_pickF rfl g17 g22 ⟨rfl, Kept.refl _ _⟩)
        refine stepsF_cons ?_ ?_
        ·refine StepF.one rfl fun F_ w_ hR hout hD => ?_
         have g23 : F_ 23 = .bool false := (hD.get 0 rfl rfl rfl)
         exact (y_mov rfl g23 ⟨rfl, Kept.refl _ _⟩)
        refine stepsF_cons ?_ ?_
        ·refine StepF.when 10 false 24 rfl rfl fun F_ w_ hR hout hD => ?_
         have g24 : F_ 24 = .bool false := (hD.get 0 rfl rfl rfl)
         exact ⟨g24, (y_mov rfl ((hout 5 rfl (by decide)).trans (Eq.trans s32 (congrArg Value.bool (d60)))) ⟨rfl, Kept.refl _ _⟩)⟩
        refine stepsF_cons ?_ ?_
        ·refine StepF.when 10 false 24 rfl rfl fun F_ w_ hR hout hD => ?_
         have g24 : F_ 24 = .bool false := (hD.get 1 rfl rfl rfl)
         have g25 : F_ 25 = .bool false := (hD.get 0 rfl rfl rfl)
         exact ⟨g24, (y_not rfl g25 rfl ⟨rfl, Kept.refl _ _⟩)⟩
        refine stepsF_cons ?_ ?_
        ·refine StepF.when 10 false 24 rfl rfl fun F_ w_ hR hout hD => ?_
         have g24 : F_ 24 = .bool false := (hD.get 1 rfl rfl rfl)
         have g26 : F_ 26 = .bool true := (hD.get 0 rfl rfl rfl)
         exact ⟨g24, (y_mov rfl g26 ⟨rfl, Kept.refl _ _⟩)⟩
        refine stepsF_cons ?_ ?_
        ·refine StepF.when 13 true 27 rfl rfl fun F_ w_ hR hout hD => ?_
         have g27 : F_ 27 = .bool true := (hD.get 0 rfl rfl rfl)
         exact ⟨g27, (y_fieldR (n := 2) rfl ((hout 3 rfl (by decide)).trans s31) Tryd.underlying27 rfl (by kernel_rfl) (by decide) rfl ⟨rfl, Kept.refl _ _⟩)⟩
        refine stepsF_cons ?_ ?_
        ·refine StepF.when 13 true 27 rfl rfl fun F_ w_ hR hout hD => ?_
         have g27 : F_ 27 = .bool true := (hD.get 1 rfl rfl rfl)
         have g28 : F_ 28 = .pointer (some ⟨p1, 1, none⟩) := (hD.get 0 rfl rfl rfl)
         exact ⟨g27, (y_ldPart (n := 2) stcT_vector rfl g28 (B25.all hR id) (Nat.le_of_ble_eq_true rfl) rfl ⟨rfl, Kept.refl _ _⟩)⟩
        refine stepsF_cons ?_ ?_
        ·refine StepF.when 13 true 27 rfl rfl fun F_ w_ hR hout hD => ?_
         have g27 : F_ 27 = .bool true := (hD.get 0 rfl rfl rfl)
         exact ⟨g27, (y_buildL (l' := []) (cells := #[.int .i64 (0), .int .i64 (0)]) rfl bpN (by kernel_rfl) rfl ⟨rfl, Kept.refl _ _⟩)⟩
        refine stepsF_cons ?_ ?_
        ·refine StepF.when 13 true 27 rfl rfl fun F_ w_ hR hout hD => ?_
         have g27 : F_ 27 = .bool true := (hD.get 2 rfl rfl rfl)
         have g29 : F_ 29 = .agg #[.int .i64 ((c).px), .int .i64 ((c).py)] := (hD.get 0 rfl rfl rfl)
         have g30 : F_ 30 = .agg #[.int .i64 (0), .int .i64 (0)] := (hD.get 1 rfl rfl rfl)
         exact ⟨g27, (y_neqVec rfl g29 g30 d86 ⟨rfl, Kept.refl _ _⟩)⟩
        refine stepsF_cons ?_ ?_
        ·refine StepF.when 10 false 24 rfl rfl fun F_ w_ hR hout hD => ?_
         have g24 : F_ 24 = .bool false := (hD.get 2 rfl rfl rfl)
         have g27 : F_ 27 = .bool true := (hD.get 0 rfl rfl rfl)
         have g31 : F_ 31 = .bool false := (hD.get 1 rfl rfl rfl)
         exact ⟨g24, (y_pickT rfl g27 g31 ⟨rfl, Kept.refl _ _⟩)⟩
        refine stepsF_cons ?_ ?_
        ·refine StepF.one rfl fun F_ w_ hR hout hD => ?_
         have g24 : F_ 24 = .bool false := (hD.get 0 rfl rfl rfl)
         have g32 : F_ 32 = .bool false := (hD.get 1 rfl rfl rfl)
         exact (y_pickF rfl g24 g32 ⟨rfl, Kept.refl _ _⟩)
        refine stepsF_cons ?_ ?_
        ·refine StepF.one rfl fun F_ w_ hR hout hD => ?_
         have g33 : F_ 33 = .bool false := (hD.get 0 rfl rfl rfl)
         exact (y_mov rfl g33 ⟨rfl, Kept.refl _ _⟩)
        refine stepsF_cons ?_ ?_
        ·refine StepF.when 20 false 34 rfl rfl fun F_ w_ hR hout hD => ?_
         have g34 : F_ 34 = .bool false := (hD.get 0 rfl rfl rfl)
         exact ⟨g34, (y_mov rfl ((hout 6 rfl (by decide)).trans (Eq.trans s33 (congrArg Value.bool (d99)))) ⟨rfl, Kept.refl _ _⟩)⟩
        refine stepsF_cons ?_ ?_
        ·refine StepF.when 20 false 34 rfl rfl fun F_ w_ hR hout hD => ?_
         have g34 : F_ 34 = .bool false := (hD.get 1 rfl rfl rfl)
         have g35 : F_ 35 = .bool false := (hD.get 0 rfl rfl rfl)
         exact ⟨g34, (y_not rfl g35 rfl ⟨rfl, Kept.refl _ _⟩)⟩
        refine stepsF_cons ?_ ?_
        ·refine StepF.when 20 false 34 rfl rfl fun F_ w_ hR hout hD => ?_
         have g34 : F_ 34 = .bool false := (hD.get 1 rfl rfl rfl)
         have g36 : F_ 36 = .bool true := (hD.get 0 rfl rfl rfl)
         exact ⟨g34, (y_mov rfl g36 ⟨rfl, Kept.refl _ _⟩)⟩
        refine stepsF_cons ?_ ?_
        ·refine StepF.when 23 true 37 rfl rfl fun F_ w_ hR hout hD => ?_
         have g37 : F_ 37 = .bool true := (hD.get 0 rfl rfl rfl)
         exact ⟨g37, (y_fieldR (n := 2) rfl ((hout 3 rfl (by decide)).trans s31) Tryd.underlying27 rfl (by kernel_rfl) (by decide) rfl ⟨rfl, Kept.refl _ _⟩)⟩
        refine stepsF_cons ?_ ?_
        ·refine StepF.when 23 true 37 rfl rfl fun F_ w_ hR hout hD => ?_
         have g37 : F_ 37 = .bool true := (hD.get 1 rfl rfl rfl)
         have g38 : F_ 38 = .pointer (some ⟨p1, 3, none⟩) := (hD.get 0 rfl rfl rfl)
         exact ⟨g37, (y_ldPart (n := 2) stcT_vector rfl g38 (B25.all hR id) (Nat.le_of_ble_eq_true rfl) rfl ⟨rfl, Kept.refl _ _⟩)⟩
        refine stepsF_cons ?_ ?_
        ·refine StepF.when 23 true 37 rfl rfl fun F_ w_ hR hout hD => ?_
         have g37 : F_ 37 = .bool true := (hD.get 0 rfl rfl rfl)
         exact ⟨g37, (y_buildL (l' := []) (cells := #[.int .i64 (0), .int .i64 (0)]) rfl bpN (by kernel_rfl) rfl ⟨rfl, Kept.refl _ _⟩)⟩
        refine stepsF_cons ?_ ?_
        ·refine StepF.when 23 true 37 rfl rfl fun F_ w_ hR hout hD => ?_
         have g37 : F_ 37 = .bool true := (hD.get 2 rfl rfl rfl)
         have g39 : F_ 39 = .agg #[.int .i64 ((c).nx), .int .i64 ((c).ny)] := (hD.get 0 rfl rfl rfl)
         have g40 : F_ 40 = .agg #[.int .i64 (0), .int .i64 (0)] := (hD.get 1 rfl rfl rfl)
         exact ⟨g37, (y_neqVec rfl g39 g40 rfl ⟨rfl, Kept.refl _ _⟩)⟩
        refine stepsF_cons ?_ ?_
        ·refine StepF.when 20 false 34 rfl rfl fun F_ w_ hR hout hD => ?_
         have g34 : F_ 34 = .bool false := (hD.get 2 rfl rfl rfl)
         have g37 : F_ 37 = .bool true := (hD.get 0 rfl rfl rfl)
         have g41 : F_ 41 = .bool (!sameVec ((c).nx) ((c).ny) (0) (0)) := (hD.get 1 rfl rfl rfl)
         exact ⟨g34, (y_pickT rfl g37 g41 ⟨rfl, Kept.refl _ _⟩)⟩
        refine stepsF_cons ?_ ?_
        ·refine StepF.one rfl fun F_ w_ hR hout hD => ?_
         have g34 : F_ 34 = .bool false := (hD.get 0 rfl rfl rfl)
         have g42 : F_ 42 = .bool (!sameVec ((c).nx) ((c).ny) (0) (0)) := (hD.get 1 rfl rfl rfl)
         exact (y_pickF rfl g34 g42 ⟨rfl, Kept.refl _ _⟩)
        exact stepsF_nil
       intro v112 F113 w114 k115 G116 hF117
       have B119 := B25.all k115 id
       have K120 := K26.trans k115 (fun _ _ x => x.elim)
       have s121 := (hF117 70).trans s30
       have s122 := (hF117 3).trans s31
       have s123 : F113 43 = .bool (!sameVec ((c).nx) ((c).ny) (0) (0)) := (hF117 43).trans (G116 29 (by decide))
       clear G116 hF117
       exact ⟨s123.trans (congrArg Value.bool (show (!sameVec ((c).nx) ((c).ny) (0) (0)) = decide (badM k c) from (by rw [Bool.eq_iff_iff, decide_eq_true_iff]; by_cases hq1 : 0 ≤ c.m ∧ c.m ≤ mostK k; exact badM_at hq1 (by first | (exfalso; omega) | simp_all); exact iff_of_true (by first | rfl | (exfalso; omega)) (badM_off hq1)))), s122, s121, K120, B119⟩
 ·rintro F124 w125 ⟨s127, s128, s129, K126, B130⟩
  refine then_normal ?_
  refine wq_cond s127 (fun c131 => ?_) (fun c131 => ?_)
  ·replace c131 := of_decide_eq_true c131
   refine wq_seq ?_
   have hb : badM k c := by assumption
   refine wq_region ?_
   refine wl_v (.int .i64 (120)) rfl rfl (y_asg rfl rfl ⟨rfl, rfl⟩) ?_
   refine wl_nil fun F132 hF133 => ?_
   have s134 := (hF133 70).trans s129
   have s135 : F132 4 = .int .i64 (120) := (hF133 4).trans rfl
   clear hF133
   refine then_normal ?_
   refine wq_ret ?_
   refine then_ret ?_
   exact end_tmp (v := .int .i64 (120)) s134 rfl rfl s135 ⟨(by first | rw [chE_bad hb] | rw [chE_far hn hf] | rw [chE_ok hn hfar h1 h2] | rw [chE_no hn hfar (Or.inl (by assumption))] | rw [chE_no hn hfar (Or.inr (by assumption))]), K126⟩
  ·replace c131 := of_decide_eq_false c131
   refine wq_skip ?_
   refine then_normal ?_
   refine wq_seq ?_
   refine wq_seq ?_
   have hn : ¬ badM k c := by assumption
   refine wq_region ?_
   refine wl_v (.int .i64 (0)) rfl rfl (y_asg rfl rfl ⟨rfl, rfl⟩) ?_
   refine wl_nil fun F136 hF137 => ?_
   have s138 := (hF137 3).trans s128
   have s139 := (hF137 70).trans s129
   have s140 : F136 7 = .int .i64 (0) := (hF137 7).trans rfl
   clear hF137
   refine then_normal ?_
   refine wq_block ?_
   refine wq_loop (fun nn FF ww => ∃ (i : Nat), (i ≤ 16) ∧ (farCh c.b i = false) ∧ nn = 16 - i ∧ FF 3 = .pointer (some ⟨p1, 0, none⟩) ∧ FF 70 = undef ∧ FF 7 = .int .i64 (((i : Nat) : Int)) ∧ Kept (fun _ => False) w0 ww ∧ Stc ww p1 27 (chW (c))) (16 - (0)) ⟨0, by omega, rfl, rfl, s138, s139, s140, K126, B130⟩ ?_
   rintro n144 F141 w142 ⟨i, i145, hfar, hn144, s146, s147, s148, K143, B149⟩
   refine wq_seq ?_
   refine wq_seq ?_
   refine wq_region ?_
   refine wl_v (.int .i64 (((i : Nat) : Int))) rfl rfl (y_mov rfl s148 ⟨rfl, rfl⟩) ?_
   refine wl_v (.bool (decide ((((i : Nat) : Int)) < (16)))) rfl rfl (y_lss rfl rfl rfl rfl ⟨rfl, rfl⟩) ?_
   refine wl_nil fun F150 hF151 => ?_
   have s152 := (hF151 3).trans s146
   have s153 := (hF151 70).trans s147
   have s154 := (hF151 7).trans s148
   have s155 : F150 45 = .bool (decide ((((i : Nat) : Int)) < (16))) := (hF151 45).trans rfl
   clear hF151
   refine then_normal ?_
   refine wq_cond s155 (fun c156 => ?_) (fun c156 => ?_)
   ·replace c156 := of_decide_eq_true c156
    refine wq_skip ?_
    refine then_normal ?_
    refine wq_seq ?_
    refine wq_block ?_
    refine wq_seq ?_
    by_cases d157 : (((c).b) (i)) < (-1048576)
    ·skip
     refine wq_region ?_
     refine wl_v (.int .i64 (((i : Nat) : Int))) rfl rfl (y_mov rfl s154 ⟨rfl, rfl⟩) ?_
     refine wl_v (.pointer (some ⟨p1, 5, none⟩)) rfl rfl (y_fieldR (n := 16) rfl s152 Tryd.underlying27 rfl (by kernel_rfl) (by decide) rfl ⟨rfl, rfl⟩) ?_
     refine wl_v (.pointer (some ⟨p1, 5 + (i), none⟩)) rfl rfl (y_atR (i) (s := 1) rfl rfl rfl (by omega) Tryd.underlying25 (by omega) (by kernel_rfl) (by omega) ⟨rfl, rfl⟩) ?_
     refine wl_v (.int .i64 (((c).b) (i))) rfl rfl (y_ld_stc rfl rfl Tryd.underlying3 B149 (ch_at (c := c) (by omega)) rfl ⟨rfl, rfl⟩) ?_
     refine wl_v (.bool true) rfl rfl (y_lss rfl rfl rfl (decide_eq_true d157) ⟨rfl, rfl⟩) ?_
     refine wl_v (.bool true) rfl rfl (y_mov rfl rfl ⟨rfl, rfl⟩) ?_
     refine wl_unless 5 false 53 rfl rfl rfl (Or.inl rfl) rfl ?_
     refine wl_unless 5 false 53 rfl rfl rfl (Or.inl rfl) rfl ?_
     refine wl_unless 5 false 53 rfl rfl rfl (Or.inl rfl) rfl ?_
     refine wl_unless 5 false 53 rfl rfl rfl (Or.inl rfl) rfl ?_
     refine wl_unless 5 false 53 rfl rfl rfl (Or.inl rfl) rfl ?_
     refine wl_v (.bool true) rfl rfl (y_pickT rfl rfl rfl ⟨rfl, rfl⟩) ?_
     refine wl_nil fun F158 hF159 => ?_
     have s161 := (hF159 70).trans s153
     have s163 : F158 59 = .bool true := (hF159 59).trans rfl
     clear hF159
     refine then_normal ?_
     refine wq_cond (t := true) s163 (fun _ => ?_) (fun e => by cases e)
     refine wq_seq ?_
     have hf : farCh c.b 16 = true := far_hit (i := i) (by omega) 16 (by omega)
     refine wq_region ?_
     refine wl_v (.int .i64 (120)) rfl rfl (y_asg rfl rfl ⟨rfl, rfl⟩) ?_
     refine wl_nil fun F164 hF165 => ?_
     have s166 := (hF165 70).trans s161
     have s167 : F164 4 = .int .i64 (120) := (hF165 4).trans rfl
     clear hF165
     refine then_normal ?_
     refine wq_ret ?_
     refine in_ret ?_
     refine then_ret ?_
     refine then_ret ?_
     refine in_ret ?_
     refine then_ret ?_
     exact end_tmp (v := .int .i64 (120)) s166 rfl rfl s167 ⟨(by first | rw [chE_bad hb] | rw [chE_far hn hf] | rw [chE_ok hn hfar h1 h2] | rw [chE_no hn hfar (Or.inl (by assumption))] | rw [chE_no hn hfar (Or.inr (by assumption))]), K143⟩
    ·skip
     refine wq_region ?_
     refine wl_v (.int .i64 (((i : Nat) : Int))) rfl rfl (y_mov rfl s154 ⟨rfl, rfl⟩) ?_
     refine wl_v (.pointer (some ⟨p1, 5, none⟩)) rfl rfl (y_fieldR (n := 16) rfl s152 Tryd.underlying27 rfl (by kernel_rfl) (by decide) rfl ⟨rfl, rfl⟩) ?_
     refine wl_v (.pointer (some ⟨p1, 5 + (i), none⟩)) rfl rfl (y_atR (i) (s := 1) rfl rfl rfl (by omega) Tryd.underlying25 (by omega) (by kernel_rfl) (by omega) ⟨rfl, rfl⟩) ?_
     refine wl_v (.int .i64 (((c).b) (i))) rfl rfl (y_ld_stc rfl rfl Tryd.underlying3 B149 (ch_at (c := c) (by omega)) rfl ⟨rfl, rfl⟩) ?_
     refine wl_v (.bool false) rfl rfl (y_lss rfl rfl rfl (decide_eq_false d157) ⟨rfl, rfl⟩) ?_
     refine wl_v (.bool false) rfl rfl (y_mov rfl rfl ⟨rfl, rfl⟩) ?_
     refine wl_vw (.int .i64 (((i : Nat) : Int))) 5 false 53 rfl rfl rfl rfl rfl (y_mov rfl s154 ⟨rfl, rfl⟩) ?_
     refine wl_vw (.pointer (some ⟨p1, 5, none⟩)) 5 false 53 rfl rfl rfl rfl rfl (y_fieldR (n := 16) rfl s152 Tryd.underlying27 rfl (by kernel_rfl) (by decide) rfl ⟨rfl, rfl⟩) ?_
     refine wl_vw (.pointer (some ⟨p1, 5 + (i), none⟩)) 5 false 53 rfl rfl rfl rfl rfl (y_atR (i) (s := 1) rfl rfl rfl (by omega) Tryd.underlying25 (by omega) (by kernel_rfl) (by omega) ⟨rfl, rfl⟩) ?_
     refine wl_vw (.int .i64 (((c).b) (i))) 5 false 53 rfl rfl rfl rfl rfl (y_ld_stc rfl rfl Tryd.underlying3 B149 (ch_at (c := c) (by omega)) rfl ⟨rfl, rfl⟩) ?_
     refine wl_vw (.bool (decide ((1048576) < (((c).b) (i))))) 5 false 53 rfl rfl rfl rfl rfl (y_gtr rfl rfl rfl rfl ⟨rfl, rfl⟩) ?_
     refine wl_v (.bool (decide ((1048576) < (((c).b) (i))))) rfl rfl (y_pickF rfl rfl rfl ⟨rfl, rfl⟩) ?_
     refine wl_nil fun F168 hF169 => ?_
     have s170 := (hF169 3).trans s152
     have s171 := (hF169 70).trans s153
     have s172 := (hF169 7).trans s154
     have s173 : F168 59 = .bool (decide ((1048576) < (((c).b) (i)))) := (hF169 59).trans rfl
     clear hF169
     refine then_normal ?_
     refine wq_cond s173 (fun c174 => ?_) (fun c174 => ?_)
     ·replace c174 := of_decide_eq_true c174
      refine wq_seq ?_
      have hf : farCh c.b 16 = true := far_hit (i := i) (by omega) 16 (by omega)
      refine wq_region ?_
      refine wl_v (.int .i64 (120)) rfl rfl (y_asg rfl rfl ⟨rfl, rfl⟩) ?_
      refine wl_nil fun F175 hF176 => ?_
      have s177 := (hF176 70).trans s171
      have s178 : F175 4 = .int .i64 (120) := (hF176 4).trans rfl
      clear hF176
      refine then_normal ?_
      refine wq_ret ?_
      refine in_ret ?_
      refine then_ret ?_
      refine then_ret ?_
      refine in_ret ?_
      refine then_ret ?_
      exact end_tmp (v := .int .i64 (120)) s177 rfl rfl s178 ⟨(by first | rw [chE_bad hb] | rw [chE_far hn hf] | rw [chE_ok hn hfar h1 h2] | rw [chE_no hn hfar (Or.inl (by assumption))] | rw [chE_no hn hfar (Or.inr (by assumption))]), K143⟩
     ·replace c174 := of_decide_eq_false c174
      refine wq_skip ?_
      refine in_normal ?_
      refine then_normal ?_
      refine wq_region ?_
      refine wl_v (.int .i64 (((i : Nat) : Int))) rfl rfl (y_mov rfl s172 ⟨rfl, rfl⟩) ?_
      refine wl_v (.int .i64 (((i + 1 : Nat) : Int))) rfl rfl (y_add rfl rfl rfl (i64_n (by omega) (by omega)) ⟨rfl, rfl⟩) ?_
      refine wl_v (.int .i64 (((i + 1 : Nat) : Int))) rfl rfl (y_asg rfl rfl ⟨rfl, rfl⟩) ?_
      refine wl_nil fun F179 hF180 => ?_
      have s181 := (hF180 3).trans s170
      have s182 := (hF180 70).trans s171
      have s183 : F179 7 = .int .i64 (((i + 1 : Nat) : Int)) := (hF180 7).trans rfl
      clear hF180
      exact then_normal ⟨(16 - (i + 1)), by omega, i + 1, by omega, (by unfold farCh; rw [hfar, Bool.false_or]; exact decide_eq_false (by omega)), rfl, s181, s182, s183, K143, B149⟩
   ·replace c156 := of_decide_eq_false c156
    refine wq_exit ?_
    refine then_exit ?_
    refine then_exit ?_
    have l184 : 16 = i := by omega
    subst l184
    refine in_here ?_
    refine then_normal ?_
    refine wq_seq ?_
    refine wq_seq ?_
    by_cases d185 : (vecE ((c).px) ((c).py)) ≠ (0)
    ·skip
     refine wq_region ?_
     refine wl_v (.pointer (some ⟨p1, 1, none⟩)) rfl rfl (y_fieldR (n := 2) rfl s152 Tryd.underlying27 rfl (by kernel_rfl) (by decide) rfl ⟨rfl, rfl⟩) ?_
     refine wl_v (.agg #[.int .i64 ((c).px), .int .i64 ((c).py)]) rfl rfl (y_ldPart (n := 2) stcT_vector rfl rfl B149 (Nat.le_of_ble_eq_true rfl) rfl ⟨rfl, rfl⟩) ?_
     refine wl_call (R := fun v_ w_ => v_ = .int .i64 (vecE ((c).px) ((c).py)) ∧ Kept (fun _ => False) w142 w_) rfl rfl (y_cs rfl rfl rfl (fun _ _ => by kernel_rfl) (ev_func _) (vsC rfl vsN) (mref_check ((c).px) ((c).py)  _   ) (fun e_ w_ h_ => ⟨_, h_.1, rfl, h_.2⟩)) ?_
     rintro _ w186 ⟨rfl, k187⟩
     have K189 := K143.trans k187 (fun _ _ x => x.elim)
     refine wl_v (.bool true) rfl rfl (y_neqI rfl rfl rfl (decide_eq_true d185) ⟨rfl, rfl⟩) ?_
     refine wl_v (.bool true) rfl rfl (y_mov rfl rfl ⟨rfl, rfl⟩) ?_
     refine wl_unless 4 false 64 rfl rfl rfl (Or.inl rfl) rfl ?_
     refine wl_unless 4 false 64 rfl rfl rfl (Or.inl rfl) rfl ?_
     refine wl_unless 4 false 64 rfl rfl rfl (Or.inl rfl) rfl ?_
     refine wl_unless 4 false 64 rfl rfl rfl (Or.inl rfl) rfl ?_
     refine wl_v (.bool true) rfl rfl (y_pickT rfl rfl rfl ⟨rfl, rfl⟩) ?_
     refine wl_nil fun F190 hF191 => ?_
     have s192 := (hF191 70).trans s153
     have s193 : F190 69 = .bool true := (hF191 69).trans rfl
     clear hF191
     refine then_normal ?_
     refine wq_cond (t := true) s193 (fun _ => ?_) (fun e => by cases e)
     refine wq_seq ?_
     refine wq_region ?_
     refine wl_v (.int .i64 (90)) rfl rfl (y_asg rfl rfl ⟨rfl, rfl⟩) ?_
     refine wl_nil fun F194 hF195 => ?_
     have s196 := (hF195 70).trans s192
     have s197 : F194 4 = .int .i64 (90) := (hF195 4).trans rfl
     clear hF195
     refine then_normal ?_
     refine wq_ret ?_
     refine then_ret ?_
     exact end_tmp (v := .int .i64 (90)) s196 rfl rfl s197 ⟨(by first | rw [chE_bad hb] | rw [chE_far hn hf] | rw [chE_ok hn hfar h1 h2] | rw [chE_no hn hfar (Or.inl (by assumption))] | rw [chE_no hn hfar (Or.inr (by assumption))]), K189⟩
    ·skip
     refine wq_region ?_
     refine wl_v (.pointer (some ⟨p1, 1, none⟩)) rfl rfl (y_fieldR (n := 2) rfl s152 Tryd.underlying27 rfl (by kernel_rfl) (by decide) rfl ⟨rfl, rfl⟩) ?_
     refine wl_v (.agg #[.int .i64 ((c).px), .int .i64 ((c).py)]) rfl rfl (y_ldPart (n := 2) stcT_vector rfl rfl B149 (Nat.le_of_ble_eq_true rfl) rfl ⟨rfl, rfl⟩) ?_
     refine wl_call (R := fun v_ w_ => v_ = .int .i64 (vecE ((c).px) ((c).py)) ∧ Kept (fun _ => False) w142 w_) rfl rfl (y_cs rfl rfl rfl (fun _ _ => by kernel_rfl) (ev_func _) (vsC rfl vsN) (mref_check ((c).px) ((c).py)  _   ) (fun e_ w_ h_ => ⟨_, h_.1, rfl, h_.2⟩)) ?_
     rintro _ w198 ⟨rfl, k199⟩
     have B200 := B149.all k199 id
     have K201 := K143.trans k199 (fun _ _ x => x.elim)
     refine wl_v (.bool false) rfl rfl (y_neqI rfl rfl rfl (decide_eq_false d185) ⟨rfl, rfl⟩) ?_
     refine wl_v (.bool false) rfl rfl (y_mov rfl rfl ⟨rfl, rfl⟩) ?_
     refine wl_vw (.pointer (some ⟨p1, 3, none⟩)) 4 false 64 rfl rfl rfl rfl rfl (y_fieldR (n := 2) rfl s152 Tryd.underlying27 rfl (by kernel_rfl) (by decide) rfl ⟨rfl, rfl⟩) ?_
     refine wl_vw (.agg #[.int .i64 ((c).nx), .int .i64 ((c).ny)]) 4 false 64 rfl rfl rfl rfl rfl (y_ldPart (n := 2) stcT_vector rfl rfl B200 (Nat.le_of_ble_eq_true rfl) rfl ⟨rfl, rfl⟩) ?_
     refine wl_callw (R := fun v_ w_ => v_ = .int .i64 (vecE ((c).nx) ((c).ny)) ∧ Kept (fun _ => False) w198 w_) 4 false 64 rfl rfl rfl rfl rfl (y_cs rfl rfl rfl (fun _ _ => by kernel_rfl) (ev_func _) (vsC rfl vsN) (mref_check ((c).nx) ((c).ny)  _   ) (fun e_ w_ h_ => ⟨_, h_.1, rfl, h_.2⟩)) ?_
     rintro _ w202 ⟨rfl, k203⟩
     have K205 := K201.trans k203 (fun _ _ x => x.elim)
     refine wl_vw (.bool (decide ((vecE ((c).nx) ((c).ny)) ≠ (0)))) 4 false 64 rfl rfl rfl rfl rfl (y_neqI rfl rfl rfl rfl ⟨rfl, rfl⟩) ?_
     refine wl_v (.bool (decide ((vecE ((c).nx) ((c).ny)) ≠ (0)))) rfl rfl (y_pickF rfl rfl rfl ⟨rfl, rfl⟩) ?_
     refine wl_nil fun F206 hF207 => ?_
     have s208 := (hF207 70).trans s153
     have s209 : F206 69 = .bool (decide ((vecE ((c).nx) ((c).ny)) ≠ (0))) := (hF207 69).trans rfl
     clear hF207
     refine then_normal ?_
     refine wq_cond s209 (fun c210 => ?_) (fun c210 => ?_)
     ·replace c210 := of_decide_eq_true c210
      refine wq_seq ?_
      refine wq_region ?_
      refine wl_v (.int .i64 (90)) rfl rfl (y_asg rfl rfl ⟨rfl, rfl⟩) ?_
      refine wl_nil fun F211 hF212 => ?_
      have s213 := (hF212 70).trans s208
      have s214 : F211 4 = .int .i64 (90) := (hF212 4).trans rfl
      clear hF212
      refine then_normal ?_
      refine wq_ret ?_
      refine then_ret ?_
      exact end_tmp (v := .int .i64 (90)) s213 rfl rfl s214 ⟨(by first | rw [chE_bad hb] | rw [chE_far hn hf] | rw [chE_ok hn hfar h1 h2] | rw [chE_no hn hfar (Or.inl (by assumption))] | rw [chE_no hn hfar (Or.inr (by assumption))]), K205⟩
     ·replace c210 := of_decide_eq_false c210
      refine wq_skip ?_
      refine then_normal ?_
      refine wq_seq ?_
      have h1 : vecE c.px c.py = 0 := by first | assumption | (apply Decidable.byContradiction; assumption)
      have h2 : vecE c.nx c.ny = 0 := by first | assumption | (apply Decidable.byContradiction; assumption)
      refine wq_region ?_
      refine wl_v (.int .i64 (0)) rfl rfl (y_asg rfl rfl ⟨rfl, rfl⟩) ?_
      refine wl_nil fun F215 hF216 => ?_
      have s217 := (hF216 70).trans s208
      have s218 : F215 4 = .int .i64 (0) := (hF216 4).trans rfl
      clear hF216
      refine then_normal ?_
      refine wq_ret ?_
      exact end_tmp (v := .int .i64 (0)) s217 rfl rfl s218 ⟨(by first | rw [chE_bad hb] | rw [chE_far hn hf] | rw [chE_ok hn hfar h1 h2] | rw [chE_no hn hfar (Or.inl (by assumption))] | rw [chE_no hn hfar (Or.inr (by assumption))]), K205⟩
set_option maxHeartbeats 4000000 in
set_option maxRecDepth 100000 in
theorem bref_write (k : Int) (c : Ch) (ax ay bx yy : Int) (w0 : World) :
  Calls Tryd.prog 11 #[.int .i64 (k), .agg (chW (c)).toArray, .agg #[.int .i64 (ax), .int .i64 (ay)], .agg #[.int .i64 (bx), .int .i64 (yy)]] w0 fun e w' => e = .returned (.tuple #[.string (strOf (wrCh k c ax ay bx yy)), .int .i64 (chE k c)]) ∧ Kept (fun _ => False) w0 w' := by
 refine calls_wq (args := [.int .i64 (k), .agg (chW (c)).toArray, .agg #[.int .i64 (ax), .int .i64 (ay)], .agg #[.int .i64 (bx), .int .i64 (yy)]]) 44 Tryd.func11 rfl rfl (Nat.le_of_ble_eq_true rfl) ?_
 have K0 := Kept.refl (fun _ => False) w0
 have h1 := vecBits_short c.px c.py ax ay
 have h2 := vecBits_short c.nx c.ny bx yy
 have h3 := wholeBits_short c.m
 have h4 := scanBits_length c.b
 refine wq_seq ?_
 refine wq_region ?_
 refine wl_box_stc (vs := (chW (c))) rfl rfl rfl rfl fun p1 w2 B4 g5 k3 => ?_
 have K7 := K0.trans k3 (fun _ _ x => x.elim)
 refine wl_box_stc (vs := [.int .i64 (ax), .int .i64 (ay)]) rfl rfl rfl rfl fun p8 w9 B11 g12 k10 => ?_
 have B15 := B4.all k10 id
 have K16 := K7.trans k10 (fun _ _ x => x.elim)
 refine wl_box_stc (vs := [.int .i64 (bx), .int .i64 (yy)]) rfl rfl rfl rfl fun p17 w18 B20 g21 k19 => ?_
 have B25 := B15.all k19 id
 have B26 := B11.all k19 id
 have K27 := K16.trans k19 (fun _ _ x => x.elim)
 refine wl_v (.string (strOf ([]))) rfl rfl (y_asg rfl rfl ⟨rfl, rfl⟩) ?_
 refine wl_v (.int .i64 (0)) rfl rfl (y_asg rfl rfl ⟨rfl, rfl⟩) ?_
 refine wl_nil fun F28 hF29 => ?_
 have s30 : F28 0 = .int .i64 (k) := (hF29 0).trans rfl
 have s31 : F28 44 = undef := (hF29 44).trans rfl
 have s32 : F28 5 = .pointer (some ⟨p1, 0, none⟩) := (hF29 5).trans rfl
 have s33 : F28 6 = .pointer (some ⟨p8, 0, none⟩) := (hF29 6).trans rfl
 have s34 : F28 7 = .pointer (some ⟨p17, 0, none⟩) := (hF29 7).trans rfl
 clear hF29
 refine then_normal ?_
 refine wq_seq ?_
 refine wq_region ?_
 refine wl_v (.int .i64 (k)) rfl rfl (y_mov rfl s30 ⟨rfl, rfl⟩) ?_
 refine wl_v (.agg (chW (c)).toArray) rfl rfl (y_load_stc stcT_choice rfl s32 B25 ⟨rfl, rfl⟩) ?_
 refine wl_call (R := fun v_ w_ => v_ = .int .i64 (chE (k) (c)) ∧ Kept (fun _ => False) w18 w_) rfl rfl (y_cs rfl rfl rfl (fun _ _ => by kernel_rfl) (ev_func _) (vsC rfl (vsC rfl vsN)) (bref_check (k) (c)  _   ) (fun e_ w_ h_ => ⟨_, h_.1, rfl, h_.2⟩)) ?_
 rintro _ w35 ⟨rfl, k36⟩
 have B37 := B25.all k36 id
 have B38 := B26.all k36 id
 have B39 := B20.all k36 id
 have K40 := K27.trans k36 (fun _ _ x => x.elim)
 refine wl_v (.int .i64 (chE (k) (c))) rfl rfl (y_asg rfl rfl ⟨rfl, rfl⟩) ?_
 refine wl_nil fun F41 hF42 => ?_
 have s43 := (hF42 44).trans s31
 have s44 := (hF42 5).trans s32
 have s45 := (hF42 6).trans s33
 have s46 := (hF42 7).trans s34
 have s47 : F41 10 = .int .i64 (chE (k) (c)) := (hF42 10).trans rfl
 clear hF42
 refine then_normal ?_
 refine wq_seq ?_
 refine wq_seq ?_
 refine wq_region ?_
 refine wl_v (.int .i64 (chE (k) (c))) rfl rfl (y_mov rfl s47 ⟨rfl, rfl⟩) ?_
 refine wl_v (.bool (decide ((chE (k) (c)) ≠ (0)))) rfl rfl (y_neqI rfl rfl rfl rfl ⟨rfl, rfl⟩) ?_
 refine wl_nil fun F48 hF49 => ?_
 have s50 := (hF49 44).trans s43
 have s51 := (hF49 5).trans s44
 have s52 := (hF49 6).trans s45
 have s53 := (hF49 7).trans s46
 have s54 := (hF49 10).trans s47
 have s55 : F48 16 = .bool (decide ((chE (k) (c)) ≠ (0))) := (hF49 16).trans rfl
 clear hF49
 refine then_normal ?_
 refine wq_cond s55 (fun c56 => ?_) (fun c56 => ?_)
 ·replace c56 := of_decide_eq_true c56
  refine wq_seq ?_
  have hno : wrCh k c ax ay bx yy = [] := if_neg (by assumption)
  refine wq_region ?_
  refine wl_v (.int .i64 (chE (k) (c))) rfl rfl (y_mov rfl s54 ⟨rfl, rfl⟩) ?_
  refine wl_v (.string (strOf ([]))) rfl rfl (y_asg rfl rfl ⟨rfl, rfl⟩) ?_
  refine wl_v (.int .i64 (chE (k) (c))) rfl rfl (y_asg rfl rfl ⟨rfl, rfl⟩) ?_
  refine wl_nil fun F57 hF58 => ?_
  have s59 := (hF58 44).trans s50
  have s60 : F57 8 = .string (strOf ([])) := (hF58 8).trans rfl
  have s61 : F57 9 = .int .i64 (chE (k) (c)) := (hF58 9).trans rfl
  clear hF58
  refine then_normal ?_
  refine wq_ret ?_
  refine then_ret ?_
  exact end_2 s59 rfl (res_tmp (v := .string (strOf ([]))) rfl s60) (res_tmp (v := .int .i64 (chE (k) (c))) rfl s61) ⟨(by first | rw [hno] | (rw [hyes, he]; unfold chBits pastBits nextBits; simp [*])), K40⟩
 ·replace c56 := of_decide_eq_false c56
  refine wq_skip ?_
  refine then_normal ?_
  refine wq_seq ?_
  have hyes : wrCh k c ax ay bx yy = chBits c ax ay bx yy := if_pos (by first | assumption | (apply Decidable.byContradiction; assumption))
  refine wq_region ?_
  refine wl_v (.pointer (some ⟨p1, 0, none⟩)) rfl rfl (y_fieldR (n := 1) rfl s51 Tryd.underlying27 rfl (by kernel_rfl) (by decide) rfl ⟨rfl, rfl⟩) ?_
  refine wl_v (.int .i64 ((c).m)) rfl rfl (y_ld_stc rfl rfl Tryd.underlying3 B37 rfl rfl ⟨rfl, rfl⟩) ?_
  refine wl_call (R := fun v_ w_ => v_ = .string (strOf (wholeBits ((c).m))) ∧ Kept (fun _ => False) w35 w_) rfl rfl (y_cs rfl rfl rfl (fun _ _ => by kernel_rfl) (ev_func _) (vsC rfl vsN) (t_refwhole ((c).m)  _   ) (fun e_ w_ h_ => ⟨_, h_.1, rfl, h_.2⟩)) ?_
  rintro _ w62 ⟨rfl, k63⟩
  have B64 := B37.all k63 id
  have B65 := B38.all k63 id
  have B66 := B39.all k63 id
  have K67 := K40.trans k63 (fun _ _ x => x.elim)
  refine wl_v (.string (strOf (wholeBits ((c).m)))) rfl rfl (y_asg rfl rfl ⟨rfl, rfl⟩) ?_
  refine wl_nil fun F68 hF69 => ?_
  have s70 := (hF69 44).trans s50
  have s71 := (hF69 5).trans s51
  have s72 := (hF69 6).trans s52
  have s73 := (hF69 7).trans s53
  have s74 : F68 11 = .string (strOf (wholeBits ((c).m))) := (hF69 11).trans rfl
  clear hF69
  refine then_normal ?_
  refine wq_seq ?_
  refine wq_seq ?_
  refine wq_region ?_
  refine wl_v (.pointer (some ⟨p1, 0, none⟩)) rfl rfl (y_fieldR (n := 1) rfl s71 Tryd.underlying27 rfl (by kernel_rfl) (by decide) rfl ⟨rfl, rfl⟩) ?_
  refine wl_v (.int .i64 ((c).m)) rfl rfl (y_ld_stc rfl rfl Tryd.underlying3 B64 rfl rfl ⟨rfl, rfl⟩) ?_
  refine wl_call (R := fun v_ w_ => v_ = .bool (pastB ((c).m)) ∧ Kept (fun _ => False) w62 w_) rfl rfl (y_cs rfl rfl rfl (fun _ _ => by kernel_rfl) (ev_func _) (vsC rfl vsN) (bref_past ((c).m)  _   ) (fun e_ w_ h_ => ⟨_, h_.1, rfl, h_.2⟩)) ?_
  rintro _ w75 ⟨rfl, k76⟩
  have B77 := B64.all k76 id
  have B78 := B65.all k76 id
  have B79 := B66.all k76 id
  have K80 := K67.trans k76 (fun _ _ x => x.elim)
  refine wl_nil fun F81 hF82 => ?_
  have s83 := (hF82 44).trans s70
  have s84 := (hF82 5).trans s71
  have s85 := (hF82 6).trans s72
  have s86 := (hF82 7).trans s73
  have s87 := (hF82 11).trans s74
  have s88 : F81 23 = .bool (pastB ((c).m)) := (hF82 23).trans rfl
  clear hF82
  refine then_normal ?_
  refine wq_cond s88 (fun c89 => ?_) (fun c89 => ?_)
  ·skip
   refine wq_region ?_
   refine wl_v (.string (strOf (wholeBits ((c).m)))) rfl rfl (y_mov rfl s87 ⟨rfl, rfl⟩) ?_
   refine wl_v (.pointer (some ⟨p1, 1, none⟩)) rfl rfl (y_fieldR (n := 2) rfl s84 Tryd.underlying27 rfl (by kernel_rfl) (by decide) rfl ⟨rfl, rfl⟩) ?_
   refine wl_v (.agg #[.int .i64 ((c).px), .int .i64 ((c).py)]) rfl rfl (y_ldPart (n := 2) stcT_vector rfl rfl B77 (Nat.le_of_ble_eq_true rfl) rfl ⟨rfl, rfl⟩) ?_
   refine wl_v (.agg #[.int .i64 (ax), .int .i64 (ay)]) rfl rfl (y_load_stc stcT_vector rfl s85 B78 ⟨rfl, rfl⟩) ?_
   refine wl_call (R := fun v_ w_ => v_ = .string (strOf (vecBits ((c).px) ((c).py) (ax) (ay))) ∧ Kept (fun _ => False) w75 w_) rfl rfl (y_cs rfl rfl rfl (fun _ _ => by kernel_rfl) (ev_func _) (vsC rfl (vsC rfl vsN)) (vref_write ((c).px) ((c).py) (ax) (ay)  _   ) (fun e_ w_ h_ => ⟨_, h_.1, rfl, h_.2⟩)) ?_
   rintro _ w90 ⟨rfl, k91⟩
   have B92 := B77.all k91 id
   have B94 := B79.all k91 id
   have K95 := K80.trans k91 (fun _ _ x => x.elim)
   refine wl_v (.string (strOf ((wholeBits ((c).m)) ++ (vecBits ((c).px) ((c).py) (ax) (ay))))) rfl rfl (y_catR rfl rfl rfl (by simp [strOf_size]; omega) (strOf_append _ _) ⟨rfl, rfl⟩) ?_
   refine wl_v (.string (strOf ((wholeBits ((c).m)) ++ (vecBits ((c).px) ((c).py) (ax) (ay))))) rfl rfl (y_asg rfl rfl ⟨rfl, rfl⟩) ?_
   refine wl_nil fun F96 hF97 => ?_
   have s98 := (hF97 44).trans s83
   have s99 := (hF97 5).trans s84
   have s100 := (hF97 7).trans s86
   have s101 : F96 11 = .string (strOf ((wholeBits ((c).m)) ++ (vecBits ((c).px) ((c).py) (ax) (ay)))) := (hF97 11).trans rfl
   clear hF97
   refine then_normal ?_
   refine wq_seq ?_
   refine wq_seq ?_
   refine wq_region ?_
   refine wl_v (.pointer (some ⟨p1, 0, none⟩)) rfl rfl (y_fieldR (n := 1) rfl s99 Tryd.underlying27 rfl (by kernel_rfl) (by decide) rfl ⟨rfl, rfl⟩) ?_
   refine wl_v (.int .i64 ((c).m)) rfl rfl (y_ld_stc rfl rfl Tryd.underlying3 B92 rfl rfl ⟨rfl, rfl⟩) ?_
   refine wl_call (R := fun v_ w_ => v_ = .bool (nextB ((c).m)) ∧ Kept (fun _ => False) w90 w_) rfl rfl (y_cs rfl rfl rfl (fun _ _ => by kernel_rfl) (ev_func _) (vsC rfl vsN) (bref_next ((c).m)  _   ) (fun e_ w_ h_ => ⟨_, h_.1, rfl, h_.2⟩)) ?_
   rintro _ w102 ⟨rfl, k103⟩
   have B104 := B92.all k103 id
   have B106 := B94.all k103 id
   have K107 := K95.trans k103 (fun _ _ x => x.elim)
   refine wl_nil fun F108 hF109 => ?_
   have s110 := (hF109 44).trans s98
   have s111 := (hF109 5).trans s99
   have s112 := (hF109 7).trans s100
   have s113 := (hF109 11).trans s101
   have s114 : F108 32 = .bool (nextB ((c).m)) := (hF109 32).trans rfl
   clear hF109
   refine then_normal ?_
   refine wq_cond s114 (fun c115 => ?_) (fun c115 => ?_)
   ·skip
    refine wq_region ?_
    refine wl_v (.string (strOf ((wholeBits ((c).m)) ++ (vecBits ((c).px) ((c).py) (ax) (ay))))) rfl rfl (y_mov rfl s113 ⟨rfl, rfl⟩) ?_
    refine wl_v (.pointer (some ⟨p1, 3, none⟩)) rfl rfl (y_fieldR (n := 2) rfl s111 Tryd.underlying27 rfl (by kernel_rfl) (by decide) rfl ⟨rfl, rfl⟩) ?_
    refine wl_v (.agg #[.int .i64 ((c).nx), .int .i64 ((c).ny)]) rfl rfl (y_ldPart (n := 2) stcT_vector rfl rfl B104 (Nat.le_of_ble_eq_true rfl) rfl ⟨rfl, rfl⟩) ?_
    refine wl_v (.agg #[.int .i64 (bx), .int .i64 (yy)]) rfl rfl (y_load_stc stcT_vector rfl s112 B106 ⟨rfl, rfl⟩) ?_
    refine wl_call (R := fun v_ w_ => v_ = .string (strOf (vecBits ((c).nx) ((c).ny) (bx) (yy))) ∧ Kept (fun _ => False) w102 w_) rfl rfl (y_cs rfl rfl rfl (fun _ _ => by kernel_rfl) (ev_func _) (vsC rfl (vsC rfl vsN)) (vref_write ((c).nx) ((c).ny) (bx) (yy)  _   ) (fun e_ w_ h_ => ⟨_, h_.1, rfl, h_.2⟩)) ?_
    rintro _ w116 ⟨rfl, k117⟩
    have B118 := B104.all k117 id
    have K121 := K107.trans k117 (fun _ _ x => x.elim)
    refine wl_v (.string (strOf (((wholeBits ((c).m)) ++ (vecBits ((c).px) ((c).py) (ax) (ay))) ++ (vecBits ((c).nx) ((c).ny) (bx) (yy))))) rfl rfl (y_catR rfl rfl rfl (by simp [strOf_size]; omega) (strOf_append _ _) ⟨rfl, rfl⟩) ?_
    refine wl_v (.string (strOf (((wholeBits ((c).m)) ++ (vecBits ((c).px) ((c).py) (ax) (ay))) ++ (vecBits ((c).nx) ((c).ny) (bx) (yy))))) rfl rfl (y_asg rfl rfl ⟨rfl, rfl⟩) ?_
    refine wl_nil fun F122 hF123 => ?_
    have s124 := (hF123 44).trans s110
    have s125 := (hF123 5).trans s111
    have s126 : F122 11 = .string (strOf (((wholeBits ((c).m)) ++ (vecBits ((c).px) ((c).py) (ax) (ay))) ++ (vecBits ((c).nx) ((c).ny) (bx) (yy)))) := (hF123 11).trans rfl
    clear hF123
    refine then_normal ?_
    refine wq_seq ?_
    have he : chE k c = 0 := by first | assumption | (apply Decidable.byContradiction; assumption)
    refine wq_region ?_
    refine wl_v (.string (strOf (((wholeBits ((c).m)) ++ (vecBits ((c).px) ((c).py) (ax) (ay))) ++ (vecBits ((c).nx) ((c).ny) (bx) (yy))))) rfl rfl (y_mov rfl s126 ⟨rfl, rfl⟩) ?_
    refine wl_v (.pointer (some ⟨p1, 5, none⟩)) rfl rfl (y_fieldR (n := 16) rfl s125 Tryd.underlying27 rfl (by kernel_rfl) (by decide) rfl ⟨rfl, rfl⟩) ?_
    refine wl_v (blkV ((c).b)) rfl rfl (y_ldPart (n := 16) (us := arrL 16 ((c).b)) stcT_block rfl rfl B118 (Nat.le_of_ble_eq_true rfl) rfl ⟨rfl, rfl⟩) ?_
    refine wl_call (R := fun v_ w_ => v_ = .string (strOf (scanBits ((c).b))) ∧ Kept (fun _ => False) w116 w_) rfl rfl (y_cs rfl rfl rfl (fun _ _ => by kernel_rfl) (ev_func _) (vsC rfl vsN) (sref_write ((c).b)  _   ) (fun e_ w_ h_ => ⟨_, h_.1, rfl, h_.2⟩)) ?_
    rintro _ w127 ⟨rfl, k128⟩
    have K132 := K121.trans k128 (fun _ _ x => x.elim)
    refine wl_v (.string (strOf ((((wholeBits ((c).m)) ++ (vecBits ((c).px) ((c).py) (ax) (ay))) ++ (vecBits ((c).nx) ((c).ny) (bx) (yy))) ++ (scanBits ((c).b))))) rfl rfl (y_catR rfl rfl rfl (by simp [strOf_size]; omega) (strOf_append _ _) ⟨rfl, rfl⟩) ?_
    refine wl_v (.string (strOf ((((wholeBits ((c).m)) ++ (vecBits ((c).px) ((c).py) (ax) (ay))) ++ (vecBits ((c).nx) ((c).ny) (bx) (yy))) ++ (scanBits ((c).b))))) rfl rfl (y_asg rfl rfl ⟨rfl, rfl⟩) ?_
    refine wl_v (.int .i64 (0)) rfl rfl (y_asg rfl rfl ⟨rfl, rfl⟩) ?_
    refine wl_nil fun F133 hF134 => ?_
    have s135 := (hF134 44).trans s124
    have s136 : F133 8 = .string (strOf ((((wholeBits ((c).m)) ++ (vecBits ((c).px) ((c).py) (ax) (ay))) ++ (vecBits ((c).nx) ((c).ny) (bx) (yy))) ++ (scanBits ((c).b)))) := (hF134 8).trans rfl
    have s137 : F133 9 = .int .i64 (0) := (hF134 9).trans rfl
    clear hF134
    refine then_normal ?_
    refine wq_ret ?_
    exact end_2 s135 rfl (res_tmp (v := .string (strOf ((((wholeBits ((c).m)) ++ (vecBits ((c).px) ((c).py) (ax) (ay))) ++ (vecBits ((c).nx) ((c).ny) (bx) (yy))) ++ (scanBits ((c).b))))) rfl s136) (res_tmp (v := .int .i64 (0)) rfl s137) ⟨(by first | rw [hno] | (rw [hyes, he]; unfold chBits pastBits nextBits; simp [*])), K132⟩
   ·skip
    refine wq_skip ?_
    refine then_normal ?_
    refine wq_seq ?_
    have he : chE k c = 0 := by first | assumption | (apply Decidable.byContradiction; assumption)
    refine wq_region ?_
    refine wl_v (.string (strOf ((wholeBits ((c).m)) ++ (vecBits ((c).px) ((c).py) (ax) (ay))))) rfl rfl (y_mov rfl s113 ⟨rfl, rfl⟩) ?_
    refine wl_v (.pointer (some ⟨p1, 5, none⟩)) rfl rfl (y_fieldR (n := 16) rfl s111 Tryd.underlying27 rfl (by kernel_rfl) (by decide) rfl ⟨rfl, rfl⟩) ?_
    refine wl_v (blkV ((c).b)) rfl rfl (y_ldPart (n := 16) (us := arrL 16 ((c).b)) stcT_block rfl rfl B104 (Nat.le_of_ble_eq_true rfl) rfl ⟨rfl, rfl⟩) ?_
    refine wl_call (R := fun v_ w_ => v_ = .string (strOf (scanBits ((c).b))) ∧ Kept (fun _ => False) w102 w_) rfl rfl (y_cs rfl rfl rfl (fun _ _ => by kernel_rfl) (ev_func _) (vsC rfl vsN) (sref_write ((c).b)  _   ) (fun e_ w_ h_ => ⟨_, h_.1, rfl, h_.2⟩)) ?_
    rintro _ w138 ⟨rfl, k139⟩
    have K143 := K107.trans k139 (fun _ _ x => x.elim)
    refine wl_v (.string (strOf (((wholeBits ((c).m)) ++ (vecBits ((c).px) ((c).py) (ax) (ay))) ++ (scanBits ((c).b))))) rfl rfl (y_catR rfl rfl rfl (by simp [strOf_size]; omega) (strOf_append _ _) ⟨rfl, rfl⟩) ?_
    refine wl_v (.string (strOf (((wholeBits ((c).m)) ++ (vecBits ((c).px) ((c).py) (ax) (ay))) ++ (scanBits ((c).b))))) rfl rfl (y_asg rfl rfl ⟨rfl, rfl⟩) ?_
    refine wl_v (.int .i64 (0)) rfl rfl (y_asg rfl rfl ⟨rfl, rfl⟩) ?_
    refine wl_nil fun F144 hF145 => ?_
    have s146 := (hF145 44).trans s110
    have s147 : F144 8 = .string (strOf (((wholeBits ((c).m)) ++ (vecBits ((c).px) ((c).py) (ax) (ay))) ++ (scanBits ((c).b)))) := (hF145 8).trans rfl
    have s148 : F144 9 = .int .i64 (0) := (hF145 9).trans rfl
    clear hF145
    refine then_normal ?_
    refine wq_ret ?_
    exact end_2 s146 rfl (res_tmp (v := .string (strOf (((wholeBits ((c).m)) ++ (vecBits ((c).px) ((c).py) (ax) (ay))) ++ (scanBits ((c).b))))) rfl s147) (res_tmp (v := .int .i64 (0)) rfl s148) ⟨(by first | rw [hno] | (rw [hyes, he]; unfold chBits pastBits nextBits; simp [*])), K143⟩
  ·skip
   refine wq_skip ?_
   refine then_normal ?_
   refine wq_seq ?_
   refine wq_seq ?_
   refine wq_region ?_
   refine wl_v (.pointer (some ⟨p1, 0, none⟩)) rfl rfl (y_fieldR (n := 1) rfl s84 Tryd.underlying27 rfl (by kernel_rfl) (by decide) rfl ⟨rfl, rfl⟩) ?_
   refine wl_v (.int .i64 ((c).m)) rfl rfl (y_ld_stc rfl rfl Tryd.underlying3 B77 rfl rfl ⟨rfl, rfl⟩) ?_
   refine wl_call (R := fun v_ w_ => v_ = .bool (nextB ((c).m)) ∧ Kept (fun _ => False) w75 w_) rfl rfl (y_cs rfl rfl rfl (fun _ _ => by kernel_rfl) (ev_func _) (vsC rfl vsN) (bref_next ((c).m)  _   ) (fun e_ w_ h_ => ⟨_, h_.1, rfl, h_.2⟩)) ?_
   rintro _ w149 ⟨rfl, k150⟩
   have B151 := B77.all k150 id
   have B153 := B79.all k150 id
   have K154 := K80.trans k150 (fun _ _ x => x.elim)
   refine wl_nil fun F155 hF156 => ?_
   have s157 := (hF156 44).trans s83
   have s158 := (hF156 5).trans s84
   have s159 := (hF156 7).trans s86
   have s160 := (hF156 11).trans s87
   have s161 : F155 32 = .bool (nextB ((c).m)) := (hF156 32).trans rfl
   clear hF156
   refine then_normal ?_
   refine wq_cond s161 (fun c162 => ?_) (fun c162 => ?_)
   ·skip
    refine wq_region ?_
    refine wl_v (.string (strOf (wholeBits ((c).m)))) rfl rfl (y_mov rfl s160 ⟨rfl, rfl⟩) ?_
    refine wl_v (.pointer (some ⟨p1, 3, none⟩)) rfl rfl (y_fieldR (n := 2) rfl s158 Tryd.underlying27 rfl (by kernel_rfl) (by decide) rfl ⟨rfl, rfl⟩) ?_
    refine wl_v (.agg #[.int .i64 ((c).nx), .int .i64 ((c).ny)]) rfl rfl (y_ldPart (n := 2) stcT_vector rfl rfl B151 (Nat.le_of_ble_eq_true rfl) rfl ⟨rfl, rfl⟩) ?_
    refine wl_v (.agg #[.int .i64 (bx), .int .i64 (yy)]) rfl rfl (y_load_stc stcT_vector rfl s159 B153 ⟨rfl, rfl⟩) ?_
    refine wl_call (R := fun v_ w_ => v_ = .string (strOf (vecBits ((c).nx) ((c).ny) (bx) (yy))) ∧ Kept (fun _ => False) w149 w_) rfl rfl (y_cs rfl rfl rfl (fun _ _ => by kernel_rfl) (ev_func _) (vsC rfl (vsC rfl vsN)) (vref_write ((c).nx) ((c).ny) (bx) (yy)  _   ) (fun e_ w_ h_ => ⟨_, h_.1, rfl, h_.2⟩)) ?_
    rintro _ w163 ⟨rfl, k164⟩
    have B165 := B151.all k164 id
    have K168 := K154.trans k164 (fun _ _ x => x.elim)
    refine wl_v (.string (strOf ((wholeBits ((c).m)) ++ (vecBits ((c).nx) ((c).ny) (bx) (yy))))) rfl rfl (y_catR rfl rfl rfl (by simp [strOf_size]; omega) (strOf_append _ _) ⟨rfl, rfl⟩) ?_
    refine wl_v (.string (strOf ((wholeBits ((c).m)) ++ (vecBits ((c).nx) ((c).ny) (bx) (yy))))) rfl rfl (y_asg rfl rfl ⟨rfl, rfl⟩) ?_
    refine wl_nil fun F169 hF170 => ?_
    have s171 := (hF170 44).trans s157
    have s172 := (hF170 5).trans s158
    have s173 : F169 11 = .string (strOf ((wholeBits ((c).m)) ++ (vecBits ((c).nx) ((c).ny) (bx) (yy)))) := (hF170 11).trans rfl
    clear hF170
    refine then_normal ?_
    refine wq_seq ?_
    have he : chE k c = 0 := by first | assumption | (apply Decidable.byContradiction; assumption)
    refine wq_region ?_
    refine wl_v (.string (strOf ((wholeBits ((c).m)) ++ (vecBits ((c).nx) ((c).ny) (bx) (yy))))) rfl rfl (y_mov rfl s173 ⟨rfl, rfl⟩) ?_
    refine wl_v (.pointer (some ⟨p1, 5, none⟩)) rfl rfl (y_fieldR (n := 16) rfl s172 Tryd.underlying27 rfl (by kernel_rfl) (by decide) rfl ⟨rfl, rfl⟩) ?_
    refine wl_v (blkV ((c).b)) rfl rfl (y_ldPart (n := 16) (us := arrL 16 ((c).b)) stcT_block rfl rfl B165 (Nat.le_of_ble_eq_true rfl) rfl ⟨rfl, rfl⟩) ?_
    refine wl_call (R := fun v_ w_ => v_ = .string (strOf (scanBits ((c).b))) ∧ Kept (fun _ => False) w163 w_) rfl rfl (y_cs rfl rfl rfl (fun _ _ => by kernel_rfl) (ev_func _) (vsC rfl vsN) (sref_write ((c).b)  _   ) (fun e_ w_ h_ => ⟨_, h_.1, rfl, h_.2⟩)) ?_
    rintro _ w174 ⟨rfl, k175⟩
    have K179 := K168.trans k175 (fun _ _ x => x.elim)
    refine wl_v (.string (strOf (((wholeBits ((c).m)) ++ (vecBits ((c).nx) ((c).ny) (bx) (yy))) ++ (scanBits ((c).b))))) rfl rfl (y_catR rfl rfl rfl (by simp [strOf_size]; omega) (strOf_append _ _) ⟨rfl, rfl⟩) ?_
    refine wl_v (.string (strOf (((wholeBits ((c).m)) ++ (vecBits ((c).nx) ((c).ny) (bx) (yy))) ++ (scanBits ((c).b))))) rfl rfl (y_asg rfl rfl ⟨rfl, rfl⟩) ?_
    refine wl_v (.int .i64 (0)) rfl rfl (y_asg rfl rfl ⟨rfl, rfl⟩) ?_
    refine wl_nil fun F180 hF181 => ?_
    have s182 := (hF181 44).trans s171
    have s183 : F180 8 = .string (strOf (((wholeBits ((c).m)) ++ (vecBits ((c).nx) ((c).ny) (bx) (yy))) ++ (scanBits ((c).b)))) := (hF181 8).trans rfl
    have s184 : F180 9 = .int .i64 (0) := (hF181 9).trans rfl
    clear hF181
    refine then_normal ?_
    refine wq_ret ?_
    exact end_2 s182 rfl (res_tmp (v := .string (strOf (((wholeBits ((c).m)) ++ (vecBits ((c).nx) ((c).ny) (bx) (yy))) ++ (scanBits ((c).b))))) rfl s183) (res_tmp (v := .int .i64 (0)) rfl s184) ⟨(by first | rw [hno] | (rw [hyes, he]; unfold chBits pastBits nextBits; simp [*])), K179⟩
   ·skip
    refine wq_skip ?_
    refine then_normal ?_
    refine wq_seq ?_
    have he : chE k c = 0 := by first | assumption | (apply Decidable.byContradiction; assumption)
    refine wq_region ?_
    refine wl_v (.string (strOf (wholeBits ((c).m)))) rfl rfl (y_mov rfl s160 ⟨rfl, rfl⟩) ?_
    refine wl_v (.pointer (some ⟨p1, 5, none⟩)) rfl rfl (y_fieldR (n := 16) rfl s158 Tryd.underlying27 rfl (by kernel_rfl) (by decide) rfl ⟨rfl, rfl⟩) ?_
    refine wl_v (blkV ((c).b)) rfl rfl (y_ldPart (n := 16) (us := arrL 16 ((c).b)) stcT_block rfl rfl B151 (Nat.le_of_ble_eq_true rfl) rfl ⟨rfl, rfl⟩) ?_
    refine wl_call (R := fun v_ w_ => v_ = .string (strOf (scanBits ((c).b))) ∧ Kept (fun _ => False) w149 w_) rfl rfl (y_cs rfl rfl rfl (fun _ _ => by kernel_rfl) (ev_func _) (vsC rfl vsN) (sref_write ((c).b)  _   ) (fun e_ w_ h_ => ⟨_, h_.1, rfl, h_.2⟩)) ?_
    rintro _ w185 ⟨rfl, k186⟩
    have K190 := K154.trans k186 (fun _ _ x => x.elim)
    refine wl_v (.string (strOf ((wholeBits ((c).m)) ++ (scanBits ((c).b))))) rfl rfl (y_catR rfl rfl rfl (by simp [strOf_size]; omega) (strOf_append _ _) ⟨rfl, rfl⟩) ?_
    refine wl_v (.string (strOf ((wholeBits ((c).m)) ++ (scanBits ((c).b))))) rfl rfl (y_asg rfl rfl ⟨rfl, rfl⟩) ?_
    refine wl_v (.int .i64 (0)) rfl rfl (y_asg rfl rfl ⟨rfl, rfl⟩) ?_
    refine wl_nil fun F191 hF192 => ?_
    have s193 := (hF192 44).trans s157
    have s194 : F191 8 = .string (strOf ((wholeBits ((c).m)) ++ (scanBits ((c).b)))) := (hF192 8).trans rfl
    have s195 : F191 9 = .int .i64 (0) := (hF192 9).trans rfl
    clear hF192
    refine then_normal ?_
    refine wq_ret ?_
    exact end_2 s193 rfl (res_tmp (v := .string (strOf ((wholeBits ((c).m)) ++ (scanBits ((c).b))))) rfl s194) (res_tmp (v := .int .i64 (0)) rfl s195) ⟨(by first | rw [hno] | (rw [hyes, he]; unfold chBits pastBits nextBits; simp [*])), K190⟩
set_option maxHeartbeats 4000000 in
set_option maxRecDepth 100000 in
theorem bref_read (p : Nat) (l : List Nat) (st : Option Nat) (k ax ay bx yy : Int) (T_r : Nat → Prop) (w0 : World) (h_r : Rfi w0 T_r p (l) (st)) :
  Calls Tryd.prog 14 #[.pointer (some ⟨p, 0, none⟩), .int .i64 (k), .agg #[.int .i64 (ax), .int .i64 (ay)], .agg #[.int .i64 (bx), .int .i64 (yy)]] w0 fun e w' => ∃ (T_r' : Nat → Prop), e = .returned (.tuple #[.agg (chW ((rdCh l k ax ay bx yy st).1)).toArray, .int .i64 ((rdCh l k ax ay bx yy st).2.1)]) ∧ Kept (T_r) w0 w' ∧ (Rfi w' T_r' p (l) ((rdCh l k ax ay bx yy st).2.2) ∧ Grew w0 T_r T_r') := by
 refine calls_wq (args := [.pointer (some ⟨p, 0, none⟩), .int .i64 (k), .agg #[.int .i64 (ax), .int .i64 (ay)], .agg #[.int .i64 (bx), .int .i64 (yy)]]) 69 Tryd.func14 rfl rfl (Nat.le_of_ble_eq_true rfl) ?_
 have K0 := Kept.refl (T_r) w0
 have g_r := Grew.refl w0 T_r
 refine wq_seq ?_
 refine wq_region ?_
 refine wl_box_stc (vs := [.int .i64 (ax), .int .i64 (ay)]) rfl rfl rfl rfl fun p1 w2 B4 g5 k3 => ?_
 have ap7 : Apart (onB p1) (T_r) := Apart.new g5 (h_r).live
 have B8 := h_r.all k3 Apart.none
 have K9 := K0.trans k3 (fun _ _ x => x.elim)
 refine wl_box_stc (vs := [.int .i64 (bx), .int .i64 (yy)]) rfl rfl rfl rfl fun p10 w11 B13 g14 k12 => ?_
 have ap16 : Apart (onB p10) (T_r) := Apart.new g14 (B8).live
 have B18 := B8.all k12 Apart.none
 have B19 := B4.all k12 id
 have K20 := K9.trans k12 (fun _ _ x => x.elim)
 refine wl_alloc_stc (n := 21) (vs := (chL 0 0 0 0 0 (fun _ => (0 : Int)))) rfl rfl rfl (by kernel_rfl) fun p21 w22 B24 g25 k23 => ?_
 have gr26 : Grew w0 noB (onB p21) := Grew.new K20 g25
 have ap27 : Apart (onB p21) (T_r) := Apart.new g25 (B18).live
 have B30 := B18.all k23 Apart.none
 have B31 := B19.all k23 id
 have B32 := B13.all k23 id
 have K33 := K20.trans k23 (fun _ _ x => x.elim)
 refine wl_v (.int .i64 (0)) rfl rfl (y_asg rfl rfl ⟨rfl, rfl⟩) ?_
 refine wl_nil fun F34 hF35 => ?_
 have s36 : F34 0 = .pointer (some ⟨p, 0, none⟩) := (hF35 0).trans rfl
 have s37 : F34 1 = .int .i64 (k) := (hF35 1).trans rfl
 have s38 : F34 69 = undef := (hF35 69).trans rfl
 have s39 : F34 6 = .pointer (some ⟨p1, 0, none⟩) := (hF35 6).trans rfl
 have s40 : F34 7 = .pointer (some ⟨p10, 0, none⟩) := (hF35 7).trans rfl
 have s41 : F34 8 = .pointer (some ⟨p21, 0, none⟩) := (hF35 8).trans rfl
 clear hF35
 refine then_normal ?_
 refine wq_seq ?_
 refine wq_region ?_
 refine wl_v (.pointer (some ⟨p, 0, none⟩)) rfl rfl (y_mov rfl s36 ⟨rfl, rfl⟩) ?_
 refine wl_v (.int .i64 (k)) rfl rfl (y_mov rfl s37 ⟨rfl, rfl⟩) ?_
 refine wl_call (R := fun v_ w_ => v_ = .int .i64 (mostK (k)) ∧ Kept (fun _ => False) w22 w_) rfl rfl (y_cs rfl rfl rfl (fun _ _ => by kernel_rfl) (ev_func _) (vsC rfl vsN) (bref_most (k)  _   ) (fun e_ w_ h_ => ⟨_, h_.1, rfl, h_.2⟩)) ?_
 rintro _ w42 ⟨rfl, k43⟩
 have B44 := B30.all k43 Apart.none
 have B45 := B31.all k43 id
 have B46 := B32.all k43 id
 have B47 := B24.all k43 id
 have K48 := K33.trans k43 (fun _ _ x => x.elim)
 refine wl_call (R := fun v_ w_ => ∃ (T51 : Nat → Prop), .int .i64 ((rdStep (wholeRd (l) (mostK (k))) (st)).1) = v_ ∧ Kept (T_r) w42 w_ ∧ (Rfi w_ T51 p ((l)) ((rdStep (wholeRd (l) (mostK (k))) (st)).2) ∧ Grew w42 (T_r) T51)) rfl rfl (y_cs rfl rfl rfl (fun _ _ => by kernel_rfl) (ev_func _) (vsC rfl (vsC rfl vsN)) (t_fwhole (p) (l) (st) (mostK (k)) (T_r) _  B44 ) (fun e_ w_ h_ => by obtain ⟨T51_, he_, hr_⟩ := h_; exact ⟨_, he_, T51_, rfl, hr_⟩)) ?_
 rintro _ w49 ⟨T51, rfl, k50, ⟨B52, g53⟩⟩
 have B54 := B45.all k50 (fun x => ((ap7) p1 rfl x))
 have B55 := B46.all k50 (fun x => ((ap16) p10 rfl x))
 have B56 := B47.all k50 (fun x => ((ap27) p21 rfl x))
 have K57 := K48.trans k50 (fun i hi x => ((Grew.ok (S := T_r) g_r (fun _ x => x)) i hi x))
 have gr58 := g_r.trans K48 g53
 have ap60 : Apart T51 (onB p10) := ((ap16).symm).grew g53 (onB_live (B46).lt)
 have ap61 : Apart T51 (onB p21) := ((ap27).symm).grew g53 (onB_live (B47).lt)
 refine wl_v (.agg (chL ((rdStep (wholeRd (l) (mostK (k))) (st)).1) 0 0 0 0 (fun _ => (0 : Int))).toArray) rfl rfl (y_buildL (l' := [(0, .int .i64 ((rdStep (wholeRd (l) (mostK (k))) (st)).1))]) (cells := (chL ((rdStep (wholeRd (l) (mostK (k))) (st)).1) 0 0 0 0 (fun _ => (0 : Int))).toArray) rfl (bpC rfl bpN) (by kernel_rfl) rfl ⟨rfl, rfl⟩) ?_
 refine wl_alloc_stc (n := 21) (vs := (chL 0 0 0 0 0 (fun _ => (0 : Int)))) rfl rfl rfl (by kernel_rfl) fun p62 w63 B65 g66 k64 => ?_
 have gr67 : Grew w0 noB (onB p62) := Grew.new K57 g66
 have ap68 : Apart (onB p62) (T51) := Apart.new g66 (B52).live
 have ap69 : Apart (onB p62) (onB p1) := Apart.new g66 (onB_live (B54).lt)
 have ap70 : Apart (onB p62) (onB p10) := Apart.new g66 (onB_live (B55).lt)
 have ap71 : Apart (onB p62) (onB p21) := Apart.new g66 (onB_live (B56).lt)
 have B72 := B52.all k64 Apart.none
 have B73 := B54.all k64 id
 have B74 := B55.all k64 id
 have B75 := B56.all k64 id
 have K76 := K57.trans k64 (fun _ _ x => x.elim)
 refine wl_store_stc (us := (chL ((rdStep (wholeRd (l) (mostK (k))) (st)).1) 0 0 0 0 (fun _ => (0 : Int)))) stcT_choice rfl rfl rfl rfl rfl B65 rfl (oneI rfl (oneI rfl (oneI rfl (oneI rfl (oneI rfl (oneI rfl (oneI rfl (oneI rfl (oneI rfl (oneI rfl (oneI rfl (oneI rfl (oneI rfl (oneI rfl (oneI rfl (oneI rfl (oneI rfl (oneI rfl (oneI rfl (oneI rfl (oneI rfl oneN))))))))))))))))))))) fun w77 B78 k79 => ?_
 have B80 := B72.all k79 (fun i h x => (((ap68).symm) i h x))
 have B81 := B73.all k79 (fun x => (((ap69).symm) p1 rfl x))
 have B82 := B74.all k79 (fun x => (((ap70).symm) p10 rfl x))
 have B83 := B75.all k79 (fun x => (((ap71).symm) p21 rfl x))
 have K84 := K76.trans k79 (Grew.ok (S := T_r) gr67 noB_le)
 refine wl_nil fun F85 hF86 => ?_
 have s87 := (hF86 0).trans s36
 have s88 := (hF86 69).trans s38
 have s89 := (hF86 6).trans s39
 have s90 := (hF86 7).trans s40
 have s91 := (hF86 8).trans s41
 have s92 : F85 10 = .pointer (some ⟨p62, 0, none⟩) := (hF86 10).trans rfl
 clear hF86
 refine then_normal ?_
 refine wq_seq ?_
 refine wq_seq ?_
 refine wq_region ?_
 refine wl_v (.pointer (some ⟨p, 0, none⟩)) rfl rfl (y_mov rfl s87 ⟨rfl, rfl⟩) ?_
 refine wl_v (.pointer (some ⟨p, 0, none⟩)) rfl rfl (y_nilc rfl rfl ⟨rfl, rfl⟩) ?_
 refine wl_v (.pointer (some ⟨p, 2, none⟩)) rfl rfl (y_fieldR (n := 1) rfl rfl Tryd.underlying45 rfl (by kernel_rfl) (by decide) rfl ⟨rfl, rfl⟩) ?_
 refine wl_v (.bool (((rdStep (wholeRd (l) (mostK (k))) (st)).2).isNone)) rfl rfl (y_rf_lost rfl rfl B80 rfl ⟨rfl, rfl⟩) ?_
 refine wl_nil fun F93 hF94 => ?_
 have s95 := (hF94 0).trans s87
 have s96 := (hF94 69).trans s88
 have s97 := (hF94 6).trans s89
 have s98 := (hF94 7).trans s90
 have s99 := (hF94 8).trans s91
 have s100 := (hF94 10).trans s92
 have s101 : F93 25 = .bool (((rdStep (wholeRd (l) (mostK (k))) (st)).2).isNone) := (hF94 25).trans rfl
 clear hF94
 refine then_normal ?_
 refine wq_cond s101 (fun c102 => ?_) (fun c102 => ?_)
 ·skip
  refine wq_seq ?_
  have hR : rdCh l k ax ay bx yy st = (ch0, 120, (rdStep (wholeRd l (mostK k)) st).2) := by unfold rdCh rd1; rw [if_pos (by assumption)]
  refine wq_region ?_
  refine wl_v (.agg (chL 0 0 0 0 0 (fun _ => (0 : Int))).toArray) rfl rfl (y_buildL (l' := []) (cells := (chL 0 0 0 0 0 (fun _ => (0 : Int))).toArray) rfl bpN (by kernel_rfl) rfl ⟨rfl, rfl⟩) ?_
  refine wl_store_stc (us := (chL 0 0 0 0 0 (fun _ => (0 : Int)))) stcT_choice rfl rfl rfl s99 rfl B83 rfl (oneI rfl (oneI rfl (oneI rfl (oneI rfl (oneI rfl (oneI rfl (oneI rfl (oneI rfl (oneI rfl (oneI rfl (oneI rfl (oneI rfl (oneI rfl (oneI rfl (oneI rfl (oneI rfl (oneI rfl (oneI rfl (oneI rfl (oneI rfl (oneI rfl oneN))))))))))))))))))))) fun w103 B104 k105 => ?_
  have B106 := B80.all k105 (fun i h x => ((ap61) i h x))
  have K110 := K84.trans k105 (Grew.ok (S := T_r) gr26 noB_le)
  refine wl_v (.int .i64 (120)) rfl rfl (y_asg rfl rfl ⟨rfl, rfl⟩) ?_
  refine wl_nil fun F111 hF112 => ?_
  have s113 := (hF112 69).trans s96
  have s114 := (hF112 8).trans s99
  have s115 : F111 9 = .int .i64 (120) := (hF112 9).trans rfl
  clear hF112
  refine then_normal ?_
  refine wq_ret ?_
  refine then_ret ?_
  exact end_2 s113 rfl (res_stc (vs := (chL 0 0 0 0 0 (fun _ => (0 : Int)))) stcT_choice rfl s114 B104) (res_tmp (v := .int .i64 (120)) rfl s115) ⟨T51, (by rw [hR] <;> rfl), K110, ⟨(by rw [hR]; exact B106), gr58⟩⟩
 ·skip
  refine wq_skip ?_
  refine then_normal ?_
  refine wq_seq ?_
  refine wq_seq ?_
  have h1 : rdCh l k ax ay bx yy st = rd2 l (rdStep (wholeRd l (mostK k)) st).1 bx yy (stV (pastB (rdStep (wholeRd l (mostK k)) st).1) l ax ay (rdStep (wholeRd l (mostK k)) st).2) := by unfold rdCh rd1; rw [if_neg (by simp [*])]
  refine wq_region ?_
  refine wl_v (.pointer (some ⟨p62, 0, none⟩)) rfl rfl (y_fieldR (n := 1) rfl s100 Tryd.underlying27 rfl (by kernel_rfl) (by decide) rfl ⟨rfl, rfl⟩) ?_
  refine wl_v (.int .i64 ((rdStep (wholeRd (l) (mostK (k))) (st)).1)) rfl rfl (y_ld_stc rfl rfl Tryd.underlying3 B78 rfl rfl ⟨rfl, rfl⟩) ?_
  refine wl_call (R := fun v_ w_ => v_ = .bool (pastB ((rdStep (wholeRd (l) (mostK (k))) (st)).1)) ∧ Kept (fun _ => False) w77 w_) rfl rfl (y_cs rfl rfl rfl (fun _ _ => by kernel_rfl) (ev_func _) (vsC rfl vsN) (bref_past ((rdStep (wholeRd (l) (mostK (k))) (st)).1)  _   ) (fun e_ w_ h_ => ⟨_, h_.1, rfl, h_.2⟩)) ?_
  rintro _ w116 ⟨rfl, k117⟩
  have B118 := B80.all k117 Apart.none
  have B119 := B81.all k117 id
  have B120 := B82.all k117 id
  have B121 := B83.all k117 id
  have B122 := B78.all k117 id
  have K123 := K84.trans k117 (fun _ _ x => x.elim)
  refine wl_nil fun F124 hF125 => ?_
  have s126 := (hF125 0).trans s95
  have s127 := (hF125 69).trans s96
  have s128 := (hF125 6).trans s97
  have s129 := (hF125 7).trans s98
  have s130 := (hF125 8).trans s99
  have s131 := (hF125 10).trans s100
  have s132 : F124 29 = .bool (pastB ((rdStep (wholeRd (l) (mostK (k))) (st)).1)) := (hF125 29).trans rfl
  clear hF125
  refine then_normal ?_
  refine wq_cond s132 (fun c133 => ?_) (fun c133 => ?_)
  ·skip
   refine wq_seq ?_
   rw [stV_yes (has := pastB (rdStep (wholeRd l (mostK k)) st).1) (by assumption)] at h1
   refine wq_region ?_
   refine wl_v (.pointer (some ⟨p, 0, none⟩)) rfl rfl (y_mov rfl s126 ⟨rfl, rfl⟩) ?_
   refine wl_v (.agg #[.int .i64 (ax), .int .i64 (ay)]) rfl rfl (y_load_stc stcT_vector rfl s128 B119 ⟨rfl, rfl⟩) ?_
   refine wl_call (R := fun v_ w_ => ∃ (T136 : Nat → Prop), .tuple #[.agg #[.int .i64 (vrX ((l)) (ax) (ay) ((rdStep (wholeRd (l) (mostK (k))) (st)).2)), .int .i64 (vrY ((l)) (ax) (ay) ((rdStep (wholeRd (l) (mostK (k))) (st)).2))], .int .i64 (vrE ((l)) (ax) (ay) ((rdStep (wholeRd (l) (mostK (k))) (st)).2))] = v_ ∧ Kept (T51) w116 w_ ∧ (Rfi w_ T136 p (((l))) (vrS ((l)) ((rdStep (wholeRd (l) (mostK (k))) (st)).2)) ∧ Grew w116 (T51) T136)) rfl rfl (y_cs rfl rfl rfl (fun _ _ => by kernel_rfl) (ev_func _) (vsC rfl (vsC rfl vsN)) (vref_read (p) ((l)) ((rdStep (wholeRd (l) (mostK (k))) (st)).2) (ax) (ay) (T51) _  B118 ) (fun e_ w_ h_ => by obtain ⟨T136_, he_, hr_⟩ := h_; exact ⟨_, he_, T136_, rfl, hr_⟩)) ?_
   rintro _ w134 ⟨T136, rfl, k135, ⟨B137, g138⟩⟩
   have B140 := B120.all k135 (fun x => (((ap60).symm) p10 rfl x))
   have B141 := B121.all k135 (fun x => (((ap61).symm) p21 rfl x))
   have B142 := B122.all k135 (fun x => ((ap68) p62 rfl x))
   have K143 := K123.trans k135 (fun i hi x => ((Grew.ok (S := T_r) gr58 (fun _ x => x)) i hi x))
   have gr144 := gr58.trans K123 g138
   have ap147 : Apart T136 (onB p21) := (ap61).grew g138 (onB_live (B121).lt)
   have ap148 : Apart T136 (onB p62) := ((ap68).symm).grew g138 (onB_live (B122).lt)
   refine wl_v (.tuple #[.agg #[.int .i64 (vrX ((l)) (ax) (ay) ((rdStep (wholeRd (l) (mostK (k))) (st)).2)), .int .i64 (vrY ((l)) (ax) (ay) ((rdStep (wholeRd (l) (mostK (k))) (st)).2))], .int .i64 (vrE ((l)) (ax) (ay) ((rdStep (wholeRd (l) (mostK (k))) (st)).2))]) rfl rfl (y_mov rfl rfl ⟨rfl, rfl⟩) ?_
   refine wl_v (.agg #[.int .i64 (vrX ((l)) (ax) (ay) ((rdStep (wholeRd (l) (mostK (k))) (st)).2)), .int .i64 (vrY ((l)) (ax) (ay) ((rdStep (wholeRd (l) (mostK (k))) (st)).2))]) rfl rfl (y_ext rfl rfl rfl ⟨rfl, rfl⟩) ?_
   refine wl_v (.int .i64 (vrE ((l)) (ax) (ay) ((rdStep (wholeRd (l) (mostK (k))) (st)).2))) rfl rfl (y_ext rfl rfl rfl ⟨rfl, rfl⟩) ?_
   refine wl_alloc_stc (n := 2) (vs := [.int .i64 (0), .int .i64 (0)]) rfl rfl rfl (by kernel_rfl) fun p149 w150 B152 g153 k151 => ?_
   have gr154 : Grew w0 noB (onB p149) := Grew.new K143 g153
   have ap155 : Apart (onB p149) (T136) := Apart.new g153 (B137).live
   have ap157 : Apart (onB p149) (onB p10) := Apart.new g153 (onB_live (B140).lt)
   have ap158 : Apart (onB p149) (onB p21) := Apart.new g153 (onB_live (B141).lt)
   have ap159 : Apart (onB p149) (onB p62) := Apart.new g153 (onB_live (B142).lt)
   have B160 := B137.all k151 Apart.none
   have B162 := B140.all k151 id
   have B163 := B141.all k151 id
   have B164 := B142.all k151 id
   have K165 := K143.trans k151 (fun _ _ x => x.elim)
   refine wl_store_stc (us := [.int .i64 (vrX ((l)) (ax) (ay) ((rdStep (wholeRd (l) (mostK (k))) (st)).2)), .int .i64 (vrY ((l)) (ax) (ay) ((rdStep (wholeRd (l) (mostK (k))) (st)).2))]) stcT_vector rfl rfl rfl rfl rfl B152 rfl (oneI rfl (oneI rfl oneN)) fun w166 B167 k168 => ?_
   have B169 := B160.all k168 (fun i h x => (((ap155).symm) i h x))
   have B171 := B162.all k168 (fun x => (((ap157).symm) p10 rfl x))
   have B172 := B163.all k168 (fun x => (((ap158).symm) p21 rfl x))
   have B173 := B164.all k168 (fun x => (((ap159).symm) p62 rfl x))
   have K174 := K165.trans k168 (Grew.ok (S := T_r) gr154 noB_le)
   refine wl_v (.int .i64 (vrE ((l)) (ax) (ay) ((rdStep (wholeRd (l) (mostK (k))) (st)).2))) rfl rfl (y_asg rfl rfl ⟨rfl, rfl⟩) ?_
   refine wl_nil fun F175 hF176 => ?_
   have s177 := (hF176 0).trans s126
   have s178 := (hF176 69).trans s127
   have s179 := (hF176 7).trans s129
   have s180 := (hF176 8).trans s130
   have s181 := (hF176 10).trans s131
   have s182 : F175 11 = .pointer (some ⟨p149, 0, none⟩) := (hF176 11).trans rfl
   have s183 : F175 12 = .int .i64 (vrE ((l)) (ax) (ay) ((rdStep (wholeRd (l) (mostK (k))) (st)).2)) := (hF176 12).trans rfl
   clear hF176
   refine then_normal ?_
   refine wq_seq ?_
   refine wq_seq ?_
   refine wq_region ?_
   refine wl_v (.int .i64 (vrE ((l)) (ax) (ay) ((rdStep (wholeRd (l) (mostK (k))) (st)).2))) rfl rfl (y_mov rfl s183 ⟨rfl, rfl⟩) ?_
   refine wl_v (.bool (decide ((vrE ((l)) (ax) (ay) ((rdStep (wholeRd (l) (mostK (k))) (st)).2)) ≠ (0)))) rfl rfl (y_neqI rfl rfl rfl rfl ⟨rfl, rfl⟩) ?_
   refine wl_nil fun F184 hF185 => ?_
   have s186 := (hF185 0).trans s177
   have s187 := (hF185 69).trans s178
   have s188 := (hF185 7).trans s179
   have s189 := (hF185 8).trans s180
   have s190 := (hF185 10).trans s181
   have s191 := (hF185 11).trans s182
   have s192 := (hF185 12).trans s183
   have s193 : F184 37 = .bool (decide ((vrE ((l)) (ax) (ay) ((rdStep (wholeRd (l) (mostK (k))) (st)).2)) ≠ (0))) := (hF185 37).trans rfl
   clear hF185
   refine then_normal ?_
   refine wq_cond s193 (fun c194 => ?_) (fun c194 => ?_)
   ·replace c194 := of_decide_eq_true c194
    refine wq_seq ?_
    have hR := h1.trans (by unfold rd2; exact if_neg (by assumption))
    refine wq_region ?_
    refine wl_v (.agg (chL 0 0 0 0 0 (fun _ => (0 : Int))).toArray) rfl rfl (y_buildL (l' := []) (cells := (chL 0 0 0 0 0 (fun _ => (0 : Int))).toArray) rfl bpN (by kernel_rfl) rfl ⟨rfl, rfl⟩) ?_
    refine wl_v (.int .i64 (vrE ((l)) (ax) (ay) ((rdStep (wholeRd (l) (mostK (k))) (st)).2))) rfl rfl (y_mov rfl s192 ⟨rfl, rfl⟩) ?_
    refine wl_store_stc (us := (chL 0 0 0 0 0 (fun _ => (0 : Int)))) stcT_choice rfl rfl rfl s189 rfl B172 rfl (oneI rfl (oneI rfl (oneI rfl (oneI rfl (oneI rfl (oneI rfl (oneI rfl (oneI rfl (oneI rfl (oneI rfl (oneI rfl (oneI rfl (oneI rfl (oneI rfl (oneI rfl (oneI rfl (oneI rfl (oneI rfl (oneI rfl (oneI rfl (oneI rfl oneN))))))))))))))))))))) fun w195 B196 k197 => ?_
    have B198 := B169.all k197 (fun i h x => ((ap147) i h x))
    have K203 := K174.trans k197 (Grew.ok (S := T_r) gr26 noB_le)
    refine wl_v (.int .i64 (vrE ((l)) (ax) (ay) ((rdStep (wholeRd (l) (mostK (k))) (st)).2))) rfl rfl (y_asg rfl rfl ⟨rfl, rfl⟩) ?_
    refine wl_nil fun F204 hF205 => ?_
    have s206 := (hF205 69).trans s187
    have s207 := (hF205 8).trans s189
    have s208 : F204 9 = .int .i64 (vrE ((l)) (ax) (ay) ((rdStep (wholeRd (l) (mostK (k))) (st)).2)) := (hF205 9).trans rfl
    clear hF205
    refine then_normal ?_
    refine wq_ret ?_
    refine then_ret ?_
    refine then_ret ?_
    exact end_2 s206 rfl (res_stc (vs := (chL 0 0 0 0 0 (fun _ => (0 : Int)))) stcT_choice rfl s207 B196) (res_tmp (v := .int .i64 (vrE ((l)) (ax) (ay) ((rdStep (wholeRd (l) (mostK (k))) (st)).2))) rfl s208) ⟨T136, (by rw [hR] <;> rfl), K203, ⟨(by rw [hR]; exact B198), gr144⟩⟩
   ·replace c194 := of_decide_eq_false c194
    refine wq_skip ?_
    refine then_normal ?_
    replace h1 := h1.trans (by unfold rd2; exact if_pos (by first | assumption | (apply Decidable.byContradiction; assumption)))
    refine wq_region ?_
    refine wl_v (.agg #[.int .i64 (vrX ((l)) (ax) (ay) ((rdStep (wholeRd (l) (mostK (k))) (st)).2)), .int .i64 (vrY ((l)) (ax) (ay) ((rdStep (wholeRd (l) (mostK (k))) (st)).2))]) rfl rfl (y_load_stc stcT_vector rfl s191 B167 ⟨rfl, rfl⟩) ?_
    refine wl_v (.pointer (some ⟨p62, 1, none⟩)) rfl rfl (y_fieldR (n := 2) rfl s190 Tryd.underlying27 rfl (by kernel_rfl) (by decide) rfl ⟨rfl, rfl⟩) ?_
    refine wl_setPart (us := [.int .i64 (vrX ((l)) (ax) (ay) ((rdStep (wholeRd (l) (mostK (k))) (st)).2)), .int .i64 (vrY ((l)) (ax) (ay) ((rdStep (wholeRd (l) (mostK (k))) (st)).2))]) (ns := (chL ((rdStep (wholeRd (l) (mostK (k))) (st)).1) (vrX ((l)) (ax) (ay) ((rdStep (wholeRd (l) (mostK (k))) (st)).2)) (vrY ((l)) (ax) (ay) ((rdStep (wholeRd (l) (mostK (k))) (st)).2)) 0 0 (fun _ => (0 : Int)))) stcT_vector rfl rfl rfl rfl rfl B173 (Nat.le_of_ble_eq_true rfl) (oneI rfl (oneI rfl oneN)) rfl fun w209 B210 k211 => ?_
    have B212 := B169.all k211 (fun i h x => ((ap148) i h x))
    have B214 := B171.all k211 (fun x => (((ap70).symm) p10 rfl x))
    have B215 := B172.all k211 (fun x => (((ap71).symm) p21 rfl x))
    have K217 := K174.trans k211 (Grew.ok (S := T_r) gr67 noB_le)
    refine wl_nil fun F218 hF219 => ?_
    have s220 := (hF219 0).trans s186
    have s221 := (hF219 69).trans s187
    have s222 := (hF219 7).trans s188
    have s223 := (hF219 8).trans s189
    have s224 := (hF219 10).trans s190
    clear hF219
    refine then_normal ?_
    refine wq_seq ?_
    refine wq_seq ?_
    try (rw [stV_no (has := pastB (rdStep (wholeRd l (mostK k)) st).1) (by assumption)] at h1; replace h1 := h1.trans (if_pos rfl))
    refine wq_region ?_
    refine wl_v (.pointer (some ⟨p62, 0, none⟩)) rfl rfl (y_fieldR (n := 1) rfl s224 Tryd.underlying27 rfl (by kernel_rfl) (by decide) rfl ⟨rfl, rfl⟩) ?_
    refine wl_v (.int .i64 ((rdStep (wholeRd (l) (mostK (k))) (st)).1)) rfl rfl (y_ld_stc rfl rfl Tryd.underlying3 B210 rfl rfl ⟨rfl, rfl⟩) ?_
    refine wl_call (R := fun v_ w_ => v_ = .bool (nextB ((rdStep (wholeRd (l) (mostK (k))) (st)).1)) ∧ Kept (fun _ => False) w209 w_) rfl rfl (y_cs rfl rfl rfl (fun _ _ => by kernel_rfl) (ev_func _) (vsC rfl vsN) (bref_next ((rdStep (wholeRd (l) (mostK (k))) (st)).1)  _   ) (fun e_ w_ h_ => ⟨_, h_.1, rfl, h_.2⟩)) ?_
    rintro _ w225 ⟨rfl, k226⟩
    have B227 := B212.all k226 Apart.none
    have B229 := B214.all k226 id
    have B230 := B215.all k226 id
    have B231 := B210.all k226 id
    have K233 := K217.trans k226 (fun _ _ x => x.elim)
    refine wl_nil fun F234 hF235 => ?_
    have s236 := (hF235 0).trans s220
    have s237 := (hF235 69).trans s221
    have s238 := (hF235 7).trans s222
    have s239 := (hF235 8).trans s223
    have s240 := (hF235 10).trans s224
    have s241 : F234 44 = .bool (nextB ((rdStep (wholeRd (l) (mostK (k))) (st)).1)) := (hF235 44).trans rfl
    clear hF235
    refine then_normal ?_
    refine wq_cond s241 (fun c242 => ?_) (fun c242 => ?_)
    ·skip
     refine wq_seq ?_
     rw [stV_yes (has := nextB (rdStep (wholeRd l (mostK k)) st).1) (by assumption)] at h1
     refine wq_region ?_
     refine wl_v (.pointer (some ⟨p, 0, none⟩)) rfl rfl (y_mov rfl s236 ⟨rfl, rfl⟩) ?_
     refine wl_v (.agg #[.int .i64 (bx), .int .i64 (yy)]) rfl rfl (y_load_stc stcT_vector rfl s238 B229 ⟨rfl, rfl⟩) ?_
     refine wl_call (R := fun v_ w_ => ∃ (T245 : Nat → Prop), .tuple #[.agg #[.int .i64 (vrX (((l))) (bx) (yy) (vrS ((l)) ((rdStep (wholeRd (l) (mostK (k))) (st)).2))), .int .i64 (vrY (((l))) (bx) (yy) (vrS ((l)) ((rdStep (wholeRd (l) (mostK (k))) (st)).2)))], .int .i64 (vrE (((l))) (bx) (yy) (vrS ((l)) ((rdStep (wholeRd (l) (mostK (k))) (st)).2)))] = v_ ∧ Kept (T136) w225 w_ ∧ (Rfi w_ T245 p ((((l)))) (vrS (((l))) (vrS ((l)) ((rdStep (wholeRd (l) (mostK (k))) (st)).2))) ∧ Grew w225 (T136) T245)) rfl rfl (y_cs rfl rfl rfl (fun _ _ => by kernel_rfl) (ev_func _) (vsC rfl (vsC rfl vsN)) (vref_read (p) (((l))) (vrS ((l)) ((rdStep (wholeRd (l) (mostK (k))) (st)).2)) (bx) (yy) (T136) _  B227 ) (fun e_ w_ h_ => by obtain ⟨T245_, he_, hr_⟩ := h_; exact ⟨_, he_, T245_, rfl, hr_⟩)) ?_
     rintro _ w243 ⟨T245, rfl, k244, ⟨B246, g247⟩⟩
     have B250 := B230.all k244 (fun x => (((ap147).symm) p21 rfl x))
     have B251 := B231.all k244 (fun x => (((ap148).symm) p62 rfl x))
     have K253 := K233.trans k244 (fun i hi x => ((Grew.ok (S := T_r) gr144 (fun _ x => x)) i hi x))
     have gr254 := gr144.trans K233 g247
     have ap257 : Apart T245 (onB p21) := (ap147).grew g247 (onB_live (B230).lt)
     have ap258 : Apart T245 (onB p62) := (ap148).grew g247 (onB_live (B231).lt)
     refine wl_v (.tuple #[.agg #[.int .i64 (vrX (((l))) (bx) (yy) (vrS ((l)) ((rdStep (wholeRd (l) (mostK (k))) (st)).2))), .int .i64 (vrY (((l))) (bx) (yy) (vrS ((l)) ((rdStep (wholeRd (l) (mostK (k))) (st)).2)))], .int .i64 (vrE (((l))) (bx) (yy) (vrS ((l)) ((rdStep (wholeRd (l) (mostK (k))) (st)).2)))]) rfl rfl (y_mov rfl rfl ⟨rfl, rfl⟩) ?_
     refine wl_v (.agg #[.int .i64 (vrX (((l))) (bx) (yy) (vrS ((l)) ((rdStep (wholeRd (l) (mostK (k))) (st)).2))), .int .i64 (vrY (((l))) (bx) (yy) (vrS ((l)) ((rdStep (wholeRd (l) (mostK (k))) (st)).2)))]) rfl rfl (y_ext rfl rfl rfl ⟨rfl, rfl⟩) ?_
     refine wl_v (.int .i64 (vrE (((l))) (bx) (yy) (vrS ((l)) ((rdStep (wholeRd (l) (mostK (k))) (st)).2)))) rfl rfl (y_ext rfl rfl rfl ⟨rfl, rfl⟩) ?_
     refine wl_alloc_stc (n := 2) (vs := [.int .i64 (0), .int .i64 (0)]) rfl rfl rfl (by kernel_rfl) fun p260 w261 B263 g264 k262 => ?_
     have gr265 : Grew w0 noB (onB p260) := Grew.new K253 g264
     have ap266 : Apart (onB p260) (T245) := Apart.new g264 (B246).live
     have ap269 : Apart (onB p260) (onB p21) := Apart.new g264 (onB_live (B250).lt)
     have ap270 : Apart (onB p260) (onB p62) := Apart.new g264 (onB_live (B251).lt)
     have B272 := B246.all k262 Apart.none
     have B275 := B250.all k262 id
     have B276 := B251.all k262 id
     have K278 := K253.trans k262 (fun _ _ x => x.elim)
     refine wl_store_stc (us := [.int .i64 (vrX (((l))) (bx) (yy) (vrS ((l)) ((rdStep (wholeRd (l) (mostK (k))) (st)).2))), .int .i64 (vrY (((l))) (bx) (yy) (vrS ((l)) ((rdStep (wholeRd (l) (mostK (k))) (st)).2)))]) stcT_vector rfl rfl rfl rfl rfl B263 rfl (oneI rfl (oneI rfl oneN)) fun w279 B280 k281 => ?_
     have B282 := B272.all k281 (fun i h x => (((ap266).symm) i h x))
     have B285 := B275.all k281 (fun x => (((ap269).symm) p21 rfl x))
     have B286 := B276.all k281 (fun x => (((ap270).symm) p62 rfl x))
     have K288 := K278.trans k281 (Grew.ok (S := T_r) gr265 noB_le)
     refine wl_v (.int .i64 (vrE (((l))) (bx) (yy) (vrS ((l)) ((rdStep (wholeRd (l) (mostK (k))) (st)).2)))) rfl rfl (y_asg rfl rfl ⟨rfl, rfl⟩) ?_
     refine wl_nil fun F289 hF290 => ?_
     have s291 := (hF290 0).trans s236
     have s292 := (hF290 69).trans s237
     have s293 := (hF290 8).trans s239
     have s294 := (hF290 10).trans s240
     have s295 : F289 13 = .pointer (some ⟨p260, 0, none⟩) := (hF290 13).trans rfl
     have s296 : F289 14 = .int .i64 (vrE (((l))) (bx) (yy) (vrS ((l)) ((rdStep (wholeRd (l) (mostK (k))) (st)).2))) := (hF290 14).trans rfl
     clear hF290
     refine then_normal ?_
     refine wq_seq ?_
     refine wq_seq ?_
     refine wq_region ?_
     refine wl_v (.int .i64 (vrE (((l))) (bx) (yy) (vrS ((l)) ((rdStep (wholeRd (l) (mostK (k))) (st)).2)))) rfl rfl (y_mov rfl s296 ⟨rfl, rfl⟩) ?_
     refine wl_v (.bool (decide ((vrE (((l))) (bx) (yy) (vrS ((l)) ((rdStep (wholeRd (l) (mostK (k))) (st)).2))) ≠ (0)))) rfl rfl (y_neqI rfl rfl rfl rfl ⟨rfl, rfl⟩) ?_
     refine wl_nil fun F297 hF298 => ?_
     have s299 := (hF298 0).trans s291
     have s300 := (hF298 69).trans s292
     have s301 := (hF298 8).trans s293
     have s302 := (hF298 10).trans s294
     have s303 := (hF298 13).trans s295
     have s304 := (hF298 14).trans s296
     have s305 : F297 52 = .bool (decide ((vrE (((l))) (bx) (yy) (vrS ((l)) ((rdStep (wholeRd (l) (mostK (k))) (st)).2))) ≠ (0))) := (hF298 52).trans rfl
     clear hF298
     refine then_normal ?_
     refine wq_cond s305 (fun c306 => ?_) (fun c306 => ?_)
     ·replace c306 := of_decide_eq_true c306
      refine wq_seq ?_
      have hR := h1.trans (by unfold rd3; exact if_neg (by assumption))
      refine wq_region ?_
      refine wl_v (.agg (chL 0 0 0 0 0 (fun _ => (0 : Int))).toArray) rfl rfl (y_buildL (l' := []) (cells := (chL 0 0 0 0 0 (fun _ => (0 : Int))).toArray) rfl bpN (by kernel_rfl) rfl ⟨rfl, rfl⟩) ?_
      refine wl_v (.int .i64 (vrE (((l))) (bx) (yy) (vrS ((l)) ((rdStep (wholeRd (l) (mostK (k))) (st)).2)))) rfl rfl (y_mov rfl s304 ⟨rfl, rfl⟩) ?_
      refine wl_store_stc (us := (chL 0 0 0 0 0 (fun _ => (0 : Int)))) stcT_choice rfl rfl rfl s301 rfl B285 rfl (oneI rfl (oneI rfl (oneI rfl (oneI rfl (oneI rfl (oneI rfl (oneI rfl (oneI rfl (oneI rfl (oneI rfl (oneI rfl (oneI rfl (oneI rfl (oneI rfl (oneI rfl (oneI rfl (oneI rfl (oneI rfl (oneI rfl (oneI rfl (oneI rfl oneN))))))))))))))))))))) fun w307 B308 k309 => ?_
      have B310 := B282.all k309 (fun i h x => ((ap257) i h x))
      have K316 := K288.trans k309 (Grew.ok (S := T_r) gr26 noB_le)
      refine wl_v (.int .i64 (vrE (((l))) (bx) (yy) (vrS ((l)) ((rdStep (wholeRd (l) (mostK (k))) (st)).2)))) rfl rfl (y_asg rfl rfl ⟨rfl, rfl⟩) ?_
      refine wl_nil fun F317 hF318 => ?_
      have s319 := (hF318 69).trans s300
      have s320 := (hF318 8).trans s301
      have s321 : F317 9 = .int .i64 (vrE (((l))) (bx) (yy) (vrS ((l)) ((rdStep (wholeRd (l) (mostK (k))) (st)).2))) := (hF318 9).trans rfl
      clear hF318
      refine then_normal ?_
      refine wq_ret ?_
      refine then_ret ?_
      refine then_ret ?_
      exact end_2 s319 rfl (res_stc (vs := (chL 0 0 0 0 0 (fun _ => (0 : Int)))) stcT_choice rfl s320 B308) (res_tmp (v := .int .i64 (vrE (((l))) (bx) (yy) (vrS ((l)) ((rdStep (wholeRd (l) (mostK (k))) (st)).2)))) rfl s321) ⟨T245, (by rw [hR] <;> rfl), K316, ⟨(by rw [hR]; exact B310), gr254⟩⟩
     ·replace c306 := of_decide_eq_false c306
      refine wq_skip ?_
      refine then_normal ?_
      replace h1 := h1.trans (by unfold rd3; exact if_pos (by first | assumption | (apply Decidable.byContradiction; assumption)))
      refine wq_region ?_
      refine wl_v (.agg #[.int .i64 (vrX (((l))) (bx) (yy) (vrS ((l)) ((rdStep (wholeRd (l) (mostK (k))) (st)).2))), .int .i64 (vrY (((l))) (bx) (yy) (vrS ((l)) ((rdStep (wholeRd (l) (mostK (k))) (st)).2)))]) rfl rfl (y_load_stc stcT_vector rfl s303 B280 ⟨rfl, rfl⟩) ?_
      refine wl_v (.pointer (some ⟨p62, 3, none⟩)) rfl rfl (y_fieldR (n := 2) rfl s302 Tryd.underlying27 rfl (by kernel_rfl) (by decide) rfl ⟨rfl, rfl⟩) ?_
      refine wl_setPart (us := [.int .i64 (vrX (((l))) (bx) (yy) (vrS ((l)) ((rdStep (wholeRd (l) (mostK (k))) (st)).2))), .int .i64 (vrY (((l))) (bx) (yy) (vrS ((l)) ((rdStep (wholeRd (l) (mostK (k))) (st)).2)))]) (ns := (chL ((rdStep (wholeRd (l) (mostK (k))) (st)).1) (vrX ((l)) (ax) (ay) ((rdStep (wholeRd (l) (mostK (k))) (st)).2)) (vrY ((l)) (ax) (ay) ((rdStep (wholeRd (l) (mostK (k))) (st)).2)) (vrX (((l))) (bx) (yy) (vrS ((l)) ((rdStep (wholeRd (l) (mostK (k))) (st)).2))) (vrY (((l))) (bx) (yy) (vrS ((l)) ((rdStep (wholeRd (l) (mostK (k))) (st)).2))) (fun _ => (0 : Int)))) stcT_vector rfl rfl rfl rfl rfl B286 (Nat.le_of_ble_eq_true rfl) (oneI rfl (oneI rfl oneN)) rfl fun w322 B323 k324 => ?_
      have B325 := B282.all k324 (fun i h x => ((ap258) i h x))
      have B328 := B285.all k324 (fun x => (((ap71).symm) p21 rfl x))
      have K331 := K288.trans k324 (Grew.ok (S := T_r) gr67 noB_le)
      refine wl_nil fun F332 hF333 => ?_
      have s334 := (hF333 0).trans s299
      have s335 := (hF333 69).trans s300
      have s336 := (hF333 8).trans s301
      have s337 := (hF333 10).trans s302
      clear hF333
      refine then_normal ?_
      refine wq_seq ?_
      try (rw [stV_no (has := nextB (rdStep (wholeRd l (mostK k)) st).1) (by assumption)] at h1; replace h1 := h1.trans (if_pos rfl))
      refine wq_region ?_
      refine wl_v (.pointer (some ⟨p, 0, none⟩)) rfl rfl (y_mov rfl s334 ⟨rfl, rfl⟩) ?_
      refine wl_call (R := fun v_ w_ => ∃ (T340 : Nat → Prop), .tuple #[blkV ((scanRd ((((l)))) (vrS (((l))) (vrS ((l)) ((rdStep (wholeRd (l) (mostK (k))) (st)).2)))).1), .int .i64 ((scanRd ((((l)))) (vrS (((l))) (vrS ((l)) ((rdStep (wholeRd (l) (mostK (k))) (st)).2)))).2.1)] = v_ ∧ Kept (T245) w322 w_ ∧ (Rfi w_ T340 p (((((l))))) ((scanRd ((((l)))) (vrS (((l))) (vrS ((l)) ((rdStep (wholeRd (l) (mostK (k))) (st)).2)))).2.2) ∧ Grew w322 (T245) T340)) rfl rfl (y_cs rfl rfl rfl (fun _ _ => by kernel_rfl) (ev_func _) (vsC rfl vsN) (sref_read (p) ((((l)))) (vrS (((l))) (vrS ((l)) ((rdStep (wholeRd (l) (mostK (k))) (st)).2))) (T245) _  B325 ) (fun e_ w_ h_ => by obtain ⟨T340_, he_, hr_⟩ := h_; exact ⟨_, he_, T340_, rfl, hr_⟩)) ?_
      rintro _ w338 ⟨T340, rfl, k339, ⟨B341, g342⟩⟩
      have B345 := B328.all k339 (fun x => (((ap257).symm) p21 rfl x))
      have B346 := B323.all k339 (fun x => (((ap258).symm) p62 rfl x))
      have K349 := K331.trans k339 (fun i hi x => ((Grew.ok (S := T_r) gr254 (fun _ x => x)) i hi x))
      have gr350 := gr254.trans K331 g342
      have ap353 : Apart T340 (onB p21) := (ap257).grew g342 (onB_live (B328).lt)
      have ap354 : Apart T340 (onB p62) := (ap258).grew g342 (onB_live (B323).lt)
      refine wl_v (.tuple #[blkV ((scanRd ((((l)))) (vrS (((l))) (vrS ((l)) ((rdStep (wholeRd (l) (mostK (k))) (st)).2)))).1), .int .i64 ((scanRd ((((l)))) (vrS (((l))) (vrS ((l)) ((rdStep (wholeRd (l) (mostK (k))) (st)).2)))).2.1)]) rfl rfl (y_mov rfl rfl ⟨rfl, rfl⟩) ?_
      refine wl_v (blkV ((scanRd ((((l)))) (vrS (((l))) (vrS ((l)) ((rdStep (wholeRd (l) (mostK (k))) (st)).2)))).1)) rfl rfl (y_ext rfl rfl rfl ⟨rfl, rfl⟩) ?_
      refine wl_v (.int .i64 ((scanRd ((((l)))) (vrS (((l))) (vrS ((l)) ((rdStep (wholeRd (l) (mostK (k))) (st)).2)))).2.1)) rfl rfl (y_ext rfl rfl rfl ⟨rfl, rfl⟩) ?_
      refine wl_alloc_blk rfl rfl rfl blkT_arr.2.2 fun p357 w358 e361 B359 k360 => ?_
      have g362 := onB_new (Nat.le_of_eq e361.symm)
      have gr363 : Grew w0 noB (onB p357) := Grew.new K349 g362
      have ap364 : Apart (onB p357) (T340) := Apart.new g362 (B341).live
      have ap367 : Apart (onB p357) (onB p21) := Apart.new g362 (onB_live (B345).lt)
      have ap368 : Apart (onB p357) (onB p62) := Apart.new g362 (onB_live (B346).lt)
      clear e361 g362
      have B371 := B341.all k360 Apart.none
      have B374 := B345.all k360 id
      have B375 := B346.all k360 id
      have K378 := K349.trans k360 (fun _ _ x => x.elim)
      refine wl_store_blk blkT_arr rfl rfl rfl rfl rfl B359 fun w379 B380 k381 => ?_
      have B382 := B371.all k381 (fun i h x => (((ap364).symm) i h x))
      have B385 := B374.all k381 (fun x => (((ap367).symm) p21 rfl x))
      have B386 := B375.all k381 (fun x => (((ap368).symm) p62 rfl x))
      have K389 := K378.trans k381 (Grew.ok (S := T_r) gr363 noB_le)
      refine wl_v (.int .i64 ((scanRd ((((l)))) (vrS (((l))) (vrS ((l)) ((rdStep (wholeRd (l) (mostK (k))) (st)).2)))).2.1)) rfl rfl (y_asg rfl rfl ⟨rfl, rfl⟩) ?_
      refine wl_nil fun F390 hF391 => ?_
      have s392 := (hF391 69).trans s335
      have s393 := (hF391 8).trans s336
      have s394 := (hF391 10).trans s337
      have s395 : F390 15 = .pointer (some ⟨p357, 0, none⟩) := (hF391 15).trans rfl
      have s396 : F390 16 = .int .i64 ((scanRd ((((l)))) (vrS (((l))) (vrS ((l)) ((rdStep (wholeRd (l) (mostK (k))) (st)).2)))).2.1) := (hF391 16).trans rfl
      clear hF391
      refine then_normal ?_
      refine wq_seq ?_
      refine wq_seq ?_
      refine wq_region ?_
      refine wl_v (.int .i64 ((scanRd ((((l)))) (vrS (((l))) (vrS ((l)) ((rdStep (wholeRd (l) (mostK (k))) (st)).2)))).2.1)) rfl rfl (y_mov rfl s396 ⟨rfl, rfl⟩) ?_
      refine wl_v (.bool (decide (((scanRd ((((l)))) (vrS (((l))) (vrS ((l)) ((rdStep (wholeRd (l) (mostK (k))) (st)).2)))).2.1) ≠ (0)))) rfl rfl (y_neqI rfl rfl rfl rfl ⟨rfl, rfl⟩) ?_
      refine wl_nil fun F397 hF398 => ?_
      have s399 := (hF398 69).trans s392
      have s400 := (hF398 8).trans s393
      have s401 := (hF398 10).trans s394
      have s402 := (hF398 15).trans s395
      have s403 := (hF398 16).trans s396
      have s404 : F397 63 = .bool (decide (((scanRd ((((l)))) (vrS (((l))) (vrS ((l)) ((rdStep (wholeRd (l) (mostK (k))) (st)).2)))).2.1) ≠ (0))) := (hF398 63).trans rfl
      clear hF398
      refine then_normal ?_
      refine wq_cond s404 (fun c405 => ?_) (fun c405 => ?_)
      ·replace c405 := of_decide_eq_true c405
       refine wq_seq ?_
       have hR := h1.trans (by unfold rd4; exact if_neg (by assumption))
       refine wq_region ?_
       refine wl_v (.agg (chL 0 0 0 0 0 (fun _ => (0 : Int))).toArray) rfl rfl (y_buildL (l' := []) (cells := (chL 0 0 0 0 0 (fun _ => (0 : Int))).toArray) rfl bpN (by kernel_rfl) rfl ⟨rfl, rfl⟩) ?_
       refine wl_v (.int .i64 ((scanRd ((((l)))) (vrS (((l))) (vrS ((l)) ((rdStep (wholeRd (l) (mostK (k))) (st)).2)))).2.1)) rfl rfl (y_mov rfl s403 ⟨rfl, rfl⟩) ?_
       refine wl_store_stc (us := (chL 0 0 0 0 0 (fun _ => (0 : Int)))) stcT_choice rfl rfl rfl s400 rfl B385 rfl (oneI rfl (oneI rfl (oneI rfl (oneI rfl (oneI rfl (oneI rfl (oneI rfl (oneI rfl (oneI rfl (oneI rfl (oneI rfl (oneI rfl (oneI rfl (oneI rfl (oneI rfl (oneI rfl (oneI rfl (oneI rfl (oneI rfl (oneI rfl (oneI rfl oneN))))))))))))))))))))) fun w406 B407 k408 => ?_
       have B409 := B382.all k408 (fun i h x => ((ap353) i h x))
       have K416 := K389.trans k408 (Grew.ok (S := T_r) gr26 noB_le)
       refine wl_v (.int .i64 ((scanRd ((((l)))) (vrS (((l))) (vrS ((l)) ((rdStep (wholeRd (l) (mostK (k))) (st)).2)))).2.1)) rfl rfl (y_asg rfl rfl ⟨rfl, rfl⟩) ?_
       refine wl_nil fun F417 hF418 => ?_
       have s419 := (hF418 69).trans s399
       have s420 := (hF418 8).trans s400
       have s421 : F417 9 = .int .i64 ((scanRd ((((l)))) (vrS (((l))) (vrS ((l)) ((rdStep (wholeRd (l) (mostK (k))) (st)).2)))).2.1) := (hF418 9).trans rfl
       clear hF418
       refine then_normal ?_
       refine wq_ret ?_
       refine then_ret ?_
       exact end_2 s419 rfl (res_stc (vs := (chL 0 0 0 0 0 (fun _ => (0 : Int)))) stcT_choice rfl s420 B407) (res_tmp (v := .int .i64 ((scanRd ((((l)))) (vrS (((l))) (vrS ((l)) ((rdStep (wholeRd (l) (mostK (k))) (st)).2)))).2.1)) rfl s421) ⟨T340, (by rw [hR] <;> rfl), K416, ⟨(by rw [hR]; exact B409), gr350⟩⟩
      ·replace c405 := of_decide_eq_false c405
       refine wq_skip ?_
       refine then_normal ?_
       refine wq_seq ?_
       have hR := h1.trans (by unfold rd4; exact if_pos (by first | assumption | (apply Decidable.byContradiction; assumption)))
       refine wq_region ?_
       refine wl_v (blkV ((scanRd ((((l)))) (vrS (((l))) (vrS ((l)) ((rdStep (wholeRd (l) (mostK (k))) (st)).2)))).1)) rfl rfl (y_load_blk blkT_arr rfl s402 B380 ⟨rfl, rfl⟩) ?_
       refine wl_v (.pointer (some ⟨p62, 5, none⟩)) rfl rfl (y_fieldR (n := 16) rfl s401 Tryd.underlying27 rfl (by kernel_rfl) (by decide) rfl ⟨rfl, rfl⟩) ?_
       refine wl_setPart (us := arrL 16 ((scanRd ((((l)))) (vrS (((l))) (vrS ((l)) ((rdStep (wholeRd (l) (mostK (k))) (st)).2)))).1)) (ns := (chL ((rdStep (wholeRd (l) (mostK (k))) (st)).1) (vrX ((l)) (ax) (ay) ((rdStep (wholeRd (l) (mostK (k))) (st)).2)) (vrY ((l)) (ax) (ay) ((rdStep (wholeRd (l) (mostK (k))) (st)).2)) (vrX (((l))) (bx) (yy) (vrS ((l)) ((rdStep (wholeRd (l) (mostK (k))) (st)).2))) (vrY (((l))) (bx) (yy) (vrS ((l)) ((rdStep (wholeRd (l) (mostK (k))) (st)).2))) ((scanRd ((((l)))) (vrS (((l))) (vrS ((l)) ((rdStep (wholeRd (l) (mostK (k))) (st)).2)))).1))) stcT_block rfl rfl rfl rfl rfl B386 (Nat.le_of_ble_eq_true rfl) (one_arrL _ _) rfl fun w422 B423 k424 => ?_
       have B425 := B382.all k424 (fun i h x => ((ap354) i h x))
       have B428 := B385.all k424 (fun x => (((ap71).symm) p21 rfl x))
       have K432 := K389.trans k424 (Grew.ok (S := T_r) gr67 noB_le)
       refine wl_nil fun F433 hF434 => ?_
       have s435 := (hF434 69).trans s399
       have s436 := (hF434 8).trans s400
       have s437 := (hF434 10).trans s401
       clear hF434
       refine then_normal ?_
       refine wq_seq ?_
       refine wq_region ?_
       refine wl_v (.agg (chL ((rdStep (wholeRd (l) (mostK (k))) (st)).1) (vrX ((l)) (ax) (ay) ((rdStep (wholeRd (l) (mostK (k))) (st)).2)) (vrY ((l)) (ax) (ay) ((rdStep (wholeRd (l) (mostK (k))) (st)).2)) (vrX (((l))) (bx) (yy) (vrS ((l)) ((rdStep (wholeRd (l) (mostK (k))) (st)).2))) (vrY (((l))) (bx) (yy) (vrS ((l)) ((rdStep (wholeRd (l) (mostK (k))) (st)).2))) ((scanRd ((((l)))) (vrS (((l))) (vrS ((l)) ((rdStep (wholeRd (l) (mostK (k))) (st)).2)))).1)).toArray) rfl rfl (y_load_stc stcT_choice rfl s437 B423 ⟨rfl, rfl⟩) ?_
       refine wl_store_stc (us := (chL ((rdStep (wholeRd (l) (mostK (k))) (st)).1) (vrX ((l)) (ax) (ay) ((rdStep (wholeRd (l) (mostK (k))) (st)).2)) (vrY ((l)) (ax) (ay) ((rdStep (wholeRd (l) (mostK (k))) (st)).2)) (vrX (((l))) (bx) (yy) (vrS ((l)) ((rdStep (wholeRd (l) (mostK (k))) (st)).2))) (vrY (((l))) (bx) (yy) (vrS ((l)) ((rdStep (wholeRd (l) (mostK (k))) (st)).2))) ((scanRd ((((l)))) (vrS (((l))) (vrS ((l)) ((rdStep (wholeRd (l) (mostK (k))) (st)).2)))).1))) stcT_choice rfl rfl rfl s436 rfl B428 rfl (oneI rfl (oneI rfl (oneI rfl (oneI rfl (oneI rfl (oneI rfl (oneI rfl (oneI rfl (oneI rfl (oneI rfl (oneI rfl (oneI rfl (oneI rfl (oneI rfl (oneI rfl (oneI rfl (oneI rfl (oneI rfl (oneI rfl (oneI rfl (oneI rfl oneN))))))))))))))))))))) fun w438 B439 k440 => ?_
       have B441 := B425.all k440 (fun i h x => ((ap353) i h x))
       have K448 := K432.trans k440 (Grew.ok (S := T_r) gr26 noB_le)
       refine wl_v (.int .i64 (0)) rfl rfl (y_asg rfl rfl ⟨rfl, rfl⟩) ?_
       refine wl_nil fun F449 hF450 => ?_
       have s451 := (hF450 69).trans s435
       have s452 := (hF450 8).trans s436
       have s453 : F449 9 = .int .i64 (0) := (hF450 9).trans rfl
       clear hF450
       refine then_normal ?_
       refine wq_ret ?_
       exact end_2 s451 rfl (res_stc (vs := (chL ((rdStep (wholeRd (l) (mostK (k))) (st)).1) (vrX ((l)) (ax) (ay) ((rdStep (wholeRd (l) (mostK (k))) (st)).2)) (vrY ((l)) (ax) (ay) ((rdStep (wholeRd (l) (mostK (k))) (st)).2)) (vrX (((l))) (bx) (yy) (vrS ((l)) ((rdStep (wholeRd (l) (mostK (k))) (st)).2))) (vrY (((l))) (bx) (yy) (vrS ((l)) ((rdStep (wholeRd (l) (mostK (k))) (st)).2))) ((scanRd ((((l)))) (vrS (((l))) (vrS ((l)) ((rdStep (wholeRd (l) (mostK (k))) (st)).2)))).1))) stcT_choice rfl s452 B439) (res_tmp (v := .int .i64 (0)) rfl s453) ⟨T340, (by rw [hR] <;> rfl), K448, ⟨(by rw [hR]; exact B441), gr350⟩⟩
    ·skip
     refine wq_skip ?_
     refine then_normal ?_
     refine wq_seq ?_
     try (rw [stV_no (has := nextB (rdStep (wholeRd l (mostK k)) st).1) (by assumption)] at h1; replace h1 := h1.trans (if_pos rfl))
     refine wq_region ?_
     refine wl_v (.pointer (some ⟨p, 0, none⟩)) rfl rfl (y_mov rfl s236 ⟨rfl, rfl⟩) ?_
     refine wl_call (R := fun v_ w_ => ∃ (T456 : Nat → Prop), .tuple #[blkV ((scanRd (((l))) (vrS ((l)) ((rdStep (wholeRd (l) (mostK (k))) (st)).2))).1), .int .i64 ((scanRd (((l))) (vrS ((l)) ((rdStep (wholeRd (l) (mostK (k))) (st)).2))).2.1)] = v_ ∧ Kept (T136) w225 w_ ∧ (Rfi w_ T456 p ((((l)))) ((scanRd (((l))) (vrS ((l)) ((rdStep (wholeRd (l) (mostK (k))) (st)).2))).2.2) ∧ Grew w225 (T136) T456)) rfl rfl (y_cs rfl rfl rfl (fun _ _ => by kernel_rfl) (ev_func _) (vsC rfl vsN) (sref_read (p) (((l))) (vrS ((l)) ((rdStep (wholeRd (l) (mostK (k))) (st)).2)) (T136) _  B227 ) (fun e_ w_ h_ => by obtain ⟨T456_, he_, hr_⟩ := h_; exact ⟨_, he_, T456_, rfl, hr_⟩)) ?_
     rintro _ w454 ⟨T456, rfl, k455, ⟨B457, g458⟩⟩
     have B461 := B230.all k455 (fun x => (((ap147).symm) p21 rfl x))
     have B462 := B231.all k455 (fun x => (((ap148).symm) p62 rfl x))
     have K464 := K233.trans k455 (fun i hi x => ((Grew.ok (S := T_r) gr144 (fun _ x => x)) i hi x))
     have gr465 := gr144.trans K233 g458
     have ap468 : Apart T456 (onB p21) := (ap147).grew g458 (onB_live (B230).lt)
     have ap469 : Apart T456 (onB p62) := (ap148).grew g458 (onB_live (B231).lt)
     refine wl_v (.tuple #[blkV ((scanRd (((l))) (vrS ((l)) ((rdStep (wholeRd (l) (mostK (k))) (st)).2))).1), .int .i64 ((scanRd (((l))) (vrS ((l)) ((rdStep (wholeRd (l) (mostK (k))) (st)).2))).2.1)]) rfl rfl (y_mov rfl rfl ⟨rfl, rfl⟩) ?_
     refine wl_v (blkV ((scanRd (((l))) (vrS ((l)) ((rdStep (wholeRd (l) (mostK (k))) (st)).2))).1)) rfl rfl (y_ext rfl rfl rfl ⟨rfl, rfl⟩) ?_
     refine wl_v (.int .i64 ((scanRd (((l))) (vrS ((l)) ((rdStep (wholeRd (l) (mostK (k))) (st)).2))).2.1)) rfl rfl (y_ext rfl rfl rfl ⟨rfl, rfl⟩) ?_
     refine wl_alloc_blk rfl rfl rfl blkT_arr.2.2 fun p471 w472 e475 B473 k474 => ?_
     have g476 := onB_new (Nat.le_of_eq e475.symm)
     have gr477 : Grew w0 noB (onB p471) := Grew.new K464 g476
     have ap478 : Apart (onB p471) (T456) := Apart.new g476 (B457).live
     have ap481 : Apart (onB p471) (onB p21) := Apart.new g476 (onB_live (B461).lt)
     have ap482 : Apart (onB p471) (onB p62) := Apart.new g476 (onB_live (B462).lt)
     clear e475 g476
     have B484 := B457.all k474 Apart.none
     have B487 := B461.all k474 id
     have B488 := B462.all k474 id
     have K490 := K464.trans k474 (fun _ _ x => x.elim)
     refine wl_store_blk blkT_arr rfl rfl rfl rfl rfl B473 fun w491 B492 k493 => ?_
     have B494 := B484.all k493 (fun i h x => (((ap478).symm) i h x))
     have B497 := B487.all k493 (fun x => (((ap481).symm) p21 rfl x))
     have B498 := B488.all k493 (fun x => (((ap482).symm) p62 rfl x))
     have K500 := K490.trans k493 (Grew.ok (S := T_r) gr477 noB_le)
     refine wl_v (.int .i64 ((scanRd (((l))) (vrS ((l)) ((rdStep (wholeRd (l) (mostK (k))) (st)).2))).2.1)) rfl rfl (y_asg rfl rfl ⟨rfl, rfl⟩) ?_
     refine wl_nil fun F501 hF502 => ?_
     have s503 := (hF502 69).trans s237
     have s504 := (hF502 8).trans s239
     have s505 := (hF502 10).trans s240
     have s506 : F501 15 = .pointer (some ⟨p471, 0, none⟩) := (hF502 15).trans rfl
     have s507 : F501 16 = .int .i64 ((scanRd (((l))) (vrS ((l)) ((rdStep (wholeRd (l) (mostK (k))) (st)).2))).2.1) := (hF502 16).trans rfl
     clear hF502
     refine then_normal ?_
     refine wq_seq ?_
     refine wq_seq ?_
     refine wq_region ?_
     refine wl_v (.int .i64 ((scanRd (((l))) (vrS ((l)) ((rdStep (wholeRd (l) (mostK (k))) (st)).2))).2.1)) rfl rfl (y_mov rfl s507 ⟨rfl, rfl⟩) ?_
     refine wl_v (.bool (decide (((scanRd (((l))) (vrS ((l)) ((rdStep (wholeRd (l) (mostK (k))) (st)).2))).2.1) ≠ (0)))) rfl rfl (y_neqI rfl rfl rfl rfl ⟨rfl, rfl⟩) ?_
     refine wl_nil fun F508 hF509 => ?_
     have s510 := (hF509 69).trans s503
     have s511 := (hF509 8).trans s504
     have s512 := (hF509 10).trans s505
     have s513 := (hF509 15).trans s506
     have s514 := (hF509 16).trans s507
     have s515 : F508 63 = .bool (decide (((scanRd (((l))) (vrS ((l)) ((rdStep (wholeRd (l) (mostK (k))) (st)).2))).2.1) ≠ (0))) := (hF509 63).trans rfl
     clear hF509
     refine then_normal ?_
     refine wq_cond s515 (fun c516 => ?_) (fun c516 => ?_)
     ·replace c516 := of_decide_eq_true c516
      refine wq_seq ?_
      have hR := h1.trans (by unfold rd4; exact if_neg (by assumption))
      refine wq_region ?_
      refine wl_v (.agg (chL 0 0 0 0 0 (fun _ => (0 : Int))).toArray) rfl rfl (y_buildL (l' := []) (cells := (chL 0 0 0 0 0 (fun _ => (0 : Int))).toArray) rfl bpN (by kernel_rfl) rfl ⟨rfl, rfl⟩) ?_
      refine wl_v (.int .i64 ((scanRd (((l))) (vrS ((l)) ((rdStep (wholeRd (l) (mostK (k))) (st)).2))).2.1)) rfl rfl (y_mov rfl s514 ⟨rfl, rfl⟩) ?_
      refine wl_store_stc (us := (chL 0 0 0 0 0 (fun _ => (0 : Int)))) stcT_choice rfl rfl rfl s511 rfl B497 rfl (oneI rfl (oneI rfl (oneI rfl (oneI rfl (oneI rfl (oneI rfl (oneI rfl (oneI rfl (oneI rfl (oneI rfl (oneI rfl (oneI rfl (oneI rfl (oneI rfl (oneI rfl (oneI rfl (oneI rfl (oneI rfl (oneI rfl (oneI rfl (oneI rfl oneN))))))))))))))))))))) fun w517 B518 k519 => ?_
      have B520 := B494.all k519 (fun i h x => ((ap468) i h x))
      have K526 := K500.trans k519 (Grew.ok (S := T_r) gr26 noB_le)
      refine wl_v (.int .i64 ((scanRd (((l))) (vrS ((l)) ((rdStep (wholeRd (l) (mostK (k))) (st)).2))).2.1)) rfl rfl (y_asg rfl rfl ⟨rfl, rfl⟩) ?_
      refine wl_nil fun F527 hF528 => ?_
      have s529 := (hF528 69).trans s510
      have s530 := (hF528 8).trans s511
      have s531 : F527 9 = .int .i64 ((scanRd (((l))) (vrS ((l)) ((rdStep (wholeRd (l) (mostK (k))) (st)).2))).2.1) := (hF528 9).trans rfl
      clear hF528
      refine then_normal ?_
      refine wq_ret ?_
      refine then_ret ?_
      exact end_2 s529 rfl (res_stc (vs := (chL 0 0 0 0 0 (fun _ => (0 : Int)))) stcT_choice rfl s530 B518) (res_tmp (v := .int .i64 ((scanRd (((l))) (vrS ((l)) ((rdStep (wholeRd (l) (mostK (k))) (st)).2))).2.1)) rfl s531) ⟨T456, (by rw [hR] <;> rfl), K526, ⟨(by rw [hR]; exact B520), gr465⟩⟩
     ·replace c516 := of_decide_eq_false c516
      refine wq_skip ?_
      refine then_normal ?_
      refine wq_seq ?_
      have hR := h1.trans (by unfold rd4; exact if_pos (by first | assumption | (apply Decidable.byContradiction; assumption)))
      refine wq_region ?_
      refine wl_v (blkV ((scanRd (((l))) (vrS ((l)) ((rdStep (wholeRd (l) (mostK (k))) (st)).2))).1)) rfl rfl (y_load_blk blkT_arr rfl s513 B492 ⟨rfl, rfl⟩) ?_
      refine wl_v (.pointer (some ⟨p62, 5, none⟩)) rfl rfl (y_fieldR (n := 16) rfl s512 Tryd.underlying27 rfl (by kernel_rfl) (by decide) rfl ⟨rfl, rfl⟩) ?_
      refine wl_setPart (us := arrL 16 ((scanRd (((l))) (vrS ((l)) ((rdStep (wholeRd (l) (mostK (k))) (st)).2))).1)) (ns := (chL ((rdStep (wholeRd (l) (mostK (k))) (st)).1) (vrX ((l)) (ax) (ay) ((rdStep (wholeRd (l) (mostK (k))) (st)).2)) (vrY ((l)) (ax) (ay) ((rdStep (wholeRd (l) (mostK (k))) (st)).2)) 0 0 ((scanRd (((l))) (vrS ((l)) ((rdStep (wholeRd (l) (mostK (k))) (st)).2))).1))) stcT_block rfl rfl rfl rfl rfl B498 (Nat.le_of_ble_eq_true rfl) (one_arrL _ _) rfl fun w532 B533 k534 => ?_
      have B535 := B494.all k534 (fun i h x => ((ap469) i h x))
      have B538 := B497.all k534 (fun x => (((ap71).symm) p21 rfl x))
      have K541 := K500.trans k534 (Grew.ok (S := T_r) gr67 noB_le)
      refine wl_nil fun F542 hF543 => ?_
      have s544 := (hF543 69).trans s510
      have s545 := (hF543 8).trans s511
      have s546 := (hF543 10).trans s512
      clear hF543
      refine then_normal ?_
      refine wq_seq ?_
      refine wq_region ?_
      refine wl_v (.agg (chL ((rdStep (wholeRd (l) (mostK (k))) (st)).1) (vrX ((l)) (ax) (ay) ((rdStep (wholeRd (l) (mostK (k))) (st)).2)) (vrY ((l)) (ax) (ay) ((rdStep (wholeRd (l) (mostK (k))) (st)).2)) 0 0 ((scanRd (((l))) (vrS ((l)) ((rdStep (wholeRd (l) (mostK (k))) (st)).2))).1)).toArray) rfl rfl (y_load_stc stcT_choice rfl s546 B533 ⟨rfl, rfl⟩) ?_
      refine wl_store_stc (us := (chL ((rdStep (wholeRd (l) (mostK (k))) (st)).1) (vrX ((l)) (ax) (ay) ((rdStep (wholeRd (l) (mostK (k))) (st)).2)) (vrY ((l)) (ax) (ay) ((rdStep (wholeRd (l) (mostK (k))) (st)).2)) 0 0 ((scanRd (((l))) (vrS ((l)) ((rdStep (wholeRd (l) (mostK (k))) (st)).2))).1))) stcT_choice rfl rfl rfl s545 rfl B538 rfl (oneI rfl (oneI rfl (oneI rfl (oneI rfl (oneI rfl (oneI rfl (oneI rfl (oneI rfl (oneI rfl (oneI rfl (oneI rfl (oneI rfl (oneI rfl (oneI rfl (oneI rfl (oneI rfl (oneI rfl (oneI rfl (oneI rfl (oneI rfl (oneI rfl oneN))))))))))))))))))))) fun w547 B548 k549 => ?_
      have B550 := B535.all k549 (fun i h x => ((ap468) i h x))
      have K556 := K541.trans k549 (Grew.ok (S := T_r) gr26 noB_le)
      refine wl_v (.int .i64 (0)) rfl rfl (y_asg rfl rfl ⟨rfl, rfl⟩) ?_
      refine wl_nil fun F557 hF558 => ?_
      have s559 := (hF558 69).trans s544
      have s560 := (hF558 8).trans s545
      have s561 : F557 9 = .int .i64 (0) := (hF558 9).trans rfl
      clear hF558
      refine then_normal ?_
      refine wq_ret ?_
      exact end_2 s559 rfl (res_stc (vs := (chL ((rdStep (wholeRd (l) (mostK (k))) (st)).1) (vrX ((l)) (ax) (ay) ((rdStep (wholeRd (l) (mostK (k))) (st)).2)) (vrY ((l)) (ax) (ay) ((rdStep (wholeRd (l) (mostK (k))) (st)).2)) 0 0 ((scanRd (((l))) (vrS ((l)) ((rdStep (wholeRd (l) (mostK (k))) (st)).2))).1))) stcT_choice rfl s560 B548) (res_tmp (v := .int .i64 (0)) rfl s561) ⟨T456, (by rw [hR] <;> rfl), K556, ⟨(by rw [hR]; exact B550), gr465⟩⟩
  ·skip
   refine wq_skip ?_
   refine then_normal ?_
   refine wq_seq ?_
   refine wq_seq ?_
   try (rw [stV_no (has := pastB (rdStep (wholeRd l (mostK k)) st).1) (by assumption)] at h1; replace h1 := h1.trans (if_pos rfl))
   refine wq_region ?_
   refine wl_v (.pointer (some ⟨p62, 0, none⟩)) rfl rfl (y_fieldR (n := 1) rfl s131 Tryd.underlying27 rfl (by kernel_rfl) (by decide) rfl ⟨rfl, rfl⟩) ?_
   refine wl_v (.int .i64 ((rdStep (wholeRd (l) (mostK (k))) (st)).1)) rfl rfl (y_ld_stc rfl rfl Tryd.underlying3 B122 rfl rfl ⟨rfl, rfl⟩) ?_
   refine wl_call (R := fun v_ w_ => v_ = .bool (nextB ((rdStep (wholeRd (l) (mostK (k))) (st)).1)) ∧ Kept (fun _ => False) w116 w_) rfl rfl (y_cs rfl rfl rfl (fun _ _ => by kernel_rfl) (ev_func _) (vsC rfl vsN) (bref_next ((rdStep (wholeRd (l) (mostK (k))) (st)).1)  _   ) (fun e_ w_ h_ => ⟨_, h_.1, rfl, h_.2⟩)) ?_
   rintro _ w562 ⟨rfl, k563⟩
   have B564 := B118.all k563 Apart.none
   have B566 := B120.all k563 id
   have B567 := B121.all k563 id
   have B568 := B122.all k563 id
   have K569 := K123.trans k563 (fun _ _ x => x.elim)
   refine wl_nil fun F570 hF571 => ?_
   have s572 := (hF571 0).trans s126
   have s573 := (hF571 69).trans s127
   have s574 := (hF571 7).trans s129
   have s575 := (hF571 8).trans s130
   have s576 := (hF571 10).trans s131
   have s577 : F570 44 = .bool (nextB ((rdStep (wholeRd (l) (mostK (k))) (st)).1)) := (hF571 44).trans rfl
   clear hF571
   refine then_normal ?_
   refine wq_cond s577 (fun c578 => ?_) (fun c578 => ?_)
   ·skip
    refine wq_seq ?_
    rw [stV_yes (has := nextB (rdStep (wholeRd l (mostK k)) st).1) (by assumption)] at h1
    refine wq_region ?_
    refine wl_v (.pointer (some ⟨p, 0, none⟩)) rfl rfl (y_mov rfl s572 ⟨rfl, rfl⟩) ?_
    refine wl_v (.agg #[.int .i64 (bx), .int .i64 (yy)]) rfl rfl (y_load_stc stcT_vector rfl s574 B566 ⟨rfl, rfl⟩) ?_
    refine wl_call (R := fun v_ w_ => ∃ (T581 : Nat → Prop), .tuple #[.agg #[.int .i64 (vrX ((l)) (bx) (yy) ((rdStep (wholeRd (l) (mostK (k))) (st)).2)), .int .i64 (vrY ((l)) (bx) (yy) ((rdStep (wholeRd (l) (mostK (k))) (st)).2))], .int .i64 (vrE ((l)) (bx) (yy) ((rdStep (wholeRd (l) (mostK (k))) (st)).2))] = v_ ∧ Kept (T51) w562 w_ ∧ (Rfi w_ T581 p (((l))) (vrS ((l)) ((rdStep (wholeRd (l) (mostK (k))) (st)).2)) ∧ Grew w562 (T51) T581)) rfl rfl (y_cs rfl rfl rfl (fun _ _ => by kernel_rfl) (ev_func _) (vsC rfl (vsC rfl vsN)) (vref_read (p) ((l)) ((rdStep (wholeRd (l) (mostK (k))) (st)).2) (bx) (yy) (T51) _  B564 ) (fun e_ w_ h_ => by obtain ⟨T581_, he_, hr_⟩ := h_; exact ⟨_, he_, T581_, rfl, hr_⟩)) ?_
    rintro _ w579 ⟨T581, rfl, k580, ⟨B582, g583⟩⟩
    have B586 := B567.all k580 (fun x => (((ap61).symm) p21 rfl x))
    have B587 := B568.all k580 (fun x => ((ap68) p62 rfl x))
    have K588 := K569.trans k580 (fun i hi x => ((Grew.ok (S := T_r) gr58 (fun _ x => x)) i hi x))
    have gr589 := gr58.trans K569 g583
    have ap592 : Apart T581 (onB p21) := (ap61).grew g583 (onB_live (B567).lt)
    have ap593 : Apart T581 (onB p62) := ((ap68).symm).grew g583 (onB_live (B568).lt)
    refine wl_v (.tuple #[.agg #[.int .i64 (vrX ((l)) (bx) (yy) ((rdStep (wholeRd (l) (mostK (k))) (st)).2)), .int .i64 (vrY ((l)) (bx) (yy) ((rdStep (wholeRd (l) (mostK (k))) (st)).2))], .int .i64 (vrE ((l)) (bx) (yy) ((rdStep (wholeRd (l) (mostK (k))) (st)).2))]) rfl rfl (y_mov rfl rfl ⟨rfl, rfl⟩) ?_
    refine wl_v (.agg #[.int .i64 (vrX ((l)) (bx) (yy) ((rdStep (wholeRd (l) (mostK (k))) (st)).2)), .int .i64 (vrY ((l)) (bx) (yy) ((rdStep (wholeRd (l) (mostK (k))) (st)).2))]) rfl rfl (y_ext rfl rfl rfl ⟨rfl, rfl⟩) ?_
    refine wl_v (.int .i64 (vrE ((l)) (bx) (yy) ((rdStep (wholeRd (l) (mostK (k))) (st)).2))) rfl rfl (y_ext rfl rfl rfl ⟨rfl, rfl⟩) ?_
    refine wl_alloc_stc (n := 2) (vs := [.int .i64 (0), .int .i64 (0)]) rfl rfl rfl (by kernel_rfl) fun p594 w595 B597 g598 k596 => ?_
    have gr599 : Grew w0 noB (onB p594) := Grew.new K588 g598
    have ap600 : Apart (onB p594) (T581) := Apart.new g598 (B582).live
    have ap603 : Apart (onB p594) (onB p21) := Apart.new g598 (onB_live (B586).lt)
    have ap604 : Apart (onB p594) (onB p62) := Apart.new g598 (onB_live (B587).lt)
    have B605 := B582.all k596 Apart.none
    have B608 := B586.all k596 id
    have B609 := B587.all k596 id
    have K610 := K588.trans k596 (fun _ _ x => x.elim)
    refine wl_store_stc (us := [.int .i64 (vrX ((l)) (bx) (yy) ((rdStep (wholeRd (l) (mostK (k))) (st)).2)), .int .i64 (vrY ((l)) (bx) (yy) ((rdStep (wholeRd (l) (mostK (k))) (st)).2))]) stcT_vector rfl rfl rfl rfl rfl B597 rfl (oneI rfl (oneI rfl oneN)) fun w611 B612 k613 => ?_
    have B614 := B605.all k613 (fun i h x => (((ap600).symm) i h x))
    have B617 := B608.all k613 (fun x => (((ap603).symm) p21 rfl x))
    have B618 := B609.all k613 (fun x => (((ap604).symm) p62 rfl x))
    have K619 := K610.trans k613 (Grew.ok (S := T_r) gr599 noB_le)
    refine wl_v (.int .i64 (vrE ((l)) (bx) (yy) ((rdStep (wholeRd (l) (mostK (k))) (st)).2))) rfl rfl (y_asg rfl rfl ⟨rfl, rfl⟩) ?_
    refine wl_nil fun F620 hF621 => ?_
    have s622 := (hF621 0).trans s572
    have s623 := (hF621 69).trans s573
    have s624 := (hF621 8).trans s575
    have s625 := (hF621 10).trans s576
    have s626 : F620 13 = .pointer (some ⟨p594, 0, none⟩) := (hF621 13).trans rfl
    have s627 : F620 14 = .int .i64 (vrE ((l)) (bx) (yy) ((rdStep (wholeRd (l) (mostK (k))) (st)).2)) := (hF621 14).trans rfl
    clear hF621
    refine then_normal ?_
    refine wq_seq ?_
    refine wq_seq ?_
    refine wq_region ?_
    refine wl_v (.int .i64 (vrE ((l)) (bx) (yy) ((rdStep (wholeRd (l) (mostK (k))) (st)).2))) rfl rfl (y_mov rfl s627 ⟨rfl, rfl⟩) ?_
    refine wl_v (.bool (decide ((vrE ((l)) (bx) (yy) ((rdStep (wholeRd (l) (mostK (k))) (st)).2)) ≠ (0)))) rfl rfl (y_neqI rfl rfl rfl rfl ⟨rfl, rfl⟩) ?_
    refine wl_nil fun F628 hF629 => ?_
    have s630 := (hF629 0).trans s622
    have s631 := (hF629 69).trans s623
    have s632 := (hF629 8).trans s624
    have s633 := (hF629 10).trans s625
    have s634 := (hF629 13).trans s626
    have s635 := (hF629 14).trans s627
    have s636 : F628 52 = .bool (decide ((vrE ((l)) (bx) (yy) ((rdStep (wholeRd (l) (mostK (k))) (st)).2)) ≠ (0))) := (hF629 52).trans rfl
    clear hF629
    refine then_normal ?_
    refine wq_cond s636 (fun c637 => ?_) (fun c637 => ?_)
    ·replace c637 := of_decide_eq_true c637
     refine wq_seq ?_
     have hR := h1.trans (by unfold rd3; exact if_neg (by assumption))
     refine wq_region ?_
     refine wl_v (.agg (chL 0 0 0 0 0 (fun _ => (0 : Int))).toArray) rfl rfl (y_buildL (l' := []) (cells := (chL 0 0 0 0 0 (fun _ => (0 : Int))).toArray) rfl bpN (by kernel_rfl) rfl ⟨rfl, rfl⟩) ?_
     refine wl_v (.int .i64 (vrE ((l)) (bx) (yy) ((rdStep (wholeRd (l) (mostK (k))) (st)).2))) rfl rfl (y_mov rfl s635 ⟨rfl, rfl⟩) ?_
     refine wl_store_stc (us := (chL 0 0 0 0 0 (fun _ => (0 : Int)))) stcT_choice rfl rfl rfl s632 rfl B617 rfl (oneI rfl (oneI rfl (oneI rfl (oneI rfl (oneI rfl (oneI rfl (oneI rfl (oneI rfl (oneI rfl (oneI rfl (oneI rfl (oneI rfl (oneI rfl (oneI rfl (oneI rfl (oneI rfl (oneI rfl (oneI rfl (oneI rfl (oneI rfl (oneI rfl oneN))))))))))))))))))))) fun w638 B639 k640 => ?_
     have B641 := B614.all k640 (fun i h x => ((ap592) i h x))
     have K646 := K619.trans k640 (Grew.ok (S := T_r) gr26 noB_le)
     refine wl_v (.int .i64 (vrE ((l)) (bx) (yy) ((rdStep (wholeRd (l) (mostK (k))) (st)).2))) rfl rfl (y_asg rfl rfl ⟨rfl, rfl⟩) ?_
     refine wl_nil fun F647 hF648 => ?_
     have s649 := (hF648 69).trans s631
     have s650 := (hF648 8).trans s632
     have s651 : F647 9 = .int .i64 (vrE ((l)) (bx) (yy) ((rdStep (wholeRd (l) (mostK (k))) (st)).2)) := (hF648 9).trans rfl
     clear hF648
     refine then_normal ?_
     refine wq_ret ?_
     refine then_ret ?_
     refine then_ret ?_
     exact end_2 s649 rfl (res_stc (vs := (chL 0 0 0 0 0 (fun _ => (0 : Int)))) stcT_choice rfl s650 B639) (res_tmp (v := .int .i64 (vrE ((l)) (bx) (yy) ((rdStep (wholeRd (l) (mostK (k))) (st)).2))) rfl s651) ⟨T581, (by rw [hR] <;> rfl), K646, ⟨(by rw [hR]; exact B641), gr589⟩⟩
    ·replace c637 := of_decide_eq_false c637
     refine wq_skip ?_
     refine then_normal ?_
     replace h1 := h1.trans (by unfold rd3; exact if_pos (by first | assumption | (apply Decidable.byContradiction; assumption)))
     refine wq_region ?_
     refine wl_v (.agg #[.int .i64 (vrX ((l)) (bx) (yy) ((rdStep (wholeRd (l) (mostK (k))) (st)).2)), .int .i64 (vrY ((l)) (bx) (yy) ((rdStep (wholeRd (l) (mostK (k))) (st)).2))]) rfl rfl (y_load_stc stcT_vector rfl s634 B612 ⟨rfl, rfl⟩) ?_
     refine wl_v (.pointer (some ⟨p62, 3, none⟩)) rfl rfl (y_fieldR (n := 2) rfl s633 Tryd.underlying27 rfl (by kernel_rfl) (by decide) rfl ⟨rfl, rfl⟩) ?_
     refine wl_setPart (us := [.int .i64 (vrX ((l)) (bx) (yy) ((rdStep (wholeRd (l) (mostK (k))) (st)).2)), .int .i64 (vrY ((l)) (bx) (yy) ((rdStep (wholeRd (l) (mostK (k))) (st)).2))]) (ns := (chL ((rdStep (wholeRd (l) (mostK (k))) (st)).1) 0 0 (vrX ((l)) (bx) (yy) ((rdStep (wholeRd (l) (mostK (k))) (st)).2)) (vrY ((l)) (bx) (yy) ((rdStep (wholeRd (l) (mostK (k))) (st)).2)) (fun _ => (0 : Int)))) stcT_vector rfl rfl rfl rfl rfl B618 (Nat.le_of_ble_eq_true rfl) (oneI rfl (oneI rfl oneN)) rfl fun w652 B653 k654 => ?_
     have B655 := B614.all k654 (fun i h x => ((ap593) i h x))
     have B658 := B617.all k654 (fun x => (((ap71).symm) p21 rfl x))
     have K660 := K619.trans k654 (Grew.ok (S := T_r) gr67 noB_le)
     refine wl_nil fun F661 hF662 => ?_
     have s663 := (hF662 0).trans s630
     have s664 := (hF662 69).trans s631
     have s665 := (hF662 8).trans s632
     have s666 := (hF662 10).trans s633
     clear hF662
     refine then_normal ?_
     refine wq_seq ?_
     try (rw [stV_no (has := nextB (rdStep (wholeRd l (mostK k)) st).1) (by assumption)] at h1; replace h1 := h1.trans (if_pos rfl))
     refine wq_region ?_
     refine wl_v (.pointer (some ⟨p, 0, none⟩)) rfl rfl (y_mov rfl s663 ⟨rfl, rfl⟩) ?_
     refine wl_call (R := fun v_ w_ => ∃ (T669 : Nat → Prop), .tuple #[blkV ((scanRd (((l))) (vrS ((l)) ((rdStep (wholeRd (l) (mostK (k))) (st)).2))).1), .int .i64 ((scanRd (((l))) (vrS ((l)) ((rdStep (wholeRd (l) (mostK (k))) (st)).2))).2.1)] = v_ ∧ Kept (T581) w652 w_ ∧ (Rfi w_ T669 p ((((l)))) ((scanRd (((l))) (vrS ((l)) ((rdStep (wholeRd (l) (mostK (k))) (st)).2))).2.2) ∧ Grew w652 (T581) T669)) rfl rfl (y_cs rfl rfl rfl (fun _ _ => by kernel_rfl) (ev_func _) (vsC rfl vsN) (sref_read (p) (((l))) (vrS ((l)) ((rdStep (wholeRd (l) (mostK (k))) (st)).2)) (T581) _  B655 ) (fun e_ w_ h_ => by obtain ⟨T669_, he_, hr_⟩ := h_; exact ⟨_, he_, T669_, rfl, hr_⟩)) ?_
     rintro _ w667 ⟨T669, rfl, k668, ⟨B670, g671⟩⟩
     have B674 := B658.all k668 (fun x => (((ap592).symm) p21 rfl x))
     have B675 := B653.all k668 (fun x => (((ap593).symm) p62 rfl x))
     have K677 := K660.trans k668 (fun i hi x => ((Grew.ok (S := T_r) gr589 (fun _ x => x)) i hi x))
     have gr678 := gr589.trans K660 g671
     have ap681 : Apart T669 (onB p21) := (ap592).grew g671 (onB_live (B658).lt)
     have ap682 : Apart T669 (onB p62) := (ap593).grew g671 (onB_live (B653).lt)
     refine wl_v (.tuple #[blkV ((scanRd (((l))) (vrS ((l)) ((rdStep (wholeRd (l) (mostK (k))) (st)).2))).1), .int .i64 ((scanRd (((l))) (vrS ((l)) ((rdStep (wholeRd (l) (mostK (k))) (st)).2))).2.1)]) rfl rfl (y_mov rfl rfl ⟨rfl, rfl⟩) ?_
     refine wl_v (blkV ((scanRd (((l))) (vrS ((l)) ((rdStep (wholeRd (l) (mostK (k))) (st)).2))).1)) rfl rfl (y_ext rfl rfl rfl ⟨rfl, rfl⟩) ?_
     refine wl_v (.int .i64 ((scanRd (((l))) (vrS ((l)) ((rdStep (wholeRd (l) (mostK (k))) (st)).2))).2.1)) rfl rfl (y_ext rfl rfl rfl ⟨rfl, rfl⟩) ?_
     refine wl_alloc_blk rfl rfl rfl blkT_arr.2.2 fun p684 w685 e688 B686 k687 => ?_
     have g689 := onB_new (Nat.le_of_eq e688.symm)
     have gr690 : Grew w0 noB (onB p684) := Grew.new K677 g689
     have ap691 : Apart (onB p684) (T669) := Apart.new g689 (B670).live
     have ap694 : Apart (onB p684) (onB p21) := Apart.new g689 (onB_live (B674).lt)
     have ap695 : Apart (onB p684) (onB p62) := Apart.new g689 (onB_live (B675).lt)
     clear e688 g689
     have B697 := B670.all k687 Apart.none
     have B700 := B674.all k687 id
     have B701 := B675.all k687 id
     have K703 := K677.trans k687 (fun _ _ x => x.elim)
     refine wl_store_blk blkT_arr rfl rfl rfl rfl rfl B686 fun w704 B705 k706 => ?_
     have B707 := B697.all k706 (fun i h x => (((ap691).symm) i h x))
     have B710 := B700.all k706 (fun x => (((ap694).symm) p21 rfl x))
     have B711 := B701.all k706 (fun x => (((ap695).symm) p62 rfl x))
     have K713 := K703.trans k706 (Grew.ok (S := T_r) gr690 noB_le)
     refine wl_v (.int .i64 ((scanRd (((l))) (vrS ((l)) ((rdStep (wholeRd (l) (mostK (k))) (st)).2))).2.1)) rfl rfl (y_asg rfl rfl ⟨rfl, rfl⟩) ?_
     refine wl_nil fun F714 hF715 => ?_
     have s716 := (hF715 69).trans s664
     have s717 := (hF715 8).trans s665
     have s718 := (hF715 10).trans s666
     have s719 : F714 15 = .pointer (some ⟨p684, 0, none⟩) := (hF715 15).trans rfl
     have s720 : F714 16 = .int .i64 ((scanRd (((l))) (vrS ((l)) ((rdStep (wholeRd (l) (mostK (k))) (st)).2))).2.1) := (hF715 16).trans rfl
     clear hF715
     refine then_normal ?_
     refine wq_seq ?_
     refine wq_seq ?_
     refine wq_region ?_
     refine wl_v (.int .i64 ((scanRd (((l))) (vrS ((l)) ((rdStep (wholeRd (l) (mostK (k))) (st)).2))).2.1)) rfl rfl (y_mov rfl s720 ⟨rfl, rfl⟩) ?_
     refine wl_v (.bool (decide (((scanRd (((l))) (vrS ((l)) ((rdStep (wholeRd (l) (mostK (k))) (st)).2))).2.1) ≠ (0)))) rfl rfl (y_neqI rfl rfl rfl rfl ⟨rfl, rfl⟩) ?_
     refine wl_nil fun F721 hF722 => ?_
     have s723 := (hF722 69).trans s716
     have s724 := (hF722 8).trans s717
     have s725 := (hF722 10).trans s718
     have s726 := (hF722 15).trans s719
     have s727 := (hF722 16).trans s720
     have s728 : F721 63 = .bool (decide (((scanRd (((l))) (vrS ((l)) ((rdStep (wholeRd (l) (mostK (k))) (st)).2))).2.1) ≠ (0))) := (hF722 63).trans rfl
     clear hF722
     refine then_normal ?_
     refine wq_cond s728 (fun c729 => ?_) (fun c729 => ?_)
     ·replace c729 := of_decide_eq_true c729
      refine wq_seq ?_
      have hR := h1.trans (by unfold rd4; exact if_neg (by assumption))
      refine wq_region ?_
      refine wl_v (.agg (chL 0 0 0 0 0 (fun _ => (0 : Int))).toArray) rfl rfl (y_buildL (l' := []) (cells := (chL 0 0 0 0 0 (fun _ => (0 : Int))).toArray) rfl bpN (by kernel_rfl) rfl ⟨rfl, rfl⟩) ?_
      refine wl_v (.int .i64 ((scanRd (((l))) (vrS ((l)) ((rdStep (wholeRd (l) (mostK (k))) (st)).2))).2.1)) rfl rfl (y_mov rfl s727 ⟨rfl, rfl⟩) ?_
      refine wl_store_stc (us := (chL 0 0 0 0 0 (fun _ => (0 : Int)))) stcT_choice rfl rfl rfl s724 rfl B710 rfl (oneI rfl (oneI rfl (oneI rfl (oneI rfl (oneI rfl (oneI rfl (oneI rfl (oneI rfl (oneI rfl (oneI rfl (oneI rfl (oneI rfl (oneI rfl (oneI rfl (oneI rfl (oneI rfl (oneI rfl (oneI rfl (oneI rfl (oneI rfl (oneI rfl oneN))))))))))))))))))))) fun w730 B731 k732 => ?_
      have B733 := B707.all k732 (fun i h x => ((ap681) i h x))
      have K739 := K713.trans k732 (Grew.ok (S := T_r) gr26 noB_le)
      refine wl_v (.int .i64 ((scanRd (((l))) (vrS ((l)) ((rdStep (wholeRd (l) (mostK (k))) (st)).2))).2.1)) rfl rfl (y_asg rfl rfl ⟨rfl, rfl⟩) ?_
      refine wl_nil fun F740 hF741 => ?_
      have s742 := (hF741 69).trans s723
      have s743 := (hF741 8).trans s724
      have s744 : F740 9 = .int .i64 ((scanRd (((l))) (vrS ((l)) ((rdStep (wholeRd (l) (mostK (k))) (st)).2))).2.1) := (hF741 9).trans rfl
      clear hF741
      refine then_normal ?_
      refine wq_ret ?_
      refine then_ret ?_
      exact end_2 s742 rfl (res_stc (vs := (chL 0 0 0 0 0 (fun _ => (0 : Int)))) stcT_choice rfl s743 B731) (res_tmp (v := .int .i64 ((scanRd (((l))) (vrS ((l)) ((rdStep (wholeRd (l) (mostK (k))) (st)).2))).2.1)) rfl s744) ⟨T669, (by rw [hR] <;> rfl), K739, ⟨(by rw [hR]; exact B733), gr678⟩⟩
     ·replace c729 := of_decide_eq_false c729
      refine wq_skip ?_
      refine then_normal ?_
      refine wq_seq ?_
      have hR := h1.trans (by unfold rd4; exact if_pos (by first | assumption | (apply Decidable.byContradiction; assumption)))
      refine wq_region ?_
      refine wl_v (blkV ((scanRd (((l))) (vrS ((l)) ((rdStep (wholeRd (l) (mostK (k))) (st)).2))).1)) rfl rfl (y_load_blk blkT_arr rfl s726 B705 ⟨rfl, rfl⟩) ?_
      refine wl_v (.pointer (some ⟨p62, 5, none⟩)) rfl rfl (y_fieldR (n := 16) rfl s725 Tryd.underlying27 rfl (by kernel_rfl) (by decide) rfl ⟨rfl, rfl⟩) ?_
      refine wl_setPart (us := arrL 16 ((scanRd (((l))) (vrS ((l)) ((rdStep (wholeRd (l) (mostK (k))) (st)).2))).1)) (ns := (chL ((rdStep (wholeRd (l) (mostK (k))) (st)).1) 0 0 (vrX ((l)) (bx) (yy) ((rdStep (wholeRd (l) (mostK (k))) (st)).2)) (vrY ((l)) (bx) (yy) ((rdStep (wholeRd (l) (mostK (k))) (st)).2)) ((scanRd (((l))) (vrS ((l)) ((rdStep (wholeRd (l) (mostK (k))) (st)).2))).1))) stcT_block rfl rfl rfl rfl rfl B711 (Nat.le_of_ble_eq_true rfl) (one_arrL _ _) rfl fun w745 B746 k747 => ?_
      have B748 := B707.all k747 (fun i h x => ((ap682) i h x))
      have B751 := B710.all k747 (fun x => (((ap71).symm) p21 rfl x))
      have K754 := K713.trans k747 (Grew.ok (S := T_r) gr67 noB_le)
      refine wl_nil fun F755 hF756 => ?_
      have s757 := (hF756 69).trans s723
      have s758 := (hF756 8).trans s724
      have s759 := (hF756 10).trans s725
      clear hF756
      refine then_normal ?_
      refine wq_seq ?_
      refine wq_region ?_
      refine wl_v (.agg (chL ((rdStep (wholeRd (l) (mostK (k))) (st)).1) 0 0 (vrX ((l)) (bx) (yy) ((rdStep (wholeRd (l) (mostK (k))) (st)).2)) (vrY ((l)) (bx) (yy) ((rdStep (wholeRd (l) (mostK (k))) (st)).2)) ((scanRd (((l))) (vrS ((l)) ((rdStep (wholeRd (l) (mostK (k))) (st)).2))).1)).toArray) rfl rfl (y_load_stc stcT_choice rfl s759 B746 ⟨rfl, rfl⟩) ?_
      refine wl_store_stc (us := (chL ((rdStep (wholeRd (l) (mostK (k))) (st)).1) 0 0 (vrX ((l)) (bx) (yy) ((rdStep (wholeRd (l) (mostK (k))) (st)).2)) (vrY ((l)) (bx) (yy) ((rdStep (wholeRd (l) (mostK (k))) (st)).2)) ((scanRd (((l))) (vrS ((l)) ((rdStep (wholeRd (l) (mostK (k))) (st)).2))).1))) stcT_choice rfl rfl rfl s758 rfl B751 rfl (oneI rfl (oneI rfl (oneI rfl (oneI rfl (oneI rfl (oneI rfl (oneI rfl (oneI rfl (oneI rfl (oneI rfl (oneI rfl (oneI rfl (oneI rfl (oneI rfl (oneI rfl (oneI rfl (oneI rfl (oneI rfl (oneI rfl (oneI rfl (oneI rfl oneN))))))))))))))))))))) fun w760 B761 k762 => ?_
      have B763 := B748.all k762 (fun i h x => ((ap681) i h x))
      have K769 := K754.trans k762 (Grew.ok (S := T_r) gr26 noB_le)
      refine wl_v (.int .i64 (0)) rfl rfl (y_asg rfl rfl ⟨rfl, rfl⟩) ?_
      refine wl_nil fun F770 hF771 => ?_
      have s772 := (hF771 69).trans s757
      have s773 := (hF771 8).trans s758
      have s774 : F770 9 = .int .i64 (0) := (hF771 9).trans rfl
      clear hF771
      refine then_normal ?_
      refine wq_ret ?_
      exact end_2 s772 rfl (res_stc (vs := (chL ((rdStep (wholeRd (l) (mostK (k))) (st)).1) 0 0 (vrX ((l)) (bx) (yy) ((rdStep (wholeRd (l) (mostK (k))) (st)).2)) (vrY ((l)) (bx) (yy) ((rdStep (wholeRd (l) (mostK (k))) (st)).2)) ((scanRd (((l))) (vrS ((l)) ((rdStep (wholeRd (l) (mostK (k))) (st)).2))).1))) stcT_choice rfl s773 B761) (res_tmp (v := .int .i64 (0)) rfl s774) ⟨T669, (by rw [hR] <;> rfl), K769, ⟨(by rw [hR]; exact B763), gr678⟩⟩
   ·skip
    refine wq_skip ?_
    refine then_normal ?_
    refine wq_seq ?_
    try (rw [stV_no (has := nextB (rdStep (wholeRd l (mostK k)) st).1) (by assumption)] at h1; replace h1 := h1.trans (if_pos rfl))
    refine wq_region ?_
    refine wl_v (.pointer (some ⟨p, 0, none⟩)) rfl rfl (y_mov rfl s572 ⟨rfl, rfl⟩) ?_
    refine wl_call (R := fun v_ w_ => ∃ (T777 : Nat → Prop), .tuple #[blkV ((scanRd ((l)) ((rdStep (wholeRd (l) (mostK (k))) (st)).2)).1), .int .i64 ((scanRd ((l)) ((rdStep (wholeRd (l) (mostK (k))) (st)).2)).2.1)] = v_ ∧ Kept (T51) w562 w_ ∧ (Rfi w_ T777 p (((l))) ((scanRd ((l)) ((rdStep (wholeRd (l) (mostK (k))) (st)).2)).2.2) ∧ Grew w562 (T51) T777)) rfl rfl (y_cs rfl rfl rfl (fun _ _ => by kernel_rfl) (ev_func _) (vsC rfl vsN) (sref_read (p) ((l)) ((rdStep (wholeRd (l) (mostK (k))) (st)).2) (T51) _  B564 ) (fun e_ w_ h_ => by obtain ⟨T777_, he_, hr_⟩ := h_; exact ⟨_, he_, T777_, rfl, hr_⟩)) ?_
    rintro _ w775 ⟨T777, rfl, k776, ⟨B778, g779⟩⟩
    have B782 := B567.all k776 (fun x => (((ap61).symm) p21 rfl x))
    have B783 := B568.all k776 (fun x => ((ap68) p62 rfl x))
    have K784 := K569.trans k776 (fun i hi x => ((Grew.ok (S := T_r) gr58 (fun _ x => x)) i hi x))
    have gr785 := gr58.trans K569 g779
    have ap788 : Apart T777 (onB p21) := (ap61).grew g779 (onB_live (B567).lt)
    have ap789 : Apart T777 (onB p62) := ((ap68).symm).grew g779 (onB_live (B568).lt)
    refine wl_v (.tuple #[blkV ((scanRd ((l)) ((rdStep (wholeRd (l) (mostK (k))) (st)).2)).1), .int .i64 ((scanRd ((l)) ((rdStep (wholeRd (l) (mostK (k))) (st)).2)).2.1)]) rfl rfl (y_mov rfl rfl ⟨rfl, rfl⟩) ?_
    refine wl_v (blkV ((scanRd ((l)) ((rdStep (wholeRd (l) (mostK (k))) (st)).2)).1)) rfl rfl (y_ext rfl rfl rfl ⟨rfl, rfl⟩) ?_
    refine wl_v (.int .i64 ((scanRd ((l)) ((rdStep (wholeRd (l) (mostK (k))) (st)).2)).2.1)) rfl rfl (y_ext rfl rfl rfl ⟨rfl, rfl⟩) ?_
    refine wl_alloc_blk rfl rfl rfl blkT_arr.2.2 fun p790 w791 e794 B792 k793 => ?_
    have g795 := onB_new (Nat.le_of_eq e794.symm)
    have gr796 : Grew w0 noB (onB p790) := Grew.new K784 g795
    have ap797 : Apart (onB p790) (T777) := Apart.new g795 (B778).live
    have ap800 : Apart (onB p790) (onB p21) := Apart.new g795 (onB_live (B782).lt)
    have ap801 : Apart (onB p790) (onB p62) := Apart.new g795 (onB_live (B783).lt)
    clear e794 g795
    have B802 := B778.all k793 Apart.none
    have B805 := B782.all k793 id
    have B806 := B783.all k793 id
    have K807 := K784.trans k793 (fun _ _ x => x.elim)
    refine wl_store_blk blkT_arr rfl rfl rfl rfl rfl B792 fun w808 B809 k810 => ?_
    have B811 := B802.all k810 (fun i h x => (((ap797).symm) i h x))
    have B814 := B805.all k810 (fun x => (((ap800).symm) p21 rfl x))
    have B815 := B806.all k810 (fun x => (((ap801).symm) p62 rfl x))
    have K816 := K807.trans k810 (Grew.ok (S := T_r) gr796 noB_le)
    refine wl_v (.int .i64 ((scanRd ((l)) ((rdStep (wholeRd (l) (mostK (k))) (st)).2)).2.1)) rfl rfl (y_asg rfl rfl ⟨rfl, rfl⟩) ?_
    refine wl_nil fun F817 hF818 => ?_
    have s819 := (hF818 69).trans s573
    have s820 := (hF818 8).trans s575
    have s821 := (hF818 10).trans s576
    have s822 : F817 15 = .pointer (some ⟨p790, 0, none⟩) := (hF818 15).trans rfl
    have s823 : F817 16 = .int .i64 ((scanRd ((l)) ((rdStep (wholeRd (l) (mostK (k))) (st)).2)).2.1) := (hF818 16).trans rfl
    clear hF818
    refine then_normal ?_
    refine wq_seq ?_
    refine wq_seq ?_
    refine wq_region ?_
    refine wl_v (.int .i64 ((scanRd ((l)) ((rdStep (wholeRd (l) (mostK (k))) (st)).2)).2.1)) rfl rfl (y_mov rfl s823 ⟨rfl, rfl⟩) ?_
    refine wl_v (.bool (decide (((scanRd ((l)) ((rdStep (wholeRd (l) (mostK (k))) (st)).2)).2.1) ≠ (0)))) rfl rfl (y_neqI rfl rfl rfl rfl ⟨rfl, rfl⟩) ?_
    refine wl_nil fun F824 hF825 => ?_
    have s826 := (hF825 69).trans s819
    have s827 := (hF825 8).trans s820
    have s828 := (hF825 10).trans s821
    have s829 := (hF825 15).trans s822
    have s830 := (hF825 16).trans s823
    have s831 : F824 63 = .bool (decide (((scanRd ((l)) ((rdStep (wholeRd (l) (mostK (k))) (st)).2)).2.1) ≠ (0))) := (hF825 63).trans rfl
    clear hF825
    refine then_normal ?_
    refine wq_cond s831 (fun c832 => ?_) (fun c832 => ?_)
    ·replace c832 := of_decide_eq_true c832
     refine wq_seq ?_
     have hR := h1.trans (by unfold rd4; exact if_neg (by assumption))
     refine wq_region ?_
     refine wl_v (.agg (chL 0 0 0 0 0 (fun _ => (0 : Int))).toArray) rfl rfl (y_buildL (l' := []) (cells := (chL 0 0 0 0 0 (fun _ => (0 : Int))).toArray) rfl bpN (by kernel_rfl) rfl ⟨rfl, rfl⟩) ?_
     refine wl_v (.int .i64 ((scanRd ((l)) ((rdStep (wholeRd (l) (mostK (k))) (st)).2)).2.1)) rfl rfl (y_mov rfl s830 ⟨rfl, rfl⟩) ?_
     refine wl_store_stc (us := (chL 0 0 0 0 0 (fun _ => (0 : Int)))) stcT_choice rfl rfl rfl s827 rfl B814 rfl (oneI rfl (oneI rfl (oneI rfl (oneI rfl (oneI rfl (oneI rfl (oneI rfl (oneI rfl (oneI rfl (oneI rfl (oneI rfl (oneI rfl (oneI rfl (oneI rfl (oneI rfl (oneI rfl (oneI rfl (oneI rfl (oneI rfl (oneI rfl (oneI rfl oneN))))))))))))))))))))) fun w833 B834 k835 => ?_
     have B836 := B811.all k835 (fun i h x => ((ap788) i h x))
     have K841 := K816.trans k835 (Grew.ok (S := T_r) gr26 noB_le)
     refine wl_v (.int .i64 ((scanRd ((l)) ((rdStep (wholeRd (l) (mostK (k))) (st)).2)).2.1)) rfl rfl (y_asg rfl rfl ⟨rfl, rfl⟩) ?_
     refine wl_nil fun F842 hF843 => ?_
     have s844 := (hF843 69).trans s826
     have s845 := (hF843 8).trans s827
     have s846 : F842 9 = .int .i64 ((scanRd ((l)) ((rdStep (wholeRd (l) (mostK (k))) (st)).2)).2.1) := (hF843 9).trans rfl
     clear hF843
     refine then_normal ?_
     refine wq_ret ?_
     refine then_ret ?_
     exact end_2 s844 rfl (res_stc (vs := (chL 0 0 0 0 0 (fun _ => (0 : Int)))) stcT_choice rfl s845 B834) (res_tmp (v := .int .i64 ((scanRd ((l)) ((rdStep (wholeRd (l) (mostK (k))) (st)).2)).2.1)) rfl s846) ⟨T777, (by rw [hR] <;> rfl), K841, ⟨(by rw [hR]; exact B836), gr785⟩⟩
    ·replace c832 := of_decide_eq_false c832
     refine wq_skip ?_
     refine then_normal ?_
     refine wq_seq ?_
     have hR := h1.trans (by unfold rd4; exact if_pos (by first | assumption | (apply Decidable.byContradiction; assumption)))
     refine wq_region ?_
     refine wl_v (blkV ((scanRd ((l)) ((rdStep (wholeRd (l) (mostK (k))) (st)).2)).1)) rfl rfl (y_load_blk blkT_arr rfl s829 B809 ⟨rfl, rfl⟩) ?_
     refine wl_v (.pointer (some ⟨p62, 5, none⟩)) rfl rfl (y_fieldR (n := 16) rfl s828 Tryd.underlying27 rfl (by kernel_rfl) (by decide) rfl ⟨rfl, rfl⟩) ?_
     refine wl_setPart (us := arrL 16 ((scanRd ((l)) ((rdStep (wholeRd (l) (mostK (k))) (st)).2)).1)) (ns := (chL ((rdStep (wholeRd (l) (mostK (k))) (st)).1) 0 0 0 0 ((scanRd ((l)) ((rdStep (wholeRd (l) (mostK (k))) (st)).2)).1))) stcT_block rfl rfl rfl rfl rfl B815 (Nat.le_of_ble_eq_true rfl) (one_arrL _ _) rfl fun w847 B848 k849 => ?_
     have B850 := B811.all k849 (fun i h x => ((ap789) i h x))
     have B853 := B814.all k849 (fun x => (((ap71).symm) p21 rfl x))
     have K855 := K816.trans k849 (Grew.ok (S := T_r) gr67 noB_le)
     refine wl_nil fun F856 hF857 => ?_
     have s858 := (hF857 69).trans s826
     have s859 := (hF857 8).trans s827
     have s860 := (hF857 10).trans s828
     clear hF857
     refine then_normal ?_
     refine wq_seq ?_
     refine wq_region ?_
     refine wl_v (.agg (chL ((rdStep (wholeRd (l) (mostK (k))) (st)).1) 0 0 0 0 ((scanRd ((l)) ((rdStep (wholeRd (l) (mostK (k))) (st)).2)).1)).toArray) rfl rfl (y_load_stc stcT_choice rfl s860 B848 ⟨rfl, rfl⟩) ?_
     refine wl_store_stc (us := (chL ((rdStep (wholeRd (l) (mostK (k))) (st)).1) 0 0 0 0 ((scanRd ((l)) ((rdStep (wholeRd (l) (mostK (k))) (st)).2)).1))) stcT_choice rfl rfl rfl s859 rfl B853 rfl (oneI rfl (oneI rfl (oneI rfl (oneI rfl (oneI rfl (oneI rfl (oneI rfl (oneI rfl (oneI rfl (oneI rfl (oneI rfl (oneI rfl (oneI rfl (oneI rfl (oneI rfl (oneI rfl (oneI rfl (oneI rfl (oneI rfl (oneI rfl (oneI rfl oneN))))))))))))))))))))) fun w861 B862 k863 => ?_
     have B864 := B850.all k863 (fun i h x => ((ap788) i h x))
     have K869 := K855.trans k863 (Grew.ok (S := T_r) gr26 noB_le)
     refine wl_v (.int .i64 (0)) rfl rfl (y_asg rfl rfl ⟨rfl, rfl⟩) ?_
     refine wl_nil fun F870 hF871 => ?_
     have s872 := (hF871 69).trans s858
     have s873 := (hF871 8).trans s859
     have s874 : F870 9 = .int .i64 (0) := (hF871 9).trans rfl
     clear hF871
     refine then_normal ?_
     refine wq_ret ?_
     exact end_2 s872 rfl (res_stc (vs := (chL ((rdStep (wholeRd (l) (mostK (k))) (st)).1) 0 0 0 0 ((scanRd ((l)) ((rdStep (wholeRd (l) (mostK (k))) (st)).2)).1))) stcT_choice rfl s873 B862) (res_tmp (v := .int .i64 (0)) rfl s874) ⟨T777, (by rw [hR] <;> rfl), K869, ⟨(by rw [hR]; exact B864), gr785⟩⟩
end Go.Proofs.YtdcbabgcbkdlhaaDoor
set_option maxRecDepth 100000
namespace Go.Proofs.YtdcbabgcbkdlhaaDoor
open Go.RowKit

section
variable {N : Nat} {Q : (Exit → (Nat → Value) → World → Prop)} {F : Nat → Value} {w : World} {P : Program}
def StepR (N : Nat) (P : Program) (R : World → World → Prop) (D : List (Option Tmp)) (G : Nat → Value → World → Prop) (F0 : Nat → Value) (w0 : World) (i : Nat) (o : Oper) : Prop :=
  ∀ (F : Nat → Value) (w : World), R w0 w → (∀ t, Nat.blt t N = true → some t ∉ D → F t = F0 t) → DepsF D G F w o.after.toList → o.guard = none ∧ Yields P (ev F) o w (fun v w' => G i v w' ∧ R w w')
def StepsR (N : Nat) (P : Program) (R : World → World → Prop) (D : List (Option Tmp)) (G : Nat → Value → World → Prop) (F0 : Nat → Value) (w0 : World) : Nat → List Oper → Prop
  | _, [] => True
  | i, o :: r => StepR N P R D G F0 w0 i o ∧ StepsR N P R D G F0 w0 (i + 1) r
theorem StepR.step {R : World → World → Prop} {D : List (Option Tmp)} {G : Nat → Value → World → Prop} {w0 : World} {i : Nat} {o : Oper} {a0 : Act} (ha : Fr N F a0) (h : StepR N P R D G F w0 i o) : Step P R D G a0 w0 i o := by
  intro a w hR hout hD
  have h1 := h (fun t => a.tmps.getD t undef) w hR (fun t hb ht => by rw [← ha.at' t hb]; exact hout t ht) hD.toF
  rw [← eval_ev a] at h1
  unfold goes
  rw [h1.1]
  exact ⟨fun _ => h1.2, fun e => by cases e⟩
theorem StepsR.steps {R : World → World → Prop} {D : List (Option Tmp)} {G : Nat → Value → World → Prop} {w0 : World} {a0 : Act} (ha : Fr N F a0) : ∀ {os : List Oper} {i : Nat}, StepsR N P R D G F w0 i os → Steps P R D G a0 w0 i os := by
  intro os
  induction os with
  | nil => intro i _; exact trivial
  | cons o r ih => intro i h; exact ⟨h.1.step ha, ih h.2⟩
end

/-- What may become of the row, and of nothing else. -/
def RepR (T : Nat → Prop) (v : Value) (L L' : List Nat) (a b : World) : Prop := Kept T a b ∧ (Owb a T v L' → Owb b T v L') ∧ (Owb a T v L → Owb b T v L ∨ Owb b T v L')
theorem RepR.refl {T : Nat → Prop} {v : Value} {L L' : List Nat} (a : World) : RepR T v L L' a a := ⟨Kept.refl _ _, id, .inl⟩
theorem RepR.trans {T : Nat → Prop} {v : Value} {L L' : List Nat} {a b c : World} (h : RepR T v L L' a b) (k : RepR T v L L' b c) : RepR T v L L' a c :=
  ⟨h.1.trans k.1 (fun _ _ x => x), fun x => k.2.1 (h.2.1 x), fun x => (h.2.2 x).elim k.2.2 (fun y => .inr (k.2.1 y))⟩
theorem RepR.drew {T : Nat → Prop} {v : Value} {L L' : List Nat} (a : World) : RepR T v L L' a a.drew :=
  ⟨(Kept.refl _ _).drew, fun h => h.all (S := fun _ => False) (Kept.refl _ _).drew Apart.none, fun h => .inl (h.all (S := fun _ => False) (Kept.refl _ _).drew Apart.none)⟩
/-- What each operation answers. -/
def RepG (T : Nat → Prop) (v : Value) (L' : List Nat) (vs : List Value) (i : Nat) (x : Value) (w : World) : Prop := x = vs.getD i undef ∧ (i = 7 → Owb w T v L')
theorem RepG.stays {T : Nat → Prop} {v : Value} {L L' : List Nat} {vs : List Value} (i : Nat) (x : Value) (w w' : World) (h : RepG T v L' vs i x w) (k : RepR T v L L' w w') : RepG T v L' vs i x w' := ⟨h.1, fun e => k.2.1 (h.2 e)⟩
theorem Owb.len {w : World} {T : Nat → Prop} {v : Value} {L : List Nat} (h : Owb w T v L) : Byt w T v L := h.byt
end Go.Proofs.YtdcbabgcbkdlhaaDoor
set_option maxRecDepth 100000
namespace Go.Proofs.YtdcbabgcbkdlhaaDoor
open Go.RowKit

def g9 : FD := putFr (newF 8 8 20) 0 (-3) 0 (blL [0, 0, 0, 10, 0, 0, 0, 20, 0, 0, 0, 20, 0, 0, 0, 20])
end Go.Proofs.YtdcbabgcbkdlhaaDoor
