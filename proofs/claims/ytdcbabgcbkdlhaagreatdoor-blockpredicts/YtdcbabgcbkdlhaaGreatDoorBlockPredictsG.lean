/- What BlockPredicts reaches of my texts, part 7. -/
import Derived.Test.YtdcbabgcbkdlhaaGreatDoorBlockPredictsF
set_option maxRecDepth 100000
set_option maxHeartbeats 4000000
set_option maxRecDepth 100000
namespace Go.Proofs.YtdcbabgcbkdlhaaGreatDoor
open Go.RowKit
def actFrom (m : Int) : Int := if m < 4 then 0 else if m = 4 then 1 else 2
def actL : List Value := [.int .i64 0, .bool false, .bool false, .int .i64 0, .bool false, .bool false, .int .i64 0, .bool false, .bool false, .int .i64 0, .bool false, .bool false, .int .i64 1, .bool true, .bool false, .int .i64 2, .bool false, .bool true, .int .i64 2, .bool true, .bool true]
def ActsIn (w : World) : Prop := 4 ≤ w.heap.size ∧ ∀ i, i < 21 → w.cell? ⟨0, i, none⟩ = actL[i]?
theorem ActsIn.but {w w' : World} {T : Nat → Prop} (h : ActsIn w) (k : Kept T w w') (ha : ∀ i, T i → 4 ≤ i) : ActsIn w' :=
  ⟨Nat.le_trans h.1 k.size, fun i hi => (k.cell0 (Nat.lt_of_lt_of_le (by decide) h.1) (fun x => absurd (ha _ x) (by decide))).trans (h.2 i hi)⟩
theorem ActsIn.all {w w' : World} (h : ActsIn w) (k : Kept (fun _ => False) w w') : ActsIn w' := h.but k (fun _ x => x.elim)
theorem aboveN {w0 : World} {T : Nat → Prop} (g : Grew w0 noB T) (h : ActsIn w0) : ∀ i, T i → 4 ≤ i := fun i hi => by
  have := h.1
  rcases g i hi with h1 | h1
  · exact h1.elim
  · omega
theorem aboveN2 {w0 : World} {B T : Nat → Prop} (g : Grew w0 B T) (hB : ∀ i, B i → 4 ≤ i) (h : ActsIn w0) : ∀ i, T i → 4 ≤ i := fun i hi => by
  have := h.1
  rcases g i hi with h1 | h1
  · exact hB i h1
  · omega
theorem ovO {T : Nat → Prop} (h : ∀ i, T i → 4 ≤ i) : ∀ i, T i → 1 < i := fun i hi => Nat.lt_of_lt_of_le (by decide) (h i hi)
theorem acts_all {w : World} (h : ActsIn w) {m : Int} (hm : 0 ≤ m ∧ m < 7) : w.cell? ⟨0, 0 + (m).toNat * 3, none⟩ = some (.int .i64 (actFrom m)) ∧ w.cell? ⟨0, 0 + (m).toNat * 3 + 1, none⟩ = some (.bool (pastB m)) ∧ w.cell? ⟨0, 0 + (m).toNat * 3 + 2, none⟩ = some (.bool (nextB m)) := by
  have hc : m = 0 ∨ m = 1 ∨ m = 2 ∨ m = 3 ∨ m = 4 ∨ m = 5 ∨ m = 6 := by omega
  rcases hc with rfl | rfl | rfl | rfl | rfl | rfl | rfl <;> exact ⟨(h.2 _ (by decide)).trans rfl, (h.2 _ (by decide)).trans rfl, (h.2 _ (by decide)).trans rfl⟩
theorem has_iff (k m : Int) : 0 ≤ m ∧ m < 7 → (actFrom m ≤ k ∧ k ≤ 2 ↔ m ≤ mostK k) := by
  rintro ⟨h1, h2⟩
  have ha : actFrom m = 0 ∧ m < 4 ∨ actFrom m = 1 ∧ m = 4 ∨ actFrom m = 2 ∧ 4 < m := by
    unfold actFrom
    by_cases h3 : m < 4
    · rw [if_pos h3]; omega
    · rw [if_neg h3]
      by_cases h4 : m = 4
      · rw [if_pos h4]; omega
      · rw [if_neg h4]; omega
  have hk : k = 0 ∧ mostK k = 3 ∨ k = 1 ∧ mostK k = 4 ∨ k = 2 ∧ mostK k = 6 ∨ (k < 0 ∨ 2 < k) ∧ mostK k = -1 := by
    unfold mostK
    by_cases h3 : k = 0
    · rw [if_pos h3]; omega
    · rw [if_neg h3]
      by_cases h4 : k = 1
      · rw [if_pos h4]; omega
      · rw [if_neg h4]
        by_cases h5 : k = 2
        · rw [if_pos h5]; omega
        · rw [if_neg h5]; omega
  omega
theorem bl_known (m : Int) (w0 : World) :
  Calls Tryz.prog 16 #[.int .i64 (m)] w0 fun e w' => e = .returned (.bool (decide (0 ≤ m ∧ m < 7))) ∧ Kept (fun _ => False) w0 w' := by
 refine calls_wq (args := [iv m]) 9 Tryz.func16 rfl rfl (Nat.le_of_ble_eq_true rfl) ?_
 have K0 := Kept.refl (fun _ => False) w0
 refine wq_seq (wq_region (wl_v (.bool false) rfl rfl (y_asg rfl rfl rr) (wl_nil fun F1 hF2 => ?_)))
 have s3 : F1 0 = iv m := (hF2 0).trans rfl
 have s4 : F1 9 = undef := (hF2 9).trans rfl
 clear hF2
 refine then_normal (wq_seq ?_)
 by_cases d5 : 0 ≤ m
 ·skip
  refine wq_region (wl_mv rfl rfl rfl s3 (wl_v (.bool true) rfl rfl (y_geq rfl rfl rfl (decide_eq_true d5) rr) (wl_v (.bool true) rfl rfl (y_mov rfl rfl rr) (wl_vw (iv m) 2 true 5 rfl rfl rfl rfl rfl (y_mov rfl s3 rr) (wl_vw (.bool (decide (m < 7))) 2 true 5 rfl rfl rfl rfl rfl (y_lss rfl rfl rfl rfl rr) (wl_v (.bool (decide (m < 7))) rfl rfl (y_pickT rfl rfl rfl rr) (wl_v (.bool (decide (m < 7))) rfl rfl (y_asg rfl rfl rr) (wl_nil fun F6 hF7 => ?_))))))))
  have s8 := (hF7 9).trans s4
  have s9 : F6 2 = .bool (decide (m < 7)) := (hF7 2).trans rfl
  clear hF7
  refine then_normal (wq_ret ?_)
  exact end_tmp (v := .bool (decide (m < 7))) s8 rfl rfl s9 ⟨(retB (by first | exact (decide_eq_true (by omega)).symm | exact (decide_eq_false (by omega)).symm | exact decide_eq_decide.2 (by omega))), K0⟩
 ·skip
  refine wq_region (wl_mv rfl rfl rfl s3 (wl_v (.bool false) rfl rfl (y_geq rfl rfl rfl (decide_eq_false d5) rr) (wl_v (.bool false) rfl rfl (y_mov rfl rfl rr) (wl_unless 2 true 5 rfl rfl rfl (Or.inl rfl) rfl (wl_unless 2 true 5 rfl rfl rfl (Or.inl rfl) rfl (wl_v (.bool false) rfl rfl (y_pickF rfl rfl rfl rr) (wl_v (.bool false) rfl rfl (y_asg rfl rfl rr) (wl_nil fun F10 hF11 => ?_))))))))
  have s12 := (hF11 9).trans s4
  have s13 : F10 2 = .bool false := (hF11 2).trans rfl
  clear hF11
  refine then_normal (wq_ret ?_)
  exact end_tmp (v := .bool false) s12 rfl rfl s13 ⟨(retB (by first | exact (decide_eq_true (by omega)).symm | exact (decide_eq_false (by omega)).symm | exact decide_eq_decide.2 (by omega))), K0⟩
theorem bl_has (k m : Int) (w0 : World) (hA : ActsIn w0) :
  Calls Tryz.prog 34 #[.int .i64 (k), .int .i64 (m)] w0 fun e w' => e = .returned (.bool (decide (0 ≤ m ∧ m ≤ mostK k))) ∧ Kept (fun _ => False) w0 w' := by
 refine calls_wq (args := [iv k, iv m]) 19 Tryz.func34 rfl rfl (Nat.le_of_ble_eq_true rfl) ?_
 have K0 := Kept.refl (fun _ => False) w0
 have hk6 := mostK_le k
 have hif := has_iff k m
 refine wq_seq (wq_region (wl_v (.bool false) rfl rfl (y_asg rfl rfl rr) (wl_nil fun F1 hF2 => ?_)))
 have s3 : F1 0 = iv k := (hF2 0).trans rfl
 have s4 : F1 1 = iv m := (hF2 1).trans rfl
 have s5 : F1 19 = undef := (hF2 19).trans rfl
 clear hF2
 refine then_normal (wq_seq ?_)
 by_cases d6 : 0 ≤ m ∧ m < 7
 ·skip
  by_cases d7 : (actFrom m) ≤ k
  ·skip
   refine wq_region (wl_mv rfl rfl rfl s4 (wl_call (R := fun v_ w_ => v_ = .bool true ∧ Kept (fun _ => False) w0 w_) rfl rfl (y_cs rfl rfl rfl (fun _ _ => by kernel_rfl) (ev_func _) (vsC rfl vsN) (bl_known m  _   ) (fun e_ w_ h_ => ⟨_, h_.1, (congrArg Value.bool (decide_eq_true d6)), h_.2⟩)) ?_))
   rintro _ w8 ⟨rfl, k9⟩
   have K10 := K0.tr k9
   refine wl_v (.bool true) rfl rfl (y_mov rfl rfl rr) (wl_vw (iv k) 2 true 7 rfl rfl rfl rfl rfl (y_mov rfl s3 rr) (wl_vw (iv m) 2 true 7 rfl rfl rfl rfl rfl (y_mov rfl s4 rr) (wl_vw (.pointer (some ⟨0, 0 + (m.toNat) * 3, none⟩)) 2 true 7 rfl rfl rfl rfl rfl (y_atR (m.toNat) (s := 3) rfl rfl rfl (by omega) Tryz.underlying67 (by omega) (by kernel_rfl) (by omega) rr) (wl_vw (.pointer (some ⟨0, 0 + (m.toNat) * 3, none⟩)) 2 true 7 rfl rfl rfl rfl rfl (y_fieldR (n := 1) rfl rfl Tryz.underlying66 rfl (by kernel_rfl) (by decide) rfl rr) (wl_vw (iv (actFrom m)) 2 true 7 rfl rfl rfl rfl rfl (y_ldR rfl rfl Tryz.underlying3 ((acts_all (hA.all K10) (by assumption)).1) rr) (wl_vw (.bool true) 2 true 7 rfl rfl rfl rfl rfl (y_geq rfl rfl rfl (decide_eq_true d7) rr) (wl_v (.bool true) rfl rfl (y_pickT rfl rfl rfl rr) (wl_v (.bool true) rfl rfl (y_mov rfl rfl rr) (wl_vw (iv k) 10 true 15 rfl rfl rfl rfl rfl (y_mov rfl s3 rr) (wl_vw (.bool (decide (k ≤ 2))) 10 true 15 rfl rfl rfl rfl rfl (y_leq rfl rfl rfl rfl rr) (wl_v (.bool (decide (k ≤ 2))) rfl rfl (y_pickT rfl rfl rfl rr) ?_)))))))))))
   refine wl_v (.bool (decide (k ≤ 2))) rfl rfl (y_asg rfl rfl rr) (wl_nil fun F11 hF12 => ?_)
   have s13 := (hF12 19).trans s5
   have s14 : F11 4 = .bool (decide (k ≤ 2)) := (hF12 4).trans rfl
   clear hF12
   refine then_normal (wq_ret ?_)
   exact end_tmp (v := .bool (decide (k ≤ 2))) s13 rfl rfl s14 ⟨(retB (by first | exact (decide_eq_true (by omega)).symm | exact (decide_eq_false (by omega)).symm | exact decide_eq_decide.2 (by omega))), K10⟩
  ·skip
   refine wq_region (wl_mv rfl rfl rfl s4 (wl_call (R := fun v_ w_ => v_ = .bool true ∧ Kept (fun _ => False) w0 w_) rfl rfl (y_cs rfl rfl rfl (fun _ _ => by kernel_rfl) (ev_func _) (vsC rfl vsN) (bl_known m  _   ) (fun e_ w_ h_ => ⟨_, h_.1, (congrArg Value.bool (decide_eq_true d6)), h_.2⟩)) ?_))
   rintro _ w15 ⟨rfl, k16⟩
   have K17 := K0.tr k16
   refine wl_v (.bool true) rfl rfl (y_mov rfl rfl rr) (wl_vw (iv k) 2 true 7 rfl rfl rfl rfl rfl (y_mov rfl s3 rr) (wl_vw (iv m) 2 true 7 rfl rfl rfl rfl rfl (y_mov rfl s4 rr) (wl_vw (.pointer (some ⟨0, 0 + (m.toNat) * 3, none⟩)) 2 true 7 rfl rfl rfl rfl rfl (y_atR (m.toNat) (s := 3) rfl rfl rfl (by omega) Tryz.underlying67 (by omega) (by kernel_rfl) (by omega) rr) (wl_vw (.pointer (some ⟨0, 0 + (m.toNat) * 3, none⟩)) 2 true 7 rfl rfl rfl rfl rfl (y_fieldR (n := 1) rfl rfl Tryz.underlying66 rfl (by kernel_rfl) (by decide) rfl rr) (wl_vw (iv (actFrom m)) 2 true 7 rfl rfl rfl rfl rfl (y_ldR rfl rfl Tryz.underlying3 ((acts_all (hA.all K17) (by assumption)).1) rr) (wl_vw (.bool false) 2 true 7 rfl rfl rfl rfl rfl (y_geq rfl rfl rfl (decide_eq_false d7) rr) (wl_v (.bool false) rfl rfl (y_pickT rfl rfl rfl rr) (wl_v (.bool false) rfl rfl (y_mov rfl rfl rr) (wl_unless 10 true 15 rfl rfl rfl (Or.inl rfl) rfl (wl_unless 10 true 15 rfl rfl rfl (Or.inl rfl) rfl (wl_v (.bool false) rfl rfl (y_pickF rfl rfl rfl rr) ?_)))))))))))
   refine wl_v (.bool false) rfl rfl (y_asg rfl rfl rr) (wl_nil fun F18 hF19 => ?_)
   have s20 := (hF19 19).trans s5
   have s21 : F18 4 = .bool false := (hF19 4).trans rfl
   clear hF19
   refine then_normal (wq_ret ?_)
   exact end_tmp (v := .bool false) s20 rfl rfl s21 ⟨(retB (by first | exact (decide_eq_true (by omega)).symm | exact (decide_eq_false (by omega)).symm | exact decide_eq_decide.2 (by omega))), K17⟩
 ·skip
  refine wq_region (wl_mv rfl rfl rfl s4 (wl_call (R := fun v_ w_ => v_ = .bool false ∧ Kept (fun _ => False) w0 w_) rfl rfl (y_cs rfl rfl rfl (fun _ _ => by kernel_rfl) (ev_func _) (vsC rfl vsN) (bl_known m  _   ) (fun e_ w_ h_ => ⟨_, h_.1, (congrArg Value.bool (decide_eq_false d6)), h_.2⟩)) ?_))
  rintro _ w22 ⟨rfl, k23⟩
  have K24 := K0.tr k23
  refine wl_v (.bool false) rfl rfl (y_mov rfl rfl rr) (wl_unless 2 true 7 rfl rfl rfl (Or.inl rfl) rfl (wl_unless 2 true 7 rfl rfl rfl (Or.inl rfl) rfl (wl_unless 2 true 7 rfl rfl rfl (Or.inl rfl) rfl (wl_unless 2 true 7 rfl rfl rfl (Or.inl rfl) rfl (wl_unless 2 true 7 rfl rfl rfl (Or.inl rfl) rfl (wl_unless 2 true 7 rfl rfl rfl (Or.inl rfl) rfl (wl_v (.bool false) rfl rfl (y_pickF rfl rfl rfl rr) (wl_v (.bool false) rfl rfl (y_mov rfl rfl rr) (wl_unless 10 true 15 rfl rfl rfl (Or.inl rfl) rfl (wl_unless 10 true 15 rfl rfl rfl (Or.inl rfl) rfl (wl_v (.bool false) rfl rfl (y_pickF rfl rfl rfl rr) ?_)))))))))))
  refine wl_v (.bool false) rfl rfl (y_asg rfl rfl rr) (wl_nil fun F25 hF26 => ?_)
  have s27 := (hF26 19).trans s5
  have s28 : F25 4 = .bool false := (hF26 4).trans rfl
  clear hF26
  refine then_normal (wq_ret ?_)
  exact end_tmp (v := .bool false) s27 rfl rfl s28 ⟨(retB (by first | exact (decide_eq_true (by omega)).symm | exact (decide_eq_false (by omega)).symm | exact decide_eq_decide.2 (by omega))), K24⟩
theorem past_out {m : Int} (h : ¬ (0 ≤ m ∧ m < 7)) : pastB m = false ∧ nextB m = false := by
  unfold pastB nextB; rw [decide_eq_false (by omega : ¬ m = 4), decide_eq_false (by omega : ¬ m = 5), decide_eq_false (by omega : ¬ m = 6)]; exact ⟨rfl, rfl⟩
theorem bl_vectors (m : Int) (w0 : World) (hA : ActsIn w0) :
  Calls Tryz.prog 10 #[.int .i64 (m)] w0 fun e w' => e = .returned (.tuple #[.bool (pastB m), .bool (nextB m)]) ∧ Kept (fun _ => False) w0 w' := by
 refine calls_wq (args := [iv m]) 15 Tryz.func10 rfl rfl (Nat.le_of_ble_eq_true rfl) ?_
 have K0 := Kept.refl (fun _ => False) w0
 refine wq_seq (wq_region (wl_v (.bool false) rfl rfl (y_asg rfl rfl rr) (wl_v (.bool false) rfl rfl (y_asg rfl rfl rr) (wl_nil fun F1 hF2 => ?_))))
 have s3 : F1 0 = iv m := (hF2 0).trans rfl
 have s4 : F1 15 = undef := (hF2 15).trans rfl
 clear hF2
 refine then_normal (wq_seq (wq_seq ?_))
 by_cases d5 : 0 ≤ m ∧ m < 7
 ·skip
  refine wq_region (wl_mv rfl rfl rfl s3 (wl_call (R := fun v_ w_ => v_ = .bool true ∧ Kept (fun _ => False) w0 w_) rfl rfl (y_cs rfl rfl rfl (fun _ _ => by kernel_rfl) (ev_func _) (vsC rfl vsN) (bl_known m  _   ) (fun e_ w_ h_ => ⟨_, h_.1, (congrArg Value.bool (decide_eq_true d5)), h_.2⟩)) ?_))
  rintro _ w6 ⟨rfl, k7⟩
  have K8 := K0.tr k7
  refine wl_v (.bool false) rfl rfl (y_not rfl rfl rfl rr) (wl_nil fun F9 hF10 => ?_)
  obtain ⟨s11, s12⟩ := t2 hF10 0 s3 15 s4
  have s13 : F9 6 = .bool false := (hF10 6).trans rfl
  clear hF10
  refine then_normal ?_
  refine wq_cond (t := false) s13 (fun e => by cases e) (fun _ => ?_)
  refine wq_skip (then_normal (wq_seq ?_))
  have hm7 : 0 ≤ m ∧ m < 7 := by first | assumption | (apply Decidable.byContradiction; assumption)
  refine wq_said [some 7, some 8, some 9, some 10, some 11, some 12, some 13, some 14, some 2, some 3] [Pd.eq (iv m), Pd.eq (.pointer (some ⟨0, 0 + (m.toNat) * 3, none⟩)), Pd.eq (.pointer (some ⟨0, 0 + (m.toNat) * 3 + 1, none⟩)), Pd.eq (.bool (pastB m)), Pd.eq (iv m), Pd.eq (.pointer (some ⟨0, 0 + (m.toNat) * 3, none⟩)), Pd.eq (.pointer (some ⟨0, 0 + (m.toNat) * 3 + 2, none⟩)), Pd.eq (.bool (nextB m)), Pd.eq (.bool (pastB m)), Pd.eq (.bool (nextB m))] (by kernel_rfl) (by kernel_rfl) ?_ ?_
  ·refine stepsF_cons ?_ ?_
   ·refine StepF.one rfl fun F_ w_ hR hout hD => ?_
    exact (y_mov rfl ((hout 0 rfl (by decide)).trans s11) ⟨rfl, Kept.refl _ _⟩)
   refine stepsF_cons ?_ ?_
   ·refine StepF.one rfl fun F_ w_ hR hout hD => ?_
    have g7 : F_ 7 = iv m := (hD.get 0 rfl rfl rfl)
    exact (y_atR (m.toNat) (s := 3) rfl rfl g7 (by omega) Tryz.underlying67 (by omega) (by kernel_rfl) (by omega) ⟨rfl, Kept.refl _ _⟩)
   refine stepsF_cons ?_ ?_
   ·refine StepF.one rfl fun F_ w_ hR hout hD => ?_
    have g8 : F_ 8 = .pointer (some ⟨0, 0 + (m.toNat) * 3, none⟩) := (hD.get 0 rfl rfl rfl)
    exact (y_fieldR (n := 1) rfl g8 Tryz.underlying66 rfl (by kernel_rfl) (by decide) rfl ⟨rfl, Kept.refl _ _⟩)
   refine stepsF_cons ?_ ?_
   ·refine StepF.one rfl fun F_ w_ hR hout hD => ?_
    have g9 : F_ 9 = .pointer (some ⟨0, 0 + (m.toNat) * 3 + 1, none⟩) := (hD.get 0 rfl rfl rfl)
    exact (y_ldA rfl g9 Tryz.underlying4 rfl ((acts_all (hA.all (K8.trans hR (fun _ _ x => x.elim))) hm7).2.1) ⟨rfl, Kept.refl _ _⟩)
   refine stepsF_cons ?_ ?_
   ·refine StepF.one rfl fun F_ w_ hR hout hD => ?_
    exact (y_mov rfl ((hout 0 rfl (by decide)).trans s11) ⟨rfl, Kept.refl _ _⟩)
   refine stepsF_cons ?_ ?_
   ·refine StepF.one rfl fun F_ w_ hR hout hD => ?_
    have g11 : F_ 11 = iv m := (hD.get 0 rfl rfl rfl)
    exact (y_atR (m.toNat) (s := 3) rfl rfl g11 (by omega) Tryz.underlying67 (by omega) (by kernel_rfl) (by omega) ⟨rfl, Kept.refl _ _⟩)
   refine stepsF_cons ?_ ?_
   ·refine StepF.one rfl fun F_ w_ hR hout hD => ?_
    have g12 : F_ 12 = .pointer (some ⟨0, 0 + (m.toNat) * 3, none⟩) := (hD.get 0 rfl rfl rfl)
    exact (y_fieldR (n := 1) rfl g12 Tryz.underlying66 rfl (by kernel_rfl) (by decide) rfl ⟨rfl, Kept.refl _ _⟩)
   refine stepsF_cons ?_ ?_
   ·refine StepF.one rfl fun F_ w_ hR hout hD => ?_
    have g13 : F_ 13 = .pointer (some ⟨0, 0 + (m.toNat) * 3 + 2, none⟩) := (hD.get 0 rfl rfl rfl)
    exact (y_ldA rfl g13 Tryz.underlying4 rfl ((acts_all (hA.all (K8.trans hR (fun _ _ x => x.elim))) hm7).2.2) ⟨rfl, Kept.refl _ _⟩)
   refine stepsF_cons ?_ ?_
   ·refine StepF.one rfl fun F_ w_ hR hout hD => ?_
    have g10 : F_ 10 = .bool (pastB m) := (hD.get 0 rfl rfl rfl)
    exact (y_asg rfl g10 ⟨rfl, Kept.refl _ _⟩)
   refine stepsF_cons ?_ ?_
   ·refine StepF.one rfl fun F_ w_ hR hout hD => ?_
    have g14 : F_ 14 = .bool (nextB m) := (hD.get 0 rfl rfl rfl)
    exact (y_asg rfl g14 ⟨rfl, Kept.refl _ _⟩)
   exact stepsF_nil
  intro v14 F15 w16 k17 G18 hF19
  have K21 := K8.tr k17
  have s22 := (hF19 15).trans s12
  have s23 : F15 2 = .bool (pastB m) := (hF19 2).trans (G18 8 (by decide))
  have s24 : F15 3 = .bool (nextB m) := (hF19 3).trans (G18 9 (by decide))
  clear G18 hF19
  refine then_normal (wq_ret ?_)
  exact end_2 s22 rfl (res_tmp (v := .bool (pastB m)) rfl s23) (res_tmp (v := .bool (nextB m)) rfl s24) ⟨(by first | rfl | rw [hpo.1, hpo.2]), K21⟩
 ·skip
  refine wq_region (wl_mv rfl rfl rfl s3 (wl_call (R := fun v_ w_ => v_ = .bool false ∧ Kept (fun _ => False) w0 w_) rfl rfl (y_cs rfl rfl rfl (fun _ _ => by kernel_rfl) (ev_func _) (vsC rfl vsN) (bl_known m  _   ) (fun e_ w_ h_ => ⟨_, h_.1, (congrArg Value.bool (decide_eq_false d5)), h_.2⟩)) ?_))
  rintro _ w25 ⟨rfl, k26⟩
  have K27 := K0.tr k26
  refine wl_v (.bool true) rfl rfl (y_not rfl rfl rfl rr) (wl_nil fun F28 hF29 => ?_)
  have s31 := (hF29 15).trans s4
  have s32 : F28 6 = .bool true := (hF29 6).trans rfl
  clear hF29
  refine then_normal ?_
  refine wq_cond (t := true) s32 (fun _ => ?_) (fun e => by cases e)
  refine wq_seq ?_
  have hpo := past_out (m := m) (by assumption)
  refine wq_region (wl_v (.bool false) rfl rfl (y_asg rfl rfl rr) (wl_v (.bool false) rfl rfl (y_asg rfl rfl rr) (wl_nil fun F33 hF34 => ?_)))
  have s35 := (hF34 15).trans s31
  have s36 : F33 2 = .bool false := (hF34 2).trans rfl
  have s37 : F33 3 = .bool false := (hF34 3).trans rfl
  clear hF34
  refine then_normal (wq_ret (then_ret ?_))
  exact end_2 s35 rfl (res_tmp (v := .bool false) rfl s36) (res_tmp (v := .bool false) rfl s37) ⟨(by first | rfl | rw [hpo.1, hpo.2]), K27⟩
def bareB (c : Ch) : Bool := (pastB c.m || sameVec c.px c.py 0 0) && (nextB c.m || sameVec c.nx c.ny 0 0)
theorem bl_bare (c : Ch) (w0 : World) (hA : ActsIn w0) :
  Calls Tryz.prog 37 #[.agg (chW (c)).toArray] w0 fun e w' => e = .returned (.bool (bareB c)) ∧ Kept (fun _ => False) w0 w' := by
 refine calls_wq (args := [.agg (chW c).toArray]) 27 Tryz.func37 rfl rfl (Nat.le_of_ble_eq_true rfl) ?_
 have K0 := Kept.refl (fun _ => False) w0
 refine wq_seq (wq_region (wl_box_stc (vs := (chW c)) rfl rfl rfl rfl fun p1 w2 B4 g5 k3 => ?_))
 have K7 := K0.tr k3
 refine wl_v (.bool false) rfl rfl (y_asg rfl rfl rr) (wl_nil fun F8 hF9 => ?_)
 have s10 : F8 27 = undef := (hF9 27).trans rfl
 have s11 : F8 1 = pt p1 0 := (hF9 1).trans rfl
 clear hF9
 refine then_normal (wq_seq (wq_region (wl_v (pt p1 0) rfl rfl (y_fieldR (n := 1) rfl s11 Tryz.underlying31 rfl (by kernel_rfl) (by decide) rfl rr) (wl_v (iv (c.m)) rfl rfl (y_ld_stc rfl rfl Tryz.underlying3 B4 rfl rfl rr) (wl_cs rfl rfl rfl rfl rfl (fun _ _ => by kernel_rfl) (vsC rfl vsN) (bl_vectors (c.m)  _ (hA.all K7)  ) fun w12 k13 => ?_)))))
 have B14 := B4.all k13 id
 have K15 := K7.tr k13
 refine wl_v (.tuple #[.bool (pastB (c.m)), .bool (nextB (c.m))]) rfl rfl (y_mov rfl rfl rr) (wl_v (.bool (pastB (c.m))) rfl rfl (y_ext rfl rfl rfl rr) (wl_v (.bool (nextB (c.m))) rfl rfl (y_ext rfl rfl rfl rr) (wl_v (.bool (pastB (c.m))) rfl rfl (y_asg rfl rfl rr) (wl_v (.bool (nextB (c.m))) rfl rfl (y_asg rfl rfl rr) (wl_nil fun F16 hF17 => ?_)))))
 obtain ⟨s18, s19⟩ := t2 hF17 27 s10 1 s11
 have s20 : F16 3 = .bool (pastB (c.m)) := (hF17 3).trans rfl
 have s21 : F16 4 = .bool (nextB (c.m)) := (hF17 4).trans rfl
 clear hF17
 refine then_normal (wq_seq ?_)
 rcases Bool.eq_false_or_eq_true (pastB (c.m)) with d22 | d22
 ·skip
  rcases Bool.eq_false_or_eq_true (nextB (c.m)) with d23 | d23
  ·skip
   refine wq_region (wl_v (.bool true) rfl rfl (y_mov rfl (Eq.trans s20 (congrArg Value.bool d22)) rr) (wl_v (.bool true) rfl rfl (y_mov rfl rfl rr) (wl_unless 1 false 12 rfl rfl rfl (Or.inl rfl) rfl (wl_unless 1 false 12 rfl rfl rfl (Or.inl rfl) rfl (wl_unless 1 false 12 rfl rfl rfl (Or.inl rfl) rfl (wl_unless 1 false 12 rfl rfl rfl (Or.inl rfl) rfl (wl_v (.bool true) rfl rfl (y_pickT rfl rfl rfl rr) (wl_v (.bool true) rfl rfl (y_mov rfl rfl rr) (wl_vw (.bool true) 7 true 18 rfl rfl rfl rfl rfl (y_mov rfl (Eq.trans s21 (congrArg Value.bool d23)) rr) (wl_vw (.bool true) 7 true 18 rfl rfl rfl rfl rfl (y_mov rfl rfl rr) (wl_unless 9 false 20 rfl rfl rfl (Or.inl rfl) rfl ?_)))))))))))
   refine wl_unless 9 false 20 rfl rfl rfl (Or.inl rfl) rfl (wl_unless 9 false 20 rfl rfl rfl (Or.inl rfl) rfl (wl_unless 9 false 20 rfl rfl rfl (Or.inl rfl) rfl (wl_vw (.bool true) 7 true 18 rfl rfl rfl rfl rfl (y_pickT rfl rfl rfl rr) (wl_v (.bool true) rfl rfl (y_pickT rfl rfl rfl rr) (wl_v (.bool true) rfl rfl (y_asg rfl rfl rr) (wl_nil fun F24 hF25 => ?_))))))
   have s26 := (hF25 27).trans s18
   have s27 : F24 2 = .bool true := (hF25 2).trans rfl
   clear hF25
   refine then_normal (wq_ret ?_)
   exact end_tmp (v := .bool true) s26 rfl rfl s27 ⟨(retB (by unfold bareB; simp [*])), K15⟩
  ·skip
   refine wq_region (wl_v (.bool true) rfl rfl (y_mov rfl (Eq.trans s20 (congrArg Value.bool d22)) rr) (wl_v (.bool true) rfl rfl (y_mov rfl rfl rr) (wl_unless 1 false 12 rfl rfl rfl (Or.inl rfl) rfl (wl_unless 1 false 12 rfl rfl rfl (Or.inl rfl) rfl (wl_unless 1 false 12 rfl rfl rfl (Or.inl rfl) rfl (wl_unless 1 false 12 rfl rfl rfl (Or.inl rfl) rfl (wl_v (.bool true) rfl rfl (y_pickT rfl rfl rfl rr) (wl_v (.bool true) rfl rfl (y_mov rfl rfl rr) (wl_vw (.bool false) 7 true 18 rfl rfl rfl rfl rfl (y_mov rfl (Eq.trans s21 (congrArg Value.bool d23)) rr) (wl_vw (.bool false) 7 true 18 rfl rfl rfl rfl rfl (y_mov rfl rfl rr) (wl_vw (pt p1 3) 9 false 20 rfl rfl rfl rfl rfl (y_fieldR (n := 2) rfl s19 Tryz.underlying31 rfl (by kernel_rfl) (by decide) rfl rr) ?_)))))))))))
   refine wl_vw (.agg #[iv (c.nx), iv (c.ny)]) 9 false 20 rfl rfl rfl rfl rfl (y_ldPart (n := 2) stcT_vector rfl rfl B14 (Nat.le_of_ble_eq_true rfl) rfl rr) (wl_vw (.agg #[iv 0, iv 0]) 9 false 20 rfl rfl rfl rfl rfl (y_buildL (l' := []) (cells := #[iv 0, iv 0]) rfl bpN (by kernel_rfl) rfl rr) (wl_vw (.bool (sameVec (c.nx) (c.ny) 0 0)) 9 false 20 rfl rfl rfl rfl rfl (y_eqlVec rfl rfl rfl rfl rr) (wl_vw (.bool (sameVec (c.nx) (c.ny) 0 0)) 7 true 18 rfl rfl rfl rfl rfl (y_pickF rfl rfl rfl rr) (wl_v (.bool (sameVec (c.nx) (c.ny) 0 0)) rfl rfl (y_pickT rfl rfl rfl rr) (wl_v (.bool (sameVec (c.nx) (c.ny) 0 0)) rfl rfl (y_asg rfl rfl rr) (wl_nil fun F28 hF29 => ?_))))))
   have s30 := (hF29 27).trans s18
   have s31 : F28 2 = .bool (sameVec (c.nx) (c.ny) 0 0) := (hF29 2).trans rfl
   clear hF29
   refine then_normal (wq_ret ?_)
   exact end_tmp (v := .bool (sameVec (c.nx) (c.ny) 0 0)) s30 rfl rfl s31 ⟨(retB (by unfold bareB; simp [*])), K15⟩
 ·skip
  rcases Bool.eq_false_or_eq_true (sameVec (c.px) (c.py) 0 0) with d32 | d32
  ·skip
   rcases Bool.eq_false_or_eq_true (nextB (c.m)) with d33 | d33
   ·skip
    refine wq_region (wl_v (.bool false) rfl rfl (y_mov rfl (Eq.trans s20 (congrArg Value.bool d22)) rr) (wl_v (.bool false) rfl rfl (y_mov rfl rfl rr) (wl_vw (pt p1 1) 1 false 12 rfl rfl rfl rfl rfl (y_fieldR (n := 2) rfl s19 Tryz.underlying31 rfl (by kernel_rfl) (by decide) rfl rr) (wl_vw (.agg #[iv (c.px), iv (c.py)]) 1 false 12 rfl rfl rfl rfl rfl (y_ldPart (n := 2) stcT_vector rfl rfl B14 (Nat.le_of_ble_eq_true rfl) rfl rr) (wl_vw (.agg #[iv 0, iv 0]) 1 false 12 rfl rfl rfl rfl rfl (y_buildL (l' := []) (cells := #[iv 0, iv 0]) rfl bpN (by kernel_rfl) rfl rr) (wl_vw (.bool true) 1 false 12 rfl rfl rfl rfl rfl (y_eqlVec rfl rfl rfl d32 rr) (wl_v (.bool true) rfl rfl (y_pickF rfl rfl rfl rr) (wl_v (.bool true) rfl rfl (y_mov rfl rfl rr) (wl_vw (.bool true) 7 true 18 rfl rfl rfl rfl rfl (y_mov rfl (Eq.trans s21 (congrArg Value.bool d33)) rr) (wl_vw (.bool true) 7 true 18 rfl rfl rfl rfl rfl (y_mov rfl rfl rr) (wl_unless 9 false 20 rfl rfl rfl (Or.inl rfl) rfl ?_)))))))))))
    refine wl_unless 9 false 20 rfl rfl rfl (Or.inl rfl) rfl (wl_unless 9 false 20 rfl rfl rfl (Or.inl rfl) rfl (wl_unless 9 false 20 rfl rfl rfl (Or.inl rfl) rfl (wl_vw (.bool true) 7 true 18 rfl rfl rfl rfl rfl (y_pickT rfl rfl rfl rr) (wl_v (.bool true) rfl rfl (y_pickT rfl rfl rfl rr) (wl_v (.bool true) rfl rfl (y_asg rfl rfl rr) (wl_nil fun F34 hF35 => ?_))))))
    have s36 := (hF35 27).trans s18
    have s37 : F34 2 = .bool true := (hF35 2).trans rfl
    clear hF35
    refine then_normal (wq_ret ?_)
    exact end_tmp (v := .bool true) s36 rfl rfl s37 ⟨(retB (by unfold bareB; simp [*])), K15⟩
   ·skip
    refine wq_region (wl_v (.bool false) rfl rfl (y_mov rfl (Eq.trans s20 (congrArg Value.bool d22)) rr) (wl_v (.bool false) rfl rfl (y_mov rfl rfl rr) (wl_vw (pt p1 1) 1 false 12 rfl rfl rfl rfl rfl (y_fieldR (n := 2) rfl s19 Tryz.underlying31 rfl (by kernel_rfl) (by decide) rfl rr) (wl_vw (.agg #[iv (c.px), iv (c.py)]) 1 false 12 rfl rfl rfl rfl rfl (y_ldPart (n := 2) stcT_vector rfl rfl B14 (Nat.le_of_ble_eq_true rfl) rfl rr) (wl_vw (.agg #[iv 0, iv 0]) 1 false 12 rfl rfl rfl rfl rfl (y_buildL (l' := []) (cells := #[iv 0, iv 0]) rfl bpN (by kernel_rfl) rfl rr) (wl_vw (.bool true) 1 false 12 rfl rfl rfl rfl rfl (y_eqlVec rfl rfl rfl d32 rr) (wl_v (.bool true) rfl rfl (y_pickF rfl rfl rfl rr) (wl_v (.bool true) rfl rfl (y_mov rfl rfl rr) (wl_vw (.bool false) 7 true 18 rfl rfl rfl rfl rfl (y_mov rfl (Eq.trans s21 (congrArg Value.bool d33)) rr) (wl_vw (.bool false) 7 true 18 rfl rfl rfl rfl rfl (y_mov rfl rfl rr) (wl_vw (pt p1 3) 9 false 20 rfl rfl rfl rfl rfl (y_fieldR (n := 2) rfl s19 Tryz.underlying31 rfl (by kernel_rfl) (by decide) rfl rr) ?_)))))))))))
    refine wl_vw (.agg #[iv (c.nx), iv (c.ny)]) 9 false 20 rfl rfl rfl rfl rfl (y_ldPart (n := 2) stcT_vector rfl rfl B14 (Nat.le_of_ble_eq_true rfl) rfl rr) (wl_vw (.agg #[iv 0, iv 0]) 9 false 20 rfl rfl rfl rfl rfl (y_buildL (l' := []) (cells := #[iv 0, iv 0]) rfl bpN (by kernel_rfl) rfl rr) (wl_vw (.bool (sameVec (c.nx) (c.ny) 0 0)) 9 false 20 rfl rfl rfl rfl rfl (y_eqlVec rfl rfl rfl rfl rr) (wl_vw (.bool (sameVec (c.nx) (c.ny) 0 0)) 7 true 18 rfl rfl rfl rfl rfl (y_pickF rfl rfl rfl rr) (wl_v (.bool (sameVec (c.nx) (c.ny) 0 0)) rfl rfl (y_pickT rfl rfl rfl rr) (wl_v (.bool (sameVec (c.nx) (c.ny) 0 0)) rfl rfl (y_asg rfl rfl rr) (wl_nil fun F38 hF39 => ?_))))))
    have s40 := (hF39 27).trans s18
    have s41 : F38 2 = .bool (sameVec (c.nx) (c.ny) 0 0) := (hF39 2).trans rfl
    clear hF39
    refine then_normal (wq_ret ?_)
    exact end_tmp (v := .bool (sameVec (c.nx) (c.ny) 0 0)) s40 rfl rfl s41 ⟨(retB (by unfold bareB; simp [*])), K15⟩
  ·skip
   refine wq_region (wl_v (.bool false) rfl rfl (y_mov rfl (Eq.trans s20 (congrArg Value.bool d22)) rr) (wl_v (.bool false) rfl rfl (y_mov rfl rfl rr) (wl_vw (pt p1 1) 1 false 12 rfl rfl rfl rfl rfl (y_fieldR (n := 2) rfl s19 Tryz.underlying31 rfl (by kernel_rfl) (by decide) rfl rr) (wl_vw (.agg #[iv (c.px), iv (c.py)]) 1 false 12 rfl rfl rfl rfl rfl (y_ldPart (n := 2) stcT_vector rfl rfl B14 (Nat.le_of_ble_eq_true rfl) rfl rr) (wl_vw (.agg #[iv 0, iv 0]) 1 false 12 rfl rfl rfl rfl rfl (y_buildL (l' := []) (cells := #[iv 0, iv 0]) rfl bpN (by kernel_rfl) rfl rr) (wl_vw (.bool false) 1 false 12 rfl rfl rfl rfl rfl (y_eqlVec rfl rfl rfl d32 rr) (wl_v (.bool false) rfl rfl (y_pickF rfl rfl rfl rr) (wl_v (.bool false) rfl rfl (y_mov rfl rfl rr) (wl_unless 7 true 18 rfl rfl rfl (Or.inl rfl) rfl (wl_unless 7 true 18 rfl rfl rfl (Or.inl rfl) rfl (wl_unless 9 false 20 rfl rfl rfl (Or.inr rfl) rfl ?_)))))))))))
   refine wl_unless 9 false 20 rfl rfl rfl (Or.inr rfl) rfl (wl_unless 9 false 20 rfl rfl rfl (Or.inr rfl) rfl (wl_unless 9 false 20 rfl rfl rfl (Or.inr rfl) rfl (wl_unless 7 true 18 rfl rfl rfl (Or.inl rfl) rfl (wl_v (.bool false) rfl rfl (y_pickF rfl rfl rfl rr) (wl_v (.bool false) rfl rfl (y_asg rfl rfl rr) (wl_nil fun F42 hF43 => ?_))))))
   have s44 := (hF43 27).trans s18
   have s45 : F42 2 = .bool false := (hF43 2).trans rfl
   clear hF43
   refine then_normal (wq_ret ?_)
   exact end_tmp (v := .bool false) s44 rfl rfl s45 ⟨(retB (by unfold bareB; simp [*])), K15⟩
theorem bl_may (b : Nat → Int) (w0 : World) :
  Calls Tryz.prog 38 #[blkV (b)] w0 fun e w' => e = .returned (.bool (!farCh b 16)) ∧ Kept (fun _ => False) w0 w' := by
 refine calls_wq (args := [blkV b]) 16 Tryz.func38 rfl rfl (Nat.le_of_ble_eq_true rfl) ?_
 have K0 := Kept.refl (fun _ => False) w0
 refine wq_seq (wq_region (wl_box_blk rfl rfl rfl rfl fun p1 w2 e5 B3 k4 => ?_))
 have g6 := onB_new (Nat.le_of_eq e5.symm)
 clear e5 g6
 have K8 := K0.tr k4
 refine wl_v (.bool false) rfl rfl (y_asg rfl rfl rr) (wl_nil fun F9 hF10 => ?_)
 have s11 : F9 16 = undef := (hF10 16).trans rfl
 have s12 : F9 1 = pt p1 0 := (hF10 1).trans rfl
 clear hF10
 refine then_normal (wq_seq (wq_seq (wq_region (wl_v (blkV b) rfl rfl (y_load_blk blkT_block rfl s12 B3 rr) (wl_v (iv 0) rfl rfl (y_mov rfl rfl rr) (wl_nil fun F13 hF14 => ?_))))))
 have s15 := (hF14 16).trans s11
 have s16 : F13 5 = blkV b := (hF14 5).trans rfl
 have s17 : F13 6 = iv 0 := (hF14 6).trans rfl
 clear hF14
 refine then_normal (wq_block (wq_loop (fun nn FF ww => ∃ (i : Nat), (i ≤ 16) ∧ (farCh b i = false) ∧ nn = 16 - i ∧ FF 5 = blkV b ∧ FF 16 = undef ∧ FF 6 = iv ((i : Nat) : Int) ∧ Kept (fun _ => False) w0 ww ∧ Blk ww p1 29 b) (16 - 0) ⟨0, by omega, rfl, rfl, s16, s15, s17, K8, B3⟩ ?_))
 rintro n21 F18 w19 ⟨i, i22, hfar, hn21, s23, s24, s25, K20, B26⟩
 refine wq_seq (wq_region (wl_v (.bool (decide (((i : Nat) : Int) < 16))) rfl rfl (y_lss rfl s25 rfl rfl rr) (wl_nil fun F27 hF28 => ?_)))
 obtain ⟨s29, s30, s31⟩ := t3 hF28 5 s23 16 s24 6 s25
 have s32 : F27 7 = .bool (decide (((i : Nat) : Int) < 16)) := (hF28 7).trans rfl
 clear hF28
 refine then_normal (wq_seq ?_)
 refine wq_cond s32 (fun c33 => ?_) (fun c33 => ?_)
 ·replace c33 := of_decide_eq_true c33
  refine wq_skip (then_normal (wq_seq (wq_block (wq_seq (wq_region (wl_v (iv (b i)) rfl rfl (y_look i blkT_block rfl s29 s31 (by omega) rfl rr) (wl_v (iv (b i)) rfl rfl (y_asg rfl rfl rr) (wl_nil fun F34 hF35 => ?_))))))))
  obtain ⟨s36, s37, s38⟩ := t3 hF35 5 s29 16 s30 6 s31
  have s39 : F34 4 = iv (b i) := (hF35 4).trans rfl
  clear hF35
  refine then_normal (wq_seq ?_)
  by_cases d40 : (b i) < (-1048576)
  ·skip
   refine wq_region (wl_mv rfl rfl rfl s39 (wl_v (.bool true) rfl rfl (y_lss rfl rfl rfl (decide_eq_true d40) rr) (wl_v (.bool true) rfl rfl (y_mov rfl rfl rr) (wl_unless 2 false 11 rfl rfl rfl (Or.inl rfl) rfl (wl_unless 2 false 11 rfl rfl rfl (Or.inl rfl) rfl (wl_v (.bool true) rfl rfl (y_pickT rfl rfl rfl rr) (wl_nil fun F41 hF42 => ?_)))))))
   have s44 := (hF42 16).trans s37
   have s46 : F41 14 = .bool true := (hF42 14).trans rfl
   clear hF42
   refine then_normal ?_
   refine wq_cond (t := true) s46 (fun _ => ?_) (fun e => by cases e)
   refine wq_seq ?_
   have hf : farCh b 16 = true := far_hit (i := i) (by omega) 16 (by omega)
   refine wq_region (wl_v (.bool false) rfl rfl (y_asg rfl rfl rr) (wl_nil fun F47 hF48 => ?_))
   have s49 := (hF48 16).trans s44
   have s50 : F47 2 = .bool false := (hF48 2).trans rfl
   clear hF48
   refine then_normal (wq_ret (in_ret (then_ret (then_ret (in_ret (then_ret ?_))))))
   exact end_tmp (v := .bool false) s49 rfl rfl s50 ⟨(retB (by first | rw [hf]; rfl | rw [hfar]; rfl)), K20⟩
  ·skip
   refine wq_region (wl_mv rfl rfl rfl s39 (wl_v (.bool false) rfl rfl (y_lss rfl rfl rfl (decide_eq_false d40) rr) (wl_v (.bool false) rfl rfl (y_mov rfl rfl rr) (wl_vw (iv (b i)) 2 false 11 rfl rfl rfl rfl rfl (y_mov rfl s39 rr) (wl_vw (.bool (decide (1048576 < (b i)))) 2 false 11 rfl rfl rfl rfl rfl (y_gtr rfl rfl rfl rfl rr) (wl_v (.bool (decide (1048576 < (b i)))) rfl rfl (y_pickF rfl rfl rfl rr) (wl_nil fun F51 hF52 => ?_)))))))
   obtain ⟨s53, s54, s55⟩ := t3 hF52 5 s36 16 s37 6 s38
   have s56 : F51 14 = .bool (decide (1048576 < (b i))) := (hF52 14).trans rfl
   clear hF52
   refine then_normal ?_
   refine wq_cond s56 (fun c57 => ?_) (fun c57 => ?_)
   ·replace c57 := of_decide_eq_true c57
    refine wq_seq ?_
    have hf : farCh b 16 = true := far_hit (i := i) (by omega) 16 (by omega)
    refine wq_region (wl_v (.bool false) rfl rfl (y_asg rfl rfl rr) (wl_nil fun F58 hF59 => ?_))
    have s60 := (hF59 16).trans s54
    have s61 : F58 2 = .bool false := (hF59 2).trans rfl
    clear hF59
    refine then_normal (wq_ret (in_ret (then_ret (then_ret (in_ret (then_ret ?_))))))
    exact end_tmp (v := .bool false) s60 rfl rfl s61 ⟨(retB (by first | rw [hf]; rfl | rw [hfar]; rfl)), K20⟩
   ·replace c57 := of_decide_eq_false c57
    refine wq_skip (in_normal (then_normal (wq_region (wl_v (iv ((i + 1 : Nat) : Int)) rfl rfl (y_add rfl s55 rfl (i64_n (by omega) (by omega)) rr) (wl_v (iv ((i + 1 : Nat) : Int)) rfl rfl (y_mov rfl rfl rr) (wl_nil fun F62 hF63 => ?_))))))
    obtain ⟨s64, s65⟩ := t2 hF63 5 s53 16 s54
    have s66 : F62 6 = iv ((i + 1 : Nat) : Int) := (hF63 6).trans rfl
    clear hF63
    exact then_normal ⟨(16 - (i + 1)), by omega, i + 1, by omega, (by unfold farCh; rw [hfar, Bool.false_or]; exact decide_eq_false (by omega)), rfl, s64, s65, s66, K20, B26⟩
 ·replace c33 := of_decide_eq_false c33
  refine wq_exit (then_exit (then_exit ?_))
  have l67 : 16 = i := by omega
  subst l67
  refine in_here (then_normal (wq_seq (wq_region (wl_v (.bool true) rfl rfl (y_asg rfl rfl rr) (wl_nil fun F68 hF69 => ?_)))))
  have s70 := (hF69 16).trans s30
  have s71 : F68 2 = .bool true := (hF69 2).trans rfl
  clear hF69
  refine then_normal (wq_ret ?_)
  exact end_tmp (v := .bool true) s70 rfl rfl s71 ⟨(retB (by first | rw [hf]; rfl | rw [hfar]; rfl)), K20⟩
theorem chE_has {k : Int} {c : Ch} (h : ¬ (0 ≤ c.m ∧ c.m ≤ mostK k)) : chE k c = 120 := chE_bad (by unfold badM; omega)
theorem chE_bare {k : Int} {c : Ch} (h : bareB c = false) : chE k c = 120 := chE_bad (by
  unfold bareB at h; unfold badM
  rcases Bool.and_eq_false_iff.1 h with h | h
  · obtain ⟨a, b⟩ := Bool.or_eq_false_iff.1 h; exact .inr (.inr (.inl ⟨a, b⟩))
  · obtain ⟨a, b⟩ := Bool.or_eq_false_iff.1 h; exact .inr (.inr (.inr ⟨a, b⟩)))
theorem chE_far2 {k : Int} {c : Ch} (h : farCh c.b 16 = true) : chE k c = 120 := by
  by_cases hb : badM k c
  · exact chE_bad hb
  · exact chE_far hb h
theorem chE_good {k : Int} {c : Ch} (h1 : 0 ≤ c.m ∧ c.m ≤ mostK k) (h2 : bareB c = true) (h3 : farCh c.b 16 = false) : (vecE c.px c.py ≠ 0 → chE k c = vecE c.px c.py) ∧ (vecE c.px c.py = 0 → chE k c = vecE c.nx c.ny) := by
  have hb : ¬ badM k c := by
    unfold badM
    unfold bareB at h2
    obtain ⟨u, v⟩ := (Bool.and_eq_true _ _).mp h2
    rintro (z | z | ⟨z, e⟩ | ⟨z, e⟩)
    · omega
    · omega
    · rw [z, e] at u; cases u
    · rw [z, e] at v; cases v
  have e := chE_vec hb h3
  refine ⟨fun h => ?_, fun h => ?_⟩
  · have : ¬ vecOk c.px c.py := fun z => h (vecE_yes z)
    rw [e, if_neg (fun z => this z.1), vecE_no this]
  · have : vecOk c.px c.py := (vecE_iff _ _).1 h
    rw [e]
    by_cases hn : vecOk c.nx c.ny
    · rw [if_pos ⟨this, hn⟩, vecE_yes hn]
    · rw [if_neg (fun z => hn z.2), vecE_no hn]
theorem bl_check (k : Int) (c : Ch) (w0 : World) (hA : ActsIn w0) :
  Calls Tryz.prog 15 #[.int .i64 (k), .agg (chW (c)).toArray] w0 fun e w' => e = .returned (.int .i64 (chE k c)) ∧ Kept (fun _ => False) w0 w' := by
 refine calls_wq (args := [iv k, .agg (chW c).toArray]) 31 Tryz.func15 rfl rfl (Nat.le_of_ble_eq_true rfl) ?_
 have K0 := Kept.refl (fun _ => False) w0
 refine wq_seq (wq_region (wl_box_stc (vs := (chW c)) rfl rfl rfl rfl fun p1 w2 B4 g5 k3 => ?_))
 have K7 := K0.tr k3
 refine wl_v (iv 0) rfl rfl (y_asg rfl rfl rr) (wl_nil fun F8 hF9 => ?_)
 have s10 : F8 0 = iv k := (hF9 0).trans rfl
 have s11 : F8 31 = undef := (hF9 31).trans rfl
 have s12 : F8 3 = pt p1 0 := (hF9 3).trans rfl
 clear hF9
 refine then_normal (wq_seq (wq_seq ?_))
 by_cases d13 : 0 ≤ (c.m) ∧ (c.m) ≤ mostK k
 ·skip
  rcases Bool.eq_false_or_eq_true (bareB c) with d14 | d14
  ·skip
   rcases Bool.eq_false_or_eq_true (!farCh (c.b) 16) with d15 | d15
   ·skip
    refine wq_region (wl_mv rfl rfl rfl s10 (wl_v (pt p1 0) rfl rfl (y_fieldR (n := 1) rfl s12 Tryz.underlying31 rfl (by kernel_rfl) (by decide) rfl rr) (wl_v (iv (c.m)) rfl rfl (y_ld_stc rfl rfl Tryz.underlying3 B4 rfl rfl rr) (wl_call (R := fun v_ w_ => v_ = .bool true ∧ Kept (fun _ => False) w2 w_) rfl rfl (y_cs rfl rfl rfl (fun _ _ => by kernel_rfl) (ev_func _) (vsC rfl (vsC rfl vsN)) (bl_has k (c.m)  _ (hA.all K7)  ) (fun e_ w_ h_ => ⟨_, h_.1, (congrArg Value.bool (decide_eq_true d13)), h_.2⟩)) ?_))))
    rintro _ w16 ⟨rfl, k17⟩
    have B18 := B4.all k17 id
    have K19 := K7.tr k17
    refine wl_v (.bool false) rfl rfl (y_not rfl rfl rfl rr) (wl_v (.bool false) rfl rfl (y_mov rfl rfl rr) (wl_vw (.agg (chW c).toArray) 5 false 11 rfl rfl rfl rfl rfl (y_load_stc stcT_choice rfl s12 B18 rr) (wl_callw (R := fun v_ w_ => v_ = .bool true ∧ Kept (fun _ => False) w16 w_) 5 false 11 rfl rfl rfl rfl rfl (y_cs rfl rfl rfl (fun _ _ => by kernel_rfl) (ev_func _) (vsC rfl vsN) (bl_bare c  _ (hA.all K19)  ) (fun e_ w_ h_ => ⟨_, h_.1, (congrArg Value.bool d14), h_.2⟩)) ?_)))
    rintro _ w20 ⟨rfl, k21⟩
    have B22 := B18.all k21 id
    have K23 := K19.tr k21
    refine wl_vw (.bool false) 5 false 11 rfl rfl rfl rfl rfl (y_not rfl rfl rfl rr) (wl_v (.bool false) rfl rfl (y_pickF rfl rfl rfl rr) (wl_v (.bool false) rfl rfl (y_mov rfl rfl rr) (wl_vw (pt p1 5) 10 false 16 rfl rfl rfl rfl rfl (y_fieldR (n := 16) rfl s12 Tryz.underlying31 rfl (by kernel_rfl) (by decide) rfl rr) (wl_vw (blkV (c.b)) 10 false 16 rfl rfl rfl rfl rfl (y_ldPart (n := 16) (us := arrL 16 (c.b)) stcT_block rfl rfl B22 (Nat.le_of_ble_eq_true rfl) rfl rr) (wl_callw (R := fun v_ w_ => v_ = .bool true ∧ Kept (fun _ => False) w20 w_) 10 false 16 rfl rfl rfl rfl rfl (y_cs rfl rfl rfl (fun _ _ => by kernel_rfl) (ev_func _) (vsC rfl vsN) (bl_may (c.b)  _   ) (fun e_ w_ h_ => ⟨_, h_.1, (congrArg Value.bool d15), h_.2⟩)) ?_)))))
    rintro _ w24 ⟨rfl, k25⟩
    have B26 := B22.all k25 id
    have K27 := K23.tr k25
    refine wl_vw (.bool false) 10 false 16 rfl rfl rfl rfl rfl (y_not rfl rfl rfl rr) (wl_v (.bool false) rfl rfl (y_pickF rfl rfl rfl rr) (wl_nil fun F28 hF29 => ?_))
    obtain ⟨s30, s31⟩ := t2 hF29 31 s11 3 s12
    have s32 : F28 21 = .bool false := (hF29 21).trans rfl
    clear hF29
    refine then_normal ?_
    refine wq_cond (t := false) s32 (fun e => by cases e) (fun _ => ?_)
    refine wq_skip (then_normal (wq_seq (wq_seq ?_)))
    have hgd := chE_good (k := k) (c := c) (by assumption) (by assumption) (by first | assumption | simp_all)
    refine wq_region (wl_v (pt p1 1) rfl rfl (y_fieldR (n := 2) rfl s31 Tryz.underlying31 rfl (by kernel_rfl) (by decide) rfl rr) (wl_v (.agg #[iv (c.px), iv (c.py)]) rfl rfl (y_ldPart (n := 2) stcT_vector rfl rfl B26 (Nat.le_of_ble_eq_true rfl) rfl rr) (wl_cs rfl rfl rfl rfl rfl (fun _ _ => by kernel_rfl) (vsC rfl vsN) (mo_check (c.px) (c.py)  _   ) fun w33 k34 => ?_)))
    have B35 := B26.all k34 id
    have K36 := K27.tr k34
    refine wl_v (iv (vecE (c.px) (c.py))) rfl rfl (y_asg rfl rfl rr) (wl_nil fun F37 hF38 => ?_)
    obtain ⟨s39, s40⟩ := t2 hF38 31 s30 3 s31
    have s41 : F37 5 = iv (vecE (c.px) (c.py)) := (hF38 5).trans rfl
    clear hF38
    refine then_normal (wq_seq (wq_region (wl_mv rfl rfl rfl s41 (wl_v (.bool (decide ((vecE (c.px) (c.py)) ≠ 0))) rfl rfl (y_neqI rfl rfl rfl rfl rr) (wl_nil fun F42 hF43 => ?_)))))
    obtain ⟨s44, s45, s46⟩ := t3 hF43 31 s39 3 s40 5 s41
    have s47 : F42 26 = .bool (decide ((vecE (c.px) (c.py)) ≠ 0)) := (hF43 26).trans rfl
    clear hF43
    refine then_normal ?_
    refine wq_cond s47 (fun c48 => ?_) (fun c48 => ?_)
    ·replace c48 := of_decide_eq_true c48
     refine wq_seq ?_
     have hR := hgd.1 (by assumption)
     refine wq_region (wl_mv rfl rfl rfl s46 (wl_v (iv (vecE (c.px) (c.py))) rfl rfl (y_asg rfl rfl rr) (wl_nil fun F49 hF50 => ?_)))
     have s51 := (hF50 31).trans s44
     have s52 : F49 4 = iv (vecE (c.px) (c.py)) := (hF50 4).trans rfl
     clear hF50
     refine then_normal (wq_ret (then_ret ?_))
     exact end_tmp (v := iv (vecE (c.px) (c.py))) s51 rfl rfl s52 ⟨(by rw [hR]), K36⟩
    ·replace c48 := of_decide_eq_false c48
     refine wq_skip (then_normal (wq_seq ?_))
     have hR := hgd.2 (by first | assumption | (apply Decidable.byContradiction; assumption))
     refine wq_region (wl_v (pt p1 3) rfl rfl (y_fieldR (n := 2) rfl s45 Tryz.underlying31 rfl (by kernel_rfl) (by decide) rfl rr) (wl_v (.agg #[iv (c.nx), iv (c.ny)]) rfl rfl (y_ldPart (n := 2) stcT_vector rfl rfl B35 (Nat.le_of_ble_eq_true rfl) rfl rr) (wl_cs rfl rfl rfl rfl rfl (fun _ _ => by kernel_rfl) (vsC rfl vsN) (mo_check (c.nx) (c.ny)  _   ) fun w53 k54 => ?_)))
     have K56 := K36.tr k54
     refine wl_v (iv (vecE (c.nx) (c.ny))) rfl rfl (y_asg rfl rfl rr) (wl_nil fun F57 hF58 => ?_)
     have s59 := (hF58 31).trans s44
     have s60 : F57 4 = iv (vecE (c.nx) (c.ny)) := (hF58 4).trans rfl
     clear hF58
     refine then_normal (wq_ret ?_)
     exact end_tmp (v := iv (vecE (c.nx) (c.ny))) s59 rfl rfl s60 ⟨(by rw [hR]), K56⟩
   ·skip
    refine wq_region (wl_mv rfl rfl rfl s10 (wl_v (pt p1 0) rfl rfl (y_fieldR (n := 1) rfl s12 Tryz.underlying31 rfl (by kernel_rfl) (by decide) rfl rr) (wl_v (iv (c.m)) rfl rfl (y_ld_stc rfl rfl Tryz.underlying3 B4 rfl rfl rr) (wl_call (R := fun v_ w_ => v_ = .bool true ∧ Kept (fun _ => False) w2 w_) rfl rfl (y_cs rfl rfl rfl (fun _ _ => by kernel_rfl) (ev_func _) (vsC rfl (vsC rfl vsN)) (bl_has k (c.m)  _ (hA.all K7)  ) (fun e_ w_ h_ => ⟨_, h_.1, (congrArg Value.bool (decide_eq_true d13)), h_.2⟩)) ?_))))
    rintro _ w61 ⟨rfl, k62⟩
    have B63 := B4.all k62 id
    have K64 := K7.tr k62
    refine wl_v (.bool false) rfl rfl (y_not rfl rfl rfl rr) (wl_v (.bool false) rfl rfl (y_mov rfl rfl rr) (wl_vw (.agg (chW c).toArray) 5 false 11 rfl rfl rfl rfl rfl (y_load_stc stcT_choice rfl s12 B63 rr) (wl_callw (R := fun v_ w_ => v_ = .bool true ∧ Kept (fun _ => False) w61 w_) 5 false 11 rfl rfl rfl rfl rfl (y_cs rfl rfl rfl (fun _ _ => by kernel_rfl) (ev_func _) (vsC rfl vsN) (bl_bare c  _ (hA.all K64)  ) (fun e_ w_ h_ => ⟨_, h_.1, (congrArg Value.bool d14), h_.2⟩)) ?_)))
    rintro _ w65 ⟨rfl, k66⟩
    have B67 := B63.all k66 id
    have K68 := K64.tr k66
    refine wl_vw (.bool false) 5 false 11 rfl rfl rfl rfl rfl (y_not rfl rfl rfl rr) (wl_v (.bool false) rfl rfl (y_pickF rfl rfl rfl rr) (wl_v (.bool false) rfl rfl (y_mov rfl rfl rr) (wl_vw (pt p1 5) 10 false 16 rfl rfl rfl rfl rfl (y_fieldR (n := 16) rfl s12 Tryz.underlying31 rfl (by kernel_rfl) (by decide) rfl rr) (wl_vw (blkV (c.b)) 10 false 16 rfl rfl rfl rfl rfl (y_ldPart (n := 16) (us := arrL 16 (c.b)) stcT_block rfl rfl B67 (Nat.le_of_ble_eq_true rfl) rfl rr) (wl_callw (R := fun v_ w_ => v_ = .bool false ∧ Kept (fun _ => False) w65 w_) 10 false 16 rfl rfl rfl rfl rfl (y_cs rfl rfl rfl (fun _ _ => by kernel_rfl) (ev_func _) (vsC rfl vsN) (bl_may (c.b)  _   ) (fun e_ w_ h_ => ⟨_, h_.1, (congrArg Value.bool d15), h_.2⟩)) ?_)))))
    rintro _ w69 ⟨rfl, k70⟩
    have K72 := K68.tr k70
    refine wl_vw (.bool true) 10 false 16 rfl rfl rfl rfl rfl (y_not rfl rfl rfl rr) (wl_v (.bool true) rfl rfl (y_pickF rfl rfl rfl rr) (wl_nil fun F73 hF74 => ?_))
    have s75 := (hF74 31).trans s11
    have s77 : F73 21 = .bool true := (hF74 21).trans rfl
    clear hF74
    refine then_normal ?_
    refine wq_cond (t := true) s77 (fun _ => ?_) (fun e => by cases e)
    refine wq_seq ?_
    have hR : chE k c = 120 := by first | exact chE_has (by assumption) | exact chE_bare (by assumption) | exact chE_far2 (by first | assumption | simp_all)
    refine wq_region (wl_v (iv 120) rfl rfl (y_asg rfl rfl rr) (wl_nil fun F78 hF79 => ?_))
    have s80 := (hF79 31).trans s75
    have s81 : F78 4 = iv 120 := (hF79 4).trans rfl
    clear hF79
    refine then_normal (wq_ret (then_ret ?_))
    exact end_tmp (v := iv 120) s80 rfl rfl s81 ⟨(by rw [hR]), K72⟩
  ·skip
   refine wq_region (wl_mv rfl rfl rfl s10 (wl_v (pt p1 0) rfl rfl (y_fieldR (n := 1) rfl s12 Tryz.underlying31 rfl (by kernel_rfl) (by decide) rfl rr) (wl_v (iv (c.m)) rfl rfl (y_ld_stc rfl rfl Tryz.underlying3 B4 rfl rfl rr) (wl_call (R := fun v_ w_ => v_ = .bool true ∧ Kept (fun _ => False) w2 w_) rfl rfl (y_cs rfl rfl rfl (fun _ _ => by kernel_rfl) (ev_func _) (vsC rfl (vsC rfl vsN)) (bl_has k (c.m)  _ (hA.all K7)  ) (fun e_ w_ h_ => ⟨_, h_.1, (congrArg Value.bool (decide_eq_true d13)), h_.2⟩)) ?_))))
   rintro _ w82 ⟨rfl, k83⟩
   have B84 := B4.all k83 id
   have K85 := K7.tr k83
   refine wl_v (.bool false) rfl rfl (y_not rfl rfl rfl rr) (wl_v (.bool false) rfl rfl (y_mov rfl rfl rr) (wl_vw (.agg (chW c).toArray) 5 false 11 rfl rfl rfl rfl rfl (y_load_stc stcT_choice rfl s12 B84 rr) (wl_callw (R := fun v_ w_ => v_ = .bool false ∧ Kept (fun _ => False) w82 w_) 5 false 11 rfl rfl rfl rfl rfl (y_cs rfl rfl rfl (fun _ _ => by kernel_rfl) (ev_func _) (vsC rfl vsN) (bl_bare c  _ (hA.all K85)  ) (fun e_ w_ h_ => ⟨_, h_.1, (congrArg Value.bool d14), h_.2⟩)) ?_)))
   rintro _ w86 ⟨rfl, k87⟩
   have K89 := K85.tr k87
   refine wl_vw (.bool true) 5 false 11 rfl rfl rfl rfl rfl (y_not rfl rfl rfl rr) (wl_v (.bool true) rfl rfl (y_pickF rfl rfl rfl rr) (wl_v (.bool true) rfl rfl (y_mov rfl rfl rr) (wl_unless 10 false 16 rfl rfl rfl (Or.inl rfl) rfl (wl_unless 10 false 16 rfl rfl rfl (Or.inl rfl) rfl (wl_unless 10 false 16 rfl rfl rfl (Or.inl rfl) rfl (wl_unless 10 false 16 rfl rfl rfl (Or.inl rfl) rfl (wl_v (.bool true) rfl rfl (y_pickT rfl rfl rfl rr) (wl_nil fun F90 hF91 => ?_))))))))
   have s92 := (hF91 31).trans s11
   have s94 : F90 21 = .bool true := (hF91 21).trans rfl
   clear hF91
   refine then_normal ?_
   refine wq_cond (t := true) s94 (fun _ => ?_) (fun e => by cases e)
   refine wq_seq ?_
   have hR : chE k c = 120 := by first | exact chE_has (by assumption) | exact chE_bare (by assumption) | exact chE_far2 (by first | assumption | simp_all)
   refine wq_region (wl_v (iv 120) rfl rfl (y_asg rfl rfl rr) (wl_nil fun F95 hF96 => ?_))
   have s97 := (hF96 31).trans s92
   have s98 : F95 4 = iv 120 := (hF96 4).trans rfl
   clear hF96
   refine then_normal (wq_ret (then_ret ?_))
   exact end_tmp (v := iv 120) s97 rfl rfl s98 ⟨(by rw [hR]), K89⟩
 ·skip
  refine wq_region (wl_mv rfl rfl rfl s10 (wl_v (pt p1 0) rfl rfl (y_fieldR (n := 1) rfl s12 Tryz.underlying31 rfl (by kernel_rfl) (by decide) rfl rr) (wl_v (iv (c.m)) rfl rfl (y_ld_stc rfl rfl Tryz.underlying3 B4 rfl rfl rr) (wl_call (R := fun v_ w_ => v_ = .bool false ∧ Kept (fun _ => False) w2 w_) rfl rfl (y_cs rfl rfl rfl (fun _ _ => by kernel_rfl) (ev_func _) (vsC rfl (vsC rfl vsN)) (bl_has k (c.m)  _ (hA.all K7)  ) (fun e_ w_ h_ => ⟨_, h_.1, (congrArg Value.bool (decide_eq_false d13)), h_.2⟩)) ?_))))
  rintro _ w99 ⟨rfl, k100⟩
  have K102 := K7.tr k100
  refine wl_v (.bool true) rfl rfl (y_not rfl rfl rfl rr) (wl_v (.bool true) rfl rfl (y_mov rfl rfl rr) (wl_unless 5 false 11 rfl rfl rfl (Or.inl rfl) rfl (wl_unless 5 false 11 rfl rfl rfl (Or.inl rfl) rfl (wl_unless 5 false 11 rfl rfl rfl (Or.inl rfl) rfl (wl_v (.bool true) rfl rfl (y_pickT rfl rfl rfl rr) (wl_v (.bool true) rfl rfl (y_mov rfl rfl rr) (wl_unless 10 false 16 rfl rfl rfl (Or.inl rfl) rfl (wl_unless 10 false 16 rfl rfl rfl (Or.inl rfl) rfl (wl_unless 10 false 16 rfl rfl rfl (Or.inl rfl) rfl (wl_unless 10 false 16 rfl rfl rfl (Or.inl rfl) rfl (wl_v (.bool true) rfl rfl (y_pickT rfl rfl rfl rr) ?_)))))))))))
  refine wl_nil fun F103 hF104 => ?_
  have s105 := (hF104 31).trans s11
  have s107 : F103 21 = .bool true := (hF104 21).trans rfl
  clear hF104
  refine then_normal ?_
  refine wq_cond (t := true) s107 (fun _ => ?_) (fun e => by cases e)
  refine wq_seq ?_
  have hR : chE k c = 120 := by first | exact chE_has (by assumption) | exact chE_bare (by assumption) | exact chE_far2 (by first | assumption | simp_all)
  refine wq_region (wl_v (iv 120) rfl rfl (y_asg rfl rfl rr) (wl_nil fun F108 hF109 => ?_))
  have s110 := (hF109 31).trans s105
  have s111 : F108 4 = iv 120 := (hF109 4).trans rfl
  clear hF109
  refine then_normal (wq_ret (then_ret ?_))
  exact end_tmp (v := iv 120) s110 rfl rfl s111 ⟨(by rw [hR]), K102⟩
theorem bl_write (p : Nat) (bs : List Bool) (k : Int) (c : Ch) (ax ay bx yy : Int) (T_w : Nat → Prop) (w0 : World) (hA : ActsIn w0) (hO : ScanIn w0) (hG : ∀ i, T_w i → 4 ≤ i) (hm : bs.length + 8192 < 1099511627776) (h_w : Wri w0 T_w p (bs)) :
  Calls Tryz.prog 11 #[.pointer (some ⟨p, 0, none⟩), .int .i64 (k), .agg (chW (c)).toArray, .agg #[.int .i64 (ax), .int .i64 (ay)], .agg #[.int .i64 (bx), .int .i64 (yy)]] w0 fun e w' => ∃ (T_w' : Nat → Prop), e = .returned (.int .i64 (chE k c)) ∧ Kept (T_w) w0 w' ∧ (Wri w' T_w' p (bs ++ wrCh k c ax ay bx yy) ∧ Grew w0 T_w T_w') := by
 refine calls_wq (args := [pt p 0, iv k, .agg (chW c).toArray, .agg #[iv ax, iv ay], .agg #[iv bx, iv yy]]) 48 Tryz.func11 rfl rfl (Nat.le_of_ble_eq_true rfl) ?_
 have K0 := Kept.refl T_w w0
 have h1 := vecBits_short c.px c.py ax ay
 have h2 := vecBits_short c.nx c.ny bx yy
 have h3 := wholeBits_short c.m
 have h4 := scanBits_length c.b
 have g_w := Grew.refl w0 T_w
 refine wq_seq (wq_region (wl_box_stc (vs := (chW c)) rfl rfl rfl rfl fun p1 w2 B4 g5 k3 => ?_))
 have ap7 : Apart (onB p1) T_w := Apart.new g5 h_w.live
 have B8 := h_w.all k3 Apart.none
 have K9 := K0.tr k3
 refine wl_box_stc (vs := [iv ax, iv ay]) rfl rfl rfl rfl fun p10 w11 B13 g14 k12 => ?_
 have ap16 : Apart (onB p10) T_w := Apart.new g14 B8.live
 have B18 := B8.all k12 Apart.none
 have B19 := B4.all k12 id
 have K20 := K9.tr k12
 refine wl_box_stc (vs := [iv bx, iv yy]) rfl rfl rfl rfl fun p21 w22 B24 g25 k23 => ?_
 have ap27 : Apart (onB p21) T_w := Apart.new g25 B18.live
 have B30 := B18.all k23 Apart.none
 have B31 := B19.all k23 id
 have B32 := B13.all k23 id
 have K33 := K20.tr k23
 refine wl_v (iv 0) rfl rfl (y_asg rfl rfl rr) (wl_nil fun F34 hF35 => ?_)
 have s36 : F34 0 = pt p 0 := (hF35 0).trans rfl
 have s37 : F34 1 = iv k := (hF35 1).trans rfl
 have s38 : F34 48 = undef := (hF35 48).trans rfl
 have s39 : F34 7 = pt p1 0 := (hF35 7).trans rfl
 have s40 : F34 8 = pt p10 0 := (hF35 8).trans rfl
 have s41 : F34 9 = pt p21 0 := (hF35 9).trans rfl
 clear hF35
 refine then_normal (wq_seq (wq_seq (wq_region (wl_mv rfl rfl rfl s36 (wl_v (.bool false) rfl rfl (y_noNil rfl rfl rfl Tryz.underlying44 rr) (wl_nil fun F42 hF43 => ?_))))))
 obtain ⟨s44, s45, s46, s47, s48, s49⟩ := t6 hF43 0 s36 1 s37 48 s38 7 s39 8 s40 9 s41
 have s50 : F42 15 = .bool false := (hF43 15).trans rfl
 clear hF43
 refine then_normal ?_
 refine wq_cond (t := false) s50 (fun e => by cases e) (fun _ => ?_)
 refine wq_skip (then_normal (wq_seq (wq_seq (wq_region (wl_mv rfl rfl rfl s45 (wl_v (.agg (chW c).toArray) rfl rfl (y_load_stc stcT_choice rfl s47 B31 rr) (wl_cs rfl rfl rfl rfl rfl (fun _ _ => by kernel_rfl) (vsC rfl (vsC rfl vsN)) (bl_check k c  _ (hA.but K33 hG)  ) fun w51 k52 => ?_)))))))
 have B53 := B30.all k52 Apart.none
 have B54 := B31.all k52 id
 have B55 := B32.all k52 id
 have B56 := B24.all k52 id
 have K57 := K33.tr k52
 refine wl_v (iv (chE k c)) rfl rfl (y_asg rfl rfl rr) (wl_nil fun F58 hF59 => ?_)
 obtain ⟨s60, s61, s62, s63, s64⟩ := t5 hF59 0 s44 48 s46 7 s47 8 s48 9 s49
 have s65 : F58 11 = iv (chE k c) := (hF59 11).trans rfl
 clear hF59
 refine then_normal (wq_seq (wq_region (wl_mv rfl rfl rfl s65 (wl_v (.bool (decide ((chE k c) ≠ 0))) rfl rfl (y_neqI rfl rfl rfl rfl rr) (wl_nil fun F66 hF67 => ?_)))))
 obtain ⟨s68, s69, s70, s71, s72, s73⟩ := t6 hF67 0 s60 48 s61 7 s62 8 s63 9 s64 11 s65
 have s74 : F66 20 = .bool (decide ((chE k c) ≠ 0)) := (hF67 20).trans rfl
 clear hF67
 refine then_normal ?_
 refine wq_cond s74 (fun c75 => ?_) (fun c75 => ?_)
 ·replace c75 := of_decide_eq_true c75
  refine wq_seq ?_
  have hno : wrCh k c ax ay bx yy = [] := if_neg (by assumption)
  refine wq_region (wl_mv rfl rfl rfl s73 (wl_v (iv (chE k c)) rfl rfl (y_asg rfl rfl rr) (wl_nil fun F76 hF77 => ?_)))
  have s78 := (hF77 48).trans s69
  have s79 : F76 10 = iv (chE k c) := (hF77 10).trans rfl
  clear hF77
  refine then_normal (wq_ret (then_ret ?_))
  exact end_tmp (v := iv (chE k c)) s78 rfl rfl s79 ⟨T_w, (by first | rfl | rw [he]), K57, ⟨(by first | (rw [hno, List.append_nil]; exact B53) | exact B53.cast (by rw [hyes]; unfold chBits pastBits nextBits; simp [*])), g_w⟩⟩
 ·replace c75 := of_decide_eq_false c75
  refine wq_skip (then_normal (wq_seq ?_))
  have he : chE k c = 0 := by first | assumption | (apply Decidable.byContradiction; assumption)
  have hyes : wrCh k c ax ay bx yy = chBits c ax ay bx yy := if_pos he
  refine wq_region (wl_v (pt p1 0) rfl rfl (y_fieldR (n := 1) rfl s70 Tryz.underlying31 rfl (by kernel_rfl) (by decide) rfl rr) (wl_v (iv (c.m)) rfl rfl (y_ld_stc rfl rfl Tryz.underlying3 B54 rfl rfl rr) (wl_cs rfl rfl rfl rfl rfl (fun _ _ => by kernel_rfl) (vsC rfl vsN) (bl_vectors (c.m)  _ (hA.but K57 hG)  ) fun w80 k81 => ?_)))
  have B82 := B53.all k81 Apart.none
  have B83 := B54.all k81 id
  have B84 := B55.all k81 id
  have B85 := B56.all k81 id
  have K86 := K57.tr k81
  refine wl_v (.tuple #[.bool (pastB (c.m)), .bool (nextB (c.m))]) rfl rfl (y_mov rfl rfl rr) (wl_v (.bool (pastB (c.m))) rfl rfl (y_ext rfl rfl rfl rr) (wl_v (.bool (nextB (c.m))) rfl rfl (y_ext rfl rfl rfl rr) (wl_v (.bool (pastB (c.m))) rfl rfl (y_asg rfl rfl rr) (wl_v (.bool (nextB (c.m))) rfl rfl (y_asg rfl rfl rr) (wl_nil fun F87 hF88 => ?_)))))
  obtain ⟨s89, s90, s91, s92, s93⟩ := t5 hF88 0 s68 48 s69 7 s70 8 s71 9 s72
  have s94 : F87 12 = .bool (pastB (c.m)) := (hF88 12).trans rfl
  have s95 : F87 13 = .bool (nextB (c.m)) := (hF88 13).trans rfl
  clear hF88
  refine then_normal (wq_seq (wq_region (wl_mv rfl rfl rfl s89 (wl_v (pt p1 0) rfl rfl (y_fieldR (n := 1) rfl s91 Tryz.underlying31 rfl (by kernel_rfl) (by decide) rfl rr) (wl_v (iv (c.m)) rfl rfl (y_ld_stc rfl rfl Tryz.underlying3 B83 rfl rfl rr) (wl_call (R := fun v_ w_ => ∃ (T98 : Nat → Prop), .tuple #[] = v_ ∧ Kept T_w w80 w_ ∧ (Wri w_ T98 p (bs ++ wholeBits (c.m)) ∧ Grew w80 T_w T98)) rfl rfl (y_cs rfl rfl rfl (fun _ _ => by kernel_rfl) (ev_func _) (vsC rfl (vsC rfl vsN)) (t_whole p bs (c.m) T_w _ (by omega) B82 ) (fun e_ w_ h_ => by obtain ⟨T98_, he_, hr_⟩ := h_; exact ⟨_, he_, T98_, rfl, hr_⟩)) ?_))))))
  rintro _ w96 ⟨T98, rfl, k97, ⟨B99, g100⟩⟩
  have B101 := B83.all k97 (ap7 p1 rfl)
  have B102 := B84.all k97 (ap16 p10 rfl)
  have B103 := B85.all k97 (ap27 p21 rfl)
  have K104 := K86.trans k97 (fun i hi x => ((Grew.ok (S := T_w) g_w (fun _ x => x)) i hi x))
  have gr105 := g_w.trans K86 g100
  have ap106 : Apart T98 (onB p1) := (ap7.symm).grew g100 (onB_live B83.lt)
  have ap108 : Apart T98 (onB p21) := (ap27.symm).grew g100 (onB_live B85.lt)
  refine wl_nil fun F109 hF110 => ?_
  obtain ⟨s111, s112, s113, s114, s115, s116, s117⟩ := t7 hF110 0 s89 48 s90 7 s91 8 s92 9 s93 12 s94 13 s95
  clear hF110
  refine then_normal (wq_seq (wq_seq (wq_region (wl_mv rfl rfl rfl s116 (wl_nil fun F118 hF119 => ?_)))))
  obtain ⟨s120, s121, s122, s123, s124, s125⟩ := t6 hF119 0 s111 48 s112 7 s113 8 s114 9 s115 13 s117
  have s126 : F118 32 = .bool (pastB (c.m)) := (hF119 32).trans rfl
  clear hF119
  refine then_normal ?_
  refine wq_cond s126 (fun c127 => ?_) (fun c127 => ?_)
  ·skip
   refine wq_region (wl_mv rfl rfl rfl s120 (wl_v (pt p1 1) rfl rfl (y_fieldR (n := 2) rfl s122 Tryz.underlying31 rfl (by kernel_rfl) (by decide) rfl rr) (wl_v (.agg #[iv (c.px), iv (c.py)]) rfl rfl (y_ldPart (n := 2) stcT_vector rfl rfl B101 (Nat.le_of_ble_eq_true rfl) rfl rr) (wl_v (.agg #[iv ax, iv ay]) rfl rfl (y_load_stc stcT_vector rfl s123 B102 rr) (wl_call (R := fun v_ w_ => ∃ (T130 : Nat → Prop), .tuple #[] = v_ ∧ Kept T98 w96 w_ ∧ (Wri w_ T130 p ((bs ++ wholeBits (c.m)) ++ vecBits (c.px) (c.py) ax ay) ∧ Grew w96 T98 T130)) rfl rfl (y_cs rfl rfl rfl (fun _ _ => by kernel_rfl) (ev_func _) (vsC rfl (vsC rfl (vsC rfl vsN))) (vt_write p (bs ++ wholeBits (c.m)) (c.px) (c.py) ax ay T98 _ (by simp; omega) B99 ) (fun e_ w_ h_ => by obtain ⟨T130_, he_, hr_⟩ := h_; exact ⟨_, he_, T130_, rfl, hr_⟩)) ?_)))))
   rintro _ w128 ⟨T130, rfl, k129, ⟨B131, g132⟩⟩
   have B133 := B101.all k129 (ap106.symm p1 rfl)
   have B135 := B103.all k129 (ap108.symm p21 rfl)
   have K136 := K104.trans k129 (fun i hi x => ((Grew.ok (S := T_w) gr105 (fun _ x => x)) i hi x))
   have gr137 := gr105.trans K104 g132
   have ap138 : Apart T130 (onB p1) := ap106.grew g132 (onB_live B101.lt)
   refine wl_nil fun F141 hF142 => ?_
   obtain ⟨s143, s144, s145, s146, s147⟩ := t5 hF142 0 s120 48 s121 7 s122 9 s124 13 s125
   clear hF142
   refine then_normal (wq_seq (wq_seq (wq_region (wl_mv rfl rfl rfl s147 (wl_nil fun F148 hF149 => ?_)))))
   obtain ⟨s150, s151, s152, s153⟩ := t4 hF149 0 s143 48 s144 7 s145 9 s146
   have s154 : F148 38 = .bool (nextB (c.m)) := (hF149 38).trans rfl
   clear hF149
   refine then_normal ?_
   refine wq_cond s154 (fun c155 => ?_) (fun c155 => ?_)
   ·skip
    refine wq_region (wl_mv rfl rfl rfl s150 (wl_v (pt p1 3) rfl rfl (y_fieldR (n := 2) rfl s152 Tryz.underlying31 rfl (by kernel_rfl) (by decide) rfl rr) (wl_v (.agg #[iv (c.nx), iv (c.ny)]) rfl rfl (y_ldPart (n := 2) stcT_vector rfl rfl B133 (Nat.le_of_ble_eq_true rfl) rfl rr) (wl_v (.agg #[iv bx, iv yy]) rfl rfl (y_load_stc stcT_vector rfl s153 B135 rr) (wl_call (R := fun v_ w_ => ∃ (T158 : Nat → Prop), .tuple #[] = v_ ∧ Kept T130 w128 w_ ∧ (Wri w_ T158 p (((bs ++ wholeBits (c.m)) ++ vecBits (c.px) (c.py) ax ay) ++ vecBits (c.nx) (c.ny) bx yy) ∧ Grew w128 T130 T158)) rfl rfl (y_cs rfl rfl rfl (fun _ _ => by kernel_rfl) (ev_func _) (vsC rfl (vsC rfl (vsC rfl vsN))) (vt_write p ((bs ++ wholeBits (c.m)) ++ vecBits (c.px) (c.py) ax ay) (c.nx) (c.ny) bx yy T130 _ (by simp; omega) B131 ) (fun e_ w_ h_ => by obtain ⟨T158_, he_, hr_⟩ := h_; exact ⟨_, he_, T158_, rfl, hr_⟩)) ?_)))))
    rintro _ w156 ⟨T158, rfl, k157, ⟨B159, g160⟩⟩
    have B161 := B133.all k157 (ap138.symm p1 rfl)
    have K164 := K136.trans k157 (fun i hi x => ((Grew.ok (S := T_w) gr137 (fun _ x => x)) i hi x))
    have gr165 := gr137.trans K136 g160
    refine wl_nil fun F169 hF170 => ?_
    obtain ⟨s171, s172, s173⟩ := t3 hF170 0 s150 48 s151 7 s152
    clear hF170
    refine then_normal (wq_seq (wq_region (wl_mv rfl rfl rfl s171 (wl_v (pt p1 5) rfl rfl (y_fieldR (n := 16) rfl s173 Tryz.underlying31 rfl (by kernel_rfl) (by decide) rfl rr) (wl_v (blkV (c.b)) rfl rfl (y_ldPart (n := 16) (us := arrL 16 (c.b)) stcT_block rfl rfl B161 (Nat.le_of_ble_eq_true rfl) rfl rr) (wl_call (R := fun v_ w_ => ∃ (T176 : Nat → Prop), .tuple #[] = v_ ∧ Kept T158 w156 w_ ∧ (Wri w_ T176 p ((((bs ++ wholeBits (c.m)) ++ vecBits (c.px) (c.py) ax ay) ++ vecBits (c.nx) (c.ny) bx yy) ++ scanBits (c.b)) ∧ Grew w156 T158 T176)) rfl rfl (y_cs rfl rfl rfl (fun _ _ => by kernel_rfl) (ev_func _) (vsC rfl (vsC rfl vsN)) (scan_write p (((bs ++ wholeBits (c.m)) ++ vecBits (c.px) (c.py) ax ay) ++ vecBits (c.nx) (c.ny) bx yy) (c.b) T158 _ (hO.but K164 (ovO hG)) (ovO (aboveN2 gr165 hG hA)) (by simp; omega) B159 ) (fun e_ w_ h_ => by obtain ⟨T176_, he_, hr_⟩ := h_; exact ⟨_, he_, T176_, rfl, hr_⟩)) ?_))))))
    rintro _ w174 ⟨T176, rfl, k175, ⟨B177, g178⟩⟩
    have K182 := K164.trans k175 (fun i hi x => ((Grew.ok (S := T_w) gr165 (fun _ x => x)) i hi x))
    have gr183 := gr165.trans K164 g178
    refine wl_nil fun F187 hF188 => ?_
    have s189 := (hF188 48).trans s172
    clear hF188
    refine then_normal (wq_seq (wq_region (wl_v (iv 0) rfl rfl (y_asg rfl rfl rr) (wl_nil fun F190 hF191 => ?_))))
    have s192 := (hF191 48).trans s189
    have s193 : F190 10 = iv 0 := (hF191 10).trans rfl
    clear hF191
    refine then_normal (wq_ret ?_)
    exact end_tmp (v := iv 0) s192 rfl rfl s193 ⟨T176, (by first | rfl | rw [he]), K182, ⟨(by first | (rw [hno, List.append_nil]; exact B177) | exact B177.cast (by rw [hyes]; unfold chBits pastBits nextBits; simp [*])), gr183⟩⟩
   ·skip
    refine wq_skip (then_normal (wq_seq (wq_region (wl_mv rfl rfl rfl s150 (wl_v (pt p1 5) rfl rfl (y_fieldR (n := 16) rfl s152 Tryz.underlying31 rfl (by kernel_rfl) (by decide) rfl rr) (wl_v (blkV (c.b)) rfl rfl (y_ldPart (n := 16) (us := arrL 16 (c.b)) stcT_block rfl rfl B133 (Nat.le_of_ble_eq_true rfl) rfl rr) (wl_call (R := fun v_ w_ => ∃ (T196 : Nat → Prop), .tuple #[] = v_ ∧ Kept T130 w128 w_ ∧ (Wri w_ T196 p (((bs ++ wholeBits (c.m)) ++ vecBits (c.px) (c.py) ax ay) ++ scanBits (c.b)) ∧ Grew w128 T130 T196)) rfl rfl (y_cs rfl rfl rfl (fun _ _ => by kernel_rfl) (ev_func _) (vsC rfl (vsC rfl vsN)) (scan_write p ((bs ++ wholeBits (c.m)) ++ vecBits (c.px) (c.py) ax ay) (c.b) T130 _ (hO.but K136 (ovO hG)) (ovO (aboveN2 gr137 hG hA)) (by simp; omega) B131 ) (fun e_ w_ h_ => by obtain ⟨T196_, he_, hr_⟩ := h_; exact ⟨_, he_, T196_, rfl, hr_⟩)) ?_)))))))
    rintro _ w194 ⟨T196, rfl, k195, ⟨B197, g198⟩⟩
    have K202 := K136.trans k195 (fun i hi x => ((Grew.ok (S := T_w) gr137 (fun _ x => x)) i hi x))
    have gr203 := gr137.trans K136 g198
    refine wl_nil fun F207 hF208 => ?_
    have s209 := (hF208 48).trans s151
    clear hF208
    refine then_normal (wq_seq (wq_region (wl_v (iv 0) rfl rfl (y_asg rfl rfl rr) (wl_nil fun F210 hF211 => ?_))))
    have s212 := (hF211 48).trans s209
    have s213 : F210 10 = iv 0 := (hF211 10).trans rfl
    clear hF211
    refine then_normal (wq_ret ?_)
    exact end_tmp (v := iv 0) s212 rfl rfl s213 ⟨T196, (by first | rfl | rw [he]), K202, ⟨(by first | (rw [hno, List.append_nil]; exact B197) | exact B197.cast (by rw [hyes]; unfold chBits pastBits nextBits; simp [*])), gr203⟩⟩
  ·skip
   refine wq_skip (then_normal (wq_seq (wq_seq (wq_region (wl_mv rfl rfl rfl s125 (wl_nil fun F214 hF215 => ?_))))))
   obtain ⟨s216, s217, s218, s219⟩ := t4 hF215 0 s120 48 s121 7 s122 9 s124
   have s220 : F214 38 = .bool (nextB (c.m)) := (hF215 38).trans rfl
   clear hF215
   refine then_normal ?_
   refine wq_cond s220 (fun c221 => ?_) (fun c221 => ?_)
   ·skip
    refine wq_region (wl_mv rfl rfl rfl s216 (wl_v (pt p1 3) rfl rfl (y_fieldR (n := 2) rfl s218 Tryz.underlying31 rfl (by kernel_rfl) (by decide) rfl rr) (wl_v (.agg #[iv (c.nx), iv (c.ny)]) rfl rfl (y_ldPart (n := 2) stcT_vector rfl rfl B101 (Nat.le_of_ble_eq_true rfl) rfl rr) (wl_v (.agg #[iv bx, iv yy]) rfl rfl (y_load_stc stcT_vector rfl s219 B103 rr) (wl_call (R := fun v_ w_ => ∃ (T224 : Nat → Prop), .tuple #[] = v_ ∧ Kept T98 w96 w_ ∧ (Wri w_ T224 p ((bs ++ wholeBits (c.m)) ++ vecBits (c.nx) (c.ny) bx yy) ∧ Grew w96 T98 T224)) rfl rfl (y_cs rfl rfl rfl (fun _ _ => by kernel_rfl) (ev_func _) (vsC rfl (vsC rfl (vsC rfl vsN))) (vt_write p (bs ++ wholeBits (c.m)) (c.nx) (c.ny) bx yy T98 _ (by simp; omega) B99 ) (fun e_ w_ h_ => by obtain ⟨T224_, he_, hr_⟩ := h_; exact ⟨_, he_, T224_, rfl, hr_⟩)) ?_)))))
    rintro _ w222 ⟨T224, rfl, k223, ⟨B225, g226⟩⟩
    have B227 := B101.all k223 (ap106.symm p1 rfl)
    have K230 := K104.trans k223 (fun i hi x => ((Grew.ok (S := T_w) gr105 (fun _ x => x)) i hi x))
    have gr231 := gr105.trans K104 g226
    refine wl_nil fun F235 hF236 => ?_
    obtain ⟨s237, s238, s239⟩ := t3 hF236 0 s216 48 s217 7 s218
    clear hF236
    refine then_normal (wq_seq (wq_region (wl_mv rfl rfl rfl s237 (wl_v (pt p1 5) rfl rfl (y_fieldR (n := 16) rfl s239 Tryz.underlying31 rfl (by kernel_rfl) (by decide) rfl rr) (wl_v (blkV (c.b)) rfl rfl (y_ldPart (n := 16) (us := arrL 16 (c.b)) stcT_block rfl rfl B227 (Nat.le_of_ble_eq_true rfl) rfl rr) (wl_call (R := fun v_ w_ => ∃ (T242 : Nat → Prop), .tuple #[] = v_ ∧ Kept T224 w222 w_ ∧ (Wri w_ T242 p (((bs ++ wholeBits (c.m)) ++ vecBits (c.nx) (c.ny) bx yy) ++ scanBits (c.b)) ∧ Grew w222 T224 T242)) rfl rfl (y_cs rfl rfl rfl (fun _ _ => by kernel_rfl) (ev_func _) (vsC rfl (vsC rfl vsN)) (scan_write p ((bs ++ wholeBits (c.m)) ++ vecBits (c.nx) (c.ny) bx yy) (c.b) T224 _ (hO.but K230 (ovO hG)) (ovO (aboveN2 gr231 hG hA)) (by simp; omega) B225 ) (fun e_ w_ h_ => by obtain ⟨T242_, he_, hr_⟩ := h_; exact ⟨_, he_, T242_, rfl, hr_⟩)) ?_))))))
    rintro _ w240 ⟨T242, rfl, k241, ⟨B243, g244⟩⟩
    have K248 := K230.trans k241 (fun i hi x => ((Grew.ok (S := T_w) gr231 (fun _ x => x)) i hi x))
    have gr249 := gr231.trans K230 g244
    refine wl_nil fun F253 hF254 => ?_
    have s255 := (hF254 48).trans s238
    clear hF254
    refine then_normal (wq_seq (wq_region (wl_v (iv 0) rfl rfl (y_asg rfl rfl rr) (wl_nil fun F256 hF257 => ?_))))
    have s258 := (hF257 48).trans s255
    have s259 : F256 10 = iv 0 := (hF257 10).trans rfl
    clear hF257
    refine then_normal (wq_ret ?_)
    exact end_tmp (v := iv 0) s258 rfl rfl s259 ⟨T242, (by first | rfl | rw [he]), K248, ⟨(by first | (rw [hno, List.append_nil]; exact B243) | exact B243.cast (by rw [hyes]; unfold chBits pastBits nextBits; simp [*])), gr249⟩⟩
   ·skip
    refine wq_skip (then_normal (wq_seq (wq_region (wl_mv rfl rfl rfl s216 (wl_v (pt p1 5) rfl rfl (y_fieldR (n := 16) rfl s218 Tryz.underlying31 rfl (by kernel_rfl) (by decide) rfl rr) (wl_v (blkV (c.b)) rfl rfl (y_ldPart (n := 16) (us := arrL 16 (c.b)) stcT_block rfl rfl B101 (Nat.le_of_ble_eq_true rfl) rfl rr) (wl_call (R := fun v_ w_ => ∃ (T262 : Nat → Prop), .tuple #[] = v_ ∧ Kept T98 w96 w_ ∧ (Wri w_ T262 p ((bs ++ wholeBits (c.m)) ++ scanBits (c.b)) ∧ Grew w96 T98 T262)) rfl rfl (y_cs rfl rfl rfl (fun _ _ => by kernel_rfl) (ev_func _) (vsC rfl (vsC rfl vsN)) (scan_write p (bs ++ wholeBits (c.m)) (c.b) T98 _ (hO.but K104 (ovO hG)) (ovO (aboveN2 gr105 hG hA)) (by simp; omega) B99 ) (fun e_ w_ h_ => by obtain ⟨T262_, he_, hr_⟩ := h_; exact ⟨_, he_, T262_, rfl, hr_⟩)) ?_)))))))
    rintro _ w260 ⟨T262, rfl, k261, ⟨B263, g264⟩⟩
    have K268 := K104.trans k261 (fun i hi x => ((Grew.ok (S := T_w) gr105 (fun _ x => x)) i hi x))
    have gr269 := gr105.trans K104 g264
    refine wl_nil fun F273 hF274 => ?_
    have s275 := (hF274 48).trans s217
    clear hF274
    refine then_normal (wq_seq (wq_region (wl_v (iv 0) rfl rfl (y_asg rfl rfl rr) (wl_nil fun F276 hF277 => ?_))))
    have s278 := (hF277 48).trans s275
    have s279 : F276 10 = iv 0 := (hF277 10).trans rfl
    clear hF277
    refine then_normal (wq_ret ?_)
    exact end_tmp (v := iv 0) s278 rfl rfl s279 ⟨T262, (by first | rfl | rw [he]), K268, ⟨(by first | (rw [hno, List.append_nil]; exact B263) | exact B263.cast (by rw [hyes]; unfold chBits pastBits nextBits; simp [*])), gr269⟩⟩
theorem bl_build (b : Nat → Int) (c : Ch) (q : Int) (w0 : World) (hs : StepsAt w0) (hw : Waves w0) :
  Calls Tryz.prog 8 #[blkV (b), .agg (chW (c)).toArray, .int .i64 (q)] w0 fun e w' => e = .returned (.tuple #[blkV (buB b c.b q), .int .i64 (ern q)]) ∧ Kept (fun _ => False) w0 w' := by
 refine calls_wq (args := [blkV b, .agg (chW c).toArray, iv q]) 39 Tryz.func8 rfl rfl (Nat.le_of_ble_eq_true rfl) ?_
 have K0 := Kept.refl (fun _ => False) w0
 refine wq_seq (wq_region (wl_box_blk rfl rfl rfl rfl fun p1 w2 e5 B3 k4 => ?_))
 have g6 := onB_new (Nat.le_of_eq e5.symm)
 have gr7 : Grew w0 noB (onB p1) := Grew.new K0 g6
 clear e5 g6
 have K8 := K0.tr k4
 refine wl_box_stc (vs := (chW c)) rfl rfl rfl rfl fun p9 w10 B12 g13 k11 => ?_
 have ap15 : Apart (onB p9) (onB p1) := Apart.new g13 (onB_live B3.lt)
 have B16 := B3.all k11 id
 have K17 := K8.tr k11
 refine wl_alloc_blk rfl rfl rfl blkT_block.2.2 fun p18 w19 e22 B20 k21 => ?_
 have g23 := onB_new (Nat.le_of_eq e22.symm)
 have gr24 : Grew w0 noB (onB p18) := Grew.new K17 g23
 have ap25 : Apart (onB p18) (onB p1) := Apart.new g23 (onB_live B16.lt)
 clear e22 g23
 have B27 := B16.all k21 id
 have B28 := B12.all k21 id
 have K29 := K17.tr k21
 refine wl_v (iv 0) rfl rfl (y_asg rfl rfl rr) (wl_nil fun F30 hF31 => ?_)
 have s32 : F30 2 = iv q := (hF31 2).trans rfl
 have s33 : F30 39 = undef := (hF31 39).trans rfl
 have s34 : F30 3 = pt p1 0 := (hF31 3).trans rfl
 have s35 : F30 4 = pt p9 0 := (hF31 4).trans rfl
 have s36 : F30 6 = pt p18 0 := (hF31 6).trans rfl
 clear hF31
 refine then_normal (wq_seq (wq_region (wl_v (pt p9 5) rfl rfl (y_fieldR (n := 16) rfl s35 Tryz.underlying31 rfl (by kernel_rfl) (by decide) rfl rr) (wl_v (blkV (c.b)) rfl rfl (y_ldPart (n := 16) (us := arrL 16 (c.b)) stcT_block rfl rfl B28 (Nat.le_of_ble_eq_true rfl) rfl rr) (wl_mv rfl rfl rfl s32 (wl_cs rfl rfl rfl rfl rfl (fun _ _ => by kernel_rfl) (vsC rfl (vsC rfl vsN)) (up_any (c.b) q  _ (hs.all K29)  ) fun w37 k38 => ?_))))))
 have B39 := B27.all k38 id
 have B40 := B28.all k38 id
 have B41 := B20.all k38 id
 have K42 := K29.tr k38
 refine wl_v (.tuple #[blkV (upB (c.b) q), iv (ern q)]) rfl rfl (y_mov rfl rfl rr) (wl_v (blkV (upB (c.b) q)) rfl rfl (y_ext rfl rfl rfl rr) (wl_v (iv (ern q)) rfl rfl (y_ext rfl rfl rfl rr) (wl_alloc_blk rfl rfl rfl blkT_block.2.2 fun p43 w44 e47 B45 k46 => ?_)))
 have g48 := onB_new (Nat.le_of_eq e47.symm)
 have gr49 : Grew w0 noB (onB p43) := Grew.new K42 g48
 have ap50 : Apart (onB p43) (onB p1) := Apart.new g48 (onB_live B39.lt)
 have ap51 : Apart (onB p43) (onB p9) := Apart.new g48 (onB_live B40.lt)
 have ap52 : Apart (onB p43) (onB p18) := Apart.new g48 (onB_live B41.lt)
 clear e47 g48
 have B53 := B39.all k46 id
 have B54 := B40.all k46 id
 have B55 := B41.all k46 id
 have K56 := K42.tr k46
 refine wl_store_blk blkT_block rfl rfl rfl rfl rfl B45 fun w57 B58 k59 => ?_
 have B60 := B53.all k59 (ap50.symm p1 rfl)
 have B61 := B54.all k59 (ap51.symm p9 rfl)
 have B62 := B55.all k59 (ap52.symm p18 rfl)
 have K63 := K56.trans k59 (Grew.ok (S := fun _ => False) gr49 noB_le)
 refine wl_v (iv (ern q)) rfl rfl (y_asg rfl rfl rr) (wl_nil fun F64 hF65 => ?_)
 obtain ⟨s66, s67, s68⟩ := t3 hF65 39 s33 3 s34 6 s36
 have s69 : F64 8 = pt p43 0 := (hF65 8).trans rfl
 have s70 : F64 9 = iv (ern q) := (hF65 9).trans rfl
 clear hF65
 refine then_normal (wq_seq (wq_seq (wq_region (wl_mv rfl rfl rfl s70 (wl_v (.bool (decide ((ern q) ≠ 0))) rfl rfl (y_neqI rfl rfl rfl rfl rr) (wl_nil fun F71 hF72 => ?_))))))
 obtain ⟨s73, s74, s75, s76, s77⟩ := t5 hF72 39 s66 3 s67 6 s68 8 s69 9 s70
 have s78 : F71 20 = .bool (decide ((ern q) ≠ 0)) := (hF72 20).trans rfl
 clear hF72
 refine then_normal ?_
 refine wq_cond s78 (fun c79 => ?_) (fun c79 => ?_)
 ·replace c79 := of_decide_eq_true c79
  refine wq_seq ?_
  have hR := bu_no (b := b) (l := c.b) (q := q) (by assumption)
  refine wq_region (wl_v (blkV (fun _ => 0)) rfl rfl (y_buildR (cells := (arrL 16 (fun _ => 0)).toArray) rfl (by kernel_rfl) rfl rr) (wl_mv rfl rfl rfl s77 (wl_store_blk blkT_block rfl rfl rfl s75 rfl B62 fun w80 B81 k82 => ?_)))
  have K86 := K63.trans k82 (Grew.ok (S := fun _ => False) gr24 noB_le)
  refine wl_v (iv (ern q)) rfl rfl (y_asg rfl rfl rr) (wl_nil fun F87 hF88 => ?_)
  obtain ⟨s89, s90⟩ := t2 hF88 39 s73 6 s75
  have s91 : F87 7 = iv (ern q) := (hF88 7).trans rfl
  clear hF88
  refine then_normal (wq_ret (then_ret ?_))
  exact end_2 s89 rfl (res_blk blkT_block rfl s90 B81) (res_tmp (v := iv (ern q)) rfl s91) ⟨(by first | rw [hR, hq0] | rw [hR]), K86⟩
 ·replace c79 := of_decide_eq_false c79
  refine wq_skip (then_normal (wq_seq ?_))
  have hq0 : ern q = 0 := by first | assumption | (apply Decidable.byContradiction; assumption)
  have hR := bu_yes (b := b) (l := c.b) hq0
  refine wq_tail 4 [some 23, some 24, some 25, some 26] [Pd.eq (blkV b), Pd.eq (blkV (upB (c.b) q)), Pd.eq (blkV (backB (upB (c.b) q))), Pd.eq (blkV (moreB b (backB (upB (c.b) q))))] (by kernel_rfl) (by kernel_rfl) (by kernel_rfl) ?_ ?_
  ·refine stepsF_cons ?_ ?_
   ·refine StepF.one rfl fun F_ w_ hR hout hD => ?_
    exact (y_load_blk blkT_block rfl ((hout 3 rfl (by decide)).trans s74) (B60.all hR id) ⟨rfl, Kept.refl _ _⟩)
   refine stepsF_cons ?_ ?_
   ·refine StepF.one rfl fun F_ w_ hR hout hD => ?_
    exact (y_load_blk blkT_block rfl ((hout 8 rfl (by decide)).trans s76) (B58.all hR id) ⟨rfl, Kept.refl _ _⟩)
   refine stepsF_cons ?_ ?_
   ·refine StepF.one rfl fun F_ w_ hR hout hD => ?_
    have g24 : F_ 24 = blkV (upB (c.b) q) := (hD.get 0 rfl rfl rfl)
    exact (y_cs rfl rfl rfl (fun _ _ => by kernel_rfl) (ev_func _) (vsC g24 vsN) (back_any (upB (c.b) q)  _ (hw.all (K63.trans hR (fun _ _ x => x.elim)))  ) (fun e_ w_ h_ => ⟨_, h_.1, rfl, h_.2⟩))
   refine stepsF_cons ?_ ?_
   ·refine StepF.one rfl fun F_ w_ hR hout hD => ?_
    have g23 : F_ 23 = blkV b := (hD.get 0 rfl rfl rfl)
    have g25 : F_ 25 = blkV (backB (upB (c.b) q)) := (hD.get 1 rfl rfl rfl)
    exact (y_cs rfl rfl rfl (fun _ _ => by kernel_rfl) (ev_func _) (vsC g23 (vsC g25 vsN)) (more_any b (backB (upB (c.b) q))  _   ) (fun e_ w_ h_ => ⟨_, h_.1, rfl, h_.2⟩))
   exact stepsF_nil
  intro v92 F93 w94 k95 G96 hF97
  have B99 := B60.all k95 id
  have B100 := B61.all k95 id
  have B101 := B62.all k95 id
  have B102 := B58.all k95 id
  have K103 := K63.tr k95
  obtain ⟨s104, s105, s106⟩ := t3 hF97 39 s73 3 s74 6 s75
  have s107 : F93 26 = blkV (moreB b (backB (upB (c.b) q))) := (hF97 26).trans (G96 3 (by decide))
  clear G96 hF97
  refine wl_store_blk blkT_block rfl rfl rfl s105 s107 B99 fun w108 B109 k110 => ?_
  have B111 := B100.all k110 (ap15 p9 rfl)
  have B112 := B101.all k110 (ap25 p18 rfl)
  have B113 := B102.all k110 (ap50 p43 rfl)
  have K114 := K103.trans k110 (Grew.ok (S := fun _ => False) gr7 noB_le)
  refine wl_nil fun F115 hF116 => ?_
  obtain ⟨s117, s118, s119⟩ := t3 hF116 39 s104 3 s105 6 s106
  clear hF116
  refine then_normal (wq_seq (wq_seq (wq_region (wl_v (blkV (moreB b (backB (upB (c.b) q)))) rfl rfl (y_load_blk blkT_block rfl s118 B109 rr) (wl_v (iv 0) rfl rfl (y_mov rfl rfl rr) (wl_nil fun F120 hF121 => ?_))))))
  obtain ⟨s122, s123, s124⟩ := t3 hF121 39 s117 3 s118 6 s119
  have s125 : F120 27 = blkV (moreB b (backB (upB (c.b) q))) := (hF121 27).trans rfl
  have s126 : F120 28 = iv 0 := (hF121 28).trans rfl
  clear hF121
  refine then_normal (wq_block (wq_loop (fun nn FF ww => ∃ (i : Nat), (i ≤ 16) ∧ nn = 16 - i ∧ FF 3 = pt p1 0 ∧ FF 6 = pt p18 0 ∧ FF 27 = blkV (moreB b (backB (upB (c.b) q))) ∧ FF 39 = undef ∧ FF 28 = iv ((i : Nat) : Int) ∧ Kept (fun _ => False) w0 ww ∧ Blk ww p1 29 (upto i (moreB b (backB (upB c.b q))) (c8M (moreB b (backB (upB c.b q))))) ∧ Stc ww p9 31 (chW c) ∧ Blk ww p18 29 (fun _ => 0) ∧ Blk ww p43 29 (upB (c.b) q)) (16 - 0) ⟨0, by omega, rfl, s123, s124, s125, s122, s126, K114, B109.first, B111, B112, B113⟩ ?_))
  rintro n130 F127 w128 ⟨i, i131, hn130, s132, s133, s134, s135, s136, K129, B137, B138, B139, B140⟩
  refine wq_seq (wq_region (wl_v (.bool (decide (((i : Nat) : Int) < 16))) rfl rfl (y_lss rfl s136 rfl rfl rr) (wl_nil fun F141 hF142 => ?_)))
  obtain ⟨s143, s144, s145, s146, s147⟩ := t5 hF142 3 s132 6 s133 27 s134 39 s135 28 s136
  have s148 : F141 29 = .bool (decide (((i : Nat) : Int) < 16)) := (hF142 29).trans rfl
  clear hF142
  refine then_normal (wq_seq ?_)
  refine wq_cond s148 (fun c149 => ?_) (fun c149 => ?_)
  ·replace c149 := of_decide_eq_true c149
   refine wq_skip (then_normal (wq_seq (wq_block (wq_seq (wq_region (wl_mv rfl rfl rfl s147 (wl_v (iv ((moreB b (backB (upB (c.b) q))) i)) rfl rfl (y_look i blkT_block rfl s145 s147 (by omega) rfl rr) (wl_v (iv ((i : Nat) : Int)) rfl rfl (y_asg rfl rfl rr) (wl_v (iv ((moreB b (backB (upB (c.b) q))) i)) rfl rfl (y_asg rfl rfl rr) (wl_nil fun F150 hF151 => ?_))))))))))
   obtain ⟨s152, s153, s154, s155, s156⟩ := t5 hF151 3 s143 6 s144 27 s145 39 s146 28 s147
   have s157 : F150 10 = iv ((i : Nat) : Int) := (hF151 10).trans rfl
   have s158 : F150 11 = iv ((moreB b (backB (upB (c.b) q))) i) := (hF151 11).trans rfl
   clear hF151
   refine then_normal (wq_region (wl_mv rfl rfl rfl s157 (wl_mv rfl rfl rfl s158 (wl_v (iv (min ((moreB b (backB (upB (c.b) q))) i) 255)) rfl rfl (y_minR rfl rfl rfl rfl rr) (wl_v (iv (c8M (moreB b (backB (upB c.b q))) i)) rfl rfl (y_maxR rfl rfl rfl (by unfold c8M; omega) rr) (wl_v (.pointer (some ⟨p1, i, none⟩)) rfl rfl (y_atR i (s := 1) rfl s152 rfl (by omega) Tryz.underlying29 (by omega) (by kernel_rfl) (by omega) rr) (wl_set_blk rfl rfl rfl rfl rfl B137 (by omega) (by kernel_rfl) fun w159 B160 k161 => ?_)))))))
   have B162 := B138.all k161 (ap15 p9 rfl)
   have B163 := B139.all k161 (ap25 p18 rfl)
   have B164 := B140.all k161 (ap50 p43 rfl)
   have K165 := K129.trans k161 (Grew.ok (S := fun _ => False) gr7 noB_le)
   refine wl_nil fun F166 hF167 => ?_
   obtain ⟨s168, s169, s170, s171, s172⟩ := t5 hF167 3 s152 6 s153 27 s154 39 s155 28 s156
   clear hF167
   refine in_normal (then_normal (wq_region (wl_v (iv ((i + 1 : Nat) : Int)) rfl rfl (y_add rfl s172 rfl (i64_n (by omega) (by omega)) rr) (wl_v (iv ((i + 1 : Nat) : Int)) rfl rfl (y_mov rfl rfl rr) (wl_nil fun F173 hF174 => ?_)))))
   obtain ⟨s175, s176, s177, s178⟩ := t4 hF174 3 s168 6 s169 27 s170 39 s171
   have s179 : F173 28 = iv ((i + 1 : Nat) : Int) := (hF174 28).trans rfl
   clear hF174
   exact then_normal ⟨(16 - (i + 1)), by omega, i + 1, by omega, rfl, s175, s176, s177, s178, s179, K165, (B160.next rfl), B162, B163, B164⟩
  ·replace c149 := of_decide_eq_false c149
   refine wq_exit (then_exit (then_exit ?_))
   have l180 : 16 = i := by omega
   subst l180
   have B181 : Blk w128 p1 29 (c8M (moreB b (backB (upB c.b q)))) := (B137.last)
   refine in_here (then_normal (wq_seq (wq_region (wl_v (blkV (c8M (moreB b (backB (upB c.b q))))) rfl rfl (y_load_blk blkT_block rfl s143 B181 rr) (wl_store_blk blkT_block rfl rfl rfl s144 rfl B139 fun w182 B183 k184 => ?_)))))
   have K188 := K129.trans k184 (Grew.ok (S := fun _ => False) gr24 noB_le)
   refine wl_v (iv 0) rfl rfl (y_asg rfl rfl rr) (wl_nil fun F189 hF190 => ?_)
   obtain ⟨s191, s192⟩ := t2 hF190 6 s144 39 s146
   have s193 : F189 7 = iv 0 := (hF190 7).trans rfl
   clear hF190
   refine then_normal (wq_ret ?_)
   exact end_2 s192 rfl (res_blk blkT_block rfl s191 B183) (res_tmp (v := iv 0) rfl s193) ⟨(by first | rw [hR, hq0] | rw [hR]), K188⟩
theorem bl_predict (k x y : Int) (c : Ch) (f : FD) (f0 f1 f2 : Value) (g : FD) (g0 g1 g2 : Value) (h : FD) (h0 h1 h2 : Value) (T_f0 : Nat → Prop) (T_f1 : Nat → Prop) (T_f2 : Nat → Prop) (T_g0 : Nat → Prop) (T_g1 : Nat → Prop) (T_g2 : Nat → Prop) (T_h0 : Nat → Prop) (T_h1 : Nat → Prop) (T_h2 : Nat → Prop) (w0 : World) (hA : ActsIn w0) (h_f0 : Byt w0 T_f0 f0 ((f).p0)) (h_f1 : Byt w0 T_f1 f1 ((f).p1)) (h_f2 : Byt w0 T_f2 f2 ((f).p2)) (h_g0 : Byt w0 T_g0 g0 ((g).p0)) (h_g1 : Byt w0 T_g1 g1 ((g).p1)) (h_g2 : Byt w0 T_g2 g2 ((g).p2)) (h_h0 : Byt w0 T_h0 h0 ((h).p0)) (h_h1 : Byt w0 T_h1 h1 ((h).p1)) (h_h2 : Byt w0 T_h2 h2 ((h).p2)) :
  Calls Tryz.prog 6 #[.agg #[.int .i64 ((f).W), .int .i64 ((f).H), f0, f1, f2], .agg #[.int .i64 ((g).W), .int .i64 ((g).H), g0, g1, g2], .agg #[.int .i64 ((h).W), .int .i64 ((h).H), h0, h1, h2], .int .i64 (k), .int .i64 (x), .int .i64 (y), .agg (chW (c)).toArray] w0 fun e w' => e = .returned (.tuple #[blkV (cpB f g h k x y c), .int .i64 (cpE f g h k x y c)]) ∧ Kept (fun _ => False) w0 w' := by
 refine calls_wq (args := [.agg #[iv (f.W), iv (f.H), f0, f1, f2], .agg #[iv (g.W), iv (g.H), g0, g1, g2], .agg #[iv (h.W), iv (h.H), h0, h1, h2], iv k, iv x, iv y, .agg (chW c).toArray]) 82 Tryz.func6 rfl rfl (Nat.le_of_ble_eq_true rfl) ?_
 have K0 := Kept.refl (fun _ => False) w0
 have g_f0 := Grew.refl w0 T_f0
 have g_f1 := Grew.refl w0 T_f1
 have g_f2 := Grew.refl w0 T_f2
 have g_g0 := Grew.refl w0 T_g0
 have g_g1 := Grew.refl w0 T_g1
 have g_g2 := Grew.refl w0 T_g2
 have g_h0 := Grew.refl w0 T_h0
 have g_h1 := Grew.refl w0 T_h1
 have g_h2 := Grew.refl w0 T_h2
 refine wq_seq (wq_region (wl_box_stc (vs := [iv (f.W), iv (f.H), f0, f1, f2]) rfl rfl rfl rfl fun p1 w2 B4 g5 k3 => ?_))
 have B16 := h_f0.all k3 Apart.none
 have B17 := h_f1.all k3 Apart.none
 have B18 := h_f2.all k3 Apart.none
 have B19 := h_g0.all k3 Apart.none
 have B20 := h_g1.all k3 Apart.none
 have B21 := h_g2.all k3 Apart.none
 have B22 := h_h0.all k3 Apart.none
 have B23 := h_h1.all k3 Apart.none
 have B24 := h_h2.all k3 Apart.none
 have K25 := K0.tr k3
 refine wl_box_stc (vs := [iv (g.W), iv (g.H), g0, g1, g2]) rfl rfl rfl rfl fun p26 w27 B29 g30 k28 => ?_
 have B42 := B16.all k28 Apart.none
 have B43 := B17.all k28 Apart.none
 have B44 := B18.all k28 Apart.none
 have B45 := B19.all k28 Apart.none
 have B46 := B20.all k28 Apart.none
 have B47 := B21.all k28 Apart.none
 have B48 := B22.all k28 Apart.none
 have B49 := B23.all k28 Apart.none
 have B50 := B24.all k28 Apart.none
 have B51 := B4.all k28 id
 have K52 := K25.tr k28
 refine wl_box_stc (vs := [iv (h.W), iv (h.H), h0, h1, h2]) rfl rfl rfl rfl fun p53 w54 B56 g57 k55 => ?_
 have B70 := B42.all k55 Apart.none
 have B71 := B43.all k55 Apart.none
 have B72 := B44.all k55 Apart.none
 have B73 := B45.all k55 Apart.none
 have B74 := B46.all k55 Apart.none
 have B75 := B47.all k55 Apart.none
 have B76 := B48.all k55 Apart.none
 have B77 := B49.all k55 Apart.none
 have B78 := B50.all k55 Apart.none
 have B79 := B51.all k55 id
 have B80 := B29.all k55 id
 have K81 := K52.tr k55
 refine wl_box_stc (vs := (chW c)) rfl rfl rfl rfl fun p82 w83 B85 g86 k84 => ?_
 have B100 := B70.all k84 Apart.none
 have B101 := B71.all k84 Apart.none
 have B102 := B72.all k84 Apart.none
 have B103 := B73.all k84 Apart.none
 have B104 := B74.all k84 Apart.none
 have B105 := B75.all k84 Apart.none
 have B106 := B76.all k84 Apart.none
 have B107 := B77.all k84 Apart.none
 have B108 := B78.all k84 Apart.none
 have B109 := B79.all k84 id
 have B110 := B80.all k84 id
 have B111 := B56.all k84 id
 have K112 := K81.tr k84
 refine wl_alloc_blk rfl rfl rfl blkT_block.2.2 fun p113 w114 e117 B115 k116 => ?_
 have g118 := onB_new (Nat.le_of_eq e117.symm)
 have gr119 : Grew w0 noB (onB p113) := Grew.new K112 g118
 clear e117 g118
 have B133 := B100.all k116 Apart.none
 have B134 := B101.all k116 Apart.none
 have B135 := B102.all k116 Apart.none
 have B136 := B103.all k116 Apart.none
 have B137 := B104.all k116 Apart.none
 have B138 := B105.all k116 Apart.none
 have B139 := B106.all k116 Apart.none
 have B140 := B107.all k116 Apart.none
 have B141 := B108.all k116 Apart.none
 have B142 := B109.all k116 id
 have B143 := B110.all k116 id
 have B144 := B111.all k116 id
 have B145 := B85.all k116 id
 have K146 := K112.tr k116
 refine wl_v (iv 0) rfl rfl (y_asg rfl rfl rr) (wl_nil fun F147 hF148 => ?_)
 have s152 : F147 3 = iv k := (hF148 3).trans rfl
 have s153 : F147 4 = iv x := (hF148 4).trans rfl
 have s154 : F147 5 = iv y := (hF148 5).trans rfl
 have s156 : F147 82 = undef := (hF148 82).trans rfl
 have s157 : F147 7 = pt p1 0 := (hF148 7).trans rfl
 have s158 : F147 8 = pt p26 0 := (hF148 8).trans rfl
 have s159 : F147 9 = pt p53 0 := (hF148 9).trans rfl
 have s160 : F147 13 = pt p82 0 := (hF148 13).trans rfl
 have s161 : F147 14 = pt p113 0 := (hF148 14).trans rfl
 clear hF148
 refine then_normal (wq_scope (wq_seq (wq_region (wl_v (pt p82 0) rfl rfl (y_fieldR (n := 1) rfl s160 Tryz.underlying31 rfl (by kernel_rfl) (by decide) rfl rr) (wl_v (iv (c.m)) rfl rfl (y_ld_stc rfl rfl Tryz.underlying3 B145 rfl rfl rr) (wl_cs rfl rfl rfl rfl rfl (fun _ _ => by kernel_rfl) (vsC rfl vsN) (bl_vectors (c.m)  _ (hA.all K146)  ) fun w163 k164 => ?_))))))
 have B165 := B133.all k164 Apart.none
 have B166 := B134.all k164 Apart.none
 have B167 := B135.all k164 Apart.none
 have B168 := B136.all k164 Apart.none
 have B169 := B137.all k164 Apart.none
 have B170 := B138.all k164 Apart.none
 have B171 := B139.all k164 Apart.none
 have B172 := B140.all k164 Apart.none
 have B173 := B141.all k164 Apart.none
 have B174 := B142.all k164 id
 have B175 := B143.all k164 id
 have B176 := B144.all k164 id
 have B177 := B145.all k164 id
 have B178 := B115.all k164 id
 have K179 := K146.tr k164
 refine wl_v (.tuple #[.bool (pastB (c.m)), .bool (nextB (c.m))]) rfl rfl (y_mov rfl rfl rr) (wl_v (.bool (pastB (c.m))) rfl rfl (y_ext rfl rfl rfl rr) (wl_v (.bool (nextB (c.m))) rfl rfl (y_ext rfl rfl rfl rr) (wl_v (.bool (pastB (c.m))) rfl rfl (y_asg rfl rfl rr) (wl_v (.bool (nextB (c.m))) rfl rfl (y_asg rfl rfl rr) (wl_nil fun F180 hF181 => ?_)))))
 obtain ⟨s185, s186, s187, s189, s190, s191, s192, s193, s194⟩ := t9 hF181 3 s152 4 s153 5 s154 82 s156 7 s157 8 s158 9 s159 13 s160 14 s161
 have s196 : F180 16 = .bool (pastB (c.m)) := (hF181 16).trans rfl
 have s197 : F180 17 = .bool (nextB (c.m)) := (hF181 17).trans rfl
 clear hF181
 refine then_normal (wq_seq (wq_region (wl_alloc_blk rfl rfl rfl blkT_block.2.2 fun p198 w199 e202 B200 k201 => ?_)))
 have g203 := onB_new (Nat.le_of_eq e202.symm)
 have gr204 : Grew w0 noB (onB p198) := Grew.new K179 g203
 have ap211 : Apart (onB p198) T_h0 := Apart.new g203 B171.live
 have ap212 : Apart (onB p198) T_h1 := Apart.new g203 B172.live
 have ap213 : Apart (onB p198) T_h2 := Apart.new g203 B173.live
 have ap216 : Apart (onB p198) (onB p53) := Apart.new g203 (onB_live B176.lt)
 have ap217 : Apart (onB p198) (onB p82) := Apart.new g203 (onB_live B177.lt)
 have ap218 : Apart (onB p198) (onB p113) := Apart.new g203 (onB_live B178.lt)
 clear e202 g203
 have B219 := B165.all k201 Apart.none
 have B220 := B166.all k201 Apart.none
 have B221 := B167.all k201 Apart.none
 have B222 := B168.all k201 Apart.none
 have B223 := B169.all k201 Apart.none
 have B224 := B170.all k201 Apart.none
 have B225 := B171.all k201 Apart.none
 have B226 := B172.all k201 Apart.none
 have B227 := B173.all k201 Apart.none
 have B228 := B174.all k201 id
 have B229 := B175.all k201 id
 have B230 := B176.all k201 id
 have B231 := B177.all k201 id
 have B232 := B178.all k201 id
 have K233 := K179.tr k201
 refine wl_alloc_blk rfl rfl rfl blkT_block.2.2 fun p234 w235 e238 B236 k237 => ?_
 have g239 := onB_new (Nat.le_of_eq e238.symm)
 have gr240 : Grew w0 noB (onB p234) := Grew.new K233 g239
 have ap254 : Apart (onB p234) (onB p113) := Apart.new g239 (onB_live B232.lt)
 have ap255 : Apart (onB p234) (onB p198) := Apart.new g239 (onB_live B200.lt)
 clear e238 g239
 have B256 := B219.all k237 Apart.none
 have B257 := B220.all k237 Apart.none
 have B258 := B221.all k237 Apart.none
 have B259 := B222.all k237 Apart.none
 have B260 := B223.all k237 Apart.none
 have B261 := B224.all k237 Apart.none
 have B262 := B225.all k237 Apart.none
 have B263 := B226.all k237 Apart.none
 have B264 := B227.all k237 Apart.none
 have B265 := B228.all k237 id
 have B266 := B229.all k237 id
 have B267 := B230.all k237 id
 have B268 := B231.all k237 id
 have B269 := B232.all k237 id
 have B270 := B200.all k237 id
 have K271 := K233.tr k237
 refine wl_nil fun F272 hF273 => ?_
 obtain ⟨s277, s278, s279, s281, s282, s283, s284, s285, s286, s288, s289⟩ := t11 hF273 3 s185 4 s186 5 s187 82 s189 7 s190 8 s191 9 s192 13 s193 14 s194 16 s196 17 s197
 have s290 : F272 18 = pt p198 0 := (hF273 18).trans rfl
 have s291 : F272 19 = pt p234 0 := (hF273 19).trans rfl
 clear hF273
 refine then_normal (wq_seq (wq_region (wl_v (iv 120) rfl rfl (y_asg rfl rfl rr) (wl_nil fun F292 hF293 => ?_))))
 obtain ⟨s297, s298, s299, s301, s302, s303, s304, s305, s306, s308, s309, s310, s311⟩ := t13 hF293 3 s277 4 s278 5 s279 82 s281 7 s282 8 s283 9 s284 13 s285 14 s286 16 s288 17 s289 18 s290 19 s291
 have s312 : F292 20 = iv 120 := (hF293 20).trans rfl
 clear hF293
 refine then_normal (wq_seq (wq_seq ?_))
 by_cases d313 : 0 ≤ (c.m) ∧ (c.m) < 7
 ·skip
  refine wq_region (wl_v (pt p82 0) rfl rfl (y_fieldR (n := 1) rfl s305 Tryz.underlying31 rfl (by kernel_rfl) (by decide) rfl rr) (wl_v (iv (c.m)) rfl rfl (y_ld_stc rfl rfl Tryz.underlying3 B268 rfl rfl rr) (wl_call (R := fun v_ w_ => v_ = .bool true ∧ Kept (fun _ => False) w235 w_) rfl rfl (y_cs rfl rfl rfl (fun _ _ => by kernel_rfl) (ev_func _) (vsC rfl vsN) (bl_known (c.m)  _   ) (fun e_ w_ h_ => ⟨_, h_.1, (congrArg Value.bool (decide_eq_true d313)), h_.2⟩)) ?_)))
  rintro _ w314 ⟨rfl, k315⟩
  have B316 := B256.all k315 Apart.none
  have B317 := B257.all k315 Apart.none
  have B318 := B258.all k315 Apart.none
  have B319 := B259.all k315 Apart.none
  have B320 := B260.all k315 Apart.none
  have B321 := B261.all k315 Apart.none
  have B322 := B262.all k315 Apart.none
  have B323 := B263.all k315 Apart.none
  have B324 := B264.all k315 Apart.none
  have B325 := B265.all k315 id
  have B326 := B266.all k315 id
  have B327 := B267.all k315 id
  have B328 := B268.all k315 id
  have B329 := B269.all k315 id
  have B330 := B270.all k315 id
  have B331 := B236.all k315 id
  have K332 := K271.tr k315
  refine wl_v (.bool false) rfl rfl (y_not rfl rfl rfl rr) (wl_nil fun F333 hF334 => ?_)
  obtain ⟨s338, s339, s340, s342, s343, s344, s345, s346, s347, s349, s350, s351, s352⟩ := t13 hF334 3 s297 4 s298 5 s299 82 s301 7 s302 8 s303 9 s304 13 s305 14 s306 16 s308 17 s309 18 s310 19 s311
  have s354 : F333 30 = .bool false := (hF334 30).trans rfl
  clear hF334
  refine then_normal ?_
  refine wq_cond (t := false) s354 (fun e => by cases e) (fun _ => ?_)
  refine wq_skip (then_normal (wq_seq (wq_seq ?_)))
  have hm7 : 0 ≤ c.m ∧ c.m < 7 := by first | assumption | (apply Decidable.byContradiction; assumption)
  refine wq_region (wl_mv rfl rfl rfl s349 (wl_nil fun F355 hF356 => ?_))
  obtain ⟨s360, s361, s362, s364, s365, s366, s367, s368, s369, s371, s372, s373, s374⟩ := t13 hF356 3 s338 4 s339 5 s340 82 s342 7 s343 8 s344 9 s345 13 s346 14 s347 16 s349 17 s350 18 s351 19 s352
  have s376 : F355 31 = .bool (pastB (c.m)) := (hF356 31).trans rfl
  clear hF356
  refine then_normal ?_
  refine wq_cond s376 (fun c377 => ?_) (fun c377 => ?_)
  ·skip
   refine wq_seq (wq_region (wl_v (.agg #[iv (g.W), iv (g.H), g0, g1, g2]) rfl rfl (y_load_stc stcT_frame rfl s366 B326 rr) (wl_mv rfl rfl rfl s360 (wl_mv rfl rfl rfl s361 (wl_mv rfl rfl rfl s362 (wl_v (pt p82 1) rfl rfl (y_fieldR (n := 2) rfl s368 Tryz.underlying31 rfl (by kernel_rfl) (by decide) rfl rr) (wl_v (.agg #[iv (c.px), iv (c.py)]) rfl rfl (y_ldPart (n := 2) stcT_vector rfl rfl B328 (Nat.le_of_ble_eq_true rfl) rfl rr) (wl_cs rfl rfl rfl rfl rfl (fun _ _ => by kernel_rfl) (vsC rfl (vsC rfl (vsC rfl (vsC rfl (vsC rfl vsN))))) (mo_predict k x y (c.px) (c.py) g g0 g1 g2 T_g0 T_g1 T_g2 _  B319 B320 B321 ) fun w378 k379 => ?_))))))))
   have B386 := B322.all k379 Apart.none
   have B387 := B323.all k379 Apart.none
   have B388 := B324.all k379 Apart.none
   have B391 := B327.all k379 id
   have B392 := B328.all k379 id
   have B393 := B329.all k379 id
   have B394 := B330.all k379 id
   have B395 := B331.all k379 id
   have K396 := K332.tr k379
   refine wl_v (.tuple #[blkV (mvB g k x y (c.px) (c.py)), iv (mvE g k x y (c.px) (c.py))]) rfl rfl (y_mov rfl rfl rr) (wl_v (blkV (mvB g k x y (c.px) (c.py))) rfl rfl (y_ext rfl rfl rfl rr) (wl_v (iv (mvE g k x y (c.px) (c.py))) rfl rfl (y_ext rfl rfl rfl rr) (wl_store_blk blkT_block rfl rfl rfl s373 rfl B394 fun w397 B398 k399 => ?_)))
   have B406 := B386.all k399 ap211.symm
   have B407 := B387.all k399 ap212.symm
   have B408 := B388.all k399 ap213.symm
   have B411 := B391.all k399 (ap216.symm p53 rfl)
   have B412 := B392.all k399 (ap217.symm p82 rfl)
   have B413 := B393.all k399 (ap218.symm p113 rfl)
   have B414 := B395.all k399 (ap255 p234 rfl)
   have K415 := K396.trans k399 (Grew.ok (S := fun _ => False) gr204 noB_le)
   refine wl_v (iv (mvE g k x y (c.px) (c.py))) rfl rfl (y_asg rfl rfl rr) (wl_nil fun F416 hF417 => ?_)
   obtain ⟨s421, s422, s423, s425, s428, s429, s430, s432, s433, s434, s435⟩ := t11 hF417 3 s360 4 s361 5 s362 82 s364 9 s367 13 s368 14 s369 16 s371 17 s372 18 s373 19 s374
   have s438 : F416 20 = iv (mvE g k x y (c.px) (c.py)) := (hF417 20).trans rfl
   clear hF417
   refine then_normal (wq_seq (wq_region (wl_mv rfl rfl rfl s438 (wl_v (.bool (decide ((mvE g k x y (c.px) (c.py)) ≠ 0))) rfl rfl (y_neqI rfl rfl rfl rfl rr) (wl_nil fun F439 hF440 => ?_)))))
   obtain ⟨s444, s445, s446, s448, s451, s452, s453, s455, s456, s457, s458, s461⟩ := t12 hF440 3 s421 4 s422 5 s423 82 s425 9 s428 13 s429 14 s430 16 s432 17 s433 18 s434 19 s435 20 s438
   have s462 : F439 43 = .bool (decide ((mvE g k x y (c.px) (c.py)) ≠ 0)) := (hF440 43).trans rfl
   clear hF440
   refine then_normal ?_
   refine wq_cond s462 (fun c463 => ?_) (fun c463 => ?_)
   ·replace c463 := of_decide_eq_true c463
    refine wq_goto (then_goto ?_)
    refine jump_goto ⟨_, rfl, ?_⟩
    refine wq_seq (wq_skip (then_normal (wq_seq ?_)))
    first | have hR := cp_bad (f := f) (p := g) (n := h) (k := k) (x := x) (y := y) (c := c) (by omega) | have hR := cp_pastE (f := f) (p := g) (n := h) (k := k) (x := x) (y := y) (c := c) (past_t (by assumption)) (by assumption) | have hR := cp_nextE (f := f) (p := g) (n := h) (k := k) (x := x) (y := y) (c := c) (by have a1 := past_f (m := c.m) (by assumption); have a2 := next_t (m := c.m) (by assumption); omega) (by assumption) | have hR := cp_both2 (f := f) (p := g) (n := h) (k := k) (x := x) (y := y) (c := c) (by have a1 := past_t (m := c.m) (by assumption); have a2 := next_t (m := c.m) (by assumption); omega) (by first | assumption | (apply Decidable.byContradiction; assumption)) (by assumption)
    refine wq_region (wl_v (blkV (fun _ => 0)) rfl rfl (y_buildR (cells := (arrL 16 (fun _ => 0)).toArray) rfl (by kernel_rfl) rfl rr) (wl_mv rfl rfl rfl s461 (wl_store_blk blkT_block rfl rfl rfl s453 rfl B413 fun w464 B465 k466 => ?_)))
    have K482 := K415.trans k466 (Grew.ok (S := fun _ => False) gr119 noB_le)
    refine wl_v (iv (mvE g k x y (c.px) (c.py))) rfl rfl (y_asg rfl rfl rr) (wl_nil fun F483 hF484 => ?_)
    obtain ⟨s485, s486⟩ := t2 hF484 82 s448 14 s453
    have s487 : F483 15 = iv (mvE g k x y (c.px) (c.py)) := (hF484 15).trans rfl
    clear hF484
    refine then_normal (wq_ret (stay_ret ?_))
    exact end_2 s485 rfl (res_blk blkT_block rfl s486 B465) (res_tmp (v := iv (mvE g k x y (c.px) (c.py))) rfl s487) ⟨(by first | rw [hR.1, hR.2, he0] | rw [hR.1, hR.2]), K482⟩
   ·replace c463 := of_decide_eq_false c463
    refine wq_skip (then_normal (wq_seq (wq_seq (wq_region (wl_mv rfl rfl rfl s456 (wl_nil fun F488 hF489 => ?_))))))
    obtain ⟨s493, s494, s495, s497, s500, s501, s502, s504, s505, s506, s507⟩ := t11 hF489 3 s444 4 s445 5 s446 82 s448 9 s451 13 s452 14 s453 16 s455 17 s456 18 s457 19 s458
    have s511 : F488 44 = .bool (nextB (c.m)) := (hF489 44).trans rfl
    clear hF489
    refine then_normal ?_
    refine wq_cond s511 (fun c512 => ?_) (fun c512 => ?_)
    ·skip
     refine wq_seq (wq_region (wl_v (.agg #[iv (h.W), iv (h.H), h0, h1, h2]) rfl rfl (y_load_stc stcT_frame rfl s500 B411 rr) (wl_mv rfl rfl rfl s493 (wl_mv rfl rfl rfl s494 (wl_mv rfl rfl rfl s495 (wl_v (pt p82 3) rfl rfl (y_fieldR (n := 2) rfl s501 Tryz.underlying31 rfl (by kernel_rfl) (by decide) rfl rr) (wl_v (.agg #[iv (c.nx), iv (c.ny)]) rfl rfl (y_ldPart (n := 2) stcT_vector rfl rfl B412 (Nat.le_of_ble_eq_true rfl) rfl rr) (wl_cs rfl rfl rfl rfl rfl (fun _ _ => by kernel_rfl) (vsC rfl (vsC rfl (vsC rfl (vsC rfl (vsC rfl vsN))))) (mo_predict k x y (c.nx) (c.ny) h h0 h1 h2 T_h0 T_h1 T_h2 _  B406 B407 B408 ) fun w513 k514 => ?_))))))))
     have B528 := B413.all k514 id
     have B529 := B398.all k514 id
     have B530 := B414.all k514 id
     have K531 := K415.tr k514
     refine wl_v (.tuple #[blkV (mvB h k x y (c.nx) (c.ny)), iv (mvE h k x y (c.nx) (c.ny))]) rfl rfl (y_mov rfl rfl rr) (wl_v (blkV (mvB h k x y (c.nx) (c.ny))) rfl rfl (y_ext rfl rfl rfl rr) (wl_v (iv (mvE h k x y (c.nx) (c.ny))) rfl rfl (y_ext rfl rfl rfl rr) (wl_store_blk blkT_block rfl rfl rfl s507 rfl B530 fun w532 B533 k534 => ?_)))
     have B548 := B528.all k534 (ap254.symm p113 rfl)
     have B549 := B529.all k534 (ap255.symm p198 rfl)
     have K550 := K531.trans k534 (Grew.ok (S := fun _ => False) gr240 noB_le)
     refine wl_v (iv (mvE h k x y (c.nx) (c.ny))) rfl rfl (y_asg rfl rfl rr) (wl_nil fun F551 hF552 => ?_)
     obtain ⟨s560, s565, s567, s568, s569, s570⟩ := t6 hF552 82 s497 14 s502 16 s504 17 s505 18 s506 19 s507
     have s575 : F551 20 = iv (mvE h k x y (c.nx) (c.ny)) := (hF552 20).trans rfl
     clear hF552
     refine then_normal (wq_seq (wq_region (wl_mv rfl rfl rfl s575 (wl_v (.bool (decide ((mvE h k x y (c.nx) (c.ny)) ≠ 0))) rfl rfl (y_neqI rfl rfl rfl rfl rr) (wl_nil fun F576 hF577 => ?_)))))
     obtain ⟨s585, s590, s592, s593, s594, s595, s600⟩ := t7 hF577 82 s560 14 s565 16 s567 17 s568 18 s569 19 s570 20 s575
     have s601 : F576 56 = .bool (decide ((mvE h k x y (c.nx) (c.ny)) ≠ 0)) := (hF577 56).trans rfl
     clear hF577
     refine then_normal ?_
     refine wq_cond s601 (fun c602 => ?_) (fun c602 => ?_)
     ·replace c602 := of_decide_eq_true c602
      refine wq_goto (then_goto ?_)
      refine jump_goto ⟨_, rfl, ?_⟩
      refine wq_seq (wq_skip (then_normal (wq_seq ?_)))
      first | have hR := cp_bad (f := f) (p := g) (n := h) (k := k) (x := x) (y := y) (c := c) (by omega) | have hR := cp_pastE (f := f) (p := g) (n := h) (k := k) (x := x) (y := y) (c := c) (past_t (by assumption)) (by assumption) | have hR := cp_nextE (f := f) (p := g) (n := h) (k := k) (x := x) (y := y) (c := c) (by have a1 := past_f (m := c.m) (by assumption); have a2 := next_t (m := c.m) (by assumption); omega) (by assumption) | have hR := cp_both2 (f := f) (p := g) (n := h) (k := k) (x := x) (y := y) (c := c) (by have a1 := past_t (m := c.m) (by assumption); have a2 := next_t (m := c.m) (by assumption); omega) (by first | assumption | (apply Decidable.byContradiction; assumption)) (by assumption)
      refine wq_region (wl_v (blkV (fun _ => 0)) rfl rfl (y_buildR (cells := (arrL 16 (fun _ => 0)).toArray) rfl (by kernel_rfl) rfl rr) (wl_mv rfl rfl rfl s600 (wl_store_blk blkT_block rfl rfl rfl s590 rfl B548 fun w603 B604 k605 => ?_)))
      have K621 := K550.trans k605 (Grew.ok (S := fun _ => False) gr119 noB_le)
      refine wl_v (iv (mvE h k x y (c.nx) (c.ny))) rfl rfl (y_asg rfl rfl rr) (wl_nil fun F622 hF623 => ?_)
      obtain ⟨s624, s625⟩ := t2 hF623 82 s585 14 s590
      have s626 : F622 15 = iv (mvE h k x y (c.nx) (c.ny)) := (hF623 15).trans rfl
      clear hF623
      refine then_normal (wq_ret (stay_ret ?_))
      exact end_2 s624 rfl (res_blk blkT_block rfl s625 B604) (res_tmp (v := iv (mvE h k x y (c.nx) (c.ny))) rfl s626) ⟨(by first | rw [hR.1, hR.2, he0] | rw [hR.1, hR.2]), K621⟩
     ·replace c602 := of_decide_eq_false c602
      refine wq_skip (then_normal (wq_seq (wq_block (wq_seq (wq_region (wl_v (.bool true) rfl rfl (y_mov rfl (Eq.trans s592 (congrArg Value.bool c377)) rr) (wl_v (.bool true) rfl rfl (y_mov rfl rfl rr) (wl_vw (.bool true) 1 true 59 rfl rfl rfl rfl rfl (y_mov rfl (Eq.trans s593 (congrArg Value.bool c512)) rr) (wl_v (.bool true) rfl rfl (y_pickT rfl rfl rfl rr) (wl_v (.bool true) rfl rfl (y_asg rfl rfl rr) (wl_nil fun F627 hF628 => ?_)))))))))))
      obtain ⟨s632, s635, s638, s639⟩ := t4 hF628 82 s585 14 s590 18 s594 19 s595
      have s640 : F627 57 = .bool true := (hF628 57).trans rfl
      clear hF628
      refine then_normal ?_
      refine wq_cond (t := true) s640 (fun _ => ?_) (fun e => by cases e)
      refine wq_seq ?_
      have hR := cp_both (f := f) (p := g) (n := h) (k := k) (x := x) (y := y) (c := c) (by have a1 := past_t (m := c.m) (by assumption); have a2 := next_t (m := c.m) (by assumption); omega) (by first | assumption | (apply Decidable.byContradiction; assumption)) (by first | assumption | (apply Decidable.byContradiction; assumption))
      refine wq_region (wl_v (blkV (mvB g k x y (c.px) (c.py))) rfl rfl (y_load_blk blkT_block rfl s638 B549 rr) (wl_v (blkV (mvB h k x y (c.nx) (c.ny))) rfl rfl (y_load_blk blkT_block rfl s639 B533 rr) (wl_cs rfl rfl rfl rfl rfl (fun _ _ => by kernel_rfl) (vsC rfl (vsC rfl vsN)) (mo_both (mvB g k x y (c.px) (c.py)) (mvB h k x y (c.nx) (c.ny))  _   ) fun w641 k642 => ?_)))
      have B656 := B548.all k642 id
      have K659 := K550.tr k642
      refine wl_store_blk blkT_block rfl rfl rfl s635 rfl B656 fun w660 B661 k662 => ?_
      have K678 := K659.trans k662 (Grew.ok (S := fun _ => False) gr119 noB_le)
      refine wl_v (iv 0) rfl rfl (y_asg rfl rfl rr) (wl_nil fun F679 hF680 => ?_)
      obtain ⟨s681, s682⟩ := t2 hF680 82 s632 14 s635
      have s683 : F679 15 = iv 0 := (hF680 15).trans rfl
      clear hF680
      refine then_normal (wq_ret (in_ret (then_ret (jump_ret ?_))))
      exact end_2 s681 rfl (res_blk blkT_block rfl s682 B661) (res_tmp (v := iv 0) rfl s683) ⟨(by first | rw [hR.1, hR.2, he0] | rw [hR.1, hR.2]), K678⟩
    ·skip
     refine wq_skip (then_normal (wq_seq (wq_block (wq_seq (wq_region (wl_v (.bool true) rfl rfl (y_mov rfl (Eq.trans s504 (congrArg Value.bool c377)) rr) (wl_v (.bool true) rfl rfl (y_mov rfl rfl rr) (wl_vw (.bool false) 1 true 59 rfl rfl rfl rfl rfl (y_mov rfl (Eq.trans s505 (congrArg Value.bool c512)) rr) (wl_v (.bool false) rfl rfl (y_pickT rfl rfl rfl rr) (wl_v (.bool false) rfl rfl (y_asg rfl rfl rr) (wl_nil fun F684 hF685 => ?_)))))))))))
     obtain ⟨s689, s692, s693, s695⟩ := t4 hF685 82 s497 14 s502 16 s504 18 s506
     have s697 : F684 57 = .bool false := (hF685 57).trans rfl
     clear hF685
     refine then_normal ?_
     refine wq_cond (t := false) s697 (fun e => by cases e) (fun _ => ?_)
     refine wq_seq (wq_region (wl_v (.bool true) rfl rfl (y_mov rfl (Eq.trans s693 (congrArg Value.bool c377)) rr) (wl_v (.bool true) rfl rfl (y_asg rfl rfl rr) (wl_nil fun F698 hF699 => ?_))))
     obtain ⟨s703, s706, s708⟩ := t3 hF699 82 s689 14 s692 18 s695
     have s710 : F698 65 = .bool true := (hF699 65).trans rfl
     clear hF699
     refine then_normal ?_
     refine wq_cond (t := true) s710 (fun _ => ?_) (fun e => by cases e)
     refine wq_seq ?_
     have hR := cp_past (f := f) (p := g) (n := h) (k := k) (x := x) (y := y) (c := c) (by have a1 := past_t (m := c.m) (by assumption); have a2 := next_f (m := c.m) (by assumption); omega)
     have he0 := show mvE g k x y c.px c.py = 0 from (by first | assumption | (apply Decidable.byContradiction; assumption))
     refine wq_region (wl_v (blkV (mvB g k x y (c.px) (c.py))) rfl rfl (y_load_blk blkT_block rfl s708 B398 rr) (wl_store_blk blkT_block rfl rfl rfl s706 rfl B413 fun w711 B712 k713 => ?_))
     have K729 := K415.trans k713 (Grew.ok (S := fun _ => False) gr119 noB_le)
     refine wl_v (iv 0) rfl rfl (y_asg rfl rfl rr) (wl_nil fun F730 hF731 => ?_)
     obtain ⟨s732, s733⟩ := t2 hF731 82 s703 14 s706
     have s734 : F730 15 = iv 0 := (hF731 15).trans rfl
     clear hF731
     refine then_normal (wq_ret (in_ret (then_ret (jump_ret ?_))))
     exact end_2 s732 rfl (res_blk blkT_block rfl s733 B712) (res_tmp (v := iv 0) rfl s734) ⟨(by first | rw [hR.1, hR.2, he0] | rw [hR.1, hR.2]), K729⟩
  ·skip
   refine wq_skip (then_normal (wq_seq (wq_seq (wq_region (wl_mv rfl rfl rfl s372 (wl_nil fun F735 hF736 => ?_))))))
   obtain ⟨s740, s741, s742, s744, s745, s747, s748, s749, s751, s752, s754⟩ := t11 hF736 3 s360 4 s361 5 s362 82 s364 7 s365 9 s367 13 s368 14 s369 16 s371 17 s372 19 s374
   have s757 : F735 44 = .bool (nextB (c.m)) := (hF736 44).trans rfl
   clear hF736
   refine then_normal ?_
   refine wq_cond s757 (fun c758 => ?_) (fun c758 => ?_)
   ·skip
    refine wq_seq (wq_region (wl_v (.agg #[iv (h.W), iv (h.H), h0, h1, h2]) rfl rfl (y_load_stc stcT_frame rfl s747 B327 rr) (wl_mv rfl rfl rfl s740 (wl_mv rfl rfl rfl s741 (wl_mv rfl rfl rfl s742 (wl_v (pt p82 3) rfl rfl (y_fieldR (n := 2) rfl s748 Tryz.underlying31 rfl (by kernel_rfl) (by decide) rfl rr) (wl_v (.agg #[iv (c.nx), iv (c.ny)]) rfl rfl (y_ldPart (n := 2) stcT_vector rfl rfl B328 (Nat.le_of_ble_eq_true rfl) rfl rr) (wl_cs rfl rfl rfl rfl rfl (fun _ _ => by kernel_rfl) (vsC rfl (vsC rfl (vsC rfl (vsC rfl (vsC rfl vsN))))) (mo_predict k x y (c.nx) (c.ny) h h0 h1 h2 T_h0 T_h1 T_h2 _  B322 B323 B324 ) fun w759 k760 => ?_))))))))
    have B774 := B329.all k760 id
    have B776 := B331.all k760 id
    have K777 := K332.tr k760
    refine wl_v (.tuple #[blkV (mvB h k x y (c.nx) (c.ny)), iv (mvE h k x y (c.nx) (c.ny))]) rfl rfl (y_mov rfl rfl rr) (wl_v (blkV (mvB h k x y (c.nx) (c.ny))) rfl rfl (y_ext rfl rfl rfl rr) (wl_v (iv (mvE h k x y (c.nx) (c.ny))) rfl rfl (y_ext rfl rfl rfl rr) (wl_store_blk blkT_block rfl rfl rfl s754 rfl B776 fun w778 B779 k780 => ?_)))
    have B794 := B774.all k780 (ap254.symm p113 rfl)
    have K796 := K777.trans k780 (Grew.ok (S := fun _ => False) gr240 noB_le)
    refine wl_v (iv (mvE h k x y (c.nx) (c.ny))) rfl rfl (y_asg rfl rfl rr) (wl_nil fun F797 hF798 => ?_)
    obtain ⟨s806, s811, s813, s814, s816⟩ := t5 hF798 82 s744 14 s749 16 s751 17 s752 19 s754
    have s820 : F797 20 = iv (mvE h k x y (c.nx) (c.ny)) := (hF798 20).trans rfl
    clear hF798
    refine then_normal (wq_seq (wq_region (wl_mv rfl rfl rfl s820 (wl_v (.bool (decide ((mvE h k x y (c.nx) (c.ny)) ≠ 0))) rfl rfl (y_neqI rfl rfl rfl rfl rr) (wl_nil fun F821 hF822 => ?_)))))
    obtain ⟨s830, s835, s837, s838, s840, s844⟩ := t6 hF822 82 s806 14 s811 16 s813 17 s814 19 s816 20 s820
    have s845 : F821 56 = .bool (decide ((mvE h k x y (c.nx) (c.ny)) ≠ 0)) := (hF822 56).trans rfl
    clear hF822
    refine then_normal ?_
    refine wq_cond s845 (fun c846 => ?_) (fun c846 => ?_)
    ·replace c846 := of_decide_eq_true c846
     refine wq_goto (then_goto ?_)
     refine jump_goto ⟨_, rfl, ?_⟩
     refine wq_seq (wq_skip (then_normal (wq_seq ?_)))
     first | have hR := cp_bad (f := f) (p := g) (n := h) (k := k) (x := x) (y := y) (c := c) (by omega) | have hR := cp_pastE (f := f) (p := g) (n := h) (k := k) (x := x) (y := y) (c := c) (past_t (by assumption)) (by assumption) | have hR := cp_nextE (f := f) (p := g) (n := h) (k := k) (x := x) (y := y) (c := c) (by have a1 := past_f (m := c.m) (by assumption); have a2 := next_t (m := c.m) (by assumption); omega) (by assumption) | have hR := cp_both2 (f := f) (p := g) (n := h) (k := k) (x := x) (y := y) (c := c) (by have a1 := past_t (m := c.m) (by assumption); have a2 := next_t (m := c.m) (by assumption); omega) (by first | assumption | (apply Decidable.byContradiction; assumption)) (by assumption)
     refine wq_region (wl_v (blkV (fun _ => 0)) rfl rfl (y_buildR (cells := (arrL 16 (fun _ => 0)).toArray) rfl (by kernel_rfl) rfl rr) (wl_mv rfl rfl rfl s844 (wl_store_blk blkT_block rfl rfl rfl s835 rfl B794 fun w847 B848 k849 => ?_)))
     have K865 := K796.trans k849 (Grew.ok (S := fun _ => False) gr119 noB_le)
     refine wl_v (iv (mvE h k x y (c.nx) (c.ny))) rfl rfl (y_asg rfl rfl rr) (wl_nil fun F866 hF867 => ?_)
     obtain ⟨s868, s869⟩ := t2 hF867 82 s830 14 s835
     have s870 : F866 15 = iv (mvE h k x y (c.nx) (c.ny)) := (hF867 15).trans rfl
     clear hF867
     refine then_normal (wq_ret (stay_ret ?_))
     exact end_2 s868 rfl (res_blk blkT_block rfl s869 B848) (res_tmp (v := iv (mvE h k x y (c.nx) (c.ny))) rfl s870) ⟨(by first | rw [hR.1, hR.2, he0] | rw [hR.1, hR.2]), K865⟩
    ·replace c846 := of_decide_eq_false c846
     refine wq_skip (then_normal (wq_seq (wq_block (wq_seq (wq_region (wl_v (.bool false) rfl rfl (y_mov rfl (Eq.trans s837 (congrArg Value.bool c377)) rr) (wl_v (.bool false) rfl rfl (y_mov rfl rfl rr) (wl_unless 1 true 59 rfl rfl rfl (Or.inl rfl) rfl (wl_v (.bool false) rfl rfl (y_pickF rfl rfl rfl rr) (wl_v (.bool false) rfl rfl (y_asg rfl rfl rr) (wl_nil fun F871 hF872 => ?_)))))))))))
     obtain ⟨s876, s879, s880, s881, s883⟩ := t5 hF872 82 s830 14 s835 16 s837 17 s838 19 s840
     have s884 : F871 57 = .bool false := (hF872 57).trans rfl
     clear hF872
     refine then_normal ?_
     refine wq_cond (t := false) s884 (fun e => by cases e) (fun _ => ?_)
     refine wq_seq (wq_region (wl_v (.bool false) rfl rfl (y_mov rfl (Eq.trans s880 (congrArg Value.bool c377)) rr) (wl_v (.bool false) rfl rfl (y_asg rfl rfl rr) (wl_nil fun F885 hF886 => ?_))))
     obtain ⟨s890, s893, s894, s896⟩ := t4 hF886 82 s876 14 s879 17 s881 19 s883
     have s897 : F885 65 = .bool false := (hF886 65).trans rfl
     clear hF886
     refine then_normal ?_
     refine wq_cond (t := false) s897 (fun e => by cases e) (fun _ => ?_)
     refine wq_seq (wq_region (wl_v (.bool true) rfl rfl (y_mov rfl (Eq.trans s894 (congrArg Value.bool c758)) rr) (wl_v (.bool true) rfl rfl (y_asg rfl rfl rr) (wl_nil fun F898 hF899 => ?_))))
     obtain ⟨s903, s906, s907⟩ := t3 hF899 82 s890 14 s893 19 s896
     have s908 : F898 68 = .bool true := (hF899 68).trans rfl
     clear hF899
     refine then_normal ?_
     refine wq_cond (t := true) s908 (fun _ => ?_) (fun e => by cases e)
     refine wq_seq ?_
     have hR := cp_next (f := f) (p := g) (n := h) (k := k) (x := x) (y := y) (c := c) (by have a1 := past_f (m := c.m) (by assumption); have a2 := next_t (m := c.m) (by assumption); omega)
     have he0 := show mvE h k x y c.nx c.ny = 0 from (by first | assumption | (apply Decidable.byContradiction; assumption))
     refine wq_region (wl_v (blkV (mvB h k x y (c.nx) (c.ny))) rfl rfl (y_load_blk blkT_block rfl s907 B779 rr) (wl_store_blk blkT_block rfl rfl rfl s906 rfl B794 fun w909 B910 k911 => ?_))
     have K927 := K796.trans k911 (Grew.ok (S := fun _ => False) gr119 noB_le)
     refine wl_v (iv 0) rfl rfl (y_asg rfl rfl rr) (wl_nil fun F928 hF929 => ?_)
     obtain ⟨s930, s931⟩ := t2 hF929 82 s903 14 s906
     have s932 : F928 15 = iv 0 := (hF929 15).trans rfl
     clear hF929
     refine then_normal (wq_ret (in_ret (then_ret (jump_ret ?_))))
     exact end_2 s930 rfl (res_blk blkT_block rfl s931 B910) (res_tmp (v := iv 0) rfl s932) ⟨(by first | rw [hR.1, hR.2, he0] | rw [hR.1, hR.2]), K927⟩
   ·skip
    refine wq_skip (then_normal (wq_seq (wq_block (wq_seq (wq_region (wl_v (.bool false) rfl rfl (y_mov rfl (Eq.trans s751 (congrArg Value.bool c377)) rr) (wl_v (.bool false) rfl rfl (y_mov rfl rfl rr) (wl_unless 1 true 59 rfl rfl rfl (Or.inl rfl) rfl (wl_v (.bool false) rfl rfl (y_pickF rfl rfl rfl rr) (wl_v (.bool false) rfl rfl (y_asg rfl rfl rr) (wl_nil fun F933 hF934 => ?_)))))))))))
    obtain ⟨s935, s936, s937, s938, s939, s940, s941, s942, s943⟩ := t9 hF934 3 s740 4 s741 5 s742 82 s744 7 s745 13 s748 14 s749 16 s751 17 s752
    have s946 : F933 57 = .bool false := (hF934 57).trans rfl
    clear hF934
    refine then_normal ?_
    refine wq_cond (t := false) s946 (fun e => by cases e) (fun _ => ?_)
    refine wq_seq (wq_region (wl_v (.bool false) rfl rfl (y_mov rfl (Eq.trans s942 (congrArg Value.bool c377)) rr) (wl_v (.bool false) rfl rfl (y_asg rfl rfl rr) (wl_nil fun F947 hF948 => ?_))))
    obtain ⟨s949, s950, s951, s952, s953, s954, s955, s956⟩ := t8 hF948 3 s935 4 s936 5 s937 82 s938 7 s939 13 s940 14 s941 17 s943
    have s959 : F947 65 = .bool false := (hF948 65).trans rfl
    clear hF948
    refine then_normal ?_
    refine wq_cond (t := false) s959 (fun e => by cases e) (fun _ => ?_)
    refine wq_seq (wq_region (wl_v (.bool false) rfl rfl (y_mov rfl (Eq.trans s956 (congrArg Value.bool c758)) rr) (wl_v (.bool false) rfl rfl (y_asg rfl rfl rr) (wl_nil fun F960 hF961 => ?_))))
    obtain ⟨s962, s963, s964, s965, s966, s967, s968⟩ := t7 hF961 3 s949 4 s950 5 s951 82 s952 7 s953 13 s954 14 s955
    have s970 : F960 68 = .bool false := (hF961 68).trans rfl
    clear hF961
    refine then_normal ?_
    refine wq_cond (t := false) s970 (fun e => by cases e) (fun _ => ?_)
    refine wq_skip (in_normal (then_normal (wq_seq (wq_seq ?_))))
    have hR := cp_own (f := f) (p := g) (n := h) (k := k) (x := x) (y := y) (c := c) (by have a1 := past_f (m := c.m) (by assumption); have a2 := next_f (m := c.m) (by assumption); omega)
    refine wq_region (wl_v (.agg #[iv (f.W), iv (f.H), f0, f1, f2]) rfl rfl (y_load_stc stcT_frame rfl s966 B325 rr) (wl_mv rfl rfl rfl s962 (wl_mv rfl rfl rfl s963 (wl_mv rfl rfl rfl s964 (wl_v (pt p82 0) rfl rfl (y_fieldR (n := 1) rfl s967 Tryz.underlying31 rfl (by kernel_rfl) (by decide) rfl rr) (wl_v (iv (c.m)) rfl rfl (y_ld_stc rfl rfl Tryz.underlying3 B328 rfl rfl rr) (wl_cs rfl rfl rfl rfl rfl (fun _ _ => by kernel_rfl) (vsC rfl (vsC rfl (vsC rfl (vsC rfl (vsC rfl vsN))))) (il_predict k x y (c.m) f f0 f1 f2 T_f0 T_f1 T_f2 _  B316 B317 B318 ) fun w971 k972 => ?_)))))))
    have B986 := B329.all k972 id
    have K989 := K332.tr k972
    refine wl_v (blkV (predB f k x y (c.m))) rfl rfl (y_ext rfl rfl rfl rr) (wl_v (iv (predE f k x y (c.m))) rfl rfl (y_ext rfl rfl rfl rr) (wl_store_blk blkT_block rfl rfl rfl s968 rfl B986 fun w990 B991 k992 => ?_))
    have K1008 := K989.trans k992 (Grew.ok (S := fun _ => False) gr119 noB_le)
    refine wl_v (iv (predE f k x y (c.m))) rfl rfl (y_asg rfl rfl rr) (wl_nil fun F1009 hF1010 => ?_)
    obtain ⟨s1011, s1012⟩ := t2 hF1010 82 s965 14 s968
    have s1013 : F1009 15 = iv (predE f k x y (c.m)) := (hF1010 15).trans rfl
    clear hF1010
    refine then_normal (wq_ret (then_ret (jump_ret ?_)))
    exact end_2 s1011 rfl (res_blk blkT_block rfl s1012 B991) (res_tmp (v := iv (predE f k x y (c.m))) rfl s1013) ⟨(by first | rw [hR.1, hR.2, he0] | rw [hR.1, hR.2]), K1008⟩
 ·skip
  refine wq_region (wl_v (pt p82 0) rfl rfl (y_fieldR (n := 1) rfl s305 Tryz.underlying31 rfl (by kernel_rfl) (by decide) rfl rr) (wl_v (iv (c.m)) rfl rfl (y_ld_stc rfl rfl Tryz.underlying3 B268 rfl rfl rr) (wl_call (R := fun v_ w_ => v_ = .bool false ∧ Kept (fun _ => False) w235 w_) rfl rfl (y_cs rfl rfl rfl (fun _ _ => by kernel_rfl) (ev_func _) (vsC rfl vsN) (bl_known (c.m)  _   ) (fun e_ w_ h_ => ⟨_, h_.1, (congrArg Value.bool (decide_eq_false d313)), h_.2⟩)) ?_)))
  rintro _ w1014 ⟨rfl, k1015⟩
  have B1029 := B269.all k1015 id
  have K1032 := K271.tr k1015
  refine wl_v (.bool true) rfl rfl (y_not rfl rfl rfl rr) (wl_nil fun F1033 hF1034 => ?_)
  obtain ⟨s1042, s1047, s1053⟩ := t3 hF1034 82 s301 14 s306 20 s312
  have s1054 : F1033 30 = .bool true := (hF1034 30).trans rfl
  clear hF1034
  refine then_normal ?_
  refine wq_cond (t := true) s1054 (fun _ => ?_) (fun e => by cases e)
  refine wq_goto (then_goto ?_)
  refine jump_goto ⟨_, rfl, ?_⟩
  refine wq_seq (wq_skip (then_normal (wq_seq ?_)))
  first | have hR := cp_bad (f := f) (p := g) (n := h) (k := k) (x := x) (y := y) (c := c) (by omega) | have hR := cp_pastE (f := f) (p := g) (n := h) (k := k) (x := x) (y := y) (c := c) (past_t (by assumption)) (by assumption) | have hR := cp_nextE (f := f) (p := g) (n := h) (k := k) (x := x) (y := y) (c := c) (by have a1 := past_f (m := c.m) (by assumption); have a2 := next_t (m := c.m) (by assumption); omega) (by assumption) | have hR := cp_both2 (f := f) (p := g) (n := h) (k := k) (x := x) (y := y) (c := c) (by have a1 := past_t (m := c.m) (by assumption); have a2 := next_t (m := c.m) (by assumption); omega) (by first | assumption | (apply Decidable.byContradiction; assumption)) (by assumption)
  refine wq_region (wl_v (blkV (fun _ => 0)) rfl rfl (y_buildR (cells := (arrL 16 (fun _ => 0)).toArray) rfl (by kernel_rfl) rfl rr) (wl_mv rfl rfl rfl s1053 (wl_store_blk blkT_block rfl rfl rfl s1047 rfl B1029 fun w1055 B1056 k1057 => ?_)))
  have K1073 := K1032.trans k1057 (Grew.ok (S := fun _ => False) gr119 noB_le)
  refine wl_v (iv 120) rfl rfl (y_asg rfl rfl rr) (wl_nil fun F1074 hF1075 => ?_)
  obtain ⟨s1076, s1077⟩ := t2 hF1075 82 s1042 14 s1047
  have s1078 : F1074 15 = iv 120 := (hF1075 15).trans rfl
  clear hF1075
  refine then_normal (wq_ret (stay_ret ?_))
  exact end_2 s1076 rfl (res_blk blkT_block rfl s1077 B1056) (res_tmp (v := iv 120) rfl s1078) ⟨(by first | rw [hR.1, hR.2, he0] | rw [hR.1, hR.2]), K1073⟩
theorem whole_ge (l : List Nat) (n : Int) (s : Option Nat) : 0 ≤ (rdStep (wholeRd l n) s).1 := by
  cases s with
  | none => simp [rdStep]
  | some a =>
    cases h : wholeAt l a with
    | none => simp [rdStep, wholeRd, h]
    | some p =>
      obtain ⟨v, a'⟩ := p
      have hb := gw_bounds l a v a' h
      by_cases hv : n < v
      · simp [rdStep, wholeRd, h, hv]
      · simp [rdStep, wholeRd, h, hv]; exact hb.1
theorem rdCh_no {l : List Nat} {k ax ay bx yy m : Int} {st s1 : Option Nat} (hm : m = (rdStep (wholeRd l 6) st).1) (hs : s1 = (rdStep (wholeRd l 6) st).2) (h : s1.isNone = true ∨ ¬ (0 ≤ m ∧ m ≤ mostK k)) : ∃ s, rdCh l k ax ay bx yy st = (ch0, 120, s) := by
  have h0 := whole_ge l 6 st
  have e := rdStep_most (l := l) (mostK_le k) st
  rw [if_pos (by rw [← hm, ← hs]; rw [← hm] at h0; rcases h with h | h; exact .inl h; exact .inr (by omega))] at e
  exact ⟨none, by unfold rdCh; rw [e]; unfold rd1; exact if_pos rfl⟩
theorem rdCh_go {l : List Nat} {k ax ay bx yy m : Int} {st s1 : Option Nat} (hm : m = (rdStep (wholeRd l 6) st).1) (hs : s1 = (rdStep (wholeRd l 6) st).2) (h1 : s1.isNone = false) (h2 : 0 ≤ m ∧ m ≤ mostK k) : rdCh l k ax ay bx yy st = rd2 l m bx yy (stV (pastB m) l ax ay s1) := by
  have e := rdStep_most (l := l) (mostK_le k) st
  rw [if_neg (by rw [← hm, ← hs, h1]; rintro (h | h); cases h; omega)] at e
  unfold rdCh; rw [e]; unfold rd1
  rw [if_neg (by rw [← hs, h1]; exact Bool.false_ne_true), ← hm, ← hs]
theorem bl_read (p : Nat) (l : List Nat) (st : Option Nat) (k ax ay bx yy : Int) (T_r : Nat → Prop) (w0 : World) (hA : ActsIn w0) (hO : ScanIn w0) (hG : ∀ i, T_r i → 4 ≤ i) (h_r : Rdi w0 T_r p (l) (st)) :
  Calls Tryz.prog 12 #[.pointer (some ⟨p, 0, none⟩), .int .i64 (k), .agg #[.int .i64 (ax), .int .i64 (ay)], .agg #[.int .i64 (bx), .int .i64 (yy)]] w0 fun e w' => ∃ (T_r' : Nat → Prop), e = .returned (.tuple #[.agg (chW ((rdCh l k ax ay bx yy st).1)).toArray, .int .i64 ((rdCh l k ax ay bx yy st).2.1)]) ∧ Kept (T_r) w0 w' ∧ (Rdi w' T_r' p (l) (rdChT l k ax ay bx yy st) ∧ Grew w0 T_r T_r') := by
 refine calls_wq (args := [pt p 0, iv k, .agg #[iv ax, iv ay], .agg #[iv bx, iv yy]]) 68 Tryz.func12 rfl rfl (Nat.le_of_ble_eq_true rfl) ?_
 have K0 := Kept.refl T_r w0
 obtain ⟨m, hm⟩ : ∃ m, m = (rdStep (wholeRd l 6) st).1 := ⟨_, rfl⟩
 obtain ⟨s1, hs1⟩ : ∃ s, s = (rdStep (wholeRd l 6) st).2 := ⟨_, rfl⟩
 have g_r := Grew.refl w0 T_r
 refine wq_seq (wq_region (wl_box_stc (vs := [iv ax, iv ay]) rfl rfl rfl rfl fun p1 w2 B4 g5 k3 => ?_))
 have ap7 : Apart (onB p1) T_r := Apart.new g5 h_r.live
 have B8 := h_r.all k3 Apart.none
 have K9 := K0.tr k3
 refine wl_box_stc (vs := [iv bx, iv yy]) rfl rfl rfl rfl fun p10 w11 B13 g14 k12 => ?_
 have ap16 : Apart (onB p10) T_r := Apart.new g14 B8.live
 have B18 := B8.all k12 Apart.none
 have B19 := B4.all k12 id
 have K20 := K9.tr k12
 refine wl_alloc_stc (n := 21) (vs := (chL 0 0 0 0 0 (fun _ => (0 : Int)))) rfl rfl rfl (by kernel_rfl) fun p21 w22 B24 g25 k23 => ?_
 have gr26 : Grew w0 noB (onB p21) := Grew.new K20 g25
 have ap27 : Apart (onB p21) T_r := Apart.new g25 B18.live
 have B30 := B18.all k23 Apart.none
 have B31 := B19.all k23 id
 have B32 := B13.all k23 id
 have K33 := K20.tr k23
 refine wl_v (iv 0) rfl rfl (y_asg rfl rfl rr) (wl_nil fun F34 hF35 => ?_)
 have s36 : F34 0 = pt p 0 := (hF35 0).trans rfl
 have s37 : F34 1 = iv k := (hF35 1).trans rfl
 have s40 : F34 68 = undef := (hF35 68).trans rfl
 have s41 : F34 6 = pt p1 0 := (hF35 6).trans rfl
 have s42 : F34 7 = pt p10 0 := (hF35 7).trans rfl
 have s43 : F34 8 = pt p21 0 := (hF35 8).trans rfl
 clear hF35
 refine then_normal (wq_scope (wq_seq (wq_seq (wq_region (wl_mv rfl rfl rfl s36 (wl_v (.bool false) rfl rfl (y_noNil rfl rfl rfl Tryz.underlying50 rr) (wl_nil fun F45 hF46 => ?_)))))))
 obtain ⟨s47, s48, s51, s52, s53, s54⟩ := t6 hF46 0 s36 1 s37 68 s40 6 s41 7 s42 8 s43
 have s56 : F45 16 = .bool false := (hF46 16).trans rfl
 clear hF46
 refine then_normal ?_
 refine wq_cond (t := false) s56 (fun e => by cases e) (fun _ => ?_)
 refine wq_skip (then_normal (wq_seq ?_))
 obtain ⟨g, a, b, hf, hT, hok, hp, hg, hap⟩ := rdi_open B30
 have gr57 : Grew w0 T_r (onB p) := fun i h => g_r i ((fun i h => (hT i).2 (Or.inl h)) i h)
 have ap58 : Apart (onB p) (onB p1) := fun i h => ap7.symm i ((fun i h => (hT i).2 (Or.inl h)) i h)
 have ap59 : Apart (onB p) (onB p10) := fun i h => ap16.symm i ((fun i h => (hT i).2 (Or.inl h)) i h)
 have ap60 : Apart (onB p) (onB p21) := fun i h => ap27.symm i ((fun i h => (hT i).2 (Or.inl h)) i h)
 have gr61 : Grew w0 T_r (onB g) := fun i h => g_r i ((fun i h => (hT i).2 (Or.inr h)) i h)
 have ap62 : Apart (onB g) (onB p1) := fun i h => ap7.symm i ((fun i h => (hT i).2 (Or.inr h)) i h)
 have ap63 : Apart (onB g) (onB p10) := fun i h => ap16.symm i ((fun i h => (hT i).2 (Or.inr h)) i h)
 have ap64 : Apart (onB g) (onB p21) := fun i h => ap27.symm i ((fun i h => (hT i).2 (Or.inr h)) i h)
 have ap65 : Apart (onB p) (onB g) := hap
 refine wq_region (wl_mv rfl rfl rfl s47 (wl_v (pt p 0) rfl rfl (y_nilc rfl rfl rr) (wl_v (.agg #[.slice (some ⟨g, 0, none⟩) l.length l.length, iv ((a : Nat) : Int), .bool b]) rfl rfl (y_load_stc stcT_reader rfl rfl hp rr) (wl_alloc_stc (n := 3) (vs := [.slice none 0 0, iv ((0 : Nat) : Int), .bool false]) rfl rfl rfl (by kernel_rfl) fun p66 w67 B69 g70 k68 => ?_))))
 have gr71 : Grew w0 noB (onB p66) := Grew.new K33 g70
 have ap72 : Apart (onB p66) (onB p1) := Apart.new g70 (onB_live B31.lt)
 have ap73 : Apart (onB p66) (onB p10) := Apart.new g70 (onB_live B32.lt)
 have ap74 : Apart (onB p66) (onB p21) := Apart.new g70 (onB_live B24.lt)
 have ap75 : Apart (onB p66) (onB p) := Apart.new g70 (onB_live hp.lt)
 have ap76 : Apart (onB p66) (onB g) := Apart.new g70 hg.live
 have B77 := B31.all k68 id
 have B78 := B32.all k68 id
 have B79 := B24.all k68 id
 have B80 := hp.all k68 id
 have B81 := hg.all k68 Apart.none
 have K82 := K33.tr k68
 refine wl_store_stc (us := [.slice (some ⟨g, 0, none⟩) l.length l.length, iv ((a : Nat) : Int), .bool b]) stcT_reader rfl rfl rfl rfl rfl B69 rfl (oneI rfl (oneI rfl (oneI rfl oneN))) fun w83 B84 k85 => ?_
 have B86 := B77.all k85 (ap72.symm p1 rfl)
 have B87 := B78.all k85 (ap73.symm p10 rfl)
 have B88 := B79.all k85 (ap74.symm p21 rfl)
 have B89 := B80.all k85 (ap75.symm p rfl)
 have B90 := B81.all k85 ap76.symm
 have K91 := K82.trans k85 (Grew.ok (S := T_r) gr71 noB_le)
 refine wl_nil fun F92 hF93 => ?_
 obtain ⟨s94, s95, s98, s99, s100, s101⟩ := t6 hF93 0 s47 1 s48 68 s51 6 s52 7 s53 8 s54
 have s104 : F92 10 = pt p66 0 := (hF93 10).trans rfl
 clear hF93
 refine then_normal (wq_seq ?_)
 have B105 : Rdx w83 (fun i => (onB p) i ∨ ((onB p66) i ∨ ((onB g) i))) p66 l st ([(p, st)]) := rdx_push0 hf hok B89 B84 B90 ap75.symm ap65 ap76
 have gr106 : Grew w0 T_r (fun i => (onB p) i ∨ ((onB p66) i ∨ ((onB g) i))) := fun i h => h.elim (fun y => gr57 i y) (fun y => y.elim (fun y => (Grew.weak gr71 (fun _ z => z.elim)) i y) (fun y => gr61 i y))
 have ap107 : Apart (fun i => (onB p) i ∨ ((onB p66) i ∨ ((onB g) i))) (onB p1) := fun i h => h.elim (fun y => ap58 i y) (fun y => y.elim (fun y => ap72 i y) (fun y => ap62 i y))
 have ap108 : Apart (fun i => (onB p) i ∨ ((onB p66) i ∨ ((onB g) i))) (onB p10) := fun i h => h.elim (fun y => ap59 i y) (fun y => y.elim (fun y => ap73 i y) (fun y => ap63 i y))
 have ap109 : Apart (fun i => (onB p) i ∨ ((onB p66) i ∨ ((onB g) i))) (onB p21) := fun i h => h.elim (fun y => ap60 i y) (fun y => y.elim (fun y => ap74 i y) (fun y => ap64 i y))
 refine wq_region (wl_call (R := fun v_ w_ => ∃ (T112 : Nat → Prop), iv m = v_ ∧ Kept (fun i => (onB p) i ∨ ((onB p66) i ∨ ((onB g) i))) w83 w_ ∧ (Rdx w_ T112 p66 l ((rdStep (wholeRd l 6) st).2) ([(p, st)]) ∧ Grew w83 (fun i => (onB p) i ∨ ((onB p66) i ∨ ((onB g) i))) T112)) rfl rfl (y_cs rfl rfl rfl (fun _ _ => by kernel_rfl) (ev_func _) (vsC s104 (vsC rfl vsN)) (t_rwholeX p66 l st ([(p, st)]) 6 (fun i => (onB p) i ∨ ((onB p66) i ∨ ((onB g) i))) _  B105 ) (fun e_ w_ h_ => by obtain ⟨T112_, he_, hr_⟩ := h_; exact ⟨_, he_, T112_, (congrArg (Value.int .i64) hm.symm).symm, hr_⟩)) ?_)
 rintro _ w110 ⟨T112, rfl, k111, ⟨B113, g114⟩⟩
 have B115 := B86.all k111 (ap107.symm p1 rfl)
 have B116 := B87.all k111 (ap108.symm p10 rfl)
 have B117 := B88.all k111 (ap109.symm p21 rfl)
 have K118 := K91.trans k111 (fun i hi x => ((Grew.ok (S := T_r) gr106 (fun _ x => x)) i hi x))
 have gr119 := gr106.trans K91 g114
 have ap121 : Apart T112 (onB p10) := ap108.grew g114 (onB_live B87.lt)
 have ap122 : Apart T112 (onB p21) := ap109.grew g114 (onB_live B88.lt)
 refine wl_v (.agg (chL m 0 0 0 0 (fun _ => (0 : Int))).toArray) rfl rfl (y_buildL (l' := [(0, iv m)]) (cells := (chL m 0 0 0 0 (fun _ => (0 : Int))).toArray) rfl (bpC rfl bpN) (by kernel_rfl) rfl rr) (wl_alloc_stc (n := 21) (vs := (chL 0 0 0 0 0 (fun _ => (0 : Int)))) rfl rfl rfl (by kernel_rfl) fun p123 w124 B126 g127 k125 => ?_)
 have gr128 : Grew w0 noB (onB p123) := Grew.new K118 g127
 have ap129 : Apart (onB p123) (onB p1) := Apart.new g127 (onB_live B115.lt)
 have ap130 : Apart (onB p123) (onB p10) := Apart.new g127 (onB_live B116.lt)
 have ap131 : Apart (onB p123) (onB p21) := Apart.new g127 (onB_live B117.lt)
 have ap132 : Apart (onB p123) T112 := Apart.new g127 B113.live
 have B133 := B115.all k125 id
 have B134 := B116.all k125 id
 have B135 := B117.all k125 id
 have B136 := B113.all k125 Apart.none
 have K137 := K118.tr k125
 refine wl_store_stc (us := (chL m 0 0 0 0 (fun _ => (0 : Int)))) stcT_choice rfl rfl rfl rfl rfl B126 rfl (oneI rfl (oneI rfl (oneI rfl (oneI rfl (oneI rfl (oneI rfl (oneI rfl (oneI rfl (oneI rfl (oneI rfl (oneI rfl (oneI rfl (oneI rfl (oneI rfl (oneI rfl (oneI rfl (oneI rfl (oneI rfl (oneI rfl (oneI rfl (oneI rfl oneN))))))))))))))))))))) fun w138 B139 k140 => ?_
 have B141 := B133.all k140 (ap129.symm p1 rfl)
 have B142 := B134.all k140 (ap130.symm p10 rfl)
 have B143 := B135.all k140 (ap131.symm p21 rfl)
 have B144 := B136.all k140 ap132.symm
 have K145 := K137.trans k140 (Grew.ok (S := T_r) gr128 noB_le)
 refine wl_nil fun F146 hF147 => ?_
 obtain ⟨s148, s149, s152, s153, s154, s155, s158⟩ := t7 hF147 0 s94 1 s95 68 s98 6 s99 7 s100 8 s101 10 s104
 have s159 : F146 11 = pt p123 0 := (hF147 11).trans rfl
 clear hF147
 refine then_normal (wq_seq ?_)
 have B160 : Rdx w138 T112 p66 l s1 ([(p, st)]) := (by rw [hs1]; exact B144)
 refine wq_region (wl_v (pt p123 0) rfl rfl (y_fieldR (n := 1) rfl s159 Tryz.underlying31 rfl (by kernel_rfl) (by decide) rfl rr) (wl_v (iv m) rfl rfl (y_ld_stc rfl rfl Tryz.underlying3 B139 rfl rfl rr) (wl_cs rfl rfl rfl rfl rfl (fun _ _ => by kernel_rfl) (vsC rfl vsN) (bl_vectors m  _ (hA.but K145 hG)  ) fun w161 k162 => ?_)))
 have B163 := B141.all k162 id
 have B164 := B142.all k162 id
 have B165 := B143.all k162 id
 have B166 := B160.all k162 Apart.none
 have B167 := B139.all k162 id
 have K168 := K145.tr k162
 refine wl_v (.tuple #[.bool (pastB m), .bool (nextB m)]) rfl rfl (y_mov rfl rfl rr) (wl_v (.bool (pastB m)) rfl rfl (y_ext rfl rfl rfl rr) (wl_v (.bool (nextB m)) rfl rfl (y_ext rfl rfl rfl rr) (wl_v (.bool (pastB m)) rfl rfl (y_asg rfl rfl rr) (wl_v (.bool (nextB m)) rfl rfl (y_asg rfl rfl rr) (wl_nil fun F169 hF170 => ?_)))))
 obtain ⟨s171, s172, s175, s176, s177, s178, s181, s182⟩ := t8 hF170 0 s148 1 s149 68 s152 6 s153 7 s154 8 s155 10 s158 11 s159
 have s183 : F169 12 = .bool (pastB m) := (hF170 12).trans rfl
 have s184 : F169 13 = .bool (nextB m) := (hF170 13).trans rfl
 clear hF170
 refine then_normal (wq_seq (wq_region (wl_v (iv 120) rfl rfl (y_asg rfl rfl rr) (wl_nil fun F185 hF186 => ?_))))
 obtain ⟨s187, s188, s191, s192, s193, s194, s197, s198, s199, s200⟩ := t10 hF186 0 s171 1 s172 68 s175 6 s176 7 s177 8 s178 10 s181 11 s182 12 s183 13 s184
 have s201 : F185 14 = iv 120 := (hF186 14).trans rfl
 clear hF186
 refine then_normal (wq_seq (wq_seq ?_))
 rcases Bool.eq_false_or_eq_true (s1.isNone) with d202 | d202
 ·skip
  refine wq_region (wl_call (R := fun v_ w_ => v_ = .bool true ∧ Kept (fun _ => False) w161 w_) rfl rfl (y_cs rfl rfl rfl (fun _ _ => by kernel_rfl) (ev_func _) (vsC s197 vsN) (t_lostX p66 l s1 ([(p, st)]) T112 _  B166 ) (fun e_ w_ h_ => ⟨_, h_.1, (congrArg Value.bool d202), h_.2⟩)) ?_)
  rintro _ w203 ⟨rfl, k204⟩
  have B207 := B165.all k204 id
  have B208 := B166.all k204 Apart.none
  have K210 := K168.tr k204
  refine wl_v (.bool true) rfl rfl (y_mov rfl rfl rr) (wl_unless 1 false 30 rfl rfl rfl (Or.inl rfl) rfl (wl_unless 1 false 30 rfl rfl rfl (Or.inl rfl) rfl (wl_unless 1 false 30 rfl rfl rfl (Or.inl rfl) rfl (wl_unless 1 false 30 rfl rfl rfl (Or.inl rfl) rfl (wl_unless 1 false 30 rfl rfl rfl (Or.inl rfl) rfl (wl_v (.bool true) rfl rfl (y_pickT rfl rfl rfl rr) (wl_nil fun F211 hF212 => ?_)))))))
  obtain ⟨s217, s220, s227⟩ := t3 hF212 68 s191 8 s194 14 s201
  have s228 : F211 36 = .bool true := (hF212 36).trans rfl
  clear hF212
  refine then_normal ?_
  refine wq_cond (t := true) s228 (fun _ => ?_) (fun e => by cases e)
  refine wq_goto (then_goto ?_)
  refine jump_goto ⟨_, rfl, ?_⟩
  refine wq_seq (wq_skip (then_normal (wq_seq ?_)))
  first | have hR := h1.trans (by unfold rd2; exact if_neg (by assumption)) | have hR := h1.trans (by unfold rd3; exact if_neg (by assumption)) | have hR := h1.trans (by unfold rd4; exact if_neg (by assumption)) | (have hRR := rdCh_no (l := l) (k := k) (ax := ax) (ay := ay) (bx := bx) (yy := yy) hm hs1 (by first | exact Or.inl (by assumption) | exact Or.inr (by assumption)); obtain ⟨s9, hR⟩ := hRR)
  have hT0 : rdChT l k ax ay bx yy st = st := by unfold rdChT; rw [hR]; exact if_neg (by first | assumption | (intro z; exact absurd (show (120 : Int) = 0 from z) (by decide)))
  obtain ⟨g2, a1, b1, a2, b2, hf2, hT2, ho1, ho2, hp2, hq2, hg2, ap1_, ap2_, ap3_⟩ := rdx_pop0 B208
  have gr229 : Grew w0 T_r (onB p) := fun i h => gr119 i ((fun i h => (hT2 i).2 (Or.inl h)) i h)
  have ap232 : Apart (onB p) (onB p21) := fun i h => ap122 i ((fun i h => (hT2 i).2 (Or.inl h)) i h)
  have gr239 : Grew w0 T_r (onB g2) := fun i h => gr119 i ((fun i h => (hT2 i).2 (Or.inr (Or.inr h))) i h)
  have ap242 : Apart (onB g2) (onB p21) := fun i h => ap122 i ((fun i h => (hT2 i).2 (Or.inr (Or.inr h))) i h)
  have ap245 : Apart (onB p) (onB g2) := ap2_
  refine wq_region (wl_v (.agg (chL 0 0 0 0 0 (fun _ => (0 : Int))).toArray) rfl rfl (y_buildL (l' := []) (cells := (chL 0 0 0 0 0 (fun _ => (0 : Int))).toArray) rfl bpN (by kernel_rfl) rfl rr) (wl_mv rfl rfl rfl s227 (wl_store_stc (us := (chL 0 0 0 0 0 (fun _ => (0 : Int)))) stcT_choice rfl rfl rfl s220 rfl B207 rfl (oneI rfl (oneI rfl (oneI rfl (oneI rfl (oneI rfl (oneI rfl (oneI rfl (oneI rfl (oneI rfl (oneI rfl (oneI rfl (oneI rfl (oneI rfl (oneI rfl (oneI rfl (oneI rfl (oneI rfl (oneI rfl (oneI rfl (oneI rfl (oneI rfl oneN))))))))))))))))))))) fun w247 B248 k249 => ?_)))
  have B253 := hp2.all k249 (ap232 p rfl)
  have B255 := hg2.all k249 ap242
  have K256 := K210.trans k249 (Grew.ok (S := T_r) gr26 noB_le)
  refine wl_v (iv 120) rfl rfl (y_asg rfl rfl rr) (wl_nil fun F257 hF258 => ?_)
  obtain ⟨s259, s260⟩ := t2 hF258 68 s217 8 s220
  have s261 : F257 9 = iv 120 := (hF258 9).trans rfl
  clear hF258
  refine then_normal (wq_ret (stay_ret ?_))
  have B262 : Rdi w247 (fun i => (onB p) i ∨ ((onB g2) i)) p l (rdChT l k ax ay bx yy st) := (by rw [hT0]; first | exact rdi_close hf2 ho1 B253 B255 ap245 | exact rdi_close hf2 ho2 B253 B255 ap245)
  have gr263 : Grew w0 T_r (fun i => (onB p) i ∨ ((onB g2) i)) := fun i h => h.elim (fun y => gr229 i y) (fun y => gr239 i y)
  exact end_2 s259 rfl (res_stc (vs := (chL 0 0 0 0 0 (fun _ => (0 : Int)))) stcT_choice rfl s260 B248) (res_tmp (v := iv 120) rfl s261) ⟨(fun i => (onB p) i ∨ ((onB g2) i)), (by rw [hR] <;> rfl), K256, ⟨B262, gr263⟩⟩
 ·skip
  by_cases d269 : 0 ≤ m ∧ m ≤ mostK k
  ·skip
   refine wq_region (wl_call (R := fun v_ w_ => v_ = .bool false ∧ Kept (fun _ => False) w161 w_) rfl rfl (y_cs rfl rfl rfl (fun _ _ => by kernel_rfl) (ev_func _) (vsC s197 vsN) (t_lostX p66 l s1 ([(p, st)]) T112 _  B166 ) (fun e_ w_ h_ => ⟨_, h_.1, (congrArg Value.bool d202), h_.2⟩)) ?_)
   rintro _ w270 ⟨rfl, k271⟩
   have B272 := B163.all k271 id
   have B273 := B164.all k271 id
   have B274 := B165.all k271 id
   have B275 := B166.all k271 Apart.none
   have B276 := B167.all k271 id
   have K277 := K168.tr k271
   refine wl_v (.bool false) rfl rfl (y_mov rfl rfl rr) (wl_vw (iv k) 1 false 30 rfl rfl rfl rfl rfl (y_mov rfl s188 rr) (wl_vw (pt p123 0) 1 false 30 rfl rfl rfl rfl rfl (y_fieldR (n := 1) rfl s198 Tryz.underlying31 rfl (by kernel_rfl) (by decide) rfl rr) (wl_vw (iv m) 1 false 30 rfl rfl rfl rfl rfl (y_ld_stc rfl rfl Tryz.underlying3 B276 rfl rfl rr) (wl_callw (R := fun v_ w_ => v_ = .bool true ∧ Kept (fun _ => False) w270 w_) 1 false 30 rfl rfl rfl rfl rfl (y_cs rfl rfl rfl (fun _ _ => by kernel_rfl) (ev_func _) (vsC rfl (vsC rfl vsN)) (bl_has k m  _ (hA.but K277 hG)  ) (fun e_ w_ h_ => ⟨_, h_.1, (congrArg Value.bool (decide_eq_true d269)), h_.2⟩)) ?_))))
   rintro _ w278 ⟨rfl, k279⟩
   have B280 := B272.all k279 id
   have B281 := B273.all k279 id
   have B282 := B274.all k279 id
   have B283 := B275.all k279 Apart.none
   have B284 := B276.all k279 id
   have K285 := K277.tr k279
   refine wl_vw (.bool false) 1 false 30 rfl rfl rfl rfl rfl (y_not rfl rfl rfl rr) (wl_v (.bool false) rfl rfl (y_pickF rfl rfl rfl rr) (wl_nil fun F286 hF287 => ?_))
   obtain ⟨s288, s292, s293, s294, s295, s298, s299, s300, s301⟩ := t9 hF287 0 s187 68 s191 6 s192 7 s193 8 s194 10 s197 11 s198 12 s199 13 s200
   have s303 : F286 36 = .bool false := (hF287 36).trans rfl
   clear hF287
   refine then_normal ?_
   refine wq_cond (t := false) s303 (fun e => by cases e) (fun _ => ?_)
   refine wq_skip (then_normal (wq_seq (wq_seq ?_)))
   have h1 := rdCh_go (l := l) (k := k) (ax := ax) (ay := ay) (bx := bx) (yy := yy) hm hs1 (by assumption) (by assumption)
   refine wq_region (wl_mv rfl rfl rfl s300 (wl_nil fun F304 hF305 => ?_))
   obtain ⟨s306, s310, s311, s312, s313, s316, s317, s319⟩ := t8 hF305 0 s288 68 s292 6 s293 7 s294 8 s295 10 s298 11 s299 13 s301
   have s321 : F304 37 = .bool (pastB m) := (hF305 37).trans rfl
   clear hF305
   refine then_normal ?_
   refine wq_cond s321 (fun c322 => ?_) (fun c322 => ?_)
   ·skip
    refine wq_seq ?_
    rw [stV_yes (has := pastB m) (by assumption)] at h1
    refine wq_region (wl_v (.agg #[iv ax, iv ay]) rfl rfl (y_load_stc stcT_vector rfl s311 B280 rr) (wl_call (R := fun v_ w_ => ∃ (T325 : Nat → Prop), .tuple #[.agg #[iv (vrX l ax ay s1), iv (vrY l ax ay s1)], iv (vrE l ax ay s1)] = v_ ∧ Kept T112 w278 w_ ∧ (Rdx w_ T325 p66 l (vrT l ax ay s1) ([(p, st)]) ∧ Grew w278 T112 T325)) rfl rfl (y_cs rfl rfl rfl (fun _ _ => by kernel_rfl) (ev_func _) (vsC s316 (vsC rfl vsN)) (vt_readX p66 l s1 ([(p, st)]) ax ay T112 _  B283 ) (fun e_ w_ h_ => by obtain ⟨T325_, he_, hr_⟩ := h_; exact ⟨_, he_, T325_, rfl, hr_⟩)) ?_))
    rintro _ w323 ⟨T325, rfl, k324, ⟨B326, g327⟩⟩
    have B329 := B281.all k324 (ap121.symm p10 rfl)
    have B330 := B282.all k324 (ap122.symm p21 rfl)
    have B331 := B284.all k324 (ap132 p123 rfl)
    have K332 := K285.trans k324 (fun i hi x => ((Grew.ok (S := T_r) gr119 (fun _ x => x)) i hi x))
    have gr333 := gr119.trans K285 g327
    have ap336 : Apart T325 (onB p21) := ap122.grew g327 (onB_live B282.lt)
    have ap337 : Apart T325 (onB p123) := (ap132.symm).grew g327 (onB_live B284.lt)
    refine wl_v (.tuple #[.agg #[iv (vrX l ax ay s1), iv (vrY l ax ay s1)], iv (vrE l ax ay s1)]) rfl rfl (y_mov rfl rfl rr) (wl_v (.agg #[iv (vrX l ax ay s1), iv (vrY l ax ay s1)]) rfl rfl (y_ext rfl rfl rfl rr) (wl_v (iv (vrE l ax ay s1)) rfl rfl (y_ext rfl rfl rfl rr) (wl_v (pt p123 1) rfl rfl (y_fieldR (n := 2) rfl s317 Tryz.underlying31 rfl (by kernel_rfl) (by decide) rfl rr) (wl_setPart (us := [iv (vrX l ax ay s1), iv (vrY l ax ay s1)]) (ns := (chL m (vrX l ax ay s1) (vrY l ax ay s1) 0 0 (fun _ => (0 : Int)))) stcT_vector rfl rfl rfl rfl rfl B331 (Nat.le_of_ble_eq_true rfl) (oneI rfl (oneI rfl oneN)) rfl fun w338 B339 k340 => ?_))))
    have B342 := B329.all k340 (ap130.symm p10 rfl)
    have B343 := B330.all k340 (ap131.symm p21 rfl)
    have B344 := B326.all k340 ap337
    have K345 := K332.trans k340 (Grew.ok (S := T_r) gr128 noB_le)
    refine wl_v (iv (vrE l ax ay s1)) rfl rfl (y_asg rfl rfl rr) (wl_nil fun F346 hF347 => ?_)
    obtain ⟨s348, s352, s354, s355, s358, s359, s361⟩ := t7 hF347 0 s306 68 s310 7 s312 8 s313 10 s316 11 s317 13 s319
    have s364 : F346 14 = iv (vrE l ax ay s1) := (hF347 14).trans rfl
    clear hF347
    refine then_normal (wq_seq (wq_region (wl_mv rfl rfl rfl s364 (wl_v (.bool (decide ((vrE l ax ay s1) ≠ 0))) rfl rfl (y_neqI rfl rfl rfl rfl rr) (wl_nil fun F365 hF366 => ?_)))))
    obtain ⟨s367, s371, s373, s374, s377, s378, s380, s383⟩ := t8 hF366 0 s348 68 s352 7 s354 8 s355 10 s358 11 s359 13 s361 14 s364
    have s384 : F365 45 = .bool (decide ((vrE l ax ay s1) ≠ 0)) := (hF366 45).trans rfl
    clear hF366
    refine then_normal ?_
    refine wq_cond s384 (fun c385 => ?_) (fun c385 => ?_)
    ·replace c385 := of_decide_eq_true c385
     refine wq_goto (then_goto ?_)
     refine jump_goto ⟨_, rfl, ?_⟩
     refine wq_seq (wq_skip (then_normal (wq_seq ?_)))
     first | have hR := h1.trans (by unfold rd2; exact if_neg (by assumption)) | have hR := h1.trans (by unfold rd3; exact if_neg (by assumption)) | have hR := h1.trans (by unfold rd4; exact if_neg (by assumption)) | (have hRR := rdCh_no (l := l) (k := k) (ax := ax) (ay := ay) (bx := bx) (yy := yy) hm hs1 (by first | exact Or.inl (by assumption) | exact Or.inr (by assumption)); obtain ⟨s9, hR⟩ := hRR)
     have hT0 : rdChT l k ax ay bx yy st = st := by unfold rdChT; rw [hR]; exact if_neg (by first | assumption | (intro z; exact absurd (show (120 : Int) = 0 from z) (by decide)))
     obtain ⟨g2, a1, b1, a2, b2, hf2, hT2, ho1, ho2, hp2, hq2, hg2, ap1_, ap2_, ap3_⟩ := rdx_pop0 B344
     have gr386 : Grew w0 T_r (onB p) := fun i h => gr333 i ((fun i h => (hT2 i).2 (Or.inl h)) i h)
     have ap389 : Apart (onB p) (onB p21) := fun i h => ap336 i ((fun i h => (hT2 i).2 (Or.inl h)) i h)
     have gr396 : Grew w0 T_r (onB g2) := fun i h => gr333 i ((fun i h => (hT2 i).2 (Or.inr (Or.inr h))) i h)
     have ap399 : Apart (onB g2) (onB p21) := fun i h => ap336 i ((fun i h => (hT2 i).2 (Or.inr (Or.inr h))) i h)
     have ap402 : Apart (onB p) (onB g2) := ap2_
     refine wq_region (wl_v (.agg (chL 0 0 0 0 0 (fun _ => (0 : Int))).toArray) rfl rfl (y_buildL (l' := []) (cells := (chL 0 0 0 0 0 (fun _ => (0 : Int))).toArray) rfl bpN (by kernel_rfl) rfl rr) (wl_mv rfl rfl rfl s383 (wl_store_stc (us := (chL 0 0 0 0 0 (fun _ => (0 : Int)))) stcT_choice rfl rfl rfl s374 rfl B343 rfl (oneI rfl (oneI rfl (oneI rfl (oneI rfl (oneI rfl (oneI rfl (oneI rfl (oneI rfl (oneI rfl (oneI rfl (oneI rfl (oneI rfl (oneI rfl (oneI rfl (oneI rfl (oneI rfl (oneI rfl (oneI rfl (oneI rfl (oneI rfl (oneI rfl oneN))))))))))))))))))))) fun w404 B405 k406 => ?_)))
     have B410 := hp2.all k406 (ap389 p rfl)
     have B412 := hg2.all k406 ap399
     have K413 := K345.trans k406 (Grew.ok (S := T_r) gr26 noB_le)
     refine wl_v (iv (vrE l ax ay s1)) rfl rfl (y_asg rfl rfl rr) (wl_nil fun F414 hF415 => ?_)
     obtain ⟨s416, s417⟩ := t2 hF415 68 s371 8 s374
     have s418 : F414 9 = iv (vrE l ax ay s1) := (hF415 9).trans rfl
     clear hF415
     refine then_normal (wq_ret (stay_ret ?_))
     have B419 : Rdi w404 (fun i => (onB p) i ∨ ((onB g2) i)) p l (rdChT l k ax ay bx yy st) := (by rw [hT0]; first | exact rdi_close hf2 ho1 B410 B412 ap402 | exact rdi_close hf2 ho2 B410 B412 ap402)
     have gr420 : Grew w0 T_r (fun i => (onB p) i ∨ ((onB g2) i)) := fun i h => h.elim (fun y => gr386 i y) (fun y => gr396 i y)
     exact end_2 s416 rfl (res_stc (vs := (chL 0 0 0 0 0 (fun _ => (0 : Int)))) stcT_choice rfl s417 B405) (res_tmp (v := iv (vrE l ax ay s1)) rfl s418) ⟨(fun i => (onB p) i ∨ ((onB g2) i)), (by rw [hR] <;> rfl), K413, ⟨B419, gr420⟩⟩
    ·replace c385 := of_decide_eq_false c385
     refine wq_skip (then_normal (wq_seq (wq_seq ?_)))
     first | (rw [stV_no (has := pastB m) (by assumption)] at h1; replace h1 := h1.trans (by unfold rd2; exact if_pos rfl); (try dsimp only at h1)) | (have hv1 : vrE l ax ay s1 = 0 := (by first | assumption | (apply Decidable.byContradiction; assumption)); replace h1 := h1.trans (by unfold rd2; exact if_pos hv1); (try dsimp only at h1); rw [← vrT_ok hv1] at h1)
     refine wq_region (wl_mv rfl rfl rfl s380 (wl_nil fun F426 hF427 => ?_))
     obtain ⟨s428, s432, s434, s435, s438, s439⟩ := t6 hF427 0 s367 68 s371 7 s373 8 s374 10 s377 11 s378
     have s445 : F426 46 = .bool (nextB m) := (hF427 46).trans rfl
     clear hF427
     refine then_normal ?_
     refine wq_cond s445 (fun c446 => ?_) (fun c446 => ?_)
     ·skip
      refine wq_seq ?_
      rw [stV_yes (has := nextB m) (by assumption)] at h1
      refine wq_region (wl_v (.agg #[iv bx, iv yy]) rfl rfl (y_load_stc stcT_vector rfl s434 B342 rr) (wl_call (R := fun v_ w_ => ∃ (T449 : Nat → Prop), .tuple #[.agg #[iv (vrX l bx yy (vrT l ax ay s1)), iv (vrY l bx yy (vrT l ax ay s1))], iv (vrE l bx yy (vrT l ax ay s1))] = v_ ∧ Kept T325 w338 w_ ∧ (Rdx w_ T449 p66 l (vrT l bx yy (vrT l ax ay s1)) ([(p, st)]) ∧ Grew w338 T325 T449)) rfl rfl (y_cs rfl rfl rfl (fun _ _ => by kernel_rfl) (ev_func _) (vsC s438 (vsC rfl vsN)) (vt_readX p66 l (vrT l ax ay s1) ([(p, st)]) bx yy T325 _  B344 ) (fun e_ w_ h_ => by obtain ⟨T449_, he_, hr_⟩ := h_; exact ⟨_, he_, T449_, rfl, hr_⟩)) ?_))
      rintro _ w447 ⟨T449, rfl, k448, ⟨B450, g451⟩⟩
      have B454 := B343.all k448 (ap336.symm p21 rfl)
      have B455 := B339.all k448 (ap337.symm p123 rfl)
      have K456 := K345.trans k448 (fun i hi x => ((Grew.ok (S := T_r) gr333 (fun _ x => x)) i hi x))
      have gr457 := gr333.trans K345 g451
      have ap460 : Apart T449 (onB p21) := ap336.grew g451 (onB_live B343.lt)
      have ap461 : Apart T449 (onB p123) := ap337.grew g451 (onB_live B339.lt)
      refine wl_v (.tuple #[.agg #[iv (vrX l bx yy (vrT l ax ay s1)), iv (vrY l bx yy (vrT l ax ay s1))], iv (vrE l bx yy (vrT l ax ay s1))]) rfl rfl (y_mov rfl rfl rr) (wl_v (.agg #[iv (vrX l bx yy (vrT l ax ay s1)), iv (vrY l bx yy (vrT l ax ay s1))]) rfl rfl (y_ext rfl rfl rfl rr) (wl_v (iv (vrE l bx yy (vrT l ax ay s1))) rfl rfl (y_ext rfl rfl rfl rr) (wl_v (pt p123 3) rfl rfl (y_fieldR (n := 2) rfl s439 Tryz.underlying31 rfl (by kernel_rfl) (by decide) rfl rr) (wl_setPart (us := [iv (vrX l bx yy (vrT l ax ay s1)), iv (vrY l bx yy (vrT l ax ay s1))]) (ns := (chL m (vrX l ax ay s1) (vrY l ax ay s1) (vrX l bx yy (vrT l ax ay s1)) (vrY l bx yy (vrT l ax ay s1)) (fun _ => (0 : Int)))) stcT_vector rfl rfl rfl rfl rfl B455 (Nat.le_of_ble_eq_true rfl) (oneI rfl (oneI rfl oneN)) rfl fun w462 B463 k464 => ?_))))
      have B467 := B454.all k464 (ap131.symm p21 rfl)
      have B468 := B450.all k464 ap461
      have K469 := K456.trans k464 (Grew.ok (S := T_r) gr128 noB_le)
      refine wl_v (iv (vrE l bx yy (vrT l ax ay s1))) rfl rfl (y_asg rfl rfl rr) (wl_nil fun F470 hF471 => ?_)
      obtain ⟨s472, s476, s479, s482, s483⟩ := t5 hF471 0 s428 68 s432 8 s435 10 s438 11 s439
      have s490 : F470 14 = iv (vrE l bx yy (vrT l ax ay s1)) := (hF471 14).trans rfl
      clear hF471
      refine then_normal (wq_seq (wq_region (wl_mv rfl rfl rfl s490 (wl_v (.bool (decide ((vrE l bx yy (vrT l ax ay s1)) ≠ 0))) rfl rfl (y_neqI rfl rfl rfl rfl rr) (wl_nil fun F491 hF492 => ?_)))))
      obtain ⟨s493, s497, s500, s503, s504, s511⟩ := t6 hF492 0 s472 68 s476 8 s479 10 s482 11 s483 14 s490
      have s512 : F491 54 = .bool (decide ((vrE l bx yy (vrT l ax ay s1)) ≠ 0)) := (hF492 54).trans rfl
      clear hF492
      refine then_normal ?_
      refine wq_cond s512 (fun c513 => ?_) (fun c513 => ?_)
      ·replace c513 := of_decide_eq_true c513
       refine wq_goto (then_goto ?_)
       refine jump_goto ⟨_, rfl, ?_⟩
       refine wq_seq (wq_skip (then_normal (wq_seq ?_)))
       first | have hR := h1.trans (by unfold rd2; exact if_neg (by assumption)) | have hR := h1.trans (by unfold rd3; exact if_neg (by assumption)) | have hR := h1.trans (by unfold rd4; exact if_neg (by assumption)) | (have hRR := rdCh_no (l := l) (k := k) (ax := ax) (ay := ay) (bx := bx) (yy := yy) hm hs1 (by first | exact Or.inl (by assumption) | exact Or.inr (by assumption)); obtain ⟨s9, hR⟩ := hRR)
       have hT0 : rdChT l k ax ay bx yy st = st := by unfold rdChT; rw [hR]; exact if_neg (by first | assumption | (intro z; exact absurd (show (120 : Int) = 0 from z) (by decide)))
       obtain ⟨g2, a1, b1, a2, b2, hf2, hT2, ho1, ho2, hp2, hq2, hg2, ap1_, ap2_, ap3_⟩ := rdx_pop0 B468
       have gr514 : Grew w0 T_r (onB p) := fun i h => gr457 i ((fun i h => (hT2 i).2 (Or.inl h)) i h)
       have ap517 : Apart (onB p) (onB p21) := fun i h => ap460 i ((fun i h => (hT2 i).2 (Or.inl h)) i h)
       have gr524 : Grew w0 T_r (onB g2) := fun i h => gr457 i ((fun i h => (hT2 i).2 (Or.inr (Or.inr h))) i h)
       have ap527 : Apart (onB g2) (onB p21) := fun i h => ap460 i ((fun i h => (hT2 i).2 (Or.inr (Or.inr h))) i h)
       have ap530 : Apart (onB p) (onB g2) := ap2_
       refine wq_region (wl_v (.agg (chL 0 0 0 0 0 (fun _ => (0 : Int))).toArray) rfl rfl (y_buildL (l' := []) (cells := (chL 0 0 0 0 0 (fun _ => (0 : Int))).toArray) rfl bpN (by kernel_rfl) rfl rr) (wl_mv rfl rfl rfl s511 (wl_store_stc (us := (chL 0 0 0 0 0 (fun _ => (0 : Int)))) stcT_choice rfl rfl rfl s500 rfl B467 rfl (oneI rfl (oneI rfl (oneI rfl (oneI rfl (oneI rfl (oneI rfl (oneI rfl (oneI rfl (oneI rfl (oneI rfl (oneI rfl (oneI rfl (oneI rfl (oneI rfl (oneI rfl (oneI rfl (oneI rfl (oneI rfl (oneI rfl (oneI rfl (oneI rfl oneN))))))))))))))))))))) fun w532 B533 k534 => ?_)))
       have B538 := hp2.all k534 (ap517 p rfl)
       have B540 := hg2.all k534 ap527
       have K541 := K469.trans k534 (Grew.ok (S := T_r) gr26 noB_le)
       refine wl_v (iv (vrE l bx yy (vrT l ax ay s1))) rfl rfl (y_asg rfl rfl rr) (wl_nil fun F542 hF543 => ?_)
       obtain ⟨s544, s545⟩ := t2 hF543 68 s497 8 s500
       have s546 : F542 9 = iv (vrE l bx yy (vrT l ax ay s1)) := (hF543 9).trans rfl
       clear hF543
       refine then_normal (wq_ret (stay_ret ?_))
       have B547 : Rdi w532 (fun i => (onB p) i ∨ ((onB g2) i)) p l (rdChT l k ax ay bx yy st) := (by rw [hT0]; first | exact rdi_close hf2 ho1 B538 B540 ap530 | exact rdi_close hf2 ho2 B538 B540 ap530)
       have gr548 : Grew w0 T_r (fun i => (onB p) i ∨ ((onB g2) i)) := fun i h => h.elim (fun y => gr514 i y) (fun y => gr524 i y)
       exact end_2 s544 rfl (res_stc (vs := (chL 0 0 0 0 0 (fun _ => (0 : Int)))) stcT_choice rfl s545 B533) (res_tmp (v := iv (vrE l bx yy (vrT l ax ay s1))) rfl s546) ⟨(fun i => (onB p) i ∨ ((onB g2) i)), (by rw [hR] <;> rfl), K541, ⟨B547, gr548⟩⟩
      ·replace c513 := of_decide_eq_false c513
       refine wq_skip (then_normal (wq_seq (wq_seq ?_)))
       first | (rw [stV_no (has := nextB m) (by assumption)] at h1; replace h1 := h1.trans (by unfold rd3; exact if_pos rfl); (try dsimp only at h1)) | (have hv2 : vrE l bx yy (vrT l ax ay s1) = 0 := (by first | assumption | (apply Decidable.byContradiction; assumption)); replace h1 := h1.trans (by unfold rd3; exact if_pos hv2); (try dsimp only at h1); rw [← vrT_ok hv2] at h1) | (have hv2 : vrE l bx yy s1 = 0 := (by first | assumption | (apply Decidable.byContradiction; assumption)); replace h1 := h1.trans (by unfold rd3; exact if_pos hv2); (try dsimp only at h1); rw [← vrT_ok hv2] at h1)
       refine wq_region (wl_call (R := fun v_ w_ => ∃ (T556 : Nat → Prop), .tuple #[blkV ((scanRd l (vrT l bx yy (vrT l ax ay s1))).1), iv ((scanRd l (vrT l bx yy (vrT l ax ay s1))).2.1)] = v_ ∧ Kept T449 w462 w_ ∧ (Rdx w_ T556 p66 l (rdSt l (vrT l bx yy (vrT l ax ay s1))) ([(p, st)]) ∧ Grew w462 T449 T556)) rfl rfl (y_cs rfl rfl rfl (fun _ _ => by kernel_rfl) (ev_func _) (vsC s503 vsN) (scan_readX p66 l (vrT l bx yy (vrT l ax ay s1)) ([(p, st)]) T449 _ (hO.but K469 (ovO hG)) (ovO (aboveN2 gr457 hG hA)) B468 ) (fun e_ w_ h_ => by obtain ⟨T556_, he_, hr_⟩ := h_; exact ⟨_, he_, T556_, rfl, hr_⟩)) ?_)
       rintro _ w554 ⟨T556, rfl, k555, ⟨B557, g558⟩⟩
       have B561 := B467.all k555 (ap460.symm p21 rfl)
       have B562 := B463.all k555 (ap461.symm p123 rfl)
       have K563 := K469.trans k555 (fun i hi x => ((Grew.ok (S := T_r) gr457 (fun _ x => x)) i hi x))
       have gr564 := gr457.trans K469 g558
       have ap567 : Apart T556 (onB p21) := ap460.grew g558 (onB_live B467.lt)
       have ap568 : Apart T556 (onB p123) := ap461.grew g558 (onB_live B463.lt)
       refine wl_v (.tuple #[blkV ((scanRd l (vrT l bx yy (vrT l ax ay s1))).1), iv ((scanRd l (vrT l bx yy (vrT l ax ay s1))).2.1)]) rfl rfl (y_mov rfl rfl rr) (wl_v (blkV ((scanRd l (vrT l bx yy (vrT l ax ay s1))).1)) rfl rfl (y_ext rfl rfl rfl rr) (wl_v (iv ((scanRd l (vrT l bx yy (vrT l ax ay s1))).2.1)) rfl rfl (y_ext rfl rfl rfl rr) (wl_v (pt p123 5) rfl rfl (y_fieldR (n := 16) rfl s504 Tryz.underlying31 rfl (by kernel_rfl) (by decide) rfl rr) (wl_setPart (us := arrL 16 ((scanRd l (vrT l bx yy (vrT l ax ay s1))).1)) (ns := (chL m (vrX l ax ay s1) (vrY l ax ay s1) (vrX l bx yy (vrT l ax ay s1)) (vrY l bx yy (vrT l ax ay s1)) ((scanRd l (vrT l bx yy (vrT l ax ay s1))).1))) stcT_block rfl rfl rfl rfl rfl B562 (Nat.le_of_ble_eq_true rfl) (one_arrL _ _) rfl fun w569 B570 k571 => ?_))))
       have B574 := B561.all k571 (ap131.symm p21 rfl)
       have B575 := B557.all k571 ap568
       have K576 := K563.trans k571 (Grew.ok (S := T_r) gr128 noB_le)
       refine wl_v (iv ((scanRd l (vrT l bx yy (vrT l ax ay s1))).2.1)) rfl rfl (y_asg rfl rfl rr) (wl_nil fun F577 hF578 => ?_)
       obtain ⟨s579, s583, s586, s589, s590⟩ := t5 hF578 0 s493 68 s497 8 s500 10 s503 11 s504
       have s598 : F577 14 = iv ((scanRd l (vrT l bx yy (vrT l ax ay s1))).2.1) := (hF578 14).trans rfl
       clear hF578
       refine then_normal (wq_seq (wq_region (wl_mv rfl rfl rfl s598 (wl_v (.bool (decide (((scanRd l (vrT l bx yy (vrT l ax ay s1))).2.1) ≠ 0))) rfl rfl (y_neqI rfl rfl rfl rfl rr) (wl_nil fun F599 hF600 => ?_)))))
       obtain ⟨s601, s605, s608, s611, s612, s620⟩ := t6 hF600 0 s579 68 s583 8 s586 10 s589 11 s590 14 s598
       have s621 : F599 61 = .bool (decide (((scanRd l (vrT l bx yy (vrT l ax ay s1))).2.1) ≠ 0)) := (hF600 61).trans rfl
       clear hF600
       refine then_normal ?_
       refine wq_cond s621 (fun c622 => ?_) (fun c622 => ?_)
       ·replace c622 := of_decide_eq_true c622
        refine wq_goto (then_goto ?_)
        refine jump_goto ⟨_, rfl, ?_⟩
        refine wq_seq (wq_skip (then_normal (wq_seq ?_)))
        first | have hR := h1.trans (by unfold rd2; exact if_neg (by assumption)) | have hR := h1.trans (by unfold rd3; exact if_neg (by assumption)) | have hR := h1.trans (by unfold rd4; exact if_neg (by assumption)) | (have hRR := rdCh_no (l := l) (k := k) (ax := ax) (ay := ay) (bx := bx) (yy := yy) hm hs1 (by first | exact Or.inl (by assumption) | exact Or.inr (by assumption)); obtain ⟨s9, hR⟩ := hRR)
        have hT0 : rdChT l k ax ay bx yy st = st := by unfold rdChT; rw [hR]; exact if_neg (by first | assumption | (intro z; exact absurd (show (120 : Int) = 0 from z) (by decide)))
        obtain ⟨g2, a1, b1, a2, b2, hf2, hT2, ho1, ho2, hp2, hq2, hg2, ap1_, ap2_, ap3_⟩ := rdx_pop0 B575
        have gr623 : Grew w0 T_r (onB p) := fun i h => gr564 i ((fun i h => (hT2 i).2 (Or.inl h)) i h)
        have ap626 : Apart (onB p) (onB p21) := fun i h => ap567 i ((fun i h => (hT2 i).2 (Or.inl h)) i h)
        have gr633 : Grew w0 T_r (onB g2) := fun i h => gr564 i ((fun i h => (hT2 i).2 (Or.inr (Or.inr h))) i h)
        have ap636 : Apart (onB g2) (onB p21) := fun i h => ap567 i ((fun i h => (hT2 i).2 (Or.inr (Or.inr h))) i h)
        have ap639 : Apart (onB p) (onB g2) := ap2_
        refine wq_region (wl_v (.agg (chL 0 0 0 0 0 (fun _ => (0 : Int))).toArray) rfl rfl (y_buildL (l' := []) (cells := (chL 0 0 0 0 0 (fun _ => (0 : Int))).toArray) rfl bpN (by kernel_rfl) rfl rr) (wl_mv rfl rfl rfl s620 (wl_store_stc (us := (chL 0 0 0 0 0 (fun _ => (0 : Int)))) stcT_choice rfl rfl rfl s608 rfl B574 rfl (oneI rfl (oneI rfl (oneI rfl (oneI rfl (oneI rfl (oneI rfl (oneI rfl (oneI rfl (oneI rfl (oneI rfl (oneI rfl (oneI rfl (oneI rfl (oneI rfl (oneI rfl (oneI rfl (oneI rfl (oneI rfl (oneI rfl (oneI rfl (oneI rfl oneN))))))))))))))))))))) fun w641 B642 k643 => ?_)))
        have B647 := hp2.all k643 (ap626 p rfl)
        have B649 := hg2.all k643 ap636
        have K650 := K576.trans k643 (Grew.ok (S := T_r) gr26 noB_le)
        refine wl_v (iv ((scanRd l (vrT l bx yy (vrT l ax ay s1))).2.1)) rfl rfl (y_asg rfl rfl rr) (wl_nil fun F651 hF652 => ?_)
        obtain ⟨s653, s654⟩ := t2 hF652 68 s605 8 s608
        have s655 : F651 9 = iv ((scanRd l (vrT l bx yy (vrT l ax ay s1))).2.1) := (hF652 9).trans rfl
        clear hF652
        refine then_normal (wq_ret (stay_ret ?_))
        have B656 : Rdi w641 (fun i => (onB p) i ∨ ((onB g2) i)) p l (rdChT l k ax ay bx yy st) := (by rw [hT0]; first | exact rdi_close hf2 ho1 B647 B649 ap639 | exact rdi_close hf2 ho2 B647 B649 ap639)
        have gr657 : Grew w0 T_r (fun i => (onB p) i ∨ ((onB g2) i)) := fun i h => h.elim (fun y => gr623 i y) (fun y => gr633 i y)
        exact end_2 s653 rfl (res_stc (vs := (chL 0 0 0 0 0 (fun _ => (0 : Int)))) stcT_choice rfl s654 B642) (res_tmp (v := iv ((scanRd l (vrT l bx yy (vrT l ax ay s1))).2.1)) rfl s655) ⟨(fun i => (onB p) i ∨ ((onB g2) i)), (by rw [hR] <;> rfl), K650, ⟨B656, gr657⟩⟩
       ·replace c622 := of_decide_eq_false c622
        refine wq_skip (then_normal (wq_seq ?_))
        have hR := h1.trans (by unfold rd4; exact if_pos (by first | assumption | (apply Decidable.byContradiction; assumption)))
        have hT0 := (show rdChT l k ax ay bx yy st = (rdCh l k ax ay bx yy st).2.2 from if_pos (by rw [hR]))
        rw [hR] at hT0
        dsimp only at hT0
        rw [← rdSt_ok (by first | assumption | (apply Decidable.byContradiction; assumption))] at hT0
        obtain ⟨g2, a1, b1, a2, b2, hf2, hT2, ho1, ho2, hp2, hq2, hg2, ap1_, ap2_, ap3_⟩ := rdx_pop0 B575
        have gr663 : Grew w0 T_r (onB p) := fun i h => gr564 i ((fun i h => (hT2 i).2 (Or.inl h)) i h)
        have ap666 : Apart (onB p) (onB p21) := fun i h => ap567 i ((fun i h => (hT2 i).2 (Or.inl h)) i h)
        have ap667 : Apart (onB p) (onB p123) := fun i h => ap568 i ((fun i h => (hT2 i).2 (Or.inl h)) i h)
        have gr673 : Grew w0 T_r (onB g2) := fun i h => gr564 i ((fun i h => (hT2 i).2 (Or.inr (Or.inr h))) i h)
        have ap676 : Apart (onB g2) (onB p21) := fun i h => ap567 i ((fun i h => (hT2 i).2 (Or.inr (Or.inr h))) i h)
        have ap679 : Apart (onB p) (onB g2) := ap2_
        refine wq_region (wl_mv rfl rfl rfl s601 (wl_v (.agg #[.slice (some ⟨g2, 0, none⟩) l.length l.length, iv ((a2 : Nat) : Int), .bool b2]) rfl rfl (y_load_stc stcT_reader rfl s611 hq2 rr) (wl_v (pt p 0) rfl rfl (y_nilc rfl rfl rr) (wl_store_stc (us := [.slice (some ⟨g2, 0, none⟩) l.length l.length, iv ((a2 : Nat) : Int), .bool b2]) stcT_reader rfl rfl rfl rfl rfl hp2 rfl (oneI rfl (oneI rfl (oneI rfl oneN))) fun w681 B682 k683 => ?_))))
        have B686 := B574.all k683 (ap666.symm p21 rfl)
        have B687 := B570.all k683 (ap667.symm p123 rfl)
        have B689 := hg2.all k683 ap679.symm
        have K690 := K576.trans k683 (Grew.ok (S := T_r) gr663 (fun _ x => x))
        refine wl_nil fun F691 hF692 => ?_
        obtain ⟨s693, s694, s695⟩ := t3 hF692 68 s605 8 s608 11 s612
        clear hF692
        refine then_normal (wq_seq (wq_seq (wq_region (wl_v (.agg (chL m (vrX l ax ay s1) (vrY l ax ay s1) (vrX l bx yy (vrT l ax ay s1)) (vrY l bx yy (vrT l ax ay s1)) ((scanRd l (vrT l bx yy (vrT l ax ay s1))).1)).toArray) rfl rfl (y_load_stc stcT_choice rfl s695 B687 rr) (wl_store_stc (us := (chL m (vrX l ax ay s1) (vrY l ax ay s1) (vrX l bx yy (vrT l ax ay s1)) (vrY l bx yy (vrT l ax ay s1)) ((scanRd l (vrT l bx yy (vrT l ax ay s1))).1))) stcT_choice rfl rfl rfl s694 rfl B686 rfl (oneI rfl (oneI rfl (oneI rfl (oneI rfl (oneI rfl (oneI rfl (oneI rfl (oneI rfl (oneI rfl (oneI rfl (oneI rfl (oneI rfl (oneI rfl (oneI rfl (oneI rfl (oneI rfl (oneI rfl (oneI rfl (oneI rfl (oneI rfl (oneI rfl oneN))))))))))))))))))))) fun w696 B697 k698 => ?_)))))
        have B702 := B682.all k698 (ap666 p rfl)
        have B704 := B689.all k698 ap676
        have K705 := K690.trans k698 (Grew.ok (S := T_r) gr26 noB_le)
        refine wl_v (iv 0) rfl rfl (y_asg rfl rfl rr) (wl_nil fun F706 hF707 => ?_)
        obtain ⟨s708, s709⟩ := t2 hF707 68 s693 8 s694
        have s710 : F706 9 = iv 0 := (hF707 9).trans rfl
        clear hF707
        refine then_normal (wq_ret (then_ret (jump_ret ?_)))
        have B711 : Rdi w696 (fun i => (onB p) i ∨ ((onB g2) i)) p l (rdChT l k ax ay bx yy st) := (by rw [hT0]; first | exact rdi_close hf2 ho1 B702 B704 ap679 | exact rdi_close hf2 ho2 B702 B704 ap679)
        have gr712 : Grew w0 T_r (fun i => (onB p) i ∨ ((onB g2) i)) := fun i h => h.elim (fun y => gr663 i y) (fun y => gr673 i y)
        exact end_2 s708 rfl (res_stc (vs := (chL m (vrX l ax ay s1) (vrY l ax ay s1) (vrX l bx yy (vrT l ax ay s1)) (vrY l bx yy (vrT l ax ay s1)) ((scanRd l (vrT l bx yy (vrT l ax ay s1))).1))) stcT_choice rfl s709 B697) (res_tmp (v := iv 0) rfl s710) ⟨(fun i => (onB p) i ∨ ((onB g2) i)), (by rw [hR] <;> rfl), K705, ⟨B711, gr712⟩⟩
     ·skip
      refine wq_skip (then_normal (wq_seq (wq_seq ?_)))
      first | (rw [stV_no (has := nextB m) (by assumption)] at h1; replace h1 := h1.trans (by unfold rd3; exact if_pos rfl); (try dsimp only at h1)) | (have hv2 : vrE l bx yy (vrT l ax ay s1) = 0 := (by first | assumption | (apply Decidable.byContradiction; assumption)); replace h1 := h1.trans (by unfold rd3; exact if_pos hv2); (try dsimp only at h1); rw [← vrT_ok hv2] at h1) | (have hv2 : vrE l bx yy s1 = 0 := (by first | assumption | (apply Decidable.byContradiction; assumption)); replace h1 := h1.trans (by unfold rd3; exact if_pos hv2); (try dsimp only at h1); rw [← vrT_ok hv2] at h1)
      refine wq_region (wl_call (R := fun v_ w_ => ∃ (T720 : Nat → Prop), .tuple #[blkV ((scanRd l (vrT l ax ay s1)).1), iv ((scanRd l (vrT l ax ay s1)).2.1)] = v_ ∧ Kept T325 w338 w_ ∧ (Rdx w_ T720 p66 l (rdSt l (vrT l ax ay s1)) ([(p, st)]) ∧ Grew w338 T325 T720)) rfl rfl (y_cs rfl rfl rfl (fun _ _ => by kernel_rfl) (ev_func _) (vsC s438 vsN) (scan_readX p66 l (vrT l ax ay s1) ([(p, st)]) T325 _ (hO.but K345 (ovO hG)) (ovO (aboveN2 gr333 hG hA)) B344 ) (fun e_ w_ h_ => by obtain ⟨T720_, he_, hr_⟩ := h_; exact ⟨_, he_, T720_, rfl, hr_⟩)) ?_)
      rintro _ w718 ⟨T720, rfl, k719, ⟨B721, g722⟩⟩
      have B725 := B343.all k719 (ap336.symm p21 rfl)
      have B726 := B339.all k719 (ap337.symm p123 rfl)
      have K727 := K345.trans k719 (fun i hi x => ((Grew.ok (S := T_r) gr333 (fun _ x => x)) i hi x))
      have gr728 := gr333.trans K345 g722
      have ap731 : Apart T720 (onB p21) := ap336.grew g722 (onB_live B343.lt)
      have ap732 : Apart T720 (onB p123) := ap337.grew g722 (onB_live B339.lt)
      refine wl_v (.tuple #[blkV ((scanRd l (vrT l ax ay s1)).1), iv ((scanRd l (vrT l ax ay s1)).2.1)]) rfl rfl (y_mov rfl rfl rr) (wl_v (blkV ((scanRd l (vrT l ax ay s1)).1)) rfl rfl (y_ext rfl rfl rfl rr) (wl_v (iv ((scanRd l (vrT l ax ay s1)).2.1)) rfl rfl (y_ext rfl rfl rfl rr) (wl_v (pt p123 5) rfl rfl (y_fieldR (n := 16) rfl s439 Tryz.underlying31 rfl (by kernel_rfl) (by decide) rfl rr) (wl_setPart (us := arrL 16 ((scanRd l (vrT l ax ay s1)).1)) (ns := (chL m (vrX l ax ay s1) (vrY l ax ay s1) 0 0 ((scanRd l (vrT l ax ay s1)).1))) stcT_block rfl rfl rfl rfl rfl B726 (Nat.le_of_ble_eq_true rfl) (one_arrL _ _) rfl fun w733 B734 k735 => ?_))))
      have B738 := B725.all k735 (ap131.symm p21 rfl)
      have B739 := B721.all k735 ap732
      have K740 := K727.trans k735 (Grew.ok (S := T_r) gr128 noB_le)
      refine wl_v (iv ((scanRd l (vrT l ax ay s1)).2.1)) rfl rfl (y_asg rfl rfl rr) (wl_nil fun F741 hF742 => ?_)
      obtain ⟨s743, s747, s750, s753, s754⟩ := t5 hF742 0 s428 68 s432 8 s435 10 s438 11 s439
      have s761 : F741 14 = iv ((scanRd l (vrT l ax ay s1)).2.1) := (hF742 14).trans rfl
      clear hF742
      refine then_normal (wq_seq (wq_region (wl_mv rfl rfl rfl s761 (wl_v (.bool (decide (((scanRd l (vrT l ax ay s1)).2.1) ≠ 0))) rfl rfl (y_neqI rfl rfl rfl rfl rr) (wl_nil fun F762 hF763 => ?_)))))
      obtain ⟨s764, s768, s771, s774, s775, s782⟩ := t6 hF763 0 s743 68 s747 8 s750 10 s753 11 s754 14 s761
      have s783 : F762 61 = .bool (decide (((scanRd l (vrT l ax ay s1)).2.1) ≠ 0)) := (hF763 61).trans rfl
      clear hF763
      refine then_normal ?_
      refine wq_cond s783 (fun c784 => ?_) (fun c784 => ?_)
      ·replace c784 := of_decide_eq_true c784
       refine wq_goto (then_goto ?_)
       refine jump_goto ⟨_, rfl, ?_⟩
       refine wq_seq (wq_skip (then_normal (wq_seq ?_)))
       first | have hR := h1.trans (by unfold rd2; exact if_neg (by assumption)) | have hR := h1.trans (by unfold rd3; exact if_neg (by assumption)) | have hR := h1.trans (by unfold rd4; exact if_neg (by assumption)) | (have hRR := rdCh_no (l := l) (k := k) (ax := ax) (ay := ay) (bx := bx) (yy := yy) hm hs1 (by first | exact Or.inl (by assumption) | exact Or.inr (by assumption)); obtain ⟨s9, hR⟩ := hRR)
       have hT0 : rdChT l k ax ay bx yy st = st := by unfold rdChT; rw [hR]; exact if_neg (by first | assumption | (intro z; exact absurd (show (120 : Int) = 0 from z) (by decide)))
       obtain ⟨g2, a1, b1, a2, b2, hf2, hT2, ho1, ho2, hp2, hq2, hg2, ap1_, ap2_, ap3_⟩ := rdx_pop0 B739
       have gr785 : Grew w0 T_r (onB p) := fun i h => gr728 i ((fun i h => (hT2 i).2 (Or.inl h)) i h)
       have ap788 : Apart (onB p) (onB p21) := fun i h => ap731 i ((fun i h => (hT2 i).2 (Or.inl h)) i h)
       have gr795 : Grew w0 T_r (onB g2) := fun i h => gr728 i ((fun i h => (hT2 i).2 (Or.inr (Or.inr h))) i h)
       have ap798 : Apart (onB g2) (onB p21) := fun i h => ap731 i ((fun i h => (hT2 i).2 (Or.inr (Or.inr h))) i h)
       have ap801 : Apart (onB p) (onB g2) := ap2_
       refine wq_region (wl_v (.agg (chL 0 0 0 0 0 (fun _ => (0 : Int))).toArray) rfl rfl (y_buildL (l' := []) (cells := (chL 0 0 0 0 0 (fun _ => (0 : Int))).toArray) rfl bpN (by kernel_rfl) rfl rr) (wl_mv rfl rfl rfl s782 (wl_store_stc (us := (chL 0 0 0 0 0 (fun _ => (0 : Int)))) stcT_choice rfl rfl rfl s771 rfl B738 rfl (oneI rfl (oneI rfl (oneI rfl (oneI rfl (oneI rfl (oneI rfl (oneI rfl (oneI rfl (oneI rfl (oneI rfl (oneI rfl (oneI rfl (oneI rfl (oneI rfl (oneI rfl (oneI rfl (oneI rfl (oneI rfl (oneI rfl (oneI rfl (oneI rfl oneN))))))))))))))))))))) fun w803 B804 k805 => ?_)))
       have B809 := hp2.all k805 (ap788 p rfl)
       have B811 := hg2.all k805 ap798
       have K812 := K740.trans k805 (Grew.ok (S := T_r) gr26 noB_le)
       refine wl_v (iv ((scanRd l (vrT l ax ay s1)).2.1)) rfl rfl (y_asg rfl rfl rr) (wl_nil fun F813 hF814 => ?_)
       obtain ⟨s815, s816⟩ := t2 hF814 68 s768 8 s771
       have s817 : F813 9 = iv ((scanRd l (vrT l ax ay s1)).2.1) := (hF814 9).trans rfl
       clear hF814
       refine then_normal (wq_ret (stay_ret ?_))
       have B818 : Rdi w803 (fun i => (onB p) i ∨ ((onB g2) i)) p l (rdChT l k ax ay bx yy st) := (by rw [hT0]; first | exact rdi_close hf2 ho1 B809 B811 ap801 | exact rdi_close hf2 ho2 B809 B811 ap801)
       have gr819 : Grew w0 T_r (fun i => (onB p) i ∨ ((onB g2) i)) := fun i h => h.elim (fun y => gr785 i y) (fun y => gr795 i y)
       exact end_2 s815 rfl (res_stc (vs := (chL 0 0 0 0 0 (fun _ => (0 : Int)))) stcT_choice rfl s816 B804) (res_tmp (v := iv ((scanRd l (vrT l ax ay s1)).2.1)) rfl s817) ⟨(fun i => (onB p) i ∨ ((onB g2) i)), (by rw [hR] <;> rfl), K812, ⟨B818, gr819⟩⟩
      ·replace c784 := of_decide_eq_false c784
       refine wq_skip (then_normal (wq_seq ?_))
       have hR := h1.trans (by unfold rd4; exact if_pos (by first | assumption | (apply Decidable.byContradiction; assumption)))
       have hT0 := (show rdChT l k ax ay bx yy st = (rdCh l k ax ay bx yy st).2.2 from if_pos (by rw [hR]))
       rw [hR] at hT0
       dsimp only at hT0
       rw [← rdSt_ok (by first | assumption | (apply Decidable.byContradiction; assumption))] at hT0
       obtain ⟨g2, a1, b1, a2, b2, hf2, hT2, ho1, ho2, hp2, hq2, hg2, ap1_, ap2_, ap3_⟩ := rdx_pop0 B739
       have gr825 : Grew w0 T_r (onB p) := fun i h => gr728 i ((fun i h => (hT2 i).2 (Or.inl h)) i h)
       have ap828 : Apart (onB p) (onB p21) := fun i h => ap731 i ((fun i h => (hT2 i).2 (Or.inl h)) i h)
       have ap829 : Apart (onB p) (onB p123) := fun i h => ap732 i ((fun i h => (hT2 i).2 (Or.inl h)) i h)
       have gr835 : Grew w0 T_r (onB g2) := fun i h => gr728 i ((fun i h => (hT2 i).2 (Or.inr (Or.inr h))) i h)
       have ap838 : Apart (onB g2) (onB p21) := fun i h => ap731 i ((fun i h => (hT2 i).2 (Or.inr (Or.inr h))) i h)
       have ap841 : Apart (onB p) (onB g2) := ap2_
       refine wq_region (wl_mv rfl rfl rfl s764 (wl_v (.agg #[.slice (some ⟨g2, 0, none⟩) l.length l.length, iv ((a2 : Nat) : Int), .bool b2]) rfl rfl (y_load_stc stcT_reader rfl s774 hq2 rr) (wl_v (pt p 0) rfl rfl (y_nilc rfl rfl rr) (wl_store_stc (us := [.slice (some ⟨g2, 0, none⟩) l.length l.length, iv ((a2 : Nat) : Int), .bool b2]) stcT_reader rfl rfl rfl rfl rfl hp2 rfl (oneI rfl (oneI rfl (oneI rfl oneN))) fun w843 B844 k845 => ?_))))
       have B848 := B738.all k845 (ap828.symm p21 rfl)
       have B849 := B734.all k845 (ap829.symm p123 rfl)
       have B851 := hg2.all k845 ap841.symm
       have K852 := K740.trans k845 (Grew.ok (S := T_r) gr825 (fun _ x => x))
       refine wl_nil fun F853 hF854 => ?_
       obtain ⟨s855, s856, s857⟩ := t3 hF854 68 s768 8 s771 11 s775
       clear hF854
       refine then_normal (wq_seq (wq_seq (wq_region (wl_v (.agg (chL m (vrX l ax ay s1) (vrY l ax ay s1) 0 0 ((scanRd l (vrT l ax ay s1)).1)).toArray) rfl rfl (y_load_stc stcT_choice rfl s857 B849 rr) (wl_store_stc (us := (chL m (vrX l ax ay s1) (vrY l ax ay s1) 0 0 ((scanRd l (vrT l ax ay s1)).1))) stcT_choice rfl rfl rfl s856 rfl B848 rfl (oneI rfl (oneI rfl (oneI rfl (oneI rfl (oneI rfl (oneI rfl (oneI rfl (oneI rfl (oneI rfl (oneI rfl (oneI rfl (oneI rfl (oneI rfl (oneI rfl (oneI rfl (oneI rfl (oneI rfl (oneI rfl (oneI rfl (oneI rfl (oneI rfl oneN))))))))))))))))))))) fun w858 B859 k860 => ?_)))))
       have B864 := B844.all k860 (ap828 p rfl)
       have B866 := B851.all k860 ap838
       have K867 := K852.trans k860 (Grew.ok (S := T_r) gr26 noB_le)
       refine wl_v (iv 0) rfl rfl (y_asg rfl rfl rr) (wl_nil fun F868 hF869 => ?_)
       obtain ⟨s870, s871⟩ := t2 hF869 68 s855 8 s856
       have s872 : F868 9 = iv 0 := (hF869 9).trans rfl
       clear hF869
       refine then_normal (wq_ret (then_ret (jump_ret ?_)))
       have B873 : Rdi w858 (fun i => (onB p) i ∨ ((onB g2) i)) p l (rdChT l k ax ay bx yy st) := (by rw [hT0]; first | exact rdi_close hf2 ho1 B864 B866 ap841 | exact rdi_close hf2 ho2 B864 B866 ap841)
       have gr874 : Grew w0 T_r (fun i => (onB p) i ∨ ((onB g2) i)) := fun i h => h.elim (fun y => gr825 i y) (fun y => gr835 i y)
       exact end_2 s870 rfl (res_stc (vs := (chL m (vrX l ax ay s1) (vrY l ax ay s1) 0 0 ((scanRd l (vrT l ax ay s1)).1))) stcT_choice rfl s871 B859) (res_tmp (v := iv 0) rfl s872) ⟨(fun i => (onB p) i ∨ ((onB g2) i)), (by rw [hR] <;> rfl), K867, ⟨B873, gr874⟩⟩
   ·skip
    refine wq_skip (then_normal (wq_seq (wq_seq ?_)))
    first | (rw [stV_no (has := pastB m) (by assumption)] at h1; replace h1 := h1.trans (by unfold rd2; exact if_pos rfl); (try dsimp only at h1)) | (have hv1 : vrE l ax ay s1 = 0 := (by first | assumption | (apply Decidable.byContradiction; assumption)); replace h1 := h1.trans (by unfold rd2; exact if_pos hv1); (try dsimp only at h1); rw [← vrT_ok hv1] at h1)
    refine wq_region (wl_mv rfl rfl rfl s319 (wl_nil fun F880 hF881 => ?_))
    obtain ⟨s882, s886, s888, s889, s892, s893⟩ := t6 hF881 0 s306 68 s310 7 s312 8 s313 10 s316 11 s317
    have s898 : F880 46 = .bool (nextB m) := (hF881 46).trans rfl
    clear hF881
    refine then_normal ?_
    refine wq_cond s898 (fun c899 => ?_) (fun c899 => ?_)
    ·skip
     refine wq_seq ?_
     rw [stV_yes (has := nextB m) (by assumption)] at h1
     refine wq_region (wl_v (.agg #[iv bx, iv yy]) rfl rfl (y_load_stc stcT_vector rfl s888 B281 rr) (wl_call (R := fun v_ w_ => ∃ (T902 : Nat → Prop), .tuple #[.agg #[iv (vrX l bx yy s1), iv (vrY l bx yy s1)], iv (vrE l bx yy s1)] = v_ ∧ Kept T112 w278 w_ ∧ (Rdx w_ T902 p66 l (vrT l bx yy s1) ([(p, st)]) ∧ Grew w278 T112 T902)) rfl rfl (y_cs rfl rfl rfl (fun _ _ => by kernel_rfl) (ev_func _) (vsC s892 (vsC rfl vsN)) (vt_readX p66 l s1 ([(p, st)]) bx yy T112 _  B283 ) (fun e_ w_ h_ => by obtain ⟨T902_, he_, hr_⟩ := h_; exact ⟨_, he_, T902_, rfl, hr_⟩)) ?_))
     rintro _ w900 ⟨T902, rfl, k901, ⟨B903, g904⟩⟩
     have B907 := B282.all k901 (ap122.symm p21 rfl)
     have B908 := B284.all k901 (ap132 p123 rfl)
     have K909 := K285.trans k901 (fun i hi x => ((Grew.ok (S := T_r) gr119 (fun _ x => x)) i hi x))
     have gr910 := gr119.trans K285 g904
     have ap913 : Apart T902 (onB p21) := ap122.grew g904 (onB_live B282.lt)
     have ap914 : Apart T902 (onB p123) := (ap132.symm).grew g904 (onB_live B284.lt)
     refine wl_v (.tuple #[.agg #[iv (vrX l bx yy s1), iv (vrY l bx yy s1)], iv (vrE l bx yy s1)]) rfl rfl (y_mov rfl rfl rr) (wl_v (.agg #[iv (vrX l bx yy s1), iv (vrY l bx yy s1)]) rfl rfl (y_ext rfl rfl rfl rr) (wl_v (iv (vrE l bx yy s1)) rfl rfl (y_ext rfl rfl rfl rr) (wl_v (pt p123 3) rfl rfl (y_fieldR (n := 2) rfl s893 Tryz.underlying31 rfl (by kernel_rfl) (by decide) rfl rr) (wl_setPart (us := [iv (vrX l bx yy s1), iv (vrY l bx yy s1)]) (ns := (chL m 0 0 (vrX l bx yy s1) (vrY l bx yy s1) (fun _ => (0 : Int)))) stcT_vector rfl rfl rfl rfl rfl B908 (Nat.le_of_ble_eq_true rfl) (oneI rfl (oneI rfl oneN)) rfl fun w915 B916 k917 => ?_))))
     have B920 := B907.all k917 (ap131.symm p21 rfl)
     have B921 := B903.all k917 ap914
     have K922 := K909.trans k917 (Grew.ok (S := T_r) gr128 noB_le)
     refine wl_v (iv (vrE l bx yy s1)) rfl rfl (y_asg rfl rfl rr) (wl_nil fun F923 hF924 => ?_)
     obtain ⟨s925, s929, s932, s935, s936⟩ := t5 hF924 0 s882 68 s886 8 s889 10 s892 11 s893
     have s942 : F923 14 = iv (vrE l bx yy s1) := (hF924 14).trans rfl
     clear hF924
     refine then_normal (wq_seq (wq_region (wl_mv rfl rfl rfl s942 (wl_v (.bool (decide ((vrE l bx yy s1) ≠ 0))) rfl rfl (y_neqI rfl rfl rfl rfl rr) (wl_nil fun F943 hF944 => ?_)))))
     obtain ⟨s945, s949, s952, s955, s956, s962⟩ := t6 hF944 0 s925 68 s929 8 s932 10 s935 11 s936 14 s942
     have s963 : F943 54 = .bool (decide ((vrE l bx yy s1) ≠ 0)) := (hF944 54).trans rfl
     clear hF944
     refine then_normal ?_
     refine wq_cond s963 (fun c964 => ?_) (fun c964 => ?_)
     ·replace c964 := of_decide_eq_true c964
      refine wq_goto (then_goto ?_)
      refine jump_goto ⟨_, rfl, ?_⟩
      refine wq_seq (wq_skip (then_normal (wq_seq ?_)))
      first | have hR := h1.trans (by unfold rd2; exact if_neg (by assumption)) | have hR := h1.trans (by unfold rd3; exact if_neg (by assumption)) | have hR := h1.trans (by unfold rd4; exact if_neg (by assumption)) | (have hRR := rdCh_no (l := l) (k := k) (ax := ax) (ay := ay) (bx := bx) (yy := yy) hm hs1 (by first | exact Or.inl (by assumption) | exact Or.inr (by assumption)); obtain ⟨s9, hR⟩ := hRR)
      have hT0 : rdChT l k ax ay bx yy st = st := by unfold rdChT; rw [hR]; exact if_neg (by first | assumption | (intro z; exact absurd (show (120 : Int) = 0 from z) (by decide)))
      obtain ⟨g2, a1, b1, a2, b2, hf2, hT2, ho1, ho2, hp2, hq2, hg2, ap1_, ap2_, ap3_⟩ := rdx_pop0 B921
      have gr965 : Grew w0 T_r (onB p) := fun i h => gr910 i ((fun i h => (hT2 i).2 (Or.inl h)) i h)
      have ap968 : Apart (onB p) (onB p21) := fun i h => ap913 i ((fun i h => (hT2 i).2 (Or.inl h)) i h)
      have gr975 : Grew w0 T_r (onB g2) := fun i h => gr910 i ((fun i h => (hT2 i).2 (Or.inr (Or.inr h))) i h)
      have ap978 : Apart (onB g2) (onB p21) := fun i h => ap913 i ((fun i h => (hT2 i).2 (Or.inr (Or.inr h))) i h)
      have ap981 : Apart (onB p) (onB g2) := ap2_
      refine wq_region (wl_v (.agg (chL 0 0 0 0 0 (fun _ => (0 : Int))).toArray) rfl rfl (y_buildL (l' := []) (cells := (chL 0 0 0 0 0 (fun _ => (0 : Int))).toArray) rfl bpN (by kernel_rfl) rfl rr) (wl_mv rfl rfl rfl s962 (wl_store_stc (us := (chL 0 0 0 0 0 (fun _ => (0 : Int)))) stcT_choice rfl rfl rfl s952 rfl B920 rfl (oneI rfl (oneI rfl (oneI rfl (oneI rfl (oneI rfl (oneI rfl (oneI rfl (oneI rfl (oneI rfl (oneI rfl (oneI rfl (oneI rfl (oneI rfl (oneI rfl (oneI rfl (oneI rfl (oneI rfl (oneI rfl (oneI rfl (oneI rfl (oneI rfl oneN))))))))))))))))))))) fun w983 B984 k985 => ?_)))
      have B989 := hp2.all k985 (ap968 p rfl)
      have B991 := hg2.all k985 ap978
      have K992 := K922.trans k985 (Grew.ok (S := T_r) gr26 noB_le)
      refine wl_v (iv (vrE l bx yy s1)) rfl rfl (y_asg rfl rfl rr) (wl_nil fun F993 hF994 => ?_)
      obtain ⟨s995, s996⟩ := t2 hF994 68 s949 8 s952
      have s997 : F993 9 = iv (vrE l bx yy s1) := (hF994 9).trans rfl
      clear hF994
      refine then_normal (wq_ret (stay_ret ?_))
      have B998 : Rdi w983 (fun i => (onB p) i ∨ ((onB g2) i)) p l (rdChT l k ax ay bx yy st) := (by rw [hT0]; first | exact rdi_close hf2 ho1 B989 B991 ap981 | exact rdi_close hf2 ho2 B989 B991 ap981)
      have gr999 : Grew w0 T_r (fun i => (onB p) i ∨ ((onB g2) i)) := fun i h => h.elim (fun y => gr965 i y) (fun y => gr975 i y)
      exact end_2 s995 rfl (res_stc (vs := (chL 0 0 0 0 0 (fun _ => (0 : Int)))) stcT_choice rfl s996 B984) (res_tmp (v := iv (vrE l bx yy s1)) rfl s997) ⟨(fun i => (onB p) i ∨ ((onB g2) i)), (by rw [hR] <;> rfl), K992, ⟨B998, gr999⟩⟩
     ·replace c964 := of_decide_eq_false c964
      refine wq_skip (then_normal (wq_seq (wq_seq ?_)))
      first | (rw [stV_no (has := nextB m) (by assumption)] at h1; replace h1 := h1.trans (by unfold rd3; exact if_pos rfl); (try dsimp only at h1)) | (have hv2 : vrE l bx yy (vrT l ax ay s1) = 0 := (by first | assumption | (apply Decidable.byContradiction; assumption)); replace h1 := h1.trans (by unfold rd3; exact if_pos hv2); (try dsimp only at h1); rw [← vrT_ok hv2] at h1) | (have hv2 : vrE l bx yy s1 = 0 := (by first | assumption | (apply Decidable.byContradiction; assumption)); replace h1 := h1.trans (by unfold rd3; exact if_pos hv2); (try dsimp only at h1); rw [← vrT_ok hv2] at h1)
      refine wq_region (wl_call (R := fun v_ w_ => ∃ (T1007 : Nat → Prop), .tuple #[blkV ((scanRd l (vrT l bx yy s1)).1), iv ((scanRd l (vrT l bx yy s1)).2.1)] = v_ ∧ Kept T902 w915 w_ ∧ (Rdx w_ T1007 p66 l (rdSt l (vrT l bx yy s1)) ([(p, st)]) ∧ Grew w915 T902 T1007)) rfl rfl (y_cs rfl rfl rfl (fun _ _ => by kernel_rfl) (ev_func _) (vsC s955 vsN) (scan_readX p66 l (vrT l bx yy s1) ([(p, st)]) T902 _ (hO.but K922 (ovO hG)) (ovO (aboveN2 gr910 hG hA)) B921 ) (fun e_ w_ h_ => by obtain ⟨T1007_, he_, hr_⟩ := h_; exact ⟨_, he_, T1007_, rfl, hr_⟩)) ?_)
      rintro _ w1005 ⟨T1007, rfl, k1006, ⟨B1008, g1009⟩⟩
      have B1012 := B920.all k1006 (ap913.symm p21 rfl)
      have B1013 := B916.all k1006 (ap914.symm p123 rfl)
      have K1014 := K922.trans k1006 (fun i hi x => ((Grew.ok (S := T_r) gr910 (fun _ x => x)) i hi x))
      have gr1015 := gr910.trans K922 g1009
      have ap1018 : Apart T1007 (onB p21) := ap913.grew g1009 (onB_live B920.lt)
      have ap1019 : Apart T1007 (onB p123) := ap914.grew g1009 (onB_live B916.lt)
      refine wl_v (.tuple #[blkV ((scanRd l (vrT l bx yy s1)).1), iv ((scanRd l (vrT l bx yy s1)).2.1)]) rfl rfl (y_mov rfl rfl rr) (wl_v (blkV ((scanRd l (vrT l bx yy s1)).1)) rfl rfl (y_ext rfl rfl rfl rr) (wl_v (iv ((scanRd l (vrT l bx yy s1)).2.1)) rfl rfl (y_ext rfl rfl rfl rr) (wl_v (pt p123 5) rfl rfl (y_fieldR (n := 16) rfl s956 Tryz.underlying31 rfl (by kernel_rfl) (by decide) rfl rr) (wl_setPart (us := arrL 16 ((scanRd l (vrT l bx yy s1)).1)) (ns := (chL m 0 0 (vrX l bx yy s1) (vrY l bx yy s1) ((scanRd l (vrT l bx yy s1)).1))) stcT_block rfl rfl rfl rfl rfl B1013 (Nat.le_of_ble_eq_true rfl) (one_arrL _ _) rfl fun w1020 B1021 k1022 => ?_))))
      have B1025 := B1012.all k1022 (ap131.symm p21 rfl)
      have B1026 := B1008.all k1022 ap1019
      have K1027 := K1014.trans k1022 (Grew.ok (S := T_r) gr128 noB_le)
      refine wl_v (iv ((scanRd l (vrT l bx yy s1)).2.1)) rfl rfl (y_asg rfl rfl rr) (wl_nil fun F1028 hF1029 => ?_)
      obtain ⟨s1030, s1034, s1037, s1040, s1041⟩ := t5 hF1029 0 s945 68 s949 8 s952 10 s955 11 s956
      have s1048 : F1028 14 = iv ((scanRd l (vrT l bx yy s1)).2.1) := (hF1029 14).trans rfl
      clear hF1029
      refine then_normal (wq_seq (wq_region (wl_mv rfl rfl rfl s1048 (wl_v (.bool (decide (((scanRd l (vrT l bx yy s1)).2.1) ≠ 0))) rfl rfl (y_neqI rfl rfl rfl rfl rr) (wl_nil fun F1049 hF1050 => ?_)))))
      obtain ⟨s1051, s1055, s1058, s1061, s1062, s1069⟩ := t6 hF1050 0 s1030 68 s1034 8 s1037 10 s1040 11 s1041 14 s1048
      have s1070 : F1049 61 = .bool (decide (((scanRd l (vrT l bx yy s1)).2.1) ≠ 0)) := (hF1050 61).trans rfl
      clear hF1050
      refine then_normal ?_
      refine wq_cond s1070 (fun c1071 => ?_) (fun c1071 => ?_)
      ·replace c1071 := of_decide_eq_true c1071
       refine wq_goto (then_goto ?_)
       refine jump_goto ⟨_, rfl, ?_⟩
       refine wq_seq (wq_skip (then_normal (wq_seq ?_)))
       first | have hR := h1.trans (by unfold rd2; exact if_neg (by assumption)) | have hR := h1.trans (by unfold rd3; exact if_neg (by assumption)) | have hR := h1.trans (by unfold rd4; exact if_neg (by assumption)) | (have hRR := rdCh_no (l := l) (k := k) (ax := ax) (ay := ay) (bx := bx) (yy := yy) hm hs1 (by first | exact Or.inl (by assumption) | exact Or.inr (by assumption)); obtain ⟨s9, hR⟩ := hRR)
       have hT0 : rdChT l k ax ay bx yy st = st := by unfold rdChT; rw [hR]; exact if_neg (by first | assumption | (intro z; exact absurd (show (120 : Int) = 0 from z) (by decide)))
       obtain ⟨g2, a1, b1, a2, b2, hf2, hT2, ho1, ho2, hp2, hq2, hg2, ap1_, ap2_, ap3_⟩ := rdx_pop0 B1026
       have gr1072 : Grew w0 T_r (onB p) := fun i h => gr1015 i ((fun i h => (hT2 i).2 (Or.inl h)) i h)
       have ap1075 : Apart (onB p) (onB p21) := fun i h => ap1018 i ((fun i h => (hT2 i).2 (Or.inl h)) i h)
       have gr1082 : Grew w0 T_r (onB g2) := fun i h => gr1015 i ((fun i h => (hT2 i).2 (Or.inr (Or.inr h))) i h)
       have ap1085 : Apart (onB g2) (onB p21) := fun i h => ap1018 i ((fun i h => (hT2 i).2 (Or.inr (Or.inr h))) i h)
       have ap1088 : Apart (onB p) (onB g2) := ap2_
       refine wq_region (wl_v (.agg (chL 0 0 0 0 0 (fun _ => (0 : Int))).toArray) rfl rfl (y_buildL (l' := []) (cells := (chL 0 0 0 0 0 (fun _ => (0 : Int))).toArray) rfl bpN (by kernel_rfl) rfl rr) (wl_mv rfl rfl rfl s1069 (wl_store_stc (us := (chL 0 0 0 0 0 (fun _ => (0 : Int)))) stcT_choice rfl rfl rfl s1058 rfl B1025 rfl (oneI rfl (oneI rfl (oneI rfl (oneI rfl (oneI rfl (oneI rfl (oneI rfl (oneI rfl (oneI rfl (oneI rfl (oneI rfl (oneI rfl (oneI rfl (oneI rfl (oneI rfl (oneI rfl (oneI rfl (oneI rfl (oneI rfl (oneI rfl (oneI rfl oneN))))))))))))))))))))) fun w1090 B1091 k1092 => ?_)))
       have B1096 := hp2.all k1092 (ap1075 p rfl)
       have B1098 := hg2.all k1092 ap1085
       have K1099 := K1027.trans k1092 (Grew.ok (S := T_r) gr26 noB_le)
       refine wl_v (iv ((scanRd l (vrT l bx yy s1)).2.1)) rfl rfl (y_asg rfl rfl rr) (wl_nil fun F1100 hF1101 => ?_)
       obtain ⟨s1102, s1103⟩ := t2 hF1101 68 s1055 8 s1058
       have s1104 : F1100 9 = iv ((scanRd l (vrT l bx yy s1)).2.1) := (hF1101 9).trans rfl
       clear hF1101
       refine then_normal (wq_ret (stay_ret ?_))
       have B1105 : Rdi w1090 (fun i => (onB p) i ∨ ((onB g2) i)) p l (rdChT l k ax ay bx yy st) := (by rw [hT0]; first | exact rdi_close hf2 ho1 B1096 B1098 ap1088 | exact rdi_close hf2 ho2 B1096 B1098 ap1088)
       have gr1106 : Grew w0 T_r (fun i => (onB p) i ∨ ((onB g2) i)) := fun i h => h.elim (fun y => gr1072 i y) (fun y => gr1082 i y)
       exact end_2 s1102 rfl (res_stc (vs := (chL 0 0 0 0 0 (fun _ => (0 : Int)))) stcT_choice rfl s1103 B1091) (res_tmp (v := iv ((scanRd l (vrT l bx yy s1)).2.1)) rfl s1104) ⟨(fun i => (onB p) i ∨ ((onB g2) i)), (by rw [hR] <;> rfl), K1099, ⟨B1105, gr1106⟩⟩
      ·replace c1071 := of_decide_eq_false c1071
       refine wq_skip (then_normal (wq_seq ?_))
       have hR := h1.trans (by unfold rd4; exact if_pos (by first | assumption | (apply Decidable.byContradiction; assumption)))
       have hT0 := (show rdChT l k ax ay bx yy st = (rdCh l k ax ay bx yy st).2.2 from if_pos (by rw [hR]))
       rw [hR] at hT0
       dsimp only at hT0
       rw [← rdSt_ok (by first | assumption | (apply Decidable.byContradiction; assumption))] at hT0
       obtain ⟨g2, a1, b1, a2, b2, hf2, hT2, ho1, ho2, hp2, hq2, hg2, ap1_, ap2_, ap3_⟩ := rdx_pop0 B1026
       have gr1112 : Grew w0 T_r (onB p) := fun i h => gr1015 i ((fun i h => (hT2 i).2 (Or.inl h)) i h)
       have ap1115 : Apart (onB p) (onB p21) := fun i h => ap1018 i ((fun i h => (hT2 i).2 (Or.inl h)) i h)
       have ap1116 : Apart (onB p) (onB p123) := fun i h => ap1019 i ((fun i h => (hT2 i).2 (Or.inl h)) i h)
       have gr1122 : Grew w0 T_r (onB g2) := fun i h => gr1015 i ((fun i h => (hT2 i).2 (Or.inr (Or.inr h))) i h)
       have ap1125 : Apart (onB g2) (onB p21) := fun i h => ap1018 i ((fun i h => (hT2 i).2 (Or.inr (Or.inr h))) i h)
       have ap1128 : Apart (onB p) (onB g2) := ap2_
       refine wq_region (wl_mv rfl rfl rfl s1051 (wl_v (.agg #[.slice (some ⟨g2, 0, none⟩) l.length l.length, iv ((a2 : Nat) : Int), .bool b2]) rfl rfl (y_load_stc stcT_reader rfl s1061 hq2 rr) (wl_v (pt p 0) rfl rfl (y_nilc rfl rfl rr) (wl_store_stc (us := [.slice (some ⟨g2, 0, none⟩) l.length l.length, iv ((a2 : Nat) : Int), .bool b2]) stcT_reader rfl rfl rfl rfl rfl hp2 rfl (oneI rfl (oneI rfl (oneI rfl oneN))) fun w1130 B1131 k1132 => ?_))))
       have B1135 := B1025.all k1132 (ap1115.symm p21 rfl)
       have B1136 := B1021.all k1132 (ap1116.symm p123 rfl)
       have B1138 := hg2.all k1132 ap1128.symm
       have K1139 := K1027.trans k1132 (Grew.ok (S := T_r) gr1112 (fun _ x => x))
       refine wl_nil fun F1140 hF1141 => ?_
       obtain ⟨s1142, s1143, s1144⟩ := t3 hF1141 68 s1055 8 s1058 11 s1062
       clear hF1141
       refine then_normal (wq_seq (wq_seq (wq_region (wl_v (.agg (chL m 0 0 (vrX l bx yy s1) (vrY l bx yy s1) ((scanRd l (vrT l bx yy s1)).1)).toArray) rfl rfl (y_load_stc stcT_choice rfl s1144 B1136 rr) (wl_store_stc (us := (chL m 0 0 (vrX l bx yy s1) (vrY l bx yy s1) ((scanRd l (vrT l bx yy s1)).1))) stcT_choice rfl rfl rfl s1143 rfl B1135 rfl (oneI rfl (oneI rfl (oneI rfl (oneI rfl (oneI rfl (oneI rfl (oneI rfl (oneI rfl (oneI rfl (oneI rfl (oneI rfl (oneI rfl (oneI rfl (oneI rfl (oneI rfl (oneI rfl (oneI rfl (oneI rfl (oneI rfl (oneI rfl (oneI rfl oneN))))))))))))))))))))) fun w1145 B1146 k1147 => ?_)))))
       have B1151 := B1131.all k1147 (ap1115 p rfl)
       have B1153 := B1138.all k1147 ap1125
       have K1154 := K1139.trans k1147 (Grew.ok (S := T_r) gr26 noB_le)
       refine wl_v (iv 0) rfl rfl (y_asg rfl rfl rr) (wl_nil fun F1155 hF1156 => ?_)
       obtain ⟨s1157, s1158⟩ := t2 hF1156 68 s1142 8 s1143
       have s1159 : F1155 9 = iv 0 := (hF1156 9).trans rfl
       clear hF1156
       refine then_normal (wq_ret (then_ret (jump_ret ?_)))
       have B1160 : Rdi w1145 (fun i => (onB p) i ∨ ((onB g2) i)) p l (rdChT l k ax ay bx yy st) := (by rw [hT0]; first | exact rdi_close hf2 ho1 B1151 B1153 ap1128 | exact rdi_close hf2 ho2 B1151 B1153 ap1128)
       have gr1161 : Grew w0 T_r (fun i => (onB p) i ∨ ((onB g2) i)) := fun i h => h.elim (fun y => gr1112 i y) (fun y => gr1122 i y)
       exact end_2 s1157 rfl (res_stc (vs := (chL m 0 0 (vrX l bx yy s1) (vrY l bx yy s1) ((scanRd l (vrT l bx yy s1)).1))) stcT_choice rfl s1158 B1146) (res_tmp (v := iv 0) rfl s1159) ⟨(fun i => (onB p) i ∨ ((onB g2) i)), (by rw [hR] <;> rfl), K1154, ⟨B1160, gr1161⟩⟩
    ·skip
     refine wq_skip (then_normal (wq_seq (wq_seq ?_)))
     first | (rw [stV_no (has := nextB m) (by assumption)] at h1; replace h1 := h1.trans (by unfold rd3; exact if_pos rfl); (try dsimp only at h1)) | (have hv2 : vrE l bx yy (vrT l ax ay s1) = 0 := (by first | assumption | (apply Decidable.byContradiction; assumption)); replace h1 := h1.trans (by unfold rd3; exact if_pos hv2); (try dsimp only at h1); rw [← vrT_ok hv2] at h1) | (have hv2 : vrE l bx yy s1 = 0 := (by first | assumption | (apply Decidable.byContradiction; assumption)); replace h1 := h1.trans (by unfold rd3; exact if_pos hv2); (try dsimp only at h1); rw [← vrT_ok hv2] at h1)
     refine wq_region (wl_call (R := fun v_ w_ => ∃ (T1169 : Nat → Prop), .tuple #[blkV ((scanRd l s1).1), iv ((scanRd l s1).2.1)] = v_ ∧ Kept T112 w278 w_ ∧ (Rdx w_ T1169 p66 l (rdSt l s1) ([(p, st)]) ∧ Grew w278 T112 T1169)) rfl rfl (y_cs rfl rfl rfl (fun _ _ => by kernel_rfl) (ev_func _) (vsC s892 vsN) (scan_readX p66 l s1 ([(p, st)]) T112 _ (hO.but K285 (ovO hG)) (ovO (aboveN2 gr119 hG hA)) B283 ) (fun e_ w_ h_ => by obtain ⟨T1169_, he_, hr_⟩ := h_; exact ⟨_, he_, T1169_, rfl, hr_⟩)) ?_)
     rintro _ w1167 ⟨T1169, rfl, k1168, ⟨B1170, g1171⟩⟩
     have B1174 := B282.all k1168 (ap122.symm p21 rfl)
     have B1175 := B284.all k1168 (ap132 p123 rfl)
     have K1176 := K285.trans k1168 (fun i hi x => ((Grew.ok (S := T_r) gr119 (fun _ x => x)) i hi x))
     have gr1177 := gr119.trans K285 g1171
     have ap1180 : Apart T1169 (onB p21) := ap122.grew g1171 (onB_live B282.lt)
     have ap1181 : Apart T1169 (onB p123) := (ap132.symm).grew g1171 (onB_live B284.lt)
     refine wl_v (.tuple #[blkV ((scanRd l s1).1), iv ((scanRd l s1).2.1)]) rfl rfl (y_mov rfl rfl rr) (wl_v (blkV ((scanRd l s1).1)) rfl rfl (y_ext rfl rfl rfl rr) (wl_v (iv ((scanRd l s1).2.1)) rfl rfl (y_ext rfl rfl rfl rr) (wl_v (pt p123 5) rfl rfl (y_fieldR (n := 16) rfl s893 Tryz.underlying31 rfl (by kernel_rfl) (by decide) rfl rr) (wl_setPart (us := arrL 16 ((scanRd l s1).1)) (ns := (chL m 0 0 0 0 ((scanRd l s1).1))) stcT_block rfl rfl rfl rfl rfl B1175 (Nat.le_of_ble_eq_true rfl) (one_arrL _ _) rfl fun w1182 B1183 k1184 => ?_))))
     have B1187 := B1174.all k1184 (ap131.symm p21 rfl)
     have B1188 := B1170.all k1184 ap1181
     have K1189 := K1176.trans k1184 (Grew.ok (S := T_r) gr128 noB_le)
     refine wl_v (iv ((scanRd l s1).2.1)) rfl rfl (y_asg rfl rfl rr) (wl_nil fun F1190 hF1191 => ?_)
     obtain ⟨s1192, s1196, s1199, s1202, s1203⟩ := t5 hF1191 0 s882 68 s886 8 s889 10 s892 11 s893
     have s1209 : F1190 14 = iv ((scanRd l s1).2.1) := (hF1191 14).trans rfl
     clear hF1191
     refine then_normal (wq_seq (wq_region (wl_mv rfl rfl rfl s1209 (wl_v (.bool (decide (((scanRd l s1).2.1) ≠ 0))) rfl rfl (y_neqI rfl rfl rfl rfl rr) (wl_nil fun F1210 hF1211 => ?_)))))
     obtain ⟨s1212, s1216, s1219, s1222, s1223, s1229⟩ := t6 hF1211 0 s1192 68 s1196 8 s1199 10 s1202 11 s1203 14 s1209
     have s1230 : F1210 61 = .bool (decide (((scanRd l s1).2.1) ≠ 0)) := (hF1211 61).trans rfl
     clear hF1211
     refine then_normal ?_
     refine wq_cond s1230 (fun c1231 => ?_) (fun c1231 => ?_)
     ·replace c1231 := of_decide_eq_true c1231
      refine wq_goto (then_goto ?_)
      refine jump_goto ⟨_, rfl, ?_⟩
      refine wq_seq (wq_skip (then_normal (wq_seq ?_)))
      first | have hR := h1.trans (by unfold rd2; exact if_neg (by assumption)) | have hR := h1.trans (by unfold rd3; exact if_neg (by assumption)) | have hR := h1.trans (by unfold rd4; exact if_neg (by assumption)) | (have hRR := rdCh_no (l := l) (k := k) (ax := ax) (ay := ay) (bx := bx) (yy := yy) hm hs1 (by first | exact Or.inl (by assumption) | exact Or.inr (by assumption)); obtain ⟨s9, hR⟩ := hRR)
      have hT0 : rdChT l k ax ay bx yy st = st := by unfold rdChT; rw [hR]; exact if_neg (by first | assumption | (intro z; exact absurd (show (120 : Int) = 0 from z) (by decide)))
      obtain ⟨g2, a1, b1, a2, b2, hf2, hT2, ho1, ho2, hp2, hq2, hg2, ap1_, ap2_, ap3_⟩ := rdx_pop0 B1188
      have gr1232 : Grew w0 T_r (onB p) := fun i h => gr1177 i ((fun i h => (hT2 i).2 (Or.inl h)) i h)
      have ap1235 : Apart (onB p) (onB p21) := fun i h => ap1180 i ((fun i h => (hT2 i).2 (Or.inl h)) i h)
      have gr1242 : Grew w0 T_r (onB g2) := fun i h => gr1177 i ((fun i h => (hT2 i).2 (Or.inr (Or.inr h))) i h)
      have ap1245 : Apart (onB g2) (onB p21) := fun i h => ap1180 i ((fun i h => (hT2 i).2 (Or.inr (Or.inr h))) i h)
      have ap1248 : Apart (onB p) (onB g2) := ap2_
      refine wq_region (wl_v (.agg (chL 0 0 0 0 0 (fun _ => (0 : Int))).toArray) rfl rfl (y_buildL (l' := []) (cells := (chL 0 0 0 0 0 (fun _ => (0 : Int))).toArray) rfl bpN (by kernel_rfl) rfl rr) (wl_mv rfl rfl rfl s1229 (wl_store_stc (us := (chL 0 0 0 0 0 (fun _ => (0 : Int)))) stcT_choice rfl rfl rfl s1219 rfl B1187 rfl (oneI rfl (oneI rfl (oneI rfl (oneI rfl (oneI rfl (oneI rfl (oneI rfl (oneI rfl (oneI rfl (oneI rfl (oneI rfl (oneI rfl (oneI rfl (oneI rfl (oneI rfl (oneI rfl (oneI rfl (oneI rfl (oneI rfl (oneI rfl (oneI rfl oneN))))))))))))))))))))) fun w1250 B1251 k1252 => ?_)))
      have B1256 := hp2.all k1252 (ap1235 p rfl)
      have B1258 := hg2.all k1252 ap1245
      have K1259 := K1189.trans k1252 (Grew.ok (S := T_r) gr26 noB_le)
      refine wl_v (iv ((scanRd l s1).2.1)) rfl rfl (y_asg rfl rfl rr) (wl_nil fun F1260 hF1261 => ?_)
      obtain ⟨s1262, s1263⟩ := t2 hF1261 68 s1216 8 s1219
      have s1264 : F1260 9 = iv ((scanRd l s1).2.1) := (hF1261 9).trans rfl
      clear hF1261
      refine then_normal (wq_ret (stay_ret ?_))
      have B1265 : Rdi w1250 (fun i => (onB p) i ∨ ((onB g2) i)) p l (rdChT l k ax ay bx yy st) := (by rw [hT0]; first | exact rdi_close hf2 ho1 B1256 B1258 ap1248 | exact rdi_close hf2 ho2 B1256 B1258 ap1248)
      have gr1266 : Grew w0 T_r (fun i => (onB p) i ∨ ((onB g2) i)) := fun i h => h.elim (fun y => gr1232 i y) (fun y => gr1242 i y)
      exact end_2 s1262 rfl (res_stc (vs := (chL 0 0 0 0 0 (fun _ => (0 : Int)))) stcT_choice rfl s1263 B1251) (res_tmp (v := iv ((scanRd l s1).2.1)) rfl s1264) ⟨(fun i => (onB p) i ∨ ((onB g2) i)), (by rw [hR] <;> rfl), K1259, ⟨B1265, gr1266⟩⟩
     ·replace c1231 := of_decide_eq_false c1231
      refine wq_skip (then_normal (wq_seq ?_))
      have hR := h1.trans (by unfold rd4; exact if_pos (by first | assumption | (apply Decidable.byContradiction; assumption)))
      have hT0 := (show rdChT l k ax ay bx yy st = (rdCh l k ax ay bx yy st).2.2 from if_pos (by rw [hR]))
      rw [hR] at hT0
      dsimp only at hT0
      rw [← rdSt_ok (by first | assumption | (apply Decidable.byContradiction; assumption))] at hT0
      obtain ⟨g2, a1, b1, a2, b2, hf2, hT2, ho1, ho2, hp2, hq2, hg2, ap1_, ap2_, ap3_⟩ := rdx_pop0 B1188
      have gr1272 : Grew w0 T_r (onB p) := fun i h => gr1177 i ((fun i h => (hT2 i).2 (Or.inl h)) i h)
      have ap1275 : Apart (onB p) (onB p21) := fun i h => ap1180 i ((fun i h => (hT2 i).2 (Or.inl h)) i h)
      have ap1276 : Apart (onB p) (onB p123) := fun i h => ap1181 i ((fun i h => (hT2 i).2 (Or.inl h)) i h)
      have gr1282 : Grew w0 T_r (onB g2) := fun i h => gr1177 i ((fun i h => (hT2 i).2 (Or.inr (Or.inr h))) i h)
      have ap1285 : Apart (onB g2) (onB p21) := fun i h => ap1180 i ((fun i h => (hT2 i).2 (Or.inr (Or.inr h))) i h)
      have ap1288 : Apart (onB p) (onB g2) := ap2_
      refine wq_region (wl_mv rfl rfl rfl s1212 (wl_v (.agg #[.slice (some ⟨g2, 0, none⟩) l.length l.length, iv ((a2 : Nat) : Int), .bool b2]) rfl rfl (y_load_stc stcT_reader rfl s1222 hq2 rr) (wl_v (pt p 0) rfl rfl (y_nilc rfl rfl rr) (wl_store_stc (us := [.slice (some ⟨g2, 0, none⟩) l.length l.length, iv ((a2 : Nat) : Int), .bool b2]) stcT_reader rfl rfl rfl rfl rfl hp2 rfl (oneI rfl (oneI rfl (oneI rfl oneN))) fun w1290 B1291 k1292 => ?_))))
      have B1295 := B1187.all k1292 (ap1275.symm p21 rfl)
      have B1296 := B1183.all k1292 (ap1276.symm p123 rfl)
      have B1298 := hg2.all k1292 ap1288.symm
      have K1299 := K1189.trans k1292 (Grew.ok (S := T_r) gr1272 (fun _ x => x))
      refine wl_nil fun F1300 hF1301 => ?_
      obtain ⟨s1302, s1303, s1304⟩ := t3 hF1301 68 s1216 8 s1219 11 s1223
      clear hF1301
      refine then_normal (wq_seq (wq_seq (wq_region (wl_v (.agg (chL m 0 0 0 0 ((scanRd l s1).1)).toArray) rfl rfl (y_load_stc stcT_choice rfl s1304 B1296 rr) (wl_store_stc (us := (chL m 0 0 0 0 ((scanRd l s1).1))) stcT_choice rfl rfl rfl s1303 rfl B1295 rfl (oneI rfl (oneI rfl (oneI rfl (oneI rfl (oneI rfl (oneI rfl (oneI rfl (oneI rfl (oneI rfl (oneI rfl (oneI rfl (oneI rfl (oneI rfl (oneI rfl (oneI rfl (oneI rfl (oneI rfl (oneI rfl (oneI rfl (oneI rfl (oneI rfl oneN))))))))))))))))))))) fun w1305 B1306 k1307 => ?_)))))
      have B1311 := B1291.all k1307 (ap1275 p rfl)
      have B1313 := B1298.all k1307 ap1285
      have K1314 := K1299.trans k1307 (Grew.ok (S := T_r) gr26 noB_le)
      refine wl_v (iv 0) rfl rfl (y_asg rfl rfl rr) (wl_nil fun F1315 hF1316 => ?_)
      obtain ⟨s1317, s1318⟩ := t2 hF1316 68 s1302 8 s1303
      have s1319 : F1315 9 = iv 0 := (hF1316 9).trans rfl
      clear hF1316
      refine then_normal (wq_ret (then_ret (jump_ret ?_)))
      have B1320 : Rdi w1305 (fun i => (onB p) i ∨ ((onB g2) i)) p l (rdChT l k ax ay bx yy st) := (by rw [hT0]; first | exact rdi_close hf2 ho1 B1311 B1313 ap1288 | exact rdi_close hf2 ho2 B1311 B1313 ap1288)
      have gr1321 : Grew w0 T_r (fun i => (onB p) i ∨ ((onB g2) i)) := fun i h => h.elim (fun y => gr1272 i y) (fun y => gr1282 i y)
      exact end_2 s1317 rfl (res_stc (vs := (chL m 0 0 0 0 ((scanRd l s1).1))) stcT_choice rfl s1318 B1306) (res_tmp (v := iv 0) rfl s1319) ⟨(fun i => (onB p) i ∨ ((onB g2) i)), (by rw [hR] <;> rfl), K1314, ⟨B1320, gr1321⟩⟩
  ·skip
   refine wq_region (wl_call (R := fun v_ w_ => v_ = .bool false ∧ Kept (fun _ => False) w161 w_) rfl rfl (y_cs rfl rfl rfl (fun _ _ => by kernel_rfl) (ev_func _) (vsC s197 vsN) (t_lostX p66 l s1 ([(p, st)]) T112 _  B166 ) (fun e_ w_ h_ => ⟨_, h_.1, (congrArg Value.bool d202), h_.2⟩)) ?_)
   rintro _ w1327 ⟨rfl, k1328⟩
   have B1331 := B165.all k1328 id
   have B1332 := B166.all k1328 Apart.none
   have B1333 := B167.all k1328 id
   have K1334 := K168.tr k1328
   refine wl_v (.bool false) rfl rfl (y_mov rfl rfl rr) (wl_vw (iv k) 1 false 30 rfl rfl rfl rfl rfl (y_mov rfl s188 rr) (wl_vw (pt p123 0) 1 false 30 rfl rfl rfl rfl rfl (y_fieldR (n := 1) rfl s198 Tryz.underlying31 rfl (by kernel_rfl) (by decide) rfl rr) (wl_vw (iv m) 1 false 30 rfl rfl rfl rfl rfl (y_ld_stc rfl rfl Tryz.underlying3 B1333 rfl rfl rr) (wl_callw (R := fun v_ w_ => v_ = .bool false ∧ Kept (fun _ => False) w1327 w_) 1 false 30 rfl rfl rfl rfl rfl (y_cs rfl rfl rfl (fun _ _ => by kernel_rfl) (ev_func _) (vsC rfl (vsC rfl vsN)) (bl_has k m  _ (hA.but K1334 hG)  ) (fun e_ w_ h_ => ⟨_, h_.1, (congrArg Value.bool (decide_eq_false d269)), h_.2⟩)) ?_))))
   rintro _ w1335 ⟨rfl, k1336⟩
   have B1339 := B1331.all k1336 id
   have B1340 := B1332.all k1336 Apart.none
   have K1342 := K1334.tr k1336
   refine wl_vw (.bool true) 1 false 30 rfl rfl rfl rfl rfl (y_not rfl rfl rfl rr) (wl_v (.bool true) rfl rfl (y_pickF rfl rfl rfl rr) (wl_nil fun F1343 hF1344 => ?_))
   obtain ⟨s1349, s1352, s1359⟩ := t3 hF1344 68 s191 8 s194 14 s201
   have s1360 : F1343 36 = .bool true := (hF1344 36).trans rfl
   clear hF1344
   refine then_normal ?_
   refine wq_cond (t := true) s1360 (fun _ => ?_) (fun e => by cases e)
   refine wq_goto (then_goto ?_)
   refine jump_goto ⟨_, rfl, ?_⟩
   refine wq_seq (wq_skip (then_normal (wq_seq ?_)))
   first | have hR := h1.trans (by unfold rd2; exact if_neg (by assumption)) | have hR := h1.trans (by unfold rd3; exact if_neg (by assumption)) | have hR := h1.trans (by unfold rd4; exact if_neg (by assumption)) | (have hRR := rdCh_no (l := l) (k := k) (ax := ax) (ay := ay) (bx := bx) (yy := yy) hm hs1 (by first | exact Or.inl (by assumption) | exact Or.inr (by assumption)); obtain ⟨s9, hR⟩ := hRR)
   have hT0 : rdChT l k ax ay bx yy st = st := by unfold rdChT; rw [hR]; exact if_neg (by first | assumption | (intro z; exact absurd (show (120 : Int) = 0 from z) (by decide)))
   obtain ⟨g2, a1, b1, a2, b2, hf2, hT2, ho1, ho2, hp2, hq2, hg2, ap1_, ap2_, ap3_⟩ := rdx_pop0 B1340
   have gr1361 : Grew w0 T_r (onB p) := fun i h => gr119 i ((fun i h => (hT2 i).2 (Or.inl h)) i h)
   have ap1364 : Apart (onB p) (onB p21) := fun i h => ap122 i ((fun i h => (hT2 i).2 (Or.inl h)) i h)
   have gr1371 : Grew w0 T_r (onB g2) := fun i h => gr119 i ((fun i h => (hT2 i).2 (Or.inr (Or.inr h))) i h)
   have ap1374 : Apart (onB g2) (onB p21) := fun i h => ap122 i ((fun i h => (hT2 i).2 (Or.inr (Or.inr h))) i h)
   have ap1377 : Apart (onB p) (onB g2) := ap2_
   refine wq_region (wl_v (.agg (chL 0 0 0 0 0 (fun _ => (0 : Int))).toArray) rfl rfl (y_buildL (l' := []) (cells := (chL 0 0 0 0 0 (fun _ => (0 : Int))).toArray) rfl bpN (by kernel_rfl) rfl rr) (wl_mv rfl rfl rfl s1359 (wl_store_stc (us := (chL 0 0 0 0 0 (fun _ => (0 : Int)))) stcT_choice rfl rfl rfl s1352 rfl B1339 rfl (oneI rfl (oneI rfl (oneI rfl (oneI rfl (oneI rfl (oneI rfl (oneI rfl (oneI rfl (oneI rfl (oneI rfl (oneI rfl (oneI rfl (oneI rfl (oneI rfl (oneI rfl (oneI rfl (oneI rfl (oneI rfl (oneI rfl (oneI rfl (oneI rfl oneN))))))))))))))))))))) fun w1379 B1380 k1381 => ?_)))
   have B1385 := hp2.all k1381 (ap1364 p rfl)
   have B1387 := hg2.all k1381 ap1374
   have K1388 := K1342.trans k1381 (Grew.ok (S := T_r) gr26 noB_le)
   refine wl_v (iv 120) rfl rfl (y_asg rfl rfl rr) (wl_nil fun F1389 hF1390 => ?_)
   obtain ⟨s1391, s1392⟩ := t2 hF1390 68 s1349 8 s1352
   have s1393 : F1389 9 = iv 120 := (hF1390 9).trans rfl
   clear hF1390
   refine then_normal (wq_ret (stay_ret ?_))
   have B1394 : Rdi w1379 (fun i => (onB p) i ∨ ((onB g2) i)) p l (rdChT l k ax ay bx yy st) := (by rw [hT0]; first | exact rdi_close hf2 ho1 B1385 B1387 ap1377 | exact rdi_close hf2 ho2 B1385 B1387 ap1377)
   have gr1395 : Grew w0 T_r (fun i => (onB p) i ∨ ((onB g2) i)) := fun i h => h.elim (fun y => gr1361 i y) (fun y => gr1371 i y)
   exact end_2 s1391 rfl (res_stc (vs := (chL 0 0 0 0 0 (fun _ => (0 : Int)))) stcT_choice rfl s1392 B1380) (res_tmp (v := iv 120) rfl s1393) ⟨(fun i => (onB p) i ∨ ((onB g2) i)), (by rw [hR] <;> rfl), K1388, ⟨B1394, gr1395⟩⟩
end Go.Proofs.YtdcbabgcbkdlhaaGreatDoor
set_option maxRecDepth 100000
namespace Go.Proofs.YtdcbabgcbkdlhaaGreatDoor
open Go.ChangeShapes Go.WideShapes Go.ChangeAt Go.RowKit Go.Deep
def laysB : List (String × DataW Unit) := [("clapboard/quant.steps", Rows.laid_clapboard_quant_steps), ("clapboard/scan.order", Rows.laid_clapboard_scan_order), ("clapboard/wave.waves", Rows.laid_clapboard_wave_waves), ("clapboard/block.acts", Rows.laid_clapboard_block_acts)]
theorem Tryz.gActs : Tryz.prog.globalNamed "clapboard/block.acts" = some 0 := by kernel_rfl
theorem Tryz.tActs : (Tryz.prog.globals[0]?).map (·.type) = some 67 := by kernel_rfl
theorem Tryz.c21a : Tryz.prog.cellsOf 67 = 21 := by kernel_rfl
theorem Tryz.c3a : Tryz.prog.cellsOf 66 = 3 := by kernel_rfl
theorem Tryz.c1b : Tryz.prog.cellsOf 4 = 1 := by kernel_rfl
theorem laysB_met (os : Os) (args : Array Value) : laidMetH Tryz.prog laysB ((World.doorLaid Tryz.prog 400 os).forCall (fun _ _ => 0) ⟨#[], args, []⟩).memory :=
  laidMetH_of_parts3 (fuel := 8) (laidMet_of_run' 8 (by kernel_rfl) (by kernel_rfl)) (by kernel_rfl) (by kernel_rfl)
def actD {H : Type} (q : Int × Bool × Bool) : DataW H := .agg [.lit (.int .i64 q.1), .lit (.bool q.2.1), .lit (.bool q.2.2)]
def actQ : List (Int × Bool × Bool) := [(0, false, false), (0, false, false), (0, false, false), (0, false, false), (1, true, false), (2, false, true), (2, true, true)]
theorem acts_rows {W : World} {f : Nat} {l : List (Int × Bool × Bool)} {cs : List Value} {p : List MemPlace}
    (hd : DataW.trod (fun _ => ()) Tryz.prog W 0 (fun _ => true) false f 67 cs = some (.agg (l.map actD), p)) : cs.length = 21 ∧ ∀ u, u < 7 → ∃ q, l[u]? = some q ∧ cs[u * 3]? = some (.int .i64 q.1) ∧ cs[u * 3 + 1]? = some (.bool q.2.1) ∧ cs[u * 3 + 2]? = some (.bool q.2.2) := by
  obtain ⟨xs, k, rfl, hx, hl, hn, hel⟩ := DataW.trod_array Tryz.underlying67 hd
  rw [Tryz.c21a] at hl
  refine ⟨hl, fun u hu => ?_⟩
  simp only [Prod.mk.injEq, DataW.agg.injEq] at hx
  have h1 := hel u hu
  rw [Tryz.c3a, List.getElem?_eq_getElem (by omega)] at h1
  have e1 : (xs.map (·.1))[u]? = some xs[u].1 := by rw [List.getElem?_map, List.getElem?_eq_getElem (by omega)]; rfl
  rw [← hx.1, List.getElem?_map] at e1
  cases hq : l[u]? with
  | none => rw [hq] at e1; cases e1
  | some y =>
    rw [hq] at e1
    simp only [Option.map_some, Option.some.injEq] at e1
    obtain ⟨y0, y1, y2, n, hagg, hsz, h2, h3, h4⟩ := trod_struct3 Tryz.underlying66 h1
    simp only [Tryz.c1, Tryz.c1b] at h2 h3 h4
    obtain ⟨z0, hz0, hd0, _⟩ := DataW.trod_int Tryz.underlying3 h2
    obtain ⟨b1, hz1, hd1⟩ := DataW.trod_bool Tryz.underlying4 h3
    obtain ⟨b2, hz2, hd2⟩ := DataW.trod_bool Tryz.underlying4 h4
    rw [hagg] at e1
    simp only [actD, DataW.agg.injEq, List.cons.injEq, and_true] at e1
    rw [hd0, hd1, hd2] at e1
    simp only [DataW.lit.injEq, Lit.int.injEq, Lit.bool.injEq, true_and] at e1
    obtain ⟨r0, r1, r2⟩ := e1
    have g0 := congrArg (·[0]?) hz0
    have g1 := congrArg (·[0]?) hz1
    have g2 := congrArg (·[0]?) hz2
    refine ⟨y, rfl, ?_, ?_, ?_⟩
    · rw [r0]; simpa [List.getElem?_take, List.getElem?_drop] using g0
    · rw [r1]; simpa [List.getElem?_take, List.getElem?_drop] using g1
    · rw [r2]; simpa [List.getElem?_take, List.getElem?_drop] using g2
theorem acts_at {W : World} {f : Nat} {cs : Array Value} {p : List MemPlace} (hv : World.var? Tryz.prog W "clapboard/block.acts" = some cs)
    (hd : DataW.trod (fun _ => ()) Tryz.prog W 0 (fun _ => true) false f 67 cs.toList = some (Rows.laid_clapboard_block_acts, p)) (hs : 4 ≤ W.heap.size) : ActsIn W := by
  have key := (acts_rows (l := actQ) hd).2
  refine ⟨hs, fun i hi => ?_⟩
  rw [World.var?_cell Tryz.gActs hv i, show cs[i]? = cs.toList[i]? by simp]
  obtain ⟨q, hq, k0, k1, k2⟩ := key (i / 3) (by omega)
  have hc : i / 3 < 7 ∧ (i = i / 3 * 3 ∨ i = i / 3 * 3 + 1 ∨ i = i / 3 * 3 + 2) := by omega
  generalize i / 3 = u at *
  obtain ⟨hu, hi3⟩ := hc
  have hu7 : u = 0 ∨ u = 1 ∨ u = 2 ∨ u = 3 ∨ u = 4 ∨ u = 5 ∨ u = 6 := by omega
  rcases hu7 with rfl | rfl | rfl | rfl | rfl | rfl | rfl <;> obtain rfl := Option.some.inj hq <;> rcases hi3 with rfl | rfl | rfl <;> first | exact k0.trans rfl | exact k1.trans rfl | exact k2.trans rfl
theorem all_of {W : World} (h : laidMetH Tryz.prog laysB W) : StepsAt W ∧ ScanIn W ∧ Waves W ∧ ActsIn W := by
  rw [MakeChecks.laidMetH_plain _ _ _ (by kernel_rfl)] at h
  obtain ⟨ps, ⟨g0, t0, cs0, f0, p0, q0, hg0, ht0, hv0, hd0, ⟨g1, t1, cs1, f1, p1, q1, hg1, ht1, hv1, hd1, ⟨g2, t2, cs2, f2, p2, q2, hg2, ht2, hv2, hd2, ⟨g3, t3, cs3, f3, p3, q3, hg3, ht3, hv3, hd3, _, _⟩, _⟩, _⟩, _⟩, _, _⟩ := h
  obtain rfl := Option.some.inj (Tryz.gSteps.symm.trans hg0)
  obtain rfl := Option.some.inj (Tryz.tSteps.symm.trans ht0)
  obtain rfl := Option.some.inj (Tryz.gOrder.symm.trans hg1)
  obtain rfl := Option.some.inj (Tryz.tOrder.symm.trans ht1)
  obtain rfl := Option.some.inj (Tryz.gWaves.symm.trans hg2)
  obtain rfl := Option.some.inj (Tryz.tWaves.symm.trans ht2)
  obtain rfl := Option.some.inj (Tryz.gActs.symm.trans hg3)
  obtain rfl := Option.some.inj (Tryz.tActs.symm.trans ht3)
  have h0 := steps_at hv0 hd0
  have h1 := order_at hv1 hd1
  have h2 := waves_at hv2 hd2
  obtain ⟨t4, f4, h4⟩ := var_block Tryz.gActs hv3
  have s0 := h0.1
  have s1 := h1.pos
  have s2 := h2.1
  have s3 := lt_of_heap h4
  exact ⟨h0, h1, h2, acts_at hv3 hd3 (by omega)⟩
end Go.Proofs.YtdcbabgcbkdlhaaGreatDoor
set_option maxRecDepth 100000
namespace Go.Proofs.YtdcbabgcbkdlhaaGreatDoor
open Go.RowKit
theorem qref_step (q : Int) (w0 : World) :
  Calls Tryz.prog 59 #[.int .i64 (q)] w0 fun e w' => e = .returned (.tuple #[.int .i64 (stp q), .int .i64 (ern q)]) ∧ Kept (fun _ => False) w0 w' := by
 refine calls_wq (args := [iv q]) 15 Tryz.func59 rfl rfl (Nat.le_of_ble_eq_true rfl) ?_
 have K0 := Kept.refl (fun _ => False) w0
 refine wq_seq (wq_region (wl_v (iv 0) rfl rfl (y_asg rfl rfl rr) (wl_v (iv 0) rfl rfl (y_asg rfl rfl rr) (wl_nil fun F1 hF2 => ?_))))
 have s3 : F1 0 = iv q := (hF2 0).trans rfl
 have s4 : F1 15 = undef := (hF2 15).trans rfl
 clear hF2
 refine then_normal (wq_seq (wq_region (wl_v (.agg (arrL 21 (blL [1, 2, 3, 4, 5, 6, 8, 10, 12, 16, 20, 24, 32, 40, 48, 64, 80, 96, 128, 160, 192])).toArray) rfl rfl (y_buildR (cells := (arrL 21 (blL [1, 2, 3, 4, 5, 6, 8, 10, 12, 16, 20, 24, 32, 40, 48, 64, 80, 96, 128, 160, 192])).toArray) rfl (by kernel_rfl) rfl rr) (wl_alloc_arr rfl rfl rfl arrT21.2.2 fun p5 w6 e9 B7 k8 => ?_))))
 have g10 := onB_new (Nat.le_of_eq e9.symm)
 have gr11 : Grew w0 noB (onB p5) := Grew.new K0 g10
 clear e9 g10
 have K12 := K0.tr k8
 refine wl_store_arr arrT21 rfl rfl rfl rfl rfl B7 fun w13 B14 k15 => ?_
 have K16 := K12.trans k15 (Grew.ok (S := fun _ => False) gr11 noB_le)
 refine wl_nil fun F17 hF18 => ?_
 obtain ⟨s19, s20⟩ := t2 hF18 0 s3 15 s4
 have s21 : F17 4 = pt p5 0 := (hF18 4).trans rfl
 clear hF18
 refine then_normal (wq_seq (wq_seq ?_))
 by_cases d22 : q < 0
 ·skip
  refine wq_region (wl_mv rfl rfl rfl s19 (wl_v (.bool true) rfl rfl (y_lss rfl rfl rfl (decide_eq_true d22) rr) (wl_v (.bool true) rfl rfl (y_mov rfl rfl rr) (wl_unless 2 false 8 rfl rfl rfl (Or.inl rfl) rfl (wl_unless 2 false 8 rfl rfl rfl (Or.inl rfl) rfl (wl_v (.bool true) rfl rfl (y_pickT rfl rfl rfl rr) (wl_nil fun F23 hF24 => ?_)))))))
  have s26 := (hF24 15).trans s20
  have s28 : F23 11 = .bool true := (hF24 11).trans rfl
  clear hF24
  refine then_normal ?_
  refine wq_cond (t := true) s28 (fun _ => ?_) (fun e => by cases e)
  refine wq_seq (wq_region (wl_v (iv 0) rfl rfl (y_asg rfl rfl rr) (wl_v (iv 50) rfl rfl (y_asg rfl rfl rr) (wl_nil fun F29 hF30 => ?_))))
  have s31 := (hF30 15).trans s26
  have s32 : F29 2 = iv 0 := (hF30 2).trans rfl
  have s33 : F29 3 = iv 50 := (hF30 3).trans rfl
  clear hF30
  refine then_normal (wq_ret (then_ret ?_))
  exact end_2 s31 rfl (res_tmp (v := iv 0) rfl s32) (res_tmp (v := iv 50) rfl s33) ⟨(by first | (rw [ern_ok (by omega)]) | (rw [stp_no (by omega), ern_no (by omega)])), K16⟩
 ·skip
  refine wq_region (wl_mv rfl rfl rfl s19 (wl_v (.bool false) rfl rfl (y_lss rfl rfl rfl (decide_eq_false d22) rr) (wl_v (.bool false) rfl rfl (y_mov rfl rfl rr) (wl_vw (iv q) 2 false 8 rfl rfl rfl rfl rfl (y_mov rfl s19 rr) (wl_vw (.bool (decide (20 < q))) 2 false 8 rfl rfl rfl rfl rfl (y_gtr rfl rfl rfl rfl rr) (wl_v (.bool (decide (20 < q))) rfl rfl (y_pickF rfl rfl rfl rr) (wl_nil fun F34 hF35 => ?_)))))))
  obtain ⟨s36, s37, s38⟩ := t3 hF35 0 s19 15 s20 4 s21
  have s39 : F34 11 = .bool (decide (20 < q)) := (hF35 11).trans rfl
  clear hF35
  refine then_normal ?_
  refine wq_cond s39 (fun c40 => ?_) (fun c40 => ?_)
  ·replace c40 := of_decide_eq_true c40
   refine wq_seq (wq_region (wl_v (iv 0) rfl rfl (y_asg rfl rfl rr) (wl_v (iv 50) rfl rfl (y_asg rfl rfl rr) (wl_nil fun F41 hF42 => ?_))))
   have s43 := (hF42 15).trans s37
   have s44 : F41 2 = iv 0 := (hF42 2).trans rfl
   have s45 : F41 3 = iv 50 := (hF42 3).trans rfl
   clear hF42
   refine then_normal (wq_ret (then_ret ?_))
   exact end_2 s43 rfl (res_tmp (v := iv 0) rfl s44) (res_tmp (v := iv 50) rfl s45) ⟨(by first | (rw [ern_ok (by omega)]) | (rw [stp_no (by omega), ern_no (by omega)])), K16⟩
  ·replace c40 := of_decide_eq_false c40
   refine wq_skip (then_normal (wq_seq (wq_region (wl_mv rfl rfl rfl s36 (wl_v (.pointer (some ⟨p5, q.toNat, none⟩)) rfl rfl (y_atR (q.toNat) (s := 1) rfl s38 rfl (by omega) Tryz.underlying110 (by omega) (by kernel_rfl) (by omega) rr) (wl_v (iv (stp q)) rfl rfl (y_ldR rfl rfl Tryz.underlying3 ((B14.cell (by omega)).trans (some_int (by rw [stp_ok (by omega)]; rfl))) rr) (wl_v (iv (stp q)) rfl rfl (y_asg rfl rfl rr) (wl_v (iv 0) rfl rfl (y_asg rfl rfl rr) (wl_nil fun F46 hF47 => ?_)))))))))
   have s48 := (hF47 15).trans s37
   have s49 : F46 2 = iv (stp q) := (hF47 2).trans rfl
   have s50 : F46 3 = iv 0 := (hF47 3).trans rfl
   clear hF47
   refine then_normal (wq_ret ?_)
   exact end_2 s48 rfl (res_tmp (v := iv (stp q)) rfl s49) (res_tmp (v := iv 0) rfl s50) ⟨(by first | (rw [ern_ok (by omega)]) | (rw [stp_no (by omega), ern_no (by omega)])), K16⟩
theorem qref_clamp (n : Int) (w0 : World) :
  Calls Tryz.prog 60 #[.int .i64 (n)] w0 fun e w' => e = .returned (.int .i64 (cl 1048576 n)) ∧ Kept (fun _ => False) w0 w' := by
 refine calls_wq (args := [iv n]) 6 Tryz.func60 rfl rfl (Nat.le_of_ble_eq_true rfl) ?_
 have K0 := Kept.refl (fun _ => False) w0
 refine wq_seq (wq_region (wl_v (iv 0) rfl rfl (y_asg rfl rfl rr) (wl_nil fun F1 hF2 => ?_)))
 have s3 : F1 0 = iv n := (hF2 0).trans rfl
 have s4 : F1 6 = undef := (hF2 6).trans rfl
 clear hF2
 refine then_normal (wq_seq (wq_region (wl_mv rfl rfl rfl s3 (wl_v (iv (max n (-1048576))) rfl rfl (y_maxR rfl rfl rfl rfl rr) (wl_v (iv (cl 1048576 n)) rfl rfl (y_minR rfl rfl rfl (by unfold cl; omega) rr) (wl_v (iv (cl 1048576 n)) rfl rfl (y_asg rfl rfl rr) (wl_nil fun F5 hF6 => ?_)))))))
 have s7 := (hF6 6).trans s4
 have s8 : F5 2 = iv (cl 1048576 n) := (hF6 2).trans rfl
 clear hF6
 refine then_normal (wq_ret ?_)
 exact end_tmp (v := iv (cl 1048576 n)) s7 rfl rfl s8 ⟨rfl, K0⟩
theorem qref_up_ok (b : Nat → Int) (q : Int) (w0 : World) (he : ern q = 0) :
  Calls Tryz.prog 26 #[blkV (b), .int .i64 (q)] w0 fun e w' => e = .returned (.tuple #[blkV (upB b q), .int .i64 (ern q)]) ∧ Kept (fun _ => False) w0 w' := by
 refine calls_wq (args := [blkV b, iv q]) 34 Tryz.func26 rfl rfl (Nat.le_of_ble_eq_true rfl) ?_
 have K0 := Kept.refl (fun _ => False) w0
 refine wq_seq (wq_region (wl_box_blk rfl rfl rfl rfl fun p1 w2 e5 B3 k4 => ?_))
 have g6 := onB_new (Nat.le_of_eq e5.symm)
 clear e5 g6
 have K8 := K0.tr k4
 refine wl_alloc_blk rfl rfl rfl blkT_arr.2.2 fun p9 w10 e13 B11 k12 => ?_
 have g14 := onB_new (Nat.le_of_eq e13.symm)
 have gr15 : Grew w0 noB (onB p9) := Grew.new K8 g14
 clear e13 g14
 have B17 := B3.all k12 id
 have K18 := K8.tr k12
 refine wl_v (iv 0) rfl rfl (y_asg rfl rfl rr) (wl_nil fun F19 hF20 => ?_)
 have s21 : F19 1 = iv q := (hF20 1).trans rfl
 have s22 : F19 34 = undef := (hF20 34).trans rfl
 have s23 : F19 2 = pt p1 0 := (hF20 2).trans rfl
 have s24 : F19 4 = pt p9 0 := (hF20 4).trans rfl
 clear hF20
 refine then_normal (wq_seq (wq_region (wl_mv rfl rfl rfl s21 (wl_cs rfl rfl rfl rfl rfl (fun _ _ => by kernel_rfl) (vsC rfl vsN) (qref_step q  _   ) fun w25 k26 => ?_))))
 have B27 := B17.all k26 id
 have B28 := B11.all k26 id
 have K29 := K18.tr k26
 refine wl_v (.tuple #[iv (stp q), iv (ern q)]) rfl rfl (y_mov rfl rfl rr) (wl_v (iv (stp q)) rfl rfl (y_ext rfl rfl rfl rr) (wl_v (iv (ern q)) rfl rfl (y_ext rfl rfl rfl rr) (wl_v (iv (stp q)) rfl rfl (y_asg rfl rfl rr) (wl_v (iv (ern q)) rfl rfl (y_asg rfl rfl rr) (wl_nil fun F30 hF31 => ?_)))))
 obtain ⟨s32, s33, s34⟩ := t3 hF31 34 s22 2 s23 4 s24
 have s35 : F30 6 = iv (stp q) := (hF31 6).trans rfl
 have s36 : F30 7 = iv (ern q) := (hF31 7).trans rfl
 clear hF31
 refine then_normal (wq_seq (wq_region (wl_v (blkV (fun _ => 0)) rfl rfl (y_buildR (cells := (arrL 16 (fun _ => 0)).toArray) rfl (by kernel_rfl) rfl rr) (wl_alloc_blk rfl rfl rfl blkT_arr.2.2 fun p37 w38 e41 B39 k40 => ?_))))
 have g42 := onB_new (Nat.le_of_eq e41.symm)
 have gr43 : Grew w0 noB (onB p37) := Grew.new K29 g42
 have ap44 : Apart (onB p37) (onB p1) := Apart.new g42 (onB_live B27.lt)
 have ap45 : Apart (onB p37) (onB p9) := Apart.new g42 (onB_live B28.lt)
 clear e41 g42
 have B46 := B27.all k40 id
 have B47 := B28.all k40 id
 have K48 := K29.tr k40
 refine wl_store_blk blkT_arr rfl rfl rfl rfl rfl B39 fun w49 B50 k51 => ?_
 have B52 := B46.all k51 (ap44.symm p1 rfl)
 have B53 := B47.all k51 (ap45.symm p9 rfl)
 have K54 := K48.trans k51 (Grew.ok (S := fun _ => False) gr43 noB_le)
 refine wl_nil fun F55 hF56 => ?_
 obtain ⟨s57, s58, s59, s60, s61⟩ := t5 hF56 34 s32 2 s33 4 s34 6 s35 7 s36
 have s62 : F55 8 = pt p37 0 := (hF56 8).trans rfl
 clear hF56
 refine then_normal (wq_seq (wq_seq (wq_region (wl_v (iv 0) rfl rfl (y_asg rfl rfl rr) (wl_nil fun F63 hF64 => ?_)))))
 obtain ⟨s65, s66, s67, s68, s69, s70⟩ := t6 hF64 34 s57 2 s58 4 s59 6 s60 7 s61 8 s62
 have s71 : F63 9 = iv 0 := (hF64 9).trans rfl
 clear hF64
 refine then_normal (wq_block (wq_loop (fun nn FF ww => ∃ (k : Nat), (k ≤ 16) ∧ nn = 16 - k ∧ FF 2 = pt p1 0 ∧ FF 4 = pt p9 0 ∧ FF 6 = iv (stp q) ∧ FF 7 = iv (ern q) ∧ FF 8 = pt p37 0 ∧ FF 34 = undef ∧ FF 9 = iv ((k : Nat) : Int) ∧ Kept (fun _ => False) w0 ww ∧ Blk ww p1 28 b ∧ Blk ww p9 28 (fun _ => 0) ∧ Blk ww p37 28 (upto k (fun _ => 0) (upB b q))) (16 - 0) ⟨0, by omega, rfl, s66, s67, s68, s69, s70, s65, s71, K54, B52, B53, B50.first⟩ ?_))
 rintro n75 F72 w73 ⟨k, i76, hn75, s77, s78, s79, s80, s81, s82, s83, K74, B84, B85, B86⟩
 refine wq_seq (wq_seq ?_)
 by_cases d87 : ((k : Nat) : Int) < 16
 ·skip
  refine wq_region (wl_mv rfl rfl rfl s83 (wl_v (.bool true) rfl rfl (y_lss rfl rfl rfl (decide_eq_true d87) rr) (wl_v (.bool true) rfl rfl (y_mov rfl rfl rr) (wl_vw (iv (ern q)) 2 true 18 rfl rfl rfl rfl rfl (y_mov rfl s80 rr) (wl_vw (.bool true) 2 true 18 rfl rfl rfl rfl rfl (y_eqlI rfl rfl rfl (decide_eq_true he) rr) (wl_v (.bool true) rfl rfl (y_pickT rfl rfl rfl rr) (wl_nil fun F88 hF89 => ?_)))))))
  obtain ⟨s90, s91, s92, s93, s94, s95, s96⟩ := t7 hF89 2 s77 4 s78 6 s79 7 s80 8 s81 34 s82 9 s83
  have s97 : F88 21 = .bool true := (hF89 21).trans rfl
  clear hF89
  refine then_normal ?_
  refine wq_cond (t := true) s97 (fun _ => ?_) (fun e => by cases e)
  refine wq_skip (then_normal (wq_seq (wq_block ?_)))
  have hst := stp_le (q := q) (by omega)
  have hcl := cl_le 1048576 (b k) (by omega)
  have hmu : -201326592 ≤ cl 1048576 (b k) * stp q ∧ cl 1048576 (b k) * stp q ≤ 201326592 := mul_in hcl hst
  refine wq_region (wl_mv rfl rfl rfl s96 (wl_mv rfl rfl rfl s96 (wl_v (.pointer (some ⟨p1, k, none⟩)) rfl rfl (y_atR k (s := 1) rfl s90 rfl (by omega) Tryz.underlying28 (by omega) (by kernel_rfl) (by omega) rr) (wl_v (iv (b k)) rfl rfl (y_ldR rfl rfl Tryz.underlying3 (B84.cell (by omega)) rr) (wl_cs rfl rfl rfl rfl rfl (fun _ _ => by kernel_rfl) (vsC rfl vsN) (qref_clamp (b k)  _   ) fun w98 k99 => ?_)))))
  have B100 := B84.all k99 id
  have B101 := B85.all k99 id
  have B102 := B86.all k99 id
  have K103 := K74.tr k99
  refine wl_mv rfl rfl rfl s92 (wl_v (iv ((cl 1048576 (b k)) * (stp q))) rfl rfl (y_mul rfl rfl rfl (i64_i rfl (by omega)) rr) (wl_v (.pointer (some ⟨p37, k, none⟩)) rfl rfl (y_atR k (s := 1) rfl s94 rfl (by omega) Tryz.underlying28 (by omega) (by kernel_rfl) (by omega) rr) (wl_set_blk rfl rfl rfl rfl rfl B102 (by omega) (by kernel_rfl) fun w104 B105 k106 => ?_)))
  have B107 := B100.all k106 (ap44.symm p1 rfl)
  have B108 := B101.all k106 (ap45.symm p9 rfl)
  have K109 := K103.trans k106 (Grew.ok (S := fun _ => False) gr43 noB_le)
  refine wl_nil fun F110 hF111 => ?_
  obtain ⟨s112, s113, s114, s115, s116, s117, s118⟩ := t7 hF111 2 s90 4 s91 6 s92 7 s93 8 s94 34 s95 9 s96
  clear hF111
  refine in_normal (then_normal (wq_region (wl_mv rfl rfl rfl s118 (wl_v (iv ((k + 1 : Nat) : Int)) rfl rfl (y_add rfl rfl rfl (i64_n (by omega) (by omega)) rr) (wl_v (iv ((k + 1 : Nat) : Int)) rfl rfl (y_asg rfl rfl rr) (wl_nil fun F119 hF120 => ?_))))))
  obtain ⟨s121, s122, s123, s124, s125, s126⟩ := t6 hF120 2 s112 4 s113 6 s114 7 s115 8 s116 34 s117
  have s127 : F119 9 = iv ((k + 1 : Nat) : Int) := (hF120 9).trans rfl
  clear hF120
  exact then_normal ⟨(16 - (k + 1)), by omega, k + 1, by omega, rfl, s121, s122, s123, s124, s125, s126, s127, K109, B107, B108, (B105.next (by rw [up_at he]))⟩
 ·skip
  refine wq_region (wl_mv rfl rfl rfl s83 (wl_v (.bool false) rfl rfl (y_lss rfl rfl rfl (decide_eq_false d87) rr) (wl_v (.bool false) rfl rfl (y_mov rfl rfl rr) (wl_unless 2 true 18 rfl rfl rfl (Or.inl rfl) rfl (wl_unless 2 true 18 rfl rfl rfl (Or.inl rfl) rfl (wl_v (.bool false) rfl rfl (y_pickF rfl rfl rfl rr) (wl_nil fun F128 hF129 => ?_)))))))
  obtain ⟨s131, s133, s134, s135⟩ := t4 hF129 4 s78 7 s80 8 s81 34 s82
  have s137 : F128 21 = .bool false := (hF129 21).trans rfl
  clear hF129
  refine then_normal ?_
  refine wq_cond (t := false) s137 (fun e => by cases e) (fun _ => ?_)
  refine wq_exit (then_exit (then_exit ?_))
  have l138 : 16 = k := by omega
  subst l138
  have B139 : Blk w73 p37 28 (upB b q) := (B86.last)
  refine in_here (then_normal (wq_seq (wq_region (wl_v (blkV (upB b q)) rfl rfl (y_load_blk blkT_arr rfl s134 B139 rr) (wl_mv rfl rfl rfl s133 (wl_store_blk blkT_arr rfl rfl rfl s131 rfl B85 fun w140 B141 k142 => ?_))))))
  have K145 := K74.trans k142 (Grew.ok (S := fun _ => False) gr15 noB_le)
  refine wl_v (iv (ern q)) rfl rfl (y_asg rfl rfl rr) (wl_nil fun F146 hF147 => ?_)
  obtain ⟨s148, s149⟩ := t2 hF147 4 s131 34 s135
  have s150 : F146 5 = iv (ern q) := (hF147 5).trans rfl
  clear hF147
  refine then_normal (wq_ret ?_)
  exact end_2 s149 rfl (res_blk blkT_arr rfl s148 B141) (res_tmp (v := iv (ern q)) rfl s150) ⟨rfl, K145⟩
theorem qref_up_no (b : Nat → Int) (q : Int) (w0 : World) (he : ern q ≠ 0) :
  Calls Tryz.prog 26 #[blkV (b), .int .i64 (q)] w0 fun e w' => e = .returned (.tuple #[blkV (upB b q), .int .i64 (ern q)]) ∧ Kept (fun _ => False) w0 w' := by
 refine calls_wq (args := [blkV b, iv q]) 34 Tryz.func26 rfl rfl (Nat.le_of_ble_eq_true rfl) ?_
 have K0 := Kept.refl (fun _ => False) w0
 refine wq_seq (wq_region (wl_box_blk rfl rfl rfl rfl fun p1 w2 e5 B3 k4 => ?_))
 have g6 := onB_new (Nat.le_of_eq e5.symm)
 clear e5 g6
 have K8 := K0.tr k4
 refine wl_alloc_blk rfl rfl rfl blkT_arr.2.2 fun p9 w10 e13 B11 k12 => ?_
 have g14 := onB_new (Nat.le_of_eq e13.symm)
 have gr15 : Grew w0 noB (onB p9) := Grew.new K8 g14
 clear e13 g14
 have B17 := B3.all k12 id
 have K18 := K8.tr k12
 refine wl_v (iv 0) rfl rfl (y_asg rfl rfl rr) (wl_nil fun F19 hF20 => ?_)
 have s21 : F19 1 = iv q := (hF20 1).trans rfl
 have s22 : F19 34 = undef := (hF20 34).trans rfl
 have s23 : F19 2 = pt p1 0 := (hF20 2).trans rfl
 have s24 : F19 4 = pt p9 0 := (hF20 4).trans rfl
 clear hF20
 refine then_normal (wq_seq (wq_region (wl_mv rfl rfl rfl s21 (wl_cs rfl rfl rfl rfl rfl (fun _ _ => by kernel_rfl) (vsC rfl vsN) (qref_step q  _   ) fun w25 k26 => ?_))))
 have B27 := B17.all k26 id
 have B28 := B11.all k26 id
 have K29 := K18.tr k26
 refine wl_v (.tuple #[iv (stp q), iv (ern q)]) rfl rfl (y_mov rfl rfl rr) (wl_v (iv (stp q)) rfl rfl (y_ext rfl rfl rfl rr) (wl_v (iv (ern q)) rfl rfl (y_ext rfl rfl rfl rr) (wl_v (iv (stp q)) rfl rfl (y_asg rfl rfl rr) (wl_v (iv (ern q)) rfl rfl (y_asg rfl rfl rr) (wl_nil fun F30 hF31 => ?_)))))
 obtain ⟨s32, s33, s34⟩ := t3 hF31 34 s22 2 s23 4 s24
 have s35 : F30 6 = iv (stp q) := (hF31 6).trans rfl
 have s36 : F30 7 = iv (ern q) := (hF31 7).trans rfl
 clear hF31
 refine then_normal (wq_seq (wq_region (wl_v (blkV (fun _ => 0)) rfl rfl (y_buildR (cells := (arrL 16 (fun _ => 0)).toArray) rfl (by kernel_rfl) rfl rr) (wl_alloc_blk rfl rfl rfl blkT_arr.2.2 fun p37 w38 e41 B39 k40 => ?_))))
 have g42 := onB_new (Nat.le_of_eq e41.symm)
 have gr43 : Grew w0 noB (onB p37) := Grew.new K29 g42
 have ap44 : Apart (onB p37) (onB p1) := Apart.new g42 (onB_live B27.lt)
 have ap45 : Apart (onB p37) (onB p9) := Apart.new g42 (onB_live B28.lt)
 clear e41 g42
 have B46 := B27.all k40 id
 have B47 := B28.all k40 id
 have K48 := K29.tr k40
 refine wl_store_blk blkT_arr rfl rfl rfl rfl rfl B39 fun w49 B50 k51 => ?_
 have B52 := B46.all k51 (ap44.symm p1 rfl)
 have B53 := B47.all k51 (ap45.symm p9 rfl)
 have K54 := K48.trans k51 (Grew.ok (S := fun _ => False) gr43 noB_le)
 refine wl_nil fun F55 hF56 => ?_
 obtain ⟨s57, s58, s59, s60, s61⟩ := t5 hF56 34 s32 2 s33 4 s34 6 s35 7 s36
 have s62 : F55 8 = pt p37 0 := (hF56 8).trans rfl
 clear hF56
 refine then_normal (wq_seq (wq_seq (wq_region (wl_v (iv 0) rfl rfl (y_asg rfl rfl rr) (wl_nil fun F63 hF64 => ?_)))))
 obtain ⟨s65, s66, s67, s68, s69, s70⟩ := t6 hF64 34 s57 2 s58 4 s59 6 s60 7 s61 8 s62
 have s71 : F63 9 = iv 0 := (hF64 9).trans rfl
 clear hF64
 refine then_normal (wq_block (wq_loop (fun nn FF ww => ∃ (k : Nat), nn = 16 - k ∧ FF 2 = pt p1 0 ∧ FF 4 = pt p9 0 ∧ FF 6 = iv (stp q) ∧ FF 7 = iv (ern q) ∧ FF 8 = pt p37 0 ∧ FF 34 = undef ∧ FF 9 = iv ((k : Nat) : Int) ∧ Kept (fun _ => False) w0 ww ∧ Blk ww p1 28 b ∧ Blk ww p9 28 (fun _ => 0) ∧ Blk ww p37 28 (fun _ => 0)) (16 - 0) ⟨0, rfl, s66, s67, s68, s69, s70, s65, s71, K54, B52, B53, B50⟩ ?_))
 rintro n75 F72 w73 ⟨k, hn75, s76, s77, s78, s79, s80, s81, s82, K74, B83, B84, B85⟩
 refine wq_seq (wq_seq ?_)
 by_cases d86 : ((k : Nat) : Int) < 16
 ·skip
  refine wq_region (wl_mv rfl rfl rfl s82 (wl_v (.bool true) rfl rfl (y_lss rfl rfl rfl (decide_eq_true d86) rr) (wl_v (.bool true) rfl rfl (y_mov rfl rfl rr) (wl_vw (iv (ern q)) 2 true 18 rfl rfl rfl rfl rfl (y_mov rfl s79 rr) (wl_vw (.bool false) 2 true 18 rfl rfl rfl rfl rfl (y_eqlI rfl rfl rfl (decide_eq_false he) rr) (wl_v (.bool false) rfl rfl (y_pickT rfl rfl rfl rr) (wl_nil fun F87 hF88 => ?_)))))))
  obtain ⟨s90, s92, s93, s94⟩ := t4 hF88 4 s77 7 s79 8 s80 34 s81
  have s96 : F87 21 = .bool false := (hF88 21).trans rfl
  clear hF88
  refine then_normal ?_
  refine wq_cond (t := false) s96 (fun e => by cases e) (fun _ => ?_)
  refine wq_exit (then_exit (then_exit (in_here (then_normal (wq_seq (wq_region (wl_v (blkV (fun _ => 0)) rfl rfl (y_load_blk blkT_arr rfl s93 B85 rr) (wl_mv rfl rfl rfl s92 (wl_store_blk blkT_arr rfl rfl rfl s90 rfl B84 fun w97 B98 k99 => ?_)))))))))
  have K102 := K74.trans k99 (Grew.ok (S := fun _ => False) gr15 noB_le)
  refine wl_v (iv (ern q)) rfl rfl (y_asg rfl rfl rr) (wl_nil fun F103 hF104 => ?_)
  obtain ⟨s105, s106⟩ := t2 hF104 4 s90 34 s94
  have s107 : F103 5 = iv (ern q) := (hF104 5).trans rfl
  clear hF104
  refine then_normal (wq_ret ?_)
  exact end_2 s106 rfl (res_blk blkT_arr rfl s105 B98) (res_tmp (v := iv (ern q)) rfl s107) ⟨(by unfold upB; rw [each_no he]), K102⟩
 ·skip
  refine wq_region (wl_mv rfl rfl rfl s82 (wl_v (.bool false) rfl rfl (y_lss rfl rfl rfl (decide_eq_false d86) rr) (wl_v (.bool false) rfl rfl (y_mov rfl rfl rr) (wl_unless 2 true 18 rfl rfl rfl (Or.inl rfl) rfl (wl_unless 2 true 18 rfl rfl rfl (Or.inl rfl) rfl (wl_v (.bool false) rfl rfl (y_pickF rfl rfl rfl rr) (wl_nil fun F108 hF109 => ?_)))))))
  obtain ⟨s111, s113, s114, s115⟩ := t4 hF109 4 s77 7 s79 8 s80 34 s81
  have s117 : F108 21 = .bool false := (hF109 21).trans rfl
  clear hF109
  refine then_normal ?_
  refine wq_cond (t := false) s117 (fun e => by cases e) (fun _ => ?_)
  refine wq_exit (then_exit (then_exit (in_here (then_normal (wq_seq (wq_region (wl_v (blkV (fun _ => 0)) rfl rfl (y_load_blk blkT_arr rfl s114 B85 rr) (wl_mv rfl rfl rfl s113 (wl_store_blk blkT_arr rfl rfl rfl s111 rfl B84 fun w118 B119 k120 => ?_)))))))))
  have K123 := K74.trans k120 (Grew.ok (S := fun _ => False) gr15 noB_le)
  refine wl_v (iv (ern q)) rfl rfl (y_asg rfl rfl rr) (wl_nil fun F124 hF125 => ?_)
  obtain ⟨s126, s127⟩ := t2 hF125 4 s111 34 s115
  have s128 : F124 5 = iv (ern q) := (hF125 5).trans rfl
  clear hF125
  refine then_normal (wq_ret ?_)
  exact end_2 s127 rfl (res_blk blkT_arr rfl s126 B119) (res_tmp (v := iv (ern q)) rfl s128) ⟨(by unfold upB; rw [each_no he]), K123⟩
theorem qref_up (b : Nat → Int) (q : Int) (w0 : World) : Calls Tryz.prog 26 #[blkV b, .int .i64 q] w0 fun e w' => e = .returned (.tuple #[blkV (upB b q), .int .i64 (ern q)]) ∧ Kept (fun _ => False) w0 w' := by
  by_cases h : ern q = 0
  · exact qref_up_ok b q w0 h
  · exact qref_up_no b q w0 h
end Go.Proofs.YtdcbabgcbkdlhaaGreatDoor
