/- What PictureNeeds reaches of my texts, part 6. -/
import Derived.Test.YtknjpdcpmpfklaaGreatDoorPictureNeedsE
set_option maxRecDepth 100000
set_option maxHeartbeats 4000000
set_option maxRecDepth 100000
namespace Go.Proofs.YtknjpdcpmpfklaaGreatDoor
open Go.RowKit
def actFrom (m : Int) : Int := if m < 4 then 0 else if m = 4 then 1 else 2
def actL : List Value := [.int .i64 0, .bool false, .bool false, .int .i64 0, .bool false, .bool false, .int .i64 0, .bool false, .bool false, .int .i64 0, .bool false, .bool false, .int .i64 1, .bool true, .bool false, .int .i64 2, .bool false, .bool true, .int .i64 2, .bool true, .bool true]
def ActsIn (w : World) : Prop := 5 ≤ w.heap.size ∧ ∀ i, i < 21 → w.cell? ⟨1, i, none⟩ = actL[i]?
theorem ActsIn.but {w w' : World} {T : Nat → Prop} (h : ActsIn w) (k : Kept T w w') (ha : ∀ i, T i → 5 ≤ i) : ActsIn w' :=
  ⟨Nat.le_trans h.1 k.size, fun i hi => (k.cell0 (Nat.lt_of_lt_of_le (by decide) h.1) (fun x => absurd (ha _ x) (by decide))).trans (h.2 i hi)⟩
theorem ActsIn.all {w w' : World} (h : ActsIn w) (k : Kept (fun _ => False) w w') : ActsIn w' := h.but k (fun _ x => x.elim)
theorem aboveN {w0 : World} {T : Nat → Prop} (g : Grew w0 noB T) (h : ActsIn w0) : ∀ i, T i → 5 ≤ i := fun i hi => by
  have := h.1
  rcases g i hi with h1 | h1
  · exact h1.elim
  · omega
theorem aboveN2 {w0 : World} {B T : Nat → Prop} (g : Grew w0 B T) (hB : ∀ i, B i → 5 ≤ i) (h : ActsIn w0) : ∀ i, T i → 5 ≤ i := fun i hi => by
  have := h.1
  rcases g i hi with h1 | h1
  · exact hB i h1
  · omega
theorem ovO {T : Nat → Prop} (h : ∀ i, T i → 5 ≤ i) : ∀ i, T i → 2 < i := fun i hi => Nat.lt_of_lt_of_le (by decide) (h i hi)
theorem acts_all {w : World} (h : ActsIn w) {m : Int} (hm : 0 ≤ m ∧ m < 7) : w.cell? ⟨1, 0 + (m).toNat * 3, none⟩ = some (.int .i64 (actFrom m)) ∧ w.cell? ⟨1, 0 + (m).toNat * 3 + 1, none⟩ = some (.bool (pastB m)) ∧ w.cell? ⟨1, 0 + (m).toNat * 3 + 2, none⟩ = some (.bool (nextB m)) := by
  have hc : m = 0 ∨ m = 1 ∨ m = 2 ∨ m = 3 ∨ m = 4 ∨ m = 5 ∨ m = 6 := by omega
  rcases hc with rfl | rfl | rfl | rfl | rfl | rfl | rfl <;> exact ⟨(h.2 _ (by decide)).trans rfl, (h.2 _ (by decide)).trans rfl, (h.2 _ (by decide)).trans rfl⟩
theorem has_iff (k m : Int) : 0 ≤ m ∧ m < 7 → (actFrom m ≤ k ∧ k ≤ 2 ↔ m ≤ mostK k) := by
  rintro ⟨h1, h2⟩
  have ha : actFrom m = 0 ∧ m < 4 ∨ actFrom m = 1 ∧ m = 4 ∨ actFrom m = 2 ∧ 4 < m := by
    unfold actFrom
    by_cases h3 : m < 4
    · rw [if_pos h3]; omega
    · rw [if_neg h3]
      by_cases h4 : m = 4
      · rw [if_pos h4]; omega
      · rw [if_neg h4]; omega
  have hk : k = 0 ∧ mostK k = 3 ∨ k = 1 ∧ mostK k = 4 ∨ k = 2 ∧ mostK k = 6 ∨ (k < 0 ∨ 2 < k) ∧ mostK k = -1 := by
    unfold mostK
    by_cases h3 : k = 0
    · rw [if_pos h3]; omega
    · rw [if_neg h3]
      by_cases h4 : k = 1
      · rw [if_pos h4]; omega
      · rw [if_neg h4]
        by_cases h5 : k = 2
        · rw [if_pos h5]; omega
        · rw [if_neg h5]; omega
  omega
theorem bl_known (m : Int) (w0 : World) :
  Calls Tryz.prog 109 #[.int .i64 (m)] w0 fun e w' => e = .returned (.bool (decide (0 ≤ m ∧ m < 7))) ∧ Kept (fun _ => False) w0 w' := by
 refine calls_wq (args := [iv m]) 9 Tryz.func109 rfl rfl (Nat.le_of_ble_eq_true rfl) ?_
 have K0 := Kept.refl (fun _ => False) w0
 refine wq_seq (wq_region (wl_v (.bool false) rfl rfl (y_asg rfl rfl rr) (wl_nil fun F1 hF2 => ?_)))
 have s3 : F1 0 = iv m := (hF2 0).trans rfl
 have s4 : F1 9 = undef := (hF2 9).trans rfl
 clear hF2
 refine then_normal (wq_seq ?_)
 by_cases d5 : 0 ≤ m
 ·skip
  refine wq_region (wl_mv rfl rfl rfl s3 (wl_v (.bool true) rfl rfl (y_geq rfl rfl rfl (decide_eq_true d5) rr) (wl_v (.bool true) rfl rfl (y_mov rfl rfl rr) (wl_vw (iv m) 2 true 5 rfl rfl rfl rfl rfl (y_mov rfl s3 rr) (wl_vw (.bool (decide (m < 7))) 2 true 5 rfl rfl rfl rfl rfl (y_lss rfl rfl rfl rfl rr) (wl_v (.bool (decide (m < 7))) rfl rfl (y_pickT rfl rfl rfl rr) (wl_v (.bool (decide (m < 7))) rfl rfl (y_asg rfl rfl rr) (wl_nil fun F6 hF7 => ?_))))))))
  have s8 := (hF7 9).trans s4
  have s9 : F6 2 = .bool (decide (m < 7)) := (hF7 2).trans rfl
  clear hF7
  refine then_normal (wq_ret ?_)
  exact end_tmp (v := .bool (decide (m < 7))) s8 rfl rfl s9 ⟨(retB (by first | exact (decide_eq_true (by omega)).symm | exact (decide_eq_false (by omega)).symm | exact decide_eq_decide.2 (by omega))), K0⟩
 ·skip
  refine wq_region (wl_mv rfl rfl rfl s3 (wl_v (.bool false) rfl rfl (y_geq rfl rfl rfl (decide_eq_false d5) rr) (wl_v (.bool false) rfl rfl (y_mov rfl rfl rr) (wl_unless 2 true 5 rfl rfl rfl (Or.inl rfl) rfl (wl_unless 2 true 5 rfl rfl rfl (Or.inl rfl) rfl (wl_v (.bool false) rfl rfl (y_pickF rfl rfl rfl rr) (wl_v (.bool false) rfl rfl (y_asg rfl rfl rr) (wl_nil fun F10 hF11 => ?_))))))))
  have s12 := (hF11 9).trans s4
  have s13 : F10 2 = .bool false := (hF11 2).trans rfl
  clear hF11
  refine then_normal (wq_ret ?_)
  exact end_tmp (v := .bool false) s12 rfl rfl s13 ⟨(retB (by first | exact (decide_eq_true (by omega)).symm | exact (decide_eq_false (by omega)).symm | exact decide_eq_decide.2 (by omega))), K0⟩
theorem bl_has (k m : Int) (w0 : World) (hA : ActsIn w0) :
  Calls Tryz.prog 99 #[.int .i64 (k), .int .i64 (m)] w0 fun e w' => e = .returned (.bool (decide (0 ≤ m ∧ m ≤ mostK k))) ∧ Kept (fun _ => False) w0 w' := by
 refine calls_wq (args := [iv k, iv m]) 19 Tryz.func99 rfl rfl (Nat.le_of_ble_eq_true rfl) ?_
 have K0 := Kept.refl (fun _ => False) w0
 have hk6 := mostK_le k
 have hif := has_iff k m
 refine wq_seq (wq_region (wl_v (.bool false) rfl rfl (y_asg rfl rfl rr) (wl_nil fun F1 hF2 => ?_)))
 have s3 : F1 0 = iv k := (hF2 0).trans rfl
 have s4 : F1 1 = iv m := (hF2 1).trans rfl
 have s5 : F1 19 = undef := (hF2 19).trans rfl
 clear hF2
 refine then_normal (wq_seq ?_)
 by_cases d6 : 0 ≤ m ∧ m < 7
 ·skip
  by_cases d7 : (actFrom m) ≤ k
  ·skip
   refine wq_region (wl_mv rfl rfl rfl s4 (wl_call (R := fun v_ w_ => v_ = .bool true ∧ Kept (fun _ => False) w0 w_) rfl rfl (y_cs rfl rfl rfl (fun _ _ => by kernel_rfl) (ev_func _) (vsC rfl vsN) (bl_known m  _   ) (fun e_ w_ h_ => ⟨_, h_.1, (congrArg Value.bool (decide_eq_true d6)), h_.2⟩)) ?_))
   rintro _ w8 ⟨rfl, k9⟩
   have K10 := K0.tr k9
   refine wl_v (.bool true) rfl rfl (y_mov rfl rfl rr) (wl_vw (iv k) 2 true 7 rfl rfl rfl rfl rfl (y_mov rfl s3 rr) (wl_vw (iv m) 2 true 7 rfl rfl rfl rfl rfl (y_mov rfl s4 rr) (wl_vw (.pointer (some ⟨1, 0 + (m.toNat) * 3, none⟩)) 2 true 7 rfl rfl rfl rfl rfl (y_atR (m.toNat) (s := 3) rfl rfl rfl (by omega) Tryz.underlying165 (by omega) (by kernel_rfl) (by omega) rr) (wl_vw (.pointer (some ⟨1, 0 + (m.toNat) * 3, none⟩)) 2 true 7 rfl rfl rfl rfl rfl (y_fieldR (n := 1) rfl rfl Tryz.underlying164 rfl (by kernel_rfl) (by decide) rfl rr) (wl_vw (iv (actFrom m)) 2 true 7 rfl rfl rfl rfl rfl (y_ldR rfl rfl Tryz.underlying3 ((acts_all (hA.all K10) (by assumption)).1) rr) (wl_vw (.bool true) 2 true 7 rfl rfl rfl rfl rfl (y_geq rfl rfl rfl (decide_eq_true d7) rr) (wl_v (.bool true) rfl rfl (y_pickT rfl rfl rfl rr) (wl_v (.bool true) rfl rfl (y_mov rfl rfl rr) (wl_vw (iv k) 10 true 15 rfl rfl rfl rfl rfl (y_mov rfl s3 rr) (wl_vw (.bool (decide (k ≤ 2))) 10 true 15 rfl rfl rfl rfl rfl (y_leq rfl rfl rfl rfl rr) (wl_v (.bool (decide (k ≤ 2))) rfl rfl (y_pickT rfl rfl rfl rr) ?_)))))))))))
   refine wl_v (.bool (decide (k ≤ 2))) rfl rfl (y_asg rfl rfl rr) (wl_nil fun F11 hF12 => ?_)
   have s13 := (hF12 19).trans s5
   have s14 : F11 4 = .bool (decide (k ≤ 2)) := (hF12 4).trans rfl
   clear hF12
   refine then_normal (wq_ret ?_)
   exact end_tmp (v := .bool (decide (k ≤ 2))) s13 rfl rfl s14 ⟨(retB (by first | exact (decide_eq_true (by omega)).symm | exact (decide_eq_false (by omega)).symm | exact decide_eq_decide.2 (by omega))), K10⟩
  ·skip
   refine wq_region (wl_mv rfl rfl rfl s4 (wl_call (R := fun v_ w_ => v_ = .bool true ∧ Kept (fun _ => False) w0 w_) rfl rfl (y_cs rfl rfl rfl (fun _ _ => by kernel_rfl) (ev_func _) (vsC rfl vsN) (bl_known m  _   ) (fun e_ w_ h_ => ⟨_, h_.1, (congrArg Value.bool (decide_eq_true d6)), h_.2⟩)) ?_))
   rintro _ w15 ⟨rfl, k16⟩
   have K17 := K0.tr k16
   refine wl_v (.bool true) rfl rfl (y_mov rfl rfl rr) (wl_vw (iv k) 2 true 7 rfl rfl rfl rfl rfl (y_mov rfl s3 rr) (wl_vw (iv m) 2 true 7 rfl rfl rfl rfl rfl (y_mov rfl s4 rr) (wl_vw (.pointer (some ⟨1, 0 + (m.toNat) * 3, none⟩)) 2 true 7 rfl rfl rfl rfl rfl (y_atR (m.toNat) (s := 3) rfl rfl rfl (by omega) Tryz.underlying165 (by omega) (by kernel_rfl) (by omega) rr) (wl_vw (.pointer (some ⟨1, 0 + (m.toNat) * 3, none⟩)) 2 true 7 rfl rfl rfl rfl rfl (y_fieldR (n := 1) rfl rfl Tryz.underlying164 rfl (by kernel_rfl) (by decide) rfl rr) (wl_vw (iv (actFrom m)) 2 true 7 rfl rfl rfl rfl rfl (y_ldR rfl rfl Tryz.underlying3 ((acts_all (hA.all K17) (by assumption)).1) rr) (wl_vw (.bool false) 2 true 7 rfl rfl rfl rfl rfl (y_geq rfl rfl rfl (decide_eq_false d7) rr) (wl_v (.bool false) rfl rfl (y_pickT rfl rfl rfl rr) (wl_v (.bool false) rfl rfl (y_mov rfl rfl rr) (wl_unless 10 true 15 rfl rfl rfl (Or.inl rfl) rfl (wl_unless 10 true 15 rfl rfl rfl (Or.inl rfl) rfl (wl_v (.bool false) rfl rfl (y_pickF rfl rfl rfl rr) ?_)))))))))))
   refine wl_v (.bool false) rfl rfl (y_asg rfl rfl rr) (wl_nil fun F18 hF19 => ?_)
   have s20 := (hF19 19).trans s5
   have s21 : F18 4 = .bool false := (hF19 4).trans rfl
   clear hF19
   refine then_normal (wq_ret ?_)
   exact end_tmp (v := .bool false) s20 rfl rfl s21 ⟨(retB (by first | exact (decide_eq_true (by omega)).symm | exact (decide_eq_false (by omega)).symm | exact decide_eq_decide.2 (by omega))), K17⟩
 ·skip
  refine wq_region (wl_mv rfl rfl rfl s4 (wl_call (R := fun v_ w_ => v_ = .bool false ∧ Kept (fun _ => False) w0 w_) rfl rfl (y_cs rfl rfl rfl (fun _ _ => by kernel_rfl) (ev_func _) (vsC rfl vsN) (bl_known m  _   ) (fun e_ w_ h_ => ⟨_, h_.1, (congrArg Value.bool (decide_eq_false d6)), h_.2⟩)) ?_))
  rintro _ w22 ⟨rfl, k23⟩
  have K24 := K0.tr k23
  refine wl_v (.bool false) rfl rfl (y_mov rfl rfl rr) (wl_unless 2 true 7 rfl rfl rfl (Or.inl rfl) rfl (wl_unless 2 true 7 rfl rfl rfl (Or.inl rfl) rfl (wl_unless 2 true 7 rfl rfl rfl (Or.inl rfl) rfl (wl_unless 2 true 7 rfl rfl rfl (Or.inl rfl) rfl (wl_unless 2 true 7 rfl rfl rfl (Or.inl rfl) rfl (wl_unless 2 true 7 rfl rfl rfl (Or.inl rfl) rfl (wl_v (.bool false) rfl rfl (y_pickF rfl rfl rfl rr) (wl_v (.bool false) rfl rfl (y_mov rfl rfl rr) (wl_unless 10 true 15 rfl rfl rfl (Or.inl rfl) rfl (wl_unless 10 true 15 rfl rfl rfl (Or.inl rfl) rfl (wl_v (.bool false) rfl rfl (y_pickF rfl rfl rfl rr) ?_)))))))))))
  refine wl_v (.bool false) rfl rfl (y_asg rfl rfl rr) (wl_nil fun F25 hF26 => ?_)
  have s27 := (hF26 19).trans s5
  have s28 : F25 4 = .bool false := (hF26 4).trans rfl
  clear hF26
  refine then_normal (wq_ret ?_)
  exact end_tmp (v := .bool false) s27 rfl rfl s28 ⟨(retB (by first | exact (decide_eq_true (by omega)).symm | exact (decide_eq_false (by omega)).symm | exact decide_eq_decide.2 (by omega))), K24⟩
theorem past_out {m : Int} (h : ¬ (0 ≤ m ∧ m < 7)) : pastB m = false ∧ nextB m = false := by
  unfold pastB nextB; rw [decide_eq_false (by omega : ¬ m = 4), decide_eq_false (by omega : ¬ m = 5), decide_eq_false (by omega : ¬ m = 6)]; exact ⟨rfl, rfl⟩
theorem bl_vectors (m : Int) (w0 : World) (hA : ActsIn w0) :
  Calls Tryz.prog 97 #[.int .i64 (m)] w0 fun e w' => e = .returned (.tuple #[.bool (pastB m), .bool (nextB m)]) ∧ Kept (fun _ => False) w0 w' := by
 refine calls_wq (args := [iv m]) 15 Tryz.func97 rfl rfl (Nat.le_of_ble_eq_true rfl) ?_
 have K0 := Kept.refl (fun _ => False) w0
 refine wq_seq (wq_region (wl_v (.bool false) rfl rfl (y_asg rfl rfl rr) (wl_v (.bool false) rfl rfl (y_asg rfl rfl rr) (wl_nil fun F1 hF2 => ?_))))
 have s3 : F1 0 = iv m := (hF2 0).trans rfl
 have s4 : F1 15 = undef := (hF2 15).trans rfl
 clear hF2
 refine then_normal (wq_seq (wq_seq ?_))
 by_cases d5 : 0 ≤ m ∧ m < 7
 ·skip
  refine wq_region (wl_mv rfl rfl rfl s3 (wl_call (R := fun v_ w_ => v_ = .bool true ∧ Kept (fun _ => False) w0 w_) rfl rfl (y_cs rfl rfl rfl (fun _ _ => by kernel_rfl) (ev_func _) (vsC rfl vsN) (bl_known m  _   ) (fun e_ w_ h_ => ⟨_, h_.1, (congrArg Value.bool (decide_eq_true d5)), h_.2⟩)) ?_))
  rintro _ w6 ⟨rfl, k7⟩
  have K8 := K0.tr k7
  refine wl_v (.bool false) rfl rfl (y_not rfl rfl rfl rr) (wl_nil fun F9 hF10 => ?_)
  obtain ⟨s11, s12⟩ := t2 hF10 0 s3 15 s4
  have s13 : F9 6 = .bool false := (hF10 6).trans rfl
  clear hF10
  refine then_normal ?_
  refine wq_cond (t := false) s13 (fun e => by cases e) (fun _ => ?_)
  refine wq_skip (then_normal (wq_seq ?_))
  have hm7 : 0 ≤ m ∧ m < 7 := by first | assumption | (apply Decidable.byContradiction; assumption)
  refine wq_said [some 7, some 8, some 9, some 10, some 11, some 12, some 13, some 14, some 2, some 3] [Pd.eq (iv m), Pd.eq (.pointer (some ⟨1, 0 + (m.toNat) * 3, none⟩)), Pd.eq (.pointer (some ⟨1, 0 + (m.toNat) * 3 + 1, none⟩)), Pd.eq (.bool (pastB m)), Pd.eq (iv m), Pd.eq (.pointer (some ⟨1, 0 + (m.toNat) * 3, none⟩)), Pd.eq (.pointer (some ⟨1, 0 + (m.toNat) * 3 + 2, none⟩)), Pd.eq (.bool (nextB m)), Pd.eq (.bool (pastB m)), Pd.eq (.bool (nextB m))] (by kernel_rfl) (by kernel_rfl) ?_ ?_
  ·refine stepsF_cons ?_ ?_
   ·refine StepF.one rfl fun F_ w_ hR hout hD => ?_
    exact (y_mov rfl ((hout 0 rfl (by decide)).trans s11) ⟨rfl, Kept.refl _ _⟩)
   refine stepsF_cons ?_ ?_
   ·refine StepF.one rfl fun F_ w_ hR hout hD => ?_
    have g7 : F_ 7 = iv m := (hD.get 0 rfl rfl rfl)
    exact (y_atR (m.toNat) (s := 3) rfl rfl g7 (by omega) Tryz.underlying165 (by omega) (by kernel_rfl) (by omega) ⟨rfl, Kept.refl _ _⟩)
   refine stepsF_cons ?_ ?_
   ·refine StepF.one rfl fun F_ w_ hR hout hD => ?_
    have g8 : F_ 8 = .pointer (some ⟨1, 0 + (m.toNat) * 3, none⟩) := (hD.get 0 rfl rfl rfl)
    exact (y_fieldR (n := 1) rfl g8 Tryz.underlying164 rfl (by kernel_rfl) (by decide) rfl ⟨rfl, Kept.refl _ _⟩)
   refine stepsF_cons ?_ ?_
   ·refine StepF.one rfl fun F_ w_ hR hout hD => ?_
    have g9 : F_ 9 = .pointer (some ⟨1, 0 + (m.toNat) * 3 + 1, none⟩) := (hD.get 0 rfl rfl rfl)
    exact (y_ldA rfl g9 Tryz.underlying4 rfl ((acts_all (hA.all (K8.trans hR (fun _ _ x => x.elim))) hm7).2.1) ⟨rfl, Kept.refl _ _⟩)
   refine stepsF_cons ?_ ?_
   ·refine StepF.one rfl fun F_ w_ hR hout hD => ?_
    exact (y_mov rfl ((hout 0 rfl (by decide)).trans s11) ⟨rfl, Kept.refl _ _⟩)
   refine stepsF_cons ?_ ?_
   ·refine StepF.one rfl fun F_ w_ hR hout hD => ?_
    have g11 : F_ 11 = iv m := (hD.get 0 rfl rfl rfl)
    exact (y_atR (m.toNat) (s := 3) rfl rfl g11 (by omega) Tryz.underlying165 (by omega) (by kernel_rfl) (by omega) ⟨rfl, Kept.refl _ _⟩)
   refine stepsF_cons ?_ ?_
   ·refine StepF.one rfl fun F_ w_ hR hout hD => ?_
    have g12 : F_ 12 = .pointer (some ⟨1, 0 + (m.toNat) * 3, none⟩) := (hD.get 0 rfl rfl rfl)
    exact (y_fieldR (n := 1) rfl g12 Tryz.underlying164 rfl (by kernel_rfl) (by decide) rfl ⟨rfl, Kept.refl _ _⟩)
   refine stepsF_cons ?_ ?_
   ·refine StepF.one rfl fun F_ w_ hR hout hD => ?_
    have g13 : F_ 13 = .pointer (some ⟨1, 0 + (m.toNat) * 3 + 2, none⟩) := (hD.get 0 rfl rfl rfl)
    exact (y_ldA rfl g13 Tryz.underlying4 rfl ((acts_all (hA.all (K8.trans hR (fun _ _ x => x.elim))) hm7).2.2) ⟨rfl, Kept.refl _ _⟩)
   refine stepsF_cons ?_ ?_
   ·refine StepF.one rfl fun F_ w_ hR hout hD => ?_
    have g10 : F_ 10 = .bool (pastB m) := (hD.get 0 rfl rfl rfl)
    exact (y_asg rfl g10 ⟨rfl, Kept.refl _ _⟩)
   refine stepsF_cons ?_ ?_
   ·refine StepF.one rfl fun F_ w_ hR hout hD => ?_
    have g14 : F_ 14 = .bool (nextB m) := (hD.get 0 rfl rfl rfl)
    exact (y_asg rfl g14 ⟨rfl, Kept.refl _ _⟩)
   exact stepsF_nil
  intro v14 F15 w16 k17 G18 hF19
  have K21 := K8.tr k17
  have s22 := (hF19 15).trans s12
  have s23 : F15 2 = .bool (pastB m) := (hF19 2).trans (G18 8 (by decide))
  have s24 : F15 3 = .bool (nextB m) := (hF19 3).trans (G18 9 (by decide))
  clear G18 hF19
  refine then_normal (wq_ret ?_)
  exact end_2 s22 rfl (res_tmp (v := .bool (pastB m)) rfl s23) (res_tmp (v := .bool (nextB m)) rfl s24) ⟨(by first | rfl | rw [hpo.1, hpo.2]), K21⟩
 ·skip
  refine wq_region (wl_mv rfl rfl rfl s3 (wl_call (R := fun v_ w_ => v_ = .bool false ∧ Kept (fun _ => False) w0 w_) rfl rfl (y_cs rfl rfl rfl (fun _ _ => by kernel_rfl) (ev_func _) (vsC rfl vsN) (bl_known m  _   ) (fun e_ w_ h_ => ⟨_, h_.1, (congrArg Value.bool (decide_eq_false d5)), h_.2⟩)) ?_))
  rintro _ w25 ⟨rfl, k26⟩
  have K27 := K0.tr k26
  refine wl_v (.bool true) rfl rfl (y_not rfl rfl rfl rr) (wl_nil fun F28 hF29 => ?_)
  have s31 := (hF29 15).trans s4
  have s32 : F28 6 = .bool true := (hF29 6).trans rfl
  clear hF29
  refine then_normal ?_
  refine wq_cond (t := true) s32 (fun _ => ?_) (fun e => by cases e)
  refine wq_seq ?_
  have hpo := past_out (m := m) (by assumption)
  refine wq_region (wl_v (.bool false) rfl rfl (y_asg rfl rfl rr) (wl_v (.bool false) rfl rfl (y_asg rfl rfl rr) (wl_nil fun F33 hF34 => ?_)))
  have s35 := (hF34 15).trans s31
  have s36 : F33 2 = .bool false := (hF34 2).trans rfl
  have s37 : F33 3 = .bool false := (hF34 3).trans rfl
  clear hF34
  refine then_normal (wq_ret (then_ret ?_))
  exact end_2 s35 rfl (res_tmp (v := .bool false) rfl s36) (res_tmp (v := .bool false) rfl s37) ⟨(by first | rfl | rw [hpo.1, hpo.2]), K27⟩
theorem bl_build (b : Nat → Int) (c : Ch) (q : Int) (w0 : World) (hs : StepsAt w0) (hw : Waves w0) :
  Calls Tryz.prog 76 #[blkV (b), .agg (chW (c)).toArray, .int .i64 (q)] w0 fun e w' => e = .returned (.tuple #[blkV (buB b c.b q), .int .i64 (ern q)]) ∧ Kept (fun _ => False) w0 w' := by
 refine calls_wq (args := [blkV b, .agg (chW c).toArray, iv q]) 39 Tryz.func76 rfl rfl (Nat.le_of_ble_eq_true rfl) ?_
 have K0 := Kept.refl (fun _ => False) w0
 refine wq_seq (wq_region (wl_box_blk rfl rfl rfl rfl fun p1 w2 e5 B3 k4 => ?_))
 have g6 := onB_new (Nat.le_of_eq e5.symm)
 have gr7 : Grew w0 noB (onB p1) := Grew.new K0 g6
 clear e5 g6
 have K8 := K0.tr k4
 refine wl_box_stc (vs := (chW c)) rfl rfl rfl rfl fun p9 w10 B12 g13 k11 => ?_
 have ap15 : Apart (onB p9) (onB p1) := Apart.new g13 (onB_live B3.lt)
 have B16 := B3.all k11 id
 have K17 := K8.tr k11
 refine wl_alloc_blk rfl rfl rfl blkT_block.2.2 fun p18 w19 e22 B20 k21 => ?_
 have g23 := onB_new (Nat.le_of_eq e22.symm)
 have gr24 : Grew w0 noB (onB p18) := Grew.new K17 g23
 have ap25 : Apart (onB p18) (onB p1) := Apart.new g23 (onB_live B16.lt)
 clear e22 g23
 have B27 := B16.all k21 id
 have B28 := B12.all k21 id
 have K29 := K17.tr k21
 refine wl_v (iv 0) rfl rfl (y_asg rfl rfl rr) (wl_nil fun F30 hF31 => ?_)
 have s32 : F30 2 = iv q := (hF31 2).trans rfl
 have s33 : F30 39 = undef := (hF31 39).trans rfl
 have s34 : F30 3 = pt p1 0 := (hF31 3).trans rfl
 have s35 : F30 4 = pt p9 0 := (hF31 4).trans rfl
 have s36 : F30 6 = pt p18 0 := (hF31 6).trans rfl
 clear hF31
 refine then_normal (wq_seq (wq_region (wl_v (pt p9 5) rfl rfl (y_fieldR (n := 16) rfl s35 Tryz.underlying71 rfl (by kernel_rfl) (by decide) rfl rr) (wl_v (blkV (c.b)) rfl rfl (y_ldPart (n := 16) (us := arrL 16 (c.b)) stcT_block rfl rfl B28 (Nat.le_of_ble_eq_true rfl) rfl rr) (wl_mv rfl rfl rfl s32 (wl_cs rfl rfl rfl rfl rfl (fun _ _ => by kernel_rfl) (vsC rfl (vsC rfl vsN)) (up_any (c.b) q  _ (hs.all K29)  ) fun w37 k38 => ?_))))))
 have B39 := B27.all k38 id
 have B40 := B28.all k38 id
 have B41 := B20.all k38 id
 have K42 := K29.tr k38
 refine wl_v (.tuple #[blkV (upB (c.b) q), iv (ern q)]) rfl rfl (y_mov rfl rfl rr) (wl_v (blkV (upB (c.b) q)) rfl rfl (y_ext rfl rfl rfl rr) (wl_v (iv (ern q)) rfl rfl (y_ext rfl rfl rfl rr) (wl_alloc_blk rfl rfl rfl blkT_block.2.2 fun p43 w44 e47 B45 k46 => ?_)))
 have g48 := onB_new (Nat.le_of_eq e47.symm)
 have gr49 : Grew w0 noB (onB p43) := Grew.new K42 g48
 have ap50 : Apart (onB p43) (onB p1) := Apart.new g48 (onB_live B39.lt)
 have ap51 : Apart (onB p43) (onB p9) := Apart.new g48 (onB_live B40.lt)
 have ap52 : Apart (onB p43) (onB p18) := Apart.new g48 (onB_live B41.lt)
 clear e47 g48
 have B53 := B39.all k46 id
 have B54 := B40.all k46 id
 have B55 := B41.all k46 id
 have K56 := K42.tr k46
 refine wl_store_blk blkT_block rfl rfl rfl rfl rfl B45 fun w57 B58 k59 => ?_
 have B60 := B53.all k59 (ap50.symm p1 rfl)
 have B61 := B54.all k59 (ap51.symm p9 rfl)
 have B62 := B55.all k59 (ap52.symm p18 rfl)
 have K63 := K56.trans k59 (Grew.ok (S := fun _ => False) gr49 noB_le)
 refine wl_v (iv (ern q)) rfl rfl (y_asg rfl rfl rr) (wl_nil fun F64 hF65 => ?_)
 obtain ⟨s66, s67, s68⟩ := t3 hF65 39 s33 3 s34 6 s36
 have s69 : F64 8 = pt p43 0 := (hF65 8).trans rfl
 have s70 : F64 9 = iv (ern q) := (hF65 9).trans rfl
 clear hF65
 refine then_normal (wq_seq (wq_seq (wq_region (wl_mv rfl rfl rfl s70 (wl_v (.bool (decide ((ern q) ≠ 0))) rfl rfl (y_neqI rfl rfl rfl rfl rr) (wl_nil fun F71 hF72 => ?_))))))
 obtain ⟨s73, s74, s75, s76, s77⟩ := t5 hF72 39 s66 3 s67 6 s68 8 s69 9 s70
 have s78 : F71 20 = .bool (decide ((ern q) ≠ 0)) := (hF72 20).trans rfl
 clear hF72
 refine then_normal ?_
 refine wq_cond s78 (fun c79 => ?_) (fun c79 => ?_)
 ·replace c79 := of_decide_eq_true c79
  refine wq_seq ?_
  have hR := bu_no (b := b) (l := c.b) (q := q) (by assumption)
  refine wq_region (wl_v (blkV (fun _ => 0)) rfl rfl (y_buildR (cells := (arrL 16 (fun _ => 0)).toArray) rfl (by kernel_rfl) rfl rr) (wl_mv rfl rfl rfl s77 (wl_store_blk blkT_block rfl rfl rfl s75 rfl B62 fun w80 B81 k82 => ?_)))
  have K86 := K63.trans k82 (Grew.ok (S := fun _ => False) gr24 noB_le)
  refine wl_v (iv (ern q)) rfl rfl (y_asg rfl rfl rr) (wl_nil fun F87 hF88 => ?_)
  obtain ⟨s89, s90⟩ := t2 hF88 39 s73 6 s75
  have s91 : F87 7 = iv (ern q) := (hF88 7).trans rfl
  clear hF88
  refine then_normal (wq_ret (then_ret ?_))
  exact end_2 s89 rfl (res_blk blkT_block rfl s90 B81) (res_tmp (v := iv (ern q)) rfl s91) ⟨(by first | rw [hR, hq0] | rw [hR]), K86⟩
 ·replace c79 := of_decide_eq_false c79
  refine wq_skip (then_normal (wq_seq ?_))
  have hq0 : ern q = 0 := by first | assumption | (apply Decidable.byContradiction; assumption)
  have hR := bu_yes (b := b) (l := c.b) hq0
  refine wq_tail 4 [some 23, some 24, some 25, some 26] [Pd.eq (blkV b), Pd.eq (blkV (upB (c.b) q)), Pd.eq (blkV (backB (upB (c.b) q))), Pd.eq (blkV (moreB b (backB (upB (c.b) q))))] (by kernel_rfl) (by kernel_rfl) (by kernel_rfl) ?_ ?_
  ·refine stepsF_cons ?_ ?_
   ·refine StepF.one rfl fun F_ w_ hR hout hD => ?_
    exact (y_load_blk blkT_block rfl ((hout 3 rfl (by decide)).trans s74) (B60.all hR id) ⟨rfl, Kept.refl _ _⟩)
   refine stepsF_cons ?_ ?_
   ·refine StepF.one rfl fun F_ w_ hR hout hD => ?_
    exact (y_load_blk blkT_block rfl ((hout 8 rfl (by decide)).trans s76) (B58.all hR id) ⟨rfl, Kept.refl _ _⟩)
   refine stepsF_cons ?_ ?_
   ·refine StepF.one rfl fun F_ w_ hR hout hD => ?_
    have g24 : F_ 24 = blkV (upB (c.b) q) := (hD.get 0 rfl rfl rfl)
    exact (y_cs rfl rfl rfl (fun _ _ => by kernel_rfl) (ev_func _) (vsC g24 vsN) (back_any (upB (c.b) q)  _ (hw.all (K63.trans hR (fun _ _ x => x.elim)))  ) (fun e_ w_ h_ => ⟨_, h_.1, rfl, h_.2⟩))
   refine stepsF_cons ?_ ?_
   ·refine StepF.one rfl fun F_ w_ hR hout hD => ?_
    have g23 : F_ 23 = blkV b := (hD.get 0 rfl rfl rfl)
    have g25 : F_ 25 = blkV (backB (upB (c.b) q)) := (hD.get 1 rfl rfl rfl)
    exact (y_cs rfl rfl rfl (fun _ _ => by kernel_rfl) (ev_func _) (vsC g23 (vsC g25 vsN)) (more_any b (backB (upB (c.b) q))  _   ) (fun e_ w_ h_ => ⟨_, h_.1, rfl, h_.2⟩))
   exact stepsF_nil
  intro v92 F93 w94 k95 G96 hF97
  have B99 := B60.all k95 id
  have B100 := B61.all k95 id
  have B101 := B62.all k95 id
  have B102 := B58.all k95 id
  have K103 := K63.tr k95
  obtain ⟨s104, s105, s106⟩ := t3 hF97 39 s73 3 s74 6 s75
  have s107 : F93 26 = blkV (moreB b (backB (upB (c.b) q))) := (hF97 26).trans (G96 3 (by decide))
  clear G96 hF97
  refine wl_store_blk blkT_block rfl rfl rfl s105 s107 B99 fun w108 B109 k110 => ?_
  have B111 := B100.all k110 (ap15 p9 rfl)
  have B112 := B101.all k110 (ap25 p18 rfl)
  have B113 := B102.all k110 (ap50 p43 rfl)
  have K114 := K103.trans k110 (Grew.ok (S := fun _ => False) gr7 noB_le)
  refine wl_nil fun F115 hF116 => ?_
  obtain ⟨s117, s118, s119⟩ := t3 hF116 39 s104 3 s105 6 s106
  clear hF116
  refine then_normal (wq_seq (wq_seq (wq_region (wl_v (blkV (moreB b (backB (upB (c.b) q)))) rfl rfl (y_load_blk blkT_block rfl s118 B109 rr) (wl_v (iv 0) rfl rfl (y_mov rfl rfl rr) (wl_nil fun F120 hF121 => ?_))))))
  obtain ⟨s122, s123, s124⟩ := t3 hF121 39 s117 3 s118 6 s119
  have s125 : F120 27 = blkV (moreB b (backB (upB (c.b) q))) := (hF121 27).trans rfl
  have s126 : F120 28 = iv 0 := (hF121 28).trans rfl
  clear hF121
  refine then_normal (wq_block (wq_loop (fun nn FF ww => ∃ (i : Nat), (i ≤ 16) ∧ nn = 16 - i ∧ FF 3 = pt p1 0 ∧ FF 6 = pt p18 0 ∧ FF 27 = blkV (moreB b (backB (upB (c.b) q))) ∧ FF 39 = undef ∧ FF 28 = iv ((i : Nat) : Int) ∧ Kept (fun _ => False) w0 ww ∧ Blk ww p1 69 (upto i (moreB b (backB (upB c.b q))) (c8M (moreB b (backB (upB c.b q))))) ∧ Stc ww p9 71 (chW c) ∧ Blk ww p18 69 (fun _ => 0) ∧ Blk ww p43 69 (upB (c.b) q)) (16 - 0) ⟨0, by omega, rfl, s123, s124, s125, s122, s126, K114, B109.first, B111, B112, B113⟩ ?_))
  rintro n130 F127 w128 ⟨i, i131, hn130, s132, s133, s134, s135, s136, K129, B137, B138, B139, B140⟩
  refine wq_seq (wq_region (wl_v (.bool (decide (((i : Nat) : Int) < 16))) rfl rfl (y_lss rfl s136 rfl rfl rr) (wl_nil fun F141 hF142 => ?_)))
  obtain ⟨s143, s144, s145, s146, s147⟩ := t5 hF142 3 s132 6 s133 27 s134 39 s135 28 s136
  have s148 : F141 29 = .bool (decide (((i : Nat) : Int) < 16)) := (hF142 29).trans rfl
  clear hF142
  refine then_normal (wq_seq ?_)
  refine wq_cond s148 (fun c149 => ?_) (fun c149 => ?_)
  ·replace c149 := of_decide_eq_true c149
   refine wq_skip (then_normal (wq_seq (wq_block (wq_seq (wq_region (wl_mv rfl rfl rfl s147 (wl_v (iv ((moreB b (backB (upB (c.b) q))) i)) rfl rfl (y_look i blkT_block rfl s145 s147 (by omega) rfl rr) (wl_v (iv ((i : Nat) : Int)) rfl rfl (y_asg rfl rfl rr) (wl_v (iv ((moreB b (backB (upB (c.b) q))) i)) rfl rfl (y_asg rfl rfl rr) (wl_nil fun F150 hF151 => ?_))))))))))
   obtain ⟨s152, s153, s154, s155, s156⟩ := t5 hF151 3 s143 6 s144 27 s145 39 s146 28 s147
   have s157 : F150 10 = iv ((i : Nat) : Int) := (hF151 10).trans rfl
   have s158 : F150 11 = iv ((moreB b (backB (upB (c.b) q))) i) := (hF151 11).trans rfl
   clear hF151
   refine then_normal (wq_region (wl_mv rfl rfl rfl s157 (wl_mv rfl rfl rfl s158 (wl_v (iv (min ((moreB b (backB (upB (c.b) q))) i) 255)) rfl rfl (y_minR rfl rfl rfl rfl rr) (wl_v (iv (c8M (moreB b (backB (upB c.b q))) i)) rfl rfl (y_maxR rfl rfl rfl (by unfold c8M; omega) rr) (wl_v (.pointer (some ⟨p1, i, none⟩)) rfl rfl (y_atR i (s := 1) rfl s152 rfl (by omega) Tryz.underlying69 (by omega) (by kernel_rfl) (by omega) rr) (wl_set_blk rfl rfl rfl rfl rfl B137 (by omega) (by kernel_rfl) fun w159 B160 k161 => ?_)))))))
   have B162 := B138.all k161 (ap15 p9 rfl)
   have B163 := B139.all k161 (ap25 p18 rfl)
   have B164 := B140.all k161 (ap50 p43 rfl)
   have K165 := K129.trans k161 (Grew.ok (S := fun _ => False) gr7 noB_le)
   refine wl_nil fun F166 hF167 => ?_
   obtain ⟨s168, s169, s170, s171, s172⟩ := t5 hF167 3 s152 6 s153 27 s154 39 s155 28 s156
   clear hF167
   refine in_normal (then_normal (wq_region (wl_v (iv ((i + 1 : Nat) : Int)) rfl rfl (y_add rfl s172 rfl (i64_n (by omega) (by omega)) rr) (wl_v (iv ((i + 1 : Nat) : Int)) rfl rfl (y_mov rfl rfl rr) (wl_nil fun F173 hF174 => ?_)))))
   obtain ⟨s175, s176, s177, s178⟩ := t4 hF174 3 s168 6 s169 27 s170 39 s171
   have s179 : F173 28 = iv ((i + 1 : Nat) : Int) := (hF174 28).trans rfl
   clear hF174
   exact then_normal ⟨(16 - (i + 1)), by omega, i + 1, by omega, rfl, s175, s176, s177, s178, s179, K165, (B160.next rfl), B162, B163, B164⟩
  ·replace c149 := of_decide_eq_false c149
   refine wq_exit (then_exit (then_exit ?_))
   have l180 : 16 = i := by omega
   subst l180
   have B181 : Blk w128 p1 69 (c8M (moreB b (backB (upB c.b q)))) := (B137.last)
   refine in_here (then_normal (wq_seq (wq_region (wl_v (blkV (c8M (moreB b (backB (upB c.b q))))) rfl rfl (y_load_blk blkT_block rfl s143 B181 rr) (wl_store_blk blkT_block rfl rfl rfl s144 rfl B139 fun w182 B183 k184 => ?_)))))
   have K188 := K129.trans k184 (Grew.ok (S := fun _ => False) gr24 noB_le)
   refine wl_v (iv 0) rfl rfl (y_asg rfl rfl rr) (wl_nil fun F189 hF190 => ?_)
   obtain ⟨s191, s192⟩ := t2 hF190 6 s144 39 s146
   have s193 : F189 7 = iv 0 := (hF190 7).trans rfl
   clear hF190
   refine then_normal (wq_ret ?_)
   exact end_2 s192 rfl (res_blk blkT_block rfl s191 B183) (res_tmp (v := iv 0) rfl s193) ⟨(by first | rw [hR, hq0] | rw [hR]), K188⟩
theorem bl_predict (k x y : Int) (c : Ch) (f : FD) (f0 f1 f2 : Value) (g : FD) (g0 g1 g2 : Value) (h : FD) (h0 h1 h2 : Value) (T_f0 : Nat → Prop) (T_f1 : Nat → Prop) (T_f2 : Nat → Prop) (T_g0 : Nat → Prop) (T_g1 : Nat → Prop) (T_g2 : Nat → Prop) (T_h0 : Nat → Prop) (T_h1 : Nat → Prop) (T_h2 : Nat → Prop) (w0 : World) (hA : ActsIn w0) (h_f0 : Byt w0 T_f0 f0 ((f).p0)) (h_f1 : Byt w0 T_f1 f1 ((f).p1)) (h_f2 : Byt w0 T_f2 f2 ((f).p2)) (h_g0 : Byt w0 T_g0 g0 ((g).p0)) (h_g1 : Byt w0 T_g1 g1 ((g).p1)) (h_g2 : Byt w0 T_g2 g2 ((g).p2)) (h_h0 : Byt w0 T_h0 h0 ((h).p0)) (h_h1 : Byt w0 T_h1 h1 ((h).p1)) (h_h2 : Byt w0 T_h2 h2 ((h).p2)) :
  Calls Tryz.prog 75 #[.agg #[.int .i64 ((f).W), .int .i64 ((f).H), f0, f1, f2], .agg #[.int .i64 ((g).W), .int .i64 ((g).H), g0, g1, g2], .agg #[.int .i64 ((h).W), .int .i64 ((h).H), h0, h1, h2], .int .i64 (k), .int .i64 (x), .int .i64 (y), .agg (chW (c)).toArray] w0 fun e w' => e = .returned (.tuple #[blkV (cpB f g h k x y c), .int .i64 (cpE f g h k x y c)]) ∧ Kept (fun _ => False) w0 w' := by
 refine calls_wq (args := [.agg #[iv (f.W), iv (f.H), f0, f1, f2], .agg #[iv (g.W), iv (g.H), g0, g1, g2], .agg #[iv (h.W), iv (h.H), h0, h1, h2], iv k, iv x, iv y, .agg (chW c).toArray]) 82 Tryz.func75 rfl rfl (Nat.le_of_ble_eq_true rfl) ?_
 have K0 := Kept.refl (fun _ => False) w0
 have g_f0 := Grew.refl w0 T_f0
 have g_f1 := Grew.refl w0 T_f1
 have g_f2 := Grew.refl w0 T_f2
 have g_g0 := Grew.refl w0 T_g0
 have g_g1 := Grew.refl w0 T_g1
 have g_g2 := Grew.refl w0 T_g2
 have g_h0 := Grew.refl w0 T_h0
 have g_h1 := Grew.refl w0 T_h1
 have g_h2 := Grew.refl w0 T_h2
 refine wq_seq (wq_region (wl_box_stc (vs := [iv (f.W), iv (f.H), f0, f1, f2]) rfl rfl rfl rfl fun p1 w2 B4 g5 k3 => ?_))
 have B16 := h_f0.all k3 Apart.none
 have B17 := h_f1.all k3 Apart.none
 have B18 := h_f2.all k3 Apart.none
 have B19 := h_g0.all k3 Apart.none
 have B20 := h_g1.all k3 Apart.none
 have B21 := h_g2.all k3 Apart.none
 have B22 := h_h0.all k3 Apart.none
 have B23 := h_h1.all k3 Apart.none
 have B24 := h_h2.all k3 Apart.none
 have K25 := K0.tr k3
 refine wl_box_stc (vs := [iv (g.W), iv (g.H), g0, g1, g2]) rfl rfl rfl rfl fun p26 w27 B29 g30 k28 => ?_
 have B42 := B16.all k28 Apart.none
 have B43 := B17.all k28 Apart.none
 have B44 := B18.all k28 Apart.none
 have B45 := B19.all k28 Apart.none
 have B46 := B20.all k28 Apart.none
 have B47 := B21.all k28 Apart.none
 have B48 := B22.all k28 Apart.none
 have B49 := B23.all k28 Apart.none
 have B50 := B24.all k28 Apart.none
 have B51 := B4.all k28 id
 have K52 := K25.tr k28
 refine wl_box_stc (vs := [iv (h.W), iv (h.H), h0, h1, h2]) rfl rfl rfl rfl fun p53 w54 B56 g57 k55 => ?_
 have B70 := B42.all k55 Apart.none
 have B71 := B43.all k55 Apart.none
 have B72 := B44.all k55 Apart.none
 have B73 := B45.all k55 Apart.none
 have B74 := B46.all k55 Apart.none
 have B75 := B47.all k55 Apart.none
 have B76 := B48.all k55 Apart.none
 have B77 := B49.all k55 Apart.none
 have B78 := B50.all k55 Apart.none
 have B79 := B51.all k55 id
 have B80 := B29.all k55 id
 have K81 := K52.tr k55
 refine wl_box_stc (vs := (chW c)) rfl rfl rfl rfl fun p82 w83 B85 g86 k84 => ?_
 have B100 := B70.all k84 Apart.none
 have B101 := B71.all k84 Apart.none
 have B102 := B72.all k84 Apart.none
 have B103 := B73.all k84 Apart.none
 have B104 := B74.all k84 Apart.none
 have B105 := B75.all k84 Apart.none
 have B106 := B76.all k84 Apart.none
 have B107 := B77.all k84 Apart.none
 have B108 := B78.all k84 Apart.none
 have B109 := B79.all k84 id
 have B110 := B80.all k84 id
 have B111 := B56.all k84 id
 have K112 := K81.tr k84
 refine wl_alloc_blk rfl rfl rfl blkT_block.2.2 fun p113 w114 e117 B115 k116 => ?_
 have g118 := onB_new (Nat.le_of_eq e117.symm)
 have gr119 : Grew w0 noB (onB p113) := Grew.new K112 g118
 clear e117 g118
 have B133 := B100.all k116 Apart.none
 have B134 := B101.all k116 Apart.none
 have B135 := B102.all k116 Apart.none
 have B136 := B103.all k116 Apart.none
 have B137 := B104.all k116 Apart.none
 have B138 := B105.all k116 Apart.none
 have B139 := B106.all k116 Apart.none
 have B140 := B107.all k116 Apart.none
 have B141 := B108.all k116 Apart.none
 have B142 := B109.all k116 id
 have B143 := B110.all k116 id
 have B144 := B111.all k116 id
 have B145 := B85.all k116 id
 have K146 := K112.tr k116
 refine wl_v (iv 0) rfl rfl (y_asg rfl rfl rr) (wl_nil fun F147 hF148 => ?_)
 have s152 : F147 3 = iv k := (hF148 3).trans rfl
 have s153 : F147 4 = iv x := (hF148 4).trans rfl
 have s154 : F147 5 = iv y := (hF148 5).trans rfl
 have s156 : F147 82 = undef := (hF148 82).trans rfl
 have s157 : F147 7 = pt p1 0 := (hF148 7).trans rfl
 have s158 : F147 8 = pt p26 0 := (hF148 8).trans rfl
 have s159 : F147 9 = pt p53 0 := (hF148 9).trans rfl
 have s160 : F147 13 = pt p82 0 := (hF148 13).trans rfl
 have s161 : F147 14 = pt p113 0 := (hF148 14).trans rfl
 clear hF148
 refine then_normal (wq_scope (wq_seq (wq_region (wl_v (pt p82 0) rfl rfl (y_fieldR (n := 1) rfl s160 Tryz.underlying71 rfl (by kernel_rfl) (by decide) rfl rr) (wl_v (iv (c.m)) rfl rfl (y_ld_stc rfl rfl Tryz.underlying3 B145 rfl rfl rr) (wl_cs rfl rfl rfl rfl rfl (fun _ _ => by kernel_rfl) (vsC rfl vsN) (bl_vectors (c.m)  _ (hA.all K146)  ) fun w163 k164 => ?_))))))
 have B165 := B133.all k164 Apart.none
 have B166 := B134.all k164 Apart.none
 have B167 := B135.all k164 Apart.none
 have B168 := B136.all k164 Apart.none
 have B169 := B137.all k164 Apart.none
 have B170 := B138.all k164 Apart.none
 have B171 := B139.all k164 Apart.none
 have B172 := B140.all k164 Apart.none
 have B173 := B141.all k164 Apart.none
 have B174 := B142.all k164 id
 have B175 := B143.all k164 id
 have B176 := B144.all k164 id
 have B177 := B145.all k164 id
 have B178 := B115.all k164 id
 have K179 := K146.tr k164
 refine wl_v (.tuple #[.bool (pastB (c.m)), .bool (nextB (c.m))]) rfl rfl (y_mov rfl rfl rr) (wl_v (.bool (pastB (c.m))) rfl rfl (y_ext rfl rfl rfl rr) (wl_v (.bool (nextB (c.m))) rfl rfl (y_ext rfl rfl rfl rr) (wl_v (.bool (pastB (c.m))) rfl rfl (y_asg rfl rfl rr) (wl_v (.bool (nextB (c.m))) rfl rfl (y_asg rfl rfl rr) (wl_nil fun F180 hF181 => ?_)))))
 obtain ⟨s185, s186, s187, s189, s190, s191, s192, s193, s194⟩ := t9 hF181 3 s152 4 s153 5 s154 82 s156 7 s157 8 s158 9 s159 13 s160 14 s161
 have s196 : F180 16 = .bool (pastB (c.m)) := (hF181 16).trans rfl
 have s197 : F180 17 = .bool (nextB (c.m)) := (hF181 17).trans rfl
 clear hF181
 refine then_normal (wq_seq (wq_region (wl_alloc_blk rfl rfl rfl blkT_block.2.2 fun p198 w199 e202 B200 k201 => ?_)))
 have g203 := onB_new (Nat.le_of_eq e202.symm)
 have gr204 : Grew w0 noB (onB p198) := Grew.new K179 g203
 have ap211 : Apart (onB p198) T_h0 := Apart.new g203 B171.live
 have ap212 : Apart (onB p198) T_h1 := Apart.new g203 B172.live
 have ap213 : Apart (onB p198) T_h2 := Apart.new g203 B173.live
 have ap216 : Apart (onB p198) (onB p53) := Apart.new g203 (onB_live B176.lt)
 have ap217 : Apart (onB p198) (onB p82) := Apart.new g203 (onB_live B177.lt)
 have ap218 : Apart (onB p198) (onB p113) := Apart.new g203 (onB_live B178.lt)
 clear e202 g203
 have B219 := B165.all k201 Apart.none
 have B220 := B166.all k201 Apart.none
 have B221 := B167.all k201 Apart.none
 have B222 := B168.all k201 Apart.none
 have B223 := B169.all k201 Apart.none
 have B224 := B170.all k201 Apart.none
 have B225 := B171.all k201 Apart.none
 have B226 := B172.all k201 Apart.none
 have B227 := B173.all k201 Apart.none
 have B228 := B174.all k201 id
 have B229 := B175.all k201 id
 have B230 := B176.all k201 id
 have B231 := B177.all k201 id
 have B232 := B178.all k201 id
 have K233 := K179.tr k201
 refine wl_alloc_blk rfl rfl rfl blkT_block.2.2 fun p234 w235 e238 B236 k237 => ?_
 have g239 := onB_new (Nat.le_of_eq e238.symm)
 have gr240 : Grew w0 noB (onB p234) := Grew.new K233 g239
 have ap254 : Apart (onB p234) (onB p113) := Apart.new g239 (onB_live B232.lt)
 have ap255 : Apart (onB p234) (onB p198) := Apart.new g239 (onB_live B200.lt)
 clear e238 g239
 have B256 := B219.all k237 Apart.none
 have B257 := B220.all k237 Apart.none
 have B258 := B221.all k237 Apart.none
 have B259 := B222.all k237 Apart.none
 have B260 := B223.all k237 Apart.none
 have B261 := B224.all k237 Apart.none
 have B262 := B225.all k237 Apart.none
 have B263 := B226.all k237 Apart.none
 have B264 := B227.all k237 Apart.none
 have B265 := B228.all k237 id
 have B266 := B229.all k237 id
 have B267 := B230.all k237 id
 have B268 := B231.all k237 id
 have B269 := B232.all k237 id
 have B270 := B200.all k237 id
 have K271 := K233.tr k237
 refine wl_nil fun F272 hF273 => ?_
 obtain ⟨s277, s278, s279, s281, s282, s283, s284, s285, s286, s288, s289⟩ := t11 hF273 3 s185 4 s186 5 s187 82 s189 7 s190 8 s191 9 s192 13 s193 14 s194 16 s196 17 s197
 have s290 : F272 18 = pt p198 0 := (hF273 18).trans rfl
 have s291 : F272 19 = pt p234 0 := (hF273 19).trans rfl
 clear hF273
 refine then_normal (wq_seq (wq_region (wl_v (iv 120) rfl rfl (y_asg rfl rfl rr) (wl_nil fun F292 hF293 => ?_))))
 obtain ⟨s297, s298, s299, s301, s302, s303, s304, s305, s306, s308, s309, s310, s311⟩ := t13 hF293 3 s277 4 s278 5 s279 82 s281 7 s282 8 s283 9 s284 13 s285 14 s286 16 s288 17 s289 18 s290 19 s291
 have s312 : F292 20 = iv 120 := (hF293 20).trans rfl
 clear hF293
 refine then_normal (wq_seq (wq_seq ?_))
 by_cases d313 : 0 ≤ (c.m) ∧ (c.m) < 7
 ·skip
  refine wq_region (wl_v (pt p82 0) rfl rfl (y_fieldR (n := 1) rfl s305 Tryz.underlying71 rfl (by kernel_rfl) (by decide) rfl rr) (wl_v (iv (c.m)) rfl rfl (y_ld_stc rfl rfl Tryz.underlying3 B268 rfl rfl rr) (wl_call (R := fun v_ w_ => v_ = .bool true ∧ Kept (fun _ => False) w235 w_) rfl rfl (y_cs rfl rfl rfl (fun _ _ => by kernel_rfl) (ev_func _) (vsC rfl vsN) (bl_known (c.m)  _   ) (fun e_ w_ h_ => ⟨_, h_.1, (congrArg Value.bool (decide_eq_true d313)), h_.2⟩)) ?_)))
  rintro _ w314 ⟨rfl, k315⟩
  have B316 := B256.all k315 Apart.none
  have B317 := B257.all k315 Apart.none
  have B318 := B258.all k315 Apart.none
  have B319 := B259.all k315 Apart.none
  have B320 := B260.all k315 Apart.none
  have B321 := B261.all k315 Apart.none
  have B322 := B262.all k315 Apart.none
  have B323 := B263.all k315 Apart.none
  have B324 := B264.all k315 Apart.none
  have B325 := B265.all k315 id
  have B326 := B266.all k315 id
  have B327 := B267.all k315 id
  have B328 := B268.all k315 id
  have B329 := B269.all k315 id
  have B330 := B270.all k315 id
  have B331 := B236.all k315 id
  have K332 := K271.tr k315
  refine wl_v (.bool false) rfl rfl (y_not rfl rfl rfl rr) (wl_nil fun F333 hF334 => ?_)
  obtain ⟨s338, s339, s340, s342, s343, s344, s345, s346, s347, s349, s350, s351, s352⟩ := t13 hF334 3 s297 4 s298 5 s299 82 s301 7 s302 8 s303 9 s304 13 s305 14 s306 16 s308 17 s309 18 s310 19 s311
  have s354 : F333 30 = .bool false := (hF334 30).trans rfl
  clear hF334
  refine then_normal ?_
  refine wq_cond (t := false) s354 (fun e => by cases e) (fun _ => ?_)
  refine wq_skip (then_normal (wq_seq (wq_seq ?_)))
  have hm7 : 0 ≤ c.m ∧ c.m < 7 := by first | assumption | (apply Decidable.byContradiction; assumption)
  refine wq_region (wl_mv rfl rfl rfl s349 (wl_nil fun F355 hF356 => ?_))
  obtain ⟨s360, s361, s362, s364, s365, s366, s367, s368, s369, s371, s372, s373, s374⟩ := t13 hF356 3 s338 4 s339 5 s340 82 s342 7 s343 8 s344 9 s345 13 s346 14 s347 16 s349 17 s350 18 s351 19 s352
  have s376 : F355 31 = .bool (pastB (c.m)) := (hF356 31).trans rfl
  clear hF356
  refine then_normal ?_
  refine wq_cond s376 (fun c377 => ?_) (fun c377 => ?_)
  ·skip
   refine wq_seq (wq_region (wl_v (.agg #[iv (g.W), iv (g.H), g0, g1, g2]) rfl rfl (y_load_stc stcT_frame rfl s366 B326 rr) (wl_mv rfl rfl rfl s360 (wl_mv rfl rfl rfl s361 (wl_mv rfl rfl rfl s362 (wl_v (pt p82 1) rfl rfl (y_fieldR (n := 2) rfl s368 Tryz.underlying71 rfl (by kernel_rfl) (by decide) rfl rr) (wl_v (.agg #[iv (c.px), iv (c.py)]) rfl rfl (y_ldPart (n := 2) stcT_vector rfl rfl B328 (Nat.le_of_ble_eq_true rfl) rfl rr) (wl_cs rfl rfl rfl rfl rfl (fun _ _ => by kernel_rfl) (vsC rfl (vsC rfl (vsC rfl (vsC rfl (vsC rfl vsN))))) (mo_predict k x y (c.px) (c.py) g g0 g1 g2 T_g0 T_g1 T_g2 _  B319 B320 B321 ) fun w378 k379 => ?_))))))))
   have B386 := B322.all k379 Apart.none
   have B387 := B323.all k379 Apart.none
   have B388 := B324.all k379 Apart.none
   have B391 := B327.all k379 id
   have B392 := B328.all k379 id
   have B393 := B329.all k379 id
   have B394 := B330.all k379 id
   have B395 := B331.all k379 id
   have K396 := K332.tr k379
   refine wl_v (.tuple #[blkV (mvB g k x y (c.px) (c.py)), iv (mvE g k x y (c.px) (c.py))]) rfl rfl (y_mov rfl rfl rr) (wl_v (blkV (mvB g k x y (c.px) (c.py))) rfl rfl (y_ext rfl rfl rfl rr) (wl_v (iv (mvE g k x y (c.px) (c.py))) rfl rfl (y_ext rfl rfl rfl rr) (wl_store_blk blkT_block rfl rfl rfl s373 rfl B394 fun w397 B398 k399 => ?_)))
   have B406 := B386.all k399 ap211.symm
   have B407 := B387.all k399 ap212.symm
   have B408 := B388.all k399 ap213.symm
   have B411 := B391.all k399 (ap216.symm p53 rfl)
   have B412 := B392.all k399 (ap217.symm p82 rfl)
   have B413 := B393.all k399 (ap218.symm p113 rfl)
   have B414 := B395.all k399 (ap255 p234 rfl)
   have K415 := K396.trans k399 (Grew.ok (S := fun _ => False) gr204 noB_le)
   refine wl_v (iv (mvE g k x y (c.px) (c.py))) rfl rfl (y_asg rfl rfl rr) (wl_nil fun F416 hF417 => ?_)
   obtain ⟨s421, s422, s423, s425, s428, s429, s430, s432, s433, s434, s435⟩ := t11 hF417 3 s360 4 s361 5 s362 82 s364 9 s367 13 s368 14 s369 16 s371 17 s372 18 s373 19 s374
   have s438 : F416 20 = iv (mvE g k x y (c.px) (c.py)) := (hF417 20).trans rfl
   clear hF417
   refine then_normal (wq_seq (wq_region (wl_mv rfl rfl rfl s438 (wl_v (.bool (decide ((mvE g k x y (c.px) (c.py)) ≠ 0))) rfl rfl (y_neqI rfl rfl rfl rfl rr) (wl_nil fun F439 hF440 => ?_)))))
   obtain ⟨s444, s445, s446, s448, s451, s452, s453, s455, s456, s457, s458, s461⟩ := t12 hF440 3 s421 4 s422 5 s423 82 s425 9 s428 13 s429 14 s430 16 s432 17 s433 18 s434 19 s435 20 s438
   have s462 : F439 43 = .bool (decide ((mvE g k x y (c.px) (c.py)) ≠ 0)) := (hF440 43).trans rfl
   clear hF440
   refine then_normal ?_
   refine wq_cond s462 (fun c463 => ?_) (fun c463 => ?_)
   ·replace c463 := of_decide_eq_true c463
    refine wq_goto (then_goto ?_)
    refine jump_goto ⟨_, rfl, ?_⟩
    refine wq_seq (wq_skip (then_normal (wq_seq ?_)))
    first | have hR := cp_bad (f := f) (p := g) (n := h) (k := k) (x := x) (y := y) (c := c) (by omega) | have hR := cp_pastE (f := f) (p := g) (n := h) (k := k) (x := x) (y := y) (c := c) (past_t (by assumption)) (by assumption) | have hR := cp_nextE (f := f) (p := g) (n := h) (k := k) (x := x) (y := y) (c := c) (by have a1 := past_f (m := c.m) (by assumption); have a2 := next_t (m := c.m) (by assumption); omega) (by assumption) | have hR := cp_both2 (f := f) (p := g) (n := h) (k := k) (x := x) (y := y) (c := c) (by have a1 := past_t (m := c.m) (by assumption); have a2 := next_t (m := c.m) (by assumption); omega) (by first | assumption | (apply Decidable.byContradiction; assumption)) (by assumption)
    refine wq_region (wl_v (blkV (fun _ => 0)) rfl rfl (y_buildR (cells := (arrL 16 (fun _ => 0)).toArray) rfl (by kernel_rfl) rfl rr) (wl_mv rfl rfl rfl s461 (wl_store_blk blkT_block rfl rfl rfl s453 rfl B413 fun w464 B465 k466 => ?_)))
    have K482 := K415.trans k466 (Grew.ok (S := fun _ => False) gr119 noB_le)
    refine wl_v (iv (mvE g k x y (c.px) (c.py))) rfl rfl (y_asg rfl rfl rr) (wl_nil fun F483 hF484 => ?_)
    obtain ⟨s485, s486⟩ := t2 hF484 82 s448 14 s453
    have s487 : F483 15 = iv (mvE g k x y (c.px) (c.py)) := (hF484 15).trans rfl
    clear hF484
    refine then_normal (wq_ret (stay_ret ?_))
    exact end_2 s485 rfl (res_blk blkT_block rfl s486 B465) (res_tmp (v := iv (mvE g k x y (c.px) (c.py))) rfl s487) ⟨(by first | rw [hR.1, hR.2, he0] | rw [hR.1, hR.2]), K482⟩
   ·replace c463 := of_decide_eq_false c463
    refine wq_skip (then_normal (wq_seq (wq_seq (wq_region (wl_mv rfl rfl rfl s456 (wl_nil fun F488 hF489 => ?_))))))
    obtain ⟨s493, s494, s495, s497, s500, s501, s502, s504, s505, s506, s507⟩ := t11 hF489 3 s444 4 s445 5 s446 82 s448 9 s451 13 s452 14 s453 16 s455 17 s456 18 s457 19 s458
    have s511 : F488 44 = .bool (nextB (c.m)) := (hF489 44).trans rfl
    clear hF489
    refine then_normal ?_
    refine wq_cond s511 (fun c512 => ?_) (fun c512 => ?_)
    ·skip
     refine wq_seq (wq_region (wl_v (.agg #[iv (h.W), iv (h.H), h0, h1, h2]) rfl rfl (y_load_stc stcT_frame rfl s500 B411 rr) (wl_mv rfl rfl rfl s493 (wl_mv rfl rfl rfl s494 (wl_mv rfl rfl rfl s495 (wl_v (pt p82 3) rfl rfl (y_fieldR (n := 2) rfl s501 Tryz.underlying71 rfl (by kernel_rfl) (by decide) rfl rr) (wl_v (.agg #[iv (c.nx), iv (c.ny)]) rfl rfl (y_ldPart (n := 2) stcT_vector rfl rfl B412 (Nat.le_of_ble_eq_true rfl) rfl rr) (wl_cs rfl rfl rfl rfl rfl (fun _ _ => by kernel_rfl) (vsC rfl (vsC rfl (vsC rfl (vsC rfl (vsC rfl vsN))))) (mo_predict k x y (c.nx) (c.ny) h h0 h1 h2 T_h0 T_h1 T_h2 _  B406 B407 B408 ) fun w513 k514 => ?_))))))))
     have B528 := B413.all k514 id
     have B529 := B398.all k514 id
     have B530 := B414.all k514 id
     have K531 := K415.tr k514
     refine wl_v (.tuple #[blkV (mvB h k x y (c.nx) (c.ny)), iv (mvE h k x y (c.nx) (c.ny))]) rfl rfl (y_mov rfl rfl rr) (wl_v (blkV (mvB h k x y (c.nx) (c.ny))) rfl rfl (y_ext rfl rfl rfl rr) (wl_v (iv (mvE h k x y (c.nx) (c.ny))) rfl rfl (y_ext rfl rfl rfl rr) (wl_store_blk blkT_block rfl rfl rfl s507 rfl B530 fun w532 B533 k534 => ?_)))
     have B548 := B528.all k534 (ap254.symm p113 rfl)
     have B549 := B529.all k534 (ap255.symm p198 rfl)
     have K550 := K531.trans k534 (Grew.ok (S := fun _ => False) gr240 noB_le)
     refine wl_v (iv (mvE h k x y (c.nx) (c.ny))) rfl rfl (y_asg rfl rfl rr) (wl_nil fun F551 hF552 => ?_)
     obtain ⟨s560, s565, s567, s568, s569, s570⟩ := t6 hF552 82 s497 14 s502 16 s504 17 s505 18 s506 19 s507
     have s575 : F551 20 = iv (mvE h k x y (c.nx) (c.ny)) := (hF552 20).trans rfl
     clear hF552
     refine then_normal (wq_seq (wq_region (wl_mv rfl rfl rfl s575 (wl_v (.bool (decide ((mvE h k x y (c.nx) (c.ny)) ≠ 0))) rfl rfl (y_neqI rfl rfl rfl rfl rr) (wl_nil fun F576 hF577 => ?_)))))
     obtain ⟨s585, s590, s592, s593, s594, s595, s600⟩ := t7 hF577 82 s560 14 s565 16 s567 17 s568 18 s569 19 s570 20 s575
     have s601 : F576 56 = .bool (decide ((mvE h k x y (c.nx) (c.ny)) ≠ 0)) := (hF577 56).trans rfl
     clear hF577
     refine then_normal ?_
     refine wq_cond s601 (fun c602 => ?_) (fun c602 => ?_)
     ·replace c602 := of_decide_eq_true c602
      refine wq_goto (then_goto ?_)
      refine jump_goto ⟨_, rfl, ?_⟩
      refine wq_seq (wq_skip (then_normal (wq_seq ?_)))
      first | have hR := cp_bad (f := f) (p := g) (n := h) (k := k) (x := x) (y := y) (c := c) (by omega) | have hR := cp_pastE (f := f) (p := g) (n := h) (k := k) (x := x) (y := y) (c := c) (past_t (by assumption)) (by assumption) | have hR := cp_nextE (f := f) (p := g) (n := h) (k := k) (x := x) (y := y) (c := c) (by have a1 := past_f (m := c.m) (by assumption); have a2 := next_t (m := c.m) (by assumption); omega) (by assumption) | have hR := cp_both2 (f := f) (p := g) (n := h) (k := k) (x := x) (y := y) (c := c) (by have a1 := past_t (m := c.m) (by assumption); have a2 := next_t (m := c.m) (by assumption); omega) (by first | assumption | (apply Decidable.byContradiction; assumption)) (by assumption)
      refine wq_region (wl_v (blkV (fun _ => 0)) rfl rfl (y_buildR (cells := (arrL 16 (fun _ => 0)).toArray) rfl (by kernel_rfl) rfl rr) (wl_mv rfl rfl rfl s600 (wl_store_blk blkT_block rfl rfl rfl s590 rfl B548 fun w603 B604 k605 => ?_)))
      have K621 := K550.trans k605 (Grew.ok (S := fun _ => False) gr119 noB_le)
      refine wl_v (iv (mvE h k x y (c.nx) (c.ny))) rfl rfl (y_asg rfl rfl rr) (wl_nil fun F622 hF623 => ?_)
      obtain ⟨s624, s625⟩ := t2 hF623 82 s585 14 s590
      have s626 : F622 15 = iv (mvE h k x y (c.nx) (c.ny)) := (hF623 15).trans rfl
      clear hF623
      refine then_normal (wq_ret (stay_ret ?_))
      exact end_2 s624 rfl (res_blk blkT_block rfl s625 B604) (res_tmp (v := iv (mvE h k x y (c.nx) (c.ny))) rfl s626) ⟨(by first | rw [hR.1, hR.2, he0] | rw [hR.1, hR.2]), K621⟩
     ·replace c602 := of_decide_eq_false c602
      refine wq_skip (then_normal (wq_seq (wq_block (wq_seq (wq_region (wl_v (.bool true) rfl rfl (y_mov rfl (Eq.trans s592 (congrArg Value.bool c377)) rr) (wl_v (.bool true) rfl rfl (y_mov rfl rfl rr) (wl_vw (.bool true) 1 true 59 rfl rfl rfl rfl rfl (y_mov rfl (Eq.trans s593 (congrArg Value.bool c512)) rr) (wl_v (.bool true) rfl rfl (y_pickT rfl rfl rfl rr) (wl_v (.bool true) rfl rfl (y_asg rfl rfl rr) (wl_nil fun F627 hF628 => ?_)))))))))))
      obtain ⟨s632, s635, s638, s639⟩ := t4 hF628 82 s585 14 s590 18 s594 19 s595
      have s640 : F627 57 = .bool true := (hF628 57).trans rfl
      clear hF628
      refine then_normal ?_
      refine wq_cond (t := true) s640 (fun _ => ?_) (fun e => by cases e)
      refine wq_seq ?_
      have hR := cp_both (f := f) (p := g) (n := h) (k := k) (x := x) (y := y) (c := c) (by have a1 := past_t (m := c.m) (by assumption); have a2 := next_t (m := c.m) (by assumption); omega) (by first | assumption | (apply Decidable.byContradiction; assumption)) (by first | assumption | (apply Decidable.byContradiction; assumption))
      refine wq_region (wl_v (blkV (mvB g k x y (c.px) (c.py))) rfl rfl (y_load_blk blkT_block rfl s638 B549 rr) (wl_v (blkV (mvB h k x y (c.nx) (c.ny))) rfl rfl (y_load_blk blkT_block rfl s639 B533 rr) (wl_cs rfl rfl rfl rfl rfl (fun _ _ => by kernel_rfl) (vsC rfl (vsC rfl vsN)) (mo_both (mvB g k x y (c.px) (c.py)) (mvB h k x y (c.nx) (c.ny))  _   ) fun w641 k642 => ?_)))
      have B656 := B548.all k642 id
      have K659 := K550.tr k642
      refine wl_store_blk blkT_block rfl rfl rfl s635 rfl B656 fun w660 B661 k662 => ?_
      have K678 := K659.trans k662 (Grew.ok (S := fun _ => False) gr119 noB_le)
      refine wl_v (iv 0) rfl rfl (y_asg rfl rfl rr) (wl_nil fun F679 hF680 => ?_)
      obtain ⟨s681, s682⟩ := t2 hF680 82 s632 14 s635
      have s683 : F679 15 = iv 0 := (hF680 15).trans rfl
      clear hF680
      refine then_normal (wq_ret (in_ret (then_ret (jump_ret ?_))))
      exact end_2 s681 rfl (res_blk blkT_block rfl s682 B661) (res_tmp (v := iv 0) rfl s683) ⟨(by first | rw [hR.1, hR.2, he0] | rw [hR.1, hR.2]), K678⟩
    ·skip
     refine wq_skip (then_normal (wq_seq (wq_block (wq_seq (wq_region (wl_v (.bool true) rfl rfl (y_mov rfl (Eq.trans s504 (congrArg Value.bool c377)) rr) (wl_v (.bool true) rfl rfl (y_mov rfl rfl rr) (wl_vw (.bool false) 1 true 59 rfl rfl rfl rfl rfl (y_mov rfl (Eq.trans s505 (congrArg Value.bool c512)) rr) (wl_v (.bool false) rfl rfl (y_pickT rfl rfl rfl rr) (wl_v (.bool false) rfl rfl (y_asg rfl rfl rr) (wl_nil fun F684 hF685 => ?_)))))))))))
     obtain ⟨s689, s692, s693, s695⟩ := t4 hF685 82 s497 14 s502 16 s504 18 s506
     have s697 : F684 57 = .bool false := (hF685 57).trans rfl
     clear hF685
     refine then_normal ?_
     refine wq_cond (t := false) s697 (fun e => by cases e) (fun _ => ?_)
     refine wq_seq (wq_region (wl_v (.bool true) rfl rfl (y_mov rfl (Eq.trans s693 (congrArg Value.bool c377)) rr) (wl_v (.bool true) rfl rfl (y_asg rfl rfl rr) (wl_nil fun F698 hF699 => ?_))))
     obtain ⟨s703, s706, s708⟩ := t3 hF699 82 s689 14 s692 18 s695
     have s710 : F698 65 = .bool true := (hF699 65).trans rfl
     clear hF699
     refine then_normal ?_
     refine wq_cond (t := true) s710 (fun _ => ?_) (fun e => by cases e)
     refine wq_seq ?_
     have hR := cp_past (f := f) (p := g) (n := h) (k := k) (x := x) (y := y) (c := c) (by have a1 := past_t (m := c.m) (by assumption); have a2 := next_f (m := c.m) (by assumption); omega)
     have he0 := show mvE g k x y c.px c.py = 0 from (by first | assumption | (apply Decidable.byContradiction; assumption))
     refine wq_region (wl_v (blkV (mvB g k x y (c.px) (c.py))) rfl rfl (y_load_blk blkT_block rfl s708 B398 rr) (wl_store_blk blkT_block rfl rfl rfl s706 rfl B413 fun w711 B712 k713 => ?_))
     have K729 := K415.trans k713 (Grew.ok (S := fun _ => False) gr119 noB_le)
     refine wl_v (iv 0) rfl rfl (y_asg rfl rfl rr) (wl_nil fun F730 hF731 => ?_)
     obtain ⟨s732, s733⟩ := t2 hF731 82 s703 14 s706
     have s734 : F730 15 = iv 0 := (hF731 15).trans rfl
     clear hF731
     refine then_normal (wq_ret (in_ret (then_ret (jump_ret ?_))))
     exact end_2 s732 rfl (res_blk blkT_block rfl s733 B712) (res_tmp (v := iv 0) rfl s734) ⟨(by first | rw [hR.1, hR.2, he0] | rw [hR.1, hR.2]), K729⟩
  ·skip
   refine wq_skip (then_normal (wq_seq (wq_seq (wq_region (wl_mv rfl rfl rfl s372 (wl_nil fun F735 hF736 => ?_))))))
   obtain ⟨s740, s741, s742, s744, s745, s747, s748, s749, s751, s752, s754⟩ := t11 hF736 3 s360 4 s361 5 s362 82 s364 7 s365 9 s367 13 s368 14 s369 16 s371 17 s372 19 s374
   have s757 : F735 44 = .bool (nextB (c.m)) := (hF736 44).trans rfl
   clear hF736
   refine then_normal ?_
   refine wq_cond s757 (fun c758 => ?_) (fun c758 => ?_)
   ·skip
    refine wq_seq (wq_region (wl_v (.agg #[iv (h.W), iv (h.H), h0, h1, h2]) rfl rfl (y_load_stc stcT_frame rfl s747 B327 rr) (wl_mv rfl rfl rfl s740 (wl_mv rfl rfl rfl s741 (wl_mv rfl rfl rfl s742 (wl_v (pt p82 3) rfl rfl (y_fieldR (n := 2) rfl s748 Tryz.underlying71 rfl (by kernel_rfl) (by decide) rfl rr) (wl_v (.agg #[iv (c.nx), iv (c.ny)]) rfl rfl (y_ldPart (n := 2) stcT_vector rfl rfl B328 (Nat.le_of_ble_eq_true rfl) rfl rr) (wl_cs rfl rfl rfl rfl rfl (fun _ _ => by kernel_rfl) (vsC rfl (vsC rfl (vsC rfl (vsC rfl (vsC rfl vsN))))) (mo_predict k x y (c.nx) (c.ny) h h0 h1 h2 T_h0 T_h1 T_h2 _  B322 B323 B324 ) fun w759 k760 => ?_))))))))
    have B774 := B329.all k760 id
    have B776 := B331.all k760 id
    have K777 := K332.tr k760
    refine wl_v (.tuple #[blkV (mvB h k x y (c.nx) (c.ny)), iv (mvE h k x y (c.nx) (c.ny))]) rfl rfl (y_mov rfl rfl rr) (wl_v (blkV (mvB h k x y (c.nx) (c.ny))) rfl rfl (y_ext rfl rfl rfl rr) (wl_v (iv (mvE h k x y (c.nx) (c.ny))) rfl rfl (y_ext rfl rfl rfl rr) (wl_store_blk blkT_block rfl rfl rfl s754 rfl B776 fun w778 B779 k780 => ?_)))
    have B794 := B774.all k780 (ap254.symm p113 rfl)
    have K796 := K777.trans k780 (Grew.ok (S := fun _ => False) gr240 noB_le)
    refine wl_v (iv (mvE h k x y (c.nx) (c.ny))) rfl rfl (y_asg rfl rfl rr) (wl_nil fun F797 hF798 => ?_)
    obtain ⟨s806, s811, s813, s814, s816⟩ := t5 hF798 82 s744 14 s749 16 s751 17 s752 19 s754
    have s820 : F797 20 = iv (mvE h k x y (c.nx) (c.ny)) := (hF798 20).trans rfl
    clear hF798
    refine then_normal (wq_seq (wq_region (wl_mv rfl rfl rfl s820 (wl_v (.bool (decide ((mvE h k x y (c.nx) (c.ny)) ≠ 0))) rfl rfl (y_neqI rfl rfl rfl rfl rr) (wl_nil fun F821 hF822 => ?_)))))
    obtain ⟨s830, s835, s837, s838, s840, s844⟩ := t6 hF822 82 s806 14 s811 16 s813 17 s814 19 s816 20 s820
    have s845 : F821 56 = .bool (decide ((mvE h k x y (c.nx) (c.ny)) ≠ 0)) := (hF822 56).trans rfl
    clear hF822
    refine then_normal ?_
    refine wq_cond s845 (fun c846 => ?_) (fun c846 => ?_)
    ·replace c846 := of_decide_eq_true c846
     refine wq_goto (then_goto ?_)
     refine jump_goto ⟨_, rfl, ?_⟩
     refine wq_seq (wq_skip (then_normal (wq_seq ?_)))
     first | have hR := cp_bad (f := f) (p := g) (n := h) (k := k) (x := x) (y := y) (c := c) (by omega) | have hR := cp_pastE (f := f) (p := g) (n := h) (k := k) (x := x) (y := y) (c := c) (past_t (by assumption)) (by assumption) | have hR := cp_nextE (f := f) (p := g) (n := h) (k := k) (x := x) (y := y) (c := c) (by have a1 := past_f (m := c.m) (by assumption); have a2 := next_t (m := c.m) (by assumption); omega) (by assumption) | have hR := cp_both2 (f := f) (p := g) (n := h) (k := k) (x := x) (y := y) (c := c) (by have a1 := past_t (m := c.m) (by assumption); have a2 := next_t (m := c.m) (by assumption); omega) (by first | assumption | (apply Decidable.byContradiction; assumption)) (by assumption)
     refine wq_region (wl_v (blkV (fun _ => 0)) rfl rfl (y_buildR (cells := (arrL 16 (fun _ => 0)).toArray) rfl (by kernel_rfl) rfl rr) (wl_mv rfl rfl rfl s844 (wl_store_blk blkT_block rfl rfl rfl s835 rfl B794 fun w847 B848 k849 => ?_)))
     have K865 := K796.trans k849 (Grew.ok (S := fun _ => False) gr119 noB_le)
     refine wl_v (iv (mvE h k x y (c.nx) (c.ny))) rfl rfl (y_asg rfl rfl rr) (wl_nil fun F866 hF867 => ?_)
     obtain ⟨s868, s869⟩ := t2 hF867 82 s830 14 s835
     have s870 : F866 15 = iv (mvE h k x y (c.nx) (c.ny)) := (hF867 15).trans rfl
     clear hF867
     refine then_normal (wq_ret (stay_ret ?_))
     exact end_2 s868 rfl (res_blk blkT_block rfl s869 B848) (res_tmp (v := iv (mvE h k x y (c.nx) (c.ny))) rfl s870) ⟨(by first | rw [hR.1, hR.2, he0] | rw [hR.1, hR.2]), K865⟩
    ·replace c846 := of_decide_eq_false c846
     refine wq_skip (then_normal (wq_seq (wq_block (wq_seq (wq_region (wl_v (.bool false) rfl rfl (y_mov rfl (Eq.trans s837 (congrArg Value.bool c377)) rr) (wl_v (.bool false) rfl rfl (y_mov rfl rfl rr) (wl_unless 1 true 59 rfl rfl rfl (Or.inl rfl) rfl (wl_v (.bool false) rfl rfl (y_pickF rfl rfl rfl rr) (wl_v (.bool false) rfl rfl (y_asg rfl rfl rr) (wl_nil fun F871 hF872 => ?_)))))))))))
     obtain ⟨s876, s879, s880, s881, s883⟩ := t5 hF872 82 s830 14 s835 16 s837 17 s838 19 s840
     have s884 : F871 57 = .bool false := (hF872 57).trans rfl
     clear hF872
     refine then_normal ?_
     refine wq_cond (t := false) s884 (fun e => by cases e) (fun _ => ?_)
     refine wq_seq (wq_region (wl_v (.bool false) rfl rfl (y_mov rfl (Eq.trans s880 (congrArg Value.bool c377)) rr) (wl_v (.bool false) rfl rfl (y_asg rfl rfl rr) (wl_nil fun F885 hF886 => ?_))))
     obtain ⟨s890, s893, s894, s896⟩ := t4 hF886 82 s876 14 s879 17 s881 19 s883
     have s897 : F885 65 = .bool false := (hF886 65).trans rfl
     clear hF886
     refine then_normal ?_
     refine wq_cond (t := false) s897 (fun e => by cases e) (fun _ => ?_)
     refine wq_seq (wq_region (wl_v (.bool true) rfl rfl (y_mov rfl (Eq.trans s894 (congrArg Value.bool c758)) rr) (wl_v (.bool true) rfl rfl (y_asg rfl rfl rr) (wl_nil fun F898 hF899 => ?_))))
     obtain ⟨s903, s906, s907⟩ := t3 hF899 82 s890 14 s893 19 s896
     have s908 : F898 68 = .bool true := (hF899 68).trans rfl
     clear hF899
     refine then_normal ?_
     refine wq_cond (t := true) s908 (fun _ => ?_) (fun e => by cases e)
     refine wq_seq ?_
     have hR := cp_next (f := f) (p := g) (n := h) (k := k) (x := x) (y := y) (c := c) (by have a1 := past_f (m := c.m) (by assumption); have a2 := next_t (m := c.m) (by assumption); omega)
     have he0 := show mvE h k x y c.nx c.ny = 0 from (by first | assumption | (apply Decidable.byContradiction; assumption))
     refine wq_region (wl_v (blkV (mvB h k x y (c.nx) (c.ny))) rfl rfl (y_load_blk blkT_block rfl s907 B779 rr) (wl_store_blk blkT_block rfl rfl rfl s906 rfl B794 fun w909 B910 k911 => ?_))
     have K927 := K796.trans k911 (Grew.ok (S := fun _ => False) gr119 noB_le)
     refine wl_v (iv 0) rfl rfl (y_asg rfl rfl rr) (wl_nil fun F928 hF929 => ?_)
     obtain ⟨s930, s931⟩ := t2 hF929 82 s903 14 s906
     have s932 : F928 15 = iv 0 := (hF929 15).trans rfl
     clear hF929
     refine then_normal (wq_ret (in_ret (then_ret (jump_ret ?_))))
     exact end_2 s930 rfl (res_blk blkT_block rfl s931 B910) (res_tmp (v := iv 0) rfl s932) ⟨(by first | rw [hR.1, hR.2, he0] | rw [hR.1, hR.2]), K927⟩
   ·skip
    refine wq_skip (then_normal (wq_seq (wq_block (wq_seq (wq_region (wl_v (.bool false) rfl rfl (y_mov rfl (Eq.trans s751 (congrArg Value.bool c377)) rr) (wl_v (.bool false) rfl rfl (y_mov rfl rfl rr) (wl_unless 1 true 59 rfl rfl rfl (Or.inl rfl) rfl (wl_v (.bool false) rfl rfl (y_pickF rfl rfl rfl rr) (wl_v (.bool false) rfl rfl (y_asg rfl rfl rr) (wl_nil fun F933 hF934 => ?_)))))))))))
    obtain ⟨s935, s936, s937, s938, s939, s940, s941, s942, s943⟩ := t9 hF934 3 s740 4 s741 5 s742 82 s744 7 s745 13 s748 14 s749 16 s751 17 s752
    have s946 : F933 57 = .bool false := (hF934 57).trans rfl
    clear hF934
    refine then_normal ?_
    refine wq_cond (t := false) s946 (fun e => by cases e) (fun _ => ?_)
    refine wq_seq (wq_region (wl_v (.bool false) rfl rfl (y_mov rfl (Eq.trans s942 (congrArg Value.bool c377)) rr) (wl_v (.bool false) rfl rfl (y_asg rfl rfl rr) (wl_nil fun F947 hF948 => ?_))))
    obtain ⟨s949, s950, s951, s952, s953, s954, s955, s956⟩ := t8 hF948 3 s935 4 s936 5 s937 82 s938 7 s939 13 s940 14 s941 17 s943
    have s959 : F947 65 = .bool false := (hF948 65).trans rfl
    clear hF948
    refine then_normal ?_
    refine wq_cond (t := false) s959 (fun e => by cases e) (fun _ => ?_)
    refine wq_seq (wq_region (wl_v (.bool false) rfl rfl (y_mov rfl (Eq.trans s956 (congrArg Value.bool c758)) rr) (wl_v (.bool false) rfl rfl (y_asg rfl rfl rr) (wl_nil fun F960 hF961 => ?_))))
    obtain ⟨s962, s963, s964, s965, s966, s967, s968⟩ := t7 hF961 3 s949 4 s950 5 s951 82 s952 7 s953 13 s954 14 s955
    have s970 : F960 68 = .bool false := (hF961 68).trans rfl
    clear hF961
    refine then_normal ?_
    refine wq_cond (t := false) s970 (fun e => by cases e) (fun _ => ?_)
    refine wq_skip (in_normal (then_normal (wq_seq (wq_seq ?_))))
    have hR := cp_own (f := f) (p := g) (n := h) (k := k) (x := x) (y := y) (c := c) (by have a1 := past_f (m := c.m) (by assumption); have a2 := next_f (m := c.m) (by assumption); omega)
    refine wq_region (wl_v (.agg #[iv (f.W), iv (f.H), f0, f1, f2]) rfl rfl (y_load_stc stcT_frame rfl s966 B325 rr) (wl_mv rfl rfl rfl s962 (wl_mv rfl rfl rfl s963 (wl_mv rfl rfl rfl s964 (wl_v (pt p82 0) rfl rfl (y_fieldR (n := 1) rfl s967 Tryz.underlying71 rfl (by kernel_rfl) (by decide) rfl rr) (wl_v (iv (c.m)) rfl rfl (y_ld_stc rfl rfl Tryz.underlying3 B328 rfl rfl rr) (wl_cs rfl rfl rfl rfl rfl (fun _ _ => by kernel_rfl) (vsC rfl (vsC rfl (vsC rfl (vsC rfl (vsC rfl vsN))))) (il_predict k x y (c.m) f f0 f1 f2 T_f0 T_f1 T_f2 _  B316 B317 B318 ) fun w971 k972 => ?_)))))))
    have B986 := B329.all k972 id
    have K989 := K332.tr k972
    refine wl_v (blkV (predB f k x y (c.m))) rfl rfl (y_ext rfl rfl rfl rr) (wl_v (iv (predE f k x y (c.m))) rfl rfl (y_ext rfl rfl rfl rr) (wl_store_blk blkT_block rfl rfl rfl s968 rfl B986 fun w990 B991 k992 => ?_))
    have K1008 := K989.trans k992 (Grew.ok (S := fun _ => False) gr119 noB_le)
    refine wl_v (iv (predE f k x y (c.m))) rfl rfl (y_asg rfl rfl rr) (wl_nil fun F1009 hF1010 => ?_)
    obtain ⟨s1011, s1012⟩ := t2 hF1010 82 s965 14 s968
    have s1013 : F1009 15 = iv (predE f k x y (c.m)) := (hF1010 15).trans rfl
    clear hF1010
    refine then_normal (wq_ret (then_ret (jump_ret ?_)))
    exact end_2 s1011 rfl (res_blk blkT_block rfl s1012 B991) (res_tmp (v := iv (predE f k x y (c.m))) rfl s1013) ⟨(by first | rw [hR.1, hR.2, he0] | rw [hR.1, hR.2]), K1008⟩
 ·skip
  refine wq_region (wl_v (pt p82 0) rfl rfl (y_fieldR (n := 1) rfl s305 Tryz.underlying71 rfl (by kernel_rfl) (by decide) rfl rr) (wl_v (iv (c.m)) rfl rfl (y_ld_stc rfl rfl Tryz.underlying3 B268 rfl rfl rr) (wl_call (R := fun v_ w_ => v_ = .bool false ∧ Kept (fun _ => False) w235 w_) rfl rfl (y_cs rfl rfl rfl (fun _ _ => by kernel_rfl) (ev_func _) (vsC rfl vsN) (bl_known (c.m)  _   ) (fun e_ w_ h_ => ⟨_, h_.1, (congrArg Value.bool (decide_eq_false d313)), h_.2⟩)) ?_)))
  rintro _ w1014 ⟨rfl, k1015⟩
  have B1029 := B269.all k1015 id
  have K1032 := K271.tr k1015
  refine wl_v (.bool true) rfl rfl (y_not rfl rfl rfl rr) (wl_nil fun F1033 hF1034 => ?_)
  obtain ⟨s1042, s1047, s1053⟩ := t3 hF1034 82 s301 14 s306 20 s312
  have s1054 : F1033 30 = .bool true := (hF1034 30).trans rfl
  clear hF1034
  refine then_normal ?_
  refine wq_cond (t := true) s1054 (fun _ => ?_) (fun e => by cases e)
  refine wq_goto (then_goto ?_)
  refine jump_goto ⟨_, rfl, ?_⟩
  refine wq_seq (wq_skip (then_normal (wq_seq ?_)))
  first | have hR := cp_bad (f := f) (p := g) (n := h) (k := k) (x := x) (y := y) (c := c) (by omega) | have hR := cp_pastE (f := f) (p := g) (n := h) (k := k) (x := x) (y := y) (c := c) (past_t (by assumption)) (by assumption) | have hR := cp_nextE (f := f) (p := g) (n := h) (k := k) (x := x) (y := y) (c := c) (by have a1 := past_f (m := c.m) (by assumption); have a2 := next_t (m := c.m) (by assumption); omega) (by assumption) | have hR := cp_both2 (f := f) (p := g) (n := h) (k := k) (x := x) (y := y) (c := c) (by have a1 := past_t (m := c.m) (by assumption); have a2 := next_t (m := c.m) (by assumption); omega) (by first | assumption | (apply Decidable.byContradiction; assumption)) (by assumption)
  refine wq_region (wl_v (blkV (fun _ => 0)) rfl rfl (y_buildR (cells := (arrL 16 (fun _ => 0)).toArray) rfl (by kernel_rfl) rfl rr) (wl_mv rfl rfl rfl s1053 (wl_store_blk blkT_block rfl rfl rfl s1047 rfl B1029 fun w1055 B1056 k1057 => ?_)))
  have K1073 := K1032.trans k1057 (Grew.ok (S := fun _ => False) gr119 noB_le)
  refine wl_v (iv 120) rfl rfl (y_asg rfl rfl rr) (wl_nil fun F1074 hF1075 => ?_)
  obtain ⟨s1076, s1077⟩ := t2 hF1075 82 s1042 14 s1047
  have s1078 : F1074 15 = iv 120 := (hF1075 15).trans rfl
  clear hF1075
  refine then_normal (wq_ret (stay_ret ?_))
  exact end_2 s1076 rfl (res_blk blkT_block rfl s1077 B1056) (res_tmp (v := iv 120) rfl s1078) ⟨(by first | rw [hR.1, hR.2, he0] | rw [hR.1, hR.2]), K1073⟩
theorem whole_ge (l : List Nat) (n : Int) (s : Option Nat) : 0 ≤ (rdStep (wholeRd l n) s).1 := by
  cases s with
  | none => simp [rdStep]
  | some a =>
    cases h : wholeAt l a with
    | none => simp [rdStep, wholeRd, h]
    | some p =>
      obtain ⟨v, a'⟩ := p
      have hb := gw_bounds l a v a' h
      by_cases hv : n < v
      · simp [rdStep, wholeRd, h, hv]
      · simp [rdStep, wholeRd, h, hv]; exact hb.1
theorem rdCh_no {l : List Nat} {k ax ay bx yy m : Int} {st s1 : Option Nat} (hm : m = (rdStep (wholeRd l 6) st).1) (hs : s1 = (rdStep (wholeRd l 6) st).2) (h : s1.isNone = true ∨ ¬ (0 ≤ m ∧ m ≤ mostK k)) : ∃ s, rdCh l k ax ay bx yy st = (ch0, 120, s) := by
  have h0 := whole_ge l 6 st
  have e := rdStep_most (l := l) (mostK_le k) st
  rw [if_pos (by rw [← hm, ← hs]; rw [← hm] at h0; rcases h with h | h; exact .inl h; exact .inr (by omega))] at e
  exact ⟨none, by unfold rdCh; rw [e]; unfold rd1; exact if_pos rfl⟩
theorem rdCh_go {l : List Nat} {k ax ay bx yy m : Int} {st s1 : Option Nat} (hm : m = (rdStep (wholeRd l 6) st).1) (hs : s1 = (rdStep (wholeRd l 6) st).2) (h1 : s1.isNone = false) (h2 : 0 ≤ m ∧ m ≤ mostK k) : rdCh l k ax ay bx yy st = rd2 l m bx yy (stV (pastB m) l ax ay s1) := by
  have e := rdStep_most (l := l) (mostK_le k) st
  rw [if_neg (by rw [← hm, ← hs, h1]; rintro (h | h); cases h; omega)] at e
  unfold rdCh; rw [e]; unfold rd1
  rw [if_neg (by rw [← hs, h1]; exact Bool.false_ne_true), ← hm, ← hs]
theorem bl_read (p : Nat) (l : List Nat) (st : Option Nat) (k ax ay bx yy : Int) (T_r : Nat → Prop) (w0 : World) (hA : ActsIn w0) (hO : ScanIn w0) (hG : ∀ i, T_r i → 5 ≤ i) (h_r : Rdi w0 T_r p (l) (st)) :
  Calls Tryz.prog 62 #[.pointer (some ⟨p, 0, none⟩), .int .i64 (k), .agg #[.int .i64 (ax), .int .i64 (ay)], .agg #[.int .i64 (bx), .int .i64 (yy)]] w0 fun e w' => ∃ (T_r' : Nat → Prop), e = .returned (.tuple #[.agg (chW ((rdCh l k ax ay bx yy st).1)).toArray, .int .i64 ((rdCh l k ax ay bx yy st).2.1)]) ∧ Kept (T_r) w0 w' ∧ (Rdi w' T_r' p (l) (rdChT l k ax ay bx yy st) ∧ Grew w0 T_r T_r') := by
 refine calls_wq (args := [pt p 0, iv k, .agg #[iv ax, iv ay], .agg #[iv bx, iv yy]]) 68 Tryz.func62 rfl rfl (Nat.le_of_ble_eq_true rfl) ?_
 have K0 := Kept.refl T_r w0
 obtain ⟨m, hm⟩ : ∃ m, m = (rdStep (wholeRd l 6) st).1 := ⟨_, rfl⟩
 obtain ⟨s1, hs1⟩ : ∃ s, s = (rdStep (wholeRd l 6) st).2 := ⟨_, rfl⟩
 have g_r := Grew.refl w0 T_r
 refine wq_seq (wq_region (wl_box_stc (vs := [iv ax, iv ay]) rfl rfl rfl rfl fun p1 w2 B4 g5 k3 => ?_))
 have ap7 : Apart (onB p1) T_r := Apart.new g5 h_r.live
 have B8 := h_r.all k3 Apart.none
 have K9 := K0.tr k3
 refine wl_box_stc (vs := [iv bx, iv yy]) rfl rfl rfl rfl fun p10 w11 B13 g14 k12 => ?_
 have ap16 : Apart (onB p10) T_r := Apart.new g14 B8.live
 have B18 := B8.all k12 Apart.none
 have B19 := B4.all k12 id
 have K20 := K9.tr k12
 refine wl_alloc_stc (n := 21) (vs := (chL 0 0 0 0 0 (fun _ => (0 : Int)))) rfl rfl rfl (by kernel_rfl) fun p21 w22 B24 g25 k23 => ?_
 have gr26 : Grew w0 noB (onB p21) := Grew.new K20 g25
 have ap27 : Apart (onB p21) T_r := Apart.new g25 B18.live
 have B30 := B18.all k23 Apart.none
 have B31 := B19.all k23 id
 have B32 := B13.all k23 id
 have K33 := K20.tr k23
 refine wl_v (iv 0) rfl rfl (y_asg rfl rfl rr) (wl_nil fun F34 hF35 => ?_)
 have s36 : F34 0 = pt p 0 := (hF35 0).trans rfl
 have s37 : F34 1 = iv k := (hF35 1).trans rfl
 have s40 : F34 68 = undef := (hF35 68).trans rfl
 have s41 : F34 6 = pt p1 0 := (hF35 6).trans rfl
 have s42 : F34 7 = pt p10 0 := (hF35 7).trans rfl
 have s43 : F34 8 = pt p21 0 := (hF35 8).trans rfl
 clear hF35
 refine then_normal (wq_scope (wq_seq (wq_seq (wq_region (wl_mv rfl rfl rfl s36 (wl_v (.bool false) rfl rfl (y_noNil rfl rfl rfl Tryz.underlying54 rr) (wl_nil fun F45 hF46 => ?_)))))))
 obtain ⟨s47, s48, s51, s52, s53, s54⟩ := t6 hF46 0 s36 1 s37 68 s40 6 s41 7 s42 8 s43
 have s56 : F45 16 = .bool false := (hF46 16).trans rfl
 clear hF46
 refine then_normal ?_
 refine wq_cond (t := false) s56 (fun e => by cases e) (fun _ => ?_)
 refine wq_skip (then_normal (wq_seq ?_))
 obtain ⟨g, a, b, hf, hT, hok, hp, hg, hap⟩ := rdi_open B30
 have gr57 : Grew w0 T_r (onB p) := fun i h => g_r i ((fun i h => (hT i).2 (Or.inl h)) i h)
 have ap58 : Apart (onB p) (onB p1) := fun i h => ap7.symm i ((fun i h => (hT i).2 (Or.inl h)) i h)
 have ap59 : Apart (onB p) (onB p10) := fun i h => ap16.symm i ((fun i h => (hT i).2 (Or.inl h)) i h)
 have ap60 : Apart (onB p) (onB p21) := fun i h => ap27.symm i ((fun i h => (hT i).2 (Or.inl h)) i h)
 have gr61 : Grew w0 T_r (onB g) := fun i h => g_r i ((fun i h => (hT i).2 (Or.inr h)) i h)
 have ap62 : Apart (onB g) (onB p1) := fun i h => ap7.symm i ((fun i h => (hT i).2 (Or.inr h)) i h)
 have ap63 : Apart (onB g) (onB p10) := fun i h => ap16.symm i ((fun i h => (hT i).2 (Or.inr h)) i h)
 have ap64 : Apart (onB g) (onB p21) := fun i h => ap27.symm i ((fun i h => (hT i).2 (Or.inr h)) i h)
 have ap65 : Apart (onB p) (onB g) := hap
 refine wq_region (wl_mv rfl rfl rfl s47 (wl_v (pt p 0) rfl rfl (y_nilc rfl rfl rr) (wl_v (.agg #[.slice (some ⟨g, 0, none⟩) l.length l.length, iv ((a : Nat) : Int), .bool b]) rfl rfl (y_load_stc stcT_reader rfl rfl hp rr) (wl_alloc_stc (n := 3) (vs := [.slice none 0 0, iv ((0 : Nat) : Int), .bool false]) rfl rfl rfl (by kernel_rfl) fun p66 w67 B69 g70 k68 => ?_))))
 have gr71 : Grew w0 noB (onB p66) := Grew.new K33 g70
 have ap72 : Apart (onB p66) (onB p1) := Apart.new g70 (onB_live B31.lt)
 have ap73 : Apart (onB p66) (onB p10) := Apart.new g70 (onB_live B32.lt)
 have ap74 : Apart (onB p66) (onB p21) := Apart.new g70 (onB_live B24.lt)
 have ap75 : Apart (onB p66) (onB p) := Apart.new g70 (onB_live hp.lt)
 have ap76 : Apart (onB p66) (onB g) := Apart.new g70 hg.live
 have B77 := B31.all k68 id
 have B78 := B32.all k68 id
 have B79 := B24.all k68 id
 have B80 := hp.all k68 id
 have B81 := hg.all k68 Apart.none
 have K82 := K33.tr k68
 refine wl_store_stc (us := [.slice (some ⟨g, 0, none⟩) l.length l.length, iv ((a : Nat) : Int), .bool b]) stcT_reader rfl rfl rfl rfl rfl B69 rfl (oneI rfl (oneI rfl (oneI rfl oneN))) fun w83 B84 k85 => ?_
 have B86 := B77.all k85 (ap72.symm p1 rfl)
 have B87 := B78.all k85 (ap73.symm p10 rfl)
 have B88 := B79.all k85 (ap74.symm p21 rfl)
 have B89 := B80.all k85 (ap75.symm p rfl)
 have B90 := B81.all k85 ap76.symm
 have K91 := K82.trans k85 (Grew.ok (S := T_r) gr71 noB_le)
 refine wl_nil fun F92 hF93 => ?_
 obtain ⟨s94, s95, s98, s99, s100, s101⟩ := t6 hF93 0 s47 1 s48 68 s51 6 s52 7 s53 8 s54
 have s104 : F92 10 = pt p66 0 := (hF93 10).trans rfl
 clear hF93
 refine then_normal (wq_seq ?_)
 have B105 : Rdx w83 (fun i => (onB p) i ∨ ((onB p66) i ∨ ((onB g) i))) p66 l st ([(p, st)]) := rdx_push0 hf hok B89 B84 B90 ap75.symm ap65 ap76
 have gr106 : Grew w0 T_r (fun i => (onB p) i ∨ ((onB p66) i ∨ ((onB g) i))) := fun i h => h.elim (fun y => gr57 i y) (fun y => y.elim (fun y => (Grew.weak gr71 (fun _ z => z.elim)) i y) (fun y => gr61 i y))
 have ap107 : Apart (fun i => (onB p) i ∨ ((onB p66) i ∨ ((onB g) i))) (onB p1) := fun i h => h.elim (fun y => ap58 i y) (fun y => y.elim (fun y => ap72 i y) (fun y => ap62 i y))
 have ap108 : Apart (fun i => (onB p) i ∨ ((onB p66) i ∨ ((onB g) i))) (onB p10) := fun i h => h.elim (fun y => ap59 i y) (fun y => y.elim (fun y => ap73 i y) (fun y => ap63 i y))
 have ap109 : Apart (fun i => (onB p) i ∨ ((onB p66) i ∨ ((onB g) i))) (onB p21) := fun i h => h.elim (fun y => ap60 i y) (fun y => y.elim (fun y => ap74 i y) (fun y => ap64 i y))
 refine wq_region (wl_call (R := fun v_ w_ => ∃ (T112 : Nat → Prop), iv m = v_ ∧ Kept (fun i => (onB p) i ∨ ((onB p66) i ∨ ((onB g) i))) w83 w_ ∧ (Rdx w_ T112 p66 l ((rdStep (wholeRd l 6) st).2) ([(p, st)]) ∧ Grew w83 (fun i => (onB p) i ∨ ((onB p66) i ∨ ((onB g) i))) T112)) rfl rfl (y_cs rfl rfl rfl (fun _ _ => by kernel_rfl) (ev_func _) (vsC s104 (vsC rfl vsN)) (t_rwholeX p66 l st ([(p, st)]) 6 (fun i => (onB p) i ∨ ((onB p66) i ∨ ((onB g) i))) _  B105 ) (fun e_ w_ h_ => by obtain ⟨T112_, he_, hr_⟩ := h_; exact ⟨_, he_, T112_, (congrArg (Value.int .i64) hm.symm).symm, hr_⟩)) ?_)
 rintro _ w110 ⟨T112, rfl, k111, ⟨B113, g114⟩⟩
 have B115 := B86.all k111 (ap107.symm p1 rfl)
 have B116 := B87.all k111 (ap108.symm p10 rfl)
 have B117 := B88.all k111 (ap109.symm p21 rfl)
 have K118 := K91.trans k111 (fun i hi x => ((Grew.ok (S := T_r) gr106 (fun _ x => x)) i hi x))
 have gr119 := gr106.trans K91 g114
 have ap121 : Apart T112 (onB p10) := ap108.grew g114 (onB_live B87.lt)
 have ap122 : Apart T112 (onB p21) := ap109.grew g114 (onB_live B88.lt)
 refine wl_v (.agg (chL m 0 0 0 0 (fun _ => (0 : Int))).toArray) rfl rfl (y_buildL (l' := [(0, iv m)]) (cells := (chL m 0 0 0 0 (fun _ => (0 : Int))).toArray) rfl (bpC rfl bpN) (by kernel_rfl) rfl rr) (wl_alloc_stc (n := 21) (vs := (chL 0 0 0 0 0 (fun _ => (0 : Int)))) rfl rfl rfl (by kernel_rfl) fun p123 w124 B126 g127 k125 => ?_)
 have gr128 : Grew w0 noB (onB p123) := Grew.new K118 g127
 have ap129 : Apart (onB p123) (onB p1) := Apart.new g127 (onB_live B115.lt)
 have ap130 : Apart (onB p123) (onB p10) := Apart.new g127 (onB_live B116.lt)
 have ap131 : Apart (onB p123) (onB p21) := Apart.new g127 (onB_live B117.lt)
 have ap132 : Apart (onB p123) T112 := Apart.new g127 B113.live
 have B133 := B115.all k125 id
 have B134 := B116.all k125 id
 have B135 := B117.all k125 id
 have B136 := B113.all k125 Apart.none
 have K137 := K118.tr k125
 refine wl_store_stc (us := (chL m 0 0 0 0 (fun _ => (0 : Int)))) stcT_choice rfl rfl rfl rfl rfl B126 rfl (oneI rfl (oneI rfl (oneI rfl (oneI rfl (oneI rfl (oneI rfl (oneI rfl (oneI rfl (oneI rfl (oneI rfl (oneI rfl (oneI rfl (oneI rfl (oneI rfl (oneI rfl (oneI rfl (oneI rfl (oneI rfl (oneI rfl (oneI rfl (oneI rfl oneN))))))))))))))))))))) fun w138 B139 k140 => ?_
 have B141 := B133.all k140 (ap129.symm p1 rfl)
 have B142 := B134.all k140 (ap130.symm p10 rfl)
 have B143 := B135.all k140 (ap131.symm p21 rfl)
 have B144 := B136.all k140 ap132.symm
 have K145 := K137.trans k140 (Grew.ok (S := T_r) gr128 noB_le)
 refine wl_nil fun F146 hF147 => ?_
 obtain ⟨s148, s149, s152, s153, s154, s155, s158⟩ := t7 hF147 0 s94 1 s95 68 s98 6 s99 7 s100 8 s101 10 s104
 have s159 : F146 11 = pt p123 0 := (hF147 11).trans rfl
 clear hF147
 refine then_normal (wq_seq ?_)
 have B160 : Rdx w138 T112 p66 l s1 ([(p, st)]) := (by rw [hs1]; exact B144)
 refine wq_region (wl_v (pt p123 0) rfl rfl (y_fieldR (n := 1) rfl s159 Tryz.underlying71 rfl (by kernel_rfl) (by decide) rfl rr) (wl_v (iv m) rfl rfl (y_ld_stc rfl rfl Tryz.underlying3 B139 rfl rfl rr) (wl_cs rfl rfl rfl rfl rfl (fun _ _ => by kernel_rfl) (vsC rfl vsN) (bl_vectors m  _ (hA.but K145 hG)  ) fun w161 k162 => ?_)))
 have B163 := B141.all k162 id
 have B164 := B142.all k162 id
 have B165 := B143.all k162 id
 have B166 := B160.all k162 Apart.none
 have B167 := B139.all k162 id
 have K168 := K145.tr k162
 refine wl_v (.tuple #[.bool (pastB m), .bool (nextB m)]) rfl rfl (y_mov rfl rfl rr) (wl_v (.bool (pastB m)) rfl rfl (y_ext rfl rfl rfl rr) (wl_v (.bool (nextB m)) rfl rfl (y_ext rfl rfl rfl rr) (wl_v (.bool (pastB m)) rfl rfl (y_asg rfl rfl rr) (wl_v (.bool (nextB m)) rfl rfl (y_asg rfl rfl rr) (wl_nil fun F169 hF170 => ?_)))))
 obtain ⟨s171, s172, s175, s176, s177, s178, s181, s182⟩ := t8 hF170 0 s148 1 s149 68 s152 6 s153 7 s154 8 s155 10 s158 11 s159
 have s183 : F169 12 = .bool (pastB m) := (hF170 12).trans rfl
 have s184 : F169 13 = .bool (nextB m) := (hF170 13).trans rfl
 clear hF170
 refine then_normal (wq_seq (wq_region (wl_v (iv 120) rfl rfl (y_asg rfl rfl rr) (wl_nil fun F185 hF186 => ?_))))
 obtain ⟨s187, s188, s191, s192, s193, s194, s197, s198, s199, s200⟩ := t10 hF186 0 s171 1 s172 68 s175 6 s176 7 s177 8 s178 10 s181 11 s182 12 s183 13 s184
 have s201 : F185 14 = iv 120 := (hF186 14).trans rfl
 clear hF186
 refine then_normal (wq_seq (wq_seq ?_))
 rcases Bool.eq_false_or_eq_true (s1.isNone) with d202 | d202
 ·skip
  refine wq_region (wl_call (R := fun v_ w_ => v_ = .bool true ∧ Kept (fun _ => False) w161 w_) rfl rfl (y_cs rfl rfl rfl (fun _ _ => by kernel_rfl) (ev_func _) (vsC s197 vsN) (t_lostX p66 l s1 ([(p, st)]) T112 _  B166 ) (fun e_ w_ h_ => ⟨_, h_.1, (congrArg Value.bool d202), h_.2⟩)) ?_)
  rintro _ w203 ⟨rfl, k204⟩
  have B207 := B165.all k204 id
  have B208 := B166.all k204 Apart.none
  have K210 := K168.tr k204
  refine wl_v (.bool true) rfl rfl (y_mov rfl rfl rr) (wl_unless 1 false 30 rfl rfl rfl (Or.inl rfl) rfl (wl_unless 1 false 30 rfl rfl rfl (Or.inl rfl) rfl (wl_unless 1 false 30 rfl rfl rfl (Or.inl rfl) rfl (wl_unless 1 false 30 rfl rfl rfl (Or.inl rfl) rfl (wl_unless 1 false 30 rfl rfl rfl (Or.inl rfl) rfl (wl_v (.bool true) rfl rfl (y_pickT rfl rfl rfl rr) (wl_nil fun F211 hF212 => ?_)))))))
  obtain ⟨s217, s220, s227⟩ := t3 hF212 68 s191 8 s194 14 s201
  have s228 : F211 36 = .bool true := (hF212 36).trans rfl
  clear hF212
  refine then_normal ?_
  refine wq_cond (t := true) s228 (fun _ => ?_) (fun e => by cases e)
  refine wq_goto (then_goto ?_)
  refine jump_goto ⟨_, rfl, ?_⟩
  refine wq_seq (wq_skip (then_normal (wq_seq ?_)))
  first | have hR := h1.trans (by unfold rd2; exact if_neg (by assumption)) | have hR := h1.trans (by unfold rd3; exact if_neg (by assumption)) | have hR := h1.trans (by unfold rd4; exact if_neg (by assumption)) | (have hRR := rdCh_no (l := l) (k := k) (ax := ax) (ay := ay) (bx := bx) (yy := yy) hm hs1 (by first | exact Or.inl (by assumption) | exact Or.inr (by assumption)); obtain ⟨s9, hR⟩ := hRR)
  have hT0 : rdChT l k ax ay bx yy st = st := by unfold rdChT; rw [hR]; exact if_neg (by first | assumption | (intro z; exact absurd (show (120 : Int) = 0 from z) (by decide)))
  obtain ⟨g2, a1, b1, a2, b2, hf2, hT2, ho1, ho2, hp2, hq2, hg2, ap1_, ap2_, ap3_⟩ := rdx_pop0 B208
  have gr229 : Grew w0 T_r (onB p) := fun i h => gr119 i ((fun i h => (hT2 i).2 (Or.inl h)) i h)
  have ap232 : Apart (onB p) (onB p21) := fun i h => ap122 i ((fun i h => (hT2 i).2 (Or.inl h)) i h)
  have gr239 : Grew w0 T_r (onB g2) := fun i h => gr119 i ((fun i h => (hT2 i).2 (Or.inr (Or.inr h))) i h)
  have ap242 : Apart (onB g2) (onB p21) := fun i h => ap122 i ((fun i h => (hT2 i).2 (Or.inr (Or.inr h))) i h)
  have ap245 : Apart (onB p) (onB g2) := ap2_
  refine wq_region (wl_v (.agg (chL 0 0 0 0 0 (fun _ => (0 : Int))).toArray) rfl rfl (y_buildL (l' := []) (cells := (chL 0 0 0 0 0 (fun _ => (0 : Int))).toArray) rfl bpN (by kernel_rfl) rfl rr) (wl_mv rfl rfl rfl s227 (wl_store_stc (us := (chL 0 0 0 0 0 (fun _ => (0 : Int)))) stcT_choice rfl rfl rfl s220 rfl B207 rfl (oneI rfl (oneI rfl (oneI rfl (oneI rfl (oneI rfl (oneI rfl (oneI rfl (oneI rfl (oneI rfl (oneI rfl (oneI rfl (oneI rfl (oneI rfl (oneI rfl (oneI rfl (oneI rfl (oneI rfl (oneI rfl (oneI rfl (oneI rfl (oneI rfl oneN))))))))))))))))))))) fun w247 B248 k249 => ?_)))
  have B253 := hp2.all k249 (ap232 p rfl)
  have B255 := hg2.all k249 ap242
  have K256 := K210.trans k249 (Grew.ok (S := T_r) gr26 noB_le)
  refine wl_v (iv 120) rfl rfl (y_asg rfl rfl rr) (wl_nil fun F257 hF258 => ?_)
  obtain ⟨s259, s260⟩ := t2 hF258 68 s217 8 s220
  have s261 : F257 9 = iv 120 := (hF258 9).trans rfl
  clear hF258
  refine then_normal (wq_ret (stay_ret ?_))
  have B262 : Rdi w247 (fun i => (onB p) i ∨ ((onB g2) i)) p l (rdChT l k ax ay bx yy st) := (by rw [hT0]; first | exact rdi_close hf2 ho1 B253 B255 ap245 | exact rdi_close hf2 ho2 B253 B255 ap245)
  have gr263 : Grew w0 T_r (fun i => (onB p) i ∨ ((onB g2) i)) := fun i h => h.elim (fun y => gr229 i y) (fun y => gr239 i y)
  exact end_2 s259 rfl (res_stc (vs := (chL 0 0 0 0 0 (fun _ => (0 : Int)))) stcT_choice rfl s260 B248) (res_tmp (v := iv 120) rfl s261) ⟨(fun i => (onB p) i ∨ ((onB g2) i)), (by rw [hR] <;> rfl), K256, ⟨B262, gr263⟩⟩
 ·skip
  by_cases d269 : 0 ≤ m ∧ m ≤ mostK k
  ·skip
   refine wq_region (wl_call (R := fun v_ w_ => v_ = .bool false ∧ Kept (fun _ => False) w161 w_) rfl rfl (y_cs rfl rfl rfl (fun _ _ => by kernel_rfl) (ev_func _) (vsC s197 vsN) (t_lostX p66 l s1 ([(p, st)]) T112 _  B166 ) (fun e_ w_ h_ => ⟨_, h_.1, (congrArg Value.bool d202), h_.2⟩)) ?_)
   rintro _ w270 ⟨rfl, k271⟩
   have B272 := B163.all k271 id
   have B273 := B164.all k271 id
   have B274 := B165.all k271 id
   have B275 := B166.all k271 Apart.none
   have B276 := B167.all k271 id
   have K277 := K168.tr k271
   refine wl_v (.bool false) rfl rfl (y_mov rfl rfl rr) (wl_vw (iv k) 1 false 30 rfl rfl rfl rfl rfl (y_mov rfl s188 rr) (wl_vw (pt p123 0) 1 false 30 rfl rfl rfl rfl rfl (y_fieldR (n := 1) rfl s198 Tryz.underlying71 rfl (by kernel_rfl) (by decide) rfl rr) (wl_vw (iv m) 1 false 30 rfl rfl rfl rfl rfl (y_ld_stc rfl rfl Tryz.underlying3 B276 rfl rfl rr) (wl_callw (R := fun v_ w_ => v_ = .bool true ∧ Kept (fun _ => False) w270 w_) 1 false 30 rfl rfl rfl rfl rfl (y_cs rfl rfl rfl (fun _ _ => by kernel_rfl) (ev_func _) (vsC rfl (vsC rfl vsN)) (bl_has k m  _ (hA.but K277 hG)  ) (fun e_ w_ h_ => ⟨_, h_.1, (congrArg Value.bool (decide_eq_true d269)), h_.2⟩)) ?_))))
   rintro _ w278 ⟨rfl, k279⟩
   have B280 := B272.all k279 id
   have B281 := B273.all k279 id
   have B282 := B274.all k279 id
   have B283 := B275.all k279 Apart.none
   have B284 := B276.all k279 id
   have K285 := K277.tr k279
   refine wl_vw (.bool false) 1 false 30 rfl rfl rfl rfl rfl (y_not rfl rfl rfl rr) (wl_v (.bool false) rfl rfl (y_pickF rfl rfl rfl rr) (wl_nil fun F286 hF287 => ?_))
   obtain ⟨s288, s292, s293, s294, s295, s298, s299, s300, s301⟩ := t9 hF287 0 s187 68 s191 6 s192 7 s193 8 s194 10 s197 11 s198 12 s199 13 s200
   have s303 : F286 36 = .bool false := (hF287 36).trans rfl
   clear hF287
   refine then_normal ?_
   refine wq_cond (t := false) s303 (fun e => by cases e) (fun _ => ?_)
   refine wq_skip (then_normal (wq_seq (wq_seq ?_)))
   have h1 := rdCh_go (l := l) (k := k) (ax := ax) (ay := ay) (bx := bx) (yy := yy) hm hs1 (by assumption) (by assumption)
   refine wq_region (wl_mv rfl rfl rfl s300 (wl_nil fun F304 hF305 => ?_))
   obtain ⟨s306, s310, s311, s312, s313, s316, s317, s319⟩ := t8 hF305 0 s288 68 s292 6 s293 7 s294 8 s295 10 s298 11 s299 13 s301
   have s321 : F304 37 = .bool (pastB m) := (hF305 37).trans rfl
   clear hF305
   refine then_normal ?_
   refine wq_cond s321 (fun c322 => ?_) (fun c322 => ?_)
   ·skip
    refine wq_seq ?_
    rw [stV_yes (has := pastB m) (by assumption)] at h1
    refine wq_region (wl_v (.agg #[iv ax, iv ay]) rfl rfl (y_load_stc stcT_vector rfl s311 B280 rr) (wl_call (R := fun v_ w_ => ∃ (T325 : Nat → Prop), .tuple #[.agg #[iv (vrX l ax ay s1), iv (vrY l ax ay s1)], iv (vrE l ax ay s1)] = v_ ∧ Kept T112 w278 w_ ∧ (Rdx w_ T325 p66 l (vrT l ax ay s1) ([(p, st)]) ∧ Grew w278 T112 T325)) rfl rfl (y_cs rfl rfl rfl (fun _ _ => by kernel_rfl) (ev_func _) (vsC s316 (vsC rfl vsN)) (vt_readX p66 l s1 ([(p, st)]) ax ay T112 _  B283 ) (fun e_ w_ h_ => by obtain ⟨T325_, he_, hr_⟩ := h_; exact ⟨_, he_, T325_, rfl, hr_⟩)) ?_))
    rintro _ w323 ⟨T325, rfl, k324, ⟨B326, g327⟩⟩
    have B329 := B281.all k324 (ap121.symm p10 rfl)
    have B330 := B282.all k324 (ap122.symm p21 rfl)
    have B331 := B284.all k324 (ap132 p123 rfl)
    have K332 := K285.trans k324 (fun i hi x => ((Grew.ok (S := T_r) gr119 (fun _ x => x)) i hi x))
    have gr333 := gr119.trans K285 g327
    have ap336 : Apart T325 (onB p21) := ap122.grew g327 (onB_live B282.lt)
    have ap337 : Apart T325 (onB p123) := (ap132.symm).grew g327 (onB_live B284.lt)
    refine wl_v (.tuple #[.agg #[iv (vrX l ax ay s1), iv (vrY l ax ay s1)], iv (vrE l ax ay s1)]) rfl rfl (y_mov rfl rfl rr) (wl_v (.agg #[iv (vrX l ax ay s1), iv (vrY l ax ay s1)]) rfl rfl (y_ext rfl rfl rfl rr) (wl_v (iv (vrE l ax ay s1)) rfl rfl (y_ext rfl rfl rfl rr) (wl_v (pt p123 1) rfl rfl (y_fieldR (n := 2) rfl s317 Tryz.underlying71 rfl (by kernel_rfl) (by decide) rfl rr) (wl_setPart (us := [iv (vrX l ax ay s1), iv (vrY l ax ay s1)]) (ns := (chL m (vrX l ax ay s1) (vrY l ax ay s1) 0 0 (fun _ => (0 : Int)))) stcT_vector rfl rfl rfl rfl rfl B331 (Nat.le_of_ble_eq_true rfl) (oneI rfl (oneI rfl oneN)) rfl fun w338 B339 k340 => ?_))))
    have B342 := B329.all k340 (ap130.symm p10 rfl)
    have B343 := B330.all k340 (ap131.symm p21 rfl)
    have B344 := B326.all k340 ap337
    have K345 := K332.trans k340 (Grew.ok (S := T_r) gr128 noB_le)
    refine wl_v (iv (vrE l ax ay s1)) rfl rfl (y_asg rfl rfl rr) (wl_nil fun F346 hF347 => ?_)
    obtain ⟨s348, s352, s354, s355, s358, s359, s361⟩ := t7 hF347 0 s306 68 s310 7 s312 8 s313 10 s316 11 s317 13 s319
    have s364 : F346 14 = iv (vrE l ax ay s1) := (hF347 14).trans rfl
    clear hF347
    refine then_normal (wq_seq (wq_region (wl_mv rfl rfl rfl s364 (wl_v (.bool (decide ((vrE l ax ay s1) ≠ 0))) rfl rfl (y_neqI rfl rfl rfl rfl rr) (wl_nil fun F365 hF366 => ?_)))))
    obtain ⟨s367, s371, s373, s374, s377, s378, s380, s383⟩ := t8 hF366 0 s348 68 s352 7 s354 8 s355 10 s358 11 s359 13 s361 14 s364
    have s384 : F365 45 = .bool (decide ((vrE l ax ay s1) ≠ 0)) := (hF366 45).trans rfl
    clear hF366
    refine then_normal ?_
    refine wq_cond s384 (fun c385 => ?_) (fun c385 => ?_)
    ·replace c385 := of_decide_eq_true c385
     refine wq_goto (then_goto ?_)
     refine jump_goto ⟨_, rfl, ?_⟩
     refine wq_seq (wq_skip (then_normal (wq_seq ?_)))
     first | have hR := h1.trans (by unfold rd2; exact if_neg (by assumption)) | have hR := h1.trans (by unfold rd3; exact if_neg (by assumption)) | have hR := h1.trans (by unfold rd4; exact if_neg (by assumption)) | (have hRR := rdCh_no (l := l) (k := k) (ax := ax) (ay := ay) (bx := bx) (yy := yy) hm hs1 (by first | exact Or.inl (by assumption) | exact Or.inr (by assumption)); obtain ⟨s9, hR⟩ := hRR)
     have hT0 : rdChT l k ax ay bx yy st = st := by unfold rdChT; rw [hR]; exact if_neg (by first | assumption | (intro z; exact absurd (show (120 : Int) = 0 from z) (by decide)))
     obtain ⟨g2, a1, b1, a2, b2, hf2, hT2, ho1, ho2, hp2, hq2, hg2, ap1_, ap2_, ap3_⟩ := rdx_pop0 B344
     have gr386 : Grew w0 T_r (onB p) := fun i h => gr333 i ((fun i h => (hT2 i).2 (Or.inl h)) i h)
     have ap389 : Apart (onB p) (onB p21) := fun i h => ap336 i ((fun i h => (hT2 i).2 (Or.inl h)) i h)
     have gr396 : Grew w0 T_r (onB g2) := fun i h => gr333 i ((fun i h => (hT2 i).2 (Or.inr (Or.inr h))) i h)
     have ap399 : Apart (onB g2) (onB p21) := fun i h => ap336 i ((fun i h => (hT2 i).2 (Or.inr (Or.inr h))) i h)
     have ap402 : Apart (onB p) (onB g2) := ap2_
     refine wq_region (wl_v (.agg (chL 0 0 0 0 0 (fun _ => (0 : Int))).toArray) rfl rfl (y_buildL (l' := []) (cells := (chL 0 0 0 0 0 (fun _ => (0 : Int))).toArray) rfl bpN (by kernel_rfl) rfl rr) (wl_mv rfl rfl rfl s383 (wl_store_stc (us := (chL 0 0 0 0 0 (fun _ => (0 : Int)))) stcT_choice rfl rfl rfl s374 rfl B343 rfl (oneI rfl (oneI rfl (oneI rfl (oneI rfl (oneI rfl (oneI rfl (oneI rfl (oneI rfl (oneI rfl (oneI rfl (oneI rfl (oneI rfl (oneI rfl (oneI rfl (oneI rfl (oneI rfl (oneI rfl (oneI rfl (oneI rfl (oneI rfl (oneI rfl oneN))))))))))))))))))))) fun w404 B405 k406 => ?_)))
     have B410 := hp2.all k406 (ap389 p rfl)
     have B412 := hg2.all k406 ap399
     have K413 := K345.trans k406 (Grew.ok (S := T_r) gr26 noB_le)
     refine wl_v (iv (vrE l ax ay s1)) rfl rfl (y_asg rfl rfl rr) (wl_nil fun F414 hF415 => ?_)
     obtain ⟨s416, s417⟩ := t2 hF415 68 s371 8 s374
     have s418 : F414 9 = iv (vrE l ax ay s1) := (hF415 9).trans rfl
     clear hF415
     refine then_normal (wq_ret (stay_ret ?_))
     have B419 : Rdi w404 (fun i => (onB p) i ∨ ((onB g2) i)) p l (rdChT l k ax ay bx yy st) := (by rw [hT0]; first | exact rdi_close hf2 ho1 B410 B412 ap402 | exact rdi_close hf2 ho2 B410 B412 ap402)
     have gr420 : Grew w0 T_r (fun i => (onB p) i ∨ ((onB g2) i)) := fun i h => h.elim (fun y => gr386 i y) (fun y => gr396 i y)
     exact end_2 s416 rfl (res_stc (vs := (chL 0 0 0 0 0 (fun _ => (0 : Int)))) stcT_choice rfl s417 B405) (res_tmp (v := iv (vrE l ax ay s1)) rfl s418) ⟨(fun i => (onB p) i ∨ ((onB g2) i)), (by rw [hR] <;> rfl), K413, ⟨B419, gr420⟩⟩
    ·replace c385 := of_decide_eq_false c385
     refine wq_skip (then_normal (wq_seq (wq_seq ?_)))
     first | (rw [stV_no (has := pastB m) (by assumption)] at h1; replace h1 := h1.trans (by unfold rd2; exact if_pos rfl); (try dsimp only at h1)) | (have hv1 : vrE l ax ay s1 = 0 := (by first | assumption | (apply Decidable.byContradiction; assumption)); replace h1 := h1.trans (by unfold rd2; exact if_pos hv1); (try dsimp only at h1); rw [← vrT_ok hv1] at h1)
     refine wq_region (wl_mv rfl rfl rfl s380 (wl_nil fun F426 hF427 => ?_))
     obtain ⟨s428, s432, s434, s435, s438, s439⟩ := t6 hF427 0 s367 68 s371 7 s373 8 s374 10 s377 11 s378
     have s445 : F426 46 = .bool (nextB m) := (hF427 46).trans rfl
     clear hF427
     refine then_normal ?_
     refine wq_cond s445 (fun c446 => ?_) (fun c446 => ?_)
     ·skip
      refine wq_seq ?_
      rw [stV_yes (has := nextB m) (by assumption)] at h1
      refine wq_region (wl_v (.agg #[iv bx, iv yy]) rfl rfl (y_load_stc stcT_vector rfl s434 B342 rr) (wl_call (R := fun v_ w_ => ∃ (T449 : Nat → Prop), .tuple #[.agg #[iv (vrX l bx yy (vrT l ax ay s1)), iv (vrY l bx yy (vrT l ax ay s1))], iv (vrE l bx yy (vrT l ax ay s1))] = v_ ∧ Kept T325 w338 w_ ∧ (Rdx w_ T449 p66 l (vrT l bx yy (vrT l ax ay s1)) ([(p, st)]) ∧ Grew w338 T325 T449)) rfl rfl (y_cs rfl rfl rfl (fun _ _ => by kernel_rfl) (ev_func _) (vsC s438 (vsC rfl vsN)) (vt_readX p66 l (vrT l ax ay s1) ([(p, st)]) bx yy T325 _  B344 ) (fun e_ w_ h_ => by obtain ⟨T449_, he_, hr_⟩ := h_; exact ⟨_, he_, T449_, rfl, hr_⟩)) ?_))
      rintro _ w447 ⟨T449, rfl, k448, ⟨B450, g451⟩⟩
      have B454 := B343.all k448 (ap336.symm p21 rfl)
      have B455 := B339.all k448 (ap337.symm p123 rfl)
      have K456 := K345.trans k448 (fun i hi x => ((Grew.ok (S := T_r) gr333 (fun _ x => x)) i hi x))
      have gr457 := gr333.trans K345 g451
      have ap460 : Apart T449 (onB p21) := ap336.grew g451 (onB_live B343.lt)
      have ap461 : Apart T449 (onB p123) := ap337.grew g451 (onB_live B339.lt)
      refine wl_v (.tuple #[.agg #[iv (vrX l bx yy (vrT l ax ay s1)), iv (vrY l bx yy (vrT l ax ay s1))], iv (vrE l bx yy (vrT l ax ay s1))]) rfl rfl (y_mov rfl rfl rr) (wl_v (.agg #[iv (vrX l bx yy (vrT l ax ay s1)), iv (vrY l bx yy (vrT l ax ay s1))]) rfl rfl (y_ext rfl rfl rfl rr) (wl_v (iv (vrE l bx yy (vrT l ax ay s1))) rfl rfl (y_ext rfl rfl rfl rr) (wl_v (pt p123 3) rfl rfl (y_fieldR (n := 2) rfl s439 Tryz.underlying71 rfl (by kernel_rfl) (by decide) rfl rr) (wl_setPart (us := [iv (vrX l bx yy (vrT l ax ay s1)), iv (vrY l bx yy (vrT l ax ay s1))]) (ns := (chL m (vrX l ax ay s1) (vrY l ax ay s1) (vrX l bx yy (vrT l ax ay s1)) (vrY l bx yy (vrT l ax ay s1)) (fun _ => (0 : Int)))) stcT_vector rfl rfl rfl rfl rfl B455 (Nat.le_of_ble_eq_true rfl) (oneI rfl (oneI rfl oneN)) rfl fun w462 B463 k464 => ?_))))
      have B467 := B454.all k464 (ap131.symm p21 rfl)
      have B468 := B450.all k464 ap461
      have K469 := K456.trans k464 (Grew.ok (S := T_r) gr128 noB_le)
      refine wl_v (iv (vrE l bx yy (vrT l ax ay s1))) rfl rfl (y_asg rfl rfl rr) (wl_nil fun F470 hF471 => ?_)
      obtain ⟨s472, s476, s479, s482, s483⟩ := t5 hF471 0 s428 68 s432 8 s435 10 s438 11 s439
      have s490 : F470 14 = iv (vrE l bx yy (vrT l ax ay s1)) := (hF471 14).trans rfl
      clear hF471
      refine then_normal (wq_seq (wq_region (wl_mv rfl rfl rfl s490 (wl_v (.bool (decide ((vrE l bx yy (vrT l ax ay s1)) ≠ 0))) rfl rfl (y_neqI rfl rfl rfl rfl rr) (wl_nil fun F491 hF492 => ?_)))))
      obtain ⟨s493, s497, s500, s503, s504, s511⟩ := t6 hF492 0 s472 68 s476 8 s479 10 s482 11 s483 14 s490
      have s512 : F491 54 = .bool (decide ((vrE l bx yy (vrT l ax ay s1)) ≠ 0)) := (hF492 54).trans rfl
      clear hF492
      refine then_normal ?_
      refine wq_cond s512 (fun c513 => ?_) (fun c513 => ?_)
      ·replace c513 := of_decide_eq_true c513
       refine wq_goto (then_goto ?_)
       refine jump_goto ⟨_, rfl, ?_⟩
       refine wq_seq (wq_skip (then_normal (wq_seq ?_)))
       first | have hR := h1.trans (by unfold rd2; exact if_neg (by assumption)) | have hR := h1.trans (by unfold rd3; exact if_neg (by assumption)) | have hR := h1.trans (by unfold rd4; exact if_neg (by assumption)) | (have hRR := rdCh_no (l := l) (k := k) (ax := ax) (ay := ay) (bx := bx) (yy := yy) hm hs1 (by first | exact Or.inl (by assumption) | exact Or.inr (by assumption)); obtain ⟨s9, hR⟩ := hRR)
       have hT0 : rdChT l k ax ay bx yy st = st := by unfold rdChT; rw [hR]; exact if_neg (by first | assumption | (intro z; exact absurd (show (120 : Int) = 0 from z) (by decide)))
       obtain ⟨g2, a1, b1, a2, b2, hf2, hT2, ho1, ho2, hp2, hq2, hg2, ap1_, ap2_, ap3_⟩ := rdx_pop0 B468
       have gr514 : Grew w0 T_r (onB p) := fun i h => gr457 i ((fun i h => (hT2 i).2 (Or.inl h)) i h)
       have ap517 : Apart (onB p) (onB p21) := fun i h => ap460 i ((fun i h => (hT2 i).2 (Or.inl h)) i h)
       have gr524 : Grew w0 T_r (onB g2) := fun i h => gr457 i ((fun i h => (hT2 i).2 (Or.inr (Or.inr h))) i h)
       have ap527 : Apart (onB g2) (onB p21) := fun i h => ap460 i ((fun i h => (hT2 i).2 (Or.inr (Or.inr h))) i h)
       have ap530 : Apart (onB p) (onB g2) := ap2_
       refine wq_region (wl_v (.agg (chL 0 0 0 0 0 (fun _ => (0 : Int))).toArray) rfl rfl (y_buildL (l' := []) (cells := (chL 0 0 0 0 0 (fun _ => (0 : Int))).toArray) rfl bpN (by kernel_rfl) rfl rr) (wl_mv rfl rfl rfl s511 (wl_store_stc (us := (chL 0 0 0 0 0 (fun _ => (0 : Int)))) stcT_choice rfl rfl rfl s500 rfl B467 rfl (oneI rfl (oneI rfl (oneI rfl (oneI rfl (oneI rfl (oneI rfl (oneI rfl (oneI rfl (oneI rfl (oneI rfl (oneI rfl (oneI rfl (oneI rfl (oneI rfl (oneI rfl (oneI rfl (oneI rfl (oneI rfl (oneI rfl (oneI rfl (oneI rfl oneN))))))))))))))))))))) fun w532 B533 k534 => ?_)))
       have B538 := hp2.all k534 (ap517 p rfl)
       have B540 := hg2.all k534 ap527
       have K541 := K469.trans k534 (Grew.ok (S := T_r) gr26 noB_le)
       refine wl_v (iv (vrE l bx yy (vrT l ax ay s1))) rfl rfl (y_asg rfl rfl rr) (wl_nil fun F542 hF543 => ?_)
       obtain ⟨s544, s545⟩ := t2 hF543 68 s497 8 s500
       have s546 : F542 9 = iv (vrE l bx yy (vrT l ax ay s1)) := (hF543 9).trans rfl
       clear hF543
       refine then_normal (wq_ret (stay_ret ?_))
       have B547 : Rdi w532 (fun i => (onB p) i ∨ ((onB g2) i)) p l (rdChT l k ax ay bx yy st) := (by rw [hT0]; first | exact rdi_close hf2 ho1 B538 B540 ap530 | exact rdi_close hf2 ho2 B538 B540 ap530)
       have gr548 : Grew w0 T_r (fun i => (onB p) i ∨ ((onB g2) i)) := fun i h => h.elim (fun y => gr514 i y) (fun y => gr524 i y)
       exact end_2 s544 rfl (res_stc (vs := (chL 0 0 0 0 0 (fun _ => (0 : Int)))) stcT_choice rfl s545 B533) (res_tmp (v := iv (vrE l bx yy (vrT l ax ay s1))) rfl s546) ⟨(fun i => (onB p) i ∨ ((onB g2) i)), (by rw [hR] <;> rfl), K541, ⟨B547, gr548⟩⟩
      ·replace c513 := of_decide_eq_false c513
       refine wq_skip (then_normal (wq_seq (wq_seq ?_)))
       first | (rw [stV_no (has := nextB m) (by assumption)] at h1; replace h1 := h1.trans (by unfold rd3; exact if_pos rfl); (try dsimp only at h1)) | (have hv2 : vrE l bx yy (vrT l ax ay s1) = 0 := (by first | assumption | (apply Decidable.byContradiction; assumption)); replace h1 := h1.trans (by unfold rd3; exact if_pos hv2); (try dsimp only at h1); rw [← vrT_ok hv2] at h1) | (have hv2 : vrE l bx yy s1 = 0 := (by first | assumption | (apply Decidable.byContradiction; assumption)); replace h1 := h1.trans (by unfold rd3; exact if_pos hv2); (try dsimp only at h1); rw [← vrT_ok hv2] at h1)
       refine wq_region (wl_call (R := fun v_ w_ => ∃ (T556 : Nat → Prop), .tuple #[blkV ((scanRd l (vrT l bx yy (vrT l ax ay s1))).1), iv ((scanRd l (vrT l bx yy (vrT l ax ay s1))).2.1)] = v_ ∧ Kept T449 w462 w_ ∧ (Rdx w_ T556 p66 l (rdSt l (vrT l bx yy (vrT l ax ay s1))) ([(p, st)]) ∧ Grew w462 T449 T556)) rfl rfl (y_cs rfl rfl rfl (fun _ _ => by kernel_rfl) (ev_func _) (vsC s503 vsN) (scan_readX p66 l (vrT l bx yy (vrT l ax ay s1)) ([(p, st)]) T449 _ (hO.but K469 (ovO hG)) (ovO (aboveN2 gr457 hG hA)) B468 ) (fun e_ w_ h_ => by obtain ⟨T556_, he_, hr_⟩ := h_; exact ⟨_, he_, T556_, rfl, hr_⟩)) ?_)
       rintro _ w554 ⟨T556, rfl, k555, ⟨B557, g558⟩⟩
       have B561 := B467.all k555 (ap460.symm p21 rfl)
       have B562 := B463.all k555 (ap461.symm p123 rfl)
       have K563 := K469.trans k555 (fun i hi x => ((Grew.ok (S := T_r) gr457 (fun _ x => x)) i hi x))
       have gr564 := gr457.trans K469 g558
       have ap567 : Apart T556 (onB p21) := ap460.grew g558 (onB_live B467.lt)
       have ap568 : Apart T556 (onB p123) := ap461.grew g558 (onB_live B463.lt)
       refine wl_v (.tuple #[blkV ((scanRd l (vrT l bx yy (vrT l ax ay s1))).1), iv ((scanRd l (vrT l bx yy (vrT l ax ay s1))).2.1)]) rfl rfl (y_mov rfl rfl rr) (wl_v (blkV ((scanRd l (vrT l bx yy (vrT l ax ay s1))).1)) rfl rfl (y_ext rfl rfl rfl rr) (wl_v (iv ((scanRd l (vrT l bx yy (vrT l ax ay s1))).2.1)) rfl rfl (y_ext rfl rfl rfl rr) (wl_v (pt p123 5) rfl rfl (y_fieldR (n := 16) rfl s504 Tryz.underlying71 rfl (by kernel_rfl) (by decide) rfl rr) (wl_setPart (us := arrL 16 ((scanRd l (vrT l bx yy (vrT l ax ay s1))).1)) (ns := (chL m (vrX l ax ay s1) (vrY l ax ay s1) (vrX l bx yy (vrT l ax ay s1)) (vrY l bx yy (vrT l ax ay s1)) ((scanRd l (vrT l bx yy (vrT l ax ay s1))).1))) stcT_block rfl rfl rfl rfl rfl B562 (Nat.le_of_ble_eq_true rfl) (one_arrL _ _) rfl fun w569 B570 k571 => ?_))))
       have B574 := B561.all k571 (ap131.symm p21 rfl)
       have B575 := B557.all k571 ap568
       have K576 := K563.trans k571 (Grew.ok (S := T_r) gr128 noB_le)
       refine wl_v (iv ((scanRd l (vrT l bx yy (vrT l ax ay s1))).2.1)) rfl rfl (y_asg rfl rfl rr) (wl_nil fun F577 hF578 => ?_)
       obtain ⟨s579, s583, s586, s589, s590⟩ := t5 hF578 0 s493 68 s497 8 s500 10 s503 11 s504
       have s598 : F577 14 = iv ((scanRd l (vrT l bx yy (vrT l ax ay s1))).2.1) := (hF578 14).trans rfl
       clear hF578
       refine then_normal (wq_seq (wq_region (wl_mv rfl rfl rfl s598 (wl_v (.bool (decide (((scanRd l (vrT l bx yy (vrT l ax ay s1))).2.1) ≠ 0))) rfl rfl (y_neqI rfl rfl rfl rfl rr) (wl_nil fun F599 hF600 => ?_)))))
       obtain ⟨s601, s605, s608, s611, s612, s620⟩ := t6 hF600 0 s579 68 s583 8 s586 10 s589 11 s590 14 s598
       have s621 : F599 61 = .bool (decide (((scanRd l (vrT l bx yy (vrT l ax ay s1))).2.1) ≠ 0)) := (hF600 61).trans rfl
       clear hF600
       refine then_normal ?_
       refine wq_cond s621 (fun c622 => ?_) (fun c622 => ?_)
       ·replace c622 := of_decide_eq_true c622
        refine wq_goto (then_goto ?_)
        refine jump_goto ⟨_, rfl, ?_⟩
        refine wq_seq (wq_skip (then_normal (wq_seq ?_)))
        first | have hR := h1.trans (by unfold rd2; exact if_neg (by assumption)) | have hR := h1.trans (by unfold rd3; exact if_neg (by assumption)) | have hR := h1.trans (by unfold rd4; exact if_neg (by assumption)) | (have hRR := rdCh_no (l := l) (k := k) (ax := ax) (ay := ay) (bx := bx) (yy := yy) hm hs1 (by first | exact Or.inl (by assumption) | exact Or.inr (by assumption)); obtain ⟨s9, hR⟩ := hRR)
        have hT0 : rdChT l k ax ay bx yy st = st := by unfold rdChT; rw [hR]; exact if_neg (by first | assumption | (intro z; exact absurd (show (120 : Int) = 0 from z) (by decide)))
        obtain ⟨g2, a1, b1, a2, b2, hf2, hT2, ho1, ho2, hp2, hq2, hg2, ap1_, ap2_, ap3_⟩ := rdx_pop0 B575
        have gr623 : Grew w0 T_r (onB p) := fun i h => gr564 i ((fun i h => (hT2 i).2 (Or.inl h)) i h)
        have ap626 : Apart (onB p) (onB p21) := fun i h => ap567 i ((fun i h => (hT2 i).2 (Or.inl h)) i h)
        have gr633 : Grew w0 T_r (onB g2) := fun i h => gr564 i ((fun i h => (hT2 i).2 (Or.inr (Or.inr h))) i h)
        have ap636 : Apart (onB g2) (onB p21) := fun i h => ap567 i ((fun i h => (hT2 i).2 (Or.inr (Or.inr h))) i h)
        have ap639 : Apart (onB p) (onB g2) := ap2_
        refine wq_region (wl_v (.agg (chL 0 0 0 0 0 (fun _ => (0 : Int))).toArray) rfl rfl (y_buildL (l' := []) (cells := (chL 0 0 0 0 0 (fun _ => (0 : Int))).toArray) rfl bpN (by kernel_rfl) rfl rr) (wl_mv rfl rfl rfl s620 (wl_store_stc (us := (chL 0 0 0 0 0 (fun _ => (0 : Int)))) stcT_choice rfl rfl rfl s608 rfl B574 rfl (oneI rfl (oneI rfl (oneI rfl (oneI rfl (oneI rfl (oneI rfl (oneI rfl (oneI rfl (oneI rfl (oneI rfl (oneI rfl (oneI rfl (oneI rfl (oneI rfl (oneI rfl (oneI rfl (oneI rfl (oneI rfl (oneI rfl (oneI rfl (oneI rfl oneN))))))))))))))))))))) fun w641 B642 k643 => ?_)))
        have B647 := hp2.all k643 (ap626 p rfl)
        have B649 := hg2.all k643 ap636
        have K650 := K576.trans k643 (Grew.ok (S := T_r) gr26 noB_le)
        refine wl_v (iv ((scanRd l (vrT l bx yy (vrT l ax ay s1))).2.1)) rfl rfl (y_asg rfl rfl rr) (wl_nil fun F651 hF652 => ?_)
        obtain ⟨s653, s654⟩ := t2 hF652 68 s605 8 s608
        have s655 : F651 9 = iv ((scanRd l (vrT l bx yy (vrT l ax ay s1))).2.1) := (hF652 9).trans rfl
        clear hF652
        refine then_normal (wq_ret (stay_ret ?_))
        have B656 : Rdi w641 (fun i => (onB p) i ∨ ((onB g2) i)) p l (rdChT l k ax ay bx yy st) := (by rw [hT0]; first | exact rdi_close hf2 ho1 B647 B649 ap639 | exact rdi_close hf2 ho2 B647 B649 ap639)
        have gr657 : Grew w0 T_r (fun i => (onB p) i ∨ ((onB g2) i)) := fun i h => h.elim (fun y => gr623 i y) (fun y => gr633 i y)
        exact end_2 s653 rfl (res_stc (vs := (chL 0 0 0 0 0 (fun _ => (0 : Int)))) stcT_choice rfl s654 B642) (res_tmp (v := iv ((scanRd l (vrT l bx yy (vrT l ax ay s1))).2.1)) rfl s655) ⟨(fun i => (onB p) i ∨ ((onB g2) i)), (by rw [hR] <;> rfl), K650, ⟨B656, gr657⟩⟩
       ·replace c622 := of_decide_eq_false c622
        refine wq_skip (then_normal (wq_seq ?_))
        have hR := h1.trans (by unfold rd4; exact if_pos (by first | assumption | (apply Decidable.byContradiction; assumption)))
        have hT0 := (show rdChT l k ax ay bx yy st = (rdCh l k ax ay bx yy st).2.2 from if_pos (by rw [hR]))
        rw [hR] at hT0
        dsimp only at hT0
        rw [← rdSt_ok (by first | assumption | (apply Decidable.byContradiction; assumption))] at hT0
        obtain ⟨g2, a1, b1, a2, b2, hf2, hT2, ho1, ho2, hp2, hq2, hg2, ap1_, ap2_, ap3_⟩ := rdx_pop0 B575
        have gr663 : Grew w0 T_r (onB p) := fun i h => gr564 i ((fun i h => (hT2 i).2 (Or.inl h)) i h)
        have ap666 : Apart (onB p) (onB p21) := fun i h => ap567 i ((fun i h => (hT2 i).2 (Or.inl h)) i h)
        have ap667 : Apart (onB p) (onB p123) := fun i h => ap568 i ((fun i h => (hT2 i).2 (Or.inl h)) i h)
        have gr673 : Grew w0 T_r (onB g2) := fun i h => gr564 i ((fun i h => (hT2 i).2 (Or.inr (Or.inr h))) i h)
        have ap676 : Apart (onB g2) (onB p21) := fun i h => ap567 i ((fun i h => (hT2 i).2 (Or.inr (Or.inr h))) i h)
        have ap679 : Apart (onB p) (onB g2) := ap2_
        refine wq_region (wl_mv rfl rfl rfl s601 (wl_v (.agg #[.slice (some ⟨g2, 0, none⟩) l.length l.length, iv ((a2 : Nat) : Int), .bool b2]) rfl rfl (y_load_stc stcT_reader rfl s611 hq2 rr) (wl_v (pt p 0) rfl rfl (y_nilc rfl rfl rr) (wl_store_stc (us := [.slice (some ⟨g2, 0, none⟩) l.length l.length, iv ((a2 : Nat) : Int), .bool b2]) stcT_reader rfl rfl rfl rfl rfl hp2 rfl (oneI rfl (oneI rfl (oneI rfl oneN))) fun w681 B682 k683 => ?_))))
        have B686 := B574.all k683 (ap666.symm p21 rfl)
        have B687 := B570.all k683 (ap667.symm p123 rfl)
        have B689 := hg2.all k683 ap679.symm
        have K690 := K576.trans k683 (Grew.ok (S := T_r) gr663 (fun _ x => x))
        refine wl_nil fun F691 hF692 => ?_
        obtain ⟨s693, s694, s695⟩ := t3 hF692 68 s605 8 s608 11 s612
        clear hF692
        refine then_normal (wq_seq (wq_seq (wq_region (wl_v (.agg (chL m (vrX l ax ay s1) (vrY l ax ay s1) (vrX l bx yy (vrT l ax ay s1)) (vrY l bx yy (vrT l ax ay s1)) ((scanRd l (vrT l bx yy (vrT l ax ay s1))).1)).toArray) rfl rfl (y_load_stc stcT_choice rfl s695 B687 rr) (wl_store_stc (us := (chL m (vrX l ax ay s1) (vrY l ax ay s1) (vrX l bx yy (vrT l ax ay s1)) (vrY l bx yy (vrT l ax ay s1)) ((scanRd l (vrT l bx yy (vrT l ax ay s1))).1))) stcT_choice rfl rfl rfl s694 rfl B686 rfl (oneI rfl (oneI rfl (oneI rfl (oneI rfl (oneI rfl (oneI rfl (oneI rfl (oneI rfl (oneI rfl (oneI rfl (oneI rfl (oneI rfl (oneI rfl (oneI rfl (oneI rfl (oneI rfl (oneI rfl (oneI rfl (oneI rfl (oneI rfl (oneI rfl oneN))))))))))))))))))))) fun w696 B697 k698 => ?_)))))
        have B702 := B682.all k698 (ap666 p rfl)
        have B704 := B689.all k698 ap676
        have K705 := K690.trans k698 (Grew.ok (S := T_r) gr26 noB_le)
        refine wl_v (iv 0) rfl rfl (y_asg rfl rfl rr) (wl_nil fun F706 hF707 => ?_)
        obtain ⟨s708, s709⟩ := t2 hF707 68 s693 8 s694
        have s710 : F706 9 = iv 0 := (hF707 9).trans rfl
        clear hF707
        refine then_normal (wq_ret (then_ret (jump_ret ?_)))
        have B711 : Rdi w696 (fun i => (onB p) i ∨ ((onB g2) i)) p l (rdChT l k ax ay bx yy st) := (by rw [hT0]; first | exact rdi_close hf2 ho1 B702 B704 ap679 | exact rdi_close hf2 ho2 B702 B704 ap679)
        have gr712 : Grew w0 T_r (fun i => (onB p) i ∨ ((onB g2) i)) := fun i h => h.elim (fun y => gr663 i y) (fun y => gr673 i y)
        exact end_2 s708 rfl (res_stc (vs := (chL m (vrX l ax ay s1) (vrY l ax ay s1) (vrX l bx yy (vrT l ax ay s1)) (vrY l bx yy (vrT l ax ay s1)) ((scanRd l (vrT l bx yy (vrT l ax ay s1))).1))) stcT_choice rfl s709 B697) (res_tmp (v := iv 0) rfl s710) ⟨(fun i => (onB p) i ∨ ((onB g2) i)), (by rw [hR] <;> rfl), K705, ⟨B711, gr712⟩⟩
     ·skip
      refine wq_skip (then_normal (wq_seq (wq_seq ?_)))
      first | (rw [stV_no (has := nextB m) (by assumption)] at h1; replace h1 := h1.trans (by unfold rd3; exact if_pos rfl); (try dsimp only at h1)) | (have hv2 : vrE l bx yy (vrT l ax ay s1) = 0 := (by first | assumption | (apply Decidable.byContradiction; assumption)); replace h1 := h1.trans (by unfold rd3; exact if_pos hv2); (try dsimp only at h1); rw [← vrT_ok hv2] at h1) | (have hv2 : vrE l bx yy s1 = 0 := (by first | assumption | (apply Decidable.byContradiction; assumption)); replace h1 := h1.trans (by unfold rd3; exact if_pos hv2); (try dsimp only at h1); rw [← vrT_ok hv2] at h1)
      refine wq_region (wl_call (R := fun v_ w_ => ∃ (T720 : Nat → Prop), .tuple #[blkV ((scanRd l (vrT l ax ay s1)).1), iv ((scanRd l (vrT l ax ay s1)).2.1)] = v_ ∧ Kept T325 w338 w_ ∧ (Rdx w_ T720 p66 l (rdSt l (vrT l ax ay s1)) ([(p, st)]) ∧ Grew w338 T325 T720)) rfl rfl (y_cs rfl rfl rfl (fun _ _ => by kernel_rfl) (ev_func _) (vsC s438 vsN) (scan_readX p66 l (vrT l ax ay s1) ([(p, st)]) T325 _ (hO.but K345 (ovO hG)) (ovO (aboveN2 gr333 hG hA)) B344 ) (fun e_ w_ h_ => by obtain ⟨T720_, he_, hr_⟩ := h_; exact ⟨_, he_, T720_, rfl, hr_⟩)) ?_)
      rintro _ w718 ⟨T720, rfl, k719, ⟨B721, g722⟩⟩
      have B725 := B343.all k719 (ap336.symm p21 rfl)
      have B726 := B339.all k719 (ap337.symm p123 rfl)
      have K727 := K345.trans k719 (fun i hi x => ((Grew.ok (S := T_r) gr333 (fun _ x => x)) i hi x))
      have gr728 := gr333.trans K345 g722
      have ap731 : Apart T720 (onB p21) := ap336.grew g722 (onB_live B343.lt)
      have ap732 : Apart T720 (onB p123) := ap337.grew g722 (onB_live B339.lt)
      refine wl_v (.tuple #[blkV ((scanRd l (vrT l ax ay s1)).1), iv ((scanRd l (vrT l ax ay s1)).2.1)]) rfl rfl (y_mov rfl rfl rr) (wl_v (blkV ((scanRd l (vrT l ax ay s1)).1)) rfl rfl (y_ext rfl rfl rfl rr) (wl_v (iv ((scanRd l (vrT l ax ay s1)).2.1)) rfl rfl (y_ext rfl rfl rfl rr) (wl_v (pt p123 5) rfl rfl (y_fieldR (n := 16) rfl s439 Tryz.underlying71 rfl (by kernel_rfl) (by decide) rfl rr) (wl_setPart (us := arrL 16 ((scanRd l (vrT l ax ay s1)).1)) (ns := (chL m (vrX l ax ay s1) (vrY l ax ay s1) 0 0 ((scanRd l (vrT l ax ay s1)).1))) stcT_block rfl rfl rfl rfl rfl B726 (Nat.le_of_ble_eq_true rfl) (one_arrL _ _) rfl fun w733 B734 k735 => ?_))))
      have B738 := B725.all k735 (ap131.symm p21 rfl)
      have B739 := B721.all k735 ap732
      have K740 := K727.trans k735 (Grew.ok (S := T_r) gr128 noB_le)
      refine wl_v (iv ((scanRd l (vrT l ax ay s1)).2.1)) rfl rfl (y_asg rfl rfl rr) (wl_nil fun F741 hF742 => ?_)
      obtain ⟨s743, s747, s750, s753, s754⟩ := t5 hF742 0 s428 68 s432 8 s435 10 s438 11 s439
      have s761 : F741 14 = iv ((scanRd l (vrT l ax ay s1)).2.1) := (hF742 14).trans rfl
      clear hF742
      refine then_normal (wq_seq (wq_region (wl_mv rfl rfl rfl s761 (wl_v (.bool (decide (((scanRd l (vrT l ax ay s1)).2.1) ≠ 0))) rfl rfl (y_neqI rfl rfl rfl rfl rr) (wl_nil fun F762 hF763 => ?_)))))
      obtain ⟨s764, s768, s771, s774, s775, s782⟩ := t6 hF763 0 s743 68 s747 8 s750 10 s753 11 s754 14 s761
      have s783 : F762 61 = .bool (decide (((scanRd l (vrT l ax ay s1)).2.1) ≠ 0)) := (hF763 61).trans rfl
      clear hF763
      refine then_normal ?_
      refine wq_cond s783 (fun c784 => ?_) (fun c784 => ?_)
      ·replace c784 := of_decide_eq_true c784
       refine wq_goto (then_goto ?_)
       refine jump_goto ⟨_, rfl, ?_⟩
       refine wq_seq (wq_skip (then_normal (wq_seq ?_)))
       first | have hR := h1.trans (by unfold rd2; exact if_neg (by assumption)) | have hR := h1.trans (by unfold rd3; exact if_neg (by assumption)) | have hR := h1.trans (by unfold rd4; exact if_neg (by assumption)) | (have hRR := rdCh_no (l := l) (k := k) (ax := ax) (ay := ay) (bx := bx) (yy := yy) hm hs1 (by first | exact Or.inl (by assumption) | exact Or.inr (by assumption)); obtain ⟨s9, hR⟩ := hRR)
       have hT0 : rdChT l k ax ay bx yy st = st := by unfold rdChT; rw [hR]; exact if_neg (by first | assumption | (intro z; exact absurd (show (120 : Int) = 0 from z) (by decide)))
       obtain ⟨g2, a1, b1, a2, b2, hf2, hT2, ho1, ho2, hp2, hq2, hg2, ap1_, ap2_, ap3_⟩ := rdx_pop0 B739
       have gr785 : Grew w0 T_r (onB p) := fun i h => gr728 i ((fun i h => (hT2 i).2 (Or.inl h)) i h)
       have ap788 : Apart (onB p) (onB p21) := fun i h => ap731 i ((fun i h => (hT2 i).2 (Or.inl h)) i h)
       have gr795 : Grew w0 T_r (onB g2) := fun i h => gr728 i ((fun i h => (hT2 i).2 (Or.inr (Or.inr h))) i h)
       have ap798 : Apart (onB g2) (onB p21) := fun i h => ap731 i ((fun i h => (hT2 i).2 (Or.inr (Or.inr h))) i h)
       have ap801 : Apart (onB p) (onB g2) := ap2_
       refine wq_region (wl_v (.agg (chL 0 0 0 0 0 (fun _ => (0 : Int))).toArray) rfl rfl (y_buildL (l' := []) (cells := (chL 0 0 0 0 0 (fun _ => (0 : Int))).toArray) rfl bpN (by kernel_rfl) rfl rr) (wl_mv rfl rfl rfl s782 (wl_store_stc (us := (chL 0 0 0 0 0 (fun _ => (0 : Int)))) stcT_choice rfl rfl rfl s771 rfl B738 rfl (oneI rfl (oneI rfl (oneI rfl (oneI rfl (oneI rfl (oneI rfl (oneI rfl (oneI rfl (oneI rfl (oneI rfl (oneI rfl (oneI rfl (oneI rfl (oneI rfl (oneI rfl (oneI rfl (oneI rfl (oneI rfl (oneI rfl (oneI rfl (oneI rfl oneN))))))))))))))))))))) fun w803 B804 k805 => ?_)))
       have B809 := hp2.all k805 (ap788 p rfl)
       have B811 := hg2.all k805 ap798
       have K812 := K740.trans k805 (Grew.ok (S := T_r) gr26 noB_le)
       refine wl_v (iv ((scanRd l (vrT l ax ay s1)).2.1)) rfl rfl (y_asg rfl rfl rr) (wl_nil fun F813 hF814 => ?_)
       obtain ⟨s815, s816⟩ := t2 hF814 68 s768 8 s771
       have s817 : F813 9 = iv ((scanRd l (vrT l ax ay s1)).2.1) := (hF814 9).trans rfl
       clear hF814
       refine then_normal (wq_ret (stay_ret ?_))
       have B818 : Rdi w803 (fun i => (onB p) i ∨ ((onB g2) i)) p l (rdChT l k ax ay bx yy st) := (by rw [hT0]; first | exact rdi_close hf2 ho1 B809 B811 ap801 | exact rdi_close hf2 ho2 B809 B811 ap801)
       have gr819 : Grew w0 T_r (fun i => (onB p) i ∨ ((onB g2) i)) := fun i h => h.elim (fun y => gr785 i y) (fun y => gr795 i y)
       exact end_2 s815 rfl (res_stc (vs := (chL 0 0 0 0 0 (fun _ => (0 : Int)))) stcT_choice rfl s816 B804) (res_tmp (v := iv ((scanRd l (vrT l ax ay s1)).2.1)) rfl s817) ⟨(fun i => (onB p) i ∨ ((onB g2) i)), (by rw [hR] <;> rfl), K812, ⟨B818, gr819⟩⟩
      ·replace c784 := of_decide_eq_false c784
       refine wq_skip (then_normal (wq_seq ?_))
       have hR := h1.trans (by unfold rd4; exact if_pos (by first | assumption | (apply Decidable.byContradiction; assumption)))
       have hT0 := (show rdChT l k ax ay bx yy st = (rdCh l k ax ay bx yy st).2.2 from if_pos (by rw [hR]))
       rw [hR] at hT0
       dsimp only at hT0
       rw [← rdSt_ok (by first | assumption | (apply Decidable.byContradiction; assumption))] at hT0
       obtain ⟨g2, a1, b1, a2, b2, hf2, hT2, ho1, ho2, hp2, hq2, hg2, ap1_, ap2_, ap3_⟩ := rdx_pop0 B739
       have gr825 : Grew w0 T_r (onB p) := fun i h => gr728 i ((fun i h => (hT2 i).2 (Or.inl h)) i h)
       have ap828 : Apart (onB p) (onB p21) := fun i h => ap731 i ((fun i h => (hT2 i).2 (Or.inl h)) i h)
       have ap829 : Apart (onB p) (onB p123) := fun i h => ap732 i ((fun i h => (hT2 i).2 (Or.inl h)) i h)
       have gr835 : Grew w0 T_r (onB g2) := fun i h => gr728 i ((fun i h => (hT2 i).2 (Or.inr (Or.inr h))) i h)
       have ap838 : Apart (onB g2) (onB p21) := fun i h => ap731 i ((fun i h => (hT2 i).2 (Or.inr (Or.inr h))) i h)
       have ap841 : Apart (onB p) (onB g2) := ap2_
       refine wq_region (wl_mv rfl rfl rfl s764 (wl_v (.agg #[.slice (some ⟨g2, 0, none⟩) l.length l.length, iv ((a2 : Nat) : Int), .bool b2]) rfl rfl (y_load_stc stcT_reader rfl s774 hq2 rr) (wl_v (pt p 0) rfl rfl (y_nilc rfl rfl rr) (wl_store_stc (us := [.slice (some ⟨g2, 0, none⟩) l.length l.length, iv ((a2 : Nat) : Int), .bool b2]) stcT_reader rfl rfl rfl rfl rfl hp2 rfl (oneI rfl (oneI rfl (oneI rfl oneN))) fun w843 B844 k845 => ?_))))
       have B848 := B738.all k845 (ap828.symm p21 rfl)
       have B849 := B734.all k845 (ap829.symm p123 rfl)
       have B851 := hg2.all k845 ap841.symm
       have K852 := K740.trans k845 (Grew.ok (S := T_r) gr825 (fun _ x => x))
       refine wl_nil fun F853 hF854 => ?_
       obtain ⟨s855, s856, s857⟩ := t3 hF854 68 s768 8 s771 11 s775
       clear hF854
       refine then_normal (wq_seq (wq_seq (wq_region (wl_v (.agg (chL m (vrX l ax ay s1) (vrY l ax ay s1) 0 0 ((scanRd l (vrT l ax ay s1)).1)).toArray) rfl rfl (y_load_stc stcT_choice rfl s857 B849 rr) (wl_store_stc (us := (chL m (vrX l ax ay s1) (vrY l ax ay s1) 0 0 ((scanRd l (vrT l ax ay s1)).1))) stcT_choice rfl rfl rfl s856 rfl B848 rfl (oneI rfl (oneI rfl (oneI rfl (oneI rfl (oneI rfl (oneI rfl (oneI rfl (oneI rfl (oneI rfl (oneI rfl (oneI rfl (oneI rfl (oneI rfl (oneI rfl (oneI rfl (oneI rfl (oneI rfl (oneI rfl (oneI rfl (oneI rfl (oneI rfl oneN))))))))))))))))))))) fun w858 B859 k860 => ?_)))))
       have B864 := B844.all k860 (ap828 p rfl)
       have B866 := B851.all k860 ap838
       have K867 := K852.trans k860 (Grew.ok (S := T_r) gr26 noB_le)
       refine wl_v (iv 0) rfl rfl (y_asg rfl rfl rr) (wl_nil fun F868 hF869 => ?_)
       obtain ⟨s870, s871⟩ := t2 hF869 68 s855 8 s856
       have s872 : F868 9 = iv 0 := (hF869 9).trans rfl
       clear hF869
       refine then_normal (wq_ret (then_ret (jump_ret ?_)))
       have B873 : Rdi w858 (fun i => (onB p) i ∨ ((onB g2) i)) p l (rdChT l k ax ay bx yy st) := (by rw [hT0]; first | exact rdi_close hf2 ho1 B864 B866 ap841 | exact rdi_close hf2 ho2 B864 B866 ap841)
       have gr874 : Grew w0 T_r (fun i => (onB p) i ∨ ((onB g2) i)) := fun i h => h.elim (fun y => gr825 i y) (fun y => gr835 i y)
       exact end_2 s870 rfl (res_stc (vs := (chL m (vrX l ax ay s1) (vrY l ax ay s1) 0 0 ((scanRd l (vrT l ax ay s1)).1))) stcT_choice rfl s871 B859) (res_tmp (v := iv 0) rfl s872) ⟨(fun i => (onB p) i ∨ ((onB g2) i)), (by rw [hR] <;> rfl), K867, ⟨B873, gr874⟩⟩
   ·skip
    refine wq_skip (then_normal (wq_seq (wq_seq ?_)))
    first | (rw [stV_no (has := pastB m) (by assumption)] at h1; replace h1 := h1.trans (by unfold rd2; exact if_pos rfl); (try dsimp only at h1)) | (have hv1 : vrE l ax ay s1 = 0 := (by first | assumption | (apply Decidable.byContradiction; assumption)); replace h1 := h1.trans (by unfold rd2; exact if_pos hv1); (try dsimp only at h1); rw [← vrT_ok hv1] at h1)
    refine wq_region (wl_mv rfl rfl rfl s319 (wl_nil fun F880 hF881 => ?_))
    obtain ⟨s882, s886, s888, s889, s892, s893⟩ := t6 hF881 0 s306 68 s310 7 s312 8 s313 10 s316 11 s317
    have s898 : F880 46 = .bool (nextB m) := (hF881 46).trans rfl
    clear hF881
    refine then_normal ?_
    refine wq_cond s898 (fun c899 => ?_) (fun c899 => ?_)
    ·skip
     refine wq_seq ?_
     rw [stV_yes (has := nextB m) (by assumption)] at h1
     refine wq_region (wl_v (.agg #[iv bx, iv yy]) rfl rfl (y_load_stc stcT_vector rfl s888 B281 rr) (wl_call (R := fun v_ w_ => ∃ (T902 : Nat → Prop), .tuple #[.agg #[iv (vrX l bx yy s1), iv (vrY l bx yy s1)], iv (vrE l bx yy s1)] = v_ ∧ Kept T112 w278 w_ ∧ (Rdx w_ T902 p66 l (vrT l bx yy s1) ([(p, st)]) ∧ Grew w278 T112 T902)) rfl rfl (y_cs rfl rfl rfl (fun _ _ => by kernel_rfl) (ev_func _) (vsC s892 (vsC rfl vsN)) (vt_readX p66 l s1 ([(p, st)]) bx yy T112 _  B283 ) (fun e_ w_ h_ => by obtain ⟨T902_, he_, hr_⟩ := h_; exact ⟨_, he_, T902_, rfl, hr_⟩)) ?_))
     rintro _ w900 ⟨T902, rfl, k901, ⟨B903, g904⟩⟩
     have B907 := B282.all k901 (ap122.symm p21 rfl)
     have B908 := B284.all k901 (ap132 p123 rfl)
     have K909 := K285.trans k901 (fun i hi x => ((Grew.ok (S := T_r) gr119 (fun _ x => x)) i hi x))
     have gr910 := gr119.trans K285 g904
     have ap913 : Apart T902 (onB p21) := ap122.grew g904 (onB_live B282.lt)
     have ap914 : Apart T902 (onB p123) := (ap132.symm).grew g904 (onB_live B284.lt)
     refine wl_v (.tuple #[.agg #[iv (vrX l bx yy s1), iv (vrY l bx yy s1)], iv (vrE l bx yy s1)]) rfl rfl (y_mov rfl rfl rr) (wl_v (.agg #[iv (vrX l bx yy s1), iv (vrY l bx yy s1)]) rfl rfl (y_ext rfl rfl rfl rr) (wl_v (iv (vrE l bx yy s1)) rfl rfl (y_ext rfl rfl rfl rr) (wl_v (pt p123 3) rfl rfl (y_fieldR (n := 2) rfl s893 Tryz.underlying71 rfl (by kernel_rfl) (by decide) rfl rr) (wl_setPart (us := [iv (vrX l bx yy s1), iv (vrY l bx yy s1)]) (ns := (chL m 0 0 (vrX l bx yy s1) (vrY l bx yy s1) (fun _ => (0 : Int)))) stcT_vector rfl rfl rfl rfl rfl B908 (Nat.le_of_ble_eq_true rfl) (oneI rfl (oneI rfl oneN)) rfl fun w915 B916 k917 => ?_))))
     have B920 := B907.all k917 (ap131.symm p21 rfl)
     have B921 := B903.all k917 ap914
     have K922 := K909.trans k917 (Grew.ok (S := T_r) gr128 noB_le)
     refine wl_v (iv (vrE l bx yy s1)) rfl rfl (y_asg rfl rfl rr) (wl_nil fun F923 hF924 => ?_)
     obtain ⟨s925, s929, s932, s935, s936⟩ := t5 hF924 0 s882 68 s886 8 s889 10 s892 11 s893
     have s942 : F923 14 = iv (vrE l bx yy s1) := (hF924 14).trans rfl
     clear hF924
     refine then_normal (wq_seq (wq_region (wl_mv rfl rfl rfl s942 (wl_v (.bool (decide ((vrE l bx yy s1) ≠ 0))) rfl rfl (y_neqI rfl rfl rfl rfl rr) (wl_nil fun F943 hF944 => ?_)))))
     obtain ⟨s945, s949, s952, s955, s956, s962⟩ := t6 hF944 0 s925 68 s929 8 s932 10 s935 11 s936 14 s942
     have s963 : F943 54 = .bool (decide ((vrE l bx yy s1) ≠ 0)) := (hF944 54).trans rfl
     clear hF944
     refine then_normal ?_
     refine wq_cond s963 (fun c964 => ?_) (fun c964 => ?_)
     ·replace c964 := of_decide_eq_true c964
      refine wq_goto (then_goto ?_)
      refine jump_goto ⟨_, rfl, ?_⟩
      refine wq_seq (wq_skip (then_normal (wq_seq ?_)))
      first | have hR := h1.trans (by unfold rd2; exact if_neg (by assumption)) | have hR := h1.trans (by unfold rd3; exact if_neg (by assumption)) | have hR := h1.trans (by unfold rd4; exact if_neg (by assumption)) | (have hRR := rdCh_no (l := l) (k := k) (ax := ax) (ay := ay) (bx := bx) (yy := yy) hm hs1 (by first | exact Or.inl (by assumption) | exact Or.inr (by assumption)); obtain ⟨s9, hR⟩ := hRR)
      have hT0 : rdChT l k ax ay bx yy st = st := by unfold rdChT; rw [hR]; exact if_neg (by first | assumption | (intro z; exact absurd (show (120 : Int) = 0 from z) (by decide)))
      obtain ⟨g2, a1, b1, a2, b2, hf2, hT2, ho1, ho2, hp2, hq2, hg2, ap1_, ap2_, ap3_⟩ := rdx_pop0 B921
      have gr965 : Grew w0 T_r (onB p) := fun i h => gr910 i ((fun i h => (hT2 i).2 (Or.inl h)) i h)
      have ap968 : Apart (onB p) (onB p21) := fun i h => ap913 i ((fun i h => (hT2 i).2 (Or.inl h)) i h)
      have gr975 : Grew w0 T_r (onB g2) := fun i h => gr910 i ((fun i h => (hT2 i).2 (Or.inr (Or.inr h))) i h)
      have ap978 : Apart (onB g2) (onB p21) := fun i h => ap913 i ((fun i h => (hT2 i).2 (Or.inr (Or.inr h))) i h)
      have ap981 : Apart (onB p) (onB g2) := ap2_
      refine wq_region (wl_v (.agg (chL 0 0 0 0 0 (fun _ => (0 : Int))).toArray) rfl rfl (y_buildL (l' := []) (cells := (chL 0 0 0 0 0 (fun _ => (0 : Int))).toArray) rfl bpN (by kernel_rfl) rfl rr) (wl_mv rfl rfl rfl s962 (wl_store_stc (us := (chL 0 0 0 0 0 (fun _ => (0 : Int)))) stcT_choice rfl rfl rfl s952 rfl B920 rfl (oneI rfl (oneI rfl (oneI rfl (oneI rfl (oneI rfl (oneI rfl (oneI rfl (oneI rfl (oneI rfl (oneI rfl (oneI rfl (oneI rfl (oneI rfl (oneI rfl (oneI rfl (oneI rfl (oneI rfl (oneI rfl (oneI rfl (oneI rfl (oneI rfl oneN))))))))))))))))))))) fun w983 B984 k985 => ?_)))
      have B989 := hp2.all k985 (ap968 p rfl)
      have B991 := hg2.all k985 ap978
      have K992 := K922.trans k985 (Grew.ok (S := T_r) gr26 noB_le)
      refine wl_v (iv (vrE l bx yy s1)) rfl rfl (y_asg rfl rfl rr) (wl_nil fun F993 hF994 => ?_)
      obtain ⟨s995, s996⟩ := t2 hF994 68 s949 8 s952
      have s997 : F993 9 = iv (vrE l bx yy s1) := (hF994 9).trans rfl
      clear hF994
      refine then_normal (wq_ret (stay_ret ?_))
      have B998 : Rdi w983 (fun i => (onB p) i ∨ ((onB g2) i)) p l (rdChT l k ax ay bx yy st) := (by rw [hT0]; first | exact rdi_close hf2 ho1 B989 B991 ap981 | exact rdi_close hf2 ho2 B989 B991 ap981)
      have gr999 : Grew w0 T_r (fun i => (onB p) i ∨ ((onB g2) i)) := fun i h => h.elim (fun y => gr965 i y) (fun y => gr975 i y)
      exact end_2 s995 rfl (res_stc (vs := (chL 0 0 0 0 0 (fun _ => (0 : Int)))) stcT_choice rfl s996 B984) (res_tmp (v := iv (vrE l bx yy s1)) rfl s997) ⟨(fun i => (onB p) i ∨ ((onB g2) i)), (by rw [hR] <;> rfl), K992, ⟨B998, gr999⟩⟩
     ·replace c964 := of_decide_eq_false c964
      refine wq_skip (then_normal (wq_seq (wq_seq ?_)))
      first | (rw [stV_no (has := nextB m) (by assumption)] at h1; replace h1 := h1.trans (by unfold rd3; exact if_pos rfl); (try dsimp only at h1)) | (have hv2 : vrE l bx yy (vrT l ax ay s1) = 0 := (by first | assumption | (apply Decidable.byContradiction; assumption)); replace h1 := h1.trans (by unfold rd3; exact if_pos hv2); (try dsimp only at h1); rw [← vrT_ok hv2] at h1) | (have hv2 : vrE l bx yy s1 = 0 := (by first | assumption | (apply Decidable.byContradiction; assumption)); replace h1 := h1.trans (by unfold rd3; exact if_pos hv2); (try dsimp only at h1); rw [← vrT_ok hv2] at h1)
      refine wq_region (wl_call (R := fun v_ w_ => ∃ (T1007 : Nat → Prop), .tuple #[blkV ((scanRd l (vrT l bx yy s1)).1), iv ((scanRd l (vrT l bx yy s1)).2.1)] = v_ ∧ Kept T902 w915 w_ ∧ (Rdx w_ T1007 p66 l (rdSt l (vrT l bx yy s1)) ([(p, st)]) ∧ Grew w915 T902 T1007)) rfl rfl (y_cs rfl rfl rfl (fun _ _ => by kernel_rfl) (ev_func _) (vsC s955 vsN) (scan_readX p66 l (vrT l bx yy s1) ([(p, st)]) T902 _ (hO.but K922 (ovO hG)) (ovO (aboveN2 gr910 hG hA)) B921 ) (fun e_ w_ h_ => by obtain ⟨T1007_, he_, hr_⟩ := h_; exact ⟨_, he_, T1007_, rfl, hr_⟩)) ?_)
      rintro _ w1005 ⟨T1007, rfl, k1006, ⟨B1008, g1009⟩⟩
      have B1012 := B920.all k1006 (ap913.symm p21 rfl)
      have B1013 := B916.all k1006 (ap914.symm p123 rfl)
      have K1014 := K922.trans k1006 (fun i hi x => ((Grew.ok (S := T_r) gr910 (fun _ x => x)) i hi x))
      have gr1015 := gr910.trans K922 g1009
      have ap1018 : Apart T1007 (onB p21) := ap913.grew g1009 (onB_live B920.lt)
      have ap1019 : Apart T1007 (onB p123) := ap914.grew g1009 (onB_live B916.lt)
      refine wl_v (.tuple #[blkV ((scanRd l (vrT l bx yy s1)).1), iv ((scanRd l (vrT l bx yy s1)).2.1)]) rfl rfl (y_mov rfl rfl rr) (wl_v (blkV ((scanRd l (vrT l bx yy s1)).1)) rfl rfl (y_ext rfl rfl rfl rr) (wl_v (iv ((scanRd l (vrT l bx yy s1)).2.1)) rfl rfl (y_ext rfl rfl rfl rr) (wl_v (pt p123 5) rfl rfl (y_fieldR (n := 16) rfl s956 Tryz.underlying71 rfl (by kernel_rfl) (by decide) rfl rr) (wl_setPart (us := arrL 16 ((scanRd l (vrT l bx yy s1)).1)) (ns := (chL m 0 0 (vrX l bx yy s1) (vrY l bx yy s1) ((scanRd l (vrT l bx yy s1)).1))) stcT_block rfl rfl rfl rfl rfl B1013 (Nat.le_of_ble_eq_true rfl) (one_arrL _ _) rfl fun w1020 B1021 k1022 => ?_))))
      have B1025 := B1012.all k1022 (ap131.symm p21 rfl)
      have B1026 := B1008.all k1022 ap1019
      have K1027 := K1014.trans k1022 (Grew.ok (S := T_r) gr128 noB_le)
      refine wl_v (iv ((scanRd l (vrT l bx yy s1)).2.1)) rfl rfl (y_asg rfl rfl rr) (wl_nil fun F1028 hF1029 => ?_)
      obtain ⟨s1030, s1034, s1037, s1040, s1041⟩ := t5 hF1029 0 s945 68 s949 8 s952 10 s955 11 s956
      have s1048 : F1028 14 = iv ((scanRd l (vrT l bx yy s1)).2.1) := (hF1029 14).trans rfl
      clear hF1029
      refine then_normal (wq_seq (wq_region (wl_mv rfl rfl rfl s1048 (wl_v (.bool (decide (((scanRd l (vrT l bx yy s1)).2.1) ≠ 0))) rfl rfl (y_neqI rfl rfl rfl rfl rr) (wl_nil fun F1049 hF1050 => ?_)))))
      obtain ⟨s1051, s1055, s1058, s1061, s1062, s1069⟩ := t6 hF1050 0 s1030 68 s1034 8 s1037 10 s1040 11 s1041 14 s1048
      have s1070 : F1049 61 = .bool (decide (((scanRd l (vrT l bx yy s1)).2.1) ≠ 0)) := (hF1050 61).trans rfl
      clear hF1050
      refine then_normal ?_
      refine wq_cond s1070 (fun c1071 => ?_) (fun c1071 => ?_)
      ·replace c1071 := of_decide_eq_true c1071
       refine wq_goto (then_goto ?_)
       refine jump_goto ⟨_, rfl, ?_⟩
       refine wq_seq (wq_skip (then_normal (wq_seq ?_)))
       first | have hR := h1.trans (by unfold rd2; exact if_neg (by assumption)) | have hR := h1.trans (by unfold rd3; exact if_neg (by assumption)) | have hR := h1.trans (by unfold rd4; exact if_neg (by assumption)) | (have hRR := rdCh_no (l := l) (k := k) (ax := ax) (ay := ay) (bx := bx) (yy := yy) hm hs1 (by first | exact Or.inl (by assumption) | exact Or.inr (by assumption)); obtain ⟨s9, hR⟩ := hRR)
       have hT0 : rdChT l k ax ay bx yy st = st := by unfold rdChT; rw [hR]; exact if_neg (by first | assumption | (intro z; exact absurd (show (120 : Int) = 0 from z) (by decide)))
       obtain ⟨g2, a1, b1, a2, b2, hf2, hT2, ho1, ho2, hp2, hq2, hg2, ap1_, ap2_, ap3_⟩ := rdx_pop0 B1026
       have gr1072 : Grew w0 T_r (onB p) := fun i h => gr1015 i ((fun i h => (hT2 i).2 (Or.inl h)) i h)
       have ap1075 : Apart (onB p) (onB p21) := fun i h => ap1018 i ((fun i h => (hT2 i).2 (Or.inl h)) i h)
       have gr1082 : Grew w0 T_r (onB g2) := fun i h => gr1015 i ((fun i h => (hT2 i).2 (Or.inr (Or.inr h))) i h)
       have ap1085 : Apart (onB g2) (onB p21) := fun i h => ap1018 i ((fun i h => (hT2 i).2 (Or.inr (Or.inr h))) i h)
       have ap1088 : Apart (onB p) (onB g2) := ap2_
       refine wq_region (wl_v (.agg (chL 0 0 0 0 0 (fun _ => (0 : Int))).toArray) rfl rfl (y_buildL (l' := []) (cells := (chL 0 0 0 0 0 (fun _ => (0 : Int))).toArray) rfl bpN (by kernel_rfl) rfl rr) (wl_mv rfl rfl rfl s1069 (wl_store_stc (us := (chL 0 0 0 0 0 (fun _ => (0 : Int)))) stcT_choice rfl rfl rfl s1058 rfl B1025 rfl (oneI rfl (oneI rfl (oneI rfl (oneI rfl (oneI rfl (oneI rfl (oneI rfl (oneI rfl (oneI rfl (oneI rfl (oneI rfl (oneI rfl (oneI rfl (oneI rfl (oneI rfl (oneI rfl (oneI rfl (oneI rfl (oneI rfl (oneI rfl (oneI rfl oneN))))))))))))))))))))) fun w1090 B1091 k1092 => ?_)))
       have B1096 := hp2.all k1092 (ap1075 p rfl)
       have B1098 := hg2.all k1092 ap1085
       have K1099 := K1027.trans k1092 (Grew.ok (S := T_r) gr26 noB_le)
       refine wl_v (iv ((scanRd l (vrT l bx yy s1)).2.1)) rfl rfl (y_asg rfl rfl rr) (wl_nil fun F1100 hF1101 => ?_)
       obtain ⟨s1102, s1103⟩ := t2 hF1101 68 s1055 8 s1058
       have s1104 : F1100 9 = iv ((scanRd l (vrT l bx yy s1)).2.1) := (hF1101 9).trans rfl
       clear hF1101
       refine then_normal (wq_ret (stay_ret ?_))
       have B1105 : Rdi w1090 (fun i => (onB p) i ∨ ((onB g2) i)) p l (rdChT l k ax ay bx yy st) := (by rw [hT0]; first | exact rdi_close hf2 ho1 B1096 B1098 ap1088 | exact rdi_close hf2 ho2 B1096 B1098 ap1088)
       have gr1106 : Grew w0 T_r (fun i => (onB p) i ∨ ((onB g2) i)) := fun i h => h.elim (fun y => gr1072 i y) (fun y => gr1082 i y)
       exact end_2 s1102 rfl (res_stc (vs := (chL 0 0 0 0 0 (fun _ => (0 : Int)))) stcT_choice rfl s1103 B1091) (res_tmp (v := iv ((scanRd l (vrT l bx yy s1)).2.1)) rfl s1104) ⟨(fun i => (onB p) i ∨ ((onB g2) i)), (by rw [hR] <;> rfl), K1099, ⟨B1105, gr1106⟩⟩
      ·replace c1071 := of_decide_eq_false c1071
       refine wq_skip (then_normal (wq_seq ?_))
       have hR := h1.trans (by unfold rd4; exact if_pos (by first | assumption | (apply Decidable.byContradiction; assumption)))
       have hT0 := (show rdChT l k ax ay bx yy st = (rdCh l k ax ay bx yy st).2.2 from if_pos (by rw [hR]))
       rw [hR] at hT0
       dsimp only at hT0
       rw [← rdSt_ok (by first | assumption | (apply Decidable.byContradiction; assumption))] at hT0
       obtain ⟨g2, a1, b1, a2, b2, hf2, hT2, ho1, ho2, hp2, hq2, hg2, ap1_, ap2_, ap3_⟩ := rdx_pop0 B1026
       have gr1112 : Grew w0 T_r (onB p) := fun i h => gr1015 i ((fun i h => (hT2 i).2 (Or.inl h)) i h)
       have ap1115 : Apart (onB p) (onB p21) := fun i h => ap1018 i ((fun i h => (hT2 i).2 (Or.inl h)) i h)
       have ap1116 : Apart (onB p) (onB p123) := fun i h => ap1019 i ((fun i h => (hT2 i).2 (Or.inl h)) i h)
       have gr1122 : Grew w0 T_r (onB g2) := fun i h => gr1015 i ((fun i h => (hT2 i).2 (Or.inr (Or.inr h))) i h)
       have ap1125 : Apart (onB g2) (onB p21) := fun i h => ap1018 i ((fun i h => (hT2 i).2 (Or.inr (Or.inr h))) i h)
       have ap1128 : Apart (onB p) (onB g2) := ap2_
       refine wq_region (wl_mv rfl rfl rfl s1051 (wl_v (.agg #[.slice (some ⟨g2, 0, none⟩) l.length l.length, iv ((a2 : Nat) : Int), .bool b2]) rfl rfl (y_load_stc stcT_reader rfl s1061 hq2 rr) (wl_v (pt p 0) rfl rfl (y_nilc rfl rfl rr) (wl_store_stc (us := [.slice (some ⟨g2, 0, none⟩) l.length l.length, iv ((a2 : Nat) : Int), .bool b2]) stcT_reader rfl rfl rfl rfl rfl hp2 rfl (oneI rfl (oneI rfl (oneI rfl oneN))) fun w1130 B1131 k1132 => ?_))))
       have B1135 := B1025.all k1132 (ap1115.symm p21 rfl)
       have B1136 := B1021.all k1132 (ap1116.symm p123 rfl)
       have B1138 := hg2.all k1132 ap1128.symm
       have K1139 := K1027.trans k1132 (Grew.ok (S := T_r) gr1112 (fun _ x => x))
       refine wl_nil fun F1140 hF1141 => ?_
       obtain ⟨s1142, s1143, s1144⟩ := t3 hF1141 68 s1055 8 s1058 11 s1062
       clear hF1141
       refine then_normal (wq_seq (wq_seq (wq_region (wl_v (.agg (chL m 0 0 (vrX l bx yy s1) (vrY l bx yy s1) ((scanRd l (vrT l bx yy s1)).1)).toArray) rfl rfl (y_load_stc stcT_choice rfl s1144 B1136 rr) (wl_store_stc (us := (chL m 0 0 (vrX l bx yy s1) (vrY l bx yy s1) ((scanRd l (vrT l bx yy s1)).1))) stcT_choice rfl rfl rfl s1143 rfl B1135 rfl (oneI rfl (oneI rfl (oneI rfl (oneI rfl (oneI rfl (oneI rfl (oneI rfl (oneI rfl (oneI rfl (oneI rfl (oneI rfl (oneI rfl (oneI rfl (oneI rfl (oneI rfl (oneI rfl (oneI rfl (oneI rfl (oneI rfl (oneI rfl (oneI rfl oneN))))))))))))))))))))) fun w1145 B1146 k1147 => ?_)))))
       have B1151 := B1131.all k1147 (ap1115 p rfl)
       have B1153 := B1138.all k1147 ap1125
       have K1154 := K1139.trans k1147 (Grew.ok (S := T_r) gr26 noB_le)
       refine wl_v (iv 0) rfl rfl (y_asg rfl rfl rr) (wl_nil fun F1155 hF1156 => ?_)
       obtain ⟨s1157, s1158⟩ := t2 hF1156 68 s1142 8 s1143
       have s1159 : F1155 9 = iv 0 := (hF1156 9).trans rfl
       clear hF1156
       refine then_normal (wq_ret (then_ret (jump_ret ?_)))
       have B1160 : Rdi w1145 (fun i => (onB p) i ∨ ((onB g2) i)) p l (rdChT l k ax ay bx yy st) := (by rw [hT0]; first | exact rdi_close hf2 ho1 B1151 B1153 ap1128 | exact rdi_close hf2 ho2 B1151 B1153 ap1128)
       have gr1161 : Grew w0 T_r (fun i => (onB p) i ∨ ((onB g2) i)) := fun i h => h.elim (fun y => gr1112 i y) (fun y => gr1122 i y)
       exact end_2 s1157 rfl (res_stc (vs := (chL m 0 0 (vrX l bx yy s1) (vrY l bx yy s1) ((scanRd l (vrT l bx yy s1)).1))) stcT_choice rfl s1158 B1146) (res_tmp (v := iv 0) rfl s1159) ⟨(fun i => (onB p) i ∨ ((onB g2) i)), (by rw [hR] <;> rfl), K1154, ⟨B1160, gr1161⟩⟩
    ·skip
     refine wq_skip (then_normal (wq_seq (wq_seq ?_)))
     first | (rw [stV_no (has := nextB m) (by assumption)] at h1; replace h1 := h1.trans (by unfold rd3; exact if_pos rfl); (try dsimp only at h1)) | (have hv2 : vrE l bx yy (vrT l ax ay s1) = 0 := (by first | assumption | (apply Decidable.byContradiction; assumption)); replace h1 := h1.trans (by unfold rd3; exact if_pos hv2); (try dsimp only at h1); rw [← vrT_ok hv2] at h1) | (have hv2 : vrE l bx yy s1 = 0 := (by first | assumption | (apply Decidable.byContradiction; assumption)); replace h1 := h1.trans (by unfold rd3; exact if_pos hv2); (try dsimp only at h1); rw [← vrT_ok hv2] at h1)
     refine wq_region (wl_call (R := fun v_ w_ => ∃ (T1169 : Nat → Prop), .tuple #[blkV ((scanRd l s1).1), iv ((scanRd l s1).2.1)] = v_ ∧ Kept T112 w278 w_ ∧ (Rdx w_ T1169 p66 l (rdSt l s1) ([(p, st)]) ∧ Grew w278 T112 T1169)) rfl rfl (y_cs rfl rfl rfl (fun _ _ => by kernel_rfl) (ev_func _) (vsC s892 vsN) (scan_readX p66 l s1 ([(p, st)]) T112 _ (hO.but K285 (ovO hG)) (ovO (aboveN2 gr119 hG hA)) B283 ) (fun e_ w_ h_ => by obtain ⟨T1169_, he_, hr_⟩ := h_; exact ⟨_, he_, T1169_, rfl, hr_⟩)) ?_)
     rintro _ w1167 ⟨T1169, rfl, k1168, ⟨B1170, g1171⟩⟩
     have B1174 := B282.all k1168 (ap122.symm p21 rfl)
     have B1175 := B284.all k1168 (ap132 p123 rfl)
     have K1176 := K285.trans k1168 (fun i hi x => ((Grew.ok (S := T_r) gr119 (fun _ x => x)) i hi x))
     have gr1177 := gr119.trans K285 g1171
     have ap1180 : Apart T1169 (onB p21) := ap122.grew g1171 (onB_live B282.lt)
     have ap1181 : Apart T1169 (onB p123) := (ap132.symm).grew g1171 (onB_live B284.lt)
     refine wl_v (.tuple #[blkV ((scanRd l s1).1), iv ((scanRd l s1).2.1)]) rfl rfl (y_mov rfl rfl rr) (wl_v (blkV ((scanRd l s1).1)) rfl rfl (y_ext rfl rfl rfl rr) (wl_v (iv ((scanRd l s1).2.1)) rfl rfl (y_ext rfl rfl rfl rr) (wl_v (pt p123 5) rfl rfl (y_fieldR (n := 16) rfl s893 Tryz.underlying71 rfl (by kernel_rfl) (by decide) rfl rr) (wl_setPart (us := arrL 16 ((scanRd l s1).1)) (ns := (chL m 0 0 0 0 ((scanRd l s1).1))) stcT_block rfl rfl rfl rfl rfl B1175 (Nat.le_of_ble_eq_true rfl) (one_arrL _ _) rfl fun w1182 B1183 k1184 => ?_))))
     have B1187 := B1174.all k1184 (ap131.symm p21 rfl)
     have B1188 := B1170.all k1184 ap1181
     have K1189 := K1176.trans k1184 (Grew.ok (S := T_r) gr128 noB_le)
     refine wl_v (iv ((scanRd l s1).2.1)) rfl rfl (y_asg rfl rfl rr) (wl_nil fun F1190 hF1191 => ?_)
     obtain ⟨s1192, s1196, s1199, s1202, s1203⟩ := t5 hF1191 0 s882 68 s886 8 s889 10 s892 11 s893
     have s1209 : F1190 14 = iv ((scanRd l s1).2.1) := (hF1191 14).trans rfl
     clear hF1191
     refine then_normal (wq_seq (wq_region (wl_mv rfl rfl rfl s1209 (wl_v (.bool (decide (((scanRd l s1).2.1) ≠ 0))) rfl rfl (y_neqI rfl rfl rfl rfl rr) (wl_nil fun F1210 hF1211 => ?_)))))
     obtain ⟨s1212, s1216, s1219, s1222, s1223, s1229⟩ := t6 hF1211 0 s1192 68 s1196 8 s1199 10 s1202 11 s1203 14 s1209
     have s1230 : F1210 61 = .bool (decide (((scanRd l s1).2.1) ≠ 0)) := (hF1211 61).trans rfl
     clear hF1211
     refine then_normal ?_
     refine wq_cond s1230 (fun c1231 => ?_) (fun c1231 => ?_)
     ·replace c1231 := of_decide_eq_true c1231
      refine wq_goto (then_goto ?_)
      refine jump_goto ⟨_, rfl, ?_⟩
      refine wq_seq (wq_skip (then_normal (wq_seq ?_)))
      first | have hR := h1.trans (by unfold rd2; exact if_neg (by assumption)) | have hR := h1.trans (by unfold rd3; exact if_neg (by assumption)) | have hR := h1.trans (by unfold rd4; exact if_neg (by assumption)) | (have hRR := rdCh_no (l := l) (k := k) (ax := ax) (ay := ay) (bx := bx) (yy := yy) hm hs1 (by first | exact Or.inl (by assumption) | exact Or.inr (by assumption)); obtain ⟨s9, hR⟩ := hRR)
      have hT0 : rdChT l k ax ay bx yy st = st := by unfold rdChT; rw [hR]; exact if_neg (by first | assumption | (intro z; exact absurd (show (120 : Int) = 0 from z) (by decide)))
      obtain ⟨g2, a1, b1, a2, b2, hf2, hT2, ho1, ho2, hp2, hq2, hg2, ap1_, ap2_, ap3_⟩ := rdx_pop0 B1188
      have gr1232 : Grew w0 T_r (onB p) := fun i h => gr1177 i ((fun i h => (hT2 i).2 (Or.inl h)) i h)
      have ap1235 : Apart (onB p) (onB p21) := fun i h => ap1180 i ((fun i h => (hT2 i).2 (Or.inl h)) i h)
      have gr1242 : Grew w0 T_r (onB g2) := fun i h => gr1177 i ((fun i h => (hT2 i).2 (Or.inr (Or.inr h))) i h)
      have ap1245 : Apart (onB g2) (onB p21) := fun i h => ap1180 i ((fun i h => (hT2 i).2 (Or.inr (Or.inr h))) i h)
      have ap1248 : Apart (onB p) (onB g2) := ap2_
      refine wq_region (wl_v (.agg (chL 0 0 0 0 0 (fun _ => (0 : Int))).toArray) rfl rfl (y_buildL (l' := []) (cells := (chL 0 0 0 0 0 (fun _ => (0 : Int))).toArray) rfl bpN (by kernel_rfl) rfl rr) (wl_mv rfl rfl rfl s1229 (wl_store_stc (us := (chL 0 0 0 0 0 (fun _ => (0 : Int)))) stcT_choice rfl rfl rfl s1219 rfl B1187 rfl (oneI rfl (oneI rfl (oneI rfl (oneI rfl (oneI rfl (oneI rfl (oneI rfl (oneI rfl (oneI rfl (oneI rfl (oneI rfl (oneI rfl (oneI rfl (oneI rfl (oneI rfl (oneI rfl (oneI rfl (oneI rfl (oneI rfl (oneI rfl (oneI rfl oneN))))))))))))))))))))) fun w1250 B1251 k1252 => ?_)))
      have B1256 := hp2.all k1252 (ap1235 p rfl)
      have B1258 := hg2.all k1252 ap1245
      have K1259 := K1189.trans k1252 (Grew.ok (S := T_r) gr26 noB_le)
      refine wl_v (iv ((scanRd l s1).2.1)) rfl rfl (y_asg rfl rfl rr) (wl_nil fun F1260 hF1261 => ?_)
      obtain ⟨s1262, s1263⟩ := t2 hF1261 68 s1216 8 s1219
      have s1264 : F1260 9 = iv ((scanRd l s1).2.1) := (hF1261 9).trans rfl
      clear hF1261
      refine then_normal (wq_ret (stay_ret ?_))
      have B1265 : Rdi w1250 (fun i => (onB p) i ∨ ((onB g2) i)) p l (rdChT l k ax ay bx yy st) := (by rw [hT0]; first | exact rdi_close hf2 ho1 B1256 B1258 ap1248 | exact rdi_close hf2 ho2 B1256 B1258 ap1248)
      have gr1266 : Grew w0 T_r (fun i => (onB p) i ∨ ((onB g2) i)) := fun i h => h.elim (fun y => gr1232 i y) (fun y => gr1242 i y)
      exact end_2 s1262 rfl (res_stc (vs := (chL 0 0 0 0 0 (fun _ => (0 : Int)))) stcT_choice rfl s1263 B1251) (res_tmp (v := iv ((scanRd l s1).2.1)) rfl s1264) ⟨(fun i => (onB p) i ∨ ((onB g2) i)), (by rw [hR] <;> rfl), K1259, ⟨B1265, gr1266⟩⟩
     ·replace c1231 := of_decide_eq_false c1231
      refine wq_skip (then_normal (wq_seq ?_))
      have hR := h1.trans (by unfold rd4; exact if_pos (by first | assumption | (apply Decidable.byContradiction; assumption)))
      have hT0 := (show rdChT l k ax ay bx yy st = (rdCh l k ax ay bx yy st).2.2 from if_pos (by rw [hR]))
      rw [hR] at hT0
      dsimp only at hT0
      rw [← rdSt_ok (by first | assumption | (apply Decidable.byContradiction; assumption))] at hT0
      obtain ⟨g2, a1, b1, a2, b2, hf2, hT2, ho1, ho2, hp2, hq2, hg2, ap1_, ap2_, ap3_⟩ := rdx_pop0 B1188
      have gr1272 : Grew w0 T_r (onB p) := fun i h => gr1177 i ((fun i h => (hT2 i).2 (Or.inl h)) i h)
      have ap1275 : Apart (onB p) (onB p21) := fun i h => ap1180 i ((fun i h => (hT2 i).2 (Or.inl h)) i h)
      have ap1276 : Apart (onB p) (onB p123) := fun i h => ap1181 i ((fun i h => (hT2 i).2 (Or.inl h)) i h)
      have gr1282 : Grew w0 T_r (onB g2) := fun i h => gr1177 i ((fun i h => (hT2 i).2 (Or.inr (Or.inr h))) i h)
      have ap1285 : Apart (onB g2) (onB p21) := fun i h => ap1180 i ((fun i h => (hT2 i).2 (Or.inr (Or.inr h))) i h)
      have ap1288 : Apart (onB p) (onB g2) := ap2_
      refine wq_region (wl_mv rfl rfl rfl s1212 (wl_v (.agg #[.slice (some ⟨g2, 0, none⟩) l.length l.length, iv ((a2 : Nat) : Int), .bool b2]) rfl rfl (y_load_stc stcT_reader rfl s1222 hq2 rr) (wl_v (pt p 0) rfl rfl (y_nilc rfl rfl rr) (wl_store_stc (us := [.slice (some ⟨g2, 0, none⟩) l.length l.length, iv ((a2 : Nat) : Int), .bool b2]) stcT_reader rfl rfl rfl rfl rfl hp2 rfl (oneI rfl (oneI rfl (oneI rfl oneN))) fun w1290 B1291 k1292 => ?_))))
      have B1295 := B1187.all k1292 (ap1275.symm p21 rfl)
      have B1296 := B1183.all k1292 (ap1276.symm p123 rfl)
      have B1298 := hg2.all k1292 ap1288.symm
      have K1299 := K1189.trans k1292 (Grew.ok (S := T_r) gr1272 (fun _ x => x))
      refine wl_nil fun F1300 hF1301 => ?_
      obtain ⟨s1302, s1303, s1304⟩ := t3 hF1301 68 s1216 8 s1219 11 s1223
      clear hF1301
      refine then_normal (wq_seq (wq_seq (wq_region (wl_v (.agg (chL m 0 0 0 0 ((scanRd l s1).1)).toArray) rfl rfl (y_load_stc stcT_choice rfl s1304 B1296 rr) (wl_store_stc (us := (chL m 0 0 0 0 ((scanRd l s1).1))) stcT_choice rfl rfl rfl s1303 rfl B1295 rfl (oneI rfl (oneI rfl (oneI rfl (oneI rfl (oneI rfl (oneI rfl (oneI rfl (oneI rfl (oneI rfl (oneI rfl (oneI rfl (oneI rfl (oneI rfl (oneI rfl (oneI rfl (oneI rfl (oneI rfl (oneI rfl (oneI rfl (oneI rfl (oneI rfl oneN))))))))))))))))))))) fun w1305 B1306 k1307 => ?_)))))
      have B1311 := B1291.all k1307 (ap1275 p rfl)
      have B1313 := B1298.all k1307 ap1285
      have K1314 := K1299.trans k1307 (Grew.ok (S := T_r) gr26 noB_le)
      refine wl_v (iv 0) rfl rfl (y_asg rfl rfl rr) (wl_nil fun F1315 hF1316 => ?_)
      obtain ⟨s1317, s1318⟩ := t2 hF1316 68 s1302 8 s1303
      have s1319 : F1315 9 = iv 0 := (hF1316 9).trans rfl
      clear hF1316
      refine then_normal (wq_ret (then_ret (jump_ret ?_)))
      have B1320 : Rdi w1305 (fun i => (onB p) i ∨ ((onB g2) i)) p l (rdChT l k ax ay bx yy st) := (by rw [hT0]; first | exact rdi_close hf2 ho1 B1311 B1313 ap1288 | exact rdi_close hf2 ho2 B1311 B1313 ap1288)
      have gr1321 : Grew w0 T_r (fun i => (onB p) i ∨ ((onB g2) i)) := fun i h => h.elim (fun y => gr1272 i y) (fun y => gr1282 i y)
      exact end_2 s1317 rfl (res_stc (vs := (chL m 0 0 0 0 ((scanRd l s1).1))) stcT_choice rfl s1318 B1306) (res_tmp (v := iv 0) rfl s1319) ⟨(fun i => (onB p) i ∨ ((onB g2) i)), (by rw [hR] <;> rfl), K1314, ⟨B1320, gr1321⟩⟩
  ·skip
   refine wq_region (wl_call (R := fun v_ w_ => v_ = .bool false ∧ Kept (fun _ => False) w161 w_) rfl rfl (y_cs rfl rfl rfl (fun _ _ => by kernel_rfl) (ev_func _) (vsC s197 vsN) (t_lostX p66 l s1 ([(p, st)]) T112 _  B166 ) (fun e_ w_ h_ => ⟨_, h_.1, (congrArg Value.bool d202), h_.2⟩)) ?_)
   rintro _ w1327 ⟨rfl, k1328⟩
   have B1331 := B165.all k1328 id
   have B1332 := B166.all k1328 Apart.none
   have B1333 := B167.all k1328 id
   have K1334 := K168.tr k1328
   refine wl_v (.bool false) rfl rfl (y_mov rfl rfl rr) (wl_vw (iv k) 1 false 30 rfl rfl rfl rfl rfl (y_mov rfl s188 rr) (wl_vw (pt p123 0) 1 false 30 rfl rfl rfl rfl rfl (y_fieldR (n := 1) rfl s198 Tryz.underlying71 rfl (by kernel_rfl) (by decide) rfl rr) (wl_vw (iv m) 1 false 30 rfl rfl rfl rfl rfl (y_ld_stc rfl rfl Tryz.underlying3 B1333 rfl rfl rr) (wl_callw (R := fun v_ w_ => v_ = .bool false ∧ Kept (fun _ => False) w1327 w_) 1 false 30 rfl rfl rfl rfl rfl (y_cs rfl rfl rfl (fun _ _ => by kernel_rfl) (ev_func _) (vsC rfl (vsC rfl vsN)) (bl_has k m  _ (hA.but K1334 hG)  ) (fun e_ w_ h_ => ⟨_, h_.1, (congrArg Value.bool (decide_eq_false d269)), h_.2⟩)) ?_))))
   rintro _ w1335 ⟨rfl, k1336⟩
   have B1339 := B1331.all k1336 id
   have B1340 := B1332.all k1336 Apart.none
   have K1342 := K1334.tr k1336
   refine wl_vw (.bool true) 1 false 30 rfl rfl rfl rfl rfl (y_not rfl rfl rfl rr) (wl_v (.bool true) rfl rfl (y_pickF rfl rfl rfl rr) (wl_nil fun F1343 hF1344 => ?_))
   obtain ⟨s1349, s1352, s1359⟩ := t3 hF1344 68 s191 8 s194 14 s201
   have s1360 : F1343 36 = .bool true := (hF1344 36).trans rfl
   clear hF1344
   refine then_normal ?_
   refine wq_cond (t := true) s1360 (fun _ => ?_) (fun e => by cases e)
   refine wq_goto (then_goto ?_)
   refine jump_goto ⟨_, rfl, ?_⟩
   refine wq_seq (wq_skip (then_normal (wq_seq ?_)))
   first | have hR := h1.trans (by unfold rd2; exact if_neg (by assumption)) | have hR := h1.trans (by unfold rd3; exact if_neg (by assumption)) | have hR := h1.trans (by unfold rd4; exact if_neg (by assumption)) | (have hRR := rdCh_no (l := l) (k := k) (ax := ax) (ay := ay) (bx := bx) (yy := yy) hm hs1 (by first | exact Or.inl (by assumption) | exact Or.inr (by assumption)); obtain ⟨s9, hR⟩ := hRR)
   have hT0 : rdChT l k ax ay bx yy st = st := by unfold rdChT; rw [hR]; exact if_neg (by first | assumption | (intro z; exact absurd (show (120 : Int) = 0 from z) (by decide)))
   obtain ⟨g2, a1, b1, a2, b2, hf2, hT2, ho1, ho2, hp2, hq2, hg2, ap1_, ap2_, ap3_⟩ := rdx_pop0 B1340
   have gr1361 : Grew w0 T_r (onB p) := fun i h => gr119 i ((fun i h => (hT2 i).2 (Or.inl h)) i h)
   have ap1364 : Apart (onB p) (onB p21) := fun i h => ap122 i ((fun i h => (hT2 i).2 (Or.inl h)) i h)
   have gr1371 : Grew w0 T_r (onB g2) := fun i h => gr119 i ((fun i h => (hT2 i).2 (Or.inr (Or.inr h))) i h)
   have ap1374 : Apart (onB g2) (onB p21) := fun i h => ap122 i ((fun i h => (hT2 i).2 (Or.inr (Or.inr h))) i h)
   have ap1377 : Apart (onB p) (onB g2) := ap2_
   refine wq_region (wl_v (.agg (chL 0 0 0 0 0 (fun _ => (0 : Int))).toArray) rfl rfl (y_buildL (l' := []) (cells := (chL 0 0 0 0 0 (fun _ => (0 : Int))).toArray) rfl bpN (by kernel_rfl) rfl rr) (wl_mv rfl rfl rfl s1359 (wl_store_stc (us := (chL 0 0 0 0 0 (fun _ => (0 : Int)))) stcT_choice rfl rfl rfl s1352 rfl B1339 rfl (oneI rfl (oneI rfl (oneI rfl (oneI rfl (oneI rfl (oneI rfl (oneI rfl (oneI rfl (oneI rfl (oneI rfl (oneI rfl (oneI rfl (oneI rfl (oneI rfl (oneI rfl (oneI rfl (oneI rfl (oneI rfl (oneI rfl (oneI rfl (oneI rfl oneN))))))))))))))))))))) fun w1379 B1380 k1381 => ?_)))
   have B1385 := hp2.all k1381 (ap1364 p rfl)
   have B1387 := hg2.all k1381 ap1374
   have K1388 := K1342.trans k1381 (Grew.ok (S := T_r) gr26 noB_le)
   refine wl_v (iv 120) rfl rfl (y_asg rfl rfl rr) (wl_nil fun F1389 hF1390 => ?_)
   obtain ⟨s1391, s1392⟩ := t2 hF1390 68 s1349 8 s1352
   have s1393 : F1389 9 = iv 120 := (hF1390 9).trans rfl
   clear hF1390
   refine then_normal (wq_ret (stay_ret ?_))
   have B1394 : Rdi w1379 (fun i => (onB p) i ∨ ((onB g2) i)) p l (rdChT l k ax ay bx yy st) := (by rw [hT0]; first | exact rdi_close hf2 ho1 B1385 B1387 ap1377 | exact rdi_close hf2 ho2 B1385 B1387 ap1377)
   have gr1395 : Grew w0 T_r (fun i => (onB p) i ∨ ((onB g2) i)) := fun i h => h.elim (fun y => gr1361 i y) (fun y => gr1371 i y)
   exact end_2 s1391 rfl (res_stc (vs := (chL 0 0 0 0 0 (fun _ => (0 : Int)))) stcT_choice rfl s1392 B1380) (res_tmp (v := iv 120) rfl s1393) ⟨(fun i => (onB p) i ∨ ((onB g2) i)), (by rw [hR] <;> rfl), K1388, ⟨B1394, gr1395⟩⟩
end Go.Proofs.YtknjpdcpmpfklaaGreatDoor
set_option maxRecDepth 100000
namespace Go.Proofs.YtknjpdcpmpfklaaGreatDoor
open Go.ChangeShapes Go.WideShapes Go.ChangeAt Go.RowKit Go.Deep
def laysB : List (String × DataW Unit) := [("clapboard/quant.steps", Rows.laid_clapboard_quant_steps), ("clapboard/scan.order", Rows.laid_clapboard_scan_order), ("clapboard/wave.waves", Rows.laid_clapboard_wave_waves), ("clapboard/block.acts", Rows.laid_clapboard_block_acts)]
theorem Tryz.gActs : Tryz.prog.globalNamed "clapboard/block.acts" = some 1 := by kernel_rfl
theorem Tryz.tActs : (Tryz.prog.globals[1]?).map (·.type) = some 165 := by kernel_rfl
theorem Tryz.c21a : Tryz.prog.cellsOf 165 = 21 := by kernel_rfl
theorem Tryz.c3a : Tryz.prog.cellsOf 164 = 3 := by kernel_rfl
theorem Tryz.c1b : Tryz.prog.cellsOf 4 = 1 := by kernel_rfl
theorem laysB_met (os : Os) (args : Array Value) : laidMetH Tryz.prog laysB ((World.doorLaid Tryz.prog 400 os).forCall (fun _ _ => 0) ⟨#[], args, []⟩).memory :=
  laidMetH_of_parts3 (fuel := 8) (laidMet_of_run' 8 (by kernel_rfl) (by kernel_rfl)) (by kernel_rfl) (by kernel_rfl)
def actD {H : Type} (q : Int × Bool × Bool) : DataW H := .agg [.lit (.int .i64 q.1), .lit (.bool q.2.1), .lit (.bool q.2.2)]
def actQ : List (Int × Bool × Bool) := [(0, false, false), (0, false, false), (0, false, false), (0, false, false), (1, true, false), (2, false, true), (2, true, true)]
theorem acts_rows {W : World} {f : Nat} {l : List (Int × Bool × Bool)} {cs : List Value} {p : List MemPlace}
    (hd : DataW.trod (fun _ => ()) Tryz.prog W 0 (fun _ => true) false f 165 cs = some (.agg (l.map actD), p)) : cs.length = 21 ∧ ∀ u, u < 7 → ∃ q, l[u]? = some q ∧ cs[u * 3]? = some (.int .i64 q.1) ∧ cs[u * 3 + 1]? = some (.bool q.2.1) ∧ cs[u * 3 + 2]? = some (.bool q.2.2) := by
  obtain ⟨xs, k, rfl, hx, hl, hn, hel⟩ := DataW.trod_array Tryz.underlying165 hd
  rw [Tryz.c21a] at hl
  refine ⟨hl, fun u hu => ?_⟩
  simp only [Prod.mk.injEq, DataW.agg.injEq] at hx
  have h1 := hel u hu
  rw [Tryz.c3a, List.getElem?_eq_getElem (by omega)] at h1
  have e1 : (xs.map (·.1))[u]? = some xs[u].1 := by rw [List.getElem?_map, List.getElem?_eq_getElem (by omega)]; rfl
  rw [← hx.1, List.getElem?_map] at e1
  cases hq : l[u]? with
  | none => rw [hq] at e1; cases e1
  | some y =>
    rw [hq] at e1
    simp only [Option.map_some, Option.some.injEq] at e1
    obtain ⟨y0, y1, y2, n, hagg, hsz, h2, h3, h4⟩ := trod_struct3 Tryz.underlying164 h1
    simp only [Tryz.c1, Tryz.c1b] at h2 h3 h4
    obtain ⟨z0, hz0, hd0, _⟩ := DataW.trod_int Tryz.underlying3 h2
    obtain ⟨b1, hz1, hd1⟩ := DataW.trod_bool Tryz.underlying4 h3
    obtain ⟨b2, hz2, hd2⟩ := DataW.trod_bool Tryz.underlying4 h4
    rw [hagg] at e1
    simp only [actD, DataW.agg.injEq, List.cons.injEq, and_true] at e1
    rw [hd0, hd1, hd2] at e1
    simp only [DataW.lit.injEq, Lit.int.injEq, Lit.bool.injEq, true_and] at e1
    obtain ⟨r0, r1, r2⟩ := e1
    have g0 := congrArg (·[0]?) hz0
    have g1 := congrArg (·[0]?) hz1
    have g2 := congrArg (·[0]?) hz2
    refine ⟨y, rfl, ?_, ?_, ?_⟩
    · rw [r0]; simpa [List.getElem?_take, List.getElem?_drop] using g0
    · rw [r1]; simpa [List.getElem?_take, List.getElem?_drop] using g1
    · rw [r2]; simpa [List.getElem?_take, List.getElem?_drop] using g2
theorem acts_at {W : World} {f : Nat} {cs : Array Value} {p : List MemPlace} (hv : World.var? Tryz.prog W "clapboard/block.acts" = some cs)
    (hd : DataW.trod (fun _ => ()) Tryz.prog W 0 (fun _ => true) false f 165 cs.toList = some (Rows.laid_clapboard_block_acts, p)) (hs : 5 ≤ W.heap.size) : ActsIn W := by
  have key := (acts_rows (l := actQ) hd).2
  refine ⟨hs, fun i hi => ?_⟩
  rw [World.var?_cell Tryz.gActs hv i, show cs[i]? = cs.toList[i]? by simp]
  obtain ⟨q, hq, k0, k1, k2⟩ := key (i / 3) (by omega)
  have hc : i / 3 < 7 ∧ (i = i / 3 * 3 ∨ i = i / 3 * 3 + 1 ∨ i = i / 3 * 3 + 2) := by omega
  generalize i / 3 = u at *
  obtain ⟨hu, hi3⟩ := hc
  have hu7 : u = 0 ∨ u = 1 ∨ u = 2 ∨ u = 3 ∨ u = 4 ∨ u = 5 ∨ u = 6 := by omega
  rcases hu7 with rfl | rfl | rfl | rfl | rfl | rfl | rfl <;> obtain rfl := Option.some.inj hq <;> rcases hi3 with rfl | rfl | rfl <;> first | exact k0.trans rfl | exact k1.trans rfl | exact k2.trans rfl
theorem all_of {W : World} (h : laidMetH Tryz.prog laysB W) : StepsAt W ∧ ScanIn W ∧ Waves W ∧ ActsIn W := by
  rw [MakeChecks.laidMetH_plain _ _ _ (by kernel_rfl)] at h
  obtain ⟨ps, ⟨g0, t0, cs0, f0, p0, q0, hg0, ht0, hv0, hd0, ⟨g1, t1, cs1, f1, p1, q1, hg1, ht1, hv1, hd1, ⟨g2, t2, cs2, f2, p2, q2, hg2, ht2, hv2, hd2, ⟨g3, t3, cs3, f3, p3, q3, hg3, ht3, hv3, hd3, _, _⟩, _⟩, _⟩, _⟩, _, _⟩ := h
  obtain rfl := Option.some.inj (Tryz.gSteps.symm.trans hg0)
  obtain rfl := Option.some.inj (Tryz.tSteps.symm.trans ht0)
  obtain rfl := Option.some.inj (Tryz.gOrder.symm.trans hg1)
  obtain rfl := Option.some.inj (Tryz.tOrder.symm.trans ht1)
  obtain rfl := Option.some.inj (Tryz.gWaves.symm.trans hg2)
  obtain rfl := Option.some.inj (Tryz.tWaves.symm.trans ht2)
  obtain rfl := Option.some.inj (Tryz.gActs.symm.trans hg3)
  obtain rfl := Option.some.inj (Tryz.tActs.symm.trans ht3)
  have h0 := steps_at hv0 hd0
  have h1 := order_at hv1 hd1
  have h2 := waves_at hv2 hd2
  obtain ⟨t4, f4, h4⟩ := var_block Tryz.gActs hv3
  have s0 := h0.1
  have s1 := h1.pos
  have s2 := h2.1
  have s3 := lt_of_heap h4
  exact ⟨h0, h1, h2, acts_at hv3 hd3 (by omega)⟩
end Go.Proofs.YtknjpdcpmpfklaaGreatDoor
set_option maxRecDepth 100000
namespace Go.Proofs.YtknjpdcpmpfklaaGreatDoor
def sideOk (n : Int) : Prop := 8 ≤ n ∧ n ≤ 64 ∧ n % 8 = 0
instance (n : Int) : Decidable (sideOk n) := by unfold sideOk; infer_instance
def seqOk (W H R B : Int) : Prop := sideOk W ∧ sideOk H ∧ 1 ≤ R ∧ R ≤ 16777216 ∧ R ≤ B ∧ B ≤ 1073741824
instance (W H R B : Int) : Decidable (seqOk W H R B) := by unfold seqOk; infer_instance
def headOk (K Q D F : Int) : Prop := 0 ≤ K ∧ K ≤ 2 ∧ 0 ≤ Q ∧ Q ≤ 20 ∧ 0 ≤ D ∧ D < 16777216 ∧ 0 ≤ F ∧ F ≤ 1073741824
instance (K Q D F : Int) : Decidable (headOk K Q D F) := by unfold headOk; infer_instance
def seqE (W H R B : Int) : Int := if seqOk W H R B then 0 else 110
def headE (K Q D F : Int) : Int := if headOk K Q D F then 0 else 110
def nm (a b c d : Nat) : Int := (a : Int) * 16777216 + (b : Int) * 65536 + (c : Int) * 256 + (d : Int)
def nmAt (l : List Nat) (i : Nat) : Int := nm (l.getD i 0) (l.getD (i + 1) 0) (l.getD (i + 2) 0) (l.getD (i + 3) 0)
def nm0 (l : List Nat) : Int := (l.getD 0 0 : Nat)
def nm1 (l : List Nat) : Int := (l.getD 1 0 : Nat)
def nm2 (l : List Nat) : Int := nmAt l 2
def nm3 (l : List Nat) : Int := nmAt l 6
def odOk (l : List Nat) : Prop := l.length = 10 ∧ seqOk (nm0 l) (nm1 l) (nm2 l) (nm3 l)
instance (l : List Nat) : Decidable (odOk l) := by unfold odOk; infer_instance
def rdOkH (l : List Nat) : Prop := 10 ≤ l.length ∧ headOk (nm0 l) (nm1 l) (nm2 l) (nm3 l)
instance (l : List Nat) : Decidable (rdOkH l) := by unfold rdOkH; infer_instance
end Go.Proofs.YtknjpdcpmpfklaaGreatDoor
set_option maxRecDepth 100000
namespace Go.Proofs.YtknjpdcpmpfklaaGreatDoor
abbrev chZ : Ch := ⟨0, 0, 0, 0, 0, fun _ => 0⟩
def pX (w i : Nat) : Int := ((i % w : Nat) : Int)
def pY (w i : Nat) : Int := ((i / w : Nat) : Int)
structure PSt where
  a : VF
  b : VF
  s : Option Nat
def chAt (l : List Nat) (k : Int) (w i : Nat) (t : PSt) : Ch × Int × Option Nat := rdCh l k (gX t.a (pX w i) (pY w i)) (gY t.a (pX w i) (pY w i)) (gX t.b (pX w i) (pY w i)) (gY t.b (pX w i) (pY w i)) t.s
def stAt (l : List Nat) (k : Int) (w i : Nat) (t : PSt) : PSt := ⟨setV t.a (pX w i) (pY w i) (chAt l k w i t).1.px (chAt l k w i t).1.py, setV t.b (pX w i) (pY w i) (chAt l k w i t).1.nx (chAt l k w i t).1.ny, (chAt l k w i t).2.2⟩
def runP (l : List Nat) (k : Int) (w : Nat) : Nat → Nat → PSt → List Ch → List Ch × Int × Option Nat
  | 0, _, t, o => (o, 0, t.s)
  | m + 1, i, t, o => if (chAt l k w i t).2.1 = 0 then runP l k w m (i + 1) (stAt l k w i t) (o ++ [(chAt l k w i t).1]) else ([], (chAt l k w i t).2.1, t.s)
theorem runP_yes {l : List Nat} {k : Int} {w m i : Nat} {t : PSt} {o : List Ch} (h : (chAt l k w i t).2.1 = 0) : runP l k w (m + 1) i t o = runP l k w m (i + 1) (stAt l k w i t) (o ++ [(chAt l k w i t).1]) := if_pos h
theorem runP_no {l : List Nat} {k : Int} {w m i : Nat} {t : PSt} {o : List Ch} (h : (chAt l k w i t).2.1 ≠ 0) : runP l k w (m + 1) i t o = ([], (chAt l k w i t).2.1, t.s) := if_neg h
def plN (W : Int) (p : Nat) : Nat := if p = 0 then (W / 4).toNat else (W / 8).toNat
def planeP (l : List Nat) (k W H : Int) (p : Nat) (s : Option Nat) (o : List Ch) : List Ch × Int × Option Nat :=
  runP l k (plN W p) (plN W p * plN H p) 0 ⟨newV (plN W p) (plN H p), newV (plN W p) (plN H p), s⟩ o
def plTo (l : List Nat) (k W H : Int) : Nat → List Ch × Int × Option Nat
  | 0 => ([], 0, some 0)
  | p + 1 => if (plTo l k W H p).2.1 = 0 then planeP l k W H p (plTo l k W H p).2.2 (plTo l k W H p).1 else plTo l k W H p
theorem plTo_yes {l : List Nat} {k W H : Int} {p : Nat} (h : (plTo l k W H p).2.1 = 0) : plTo l k W H (p + 1) = planeP l k W H p (plTo l k W H p).2.2 (plTo l k W H p).1 := if_pos h
theorem plTo_no {l : List Nat} {k W H : Int} {p : Nat} (h : (plTo l k W H p).2.1 ≠ 0) : plTo l k W H (p + 1) = plTo l k W H p := if_neg h
def chsP (l : List Nat) (k W H : Int) : List Ch × Int :=
  if (plTo l k W H 3).2.1 = 0 then (if doneOf l (plTo l k W H 3).2.2 = 0 then ((plTo l k W H 3).1, 0) else ([], 130)) else ([], (plTo l k W H 3).2.1)
def mayP (W H R B K Q D F : Int) : Prop := seqOk W H R B ∧ headOk K Q D F
instance (W H R B K Q D F : Int) : Decidable (mayP W H R B K Q D F) := by unfold mayP; infer_instance
def chsE (l : List Nat) (W H R B K Q D F : Int) : List Ch × Int := if mayP W H R B K Q D F then chsP l K W H else ([], 110)
theorem chsE_no {l : List Nat} {W H R B K Q D F : Int} (h : ¬ mayP W H R B K Q D F) : chsE l W H R B K Q D F = ([], 110) := if_neg h
theorem chsE_yes {l : List Nat} {W H R B K Q D F : Int} (h : mayP W H R B K Q D F) : chsE l W H R B K Q D F = chsP l K W H := if_pos h
theorem chsP_bad {l : List Nat} {k W H : Int} {p : Nat} (hp : p ≤ 3) (h : (plTo l k W H p).2.1 ≠ 0) : chsP l k W H = ([], (plTo l k W H p).2.1) := by
  have e : ∀ q, (plTo l k W H p).2.1 = (plTo l k W H (p + q)).2.1 := by
    intro q
    induction q with
    | zero => rfl
    | succ q ih => rw [← Nat.add_assoc, plTo_no (by rw [← ih]; exact h)]; exact ih
  have e3 := e (3 - p)
  rw [show p + (3 - p) = 3 by omega] at e3
  unfold chsP; rw [if_neg (by rw [← e3]; exact h), ← e3]
theorem chsP_open {l : List Nat} {k W H : Int} (h : (plTo l k W H 3).2.1 = 0) (h2 : doneOf l (plTo l k W H 3).2.2 ≠ 0) : chsP l k W H = ([], 130) := by unfold chsP; rw [if_pos h, if_neg h2]
theorem chsP_ok {l : List Nat} {k W H : Int} (h : (plTo l k W H 3).2.1 = 0) (h2 : doneOf l (plTo l k W H 3).2.2 = 0) : chsP l k W H = ((plTo l k W H 3).1, 0) := by unfold chsP; rw [if_pos h, if_pos h2]
def fitsP (W H R B : Int) (f : FD) : Prop := seqOk W H R B ∧ okF f ∧ W = f.W ∧ H = f.H
instance (W H R B : Int) (f : FD) : Decidable (fitsP W H R B f) := by unfold fitsP; infer_instance
def decB (g h : FD) (q p : Int) (w i : Nat) (c : Ch) (F : FD) : FD := putFr F p (4 * pX w i) (4 * pY w i) (buB (cpB F g h p (4 * pX w i) (4 * pY w i) c) c.b q)
def decTo (g h : FD) (q p : Int) (w : Nat) (L : List Ch) (a : Nat) (F : FD) : Nat → FD
  | 0 => F
  | i + 1 => decB g h q p w i (L.getD (a + i) chZ) (decTo g h q p w L a F i)
def plOff (W H : Int) : Nat → Nat
  | 0 => 0
  | p + 1 => plOff W H p + plN W p * plN H p
def frTo (g h : FD) (q W H : Int) (L : List Ch) : Nat → FD
  | 0 => newF W H 0
  | p + 1 => decTo g h q p (plN W p) L (plOff W H p) (frTo g h q W H L p) (plN W p * plN H p)
def decE (l : List Nat) (W H R B K Q D F : Int) (g h : FD) : Int := if mayP W H R B K Q D F then (if (K ≠ 0 ∧ ¬ fitsP W H R B g) ∨ (K = 2 ∧ ¬ fitsP W H R B h) then 130 else (chsP l K W H).2) else 110
def decF (l : List Nat) (W H R B K Q D F : Int) (g h : FD) : FD := if decE l W H R B K Q D F g h = 0 then frTo g h Q W H (chsP l K W H).1 3 else FD.none
theorem decE_may {l : List Nat} {W H R B K Q D F : Int} {g h : FD} (hn : ¬ mayP W H R B K Q D F) : decE l W H R B K Q D F g h = 110 := if_neg hn
theorem decE_fit {l : List Nat} {W H R B K Q D F : Int} {g h : FD} (hm : mayP W H R B K Q D F) (hn : (K ≠ 0 ∧ ¬ fitsP W H R B g) ∨ (K = 2 ∧ ¬ fitsP W H R B h)) : decE l W H R B K Q D F g h = 130 := by unfold decE; rw [if_pos hm, if_pos hn]
theorem decE_chs {l : List Nat} {W H R B K Q D F : Int} {g h : FD} (hm : mayP W H R B K Q D F) (hn : ¬ ((K ≠ 0 ∧ ¬ fitsP W H R B g) ∨ (K = 2 ∧ ¬ fitsP W H R B h))) : decE l W H R B K Q D F g h = (chsP l K W H).2 := by unfold decE; rw [if_pos hm, if_neg hn]
theorem decF_no {l : List Nat} {W H R B K Q D F : Int} {g h : FD} (hn : decE l W H R B K Q D F g h ≠ 0) : decF l W H R B K Q D F g h = FD.none := if_neg hn
theorem decF_yes {l : List Nat} {W H R B K Q D F : Int} {g h : FD} (hn : decE l W H R B K Q D F g h = 0) : decF l W H R B K Q D F g h = frTo g h Q W H (chsP l K W H).1 3 := if_pos hn
theorem runP_len {l : List Nat} {k : Int} {w : Nat} : ∀ (m i : Nat) (t : PSt) (o : List Ch), (runP l k w m i t o).2.1 = 0 → (runP l k w m i t o).1.length = o.length + m := by
  intro m
  induction m with
  | zero => intro i t o _; rfl
  | succ m ih =>
    intro i t o h
    by_cases hc : (chAt l k w i t).2.1 = 0
    · rw [runP_yes hc] at h ⊢
      rw [ih _ _ _ h, List.length_append]; simp; omega
    · rw [runP_no hc] at h; exact absurd h hc
theorem plTo_len {l : List Nat} {k W H : Int} : ∀ p, (plTo l k W H p).2.1 = 0 → (plTo l k W H p).1.length = plOff W H p := by
  intro p
  induction p with
  | zero => intro _; rfl
  | succ p ih =>
    intro h
    by_cases hc : (plTo l k W H p).2.1 = 0
    · rw [plTo_yes hc] at h ⊢
      unfold planeP at h ⊢
      rw [runP_len _ _ _ _ h, ih hc]; rfl
    · rw [plTo_no hc] at h; exact absurd h hc
theorem plN_4 {W : Int} (h : sideOk W) : ((plN W 0 : Nat) : Int) = W / 4 ∧ ((plN W 1 : Nat) : Int) = W / 8 ∧ ((plN W 2 : Nat) : Int) = W / 8 ∧ 2 ≤ plN W 0 ∧ plN W 0 ≤ 16 ∧ 1 ≤ plN W 1 ∧ plN W 1 ≤ 8 ∧ plN W 2 = plN W 1 ∧ plN W 0 = 2 * plN W 1 := by
  unfold sideOk at h
  have e0 : plN W 0 = (W / 4).toNat := rfl
  have e1 : plN W 1 = (W / 8).toNat := rfl
  have e2 : plN W 2 = (W / 8).toNat := rfl
  rw [e0, e1, e2]; omega
end Go.Proofs.YtknjpdcpmpfklaaGreatDoor
set_option maxRecDepth 100000
namespace Go.Proofs.YtknjpdcpmpfklaaGreatDoor
theorem size_pl {f : FD} (h : okF f) {p : Nat} (hp : p < 3) : sizeF f (p : Int) = (((4 * plN f.W p : Nat) : Int), ((4 * plN f.H p : Nat) : Int)) := by
  have hW := (sideB_iff _).1 h.1
  have hH := (sideB_iff _).1 h.2.1
  by_cases h0 : p = 0
  · subst h0
    rw [sizeF_first h (by rfl)]
    have e1 : plN f.W 0 = (f.W / 4).toNat := rfl
    have e2 : plN f.H 0 = (f.H / 4).toNat := rfl
    rw [e1, e2]; exact Prod.ext (by simp only; omega) (by simp only; omega)
  · rw [sizeF_other h (by omega) (by omega) (by omega), tdiv2 (by omega), tdiv2 (by omega)]
    have e1 : plN f.W p = (f.W / 8).toNat := if_neg h0
    have e2 : plN f.H p = (f.H / 8).toNat := if_neg h0
    rw [e1, e2]; exact Prod.ext (by simp only; omega) (by simp only; omega)
theorem in_blk {F : FD} (hF : okF F) {p w n i : Nat} (hp : p < 3) (hw : 0 < w) (hs : sizeF F (p : Int) = (((4 * w : Nat) : Int), ((4 * n : Nat) : Int))) (hi : i < w * n) : Inside F (p : Int) (4 * pX w i) (4 * pY w i) := by
  have h1 : i % w < w := Nat.mod_lt _ hw
  have h2 : i / w < n := by rw [Nat.div_lt_iff_lt_mul hw, Nat.mul_comm]; exact hi
  refine ⟨hF, by omega, by omega, ?_, ?_, ?_, ?_⟩
  · unfold pX; omega
  · rw [hs]; simp only; unfold pX; omega
  · exact Int.mul_nonneg (by decide) (Int.natCast_nonneg _)
  · rw [hs]; simp only; unfold pY; omega
end Go.Proofs.YtknjpdcpmpfklaaGreatDoor
set_option maxRecDepth 100000
namespace Go.Proofs.YtknjpdcpmpfklaaGreatDoor
theorem fits_iff {W H R B : Int} {f : FD} : fitsP W H R B f ↔ seqE W H R B = 0 ∧ checkE f = 0 ∧ W = f.W ∧ H = f.H := by
  unfold fitsP seqE
  rw [checkE_iff]
  by_cases h : seqOk W H R B
  · rw [if_pos h]; simp [h]
  · rw [if_neg h]; simp [h]
theorem fits_none {W H R B : Int} : ¬ fitsP W H R B FD.none := fun h => absurd h.2.1 (by decide)
theorem sideB_of {n : Int} (h : sideOk n) : sideB n = true := (sideB_iff _).2 h
theorem decE_is {l : List Nat} {W H R B K Q D F : Int} {g h : FD} (h0 : decE l W H R B K Q D F g h = 0) : mayP W H R B K Q D F ∧ ¬ ((K ≠ 0 ∧ ¬ fitsP W H R B g) ∨ (K = 2 ∧ ¬ fitsP W H R B h)) ∧ (chsP l K W H).2 = 0 := by
  by_cases hm : mayP W H R B K Q D F
  · by_cases hn : (K ≠ 0 ∧ ¬ fitsP W H R B g) ∨ (K = 2 ∧ ¬ fitsP W H R B h)
    · rw [decE_fit hm hn] at h0; cases h0
    · rw [decE_chs hm hn] at h0; exact ⟨hm, hn, h0⟩
  · rw [decE_may hm] at h0; cases h0
theorem need_past {l : List Nat} {W H R B K Q D F : Int} {g h : FD} (h0 : decE l W H R B K Q D F g h = 0) : decE l W H R B K Q D F FD.none h = 0 ↔ K = 0 := by
  obtain ⟨hm, hn, hc⟩ := decE_is h0
  by_cases hK : K = 0
  · rw [decE_chs hm (by rintro (⟨a, _⟩ | ⟨a, _⟩) <;> omega), hc]; simp [hK]
  · rw [decE_fit hm (Or.inl ⟨hK, fits_none⟩)]; simp [hK]
theorem need_next {l : List Nat} {W H R B K Q D F : Int} {g h : FD} (h0 : decE l W H R B K Q D F g h = 0) : decE l W H R B K Q D F g FD.none = 0 ↔ K ≠ 2 := by
  obtain ⟨hm, hn, hc⟩ := decE_is h0
  by_cases hK : K = 2
  · rw [decE_fit hm (Or.inr ⟨hK, fits_none⟩)]; simp [hK]
  · rw [decE_chs hm (by rintro (a | ⟨a, _⟩); exact hn (Or.inl a); exact hK a), hc]; simp [hK]
def awP : List Nat := pack (List.replicate 12 true ++ endBits 12)
set_option maxRecDepth 1000000 in
theorem aw_chs : (chsP awP 0 8 8).2 = 0 ∧ (chsP awP 0 8 8).1.length = 6 := by decide +kernel
set_option maxRecDepth 1000000 in
theorem aw_dec : decE awP 8 8 100 1000 0 0 0 0 FD.none FD.none = 0 := by decide +kernel
set_option maxRecDepth 1000000 in
theorem aw_one : decE awP 8 8 100 1000 1 0 0 0 FD.none FD.none = 130 ∧ (chsP (awP ++ [0]) 0 8 8).2 = 130 := by decide +kernel
set_option maxRecDepth 1000000 in
theorem aw_fr : sameF (decF awP 8 8 100 1000 0 0 0 0 FD.none FD.none) (newF 8 8 128) = true := by decide +kernel
end Go.Proofs.YtknjpdcpmpfklaaGreatDoor
set_option maxRecDepth 100000
namespace Go.Proofs.YtknjpdcpmpfklaaGreatDoor
theorem place_blk {f : FD} (h : okF f) {p i : Nat} (hp : p < 3) (hi : i < plN f.W p * plN f.H p) (hw : 0 < plN f.W p) : placeF f (p : Int) (4 * pX (plN f.W p) i) (4 * pY (plN f.W p) i) := by
  have hI := in_blk (n := plN f.H p) h hp hw (size_pl h hp) hi
  have hs := size_pl h hp
  have hW := (sideB_iff _).1 h.1
  have hH := (sideB_iff _).1 h.2.1
  have h4 := plN_4 (W := f.W) hW
  have h4' := plN_4 (W := f.H) hH
  have x1 := hI.x1
  have y1 := hI.y1
  rw [hs] at x1 y1
  simp only at x1 y1
  have bw : plN f.W p ≤ 16 ∧ plN f.H p ≤ 16 := by
    rcases (show p = 0 ∨ p = 1 ∨ p = 2 by omega) with rfl | rfl | rfl <;> omega
  exact ⟨h, by omega, by omega, hI.x0, by omega, hI.y0, by omega⟩
theorem off_lt {W H : Int} {p i : Nat} (hp : p < 3) (hi : i < plN W p * plN H p) : plOff W H p + i < plOff W H 3 := by
  have e3 : plOff W H 3 = plOff W H 2 + plN W 2 * plN H 2 := rfl
  have e2 : plOff W H 2 = plOff W H 1 + plN W 1 * plN H 1 := rfl
  have e1 : plOff W H 1 = plOff W H 0 + plN W 0 * plN H 0 := rfl
  rcases (show p = 0 ∨ p = 1 ∨ p = 2 by omega) with rfl | rfl | rfl <;> omega
end Go.Proofs.YtknjpdcpmpfklaaGreatDoor
set_option maxRecDepth 100000
namespace Go.Proofs.YtknjpdcpmpfklaaGreatDoor
open Go.RowKit
def Pd.blk (n : Nat) (t : TypeId) (b : Nat → Int) : Pd := ⟨fun v w => ∃ p, v = .pointer (some ⟨p, 0, none⟩) ∧ n ≤ p ∧ Blk w p t b, fun _ _ _ ⟨p, e, hn, h⟩ k => ⟨p, e, hn, h.all k id⟩⟩
section
variable {P : Program} {ρ : Operand → Value} {o : Oper} {w : World} {R : Value → World → Prop}
theorem y_alloc_blkP {t : TypeId} (ho : o.op = .alloc t) (hz : ∀ w, (zeroValue t).run P w = .ok (.agg (arrL 16 (fun _ => 0)).toArray) w) (h : R (.pointer (some ⟨w.heap.size, 0, none⟩)) (w.alloc (.cells (arrL 16 (fun _ => 0)).toArray t))) : Yields P ρ o w R :=
  y_of (v := .pointer (some ⟨w.heap.size, 0, none⟩)) (w' := w.alloc (.cells (arrL 16 (fun _ => 0)).toArray t)) (by simp [execOp, ho, hz, go_sem]) h
end
end Go.Proofs.YtknjpdcpmpfklaaGreatDoor
set_option maxRecDepth 100000
namespace Go.Proofs.YtknjpdcpmpfklaaGreatDoor
open Go.RowKit
structure Thm where
  B : Value → (Nat → Prop) → World → Prop
  st : ∀ (v : Value) (w w' : World) (S T : Nat → Prop), B v T w → Kept S w w' → Apart T S → B v T w'
  li : ∀ (v : Value) (w : World) (T : Nat → Prop), B v T w → Live w T
inductive Pm where
  | eq (v : Value)
  | new (t : Thm)
def Pm.none : Pm := .eq undef
def Pm.isNew : Pm → Bool
  | .eq _ => false
  | .new _ => true
structure Eld where
  A : World → Prop
  T : Nat → Prop
  st : ∀ (w w' : World) (S : Nat → Prop), A w → Kept S w w' → Apart T S → A w'
  li : ∀ w, A w → Live w T
def usM (Uz : List (Option (Bool × Nat))) (i : Nat) : Option (Bool × Nat) := Uz.getD i none
def usedM (Uz : List (Option (Bool × Nat))) (L : Nat → Bool) (q : Bool × Nat) : Prop := ∃ i, usM Uz i = some q ∧ L i = true
structure JM (S : Nat → Prop) (w0 : World) (Gs : List Pm) (Uz : List (Option (Bool × Nat))) (Es : List Eld) (Bs : List (Nat → Prop)) (M : List (Nat × Nat)) (L : Nat → Bool) (v : Nat → Value) (Tf : Nat → Nat → Prop) (w : World) : Prop where
  kept : Kept S w0 w
  vals : ∀ i x, L i = true → Gs.getD i Pm.none = .eq x → v i = x
  things : ∀ i t, L i = true → Gs.getD i Pm.none = .new t → ¬ usedM Uz L (true, i) → t.B (v i) (Tf i) w
  olds : ∀ (e : Nat) (E : Eld), Es[e]? = some E → ¬ usedM Uz L (false, e) → E.A w
  grew : ∀ i t, L i = true → Gs.getD i Pm.none = .new t → Grew w0 (Bs.getD i noB) (Tf i)
  tt : ∀ i j t t', i ≠ j → L i = true → L j = true → Gs.getD i Pm.none = .new t → Gs.getD j Pm.none = .new t' → ¬ usedM Uz L (true, i) → ¬ usedM Uz L (true, j) → Apart (Tf i) (Tf j)
  te : ∀ (i e : Nat) (t : Thm) (E : Eld), L i = true → Gs.getD i Pm.none = .new t → ¬ usedM Uz L (true, i) → Es[e]? = some E → ¬ usedM Uz L (false, e) → Apart (Tf i) E.T
  clos : ∀ j i, (j, i) ∈ M → L j = true → L i = true
def uniqB (Uz : List (Option (Bool × Nat))) : Bool := (List.range Uz.length).all fun i => (List.range Uz.length).all fun j => match usM Uz i with
  | some q => i == j || !(usM Uz j == some q)
  | none => true
def wfU (os : List Oper) (Gs : List Pm) (nE : Nat) (Uz : List (Option (Bool × Nat))) : Bool := uniqB Uz && (List.range Uz.length).all fun i => match usM Uz i with
  | none => true
  | some (true, j) => (Gs.getD j Pm.none).isNew && (match os[i]? with | some o => o.after.toList.any (fun e => Region.binds .any e && e.on == j) | none => false)
  | some (false, e) => Nat.blt e nE
def BsL (Es : List Eld) (Bs : List (Nat → Prop)) : List (Option (Bool × Nat)) → List (Nat → Prop) → Prop
  | [], _ => True
  | none :: r, b :: bs => b = noB ∧ BsL Es Bs r bs
  | some (true, j) :: r, b :: bs => b = Bs.getD j noB ∧ BsL Es Bs r bs
  | some (false, e) :: r, b :: bs => (∀ E, Es[e]? = some E → b = E.T) ∧ BsL Es Bs r bs
  | _ :: _, [] => False
def SubL (S : Nat → Prop) : List (Nat → Prop) → Prop
  | [] => True
  | b :: r => (∀ x, b x → S x) ∧ SubL S r
def EldsM (S : Nat → Prop) (w0 : World) : List Eld → Prop
  | [] => True
  | E :: r => ((∀ b, E.T b → S b) ∧ E.A w0 ∧ (∀ (k : Nat) (E' : Eld), r[k]? = some E' → Apart E.T E'.T)) ∧ EldsM S w0 r
theorem us_lt {Uz : List (Option (Bool × Nat))} {i : Nat} {q : Bool × Nat} (h : usM Uz i = some q) : i < Uz.length := by
  unfold usM at h
  rcases Nat.lt_or_ge i Uz.length with h' | h'
  · exact h'
  · simp [List.getD, List.getElem?_eq_none h'] at h
theorem uniq_at {Uz : List (Option (Bool × Nat))} (h : uniqB Uz = true) {i j : Nat} {q : Bool × Nat} (hi : usM Uz i = some q) (hj : usM Uz j = some q) : i = j := by
  have := List.all_eq_true.1 (List.all_eq_true.1 h i (List.mem_range.2 (us_lt hi))) j (List.mem_range.2 (us_lt hj))
  rw [hi, hj] at this
  simpa using this
theorem bs_at {Es : List Eld} {Bs : List (Nat → Prop)} : ∀ {Uz : List (Option (Bool × Nat))} {bs : List (Nat → Prop)}, BsL Es Bs Uz bs → ∀ i, i < Uz.length → match usM Uz i with
    | none => bs.getD i noB = noB
    | some (true, j) => bs.getD i noB = Bs.getD j noB
    | some (false, e) => ∀ E, Es[e]? = some E → bs.getD i noB = E.T := by
  intro Uz
  induction Uz with
  | nil => intro bs _ i hi; exact absurd hi (Nat.not_lt_zero _)
  | cons u r ih =>
    intro bs h i hi
    cases bs with
    | nil => exact (by cases u with | none => exact h.elim | some q => obtain ⟨b, j⟩ := q; cases b <;> exact h.elim)
    | cons b bs =>
      cases i with
      | zero =>
        cases u with
        | none => exact h.1
        | some q => obtain ⟨x, j⟩ := q; cases x <;> exact h.1
      | succ i =>
        have hr : BsL Es Bs r bs := by
          cases u with
          | none => exact h.2
          | some q => obtain ⟨x, j⟩ := q; cases x <;> exact h.2
        exact ih hr i (Nat.lt_of_succ_lt_succ hi)
theorem sub_at {S : Nat → Prop} : ∀ {Bs : List (Nat → Prop)}, SubL S Bs → ∀ i x, Bs.getD i noB x → S x := by
  intro Bs
  induction Bs with
  | nil => intro _ i x h; exact absurd h (by simp [List.getD, noB])
  | cons b r ih =>
    intro h i x hx
    cases i with
    | zero => exact h.1 x hx
    | succ i => exact ih h.2 i x hx
theorem EldsM.at {S : Nat → Prop} {w0 : World} : ∀ {Es : List Eld}, EldsM S w0 Es → ∀ (e : Nat) (E : Eld), Es[e]? = some E → (∀ b, E.T b → S b) ∧ E.A w0 := by
  intro Es
  induction Es with
  | nil => intro _ e E h; simp at h
  | cons x r ih =>
    intro h e E he
    cases e with
    | zero => simp at he; subst he; exact ⟨h.1.1, h.1.2.1⟩
    | succ e => exact ih h.2 e E (by simpa using he)
theorem EldsM.far {S : Nat → Prop} {w0 : World} : ∀ {Es : List Eld}, EldsM S w0 Es → ∀ (e e' : Nat) (E E' : Eld), e ≠ e' → Es[e]? = some E → Es[e']? = some E' → Apart E.T E'.T := by
  intro Es
  induction Es with
  | nil => intro _ e e' E E' _ h; simp at h
  | cons x r ih =>
    intro h e e' E E' hne he he'
    cases e with
    | zero =>
      cases e' with
      | zero => exact absurd rfl hne
      | succ k => simp at he; subst he; exact h.1.2.2 k E' (by simpa using he')
    | succ k =>
      cases e' with
      | zero => simp at he'; subst he'; exact (h.1.2.2 k E (by simpa using he)).symm
      | succ k' => exact ih h.2 k k' E E' (fun z => hne (by rw [z])) (by simpa using he) (by simpa using he')
def LeftM (Gs : List Pm) (i : Nat) (Tu : Nat → Prop) (w : World) (v : Value) (w' : World) : Prop := match Gs.getD i Pm.none with
  | .eq x => v = x ∧ Kept Tu w w'
  | .new t => Kept Tu w w' ∧ ∃ T', t.B v T' w' ∧ Grew w Tu T'
def useT (Uz : List (Option (Bool × Nat))) (Es : List Eld) (Tf : Nat → Nat → Prop) (i : Nat) (Tu : Nat → Prop) : Prop := match usM Uz i with
  | none => Tu = noB
  | some (true, j) => Tu = Tf j
  | some (false, e) => ∀ E, Es[e]? = some E → Tu = E.T
theorem wfU_at {os : List Oper} {Gs : List Pm} {nE : Nat} {Uz : List (Option (Bool × Nat))} (h : wfU os Gs nE Uz = true) {i : Nat} {q : Bool × Nat} (hi : usM Uz i = some q) : match q with
    | (true, j) => (∃ t, Gs.getD j Pm.none = .new t) ∧ ∃ o, os[i]? = some o ∧ ∃ e ∈ o.after.toList, Region.binds .any e = true ∧ e.on = j
    | (false, e) => e < nE := by
  unfold wfU at h
  simp only [Bool.and_eq_true] at h
  have := List.all_eq_true.1 h.2 i (List.mem_range.2 (us_lt hi))
  rw [hi] at this
  obtain ⟨b, j⟩ := q
  cases b with
  | false => simpa [Nat.blt_eq] using this
  | true =>
    simp only [Bool.and_eq_true] at this
    refine ⟨?_, ?_⟩
    · cases hg : Gs.getD j Pm.none with
      | eq x => rw [hg] at this; simp [Pm.isNew] at this
      | new t => exact ⟨t, rfl⟩
    · cases ho : os[i]? with
      | none => rw [ho] at this; simp at this
      | some o =>
        rw [ho] at this
        obtain ⟨e, he, hb⟩ := List.any_eq_true.1 this.2
        simp only [Bool.and_eq_true, beq_iff_eq] at hb
        exact ⟨o, rfl, e, he, hb.1, hb.2⟩
theorem used_up {Uz : List (Option (Bool × Nat))} {L : Nat → Bool} {i : Nat} {q : Bool × Nat} (h : ¬ usedM Uz (upL L i) q) : ¬ usedM Uz L q := fun ⟨k, hk, hl⟩ => h ⟨k, hk, by unfold upL; split <;> first | rfl | exact hl⟩
theorem up_cases {L : Nat → Bool} {i j : Nat} (h : upL L i j = true) : j = i ∨ (j ≠ i ∧ L j = true) := by
  by_cases e : j = i
  · exact .inl e
  · exact .inr ⟨e, by rwa [show upL L i j = L j from if_neg e] at h⟩
def setT (Tf : Nat → Nat → Prop) (i : Nat) (T' : Nat → Prop) : Nat → Nat → Prop := fun c => if c = i then T' else Tf c
theorem JM.more {S : Nat → Prop} {w0 w w' : World} {os : List Oper} {Gs : List Pm} {Uz : List (Option (Bool × Nat))} {Es : List Eld} {Bs : List (Nat → Prop)} {M : List (Nat × Nat)} {L : Nat → Bool} {v : Nat → Value} {Tf : Nat → Nat → Prop} {i : Nat} {x : Value} {Tu : Nat → Prop}
    (hwf : wfU os Gs Es.length Uz = true) (hlen : Uz.length = os.length) (hio : i < os.length) (hBs : BsL Es Bs Uz Bs) (hSub : SubL S Bs) (hE : EldsM S w0 Es) (h : JM S w0 Gs Uz Es Bs M L v Tf w) (hi : L i = false) (hM : ∀ k, (i, k) ∈ M → L k = true) (hU : ∀ j, usM Uz i = some (true, j) → L j = true) (hT : useT Uz Es Tf i Tu) (hx : LeftM Gs i Tu w x w') : ∃ Tf', JM S w0 Gs Uz Es Bs M (upL L i) (upV v i x) Tf' w' := by
  have huq : uniqB Uz = true := by unfold wfU at hwf; simp only [Bool.and_eq_true] at hwf; exact hwf.1
  have hcl : ∀ j k, (j, k) ∈ M → upL L i j = true → upL L i k = true := fun j k hm hj => by
    have hk : L k = true := by
      rcases up_cases hj with rfl | ⟨_, hj⟩
      · exact hM k hm
      · exact h.clos j k hm hj
    unfold upL; split <;> first | rfl | exact hk
  have free : ∀ q, usM Uz i = some q → ¬ usedM Uz L q := fun q hq ⟨k, hk, hl⟩ => by
    rw [uniq_at huq hk hq, hi] at hl; cases hl
  have hgu : Grew w0 (Bs.getD i noB) Tu := by
    have hb := bs_at hBs i (by omega)
    unfold useT at hT
    cases hu : usM Uz i with
    | none => rw [hu] at hT; simp only at hT; subst hT; exact fun _ z => z.elim
    | some q =>
      have hq := wfU_at hwf hu
      obtain ⟨b, j⟩ := q
      cases b with
      | true =>
        rw [hu] at hT hb
        simp only at hT hb hq
        obtain ⟨⟨t, ht⟩, _⟩ := hq
        subst hT; rw [hb]; exact h.grew j t (hU j hu) ht
      | false =>
        rw [hu] at hT hb
        simp only at hT hb hq
        obtain ⟨E, hE'⟩ : ∃ E, Es[j]? = some E := ⟨Es[j], List.getElem?_eq_getElem hq⟩
        rw [hT E hE', hb E hE']; exact Grew.refl _ _
  have hkS : Kept Tu w w' → Kept S w0 w' := fun hk => h.kept.trans hk (fun b hb hTb => (hgu b hTb).elim (fun z => sub_at hSub i b z) (fun z => absurd hb (Nat.not_lt.2 z)))
  have farT : ∀ j t, L j = true → Gs.getD j Pm.none = .new t → ¬ usedM Uz (upL L i) (true, j) → Apart (Tf j) Tu := fun j t hj ht hn => by
    unfold useT at hT
    cases hu : usM Uz i with
    | none => rw [hu] at hT; simp only at hT; subst hT; exact fun _ _ z => z
    | some q =>
      have hq := wfU_at hwf hu
      obtain ⟨b, k⟩ := q
      cases b with
      | true =>
        rw [hu] at hT
        simp only at hT hq
        obtain ⟨⟨t', ht'⟩, _⟩ := hq
        subst hT
        exact h.tt j k t t' (fun e => hn ⟨i, by rw [hu, e], by unfold upL; simp⟩) hj (hU k hu) ht ht' (used_up hn) (free _ hu)
      | false =>
        rw [hu] at hT
        simp only at hT hq
        obtain ⟨E, hE'⟩ : ∃ E, Es[k]? = some E := ⟨Es[k], List.getElem?_eq_getElem hq⟩
        rw [hT E hE']; exact h.te j k t E hj ht (used_up hn) hE' (free _ hu)
  have farE : ∀ (e : Nat) (E : Eld), Es[e]? = some E → ¬ usedM Uz (upL L i) (false, e) → Apart E.T Tu := fun e E he hn => by
    unfold useT at hT
    cases hu : usM Uz i with
    | none => rw [hu] at hT; simp only at hT; subst hT; exact fun _ _ z => z
    | some q =>
      have hq := wfU_at hwf hu
      obtain ⟨b, k⟩ := q
      cases b with
      | true =>
        rw [hu] at hT
        simp only at hT hq
        obtain ⟨⟨t', ht'⟩, _⟩ := hq
        subst hT
        exact (h.te k e t' E (hU k hu) ht' (free _ hu) he (used_up hn)).symm
      | false =>
        rw [hu] at hT
        simp only at hT hq
        obtain ⟨E', hE'⟩ : ∃ E, Es[k]? = some E := ⟨Es[k], List.getElem?_eq_getElem hq⟩
        rw [hT E' hE']; exact hE.far e k E E' (fun z => hn ⟨i, by rw [hu, z], by unfold upL; simp⟩) he hE'
  unfold LeftM at hx
  cases eg : Gs.getD i Pm.none with
  | eq y =>
    rw [eg] at hx
    obtain ⟨hv, kU⟩ := hx
    refine ⟨Tf, hkS kU, fun j z hj hz => ?_, fun j t hj ht hn => ?_, fun e E he hn => (E.st w w' Tu (h.olds e E he (used_up hn)) kU (farE e E he hn)), fun j t hj ht => ?_, fun a b t t' hab ha hb hta htb hna hnb => ?_, fun a e t E ha hta hna he hne => ?_, hcl⟩
    · rcases up_cases hj with rfl | ⟨hji, hj⟩
      · rw [show upV v j x j = x from if_pos rfl, hv]; rw [eg] at hz; cases hz; rfl
      · rw [show upV v i x j = v j from if_neg hji]; exact h.vals j z hj hz
    · rcases up_cases hj with rfl | ⟨hji, hj⟩
      · rw [eg] at ht; cases ht
      · rw [show upV v i x j = v j from if_neg hji]; exact t.st _ w w' Tu _ (h.things j t hj ht (used_up hn)) kU (farT j t hj ht hn)
    · rcases up_cases hj with rfl | ⟨_, hj⟩
      · rw [eg] at ht; cases ht
      · exact h.grew j t hj ht
    · rcases up_cases ha with rfl | ⟨_, ha⟩
      · rw [eg] at hta; cases hta
      · rcases up_cases hb with rfl | ⟨_, hb⟩
        · rw [eg] at htb; cases htb
        · exact h.tt a b t t' hab ha hb hta htb (used_up hna) (used_up hnb)
    · rcases up_cases ha with rfl | ⟨_, ha⟩
      · rw [eg] at hta; cases hta
      · exact h.te a e t E ha hta (used_up hna) he (used_up hne)
  | new y =>
    rw [eg] at hx
    obtain ⟨kU, T', hB, hG⟩ := hx
    have fi : setT Tf i T' i = T' := if_pos rfl
    have fj : ∀ c, c ≠ i → setT Tf i T' c = Tf c := fun c hc => if_neg hc
    have nT : ∀ j t, L j = true → Gs.getD j Pm.none = .new t → ¬ usedM Uz (upL L i) (true, j) → Apart T' (Tf j) := fun j t hj ht hn => ((farT j t hj ht hn).symm).grew hG (t.li _ w _ (h.things j t hj ht (used_up hn)))
    refine ⟨setT Tf i T', hkS kU, fun j z hj hz => ?_, fun j t hj ht hn => ?_, fun e E he hn => (E.st w w' Tu (h.olds e E he (used_up hn)) kU (farE e E he hn)), fun j t hj ht => ?_, fun a b t t' hab ha hb hta htb hna hnb => ?_, fun a e t E ha hta hna he hne => ?_, hcl⟩
    · rcases up_cases hj with rfl | ⟨hji, hj⟩
      · rw [eg] at hz; cases hz
      · rw [show upV v i x j = v j from if_neg hji]; exact h.vals j z hj hz
    · rcases up_cases hj with rfl | ⟨hji, hj⟩
      · rw [eg] at ht; cases ht
        rw [show upV v j x j = x from if_pos rfl, fi]; exact hB
      · rw [show upV v i x j = v j from if_neg hji, fj j hji]; exact t.st _ w w' Tu _ (h.things j t hj ht (used_up hn)) kU (farT j t hj ht hn)
    · rcases up_cases hj with rfl | ⟨hji, hj⟩
      · rw [fi]
        exact fun b hb => (hG b hb).elim (fun z => hgu b z) (fun z => .inr (Nat.le_trans h.kept.size z))
      · rw [fj j hji]; exact h.grew j t hj ht
    · rcases up_cases ha with rfl | ⟨hai, ha2⟩
      · rcases up_cases hb with rfl | ⟨hbi, hb2⟩
        · exact absurd rfl hab
        · rw [fi, fj b hbi]; exact nT b t' hb2 htb hnb
      · rcases up_cases hb with rfl | ⟨hbi, hb2⟩
        · rw [fi, fj a hai]; exact (nT a t ha2 hta hna).symm
        · rw [fj a hai, fj b hbi]; exact h.tt a b t t' hab ha2 hb2 hta htb (used_up hna) (used_up hnb)
    · rcases up_cases ha with rfl | ⟨hai, ha⟩
      · rw [fi]; exact ((farE e E he hne).symm).grew hG (E.li w (h.olds e E he (used_up hne)))
      · rw [fj a hai]; exact h.te a e t E ha hta (used_up hna) he (used_up hne)
def freeB (Uz : List (Option (Bool × Nat))) (M : List (Nat × Nat)) (i : Nat) (q : Bool × Nat) : Bool := (List.range Uz.length).all fun k => !(usM Uz k == some q) || k == i || M.contains (k, i)
def thingM (w0 : World) (Gs : List Pm) (Uz : List (Option (Bool × Nat))) (Bs : List (Nat → Prop)) (M : List (Nat × Nat)) (i j : Nat) (x : Value) (w : World) : Prop := match Gs.getD j Pm.none with
  | .eq _ => True
  | .new t => freeB Uz M i (true, j) = true → ∃ T, t.B x T w ∧ Grew w0 (Bs.getD j noB) T
def valM (Gs : List Pm) (j : Nat) (x : Value) : Prop := match Gs.getD j Pm.none with
  | .eq y => x = y
  | .new _ => True
def ToldM (w0 : World) (Gs : List Pm) (Uz : List (Option (Bool × Nat))) (Bs : List (Nat → Prop)) (M : List (Nat × Nat)) (i : Nat) : Nat → Value → World → Prop := fun j x w => valM Gs j x ∧ thingM w0 Gs Uz Bs M i j x w ∧ ∀ k, (j, k) ∈ M → ∃ y, thingM w0 Gs Uz Bs M i k y w
def AheadM (Uz : List (Option (Bool × Nat))) (Es : List Eld) (M : List (Nat × Nat)) (i : Nat) (w : World) : Prop := ∀ (e : Nat) (E : Eld), Es[e]? = some E → freeB Uz M i (false, e) = true → E.A w
def UseM (w0 : World) (D : List (Option Tmp)) (Gs : List Pm) (Uz : List (Option (Bool × Nat))) (Es : List Eld) (Bs : List (Nat → Prop)) (F : Nat → Value) (w : World) (i : Nat) (Tu : Nat → Prop) : Prop := match usM Uz i with
  | none => Tu = noB
  | some (true, j) => ∀ t, Gs.getD j Pm.none = .new t → ∃ x, t.B x Tu w ∧ Grew w0 (Bs.getD j noB) Tu ∧ ∀ d, D.getD j none = some d → F d = x
  | some (false, e) => ∀ E, Es[e]? = some E → Tu = E.T ∧ E.A w
section
variable {P : Program} {N : Nat} {F : Nat → Value} {w : World} {Q : Exit → (Nat → Value) → World → Prop} {S : Nat → Prop} {M : List (Nat × Nat)} {D : List (Option Tmp)} {Gs : List Pm} {Uz : List (Option (Bool × Nat))} {Es : List Eld} {Bs : List (Nat → Prop)}
def StepFM (S : Nat → Prop) (M : List (Nat × Nat)) (N : Nat) (P : Program) (D : List (Option Tmp)) (Gs : List Pm) (Uz : List (Option (Bool × Nat))) (Es : List Eld) (Bs : List (Nat → Prop)) (F0 : Nat → Value) (w0 : World) (i : Nat) (o : Oper) : Prop :=
  ∀ (F : Nat → Value) (w : World) (Tu : Nat → Prop), Kept S w0 w → (∀ t, Nat.blt t N = true → some t ∉ D → F t = F0 t) → DepsF D (ToldM w0 Gs Uz Bs M i) F w o.after.toList → AheadM Uz Es M i w → UseM w0 D Gs Uz Es Bs F w i Tu →
    match o.guard with
    | none => Yields P (ev F) o w (LeftM Gs i Tu w)
    | some (j, want) => ∃ d, D.getD j none = some d ∧
      ((F d = .bool want ∧ Yields P (ev F) o w (LeftM Gs i Tu w)) ∨ ((F d = .bool (!want) ∨ F d = undef) ∧ Gs.getD i Pm.none = .eq undef))
def StepsFM (S : Nat → Prop) (M : List (Nat × Nat)) (N : Nat) (P : Program) (D : List (Option Tmp)) (Gs : List Pm) (Uz : List (Option (Bool × Nat))) (Es : List Eld) (Bs : List (Nat → Prop)) (F0 : Nat → Value) (w0 : World) : Nat → List Oper → Prop
  | _, [] => True
  | i, o :: r => StepFM S M N P D Gs Uz Es Bs F0 w0 i o ∧ StepsFM S M N P D Gs Uz Es Bs F0 w0 (i + 1) r
theorem StepFM.one {F0 : Nat → Value} {w0 : World} {i : Nat} {o : Oper} (hg : o.guard = none) (hu : usM Uz i = none)
    (h : ∀ (F : Nat → Value) (w : World), Kept S w0 w → (∀ t, Nat.blt t N = true → some t ∉ D → F t = F0 t) → DepsF D (ToldM w0 Gs Uz Bs M i) F w o.after.toList → AheadM Uz Es M i w → Yields P (ev F) o w (LeftM Gs i noB w)) : StepFM S M N P D Gs Uz Es Bs F0 w0 i o := by
  intro F w Tu h1 h2 h3 h4 h5
  unfold UseM at h5
  rw [hu] at h5; simp only at h5; subst h5
  rw [hg]; exact h F w h1 h2 h3 h4
theorem free_not {L : Nat → Bool} {i : Nat} {q : Bool × Nat} (hi : L i = false) (hc : ∀ j k, (j, k) ∈ M → L j = true → L k = true) (h : freeB Uz M i q = true) : ¬ usedM Uz L q := fun ⟨k, hk, hl⟩ => by
  have := List.all_eq_true.1 h k (List.mem_range.2 (us_lt hk))
  simp only [hk, beq_self_eq_true, Bool.not_true, Bool.false_or, Bool.or_eq_true, beq_iff_eq] at this
  rcases this with e | e
  · rw [e, hi] at hl; cases hl
  · have := hc k i (by simpa using e) hl; rw [hi] at this; cases this
theorem StepFM.step {os : List Oper} {w0 : World} {i : Nat} {o : Oper} {a0 : Act} (hwf : wfU os Gs Es.length Uz = true) (hlen : Uz.length = os.length) (hBs : BsL Es Bs Uz Bs) (hSub : SubL S Bs) (hE : EldsM S w0 Es) (hmo : mustOk os M = true) (hio : os[i]? = some o) (ha : Fr N F a0) (h : StepFM S M N P D Gs Uz Es Bs F w0 i o) : StepJ os P D (fun L v w => ∃ Tf, JM S w0 Gs Uz Es Bs M L v Tf w) a0 i o := by
  rintro L v a w ⟨Tf, hJ⟩ hi hdone hout hhere _
  have hi' : i < os.length := by
    rcases Nat.lt_or_ge i os.length with h' | h'
    · exact h'
    · rw [List.getElem?_eq_none h'] at hio; cases hio
  have key : ∀ c, L c = true → ∀ x, (∀ d, D[c]? = some (some d) → x = v c) → (x = v c) → thingM w0 Gs Uz Bs M i c x w := fun c hc x _ hx => by
    unfold thingM
    cases e' : Gs.getD c Pm.none with
    | eq y => trivial
    | new t =>
      intro hf
      rw [hx]
      exact ⟨Tf c, hJ.things c t hc e' (free_not hi hJ.clos hf), hJ.grew c t hc e'⟩
  have hDe : ∀ c d, D.getD c none = some d → D[c]? = some (some d) := fun c d hd => by
    unfold List.getD at hd
    cases hq : D[c]? with
    | none => rw [hq] at hd; cases hd
    | some y => rw [hq] at hd; simp at hd; rw [hd]
  have hdeps : DepsF D (ToldM w0 Gs Uz Bs M i) (fun t => a.tmps.getD t undef) w o.after.toList := by
    refine Deps.toF (Deps.mk fun e he hb d hd => ?_)
    have hl := hdone e he hb
    rw [hhere e.on d hl (hDe e.on d hd)]
    refine ⟨?_, key e.on hl _ (fun _ _ => rfl) rfl, fun c hc => ⟨v c, key c (hJ.clos _ _ hc hl) _ (fun _ _ => rfl) rfl⟩⟩
    unfold valM
    cases e' : Gs.getD e.on Pm.none with
    | eq y => exact hJ.vals e.on y hl e'
    | new t => trivial
  have hM : ∀ k, (i, k) ∈ M → L k = true := fun k hk => by
    have := List.all_eq_true.1 hmo _ hk
    simp only [hio] at this
    obtain ⟨e, he, hb⟩ := List.any_eq_true.1 this
    simp only [Bool.and_eq_true, Bool.or_eq_true, beq_iff_eq] at hb
    have hl := hdone e he hb.1
    rcases hb.2 with h1 | h1
    · rw [← h1]; exact hl
    · exact hJ.clos _ _ (by simpa using h1) hl
  have hU : ∀ j, usM Uz i = some (true, j) → L j = true := fun j hj => by
    obtain ⟨_, o', ho', e, he, hb, hej⟩ := wfU_at hwf hj
    rw [hio] at ho'; cases ho'
    rw [← hej]; exact hdone e he hb
  have huq : uniqB Uz = true := by unfold wfU at hwf; simp only [Bool.and_eq_true] at hwf; exact hwf.1
  have free : ∀ q, usM Uz i = some q → ¬ usedM Uz L q := fun q hq ⟨k, hk, hl⟩ => by
    rw [uniq_at huq hk hq, hi] at hl; cases hl
  obtain ⟨Tu, hTu⟩ : ∃ Tu, useT Uz Es Tf i Tu := by
    unfold useT
    cases usM Uz i with
    | none => exact ⟨noB, rfl⟩
    | some q =>
      obtain ⟨b, j⟩ := q
      cases b with
      | true => exact ⟨Tf j, rfl⟩
      | false =>
        cases he : Es[j]? with
        | none => exact ⟨noB, fun E hE => by rw [he] at hE; cases hE⟩
        | some E => exact ⟨E.T, fun E' hE' => by rw [he] at hE'; cases hE'; rfl⟩
  have huse : UseM w0 D Gs Uz Es Bs (fun t => a.tmps.getD t undef) w i Tu := by
    have hTu' := hTu
    unfold useT at hTu'
    unfold UseM
    cases hu : usM Uz i with
    | none => rw [hu] at hTu'; exact hTu'
    | some q =>
      obtain ⟨b, j⟩ := q
      rw [hu] at hTu'
      cases b with
      | true =>
        simp only at hTu' ⊢
        subst hTu'
        exact fun t ht => ⟨v j, hJ.things j t (hU j hu) ht (free _ hu), hJ.grew j t (hU j hu) ht, fun d hd => hhere j d (hU j hu) (hDe j d hd)⟩
      | false => exact fun E hE' => ⟨hTu' E hE', hJ.olds j E hE' (free _ hu)⟩
  have h1 := h (fun t => a.tmps.getD t undef) w Tu hJ.kept (fun t hb ht => by rw [← ha.at' t hb]; exact hout t ht) hdeps (fun e E he hf => hJ.olds e E he (free_not hi hJ.clos hf)) huse
  have more : ∀ (x : Value) (w' : World), LeftM Gs i Tu w x w' → ∃ Tf', JM S w0 Gs Uz Es Bs M (upL L i) (upV v i x) Tf' w' := fun x w' hx => JM.more hwf hlen hi' hBs hSub hE hJ hi hM hU hTu hx
  rw [← eval_ev a] at h1
  unfold goes
  cases hg : o.guard with
  | none => rw [hg] at h1; exact ⟨fun _ => h1.mono' fun x w' hx => more x w' hx, fun e => by cases e⟩
  | some g =>
    obtain ⟨j, want⟩ := g
    rw [hg] at h1
    obtain ⟨d, hd, h1⟩ := h1
    simp only [hd]
    have hev : a.eval (.tmp d) = a.tmps.getD d undef := rfl
    rcases h1 with ⟨hv, hy⟩ | ⟨hv, hs⟩
    · rw [hev, hv]; exact ⟨fun _ => hy.mono' fun x w' hx => more x w' hx, fun e => by simp at e⟩
    · refine ⟨fun e => ?_, fun _ => more undef w (by unfold LeftM; rw [hs]; exact ⟨rfl, Kept.refl _ _⟩)⟩
      rcases hv with hv | hv
      · rw [hev, hv] at e; cases want <;> simp at e
      · rw [hev, hv] at e; simp [undef] at e
theorem StepsFM.steps {all : List Oper} {w0 : World} {a0 : Act} (hwf : wfU all Gs Es.length Uz = true) (hlen : Uz.length = all.length) (hBs : BsL Es Bs Uz Bs) (hSub : SubL S Bs) (hE : EldsM S w0 Es) (hmo : mustOk all M = true) (ha : Fr N F a0) : ∀ {os : List Oper} {i : Nat}, (∀ k o, os[k]? = some o → all[i + k]? = some o) → StepsFM S M N P D Gs Uz Es Bs F w0 i os → StepsJ all P D (fun L v w => ∃ Tf, JM S w0 Gs Uz Es Bs M L v Tf w) a0 i os := by
  intro os
  induction os with
  | nil => intro i _ _; exact trivial
  | cons o r ih =>
    intro i hat h
    exact ⟨h.1.step hwf hlen hBs hSub hE hmo (hat 0 o rfl) ha, ih (fun k o' hk => by have := hat (k + 1) o' hk; rwa [show i + (k + 1) = i + 1 + k by omega] at this) h.2⟩
end
end Go.Proofs.YtknjpdcpmpfklaaGreatDoor
set_option maxRecDepth 100000
namespace Go.Proofs.YtknjpdcpmpfklaaGreatDoor
open Go.RowKit
theorem stcT_seq : StcT Tryz.prog 23 4 := ⟨_, Tryz.underlying23, rfl, by kernel_rfl⟩
theorem stcT_head : StcT Tryz.prog 25 4 := ⟨_, Tryz.underlying25, rfl, by kernel_rfl⟩
theorem tmod8 {n : Int} (h : 8 ≤ n) : Int.tmod n 8 = n % 8 := Int.tmod_eq_emod_of_nonneg (by omega)
end Go.Proofs.YtknjpdcpmpfklaaGreatDoor
set_option maxRecDepth 100000
namespace Go.Proofs.YtknjpdcpmpfklaaGreatDoor
open Go.RowKit
def rCh : RowT Ch := { t := 32, e := 71, k := 21, by_ := 168, enc := chV, d := ⟨0, 0, 0, 0, 0, fun _ => 0⟩, z := .agg (chV ⟨0, 0, 0, 0, 0, fun _ => 0⟩).toArray }
instance rCh_ok : RowT.Ok rCh := ⟨Tryz.underlying32, by kernel_rfl, rfl, by decide, fun _ => rfl, fun c => one_ch c, by decide⟩
end Go.Proofs.YtknjpdcpmpfklaaGreatDoor
set_option maxRecDepth 100000
namespace Go.Proofs.YtknjpdcpmpfklaaGreatDoor
open Go.RowKit
theorem seq_is {W H R B : Int} (h : seqE W H R B = 0) : seqOk W H R B := Decidable.byContradiction fun hn => by unfold seqE at h; rw [if_neg hn] at h; cases h
theorem seq_side {W H R B : Int} (h : seqOk W H R B) : 8 ≤ W ∧ W ≤ 64 ∧ W % 8 = 0 ∧ 8 ≤ H ∧ H ≤ 64 ∧ H % 8 = 0 := by
  obtain ⟨h1, h2, _⟩ := h; unfold sideOk at h1 h2; omega
theorem plN_0 {W : Int} {p : Nat} (h0 : 0 ≤ W) (hp : p = 0) : Int.tdiv W 4 = ((plN W p : Nat) : Int) := by
  rw [Int.tdiv_eq_ediv_of_nonneg h0]; unfold plN; rw [if_pos hp]; omega
theorem plN_le {W : Int} {p : Nat} (h : W ≤ 64) : plN W p ≤ 16 := by unfold plN; split <;> omega
theorem pXY_in {w i : Nat} (hw : 0 < w) (h16 : w ≤ 16) (hi : i ≤ 256) : 0 ≤ pX w i ∧ pX w i ≤ 16 ∧ 0 ≤ pY w i ∧ pY w i ≤ 256 := by
  have h1 := Nat.mod_lt i hw
  have h2 := Nat.div_le_self i w
  refine ⟨Int.natCast_nonneg _, Int.ofNat_le.2 (show i % w ≤ 16 by omega), Int.natCast_nonneg _, Int.ofNat_le.2 (show i / w ≤ 256 by omega)⟩
theorem fits_dec {W H R B : Int} {f : FD} {b : Bool} (h : b = true ↔ seqE W H R B = 0 ∧ checkE f = 0 ∧ W = f.W ∧ H = f.H) : b = decide (fitsP W H R B f) := by
  rw [Bool.eq_iff_iff, decide_eq_true_iff]; exact h.trans fits_iff.symm
end Go.Proofs.YtknjpdcpmpfklaaGreatDoor
set_option maxRecDepth 100000
namespace Go.Proofs.YtknjpdcpmpfklaaGreatDoor
open Go.RowKit
theorem u8_line (n : Int) : IntKind.u8.wrap (max 0 (min n 255)) = ((byteI n : Nat) : Int) := by rw [show max 0 (min n 255) = min (max n 0) 255 by omega]; exact u8_byte n
theorem ps_line (b : Nat → Int) (i : Nat) (w0 : World) (hi : i < 4) :
  Calls Tryz.prog 79 #[blkV (b), .int .i64 (((i : Nat) : Int))] w0 fun e w' => e = .returned (.agg #[.int .u8 (((byteI (b (i * 4)) : Nat) : Int)), .int .u8 (((byteI (b (i * 4 + 1)) : Nat) : Int)), .int .u8 (((byteI (b (i * 4 + 2)) : Nat) : Int)), .int .u8 (((byteI (b (i * 4 + 3)) : Nat) : Int))]) ∧ Kept (fun _ => False) w0 w' := by
 refine calls_wq (args := [blkV b, iv ((i : Nat) : Int)]) 22 Tryz.func79 rfl rfl (Nat.le_of_ble_eq_true rfl) ?_
 have K0 := Kept.refl (fun _ => False) w0
 refine wq_seq (wq_region (wl_box_blk rfl rfl rfl rfl fun p1 w2 e5 B3 k4 => ?_))
 have g6 := onB_new (Nat.le_of_eq e5.symm)
 clear e5 g6
 have K8 := K0.tr k4
 refine wl_alloc_stc (n := 4) (vs := [.int .u8 0, .int .u8 0, .int .u8 0, .int .u8 0]) rfl rfl rfl (by kernel_rfl) fun p9 w10 B12 g13 k11 => ?_
 have gr14 : Grew w0 noB (onB p9) := Grew.new K8 g13
 have B16 := B3.all k11 id
 have K17 := K8.tr k11
 refine wl_nil fun F18 hF19 => ?_
 have s20 : F18 1 = iv ((i : Nat) : Int) := (hF19 1).trans rfl
 have s21 : F18 22 = undef := (hF19 22).trans rfl
 have s22 : F18 2 = pt p1 0 := (hF19 2).trans rfl
 have s23 : F18 4 = pt p9 0 := (hF19 4).trans rfl
 clear hF19
 refine then_normal (wq_seq (wq_region (wl_alloc_stc (n := 4) (vs := [.int .u8 0, .int .u8 0, .int .u8 0, .int .u8 0]) rfl rfl rfl (by kernel_rfl) fun p24 w25 B27 g28 k26 => ?_)))
 have gr29 : Grew w0 noB (onB p24) := Grew.new K17 g28
 have ap30 : Apart (onB p24) (onB p1) := Apart.new g28 (onB_live B16.lt)
 have ap31 : Apart (onB p24) (onB p9) := Apart.new g28 (onB_live B12.lt)
 have B32 := B16.all k26 id
 have B33 := B12.all k26 id
 have K34 := K17.tr k26
 refine wl_nil fun F35 hF36 => ?_
 obtain ⟨s37, s38, s39, s40⟩ := t4 hF36 1 s20 22 s21 2 s22 4 s23
 have s41 : F35 5 = pt p24 0 := (hF36 5).trans rfl
 clear hF36
 refine then_normal (wq_seq (wq_seq (wq_region (wl_v (iv 0) rfl rfl (y_mov rfl rfl rr) (wl_nil fun F42 hF43 => ?_)))))
 obtain ⟨s44, s45, s46, s47, s48⟩ := t5 hF43 1 s37 22 s38 2 s39 4 s40 5 s41
 have s49 : F42 7 = iv 0 := (hF43 7).trans rfl
 clear hF43
 refine then_normal (wq_block (wq_rounds 5 (wqr_step (wq_seq (wq_region (wl_v (.bool true) rfl rfl (y_lss rfl s49 rfl rfl rr) (wl_nil fun F50 hF51 => ?_)))))))
 obtain ⟨s52, s53, s54, s55, s56, s57⟩ := t6 hF51 1 s44 22 s45 2 s46 4 s47 5 s48 7 s49
 have s58 : F50 8 = .bool true := (hF51 8).trans rfl
 clear hF51
 refine then_normal (wq_seq ?_)
 refine wq_cond (t := true) s58 (fun _ => ?_) (fun e => by cases e)
 refine wq_skip (then_normal (wq_seq (wq_block (wq_seq (wq_region (wl_mv rfl rfl rfl s57 (wl_v (iv 0) rfl rfl (y_asg rfl rfl rr) (wl_nil fun F59 hF60 => ?_))))))))
 obtain ⟨s61, s62, s63, s64, s65, s66⟩ := t6 hF60 1 s52 22 s53 2 s54 4 s55 5 s56 7 s57
 have s67 : F59 6 = iv 0 := (hF60 6).trans rfl
 clear hF60
 refine then_normal (wq_region (wl_mv rfl rfl rfl s67 (wl_mv rfl rfl rfl s61 (wl_v (iv (((i * 4) : Nat) : Int)) rfl rfl (y_mul rfl rfl rfl (i64_n (by omega) (by omega)) rr) (wl_mv rfl rfl rfl s67 (wl_v (iv (((i * 4 + 0) : Nat) : Int)) rfl rfl (y_add rfl rfl rfl (i64_n (by omega) (by omega)) rr) (wl_v (.pointer (some ⟨p1, (i * 4 + 0), none⟩)) rfl rfl (y_atR (i * 4 + 0) (s := 1) rfl s63 rfl (by omega) Tryz.underlying69 (by omega) (by kernel_rfl) (by omega) rr) (wl_v (iv (b (i * 4 + 0))) rfl rfl (y_ldR rfl rfl Tryz.underlying3 (B32.cell (by omega)) rr) (wl_cs rfl rfl rfl rfl rfl (fun _ _ => by kernel_rfl) (vsC rfl (vsC rfl (vsC rfl vsN))) (ps_clamped (b (i * 4 + 0)) 0 255  _   ) fun w68 k69 => ?_)))))))))
 have B70 := B32.all k69 id
 have B71 := B33.all k69 id
 have B72 := B27.all k69 id
 have K73 := K34.tr k69
 refine wl_v (.int .u8 ((byteI (b (i * 4 + 0)) : Nat) : Int)) rfl rfl (y_convR rfl rfl Tryz.underlying3 Tryz.underlying5 (by first | exact u8_line _ | exact u8_line (b (i * 4 + 0))) rr) (wl_v (pt p24 0) rfl rfl (y_atR 0 (s := 1) rfl s65 rfl (by omega) Tryz.underlying123 (by omega) (by kernel_rfl) (by omega) rr) (wl_set_stc rfl rfl rfl rfl rfl B72 rfl rfl (by kernel_rfl) fun w74 B75 k76 => ?_))
 replace B75 : Stc w74 p24 123 [.int .u8 ((byteI (b (i * 4 + 0)) : Nat) : Int), .int .u8 0, .int .u8 0, .int .u8 0] := B75
 have B77 := B70.all k76 (ap30.symm p1 rfl)
 have B78 := B71.all k76 (ap31.symm p9 rfl)
 have K79 := K73.trans k76 (Grew.ok (S := fun _ => False) gr29 noB_le)
 refine wl_nil fun F80 hF81 => ?_
 obtain ⟨s82, s83, s84, s85, s86, s87⟩ := t6 hF81 1 s61 22 s62 2 s63 4 s64 5 s65 7 s66
 clear hF81
 refine in_normal (then_normal (wq_region (wl_v (iv ((1 : Nat) : Int)) rfl rfl (y_add rfl s87 rfl (i64_n (by omega) (by omega)) rr) (wl_v (iv ((1 : Nat) : Int)) rfl rfl (y_mov rfl rfl rr) (wl_nil fun F88 hF89 => ?_)))))
 obtain ⟨s90, s91, s92, s93, s94⟩ := t5 hF89 1 s82 22 s83 2 s84 4 s85 5 s86
 have s95 : F88 7 = iv ((1 : Nat) : Int) := (hF89 7).trans rfl
 clear hF89
 refine then_normal (wqr_step (wq_seq (wq_region (wl_v (.bool true) rfl rfl (y_lss rfl s95 rfl rfl rr) (wl_nil fun F96 hF97 => ?_)))))
 obtain ⟨s98, s99, s100, s101, s102, s103⟩ := t6 hF97 1 s90 22 s91 2 s92 4 s93 5 s94 7 s95
 have s104 : F96 8 = .bool true := (hF97 8).trans rfl
 clear hF97
 refine then_normal (wq_seq ?_)
 refine wq_cond (t := true) s104 (fun _ => ?_) (fun e => by cases e)
 refine wq_skip (then_normal (wq_seq (wq_block (wq_seq (wq_region (wl_mv rfl rfl rfl s103 (wl_v (iv ((1 : Nat) : Int)) rfl rfl (y_asg rfl rfl rr) (wl_nil fun F105 hF106 => ?_))))))))
 obtain ⟨s107, s108, s109, s110, s111, s112⟩ := t6 hF106 1 s98 22 s99 2 s100 4 s101 5 s102 7 s103
 have s113 : F105 6 = iv ((1 : Nat) : Int) := (hF106 6).trans rfl
 clear hF106
 refine then_normal (wq_region (wl_mv rfl rfl rfl s113 (wl_mv rfl rfl rfl s107 (wl_v (iv (((i * 4) : Nat) : Int)) rfl rfl (y_mul rfl rfl rfl (i64_n (by omega) (by omega)) rr) (wl_mv rfl rfl rfl s113 (wl_v (iv (((i * 4 + 1) : Nat) : Int)) rfl rfl (y_add rfl rfl rfl (i64_n (by omega) (by omega)) rr) (wl_v (.pointer (some ⟨p1, (i * 4 + 1), none⟩)) rfl rfl (y_atR (i * 4 + 1) (s := 1) rfl s109 rfl (by omega) Tryz.underlying69 (by omega) (by kernel_rfl) (by omega) rr) (wl_v (iv (b (i * 4 + 1))) rfl rfl (y_ldR rfl rfl Tryz.underlying3 (B77.cell (by omega)) rr) (wl_cs rfl rfl rfl rfl rfl (fun _ _ => by kernel_rfl) (vsC rfl (vsC rfl (vsC rfl vsN))) (ps_clamped (b (i * 4 + 1)) 0 255  _   ) fun w114 k115 => ?_)))))))))
 have B116 := B77.all k115 id
 have B117 := B78.all k115 id
 have B118 := B75.all k115 id
 have K119 := K79.tr k115
 refine wl_v (.int .u8 ((byteI (b (i * 4 + 1)) : Nat) : Int)) rfl rfl (y_convR rfl rfl Tryz.underlying3 Tryz.underlying5 (by first | exact u8_line _ | exact u8_line (b (i * 4 + 0))) rr) (wl_v (pt p24 1) rfl rfl (y_atR 1 (s := 1) rfl s111 rfl (by omega) Tryz.underlying123 (by omega) (by kernel_rfl) (by omega) rr) (wl_set_stc rfl rfl rfl rfl rfl B118 rfl rfl (by kernel_rfl) fun w120 B121 k122 => ?_))
 replace B121 : Stc w120 p24 123 [.int .u8 ((byteI (b (i * 4 + 0)) : Nat) : Int), .int .u8 ((byteI (b (i * 4 + 1)) : Nat) : Int), .int .u8 0, .int .u8 0] := B121
 have B123 := B116.all k122 (ap30.symm p1 rfl)
 have B124 := B117.all k122 (ap31.symm p9 rfl)
 have K125 := K119.trans k122 (Grew.ok (S := fun _ => False) gr29 noB_le)
 refine wl_nil fun F126 hF127 => ?_
 obtain ⟨s128, s129, s130, s131, s132, s133⟩ := t6 hF127 1 s107 22 s108 2 s109 4 s110 5 s111 7 s112
 clear hF127
 refine in_normal (then_normal (wq_region (wl_v (iv ((2 : Nat) : Int)) rfl rfl (y_add rfl s133 rfl (i64_n (by omega) (by omega)) rr) (wl_v (iv ((2 : Nat) : Int)) rfl rfl (y_mov rfl rfl rr) (wl_nil fun F134 hF135 => ?_)))))
 obtain ⟨s136, s137, s138, s139, s140⟩ := t5 hF135 1 s128 22 s129 2 s130 4 s131 5 s132
 have s141 : F134 7 = iv ((2 : Nat) : Int) := (hF135 7).trans rfl
 clear hF135
 refine then_normal (wqr_step (wq_seq (wq_region (wl_v (.bool true) rfl rfl (y_lss rfl s141 rfl rfl rr) (wl_nil fun F142 hF143 => ?_)))))
 obtain ⟨s144, s145, s146, s147, s148, s149⟩ := t6 hF143 1 s136 22 s137 2 s138 4 s139 5 s140 7 s141
 have s150 : F142 8 = .bool true := (hF143 8).trans rfl
 clear hF143
 refine then_normal (wq_seq ?_)
 refine wq_cond (t := true) s150 (fun _ => ?_) (fun e => by cases e)
 refine wq_skip (then_normal (wq_seq (wq_block (wq_seq (wq_region (wl_mv rfl rfl rfl s149 (wl_v (iv ((2 : Nat) : Int)) rfl rfl (y_asg rfl rfl rr) (wl_nil fun F151 hF152 => ?_))))))))
 obtain ⟨s153, s154, s155, s156, s157, s158⟩ := t6 hF152 1 s144 22 s145 2 s146 4 s147 5 s148 7 s149
 have s159 : F151 6 = iv ((2 : Nat) : Int) := (hF152 6).trans rfl
 clear hF152
 refine then_normal (wq_region (wl_mv rfl rfl rfl s159 (wl_mv rfl rfl rfl s153 (wl_v (iv (((i * 4) : Nat) : Int)) rfl rfl (y_mul rfl rfl rfl (i64_n (by omega) (by omega)) rr) (wl_mv rfl rfl rfl s159 (wl_v (iv (((i * 4 + 2) : Nat) : Int)) rfl rfl (y_add rfl rfl rfl (i64_n (by omega) (by omega)) rr) (wl_v (.pointer (some ⟨p1, (i * 4 + 2), none⟩)) rfl rfl (y_atR (i * 4 + 2) (s := 1) rfl s155 rfl (by omega) Tryz.underlying69 (by omega) (by kernel_rfl) (by omega) rr) (wl_v (iv (b (i * 4 + 2))) rfl rfl (y_ldR rfl rfl Tryz.underlying3 (B123.cell (by omega)) rr) (wl_cs rfl rfl rfl rfl rfl (fun _ _ => by kernel_rfl) (vsC rfl (vsC rfl (vsC rfl vsN))) (ps_clamped (b (i * 4 + 2)) 0 255  _   ) fun w160 k161 => ?_)))))))))
 have B162 := B123.all k161 id
 have B163 := B124.all k161 id
 have B164 := B121.all k161 id
 have K165 := K125.tr k161
 refine wl_v (.int .u8 ((byteI (b (i * 4 + 2)) : Nat) : Int)) rfl rfl (y_convR rfl rfl Tryz.underlying3 Tryz.underlying5 (by first | exact u8_line _ | exact u8_line (b (i * 4 + 0))) rr) (wl_v (pt p24 2) rfl rfl (y_atR 2 (s := 1) rfl s157 rfl (by omega) Tryz.underlying123 (by omega) (by kernel_rfl) (by omega) rr) (wl_set_stc rfl rfl rfl rfl rfl B164 rfl rfl (by kernel_rfl) fun w166 B167 k168 => ?_))
 replace B167 : Stc w166 p24 123 [.int .u8 ((byteI (b (i * 4 + 0)) : Nat) : Int), .int .u8 ((byteI (b (i * 4 + 1)) : Nat) : Int), .int .u8 ((byteI (b (i * 4 + 2)) : Nat) : Int), .int .u8 0] := B167
 have B169 := B162.all k168 (ap30.symm p1 rfl)
 have B170 := B163.all k168 (ap31.symm p9 rfl)
 have K171 := K165.trans k168 (Grew.ok (S := fun _ => False) gr29 noB_le)
 refine wl_nil fun F172 hF173 => ?_
 obtain ⟨s174, s175, s176, s177, s178, s179⟩ := t6 hF173 1 s153 22 s154 2 s155 4 s156 5 s157 7 s158
 clear hF173
 refine in_normal (then_normal (wq_region (wl_v (iv ((3 : Nat) : Int)) rfl rfl (y_add rfl s179 rfl (i64_n (by omega) (by omega)) rr) (wl_v (iv ((3 : Nat) : Int)) rfl rfl (y_mov rfl rfl rr) (wl_nil fun F180 hF181 => ?_)))))
 obtain ⟨s182, s183, s184, s185, s186⟩ := t5 hF181 1 s174 22 s175 2 s176 4 s177 5 s178
 have s187 : F180 7 = iv ((3 : Nat) : Int) := (hF181 7).trans rfl
 clear hF181
 refine then_normal (wqr_step (wq_seq (wq_region (wl_v (.bool true) rfl rfl (y_lss rfl s187 rfl rfl rr) (wl_nil fun F188 hF189 => ?_)))))
 obtain ⟨s190, s191, s192, s193, s194, s195⟩ := t6 hF189 1 s182 22 s183 2 s184 4 s185 5 s186 7 s187
 have s196 : F188 8 = .bool true := (hF189 8).trans rfl
 clear hF189
 refine then_normal (wq_seq ?_)
 refine wq_cond (t := true) s196 (fun _ => ?_) (fun e => by cases e)
 refine wq_skip (then_normal (wq_seq (wq_block (wq_seq (wq_region (wl_mv rfl rfl rfl s195 (wl_v (iv ((3 : Nat) : Int)) rfl rfl (y_asg rfl rfl rr) (wl_nil fun F197 hF198 => ?_))))))))
 obtain ⟨s199, s200, s201, s202, s203, s204⟩ := t6 hF198 1 s190 22 s191 2 s192 4 s193 5 s194 7 s195
 have s205 : F197 6 = iv ((3 : Nat) : Int) := (hF198 6).trans rfl
 clear hF198
 refine then_normal (wq_region (wl_mv rfl rfl rfl s205 (wl_mv rfl rfl rfl s199 (wl_v (iv (((i * 4) : Nat) : Int)) rfl rfl (y_mul rfl rfl rfl (i64_n (by omega) (by omega)) rr) (wl_mv rfl rfl rfl s205 (wl_v (iv (((i * 4 + 3) : Nat) : Int)) rfl rfl (y_add rfl rfl rfl (i64_n (by omega) (by omega)) rr) (wl_v (.pointer (some ⟨p1, (i * 4 + 3), none⟩)) rfl rfl (y_atR (i * 4 + 3) (s := 1) rfl s201 rfl (by omega) Tryz.underlying69 (by omega) (by kernel_rfl) (by omega) rr) (wl_v (iv (b (i * 4 + 3))) rfl rfl (y_ldR rfl rfl Tryz.underlying3 (B169.cell (by omega)) rr) (wl_cs rfl rfl rfl rfl rfl (fun _ _ => by kernel_rfl) (vsC rfl (vsC rfl (vsC rfl vsN))) (ps_clamped (b (i * 4 + 3)) 0 255  _   ) fun w206 k207 => ?_)))))))))
 have B209 := B170.all k207 id
 have B210 := B167.all k207 id
 have K211 := K171.tr k207
 refine wl_v (.int .u8 ((byteI (b (i * 4 + 3)) : Nat) : Int)) rfl rfl (y_convR rfl rfl Tryz.underlying3 Tryz.underlying5 (by first | exact u8_line _ | exact u8_line (b (i * 4 + 0))) rr) (wl_v (pt p24 3) rfl rfl (y_atR 3 (s := 1) rfl s203 rfl (by omega) Tryz.underlying123 (by omega) (by kernel_rfl) (by omega) rr) (wl_set_stc rfl rfl rfl rfl rfl B210 rfl rfl (by kernel_rfl) fun w212 B213 k214 => ?_))
 replace B213 : Stc w212 p24 123 [.int .u8 ((byteI (b (i * 4 + 0)) : Nat) : Int), .int .u8 ((byteI (b (i * 4 + 1)) : Nat) : Int), .int .u8 ((byteI (b (i * 4 + 2)) : Nat) : Int), .int .u8 ((byteI (b (i * 4 + 3)) : Nat) : Int)] := B213
 have B216 := B209.all k214 (ap31.symm p9 rfl)
 have K217 := K211.trans k214 (Grew.ok (S := fun _ => False) gr29 noB_le)
 refine wl_nil fun F218 hF219 => ?_
 obtain ⟨s221, s223, s224, s225⟩ := t4 hF219 22 s200 4 s202 5 s203 7 s204
 clear hF219
 refine in_normal (then_normal (wq_region (wl_v (iv ((4 : Nat) : Int)) rfl rfl (y_add rfl s225 rfl (i64_n (by omega) (by omega)) rr) (wl_v (iv ((4 : Nat) : Int)) rfl rfl (y_mov rfl rfl rr) (wl_nil fun F226 hF227 => ?_)))))
 obtain ⟨s229, s231, s232⟩ := t3 hF227 22 s221 4 s223 5 s224
 have s233 : F226 7 = iv ((4 : Nat) : Int) := (hF227 7).trans rfl
 clear hF227
 refine then_normal (wqr_step (wq_seq (wq_region (wl_v (.bool false) rfl rfl (y_lss rfl s233 rfl rfl rr) (wl_nil fun F234 hF235 => ?_)))))
 obtain ⟨s237, s239, s240⟩ := t3 hF235 22 s229 4 s231 5 s232
 have s242 : F234 8 = .bool false := (hF235 8).trans rfl
 clear hF235
 refine then_normal (wq_seq ?_)
 refine wq_cond (t := false) s242 (fun e => by cases e) (fun _ => ?_)
 refine wq_exit (then_exit (then_exit (in_here (then_normal (wq_seq (wq_region (wl_v (.agg #[.int .u8 ((byteI (b (i * 4 + 0)) : Nat) : Int), .int .u8 ((byteI (b (i * 4 + 1)) : Nat) : Int), .int .u8 ((byteI (b (i * 4 + 2)) : Nat) : Int), .int .u8 ((byteI (b (i * 4 + 3)) : Nat) : Int)]) rfl rfl (y_load_stc stcT_by4 rfl s240 B213 rr) (wl_store_stc (us := [.int .u8 ((byteI (b (i * 4 + 0)) : Nat) : Int), .int .u8 ((byteI (b (i * 4 + 1)) : Nat) : Int), .int .u8 ((byteI (b (i * 4 + 2)) : Nat) : Int), .int .u8 ((byteI (b (i * 4 + 3)) : Nat) : Int)]) stcT_by4 rfl rfl rfl s239 rfl B216 rfl (oneI rfl (oneI rfl (oneI rfl (oneI rfl oneN)))) fun w243 B244 k245 => ?_))))))))
 have K248 := K217.trans k245 (Grew.ok (S := fun _ => False) gr14 noB_le)
 refine wl_nil fun F249 hF250 => ?_
 obtain ⟨s251, s252⟩ := t2 hF250 22 s237 4 s239
 clear hF250
 refine then_normal (wq_ret ?_)
 exact end_stc (vs := [.int .u8 ((byteI (b (i * 4 + 0)) : Nat) : Int), .int .u8 ((byteI (b (i * 4 + 1)) : Nat) : Int), .int .u8 ((byteI (b (i * 4 + 2)) : Nat) : Int), .int .u8 ((byteI (b (i * 4 + 3)) : Nat) : Int)]) stcT_by4 s251 rfl rfl s252 B244 ⟨rfl, K248⟩
def layF (l : List Nat) (i j : Nat) (x : Int) (c : List Nat) : List Nat :=
  l.take (i + (max 0 (min x ((j - i : Nat) : Int))).toNat) ++ ((c.drop (max 0 (min (-x) 4)).toNat).take ((j - i) - (max 0 (min x ((j - i : Nat) : Int))).toNat) ++ l.drop (i + (max 0 (min x ((j - i : Nat) : Int))).toNat + min ((j - i) - (max 0 (min x ((j - i : Nat) : Int))).toNat) (c.drop (max 0 (min (-x) 4)).toNat).length))
theorem ps_lay (v : Value) (l : List Nat) (i j : Nat) (x : Int) (a b c d : Nat) (T_s : Nat → Prop) (w0 : World) (hij : i ≤ j) (hj : j ≤ l.length) (hx : -64 ≤ x ∧ x ≤ 128) (ha : a < 256) (hb : b < 256) (hc : c < 256) (hd : d < 256) (h_s : Owb w0 T_s v (l)) :
  Calls Tryz.prog 78 #[subV (v) (i) (j) (j), .int .i64 (x), .agg #[.int .u8 (((a : Nat) : Int)), .int .u8 (((b : Nat) : Int)), .int .u8 (((c : Nat) : Int)), .int .u8 (((d : Nat) : Int))]] w0 fun e w' => ∃ (T_s' : Nat → Prop), e = .returned (.tuple #[]) ∧ Kept (T_s) w0 w' ∧ (Owb w' T_s' v (layF l i j x [a, b, c, d]) ∧ Grew w0 T_s T_s') := by
 refine calls_wq (args := [subV v i j j, iv x, .agg #[.int .u8 ((a : Nat) : Int), .int .u8 ((b : Nat) : Int), .int .u8 ((c : Nat) : Int), .int .u8 ((d : Nat) : Int)]]) 17 Tryz.func78 rfl rfl (Nat.le_of_ble_eq_true rfl) ?_
 have K0 := Kept.refl T_s w0
 have g_s := Grew.refl w0 T_s
 refine wq_seq (wq_region (wl_box_stc (vs := [.int .u8 ((a : Nat) : Int), .int .u8 ((b : Nat) : Int), .int .u8 ((c : Nat) : Int), .int .u8 ((d : Nat) : Int)]) rfl rfl rfl rfl fun p1 w2 B4 g5 k3 => ?_))
 have B8 := h_s.all k3 Apart.none
 have K9 := K0.tr k3
 refine wl_nil fun F10 hF11 => ?_
 have s12 : F10 0 = subV v i j j := (hF11 0).trans rfl
 have s13 : F10 1 = iv x := (hF11 1).trans rfl
 have s14 : F10 17 = undef := (hF11 17).trans rfl
 have s15 : F10 5 = pt p1 0 := (hF11 5).trans rfl
 clear hF11
 refine then_normal ?_
 refine wq_tail 10 [some 6, some 7, some 8, some 9, some 10, some 11, some 12, some 13, some 14, some 15] [Pd.eq (subV v i j j), Pd.eq (iv x), Pd.eq (subV v i j j), Pd.eq (iv ((j - i : Nat) : Int)), Pd.eq (iv (max 0 (min x ((j - i : Nat) : Int)))), Pd.eq (subV (subV v i j j) ((max 0 (min x ((j - i : Nat) : Int))).toNat) (j - i) (j - i)), Pd.eq (iv x), Pd.eq (iv (-x)), Pd.eq (iv (max 0 (min (-x) 4))), Pd.eq (arrV p1 ((max 0 (min (-x) 4)).toNat))] (by kernel_rfl) (by kernel_rfl) (by kernel_rfl) ?_ ?_
 ·refine stepsF_cons ?_ ?_
  ·refine StepF.one rfl fun F_ w_ hR hout hD => ?_
   exact (y_mov rfl ((hout 0 rfl (by decide)).trans s12) ⟨rfl, Kept.refl _ _⟩)
  refine stepsF_cons ?_ ?_
  ·refine StepF.one rfl fun F_ w_ hR hout hD => ?_
   exact (y_mov rfl ((hout 1 rfl (by decide)).trans s13) ⟨rfl, Kept.refl _ _⟩)
  refine stepsF_cons ?_ ?_
  ·refine StepF.one rfl fun F_ w_ hR hout hD => ?_
   exact (y_mov rfl ((hout 0 rfl (by decide)).trans s12) ⟨rfl, Kept.refl _ _⟩)
  refine stepsF_cons ?_ ?_
  ·refine StepF.one rfl fun F_ w_ hR hout hD => ?_
   have g8 : F_ 8 = subV v i j j := (hD.get 0 rfl rfl rfl)
   exact (y_lenS rfl rfl g8 (B8.all hR Apart.none).byt ⟨rfl, Kept.refl _ _⟩)
  refine stepsF_cons ?_ ?_
  ·refine StepF.one rfl fun F_ w_ hR hout hD => ?_
   have g7 : F_ 7 = iv x := (hD.get 0 rfl rfl rfl)
   have g9 : F_ 9 = iv ((j - i : Nat) : Int) := (hD.get 1 rfl rfl rfl)
   exact (y_cs rfl rfl rfl (fun _ _ => by kernel_rfl) (ev_func _) (vsC g7 (vsC rfl (vsC g9 vsN))) (ps_clamped x 0 ((j - i : Nat) : Int)  _   ) (fun e_ w_ h_ => ⟨_, h_.1, rfl, h_.2⟩))
  refine stepsF_cons ?_ ?_
  ·refine StepF.one rfl fun F_ w_ hR hout hD => ?_
   have g6 : F_ 6 = subV v i j j := (hD.get 0 rfl rfl rfl)
   have g10 : F_ 10 = iv (max 0 (min x ((j - i : Nat) : Int))) := (hD.get 1 rfl rfl rfl)
   exact (y_cut2L ((max 0 (min x ((j - i : Nat) : Int))).toNat) rfl g6 g10 (by omega) (B8.all hR Apart.none).byt (by omega) ⟨rfl, Kept.refl _ _⟩)
  refine stepsF_cons ?_ ?_
  ·refine StepF.one rfl fun F_ w_ hR hout hD => ?_
   exact (y_mov rfl ((hout 1 rfl (by decide)).trans s13) ⟨rfl, Kept.refl _ _⟩)
  refine stepsF_cons ?_ ?_
  ·refine StepF.one rfl fun F_ w_ hR hout hD => ?_
   have g12 : F_ 12 = iv x := (hD.get 0 rfl rfl rfl)
   exact (y_neg rfl g12 (i64_i rfl (by omega)) ⟨rfl, Kept.refl _ _⟩)
  refine stepsF_cons ?_ ?_
  ·refine StepF.one rfl fun F_ w_ hR hout hD => ?_
   have g13 : F_ 13 = iv (-x) := (hD.get 0 rfl rfl rfl)
   exact (y_cs rfl rfl rfl (fun _ _ => by kernel_rfl) (ev_func _) (vsC g13 (vsC rfl (vsC rfl vsN))) (ps_clamped (-x) 0 4  _   ) (fun e_ w_ h_ => ⟨_, h_.1, rfl, h_.2⟩))
  refine stepsF_cons ?_ ?_
  ·refine StepF.one rfl fun F_ w_ hR hout hD => ?_
   have g14 : F_ 14 = iv (max 0 (min (-x) 4)) := (hD.get 0 rfl rfl rfl)
   exact (y_cutA ((max 0 (min (-x) 4)).toNat) rfl ((hout 5 rfl (by decide)).trans s15) g14 (by omega) (by omega) ⟨rfl, Kept.refl _ _⟩)
  exact stepsF_nil
 intro v16 F17 w18 k19 G20 hF21
 have B23 := B8.all k19 Apart.none
 have B24 := B4.all k19 id
 have K25 := K9.tr k19
 have s26 := (hF21 17).trans s14
 have s27 : F17 11 = subV (subV v i j j) ((max 0 (min x ((j - i : Nat) : Int))).toNat) (j - i) (j - i) := (hF21 11).trans (G20 5 (by decide))
 have s28 : F17 15 = arrV p1 ((max 0 (min (-x) 4)).toNat) := (hF21 15).trans (G20 9 (by decide))
 clear G20 hF21
 refine wl_copyM rfl rfl rfl rfl s27 (part_sub2 (r := i + ((max 0 (min x ((j - i : Nat) : Int))).toNat)) B23.byt (by omega) (by omega) rfl) s28 B23 (B24.bytes (by omega) (by omega) (by omega) (by omega) (k := (max 0 (min (-x) 4)).toNat) (by omega)) (by omega) fun w30 B32 k31 => ?_
 have K36 := K25.trans k31 (Grew.ok (S := T_s) g_s (fun _ x => x))
 refine wl_nil fun F37 hF38 => ?_
 have s39 := (hF38 17).trans s26
 clear hF38
 exact end_none s39 rfl ⟨T_s, rfl, K36, ⟨B32, g_s⟩⟩
end Go.Proofs.YtknjpdcpmpfklaaGreatDoor
set_option maxRecDepth 100000
namespace Go.Proofs.YtknjpdcpmpfklaaGreatDoor
open Go.RowKit
def step1 (l : List Nat) (n w : Nat) (u : Int) (c : Nat) : List Nat := if 0 ≤ u ∧ u < (w : Int) then l.set (n + u.toNat) c else l
theorem step1_length (l : List Nat) (n w : Nat) (u : Int) (c : Nat) : (step1 l n w u c).length = l.length := by unfold step1; split <;> simp
theorem step1_at (l : List Nat) (n w : Nat) (u : Int) (c q : Nat) : (step1 l n w u c).getD q 0 = if 0 ≤ u ∧ u < (w : Int) ∧ n + u.toNat = q ∧ q < l.length then c else l.getD q 0 := by
  unfold step1
  by_cases h : 0 ≤ u ∧ u < (w : Int)
  · rw [if_pos h, getD_set]
    by_cases h2 : n + u.toNat = q ∧ q < l.length
    · rw [if_pos h2, if_pos ⟨h.1, h.2, h2.1, h2.2⟩]
    · rw [if_neg h2, if_neg (fun k => h2 ⟨k.2.2.1, k.2.2.2⟩)]
  · rw [if_neg h, if_neg (fun k => h ⟨k.1, k.2.1⟩)]
theorem ext_getD {l m : List Nat} (hl : l.length = m.length) (h : ∀ q, q < l.length → l.getD q 0 = m.getD q 0) : l = m := by
  apply List.ext_getElem hl
  intro i h1 h2
  have := h i h1
  simpa [List.getD, h1, h2] using this
theorem cut_at (l m : List Nat) (off n q : Nat) (h : off + min n m.length ≤ l.length) : (l.take off ++ (m.take n ++ l.drop (off + min n m.length))).getD q 0 = if q < off then l.getD q 0 else if q < off + min n m.length then m.getD (q - off) 0 else l.getD q 0 := by
  have h1 : (l.take off).length = off := by rw [List.length_take]; omega
  have h2 : (m.take n).length = min n m.length := List.length_take ..
  simp only [List.getD_eq_getElem?_getD]
  by_cases hq : q < off
  · rw [if_pos hq, List.getElem?_append_left (by omega), List.getElem?_take, if_pos hq]
  · rw [if_neg hq, List.getElem?_append_right (by omega), h1]
    by_cases hr : q < off + min n m.length
    · rw [if_pos hr, List.getElem?_append_left (by omega), List.getElem?_take, if_pos (by omega)]
    · rw [if_neg hr, List.getElem?_append_right (by omega), h2, List.getElem?_drop]
      congr 2; omega
theorem lay_steps (l : List Nat) (n w : Nat) (x : Int) (a b c d : Nat) (h : n + w ≤ l.length) : layF l n (n + w) x [a, b, c, d] = step1 (step1 (step1 (step1 l n w x a) n w (x + 1) b) n w (x + 2) c) n w (x + 3) d := by
  unfold layF
  rw [show n + w - n = w by omega]
  obtain ⟨cx, hcx⟩ : ∃ k, k = (max 0 (min x (w : Int))).toNat := ⟨_, rfl⟩
  obtain ⟨dx, hdx⟩ : ∃ k, k = (max 0 (min (-x) 4)).toNat := ⟨_, rfl⟩
  rw [← hcx, ← hdx]
  have hd4 : ([a, b, c, d].drop dx).length = 4 - dx := by simp
  apply ext_getD
  · rw [step1_length, step1_length, step1_length, step1_length]
    simp; omega
  · intro q hq
    have hql : q < l.length := by
      have : (l.take (n + cx) ++ (([a, b, c, d].drop dx).take (w - cx) ++ l.drop (n + cx + min (w - cx) ([a, b, c, d].drop dx).length))).length = l.length := by simp; omega
      omega
    rw [cut_at _ _ _ _ _ (by rw [hd4]; omega), hd4]
    simp only [step1_at, step1_length]
    have hg : ∀ t, ([a, b, c, d].drop dx).getD t 0 = [a, b, c, d].getD (dx + t) 0 := fun t => by simp [List.getD_eq_getElem?_getD, List.getElem?_drop]
    rw [hg]
    by_cases h3 : 0 ≤ x + 3 ∧ x + 3 < (w : Int) ∧ n + (x + 3).toNat = q ∧ q < l.length
    · rw [if_pos h3, if_neg (by omega), if_pos (by omega), show dx + (q - (n + cx)) = 3 by omega]; rfl
    · rw [if_neg h3]
      by_cases h2 : 0 ≤ x + 2 ∧ x + 2 < (w : Int) ∧ n + (x + 2).toNat = q ∧ q < l.length
      · rw [if_pos h2, if_neg (by omega), if_pos (by omega), show dx + (q - (n + cx)) = 2 by omega]; rfl
      · rw [if_neg h2]
        by_cases h1 : 0 ≤ x + 1 ∧ x + 1 < (w : Int) ∧ n + (x + 1).toNat = q ∧ q < l.length
        · rw [if_pos h1, if_neg (by omega), if_pos (by omega), show dx + (q - (n + cx)) = 1 by omega]; rfl
        · rw [if_neg h1]
          by_cases h0 : 0 ≤ x ∧ x < (w : Int) ∧ n + x.toNat = q ∧ q < l.length
          · rw [if_pos h0, if_neg (by omega), if_pos (by omega), show dx + (q - (n + cx)) = 0 by omega]; rfl
          · rw [if_neg h0]
            by_cases hA : q < n + cx
            · rw [if_pos hA]
            · rw [if_neg hA, if_neg (by omega)]
theorem put_step {f : FD} {p : Int} (x y : Int) (b : Nat → Int) (k : Nat) (hp : 0 ≤ p) (hp2 : p ≤ 2) (hy : 0 ≤ nearI y + ((k / 4 : Nat) : Int) ∧ nearI y + ((k / 4 : Nat) : Int) < (sizeF f p).2) :
    (putTo f p x y b (k + 1)).pl p = step1 ((putTo f p x y b k).pl p) ((nearI y + ((k / 4 : Nat) : Int)) * (sizeF f p).1).toNat (sizeF f p).1.toNat (nearI x + ((k % 4 : Nat) : Int)) (byteI (b k)) ∧ ∀ q, 0 ≤ q → q ≤ 2 → q ≠ p → (putTo f p x y b (k + 1)).pl q = (putTo f p x y b k).pl q := by
  have hb := size_bounds f p
  by_cases h : within (sizeF f p).1 (sizeF f p).2 (nearI x + ((k % 4 : Nat) : Int)) (nearI y + ((k / 4 : Nat) : Int))
  · have hc := within_cell h
    rw [put_in h]
    have hs := setp_pl (putTo f p x y b k) p ((nearI y + ((k / 4 : Nat) : Int)) * (sizeF f p).1 + (nearI x + ((k % 4 : Nat) : Int))).toNat (byteI (b k)) hp hp2
    refine ⟨?_, hs.2⟩
    rw [hs.1]
    unfold step1
    unfold within at h
    rw [if_pos ⟨h.1, by omega⟩, Int.toNat_add (by omega) (by omega)]
  · rw [put_out h]
    refine ⟨?_, fun _ _ _ _ => rfl⟩
    unfold step1
    unfold within at h
    rw [if_neg (by omega)]
theorem put_line {f : FD} {p : Int} (x y : Int) (b : Nat → Int) (i : Nat) (hp : 0 ≤ p) (hp2 : p ≤ 2) (hsz : (sizeF f p).1 ≠ 0) (hy : 0 ≤ nearI y + (i : Int) ∧ nearI y + (i : Int) < (sizeF f p).2) :
    (putTo f p x y b (4 * (i + 1))).pl p = layF ((putTo f p x y b (4 * i)).pl p) ((nearI y + (i : Int)) * (sizeF f p).1).toNat ((nearI y + (i : Int)) * (sizeF f p).1 + (sizeF f p).1).toNat (nearI x) [byteI (b (i * 4)), byteI (b (i * 4 + 1)), byteI (b (i * 4 + 2)), byteI (b (i * 4 + 3))] ∧ ∀ q, 0 ≤ q → q ≤ 2 → q ≠ p → (putTo f p x y b (4 * (i + 1))).pl q = (putTo f p x y b (4 * i)).pl q := by
  have hb := size_bounds f p
  have hin : within (sizeF f p).1 (sizeF f p).2 0 (nearI y + (i : Int)) := ⟨by omega, by omega, hy.1, hy.2⟩
  have hin2 : within (sizeF f p).1 (sizeF f p).2 ((sizeF f p).1 - 1) (nearI y + (i : Int)) := ⟨by omega, by omega, hy.1, hy.2⟩
  have hc := within_cell hin
  have hc2 := within_cell hin2
  have q0 : 4 * i / 4 = i := by omega
  have q1 : (4 * i + 1) / 4 = i := by omega
  have q2 : (4 * i + 2) / 4 = i := by omega
  have q3 : (4 * i + 3) / 4 = i := by omega
  have r0 : 4 * i % 4 = 0 := by omega
  have r1 : (4 * i + 1) % 4 = 1 := by omega
  have r2 : (4 * i + 2) % 4 = 2 := by omega
  have r3 : (4 * i + 3) % 4 = 3 := by omega
  have s0 := put_step (f := f) (p := p) x y b (4 * i) hp hp2 (by rw [q0]; exact hy)
  have s1 := put_step (f := f) (p := p) x y b (4 * i + 1) hp hp2 (by rw [q1]; exact hy)
  have s2 := put_step (f := f) (p := p) x y b (4 * i + 2) hp hp2 (by rw [q2]; exact hy)
  have s3 := put_step (f := f) (p := p) x y b (4 * i + 3) hp hp2 (by rw [q3]; exact hy)
  rw [q0, r0] at s0
  rw [q1, r1] at s1
  rw [q2, r2] at s2
  rw [q3, r3] at s3
  have hlen : ((putTo f p x y b (4 * i)).pl p).length = (f.pl p).length := by
    have h := put_lens x y b (4 * i) hsz
    have : p = 0 ∨ p = 1 ∨ p = 2 := by omega
    rcases this with rfl | rfl | rfl
    · exact h.1
    · exact h.2.1
    · exact h.2.2
  have e : ((nearI y + (i : Int)) * (sizeF f p).1 + (sizeF f p).1).toNat = ((nearI y + (i : Int)) * (sizeF f p).1).toNat + (sizeF f p).1.toNat := Int.toNat_add (by omega) (by omega)
  rw [show 4 * (i + 1) = 4 * i + 3 + 1 by omega]
  refine ⟨?_, fun q h0 h2 hq => by rw [s3.2 q h0 h2 hq, s2.2 q h0 h2 hq, s1.2 q h0 h2 hq, s0.2 q h0 h2 hq]⟩
  rw [e, lay_steps _ _ _ _ _ _ _ _ (by rw [hlen]; omega), s3.1, s2.1, s1.1, s0.1]
  rw [show i * 4 = 4 * i by omega]
  rw [show nearI x + ((0 : Nat) : Int) = nearI x by omega]
  rfl
theorem size_copy (f : FD) (p : Int) : sizeF (copyF f) p = sizeF f p := by
  by_cases h : okF f
  · rw [copyF_yes h]
  · rw [copyF_no h, sizeF_no (fun k => h k.1), sizeF_no (fun k => absurd k.1 (by decide))]
theorem put_skip {f : FD} {p x y : Int} {b : Nat → Int} {i : Nat} (h : ¬ (0 ≤ nearI y + (i : Int) ∧ nearI y + (i : Int) < (sizeF f p).2)) : putTo f p x y b (4 * (i + 1)) = putTo f p x y b (4 * i) := by
  rw [show 4 * (i + 1) = 4 * i + 3 + 1 by omega]
  rw [put_out (k := 4 * i + 3) (by unfold within; rw [show (4 * i + 3) / 4 = i by omega]; omega), put_out (k := 4 * i + 2) (by unfold within; rw [show (4 * i + 2) / 4 = i by omega]; omega), put_out (k := 4 * i + 1) (by unfold within; rw [show (4 * i + 1) / 4 = i by omega]; omega), put_out (k := 4 * i) (by unfold within; rw [show (4 * i) / 4 = i by omega]; omega)]
end Go.Proofs.YtknjpdcpmpfklaaGreatDoor
