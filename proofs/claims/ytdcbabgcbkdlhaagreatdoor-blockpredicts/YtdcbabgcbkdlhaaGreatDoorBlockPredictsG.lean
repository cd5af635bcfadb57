/- What BlockPredicts reaches of my texts, part 7. -/
import Derived.Test.YtdcbabgcbkdlhaaGreatDoorBlockPredictsF
set_option maxRecDepth 100000
set_option maxRecDepth 100000
namespace Go.Proofs.YtdcbabgcbkdlhaaGreatDoor
open Go.RowKit

def actFrom (m : Int) : Int := if m < 4 then 0 else if m = 4 then 1 else 2
def actL : List Value := [.int .i64 0, .bool false, .bool false, .int .i64 0, .bool false, .bool false, .int .i64 0, .bool false, .bool false, .int .i64 0, .bool false, .bool false, .int .i64 1, .bool true, .bool false, .int .i64 2, .bool false, .bool true, .int .i64 2, .bool true, .bool true]
def ActsIn (w : World) : Prop := 4 ≤ w.heap.size ∧ ∀ i, i < 21 → w.cell? ⟨0, i, none⟩ = actL[i]?
theorem ActsIn.but {w w' : World} {T : Nat → Prop} (h : ActsIn w) (k : Kept T w w') (ha : ∀ i, T i → 4 ≤ i) : ActsIn w' :=
  ⟨Nat.le_trans h.1 k.size, fun i hi => (k.cell0 (Nat.lt_of_lt_of_le (by decide) h.1) (fun x => absurd (ha _ x) (by decide))).trans (h.2 i hi)⟩
theorem ActsIn.all {w w' : World} (h : ActsIn w) (k : Kept (fun _ => False) w w') : ActsIn w' := h.but k (fun _ x => x.elim)
theorem aboveN {w0 : World} {T : Nat → Prop} (g : Grew w0 noB T) (h : ActsIn w0) : ∀ i, T i → 4 ≤ i := fun i hi => by
  have := h.1
  rcases g i hi with h1 | h1
  · exact h1.elim
  · omega
theorem aboveN2 {w0 : World} {B T : Nat → Prop} (g : Grew w0 B T) (hB : ∀ i, B i → 4 ≤ i) (h : ActsIn w0) : ∀ i, T i → 4 ≤ i := fun i hi => by
  have := h.1
  rcases g i hi with h1 | h1
  · exact hB i h1
  · omega
theorem ovO {T : Nat → Prop} (h : ∀ i, T i → 4 ≤ i) : ∀ i, T i → 1 < i := fun i hi => Nat.lt_of_lt_of_le (by decide) (h i hi)
theorem acts_all {w : World} (h : ActsIn w) {m : Int} (hm : 0 ≤ m ∧ m < 7) : w.cell? ⟨0, 0 + (m).toNat * 3, none⟩ = some (.int .i64 (actFrom m)) ∧ w.cell? ⟨0, 0 + (m).toNat * 3 + 1, none⟩ = some (.bool (pastB m)) ∧ w.cell? ⟨0, 0 + (m).toNat * 3 + 2, none⟩ = some (.bool (nextB m)) := by
  have hc : m = 0 ∨ m = 1 ∨ m = 2 ∨ m = 3 ∨ m = 4 ∨ m = 5 ∨ m = 6 := by omega
  rcases hc with rfl | rfl | rfl | rfl | rfl | rfl | rfl <;> exact ⟨(h.2 _ (by decide)).trans rfl, (h.2 _ (by decide)).trans rfl, (h.2 _ (by decide)).trans rfl⟩
theorem has_iff (k m : Int) : 0 ≤ m ∧ m < 7 → (actFrom m ≤ k ∧ k ≤ 2 ↔ m ≤ mostK k) := by
  rintro ⟨h1, h2⟩
  have ha : actFrom m = 0 ∧ m < 4 ∨ actFrom m = 1 ∧ m = 4 ∨ actFrom m = 2 ∧ 4 < m := by
    unfold actFrom
    by_cases h3 : m < 4
    · rw [if_pos h3]; omega
    · rw [if_neg h3]
      by_cases h4 : m = 4
      · rw [if_pos h4]; omega
      · rw [if_neg h4]; omega
  have hk : k = 0 ∧ mostK k = 3 ∨ k = 1 ∧ mostK k = 4 ∨ k = 2 ∧ mostK k = 6 ∨ (k < 0 ∨ 2 < k) ∧ mostK k = -1 := by
    unfold mostK
    by_cases h3 : k = 0
    · rw [if_pos h3]; omega
    · rw [if_neg h3]
      by_cases h4 : k = 1
      · rw [if_pos h4]; omega
      · rw [if_neg h4]
        by_cases h5 : k = 2
        · rw [if_pos h5]; omega
        · rw [if_neg h5]; omega
  omega
set_option maxHeartbeats 4000000 in
set_option maxRecDepth 100000 in
theorem bl_known (m : Int) (w0 : World) :
  Calls Tryz.prog 16 #[.int .i64 (m)] w0 fun e w' => e = .returned (.bool (decide (0 ≤ m ∧ m < 7))) ∧ Kept (fun _ => False) w0 w' := by
 refine calls_wq (args := [.int .i64 (m)]) 9 Tryz.func16 rfl rfl (Nat.le_of_ble_eq_true rfl) ?_
 have K0 := Kept.refl (fun _ => False) w0
 refine wq_seq ?_
 refine wq_region ?_
 refine wl_v (.bool false) rfl rfl (y_asg rfl rfl ⟨rfl, rfl⟩) ?_
 refine wl_nil fun F1 hF2 => ?_
 have s3 : F1 0 = .int .i64 (m) := (hF2 0).trans rfl
 have s4 : F1 9 = undef := (hF2 9).trans rfl
 clear hF2
 refine then_normal ?_
 refine wq_seq ?_
 by_cases d5 : (0) ≤ (m)
 ·skip
  refine wq_region ?_
  refine wl_v (.int .i64 (m)) rfl rfl (y_mov rfl s3 ⟨rfl, rfl⟩) ?_
  refine wl_v (.bool true) rfl rfl (y_geq rfl rfl rfl (decide_eq_true d5) ⟨rfl, rfl⟩) ?_
  refine wl_v (.bool true) rfl rfl (y_mov rfl rfl ⟨rfl, rfl⟩) ?_
  refine wl_vw (.int .i64 (m)) 2 true 5 rfl rfl rfl rfl rfl (y_mov rfl s3 ⟨rfl, rfl⟩) ?_
  refine wl_vw (.bool (decide ((m) < (7)))) 2 true 5 rfl rfl rfl rfl rfl (y_lss rfl rfl rfl rfl ⟨rfl, rfl⟩) ?_
  refine wl_v (.bool (decide ((m) < (7)))) rfl rfl (y_pickT rfl rfl rfl ⟨rfl, rfl⟩) ?_
  refine wl_v (.bool (decide ((m) < (7)))) rfl rfl (y_asg rfl rfl ⟨rfl, rfl⟩) ?_
  refine wl_nil fun F6 hF7 => ?_
  have s8 := (hF7 9).trans s4
  have s9 : F6 2 = .bool (decide ((m) < (7))) := (hF7 2).trans rfl
  clear hF7
  refine then_normal ?_
  refine wq_ret ?_
  exact end_tmp (v := .bool (decide ((m) < (7)))) s8 rfl rfl s9 ⟨(retB (by first | exact (decide_eq_true (by omega)).symm | exact (decide_eq_false (by omega)).symm | exact decide_eq_decide.2 (by omega))), K0⟩
 ·skip
  refine wq_region ?_
  refine wl_v (.int .i64 (m)) rfl rfl (y_mov rfl s3 ⟨rfl, rfl⟩) ?_
  refine wl_v (.bool false) rfl rfl (y_geq rfl rfl rfl (decide_eq_false d5) ⟨rfl, rfl⟩) ?_
  refine wl_v (.bool false) rfl rfl (y_mov rfl rfl ⟨rfl, rfl⟩) ?_
  refine wl_unless 2 true 5 rfl rfl rfl (Or.inl rfl) rfl ?_
  refine wl_unless 2 true 5 rfl rfl rfl (Or.inl rfl) rfl ?_
  refine wl_v (.bool false) rfl rfl (y_pickF rfl rfl rfl ⟨rfl, rfl⟩) ?_
  refine wl_v (.bool false) rfl rfl (y_asg rfl rfl ⟨rfl, rfl⟩) ?_
  refine wl_nil fun F10 hF11 => ?_
  have s12 := (hF11 9).trans s4
  have s13 : F10 2 = .bool false := (hF11 2).trans rfl
  clear hF11
  refine then_normal ?_
  refine wq_ret ?_
  exact end_tmp (v := .bool false) s12 rfl rfl s13 ⟨(retB (by first | exact (decide_eq_true (by omega)).symm | exact (decide_eq_false (by omega)).symm | exact decide_eq_decide.2 (by omega))), K0⟩
set_option maxHeartbeats 4000000 in
set_option maxRecDepth 100000 in
theorem bl_has (k m : Int) (w0 : World) (hA : ActsIn w0) :
  Calls Tryz.prog 34 #[.int .i64 (k), .int .i64 (m)] w0 fun e w' => e = .returned (.bool (decide (0 ≤ m ∧ m ≤ mostK k))) ∧ Kept (fun _ => False) w0 w' := by
 refine calls_wq (args := [.int .i64 (k), .int .i64 (m)]) 19 Tryz.func34 rfl rfl (Nat.le_of_ble_eq_true rfl) ?_
 have K0 := Kept.refl (fun _ => False) w0
 have hk6 := mostK_le k
 have hif := has_iff k m
 refine wq_seq ?_
 refine wq_region ?_
 refine wl_v (.bool false) rfl rfl (y_asg rfl rfl ⟨rfl, rfl⟩) ?_
 refine wl_nil fun F1 hF2 => ?_
 have s3 : F1 0 = .int .i64 (k) := (hF2 0).trans rfl
 have s4 : F1 1 = .int .i64 (m) := (hF2 1).trans rfl
 have s5 : F1 19 = undef := (hF2 19).trans rfl
 clear hF2
 refine then_normal ?_
 refine wq_seq ?_
 by_cases d6 : 0 ≤ (m) ∧ (m) < 7
 ·skip
  by_cases d7 : (actFrom m) ≤ (k)
  ·skip
   refine wq_region ?_
   refine wl_v (.int .i64 (m)) rfl rfl (y_mov rfl s4 ⟨rfl, rfl⟩) ?_
   refine wl_call (R := fun v_ w_ => v_ = .bool true ∧ Kept (fun _ => False) w0 w_) rfl rfl (y_cs rfl rfl rfl (fun _ _ => by kernel_rfl) (ev_func _) (vsC rfl vsN) (bl_known (m)  _   ) (fun e_ w_ h_ => ⟨_, h_.1, (congrArg Value.bool (decide_eq_true d6)), h_.2⟩)) ?_
   rintro _ w8 ⟨rfl, k9⟩
   have K10 := K0.trans k9 (fun _ _ x => x.elim)
   refine wl_v (.bool true) rfl rfl (y_mov rfl rfl ⟨rfl, rfl⟩) ?_
   refine wl_vw (.int .i64 (k)) 2 true 7 rfl rfl rfl rfl rfl (y_mov rfl s3 ⟨rfl, rfl⟩) ?_
   refine wl_vw (.int .i64 (m)) 2 true 7 rfl rfl rfl rfl rfl (y_mov rfl s4 ⟨rfl, rfl⟩) ?_
   refine wl_vw (.pointer (some ⟨0, 0 + ((m).toNat) * 3, none⟩)) 2 true 7 rfl rfl rfl rfl rfl (y_atR ((m).toNat) (s := 3) rfl rfl rfl (by omega) Tryz.underlying67 (by omega) (by kernel_rfl) (by omega) ⟨rfl, rfl⟩) ?_
   refine wl_vw (.pointer (some ⟨0, 0 + ((m).toNat) * 3, none⟩)) 2 true 7 rfl rfl rfl rfl rfl (y_fieldR (n := 1) rfl rfl Tryz.underlying66 rfl (by kernel_rfl) (by decide) rfl ⟨rfl, rfl⟩) ?_
   refine wl_vw (.int .i64 (actFrom m)) 2 true 7 rfl rfl rfl rfl rfl (y_ldR rfl rfl Tryz.underlying3 ((acts_all (hA.all K10) (by assumption)).1) ⟨rfl, rfl⟩) ?_
   refine wl_vw (.bool true) 2 true 7 rfl rfl rfl rfl rfl (y_geq rfl rfl rfl (decide_eq_true d7) ⟨rfl, rfl⟩) ?_
   refine wl_v (.bool true) rfl rfl (y_pickT rfl rfl rfl ⟨rfl, rfl⟩) ?_
   refine wl_v (.bool true) rfl rfl (y_mov rfl rfl ⟨rfl, rfl⟩) ?_
   refine wl_vw (.int .i64 (k)) 10 true 15 rfl rfl rfl rfl rfl (y_mov rfl s3 ⟨rfl, rfl⟩) ?_
   refine wl_vw (.bool (decide ((k) ≤ (2)))) 10 true 15 rfl rfl rfl rfl rfl (y_leq rfl rfl rfl rfl ⟨rfl, rfl⟩) ?_
   refine wl_v (.bool (decide ((k) ≤ (2)))) rfl rfl (y_pickT rfl rfl rfl ⟨rfl, rfl⟩) ?_
   refine wl_v (.bool (decide ((k) ≤ (2)))) rfl rfl (y_asg rfl rfl ⟨rfl, rfl⟩) ?_
   refine wl_nil fun F11 hF12 => ?_
   have s13 := (hF12 19).trans s5
   have s14 : F11 4 = .bool (decide ((k) ≤ (2))) := (hF12 4).trans rfl
   clear hF12
   refine then_normal ?_
   refine wq_ret ?_
   exact end_tmp (v := .bool (decide ((k) ≤ (2)))) s13 rfl rfl s14 ⟨(retB (by first | exact (decide_eq_true (by omega)).symm | exact (decide_eq_false (by omega)).symm | exact decide_eq_decide.2 (by omega))), K10⟩
  ·skip
   refine wq_region ?_
   refine wl_v (.int .i64 (m)) rfl rfl (y_mov rfl s4 ⟨rfl, rfl⟩) ?_
   refine wl_call (R := fun v_ w_ => v_ = .bool true ∧ Kept (fun _ => False) w0 w_) rfl rfl (y_cs rfl rfl rfl (fun _ _ => by kernel_rfl) (ev_func _) (vsC rfl vsN) (bl_known (m)  _   ) (fun e_ w_ h_ => ⟨_, h_.1, (congrArg Value.bool (decide_eq_true d6)), h_.2⟩)) ?_
   rintro _ w15 ⟨rfl, k16⟩
   have K17 := K0.trans k16 (fun _ _ x => x.elim)
   refine wl_v (.bool true) rfl rfl (y_mov rfl rfl ⟨rfl, rfl⟩) ?_
   refine wl_vw (.int .i64 (k)) 2 true 7 rfl rfl rfl rfl rfl (y_mov rfl s3 ⟨rfl, rfl⟩) ?_
   refine wl_vw (.int .i64 (m)) 2 true 7 rfl rfl rfl rfl rfl (y_mov rfl s4 ⟨rfl, rfl⟩) ?_
   refine wl_vw (.pointer (some ⟨0, 0 + ((m).toNat) * 3, none⟩)) 2 true 7 rfl rfl rfl rfl rfl (y_atR ((m).toNat) (s := 3) rfl rfl rfl (by omega) Tryz.underlying67 (by omega) (by kernel_rfl) (by omega) ⟨rfl, rfl⟩) ?_
   refine wl_vw (.pointer (some ⟨0, 0 + ((m).toNat) * 3, none⟩)) 2 true 7 rfl rfl rfl rfl rfl (y_fieldR (n := 1) rfl rfl Tryz.underlying66 rfl (by kernel_rfl) (by decide) rfl ⟨rfl, rfl⟩) ?_
   refine wl_vw (.int .i64 (actFrom m)) 2 true 7 rfl rfl rfl rfl rfl (y_ldR rfl rfl Tryz.underlying3 ((acts_all (hA.all K17) (by assumption)).1) ⟨rfl, rfl⟩) ?_
   refine wl_vw (.bool false) 2 true 7 rfl rfl rfl rfl rfl (y_geq rfl rfl rfl (decide_eq_false d7) ⟨rfl, rfl⟩) ?_
   refine wl_v (.bool false) rfl rfl (y_pickT rfl rfl rfl ⟨rfl, rfl⟩) ?_
   refine wl_v (.bool false) rfl rfl (y_mov rfl rfl ⟨rfl, rfl⟩) ?_
   refine wl_unless 10 true 15 rfl rfl rfl (Or.inl rfl) rfl ?_
   refine wl_unless 10 true 15 rfl rfl rfl (Or.inl rfl) rfl ?_
   refine wl_v (.bool false) rfl rfl (y_pickF rfl rfl rfl ⟨rfl, rfl⟩) ?_
   refine wl_v (.bool false) rfl rfl (y_asg rfl rfl ⟨rfl, rfl⟩) ?_
   refine wl_nil fun F18 hF19 => ?_
   have s20 := (hF19 19).trans s5
   have s21 : F18 4 = .bool false := (hF19 4).trans rfl
   clear hF19
   refine then_normal ?_
   refine wq_ret ?_
   exact end_tmp (v := .bool false) s20 rfl rfl s21 ⟨(retB (by first | exact (decide_eq_true (by omega)).symm | exact (decide_eq_false (by omega)).symm | exact decide_eq_decide.2 (by omega))), K17⟩
 ·skip
  refine wq_region ?_
  refine wl_v (.int .i64 (m)) rfl rfl (y_mov rfl s4 ⟨rfl, rfl⟩) ?_
  refine wl_call (R := fun v_ w_ => v_ = .bool false ∧ Kept (fun _ => False) w0 w_) rfl rfl (y_cs rfl rfl rfl (fun _ _ => by kernel_rfl) (ev_func _) (vsC rfl vsN) (bl_known (m)  _   ) (fun e_ w_ h_ => ⟨_, h_.1, (congrArg Value.bool (decide_eq_false d6)), h_.2⟩)) ?_
  rintro _ w22 ⟨rfl, k23⟩
  have K24 := K0.trans k23 (fun _ _ x => x.elim)
  refine wl_v (.bool false) rfl rfl (y_mov rfl rfl ⟨rfl, rfl⟩) ?_
  refine wl_unless 2 true 7 rfl rfl rfl (Or.inl rfl) rfl ?_
  refine wl_unless 2 true 7 rfl rfl rfl (Or.inl rfl) rfl ?_
  refine wl_unless 2 true 7 rfl rfl rfl (Or.inl rfl) rfl ?_
  refine wl_unless 2 true 7 rfl rfl rfl (Or.inl rfl) rfl ?_
  refine wl_unless 2 true 7 rfl rfl rfl (Or.inl rfl) rfl ?_
  refine wl_unless 2 true 7 rfl rfl rfl (Or.inl rfl) rfl ?_
  refine wl_v (.bool false) rfl rfl (y_pickF rfl rfl rfl ⟨rfl, rfl⟩) ?_
  refine wl_v (.bool false) rfl rfl (y_mov rfl rfl ⟨rfl, rfl⟩) ?_
  refine wl_unless 10 true 15 rfl rfl rfl (Or.inl rfl) rfl ?_
  refine wl_unless 10 true 15 rfl rfl rfl (Or.inl rfl) rfl ?_
  refine wl_v (.bool false) rfl rfl (y_pickF rfl rfl rfl ⟨rfl, rfl⟩) ?_
  refine wl_v (.bool false) rfl rfl (y_asg rfl rfl ⟨rfl, rfl⟩) ?_
  refine wl_nil fun F25 hF26 => ?_
  have s27 := (hF26 19).trans s5
  have s28 : F25 4 = .bool false := (hF26 4).trans rfl
  clear hF26
  refine then_normal ?_
  refine wq_ret ?_
  exact end_tmp (v := .bool false) s27 rfl rfl s28 ⟨(retB (by first | exact (decide_eq_true (by omega)).symm | exact (decide_eq_false (by omega)).symm | exact decide_eq_decide.2 (by omega))), K24⟩
theorem past_out {m : Int} (h : ¬ (0 ≤ m ∧ m < 7)) : pastB m = false ∧ nextB m = false := by
  unfold pastB nextB; rw [decide_eq_false (by omega : ¬ m = 4), decide_eq_false (by omega : ¬ m = 5), decide_eq_false (by omega : ¬ m = 6)]; exact ⟨rfl, rfl⟩
set_option maxHeartbeats 4000000 in
set_option maxRecDepth 100000 in
theorem bl_vectors (m : Int) (w0 : World) (hA : ActsIn w0) :
  Calls Tryz.prog 10 #[.int .i64 (m)] w0 fun e w' => e = .returned (.tuple #[.bool (pastB m), .bool (nextB m)]) ∧ Kept (fun _ => False) w0 w' := by
 refine calls_wq (args := [.int .i64 (m)]) 15 Tryz.func10 rfl rfl (Nat.le_of_ble_eq_true rfl) ?_
 have K0 := Kept.refl (fun _ => False) w0
 refine wq_seq ?_
 refine wq_region ?_
 refine wl_v (.bool false) rfl rfl (y_asg rfl rfl ⟨rfl, rfl⟩) ?_
 refine wl_v (.bool false) rfl rfl (y_asg rfl rfl ⟨rfl, rfl⟩) ?_
 refine wl_nil fun F1 hF2 => ?_
 have s3 : F1 0 = .int .i64 (m) := (hF2 0).trans rfl
 have s4 : F1 15 = undef := (hF2 15).trans rfl
 clear hF2
 refine then_normal ?_
 refine wq_seq ?_
 refine wq_seq ?_
 by_cases d5 : 0 ≤ (m) ∧ (m) < 7
 ·skip
  refine wq_region ?_
  refine wl_v (.int .i64 (m)) rfl rfl (y_mov rfl s3 ⟨rfl, rfl⟩) ?_
  refine wl_call (R := fun v_ w_ => v_ = .bool true ∧ Kept (fun _ => False) w0 w_) rfl rfl (y_cs rfl rfl rfl (fun _ _ => by kernel_rfl) (ev_func _) (vsC rfl vsN) (bl_known (m)  _   ) (fun e_ w_ h_ => ⟨_, h_.1, (congrArg Value.bool (decide_eq_true d5)), h_.2⟩)) ?_
  rintro _ w6 ⟨rfl, k7⟩
  have K8 := K0.trans k7 (fun _ _ x => x.elim)
  refine wl_v (.bool false) rfl rfl (y_not rfl rfl rfl ⟨rfl, rfl⟩) ?_
  refine wl_nil fun F9 hF10 => ?_
  have s11 := (hF10 0).trans s3
  have s12 := (hF10 15).trans s4
  have s13 : F9 6 = .bool false := (hF10 6).trans rfl
  clear hF10
  refine then_normal ?_
  refine wq_cond (t := false) s13 (fun e => by cases e) (fun _ => ?_)
  refine wq_skip ?_
  refine then_normal ?_
  refine wq_seq ?_
  have hm7 : 0 ≤ m ∧ m < 7 := by first | assumption | (apply Decidable.byContradiction; assumption)
  refine wq_said [some 7, some 8, some 9, some 10, some 11, some 12, some 13, some 14, some 2, some 3] [Pd.eq (.int .i64 (m)), Pd.eq (.pointer (some ⟨0, 0 + ((m).toNat) * 3, none⟩)), Pd.eq (.pointer (some ⟨0, 0 + ((m).toNat) * 3 + 1, none⟩)), Pd.eq (.bool (pastB m)), Pd.eq (.int .i64 (m)), Pd.eq (.pointer (some ⟨0, 0 + ((m).toNat) * 3, none⟩)), Pd.eq (.pointer (some ⟨0, 0 + ((m).toNat) * 3 + 2, none⟩)), Pd.eq (.bool (nextB m)), Pd.eq (.bool (pastB m)), Pd.eq (.bool (nextB m))] (by kernel_rfl) (by kernel_rfl) ?_ ?_
  ·refine stepsF_cons ?_ ?_
   ·refine StepF.one rfl fun F_ w_ hR hout hD => ?_
    exact (y_mov rfl ((hout 0 rfl (by decide)).trans s11) ⟨rfl, Kept.refl _ _⟩)
   refine stepsF_cons ?_ ?_
   ·refine StepF.one rfl fun F_ w_ hR hout hD => ?_
    have g7 : F_ 7 = .int .i64 (m) := (hD.get 0 rfl rfl rfl)
    exact (y_atR ((m).toNat) (s := 3) rfl rfl g7 (by omega) Tryz.underlying67 (by omega) (by kernel_rfl) (by omega) ⟨rfl, Kept.refl _ _⟩)
   refine stepsF_cons ?_ ?_
   ·refine StepF.one rfl fun F_ w_ hR hout hD => ?_
    have g8 : F_ 8 = .pointer (some ⟨0, 0 + ((m).toNat) * 3, none⟩) := (hD.get 0 rfl rfl rfl)
    exact (y_fieldR (n := 1) rfl g8 Tryz.underlying66 rfl (by kernel_rfl) (by decide) rfl ⟨rfl, Kept.refl _ _⟩)
   refine stepsF_cons ?_ ?_
   ·refine StepF.one rfl fun F_ w_ hR hout hD => ?_
    have g9 : F_ 9 = .pointer (some ⟨0, 0 + ((m).toNat) * 3 + 1, none⟩) := (hD.get 0 rfl rfl rfl)
    exact (y_ldA rfl g9 Tryz.underlying4 rfl ((acts_all (hA.all (K8.trans hR (fun _ _ x => x.elim))) hm7).2.1) ⟨rfl, Kept.refl _ _⟩)
   refine stepsF_cons ?_ ?_
   ·refine StepF.one rfl fun F_ w_ hR hout hD => ?_
    exact (y_mov rfl ((hout 0 rfl (by decide)).trans s11) ⟨rfl, Kept.refl _ _⟩)
   refine stepsF_cons ?_ ?_
   ·refine StepF.one rfl fun F_ w_ hR hout hD => ?_
    have g11 : F_ 11 = .int .i64 (m) := (hD.get 0 rfl rfl rfl)
    exact (y_atR ((m).toNat) (s := 3) rfl rfl g11 (by omega) Tryz.underlying67 (by omega) (by kernel_rfl) (by omega) ⟨rfl, Kept.refl _ _⟩)
   refine stepsF_cons ?_ ?_
   ·refine StepF.one rfl fun F_ w_ hR hout hD => ?_
    have g12 : F_ 12 = .pointer (some ⟨0, 0 + ((m).toNat) * 3, none⟩) := (hD.get 0 rfl rfl rfl)
    exact (y_fieldR (n := 1) rfl g12 Tryz.underlying66 rfl (by kernel_rfl) (by decide) rfl ⟨rfl, Kept.refl _ _⟩)
   refine stepsF_cons ?_ ?_
   ·refine StepF.one rfl fun F_ w_ hR hout hD => ?_
    have g13 : F_ 13 = .pointer (some ⟨0, 0 + ((m).toNat) * 3 + 2, none⟩) := (hD.get 0 rfl rfl rfl)
    exact (y_ldA rfl g13 Tryz.underlying4 rfl ((acts_all (hA.all (K8.trans hR (fun _ _ x => x.elim))) hm7).2.2) ⟨rfl, Kept.refl _ _⟩)
   refine stepsF_cons ?_ ?_
   ·refine StepF.one rfl fun F_ w_ hR hout hD => ?_
    have g10 : F_ 10 = .bool (pastB m) := (hD.get 0 rfl rfl rfl)
    exact (y_asg rfl g10 ⟨rfl, Kept.refl _ _⟩)
   refine stepsF_cons ?_ ?_
   ·refine StepF.one rfl fun F_ w_ hR hout hD => ?_
    have g14 : F_ 14 = .bool (nextB m) := (hD.get 0 rfl rfl rfl)
    exact (y_asg rfl g14 ⟨rfl, Kept.refl _ _⟩)
   exact stepsF_nil
  intro v14 F15 w16 k17 G18 hF19
  have K21 := K8.trans k17 (fun _ _ x => x.elim)
  have s22 := (hF19 15).trans s12
  have s23 : F15 2 = .bool (pastB m) := (hF19 2).trans (G18 8 (by decide))
  have s24 : F15 3 = .bool (nextB m) := (hF19 3).trans (G18 9 (by decide))
  clear G18 hF19
  refine then_normal ?_
  refine wq_ret ?_
  exact end_2 s22 rfl (res_tmp (v := .bool (pastB m)) rfl s23) (res_tmp (v := .bool (nextB m)) rfl s24) ⟨(by first | rfl | rw [hpo.1, hpo.2]), K21⟩
 ·skip
  refine wq_region ?_
  refine wl_v (.int .i64 (m)) rfl rfl (y_mov rfl s3 ⟨rfl, rfl⟩) ?_
  refine wl_call (R := fun v_ w_ => v_ = .bool false ∧ Kept (fun _ => False) w0 w_) rfl rfl (y_cs rfl rfl rfl (fun _ _ => by kernel_rfl) (ev_func _) (vsC rfl vsN) (bl_known (m)  _   ) (fun e_ w_ h_ => ⟨_, h_.1, (congrArg Value.bool (decide_eq_false d5)), h_.2⟩)) ?_
  rintro _ w25 ⟨rfl, k26⟩
  have K27 := K0.trans k26 (fun _ _ x => x.elim)
  refine wl_v (.bool true) rfl rfl (y_not rfl rfl rfl ⟨rfl, rfl⟩) ?_
  refine wl_nil fun F28 hF29 => ?_
  have s31 := (hF29 15).trans s4
  have s32 : F28 6 = .bool true := (hF29 6).trans rfl
  clear hF29
  refine then_normal ?_
  refine wq_cond (t := true) s32 (fun _ => ?_) (fun e => by cases e)
  refine wq_seq ?_
  have hpo := past_out (m := m) (by assumption)
  refine wq_region ?_
  refine wl_v (.bool false) rfl rfl (y_asg rfl rfl ⟨rfl, rfl⟩) ?_
  refine wl_v (.bool false) rfl rfl (y_asg rfl rfl ⟨rfl, rfl⟩) ?_
  refine wl_nil fun F33 hF34 => ?_
  have s35 := (hF34 15).trans s31
  have s36 : F33 2 = .bool false := (hF34 2).trans rfl
  have s37 : F33 3 = .bool false := (hF34 3).trans rfl
  clear hF34
  refine then_normal ?_
  refine wq_ret ?_
  refine then_ret ?_
  exact end_2 s35 rfl (res_tmp (v := .bool false) rfl s36) (res_tmp (v := .bool false) rfl s37) ⟨(by first | rfl | rw [hpo.1, hpo.2]), K27⟩
def bareB (c : Ch) : Bool := (pastB c.m || sameVec c.px c.py 0 0) && (nextB c.m || sameVec c.nx c.ny 0 0)
set_option maxHeartbeats 4000000 in
set_option maxRecDepth 100000 in
theorem bl_bare (c : Ch) (w0 : World) (hA : ActsIn w0) :
  Calls Tryz.prog 37 #[.agg (chW (c)).toArray] w0 fun e w' => e = .returned (.bool (bareB c)) ∧ Kept (fun _ => False) w0 w' := by
 refine calls_wq (args := [.agg (chW (c)).toArray]) 27 Tryz.func37 rfl rfl (Nat.le_of_ble_eq_true rfl) ?_
 have K0 := Kept.refl (fun _ => False) w0
 refine wq_seq ?_
 refine wq_region ?_
 refine wl_box_stc (vs := (chW (c))) rfl rfl rfl rfl fun p1 w2 B4 g5 k3 => ?_
 have K7 := K0.trans k3 (fun _ _ x => x.elim)
 refine wl_v (.bool false) rfl rfl (y_asg rfl rfl ⟨rfl, rfl⟩) ?_
 refine wl_nil fun F8 hF9 => ?_
 have s10 : F8 27 = undef := (hF9 27).trans rfl
 have s11 : F8 1 = .pointer (some ⟨p1, 0, none⟩) := (hF9 1).trans rfl
 clear hF9
 refine then_normal ?_
 refine wq_seq ?_
 refine wq_region ?_
 refine wl_v (.pointer (some ⟨p1, 0, none⟩)) rfl rfl (y_fieldR (n := 1) rfl s11 Tryz.underlying31 rfl (by kernel_rfl) (by decide) rfl ⟨rfl, rfl⟩) ?_
 refine wl_v (.int .i64 ((c).m)) rfl rfl (y_ld_stc rfl rfl Tryz.underlying3 B4 rfl rfl ⟨rfl, rfl⟩) ?_
 refine wl_call (R := fun v_ w_ => v_ = .tuple #[.bool (pastB ((c).m)), .bool (nextB ((c).m))] ∧ Kept (fun _ => False) w2 w_) rfl rfl (y_cs rfl rfl rfl (fun _ _ => by kernel_rfl) (ev_func _) (vsC rfl vsN) (bl_vectors ((c).m)  _ (hA.all K7)  ) (fun e_ w_ h_ => ⟨_, h_.1, rfl, h_.2⟩)) ?_
 rintro _ w12 ⟨rfl, k13⟩
 have B14 := B4.all k13 id
 have K15 := K7.trans k13 (fun _ _ x => x.elim)
 refine wl_v (.tuple #[.bool (pastB ((c).m)), .bool (nextB ((c).m))]) rfl rfl (y_mov rfl rfl ⟨rfl, rfl⟩) ?_
 refine wl_v (.bool (pastB ((c).m))) rfl rfl (y_ext rfl rfl rfl ⟨rfl, rfl⟩) ?_
 refine wl_v (.bool (nextB ((c).m))) rfl rfl (y_ext rfl rfl rfl ⟨rfl, rfl⟩) ?_
 refine wl_v (.bool (pastB ((c).m))) rfl rfl (y_asg rfl rfl ⟨rfl, rfl⟩) ?_
 refine wl_v (.bool (nextB ((c).m))) rfl rfl (y_asg rfl rfl ⟨rfl, rfl⟩) ?_
 refine wl_nil fun F16 hF17 => ?_
 have s18 := (hF17 27).trans s10
 have s19 := (hF17 1).trans s11
 have s20 : F16 3 = .bool (pastB ((c).m)) := (hF17 3).trans rfl
 have s21 : F16 4 = .bool (nextB ((c).m)) := (hF17 4).trans rfl
 clear hF17
 refine then_normal ?_
 refine wq_seq ?_
 rcases Bool.eq_false_or_eq_true (pastB ((c).m)) with d22 | d22
 ·skip
  rcases Bool.eq_false_or_eq_true (nextB ((c).m)) with d23 | d23
  ·skip
   refine wq_region ?_
   refine wl_v (.bool true) rfl rfl (y_mov rfl (Eq.trans s20 (congrArg Value.bool (d22))) ⟨rfl, rfl⟩) ?_
   refine wl_v (.bool true) rfl rfl (y_mov rfl rfl ⟨rfl, rfl⟩) ?_
   refine wl_unless 1 false 12 rfl rfl rfl (Or.inl rfl) rfl ?_
   refine wl_unless 1 false 12 rfl rfl rfl (Or.inl rfl) rfl ?_
   refine wl_unless 1 false 12 rfl rfl rfl (Or.inl rfl) rfl ?_
   refine wl_unless 1 false 12 rfl rfl rfl (Or.inl rfl) rfl ?_
   refine wl_v (.bool true) rfl rfl (y_pickT rfl rfl rfl ⟨rfl, rfl⟩) ?_
   refine wl_v (.bool true) rfl rfl (y_mov rfl rfl ⟨rfl, rfl⟩) ?_
   refine wl_vw (.bool true) 7 true 18 rfl rfl rfl rfl rfl (y_mov rfl (Eq.trans s21 (congrArg Value.bool (d23))) ⟨rfl, rfl⟩) ?_
   refine wl_vw (.bool true) 7 true 18 rfl rfl rfl rfl rfl (y_mov rfl rfl ⟨rfl, rfl⟩) ?_
   refine wl_unless 9 false 20 rfl rfl rfl (Or.inl rfl) rfl ?_
   refine wl_unless 9 false 20 rfl rfl rfl (Or.inl rfl) rfl ?_
   refine wl_unless 9 false 20 rfl rfl rfl (Or.inl rfl) rfl ?_
   refine wl_unless 9 false 20 rfl rfl rfl (Or.inl rfl) rfl ?_
   refine wl_vw (.bool true) 7 true 18 rfl rfl rfl rfl rfl (y_pickT rfl rfl rfl ⟨rfl, rfl⟩) ?_
   refine wl_v (.bool true) rfl rfl (y_pickT rfl rfl rfl ⟨rfl, rfl⟩) ?_
   refine wl_v (.bool true) rfl rfl (y_asg rfl rfl ⟨rfl, rfl⟩) ?_
   refine wl_nil fun F24 hF25 => ?_
   have s26 := (hF25 27).trans s18
   have s27 : F24 2 = .bool true := (hF25 2).trans rfl
   clear hF25
   refine then_normal ?_
   refine wq_ret ?_
   exact end_tmp (v := .bool true) s26 rfl rfl s27 ⟨(retB (by unfold bareB; simp [*])), K15⟩
  ·skip
   refine wq_region ?_
   refine wl_v (.bool true) rfl rfl (y_mov rfl (Eq.trans s20 (congrArg Value.bool (d22))) ⟨rfl, rfl⟩) ?_
   refine wl_v (.bool true) rfl rfl (y_mov rfl rfl ⟨rfl, rfl⟩) ?_
   refine wl_unless 1 false 12 rfl rfl rfl (Or.inl rfl) rfl ?_
   refine wl_unless 1 false 12 rfl rfl rfl (Or.inl rfl) rfl ?_
   refine wl_unless 1 false 12 rfl rfl rfl (Or.inl rfl) rfl ?_
   refine wl_unless 1 false 12 rfl rfl rfl (Or.inl rfl) rfl ?_
   refine wl_v (.bool true) rfl rfl (y_pickT rfl rfl rfl ⟨rfl, rfl⟩) ?_
   refine wl_v (.bool true) rfl rfl (y_mov rfl rfl ⟨rfl, rfl⟩) ?_
   refine wl_vw (.bool false) 7 true 18 rfl rfl rfl rfl rfl (y_mov rfl (Eq.trans s21 (congrArg Value.bool (d23))) ⟨rfl, rfl⟩) ?_
   refine wl_vw (.bool false) 7 true 18 rfl rfl rfl rfl rfl (y_mov rfl rfl ⟨rfl, rfl⟩) ?_
   refine wl_vw (.pointer (some ⟨p1, 3, none⟩)) 9 false 20 rfl rfl rfl rfl rfl (y_fieldR (n := 2) rfl s19 Tryz.underlying31 rfl (by kernel_rfl) (by decide) rfl ⟨rfl, rfl⟩) ?_
   refine wl_vw (.agg #[.int .i64 ((c).nx), .int .i64 ((c).ny)]) 9 false 20 rfl rfl rfl rfl rfl (y_ldPart (n := 2) stcT_vector rfl rfl B14 (Nat.le_of_ble_eq_true rfl) rfl ⟨rfl, rfl⟩) ?_
   refine wl_vw (.agg #[.int .i64 (0), .int .i64 (0)]) 9 false 20 rfl rfl rfl rfl rfl (y_buildL (l' := []) (cells := #[.int .i64 (0), .int .i64 (0)]) rfl bpN (by kernel_rfl) rfl ⟨rfl, rfl⟩) ?_
   refine wl_vw (.bool (sameVec ((c).nx) ((c).ny) (0) (0))) 9 false 20 rfl rfl rfl rfl rfl (y_eqlVec rfl rfl rfl rfl ⟨rfl, rfl⟩) ?_
   refine wl_vw (.bool (sameVec ((c).nx) ((c).ny) (0) (0))) 7 true 18 rfl rfl rfl rfl rfl (y_pickF rfl rfl rfl ⟨rfl, rfl⟩) ?_
   refine wl_v (.bool (sameVec ((c).nx) ((c).ny) (0) (0))) rfl rfl (y_pickT rfl rfl rfl ⟨rfl, rfl⟩) ?_
   refine wl_v (.bool (sameVec ((c).nx) ((c).ny) (0) (0))) rfl rfl (y_asg rfl rfl ⟨rfl, rfl⟩) ?_
   refine wl_nil fun F28 hF29 => ?_
   have s30 := (hF29 27).trans s18
   have s31 : F28 2 = .bool (sameVec ((c).nx) ((c).ny) (0) (0)) := (hF29 2).trans rfl
   clear hF29
   refine then_normal ?_
   refine wq_ret ?_
   exact end_tmp (v := .bool (sameVec ((c).nx) ((c).ny) (0) (0))) s30 rfl rfl s31 ⟨(retB (by unfold bareB; simp [*])), K15⟩
 ·skip
  rcases Bool.eq_false_or_eq_true (sameVec ((c).px) ((c).py) (0) (0)) with d32 | d32
  ·skip
   rcases Bool.eq_false_or_eq_true (nextB ((c).m)) with d33 | d33
   ·skip
    refine wq_region ?_
    refine wl_v (.bool false) rfl rfl (y_mov rfl (Eq.trans s20 (congrArg Value.bool (d22))) ⟨rfl, rfl⟩) ?_
    refine wl_v (.bool false) rfl rfl (y_mov rfl rfl ⟨rfl, rfl⟩) ?_
    refine wl_vw (.pointer (some ⟨p1, 1, none⟩)) 1 false 12 rfl rfl rfl rfl rfl (y_fieldR (n := 2) rfl s19 Tryz.underlying31 rfl (by kernel_rfl) (by decide) rfl ⟨rfl, rfl⟩) ?_
    refine wl_vw (.agg #[.int .i64 ((c).px), .int .i64 ((c).py)]) 1 false 12 rfl rfl rfl rfl rfl (y_ldPart (n := 2) stcT_vector rfl rfl B14 (Nat.le_of_ble_eq_true rfl) rfl ⟨rfl, rfl⟩) ?_
    refine wl_vw (.agg #[.int .i64 (0), .int .i64 (0)]) 1 false 12 rfl rfl rfl rfl rfl (y_buildL (l' := []) (cells := #[.int .i64 (0), .int .i64 (0)]) rfl bpN (by kernel_rfl) rfl ⟨rfl, rfl⟩) ?_
    refine wl_vw (.bool true) 1 false 12 rfl rfl rfl rfl rfl (y_eqlVec rfl rfl rfl d32 ⟨rfl, rfl⟩) ?_
    refine wl_v (.bool true) rfl rfl (y_pickF rfl rfl rfl ⟨rfl, rfl⟩) ?_
    refine wl_v (.bool true) rfl rfl (y_mov rfl rfl ⟨rfl, rfl⟩) ?_
    refine wl_vw (.bool true) 7 true 18 rfl rfl rfl rfl rfl (y_mov rfl (Eq.trans s21 (congrArg Value.bool (d33))) ⟨rfl, rfl⟩) ?_
    refine wl_vw (.bool true) 7 true 18 rfl rfl rfl rfl rfl (y_mov rfl rfl ⟨rfl, rfl⟩) ?_
    refine wl_unless 9 false 20 rfl rfl rfl (Or.inl rfl) rfl ?_
    refine wl_unless 9 false 20 rfl rfl rfl (Or.inl rfl) rfl ?_
    refine wl_unless 9 false 20 rfl rfl rfl (Or.inl rfl) rfl ?_
    refine wl_unless 9 false 20 rfl rfl rfl (Or.inl rfl) rfl ?_
    refine wl_vw (.bool true) 7 true 18 rfl rfl rfl rfl rfl (y_pickT rfl rfl rfl ⟨rfl, rfl⟩) ?_
    refine wl_v (.bool true) rfl rfl (y_pickT rfl rfl rfl ⟨rfl, rfl⟩) ?_
    refine wl_v (.bool true) rfl rfl (y_asg rfl rfl ⟨rfl, rfl⟩) ?_
    refine wl_nil fun F34 hF35 => ?_
    have s36 := (hF35 27).trans s18
    have s37 : F34 2 = .bool true := (hF35 2).trans rfl
    clear hF35
    refine then_normal ?_
    refine wq_ret ?_
    exact end_tmp (v := .bool true) s36 rfl rfl s37 ⟨(retB (by unfold bareB; simp [*])), K15⟩
   ·skip
    refine wq_region ?_
    refine wl_v (.bool false) rfl rfl (y_mov rfl (Eq.trans s20 (congrArg Value.bool (d22))) ⟨rfl, rfl⟩) ?_
    refine wl_v (.bool false) rfl rfl (y_mov rfl rfl ⟨rfl, rfl⟩) ?_
    refine wl_vw (.pointer (some ⟨p1, 1, none⟩)) 1 false 12 rfl rfl rfl rfl rfl (y_fieldR (n := 2) rfl s19 Tryz.underlying31 rfl (by kernel_rfl) (by decide) rfl ⟨rfl, rfl⟩) ?_
    refine wl_vw (.agg #[.int .i64 ((c).px), .int .i64 ((c).py)]) 1 false 12 rfl rfl rfl rfl rfl (y_ldPart (n := 2) stcT_vector rfl rfl B14 (Nat.le_of_ble_eq_true rfl) rfl ⟨rfl, rfl⟩) ?_
    refine wl_vw (.agg #[.int .i64 (0), .int .i64 (0)]) 1 false 12 rfl rfl rfl rfl rfl (y_buildL (l' := []) (cells := #[.int .i64 (0), .int .i64 (0)]) rfl bpN (by kernel_rfl) rfl ⟨rfl, rfl⟩) ?_
    refine wl_vw (.bool true) 1 false 12 rfl rfl rfl rfl rfl (y_eqlVec rfl rfl rfl d32 ⟨rfl, rfl⟩) ?_
    refine wl_v (.bool true) rfl rfl (y_pickF rfl rfl rfl ⟨rfl, rfl⟩) ?_
    refine wl_v (.bool true) rfl rfl (y_mov rfl rfl ⟨rfl, rfl⟩) ?_
    refine wl_vw (.bool false) 7 true 18 rfl rfl rfl rfl rfl (y_mov rfl (Eq.trans s21 (congrArg Value.bool (d33))) ⟨rfl, rfl⟩) ?_
    refine wl_vw (.bool false) 7 true 18 rfl rfl rfl rfl rfl (y_mov rfl rfl ⟨rfl, rfl⟩) ?_
    refine wl_vw (.pointer (some ⟨p1, 3, none⟩)) 9 false 20 rfl rfl rfl rfl rfl (y_fieldR (n := 2) rfl s19 Tryz.underlying31 rfl (by kernel_rfl) (by decide) rfl ⟨rfl, rfl⟩) ?_
    refine wl_vw (.agg #[.int .i64 ((c).nx), .int .i64 ((c).ny)]) 9 false 20 rfl rfl rfl rfl rfl (y_ldPart (n := 2) stcT_vector rfl rfl B14 (Nat.le_of_ble_eq_true rfl) rfl ⟨rfl, rfl⟩) ?_
    refine wl_vw (.agg #[.int .i64 (0), .int .i64 (0)]) 9 false 20 rfl rfl rfl rfl rfl (y_buildL (l' := []) (cells := #[.int .i64 (0), .int .i64 (0)]) rfl bpN (by kernel_rfl) rfl ⟨rfl, rfl⟩) ?_
    refine wl_vw (.bool (sameVec ((c).nx) ((c).ny) (0) (0))) 9 false 20 rfl rfl rfl rfl rfl (y_eqlVec rfl rfl rfl rfl ⟨rfl, rfl⟩) ?_
    refine wl_vw (.bool (sameVec ((c).nx) ((c).ny) (0) (0))) 7 true 18 rfl rfl rfl rfl rfl (y_pickF rfl rfl rfl ⟨rfl, rfl⟩) ?_
    refine wl_v (.bool (sameVec ((c).nx) ((c).ny) (0) (0))) rfl rfl (y_pickT rfl rfl rfl ⟨rfl, rfl⟩) ?_
    refine wl_v (.bool (sameVec ((c).nx) ((c).ny) (0) (0))) rfl rfl (y_asg rfl rfl ⟨rfl, rfl⟩) ?_
    refine wl_nil fun F38 hF39 => ?_
    have s40 := (hF39 27).trans s18
    have s41 : F38 2 = .bool (sameVec ((c).nx) ((c).ny) (0) (0)) := (hF39 2).trans rfl
    clear hF39
    refine then_normal ?_
    refine wq_ret ?_
    exact end_tmp (v := .bool (sameVec ((c).nx) ((c).ny) (0) (0))) s40 rfl rfl s41 ⟨(retB (by unfold bareB; simp [*])), K15⟩
  ·skip
   refine wq_region ?_
   refine wl_v (.bool false) rfl rfl (y_mov rfl (Eq.trans s20 (congrArg Value.bool (d22))) ⟨rfl, rfl⟩) ?_
   refine wl_v (.bool false) rfl rfl (y_mov rfl rfl ⟨rfl, rfl⟩) ?_
   refine wl_vw (.pointer (some ⟨p1, 1, none⟩)) 1 false 12 rfl rfl rfl rfl rfl (y_fieldR (n := 2) rfl s19 Tryz.underlying31 rfl (by kernel_rfl) (by decide) rfl ⟨rfl, rfl⟩) ?_
   refine wl_vw (.agg #[.int .i64 ((c).px), .int .i64 ((c).py)]) 1 false 12 rfl rfl rfl rfl rfl (y_ldPart (n := 2) stcT_vector rfl rfl B14 (Nat.le_of_ble_eq_true rfl) rfl ⟨rfl, rfl⟩) ?_
   refine wl_vw (.agg #[.int .i64 (0), .int .i64 (0)]) 1 false 12 rfl rfl rfl rfl rfl (y_buildL (l' := []) (cells := #[.int .i64 (0), .int .i64 (0)]) rfl bpN (by kernel_rfl) rfl ⟨rfl, rfl⟩) ?_
   refine wl_vw (.bool false) 1 false 12 rfl rfl rfl rfl rfl (y_eqlVec rfl rfl rfl d32 ⟨rfl, rfl⟩) ?_
   refine wl_v (.bool false) rfl rfl (y_pickF rfl rfl rfl ⟨rfl, rfl⟩) ?_
   refine wl_v (.bool false) rfl rfl (y_mov rfl rfl ⟨rfl, rfl⟩) ?_
   refine wl_unless 7 true 18 rfl rfl rfl (Or.inl rfl) rfl ?_
   refine wl_unless 7 true 18 rfl rfl rfl (Or.inl rfl) rfl ?_
   refine wl_unless 9 false 20 rfl rfl rfl (Or.inr rfl) rfl ?_
   refine wl_unless 9 false 20 rfl rfl rfl (Or.inr rfl) rfl ?_
   refine wl_unless 9 false 20 rfl rfl rfl (Or.inr rfl) rfl ?_
   refine wl_unless 9 false 20 rfl rfl rfl (Or.inr rfl) rfl ?_
   refine wl_unless 7 true 18 rfl rfl rfl (Or.inl rfl) rfl ?_
   refine wl_v (.bool false) rfl rfl (y_pickF rfl rfl rfl ⟨rfl, rfl⟩) ?_
   refine wl_v (.bool false) rfl rfl (y_asg rfl rfl ⟨rfl, rfl⟩) ?_
   refine wl_nil fun F42 hF43 => ?_
   have s44 := (hF43 27).trans s18
   have s45 : F42 2 = .bool false := (hF43 2).trans rfl
   clear hF43
   refine then_normal ?_
   refine wq_ret ?_
   exact end_tmp (v := .bool false) s44 rfl rfl s45 ⟨(retB (by unfold bareB; simp [*])), K15⟩
set_option maxHeartbeats 4000000 in
set_option maxRecDepth 100000 in
theorem bl_may (b : Nat → Int) (w0 : World) :
  Calls Tryz.prog 38 #[blkV (b)] w0 fun e w' => e = .returned (.bool (!farCh b 16)) ∧ Kept (fun _ => False) w0 w' := by
 refine calls_wq (args := [blkV (b)]) 16 Tryz.func38 rfl rfl (Nat.le_of_ble_eq_true rfl) ?_
 have K0 := Kept.refl (fun _ => False) w0
 refine wq_seq ?_
 refine wq_region ?_
 refine wl_box_blk rfl rfl rfl rfl fun p1 w2 e5 B3 k4 => ?_
 have g6 := onB_new (Nat.le_of_eq e5.symm)
 clear e5 g6
 have K8 := K0.trans k4 (fun _ _ x => x.elim)
 refine wl_v (.bool false) rfl rfl (y_asg rfl rfl ⟨rfl, rfl⟩) ?_
 refine wl_nil fun F9 hF10 => ?_
 have s11 : F9 16 = undef := (hF10 16).trans rfl
 have s12 : F9 1 = .pointer (some ⟨p1, 0, none⟩) := (hF10 1).trans rfl
 clear hF10
 refine then_normal ?_
 refine wq_seq ?_
 refine wq_seq ?_
 refine wq_region ?_
 refine wl_v (blkV (b)) rfl rfl (y_load_blk blkT_block rfl s12 B3 ⟨rfl, rfl⟩) ?_
 refine wl_v (.int .i64 (0)) rfl rfl (y_mov rfl rfl ⟨rfl, rfl⟩) ?_
 refine wl_nil fun F13 hF14 => ?_
 have s15 := (hF14 16).trans s11
 have s16 : F13 5 = blkV (b) := (hF14 5).trans rfl
 have s17 : F13 6 = .int .i64 (0) := (hF14 6).trans rfl
 clear hF14
 refine then_normal ?_
 refine wq_block ?_
 refine wq_loop (fun nn FF ww => ∃ (i : Nat), (i ≤ 16) ∧ (farCh b i = false) ∧ nn = 16 - i ∧ FF 5 = blkV (b) ∧ FF 16 = undef ∧ FF 6 = .int .i64 (((i : Nat) : Int)) ∧ Kept (fun _ => False) w0 ww ∧ Blk ww p1 29 (b)) (16 - (0)) ⟨0, by omega, rfl, rfl, s16, s15, s17, K8, B3⟩ ?_
 rintro n21 F18 w19 ⟨i, i22, hfar, hn21, s23, s24, s25, K20, B26⟩
 refine wq_seq ?_
 refine wq_region ?_
 refine wl_v (.bool (decide ((((i : Nat) : Int)) < (16)))) rfl rfl (y_lss rfl s25 rfl rfl ⟨rfl, rfl⟩) ?_
 refine wl_nil fun F27 hF28 => ?_
 have s29 := (hF28 5).trans s23
 have s30 := (hF28 16).trans s24
 have s31 := (hF28 6).trans s25
 have s32 : F27 7 = .bool (decide ((((i : Nat) : Int)) < (16))) := (hF28 7).trans rfl
 clear hF28
 refine then_normal ?_
 refine wq_seq ?_
 refine wq_cond s32 (fun c33 => ?_) (fun c33 => ?_)
 ·replace c33 := of_decide_eq_true c33
  refine wq_skip ?_
  refine then_normal ?_
  refine wq_seq ?_
  refine wq_block ?_
  refine wq_seq ?_
  refine wq_region ?_
  refine wl_v (.int .i64 ((b) (i))) rfl rfl (y_look (i) blkT_block rfl s29 s31 (by omega) rfl ⟨rfl, rfl⟩) ?_
  refine wl_v (.int .i64 ((b) (i))) rfl rfl (y_asg rfl rfl ⟨rfl, rfl⟩) ?_
  refine wl_nil fun F34 hF35 => ?_
  have s36 := (hF35 5).trans s29
  have s37 := (hF35 16).trans s30
  have s38 := (hF35 6).trans s31
  have s39 : F34 4 = .int .i64 ((b) (i)) := (hF35 4).trans rfl
  clear hF35
  refine then_normal ?_
  refine wq_seq ?_
  by_cases d40 : ((b) (i)) < (-1048576)
  ·skip
   refine wq_region ?_
   refine wl_v (.int .i64 ((b) (i))) rfl rfl (y_mov rfl s39 ⟨rfl, rfl⟩) ?_
   refine wl_v (.bool true) rfl rfl (y_lss rfl rfl rfl (decide_eq_true d40) ⟨rfl, rfl⟩) ?_
   refine wl_v (.bool true) rfl rfl (y_mov rfl rfl ⟨rfl, rfl⟩) ?_
   refine wl_unless 2 false 11 rfl rfl rfl (Or.inl rfl) rfl ?_
   refine wl_unless 2 false 11 rfl rfl rfl (Or.inl rfl) rfl ?_
   refine wl_v (.bool true) rfl rfl (y_pickT rfl rfl rfl ⟨rfl, rfl⟩) ?_
   refine wl_nil fun F41 hF42 => ?_
   have s44 := (hF42 16).trans s37
   have s46 : F41 14 = .bool true := (hF42 14).trans rfl
   clear hF42
   refine then_normal ?_
   refine wq_cond (t := true) s46 (fun _ => ?_) (fun e => by cases e)
   refine wq_seq ?_
   have hf : farCh b 16 = true := far_hit (i := i) (by omega) 16 (by omega)
   refine wq_region ?_
   refine wl_v (.bool false) rfl rfl (y_asg rfl rfl ⟨rfl, rfl⟩) ?_
   refine wl_nil fun F47 hF48 => ?_
   have s49 := (hF48 16).trans s44
   have s50 : F47 2 = .bool false := (hF48 2).trans rfl
   clear hF48
   refine then_normal ?_
   refine wq_ret ?_
   refine in_ret ?_
   refine then_ret ?_
   refine then_ret ?_
   refine in_ret ?_
   refine then_ret ?_
   exact end_tmp (v := .bool false) s49 rfl rfl s50 ⟨(retB (by first | rw [hf]; rfl | rw [hfar]; rfl)), K20⟩
  ·skip
   refine wq_region ?_
   refine wl_v (.int .i64 ((b) (i))) rfl rfl (y_mov rfl s39 ⟨rfl, rfl⟩) ?_
   refine wl_v (.bool false) rfl rfl (y_lss rfl rfl rfl (decide_eq_false d40) ⟨rfl, rfl⟩) ?_
   refine wl_v (.bool false) rfl rfl (y_mov rfl rfl ⟨rfl, rfl⟩) ?_
   refine wl_vw (.int .i64 ((b) (i))) 2 false 11 rfl rfl rfl rfl rfl (y_mov rfl s39 ⟨rfl, rfl⟩) ?_
   refine wl_vw (.bool (decide ((1048576) < ((b) (i))))) 2 false 11 rfl rfl rfl rfl rfl (y_gtr rfl rfl rfl rfl ⟨rfl, rfl⟩) ?_
   refine wl_v (.bool (decide ((1048576) < ((b) (i))))) rfl rfl (y_pickF rfl rfl rfl ⟨rfl, rfl⟩) ?_
   refine wl_nil fun F51 hF52 => ?_
   have s53 := (hF52 5).trans s36
   have s54 := (hF52 16).trans s37
   have s55 := (hF52 6).trans s38
   have s56 : F51 14 = .bool (decide ((1048576) < ((b) (i)))) := (hF52 14).trans rfl
   clear hF52
   refine then_normal ?_
   refine wq_cond s56 (fun c57 => ?_) (fun c57 => ?_)
   ·replace c57 := of_decide_eq_true c57
    refine wq_seq ?_
    have hf : farCh b 16 = true := far_hit (i := i) (by omega) 16 (by omega)
    refine wq_region ?_
    refine wl_v (.bool false) rfl rfl (y_asg rfl rfl ⟨rfl, rfl⟩) ?_
    refine wl_nil fun F58 hF59 => ?_
    have s60 := (hF59 16).trans s54
    have s61 : F58 2 = .bool false := (hF59 2).trans rfl
    clear hF59
    refine then_normal ?_
    refine wq_ret ?_
    refine in_ret ?_
    refine then_ret ?_
    refine then_ret ?_
    refine in_ret ?_
    refine then_ret ?_
    exact end_tmp (v := .bool false) s60 rfl rfl s61 ⟨(retB (by first | rw [hf]; rfl | rw [hfar]; rfl)), K20⟩
   ·replace c57 := of_decide_eq_false c57
    refine wq_skip ?_
    refine in_normal ?_
    refine then_normal ?_
    refine wq_region ?_
    refine wl_v (.int .i64 (((i + 1 : Nat) : Int))) rfl rfl (y_add rfl s55 rfl (i64_n (by omega) (by omega)) ⟨rfl, rfl⟩) ?_
    refine wl_v (.int .i64 (((i + 1 : Nat) : Int))) rfl rfl (y_mov rfl rfl ⟨rfl, rfl⟩) ?_
    refine wl_nil fun F62 hF63 => ?_
    have s64 := (hF63 5).trans s53
    have s65 := (hF63 16).trans s54
    have s66 : F62 6 = .int .i64 (((i + 1 : Nat) : Int)) := (hF63 6).trans rfl
    clear hF63
    exact then_normal ⟨(16 - (i + 1)), by omega, i + 1, by omega, (by unfold farCh; rw [hfar, Bool.false_or]; exact decide_eq_false (by omega)), rfl, s64, s65, s66, K20, B26⟩
 ·replace c33 := of_decide_eq_false c33
  refine wq_exit ?_
  refine then_exit ?_
  refine then_exit ?_
  have l67 : 16 = i := by omega
  subst l67
  refine in_here ?_
  refine then_normal ?_
  refine wq_seq ?_
  refine wq_region ?_
  refine wl_v (.bool true) rfl rfl (y_asg rfl rfl ⟨rfl, rfl⟩) ?_
  refine wl_nil fun F68 hF69 => ?_
  have s70 := (hF69 16).trans s30
  have s71 : F68 2 = .bool true := (hF69 2).trans rfl
  clear hF69
  refine then_normal ?_
  refine wq_ret ?_
  exact end_tmp (v := .bool true) s70 rfl rfl s71 ⟨(retB (by first | rw [hf]; rfl | rw [hfar]; rfl)), K20⟩
theorem chE_has {k : Int} {c : Ch} (h : ¬ (0 ≤ c.m ∧ c.m ≤ mostK k)) : chE k c = 120 := chE_bad (by unfold badM; omega)
theorem chE_bare {k : Int} {c : Ch} (h : bareB c = false) : chE k c = 120 := chE_bad (by
  unfold bareB at h; unfold badM
  rcases Bool.and_eq_false_iff.1 h with h | h
  · obtain ⟨a, b⟩ := Bool.or_eq_false_iff.1 h; exact .inr (.inr (.inl ⟨a, b⟩))
  · obtain ⟨a, b⟩ := Bool.or_eq_false_iff.1 h; exact .inr (.inr (.inr ⟨a, b⟩)))
theorem chE_far2 {k : Int} {c : Ch} (h : farCh c.b 16 = true) : chE k c = 120 := by
  by_cases hb : badM k c
  · exact chE_bad hb
  · exact chE_far hb h
theorem chE_good {k : Int} {c : Ch} (h1 : 0 ≤ c.m ∧ c.m ≤ mostK k) (h2 : bareB c = true) (h3 : farCh c.b 16 = false) : (vecE c.px c.py ≠ 0 → chE k c = vecE c.px c.py) ∧ (vecE c.px c.py = 0 → chE k c = vecE c.nx c.ny) := by
  have hb : ¬ badM k c := by
    unfold badM
    unfold bareB at h2
    obtain ⟨u, v⟩ := (Bool.and_eq_true _ _).mp h2
    rintro (z | z | ⟨z, e⟩ | ⟨z, e⟩)
    · omega
    · omega
    · rw [z, e] at u; cases u
    · rw [z, e] at v; cases v
  have e := chE_vec hb h3
  refine ⟨fun h => ?_, fun h => ?_⟩
  · have : ¬ vecOk c.px c.py := fun z => h (vecE_yes z)
    rw [e, if_neg (fun z => this z.1), vecE_no this]
  · have : vecOk c.px c.py := (vecE_iff _ _).1 h
    rw [e]
    by_cases hn : vecOk c.nx c.ny
    · rw [if_pos ⟨this, hn⟩, vecE_yes hn]
    · rw [if_neg (fun z => hn z.2), vecE_no hn]
set_option maxHeartbeats 4000000 in
set_option maxRecDepth 100000 in
theorem bl_check (k : Int) (c : Ch) (w0 : World) (hA : ActsIn w0) :
  Calls Tryz.prog 15 #[.int .i64 (k), .agg (chW (c)).toArray] w0 fun e w' => e = .returned (.int .i64 (chE k c)) ∧ Kept (fun _ => False) w0 w' := by
 refine calls_wq (args := [.int .i64 (k), .agg (chW (c)).toArray]) 31 Tryz.func15 rfl rfl (Nat.le_of_ble_eq_true rfl) ?_
 have K0 := Kept.refl (fun _ => False) w0
 refine wq_seq ?_
 refine wq_region ?_
 refine wl_box_stc (vs := (chW (c))) rfl rfl rfl rfl fun p1 w2 B4 g5 k3 => ?_
 have K7 := K0.trans k3 (fun _ _ x => x.elim)
 refine wl_v (.int .i64 (0)) rfl rfl (y_asg rfl rfl ⟨rfl, rfl⟩) ?_
 refine wl_nil fun F8 hF9 => ?_
 have s10 : F8 0 = .int .i64 (k) := (hF9 0).trans rfl
 have s11 : F8 31 = undef := (hF9 31).trans rfl
 have s12 : F8 3 = .pointer (some ⟨p1, 0, none⟩) := (hF9 3).trans rfl
 clear hF9
 refine then_normal ?_
 refine wq_seq ?_
 refine wq_seq ?_
 by_cases d13 : 0 ≤ ((c).m) ∧ ((c).m) ≤ mostK (k)
 ·skip
  rcases Bool.eq_false_or_eq_true (bareB (c)) with d14 | d14
  ·skip
   rcases Bool.eq_false_or_eq_true (!farCh ((c).b) 16) with d15 | d15
   ·skip
    refine wq_region ?_
    refine wl_v (.int .i64 (k)) rfl rfl (y_mov rfl s10 ⟨rfl, rfl⟩) ?_
    refine wl_v (.pointer (some ⟨p1, 0, none⟩)) rfl rfl (y_fieldR (n := 1) rfl s12 Tryz.underlying31 rfl (by kernel_rfl) (by decide) rfl ⟨rfl, rfl⟩) ?_
    refine wl_v (.int .i64 ((c).m)) rfl rfl (y_ld_stc rfl rfl Tryz.underlying3 B4 rfl rfl ⟨rfl, rfl⟩) ?_
    refine wl_call (R := fun v_ w_ => v_ = .bool true ∧ Kept (fun _ => False) w2 w_) rfl rfl (y_cs rfl rfl rfl (fun _ _ => by kernel_rfl) (ev_func _) (vsC rfl (vsC rfl vsN)) (bl_has (k) ((c).m)  _ (hA.all K7)  ) (fun e_ w_ h_ => ⟨_, h_.1, (congrArg Value.bool (decide_eq_true d13)), h_.2⟩)) ?_
    rintro _ w16 ⟨rfl, k17⟩
    have B18 := B4.all k17 id
    have K19 := K7.trans k17 (fun _ _ x => x.elim)
    refine wl_v (.bool false) rfl rfl (y_not rfl rfl rfl ⟨rfl, rfl⟩) ?_
    refine wl_v (.bool false) rfl rfl (y_mov rfl rfl ⟨rfl, rfl⟩) ?_
    refine wl_vw (.agg (chW (c)).toArray) 5 false 11 rfl rfl rfl rfl rfl (y_load_stc stcT_choice rfl s12 B18 ⟨rfl, rfl⟩) ?_
    refine wl_callw (R := fun v_ w_ => v_ = .bool true ∧ Kept (fun _ => False) w16 w_) 5 false 11 rfl rfl rfl rfl rfl (y_cs rfl rfl rfl (fun _ _ => by kernel_rfl) (ev_func _) (vsC rfl vsN) (bl_bare (c)  _ (hA.all K19)  ) (fun e_ w_ h_ => ⟨_, h_.1, (congrArg Value.bool d14), h_.2⟩)) ?_
    rintro _ w20 ⟨rfl, k21⟩
    have B22 := B18.all k21 id
    have K23 := K19.trans k21 (fun _ _ x => x.elim)
    refine wl_vw (.bool false) 5 false 11 rfl rfl rfl rfl rfl (y_not rfl rfl rfl ⟨rfl, rfl⟩) ?_
    refine wl_v (.bool false) rfl rfl (y_pickF rfl rfl rfl ⟨rfl, rfl⟩) ?_
    refine wl_v (.bool false) rfl rfl (y_mov rfl rfl ⟨rfl, rfl⟩) ?_
    refine wl_vw (.pointer (some ⟨p1, 5, none⟩)) 10 false 16 rfl rfl rfl rfl rfl (y_fieldR (n := 16) rfl s12 Tryz.underlying31 rfl (by kernel_rfl) (by decide) rfl ⟨rfl, rfl⟩) ?_
    refine wl_vw (blkV ((c).b)) 10 false 16 rfl rfl rfl rfl rfl (y_ldPart (n := 16) (us := arrL 16 ((c).b)) stcT_block rfl rfl B22 (Nat.le_of_ble_eq_true rfl) rfl ⟨rfl, rfl⟩) ?_
    refine wl_callw (R := fun v_ w_ => v_ = .bool true ∧ Kept (fun _ => False) w20 w_) 10 false 16 rfl rfl rfl rfl rfl (y_cs rfl rfl rfl (fun _ _ => by kernel_rfl) (ev_func _) (vsC rfl vsN) (bl_may ((c).b)  _   ) (fun e_ w_ h_ => ⟨_, h_.1, (congrArg Value.bool d15), h_.2⟩)) ?_
    rintro _ w24 ⟨rfl, k25⟩
    have B26 := B22.all k25 id
    have K27 := K23.trans k25 (fun _ _ x => x.elim)
    refine wl_vw (.bool false) 10 false 16 rfl rfl rfl rfl rfl (y_not rfl rfl rfl ⟨rfl, rfl⟩) ?_
    refine wl_v (.bool false) rfl rfl (y_pickF rfl rfl rfl ⟨rfl, rfl⟩) ?_
    refine wl_nil fun F28 hF29 => ?_
    have s30 := (hF29 31).trans s11
    have s31 := (hF29 3).trans s12
    have s32 : F28 21 = .bool false := (hF29 21).trans rfl
    clear hF29
    refine then_normal ?_
    refine wq_cond (t := false) s32 (fun e => by cases e) (fun _ => ?_)
    refine wq_skip ?_
    refine then_normal ?_
    refine wq_seq ?_
    refine wq_seq ?_
    have hgd := chE_good (k := k) (c := c) (by assumption) (by assumption) (by first | assumption | simp_all)
    refine wq_region ?_
    refine wl_v (.pointer (some ⟨p1, 1, none⟩)) rfl rfl (y_fieldR (n := 2) rfl s31 Tryz.underlying31 rfl (by kernel_rfl) (by decide) rfl ⟨rfl, rfl⟩) ?_
    refine wl_v (.agg #[.int .i64 ((c).px), .int .i64 ((c).py)]) rfl rfl (y_ldPart (n := 2) stcT_vector rfl rfl B26 (Nat.le_of_ble_eq_true rfl) rfl ⟨rfl, rfl⟩) ?_
    refine wl_call (R := fun v_ w_ => v_ = .int .i64 (vecE ((c).px) ((c).py)) ∧ Kept (fun _ => False) w24 w_) rfl rfl (y_cs rfl rfl rfl (fun _ _ => by kernel_rfl) (ev_func _) (vsC rfl vsN) (mo_check ((c).px) ((c).py)  _   ) (fun e_ w_ h_ => ⟨_, h_.1, rfl, h_.2⟩)) ?_
    rintro _ w33 ⟨rfl, k34⟩
    have B35 := B26.all k34 id
    have K36 := K27.trans k34 (fun _ _ x => x.elim)
    refine wl_v (.int .i64 (vecE ((c).px) ((c).py))) rfl rfl (y_asg rfl rfl ⟨rfl, rfl⟩) ?_
    refine wl_nil fun F37 hF38 => ?_
    have s39 := (hF38 31).trans s30
    have s40 := (hF38 3).trans s31
    have s41 : F37 5 = .int .i64 (vecE ((c).px) ((c).py)) := (hF38 5).trans rfl
    clear hF38
    refine then_normal ?_
    refine wq_seq ?_
    refine wq_region ?_
    refine wl_v (.int .i64 (vecE ((c).px) ((c).py))) rfl rfl (y_mov rfl s41 ⟨rfl, rfl⟩) ?_
    refine wl_v (.bool (decide ((vecE ((c).px) ((c).py)) ≠ (0)))) rfl rfl (y_neqI rfl rfl rfl rfl ⟨rfl, rfl⟩) ?_
    refine wl_nil fun F42 hF43 => ?_
    have s44 := (hF43 31).trans s39
    have s45 := (hF43 3).trans s40
    have s46 := (hF43 5).trans s41
    have s47 : F42 26 = .bool (decide ((vecE ((c).px) ((c).py)) ≠ (0))) := (hF43 26).trans rfl
    clear hF43
    refine then_normal ?_
    refine wq_cond s47 (fun c48 => ?_) (fun c48 => ?_)
    ·replace c48 := of_decide_eq_true c48
     refine wq_seq ?_
     have hR := hgd.1 (by assumption)
     refine wq_region ?_
     refine wl_v (.int .i64 (vecE ((c).px) ((c).py))) rfl rfl (y_mov rfl s46 ⟨rfl, rfl⟩) ?_
     refine wl_v (.int .i64 (vecE ((c).px) ((c).py))) rfl rfl (y_asg rfl rfl ⟨rfl, rfl⟩) ?_
     refine wl_nil fun F49 hF50 => ?_
     have s51 := (hF50 31).trans s44
     have s52 : F49 4 = .int .i64 (vecE ((c).px) ((c).py)) := (hF50 4).trans rfl
     clear hF50
     refine then_normal ?_
     refine wq_ret ?_
     refine then_ret ?_
     exact end_tmp (v := .int .i64 (vecE ((c).px) ((c).py))) s51 rfl rfl s52 ⟨(by rw [hR]), K36⟩
    ·replace c48 := of_decide_eq_false c48
     refine wq_skip ?_
     refine then_normal ?_
     refine wq_seq ?_
     have hR := hgd.2 (by first | assumption | (apply Decidable.byContradiction; assumption))
     refine wq_region ?_
     refine wl_v (.pointer (some ⟨p1, 3, none⟩)) rfl rfl (y_fieldR (n := 2) rfl s45 Tryz.underlying31 rfl (by kernel_rfl) (by decide) rfl ⟨rfl, rfl⟩) ?_
     refine wl_v (.agg #[.int .i64 ((c).nx), .int .i64 ((c).ny)]) rfl rfl (y_ldPart (n := 2) stcT_vector rfl rfl B35 (Nat.le_of_ble_eq_true rfl) rfl ⟨rfl, rfl⟩) ?_
     refine wl_call (R := fun v_ w_ => v_ = .int .i64 (vecE ((c).nx) ((c).ny)) ∧ Kept (fun _ => False) w33 w_) rfl rfl (y_cs rfl rfl rfl (fun _ _ => by kernel_rfl) (ev_func _) (vsC rfl vsN) (mo_check ((c).nx) ((c).ny)  _   ) (fun e_ w_ h_ => ⟨_, h_.1, rfl, h_.2⟩)) ?_
     rintro _ w53 ⟨rfl, k54⟩
     have K56 := K36.trans k54 (fun _ _ x => x.elim)
     refine wl_v (.int .i64 (vecE ((c).nx) ((c).ny))) rfl rfl (y_asg rfl rfl ⟨rfl, rfl⟩) ?_
     refine wl_nil fun F57 hF58 => ?_
     have s59 := (hF58 31).trans s44
     have s60 : F57 4 = .int .i64 (vecE ((c).nx) ((c).ny)) := (hF58 4).trans rfl
     clear hF58
     refine then_normal ?_
     refine wq_ret ?_
     exact end_tmp (v := .int .i64 (vecE ((c).nx) ((c).ny))) s59 rfl rfl s60 ⟨(by rw [hR]), K56⟩
   ·skip
    refine wq_region ?_
    refine wl_v (.int .i64 (k)) rfl rfl (y_mov rfl s10 ⟨rfl, rfl⟩) ?_
    refine wl_v (.pointer (some ⟨p1, 0, none⟩)) rfl rfl (y_fieldR (n := 1) rfl s12 Tryz.underlying31 rfl (by kernel_rfl) (by decide) rfl ⟨rfl, rfl⟩) ?_
    refine wl_v (.int .i64 ((c).m)) rfl rfl (y_ld_stc rfl rfl Tryz.underlying3 B4 rfl rfl ⟨rfl, rfl⟩) ?_
    refine wl_call (R := fun v_ w_ => v_ = .bool true ∧ Kept (fun _ => False) w2 w_) rfl rfl (y_cs rfl rfl rfl (fun _ _ => by kernel_rfl) (ev_func _) (vsC rfl (vsC rfl vsN)) (bl_has (k) ((c).m)  _ (hA.all K7)  ) (fun e_ w_ h_ => ⟨_, h_.1, (congrArg Value.bool (decide_eq_true d13)), h_.2⟩)) ?_
    rintro _ w61 ⟨rfl, k62⟩
    have B63 := B4.all k62 id
    have K64 := K7.trans k62 (fun _ _ x => x.elim)
    refine wl_v (.bool false) rfl rfl (y_not rfl rfl rfl ⟨rfl, rfl⟩) ?_
    refine wl_v (.bool false) rfl rfl (y_mov rfl rfl ⟨rfl, rfl⟩) ?_
    refine wl_vw (.agg (chW (c)).toArray) 5 false 11 rfl rfl rfl rfl rfl (y_load_stc stcT_choice rfl s12 B63 ⟨rfl, rfl⟩) ?_
    refine wl_callw (R := fun v_ w_ => v_ = .bool true ∧ Kept (fun _ => False) w61 w_) 5 false 11 rfl rfl rfl rfl rfl (y_cs rfl rfl rfl (fun _ _ => by kernel_rfl) (ev_func _) (vsC rfl vsN) (bl_bare (c)  _ (hA.all K64)  ) (fun e_ w_ h_ => ⟨_, h_.1, (congrArg Value.bool d14), h_.2⟩)) ?_
    rintro _ w65 ⟨rfl, k66⟩
    have B67 := B63.all k66 id
    have K68 := K64.trans k66 (fun _ _ x => x.elim)
    refine wl_vw (.bool false) 5 false 11 rfl rfl rfl rfl rfl (y_not rfl rfl rfl ⟨rfl, rfl⟩) ?_
    refine wl_v (.bool false) rfl rfl (y_pickF rfl rfl rfl ⟨rfl, rfl⟩) ?_
    refine wl_v (.bool false) rfl rfl (y_mov rfl rfl ⟨rfl, rfl⟩) ?_
    refine wl_vw (.pointer (some ⟨p1, 5, none⟩)) 10 false 16 rfl rfl rfl rfl rfl (y_fieldR (n := 16) rfl s12 Tryz.underlying31 rfl (by kernel_rfl) (by decide) rfl ⟨rfl, rfl⟩) ?_
    refine wl_vw (blkV ((c).b)) 10 false 16 rfl rfl rfl rfl rfl (y_ldPart (n := 16) (us := arrL 16 ((c).b)) stcT_block rfl rfl B67 (Nat.le_of_ble_eq_true rfl) rfl ⟨rfl, rfl⟩) ?_
    refine wl_callw (R := fun v_ w_ => v_ = .bool false ∧ Kept (fun _ => False) w65 w_) 10 false 16 rfl rfl rfl rfl rfl (y_cs rfl rfl rfl (fun _ _ => by kernel_rfl) (ev_func _) (vsC rfl vsN) (bl_may ((c).b)  _   ) (fun e_ w_ h_ => ⟨_, h_.1, (congrArg Value.bool d15), h_.2⟩)) ?_
    rintro _ w69 ⟨rfl, k70⟩
    have K72 := K68.trans k70 (fun _ _ x => x.elim)
    refine wl_vw (.bool true) 10 false 16 rfl rfl rfl rfl rfl (y_not rfl rfl rfl ⟨rfl, rfl⟩) ?_
    refine wl_v (.bool true) rfl rfl (y_pickF rfl rfl rfl ⟨rfl, rfl⟩) ?_
    refine wl_nil fun F73 hF74 => ?_
    have s75 := (hF74 31).trans s11
    have s77 : F73 21 = .bool true := (hF74 21).trans rfl
    clear hF74
    refine then_normal ?_
    refine wq_cond (t := true) s77 (fun _ => ?_) (fun e => by cases e)
    refine wq_seq ?_
    have hR : chE k c = 120 := by first | exact chE_has (by assumption) | exact chE_bare (by assumption) | exact chE_far2 (by first | assumption | simp_all)
    refine wq_region ?_
    refine wl_v (.int .i64 (120)) rfl rfl (y_asg rfl rfl ⟨rfl, rfl⟩) ?_
    refine wl_nil fun F78 hF79 => ?_
    have s80 := (hF79 31).trans s75
    have s81 : F78 4 = .int .i64 (120) := (hF79 4).trans rfl
    clear hF79
    refine then_normal ?_
    refine wq_ret ?_
    refine then_ret ?_
    exact end_tmp (v := .int .i64 (120)) s80 rfl rfl s81 ⟨(by rw [hR]), K72⟩
  ·skip
   refine wq_region ?_
   refine wl_v (.int .i64 (k)) rfl rfl (y_mov rfl s10 ⟨rfl, rfl⟩) ?_
   refine wl_v (.pointer (some ⟨p1, 0, none⟩)) rfl rfl (y_fieldR (n := 1) rfl s12 Tryz.underlying31 rfl (by kernel_rfl) (by decide) rfl ⟨rfl, rfl⟩) ?_
   refine wl_v (.int .i64 ((c).m)) rfl rfl (y_ld_stc rfl rfl Tryz.underlying3 B4 rfl rfl ⟨rfl, rfl⟩) ?_
   refine wl_call (R := fun v_ w_ => v_ = .bool true ∧ Kept (fun _ => False) w2 w_) rfl rfl (y_cs rfl rfl rfl (fun _ _ => by kernel_rfl) (ev_func _) (vsC rfl (vsC rfl vsN)) (bl_has (k) ((c).m)  _ (hA.all K7)  ) (fun e_ w_ h_ => ⟨_, h_.1, (congrArg Value.bool (decide_eq_true d13)), h_.2⟩)) ?_
   rintro _ w82 ⟨rfl, k83⟩
   have B84 := B4.all k83 id
   have K85 := K7.trans k83 (fun _ _ x => x.elim)
   refine wl_v (.bool false) rfl rfl (y_not rfl rfl rfl ⟨rfl, rfl⟩) ?_
   refine wl_v (.bool false) rfl rfl (y_mov rfl rfl ⟨rfl, rfl⟩) ?_
   refine wl_vw (.agg (chW (c)).toArray) 5 false 11 rfl rfl rfl rfl rfl (y_load_stc stcT_choice rfl s12 B84 ⟨rfl, rfl⟩) ?_
   refine wl_callw (R := fun v_ w_ => v_ = .bool false ∧ Kept (fun _ => False) w82 w_) 5 false 11 rfl rfl rfl rfl rfl (y_cs rfl rfl rfl (fun _ _ => by kernel_rfl) (ev_func _) (vsC rfl vsN) (bl_bare (c)  _ (hA.all K85)  ) (fun e_ w_ h_ => ⟨_, h_.1, (congrArg Value.bool d14), h_.2⟩)) ?_
   rintro _ w86 ⟨rfl, k87⟩
   have K89 := K85.trans k87 (fun _ _ x => x.elim)
   refine wl_vw (.bool true) 5 false 11 rfl rfl rfl rfl rfl (y_not rfl rfl rfl ⟨rfl, rfl⟩) ?_
   refine wl_v (.bool true) rfl rfl (y_pickF rfl rfl rfl ⟨rfl, rfl⟩) ?_
   refine wl_v (.bool true) rfl rfl (y_mov rfl rfl ⟨rfl, rfl⟩) ?_
   refine wl_unless 10 false 16 rfl rfl rfl (Or.inl rfl) rfl ?_
   refine wl_unless 10 false 16 rfl rfl rfl (Or.inl rfl) rfl ?_
   refine wl_unless 10 false 16 rfl rfl rfl (Or.inl rfl) rfl ?_
   refine wl_unless 10 false 16 rfl rfl rfl (Or.inl rfl) rfl ?_
   refine wl_v (.bool true) rfl rfl (y_pickT rfl rfl rfl ⟨rfl, rfl⟩) ?_
   refine wl_nil fun F90 hF91 => ?_
   have s92 := (hF91 31).trans s11
   have s94 : F90 21 = .bool true := (hF91 21).trans rfl
   clear hF91
   refine then_normal ?_
   refine wq_cond (t := true) s94 (fun _ => ?_) (fun e => by cases e)
   refine wq_seq ?_
   have hR : chE k c = 120 := by first | exact chE_has (by assumption) | exact chE_bare (by assumption) | exact chE_far2 (by first | assumption | simp_all)
   refine wq_region ?_
   refine wl_v (.int .i64 (120)) rfl rfl (y_asg rfl rfl ⟨rfl, rfl⟩) ?_
   refine wl_nil fun F95 hF96 => ?_
   have s97 := (hF96 31).trans s92
   have s98 : F95 4 = .int .i64 (120) := (hF96 4).trans rfl
   clear hF96
   refine then_normal ?_
   refine wq_ret ?_
   refine then_ret ?_
   exact end_tmp (v := .int .i64 (120)) s97 rfl rfl s98 ⟨(by rw [hR]), K89⟩
 ·skip
  refine wq_region ?_
  refine wl_v (.int .i64 (k)) rfl rfl (y_mov rfl s10 ⟨rfl, rfl⟩) ?_
  refine wl_v (.pointer (some ⟨p1, 0, none⟩)) rfl rfl (y_fieldR (n := 1) rfl s12 Tryz.underlying31 rfl (by kernel_rfl) (by decide) rfl ⟨rfl, rfl⟩) ?_
  refine wl_v (.int .i64 ((c).m)) rfl rfl (y_ld_stc rfl rfl Tryz.underlying3 B4 rfl rfl ⟨rfl, rfl⟩) ?_
  refine wl_call (R := fun v_ w_ => v_ = .bool false ∧ Kept (fun _ => False) w2 w_) rfl rfl (y_cs rfl rfl rfl (fun _ _ => by kernel_rfl) (ev_func _) (vsC rfl (vsC rfl vsN)) (bl_has (k) ((c).m)  _ (hA.all K7)  ) (fun e_ w_ h_ => ⟨_, h_.1, (congrArg Value.bool (decide_eq_false d13)), h_.2⟩)) ?_
  rintro _ w99 ⟨rfl, k100⟩
  have K102 := K7.trans k100 (fun _ _ x => x.elim)
  refine wl_v (.bool true) rfl rfl (y_not rfl rfl rfl ⟨rfl, rfl⟩) ?_
  refine wl_v (.bool true) rfl rfl (y_mov rfl rfl ⟨rfl, rfl⟩) ?_
  refine wl_unless 5 false 11 rfl rfl rfl (Or.inl rfl) rfl ?_
  refine wl_unless 5 false 11 rfl rfl rfl (Or.inl rfl) rfl ?_
  refine wl_unless 5 false 11 rfl rfl rfl (Or.inl rfl) rfl ?_
  refine wl_v (.bool true) rfl rfl (y_pickT rfl rfl rfl ⟨rfl, rfl⟩) ?_
  refine wl_v (.bool true) rfl rfl (y_mov rfl rfl ⟨rfl, rfl⟩) ?_
  refine wl_unless 10 false 16 rfl rfl rfl (Or.inl rfl) rfl ?_
  refine wl_unless 10 false 16 rfl rfl rfl (Or.inl rfl) rfl ?_
  refine wl_unless 10 false 16 rfl rfl rfl (Or.inl rfl) rfl ?_
  refine wl_unless 10 false 16 rfl rfl rfl (Or.inl rfl) rfl ?_
  refine wl_v (.bool true) rfl rfl (y_pickT rfl rfl rfl ⟨rfl, rfl⟩) ?_
  refine wl_nil fun F103 hF104 => ?_
  have s105 := (hF104 31).trans s11
  have s107 : F103 21 = .bool true := (hF104 21).trans rfl
  clear hF104
  refine then_normal ?_
  refine wq_cond (t := true) s107 (fun _ => ?_) (fun e => by cases e)
  refine wq_seq ?_
  have hR : chE k c = 120 := by first | exact chE_has (by assumption) | exact chE_bare (by assumption) | exact chE_far2 (by first | assumption | simp_all)
  refine wq_region ?_
  refine wl_v (.int .i64 (120)) rfl rfl (y_asg rfl rfl ⟨rfl, rfl⟩) ?_
  refine wl_nil fun F108 hF109 => ?_
  have s110 := (hF109 31).trans s105
  have s111 : F108 4 = .int .i64 (120) := (hF109 4).trans rfl
  clear hF109
  refine then_normal ?_
  refine wq_ret ?_
  refine then_ret ?_
  exact end_tmp (v := .int .i64 (120)) s110 rfl rfl s111 ⟨(by rw [hR]), K102⟩
set_option maxHeartbeats 4000000 in
set_option maxRecDepth 100000 in
theorem bl_write (p : Nat) (bs : List Bool) (k : Int) (c : Ch) (ax ay bx yy : Int) (T_w : Nat → Prop) (w0 : World) (hA : ActsIn w0) (hO : ScanIn w0) (hG : ∀ i, T_w i → 4 ≤ i) (hm : bs.length + 8192 < 1099511627776) (h_w : Wri w0 T_w p (bs)) :
  Calls Tryz.prog 11 #[.pointer (some ⟨p, 0, none⟩), .int .i64 (k), .agg (chW (c)).toArray, .agg #[.int .i64 (ax), .int .i64 (ay)], .agg #[.int .i64 (bx), .int .i64 (yy)]] w0 fun e w' => ∃ (T_w' : Nat → Prop), e = .returned (.int .i64 (chE k c)) ∧ Kept (T_w) w0 w' ∧ (Wri w' T_w' p (bs ++ wrCh k c ax ay bx yy) ∧ Grew w0 T_w T_w') := by
 refine calls_wq (args := [.pointer (some ⟨p, 0, none⟩), .int .i64 (k), .agg (chW (c)).toArray, .agg #[.int .i64 (ax), .int .i64 (ay)], .agg #[.int .i64 (bx), .int .i64 (yy)]]) 48 Tryz.func11 rfl rfl (Nat.le_of_ble_eq_true rfl) ?_
 have K0 := Kept.refl (T_w) w0
 have h1 := vecBits_short c.px c.py ax ay
 have h2 := vecBits_short c.nx c.ny bx yy
 have h3 := wholeBits_short c.m
 have h4 := scanBits_length c.b
 have g_w := Grew.refl w0 T_w
 refine wq_seq ?_
 refine wq_region ?_
 refine wl_box_stc (vs := (chW (c))) rfl rfl rfl rfl fun p1 w2 B4 g5 k3 => ?_
 have ap7 : Apart (onB p1) (T_w) := Apart.new g5 (h_w).live
 have B8 := h_w.all k3 Apart.none
 have K9 := K0.trans k3 (fun _ _ x => x.elim)
 refine wl_box_stc (vs := [.int .i64 (ax), .int .i64 (ay)]) rfl rfl rfl rfl fun p10 w11 B13 g14 k12 => ?_
 have ap16 : Apart (onB p10) (T_w) := Apart.new g14 (B8).live
 have B18 := B8.all k12 Apart.none
 have B19 := B4.all k12 id
 have K20 := K9.trans k12 (fun _ _ x => x.elim)
 refine wl_box_stc (vs := [.int .i64 (bx), .int .i64 (yy)]) rfl rfl rfl rfl fun p21 w22 B24 g25 k23 => ?_
 have ap27 : Apart (onB p21) (T_w) := Apart.new g25 (B18).live
 have B30 := B18.all k23 Apart.none
 have B31 := B19.all k23 id
 have B32 := B13.all k23 id
 have K33 := K20.trans k23 (fun _ _ x => x.elim)
 refine wl_v (.int .i64 (0)) rfl rfl (y_asg rfl rfl ⟨rfl, rfl⟩) ?_
 refine wl_nil fun F34 hF35 => ?_
 have s36 : F34 0 = .pointer (some ⟨p, 0, none⟩) := (hF35 0).trans rfl
 have s37 : F34 1 = .int .i64 (k) := (hF35 1).trans rfl
 have s38 : F34 48 = undef := (hF35 48).trans rfl
 have s39 : F34 7 = .pointer (some ⟨p1, 0, none⟩) := (hF35 7).trans rfl
 have s40 : F34 8 = .pointer (some ⟨p10, 0, none⟩) := (hF35 8).trans rfl
 have s41 : F34 9 = .pointer (some ⟨p21, 0, none⟩) := (hF35 9).trans rfl
 clear hF35
 refine then_normal ?_
 refine wq_seq ?_
 refine wq_seq ?_
 refine wq_region ?_
 refine wl_v (.pointer (some ⟨p, 0, none⟩)) rfl rfl (y_mov rfl s36 ⟨rfl, rfl⟩) ?_
 refine wl_v (.bool false) rfl rfl (y_noNil rfl rfl rfl Tryz.underlying44 ⟨rfl, rfl⟩) ?_
 refine wl_nil fun F42 hF43 => ?_
 have s44 := (hF43 0).trans s36
 have s45 := (hF43 1).trans s37
 have s46 := (hF43 48).trans s38
 have s47 := (hF43 7).trans s39
 have s48 := (hF43 8).trans s40
 have s49 := (hF43 9).trans s41
 have s50 : F42 15 = .bool false := (hF43 15).trans rfl
 clear hF43
 refine then_normal ?_
 refine wq_cond (t := false) s50 (fun e => by cases e) (fun _ => ?_)
 refine wq_skip ?_
 refine then_normal ?_
 refine wq_seq ?_
 refine wq_seq ?_
 refine wq_region ?_
 refine wl_v (.int .i64 (k)) rfl rfl (y_mov rfl s45 ⟨rfl, rfl⟩) ?_
 refine wl_v (.agg (chW (c)).toArray) rfl rfl (y_load_stc stcT_choice rfl s47 B31 ⟨rfl, rfl⟩) ?_
 refine wl_call (R := fun v_ w_ => v_ = .int .i64 (chE (k) (c)) ∧ Kept (fun _ => False) w22 w_) rfl rfl (y_cs rfl rfl rfl (fun _ _ => by kernel_rfl) (ev_func _) (vsC rfl (vsC rfl vsN)) (bl_check (k) (c)  _ (hA.but K33 hG)  ) (fun e_ w_ h_ => ⟨_, h_.1, rfl, h_.2⟩)) ?_
 rintro _ w51 ⟨rfl, k52⟩
 have B53 := B30.all k52 Apart.none
 have B54 := B31.all k52 id
 have B55 := B32.all k52 id
 have B56 := B24.all k52 id
 have K57 := K33.trans k52 (fun _ _ x => x.elim)
 refine wl_v (.int .i64 (chE (k) (c))) rfl rfl (y_asg rfl rfl ⟨rfl, rfl⟩) ?_
 refine wl_nil fun F58 hF59 => ?_
 have s60 := (hF59 0).trans s44
 have s61 := (hF59 48).trans s46
 have s62 := (hF59 7).trans s47
 have s63 := (hF59 8).trans s48
 have s64 := (hF59 9).trans s49
 have s65 : F58 11 = .int .i64 (chE (k) (c)) := (hF59 11).trans rfl
 clear hF59
 refine then_normal ?_
 refine wq_seq ?_
 refine wq_region ?_
 refine wl_v (.int .i64 (chE (k) (c))) rfl rfl (y_mov rfl s65 ⟨rfl, rfl⟩) ?_
 refine wl_v (.bool (decide ((chE (k) (c)) ≠ (0)))) rfl rfl (y_neqI rfl rfl rfl rfl ⟨rfl, rfl⟩) ?_
 refine wl_nil fun F66 hF67 => ?_
 have s68 := (hF67 0).trans s60
 have s69 := (hF67 48).trans s61
 have s70 := (hF67 7).trans s62
 have s71 := (hF67 8).trans s63
 have s72 := (hF67 9).trans s64
 have s73 := (hF67 11).trans s65
 have s74 : F66 20 = .bool (decide ((chE (k) (c)) ≠ (0))) := (hF67 20).trans rfl
 clear hF67
 refine then_normal ?_
 refine wq_cond s74 (fun c75 => ?_) (fun c75 => ?_)
 ·replace c75 := of_decide_eq_true c75
  refine wq_seq ?_
  have hno : wrCh k c ax ay bx yy = [] := if_neg (by assumption)
  refine wq_region ?_
  refine wl_v (.int .i64 (chE (k) (c))) rfl rfl (y_mov rfl s73 ⟨rfl, rfl⟩) ?_
  refine wl_v (.int .i64 (chE (k) (c))) rfl rfl (y_asg rfl rfl ⟨rfl, rfl⟩) ?_
  refine wl_nil fun F76 hF77 => ?_
  have s78 := (hF77 48).trans s69
  have s79 : F76 10 = .int .i64 (chE (k) (c)) := (hF77 10).trans rfl
  clear hF77
  refine then_normal ?_
  refine wq_ret ?_
  refine then_ret ?_
  exact end_tmp (v := .int .i64 (chE (k) (c))) s78 rfl rfl s79 ⟨T_w, (by first | rfl | rw [he]), K57, ⟨(by first | (rw [hno, List.append_nil]; exact B53) | exact (B53).cast (by rw [hyes]; unfold chBits pastBits nextBits; simp [*])), g_w⟩⟩
 ·replace c75 := of_decide_eq_false c75
  refine wq_skip ?_
  refine then_normal ?_
  refine wq_seq ?_
  have he : chE k c = 0 := by first | assumption | (apply Decidable.byContradiction; assumption)
  have hyes : wrCh k c ax ay bx yy = chBits c ax ay bx yy := if_pos he
  refine wq_region ?_
  refine wl_v (.pointer (some ⟨p1, 0, none⟩)) rfl rfl (y_fieldR (n := 1) rfl s70 Tryz.underlying31 rfl (by kernel_rfl) (by decide) rfl ⟨rfl, rfl⟩) ?_
  refine wl_v (.int .i64 ((c).m)) rfl rfl (y_ld_stc rfl rfl Tryz.underlying3 B54 rfl rfl ⟨rfl, rfl⟩) ?_
  refine wl_call (R := fun v_ w_ => v_ = .tuple #[.bool (pastB ((c).m)), .bool (nextB ((c).m))] ∧ Kept (fun _ => False) w51 w_) rfl rfl (y_cs rfl rfl rfl (fun _ _ => by kernel_rfl) (ev_func _) (vsC rfl vsN) (bl_vectors ((c).m)  _ (hA.but K57 hG)  ) (fun e_ w_ h_ => ⟨_, h_.1, rfl, h_.2⟩)) ?_
  rintro _ w80 ⟨rfl, k81⟩
  have B82 := B53.all k81 Apart.none
  have B83 := B54.all k81 id
  have B84 := B55.all k81 id
  have B85 := B56.all k81 id
  have K86 := K57.trans k81 (fun _ _ x => x.elim)
  refine wl_v (.tuple #[.bool (pastB ((c).m)), .bool (nextB ((c).m))]) rfl rfl (y_mov rfl rfl ⟨rfl, rfl⟩) ?_
  refine wl_v (.bool (pastB ((c).m))) rfl rfl (y_ext rfl rfl rfl ⟨rfl, rfl⟩) ?_
  refine wl_v (.bool (nextB ((c).m))) rfl rfl (y_ext rfl rfl rfl ⟨rfl, rfl⟩) ?_
  refine wl_v (.bool (pastB ((c).m))) rfl rfl (y_asg rfl rfl ⟨rfl, rfl⟩) ?_
  refine wl_v (.bool (nextB ((c).m))) rfl rfl (y_asg rfl rfl ⟨rfl, rfl⟩) ?_
  refine wl_nil fun F87 hF88 => ?_
  have s89 := (hF88 0).trans s68
  have s90 := (hF88 48).trans s69
  have s91 := (hF88 7).trans s70
  have s92 := (hF88 8).trans s71
  have s93 := (hF88 9).trans s72
  have s94 : F87 12 = .bool (pastB ((c).m)) := (hF88 12).trans rfl
  have s95 : F87 13 = .bool (nextB ((c).m)) := (hF88 13).trans rfl
  clear hF88
  refine then_normal ?_
  refine wq_seq ?_
  refine wq_region ?_
  refine wl_v (.pointer (some ⟨p, 0, none⟩)) rfl rfl (y_mov rfl s89 ⟨rfl, rfl⟩) ?_
  refine wl_v (.pointer (some ⟨p1, 0, none⟩)) rfl rfl (y_fieldR (n := 1) rfl s91 Tryz.underlying31 rfl (by kernel_rfl) (by decide) rfl ⟨rfl, rfl⟩) ?_
  refine wl_v (.int .i64 ((c).m)) rfl rfl (y_ld_stc rfl rfl Tryz.underlying3 B83 rfl rfl ⟨rfl, rfl⟩) ?_
  refine wl_call (R := fun v_ w_ => ∃ (T98 : Nat → Prop), .tuple #[] = v_ ∧ Kept (T_w) w80 w_ ∧ (Wri w_ T98 p ((bs) ++ wholeBits ((c).m)) ∧ Grew w80 (T_w) T98)) rfl rfl (y_cs rfl rfl rfl (fun _ _ => by kernel_rfl) (ev_func _) (vsC rfl (vsC rfl vsN)) (t_whole (p) (bs) ((c).m) (T_w) _ (by omega) B82 ) (fun e_ w_ h_ => by obtain ⟨T98_, he_, hr_⟩ := h_; exact ⟨_, he_, T98_, rfl, hr_⟩)) ?_
  rintro _ w96 ⟨T98, rfl, k97, ⟨B99, g100⟩⟩
  have B101 := B83.all k97 (fun x => ((ap7) p1 rfl x))
  have B102 := B84.all k97 (fun x => ((ap16) p10 rfl x))
  have B103 := B85.all k97 (fun x => ((ap27) p21 rfl x))
  have K104 := K86.trans k97 (fun i hi x => ((Grew.ok (S := T_w) g_w (fun _ x => x)) i hi x))
  have gr105 := g_w.trans K86 g100
  have ap106 : Apart T98 (onB p1) := ((ap7).symm).grew g100 (onB_live (B83).lt)
  have ap108 : Apart T98 (onB p21) := ((ap27).symm).grew g100 (onB_live (B85).lt)
  refine wl_nil fun F109 hF110 => ?_
  have s111 := (hF110 0).trans s89
  have s112 := (hF110 48).trans s90
  have s113 := (hF110 7).trans s91
  have s114 := (hF110 8).trans s92
  have s115 := (hF110 9).trans s93
  have s116 := (hF110 12).trans s94
  have s117 := (hF110 13).trans s95
  clear hF110
  refine then_normal ?_
  refine wq_seq ?_
  refine wq_seq ?_
  refine wq_region ?_
  refine wl_v (.bool (pastB ((c).m))) rfl rfl (y_mov rfl s116 ⟨rfl, rfl⟩) ?_
  refine wl_nil fun F118 hF119 => ?_
  have s120 := (hF119 0).trans s111
  have s121 := (hF119 48).trans s112
  have s122 := (hF119 7).trans s113
  have s123 := (hF119 8).trans s114
  have s124 := (hF119 9).trans s115
  have s125 := (hF119 13).trans s117
  have s126 : F118 32 = .bool (pastB ((c).m)) := (hF119 32).trans rfl
  clear hF119
  refine then_normal ?_
  refine wq_cond s126 (fun c127 => ?_) (fun c127 => ?_)
  ·skip
   refine wq_region ?_
   refine wl_v (.pointer (some ⟨p, 0, none⟩)) rfl rfl (y_mov rfl s120 ⟨rfl, rfl⟩) ?_
   refine wl_v (.pointer (some ⟨p1, 1, none⟩)) rfl rfl (y_fieldR (n := 2) rfl s122 Tryz.underlying31 rfl (by kernel_rfl) (by decide) rfl ⟨rfl, rfl⟩) ?_
   refine wl_v (.agg #[.int .i64 ((c).px), .int .i64 ((c).py)]) rfl rfl (y_ldPart (n := 2) stcT_vector rfl rfl B101 (Nat.le_of_ble_eq_true rfl) rfl ⟨rfl, rfl⟩) ?_
   refine wl_v (.agg #[.int .i64 (ax), .int .i64 (ay)]) rfl rfl (y_load_stc stcT_vector rfl s123 B102 ⟨rfl, rfl⟩) ?_
   refine wl_call (R := fun v_ w_ => ∃ (T130 : Nat → Prop), .tuple #[] = v_ ∧ Kept (T98) w96 w_ ∧ (Wri w_ T130 p (((bs) ++ wholeBits ((c).m)) ++ vecBits ((c).px) ((c).py) (ax) (ay)) ∧ Grew w96 (T98) T130)) rfl rfl (y_cs rfl rfl rfl (fun _ _ => by kernel_rfl) (ev_func _) (vsC rfl (vsC rfl (vsC rfl vsN))) (vt_write (p) ((bs) ++ wholeBits ((c).m)) ((c).px) ((c).py) (ax) (ay) (T98) _ (by simp; omega) B99 ) (fun e_ w_ h_ => by obtain ⟨T130_, he_, hr_⟩ := h_; exact ⟨_, he_, T130_, rfl, hr_⟩)) ?_
   rintro _ w128 ⟨T130, rfl, k129, ⟨B131, g132⟩⟩
   have B133 := B101.all k129 (fun x => (((ap106).symm) p1 rfl x))
   have B135 := B103.all k129 (fun x => (((ap108).symm) p21 rfl x))
   have K136 := K104.trans k129 (fun i hi x => ((Grew.ok (S := T_w) gr105 (fun _ x => x)) i hi x))
   have gr137 := gr105.trans K104 g132
   have ap138 : Apart T130 (onB p1) := (ap106).grew g132 (onB_live (B101).lt)
   refine wl_nil fun F141 hF142 => ?_
   have s143 := (hF142 0).trans s120
   have s144 := (hF142 48).trans s121
   have s145 := (hF142 7).trans s122
   have s146 := (hF142 9).trans s124
   have s147 := (hF142 13).trans s125
   clear hF142
   refine then_normal ?_
   refine wq_seq ?_
   refine wq_seq ?_
   refine wq_region ?_
   refine wl_v (.bool (nextB ((c).m))) rfl rfl (y_mov rfl s147 ⟨rfl, rfl⟩) ?_
   refine wl_nil fun F148 hF149 => ?_
   have s150 := (hF149 0).trans s143
   have s151 := (hF149 48).trans s144
   have s152 := (hF149 7).trans s145
   have s153 := (hF149 9).trans s146
   have s154 : F148 38 = .bool (nextB ((c).m)) := (hF149 38).trans rfl
   clear hF149
   refine then_normal ?_
   refine wq_cond s154 (fun c155 => ?_) (fun c155 => ?_)
   ·skip
    refine wq_region ?_
    refine wl_v (.pointer (some ⟨p, 0, none⟩)) rfl rfl (y_mov rfl s150 ⟨rfl, rfl⟩) ?_
    refine wl_v (.pointer (some ⟨p1, 3, none⟩)) rfl rfl (y_fieldR (n := 2) rfl s152 Tryz.underlying31 rfl (by kernel_rfl) (by decide) rfl ⟨rfl, rfl⟩) ?_
    refine wl_v (.agg #[.int .i64 ((c).nx), .int .i64 ((c).ny)]) rfl rfl (y_ldPart (n := 2) stcT_vector rfl rfl B133 (Nat.le_of_ble_eq_true rfl) rfl ⟨rfl, rfl⟩) ?_
    refine wl_v (.agg #[.int .i64 (bx), .int .i64 (yy)]) rfl rfl (y_load_stc stcT_vector rfl s153 B135 ⟨rfl, rfl⟩) ?_
    refine wl_call (R := fun v_ w_ => ∃ (T158 : Nat → Prop), .tuple #[] = v_ ∧ Kept (T130) w128 w_ ∧ (Wri w_ T158 p ((((bs) ++ wholeBits ((c).m)) ++ vecBits ((c).px) ((c).py) (ax) (ay)) ++ vecBits ((c).nx) ((c).ny) (bx) (yy)) ∧ Grew w128 (T130) T158)) rfl rfl (y_cs rfl rfl rfl (fun _ _ => by kernel_rfl) (ev_func _) (vsC rfl (vsC rfl (vsC rfl vsN))) (vt_write (p) (((bs) ++ wholeBits ((c).m)) ++ vecBits ((c).px) ((c).py) (ax) (ay)) ((c).nx) ((c).ny) (bx) (yy) (T130) _ (by simp; omega) B131 ) (fun e_ w_ h_ => by obtain ⟨T158_, he_, hr_⟩ := h_; exact ⟨_, he_, T158_, rfl, hr_⟩)) ?_
    rintro _ w156 ⟨T158, rfl, k157, ⟨B159, g160⟩⟩
    have B161 := B133.all k157 (fun x => (((ap138).symm) p1 rfl x))
    have K164 := K136.trans k157 (fun i hi x => ((Grew.ok (S := T_w) gr137 (fun _ x => x)) i hi x))
    have gr165 := gr137.trans K136 g160
    refine wl_nil fun F169 hF170 => ?_
    have s171 := (hF170 0).trans s150
    have s172 := (hF170 48).trans s151
    have s173 := (hF170 7).trans s152
    clear hF170
    refine then_normal ?_
    refine wq_seq ?_
    refine wq_region ?_
    refine wl_v (.pointer (some ⟨p, 0, none⟩)) rfl rfl (y_mov rfl s171 ⟨rfl, rfl⟩) ?_
    refine wl_v (.pointer (some ⟨p1, 5, none⟩)) rfl rfl (y_fieldR (n := 16) rfl s173 Tryz.underlying31 rfl (by kernel_rfl) (by decide) rfl ⟨rfl, rfl⟩) ?_
    refine wl_v (blkV ((c).b)) rfl rfl (y_ldPart (n := 16) (us := arrL 16 ((c).b)) stcT_block rfl rfl B161 (Nat.le_of_ble_eq_true rfl) rfl ⟨rfl, rfl⟩) ?_
    refine wl_call (R := fun v_ w_ => ∃ (T176 : Nat → Prop), .tuple #[] = v_ ∧ Kept (T158) w156 w_ ∧ (Wri w_ T176 p (((((bs) ++ wholeBits ((c).m)) ++ vecBits ((c).px) ((c).py) (ax) (ay)) ++ vecBits ((c).nx) ((c).ny) (bx) (yy)) ++ scanBits ((c).b)) ∧ Grew w156 (T158) T176)) rfl rfl (y_cs rfl rfl rfl (fun _ _ => by kernel_rfl) (ev_func _) (vsC rfl (vsC rfl vsN)) (scan_write (p) ((((bs) ++ wholeBits ((c).m)) ++ vecBits ((c).px) ((c).py) (ax) (ay)) ++ vecBits ((c).nx) ((c).ny) (bx) (yy)) ((c).b) (T158) _ (hO.but K164 (ovO hG)) (ovO (aboveN2 gr165 hG hA)) (by simp; omega) B159 ) (fun e_ w_ h_ => by obtain ⟨T176_, he_, hr_⟩ := h_; exact ⟨_, he_, T176_, rfl, hr_⟩)) ?_
    rintro _ w174 ⟨T176, rfl, k175, ⟨B177, g178⟩⟩
    have K182 := K164.trans k175 (fun i hi x => ((Grew.ok (S := T_w) gr165 (fun _ x => x)) i hi x))
    have gr183 := gr165.trans K164 g178
    refine wl_nil fun F187 hF188 => ?_
    have s189 := (hF188 48).trans s172
    clear hF188
    refine then_normal ?_
    refine wq_seq ?_
    refine wq_region ?_
    refine wl_v (.int .i64 (0)) rfl rfl (y_asg rfl rfl ⟨rfl, rfl⟩) ?_
    refine wl_nil fun F190 hF191 => ?_
    have s192 := (hF191 48).trans s189
    have s193 : F190 10 = .int .i64 (0) := (hF191 10).trans rfl
    clear hF191
    refine then_normal ?_
    refine wq_ret ?_
    exact end_tmp (v := .int .i64 (0)) s192 rfl rfl s193 ⟨T176, (by first | rfl | rw [he]), K182, ⟨(by first | (rw [hno, List.append_nil]; exact B177) | exact (B177).cast (by rw [hyes]; unfold chBits pastBits nextBits; simp [*])), gr183⟩⟩
   ·skip
    refine wq_skip ?_
    refine then_normal ?_
    refine wq_seq ?_
    refine wq_region ?_
    refine wl_v (.pointer (some ⟨p, 0, none⟩)) rfl rfl (y_mov rfl s150 ⟨rfl, rfl⟩) ?_
    refine wl_v (.pointer (some ⟨p1, 5, none⟩)) rfl rfl (y_fieldR (n := 16) rfl s152 Tryz.underlying31 rfl (by kernel_rfl) (by decide) rfl ⟨rfl, rfl⟩) ?_
    refine wl_v (blkV ((c).b)) rfl rfl (y_ldPart (n := 16) (us := arrL 16 ((c).b)) stcT_block rfl rfl B133 (Nat.le_of_ble_eq_true rfl) rfl ⟨rfl, rfl⟩) ?_
    refine wl_call (R := fun v_ w_ => ∃ (T196 : Nat → Prop), .tuple #[] = v_ ∧ Kept (T130) w128 w_ ∧ (Wri w_ T196 p ((((bs) ++ wholeBits ((c).m)) ++ vecBits ((c).px) ((c).py) (ax) (ay)) ++ scanBits ((c).b)) ∧ Grew w128 (T130) T196)) rfl rfl (y_cs rfl rfl rfl (fun _ _ => by kernel_rfl) (ev_func _) (vsC rfl (vsC rfl vsN)) (scan_write (p) (((bs) ++ wholeBits ((c).m)) ++ vecBits ((c).px) ((c).py) (ax) (ay)) ((c).b) (T130) _ (hO.but K136 (ovO hG)) (ovO (aboveN2 gr137 hG hA)) (by simp; omega) B131 ) (fun e_ w_ h_ => by obtain ⟨T196_, he_, hr_⟩ := h_; exact ⟨_, he_, T196_, rfl, hr_⟩)) ?_
    rintro _ w194 ⟨T196, rfl, k195, ⟨B197, g198⟩⟩
    have K202 := K136.trans k195 (fun i hi x => ((Grew.ok (S := T_w) gr137 (fun _ x => x)) i hi x))
    have gr203 := gr137.trans K136 g198
    refine wl_nil fun F207 hF208 => ?_
    have s209 := (hF208 48).trans s151
    clear hF208
    refine then_normal ?_
    refine wq_seq ?_
    refine wq_region ?_
    refine wl_v (.int .i64 (0)) rfl rfl (y_asg rfl rfl ⟨rfl, rfl⟩) ?_
    refine wl_nil fun F210 hF211 => ?_
    have s212 := (hF211 48).trans s209
    have s213 : F210 10 = .int .i64 (0) := (hF211 10).trans rfl
    clear hF211
    refine then_normal ?_
    refine wq_ret ?_
    exact end_tmp (v := .int .i64 (0)) s212 rfl rfl s213 ⟨T196, (by first | rfl | rw [he]), K202, ⟨(by first | (rw [hno, List.append_nil]; exact B197) | exact (B197).cast (by rw [hyes]; unfold chBits pastBits nextBits; simp [*])), gr203⟩⟩
  ·skip
   refine wq_skip ?_
   refine then_normal ?_
   refine wq_seq ?_
   refine wq_seq ?_
   refine wq_region ?_
   refine wl_v (.bool (nextB ((c).m))) rfl rfl (y_mov rfl s125 ⟨rfl, rfl⟩) ?_
   refine wl_nil fun F214 hF215 => ?_
   have s216 := (hF215 0).trans s120
   have s217 := (hF215 48).trans s121
   have s218 := (hF215 7).trans s122
   have s219 := (hF215 9).trans s124
   have s220 : F214 38 = .bool (nextB ((c).m)) := (hF215 38).trans rfl
   clear hF215
   refine then_normal ?_
   refine wq_cond s220 (fun c221 => ?_) (fun c221 => ?_)
   ·skip
    refine wq_region ?_
    refine wl_v (.pointer (some ⟨p, 0, none⟩)) rfl rfl (y_mov rfl s216 ⟨rfl, rfl⟩) ?_
    refine wl_v (.pointer (some ⟨p1, 3, none⟩)) rfl rfl (y_fieldR (n := 2) rfl s218 Tryz.underlying31 rfl (by kernel_rfl) (by decide) rfl ⟨rfl, rfl⟩) ?_
    refine wl_v (.agg #[.int .i64 ((c).nx), .int .i64 ((c).ny)]) rfl rfl (y_ldPart (n := 2) stcT_vector rfl rfl B101 (Nat.le_of_ble_eq_true rfl) rfl ⟨rfl, rfl⟩) ?_
    refine wl_v (.agg #[.int .i64 (bx), .int .i64 (yy)]) rfl rfl (y_load_stc stcT_vector rfl s219 B103 ⟨rfl, rfl⟩) ?_
    refine wl_call (R := fun v_ w_ => ∃ (T224 : Nat → Prop), .tuple #[] = v_ ∧ Kept (T98) w96 w_ ∧ (Wri w_ T224 p (((bs) ++ wholeBits ((c).m)) ++ vecBits ((c).nx) ((c).ny) (bx) (yy)) ∧ Grew w96 (T98) T224)) rfl rfl (y_cs rfl rfl rfl (fun _ _ => by kernel_rfl) (ev_func _) (vsC rfl (vsC rfl (vsC rfl vsN))) (vt_write (p) ((bs) ++ wholeBits ((c).m)) ((c).nx) ((c).ny) (bx) (yy) (T98) _ (by simp; omega) B99 ) (fun e_ w_ h_ => by obtain ⟨T224_, he_, hr_⟩ := h_; exact ⟨_, he_, T224_, rfl, hr_⟩)) ?_
    rintro _ w222 ⟨T224, rfl, k223, ⟨B225, g226⟩⟩
    have B227 := B101.all k223 (fun x => (((ap106).symm) p1 rfl x))
    have K230 := K104.trans k223 (fun i hi x => ((Grew.ok (S := T_w) gr105 (fun _ x => x)) i hi x))
    have gr231 := gr105.trans K104 g226
    refine wl_nil fun F235 hF236 => ?_
    have s237 := (hF236 0).trans s216
    have s238 := (hF236 48).trans s217
    have s239 := (hF236 7).trans s218
    clear hF236
    refine then_normal ?_
    refine wq_seq ?_
    refine wq_region ?_
    refine wl_v (.pointer (some ⟨p, 0, none⟩)) rfl rfl (y_mov rfl s237 ⟨rfl, rfl⟩) ?_
    refine wl_v (.pointer (some ⟨p1, 5, none⟩)) rfl rfl (y_fieldR (n := 16) rfl s239 Tryz.underlying31 rfl (by kernel_rfl) (by decide) rfl ⟨rfl, rfl⟩) ?_
    refine wl_v (blkV ((c).b)) rfl rfl (y_ldPart (n := 16) (us := arrL 16 ((c).b)) stcT_block rfl rfl B227 (Nat.le_of_ble_eq_true rfl) rfl ⟨rfl, rfl⟩) ?_
    refine wl_call (R := fun v_ w_ => ∃ (T242 : Nat → Prop), .tuple #[] = v_ ∧ Kept (T224) w222 w_ ∧ (Wri w_ T242 p ((((bs) ++ wholeBits ((c).m)) ++ vecBits ((c).nx) ((c).ny) (bx) (yy)) ++ scanBits ((c).b)) ∧ Grew w222 (T224) T242)) rfl rfl (y_cs rfl rfl rfl (fun _ _ => by kernel_rfl) (ev_func _) (vsC rfl (vsC rfl vsN)) (scan_write (p) (((bs) ++ wholeBits ((c).m)) ++ vecBits ((c).nx) ((c).ny) (bx) (yy)) ((c).b) (T224) _ (hO.but K230 (ovO hG)) (ovO (aboveN2 gr231 hG hA)) (by simp; omega) B225 ) (fun e_ w_ h_ => by obtain ⟨T242_, he_, hr_⟩ := h_; exact ⟨_, he_, T242_, rfl, hr_⟩)) ?_
    rintro _ w240 ⟨T242, rfl, k241, ⟨B243, g244⟩⟩
    have K248 := K230.trans k241 (fun i hi x => ((Grew.ok (S := T_w) gr231 (fun _ x => x)) i hi x))
    have gr249 := gr231.trans K230 g244
    refine wl_nil fun F253 hF254 => ?_
    have s255 := (hF254 48).trans s238
    clear hF254
    refine then_normal ?_
    refine wq_seq ?_
    refine wq_region ?_
    refine wl_v (.int .i64 (0)) rfl rfl (y_asg rfl rfl ⟨rfl, rfl⟩) ?_
    refine wl_nil fun F256 hF257 => ?_
    have s258 := (hF257 48).trans s255
    have s259 : F256 10 = .int .i64 (0) := (hF257 10).trans rfl
    clear hF257
    refine then_normal ?_
    refine wq_ret ?_
    exact end_tmp (v := .int .i64 (0)) s258 rfl rfl s259 ⟨T242, (by first | rfl | rw [he]), K248, ⟨(by first | (rw [hno, List.append_nil]; exact B243) | exact (B243).cast (by rw [hyes]; unfold chBits pastBits nextBits; simp [*])), gr249⟩⟩
   ·skip
    refine wq_skip ?_
    refine then_normal ?_
    refine wq_seq ?_
    refine wq_region ?_
    refine wl_v (.pointer (some ⟨p, 0, none⟩)) rfl rfl (y_mov rfl s216 ⟨rfl, rfl⟩) ?_
    refine wl_v (.pointer (some ⟨p1, 5, none⟩)) rfl rfl (y_fieldR (n := 16) rfl s218 Tryz.underlying31 rfl (by kernel_rfl) (by decide) rfl ⟨rfl, rfl⟩) ?_
    refine wl_v (blkV ((c).b)) rfl rfl (y_ldPart (n := 16) (us := arrL 16 ((c).b)) stcT_block rfl rfl B101 (Nat.le_of_ble_eq_true rfl) rfl ⟨rfl, rfl⟩) ?_
    refine wl_call (R := fun v_ w_ => ∃ (T262 : Nat → Prop), .tuple #[] = v_ ∧ Kept (T98) w96 w_ ∧ (Wri w_ T262 p (((bs) ++ wholeBits ((c).m)) ++ scanBits ((c).b)) ∧ Grew w96 (T98) T262)) rfl rfl (y_cs rfl rfl rfl (fun _ _ => by kernel_rfl) (ev_func _) (vsC rfl (vsC rfl vsN)) (scan_write (p) ((bs) ++ wholeBits ((c).m)) ((c).b) (T98) _ (hO.but K104 (ovO hG)) (ovO (aboveN2 gr105 hG hA)) (by simp; omega) B99 ) (fun e_ w_ h_ => by obtain ⟨T262_, he_, hr_⟩ := h_; exact ⟨_, he_, T262_, rfl, hr_⟩)) ?_
    rintro _ w260 ⟨T262, rfl, k261, ⟨B263, g264⟩⟩
    have K268 := K104.trans k261 (fun i hi x => ((Grew.ok (S := T_w) gr105 (fun _ x => x)) i hi x))
    have gr269 := gr105.trans K104 g264
    refine wl_nil fun F273 hF274 => ?_
    have s275 := (hF274 48).trans s217
    clear hF274
    refine then_normal ?_
    refine wq_seq ?_
    refine wq_region ?_
    refine wl_v (.int .i64 (0)) rfl rfl (y_asg rfl rfl ⟨rfl, rfl⟩) ?_
    refine wl_nil fun F276 hF277 => ?_
    have s278 := (hF277 48).trans s275
    have s279 : F276 10 = .int .i64 (0) := (hF277 10).trans rfl
    clear hF277
    refine then_normal ?_
    refine wq_ret ?_
    exact end_tmp (v := .int .i64 (0)) s278 rfl rfl s279 ⟨T262, (by first | rfl | rw [he]), K268, ⟨(by first | (rw [hno, List.append_nil]; exact B263) | exact (B263).cast (by rw [hyes]; unfold chBits pastBits nextBits; simp [*])), gr269⟩⟩
set_option maxHeartbeats 4000000 in
set_option maxRecDepth 100000 in
theorem bl_build (b : Nat → Int) (c : Ch) (q : Int) (w0 : World) (hs : StepsAt w0) (hw : Waves w0) :
  Calls Tryz.prog 8 #[blkV (b), .agg (chW (c)).toArray, .int .i64 (q)] w0 fun e w' => e = .returned (.tuple #[blkV (buB b c.b q), .int .i64 (ern q)]) ∧ Kept (fun _ => False) w0 w' := by
 refine calls_wq (args := [blkV (b), .agg (chW (c)).toArray, .int .i64 (q)]) 39 Tryz.func8 rfl rfl (Nat.le_of_ble_eq_true rfl) ?_
 have K0 := Kept.refl (fun _ => False) w0
 refine wq_seq ?_
 refine wq_region ?_
 refine wl_box_blk rfl rfl rfl rfl fun p1 w2 e5 B3 k4 => ?_
 have g6 := onB_new (Nat.le_of_eq e5.symm)
 have gr7 : Grew w0 noB (onB p1) := Grew.new K0 g6
 clear e5 g6
 have K8 := K0.trans k4 (fun _ _ x => x.elim)
 refine wl_box_stc (vs := (chW (c))) rfl rfl rfl rfl fun p9 w10 B12 g13 k11 => ?_
 have ap15 : Apart (onB p9) (onB p1) := Apart.new g13 (onB_live (B3).lt)
 have B16 := B3.all k11 id
 have K17 := K8.trans k11 (fun _ _ x => x.elim)
 refine wl_alloc_blk rfl rfl rfl blkT_block.2.2 fun p18 w19 e22 B20 k21 => ?_
 have g23 := onB_new (Nat.le_of_eq e22.symm)
 have gr24 : Grew w0 noB (onB p18) := Grew.new K17 g23
 have ap25 : Apart (onB p18) (onB p1) := Apart.new g23 (onB_live (B16).lt)
 clear e22 g23
 have B27 := B16.all k21 id
 have B28 := B12.all k21 id
 have K29 := K17.trans k21 (fun _ _ x => x.elim)
 refine wl_v (.int .i64 (0)) rfl rfl (y_asg rfl rfl ⟨rfl, rfl⟩) ?_
 refine wl_nil fun F30 hF31 => ?_
 have s32 : F30 2 = .int .i64 (q) := (hF31 2).trans rfl
 have s33 : F30 39 = undef := (hF31 39).trans rfl
 have s34 : F30 3 = .pointer (some ⟨p1, 0, none⟩) := (hF31 3).trans rfl
 have s35 : F30 4 = .pointer (some ⟨p9, 0, none⟩) := (hF31 4).trans rfl
 have s36 : F30 6 = .pointer (some ⟨p18, 0, none⟩) := (hF31 6).trans rfl
 clear hF31
 refine then_normal ?_
 refine wq_seq ?_
 refine wq_region ?_
 refine wl_v (.pointer (some ⟨p9, 5, none⟩)) rfl rfl (y_fieldR (n := 16) rfl s35 Tryz.underlying31 rfl (by kernel_rfl) (by decide) rfl ⟨rfl, rfl⟩) ?_
 refine wl_v (blkV ((c).b)) rfl rfl (y_ldPart (n := 16) (us := arrL 16 ((c).b)) stcT_block rfl rfl B28 (Nat.le_of_ble_eq_true rfl) rfl ⟨rfl, rfl⟩) ?_
 refine wl_v (.int .i64 (q)) rfl rfl (y_mov rfl s32 ⟨rfl, rfl⟩) ?_
 refine wl_call (R := fun v_ w_ => v_ = .tuple #[blkV (upB ((c).b) (q)), .int .i64 (ern (q))] ∧ Kept (fun _ => False) w19 w_) rfl rfl (y_cs rfl rfl rfl (fun _ _ => by kernel_rfl) (ev_func _) (vsC rfl (vsC rfl vsN)) (up_any ((c).b) (q)  _ (hs.all K29)  ) (fun e_ w_ h_ => ⟨_, h_.1, rfl, h_.2⟩)) ?_
 rintro _ w37 ⟨rfl, k38⟩
 have B39 := B27.all k38 id
 have B40 := B28.all k38 id
 have B41 := B20.all k38 id
 have K42 := K29.trans k38 (fun _ _ x => x.elim)
 refine wl_v (.tuple #[blkV (upB ((c).b) (q)), .int .i64 (ern (q))]) rfl rfl (y_mov rfl rfl ⟨rfl, rfl⟩) ?_
 refine wl_v (blkV (upB ((c).b) (q))) rfl rfl (y_ext rfl rfl rfl ⟨rfl, rfl⟩) ?_
 refine wl_v (.int .i64 (ern (q))) rfl rfl (y_ext rfl rfl rfl ⟨rfl, rfl⟩) ?_
 refine wl_alloc_blk rfl rfl rfl blkT_block.2.2 fun p43 w44 e47 B45 k46 => ?_
 have g48 := onB_new (Nat.le_of_eq e47.symm)
 have gr49 : Grew w0 noB (onB p43) := Grew.new K42 g48
 have ap50 : Apart (onB p43) (onB p1) := Apart.new g48 (onB_live (B39).lt)
 have ap51 : Apart (onB p43) (onB p9) := Apart.new g48 (onB_live (B40).lt)
 have ap52 : Apart (onB p43) (onB p18) := Apart.new g48 (onB_live (B41).lt)
 clear e47 g48
 have B53 := B39.all k46 id
 have B54 := B40.all k46 id
 have B55 := B41.all k46 id
 have K56 := K42.trans k46 (fun _ _ x => x.elim)
 refine wl_store_blk blkT_block rfl rfl rfl rfl rfl B45 fun w57 B58 k59 => ?_
 have B60 := B53.all k59 (fun x => (((ap50).symm) p1 rfl x))
 have B61 := B54.all k59 (fun x => (((ap51).symm) p9 rfl x))
 have B62 := B55.all k59 (fun x => (((ap52).symm) p18 rfl x))
 have K63 := K56.trans k59 (Grew.ok (S := fun _ => False) gr49 noB_le)
 refine wl_v (.int .i64 (ern (q))) rfl rfl (y_asg rfl rfl ⟨rfl, rfl⟩) ?_
 refine wl_nil fun F64 hF65 => ?_
 have s66 := (hF65 39).trans s33
 have s67 := (hF65 3).trans s34
 have s68 := (hF65 6).trans s36
 have s69 : F64 8 = .pointer (some ⟨p43, 0, none⟩) := (hF65 8).trans rfl
 have s70 : F64 9 = .int .i64 (ern (q)) := (hF65 9).trans rfl
 clear hF65
 refine then_normal ?_
 refine wq_seq ?_
 refine wq_seq ?_
 refine wq_region ?_
 refine wl_v (.int .i64 (ern (q))) rfl rfl (y_mov rfl s70 ⟨rfl, rfl⟩) ?_
 refine wl_v (.bool (decide ((ern (q)) ≠ (0)))) rfl rfl (y_neqI rfl rfl rfl rfl ⟨rfl, rfl⟩) ?_
 refine wl_nil fun F71 hF72 => ?_
 have s73 := (hF72 39).trans s66
 have s74 := (hF72 3).trans s67
 have s75 := (hF72 6).trans s68
 have s76 := (hF72 8).trans s69
 have s77 := (hF72 9).trans s70
 have s78 : F71 20 = .bool (decide ((ern (q)) ≠ (0))) := (hF72 20).trans rfl
 clear hF72
 refine then_normal ?_
 refine wq_cond s78 (fun c79 => ?_) (fun c79 => ?_)
 ·replace c79 := of_decide_eq_true c79
  refine wq_seq ?_
  have hR := bu_no (b := b) (l := c.b) (q := q) (by assumption)
  refine wq_region ?_
  refine wl_v (blkV (fun _ => 0)) rfl rfl (y_buildR (cells := (arrL 16 (fun _ => 0)).toArray) rfl (by kernel_rfl) rfl ⟨rfl, rfl⟩) ?_
  refine wl_v (.int .i64 (ern (q))) rfl rfl (y_mov rfl s77 ⟨rfl, rfl⟩) ?_
  refine wl_store_blk blkT_block rfl rfl rfl s75 rfl B62 fun w80 B81 k82 => ?_
  have K86 := K63.trans k82 (Grew.ok (S := fun _ => False) gr24 noB_le)
  refine wl_v (.int .i64 (ern (q))) rfl rfl (y_asg rfl rfl ⟨rfl, rfl⟩) ?_
  refine wl_nil fun F87 hF88 => ?_
  have s89 := (hF88 39).trans s73
  have s90 := (hF88 6).trans s75
  have s91 : F87 7 = .int .i64 (ern (q)) := (hF88 7).trans rfl
  clear hF88
  refine then_normal ?_
  refine wq_ret ?_
  refine then_ret ?_
  exact end_2 s89 rfl (res_blk blkT_block rfl s90 B81) (res_tmp (v := .int .i64 (ern (q))) rfl s91) ⟨(by first | rw [hR, hq0] | rw [hR]), K86⟩
 ·replace c79 := of_decide_eq_false c79
  refine wq_skip ?_
  refine then_normal ?_
  refine wq_seq ?_
  have hq0 : ern q = 0 := by first | assumption | (apply Decidable.byContradiction; assumption)
  have hR := bu_yes (b := b) (l := c.b) hq0
  refine wq_tail 4 [some 23, some 24, some 25, some 26] [Pd.eq (blkV (b)), Pd.eq (blkV (upB ((c).b) (q))), Pd.eq (blkV (backB (upB ((c).b) (q)))), Pd.eq (blkV (moreB (b) (backB (upB ((c).b) (q)))))] (by kernel_rfl) (by kernel_rfl) (by kernel_rfl) ?_ ?_
  ·refine stepsF_cons ?_ ?_
   ·refine StepF.one rfl fun F_ w_ hR hout hD => ?_
    exact (y_load_blk blkT_block rfl ((hout 3 rfl (by decide)).trans s74) (B60.all hR id) ⟨rfl, Kept.refl _ _⟩)
   refine stepsF_cons ?_ ?_
   ·refine StepF.one rfl fun F_ w_ hR hout hD => ?_
    exact (y_load_blk blkT_block rfl ((hout 8 rfl (by decide)).trans s76) (B58.all hR id) ⟨rfl, Kept.refl _ _⟩)
   refine stepsF_cons ?_ ?_
   ·refine StepF.one rfl fun F_ w_ hR hout hD => ?_
    have g24 : F_ 24 = blkV (upB ((c).b) (q)) := (hD.get 0 rfl rfl rfl)
    exact (y_cs rfl rfl rfl (fun _ _ => by kernel_rfl) (ev_func _) (vsC g24 vsN) (back_any (upB ((c).b) (q))  _ (hw.all (K63.trans hR (fun _ _ x => x.elim)))  ) (fun e_ w_ h_ => ⟨_, h_.1, rfl, h_.2⟩))
   refine stepsF_cons ?_ ?_
   ·refine StepF.one rfl fun F_ w_ hR hout hD => ?_
    have g23 : F_ 23 = blkV (b) := (hD.get 0 rfl rfl rfl)
    have g25 : F_ 25 = blkV (backB (upB ((c).b) (q))) := (hD.get 1 rfl rfl rfl)
    exact (y_cs rfl rfl rfl (fun _ _ => by kernel_rfl) (ev_func _) (vsC g23 (vsC g25 vsN)) (more_any (b) (backB (upB ((c).b) (q)))  _   ) (fun e_ w_ h_ => ⟨_, h_.1, rfl, h_.2⟩))
   exact stepsF_nil
  intro v92 F93 w94 k95 G96 hF97
  have B99 := B60.all k95 id
  have B100 := B61.all k95 id
  have B101 := B62.all k95 id
  have B102 := B58.all k95 id
  have K103 := K63.trans k95 (fun _ _ x => x.elim)
  have s104 := (hF97 39).trans s73
  have s105 := (hF97 3).trans s74
  have s106 := (hF97 6).trans s75
  have s107 : F93 26 = blkV (moreB (b) (backB (upB ((c).b) (q)))) := (hF97 26).trans (G96 3 (by decide))
  clear G96 hF97
  refine wl_store_blk blkT_block rfl rfl rfl s105 s107 B99 fun w108 B109 k110 => ?_
  have B111 := B100.all k110 (fun x => ((ap15) p9 rfl x))
  have B112 := B101.all k110 (fun x => ((ap25) p18 rfl x))
  have B113 := B102.all k110 (fun x => ((ap50) p43 rfl x))
  have K114 := K103.trans k110 (Grew.ok (S := fun _ => False) gr7 noB_le)
  refine wl_nil fun F115 hF116 => ?_
  have s117 := (hF116 39).trans s104
  have s118 := (hF116 3).trans s105
  have s119 := (hF116 6).trans s106
  clear hF116
  refine then_normal ?_
  refine wq_seq ?_
  refine wq_seq ?_
  refine wq_region ?_
  refine wl_v (blkV (moreB (b) (backB (upB ((c).b) (q))))) rfl rfl (y_load_blk blkT_block rfl s118 B109 ⟨rfl, rfl⟩) ?_
  refine wl_v (.int .i64 (0)) rfl rfl (y_mov rfl rfl ⟨rfl, rfl⟩) ?_
  refine wl_nil fun F120 hF121 => ?_
  have s122 := (hF121 39).trans s117
  have s123 := (hF121 3).trans s118
  have s124 := (hF121 6).trans s119
  have s125 : F120 27 = blkV (moreB (b) (backB (upB ((c).b) (q)))) := (hF121 27).trans rfl
  have s126 : F120 28 = .int .i64 (0) := (hF121 28).trans rfl
  clear hF121
  refine then_normal ?_
  refine wq_block ?_
  refine wq_loop (fun nn FF ww => ∃ (i : Nat), (i ≤ 16) ∧ nn = 16 - i ∧ FF 3 = .pointer (some ⟨p1, 0, none⟩) ∧ FF 6 = .pointer (some ⟨p18, 0, none⟩) ∧ FF 27 = blkV (moreB (b) (backB (upB ((c).b) (q)))) ∧ FF 39 = undef ∧ FF 28 = .int .i64 (((i : Nat) : Int)) ∧ Kept (fun _ => False) w0 ww ∧ Blk ww p1 29 (upto i (moreB b (backB (upB c.b q))) (c8M (moreB b (backB (upB c.b q))))) ∧ Stc ww p9 31 (chW (c)) ∧ Blk ww p18 29 (fun _ => 0) ∧ Blk ww p43 29 (upB ((c).b) (q))) (16 - (0)) ⟨0, by omega, rfl, s123, s124, s125, s122, s126, K114, B109.first, B111, B112, B113⟩ ?_
  rintro n130 F127 w128 ⟨i, i131, hn130, s132, s133, s134, s135, s136, K129, B137, B138, B139, B140⟩
  refine wq_seq ?_
  refine wq_region ?_
  refine wl_v (.bool (decide ((((i : Nat) : Int)) < (16)))) rfl rfl (y_lss rfl s136 rfl rfl ⟨rfl, rfl⟩) ?_
  refine wl_nil fun F141 hF142 => ?_
  have s143 := (hF142 3).trans s132
  have s144 := (hF142 6).trans s133
  have s145 := (hF142 27).trans s134
  have s146 := (hF142 39).trans s135
  have s147 := (hF142 28).trans s136
  have s148 : F141 29 = .bool (decide ((((i : Nat) : Int)) < (16))) := (hF142 29).trans rfl
  clear hF142
  refine then_normal ?_
  refine wq_seq ?_
  refine wq_cond s148 (fun c149 => ?_) (fun c149 => ?_)
  ·replace c149 := of_decide_eq_true c149
   refine wq_skip ?_
   refine then_normal ?_
   refine wq_seq ?_
   refine wq_block ?_
   refine wq_seq ?_
   refine wq_region ?_
   refine wl_v (.int .i64 (((i : Nat) : Int))) rfl rfl (y_mov rfl s147 ⟨rfl, rfl⟩) ?_
   refine wl_v (.int .i64 ((moreB (b) (backB (upB ((c).b) (q)))) (i))) rfl rfl (y_look (i) blkT_block rfl s145 s147 (by omega) rfl ⟨rfl, rfl⟩) ?_
   refine wl_v (.int .i64 (((i : Nat) : Int))) rfl rfl (y_asg rfl rfl ⟨rfl, rfl⟩) ?_
   refine wl_v (.int .i64 ((moreB (b) (backB (upB ((c).b) (q)))) (i))) rfl rfl (y_asg rfl rfl ⟨rfl, rfl⟩) ?_
   refine wl_nil fun F150 hF151 => ?_
   have s152 := (hF151 3).trans s143
   have s153 := (hF151 6).trans s144
   have s154 := (hF151 27).trans s145
   have s155 := (hF151 39).trans s146
   have s156 := (hF151 28).trans s147
   have s157 : F150 10 = .int .i64 (((i : Nat) : Int)) := (hF151 10).trans rfl
   have s158 : F150 11 = .int .i64 ((moreB (b) (backB (upB ((c).b) (q)))) (i)) := (hF151 11).trans rfl
   clear hF151
   refine then_normal ?_
   refine wq_region ?_
   refine wl_v (.int .i64 (((i : Nat) : Int))) rfl rfl (y_mov rfl s157 ⟨rfl, rfl⟩) ?_
   refine wl_v (.int .i64 ((moreB (b) (backB (upB ((c).b) (q)))) (i))) rfl rfl (y_mov rfl s158 ⟨rfl, rfl⟩) ?_
   refine wl_v (.int .i64 (min ((moreB (b) (backB (upB ((c).b) (q)))) (i)) (255))) rfl rfl (y_minR rfl rfl rfl rfl ⟨rfl, rfl⟩) ?_
   refine wl_v (.int .i64 (c8M (moreB b (backB (upB c.b q))) i)) rfl rfl (y_maxR rfl rfl rfl ((by unfold c8M; omega)) ⟨rfl, rfl⟩) ?_
   refine wl_v (.pointer (some ⟨p1, i, none⟩)) rfl rfl (y_atR (i) (s := 1) rfl s152 rfl (by omega) Tryz.underlying29 (by omega) (by kernel_rfl) (by omega) ⟨rfl, rfl⟩) ?_
   refine wl_set_blk rfl rfl rfl rfl rfl B137 (by omega) (by kernel_rfl) fun w159 B160 k161 => ?_
   have B162 := B138.all k161 (fun x => ((ap15) p9 rfl x))
   have B163 := B139.all k161 (fun x => ((ap25) p18 rfl x))
   have B164 := B140.all k161 (fun x => ((ap50) p43 rfl x))
   have K165 := K129.trans k161 (Grew.ok (S := fun _ => False) gr7 noB_le)
   refine wl_nil fun F166 hF167 => ?_
   have s168 := (hF167 3).trans s152
   have s169 := (hF167 6).trans s153
   have s170 := (hF167 27).trans s154
   have s171 := (hF167 39).trans s155
   have s172 := (hF167 28).trans s156
   clear hF167
   refine in_normal ?_
   refine then_normal ?_
   refine wq_region ?_
   refine wl_v (.int .i64 (((i + 1 : Nat) : Int))) rfl rfl (y_add rfl s172 rfl (i64_n (by omega) (by omega)) ⟨rfl, rfl⟩) ?_
   refine wl_v (.int .i64 (((i + 1 : Nat) : Int))) rfl rfl (y_mov rfl rfl ⟨rfl, rfl⟩) ?_
   refine wl_nil fun F173 hF174 => ?_
   have s175 := (hF174 3).trans s168
   have s176 := (hF174 6).trans s169
   have s177 := (hF174 27).trans s170
   have s178 := (hF174 39).trans s171
   have s179 : F173 28 = .int .i64 (((i + 1 : Nat) : Int)) := (hF174 28).trans rfl
   clear hF174
   exact then_normal ⟨(16 - (i + 1)), by omega, i + 1, by omega, rfl, s175, s176, s177, s178, s179, K165, (B160.next rfl), B162, B163, B164⟩
  ·replace c149 := of_decide_eq_false c149
   refine wq_exit ?_
   refine then_exit ?_
   refine then_exit ?_
   have l180 : 16 = i := by omega
   subst l180
   have B181 : Blk w128 p1 29 (c8M (moreB b (backB (upB c.b q)))) := (B137.last)
   refine in_here ?_
   refine then_normal ?_
   refine wq_seq ?_
   refine wq_region ?_
   refine wl_v (blkV (c8M (moreB b (backB (upB c.b q))))) rfl rfl (y_load_blk blkT_block rfl s143 B181 ⟨rfl, rfl⟩) ?_
   refine wl_store_blk blkT_block rfl rfl rfl s144 rfl B139 fun w182 B183 k184 => ?_
   have K188 := K129.trans k184 (Grew.ok (S := fun _ => False) gr24 noB_le)
   refine wl_v (.int .i64 (0)) rfl rfl (y_asg rfl rfl ⟨rfl, rfl⟩) ?_
   refine wl_nil fun F189 hF190 => ?_
   have s191 := (hF190 6).trans s144
   have s192 := (hF190 39).trans s146
   have s193 : F189 7 = .int .i64 (0) := (hF190 7).trans rfl
   clear hF190
   refine then_normal ?_
   refine wq_ret ?_
   exact end_2 s192 rfl (res_blk blkT_block rfl s191 B183) (res_tmp (v := .int .i64 (0)) rfl s193) ⟨(by first | rw [hR, hq0] | rw [hR]), K188⟩
set_option maxHeartbeats 4000000 in
set_option maxRecDepth 100000 in
theorem bl_predict (k x y : Int) (c : Ch) (f : FD) (f0 f1 f2 : Value) (g : FD) (g0 g1 g2 : Value) (h : FD) (h0 h1 h2 : Value) (T_f0 : Nat → Prop) (T_f1 : Nat → Prop) (T_f2 : Nat → Prop) (T_g0 : Nat → Prop) (T_g1 : Nat → Prop) (T_g2 : Nat → Prop) (T_h0 : Nat → Prop) (T_h1 : Nat → Prop) (T_h2 : Nat → Prop) (w0 : World) (hA : ActsIn w0) (h_f0 : Byt w0 T_f0 f0 ((f).p0)) (h_f1 : Byt w0 T_f1 f1 ((f).p1)) (h_f2 : Byt w0 T_f2 f2 ((f).p2)) (h_g0 : Byt w0 T_g0 g0 ((g).p0)) (h_g1 : Byt w0 T_g1 g1 ((g).p1)) (h_g2 : Byt w0 T_g2 g2 ((g).p2)) (h_h0 : Byt w0 T_h0 h0 ((h).p0)) (h_h1 : Byt w0 T_h1 h1 ((h).p1)) (h_h2 : Byt w0 T_h2 h2 ((h).p2)) :
  Calls Tryz.prog 6 #[.agg #[.int .i64 ((f).W), .int .i64 ((f).H), f0, f1, f2], .agg #[.int .i64 ((g).W), .int .i64 ((g).H), g0, g1, g2], .agg #[.int .i64 ((h).W), .int .i64 ((h).H), h0, h1, h2], .int .i64 (k), .int .i64 (x), .int .i64 (y), .agg (chW (c)).toArray] w0 fun e w' => e = .returned (.tuple #[blkV (cpB f g h k x y c), .int .i64 (cpE f g h k x y c)]) ∧ Kept (fun _ => False) w0 w' := by
 refine calls_wq (args := [.agg #[.int .i64 ((f).W), .int .i64 ((f).H), f0, f1, f2], .agg #[.int .i64 ((g).W), .int .i64 ((g).H), g0, g1, g2], .agg #[.int .i64 ((h).W), .int .i64 ((h).H), h0, h1, h2], .int .i64 (k), .int .i64 (x), .int .i64 (y), .agg (chW (c)).toArray]) 82 Tryz.func6 rfl rfl (Nat.le_of_ble_eq_true rfl) ?_
 have K0 := Kept.refl (fun _ => False) w0
 have g_f0 := Grew.refl w0 T_f0
 have g_f1 := Grew.refl w0 T_f1
 have g_f2 := Grew.refl w0 T_f2
 have g_g0 := Grew.refl w0 T_g0
 have g_g1 := Grew.refl w0 T_g1
 have g_g2 := Grew.refl w0 T_g2
 have g_h0 := Grew.refl w0 T_h0
 have g_h1 := Grew.refl w0 T_h1
 have g_h2 := Grew.refl w0 T_h2
 refine wq_seq ?_
 refine wq_region ?_
 refine wl_box_stc (vs := [.int .i64 ((f).W), .int .i64 ((f).H), f0, f1, f2]) rfl rfl rfl rfl fun p1 w2 B4 g5 k3 => ?_
 have B16 := h_f0.all k3 Apart.none
 have B17 := h_f1.all k3 Apart.none
 have B18 := h_f2.all k3 Apart.none
 have B19 := h_g0.all k3 Apart.none
 have B20 := h_g1.all k3 Apart.none
 have B21 := h_g2.all k3 Apart.none
 have B22 := h_h0.all k3 Apart.none
 have B23 := h_h1.all k3 Apart.none
 have B24 := h_h2.all k3 Apart.none
 have K25 := K0.trans k3 (fun _ _ x => x.elim)
 refine wl_box_stc (vs := [.int .i64 ((g).W), .int .i64 ((g).H), g0, g1, g2]) rfl rfl rfl rfl fun p26 w27 B29 g30 k28 => ?_
 have B42 := B16.all k28 Apart.none
 have B43 := B17.all k28 Apart.none
 have B44 := B18.all k28 Apart.none
 have B45 := B19.all k28 Apart.none
 have B46 := B20.all k28 Apart.none
 have B47 := B21.all k28 Apart.none
 have B48 := B22.all k28 Apart.none
 have B49 := B23.all k28 Apart.none
 have B50 := B24.all k28 Apart.none
 have B51 := B4.all k28 id
 have K52 := K25.trans k28 (fun _ _ x => x.elim)
 refine wl_box_stc (vs := [.int .i64 ((h).W), .int .i64 ((h).H), h0, h1, h2]) rfl rfl rfl rfl fun p53 w54 B56 g57 k55 => ?_
 have B70 := B42.all k55 Apart.none
 have B71 := B43.all k55 Apart.none
 have B72 := B44.all k55 Apart.none
 have B73 := B45.all k55 Apart.none
 have B74 := B46.all k55 Apart.none
 have B75 := B47.all k55 Apart.none
 have B76 := B48.all k55 Apart.none
 have B77 := B49.all k55 Apart.none
 have B78 := B50.all k55 Apart.none
 have B79 := B51.all k55 id
 have B80 := B29.all k55 id
 have K81 := K52.trans k55 (fun _ _ x => x.elim)
 refine wl_box_stc (vs := (chW (c))) rfl rfl rfl rfl fun p82 w83 B85 g86 k84 => ?_
 have B100 := B70.all k84 Apart.none
 have B101 := B71.all k84 Apart.none
 have B102 := B72.all k84 Apart.none
 have B103 := B73.all k84 Apart.none
 have B104 := B74.all k84 Apart.none
 have B105 := B75.all k84 Apart.none
 have B106 := B76.all k84 Apart.none
 have B107 := B77.all k84 Apart.none
 have B108 := B78.all k84 Apart.none
 have B109 := B79.all k84 id
 have B110 := B80.all k84 id
 have B111 := B56.all k84 id
 have K112 := K81.trans k84 (fun _ _ x => x.elim)
 refine wl_alloc_blk rfl rfl rfl blkT_block.2.2 fun p113 w114 e117 B115 k116 => ?_
 have g118 := onB_new (Nat.le_of_eq e117.symm)
 have gr119 : Grew w0 noB (onB p113) := Grew.new K112 g118
 clear e117 g118
 have B133 := B100.all k116 Apart.none
 have B134 := B101.all k116 Apart.none
 have B135 := B102.all k116 Apart.none
 have B136 := B103.all k116 Apart.none
 have B137 := B104.all k116 Apart.none
 have B138 := B105.all k116 Apart.none
 have B139 := B106.all k116 Apart.none
 have B140 := B107.all k116 Apart.none
 have B141 := B108.all k116 Apart.none
 have B142 := B109.all k116 id
 have B143 := B110.all k116 id
 have B144 := B111.all k116 id
 have B145 := B85.all k116 id
 have K146 := K112.trans k116 (fun _ _ x => x.elim)
 refine wl_v (.int .i64 (0)) rfl rfl (y_asg rfl rfl ⟨rfl, rfl⟩) ?_
 refine wl_nil fun F147 hF148 => ?_
 have s152 : F147 3 = .int .i64 (k) := (hF148 3).trans rfl
 have s153 : F147 4 = .int .i64 (x) := (hF148 4).trans rfl
 have s154 : F147 5 = .int .i64 (y) := (hF148 5).trans rfl
 have s156 : F147 82 = undef := (hF148 82).trans rfl
 have s157 : F147 7 = .pointer (some ⟨p1, 0, none⟩) := (hF148 7).trans rfl
 have s158 : F147 8 = .pointer (some ⟨p26, 0, none⟩) := (hF148 8).trans rfl
 have s159 : F147 9 = .pointer (some ⟨p53, 0, none⟩) := (hF148 9).trans rfl
 have s160 : F147 13 = .pointer (some ⟨p82, 0, none⟩) := (hF148 13).trans rfl
 have s161 : F147 14 = .pointer (some ⟨p113, 0, none⟩) := (hF148 14).trans rfl
 clear hF148
 refine then_normal ?_
 refine wq_scope ?_
 refine wq_seq ?_
 refine wq_region ?_
 refine wl_v (.pointer (some ⟨p82, 0, none⟩)) rfl rfl (y_fieldR (n := 1) rfl s160 Tryz.underlying31 rfl (by kernel_rfl) (by decide) rfl ⟨rfl, rfl⟩) ?_
 refine wl_v (.int .i64 ((c).m)) rfl rfl (y_ld_stc rfl rfl Tryz.underlying3 B145 rfl rfl ⟨rfl, rfl⟩) ?_
 refine wl_call (R := fun v_ w_ => v_ = .tuple #[.bool (pastB ((c).m)), .bool (nextB ((c).m))] ∧ Kept (fun _ => False) w114 w_) rfl rfl (y_cs rfl rfl rfl (fun _ _ => by kernel_rfl) (ev_func _) (vsC rfl vsN) (bl_vectors ((c).m)  _ (hA.all K146)  ) (fun e_ w_ h_ => ⟨_, h_.1, rfl, h_.2⟩)) ?_
 rintro _ w163 ⟨rfl, k164⟩
 have B165 := B133.all k164 Apart.none
 have B166 := B134.all k164 Apart.none
 have B167 := B135.all k164 Apart.none
 have B168 := B136.all k164 Apart.none
 have B169 := B137.all k164 Apart.none
 have B170 := B138.all k164 Apart.none
 have B171 := B139.all k164 Apart.none
 have B172 := B140.all k164 Apart.none
 have B173 := B141.all k164 Apart.none
 have B174 := B142.all k164 id
 have B175 := B143.all k164 id
 have B176 := B144.all k164 id
 have B177 := B145.all k164 id
 have B178 := B115.all k164 id
 have K179 := K146.trans k164 (fun _ _ x => x.elim)
 refine wl_v (.tuple #[.bool (pastB ((c).m)), .bool (nextB ((c).m))]) rfl rfl (y_mov rfl rfl ⟨rfl, rfl⟩) ?_
 refine wl_v (.bool (pastB ((c).m))) rfl rfl (y_ext rfl rfl rfl ⟨rfl, rfl⟩) ?_
 refine wl_v (.bool (nextB ((c).m))) rfl rfl (y_ext rfl rfl rfl ⟨rfl, rfl⟩) ?_
 refine wl_v (.bool (pastB ((c).m))) rfl rfl (y_asg rfl rfl ⟨rfl, rfl⟩) ?_
 refine wl_v (.bool (nextB ((c).m))) rfl rfl (y_asg rfl rfl ⟨rfl, rfl⟩) ?_
 refine wl_nil fun F180 hF181 => ?_
 have s185 := (hF181 3).trans s152
 have s186 := (hF181 4).trans s153
 have s187 := (hF181 5).trans s154
 have s189 := (hF181 82).trans s156
 have s190 := (hF181 7).trans s157
 have s191 := (hF181 8).trans s158
 have s192 := (hF181 9).trans s159
 have s193 := (hF181 13).trans s160
 have s194 := (hF181 14).trans s161
 have s196 : F180 16 = .bool (pastB ((c).m)) := (hF181 16).trans rfl
 have s197 : F180 17 = .bool (nextB ((c).m)) := (hF181 17).trans rfl
 clear hF181
 refine then_normal ?_
 refine wq_seq ?_
 refine wq_region ?_
 refine wl_alloc_blk rfl rfl rfl blkT_block.2.2 fun p198 w199 e202 B200 k201 => ?_
 have g203 := onB_new (Nat.le_of_eq e202.symm)
 have gr204 : Grew w0 noB (onB p198) := Grew.new K179 g203
 have ap211 : Apart (onB p198) (T_h0) := Apart.new g203 (B171).live
 have ap212 : Apart (onB p198) (T_h1) := Apart.new g203 (B172).live
 have ap213 : Apart (onB p198) (T_h2) := Apart.new g203 (B173).live
 have ap216 : Apart (onB p198) (onB p53) := Apart.new g203 (onB_live (B176).lt)
 have ap217 : Apart (onB p198) (onB p82) := Apart.new g203 (onB_live (B177).lt)
 have ap218 : Apart (onB p198) (onB p113) := Apart.new g203 (onB_live (B178).lt)
 clear e202 g203
 have B219 := B165.all k201 Apart.none
 have B220 := B166.all k201 Apart.none
 have B221 := B167.all k201 Apart.none
 have B222 := B168.all k201 Apart.none
 have B223 := B169.all k201 Apart.none
 have B224 := B170.all k201 Apart.none
 have B225 := B171.all k201 Apart.none
 have B226 := B172.all k201 Apart.none
 have B227 := B173.all k201 Apart.none
 have B228 := B174.all k201 id
 have B229 := B175.all k201 id
 have B230 := B176.all k201 id
 have B231 := B177.all k201 id
 have B232 := B178.all k201 id
 have K233 := K179.trans k201 (fun _ _ x => x.elim)
 refine wl_alloc_blk rfl rfl rfl blkT_block.2.2 fun p234 w235 e238 B236 k237 => ?_
 have g239 := onB_new (Nat.le_of_eq e238.symm)
 have gr240 : Grew w0 noB (onB p234) := Grew.new K233 g239
 have ap254 : Apart (onB p234) (onB p113) := Apart.new g239 (onB_live (B232).lt)
 have ap255 : Apart (onB p234) (onB p198) := Apart.new g239 (onB_live (B200).lt)
 clear e238 g239
 have B256 := B219.all k237 Apart.none
 have B257 := B220.all k237 Apart.none
 have B258 := B221.all k237 Apart.none
 have B259 := B222.all k237 Apart.none
 have B260 := B223.all k237 Apart.none
 have B261 := B224.all k237 Apart.none
 have B262 := B225.all k237 Apart.none
 have B263 := B226.all k237 Apart.none
 have B264 := B227.all k237 Apart.none
 have B265 := B228.all k237 id
 have B266 := B229.all k237 id
 have B267 := B230.all k237 id
 have B268 := B231.all k237 id
 have B269 := B232.all k237 id
 have B270 := B200.all k237 id
 have K271 := K233.trans k237 (fun _ _ x => x.elim)
 refine wl_nil fun F272 hF273 => ?_
 have s277 := (hF273 3).trans s185
 have s278 := (hF273 4).trans s186
 have s279 := (hF273 5).trans s187
 have s281 := (hF273 82).trans s189
 have s282 := (hF273 7).trans s190
 have s283 := (hF273 8).trans s191
 have s284 := (hF273 9).trans s192
 have s285 := (hF273 13).trans s193
 have s286 := (hF273 14).trans s194
 have s288 := (hF273 16).trans s196
 have s289 := (hF273 17).trans s197
 have s290 : F272 18 = .pointer (some ⟨p198, 0, none⟩) := (hF273 18).trans rfl
 have s291 : F272 19 = .pointer (some ⟨p234, 0, none⟩) := (hF273 19).trans rfl
 clear hF273
 refine then_normal ?_
 refine wq_seq ?_
 refine wq_region ?_
 refine wl_v (.int .i64 (120)) rfl rfl (y_asg rfl rfl ⟨rfl, rfl⟩) ?_
 refine wl_nil fun F292 hF293 => ?_
 have s297 := (hF293 3).trans s277
 have s298 := (hF293 4).trans s278
 have s299 := (hF293 5).trans s279
 have s301 := (hF293 82).trans s281
 have s302 := (hF293 7).trans s282
 have s303 := (hF293 8).trans s283
 have s304 := (hF293 9).trans s284
 have s305 := (hF293 13).trans s285
 have s306 := (hF293 14).trans s286
 have s308 := (hF293 16).trans s288
 have s309 := (hF293 17).trans s289
 have s310 := (hF293 18).trans s290
 have s311 := (hF293 19).trans s291
 have s312 : F292 20 = .int .i64 (120) := (hF293 20).trans rfl
 clear hF293
 refine then_normal ?_
 refine wq_seq ?_
 refine wq_seq ?_
 by_cases d313 : 0 ≤ ((c).m) ∧ ((c).m) < 7
 ·skip
  refine wq_region ?_
  refine wl_v (.pointer (some ⟨p82, 0, none⟩)) rfl rfl (y_fieldR (n := 1) rfl s305 Tryz.underlying31 rfl (by kernel_rfl) (by decide) rfl ⟨rfl, rfl⟩) ?_
  refine wl_v (.int .i64 ((c).m)) rfl rfl (y_ld_stc rfl rfl Tryz.underlying3 B268 rfl rfl ⟨rfl, rfl⟩) ?_
  refine wl_call (R := fun v_ w_ => v_ = .bool true ∧ Kept (fun _ => False) w235 w_) rfl rfl (y_cs rfl rfl rfl (fun _ _ => by kernel_rfl) (ev_func _) (vsC rfl vsN) (bl_known ((c).m)  _   ) (fun e_ w_ h_ => ⟨_, h_.1, (congrArg Value.bool (decide_eq_true d313)), h_.2⟩)) ?_
  rintro _ w314 ⟨rfl, k315⟩
  have B316 := B256.all k315 Apart.none
  have B317 := B257.all k315 Apart.none
  have B318 := B258.all k315 Apart.none
  have B319 := B259.all k315 Apart.none
  have B320 := B260.all k315 Apart.none
  have B321 := B261.all k315 Apart.none
  have B322 := B262.all k315 Apart.none
  have B323 := B263.all k315 Apart.none
  have B324 := B264.all k315 Apart.none
  have B325 := B265.all k315 id
  have B326 := B266.all k315 id
  have B327 := B267.all k315 id
  have B328 := B268.all k315 id
  have B329 := B269.all k315 id
  have B330 := B270.all k315 id
  have B331 := B236.all k315 id
  have K332 := K271.trans k315 (fun _ _ x => x.elim)
  refine wl_v (.bool false) rfl rfl (y_not rfl rfl rfl ⟨rfl, rfl⟩) ?_
  refine wl_nil fun F333 hF334 => ?_
  have s338 := (hF334 3).trans s297
  have s339 := (hF334 4).trans s298
  have s340 := (hF334 5).trans s299
  have s342 := (hF334 82).trans s301
  have s343 := (hF334 7).trans s302
  have s344 := (hF334 8).trans s303
  have s345 := (hF334 9).trans s304
  have s346 := (hF334 13).trans s305
  have s347 := (hF334 14).trans s306
  have s349 := (hF334 16).trans s308
  have s350 := (hF334 17).trans s309
  have s351 := (hF334 18).trans s310
  have s352 := (hF334 19).trans s311
  have s354 : F333 30 = .bool false := (hF334 30).trans rfl
  clear hF334
  refine then_normal ?_
  refine wq_cond (t := false) s354 (fun e => by cases e) (fun _ => ?_)
  refine wq_skip ?_
  refine then_normal ?_
  refine wq_seq ?_
  refine wq_seq ?_
  have hm7 : 0 ≤ c.m ∧ c.m < 7 := by first | assumption | (apply Decidable.byContradiction; assumption)
  refine wq_region ?_
  refine wl_v (.bool (pastB ((c).m))) rfl rfl (y_mov rfl s349 ⟨rfl, rfl⟩) ?_
  refine wl_nil fun F355 hF356 => ?_
  have s360 := (hF356 3).trans s338
  have s361 := (hF356 4).trans s339
  have s362 := (hF356 5).trans s340
  have s364 := (hF356 82).trans s342
  have s365 := (hF356 7).trans s343
  have s366 := (hF356 8).trans s344
  have s367 := (hF356 9).trans s345
  have s368 := (hF356 13).trans s346
  have s369 := (hF356 14).trans s347
  have s371 := (hF356 16).trans s349
  have s372 := (hF356 17).trans s350
  have s373 := (hF356 18).trans s351
  have s374 := (hF356 19).trans s352
  have s376 : F355 31 = .bool (pastB ((c).m)) := (hF356 31).trans rfl
  clear hF356
  refine then_normal ?_
  refine wq_cond s376 (fun c377 => ?_) (fun c377 => ?_)
  ·skip
   refine wq_seq ?_
   refine wq_region ?_
   refine wl_v (.agg #[.int .i64 ((g).W), .int .i64 ((g).H), g0, g1, g2]) rfl rfl (y_load_stc stcT_frame rfl s366 B326 ⟨rfl, rfl⟩) ?_
   refine wl_v (.int .i64 (k)) rfl rfl (y_mov rfl s360 ⟨rfl, rfl⟩) ?_
   refine wl_v (.int .i64 (x)) rfl rfl (y_mov rfl s361 ⟨rfl, rfl⟩) ?_
   refine wl_v (.int .i64 (y)) rfl rfl (y_mov rfl s362 ⟨rfl, rfl⟩) ?_
   refine wl_v (.pointer (some ⟨p82, 1, none⟩)) rfl rfl (y_fieldR (n := 2) rfl s368 Tryz.underlying31 rfl (by kernel_rfl) (by decide) rfl ⟨rfl, rfl⟩) ?_
   refine wl_v (.agg #[.int .i64 ((c).px), .int .i64 ((c).py)]) rfl rfl (y_ldPart (n := 2) stcT_vector rfl rfl B328 (Nat.le_of_ble_eq_true rfl) rfl ⟨rfl, rfl⟩) ?_
   refine wl_call (R := fun v_ w_ => v_ = .tuple #[blkV (mvB (g) (k) (x) (y) ((c).px) ((c).py)), .int .i64 (mvE (g) (k) (x) (y) ((c).px) ((c).py))] ∧ Kept (fun _ => False) w314 w_) rfl rfl (y_cs rfl rfl rfl (fun _ _ => by kernel_rfl) (ev_func _) (vsC rfl (vsC rfl (vsC rfl (vsC rfl (vsC rfl vsN))))) (mo_predict (k) (x) (y) ((c).px) ((c).py) (g) (g0) (g1) (g2) (T_g0) (T_g1) (T_g2) _  B319 B320 B321 ) (fun e_ w_ h_ => ⟨_, h_.1, rfl, h_.2⟩)) ?_
   rintro _ w378 ⟨rfl, k379⟩
   have B386 := B322.all k379 Apart.none
   have B387 := B323.all k379 Apart.none
   have B388 := B324.all k379 Apart.none
   have B391 := B327.all k379 id
   have B392 := B328.all k379 id
   have B393 := B329.all k379 id
   have B394 := B330.all k379 id
   have B395 := B331.all k379 id
   have K396 := K332.trans k379 (fun _ _ x => x.elim)
   refine wl_v (.tuple #[blkV (mvB (g) (k) (x) (y) ((c).px) ((c).py)), .int .i64 (mvE (g) (k) (x) (y) ((c).px) ((c).py))]) rfl rfl (y_mov rfl rfl ⟨rfl, rfl⟩) ?_
   refine wl_v (blkV (mvB (g) (k) (x) (y) ((c).px) ((c).py))) rfl rfl (y_ext rfl rfl rfl ⟨rfl, rfl⟩) ?_
   refine wl_v (.int .i64 (mvE (g) (k) (x) (y) ((c).px) ((c).py))) rfl rfl (y_ext rfl rfl rfl ⟨rfl, rfl⟩) ?_
   refine wl_store_blk blkT_block rfl rfl rfl s373 rfl B394 fun w397 B398 k399 => ?_
   have B406 := B386.all k399 (fun i h x => (((ap211).symm) i h x))
   have B407 := B387.all k399 (fun i h x => (((ap212).symm) i h x))
   have B408 := B388.all k399 (fun i h x => (((ap213).symm) i h x))
   have B411 := B391.all k399 (fun x => (((ap216).symm) p53 rfl x))
   have B412 := B392.all k399 (fun x => (((ap217).symm) p82 rfl x))
   have B413 := B393.all k399 (fun x => (((ap218).symm) p113 rfl x))
   have B414 := B395.all k399 (fun x => ((ap255) p234 rfl x))
   have K415 := K396.trans k399 (Grew.ok (S := fun _ => False) gr204 noB_le)
   refine wl_v (.int .i64 (mvE (g) (k) (x) (y) ((c).px) ((c).py))) rfl rfl (y_asg rfl rfl ⟨rfl, rfl⟩) ?_
   refine wl_nil fun F416 hF417 => ?_
   have s421 := (hF417 3).trans s360
   have s422 := (hF417 4).trans s361
   have s423 := (hF417 5).trans s362
   have s425 := (hF417 82).trans s364
   have s428 := (hF417 9).trans s367
   have s429 := (hF417 13).trans s368
   have s430 := (hF417 14).trans s369
   have s432 := (hF417 16).trans s371
   have s433 := (hF417 17).trans s372
   have s434 := (hF417 18).trans s373
   have s435 := (hF417 19).trans s374
   have s438 : F416 20 = .int .i64 (mvE (g) (k) (x) (y) ((c).px) ((c).py)) := (hF417 20).trans rfl
   clear hF417
   refine then_normal ?_
   refine wq_seq ?_
   refine wq_region ?_
   refine wl_v (.int .i64 (mvE (g) (k) (x) (y) ((c).px) ((c).py))) rfl rfl (y_mov rfl s438 ⟨rfl, rfl⟩) ?_
   refine wl_v (.bool (decide ((mvE (g) (k) (x) (y) ((c).px) ((c).py)) ≠ (0)))) rfl rfl (y_neqI rfl rfl rfl rfl ⟨rfl, rfl⟩) ?_
   refine wl_nil fun F439 hF440 => ?_
   have s444 := (hF440 3).trans s421
   have s445 := (hF440 4).trans s422
   have s446 := (hF440 5).trans s423
   have s448 := (hF440 82).trans s425
   have s451 := (hF440 9).trans s428
   have s452 := (hF440 13).trans s429
   have s453 := (hF440 14).trans s430
   have s455 := (hF440 16).trans s432
   have s456 := (hF440 17).trans s433
   have s457 := (hF440 18).trans s434
   have s458 := (hF440 19).trans s435
   have s461 := (hF440 20).trans s438
   have s462 : F439 43 = .bool (decide ((mvE (g) (k) (x) (y) ((c).px) ((c).py)) ≠ (0))) := (hF440 43).trans rfl
   clear hF440
   refine then_normal ?_
   refine wq_cond s462 (fun c463 => ?_) (fun c463 => ?_)
   ·replace c463 := of_decide_eq_true c463
    refine wq_goto ?_
    refine then_goto ?_
    refine jump_goto ⟨_, rfl, ?_⟩
    refine wq_seq ?_
    refine wq_skip ?_
    refine then_normal ?_
    refine wq_seq ?_
    first | have hR := cp_bad (f := f) (p := g) (n := h) (k := k) (x := x) (y := y) (c := c) (by omega) | have hR := cp_pastE (f := f) (p := g) (n := h) (k := k) (x := x) (y := y) (c := c) (past_t (by assumption)) (by assumption) | have hR := cp_nextE (f := f) (p := g) (n := h) (k := k) (x := x) (y := y) (c := c) (by have a1 := past_f (m := c.m) (by assumption); have a2 := next_t (m := c.m) (by assumption); omega) (by assumption) | have hR := cp_both2 (f := f) (p := g) (n := h) (k := k) (x := x) (y := y) (c := c) (by have a1 := past_t (m := c.m) (by assumption); have a2 := next_t (m := c.m) (by assumption); omega) (by first | assumption | (apply Decidable.byContradiction; assumption)) (by assumption)
    refine wq_region ?_
    refine wl_v (blkV (fun _ => 0)) rfl rfl (y_buildR (cells := (arrL 16 (fun _ => 0)).toArray) rfl (by kernel_rfl) rfl ⟨rfl, rfl⟩) ?_
    refine wl_v (.int .i64 (mvE (g) (k) (x) (y) ((c).px) ((c).py))) rfl rfl (y_mov rfl s461 ⟨rfl, rfl⟩) ?_
    refine wl_store_blk blkT_block rfl rfl rfl s453 rfl B413 fun w464 B465 k466 => ?_
    have K482 := K415.trans k466 (Grew.ok (S := fun _ => False) gr119 noB_le)
    refine wl_v (.int .i64 (mvE (g) (k) (x) (y) ((c).px) ((c).py))) rfl rfl (y_asg rfl rfl ⟨rfl, rfl⟩) ?_
    refine wl_nil fun F483 hF484 => ?_
    have s485 := (hF484 82).trans s448
    have s486 := (hF484 14).trans s453
    have s487 : F483 15 = .int .i64 (mvE (g) (k) (x) (y) ((c).px) ((c).py)) := (hF484 15).trans rfl
    clear hF484
    refine then_normal ?_
    refine wq_ret ?_
    refine stay_ret ?_
    exact end_2 s485 rfl (res_blk blkT_block rfl s486 B465) (res_tmp (v := .int .i64 (mvE (g) (k) (x) (y) ((c).px) ((c).py))) rfl s487) ⟨(by first | rw [hR.1, hR.2, he0] | rw [hR.1, hR.2]), K482⟩
   ·replace c463 := of_decide_eq_false c463
    refine wq_skip ?_
    refine then_normal ?_
    refine wq_seq ?_
    refine wq_seq ?_
    refine wq_region ?_
    refine wl_v (.bool (nextB ((c).m))) rfl rfl (y_mov rfl s456 ⟨rfl, rfl⟩) ?_
    refine wl_nil fun F488 hF489 => ?_
    have s493 := (hF489 3).trans s444
    have s494 := (hF489 4).trans s445
    have s495 := (hF489 5).trans s446
    have s497 := (hF489 82).trans s448
    have s500 := (hF489 9).trans s451
    have s501 := (hF489 13).trans s452
    have s502 := (hF489 14).trans s453
    have s504 := (hF489 16).trans s455
    have s505 := (hF489 17).trans s456
    have s506 := (hF489 18).trans s457
    have s507 := (hF489 19).trans s458
    have s511 : F488 44 = .bool (nextB ((c).m)) := (hF489 44).trans rfl
    clear hF489
    refine then_normal ?_
    refine wq_cond s511 (fun c512 => ?_) (fun c512 => ?_)
    ·skip
     refine wq_seq ?_
     refine wq_region ?_
     refine wl_v (.agg #[.int .i64 ((h).W), .int .i64 ((h).H), h0, h1, h2]) rfl rfl (y_load_stc stcT_frame rfl s500 B411 ⟨rfl, rfl⟩) ?_
     refine wl_v (.int .i64 (k)) rfl rfl (y_mov rfl s493 ⟨rfl, rfl⟩) ?_
     refine wl_v (.int .i64 (x)) rfl rfl (y_mov rfl s494 ⟨rfl, rfl⟩) ?_
     refine wl_v (.int .i64 (y)) rfl rfl (y_mov rfl s495 ⟨rfl, rfl⟩) ?_
     refine wl_v (.pointer (some ⟨p82, 3, none⟩)) rfl rfl (y_fieldR (n := 2) rfl s501 Tryz.underlying31 rfl (by kernel_rfl) (by decide) rfl ⟨rfl, rfl⟩) ?_
     refine wl_v (.agg #[.int .i64 ((c).nx), .int .i64 ((c).ny)]) rfl rfl (y_ldPart (n := 2) stcT_vector rfl rfl B412 (Nat.le_of_ble_eq_true rfl) rfl ⟨rfl, rfl⟩) ?_
     refine wl_call (R := fun v_ w_ => v_ = .tuple #[blkV (mvB (h) (k) (x) (y) ((c).nx) ((c).ny)), .int .i64 (mvE (h) (k) (x) (y) ((c).nx) ((c).ny))] ∧ Kept (fun _ => False) w397 w_) rfl rfl (y_cs rfl rfl rfl (fun _ _ => by kernel_rfl) (ev_func _) (vsC rfl (vsC rfl (vsC rfl (vsC rfl (vsC rfl vsN))))) (mo_predict (k) (x) (y) ((c).nx) ((c).ny) (h) (h0) (h1) (h2) (T_h0) (T_h1) (T_h2) _  B406 B407 B408 ) (fun e_ w_ h_ => ⟨_, h_.1, rfl, h_.2⟩)) ?_
     rintro _ w513 ⟨rfl, k514⟩
     have B528 := B413.all k514 id
     have B529 := B398.all k514 id
     have B530 := B414.all k514 id
     have K531 := K415.trans k514 (fun _ _ x => x.elim)
     refine wl_v (.tuple #[blkV (mvB (h) (k) (x) (y) ((c).nx) ((c).ny)), .int .i64 (mvE (h) (k) (x) (y) ((c).nx) ((c).ny))]) rfl rfl (y_mov rfl rfl ⟨rfl, rfl⟩) ?_
     refine wl_v (blkV (mvB (h) (k) (x) (y) ((c).nx) ((c).ny))) rfl rfl (y_ext rfl rfl rfl ⟨rfl, rfl⟩) ?_
     refine wl_v (.int .i64 (mvE (h) (k) (x) (y) ((c).nx) ((c).ny))) rfl rfl (y_ext rfl rfl rfl ⟨rfl, rfl⟩) ?_
     refine wl_store_blk blkT_block rfl rfl rfl s507 rfl B530 fun w532 B533 k534 => ?_
     have B548 := B528.all k534 (fun x => (((ap254).symm) p113 rfl x))
     have B549 := B529.all k534 (fun x => (((ap255).symm) p198 rfl x))
     have K550 := K531.trans k534 (Grew.ok (S := fun _ => False) gr240 noB_le)
     refine wl_v (.int .i64 (mvE (h) (k) (x) (y) ((c).nx) ((c).ny))) rfl rfl (y_asg rfl rfl ⟨rfl, rfl⟩) ?_
     refine wl_nil fun F551 hF552 => ?_
     have s560 := (hF552 82).trans s497
     have s565 := (hF552 14).trans s502
     have s567 := (hF552 16).trans s504
     have s568 := (hF552 17).trans s505
     have s569 := (hF552 18).trans s506
     have s570 := (hF552 19).trans s507
     have s575 : F551 20 = .int .i64 (mvE (h) (k) (x) (y) ((c).nx) ((c).ny)) := (hF552 20).trans rfl
     clear hF552
     refine then_normal ?_
     refine wq_seq ?_
     refine wq_region ?_
     refine wl_v (.int .i64 (mvE (h) (k) (x) (y) ((c).nx) ((c).ny))) rfl rfl (y_mov rfl s575 ⟨rfl, rfl⟩) ?_
     refine wl_v (.bool (decide ((mvE (h) (k) (x) (y) ((c).nx) ((c).ny)) ≠ (0)))) rfl rfl (y_neqI rfl rfl rfl rfl ⟨rfl, rfl⟩) ?_
     refine wl_nil fun F576 hF577 => ?_
     have s585 := (hF577 82).trans s560
     have s590 := (hF577 14).trans s565
     have s592 := (hF577 16).trans s567
     have s593 := (hF577 17).trans s568
     have s594 := (hF577 18).trans s569
     have s595 := (hF577 19).trans s570
     have s600 := (hF577 20).trans s575
     have s601 : F576 56 = .bool (decide ((mvE (h) (k) (x) (y) ((c).nx) ((c).ny)) ≠ (0))) := (hF577 56).trans rfl
     clear hF577
     refine then_normal ?_
     refine wq_cond s601 (fun c602 => ?_) (fun c602 => ?_)
     ·replace c602 := of_decide_eq_true c602
      refine wq_goto ?_
      refine then_goto ?_
      refine jump_goto ⟨_, rfl, ?_⟩
      refine wq_seq ?_
      refine wq_skip ?_
      refine then_normal ?_
      refine wq_seq ?_
      first | have hR := cp_bad (f := f) (p := g) (n := h) (k := k) (x := x) (y := y) (c := c) (by omega) | have hR := cp_pastE (f := f) (p := g) (n := h) (k := k) (x := x) (y := y) (c := c) (past_t (by assumption)) (by assumption) | have hR := cp_nextE (f := f) (p := g) (n := h) (k := k) (x := x) (y := y) (c := c) (by have a1 := past_f (m := c.m) (by assumption); have a2 := next_t (m := c.m) (by assumption); omega) (by assumption) | have hR := cp_both2 (f := f) (p := g) (n := h) (k := k) (x := x) (y := y) (c := c) (by have a1 := past_t (m := c.m) (by assumption); have a2 := next_t (m := c.m) (by assumption); omega) (by first | assumption | (apply Decidable.byContradiction; assumption)) (by assumption)
      refine wq_region ?_
      refine wl_v (blkV (fun _ => 0)) rfl rfl (y_buildR (cells := (arrL 16 (fun _ => 0)).toArray) rfl (by kernel_rfl) rfl ⟨rfl, rfl⟩) ?_
      refine wl_v (.int .i64 (mvE (h) (k) (x) (y) ((c).nx) ((c).ny))) rfl rfl (y_mov rfl s600 ⟨rfl, rfl⟩) ?_
      refine wl_store_blk blkT_block rfl rfl rfl s590 rfl B548 fun w603 B604 k605 => ?_
      have K621 := K550.trans k605 (Grew.ok (S := fun _ => False) gr119 noB_le)
      refine wl_v (.int .i64 (mvE (h) (k) (x) (y) ((c).nx) ((c).ny))) rfl rfl (y_asg rfl rfl ⟨rfl, rfl⟩) ?_
      refine wl_nil fun F622 hF623 => ?_
      have s624 := (hF623 82).trans s585
      have s625 := (hF623 14).trans s590
      have s626 : F622 15 = .int .i64 (mvE (h) (k) (x) (y) ((c).nx) ((c).ny)) := (hF623 15).trans rfl
      clear hF623
      refine then_normal ?_
      refine wq_ret ?_
      refine stay_ret ?_
      exact end_2 s624 rfl (res_blk blkT_block rfl s625 B604) (res_tmp (v := .int .i64 (mvE (h) (k) (x) (y) ((c).nx) ((c).ny))) rfl s626) ⟨(by first | rw [hR.1, hR.2, he0] | rw [hR.1, hR.2]), K621⟩
     ·replace c602 := of_decide_eq_false c602
      refine wq_skip ?_
      refine then_normal ?_
      refine wq_seq ?_
      refine wq_block ?_
      refine wq_seq ?_
      refine wq_region ?_
      refine wl_v (.bool true) rfl rfl (y_mov rfl (Eq.trans s592 (congrArg Value.bool (c377))) ⟨rfl, rfl⟩) ?_
      refine wl_v (.bool true) rfl rfl (y_mov rfl rfl ⟨rfl, rfl⟩) ?_
      refine wl_vw (.bool true) 1 true 59 rfl rfl rfl rfl rfl (y_mov rfl (Eq.trans s593 (congrArg Value.bool (c512))) ⟨rfl, rfl⟩) ?_
      refine wl_v (.bool true) rfl rfl (y_pickT rfl rfl rfl ⟨rfl, rfl⟩) ?_
      refine wl_v (.bool true) rfl rfl (y_asg rfl rfl ⟨rfl, rfl⟩) ?_
      refine wl_nil fun F627 hF628 => ?_
      have s632 := (hF628 82).trans s585
      have s635 := (hF628 14).trans s590
      have s638 := (hF628 18).trans s594
      have s639 := (hF628 19).trans s595
      have s640 : F627 57 = .bool true := (hF628 57).trans rfl
      clear hF628
      refine then_normal ?_
      refine wq_cond (t := true) s640 (fun _ => ?_) (fun e => by cases e)
      refine wq_seq ?_
      have hR := cp_both (f := f) (p := g) (n := h) (k := k) (x := x) (y := y) (c := c) (by have a1 := past_t (m := c.m) (by assumption); have a2 := next_t (m := c.m) (by assumption); omega) (by first | assumption | (apply Decidable.byContradiction; assumption)) (by first | assumption | (apply Decidable.byContradiction; assumption))
      refine wq_region ?_
      refine wl_v (blkV (mvB (g) (k) (x) (y) ((c).px) ((c).py))) rfl rfl (y_load_blk blkT_block rfl s638 B549 ⟨rfl, rfl⟩) ?_
      refine wl_v (blkV (mvB (h) (k) (x) (y) ((c).nx) ((c).ny))) rfl rfl (y_load_blk blkT_block rfl s639 B533 ⟨rfl, rfl⟩) ?_
      refine wl_call (R := fun v_ w_ => v_ = blkV (bothB (mvB (g) (k) (x) (y) ((c).px) ((c).py)) (mvB (h) (k) (x) (y) ((c).nx) ((c).ny))) ∧ Kept (fun _ => False) w532 w_) rfl rfl (y_cs rfl rfl rfl (fun _ _ => by kernel_rfl) (ev_func _) (vsC rfl (vsC rfl vsN)) (mo_both (mvB (g) (k) (x) (y) ((c).px) ((c).py)) (mvB (h) (k) (x) (y) ((c).nx) ((c).ny))  _   ) (fun e_ w_ h_ => ⟨_, h_.1, rfl, h_.2⟩)) ?_
      rintro _ w641 ⟨rfl, k642⟩
      have B656 := B548.all k642 id
      have K659 := K550.trans k642 (fun _ _ x => x.elim)
      refine wl_store_blk blkT_block rfl rfl rfl s635 rfl B656 fun w660 B661 k662 => ?_
      have K678 := K659.trans k662 (Grew.ok (S := fun _ => False) gr119 noB_le)
      refine wl_v (.int .i64 (0)) rfl rfl (y_asg rfl rfl ⟨rfl, rfl⟩) ?_
      refine wl_nil fun F679 hF680 => ?_
      have s681 := (hF680 82).trans s632
      have s682 := (hF680 14).trans s635
      have s683 : F679 15 = .int .i64 (0) := (hF680 15).trans rfl
      clear hF680
      refine then_normal ?_
      refine wq_ret ?_
      refine in_ret ?_
      refine then_ret ?_
      refine jump_ret ?_
      exact end_2 s681 rfl (res_blk blkT_block rfl s682 B661) (res_tmp (v := .int .i64 (0)) rfl s683) ⟨(by first | rw [hR.1, hR.2, he0] | rw [hR.1, hR.2]), K678⟩
    ·skip
     refine wq_skip ?_
     refine then_normal ?_
     refine wq_seq ?_
     refine wq_block ?_
     refine wq_seq ?_
     refine wq_region ?_
     refine wl_v (.bool true) rfl rfl (y_mov rfl (Eq.trans s504 (congrArg Value.bool (c377))) ⟨rfl, rfl⟩) ?_
     refine wl_v (.bool true) rfl rfl (y_mov rfl rfl ⟨rfl, rfl⟩) ?_
     refine wl_vw (.bool false) 1 true 59 rfl rfl rfl rfl rfl (y_mov rfl (Eq.trans s505 (congrArg Value.bool (c512))) ⟨rfl, rfl⟩) ?_
     refine wl_v (.bool false) rfl rfl (y_pickT rfl rfl rfl ⟨rfl, rfl⟩) ?_
     refine wl_v (.bool false) rfl rfl (y_asg rfl rfl ⟨rfl, rfl⟩) ?_
     refine wl_nil fun F684 hF685 => ?_
     have s689 := (hF685 82).trans s497
     have s692 := (hF685 14).trans s502
     have s693 := (hF685 16).trans s504
     have s695 := (hF685 18).trans s506
     have s697 : F684 57 = .bool false := (hF685 57).trans rfl
     clear hF685
     refine then_normal ?_
     refine wq_cond (t := false) s697 (fun e => by cases e) (fun _ => ?_)
     refine wq_seq ?_
     refine wq_region ?_
     refine wl_v (.bool true) rfl rfl (y_mov rfl (Eq.trans s693 (congrArg Value.bool (c377))) ⟨rfl, rfl⟩) ?_
     refine wl_v (.bool true) rfl rfl (y_asg rfl rfl ⟨rfl, rfl⟩) ?_
     refine wl_nil fun F698 hF699 => ?_
     have s703 := (hF699 82).trans s689
     have s706 := (hF699 14).trans s692
     have s708 := (hF699 18).trans s695
     have s710 : F698 65 = .bool true := (hF699 65).trans rfl
     clear hF699
     refine then_normal ?_
     refine wq_cond (t := true) s710 (fun _ => ?_) (fun e => by cases e)
     refine wq_seq ?_
     have hR := cp_past (f := f) (p := g) (n := h) (k := k) (x := x) (y := y) (c := c) (by have a1 := past_t (m := c.m) (by assumption); have a2 := next_f (m := c.m) (by assumption); omega)
     have he0 := show mvE g k x y c.px c.py = 0 from (by first | assumption | (apply Decidable.byContradiction; assumption))
     refine wq_region ?_
     refine wl_v (blkV (mvB (g) (k) (x) (y) ((c).px) ((c).py))) rfl rfl (y_load_blk blkT_block rfl s708 B398 ⟨rfl, rfl⟩) ?_
     refine wl_store_blk blkT_block rfl rfl rfl s706 rfl B413 fun w711 B712 k713 => ?_
     have K729 := K415.trans k713 (Grew.ok (S := fun _ => False) gr119 noB_le)
     refine wl_v (.int .i64 (0)) rfl rfl (y_asg rfl rfl ⟨rfl, rfl⟩) ?_
     refine wl_nil fun F730 hF731 => ?_
     have s732 := (hF731 82).trans s703
     have s733 := (hF731 14).trans s706
     have s734 : F730 15 = .int .i64 (0) := (hF731 15).trans rfl
     clear hF731
     refine then_normal ?_
     refine wq_ret ?_
     refine in_ret ?_
     refine then_ret ?_
     refine jump_ret ?_
     exact end_2 s732 rfl (res_blk blkT_block rfl s733 B712) (res_tmp (v := .int .i64 (0)) rfl s734) ⟨(by first | rw [hR.1, hR.2, he0] | rw [hR.1, hR.2]), K729⟩
  ·skip
   refine wq_skip ?_
   refine then_normal ?_
   refine wq_seq ?_
   refine wq_seq ?_
   refine wq_region ?_
   refine wl_v (.bool (nextB ((c).m))) rfl rfl (y_mov rfl s372 ⟨rfl, rfl⟩) ?_
   refine wl_nil fun F735 hF736 => ?_
   have s740 := (hF736 3).trans s360
   have s741 := (hF736 4).trans s361
   have s742 := (hF736 5).trans s362
   have s744 := (hF736 82).trans s364
   have s745 := (hF736 7).trans s365
   have s747 := (hF736 9).trans s367
   have s748 := (hF736 13).trans s368
   have s749 := (hF736 14).trans s369
   have s751 := (hF736 16).trans s371
   have s752 := (hF736 17).trans s372
   have s754 := (hF736 19).trans s374
   have s757 : F735 44 = .bool (nextB ((c).m)) := (hF736 44).trans rfl
   clear hF736
   refine then_normal ?_
   refine wq_cond s757 (fun c758 => ?_) (fun c758 => ?_)
   ·skip
    refine wq_seq ?_
    refine wq_region ?_
    refine wl_v (.agg #[.int .i64 ((h).W), .int .i64 ((h).H), h0, h1, h2]) rfl rfl (y_load_stc stcT_frame rfl s747 B327 ⟨rfl, rfl⟩) ?_
    refine wl_v (.int .i64 (k)) rfl rfl (y_mov rfl s740 ⟨rfl, rfl⟩) ?_
    refine wl_v (.int .i64 (x)) rfl rfl (y_mov rfl s741 ⟨rfl, rfl⟩) ?_
    refine wl_v (.int .i64 (y)) rfl rfl (y_mov rfl s742 ⟨rfl, rfl⟩) ?_
    refine wl_v (.pointer (some ⟨p82, 3, none⟩)) rfl rfl (y_fieldR (n := 2) rfl s748 Tryz.underlying31 rfl (by kernel_rfl) (by decide) rfl ⟨rfl, rfl⟩) ?_
    refine wl_v (.agg #[.int .i64 ((c).nx), .int .i64 ((c).ny)]) rfl rfl (y_ldPart (n := 2) stcT_vector rfl rfl B328 (Nat.le_of_ble_eq_true rfl) rfl ⟨rfl, rfl⟩) ?_
    refine wl_call (R := fun v_ w_ => v_ = .tuple #[blkV (mvB (h) (k) (x) (y) ((c).nx) ((c).ny)), .int .i64 (mvE (h) (k) (x) (y) ((c).nx) ((c).ny))] ∧ Kept (fun _ => False) w314 w_) rfl rfl (y_cs rfl rfl rfl (fun _ _ => by kernel_rfl) (ev_func _) (vsC rfl (vsC rfl (vsC rfl (vsC rfl (vsC rfl vsN))))) (mo_predict (k) (x) (y) ((c).nx) ((c).ny) (h) (h0) (h1) (h2) (T_h0) (T_h1) (T_h2) _  B322 B323 B324 ) (fun e_ w_ h_ => ⟨_, h_.1, rfl, h_.2⟩)) ?_
    rintro _ w759 ⟨rfl, k760⟩
    have B774 := B329.all k760 id
    have B776 := B331.all k760 id
    have K777 := K332.trans k760 (fun _ _ x => x.elim)
    refine wl_v (.tuple #[blkV (mvB (h) (k) (x) (y) ((c).nx) ((c).ny)), .int .i64 (mvE (h) (k) (x) (y) ((c).nx) ((c).ny))]) rfl rfl (y_mov rfl rfl ⟨rfl, rfl⟩) ?_
    refine wl_v (blkV (mvB (h) (k) (x) (y) ((c).nx) ((c).ny))) rfl rfl (y_ext rfl rfl rfl ⟨rfl, rfl⟩) ?_
    refine wl_v (.int .i64 (mvE (h) (k) (x) (y) ((c).nx) ((c).ny))) rfl rfl (y_ext rfl rfl rfl ⟨rfl, rfl⟩) ?_
    refine wl_store_blk blkT_block rfl rfl rfl s754 rfl B776 fun w778 B779 k780 => ?_
    have B794 := B774.all k780 (fun x => (((ap254).symm) p113 rfl x))
    have K796 := K777.trans k780 (Grew.ok (S := fun _ => False) gr240 noB_le)
    refine wl_v (.int .i64 (mvE (h) (k) (x) (y) ((c).nx) ((c).ny))) rfl rfl (y_asg rfl rfl ⟨rfl, rfl⟩) ?_
    refine wl_nil fun F797 hF798 => ?_
    have s806 := (hF798 82).trans s744
    have s811 := (hF798 14).trans s749
    have s813 := (hF798 16).trans s751
    have s814 := (hF798 17).trans s752
    have s816 := (hF798 19).trans s754
    have s820 : F797 20 = .int .i64 (mvE (h) (k) (x) (y) ((c).nx) ((c).ny)) := (hF798 20).trans rfl
    clear hF798
    refine then_normal ?_
    refine wq_seq ?_
    refine wq_region ?_
    refine wl_v (.int .i64 (mvE (h) (k) (x) (y) ((c).nx) ((c).ny))) rfl rfl (y_mov rfl s820 ⟨rfl, rfl⟩) ?_
    refine wl_v (.bool (decide ((mvE (h) (k) (x) (y) ((c).nx) ((c).ny)) ≠ (0)))) rfl rfl (y_neqI rfl rfl rfl rfl ⟨rfl, rfl⟩) ?_
    refine wl_nil fun F821 hF822 => ?_
    have s830 := (hF822 82).trans s806
    have s835 := (hF822 14).trans s811
    have s837 := (hF822 16).trans s813
    have s838 := (hF822 17).trans s814
    have s840 := (hF822 19).trans s816
    have s844 := (hF822 20).trans s820
    have s845 : F821 56 = .bool (decide ((mvE (h) (k) (x) (y) ((c).nx) ((c).ny)) ≠ (0))) := (hF822 56).trans rfl
    clear hF822
    refine then_normal ?_
    refine wq_cond s845 (fun c846 => ?_) (fun c846 => ?_)
    ·replace c846 := of_decide_eq_true c846
     refine wq_goto ?_
     refine then_goto ?_
     refine jump_goto ⟨_, rfl, ?_⟩
     refine wq_seq ?_
     refine wq_skip ?_
     refine then_normal ?_
     refine wq_seq ?_
     first | have hR := cp_bad (f := f) (p := g) (n := h) (k := k) (x := x) (y := y) (c := c) (by omega) | have hR := cp_pastE (f := f) (p := g) (n := h) (k := k) (x := x) (y := y) (c := c) (past_t (by assumption)) (by assumption) | have hR := cp_nextE (f := f) (p := g) (n := h) (k := k) (x := x) (y := y) (c := c) (by have a1 := past_f (m := c.m) (by assumption); have a2 := next_t (m := c.m) (by assumption); omega) (by assumption) | have hR := cp_both2 (f := f) (p := g) (n := h) (k := k) (x := x) (y := y) (c := c) (by have a1 := past_t (m := c.m) (by assumption); have a2 := next_t (m := c.m) (by assumption); omega) (by first | assumption | (apply Decidable.byContradiction; assumption)) (by assumption)
     refine wq_region ?_
     refine wl_v (blkV (fun _ => 0)) rfl rfl (y_buildR (cells := (arrL 16 (fun _ => 0)).toArray) rfl (by kernel_rfl) rfl ⟨rfl, rfl⟩) ?_
     refine wl_v (.int .i64 (mvE (h) (k) (x) (y) ((c).nx) ((c).ny))) rfl rfl (y_mov rfl s844 ⟨rfl, rfl⟩) ?_
     refine wl_store_blk blkT_block rfl rfl rfl s835 rfl B794 fun w847 B848 k849 => ?_
     have K865 := K796.trans k849 (Grew.ok (S := fun _ => False) gr119 noB_le)
     refine wl_v (.int .i64 (mvE (h) (k) (x) (y) ((c).nx) ((c).ny))) rfl rfl (y_asg rfl rfl ⟨rfl, rfl⟩) ?_
     refine wl_nil fun F866 hF867 => ?_
     have s868 := (hF867 82).trans s830
     have s869 := (hF867 14).trans s835
     have s870 : F866 15 = .int .i64 (mvE (h) (k) (x) (y) ((c).nx) ((c).ny)) := (hF867 15).trans rfl
     clear hF867
     refine then_normal ?_
     refine wq_ret ?_
     refine stay_ret ?_
     exact end_2 s868 rfl (res_blk blkT_block rfl s869 B848) (res_tmp (v := .int .i64 (mvE (h) (k) (x) (y) ((c).nx) ((c).ny))) rfl s870) ⟨(by first | rw [hR.1, hR.2, he0] | rw [hR.1, hR.2]), K865⟩
    ·replace c846 := of_decide_eq_false c846
     refine wq_skip ?_
     refine then_normal ?_
     refine wq_seq ?_
     refine wq_block ?_
     refine wq_seq ?_
     refine wq_region ?_
     refine wl_v (.bool false) rfl rfl (y_mov rfl (Eq.trans s837 (congrArg Value.bool (c377))) ⟨rfl, rfl⟩) ?_
     refine wl_v (.bool false) rfl rfl (y_mov rfl rfl ⟨rfl, rfl⟩) ?_
     refine wl_unless 1 true 59 rfl rfl rfl (Or.inl rfl) rfl ?_
     refine wl_v (.bool false) rfl rfl (y_pickF rfl rfl rfl ⟨rfl, rfl⟩) ?_
     refine wl_v (.bool false) rfl rfl (y_asg rfl rfl ⟨rfl, rfl⟩) ?_
     refine wl_nil fun F871 hF872 => ?_
     have s876 := (hF872 82).trans s830
     have s879 := (hF872 14).trans s835
     have s880 := (hF872 16).trans s837
     have s881 := (hF872 17).trans s838
     have s883 := (hF872 19).trans s840
     have s884 : F871 57 = .bool false := (hF872 57).trans rfl
     clear hF872
     refine then_normal ?_
     refine wq_cond (t := false) s884 (fun e => by cases e) (fun _ => ?_)
     refine wq_seq ?_
     refine wq_region ?_
     refine wl_v (.bool false) rfl rfl (y_mov rfl (Eq.trans s880 (congrArg Value.bool (c377))) ⟨rfl, rfl⟩) ?_
     refine wl_v (.bool false) rfl rfl (y_asg rfl rfl ⟨rfl, rfl⟩) ?_
     refine wl_nil fun F885 hF886 => ?_
     have s890 := (hF886 82).trans s876
     have s893 := (hF886 14).trans s879
     have s894 := (hF886 17).trans s881
     have s896 := (hF886 19).trans s883
     have s897 : F885 65 = .bool false := (hF886 65).trans rfl
     clear hF886
     refine then_normal ?_
     refine wq_cond (t := false) s897 (fun e => by cases e) (fun _ => ?_)
     refine wq_seq ?_
     refine wq_region ?_
     refine wl_v (.bool true) rfl rfl (y_mov rfl (Eq.trans s894 (congrArg Value.bool (c758))) ⟨rfl, rfl⟩) ?_
     refine wl_v (.bool true) rfl rfl (y_asg rfl rfl ⟨rfl, rfl⟩) ?_
     refine wl_nil fun F898 hF899 => ?_
     have s903 := (hF899 82).trans s890
     have s906 := (hF899 14).trans s893
     have s907 := (hF899 19).trans s896
     have s908 : F898 68 = .bool true := (hF899 68).trans rfl
     clear hF899
     refine then_normal ?_
     refine wq_cond (t := true) s908 (fun _ => ?_) (fun e => by cases e)
     refine wq_seq ?_
     have hR := cp_next (f := f) (p := g) (n := h) (k := k) (x := x) (y := y) (c := c) (by have a1 := past_f (m := c.m) (by assumption); have a2 := next_t (m := c.m) (by assumption); omega)
     have he0 := show mvE h k x y c.nx c.ny = 0 from (by first | assumption | (apply Decidable.byContradiction; assumption))
     refine wq_region ?_
     refine wl_v (blkV (mvB (h) (k) (x) (y) ((c).nx) ((c).ny))) rfl rfl (y_load_blk blkT_block rfl s907 B779 ⟨rfl, rfl⟩) ?_
     refine wl_store_blk blkT_block rfl rfl rfl s906 rfl B794 fun w909 B910 k911 => ?_
     have K927 := K796.trans k911 (Grew.ok (S := fun _ => False) gr119 noB_le)
     refine wl_v (.int .i64 (0)) rfl rfl (y_asg rfl rfl ⟨rfl, rfl⟩) ?_
     refine wl_nil fun F928 hF929 => ?_
     have s930 := (hF929 82).trans s903
     have s931 := (hF929 14).trans s906
     have s932 : F928 15 = .int .i64 (0) := (hF929 15).trans rfl
     clear hF929
     refine then_normal ?_
     refine wq_ret ?_
     refine in_ret ?_
     refine then_ret ?_
     refine jump_ret ?_
     exact end_2 s930 rfl (res_blk blkT_block rfl s931 B910) (res_tmp (v := .int .i64 (0)) rfl s932) ⟨(by first | rw [hR.1, hR.2, he0] | rw [hR.1, hR.2]), K927⟩
   ·skip
    refine wq_skip ?_
    refine then_normal ?_
    refine wq_seq ?_
    refine wq_block ?_
    refine wq_seq ?_
    refine wq_region ?_
    refine wl_v (.bool false) rfl rfl (y_mov rfl (Eq.trans s751 (congrArg Value.bool (c377))) ⟨rfl, rfl⟩) ?_
    refine wl_v (.bool false) rfl rfl (y_mov rfl rfl ⟨rfl, rfl⟩) ?_
    refine wl_unless 1 true 59 rfl rfl rfl (Or.inl rfl) rfl ?_
    refine wl_v (.bool false) rfl rfl (y_pickF rfl rfl rfl ⟨rfl, rfl⟩) ?_
    refine wl_v (.bool false) rfl rfl (y_asg rfl rfl ⟨rfl, rfl⟩) ?_
    refine wl_nil fun F933 hF934 => ?_
    have s935 := (hF934 3).trans s740
    have s936 := (hF934 4).trans s741
    have s937 := (hF934 5).trans s742
    have s938 := (hF934 82).trans s744
    have s939 := (hF934 7).trans s745
    have s940 := (hF934 13).trans s748
    have s941 := (hF934 14).trans s749
    have s942 := (hF934 16).trans s751
    have s943 := (hF934 17).trans s752
    have s946 : F933 57 = .bool false := (hF934 57).trans rfl
    clear hF934
    refine then_normal ?_
    refine wq_cond (t := false) s946 (fun e => by cases e) (fun _ => ?_)
    refine wq_seq ?_
    refine wq_region ?_
    refine wl_v (.bool false) rfl rfl (y_mov rfl (Eq.trans s942 (congrArg Value.bool (c377))) ⟨rfl, rfl⟩) ?_
    refine wl_v (.bool false) rfl rfl (y_asg rfl rfl ⟨rfl, rfl⟩) ?_
    refine wl_nil fun F947 hF948 => ?_
    have s949 := (hF948 3).trans s935
    have s950 := (hF948 4).trans s936
    have s951 := (hF948 5).trans s937
    have s952 := (hF948 82).trans s938
    have s953 := (hF948 7).trans s939
    have s954 := (hF948 13).trans s940
    have s955 := (hF948 14).trans s941
    have s956 := (hF948 17).trans s943
    have s959 : F947 65 = .bool false := (hF948 65).trans rfl
    clear hF948
    refine then_normal ?_
    refine wq_cond (t := false) s959 (fun e => by cases e) (fun _ => ?_)
    refine wq_seq ?_
    refine wq_region ?_
    refine wl_v (.bool false) rfl rfl (y_mov rfl (Eq.trans s956 (congrArg Value.bool (c758))) ⟨rfl, rfl⟩) ?_
    refine wl_v (.bool false) rfl rfl (y_asg rfl rfl ⟨rfl, rfl⟩) ?_
    refine wl_nil fun F960 hF961 => ?_
    have s962 := (hF961 3).trans s949
    have s963 := (hF961 4).trans s950
    have s964 := (hF961 5).trans s951
    have s965 := (hF961 82).trans s952
    have s966 := (hF961 7).trans s953
    have s967 := (hF961 13).trans s954
    have s968 := (hF961 14).trans s955
    have s970 : F960 68 = .bool false := (hF961 68).trans rfl
    clear hF961
    refine then_normal ?_
    refine wq_cond (t := false) s970 (fun e => by cases e) (fun _ => ?_)
    refine wq_skip ?_
    refine in_normal ?_
    refine then_normal ?_
    refine wq_seq ?_
    refine wq_seq ?_
    have hR := cp_own (f := f) (p := g) (n := h) (k := k) (x := x) (y := y) (c := c) (by have a1 := past_f (m := c.m) (by assumption); have a2 := next_f (m := c.m) (by assumption); omega)
    refine wq_region ?_
    refine wl_v (.agg #[.int .i64 ((f).W), .int .i64 ((f).H), f0, f1, f2]) rfl rfl (y_load_stc stcT_frame rfl s966 B325 ⟨rfl, rfl⟩) ?_
    refine wl_v (.int .i64 (k)) rfl rfl (y_mov rfl s962 ⟨rfl, rfl⟩) ?_
    refine wl_v (.int .i64 (x)) rfl rfl (y_mov rfl s963 ⟨rfl, rfl⟩) ?_
    refine wl_v (.int .i64 (y)) rfl rfl (y_mov rfl s964 ⟨rfl, rfl⟩) ?_
    refine wl_v (.pointer (some ⟨p82, 0, none⟩)) rfl rfl (y_fieldR (n := 1) rfl s967 Tryz.underlying31 rfl (by kernel_rfl) (by decide) rfl ⟨rfl, rfl⟩) ?_
    refine wl_v (.int .i64 ((c).m)) rfl rfl (y_ld_stc rfl rfl Tryz.underlying3 B328 rfl rfl ⟨rfl, rfl⟩) ?_
    refine wl_call (R := fun v_ w_ => v_ = .tuple #[blkV (predB (f) (k) (x) (y) ((c).m)), .int .i64 (predE (f) (k) (x) (y) ((c).m))] ∧ Kept (fun _ => False) w314 w_) rfl rfl (y_cs rfl rfl rfl (fun _ _ => by kernel_rfl) (ev_func _) (vsC rfl (vsC rfl (vsC rfl (vsC rfl (vsC rfl vsN))))) (il_predict (k) (x) (y) ((c).m) (f) (f0) (f1) (f2) (T_f0) (T_f1) (T_f2) _  B316 B317 B318 ) (fun e_ w_ h_ => ⟨_, h_.1, rfl, h_.2⟩)) ?_
    rintro _ w971 ⟨rfl, k972⟩
    have B986 := B329.all k972 id
    have K989 := K332.trans k972 (fun _ _ x => x.elim)
    refine wl_v (blkV (predB (f) (k) (x) (y) ((c).m))) rfl rfl (y_ext rfl rfl rfl ⟨rfl, rfl⟩) ?_
    refine wl_v (.int .i64 (predE (f) (k) (x) (y) ((c).m))) rfl rfl (y_ext rfl rfl rfl ⟨rfl, rfl⟩) ?_
    refine wl_store_blk blkT_block rfl rfl rfl s968 rfl B986 fun w990 B991 k992 => ?_
    have K1008 := K989.trans k992 (Grew.ok (S := fun _ => False) gr119 noB_le)
    refine wl_v (.int .i64 (predE (f) (k) (x) (y) ((c).m))) rfl rfl (y_asg rfl rfl ⟨rfl, rfl⟩) ?_
    refine wl_nil fun F1009 hF1010 => ?_
    have s1011 := (hF1010 82).trans s965
    have s1012 := (hF1010 14).trans s968
    have s1013 : F1009 15 = .int .i64 (predE (f) (k) (x) (y) ((c).m)) := (hF1010 15).trans rfl
    clear hF1010
    refine then_normal ?_
    refine wq_ret ?_
    refine then_ret ?_
    refine jump_ret ?_
    exact end_2 s1011 rfl (res_blk blkT_block rfl s1012 B991) (res_tmp (v := .int .i64 (predE (f) (k) (x) (y) ((c).m))) rfl s1013) ⟨(by first | rw [hR.1, hR.2, he0] | rw [hR.1, hR.2]), K1008⟩
 ·skip
  refine wq_region ?_
  refine wl_v (.pointer (some ⟨p82, 0, none⟩)) rfl rfl (y_fieldR (n := 1) rfl s305 Tryz.underlying31 rfl (by kernel_rfl) (by decide) rfl ⟨rfl, rfl⟩) ?_
  refine wl_v (.int .i64 ((c).m)) rfl rfl (y_ld_stc rfl rfl Tryz.underlying3 B268 rfl rfl ⟨rfl, rfl⟩) ?_
  refine wl_call (R := fun v_ w_ => v_ = .bool false ∧ Kept (fun _ => False) w235 w_) rfl rfl (y_cs rfl rfl rfl (fun _ _ => by kernel_rfl) (ev_func _) (vsC rfl vsN) (bl_known ((c).m)  _   ) (fun e_ w_ h_ => ⟨_, h_.1, (congrArg Value.bool (decide_eq_false d313)), h_.2⟩)) ?_
  rintro _ w1014 ⟨rfl, k1015⟩
  have B1029 := B269.all k1015 id
  have K1032 := K271.trans k1015 (fun _ _ x => x.elim)
  refine wl_v (.bool true) rfl rfl (y_not rfl rfl rfl ⟨rfl, rfl⟩) ?_
  refine wl_nil fun F1033 hF1034 => ?_
  have s1042 := (hF1034 82).trans s301
  have s1047 := (hF1034 14).trans s306
  have s1053 := (hF1034 20).trans s312
  have s1054 : F1033 30 = .bool true := (hF1034 30).trans rfl
  clear hF1034
  refine then_normal ?_
  refine wq_cond (t := true) s1054 (fun _ => ?_) (fun e => by cases e)
  refine wq_goto ?_
  refine then_goto ?_
  refine jump_goto ⟨_, rfl, ?_⟩
  refine wq_seq ?_
  refine wq_skip ?_
  refine then_normal ?_
  refine wq_seq ?_
  first | have hR := cp_bad (f := f) (p := g) (n := h) (k := k) (x := x) (y := y) (c := c) (by omega) | have hR := cp_pastE (f := f) (p := g) (n := h) (k := k) (x := x) (y := y) (c := c) (past_t (by assumption)) (by assumption) | have hR := cp_nextE (f := f) (p := g) (n := h) (k := k) (x := x) (y := y) (c := c) (by have a1 := past_f (m := c.m) (by assumption); have a2 := next_t (m := c.m) (by assumption); omega) (by assumption) | have hR := cp_both2 (f := f) (p := g) (n := h) (k := k) (x := x) (y := y) (c := c) (by have a1 := past_t (m := c.m) (by assumption); have a2 := next_t (m := c.m) (by assumption); omega) (by first | assumption | (apply Decidable.byContradiction; assumption)) (by assumption)
  refine wq_region ?_
  refine wl_v (blkV (fun _ => 0)) rfl rfl (y_buildR (cells := (arrL 16 (fun _ => 0)).toArray) rfl (by kernel_rfl) rfl ⟨rfl, rfl⟩) ?_
  refine wl_v (.int .i64 (120)) rfl rfl (y_mov rfl s1053 ⟨rfl, rfl⟩) ?_
  refine wl_store_blk blkT_block rfl rfl rfl s1047 rfl B1029 fun w1055 B1056 k1057 => ?_
  have K1073 := K1032.trans k1057 (Grew.ok (S := fun _ => False) gr119 noB_le)
  refine wl_v (.int .i64 (120)) rfl rfl (y_asg rfl rfl ⟨rfl, rfl⟩) ?_
  refine wl_nil fun F1074 hF1075 => ?_
  have s1076 := (hF1075 82).trans s1042
  have s1077 := (hF1075 14).trans s1047
  have s1078 : F1074 15 = .int .i64 (120) := (hF1075 15).trans rfl
  clear hF1075
  refine then_normal ?_
  refine wq_ret ?_
  refine stay_ret ?_
  exact end_2 s1076 rfl (res_blk blkT_block rfl s1077 B1056) (res_tmp (v := .int .i64 (120)) rfl s1078) ⟨(by first | rw [hR.1, hR.2, he0] | rw [hR.1, hR.2]), K1073⟩
theorem whole_ge (l : List Nat) (n : Int) (s : Option Nat) : 0 ≤ (rdStep (wholeRd l n) s).1 := by
  cases s with
  | none => simp [rdStep]
  | some a =>
    cases h : wholeAt l a with
    | none => simp [rdStep, wholeRd, h]
    | some p =>
      obtain ⟨v, a'⟩ := p
      have hb := gw_bounds l a v a' h
      by_cases hv : n < v
      · simp [rdStep, wholeRd, h, hv]
      · simp [rdStep, wholeRd, h, hv]; exact hb.1
theorem rdCh_no {l : List Nat} {k ax ay bx yy m : Int} {st s1 : Option Nat} (hm : m = (rdStep (wholeRd l 6) st).1) (hs : s1 = (rdStep (wholeRd l 6) st).2) (h : s1.isNone = true ∨ ¬ (0 ≤ m ∧ m ≤ mostK k)) : ∃ s, rdCh l k ax ay bx yy st = (ch0, 120, s) := by
  have h0 := whole_ge l 6 st
  have e := rdStep_most (l := l) (mostK_le k) st
  rw [if_pos (by rw [← hm, ← hs]; rw [← hm] at h0; rcases h with h | h; exact .inl h; exact .inr (by omega))] at e
  exact ⟨none, by unfold rdCh; rw [e]; unfold rd1; exact if_pos rfl⟩
theorem rdCh_go {l : List Nat} {k ax ay bx yy m : Int} {st s1 : Option Nat} (hm : m = (rdStep (wholeRd l 6) st).1) (hs : s1 = (rdStep (wholeRd l 6) st).2) (h1 : s1.isNone = false) (h2 : 0 ≤ m ∧ m ≤ mostK k) : rdCh l k ax ay bx yy st = rd2 l m bx yy (stV (pastB m) l ax ay s1) := by
  have e := rdStep_most (l := l) (mostK_le k) st
  rw [if_neg (by rw [← hm, ← hs, h1]; rintro (h | h); cases h; omega)] at e
  unfold rdCh; rw [e]; unfold rd1
  rw [if_neg (by rw [← hs, h1]; exact Bool.false_ne_true), ← hm, ← hs]
set_option maxHeartbeats 4000000 in
set_option maxRecDepth 100000 in
theorem bl_read (p : Nat) (l : List Nat) (st : Option Nat) (k ax ay bx yy : Int) (T_r : Nat → Prop) (w0 : World) (hA : ActsIn w0) (hO : ScanIn w0) (hG : ∀ i, T_r i → 4 ≤ i) (h_r : Rdi w0 T_r p (l) (st)) :
  Calls Tryz.prog 12 #[.pointer (some ⟨p, 0, none⟩), .int .i64 (k), .agg #[.int .i64 (ax), .int .i64 (ay)], .agg #[.int .i64 (bx), .int .i64 (yy)]] w0 fun e w' => ∃ (T_r' : Nat → Prop), e = .returned (.tuple #[.agg (chW ((rdCh l k ax ay bx yy st).1)).toArray, .int .i64 ((rdCh l k ax ay bx yy st).2.1)]) ∧ Kept (T_r) w0 w' ∧ (Rdi w' T_r' p (l) (rdChT l k ax ay bx yy st) ∧ Grew w0 T_r T_r') := by
 refine calls_wq (args := [.pointer (some ⟨p, 0, none⟩), .int .i64 (k), .agg #[.int .i64 (ax), .int .i64 (ay)], .agg #[.int .i64 (bx), .int .i64 (yy)]]) 68 Tryz.func12 rfl rfl (Nat.le_of_ble_eq_true rfl) ?_
 have K0 := Kept.refl (T_r) w0
 obtain ⟨m, hm⟩ : ∃ m, m = (rdStep (wholeRd l 6) st).1 := ⟨_, rfl⟩
 obtain ⟨s1, hs1⟩ : ∃ s, s = (rdStep (wholeRd l 6) st).2 := ⟨_, rfl⟩
 have g_r := Grew.refl w0 T_r
 refine wq_seq ?_
 refine wq_region ?_
 refine wl_box_stc (vs := [.int .i64 (ax), .int .i64 (ay)]) rfl rfl rfl rfl fun p1 w2 B4 g5 k3 => ?_
 have ap7 : Apart (onB p1) (T_r) := Apart.new g5 (h_r).live
 have B8 := h_r.all k3 Apart.none
 have K9 := K0.trans k3 (fun _ _ x => x.elim)
 refine wl_box_stc (vs := [.int .i64 (bx), .int .i64 (yy)]) rfl rfl rfl rfl fun p10 w11 B13 g14 k12 => ?_
 have ap16 : Apart (onB p10) (T_r) := Apart.new g14 (B8).live
 have B18 := B8.all k12 Apart.none
 have B19 := B4.all k12 id
 have K20 := K9.trans k12 (fun _ _ x => x.elim)
 refine wl_alloc_stc (n := 21) (vs := (chL 0 0 0 0 0 (fun _ => (0 : Int)))) rfl rfl rfl (by kernel_rfl) fun p21 w22 B24 g25 k23 => ?_
 have gr26 : Grew w0 noB (onB p21) := Grew.new K20 g25
 have ap27 : Apart (onB p21) (T_r) := Apart.new g25 (B18).live
 have B30 := B18.all k23 Apart.none
 have B31 := B19.all k23 id
 have B32 := B13.all k23 id
 have K33 := K20.trans k23 (fun _ _ x => x.elim)
 refine wl_v (.int .i64 (0)) rfl rfl (y_asg rfl rfl ⟨rfl, rfl⟩) ?_
 refine wl_nil fun F34 hF35 => ?_
 have s36 : F34 0 = .pointer (some ⟨p, 0, none⟩) := (hF35 0).trans rfl
 have s37 : F34 1 = .int .i64 (k) := (hF35 1).trans rfl
 have s40 : F34 68 = undef := (hF35 68).trans rfl
 have s41 : F34 6 = .pointer (some ⟨p1, 0, none⟩) := (hF35 6).trans rfl
 have s42 : F34 7 = .pointer (some ⟨p10, 0, none⟩) := (hF35 7).trans rfl
 have s43 : F34 8 = .pointer (some ⟨p21, 0, none⟩) := (hF35 8).trans rfl
 clear hF35
 refine then_normal ?_
 refine wq_scope ?_
 refine wq_seq ?_
 refine wq_seq ?_
 refine wq_region ?_
 refine wl_v (.pointer (some ⟨p, 0, none⟩)) rfl rfl (y_mov rfl s36 ⟨rfl, rfl⟩) ?_
 refine wl_v (.bool false) rfl rfl (y_noNil rfl rfl rfl Tryz.underlying50 ⟨rfl, rfl⟩) ?_
 refine wl_nil fun F45 hF46 => ?_
 have s47 := (hF46 0).trans s36
 have s48 := (hF46 1).trans s37
 have s51 := (hF46 68).trans s40
 have s52 := (hF46 6).trans s41
 have s53 := (hF46 7).trans s42
 have s54 := (hF46 8).trans s43
 have s56 : F45 16 = .bool false := (hF46 16).trans rfl
 clear hF46
 refine then_normal ?_
 refine wq_cond (t := false) s56 (fun e => by cases e) (fun _ => ?_)
 refine wq_skip ?_
 refine then_normal ?_
 refine wq_seq ?_
 obtain ⟨g, a, b, hf, hT, hok, hp, hg, hap⟩ := rdi_open B30
 have gr57 : Grew w0 (T_r) (onB p) := fun i h => g_r i ((fun i h => (hT i).2 (Or.inl h)) i h)
 have ap58 : Apart (onB p) (onB p1) := fun i h => (ap7).symm i ((fun i h => (hT i).2 (Or.inl h)) i h)
 have ap59 : Apart (onB p) (onB p10) := fun i h => (ap16).symm i ((fun i h => (hT i).2 (Or.inl h)) i h)
 have ap60 : Apart (onB p) (onB p21) := fun i h => (ap27).symm i ((fun i h => (hT i).2 (Or.inl h)) i h)
 have gr61 : Grew w0 (T_r) (onB g) := fun i h => g_r i ((fun i h => (hT i).2 (Or.inr h)) i h)
 have ap62 : Apart (onB g) (onB p1) := fun i h => (ap7).symm i ((fun i h => (hT i).2 (Or.inr h)) i h)
 have ap63 : Apart (onB g) (onB p10) := fun i h => (ap16).symm i ((fun i h => (hT i).2 (Or.inr h)) i h)
 have ap64 : Apart (onB g) (onB p21) := fun i h => (ap27).symm i ((fun i h => (hT i).2 (Or.inr h)) i h)
 have ap65 : Apart (onB p) (onB g) := hap
 refine wq_region ?_
 refine wl_v (.pointer (some ⟨p, 0, none⟩)) rfl rfl (y_mov rfl s47 ⟨rfl, rfl⟩) ?_
 refine wl_v (.pointer (some ⟨p, 0, none⟩)) rfl rfl (y_nilc rfl rfl ⟨rfl, rfl⟩) ?_
 refine wl_v (.agg #[.slice (some ⟨g, 0, none⟩) l.length l.length, .int .i64 (((a : Nat) : Int)), .bool (b)]) rfl rfl (y_load_stc stcT_reader rfl rfl hp ⟨rfl, rfl⟩) ?_
 refine wl_alloc_stc (n := 3) (vs := [.slice none 0 0, .int .i64 (((0 : Nat) : Int)), .bool false]) rfl rfl rfl (by kernel_rfl) fun p66 w67 B69 g70 k68 => ?_
 have gr71 : Grew w0 noB (onB p66) := Grew.new K33 g70
 have ap72 : Apart (onB p66) (onB p1) := Apart.new g70 (onB_live (B31).lt)
 have ap73 : Apart (onB p66) (onB p10) := Apart.new g70 (onB_live (B32).lt)
 have ap74 : Apart (onB p66) (onB p21) := Apart.new g70 (onB_live (B24).lt)
 have ap75 : Apart (onB p66) (onB p) := Apart.new g70 (onB_live (hp).lt)
 have ap76 : Apart (onB p66) (onB g) := Apart.new g70 (hg).live
 have B77 := B31.all k68 id
 have B78 := B32.all k68 id
 have B79 := B24.all k68 id
 have B80 := hp.all k68 id
 have B81 := hg.all k68 Apart.none
 have K82 := K33.trans k68 (fun _ _ x => x.elim)
 refine wl_store_stc (us := [.slice (some ⟨g, 0, none⟩) l.length l.length, .int .i64 (((a : Nat) : Int)), .bool (b)]) stcT_reader rfl rfl rfl rfl rfl B69 rfl (oneI rfl (oneI rfl (oneI rfl oneN))) fun w83 B84 k85 => ?_
 have B86 := B77.all k85 (fun x => (((ap72).symm) p1 rfl x))
 have B87 := B78.all k85 (fun x => (((ap73).symm) p10 rfl x))
 have B88 := B79.all k85 (fun x => (((ap74).symm) p21 rfl x))
 have B89 := B80.all k85 (fun x => (((ap75).symm) p rfl x))
 have B90 := B81.all k85 (fun i h x => (((ap76).symm) i h x))
 have K91 := K82.trans k85 (Grew.ok (S := T_r) gr71 noB_le)
 refine wl_nil fun F92 hF93 => ?_
 have s94 := (hF93 0).trans s47
 have s95 := (hF93 1).trans s48
 have s98 := (hF93 68).trans s51
 have s99 := (hF93 6).trans s52
 have s100 := (hF93 7).trans s53
 have s101 := (hF93 8).trans s54
 have s104 : F92 10 = .pointer (some ⟨p66, 0, none⟩) := (hF93 10).trans rfl
 clear hF93
 refine then_normal ?_
 refine wq_seq ?_
 have B105 : Rdx w83 (fun i => (onB p) i ∨ ((onB p66) i ∨ ((onB g) i))) p66 (l) (st) ([(p, st)]) := rdx_push0 hf hok B89 B84 B90 (ap75).symm ap65 ap76
 have gr106 : Grew w0 (T_r) (fun i => (onB p) i ∨ ((onB p66) i ∨ ((onB g) i))) := fun i h => h.elim (fun y => gr57 i y) (fun y => y.elim (fun y => (Grew.weak gr71 (fun _ z => z.elim)) i y) (fun y => gr61 i y))
 have ap107 : Apart (fun i => (onB p) i ∨ ((onB p66) i ∨ ((onB g) i))) (onB p1) := fun i h => h.elim (fun y => (ap58) i y) (fun y => y.elim (fun y => (ap72) i y) (fun y => (ap62) i y))
 have ap108 : Apart (fun i => (onB p) i ∨ ((onB p66) i ∨ ((onB g) i))) (onB p10) := fun i h => h.elim (fun y => (ap59) i y) (fun y => y.elim (fun y => (ap73) i y) (fun y => (ap63) i y))
 have ap109 : Apart (fun i => (onB p) i ∨ ((onB p66) i ∨ ((onB g) i))) (onB p21) := fun i h => h.elim (fun y => (ap60) i y) (fun y => y.elim (fun y => (ap74) i y) (fun y => (ap64) i y))
 refine wq_region ?_
 refine wl_call (R := fun v_ w_ => ∃ (T112 : Nat → Prop), .int .i64 (m) = v_ ∧ Kept (fun i => (onB p) i ∨ ((onB p66) i ∨ ((onB g) i))) w83 w_ ∧ (Rdx w_ T112 p66 ((l)) ((rdStep (wholeRd (l) (6)) (st)).2) (([(p, st)])) ∧ Grew w83 (fun i => (onB p) i ∨ ((onB p66) i ∨ ((onB g) i))) T112)) rfl rfl (y_cs rfl rfl rfl (fun _ _ => by kernel_rfl) (ev_func _) (vsC s104 (vsC rfl vsN)) (t_rwholeX (p66) (l) (st) ([(p, st)]) (6) (fun i => (onB p) i ∨ ((onB p66) i ∨ ((onB g) i))) _  B105 ) (fun e_ w_ h_ => by obtain ⟨T112_, he_, hr_⟩ := h_; exact ⟨_, he_, T112_, (congrArg (Value.int .i64) hm.symm).symm, hr_⟩)) ?_
 rintro _ w110 ⟨T112, rfl, k111, ⟨B113, g114⟩⟩
 have B115 := B86.all k111 (fun x => (((ap107).symm) p1 rfl x))
 have B116 := B87.all k111 (fun x => (((ap108).symm) p10 rfl x))
 have B117 := B88.all k111 (fun x => (((ap109).symm) p21 rfl x))
 have K118 := K91.trans k111 (fun i hi x => ((Grew.ok (S := T_r) gr106 (fun _ x => x)) i hi x))
 have gr119 := gr106.trans K91 g114
 have ap121 : Apart T112 (onB p10) := (ap108).grew g114 (onB_live (B87).lt)
 have ap122 : Apart T112 (onB p21) := (ap109).grew g114 (onB_live (B88).lt)
 refine wl_v (.agg (chL m 0 0 0 0 (fun _ => (0 : Int))).toArray) rfl rfl (y_buildL (l' := [(0, .int .i64 (m))]) (cells := (chL m 0 0 0 0 (fun _ => (0 : Int))).toArray) rfl (bpC rfl bpN) (by kernel_rfl) rfl ⟨rfl, rfl⟩) ?_
 refine wl_alloc_stc (n := 21) (vs := (chL 0 0 0 0 0 (fun _ => (0 : Int)))) rfl rfl rfl (by kernel_rfl) fun p123 w124 B126 g127 k125 => ?_
 have gr128 : Grew w0 noB (onB p123) := Grew.new K118 g127
 have ap129 : Apart (onB p123) (onB p1) := Apart.new g127 (onB_live (B115).lt)
 have ap130 : Apart (onB p123) (onB p10) := Apart.new g127 (onB_live (B116).lt)
 have ap131 : Apart (onB p123) (onB p21) := Apart.new g127 (onB_live (B117).lt)
 have ap132 : Apart (onB p123) (T112) := Apart.new g127 (B113).live
 have B133 := B115.all k125 id
 have B134 := B116.all k125 id
 have B135 := B117.all k125 id
 have B136 := B113.all k125 Apart.none
 have K137 := K118.trans k125 (fun _ _ x => x.elim)
 refine wl_store_stc (us := (chL m 0 0 0 0 (fun _ => (0 : Int)))) stcT_choice rfl rfl rfl rfl rfl B126 rfl (oneI rfl (oneI rfl (oneI rfl (oneI rfl (oneI rfl (oneI rfl (oneI rfl (oneI rfl (oneI rfl (oneI rfl (oneI rfl (oneI rfl (oneI rfl (oneI rfl (oneI rfl (oneI rfl (oneI rfl (oneI rfl (oneI rfl (oneI rfl (oneI rfl oneN))))))))))))))))))))) fun w138 B139 k140 => ?_
 have B141 := B133.all k140 (fun x => (((ap129).symm) p1 rfl x))
 have B142 := B134.all k140 (fun x => (((ap130).symm) p10 rfl x))
 have B143 := B135.all k140 (fun x => (((ap131).symm) p21 rfl x))
 have B144 := B136.all k140 (fun i h x => (((ap132).symm) i h x))
 have K145 := K137.trans k140 (Grew.ok (S := T_r) gr128 noB_le)
 refine wl_nil fun F146 hF147 => ?_
 have s148 := (hF147 0).trans s94
 have s149 := (hF147 1).trans s95
 have s152 := (hF147 68).trans s98
 have s153 := (hF147 6).trans s99
 have s154 := (hF147 7).trans s100
 have s155 := (hF147 8).trans s101
 have s158 := (hF147 10).trans s104
 have s159 : F146 11 = .pointer (some ⟨p123, 0, none⟩) := (hF147 11).trans rfl
 clear hF147
 refine then_normal ?_
 refine wq_seq ?_
 have B160 : Rdx w138 (T112) p66 (l) (s1) ([(p, st)]) := ((by rw [hs1]; exact B144))
 refine wq_region ?_
 refine wl_v (.pointer (some ⟨p123, 0, none⟩)) rfl rfl (y_fieldR (n := 1) rfl s159 Tryz.underlying31 rfl (by kernel_rfl) (by decide) rfl ⟨rfl, rfl⟩) ?_
 refine wl_v (.int .i64 (m)) rfl rfl (y_ld_stc rfl rfl Tryz.underlying3 B139 rfl rfl ⟨rfl, rfl⟩) ?_
 refine wl_call (R := fun v_ w_ => v_ = .tuple #[.bool (pastB (m)), .bool (nextB (m))] ∧ Kept (fun _ => False) w138 w_) rfl rfl (y_cs rfl rfl rfl (fun _ _ => by kernel_rfl) (ev_func _) (vsC rfl vsN) (bl_vectors (m)  _ (hA.but K145 hG)  ) (fun e_ w_ h_ => ⟨_, h_.1, rfl, h_.2⟩)) ?_
 rintro _ w161 ⟨rfl, k162⟩
 have B163 := B141.all k162 id
 have B164 := B142.all k162 id
 have B165 := B143.all k162 id
 have B166 := B160.all k162 Apart.none
 have B167 := B139.all k162 id
 have K168 := K145.trans k162 (fun _ _ x => x.elim)
 refine wl_v (.tuple #[.bool (pastB (m)), .bool (nextB (m))]) rfl rfl (y_mov rfl rfl ⟨rfl, rfl⟩) ?_
 refine wl_v (.bool (pastB (m))) rfl rfl (y_ext rfl rfl rfl ⟨rfl, rfl⟩) ?_
 refine wl_v (.bool (nextB (m))) rfl rfl (y_ext rfl rfl rfl ⟨rfl, rfl⟩) ?_
 refine wl_v (.bool (pastB (m))) rfl rfl (y_asg rfl rfl ⟨rfl, rfl⟩) ?_
 refine wl_v (.bool (nextB (m))) rfl rfl (y_asg rfl rfl ⟨rfl, rfl⟩) ?_
 refine wl_nil fun F169 hF170 => ?_
 have s171 := (hF170 0).trans s148
 have s172 := (hF170 1).trans s149
 have s175 := (hF170 68).trans s152
 have s176 := (hF170 6).trans s153
 have s177 := (hF170 7).trans s154
 have s178 := (hF170 8).trans s155
 have s181 := (hF170 10).trans s158
 have s182 := (hF170 11).trans s159
 have s183 : F169 12 = .bool (pastB (m)) := (hF170 12).trans rfl
 have s184 : F169 13 = .bool (nextB (m)) := (hF170 13).trans rfl
 clear hF170
 refine then_normal ?_
 refine wq_seq ?_
 refine wq_region ?_
 refine wl_v (.int .i64 (120)) rfl rfl (y_asg rfl rfl ⟨rfl, rfl⟩) ?_
 refine wl_nil fun F185 hF186 => ?_
 have s187 := (hF186 0).trans s171
 have s188 := (hF186 1).trans s172
 have s191 := (hF186 68).trans s175
 have s192 := (hF186 6).trans s176
 have s193 := (hF186 7).trans s177
 have s194 := (hF186 8).trans s178
 have s197 := (hF186 10).trans s181
 have s198 := (hF186 11).trans s182
 have s199 := (hF186 12).trans s183
 have s200 := (hF186 13).trans s184
 have s201 : F185 14 = .int .i64 (120) := (hF186 14).trans rfl
 clear hF186
 refine then_normal ?_
 refine wq_seq ?_
 refine wq_seq ?_
 rcases Bool.eq_false_or_eq_true ((s1).isNone) with d202 | d202
 ·skip
  refine wq_region ?_
  refine wl_call (R := fun v_ w_ => v_ = .bool true ∧ Kept (fun _ => False) w161 w_) rfl rfl (y_cs rfl rfl rfl (fun _ _ => by kernel_rfl) (ev_func _) (vsC s197 vsN) (t_lostX (p66) (l) (s1) ([(p, st)]) (T112) _  B166 ) (fun e_ w_ h_ => ⟨_, h_.1, (congrArg Value.bool d202), h_.2⟩)) ?_
  rintro _ w203 ⟨rfl, k204⟩
  have B207 := B165.all k204 id
  have B208 := B166.all k204 Apart.none
  have K210 := K168.trans k204 (fun _ _ x => x.elim)
  refine wl_v (.bool true) rfl rfl (y_mov rfl rfl ⟨rfl, rfl⟩) ?_
  refine wl_unless 1 false 30 rfl rfl rfl (Or.inl rfl) rfl ?_
  refine wl_unless 1 false 30 rfl rfl rfl (Or.inl rfl) rfl ?_
  refine wl_unless 1 false 30 rfl rfl rfl (Or.inl rfl) rfl ?_
  refine wl_unless 1 false 30 rfl rfl rfl (Or.inl rfl) rfl ?_
  refine wl_unless 1 false 30 rfl rfl rfl (Or.inl rfl) rfl ?_
  refine wl_v (.bool true) rfl rfl (y_pickT rfl rfl rfl ⟨rfl, rfl⟩) ?_
  refine wl_nil fun F211 hF212 => ?_
  have s217 := (hF212 68).trans s191
  have s220 := (hF212 8).trans s194
  have s227 := (hF212 14).trans s201
  have s228 : F211 36 = .bool true := (hF212 36).trans rfl
  clear hF212
  refine then_normal ?_
  refine wq_cond (t := true) s228 (fun _ => ?_) (fun e => by cases e)
  refine wq_goto ?_
  refine then_goto ?_
  refine jump_goto ⟨_, rfl, ?_⟩
  refine wq_seq ?_
  refine wq_skip ?_
  refine then_normal ?_
  refine wq_seq ?_
  first | have hR := h1.trans (by unfold rd2; exact if_neg (by assumption)) | have hR := h1.trans (by unfold rd3; exact if_neg (by assumption)) | have hR := h1.trans (by unfold rd4; exact if_neg (by assumption)) | (have hRR := rdCh_no (l := l) (k := k) (ax := ax) (ay := ay) (bx := bx) (yy := yy) hm hs1 (by first | exact Or.inl (by assumption) | exact Or.inr (by assumption)); obtain ⟨s9, hR⟩ := hRR)
  have hT0 : rdChT l k ax ay bx yy st = st := by unfold rdChT; rw [hR]; exact if_neg (by first | assumption | (intro z; exact absurd (show (120 : Int) = 0 from z) (by decide)))
  obtain ⟨g2, a1, b1, a2, b2, hf2, hT2, ho1, ho2, hp2, hq2, hg2, ap1_, ap2_, ap3_⟩ := rdx_pop0 B208
  have gr229 : Grew w0 (T_r) (onB p) := fun i h => gr119 i ((fun i h => (hT2 i).2 (Or.inl h)) i h)
  have ap232 : Apart (onB p) (onB p21) := fun i h => ap122 i ((fun i h => (hT2 i).2 (Or.inl h)) i h)
  have gr239 : Grew w0 (T_r) (onB g2) := fun i h => gr119 i ((fun i h => (hT2 i).2 (Or.inr (Or.inr h))) i h)
  have ap242 : Apart (onB g2) (onB p21) := fun i h => ap122 i ((fun i h => (hT2 i).2 (Or.inr (Or.inr h))) i h)
  have ap245 : Apart (onB p) (onB g2) := ap2_
  refine wq_region ?_
  refine wl_v (.agg (chL 0 0 0 0 0 (fun _ => (0 : Int))).toArray) rfl rfl (y_buildL (l' := []) (cells := (chL 0 0 0 0 0 (fun _ => (0 : Int))).toArray) rfl bpN (by kernel_rfl) rfl ⟨rfl, rfl⟩) ?_
  refine wl_v (.int .i64 (120)) rfl rfl (y_mov rfl s227 ⟨rfl, rfl⟩) ?_
  refine wl_store_stc (us := (chL 0 0 0 0 0 (fun _ => (0 : Int)))) stcT_choice rfl rfl rfl s220 rfl B207 rfl (oneI rfl (oneI rfl (oneI rfl (oneI rfl (oneI rfl (oneI rfl (oneI rfl (oneI rfl (oneI rfl (oneI rfl (oneI rfl (oneI rfl (oneI rfl (oneI rfl (oneI rfl (oneI rfl (oneI rfl (oneI rfl (oneI rfl (oneI rfl (oneI rfl oneN))))))))))))))))))))) fun w247 B248 k249 => ?_
  have B253 := hp2.all k249 (fun x => ((ap232) p rfl x))
  have B255 := hg2.all k249 (fun i h x => ((ap242) i h x))
  have K256 := K210.trans k249 (Grew.ok (S := T_r) gr26 noB_le)
  refine wl_v (.int .i64 (120)) rfl rfl (y_asg rfl rfl ⟨rfl, rfl⟩) ?_
  refine wl_nil fun F257 hF258 => ?_
  have s259 := (hF258 68).trans s217
  have s260 := (hF258 8).trans s220
  have s261 : F257 9 = .int .i64 (120) := (hF258 9).trans rfl
  clear hF258
  refine then_normal ?_
  refine wq_ret ?_
  refine stay_ret ?_
  have B262 : Rdi w247 (fun i => (onB p) i ∨ ((onB g2) i)) p (l) (rdChT l k ax ay bx yy st) := (by rw [hT0]; first | exact rdi_close hf2 ho1 B253 B255 ap245 | exact rdi_close hf2 ho2 B253 B255 ap245)
  have gr263 : Grew w0 (T_r) (fun i => (onB p) i ∨ ((onB g2) i)) := fun i h => h.elim (fun y => gr229 i y) (fun y => gr239 i y)
  exact end_2 s259 rfl (res_stc (vs := (chL 0 0 0 0 0 (fun _ => (0 : Int)))) stcT_choice rfl s260 B248) (res_tmp (v := .int .i64 (120)) rfl s261) ⟨(fun i => (onB p) i ∨ ((onB g2) i)), (by rw [hR] <;> rfl), K256, ⟨B262, gr263⟩⟩
 ·skip
  by_cases d269 : 0 ≤ (m) ∧ (m) ≤ mostK (k)
  ·skip
   refine wq_region ?_
   refine wl_call (R := fun v_ w_ => v_ = .bool false ∧ Kept (fun _ => False) w161 w_) rfl rfl (y_cs rfl rfl rfl (fun _ _ => by kernel_rfl) (ev_func _) (vsC s197 vsN) (t_lostX (p66) (l) (s1) ([(p, st)]) (T112) _  B166 ) (fun e_ w_ h_ => ⟨_, h_.1, (congrArg Value.bool d202), h_.2⟩)) ?_
   rintro _ w270 ⟨rfl, k271⟩
   have B272 := B163.all k271 id
   have B273 := B164.all k271 id
   have B274 := B165.all k271 id
   have B275 := B166.all k271 Apart.none
   have B276 := B167.all k271 id
   have K277 := K168.trans k271 (fun _ _ x => x.elim)
   refine wl_v (.bool false) rfl rfl (y_mov rfl rfl ⟨rfl, rfl⟩) ?_
   refine wl_vw (.int .i64 (k)) 1 false 30 rfl rfl rfl rfl rfl (y_mov rfl s188 ⟨rfl, rfl⟩) ?_
   refine wl_vw (.pointer (some ⟨p123, 0, none⟩)) 1 false 30 rfl rfl rfl rfl rfl (y_fieldR (n := 1) rfl s198 Tryz.underlying31 rfl (by kernel_rfl) (by decide) rfl ⟨rfl, rfl⟩) ?_
   refine wl_vw (.int .i64 (m)) 1 false 30 rfl rfl rfl rfl rfl (y_ld_stc rfl rfl Tryz.underlying3 B276 rfl rfl ⟨rfl, rfl⟩) ?_
   refine wl_callw (R := fun v_ w_ => v_ = .bool true ∧ Kept (fun _ => False) w270 w_) 1 false 30 rfl rfl rfl rfl rfl (y_cs rfl rfl rfl (fun _ _ => by kernel_rfl) (ev_func _) (vsC rfl (vsC rfl vsN)) (bl_has (k) (m)  _ (hA.but K277 hG)  ) (fun e_ w_ h_ => ⟨_, h_.1, (congrArg Value.bool (decide_eq_true d269)), h_.2⟩)) ?_
   rintro _ w278 ⟨rfl, k279⟩
   have B280 := B272.all k279 id
   have B281 := B273.all k279 id
   have B282 := B274.all k279 id
   have B283 := B275.all k279 Apart.none
   have B284 := B276.all k279 id
   have K285 := K277.trans k279 (fun _ _ x => x.elim)
   refine wl_vw (.bool false) 1 false 30 rfl rfl rfl rfl rfl (y_not rfl rfl rfl ⟨rfl, rfl⟩) ?_
   refine wl_v (.bool false) rfl rfl (y_pickF rfl rfl rfl ⟨rfl, rfl⟩) ?_
   refine wl_nil fun F286 hF287 => ?_
   have s288 := (hF287 0).trans s187
   have s292 := (hF287 68).trans s191
   have s293 := (hF287 6).trans s192
   have s294 := (hF287 7).trans s193
   have s295 := (hF287 8).trans s194
   have s298 := (hF287 10).trans s197
   have s299 := (hF287 11).trans s198
   have s300 := (hF287 12).trans s199
   have s301 := (hF287 13).trans s200
   have s303 : F286 36 = .bool false := (hF287 36).trans rfl
   clear hF287
   refine then_normal ?_
   refine wq_cond (t := false) s303 (fun e => by cases e) (fun _ => ?_)
   refine wq_skip ?_
   refine then_normal ?_
   refine wq_seq ?_
   refine wq_seq ?_
   have h1 := rdCh_go (l := l) (k := k) (ax := ax) (ay := ay) (bx := bx) (yy := yy) hm hs1 (by assumption) (by assumption)
   refine wq_region ?_
   refine wl_v (.bool (pastB (m))) rfl rfl (y_mov rfl s300 ⟨rfl, rfl⟩) ?_
   refine wl_nil fun F304 hF305 => ?_
   have s306 := (hF305 0).trans s288
   have s310 := (hF305 68).trans s292
   have s311 := (hF305 6).trans s293
   have s312 := (hF305 7).trans s294
   have s313 := (hF305 8).trans s295
   have s316 := (hF305 10).trans s298
   have s317 := (hF305 11).trans s299
   have s319 := (hF305 13).trans s301
   have s321 : F304 37 = .bool (pastB (m)) := (hF305 37).trans rfl
   clear hF305
   refine then_normal ?_
   refine wq_cond s321 (fun c322 => ?_) (fun c322 => ?_)
   ·skip
    refine wq_seq ?_
    rw [stV_yes (has := pastB m) (by assumption)] at h1
    refine wq_region ?_
    refine wl_v (.agg #[.int .i64 (ax), .int .i64 (ay)]) rfl rfl (y_load_stc stcT_vector rfl s311 B280 ⟨rfl, rfl⟩) ?_
    refine wl_call (R := fun v_ w_ => ∃ (T325 : Nat → Prop), .tuple #[.agg #[.int .i64 (vrX (l) (ax) (ay) (s1)), .int .i64 (vrY (l) (ax) (ay) (s1))], .int .i64 (vrE (l) (ax) (ay) (s1))] = v_ ∧ Kept (T112) w278 w_ ∧ (Rdx w_ T325 p66 ((l)) (vrT (l) (ax) (ay) (s1)) (([(p, st)])) ∧ Grew w278 (T112) T325)) rfl rfl (y_cs rfl rfl rfl (fun _ _ => by kernel_rfl) (ev_func _) (vsC s316 (vsC rfl vsN)) (vt_readX (p66) (l) (s1) ([(p, st)]) (ax) (ay) (T112) _  B283 ) (fun e_ w_ h_ => by obtain ⟨T325_, he_, hr_⟩ := h_; exact ⟨_, he_, T325_, rfl, hr_⟩)) ?_
    rintro _ w323 ⟨T325, rfl, k324, ⟨B326, g327⟩⟩
    have B329 := B281.all k324 (fun x => (((ap121).symm) p10 rfl x))
    have B330 := B282.all k324 (fun x => (((ap122).symm) p21 rfl x))
    have B331 := B284.all k324 (fun x => ((ap132) p123 rfl x))
    have K332 := K285.trans k324 (fun i hi x => ((Grew.ok (S := T_r) gr119 (fun _ x => x)) i hi x))
    have gr333 := gr119.trans K285 g327
    have ap336 : Apart T325 (onB p21) := (ap122).grew g327 (onB_live (B282).lt)
    have ap337 : Apart T325 (onB p123) := ((ap132).symm).grew g327 (onB_live (B284).lt)
    refine wl_v (.tuple #[.agg #[.int .i64 (vrX (l) (ax) (ay) (s1)), .int .i64 (vrY (l) (ax) (ay) (s1))], .int .i64 (vrE (l) (ax) (ay) (s1))]) rfl rfl (y_mov rfl rfl ⟨rfl, rfl⟩) ?_
    refine wl_v (.agg #[.int .i64 (vrX (l) (ax) (ay) (s1)), .int .i64 (vrY (l) (ax) (ay) (s1))]) rfl rfl (y_ext rfl rfl rfl ⟨rfl, rfl⟩) ?_
    refine wl_v (.int .i64 (vrE (l) (ax) (ay) (s1))) rfl rfl (y_ext rfl rfl rfl ⟨rfl, rfl⟩) ?_
    refine wl_v (.pointer (some ⟨p123, 1, none⟩)) rfl rfl (y_fieldR (n := 2) rfl s317 Tryz.underlying31 rfl (by kernel_rfl) (by decide) rfl ⟨rfl, rfl⟩) ?_
    refine wl_setPart (us := [.int .i64 (vrX (l) (ax) (ay) (s1)), .int .i64 (vrY (l) (ax) (ay) (s1))]) (ns := (chL m (vrX (l) (ax) (ay) (s1)) (vrY (l) (ax) (ay) (s1)) 0 0 (fun _ => (0 : Int)))) stcT_vector rfl rfl rfl rfl rfl B331 (Nat.le_of_ble_eq_true rfl) (oneI rfl (oneI rfl oneN)) rfl fun w338 B339 k340 => ?_
    have B342 := B329.all k340 (fun x => (((ap130).symm) p10 rfl x))
    have B343 := B330.all k340 (fun x => (((ap131).symm) p21 rfl x))
    have B344 := B326.all k340 (fun i h x => ((ap337) i h x))
    have K345 := K332.trans k340 (Grew.ok (S := T_r) gr128 noB_le)
    refine wl_v (.int .i64 (vrE (l) (ax) (ay) (s1))) rfl rfl (y_asg rfl rfl ⟨rfl, rfl⟩) ?_
    refine wl_nil fun F346 hF347 => ?_
    have s348 := (hF347 0).trans s306
    have s352 := (hF347 68).trans s310
    have s354 := (hF347 7).trans s312
    have s355 := (hF347 8).trans s313
    have s358 := (hF347 10).trans s316
    have s359 := (hF347 11).trans s317
    have s361 := (hF347 13).trans s319
    have s364 : F346 14 = .int .i64 (vrE (l) (ax) (ay) (s1)) := (hF347 14).trans rfl
    clear hF347
    refine then_normal ?_
    refine wq_seq ?_
    refine wq_region ?_
    refine wl_v (.int .i64 (vrE (l) (ax) (ay) (s1))) rfl rfl (y_mov rfl s364 ⟨rfl, rfl⟩) ?_
    refine wl_v (.bool (decide ((vrE (l) (ax) (ay) (s1)) ≠ (0)))) rfl rfl (y_neqI rfl rfl rfl rfl ⟨rfl, rfl⟩) ?_
    refine wl_nil fun F365 hF366 => ?_
    have s367 := (hF366 0).trans s348
    have s371 := (hF366 68).trans s352
    have s373 := (hF366 7).trans s354
    have s374 := (hF366 8).trans s355
    have s377 := (hF366 10).trans s358
    have s378 := (hF366 11).trans s359
    have s380 := (hF366 13).trans s361
    have s383 := (hF366 14).trans s364
    have s384 : F365 45 = .bool (decide ((vrE (l) (ax) (ay) (s1)) ≠ (0))) := (hF366 45).trans rfl
    clear hF366
    refine then_normal ?_
    refine wq_cond s384 (fun c385 => ?_) (fun c385 => ?_)
    ·replace c385 := of_decide_eq_true c385
     refine wq_goto ?_
     refine then_goto ?_
     refine jump_goto ⟨_, rfl, ?_⟩
     refine wq_seq ?_
     refine wq_skip ?_
     refine then_normal ?_
     refine wq_seq ?_
     first | have hR := h1.trans (by unfold rd2; exact if_neg (by assumption)) | have hR := h1.trans (by unfold rd3; exact if_neg (by assumption)) | have hR := h1.trans (by unfold rd4; exact if_neg (by assumption)) | (have hRR := rdCh_no (l := l) (k := k) (ax := ax) (ay := ay) (bx := bx) (yy := yy) hm hs1 (by first | exact Or.inl (by assumption) | exact Or.inr (by assumption)); obtain ⟨s9, hR⟩ := hRR)
     have hT0 : rdChT l k ax ay bx yy st = st := by unfold rdChT; rw [hR]; exact if_neg (by first | assumption | (intro z; exact absurd (show (120 : Int) = 0 from z) (by decide)))
     obtain ⟨g2, a1, b1, a2, b2, hf2, hT2, ho1, ho2, hp2, hq2, hg2, ap1_, ap2_, ap3_⟩ := rdx_pop0 B344
     have gr386 : Grew w0 (T_r) (onB p) := fun i h => gr333 i ((fun i h => (hT2 i).2 (Or.inl h)) i h)
     have ap389 : Apart (onB p) (onB p21) := fun i h => ap336 i ((fun i h => (hT2 i).2 (Or.inl h)) i h)
     have gr396 : Grew w0 (T_r) (onB g2) := fun i h => gr333 i ((fun i h => (hT2 i).2 (Or.inr (Or.inr h))) i h)
     have ap399 : Apart (onB g2) (onB p21) := fun i h => ap336 i ((fun i h => (hT2 i).2 (Or.inr (Or.inr h))) i h)
     have ap402 : Apart (onB p) (onB g2) := ap2_
     refine wq_region ?_
     refine wl_v (.agg (chL 0 0 0 0 0 (fun _ => (0 : Int))).toArray) rfl rfl (y_buildL (l' := []) (cells := (chL 0 0 0 0 0 (fun _ => (0 : Int))).toArray) rfl bpN (by kernel_rfl) rfl ⟨rfl, rfl⟩) ?_
     refine wl_v (.int .i64 (vrE (l) (ax) (ay) (s1))) rfl rfl (y_mov rfl s383 ⟨rfl, rfl⟩) ?_
     refine wl_store_stc (us := (chL 0 0 0 0 0 (fun _ => (0 : Int)))) stcT_choice rfl rfl rfl s374 rfl B343 rfl (oneI rfl (oneI rfl (oneI rfl (oneI rfl (oneI rfl (oneI rfl (oneI rfl (oneI rfl (oneI rfl (oneI rfl (oneI rfl (oneI rfl (oneI rfl (oneI rfl (oneI rfl (oneI rfl (oneI rfl (oneI rfl (oneI rfl (oneI rfl (oneI rfl oneN))))))))))))))))))))) fun w404 B405 k406 => ?_
     have B410 := hp2.all k406 (fun x => ((ap389) p rfl x))
     have B412 := hg2.all k406 (fun i h x => ((ap399) i h x))
     have K413 := K345.trans k406 (Grew.ok (S := T_r) gr26 noB_le)
     refine wl_v (.int .i64 (vrE (l) (ax) (ay) (s1))) rfl rfl (y_asg rfl rfl ⟨rfl, rfl⟩) ?_
     refine wl_nil fun F414 hF415 => ?_
     have s416 := (hF415 68).trans s371
     have s417 := (hF415 8).trans s374
     have s418 : F414 9 = .int .i64 (vrE (l) (ax) (ay) (s1)) := (hF415 9).trans rfl
     clear hF415
     refine then_normal ?_
     refine wq_ret ?_
     refine stay_ret ?_
     have B419 : Rdi w404 (fun i => (onB p) i ∨ ((onB g2) i)) p (l) (rdChT l k ax ay bx yy st) := (by rw [hT0]; first | exact rdi_close hf2 ho1 B410 B412 ap402 | exact rdi_close hf2 ho2 B410 B412 ap402)
     have gr420 : Grew w0 (T_r) (fun i => (onB p) i ∨ ((onB g2) i)) := fun i h => h.elim (fun y => gr386 i y) (fun y => gr396 i y)
     exact end_2 s416 rfl (res_stc (vs := (chL 0 0 0 0 0 (fun _ => (0 : Int)))) stcT_choice rfl s417 B405) (res_tmp (v := .int .i64 (vrE (l) (ax) (ay) (s1))) rfl s418) ⟨(fun i => (onB p) i ∨ ((onB g2) i)), (by rw [hR] <;> rfl), K413, ⟨B419, gr420⟩⟩
    ·replace c385 := of_decide_eq_false c385
     refine wq_skip ?_
     refine then_normal ?_
     refine wq_seq ?_
     refine wq_seq ?_
     first | (rw [stV_no (has := pastB m) (by assumption)] at h1; replace h1 := h1.trans (by unfold rd2; exact if_pos rfl); (try dsimp only at h1)) | (have hv1 : vrE l ax ay s1 = 0 := (by first | assumption | (apply Decidable.byContradiction; assumption)); replace h1 := h1.trans (by unfold rd2; exact if_pos hv1); (try dsimp only at h1); rw [← vrT_ok hv1] at h1)
     refine wq_region ?_
     refine wl_v (.bool (nextB (m))) rfl rfl (y_mov rfl s380 ⟨rfl, rfl⟩) ?_
     refine wl_nil fun F426 hF427 => ?_
     have s428 := (hF427 0).trans s367
     have s432 := (hF427 68).trans s371
     have s434 := (hF427 7).trans s373
     have s435 := (hF427 8).trans s374
     have s438 := (hF427 10).trans s377
     have s439 := (hF427 11).trans s378
     have s445 : F426 46 = .bool (nextB (m)) := (hF427 46).trans rfl
     clear hF427
     refine then_normal ?_
     refine wq_cond s445 (fun c446 => ?_) (fun c446 => ?_)
     ·skip
      refine wq_seq ?_
      rw [stV_yes (has := nextB m) (by assumption)] at h1
      refine wq_region ?_
      refine wl_v (.agg #[.int .i64 (bx), .int .i64 (yy)]) rfl rfl (y_load_stc stcT_vector rfl s434 B342 ⟨rfl, rfl⟩) ?_
      refine wl_call (R := fun v_ w_ => ∃ (T449 : Nat → Prop), .tuple #[.agg #[.int .i64 (vrX ((l)) (bx) (yy) (vrT (l) (ax) (ay) (s1))), .int .i64 (vrY ((l)) (bx) (yy) (vrT (l) (ax) (ay) (s1)))], .int .i64 (vrE ((l)) (bx) (yy) (vrT (l) (ax) (ay) (s1)))] = v_ ∧ Kept (T325) w338 w_ ∧ (Rdx w_ T449 p66 (((l))) (vrT ((l)) (bx) (yy) (vrT (l) (ax) (ay) (s1))) ((([(p, st)]))) ∧ Grew w338 (T325) T449)) rfl rfl (y_cs rfl rfl rfl (fun _ _ => by kernel_rfl) (ev_func _) (vsC s438 (vsC rfl vsN)) (vt_readX (p66) ((l)) (vrT (l) (ax) (ay) (s1)) (([(p, st)])) (bx) (yy) (T325) _  B344 ) (fun e_ w_ h_ => by obtain ⟨T449_, he_, hr_⟩ := h_; exact ⟨_, he_, T449_, rfl, hr_⟩)) ?_
      rintro _ w447 ⟨T449, rfl, k448, ⟨B450, g451⟩⟩
      have B454 := B343.all k448 (fun x => (((ap336).symm) p21 rfl x))
      have B455 := B339.all k448 (fun x => (((ap337).symm) p123 rfl x))
      have K456 := K345.trans k448 (fun i hi x => ((Grew.ok (S := T_r) gr333 (fun _ x => x)) i hi x))
      have gr457 := gr333.trans K345 g451
      have ap460 : Apart T449 (onB p21) := (ap336).grew g451 (onB_live (B343).lt)
      have ap461 : Apart T449 (onB p123) := (ap337).grew g451 (onB_live (B339).lt)
      refine wl_v (.tuple #[.agg #[.int .i64 (vrX ((l)) (bx) (yy) (vrT (l) (ax) (ay) (s1))), .int .i64 (vrY ((l)) (bx) (yy) (vrT (l) (ax) (ay) (s1)))], .int .i64 (vrE ((l)) (bx) (yy) (vrT (l) (ax) (ay) (s1)))]) rfl rfl (y_mov rfl rfl ⟨rfl, rfl⟩) ?_
      refine wl_v (.agg #[.int .i64 (vrX ((l)) (bx) (yy) (vrT (l) (ax) (ay) (s1))), .int .i64 (vrY ((l)) (bx) (yy) (vrT (l) (ax) (ay) (s1)))]) rfl rfl (y_ext rfl rfl rfl ⟨rfl, rfl⟩) ?_
      refine wl_v (.int .i64 (vrE ((l)) (bx) (yy) (vrT (l) (ax) (ay) (s1)))) rfl rfl (y_ext rfl rfl rfl ⟨rfl, rfl⟩) ?_
      refine wl_v (.pointer (some ⟨p123, 3, none⟩)) rfl rfl (y_fieldR (n := 2) rfl s439 Tryz.underlying31 rfl (by kernel_rfl) (by decide) rfl ⟨rfl, rfl⟩) ?_
      refine wl_setPart (us := [.int .i64 (vrX ((l)) (bx) (yy) (vrT (l) (ax) (ay) (s1))), .int .i64 (vrY ((l)) (bx) (yy) (vrT (l) (ax) (ay) (s1)))]) (ns := (chL m (vrX (l) (ax) (ay) (s1)) (vrY (l) (ax) (ay) (s1)) (vrX ((l)) (bx) (yy) (vrT (l) (ax) (ay) (s1))) (vrY ((l)) (bx) (yy) (vrT (l) (ax) (ay) (s1))) (fun _ => (0 : Int)))) stcT_vector rfl rfl rfl rfl rfl B455 (Nat.le_of_ble_eq_true rfl) (oneI rfl (oneI rfl oneN)) rfl fun w462 B463 k464 => ?_
      have B467 := B454.all k464 (fun x => (((ap131).symm) p21 rfl x))
      have B468 := B450.all k464 (fun i h x => ((ap461) i h x))
      have K469 := K456.trans k464 (Grew.ok (S := T_r) gr128 noB_le)
      refine wl_v (.int .i64 (vrE ((l)) (bx) (yy) (vrT (l) (ax) (ay) (s1)))) rfl rfl (y_asg rfl rfl ⟨rfl, rfl⟩) ?_
      refine wl_nil fun F470 hF471 => ?_
      have s472 := (hF471 0).trans s428
      have s476 := (hF471 68).trans s432
      have s479 := (hF471 8).trans s435
      have s482 := (hF471 10).trans s438
      have s483 := (hF471 11).trans s439
      have s490 : F470 14 = .int .i64 (vrE ((l)) (bx) (yy) (vrT (l) (ax) (ay) (s1))) := (hF471 14).trans rfl
      clear hF471
      refine then_normal ?_
      refine wq_seq ?_
      refine wq_region ?_
      refine wl_v (.int .i64 (vrE ((l)) (bx) (yy) (vrT (l) (ax) (ay) (s1)))) rfl rfl (y_mov rfl s490 ⟨rfl, rfl⟩) ?_
      refine wl_v (.bool (decide ((vrE ((l)) (bx) (yy) (vrT (l) (ax) (ay) (s1))) ≠ (0)))) rfl rfl (y_neqI rfl rfl rfl rfl ⟨rfl, rfl⟩) ?_
      refine wl_nil fun F491 hF492 => ?_
      have s493 := (hF492 0).trans s472
      have s497 := (hF492 68).trans s476
      have s500 := (hF492 8).trans s479
      have s503 := (hF492 10).trans s482
      have s504 := (hF492 11).trans s483
      have s511 := (hF492 14).trans s490
      have s512 : F491 54 = .bool (decide ((vrE ((l)) (bx) (yy) (vrT (l) (ax) (ay) (s1))) ≠ (0))) := (hF492 54).trans rfl
      clear hF492
      refine then_normal ?_
      refine wq_cond s512 (fun c513 => ?_) (fun c513 => ?_)
      ·replace c513 := of_decide_eq_true c513
       refine wq_goto ?_
       refine then_goto ?_
       refine jump_goto ⟨_, rfl, ?_⟩
       refine wq_seq ?_
       refine wq_skip ?_
       refine then_normal ?_
       refine wq_seq ?_
       first | have hR := h1.trans (by unfold rd2; exact if_neg (by assumption)) | have hR := h1.trans (by unfold rd3; exact if_neg (by assumption)) | have hR := h1.trans (by unfold rd4; exact if_neg (by assumption)) | (have hRR := rdCh_no (l := l) (k := k) (ax := ax) (ay := ay) (bx := bx) (yy := yy) hm hs1 (by first | exact Or.inl (by assumption) | exact Or.inr (by assumption)); obtain ⟨s9, hR⟩ := hRR)
       have hT0 : rdChT l k ax ay bx yy st = st := by unfold rdChT; rw [hR]; exact if_neg (by first | assumption | (intro z; exact absurd (show (120 : Int) = 0 from z) (by decide)))
       obtain ⟨g2, a1, b1, a2, b2, hf2, hT2, ho1, ho2, hp2, hq2, hg2, ap1_, ap2_, ap3_⟩ := rdx_pop0 B468
       have gr514 : Grew w0 (T_r) (onB p) := fun i h => gr457 i ((fun i h => (hT2 i).2 (Or.inl h)) i h)
       have ap517 : Apart (onB p) (onB p21) := fun i h => ap460 i ((fun i h => (hT2 i).2 (Or.inl h)) i h)
       have gr524 : Grew w0 (T_r) (onB g2) := fun i h => gr457 i ((fun i h => (hT2 i).2 (Or.inr (Or.inr h))) i h)
       have ap527 : Apart (onB g2) (onB p21) := fun i h => ap460 i ((fun i h => (hT2 i).2 (Or.inr (Or.inr h))) i h)
       have ap530 : Apart (onB p) (onB g2) := ap2_
       refine wq_region ?_
       refine wl_v (.agg (chL 0 0 0 0 0 (fun _ => (0 : Int))).toArray) rfl rfl (y_buildL (l' := []) (cells := (chL 0 0 0 0 0 (fun _ => (0 : Int))).toArray) rfl bpN (by kernel_rfl) rfl ⟨rfl, rfl⟩) ?_
       refine wl_v (.int .i64 (vrE ((l)) (bx) (yy) (vrT (l) (ax) (ay) (s1)))) rfl rfl (y_mov rfl s511 ⟨rfl, rfl⟩) ?_
       refine wl_store_stc (us := (chL 0 0 0 0 0 (fun _ => (0 : Int)))) stcT_choice rfl rfl rfl s500 rfl B467 rfl (oneI rfl (oneI rfl (oneI rfl (oneI rfl (oneI rfl (oneI rfl (oneI rfl (oneI rfl (oneI rfl (oneI rfl (oneI rfl (oneI rfl (oneI rfl (oneI rfl (oneI rfl (oneI rfl (oneI rfl (oneI rfl (oneI rfl (oneI rfl (oneI rfl oneN))))))))))))))))))))) fun w532 B533 k534 => ?_
       have B538 := hp2.all k534 (fun x => ((ap517) p rfl x))
       have B540 := hg2.all k534 (fun i h x => ((ap527) i h x))
       have K541 := K469.trans k534 (Grew.ok (S := T_r) gr26 noB_le)
       refine wl_v (.int .i64 (vrE ((l)) (bx) (yy) (vrT (l) (ax) (ay) (s1)))) rfl rfl (y_asg rfl rfl ⟨rfl, rfl⟩) ?_
       refine wl_nil fun F542 hF543 => ?_
       have s544 := (hF543 68).trans s497
       have s545 := (hF543 8).trans s500
       have s546 : F542 9 = .int .i64 (vrE ((l)) (bx) (yy) (vrT (l) (ax) (ay) (s1))) := (hF543 9).trans rfl
       clear hF543
       refine then_normal ?_
       refine wq_ret ?_
       refine stay_ret ?_
       have B547 : Rdi w532 (fun i => (onB p) i ∨ ((onB g2) i)) p (l) (rdChT l k ax ay bx yy st) := (by rw [hT0]; first | exact rdi_close hf2 ho1 B538 B540 ap530 | exact rdi_close hf2 ho2 B538 B540 ap530)
       have gr548 : Grew w0 (T_r) (fun i => (onB p) i ∨ ((onB g2) i)) := fun i h => h.elim (fun y => gr514 i y) (fun y => gr524 i y)
       exact end_2 s544 rfl (res_stc (vs := (chL 0 0 0 0 0 (fun _ => (0 : Int)))) stcT_choice rfl s545 B533) (res_tmp (v := .int .i64 (vrE ((l)) (bx) (yy) (vrT (l) (ax) (ay) (s1)))) rfl s546) ⟨(fun i => (onB p) i ∨ ((onB g2) i)), (by rw [hR] <;> rfl), K541, ⟨B547, gr548⟩⟩
      ·replace c513 := of_decide_eq_false c513
       refine wq_skip ?_
       refine then_normal ?_
       refine wq_seq ?_
       refine wq_seq ?_
       first | (rw [stV_no (has := nextB m) (by assumption)] at h1; replace h1 := h1.trans (by unfold rd3; exact if_pos rfl); (try dsimp only at h1)) | (have hv2 : vrE l bx yy (vrT l ax ay s1) = 0 := (by first | assumption | (apply Decidable.byContradiction; assumption)); replace h1 := h1.trans (by unfold rd3; exact if_pos hv2); (try dsimp only at h1); rw [← vrT_ok hv2] at h1) | (have hv2 : vrE l bx yy s1 = 0 := (by first | assumption | (apply Decidable.byContradiction; assumption)); replace h1 := h1.trans (by unfold rd3; exact if_pos hv2); (try dsimp only at h1); rw [← vrT_ok hv2] at h1)
       refine wq_region ?_
       refine wl_call (R := fun v_ w_ => ∃ (T556 : Nat → Prop), .tuple #[blkV ((scanRd (((l))) (vrT ((l)) (bx) (yy) (vrT (l) (ax) (ay) (s1)))).1), .int .i64 ((scanRd (((l))) (vrT ((l)) (bx) (yy) (vrT (l) (ax) (ay) (s1)))).2.1)] = v_ ∧ Kept (T449) w462 w_ ∧ (Rdx w_ T556 p66 ((((l)))) (rdSt (((l))) (vrT ((l)) (bx) (yy) (vrT (l) (ax) (ay) (s1)))) (((([(p, st)])))) ∧ Grew w462 (T449) T556)) rfl rfl (y_cs rfl rfl rfl (fun _ _ => by kernel_rfl) (ev_func _) (vsC s503 vsN) (scan_readX (p66) (((l))) (vrT ((l)) (bx) (yy) (vrT (l) (ax) (ay) (s1))) ((([(p, st)]))) (T449) _ (hO.but K469 (ovO hG)) (ovO (aboveN2 gr457 hG hA)) B468 ) (fun e_ w_ h_ => by obtain ⟨T556_, he_, hr_⟩ := h_; exact ⟨_, he_, T556_, rfl, hr_⟩)) ?_
       rintro _ w554 ⟨T556, rfl, k555, ⟨B557, g558⟩⟩
       have B561 := B467.all k555 (fun x => (((ap460).symm) p21 rfl x))
       have B562 := B463.all k555 (fun x => (((ap461).symm) p123 rfl x))
       have K563 := K469.trans k555 (fun i hi x => ((Grew.ok (S := T_r) gr457 (fun _ x => x)) i hi x))
       have gr564 := gr457.trans K469 g558
       have ap567 : Apart T556 (onB p21) := (ap460).grew g558 (onB_live (B467).lt)
       have ap568 : Apart T556 (onB p123) := (ap461).grew g558 (onB_live (B463).lt)
       refine wl_v (.tuple #[blkV ((scanRd (((l))) (vrT ((l)) (bx) (yy) (vrT (l) (ax) (ay) (s1)))).1), .int .i64 ((scanRd (((l))) (vrT ((l)) (bx) (yy) (vrT (l) (ax) (ay) (s1)))).2.1)]) rfl rfl (y_mov rfl rfl ⟨rfl, rfl⟩) ?_
       refine wl_v (blkV ((scanRd (((l))) (vrT ((l)) (bx) (yy) (vrT (l) (ax) (ay) (s1)))).1)) rfl rfl (y_ext rfl rfl rfl ⟨rfl, rfl⟩) ?_
       refine wl_v (.int .i64 ((scanRd (((l))) (vrT ((l)) (bx) (yy) (vrT (l) (ax) (ay) (s1)))).2.1)) rfl rfl (y_ext rfl rfl rfl ⟨rfl, rfl⟩) ?_
       refine wl_v (.pointer (some ⟨p123, 5, none⟩)) rfl rfl (y_fieldR (n := 16) rfl s504 Tryz.underlying31 rfl (by kernel_rfl) (by decide) rfl ⟨rfl, rfl⟩) ?_
       refine wl_setPart (us := arrL 16 ((scanRd (((l))) (vrT ((l)) (bx) (yy) (vrT (l) (ax) (ay) (s1)))).1)) (ns := (chL m (vrX (l) (ax) (ay) (s1)) (vrY (l) (ax) (ay) (s1)) (vrX ((l)) (bx) (yy) (vrT (l) (ax) (ay) (s1))) (vrY ((l)) (bx) (yy) (vrT (l) (ax) (ay) (s1))) ((scanRd (((l))) (vrT ((l)) (bx) (yy) (vrT (l) (ax) (ay) (s1)))).1))) stcT_block rfl rfl rfl rfl rfl B562 (Nat.le_of_ble_eq_true rfl) (one_arrL _ _) rfl fun w569 B570 k571 => ?_
       have B574 := B561.all k571 (fun x => (((ap131).symm) p21 rfl x))
       have B575 := B557.all k571 (fun i h x => ((ap568) i h x))
       have K576 := K563.trans k571 (Grew.ok (S := T_r) gr128 noB_le)
       refine wl_v (.int .i64 ((scanRd (((l))) (vrT ((l)) (bx) (yy) (vrT (l) (ax) (ay) (s1)))).2.1)) rfl rfl (y_asg rfl rfl ⟨rfl, rfl⟩) ?_
       refine wl_nil fun F577 hF578 => ?_
       have s579 := (hF578 0).trans s493
       have s583 := (hF578 68).trans s497
       have s586 := (hF578 8).trans s500
       have s589 := (hF578 10).trans s503
       have s590 := (hF578 11).trans s504
       have s598 : F577 14 = .int .i64 ((scanRd (((l))) (vrT ((l)) (bx) (yy) (vrT (l) (ax) (ay) (s1)))).2.1) := (hF578 14).trans rfl
       clear hF578
       refine then_normal ?_
       refine wq_seq ?_
       refine wq_region ?_
       refine wl_v (.int .i64 ((scanRd (((l))) (vrT ((l)) (bx) (yy) (vrT (l) (ax) (ay) (s1)))).2.1)) rfl rfl (y_mov rfl s598 ⟨rfl, rfl⟩) ?_
       refine wl_v (.bool (decide (((scanRd (((l))) (vrT ((l)) (bx) (yy) (vrT (l) (ax) (ay) (s1)))).2.1) ≠ (0)))) rfl rfl (y_neqI rfl rfl rfl rfl ⟨rfl, rfl⟩) ?_
       refine wl_nil fun F599 hF600 => ?_
       have s601 := (hF600 0).trans s579
       have s605 := (hF600 68).trans s583
       have s608 := (hF600 8).trans s586
       have s611 := (hF600 10).trans s589
       have s612 := (hF600 11).trans s590
       have s620 := (hF600 14).trans s598
       have s621 : F599 61 = .bool (decide (((scanRd (((l))) (vrT ((l)) (bx) (yy) (vrT (l) (ax) (ay) (s1)))).2.1) ≠ (0))) := (hF600 61).trans rfl
       clear hF600
       refine then_normal ?_
       refine wq_cond s621 (fun c622 => ?_) (fun c622 => ?_)
       ·replace c622 := of_decide_eq_true c622
        refine wq_goto ?_
        refine then_goto ?_
        refine jump_goto ⟨_, rfl, ?_⟩
        refine wq_seq ?_
        refine wq_skip ?_
        refine then_normal ?_
        refine wq_seq ?_
        first | have hR := h1.trans (by unfold rd2; exact if_neg (by assumption)) | have hR := h1.trans (by unfold rd3; exact if_neg (by assumption)) | have hR := h1.trans (by unfold rd4; exact if_neg (by assumption)) | (have hRR := rdCh_no (l := l) (k := k) (ax := ax) (ay := ay) (bx := bx) (yy := yy) hm hs1 (by first | exact Or.inl (by assumption) | exact Or.inr (by assumption)); obtain ⟨s9, hR⟩ := hRR)
        have hT0 : rdChT l k ax ay bx yy st = st := by unfold rdChT; rw [hR]; exact if_neg (by first | assumption | (intro z; exact absurd (show (120 : Int) = 0 from z) (by decide)))
        obtain ⟨g2, a1, b1, a2, b2, hf2, hT2, ho1, ho2, hp2, hq2, hg2, ap1_, ap2_, ap3_⟩ := rdx_pop0 B575
        have gr623 : Grew w0 (T_r) (onB p) := fun i h => gr564 i ((fun i h => (hT2 i).2 (Or.inl h)) i h)
        have ap626 : Apart (onB p) (onB p21) := fun i h => ap567 i ((fun i h => (hT2 i).2 (Or.inl h)) i h)
        have gr633 : Grew w0 (T_r) (onB g2) := fun i h => gr564 i ((fun i h => (hT2 i).2 (Or.inr (Or.inr h))) i h)
        have ap636 : Apart (onB g2) (onB p21) := fun i h => ap567 i ((fun i h => (hT2 i).2 (Or.inr (Or.inr h))) i h)
        have ap639 : Apart (onB p) (onB g2) := ap2_
        refine wq_region ?_
        refine wl_v (.agg (chL 0 0 0 0 0 (fun _ => (0 : Int))).toArray) rfl rfl (y_buildL (l' := []) (cells := (chL 0 0 0 0 0 (fun _ => (0 : Int))).toArray) rfl bpN (by kernel_rfl) rfl ⟨rfl, rfl⟩) ?_
        refine wl_v (.int .i64 ((scanRd (((l))) (vrT ((l)) (bx) (yy) (vrT (l) (ax) (ay) (s1)))).2.1)) rfl rfl (y_mov rfl s620 ⟨rfl, rfl⟩) ?_
        refine wl_store_stc (us := (chL 0 0 0 0 0 (fun _ => (0 : Int)))) stcT_choice rfl rfl rfl s608 rfl B574 rfl (oneI rfl (oneI rfl (oneI rfl (oneI rfl (oneI rfl (oneI rfl (oneI rfl (oneI rfl (oneI rfl (oneI rfl (oneI rfl (oneI rfl (oneI rfl (oneI rfl (oneI rfl (oneI rfl (oneI rfl (oneI rfl (oneI rfl (oneI rfl (oneI rfl oneN))))))))))))))))))))) fun w641 B642 k643 => ?_
        have B647 := hp2.all k643 (fun x => ((ap626) p rfl x))
        have B649 := hg2.all k643 (fun i h x => ((ap636) i h x))
        have K650 := K576.trans k643 (Grew.ok (S := T_r) gr26 noB_le)
        refine wl_v (.int .i64 ((scanRd (((l))) (vrT ((l)) (bx) (yy) (vrT (l) (ax) (ay) (s1)))).2.1)) rfl rfl (y_asg rfl rfl ⟨rfl, rfl⟩) ?_
        refine wl_nil fun F651 hF652 => ?_
        have s653 := (hF652 68).trans s605
        have s654 := (hF652 8).trans s608
        have s655 : F651 9 = .int .i64 ((scanRd (((l))) (vrT ((l)) (bx) (yy) (vrT (l) (ax) (ay) (s1)))).2.1) := (hF652 9).trans rfl
        clear hF652
        refine then_normal ?_
        refine wq_ret ?_
        refine stay_ret ?_
        have B656 : Rdi w641 (fun i => (onB p) i ∨ ((onB g2) i)) p (l) (rdChT l k ax ay bx yy st) := (by rw [hT0]; first | exact rdi_close hf2 ho1 B647 B649 ap639 | exact rdi_close hf2 ho2 B647 B649 ap639)
        have gr657 : Grew w0 (T_r) (fun i => (onB p) i ∨ ((onB g2) i)) := fun i h => h.elim (fun y => gr623 i y) (fun y => gr633 i y)
        exact end_2 s653 rfl (res_stc (vs := (chL 0 0 0 0 0 (fun _ => (0 : Int)))) stcT_choice rfl s654 B642) (res_tmp (v := .int .i64 ((scanRd (((l))) (vrT ((l)) (bx) (yy) (vrT (l) (ax) (ay) (s1)))).2.1)) rfl s655) ⟨(fun i => (onB p) i ∨ ((onB g2) i)), (by rw [hR] <;> rfl), K650, ⟨B656, gr657⟩⟩
       ·replace c622 := of_decide_eq_false c622
        refine wq_skip ?_
        refine then_normal ?_
        refine wq_seq ?_
        have hR := h1.trans (by unfold rd4; exact if_pos (by first | assumption | (apply Decidable.byContradiction; assumption)))
        have hT0 := (show rdChT l k ax ay bx yy st = (rdCh l k ax ay bx yy st).2.2 from if_pos (by rw [hR]))
        rw [hR] at hT0
        dsimp only at hT0
        rw [← rdSt_ok (by first | assumption | (apply Decidable.byContradiction; assumption))] at hT0
        obtain ⟨g2, a1, b1, a2, b2, hf2, hT2, ho1, ho2, hp2, hq2, hg2, ap1_, ap2_, ap3_⟩ := rdx_pop0 B575
        have gr663 : Grew w0 (T_r) (onB p) := fun i h => gr564 i ((fun i h => (hT2 i).2 (Or.inl h)) i h)
        have ap666 : Apart (onB p) (onB p21) := fun i h => ap567 i ((fun i h => (hT2 i).2 (Or.inl h)) i h)
        have ap667 : Apart (onB p) (onB p123) := fun i h => ap568 i ((fun i h => (hT2 i).2 (Or.inl h)) i h)
        have gr673 : Grew w0 (T_r) (onB g2) := fun i h => gr564 i ((fun i h => (hT2 i).2 (Or.inr (Or.inr h))) i h)
        have ap676 : Apart (onB g2) (onB p21) := fun i h => ap567 i ((fun i h => (hT2 i).2 (Or.inr (Or.inr h))) i h)
        have ap679 : Apart (onB p) (onB g2) := ap2_
        refine wq_region ?_
        refine wl_v (.pointer (some ⟨p, 0, none⟩)) rfl rfl (y_mov rfl s601 ⟨rfl, rfl⟩) ?_
        refine wl_v (.agg #[.slice (some ⟨g2, 0, none⟩) l.length l.length, .int .i64 (((a2 : Nat) : Int)), .bool (b2)]) rfl rfl (y_load_stc stcT_reader rfl s611 hq2 ⟨rfl, rfl⟩) ?_
        refine wl_v (.pointer (some ⟨p, 0, none⟩)) rfl rfl (y_nilc rfl rfl ⟨rfl, rfl⟩) ?_
        refine wl_store_stc (us := [.slice (some ⟨g2, 0, none⟩) l.length l.length, .int .i64 (((a2 : Nat) : Int)), .bool (b2)]) stcT_reader rfl rfl rfl rfl rfl hp2 rfl (oneI rfl (oneI rfl (oneI rfl oneN))) fun w681 B682 k683 => ?_
        have B686 := B574.all k683 (fun x => (((ap666).symm) p21 rfl x))
        have B687 := B570.all k683 (fun x => (((ap667).symm) p123 rfl x))
        have B689 := hg2.all k683 (fun i h x => (((ap679).symm) i h x))
        have K690 := K576.trans k683 (Grew.ok (S := T_r) gr663 (fun _ x => x))
        refine wl_nil fun F691 hF692 => ?_
        have s693 := (hF692 68).trans s605
        have s694 := (hF692 8).trans s608
        have s695 := (hF692 11).trans s612
        clear hF692
        refine then_normal ?_
        refine wq_seq ?_
        refine wq_seq ?_
        refine wq_region ?_
        refine wl_v (.agg (chL m (vrX (l) (ax) (ay) (s1)) (vrY (l) (ax) (ay) (s1)) (vrX ((l)) (bx) (yy) (vrT (l) (ax) (ay) (s1))) (vrY ((l)) (bx) (yy) (vrT (l) (ax) (ay) (s1))) ((scanRd (((l))) (vrT ((l)) (bx) (yy) (vrT (l) (ax) (ay) (s1)))).1)).toArray) rfl rfl (y_load_stc stcT_choice rfl s695 B687 ⟨rfl, rfl⟩) ?_
        refine wl_store_stc (us := (chL m (vrX (l) (ax) (ay) (s1)) (vrY (l) (ax) (ay) (s1)) (vrX ((l)) (bx) (yy) (vrT (l) (ax) (ay) (s1))) (vrY ((l)) (bx) (yy) (vrT (l) (ax) (ay) (s1))) ((scanRd (((l))) (vrT ((l)) (bx) (yy) (vrT (l) (ax) (ay) (s1)))).1))) stcT_choice rfl rfl rfl s694 rfl B686 rfl (oneI rfl (oneI rfl (oneI rfl (oneI rfl (oneI rfl (oneI rfl (oneI rfl (oneI rfl (oneI rfl (oneI rfl (oneI rfl (oneI rfl (oneI rfl (oneI rfl (oneI rfl (oneI rfl (oneI rfl (oneI rfl (oneI rfl (oneI rfl (oneI rfl oneN))))))))))))))))))))) fun w696 B697 k698 => ?_
        have B702 := B682.all k698 (fun x => ((ap666) p rfl x))
        have B704 := B689.all k698 (fun i h x => ((ap676) i h x))
        have K705 := K690.trans k698 (Grew.ok (S := T_r) gr26 noB_le)
        refine wl_v (.int .i64 (0)) rfl rfl (y_asg rfl rfl ⟨rfl, rfl⟩) ?_
        refine wl_nil fun F706 hF707 => ?_
        have s708 := (hF707 68).trans s693
        have s709 := (hF707 8).trans s694
        have s710 : F706 9 = .int .i64 (0) := (hF707 9).trans rfl
        clear hF707
        refine then_normal ?_
        refine wq_ret ?_
        refine then_ret ?_
        refine jump_ret ?_
        have B711 : Rdi w696 (fun i => (onB p) i ∨ ((onB g2) i)) p (l) (rdChT l k ax ay bx yy st) := (by rw [hT0]; first | exact rdi_close hf2 ho1 B702 B704 ap679 | exact rdi_close hf2 ho2 B702 B704 ap679)
        have gr712 : Grew w0 (T_r) (fun i => (onB p) i ∨ ((onB g2) i)) := fun i h => h.elim (fun y => gr663 i y) (fun y => gr673 i y)
        exact end_2 s708 rfl (res_stc (vs := (chL m (vrX (l) (ax) (ay) (s1)) (vrY (l) (ax) (ay) (s1)) (vrX ((l)) (bx) (yy) (vrT (l) (ax) (ay) (s1))) (vrY ((l)) (bx) (yy) (vrT (l) (ax) (ay) (s1))) ((scanRd (((l))) (vrT ((l)) (bx) (yy) (vrT (l) (ax) (ay) (s1)))).1))) stcT_choice rfl s709 B697) (res_tmp (v := .int .i64 (0)) rfl s710) ⟨(fun i => (onB p) i ∨ ((onB g2) i)), (by rw [hR] <;> rfl), K705, ⟨B711, gr712⟩⟩
     ·skip
      refine wq_skip ?_
      refine then_normal ?_
      refine wq_seq ?_
      refine wq_seq ?_
      first | (rw [stV_no (has := nextB m) (by assumption)] at h1; replace h1 := h1.trans (by unfold rd3; exact if_pos rfl); (try dsimp only at h1)) | (have hv2 : vrE l bx yy (vrT l ax ay s1) = 0 := (by first | assumption | (apply Decidable.byContradiction; assumption)); replace h1 := h1.trans (by unfold rd3; exact if_pos hv2); (try dsimp only at h1); rw [← vrT_ok hv2] at h1) | (have hv2 : vrE l bx yy s1 = 0 := (by first | assumption | (apply Decidable.byContradiction; assumption)); replace h1 := h1.trans (by unfold rd3; exact if_pos hv2); (try dsimp only at h1); rw [← vrT_ok hv2] at h1)
      refine wq_region ?_
      refine wl_call (R := fun v_ w_ => ∃ (T720 : Nat → Prop), .tuple #[blkV ((scanRd ((l)) (vrT (l) (ax) (ay) (s1))).1), .int .i64 ((scanRd ((l)) (vrT (l) (ax) (ay) (s1))).2.1)] = v_ ∧ Kept (T325) w338 w_ ∧ (Rdx w_ T720 p66 (((l))) (rdSt ((l)) (vrT (l) (ax) (ay) (s1))) ((([(p, st)]))) ∧ Grew w338 (T325) T720)) rfl rfl (y_cs rfl rfl rfl (fun _ _ => by kernel_rfl) (ev_func _) (vsC s438 vsN) (scan_readX (p66) ((l)) (vrT (l) (ax) (ay) (s1)) (([(p, st)])) (T325) _ (hO.but K345 (ovO hG)) (ovO (aboveN2 gr333 hG hA)) B344 ) (fun e_ w_ h_ => by obtain ⟨T720_, he_, hr_⟩ := h_; exact ⟨_, he_, T720_, rfl, hr_⟩)) ?_
      rintro _ w718 ⟨T720, rfl, k719, ⟨B721, g722⟩⟩
      have B725 := B343.all k719 (fun x => (((ap336).symm) p21 rfl x))
      have B726 := B339.all k719 (fun x => (((ap337).symm) p123 rfl x))
      have K727 := K345.trans k719 (fun i hi x => ((Grew.ok (S := T_r) gr333 (fun _ x => x)) i hi x))
      have gr728 := gr333.trans K345 g722
      have ap731 : Apart T720 (onB p21) := (ap336).grew g722 (onB_live (B343).lt)
      have ap732 : Apart T720 (onB p123) := (ap337).grew g722 (onB_live (B339).lt)
      refine wl_v (.tuple #[blkV ((scanRd ((l)) (vrT (l) (ax) (ay) (s1))).1), .int .i64 ((scanRd ((l)) (vrT (l) (ax) (ay) (s1))).2.1)]) rfl rfl (y_mov rfl rfl ⟨rfl, rfl⟩) ?_
      refine wl_v (blkV ((scanRd ((l)) (vrT (l) (ax) (ay) (s1))).1)) rfl rfl (y_ext rfl rfl rfl ⟨rfl, rfl⟩) ?_
      refine wl_v (.int .i64 ((scanRd ((l)) (vrT (l) (ax) (ay) (s1))).2.1)) rfl rfl (y_ext rfl rfl rfl ⟨rfl, rfl⟩) ?_
      refine wl_v (.pointer (some ⟨p123, 5, none⟩)) rfl rfl (y_fieldR (n := 16) rfl s439 Tryz.underlying31 rfl (by kernel_rfl) (by decide) rfl ⟨rfl, rfl⟩) ?_
      refine wl_setPart (us := arrL 16 ((scanRd ((l)) (vrT (l) (ax) (ay) (s1))).1)) (ns := (chL m (vrX (l) (ax) (ay) (s1)) (vrY (l) (ax) (ay) (s1)) 0 0 ((scanRd ((l)) (vrT (l) (ax) (ay) (s1))).1))) stcT_block rfl rfl rfl rfl rfl B726 (Nat.le_of_ble_eq_true rfl) (one_arrL _ _) rfl fun w733 B734 k735 => ?_
      have B738 := B725.all k735 (fun x => (((ap131).symm) p21 rfl x))
      have B739 := B721.all k735 (fun i h x => ((ap732) i h x))
      have K740 := K727.trans k735 (Grew.ok (S := T_r) gr128 noB_le)
      refine wl_v (.int .i64 ((scanRd ((l)) (vrT (l) (ax) (ay) (s1))).2.1)) rfl rfl (y_asg rfl rfl ⟨rfl, rfl⟩) ?_
      refine wl_nil fun F741 hF742 => ?_
      have s743 := (hF742 0).trans s428
      have s747 := (hF742 68).trans s432
      have s750 := (hF742 8).trans s435
      have s753 := (hF742 10).trans s438
      have s754 := (hF742 11).trans s439
      have s761 : F741 14 = .int .i64 ((scanRd ((l)) (vrT (l) (ax) (ay) (s1))).2.1) := (hF742 14).trans rfl
      clear hF742
      refine then_normal ?_
      refine wq_seq ?_
      refine wq_region ?_
      refine wl_v (.int .i64 ((scanRd ((l)) (vrT (l) (ax) (ay) (s1))).2.1)) rfl rfl (y_mov rfl s761 ⟨rfl, rfl⟩) ?_
      refine wl_v (.bool (decide (((scanRd ((l)) (vrT (l) (ax) (ay) (s1))).2.1) ≠ (0)))) rfl rfl (y_neqI rfl rfl rfl rfl ⟨rfl, rfl⟩) ?_
      refine wl_nil fun F762 hF763 => ?_
      have s764 := (hF763 0).trans s743
      have s768 := (hF763 68).trans s747
      have s771 := (hF763 8).trans s750
      have s774 := (hF763 10).trans s753
      have s775 := (hF763 11).trans s754
      have s782 := (hF763 14).trans s761
      have s783 : F762 61 = .bool (decide (((scanRd ((l)) (vrT (l) (ax) (ay) (s1))).2.1) ≠ (0))) := (hF763 61).trans rfl
      clear hF763
      refine then_normal ?_
      refine wq_cond s783 (fun c784 => ?_) (fun c784 => ?_)
      ·replace c784 := of_decide_eq_true c784
       refine wq_goto ?_
       refine then_goto ?_
       refine jump_goto ⟨_, rfl, ?_⟩
       refine wq_seq ?_
       refine wq_skip ?_
       refine then_normal ?_
       refine wq_seq ?_
       first | have hR := h1.trans (by unfold rd2; exact if_neg (by assumption)) | have hR := h1.trans (by unfold rd3; exact if_neg (by assumption)) | have hR := h1.trans (by unfold rd4; exact if_neg (by assumption)) | (have hRR := rdCh_no (l := l) (k := k) (ax := ax) (ay := ay) (bx := bx) (yy := yy) hm hs1 (by first | exact Or.inl (by assumption) | exact Or.inr (by assumption)); obtain ⟨s9, hR⟩ := hRR)
       have hT0 : rdChT l k ax ay bx yy st = st := by unfold rdChT; rw [hR]; exact if_neg (by first | assumption | (intro z; exact absurd (show (120 : Int) = 0 from z) (by decide)))
       obtain ⟨g2, a1, b1, a2, b2, hf2, hT2, ho1, ho2, hp2, hq2, hg2, ap1_, ap2_, ap3_⟩ := rdx_pop0 B739
       have gr785 : Grew w0 (T_r) (onB p) := fun i h => gr728 i ((fun i h => (hT2 i).2 (Or.inl h)) i h)
       have ap788 : Apart (onB p) (onB p21) := fun i h => ap731 i ((fun i h => (hT2 i).2 (Or.inl h)) i h)
       have gr795 : Grew w0 (T_r) (onB g2) := fun i h => gr728 i ((fun i h => (hT2 i).2 (Or.inr (Or.inr h))) i h)
       have ap798 : Apart (onB g2) (onB p21) := fun i h => ap731 i ((fun i h => (hT2 i).2 (Or.inr (Or.inr h))) i h)
       have ap801 : Apart (onB p) (onB g2) := ap2_
       refine wq_region ?_
       refine wl_v (.agg (chL 0 0 0 0 0 (fun _ => (0 : Int))).toArray) rfl rfl (y_buildL (l' := []) (cells := (chL 0 0 0 0 0 (fun _ => (0 : Int))).toArray) rfl bpN (by kernel_rfl) rfl ⟨rfl, rfl⟩) ?_
       refine wl_v (.int .i64 ((scanRd ((l)) (vrT (l) (ax) (ay) (s1))).2.1)) rfl rfl (y_mov rfl s782 ⟨rfl, rfl⟩) ?_
       refine wl_store_stc (us := (chL 0 0 0 0 0 (fun _ => (0 : Int)))) stcT_choice rfl rfl rfl s771 rfl B738 rfl (oneI rfl (oneI rfl (oneI rfl (oneI rfl (oneI rfl (oneI rfl (oneI rfl (oneI rfl (oneI rfl (oneI rfl (oneI rfl (oneI rfl (oneI rfl (oneI rfl (oneI rfl (oneI rfl (oneI rfl (oneI rfl (oneI rfl (oneI rfl (oneI rfl oneN))))))))))))))))))))) fun w803 B804 k805 => ?_
       have B809 := hp2.all k805 (fun x => ((ap788) p rfl x))
       have B811 := hg2.all k805 (fun i h x => ((ap798) i h x))
       have K812 := K740.trans k805 (Grew.ok (S := T_r) gr26 noB_le)
       refine wl_v (.int .i64 ((scanRd ((l)) (vrT (l) (ax) (ay) (s1))).2.1)) rfl rfl (y_asg rfl rfl ⟨rfl, rfl⟩) ?_
       refine wl_nil fun F813 hF814 => ?_
       have s815 := (hF814 68).trans s768
       have s816 := (hF814 8).trans s771
       have s817 : F813 9 = .int .i64 ((scanRd ((l)) (vrT (l) (ax) (ay) (s1))).2.1) := (hF814 9).trans rfl
       clear hF814
       refine then_normal ?_
       refine wq_ret ?_
       refine stay_ret ?_
       have B818 : Rdi w803 (fun i => (onB p) i ∨ ((onB g2) i)) p (l) (rdChT l k ax ay bx yy st) := (by rw [hT0]; first | exact rdi_close hf2 ho1 B809 B811 ap801 | exact rdi_close hf2 ho2 B809 B811 ap801)
       have gr819 : Grew w0 (T_r) (fun i => (onB p) i ∨ ((onB g2) i)) := fun i h => h.elim (fun y => gr785 i y) (fun y => gr795 i y)
       exact end_2 s815 rfl (res_stc (vs := (chL 0 0 0 0 0 (fun _ => (0 : Int)))) stcT_choice rfl s816 B804) (res_tmp (v := .int .i64 ((scanRd ((l)) (vrT (l) (ax) (ay) (s1))).2.1)) rfl s817) ⟨(fun i => (onB p) i ∨ ((onB g2) i)), (by rw [hR] <;> rfl), K812, ⟨B818, gr819⟩⟩
      ·replace c784 := of_decide_eq_false c784
       refine wq_skip ?_
       refine then_normal ?_
       refine wq_seq ?_
       have hR := h1.trans (by unfold rd4; exact if_pos (by first | assumption | (apply Decidable.byContradiction; assumption)))
       have hT0 := (show rdChT l k ax ay bx yy st = (rdCh l k ax ay bx yy st).2.2 from if_pos (by rw [hR]))
       rw [hR] at hT0
       dsimp only at hT0
       rw [← rdSt_ok (by first | assumption | (apply Decidable.byContradiction; assumption))] at hT0
       obtain ⟨g2, a1, b1, a2, b2, hf2, hT2, ho1, ho2, hp2, hq2, hg2, ap1_, ap2_, ap3_⟩ := rdx_pop0 B739
       have gr825 : Grew w0 (T_r) (onB p) := fun i h => gr728 i ((fun i h => (hT2 i).2 (Or.inl h)) i h)
       have ap828 : Apart (onB p) (onB p21) := fun i h => ap731 i ((fun i h => (hT2 i).2 (Or.inl h)) i h)
       have ap829 : Apart (onB p) (onB p123) := fun i h => ap732 i ((fun i h => (hT2 i).2 (Or.inl h)) i h)
       have gr835 : Grew w0 (T_r) (onB g2) := fun i h => gr728 i ((fun i h => (hT2 i).2 (Or.inr (Or.inr h))) i h)
       have ap838 : Apart (onB g2) (onB p21) := fun i h => ap731 i ((fun i h => (hT2 i).2 (Or.inr (Or.inr h))) i h)
       have ap841 : Apart (onB p) (onB g2) := ap2_
       refine wq_region ?_
       refine wl_v (.pointer (some ⟨p, 0, none⟩)) rfl rfl (y_mov rfl s764 ⟨rfl, rfl⟩) ?_
       refine wl_v (.agg #[.slice (some ⟨g2, 0, none⟩) l.length l.length, .int .i64 (((a2 : Nat) : Int)), .bool (b2)]) rfl rfl (y_load_stc stcT_reader rfl s774 hq2 ⟨rfl, rfl⟩) ?_
       refine wl_v (.pointer (some ⟨p, 0, none⟩)) rfl rfl (y_nilc rfl rfl ⟨rfl, rfl⟩) ?_
       refine wl_store_stc (us := [.slice (some ⟨g2, 0, none⟩) l.length l.length, .int .i64 (((a2 : Nat) : Int)), .bool (b2)]) stcT_reader rfl rfl rfl rfl rfl hp2 rfl (oneI rfl (oneI rfl (oneI rfl oneN))) fun w843 B844 k845 => ?_
       have B848 := B738.all k845 (fun x => (((ap828).symm) p21 rfl x))
       have B849 := B734.all k845 (fun x => (((ap829).symm) p123 rfl x))
       have B851 := hg2.all k845 (fun i h x => (((ap841).symm) i h x))
       have K852 := K740.trans k845 (Grew.ok (S := T_r) gr825 (fun _ x => x))
       refine wl_nil fun F853 hF854 => ?_
       have s855 := (hF854 68).trans s768
       have s856 := (hF854 8).trans s771
       have s857 := (hF854 11).trans s775
       clear hF854
       refine then_normal ?_
       refine wq_seq ?_
       refine wq_seq ?_
       refine wq_region ?_
       refine wl_v (.agg (chL m (vrX (l) (ax) (ay) (s1)) (vrY (l) (ax) (ay) (s1)) 0 0 ((scanRd ((l)) (vrT (l) (ax) (ay) (s1))).1)).toArray) rfl rfl (y_load_stc stcT_choice rfl s857 B849 ⟨rfl, rfl⟩) ?_
       refine wl_store_stc (us := (chL m (vrX (l) (ax) (ay) (s1)) (vrY (l) (ax) (ay) (s1)) 0 0 ((scanRd ((l)) (vrT (l) (ax) (ay) (s1))).1))) stcT_choice rfl rfl rfl s856 rfl B848 rfl (oneI rfl (oneI rfl (oneI rfl (oneI rfl (oneI rfl (oneI rfl (oneI rfl (oneI rfl (oneI rfl (oneI rfl (oneI rfl (oneI rfl (oneI rfl (oneI rfl (oneI rfl (oneI rfl (oneI rfl (oneI rfl (oneI rfl (oneI rfl (oneI rfl oneN))))))))))))))))))))) fun w858 B859 k860 => ?_
       have B864 := B844.all k860 (fun x => ((ap828) p rfl x))
       have B866 := B851.all k860 (fun i h x => ((ap838) i h x))
       have K867 := K852.trans k860 (Grew.ok (S := T_r) gr26 noB_le)
       refine wl_v (.int .i64 (0)) rfl rfl (y_asg rfl rfl ⟨rfl, rfl⟩) ?_
       refine wl_nil fun F868 hF869 => ?_
       have s870 := (hF869 68).trans s855
       have s871 := (hF869 8).trans s856
       have s872 : F868 9 = .int .i64 (0) := (hF869 9).trans rfl
       clear hF869
       refine then_normal ?_
       refine wq_ret ?_
       refine then_ret ?_
       refine jump_ret ?_
       have B873 : Rdi w858 (fun i => (onB p) i ∨ ((onB g2) i)) p (l) (rdChT l k ax ay bx yy st) := (by rw [hT0]; first | exact rdi_close hf2 ho1 B864 B866 ap841 | exact rdi_close hf2 ho2 B864 B866 ap841)
       have gr874 : Grew w0 (T_r) (fun i => (onB p) i ∨ ((onB g2) i)) := fun i h => h.elim (fun y => gr825 i y) (fun y => gr835 i y)
       exact end_2 s870 rfl (res_stc (vs := (chL m (vrX (l) (ax) (ay) (s1)) (vrY (l) (ax) (ay) (s1)) 0 0 ((scanRd ((l)) (vrT (l) (ax) (ay) (s1))).1))) stcT_choice rfl s871 B859) (res_tmp (v := .int .i64 (0)) rfl s872) ⟨(fun i => (onB p) i ∨ ((onB g2) i)), (by rw [hR] <;> rfl), K867, ⟨B873, gr874⟩⟩
   ·skip
    refine wq_skip ?_
    refine then_normal ?_
    refine wq_seq ?_
    refine wq_seq ?_
    first | (rw [stV_no (has := pastB m) (by assumption)] at h1; replace h1 := h1.trans (by unfold rd2; exact if_pos rfl); (try dsimp only at h1)) | (have hv1 : vrE l ax ay s1 = 0 := (by first | assumption | (apply Decidable.byContradiction; assumption)); replace h1 := h1.trans (by unfold rd2; exact if_pos hv1); (try dsimp only at h1); rw [← vrT_ok hv1] at h1)
    refine wq_region ?_
    refine wl_v (.bool (nextB (m))) rfl rfl (y_mov rfl s319 ⟨rfl, rfl⟩) ?_
    refine wl_nil fun F880 hF881 => ?_
    have s882 := (hF881 0).trans s306
    have s886 := (hF881 68).trans s310
    have s888 := (hF881 7).trans s312
    have s889 := (hF881 8).trans s313
    have s892 := (hF881 10).trans s316
    have s893 := (hF881 11).trans s317
    have s898 : F880 46 = .bool (nextB (m)) := (hF881 46).trans rfl
    clear hF881
    refine then_normal ?_
    refine wq_cond s898 (fun c899 => ?_) (fun c899 => ?_)
    ·skip
     refine wq_seq ?_
     rw [stV_yes (has := nextB m) (by assumption)] at h1
     refine wq_region ?_
     refine wl_v (.agg #[.int .i64 (bx), .int .i64 (yy)]) rfl rfl (y_load_stc stcT_vector rfl s888 B281 ⟨rfl, rfl⟩) ?_
     refine wl_call (R := fun v_ w_ => ∃ (T902 : Nat → Prop), .tuple #[.agg #[.int .i64 (vrX (l) (bx) (yy) (s1)), .int .i64 (vrY (l) (bx) (yy) (s1))], .int .i64 (vrE (l) (bx) (yy) (s1))] = v_ ∧ Kept (T112) w278 w_ ∧ (Rdx w_ T902 p66 ((l)) (vrT (l) (bx) (yy) (s1)) (([(p, st)])) ∧ Grew w278 (T112) T902)) rfl rfl (y_cs rfl rfl rfl (fun _ _ => by kernel_rfl) (ev_func _) (vsC s892 (vsC rfl vsN)) (vt_readX (p66) (l) (s1) ([(p, st)]) (bx) (yy) (T112) _  B283 ) (fun e_ w_ h_ => by obtain ⟨T902_, he_, hr_⟩ := h_; exact ⟨_, he_, T902_, rfl, hr_⟩)) ?_
     rintro _ w900 ⟨T902, rfl, k901, ⟨B903, g904⟩⟩
     have B907 := B282.all k901 (fun x => (((ap122).symm) p21 rfl x))
     have B908 := B284.all k901 (fun x => ((ap132) p123 rfl x))
     have K909 := K285.trans k901 (fun i hi x => ((Grew.ok (S := T_r) gr119 (fun _ x => x)) i hi x))
     have gr910 := gr119.trans K285 g904
     have ap913 : Apart T902 (onB p21) := (ap122).grew g904 (onB_live (B282).lt)
     have ap914 : Apart T902 (onB p123) := ((ap132).symm).grew g904 (onB_live (B284).lt)
     refine wl_v (.tuple #[.agg #[.int .i64 (vrX (l) (bx) (yy) (s1)), .int .i64 (vrY (l) (bx) (yy) (s1))], .int .i64 (vrE (l) (bx) (yy) (s1))]) rfl rfl (y_mov rfl rfl ⟨rfl, rfl⟩) ?_
     refine wl_v (.agg #[.int .i64 (vrX (l) (bx) (yy) (s1)), .int .i64 (vrY (l) (bx) (yy) (s1))]) rfl rfl (y_ext rfl rfl rfl ⟨rfl, rfl⟩) ?_
     refine wl_v (.int .i64 (vrE (l) (bx) (yy) (s1))) rfl rfl (y_ext rfl rfl rfl ⟨rfl, rfl⟩) ?_
     refine wl_v (.pointer (some ⟨p123, 3, none⟩)) rfl rfl (y_fieldR (n := 2) rfl s893 Tryz.underlying31 rfl (by kernel_rfl) (by decide) rfl ⟨rfl, rfl⟩) ?_
     refine wl_setPart (us := [.int .i64 (vrX (l) (bx) (yy) (s1)), .int .i64 (vrY (l) (bx) (yy) (s1))]) (ns := (chL m 0 0 (vrX (l) (bx) (yy) (s1)) (vrY (l) (bx) (yy) (s1)) (fun _ => (0 : Int)))) stcT_vector rfl rfl rfl rfl rfl B908 (Nat.le_of_ble_eq_true rfl) (oneI rfl (oneI rfl oneN)) rfl fun w915 B916 k917 => ?_
     have B920 := B907.all k917 (fun x => (((ap131).symm) p21 rfl x))
     have B921 := B903.all k917 (fun i h x => ((ap914) i h x))
     have K922 := K909.trans k917 (Grew.ok (S := T_r) gr128 noB_le)
     refine wl_v (.int .i64 (vrE (l) (bx) (yy) (s1))) rfl rfl (y_asg rfl rfl ⟨rfl, rfl⟩) ?_
     refine wl_nil fun F923 hF924 => ?_
     have s925 := (hF924 0).trans s882
     have s929 := (hF924 68).trans s886
     have s932 := (hF924 8).trans s889
     have s935 := (hF924 10).trans s892
     have s936 := (hF924 11).trans s893
     have s942 : F923 14 = .int .i64 (vrE (l) (bx) (yy) (s1)) := (hF924 14).trans rfl
     clear hF924
     refine then_normal ?_
     refine wq_seq ?_
     refine wq_region ?_
     refine wl_v (.int .i64 (vrE (l) (bx) (yy) (s1))) rfl rfl (y_mov rfl s942 ⟨rfl, rfl⟩) ?_
     refine wl_v (.bool (decide ((vrE (l) (bx) (yy) (s1)) ≠ (0)))) rfl rfl (y_neqI rfl rfl rfl rfl ⟨rfl, rfl⟩) ?_
     refine wl_nil fun F943 hF944 => ?_
     have s945 := (hF944 0).trans s925
     have s949 := (hF944 68).trans s929
     have s952 := (hF944 8).trans s932
     have s955 := (hF944 10).trans s935
     have s956 := (hF944 11).trans s936
     have s962 := (hF944 14).trans s942
     have s963 : F943 54 = .bool (decide ((vrE (l) (bx) (yy) (s1)) ≠ (0))) := (hF944 54).trans rfl
     clear hF944
     refine then_normal ?_
     refine wq_cond s963 (fun c964 => ?_) (fun c964 => ?_)
     ·replace c964 := of_decide_eq_true c964
      refine wq_goto ?_
      refine then_goto ?_
      refine jump_goto ⟨_, rfl, ?_⟩
      refine wq_seq ?_
      refine wq_skip ?_
      refine then_normal ?_
      refine wq_seq ?_
      first | have hR := h1.trans (by unfold rd2; exact if_neg (by assumption)) | have hR := h1.trans (by unfold rd3; exact if_neg (by assumption)) | have hR := h1.trans (by unfold rd4; exact if_neg (by assumption)) | (have hRR := rdCh_no (l := l) (k := k) (ax := ax) (ay := ay) (bx := bx) (yy := yy) hm hs1 (by first | exact Or.inl (by assumption) | exact Or.inr (by assumption)); obtain ⟨s9, hR⟩ := hRR)
      have hT0 : rdChT l k ax ay bx yy st = st := by unfold rdChT; rw [hR]; exact if_neg (by first | assumption | (intro z; exact absurd (show (120 : Int) = 0 from z) (by decide)))
      obtain ⟨g2, a1, b1, a2, b2, hf2, hT2, ho1, ho2, hp2, hq2, hg2, ap1_, ap2_, ap3_⟩ := rdx_pop0 B921
      have gr965 : Grew w0 (T_r) (onB p) := fun i h => gr910 i ((fun i h => (hT2 i).2 (Or.inl h)) i h)
      have ap968 : Apart (onB p) (onB p21) := fun i h => ap913 i ((fun i h => (hT2 i).2 (Or.inl h)) i h)
      have gr975 : Grew w0 (T_r) (onB g2) := fun i h => gr910 i ((fun i h => (hT2 i).2 (Or.inr (Or.inr h))) i h)
      have ap978 : Apart (onB g2) (onB p21) := fun i h => ap913 i ((fun i h => (hT2 i).2 (Or.inr (Or.inr h))) i h)
      have ap981 : Apart (onB p) (onB g2) := ap2_
      refine wq_region ?_
      refine wl_v (.agg (chL 0 0 0 0 0 (fun _ => (0 : Int))).toArray) rfl rfl (y_buildL (l' := []) (cells := (chL 0 0 0 0 0 (fun _ => (0 : Int))).toArray) rfl bpN (by kernel_rfl) rfl ⟨rfl, rfl⟩) ?_
      refine wl_v (.int .i64 (vrE (l) (bx) (yy) (s1))) rfl rfl (y_mov rfl s962 ⟨rfl, rfl⟩) ?_
      refine wl_store_stc (us := (chL 0 0 0 0 0 (fun _ => (0 : Int)))) stcT_choice rfl rfl rfl s952 rfl B920 rfl (oneI rfl (oneI rfl (oneI rfl (oneI rfl (oneI rfl (oneI rfl (oneI rfl (oneI rfl (oneI rfl (oneI rfl (oneI rfl (oneI rfl (oneI rfl (oneI rfl (oneI rfl (oneI rfl (oneI rfl (oneI rfl (oneI rfl (oneI rfl (oneI rfl oneN))))))))))))))))))))) fun w983 B984 k985 => ?_
      have B989 := hp2.all k985 (fun x => ((ap968) p rfl x))
      have B991 := hg2.all k985 (fun i h x => ((ap978) i h x))
      have K992 := K922.trans k985 (Grew.ok (S := T_r) gr26 noB_le)
      refine wl_v (.int .i64 (vrE (l) (bx) (yy) (s1))) rfl rfl (y_asg rfl rfl ⟨rfl, rfl⟩) ?_
      refine wl_nil fun F993 hF994 => ?_
      have s995 := (hF994 68).trans s949
      have s996 := (hF994 8).trans s952
      have s997 : F993 9 = .int .i64 (vrE (l) (bx) (yy) (s1)) := (hF994 9).trans rfl
      clear hF994
      refine then_normal ?_
      refine wq_ret ?_
      refine stay_ret ?_
      have B998 : Rdi w983 (fun i => (onB p) i ∨ ((onB g2) i)) p (l) (rdChT l k ax ay bx yy st) := (by rw [hT0]; first | exact rdi_close hf2 ho1 B989 B991 ap981 | exact rdi_close hf2 ho2 B989 B991 ap981)
      have gr999 : Grew w0 (T_r) (fun i => (onB p) i ∨ ((onB g2) i)) := fun i h => h.elim (fun y => gr965 i y) (fun y => gr975 i y)
      exact end_2 s995 rfl (res_stc (vs := (chL 0 0 0 0 0 (fun _ => (0 : Int)))) stcT_choice rfl s996 B984) (res_tmp (v := .int .i64 (vrE (l) (bx) (yy) (s1))) rfl s997) ⟨(fun i => (onB p) i ∨ ((onB g2) i)), (by rw [hR] <;> rfl), K992, ⟨B998, gr999⟩⟩
     ·replace c964 := of_decide_eq_false c964
      refine wq_skip ?_
      refine then_normal ?_
      refine wq_seq ?_
      refine wq_seq ?_
      first | (rw [stV_no (has := nextB m) (by assumption)] at h1; replace h1 := h1.trans (by unfold rd3; exact if_pos rfl); (try dsimp only at h1)) | (have hv2 : vrE l bx yy (vrT l ax ay s1) = 0 := (by first | assumption | (apply Decidable.byContradiction; assumption)); replace h1 := h1.trans (by unfold rd3; exact if_pos hv2); (try dsimp only at h1); rw [← vrT_ok hv2] at h1) | (have hv2 : vrE l bx yy s1 = 0 := (by first | assumption | (apply Decidable.byContradiction; assumption)); replace h1 := h1.trans (by unfold rd3; exact if_pos hv2); (try dsimp only at h1); rw [← vrT_ok hv2] at h1)
      refine wq_region ?_
      refine wl_call (R := fun v_ w_ => ∃ (T1007 : Nat → Prop), .tuple #[blkV ((scanRd ((l)) (vrT (l) (bx) (yy) (s1))).1), .int .i64 ((scanRd ((l)) (vrT (l) (bx) (yy) (s1))).2.1)] = v_ ∧ Kept (T902) w915 w_ ∧ (Rdx w_ T1007 p66 (((l))) (rdSt ((l)) (vrT (l) (bx) (yy) (s1))) ((([(p, st)]))) ∧ Grew w915 (T902) T1007)) rfl rfl (y_cs rfl rfl rfl (fun _ _ => by kernel_rfl) (ev_func _) (vsC s955 vsN) (scan_readX (p66) ((l)) (vrT (l) (bx) (yy) (s1)) (([(p, st)])) (T902) _ (hO.but K922 (ovO hG)) (ovO (aboveN2 gr910 hG hA)) B921 ) (fun e_ w_ h_ => by obtain ⟨T1007_, he_, hr_⟩ := h_; exact ⟨_, he_, T1007_, rfl, hr_⟩)) ?_
      rintro _ w1005 ⟨T1007, rfl, k1006, ⟨B1008, g1009⟩⟩
      have B1012 := B920.all k1006 (fun x => (((ap913).symm) p21 rfl x))
      have B1013 := B916.all k1006 (fun x => (((ap914).symm) p123 rfl x))
      have K1014 := K922.trans k1006 (fun i hi x => ((Grew.ok (S := T_r) gr910 (fun _ x => x)) i hi x))
      have gr1015 := gr910.trans K922 g1009
      have ap1018 : Apart T1007 (onB p21) := (ap913).grew g1009 (onB_live (B920).lt)
      have ap1019 : Apart T1007 (onB p123) := (ap914).grew g1009 (onB_live (B916).lt)
      refine wl_v (.tuple #[blkV ((scanRd ((l)) (vrT (l) (bx) (yy) (s1))).1), .int .i64 ((scanRd ((l)) (vrT (l) (bx) (yy) (s1))).2.1)]) rfl rfl (y_mov rfl rfl ⟨rfl, rfl⟩) ?_
      refine wl_v (blkV ((scanRd ((l)) (vrT (l) (bx) (yy) (s1))).1)) rfl rfl (y_ext rfl rfl rfl ⟨rfl, rfl⟩) ?_
      refine wl_v (.int .i64 ((scanRd ((l)) (vrT (l) (bx) (yy) (s1))).2.1)) rfl rfl (y_ext rfl rfl rfl ⟨rfl, rfl⟩) ?_
      refine wl_v (.pointer (some ⟨p123, 5, none⟩)) rfl rfl (y_fieldR (n := 16) rfl s956 Tryz.underlying31 rfl (by kernel_rfl) (by decide) rfl ⟨rfl, rfl⟩) ?_
      refine wl_setPart (us := arrL 16 ((scanRd ((l)) (vrT (l) (bx) (yy) (s1))).1)) (ns := (chL m 0 0 (vrX (l) (bx) (yy) (s1)) (vrY (l) (bx) (yy) (s1)) ((scanRd ((l)) (vrT (l) (bx) (yy) (s1))).1))) stcT_block rfl rfl rfl rfl rfl B1013 (Nat.le_of_ble_eq_true rfl) (one_arrL _ _) rfl fun w1020 B1021 k1022 => ?_
      have B1025 := B1012.all k1022 (fun x => (((ap131).symm) p21 rfl x))
      have B1026 := B1008.all k1022 (fun i h x => ((ap1019) i h x))
      have K1027 := K1014.trans k1022 (Grew.ok (S := T_r) gr128 noB_le)
      refine wl_v (.int .i64 ((scanRd ((l)) (vrT (l) (bx) (yy) (s1))).2.1)) rfl rfl (y_asg rfl rfl ⟨rfl, rfl⟩) ?_
      refine wl_nil fun F1028 hF1029 => ?_
      have s1030 := (hF1029 0).trans s945
      have s1034 := (hF1029 68).trans s949
      have s1037 := (hF1029 8).trans s952
      have s1040 := (hF1029 10).trans s955
      have s1041 := (hF1029 11).trans s956
      have s1048 : F1028 14 = .int .i64 ((scanRd ((l)) (vrT (l) (bx) (yy) (s1))).2.1) := (hF1029 14).trans rfl
      clear hF1029
      refine then_normal ?_
      refine wq_seq ?_
      refine wq_region ?_
      refine wl_v (.int .i64 ((scanRd ((l)) (vrT (l) (bx) (yy) (s1))).2.1)) rfl rfl (y_mov rfl s1048 ⟨rfl, rfl⟩) ?_
      refine wl_v (.bool (decide (((scanRd ((l)) (vrT (l) (bx) (yy) (s1))).2.1) ≠ (0)))) rfl rfl (y_neqI rfl rfl rfl rfl ⟨rfl, rfl⟩) ?_
      refine wl_nil fun F1049 hF1050 => ?_
      have s1051 := (hF1050 0).trans s1030
      have s1055 := (hF1050 68).trans s1034
      have s1058 := (hF1050 8).trans s1037
      have s1061 := (hF1050 10).trans s1040
      have s1062 := (hF1050 11).trans s1041
      have s1069 := (hF1050 14).trans s1048
      have s1070 : F1049 61 = .bool (decide (((scanRd ((l)) (vrT (l) (bx) (yy) (s1))).2.1) ≠ (0))) := (hF1050 61).trans rfl
      clear hF1050
      refine then_normal ?_
      refine wq_cond s1070 (fun c1071 => ?_) (fun c1071 => ?_)
      ·replace c1071 := of_decide_eq_true c1071
       refine wq_goto ?_
       refine then_goto ?_
       refine jump_goto ⟨_, rfl, ?_⟩
       refine wq_seq ?_
       refine wq_skip ?_
       refine then_normal ?_
       refine wq_seq ?_
       first | have hR := h1.trans (by unfold rd2; exact if_neg (by assumption)) | have hR := h1.trans (by unfold rd3; exact if_neg (by assumption)) | have hR := h1.trans (by unfold rd4; exact if_neg (by assumption)) | (have hRR := rdCh_no (l := l) (k := k) (ax := ax) (ay := ay) (bx := bx) (yy := yy) hm hs1 (by first | exact Or.inl (by assumption) | exact Or.inr (by assumption)); obtain ⟨s9, hR⟩ := hRR)
       have hT0 : rdChT l k ax ay bx yy st = st := by unfold rdChT; rw [hR]; exact if_neg (by first | assumption | (intro z; exact absurd (show (120 : Int) = 0 from z) (by decide)))
       obtain ⟨g2, a1, b1, a2, b2, hf2, hT2, ho1, ho2, hp2, hq2, hg2, ap1_, ap2_, ap3_⟩ := rdx_pop0 B1026
       have gr1072 : Grew w0 (T_r) (onB p) := fun i h => gr1015 i ((fun i h => (hT2 i).2 (Or.inl h)) i h)
       have ap1075 : Apart (onB p) (onB p21) := fun i h => ap1018 i ((fun i h => (hT2 i).2 (Or.inl h)) i h)
       have gr1082 : Grew w0 (T_r) (onB g2) := fun i h => gr1015 i ((fun i h => (hT2 i).2 (Or.inr (Or.inr h))) i h)
       have ap1085 : Apart (onB g2) (onB p21) := fun i h => ap1018 i ((fun i h => (hT2 i).2 (Or.inr (Or.inr h))) i h)
       have ap1088 : Apart (onB p) (onB g2) := ap2_
       refine wq_region ?_
       refine wl_v (.agg (chL 0 0 0 0 0 (fun _ => (0 : Int))).toArray) rfl rfl (y_buildL (l' := []) (cells := (chL 0 0 0 0 0 (fun _ => (0 : Int))).toArray) rfl bpN (by kernel_rfl) rfl ⟨rfl, rfl⟩) ?_
       refine wl_v (.int .i64 ((scanRd ((l)) (vrT (l) (bx) (yy) (s1))).2.1)) rfl rfl (y_mov rfl s1069 ⟨rfl, rfl⟩) ?_
       refine wl_store_stc (us := (chL 0 0 0 0 0 (fun _ => (0 : Int)))) stcT_choice rfl rfl rfl s1058 rfl B1025 rfl (oneI rfl (oneI rfl (oneI rfl (oneI rfl (oneI rfl (oneI rfl (oneI rfl (oneI rfl (oneI rfl (oneI rfl (oneI rfl (oneI rfl (oneI rfl (oneI rfl (oneI rfl (oneI rfl (oneI rfl (oneI rfl (oneI rfl (oneI rfl (oneI rfl oneN))))))))))))))))))))) fun w1090 B1091 k1092 => ?_
       have B1096 := hp2.all k1092 (fun x => ((ap1075) p rfl x))
       have B1098 := hg2.all k1092 (fun i h x => ((ap1085) i h x))
       have K1099 := K1027.trans k1092 (Grew.ok (S := T_r) gr26 noB_le)
       refine wl_v (.int .i64 ((scanRd ((l)) (vrT (l) (bx) (yy) (s1))).2.1)) rfl rfl (y_asg rfl rfl ⟨rfl, rfl⟩) ?_
       refine wl_nil fun F1100 hF1101 => ?_
       have s1102 := (hF1101 68).trans s1055
       have s1103 := (hF1101 8).trans s1058
       have s1104 : F1100 9 = .int .i64 ((scanRd ((l)) (vrT (l) (bx) (yy) (s1))).2.1) := (hF1101 9).trans rfl
       clear hF1101
       refine then_normal ?_
       refine wq_ret ?_
       refine stay_ret ?_
       have B1105 : Rdi w1090 (fun i => (onB p) i ∨ ((onB g2) i)) p (l) (rdChT l k ax ay bx yy st) := (by rw [hT0]; first | exact rdi_close hf2 ho1 B1096 B1098 ap1088 | exact rdi_close hf2 ho2 B1096 B1098 ap1088)
       have gr1106 : Grew w0 (T_r) (fun i => (onB p) i ∨ ((onB g2) i)) := fun i h => h.elim (fun y => gr1072 i y) (fun y => gr1082 i y)
       exact end_2 s1102 rfl (res_stc (vs := (chL 0 0 0 0 0 (fun _ => (0 : Int)))) stcT_choice rfl s1103 B1091) (res_tmp (v := .int .i64 ((scanRd ((l)) (vrT (l) (bx) (yy) (s1))).2.1)) rfl s1104) ⟨(fun i => (onB p) i ∨ ((onB g2) i)), (by rw [hR] <;> rfl), K1099, ⟨B1105, gr1106⟩⟩
      ·replace c1071 := of_decide_eq_false c1071
       refine wq_skip ?_
       refine then_normal ?_
       refine wq_seq ?_
       have hR := h1.trans (by unfold rd4; exact if_pos (by first | assumption | (apply Decidable.byContradiction; assumption)))
       have hT0 := (show rdChT l k ax ay bx yy st = (rdCh l k ax ay bx yy st).2.2 from if_pos (by rw [hR]))
       rw [hR] at hT0
       dsimp only at hT0
       rw [← rdSt_ok (by first | assumption | (apply Decidable.byContradiction; assumption))] at hT0
       obtain ⟨g2, a1, b1, a2, b2, hf2, hT2, ho1, ho2, hp2, hq2, hg2, ap1_, ap2_, ap3_⟩ := rdx_pop0 B1026
       have gr1112 : Grew w0 (T_r) (onB p) := fun i h => gr1015 i ((fun i h => (hT2 i).2 (Or.inl h)) i h)
       have ap1115 : Apart (onB p) (onB p21) := fun i h => ap1018 i ((fun i h => (hT2 i).2 (Or.inl h)) i h)
       have ap1116 : Apart (onB p) (onB p123) := fun i h => ap1019 i ((fun i h => (hT2 i).2 (Or.inl h)) i h)
       have gr1122 : Grew w0 (T_r) (onB g2) := fun i h => gr1015 i ((fun i h => (hT2 i).2 (Or.inr (Or.inr h))) i h)
       have ap1125 : Apart (onB g2) (onB p21) := fun i h => ap1018 i ((fun i h => (hT2 i).2 (Or.inr (Or.inr h))) i h)
       have ap1128 : Apart (onB p) (onB g2) := ap2_
       refine wq_region ?_
       refine wl_v (.pointer (some ⟨p, 0, none⟩)) rfl rfl (y_mov rfl s1051 ⟨rfl, rfl⟩) ?_
       refine wl_v (.agg #[.slice (some ⟨g2, 0, none⟩) l.length l.length, .int .i64 (((a2 : Nat) : Int)), .bool (b2)]) rfl rfl (y_load_stc stcT_reader rfl s1061 hq2 ⟨rfl, rfl⟩) ?_
       refine wl_v (.pointer (some ⟨p, 0, none⟩)) rfl rfl (y_nilc rfl rfl ⟨rfl, rfl⟩) ?_
       refine wl_store_stc (us := [.slice (some ⟨g2, 0, none⟩) l.length l.length, .int .i64 (((a2 : Nat) : Int)), .bool (b2)]) stcT_reader rfl rfl rfl rfl rfl hp2 rfl (oneI rfl (oneI rfl (oneI rfl oneN))) fun w1130 B1131 k1132 => ?_
       have B1135 := B1025.all k1132 (fun x => (((ap1115).symm) p21 rfl x))
       have B1136 := B1021.all k1132 (fun x => (((ap1116).symm) p123 rfl x))
       have B1138 := hg2.all k1132 (fun i h x => (((ap1128).symm) i h x))
       have K1139 := K1027.trans k1132 (Grew.ok (S := T_r) gr1112 (fun _ x => x))
       refine wl_nil fun F1140 hF1141 => ?_
       have s1142 := (hF1141 68).trans s1055
       have s1143 := (hF1141 8).trans s1058
       have s1144 := (hF1141 11).trans s1062
       clear hF1141
       refine then_normal ?_
       refine wq_seq ?_
       refine wq_seq ?_
       refine wq_region ?_
       refine wl_v (.agg (chL m 0 0 (vrX (l) (bx) (yy) (s1)) (vrY (l) (bx) (yy) (s1)) ((scanRd ((l)) (vrT (l) (bx) (yy) (s1))).1)).toArray) rfl rfl (y_load_stc stcT_choice rfl s1144 B1136 ⟨rfl, rfl⟩) ?_
       refine wl_store_stc (us := (chL m 0 0 (vrX (l) (bx) (yy) (s1)) (vrY (l) (bx) (yy) (s1)) ((scanRd ((l)) (vrT (l) (bx) (yy) (s1))).1))) stcT_choice rfl rfl rfl s1143 rfl B1135 rfl (oneI rfl (oneI rfl (oneI rfl (oneI rfl (oneI rfl (oneI rfl (oneI rfl (oneI rfl (oneI rfl (oneI rfl (oneI rfl (oneI rfl (oneI rfl (oneI rfl (oneI rfl (oneI rfl (oneI rfl (oneI rfl (oneI rfl (oneI rfl (oneI rfl oneN))))))))))))))))))))) fun w1145 B1146 k1147 => ?_
       have B1151 := B1131.all k1147 (fun x => ((ap1115) p rfl x))
       have B1153 := B1138.all k1147 (fun i h x => ((ap1125) i h x))
       have K1154 := K1139.trans k1147 (Grew.ok (S := T_r) gr26 noB_le)
       refine wl_v (.int .i64 (0)) rfl rfl (y_asg rfl rfl ⟨rfl, rfl⟩) ?_
       refine wl_nil fun F1155 hF1156 => ?_
       have s1157 := (hF1156 68).trans s1142
       have s1158 := (hF1156 8).trans s1143
       have s1159 : F1155 9 = .int .i64 (0) := (hF1156 9).trans rfl
       clear hF1156
       refine then_normal ?_
       refine wq_ret ?_
       refine then_ret ?_
       refine jump_ret ?_
       have B1160 : Rdi w1145 (fun i => (onB p) i ∨ ((onB g2) i)) p (l) (rdChT l k ax ay bx yy st) := (by rw [hT0]; first | exact rdi_close hf2 ho1 B1151 B1153 ap1128 | exact rdi_close hf2 ho2 B1151 B1153 ap1128)
       have gr1161 : Grew w0 (T_r) (fun i => (onB p) i ∨ ((onB g2) i)) := fun i h => h.elim (fun y => gr1112 i y) (fun y => gr1122 i y)
       exact end_2 s1157 rfl (res_stc (vs := (chL m 0 0 (vrX (l) (bx) (yy) (s1)) (vrY (l) (bx) (yy) (s1)) ((scanRd ((l)) (vrT (l) (bx) (yy) (s1))).1))) stcT_choice rfl s1158 B1146) (res_tmp (v := .int .i64 (0)) rfl s1159) ⟨(fun i => (onB p) i ∨ ((onB g2) i)), (by rw [hR] <;> rfl), K1154, ⟨B1160, gr1161⟩⟩
    ·skip
     refine wq_skip ?_
     refine then_normal ?_
     refine wq_seq ?_
     refine wq_seq ?_
     first | (rw [stV_no (has := nextB m) (by assumption)] at h1; replace h1 := h1.trans (by unfold rd3; exact if_pos rfl); (try dsimp only at h1)) | (have hv2 : vrE l bx yy (vrT l ax ay s1) = 0 := (by first | assumption | (apply Decidable.byContradiction; assumption)); replace h1 := h1.trans (by unfold rd3; exact if_pos hv2); (try dsimp only at h1); rw [← vrT_ok hv2] at h1) | (have hv2 : vrE l bx yy s1 = 0 := (by first | assumption | (apply Decidable.byContradiction; assumption)); replace h1 := h1.trans (by unfold rd3; exact if_pos hv2); (try dsimp only at h1); rw [← vrT_ok hv2] at h1)
     refine wq_region ?_
     refine wl_call (R := fun v_ w_ => ∃ (T1169 : Nat → Prop), .tuple #[blkV ((scanRd (l) (s1)).1), .int .i64 ((scanRd (l) (s1)).2.1)] = v_ ∧ Kept (T112) w278 w_ ∧ (Rdx w_ T1169 p66 ((l)) (rdSt (l) (s1)) (([(p, st)])) ∧ Grew w278 (T112) T1169)) rfl rfl (y_cs rfl rfl rfl (fun _ _ => by kernel_rfl) (ev_func _) (vsC s892 vsN) (scan_readX (p66) (l) (s1) ([(p, st)]) (T112) _ (hO.but K285 (ovO hG)) (ovO (aboveN2 gr119 hG hA)) B283 ) (fun e_ w_ h_ => by obtain ⟨T1169_, he_, hr_⟩ := h_; exact ⟨_, he_, T1169_, rfl, hr_⟩)) ?_
     rintro _ w1167 ⟨T1169, rfl, k1168, ⟨B1170, g1171⟩⟩
     have B1174 := B282.all k1168 (fun x => (((ap122).symm) p21 rfl x))
     have B1175 := B284.all k1168 (fun x => ((ap132) p123 rfl x))
     have K1176 := K285.trans k1168 (fun i hi x => ((Grew.ok (S := T_r) gr119 (fun _ x => x)) i hi x))
     have gr1177 := gr119.trans K285 g1171
     have ap1180 : Apart T1169 (onB p21) := (ap122).grew g1171 (onB_live (B282).lt)
     have ap1181 : Apart T1169 (onB p123) := ((ap132).symm).grew g1171 (onB_live (B284).lt)
     refine wl_v (.tuple #[blkV ((scanRd (l) (s1)).1), .int .i64 ((scanRd (l) (s1)).2.1)]) rfl rfl (y_mov rfl rfl ⟨rfl, rfl⟩) ?_
     refine wl_v (blkV ((scanRd (l) (s1)).1)) rfl rfl (y_ext rfl rfl rfl ⟨rfl, rfl⟩) ?_
     refine wl_v (.int .i64 ((scanRd (l) (s1)).2.1)) rfl rfl (y_ext rfl rfl rfl ⟨rfl, rfl⟩) ?_
     refine wl_v (.pointer (some ⟨p123, 5, none⟩)) rfl rfl (y_fieldR (n := 16) rfl s893 Tryz.underlying31 rfl (by kernel_rfl) (by decide) rfl ⟨rfl, rfl⟩) ?_
     refine wl_setPart (us := arrL 16 ((scanRd (l) (s1)).1)) (ns := (chL m 0 0 0 0 ((scanRd (l) (s1)).1))) stcT_block rfl rfl rfl rfl rfl B1175 (Nat.le_of_ble_eq_true rfl) (one_arrL _ _) rfl fun w1182 B1183 k1184 => ?_
     have B1187 := B1174.all k1184 (fun x => (((ap131).symm) p21 rfl x))
     have B1188 := B1170.all k1184 (fun i h x => ((ap1181) i h x))
     have K1189 := K1176.trans k1184 (Grew.ok (S := T_r) gr128 noB_le)
     refine wl_v (.int .i64 ((scanRd (l) (s1)).2.1)) rfl rfl (y_asg rfl rfl ⟨rfl, rfl⟩) ?_
     refine wl_nil fun F1190 hF1191 => ?_
     have s1192 := (hF1191 0).trans s882
     have s1196 := (hF1191 68).trans s886
     have s1199 := (hF1191 8).trans s889
     have s1202 := (hF1191 10).trans s892
     have s1203 := (hF1191 11).trans s893
     have s1209 : F1190 14 = .int .i64 ((scanRd (l) (s1)).2.1) := (hF1191 14).trans rfl
     clear hF1191
     refine then_normal ?_
     refine wq_seq ?_
     refine wq_region ?_
     refine wl_v (.int .i64 ((scanRd (l) (s1)).2.1)) rfl rfl (y_mov rfl s1209 ⟨rfl, rfl⟩) ?_
     refine wl_v (.bool (decide (((scanRd (l) (s1)).2.1) ≠ (0)))) rfl rfl (y_neqI rfl rfl rfl rfl ⟨rfl, rfl⟩) ?_
     refine wl_nil fun F1210 hF1211 => ?_
     have s1212 := (hF1211 0).trans s1192
     have s1216 := (hF1211 68).trans s1196
     have s1219 := (hF1211 8).trans s1199
     have s1222 := (hF1211 10).trans s1202
     have s1223 := (hF1211 11).trans s1203
     have s1229 := (hF1211 14).trans s1209
     have s1230 : F1210 61 = .bool (decide (((scanRd (l) (s1)).2.1) ≠ (0))) := (hF1211 61).trans rfl
     clear hF1211
     refine then_normal ?_
     refine wq_cond s1230 (fun c1231 => ?_) (fun c1231 => ?_)
     ·replace c1231 := of_decide_eq_true c1231
      refine wq_goto ?_
      refine then_goto ?_
      refine jump_goto ⟨_, rfl, ?_⟩
      refine wq_seq ?_
      refine wq_skip ?_
      refine then_normal ?_
      refine wq_seq ?_
      first | have hR := h1.trans (by unfold rd2; exact if_neg (by assumption)) | have hR := h1.trans (by unfold rd3; exact if_neg (by assumption)) | have hR := h1.trans (by unfold rd4; exact if_neg (by assumption)) | (have hRR := rdCh_no (l := l) (k := k) (ax := ax) (ay := ay) (bx := bx) (yy := yy) hm hs1 (by first | exact Or.inl (by assumption) | exact Or.inr (by assumption)); obtain ⟨s9, hR⟩ := hRR)
      have hT0 : rdChT l k ax ay bx yy st = st := by unfold rdChT; rw [hR]; exact if_neg (by first | assumption | (intro z; exact absurd (show (120 : Int) = 0 from z) (by decide)))
      obtain ⟨g2, a1, b1, a2, b2, hf2, hT2, ho1, ho2, hp2, hq2, hg2, ap1_, ap2_, ap3_⟩ := rdx_pop0 B1188
      have gr1232 : Grew w0 (T_r) (onB p) := fun i h => gr1177 i ((fun i h => (hT2 i).2 (Or.inl h)) i h)
      have ap1235 : Apart (onB p) (onB p21) := fun i h => ap1180 i ((fun i h => (hT2 i).2 (Or.inl h)) i h)
      have gr1242 : Grew w0 (T_r) (onB g2) := fun i h => gr1177 i ((fun i h => (hT2 i).2 (Or.inr (Or.inr h))) i h)
      have ap1245 : Apart (onB g2) (onB p21) := fun i h => ap1180 i ((fun i h => (hT2 i).2 (Or.inr (Or.inr h))) i h)
      have ap1248 : Apart (onB p) (onB g2) := ap2_
      refine wq_region ?_
      refine wl_v (.agg (chL 0 0 0 0 0 (fun _ => (0 : Int))).toArray) rfl rfl (y_buildL (l' := []) (cells := (chL 0 0 0 0 0 (fun _ => (0 : Int))).toArray) rfl bpN (by kernel_rfl) rfl ⟨rfl, rfl⟩) ?_
      refine wl_v (.int .i64 ((scanRd (l) (s1)).2.1)) rfl rfl (y_mov rfl s1229 ⟨rfl, rfl⟩) ?_
      refine wl_store_stc (us := (chL 0 0 0 0 0 (fun _ => (0 : Int)))) stcT_choice rfl rfl rfl s1219 rfl B1187 rfl (oneI rfl (oneI rfl (oneI rfl (oneI rfl (oneI rfl (oneI rfl (oneI rfl (oneI rfl (oneI rfl (oneI rfl (oneI rfl (oneI rfl (oneI rfl (oneI rfl (oneI rfl (oneI rfl (oneI rfl (oneI rfl (oneI rfl (oneI rfl (oneI rfl oneN))))))))))))))))))))) fun w1250 B1251 k1252 => ?_
      have B1256 := hp2.all k1252 (fun x => ((ap1235) p rfl x))
      have B1258 := hg2.all k1252 (fun i h x => ((ap1245) i h x))
      have K1259 := K1189.trans k1252 (Grew.ok (S := T_r) gr26 noB_le)
      refine wl_v (.int .i64 ((scanRd (l) (s1)).2.1)) rfl rfl (y_asg rfl rfl ⟨rfl, rfl⟩) ?_
      refine wl_nil fun F1260 hF1261 => ?_
      have s1262 := (hF1261 68).trans s1216
      have s1263 := (hF1261 8).trans s1219
      have s1264 : F1260 9 = .int .i64 ((scanRd (l) (s1)).2.1) := (hF1261 9).trans rfl
      clear hF1261
      refine then_normal ?_
      refine wq_ret ?_
      refine stay_ret ?_
      have B1265 : Rdi w1250 (fun i => (onB p) i ∨ ((onB g2) i)) p (l) (rdChT l k ax ay bx yy st) := (by rw [hT0]; first | exact rdi_close hf2 ho1 B1256 B1258 ap1248 | exact rdi_close hf2 ho2 B1256 B1258 ap1248)
      have gr1266 : Grew w0 (T_r) (fun i => (onB p) i ∨ ((onB g2) i)) := fun i h => h.elim (fun y => gr1232 i y) (fun y => gr1242 i y)
      exact end_2 s1262 rfl (res_stc (vs := (chL 0 0 0 0 0 (fun _ => (0 : Int)))) stcT_choice rfl s1263 B1251) (res_tmp (v := .int .i64 ((scanRd (l) (s1)).2.1)) rfl s1264) ⟨(fun i => (onB p) i ∨ ((onB g2) i)), (by rw [hR] <;> rfl), K1259, ⟨B1265, gr1266⟩⟩
     ·replace c1231 := of_decide_eq_false c1231
      refine wq_skip ?_
      refine then_normal ?_
      refine wq_seq ?_
      have hR := h1.trans (by unfold rd4; exact if_pos (by first | assumption | (apply Decidable.byContradiction; assumption)))
      have hT0 := (show rdChT l k ax ay bx yy st = (rdCh l k ax ay bx yy st).2.2 from if_pos (by rw [hR]))
      rw [hR] at hT0
      dsimp only at hT0
      rw [← rdSt_ok (by first | assumption | (apply Decidable.byContradiction; assumption))] at hT0
      obtain ⟨g2, a1, b1, a2, b2, hf2, hT2, ho1, ho2, hp2, hq2, hg2, ap1_, ap2_, ap3_⟩ := rdx_pop0 B1188
      have gr1272 : Grew w0 (T_r) (onB p) := fun i h => gr1177 i ((fun i h => (hT2 i).2 (Or.inl h)) i h)
      have ap1275 : Apart (onB p) (onB p21) := fun i h => ap1180 i ((fun i h => (hT2 i).2 (Or.inl h)) i h)
      have ap1276 : Apart (onB p) (onB p123) := fun i h => ap1181 i ((fun i h => (hT2 i).2 (Or.inl h)) i h)
      have gr1282 : Grew w0 (T_r) (onB g2) := fun i h => gr1177 i ((fun i h => (hT2 i).2 (Or.inr (Or.inr h))) i h)
      have ap1285 : Apart (onB g2) (onB p21) := fun i h => ap1180 i ((fun i h => (hT2 i).2 (Or.inr (Or.inr h))) i h)
      have ap1288 : Apart (onB p) (onB g2) := ap2_
      refine wq_region ?_
      refine wl_v (.pointer (some ⟨p, 0, none⟩)) rfl rfl (y_mov rfl s1212 ⟨rfl, rfl⟩) ?_
      refine wl_v (.agg #[.slice (some ⟨g2, 0, none⟩) l.length l.length, .int .i64 (((a2 : Nat) : Int)), .bool (b2)]) rfl rfl (y_load_stc stcT_reader rfl s1222 hq2 ⟨rfl, rfl⟩) ?_
      refine wl_v (.pointer (some ⟨p, 0, none⟩)) rfl rfl (y_nilc rfl rfl ⟨rfl, rfl⟩) ?_
      refine wl_store_stc (us := [.slice (some ⟨g2, 0, none⟩) l.length l.length, .int .i64 (((a2 : Nat) : Int)), .bool (b2)]) stcT_reader rfl rfl rfl rfl rfl hp2 rfl (oneI rfl (oneI rfl (oneI rfl oneN))) fun w1290 B1291 k1292 => ?_
      have B1295 := B1187.all k1292 (fun x => (((ap1275).symm) p21 rfl x))
      have B1296 := B1183.all k1292 (fun x => (((ap1276).symm) p123 rfl x))
      have B1298 := hg2.all k1292 (fun i h x => (((ap1288).symm) i h x))
      have K1299 := K1189.trans k1292 (Grew.ok (S := T_r) gr1272 (fun _ x => x))
      refine wl_nil fun F1300 hF1301 => ?_
      have s1302 := (hF1301 68).trans s1216
      have s1303 := (hF1301 8).trans s1219
      have s1304 := (hF1301 11).trans s1223
      clear hF1301
      refine then_normal ?_
      refine wq_seq ?_
      refine wq_seq ?_
      refine wq_region ?_
      refine wl_v (.agg (chL m 0 0 0 0 ((scanRd (l) (s1)).1)).toArray) rfl rfl (y_load_stc stcT_choice rfl s1304 B1296 ⟨rfl, rfl⟩) ?_
      refine wl_store_stc (us := (chL m 0 0 0 0 ((scanRd (l) (s1)).1))) stcT_choice rfl rfl rfl s1303 rfl B1295 rfl (oneI rfl (oneI rfl (oneI rfl (oneI rfl (oneI rfl (oneI rfl (oneI rfl (oneI rfl (oneI rfl (oneI rfl (oneI rfl (oneI rfl (oneI rfl (oneI rfl (oneI rfl (oneI rfl (oneI rfl (oneI rfl (oneI rfl (oneI rfl (oneI rfl oneN))))))))))))))))))))) fun w1305 B1306 k1307 => ?_
      have B1311 := B1291.all k1307 (fun x => ((ap1275) p rfl x))
      have B1313 := B1298.all k1307 (fun i h x => ((ap1285) i h x))
      have K1314 := K1299.trans k1307 (Grew.ok (S := T_r) gr26 noB_le)
      refine wl_v (.int .i64 (0)) rfl rfl (y_asg rfl rfl ⟨rfl, rfl⟩) ?_
      refine wl_nil fun F1315 hF1316 => ?_
      have s1317 := (hF1316 68).trans s1302
      have s1318 := (hF1316 8).trans s1303
      have s1319 : F1315 9 = .int .i64 (0) := (hF1316 9).trans rfl
      clear hF1316
      refine then_normal ?_
      refine wq_ret ?_
      refine then_ret ?_
      refine jump_ret ?_
      have B1320 : Rdi w1305 (fun i => (onB p) i ∨ ((onB g2) i)) p (l) (rdChT l k ax ay bx yy st) := (by rw [hT0]; first | exact rdi_close hf2 ho1 B1311 B1313 ap1288 | exact rdi_close hf2 ho2 B1311 B1313 ap1288)
      have gr1321 : Grew w0 (T_r) (fun i => (onB p) i ∨ ((onB g2) i)) := fun i h => h.elim (fun y => gr1272 i y) (fun y => gr1282 i y)
      exact end_2 s1317 rfl (res_stc (vs := (chL m 0 0 0 0 ((scanRd (l) (s1)).1))) stcT_choice rfl s1318 B1306) (res_tmp (v := .int .i64 (0)) rfl s1319) ⟨(fun i => (onB p) i ∨ ((onB g2) i)), (by rw [hR] <;> rfl), K1314, ⟨B1320, gr1321⟩⟩
  ·skip
   refine wq_region ?_
   refine wl_call (R := fun v_ w_ => v_ = .bool false ∧ Kept (fun _ => False) w161 w_) rfl rfl (y_cs rfl rfl rfl (fun _ _ => by kernel_rfl) (ev_func _) (vsC s197 vsN) (t_lostX (p66) (l) (s1) ([(p, st)]) (T112) _  B166 ) (fun e_ w_ h_ => ⟨_, h_.1, (congrArg Value.bool d202), h_.2⟩)) ?_
   rintro _ w1327 ⟨rfl, k1328⟩
   have B1331 := B165.all k1328 id
   have B1332 := B166.all k1328 Apart.none
   have B1333 := B167.all k1328 id
   have K1334 := K168.trans k1328 (fun _ _ x => x.elim)
   refine wl_v (.bool false) rfl rfl (y_mov rfl rfl ⟨rfl, rfl⟩) ?_
   refine wl_vw (.int .i64 (k)) 1 false 30 rfl rfl rfl rfl rfl (y_mov rfl s188 ⟨rfl, rfl⟩) ?_
   refine wl_vw (.pointer (some ⟨p123, 0, none⟩)) 1 false 30 rfl rfl rfl rfl rfl (y_fieldR (n := 1) rfl s198 Tryz.underlying31 rfl (by kernel_rfl) (by decide) rfl ⟨rfl, rfl⟩) ?_
   refine wl_vw (.int .i64 (m)) 1 false 30 rfl rfl rfl rfl rfl (y_ld_stc rfl rfl Tryz.underlying3 B1333 rfl rfl ⟨rfl, rfl⟩) ?_
   refine wl_callw (R := fun v_ w_ => v_ = .bool false ∧ Kept (fun _ => False) w1327 w_) 1 false 30 rfl rfl rfl rfl rfl (y_cs rfl rfl rfl (fun _ _ => by kernel_rfl) (ev_func _) (vsC rfl (vsC rfl vsN)) (bl_has (k) (m)  _ (hA.but K1334 hG)  ) (fun e_ w_ h_ => ⟨_, h_.1, (congrArg Value.bool (decide_eq_false d269)), h_.2⟩)) ?_
   rintro _ w1335 ⟨rfl, k1336⟩
   have B1339 := B1331.all k1336 id
   have B1340 := B1332.all k1336 Apart.none
   have K1342 := K1334.trans k1336 (fun _ _ x => x.elim)
   refine wl_vw (.bool true) 1 false 30 rfl rfl rfl rfl rfl (y_not rfl rfl rfl ⟨rfl, rfl⟩) ?_
   refine wl_v (.bool true) rfl rfl (y_pickF rfl rfl rfl ⟨rfl, rfl⟩) ?_
   refine wl_nil fun F1343 hF1344 => ?_
   have s1349 := (hF1344 68).trans s191
   have s1352 := (hF1344 8).trans s194
   have s1359 := (hF1344 14).trans s201
   have s1360 : F1343 36 = .bool true := (hF1344 36).trans rfl
   clear hF1344
   refine then_normal ?_
   refine wq_cond (t := true) s1360 (fun _ => ?_) (fun e => by cases e)
   refine wq_goto ?_
   refine then_goto ?_
   refine jump_goto ⟨_, rfl, ?_⟩
   refine wq_seq ?_
   refine wq_skip ?_
   refine then_normal ?_
   refine wq_seq ?_
   first | have hR := h1.trans (by unfold rd2; exact if_neg (by assumption)) | have hR := h1.trans (by unfold rd3; exact if_neg (by assumption)) | have hR := h1.trans (by unfold rd4; exact if_neg (by assumption)) | (have hRR := rdCh_no (l := l) (k := k) (ax := ax) (ay := ay) (bx := bx) (yy := yy) hm hs1 (by first | exact Or.inl (by assumption) | exact Or.inr (by assumption)); obtain ⟨s9, hR⟩ := hRR)
   have hT0 : rdChT l k ax ay bx yy st = st := by unfold rdChT; rw [hR]; exact if_neg (by first | assumption | (intro z; exact absurd (show (120 : Int) = 0 from z) (by decide)))
   obtain ⟨g2, a1, b1, a2, b2, hf2, hT2, ho1, ho2, hp2, hq2, hg2, ap1_, ap2_, ap3_⟩ := rdx_pop0 B1340
   have gr1361 : Grew w0 (T_r) (onB p) := fun i h => gr119 i ((fun i h => (hT2 i).2 (Or.inl h)) i h)
   have ap1364 : Apart (onB p) (onB p21) := fun i h => ap122 i ((fun i h => (hT2 i).2 (Or.inl h)) i h)
   have gr1371 : Grew w0 (T_r) (onB g2) := fun i h => gr119 i ((fun i h => (hT2 i).2 (Or.inr (Or.inr h))) i h)
   have ap1374 : Apart (onB g2) (onB p21) := fun i h => ap122 i ((fun i h => (hT2 i).2 (Or.inr (Or.inr h))) i h)
   have ap1377 : Apart (onB p) (onB g2) := ap2_
   refine wq_region ?_
   refine wl_v (.agg (chL 0 0 0 0 0 (fun _ => (0 : Int))).toArray) rfl rfl (y_buildL (l' := []) (cells := (chL 0 0 0 0 0 (fun _ => (0 : Int))).toArray) rfl bpN (by kernel_rfl) rfl ⟨rfl, rfl⟩) ?_
   refine wl_v (.int .i64 (120)) rfl rfl (y_mov rfl s1359 ⟨rfl, rfl⟩) ?_
   refine wl_store_stc (us := (chL 0 0 0 0 0 (fun _ => (0 : Int)))) stcT_choice rfl rfl rfl s1352 rfl B1339 rfl (oneI rfl (oneI rfl (oneI rfl (oneI rfl (oneI rfl (oneI rfl (oneI rfl (oneI rfl (oneI rfl (oneI rfl (oneI rfl (oneI rfl (oneI rfl (oneI rfl (oneI rfl (oneI rfl (oneI rfl (oneI rfl (oneI rfl (oneI rfl (oneI rfl oneN))))))))))))))))))))) fun w1379 B1380 k1381 => ?_
   have B1385 := hp2.all k1381 (fun x => ((ap1364) p rfl x))
   have B1387 := hg2.all k1381 (fun i h x => ((ap1374) i h x))
   have K1388 := K1342.trans k1381 (Grew.ok (S := T_r) gr26 noB_le)
   refine wl_v (.int .i64 (120)) rfl rfl (y_asg rfl rfl ⟨rfl, rfl⟩) ?_
   refine wl_nil fun F1389 hF1390 => ?_
   have s1391 := (hF1390 68).trans s1349
   have s1392 := (hF1390 8).trans s1352
   have s1393 : F1389 9 = .int .i64 (120) := (hF1390 9).trans rfl
   clear hF1390
   refine then_normal ?_
   refine wq_ret ?_
   refine stay_ret ?_
   have B1394 : Rdi w1379 (fun i => (onB p) i ∨ ((onB g2) i)) p (l) (rdChT l k ax ay bx yy st) := (by rw [hT0]; first | exact rdi_close hf2 ho1 B1385 B1387 ap1377 | exact rdi_close hf2 ho2 B1385 B1387 ap1377)
   have gr1395 : Grew w0 (T_r) (fun i => (onB p) i ∨ ((onB g2) i)) := fun i h => h.elim (fun y => gr1361 i y) (fun y => gr1371 i y)
   exact end_2 s1391 rfl (res_stc (vs := (chL 0 0 0 0 0 (fun _ => (0 : Int)))) stcT_choice rfl s1392 B1380) (res_tmp (v := .int .i64 (120)) rfl s1393) ⟨(fun i => (onB p) i ∨ ((onB g2) i)), (by rw [hR] <;> rfl), K1388, ⟨B1394, gr1395⟩⟩
end Go.Proofs.YtdcbabgcbkdlhaaGreatDoor
