/- What VectorMedians reaches of my texts, part 4. -/
import Derived.Test.YthhagejcgobfgaaVectorMediansC
namespace Go.Proofs.Ythhagejcgobfgaa
open Go.RowKit

theorem same_med1 (a b c d m n : Int) : sameVec (med a c m) (med b d n) (med c m a) (med d n b) = true := by rw [← med_turn a c m, ← med_turn b d n]; exact sameVec_self _ _
theorem same_med2 (a b c d m n : Int) : sameVec (med a c m) (med b d n) (med m c a) (med n d b) = true := by rw [← med_turn2 a c m, ← med_turn2 b d n]; exact sameVec_self _ _
theorem same_med3 (a b c d m n : Int) : sameVec (med a c m) (med b d n) (med a m c) (med b n d) = true := by rw [← med_turn3 a c m, ← med_turn3 b d n]; exact sameVec_self _ _
theorem same_med4 (a b c d : Int) : sameVec (med a a c) (med b b d) a b = true := by rw [med_two, med_two]; exact sameVec_self _ _

set_option maxHeartbeats 4000000 in
set_option maxRecDepth 100000 in
theorem vmedians_walk (a b c d m n : Int) (w0 : World) :
    Calls Try.prog 6 #[.agg #[.int .i64 (a), .int .i64 (b)], .agg #[.int .i64 (c), .int .i64 (d)], .agg #[.int .i64 (m), .int .i64 (n)]] w0 fun e w' => e = .returned (.bool true) ∧ Kept (fun _ => False) w0 w' := by
  refine calls_wq (args := [.agg #[.int .i64 (a), .int .i64 (b)], .agg #[.int .i64 (c), .int .i64 (d)], .agg #[.int .i64 (m), .int .i64 (n)]]) 131 Try.func6 rfl rfl (Nat.le_of_ble_eq_true rfl) ?_
  have K0 := Kept.refl (fun _ => False) w0
  obtain ⟨X, hX⟩ : ∃ X : Int, X = Int.tmod a 32 := ⟨_, rfl⟩
  obtain ⟨Y, hY⟩ : ∃ Y : Int, Y = Int.tmod b 32 := ⟨_, rfl⟩
  have hv : vecOk X Y := by rw [hX, hY]; exact tmod32 a b
  have h1 := med_one a c m
  have h2 := med_one b d n
  have hfa := Lib.hid (fill_all hv)
  refine wq_seq ?_
  refine wq_region ?_
  refine wl_box_stc (vs := [.int .i64 (a), .int .i64 (b)]) rfl rfl rfl rfl fun p1 w2 B4 g5 k3 => ?_
  have gr6 : Grew w0 noB (onB p1) := Grew.new K0 g5
  have K7 := K0.trans k3 (fun _ _ x => x.elim)
  refine wl_box_stc (vs := [.int .i64 (c), .int .i64 (d)]) rfl rfl rfl rfl fun p8 w9 B11 g12 k10 => ?_
  have gr13 : Grew w0 noB (onB p8) := Grew.new K7 g12
  have ap14 : Apart (onB p8) (onB p1) := Apart.new g12 (onB_live (B4).lt)
  have B15 := B4.all k10 id
  have K16 := K7.trans k10 (fun _ _ x => x.elim)
  refine wl_box_stc (vs := [.int .i64 (m), .int .i64 (n)]) rfl rfl rfl rfl fun p17 w18 B20 g21 k19 => ?_
  have gr22 : Grew w0 noB (onB p17) := Grew.new K16 g21
  have ap23 : Apart (onB p17) (onB p1) := Apart.new g21 (onB_live (B15).lt)
  have ap24 : Apart (onB p17) (onB p8) := Apart.new g21 (onB_live (B11).lt)
  have B25 := B15.all k19 id
  have B26 := B11.all k19 id
  have K27 := K16.trans k19 (fun _ _ x => x.elim)
  refine wl_v (.bool false) rfl rfl (y_asg rfl rfl ⟨rfl, rfl⟩) ?_
  refine wl_nil fun F28 hF29 => ?_
  have s30 : F28 131 = undef := (hF29 131).trans rfl
  have s31 : F28 3 = .pointer (some ⟨p1, 0, none⟩) := (hF29 3).trans rfl
  have s32 : F28 4 = .pointer (some ⟨p8, 0, none⟩) := (hF29 4).trans rfl
  have s33 : F28 5 = .pointer (some ⟨p17, 0, none⟩) := (hF29 5).trans rfl
  clear hF29
  refine then_normal ?_
  refine wq_seq ?_
  refine wq_region ?_
  refine wl_call (R := fun v_ w_ => v_ = .bool true ∧ Kept (fun _ => False) w18 w_) rfl rfl (y_cs rfl rfl rfl (fun _ _ => by kernel_rfl) (ev_func _) vsN (vawake_any   _   ) (fun e_ w_ h_ => ⟨_, h_.1, rfl, h_.2⟩)) ?_
  rintro _ w34 ⟨rfl, k35⟩
  have B36 := B25.all k35 id
  have B37 := B26.all k35 id
  have B38 := B20.all k35 id
  have K39 := K27.trans k35 (fun _ _ x => x.elim)
  refine wl_v (.bool true) rfl rfl (y_asg rfl rfl ⟨rfl, rfl⟩) ?_
  refine wl_nil fun F40 hF41 => ?_
  have s42 : F40 131 = undef := (hF41 131).trans s30
  have s43 : F40 3 = .pointer (some ⟨p1, 0, none⟩) := (hF41 3).trans s31
  have s44 : F40 4 = .pointer (some ⟨p8, 0, none⟩) := (hF41 4).trans s32
  have s45 : F40 5 = .pointer (some ⟨p17, 0, none⟩) := (hF41 5).trans s33
  have s46 : F40 7 = .bool true := (hF41 7).trans rfl
  clear hF41
  refine then_normal ?_
  refine wq_seq ?_
  refine wq_region ?_
  refine wl_v (.agg #[.int .i64 (a), .int .i64 (b)]) rfl rfl (y_load_stc stcT_vector rfl s43 B36 ⟨rfl, rfl⟩) ?_
  refine wl_v (.agg #[.int .i64 (c), .int .i64 (d)]) rfl rfl (y_load_stc stcT_vector rfl s44 B37 ⟨rfl, rfl⟩) ?_
  refine wl_v (.agg #[.int .i64 (m), .int .i64 (n)]) rfl rfl (y_load_stc stcT_vector rfl s45 B38 ⟨rfl, rfl⟩) ?_
  refine wl_call (R := fun v_ w_ => v_ = .agg #[.int .i64 (med (a) (c) (m)), .int .i64 (med (b) (d) (n))] ∧ Kept (fun _ => False) w34 w_) rfl rfl (y_cs rfl rfl rfl (fun _ _ => by kernel_rfl) (ev_func _) (vsC rfl (vsC rfl (vsC rfl vsN))) (vt_median (a) (b) (c) (d) (m) (n)  _   ) (fun e_ w_ h_ => ⟨_, h_.1, rfl, h_.2⟩)) ?_
  rintro _ w47 ⟨rfl, k48⟩
  have B49 := B36.all k48 id
  have B50 := B37.all k48 id
  have B51 := B38.all k48 id
  have K52 := K39.trans k48 (fun _ _ x => x.elim)
  refine wl_alloc_stc (n := 2) (vs := [.int .i64 (0), .int .i64 (0)]) rfl rfl rfl (by kernel_rfl) fun p53 w54 B56 g57 k55 => ?_
  have gr58 : Grew w0 noB (onB p53) := Grew.new K52 g57
  have ap59 : Apart (onB p53) (onB p1) := Apart.new g57 (onB_live (B49).lt)
  have ap60 : Apart (onB p53) (onB p8) := Apart.new g57 (onB_live (B50).lt)
  have ap61 : Apart (onB p53) (onB p17) := Apart.new g57 (onB_live (B51).lt)
  have B62 := B49.all k55 id
  have B63 := B50.all k55 id
  have B64 := B51.all k55 id
  have K65 := K52.trans k55 (fun _ _ x => x.elim)
  refine wl_store_stc (us := [.int .i64 (med (a) (c) (m)), .int .i64 (med (b) (d) (n))]) stcT_vector rfl rfl rfl rfl rfl B56 rfl (oneI rfl (oneI rfl oneN)) fun w66 B67 k68 => ?_
  have B69 := B62.all k68 (fun x => (((ap59).symm) p1 rfl x))
  have B70 := B63.all k68 (fun x => (((ap60).symm) p8 rfl x))
  have B71 := B64.all k68 (fun x => (((ap61).symm) p17 rfl x))
  have K72 := K65.trans k68 (Grew.ok (S := fun _ => False) gr58 noB_le)
  refine wl_nil fun F73 hF74 => ?_
  have s75 : F73 131 = undef := (hF74 131).trans s42
  have s76 : F73 3 = .pointer (some ⟨p1, 0, none⟩) := (hF74 3).trans s43
  have s77 : F73 4 = .pointer (some ⟨p8, 0, none⟩) := (hF74 4).trans s44
  have s78 : F73 5 = .pointer (some ⟨p17, 0, none⟩) := (hF74 5).trans s45
  have s79 : F73 7 = .bool true := (hF74 7).trans s46
  have s80 : F73 8 = .pointer (some ⟨p53, 0, none⟩) := (hF74 8).trans rfl
  clear hF74
  refine then_normal ?_
  refine wq_seq ?_
  refine wq_said [some 20, some 21, some 22, some 23, some 24, some 25, some 26, some 27, some 28, some 29, some 30, some 31, some 32, some 33, some 34, some 35, some 36, some 37, some 38, some 39, some 40, some 41, some 9] [Pd.eq (.agg #[.int .i64 (med (a) (c) (m)), .int .i64 (med (b) (d) (n))]), Pd.eq (.agg #[.int .i64 (c), .int .i64 (d)]), Pd.eq (.agg #[.int .i64 (m), .int .i64 (n)]), Pd.eq (.agg #[.int .i64 (a), .int .i64 (b)]), Pd.eq (.agg #[.int .i64 (med (c) (m) (a)), .int .i64 (med (d) (n) (b))]), Pd.eq (.bool true), Pd.eq (.bool true), Pd.eq (.agg #[.int .i64 (med (a) (c) (m)), .int .i64 (med (b) (d) (n))]), Pd.eq (.agg #[.int .i64 (m), .int .i64 (n)]), Pd.eq (.agg #[.int .i64 (c), .int .i64 (d)]), Pd.eq (.agg #[.int .i64 (a), .int .i64 (b)]), Pd.eq (.agg #[.int .i64 (med (m) (c) (a)), .int .i64 (med (n) (d) (b))]), Pd.eq (.bool true), Pd.eq (.bool true), Pd.eq (.bool true), Pd.eq (.agg #[.int .i64 (med (a) (c) (m)), .int .i64 (med (b) (d) (n))]), Pd.eq (.agg #[.int .i64 (a), .int .i64 (b)]), Pd.eq (.agg #[.int .i64 (m), .int .i64 (n)]), Pd.eq (.agg #[.int .i64 (c), .int .i64 (d)]), Pd.eq (.agg #[.int .i64 (med (a) (m) (c)), .int .i64 (med (b) (n) (d))]), Pd.eq (.bool true), Pd.eq (.bool true), Pd.eq (.bool true)] (by kernel_rfl) (by kernel_rfl) ?_ ?_
  · refine stepsF_cons ?_ ?_
    · refine StepF.one rfl fun F_ w_ hR hout hD => ?_
      exact (y_load_stc stcT_vector rfl ((hout 8 rfl (by decide)).trans s80) (B67.all hR id) ⟨rfl, Kept.refl _ _⟩)
    refine stepsF_cons ?_ ?_
    · refine StepF.one rfl fun F_ w_ hR hout hD => ?_
      exact (y_load_stc stcT_vector rfl ((hout 4 rfl (by decide)).trans s77) (B70.all hR id) ⟨rfl, Kept.refl _ _⟩)
    refine stepsF_cons ?_ ?_
    · refine StepF.one rfl fun F_ w_ hR hout hD => ?_
      exact (y_load_stc stcT_vector rfl ((hout 5 rfl (by decide)).trans s78) (B71.all hR id) ⟨rfl, Kept.refl _ _⟩)
    refine stepsF_cons ?_ ?_
    · refine StepF.one rfl fun F_ w_ hR hout hD => ?_
      exact (y_load_stc stcT_vector rfl ((hout 3 rfl (by decide)).trans s76) (B69.all hR id) ⟨rfl, Kept.refl _ _⟩)
    refine stepsF_cons ?_ ?_
    · refine StepF.one rfl fun F_ w_ hR hout hD => ?_
      have g21 : F_ 21 = .agg #[.int .i64 (c), .int .i64 (d)] := (hD.get 0 rfl rfl rfl)
      have g22 : F_ 22 = .agg #[.int .i64 (m), .int .i64 (n)] := (hD.get 1 rfl rfl rfl)
      have g23 : F_ 23 = .agg #[.int .i64 (a), .int .i64 (b)] := (hD.get 2 rfl rfl rfl)
      exact (y_cs rfl rfl rfl (fun _ _ => by kernel_rfl) (ev_func _) (vsC g21 (vsC g22 (vsC g23 vsN))) (vt_median (c) (d) (m) (n) (a) (b)  _   ) (fun e_ w_ h_ => ⟨_, h_.1, rfl, h_.2⟩))
    refine stepsF_cons ?_ ?_
    · refine StepF.one rfl fun F_ w_ hR hout hD => ?_
      have g20 : F_ 20 = .agg #[.int .i64 (med (a) (c) (m)), .int .i64 (med (b) (d) (n))] := (hD.get 0 rfl rfl rfl)
      have g24 : F_ 24 = .agg #[.int .i64 (med (c) (m) (a)), .int .i64 (med (d) (n) (b))] := (hD.get 1 rfl rfl rfl)
      exact (y_eqlVec rfl g20 g24 (same_med1 a b c d m n) ⟨rfl, Kept.refl _ _⟩)
    refine stepsF_cons ?_ ?_
    · refine StepF.one rfl fun F_ w_ hR hout hD => ?_
      have g25 : F_ 25 = .bool true := (hD.get 0 rfl rfl rfl)
      exact (y_mov rfl g25 ⟨rfl, Kept.refl _ _⟩)
    refine stepsF_cons ?_ ?_
    · refine StepF.when 6 true 26 rfl rfl fun F_ w_ hR hout hD => ?_
      have g26 : F_ 26 = .bool true := (hD.get 0 rfl rfl rfl)
      exact ⟨g26, (y_load_stc stcT_vector rfl ((hout 8 rfl (by decide)).trans s80) (B67.all hR id) ⟨rfl, Kept.refl _ _⟩)⟩
    refine stepsF_cons ?_ ?_
    · refine StepF.when 6 true 26 rfl rfl fun F_ w_ hR hout hD => ?_
      have g26 : F_ 26 = .bool true := (hD.get 0 rfl rfl rfl)
      exact ⟨g26, (y_load_stc stcT_vector rfl ((hout 5 rfl (by decide)).trans s78) (B71.all hR id) ⟨rfl, Kept.refl _ _⟩)⟩
    refine stepsF_cons ?_ ?_
    · refine StepF.when 6 true 26 rfl rfl fun F_ w_ hR hout hD => ?_
      have g26 : F_ 26 = .bool true := (hD.get 0 rfl rfl rfl)
      exact ⟨g26, (y_load_stc stcT_vector rfl ((hout 4 rfl (by decide)).trans s77) (B70.all hR id) ⟨rfl, Kept.refl _ _⟩)⟩
    refine stepsF_cons ?_ ?_
    · refine StepF.when 6 true 26 rfl rfl fun F_ w_ hR hout hD => ?_
      have g26 : F_ 26 = .bool true := (hD.get 0 rfl rfl rfl)
      exact ⟨g26, (y_load_stc stcT_vector rfl ((hout 3 rfl (by decide)).trans s76) (B69.all hR id) ⟨rfl, Kept.refl _ _⟩)⟩
    refine stepsF_cons ?_ ?_
    · refine StepF.when 6 true 26 rfl rfl fun F_ w_ hR hout hD => ?_
      have g26 : F_ 26 = .bool true := (hD.get 3 rfl rfl rfl)
      have g28 : F_ 28 = .agg #[.int .i64 (m), .int .i64 (n)] := (hD.get 0 rfl rfl rfl)
      have g29 : F_ 29 = .agg #[.int .i64 (c), .int .i64 (d)] := (hD.get 1 rfl rfl rfl)
      have g30 : F_ 30 = .agg #[.int .i64 (a), .int .i64 (b)] := (hD.get 2 rfl rfl rfl)
      exact ⟨g26, (y_cs rfl rfl rfl (fun _ _ => by kernel_rfl) (ev_func _) (vsC g28 (vsC g29 (vsC g30 vsN))) (vt_median (m) (n) (c) (d) (a) (b)  _   ) (fun e_ w_ h_ => ⟨_, h_.1, rfl, h_.2⟩))⟩
    refine stepsF_cons ?_ ?_
    · refine StepF.when 6 true 26 rfl rfl fun F_ w_ hR hout hD => ?_
      have g26 : F_ 26 = .bool true := (hD.get 2 rfl rfl rfl)
      have g27 : F_ 27 = .agg #[.int .i64 (med (a) (c) (m)), .int .i64 (med (b) (d) (n))] := (hD.get 0 rfl rfl rfl)
      have g31 : F_ 31 = .agg #[.int .i64 (med (m) (c) (a)), .int .i64 (med (n) (d) (b))] := (hD.get 1 rfl rfl rfl)
      exact ⟨g26, (y_eqlVec rfl g27 g31 (same_med2 a b c d m n) ⟨rfl, Kept.refl _ _⟩)⟩
    refine stepsF_cons ?_ ?_
    · refine StepF.one rfl fun F_ w_ hR hout hD => ?_
      have g26 : F_ 26 = .bool true := (hD.get 0 rfl rfl rfl)
      have g32 : F_ 32 = .bool true := (hD.get 1 rfl rfl rfl)
      exact (y_pickT rfl g26 g32 ⟨rfl, Kept.refl _ _⟩)
    refine stepsF_cons ?_ ?_
    · refine StepF.one rfl fun F_ w_ hR hout hD => ?_
      have g33 : F_ 33 = .bool true := (hD.get 0 rfl rfl rfl)
      exact (y_mov rfl g33 ⟨rfl, Kept.refl _ _⟩)
    refine stepsF_cons ?_ ?_
    · refine StepF.when 14 true 34 rfl rfl fun F_ w_ hR hout hD => ?_
      have g34 : F_ 34 = .bool true := (hD.get 0 rfl rfl rfl)
      exact ⟨g34, (y_load_stc stcT_vector rfl ((hout 8 rfl (by decide)).trans s80) (B67.all hR id) ⟨rfl, Kept.refl _ _⟩)⟩
    refine stepsF_cons ?_ ?_
    · refine StepF.when 14 true 34 rfl rfl fun F_ w_ hR hout hD => ?_
      have g34 : F_ 34 = .bool true := (hD.get 0 rfl rfl rfl)
      exact ⟨g34, (y_load_stc stcT_vector rfl ((hout 3 rfl (by decide)).trans s76) (B69.all hR id) ⟨rfl, Kept.refl _ _⟩)⟩
    refine stepsF_cons ?_ ?_
    · refine StepF.when 14 true 34 rfl rfl fun F_ w_ hR hout hD => ?_
      have g34 : F_ 34 = .bool true := (hD.get 0 rfl rfl rfl)
      exact ⟨g34, (y_load_stc stcT_vector rfl ((hout 5 rfl (by decide)).trans s78) (B71.all hR id) ⟨rfl, Kept.refl _ _⟩)⟩
    refine stepsF_cons ?_ ?_
    · refine StepF.when 14 true 34 rfl rfl fun F_ w_ hR hout hD => ?_
      have g34 : F_ 34 = .bool true := (hD.get 0 rfl rfl rfl)
      exact ⟨g34, (y_load_stc stcT_vector rfl ((hout 4 rfl (by decide)).trans s77) (B70.all hR id) ⟨rfl, Kept.refl _ _⟩)⟩
    refine stepsF_cons ?_ ?_
    · refine StepF.when 14 true 34 rfl rfl fun F_ w_ hR hout hD => ?_
      have g34 : F_ 34 = .bool true := (hD.get 3 rfl rfl rfl)
      have g36 : F_ 36 = .agg #[.int .i64 (a), .int .i64 (b)] := (hD.get 0 rfl rfl rfl)
      have g37 : F_ 37 = .agg #[.int .i64 (m), .int .i64 (n)] := (hD.get 1 rfl rfl rfl)
      have g38 : F_ 38 = .agg #[.int .i64 (c), .int .i64 (d)] := (hD.get 2 rfl rfl rfl)
      exact ⟨g34, (y_cs rfl rfl rfl (fun _ _ => by kernel_rfl) (ev_func _) (vsC g36 (vsC g37 (vsC g38 vsN))) (vt_median (a) (b) (m) (n) (c) (d)  _   ) (fun e_ w_ h_ => ⟨_, h_.1, rfl, h_.2⟩))⟩
    refine stepsF_cons ?_ ?_
    · refine StepF.when 14 true 34 rfl rfl fun F_ w_ hR hout hD => ?_
      have g34 : F_ 34 = .bool true := (hD.get 2 rfl rfl rfl)
      have g35 : F_ 35 = .agg #[.int .i64 (med (a) (c) (m)), .int .i64 (med (b) (d) (n))] := (hD.get 0 rfl rfl rfl)
      have g39 : F_ 39 = .agg #[.int .i64 (med (a) (m) (c)), .int .i64 (med (b) (n) (d))] := (hD.get 1 rfl rfl rfl)
      exact ⟨g34, (y_eqlVec rfl g35 g39 (same_med3 a b c d m n) ⟨rfl, Kept.refl _ _⟩)⟩
    refine stepsF_cons ?_ ?_
    · refine StepF.one rfl fun F_ w_ hR hout hD => ?_
      have g34 : F_ 34 = .bool true := (hD.get 0 rfl rfl rfl)
      have g40 : F_ 40 = .bool true := (hD.get 1 rfl rfl rfl)
      exact (y_pickT rfl g34 g40 ⟨rfl, Kept.refl _ _⟩)
    refine stepsF_cons ?_ ?_
    · refine StepF.one rfl fun F_ w_ hR hout hD => ?_
      have g41 : F_ 41 = .bool true := (hD.get 0 rfl rfl rfl)
      exact (y_asg rfl g41 ⟨rfl, Kept.refl _ _⟩)
    exact stepsF_nil
  intro v81 F82 w83 k84 G85 hF86
  have B88 := B69.all k84 id
  have B89 := B70.all k84 id
  have B90 := B71.all k84 id
  have B91 := B67.all k84 id
  have K92 := K72.trans k84 (fun _ _ x => x.elim)
  have s93 : F82 131 = undef := (hF86 131).trans s75
  have s94 : F82 3 = .pointer (some ⟨p1, 0, none⟩) := (hF86 3).trans s76
  have s95 : F82 4 = .pointer (some ⟨p8, 0, none⟩) := (hF86 4).trans s77
  have s96 : F82 5 = .pointer (some ⟨p17, 0, none⟩) := (hF86 5).trans s78
  have s97 : F82 7 = .bool true := (hF86 7).trans s79
  have s98 : F82 8 = .pointer (some ⟨p53, 0, none⟩) := (hF86 8).trans s80
  have s99 : F82 9 = .bool true := (hF86 9).trans (G85 22 (by decide))
  clear G85 hF86
  refine then_normal ?_
  refine wq_seq ?_
  refine wq_cut (fun FF ww => FF 10 = .bool (decide ((0 : Int) = 0)) ∧ FF 3 = .pointer (some ⟨p1, 0, none⟩) ∧ FF 4 = .pointer (some ⟨p8, 0, none⟩) ∧ FF 7 = .bool true ∧ FF 9 = .bool true ∧ FF 131 = undef ∧ Kept (fun _ => False) w0 ww ∧ Stc ww p1 33 [.int .i64 (a), .int .i64 (b)] ∧ Stc ww p8 33 [.int .i64 (c), .int .i64 (d)] ∧ Stc ww p17 33 [.int .i64 (m), .int .i64 (n)] ∧ Stc ww p53 33 [.int .i64 (med (a) (c) (m)), .int .i64 (med (b) (d) (n))]) ?_ ?_
  · skip
    by_cases d100 : (med (a) (c) (m)) = (a)
    · skip
      by_cases d101 : (med (b) (d) (n)) = (b)
      · skip
        refine wq_region ?_
        refine wl_v (.pointer (some ⟨p53, 0, none⟩)) rfl rfl (y_fieldR (n := 1) rfl s98 Try.underlying33 rfl (by kernel_rfl) (by decide) rfl ⟨rfl, rfl⟩) ?_
        refine wl_v (.int .i64 (med (a) (c) (m))) rfl rfl (y_ld_stc rfl rfl Try.underlying3 B91 rfl rfl ⟨rfl, rfl⟩) ?_
        refine wl_v (.pointer (some ⟨p1, 0, none⟩)) rfl rfl (y_fieldR (n := 1) rfl s94 Try.underlying33 rfl (by kernel_rfl) (by decide) rfl ⟨rfl, rfl⟩) ?_
        refine wl_v (.int .i64 (a)) rfl rfl (y_ld_stc rfl rfl Try.underlying3 B88 rfl rfl ⟨rfl, rfl⟩) ?_
        refine wl_v (.bool true) rfl rfl (y_eqlI rfl rfl rfl (decide_eq_true d100) ⟨rfl, rfl⟩) ?_
        refine wl_v (.bool true) rfl rfl (y_mov rfl rfl ⟨rfl, rfl⟩) ?_
        refine wl_unless 5 false 47 rfl rfl rfl (Or.inl rfl) rfl ?_
        refine wl_unless 5 false 47 rfl rfl rfl (Or.inl rfl) rfl ?_
        refine wl_unless 5 false 47 rfl rfl rfl (Or.inl rfl) rfl ?_
        refine wl_unless 5 false 47 rfl rfl rfl (Or.inl rfl) rfl ?_
        refine wl_unless 5 false 47 rfl rfl rfl (Or.inl rfl) rfl ?_
        refine wl_v (.bool true) rfl rfl (y_pickT rfl rfl rfl ⟨rfl, rfl⟩) ?_
        refine wl_v (.bool true) rfl rfl (y_mov rfl rfl ⟨rfl, rfl⟩) ?_
        refine wl_unless 12 false 54 rfl rfl rfl (Or.inl rfl) rfl ?_
        refine wl_unless 12 false 54 rfl rfl rfl (Or.inl rfl) rfl ?_
        refine wl_unless 12 false 54 rfl rfl rfl (Or.inl rfl) rfl ?_
        refine wl_unless 12 false 54 rfl rfl rfl (Or.inl rfl) rfl ?_
        refine wl_unless 12 false 54 rfl rfl rfl (Or.inl rfl) rfl ?_
        refine wl_v (.bool true) rfl rfl (y_pickT rfl rfl rfl ⟨rfl, rfl⟩) ?_
        refine wl_v (.bool true) rfl rfl (y_mov rfl rfl ⟨rfl, rfl⟩) ?_
        refine wl_vw (.pointer (some ⟨p53, 1, none⟩)) 19 true 61 rfl rfl rfl rfl rfl (y_fieldR (n := 1) rfl s98 Try.underlying33 rfl (by kernel_rfl) (by decide) rfl ⟨rfl, rfl⟩) ?_
        refine wl_vw (.int .i64 (med (b) (d) (n))) 19 true 61 rfl rfl rfl rfl rfl (y_ld_stc rfl rfl Try.underlying3 B91 rfl rfl ⟨rfl, rfl⟩) ?_
        refine wl_vw (.pointer (some ⟨p1, 1, none⟩)) 19 true 61 rfl rfl rfl rfl rfl (y_fieldR (n := 1) rfl s94 Try.underlying33 rfl (by kernel_rfl) (by decide) rfl ⟨rfl, rfl⟩) ?_
        refine wl_vw (.int .i64 (b)) 19 true 61 rfl rfl rfl rfl rfl (y_ld_stc rfl rfl Try.underlying3 B88 rfl rfl ⟨rfl, rfl⟩) ?_
        refine wl_vw (.bool true) 19 true 61 rfl rfl rfl rfl rfl (y_eqlI rfl rfl rfl (decide_eq_true d101) ⟨rfl, rfl⟩) ?_
        refine wl_vw (.bool true) 19 true 61 rfl rfl rfl rfl rfl (y_mov rfl rfl ⟨rfl, rfl⟩) ?_
        refine wl_unless 25 false 67 rfl rfl rfl (Or.inl rfl) rfl ?_
        refine wl_unless 25 false 67 rfl rfl rfl (Or.inl rfl) rfl ?_
        refine wl_unless 25 false 67 rfl rfl rfl (Or.inl rfl) rfl ?_
        refine wl_unless 25 false 67 rfl rfl rfl (Or.inl rfl) rfl ?_
        refine wl_unless 25 false 67 rfl rfl rfl (Or.inl rfl) rfl ?_
        refine wl_vw (.bool true) 19 true 61 rfl rfl rfl rfl rfl (y_pickT rfl rfl rfl ⟨rfl, rfl⟩) ?_
        refine wl_vw (.bool true) 19 true 61 rfl rfl rfl rfl rfl (y_mov rfl rfl ⟨rfl, rfl⟩) ?_
        refine wl_unless 32 false 74 rfl rfl rfl (Or.inl rfl) rfl ?_
        refine wl_unless 32 false 74 rfl rfl rfl (Or.inl rfl) rfl ?_
        refine wl_unless 32 false 74 rfl rfl rfl (Or.inl rfl) rfl ?_
        refine wl_unless 32 false 74 rfl rfl rfl (Or.inl rfl) rfl ?_
        refine wl_unless 32 false 74 rfl rfl rfl (Or.inl rfl) rfl ?_
        refine wl_vw (.bool true) 19 true 61 rfl rfl rfl rfl rfl (y_pickT rfl rfl rfl ⟨rfl, rfl⟩) ?_
        refine wl_v (.bool true) rfl rfl (y_pickT rfl rfl rfl ⟨rfl, rfl⟩) ?_
        refine wl_v (.bool true) rfl rfl (y_asg rfl rfl ⟨rfl, rfl⟩) ?_
        refine wl_nil fun F102 hF103 => ?_
        have s104 : F102 131 = undef := (hF103 131).trans s93
        have s105 : F102 3 = .pointer (some ⟨p1, 0, none⟩) := (hF103 3).trans s94
        have s106 : F102 4 = .pointer (some ⟨p8, 0, none⟩) := (hF103 4).trans s95
        have s107 : F102 7 = .bool true := (hF103 7).trans s97
        have s108 : F102 9 = .bool true := (hF103 9).trans s99
        have s109 : F102 10 = .bool true := (hF103 10).trans rfl
        clear hF103
        exact ⟨s109.trans (congrArg Value.bool (show true = decide ((0 : Int) = 0) from (by first | rfl | exact decide_eq_decide.2 (by omega) | exact (decide_eq_true (by omega)).symm | (exfalso; omega)))), s105, s106, s107, s108, s104, K92, B88, B89, B90, B91⟩
      · skip
        by_cases d110 : (med (b) (d) (n)) = (d)
        · skip
          refine wq_region ?_
          refine wl_v (.pointer (some ⟨p53, 0, none⟩)) rfl rfl (y_fieldR (n := 1) rfl s98 Try.underlying33 rfl (by kernel_rfl) (by decide) rfl ⟨rfl, rfl⟩) ?_
          refine wl_v (.int .i64 (med (a) (c) (m))) rfl rfl (y_ld_stc rfl rfl Try.underlying3 B91 rfl rfl ⟨rfl, rfl⟩) ?_
          refine wl_v (.pointer (some ⟨p1, 0, none⟩)) rfl rfl (y_fieldR (n := 1) rfl s94 Try.underlying33 rfl (by kernel_rfl) (by decide) rfl ⟨rfl, rfl⟩) ?_
          refine wl_v (.int .i64 (a)) rfl rfl (y_ld_stc rfl rfl Try.underlying3 B88 rfl rfl ⟨rfl, rfl⟩) ?_
          refine wl_v (.bool true) rfl rfl (y_eqlI rfl rfl rfl (decide_eq_true d100) ⟨rfl, rfl⟩) ?_
          refine wl_v (.bool true) rfl rfl (y_mov rfl rfl ⟨rfl, rfl⟩) ?_
          refine wl_unless 5 false 47 rfl rfl rfl (Or.inl rfl) rfl ?_
          refine wl_unless 5 false 47 rfl rfl rfl (Or.inl rfl) rfl ?_
          refine wl_unless 5 false 47 rfl rfl rfl (Or.inl rfl) rfl ?_
          refine wl_unless 5 false 47 rfl rfl rfl (Or.inl rfl) rfl ?_
          refine wl_unless 5 false 47 rfl rfl rfl (Or.inl rfl) rfl ?_
          refine wl_v (.bool true) rfl rfl (y_pickT rfl rfl rfl ⟨rfl, rfl⟩) ?_
          refine wl_v (.bool true) rfl rfl (y_mov rfl rfl ⟨rfl, rfl⟩) ?_
          refine wl_unless 12 false 54 rfl rfl rfl (Or.inl rfl) rfl ?_
          refine wl_unless 12 false 54 rfl rfl rfl (Or.inl rfl) rfl ?_
          refine wl_unless 12 false 54 rfl rfl rfl (Or.inl rfl) rfl ?_
          refine wl_unless 12 false 54 rfl rfl rfl (Or.inl rfl) rfl ?_
          refine wl_unless 12 false 54 rfl rfl rfl (Or.inl rfl) rfl ?_
          refine wl_v (.bool true) rfl rfl (y_pickT rfl rfl rfl ⟨rfl, rfl⟩) ?_
          refine wl_v (.bool true) rfl rfl (y_mov rfl rfl ⟨rfl, rfl⟩) ?_
          refine wl_vw (.pointer (some ⟨p53, 1, none⟩)) 19 true 61 rfl rfl rfl rfl rfl (y_fieldR (n := 1) rfl s98 Try.underlying33 rfl (by kernel_rfl) (by decide) rfl ⟨rfl, rfl⟩) ?_
          refine wl_vw (.int .i64 (med (b) (d) (n))) 19 true 61 rfl rfl rfl rfl rfl (y_ld_stc rfl rfl Try.underlying3 B91 rfl rfl ⟨rfl, rfl⟩) ?_
          refine wl_vw (.pointer (some ⟨p1, 1, none⟩)) 19 true 61 rfl rfl rfl rfl rfl (y_fieldR (n := 1) rfl s94 Try.underlying33 rfl (by kernel_rfl) (by decide) rfl ⟨rfl, rfl⟩) ?_
          refine wl_vw (.int .i64 (b)) 19 true 61 rfl rfl rfl rfl rfl (y_ld_stc rfl rfl Try.underlying3 B88 rfl rfl ⟨rfl, rfl⟩) ?_
          refine wl_vw (.bool false) 19 true 61 rfl rfl rfl rfl rfl (y_eqlI rfl rfl rfl (decide_eq_false d101) ⟨rfl, rfl⟩) ?_
          refine wl_vw (.bool false) 19 true 61 rfl rfl rfl rfl rfl (y_mov rfl rfl ⟨rfl, rfl⟩) ?_
          refine wl_vw (.pointer (some ⟨p53, 1, none⟩)) 25 false 67 rfl rfl rfl rfl rfl (y_fieldR (n := 1) rfl s98 Try.underlying33 rfl (by kernel_rfl) (by decide) rfl ⟨rfl, rfl⟩) ?_
          refine wl_vw (.int .i64 (med (b) (d) (n))) 25 false 67 rfl rfl rfl rfl rfl (y_ld_stc rfl rfl Try.underlying3 B91 rfl rfl ⟨rfl, rfl⟩) ?_
          refine wl_vw (.pointer (some ⟨p8, 1, none⟩)) 25 false 67 rfl rfl rfl rfl rfl (y_fieldR (n := 1) rfl s95 Try.underlying33 rfl (by kernel_rfl) (by decide) rfl ⟨rfl, rfl⟩) ?_
          refine wl_vw (.int .i64 (d)) 25 false 67 rfl rfl rfl rfl rfl (y_ld_stc rfl rfl Try.underlying3 B89 rfl rfl ⟨rfl, rfl⟩) ?_
          refine wl_vw (.bool true) 25 false 67 rfl rfl rfl rfl rfl (y_eqlI rfl rfl rfl (decide_eq_true d110) ⟨rfl, rfl⟩) ?_
          refine wl_vw (.bool true) 19 true 61 rfl rfl rfl rfl rfl (y_pickF rfl rfl rfl ⟨rfl, rfl⟩) ?_
          refine wl_vw (.bool true) 19 true 61 rfl rfl rfl rfl rfl (y_mov rfl rfl ⟨rfl, rfl⟩) ?_
          refine wl_unless 32 false 74 rfl rfl rfl (Or.inl rfl) rfl ?_
          refine wl_unless 32 false 74 rfl rfl rfl (Or.inl rfl) rfl ?_
          refine wl_unless 32 false 74 rfl rfl rfl (Or.inl rfl) rfl ?_
          refine wl_unless 32 false 74 rfl rfl rfl (Or.inl rfl) rfl ?_
          refine wl_unless 32 false 74 rfl rfl rfl (Or.inl rfl) rfl ?_
          refine wl_vw (.bool true) 19 true 61 rfl rfl rfl rfl rfl (y_pickT rfl rfl rfl ⟨rfl, rfl⟩) ?_
          refine wl_v (.bool true) rfl rfl (y_pickT rfl rfl rfl ⟨rfl, rfl⟩) ?_
          refine wl_v (.bool true) rfl rfl (y_asg rfl rfl ⟨rfl, rfl⟩) ?_
          refine wl_nil fun F111 hF112 => ?_
          have s113 : F111 131 = undef := (hF112 131).trans s93
          have s114 : F111 3 = .pointer (some ⟨p1, 0, none⟩) := (hF112 3).trans s94
          have s115 : F111 4 = .pointer (some ⟨p8, 0, none⟩) := (hF112 4).trans s95
          have s116 : F111 7 = .bool true := (hF112 7).trans s97
          have s117 : F111 9 = .bool true := (hF112 9).trans s99
          have s118 : F111 10 = .bool true := (hF112 10).trans rfl
          clear hF112
          exact ⟨s118.trans (congrArg Value.bool (show true = decide ((0 : Int) = 0) from (by first | rfl | exact decide_eq_decide.2 (by omega) | exact (decide_eq_true (by omega)).symm | (exfalso; omega)))), s114, s115, s116, s117, s113, K92, B88, B89, B90, B91⟩
        · skip
          refine wq_region ?_
          refine wl_v (.pointer (some ⟨p53, 0, none⟩)) rfl rfl (y_fieldR (n := 1) rfl s98 Try.underlying33 rfl (by kernel_rfl) (by decide) rfl ⟨rfl, rfl⟩) ?_
          refine wl_v (.int .i64 (med (a) (c) (m))) rfl rfl (y_ld_stc rfl rfl Try.underlying3 B91 rfl rfl ⟨rfl, rfl⟩) ?_
          refine wl_v (.pointer (some ⟨p1, 0, none⟩)) rfl rfl (y_fieldR (n := 1) rfl s94 Try.underlying33 rfl (by kernel_rfl) (by decide) rfl ⟨rfl, rfl⟩) ?_
          refine wl_v (.int .i64 (a)) rfl rfl (y_ld_stc rfl rfl Try.underlying3 B88 rfl rfl ⟨rfl, rfl⟩) ?_
          refine wl_v (.bool true) rfl rfl (y_eqlI rfl rfl rfl (decide_eq_true d100) ⟨rfl, rfl⟩) ?_
          refine wl_v (.bool true) rfl rfl (y_mov rfl rfl ⟨rfl, rfl⟩) ?_
          refine wl_unless 5 false 47 rfl rfl rfl (Or.inl rfl) rfl ?_
          refine wl_unless 5 false 47 rfl rfl rfl (Or.inl rfl) rfl ?_
          refine wl_unless 5 false 47 rfl rfl rfl (Or.inl rfl) rfl ?_
          refine wl_unless 5 false 47 rfl rfl rfl (Or.inl rfl) rfl ?_
          refine wl_unless 5 false 47 rfl rfl rfl (Or.inl rfl) rfl ?_
          refine wl_v (.bool true) rfl rfl (y_pickT rfl rfl rfl ⟨rfl, rfl⟩) ?_
          refine wl_v (.bool true) rfl rfl (y_mov rfl rfl ⟨rfl, rfl⟩) ?_
          refine wl_unless 12 false 54 rfl rfl rfl (Or.inl rfl) rfl ?_
          refine wl_unless 12 false 54 rfl rfl rfl (Or.inl rfl) rfl ?_
          refine wl_unless 12 false 54 rfl rfl rfl (Or.inl rfl) rfl ?_
          refine wl_unless 12 false 54 rfl rfl rfl (Or.inl rfl) rfl ?_
          refine wl_unless 12 false 54 rfl rfl rfl (Or.inl rfl) rfl ?_
          refine wl_v (.bool true) rfl rfl (y_pickT rfl rfl rfl ⟨rfl, rfl⟩) ?_
          refine wl_v (.bool true) rfl rfl (y_mov rfl rfl ⟨rfl, rfl⟩) ?_
          refine wl_vw (.pointer (some ⟨p53, 1, none⟩)) 19 true 61 rfl rfl rfl rfl rfl (y_fieldR (n := 1) rfl s98 Try.underlying33 rfl (by kernel_rfl) (by decide) rfl ⟨rfl, rfl⟩) ?_
          refine wl_vw (.int .i64 (med (b) (d) (n))) 19 true 61 rfl rfl rfl rfl rfl (y_ld_stc rfl rfl Try.underlying3 B91 rfl rfl ⟨rfl, rfl⟩) ?_
          refine wl_vw (.pointer (some ⟨p1, 1, none⟩)) 19 true 61 rfl rfl rfl rfl rfl (y_fieldR (n := 1) rfl s94 Try.underlying33 rfl (by kernel_rfl) (by decide) rfl ⟨rfl, rfl⟩) ?_
          refine wl_vw (.int .i64 (b)) 19 true 61 rfl rfl rfl rfl rfl (y_ld_stc rfl rfl Try.underlying3 B88 rfl rfl ⟨rfl, rfl⟩) ?_
          refine wl_vw (.bool false) 19 true 61 rfl rfl rfl rfl rfl (y_eqlI rfl rfl rfl (decide_eq_false d101) ⟨rfl, rfl⟩) ?_
          refine wl_vw (.bool false) 19 true 61 rfl rfl rfl rfl rfl (y_mov rfl rfl ⟨rfl, rfl⟩) ?_
          refine wl_vw (.pointer (some ⟨p53, 1, none⟩)) 25 false 67 rfl rfl rfl rfl rfl (y_fieldR (n := 1) rfl s98 Try.underlying33 rfl (by kernel_rfl) (by decide) rfl ⟨rfl, rfl⟩) ?_
          refine wl_vw (.int .i64 (med (b) (d) (n))) 25 false 67 rfl rfl rfl rfl rfl (y_ld_stc rfl rfl Try.underlying3 B91 rfl rfl ⟨rfl, rfl⟩) ?_
          refine wl_vw (.pointer (some ⟨p8, 1, none⟩)) 25 false 67 rfl rfl rfl rfl rfl (y_fieldR (n := 1) rfl s95 Try.underlying33 rfl (by kernel_rfl) (by decide) rfl ⟨rfl, rfl⟩) ?_
          refine wl_vw (.int .i64 (d)) 25 false 67 rfl rfl rfl rfl rfl (y_ld_stc rfl rfl Try.underlying3 B89 rfl rfl ⟨rfl, rfl⟩) ?_
          refine wl_vw (.bool false) 25 false 67 rfl rfl rfl rfl rfl (y_eqlI rfl rfl rfl (decide_eq_false d110) ⟨rfl, rfl⟩) ?_
          refine wl_vw (.bool false) 19 true 61 rfl rfl rfl rfl rfl (y_pickF rfl rfl rfl ⟨rfl, rfl⟩) ?_
          refine wl_vw (.bool false) 19 true 61 rfl rfl rfl rfl rfl (y_mov rfl rfl ⟨rfl, rfl⟩) ?_
          refine wl_vw (.pointer (some ⟨p53, 1, none⟩)) 32 false 74 rfl rfl rfl rfl rfl (y_fieldR (n := 1) rfl s98 Try.underlying33 rfl (by kernel_rfl) (by decide) rfl ⟨rfl, rfl⟩) ?_
          refine wl_vw (.int .i64 (med (b) (d) (n))) 32 false 74 rfl rfl rfl rfl rfl (y_ld_stc rfl rfl Try.underlying3 B91 rfl rfl ⟨rfl, rfl⟩) ?_
          refine wl_vw (.pointer (some ⟨p17, 1, none⟩)) 32 false 74 rfl rfl rfl rfl rfl (y_fieldR (n := 1) rfl s96 Try.underlying33 rfl (by kernel_rfl) (by decide) rfl ⟨rfl, rfl⟩) ?_
          refine wl_vw (.int .i64 (n)) 32 false 74 rfl rfl rfl rfl rfl (y_ld_stc rfl rfl Try.underlying3 B90 rfl rfl ⟨rfl, rfl⟩) ?_
          refine wl_vw (.bool (decide ((med (b) (d) (n)) = (n)))) 32 false 74 rfl rfl rfl rfl rfl (y_eqlI rfl rfl rfl rfl ⟨rfl, rfl⟩) ?_
          refine wl_vw (.bool (decide ((med (b) (d) (n)) = (n)))) 19 true 61 rfl rfl rfl rfl rfl (y_pickF rfl rfl rfl ⟨rfl, rfl⟩) ?_
          refine wl_v (.bool (decide ((med (b) (d) (n)) = (n)))) rfl rfl (y_pickT rfl rfl rfl ⟨rfl, rfl⟩) ?_
          refine wl_v (.bool (decide ((med (b) (d) (n)) = (n)))) rfl rfl (y_asg rfl rfl ⟨rfl, rfl⟩) ?_
          refine wl_nil fun F119 hF120 => ?_
          have s121 : F119 131 = undef := (hF120 131).trans s93
          have s122 : F119 3 = .pointer (some ⟨p1, 0, none⟩) := (hF120 3).trans s94
          have s123 : F119 4 = .pointer (some ⟨p8, 0, none⟩) := (hF120 4).trans s95
          have s124 : F119 7 = .bool true := (hF120 7).trans s97
          have s125 : F119 9 = .bool true := (hF120 9).trans s99
          have s126 : F119 10 = .bool (decide ((med (b) (d) (n)) = (n))) := (hF120 10).trans rfl
          clear hF120
          exact ⟨s126.trans (congrArg Value.bool (show decide ((med (b) (d) (n)) = (n)) = decide ((0 : Int) = 0) from (by first | rfl | exact decide_eq_decide.2 (by omega) | exact (decide_eq_true (by omega)).symm | (exfalso; omega)))), s122, s123, s124, s125, s121, K92, B88, B89, B90, B91⟩
    · skip
      by_cases d127 : (med (a) (c) (m)) = (c)
      · skip
        by_cases d128 : (med (b) (d) (n)) = (b)
        · skip
          refine wq_region ?_
          refine wl_v (.pointer (some ⟨p53, 0, none⟩)) rfl rfl (y_fieldR (n := 1) rfl s98 Try.underlying33 rfl (by kernel_rfl) (by decide) rfl ⟨rfl, rfl⟩) ?_
          refine wl_v (.int .i64 (med (a) (c) (m))) rfl rfl (y_ld_stc rfl rfl Try.underlying3 B91 rfl rfl ⟨rfl, rfl⟩) ?_
          refine wl_v (.pointer (some ⟨p1, 0, none⟩)) rfl rfl (y_fieldR (n := 1) rfl s94 Try.underlying33 rfl (by kernel_rfl) (by decide) rfl ⟨rfl, rfl⟩) ?_
          refine wl_v (.int .i64 (a)) rfl rfl (y_ld_stc rfl rfl Try.underlying3 B88 rfl rfl ⟨rfl, rfl⟩) ?_
          refine wl_v (.bool false) rfl rfl (y_eqlI rfl rfl rfl (decide_eq_false d100) ⟨rfl, rfl⟩) ?_
          refine wl_v (.bool false) rfl rfl (y_mov rfl rfl ⟨rfl, rfl⟩) ?_
          refine wl_vw (.pointer (some ⟨p53, 0, none⟩)) 5 false 47 rfl rfl rfl rfl rfl (y_fieldR (n := 1) rfl s98 Try.underlying33 rfl (by kernel_rfl) (by decide) rfl ⟨rfl, rfl⟩) ?_
          refine wl_vw (.int .i64 (med (a) (c) (m))) 5 false 47 rfl rfl rfl rfl rfl (y_ld_stc rfl rfl Try.underlying3 B91 rfl rfl ⟨rfl, rfl⟩) ?_
          refine wl_vw (.pointer (some ⟨p8, 0, none⟩)) 5 false 47 rfl rfl rfl rfl rfl (y_fieldR (n := 1) rfl s95 Try.underlying33 rfl (by kernel_rfl) (by decide) rfl ⟨rfl, rfl⟩) ?_
          refine wl_vw (.int .i64 (c)) 5 false 47 rfl rfl rfl rfl rfl (y_ld_stc rfl rfl Try.underlying3 B89 rfl rfl ⟨rfl, rfl⟩) ?_
          refine wl_vw (.bool true) 5 false 47 rfl rfl rfl rfl rfl (y_eqlI rfl rfl rfl (decide_eq_true d127) ⟨rfl, rfl⟩) ?_
          refine wl_v (.bool true) rfl rfl (y_pickF rfl rfl rfl ⟨rfl, rfl⟩) ?_
          refine wl_v (.bool true) rfl rfl (y_mov rfl rfl ⟨rfl, rfl⟩) ?_
          refine wl_unless 12 false 54 rfl rfl rfl (Or.inl rfl) rfl ?_
          refine wl_unless 12 false 54 rfl rfl rfl (Or.inl rfl) rfl ?_
          refine wl_unless 12 false 54 rfl rfl rfl (Or.inl rfl) rfl ?_
          refine wl_unless 12 false 54 rfl rfl rfl (Or.inl rfl) rfl ?_
          refine wl_unless 12 false 54 rfl rfl rfl (Or.inl rfl) rfl ?_
          refine wl_v (.bool true) rfl rfl (y_pickT rfl rfl rfl ⟨rfl, rfl⟩) ?_
          refine wl_v (.bool true) rfl rfl (y_mov rfl rfl ⟨rfl, rfl⟩) ?_
          refine wl_vw (.pointer (some ⟨p53, 1, none⟩)) 19 true 61 rfl rfl rfl rfl rfl (y_fieldR (n := 1) rfl s98 Try.underlying33 rfl (by kernel_rfl) (by decide) rfl ⟨rfl, rfl⟩) ?_
          refine wl_vw (.int .i64 (med (b) (d) (n))) 19 true 61 rfl rfl rfl rfl rfl (y_ld_stc rfl rfl Try.underlying3 B91 rfl rfl ⟨rfl, rfl⟩) ?_
          refine wl_vw (.pointer (some ⟨p1, 1, none⟩)) 19 true 61 rfl rfl rfl rfl rfl (y_fieldR (n := 1) rfl s94 Try.underlying33 rfl (by kernel_rfl) (by decide) rfl ⟨rfl, rfl⟩) ?_
          refine wl_vw (.int .i64 (b)) 19 true 61 rfl rfl rfl rfl rfl (y_ld_stc rfl rfl Try.underlying3 B88 rfl rfl ⟨rfl, rfl⟩) ?_
          refine wl_vw (.bool true) 19 true 61 rfl rfl rfl rfl rfl (y_eqlI rfl rfl rfl (decide_eq_true d128) ⟨rfl, rfl⟩) ?_
          refine wl_vw (.bool true) 19 true 61 rfl rfl rfl rfl rfl (y_mov rfl rfl ⟨rfl, rfl⟩) ?_
          refine wl_unless 25 false 67 rfl rfl rfl (Or.inl rfl) rfl ?_
          refine wl_unless 25 false 67 rfl rfl rfl (Or.inl rfl) rfl ?_
          refine wl_unless 25 false 67 rfl rfl rfl (Or.inl rfl) rfl ?_
          refine wl_unless 25 false 67 rfl rfl rfl (Or.inl rfl) rfl ?_
          refine wl_unless 25 false 67 rfl rfl rfl (Or.inl rfl) rfl ?_
          refine wl_vw (.bool true) 19 true 61 rfl rfl rfl rfl rfl (y_pickT rfl rfl rfl ⟨rfl, rfl⟩) ?_
          refine wl_vw (.bool true) 19 true 61 rfl rfl rfl rfl rfl (y_mov rfl rfl ⟨rfl, rfl⟩) ?_
          refine wl_unless 32 false 74 rfl rfl rfl (Or.inl rfl) rfl ?_
          refine wl_unless 32 false 74 rfl rfl rfl (Or.inl rfl) rfl ?_
          refine wl_unless 32 false 74 rfl rfl rfl (Or.inl rfl) rfl ?_
          refine wl_unless 32 false 74 rfl rfl rfl (Or.inl rfl) rfl ?_
          refine wl_unless 32 false 74 rfl rfl rfl (Or.inl rfl) rfl ?_
          refine wl_vw (.bool true) 19 true 61 rfl rfl rfl rfl rfl (y_pickT rfl rfl rfl ⟨rfl, rfl⟩) ?_
          refine wl_v (.bool true) rfl rfl (y_pickT rfl rfl rfl ⟨rfl, rfl⟩) ?_
          refine wl_v (.bool true) rfl rfl (y_asg rfl rfl ⟨rfl, rfl⟩) ?_
          refine wl_nil fun F129 hF130 => ?_
          have s131 : F129 131 = undef := (hF130 131).trans s93
          have s132 : F129 3 = .pointer (some ⟨p1, 0, none⟩) := (hF130 3).trans s94
          have s133 : F129 4 = .pointer (some ⟨p8, 0, none⟩) := (hF130 4).trans s95
          have s134 : F129 7 = .bool true := (hF130 7).trans s97
          have s135 : F129 9 = .bool true := (hF130 9).trans s99
          have s136 : F129 10 = .bool true := (hF130 10).trans rfl
          clear hF130
          exact ⟨s136.trans (congrArg Value.bool (show true = decide ((0 : Int) = 0) from (by first | rfl | exact decide_eq_decide.2 (by omega) | exact (decide_eq_true (by omega)).symm | (exfalso; omega)))), s132, s133, s134, s135, s131, K92, B88, B89, B90, B91⟩
        · skip
          by_cases d137 : (med (b) (d) (n)) = (d)
          · skip
            refine wq_region ?_
            refine wl_v (.pointer (some ⟨p53, 0, none⟩)) rfl rfl (y_fieldR (n := 1) rfl s98 Try.underlying33 rfl (by kernel_rfl) (by decide) rfl ⟨rfl, rfl⟩) ?_
            refine wl_v (.int .i64 (med (a) (c) (m))) rfl rfl (y_ld_stc rfl rfl Try.underlying3 B91 rfl rfl ⟨rfl, rfl⟩) ?_
            refine wl_v (.pointer (some ⟨p1, 0, none⟩)) rfl rfl (y_fieldR (n := 1) rfl s94 Try.underlying33 rfl (by kernel_rfl) (by decide) rfl ⟨rfl, rfl⟩) ?_
            refine wl_v (.int .i64 (a)) rfl rfl (y_ld_stc rfl rfl Try.underlying3 B88 rfl rfl ⟨rfl, rfl⟩) ?_
            refine wl_v (.bool false) rfl rfl (y_eqlI rfl rfl rfl (decide_eq_false d100) ⟨rfl, rfl⟩) ?_
            refine wl_v (.bool false) rfl rfl (y_mov rfl rfl ⟨rfl, rfl⟩) ?_
            refine wl_vw (.pointer (some ⟨p53, 0, none⟩)) 5 false 47 rfl rfl rfl rfl rfl (y_fieldR (n := 1) rfl s98 Try.underlying33 rfl (by kernel_rfl) (by decide) rfl ⟨rfl, rfl⟩) ?_
            refine wl_vw (.int .i64 (med (a) (c) (m))) 5 false 47 rfl rfl rfl rfl rfl (y_ld_stc rfl rfl Try.underlying3 B91 rfl rfl ⟨rfl, rfl⟩) ?_
            refine wl_vw (.pointer (some ⟨p8, 0, none⟩)) 5 false 47 rfl rfl rfl rfl rfl (y_fieldR (n := 1) rfl s95 Try.underlying33 rfl (by kernel_rfl) (by decide) rfl ⟨rfl, rfl⟩) ?_
            refine wl_vw (.int .i64 (c)) 5 false 47 rfl rfl rfl rfl rfl (y_ld_stc rfl rfl Try.underlying3 B89 rfl rfl ⟨rfl, rfl⟩) ?_
            refine wl_vw (.bool true) 5 false 47 rfl rfl rfl rfl rfl (y_eqlI rfl rfl rfl (decide_eq_true d127) ⟨rfl, rfl⟩) ?_
            refine wl_v (.bool true) rfl rfl (y_pickF rfl rfl rfl ⟨rfl, rfl⟩) ?_
            refine wl_v (.bool true) rfl rfl (y_mov rfl rfl ⟨rfl, rfl⟩) ?_
            refine wl_unless 12 false 54 rfl rfl rfl (Or.inl rfl) rfl ?_
            refine wl_unless 12 false 54 rfl rfl rfl (Or.inl rfl) rfl ?_
            refine wl_unless 12 false 54 rfl rfl rfl (Or.inl rfl) rfl ?_
            refine wl_unless 12 false 54 rfl rfl rfl (Or.inl rfl) rfl ?_
            refine wl_unless 12 false 54 rfl rfl rfl (Or.inl rfl) rfl ?_
            refine wl_v (.bool true) rfl rfl (y_pickT rfl rfl rfl ⟨rfl, rfl⟩) ?_
            refine wl_v (.bool true) rfl rfl (y_mov rfl rfl ⟨rfl, rfl⟩) ?_
            refine wl_vw (.pointer (some ⟨p53, 1, none⟩)) 19 true 61 rfl rfl rfl rfl rfl (y_fieldR (n := 1) rfl s98 Try.underlying33 rfl (by kernel_rfl) (by decide) rfl ⟨rfl, rfl⟩) ?_
            refine wl_vw (.int .i64 (med (b) (d) (n))) 19 true 61 rfl rfl rfl rfl rfl (y_ld_stc rfl rfl Try.underlying3 B91 rfl rfl ⟨rfl, rfl⟩) ?_
            refine wl_vw (.pointer (some ⟨p1, 1, none⟩)) 19 true 61 rfl rfl rfl rfl rfl (y_fieldR (n := 1) rfl s94 Try.underlying33 rfl (by kernel_rfl) (by decide) rfl ⟨rfl, rfl⟩) ?_
            refine wl_vw (.int .i64 (b)) 19 true 61 rfl rfl rfl rfl rfl (y_ld_stc rfl rfl Try.underlying3 B88 rfl rfl ⟨rfl, rfl⟩) ?_
            refine wl_vw (.bool false) 19 true 61 rfl rfl rfl rfl rfl (y_eqlI rfl rfl rfl (decide_eq_false d128) ⟨rfl, rfl⟩) ?_
            refine wl_vw (.bool false) 19 true 61 rfl rfl rfl rfl rfl (y_mov rfl rfl ⟨rfl, rfl⟩) ?_
            refine wl_vw (.pointer (some ⟨p53, 1, none⟩)) 25 false 67 rfl rfl rfl rfl rfl (y_fieldR (n := 1) rfl s98 Try.underlying33 rfl (by kernel_rfl) (by decide) rfl ⟨rfl, rfl⟩) ?_
            refine wl_vw (.int .i64 (med (b) (d) (n))) 25 false 67 rfl rfl rfl rfl rfl (y_ld_stc rfl rfl Try.underlying3 B91 rfl rfl ⟨rfl, rfl⟩) ?_
            refine wl_vw (.pointer (some ⟨p8, 1, none⟩)) 25 false 67 rfl rfl rfl rfl rfl (y_fieldR (n := 1) rfl s95 Try.underlying33 rfl (by kernel_rfl) (by decide) rfl ⟨rfl, rfl⟩) ?_
            refine wl_vw (.int .i64 (d)) 25 false 67 rfl rfl rfl rfl rfl (y_ld_stc rfl rfl Try.underlying3 B89 rfl rfl ⟨rfl, rfl⟩) ?_
            refine wl_vw (.bool true) 25 false 67 rfl rfl rfl rfl rfl (y_eqlI rfl rfl rfl (decide_eq_true d137) ⟨rfl, rfl⟩) ?_
            refine wl_vw (.bool true) 19 true 61 rfl rfl rfl rfl rfl (y_pickF rfl rfl rfl ⟨rfl, rfl⟩) ?_
            refine wl_vw (.bool true) 19 true 61 rfl rfl rfl rfl rfl (y_mov rfl rfl ⟨rfl, rfl⟩) ?_
            refine wl_unless 32 false 74 rfl rfl rfl (Or.inl rfl) rfl ?_
            refine wl_unless 32 false 74 rfl rfl rfl (Or.inl rfl) rfl ?_
            refine wl_unless 32 false 74 rfl rfl rfl (Or.inl rfl) rfl ?_
            refine wl_unless 32 false 74 rfl rfl rfl (Or.inl rfl) rfl ?_
            refine wl_unless 32 false 74 rfl rfl rfl (Or.inl rfl) rfl ?_
            refine wl_vw (.bool true) 19 true 61 rfl rfl rfl rfl rfl (y_pickT rfl rfl rfl ⟨rfl, rfl⟩) ?_
            refine wl_v (.bool true) rfl rfl (y_pickT rfl rfl rfl ⟨rfl, rfl⟩) ?_
            refine wl_v (.bool true) rfl rfl (y_asg rfl rfl ⟨rfl, rfl⟩) ?_
            refine wl_nil fun F138 hF139 => ?_
            have s140 : F138 131 = undef := (hF139 131).trans s93
            have s141 : F138 3 = .pointer (some ⟨p1, 0, none⟩) := (hF139 3).trans s94
            have s142 : F138 4 = .pointer (some ⟨p8, 0, none⟩) := (hF139 4).trans s95
            have s143 : F138 7 = .bool true := (hF139 7).trans s97
            have s144 : F138 9 = .bool true := (hF139 9).trans s99
            have s145 : F138 10 = .bool true := (hF139 10).trans rfl
            clear hF139
            exact ⟨s145.trans (congrArg Value.bool (show true = decide ((0 : Int) = 0) from (by first | rfl | exact decide_eq_decide.2 (by omega) | exact (decide_eq_true (by omega)).symm | (exfalso; omega)))), s141, s142, s143, s144, s140, K92, B88, B89, B90, B91⟩
          · skip
            refine wq_region ?_
            refine wl_v (.pointer (some ⟨p53, 0, none⟩)) rfl rfl (y_fieldR (n := 1) rfl s98 Try.underlying33 rfl (by kernel_rfl) (by decide) rfl ⟨rfl, rfl⟩) ?_
            refine wl_v (.int .i64 (med (a) (c) (m))) rfl rfl (y_ld_stc rfl rfl Try.underlying3 B91 rfl rfl ⟨rfl, rfl⟩) ?_
            refine wl_v (.pointer (some ⟨p1, 0, none⟩)) rfl rfl (y_fieldR (n := 1) rfl s94 Try.underlying33 rfl (by kernel_rfl) (by decide) rfl ⟨rfl, rfl⟩) ?_
            refine wl_v (.int .i64 (a)) rfl rfl (y_ld_stc rfl rfl Try.underlying3 B88 rfl rfl ⟨rfl, rfl⟩) ?_
            refine wl_v (.bool false) rfl rfl (y_eqlI rfl rfl rfl (decide_eq_false d100) ⟨rfl, rfl⟩) ?_
            refine wl_v (.bool false) rfl rfl (y_mov rfl rfl ⟨rfl, rfl⟩) ?_
            refine wl_vw (.pointer (some ⟨p53, 0, none⟩)) 5 false 47 rfl rfl rfl rfl rfl (y_fieldR (n := 1) rfl s98 Try.underlying33 rfl (by kernel_rfl) (by decide) rfl ⟨rfl, rfl⟩) ?_
            refine wl_vw (.int .i64 (med (a) (c) (m))) 5 false 47 rfl rfl rfl rfl rfl (y_ld_stc rfl rfl Try.underlying3 B91 rfl rfl ⟨rfl, rfl⟩) ?_
            refine wl_vw (.pointer (some ⟨p8, 0, none⟩)) 5 false 47 rfl rfl rfl rfl rfl (y_fieldR (n := 1) rfl s95 Try.underlying33 rfl (by kernel_rfl) (by decide) rfl ⟨rfl, rfl⟩) ?_
            refine wl_vw (.int .i64 (c)) 5 false 47 rfl rfl rfl rfl rfl (y_ld_stc rfl rfl Try.underlying3 B89 rfl rfl ⟨rfl, rfl⟩) ?_
            refine wl_vw (.bool true) 5 false 47 rfl rfl rfl rfl rfl (y_eqlI rfl rfl rfl (decide_eq_true d127) ⟨rfl, rfl⟩) ?_
            refine wl_v (.bool true) rfl rfl (y_pickF rfl rfl rfl ⟨rfl, rfl⟩) ?_
            refine wl_v (.bool true) rfl rfl (y_mov rfl rfl ⟨rfl, rfl⟩) ?_
            refine wl_unless 12 false 54 rfl rfl rfl (Or.inl rfl) rfl ?_
            refine wl_unless 12 false 54 rfl rfl rfl (Or.inl rfl) rfl ?_
            refine wl_unless 12 false 54 rfl rfl rfl (Or.inl rfl) rfl ?_
            refine wl_unless 12 false 54 rfl rfl rfl (Or.inl rfl) rfl ?_
            refine wl_unless 12 false 54 rfl rfl rfl (Or.inl rfl) rfl ?_
            refine wl_v (.bool true) rfl rfl (y_pickT rfl rfl rfl ⟨rfl, rfl⟩) ?_
            refine wl_v (.bool true) rfl rfl (y_mov rfl rfl ⟨rfl, rfl⟩) ?_
            refine wl_vw (.pointer (some ⟨p53, 1, none⟩)) 19 true 61 rfl rfl rfl rfl rfl (y_fieldR (n := 1) rfl s98 Try.underlying33 rfl (by kernel_rfl) (by decide) rfl ⟨rfl, rfl⟩) ?_
            refine wl_vw (.int .i64 (med (b) (d) (n))) 19 true 61 rfl rfl rfl rfl rfl (y_ld_stc rfl rfl Try.underlying3 B91 rfl rfl ⟨rfl, rfl⟩) ?_
            refine wl_vw (.pointer (some ⟨p1, 1, none⟩)) 19 true 61 rfl rfl rfl rfl rfl (y_fieldR (n := 1) rfl s94 Try.underlying33 rfl (by kernel_rfl) (by decide) rfl ⟨rfl, rfl⟩) ?_
            refine wl_vw (.int .i64 (b)) 19 true 61 rfl rfl rfl rfl rfl (y_ld_stc rfl rfl Try.underlying3 B88 rfl rfl ⟨rfl, rfl⟩) ?_
            refine wl_vw (.bool false) 19 true 61 rfl rfl rfl rfl rfl (y_eqlI rfl rfl rfl (decide_eq_false d128) ⟨rfl, rfl⟩) ?_
            refine wl_vw (.bool false) 19 true 61 rfl rfl rfl rfl rfl (y_mov rfl rfl ⟨rfl, rfl⟩) ?_
            refine wl_vw (.pointer (some ⟨p53, 1, none⟩)) 25 false 67 rfl rfl rfl rfl rfl (y_fieldR (n := 1) rfl s98 Try.underlying33 rfl (by kernel_rfl) (by decide) rfl ⟨rfl, rfl⟩) ?_
            refine wl_vw (.int .i64 (med (b) (d) (n))) 25 false 67 rfl rfl rfl rfl rfl (y_ld_stc rfl rfl Try.underlying3 B91 rfl rfl ⟨rfl, rfl⟩) ?_
            refine wl_vw (.pointer (some ⟨p8, 1, none⟩)) 25 false 67 rfl rfl rfl rfl rfl (y_fieldR (n := 1) rfl s95 Try.underlying33 rfl (by kernel_rfl) (by decide) rfl ⟨rfl, rfl⟩) ?_
            refine wl_vw (.int .i64 (d)) 25 false 67 rfl rfl rfl rfl rfl (y_ld_stc rfl rfl Try.underlying3 B89 rfl rfl ⟨rfl, rfl⟩) ?_
            refine wl_vw (.bool false) 25 false 67 rfl rfl rfl rfl rfl (y_eqlI rfl rfl rfl (decide_eq_false d137) ⟨rfl, rfl⟩) ?_
            refine wl_vw (.bool false) 19 true 61 rfl rfl rfl rfl rfl (y_pickF rfl rfl rfl ⟨rfl, rfl⟩) ?_
            refine wl_vw (.bool false) 19 true 61 rfl rfl rfl rfl rfl (y_mov rfl rfl ⟨rfl, rfl⟩) ?_
            refine wl_vw (.pointer (some ⟨p53, 1, none⟩)) 32 false 74 rfl rfl rfl rfl rfl (y_fieldR (n := 1) rfl s98 Try.underlying33 rfl (by kernel_rfl) (by decide) rfl ⟨rfl, rfl⟩) ?_
            refine wl_vw (.int .i64 (med (b) (d) (n))) 32 false 74 rfl rfl rfl rfl rfl (y_ld_stc rfl rfl Try.underlying3 B91 rfl rfl ⟨rfl, rfl⟩) ?_
            refine wl_vw (.pointer (some ⟨p17, 1, none⟩)) 32 false 74 rfl rfl rfl rfl rfl (y_fieldR (n := 1) rfl s96 Try.underlying33 rfl (by kernel_rfl) (by decide) rfl ⟨rfl, rfl⟩) ?_
            refine wl_vw (.int .i64 (n)) 32 false 74 rfl rfl rfl rfl rfl (y_ld_stc rfl rfl Try.underlying3 B90 rfl rfl ⟨rfl, rfl⟩) ?_
            refine wl_vw (.bool (decide ((med (b) (d) (n)) = (n)))) 32 false 74 rfl rfl rfl rfl rfl (y_eqlI rfl rfl rfl rfl ⟨rfl, rfl⟩) ?_
            refine wl_vw (.bool (decide ((med (b) (d) (n)) = (n)))) 19 true 61 rfl rfl rfl rfl rfl (y_pickF rfl rfl rfl ⟨rfl, rfl⟩) ?_
            refine wl_v (.bool (decide ((med (b) (d) (n)) = (n)))) rfl rfl (y_pickT rfl rfl rfl ⟨rfl, rfl⟩) ?_
            refine wl_v (.bool (decide ((med (b) (d) (n)) = (n)))) rfl rfl (y_asg rfl rfl ⟨rfl, rfl⟩) ?_
            refine wl_nil fun F146 hF147 => ?_
            have s148 : F146 131 = undef := (hF147 131).trans s93
            have s149 : F146 3 = .pointer (some ⟨p1, 0, none⟩) := (hF147 3).trans s94
            have s150 : F146 4 = .pointer (some ⟨p8, 0, none⟩) := (hF147 4).trans s95
            have s151 : F146 7 = .bool true := (hF147 7).trans s97
            have s152 : F146 9 = .bool true := (hF147 9).trans s99
            have s153 : F146 10 = .bool (decide ((med (b) (d) (n)) = (n))) := (hF147 10).trans rfl
            clear hF147
            exact ⟨s153.trans (congrArg Value.bool (show decide ((med (b) (d) (n)) = (n)) = decide ((0 : Int) = 0) from (by first | rfl | exact decide_eq_decide.2 (by omega) | exact (decide_eq_true (by omega)).symm | (exfalso; omega)))), s149, s150, s151, s152, s148, K92, B88, B89, B90, B91⟩
      · skip
        by_cases d154 : (med (a) (c) (m)) = (m)
        · skip
          by_cases d155 : (med (b) (d) (n)) = (b)
          · skip
            refine wq_region ?_
            refine wl_v (.pointer (some ⟨p53, 0, none⟩)) rfl rfl (y_fieldR (n := 1) rfl s98 Try.underlying33 rfl (by kernel_rfl) (by decide) rfl ⟨rfl, rfl⟩) ?_
            refine wl_v (.int .i64 (med (a) (c) (m))) rfl rfl (y_ld_stc rfl rfl Try.underlying3 B91 rfl rfl ⟨rfl, rfl⟩) ?_
            refine wl_v (.pointer (some ⟨p1, 0, none⟩)) rfl rfl (y_fieldR (n := 1) rfl s94 Try.underlying33 rfl (by kernel_rfl) (by decide) rfl ⟨rfl, rfl⟩) ?_
            refine wl_v (.int .i64 (a)) rfl rfl (y_ld_stc rfl rfl Try.underlying3 B88 rfl rfl ⟨rfl, rfl⟩) ?_
            refine wl_v (.bool false) rfl rfl (y_eqlI rfl rfl rfl (decide_eq_false d100) ⟨rfl, rfl⟩) ?_
            refine wl_v (.bool false) rfl rfl (y_mov rfl rfl ⟨rfl, rfl⟩) ?_
            refine wl_vw (.pointer (some ⟨p53, 0, none⟩)) 5 false 47 rfl rfl rfl rfl rfl (y_fieldR (n := 1) rfl s98 Try.underlying33 rfl (by kernel_rfl) (by decide) rfl ⟨rfl, rfl⟩) ?_
            refine wl_vw (.int .i64 (med (a) (c) (m))) 5 false 47 rfl rfl rfl rfl rfl (y_ld_stc rfl rfl Try.underlying3 B91 rfl rfl ⟨rfl, rfl⟩) ?_
            refine wl_vw (.pointer (some ⟨p8, 0, none⟩)) 5 false 47 rfl rfl rfl rfl rfl (y_fieldR (n := 1) rfl s95 Try.underlying33 rfl (by kernel_rfl) (by decide) rfl ⟨rfl, rfl⟩) ?_
            refine wl_vw (.int .i64 (c)) 5 false 47 rfl rfl rfl rfl rfl (y_ld_stc rfl rfl Try.underlying3 B89 rfl rfl ⟨rfl, rfl⟩) ?_
            refine wl_vw (.bool false) 5 false 47 rfl rfl rfl rfl rfl (y_eqlI rfl rfl rfl (decide_eq_false d127) ⟨rfl, rfl⟩) ?_
            refine wl_v (.bool false) rfl rfl (y_pickF rfl rfl rfl ⟨rfl, rfl⟩) ?_
            refine wl_v (.bool false) rfl rfl (y_mov rfl rfl ⟨rfl, rfl⟩) ?_
            refine wl_vw (.pointer (some ⟨p53, 0, none⟩)) 12 false 54 rfl rfl rfl rfl rfl (y_fieldR (n := 1) rfl s98 Try.underlying33 rfl (by kernel_rfl) (by decide) rfl ⟨rfl, rfl⟩) ?_
            refine wl_vw (.int .i64 (med (a) (c) (m))) 12 false 54 rfl rfl rfl rfl rfl (y_ld_stc rfl rfl Try.underlying3 B91 rfl rfl ⟨rfl, rfl⟩) ?_
            refine wl_vw (.pointer (some ⟨p17, 0, none⟩)) 12 false 54 rfl rfl rfl rfl rfl (y_fieldR (n := 1) rfl s96 Try.underlying33 rfl (by kernel_rfl) (by decide) rfl ⟨rfl, rfl⟩) ?_
            refine wl_vw (.int .i64 (m)) 12 false 54 rfl rfl rfl rfl rfl (y_ld_stc rfl rfl Try.underlying3 B90 rfl rfl ⟨rfl, rfl⟩) ?_
            refine wl_vw (.bool true) 12 false 54 rfl rfl rfl rfl rfl (y_eqlI rfl rfl rfl (decide_eq_true d154) ⟨rfl, rfl⟩) ?_
            refine wl_v (.bool true) rfl rfl (y_pickF rfl rfl rfl ⟨rfl, rfl⟩) ?_
            refine wl_v (.bool true) rfl rfl (y_mov rfl rfl ⟨rfl, rfl⟩) ?_
            refine wl_vw (.pointer (some ⟨p53, 1, none⟩)) 19 true 61 rfl rfl rfl rfl rfl (y_fieldR (n := 1) rfl s98 Try.underlying33 rfl (by kernel_rfl) (by decide) rfl ⟨rfl, rfl⟩) ?_
            refine wl_vw (.int .i64 (med (b) (d) (n))) 19 true 61 rfl rfl rfl rfl rfl (y_ld_stc rfl rfl Try.underlying3 B91 rfl rfl ⟨rfl, rfl⟩) ?_
            refine wl_vw (.pointer (some ⟨p1, 1, none⟩)) 19 true 61 rfl rfl rfl rfl rfl (y_fieldR (n := 1) rfl s94 Try.underlying33 rfl (by kernel_rfl) (by decide) rfl ⟨rfl, rfl⟩) ?_
            refine wl_vw (.int .i64 (b)) 19 true 61 rfl rfl rfl rfl rfl (y_ld_stc rfl rfl Try.underlying3 B88 rfl rfl ⟨rfl, rfl⟩) ?_
            refine wl_vw (.bool true) 19 true 61 rfl rfl rfl rfl rfl (y_eqlI rfl rfl rfl (decide_eq_true d155) ⟨rfl, rfl⟩) ?_
            refine wl_vw (.bool true) 19 true 61 rfl rfl rfl rfl rfl (y_mov rfl rfl ⟨rfl, rfl⟩) ?_
            refine wl_unless 25 false 67 rfl rfl rfl (Or.inl rfl) rfl ?_
            refine wl_unless 25 false 67 rfl rfl rfl (Or.inl rfl) rfl ?_
            refine wl_unless 25 false 67 rfl rfl rfl (Or.inl rfl) rfl ?_
            refine wl_unless 25 false 67 rfl rfl rfl (Or.inl rfl) rfl ?_
            refine wl_unless 25 false 67 rfl rfl rfl (Or.inl rfl) rfl ?_
            refine wl_vw (.bool true) 19 true 61 rfl rfl rfl rfl rfl (y_pickT rfl rfl rfl ⟨rfl, rfl⟩) ?_
            refine wl_vw (.bool true) 19 true 61 rfl rfl rfl rfl rfl (y_mov rfl rfl ⟨rfl, rfl⟩) ?_
            refine wl_unless 32 false 74 rfl rfl rfl (Or.inl rfl) rfl ?_
            refine wl_unless 32 false 74 rfl rfl rfl (Or.inl rfl) rfl ?_
            refine wl_unless 32 false 74 rfl rfl rfl (Or.inl rfl) rfl ?_
            refine wl_unless 32 false 74 rfl rfl rfl (Or.inl rfl) rfl ?_
            refine wl_unless 32 false 74 rfl rfl rfl (Or.inl rfl) rfl ?_
            refine wl_vw (.bool true) 19 true 61 rfl rfl rfl rfl rfl (y_pickT rfl rfl rfl ⟨rfl, rfl⟩) ?_
            refine wl_v (.bool true) rfl rfl (y_pickT rfl rfl rfl ⟨rfl, rfl⟩) ?_
            refine wl_v (.bool true) rfl rfl (y_asg rfl rfl ⟨rfl, rfl⟩) ?_
            refine wl_nil fun F156 hF157 => ?_
            have s158 : F156 131 = undef := (hF157 131).trans s93
            have s159 : F156 3 = .pointer (some ⟨p1, 0, none⟩) := (hF157 3).trans s94
            have s160 : F156 4 = .pointer (some ⟨p8, 0, none⟩) := (hF157 4).trans s95
            have s161 : F156 7 = .bool true := (hF157 7).trans s97
            have s162 : F156 9 = .bool true := (hF157 9).trans s99
            have s163 : F156 10 = .bool true := (hF157 10).trans rfl
            clear hF157
            exact ⟨s163.trans (congrArg Value.bool (show true = decide ((0 : Int) = 0) from (by first | rfl | exact decide_eq_decide.2 (by omega) | exact (decide_eq_true (by omega)).symm | (exfalso; omega)))), s159, s160, s161, s162, s158, K92, B88, B89, B90, B91⟩
          · skip
            by_cases d164 : (med (b) (d) (n)) = (d)
            · skip
              refine wq_region ?_
              refine wl_v (.pointer (some ⟨p53, 0, none⟩)) rfl rfl (y_fieldR (n := 1) rfl s98 Try.underlying33 rfl (by kernel_rfl) (by decide) rfl ⟨rfl, rfl⟩) ?_
              refine wl_v (.int .i64 (med (a) (c) (m))) rfl rfl (y_ld_stc rfl rfl Try.underlying3 B91 rfl rfl ⟨rfl, rfl⟩) ?_
              refine wl_v (.pointer (some ⟨p1, 0, none⟩)) rfl rfl (y_fieldR (n := 1) rfl s94 Try.underlying33 rfl (by kernel_rfl) (by decide) rfl ⟨rfl, rfl⟩) ?_
              refine wl_v (.int .i64 (a)) rfl rfl (y_ld_stc rfl rfl Try.underlying3 B88 rfl rfl ⟨rfl, rfl⟩) ?_
              refine wl_v (.bool false) rfl rfl (y_eqlI rfl rfl rfl (decide_eq_false d100) ⟨rfl, rfl⟩) ?_
              refine wl_v (.bool false) rfl rfl (y_mov rfl rfl ⟨rfl, rfl⟩) ?_
              refine wl_vw (.pointer (some ⟨p53, 0, none⟩)) 5 false 47 rfl rfl rfl rfl rfl (y_fieldR (n := 1) rfl s98 Try.underlying33 rfl (by kernel_rfl) (by decide) rfl ⟨rfl, rfl⟩) ?_
              refine wl_vw (.int .i64 (med (a) (c) (m))) 5 false 47 rfl rfl rfl rfl rfl (y_ld_stc rfl rfl Try.underlying3 B91 rfl rfl ⟨rfl, rfl⟩) ?_
              refine wl_vw (.pointer (some ⟨p8, 0, none⟩)) 5 false 47 rfl rfl rfl rfl rfl (y_fieldR (n := 1) rfl s95 Try.underlying33 rfl (by kernel_rfl) (by decide) rfl ⟨rfl, rfl⟩) ?_
              refine wl_vw (.int .i64 (c)) 5 false 47 rfl rfl rfl rfl rfl (y_ld_stc rfl rfl Try.underlying3 B89 rfl rfl ⟨rfl, rfl⟩) ?_
              refine wl_vw (.bool false) 5 false 47 rfl rfl rfl rfl rfl (y_eqlI rfl rfl rfl (decide_eq_false d127) ⟨rfl, rfl⟩) ?_
              refine wl_v (.bool false) rfl rfl (y_pickF rfl rfl rfl ⟨rfl, rfl⟩) ?_
              refine wl_v (.bool false) rfl rfl (y_mov rfl rfl ⟨rfl, rfl⟩) ?_
              refine wl_vw (.pointer (some ⟨p53, 0, none⟩)) 12 false 54 rfl rfl rfl rfl rfl (y_fieldR (n := 1) rfl s98 Try.underlying33 rfl (by kernel_rfl) (by decide) rfl ⟨rfl, rfl⟩) ?_
              refine wl_vw (.int .i64 (med (a) (c) (m))) 12 false 54 rfl rfl rfl rfl rfl (y_ld_stc rfl rfl Try.underlying3 B91 rfl rfl ⟨rfl, rfl⟩) ?_
              refine wl_vw (.pointer (some ⟨p17, 0, none⟩)) 12 false 54 rfl rfl rfl rfl rfl (y_fieldR (n := 1) rfl s96 Try.underlying33 rfl (by kernel_rfl) (by decide) rfl ⟨rfl, rfl⟩) ?_
              refine wl_vw (.int .i64 (m)) 12 false 54 rfl rfl rfl rfl rfl (y_ld_stc rfl rfl Try.underlying3 B90 rfl rfl ⟨rfl, rfl⟩) ?_
              refine wl_vw (.bool true) 12 false 54 rfl rfl rfl rfl rfl (y_eqlI rfl rfl rfl (decide_eq_true d154) ⟨rfl, rfl⟩) ?_
              refine wl_v (.bool true) rfl rfl (y_pickF rfl rfl rfl ⟨rfl, rfl⟩) ?_
              refine wl_v (.bool true) rfl rfl (y_mov rfl rfl ⟨rfl, rfl⟩) ?_
              refine wl_vw (.pointer (some ⟨p53, 1, none⟩)) 19 true 61 rfl rfl rfl rfl rfl (y_fieldR (n := 1) rfl s98 Try.underlying33 rfl (by kernel_rfl) (by decide) rfl ⟨rfl, rfl⟩) ?_
              refine wl_vw (.int .i64 (med (b) (d) (n))) 19 true 61 rfl rfl rfl rfl rfl (y_ld_stc rfl rfl Try.underlying3 B91 rfl rfl ⟨rfl, rfl⟩) ?_
              refine wl_vw (.pointer (some ⟨p1, 1, none⟩)) 19 true 61 rfl rfl rfl rfl rfl (y_fieldR (n := 1) rfl s94 Try.underlying33 rfl (by kernel_rfl) (by decide) rfl ⟨rfl, rfl⟩) ?_
              refine wl_vw (.int .i64 (b)) 19 true 61 rfl rfl rfl rfl rfl (y_ld_stc rfl rfl Try.underlying3 B88 rfl rfl ⟨rfl, rfl⟩) ?_
              refine wl_vw (.bool false) 19 true 61 rfl rfl rfl rfl rfl (y_eqlI rfl rfl rfl (decide_eq_false d155) ⟨rfl, rfl⟩) ?_
              refine wl_vw (.bool false) 19 true 61 rfl rfl rfl rfl rfl (y_mov rfl rfl ⟨rfl, rfl⟩) ?_
              refine wl_vw (.pointer (some ⟨p53, 1, none⟩)) 25 false 67 rfl rfl rfl rfl rfl (y_fieldR (n := 1) rfl s98 Try.underlying33 rfl (by kernel_rfl) (by decide) rfl ⟨rfl, rfl⟩) ?_
              refine wl_vw (.int .i64 (med (b) (d) (n))) 25 false 67 rfl rfl rfl rfl rfl (y_ld_stc rfl rfl Try.underlying3 B91 rfl rfl ⟨rfl, rfl⟩) ?_
              refine wl_vw (.pointer (some ⟨p8, 1, none⟩)) 25 false 67 rfl rfl rfl rfl rfl (y_fieldR (n := 1) rfl s95 Try.underlying33 rfl (by kernel_rfl) (by decide) rfl ⟨rfl, rfl⟩) ?_
              refine wl_vw (.int .i64 (d)) 25 false 67 rfl rfl rfl rfl rfl (y_ld_stc rfl rfl Try.underlying3 B89 rfl rfl ⟨rfl, rfl⟩) ?_
              refine wl_vw (.bool true) 25 false 67 rfl rfl rfl rfl rfl (y_eqlI rfl rfl rfl (decide_eq_true d164) ⟨rfl, rfl⟩) ?_
              refine wl_vw (.bool true) 19 true 61 rfl rfl rfl rfl rfl (y_pickF rfl rfl rfl ⟨rfl, rfl⟩) ?_
              refine wl_vw (.bool true) 19 true 61 rfl rfl rfl rfl rfl (y_mov rfl rfl ⟨rfl, rfl⟩) ?_
              refine wl_unless 32 false 74 rfl rfl rfl (Or.inl rfl) rfl ?_
              refine wl_unless 32 false 74 rfl rfl rfl (Or.inl rfl) rfl ?_
              refine wl_unless 32 false 74 rfl rfl rfl (Or.inl rfl) rfl ?_
              refine wl_unless 32 false 74 rfl rfl rfl (Or.inl rfl) rfl ?_
              refine wl_unless 32 false 74 rfl rfl rfl (Or.inl rfl) rfl ?_
              refine wl_vw (.bool true) 19 true 61 rfl rfl rfl rfl rfl (y_pickT rfl rfl rfl ⟨rfl, rfl⟩) ?_
              refine wl_v (.bool true) rfl rfl (y_pickT rfl rfl rfl ⟨rfl, rfl⟩) ?_
              refine wl_v (.bool true) rfl rfl (y_asg rfl rfl ⟨rfl, rfl⟩) ?_
              refine wl_nil fun F165 hF166 => ?_
              have s167 : F165 131 = undef := (hF166 131).trans s93
              have s168 : F165 3 = .pointer (some ⟨p1, 0, none⟩) := (hF166 3).trans s94
              have s169 : F165 4 = .pointer (some ⟨p8, 0, none⟩) := (hF166 4).trans s95
              have s170 : F165 7 = .bool true := (hF166 7).trans s97
              have s171 : F165 9 = .bool true := (hF166 9).trans s99
              have s172 : F165 10 = .bool true := (hF166 10).trans rfl
              clear hF166
              exact ⟨s172.trans (congrArg Value.bool (show true = decide ((0 : Int) = 0) from (by first | rfl | exact decide_eq_decide.2 (by omega) | exact (decide_eq_true (by omega)).symm | (exfalso; omega)))), s168, s169, s170, s171, s167, K92, B88, B89, B90, B91⟩
            · skip
              refine wq_region ?_
              refine wl_v (.pointer (some ⟨p53, 0, none⟩)) rfl rfl (y_fieldR (n := 1) rfl s98 Try.underlying33 rfl (by kernel_rfl) (by decide) rfl ⟨rfl, rfl⟩) ?_
              refine wl_v (.int .i64 (med (a) (c) (m))) rfl rfl (y_ld_stc rfl rfl Try.underlying3 B91 rfl rfl ⟨rfl, rfl⟩) ?_
              refine wl_v (.pointer (some ⟨p1, 0, none⟩)) rfl rfl (y_fieldR (n := 1) rfl s94 Try.underlying33 rfl (by kernel_rfl) (by decide) rfl ⟨rfl, rfl⟩) ?_
              refine wl_v (.int .i64 (a)) rfl rfl (y_ld_stc rfl rfl Try.underlying3 B88 rfl rfl ⟨rfl, rfl⟩) ?_
              refine wl_v (.bool false) rfl rfl (y_eqlI rfl rfl rfl (decide_eq_false d100) ⟨rfl, rfl⟩) ?_
              refine wl_v (.bool false) rfl rfl (y_mov rfl rfl ⟨rfl, rfl⟩) ?_
              refine wl_vw (.pointer (some ⟨p53, 0, none⟩)) 5 false 47 rfl rfl rfl rfl rfl (y_fieldR (n := 1) rfl s98 Try.underlying33 rfl (by kernel_rfl) (by decide) rfl ⟨rfl, rfl⟩) ?_
              refine wl_vw (.int .i64 (med (a) (c) (m))) 5 false 47 rfl rfl rfl rfl rfl (y_ld_stc rfl rfl Try.underlying3 B91 rfl rfl ⟨rfl, rfl⟩) ?_
              refine wl_vw (.pointer (some ⟨p8, 0, none⟩)) 5 false 47 rfl rfl rfl rfl rfl (y_fieldR (n := 1) rfl s95 Try.underlying33 rfl (by kernel_rfl) (by decide) rfl ⟨rfl, rfl⟩) ?_
              refine wl_vw (.int .i64 (c)) 5 false 47 rfl rfl rfl rfl rfl (y_ld_stc rfl rfl Try.underlying3 B89 rfl rfl ⟨rfl, rfl⟩) ?_
              refine wl_vw (.bool false) 5 false 47 rfl rfl rfl rfl rfl (y_eqlI rfl rfl rfl (decide_eq_false d127) ⟨rfl, rfl⟩) ?_
              refine wl_v (.bool false) rfl rfl (y_pickF rfl rfl rfl ⟨rfl, rfl⟩) ?_
              refine wl_v (.bool false) rfl rfl (y_mov rfl rfl ⟨rfl, rfl⟩) ?_
              refine wl_vw (.pointer (some ⟨p53, 0, none⟩)) 12 false 54 rfl rfl rfl rfl rfl (y_fieldR (n := 1) rfl s98 Try.underlying33 rfl (by kernel_rfl) (by decide) rfl ⟨rfl, rfl⟩) ?_
              refine wl_vw (.int .i64 (med (a) (c) (m))) 12 false 54 rfl rfl rfl rfl rfl (y_ld_stc rfl rfl Try.underlying3 B91 rfl rfl ⟨rfl, rfl⟩) ?_
              refine wl_vw (.pointer (some ⟨p17, 0, none⟩)) 12 false 54 rfl rfl rfl rfl rfl (y_fieldR (n := 1) rfl s96 Try.underlying33 rfl (by kernel_rfl) (by decide) rfl ⟨rfl, rfl⟩) ?_
              refine wl_vw (.int .i64 (m)) 12 false 54 rfl rfl rfl rfl rfl (y_ld_stc rfl rfl Try.underlying3 B90 rfl rfl ⟨rfl, rfl⟩) ?_
              refine wl_vw (.bool true) 12 false 54 rfl rfl rfl rfl rfl (y_eqlI rfl rfl rfl (decide_eq_true d154) ⟨rfl, rfl⟩) ?_
              refine wl_v (.bool true) rfl rfl (y_pickF rfl rfl rfl ⟨rfl, rfl⟩) ?_
              refine wl_v (.bool true) rfl rfl (y_mov rfl rfl ⟨rfl, rfl⟩) ?_
              refine wl_vw (.pointer (some ⟨p53, 1, none⟩)) 19 true 61 rfl rfl rfl rfl rfl (y_fieldR (n := 1) rfl s98 Try.underlying33 rfl (by kernel_rfl) (by decide) rfl ⟨rfl, rfl⟩) ?_
              refine wl_vw (.int .i64 (med (b) (d) (n))) 19 true 61 rfl rfl rfl rfl rfl (y_ld_stc rfl rfl Try.underlying3 B91 rfl rfl ⟨rfl, rfl⟩) ?_
              refine wl_vw (.pointer (some ⟨p1, 1, none⟩)) 19 true 61 rfl rfl rfl rfl rfl (y_fieldR (n := 1) rfl s94 Try.underlying33 rfl (by kernel_rfl) (by decide) rfl ⟨rfl, rfl⟩) ?_
              refine wl_vw (.int .i64 (b)) 19 true 61 rfl rfl rfl rfl rfl (y_ld_stc rfl rfl Try.underlying3 B88 rfl rfl ⟨rfl, rfl⟩) ?_
              refine wl_vw (.bool false) 19 true 61 rfl rfl rfl rfl rfl (y_eqlI rfl rfl rfl (decide_eq_false d155) ⟨rfl, rfl⟩) ?_
              refine wl_vw (.bool false) 19 true 61 rfl rfl rfl rfl rfl (y_mov rfl rfl ⟨rfl, rfl⟩) ?_
              refine wl_vw (.pointer (some ⟨p53, 1, none⟩)) 25 false 67 rfl rfl rfl rfl rfl (y_fieldR (n := 1) rfl s98 Try.underlying33 rfl (by kernel_rfl) (by decide) rfl ⟨rfl, rfl⟩) ?_
              refine wl_vw (.int .i64 (med (b) (d) (n))) 25 false 67 rfl rfl rfl rfl rfl (y_ld_stc rfl rfl Try.underlying3 B91 rfl rfl ⟨rfl, rfl⟩) ?_
              refine wl_vw (.pointer (some ⟨p8, 1, none⟩)) 25 false 67 rfl rfl rfl rfl rfl (y_fieldR (n := 1) rfl s95 Try.underlying33 rfl (by kernel_rfl) (by decide) rfl ⟨rfl, rfl⟩) ?_
              refine wl_vw (.int .i64 (d)) 25 false 67 rfl rfl rfl rfl rfl (y_ld_stc rfl rfl Try.underlying3 B89 rfl rfl ⟨rfl, rfl⟩) ?_
              refine wl_vw (.bool false) 25 false 67 rfl rfl rfl rfl rfl (y_eqlI rfl rfl rfl (decide_eq_false d164) ⟨rfl, rfl⟩) ?_
              refine wl_vw (.bool false) 19 true 61 rfl rfl rfl rfl rfl (y_pickF rfl rfl rfl ⟨rfl, rfl⟩) ?_
              refine wl_vw (.bool false) 19 true 61 rfl rfl rfl rfl rfl (y_mov rfl rfl ⟨rfl, rfl⟩) ?_
              refine wl_vw (.pointer (some ⟨p53, 1, none⟩)) 32 false 74 rfl rfl rfl rfl rfl (y_fieldR (n := 1) rfl s98 Try.underlying33 rfl (by kernel_rfl) (by decide) rfl ⟨rfl, rfl⟩) ?_
              refine wl_vw (.int .i64 (med (b) (d) (n))) 32 false 74 rfl rfl rfl rfl rfl (y_ld_stc rfl rfl Try.underlying3 B91 rfl rfl ⟨rfl, rfl⟩) ?_
              refine wl_vw (.pointer (some ⟨p17, 1, none⟩)) 32 false 74 rfl rfl rfl rfl rfl (y_fieldR (n := 1) rfl s96 Try.underlying33 rfl (by kernel_rfl) (by decide) rfl ⟨rfl, rfl⟩) ?_
              refine wl_vw (.int .i64 (n)) 32 false 74 rfl rfl rfl rfl rfl (y_ld_stc rfl rfl Try.underlying3 B90 rfl rfl ⟨rfl, rfl⟩) ?_
              refine wl_vw (.bool (decide ((med (b) (d) (n)) = (n)))) 32 false 74 rfl rfl rfl rfl rfl (y_eqlI rfl rfl rfl rfl ⟨rfl, rfl⟩) ?_
              refine wl_vw (.bool (decide ((med (b) (d) (n)) = (n)))) 19 true 61 rfl rfl rfl rfl rfl (y_pickF rfl rfl rfl ⟨rfl, rfl⟩) ?_
              refine wl_v (.bool (decide ((med (b) (d) (n)) = (n)))) rfl rfl (y_pickT rfl rfl rfl ⟨rfl, rfl⟩) ?_
              refine wl_v (.bool (decide ((med (b) (d) (n)) = (n)))) rfl rfl (y_asg rfl rfl ⟨rfl, rfl⟩) ?_
              refine wl_nil fun F173 hF174 => ?_
              have s175 : F173 131 = undef := (hF174 131).trans s93
              have s176 : F173 3 = .pointer (some ⟨p1, 0, none⟩) := (hF174 3).trans s94
              have s177 : F173 4 = .pointer (some ⟨p8, 0, none⟩) := (hF174 4).trans s95
              have s178 : F173 7 = .bool true := (hF174 7).trans s97
              have s179 : F173 9 = .bool true := (hF174 9).trans s99
              have s180 : F173 10 = .bool (decide ((med (b) (d) (n)) = (n))) := (hF174 10).trans rfl
              clear hF174
              exact ⟨s180.trans (congrArg Value.bool (show decide ((med (b) (d) (n)) = (n)) = decide ((0 : Int) = 0) from (by first | rfl | exact decide_eq_decide.2 (by omega) | exact (decide_eq_true (by omega)).symm | (exfalso; omega)))), s176, s177, s178, s179, s175, K92, B88, B89, B90, B91⟩
        · skip
          refine wq_region ?_
          refine wl_v (.pointer (some ⟨p53, 0, none⟩)) rfl rfl (y_fieldR (n := 1) rfl s98 Try.underlying33 rfl (by kernel_rfl) (by decide) rfl ⟨rfl, rfl⟩) ?_
          refine wl_v (.int .i64 (med (a) (c) (m))) rfl rfl (y_ld_stc rfl rfl Try.underlying3 B91 rfl rfl ⟨rfl, rfl⟩) ?_
          refine wl_v (.pointer (some ⟨p1, 0, none⟩)) rfl rfl (y_fieldR (n := 1) rfl s94 Try.underlying33 rfl (by kernel_rfl) (by decide) rfl ⟨rfl, rfl⟩) ?_
          refine wl_v (.int .i64 (a)) rfl rfl (y_ld_stc rfl rfl Try.underlying3 B88 rfl rfl ⟨rfl, rfl⟩) ?_
          refine wl_v (.bool false) rfl rfl (y_eqlI rfl rfl rfl (decide_eq_false d100) ⟨rfl, rfl⟩) ?_
          refine wl_v (.bool false) rfl rfl (y_mov rfl rfl ⟨rfl, rfl⟩) ?_
          refine wl_vw (.pointer (some ⟨p53, 0, none⟩)) 5 false 47 rfl rfl rfl rfl rfl (y_fieldR (n := 1) rfl s98 Try.underlying33 rfl (by kernel_rfl) (by decide) rfl ⟨rfl, rfl⟩) ?_
          refine wl_vw (.int .i64 (med (a) (c) (m))) 5 false 47 rfl rfl rfl rfl rfl (y_ld_stc rfl rfl Try.underlying3 B91 rfl rfl ⟨rfl, rfl⟩) ?_
          refine wl_vw (.pointer (some ⟨p8, 0, none⟩)) 5 false 47 rfl rfl rfl rfl rfl (y_fieldR (n := 1) rfl s95 Try.underlying33 rfl (by kernel_rfl) (by decide) rfl ⟨rfl, rfl⟩) ?_
          refine wl_vw (.int .i64 (c)) 5 false 47 rfl rfl rfl rfl rfl (y_ld_stc rfl rfl Try.underlying3 B89 rfl rfl ⟨rfl, rfl⟩) ?_
          refine wl_vw (.bool false) 5 false 47 rfl rfl rfl rfl rfl (y_eqlI rfl rfl rfl (decide_eq_false d127) ⟨rfl, rfl⟩) ?_
          refine wl_v (.bool false) rfl rfl (y_pickF rfl rfl rfl ⟨rfl, rfl⟩) ?_
          refine wl_v (.bool false) rfl rfl (y_mov rfl rfl ⟨rfl, rfl⟩) ?_
          refine wl_vw (.pointer (some ⟨p53, 0, none⟩)) 12 false 54 rfl rfl rfl rfl rfl (y_fieldR (n := 1) rfl s98 Try.underlying33 rfl (by kernel_rfl) (by decide) rfl ⟨rfl, rfl⟩) ?_
          refine wl_vw (.int .i64 (med (a) (c) (m))) 12 false 54 rfl rfl rfl rfl rfl (y_ld_stc rfl rfl Try.underlying3 B91 rfl rfl ⟨rfl, rfl⟩) ?_
          refine wl_vw (.pointer (some ⟨p17, 0, none⟩)) 12 false 54 rfl rfl rfl rfl rfl (y_fieldR (n := 1) rfl s96 Try.underlying33 rfl (by kernel_rfl) (by decide) rfl ⟨rfl, rfl⟩) ?_
          refine wl_vw (.int .i64 (m)) 12 false 54 rfl rfl rfl rfl rfl (y_ld_stc rfl rfl Try.underlying3 B90 rfl rfl ⟨rfl, rfl⟩) ?_
          refine wl_vw (.bool false) 12 false 54 rfl rfl rfl rfl rfl (y_eqlI rfl rfl rfl (decide_eq_false d154) ⟨rfl, rfl⟩) ?_
          refine wl_v (.bool false) rfl rfl (y_pickF rfl rfl rfl ⟨rfl, rfl⟩) ?_
          refine wl_v (.bool false) rfl rfl (y_mov rfl rfl ⟨rfl, rfl⟩) ?_
          refine wl_unless 19 true 61 rfl rfl rfl (Or.inl rfl) rfl ?_
          refine wl_unless 19 true 61 rfl rfl rfl (Or.inl rfl) rfl ?_
          refine wl_unless 19 true 61 rfl rfl rfl (Or.inl rfl) rfl ?_
          refine wl_unless 19 true 61 rfl rfl rfl (Or.inl rfl) rfl ?_
          refine wl_unless 19 true 61 rfl rfl rfl (Or.inl rfl) rfl ?_
          refine wl_unless 19 true 61 rfl rfl rfl (Or.inl rfl) rfl ?_
          refine wl_unless 25 false 67 rfl rfl rfl (Or.inr rfl) rfl ?_
          refine wl_unless 25 false 67 rfl rfl rfl (Or.inr rfl) rfl ?_
          refine wl_unless 25 false 67 rfl rfl rfl (Or.inr rfl) rfl ?_
          refine wl_unless 25 false 67 rfl rfl rfl (Or.inr rfl) rfl ?_
          refine wl_unless 25 false 67 rfl rfl rfl (Or.inr rfl) rfl ?_
          refine wl_unless 19 true 61 rfl rfl rfl (Or.inl rfl) rfl ?_
          refine wl_unless 19 true 61 rfl rfl rfl (Or.inl rfl) rfl ?_
          refine wl_unless 32 false 74 rfl rfl rfl (Or.inr rfl) rfl ?_
          refine wl_unless 32 false 74 rfl rfl rfl (Or.inr rfl) rfl ?_
          refine wl_unless 32 false 74 rfl rfl rfl (Or.inr rfl) rfl ?_
          refine wl_unless 32 false 74 rfl rfl rfl (Or.inr rfl) rfl ?_
          refine wl_unless 32 false 74 rfl rfl rfl (Or.inr rfl) rfl ?_
          refine wl_unless 19 true 61 rfl rfl rfl (Or.inl rfl) rfl ?_
          refine wl_v (.bool false) rfl rfl (y_pickF rfl rfl rfl ⟨rfl, rfl⟩) ?_
          refine wl_v (.bool false) rfl rfl (y_asg rfl rfl ⟨rfl, rfl⟩) ?_
          refine wl_nil fun F181 hF182 => ?_
          have s183 : F181 131 = undef := (hF182 131).trans s93
          have s184 : F181 3 = .pointer (some ⟨p1, 0, none⟩) := (hF182 3).trans s94
          have s185 : F181 4 = .pointer (some ⟨p8, 0, none⟩) := (hF182 4).trans s95
          have s186 : F181 7 = .bool true := (hF182 7).trans s97
          have s187 : F181 9 = .bool true := (hF182 9).trans s99
          have s188 : F181 10 = .bool false := (hF182 10).trans rfl
          clear hF182
          exact ⟨s188.trans (congrArg Value.bool (show false = decide ((0 : Int) = 0) from (by first | rfl | exact decide_eq_decide.2 (by omega) | exact (decide_eq_true (by omega)).symm | (exfalso; omega)))), s184, s185, s186, s187, s183, K92, B88, B89, B90, B91⟩
  · rintro F189 w190 ⟨s192, s193, s194, s195, s196, s197, K191, B198, B199, B200, B201⟩
    refine then_normal ?_
    refine wq_seq ?_
    have s202 : F189 10 = .bool true := s192.trans (congrArg Value.bool ((by simp)))
    refine wq_region ?_
    refine wl_call (R := fun v_ w_ => ∃ (v203 : Value) (T206 : Nat → Prop), .tuple #[v203, .int .i64 (newVE (3) (3))] = v_ ∧ Kept (fun _ => False) w190 w_ ∧ (Vpo w_ T206 v203 ((optV (3) (3))) ∧ Grew w190 noB T206)) rfl rfl (y_cs rfl rfl rfl (fun _ _ => by kernel_rfl) (ev_func _) (vsC rfl (vsC rfl vsN)) (vt_new (3) (3)  _   ) (fun e_ w_ h_ => by obtain ⟨v203_, T206_, he_, hr_⟩ := h_; exact ⟨_, he_, v203_, T206_, rfl, hr_⟩)) ?_
    rintro _ w204 ⟨v203, T206, rfl, k205, ⟨B207, g208⟩⟩
    have B209 := B198.all k205 id
    have B210 := B199.all k205 id
    have B211 := B200.all k205 id
    have B212 := B201.all k205 id
    have K213 := K191.trans k205 (fun _ _ x => x.elim)
    have gr214 : Grew w0 noB (T206) := Grew.new K191 g208
    have ap215 : Apart (T206) (onB p1) := Apart.new g208 (onB_live (B198).lt)
    have ap216 : Apart (T206) (onB p8) := Apart.new g208 (onB_live (B199).lt)
    have ap217 : Apart (T206) (onB p17) := Apart.new g208 (onB_live (B200).lt)
    have ap218 : Apart (T206) (onB p53) := Apart.new g208 (onB_live (B201).lt)
    refine wl_v (.tuple #[v203, .int .i64 (newVE (3) (3))]) rfl rfl (y_mov rfl rfl ⟨rfl, rfl⟩) ?_
    refine wl_v (v203) rfl rfl (y_ext rfl rfl rfl ⟨rfl, rfl⟩) ?_
    refine wl_v (.int .i64 (newVE (3) (3))) rfl rfl (y_ext rfl rfl rfl ⟨rfl, rfl⟩) ?_
    refine wl_v (v203) rfl rfl (y_asg rfl rfl ⟨rfl, rfl⟩) ?_
    refine wl_v (.int .i64 (newVE (3) (3))) rfl rfl (y_asg rfl rfl ⟨rfl, rfl⟩) ?_
    refine wl_nil fun F219 hF220 => ?_
    have s221 : F219 10 = .bool true := (hF220 10).trans s202
    have s222 : F219 3 = .pointer (some ⟨p1, 0, none⟩) := (hF220 3).trans s193
    have s223 : F219 4 = .pointer (some ⟨p8, 0, none⟩) := (hF220 4).trans s194
    have s224 : F219 7 = .bool true := (hF220 7).trans s195
    have s225 : F219 9 = .bool true := (hF220 9).trans s196
    have s226 : F219 131 = undef := (hF220 131).trans s197
    have s227 : F219 11 = v203 := (hF220 11).trans rfl
    clear hF220
    refine then_normal ?_
    refine wq_seq ?_
    have B228 : Vpo w204 (T206) v203 (some (newV 3 3)) := ((by rw [← optV_yes (by decide)]; exact B207))
    refine wq_region ?_
    refine wl_v (.pointer (some ⟨p1, 0, none⟩)) rfl rfl (y_fieldR (n := 1) rfl s222 Try.underlying33 rfl (by kernel_rfl) (by decide) rfl ⟨rfl, rfl⟩) ?_
    refine wl_v (.int .i64 (a)) rfl rfl (y_ld_stc rfl rfl Try.underlying3 B209 rfl rfl ⟨rfl, rfl⟩) ?_
    refine wl_v (.int .i64 (X)) rfl rfl (y_rem rfl rfl rfl (by first | decide | omega) (hX.symm) ⟨rfl, rfl⟩) ?_
    refine wl_v (.pointer (some ⟨p1, 1, none⟩)) rfl rfl (y_fieldR (n := 1) rfl s222 Try.underlying33 rfl (by kernel_rfl) (by decide) rfl ⟨rfl, rfl⟩) ?_
    refine wl_v (.int .i64 (b)) rfl rfl (y_ld_stc rfl rfl Try.underlying3 B209 rfl rfl ⟨rfl, rfl⟩) ?_
    refine wl_v (.int .i64 (Y)) rfl rfl (y_rem rfl rfl rfl (by first | decide | omega) (hY.symm) ⟨rfl, rfl⟩) ?_
    refine wl_v (.agg #[.int .i64 (X), .int .i64 (Y)]) rfl rfl (y_buildL (l' := [(0, .int .i64 (X)), (1, .int .i64 (Y))]) (cells := #[.int .i64 (X), .int .i64 (Y)]) rfl (bpC rfl (bpC rfl bpN)) (by kernel_rfl) rfl ⟨rfl, rfl⟩) ?_
    refine wl_alloc_stc (n := 2) (vs := [.int .i64 (0), .int .i64 (0)]) rfl rfl rfl (by kernel_rfl) fun p229 w230 B232 g233 k231 => ?_
    have gr234 : Grew w0 noB (onB p229) := Grew.new K213 g233
    have ap235 : Apart (onB p229) (onB p1) := Apart.new g233 (onB_live (B209).lt)
    have ap236 : Apart (onB p229) (onB p8) := Apart.new g233 (onB_live (B210).lt)
    have ap237 : Apart (onB p229) (onB p17) := Apart.new g233 (onB_live (B211).lt)
    have ap238 : Apart (onB p229) (onB p53) := Apart.new g233 (onB_live (B212).lt)
    have ap239 : Apart (onB p229) (T206) := Apart.new g233 (B228).live
    have B240 := B209.all k231 id
    have B241 := B210.all k231 id
    have B242 := B211.all k231 id
    have B243 := B212.all k231 id
    have B244 := B228.all k231 Apart.none
    have K245 := K213.trans k231 (fun _ _ x => x.elim)
    refine wl_store_stc (us := [.int .i64 (X), .int .i64 (Y)]) stcT_vector rfl rfl rfl rfl rfl B232 rfl (oneI rfl (oneI rfl oneN)) fun w246 B247 k248 => ?_
    have B249 := B240.all k248 (fun x => (((ap235).symm) p1 rfl x))
    have B250 := B241.all k248 (fun x => (((ap236).symm) p8 rfl x))
    have B251 := B242.all k248 (fun x => (((ap237).symm) p17 rfl x))
    have B252 := B243.all k248 (fun x => (((ap238).symm) p53 rfl x))
    have B253 := B244.all k248 (fun i h x => (((ap239).symm) i h x))
    have K254 := K245.trans k248 (Grew.ok (S := fun _ => False) gr234 noB_le)
    refine wl_nil fun F255 hF256 => ?_
    have s257 : F255 10 = .bool true := (hF256 10).trans s221
    have s258 : F255 3 = .pointer (some ⟨p1, 0, none⟩) := (hF256 3).trans s222
    have s259 : F255 4 = .pointer (some ⟨p8, 0, none⟩) := (hF256 4).trans s223
    have s260 : F255 7 = .bool true := (hF256 7).trans s224
    have s261 : F255 9 = .bool true := (hF256 9).trans s225
    have s262 : F255 131 = undef := (hF256 131).trans s226
    have s263 : F255 11 = v203 := (hF256 11).trans s227
    have s264 : F255 13 = .pointer (some ⟨p229, 0, none⟩) := (hF256 13).trans rfl
    clear hF256
    refine then_normal ?_
    refine wq_seq ?_
    refine wq_seq ?_
    refine wq_region ?_
    refine wl_v (.int .i64 (0)) rfl rfl (y_asg rfl rfl ⟨rfl, rfl⟩) ?_
    refine wl_nil fun F265 hF266 => ?_
    have s267 : F265 10 = .bool true := (hF266 10).trans s257
    have s268 : F265 3 = .pointer (some ⟨p1, 0, none⟩) := (hF266 3).trans s258
    have s269 : F265 4 = .pointer (some ⟨p8, 0, none⟩) := (hF266 4).trans s259
    have s270 : F265 7 = .bool true := (hF266 7).trans s260
    have s271 : F265 9 = .bool true := (hF266 9).trans s261
    have s272 : F265 131 = undef := (hF266 131).trans s262
    have s273 : F265 11 = v203 := (hF266 11).trans s263
    have s274 : F265 13 = .pointer (some ⟨p229, 0, none⟩) := (hF266 13).trans s264
    have s275 : F265 14 = .int .i64 (0) := (hF266 14).trans rfl
    clear hF266
    refine then_normal ?_
    refine wq_block ?_
    refine wq_loop (fun nn FF ww => ∃ (i : Nat), ∃ (T276 : Nat → Prop), (i ≤ 9) ∧ nn = 9 - i ∧ FF 3 = .pointer (some ⟨p1, 0, none⟩) ∧ FF 4 = .pointer (some ⟨p8, 0, none⟩) ∧ FF 7 = .bool true ∧ FF 9 = .bool true ∧ FF 10 = .bool true ∧ FF 11 = v203 ∧ FF 13 = .pointer (some ⟨p229, 0, none⟩) ∧ FF 131 = undef ∧ FF 14 = .int .i64 (((i : Nat) : Int)) ∧ Kept (fun _ => False) w0 ww ∧ Stc ww p1 33 [.int .i64 (a), .int .i64 (b)] ∧ Stc ww p8 33 [.int .i64 (c), .int .i64 (d)] ∧ Stc ww p17 33 [.int .i64 (m), .int .i64 (n)] ∧ Stc ww p53 33 [.int .i64 (med (a) (c) (m)), .int .i64 (med (b) (d) (n))] ∧ Vpo ww (T276) v203 (some (fillV X Y i)) ∧ Stc ww p229 33 [.int .i64 (X), .int .i64 (Y)] ∧ Grew w0 (noB) T276 ∧ Apart (T276) (onB p1) ∧ Apart (T276) (onB p8) ∧ Apart (T276) (onB p17) ∧ Apart (T276) (onB p53) ∧ Apart (T276) (onB p229)) (9 - (0)) ⟨0, T206, by omega, rfl, s268, s269, s270, s271, s267, s273, s274, s272, s275, K254, B249, B250, B251, B252, B253, B247, gr214, ap215, ap216, ap217, ap218, (ap239).symm⟩ ?_
    rintro n280 F277 w278 ⟨i, T276, i281, hn280, s282, s283, s284, s285, s286, s287, s288, s289, s290, K279, B291, B292, B293, B294, B295, B296, gr297, ap298, ap299, ap300, ap301, ap302⟩
    refine wq_seq ?_
    refine wq_seq ?_
    refine wq_region ?_
    refine wl_v (.int .i64 (((i : Nat) : Int))) rfl rfl (y_mov rfl s290 ⟨rfl, rfl⟩) ?_
    refine wl_v (.bool (decide ((((i : Nat) : Int)) < (9)))) rfl rfl (y_lss rfl rfl rfl rfl ⟨rfl, rfl⟩) ?_
    refine wl_nil fun F303 hF304 => ?_
    have s305 : F303 3 = .pointer (some ⟨p1, 0, none⟩) := (hF304 3).trans s282
    have s306 : F303 4 = .pointer (some ⟨p8, 0, none⟩) := (hF304 4).trans s283
    have s307 : F303 7 = .bool true := (hF304 7).trans s284
    have s308 : F303 9 = .bool true := (hF304 9).trans s285
    have s309 : F303 10 = .bool true := (hF304 10).trans s286
    have s310 : F303 11 = v203 := (hF304 11).trans s287
    have s311 : F303 13 = .pointer (some ⟨p229, 0, none⟩) := (hF304 13).trans s288
    have s312 : F303 131 = undef := (hF304 131).trans s289
    have s313 : F303 14 = .int .i64 (((i : Nat) : Int)) := (hF304 14).trans s290
    have s314 : F303 94 = .bool (decide ((((i : Nat) : Int)) < (9))) := (hF304 94).trans rfl
    clear hF304
    refine then_normal ?_
    refine wq_cond s314 (fun c315 => ?_) (fun c315 => ?_)
    · replace c315 := of_decide_eq_true c315
      refine wq_skip ?_
      refine then_normal ?_
      refine wq_seq ?_
      refine wq_block ?_
      refine wq_region ?_
      refine wl_v (v203) rfl rfl (y_mov rfl s310 ⟨rfl, rfl⟩) ?_
      refine wl_v (.int .i64 (((i : Nat) : Int))) rfl rfl (y_mov rfl s313 ⟨rfl, rfl⟩) ?_
      refine wl_v (.int .i64 ((((i % 3) : Nat) : Int))) rfl rfl (y_rem rfl rfl rfl (by first | decide | omega) (rem_nat i 3) ⟨rfl, rfl⟩) ?_
      refine wl_v (.int .i64 (((i : Nat) : Int))) rfl rfl (y_mov rfl s313 ⟨rfl, rfl⟩) ?_
      refine wl_v (.int .i64 ((((i / 3) : Nat) : Int))) rfl rfl (y_quo rfl rfl rfl (by first | decide | omega) (i64_n (quo_nat i 3) (by omega)) ⟨rfl, rfl⟩) ?_
      refine wl_v (.agg #[.int .i64 (X), .int .i64 (Y)]) rfl rfl (y_load_stc stcT_vector rfl s311 B296 ⟨rfl, rfl⟩) ?_
      refine wl_call (R := fun v_ w_ => ∃ (T318 : Nat → Prop), .int .i64 (setO (some (fillV X Y i)) ((((i % 3) : Nat) : Int)) ((((i / 3) : Nat) : Int)) (X) (Y)) = v_ ∧ Kept (T276) w278 w_ ∧ (Vpo w_ T318 v203 ((putO (some (fillV X Y i)) ((((i % 3) : Nat) : Int)) ((((i / 3) : Nat) : Int)) (X) (Y))) ∧ Grew w278 (T276) T318)) rfl rfl (y_cs rfl rfl rfl (fun _ _ => by kernel_rfl) (ev_func _) (vsC rfl (vsC rfl (vsC rfl (vsC rfl vsN)))) (vt_set (v203) (some (fillV X Y i)) ((((i % 3) : Nat) : Int)) ((((i / 3) : Nat) : Int)) (X) (Y) (T276) _ (by unfold inI; omega) (by unfold inI; omega) B295 ) (fun e_ w_ h_ => by obtain ⟨T318_, he_, hr_⟩ := h_; exact ⟨_, he_, T318_, rfl, hr_⟩)) ?_
      rintro _ w316 ⟨T318, rfl, k317, ⟨B319, g320⟩⟩
      have B321 := B291.all k317 (fun x => (((ap298).symm) p1 rfl x))
      have B322 := B292.all k317 (fun x => (((ap299).symm) p8 rfl x))
      have B323 := B293.all k317 (fun x => (((ap300).symm) p17 rfl x))
      have B324 := B294.all k317 (fun x => (((ap301).symm) p53 rfl x))
      have B325 := B296.all k317 (fun x => (((ap302).symm) p229 rfl x))
      have K326 := K279.trans k317 (fun i hi x => ((Grew.ok (S := fun _ => False) gr297 noB_le) i hi x))
      have gr327 := gr297.trans K279 g320
      have ap328 : Apart T318 (onB p1) := (ap298).grew g320 (onB_live (B291).lt)
      have ap329 : Apart T318 (onB p8) := (ap299).grew g320 (onB_live (B292).lt)
      have ap330 : Apart T318 (onB p17) := (ap300).grew g320 (onB_live (B293).lt)
      have ap331 : Apart T318 (onB p53) := (ap301).grew g320 (onB_live (B294).lt)
      have ap332 : Apart T318 (onB p229) := (ap302).grew g320 (onB_live (B296).lt)
      refine wl_nil fun F333 hF334 => ?_
      have s335 : F333 3 = .pointer (some ⟨p1, 0, none⟩) := (hF334 3).trans s305
      have s336 : F333 4 = .pointer (some ⟨p8, 0, none⟩) := (hF334 4).trans s306
      have s337 : F333 7 = .bool true := (hF334 7).trans s307
      have s338 : F333 9 = .bool true := (hF334 9).trans s308
      have s339 : F333 10 = .bool true := (hF334 10).trans s309
      have s340 : F333 11 = v203 := (hF334 11).trans s310
      have s341 : F333 13 = .pointer (some ⟨p229, 0, none⟩) := (hF334 13).trans s311
      have s342 : F333 131 = undef := (hF334 131).trans s312
      have s343 : F333 14 = .int .i64 (((i : Nat) : Int)) := (hF334 14).trans s313
      clear hF334
      refine in_normal ?_
      refine then_normal ?_
      refine wq_region ?_
      refine wl_v (.int .i64 (((i : Nat) : Int))) rfl rfl (y_mov rfl s343 ⟨rfl, rfl⟩) ?_
      refine wl_v (.int .i64 (((i + 1 : Nat) : Int))) rfl rfl (y_add rfl rfl rfl (i64_n (by omega) (by omega)) ⟨rfl, rfl⟩) ?_
      refine wl_v (.int .i64 (((i + 1 : Nat) : Int))) rfl rfl (y_asg rfl rfl ⟨rfl, rfl⟩) ?_
      refine wl_nil fun F344 hF345 => ?_
      have s346 : F344 3 = .pointer (some ⟨p1, 0, none⟩) := (hF345 3).trans s335
      have s347 : F344 4 = .pointer (some ⟨p8, 0, none⟩) := (hF345 4).trans s336
      have s348 : F344 7 = .bool true := (hF345 7).trans s337
      have s349 : F344 9 = .bool true := (hF345 9).trans s338
      have s350 : F344 10 = .bool true := (hF345 10).trans s339
      have s351 : F344 11 = v203 := (hF345 11).trans s340
      have s352 : F344 13 = .pointer (some ⟨p229, 0, none⟩) := (hF345 13).trans s341
      have s353 : F344 131 = undef := (hF345 131).trans s342
      have s354 : F344 14 = .int .i64 (((i + 1 : Nat) : Int)) := (hF345 14).trans rfl
      clear hF345
      exact then_normal ⟨(9 - (i + 1)), by omega, i + 1, T318, by omega, rfl, s346, s347, s348, s349, s350, s351, s352, s353, s354, K326, B321, B322, B323, B324, B319, B325, gr327, ap328, ap329, ap330, ap331, ap332⟩
    · replace c315 := of_decide_eq_false c315
      refine wq_exit ?_
      refine then_exit ?_
      refine then_exit ?_
      have l355 : 9 = i := by omega
      subst l355
      refine in_here ?_
      refine then_normal ?_
      refine wq_seq ?_
      refine wq_said [some 104, some 105, some 106, some 107, some 108, some 109, some 110, some 111, some 112, some 113, some 114, some 115, some 116, some 117, some 118, some 119, some 120, some 121, some 122, some 123, some 124, some 125, some 126, some 127, some 128, some 129, some 130, some 6] [Pd.eq (.bool true), Pd.eq (.bool true), Pd.eq (.bool true), Pd.eq (.bool true), Pd.eq (.bool true), Pd.eq (.bool true), Pd.eq (.bool true), Pd.eq (.bool true), Pd.eq (.agg #[.int .i64 (a), .int .i64 (b)]), Pd.eq (.agg #[.int .i64 (a), .int .i64 (b)]), Pd.eq (.agg #[.int .i64 (c), .int .i64 (d)]), Pd.eq (.agg #[.int .i64 (med (a) (a) (c)), .int .i64 (med (b) (b) (d))]), Pd.eq (.agg #[.int .i64 (a), .int .i64 (b)]), Pd.eq (.bool true), Pd.eq (.bool true), Pd.eq (.bool true), Pd.eq (v203), Pd.eq (.agg #[.int .i64 (gOX (some (fillV X Y 9)) (1) (1)), .int .i64 (gOY (some (fillV X Y 9)) (1) (1))]), Pd.eq (.agg #[.int .i64 (X), .int .i64 (Y)]), Pd.eq (.bool true), Pd.eq (.bool true), Pd.eq (.bool true), Pd.eq (v203), Pd.eq (.agg #[.int .i64 (gOX (some (fillV X Y 9)) (0) (0)), .int .i64 (gOY (some (fillV X Y 9)) (0) (0))]), Pd.eq (.agg #[.int .i64 (0), .int .i64 (0)]), Pd.eq (.bool true), Pd.eq (.bool true), Pd.eq (.bool true)] (by kernel_rfl) (by kernel_rfl) ?_ ?_
      · refine stepsF_cons ?_ ?_
        · refine StepF.one rfl fun F_ w_ hR hout hD => ?_
          exact (y_mov rfl ((hout 7 rfl (by decide)).trans s307) ⟨rfl, Kept.refl _ _⟩)
        refine stepsF_cons ?_ ?_
        · refine StepF.one rfl fun F_ w_ hR hout hD => ?_
          have g104 : F_ 104 = .bool true := (hD.get 0 rfl rfl rfl)
          exact (y_mov rfl g104 ⟨rfl, Kept.refl _ _⟩)
        refine stepsF_cons ?_ ?_
        · refine StepF.when 1 true 105 rfl rfl fun F_ w_ hR hout hD => ?_
          have g105 : F_ 105 = .bool true := (hD.get 0 rfl rfl rfl)
          exact ⟨g105, (y_mov rfl ((hout 9 rfl (by decide)).trans s308) ⟨rfl, Kept.refl _ _⟩)⟩
        refine stepsF_cons ?_ ?_
        · refine StepF.one rfl fun F_ w_ hR hout hD => ?_
          have g105 : F_ 105 = .bool true := (hD.get 0 rfl rfl rfl)
          have g106 : F_ 106 = .bool true := (hD.get 1 rfl rfl rfl)
          exact (y_pickT rfl g105 g106 ⟨rfl, Kept.refl _ _⟩)
        refine stepsF_cons ?_ ?_
        · refine StepF.one rfl fun F_ w_ hR hout hD => ?_
          have g107 : F_ 107 = .bool true := (hD.get 0 rfl rfl rfl)
          exact (y_mov rfl g107 ⟨rfl, Kept.refl _ _⟩)
        refine stepsF_cons ?_ ?_
        · refine StepF.when 4 true 108 rfl rfl fun F_ w_ hR hout hD => ?_
          have g108 : F_ 108 = .bool true := (hD.get 0 rfl rfl rfl)
          exact ⟨g108, (y_mov rfl ((hout 10 rfl (by decide)).trans s309) ⟨rfl, Kept.refl _ _⟩)⟩
        refine stepsF_cons ?_ ?_
        · refine StepF.one rfl fun F_ w_ hR hout hD => ?_
          have g108 : F_ 108 = .bool true := (hD.get 0 rfl rfl rfl)
          have g109 : F_ 109 = .bool true := (hD.get 1 rfl rfl rfl)
          exact (y_pickT rfl g108 g109 ⟨rfl, Kept.refl _ _⟩)
        refine stepsF_cons ?_ ?_
        · refine StepF.one rfl fun F_ w_ hR hout hD => ?_
          have g110 : F_ 110 = .bool true := (hD.get 0 rfl rfl rfl)
          exact (y_mov rfl g110 ⟨rfl, Kept.refl _ _⟩)
        refine stepsF_cons ?_ ?_
        · refine StepF.when 7 true 111 rfl rfl fun F_ w_ hR hout hD => ?_
          have g111 : F_ 111 = .bool true := (hD.get 0 rfl rfl rfl)
          exact ⟨g111, (y_load_stc stcT_vector rfl ((hout 3 rfl (by decide)).trans s305) (B291.all hR id) ⟨rfl, Kept.refl _ _⟩)⟩
        refine stepsF_cons ?_ ?_
        · refine StepF.when 7 true 111 rfl rfl fun F_ w_ hR hout hD => ?_
          have g111 : F_ 111 = .bool true := (hD.get 0 rfl rfl rfl)
          exact ⟨g111, (y_load_stc stcT_vector rfl ((hout 3 rfl (by decide)).trans s305) (B291.all hR id) ⟨rfl, Kept.refl _ _⟩)⟩
        refine stepsF_cons ?_ ?_
        · refine StepF.when 7 true 111 rfl rfl fun F_ w_ hR hout hD => ?_
          have g111 : F_ 111 = .bool true := (hD.get 0 rfl rfl rfl)
          exact ⟨g111, (y_load_stc stcT_vector rfl ((hout 4 rfl (by decide)).trans s306) (B292.all hR id) ⟨rfl, Kept.refl _ _⟩)⟩
        refine stepsF_cons ?_ ?_
        · refine StepF.when 7 true 111 rfl rfl fun F_ w_ hR hout hD => ?_
          have g111 : F_ 111 = .bool true := (hD.get 3 rfl rfl rfl)
          have g112 : F_ 112 = .agg #[.int .i64 (a), .int .i64 (b)] := (hD.get 0 rfl rfl rfl)
          have g113 : F_ 113 = .agg #[.int .i64 (a), .int .i64 (b)] := (hD.get 1 rfl rfl rfl)
          have g114 : F_ 114 = .agg #[.int .i64 (c), .int .i64 (d)] := (hD.get 2 rfl rfl rfl)
          exact ⟨g111, (y_cs rfl rfl rfl (fun _ _ => by kernel_rfl) (ev_func _) (vsC g112 (vsC g113 (vsC g114 vsN))) (vt_median (a) (b) (a) (b) (c) (d)  _   ) (fun e_ w_ h_ => ⟨_, h_.1, rfl, h_.2⟩))⟩
        refine stepsF_cons ?_ ?_
        · refine StepF.when 7 true 111 rfl rfl fun F_ w_ hR hout hD => ?_
          have g111 : F_ 111 = .bool true := (hD.get 0 rfl rfl rfl)
          exact ⟨g111, (y_load_stc stcT_vector rfl ((hout 3 rfl (by decide)).trans s305) (B291.all hR id) ⟨rfl, Kept.refl _ _⟩)⟩
        refine stepsF_cons ?_ ?_
        · refine StepF.when 7 true 111 rfl rfl fun F_ w_ hR hout hD => ?_
          have g111 : F_ 111 = .bool true := (hD.get 2 rfl rfl rfl)
          have g115 : F_ 115 = .agg #[.int .i64 (med (a) (a) (c)), .int .i64 (med (b) (b) (d))] := (hD.get 0 rfl rfl rfl)
          have g116 : F_ 116 = .agg #[.int .i64 (a), .int .i64 (b)] := (hD.get 1 rfl rfl rfl)
          exact ⟨g111, (y_eqlVec rfl g115 g116 (same_med4 a b c d) ⟨rfl, Kept.refl _ _⟩)⟩
        refine stepsF_cons ?_ ?_
        · refine StepF.one rfl fun F_ w_ hR hout hD => ?_
          have g111 : F_ 111 = .bool true := (hD.get 0 rfl rfl rfl)
          have g117 : F_ 117 = .bool true := (hD.get 1 rfl rfl rfl)
          exact (y_pickT rfl g111 g117 ⟨rfl, Kept.refl _ _⟩)
        refine stepsF_cons ?_ ?_
        · refine StepF.one rfl fun F_ w_ hR hout hD => ?_
          have g118 : F_ 118 = .bool true := (hD.get 0 rfl rfl rfl)
          exact (y_mov rfl g118 ⟨rfl, Kept.refl _ _⟩)
        refine stepsF_cons ?_ ?_
        · refine StepF.when 15 true 119 rfl rfl fun F_ w_ hR hout hD => ?_
          have g119 : F_ 119 = .bool true := (hD.get 0 rfl rfl rfl)
          exact ⟨g119, (y_mov rfl ((hout 11 rfl (by decide)).trans s310) ⟨rfl, Kept.refl _ _⟩)⟩
        refine stepsF_cons ?_ ?_
        · refine StepF.when 15 true 119 rfl rfl fun F_ w_ hR hout hD => ?_
          have g119 : F_ 119 = .bool true := (hD.get 1 rfl rfl rfl)
          have g120 : F_ 120 = v203 := (hD.get 0 rfl rfl rfl)
          exact ⟨g119, (y_cs rfl rfl rfl (fun _ _ => by kernel_rfl) (ev_func _) (vsC g120 (vsC rfl (vsC rfl vsN))) (vt_guess (v203) (some (fillV X Y 9)) (1) (1) (T276) _ (by unfold inI; omega) (by unfold inI; omega) (B295.all hR Apart.none) ) (fun e_ w_ h_ => ⟨_, h_.1, rfl, h_.2⟩))⟩
        refine stepsF_cons ?_ ?_
        · refine StepF.when 15 true 119 rfl rfl fun F_ w_ hR hout hD => ?_
          have g119 : F_ 119 = .bool true := (hD.get 0 rfl rfl rfl)
          exact ⟨g119, (y_load_stc stcT_vector rfl ((hout 13 rfl (by decide)).trans s311) (B296.all hR id) ⟨rfl, Kept.refl _ _⟩)⟩
        refine stepsF_cons ?_ ?_
        · refine StepF.when 15 true 119 rfl rfl fun F_ w_ hR hout hD => ?_
          have g119 : F_ 119 = .bool true := (hD.get 2 rfl rfl rfl)
          have g121 : F_ 121 = .agg #[.int .i64 (gOX (some (fillV X Y 9)) (1) (1)), .int .i64 (gOY (some (fillV X Y 9)) (1) (1))] := (hD.get 0 rfl rfl rfl)
          have g122 : F_ 122 = .agg #[.int .i64 (X), .int .i64 (Y)] := (hD.get 1 rfl rfl rfl)
          exact ⟨g119, (y_eqlVec rfl g121 g122 ((by have e := hfa.out; show sameVec (gX (fillV X Y 9) 1 1) (gY (fillV X Y 9) 1 1) X Y = true; rw [e.1, e.2.1]; exact sameVec_self _ _)) ⟨rfl, Kept.refl _ _⟩)⟩
        refine stepsF_cons ?_ ?_
        · refine StepF.one rfl fun F_ w_ hR hout hD => ?_
          have g119 : F_ 119 = .bool true := (hD.get 0 rfl rfl rfl)
          have g123 : F_ 123 = .bool true := (hD.get 1 rfl rfl rfl)
          exact (y_pickT rfl g119 g123 ⟨rfl, Kept.refl _ _⟩)
        refine stepsF_cons ?_ ?_
        · refine StepF.one rfl fun F_ w_ hR hout hD => ?_
          have g124 : F_ 124 = .bool true := (hD.get 0 rfl rfl rfl)
          exact (y_mov rfl g124 ⟨rfl, Kept.refl _ _⟩)
        refine stepsF_cons ?_ ?_
        · refine StepF.when 21 true 125 rfl rfl fun F_ w_ hR hout hD => ?_
          have g125 : F_ 125 = .bool true := (hD.get 0 rfl rfl rfl)
          exact ⟨g125, (y_mov rfl ((hout 11 rfl (by decide)).trans s310) ⟨rfl, Kept.refl _ _⟩)⟩
        refine stepsF_cons ?_ ?_
        · refine StepF.when 21 true 125 rfl rfl fun F_ w_ hR hout hD => ?_
          have g125 : F_ 125 = .bool true := (hD.get 1 rfl rfl rfl)
          have g126 : F_ 126 = v203 := (hD.get 0 rfl rfl rfl)
          exact ⟨g125, (y_cs rfl rfl rfl (fun _ _ => by kernel_rfl) (ev_func _) (vsC g126 (vsC rfl (vsC rfl vsN))) (vt_guess (v203) (some (fillV X Y 9)) (0) (0) (T276) _ (by unfold inI; omega) (by unfold inI; omega) (B295.all hR Apart.none) ) (fun e_ w_ h_ => ⟨_, h_.1, rfl, h_.2⟩))⟩
        refine stepsF_cons ?_ ?_
        · refine StepF.when 21 true 125 rfl rfl fun F_ w_ hR hout hD => ?_
          have g125 : F_ 125 = .bool true := (hD.get 0 rfl rfl rfl)
          exact ⟨g125, (y_buildL (l' := []) (cells := #[.int .i64 (0), .int .i64 (0)]) rfl bpN (by kernel_rfl) rfl ⟨rfl, Kept.refl _ _⟩)⟩
        refine stepsF_cons ?_ ?_
        · refine StepF.when 21 true 125 rfl rfl fun F_ w_ hR hout hD => ?_
          have g125 : F_ 125 = .bool true := (hD.get 2 rfl rfl rfl)
          have g127 : F_ 127 = .agg #[.int .i64 (gOX (some (fillV X Y 9)) (0) (0)), .int .i64 (gOY (some (fillV X Y 9)) (0) (0))] := (hD.get 0 rfl rfl rfl)
          have g128 : F_ 128 = .agg #[.int .i64 (0), .int .i64 (0)] := (hD.get 1 rfl rfl rfl)
          exact ⟨g125, (y_eqlVec rfl g127 g128 ((by have e := hfa.out; show sameVec (gX (fillV X Y 9) 0 0) (gY (fillV X Y 9) 0 0) 0 0 = true; rw [e.2.2.1, e.2.2.2]; rfl)) ⟨rfl, Kept.refl _ _⟩)⟩
        refine stepsF_cons ?_ ?_
        · refine StepF.one rfl fun F_ w_ hR hout hD => ?_
          have g125 : F_ 125 = .bool true := (hD.get 0 rfl rfl rfl)
          have g129 : F_ 129 = .bool true := (hD.get 1 rfl rfl rfl)
          exact (y_pickT rfl g125 g129 ⟨rfl, Kept.refl _ _⟩)
        refine stepsF_cons ?_ ?_
        · refine StepF.one rfl fun F_ w_ hR hout hD => ?_
          have g130 : F_ 130 = .bool true := (hD.get 0 rfl rfl rfl)
          exact (y_asg rfl g130 ⟨rfl, Kept.refl _ _⟩)
        exact stepsF_nil
      intro v356 F357 w358 k359 G360 hF361
      have B363 := B291.all k359 id
      have B364 := B292.all k359 id
      have B365 := B293.all k359 id
      have B366 := B294.all k359 id
      have B367 := B295.all k359 Apart.none
      have B368 := B296.all k359 id
      have K369 := K279.trans k359 (fun _ _ x => x.elim)
      have s370 : F357 131 = undef := (hF361 131).trans s312
      have s371 : F357 6 = .bool true := (hF361 6).trans (G360 27 (by decide))
      clear G360 hF361
      refine then_normal ?_
      refine wq_ret ?_
      exact end_tmp (v := .bool true) s370 rfl rfl s371 ⟨rfl, K369⟩

structure Lay4 where
  x : Int
  y : Int
  X : Int
  Y : Int
def rLay : RowT Lay4 := { t := 22, e := 35, k := 4, by_ := 32, enc := fun q => [.int .i64 q.x, .int .i64 q.y, .int .i64 q.X, .int .i64 q.Y], d := ⟨0, 0, 0, 0⟩, z := .agg #[.int .i64 0, .int .i64 0, .int .i64 0, .int .i64 0] }
theorem one_four {a b c d : Int} : ∀ u ∈ [Value.int .i64 a, Value.int .i64 b, Value.int .i64 c, Value.int .i64 d], u.oneCell' = true := fun u hu => by
  rcases List.mem_cons.1 hu with rfl | hu
  · rfl
  · rcases List.mem_cons.1 hu with rfl | hu
    · rfl
    · exact one_two u hu
instance rLay_ok : RowT.Ok rLay := ⟨Try.underlying22, by kernel_rfl, rfl, by decide, fun _ => rfl, fun _ => one_four, by decide⟩
end Go.Proofs.Ythhagejcgobfgaa
namespace Go.Proofs.Ythhagejcgobfgaa
open Go.ChangeShapes Go.WideShapes Go.ChangeAt Go.RowKit Go.Deep

section
variable {H : Type} {enc : TypeId × Value → H} {w : World} {base : Nat} {spare : Nat → Bool} {held : Bool}
theorem Try.cellsVec : Try.prog.cellsOf 33 = 2 := by kernel_rfl
theorem Try.cellsVecI : Try.prog.cellsOf 3 = 1 := by kernel_rfl
theorem vec_open {r : Reach} {b0 : Nat} {v : Value} {d : DataW H} {ps : List MemPlace} (hval : Value.okWide Try.prog w r b0 33 v) (h : DataW.Trod enc Try.prog w base spare held 33 v d ps) :
    ∃ X Y : Int, v = .agg #[.int .i64 X, .int .i64 Y] := by
  obtain ⟨cs, rfl, hsz⟩ := okWide_struct Try.underlying33 hval
  rw [Try.cellsVec] at hsz
  obtain ⟨cs⟩ := cs
  obtain ⟨fuel, hf⟩ := h
  match cs, hsz with
  | [c0, c1], _ =>
    obtain ⟨y0, y1, n, _, _, h0, h1⟩ := trod_struct2 (cs := [c0, c1]) Try.underlying33 hf
    simp only [Try.cellsVecI, List.drop_zero, List.drop_succ_cons, List.take_succ_cons, List.take_zero] at h0 h1
    obtain ⟨X, hX, _, _⟩ := DataW.trod_int Try.underlying3 h0
    obtain ⟨Y, hY, _, _⟩ := DataW.trod_int Try.underlying3 h1
    simp only [List.cons.injEq, and_true] at hX hY
    subst hX; subst hY
    exact ⟨X, Y, rfl⟩
end
end Go.Proofs.Ythhagejcgobfgaa
