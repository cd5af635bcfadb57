/- What IntraTells reaches of my texts, part 5. -/
import Derived.Test.YtdggilbgjijfmaaIntraTellsD
namespace Go.Proofs.Ytdggilbgjijfmaa
open Go.RowKit

set_option maxHeartbeats 4000000 in
set_option maxRecDepth 100000 in
theorem iref_above (p x y k : Int) (f : FD) (f0 f1 f2 : Value) (T_f0 : Nat → Prop) (T_f1 : Nat → Prop) (T_f2 : Nat → Prop) (w0 : World) (hx : 0 ≤ x ∧ x ≤ 64) (hy : 0 ≤ y ∧ y ≤ 64) (hk : 0 ≤ k ∧ k ≤ 3) (h_f0 : Byt w0 T_f0 f0 ((f).p0)) (h_f1 : Byt w0 T_f1 f1 ((f).p1)) (h_f2 : Byt w0 T_f2 f2 ((f).p2)) :
    Calls Try.prog 26 #[.agg #[.int .i64 ((f).W), .int .i64 ((f).H), f0, f1, f2], .int .i64 (p), .int .i64 (x), .int .i64 (y), .int .i64 (k)] w0 fun e w' => e = .returned (.int .i64 (aboveF f p x y k)) ∧ Kept (fun _ => False) w0 w' := by
  refine calls_wq (args := [.agg #[.int .i64 ((f).W), .int .i64 ((f).H), f0, f1, f2], .int .i64 (p), .int .i64 (x), .int .i64 (y), .int .i64 (k)]) 21 Try.func26 rfl rfl (Nat.le_of_ble_eq_true rfl) ?_
  have K0 := Kept.refl (fun _ => False) w0
  have g_f0 := Grew.refl w0 T_f0
  have g_f1 := Grew.refl w0 T_f1
  have g_f2 := Grew.refl w0 T_f2
  refine wq_seq ?_
  refine wq_region ?_
  refine wl_box_stc (vs := [.int .i64 ((f).W), .int .i64 ((f).H), f0, f1, f2]) rfl rfl rfl rfl fun p1 w2 B4 g5 k3 => ?_
  have gr6 : Grew w0 noB (onB p1) := Grew.new K0 g5
  have ap7 : Apart (onB p1) (T_f0) := Apart.new g5 (h_f0).live
  have ap8 : Apart (onB p1) (T_f1) := Apart.new g5 (h_f1).live
  have ap9 : Apart (onB p1) (T_f2) := Apart.new g5 (h_f2).live
  have B10 := h_f0.all k3 Apart.none
  have B11 := h_f1.all k3 Apart.none
  have B12 := h_f2.all k3 Apart.none
  have K13 := K0.trans k3 (fun _ _ x => x.elim)
  refine wl_v (.int .i64 (0)) rfl rfl (y_asg rfl rfl ⟨rfl, rfl⟩) ?_
  refine wl_nil fun F14 hF15 => ?_
  have s16 : F14 1 = .int .i64 (p) := (hF15 1).trans rfl
  have s17 : F14 2 = .int .i64 (x) := (hF15 2).trans rfl
  have s18 : F14 3 = .int .i64 (y) := (hF15 3).trans rfl
  have s19 : F14 4 = .int .i64 (k) := (hF15 4).trans rfl
  have s20 : F14 21 = undef := (hF15 21).trans rfl
  have s21 : F14 5 = .pointer (some ⟨p1, 0, none⟩) := (hF15 5).trans rfl
  clear hF15
  refine then_normal ?_
  refine wq_seq ?_
  refine wq_seq ?_
  refine wq_region ?_
  refine wl_v (.int .i64 (y)) rfl rfl (y_mov rfl s18 ⟨rfl, rfl⟩) ?_
  refine wl_v (.bool (decide ((y) ≤ (0)))) rfl rfl (y_leq rfl rfl rfl rfl ⟨rfl, rfl⟩) ?_
  refine wl_nil fun F22 hF23 => ?_
  have s24 : F22 1 = .int .i64 (p) := (hF23 1).trans s16
  have s25 : F22 2 = .int .i64 (x) := (hF23 2).trans s17
  have s26 : F22 3 = .int .i64 (y) := (hF23 3).trans s18
  have s27 : F22 4 = .int .i64 (k) := (hF23 4).trans s19
  have s28 : F22 21 = undef := (hF23 21).trans s20
  have s29 : F22 5 = .pointer (some ⟨p1, 0, none⟩) := (hF23 5).trans s21
  have s30 : F22 12 = .bool (decide ((y) ≤ (0))) := (hF23 12).trans rfl
  clear hF23
  refine then_normal ?_
  refine wq_cond s30 (fun c31 => ?_) (fun c31 => ?_)
  · replace c31 := of_decide_eq_true c31
    refine wq_seq ?_
    refine wq_region ?_
    refine wl_v (.int .i64 (128)) rfl rfl (y_asg rfl rfl ⟨rfl, rfl⟩) ?_
    refine wl_nil fun F32 hF33 => ?_
    have s34 : F32 21 = undef := (hF33 21).trans s28
    have s35 : F32 10 = .int .i64 (128) := (hF33 10).trans rfl
    clear hF33
    refine then_normal ?_
    refine wq_ret ?_
    refine then_ret ?_
    exact end_tmp (v := .int .i64 (128)) s34 rfl rfl s35 ⟨(by first | rw [above_none (by assumption)] | rw [above_some (by assumption)]), K13⟩
  · replace c31 := of_decide_eq_false c31
    refine wq_skip ?_
    refine then_normal ?_
    refine wq_seq ?_
    refine wq_region ?_
    refine wl_v (.agg #[.int .i64 ((f).W), .int .i64 ((f).H), f0, f1, f2]) rfl rfl (y_load_stc stcT_frame rfl s29 B4 ⟨rfl, rfl⟩) ?_
    refine wl_v (.int .i64 (p)) rfl rfl (y_mov rfl s24 ⟨rfl, rfl⟩) ?_
    refine wl_v (.int .i64 (x)) rfl rfl (y_mov rfl s25 ⟨rfl, rfl⟩) ?_
    refine wl_v (.int .i64 (k)) rfl rfl (y_mov rfl s27 ⟨rfl, rfl⟩) ?_
    refine wl_v (.int .i64 ((x) + (k))) rfl rfl (y_add rfl rfl rfl (i64_i rfl (by omega)) ⟨rfl, rfl⟩) ?_
    refine wl_v (.int .i64 (y)) rfl rfl (y_mov rfl s26 ⟨rfl, rfl⟩) ?_
    refine wl_v (.int .i64 ((y) - (1))) rfl rfl (y_sub rfl rfl rfl (i64_i rfl (by omega)) ⟨rfl, rfl⟩) ?_
    refine wl_call (R := fun v_ w_ => v_ = .int .i64 (atF (f) (p) ((x) + (k)) ((y) - (1))) ∧ Kept (fun _ => False) w2 w_) rfl rfl (y_cs rfl rfl rfl (fun _ _ => by kernel_rfl) (ev_func _) (vsC rfl (vsC rfl (vsC rfl (vsC rfl vsN)))) (fref_at (p) ((x) + (k)) ((y) - (1)) (f) (f0) (f1) (f2) (T_f0) (T_f1) (T_f2) _  B10 B11 B12 ) (fun e_ w_ h_ => ⟨_, h_.1, rfl, h_.2⟩)) ?_
    rintro _ w36 ⟨rfl, k37⟩
    have B38 := B10.all k37 Apart.none
    have B39 := B11.all k37 Apart.none
    have B40 := B12.all k37 Apart.none
    have B41 := B4.all k37 id
    have K42 := K13.trans k37 (fun _ _ x => x.elim)
    refine wl_v (.int .i64 (atF (f) (p) ((x) + (k)) ((y) - (1)))) rfl rfl (y_asg rfl rfl ⟨rfl, rfl⟩) ?_
    refine wl_nil fun F43 hF44 => ?_
    have s45 : F43 21 = undef := (hF44 21).trans s28
    have s46 : F43 10 = .int .i64 (atF (f) (p) ((x) + (k)) ((y) - (1))) := (hF44 10).trans rfl
    clear hF44
    refine then_normal ?_
    refine wq_ret ?_
    exact end_tmp (v := .int .i64 (atF (f) (p) ((x) + (k)) ((y) - (1)))) s45 rfl rfl s46 ⟨(by first | rw [above_none (by assumption)] | rw [above_some (by assumption)]), K42⟩

set_option maxHeartbeats 4000000 in
set_option maxRecDepth 100000 in
theorem iref_left (p x y k : Int) (f : FD) (f0 f1 f2 : Value) (T_f0 : Nat → Prop) (T_f1 : Nat → Prop) (T_f2 : Nat → Prop) (w0 : World) (hx : 0 ≤ x ∧ x ≤ 64) (hy : 0 ≤ y ∧ y ≤ 64) (hk : 0 ≤ k ∧ k ≤ 3) (h_f0 : Byt w0 T_f0 f0 ((f).p0)) (h_f1 : Byt w0 T_f1 f1 ((f).p1)) (h_f2 : Byt w0 T_f2 f2 ((f).p2)) :
    Calls Try.prog 27 #[.agg #[.int .i64 ((f).W), .int .i64 ((f).H), f0, f1, f2], .int .i64 (p), .int .i64 (x), .int .i64 (y), .int .i64 (k)] w0 fun e w' => e = .returned (.int .i64 (leftF f p x y k)) ∧ Kept (fun _ => False) w0 w' := by
  refine calls_wq (args := [.agg #[.int .i64 ((f).W), .int .i64 ((f).H), f0, f1, f2], .int .i64 (p), .int .i64 (x), .int .i64 (y), .int .i64 (k)]) 21 Try.func27 rfl rfl (Nat.le_of_ble_eq_true rfl) ?_
  have K0 := Kept.refl (fun _ => False) w0
  have g_f0 := Grew.refl w0 T_f0
  have g_f1 := Grew.refl w0 T_f1
  have g_f2 := Grew.refl w0 T_f2
  refine wq_seq ?_
  refine wq_region ?_
  refine wl_box_stc (vs := [.int .i64 ((f).W), .int .i64 ((f).H), f0, f1, f2]) rfl rfl rfl rfl fun p1 w2 B4 g5 k3 => ?_
  have gr6 : Grew w0 noB (onB p1) := Grew.new K0 g5
  have ap7 : Apart (onB p1) (T_f0) := Apart.new g5 (h_f0).live
  have ap8 : Apart (onB p1) (T_f1) := Apart.new g5 (h_f1).live
  have ap9 : Apart (onB p1) (T_f2) := Apart.new g5 (h_f2).live
  have B10 := h_f0.all k3 Apart.none
  have B11 := h_f1.all k3 Apart.none
  have B12 := h_f2.all k3 Apart.none
  have K13 := K0.trans k3 (fun _ _ x => x.elim)
  refine wl_v (.int .i64 (0)) rfl rfl (y_asg rfl rfl ⟨rfl, rfl⟩) ?_
  refine wl_nil fun F14 hF15 => ?_
  have s16 : F14 1 = .int .i64 (p) := (hF15 1).trans rfl
  have s17 : F14 2 = .int .i64 (x) := (hF15 2).trans rfl
  have s18 : F14 3 = .int .i64 (y) := (hF15 3).trans rfl
  have s19 : F14 4 = .int .i64 (k) := (hF15 4).trans rfl
  have s20 : F14 21 = undef := (hF15 21).trans rfl
  have s21 : F14 5 = .pointer (some ⟨p1, 0, none⟩) := (hF15 5).trans rfl
  clear hF15
  refine then_normal ?_
  refine wq_seq ?_
  refine wq_seq ?_
  refine wq_region ?_
  refine wl_v (.int .i64 (x)) rfl rfl (y_mov rfl s17 ⟨rfl, rfl⟩) ?_
  refine wl_v (.bool (decide ((x) ≤ (0)))) rfl rfl (y_leq rfl rfl rfl rfl ⟨rfl, rfl⟩) ?_
  refine wl_nil fun F22 hF23 => ?_
  have s24 : F22 1 = .int .i64 (p) := (hF23 1).trans s16
  have s25 : F22 2 = .int .i64 (x) := (hF23 2).trans s17
  have s26 : F22 3 = .int .i64 (y) := (hF23 3).trans s18
  have s27 : F22 4 = .int .i64 (k) := (hF23 4).trans s19
  have s28 : F22 21 = undef := (hF23 21).trans s20
  have s29 : F22 5 = .pointer (some ⟨p1, 0, none⟩) := (hF23 5).trans s21
  have s30 : F22 12 = .bool (decide ((x) ≤ (0))) := (hF23 12).trans rfl
  clear hF23
  refine then_normal ?_
  refine wq_cond s30 (fun c31 => ?_) (fun c31 => ?_)
  · replace c31 := of_decide_eq_true c31
    refine wq_seq ?_
    refine wq_region ?_
    refine wl_v (.int .i64 (128)) rfl rfl (y_asg rfl rfl ⟨rfl, rfl⟩) ?_
    refine wl_nil fun F32 hF33 => ?_
    have s34 : F32 21 = undef := (hF33 21).trans s28
    have s35 : F32 10 = .int .i64 (128) := (hF33 10).trans rfl
    clear hF33
    refine then_normal ?_
    refine wq_ret ?_
    refine then_ret ?_
    exact end_tmp (v := .int .i64 (128)) s34 rfl rfl s35 ⟨(by first | rw [left_none (by assumption)] | rw [left_some (by assumption)]), K13⟩
  · replace c31 := of_decide_eq_false c31
    refine wq_skip ?_
    refine then_normal ?_
    refine wq_seq ?_
    refine wq_region ?_
    refine wl_v (.agg #[.int .i64 ((f).W), .int .i64 ((f).H), f0, f1, f2]) rfl rfl (y_load_stc stcT_frame rfl s29 B4 ⟨rfl, rfl⟩) ?_
    refine wl_v (.int .i64 (p)) rfl rfl (y_mov rfl s24 ⟨rfl, rfl⟩) ?_
    refine wl_v (.int .i64 (x)) rfl rfl (y_mov rfl s25 ⟨rfl, rfl⟩) ?_
    refine wl_v (.int .i64 ((x) - (1))) rfl rfl (y_sub rfl rfl rfl (i64_i rfl (by omega)) ⟨rfl, rfl⟩) ?_
    refine wl_v (.int .i64 (y)) rfl rfl (y_mov rfl s26 ⟨rfl, rfl⟩) ?_
    refine wl_v (.int .i64 (k)) rfl rfl (y_mov rfl s27 ⟨rfl, rfl⟩) ?_
    refine wl_v (.int .i64 ((y) + (k))) rfl rfl (y_add rfl rfl rfl (i64_i rfl (by omega)) ⟨rfl, rfl⟩) ?_
    refine wl_call (R := fun v_ w_ => v_ = .int .i64 (atF (f) (p) ((x) - (1)) ((y) + (k))) ∧ Kept (fun _ => False) w2 w_) rfl rfl (y_cs rfl rfl rfl (fun _ _ => by kernel_rfl) (ev_func _) (vsC rfl (vsC rfl (vsC rfl (vsC rfl vsN)))) (fref_at (p) ((x) - (1)) ((y) + (k)) (f) (f0) (f1) (f2) (T_f0) (T_f1) (T_f2) _  B10 B11 B12 ) (fun e_ w_ h_ => ⟨_, h_.1, rfl, h_.2⟩)) ?_
    rintro _ w36 ⟨rfl, k37⟩
    have B38 := B10.all k37 Apart.none
    have B39 := B11.all k37 Apart.none
    have B40 := B12.all k37 Apart.none
    have B41 := B4.all k37 id
    have K42 := K13.trans k37 (fun _ _ x => x.elim)
    refine wl_v (.int .i64 (atF (f) (p) ((x) - (1)) ((y) + (k)))) rfl rfl (y_asg rfl rfl ⟨rfl, rfl⟩) ?_
    refine wl_nil fun F43 hF44 => ?_
    have s45 : F43 21 = undef := (hF44 21).trans s28
    have s46 : F43 10 = .int .i64 (atF (f) (p) ((x) - (1)) ((y) + (k))) := (hF44 10).trans rfl
    clear hF44
    refine then_normal ?_
    refine wq_ret ?_
    exact end_tmp (v := .int .i64 (atF (f) (p) ((x) - (1)) ((y) + (k)))) s45 rfl rfl s46 ⟨(by first | rw [left_none (by assumption)] | rw [left_some (by assumption)]), K42⟩

set_option maxHeartbeats 4000000 in
set_option maxRecDepth 100000 in
theorem iref_predict (p x y mode : Int) (f : FD) (f0 f1 f2 : Value) (T_f0 : Nat → Prop) (T_f1 : Nat → Prop) (T_f2 : Nat → Prop) (w0 : World) (h_f0 : Byt w0 T_f0 f0 ((f).p0)) (h_f1 : Byt w0 T_f1 f1 ((f).p1)) (h_f2 : Byt w0 T_f2 f2 ((f).p2)) :
    Calls Try.prog 12 #[.agg #[.int .i64 ((f).W), .int .i64 ((f).H), f0, f1, f2], .int .i64 (p), .int .i64 (x), .int .i64 (y), .int .i64 (mode)] w0 fun e w' => e = .returned (.tuple #[blkV (predB f p x y mode), .int .i64 (predE f p x y mode)]) ∧ Kept (fun _ => False) w0 w' := by
  refine calls_wq (args := [.agg #[.int .i64 ((f).W), .int .i64 ((f).H), f0, f1, f2], .int .i64 (p), .int .i64 (x), .int .i64 (y), .int .i64 (mode)]) 116 Try.func12 rfl rfl (Nat.le_of_ble_eq_true rfl) ?_
  have K0 := Kept.refl (fun _ => False) w0
  have hb : Bytes3 f := ⟨h_f0.lt256, h_f1.lt256, h_f2.lt256⟩
  have g_f0 := Grew.refl w0 T_f0
  have g_f1 := Grew.refl w0 T_f1
  have g_f2 := Grew.refl w0 T_f2
  refine wq_seq ?_
  refine wq_region ?_
  refine wl_box_stc (vs := [.int .i64 ((f).W), .int .i64 ((f).H), f0, f1, f2]) rfl rfl rfl rfl fun p1 w2 B4 g5 k3 => ?_
  have gr6 : Grew w0 noB (onB p1) := Grew.new K0 g5
  have ap7 : Apart (onB p1) (T_f0) := Apart.new g5 (h_f0).live
  have ap8 : Apart (onB p1) (T_f1) := Apart.new g5 (h_f1).live
  have ap9 : Apart (onB p1) (T_f2) := Apart.new g5 (h_f2).live
  have B10 := h_f0.all k3 Apart.none
  have B11 := h_f1.all k3 Apart.none
  have B12 := h_f2.all k3 Apart.none
  have K13 := K0.trans k3 (fun _ _ x => x.elim)
  refine wl_alloc_blk rfl rfl rfl blkT_arr.2.2 fun p14 w15 e18 B16 k17 => ?_
  have g19 := onB_new (Nat.le_of_eq e18.symm)
  have gr20 : Grew w0 noB (onB p14) := Grew.new K13 g19
  have ap21 : Apart (onB p14) (T_f0) := Apart.new g19 (B10).live
  have ap22 : Apart (onB p14) (T_f1) := Apart.new g19 (B11).live
  have ap23 : Apart (onB p14) (T_f2) := Apart.new g19 (B12).live
  have ap24 : Apart (onB p14) (onB p1) := Apart.new g19 (onB_live (B4).lt)
  clear e18 g19
  have B25 := B10.all k17 Apart.none
  have B26 := B11.all k17 Apart.none
  have B27 := B12.all k17 Apart.none
  have B28 := B4.all k17 id
  have K29 := K13.trans k17 (fun _ _ x => x.elim)
  refine wl_v (.int .i64 (0)) rfl rfl (y_asg rfl rfl ⟨rfl, rfl⟩) ?_
  refine wl_nil fun F30 hF31 => ?_
  have s32 : F30 1 = .int .i64 (p) := (hF31 1).trans rfl
  have s33 : F30 2 = .int .i64 (x) := (hF31 2).trans rfl
  have s34 : F30 3 = .int .i64 (y) := (hF31 3).trans rfl
  have s35 : F30 4 = .int .i64 (mode) := (hF31 4).trans rfl
  have s36 : F30 116 = undef := (hF31 116).trans rfl
  have s37 : F30 5 = .pointer (some ⟨p1, 0, none⟩) := (hF31 5).trans rfl
  have s38 : F30 10 = .pointer (some ⟨p14, 0, none⟩) := (hF31 10).trans rfl
  clear hF31
  refine then_normal ?_
  refine wq_seq ?_
  refine wq_region ?_
  refine wl_v (blkV (fun _ => 0)) rfl rfl (y_buildR (cells := (arrL 16 (fun _ => 0)).toArray) rfl (by kernel_rfl) rfl ⟨rfl, rfl⟩) ?_
  refine wl_alloc_blk rfl rfl rfl blkT_arr.2.2 fun p39 w40 e43 B41 k42 => ?_
  have g44 := onB_new (Nat.le_of_eq e43.symm)
  have gr45 : Grew w0 noB (onB p39) := Grew.new K29 g44
  have ap46 : Apart (onB p39) (T_f0) := Apart.new g44 (B25).live
  have ap47 : Apart (onB p39) (T_f1) := Apart.new g44 (B26).live
  have ap48 : Apart (onB p39) (T_f2) := Apart.new g44 (B27).live
  have ap49 : Apart (onB p39) (onB p1) := Apart.new g44 (onB_live (B28).lt)
  have ap50 : Apart (onB p39) (onB p14) := Apart.new g44 (onB_live (B16).lt)
  clear e43 g44
  have B51 := B25.all k42 Apart.none
  have B52 := B26.all k42 Apart.none
  have B53 := B27.all k42 Apart.none
  have B54 := B28.all k42 id
  have B55 := B16.all k42 id
  have K56 := K29.trans k42 (fun _ _ x => x.elim)
  refine wl_store_blk blkT_arr rfl rfl rfl rfl rfl B41 fun w57 B58 k59 => ?_
  have B60 := B51.all k59 (fun i h x => (((ap46).symm) i h x))
  have B61 := B52.all k59 (fun i h x => (((ap47).symm) i h x))
  have B62 := B53.all k59 (fun i h x => (((ap48).symm) i h x))
  have B63 := B54.all k59 (fun x => (((ap49).symm) p1 rfl x))
  have B64 := B55.all k59 (fun x => (((ap50).symm) p14 rfl x))
  have K65 := K56.trans k59 (Grew.ok (S := fun _ => False) gr45 noB_le)
  refine wl_nil fun F66 hF67 => ?_
  have s68 : F66 1 = .int .i64 (p) := (hF67 1).trans s32
  have s69 : F66 2 = .int .i64 (x) := (hF67 2).trans s33
  have s70 : F66 3 = .int .i64 (y) := (hF67 3).trans s34
  have s71 : F66 4 = .int .i64 (mode) := (hF67 4).trans s35
  have s72 : F66 116 = undef := (hF67 116).trans s36
  have s73 : F66 5 = .pointer (some ⟨p1, 0, none⟩) := (hF67 5).trans s37
  have s74 : F66 10 = .pointer (some ⟨p14, 0, none⟩) := (hF67 10).trans s38
  have s75 : F66 12 = .pointer (some ⟨p39, 0, none⟩) := (hF67 12).trans rfl
  clear hF67
  refine then_normal ?_
  refine wq_seq ?_
  refine wq_seq ?_
  by_cases d76 : (checkE (f)) ≠ (0)
  · skip
    refine wq_region ?_
    refine wl_v (.agg #[.int .i64 ((f).W), .int .i64 ((f).H), f0, f1, f2]) rfl rfl (y_load_stc stcT_frame rfl s73 B63 ⟨rfl, rfl⟩) ?_
    refine wl_call (R := fun v_ w_ => v_ = .int .i64 (checkE (f)) ∧ Kept (fun _ => False) w57 w_) rfl rfl (y_cs rfl rfl rfl (fun _ _ => by kernel_rfl) (ev_func _) (vsC rfl vsN) (fref_check (f) (f0) (f1) (f2) (T_f0) (T_f1) (T_f2) _  B60 B61 B62 ) (fun e_ w_ h_ => ⟨_, h_.1, rfl, h_.2⟩)) ?_
    rintro _ w77 ⟨rfl, k78⟩
    have B79 := B60.all k78 Apart.none
    have B80 := B61.all k78 Apart.none
    have B81 := B62.all k78 Apart.none
    have B82 := B63.all k78 id
    have B83 := B64.all k78 id
    have B84 := B58.all k78 id
    have K85 := K65.trans k78 (fun _ _ x => x.elim)
    refine wl_v (.bool true) rfl rfl (y_neqI rfl rfl rfl (decide_eq_true d76) ⟨rfl, rfl⟩) ?_
    refine wl_v (.bool true) rfl rfl (y_mov rfl rfl ⟨rfl, rfl⟩) ?_
    refine wl_unless 3 false 22 rfl rfl rfl (Or.inl rfl) rfl ?_
    refine wl_unless 3 false 22 rfl rfl rfl (Or.inl rfl) rfl ?_
    refine wl_v (.bool true) rfl rfl (y_pickT rfl rfl rfl ⟨rfl, rfl⟩) ?_
    refine wl_v (.bool true) rfl rfl (y_mov rfl rfl ⟨rfl, rfl⟩) ?_
    refine wl_unless 7 false 26 rfl rfl rfl (Or.inl rfl) rfl ?_
    refine wl_unless 7 false 26 rfl rfl rfl (Or.inl rfl) rfl ?_
    refine wl_v (.bool true) rfl rfl (y_pickT rfl rfl rfl ⟨rfl, rfl⟩) ?_
    refine wl_v (.bool true) rfl rfl (y_mov rfl rfl ⟨rfl, rfl⟩) ?_
    refine wl_unless 11 false 30 rfl rfl rfl (Or.inl rfl) rfl ?_
    refine wl_unless 11 false 30 rfl rfl rfl (Or.inl rfl) rfl ?_
    refine wl_v (.bool true) rfl rfl (y_pickT rfl rfl rfl ⟨rfl, rfl⟩) ?_
    refine wl_v (.bool true) rfl rfl (y_mov rfl rfl ⟨rfl, rfl⟩) ?_
    refine wl_unless 15 false 34 rfl rfl rfl (Or.inl rfl) rfl ?_
    refine wl_unless 15 false 34 rfl rfl rfl (Or.inl rfl) rfl ?_
    refine wl_v (.bool true) rfl rfl (y_pickT rfl rfl rfl ⟨rfl, rfl⟩) ?_
    refine wl_v (.bool true) rfl rfl (y_mov rfl rfl ⟨rfl, rfl⟩) ?_
    refine wl_unless 19 false 38 rfl rfl rfl (Or.inl rfl) rfl ?_
    refine wl_unless 19 false 38 rfl rfl rfl (Or.inl rfl) rfl ?_
    refine wl_v (.bool true) rfl rfl (y_pickT rfl rfl rfl ⟨rfl, rfl⟩) ?_
    refine wl_v (.bool true) rfl rfl (y_mov rfl rfl ⟨rfl, rfl⟩) ?_
    refine wl_unless 23 false 42 rfl rfl rfl (Or.inl rfl) rfl ?_
    refine wl_unless 23 false 42 rfl rfl rfl (Or.inl rfl) rfl ?_
    refine wl_v (.bool true) rfl rfl (y_pickT rfl rfl rfl ⟨rfl, rfl⟩) ?_
    refine wl_nil fun F86 hF87 => ?_
    have s88 : F86 1 = .int .i64 (p) := (hF87 1).trans s68
    have s89 : F86 2 = .int .i64 (x) := (hF87 2).trans s69
    have s90 : F86 3 = .int .i64 (y) := (hF87 3).trans s70
    have s91 : F86 4 = .int .i64 (mode) := (hF87 4).trans s71
    have s92 : F86 116 = undef := (hF87 116).trans s72
    have s93 : F86 5 = .pointer (some ⟨p1, 0, none⟩) := (hF87 5).trans s73
    have s94 : F86 10 = .pointer (some ⟨p14, 0, none⟩) := (hF87 10).trans s74
    have s95 : F86 12 = .pointer (some ⟨p39, 0, none⟩) := (hF87 12).trans s75
    have s96 : F86 45 = .bool true := (hF87 45).trans rfl
    clear hF87
    refine then_normal ?_
    refine wq_cond (t := true) s96 (fun _ => ?_) (fun e => by cases e)
    refine wq_seq ?_
    have hno : ¬ placeF f p x y := by rintro ⟨h1, h2, h3, h4, h5, h6, h7⟩; first | exact absurd ((checkE_iff f).2 h1) (by assumption) | omega
    refine wq_region ?_
    refine wl_v (blkV (fun _ => 0)) rfl rfl (y_load_blk blkT_arr rfl s95 B84 ⟨rfl, rfl⟩) ?_
    refine wl_store_blk blkT_arr rfl rfl rfl s94 rfl B83 fun w97 B98 k99 => ?_
    have B100 := B79.all k99 (fun i h x => (((ap21).symm) i h x))
    have B101 := B80.all k99 (fun i h x => (((ap22).symm) i h x))
    have B102 := B81.all k99 (fun i h x => (((ap23).symm) i h x))
    have B103 := B82.all k99 (fun x => (((ap24).symm) p1 rfl x))
    have B104 := B84.all k99 (fun x => ((ap50) p39 rfl x))
    have K105 := K85.trans k99 (Grew.ok (S := fun _ => False) gr20 noB_le)
    refine wl_v (.int .i64 (70)) rfl rfl (y_asg rfl rfl ⟨rfl, rfl⟩) ?_
    refine wl_nil fun F106 hF107 => ?_
    have s108 : F106 116 = undef := (hF107 116).trans s92
    have s109 : F106 10 = .pointer (some ⟨p14, 0, none⟩) := (hF107 10).trans s94
    have s110 : F106 11 = .int .i64 (70) := (hF107 11).trans rfl
    clear hF107
    refine then_normal ?_
    refine wq_ret ?_
    refine then_ret ?_
    exact end_2 s108 rfl (res_blk blkT_arr rfl s109 B98) (res_tmp (v := .int .i64 (70)) rfl s110) ⟨(by first | rw [(pred_no hno).1, (pred_no hno).2] | rw [(pred_none hpl (by omega)).1, (pred_none hpl (by omega)).2] | rw [(pred_yes hpl (by decide)).1, (pred_yes hpl (by decide)).2]), K105⟩
  · skip
    by_cases d111 : (p) < (0)
    · skip
      refine wq_region ?_
      refine wl_v (.agg #[.int .i64 ((f).W), .int .i64 ((f).H), f0, f1, f2]) rfl rfl (y_load_stc stcT_frame rfl s73 B63 ⟨rfl, rfl⟩) ?_
      refine wl_call (R := fun v_ w_ => v_ = .int .i64 (checkE (f)) ∧ Kept (fun _ => False) w57 w_) rfl rfl (y_cs rfl rfl rfl (fun _ _ => by kernel_rfl) (ev_func _) (vsC rfl vsN) (fref_check (f) (f0) (f1) (f2) (T_f0) (T_f1) (T_f2) _  B60 B61 B62 ) (fun e_ w_ h_ => ⟨_, h_.1, rfl, h_.2⟩)) ?_
      rintro _ w112 ⟨rfl, k113⟩
      have B114 := B60.all k113 Apart.none
      have B115 := B61.all k113 Apart.none
      have B116 := B62.all k113 Apart.none
      have B117 := B63.all k113 id
      have B118 := B64.all k113 id
      have B119 := B58.all k113 id
      have K120 := K65.trans k113 (fun _ _ x => x.elim)
      refine wl_v (.bool false) rfl rfl (y_neqI rfl rfl rfl (decide_eq_false d76) ⟨rfl, rfl⟩) ?_
      refine wl_v (.bool false) rfl rfl (y_mov rfl rfl ⟨rfl, rfl⟩) ?_
      refine wl_vw (.int .i64 (p)) 3 false 22 rfl rfl rfl rfl rfl (y_mov rfl s68 ⟨rfl, rfl⟩) ?_
      refine wl_vw (.bool true) 3 false 22 rfl rfl rfl rfl rfl (y_lss rfl rfl rfl (decide_eq_true d111) ⟨rfl, rfl⟩) ?_
      refine wl_v (.bool true) rfl rfl (y_pickF rfl rfl rfl ⟨rfl, rfl⟩) ?_
      refine wl_v (.bool true) rfl rfl (y_mov rfl rfl ⟨rfl, rfl⟩) ?_
      refine wl_unless 7 false 26 rfl rfl rfl (Or.inl rfl) rfl ?_
      refine wl_unless 7 false 26 rfl rfl rfl (Or.inl rfl) rfl ?_
      refine wl_v (.bool true) rfl rfl (y_pickT rfl rfl rfl ⟨rfl, rfl⟩) ?_
      refine wl_v (.bool true) rfl rfl (y_mov rfl rfl ⟨rfl, rfl⟩) ?_
      refine wl_unless 11 false 30 rfl rfl rfl (Or.inl rfl) rfl ?_
      refine wl_unless 11 false 30 rfl rfl rfl (Or.inl rfl) rfl ?_
      refine wl_v (.bool true) rfl rfl (y_pickT rfl rfl rfl ⟨rfl, rfl⟩) ?_
      refine wl_v (.bool true) rfl rfl (y_mov rfl rfl ⟨rfl, rfl⟩) ?_
      refine wl_unless 15 false 34 rfl rfl rfl (Or.inl rfl) rfl ?_
      refine wl_unless 15 false 34 rfl rfl rfl (Or.inl rfl) rfl ?_
      refine wl_v (.bool true) rfl rfl (y_pickT rfl rfl rfl ⟨rfl, rfl⟩) ?_
      refine wl_v (.bool true) rfl rfl (y_mov rfl rfl ⟨rfl, rfl⟩) ?_
      refine wl_unless 19 false 38 rfl rfl rfl (Or.inl rfl) rfl ?_
      refine wl_unless 19 false 38 rfl rfl rfl (Or.inl rfl) rfl ?_
      refine wl_v (.bool true) rfl rfl (y_pickT rfl rfl rfl ⟨rfl, rfl⟩) ?_
      refine wl_v (.bool true) rfl rfl (y_mov rfl rfl ⟨rfl, rfl⟩) ?_
      refine wl_unless 23 false 42 rfl rfl rfl (Or.inl rfl) rfl ?_
      refine wl_unless 23 false 42 rfl rfl rfl (Or.inl rfl) rfl ?_
      refine wl_v (.bool true) rfl rfl (y_pickT rfl rfl rfl ⟨rfl, rfl⟩) ?_
      refine wl_nil fun F121 hF122 => ?_
      have s123 : F121 1 = .int .i64 (p) := (hF122 1).trans s68
      have s124 : F121 2 = .int .i64 (x) := (hF122 2).trans s69
      have s125 : F121 3 = .int .i64 (y) := (hF122 3).trans s70
      have s126 : F121 4 = .int .i64 (mode) := (hF122 4).trans s71
      have s127 : F121 116 = undef := (hF122 116).trans s72
      have s128 : F121 5 = .pointer (some ⟨p1, 0, none⟩) := (hF122 5).trans s73
      have s129 : F121 10 = .pointer (some ⟨p14, 0, none⟩) := (hF122 10).trans s74
      have s130 : F121 12 = .pointer (some ⟨p39, 0, none⟩) := (hF122 12).trans s75
      have s131 : F121 45 = .bool true := (hF122 45).trans rfl
      clear hF122
      refine then_normal ?_
      refine wq_cond (t := true) s131 (fun _ => ?_) (fun e => by cases e)
      refine wq_seq ?_
      have hno : ¬ placeF f p x y := by rintro ⟨h1, h2, h3, h4, h5, h6, h7⟩; first | exact absurd ((checkE_iff f).2 h1) (by assumption) | omega
      refine wq_region ?_
      refine wl_v (blkV (fun _ => 0)) rfl rfl (y_load_blk blkT_arr rfl s130 B119 ⟨rfl, rfl⟩) ?_
      refine wl_store_blk blkT_arr rfl rfl rfl s129 rfl B118 fun w132 B133 k134 => ?_
      have B135 := B114.all k134 (fun i h x => (((ap21).symm) i h x))
      have B136 := B115.all k134 (fun i h x => (((ap22).symm) i h x))
      have B137 := B116.all k134 (fun i h x => (((ap23).symm) i h x))
      have B138 := B117.all k134 (fun x => (((ap24).symm) p1 rfl x))
      have B139 := B119.all k134 (fun x => ((ap50) p39 rfl x))
      have K140 := K120.trans k134 (Grew.ok (S := fun _ => False) gr20 noB_le)
      refine wl_v (.int .i64 (70)) rfl rfl (y_asg rfl rfl ⟨rfl, rfl⟩) ?_
      refine wl_nil fun F141 hF142 => ?_
      have s143 : F141 116 = undef := (hF142 116).trans s127
      have s144 : F141 10 = .pointer (some ⟨p14, 0, none⟩) := (hF142 10).trans s129
      have s145 : F141 11 = .int .i64 (70) := (hF142 11).trans rfl
      clear hF142
      refine then_normal ?_
      refine wq_ret ?_
      refine then_ret ?_
      exact end_2 s143 rfl (res_blk blkT_arr rfl s144 B133) (res_tmp (v := .int .i64 (70)) rfl s145) ⟨(by first | rw [(pred_no hno).1, (pred_no hno).2] | rw [(pred_none hpl (by omega)).1, (pred_none hpl (by omega)).2] | rw [(pred_yes hpl (by decide)).1, (pred_yes hpl (by decide)).2]), K140⟩
    · skip
      by_cases d146 : (2) < (p)
      · skip
        refine wq_region ?_
        refine wl_v (.agg #[.int .i64 ((f).W), .int .i64 ((f).H), f0, f1, f2]) rfl rfl (y_load_stc stcT_frame rfl s73 B63 ⟨rfl, rfl⟩) ?_
        refine wl_call (R := fun v_ w_ => v_ = .int .i64 (checkE (f)) ∧ Kept (fun _ => False) w57 w_) rfl rfl (y_cs rfl rfl rfl (fun _ _ => by kernel_rfl) (ev_func _) (vsC rfl vsN) (fref_check (f) (f0) (f1) (f2) (T_f0) (T_f1) (T_f2) _  B60 B61 B62 ) (fun e_ w_ h_ => ⟨_, h_.1, rfl, h_.2⟩)) ?_
        rintro _ w147 ⟨rfl, k148⟩
        have B149 := B60.all k148 Apart.none
        have B150 := B61.all k148 Apart.none
        have B151 := B62.all k148 Apart.none
        have B152 := B63.all k148 id
        have B153 := B64.all k148 id
        have B154 := B58.all k148 id
        have K155 := K65.trans k148 (fun _ _ x => x.elim)
        refine wl_v (.bool false) rfl rfl (y_neqI rfl rfl rfl (decide_eq_false d76) ⟨rfl, rfl⟩) ?_
        refine wl_v (.bool false) rfl rfl (y_mov rfl rfl ⟨rfl, rfl⟩) ?_
        refine wl_vw (.int .i64 (p)) 3 false 22 rfl rfl rfl rfl rfl (y_mov rfl s68 ⟨rfl, rfl⟩) ?_
        refine wl_vw (.bool false) 3 false 22 rfl rfl rfl rfl rfl (y_lss rfl rfl rfl (decide_eq_false d111) ⟨rfl, rfl⟩) ?_
        refine wl_v (.bool false) rfl rfl (y_pickF rfl rfl rfl ⟨rfl, rfl⟩) ?_
        refine wl_v (.bool false) rfl rfl (y_mov rfl rfl ⟨rfl, rfl⟩) ?_
        refine wl_vw (.int .i64 (p)) 7 false 26 rfl rfl rfl rfl rfl (y_mov rfl s68 ⟨rfl, rfl⟩) ?_
        refine wl_vw (.bool true) 7 false 26 rfl rfl rfl rfl rfl (y_gtr rfl rfl rfl (decide_eq_true d146) ⟨rfl, rfl⟩) ?_
        refine wl_v (.bool true) rfl rfl (y_pickF rfl rfl rfl ⟨rfl, rfl⟩) ?_
        refine wl_v (.bool true) rfl rfl (y_mov rfl rfl ⟨rfl, rfl⟩) ?_
        refine wl_unless 11 false 30 rfl rfl rfl (Or.inl rfl) rfl ?_
        refine wl_unless 11 false 30 rfl rfl rfl (Or.inl rfl) rfl ?_
        refine wl_v (.bool true) rfl rfl (y_pickT rfl rfl rfl ⟨rfl, rfl⟩) ?_
        refine wl_v (.bool true) rfl rfl (y_mov rfl rfl ⟨rfl, rfl⟩) ?_
        refine wl_unless 15 false 34 rfl rfl rfl (Or.inl rfl) rfl ?_
        refine wl_unless 15 false 34 rfl rfl rfl (Or.inl rfl) rfl ?_
        refine wl_v (.bool true) rfl rfl (y_pickT rfl rfl rfl ⟨rfl, rfl⟩) ?_
        refine wl_v (.bool true) rfl rfl (y_mov rfl rfl ⟨rfl, rfl⟩) ?_
        refine wl_unless 19 false 38 rfl rfl rfl (Or.inl rfl) rfl ?_
        refine wl_unless 19 false 38 rfl rfl rfl (Or.inl rfl) rfl ?_
        refine wl_v (.bool true) rfl rfl (y_pickT rfl rfl rfl ⟨rfl, rfl⟩) ?_
        refine wl_v (.bool true) rfl rfl (y_mov rfl rfl ⟨rfl, rfl⟩) ?_
        refine wl_unless 23 false 42 rfl rfl rfl (Or.inl rfl) rfl ?_
        refine wl_unless 23 false 42 rfl rfl rfl (Or.inl rfl) rfl ?_
        refine wl_v (.bool true) rfl rfl (y_pickT rfl rfl rfl ⟨rfl, rfl⟩) ?_
        refine wl_nil fun F156 hF157 => ?_
        have s158 : F156 1 = .int .i64 (p) := (hF157 1).trans s68
        have s159 : F156 2 = .int .i64 (x) := (hF157 2).trans s69
        have s160 : F156 3 = .int .i64 (y) := (hF157 3).trans s70
        have s161 : F156 4 = .int .i64 (mode) := (hF157 4).trans s71
        have s162 : F156 116 = undef := (hF157 116).trans s72
        have s163 : F156 5 = .pointer (some ⟨p1, 0, none⟩) := (hF157 5).trans s73
        have s164 : F156 10 = .pointer (some ⟨p14, 0, none⟩) := (hF157 10).trans s74
        have s165 : F156 12 = .pointer (some ⟨p39, 0, none⟩) := (hF157 12).trans s75
        have s166 : F156 45 = .bool true := (hF157 45).trans rfl
        clear hF157
        refine then_normal ?_
        refine wq_cond (t := true) s166 (fun _ => ?_) (fun e => by cases e)
        refine wq_seq ?_
        have hno : ¬ placeF f p x y := by rintro ⟨h1, h2, h3, h4, h5, h6, h7⟩; first | exact absurd ((checkE_iff f).2 h1) (by assumption) | omega
        refine wq_region ?_
        refine wl_v (blkV (fun _ => 0)) rfl rfl (y_load_blk blkT_arr rfl s165 B154 ⟨rfl, rfl⟩) ?_
        refine wl_store_blk blkT_arr rfl rfl rfl s164 rfl B153 fun w167 B168 k169 => ?_
        have B170 := B149.all k169 (fun i h x => (((ap21).symm) i h x))
        have B171 := B150.all k169 (fun i h x => (((ap22).symm) i h x))
        have B172 := B151.all k169 (fun i h x => (((ap23).symm) i h x))
        have B173 := B152.all k169 (fun x => (((ap24).symm) p1 rfl x))
        have B174 := B154.all k169 (fun x => ((ap50) p39 rfl x))
        have K175 := K155.trans k169 (Grew.ok (S := fun _ => False) gr20 noB_le)
        refine wl_v (.int .i64 (70)) rfl rfl (y_asg rfl rfl ⟨rfl, rfl⟩) ?_
        refine wl_nil fun F176 hF177 => ?_
        have s178 : F176 116 = undef := (hF177 116).trans s162
        have s179 : F176 10 = .pointer (some ⟨p14, 0, none⟩) := (hF177 10).trans s164
        have s180 : F176 11 = .int .i64 (70) := (hF177 11).trans rfl
        clear hF177
        refine then_normal ?_
        refine wq_ret ?_
        refine then_ret ?_
        exact end_2 s178 rfl (res_blk blkT_arr rfl s179 B168) (res_tmp (v := .int .i64 (70)) rfl s180) ⟨(by first | rw [(pred_no hno).1, (pred_no hno).2] | rw [(pred_none hpl (by omega)).1, (pred_none hpl (by omega)).2] | rw [(pred_yes hpl (by decide)).1, (pred_yes hpl (by decide)).2]), K175⟩
      · skip
        by_cases d181 : (x) < (0)
        · skip
          refine wq_region ?_
          refine wl_v (.agg #[.int .i64 ((f).W), .int .i64 ((f).H), f0, f1, f2]) rfl rfl (y_load_stc stcT_frame rfl s73 B63 ⟨rfl, rfl⟩) ?_
          refine wl_call (R := fun v_ w_ => v_ = .int .i64 (checkE (f)) ∧ Kept (fun _ => False) w57 w_) rfl rfl (y_cs rfl rfl rfl (fun _ _ => by kernel_rfl) (ev_func _) (vsC rfl vsN) (fref_check (f) (f0) (f1) (f2) (T_f0) (T_f1) (T_f2) _  B60 B61 B62 ) (fun e_ w_ h_ => ⟨_, h_.1, rfl, h_.2⟩)) ?_
          rintro _ w182 ⟨rfl, k183⟩
          have B184 := B60.all k183 Apart.none
          have B185 := B61.all k183 Apart.none
          have B186 := B62.all k183 Apart.none
          have B187 := B63.all k183 id
          have B188 := B64.all k183 id
          have B189 := B58.all k183 id
          have K190 := K65.trans k183 (fun _ _ x => x.elim)
          refine wl_v (.bool false) rfl rfl (y_neqI rfl rfl rfl (decide_eq_false d76) ⟨rfl, rfl⟩) ?_
          refine wl_v (.bool false) rfl rfl (y_mov rfl rfl ⟨rfl, rfl⟩) ?_
          refine wl_vw (.int .i64 (p)) 3 false 22 rfl rfl rfl rfl rfl (y_mov rfl s68 ⟨rfl, rfl⟩) ?_
          refine wl_vw (.bool false) 3 false 22 rfl rfl rfl rfl rfl (y_lss rfl rfl rfl (decide_eq_false d111) ⟨rfl, rfl⟩) ?_
          refine wl_v (.bool false) rfl rfl (y_pickF rfl rfl rfl ⟨rfl, rfl⟩) ?_
          refine wl_v (.bool false) rfl rfl (y_mov rfl rfl ⟨rfl, rfl⟩) ?_
          refine wl_vw (.int .i64 (p)) 7 false 26 rfl rfl rfl rfl rfl (y_mov rfl s68 ⟨rfl, rfl⟩) ?_
          refine wl_vw (.bool false) 7 false 26 rfl rfl rfl rfl rfl (y_gtr rfl rfl rfl (decide_eq_false d146) ⟨rfl, rfl⟩) ?_
          refine wl_v (.bool false) rfl rfl (y_pickF rfl rfl rfl ⟨rfl, rfl⟩) ?_
          refine wl_v (.bool false) rfl rfl (y_mov rfl rfl ⟨rfl, rfl⟩) ?_
          refine wl_vw (.int .i64 (x)) 11 false 30 rfl rfl rfl rfl rfl (y_mov rfl s69 ⟨rfl, rfl⟩) ?_
          refine wl_vw (.bool true) 11 false 30 rfl rfl rfl rfl rfl (y_lss rfl rfl rfl (decide_eq_true d181) ⟨rfl, rfl⟩) ?_
          refine wl_v (.bool true) rfl rfl (y_pickF rfl rfl rfl ⟨rfl, rfl⟩) ?_
          refine wl_v (.bool true) rfl rfl (y_mov rfl rfl ⟨rfl, rfl⟩) ?_
          refine wl_unless 15 false 34 rfl rfl rfl (Or.inl rfl) rfl ?_
          refine wl_unless 15 false 34 rfl rfl rfl (Or.inl rfl) rfl ?_
          refine wl_v (.bool true) rfl rfl (y_pickT rfl rfl rfl ⟨rfl, rfl⟩) ?_
          refine wl_v (.bool true) rfl rfl (y_mov rfl rfl ⟨rfl, rfl⟩) ?_
          refine wl_unless 19 false 38 rfl rfl rfl (Or.inl rfl) rfl ?_
          refine wl_unless 19 false 38 rfl rfl rfl (Or.inl rfl) rfl ?_
          refine wl_v (.bool true) rfl rfl (y_pickT rfl rfl rfl ⟨rfl, rfl⟩) ?_
          refine wl_v (.bool true) rfl rfl (y_mov rfl rfl ⟨rfl, rfl⟩) ?_
          refine wl_unless 23 false 42 rfl rfl rfl (Or.inl rfl) rfl ?_
          refine wl_unless 23 false 42 rfl rfl rfl (Or.inl rfl) rfl ?_
          refine wl_v (.bool true) rfl rfl (y_pickT rfl rfl rfl ⟨rfl, rfl⟩) ?_
          refine wl_nil fun F191 hF192 => ?_
          have s193 : F191 1 = .int .i64 (p) := (hF192 1).trans s68
          have s194 : F191 2 = .int .i64 (x) := (hF192 2).trans s69
          have s195 : F191 3 = .int .i64 (y) := (hF192 3).trans s70
          have s196 : F191 4 = .int .i64 (mode) := (hF192 4).trans s71
          have s197 : F191 116 = undef := (hF192 116).trans s72
          have s198 : F191 5 = .pointer (some ⟨p1, 0, none⟩) := (hF192 5).trans s73
          have s199 : F191 10 = .pointer (some ⟨p14, 0, none⟩) := (hF192 10).trans s74
          have s200 : F191 12 = .pointer (some ⟨p39, 0, none⟩) := (hF192 12).trans s75
          have s201 : F191 45 = .bool true := (hF192 45).trans rfl
          clear hF192
          refine then_normal ?_
          refine wq_cond (t := true) s201 (fun _ => ?_) (fun e => by cases e)
          refine wq_seq ?_
          have hno : ¬ placeF f p x y := by rintro ⟨h1, h2, h3, h4, h5, h6, h7⟩; first | exact absurd ((checkE_iff f).2 h1) (by assumption) | omega
          refine wq_region ?_
          refine wl_v (blkV (fun _ => 0)) rfl rfl (y_load_blk blkT_arr rfl s200 B189 ⟨rfl, rfl⟩) ?_
          refine wl_store_blk blkT_arr rfl rfl rfl s199 rfl B188 fun w202 B203 k204 => ?_
          have B205 := B184.all k204 (fun i h x => (((ap21).symm) i h x))
          have B206 := B185.all k204 (fun i h x => (((ap22).symm) i h x))
          have B207 := B186.all k204 (fun i h x => (((ap23).symm) i h x))
          have B208 := B187.all k204 (fun x => (((ap24).symm) p1 rfl x))
          have B209 := B189.all k204 (fun x => ((ap50) p39 rfl x))
          have K210 := K190.trans k204 (Grew.ok (S := fun _ => False) gr20 noB_le)
          refine wl_v (.int .i64 (70)) rfl rfl (y_asg rfl rfl ⟨rfl, rfl⟩) ?_
          refine wl_nil fun F211 hF212 => ?_
          have s213 : F211 116 = undef := (hF212 116).trans s197
          have s214 : F211 10 = .pointer (some ⟨p14, 0, none⟩) := (hF212 10).trans s199
          have s215 : F211 11 = .int .i64 (70) := (hF212 11).trans rfl
          clear hF212
          refine then_normal ?_
          refine wq_ret ?_
          refine then_ret ?_
          exact end_2 s213 rfl (res_blk blkT_arr rfl s214 B203) (res_tmp (v := .int .i64 (70)) rfl s215) ⟨(by first | rw [(pred_no hno).1, (pred_no hno).2] | rw [(pred_none hpl (by omega)).1, (pred_none hpl (by omega)).2] | rw [(pred_yes hpl (by decide)).1, (pred_yes hpl (by decide)).2]), K210⟩
        · skip
          by_cases d216 : (64) < (x)
          · skip
            refine wq_region ?_
            refine wl_v (.agg #[.int .i64 ((f).W), .int .i64 ((f).H), f0, f1, f2]) rfl rfl (y_load_stc stcT_frame rfl s73 B63 ⟨rfl, rfl⟩) ?_
            refine wl_call (R := fun v_ w_ => v_ = .int .i64 (checkE (f)) ∧ Kept (fun _ => False) w57 w_) rfl rfl (y_cs rfl rfl rfl (fun _ _ => by kernel_rfl) (ev_func _) (vsC rfl vsN) (fref_check (f) (f0) (f1) (f2) (T_f0) (T_f1) (T_f2) _  B60 B61 B62 ) (fun e_ w_ h_ => ⟨_, h_.1, rfl, h_.2⟩)) ?_
            rintro _ w217 ⟨rfl, k218⟩
            have B219 := B60.all k218 Apart.none
            have B220 := B61.all k218 Apart.none
            have B221 := B62.all k218 Apart.none
            have B222 := B63.all k218 id
            have B223 := B64.all k218 id
            have B224 := B58.all k218 id
            have K225 := K65.trans k218 (fun _ _ x => x.elim)
            refine wl_v (.bool false) rfl rfl (y_neqI rfl rfl rfl (decide_eq_false d76) ⟨rfl, rfl⟩) ?_
            refine wl_v (.bool false) rfl rfl (y_mov rfl rfl ⟨rfl, rfl⟩) ?_
            refine wl_vw (.int .i64 (p)) 3 false 22 rfl rfl rfl rfl rfl (y_mov rfl s68 ⟨rfl, rfl⟩) ?_
            refine wl_vw (.bool false) 3 false 22 rfl rfl rfl rfl rfl (y_lss rfl rfl rfl (decide_eq_false d111) ⟨rfl, rfl⟩) ?_
            refine wl_v (.bool false) rfl rfl (y_pickF rfl rfl rfl ⟨rfl, rfl⟩) ?_
            refine wl_v (.bool false) rfl rfl (y_mov rfl rfl ⟨rfl, rfl⟩) ?_
            refine wl_vw (.int .i64 (p)) 7 false 26 rfl rfl rfl rfl rfl (y_mov rfl s68 ⟨rfl, rfl⟩) ?_
            refine wl_vw (.bool false) 7 false 26 rfl rfl rfl rfl rfl (y_gtr rfl rfl rfl (decide_eq_false d146) ⟨rfl, rfl⟩) ?_
            refine wl_v (.bool false) rfl rfl (y_pickF rfl rfl rfl ⟨rfl, rfl⟩) ?_
            refine wl_v (.bool false) rfl rfl (y_mov rfl rfl ⟨rfl, rfl⟩) ?_
            refine wl_vw (.int .i64 (x)) 11 false 30 rfl rfl rfl rfl rfl (y_mov rfl s69 ⟨rfl, rfl⟩) ?_
            refine wl_vw (.bool false) 11 false 30 rfl rfl rfl rfl rfl (y_lss rfl rfl rfl (decide_eq_false d181) ⟨rfl, rfl⟩) ?_
            refine wl_v (.bool false) rfl rfl (y_pickF rfl rfl rfl ⟨rfl, rfl⟩) ?_
            refine wl_v (.bool false) rfl rfl (y_mov rfl rfl ⟨rfl, rfl⟩) ?_
            refine wl_vw (.int .i64 (x)) 15 false 34 rfl rfl rfl rfl rfl (y_mov rfl s69 ⟨rfl, rfl⟩) ?_
            refine wl_vw (.bool true) 15 false 34 rfl rfl rfl rfl rfl (y_gtr rfl rfl rfl (decide_eq_true d216) ⟨rfl, rfl⟩) ?_
            refine wl_v (.bool true) rfl rfl (y_pickF rfl rfl rfl ⟨rfl, rfl⟩) ?_
            refine wl_v (.bool true) rfl rfl (y_mov rfl rfl ⟨rfl, rfl⟩) ?_
            refine wl_unless 19 false 38 rfl rfl rfl (Or.inl rfl) rfl ?_
            refine wl_unless 19 false 38 rfl rfl rfl (Or.inl rfl) rfl ?_
            refine wl_v (.bool true) rfl rfl (y_pickT rfl rfl rfl ⟨rfl, rfl⟩) ?_
            refine wl_v (.bool true) rfl rfl (y_mov rfl rfl ⟨rfl, rfl⟩) ?_
            refine wl_unless 23 false 42 rfl rfl rfl (Or.inl rfl) rfl ?_
            refine wl_unless 23 false 42 rfl rfl rfl (Or.inl rfl) rfl ?_
            refine wl_v (.bool true) rfl rfl (y_pickT rfl rfl rfl ⟨rfl, rfl⟩) ?_
            refine wl_nil fun F226 hF227 => ?_
            have s228 : F226 1 = .int .i64 (p) := (hF227 1).trans s68
            have s229 : F226 2 = .int .i64 (x) := (hF227 2).trans s69
            have s230 : F226 3 = .int .i64 (y) := (hF227 3).trans s70
            have s231 : F226 4 = .int .i64 (mode) := (hF227 4).trans s71
            have s232 : F226 116 = undef := (hF227 116).trans s72
            have s233 : F226 5 = .pointer (some ⟨p1, 0, none⟩) := (hF227 5).trans s73
            have s234 : F226 10 = .pointer (some ⟨p14, 0, none⟩) := (hF227 10).trans s74
            have s235 : F226 12 = .pointer (some ⟨p39, 0, none⟩) := (hF227 12).trans s75
            have s236 : F226 45 = .bool true := (hF227 45).trans rfl
            clear hF227
            refine then_normal ?_
            refine wq_cond (t := true) s236 (fun _ => ?_) (fun e => by cases e)
            refine wq_seq ?_
            have hno : ¬ placeF f p x y := by rintro ⟨h1, h2, h3, h4, h5, h6, h7⟩; first | exact absurd ((checkE_iff f).2 h1) (by assumption) | omega
            refine wq_region ?_
            refine wl_v (blkV (fun _ => 0)) rfl rfl (y_load_blk blkT_arr rfl s235 B224 ⟨rfl, rfl⟩) ?_
            refine wl_store_blk blkT_arr rfl rfl rfl s234 rfl B223 fun w237 B238 k239 => ?_
            have B240 := B219.all k239 (fun i h x => (((ap21).symm) i h x))
            have B241 := B220.all k239 (fun i h x => (((ap22).symm) i h x))
            have B242 := B221.all k239 (fun i h x => (((ap23).symm) i h x))
            have B243 := B222.all k239 (fun x => (((ap24).symm) p1 rfl x))
            have B244 := B224.all k239 (fun x => ((ap50) p39 rfl x))
            have K245 := K225.trans k239 (Grew.ok (S := fun _ => False) gr20 noB_le)
            refine wl_v (.int .i64 (70)) rfl rfl (y_asg rfl rfl ⟨rfl, rfl⟩) ?_
            refine wl_nil fun F246 hF247 => ?_
            have s248 : F246 116 = undef := (hF247 116).trans s232
            have s249 : F246 10 = .pointer (some ⟨p14, 0, none⟩) := (hF247 10).trans s234
            have s250 : F246 11 = .int .i64 (70) := (hF247 11).trans rfl
            clear hF247
            refine then_normal ?_
            refine wq_ret ?_
            refine then_ret ?_
            exact end_2 s248 rfl (res_blk blkT_arr rfl s249 B238) (res_tmp (v := .int .i64 (70)) rfl s250) ⟨(by first | rw [(pred_no hno).1, (pred_no hno).2] | rw [(pred_none hpl (by omega)).1, (pred_none hpl (by omega)).2] | rw [(pred_yes hpl (by decide)).1, (pred_yes hpl (by decide)).2]), K245⟩
          · skip
            by_cases d251 : (y) < (0)
            · skip
              refine wq_region ?_
              refine wl_v (.agg #[.int .i64 ((f).W), .int .i64 ((f).H), f0, f1, f2]) rfl rfl (y_load_stc stcT_frame rfl s73 B63 ⟨rfl, rfl⟩) ?_
              refine wl_call (R := fun v_ w_ => v_ = .int .i64 (checkE (f)) ∧ Kept (fun _ => False) w57 w_) rfl rfl (y_cs rfl rfl rfl (fun _ _ => by kernel_rfl) (ev_func _) (vsC rfl vsN) (fref_check (f) (f0) (f1) (f2) (T_f0) (T_f1) (T_f2) _  B60 B61 B62 ) (fun e_ w_ h_ => ⟨_, h_.1, rfl, h_.2⟩)) ?_
              rintro _ w252 ⟨rfl, k253⟩
              have B254 := B60.all k253 Apart.none
              have B255 := B61.all k253 Apart.none
              have B256 := B62.all k253 Apart.none
              have B257 := B63.all k253 id
              have B258 := B64.all k253 id
              have B259 := B58.all k253 id
              have K260 := K65.trans k253 (fun _ _ x => x.elim)
              refine wl_v (.bool false) rfl rfl (y_neqI rfl rfl rfl (decide_eq_false d76) ⟨rfl, rfl⟩) ?_
              refine wl_v (.bool false) rfl rfl (y_mov rfl rfl ⟨rfl, rfl⟩) ?_
              refine wl_vw (.int .i64 (p)) 3 false 22 rfl rfl rfl rfl rfl (y_mov rfl s68 ⟨rfl, rfl⟩) ?_
              refine wl_vw (.bool false) 3 false 22 rfl rfl rfl rfl rfl (y_lss rfl rfl rfl (decide_eq_false d111) ⟨rfl, rfl⟩) ?_
              refine wl_v (.bool false) rfl rfl (y_pickF rfl rfl rfl ⟨rfl, rfl⟩) ?_
              refine wl_v (.bool false) rfl rfl (y_mov rfl rfl ⟨rfl, rfl⟩) ?_
              refine wl_vw (.int .i64 (p)) 7 false 26 rfl rfl rfl rfl rfl (y_mov rfl s68 ⟨rfl, rfl⟩) ?_
              refine wl_vw (.bool false) 7 false 26 rfl rfl rfl rfl rfl (y_gtr rfl rfl rfl (decide_eq_false d146) ⟨rfl, rfl⟩) ?_
              refine wl_v (.bool false) rfl rfl (y_pickF rfl rfl rfl ⟨rfl, rfl⟩) ?_
              refine wl_v (.bool false) rfl rfl (y_mov rfl rfl ⟨rfl, rfl⟩) ?_
              refine wl_vw (.int .i64 (x)) 11 false 30 rfl rfl rfl rfl rfl (y_mov rfl s69 ⟨rfl, rfl⟩) ?_
              refine wl_vw (.bool false) 11 false 30 rfl rfl rfl rfl rfl (y_lss rfl rfl rfl (decide_eq_false d181) ⟨rfl, rfl⟩) ?_
              refine wl_v (.bool false) rfl rfl (y_pickF rfl rfl rfl ⟨rfl, rfl⟩) ?_
              refine wl_v (.bool false) rfl rfl (y_mov rfl rfl ⟨rfl, rfl⟩) ?_
              refine wl_vw (.int .i64 (x)) 15 false 34 rfl rfl rfl rfl rfl (y_mov rfl s69 ⟨rfl, rfl⟩) ?_
              refine wl_vw (.bool false) 15 false 34 rfl rfl rfl rfl rfl (y_gtr rfl rfl rfl (decide_eq_false d216) ⟨rfl, rfl⟩) ?_
              refine wl_v (.bool false) rfl rfl (y_pickF rfl rfl rfl ⟨rfl, rfl⟩) ?_
              refine wl_v (.bool false) rfl rfl (y_mov rfl rfl ⟨rfl, rfl⟩) ?_
              refine wl_vw (.int .i64 (y)) 19 false 38 rfl rfl rfl rfl rfl (y_mov rfl s70 ⟨rfl, rfl⟩) ?_
              refine wl_vw (.bool true) 19 false 38 rfl rfl rfl rfl rfl (y_lss rfl rfl rfl (decide_eq_true d251) ⟨rfl, rfl⟩) ?_
              refine wl_v (.bool true) rfl rfl (y_pickF rfl rfl rfl ⟨rfl, rfl⟩) ?_
              refine wl_v (.bool true) rfl rfl (y_mov rfl rfl ⟨rfl, rfl⟩) ?_
              refine wl_unless 23 false 42 rfl rfl rfl (Or.inl rfl) rfl ?_
              refine wl_unless 23 false 42 rfl rfl rfl (Or.inl rfl) rfl ?_
              refine wl_v (.bool true) rfl rfl (y_pickT rfl rfl rfl ⟨rfl, rfl⟩) ?_
              refine wl_nil fun F261 hF262 => ?_
              have s263 : F261 1 = .int .i64 (p) := (hF262 1).trans s68
              have s264 : F261 2 = .int .i64 (x) := (hF262 2).trans s69
              have s265 : F261 3 = .int .i64 (y) := (hF262 3).trans s70
              have s266 : F261 4 = .int .i64 (mode) := (hF262 4).trans s71
              have s267 : F261 116 = undef := (hF262 116).trans s72
              have s268 : F261 5 = .pointer (some ⟨p1, 0, none⟩) := (hF262 5).trans s73
              have s269 : F261 10 = .pointer (some ⟨p14, 0, none⟩) := (hF262 10).trans s74
              have s270 : F261 12 = .pointer (some ⟨p39, 0, none⟩) := (hF262 12).trans s75
              have s271 : F261 45 = .bool true := (hF262 45).trans rfl
              clear hF262
              refine then_normal ?_
              refine wq_cond (t := true) s271 (fun _ => ?_) (fun e => by cases e)
              refine wq_seq ?_
              have hno : ¬ placeF f p x y := by rintro ⟨h1, h2, h3, h4, h5, h6, h7⟩; first | exact absurd ((checkE_iff f).2 h1) (by assumption) | omega
              refine wq_region ?_
              refine wl_v (blkV (fun _ => 0)) rfl rfl (y_load_blk blkT_arr rfl s270 B259 ⟨rfl, rfl⟩) ?_
              refine wl_store_blk blkT_arr rfl rfl rfl s269 rfl B258 fun w272 B273 k274 => ?_
              have B275 := B254.all k274 (fun i h x => (((ap21).symm) i h x))
              have B276 := B255.all k274 (fun i h x => (((ap22).symm) i h x))
              have B277 := B256.all k274 (fun i h x => (((ap23).symm) i h x))
              have B278 := B257.all k274 (fun x => (((ap24).symm) p1 rfl x))
              have B279 := B259.all k274 (fun x => ((ap50) p39 rfl x))
              have K280 := K260.trans k274 (Grew.ok (S := fun _ => False) gr20 noB_le)
              refine wl_v (.int .i64 (70)) rfl rfl (y_asg rfl rfl ⟨rfl, rfl⟩) ?_
              refine wl_nil fun F281 hF282 => ?_
              have s283 : F281 116 = undef := (hF282 116).trans s267
              have s284 : F281 10 = .pointer (some ⟨p14, 0, none⟩) := (hF282 10).trans s269
              have s285 : F281 11 = .int .i64 (70) := (hF282 11).trans rfl
              clear hF282
              refine then_normal ?_
              refine wq_ret ?_
              refine then_ret ?_
              exact end_2 s283 rfl (res_blk blkT_arr rfl s284 B273) (res_tmp (v := .int .i64 (70)) rfl s285) ⟨(by first | rw [(pred_no hno).1, (pred_no hno).2] | rw [(pred_none hpl (by omega)).1, (pred_none hpl (by omega)).2] | rw [(pred_yes hpl (by decide)).1, (pred_yes hpl (by decide)).2]), K280⟩
            · skip
              refine wq_region ?_
              refine wl_v (.agg #[.int .i64 ((f).W), .int .i64 ((f).H), f0, f1, f2]) rfl rfl (y_load_stc stcT_frame rfl s73 B63 ⟨rfl, rfl⟩) ?_
              refine wl_call (R := fun v_ w_ => v_ = .int .i64 (checkE (f)) ∧ Kept (fun _ => False) w57 w_) rfl rfl (y_cs rfl rfl rfl (fun _ _ => by kernel_rfl) (ev_func _) (vsC rfl vsN) (fref_check (f) (f0) (f1) (f2) (T_f0) (T_f1) (T_f2) _  B60 B61 B62 ) (fun e_ w_ h_ => ⟨_, h_.1, rfl, h_.2⟩)) ?_
              rintro _ w286 ⟨rfl, k287⟩
              have B288 := B60.all k287 Apart.none
              have B289 := B61.all k287 Apart.none
              have B290 := B62.all k287 Apart.none
              have B291 := B63.all k287 id
              have B292 := B64.all k287 id
              have B293 := B58.all k287 id
              have K294 := K65.trans k287 (fun _ _ x => x.elim)
              refine wl_v (.bool false) rfl rfl (y_neqI rfl rfl rfl (decide_eq_false d76) ⟨rfl, rfl⟩) ?_
              refine wl_v (.bool false) rfl rfl (y_mov rfl rfl ⟨rfl, rfl⟩) ?_
              refine wl_vw (.int .i64 (p)) 3 false 22 rfl rfl rfl rfl rfl (y_mov rfl s68 ⟨rfl, rfl⟩) ?_
              refine wl_vw (.bool false) 3 false 22 rfl rfl rfl rfl rfl (y_lss rfl rfl rfl (decide_eq_false d111) ⟨rfl, rfl⟩) ?_
              refine wl_v (.bool false) rfl rfl (y_pickF rfl rfl rfl ⟨rfl, rfl⟩) ?_
              refine wl_v (.bool false) rfl rfl (y_mov rfl rfl ⟨rfl, rfl⟩) ?_
              refine wl_vw (.int .i64 (p)) 7 false 26 rfl rfl rfl rfl rfl (y_mov rfl s68 ⟨rfl, rfl⟩) ?_
              refine wl_vw (.bool false) 7 false 26 rfl rfl rfl rfl rfl (y_gtr rfl rfl rfl (decide_eq_false d146) ⟨rfl, rfl⟩) ?_
              refine wl_v (.bool false) rfl rfl (y_pickF rfl rfl rfl ⟨rfl, rfl⟩) ?_
              refine wl_v (.bool false) rfl rfl (y_mov rfl rfl ⟨rfl, rfl⟩) ?_
              refine wl_vw (.int .i64 (x)) 11 false 30 rfl rfl rfl rfl rfl (y_mov rfl s69 ⟨rfl, rfl⟩) ?_
              refine wl_vw (.bool false) 11 false 30 rfl rfl rfl rfl rfl (y_lss rfl rfl rfl (decide_eq_false d181) ⟨rfl, rfl⟩) ?_
              refine wl_v (.bool false) rfl rfl (y_pickF rfl rfl rfl ⟨rfl, rfl⟩) ?_
              refine wl_v (.bool false) rfl rfl (y_mov rfl rfl ⟨rfl, rfl⟩) ?_
              refine wl_vw (.int .i64 (x)) 15 false 34 rfl rfl rfl rfl rfl (y_mov rfl s69 ⟨rfl, rfl⟩) ?_
              refine wl_vw (.bool false) 15 false 34 rfl rfl rfl rfl rfl (y_gtr rfl rfl rfl (decide_eq_false d216) ⟨rfl, rfl⟩) ?_
              refine wl_v (.bool false) rfl rfl (y_pickF rfl rfl rfl ⟨rfl, rfl⟩) ?_
              refine wl_v (.bool false) rfl rfl (y_mov rfl rfl ⟨rfl, rfl⟩) ?_
              refine wl_vw (.int .i64 (y)) 19 false 38 rfl rfl rfl rfl rfl (y_mov rfl s70 ⟨rfl, rfl⟩) ?_
              refine wl_vw (.bool false) 19 false 38 rfl rfl rfl rfl rfl (y_lss rfl rfl rfl (decide_eq_false d251) ⟨rfl, rfl⟩) ?_
              refine wl_v (.bool false) rfl rfl (y_pickF rfl rfl rfl ⟨rfl, rfl⟩) ?_
              refine wl_v (.bool false) rfl rfl (y_mov rfl rfl ⟨rfl, rfl⟩) ?_
              refine wl_vw (.int .i64 (y)) 23 false 42 rfl rfl rfl rfl rfl (y_mov rfl s70 ⟨rfl, rfl⟩) ?_
              refine wl_vw (.bool (decide ((64) < (y)))) 23 false 42 rfl rfl rfl rfl rfl (y_gtr rfl rfl rfl rfl ⟨rfl, rfl⟩) ?_
              refine wl_v (.bool (decide ((64) < (y)))) rfl rfl (y_pickF rfl rfl rfl ⟨rfl, rfl⟩) ?_
              refine wl_nil fun F295 hF296 => ?_
              have s297 : F295 1 = .int .i64 (p) := (hF296 1).trans s68
              have s298 : F295 2 = .int .i64 (x) := (hF296 2).trans s69
              have s299 : F295 3 = .int .i64 (y) := (hF296 3).trans s70
              have s300 : F295 4 = .int .i64 (mode) := (hF296 4).trans s71
              have s301 : F295 116 = undef := (hF296 116).trans s72
              have s302 : F295 5 = .pointer (some ⟨p1, 0, none⟩) := (hF296 5).trans s73
              have s303 : F295 10 = .pointer (some ⟨p14, 0, none⟩) := (hF296 10).trans s74
              have s304 : F295 12 = .pointer (some ⟨p39, 0, none⟩) := (hF296 12).trans s75
              have s305 : F295 45 = .bool (decide ((64) < (y))) := (hF296 45).trans rfl
              clear hF296
              refine then_normal ?_
              refine wq_cond s305 (fun c306 => ?_) (fun c306 => ?_)
              · replace c306 := of_decide_eq_true c306
                refine wq_seq ?_
                have hno : ¬ placeF f p x y := by rintro ⟨h1, h2, h3, h4, h5, h6, h7⟩; first | exact absurd ((checkE_iff f).2 h1) (by assumption) | omega
                refine wq_region ?_
                refine wl_v (blkV (fun _ => 0)) rfl rfl (y_load_blk blkT_arr rfl s304 B293 ⟨rfl, rfl⟩) ?_
                refine wl_store_blk blkT_arr rfl rfl rfl s303 rfl B292 fun w307 B308 k309 => ?_
                have B310 := B288.all k309 (fun i h x => (((ap21).symm) i h x))
                have B311 := B289.all k309 (fun i h x => (((ap22).symm) i h x))
                have B312 := B290.all k309 (fun i h x => (((ap23).symm) i h x))
                have B313 := B291.all k309 (fun x => (((ap24).symm) p1 rfl x))
                have B314 := B293.all k309 (fun x => ((ap50) p39 rfl x))
                have K315 := K294.trans k309 (Grew.ok (S := fun _ => False) gr20 noB_le)
                refine wl_v (.int .i64 (70)) rfl rfl (y_asg rfl rfl ⟨rfl, rfl⟩) ?_
                refine wl_nil fun F316 hF317 => ?_
                have s318 : F316 116 = undef := (hF317 116).trans s301
                have s319 : F316 10 = .pointer (some ⟨p14, 0, none⟩) := (hF317 10).trans s303
                have s320 : F316 11 = .int .i64 (70) := (hF317 11).trans rfl
                clear hF317
                refine then_normal ?_
                refine wq_ret ?_
                refine then_ret ?_
                exact end_2 s318 rfl (res_blk blkT_arr rfl s319 B308) (res_tmp (v := .int .i64 (70)) rfl s320) ⟨(by first | rw [(pred_no hno).1, (pred_no hno).2] | rw [(pred_none hpl (by omega)).1, (pred_none hpl (by omega)).2] | rw [(pred_yes hpl (by decide)).1, (pred_yes hpl (by decide)).2]), K315⟩
              · replace c306 := of_decide_eq_false c306
                refine wq_skip ?_
                refine then_normal ?_
                refine wq_seq ?_
                refine wq_seq ?_
                have hpl : placeF f p x y := ⟨(checkE_iff f).1 (by first | assumption | (apply Decidable.byContradiction; assumption)), by omega, by omega, by omega, by omega, by omega, by omega⟩
                by_cases d321 : (mode) < (0)
                · skip
                  refine wq_region ?_
                  refine wl_v (.int .i64 (mode)) rfl rfl (y_mov rfl s300 ⟨rfl, rfl⟩) ?_
                  refine wl_v (.bool true) rfl rfl (y_lss rfl rfl rfl (decide_eq_true d321) ⟨rfl, rfl⟩) ?_
                  refine wl_v (.bool true) rfl rfl (y_mov rfl rfl ⟨rfl, rfl⟩) ?_
                  refine wl_unless 2 false 49 rfl rfl rfl (Or.inl rfl) rfl ?_
                  refine wl_unless 2 false 49 rfl rfl rfl (Or.inl rfl) rfl ?_
                  refine wl_v (.bool true) rfl rfl (y_pickT rfl rfl rfl ⟨rfl, rfl⟩) ?_
                  refine wl_nil fun F322 hF323 => ?_
                  have s324 : F322 1 = .int .i64 (p) := (hF323 1).trans s297
                  have s325 : F322 2 = .int .i64 (x) := (hF323 2).trans s298
                  have s326 : F322 3 = .int .i64 (y) := (hF323 3).trans s299
                  have s327 : F322 4 = .int .i64 (mode) := (hF323 4).trans s300
                  have s328 : F322 116 = undef := (hF323 116).trans s301
                  have s329 : F322 5 = .pointer (some ⟨p1, 0, none⟩) := (hF323 5).trans s302
                  have s330 : F322 10 = .pointer (some ⟨p14, 0, none⟩) := (hF323 10).trans s303
                  have s331 : F322 12 = .pointer (some ⟨p39, 0, none⟩) := (hF323 12).trans s304
                  have s332 : F322 52 = .bool true := (hF323 52).trans rfl
                  clear hF323
                  refine then_normal ?_
                  refine wq_cond (t := true) s332 (fun _ => ?_) (fun e => by cases e)
                  refine wq_seq ?_
                  refine wq_region ?_
                  refine wl_v (blkV (fun _ => 0)) rfl rfl (y_load_blk blkT_arr rfl s331 B293 ⟨rfl, rfl⟩) ?_
                  refine wl_store_blk blkT_arr rfl rfl rfl s330 rfl B292 fun w333 B334 k335 => ?_
                  have B336 := B288.all k335 (fun i h x => (((ap21).symm) i h x))
                  have B337 := B289.all k335 (fun i h x => (((ap22).symm) i h x))
                  have B338 := B290.all k335 (fun i h x => (((ap23).symm) i h x))
                  have B339 := B291.all k335 (fun x => (((ap24).symm) p1 rfl x))
                  have B340 := B293.all k335 (fun x => ((ap50) p39 rfl x))
                  have K341 := K294.trans k335 (Grew.ok (S := fun _ => False) gr20 noB_le)
                  refine wl_v (.int .i64 (80)) rfl rfl (y_asg rfl rfl ⟨rfl, rfl⟩) ?_
                  refine wl_nil fun F342 hF343 => ?_
                  have s344 : F342 116 = undef := (hF343 116).trans s328
                  have s345 : F342 10 = .pointer (some ⟨p14, 0, none⟩) := (hF343 10).trans s330
                  have s346 : F342 11 = .int .i64 (80) := (hF343 11).trans rfl
                  clear hF343
                  refine then_normal ?_
                  refine wq_ret ?_
                  refine then_ret ?_
                  exact end_2 s344 rfl (res_blk blkT_arr rfl s345 B334) (res_tmp (v := .int .i64 (80)) rfl s346) ⟨(by first | rw [(pred_no hno).1, (pred_no hno).2] | rw [(pred_none hpl (by omega)).1, (pred_none hpl (by omega)).2] | rw [(pred_yes hpl (by decide)).1, (pred_yes hpl (by decide)).2]), K341⟩
                · skip
                  refine wq_region ?_
                  refine wl_v (.int .i64 (mode)) rfl rfl (y_mov rfl s300 ⟨rfl, rfl⟩) ?_
                  refine wl_v (.bool false) rfl rfl (y_lss rfl rfl rfl (decide_eq_false d321) ⟨rfl, rfl⟩) ?_
                  refine wl_v (.bool false) rfl rfl (y_mov rfl rfl ⟨rfl, rfl⟩) ?_
                  refine wl_vw (.int .i64 (mode)) 2 false 49 rfl rfl rfl rfl rfl (y_mov rfl s300 ⟨rfl, rfl⟩) ?_
                  refine wl_vw (.bool (decide ((3) < (mode)))) 2 false 49 rfl rfl rfl rfl rfl (y_gtr rfl rfl rfl rfl ⟨rfl, rfl⟩) ?_
                  refine wl_v (.bool (decide ((3) < (mode)))) rfl rfl (y_pickF rfl rfl rfl ⟨rfl, rfl⟩) ?_
                  refine wl_nil fun F347 hF348 => ?_
                  have s349 : F347 1 = .int .i64 (p) := (hF348 1).trans s297
                  have s350 : F347 2 = .int .i64 (x) := (hF348 2).trans s298
                  have s351 : F347 3 = .int .i64 (y) := (hF348 3).trans s299
                  have s352 : F347 4 = .int .i64 (mode) := (hF348 4).trans s300
                  have s353 : F347 116 = undef := (hF348 116).trans s301
                  have s354 : F347 5 = .pointer (some ⟨p1, 0, none⟩) := (hF348 5).trans s302
                  have s355 : F347 10 = .pointer (some ⟨p14, 0, none⟩) := (hF348 10).trans s303
                  have s356 : F347 12 = .pointer (some ⟨p39, 0, none⟩) := (hF348 12).trans s304
                  have s357 : F347 52 = .bool (decide ((3) < (mode))) := (hF348 52).trans rfl
                  clear hF348
                  refine then_normal ?_
                  refine wq_cond s357 (fun c358 => ?_) (fun c358 => ?_)
                  · replace c358 := of_decide_eq_true c358
                    refine wq_seq ?_
                    refine wq_region ?_
                    refine wl_v (blkV (fun _ => 0)) rfl rfl (y_load_blk blkT_arr rfl s356 B293 ⟨rfl, rfl⟩) ?_
                    refine wl_store_blk blkT_arr rfl rfl rfl s355 rfl B292 fun w359 B360 k361 => ?_
                    have B362 := B288.all k361 (fun i h x => (((ap21).symm) i h x))
                    have B363 := B289.all k361 (fun i h x => (((ap22).symm) i h x))
                    have B364 := B290.all k361 (fun i h x => (((ap23).symm) i h x))
                    have B365 := B291.all k361 (fun x => (((ap24).symm) p1 rfl x))
                    have B366 := B293.all k361 (fun x => ((ap50) p39 rfl x))
                    have K367 := K294.trans k361 (Grew.ok (S := fun _ => False) gr20 noB_le)
                    refine wl_v (.int .i64 (80)) rfl rfl (y_asg rfl rfl ⟨rfl, rfl⟩) ?_
                    refine wl_nil fun F368 hF369 => ?_
                    have s370 : F368 116 = undef := (hF369 116).trans s353
                    have s371 : F368 10 = .pointer (some ⟨p14, 0, none⟩) := (hF369 10).trans s355
                    have s372 : F368 11 = .int .i64 (80) := (hF369 11).trans rfl
                    clear hF369
                    refine then_normal ?_
                    refine wq_ret ?_
                    refine then_ret ?_
                    exact end_2 s370 rfl (res_blk blkT_arr rfl s371 B360) (res_tmp (v := .int .i64 (80)) rfl s372) ⟨(by first | rw [(pred_no hno).1, (pred_no hno).2] | rw [(pred_none hpl (by omega)).1, (pred_none hpl (by omega)).2] | rw [(pred_yes hpl (by decide)).1, (pred_yes hpl (by decide)).2]), K367⟩
                  · replace c358 := of_decide_eq_false c358
                    refine wq_skip ?_
                    refine then_normal ?_
                    refine wq_seq ?_
                    refine wq_region ?_
                    refine wl_v (.int .i64 (4)) rfl rfl (y_asg rfl rfl ⟨rfl, rfl⟩) ?_
                    refine wl_nil fun F373 hF374 => ?_
                    have s375 : F373 1 = .int .i64 (p) := (hF374 1).trans s349
                    have s376 : F373 2 = .int .i64 (x) := (hF374 2).trans s350
                    have s377 : F373 3 = .int .i64 (y) := (hF374 3).trans s351
                    have s378 : F373 4 = .int .i64 (mode) := (hF374 4).trans s352
                    have s379 : F373 116 = undef := (hF374 116).trans s353
                    have s380 : F373 5 = .pointer (some ⟨p1, 0, none⟩) := (hF374 5).trans s354
                    have s381 : F373 10 = .pointer (some ⟨p14, 0, none⟩) := (hF374 10).trans s355
                    have s382 : F373 12 = .pointer (some ⟨p39, 0, none⟩) := (hF374 12).trans s356
                    have s383 : F373 13 = .int .i64 (4) := (hF374 13).trans rfl
                    clear hF374
                    refine then_normal ?_
                    refine wq_seq ?_
                    refine wq_seq ?_
                    refine wq_region ?_
                    refine wl_v (.int .i64 (0)) rfl rfl (y_asg rfl rfl ⟨rfl, rfl⟩) ?_
                    refine wl_nil fun F384 hF385 => ?_
                    have s386 : F384 1 = .int .i64 (p) := (hF385 1).trans s375
                    have s387 : F384 2 = .int .i64 (x) := (hF385 2).trans s376
                    have s388 : F384 3 = .int .i64 (y) := (hF385 3).trans s377
                    have s389 : F384 4 = .int .i64 (mode) := (hF385 4).trans s378
                    have s390 : F384 116 = undef := (hF385 116).trans s379
                    have s391 : F384 5 = .pointer (some ⟨p1, 0, none⟩) := (hF385 5).trans s380
                    have s392 : F384 10 = .pointer (some ⟨p14, 0, none⟩) := (hF385 10).trans s381
                    have s393 : F384 12 = .pointer (some ⟨p39, 0, none⟩) := (hF385 12).trans s382
                    have s394 : F384 13 = .int .i64 (4) := (hF385 13).trans s383
                    have s395 : F384 14 = .int .i64 (0) := (hF385 14).trans rfl
                    clear hF385
                    refine then_normal ?_
                    refine wq_block ?_
                    refine wq_loop (fun nn FF ww => ∃ (i : Nat), (i ≤ 4) ∧ nn = 4 - i ∧ FF 1 = .int .i64 (p) ∧ FF 2 = .int .i64 (x) ∧ FF 3 = .int .i64 (y) ∧ FF 4 = .int .i64 (mode) ∧ FF 5 = .pointer (some ⟨p1, 0, none⟩) ∧ FF 10 = .pointer (some ⟨p14, 0, none⟩) ∧ FF 12 = .pointer (some ⟨p39, 0, none⟩) ∧ FF 116 = undef ∧ FF 13 = .int .i64 (sumTo f p x y i) ∧ FF 14 = .int .i64 (((i : Nat) : Int)) ∧ Kept (fun _ => False) w0 ww ∧ Byt ww (T_f0) f0 ((f).p0) ∧ Byt ww (T_f1) f1 ((f).p1) ∧ Byt ww (T_f2) f2 ((f).p2) ∧ Stc ww p1 25 [.int .i64 ((f).W), .int .i64 ((f).H), f0, f1, f2] ∧ Blk ww p14 26 (fun _ => 0) ∧ Blk ww p39 26 (fun _ => 0)) (4 - (0)) ⟨0, by omega, rfl, s386, s387, s388, s389, s391, s392, s393, s390, s394, s395, K294, B288, B289, B290, B291, B292, B293⟩ ?_
                    rintro n399 F396 w397 ⟨i, i400, hn399, s401, s402, s403, s404, s405, s406, s407, s408, s409, s410, K398, B411, B412, B413, B414, B415, B416⟩
                    refine wq_seq ?_
                    refine wq_seq ?_
                    refine wq_region ?_
                    refine wl_v (.int .i64 (((i : Nat) : Int))) rfl rfl (y_mov rfl s410 ⟨rfl, rfl⟩) ?_
                    refine wl_v (.bool (decide ((((i : Nat) : Int)) < (4)))) rfl rfl (y_lss rfl rfl rfl rfl ⟨rfl, rfl⟩) ?_
                    refine wl_nil fun F417 hF418 => ?_
                    have s419 : F417 1 = .int .i64 (p) := (hF418 1).trans s401
                    have s420 : F417 2 = .int .i64 (x) := (hF418 2).trans s402
                    have s421 : F417 3 = .int .i64 (y) := (hF418 3).trans s403
                    have s422 : F417 4 = .int .i64 (mode) := (hF418 4).trans s404
                    have s423 : F417 5 = .pointer (some ⟨p1, 0, none⟩) := (hF418 5).trans s405
                    have s424 : F417 10 = .pointer (some ⟨p14, 0, none⟩) := (hF418 10).trans s406
                    have s425 : F417 12 = .pointer (some ⟨p39, 0, none⟩) := (hF418 12).trans s407
                    have s426 : F417 116 = undef := (hF418 116).trans s408
                    have s427 : F417 13 = .int .i64 (sumTo f p x y i) := (hF418 13).trans s409
                    have s428 : F417 14 = .int .i64 (((i : Nat) : Int)) := (hF418 14).trans s410
                    have s429 : F417 55 = .bool (decide ((((i : Nat) : Int)) < (4))) := (hF418 55).trans rfl
                    clear hF418
                    refine then_normal ?_
                    refine wq_cond s429 (fun c430 => ?_) (fun c430 => ?_)
                    · replace c430 := of_decide_eq_true c430
                      refine wq_skip ?_
                      refine then_normal ?_
                      refine wq_seq ?_
                      refine wq_block ?_
                      have hs := sumTo_le hb p x y i
                      have ha := above_le hb p x y (i : Nat)
                      have hl := left_le hb p x y (i : Nat)
                      refine wq_tail 15 [some 58, some 59, some 60, some 61, some 62, some 63, some 64, some 65, some 66, some 67, some 68, some 69, some 70, some 71, some 72] [Pd.eq (.int .i64 (sumTo f p x y i)), Pd.eq (.agg #[.int .i64 ((f).W), .int .i64 ((f).H), f0, f1, f2]), Pd.eq (.int .i64 (p)), Pd.eq (.int .i64 (x)), Pd.eq (.int .i64 (y)), Pd.eq (.int .i64 (((i : Nat) : Int))), Pd.eq (.int .i64 (aboveF (f) (p) (x) (y) (((i : Nat) : Int)))), Pd.eq (.int .i64 ((sumTo f p x y i) + (aboveF (f) (p) (x) (y) (((i : Nat) : Int))))), Pd.eq (.agg #[.int .i64 ((f).W), .int .i64 ((f).H), f0, f1, f2]), Pd.eq (.int .i64 (p)), Pd.eq (.int .i64 (x)), Pd.eq (.int .i64 (y)), Pd.eq (.int .i64 (((i : Nat) : Int))), Pd.eq (.int .i64 (leftF (f) (p) (x) (y) (((i : Nat) : Int)))), Pd.eq (.int .i64 (((sumTo f p x y i) + (aboveF (f) (p) (x) (y) (((i : Nat) : Int)))) + (leftF (f) (p) (x) (y) (((i : Nat) : Int)))))] (by kernel_rfl) (by kernel_rfl) (by kernel_rfl) ?_ ?_
                      · refine stepsF_cons ?_ ?_
                        · refine StepF.one rfl fun F_ w_ hR hout hD => ?_
                          exact (y_mov rfl ((hout 13 rfl (by decide)).trans s427) ⟨rfl, Kept.refl _ _⟩)
                        refine stepsF_cons ?_ ?_
                        · refine StepF.one rfl fun F_ w_ hR hout hD => ?_
                          exact (y_load_stc stcT_frame rfl ((hout 5 rfl (by decide)).trans s423) (B414.all hR id) ⟨rfl, Kept.refl _ _⟩)
                        refine stepsF_cons ?_ ?_
                        · refine StepF.one rfl fun F_ w_ hR hout hD => ?_
                          exact (y_mov rfl ((hout 1 rfl (by decide)).trans s419) ⟨rfl, Kept.refl _ _⟩)
                        refine stepsF_cons ?_ ?_
                        · refine StepF.one rfl fun F_ w_ hR hout hD => ?_
                          exact (y_mov rfl ((hout 2 rfl (by decide)).trans s420) ⟨rfl, Kept.refl _ _⟩)
                        refine stepsF_cons ?_ ?_
                        · refine StepF.one rfl fun F_ w_ hR hout hD => ?_
                          exact (y_mov rfl ((hout 3 rfl (by decide)).trans s421) ⟨rfl, Kept.refl _ _⟩)
                        refine stepsF_cons ?_ ?_
                        · refine StepF.one rfl fun F_ w_ hR hout hD => ?_
                          exact (y_mov rfl ((hout 14 rfl (by decide)).trans s428) ⟨rfl, Kept.refl _ _⟩)
                        refine stepsF_cons ?_ ?_
                        · refine StepF.one rfl fun F_ w_ hR hout hD => ?_
                          have g59 : F_ 59 = .agg #[.int .i64 ((f).W), .int .i64 ((f).H), f0, f1, f2] := hD.get 0 rfl rfl rfl
                          have g60 : F_ 60 = .int .i64 (p) := hD.get 1 rfl rfl rfl
                          have g61 : F_ 61 = .int .i64 (x) := hD.get 2 rfl rfl rfl
                          have g62 : F_ 62 = .int .i64 (y) := hD.get 3 rfl rfl rfl
                          have g63 : F_ 63 = .int .i64 (((i : Nat) : Int)) := hD.get 4 rfl rfl rfl
                          exact (y_cs rfl rfl rfl (fun _ _ => by kernel_rfl) (ev_func _) (vsC g59 (vsC g60 (vsC g61 (vsC g62 (vsC g63 vsN))))) (iref_above (p) (x) (y) (((i : Nat) : Int)) (f) (f0) (f1) (f2) (T_f0) (T_f1) (T_f2) _ (by omega) (by omega) (by omega) (B411.all hR Apart.none) (B412.all hR Apart.none) (B413.all hR Apart.none) ) (fun e_ w_ h_ => ⟨_, h_.1, rfl, h_.2⟩))
                        refine stepsF_cons ?_ ?_
                        · refine StepF.one rfl fun F_ w_ hR hout hD => ?_
                          have g58 : F_ 58 = .int .i64 (sumTo f p x y i) := hD.get 0 rfl rfl rfl
                          have g64 : F_ 64 = .int .i64 (aboveF (f) (p) (x) (y) (((i : Nat) : Int))) := hD.get 1 rfl rfl rfl
                          exact (y_add rfl g58 g64 (i64_i rfl (by omega)) ⟨rfl, Kept.refl _ _⟩)
                        refine stepsF_cons ?_ ?_
                        · refine StepF.one rfl fun F_ w_ hR hout hD => ?_
                          exact (y_load_stc stcT_frame rfl ((hout 5 rfl (by decide)).trans s423) (B414.all hR id) ⟨rfl, Kept.refl _ _⟩)
                        refine stepsF_cons ?_ ?_
                        · refine StepF.one rfl fun F_ w_ hR hout hD => ?_
                          exact (y_mov rfl ((hout 1 rfl (by decide)).trans s419) ⟨rfl, Kept.refl _ _⟩)
                        refine stepsF_cons ?_ ?_
                        · refine StepF.one rfl fun F_ w_ hR hout hD => ?_
                          exact (y_mov rfl ((hout 2 rfl (by decide)).trans s420) ⟨rfl, Kept.refl _ _⟩)
                        refine stepsF_cons ?_ ?_
                        · refine StepF.one rfl fun F_ w_ hR hout hD => ?_
                          exact (y_mov rfl ((hout 3 rfl (by decide)).trans s421) ⟨rfl, Kept.refl _ _⟩)
                        refine stepsF_cons ?_ ?_
                        · refine StepF.one rfl fun F_ w_ hR hout hD => ?_
                          exact (y_mov rfl ((hout 14 rfl (by decide)).trans s428) ⟨rfl, Kept.refl _ _⟩)
                        refine stepsF_cons ?_ ?_
                        · refine StepF.one rfl fun F_ w_ hR hout hD => ?_
                          have g66 : F_ 66 = .agg #[.int .i64 ((f).W), .int .i64 ((f).H), f0, f1, f2] := hD.get 0 rfl rfl rfl
                          have g67 : F_ 67 = .int .i64 (p) := hD.get 1 rfl rfl rfl
                          have g68 : F_ 68 = .int .i64 (x) := hD.get 2 rfl rfl rfl
                          have g69 : F_ 69 = .int .i64 (y) := hD.get 3 rfl rfl rfl
                          have g70 : F_ 70 = .int .i64 (((i : Nat) : Int)) := hD.get 4 rfl rfl rfl
                          exact (y_cs rfl rfl rfl (fun _ _ => by kernel_rfl) (ev_func _) (vsC g66 (vsC g67 (vsC g68 (vsC g69 (vsC g70 vsN))))) (iref_left (p) (x) (y) (((i : Nat) : Int)) (f) (f0) (f1) (f2) (T_f0) (T_f1) (T_f2) _ (by omega) (by omega) (by omega) (B411.all hR Apart.none) (B412.all hR Apart.none) (B413.all hR Apart.none) ) (fun e_ w_ h_ => ⟨_, h_.1, rfl, h_.2⟩))
                        refine stepsF_cons ?_ ?_
                        · refine StepF.one rfl fun F_ w_ hR hout hD => ?_
                          have g65 : F_ 65 = .int .i64 ((sumTo f p x y i) + (aboveF (f) (p) (x) (y) (((i : Nat) : Int)))) := hD.get 0 rfl rfl rfl
                          have g71 : F_ 71 = .int .i64 (leftF (f) (p) (x) (y) (((i : Nat) : Int))) := hD.get 1 rfl rfl rfl
                          exact (y_add rfl g65 g71 (i64_i rfl (by omega)) ⟨rfl, Kept.refl _ _⟩)
                        exact stepsF_nil
                      intro v431 F432 w433 k434 G435 hF436
                      have B438 := B411.all k434 Apart.none
                      have B439 := B412.all k434 Apart.none
                      have B440 := B413.all k434 Apart.none
                      have B441 := B414.all k434 id
                      have B442 := B415.all k434 id
                      have B443 := B416.all k434 id
                      have K444 := K398.trans k434 (fun _ _ x => x.elim)
                      have s445 : F432 1 = .int .i64 (p) := (hF436 1).trans s419
                      have s446 : F432 2 = .int .i64 (x) := (hF436 2).trans s420
                      have s447 : F432 3 = .int .i64 (y) := (hF436 3).trans s421
                      have s448 : F432 4 = .int .i64 (mode) := (hF436 4).trans s422
                      have s449 : F432 5 = .pointer (some ⟨p1, 0, none⟩) := (hF436 5).trans s423
                      have s450 : F432 10 = .pointer (some ⟨p14, 0, none⟩) := (hF436 10).trans s424
                      have s451 : F432 12 = .pointer (some ⟨p39, 0, none⟩) := (hF436 12).trans s425
                      have s452 : F432 116 = undef := (hF436 116).trans s426
                      have s453 : F432 13 = .int .i64 (sumTo f p x y i) := (hF436 13).trans s427
                      have s454 : F432 14 = .int .i64 (((i : Nat) : Int)) := (hF436 14).trans s428
                      have s455 : F432 72 = .int .i64 (((sumTo f p x y i) + (aboveF (f) (p) (x) (y) (((i : Nat) : Int)))) + (leftF (f) (p) (x) (y) (((i : Nat) : Int)))) := (hF436 72).trans (G435 14 (by decide))
                      clear G435 hF436
                      refine wl_v (.int .i64 (((sumTo f p x y i) + (aboveF (f) (p) (x) (y) (((i : Nat) : Int)))) + (leftF (f) (p) (x) (y) (((i : Nat) : Int))))) rfl rfl (y_asg rfl s455 ⟨rfl, rfl⟩) ?_
                      refine wl_nil fun F456 hF457 => ?_
                      have s458 : F456 1 = .int .i64 (p) := (hF457 1).trans s445
                      have s459 : F456 2 = .int .i64 (x) := (hF457 2).trans s446
                      have s460 : F456 3 = .int .i64 (y) := (hF457 3).trans s447
                      have s461 : F456 4 = .int .i64 (mode) := (hF457 4).trans s448
                      have s462 : F456 5 = .pointer (some ⟨p1, 0, none⟩) := (hF457 5).trans s449
                      have s463 : F456 10 = .pointer (some ⟨p14, 0, none⟩) := (hF457 10).trans s450
                      have s464 : F456 12 = .pointer (some ⟨p39, 0, none⟩) := (hF457 12).trans s451
                      have s465 : F456 116 = undef := (hF457 116).trans s452
                      have s466 : F456 14 = .int .i64 (((i : Nat) : Int)) := (hF457 14).trans s454
                      have s467 : F456 13 = .int .i64 (((sumTo f p x y i) + (aboveF (f) (p) (x) (y) (((i : Nat) : Int)))) + (leftF (f) (p) (x) (y) (((i : Nat) : Int)))) := (hF457 13).trans rfl
                      clear hF457
                      refine in_normal ?_
                      refine then_normal ?_
                      refine wq_region ?_
                      refine wl_v (.int .i64 (((i : Nat) : Int))) rfl rfl (y_mov rfl s466 ⟨rfl, rfl⟩) ?_
                      refine wl_v (.int .i64 (((i + 1 : Nat) : Int))) rfl rfl (y_add rfl rfl rfl (i64_n (by omega) (by omega)) ⟨rfl, rfl⟩) ?_
                      refine wl_v (.int .i64 (((i + 1 : Nat) : Int))) rfl rfl (y_asg rfl rfl ⟨rfl, rfl⟩) ?_
                      refine wl_nil fun F468 hF469 => ?_
                      have s470 : F468 1 = .int .i64 (p) := (hF469 1).trans s458
                      have s471 : F468 2 = .int .i64 (x) := (hF469 2).trans s459
                      have s472 : F468 3 = .int .i64 (y) := (hF469 3).trans s460
                      have s473 : F468 4 = .int .i64 (mode) := (hF469 4).trans s461
                      have s474 : F468 5 = .pointer (some ⟨p1, 0, none⟩) := (hF469 5).trans s462
                      have s475 : F468 10 = .pointer (some ⟨p14, 0, none⟩) := (hF469 10).trans s463
                      have s476 : F468 12 = .pointer (some ⟨p39, 0, none⟩) := (hF469 12).trans s464
                      have s477 : F468 116 = undef := (hF469 116).trans s465
                      have s478 : F468 13 = .int .i64 (((sumTo f p x y i) + (aboveF (f) (p) (x) (y) (((i : Nat) : Int)))) + (leftF (f) (p) (x) (y) (((i : Nat) : Int)))) := (hF469 13).trans s467
                      have s479 : F468 14 = .int .i64 (((i + 1 : Nat) : Int)) := (hF469 14).trans rfl
                      clear hF469
                      exact then_normal ⟨(4 - (i + 1)), by omega, i + 1, by omega, rfl, s470, s471, s472, s473, s474, s475, s476, s477, s478, s479, K444, B438, B439, B440, B441, B442, B443⟩
                    · replace c430 := of_decide_eq_false c430
                      refine wq_exit ?_
                      refine then_exit ?_
                      refine then_exit ?_
                      have l480 : 4 = i := by omega
                      subst l480
                      refine in_here ?_
                      refine then_normal ?_
                      refine wq_seq ?_
                      refine wq_seq ?_
                      rcases (show mode = 0 ∨ mode = 1 ∨ mode = 2 ∨ mode = 3 from (by omega)) with rfl | rfl | rfl | rfl
                      · skip
                        refine wq_region ?_
                        refine wl_v (.int .i64 (0)) rfl rfl (y_asg rfl rfl ⟨rfl, rfl⟩) ?_
                        refine wl_nil fun F481 hF482 => ?_
                        have s483 : F481 1 = .int .i64 (p) := (hF482 1).trans s419
                        have s484 : F481 2 = .int .i64 (x) := (hF482 2).trans s420
                        have s485 : F481 3 = .int .i64 (y) := (hF482 3).trans s421
                        have s486 : F481 4 = .int .i64 (0) := (hF482 4).trans s422
                        have s487 : F481 5 = .pointer (some ⟨p1, 0, none⟩) := (hF482 5).trans s423
                        have s488 : F481 10 = .pointer (some ⟨p14, 0, none⟩) := (hF482 10).trans s424
                        have s489 : F481 12 = .pointer (some ⟨p39, 0, none⟩) := (hF482 12).trans s425
                        have s490 : F481 116 = undef := (hF482 116).trans s426
                        have s491 : F481 13 = .int .i64 (sumTo f p x y 4) := (hF482 13).trans s427
                        have s492 : F481 15 = .int .i64 (0) := (hF482 15).trans rfl
                        clear hF482
                        refine then_normal ?_
                        refine wq_block ?_
                        refine wq_loop (fun nn FF ww => ∃ (n : Nat), (n ≤ 16) ∧ nn = 16 - n ∧ FF 1 = .int .i64 (p) ∧ FF 2 = .int .i64 (x) ∧ FF 3 = .int .i64 (y) ∧ FF 4 = .int .i64 (0) ∧ FF 5 = .pointer (some ⟨p1, 0, none⟩) ∧ FF 10 = .pointer (some ⟨p14, 0, none⟩) ∧ FF 12 = .pointer (some ⟨p39, 0, none⟩) ∧ FF 13 = .int .i64 (sumTo f p x y 4) ∧ FF 116 = undef ∧ FF 15 = .int .i64 (((n : Nat) : Int)) ∧ Kept (fun _ => False) w0 ww ∧ Byt ww (T_f0) f0 ((f).p0) ∧ Byt ww (T_f1) f1 ((f).p1) ∧ Byt ww (T_f2) f2 ((f).p2) ∧ Stc ww p1 25 [.int .i64 ((f).W), .int .i64 ((f).H), f0, f1, f2] ∧ Blk ww p14 26 (fun _ => 0) ∧ Blk ww p39 26 (upto n (fun _ => 0) (predN f p x y 0))) (16 - (0)) ⟨0, by omega, rfl, s483, s484, s485, s486, s487, s488, s489, s491, s490, s492, K398, B411, B412, B413, B414, B415, B416.first⟩ ?_
                        rintro n496 F493 w494 ⟨n, i497, hn496, s498, s499, s500, s501, s502, s503, s504, s505, s506, s507, K495, B508, B509, B510, B511, B512, B513⟩
                        refine wq_seq ?_
                        refine wq_seq ?_
                        refine wq_region ?_
                        refine wl_v (.int .i64 (((n : Nat) : Int))) rfl rfl (y_mov rfl s507 ⟨rfl, rfl⟩) ?_
                        refine wl_v (.bool (decide ((((n : Nat) : Int)) < (16)))) rfl rfl (y_lss rfl rfl rfl rfl ⟨rfl, rfl⟩) ?_
                        refine wl_nil fun F514 hF515 => ?_
                        have s516 : F514 1 = .int .i64 (p) := (hF515 1).trans s498
                        have s517 : F514 2 = .int .i64 (x) := (hF515 2).trans s499
                        have s518 : F514 3 = .int .i64 (y) := (hF515 3).trans s500
                        have s519 : F514 4 = .int .i64 (0) := (hF515 4).trans s501
                        have s520 : F514 5 = .pointer (some ⟨p1, 0, none⟩) := (hF515 5).trans s502
                        have s521 : F514 10 = .pointer (some ⟨p14, 0, none⟩) := (hF515 10).trans s503
                        have s522 : F514 12 = .pointer (some ⟨p39, 0, none⟩) := (hF515 12).trans s504
                        have s523 : F514 13 = .int .i64 (sumTo f p x y 4) := (hF515 13).trans s505
                        have s524 : F514 116 = undef := (hF515 116).trans s506
                        have s525 : F514 15 = .int .i64 (((n : Nat) : Int)) := (hF515 15).trans s507
                        have s526 : F514 74 = .bool (decide ((((n : Nat) : Int)) < (16))) := (hF515 74).trans rfl
                        clear hF515
                        refine then_normal ?_
                        refine wq_cond s526 (fun c527 => ?_) (fun c527 => ?_)
                        · replace c527 := of_decide_eq_true c527
                          refine wq_skip ?_
                          refine then_normal ?_
                          refine wq_seq ?_
                          refine wq_block ?_
                          refine wq_seq ?_
                          have hs := sumTo_le hb p x y 4
                          have ha := above_le hb p x y ((n % 4 : Nat) : Int)
                          have hl := left_le hb p x y ((n / 4 : Nat) : Int)
                          refine wq_region ?_
                          refine wl_v (.agg #[.int .i64 ((f).W), .int .i64 ((f).H), f0, f1, f2]) rfl rfl (y_load_stc stcT_frame rfl s520 B511 ⟨rfl, rfl⟩) ?_
                          refine wl_v (.int .i64 (p)) rfl rfl (y_mov rfl s516 ⟨rfl, rfl⟩) ?_
                          refine wl_v (.int .i64 (x)) rfl rfl (y_mov rfl s517 ⟨rfl, rfl⟩) ?_
                          refine wl_v (.int .i64 (y)) rfl rfl (y_mov rfl s518 ⟨rfl, rfl⟩) ?_
                          refine wl_v (.int .i64 (((n : Nat) : Int))) rfl rfl (y_mov rfl s525 ⟨rfl, rfl⟩) ?_
                          refine wl_v (.int .i64 ((((n % 4) : Nat) : Int))) rfl rfl (y_rem rfl rfl rfl (by first | decide | omega) (rem_nat n 4) ⟨rfl, rfl⟩) ?_
                          refine wl_call (R := fun v_ w_ => v_ = .int .i64 (aboveF (f) (p) (x) (y) ((((n % 4) : Nat) : Int))) ∧ Kept (fun _ => False) w494 w_) rfl rfl (y_cs rfl rfl rfl (fun _ _ => by kernel_rfl) (ev_func _) (vsC rfl (vsC rfl (vsC rfl (vsC rfl (vsC rfl vsN))))) (iref_above (p) (x) (y) ((((n % 4) : Nat) : Int)) (f) (f0) (f1) (f2) (T_f0) (T_f1) (T_f2) _ (by omega) (by omega) (by omega) B508 B509 B510 ) (fun e_ w_ h_ => ⟨_, h_.1, rfl, h_.2⟩)) ?_
                          rintro _ w528 ⟨rfl, k529⟩
                          have B530 := B508.all k529 Apart.none
                          have B531 := B509.all k529 Apart.none
                          have B532 := B510.all k529 Apart.none
                          have B533 := B511.all k529 id
                          have B534 := B512.all k529 id
                          have B535 := B513.all k529 id
                          have K536 := K495.trans k529 (fun _ _ x => x.elim)
                          refine wl_v (.int .i64 (aboveF (f) (p) (x) (y) ((((n % 4) : Nat) : Int)))) rfl rfl (y_asg rfl rfl ⟨rfl, rfl⟩) ?_
                          refine wl_nil fun F537 hF538 => ?_
                          have s539 : F537 1 = .int .i64 (p) := (hF538 1).trans s516
                          have s540 : F537 2 = .int .i64 (x) := (hF538 2).trans s517
                          have s541 : F537 3 = .int .i64 (y) := (hF538 3).trans s518
                          have s542 : F537 4 = .int .i64 (0) := (hF538 4).trans s519
                          have s543 : F537 5 = .pointer (some ⟨p1, 0, none⟩) := (hF538 5).trans s520
                          have s544 : F537 10 = .pointer (some ⟨p14, 0, none⟩) := (hF538 10).trans s521
                          have s545 : F537 12 = .pointer (some ⟨p39, 0, none⟩) := (hF538 12).trans s522
                          have s546 : F537 13 = .int .i64 (sumTo f p x y 4) := (hF538 13).trans s523
                          have s547 : F537 116 = undef := (hF538 116).trans s524
                          have s548 : F537 15 = .int .i64 (((n : Nat) : Int)) := (hF538 15).trans s525
                          have s549 : F537 16 = .int .i64 (aboveF (f) (p) (x) (y) ((((n % 4) : Nat) : Int))) := (hF538 16).trans rfl
                          clear hF538
                          refine then_normal ?_
                          refine wq_seq ?_
                          refine wq_region ?_
                          refine wl_v (.agg #[.int .i64 ((f).W), .int .i64 ((f).H), f0, f1, f2]) rfl rfl (y_load_stc stcT_frame rfl s543 B533 ⟨rfl, rfl⟩) ?_
                          refine wl_v (.int .i64 (p)) rfl rfl (y_mov rfl s539 ⟨rfl, rfl⟩) ?_
                          refine wl_v (.int .i64 (x)) rfl rfl (y_mov rfl s540 ⟨rfl, rfl⟩) ?_
                          refine wl_v (.int .i64 (y)) rfl rfl (y_mov rfl s541 ⟨rfl, rfl⟩) ?_
                          refine wl_v (.int .i64 (((n : Nat) : Int))) rfl rfl (y_mov rfl s548 ⟨rfl, rfl⟩) ?_
                          refine wl_v (.int .i64 ((((n / 4) : Nat) : Int))) rfl rfl (y_quo rfl rfl rfl (by first | decide | omega) (i64_n (quo_nat n 4) (by omega)) ⟨rfl, rfl⟩) ?_
                          refine wl_call (R := fun v_ w_ => v_ = .int .i64 (leftF (f) (p) (x) (y) ((((n / 4) : Nat) : Int))) ∧ Kept (fun _ => False) w528 w_) rfl rfl (y_cs rfl rfl rfl (fun _ _ => by kernel_rfl) (ev_func _) (vsC rfl (vsC rfl (vsC rfl (vsC rfl (vsC rfl vsN))))) (iref_left (p) (x) (y) ((((n / 4) : Nat) : Int)) (f) (f0) (f1) (f2) (T_f0) (T_f1) (T_f2) _ (by omega) (by omega) (by omega) B530 B531 B532 ) (fun e_ w_ h_ => ⟨_, h_.1, rfl, h_.2⟩)) ?_
                          rintro _ w550 ⟨rfl, k551⟩
                          have B552 := B530.all k551 Apart.none
                          have B553 := B531.all k551 Apart.none
                          have B554 := B532.all k551 Apart.none
                          have B555 := B533.all k551 id
                          have B556 := B534.all k551 id
                          have B557 := B535.all k551 id
                          have K558 := K536.trans k551 (fun _ _ x => x.elim)
                          refine wl_v (.int .i64 (leftF (f) (p) (x) (y) ((((n / 4) : Nat) : Int)))) rfl rfl (y_asg rfl rfl ⟨rfl, rfl⟩) ?_
                          refine wl_nil fun F559 hF560 => ?_
                          have s561 : F559 1 = .int .i64 (p) := (hF560 1).trans s539
                          have s562 : F559 2 = .int .i64 (x) := (hF560 2).trans s540
                          have s563 : F559 3 = .int .i64 (y) := (hF560 3).trans s541
                          have s564 : F559 4 = .int .i64 (0) := (hF560 4).trans s542
                          have s565 : F559 5 = .pointer (some ⟨p1, 0, none⟩) := (hF560 5).trans s543
                          have s566 : F559 10 = .pointer (some ⟨p14, 0, none⟩) := (hF560 10).trans s544
                          have s567 : F559 12 = .pointer (some ⟨p39, 0, none⟩) := (hF560 12).trans s545
                          have s568 : F559 13 = .int .i64 (sumTo f p x y 4) := (hF560 13).trans s546
                          have s569 : F559 116 = undef := (hF560 116).trans s547
                          have s570 : F559 15 = .int .i64 (((n : Nat) : Int)) := (hF560 15).trans s548
                          have s571 : F559 16 = .int .i64 (aboveF (f) (p) (x) (y) ((((n % 4) : Nat) : Int))) := (hF560 16).trans s549
                          have s572 : F559 17 = .int .i64 (leftF (f) (p) (x) (y) ((((n / 4) : Nat) : Int))) := (hF560 17).trans rfl
                          clear hF560
                          refine then_normal ?_
                          refine wq_seq ?_
                          refine wq_region ?_
                          refine wl_v (.int .i64 (0)) rfl rfl (y_mov rfl s564 ⟨rfl, rfl⟩) ?_
                          refine wl_nil fun F573 hF574 => ?_
                          have s575 : F573 1 = .int .i64 (p) := (hF574 1).trans s561
                          have s576 : F573 2 = .int .i64 (x) := (hF574 2).trans s562
                          have s577 : F573 3 = .int .i64 (y) := (hF574 3).trans s563
                          have s578 : F573 4 = .int .i64 (0) := (hF574 4).trans s564
                          have s579 : F573 5 = .pointer (some ⟨p1, 0, none⟩) := (hF574 5).trans s565
                          have s580 : F573 10 = .pointer (some ⟨p14, 0, none⟩) := (hF574 10).trans s566
                          have s581 : F573 12 = .pointer (some ⟨p39, 0, none⟩) := (hF574 12).trans s567
                          have s582 : F573 13 = .int .i64 (sumTo f p x y 4) := (hF574 13).trans s568
                          have s583 : F573 116 = undef := (hF574 116).trans s569
                          have s584 : F573 15 = .int .i64 (((n : Nat) : Int)) := (hF574 15).trans s570
                          have s585 : F573 16 = .int .i64 (aboveF (f) (p) (x) (y) ((((n % 4) : Nat) : Int))) := (hF574 16).trans s571
                          have s586 : F573 17 = .int .i64 (leftF (f) (p) (x) (y) ((((n / 4) : Nat) : Int))) := (hF574 17).trans s572
                          have s587 : F573 91 = .int .i64 (0) := (hF574 91).trans rfl
                          clear hF574
                          refine then_normal ?_
                          refine wq_block ?_
                          refine wq_seq ?_
                          refine wq_region ?_
                          refine wl_v (.bool true) rfl rfl (y_eqlI rfl s587 rfl rfl ⟨rfl, rfl⟩) ?_
                          refine wl_v (.bool true) rfl rfl (y_asg rfl rfl ⟨rfl, rfl⟩) ?_
                          refine wl_nil fun F588 hF589 => ?_
                          have s590 : F588 1 = .int .i64 (p) := (hF589 1).trans s575
                          have s591 : F588 2 = .int .i64 (x) := (hF589 2).trans s576
                          have s592 : F588 3 = .int .i64 (y) := (hF589 3).trans s577
                          have s593 : F588 4 = .int .i64 (0) := (hF589 4).trans s578
                          have s594 : F588 5 = .pointer (some ⟨p1, 0, none⟩) := (hF589 5).trans s579
                          have s595 : F588 10 = .pointer (some ⟨p14, 0, none⟩) := (hF589 10).trans s580
                          have s596 : F588 12 = .pointer (some ⟨p39, 0, none⟩) := (hF589 12).trans s581
                          have s597 : F588 13 = .int .i64 (sumTo f p x y 4) := (hF589 13).trans s582
                          have s598 : F588 116 = undef := (hF589 116).trans s583
                          have s599 : F588 15 = .int .i64 (((n : Nat) : Int)) := (hF589 15).trans s584
                          have s600 : F588 16 = .int .i64 (aboveF (f) (p) (x) (y) ((((n % 4) : Nat) : Int))) := (hF589 16).trans s585
                          have s601 : F588 17 = .int .i64 (leftF (f) (p) (x) (y) ((((n / 4) : Nat) : Int))) := (hF589 17).trans s586
                          have s602 : F588 91 = .int .i64 (0) := (hF589 91).trans s587
                          have s603 : F588 99 = .bool true := (hF589 99).trans rfl
                          clear hF589
                          refine then_normal ?_
                          refine wq_cond (t := true) s603 (fun _ => ?_) (fun e => by cases e)
                          refine wq_region ?_
                          refine wl_v (.int .i64 (((n : Nat) : Int))) rfl rfl (y_mov rfl s599 ⟨rfl, rfl⟩) ?_
                          refine wl_v (.int .i64 (sumTo f p x y 4)) rfl rfl (y_mov rfl s597 ⟨rfl, rfl⟩) ?_
                          refine wl_v (.int .i64 (Int.tdiv (sumTo f p x y 4) 8)) rfl rfl (y_quo rfl rfl rfl (by first | decide | omega) (i64_i rfl (by rw [tdiv8 (by omega)]; omega)) ⟨rfl, rfl⟩) ?_
                          refine wl_v (.pointer (some ⟨p39, n, none⟩)) rfl rfl (y_atR (n) (s := 1) rfl s596 rfl (by omega) Try.underlying26 (by omega) (by kernel_rfl) (by omega) ⟨rfl, rfl⟩) ?_
                          refine wl_set_blk rfl rfl rfl rfl rfl B557 (by omega) (by kernel_rfl) fun w604 B605 k606 => ?_
                          have B607 := B552.all k606 (fun i h x => (((ap46).symm) i h x))
                          have B608 := B553.all k606 (fun i h x => (((ap47).symm) i h x))
                          have B609 := B554.all k606 (fun i h x => (((ap48).symm) i h x))
                          have B610 := B555.all k606 (fun x => (((ap49).symm) p1 rfl x))
                          have B611 := B556.all k606 (fun x => (((ap50).symm) p14 rfl x))
                          have K612 := K558.trans k606 (Grew.ok (S := fun _ => False) gr45 noB_le)
                          refine wl_nil fun F613 hF614 => ?_
                          have s615 : F613 1 = .int .i64 (p) := (hF614 1).trans s590
                          have s616 : F613 2 = .int .i64 (x) := (hF614 2).trans s591
                          have s617 : F613 3 = .int .i64 (y) := (hF614 3).trans s592
                          have s618 : F613 4 = .int .i64 (0) := (hF614 4).trans s593
                          have s619 : F613 5 = .pointer (some ⟨p1, 0, none⟩) := (hF614 5).trans s594
                          have s620 : F613 10 = .pointer (some ⟨p14, 0, none⟩) := (hF614 10).trans s595
                          have s621 : F613 12 = .pointer (some ⟨p39, 0, none⟩) := (hF614 12).trans s596
                          have s622 : F613 13 = .int .i64 (sumTo f p x y 4) := (hF614 13).trans s597
                          have s623 : F613 116 = undef := (hF614 116).trans s598
                          have s624 : F613 15 = .int .i64 (((n : Nat) : Int)) := (hF614 15).trans s599
                          clear hF614
                          refine in_normal ?_
                          refine in_normal ?_
                          refine then_normal ?_
                          refine wq_region ?_
                          refine wl_v (.int .i64 (((n : Nat) : Int))) rfl rfl (y_mov rfl s624 ⟨rfl, rfl⟩) ?_
                          refine wl_v (.int .i64 (((n + 1 : Nat) : Int))) rfl rfl (y_add rfl rfl rfl (i64_n (by omega) (by omega)) ⟨rfl, rfl⟩) ?_
                          refine wl_v (.int .i64 (((n + 1 : Nat) : Int))) rfl rfl (y_asg rfl rfl ⟨rfl, rfl⟩) ?_
                          refine wl_nil fun F625 hF626 => ?_
                          have s627 : F625 1 = .int .i64 (p) := (hF626 1).trans s615
                          have s628 : F625 2 = .int .i64 (x) := (hF626 2).trans s616
                          have s629 : F625 3 = .int .i64 (y) := (hF626 3).trans s617
                          have s630 : F625 4 = .int .i64 (0) := (hF626 4).trans s618
                          have s631 : F625 5 = .pointer (some ⟨p1, 0, none⟩) := (hF626 5).trans s619
                          have s632 : F625 10 = .pointer (some ⟨p14, 0, none⟩) := (hF626 10).trans s620
                          have s633 : F625 12 = .pointer (some ⟨p39, 0, none⟩) := (hF626 12).trans s621
                          have s634 : F625 13 = .int .i64 (sumTo f p x y 4) := (hF626 13).trans s622
                          have s635 : F625 116 = undef := (hF626 116).trans s623
                          have s636 : F625 15 = .int .i64 (((n + 1 : Nat) : Int)) := (hF626 15).trans rfl
                          clear hF626
                          exact then_normal ⟨(16 - (n + 1)), by omega, n + 1, by omega, rfl, s627, s628, s629, s630, s631, s632, s633, s634, s635, s636, K612, B607, B608, B609, B610, B611, (B605.next rfl)⟩
                        · replace c527 := of_decide_eq_false c527
                          refine wq_exit ?_
                          refine then_exit ?_
                          refine then_exit ?_
                          have l637 : 16 = n := by omega
                          subst l637
                          have B638 : Blk w494 p39 26 (predN f p x y 0) := (B513.last)
                          refine in_here ?_
                          refine then_normal ?_
                          refine wq_seq ?_
                          refine wq_region ?_
                          refine wl_v (blkV (predN f p x y 0)) rfl rfl (y_load_blk blkT_arr rfl s522 B638 ⟨rfl, rfl⟩) ?_
                          refine wl_store_blk blkT_arr rfl rfl rfl s521 rfl B512 fun w639 B640 k641 => ?_
                          have B642 := B508.all k641 (fun i h x => (((ap21).symm) i h x))
                          have B643 := B509.all k641 (fun i h x => (((ap22).symm) i h x))
                          have B644 := B510.all k641 (fun i h x => (((ap23).symm) i h x))
                          have B645 := B511.all k641 (fun x => (((ap24).symm) p1 rfl x))
                          have B646 := B638.all k641 (fun x => ((ap50) p39 rfl x))
                          have K647 := K495.trans k641 (Grew.ok (S := fun _ => False) gr20 noB_le)
                          refine wl_v (.int .i64 (0)) rfl rfl (y_asg rfl rfl ⟨rfl, rfl⟩) ?_
                          refine wl_nil fun F648 hF649 => ?_
                          have s650 : F648 10 = .pointer (some ⟨p14, 0, none⟩) := (hF649 10).trans s521
                          have s651 : F648 116 = undef := (hF649 116).trans s524
                          have s652 : F648 11 = .int .i64 (0) := (hF649 11).trans rfl
                          clear hF649
                          refine then_normal ?_
                          refine wq_ret ?_
                          exact end_2 s651 rfl (res_blk blkT_arr rfl s650 B640) (res_tmp (v := .int .i64 (0)) rfl s652) ⟨(by first | rw [(pred_no hno).1, (pred_no hno).2] | rw [(pred_none hpl (by omega)).1, (pred_none hpl (by omega)).2] | rw [(pred_yes hpl (by decide)).1, (pred_yes hpl (by decide)).2]), K647⟩
                      · skip
                        refine wq_region ?_
                        refine wl_v (.int .i64 (0)) rfl rfl (y_asg rfl rfl ⟨rfl, rfl⟩) ?_
                        refine wl_nil fun F653 hF654 => ?_
                        have s655 : F653 1 = .int .i64 (p) := (hF654 1).trans s419
                        have s656 : F653 2 = .int .i64 (x) := (hF654 2).trans s420
                        have s657 : F653 3 = .int .i64 (y) := (hF654 3).trans s421
                        have s658 : F653 4 = .int .i64 (1) := (hF654 4).trans s422
                        have s659 : F653 5 = .pointer (some ⟨p1, 0, none⟩) := (hF654 5).trans s423
                        have s660 : F653 10 = .pointer (some ⟨p14, 0, none⟩) := (hF654 10).trans s424
                        have s661 : F653 12 = .pointer (some ⟨p39, 0, none⟩) := (hF654 12).trans s425
                        have s662 : F653 116 = undef := (hF654 116).trans s426
                        have s663 : F653 13 = .int .i64 (sumTo f p x y 4) := (hF654 13).trans s427
                        have s664 : F653 15 = .int .i64 (0) := (hF654 15).trans rfl
                        clear hF654
                        refine then_normal ?_
                        refine wq_block ?_
                        refine wq_loop (fun nn FF ww => ∃ (n : Nat), (n ≤ 16) ∧ nn = 16 - n ∧ FF 1 = .int .i64 (p) ∧ FF 2 = .int .i64 (x) ∧ FF 3 = .int .i64 (y) ∧ FF 4 = .int .i64 (1) ∧ FF 5 = .pointer (some ⟨p1, 0, none⟩) ∧ FF 10 = .pointer (some ⟨p14, 0, none⟩) ∧ FF 12 = .pointer (some ⟨p39, 0, none⟩) ∧ FF 13 = .int .i64 (sumTo f p x y 4) ∧ FF 116 = undef ∧ FF 15 = .int .i64 (((n : Nat) : Int)) ∧ Kept (fun _ => False) w0 ww ∧ Byt ww (T_f0) f0 ((f).p0) ∧ Byt ww (T_f1) f1 ((f).p1) ∧ Byt ww (T_f2) f2 ((f).p2) ∧ Stc ww p1 25 [.int .i64 ((f).W), .int .i64 ((f).H), f0, f1, f2] ∧ Blk ww p14 26 (fun _ => 0) ∧ Blk ww p39 26 (upto n (fun _ => 0) (predN f p x y 1))) (16 - (0)) ⟨0, by omega, rfl, s655, s656, s657, s658, s659, s660, s661, s663, s662, s664, K398, B411, B412, B413, B414, B415, B416.first⟩ ?_
                        rintro n668 F665 w666 ⟨n, i669, hn668, s670, s671, s672, s673, s674, s675, s676, s677, s678, s679, K667, B680, B681, B682, B683, B684, B685⟩
                        refine wq_seq ?_
                        refine wq_seq ?_
                        refine wq_region ?_
                        refine wl_v (.int .i64 (((n : Nat) : Int))) rfl rfl (y_mov rfl s679 ⟨rfl, rfl⟩) ?_
                        refine wl_v (.bool (decide ((((n : Nat) : Int)) < (16)))) rfl rfl (y_lss rfl rfl rfl rfl ⟨rfl, rfl⟩) ?_
                        refine wl_nil fun F686 hF687 => ?_
                        have s688 : F686 1 = .int .i64 (p) := (hF687 1).trans s670
                        have s689 : F686 2 = .int .i64 (x) := (hF687 2).trans s671
                        have s690 : F686 3 = .int .i64 (y) := (hF687 3).trans s672
                        have s691 : F686 4 = .int .i64 (1) := (hF687 4).trans s673
                        have s692 : F686 5 = .pointer (some ⟨p1, 0, none⟩) := (hF687 5).trans s674
                        have s693 : F686 10 = .pointer (some ⟨p14, 0, none⟩) := (hF687 10).trans s675
                        have s694 : F686 12 = .pointer (some ⟨p39, 0, none⟩) := (hF687 12).trans s676
                        have s695 : F686 13 = .int .i64 (sumTo f p x y 4) := (hF687 13).trans s677
                        have s696 : F686 116 = undef := (hF687 116).trans s678
                        have s697 : F686 15 = .int .i64 (((n : Nat) : Int)) := (hF687 15).trans s679
                        have s698 : F686 74 = .bool (decide ((((n : Nat) : Int)) < (16))) := (hF687 74).trans rfl
                        clear hF687
                        refine then_normal ?_
                        refine wq_cond s698 (fun c699 => ?_) (fun c699 => ?_)
                        · replace c699 := of_decide_eq_true c699
                          refine wq_skip ?_
                          refine then_normal ?_
                          refine wq_seq ?_
                          refine wq_block ?_
                          refine wq_seq ?_
                          have hs := sumTo_le hb p x y 4
                          have ha := above_le hb p x y ((n % 4 : Nat) : Int)
                          have hl := left_le hb p x y ((n / 4 : Nat) : Int)
                          refine wq_region ?_
                          refine wl_v (.agg #[.int .i64 ((f).W), .int .i64 ((f).H), f0, f1, f2]) rfl rfl (y_load_stc stcT_frame rfl s692 B683 ⟨rfl, rfl⟩) ?_
                          refine wl_v (.int .i64 (p)) rfl rfl (y_mov rfl s688 ⟨rfl, rfl⟩) ?_
                          refine wl_v (.int .i64 (x)) rfl rfl (y_mov rfl s689 ⟨rfl, rfl⟩) ?_
                          refine wl_v (.int .i64 (y)) rfl rfl (y_mov rfl s690 ⟨rfl, rfl⟩) ?_
                          refine wl_v (.int .i64 (((n : Nat) : Int))) rfl rfl (y_mov rfl s697 ⟨rfl, rfl⟩) ?_
                          refine wl_v (.int .i64 ((((n % 4) : Nat) : Int))) rfl rfl (y_rem rfl rfl rfl (by first | decide | omega) (rem_nat n 4) ⟨rfl, rfl⟩) ?_
                          refine wl_call (R := fun v_ w_ => v_ = .int .i64 (aboveF (f) (p) (x) (y) ((((n % 4) : Nat) : Int))) ∧ Kept (fun _ => False) w666 w_) rfl rfl (y_cs rfl rfl rfl (fun _ _ => by kernel_rfl) (ev_func _) (vsC rfl (vsC rfl (vsC rfl (vsC rfl (vsC rfl vsN))))) (iref_above (p) (x) (y) ((((n % 4) : Nat) : Int)) (f) (f0) (f1) (f2) (T_f0) (T_f1) (T_f2) _ (by omega) (by omega) (by omega) B680 B681 B682 ) (fun e_ w_ h_ => ⟨_, h_.1, rfl, h_.2⟩)) ?_
                          rintro _ w700 ⟨rfl, k701⟩
                          have B702 := B680.all k701 Apart.none
                          have B703 := B681.all k701 Apart.none
                          have B704 := B682.all k701 Apart.none
                          have B705 := B683.all k701 id
                          have B706 := B684.all k701 id
                          have B707 := B685.all k701 id
                          have K708 := K667.trans k701 (fun _ _ x => x.elim)
                          refine wl_v (.int .i64 (aboveF (f) (p) (x) (y) ((((n % 4) : Nat) : Int)))) rfl rfl (y_asg rfl rfl ⟨rfl, rfl⟩) ?_
                          refine wl_nil fun F709 hF710 => ?_
                          have s711 : F709 1 = .int .i64 (p) := (hF710 1).trans s688
                          have s712 : F709 2 = .int .i64 (x) := (hF710 2).trans s689
                          have s713 : F709 3 = .int .i64 (y) := (hF710 3).trans s690
                          have s714 : F709 4 = .int .i64 (1) := (hF710 4).trans s691
                          have s715 : F709 5 = .pointer (some ⟨p1, 0, none⟩) := (hF710 5).trans s692
                          have s716 : F709 10 = .pointer (some ⟨p14, 0, none⟩) := (hF710 10).trans s693
                          have s717 : F709 12 = .pointer (some ⟨p39, 0, none⟩) := (hF710 12).trans s694
                          have s718 : F709 13 = .int .i64 (sumTo f p x y 4) := (hF710 13).trans s695
                          have s719 : F709 116 = undef := (hF710 116).trans s696
                          have s720 : F709 15 = .int .i64 (((n : Nat) : Int)) := (hF710 15).trans s697
                          have s721 : F709 16 = .int .i64 (aboveF (f) (p) (x) (y) ((((n % 4) : Nat) : Int))) := (hF710 16).trans rfl
                          clear hF710
                          refine then_normal ?_
                          refine wq_seq ?_
                          refine wq_region ?_
                          refine wl_v (.agg #[.int .i64 ((f).W), .int .i64 ((f).H), f0, f1, f2]) rfl rfl (y_load_stc stcT_frame rfl s715 B705 ⟨rfl, rfl⟩) ?_
                          refine wl_v (.int .i64 (p)) rfl rfl (y_mov rfl s711 ⟨rfl, rfl⟩) ?_
                          refine wl_v (.int .i64 (x)) rfl rfl (y_mov rfl s712 ⟨rfl, rfl⟩) ?_
                          refine wl_v (.int .i64 (y)) rfl rfl (y_mov rfl s713 ⟨rfl, rfl⟩) ?_
                          refine wl_v (.int .i64 (((n : Nat) : Int))) rfl rfl (y_mov rfl s720 ⟨rfl, rfl⟩) ?_
                          refine wl_v (.int .i64 ((((n / 4) : Nat) : Int))) rfl rfl (y_quo rfl rfl rfl (by first | decide | omega) (i64_n (quo_nat n 4) (by omega)) ⟨rfl, rfl⟩) ?_
                          refine wl_call (R := fun v_ w_ => v_ = .int .i64 (leftF (f) (p) (x) (y) ((((n / 4) : Nat) : Int))) ∧ Kept (fun _ => False) w700 w_) rfl rfl (y_cs rfl rfl rfl (fun _ _ => by kernel_rfl) (ev_func _) (vsC rfl (vsC rfl (vsC rfl (vsC rfl (vsC rfl vsN))))) (iref_left (p) (x) (y) ((((n / 4) : Nat) : Int)) (f) (f0) (f1) (f2) (T_f0) (T_f1) (T_f2) _ (by omega) (by omega) (by omega) B702 B703 B704 ) (fun e_ w_ h_ => ⟨_, h_.1, rfl, h_.2⟩)) ?_
                          rintro _ w722 ⟨rfl, k723⟩
                          have B724 := B702.all k723 Apart.none
                          have B725 := B703.all k723 Apart.none
                          have B726 := B704.all k723 Apart.none
                          have B727 := B705.all k723 id
                          have B728 := B706.all k723 id
                          have B729 := B707.all k723 id
                          have K730 := K708.trans k723 (fun _ _ x => x.elim)
                          refine wl_v (.int .i64 (leftF (f) (p) (x) (y) ((((n / 4) : Nat) : Int)))) rfl rfl (y_asg rfl rfl ⟨rfl, rfl⟩) ?_
                          refine wl_nil fun F731 hF732 => ?_
                          have s733 : F731 1 = .int .i64 (p) := (hF732 1).trans s711
                          have s734 : F731 2 = .int .i64 (x) := (hF732 2).trans s712
                          have s735 : F731 3 = .int .i64 (y) := (hF732 3).trans s713
                          have s736 : F731 4 = .int .i64 (1) := (hF732 4).trans s714
                          have s737 : F731 5 = .pointer (some ⟨p1, 0, none⟩) := (hF732 5).trans s715
                          have s738 : F731 10 = .pointer (some ⟨p14, 0, none⟩) := (hF732 10).trans s716
                          have s739 : F731 12 = .pointer (some ⟨p39, 0, none⟩) := (hF732 12).trans s717
                          have s740 : F731 13 = .int .i64 (sumTo f p x y 4) := (hF732 13).trans s718
                          have s741 : F731 116 = undef := (hF732 116).trans s719
                          have s742 : F731 15 = .int .i64 (((n : Nat) : Int)) := (hF732 15).trans s720
                          have s743 : F731 16 = .int .i64 (aboveF (f) (p) (x) (y) ((((n % 4) : Nat) : Int))) := (hF732 16).trans s721
                          have s744 : F731 17 = .int .i64 (leftF (f) (p) (x) (y) ((((n / 4) : Nat) : Int))) := (hF732 17).trans rfl
                          clear hF732
                          refine then_normal ?_
                          refine wq_seq ?_
                          refine wq_region ?_
                          refine wl_v (.int .i64 (1)) rfl rfl (y_mov rfl s736 ⟨rfl, rfl⟩) ?_
                          refine wl_nil fun F745 hF746 => ?_
                          have s747 : F745 1 = .int .i64 (p) := (hF746 1).trans s733
                          have s748 : F745 2 = .int .i64 (x) := (hF746 2).trans s734
                          have s749 : F745 3 = .int .i64 (y) := (hF746 3).trans s735
                          have s750 : F745 4 = .int .i64 (1) := (hF746 4).trans s736
                          have s751 : F745 5 = .pointer (some ⟨p1, 0, none⟩) := (hF746 5).trans s737
                          have s752 : F745 10 = .pointer (some ⟨p14, 0, none⟩) := (hF746 10).trans s738
                          have s753 : F745 12 = .pointer (some ⟨p39, 0, none⟩) := (hF746 12).trans s739
                          have s754 : F745 13 = .int .i64 (sumTo f p x y 4) := (hF746 13).trans s740
                          have s755 : F745 116 = undef := (hF746 116).trans s741
                          have s756 : F745 15 = .int .i64 (((n : Nat) : Int)) := (hF746 15).trans s742
                          have s757 : F745 16 = .int .i64 (aboveF (f) (p) (x) (y) ((((n % 4) : Nat) : Int))) := (hF746 16).trans s743
                          have s758 : F745 17 = .int .i64 (leftF (f) (p) (x) (y) ((((n / 4) : Nat) : Int))) := (hF746 17).trans s744
                          have s759 : F745 91 = .int .i64 (1) := (hF746 91).trans rfl
                          clear hF746
                          refine then_normal ?_
                          refine wq_block ?_
                          refine wq_seq ?_
                          refine wq_region ?_
                          refine wl_v (.bool false) rfl rfl (y_eqlI rfl s759 rfl rfl ⟨rfl, rfl⟩) ?_
                          refine wl_v (.bool false) rfl rfl (y_asg rfl rfl ⟨rfl, rfl⟩) ?_
                          refine wl_nil fun F760 hF761 => ?_
                          have s762 : F760 1 = .int .i64 (p) := (hF761 1).trans s747
                          have s763 : F760 2 = .int .i64 (x) := (hF761 2).trans s748
                          have s764 : F760 3 = .int .i64 (y) := (hF761 3).trans s749
                          have s765 : F760 4 = .int .i64 (1) := (hF761 4).trans s750
                          have s766 : F760 5 = .pointer (some ⟨p1, 0, none⟩) := (hF761 5).trans s751
                          have s767 : F760 10 = .pointer (some ⟨p14, 0, none⟩) := (hF761 10).trans s752
                          have s768 : F760 12 = .pointer (some ⟨p39, 0, none⟩) := (hF761 12).trans s753
                          have s769 : F760 13 = .int .i64 (sumTo f p x y 4) := (hF761 13).trans s754
                          have s770 : F760 116 = undef := (hF761 116).trans s755
                          have s771 : F760 15 = .int .i64 (((n : Nat) : Int)) := (hF761 15).trans s756
                          have s772 : F760 16 = .int .i64 (aboveF (f) (p) (x) (y) ((((n % 4) : Nat) : Int))) := (hF761 16).trans s757
                          have s773 : F760 17 = .int .i64 (leftF (f) (p) (x) (y) ((((n / 4) : Nat) : Int))) := (hF761 17).trans s758
                          have s774 : F760 91 = .int .i64 (1) := (hF761 91).trans s759
                          have s775 : F760 99 = .bool false := (hF761 99).trans rfl
                          clear hF761
                          refine then_normal ?_
                          refine wq_cond (t := false) s775 (fun e => by cases e) (fun _ => ?_)
                          refine wq_seq ?_
                          refine wq_region ?_
                          refine wl_v (.bool true) rfl rfl (y_eqlI rfl s774 rfl rfl ⟨rfl, rfl⟩) ?_
                          refine wl_v (.bool true) rfl rfl (y_asg rfl rfl ⟨rfl, rfl⟩) ?_
                          refine wl_nil fun F776 hF777 => ?_
                          have s778 : F776 1 = .int .i64 (p) := (hF777 1).trans s762
                          have s779 : F776 2 = .int .i64 (x) := (hF777 2).trans s763
                          have s780 : F776 3 = .int .i64 (y) := (hF777 3).trans s764
                          have s781 : F776 4 = .int .i64 (1) := (hF777 4).trans s765
                          have s782 : F776 5 = .pointer (some ⟨p1, 0, none⟩) := (hF777 5).trans s766
                          have s783 : F776 10 = .pointer (some ⟨p14, 0, none⟩) := (hF777 10).trans s767
                          have s784 : F776 12 = .pointer (some ⟨p39, 0, none⟩) := (hF777 12).trans s768
                          have s785 : F776 13 = .int .i64 (sumTo f p x y 4) := (hF777 13).trans s769
                          have s786 : F776 116 = undef := (hF777 116).trans s770
                          have s787 : F776 15 = .int .i64 (((n : Nat) : Int)) := (hF777 15).trans s771
                          have s788 : F776 16 = .int .i64 (aboveF (f) (p) (x) (y) ((((n % 4) : Nat) : Int))) := (hF777 16).trans s772
                          have s789 : F776 17 = .int .i64 (leftF (f) (p) (x) (y) ((((n / 4) : Nat) : Int))) := (hF777 17).trans s773
                          have s790 : F776 91 = .int .i64 (1) := (hF777 91).trans s774
                          have s791 : F776 105 = .bool true := (hF777 105).trans rfl
                          clear hF777
                          refine then_normal ?_
                          refine wq_cond (t := true) s791 (fun _ => ?_) (fun e => by cases e)
                          refine wq_region ?_
                          refine wl_v (.int .i64 (((n : Nat) : Int))) rfl rfl (y_mov rfl s787 ⟨rfl, rfl⟩) ?_
                          refine wl_v (.int .i64 (aboveF (f) (p) (x) (y) ((((n % 4) : Nat) : Int)))) rfl rfl (y_mov rfl s788 ⟨rfl, rfl⟩) ?_
                          refine wl_v (.pointer (some ⟨p39, n, none⟩)) rfl rfl (y_atR (n) (s := 1) rfl s784 rfl (by omega) Try.underlying26 (by omega) (by kernel_rfl) (by omega) ⟨rfl, rfl⟩) ?_
                          refine wl_set_blk rfl rfl rfl rfl rfl B729 (by omega) (by kernel_rfl) fun w792 B793 k794 => ?_
                          have B795 := B724.all k794 (fun i h x => (((ap46).symm) i h x))
                          have B796 := B725.all k794 (fun i h x => (((ap47).symm) i h x))
                          have B797 := B726.all k794 (fun i h x => (((ap48).symm) i h x))
                          have B798 := B727.all k794 (fun x => (((ap49).symm) p1 rfl x))
                          have B799 := B728.all k794 (fun x => (((ap50).symm) p14 rfl x))
                          have K800 := K730.trans k794 (Grew.ok (S := fun _ => False) gr45 noB_le)
                          refine wl_nil fun F801 hF802 => ?_
                          have s803 : F801 1 = .int .i64 (p) := (hF802 1).trans s778
                          have s804 : F801 2 = .int .i64 (x) := (hF802 2).trans s779
                          have s805 : F801 3 = .int .i64 (y) := (hF802 3).trans s780
                          have s806 : F801 4 = .int .i64 (1) := (hF802 4).trans s781
                          have s807 : F801 5 = .pointer (some ⟨p1, 0, none⟩) := (hF802 5).trans s782
                          have s808 : F801 10 = .pointer (some ⟨p14, 0, none⟩) := (hF802 10).trans s783
                          have s809 : F801 12 = .pointer (some ⟨p39, 0, none⟩) := (hF802 12).trans s784
                          have s810 : F801 13 = .int .i64 (sumTo f p x y 4) := (hF802 13).trans s785
                          have s811 : F801 116 = undef := (hF802 116).trans s786
                          have s812 : F801 15 = .int .i64 (((n : Nat) : Int)) := (hF802 15).trans s787
                          clear hF802
                          refine in_normal ?_
                          refine in_normal ?_
                          refine then_normal ?_
                          refine wq_region ?_
                          refine wl_v (.int .i64 (((n : Nat) : Int))) rfl rfl (y_mov rfl s812 ⟨rfl, rfl⟩) ?_
                          refine wl_v (.int .i64 (((n + 1 : Nat) : Int))) rfl rfl (y_add rfl rfl rfl (i64_n (by omega) (by omega)) ⟨rfl, rfl⟩) ?_
                          refine wl_v (.int .i64 (((n + 1 : Nat) : Int))) rfl rfl (y_asg rfl rfl ⟨rfl, rfl⟩) ?_
                          refine wl_nil fun F813 hF814 => ?_
                          have s815 : F813 1 = .int .i64 (p) := (hF814 1).trans s803
                          have s816 : F813 2 = .int .i64 (x) := (hF814 2).trans s804
                          have s817 : F813 3 = .int .i64 (y) := (hF814 3).trans s805
                          have s818 : F813 4 = .int .i64 (1) := (hF814 4).trans s806
                          have s819 : F813 5 = .pointer (some ⟨p1, 0, none⟩) := (hF814 5).trans s807
                          have s820 : F813 10 = .pointer (some ⟨p14, 0, none⟩) := (hF814 10).trans s808
                          have s821 : F813 12 = .pointer (some ⟨p39, 0, none⟩) := (hF814 12).trans s809
                          have s822 : F813 13 = .int .i64 (sumTo f p x y 4) := (hF814 13).trans s810
                          have s823 : F813 116 = undef := (hF814 116).trans s811
                          have s824 : F813 15 = .int .i64 (((n + 1 : Nat) : Int)) := (hF814 15).trans rfl
                          clear hF814
                          exact then_normal ⟨(16 - (n + 1)), by omega, n + 1, by omega, rfl, s815, s816, s817, s818, s819, s820, s821, s822, s823, s824, K800, B795, B796, B797, B798, B799, (B793.next rfl)⟩
                        · replace c699 := of_decide_eq_false c699
                          refine wq_exit ?_
                          refine then_exit ?_
                          refine then_exit ?_
                          have l825 : 16 = n := by omega
                          subst l825
                          have B826 : Blk w666 p39 26 (predN f p x y 1) := (B685.last)
                          refine in_here ?_
                          refine then_normal ?_
                          refine wq_seq ?_
                          refine wq_region ?_
                          refine wl_v (blkV (predN f p x y 1)) rfl rfl (y_load_blk blkT_arr rfl s694 B826 ⟨rfl, rfl⟩) ?_
                          refine wl_store_blk blkT_arr rfl rfl rfl s693 rfl B684 fun w827 B828 k829 => ?_
                          have B830 := B680.all k829 (fun i h x => (((ap21).symm) i h x))
                          have B831 := B681.all k829 (fun i h x => (((ap22).symm) i h x))
                          have B832 := B682.all k829 (fun i h x => (((ap23).symm) i h x))
                          have B833 := B683.all k829 (fun x => (((ap24).symm) p1 rfl x))
                          have B834 := B826.all k829 (fun x => ((ap50) p39 rfl x))
                          have K835 := K667.trans k829 (Grew.ok (S := fun _ => False) gr20 noB_le)
                          refine wl_v (.int .i64 (0)) rfl rfl (y_asg rfl rfl ⟨rfl, rfl⟩) ?_
                          refine wl_nil fun F836 hF837 => ?_
                          have s838 : F836 10 = .pointer (some ⟨p14, 0, none⟩) := (hF837 10).trans s693
                          have s839 : F836 116 = undef := (hF837 116).trans s696
                          have s840 : F836 11 = .int .i64 (0) := (hF837 11).trans rfl
                          clear hF837
                          refine then_normal ?_
                          refine wq_ret ?_
                          exact end_2 s839 rfl (res_blk blkT_arr rfl s838 B828) (res_tmp (v := .int .i64 (0)) rfl s840) ⟨(by first | rw [(pred_no hno).1, (pred_no hno).2] | rw [(pred_none hpl (by omega)).1, (pred_none hpl (by omega)).2] | rw [(pred_yes hpl (by decide)).1, (pred_yes hpl (by decide)).2]), K835⟩
                      · skip
                        refine wq_region ?_
                        refine wl_v (.int .i64 (0)) rfl rfl (y_asg rfl rfl ⟨rfl, rfl⟩) ?_
                        refine wl_nil fun F841 hF842 => ?_
                        have s843 : F841 1 = .int .i64 (p) := (hF842 1).trans s419
                        have s844 : F841 2 = .int .i64 (x) := (hF842 2).trans s420
                        have s845 : F841 3 = .int .i64 (y) := (hF842 3).trans s421
                        have s846 : F841 4 = .int .i64 (2) := (hF842 4).trans s422
                        have s847 : F841 5 = .pointer (some ⟨p1, 0, none⟩) := (hF842 5).trans s423
                        have s848 : F841 10 = .pointer (some ⟨p14, 0, none⟩) := (hF842 10).trans s424
                        have s849 : F841 12 = .pointer (some ⟨p39, 0, none⟩) := (hF842 12).trans s425
                        have s850 : F841 116 = undef := (hF842 116).trans s426
                        have s851 : F841 13 = .int .i64 (sumTo f p x y 4) := (hF842 13).trans s427
                        have s852 : F841 15 = .int .i64 (0) := (hF842 15).trans rfl
                        clear hF842
                        refine then_normal ?_
                        refine wq_block ?_
                        refine wq_loop (fun nn FF ww => ∃ (n : Nat), (n ≤ 16) ∧ nn = 16 - n ∧ FF 1 = .int .i64 (p) ∧ FF 2 = .int .i64 (x) ∧ FF 3 = .int .i64 (y) ∧ FF 4 = .int .i64 (2) ∧ FF 5 = .pointer (some ⟨p1, 0, none⟩) ∧ FF 10 = .pointer (some ⟨p14, 0, none⟩) ∧ FF 12 = .pointer (some ⟨p39, 0, none⟩) ∧ FF 13 = .int .i64 (sumTo f p x y 4) ∧ FF 116 = undef ∧ FF 15 = .int .i64 (((n : Nat) : Int)) ∧ Kept (fun _ => False) w0 ww ∧ Byt ww (T_f0) f0 ((f).p0) ∧ Byt ww (T_f1) f1 ((f).p1) ∧ Byt ww (T_f2) f2 ((f).p2) ∧ Stc ww p1 25 [.int .i64 ((f).W), .int .i64 ((f).H), f0, f1, f2] ∧ Blk ww p14 26 (fun _ => 0) ∧ Blk ww p39 26 (upto n (fun _ => 0) (predN f p x y 2))) (16 - (0)) ⟨0, by omega, rfl, s843, s844, s845, s846, s847, s848, s849, s851, s850, s852, K398, B411, B412, B413, B414, B415, B416.first⟩ ?_
                        rintro n856 F853 w854 ⟨n, i857, hn856, s858, s859, s860, s861, s862, s863, s864, s865, s866, s867, K855, B868, B869, B870, B871, B872, B873⟩
                        refine wq_seq ?_
                        refine wq_seq ?_
                        refine wq_region ?_
                        refine wl_v (.int .i64 (((n : Nat) : Int))) rfl rfl (y_mov rfl s867 ⟨rfl, rfl⟩) ?_
                        refine wl_v (.bool (decide ((((n : Nat) : Int)) < (16)))) rfl rfl (y_lss rfl rfl rfl rfl ⟨rfl, rfl⟩) ?_
                        refine wl_nil fun F874 hF875 => ?_
                        have s876 : F874 1 = .int .i64 (p) := (hF875 1).trans s858
                        have s877 : F874 2 = .int .i64 (x) := (hF875 2).trans s859
                        have s878 : F874 3 = .int .i64 (y) := (hF875 3).trans s860
                        have s879 : F874 4 = .int .i64 (2) := (hF875 4).trans s861
                        have s880 : F874 5 = .pointer (some ⟨p1, 0, none⟩) := (hF875 5).trans s862
                        have s881 : F874 10 = .pointer (some ⟨p14, 0, none⟩) := (hF875 10).trans s863
                        have s882 : F874 12 = .pointer (some ⟨p39, 0, none⟩) := (hF875 12).trans s864
                        have s883 : F874 13 = .int .i64 (sumTo f p x y 4) := (hF875 13).trans s865
                        have s884 : F874 116 = undef := (hF875 116).trans s866
                        have s885 : F874 15 = .int .i64 (((n : Nat) : Int)) := (hF875 15).trans s867
                        have s886 : F874 74 = .bool (decide ((((n : Nat) : Int)) < (16))) := (hF875 74).trans rfl
                        clear hF875
                        refine then_normal ?_
                        refine wq_cond s886 (fun c887 => ?_) (fun c887 => ?_)
                        · replace c887 := of_decide_eq_true c887
                          refine wq_skip ?_
                          refine then_normal ?_
                          refine wq_seq ?_
                          refine wq_block ?_
                          refine wq_seq ?_
                          have hs := sumTo_le hb p x y 4
                          have ha := above_le hb p x y ((n % 4 : Nat) : Int)
                          have hl := left_le hb p x y ((n / 4 : Nat) : Int)
                          refine wq_region ?_
                          refine wl_v (.agg #[.int .i64 ((f).W), .int .i64 ((f).H), f0, f1, f2]) rfl rfl (y_load_stc stcT_frame rfl s880 B871 ⟨rfl, rfl⟩) ?_
                          refine wl_v (.int .i64 (p)) rfl rfl (y_mov rfl s876 ⟨rfl, rfl⟩) ?_
                          refine wl_v (.int .i64 (x)) rfl rfl (y_mov rfl s877 ⟨rfl, rfl⟩) ?_
                          refine wl_v (.int .i64 (y)) rfl rfl (y_mov rfl s878 ⟨rfl, rfl⟩) ?_
                          refine wl_v (.int .i64 (((n : Nat) : Int))) rfl rfl (y_mov rfl s885 ⟨rfl, rfl⟩) ?_
                          refine wl_v (.int .i64 ((((n % 4) : Nat) : Int))) rfl rfl (y_rem rfl rfl rfl (by first | decide | omega) (rem_nat n 4) ⟨rfl, rfl⟩) ?_
                          refine wl_call (R := fun v_ w_ => v_ = .int .i64 (aboveF (f) (p) (x) (y) ((((n % 4) : Nat) : Int))) ∧ Kept (fun _ => False) w854 w_) rfl rfl (y_cs rfl rfl rfl (fun _ _ => by kernel_rfl) (ev_func _) (vsC rfl (vsC rfl (vsC rfl (vsC rfl (vsC rfl vsN))))) (iref_above (p) (x) (y) ((((n % 4) : Nat) : Int)) (f) (f0) (f1) (f2) (T_f0) (T_f1) (T_f2) _ (by omega) (by omega) (by omega) B868 B869 B870 ) (fun e_ w_ h_ => ⟨_, h_.1, rfl, h_.2⟩)) ?_
                          rintro _ w888 ⟨rfl, k889⟩
                          have B890 := B868.all k889 Apart.none
                          have B891 := B869.all k889 Apart.none
                          have B892 := B870.all k889 Apart.none
                          have B893 := B871.all k889 id
                          have B894 := B872.all k889 id
                          have B895 := B873.all k889 id
                          have K896 := K855.trans k889 (fun _ _ x => x.elim)
                          refine wl_v (.int .i64 (aboveF (f) (p) (x) (y) ((((n % 4) : Nat) : Int)))) rfl rfl (y_asg rfl rfl ⟨rfl, rfl⟩) ?_
                          refine wl_nil fun F897 hF898 => ?_
                          have s899 : F897 1 = .int .i64 (p) := (hF898 1).trans s876
                          have s900 : F897 2 = .int .i64 (x) := (hF898 2).trans s877
                          have s901 : F897 3 = .int .i64 (y) := (hF898 3).trans s878
                          have s902 : F897 4 = .int .i64 (2) := (hF898 4).trans s879
                          have s903 : F897 5 = .pointer (some ⟨p1, 0, none⟩) := (hF898 5).trans s880
                          have s904 : F897 10 = .pointer (some ⟨p14, 0, none⟩) := (hF898 10).trans s881
                          have s905 : F897 12 = .pointer (some ⟨p39, 0, none⟩) := (hF898 12).trans s882
                          have s906 : F897 13 = .int .i64 (sumTo f p x y 4) := (hF898 13).trans s883
                          have s907 : F897 116 = undef := (hF898 116).trans s884
                          have s908 : F897 15 = .int .i64 (((n : Nat) : Int)) := (hF898 15).trans s885
                          have s909 : F897 16 = .int .i64 (aboveF (f) (p) (x) (y) ((((n % 4) : Nat) : Int))) := (hF898 16).trans rfl
                          clear hF898
                          refine then_normal ?_
                          refine wq_seq ?_
                          refine wq_region ?_
                          refine wl_v (.agg #[.int .i64 ((f).W), .int .i64 ((f).H), f0, f1, f2]) rfl rfl (y_load_stc stcT_frame rfl s903 B893 ⟨rfl, rfl⟩) ?_
                          refine wl_v (.int .i64 (p)) rfl rfl (y_mov rfl s899 ⟨rfl, rfl⟩) ?_
                          refine wl_v (.int .i64 (x)) rfl rfl (y_mov rfl s900 ⟨rfl, rfl⟩) ?_
                          refine wl_v (.int .i64 (y)) rfl rfl (y_mov rfl s901 ⟨rfl, rfl⟩) ?_
                          refine wl_v (.int .i64 (((n : Nat) : Int))) rfl rfl (y_mov rfl s908 ⟨rfl, rfl⟩) ?_
                          refine wl_v (.int .i64 ((((n / 4) : Nat) : Int))) rfl rfl (y_quo rfl rfl rfl (by first | decide | omega) (i64_n (quo_nat n 4) (by omega)) ⟨rfl, rfl⟩) ?_
                          refine wl_call (R := fun v_ w_ => v_ = .int .i64 (leftF (f) (p) (x) (y) ((((n / 4) : Nat) : Int))) ∧ Kept (fun _ => False) w888 w_) rfl rfl (y_cs rfl rfl rfl (fun _ _ => by kernel_rfl) (ev_func _) (vsC rfl (vsC rfl (vsC rfl (vsC rfl (vsC rfl vsN))))) (iref_left (p) (x) (y) ((((n / 4) : Nat) : Int)) (f) (f0) (f1) (f2) (T_f0) (T_f1) (T_f2) _ (by omega) (by omega) (by omega) B890 B891 B892 ) (fun e_ w_ h_ => ⟨_, h_.1, rfl, h_.2⟩)) ?_
                          rintro _ w910 ⟨rfl, k911⟩
                          have B912 := B890.all k911 Apart.none
                          have B913 := B891.all k911 Apart.none
                          have B914 := B892.all k911 Apart.none
                          have B915 := B893.all k911 id
                          have B916 := B894.all k911 id
                          have B917 := B895.all k911 id
                          have K918 := K896.trans k911 (fun _ _ x => x.elim)
                          refine wl_v (.int .i64 (leftF (f) (p) (x) (y) ((((n / 4) : Nat) : Int)))) rfl rfl (y_asg rfl rfl ⟨rfl, rfl⟩) ?_
                          refine wl_nil fun F919 hF920 => ?_
                          have s921 : F919 1 = .int .i64 (p) := (hF920 1).trans s899
                          have s922 : F919 2 = .int .i64 (x) := (hF920 2).trans s900
                          have s923 : F919 3 = .int .i64 (y) := (hF920 3).trans s901
                          have s924 : F919 4 = .int .i64 (2) := (hF920 4).trans s902
                          have s925 : F919 5 = .pointer (some ⟨p1, 0, none⟩) := (hF920 5).trans s903
                          have s926 : F919 10 = .pointer (some ⟨p14, 0, none⟩) := (hF920 10).trans s904
                          have s927 : F919 12 = .pointer (some ⟨p39, 0, none⟩) := (hF920 12).trans s905
                          have s928 : F919 13 = .int .i64 (sumTo f p x y 4) := (hF920 13).trans s906
                          have s929 : F919 116 = undef := (hF920 116).trans s907
                          have s930 : F919 15 = .int .i64 (((n : Nat) : Int)) := (hF920 15).trans s908
                          have s931 : F919 16 = .int .i64 (aboveF (f) (p) (x) (y) ((((n % 4) : Nat) : Int))) := (hF920 16).trans s909
                          have s932 : F919 17 = .int .i64 (leftF (f) (p) (x) (y) ((((n / 4) : Nat) : Int))) := (hF920 17).trans rfl
                          clear hF920
                          refine then_normal ?_
                          refine wq_seq ?_
                          refine wq_region ?_
                          refine wl_v (.int .i64 (2)) rfl rfl (y_mov rfl s924 ⟨rfl, rfl⟩) ?_
                          refine wl_nil fun F933 hF934 => ?_
                          have s935 : F933 1 = .int .i64 (p) := (hF934 1).trans s921
                          have s936 : F933 2 = .int .i64 (x) := (hF934 2).trans s922
                          have s937 : F933 3 = .int .i64 (y) := (hF934 3).trans s923
                          have s938 : F933 4 = .int .i64 (2) := (hF934 4).trans s924
                          have s939 : F933 5 = .pointer (some ⟨p1, 0, none⟩) := (hF934 5).trans s925
                          have s940 : F933 10 = .pointer (some ⟨p14, 0, none⟩) := (hF934 10).trans s926
                          have s941 : F933 12 = .pointer (some ⟨p39, 0, none⟩) := (hF934 12).trans s927
                          have s942 : F933 13 = .int .i64 (sumTo f p x y 4) := (hF934 13).trans s928
                          have s943 : F933 116 = undef := (hF934 116).trans s929
                          have s944 : F933 15 = .int .i64 (((n : Nat) : Int)) := (hF934 15).trans s930
                          have s945 : F933 16 = .int .i64 (aboveF (f) (p) (x) (y) ((((n % 4) : Nat) : Int))) := (hF934 16).trans s931
                          have s946 : F933 17 = .int .i64 (leftF (f) (p) (x) (y) ((((n / 4) : Nat) : Int))) := (hF934 17).trans s932
                          have s947 : F933 91 = .int .i64 (2) := (hF934 91).trans rfl
                          clear hF934
                          refine then_normal ?_
                          refine wq_block ?_
                          refine wq_seq ?_
                          refine wq_region ?_
                          refine wl_v (.bool false) rfl rfl (y_eqlI rfl s947 rfl rfl ⟨rfl, rfl⟩) ?_
                          refine wl_v (.bool false) rfl rfl (y_asg rfl rfl ⟨rfl, rfl⟩) ?_
                          refine wl_nil fun F948 hF949 => ?_
                          have s950 : F948 1 = .int .i64 (p) := (hF949 1).trans s935
                          have s951 : F948 2 = .int .i64 (x) := (hF949 2).trans s936
                          have s952 : F948 3 = .int .i64 (y) := (hF949 3).trans s937
                          have s953 : F948 4 = .int .i64 (2) := (hF949 4).trans s938
                          have s954 : F948 5 = .pointer (some ⟨p1, 0, none⟩) := (hF949 5).trans s939
                          have s955 : F948 10 = .pointer (some ⟨p14, 0, none⟩) := (hF949 10).trans s940
                          have s956 : F948 12 = .pointer (some ⟨p39, 0, none⟩) := (hF949 12).trans s941
                          have s957 : F948 13 = .int .i64 (sumTo f p x y 4) := (hF949 13).trans s942
                          have s958 : F948 116 = undef := (hF949 116).trans s943
                          have s959 : F948 15 = .int .i64 (((n : Nat) : Int)) := (hF949 15).trans s944
                          have s960 : F948 16 = .int .i64 (aboveF (f) (p) (x) (y) ((((n % 4) : Nat) : Int))) := (hF949 16).trans s945
                          have s961 : F948 17 = .int .i64 (leftF (f) (p) (x) (y) ((((n / 4) : Nat) : Int))) := (hF949 17).trans s946
                          have s962 : F948 91 = .int .i64 (2) := (hF949 91).trans s947
                          have s963 : F948 99 = .bool false := (hF949 99).trans rfl
                          clear hF949
                          refine then_normal ?_
                          refine wq_cond (t := false) s963 (fun e => by cases e) (fun _ => ?_)
                          refine wq_seq ?_
                          refine wq_region ?_
                          refine wl_v (.bool false) rfl rfl (y_eqlI rfl s962 rfl rfl ⟨rfl, rfl⟩) ?_
                          refine wl_v (.bool false) rfl rfl (y_asg rfl rfl ⟨rfl, rfl⟩) ?_
                          refine wl_nil fun F964 hF965 => ?_
                          have s966 : F964 1 = .int .i64 (p) := (hF965 1).trans s950
                          have s967 : F964 2 = .int .i64 (x) := (hF965 2).trans s951
                          have s968 : F964 3 = .int .i64 (y) := (hF965 3).trans s952
                          have s969 : F964 4 = .int .i64 (2) := (hF965 4).trans s953
                          have s970 : F964 5 = .pointer (some ⟨p1, 0, none⟩) := (hF965 5).trans s954
                          have s971 : F964 10 = .pointer (some ⟨p14, 0, none⟩) := (hF965 10).trans s955
                          have s972 : F964 12 = .pointer (some ⟨p39, 0, none⟩) := (hF965 12).trans s956
                          have s973 : F964 13 = .int .i64 (sumTo f p x y 4) := (hF965 13).trans s957
                          have s974 : F964 116 = undef := (hF965 116).trans s958
                          have s975 : F964 15 = .int .i64 (((n : Nat) : Int)) := (hF965 15).trans s959
                          have s976 : F964 16 = .int .i64 (aboveF (f) (p) (x) (y) ((((n % 4) : Nat) : Int))) := (hF965 16).trans s960
                          have s977 : F964 17 = .int .i64 (leftF (f) (p) (x) (y) ((((n / 4) : Nat) : Int))) := (hF965 17).trans s961
                          have s978 : F964 91 = .int .i64 (2) := (hF965 91).trans s962
                          have s979 : F964 105 = .bool false := (hF965 105).trans rfl
                          clear hF965
                          refine then_normal ?_
                          refine wq_cond (t := false) s979 (fun e => by cases e) (fun _ => ?_)
                          refine wq_seq ?_
                          refine wq_region ?_
                          refine wl_v (.bool true) rfl rfl (y_eqlI rfl s978 rfl rfl ⟨rfl, rfl⟩) ?_
                          refine wl_v (.bool true) rfl rfl (y_asg rfl rfl ⟨rfl, rfl⟩) ?_
                          refine wl_nil fun F980 hF981 => ?_
                          have s982 : F980 1 = .int .i64 (p) := (hF981 1).trans s966
                          have s983 : F980 2 = .int .i64 (x) := (hF981 2).trans s967
                          have s984 : F980 3 = .int .i64 (y) := (hF981 3).trans s968
                          have s985 : F980 4 = .int .i64 (2) := (hF981 4).trans s969
                          have s986 : F980 5 = .pointer (some ⟨p1, 0, none⟩) := (hF981 5).trans s970
                          have s987 : F980 10 = .pointer (some ⟨p14, 0, none⟩) := (hF981 10).trans s971
                          have s988 : F980 12 = .pointer (some ⟨p39, 0, none⟩) := (hF981 12).trans s972
                          have s989 : F980 13 = .int .i64 (sumTo f p x y 4) := (hF981 13).trans s973
                          have s990 : F980 116 = undef := (hF981 116).trans s974
                          have s991 : F980 15 = .int .i64 (((n : Nat) : Int)) := (hF981 15).trans s975
                          have s992 : F980 16 = .int .i64 (aboveF (f) (p) (x) (y) ((((n % 4) : Nat) : Int))) := (hF981 16).trans s976
                          have s993 : F980 17 = .int .i64 (leftF (f) (p) (x) (y) ((((n / 4) : Nat) : Int))) := (hF981 17).trans s977
                          have s994 : F980 110 = .bool true := (hF981 110).trans rfl
                          clear hF981
                          refine then_normal ?_
                          refine wq_cond (t := true) s994 (fun _ => ?_) (fun e => by cases e)
                          refine wq_region ?_
                          refine wl_v (.int .i64 (((n : Nat) : Int))) rfl rfl (y_mov rfl s991 ⟨rfl, rfl⟩) ?_
                          refine wl_v (.int .i64 (leftF (f) (p) (x) (y) ((((n / 4) : Nat) : Int)))) rfl rfl (y_mov rfl s993 ⟨rfl, rfl⟩) ?_
                          refine wl_v (.pointer (some ⟨p39, n, none⟩)) rfl rfl (y_atR (n) (s := 1) rfl s988 rfl (by omega) Try.underlying26 (by omega) (by kernel_rfl) (by omega) ⟨rfl, rfl⟩) ?_
                          refine wl_set_blk rfl rfl rfl rfl rfl B917 (by omega) (by kernel_rfl) fun w995 B996 k997 => ?_
                          have B998 := B912.all k997 (fun i h x => (((ap46).symm) i h x))
                          have B999 := B913.all k997 (fun i h x => (((ap47).symm) i h x))
                          have B1000 := B914.all k997 (fun i h x => (((ap48).symm) i h x))
                          have B1001 := B915.all k997 (fun x => (((ap49).symm) p1 rfl x))
                          have B1002 := B916.all k997 (fun x => (((ap50).symm) p14 rfl x))
                          have K1003 := K918.trans k997 (Grew.ok (S := fun _ => False) gr45 noB_le)
                          refine wl_nil fun F1004 hF1005 => ?_
                          have s1006 : F1004 1 = .int .i64 (p) := (hF1005 1).trans s982
                          have s1007 : F1004 2 = .int .i64 (x) := (hF1005 2).trans s983
                          have s1008 : F1004 3 = .int .i64 (y) := (hF1005 3).trans s984
                          have s1009 : F1004 4 = .int .i64 (2) := (hF1005 4).trans s985
                          have s1010 : F1004 5 = .pointer (some ⟨p1, 0, none⟩) := (hF1005 5).trans s986
                          have s1011 : F1004 10 = .pointer (some ⟨p14, 0, none⟩) := (hF1005 10).trans s987
                          have s1012 : F1004 12 = .pointer (some ⟨p39, 0, none⟩) := (hF1005 12).trans s988
                          have s1013 : F1004 13 = .int .i64 (sumTo f p x y 4) := (hF1005 13).trans s989
                          have s1014 : F1004 116 = undef := (hF1005 116).trans s990
                          have s1015 : F1004 15 = .int .i64 (((n : Nat) : Int)) := (hF1005 15).trans s991
                          clear hF1005
                          refine in_normal ?_
                          refine in_normal ?_
                          refine then_normal ?_
                          refine wq_region ?_
                          refine wl_v (.int .i64 (((n : Nat) : Int))) rfl rfl (y_mov rfl s1015 ⟨rfl, rfl⟩) ?_
                          refine wl_v (.int .i64 (((n + 1 : Nat) : Int))) rfl rfl (y_add rfl rfl rfl (i64_n (by omega) (by omega)) ⟨rfl, rfl⟩) ?_
                          refine wl_v (.int .i64 (((n + 1 : Nat) : Int))) rfl rfl (y_asg rfl rfl ⟨rfl, rfl⟩) ?_
                          refine wl_nil fun F1016 hF1017 => ?_
                          have s1018 : F1016 1 = .int .i64 (p) := (hF1017 1).trans s1006
                          have s1019 : F1016 2 = .int .i64 (x) := (hF1017 2).trans s1007
                          have s1020 : F1016 3 = .int .i64 (y) := (hF1017 3).trans s1008
                          have s1021 : F1016 4 = .int .i64 (2) := (hF1017 4).trans s1009
                          have s1022 : F1016 5 = .pointer (some ⟨p1, 0, none⟩) := (hF1017 5).trans s1010
                          have s1023 : F1016 10 = .pointer (some ⟨p14, 0, none⟩) := (hF1017 10).trans s1011
                          have s1024 : F1016 12 = .pointer (some ⟨p39, 0, none⟩) := (hF1017 12).trans s1012
                          have s1025 : F1016 13 = .int .i64 (sumTo f p x y 4) := (hF1017 13).trans s1013
                          have s1026 : F1016 116 = undef := (hF1017 116).trans s1014
                          have s1027 : F1016 15 = .int .i64 (((n + 1 : Nat) : Int)) := (hF1017 15).trans rfl
                          clear hF1017
                          exact then_normal ⟨(16 - (n + 1)), by omega, n + 1, by omega, rfl, s1018, s1019, s1020, s1021, s1022, s1023, s1024, s1025, s1026, s1027, K1003, B998, B999, B1000, B1001, B1002, (B996.next rfl)⟩
                        · replace c887 := of_decide_eq_false c887
                          refine wq_exit ?_
                          refine then_exit ?_
                          refine then_exit ?_
                          have l1028 : 16 = n := by omega
                          subst l1028
                          have B1029 : Blk w854 p39 26 (predN f p x y 2) := (B873.last)
                          refine in_here ?_
                          refine then_normal ?_
                          refine wq_seq ?_
                          refine wq_region ?_
                          refine wl_v (blkV (predN f p x y 2)) rfl rfl (y_load_blk blkT_arr rfl s882 B1029 ⟨rfl, rfl⟩) ?_
                          refine wl_store_blk blkT_arr rfl rfl rfl s881 rfl B872 fun w1030 B1031 k1032 => ?_
                          have B1033 := B868.all k1032 (fun i h x => (((ap21).symm) i h x))
                          have B1034 := B869.all k1032 (fun i h x => (((ap22).symm) i h x))
                          have B1035 := B870.all k1032 (fun i h x => (((ap23).symm) i h x))
                          have B1036 := B871.all k1032 (fun x => (((ap24).symm) p1 rfl x))
                          have B1037 := B1029.all k1032 (fun x => ((ap50) p39 rfl x))
                          have K1038 := K855.trans k1032 (Grew.ok (S := fun _ => False) gr20 noB_le)
                          refine wl_v (.int .i64 (0)) rfl rfl (y_asg rfl rfl ⟨rfl, rfl⟩) ?_
                          refine wl_nil fun F1039 hF1040 => ?_
                          have s1041 : F1039 10 = .pointer (some ⟨p14, 0, none⟩) := (hF1040 10).trans s881
                          have s1042 : F1039 116 = undef := (hF1040 116).trans s884
                          have s1043 : F1039 11 = .int .i64 (0) := (hF1040 11).trans rfl
                          clear hF1040
                          refine then_normal ?_
                          refine wq_ret ?_
                          exact end_2 s1042 rfl (res_blk blkT_arr rfl s1041 B1031) (res_tmp (v := .int .i64 (0)) rfl s1043) ⟨(by first | rw [(pred_no hno).1, (pred_no hno).2] | rw [(pred_none hpl (by omega)).1, (pred_none hpl (by omega)).2] | rw [(pred_yes hpl (by decide)).1, (pred_yes hpl (by decide)).2]), K1038⟩
                      · skip
                        refine wq_region ?_
                        refine wl_v (.int .i64 (0)) rfl rfl (y_asg rfl rfl ⟨rfl, rfl⟩) ?_
                        refine wl_nil fun F1044 hF1045 => ?_
                        have s1046 : F1044 1 = .int .i64 (p) := (hF1045 1).trans s419
                        have s1047 : F1044 2 = .int .i64 (x) := (hF1045 2).trans s420
                        have s1048 : F1044 3 = .int .i64 (y) := (hF1045 3).trans s421
                        have s1049 : F1044 4 = .int .i64 (3) := (hF1045 4).trans s422
                        have s1050 : F1044 5 = .pointer (some ⟨p1, 0, none⟩) := (hF1045 5).trans s423
                        have s1051 : F1044 10 = .pointer (some ⟨p14, 0, none⟩) := (hF1045 10).trans s424
                        have s1052 : F1044 12 = .pointer (some ⟨p39, 0, none⟩) := (hF1045 12).trans s425
                        have s1053 : F1044 116 = undef := (hF1045 116).trans s426
                        have s1054 : F1044 13 = .int .i64 (sumTo f p x y 4) := (hF1045 13).trans s427
                        have s1055 : F1044 15 = .int .i64 (0) := (hF1045 15).trans rfl
                        clear hF1045
                        refine then_normal ?_
                        refine wq_block ?_
                        refine wq_loop (fun nn FF ww => ∃ (n : Nat), (n ≤ 16) ∧ nn = 16 - n ∧ FF 1 = .int .i64 (p) ∧ FF 2 = .int .i64 (x) ∧ FF 3 = .int .i64 (y) ∧ FF 4 = .int .i64 (3) ∧ FF 5 = .pointer (some ⟨p1, 0, none⟩) ∧ FF 10 = .pointer (some ⟨p14, 0, none⟩) ∧ FF 12 = .pointer (some ⟨p39, 0, none⟩) ∧ FF 13 = .int .i64 (sumTo f p x y 4) ∧ FF 116 = undef ∧ FF 15 = .int .i64 (((n : Nat) : Int)) ∧ Kept (fun _ => False) w0 ww ∧ Byt ww (T_f0) f0 ((f).p0) ∧ Byt ww (T_f1) f1 ((f).p1) ∧ Byt ww (T_f2) f2 ((f).p2) ∧ Stc ww p1 25 [.int .i64 ((f).W), .int .i64 ((f).H), f0, f1, f2] ∧ Blk ww p14 26 (fun _ => 0) ∧ Blk ww p39 26 (upto n (fun _ => 0) (predN f p x y 3))) (16 - (0)) ⟨0, by omega, rfl, s1046, s1047, s1048, s1049, s1050, s1051, s1052, s1054, s1053, s1055, K398, B411, B412, B413, B414, B415, B416.first⟩ ?_
                        rintro n1059 F1056 w1057 ⟨n, i1060, hn1059, s1061, s1062, s1063, s1064, s1065, s1066, s1067, s1068, s1069, s1070, K1058, B1071, B1072, B1073, B1074, B1075, B1076⟩
                        refine wq_seq ?_
                        refine wq_seq ?_
                        refine wq_region ?_
                        refine wl_v (.int .i64 (((n : Nat) : Int))) rfl rfl (y_mov rfl s1070 ⟨rfl, rfl⟩) ?_
                        refine wl_v (.bool (decide ((((n : Nat) : Int)) < (16)))) rfl rfl (y_lss rfl rfl rfl rfl ⟨rfl, rfl⟩) ?_
                        refine wl_nil fun F1077 hF1078 => ?_
                        have s1079 : F1077 1 = .int .i64 (p) := (hF1078 1).trans s1061
                        have s1080 : F1077 2 = .int .i64 (x) := (hF1078 2).trans s1062
                        have s1081 : F1077 3 = .int .i64 (y) := (hF1078 3).trans s1063
                        have s1082 : F1077 4 = .int .i64 (3) := (hF1078 4).trans s1064
                        have s1083 : F1077 5 = .pointer (some ⟨p1, 0, none⟩) := (hF1078 5).trans s1065
                        have s1084 : F1077 10 = .pointer (some ⟨p14, 0, none⟩) := (hF1078 10).trans s1066
                        have s1085 : F1077 12 = .pointer (some ⟨p39, 0, none⟩) := (hF1078 12).trans s1067
                        have s1086 : F1077 13 = .int .i64 (sumTo f p x y 4) := (hF1078 13).trans s1068
                        have s1087 : F1077 116 = undef := (hF1078 116).trans s1069
                        have s1088 : F1077 15 = .int .i64 (((n : Nat) : Int)) := (hF1078 15).trans s1070
                        have s1089 : F1077 74 = .bool (decide ((((n : Nat) : Int)) < (16))) := (hF1078 74).trans rfl
                        clear hF1078
                        refine then_normal ?_
                        refine wq_cond s1089 (fun c1090 => ?_) (fun c1090 => ?_)
                        · replace c1090 := of_decide_eq_true c1090
                          refine wq_skip ?_
                          refine then_normal ?_
                          refine wq_seq ?_
                          refine wq_block ?_
                          refine wq_seq ?_
                          have hs := sumTo_le hb p x y 4
                          have ha := above_le hb p x y ((n % 4 : Nat) : Int)
                          have hl := left_le hb p x y ((n / 4 : Nat) : Int)
                          refine wq_region ?_
                          refine wl_v (.agg #[.int .i64 ((f).W), .int .i64 ((f).H), f0, f1, f2]) rfl rfl (y_load_stc stcT_frame rfl s1083 B1074 ⟨rfl, rfl⟩) ?_
                          refine wl_v (.int .i64 (p)) rfl rfl (y_mov rfl s1079 ⟨rfl, rfl⟩) ?_
                          refine wl_v (.int .i64 (x)) rfl rfl (y_mov rfl s1080 ⟨rfl, rfl⟩) ?_
                          refine wl_v (.int .i64 (y)) rfl rfl (y_mov rfl s1081 ⟨rfl, rfl⟩) ?_
                          refine wl_v (.int .i64 (((n : Nat) : Int))) rfl rfl (y_mov rfl s1088 ⟨rfl, rfl⟩) ?_
                          refine wl_v (.int .i64 ((((n % 4) : Nat) : Int))) rfl rfl (y_rem rfl rfl rfl (by first | decide | omega) (rem_nat n 4) ⟨rfl, rfl⟩) ?_
                          refine wl_call (R := fun v_ w_ => v_ = .int .i64 (aboveF (f) (p) (x) (y) ((((n % 4) : Nat) : Int))) ∧ Kept (fun _ => False) w1057 w_) rfl rfl (y_cs rfl rfl rfl (fun _ _ => by kernel_rfl) (ev_func _) (vsC rfl (vsC rfl (vsC rfl (vsC rfl (vsC rfl vsN))))) (iref_above (p) (x) (y) ((((n % 4) : Nat) : Int)) (f) (f0) (f1) (f2) (T_f0) (T_f1) (T_f2) _ (by omega) (by omega) (by omega) B1071 B1072 B1073 ) (fun e_ w_ h_ => ⟨_, h_.1, rfl, h_.2⟩)) ?_
                          rintro _ w1091 ⟨rfl, k1092⟩
                          have B1093 := B1071.all k1092 Apart.none
                          have B1094 := B1072.all k1092 Apart.none
                          have B1095 := B1073.all k1092 Apart.none
                          have B1096 := B1074.all k1092 id
                          have B1097 := B1075.all k1092 id
                          have B1098 := B1076.all k1092 id
                          have K1099 := K1058.trans k1092 (fun _ _ x => x.elim)
                          refine wl_v (.int .i64 (aboveF (f) (p) (x) (y) ((((n % 4) : Nat) : Int)))) rfl rfl (y_asg rfl rfl ⟨rfl, rfl⟩) ?_
                          refine wl_nil fun F1100 hF1101 => ?_
                          have s1102 : F1100 1 = .int .i64 (p) := (hF1101 1).trans s1079
                          have s1103 : F1100 2 = .int .i64 (x) := (hF1101 2).trans s1080
                          have s1104 : F1100 3 = .int .i64 (y) := (hF1101 3).trans s1081
                          have s1105 : F1100 4 = .int .i64 (3) := (hF1101 4).trans s1082
                          have s1106 : F1100 5 = .pointer (some ⟨p1, 0, none⟩) := (hF1101 5).trans s1083
                          have s1107 : F1100 10 = .pointer (some ⟨p14, 0, none⟩) := (hF1101 10).trans s1084
                          have s1108 : F1100 12 = .pointer (some ⟨p39, 0, none⟩) := (hF1101 12).trans s1085
                          have s1109 : F1100 13 = .int .i64 (sumTo f p x y 4) := (hF1101 13).trans s1086
                          have s1110 : F1100 116 = undef := (hF1101 116).trans s1087
                          have s1111 : F1100 15 = .int .i64 (((n : Nat) : Int)) := (hF1101 15).trans s1088
                          have s1112 : F1100 16 = .int .i64 (aboveF (f) (p) (x) (y) ((((n % 4) : Nat) : Int))) := (hF1101 16).trans rfl
                          clear hF1101
                          refine then_normal ?_
                          refine wq_seq ?_
                          refine wq_region ?_
                          refine wl_v (.agg #[.int .i64 ((f).W), .int .i64 ((f).H), f0, f1, f2]) rfl rfl (y_load_stc stcT_frame rfl s1106 B1096 ⟨rfl, rfl⟩) ?_
                          refine wl_v (.int .i64 (p)) rfl rfl (y_mov rfl s1102 ⟨rfl, rfl⟩) ?_
                          refine wl_v (.int .i64 (x)) rfl rfl (y_mov rfl s1103 ⟨rfl, rfl⟩) ?_
                          refine wl_v (.int .i64 (y)) rfl rfl (y_mov rfl s1104 ⟨rfl, rfl⟩) ?_
                          refine wl_v (.int .i64 (((n : Nat) : Int))) rfl rfl (y_mov rfl s1111 ⟨rfl, rfl⟩) ?_
                          refine wl_v (.int .i64 ((((n / 4) : Nat) : Int))) rfl rfl (y_quo rfl rfl rfl (by first | decide | omega) (i64_n (quo_nat n 4) (by omega)) ⟨rfl, rfl⟩) ?_
                          refine wl_call (R := fun v_ w_ => v_ = .int .i64 (leftF (f) (p) (x) (y) ((((n / 4) : Nat) : Int))) ∧ Kept (fun _ => False) w1091 w_) rfl rfl (y_cs rfl rfl rfl (fun _ _ => by kernel_rfl) (ev_func _) (vsC rfl (vsC rfl (vsC rfl (vsC rfl (vsC rfl vsN))))) (iref_left (p) (x) (y) ((((n / 4) : Nat) : Int)) (f) (f0) (f1) (f2) (T_f0) (T_f1) (T_f2) _ (by omega) (by omega) (by omega) B1093 B1094 B1095 ) (fun e_ w_ h_ => ⟨_, h_.1, rfl, h_.2⟩)) ?_
                          rintro _ w1113 ⟨rfl, k1114⟩
                          have B1115 := B1093.all k1114 Apart.none
                          have B1116 := B1094.all k1114 Apart.none
                          have B1117 := B1095.all k1114 Apart.none
                          have B1118 := B1096.all k1114 id
                          have B1119 := B1097.all k1114 id
                          have B1120 := B1098.all k1114 id
                          have K1121 := K1099.trans k1114 (fun _ _ x => x.elim)
                          refine wl_v (.int .i64 (leftF (f) (p) (x) (y) ((((n / 4) : Nat) : Int)))) rfl rfl (y_asg rfl rfl ⟨rfl, rfl⟩) ?_
                          refine wl_nil fun F1122 hF1123 => ?_
                          have s1124 : F1122 1 = .int .i64 (p) := (hF1123 1).trans s1102
                          have s1125 : F1122 2 = .int .i64 (x) := (hF1123 2).trans s1103
                          have s1126 : F1122 3 = .int .i64 (y) := (hF1123 3).trans s1104
                          have s1127 : F1122 4 = .int .i64 (3) := (hF1123 4).trans s1105
                          have s1128 : F1122 5 = .pointer (some ⟨p1, 0, none⟩) := (hF1123 5).trans s1106
                          have s1129 : F1122 10 = .pointer (some ⟨p14, 0, none⟩) := (hF1123 10).trans s1107
                          have s1130 : F1122 12 = .pointer (some ⟨p39, 0, none⟩) := (hF1123 12).trans s1108
                          have s1131 : F1122 13 = .int .i64 (sumTo f p x y 4) := (hF1123 13).trans s1109
                          have s1132 : F1122 116 = undef := (hF1123 116).trans s1110
                          have s1133 : F1122 15 = .int .i64 (((n : Nat) : Int)) := (hF1123 15).trans s1111
                          have s1134 : F1122 16 = .int .i64 (aboveF (f) (p) (x) (y) ((((n % 4) : Nat) : Int))) := (hF1123 16).trans s1112
                          have s1135 : F1122 17 = .int .i64 (leftF (f) (p) (x) (y) ((((n / 4) : Nat) : Int))) := (hF1123 17).trans rfl
                          clear hF1123
                          refine then_normal ?_
                          refine wq_seq ?_
                          refine wq_region ?_
                          refine wl_v (.int .i64 (3)) rfl rfl (y_mov rfl s1127 ⟨rfl, rfl⟩) ?_
                          refine wl_nil fun F1136 hF1137 => ?_
                          have s1138 : F1136 1 = .int .i64 (p) := (hF1137 1).trans s1124
                          have s1139 : F1136 2 = .int .i64 (x) := (hF1137 2).trans s1125
                          have s1140 : F1136 3 = .int .i64 (y) := (hF1137 3).trans s1126
                          have s1141 : F1136 4 = .int .i64 (3) := (hF1137 4).trans s1127
                          have s1142 : F1136 5 = .pointer (some ⟨p1, 0, none⟩) := (hF1137 5).trans s1128
                          have s1143 : F1136 10 = .pointer (some ⟨p14, 0, none⟩) := (hF1137 10).trans s1129
                          have s1144 : F1136 12 = .pointer (some ⟨p39, 0, none⟩) := (hF1137 12).trans s1130
                          have s1145 : F1136 13 = .int .i64 (sumTo f p x y 4) := (hF1137 13).trans s1131
                          have s1146 : F1136 116 = undef := (hF1137 116).trans s1132
                          have s1147 : F1136 15 = .int .i64 (((n : Nat) : Int)) := (hF1137 15).trans s1133
                          have s1148 : F1136 16 = .int .i64 (aboveF (f) (p) (x) (y) ((((n % 4) : Nat) : Int))) := (hF1137 16).trans s1134
                          have s1149 : F1136 17 = .int .i64 (leftF (f) (p) (x) (y) ((((n / 4) : Nat) : Int))) := (hF1137 17).trans s1135
                          have s1150 : F1136 91 = .int .i64 (3) := (hF1137 91).trans rfl
                          clear hF1137
                          refine then_normal ?_
                          refine wq_block ?_
                          refine wq_seq ?_
                          refine wq_region ?_
                          refine wl_v (.bool false) rfl rfl (y_eqlI rfl s1150 rfl rfl ⟨rfl, rfl⟩) ?_
                          refine wl_v (.bool false) rfl rfl (y_asg rfl rfl ⟨rfl, rfl⟩) ?_
                          refine wl_nil fun F1151 hF1152 => ?_
                          have s1153 : F1151 1 = .int .i64 (p) := (hF1152 1).trans s1138
                          have s1154 : F1151 2 = .int .i64 (x) := (hF1152 2).trans s1139
                          have s1155 : F1151 3 = .int .i64 (y) := (hF1152 3).trans s1140
                          have s1156 : F1151 4 = .int .i64 (3) := (hF1152 4).trans s1141
                          have s1157 : F1151 5 = .pointer (some ⟨p1, 0, none⟩) := (hF1152 5).trans s1142
                          have s1158 : F1151 10 = .pointer (some ⟨p14, 0, none⟩) := (hF1152 10).trans s1143
                          have s1159 : F1151 12 = .pointer (some ⟨p39, 0, none⟩) := (hF1152 12).trans s1144
                          have s1160 : F1151 13 = .int .i64 (sumTo f p x y 4) := (hF1152 13).trans s1145
                          have s1161 : F1151 116 = undef := (hF1152 116).trans s1146
                          have s1162 : F1151 15 = .int .i64 (((n : Nat) : Int)) := (hF1152 15).trans s1147
                          have s1163 : F1151 16 = .int .i64 (aboveF (f) (p) (x) (y) ((((n % 4) : Nat) : Int))) := (hF1152 16).trans s1148
                          have s1164 : F1151 17 = .int .i64 (leftF (f) (p) (x) (y) ((((n / 4) : Nat) : Int))) := (hF1152 17).trans s1149
                          have s1165 : F1151 91 = .int .i64 (3) := (hF1152 91).trans s1150
                          have s1166 : F1151 99 = .bool false := (hF1152 99).trans rfl
                          clear hF1152
                          refine then_normal ?_
                          refine wq_cond (t := false) s1166 (fun e => by cases e) (fun _ => ?_)
                          refine wq_seq ?_
                          refine wq_region ?_
                          refine wl_v (.bool false) rfl rfl (y_eqlI rfl s1165 rfl rfl ⟨rfl, rfl⟩) ?_
                          refine wl_v (.bool false) rfl rfl (y_asg rfl rfl ⟨rfl, rfl⟩) ?_
                          refine wl_nil fun F1167 hF1168 => ?_
                          have s1169 : F1167 1 = .int .i64 (p) := (hF1168 1).trans s1153
                          have s1170 : F1167 2 = .int .i64 (x) := (hF1168 2).trans s1154
                          have s1171 : F1167 3 = .int .i64 (y) := (hF1168 3).trans s1155
                          have s1172 : F1167 4 = .int .i64 (3) := (hF1168 4).trans s1156
                          have s1173 : F1167 5 = .pointer (some ⟨p1, 0, none⟩) := (hF1168 5).trans s1157
                          have s1174 : F1167 10 = .pointer (some ⟨p14, 0, none⟩) := (hF1168 10).trans s1158
                          have s1175 : F1167 12 = .pointer (some ⟨p39, 0, none⟩) := (hF1168 12).trans s1159
                          have s1176 : F1167 13 = .int .i64 (sumTo f p x y 4) := (hF1168 13).trans s1160
                          have s1177 : F1167 116 = undef := (hF1168 116).trans s1161
                          have s1178 : F1167 15 = .int .i64 (((n : Nat) : Int)) := (hF1168 15).trans s1162
                          have s1179 : F1167 16 = .int .i64 (aboveF (f) (p) (x) (y) ((((n % 4) : Nat) : Int))) := (hF1168 16).trans s1163
                          have s1180 : F1167 17 = .int .i64 (leftF (f) (p) (x) (y) ((((n / 4) : Nat) : Int))) := (hF1168 17).trans s1164
                          have s1181 : F1167 91 = .int .i64 (3) := (hF1168 91).trans s1165
                          have s1182 : F1167 105 = .bool false := (hF1168 105).trans rfl
                          clear hF1168
                          refine then_normal ?_
                          refine wq_cond (t := false) s1182 (fun e => by cases e) (fun _ => ?_)
                          refine wq_seq ?_
                          refine wq_region ?_
                          refine wl_v (.bool false) rfl rfl (y_eqlI rfl s1181 rfl rfl ⟨rfl, rfl⟩) ?_
                          refine wl_v (.bool false) rfl rfl (y_asg rfl rfl ⟨rfl, rfl⟩) ?_
                          refine wl_nil fun F1183 hF1184 => ?_
                          have s1185 : F1183 1 = .int .i64 (p) := (hF1184 1).trans s1169
                          have s1186 : F1183 2 = .int .i64 (x) := (hF1184 2).trans s1170
                          have s1187 : F1183 3 = .int .i64 (y) := (hF1184 3).trans s1171
                          have s1188 : F1183 4 = .int .i64 (3) := (hF1184 4).trans s1172
                          have s1189 : F1183 5 = .pointer (some ⟨p1, 0, none⟩) := (hF1184 5).trans s1173
                          have s1190 : F1183 10 = .pointer (some ⟨p14, 0, none⟩) := (hF1184 10).trans s1174
                          have s1191 : F1183 12 = .pointer (some ⟨p39, 0, none⟩) := (hF1184 12).trans s1175
                          have s1192 : F1183 13 = .int .i64 (sumTo f p x y 4) := (hF1184 13).trans s1176
                          have s1193 : F1183 116 = undef := (hF1184 116).trans s1177
                          have s1194 : F1183 15 = .int .i64 (((n : Nat) : Int)) := (hF1184 15).trans s1178
                          have s1195 : F1183 16 = .int .i64 (aboveF (f) (p) (x) (y) ((((n % 4) : Nat) : Int))) := (hF1184 16).trans s1179
                          have s1196 : F1183 17 = .int .i64 (leftF (f) (p) (x) (y) ((((n / 4) : Nat) : Int))) := (hF1184 17).trans s1180
                          have s1197 : F1183 110 = .bool false := (hF1184 110).trans rfl
                          clear hF1184
                          refine then_normal ?_
                          refine wq_cond (t := false) s1197 (fun e => by cases e) (fun _ => ?_)
                          refine wq_region ?_
                          refine wl_v (.int .i64 (((n : Nat) : Int))) rfl rfl (y_mov rfl s1194 ⟨rfl, rfl⟩) ?_
                          refine wl_v (.int .i64 (aboveF (f) (p) (x) (y) ((((n % 4) : Nat) : Int)))) rfl rfl (y_mov rfl s1195 ⟨rfl, rfl⟩) ?_
                          refine wl_v (.int .i64 (leftF (f) (p) (x) (y) ((((n / 4) : Nat) : Int)))) rfl rfl (y_mov rfl s1196 ⟨rfl, rfl⟩) ?_
                          refine wl_v (.int .i64 ((aboveF (f) (p) (x) (y) ((((n % 4) : Nat) : Int))) + (leftF (f) (p) (x) (y) ((((n / 4) : Nat) : Int))))) rfl rfl (y_add rfl rfl rfl (i64_i rfl (by omega)) ⟨rfl, rfl⟩) ?_
                          refine wl_v (.int .i64 (((aboveF (f) (p) (x) (y) ((((n % 4) : Nat) : Int))) + (leftF (f) (p) (x) (y) ((((n / 4) : Nat) : Int)))) + (1))) rfl rfl (y_add rfl rfl rfl (i64_i rfl (by omega)) ⟨rfl, rfl⟩) ?_
                          refine wl_v (.int .i64 (Int.tdiv (aboveF f p x y ((n % 4 : Nat) : Int) + leftF f p x y ((n / 4 : Nat) : Int) + 1) 2)) rfl rfl (y_quo rfl rfl rfl (by first | decide | omega) (i64_i rfl (by rw [tdiv2 (by omega)]; omega)) ⟨rfl, rfl⟩) ?_
                          refine wl_v (.pointer (some ⟨p39, n, none⟩)) rfl rfl (y_atR (n) (s := 1) rfl s1191 rfl (by omega) Try.underlying26 (by omega) (by kernel_rfl) (by omega) ⟨rfl, rfl⟩) ?_
                          refine wl_set_blk rfl rfl rfl rfl rfl B1120 (by omega) (by kernel_rfl) fun w1198 B1199 k1200 => ?_
                          have B1201 := B1115.all k1200 (fun i h x => (((ap46).symm) i h x))
                          have B1202 := B1116.all k1200 (fun i h x => (((ap47).symm) i h x))
                          have B1203 := B1117.all k1200 (fun i h x => (((ap48).symm) i h x))
                          have B1204 := B1118.all k1200 (fun x => (((ap49).symm) p1 rfl x))
                          have B1205 := B1119.all k1200 (fun x => (((ap50).symm) p14 rfl x))
                          have K1206 := K1121.trans k1200 (Grew.ok (S := fun _ => False) gr45 noB_le)
                          refine wl_nil fun F1207 hF1208 => ?_
                          have s1209 : F1207 1 = .int .i64 (p) := (hF1208 1).trans s1185
                          have s1210 : F1207 2 = .int .i64 (x) := (hF1208 2).trans s1186
                          have s1211 : F1207 3 = .int .i64 (y) := (hF1208 3).trans s1187
                          have s1212 : F1207 4 = .int .i64 (3) := (hF1208 4).trans s1188
                          have s1213 : F1207 5 = .pointer (some ⟨p1, 0, none⟩) := (hF1208 5).trans s1189
                          have s1214 : F1207 10 = .pointer (some ⟨p14, 0, none⟩) := (hF1208 10).trans s1190
                          have s1215 : F1207 12 = .pointer (some ⟨p39, 0, none⟩) := (hF1208 12).trans s1191
                          have s1216 : F1207 13 = .int .i64 (sumTo f p x y 4) := (hF1208 13).trans s1192
                          have s1217 : F1207 116 = undef := (hF1208 116).trans s1193
                          have s1218 : F1207 15 = .int .i64 (((n : Nat) : Int)) := (hF1208 15).trans s1194
                          clear hF1208
                          refine in_normal ?_
                          refine in_normal ?_
                          refine then_normal ?_
                          refine wq_region ?_
                          refine wl_v (.int .i64 (((n : Nat) : Int))) rfl rfl (y_mov rfl s1218 ⟨rfl, rfl⟩) ?_
                          refine wl_v (.int .i64 (((n + 1 : Nat) : Int))) rfl rfl (y_add rfl rfl rfl (i64_n (by omega) (by omega)) ⟨rfl, rfl⟩) ?_
                          refine wl_v (.int .i64 (((n + 1 : Nat) : Int))) rfl rfl (y_asg rfl rfl ⟨rfl, rfl⟩) ?_
                          refine wl_nil fun F1219 hF1220 => ?_
                          have s1221 : F1219 1 = .int .i64 (p) := (hF1220 1).trans s1209
                          have s1222 : F1219 2 = .int .i64 (x) := (hF1220 2).trans s1210
                          have s1223 : F1219 3 = .int .i64 (y) := (hF1220 3).trans s1211
                          have s1224 : F1219 4 = .int .i64 (3) := (hF1220 4).trans s1212
                          have s1225 : F1219 5 = .pointer (some ⟨p1, 0, none⟩) := (hF1220 5).trans s1213
                          have s1226 : F1219 10 = .pointer (some ⟨p14, 0, none⟩) := (hF1220 10).trans s1214
                          have s1227 : F1219 12 = .pointer (some ⟨p39, 0, none⟩) := (hF1220 12).trans s1215
                          have s1228 : F1219 13 = .int .i64 (sumTo f p x y 4) := (hF1220 13).trans s1216
                          have s1229 : F1219 116 = undef := (hF1220 116).trans s1217
                          have s1230 : F1219 15 = .int .i64 (((n + 1 : Nat) : Int)) := (hF1220 15).trans rfl
                          clear hF1220
                          exact then_normal ⟨(16 - (n + 1)), by omega, n + 1, by omega, rfl, s1221, s1222, s1223, s1224, s1225, s1226, s1227, s1228, s1229, s1230, K1206, B1201, B1202, B1203, B1204, B1205, (B1199.next rfl)⟩
                        · replace c1090 := of_decide_eq_false c1090
                          refine wq_exit ?_
                          refine then_exit ?_
                          refine then_exit ?_
                          have l1231 : 16 = n := by omega
                          subst l1231
                          have B1232 : Blk w1057 p39 26 (predN f p x y 3) := (B1076.last)
                          refine in_here ?_
                          refine then_normal ?_
                          refine wq_seq ?_
                          refine wq_region ?_
                          refine wl_v (blkV (predN f p x y 3)) rfl rfl (y_load_blk blkT_arr rfl s1085 B1232 ⟨rfl, rfl⟩) ?_
                          refine wl_store_blk blkT_arr rfl rfl rfl s1084 rfl B1075 fun w1233 B1234 k1235 => ?_
                          have B1236 := B1071.all k1235 (fun i h x => (((ap21).symm) i h x))
                          have B1237 := B1072.all k1235 (fun i h x => (((ap22).symm) i h x))
                          have B1238 := B1073.all k1235 (fun i h x => (((ap23).symm) i h x))
                          have B1239 := B1074.all k1235 (fun x => (((ap24).symm) p1 rfl x))
                          have B1240 := B1232.all k1235 (fun x => ((ap50) p39 rfl x))
                          have K1241 := K1058.trans k1235 (Grew.ok (S := fun _ => False) gr20 noB_le)
                          refine wl_v (.int .i64 (0)) rfl rfl (y_asg rfl rfl ⟨rfl, rfl⟩) ?_
                          refine wl_nil fun F1242 hF1243 => ?_
                          have s1244 : F1242 10 = .pointer (some ⟨p14, 0, none⟩) := (hF1243 10).trans s1084
                          have s1245 : F1242 116 = undef := (hF1243 116).trans s1087
                          have s1246 : F1242 11 = .int .i64 (0) := (hF1243 11).trans rfl
                          clear hF1243
                          refine then_normal ?_
                          refine wq_ret ?_
                          exact end_2 s1245 rfl (res_blk blkT_arr rfl s1244 B1234) (res_tmp (v := .int .i64 (0)) rfl s1246) ⟨(by first | rw [(pred_no hno).1, (pred_no hno).2] | rw [(pred_none hpl (by omega)).1, (pred_none hpl (by omega)).2] | rw [(pred_yes hpl (by decide)).1, (pred_yes hpl (by decide)).2]), K1241⟩

set_option maxHeartbeats 4000000 in
set_option maxRecDepth 100000 in
theorem iref_cost (a b : Nat → Int) (w0 : World) :
    Calls Try.prog 16 #[blkV (a), blkV (b)] w0 fun e w' => e = .returned (.int .i64 (costF a b)) ∧ Kept (fun _ => False) w0 w' := by
  refine calls_wq (args := [blkV (a), blkV (b)]) 30 Try.func16 rfl rfl (Nat.le_of_ble_eq_true rfl) ?_
  have K0 := Kept.refl (fun _ => False) w0
  refine wq_seq ?_
  refine wq_region ?_
  refine wl_box_blk rfl rfl rfl rfl fun p1 w2 e5 B3 k4 => ?_
  have g6 := onB_new (Nat.le_of_eq e5.symm)
  have gr7 : Grew w0 noB (onB p1) := Grew.new K0 g6
  clear e5 g6
  have K8 := K0.trans k4 (fun _ _ x => x.elim)
  refine wl_box_blk rfl rfl rfl rfl fun p9 w10 e13 B11 k12 => ?_
  have g14 := onB_new (Nat.le_of_eq e13.symm)
  have gr15 : Grew w0 noB (onB p9) := Grew.new K8 g14
  have ap16 : Apart (onB p9) (onB p1) := Apart.new g14 (onB_live (B3).lt)
  clear e13 g14
  have B17 := B3.all k12 id
  have K18 := K8.trans k12 (fun _ _ x => x.elim)
  refine wl_v (.int .i64 (0)) rfl rfl (y_asg rfl rfl ⟨rfl, rfl⟩) ?_
  refine wl_nil fun F19 hF20 => ?_
  have s21 : F19 30 = undef := (hF20 30).trans rfl
  have s22 : F19 2 = .pointer (some ⟨p1, 0, none⟩) := (hF20 2).trans rfl
  have s23 : F19 3 = .pointer (some ⟨p9, 0, none⟩) := (hF20 3).trans rfl
  clear hF20
  refine then_normal ?_
  refine wq_seq ?_
  refine wq_region ?_
  refine wl_v (.int .i64 (0)) rfl rfl (y_asg rfl rfl ⟨rfl, rfl⟩) ?_
  refine wl_nil fun F24 hF25 => ?_
  have s26 : F24 30 = undef := (hF25 30).trans s21
  have s27 : F24 2 = .pointer (some ⟨p1, 0, none⟩) := (hF25 2).trans s22
  have s28 : F24 3 = .pointer (some ⟨p9, 0, none⟩) := (hF25 3).trans s23
  have s29 : F24 5 = .int .i64 (0) := (hF25 5).trans rfl
  clear hF25
  refine then_normal ?_
  refine wq_seq ?_
  refine wq_seq ?_
  refine wq_region ?_
  refine wl_v (.int .i64 (0)) rfl rfl (y_asg rfl rfl ⟨rfl, rfl⟩) ?_
  refine wl_nil fun F30 hF31 => ?_
  have s32 : F30 30 = undef := (hF31 30).trans s26
  have s33 : F30 2 = .pointer (some ⟨p1, 0, none⟩) := (hF31 2).trans s27
  have s34 : F30 3 = .pointer (some ⟨p9, 0, none⟩) := (hF31 3).trans s28
  have s35 : F30 5 = .int .i64 (0) := (hF31 5).trans s29
  have s36 : F30 6 = .int .i64 (0) := (hF31 6).trans rfl
  clear hF31
  refine then_normal ?_
  refine wq_block ?_
  refine wq_loop (fun nn FF ww => ∃ (i : Nat), (i ≤ 16) ∧ nn = 16 - i ∧ FF 2 = .pointer (some ⟨p1, 0, none⟩) ∧ FF 3 = .pointer (some ⟨p9, 0, none⟩) ∧ FF 30 = undef ∧ FF 5 = .int .i64 (costTo a b i) ∧ FF 6 = .int .i64 (((i : Nat) : Int)) ∧ Kept (fun _ => False) w0 ww ∧ Blk ww p1 26 (a) ∧ Blk ww p9 26 (b)) (16 - (0)) ⟨0, by omega, rfl, s33, s34, s32, s35, s36, K18, B17, B11⟩ ?_
  rintro n40 F37 w38 ⟨i, i41, hn40, s42, s43, s44, s45, s46, K39, B47, B48⟩
  refine wq_seq ?_
  refine wq_seq ?_
  refine wq_region ?_
  refine wl_v (.int .i64 (((i : Nat) : Int))) rfl rfl (y_mov rfl s46 ⟨rfl, rfl⟩) ?_
  refine wl_v (.bool (decide ((((i : Nat) : Int)) < (16)))) rfl rfl (y_lss rfl rfl rfl rfl ⟨rfl, rfl⟩) ?_
  refine wl_nil fun F49 hF50 => ?_
  have s51 : F49 2 = .pointer (some ⟨p1, 0, none⟩) := (hF50 2).trans s42
  have s52 : F49 3 = .pointer (some ⟨p9, 0, none⟩) := (hF50 3).trans s43
  have s53 : F49 30 = undef := (hF50 30).trans s44
  have s54 : F49 5 = .int .i64 (costTo a b i) := (hF50 5).trans s45
  have s55 : F49 6 = .int .i64 (((i : Nat) : Int)) := (hF50 6).trans s46
  have s56 : F49 9 = .bool (decide ((((i : Nat) : Int)) < (16))) := (hF50 9).trans rfl
  clear hF50
  refine then_normal ?_
  refine wq_cond s56 (fun c57 => ?_) (fun c57 => ?_)
  · replace c57 := of_decide_eq_true c57
    refine wq_skip ?_
    refine then_normal ?_
    refine wq_seq ?_
    refine wq_block ?_
    refine wq_seq ?_
    have hc := costTo_le a b i
    have h1 := cl_20 (a i)
    have h2 := cl_20 (b i)
    refine wq_said [some 12, some 13, some 14, some 15, some 16, some 17, some 18, some 19, some 20, some 21, some 22, some 7] [Pd.eq (.int .i64 (((i : Nat) : Int))), Pd.eq (.pointer (some ⟨p1, i, none⟩)), Pd.eq (.int .i64 ((a) (i))), Pd.eq (.int .i64 (max ((a) (i)) (-1048576))), Pd.eq (.int .i64 (cl 1048576 (a i))), Pd.eq (.int .i64 (((i : Nat) : Int))), Pd.eq (.pointer (some ⟨p9, i, none⟩)), Pd.eq (.int .i64 ((b) (i))), Pd.eq (.int .i64 (max ((b) (i)) (-1048576))), Pd.eq (.int .i64 (cl 1048576 (b i))), Pd.eq (.int .i64 ((cl 1048576 (a i)) - (cl 1048576 (b i)))), Pd.eq (.int .i64 ((cl 1048576 (a i)) - (cl 1048576 (b i))))] (by kernel_rfl) (by kernel_rfl) ?_ ?_
    · refine stepsF_cons ?_ ?_
      · refine StepF.one rfl fun F_ w_ hR hout hD => ?_
        exact (y_mov rfl ((hout 6 rfl (by decide)).trans s55) ⟨rfl, Kept.refl _ _⟩)
      refine stepsF_cons ?_ ?_
      · refine StepF.one rfl fun F_ w_ hR hout hD => ?_
        have g12 : F_ 12 = .int .i64 (((i : Nat) : Int)) := hD.get 0 rfl rfl rfl
        exact (y_atR (i) (s := 1) rfl ((hout 2 rfl (by decide)).trans s51) g12 (by omega) Try.underlying26 (by omega) (by kernel_rfl) (by omega) ⟨rfl, Kept.refl _ _⟩)
      refine stepsF_cons ?_ ?_
      · refine StepF.one rfl fun F_ w_ hR hout hD => ?_
        have g13 : F_ 13 = .pointer (some ⟨p1, i, none⟩) := hD.get 0 rfl rfl rfl
        exact (y_ldR rfl g13 Try.underlying3 (((B47.all hR id)).cell (by omega)) ⟨rfl, Kept.refl _ _⟩)
      refine stepsF_cons ?_ ?_
      · refine StepF.one rfl fun F_ w_ hR hout hD => ?_
        have g14 : F_ 14 = .int .i64 ((a) (i)) := hD.get 0 rfl rfl rfl
        exact (y_maxR rfl g14 rfl rfl ⟨rfl, Kept.refl _ _⟩)
      refine stepsF_cons ?_ ?_
      · refine StepF.one rfl fun F_ w_ hR hout hD => ?_
        have g15 : F_ 15 = .int .i64 (max ((a) (i)) (-1048576)) := hD.get 0 rfl rfl rfl
        exact (y_minR rfl g15 rfl (by unfold cl; omega) ⟨rfl, Kept.refl _ _⟩)
      refine stepsF_cons ?_ ?_
      · refine StepF.one rfl fun F_ w_ hR hout hD => ?_
        exact (y_mov rfl ((hout 6 rfl (by decide)).trans s55) ⟨rfl, Kept.refl _ _⟩)
      refine stepsF_cons ?_ ?_
      · refine StepF.one rfl fun F_ w_ hR hout hD => ?_
        have g17 : F_ 17 = .int .i64 (((i : Nat) : Int)) := hD.get 0 rfl rfl rfl
        exact (y_atR (i) (s := 1) rfl ((hout 3 rfl (by decide)).trans s52) g17 (by omega) Try.underlying26 (by omega) (by kernel_rfl) (by omega) ⟨rfl, Kept.refl _ _⟩)
      refine stepsF_cons ?_ ?_
      · refine StepF.one rfl fun F_ w_ hR hout hD => ?_
        have g18 : F_ 18 = .pointer (some ⟨p9, i, none⟩) := hD.get 0 rfl rfl rfl
        exact (y_ldR rfl g18 Try.underlying3 (((B48.all hR id)).cell (by omega)) ⟨rfl, Kept.refl _ _⟩)
      refine stepsF_cons ?_ ?_
      · refine StepF.one rfl fun F_ w_ hR hout hD => ?_
        have g19 : F_ 19 = .int .i64 ((b) (i)) := hD.get 0 rfl rfl rfl
        exact (y_maxR rfl g19 rfl rfl ⟨rfl, Kept.refl _ _⟩)
      refine stepsF_cons ?_ ?_
      · refine StepF.one rfl fun F_ w_ hR hout hD => ?_
        have g20 : F_ 20 = .int .i64 (max ((b) (i)) (-1048576)) := hD.get 0 rfl rfl rfl
        exact (y_minR rfl g20 rfl (by unfold cl; omega) ⟨rfl, Kept.refl _ _⟩)
      refine stepsF_cons ?_ ?_
      · refine StepF.one rfl fun F_ w_ hR hout hD => ?_
        have g16 : F_ 16 = .int .i64 (cl 1048576 (a i)) := hD.get 0 rfl rfl rfl
        have g21 : F_ 21 = .int .i64 (cl 1048576 (b i)) := hD.get 1 rfl rfl rfl
        exact (y_sub rfl g16 g21 (i64_i rfl (by omega)) ⟨rfl, Kept.refl _ _⟩)
      refine stepsF_cons ?_ ?_
      · refine StepF.one rfl fun F_ w_ hR hout hD => ?_
        have g22 : F_ 22 = .int .i64 ((cl 1048576 (a i)) - (cl 1048576 (b i))) := hD.get 0 rfl rfl rfl
        exact (y_asg rfl g22 ⟨rfl, Kept.refl _ _⟩)
      exact stepsF_nil
    intro v58 F59 w60 k61 G62 hF63
    have B65 := B47.all k61 id
    have B66 := B48.all k61 id
    have K67 := K39.trans k61 (fun _ _ x => x.elim)
    have s68 : F59 2 = .pointer (some ⟨p1, 0, none⟩) := (hF63 2).trans s51
    have s69 : F59 3 = .pointer (some ⟨p9, 0, none⟩) := (hF63 3).trans s52
    have s70 : F59 30 = undef := (hF63 30).trans s53
    have s71 : F59 5 = .int .i64 (costTo a b i) := (hF63 5).trans s54
    have s72 : F59 6 = .int .i64 (((i : Nat) : Int)) := (hF63 6).trans s55
    have s73 : F59 7 = .int .i64 ((cl 1048576 (a i)) - (cl 1048576 (b i))) := (hF63 7).trans (G62 11 (by decide))
    clear G62 hF63
    refine then_normal ?_
    refine wq_region ?_
    refine wl_v (.int .i64 (costTo a b i)) rfl rfl (y_mov rfl s71 ⟨rfl, rfl⟩) ?_
    refine wl_v (.int .i64 ((cl 1048576 (a i)) - (cl 1048576 (b i)))) rfl rfl (y_mov rfl s73 ⟨rfl, rfl⟩) ?_
    refine wl_v (.int .i64 ((cl 1048576 (a i)) - (cl 1048576 (b i)))) rfl rfl (y_mov rfl s73 ⟨rfl, rfl⟩) ?_
    refine wl_v (.int .i64 (-((cl 1048576 (a i)) - (cl 1048576 (b i))))) rfl rfl (y_neg rfl rfl (i64_i rfl (by omega)) ⟨rfl, rfl⟩) ?_
    refine wl_v (.int .i64 (max ((cl 1048576 (a i)) - (cl 1048576 (b i))) (-((cl 1048576 (a i)) - (cl 1048576 (b i)))))) rfl rfl (y_maxR rfl rfl rfl rfl ⟨rfl, rfl⟩) ?_
    refine wl_v (.int .i64 ((costTo a b i) + (max ((cl 1048576 (a i)) - (cl 1048576 (b i))) (-((cl 1048576 (a i)) - (cl 1048576 (b i))))))) rfl rfl (y_add rfl rfl rfl (i64_i rfl (by omega)) ⟨rfl, rfl⟩) ?_
    refine wl_v (.int .i64 ((costTo a b i) + (max ((cl 1048576 (a i)) - (cl 1048576 (b i))) (-((cl 1048576 (a i)) - (cl 1048576 (b i))))))) rfl rfl (y_asg rfl rfl ⟨rfl, rfl⟩) ?_
    refine wl_nil fun F74 hF75 => ?_
    have s76 : F74 2 = .pointer (some ⟨p1, 0, none⟩) := (hF75 2).trans s68
    have s77 : F74 3 = .pointer (some ⟨p9, 0, none⟩) := (hF75 3).trans s69
    have s78 : F74 30 = undef := (hF75 30).trans s70
    have s79 : F74 6 = .int .i64 (((i : Nat) : Int)) := (hF75 6).trans s72
    have s80 : F74 5 = .int .i64 ((costTo a b i) + (max ((cl 1048576 (a i)) - (cl 1048576 (b i))) (-((cl 1048576 (a i)) - (cl 1048576 (b i)))))) := (hF75 5).trans rfl
    clear hF75
    refine in_normal ?_
    refine then_normal ?_
    refine wq_region ?_
    refine wl_v (.int .i64 (((i : Nat) : Int))) rfl rfl (y_mov rfl s79 ⟨rfl, rfl⟩) ?_
    refine wl_v (.int .i64 (((i + 1 : Nat) : Int))) rfl rfl (y_add rfl rfl rfl (i64_n (by omega) (by omega)) ⟨rfl, rfl⟩) ?_
    refine wl_v (.int .i64 (((i + 1 : Nat) : Int))) rfl rfl (y_asg rfl rfl ⟨rfl, rfl⟩) ?_
    refine wl_nil fun F81 hF82 => ?_
    have s83 : F81 2 = .pointer (some ⟨p1, 0, none⟩) := (hF82 2).trans s76
    have s84 : F81 3 = .pointer (some ⟨p9, 0, none⟩) := (hF82 3).trans s77
    have s85 : F81 30 = undef := (hF82 30).trans s78
    have s86 : F81 5 = .int .i64 ((costTo a b i) + (max ((cl 1048576 (a i)) - (cl 1048576 (b i))) (-((cl 1048576 (a i)) - (cl 1048576 (b i)))))) := (hF82 5).trans s80
    have s87 : F81 6 = .int .i64 (((i + 1 : Nat) : Int)) := (hF82 6).trans rfl
    clear hF82
    exact then_normal ⟨(16 - (i + 1)), by omega, i + 1, by omega, rfl, s83, s84, s85, s86, s87, K67, B65, B66⟩
  · replace c57 := of_decide_eq_false c57
    refine wq_exit ?_
    refine then_exit ?_
    refine then_exit ?_
    have l88 : 16 = i := by omega
    subst l88
    refine in_here ?_
    refine then_normal ?_
    refine wq_seq ?_
    refine wq_region ?_
    refine wl_v (.int .i64 (costTo a b 16)) rfl rfl (y_mov rfl s54 ⟨rfl, rfl⟩) ?_
    refine wl_v (.int .i64 (costTo a b 16)) rfl rfl (y_asg rfl rfl ⟨rfl, rfl⟩) ?_
    refine wl_nil fun F89 hF90 => ?_
    have s91 : F89 30 = undef := (hF90 30).trans s53
    have s92 : F89 4 = .int .i64 (costTo a b 16) := (hF90 4).trans rfl
    clear hF90
    refine then_normal ?_
    refine wq_ret ?_
    exact end_tmp (v := .int .i64 (costTo a b 16)) s91 rfl rfl s92 ⟨rfl, K39⟩

set_option maxHeartbeats 4000000 in
set_option maxRecDepth 100000 in
theorem iref_best (p x y : Int) (b : Nat → Int) (f : FD) (f0 f1 f2 : Value) (T_f0 : Nat → Prop) (T_f1 : Nat → Prop) (T_f2 : Nat → Prop) (w0 : World) (h_f0 : Byt w0 T_f0 f0 ((f).p0)) (h_f1 : Byt w0 T_f1 f1 ((f).p1)) (h_f2 : Byt w0 T_f2 f2 ((f).p2)) :
    Calls Try.prog 14 #[.agg #[.int .i64 ((f).W), .int .i64 ((f).H), f0, f1, f2], .int .i64 (p), .int .i64 (x), .int .i64 (y), blkV (b)] w0 fun e w' => e = .returned (.tuple #[.int .i64 ((bestF f p x y b).1), .int .i64 ((bestF f p x y b).2)]) ∧ Kept (fun _ => False) w0 w' := by
  refine calls_wq (args := [.agg #[.int .i64 ((f).W), .int .i64 ((f).H), f0, f1, f2], .int .i64 (p), .int .i64 (x), .int .i64 (y), blkV (b)]) 47 Try.func14 rfl rfl (Nat.le_of_ble_eq_true rfl) ?_
  have K0 := Kept.refl (fun _ => False) w0
  have g_f0 := Grew.refl w0 T_f0
  have g_f1 := Grew.refl w0 T_f1
  have g_f2 := Grew.refl w0 T_f2
  refine wq_seq ?_
  refine wq_region ?_
  refine wl_box_stc (vs := [.int .i64 ((f).W), .int .i64 ((f).H), f0, f1, f2]) rfl rfl rfl rfl fun p1 w2 B4 g5 k3 => ?_
  have gr6 : Grew w0 noB (onB p1) := Grew.new K0 g5
  have ap7 : Apart (onB p1) (T_f0) := Apart.new g5 (h_f0).live
  have ap8 : Apart (onB p1) (T_f1) := Apart.new g5 (h_f1).live
  have ap9 : Apart (onB p1) (T_f2) := Apart.new g5 (h_f2).live
  have B10 := h_f0.all k3 Apart.none
  have B11 := h_f1.all k3 Apart.none
  have B12 := h_f2.all k3 Apart.none
  have K13 := K0.trans k3 (fun _ _ x => x.elim)
  refine wl_box_blk rfl rfl rfl rfl fun p14 w15 e18 B16 k17 => ?_
  have g19 := onB_new (Nat.le_of_eq e18.symm)
  have gr20 : Grew w0 noB (onB p14) := Grew.new K13 g19
  have ap21 : Apart (onB p14) (T_f0) := Apart.new g19 (B10).live
  have ap22 : Apart (onB p14) (T_f1) := Apart.new g19 (B11).live
  have ap23 : Apart (onB p14) (T_f2) := Apart.new g19 (B12).live
  have ap24 : Apart (onB p14) (onB p1) := Apart.new g19 (onB_live (B4).lt)
  clear e18 g19
  have B25 := B10.all k17 Apart.none
  have B26 := B11.all k17 Apart.none
  have B27 := B12.all k17 Apart.none
  have B28 := B4.all k17 id
  have K29 := K13.trans k17 (fun _ _ x => x.elim)
  refine wl_v (.int .i64 (0)) rfl rfl (y_asg rfl rfl ⟨rfl, rfl⟩) ?_
  refine wl_v (.int .i64 (0)) rfl rfl (y_asg rfl rfl ⟨rfl, rfl⟩) ?_
  refine wl_nil fun F30 hF31 => ?_
  have s32 : F30 1 = .int .i64 (p) := (hF31 1).trans rfl
  have s33 : F30 2 = .int .i64 (x) := (hF31 2).trans rfl
  have s34 : F30 3 = .int .i64 (y) := (hF31 3).trans rfl
  have s35 : F30 47 = undef := (hF31 47).trans rfl
  have s36 : F30 5 = .pointer (some ⟨p1, 0, none⟩) := (hF31 5).trans rfl
  have s37 : F30 9 = .pointer (some ⟨p14, 0, none⟩) := (hF31 9).trans rfl
  clear hF31
  refine then_normal ?_
  refine wq_seq ?_
  refine wq_region ?_
  refine wl_v (.int .i64 (-1)) rfl rfl (y_asg rfl rfl ⟨rfl, rfl⟩) ?_
  refine wl_nil fun F38 hF39 => ?_
  have s40 : F38 1 = .int .i64 (p) := (hF39 1).trans s32
  have s41 : F38 2 = .int .i64 (x) := (hF39 2).trans s33
  have s42 : F38 3 = .int .i64 (y) := (hF39 3).trans s34
  have s43 : F38 47 = undef := (hF39 47).trans s35
  have s44 : F38 5 = .pointer (some ⟨p1, 0, none⟩) := (hF39 5).trans s36
  have s45 : F38 9 = .pointer (some ⟨p14, 0, none⟩) := (hF39 9).trans s37
  have s46 : F38 12 = .int .i64 (-1) := (hF39 12).trans rfl
  clear hF39
  refine then_normal ?_
  refine wq_seq ?_
  refine wq_region ?_
  refine wl_v (.int .i64 (-1)) rfl rfl (y_asg rfl rfl ⟨rfl, rfl⟩) ?_
  refine wl_nil fun F47 hF48 => ?_
  have s49 : F47 1 = .int .i64 (p) := (hF48 1).trans s40
  have s50 : F47 2 = .int .i64 (x) := (hF48 2).trans s41
  have s51 : F47 3 = .int .i64 (y) := (hF48 3).trans s42
  have s52 : F47 47 = undef := (hF48 47).trans s43
  have s53 : F47 5 = .pointer (some ⟨p1, 0, none⟩) := (hF48 5).trans s44
  have s54 : F47 9 = .pointer (some ⟨p14, 0, none⟩) := (hF48 9).trans s45
  have s55 : F47 12 = .int .i64 (-1) := (hF48 12).trans s46
  have s56 : F47 13 = .int .i64 (-1) := (hF48 13).trans rfl
  clear hF48
  refine then_normal ?_
  refine wq_seq ?_
  refine wq_seq ?_
  refine wq_region ?_
  refine wl_v (.int .i64 (0)) rfl rfl (y_asg rfl rfl ⟨rfl, rfl⟩) ?_
  refine wl_nil fun F57 hF58 => ?_
  have s59 : F57 1 = .int .i64 (p) := (hF58 1).trans s49
  have s60 : F57 2 = .int .i64 (x) := (hF58 2).trans s50
  have s61 : F57 3 = .int .i64 (y) := (hF58 3).trans s51
  have s62 : F57 47 = undef := (hF58 47).trans s52
  have s63 : F57 5 = .pointer (some ⟨p1, 0, none⟩) := (hF58 5).trans s53
  have s64 : F57 9 = .pointer (some ⟨p14, 0, none⟩) := (hF58 9).trans s54
  have s65 : F57 12 = .int .i64 (-1) := (hF58 12).trans s55
  have s66 : F57 13 = .int .i64 (-1) := (hF58 13).trans s56
  have s67 : F57 14 = .int .i64 (0) := (hF58 14).trans rfl
  clear hF58
  refine then_normal ?_
  refine wq_block ?_
  refine wq_loop (fun nn FF ww => ∃ (k : Nat), (k ≤ 4) ∧ (k = 0 ∨ placeF f p x y) ∧ nn = 4 - k ∧ FF 1 = .int .i64 (p) ∧ FF 2 = .int .i64 (x) ∧ FF 3 = .int .i64 (y) ∧ FF 5 = .pointer (some ⟨p1, 0, none⟩) ∧ FF 9 = .pointer (some ⟨p14, 0, none⟩) ∧ FF 47 = undef ∧ FF 12 = .int .i64 ((bestTo f p x y b k).1) ∧ FF 13 = .int .i64 ((bestTo f p x y b k).2) ∧ FF 14 = .int .i64 (((k : Nat) : Int)) ∧ Kept (fun _ => False) w0 ww ∧ Byt ww (T_f0) f0 ((f).p0) ∧ Byt ww (T_f1) f1 ((f).p1) ∧ Byt ww (T_f2) f2 ((f).p2) ∧ Stc ww p1 25 [.int .i64 ((f).W), .int .i64 ((f).H), f0, f1, f2] ∧ Blk ww p14 26 (b)) (4 - (0)) ⟨0, by omega, (Or.inl rfl), rfl, s59, s60, s61, s63, s64, s62, s65, s66, s67, K29, B25, B26, B27, B28, B16⟩ ?_
  rintro n71 F68 w69 ⟨k, i72, hI, hn71, s73, s74, s75, s76, s77, s78, s79, s80, s81, K70, B82, B83, B84, B85, B86⟩
  refine wq_seq ?_
  refine wq_seq ?_
  refine wq_region ?_
  refine wl_v (.int .i64 (((k : Nat) : Int))) rfl rfl (y_mov rfl s81 ⟨rfl, rfl⟩) ?_
  refine wl_v (.bool (decide ((((k : Nat) : Int)) < (4)))) rfl rfl (y_lss rfl rfl rfl rfl ⟨rfl, rfl⟩) ?_
  refine wl_nil fun F87 hF88 => ?_
  have s89 : F87 1 = .int .i64 (p) := (hF88 1).trans s73
  have s90 : F87 2 = .int .i64 (x) := (hF88 2).trans s74
  have s91 : F87 3 = .int .i64 (y) := (hF88 3).trans s75
  have s92 : F87 5 = .pointer (some ⟨p1, 0, none⟩) := (hF88 5).trans s76
  have s93 : F87 9 = .pointer (some ⟨p14, 0, none⟩) := (hF88 9).trans s77
  have s94 : F87 47 = undef := (hF88 47).trans s78
  have s95 : F87 12 = .int .i64 ((bestTo f p x y b k).1) := (hF88 12).trans s79
  have s96 : F87 13 = .int .i64 ((bestTo f p x y b k).2) := (hF88 13).trans s80
  have s97 : F87 14 = .int .i64 (((k : Nat) : Int)) := (hF88 14).trans s81
  have s98 : F87 19 = .bool (decide ((((k : Nat) : Int)) < (4))) := (hF88 19).trans rfl
  clear hF88
  refine then_normal ?_
  refine wq_cond s98 (fun c99 => ?_) (fun c99 => ?_)
  · replace c99 := of_decide_eq_true c99
    refine wq_skip ?_
    refine then_normal ?_
    refine wq_seq ?_
    refine wq_block ?_
    refine wq_seq ?_
    refine wq_region ?_
    refine wl_v (.agg #[.int .i64 ((f).W), .int .i64 ((f).H), f0, f1, f2]) rfl rfl (y_load_stc stcT_frame rfl s92 B85 ⟨rfl, rfl⟩) ?_
    refine wl_v (.int .i64 (p)) rfl rfl (y_mov rfl s89 ⟨rfl, rfl⟩) ?_
    refine wl_v (.int .i64 (x)) rfl rfl (y_mov rfl s90 ⟨rfl, rfl⟩) ?_
    refine wl_v (.int .i64 (y)) rfl rfl (y_mov rfl s91 ⟨rfl, rfl⟩) ?_
    refine wl_v (.int .i64 (((k : Nat) : Int))) rfl rfl (y_mov rfl s97 ⟨rfl, rfl⟩) ?_
    refine wl_call (R := fun v_ w_ => v_ = .tuple #[blkV (predB (f) (p) (x) (y) (((k : Nat) : Int))), .int .i64 (predE (f) (p) (x) (y) (((k : Nat) : Int)))] ∧ Kept (fun _ => False) w69 w_) rfl rfl (y_cs rfl rfl rfl (fun _ _ => by kernel_rfl) (ev_func _) (vsC rfl (vsC rfl (vsC rfl (vsC rfl (vsC rfl vsN))))) (iref_predict (p) (x) (y) (((k : Nat) : Int)) (f) (f0) (f1) (f2) (T_f0) (T_f1) (T_f2) _  B82 B83 B84 ) (fun e_ w_ h_ => ⟨_, h_.1, rfl, h_.2⟩)) ?_
    rintro _ w100 ⟨rfl, k101⟩
    have B102 := B82.all k101 Apart.none
    have B103 := B83.all k101 Apart.none
    have B104 := B84.all k101 Apart.none
    have B105 := B85.all k101 id
    have B106 := B86.all k101 id
    have K107 := K70.trans k101 (fun _ _ x => x.elim)
    refine wl_v (.tuple #[blkV (predB (f) (p) (x) (y) (((k : Nat) : Int))), .int .i64 (predE (f) (p) (x) (y) (((k : Nat) : Int)))]) rfl rfl (y_mov rfl rfl ⟨rfl, rfl⟩) ?_
    refine wl_v (blkV (predB (f) (p) (x) (y) (((k : Nat) : Int)))) rfl rfl (y_ext rfl rfl rfl ⟨rfl, rfl⟩) ?_
    refine wl_v (.int .i64 (predE (f) (p) (x) (y) (((k : Nat) : Int)))) rfl rfl (y_ext rfl rfl rfl ⟨rfl, rfl⟩) ?_
    refine wl_alloc_blk rfl rfl rfl blkT_arr.2.2 fun p108 w109 e112 B110 k111 => ?_
    have g113 := onB_new (Nat.le_of_eq e112.symm)
    have gr114 : Grew w0 noB (onB p108) := Grew.new K107 g113
    have ap115 : Apart (onB p108) (T_f0) := Apart.new g113 (B102).live
    have ap116 : Apart (onB p108) (T_f1) := Apart.new g113 (B103).live
    have ap117 : Apart (onB p108) (T_f2) := Apart.new g113 (B104).live
    have ap118 : Apart (onB p108) (onB p1) := Apart.new g113 (onB_live (B105).lt)
    have ap119 : Apart (onB p108) (onB p14) := Apart.new g113 (onB_live (B106).lt)
    clear e112 g113
    have B120 := B102.all k111 Apart.none
    have B121 := B103.all k111 Apart.none
    have B122 := B104.all k111 Apart.none
    have B123 := B105.all k111 id
    have B124 := B106.all k111 id
    have K125 := K107.trans k111 (fun _ _ x => x.elim)
    refine wl_store_blk blkT_arr rfl rfl rfl rfl rfl B110 fun w126 B127 k128 => ?_
    have B129 := B120.all k128 (fun i h x => (((ap115).symm) i h x))
    have B130 := B121.all k128 (fun i h x => (((ap116).symm) i h x))
    have B131 := B122.all k128 (fun i h x => (((ap117).symm) i h x))
    have B132 := B123.all k128 (fun x => (((ap118).symm) p1 rfl x))
    have B133 := B124.all k128 (fun x => (((ap119).symm) p14 rfl x))
    have K134 := K125.trans k128 (Grew.ok (S := fun _ => False) gr114 noB_le)
    refine wl_v (.int .i64 (predE (f) (p) (x) (y) (((k : Nat) : Int)))) rfl rfl (y_asg rfl rfl ⟨rfl, rfl⟩) ?_
    refine wl_nil fun F135 hF136 => ?_
    have s137 : F135 1 = .int .i64 (p) := (hF136 1).trans s89
    have s138 : F135 2 = .int .i64 (x) := (hF136 2).trans s90
    have s139 : F135 3 = .int .i64 (y) := (hF136 3).trans s91
    have s140 : F135 5 = .pointer (some ⟨p1, 0, none⟩) := (hF136 5).trans s92
    have s141 : F135 9 = .pointer (some ⟨p14, 0, none⟩) := (hF136 9).trans s93
    have s142 : F135 47 = undef := (hF136 47).trans s94
    have s143 : F135 12 = .int .i64 ((bestTo f p x y b k).1) := (hF136 12).trans s95
    have s144 : F135 13 = .int .i64 ((bestTo f p x y b k).2) := (hF136 13).trans s96
    have s145 : F135 14 = .int .i64 (((k : Nat) : Int)) := (hF136 14).trans s97
    have s146 : F135 15 = .pointer (some ⟨p108, 0, none⟩) := (hF136 15).trans rfl
    have s147 : F135 16 = .int .i64 (predE (f) (p) (x) (y) (((k : Nat) : Int))) := (hF136 16).trans rfl
    clear hF136
    refine then_normal ?_
    refine wq_seq ?_
    refine wq_seq ?_
    refine wq_region ?_
    refine wl_v (.int .i64 (predE (f) (p) (x) (y) (((k : Nat) : Int)))) rfl rfl (y_mov rfl s147 ⟨rfl, rfl⟩) ?_
    refine wl_v (.bool (decide ((predE (f) (p) (x) (y) (((k : Nat) : Int))) ≠ (0)))) rfl rfl (y_neqI rfl rfl rfl rfl ⟨rfl, rfl⟩) ?_
    refine wl_nil fun F148 hF149 => ?_
    have s150 : F148 1 = .int .i64 (p) := (hF149 1).trans s137
    have s151 : F148 2 = .int .i64 (x) := (hF149 2).trans s138
    have s152 : F148 3 = .int .i64 (y) := (hF149 3).trans s139
    have s153 : F148 5 = .pointer (some ⟨p1, 0, none⟩) := (hF149 5).trans s140
    have s154 : F148 9 = .pointer (some ⟨p14, 0, none⟩) := (hF149 9).trans s141
    have s155 : F148 47 = undef := (hF149 47).trans s142
    have s156 : F148 12 = .int .i64 ((bestTo f p x y b k).1) := (hF149 12).trans s143
    have s157 : F148 13 = .int .i64 ((bestTo f p x y b k).2) := (hF149 13).trans s144
    have s158 : F148 14 = .int .i64 (((k : Nat) : Int)) := (hF149 14).trans s145
    have s159 : F148 15 = .pointer (some ⟨p108, 0, none⟩) := (hF149 15).trans s146
    have s160 : F148 32 = .bool (decide ((predE (f) (p) (x) (y) (((k : Nat) : Int))) ≠ (0))) := (hF149 32).trans rfl
    clear hF149
    refine then_normal ?_
    refine wq_cond s160 (fun c161 => ?_) (fun c161 => ?_)
    · replace c161 := of_decide_eq_true c161
      refine wq_seq ?_
      have hno : ¬ placeF f p x y := fun h => absurd ((predE_iff (mode := (k : Nat)) (by omega)).2 h) (by assumption)
      refine wq_region ?_
      refine wl_v (.int .i64 (-1)) rfl rfl (y_asg rfl rfl ⟨rfl, rfl⟩) ?_
      refine wl_v (.int .i64 (-1)) rfl rfl (y_asg rfl rfl ⟨rfl, rfl⟩) ?_
      refine wl_nil fun F162 hF163 => ?_
      have s164 : F162 47 = undef := (hF163 47).trans s155
      have s165 : F162 10 = .int .i64 (-1) := (hF163 10).trans rfl
      have s166 : F162 11 = .int .i64 (-1) := (hF163 11).trans rfl
      clear hF163
      refine then_normal ?_
      refine wq_ret ?_
      refine then_ret ?_
      refine in_ret ?_
      refine then_ret ?_
      refine then_ret ?_
      refine in_ret ?_
      refine then_ret ?_
      exact end_2 s164 rfl (res_tmp (v := .int .i64 (-1)) rfl s165) (res_tmp (v := .int .i64 (-1)) rfl s166) ⟨(by first | rw [best_no hno] | rw [best_yes (hI.resolve_left (by decide))]), K134⟩
    · replace c161 := of_decide_eq_false c161
      refine wq_skip ?_
      refine then_normal ?_
      refine wq_seq ?_
      have hpl : placeF f p x y := (predE_iff (mode := (k : Nat)) (by omega)).1 (by first | assumption | (apply Decidable.byContradiction; assumption))
      refine wq_region ?_
      refine wl_v (blkV (predB (f) (p) (x) (y) (((k : Nat) : Int)))) rfl rfl (y_load_blk blkT_arr rfl s159 B127 ⟨rfl, rfl⟩) ?_
      refine wl_v (blkV (b)) rfl rfl (y_load_blk blkT_arr rfl s154 B133 ⟨rfl, rfl⟩) ?_
      refine wl_call (R := fun v_ w_ => v_ = .int .i64 (costF (predB (f) (p) (x) (y) (((k : Nat) : Int))) (b)) ∧ Kept (fun _ => False) w126 w_) rfl rfl (y_cs rfl rfl rfl (fun _ _ => by kernel_rfl) (ev_func _) (vsC rfl (vsC rfl vsN)) (iref_cost (predB (f) (p) (x) (y) (((k : Nat) : Int))) (b)  _   ) (fun e_ w_ h_ => ⟨_, h_.1, rfl, h_.2⟩)) ?_
      rintro _ w167 ⟨rfl, k168⟩
      have B169 := B129.all k168 Apart.none
      have B170 := B130.all k168 Apart.none
      have B171 := B131.all k168 Apart.none
      have B172 := B132.all k168 id
      have B173 := B133.all k168 id
      have B174 := B127.all k168 id
      have K175 := K134.trans k168 (fun _ _ x => x.elim)
      refine wl_v (.int .i64 (costF (predB (f) (p) (x) (y) (((k : Nat) : Int))) (b))) rfl rfl (y_asg rfl rfl ⟨rfl, rfl⟩) ?_
      refine wl_nil fun F176 hF177 => ?_
      have s178 : F176 1 = .int .i64 (p) := (hF177 1).trans s150
      have s179 : F176 2 = .int .i64 (x) := (hF177 2).trans s151
      have s180 : F176 3 = .int .i64 (y) := (hF177 3).trans s152
      have s181 : F176 5 = .pointer (some ⟨p1, 0, none⟩) := (hF177 5).trans s153
      have s182 : F176 9 = .pointer (some ⟨p14, 0, none⟩) := (hF177 9).trans s154
      have s183 : F176 47 = undef := (hF177 47).trans s155
      have s184 : F176 12 = .int .i64 ((bestTo f p x y b k).1) := (hF177 12).trans s156
      have s185 : F176 13 = .int .i64 ((bestTo f p x y b k).2) := (hF177 13).trans s157
      have s186 : F176 14 = .int .i64 (((k : Nat) : Int)) := (hF177 14).trans s158
      have s187 : F176 17 = .int .i64 (costF (predB (f) (p) (x) (y) (((k : Nat) : Int))) (b)) := (hF177 17).trans rfl
      clear hF177
      refine then_normal ?_
      refine wq_seq ?_
      by_cases d188 : ((bestTo f p x y b k).1) < (0)
      · skip
        refine wq_region ?_
        refine wl_v (.int .i64 ((bestTo f p x y b k).1)) rfl rfl (y_mov rfl s184 ⟨rfl, rfl⟩) ?_
        refine wl_v (.bool true) rfl rfl (y_lss rfl rfl rfl (decide_eq_true d188) ⟨rfl, rfl⟩) ?_
        refine wl_v (.bool true) rfl rfl (y_mov rfl rfl ⟨rfl, rfl⟩) ?_
        refine wl_unless 2 false 38 rfl rfl rfl (Or.inl rfl) rfl ?_
        refine wl_unless 2 false 38 rfl rfl rfl (Or.inl rfl) rfl ?_
        refine wl_unless 2 false 38 rfl rfl rfl (Or.inl rfl) rfl ?_
        refine wl_v (.bool true) rfl rfl (y_pickT rfl rfl rfl ⟨rfl, rfl⟩) ?_
        refine wl_nil fun F189 hF190 => ?_
        have s191 : F189 1 = .int .i64 (p) := (hF190 1).trans s178
        have s192 : F189 2 = .int .i64 (x) := (hF190 2).trans s179
        have s193 : F189 3 = .int .i64 (y) := (hF190 3).trans s180
        have s194 : F189 5 = .pointer (some ⟨p1, 0, none⟩) := (hF190 5).trans s181
        have s195 : F189 9 = .pointer (some ⟨p14, 0, none⟩) := (hF190 9).trans s182
        have s196 : F189 47 = undef := (hF190 47).trans s183
        have s197 : F189 12 = .int .i64 ((bestTo f p x y b k).1) := (hF190 12).trans s184
        have s198 : F189 13 = .int .i64 ((bestTo f p x y b k).2) := (hF190 13).trans s185
        have s199 : F189 14 = .int .i64 (((k : Nat) : Int)) := (hF190 14).trans s186
        have s200 : F189 17 = .int .i64 (costF (predB (f) (p) (x) (y) (((k : Nat) : Int))) (b)) := (hF190 17).trans s187
        have s201 : F189 42 = .bool true := (hF190 42).trans rfl
        clear hF190
        refine then_normal ?_
        refine wq_cond (t := true) s201 (fun _ => ?_) (fun e => by cases e)
        refine wq_seq ?_
        refine wq_region ?_
        refine wl_v (.int .i64 (((k : Nat) : Int))) rfl rfl (y_mov rfl s199 ⟨rfl, rfl⟩) ?_
        refine wl_v (.int .i64 (((k : Nat) : Int))) rfl rfl (y_asg rfl rfl ⟨rfl, rfl⟩) ?_
        refine wl_nil fun F202 hF203 => ?_
        have s204 : F202 1 = .int .i64 (p) := (hF203 1).trans s191
        have s205 : F202 2 = .int .i64 (x) := (hF203 2).trans s192
        have s206 : F202 3 = .int .i64 (y) := (hF203 3).trans s193
        have s207 : F202 5 = .pointer (some ⟨p1, 0, none⟩) := (hF203 5).trans s194
        have s208 : F202 9 = .pointer (some ⟨p14, 0, none⟩) := (hF203 9).trans s195
        have s209 : F202 47 = undef := (hF203 47).trans s196
        have s210 : F202 14 = .int .i64 (((k : Nat) : Int)) := (hF203 14).trans s199
        have s211 : F202 17 = .int .i64 (costF (predB (f) (p) (x) (y) (((k : Nat) : Int))) (b)) := (hF203 17).trans s200
        have s212 : F202 12 = .int .i64 (((k : Nat) : Int)) := (hF203 12).trans rfl
        clear hF203
        refine then_normal ?_
        refine wq_region ?_
        refine wl_v (.int .i64 (costF (predB (f) (p) (x) (y) (((k : Nat) : Int))) (b))) rfl rfl (y_mov rfl s211 ⟨rfl, rfl⟩) ?_
        refine wl_v (.int .i64 (costF (predB (f) (p) (x) (y) (((k : Nat) : Int))) (b))) rfl rfl (y_asg rfl rfl ⟨rfl, rfl⟩) ?_
        refine wl_nil fun F213 hF214 => ?_
        have s215 : F213 1 = .int .i64 (p) := (hF214 1).trans s204
        have s216 : F213 2 = .int .i64 (x) := (hF214 2).trans s205
        have s217 : F213 3 = .int .i64 (y) := (hF214 3).trans s206
        have s218 : F213 5 = .pointer (some ⟨p1, 0, none⟩) := (hF214 5).trans s207
        have s219 : F213 9 = .pointer (some ⟨p14, 0, none⟩) := (hF214 9).trans s208
        have s220 : F213 47 = undef := (hF214 47).trans s209
        have s221 : F213 14 = .int .i64 (((k : Nat) : Int)) := (hF214 14).trans s210
        have s222 : F213 12 = .int .i64 (((k : Nat) : Int)) := (hF214 12).trans s212
        have s223 : F213 13 = .int .i64 (costF (predB (f) (p) (x) (y) (((k : Nat) : Int))) (b)) := (hF214 13).trans rfl
        clear hF214
        refine in_normal ?_
        refine then_normal ?_
        refine wq_region ?_
        refine wl_v (.int .i64 (((k : Nat) : Int))) rfl rfl (y_mov rfl s221 ⟨rfl, rfl⟩) ?_
        refine wl_v (.int .i64 (((k + 1 : Nat) : Int))) rfl rfl (y_add rfl rfl rfl (i64_n (by omega) (by omega)) ⟨rfl, rfl⟩) ?_
        refine wl_v (.int .i64 (((k + 1 : Nat) : Int))) rfl rfl (y_asg rfl rfl ⟨rfl, rfl⟩) ?_
        refine wl_nil fun F224 hF225 => ?_
        have s226 : F224 1 = .int .i64 (p) := (hF225 1).trans s215
        have s227 : F224 2 = .int .i64 (x) := (hF225 2).trans s216
        have s228 : F224 3 = .int .i64 (y) := (hF225 3).trans s217
        have s229 : F224 5 = .pointer (some ⟨p1, 0, none⟩) := (hF225 5).trans s218
        have s230 : F224 9 = .pointer (some ⟨p14, 0, none⟩) := (hF225 9).trans s219
        have s231 : F224 47 = undef := (hF225 47).trans s220
        have s232 : F224 12 = .int .i64 (((k : Nat) : Int)) := (hF225 12).trans s222
        have s233 : F224 13 = .int .i64 (costF (predB (f) (p) (x) (y) (((k : Nat) : Int))) (b)) := (hF225 13).trans s223
        have s234 : F224 14 = .int .i64 (((k + 1 : Nat) : Int)) := (hF225 14).trans rfl
        clear hF225
        exact then_normal ⟨(4 - (k + 1)), by omega, k + 1, by omega, (Or.inr hpl), rfl, s226, s227, s228, s229, s230, s231, (by first | (rw [best_take (Or.inl (by assumption))]; exact s232) | (rw [best_take (Or.inr (by assumption))]; exact s232) | (rw [best_keep (by rintro (h | h) <;> exact absurd h (by assumption))]; exact s232)), (by first | (rw [best_take (Or.inl (by assumption))]; exact s233) | (rw [best_take (Or.inr (by assumption))]; exact s233) | (rw [best_keep (by rintro (h | h) <;> exact absurd h (by assumption))]; exact s233)), s234, K175, B169, B170, B171, B172, B173⟩
      · skip
        refine wq_region ?_
        refine wl_v (.int .i64 ((bestTo f p x y b k).1)) rfl rfl (y_mov rfl s184 ⟨rfl, rfl⟩) ?_
        refine wl_v (.bool false) rfl rfl (y_lss rfl rfl rfl (decide_eq_false d188) ⟨rfl, rfl⟩) ?_
        refine wl_v (.bool false) rfl rfl (y_mov rfl rfl ⟨rfl, rfl⟩) ?_
        refine wl_vw (.int .i64 (costF (predB (f) (p) (x) (y) (((k : Nat) : Int))) (b))) 2 false 38 rfl rfl rfl rfl rfl (y_mov rfl s187 ⟨rfl, rfl⟩) ?_
        refine wl_vw (.int .i64 ((bestTo f p x y b k).2)) 2 false 38 rfl rfl rfl rfl rfl (y_mov rfl s185 ⟨rfl, rfl⟩) ?_
        refine wl_vw (.bool (decide ((costF (predB (f) (p) (x) (y) (((k : Nat) : Int))) (b)) < ((bestTo f p x y b k).2)))) 2 false 38 rfl rfl rfl rfl rfl (y_lss rfl rfl rfl rfl ⟨rfl, rfl⟩) ?_
        refine wl_v (.bool (decide ((costF (predB (f) (p) (x) (y) (((k : Nat) : Int))) (b)) < ((bestTo f p x y b k).2)))) rfl rfl (y_pickF rfl rfl rfl ⟨rfl, rfl⟩) ?_
        refine wl_nil fun F235 hF236 => ?_
        have s237 : F235 1 = .int .i64 (p) := (hF236 1).trans s178
        have s238 : F235 2 = .int .i64 (x) := (hF236 2).trans s179
        have s239 : F235 3 = .int .i64 (y) := (hF236 3).trans s180
        have s240 : F235 5 = .pointer (some ⟨p1, 0, none⟩) := (hF236 5).trans s181
        have s241 : F235 9 = .pointer (some ⟨p14, 0, none⟩) := (hF236 9).trans s182
        have s242 : F235 47 = undef := (hF236 47).trans s183
        have s243 : F235 12 = .int .i64 ((bestTo f p x y b k).1) := (hF236 12).trans s184
        have s244 : F235 13 = .int .i64 ((bestTo f p x y b k).2) := (hF236 13).trans s185
        have s245 : F235 14 = .int .i64 (((k : Nat) : Int)) := (hF236 14).trans s186
        have s246 : F235 17 = .int .i64 (costF (predB (f) (p) (x) (y) (((k : Nat) : Int))) (b)) := (hF236 17).trans s187
        have s247 : F235 42 = .bool (decide ((costF (predB (f) (p) (x) (y) (((k : Nat) : Int))) (b)) < ((bestTo f p x y b k).2))) := (hF236 42).trans rfl
        clear hF236
        refine then_normal ?_
        refine wq_cond s247 (fun c248 => ?_) (fun c248 => ?_)
        · replace c248 := of_decide_eq_true c248
          refine wq_seq ?_
          refine wq_region ?_
          refine wl_v (.int .i64 (((k : Nat) : Int))) rfl rfl (y_mov rfl s245 ⟨rfl, rfl⟩) ?_
          refine wl_v (.int .i64 (((k : Nat) : Int))) rfl rfl (y_asg rfl rfl ⟨rfl, rfl⟩) ?_
          refine wl_nil fun F249 hF250 => ?_
          have s251 : F249 1 = .int .i64 (p) := (hF250 1).trans s237
          have s252 : F249 2 = .int .i64 (x) := (hF250 2).trans s238
          have s253 : F249 3 = .int .i64 (y) := (hF250 3).trans s239
          have s254 : F249 5 = .pointer (some ⟨p1, 0, none⟩) := (hF250 5).trans s240
          have s255 : F249 9 = .pointer (some ⟨p14, 0, none⟩) := (hF250 9).trans s241
          have s256 : F249 47 = undef := (hF250 47).trans s242
          have s257 : F249 14 = .int .i64 (((k : Nat) : Int)) := (hF250 14).trans s245
          have s258 : F249 17 = .int .i64 (costF (predB (f) (p) (x) (y) (((k : Nat) : Int))) (b)) := (hF250 17).trans s246
          have s259 : F249 12 = .int .i64 (((k : Nat) : Int)) := (hF250 12).trans rfl
          clear hF250
          refine then_normal ?_
          refine wq_region ?_
          refine wl_v (.int .i64 (costF (predB (f) (p) (x) (y) (((k : Nat) : Int))) (b))) rfl rfl (y_mov rfl s258 ⟨rfl, rfl⟩) ?_
          refine wl_v (.int .i64 (costF (predB (f) (p) (x) (y) (((k : Nat) : Int))) (b))) rfl rfl (y_asg rfl rfl ⟨rfl, rfl⟩) ?_
          refine wl_nil fun F260 hF261 => ?_
          have s262 : F260 1 = .int .i64 (p) := (hF261 1).trans s251
          have s263 : F260 2 = .int .i64 (x) := (hF261 2).trans s252
          have s264 : F260 3 = .int .i64 (y) := (hF261 3).trans s253
          have s265 : F260 5 = .pointer (some ⟨p1, 0, none⟩) := (hF261 5).trans s254
          have s266 : F260 9 = .pointer (some ⟨p14, 0, none⟩) := (hF261 9).trans s255
          have s267 : F260 47 = undef := (hF261 47).trans s256
          have s268 : F260 14 = .int .i64 (((k : Nat) : Int)) := (hF261 14).trans s257
          have s269 : F260 12 = .int .i64 (((k : Nat) : Int)) := (hF261 12).trans s259
          have s270 : F260 13 = .int .i64 (costF (predB (f) (p) (x) (y) (((k : Nat) : Int))) (b)) := (hF261 13).trans rfl
          clear hF261
          refine in_normal ?_
          refine then_normal ?_
          refine wq_region ?_
          refine wl_v (.int .i64 (((k : Nat) : Int))) rfl rfl (y_mov rfl s268 ⟨rfl, rfl⟩) ?_
          refine wl_v (.int .i64 (((k + 1 : Nat) : Int))) rfl rfl (y_add rfl rfl rfl (i64_n (by omega) (by omega)) ⟨rfl, rfl⟩) ?_
          refine wl_v (.int .i64 (((k + 1 : Nat) : Int))) rfl rfl (y_asg rfl rfl ⟨rfl, rfl⟩) ?_
          refine wl_nil fun F271 hF272 => ?_
          have s273 : F271 1 = .int .i64 (p) := (hF272 1).trans s262
          have s274 : F271 2 = .int .i64 (x) := (hF272 2).trans s263
          have s275 : F271 3 = .int .i64 (y) := (hF272 3).trans s264
          have s276 : F271 5 = .pointer (some ⟨p1, 0, none⟩) := (hF272 5).trans s265
          have s277 : F271 9 = .pointer (some ⟨p14, 0, none⟩) := (hF272 9).trans s266
          have s278 : F271 47 = undef := (hF272 47).trans s267
          have s279 : F271 12 = .int .i64 (((k : Nat) : Int)) := (hF272 12).trans s269
          have s280 : F271 13 = .int .i64 (costF (predB (f) (p) (x) (y) (((k : Nat) : Int))) (b)) := (hF272 13).trans s270
          have s281 : F271 14 = .int .i64 (((k + 1 : Nat) : Int)) := (hF272 14).trans rfl
          clear hF272
          exact then_normal ⟨(4 - (k + 1)), by omega, k + 1, by omega, (Or.inr hpl), rfl, s273, s274, s275, s276, s277, s278, (by first | (rw [best_take (Or.inl (by assumption))]; exact s279) | (rw [best_take (Or.inr (by assumption))]; exact s279) | (rw [best_keep (by rintro (h | h) <;> exact absurd h (by assumption))]; exact s279)), (by first | (rw [best_take (Or.inl (by assumption))]; exact s280) | (rw [best_take (Or.inr (by assumption))]; exact s280) | (rw [best_keep (by rintro (h | h) <;> exact absurd h (by assumption))]; exact s280)), s281, K175, B169, B170, B171, B172, B173⟩
        · replace c248 := of_decide_eq_false c248
          refine wq_skip ?_
          refine in_normal ?_
          refine then_normal ?_
          refine wq_region ?_
          refine wl_v (.int .i64 (((k : Nat) : Int))) rfl rfl (y_mov rfl s245 ⟨rfl, rfl⟩) ?_
          refine wl_v (.int .i64 (((k + 1 : Nat) : Int))) rfl rfl (y_add rfl rfl rfl (i64_n (by omega) (by omega)) ⟨rfl, rfl⟩) ?_
          refine wl_v (.int .i64 (((k + 1 : Nat) : Int))) rfl rfl (y_asg rfl rfl ⟨rfl, rfl⟩) ?_
          refine wl_nil fun F282 hF283 => ?_
          have s284 : F282 1 = .int .i64 (p) := (hF283 1).trans s237
          have s285 : F282 2 = .int .i64 (x) := (hF283 2).trans s238
          have s286 : F282 3 = .int .i64 (y) := (hF283 3).trans s239
          have s287 : F282 5 = .pointer (some ⟨p1, 0, none⟩) := (hF283 5).trans s240
          have s288 : F282 9 = .pointer (some ⟨p14, 0, none⟩) := (hF283 9).trans s241
          have s289 : F282 47 = undef := (hF283 47).trans s242
          have s290 : F282 12 = .int .i64 ((bestTo f p x y b k).1) := (hF283 12).trans s243
          have s291 : F282 13 = .int .i64 ((bestTo f p x y b k).2) := (hF283 13).trans s244
          have s292 : F282 14 = .int .i64 (((k + 1 : Nat) : Int)) := (hF283 14).trans rfl
          clear hF283
          exact then_normal ⟨(4 - (k + 1)), by omega, k + 1, by omega, (Or.inr hpl), rfl, s284, s285, s286, s287, s288, s289, (by first | (rw [best_take (Or.inl (by assumption))]; exact s290) | (rw [best_take (Or.inr (by assumption))]; exact s290) | (rw [best_keep (by rintro (h | h) <;> exact absurd h (by assumption))]; exact s290)), (by first | (rw [best_take (Or.inl (by assumption))]; exact s291) | (rw [best_take (Or.inr (by assumption))]; exact s291) | (rw [best_keep (by rintro (h | h) <;> exact absurd h (by assumption))]; exact s291)), s292, K175, B169, B170, B171, B172, B173⟩
  · replace c99 := of_decide_eq_false c99
    refine wq_exit ?_
    refine then_exit ?_
    refine then_exit ?_
    have l293 : 4 = k := by omega
    subst l293
    refine in_here ?_
    refine then_normal ?_
    refine wq_seq ?_
    refine wq_region ?_
    refine wl_v (.int .i64 ((bestTo f p x y b 4).1)) rfl rfl (y_mov rfl s95 ⟨rfl, rfl⟩) ?_
    refine wl_v (.int .i64 ((bestTo f p x y b 4).2)) rfl rfl (y_mov rfl s96 ⟨rfl, rfl⟩) ?_
    refine wl_v (.int .i64 ((bestTo f p x y b 4).1)) rfl rfl (y_asg rfl rfl ⟨rfl, rfl⟩) ?_
    refine wl_v (.int .i64 ((bestTo f p x y b 4).2)) rfl rfl (y_asg rfl rfl ⟨rfl, rfl⟩) ?_
    refine wl_nil fun F294 hF295 => ?_
    have s296 : F294 47 = undef := (hF295 47).trans s94
    have s297 : F294 10 = .int .i64 ((bestTo f p x y b 4).1) := (hF295 10).trans rfl
    have s298 : F294 11 = .int .i64 ((bestTo f p x y b 4).2) := (hF295 11).trans rfl
    clear hF295
    refine then_normal ?_
    refine wq_ret ?_
    exact end_2 s296 rfl (res_tmp (v := .int .i64 ((bestTo f p x y b 4).1)) rfl s297) (res_tmp (v := .int .i64 ((bestTo f p x y b 4).2)) rfl s298) ⟨(by first | rw [best_no hno] | rw [best_yes (hI.resolve_left (by decide))]), K70⟩
end Go.Proofs.Ytdggilbgjijfmaa
