/- What IntraSamples reaches of my texts, part 3. -/
import Derived.Test.YtdggilbgjijfmaaIntraSamplesB
namespace Go.Proofs.Ytdggilbgjijfmaa
open Go.RowKit

theorem arrT_edge : ArrT 56 4 := ArrT.of Try.underlying56 (by kernel_rfl)
theorem stcT_fn4 : StcT Try.prog 53 4 := ⟨_, Try.underlying53, rfl, by kernel_rfl⟩
theorem retB {a b : Bool} (h : a = b) : Ending.returned (.bool a) = .returned (.bool b) := by rw [h]
theorem Arr.first {w : World} {p n : Nat} {t : TypeId} {b c : Nat → Int} (h : Arr w p t n b) : Arr w p t n (upto 0 b c) := by rw [upto_zero]; exact h
theorem Arr.next {w : World} {p n : Nat} {t : TypeId} {b c : Nat → Int} {k : Nat} {x : Int} (h : Arr w p t n (upd (upto k b c) k x)) (e : x = c k) : Arr w p t n (upto (k + 1) b c) := by rw [← upto_set, ← e]; exact h
theorem upd_twice (b : Nat → Int) (k : Nat) (x y : Int) : upd (upd b k x) k y = upd b k y := by funext i; unfold upd; split <;> rfl
theorem Arr.next2 {w : World} {p n : Nat} {t : TypeId} {b c : Nat → Int} {k : Nat} {x y : Int} (h : Arr w p t n (upd (upd (upto k b c) k x) k y)) (e : y = c k) : Arr w p t n (upto (k + 1) b c) := by rw [upd_twice] at h; exact h.next e
theorem Arr.last {w : World} {p n : Nat} {t : TypeId} {b c : Nat → Int} (h : Arr w p t n (upto n b c)) : Arr w p t n c := h.congr (fun i hi => by simp [upto, hi])

set_option maxHeartbeats 4000000 in
set_option maxRecDepth 100000 in
theorem is_place (n : Int) (w0 : World) :
    Calls Try.prog 20 #[.int .i64 (n)] w0 fun e w' => e = .returned (.bool (decide (0 ≤ n ∧ n ≤ 64))) ∧ Kept (fun _ => False) w0 w' := by
  refine calls_wq (args := [.int .i64 (n)]) 9 Try.func20 rfl rfl (Nat.le_of_ble_eq_true rfl) ?_
  have K0 := Kept.refl (fun _ => False) w0
  refine wq_seq ?_
  refine wq_region ?_
  refine wl_v (.bool false) rfl rfl (y_asg rfl rfl ⟨rfl, rfl⟩) ?_
  refine wl_nil fun F1 hF2 => ?_
  have s3 : F1 0 = .int .i64 (n) := (hF2 0).trans rfl
  have s4 : F1 9 = undef := (hF2 9).trans rfl
  clear hF2
  refine then_normal ?_
  refine wq_seq ?_
  by_cases d5 : (0) ≤ (n)
  · skip
    refine wq_region ?_
    refine wl_v (.int .i64 (n)) rfl rfl (y_mov rfl s3 ⟨rfl, rfl⟩) ?_
    refine wl_v (.bool true) rfl rfl (y_geq rfl rfl rfl (decide_eq_true d5) ⟨rfl, rfl⟩) ?_
    refine wl_v (.bool true) rfl rfl (y_mov rfl rfl ⟨rfl, rfl⟩) ?_
    refine wl_vw (.int .i64 (n)) 2 true 5 rfl rfl rfl rfl rfl (y_mov rfl s3 ⟨rfl, rfl⟩) ?_
    refine wl_vw (.bool (decide ((n) ≤ (64)))) 2 true 5 rfl rfl rfl rfl rfl (y_leq rfl rfl rfl rfl ⟨rfl, rfl⟩) ?_
    refine wl_v (.bool (decide ((n) ≤ (64)))) rfl rfl (y_pickT rfl rfl rfl ⟨rfl, rfl⟩) ?_
    refine wl_v (.bool (decide ((n) ≤ (64)))) rfl rfl (y_asg rfl rfl ⟨rfl, rfl⟩) ?_
    refine wl_nil fun F6 hF7 => ?_
    have s8 : F6 9 = undef := (hF7 9).trans s4
    have s9 : F6 2 = .bool (decide ((n) ≤ (64))) := (hF7 2).trans rfl
    clear hF7
    refine then_normal ?_
    refine wq_ret ?_
    exact end_tmp (v := .bool (decide ((n) ≤ (64)))) s8 rfl rfl s9 ⟨(retB (by first | exact (decide_eq_true (by omega)).symm | exact (decide_eq_false (by omega)).symm | exact decide_eq_decide.2 (by omega))), K0⟩
  · skip
    refine wq_region ?_
    refine wl_v (.int .i64 (n)) rfl rfl (y_mov rfl s3 ⟨rfl, rfl⟩) ?_
    refine wl_v (.bool false) rfl rfl (y_geq rfl rfl rfl (decide_eq_false d5) ⟨rfl, rfl⟩) ?_
    refine wl_v (.bool false) rfl rfl (y_mov rfl rfl ⟨rfl, rfl⟩) ?_
    refine wl_unless 2 true 5 rfl rfl rfl (Or.inl rfl) rfl ?_
    refine wl_unless 2 true 5 rfl rfl rfl (Or.inl rfl) rfl ?_
    refine wl_v (.bool false) rfl rfl (y_pickF rfl rfl rfl ⟨rfl, rfl⟩) ?_
    refine wl_v (.bool false) rfl rfl (y_asg rfl rfl ⟨rfl, rfl⟩) ?_
    refine wl_nil fun F10 hF11 => ?_
    have s12 : F10 9 = undef := (hF11 9).trans s4
    have s13 : F10 2 = .bool false := (hF11 2).trans rfl
    clear hF11
    refine then_normal ?_
    refine wq_ret ?_
    exact end_tmp (v := .bool false) s12 rfl rfl s13 ⟨(retB (by first | exact (decide_eq_true (by omega)).symm | exact (decide_eq_false (by omega)).symm | exact decide_eq_decide.2 (by omega))), K0⟩

set_option maxHeartbeats 4000000 in
set_option maxRecDepth 100000 in
theorem is_clamped (n : Int) (w0 : World) :
    Calls Try.prog 28 #[.int .i64 (n)] w0 fun e w' => e = .returned (.int .i64 (cl 1048576 n)) ∧ Kept (fun _ => False) w0 w' := by
  refine calls_wq (args := [.int .i64 (n)]) 6 Try.func28 rfl rfl (Nat.le_of_ble_eq_true rfl) ?_
  have K0 := Kept.refl (fun _ => False) w0
  refine wq_seq ?_
  refine wq_region ?_
  refine wl_v (.int .i64 (0)) rfl rfl (y_asg rfl rfl ⟨rfl, rfl⟩) ?_
  refine wl_nil fun F1 hF2 => ?_
  have s3 : F1 0 = .int .i64 (n) := (hF2 0).trans rfl
  have s4 : F1 6 = undef := (hF2 6).trans rfl
  clear hF2
  refine then_normal ?_
  refine wq_seq ?_
  refine wq_region ?_
  refine wl_v (.int .i64 (n)) rfl rfl (y_mov rfl s3 ⟨rfl, rfl⟩) ?_
  refine wl_v (.int .i64 (min (n) (1048576))) rfl rfl (y_minR rfl rfl rfl rfl ⟨rfl, rfl⟩) ?_
  refine wl_v (.int .i64 (cl 1048576 n)) rfl rfl (y_maxR rfl rfl rfl (by unfold cl; omega) ⟨rfl, rfl⟩) ?_
  refine wl_v (.int .i64 (cl 1048576 n)) rfl rfl (y_asg rfl rfl ⟨rfl, rfl⟩) ?_
  refine wl_nil fun F5 hF6 => ?_
  have s7 : F5 6 = undef := (hF6 6).trans s4
  have s8 : F5 2 = .int .i64 (cl 1048576 n) := (hF6 2).trans rfl
  clear hF6
  refine then_normal ?_
  refine wq_ret ?_
  exact end_tmp (v := .int .i64 (cl 1048576 n)) s7 rfl rfl s8 ⟨rfl, K0⟩

set_option maxHeartbeats 4000000 in
set_option maxRecDepth 100000 in
theorem is_above1 (p x y : Int) (k : Nat) (f : FD) (f0 f1 f2 : Value) (b1 : Nat) (b2 : Nat) (b3 : Nat) (b4 : Nat) (T_f0 : Nat → Prop) (T_f1 : Nat → Prop) (T_f2 : Nat → Prop) (w0 : World) (hx : 0 ≤ x ∧ x ≤ 64) (hy : 0 ≤ y ∧ y ≤ 64) (hk : k < 4) (h_f0 : Byt w0 T_f0 f0 ((f).p0)) (h_f1 : Byt w0 T_f1 f1 ((f).p1)) (h_f2 : Byt w0 T_f2 f2 ((f).p2)) (h_b1 : Stc w0 b1 25 [.int .i64 ((f).W), .int .i64 ((f).H), f0, f1, f2]) (h_b2 : Cel w0 b2 3 (.int .i64 (p))) (h_b3 : Cel w0 b3 3 (.int .i64 (x))) (h_b4 : Cel w0 b4 3 (.int .i64 (y))) :
    Calls Try.prog 41 #[.int .i64 (((k : Nat) : Int)), .pointer (some ⟨b1, 0, none⟩), .pointer (some ⟨b2, 0, none⟩), .pointer (some ⟨b3, 0, none⟩), .pointer (some ⟨b4, 0, none⟩)] w0 fun e w' => e = .returned (.int .i64 (atF f p (x + (k : Int)) (y - 1))) ∧ Kept (fun _ => False) w0 w' := by
  refine calls_wq (args := [.int .i64 (((k : Nat) : Int)), .pointer (some ⟨b1, 0, none⟩), .pointer (some ⟨b2, 0, none⟩), .pointer (some ⟨b3, 0, none⟩), .pointer (some ⟨b4, 0, none⟩)]) 15 Try.func41 rfl rfl (Nat.le_of_ble_eq_true rfl) ?_
  have K0 := Kept.refl (fun _ => False) w0
  have g_f0 := Grew.refl w0 T_f0
  have g_f1 := Grew.refl w0 T_f1
  have g_f2 := Grew.refl w0 T_f2
  refine wq_seq ?_
  refine wq_region ?_
  refine wl_v (.int .i64 (0)) rfl rfl (y_asg rfl rfl ⟨rfl, rfl⟩) ?_
  refine wl_nil fun F1 hF2 => ?_
  have s3 : F1 0 = .int .i64 (((k : Nat) : Int)) := (hF2 0).trans rfl
  have s4 : F1 1 = .pointer (some ⟨b1, 0, none⟩) := (hF2 1).trans rfl
  have s5 : F1 2 = .pointer (some ⟨b2, 0, none⟩) := (hF2 2).trans rfl
  have s6 : F1 3 = .pointer (some ⟨b3, 0, none⟩) := (hF2 3).trans rfl
  have s7 : F1 4 = .pointer (some ⟨b4, 0, none⟩) := (hF2 4).trans rfl
  have s8 : F1 15 = undef := (hF2 15).trans rfl
  clear hF2
  refine then_normal ?_
  refine wq_seq ?_
  refine wq_region ?_
  refine wl_v (.agg #[.int .i64 ((f).W), .int .i64 ((f).H), f0, f1, f2]) rfl rfl (y_load_stc stcT_frame rfl s4 h_b1 ⟨rfl, rfl⟩) ?_
  refine wl_v (.int .i64 (p)) rfl rfl (y_load_cel rfl s5 Try.underlying3 h_b2 rfl ⟨rfl, rfl⟩) ?_
  refine wl_v (.int .i64 (x)) rfl rfl (y_load_cel rfl s6 Try.underlying3 h_b3 rfl ⟨rfl, rfl⟩) ?_
  refine wl_v (.int .i64 (((k : Nat) : Int))) rfl rfl (y_mov rfl s3 ⟨rfl, rfl⟩) ?_
  refine wl_v (.int .i64 ((x) + (((k : Nat) : Int)))) rfl rfl (y_add rfl rfl rfl (i64_i rfl (by omega)) ⟨rfl, rfl⟩) ?_
  refine wl_v (.int .i64 (y)) rfl rfl (y_load_cel rfl s7 Try.underlying3 h_b4 rfl ⟨rfl, rfl⟩) ?_
  refine wl_v (.int .i64 ((y) - (1))) rfl rfl (y_sub rfl rfl rfl (i64_i rfl (by omega)) ⟨rfl, rfl⟩) ?_
  refine wl_call (R := fun v_ w_ => v_ = .int .i64 (atF (f) (p) ((x) + (((k : Nat) : Int))) ((y) - (1))) ∧ Kept (fun _ => False) w0 w_) rfl rfl (y_cs rfl rfl rfl (fun _ _ => by kernel_rfl) (ev_func _) (vsC rfl (vsC rfl (vsC rfl (vsC rfl vsN)))) (pl_at (p) ((x) + (((k : Nat) : Int))) ((y) - (1)) (f) (f0) (f1) (f2) (T_f0) (T_f1) (T_f2) _  h_f0 h_f1 h_f2 ) (fun e_ w_ h_ => ⟨_, h_.1, rfl, h_.2⟩)) ?_
  rintro _ w9 ⟨rfl, k10⟩
  have B11 := h_f0.all k10 Apart.none
  have B12 := h_f1.all k10 Apart.none
  have B13 := h_f2.all k10 Apart.none
  have B14 := h_b1.all k10 id
  have B15 := h_b2.all k10 id
  have B16 := h_b3.all k10 id
  have B17 := h_b4.all k10 id
  have K18 := K0.trans k10 (fun _ _ x => x.elim)
  refine wl_v (.int .i64 (atF (f) (p) ((x) + (((k : Nat) : Int))) ((y) - (1)))) rfl rfl (y_asg rfl rfl ⟨rfl, rfl⟩) ?_
  refine wl_nil fun F19 hF20 => ?_
  have s21 : F19 15 = undef := (hF20 15).trans s8
  have s22 : F19 6 = .int .i64 (atF (f) (p) ((x) + (((k : Nat) : Int))) ((y) - (1))) := (hF20 6).trans rfl
  clear hF20
  refine then_normal ?_
  refine wq_ret ?_
  exact end_tmp (v := .int .i64 (atF (f) (p) ((x) + (((k : Nat) : Int))) ((y) - (1)))) s21 rfl rfl s22 ⟨rfl, K18⟩

set_option maxHeartbeats 4000000 in
set_option maxRecDepth 100000 in
theorem is_left1 (p x y : Int) (k : Nat) (f : FD) (f0 f1 f2 : Value) (b1 : Nat) (b2 : Nat) (b3 : Nat) (b4 : Nat) (T_f0 : Nat → Prop) (T_f1 : Nat → Prop) (T_f2 : Nat → Prop) (w0 : World) (hx : 0 ≤ x ∧ x ≤ 64) (hy : 0 ≤ y ∧ y ≤ 64) (hk : k < 4) (h_f0 : Byt w0 T_f0 f0 ((f).p0)) (h_f1 : Byt w0 T_f1 f1 ((f).p1)) (h_f2 : Byt w0 T_f2 f2 ((f).p2)) (h_b1 : Stc w0 b1 25 [.int .i64 ((f).W), .int .i64 ((f).H), f0, f1, f2]) (h_b2 : Cel w0 b2 3 (.int .i64 (p))) (h_b3 : Cel w0 b3 3 (.int .i64 (x))) (h_b4 : Cel w0 b4 3 (.int .i64 (y))) :
    Calls Try.prog 43 #[.int .i64 (((k : Nat) : Int)), .pointer (some ⟨b1, 0, none⟩), .pointer (some ⟨b2, 0, none⟩), .pointer (some ⟨b3, 0, none⟩), .pointer (some ⟨b4, 0, none⟩)] w0 fun e w' => e = .returned (.int .i64 (atF f p (x - 1) (y + (k : Int)))) ∧ Kept (fun _ => False) w0 w' := by
  refine calls_wq (args := [.int .i64 (((k : Nat) : Int)), .pointer (some ⟨b1, 0, none⟩), .pointer (some ⟨b2, 0, none⟩), .pointer (some ⟨b3, 0, none⟩), .pointer (some ⟨b4, 0, none⟩)]) 15 Try.func43 rfl rfl (Nat.le_of_ble_eq_true rfl) ?_
  have K0 := Kept.refl (fun _ => False) w0
  have g_f0 := Grew.refl w0 T_f0
  have g_f1 := Grew.refl w0 T_f1
  have g_f2 := Grew.refl w0 T_f2
  refine wq_seq ?_
  refine wq_region ?_
  refine wl_v (.int .i64 (0)) rfl rfl (y_asg rfl rfl ⟨rfl, rfl⟩) ?_
  refine wl_nil fun F1 hF2 => ?_
  have s3 : F1 0 = .int .i64 (((k : Nat) : Int)) := (hF2 0).trans rfl
  have s4 : F1 1 = .pointer (some ⟨b1, 0, none⟩) := (hF2 1).trans rfl
  have s5 : F1 2 = .pointer (some ⟨b2, 0, none⟩) := (hF2 2).trans rfl
  have s6 : F1 3 = .pointer (some ⟨b3, 0, none⟩) := (hF2 3).trans rfl
  have s7 : F1 4 = .pointer (some ⟨b4, 0, none⟩) := (hF2 4).trans rfl
  have s8 : F1 15 = undef := (hF2 15).trans rfl
  clear hF2
  refine then_normal ?_
  refine wq_seq ?_
  refine wq_region ?_
  refine wl_v (.agg #[.int .i64 ((f).W), .int .i64 ((f).H), f0, f1, f2]) rfl rfl (y_load_stc stcT_frame rfl s4 h_b1 ⟨rfl, rfl⟩) ?_
  refine wl_v (.int .i64 (p)) rfl rfl (y_load_cel rfl s5 Try.underlying3 h_b2 rfl ⟨rfl, rfl⟩) ?_
  refine wl_v (.int .i64 (x)) rfl rfl (y_load_cel rfl s6 Try.underlying3 h_b3 rfl ⟨rfl, rfl⟩) ?_
  refine wl_v (.int .i64 ((x) - (1))) rfl rfl (y_sub rfl rfl rfl (i64_i rfl (by omega)) ⟨rfl, rfl⟩) ?_
  refine wl_v (.int .i64 (y)) rfl rfl (y_load_cel rfl s7 Try.underlying3 h_b4 rfl ⟨rfl, rfl⟩) ?_
  refine wl_v (.int .i64 (((k : Nat) : Int))) rfl rfl (y_mov rfl s3 ⟨rfl, rfl⟩) ?_
  refine wl_v (.int .i64 ((y) + (((k : Nat) : Int)))) rfl rfl (y_add rfl rfl rfl (i64_i rfl (by omega)) ⟨rfl, rfl⟩) ?_
  refine wl_call (R := fun v_ w_ => v_ = .int .i64 (atF (f) (p) ((x) - (1)) ((y) + (((k : Nat) : Int)))) ∧ Kept (fun _ => False) w0 w_) rfl rfl (y_cs rfl rfl rfl (fun _ _ => by kernel_rfl) (ev_func _) (vsC rfl (vsC rfl (vsC rfl (vsC rfl vsN)))) (pl_at (p) ((x) - (1)) ((y) + (((k : Nat) : Int))) (f) (f0) (f1) (f2) (T_f0) (T_f1) (T_f2) _  h_f0 h_f1 h_f2 ) (fun e_ w_ h_ => ⟨_, h_.1, rfl, h_.2⟩)) ?_
  rintro _ w9 ⟨rfl, k10⟩
  have B11 := h_f0.all k10 Apart.none
  have B12 := h_f1.all k10 Apart.none
  have B13 := h_f2.all k10 Apart.none
  have B14 := h_b1.all k10 id
  have B15 := h_b2.all k10 id
  have B16 := h_b3.all k10 id
  have B17 := h_b4.all k10 id
  have K18 := K0.trans k10 (fun _ _ x => x.elim)
  refine wl_v (.int .i64 (atF (f) (p) ((x) - (1)) ((y) + (((k : Nat) : Int))))) rfl rfl (y_asg rfl rfl ⟨rfl, rfl⟩) ?_
  refine wl_nil fun F19 hF20 => ?_
  have s21 : F19 15 = undef := (hF20 15).trans s8
  have s22 : F19 6 = .int .i64 (atF (f) (p) ((x) - (1)) ((y) + (((k : Nat) : Int)))) := (hF20 6).trans rfl
  clear hF20
  refine then_normal ?_
  refine wq_ret ?_
  exact end_tmp (v := .int .i64 (atF (f) (p) ((x) - (1)) ((y) + (((k : Nat) : Int))))) s21 rfl rfl s22 ⟨rfl, K18⟩

/-- An edge, where something is ahead. -/
def edgeOf (ahead : Int) (g : Nat → Int) : Nat → Int := fun i => if ahead > 0 then g i else 128
theorem edge_yes {a : Int} {g : Nat → Int} {k : Nat} (h : a > 0) : g k = edgeOf a g k := (if_pos h).symm
theorem edge_no {a : Int} {g : Nat → Int} {k : Nat} (h : ¬ a > 0) : 128 = edgeOf a g k := (if_neg h).symm
set_option maxHeartbeats 4000000 in
set_option maxRecDepth 100000 in
theorem is_along (ahead : Int) (fv : Value) (g : Nat → Int) (w0 : World) (hg : Ask1 w0 4 fv g) :
    Calls Try.prog 40 #[.int .i64 (ahead), fv] w0 fun e w' => e = .returned (.agg (arrL 4 (edgeOf ahead g)).toArray) ∧ Kept (fun _ => False) w0 w' := by
  refine calls_wq (args := [.int .i64 (ahead), fv]) 21 Try.func40 rfl rfl (Nat.le_of_ble_eq_true rfl) ?_
  have K0 := Kept.refl (fun _ => False) w0
  refine wq_seq ?_
  refine wq_region ?_
  refine wl_alloc_arr rfl rfl rfl arrT_edge.2.2 fun p1 w2 e5 B3 k4 => ?_
  have g6 := onB_new (Nat.le_of_eq e5.symm)
  have gr7 : Grew w0 noB (onB p1) := Grew.new K0 g6
  clear e5 g6
  have K8 := K0.trans k4 (fun _ _ x => x.elim)
  refine wl_nil fun F9 hF10 => ?_
  have s11 : F9 0 = .int .i64 (ahead) := (hF10 0).trans rfl
  have s12 : F9 1 = fv := (hF10 1).trans rfl
  have s13 : F9 21 = undef := (hF10 21).trans rfl
  have s14 : F9 4 = .pointer (some ⟨p1, 0, none⟩) := (hF10 4).trans rfl
  clear hF10
  refine then_normal ?_
  refine wq_seq ?_
  refine wq_region ?_
  refine wl_alloc_arr rfl rfl rfl arrT_edge.2.2 fun p15 w16 e19 B17 k18 => ?_
  have g20 := onB_new (Nat.le_of_eq e19.symm)
  have gr21 : Grew w0 noB (onB p15) := Grew.new K8 g20
  have ap22 : Apart (onB p15) (onB p1) := Apart.new g20 (onB_live (B3).lt)
  clear e19 g20
  have B23 := B3.all k18 id
  have K24 := K8.trans k18 (fun _ _ x => x.elim)
  refine wl_nil fun F25 hF26 => ?_
  have s27 : F25 0 = .int .i64 (ahead) := (hF26 0).trans s11
  have s28 : F25 1 = fv := (hF26 1).trans s12
  have s29 : F25 21 = undef := (hF26 21).trans s13
  have s30 : F25 4 = .pointer (some ⟨p1, 0, none⟩) := (hF26 4).trans s14
  have s31 : F25 5 = .pointer (some ⟨p15, 0, none⟩) := (hF26 5).trans rfl
  clear hF26
  refine then_normal ?_
  refine wq_seq ?_
  refine wq_seq ?_
  refine wq_region ?_
  refine wl_v (.int .i64 (0)) rfl rfl (y_mov rfl rfl ⟨rfl, rfl⟩) ?_
  refine wl_nil fun F32 hF33 => ?_
  have s34 : F32 0 = .int .i64 (ahead) := (hF33 0).trans s27
  have s35 : F32 1 = fv := (hF33 1).trans s28
  have s36 : F32 21 = undef := (hF33 21).trans s29
  have s37 : F32 4 = .pointer (some ⟨p1, 0, none⟩) := (hF33 4).trans s30
  have s38 : F32 5 = .pointer (some ⟨p15, 0, none⟩) := (hF33 5).trans s31
  have s39 : F32 7 = .int .i64 (0) := (hF33 7).trans rfl
  clear hF33
  refine then_normal ?_
  refine wq_block ?_
  refine wq_loop (fun nn FF ww => ∃ (k : Nat), (k ≤ 4) ∧ nn = 4 - k ∧ FF 0 = .int .i64 (ahead) ∧ FF 1 = fv ∧ FF 4 = .pointer (some ⟨p1, 0, none⟩) ∧ FF 5 = .pointer (some ⟨p15, 0, none⟩) ∧ FF 21 = undef ∧ FF 7 = .int .i64 (((k : Nat) : Int)) ∧ Kept (fun _ => False) w0 ww ∧ Arr ww p1 56 4 (fun _ => 0) ∧ Arr ww p15 56 4 (upto k (fun _ => 0) (edgeOf ahead g))) (4 - (0)) ⟨0, by omega, rfl, s34, s35, s37, s38, s36, s39, K24, B23, B17.first⟩ ?_
  rintro n43 F40 w41 ⟨k, i44, hn43, s45, s46, s47, s48, s49, s50, K42, B51, B52⟩
  refine wq_seq ?_
  refine wq_region ?_
  refine wl_v (.bool (decide ((((k : Nat) : Int)) < (4)))) rfl rfl (y_lss rfl s50 rfl rfl ⟨rfl, rfl⟩) ?_
  refine wl_nil fun F53 hF54 => ?_
  have s55 : F53 0 = .int .i64 (ahead) := (hF54 0).trans s45
  have s56 : F53 1 = fv := (hF54 1).trans s46
  have s57 : F53 4 = .pointer (some ⟨p1, 0, none⟩) := (hF54 4).trans s47
  have s58 : F53 5 = .pointer (some ⟨p15, 0, none⟩) := (hF54 5).trans s48
  have s59 : F53 21 = undef := (hF54 21).trans s49
  have s60 : F53 7 = .int .i64 (((k : Nat) : Int)) := (hF54 7).trans s50
  have s61 : F53 8 = .bool (decide ((((k : Nat) : Int)) < (4))) := (hF54 8).trans rfl
  clear hF54
  refine then_normal ?_
  refine wq_seq ?_
  refine wq_cond s61 (fun c62 => ?_) (fun c62 => ?_)
  · replace c62 := of_decide_eq_true c62
    refine wq_skip ?_
    refine then_normal ?_
    refine wq_seq ?_
    refine wq_block ?_
    refine wq_seq ?_
    refine wq_region ?_
    refine wl_v (.int .i64 (((k : Nat) : Int))) rfl rfl (y_mov rfl s60 ⟨rfl, rfl⟩) ?_
    refine wl_v (.int .i64 (((k : Nat) : Int))) rfl rfl (y_asg rfl rfl ⟨rfl, rfl⟩) ?_
    refine wl_nil fun F63 hF64 => ?_
    have s65 : F63 0 = .int .i64 (ahead) := (hF64 0).trans s55
    have s66 : F63 1 = fv := (hF64 1).trans s56
    have s67 : F63 4 = .pointer (some ⟨p1, 0, none⟩) := (hF64 4).trans s57
    have s68 : F63 5 = .pointer (some ⟨p15, 0, none⟩) := (hF64 5).trans s58
    have s69 : F63 21 = undef := (hF64 21).trans s59
    have s70 : F63 7 = .int .i64 (((k : Nat) : Int)) := (hF64 7).trans s60
    have s71 : F63 6 = .int .i64 (((k : Nat) : Int)) := (hF64 6).trans rfl
    clear hF64
    refine then_normal ?_
    refine wq_seq ?_
    refine wq_region ?_
    refine wl_v (.int .i64 (((k : Nat) : Int))) rfl rfl (y_mov rfl s71 ⟨rfl, rfl⟩) ?_
    refine wl_v (.pointer (some ⟨p15, k, none⟩)) rfl rfl (y_atR (k) (s := 1) rfl s68 rfl (by omega) Try.underlying56 (by omega) (by kernel_rfl) (by omega) ⟨rfl, rfl⟩) ?_
    refine wl_set_arr rfl rfl rfl rfl rfl B52 (by omega) (by kernel_rfl) fun w72 B73 k74 => ?_
    have B75 := B51.all k74 (fun x => (((ap22).symm) p1 rfl x))
    have K76 := K42.trans k74 (Grew.ok (S := fun _ => False) gr21 noB_le)
    refine wl_nil fun F77 hF78 => ?_
    have s79 : F77 0 = .int .i64 (ahead) := (hF78 0).trans s65
    have s80 : F77 1 = fv := (hF78 1).trans s66
    have s81 : F77 4 = .pointer (some ⟨p1, 0, none⟩) := (hF78 4).trans s67
    have s82 : F77 5 = .pointer (some ⟨p15, 0, none⟩) := (hF78 5).trans s68
    have s83 : F77 21 = undef := (hF78 21).trans s69
    have s84 : F77 7 = .int .i64 (((k : Nat) : Int)) := (hF78 7).trans s70
    have s85 : F77 6 = .int .i64 (((k : Nat) : Int)) := (hF78 6).trans s71
    clear hF78
    refine then_normal ?_
    refine wq_seq ?_
    refine wq_region ?_
    refine wl_v (.int .i64 (ahead)) rfl rfl (y_mov rfl s79 ⟨rfl, rfl⟩) ?_
    refine wl_v (.bool (decide ((0) < (ahead)))) rfl rfl (y_gtr rfl rfl rfl rfl ⟨rfl, rfl⟩) ?_
    refine wl_nil fun F86 hF87 => ?_
    have s88 : F86 0 = .int .i64 (ahead) := (hF87 0).trans s79
    have s89 : F86 1 = fv := (hF87 1).trans s80
    have s90 : F86 4 = .pointer (some ⟨p1, 0, none⟩) := (hF87 4).trans s81
    have s91 : F86 5 = .pointer (some ⟨p15, 0, none⟩) := (hF87 5).trans s82
    have s92 : F86 21 = undef := (hF87 21).trans s83
    have s93 : F86 7 = .int .i64 (((k : Nat) : Int)) := (hF87 7).trans s84
    have s94 : F86 6 = .int .i64 (((k : Nat) : Int)) := (hF87 6).trans s85
    have s95 : F86 13 = .bool (decide ((0) < (ahead))) := (hF87 13).trans rfl
    clear hF87
    refine then_normal ?_
    refine wq_cond s95 (fun c96 => ?_) (fun c96 => ?_)
    · replace c96 := of_decide_eq_true c96
      refine wq_region ?_
      refine wl_v (.int .i64 (((k : Nat) : Int))) rfl rfl (y_mov rfl s94 ⟨rfl, rfl⟩) ?_
      refine wl_v (fv) rfl rfl (y_mov rfl s89 ⟨rfl, rfl⟩) ?_
      refine wl_v (.int .i64 (((k : Nat) : Int))) rfl rfl (y_mov rfl s94 ⟨rfl, rfl⟩) ?_
      refine wl_call (R := fun v_ w_ => v_ = .int .i64 (g (k)) ∧ Kept (fun _ => False) w72 w_) rfl rfl (y_ask1 rfl rfl rfl rfl rfl (hg.all K76) (by omega) (fun e_ w_ h_ => ⟨_, h_.1, rfl, h_.2⟩)) ?_
      rintro _ w97 ⟨rfl, k98⟩
      have B99 := B75.all k98 id
      have B100 := B73.all k98 id
      have K101 := K76.trans k98 (fun _ _ x => x.elim)
      refine wl_v (.pointer (some ⟨p15, k, none⟩)) rfl rfl (y_atR (k) (s := 1) rfl s91 rfl (by omega) Try.underlying56 (by omega) (by kernel_rfl) (by omega) ⟨rfl, rfl⟩) ?_
      refine wl_set_arr rfl rfl rfl rfl rfl B100 (by omega) (by kernel_rfl) fun w102 B103 k104 => ?_
      have B105 := B99.all k104 (fun x => (((ap22).symm) p1 rfl x))
      have K106 := K101.trans k104 (Grew.ok (S := fun _ => False) gr21 noB_le)
      refine wl_nil fun F107 hF108 => ?_
      have s109 : F107 0 = .int .i64 (ahead) := (hF108 0).trans s88
      have s110 : F107 1 = fv := (hF108 1).trans s89
      have s111 : F107 4 = .pointer (some ⟨p1, 0, none⟩) := (hF108 4).trans s90
      have s112 : F107 5 = .pointer (some ⟨p15, 0, none⟩) := (hF108 5).trans s91
      have s113 : F107 21 = undef := (hF108 21).trans s92
      have s114 : F107 7 = .int .i64 (((k : Nat) : Int)) := (hF108 7).trans s93
      clear hF108
      refine in_normal ?_
      refine then_normal ?_
      refine wq_region ?_
      refine wl_v (.int .i64 (((k + 1 : Nat) : Int))) rfl rfl (y_add rfl s114 rfl (i64_n (by omega) (by omega)) ⟨rfl, rfl⟩) ?_
      refine wl_v (.int .i64 (((k + 1 : Nat) : Int))) rfl rfl (y_mov rfl rfl ⟨rfl, rfl⟩) ?_
      refine wl_nil fun F115 hF116 => ?_
      have s117 : F115 0 = .int .i64 (ahead) := (hF116 0).trans s109
      have s118 : F115 1 = fv := (hF116 1).trans s110
      have s119 : F115 4 = .pointer (some ⟨p1, 0, none⟩) := (hF116 4).trans s111
      have s120 : F115 5 = .pointer (some ⟨p15, 0, none⟩) := (hF116 5).trans s112
      have s121 : F115 21 = undef := (hF116 21).trans s113
      have s122 : F115 7 = .int .i64 (((k + 1 : Nat) : Int)) := (hF116 7).trans rfl
      clear hF116
      exact then_normal ⟨(4 - (k + 1)), by omega, k + 1, by omega, rfl, s117, s118, s119, s120, s121, s122, K106, B105, (by first | exact B103.next2 (edge_yes (by omega)) | exact B103.next (edge_no (by omega)))⟩
    · replace c96 := of_decide_eq_false c96
      refine wq_skip ?_
      refine in_normal ?_
      refine then_normal ?_
      refine wq_region ?_
      refine wl_v (.int .i64 (((k + 1 : Nat) : Int))) rfl rfl (y_add rfl s93 rfl (i64_n (by omega) (by omega)) ⟨rfl, rfl⟩) ?_
      refine wl_v (.int .i64 (((k + 1 : Nat) : Int))) rfl rfl (y_mov rfl rfl ⟨rfl, rfl⟩) ?_
      refine wl_nil fun F123 hF124 => ?_
      have s125 : F123 0 = .int .i64 (ahead) := (hF124 0).trans s88
      have s126 : F123 1 = fv := (hF124 1).trans s89
      have s127 : F123 4 = .pointer (some ⟨p1, 0, none⟩) := (hF124 4).trans s90
      have s128 : F123 5 = .pointer (some ⟨p15, 0, none⟩) := (hF124 5).trans s91
      have s129 : F123 21 = undef := (hF124 21).trans s92
      have s130 : F123 7 = .int .i64 (((k + 1 : Nat) : Int)) := (hF124 7).trans rfl
      clear hF124
      exact then_normal ⟨(4 - (k + 1)), by omega, k + 1, by omega, rfl, s125, s126, s127, s128, s129, s130, K76, B75, (by first | exact B73.next2 (edge_yes (by omega)) | exact B73.next (edge_no (by omega)))⟩
  · replace c62 := of_decide_eq_false c62
    refine wq_exit ?_
    refine then_exit ?_
    refine then_exit ?_
    have l131 : 4 = k := by omega
    subst l131
    have B132 : Arr w41 p15 56 4 (edgeOf ahead g) := (B52.last)
    refine in_here ?_
    refine then_normal ?_
    refine wq_seq ?_
    refine wq_region ?_
    refine wl_v (.agg (arrL 4 (edgeOf ahead g)).toArray) rfl rfl (y_load_arr arrT_edge rfl s58 B132 ⟨rfl, rfl⟩) ?_
    refine wl_store_arr arrT_edge rfl rfl rfl s57 rfl B51 fun w133 B134 k135 => ?_
    have B136 := B132.all k135 (fun x => ((ap22) p15 rfl x))
    have K137 := K42.trans k135 (Grew.ok (S := fun _ => False) gr7 noB_le)
    refine wl_nil fun F138 hF139 => ?_
    have s140 : F138 4 = .pointer (some ⟨p1, 0, none⟩) := (hF139 4).trans s57
    have s141 : F138 21 = undef := (hF139 21).trans s59
    clear hF139
    refine then_normal ?_
    refine wq_ret ?_
    exact end_arr arrT_edge s141 rfl rfl s140 B134 ⟨rfl, K137⟩

theorem above_ask {p x y : Int} {f : FD} {f0 f1 f2 : Value} {b1 b2 b3 b4 : Nat} {T0 T1 T2 : Nat → Prop} {w : World} (hx : 0 ≤ x ∧ x ≤ 64) (hy : 0 ≤ y ∧ y ≤ 64) (h0 : Byt w T0 f0 f.p0) (h1 : Byt w T1 f1 f.p1) (h2 : Byt w T2 f2 f.p2)
    (g1 : Stc w b1 25 [.int .i64 f.W, .int .i64 f.H, f0, f1, f2]) (g2 : Cel w b2 3 (.int .i64 p)) (g3 : Cel w b3 3 (.int .i64 x)) (g4 : Cel w b4 3 (.int .i64 y)) :
    Ask1 w 4 (.func (.func 41) #[] #[.pointer (some ⟨b1, 0, none⟩), .pointer (some ⟨b2, 0, none⟩), .pointer (some ⟨b3, 0, none⟩), .pointer (some ⟨b4, 0, none⟩)]) (fun k => atF f p (x + (k : Int)) (y - 1)) :=
  ⟨_, [.pointer (some ⟨b1, 0, none⟩), .pointer (some ⟨b2, 0, none⟩), .pointer (some ⟨b3, 0, none⟩), .pointer (some ⟨b4, 0, none⟩)], rfl, fun _ _ => by kernel_rfl, fun w' k i hi =>
    is_above1 p x y i f f0 f1 f2 b1 b2 b3 b4 T0 T1 T2 w' hx hy hi (h0.all k Apart.none) (h1.all k Apart.none) (h2.all k Apart.none) (g1.all k id) (g2.all k id) (g3.all k id) (g4.all k id)⟩
theorem left_ask {p x y : Int} {f : FD} {f0 f1 f2 : Value} {b1 b2 b3 b4 : Nat} {T0 T1 T2 : Nat → Prop} {w : World} (hx : 0 ≤ x ∧ x ≤ 64) (hy : 0 ≤ y ∧ y ≤ 64) (h0 : Byt w T0 f0 f.p0) (h1 : Byt w T1 f1 f.p1) (h2 : Byt w T2 f2 f.p2)
    (g1 : Stc w b1 25 [.int .i64 f.W, .int .i64 f.H, f0, f1, f2]) (g2 : Cel w b2 3 (.int .i64 p)) (g3 : Cel w b3 3 (.int .i64 x)) (g4 : Cel w b4 3 (.int .i64 y)) :
    Ask1 w 4 (.func (.func 43) #[] #[.pointer (some ⟨b1, 0, none⟩), .pointer (some ⟨b2, 0, none⟩), .pointer (some ⟨b3, 0, none⟩), .pointer (some ⟨b4, 0, none⟩)]) (fun k => atF f p (x - 1) (y + (k : Int))) :=
  ⟨_, [.pointer (some ⟨b1, 0, none⟩), .pointer (some ⟨b2, 0, none⟩), .pointer (some ⟨b3, 0, none⟩), .pointer (some ⟨b4, 0, none⟩)], rfl, fun _ _ => by kernel_rfl, fun w' k i hi =>
    is_left1 p x y i f f0 f1 f2 b1 b2 b3 b4 T0 T1 T2 w' hx hy hi (h0.all k Apart.none) (h1.all k Apart.none) (h2.all k Apart.none) (g1.all k id) (g2.all k id) (g3.all k id) (g4.all k id)⟩

theorem edge_above (f : FD) (p x y : Int) : edgeOf y (fun k => atF f p (x + (k : Int)) (y - 1)) = fun k => aboveF f p x y ((k : Nat) : Int) := by
  funext k; unfold edgeOf aboveF; by_cases h : y ≤ 0
  · rw [if_neg (by omega), if_pos h]
  · rw [if_pos (by omega), if_neg h]
theorem edge_left (f : FD) (p x y : Int) : edgeOf x (fun k => atF f p (x - 1) (y + (k : Int))) = fun k => leftF f p x y ((k : Nat) : Int) := by
  funext k; unfold edgeOf leftF; by_cases h : x ≤ 0
  · rw [if_neg (by omega), if_pos h]
  · rw [if_pos (by omega), if_neg h]
set_option maxHeartbeats 4000000 in
set_option maxRecDepth 100000 in
theorem is_above (p x y : Int) (f : FD) (f0 f1 f2 : Value) (T_f0 : Nat → Prop) (T_f1 : Nat → Prop) (T_f2 : Nat → Prop) (w0 : World) (hx : 0 ≤ x ∧ x ≤ 64) (hy : 0 ≤ y ∧ y ≤ 64) (h_f0 : Byt w0 T_f0 f0 ((f).p0)) (h_f1 : Byt w0 T_f1 f1 ((f).p1)) (h_f2 : Byt w0 T_f2 f2 ((f).p2)) :
    Calls Try.prog 23 #[.agg #[.int .i64 ((f).W), .int .i64 ((f).H), f0, f1, f2], .int .i64 (p), .int .i64 (x), .int .i64 (y)] w0 fun e w' => e = .returned (.agg (arrL 4 (fun k => aboveF f p x y ((k : Nat) : Int))).toArray) ∧ Kept (fun _ => False) w0 w' := by
  refine calls_wq (args := [.agg #[.int .i64 ((f).W), .int .i64 ((f).H), f0, f1, f2], .int .i64 (p), .int .i64 (x), .int .i64 (y)]) 12 Try.func23 rfl rfl (Nat.le_of_ble_eq_true rfl) ?_
  have K0 := Kept.refl (fun _ => False) w0
  have g_f0 := Grew.refl w0 T_f0
  have g_f1 := Grew.refl w0 T_f1
  have g_f2 := Grew.refl w0 T_f2
  refine wq_seq ?_
  refine wq_region ?_
  refine wl_box_stc (vs := [.int .i64 ((f).W), .int .i64 ((f).H), f0, f1, f2]) rfl rfl rfl rfl fun p1 w2 B4 g5 k3 => ?_
  have gr6 : Grew w0 noB (onB p1) := Grew.new K0 g5
  have ap7 : Apart (onB p1) (T_f0) := Apart.new g5 (h_f0).live
  have ap8 : Apart (onB p1) (T_f1) := Apart.new g5 (h_f1).live
  have ap9 : Apart (onB p1) (T_f2) := Apart.new g5 (h_f2).live
  have B10 := h_f0.all k3 Apart.none
  have B11 := h_f1.all k3 Apart.none
  have B12 := h_f2.all k3 Apart.none
  have K13 := K0.trans k3 (fun _ _ x => x.elim)
  refine wl_box_cel rfl rfl rfl rfl (by rfl) fun p14 w15 B18 g20 k16 => ?_
  have gr21 : Grew w0 noB (onB p14) := Grew.new K13 g20
  have ap22 : Apart (onB p14) (T_f0) := Apart.new g20 (B10).live
  have ap23 : Apart (onB p14) (T_f1) := Apart.new g20 (B11).live
  have ap24 : Apart (onB p14) (T_f2) := Apart.new g20 (B12).live
  have ap25 : Apart (onB p14) (onB p1) := Apart.new g20 (onB_live (B4).lt)
  have B26 := B10.all k16 Apart.none
  have B27 := B11.all k16 Apart.none
  have B28 := B12.all k16 Apart.none
  have B29 := B4.all k16 id
  have K30 := K13.trans k16 (fun _ _ x => x.elim)
  refine wl_box_cel rfl rfl rfl rfl (by rfl) fun p31 w32 B35 g37 k33 => ?_
  have gr38 : Grew w0 noB (onB p31) := Grew.new K30 g37
  have ap39 : Apart (onB p31) (T_f0) := Apart.new g37 (B26).live
  have ap40 : Apart (onB p31) (T_f1) := Apart.new g37 (B27).live
  have ap41 : Apart (onB p31) (T_f2) := Apart.new g37 (B28).live
  have ap42 : Apart (onB p31) (onB p1) := Apart.new g37 (onB_live (B29).lt)
  have ap43 : Apart (onB p31) (onB p14) := Apart.new g37 (onB_live (B18).lt)
  have B44 := B26.all k33 Apart.none
  have B45 := B27.all k33 Apart.none
  have B46 := B28.all k33 Apart.none
  have B47 := B29.all k33 id
  have B48 := B18.all k33 id
  have K49 := K30.trans k33 (fun _ _ x => x.elim)
  refine wl_box_cel rfl rfl rfl rfl (by rfl) fun p50 w51 B54 g56 k52 => ?_
  have gr57 : Grew w0 noB (onB p50) := Grew.new K49 g56
  have ap58 : Apart (onB p50) (T_f0) := Apart.new g56 (B44).live
  have ap59 : Apart (onB p50) (T_f1) := Apart.new g56 (B45).live
  have ap60 : Apart (onB p50) (T_f2) := Apart.new g56 (B46).live
  have ap61 : Apart (onB p50) (onB p1) := Apart.new g56 (onB_live (B47).lt)
  have ap62 : Apart (onB p50) (onB p14) := Apart.new g56 (onB_live (B48).lt)
  have ap63 : Apart (onB p50) (onB p31) := Apart.new g56 (onB_live (B35).lt)
  have B64 := B44.all k52 Apart.none
  have B65 := B45.all k52 Apart.none
  have B66 := B46.all k52 Apart.none
  have B67 := B47.all k52 id
  have B68 := B48.all k52 id
  have B69 := B35.all k52 id
  have K70 := K49.trans k52 (fun _ _ x => x.elim)
  refine wl_alloc_arr rfl rfl rfl arrT_edge.2.2 fun p71 w72 e75 B73 k74 => ?_
  have g76 := onB_new (Nat.le_of_eq e75.symm)
  have gr77 : Grew w0 noB (onB p71) := Grew.new K70 g76
  have ap78 : Apart (onB p71) (T_f0) := Apart.new g76 (B64).live
  have ap79 : Apart (onB p71) (T_f1) := Apart.new g76 (B65).live
  have ap80 : Apart (onB p71) (T_f2) := Apart.new g76 (B66).live
  have ap81 : Apart (onB p71) (onB p1) := Apart.new g76 (onB_live (B67).lt)
  have ap82 : Apart (onB p71) (onB p14) := Apart.new g76 (onB_live (B68).lt)
  have ap83 : Apart (onB p71) (onB p31) := Apart.new g76 (onB_live (B69).lt)
  have ap84 : Apart (onB p71) (onB p50) := Apart.new g76 (onB_live (B54).lt)
  clear e75 g76
  have B85 := B64.all k74 Apart.none
  have B86 := B65.all k74 Apart.none
  have B87 := B66.all k74 Apart.none
  have B88 := B67.all k74 id
  have B89 := B68.all k74 id
  have B90 := B69.all k74 id
  have B91 := B54.all k74 id
  have K92 := K70.trans k74 (fun _ _ x => x.elim)
  refine wl_nil fun F93 hF94 => ?_
  have s95 : F93 12 = undef := (hF94 12).trans rfl
  have s96 : F93 4 = .pointer (some ⟨p1, 0, none⟩) := (hF94 4).trans rfl
  have s97 : F93 5 = .pointer (some ⟨p14, 0, none⟩) := (hF94 5).trans rfl
  have s98 : F93 6 = .pointer (some ⟨p31, 0, none⟩) := (hF94 6).trans rfl
  have s99 : F93 7 = .pointer (some ⟨p50, 0, none⟩) := (hF94 7).trans rfl
  have s100 : F93 8 = .pointer (some ⟨p71, 0, none⟩) := (hF94 8).trans rfl
  clear hF94
  refine then_normal ?_
  refine wq_seq ?_
  refine wq_region ?_
  refine wl_v (.int .i64 (y)) rfl rfl (y_load_cel rfl s99 Try.underlying3 B91 rfl ⟨rfl, rfl⟩) ?_
  refine wl_v (.func (.func 41) #[] #[.pointer (some ⟨p1, 0, none⟩), .pointer (some ⟨p14, 0, none⟩), .pointer (some ⟨p31, 0, none⟩), .pointer (some ⟨p50, 0, none⟩)]) rfl rfl (y_fnc rfl (vsC s96 (vsC s97 (vsC s98 (vsC s99 vsN)))) ⟨rfl, rfl⟩) ?_
  refine wl_call (R := fun v_ w_ => v_ = .agg (arrL 4 (fun k => aboveF f p x y ((k : Nat) : Int))).toArray ∧ Kept (fun _ => False) w72 w_) rfl rfl (y_cs rfl rfl rfl (fun _ _ => by kernel_rfl) (ev_func _) (vsC rfl (vsC rfl vsN)) (is_along (y) (.func (.func 41) #[] #[.pointer (some ⟨p1, 0, none⟩), .pointer (some ⟨p14, 0, none⟩), .pointer (some ⟨p31, 0, none⟩), .pointer (some ⟨p50, 0, none⟩)]) (fun k => atF f p (x + (k : Int)) (y - 1))  _ (above_ask hx hy B85 B86 B87 B88 B89 B90 B91)  ) (fun e_ w_ h_ => ⟨_, h_.1, congrArg (fun z => Value.agg (arrL 4 z).toArray) (edge_above f p x y), h_.2⟩)) ?_
  rintro _ w101 ⟨rfl, k102⟩
  have B103 := B85.all k102 Apart.none
  have B104 := B86.all k102 Apart.none
  have B105 := B87.all k102 Apart.none
  have B106 := B88.all k102 id
  have B107 := B89.all k102 id
  have B108 := B90.all k102 id
  have B109 := B91.all k102 id
  have B110 := B73.all k102 id
  have K111 := K92.trans k102 (fun _ _ x => x.elim)
  refine wl_store_arr arrT_edge rfl rfl rfl s100 rfl B110 fun w112 B113 k114 => ?_
  have B115 := B103.all k114 (fun i h x => (((ap78).symm) i h x))
  have B116 := B104.all k114 (fun i h x => (((ap79).symm) i h x))
  have B117 := B105.all k114 (fun i h x => (((ap80).symm) i h x))
  have B118 := B106.all k114 (fun x => (((ap81).symm) p1 rfl x))
  have B119 := B107.all k114 (fun x => (((ap82).symm) p14 rfl x))
  have B120 := B108.all k114 (fun x => (((ap83).symm) p31 rfl x))
  have B121 := B109.all k114 (fun x => (((ap84).symm) p50 rfl x))
  have K122 := K111.trans k114 (Grew.ok (S := fun _ => False) gr77 noB_le)
  refine wl_nil fun F123 hF124 => ?_
  have s125 : F123 12 = undef := (hF124 12).trans s95
  have s126 : F123 8 = .pointer (some ⟨p71, 0, none⟩) := (hF124 8).trans s100
  clear hF124
  refine then_normal ?_
  refine wq_ret ?_
  exact end_arr arrT_edge s125 rfl rfl s126 B113 ⟨rfl, K122⟩
set_option maxHeartbeats 4000000 in
set_option maxRecDepth 100000 in
theorem is_left (p x y : Int) (f : FD) (f0 f1 f2 : Value) (T_f0 : Nat → Prop) (T_f1 : Nat → Prop) (T_f2 : Nat → Prop) (w0 : World) (hx : 0 ≤ x ∧ x ≤ 64) (hy : 0 ≤ y ∧ y ≤ 64) (h_f0 : Byt w0 T_f0 f0 ((f).p0)) (h_f1 : Byt w0 T_f1 f1 ((f).p1)) (h_f2 : Byt w0 T_f2 f2 ((f).p2)) :
    Calls Try.prog 24 #[.agg #[.int .i64 ((f).W), .int .i64 ((f).H), f0, f1, f2], .int .i64 (p), .int .i64 (x), .int .i64 (y)] w0 fun e w' => e = .returned (.agg (arrL 4 (fun k => leftF f p x y ((k : Nat) : Int))).toArray) ∧ Kept (fun _ => False) w0 w' := by
  refine calls_wq (args := [.agg #[.int .i64 ((f).W), .int .i64 ((f).H), f0, f1, f2], .int .i64 (p), .int .i64 (x), .int .i64 (y)]) 12 Try.func24 rfl rfl (Nat.le_of_ble_eq_true rfl) ?_
  have K0 := Kept.refl (fun _ => False) w0
  have g_f0 := Grew.refl w0 T_f0
  have g_f1 := Grew.refl w0 T_f1
  have g_f2 := Grew.refl w0 T_f2
  refine wq_seq ?_
  refine wq_region ?_
  refine wl_box_stc (vs := [.int .i64 ((f).W), .int .i64 ((f).H), f0, f1, f2]) rfl rfl rfl rfl fun p1 w2 B4 g5 k3 => ?_
  have gr6 : Grew w0 noB (onB p1) := Grew.new K0 g5
  have ap7 : Apart (onB p1) (T_f0) := Apart.new g5 (h_f0).live
  have ap8 : Apart (onB p1) (T_f1) := Apart.new g5 (h_f1).live
  have ap9 : Apart (onB p1) (T_f2) := Apart.new g5 (h_f2).live
  have B10 := h_f0.all k3 Apart.none
  have B11 := h_f1.all k3 Apart.none
  have B12 := h_f2.all k3 Apart.none
  have K13 := K0.trans k3 (fun _ _ x => x.elim)
  refine wl_box_cel rfl rfl rfl rfl (by rfl) fun p14 w15 B18 g20 k16 => ?_
  have gr21 : Grew w0 noB (onB p14) := Grew.new K13 g20
  have ap22 : Apart (onB p14) (T_f0) := Apart.new g20 (B10).live
  have ap23 : Apart (onB p14) (T_f1) := Apart.new g20 (B11).live
  have ap24 : Apart (onB p14) (T_f2) := Apart.new g20 (B12).live
  have ap25 : Apart (onB p14) (onB p1) := Apart.new g20 (onB_live (B4).lt)
  have B26 := B10.all k16 Apart.none
  have B27 := B11.all k16 Apart.none
  have B28 := B12.all k16 Apart.none
  have B29 := B4.all k16 id
  have K30 := K13.trans k16 (fun _ _ x => x.elim)
  refine wl_box_cel rfl rfl rfl rfl (by rfl) fun p31 w32 B35 g37 k33 => ?_
  have gr38 : Grew w0 noB (onB p31) := Grew.new K30 g37
  have ap39 : Apart (onB p31) (T_f0) := Apart.new g37 (B26).live
  have ap40 : Apart (onB p31) (T_f1) := Apart.new g37 (B27).live
  have ap41 : Apart (onB p31) (T_f2) := Apart.new g37 (B28).live
  have ap42 : Apart (onB p31) (onB p1) := Apart.new g37 (onB_live (B29).lt)
  have ap43 : Apart (onB p31) (onB p14) := Apart.new g37 (onB_live (B18).lt)
  have B44 := B26.all k33 Apart.none
  have B45 := B27.all k33 Apart.none
  have B46 := B28.all k33 Apart.none
  have B47 := B29.all k33 id
  have B48 := B18.all k33 id
  have K49 := K30.trans k33 (fun _ _ x => x.elim)
  refine wl_box_cel rfl rfl rfl rfl (by rfl) fun p50 w51 B54 g56 k52 => ?_
  have gr57 : Grew w0 noB (onB p50) := Grew.new K49 g56
  have ap58 : Apart (onB p50) (T_f0) := Apart.new g56 (B44).live
  have ap59 : Apart (onB p50) (T_f1) := Apart.new g56 (B45).live
  have ap60 : Apart (onB p50) (T_f2) := Apart.new g56 (B46).live
  have ap61 : Apart (onB p50) (onB p1) := Apart.new g56 (onB_live (B47).lt)
  have ap62 : Apart (onB p50) (onB p14) := Apart.new g56 (onB_live (B48).lt)
  have ap63 : Apart (onB p50) (onB p31) := Apart.new g56 (onB_live (B35).lt)
  have B64 := B44.all k52 Apart.none
  have B65 := B45.all k52 Apart.none
  have B66 := B46.all k52 Apart.none
  have B67 := B47.all k52 id
  have B68 := B48.all k52 id
  have B69 := B35.all k52 id
  have K70 := K49.trans k52 (fun _ _ x => x.elim)
  refine wl_alloc_arr rfl rfl rfl arrT_edge.2.2 fun p71 w72 e75 B73 k74 => ?_
  have g76 := onB_new (Nat.le_of_eq e75.symm)
  have gr77 : Grew w0 noB (onB p71) := Grew.new K70 g76
  have ap78 : Apart (onB p71) (T_f0) := Apart.new g76 (B64).live
  have ap79 : Apart (onB p71) (T_f1) := Apart.new g76 (B65).live
  have ap80 : Apart (onB p71) (T_f2) := Apart.new g76 (B66).live
  have ap81 : Apart (onB p71) (onB p1) := Apart.new g76 (onB_live (B67).lt)
  have ap82 : Apart (onB p71) (onB p14) := Apart.new g76 (onB_live (B68).lt)
  have ap83 : Apart (onB p71) (onB p31) := Apart.new g76 (onB_live (B69).lt)
  have ap84 : Apart (onB p71) (onB p50) := Apart.new g76 (onB_live (B54).lt)
  clear e75 g76
  have B85 := B64.all k74 Apart.none
  have B86 := B65.all k74 Apart.none
  have B87 := B66.all k74 Apart.none
  have B88 := B67.all k74 id
  have B89 := B68.all k74 id
  have B90 := B69.all k74 id
  have B91 := B54.all k74 id
  have K92 := K70.trans k74 (fun _ _ x => x.elim)
  refine wl_nil fun F93 hF94 => ?_
  have s95 : F93 12 = undef := (hF94 12).trans rfl
  have s96 : F93 4 = .pointer (some ⟨p1, 0, none⟩) := (hF94 4).trans rfl
  have s97 : F93 5 = .pointer (some ⟨p14, 0, none⟩) := (hF94 5).trans rfl
  have s98 : F93 6 = .pointer (some ⟨p31, 0, none⟩) := (hF94 6).trans rfl
  have s99 : F93 7 = .pointer (some ⟨p50, 0, none⟩) := (hF94 7).trans rfl
  have s100 : F93 8 = .pointer (some ⟨p71, 0, none⟩) := (hF94 8).trans rfl
  clear hF94
  refine then_normal ?_
  refine wq_seq ?_
  refine wq_region ?_
  refine wl_v (.int .i64 (x)) rfl rfl (y_load_cel rfl s98 Try.underlying3 B90 rfl ⟨rfl, rfl⟩) ?_
  refine wl_v (.func (.func 43) #[] #[.pointer (some ⟨p1, 0, none⟩), .pointer (some ⟨p14, 0, none⟩), .pointer (some ⟨p31, 0, none⟩), .pointer (some ⟨p50, 0, none⟩)]) rfl rfl (y_fnc rfl (vsC s96 (vsC s97 (vsC s98 (vsC s99 vsN)))) ⟨rfl, rfl⟩) ?_
  refine wl_call (R := fun v_ w_ => v_ = .agg (arrL 4 (fun k => leftF f p x y ((k : Nat) : Int))).toArray ∧ Kept (fun _ => False) w72 w_) rfl rfl (y_cs rfl rfl rfl (fun _ _ => by kernel_rfl) (ev_func _) (vsC rfl (vsC rfl vsN)) (is_along (x) (.func (.func 43) #[] #[.pointer (some ⟨p1, 0, none⟩), .pointer (some ⟨p14, 0, none⟩), .pointer (some ⟨p31, 0, none⟩), .pointer (some ⟨p50, 0, none⟩)]) (fun k => atF f p (x - 1) (y + (k : Int)))  _ (left_ask hx hy B85 B86 B87 B88 B89 B90 B91)  ) (fun e_ w_ h_ => ⟨_, h_.1, congrArg (fun z => Value.agg (arrL 4 z).toArray) (edge_left f p x y), h_.2⟩)) ?_
  rintro _ w101 ⟨rfl, k102⟩
  have B103 := B85.all k102 Apart.none
  have B104 := B86.all k102 Apart.none
  have B105 := B87.all k102 Apart.none
  have B106 := B88.all k102 id
  have B107 := B89.all k102 id
  have B108 := B90.all k102 id
  have B109 := B91.all k102 id
  have B110 := B73.all k102 id
  have K111 := K92.trans k102 (fun _ _ x => x.elim)
  refine wl_store_arr arrT_edge rfl rfl rfl s100 rfl B110 fun w112 B113 k114 => ?_
  have B115 := B103.all k114 (fun i h x => (((ap78).symm) i h x))
  have B116 := B104.all k114 (fun i h x => (((ap79).symm) i h x))
  have B117 := B105.all k114 (fun i h x => (((ap80).symm) i h x))
  have B118 := B106.all k114 (fun x => (((ap81).symm) p1 rfl x))
  have B119 := B107.all k114 (fun x => (((ap82).symm) p14 rfl x))
  have B120 := B108.all k114 (fun x => (((ap83).symm) p31 rfl x))
  have B121 := B109.all k114 (fun x => (((ap84).symm) p50 rfl x))
  have K122 := K111.trans k114 (Grew.ok (S := fun _ => False) gr77 noB_le)
  refine wl_nil fun F123 hF124 => ?_
  have s125 : F123 12 = undef := (hF124 12).trans s95
  have s126 : F123 8 = .pointer (some ⟨p71, 0, none⟩) := (hF124 8).trans s100
  clear hF124
  refine then_normal ?_
  refine wq_ret ?_
  exact end_arr arrT_edge s125 rfl rfl s126 B113 ⟨rfl, K122⟩

def totTo (e : Nat → Int) : Nat → Int
  | 0 => 0
  | k + 1 => totTo e k + e k
theorem totTo_le {e : Nat → Int} (h : ∀ i, 0 ≤ e i ∧ e i ≤ 255) (k : Nat) : 0 ≤ totTo e k ∧ totTo e k ≤ 255 * k := by
  induction k with
  | zero => simp [totTo]
  | succ k ih => have := h k; rw [totTo]; omega
set_option maxHeartbeats 4000000 in
set_option maxRecDepth 100000 in
theorem is_total (s : Nat → Int) (w0 : World) (he : ∀ i, 0 ≤ s i ∧ s i ≤ 255) :
    Calls Try.prog 35 #[.agg (arrL 4 (s)).toArray] w0 fun e w' => e = .returned (.int .i64 (totTo s 4)) ∧ Kept (fun _ => False) w0 w' := by
  refine calls_wq (args := [.agg (arrL 4 (s)).toArray]) 15 Try.func35 rfl rfl (Nat.le_of_ble_eq_true rfl) ?_
  have K0 := Kept.refl (fun _ => False) w0
  refine wq_seq ?_
  refine wq_region ?_
  refine wl_box_arr rfl rfl rfl rfl fun p1 w2 e5 B3 k4 => ?_
  have g6 := onB_new (Nat.le_of_eq e5.symm)
  have gr7 : Grew w0 noB (onB p1) := Grew.new K0 g6
  clear e5 g6
  have K8 := K0.trans k4 (fun _ _ x => x.elim)
  refine wl_v (.int .i64 (0)) rfl rfl (y_asg rfl rfl ⟨rfl, rfl⟩) ?_
  refine wl_nil fun F9 hF10 => ?_
  have s11 : F9 15 = undef := (hF10 15).trans rfl
  have s12 : F9 1 = .pointer (some ⟨p1, 0, none⟩) := (hF10 1).trans rfl
  clear hF10
  refine then_normal ?_
  refine wq_seq ?_
  refine wq_region ?_
  refine wl_v (.int .i64 (0)) rfl rfl (y_asg rfl rfl ⟨rfl, rfl⟩) ?_
  refine wl_nil fun F13 hF14 => ?_
  have s15 : F13 15 = undef := (hF14 15).trans s11
  have s16 : F13 1 = .pointer (some ⟨p1, 0, none⟩) := (hF14 1).trans s12
  have s17 : F13 3 = .int .i64 (0) := (hF14 3).trans rfl
  clear hF14
  refine then_normal ?_
  refine wq_seq ?_
  refine wq_seq ?_
  refine wq_region ?_
  refine wl_v (.agg (arrL 4 (s)).toArray) rfl rfl (y_load_arr arrT_edge rfl s16 B3 ⟨rfl, rfl⟩) ?_
  refine wl_v (.int .i64 (0)) rfl rfl (y_mov rfl rfl ⟨rfl, rfl⟩) ?_
  refine wl_nil fun F18 hF19 => ?_
  have s20 : F18 15 = undef := (hF19 15).trans s15
  have s21 : F18 3 = .int .i64 (0) := (hF19 3).trans s17
  have s22 : F18 6 = .agg (arrL 4 (s)).toArray := (hF19 6).trans rfl
  have s23 : F18 7 = .int .i64 (0) := (hF19 7).trans rfl
  clear hF19
  refine then_normal ?_
  refine wq_block ?_
  refine wq_loop (fun nn FF ww => ∃ (k : Nat), (k ≤ 4) ∧ nn = 4 - k ∧ FF 6 = .agg (arrL 4 (s)).toArray ∧ FF 15 = undef ∧ FF 3 = .int .i64 (totTo s k) ∧ FF 7 = .int .i64 (((k : Nat) : Int)) ∧ Kept (fun _ => False) w0 ww ∧ Arr ww p1 56 4 (s)) (4 - (0)) ⟨0, by omega, rfl, s22, s20, s21, s23, K8, B3⟩ ?_
  rintro n27 F24 w25 ⟨k, i28, hn27, s29, s30, s31, s32, K26, B33⟩
  refine wq_seq ?_
  refine wq_region ?_
  refine wl_v (.bool (decide ((((k : Nat) : Int)) < (4)))) rfl rfl (y_lss rfl s32 rfl rfl ⟨rfl, rfl⟩) ?_
  refine wl_nil fun F34 hF35 => ?_
  have s36 : F34 6 = .agg (arrL 4 (s)).toArray := (hF35 6).trans s29
  have s37 : F34 15 = undef := (hF35 15).trans s30
  have s38 : F34 3 = .int .i64 (totTo s k) := (hF35 3).trans s31
  have s39 : F34 7 = .int .i64 (((k : Nat) : Int)) := (hF35 7).trans s32
  have s40 : F34 8 = .bool (decide ((((k : Nat) : Int)) < (4))) := (hF35 8).trans rfl
  clear hF35
  refine then_normal ?_
  refine wq_seq ?_
  refine wq_cond s40 (fun c41 => ?_) (fun c41 => ?_)
  · replace c41 := of_decide_eq_true c41
    refine wq_skip ?_
    refine then_normal ?_
    refine wq_seq ?_
    refine wq_block ?_
    refine wq_seq ?_
    refine wq_region ?_
    refine wl_v (.int .i64 ((s) (k))) rfl rfl (y_lookA (k) arrT_edge rfl s36 s39 (by omega) rfl ⟨rfl, rfl⟩) ?_
    refine wl_v (.int .i64 ((s) (k))) rfl rfl (y_asg rfl rfl ⟨rfl, rfl⟩) ?_
    refine wl_nil fun F42 hF43 => ?_
    have s44 : F42 6 = .agg (arrL 4 (s)).toArray := (hF43 6).trans s36
    have s45 : F42 15 = undef := (hF43 15).trans s37
    have s46 : F42 3 = .int .i64 (totTo s k) := (hF43 3).trans s38
    have s47 : F42 7 = .int .i64 (((k : Nat) : Int)) := (hF43 7).trans s39
    have s48 : F42 5 = .int .i64 ((s) (k)) := (hF43 5).trans rfl
    clear hF43
    refine then_normal ?_
    have ht := totTo_le he k
    have hk := he k
    refine wq_region ?_
    refine wl_v (.int .i64 (totTo s k)) rfl rfl (y_mov rfl s46 ⟨rfl, rfl⟩) ?_
    refine wl_v (.int .i64 ((s) (k))) rfl rfl (y_mov rfl s48 ⟨rfl, rfl⟩) ?_
    refine wl_v (.int .i64 ((totTo s k) + ((s) (k)))) rfl rfl (y_add rfl rfl rfl (i64_i rfl (by omega)) ⟨rfl, rfl⟩) ?_
    refine wl_v (.int .i64 ((totTo s k) + ((s) (k)))) rfl rfl (y_asg rfl rfl ⟨rfl, rfl⟩) ?_
    refine wl_nil fun F49 hF50 => ?_
    have s51 : F49 6 = .agg (arrL 4 (s)).toArray := (hF50 6).trans s44
    have s52 : F49 15 = undef := (hF50 15).trans s45
    have s53 : F49 7 = .int .i64 (((k : Nat) : Int)) := (hF50 7).trans s47
    have s54 : F49 3 = .int .i64 ((totTo s k) + ((s) (k))) := (hF50 3).trans rfl
    clear hF50
    refine in_normal ?_
    refine then_normal ?_
    refine wq_region ?_
    refine wl_v (.int .i64 (((k + 1 : Nat) : Int))) rfl rfl (y_add rfl s53 rfl (i64_n (by omega) (by omega)) ⟨rfl, rfl⟩) ?_
    refine wl_v (.int .i64 (((k + 1 : Nat) : Int))) rfl rfl (y_mov rfl rfl ⟨rfl, rfl⟩) ?_
    refine wl_nil fun F55 hF56 => ?_
    have s57 : F55 6 = .agg (arrL 4 (s)).toArray := (hF56 6).trans s51
    have s58 : F55 15 = undef := (hF56 15).trans s52
    have s59 : F55 3 = .int .i64 ((totTo s k) + ((s) (k))) := (hF56 3).trans s54
    have s60 : F55 7 = .int .i64 (((k + 1 : Nat) : Int)) := (hF56 7).trans rfl
    clear hF56
    exact then_normal ⟨(4 - (k + 1)), by omega, k + 1, by omega, rfl, s57, s58, s59, s60, K26, B33⟩
  · replace c41 := of_decide_eq_false c41
    refine wq_exit ?_
    refine then_exit ?_
    refine then_exit ?_
    have l61 : 4 = k := by omega
    subst l61
    refine in_here ?_
    refine then_normal ?_
    refine wq_seq ?_
    refine wq_region ?_
    refine wl_v (.int .i64 (totTo s 4)) rfl rfl (y_mov rfl s38 ⟨rfl, rfl⟩) ?_
    refine wl_v (.int .i64 (totTo s 4)) rfl rfl (y_asg rfl rfl ⟨rfl, rfl⟩) ?_
    refine wl_nil fun F62 hF63 => ?_
    have s64 : F62 15 = undef := (hF63 15).trans s37
    have s65 : F62 2 = .int .i64 (totTo s 4) := (hF63 2).trans rfl
    clear hF63
    refine then_normal ?_
    refine wq_ret ?_
    exact end_tmp (v := .int .i64 (totTo s 4)) s64 rfl rfl s65 ⟨rfl, K26⟩

/-- What the four modes tell. -/
def predG (a l : Nat → Int) (m i k : Nat) : Int :=
  if m = 0 then Int.tdiv (totTo a 4 + totTo l 4 + 4) 8 else if m = 1 then a k else if m = 2 then l i else Int.tdiv (a k + l i + 1) 2
set_option maxHeartbeats 4000000 in
set_option maxRecDepth 100000 in
theorem is_p1 (i k : Nat) (n : Int) (b1 : Nat) (w0 : World) (h_b1 : Cel w0 b1 3 (.int .i64 (n))) :
    Calls Try.prog 36 #[.int .i64 (((i : Nat) : Int)), .int .i64 (((k : Nat) : Int)), .pointer (some ⟨b1, 0, none⟩)] w0 fun e w' => e = .returned (.int .i64 (n)) ∧ Kept (fun _ => False) w0 w' := by
  refine calls_wq (args := [.int .i64 (((i : Nat) : Int)), .int .i64 (((k : Nat) : Int)), .pointer (some ⟨b1, 0, none⟩)]) 7 Try.func36 rfl rfl (Nat.le_of_ble_eq_true rfl) ?_
  have K0 := Kept.refl (fun _ => False) w0
  refine wq_seq ?_
  refine wq_region ?_
  refine wl_v (.int .i64 (0)) rfl rfl (y_asg rfl rfl ⟨rfl, rfl⟩) ?_
  refine wl_nil fun F1 hF2 => ?_
  have s3 : F1 2 = .pointer (some ⟨b1, 0, none⟩) := (hF2 2).trans rfl
  have s4 : F1 7 = undef := (hF2 7).trans rfl
  clear hF2
  refine then_normal ?_
  refine wq_seq ?_
  refine wq_region ?_
  refine wl_v (.int .i64 (n)) rfl rfl (y_load_cel rfl s3 Try.underlying3 h_b1 rfl ⟨rfl, rfl⟩) ?_
  refine wl_v (.int .i64 (n)) rfl rfl (y_asg rfl rfl ⟨rfl, rfl⟩) ?_
  refine wl_nil fun F5 hF6 => ?_
  have s7 : F5 7 = undef := (hF6 7).trans s4
  have s8 : F5 5 = .int .i64 (n) := (hF6 5).trans rfl
  clear hF6
  refine then_normal ?_
  refine wq_ret ?_
  exact end_tmp (v := .int .i64 (n)) s7 rfl rfl s8 ⟨rfl, K0⟩
set_option maxHeartbeats 4000000 in
set_option maxRecDepth 100000 in
theorem is_p2 (i k : Nat) (a : Nat → Int) (b1 : Nat) (w0 : World) (hk : k < 4) (h_b1 : Arr w0 b1 56 4 (a)) :
    Calls Try.prog 37 #[.int .i64 (((i : Nat) : Int)), .int .i64 (((k : Nat) : Int)), .pointer (some ⟨b1, 0, none⟩)] w0 fun e w' => e = .returned (.int .i64 (a k)) ∧ Kept (fun _ => False) w0 w' := by
  refine calls_wq (args := [.int .i64 (((i : Nat) : Int)), .int .i64 (((k : Nat) : Int)), .pointer (some ⟨b1, 0, none⟩)]) 9 Try.func37 rfl rfl (Nat.le_of_ble_eq_true rfl) ?_
  have K0 := Kept.refl (fun _ => False) w0
  refine wq_seq ?_
  refine wq_region ?_
  refine wl_v (.int .i64 (0)) rfl rfl (y_asg rfl rfl ⟨rfl, rfl⟩) ?_
  refine wl_nil fun F1 hF2 => ?_
  have s3 : F1 1 = .int .i64 (((k : Nat) : Int)) := (hF2 1).trans rfl
  have s4 : F1 2 = .pointer (some ⟨b1, 0, none⟩) := (hF2 2).trans rfl
  have s5 : F1 9 = undef := (hF2 9).trans rfl
  clear hF2
  refine then_normal ?_
  refine wq_seq ?_
  refine wq_region ?_
  refine wl_v (.int .i64 (((k : Nat) : Int))) rfl rfl (y_mov rfl s3 ⟨rfl, rfl⟩) ?_
  refine wl_v (.pointer (some ⟨b1, k, none⟩)) rfl rfl (y_atR (k) (s := 1) rfl s4 rfl (by omega) Try.underlying56 (by omega) (by kernel_rfl) (by omega) ⟨rfl, rfl⟩) ?_
  refine wl_v (.int .i64 ((a) (k))) rfl rfl (y_ldR rfl rfl Try.underlying3 ((h_b1).cell (by omega)) ⟨rfl, rfl⟩) ?_
  refine wl_v (.int .i64 ((a) (k))) rfl rfl (y_asg rfl rfl ⟨rfl, rfl⟩) ?_
  refine wl_nil fun F6 hF7 => ?_
  have s8 : F6 9 = undef := (hF7 9).trans s5
  have s9 : F6 5 = .int .i64 ((a) (k)) := (hF7 5).trans rfl
  clear hF7
  refine then_normal ?_
  refine wq_ret ?_
  exact end_tmp (v := .int .i64 ((a) (k))) s8 rfl rfl s9 ⟨rfl, K0⟩
set_option maxHeartbeats 4000000 in
set_option maxRecDepth 100000 in
theorem is_p3 (i k : Nat) (l : Nat → Int) (b1 : Nat) (w0 : World) (hi : i < 4) (h_b1 : Arr w0 b1 56 4 (l)) :
    Calls Try.prog 38 #[.int .i64 (((i : Nat) : Int)), .int .i64 (((k : Nat) : Int)), .pointer (some ⟨b1, 0, none⟩)] w0 fun e w' => e = .returned (.int .i64 (l i)) ∧ Kept (fun _ => False) w0 w' := by
  refine calls_wq (args := [.int .i64 (((i : Nat) : Int)), .int .i64 (((k : Nat) : Int)), .pointer (some ⟨b1, 0, none⟩)]) 9 Try.func38 rfl rfl (Nat.le_of_ble_eq_true rfl) ?_
  have K0 := Kept.refl (fun _ => False) w0
  refine wq_seq ?_
  refine wq_region ?_
  refine wl_v (.int .i64 (0)) rfl rfl (y_asg rfl rfl ⟨rfl, rfl⟩) ?_
  refine wl_nil fun F1 hF2 => ?_
  have s3 : F1 0 = .int .i64 (((i : Nat) : Int)) := (hF2 0).trans rfl
  have s4 : F1 2 = .pointer (some ⟨b1, 0, none⟩) := (hF2 2).trans rfl
  have s5 : F1 9 = undef := (hF2 9).trans rfl
  clear hF2
  refine then_normal ?_
  refine wq_seq ?_
  refine wq_region ?_
  refine wl_v (.int .i64 (((i : Nat) : Int))) rfl rfl (y_mov rfl s3 ⟨rfl, rfl⟩) ?_
  refine wl_v (.pointer (some ⟨b1, i, none⟩)) rfl rfl (y_atR (i) (s := 1) rfl s4 rfl (by omega) Try.underlying56 (by omega) (by kernel_rfl) (by omega) ⟨rfl, rfl⟩) ?_
  refine wl_v (.int .i64 ((l) (i))) rfl rfl (y_ldR rfl rfl Try.underlying3 ((h_b1).cell (by omega)) ⟨rfl, rfl⟩) ?_
  refine wl_v (.int .i64 ((l) (i))) rfl rfl (y_asg rfl rfl ⟨rfl, rfl⟩) ?_
  refine wl_nil fun F6 hF7 => ?_
  have s8 : F6 9 = undef := (hF7 9).trans s5
  have s9 : F6 5 = .int .i64 ((l) (i)) := (hF7 5).trans rfl
  clear hF7
  refine then_normal ?_
  refine wq_ret ?_
  exact end_tmp (v := .int .i64 ((l) (i))) s8 rfl rfl s9 ⟨rfl, K0⟩
set_option maxHeartbeats 4000000 in
set_option maxRecDepth 100000 in
theorem is_p4 (i k : Nat) (a l : Nat → Int) (b1 : Nat) (b2 : Nat) (w0 : World) (hi : i < 4) (hk : k < 4) (ha : ∀ i, 0 ≤ a i ∧ a i ≤ 255) (hl : ∀ i, 0 ≤ l i ∧ l i ≤ 255) (h_b1 : Arr w0 b1 56 4 (a)) (h_b2 : Arr w0 b2 56 4 (l)) :
    Calls Try.prog 39 #[.int .i64 (((i : Nat) : Int)), .int .i64 (((k : Nat) : Int)), .pointer (some ⟨b1, 0, none⟩), .pointer (some ⟨b2, 0, none⟩)] w0 fun e w' => e = .returned (.int .i64 (Int.tdiv (a k + l i + 1) 2)) ∧ Kept (fun _ => False) w0 w' := by
  refine calls_wq (args := [.int .i64 (((i : Nat) : Int)), .int .i64 (((k : Nat) : Int)), .pointer (some ⟨b1, 0, none⟩), .pointer (some ⟨b2, 0, none⟩)]) 16 Try.func39 rfl rfl (Nat.le_of_ble_eq_true rfl) ?_
  have K0 := Kept.refl (fun _ => False) w0
  refine wq_seq ?_
  refine wq_region ?_
  refine wl_v (.int .i64 (0)) rfl rfl (y_asg rfl rfl ⟨rfl, rfl⟩) ?_
  refine wl_nil fun F1 hF2 => ?_
  have s3 : F1 0 = .int .i64 (((i : Nat) : Int)) := (hF2 0).trans rfl
  have s4 : F1 1 = .int .i64 (((k : Nat) : Int)) := (hF2 1).trans rfl
  have s5 : F1 2 = .pointer (some ⟨b1, 0, none⟩) := (hF2 2).trans rfl
  have s6 : F1 3 = .pointer (some ⟨b2, 0, none⟩) := (hF2 3).trans rfl
  have s7 : F1 16 = undef := (hF2 16).trans rfl
  clear hF2
  refine then_normal ?_
  refine wq_seq ?_
  have h1 := ha k
  have h2 := hl i
  refine wq_said [some 7, some 8, some 9, some 10, some 11, some 12, some 13, some 14, some 15, some 6] [Pd.eq (.int .i64 (((k : Nat) : Int))), Pd.eq (.pointer (some ⟨b1, k, none⟩)), Pd.eq (.int .i64 ((a) (k))), Pd.eq (.int .i64 (((i : Nat) : Int))), Pd.eq (.pointer (some ⟨b2, i, none⟩)), Pd.eq (.int .i64 ((l) (i))), Pd.eq (.int .i64 (((a) (k)) + ((l) (i)))), Pd.eq (.int .i64 ((((a) (k)) + ((l) (i))) + (1))), Pd.eq (.int .i64 (Int.tdiv (a k + l i + 1) 2)), Pd.eq (.int .i64 (Int.tdiv (a k + l i + 1) 2))] (by kernel_rfl) (by kernel_rfl) ?_ ?_
  · refine stepsF_cons ?_ ?_
    · refine StepF.one rfl fun F_ w_ hR hout hD => ?_
      exact (y_mov rfl ((hout 1 rfl (by decide)).trans s4) ⟨rfl, Kept.refl _ _⟩)
    refine stepsF_cons ?_ ?_
    · refine StepF.one rfl fun F_ w_ hR hout hD => ?_
      have g7 : F_ 7 = .int .i64 (((k : Nat) : Int)) := hD.get 0 rfl rfl rfl
      exact (y_atR (k) (s := 1) rfl ((hout 2 rfl (by decide)).trans s5) g7 (by omega) Try.underlying56 (by omega) (by kernel_rfl) (by omega) ⟨rfl, Kept.refl _ _⟩)
    refine stepsF_cons ?_ ?_
    · refine StepF.one rfl fun F_ w_ hR hout hD => ?_
      have g8 : F_ 8 = .pointer (some ⟨b1, k, none⟩) := hD.get 0 rfl rfl rfl
      exact (y_ldR rfl g8 Try.underlying3 (((h_b1.all hR id)).cell (by omega)) ⟨rfl, Kept.refl _ _⟩)
    refine stepsF_cons ?_ ?_
    · refine StepF.one rfl fun F_ w_ hR hout hD => ?_
      exact (y_mov rfl ((hout 0 rfl (by decide)).trans s3) ⟨rfl, Kept.refl _ _⟩)
    refine stepsF_cons ?_ ?_
    · refine StepF.one rfl fun F_ w_ hR hout hD => ?_
      have g10 : F_ 10 = .int .i64 (((i : Nat) : Int)) := hD.get 0 rfl rfl rfl
      exact (y_atR (i) (s := 1) rfl ((hout 3 rfl (by decide)).trans s6) g10 (by omega) Try.underlying56 (by omega) (by kernel_rfl) (by omega) ⟨rfl, Kept.refl _ _⟩)
    refine stepsF_cons ?_ ?_
    · refine StepF.one rfl fun F_ w_ hR hout hD => ?_
      have g11 : F_ 11 = .pointer (some ⟨b2, i, none⟩) := hD.get 0 rfl rfl rfl
      exact (y_ldR rfl g11 Try.underlying3 (((h_b2.all hR id)).cell (by omega)) ⟨rfl, Kept.refl _ _⟩)
    refine stepsF_cons ?_ ?_
    · refine StepF.one rfl fun F_ w_ hR hout hD => ?_
      have g9 : F_ 9 = .int .i64 ((a) (k)) := hD.get 0 rfl rfl rfl
      have g12 : F_ 12 = .int .i64 ((l) (i)) := hD.get 1 rfl rfl rfl
      exact (y_add rfl g9 g12 (i64_i rfl (by omega)) ⟨rfl, Kept.refl _ _⟩)
    refine stepsF_cons ?_ ?_
    · refine StepF.one rfl fun F_ w_ hR hout hD => ?_
      have g13 : F_ 13 = .int .i64 (((a) (k)) + ((l) (i))) := hD.get 0 rfl rfl rfl
      exact (y_add rfl g13 rfl (i64_i rfl (by omega)) ⟨rfl, Kept.refl _ _⟩)
    refine stepsF_cons ?_ ?_
    · refine StepF.one rfl fun F_ w_ hR hout hD => ?_
      have g14 : F_ 14 = .int .i64 ((((a) (k)) + ((l) (i))) + (1)) := hD.get 0 rfl rfl rfl
      exact (y_quo rfl g14 rfl (by first | decide | omega) (i64_i rfl (by rw [tdiv2 (by omega)]; omega)) ⟨rfl, Kept.refl _ _⟩)
    refine stepsF_cons ?_ ?_
    · refine StepF.one rfl fun F_ w_ hR hout hD => ?_
      have g15 : F_ 15 = .int .i64 (Int.tdiv (a k + l i + 1) 2) := hD.get 0 rfl rfl rfl
      exact (y_asg rfl g15 ⟨rfl, Kept.refl _ _⟩)
    exact stepsF_nil
  intro v8 F9 w10 k11 G12 hF13
  have B15 := h_b1.all k11 id
  have B16 := h_b2.all k11 id
  have K17 := K0.trans k11 (fun _ _ x => x.elim)
  have s18 : F9 16 = undef := (hF13 16).trans s7
  have s19 : F9 6 = .int .i64 (Int.tdiv (a k + l i + 1) 2) := (hF13 6).trans (G12 9 (by decide))
  clear G12 hF13
  refine then_normal ?_
  refine wq_ret ?_
  exact end_tmp (v := .int .i64 (Int.tdiv (a k + l i + 1) 2)) s18 rfl rfl s19 ⟨rfl, K17⟩
/-- Four functions, one a mode. -/
def Fns (w : World) (v : Value) (g : Nat → Nat → Nat → Int) : Prop := ∃ c : Nat → Value, v = .agg #[c 0, c 1, c 2, c 3] ∧ ∀ m, m < 4 → Ask2 w 4 (c m) (g m)
theorem Fns.all {w w' : World} {v : Value} {g : Nat → Nat → Nat → Int} (h : Fns w v g) (k : Kept (fun _ => False) w w') : Fns w' v g := by
  obtain ⟨c, e, h⟩ := h; exact ⟨c, e, fun m hm => (h m hm).all k⟩
def Pd.fns (g : Nat → Nat → Nat → Int) : Pd := ⟨fun v w => Fns w v g, fun _ _ _ h k => h.all k⟩
theorem y_ixF {ρ : Operand → Value} {o : Oper} {w : World} {R : Value → World → Prop} {x y : Operand} {k : IntKind} {v : Value} {g : Nat → Nat → Nat → Int} (j : Nat) {i : Int} (ho : o.op = .index 53 x y) (hx : ρ x = v) (hb : Fns w v g) (hy : ρ y = .int k i) (hi : i = (j : Int)) (hj : j < 4) (h : ∀ c, Ask2 w 4 c (g j) → R c w) : Yields Try.prog ρ o w R := by
  obtain ⟨c, rfl, hc⟩ := hb
  subst hi
  have hs : (Try.prog.info? 52).map (·.size) = some 1 := by kernel_rfl
  have hv : #[c 0, c 1, c 2, c 3][j]? = some (c j) := by
    rcases (by omega : j = 0 ∨ j = 1 ∨ j = 2 ∨ j = 3) with rfl | rfl | rfl | rfl <;> rfl
  cases hq : Try.prog.info? 52 with
  | none => simp [hq] at hs
  | some i =>
    have hs' : i.size = 1 := by simpa [hq] using hs
    have hp : (part 52 #[c 0, c 1, c 2, c 3] j).run Try.prog w = .ok (c j) w := by simp [part, isAgg, run_underlying Try.underlying52, hv]
    have h1 : (0 : Int) ≤ (j : Int) := by omega
    exact y_of (v := c j) (w' := w) (by simp [execOp, ho, hx, hy, Instr.index, run_underlying Try.underlying53, asIntOf, sizeOf, typeInfo, hq, hs', hp, h1, hj]) (h _ (hc j hj))
theorem fns_mk {w : World} {a l : Nat → Int} {b2 b3 b5 : Nat} (ha : ∀ i, 0 ≤ a i ∧ a i ≤ 255) (hl : ∀ i, 0 ≤ l i ∧ l i ≤ 255) (h2 : Arr w b2 56 4 a) (h3 : Arr w b3 56 4 l) (h5 : Cel w b5 3 (.int .i64 (Int.tdiv (totTo a 4 + totTo l 4 + 4) 8))) :
    Fns w (.agg [.func (.func 36) #[] #[.pointer (some ⟨b5, 0, none⟩)], .func (.func 37) #[] #[.pointer (some ⟨b2, 0, none⟩)], .func (.func 38) #[] #[.pointer (some ⟨b3, 0, none⟩)], .func (.func 39) #[] #[.pointer (some ⟨b2, 0, none⟩), .pointer (some ⟨b3, 0, none⟩)]].toArray) (predG a l) := by
  refine ⟨fun m => match m with
    | 0 => .func (.func 36) #[] #[.pointer (some ⟨b5, 0, none⟩)]
    | 1 => .func (.func 37) #[] #[.pointer (some ⟨b2, 0, none⟩)]
    | 2 => .func (.func 38) #[] #[.pointer (some ⟨b3, 0, none⟩)]
    | _ => .func (.func 39) #[] #[.pointer (some ⟨b2, 0, none⟩), .pointer (some ⟨b3, 0, none⟩)], rfl, fun m hm => ?_⟩
  rcases (by omega : m = 0 ∨ m = 1 ∨ m = 2 ∨ m = 3) with rfl | rfl | rfl | rfl
  · exact ⟨_, [_], rfl, fun _ _ => by kernel_rfl, fun w' k i j hi hj => is_p1 i j _ b5 w' (h5.all k id)⟩
  · exact ⟨_, [_], rfl, fun _ _ => by kernel_rfl, fun w' k i j hi hj => is_p2 i j a b2 w' hj (h2.all k id)⟩
  · exact ⟨_, [_], rfl, fun _ _ => by kernel_rfl, fun w' k i j hi hj => is_p3 i j l b3 w' hi (h3.all k id)⟩
  · exact ⟨_, [_, _], rfl, fun _ _ => by kernel_rfl, fun w' k i j hi hj => is_p4 i j a l b2 b3 w' hi hj ha hl (h2.all k id) (h3.all k id)⟩
set_option maxHeartbeats 4000000 in
set_option maxRecDepth 100000 in
theorem is_predictions (a l : Nat → Int) (w0 : World) (ha : ∀ i, 0 ≤ a i ∧ a i ≤ 255) (hl : ∀ i, 0 ≤ l i ∧ l i ≤ 255) :
    Calls Try.prog 22 #[.agg (arrL 4 (a)).toArray, .agg (arrL 4 (l)).toArray] w0 fun e w' => ∃ (v1 : Value), e = .returned v1 ∧ Kept (fun _ => False) w0 w' ∧ (Pd.fns (predG a l)).says v1 w' := by
  refine calls_wq (args := [.agg (arrL 4 (a)).toArray, .agg (arrL 4 (l)).toArray]) 18 Try.func22 rfl rfl (Nat.le_of_ble_eq_true rfl) ?_
  have K0 := Kept.refl (fun _ => False) w0
  refine wq_seq ?_
  refine wq_region ?_
  refine wl_box_arr rfl rfl rfl rfl fun p1 w2 e5 B3 k4 => ?_
  have g6 := onB_new (Nat.le_of_eq e5.symm)
  have gr7 : Grew w0 noB (onB p1) := Grew.new K0 g6
  clear e5 g6
  have K8 := K0.trans k4 (fun _ _ x => x.elim)
  refine wl_box_arr rfl rfl rfl rfl fun p9 w10 e13 B11 k12 => ?_
  have g14 := onB_new (Nat.le_of_eq e13.symm)
  have gr15 : Grew w0 noB (onB p9) := Grew.new K8 g14
  have ap16 : Apart (onB p9) (onB p1) := Apart.new g14 (onB_live (B3).lt)
  clear e13 g14
  have B17 := B3.all k12 id
  have K18 := K8.trans k12 (fun _ _ x => x.elim)
  refine wl_alloc_stc (n := 4) (vs := [Value.nilFunc, Value.nilFunc, Value.nilFunc, Value.nilFunc]) rfl rfl rfl (by kernel_rfl) fun p19 w20 B22 g23 k21 => ?_
  have gr24 : Grew w0 noB (onB p19) := Grew.new K18 g23
  have ap25 : Apart (onB p19) (onB p1) := Apart.new g23 (onB_live (B17).lt)
  have ap26 : Apart (onB p19) (onB p9) := Apart.new g23 (onB_live (B11).lt)
  have B27 := B17.all k21 id
  have B28 := B11.all k21 id
  have K29 := K18.trans k21 (fun _ _ x => x.elim)
  refine wl_nil fun F30 hF31 => ?_
  have s32 : F30 18 = undef := (hF31 18).trans rfl
  have s33 : F30 2 = .pointer (some ⟨p1, 0, none⟩) := (hF31 2).trans rfl
  have s34 : F30 3 = .pointer (some ⟨p9, 0, none⟩) := (hF31 3).trans rfl
  have s35 : F30 4 = .pointer (some ⟨p19, 0, none⟩) := (hF31 4).trans rfl
  clear hF31
  refine then_normal ?_
  refine wq_seq ?_
  have h1 := totTo_le ha 4
  have h2 := totTo_le hl 4
  refine wq_tail 8 [some 6, some 7, some 8, some 9, some 10, some 11, some 12, some 5] [Pd.eq (.agg (arrL 4 (a)).toArray), Pd.eq (.int .i64 (totTo (a) 4)), Pd.eq (.agg (arrL 4 (l)).toArray), Pd.eq (.int .i64 (totTo (l) 4)), Pd.eq (.int .i64 ((totTo (a) 4) + (totTo (l) 4))), Pd.eq (.int .i64 (((totTo (a) 4) + (totTo (l) 4)) + (4))), Pd.eq (.int .i64 (Int.tdiv (totTo a 4 + totTo l 4 + 4) 8)), Pd.cel w20.heap.size 3 (.int .i64 (0))] (by kernel_rfl) (by kernel_rfl) (by kernel_rfl) ?_ ?_
  · refine stepsF_cons ?_ ?_
    · refine StepF.one rfl fun F_ w_ hR hout hD => ?_
      exact (y_load_arr arrT_edge rfl ((hout 2 rfl (by decide)).trans s33) (B27.all hR id) ⟨rfl, Kept.refl _ _⟩)
    refine stepsF_cons ?_ ?_
    · refine StepF.one rfl fun F_ w_ hR hout hD => ?_
      have g6 : F_ 6 = .agg (arrL 4 (a)).toArray := hD.get 0 rfl rfl rfl
      exact (y_cs rfl rfl rfl (fun _ _ => by kernel_rfl) (ev_func _) (vsC g6 vsN) (is_total (a)  _ ha  ) (fun e_ w_ h_ => ⟨_, h_.1, rfl, h_.2⟩))
    refine stepsF_cons ?_ ?_
    · refine StepF.one rfl fun F_ w_ hR hout hD => ?_
      exact (y_load_arr arrT_edge rfl ((hout 3 rfl (by decide)).trans s34) (B28.all hR id) ⟨rfl, Kept.refl _ _⟩)
    refine stepsF_cons ?_ ?_
    · refine StepF.one rfl fun F_ w_ hR hout hD => ?_
      have g8 : F_ 8 = .agg (arrL 4 (l)).toArray := hD.get 0 rfl rfl rfl
      exact (y_cs rfl rfl rfl (fun _ _ => by kernel_rfl) (ev_func _) (vsC g8 vsN) (is_total (l)  _ hl  ) (fun e_ w_ h_ => ⟨_, h_.1, rfl, h_.2⟩))
    refine stepsF_cons ?_ ?_
    · refine StepF.one rfl fun F_ w_ hR hout hD => ?_
      have g7 : F_ 7 = .int .i64 (totTo (a) 4) := hD.get 0 rfl rfl rfl
      have g9 : F_ 9 = .int .i64 (totTo (l) 4) := hD.get 1 rfl rfl rfl
      exact (y_add rfl g7 g9 (i64_i rfl (by omega)) ⟨rfl, Kept.refl _ _⟩)
    refine stepsF_cons ?_ ?_
    · refine StepF.one rfl fun F_ w_ hR hout hD => ?_
      have g10 : F_ 10 = .int .i64 ((totTo (a) 4) + (totTo (l) 4)) := hD.get 0 rfl rfl rfl
      exact (y_add rfl g10 rfl (i64_i rfl (by omega)) ⟨rfl, Kept.refl _ _⟩)
    refine stepsF_cons ?_ ?_
    · refine StepF.one rfl fun F_ w_ hR hout hD => ?_
      have g11 : F_ 11 = .int .i64 (((totTo (a) 4) + (totTo (l) 4)) + (4)) := hD.get 0 rfl rfl rfl
      exact (y_quo rfl g11 rfl (by first | decide | omega) (i64_i rfl (by rw [tdiv8 (by omega)]; omega)) ⟨rfl, Kept.refl _ _⟩)
    refine stepsF_cons ?_ ?_
    · refine StepF.one rfl fun F_ w_ hR hout hD => ?_
      exact y_alloc_cel (v := .int .i64 (0)) rfl (by kernel_rfl) rfl ⟨⟨_, rfl, hR.size, heap_alloc_new _ _⟩, (Kept.refl _ _).alloc _⟩
    exact stepsF_nil
  intro v36 F37 w38 k39 G40 hF41
  have B43 := B27.all k39 id
  have B44 := B28.all k39 id
  have B45 := B22.all k39 id
  have K46 := K29.trans k39 (fun _ _ x => x.elim)
  have s47 : F37 18 = undef := (hF41 18).trans s32
  have s48 : F37 2 = .pointer (some ⟨p1, 0, none⟩) := (hF41 2).trans s33
  have s49 : F37 3 = .pointer (some ⟨p9, 0, none⟩) := (hF41 3).trans s34
  have s50 : F37 4 = .pointer (some ⟨p19, 0, none⟩) := (hF41 4).trans s35
  obtain ⟨p53, e52, e54, B55⟩ := G40 7 (by decide)
  replace B55 : Cel w38 p53 3 (.int .i64 (0)) := B55
  have gr56 : Grew w0 noB (onB p53) := Grew.new K29 (onB_new e54)
  have ap57 : Apart (onB p53) (onB p1) := Apart.new (onB_new e54) (onB_live (B27).lt)
  have ap58 : Apart (onB p53) (onB p9) := Apart.new (onB_new e54) (onB_live (B28).lt)
  have ap59 : Apart (onB p53) (onB p19) := Apart.new (onB_new e54) (onB_live (B22).lt)
  have s51 : F37 5 = .pointer (some ⟨p53, 0, none⟩) := (hF41 5).trans e52
  have s60 : F37 12 = .int .i64 (Int.tdiv (totTo a 4 + totTo l 4 + 4) 8) := (hF41 12).trans (G40 6 (by decide))
  clear G40 hF41
  refine wl_store_cel rfl rfl rfl s51 s60 B55 (by rfl) (by kernel_rfl) fun w61 B62 k63 => ?_
  have B64 := B43.all k63 (fun x => (((ap57).symm) p1 rfl x))
  have B65 := B44.all k63 (fun x => (((ap58).symm) p9 rfl x))
  have B66 := B45.all k63 (fun x => (((ap59).symm) p19 rfl x))
  have K67 := K46.trans k63 (Grew.ok (S := fun _ => False) gr56 noB_le)
  refine wl_nil fun F68 hF69 => ?_
  have s70 : F68 18 = undef := (hF69 18).trans s47
  have s71 : F68 2 = .pointer (some ⟨p1, 0, none⟩) := (hF69 2).trans s48
  have s72 : F68 3 = .pointer (some ⟨p9, 0, none⟩) := (hF69 3).trans s49
  have s73 : F68 4 = .pointer (some ⟨p19, 0, none⟩) := (hF69 4).trans s50
  have s74 : F68 5 = .pointer (some ⟨p53, 0, none⟩) := (hF69 5).trans s51
  clear hF69
  refine then_normal ?_
  refine wq_seq ?_
  refine wq_region ?_
  refine wl_v (.func (.func 36) #[] #[.pointer (some ⟨p53, 0, none⟩)]) rfl rfl (y_fnc rfl (vsC s74 vsN) ⟨rfl, rfl⟩) ?_
  refine wl_v (.func (.func 37) #[] #[.pointer (some ⟨p1, 0, none⟩)]) rfl rfl (y_fnc rfl (vsC s71 vsN) ⟨rfl, rfl⟩) ?_
  refine wl_v (.func (.func 38) #[] #[.pointer (some ⟨p9, 0, none⟩)]) rfl rfl (y_fnc rfl (vsC s72 vsN) ⟨rfl, rfl⟩) ?_
  refine wl_v (.func (.func 39) #[] #[.pointer (some ⟨p1, 0, none⟩), .pointer (some ⟨p9, 0, none⟩)]) rfl rfl (y_fnc rfl (vsC s71 (vsC s72 vsN)) ⟨rfl, rfl⟩) ?_
  refine wl_v (.agg #[.func (.func 36) #[] #[.pointer (some ⟨p53, 0, none⟩)], .func (.func 37) #[] #[.pointer (some ⟨p1, 0, none⟩)], .func (.func 38) #[] #[.pointer (some ⟨p9, 0, none⟩)], .func (.func 39) #[] #[.pointer (some ⟨p1, 0, none⟩), .pointer (some ⟨p9, 0, none⟩)]]) rfl rfl (y_buildL (l' := [(0, .func (.func 36) #[] #[.pointer (some ⟨p53, 0, none⟩)]), (1, .func (.func 37) #[] #[.pointer (some ⟨p1, 0, none⟩)]), (2, .func (.func 38) #[] #[.pointer (some ⟨p9, 0, none⟩)]), (3, .func (.func 39) #[] #[.pointer (some ⟨p1, 0, none⟩), .pointer (some ⟨p9, 0, none⟩)])]) (cells := #[.func (.func 36) #[] #[.pointer (some ⟨p53, 0, none⟩)], .func (.func 37) #[] #[.pointer (some ⟨p1, 0, none⟩)], .func (.func 38) #[] #[.pointer (some ⟨p9, 0, none⟩)], .func (.func 39) #[] #[.pointer (some ⟨p1, 0, none⟩), .pointer (some ⟨p9, 0, none⟩)]]) rfl (bpC rfl (bpC rfl (bpC rfl (bpC rfl bpN)))) (by kernel_rfl) rfl ⟨rfl, rfl⟩) ?_
  refine wl_store_stc (us := [.func (.func 36) #[] #[.pointer (some ⟨p53, 0, none⟩)], .func (.func 37) #[] #[.pointer (some ⟨p1, 0, none⟩)], .func (.func 38) #[] #[.pointer (some ⟨p9, 0, none⟩)], .func (.func 39) #[] #[.pointer (some ⟨p1, 0, none⟩), .pointer (some ⟨p9, 0, none⟩)]]) stcT_fn4 rfl rfl rfl s73 rfl B66 rfl (oneI rfl (oneI rfl (oneI rfl (oneI rfl oneN)))) fun w75 B76 k77 => ?_
  have B78 := B64.all k77 (fun x => (((ap25).symm) p1 rfl x))
  have B79 := B65.all k77 (fun x => (((ap26).symm) p9 rfl x))
  have B80 := B62.all k77 (fun x => ((ap59) p53 rfl x))
  have K81 := K67.trans k77 (Grew.ok (S := fun _ => False) gr24 noB_le)
  refine wl_nil fun F82 hF83 => ?_
  have s84 : F82 18 = undef := (hF83 18).trans s70
  have s85 : F82 4 = .pointer (some ⟨p19, 0, none⟩) := (hF83 4).trans s73
  clear hF83
  refine then_normal ?_
  refine wq_ret ?_
  exact end_stc (vs := [.func (.func 36) #[] #[.pointer (some ⟨p53, 0, none⟩)], .func (.func 37) #[] #[.pointer (some ⟨p1, 0, none⟩)], .func (.func 38) #[] #[.pointer (some ⟨p9, 0, none⟩)], .func (.func 39) #[] #[.pointer (some ⟨p1, 0, none⟩), .pointer (some ⟨p9, 0, none⟩)]]) stcT_fn4 s84 rfl rfl s85 B76 ⟨_, rfl, K81, fns_mk ha hl B78 B79 B80⟩

set_option maxHeartbeats 4000000 in
set_option maxRecDepth 100000 in
theorem is_filled (fv : Value) (g : Nat → Nat → Int) (w0 : World) (hg : Ask2 w0 4 fv g) :
    Calls Try.prog 21 #[fv] w0 fun e w' => e = .returned (blkV (fun n => g (n / 4) (n % 4))) ∧ Kept (fun _ => False) w0 w' := by
  refine calls_wq (args := [fv]) 18 Try.func21 rfl rfl (Nat.le_of_ble_eq_true rfl) ?_
  have K0 := Kept.refl (fun _ => False) w0
  refine wq_seq ?_
  refine wq_region ?_
  refine wl_alloc_blk rfl rfl rfl blkT_block.2.2 fun p1 w2 e5 B3 k4 => ?_
  have g6 := onB_new (Nat.le_of_eq e5.symm)
  have gr7 : Grew w0 noB (onB p1) := Grew.new K0 g6
  clear e5 g6
  have K8 := K0.trans k4 (fun _ _ x => x.elim)
  refine wl_nil fun F9 hF10 => ?_
  have s11 : F9 0 = fv := (hF10 0).trans rfl
  have s12 : F9 18 = undef := (hF10 18).trans rfl
  have s13 : F9 2 = .pointer (some ⟨p1, 0, none⟩) := (hF10 2).trans rfl
  clear hF10
  refine then_normal ?_
  refine wq_seq ?_
  refine wq_region ?_
  refine wl_alloc_blk rfl rfl rfl blkT_block.2.2 fun p14 w15 e18 B16 k17 => ?_
  have g19 := onB_new (Nat.le_of_eq e18.symm)
  have gr20 : Grew w0 noB (onB p14) := Grew.new K8 g19
  have ap21 : Apart (onB p14) (onB p1) := Apart.new g19 (onB_live (B3).lt)
  clear e18 g19
  have B22 := B3.all k17 id
  have K23 := K8.trans k17 (fun _ _ x => x.elim)
  refine wl_nil fun F24 hF25 => ?_
  have s26 : F24 0 = fv := (hF25 0).trans s11
  have s27 : F24 18 = undef := (hF25 18).trans s12
  have s28 : F24 2 = .pointer (some ⟨p1, 0, none⟩) := (hF25 2).trans s13
  have s29 : F24 3 = .pointer (some ⟨p14, 0, none⟩) := (hF25 3).trans rfl
  clear hF25
  refine then_normal ?_
  refine wq_seq ?_
  refine wq_seq ?_
  refine wq_region ?_
  refine wl_v (.int .i64 (0)) rfl rfl (y_mov rfl rfl ⟨rfl, rfl⟩) ?_
  refine wl_nil fun F30 hF31 => ?_
  have s32 : F30 0 = fv := (hF31 0).trans s26
  have s33 : F30 18 = undef := (hF31 18).trans s27
  have s34 : F30 2 = .pointer (some ⟨p1, 0, none⟩) := (hF31 2).trans s28
  have s35 : F30 3 = .pointer (some ⟨p14, 0, none⟩) := (hF31 3).trans s29
  have s36 : F30 5 = .int .i64 (0) := (hF31 5).trans rfl
  clear hF31
  refine then_normal ?_
  refine wq_block ?_
  refine wq_loop (fun nn FF ww => ∃ (n : Nat), (n ≤ 16) ∧ nn = 16 - n ∧ FF 0 = fv ∧ FF 2 = .pointer (some ⟨p1, 0, none⟩) ∧ FF 3 = .pointer (some ⟨p14, 0, none⟩) ∧ FF 18 = undef ∧ FF 5 = .int .i64 (((n : Nat) : Int)) ∧ Kept (fun _ => False) w0 ww ∧ Blk ww p1 29 (fun _ => 0) ∧ Blk ww p14 29 (upto n (fun _ => 0) (fun n => g (n / 4) (n % 4)))) (16 - (0)) ⟨0, by omega, rfl, s32, s34, s35, s33, s36, K23, B22, B16.first⟩ ?_
  rintro n40 F37 w38 ⟨n, i41, hn40, s42, s43, s44, s45, s46, K39, B47, B48⟩
  refine wq_seq ?_
  refine wq_region ?_
  refine wl_v (.bool (decide ((((n : Nat) : Int)) < (16)))) rfl rfl (y_lss rfl s46 rfl rfl ⟨rfl, rfl⟩) ?_
  refine wl_nil fun F49 hF50 => ?_
  have s51 : F49 0 = fv := (hF50 0).trans s42
  have s52 : F49 2 = .pointer (some ⟨p1, 0, none⟩) := (hF50 2).trans s43
  have s53 : F49 3 = .pointer (some ⟨p14, 0, none⟩) := (hF50 3).trans s44
  have s54 : F49 18 = undef := (hF50 18).trans s45
  have s55 : F49 5 = .int .i64 (((n : Nat) : Int)) := (hF50 5).trans s46
  have s56 : F49 6 = .bool (decide ((((n : Nat) : Int)) < (16))) := (hF50 6).trans rfl
  clear hF50
  refine then_normal ?_
  refine wq_seq ?_
  refine wq_cond s56 (fun c57 => ?_) (fun c57 => ?_)
  · replace c57 := of_decide_eq_true c57
    refine wq_skip ?_
    refine then_normal ?_
    refine wq_seq ?_
    refine wq_block ?_
    refine wq_seq ?_
    refine wq_region ?_
    refine wl_v (.int .i64 (((n : Nat) : Int))) rfl rfl (y_mov rfl s55 ⟨rfl, rfl⟩) ?_
    refine wl_v (.int .i64 (((n : Nat) : Int))) rfl rfl (y_asg rfl rfl ⟨rfl, rfl⟩) ?_
    refine wl_nil fun F58 hF59 => ?_
    have s60 : F58 0 = fv := (hF59 0).trans s51
    have s61 : F58 2 = .pointer (some ⟨p1, 0, none⟩) := (hF59 2).trans s52
    have s62 : F58 3 = .pointer (some ⟨p14, 0, none⟩) := (hF59 3).trans s53
    have s63 : F58 18 = undef := (hF59 18).trans s54
    have s64 : F58 5 = .int .i64 (((n : Nat) : Int)) := (hF59 5).trans s55
    have s65 : F58 4 = .int .i64 (((n : Nat) : Int)) := (hF59 4).trans rfl
    clear hF59
    refine then_normal ?_
    refine wq_region ?_
    refine wl_v (.int .i64 (((n : Nat) : Int))) rfl rfl (y_mov rfl s65 ⟨rfl, rfl⟩) ?_
    refine wl_v (fv) rfl rfl (y_mov rfl s60 ⟨rfl, rfl⟩) ?_
    refine wl_v (.int .i64 (((n : Nat) : Int))) rfl rfl (y_mov rfl s65 ⟨rfl, rfl⟩) ?_
    refine wl_v (.int .i64 ((((n / 4) : Nat) : Int))) rfl rfl (y_quo rfl rfl rfl (by first | decide | omega) (i64_n (quo_nat n 4) (by omega)) ⟨rfl, rfl⟩) ?_
    refine wl_v (.int .i64 (((n : Nat) : Int))) rfl rfl (y_mov rfl s65 ⟨rfl, rfl⟩) ?_
    refine wl_v (.int .i64 ((((n % 4) : Nat) : Int))) rfl rfl (y_rem rfl rfl rfl (by first | decide | omega) (rem_nat n 4) ⟨rfl, rfl⟩) ?_
    refine wl_call (R := fun v_ w_ => v_ = .int .i64 (g ((n / 4)) ((n % 4))) ∧ Kept (fun _ => False) w38 w_) rfl rfl (y_ask2 rfl rfl rfl rfl rfl rfl (hg.all K39) (by omega) (by omega) (fun e_ w_ h_ => ⟨_, h_.1, rfl, h_.2⟩)) ?_
    rintro _ w66 ⟨rfl, k67⟩
    have B68 := B47.all k67 id
    have B69 := B48.all k67 id
    have K70 := K39.trans k67 (fun _ _ x => x.elim)
    refine wl_v (.pointer (some ⟨p14, n, none⟩)) rfl rfl (y_atR (n) (s := 1) rfl s62 rfl (by omega) Try.underlying29 (by omega) (by kernel_rfl) (by omega) ⟨rfl, rfl⟩) ?_
    refine wl_set_blk rfl rfl rfl rfl rfl B69 (by omega) (by kernel_rfl) fun w71 B72 k73 => ?_
    have B74 := B68.all k73 (fun x => (((ap21).symm) p1 rfl x))
    have K75 := K70.trans k73 (Grew.ok (S := fun _ => False) gr20 noB_le)
    refine wl_nil fun F76 hF77 => ?_
    have s78 : F76 0 = fv := (hF77 0).trans s60
    have s79 : F76 2 = .pointer (some ⟨p1, 0, none⟩) := (hF77 2).trans s61
    have s80 : F76 3 = .pointer (some ⟨p14, 0, none⟩) := (hF77 3).trans s62
    have s81 : F76 18 = undef := (hF77 18).trans s63
    have s82 : F76 5 = .int .i64 (((n : Nat) : Int)) := (hF77 5).trans s64
    clear hF77
    refine in_normal ?_
    refine then_normal ?_
    refine wq_region ?_
    refine wl_v (.int .i64 (((n + 1 : Nat) : Int))) rfl rfl (y_add rfl s82 rfl (i64_n (by omega) (by omega)) ⟨rfl, rfl⟩) ?_
    refine wl_v (.int .i64 (((n + 1 : Nat) : Int))) rfl rfl (y_mov rfl rfl ⟨rfl, rfl⟩) ?_
    refine wl_nil fun F83 hF84 => ?_
    have s85 : F83 0 = fv := (hF84 0).trans s78
    have s86 : F83 2 = .pointer (some ⟨p1, 0, none⟩) := (hF84 2).trans s79
    have s87 : F83 3 = .pointer (some ⟨p14, 0, none⟩) := (hF84 3).trans s80
    have s88 : F83 18 = undef := (hF84 18).trans s81
    have s89 : F83 5 = .int .i64 (((n + 1 : Nat) : Int)) := (hF84 5).trans rfl
    clear hF84
    exact then_normal ⟨(16 - (n + 1)), by omega, n + 1, by omega, rfl, s85, s86, s87, s88, s89, K75, B74, (B72.next rfl)⟩
  · replace c57 := of_decide_eq_false c57
    refine wq_exit ?_
    refine then_exit ?_
    refine then_exit ?_
    have l90 : 16 = n := by omega
    subst l90
    have B91 : Blk w38 p14 29 (fun n => g (n / 4) (n % 4)) := (B48.last)
    refine in_here ?_
    refine then_normal ?_
    refine wq_seq ?_
    refine wq_region ?_
    refine wl_v (blkV (fun n => g (n / 4) (n % 4))) rfl rfl (y_load_blk blkT_block rfl s53 B91 ⟨rfl, rfl⟩) ?_
    refine wl_store_blk blkT_block rfl rfl rfl s52 rfl B47 fun w92 B93 k94 => ?_
    have B95 := B91.all k94 (fun x => ((ap21) p14 rfl x))
    have K96 := K39.trans k94 (Grew.ok (S := fun _ => False) gr7 noB_le)
    refine wl_nil fun F97 hF98 => ?_
    have s99 : F97 2 = .pointer (some ⟨p1, 0, none⟩) := (hF98 2).trans s52
    have s100 : F97 18 = undef := (hF98 18).trans s54
    clear hF98
    refine then_normal ?_
    refine wq_ret ?_
    exact end_blk blkT_block s100 rfl rfl s99 B93 ⟨rfl, K96⟩

theorem predG_is {f : FD} {p x y mode : Int} (hm : 0 ≤ mode ∧ mode ≤ 3) : (fun n => predG (fun k => aboveF f p x y ((k : Nat) : Int)) (fun k => leftF f p x y ((k : Nat) : Int)) mode.toNat (n / 4) (n % 4)) = predN f p x y mode := by
  funext n
  rcases (by omega : mode = 0 ∨ mode = 1 ∨ mode = 2 ∨ mode = 3) with rfl | rfl | rfl | rfl
  · show Int.tdiv _ 8 = Int.tdiv _ 8
    congr 1
    simp only [totTo, sumTo]; omega
  · rfl
  · rfl
  · rfl
set_option maxHeartbeats 4000000 in
set_option maxRecDepth 100000 in
theorem il_predict (p x y mode : Int) (f : FD) (f0 f1 f2 : Value) (T_f0 : Nat → Prop) (T_f1 : Nat → Prop) (T_f2 : Nat → Prop) (w0 : World) (h_f0 : Byt w0 T_f0 f0 ((f).p0)) (h_f1 : Byt w0 T_f1 f1 ((f).p1)) (h_f2 : Byt w0 T_f2 f2 ((f).p2)) :
    Calls Try.prog 11 #[.agg #[.int .i64 ((f).W), .int .i64 ((f).H), f0, f1, f2], .int .i64 (p), .int .i64 (x), .int .i64 (y), .int .i64 (mode)] w0 fun e w' => e = .returned (.tuple #[blkV (predB f p x y mode), .int .i64 (predE f p x y mode)]) ∧ Kept (fun _ => False) w0 w' := by
  refine calls_wq (args := [.agg #[.int .i64 ((f).W), .int .i64 ((f).H), f0, f1, f2], .int .i64 (p), .int .i64 (x), .int .i64 (y), .int .i64 (mode)]) 55 Try.func11 rfl rfl (Nat.le_of_ble_eq_true rfl) ?_
  have K0 := Kept.refl (fun _ => False) w0
  have hb : Bytes3 f := ⟨h_f0.lt256, h_f1.lt256, h_f2.lt256⟩
  have g_f0 := Grew.refl w0 T_f0
  have g_f1 := Grew.refl w0 T_f1
  have g_f2 := Grew.refl w0 T_f2
  refine wq_seq ?_
  refine wq_region ?_
  refine wl_box_stc (vs := [.int .i64 ((f).W), .int .i64 ((f).H), f0, f1, f2]) rfl rfl rfl rfl fun p1 w2 B4 g5 k3 => ?_
  have gr6 : Grew w0 noB (onB p1) := Grew.new K0 g5
  have ap7 : Apart (onB p1) (T_f0) := Apart.new g5 (h_f0).live
  have ap8 : Apart (onB p1) (T_f1) := Apart.new g5 (h_f1).live
  have ap9 : Apart (onB p1) (T_f2) := Apart.new g5 (h_f2).live
  have B10 := h_f0.all k3 Apart.none
  have B11 := h_f1.all k3 Apart.none
  have B12 := h_f2.all k3 Apart.none
  have K13 := K0.trans k3 (fun _ _ x => x.elim)
  refine wl_alloc_blk rfl rfl rfl blkT_block.2.2 fun p14 w15 e18 B16 k17 => ?_
  have g19 := onB_new (Nat.le_of_eq e18.symm)
  have gr20 : Grew w0 noB (onB p14) := Grew.new K13 g19
  have ap21 : Apart (onB p14) (T_f0) := Apart.new g19 (B10).live
  have ap22 : Apart (onB p14) (T_f1) := Apart.new g19 (B11).live
  have ap23 : Apart (onB p14) (T_f2) := Apart.new g19 (B12).live
  have ap24 : Apart (onB p14) (onB p1) := Apart.new g19 (onB_live (B4).lt)
  clear e18 g19
  have B25 := B10.all k17 Apart.none
  have B26 := B11.all k17 Apart.none
  have B27 := B12.all k17 Apart.none
  have B28 := B4.all k17 id
  have K29 := K13.trans k17 (fun _ _ x => x.elim)
  refine wl_v (.int .i64 (0)) rfl rfl (y_asg rfl rfl ⟨rfl, rfl⟩) ?_
  refine wl_nil fun F30 hF31 => ?_
  have s32 : F30 1 = .int .i64 (p) := (hF31 1).trans rfl
  have s33 : F30 2 = .int .i64 (x) := (hF31 2).trans rfl
  have s34 : F30 3 = .int .i64 (y) := (hF31 3).trans rfl
  have s35 : F30 4 = .int .i64 (mode) := (hF31 4).trans rfl
  have s36 : F30 55 = undef := (hF31 55).trans rfl
  have s37 : F30 5 = .pointer (some ⟨p1, 0, none⟩) := (hF31 5).trans rfl
  have s38 : F30 10 = .pointer (some ⟨p14, 0, none⟩) := (hF31 10).trans rfl
  clear hF31
  refine then_normal ?_
  refine wq_seq ?_
  refine wq_seq ?_
  by_cases d39 : (checkE (f)) ≠ (0)
  · skip
    refine wq_region ?_
    refine wl_v (.agg #[.int .i64 ((f).W), .int .i64 ((f).H), f0, f1, f2]) rfl rfl (y_load_stc stcT_frame rfl s37 B28 ⟨rfl, rfl⟩) ?_
    refine wl_call (R := fun v_ w_ => v_ = .int .i64 (checkE (f)) ∧ Kept (fun _ => False) w15 w_) rfl rfl (y_cs rfl rfl rfl (fun _ _ => by kernel_rfl) (ev_func _) (vsC rfl vsN) (pl_check (f) (f0) (f1) (f2) (T_f0) (T_f1) (T_f2) _  B25 B26 B27 ) (fun e_ w_ h_ => ⟨_, h_.1, rfl, h_.2⟩)) ?_
    rintro _ w40 ⟨rfl, k41⟩
    have B42 := B25.all k41 Apart.none
    have B43 := B26.all k41 Apart.none
    have B44 := B27.all k41 Apart.none
    have B45 := B28.all k41 id
    have B46 := B16.all k41 id
    have K47 := K29.trans k41 (fun _ _ x => x.elim)
    refine wl_v (.bool true) rfl rfl (y_neqI rfl rfl rfl (decide_eq_true d39) ⟨rfl, rfl⟩) ?_
    refine wl_v (.bool true) rfl rfl (y_mov rfl rfl ⟨rfl, rfl⟩) ?_
    refine wl_unless 3 false 15 rfl rfl rfl (Or.inl rfl) rfl ?_
    refine wl_unless 3 false 15 rfl rfl rfl (Or.inl rfl) rfl ?_
    refine wl_v (.bool true) rfl rfl (y_pickT rfl rfl rfl ⟨rfl, rfl⟩) ?_
    refine wl_v (.bool true) rfl rfl (y_mov rfl rfl ⟨rfl, rfl⟩) ?_
    refine wl_unless 7 false 19 rfl rfl rfl (Or.inl rfl) rfl ?_
    refine wl_unless 7 false 19 rfl rfl rfl (Or.inl rfl) rfl ?_
    refine wl_v (.bool true) rfl rfl (y_pickT rfl rfl rfl ⟨rfl, rfl⟩) ?_
    refine wl_v (.bool true) rfl rfl (y_mov rfl rfl ⟨rfl, rfl⟩) ?_
    refine wl_unless 11 false 23 rfl rfl rfl (Or.inl rfl) rfl ?_
    refine wl_unless 11 false 23 rfl rfl rfl (Or.inl rfl) rfl ?_
    refine wl_unless 11 false 23 rfl rfl rfl (Or.inl rfl) rfl ?_
    refine wl_v (.bool true) rfl rfl (y_pickT rfl rfl rfl ⟨rfl, rfl⟩) ?_
    refine wl_v (.bool true) rfl rfl (y_mov rfl rfl ⟨rfl, rfl⟩) ?_
    refine wl_unless 16 false 28 rfl rfl rfl (Or.inl rfl) rfl ?_
    refine wl_unless 16 false 28 rfl rfl rfl (Or.inl rfl) rfl ?_
    refine wl_unless 16 false 28 rfl rfl rfl (Or.inl rfl) rfl ?_
    refine wl_v (.bool true) rfl rfl (y_pickT rfl rfl rfl ⟨rfl, rfl⟩) ?_
    refine wl_nil fun F48 hF49 => ?_
    have s50 : F48 1 = .int .i64 (p) := (hF49 1).trans s32
    have s51 : F48 2 = .int .i64 (x) := (hF49 2).trans s33
    have s52 : F48 3 = .int .i64 (y) := (hF49 3).trans s34
    have s53 : F48 4 = .int .i64 (mode) := (hF49 4).trans s35
    have s54 : F48 55 = undef := (hF49 55).trans s36
    have s55 : F48 5 = .pointer (some ⟨p1, 0, none⟩) := (hF49 5).trans s37
    have s56 : F48 10 = .pointer (some ⟨p14, 0, none⟩) := (hF49 10).trans s38
    have s57 : F48 32 = .bool true := (hF49 32).trans rfl
    clear hF49
    refine then_normal ?_
    refine wq_cond (t := true) s57 (fun _ => ?_) (fun e => by cases e)
    refine wq_seq ?_
    have hno : ¬ placeF f p x y := by rintro ⟨h1, h2, h3, h4, h5, h6, h7⟩; first | exact absurd ((checkE_iff f).2 h1) (by assumption) | omega
    refine wq_region ?_
    refine wl_v (blkV (fun _ => 0)) rfl rfl (y_buildR (cells := (arrL 16 (fun _ => 0)).toArray) rfl (by kernel_rfl) rfl ⟨rfl, rfl⟩) ?_
    refine wl_store_blk blkT_block rfl rfl rfl s56 rfl B46 fun w58 B59 k60 => ?_
    have B61 := B42.all k60 (fun i h x => (((ap21).symm) i h x))
    have B62 := B43.all k60 (fun i h x => (((ap22).symm) i h x))
    have B63 := B44.all k60 (fun i h x => (((ap23).symm) i h x))
    have B64 := B45.all k60 (fun x => (((ap24).symm) p1 rfl x))
    have K65 := K47.trans k60 (Grew.ok (S := fun _ => False) gr20 noB_le)
    refine wl_v (.int .i64 (70)) rfl rfl (y_asg rfl rfl ⟨rfl, rfl⟩) ?_
    refine wl_nil fun F66 hF67 => ?_
    have s68 : F66 55 = undef := (hF67 55).trans s54
    have s69 : F66 10 = .pointer (some ⟨p14, 0, none⟩) := (hF67 10).trans s56
    have s70 : F66 11 = .int .i64 (70) := (hF67 11).trans rfl
    clear hF67
    refine then_normal ?_
    refine wq_ret ?_
    refine then_ret ?_
    exact end_2 s68 rfl (res_blk blkT_block rfl s69 B59) (res_tmp (v := .int .i64 (70)) rfl s70) ⟨(by first | rw [(pred_no hno).1, (pred_no hno).2] | rw [(pred_none hpl hm).1, (pred_none hpl hm).2] | rw [(pred_yes hpl hm).1, (pred_yes hpl hm).2]), K65⟩
  · skip
    by_cases d71 : (p) < (0)
    · skip
      refine wq_region ?_
      refine wl_v (.agg #[.int .i64 ((f).W), .int .i64 ((f).H), f0, f1, f2]) rfl rfl (y_load_stc stcT_frame rfl s37 B28 ⟨rfl, rfl⟩) ?_
      refine wl_call (R := fun v_ w_ => v_ = .int .i64 (checkE (f)) ∧ Kept (fun _ => False) w15 w_) rfl rfl (y_cs rfl rfl rfl (fun _ _ => by kernel_rfl) (ev_func _) (vsC rfl vsN) (pl_check (f) (f0) (f1) (f2) (T_f0) (T_f1) (T_f2) _  B25 B26 B27 ) (fun e_ w_ h_ => ⟨_, h_.1, rfl, h_.2⟩)) ?_
      rintro _ w72 ⟨rfl, k73⟩
      have B74 := B25.all k73 Apart.none
      have B75 := B26.all k73 Apart.none
      have B76 := B27.all k73 Apart.none
      have B77 := B28.all k73 id
      have B78 := B16.all k73 id
      have K79 := K29.trans k73 (fun _ _ x => x.elim)
      refine wl_v (.bool false) rfl rfl (y_neqI rfl rfl rfl (decide_eq_false d39) ⟨rfl, rfl⟩) ?_
      refine wl_v (.bool false) rfl rfl (y_mov rfl rfl ⟨rfl, rfl⟩) ?_
      refine wl_vw (.int .i64 (p)) 3 false 15 rfl rfl rfl rfl rfl (y_mov rfl s32 ⟨rfl, rfl⟩) ?_
      refine wl_vw (.bool true) 3 false 15 rfl rfl rfl rfl rfl (y_lss rfl rfl rfl (decide_eq_true d71) ⟨rfl, rfl⟩) ?_
      refine wl_v (.bool true) rfl rfl (y_pickF rfl rfl rfl ⟨rfl, rfl⟩) ?_
      refine wl_v (.bool true) rfl rfl (y_mov rfl rfl ⟨rfl, rfl⟩) ?_
      refine wl_unless 7 false 19 rfl rfl rfl (Or.inl rfl) rfl ?_
      refine wl_unless 7 false 19 rfl rfl rfl (Or.inl rfl) rfl ?_
      refine wl_v (.bool true) rfl rfl (y_pickT rfl rfl rfl ⟨rfl, rfl⟩) ?_
      refine wl_v (.bool true) rfl rfl (y_mov rfl rfl ⟨rfl, rfl⟩) ?_
      refine wl_unless 11 false 23 rfl rfl rfl (Or.inl rfl) rfl ?_
      refine wl_unless 11 false 23 rfl rfl rfl (Or.inl rfl) rfl ?_
      refine wl_unless 11 false 23 rfl rfl rfl (Or.inl rfl) rfl ?_
      refine wl_v (.bool true) rfl rfl (y_pickT rfl rfl rfl ⟨rfl, rfl⟩) ?_
      refine wl_v (.bool true) rfl rfl (y_mov rfl rfl ⟨rfl, rfl⟩) ?_
      refine wl_unless 16 false 28 rfl rfl rfl (Or.inl rfl) rfl ?_
      refine wl_unless 16 false 28 rfl rfl rfl (Or.inl rfl) rfl ?_
      refine wl_unless 16 false 28 rfl rfl rfl (Or.inl rfl) rfl ?_
      refine wl_v (.bool true) rfl rfl (y_pickT rfl rfl rfl ⟨rfl, rfl⟩) ?_
      refine wl_nil fun F80 hF81 => ?_
      have s82 : F80 1 = .int .i64 (p) := (hF81 1).trans s32
      have s83 : F80 2 = .int .i64 (x) := (hF81 2).trans s33
      have s84 : F80 3 = .int .i64 (y) := (hF81 3).trans s34
      have s85 : F80 4 = .int .i64 (mode) := (hF81 4).trans s35
      have s86 : F80 55 = undef := (hF81 55).trans s36
      have s87 : F80 5 = .pointer (some ⟨p1, 0, none⟩) := (hF81 5).trans s37
      have s88 : F80 10 = .pointer (some ⟨p14, 0, none⟩) := (hF81 10).trans s38
      have s89 : F80 32 = .bool true := (hF81 32).trans rfl
      clear hF81
      refine then_normal ?_
      refine wq_cond (t := true) s89 (fun _ => ?_) (fun e => by cases e)
      refine wq_seq ?_
      have hno : ¬ placeF f p x y := by rintro ⟨h1, h2, h3, h4, h5, h6, h7⟩; first | exact absurd ((checkE_iff f).2 h1) (by assumption) | omega
      refine wq_region ?_
      refine wl_v (blkV (fun _ => 0)) rfl rfl (y_buildR (cells := (arrL 16 (fun _ => 0)).toArray) rfl (by kernel_rfl) rfl ⟨rfl, rfl⟩) ?_
      refine wl_store_blk blkT_block rfl rfl rfl s88 rfl B78 fun w90 B91 k92 => ?_
      have B93 := B74.all k92 (fun i h x => (((ap21).symm) i h x))
      have B94 := B75.all k92 (fun i h x => (((ap22).symm) i h x))
      have B95 := B76.all k92 (fun i h x => (((ap23).symm) i h x))
      have B96 := B77.all k92 (fun x => (((ap24).symm) p1 rfl x))
      have K97 := K79.trans k92 (Grew.ok (S := fun _ => False) gr20 noB_le)
      refine wl_v (.int .i64 (70)) rfl rfl (y_asg rfl rfl ⟨rfl, rfl⟩) ?_
      refine wl_nil fun F98 hF99 => ?_
      have s100 : F98 55 = undef := (hF99 55).trans s86
      have s101 : F98 10 = .pointer (some ⟨p14, 0, none⟩) := (hF99 10).trans s88
      have s102 : F98 11 = .int .i64 (70) := (hF99 11).trans rfl
      clear hF99
      refine then_normal ?_
      refine wq_ret ?_
      refine then_ret ?_
      exact end_2 s100 rfl (res_blk blkT_block rfl s101 B91) (res_tmp (v := .int .i64 (70)) rfl s102) ⟨(by first | rw [(pred_no hno).1, (pred_no hno).2] | rw [(pred_none hpl hm).1, (pred_none hpl hm).2] | rw [(pred_yes hpl hm).1, (pred_yes hpl hm).2]), K97⟩
    · skip
      by_cases d103 : (3) ≤ (p)
      · skip
        refine wq_region ?_
        refine wl_v (.agg #[.int .i64 ((f).W), .int .i64 ((f).H), f0, f1, f2]) rfl rfl (y_load_stc stcT_frame rfl s37 B28 ⟨rfl, rfl⟩) ?_
        refine wl_call (R := fun v_ w_ => v_ = .int .i64 (checkE (f)) ∧ Kept (fun _ => False) w15 w_) rfl rfl (y_cs rfl rfl rfl (fun _ _ => by kernel_rfl) (ev_func _) (vsC rfl vsN) (pl_check (f) (f0) (f1) (f2) (T_f0) (T_f1) (T_f2) _  B25 B26 B27 ) (fun e_ w_ h_ => ⟨_, h_.1, rfl, h_.2⟩)) ?_
        rintro _ w104 ⟨rfl, k105⟩
        have B106 := B25.all k105 Apart.none
        have B107 := B26.all k105 Apart.none
        have B108 := B27.all k105 Apart.none
        have B109 := B28.all k105 id
        have B110 := B16.all k105 id
        have K111 := K29.trans k105 (fun _ _ x => x.elim)
        refine wl_v (.bool false) rfl rfl (y_neqI rfl rfl rfl (decide_eq_false d39) ⟨rfl, rfl⟩) ?_
        refine wl_v (.bool false) rfl rfl (y_mov rfl rfl ⟨rfl, rfl⟩) ?_
        refine wl_vw (.int .i64 (p)) 3 false 15 rfl rfl rfl rfl rfl (y_mov rfl s32 ⟨rfl, rfl⟩) ?_
        refine wl_vw (.bool false) 3 false 15 rfl rfl rfl rfl rfl (y_lss rfl rfl rfl (decide_eq_false d71) ⟨rfl, rfl⟩) ?_
        refine wl_v (.bool false) rfl rfl (y_pickF rfl rfl rfl ⟨rfl, rfl⟩) ?_
        refine wl_v (.bool false) rfl rfl (y_mov rfl rfl ⟨rfl, rfl⟩) ?_
        refine wl_vw (.int .i64 (p)) 7 false 19 rfl rfl rfl rfl rfl (y_mov rfl s32 ⟨rfl, rfl⟩) ?_
        refine wl_vw (.bool true) 7 false 19 rfl rfl rfl rfl rfl (y_geq rfl rfl rfl (decide_eq_true d103) ⟨rfl, rfl⟩) ?_
        refine wl_v (.bool true) rfl rfl (y_pickF rfl rfl rfl ⟨rfl, rfl⟩) ?_
        refine wl_v (.bool true) rfl rfl (y_mov rfl rfl ⟨rfl, rfl⟩) ?_
        refine wl_unless 11 false 23 rfl rfl rfl (Or.inl rfl) rfl ?_
        refine wl_unless 11 false 23 rfl rfl rfl (Or.inl rfl) rfl ?_
        refine wl_unless 11 false 23 rfl rfl rfl (Or.inl rfl) rfl ?_
        refine wl_v (.bool true) rfl rfl (y_pickT rfl rfl rfl ⟨rfl, rfl⟩) ?_
        refine wl_v (.bool true) rfl rfl (y_mov rfl rfl ⟨rfl, rfl⟩) ?_
        refine wl_unless 16 false 28 rfl rfl rfl (Or.inl rfl) rfl ?_
        refine wl_unless 16 false 28 rfl rfl rfl (Or.inl rfl) rfl ?_
        refine wl_unless 16 false 28 rfl rfl rfl (Or.inl rfl) rfl ?_
        refine wl_v (.bool true) rfl rfl (y_pickT rfl rfl rfl ⟨rfl, rfl⟩) ?_
        refine wl_nil fun F112 hF113 => ?_
        have s114 : F112 1 = .int .i64 (p) := (hF113 1).trans s32
        have s115 : F112 2 = .int .i64 (x) := (hF113 2).trans s33
        have s116 : F112 3 = .int .i64 (y) := (hF113 3).trans s34
        have s117 : F112 4 = .int .i64 (mode) := (hF113 4).trans s35
        have s118 : F112 55 = undef := (hF113 55).trans s36
        have s119 : F112 5 = .pointer (some ⟨p1, 0, none⟩) := (hF113 5).trans s37
        have s120 : F112 10 = .pointer (some ⟨p14, 0, none⟩) := (hF113 10).trans s38
        have s121 : F112 32 = .bool true := (hF113 32).trans rfl
        clear hF113
        refine then_normal ?_
        refine wq_cond (t := true) s121 (fun _ => ?_) (fun e => by cases e)
        refine wq_seq ?_
        have hno : ¬ placeF f p x y := by rintro ⟨h1, h2, h3, h4, h5, h6, h7⟩; first | exact absurd ((checkE_iff f).2 h1) (by assumption) | omega
        refine wq_region ?_
        refine wl_v (blkV (fun _ => 0)) rfl rfl (y_buildR (cells := (arrL 16 (fun _ => 0)).toArray) rfl (by kernel_rfl) rfl ⟨rfl, rfl⟩) ?_
        refine wl_store_blk blkT_block rfl rfl rfl s120 rfl B110 fun w122 B123 k124 => ?_
        have B125 := B106.all k124 (fun i h x => (((ap21).symm) i h x))
        have B126 := B107.all k124 (fun i h x => (((ap22).symm) i h x))
        have B127 := B108.all k124 (fun i h x => (((ap23).symm) i h x))
        have B128 := B109.all k124 (fun x => (((ap24).symm) p1 rfl x))
        have K129 := K111.trans k124 (Grew.ok (S := fun _ => False) gr20 noB_le)
        refine wl_v (.int .i64 (70)) rfl rfl (y_asg rfl rfl ⟨rfl, rfl⟩) ?_
        refine wl_nil fun F130 hF131 => ?_
        have s132 : F130 55 = undef := (hF131 55).trans s118
        have s133 : F130 10 = .pointer (some ⟨p14, 0, none⟩) := (hF131 10).trans s120
        have s134 : F130 11 = .int .i64 (70) := (hF131 11).trans rfl
        clear hF131
        refine then_normal ?_
        refine wq_ret ?_
        refine then_ret ?_
        exact end_2 s132 rfl (res_blk blkT_block rfl s133 B123) (res_tmp (v := .int .i64 (70)) rfl s134) ⟨(by first | rw [(pred_no hno).1, (pred_no hno).2] | rw [(pred_none hpl hm).1, (pred_none hpl hm).2] | rw [(pred_yes hpl hm).1, (pred_yes hpl hm).2]), K129⟩
      · skip
        by_cases d135 : 0 ≤ (x) ∧ (x) ≤ 64
        · skip
          by_cases d136 : 0 ≤ (y) ∧ (y) ≤ 64
          · skip
            refine wq_region ?_
            refine wl_v (.agg #[.int .i64 ((f).W), .int .i64 ((f).H), f0, f1, f2]) rfl rfl (y_load_stc stcT_frame rfl s37 B28 ⟨rfl, rfl⟩) ?_
            refine wl_call (R := fun v_ w_ => v_ = .int .i64 (checkE (f)) ∧ Kept (fun _ => False) w15 w_) rfl rfl (y_cs rfl rfl rfl (fun _ _ => by kernel_rfl) (ev_func _) (vsC rfl vsN) (pl_check (f) (f0) (f1) (f2) (T_f0) (T_f1) (T_f2) _  B25 B26 B27 ) (fun e_ w_ h_ => ⟨_, h_.1, rfl, h_.2⟩)) ?_
            rintro _ w137 ⟨rfl, k138⟩
            have B139 := B25.all k138 Apart.none
            have B140 := B26.all k138 Apart.none
            have B141 := B27.all k138 Apart.none
            have B142 := B28.all k138 id
            have B143 := B16.all k138 id
            have K144 := K29.trans k138 (fun _ _ x => x.elim)
            refine wl_v (.bool false) rfl rfl (y_neqI rfl rfl rfl (decide_eq_false d39) ⟨rfl, rfl⟩) ?_
            refine wl_v (.bool false) rfl rfl (y_mov rfl rfl ⟨rfl, rfl⟩) ?_
            refine wl_vw (.int .i64 (p)) 3 false 15 rfl rfl rfl rfl rfl (y_mov rfl s32 ⟨rfl, rfl⟩) ?_
            refine wl_vw (.bool false) 3 false 15 rfl rfl rfl rfl rfl (y_lss rfl rfl rfl (decide_eq_false d71) ⟨rfl, rfl⟩) ?_
            refine wl_v (.bool false) rfl rfl (y_pickF rfl rfl rfl ⟨rfl, rfl⟩) ?_
            refine wl_v (.bool false) rfl rfl (y_mov rfl rfl ⟨rfl, rfl⟩) ?_
            refine wl_vw (.int .i64 (p)) 7 false 19 rfl rfl rfl rfl rfl (y_mov rfl s32 ⟨rfl, rfl⟩) ?_
            refine wl_vw (.bool false) 7 false 19 rfl rfl rfl rfl rfl (y_geq rfl rfl rfl (decide_eq_false d103) ⟨rfl, rfl⟩) ?_
            refine wl_v (.bool false) rfl rfl (y_pickF rfl rfl rfl ⟨rfl, rfl⟩) ?_
            refine wl_v (.bool false) rfl rfl (y_mov rfl rfl ⟨rfl, rfl⟩) ?_
            refine wl_vw (.int .i64 (x)) 11 false 23 rfl rfl rfl rfl rfl (y_mov rfl s33 ⟨rfl, rfl⟩) ?_
            refine wl_callw (R := fun v_ w_ => v_ = .bool true ∧ Kept (fun _ => False) w137 w_) 11 false 23 rfl rfl rfl rfl rfl (y_cs rfl rfl rfl (fun _ _ => by kernel_rfl) (ev_func _) (vsC rfl vsN) (is_place (x)  _   ) (fun e_ w_ h_ => ⟨_, h_.1, (congrArg Value.bool (decide_eq_true d135)), h_.2⟩)) ?_
            rintro _ w145 ⟨rfl, k146⟩
            have B147 := B139.all k146 Apart.none
            have B148 := B140.all k146 Apart.none
            have B149 := B141.all k146 Apart.none
            have B150 := B142.all k146 id
            have B151 := B143.all k146 id
            have K152 := K144.trans k146 (fun _ _ x => x.elim)
            refine wl_vw (.bool false) 11 false 23 rfl rfl rfl rfl rfl (y_not rfl rfl rfl ⟨rfl, rfl⟩) ?_
            refine wl_v (.bool false) rfl rfl (y_pickF rfl rfl rfl ⟨rfl, rfl⟩) ?_
            refine wl_v (.bool false) rfl rfl (y_mov rfl rfl ⟨rfl, rfl⟩) ?_
            refine wl_vw (.int .i64 (y)) 16 false 28 rfl rfl rfl rfl rfl (y_mov rfl s34 ⟨rfl, rfl⟩) ?_
            refine wl_callw (R := fun v_ w_ => v_ = .bool true ∧ Kept (fun _ => False) w145 w_) 16 false 28 rfl rfl rfl rfl rfl (y_cs rfl rfl rfl (fun _ _ => by kernel_rfl) (ev_func _) (vsC rfl vsN) (is_place (y)  _   ) (fun e_ w_ h_ => ⟨_, h_.1, (congrArg Value.bool (decide_eq_true d136)), h_.2⟩)) ?_
            rintro _ w153 ⟨rfl, k154⟩
            have B155 := B147.all k154 Apart.none
            have B156 := B148.all k154 Apart.none
            have B157 := B149.all k154 Apart.none
            have B158 := B150.all k154 id
            have B159 := B151.all k154 id
            have K160 := K152.trans k154 (fun _ _ x => x.elim)
            refine wl_vw (.bool false) 16 false 28 rfl rfl rfl rfl rfl (y_not rfl rfl rfl ⟨rfl, rfl⟩) ?_
            refine wl_v (.bool false) rfl rfl (y_pickF rfl rfl rfl ⟨rfl, rfl⟩) ?_
            refine wl_nil fun F161 hF162 => ?_
            have s163 : F161 1 = .int .i64 (p) := (hF162 1).trans s32
            have s164 : F161 2 = .int .i64 (x) := (hF162 2).trans s33
            have s165 : F161 3 = .int .i64 (y) := (hF162 3).trans s34
            have s166 : F161 4 = .int .i64 (mode) := (hF162 4).trans s35
            have s167 : F161 55 = undef := (hF162 55).trans s36
            have s168 : F161 5 = .pointer (some ⟨p1, 0, none⟩) := (hF162 5).trans s37
            have s169 : F161 10 = .pointer (some ⟨p14, 0, none⟩) := (hF162 10).trans s38
            have s170 : F161 32 = .bool false := (hF162 32).trans rfl
            clear hF162
            refine then_normal ?_
            refine wq_cond (t := false) s170 (fun e => by cases e) (fun _ => ?_)
            refine wq_skip ?_
            refine then_normal ?_
            refine wq_seq ?_
            refine wq_seq ?_
            have hpl : placeF f p x y := ⟨(checkE_iff f).1 (by first | assumption | (apply Decidable.byContradiction; assumption)), by omega, by omega, by omega, by omega, by omega, by omega⟩
            by_cases d171 : (mode) < (0)
            · skip
              refine wq_region ?_
              refine wl_v (.int .i64 (mode)) rfl rfl (y_mov rfl s166 ⟨rfl, rfl⟩) ?_
              refine wl_v (.bool true) rfl rfl (y_lss rfl rfl rfl (decide_eq_true d171) ⟨rfl, rfl⟩) ?_
              refine wl_v (.bool true) rfl rfl (y_mov rfl rfl ⟨rfl, rfl⟩) ?_
              refine wl_unless 2 false 36 rfl rfl rfl (Or.inl rfl) rfl ?_
              refine wl_unless 2 false 36 rfl rfl rfl (Or.inl rfl) rfl ?_
              refine wl_v (.bool true) rfl rfl (y_pickT rfl rfl rfl ⟨rfl, rfl⟩) ?_
              refine wl_nil fun F172 hF173 => ?_
              have s174 : F172 1 = .int .i64 (p) := (hF173 1).trans s163
              have s175 : F172 2 = .int .i64 (x) := (hF173 2).trans s164
              have s176 : F172 3 = .int .i64 (y) := (hF173 3).trans s165
              have s177 : F172 4 = .int .i64 (mode) := (hF173 4).trans s166
              have s178 : F172 55 = undef := (hF173 55).trans s167
              have s179 : F172 5 = .pointer (some ⟨p1, 0, none⟩) := (hF173 5).trans s168
              have s180 : F172 10 = .pointer (some ⟨p14, 0, none⟩) := (hF173 10).trans s169
              have s181 : F172 39 = .bool true := (hF173 39).trans rfl
              clear hF173
              refine then_normal ?_
              refine wq_cond (t := true) s181 (fun _ => ?_) (fun e => by cases e)
              refine wq_seq ?_
              have hm : ¬ (0 ≤ mode ∧ mode ≤ 3) := by omega
              refine wq_region ?_
              refine wl_v (blkV (fun _ => 0)) rfl rfl (y_buildR (cells := (arrL 16 (fun _ => 0)).toArray) rfl (by kernel_rfl) rfl ⟨rfl, rfl⟩) ?_
              refine wl_store_blk blkT_block rfl rfl rfl s180 rfl B159 fun w182 B183 k184 => ?_
              have B185 := B155.all k184 (fun i h x => (((ap21).symm) i h x))
              have B186 := B156.all k184 (fun i h x => (((ap22).symm) i h x))
              have B187 := B157.all k184 (fun i h x => (((ap23).symm) i h x))
              have B188 := B158.all k184 (fun x => (((ap24).symm) p1 rfl x))
              have K189 := K160.trans k184 (Grew.ok (S := fun _ => False) gr20 noB_le)
              refine wl_v (.int .i64 (80)) rfl rfl (y_asg rfl rfl ⟨rfl, rfl⟩) ?_
              refine wl_nil fun F190 hF191 => ?_
              have s192 : F190 55 = undef := (hF191 55).trans s178
              have s193 : F190 10 = .pointer (some ⟨p14, 0, none⟩) := (hF191 10).trans s180
              have s194 : F190 11 = .int .i64 (80) := (hF191 11).trans rfl
              clear hF191
              refine then_normal ?_
              refine wq_ret ?_
              refine then_ret ?_
              exact end_2 s192 rfl (res_blk blkT_block rfl s193 B183) (res_tmp (v := .int .i64 (80)) rfl s194) ⟨(by first | rw [(pred_no hno).1, (pred_no hno).2] | rw [(pred_none hpl hm).1, (pred_none hpl hm).2] | rw [(pred_yes hpl hm).1, (pred_yes hpl hm).2]), K189⟩
            · skip
              refine wq_region ?_
              refine wl_v (.int .i64 (mode)) rfl rfl (y_mov rfl s166 ⟨rfl, rfl⟩) ?_
              refine wl_v (.bool false) rfl rfl (y_lss rfl rfl rfl (decide_eq_false d171) ⟨rfl, rfl⟩) ?_
              refine wl_v (.bool false) rfl rfl (y_mov rfl rfl ⟨rfl, rfl⟩) ?_
              refine wl_vw (.int .i64 (mode)) 2 false 36 rfl rfl rfl rfl rfl (y_mov rfl s166 ⟨rfl, rfl⟩) ?_
              refine wl_vw (.bool (decide ((4) ≤ (mode)))) 2 false 36 rfl rfl rfl rfl rfl (y_geq rfl rfl rfl rfl ⟨rfl, rfl⟩) ?_
              refine wl_v (.bool (decide ((4) ≤ (mode)))) rfl rfl (y_pickF rfl rfl rfl ⟨rfl, rfl⟩) ?_
              refine wl_nil fun F195 hF196 => ?_
              have s197 : F195 1 = .int .i64 (p) := (hF196 1).trans s163
              have s198 : F195 2 = .int .i64 (x) := (hF196 2).trans s164
              have s199 : F195 3 = .int .i64 (y) := (hF196 3).trans s165
              have s200 : F195 4 = .int .i64 (mode) := (hF196 4).trans s166
              have s201 : F195 55 = undef := (hF196 55).trans s167
              have s202 : F195 5 = .pointer (some ⟨p1, 0, none⟩) := (hF196 5).trans s168
              have s203 : F195 10 = .pointer (some ⟨p14, 0, none⟩) := (hF196 10).trans s169
              have s204 : F195 39 = .bool (decide ((4) ≤ (mode))) := (hF196 39).trans rfl
              clear hF196
              refine then_normal ?_
              refine wq_cond s204 (fun c205 => ?_) (fun c205 => ?_)
              · replace c205 := of_decide_eq_true c205
                refine wq_seq ?_
                have hm : ¬ (0 ≤ mode ∧ mode ≤ 3) := by omega
                refine wq_region ?_
                refine wl_v (blkV (fun _ => 0)) rfl rfl (y_buildR (cells := (arrL 16 (fun _ => 0)).toArray) rfl (by kernel_rfl) rfl ⟨rfl, rfl⟩) ?_
                refine wl_store_blk blkT_block rfl rfl rfl s203 rfl B159 fun w206 B207 k208 => ?_
                have B209 := B155.all k208 (fun i h x => (((ap21).symm) i h x))
                have B210 := B156.all k208 (fun i h x => (((ap22).symm) i h x))
                have B211 := B157.all k208 (fun i h x => (((ap23).symm) i h x))
                have B212 := B158.all k208 (fun x => (((ap24).symm) p1 rfl x))
                have K213 := K160.trans k208 (Grew.ok (S := fun _ => False) gr20 noB_le)
                refine wl_v (.int .i64 (80)) rfl rfl (y_asg rfl rfl ⟨rfl, rfl⟩) ?_
                refine wl_nil fun F214 hF215 => ?_
                have s216 : F214 55 = undef := (hF215 55).trans s201
                have s217 : F214 10 = .pointer (some ⟨p14, 0, none⟩) := (hF215 10).trans s203
                have s218 : F214 11 = .int .i64 (80) := (hF215 11).trans rfl
                clear hF215
                refine then_normal ?_
                refine wq_ret ?_
                refine then_ret ?_
                exact end_2 s216 rfl (res_blk blkT_block rfl s217 B207) (res_tmp (v := .int .i64 (80)) rfl s218) ⟨(by first | rw [(pred_no hno).1, (pred_no hno).2] | rw [(pred_none hpl hm).1, (pred_none hpl hm).2] | rw [(pred_yes hpl hm).1, (pred_yes hpl hm).2]), K213⟩
              · replace c205 := of_decide_eq_false c205
                refine wq_skip ?_
                refine then_normal ?_
                refine wq_seq ?_
                have hm : 0 ≤ mode ∧ mode ≤ 3 := by omega
                refine wq_tail 14 [some 41, some 42, some 43, some 44, some 45, some 46, some 47, some 48, some 49, some 50, some 51, some 52, some 53, some 54] [Pd.eq (.agg #[.int .i64 ((f).W), .int .i64 ((f).H), f0, f1, f2]), Pd.eq (.int .i64 (p)), Pd.eq (.int .i64 (x)), Pd.eq (.int .i64 (y)), Pd.eq (.agg (arrL 4 (fun k => aboveF (f) (p) (x) (y) ((k : Nat) : Int))).toArray), Pd.eq (.agg #[.int .i64 ((f).W), .int .i64 ((f).H), f0, f1, f2]), Pd.eq (.int .i64 (p)), Pd.eq (.int .i64 (x)), Pd.eq (.int .i64 (y)), Pd.eq (.agg (arrL 4 (fun k => leftF (f) (p) (x) (y) ((k : Nat) : Int))).toArray), Pd.fns (predG (fun k => aboveF (f) (p) (x) (y) ((k : Nat) : Int)) (fun k => leftF (f) (p) (x) (y) ((k : Nat) : Int))), Pd.eq (.int .i64 (mode)), Pd.ask2 4 (predG (fun k => aboveF f p x y ((k : Nat) : Int)) (fun k => leftF f p x y ((k : Nat) : Int)) mode.toNat), Pd.eq (blkV (predN f p x y mode))] (by kernel_rfl) (by kernel_rfl) (by kernel_rfl) ?_ ?_
                · refine stepsF_cons ?_ ?_
                  · refine StepF.one rfl fun F_ w_ hR hout hD => ?_
                    exact (y_load_stc stcT_frame rfl ((hout 5 rfl (by decide)).trans s202) (B158.all hR id) ⟨rfl, Kept.refl _ _⟩)
                  refine stepsF_cons ?_ ?_
                  · refine StepF.one rfl fun F_ w_ hR hout hD => ?_
                    exact (y_mov rfl ((hout 1 rfl (by decide)).trans s197) ⟨rfl, Kept.refl _ _⟩)
                  refine stepsF_cons ?_ ?_
                  · refine StepF.one rfl fun F_ w_ hR hout hD => ?_
                    exact (y_mov rfl ((hout 2 rfl (by decide)).trans s198) ⟨rfl, Kept.refl _ _⟩)
                  refine stepsF_cons ?_ ?_
                  · refine StepF.one rfl fun F_ w_ hR hout hD => ?_
                    exact (y_mov rfl ((hout 3 rfl (by decide)).trans s199) ⟨rfl, Kept.refl _ _⟩)
                  refine stepsF_cons ?_ ?_
                  · refine StepF.one rfl fun F_ w_ hR hout hD => ?_
                    have g41 : F_ 41 = .agg #[.int .i64 ((f).W), .int .i64 ((f).H), f0, f1, f2] := hD.get 0 rfl rfl rfl
                    have g42 : F_ 42 = .int .i64 (p) := hD.get 1 rfl rfl rfl
                    have g43 : F_ 43 = .int .i64 (x) := hD.get 2 rfl rfl rfl
                    have g44 : F_ 44 = .int .i64 (y) := hD.get 3 rfl rfl rfl
                    exact (y_cs rfl rfl rfl (fun _ _ => by kernel_rfl) (ev_func _) (vsC g41 (vsC g42 (vsC g43 (vsC g44 vsN)))) (is_above (p) (x) (y) (f) (f0) (f1) (f2) (T_f0) (T_f1) (T_f2) _ (by omega) (by omega) (B155.all hR Apart.none) (B156.all hR Apart.none) (B157.all hR Apart.none) ) (fun e_ w_ h_ => ⟨_, h_.1, rfl, h_.2⟩))
                  refine stepsF_cons ?_ ?_
                  · refine StepF.one rfl fun F_ w_ hR hout hD => ?_
                    exact (y_load_stc stcT_frame rfl ((hout 5 rfl (by decide)).trans s202) (B158.all hR id) ⟨rfl, Kept.refl _ _⟩)
                  refine stepsF_cons ?_ ?_
                  · refine StepF.one rfl fun F_ w_ hR hout hD => ?_
                    exact (y_mov rfl ((hout 1 rfl (by decide)).trans s197) ⟨rfl, Kept.refl _ _⟩)
                  refine stepsF_cons ?_ ?_
                  · refine StepF.one rfl fun F_ w_ hR hout hD => ?_
                    exact (y_mov rfl ((hout 2 rfl (by decide)).trans s198) ⟨rfl, Kept.refl _ _⟩)
                  refine stepsF_cons ?_ ?_
                  · refine StepF.one rfl fun F_ w_ hR hout hD => ?_
                    exact (y_mov rfl ((hout 3 rfl (by decide)).trans s199) ⟨rfl, Kept.refl _ _⟩)
                  refine stepsF_cons ?_ ?_
                  · refine StepF.one rfl fun F_ w_ hR hout hD => ?_
                    have g46 : F_ 46 = .agg #[.int .i64 ((f).W), .int .i64 ((f).H), f0, f1, f2] := hD.get 0 rfl rfl rfl
                    have g47 : F_ 47 = .int .i64 (p) := hD.get 1 rfl rfl rfl
                    have g48 : F_ 48 = .int .i64 (x) := hD.get 2 rfl rfl rfl
                    have g49 : F_ 49 = .int .i64 (y) := hD.get 3 rfl rfl rfl
                    exact (y_cs rfl rfl rfl (fun _ _ => by kernel_rfl) (ev_func _) (vsC g46 (vsC g47 (vsC g48 (vsC g49 vsN)))) (is_left (p) (x) (y) (f) (f0) (f1) (f2) (T_f0) (T_f1) (T_f2) _ (by omega) (by omega) (B155.all hR Apart.none) (B156.all hR Apart.none) (B157.all hR Apart.none) ) (fun e_ w_ h_ => ⟨_, h_.1, rfl, h_.2⟩))
                  refine stepsF_cons ?_ ?_
                  · refine StepF.one rfl fun F_ w_ hR hout hD => ?_
                    have g45 : F_ 45 = .agg (arrL 4 (fun k => aboveF (f) (p) (x) (y) ((k : Nat) : Int))).toArray := hD.get 0 rfl rfl rfl
                    have g50 : F_ 50 = .agg (arrL 4 (fun k => leftF (f) (p) (x) (y) ((k : Nat) : Int))).toArray := hD.get 1 rfl rfl rfl
                    exact (y_cs rfl rfl rfl (fun _ _ => by kernel_rfl) (ev_func _) (vsC g45 (vsC g50 vsN)) (is_predictions (fun k => aboveF (f) (p) (x) (y) ((k : Nat) : Int)) (fun k => leftF (f) (p) (x) (y) ((k : Nat) : Int))  _ (fun i => above_le hb p x y _) (fun i => left_le hb p x y _)  ) (fun e_ w_ h_ => by obtain ⟨v_, he_, k_, hb_⟩ := h_; exact ⟨v_, he_, hb_, k_⟩))
                  refine stepsF_cons ?_ ?_
                  · refine StepF.one rfl fun F_ w_ hR hout hD => ?_
                    exact (y_mov rfl ((hout 4 rfl (by decide)).trans s200) ⟨rfl, Kept.refl _ _⟩)
                  refine stepsF_cons ?_ ?_
                  · refine StepF.one rfl fun F_ w_ hR hout hD => ?_
                    have g51 : (Pd.fns (predG (fun k => aboveF (f) (p) (x) (y) ((k : Nat) : Int)) (fun k => leftF (f) (p) (x) (y) ((k : Nat) : Int)))).says (F_ 51) w_ := hD.get 0 rfl rfl rfl
                    have g52 : F_ 52 = .int .i64 (mode) := hD.get 1 rfl rfl rfl
                    exact y_ixF (mode.toNat) rfl rfl g51 g52 (by omega) (by omega) fun c_ hc_ => ⟨hc_, Kept.refl _ _⟩
                  refine stepsF_cons ?_ ?_
                  · refine StepF.one rfl fun F_ w_ hR hout hD => ?_
                    have g53 : (Pd.ask2 4 (predG (fun k => aboveF f p x y ((k : Nat) : Int)) (fun k => leftF f p x y ((k : Nat) : Int)) mode.toNat)).says (F_ 53) w_ := hD.get 0 rfl rfl rfl
                    exact (y_cs rfl rfl rfl (fun _ _ => by kernel_rfl) (ev_func _) (vsC rfl vsN) (is_filled (F_ 53) (predG (fun k => aboveF f p x y ((k : Nat) : Int)) (fun k => leftF f p x y ((k : Nat) : Int)) mode.toNat)  _ g53  ) (fun e_ w_ h_ => ⟨_, h_.1, congrArg blkV (predG_is hm), h_.2⟩))
                  exact stepsF_nil
                intro v219 F220 w221 k222 G223 hF224
                have B226 := B155.all k222 Apart.none
                have B227 := B156.all k222 Apart.none
                have B228 := B157.all k222 Apart.none
                have B229 := B158.all k222 id
                have B230 := B159.all k222 id
                have K231 := K160.trans k222 (fun _ _ x => x.elim)
                have s232 : F220 55 = undef := (hF224 55).trans s201
                have s233 : F220 10 = .pointer (some ⟨p14, 0, none⟩) := (hF224 10).trans s203
                have s234 : F220 54 = blkV (predN f p x y mode) := (hF224 54).trans (G223 13 (by decide))
                clear G223 hF224
                refine wl_store_blk blkT_block rfl rfl rfl s233 s234 B230 fun w235 B236 k237 => ?_
                have B238 := B226.all k237 (fun i h x => (((ap21).symm) i h x))
                have B239 := B227.all k237 (fun i h x => (((ap22).symm) i h x))
                have B240 := B228.all k237 (fun i h x => (((ap23).symm) i h x))
                have B241 := B229.all k237 (fun x => (((ap24).symm) p1 rfl x))
                have K242 := K231.trans k237 (Grew.ok (S := fun _ => False) gr20 noB_le)
                refine wl_v (.int .i64 (0)) rfl rfl (y_asg rfl rfl ⟨rfl, rfl⟩) ?_
                refine wl_nil fun F243 hF244 => ?_
                have s245 : F243 55 = undef := (hF244 55).trans s232
                have s246 : F243 10 = .pointer (some ⟨p14, 0, none⟩) := (hF244 10).trans s233
                have s247 : F243 11 = .int .i64 (0) := (hF244 11).trans rfl
                clear hF244
                refine then_normal ?_
                refine wq_ret ?_
                exact end_2 s245 rfl (res_blk blkT_block rfl s246 B236) (res_tmp (v := .int .i64 (0)) rfl s247) ⟨(by first | rw [(pred_no hno).1, (pred_no hno).2] | rw [(pred_none hpl hm).1, (pred_none hpl hm).2] | rw [(pred_yes hpl hm).1, (pred_yes hpl hm).2]), K242⟩
          · skip
            refine wq_region ?_
            refine wl_v (.agg #[.int .i64 ((f).W), .int .i64 ((f).H), f0, f1, f2]) rfl rfl (y_load_stc stcT_frame rfl s37 B28 ⟨rfl, rfl⟩) ?_
            refine wl_call (R := fun v_ w_ => v_ = .int .i64 (checkE (f)) ∧ Kept (fun _ => False) w15 w_) rfl rfl (y_cs rfl rfl rfl (fun _ _ => by kernel_rfl) (ev_func _) (vsC rfl vsN) (pl_check (f) (f0) (f1) (f2) (T_f0) (T_f1) (T_f2) _  B25 B26 B27 ) (fun e_ w_ h_ => ⟨_, h_.1, rfl, h_.2⟩)) ?_
            rintro _ w248 ⟨rfl, k249⟩
            have B250 := B25.all k249 Apart.none
            have B251 := B26.all k249 Apart.none
            have B252 := B27.all k249 Apart.none
            have B253 := B28.all k249 id
            have B254 := B16.all k249 id
            have K255 := K29.trans k249 (fun _ _ x => x.elim)
            refine wl_v (.bool false) rfl rfl (y_neqI rfl rfl rfl (decide_eq_false d39) ⟨rfl, rfl⟩) ?_
            refine wl_v (.bool false) rfl rfl (y_mov rfl rfl ⟨rfl, rfl⟩) ?_
            refine wl_vw (.int .i64 (p)) 3 false 15 rfl rfl rfl rfl rfl (y_mov rfl s32 ⟨rfl, rfl⟩) ?_
            refine wl_vw (.bool false) 3 false 15 rfl rfl rfl rfl rfl (y_lss rfl rfl rfl (decide_eq_false d71) ⟨rfl, rfl⟩) ?_
            refine wl_v (.bool false) rfl rfl (y_pickF rfl rfl rfl ⟨rfl, rfl⟩) ?_
            refine wl_v (.bool false) rfl rfl (y_mov rfl rfl ⟨rfl, rfl⟩) ?_
            refine wl_vw (.int .i64 (p)) 7 false 19 rfl rfl rfl rfl rfl (y_mov rfl s32 ⟨rfl, rfl⟩) ?_
            refine wl_vw (.bool false) 7 false 19 rfl rfl rfl rfl rfl (y_geq rfl rfl rfl (decide_eq_false d103) ⟨rfl, rfl⟩) ?_
            refine wl_v (.bool false) rfl rfl (y_pickF rfl rfl rfl ⟨rfl, rfl⟩) ?_
            refine wl_v (.bool false) rfl rfl (y_mov rfl rfl ⟨rfl, rfl⟩) ?_
            refine wl_vw (.int .i64 (x)) 11 false 23 rfl rfl rfl rfl rfl (y_mov rfl s33 ⟨rfl, rfl⟩) ?_
            refine wl_callw (R := fun v_ w_ => v_ = .bool true ∧ Kept (fun _ => False) w248 w_) 11 false 23 rfl rfl rfl rfl rfl (y_cs rfl rfl rfl (fun _ _ => by kernel_rfl) (ev_func _) (vsC rfl vsN) (is_place (x)  _   ) (fun e_ w_ h_ => ⟨_, h_.1, (congrArg Value.bool (decide_eq_true d135)), h_.2⟩)) ?_
            rintro _ w256 ⟨rfl, k257⟩
            have B258 := B250.all k257 Apart.none
            have B259 := B251.all k257 Apart.none
            have B260 := B252.all k257 Apart.none
            have B261 := B253.all k257 id
            have B262 := B254.all k257 id
            have K263 := K255.trans k257 (fun _ _ x => x.elim)
            refine wl_vw (.bool false) 11 false 23 rfl rfl rfl rfl rfl (y_not rfl rfl rfl ⟨rfl, rfl⟩) ?_
            refine wl_v (.bool false) rfl rfl (y_pickF rfl rfl rfl ⟨rfl, rfl⟩) ?_
            refine wl_v (.bool false) rfl rfl (y_mov rfl rfl ⟨rfl, rfl⟩) ?_
            refine wl_vw (.int .i64 (y)) 16 false 28 rfl rfl rfl rfl rfl (y_mov rfl s34 ⟨rfl, rfl⟩) ?_
            refine wl_callw (R := fun v_ w_ => v_ = .bool false ∧ Kept (fun _ => False) w256 w_) 16 false 28 rfl rfl rfl rfl rfl (y_cs rfl rfl rfl (fun _ _ => by kernel_rfl) (ev_func _) (vsC rfl vsN) (is_place (y)  _   ) (fun e_ w_ h_ => ⟨_, h_.1, (congrArg Value.bool (decide_eq_false d136)), h_.2⟩)) ?_
            rintro _ w264 ⟨rfl, k265⟩
            have B266 := B258.all k265 Apart.none
            have B267 := B259.all k265 Apart.none
            have B268 := B260.all k265 Apart.none
            have B269 := B261.all k265 id
            have B270 := B262.all k265 id
            have K271 := K263.trans k265 (fun _ _ x => x.elim)
            refine wl_vw (.bool true) 16 false 28 rfl rfl rfl rfl rfl (y_not rfl rfl rfl ⟨rfl, rfl⟩) ?_
            refine wl_v (.bool true) rfl rfl (y_pickF rfl rfl rfl ⟨rfl, rfl⟩) ?_
            refine wl_nil fun F272 hF273 => ?_
            have s274 : F272 1 = .int .i64 (p) := (hF273 1).trans s32
            have s275 : F272 2 = .int .i64 (x) := (hF273 2).trans s33
            have s276 : F272 3 = .int .i64 (y) := (hF273 3).trans s34
            have s277 : F272 4 = .int .i64 (mode) := (hF273 4).trans s35
            have s278 : F272 55 = undef := (hF273 55).trans s36
            have s279 : F272 5 = .pointer (some ⟨p1, 0, none⟩) := (hF273 5).trans s37
            have s280 : F272 10 = .pointer (some ⟨p14, 0, none⟩) := (hF273 10).trans s38
            have s281 : F272 32 = .bool true := (hF273 32).trans rfl
            clear hF273
            refine then_normal ?_
            refine wq_cond (t := true) s281 (fun _ => ?_) (fun e => by cases e)
            refine wq_seq ?_
            have hno : ¬ placeF f p x y := by rintro ⟨h1, h2, h3, h4, h5, h6, h7⟩; first | exact absurd ((checkE_iff f).2 h1) (by assumption) | omega
            refine wq_region ?_
            refine wl_v (blkV (fun _ => 0)) rfl rfl (y_buildR (cells := (arrL 16 (fun _ => 0)).toArray) rfl (by kernel_rfl) rfl ⟨rfl, rfl⟩) ?_
            refine wl_store_blk blkT_block rfl rfl rfl s280 rfl B270 fun w282 B283 k284 => ?_
            have B285 := B266.all k284 (fun i h x => (((ap21).symm) i h x))
            have B286 := B267.all k284 (fun i h x => (((ap22).symm) i h x))
            have B287 := B268.all k284 (fun i h x => (((ap23).symm) i h x))
            have B288 := B269.all k284 (fun x => (((ap24).symm) p1 rfl x))
            have K289 := K271.trans k284 (Grew.ok (S := fun _ => False) gr20 noB_le)
            refine wl_v (.int .i64 (70)) rfl rfl (y_asg rfl rfl ⟨rfl, rfl⟩) ?_
            refine wl_nil fun F290 hF291 => ?_
            have s292 : F290 55 = undef := (hF291 55).trans s278
            have s293 : F290 10 = .pointer (some ⟨p14, 0, none⟩) := (hF291 10).trans s280
            have s294 : F290 11 = .int .i64 (70) := (hF291 11).trans rfl
            clear hF291
            refine then_normal ?_
            refine wq_ret ?_
            refine then_ret ?_
            exact end_2 s292 rfl (res_blk blkT_block rfl s293 B283) (res_tmp (v := .int .i64 (70)) rfl s294) ⟨(by first | rw [(pred_no hno).1, (pred_no hno).2] | rw [(pred_none hpl hm).1, (pred_none hpl hm).2] | rw [(pred_yes hpl hm).1, (pred_yes hpl hm).2]), K289⟩
        · skip
          refine wq_region ?_
          refine wl_v (.agg #[.int .i64 ((f).W), .int .i64 ((f).H), f0, f1, f2]) rfl rfl (y_load_stc stcT_frame rfl s37 B28 ⟨rfl, rfl⟩) ?_
          refine wl_call (R := fun v_ w_ => v_ = .int .i64 (checkE (f)) ∧ Kept (fun _ => False) w15 w_) rfl rfl (y_cs rfl rfl rfl (fun _ _ => by kernel_rfl) (ev_func _) (vsC rfl vsN) (pl_check (f) (f0) (f1) (f2) (T_f0) (T_f1) (T_f2) _  B25 B26 B27 ) (fun e_ w_ h_ => ⟨_, h_.1, rfl, h_.2⟩)) ?_
          rintro _ w295 ⟨rfl, k296⟩
          have B297 := B25.all k296 Apart.none
          have B298 := B26.all k296 Apart.none
          have B299 := B27.all k296 Apart.none
          have B300 := B28.all k296 id
          have B301 := B16.all k296 id
          have K302 := K29.trans k296 (fun _ _ x => x.elim)
          refine wl_v (.bool false) rfl rfl (y_neqI rfl rfl rfl (decide_eq_false d39) ⟨rfl, rfl⟩) ?_
          refine wl_v (.bool false) rfl rfl (y_mov rfl rfl ⟨rfl, rfl⟩) ?_
          refine wl_vw (.int .i64 (p)) 3 false 15 rfl rfl rfl rfl rfl (y_mov rfl s32 ⟨rfl, rfl⟩) ?_
          refine wl_vw (.bool false) 3 false 15 rfl rfl rfl rfl rfl (y_lss rfl rfl rfl (decide_eq_false d71) ⟨rfl, rfl⟩) ?_
          refine wl_v (.bool false) rfl rfl (y_pickF rfl rfl rfl ⟨rfl, rfl⟩) ?_
          refine wl_v (.bool false) rfl rfl (y_mov rfl rfl ⟨rfl, rfl⟩) ?_
          refine wl_vw (.int .i64 (p)) 7 false 19 rfl rfl rfl rfl rfl (y_mov rfl s32 ⟨rfl, rfl⟩) ?_
          refine wl_vw (.bool false) 7 false 19 rfl rfl rfl rfl rfl (y_geq rfl rfl rfl (decide_eq_false d103) ⟨rfl, rfl⟩) ?_
          refine wl_v (.bool false) rfl rfl (y_pickF rfl rfl rfl ⟨rfl, rfl⟩) ?_
          refine wl_v (.bool false) rfl rfl (y_mov rfl rfl ⟨rfl, rfl⟩) ?_
          refine wl_vw (.int .i64 (x)) 11 false 23 rfl rfl rfl rfl rfl (y_mov rfl s33 ⟨rfl, rfl⟩) ?_
          refine wl_callw (R := fun v_ w_ => v_ = .bool false ∧ Kept (fun _ => False) w295 w_) 11 false 23 rfl rfl rfl rfl rfl (y_cs rfl rfl rfl (fun _ _ => by kernel_rfl) (ev_func _) (vsC rfl vsN) (is_place (x)  _   ) (fun e_ w_ h_ => ⟨_, h_.1, (congrArg Value.bool (decide_eq_false d135)), h_.2⟩)) ?_
          rintro _ w303 ⟨rfl, k304⟩
          have B305 := B297.all k304 Apart.none
          have B306 := B298.all k304 Apart.none
          have B307 := B299.all k304 Apart.none
          have B308 := B300.all k304 id
          have B309 := B301.all k304 id
          have K310 := K302.trans k304 (fun _ _ x => x.elim)
          refine wl_vw (.bool true) 11 false 23 rfl rfl rfl rfl rfl (y_not rfl rfl rfl ⟨rfl, rfl⟩) ?_
          refine wl_v (.bool true) rfl rfl (y_pickF rfl rfl rfl ⟨rfl, rfl⟩) ?_
          refine wl_v (.bool true) rfl rfl (y_mov rfl rfl ⟨rfl, rfl⟩) ?_
          refine wl_unless 16 false 28 rfl rfl rfl (Or.inl rfl) rfl ?_
          refine wl_unless 16 false 28 rfl rfl rfl (Or.inl rfl) rfl ?_
          refine wl_unless 16 false 28 rfl rfl rfl (Or.inl rfl) rfl ?_
          refine wl_v (.bool true) rfl rfl (y_pickT rfl rfl rfl ⟨rfl, rfl⟩) ?_
          refine wl_nil fun F311 hF312 => ?_
          have s313 : F311 1 = .int .i64 (p) := (hF312 1).trans s32
          have s314 : F311 2 = .int .i64 (x) := (hF312 2).trans s33
          have s315 : F311 3 = .int .i64 (y) := (hF312 3).trans s34
          have s316 : F311 4 = .int .i64 (mode) := (hF312 4).trans s35
          have s317 : F311 55 = undef := (hF312 55).trans s36
          have s318 : F311 5 = .pointer (some ⟨p1, 0, none⟩) := (hF312 5).trans s37
          have s319 : F311 10 = .pointer (some ⟨p14, 0, none⟩) := (hF312 10).trans s38
          have s320 : F311 32 = .bool true := (hF312 32).trans rfl
          clear hF312
          refine then_normal ?_
          refine wq_cond (t := true) s320 (fun _ => ?_) (fun e => by cases e)
          refine wq_seq ?_
          have hno : ¬ placeF f p x y := by rintro ⟨h1, h2, h3, h4, h5, h6, h7⟩; first | exact absurd ((checkE_iff f).2 h1) (by assumption) | omega
          refine wq_region ?_
          refine wl_v (blkV (fun _ => 0)) rfl rfl (y_buildR (cells := (arrL 16 (fun _ => 0)).toArray) rfl (by kernel_rfl) rfl ⟨rfl, rfl⟩) ?_
          refine wl_store_blk blkT_block rfl rfl rfl s319 rfl B309 fun w321 B322 k323 => ?_
          have B324 := B305.all k323 (fun i h x => (((ap21).symm) i h x))
          have B325 := B306.all k323 (fun i h x => (((ap22).symm) i h x))
          have B326 := B307.all k323 (fun i h x => (((ap23).symm) i h x))
          have B327 := B308.all k323 (fun x => (((ap24).symm) p1 rfl x))
          have K328 := K310.trans k323 (Grew.ok (S := fun _ => False) gr20 noB_le)
          refine wl_v (.int .i64 (70)) rfl rfl (y_asg rfl rfl ⟨rfl, rfl⟩) ?_
          refine wl_nil fun F329 hF330 => ?_
          have s331 : F329 55 = undef := (hF330 55).trans s317
          have s332 : F329 10 = .pointer (some ⟨p14, 0, none⟩) := (hF330 10).trans s319
          have s333 : F329 11 = .int .i64 (70) := (hF330 11).trans rfl
          clear hF330
          refine then_normal ?_
          refine wq_ret ?_
          refine then_ret ?_
          exact end_2 s331 rfl (res_blk blkT_block rfl s332 B322) (res_tmp (v := .int .i64 (70)) rfl s333) ⟨(by first | rw [(pred_no hno).1, (pred_no hno).2] | rw [(pred_none hpl hm).1, (pred_none hpl hm).2] | rw [(pred_yes hpl hm).1, (pred_yes hpl hm).2]), K328⟩
set_option maxHeartbeats 4000000 in
set_option maxRecDepth 100000 in
theorem il_cost (a b : Nat → Int) (w0 : World) :
    Calls Try.prog 15 #[blkV (a), blkV (b)] w0 fun e w' => e = .returned (.int .i64 (costF a b)) ∧ Kept (fun _ => False) w0 w' := by
  refine calls_wq (args := [blkV (a), blkV (b)]) 31 Try.func15 rfl rfl (Nat.le_of_ble_eq_true rfl) ?_
  have K0 := Kept.refl (fun _ => False) w0
  refine wq_seq ?_
  refine wq_region ?_
  refine wl_box_blk rfl rfl rfl rfl fun p1 w2 e5 B3 k4 => ?_
  have g6 := onB_new (Nat.le_of_eq e5.symm)
  have gr7 : Grew w0 noB (onB p1) := Grew.new K0 g6
  clear e5 g6
  have K8 := K0.trans k4 (fun _ _ x => x.elim)
  refine wl_box_blk rfl rfl rfl rfl fun p9 w10 e13 B11 k12 => ?_
  have g14 := onB_new (Nat.le_of_eq e13.symm)
  have gr15 : Grew w0 noB (onB p9) := Grew.new K8 g14
  have ap16 : Apart (onB p9) (onB p1) := Apart.new g14 (onB_live (B3).lt)
  clear e13 g14
  have B17 := B3.all k12 id
  have K18 := K8.trans k12 (fun _ _ x => x.elim)
  refine wl_v (.int .i64 (0)) rfl rfl (y_asg rfl rfl ⟨rfl, rfl⟩) ?_
  refine wl_nil fun F19 hF20 => ?_
  have s21 : F19 31 = undef := (hF20 31).trans rfl
  have s22 : F19 2 = .pointer (some ⟨p1, 0, none⟩) := (hF20 2).trans rfl
  have s23 : F19 3 = .pointer (some ⟨p9, 0, none⟩) := (hF20 3).trans rfl
  clear hF20
  refine then_normal ?_
  refine wq_seq ?_
  refine wq_region ?_
  refine wl_v (.int .i64 (0)) rfl rfl (y_asg rfl rfl ⟨rfl, rfl⟩) ?_
  refine wl_nil fun F24 hF25 => ?_
  have s26 : F24 31 = undef := (hF25 31).trans s21
  have s27 : F24 2 = .pointer (some ⟨p1, 0, none⟩) := (hF25 2).trans s22
  have s28 : F24 3 = .pointer (some ⟨p9, 0, none⟩) := (hF25 3).trans s23
  have s29 : F24 5 = .int .i64 (0) := (hF25 5).trans rfl
  clear hF25
  refine then_normal ?_
  refine wq_seq ?_
  refine wq_seq ?_
  refine wq_region ?_
  refine wl_v (.int .i64 (0)) rfl rfl (y_mov rfl rfl ⟨rfl, rfl⟩) ?_
  refine wl_nil fun F30 hF31 => ?_
  have s32 : F30 31 = undef := (hF31 31).trans s26
  have s33 : F30 2 = .pointer (some ⟨p1, 0, none⟩) := (hF31 2).trans s27
  have s34 : F30 3 = .pointer (some ⟨p9, 0, none⟩) := (hF31 3).trans s28
  have s35 : F30 5 = .int .i64 (0) := (hF31 5).trans s29
  have s36 : F30 9 = .int .i64 (0) := (hF31 9).trans rfl
  clear hF31
  refine then_normal ?_
  refine wq_block ?_
  refine wq_loop (fun nn FF ww => ∃ (i : Nat), (i ≤ 16) ∧ nn = 16 - i ∧ FF 2 = .pointer (some ⟨p1, 0, none⟩) ∧ FF 3 = .pointer (some ⟨p9, 0, none⟩) ∧ FF 31 = undef ∧ FF 5 = .int .i64 (costTo a b i) ∧ FF 9 = .int .i64 (((i : Nat) : Int)) ∧ Kept (fun _ => False) w0 ww ∧ Blk ww p1 29 (a) ∧ Blk ww p9 29 (b)) (16 - (0)) ⟨0, by omega, rfl, s33, s34, s32, s35, s36, K18, B17, B11⟩ ?_
  rintro n40 F37 w38 ⟨i, i41, hn40, s42, s43, s44, s45, s46, K39, B47, B48⟩
  refine wq_seq ?_
  refine wq_region ?_
  refine wl_v (.bool (decide ((((i : Nat) : Int)) < (16)))) rfl rfl (y_lss rfl s46 rfl rfl ⟨rfl, rfl⟩) ?_
  refine wl_nil fun F49 hF50 => ?_
  have s51 : F49 2 = .pointer (some ⟨p1, 0, none⟩) := (hF50 2).trans s42
  have s52 : F49 3 = .pointer (some ⟨p9, 0, none⟩) := (hF50 3).trans s43
  have s53 : F49 31 = undef := (hF50 31).trans s44
  have s54 : F49 5 = .int .i64 (costTo a b i) := (hF50 5).trans s45
  have s55 : F49 9 = .int .i64 (((i : Nat) : Int)) := (hF50 9).trans s46
  have s56 : F49 10 = .bool (decide ((((i : Nat) : Int)) < (16))) := (hF50 10).trans rfl
  clear hF50
  refine then_normal ?_
  refine wq_seq ?_
  refine wq_cond s56 (fun c57 => ?_) (fun c57 => ?_)
  · replace c57 := of_decide_eq_true c57
    refine wq_skip ?_
    refine then_normal ?_
    refine wq_seq ?_
    refine wq_block ?_
    refine wq_seq ?_
    refine wq_region ?_
    refine wl_v (.int .i64 (((i : Nat) : Int))) rfl rfl (y_mov rfl s55 ⟨rfl, rfl⟩) ?_
    refine wl_v (.int .i64 (((i : Nat) : Int))) rfl rfl (y_asg rfl rfl ⟨rfl, rfl⟩) ?_
    refine wl_nil fun F58 hF59 => ?_
    have s60 : F58 2 = .pointer (some ⟨p1, 0, none⟩) := (hF59 2).trans s51
    have s61 : F58 3 = .pointer (some ⟨p9, 0, none⟩) := (hF59 3).trans s52
    have s62 : F58 31 = undef := (hF59 31).trans s53
    have s63 : F58 5 = .int .i64 (costTo a b i) := (hF59 5).trans s54
    have s64 : F58 9 = .int .i64 (((i : Nat) : Int)) := (hF59 9).trans s55
    have s65 : F58 6 = .int .i64 (((i : Nat) : Int)) := (hF59 6).trans rfl
    clear hF59
    refine then_normal ?_
    refine wq_seq ?_
    refine wq_said [some 12, some 13, some 14, some 15, some 16, some 17, some 18, some 19, some 7, some 8] [Pd.eq (.int .i64 (((i : Nat) : Int))), Pd.eq (.pointer (some ⟨p1, i, none⟩)), Pd.eq (.int .i64 ((a) (i))), Pd.eq (.int .i64 (cl 1048576 ((a) (i)))), Pd.eq (.int .i64 (((i : Nat) : Int))), Pd.eq (.pointer (some ⟨p9, i, none⟩)), Pd.eq (.int .i64 ((b) (i))), Pd.eq (.int .i64 (cl 1048576 ((b) (i)))), Pd.eq (.int .i64 (cl 1048576 ((a) (i)))), Pd.eq (.int .i64 (cl 1048576 ((b) (i))))] (by kernel_rfl) (by kernel_rfl) ?_ ?_
    · refine stepsF_cons ?_ ?_
      · refine StepF.one rfl fun F_ w_ hR hout hD => ?_
        exact (y_mov rfl ((hout 6 rfl (by decide)).trans s65) ⟨rfl, Kept.refl _ _⟩)
      refine stepsF_cons ?_ ?_
      · refine StepF.one rfl fun F_ w_ hR hout hD => ?_
        have g12 : F_ 12 = .int .i64 (((i : Nat) : Int)) := hD.get 0 rfl rfl rfl
        exact (y_atR (i) (s := 1) rfl ((hout 2 rfl (by decide)).trans s60) g12 (by omega) Try.underlying29 (by omega) (by kernel_rfl) (by omega) ⟨rfl, Kept.refl _ _⟩)
      refine stepsF_cons ?_ ?_
      · refine StepF.one rfl fun F_ w_ hR hout hD => ?_
        have g13 : F_ 13 = .pointer (some ⟨p1, i, none⟩) := hD.get 0 rfl rfl rfl
        exact (y_ldR rfl g13 Try.underlying3 (((B47.all hR id)).cell (by omega)) ⟨rfl, Kept.refl _ _⟩)
      refine stepsF_cons ?_ ?_
      · refine StepF.one rfl fun F_ w_ hR hout hD => ?_
        have g14 : F_ 14 = .int .i64 ((a) (i)) := hD.get 0 rfl rfl rfl
        exact (y_cs rfl rfl rfl (fun _ _ => by kernel_rfl) (ev_func _) (vsC g14 vsN) (is_clamped ((a) (i))  _   ) (fun e_ w_ h_ => ⟨_, h_.1, rfl, h_.2⟩))
      refine stepsF_cons ?_ ?_
      · refine StepF.one rfl fun F_ w_ hR hout hD => ?_
        exact (y_mov rfl ((hout 6 rfl (by decide)).trans s65) ⟨rfl, Kept.refl _ _⟩)
      refine stepsF_cons ?_ ?_
      · refine StepF.one rfl fun F_ w_ hR hout hD => ?_
        have g16 : F_ 16 = .int .i64 (((i : Nat) : Int)) := hD.get 0 rfl rfl rfl
        exact (y_atR (i) (s := 1) rfl ((hout 3 rfl (by decide)).trans s61) g16 (by omega) Try.underlying29 (by omega) (by kernel_rfl) (by omega) ⟨rfl, Kept.refl _ _⟩)
      refine stepsF_cons ?_ ?_
      · refine StepF.one rfl fun F_ w_ hR hout hD => ?_
        have g17 : F_ 17 = .pointer (some ⟨p9, i, none⟩) := hD.get 0 rfl rfl rfl
        exact (y_ldR rfl g17 Try.underlying3 (((B48.all hR id)).cell (by omega)) ⟨rfl, Kept.refl _ _⟩)
      refine stepsF_cons ?_ ?_
      · refine StepF.one rfl fun F_ w_ hR hout hD => ?_
        have g18 : F_ 18 = .int .i64 ((b) (i)) := hD.get 0 rfl rfl rfl
        exact (y_cs rfl rfl rfl (fun _ _ => by kernel_rfl) (ev_func _) (vsC g18 vsN) (is_clamped ((b) (i))  _   ) (fun e_ w_ h_ => ⟨_, h_.1, rfl, h_.2⟩))
      refine stepsF_cons ?_ ?_
      · refine StepF.one rfl fun F_ w_ hR hout hD => ?_
        have g15 : F_ 15 = .int .i64 (cl 1048576 ((a) (i))) := hD.get 0 rfl rfl rfl
        exact (y_asg rfl g15 ⟨rfl, Kept.refl _ _⟩)
      refine stepsF_cons ?_ ?_
      · refine StepF.one rfl fun F_ w_ hR hout hD => ?_
        have g19 : F_ 19 = .int .i64 (cl 1048576 ((b) (i))) := hD.get 0 rfl rfl rfl
        exact (y_asg rfl g19 ⟨rfl, Kept.refl _ _⟩)
      exact stepsF_nil
    intro v66 F67 w68 k69 G70 hF71
    have B73 := B47.all k69 id
    have B74 := B48.all k69 id
    have K75 := K39.trans k69 (fun _ _ x => x.elim)
    have s76 : F67 2 = .pointer (some ⟨p1, 0, none⟩) := (hF71 2).trans s60
    have s77 : F67 3 = .pointer (some ⟨p9, 0, none⟩) := (hF71 3).trans s61
    have s78 : F67 31 = undef := (hF71 31).trans s62
    have s79 : F67 5 = .int .i64 (costTo a b i) := (hF71 5).trans s63
    have s80 : F67 9 = .int .i64 (((i : Nat) : Int)) := (hF71 9).trans s64
    have s81 : F67 7 = .int .i64 (cl 1048576 ((a) (i))) := (hF71 7).trans (G70 8 (by decide))
    have s82 : F67 8 = .int .i64 (cl 1048576 ((b) (i))) := (hF71 8).trans (G70 9 (by decide))
    clear G70 hF71
    refine then_normal ?_
    have hc := costTo_le a b i
    have h1 := cl_20 (a i)
    have h2 := cl_20 (b i)
    refine wq_region ?_
    refine wl_v (.int .i64 (costTo a b i)) rfl rfl (y_mov rfl s79 ⟨rfl, rfl⟩) ?_
    refine wl_v (.int .i64 (cl 1048576 ((a) (i)))) rfl rfl (y_mov rfl s81 ⟨rfl, rfl⟩) ?_
    refine wl_v (.int .i64 (cl 1048576 ((b) (i)))) rfl rfl (y_mov rfl s82 ⟨rfl, rfl⟩) ?_
    refine wl_v (.int .i64 (max (cl 1048576 ((a) (i))) (cl 1048576 ((b) (i))))) rfl rfl (y_maxR rfl rfl rfl rfl ⟨rfl, rfl⟩) ?_
    refine wl_v (.int .i64 (cl 1048576 ((a) (i)))) rfl rfl (y_mov rfl s81 ⟨rfl, rfl⟩) ?_
    refine wl_v (.int .i64 (cl 1048576 ((b) (i)))) rfl rfl (y_mov rfl s82 ⟨rfl, rfl⟩) ?_
    refine wl_v (.int .i64 (min (cl 1048576 ((a) (i))) (cl 1048576 ((b) (i))))) rfl rfl (y_minR rfl rfl rfl rfl ⟨rfl, rfl⟩) ?_
    refine wl_v (.int .i64 (max (cl 1048576 (a i) - cl 1048576 (b i)) (-(cl 1048576 (a i) - cl 1048576 (b i))))) rfl rfl (y_sub rfl rfl rfl (i64_i (by omega) (by omega)) ⟨rfl, rfl⟩) ?_
    refine wl_v (.int .i64 ((costTo a b i) + (max (cl 1048576 (a i) - cl 1048576 (b i)) (-(cl 1048576 (a i) - cl 1048576 (b i)))))) rfl rfl (y_add rfl rfl rfl (i64_i rfl (by omega)) ⟨rfl, rfl⟩) ?_
    refine wl_v (.int .i64 ((costTo a b i) + (max (cl 1048576 (a i) - cl 1048576 (b i)) (-(cl 1048576 (a i) - cl 1048576 (b i)))))) rfl rfl (y_asg rfl rfl ⟨rfl, rfl⟩) ?_
    refine wl_nil fun F83 hF84 => ?_
    have s85 : F83 2 = .pointer (some ⟨p1, 0, none⟩) := (hF84 2).trans s76
    have s86 : F83 3 = .pointer (some ⟨p9, 0, none⟩) := (hF84 3).trans s77
    have s87 : F83 31 = undef := (hF84 31).trans s78
    have s88 : F83 9 = .int .i64 (((i : Nat) : Int)) := (hF84 9).trans s80
    have s89 : F83 5 = .int .i64 ((costTo a b i) + (max (cl 1048576 (a i) - cl 1048576 (b i)) (-(cl 1048576 (a i) - cl 1048576 (b i))))) := (hF84 5).trans rfl
    clear hF84
    refine in_normal ?_
    refine then_normal ?_
    refine wq_region ?_
    refine wl_v (.int .i64 (((i + 1 : Nat) : Int))) rfl rfl (y_add rfl s88 rfl (i64_n (by omega) (by omega)) ⟨rfl, rfl⟩) ?_
    refine wl_v (.int .i64 (((i + 1 : Nat) : Int))) rfl rfl (y_mov rfl rfl ⟨rfl, rfl⟩) ?_
    refine wl_nil fun F90 hF91 => ?_
    have s92 : F90 2 = .pointer (some ⟨p1, 0, none⟩) := (hF91 2).trans s85
    have s93 : F90 3 = .pointer (some ⟨p9, 0, none⟩) := (hF91 3).trans s86
    have s94 : F90 31 = undef := (hF91 31).trans s87
    have s95 : F90 5 = .int .i64 ((costTo a b i) + (max (cl 1048576 (a i) - cl 1048576 (b i)) (-(cl 1048576 (a i) - cl 1048576 (b i))))) := (hF91 5).trans s89
    have s96 : F90 9 = .int .i64 (((i + 1 : Nat) : Int)) := (hF91 9).trans rfl
    clear hF91
    exact then_normal ⟨(16 - (i + 1)), by omega, i + 1, by omega, rfl, s92, s93, s94, s95, s96, K75, B73, B74⟩
  · replace c57 := of_decide_eq_false c57
    refine wq_exit ?_
    refine then_exit ?_
    refine then_exit ?_
    have l97 : 16 = i := by omega
    subst l97
    refine in_here ?_
    refine then_normal ?_
    refine wq_seq ?_
    refine wq_region ?_
    refine wl_v (.int .i64 (costTo a b 16)) rfl rfl (y_mov rfl s54 ⟨rfl, rfl⟩) ?_
    refine wl_v (.int .i64 (costTo a b 16)) rfl rfl (y_asg rfl rfl ⟨rfl, rfl⟩) ?_
    refine wl_nil fun F98 hF99 => ?_
    have s100 : F98 31 = undef := (hF99 31).trans s53
    have s101 : F98 4 = .int .i64 (costTo a b 16) := (hF99 4).trans rfl
    clear hF99
    refine then_normal ?_
    refine wq_ret ?_
    exact end_tmp (v := .int .i64 (costTo a b 16)) s100 rfl rfl s101 ⟨rfl, K39⟩
set_option maxHeartbeats 4000000 in
set_option maxRecDepth 100000 in
theorem il_best (p x y : Int) (b : Nat → Int) (f : FD) (f0 f1 f2 : Value) (T_f0 : Nat → Prop) (T_f1 : Nat → Prop) (T_f2 : Nat → Prop) (w0 : World) (h_f0 : Byt w0 T_f0 f0 ((f).p0)) (h_f1 : Byt w0 T_f1 f1 ((f).p1)) (h_f2 : Byt w0 T_f2 f2 ((f).p2)) :
    Calls Try.prog 13 #[.agg #[.int .i64 ((f).W), .int .i64 ((f).H), f0, f1, f2], .int .i64 (p), .int .i64 (x), .int .i64 (y), blkV (b)] w0 fun e w' => e = .returned (.tuple #[.int .i64 ((bestF f p x y b).1), .int .i64 ((bestF f p x y b).2)]) ∧ Kept (fun _ => False) w0 w' := by
  refine calls_wq (args := [.agg #[.int .i64 ((f).W), .int .i64 ((f).H), f0, f1, f2], .int .i64 (p), .int .i64 (x), .int .i64 (y), blkV (b)]) 47 Try.func13 rfl rfl (Nat.le_of_ble_eq_true rfl) ?_
  have K0 := Kept.refl (fun _ => False) w0
  have g_f0 := Grew.refl w0 T_f0
  have g_f1 := Grew.refl w0 T_f1
  have g_f2 := Grew.refl w0 T_f2
  refine wq_seq ?_
  refine wq_region ?_
  refine wl_box_stc (vs := [.int .i64 ((f).W), .int .i64 ((f).H), f0, f1, f2]) rfl rfl rfl rfl fun p1 w2 B4 g5 k3 => ?_
  have gr6 : Grew w0 noB (onB p1) := Grew.new K0 g5
  have ap7 : Apart (onB p1) (T_f0) := Apart.new g5 (h_f0).live
  have ap8 : Apart (onB p1) (T_f1) := Apart.new g5 (h_f1).live
  have ap9 : Apart (onB p1) (T_f2) := Apart.new g5 (h_f2).live
  have B10 := h_f0.all k3 Apart.none
  have B11 := h_f1.all k3 Apart.none
  have B12 := h_f2.all k3 Apart.none
  have K13 := K0.trans k3 (fun _ _ x => x.elim)
  refine wl_box_blk rfl rfl rfl rfl fun p14 w15 e18 B16 k17 => ?_
  have g19 := onB_new (Nat.le_of_eq e18.symm)
  have gr20 : Grew w0 noB (onB p14) := Grew.new K13 g19
  have ap21 : Apart (onB p14) (T_f0) := Apart.new g19 (B10).live
  have ap22 : Apart (onB p14) (T_f1) := Apart.new g19 (B11).live
  have ap23 : Apart (onB p14) (T_f2) := Apart.new g19 (B12).live
  have ap24 : Apart (onB p14) (onB p1) := Apart.new g19 (onB_live (B4).lt)
  clear e18 g19
  have B25 := B10.all k17 Apart.none
  have B26 := B11.all k17 Apart.none
  have B27 := B12.all k17 Apart.none
  have B28 := B4.all k17 id
  have K29 := K13.trans k17 (fun _ _ x => x.elim)
  refine wl_v (.int .i64 (0)) rfl rfl (y_asg rfl rfl ⟨rfl, rfl⟩) ?_
  refine wl_v (.int .i64 (0)) rfl rfl (y_asg rfl rfl ⟨rfl, rfl⟩) ?_
  refine wl_nil fun F30 hF31 => ?_
  have s32 : F30 1 = .int .i64 (p) := (hF31 1).trans rfl
  have s33 : F30 2 = .int .i64 (x) := (hF31 2).trans rfl
  have s34 : F30 3 = .int .i64 (y) := (hF31 3).trans rfl
  have s35 : F30 47 = undef := (hF31 47).trans rfl
  have s36 : F30 5 = .pointer (some ⟨p1, 0, none⟩) := (hF31 5).trans rfl
  have s37 : F30 9 = .pointer (some ⟨p14, 0, none⟩) := (hF31 9).trans rfl
  clear hF31
  refine then_normal ?_
  refine wq_seq ?_
  refine wq_region ?_
  refine wl_v (.int .i64 (-1)) rfl rfl (y_asg rfl rfl ⟨rfl, rfl⟩) ?_
  refine wl_v (.int .i64 (-1)) rfl rfl (y_asg rfl rfl ⟨rfl, rfl⟩) ?_
  refine wl_nil fun F38 hF39 => ?_
  have s40 : F38 1 = .int .i64 (p) := (hF39 1).trans s32
  have s41 : F38 2 = .int .i64 (x) := (hF39 2).trans s33
  have s42 : F38 3 = .int .i64 (y) := (hF39 3).trans s34
  have s43 : F38 47 = undef := (hF39 47).trans s35
  have s44 : F38 5 = .pointer (some ⟨p1, 0, none⟩) := (hF39 5).trans s36
  have s45 : F38 9 = .pointer (some ⟨p14, 0, none⟩) := (hF39 9).trans s37
  have s46 : F38 12 = .int .i64 (-1) := (hF39 12).trans rfl
  have s47 : F38 13 = .int .i64 (-1) := (hF39 13).trans rfl
  clear hF39
  refine then_normal ?_
  refine wq_seq ?_
  refine wq_seq ?_
  refine wq_region ?_
  refine wl_v (.int .i64 (0)) rfl rfl (y_mov rfl rfl ⟨rfl, rfl⟩) ?_
  refine wl_nil fun F48 hF49 => ?_
  have s50 : F48 1 = .int .i64 (p) := (hF49 1).trans s40
  have s51 : F48 2 = .int .i64 (x) := (hF49 2).trans s41
  have s52 : F48 3 = .int .i64 (y) := (hF49 3).trans s42
  have s53 : F48 47 = undef := (hF49 47).trans s43
  have s54 : F48 5 = .pointer (some ⟨p1, 0, none⟩) := (hF49 5).trans s44
  have s55 : F48 9 = .pointer (some ⟨p14, 0, none⟩) := (hF49 9).trans s45
  have s56 : F48 12 = .int .i64 (-1) := (hF49 12).trans s46
  have s57 : F48 13 = .int .i64 (-1) := (hF49 13).trans s47
  have s58 : F48 18 = .int .i64 (0) := (hF49 18).trans rfl
  clear hF49
  refine then_normal ?_
  refine wq_block ?_
  refine wq_loop (fun nn FF ww => ∃ (k : Nat), (k ≤ 4) ∧ (k = 0 ∨ placeF f p x y) ∧ nn = 4 - k ∧ FF 1 = .int .i64 (p) ∧ FF 2 = .int .i64 (x) ∧ FF 3 = .int .i64 (y) ∧ FF 5 = .pointer (some ⟨p1, 0, none⟩) ∧ FF 9 = .pointer (some ⟨p14, 0, none⟩) ∧ FF 47 = undef ∧ FF 12 = .int .i64 ((bestTo f p x y b k).1) ∧ FF 13 = .int .i64 ((bestTo f p x y b k).2) ∧ FF 18 = .int .i64 (((k : Nat) : Int)) ∧ Kept (fun _ => False) w0 ww ∧ Byt ww (T_f0) f0 ((f).p0) ∧ Byt ww (T_f1) f1 ((f).p1) ∧ Byt ww (T_f2) f2 ((f).p2) ∧ Stc ww p1 25 [.int .i64 ((f).W), .int .i64 ((f).H), f0, f1, f2] ∧ Blk ww p14 29 (b)) (4 - (0)) ⟨0, by omega, (Or.inl rfl), rfl, s50, s51, s52, s54, s55, s53, s56, s57, s58, K29, B25, B26, B27, B28, B16⟩ ?_
  rintro n62 F59 w60 ⟨k, i63, hI, hn62, s64, s65, s66, s67, s68, s69, s70, s71, s72, K61, B73, B74, B75, B76, B77⟩
  refine wq_seq ?_
  refine wq_region ?_
  refine wl_v (.bool (decide ((((k : Nat) : Int)) < (4)))) rfl rfl (y_lss rfl s72 rfl rfl ⟨rfl, rfl⟩) ?_
  refine wl_nil fun F78 hF79 => ?_
  have s80 : F78 1 = .int .i64 (p) := (hF79 1).trans s64
  have s81 : F78 2 = .int .i64 (x) := (hF79 2).trans s65
  have s82 : F78 3 = .int .i64 (y) := (hF79 3).trans s66
  have s83 : F78 5 = .pointer (some ⟨p1, 0, none⟩) := (hF79 5).trans s67
  have s84 : F78 9 = .pointer (some ⟨p14, 0, none⟩) := (hF79 9).trans s68
  have s85 : F78 47 = undef := (hF79 47).trans s69
  have s86 : F78 12 = .int .i64 ((bestTo f p x y b k).1) := (hF79 12).trans s70
  have s87 : F78 13 = .int .i64 ((bestTo f p x y b k).2) := (hF79 13).trans s71
  have s88 : F78 18 = .int .i64 (((k : Nat) : Int)) := (hF79 18).trans s72
  have s89 : F78 19 = .bool (decide ((((k : Nat) : Int)) < (4))) := (hF79 19).trans rfl
  clear hF79
  refine then_normal ?_
  refine wq_seq ?_
  refine wq_cond s89 (fun c90 => ?_) (fun c90 => ?_)
  · replace c90 := of_decide_eq_true c90
    refine wq_skip ?_
    refine then_normal ?_
    refine wq_seq ?_
    refine wq_block ?_
    refine wq_seq ?_
    refine wq_region ?_
    refine wl_v (.int .i64 (((k : Nat) : Int))) rfl rfl (y_mov rfl s88 ⟨rfl, rfl⟩) ?_
    refine wl_v (.int .i64 (((k : Nat) : Int))) rfl rfl (y_asg rfl rfl ⟨rfl, rfl⟩) ?_
    refine wl_nil fun F91 hF92 => ?_
    have s93 : F91 1 = .int .i64 (p) := (hF92 1).trans s80
    have s94 : F91 2 = .int .i64 (x) := (hF92 2).trans s81
    have s95 : F91 3 = .int .i64 (y) := (hF92 3).trans s82
    have s96 : F91 5 = .pointer (some ⟨p1, 0, none⟩) := (hF92 5).trans s83
    have s97 : F91 9 = .pointer (some ⟨p14, 0, none⟩) := (hF92 9).trans s84
    have s98 : F91 47 = undef := (hF92 47).trans s85
    have s99 : F91 12 = .int .i64 ((bestTo f p x y b k).1) := (hF92 12).trans s86
    have s100 : F91 13 = .int .i64 ((bestTo f p x y b k).2) := (hF92 13).trans s87
    have s101 : F91 18 = .int .i64 (((k : Nat) : Int)) := (hF92 18).trans s88
    have s102 : F91 14 = .int .i64 (((k : Nat) : Int)) := (hF92 14).trans rfl
    clear hF92
    refine then_normal ?_
    refine wq_seq ?_
    refine wq_region ?_
    refine wl_v (.agg #[.int .i64 ((f).W), .int .i64 ((f).H), f0, f1, f2]) rfl rfl (y_load_stc stcT_frame rfl s96 B76 ⟨rfl, rfl⟩) ?_
    refine wl_v (.int .i64 (p)) rfl rfl (y_mov rfl s93 ⟨rfl, rfl⟩) ?_
    refine wl_v (.int .i64 (x)) rfl rfl (y_mov rfl s94 ⟨rfl, rfl⟩) ?_
    refine wl_v (.int .i64 (y)) rfl rfl (y_mov rfl s95 ⟨rfl, rfl⟩) ?_
    refine wl_v (.int .i64 (((k : Nat) : Int))) rfl rfl (y_mov rfl s102 ⟨rfl, rfl⟩) ?_
    refine wl_call (R := fun v_ w_ => v_ = .tuple #[blkV (predB (f) (p) (x) (y) (((k : Nat) : Int))), .int .i64 (predE (f) (p) (x) (y) (((k : Nat) : Int)))] ∧ Kept (fun _ => False) w60 w_) rfl rfl (y_cs rfl rfl rfl (fun _ _ => by kernel_rfl) (ev_func _) (vsC rfl (vsC rfl (vsC rfl (vsC rfl (vsC rfl vsN))))) (il_predict (p) (x) (y) (((k : Nat) : Int)) (f) (f0) (f1) (f2) (T_f0) (T_f1) (T_f2) _  B73 B74 B75 ) (fun e_ w_ h_ => ⟨_, h_.1, rfl, h_.2⟩)) ?_
    rintro _ w103 ⟨rfl, k104⟩
    have B105 := B73.all k104 Apart.none
    have B106 := B74.all k104 Apart.none
    have B107 := B75.all k104 Apart.none
    have B108 := B76.all k104 id
    have B109 := B77.all k104 id
    have K110 := K61.trans k104 (fun _ _ x => x.elim)
    refine wl_v (.tuple #[blkV (predB (f) (p) (x) (y) (((k : Nat) : Int))), .int .i64 (predE (f) (p) (x) (y) (((k : Nat) : Int)))]) rfl rfl (y_mov rfl rfl ⟨rfl, rfl⟩) ?_
    refine wl_v (blkV (predB (f) (p) (x) (y) (((k : Nat) : Int)))) rfl rfl (y_ext rfl rfl rfl ⟨rfl, rfl⟩) ?_
    refine wl_v (.int .i64 (predE (f) (p) (x) (y) (((k : Nat) : Int)))) rfl rfl (y_ext rfl rfl rfl ⟨rfl, rfl⟩) ?_
    refine wl_alloc_blk rfl rfl rfl blkT_block.2.2 fun p111 w112 e115 B113 k114 => ?_
    have g116 := onB_new (Nat.le_of_eq e115.symm)
    have gr117 : Grew w0 noB (onB p111) := Grew.new K110 g116
    have ap118 : Apart (onB p111) (T_f0) := Apart.new g116 (B105).live
    have ap119 : Apart (onB p111) (T_f1) := Apart.new g116 (B106).live
    have ap120 : Apart (onB p111) (T_f2) := Apart.new g116 (B107).live
    have ap121 : Apart (onB p111) (onB p1) := Apart.new g116 (onB_live (B108).lt)
    have ap122 : Apart (onB p111) (onB p14) := Apart.new g116 (onB_live (B109).lt)
    clear e115 g116
    have B123 := B105.all k114 Apart.none
    have B124 := B106.all k114 Apart.none
    have B125 := B107.all k114 Apart.none
    have B126 := B108.all k114 id
    have B127 := B109.all k114 id
    have K128 := K110.trans k114 (fun _ _ x => x.elim)
    refine wl_store_blk blkT_block rfl rfl rfl rfl rfl B113 fun w129 B130 k131 => ?_
    have B132 := B123.all k131 (fun i h x => (((ap118).symm) i h x))
    have B133 := B124.all k131 (fun i h x => (((ap119).symm) i h x))
    have B134 := B125.all k131 (fun i h x => (((ap120).symm) i h x))
    have B135 := B126.all k131 (fun x => (((ap121).symm) p1 rfl x))
    have B136 := B127.all k131 (fun x => (((ap122).symm) p14 rfl x))
    have K137 := K128.trans k131 (Grew.ok (S := fun _ => False) gr117 noB_le)
    refine wl_v (.int .i64 (predE (f) (p) (x) (y) (((k : Nat) : Int)))) rfl rfl (y_asg rfl rfl ⟨rfl, rfl⟩) ?_
    refine wl_nil fun F138 hF139 => ?_
    have s140 : F138 1 = .int .i64 (p) := (hF139 1).trans s93
    have s141 : F138 2 = .int .i64 (x) := (hF139 2).trans s94
    have s142 : F138 3 = .int .i64 (y) := (hF139 3).trans s95
    have s143 : F138 5 = .pointer (some ⟨p1, 0, none⟩) := (hF139 5).trans s96
    have s144 : F138 9 = .pointer (some ⟨p14, 0, none⟩) := (hF139 9).trans s97
    have s145 : F138 47 = undef := (hF139 47).trans s98
    have s146 : F138 12 = .int .i64 ((bestTo f p x y b k).1) := (hF139 12).trans s99
    have s147 : F138 13 = .int .i64 ((bestTo f p x y b k).2) := (hF139 13).trans s100
    have s148 : F138 18 = .int .i64 (((k : Nat) : Int)) := (hF139 18).trans s101
    have s149 : F138 14 = .int .i64 (((k : Nat) : Int)) := (hF139 14).trans s102
    have s150 : F138 15 = .pointer (some ⟨p111, 0, none⟩) := (hF139 15).trans rfl
    have s151 : F138 16 = .int .i64 (predE (f) (p) (x) (y) (((k : Nat) : Int))) := (hF139 16).trans rfl
    clear hF139
    refine then_normal ?_
    refine wq_seq ?_
    refine wq_seq ?_
    refine wq_region ?_
    refine wl_v (.int .i64 (predE (f) (p) (x) (y) (((k : Nat) : Int)))) rfl rfl (y_mov rfl s151 ⟨rfl, rfl⟩) ?_
    refine wl_v (.bool (decide ((predE (f) (p) (x) (y) (((k : Nat) : Int))) ≠ (0)))) rfl rfl (y_neqI rfl rfl rfl rfl ⟨rfl, rfl⟩) ?_
    refine wl_nil fun F152 hF153 => ?_
    have s154 : F152 1 = .int .i64 (p) := (hF153 1).trans s140
    have s155 : F152 2 = .int .i64 (x) := (hF153 2).trans s141
    have s156 : F152 3 = .int .i64 (y) := (hF153 3).trans s142
    have s157 : F152 5 = .pointer (some ⟨p1, 0, none⟩) := (hF153 5).trans s143
    have s158 : F152 9 = .pointer (some ⟨p14, 0, none⟩) := (hF153 9).trans s144
    have s159 : F152 47 = undef := (hF153 47).trans s145
    have s160 : F152 12 = .int .i64 ((bestTo f p x y b k).1) := (hF153 12).trans s146
    have s161 : F152 13 = .int .i64 ((bestTo f p x y b k).2) := (hF153 13).trans s147
    have s162 : F152 18 = .int .i64 (((k : Nat) : Int)) := (hF153 18).trans s148
    have s163 : F152 14 = .int .i64 (((k : Nat) : Int)) := (hF153 14).trans s149
    have s164 : F152 15 = .pointer (some ⟨p111, 0, none⟩) := (hF153 15).trans s150
    have s165 : F152 31 = .bool (decide ((predE (f) (p) (x) (y) (((k : Nat) : Int))) ≠ (0))) := (hF153 31).trans rfl
    clear hF153
    refine then_normal ?_
    refine wq_cond s165 (fun c166 => ?_) (fun c166 => ?_)
    · replace c166 := of_decide_eq_true c166
      refine wq_seq ?_
      have hno : ¬ placeF f p x y := fun h => absurd ((predE_iff (mode := (k : Nat)) (by omega)).2 h) (by assumption)
      refine wq_region ?_
      refine wl_v (.int .i64 (-1)) rfl rfl (y_asg rfl rfl ⟨rfl, rfl⟩) ?_
      refine wl_v (.int .i64 (-1)) rfl rfl (y_asg rfl rfl ⟨rfl, rfl⟩) ?_
      refine wl_nil fun F167 hF168 => ?_
      have s169 : F167 47 = undef := (hF168 47).trans s159
      have s170 : F167 10 = .int .i64 (-1) := (hF168 10).trans rfl
      have s171 : F167 11 = .int .i64 (-1) := (hF168 11).trans rfl
      clear hF168
      refine then_normal ?_
      refine wq_ret ?_
      refine then_ret ?_
      refine in_ret ?_
      refine then_ret ?_
      refine then_ret ?_
      refine in_ret ?_
      refine then_ret ?_
      exact end_2 s169 rfl (res_tmp (v := .int .i64 (-1)) rfl s170) (res_tmp (v := .int .i64 (-1)) rfl s171) ⟨(by first | rw [best_no hno] | rw [best_yes (hI.resolve_left (by decide))]), K137⟩
    · replace c166 := of_decide_eq_false c166
      refine wq_skip ?_
      refine then_normal ?_
      refine wq_seq ?_
      have hpl : placeF f p x y := (predE_iff (mode := (k : Nat)) (by omega)).1 (by first | assumption | (apply Decidable.byContradiction; assumption))
      refine wq_region ?_
      refine wl_v (blkV (predB (f) (p) (x) (y) (((k : Nat) : Int)))) rfl rfl (y_load_blk blkT_block rfl s164 B130 ⟨rfl, rfl⟩) ?_
      refine wl_v (blkV (b)) rfl rfl (y_load_blk blkT_block rfl s158 B136 ⟨rfl, rfl⟩) ?_
      refine wl_call (R := fun v_ w_ => v_ = .int .i64 (costF (predB (f) (p) (x) (y) (((k : Nat) : Int))) (b)) ∧ Kept (fun _ => False) w129 w_) rfl rfl (y_cs rfl rfl rfl (fun _ _ => by kernel_rfl) (ev_func _) (vsC rfl (vsC rfl vsN)) (il_cost (predB (f) (p) (x) (y) (((k : Nat) : Int))) (b)  _   ) (fun e_ w_ h_ => ⟨_, h_.1, rfl, h_.2⟩)) ?_
      rintro _ w172 ⟨rfl, k173⟩
      have B174 := B132.all k173 Apart.none
      have B175 := B133.all k173 Apart.none
      have B176 := B134.all k173 Apart.none
      have B177 := B135.all k173 id
      have B178 := B136.all k173 id
      have B179 := B130.all k173 id
      have K180 := K137.trans k173 (fun _ _ x => x.elim)
      refine wl_v (.int .i64 (costF (predB (f) (p) (x) (y) (((k : Nat) : Int))) (b))) rfl rfl (y_asg rfl rfl ⟨rfl, rfl⟩) ?_
      refine wl_nil fun F181 hF182 => ?_
      have s183 : F181 1 = .int .i64 (p) := (hF182 1).trans s154
      have s184 : F181 2 = .int .i64 (x) := (hF182 2).trans s155
      have s185 : F181 3 = .int .i64 (y) := (hF182 3).trans s156
      have s186 : F181 5 = .pointer (some ⟨p1, 0, none⟩) := (hF182 5).trans s157
      have s187 : F181 9 = .pointer (some ⟨p14, 0, none⟩) := (hF182 9).trans s158
      have s188 : F181 47 = undef := (hF182 47).trans s159
      have s189 : F181 12 = .int .i64 ((bestTo f p x y b k).1) := (hF182 12).trans s160
      have s190 : F181 13 = .int .i64 ((bestTo f p x y b k).2) := (hF182 13).trans s161
      have s191 : F181 18 = .int .i64 (((k : Nat) : Int)) := (hF182 18).trans s162
      have s192 : F181 14 = .int .i64 (((k : Nat) : Int)) := (hF182 14).trans s163
      have s193 : F181 17 = .int .i64 (costF (predB (f) (p) (x) (y) (((k : Nat) : Int))) (b)) := (hF182 17).trans rfl
      clear hF182
      refine then_normal ?_
      refine wq_seq ?_
      by_cases d194 : ((bestTo f p x y b k).1) < (0)
      · skip
        refine wq_region ?_
        refine wl_v (.int .i64 ((bestTo f p x y b k).1)) rfl rfl (y_mov rfl s189 ⟨rfl, rfl⟩) ?_
        refine wl_v (.bool true) rfl rfl (y_lss rfl rfl rfl (decide_eq_true d194) ⟨rfl, rfl⟩) ?_
        refine wl_v (.bool true) rfl rfl (y_mov rfl rfl ⟨rfl, rfl⟩) ?_
        refine wl_unless 2 false 37 rfl rfl rfl (Or.inl rfl) rfl ?_
        refine wl_unless 2 false 37 rfl rfl rfl (Or.inl rfl) rfl ?_
        refine wl_unless 2 false 37 rfl rfl rfl (Or.inl rfl) rfl ?_
        refine wl_v (.bool true) rfl rfl (y_pickT rfl rfl rfl ⟨rfl, rfl⟩) ?_
        refine wl_nil fun F195 hF196 => ?_
        have s197 : F195 1 = .int .i64 (p) := (hF196 1).trans s183
        have s198 : F195 2 = .int .i64 (x) := (hF196 2).trans s184
        have s199 : F195 3 = .int .i64 (y) := (hF196 3).trans s185
        have s200 : F195 5 = .pointer (some ⟨p1, 0, none⟩) := (hF196 5).trans s186
        have s201 : F195 9 = .pointer (some ⟨p14, 0, none⟩) := (hF196 9).trans s187
        have s202 : F195 47 = undef := (hF196 47).trans s188
        have s203 : F195 12 = .int .i64 ((bestTo f p x y b k).1) := (hF196 12).trans s189
        have s204 : F195 13 = .int .i64 ((bestTo f p x y b k).2) := (hF196 13).trans s190
        have s205 : F195 18 = .int .i64 (((k : Nat) : Int)) := (hF196 18).trans s191
        have s206 : F195 14 = .int .i64 (((k : Nat) : Int)) := (hF196 14).trans s192
        have s207 : F195 17 = .int .i64 (costF (predB (f) (p) (x) (y) (((k : Nat) : Int))) (b)) := (hF196 17).trans s193
        have s208 : F195 41 = .bool true := (hF196 41).trans rfl
        clear hF196
        refine then_normal ?_
        refine wq_cond (t := true) s208 (fun _ => ?_) (fun e => by cases e)
        refine wq_region ?_
        refine wl_v (.int .i64 (((k : Nat) : Int))) rfl rfl (y_mov rfl s206 ⟨rfl, rfl⟩) ?_
        refine wl_v (.int .i64 (costF (predB (f) (p) (x) (y) (((k : Nat) : Int))) (b))) rfl rfl (y_mov rfl s207 ⟨rfl, rfl⟩) ?_
        refine wl_v (.int .i64 (((k : Nat) : Int))) rfl rfl (y_asg rfl rfl ⟨rfl, rfl⟩) ?_
        refine wl_v (.int .i64 (costF (predB (f) (p) (x) (y) (((k : Nat) : Int))) (b))) rfl rfl (y_asg rfl rfl ⟨rfl, rfl⟩) ?_
        refine wl_nil fun F209 hF210 => ?_
        have s211 : F209 1 = .int .i64 (p) := (hF210 1).trans s197
        have s212 : F209 2 = .int .i64 (x) := (hF210 2).trans s198
        have s213 : F209 3 = .int .i64 (y) := (hF210 3).trans s199
        have s214 : F209 5 = .pointer (some ⟨p1, 0, none⟩) := (hF210 5).trans s200
        have s215 : F209 9 = .pointer (some ⟨p14, 0, none⟩) := (hF210 9).trans s201
        have s216 : F209 47 = undef := (hF210 47).trans s202
        have s217 : F209 18 = .int .i64 (((k : Nat) : Int)) := (hF210 18).trans s205
        have s218 : F209 12 = .int .i64 (((k : Nat) : Int)) := (hF210 12).trans rfl
        have s219 : F209 13 = .int .i64 (costF (predB (f) (p) (x) (y) (((k : Nat) : Int))) (b)) := (hF210 13).trans rfl
        clear hF210
        refine in_normal ?_
        refine then_normal ?_
        refine wq_region ?_
        refine wl_v (.int .i64 (((k + 1 : Nat) : Int))) rfl rfl (y_add rfl s217 rfl (i64_n (by omega) (by omega)) ⟨rfl, rfl⟩) ?_
        refine wl_v (.int .i64 (((k + 1 : Nat) : Int))) rfl rfl (y_mov rfl rfl ⟨rfl, rfl⟩) ?_
        refine wl_nil fun F220 hF221 => ?_
        have s222 : F220 1 = .int .i64 (p) := (hF221 1).trans s211
        have s223 : F220 2 = .int .i64 (x) := (hF221 2).trans s212
        have s224 : F220 3 = .int .i64 (y) := (hF221 3).trans s213
        have s225 : F220 5 = .pointer (some ⟨p1, 0, none⟩) := (hF221 5).trans s214
        have s226 : F220 9 = .pointer (some ⟨p14, 0, none⟩) := (hF221 9).trans s215
        have s227 : F220 47 = undef := (hF221 47).trans s216
        have s228 : F220 12 = .int .i64 (((k : Nat) : Int)) := (hF221 12).trans s218
        have s229 : F220 13 = .int .i64 (costF (predB (f) (p) (x) (y) (((k : Nat) : Int))) (b)) := (hF221 13).trans s219
        have s230 : F220 18 = .int .i64 (((k + 1 : Nat) : Int)) := (hF221 18).trans rfl
        clear hF221
        exact then_normal ⟨(4 - (k + 1)), by omega, k + 1, by omega, (Or.inr hpl), rfl, s222, s223, s224, s225, s226, s227, (by first | (rw [best_take (Or.inl (by assumption))]; exact s228) | (rw [best_take (Or.inr (by assumption))]; exact s228) | (rw [best_keep (by rintro (h | h) <;> exact absurd h (by assumption))]; exact s228)), (by first | (rw [best_take (Or.inl (by assumption))]; exact s229) | (rw [best_take (Or.inr (by assumption))]; exact s229) | (rw [best_keep (by rintro (h | h) <;> exact absurd h (by assumption))]; exact s229)), s230, K180, B174, B175, B176, B177, B178⟩
      · skip
        refine wq_region ?_
        refine wl_v (.int .i64 ((bestTo f p x y b k).1)) rfl rfl (y_mov rfl s189 ⟨rfl, rfl⟩) ?_
        refine wl_v (.bool false) rfl rfl (y_lss rfl rfl rfl (decide_eq_false d194) ⟨rfl, rfl⟩) ?_
        refine wl_v (.bool false) rfl rfl (y_mov rfl rfl ⟨rfl, rfl⟩) ?_
        refine wl_vw (.int .i64 (costF (predB (f) (p) (x) (y) (((k : Nat) : Int))) (b))) 2 false 37 rfl rfl rfl rfl rfl (y_mov rfl s193 ⟨rfl, rfl⟩) ?_
        refine wl_vw (.int .i64 ((bestTo f p x y b k).2)) 2 false 37 rfl rfl rfl rfl rfl (y_mov rfl s190 ⟨rfl, rfl⟩) ?_
        refine wl_vw (.bool (decide ((costF (predB (f) (p) (x) (y) (((k : Nat) : Int))) (b)) < ((bestTo f p x y b k).2)))) 2 false 37 rfl rfl rfl rfl rfl (y_lss rfl rfl rfl rfl ⟨rfl, rfl⟩) ?_
        refine wl_v (.bool (decide ((costF (predB (f) (p) (x) (y) (((k : Nat) : Int))) (b)) < ((bestTo f p x y b k).2)))) rfl rfl (y_pickF rfl rfl rfl ⟨rfl, rfl⟩) ?_
        refine wl_nil fun F231 hF232 => ?_
        have s233 : F231 1 = .int .i64 (p) := (hF232 1).trans s183
        have s234 : F231 2 = .int .i64 (x) := (hF232 2).trans s184
        have s235 : F231 3 = .int .i64 (y) := (hF232 3).trans s185
        have s236 : F231 5 = .pointer (some ⟨p1, 0, none⟩) := (hF232 5).trans s186
        have s237 : F231 9 = .pointer (some ⟨p14, 0, none⟩) := (hF232 9).trans s187
        have s238 : F231 47 = undef := (hF232 47).trans s188
        have s239 : F231 12 = .int .i64 ((bestTo f p x y b k).1) := (hF232 12).trans s189
        have s240 : F231 13 = .int .i64 ((bestTo f p x y b k).2) := (hF232 13).trans s190
        have s241 : F231 18 = .int .i64 (((k : Nat) : Int)) := (hF232 18).trans s191
        have s242 : F231 14 = .int .i64 (((k : Nat) : Int)) := (hF232 14).trans s192
        have s243 : F231 17 = .int .i64 (costF (predB (f) (p) (x) (y) (((k : Nat) : Int))) (b)) := (hF232 17).trans s193
        have s244 : F231 41 = .bool (decide ((costF (predB (f) (p) (x) (y) (((k : Nat) : Int))) (b)) < ((bestTo f p x y b k).2))) := (hF232 41).trans rfl
        clear hF232
        refine then_normal ?_
        refine wq_cond s244 (fun c245 => ?_) (fun c245 => ?_)
        · replace c245 := of_decide_eq_true c245
          refine wq_region ?_
          refine wl_v (.int .i64 (((k : Nat) : Int))) rfl rfl (y_mov rfl s242 ⟨rfl, rfl⟩) ?_
          refine wl_v (.int .i64 (costF (predB (f) (p) (x) (y) (((k : Nat) : Int))) (b))) rfl rfl (y_mov rfl s243 ⟨rfl, rfl⟩) ?_
          refine wl_v (.int .i64 (((k : Nat) : Int))) rfl rfl (y_asg rfl rfl ⟨rfl, rfl⟩) ?_
          refine wl_v (.int .i64 (costF (predB (f) (p) (x) (y) (((k : Nat) : Int))) (b))) rfl rfl (y_asg rfl rfl ⟨rfl, rfl⟩) ?_
          refine wl_nil fun F246 hF247 => ?_
          have s248 : F246 1 = .int .i64 (p) := (hF247 1).trans s233
          have s249 : F246 2 = .int .i64 (x) := (hF247 2).trans s234
          have s250 : F246 3 = .int .i64 (y) := (hF247 3).trans s235
          have s251 : F246 5 = .pointer (some ⟨p1, 0, none⟩) := (hF247 5).trans s236
          have s252 : F246 9 = .pointer (some ⟨p14, 0, none⟩) := (hF247 9).trans s237
          have s253 : F246 47 = undef := (hF247 47).trans s238
          have s254 : F246 18 = .int .i64 (((k : Nat) : Int)) := (hF247 18).trans s241
          have s255 : F246 12 = .int .i64 (((k : Nat) : Int)) := (hF247 12).trans rfl
          have s256 : F246 13 = .int .i64 (costF (predB (f) (p) (x) (y) (((k : Nat) : Int))) (b)) := (hF247 13).trans rfl
          clear hF247
          refine in_normal ?_
          refine then_normal ?_
          refine wq_region ?_
          refine wl_v (.int .i64 (((k + 1 : Nat) : Int))) rfl rfl (y_add rfl s254 rfl (i64_n (by omega) (by omega)) ⟨rfl, rfl⟩) ?_
          refine wl_v (.int .i64 (((k + 1 : Nat) : Int))) rfl rfl (y_mov rfl rfl ⟨rfl, rfl⟩) ?_
          refine wl_nil fun F257 hF258 => ?_
          have s259 : F257 1 = .int .i64 (p) := (hF258 1).trans s248
          have s260 : F257 2 = .int .i64 (x) := (hF258 2).trans s249
          have s261 : F257 3 = .int .i64 (y) := (hF258 3).trans s250
          have s262 : F257 5 = .pointer (some ⟨p1, 0, none⟩) := (hF258 5).trans s251
          have s263 : F257 9 = .pointer (some ⟨p14, 0, none⟩) := (hF258 9).trans s252
          have s264 : F257 47 = undef := (hF258 47).trans s253
          have s265 : F257 12 = .int .i64 (((k : Nat) : Int)) := (hF258 12).trans s255
          have s266 : F257 13 = .int .i64 (costF (predB (f) (p) (x) (y) (((k : Nat) : Int))) (b)) := (hF258 13).trans s256
          have s267 : F257 18 = .int .i64 (((k + 1 : Nat) : Int)) := (hF258 18).trans rfl
          clear hF258
          exact then_normal ⟨(4 - (k + 1)), by omega, k + 1, by omega, (Or.inr hpl), rfl, s259, s260, s261, s262, s263, s264, (by first | (rw [best_take (Or.inl (by assumption))]; exact s265) | (rw [best_take (Or.inr (by assumption))]; exact s265) | (rw [best_keep (by rintro (h | h) <;> exact absurd h (by assumption))]; exact s265)), (by first | (rw [best_take (Or.inl (by assumption))]; exact s266) | (rw [best_take (Or.inr (by assumption))]; exact s266) | (rw [best_keep (by rintro (h | h) <;> exact absurd h (by assumption))]; exact s266)), s267, K180, B174, B175, B176, B177, B178⟩
        · replace c245 := of_decide_eq_false c245
          refine wq_skip ?_
          refine in_normal ?_
          refine then_normal ?_
          refine wq_region ?_
          refine wl_v (.int .i64 (((k + 1 : Nat) : Int))) rfl rfl (y_add rfl s241 rfl (i64_n (by omega) (by omega)) ⟨rfl, rfl⟩) ?_
          refine wl_v (.int .i64 (((k + 1 : Nat) : Int))) rfl rfl (y_mov rfl rfl ⟨rfl, rfl⟩) ?_
          refine wl_nil fun F268 hF269 => ?_
          have s270 : F268 1 = .int .i64 (p) := (hF269 1).trans s233
          have s271 : F268 2 = .int .i64 (x) := (hF269 2).trans s234
          have s272 : F268 3 = .int .i64 (y) := (hF269 3).trans s235
          have s273 : F268 5 = .pointer (some ⟨p1, 0, none⟩) := (hF269 5).trans s236
          have s274 : F268 9 = .pointer (some ⟨p14, 0, none⟩) := (hF269 9).trans s237
          have s275 : F268 47 = undef := (hF269 47).trans s238
          have s276 : F268 12 = .int .i64 ((bestTo f p x y b k).1) := (hF269 12).trans s239
          have s277 : F268 13 = .int .i64 ((bestTo f p x y b k).2) := (hF269 13).trans s240
          have s278 : F268 18 = .int .i64 (((k + 1 : Nat) : Int)) := (hF269 18).trans rfl
          clear hF269
          exact then_normal ⟨(4 - (k + 1)), by omega, k + 1, by omega, (Or.inr hpl), rfl, s270, s271, s272, s273, s274, s275, (by first | (rw [best_take (Or.inl (by assumption))]; exact s276) | (rw [best_take (Or.inr (by assumption))]; exact s276) | (rw [best_keep (by rintro (h | h) <;> exact absurd h (by assumption))]; exact s276)), (by first | (rw [best_take (Or.inl (by assumption))]; exact s277) | (rw [best_take (Or.inr (by assumption))]; exact s277) | (rw [best_keep (by rintro (h | h) <;> exact absurd h (by assumption))]; exact s277)), s278, K180, B174, B175, B176, B177, B178⟩
  · replace c90 := of_decide_eq_false c90
    refine wq_exit ?_
    refine then_exit ?_
    refine then_exit ?_
    have l279 : 4 = k := by omega
    subst l279
    refine in_here ?_
    refine then_normal ?_
    refine wq_seq ?_
    refine wq_region ?_
    refine wl_v (.int .i64 ((bestTo f p x y b 4).1)) rfl rfl (y_mov rfl s86 ⟨rfl, rfl⟩) ?_
    refine wl_v (.int .i64 ((bestTo f p x y b 4).2)) rfl rfl (y_mov rfl s87 ⟨rfl, rfl⟩) ?_
    refine wl_v (.int .i64 ((bestTo f p x y b 4).1)) rfl rfl (y_asg rfl rfl ⟨rfl, rfl⟩) ?_
    refine wl_v (.int .i64 ((bestTo f p x y b 4).2)) rfl rfl (y_asg rfl rfl ⟨rfl, rfl⟩) ?_
    refine wl_nil fun F280 hF281 => ?_
    have s282 : F280 47 = undef := (hF281 47).trans s85
    have s283 : F280 10 = .int .i64 ((bestTo f p x y b 4).1) := (hF281 10).trans rfl
    have s284 : F280 11 = .int .i64 ((bestTo f p x y b 4).2) := (hF281 11).trans rfl
    clear hF281
    refine then_normal ?_
    refine wq_ret ?_
    exact end_2 s282 rfl (res_tmp (v := .int .i64 ((bestTo f p x y b 4).1)) rfl s283) (res_tmp (v := .int .i64 ((bestTo f p x y b 4).2)) rfl s284) ⟨(by first | rw [best_no hno] | rw [best_yes (hI.resolve_left (by decide))]), K61⟩
end Go.Proofs.Ytdggilbgjijfmaa
namespace Go.Proofs.Ytdggilbgjijfmaa
open Go.RowKit
theorem Owb.of_eq {w : World} {T : Nat → Prop} {v : Value} {l m : List Nat} (e : m = l) (h : Owb w T v l) : Owb w T v m := e ▸ h
end Go.Proofs.Ytdggilbgjijfmaa
namespace Go.Proofs.Ytdggilbgjijfmaa
open Go.RowKit

section
variable {N : Nat} {Q : (Exit → (Nat → Value) → World → Prop)} {F : Nat → Value} {w : World} {P : Program}
def StepR (N : Nat) (P : Program) (R : World → World → Prop) (D : List (Option Tmp)) (G : Nat → Value → World → Prop) (F0 : Nat → Value) (w0 : World) (i : Nat) (o : Oper) : Prop :=
  ∀ (F : Nat → Value) (w : World), R w0 w → (∀ t, Nat.blt t N = true → some t ∉ D → F t = F0 t) → DepsF D G F w o.after.toList → o.guard = none ∧ Yields P (ev F) o w (fun v w' => G i v w' ∧ R w w')
def StepsR (N : Nat) (P : Program) (R : World → World → Prop) (D : List (Option Tmp)) (G : Nat → Value → World → Prop) (F0 : Nat → Value) (w0 : World) : Nat → List Oper → Prop
  | _, [] => True
  | i, o :: r => StepR N P R D G F0 w0 i o ∧ StepsR N P R D G F0 w0 (i + 1) r
theorem StepR.step {R : World → World → Prop} {D : List (Option Tmp)} {G : Nat → Value → World → Prop} {w0 : World} {i : Nat} {o : Oper} {a0 : Act} (ha : Fr N F a0) (h : StepR N P R D G F w0 i o) : Step P R D G a0 w0 i o := by
  intro a w hR hout hD
  have h1 := h (fun t => a.tmps.getD t undef) w hR (fun t hb ht => by rw [← ha.at' t hb]; exact hout t ht) hD.toF
  rw [← eval_ev a] at h1
  unfold goes
  rw [h1.1]
  exact ⟨fun _ => h1.2, fun e => by cases e⟩
theorem StepsR.steps {R : World → World → Prop} {D : List (Option Tmp)} {G : Nat → Value → World → Prop} {w0 : World} {a0 : Act} (ha : Fr N F a0) : ∀ {os : List Oper} {i : Nat}, StepsR N P R D G F w0 i os → Steps P R D G a0 w0 i os := by
  intro os
  induction os with
  | nil => intro i _; exact trivial
  | cons o r ih => intro i h; exact ⟨h.1.step ha, ih h.2⟩
theorem stepsR_nil {R : World → World → Prop} {D : List (Option Tmp)} {G : Nat → Value → World → Prop} {F0 : Nat → Value} {w0 : World} {i : Nat} : StepsR N P R D G F0 w0 i [] := trivial
theorem stepsR_cons {R : World → World → Prop} {D : List (Option Tmp)} {G : Nat → Value → World → Prop} {F0 : Nat → Value} {w0 : World} {i : Nat} {o : Oper} {r : List Oper} (hg : o.guard = none)
    (h : ∀ (F : Nat → Value) (w : World), R w0 w → (∀ t, Nat.blt t N = true → some t ∉ D → F t = F0 t) → DepsF D G F w o.after.toList → Yields P (ev F) o w (fun v w' => G i v w' ∧ R w w')) (k : StepsR N P R D G F0 w0 (i + 1) r) : StepsR N P R D G F0 w0 i (o :: r) := ⟨fun F w h1 h2 h3 => ⟨hg, h F w h1 h2 h3⟩, k⟩
theorem wq_tailR {id : Nat} {ops : Array Oper} (n : Nat) (R : World → World → Prop) (D : List (Option Tmp)) (G : Nat → Value → World → Prop) (hm : P.follows .mixedOrders = true) (hta : tailed ops.toList n = true) (hpl : plain N 0 D (ops.toList.take n) = true)
    (hrf : ∀ a, R a a) (htr : ∀ a b c, R a b → R b c → R a c) (hdr : R w w.drew) (hst : ∀ i v w w', G i v w → R w w' → G i v w') (hsteps : StepsR N P R D G F w 0 (ops.toList.take n))
    (hend : ∀ (v : Nat → Value) (F' : Nat → Value) (w' : World), R w w' → (∀ i, i < n → G i (v i) w') → (∀ t, F' t = putsF v 0 D F t) → wl none P N ops Q (ops.toList.drop n) F' w') : wq none P N (.region id ops true) Q F w := by
  intro a ha
  refine wpIn_wide.2 ?_
  refine wp_region_any hm ?_
  have T := tailed_all hta
  have hno : ∀ j, (Array.replicate ops.size false).getD j false = false := by
    intro j
    by_cases h : j < ops.size <;> simp [Array.getD, h]
  refine wpAny_tail n T R D G (by rw [ha.size]; exact hpl) hrf htr hst (hsteps.steps ha) (fun v w' hk hG => hend v _ w' hk hG (fun _ => rfl) _ (putAll_fr v D 0 F a ha (plain_fits hpl))) ops.size _ (fun _ => undef) a _ ⟨rfl, by simp, rfl, hdr, fun _ _ => rfl, fun j _ hj => ?_, fun j hj => ?_⟩ ?_ ?_ ?_
  · rw [hno] at hj; cases hj
  · rw [hno] at hj; cases hj
  · intro k o _ hl; rw [hno] at hl; cases hl
  · intro j _; exact hno j
  · exact Nat.le_trans (List.countP_le_length) (by simp)
end

def repL (L : List Nat) (n k : Nat) : List Nat := L.take (0 + k) ++ ((((L.drop 0).take (n - 0)).drop 0).take (k - 0) |>.take (n - 0 - k) |> (· ++ L.drop (0 + k + min (n - 0 - k) (((((L.drop 0).take (n - 0)).drop 0).take (k - 0)).length))))
theorem repL_eq {L : List Nat} {n k : Nat} (hL : L.length = n) (hk : k ≤ n) : repL L n k = L.take k ++ (L.take (min (n - k) k) ++ L.drop (k + min (n - k) k)) := by
  unfold repL
  have e : ((((L.drop 0).take (n - 0)).drop 0).take (k - 0)) = L.take k := by simp; rw [← hL, List.take_length]
  rw [e]
  simp only [Nat.zero_add, Nat.sub_zero, List.take_take, List.length_take]
  rw [show min (n - k) (min k L.length) = min (n - k) k by omega]
theorem repL_length {L : List Nat} {n k : Nat} (hL : L.length = n) (hk : k ≤ n) : (repL L n k).length = n := by rw [repL_eq hL hk]; simp; omega
theorem repL_take {L : List Nat} {n k s : Nat} (hL : L.length = n) (hk : k ≤ n) (h : L.take k = List.replicate k s) : (repL L n k).take (k + min (n - k) k) = List.replicate (k + min (n - k) k) s := by
  rw [repL_eq hL hk, h, show L.take (min (n - k) k) = (L.take k).take (min (n - k) k) by rw [List.take_take]; congr 1; omega, h, List.take_replicate, show min (min (n - k) k) k = min (n - k) k by omega, ← List.append_assoc, List.replicate_append_replicate]
  rw [List.take_append_of_le_length (by simp), List.take_of_length_le (by simp)]
theorem repL_again {L : List Nat} {n k s : Nat} (hL : L.length = n) (hk : k ≤ n) (h : L.take k = List.replicate k s) : repL (repL L n k) n k = repL L n k := by
  have h2 := repL_length hL hk
  have h3 := repL_take hL hk h
  rw [repL_eq h2 hk]
  have e1 : (repL L n k).take k = List.replicate k s := by
    have : (repL L n k).take k = ((repL L n k).take (k + min (n - k) k)).take k := by rw [List.take_take]; congr 1; omega
    rw [this, h3, List.take_replicate]; congr 1; omega
  have e2 : (repL L n k).take (min (n - k) k) = List.replicate (min (n - k) k) s := by
    have : (repL L n k).take (min (n - k) k) = ((repL L n k).take (k + min (n - k) k)).take (min (n - k) k) := by rw [List.take_take]; congr 1; omega
    rw [this, h3, List.take_replicate]; congr 1; omega
  rw [e1, e2, ← List.append_assoc, List.replicate_append_replicate, ← h3, List.take_append_drop]
theorem rep_start {J l : List Nat} {n s : Nat} (hJ : J.length = n) (hn : 1 ≤ n) (hl : l.length = 1) (hs : l.getD 0 0 = s) : (J.take 0 ++ (l.take (n - 0) ++ J.drop (0 + min (n - 0) l.length))).length = n ∧ (J.take 0 ++ (l.take (n - 0) ++ J.drop (0 + min (n - 0) l.length))).take 1 = List.replicate 1 s := by
  obtain ⟨z, rfl⟩ : ∃ z, l = [z] := by
    match l, hl with
    | [z], _ => exact ⟨z, rfl⟩
  obtain rfl : z = s := by simpa using hs
  obtain ⟨m, rfl⟩ : ∃ m, n = m + 1 := ⟨n - 1, by omega⟩
  constructor
  · simp; omega
  · simp
theorem rep_done {L : List Nat} {n k s : Nat} (hk : k = n) (h : L.take k = List.replicate k s) : List.replicate n s = ((L.drop 0).take (n - 0)) := by
  subst hk; rw [List.drop_zero, Nat.sub_zero, h]

/-- What may become of the row, and of nothing else. -/
def RepR (T : Nat → Prop) (v : Value) (L L' : List Nat) (a b : World) : Prop := Kept T a b ∧ (Owb a T v L' → Owb b T v L') ∧ (Owb a T v L → Owb b T v L ∨ Owb b T v L')
theorem RepR.refl {T : Nat → Prop} {v : Value} {L L' : List Nat} (a : World) : RepR T v L L' a a := ⟨Kept.refl _ _, id, .inl⟩
theorem RepR.trans {T : Nat → Prop} {v : Value} {L L' : List Nat} {a b c : World} (h : RepR T v L L' a b) (k : RepR T v L L' b c) : RepR T v L L' a c :=
  ⟨h.1.trans k.1 (fun _ _ x => x), fun x => k.2.1 (h.2.1 x), fun x => (h.2.2 x).elim k.2.2 (fun y => .inr (k.2.1 y))⟩
theorem RepR.drew {T : Nat → Prop} {v : Value} {L L' : List Nat} (a : World) : RepR T v L L' a a.drew :=
  ⟨(Kept.refl _ _).drew, fun h => h.all (S := fun _ => False) (Kept.refl _ _).drew Apart.none, fun h => .inl (h.all (S := fun _ => False) (Kept.refl _ _).drew Apart.none)⟩
/-- What each operation answers. -/
def RepG (T : Nat → Prop) (v : Value) (L' : List Nat) (vs : List Value) (i : Nat) (x : Value) (w : World) : Prop := x = vs.getD i undef ∧ (i = 7 → Owb w T v L')
theorem RepG.stays {T : Nat → Prop} {v : Value} {L L' : List Nat} {vs : List Value} (i : Nat) (x : Value) (w w' : World) (h : RepG T v L' vs i x w) (k : RepR T v L L' w w') : RepG T v L' vs i x w' := ⟨h.1, fun e => k.2.1 (h.2 e)⟩
theorem Byt.of_eq {w : World} {T : Nat → Prop} {v : Value} {l m : List Nat} (e : m = l) (h : Byt w T v l) : Byt w T v m := e ▸ h
theorem Owb.len {w : World} {T : Nat → Prop} {v : Value} {L : List Nat} (h : Owb w T v L) : Byt w T v L := h.byt
theorem rep_turn {ρ : Operand → Value} {o : Oper} {w w0 : World} {T : Nat → Prop} {v : Value} {L : List Nat} {n k s : Nat} {c : Call} {x y : Operand} {vs : List Value} (ho : o.op = .call c) (hc : c = { callee := .builtin .copy, args := #[x, y], argTypes := #[22, 22] }) (hx : ρ x = subV (subV v 0 n n) k (n - 0) (n - 0)) (hy : ρ y = subV (subV v 0 n n) 0 k (n - 0))
    (hL : L.length = n) (hk : k ≤ n) (ht : L.take k = List.replicate k s) (h0 : Owb w0 T v L) (hR : RepR T v L (repL L n k) w0 w) (hvs : vs.getD 7 undef = .int .i64 ((min (n - k) k : Nat) : Int)) :
    Yields Try.prog ρ o w (fun r w' => RepG T v (repL L n k) vs 7 r w' ∧ RepR T v L (repL L n k) w w') := by
  have main : ∀ M : List Nat, Owb w T v M → M.length = n → repL M n k = repL L n k → Yields Try.prog ρ o w (fun r w' => RepG T v (repL L n k) vs 7 r w' ∧ RepR T v L (repL L n k) w w') := by
    intro M hM hMl he
    have hb : Byt w T (subV (subV v 0 n n) 0 k (n - 0)) ((((M.drop 0).take (n - 0)).drop 0).take (k - 0)) := by
      have h1 : Byt w T (subV v 0 n n) ((M.drop 0).take (n - 0)) := hM.byt.sub (by omega) (by omega) (by omega) (by have := hM.byt.cap; omega)
      have hcap : capV (subV v 0 n n) = n - 0 := by
        obtain ⟨a, e⟩ := sub_len hM.byt 0 n n
        rw [e]; rfl
      exact h1.sub (by omega) (by omega) (by simp; omega) (by rw [hcap]; omega)
    obtain ⟨w', hr, h1, h2⟩ := run_copyM (off := 0 + k) (n := n - 0 - k) ho hc (by rw [hx]; exact part_sub2 hM.byt (Nat.le_refl _) (Nat.le_refl _) rfl) hy hM hb (by omega)
    have h1' : Owb w' T v (repL L n k) := by rw [← he]; exact h1
    refine y_val hr ⟨⟨?_, fun _ => h1'⟩, h2, fun _ => h1', fun _ => .inr h1'⟩
    rw [hvs]
    congr 2
    simp; omega
  rcases hR.2.2 h0 with h | h
  · exact main L h hL rfl
  · exact main _ h (repL_length hL hk) (repL_again hL hk ht)
theorem rep_cutL {ρ : Operand → Value} {o : Oper} {w w0 : World} {R : Value → World → Prop} {T : Nat → Prop} {v : Value} {L : List Nat} {n k : Nat} {x lo : Operand} (ho : o.op = .slice 22 x (some lo) none none) (hx : ρ x = subV v 0 n n) (hl : ρ lo = .int .i64 (k : Int)) (hk : k ≤ n) (h0 : Owb w0 T v L) (hR : RepR T v L (repL L n k) w0 w) (h : R (subV (subV v 0 n n) k (n - 0) (n - 0)) w) : Yields Try.prog ρ o w R := by
  rcases hR.2.2 h0 with hb | hb
  · exact y_cut2L k ho hx hl rfl hb.byt (by omega) h
  · exact y_cut2L k ho hx hl rfl hb.byt (by omega) h
theorem rep_cutH {ρ : Operand → Value} {o : Oper} {w w0 : World} {R : Value → World → Prop} {T : Nat → Prop} {v : Value} {L : List Nat} {n k : Nat} {x hi : Operand} (ho : o.op = .slice 22 x none (some hi) none) (hx : ρ x = subV v 0 n n) (hl : ρ hi = .int .i64 (k : Int)) (hk : k ≤ n) (h0 : Owb w0 T v L) (hR : RepR T v L (repL L n k) w0 w) (h : R (subV (subV v 0 n n) 0 k (n - 0)) w) : Yields Try.prog ρ o w R := by
  rcases hR.2.2 h0 with hb | hb
  · exact y_cut2H k ho hx hl rfl hb.byt (by omega) h
  · exact y_cut2H k ho hx hl rfl hb.byt (by omega) h

theorem y_andR {P : Program} {ρ : Operand → Value} {o : Oper} {w : World} {R : Value → World → Prop} {t t' : TypeId} {k : IntKind} {x y : Operand} {m n r : Int} (ho : o.op = .binOp .and t x y t') (hx : ρ x = .int k m) (hy : ρ y = .int k n) (hr : bits .and k m n = r) (h : R (.int k r) w) : Yields P ρ o w R :=
  y_of (v := .int k (bits .and k m n)) (w' := w) (by simp [execOp, ho, hx, hy, go_sem]) (by rw [hr]; exact h)
theorem u64_small {n : Nat} (h : n < 18446744073709551616) : IntKind.u64.wrap ((n : Nat) : Int) = ((n : Nat) : Int) := by
  unfold IntKind.wrap; simp [IntKind.signed, IntKind.bits]; omega
theorem u64_mul {a b : Nat} (h : a * b < 18446744073709551616) : IntKind.u64.wrap ((a : Int) * (b : Int)) = ((a * b : Nat) : Int) := by rw [← Int.natCast_mul]; exact u64_small h
theorem and32 {n : Nat} (h : n < 4294967296) : bits .and .u64 ((n : Nat) : Int) 4294967295 = ((n : Nat) : Int) := by
  have e := u64_and_nat n 4294967295 (by omega) (by omega)
  rw [show ((4294967295 : Nat) : Int) = 4294967295 from rfl] at e
  rw [e, show (4294967295 : Nat) = 2 ^ 32 - 1 from rfl, Nat.and_two_pow_sub_one_eq_mod, Nat.mod_eq_of_lt (by simpa using h)]
theorem shr32 {n : Nat} (h : n < 4294967296) : ((n : Nat) : Int) / 2 ^ 32 = ((0 : Nat) : Int) := by
  have : (2 : Int) ^ 32 = 4294967296 := by decide
  rw [this]; omega
end Go.Proofs.Ytdggilbgjijfmaa
namespace Go.Proofs.Ytdggilbgjijfmaa
open Go.RowKit
set_option maxHeartbeats 4000000 in
set_option maxRecDepth 100000 in
theorem ps_mul64 (x y : Nat) (w0 : World) (hx : x < 4294967296) (hy : y < 4294967296) (hxy : x * y < 4294967296) :
    Calls Try.prog 51 #[.int .u64 (((x : Nat) : Int)), .int .u64 (((y : Nat) : Int))] w0 fun e w' => e = .returned (.tuple #[.int .u64 (((0 : Nat) : Int)), .int .u64 (((x * y : Nat) : Int))]) ∧ Kept (fun _ => False) w0 w' := by
  refine calls_wq (args := [.int .u64 (((x : Nat) : Int)), .int .u64 (((y : Nat) : Int))]) 51 Try.func51 rfl rfl (Nat.le_of_ble_eq_true rfl) ?_
  have K0 := Kept.refl (fun _ => False) w0
  refine wq_seq ?_
  refine wq_region ?_
  refine wl_v (.int .u64 (0)) rfl rfl (y_asg rfl rfl ⟨rfl, rfl⟩) ?_
  refine wl_v (.int .u64 (0)) rfl rfl (y_asg rfl rfl ⟨rfl, rfl⟩) ?_
  refine wl_nil fun F1 hF2 => ?_
  have s3 : F1 0 = .int .u64 (((x : Nat) : Int)) := (hF2 0).trans rfl
  have s4 : F1 1 = .int .u64 (((y : Nat) : Int)) := (hF2 1).trans rfl
  have s5 : F1 51 = undef := (hF2 51).trans rfl
  clear hF2
  refine then_normal ?_
  refine wq_seq ?_
  refine wq_region ?_
  refine wl_v (.int .u64 (((x : Nat) : Int))) rfl rfl (y_mov rfl s3 ⟨rfl, rfl⟩) ?_
  refine wl_v (.int .u64 (((x : Nat) : Int))) rfl rfl (y_andR rfl rfl rfl (and32 hx) ⟨rfl, rfl⟩) ?_
  refine wl_v (.int .u64 (((x : Nat) : Int))) rfl rfl (y_asg rfl rfl ⟨rfl, rfl⟩) ?_
  refine wl_nil fun F6 hF7 => ?_
  have s8 : F6 0 = .int .u64 (((x : Nat) : Int)) := (hF7 0).trans s3
  have s9 : F6 1 = .int .u64 (((y : Nat) : Int)) := (hF7 1).trans s4
  have s10 : F6 51 = undef := (hF7 51).trans s5
  have s11 : F6 6 = .int .u64 (((x : Nat) : Int)) := (hF7 6).trans rfl
  clear hF7
  refine then_normal ?_
  refine wq_seq ?_
  refine wq_region ?_
  refine wl_v (.int .u64 (((x : Nat) : Int))) rfl rfl (y_mov rfl s8 ⟨rfl, rfl⟩) ?_
  refine wl_v (.int .u64 (((0 : Nat) : Int))) rfl rfl (y_shrR 32 rfl rfl rfl (by decide) (shr32 hx) ⟨rfl, rfl⟩) ?_
  refine wl_v (.int .u64 (((0 : Nat) : Int))) rfl rfl (y_asg rfl rfl ⟨rfl, rfl⟩) ?_
  refine wl_nil fun F12 hF13 => ?_
  have s14 : F12 0 = .int .u64 (((x : Nat) : Int)) := (hF13 0).trans s8
  have s15 : F12 1 = .int .u64 (((y : Nat) : Int)) := (hF13 1).trans s9
  have s16 : F12 51 = undef := (hF13 51).trans s10
  have s17 : F12 6 = .int .u64 (((x : Nat) : Int)) := (hF13 6).trans s11
  have s18 : F12 7 = .int .u64 (((0 : Nat) : Int)) := (hF13 7).trans rfl
  clear hF13
  refine then_normal ?_
  refine wq_seq ?_
  refine wq_region ?_
  refine wl_v (.int .u64 (((y : Nat) : Int))) rfl rfl (y_mov rfl s15 ⟨rfl, rfl⟩) ?_
  refine wl_v (.int .u64 (((y : Nat) : Int))) rfl rfl (y_andR rfl rfl rfl (and32 hy) ⟨rfl, rfl⟩) ?_
  refine wl_v (.int .u64 (((y : Nat) : Int))) rfl rfl (y_asg rfl rfl ⟨rfl, rfl⟩) ?_
  refine wl_nil fun F19 hF20 => ?_
  have s21 : F19 0 = .int .u64 (((x : Nat) : Int)) := (hF20 0).trans s14
  have s22 : F19 1 = .int .u64 (((y : Nat) : Int)) := (hF20 1).trans s15
  have s23 : F19 51 = undef := (hF20 51).trans s16
  have s24 : F19 6 = .int .u64 (((x : Nat) : Int)) := (hF20 6).trans s17
  have s25 : F19 7 = .int .u64 (((0 : Nat) : Int)) := (hF20 7).trans s18
  have s26 : F19 8 = .int .u64 (((y : Nat) : Int)) := (hF20 8).trans rfl
  clear hF20
  refine then_normal ?_
  refine wq_seq ?_
  refine wq_region ?_
  refine wl_v (.int .u64 (((y : Nat) : Int))) rfl rfl (y_mov rfl s22 ⟨rfl, rfl⟩) ?_
  refine wl_v (.int .u64 (((0 : Nat) : Int))) rfl rfl (y_shrR 32 rfl rfl rfl (by decide) (shr32 hy) ⟨rfl, rfl⟩) ?_
  refine wl_v (.int .u64 (((0 : Nat) : Int))) rfl rfl (y_asg rfl rfl ⟨rfl, rfl⟩) ?_
  refine wl_nil fun F27 hF28 => ?_
  have s29 : F27 0 = .int .u64 (((x : Nat) : Int)) := (hF28 0).trans s21
  have s30 : F27 1 = .int .u64 (((y : Nat) : Int)) := (hF28 1).trans s22
  have s31 : F27 51 = undef := (hF28 51).trans s23
  have s32 : F27 6 = .int .u64 (((x : Nat) : Int)) := (hF28 6).trans s24
  have s33 : F27 7 = .int .u64 (((0 : Nat) : Int)) := (hF28 7).trans s25
  have s34 : F27 8 = .int .u64 (((y : Nat) : Int)) := (hF28 8).trans s26
  have s35 : F27 9 = .int .u64 (((0 : Nat) : Int)) := (hF28 9).trans rfl
  clear hF28
  refine then_normal ?_
  refine wq_seq ?_
  refine wq_region ?_
  refine wl_v (.int .u64 (((x : Nat) : Int))) rfl rfl (y_mov rfl s32 ⟨rfl, rfl⟩) ?_
  refine wl_v (.int .u64 (((y : Nat) : Int))) rfl rfl (y_mov rfl s34 ⟨rfl, rfl⟩) ?_
  refine wl_v (.int .u64 (((x * y : Nat) : Int))) rfl rfl (y_mul rfl rfl rfl (u64_mul (by omega)) ⟨rfl, rfl⟩) ?_
  refine wl_v (.int .u64 (((x * y : Nat) : Int))) rfl rfl (y_asg rfl rfl ⟨rfl, rfl⟩) ?_
  refine wl_nil fun F36 hF37 => ?_
  have s38 : F36 0 = .int .u64 (((x : Nat) : Int)) := (hF37 0).trans s29
  have s39 : F36 1 = .int .u64 (((y : Nat) : Int)) := (hF37 1).trans s30
  have s40 : F36 51 = undef := (hF37 51).trans s31
  have s41 : F36 6 = .int .u64 (((x : Nat) : Int)) := (hF37 6).trans s32
  have s42 : F36 7 = .int .u64 (((0 : Nat) : Int)) := (hF37 7).trans s33
  have s43 : F36 8 = .int .u64 (((y : Nat) : Int)) := (hF37 8).trans s34
  have s44 : F36 9 = .int .u64 (((0 : Nat) : Int)) := (hF37 9).trans s35
  have s45 : F36 10 = .int .u64 (((x * y : Nat) : Int)) := (hF37 10).trans rfl
  clear hF37
  refine then_normal ?_
  refine wq_seq ?_
  refine wq_region ?_
  refine wl_v (.int .u64 (((0 : Nat) : Int))) rfl rfl (y_mov rfl s42 ⟨rfl, rfl⟩) ?_
  refine wl_v (.int .u64 (((y : Nat) : Int))) rfl rfl (y_mov rfl s43 ⟨rfl, rfl⟩) ?_
  refine wl_v (.int .u64 (((0 : Nat) : Int))) rfl rfl (y_mul rfl rfl rfl (by rw [show (((0 : Nat) : Int)) * ((y : Nat) : Int) = ((0 : Nat) : Int) by simp]; rfl) ⟨rfl, rfl⟩) ?_
  refine wl_v (.int .u64 (((x * y : Nat) : Int))) rfl rfl (y_mov rfl s45 ⟨rfl, rfl⟩) ?_
  refine wl_v (.int .u64 (((0 : Nat) : Int))) rfl rfl (y_shrR 32 rfl rfl rfl (by decide) (shr32 hxy) ⟨rfl, rfl⟩) ?_
  refine wl_v (.int .u64 (((0 : Nat) : Int))) rfl rfl (y_add rfl rfl rfl (rfl) ⟨rfl, rfl⟩) ?_
  refine wl_v (.int .u64 (((0 : Nat) : Int))) rfl rfl (y_asg rfl rfl ⟨rfl, rfl⟩) ?_
  refine wl_nil fun F46 hF47 => ?_
  have s48 : F46 0 = .int .u64 (((x : Nat) : Int)) := (hF47 0).trans s38
  have s49 : F46 1 = .int .u64 (((y : Nat) : Int)) := (hF47 1).trans s39
  have s50 : F46 51 = undef := (hF47 51).trans s40
  have s51 : F46 6 = .int .u64 (((x : Nat) : Int)) := (hF47 6).trans s41
  have s52 : F46 7 = .int .u64 (((0 : Nat) : Int)) := (hF47 7).trans s42
  have s53 : F46 9 = .int .u64 (((0 : Nat) : Int)) := (hF47 9).trans s44
  have s54 : F46 11 = .int .u64 (((0 : Nat) : Int)) := (hF47 11).trans rfl
  clear hF47
  refine then_normal ?_
  refine wq_seq ?_
  refine wq_region ?_
  refine wl_v (.int .u64 (((0 : Nat) : Int))) rfl rfl (y_mov rfl s54 ⟨rfl, rfl⟩) ?_
  refine wl_v (.int .u64 (((0 : Nat) : Int))) rfl rfl (y_andR rfl rfl rfl (and32 (by decide)) ⟨rfl, rfl⟩) ?_
  refine wl_v (.int .u64 (((0 : Nat) : Int))) rfl rfl (y_asg rfl rfl ⟨rfl, rfl⟩) ?_
  refine wl_nil fun F55 hF56 => ?_
  have s57 : F55 0 = .int .u64 (((x : Nat) : Int)) := (hF56 0).trans s48
  have s58 : F55 1 = .int .u64 (((y : Nat) : Int)) := (hF56 1).trans s49
  have s59 : F55 51 = undef := (hF56 51).trans s50
  have s60 : F55 6 = .int .u64 (((x : Nat) : Int)) := (hF56 6).trans s51
  have s61 : F55 7 = .int .u64 (((0 : Nat) : Int)) := (hF56 7).trans s52
  have s62 : F55 9 = .int .u64 (((0 : Nat) : Int)) := (hF56 9).trans s53
  have s63 : F55 11 = .int .u64 (((0 : Nat) : Int)) := (hF56 11).trans s54
  have s64 : F55 12 = .int .u64 (((0 : Nat) : Int)) := (hF56 12).trans rfl
  clear hF56
  refine then_normal ?_
  refine wq_seq ?_
  refine wq_region ?_
  refine wl_v (.int .u64 (((0 : Nat) : Int))) rfl rfl (y_mov rfl s63 ⟨rfl, rfl⟩) ?_
  refine wl_v (.int .u64 (((0 : Nat) : Int))) rfl rfl (y_shrR 32 rfl rfl rfl (by decide) (shr32 (by decide)) ⟨rfl, rfl⟩) ?_
  refine wl_v (.int .u64 (((0 : Nat) : Int))) rfl rfl (y_asg rfl rfl ⟨rfl, rfl⟩) ?_
  refine wl_nil fun F65 hF66 => ?_
  have s67 : F65 0 = .int .u64 (((x : Nat) : Int)) := (hF66 0).trans s57
  have s68 : F65 1 = .int .u64 (((y : Nat) : Int)) := (hF66 1).trans s58
  have s69 : F65 51 = undef := (hF66 51).trans s59
  have s70 : F65 6 = .int .u64 (((x : Nat) : Int)) := (hF66 6).trans s60
  have s71 : F65 7 = .int .u64 (((0 : Nat) : Int)) := (hF66 7).trans s61
  have s72 : F65 9 = .int .u64 (((0 : Nat) : Int)) := (hF66 9).trans s62
  have s73 : F65 12 = .int .u64 (((0 : Nat) : Int)) := (hF66 12).trans s64
  have s74 : F65 13 = .int .u64 (((0 : Nat) : Int)) := (hF66 13).trans rfl
  clear hF66
  refine then_normal ?_
  refine wq_seq ?_
  refine wq_region ?_
  refine wl_v (.int .u64 (((0 : Nat) : Int))) rfl rfl (y_mov rfl s73 ⟨rfl, rfl⟩) ?_
  refine wl_v (.int .u64 (((x : Nat) : Int))) rfl rfl (y_mov rfl s70 ⟨rfl, rfl⟩) ?_
  refine wl_v (.int .u64 (((0 : Nat) : Int))) rfl rfl (y_mov rfl s72 ⟨rfl, rfl⟩) ?_
  refine wl_v (.int .u64 (((0 : Nat) : Int))) rfl rfl (y_mul rfl rfl rfl (by rw [show ((x : Nat) : Int) * (((0 : Nat) : Int)) = ((0 : Nat) : Int) by simp]; rfl) ⟨rfl, rfl⟩) ?_
  refine wl_v (.int .u64 (((0 : Nat) : Int))) rfl rfl (y_add rfl rfl rfl (rfl) ⟨rfl, rfl⟩) ?_
  refine wl_v (.int .u64 (((0 : Nat) : Int))) rfl rfl (y_asg rfl rfl ⟨rfl, rfl⟩) ?_
  refine wl_nil fun F75 hF76 => ?_
  have s77 : F75 0 = .int .u64 (((x : Nat) : Int)) := (hF76 0).trans s67
  have s78 : F75 1 = .int .u64 (((y : Nat) : Int)) := (hF76 1).trans s68
  have s79 : F75 51 = undef := (hF76 51).trans s69
  have s80 : F75 7 = .int .u64 (((0 : Nat) : Int)) := (hF76 7).trans s71
  have s81 : F75 9 = .int .u64 (((0 : Nat) : Int)) := (hF76 9).trans s72
  have s82 : F75 13 = .int .u64 (((0 : Nat) : Int)) := (hF76 13).trans s74
  have s83 : F75 12 = .int .u64 (((0 : Nat) : Int)) := (hF76 12).trans rfl
  clear hF76
  refine then_normal ?_
  refine wq_seq ?_
  refine wq_region ?_
  refine wl_v (.int .u64 (((0 : Nat) : Int))) rfl rfl (y_mov rfl s80 ⟨rfl, rfl⟩) ?_
  refine wl_v (.int .u64 (((0 : Nat) : Int))) rfl rfl (y_mov rfl s81 ⟨rfl, rfl⟩) ?_
  refine wl_v (.int .u64 (((0 : Nat) : Int))) rfl rfl (y_mul rfl rfl rfl (rfl) ⟨rfl, rfl⟩) ?_
  refine wl_v (.int .u64 (((0 : Nat) : Int))) rfl rfl (y_mov rfl s82 ⟨rfl, rfl⟩) ?_
  refine wl_v (.int .u64 (((0 : Nat) : Int))) rfl rfl (y_add rfl rfl rfl (rfl) ⟨rfl, rfl⟩) ?_
  refine wl_v (.int .u64 (((0 : Nat) : Int))) rfl rfl (y_mov rfl s83 ⟨rfl, rfl⟩) ?_
  refine wl_v (.int .u64 (((0 : Nat) : Int))) rfl rfl (y_shrR 32 rfl rfl rfl (by decide) (shr32 (by decide)) ⟨rfl, rfl⟩) ?_
  refine wl_v (.int .u64 (((0 : Nat) : Int))) rfl rfl (y_add rfl rfl rfl (rfl) ⟨rfl, rfl⟩) ?_
  refine wl_v (.int .u64 (((0 : Nat) : Int))) rfl rfl (y_asg rfl rfl ⟨rfl, rfl⟩) ?_
  refine wl_nil fun F84 hF85 => ?_
  have s86 : F84 0 = .int .u64 (((x : Nat) : Int)) := (hF85 0).trans s77
  have s87 : F84 1 = .int .u64 (((y : Nat) : Int)) := (hF85 1).trans s78
  have s88 : F84 51 = undef := (hF85 51).trans s79
  have s89 : F84 4 = .int .u64 (((0 : Nat) : Int)) := (hF85 4).trans rfl
  clear hF85
  refine then_normal ?_
  refine wq_seq ?_
  refine wq_region ?_
  refine wl_v (.int .u64 (((x : Nat) : Int))) rfl rfl (y_mov rfl s86 ⟨rfl, rfl⟩) ?_
  refine wl_v (.int .u64 (((y : Nat) : Int))) rfl rfl (y_mov rfl s87 ⟨rfl, rfl⟩) ?_
  refine wl_v (.int .u64 (((x * y : Nat) : Int))) rfl rfl (y_mul rfl rfl rfl (u64_mul (by omega)) ⟨rfl, rfl⟩) ?_
  refine wl_v (.int .u64 (((x * y : Nat) : Int))) rfl rfl (y_asg rfl rfl ⟨rfl, rfl⟩) ?_
  refine wl_nil fun F90 hF91 => ?_
  have s92 : F90 51 = undef := (hF91 51).trans s88
  have s93 : F90 4 = .int .u64 (((0 : Nat) : Int)) := (hF91 4).trans s89
  have s94 : F90 5 = .int .u64 (((x * y : Nat) : Int)) := (hF91 5).trans rfl
  clear hF91
  refine then_normal ?_
  refine wq_ret ?_
  exact end_2 s92 rfl (res_tmp (v := .int .u64 (((0 : Nat) : Int))) rfl s93) (res_tmp (v := .int .u64 (((x * y : Nat) : Int))) rfl s94) ⟨rfl, K0⟩
set_option maxHeartbeats 4000000 in
set_option maxRecDepth 100000 in
theorem ps_mul (x y : Nat) (w0 : World) (hx : x < 4294967296) (hy : y < 4294967296) (hxy : x * y < 4294967296) :
    Calls Try.prog 46 #[.int .u64 (((x : Nat) : Int)), .int .u64 (((y : Nat) : Int))] w0 fun e w' => e = .returned (.tuple #[.int .u64 (((0 : Nat) : Int)), .int .u64 (((x * y : Nat) : Int))]) ∧ Kept (fun _ => False) w0 w' := by
  refine calls_wq (args := [.int .u64 (((x : Nat) : Int)), .int .u64 (((y : Nat) : Int))]) 30 Try.func46 rfl rfl (Nat.le_of_ble_eq_true rfl) ?_
  have K0 := Kept.refl (fun _ => False) w0
  refine wq_seq ?_
  refine wq_region ?_
  refine wl_v (.int .u64 (0)) rfl rfl (y_asg rfl rfl ⟨rfl, rfl⟩) ?_
  refine wl_v (.int .u64 (0)) rfl rfl (y_asg rfl rfl ⟨rfl, rfl⟩) ?_
  refine wl_nil fun F1 hF2 => ?_
  have s3 : F1 0 = .int .u64 (((x : Nat) : Int)) := (hF2 0).trans rfl
  have s4 : F1 1 = .int .u64 (((y : Nat) : Int)) := (hF2 1).trans rfl
  have s5 : F1 30 = undef := (hF2 30).trans rfl
  clear hF2
  refine then_normal ?_
  refine wq_seq ?_
  refine wq_cond (t := false) rfl (fun e => by cases e) (fun _ => ?_)
  refine wq_skip ?_
  refine then_normal ?_
  refine wq_seq ?_
  refine wq_region ?_
  refine wl_v (.int .u64 (((x : Nat) : Int))) rfl rfl (y_mov rfl s3 ⟨rfl, rfl⟩) ?_
  refine wl_v (.int .u64 (((y : Nat) : Int))) rfl rfl (y_mov rfl s4 ⟨rfl, rfl⟩) ?_
  refine wl_call (R := fun v_ w_ => v_ = .tuple #[.int .u64 (((0 : Nat) : Int)), .int .u64 ((((x) * (y) : Nat) : Int))] ∧ Kept (fun _ => False) w0 w_) rfl rfl (y_cs rfl rfl rfl (fun _ _ => by kernel_rfl) (ev_func _) (vsC rfl (vsC rfl vsN)) (ps_mul64 (x) (y)  _ hx hy hxy  ) (fun e_ w_ h_ => ⟨_, h_.1, rfl, h_.2⟩)) ?_
  rintro _ w6 ⟨rfl, k7⟩
  have K8 := K0.trans k7 (fun _ _ x => x.elim)
  refine wl_v (.tuple #[.int .u64 (((0 : Nat) : Int)), .int .u64 ((((x) * (y) : Nat) : Int))]) rfl rfl (y_mov rfl rfl ⟨rfl, rfl⟩) ?_
  refine wl_v (.int .u64 (((0 : Nat) : Int))) rfl rfl (y_ext rfl rfl rfl ⟨rfl, rfl⟩) ?_
  refine wl_v (.int .u64 ((((x) * (y) : Nat) : Int))) rfl rfl (y_ext rfl rfl rfl ⟨rfl, rfl⟩) ?_
  refine wl_v (.int .u64 (((0 : Nat) : Int))) rfl rfl (y_asg rfl rfl ⟨rfl, rfl⟩) ?_
  refine wl_v (.int .u64 ((((x) * (y) : Nat) : Int))) rfl rfl (y_asg rfl rfl ⟨rfl, rfl⟩) ?_
  refine wl_nil fun F9 hF10 => ?_
  have s11 : F9 30 = undef := (hF10 30).trans s5
  have s12 : F9 8 = .int .u64 (((0 : Nat) : Int)) := (hF10 8).trans rfl
  have s13 : F9 9 = .int .u64 ((((x) * (y) : Nat) : Int)) := (hF10 9).trans rfl
  clear hF10
  refine then_normal ?_
  refine wq_seq ?_
  refine wq_region ?_
  refine wl_v (.int .u64 (((0 : Nat) : Int))) rfl rfl (y_mov rfl s12 ⟨rfl, rfl⟩) ?_
  refine wl_v (.int .u64 ((((x) * (y) : Nat) : Int))) rfl rfl (y_mov rfl s13 ⟨rfl, rfl⟩) ?_
  refine wl_v (.int .u64 (((0 : Nat) : Int))) rfl rfl (y_asg rfl rfl ⟨rfl, rfl⟩) ?_
  refine wl_v (.int .u64 ((((x) * (y) : Nat) : Int))) rfl rfl (y_asg rfl rfl ⟨rfl, rfl⟩) ?_
  refine wl_nil fun F14 hF15 => ?_
  have s16 : F14 30 = undef := (hF15 30).trans s11
  have s17 : F14 4 = .int .u64 (((0 : Nat) : Int)) := (hF15 4).trans rfl
  have s18 : F14 5 = .int .u64 ((((x) * (y) : Nat) : Int)) := (hF15 5).trans rfl
  clear hF15
  refine then_normal ?_
  refine wq_ret ?_
  exact end_2 s16 rfl (res_tmp (v := .int .u64 (((0 : Nat) : Int))) rfl s17) (res_tmp (v := .int .u64 ((((x) * (y) : Nat) : Int))) rfl s18) ⟨rfl, K8⟩
set_option maxHeartbeats 4000000 in
set_option maxRecDepth 100000 in
theorem ps_repeat (v : Value) (l : List Nat) (s n : Nat) (T_b : Nat → Prop) (w0 : World) (hl : l.length = 1) (hs : l.getD 0 0 = s) (hn : 1 ≤ n) (hn2 : n ≤ 64) (h_b : Byt w0 T_b v (l)) :
    Calls Try.prog 31 #[v, .int .i64 (((n : Nat) : Int))] w0 fun e w' => ∃ (v1 : Value) (T1 : Nat → Prop), e = .returned (v1) ∧ Kept (fun _ => False) w0 w' ∧ (Byt w' T1 v1 (List.replicate n s) ∧ Grew w0 noB T1) := by
  refine calls_wq (args := [v, .int .i64 (((n : Nat) : Int))]) 77 Try.func31 rfl rfl (Nat.le_of_ble_eq_true rfl) ?_
  have K0 := Kept.refl (fun _ => False) w0
  have g_b := Grew.refl w0 T_b
  refine wq_seq ?_
  refine wq_region ?_
  refine wl_v (.slice none 0 0) rfl rfl (y_asg rfl rfl ⟨rfl, rfl⟩) ?_
  refine wl_nil fun F1 hF2 => ?_
  have s3 : F1 0 = v := (hF2 0).trans rfl
  have s4 : F1 1 = .int .i64 (((n : Nat) : Int)) := (hF2 1).trans rfl
  have s5 : F1 77 = undef := (hF2 77).trans rfl
  clear hF2
  refine then_normal ?_
  refine wq_seq ?_
  refine wq_seq ?_
  refine wq_region ?_
  refine wl_v (.int .i64 (((n : Nat) : Int))) rfl rfl (y_mov rfl s4 ⟨rfl, rfl⟩) ?_
  refine wl_v (.bool (decide ((((n : Nat) : Int)) = (0)))) rfl rfl (y_eqlI rfl rfl rfl rfl ⟨rfl, rfl⟩) ?_
  refine wl_nil fun F6 hF7 => ?_
  have s8 : F6 0 = v := (hF7 0).trans s3
  have s9 : F6 1 = .int .i64 (((n : Nat) : Int)) := (hF7 1).trans s4
  have s10 : F6 77 = undef := (hF7 77).trans s5
  have s11 : F6 13 = .bool (decide ((((n : Nat) : Int)) = (0))) := (hF7 13).trans rfl
  clear hF7
  refine then_normal ?_
  refine wq_cond s11 (fun c12 => ?_) (fun c12 => ?_)
  · replace c12 := of_decide_eq_true c12
    refine wq_seq ?_
    exfalso; omega
  · replace c12 := of_decide_eq_false c12
    refine wq_skip ?_
    refine then_normal ?_
    refine wq_seq ?_
    refine wq_seq ?_
    refine wq_region ?_
    refine wl_v (.int .i64 (((n : Nat) : Int))) rfl rfl (y_mov rfl s9 ⟨rfl, rfl⟩) ?_
    refine wl_v (.bool (decide ((((n : Nat) : Int)) < (0)))) rfl rfl (y_lss rfl rfl rfl rfl ⟨rfl, rfl⟩) ?_
    refine wl_nil fun F13 hF14 => ?_
    have s15 : F13 0 = v := (hF14 0).trans s8
    have s16 : F13 1 = .int .i64 (((n : Nat) : Int)) := (hF14 1).trans s9
    have s17 : F13 77 = undef := (hF14 77).trans s10
    have s18 : F13 16 = .bool (decide ((((n : Nat) : Int)) < (0))) := (hF14 16).trans rfl
    clear hF14
    refine then_normal ?_
    refine wq_cond s18 (fun c19 => ?_) (fun c19 => ?_)
    · replace c19 := of_decide_eq_true c19
      exfalso; omega
    · replace c19 := of_decide_eq_false c19
      refine wq_skip ?_
      refine then_normal ?_
      refine wq_seq ?_
      refine wq_region ?_
      refine wl_v (v) rfl rfl (y_mov rfl s15 ⟨rfl, rfl⟩) ?_
      refine wl_v (.int .i64 ((((l).length : Nat) : Int))) rfl rfl (y_lenV rfl rfl rfl h_b ⟨rfl, rfl⟩) ?_
      refine wl_v (.int .u64 (((l.length : Nat) : Int))) rfl rfl (y_convR rfl rfl Try.underlying3 Try.underlying67 (u64_small (by omega)) ⟨rfl, rfl⟩) ?_
      refine wl_v (.int .i64 (((n : Nat) : Int))) rfl rfl (y_mov rfl s16 ⟨rfl, rfl⟩) ?_
      refine wl_v (.int .u64 (((n : Nat) : Int))) rfl rfl (y_convR rfl rfl Try.underlying3 Try.underlying67 (u64_small (by omega)) ⟨rfl, rfl⟩) ?_
      refine wl_call (R := fun v_ w_ => v_ = .tuple #[.int .u64 (((0 : Nat) : Int)), .int .u64 ((((l.length) * (n) : Nat) : Int))] ∧ Kept (fun _ => False) w0 w_) rfl rfl (y_cs rfl rfl rfl (fun _ _ => by kernel_rfl) (ev_func _) (vsC rfl (vsC rfl vsN)) (ps_mul (l.length) (n)  _ (by omega) (by omega) (by rw [hl]; omega)  ) (fun e_ w_ h_ => ⟨_, h_.1, rfl, h_.2⟩)) ?_
      rintro _ w20 ⟨rfl, k21⟩
      have B22 := h_b.all k21 Apart.none
      have K23 := K0.trans k21 (fun _ _ x => x.elim)
      refine wl_v (.tuple #[.int .u64 (((0 : Nat) : Int)), .int .u64 ((((l.length) * (n) : Nat) : Int))]) rfl rfl (y_mov rfl rfl ⟨rfl, rfl⟩) ?_
      refine wl_v (.int .u64 (((0 : Nat) : Int))) rfl rfl (y_ext rfl rfl rfl ⟨rfl, rfl⟩) ?_
      refine wl_v (.int .u64 ((((l.length) * (n) : Nat) : Int))) rfl rfl (y_ext rfl rfl rfl ⟨rfl, rfl⟩) ?_
      refine wl_v (.int .u64 (((0 : Nat) : Int))) rfl rfl (y_asg rfl rfl ⟨rfl, rfl⟩) ?_
      refine wl_v (.int .u64 ((((l.length) * (n) : Nat) : Int))) rfl rfl (y_asg rfl rfl ⟨rfl, rfl⟩) ?_
      refine wl_nil fun F24 hF25 => ?_
      have s26 : F24 0 = v := (hF25 0).trans s15
      have s27 : F24 77 = undef := (hF25 77).trans s17
      have s28 : F24 5 = .int .u64 (((0 : Nat) : Int)) := (hF25 5).trans rfl
      have s29 : F24 6 = .int .u64 ((((l.length) * (n) : Nat) : Int)) := (hF25 6).trans rfl
      clear hF25
      refine then_normal ?_
      refine wq_seq ?_
      refine wq_seq ?_
      have s30 : F24 6 = .int .u64 (((n : Nat) : Int)) := s29.trans (congrArg (Value.int .u64) (by rw [hl, Nat.one_mul]))
      refine wq_region ?_
      refine wl_v (.int .u64 (((0 : Nat) : Int))) rfl rfl (y_mov rfl s28 ⟨rfl, rfl⟩) ?_
      refine wl_v (.bool false) rfl rfl (y_gtr rfl rfl rfl rfl ⟨rfl, rfl⟩) ?_
      refine wl_v (.bool false) rfl rfl (y_mov rfl rfl ⟨rfl, rfl⟩) ?_
      refine wl_vw (.int .u64 (((n : Nat) : Int))) 2 false 29 rfl rfl rfl rfl rfl (y_mov rfl s30 ⟨rfl, rfl⟩) ?_
      refine wl_vw (.bool (decide ((9223372036854775807) < (((n : Nat) : Int))))) 2 false 29 rfl rfl rfl rfl rfl (y_gtr rfl rfl rfl rfl ⟨rfl, rfl⟩) ?_
      refine wl_v (.bool (decide ((9223372036854775807) < (((n : Nat) : Int))))) rfl rfl (y_pickF rfl rfl rfl ⟨rfl, rfl⟩) ?_
      refine wl_nil fun F31 hF32 => ?_
      have s33 : F31 0 = v := (hF32 0).trans s26
      have s34 : F31 77 = undef := (hF32 77).trans s27
      have s35 : F31 6 = .int .u64 (((n : Nat) : Int)) := (hF32 6).trans s30
      have s36 : F31 32 = .bool (decide ((9223372036854775807) < (((n : Nat) : Int)))) := (hF32 32).trans rfl
      clear hF32
      refine then_normal ?_
      refine wq_cond s36 (fun c37 => ?_) (fun c37 => ?_)
      · replace c37 := of_decide_eq_true c37
        exfalso; omega
      · replace c37 := of_decide_eq_false c37
        refine wq_skip ?_
        refine then_normal ?_
        refine wq_seq ?_
        refine wq_region ?_
        refine wl_v (.int .u64 (((n : Nat) : Int))) rfl rfl (y_mov rfl s35 ⟨rfl, rfl⟩) ?_
        refine wl_v (.int .i64 (((n : Nat) : Int))) rfl rfl (y_convR rfl rfl Try.underlying67 Try.underlying3 (i64_i rfl (by omega)) ⟨rfl, rfl⟩) ?_
        refine wl_v (.int .i64 (((n : Nat) : Int))) rfl rfl (y_asg rfl rfl ⟨rfl, rfl⟩) ?_
        refine wl_nil fun F38 hF39 => ?_
        have s40 : F38 0 = v := (hF39 0).trans s33
        have s41 : F38 77 = undef := (hF39 77).trans s34
        have s42 : F38 7 = .int .i64 (((n : Nat) : Int)) := (hF39 7).trans rfl
        clear hF39
        refine then_normal ?_
        refine wq_seq ?_
        refine wq_seq ?_
        refine wq_region ?_
        refine wl_v (v) rfl rfl (y_mov rfl s40 ⟨rfl, rfl⟩) ?_
        refine wl_v (.int .i64 ((((l).length : Nat) : Int))) rfl rfl (y_lenV rfl rfl rfl B22 ⟨rfl, rfl⟩) ?_
        refine wl_v (.bool (decide (((((l).length : Nat) : Int)) = (0)))) rfl rfl (y_eqlI rfl rfl rfl rfl ⟨rfl, rfl⟩) ?_
        refine wl_nil fun F43 hF44 => ?_
        have s45 : F43 0 = v := (hF44 0).trans s40
        have s46 : F43 77 = undef := (hF44 77).trans s41
        have s47 : F43 7 = .int .i64 (((n : Nat) : Int)) := (hF44 7).trans s42
        have s48 : F43 38 = .bool (decide (((((l).length : Nat) : Int)) = (0))) := (hF44 38).trans rfl
        clear hF44
        refine then_normal ?_
        refine wq_cond s48 (fun c49 => ?_) (fun c49 => ?_)
        · replace c49 := of_decide_eq_true c49
          refine wq_seq ?_
          exfalso; omega
        · replace c49 := of_decide_eq_false c49
          refine wq_skip ?_
          refine then_normal ?_
          refine wq_seq ?_
          refine wq_region ?_
          refine wl_v (.int .i64 (((n : Nat) : Int))) rfl rfl (y_mov rfl s47 ⟨rfl, rfl⟩) ?_
          refine wl_v (.int .i64 (((n : Nat) : Int))) rfl rfl (y_asg rfl rfl ⟨rfl, rfl⟩) ?_
          refine wl_nil fun F50 hF51 => ?_
          have s52 : F50 0 = v := (hF51 0).trans s45
          have s53 : F50 77 = undef := (hF51 77).trans s46
          have s54 : F50 7 = .int .i64 (((n : Nat) : Int)) := (hF51 7).trans s47
          have s55 : F50 8 = .int .i64 (((n : Nat) : Int)) := (hF51 8).trans rfl
          clear hF51
          refine then_normal ?_
          refine wq_seq ?_
          refine wq_seq ?_
          refine wq_region ?_
          refine wl_v (.int .i64 (((n : Nat) : Int))) rfl rfl (y_mov rfl s55 ⟨rfl, rfl⟩) ?_
          refine wl_v (.bool (decide ((8192) < (((n : Nat) : Int))))) rfl rfl (y_gtr rfl rfl rfl rfl ⟨rfl, rfl⟩) ?_
          refine wl_nil fun F56 hF57 => ?_
          have s58 : F56 0 = v := (hF57 0).trans s52
          have s59 : F56 77 = undef := (hF57 77).trans s53
          have s60 : F56 7 = .int .i64 (((n : Nat) : Int)) := (hF57 7).trans s54
          have s61 : F56 8 = .int .i64 (((n : Nat) : Int)) := (hF57 8).trans s55
          have s62 : F56 42 = .bool (decide ((8192) < (((n : Nat) : Int)))) := (hF57 42).trans rfl
          clear hF57
          refine then_normal ?_
          refine wq_cond s62 (fun c63 => ?_) (fun c63 => ?_)
          · replace c63 := of_decide_eq_true c63
            refine wq_seq ?_
            exfalso; omega
          · replace c63 := of_decide_eq_false c63
            refine wq_skip ?_
            refine then_normal ?_
            refine wq_seq ?_
            refine wq_region ?_
            refine wl_v (.int .i64 (((n : Nat) : Int))) rfl rfl (y_mov rfl s60 ⟨rfl, rfl⟩) ?_
            refine wl_mnz (n := n) rfl rfl rfl rfl rfl (by omega) (by omega) Try.func47 (by kernel_rfl) (by kernel_rfl) (by kernel_rfl) (by kernel_rfl) fun v64 w65 T69 J70 B67 hJ71 g68 k66 => ?_
            have gr72 : Grew w0 noB (T69) := Grew.new K23 g68
            have ap73 : Apart (T69) (T_b) := Apart.new g68 (B22).live
            have B74 := B22.all k66 Apart.none
            have K75 := K23.trans k66 (fun _ _ x => x.elim)
            refine wl_v (.int .i64 (((n : Nat) : Int))) rfl rfl (y_mov rfl s60 ⟨rfl, rfl⟩) ?_
            refine wl_v (.int .i64 (((n : Nat) : Int))) rfl rfl (y_mov rfl s60 ⟨rfl, rfl⟩) ?_
            refine wl_v (subV (v64) (0) (n) (n)) rfl rfl (y_cut3T (n) (n) rfl rfl rfl rfl (by omega) (by omega) (B67).byt (by omega) (by omega) ⟨rfl, rfl⟩) ?_
            refine wl_v (subV (v64) (0) (n) (n)) rfl rfl (y_asg rfl rfl ⟨rfl, rfl⟩) ?_
            refine wl_nil fun F76 hF77 => ?_
            have s78 : F76 0 = v := (hF77 0).trans s58
            have s79 : F76 77 = undef := (hF77 77).trans s59
            have s80 : F76 7 = .int .i64 (((n : Nat) : Int)) := (hF77 7).trans s60
            have s81 : F76 8 = .int .i64 (((n : Nat) : Int)) := (hF77 8).trans s61
            have s82 : F76 9 = subV (v64) (0) (n) (n) := (hF77 9).trans rfl
            clear hF77
            refine then_normal ?_
            refine wq_seq ?_
            refine wq_region ?_
            refine wl_v (subV (v64) (0) (n) (n)) rfl rfl (y_mov rfl s82 ⟨rfl, rfl⟩) ?_
            refine wl_v (v) rfl rfl (y_mov rfl s78 ⟨rfl, rfl⟩) ?_
            refine wl_copyM rfl rfl rfl rfl rfl (part_sub (B67).byt (by omega)) rfl B67 B74 (by omega) fun w84 B86 k85 => ?_
            have B89 := B74.all k85 (fun i h x => (((ap73).symm) i h x))
            have K90 := K75.trans k85 (Grew.ok (S := fun _ => False) gr72 noB_le)
            refine wl_v (.int .i64 (((min ((n) - (0)) (l).length : Nat) : Int))) rfl rfl (y_asg rfl rfl ⟨rfl, rfl⟩) ?_
            refine wl_nil fun F91 hF92 => ?_
            have s93 : F91 77 = undef := (hF92 77).trans s79
            have s94 : F91 7 = .int .i64 (((n : Nat) : Int)) := (hF92 7).trans s80
            have s95 : F91 8 = .int .i64 (((n : Nat) : Int)) := (hF92 8).trans s81
            have s96 : F91 9 = subV (v64) (0) (n) (n) := (hF92 9).trans s82
            have s97 : F91 10 = .int .i64 (((min ((n) - (0)) (l).length : Nat) : Int)) := (hF92 10).trans rfl
            clear hF92
            refine then_normal ?_
            refine wq_seq ?_
            refine wq_block ?_
            refine wq_loop (fun nn FF ww => ∃ (k : Nat), ∃ (L : List Nat), ∃ (T98 : Nat → Prop), (1 ≤ k ∧ k ≤ n) ∧ (L.length = n) ∧ (L.take k = List.replicate k s) ∧ nn = n - k ∧ FF 7 = .int .i64 (((n : Nat) : Int)) ∧ FF 8 = .int .i64 (((n : Nat) : Int)) ∧ FF 9 = subV (v64) (0) (n) (n) ∧ FF 77 = undef ∧ FF 10 = .int .i64 (((k : Nat) : Int)) ∧ Kept (fun _ => False) w0 ww ∧ Byt ww (T_b) v (l) ∧ Owb ww (T98) v64 (L) ∧ Grew w0 (noB) T98 ∧ Apart (T98) (T_b)) (n - (1)) ⟨1, _, T69, by omega, (rep_start (by assumption) hn hl hs).1, (rep_start (by assumption) hn hl hs).2, rfl, s94, s95, s96, s93, s97.trans (congrArg (Value.int .i64) (by omega)), K90, B89, B86, gr72, ap73⟩ ?_
            rintro n102 F99 w100 ⟨k, L, T98, i103, hLn, hT, hn102, s104, s105, s106, s107, s108, K101, B109, B110, gr111, ap112⟩
            refine wq_seq ?_
            refine wq_seq ?_
            refine wq_region ?_
            refine wl_v (.int .i64 (((k : Nat) : Int))) rfl rfl (y_mov rfl s108 ⟨rfl, rfl⟩) ?_
            refine wl_v (.int .i64 (((n : Nat) : Int))) rfl rfl (y_mov rfl s104 ⟨rfl, rfl⟩) ?_
            refine wl_v (.bool (decide ((((k : Nat) : Int)) < (((n : Nat) : Int))))) rfl rfl (y_lss rfl rfl rfl rfl ⟨rfl, rfl⟩) ?_
            refine wl_nil fun F113 hF114 => ?_
            have s115 : F113 7 = .int .i64 (((n : Nat) : Int)) := (hF114 7).trans s104
            have s116 : F113 8 = .int .i64 (((n : Nat) : Int)) := (hF114 8).trans s105
            have s117 : F113 9 = subV (v64) (0) (n) (n) := (hF114 9).trans s106
            have s118 : F113 77 = undef := (hF114 77).trans s107
            have s119 : F113 10 = .int .i64 (((k : Nat) : Int)) := (hF114 10).trans s108
            have s120 : F113 63 = .bool (decide ((((k : Nat) : Int)) < (((n : Nat) : Int)))) := (hF114 63).trans rfl
            clear hF114
            refine then_normal ?_
            refine wq_cond s120 (fun c121 => ?_) (fun c121 => ?_)
            · replace c121 := of_decide_eq_true c121
              refine wq_skip ?_
              refine then_normal ?_
              refine wq_block ?_
              refine wq_seq ?_
              refine wq_region ?_
              refine wl_v (.int .i64 (((k : Nat) : Int))) rfl rfl (y_mov rfl s119 ⟨rfl, rfl⟩) ?_
              refine wl_v (.int .i64 (((n : Nat) : Int))) rfl rfl (y_mov rfl s116 ⟨rfl, rfl⟩) ?_
              refine wl_v (.int .i64 (((k : Nat) : Int))) rfl rfl (y_minR rfl rfl rfl (by omega) ⟨rfl, rfl⟩) ?_
              refine wl_v (.int .i64 (((k : Nat) : Int))) rfl rfl (y_asg rfl rfl ⟨rfl, rfl⟩) ?_
              refine wl_nil fun F122 hF123 => ?_
              have s124 : F122 7 = .int .i64 (((n : Nat) : Int)) := (hF123 7).trans s115
              have s125 : F122 8 = .int .i64 (((n : Nat) : Int)) := (hF123 8).trans s116
              have s126 : F122 9 = subV (v64) (0) (n) (n) := (hF123 9).trans s117
              have s127 : F122 77 = undef := (hF123 77).trans s118
              have s128 : F122 10 = .int .i64 (((k : Nat) : Int)) := (hF123 10).trans s119
              have s129 : F122 11 = .int .i64 (((k : Nat) : Int)) := (hF123 11).trans rfl
              clear hF123
              refine then_normal ?_
              refine wq_tailR 9 (RepR (T98) v64 L (repL L n k)) [some 67, some 68, some 69, some 70, some 71, some 72, some 73, some 74, some 75] (RepG (T98) v64 (repL L n k) [.int .i64 (k : Int), subV v64 0 n n, .int .i64 (k : Int), subV (subV v64 0 n n) k (n - 0) (n - 0), subV v64 0 n n, .int .i64 (k : Int), subV (subV v64 0 n n) 0 k (n - 0), .int .i64 ((min (n - k) k : Nat) : Int), .int .i64 ((k + min (n - k) k : Nat) : Int)]) (by kernel_rfl) (by kernel_rfl) (by kernel_rfl) RepR.refl (fun _ _ _ h1 h2 => h1.trans h2) (RepR.drew _) RepG.stays ?_ ?_
              · refine stepsR_cons rfl (fun F_ w_ hR hout hD => ?_) ?_
                · exact y_mov rfl ((hout 10 rfl (by decide)).trans s128) ⟨⟨rfl, fun e => by cases e⟩, RepR.refl _⟩
                refine stepsR_cons rfl (fun F_ w_ hR hout hD => ?_) ?_
                · exact y_mov rfl ((hout 9 rfl (by decide)).trans s126) ⟨⟨rfl, fun e => by cases e⟩, RepR.refl _⟩
                refine stepsR_cons rfl (fun F_ w_ hR hout hD => ?_) ?_
                · exact y_mov rfl ((hout 10 rfl (by decide)).trans s128) ⟨⟨rfl, fun e => by cases e⟩, RepR.refl _⟩
                refine stepsR_cons rfl (fun F_ w_ hR hout hD => ?_) ?_
                · have g68 : F_ 68 = subV v64 0 n n := (hD.get 0 rfl rfl rfl).1
                  have g69 : F_ 69 = .int .i64 (k : Int) := (hD.get 1 rfl rfl rfl).1
                  exact rep_cutL rfl g68 g69 (by omega) B110 hR ⟨⟨rfl, fun e => by cases e⟩, RepR.refl _⟩
                refine stepsR_cons rfl (fun F_ w_ hR hout hD => ?_) ?_
                · exact y_mov rfl ((hout 9 rfl (by decide)).trans s126) ⟨⟨rfl, fun e => by cases e⟩, RepR.refl _⟩
                refine stepsR_cons rfl (fun F_ w_ hR hout hD => ?_) ?_
                · exact y_mov rfl ((hout 11 rfl (by decide)).trans s129) ⟨⟨rfl, fun e => by cases e⟩, RepR.refl _⟩
                refine stepsR_cons rfl (fun F_ w_ hR hout hD => ?_) ?_
                · have g71 : F_ 71 = subV v64 0 n n := (hD.get 0 rfl rfl rfl).1
                  have g72 : F_ 72 = .int .i64 (k : Int) := (hD.get 1 rfl rfl rfl).1
                  exact rep_cutH rfl g71 g72 (by omega) B110 hR ⟨⟨rfl, fun e => by cases e⟩, RepR.refl _⟩
                refine stepsR_cons rfl (fun F_ w_ hR hout hD => ?_) ?_
                · have g70 : F_ 70 = subV (subV v64 0 n n) k (n - 0) (n - 0) := (hD.get 0 rfl rfl rfl).1
                  have g73 : F_ 73 = subV (subV v64 0 n n) 0 k (n - 0) := (hD.get 1 rfl rfl rfl).1
                  exact rep_turn rfl rfl g70 g73 hLn (by omega) hT B110 hR rfl
                refine stepsR_cons rfl (fun F_ w_ hR hout hD => ?_) ?_
                · have g67 : F_ 67 = .int .i64 (k : Int) := (hD.get 0 rfl rfl rfl).1
                  have g74 : F_ 74 = .int .i64 ((min (n - k) k : Nat) : Int) := (hD.get 1 rfl rfl rfl).1
                  exact y_add rfl g67 g74 (i64_n (m := k + min (n - k) k) (by omega) (by omega)) ⟨⟨rfl, fun e => by cases e⟩, RepR.refl _⟩
                exact stepsR_nil
              intro v130 F131 w132 R133 G134 hF135
              have k136 := R133.1
              have B137 := (G134 7 (by decide)).2 rfl
              have B138 := B109.all k136 (fun i h x => (((ap112).symm) i h x))
              have K139 := K101.trans k136 (Grew.ok (S := fun _ => False) gr111 noB_le)
              have s140 : F131 7 = .int .i64 (((n : Nat) : Int)) := (hF135 7).trans s124
              have s141 : F131 8 = .int .i64 (((n : Nat) : Int)) := (hF135 8).trans s125
              have s142 : F131 9 = subV (v64) (0) (n) (n) := (hF135 9).trans s126
              have s143 : F131 77 = undef := (hF135 77).trans s127
              have s144 : F131 10 = .int .i64 (((k : Nat) : Int)) := (hF135 10).trans s128
              have s145 : F131 75 = .int .i64 (((k + min (n - k) k : Nat) : Int)) := (hF135 75).trans (G134 8 (by decide)).1
              clear R133 G134 hF135
              refine wl_v (.int .i64 (((k + min (n - k) k : Nat) : Int))) rfl rfl (y_asg rfl s145 ⟨rfl, rfl⟩) ?_
              refine wl_nil fun F146 hF147 => ?_
              have s148 : F146 7 = .int .i64 (((n : Nat) : Int)) := (hF147 7).trans s140
              have s149 : F146 8 = .int .i64 (((n : Nat) : Int)) := (hF147 8).trans s141
              have s150 : F146 9 = subV (v64) (0) (n) (n) := (hF147 9).trans s142
              have s151 : F146 77 = undef := (hF147 77).trans s143
              have s152 : F146 10 = .int .i64 (((k + min (n - k) k : Nat) : Int)) := (hF147 10).trans rfl
              clear hF147
              refine in_normal ?_
              exact then_normal ⟨(n - (k + min (n - k) k)), by omega, k + min (n - k) k, _, T98, by omega, repL_length hLn (by omega), repL_take hLn (by omega) hT, rfl, s148, s149, s150, s151, s152, K139, B138, B137, gr111, ap112⟩
            · replace c121 := of_decide_eq_false c121
              refine wq_exit ?_
              refine then_exit ?_
              refine then_exit ?_
              refine in_here ?_
              refine then_normal ?_
              refine wq_seq ?_
              refine wq_region ?_
              refine wl_v (subV (v64) (0) (n) (n)) rfl rfl (y_mov rfl s117 ⟨rfl, rfl⟩) ?_
              refine wl_v (subV (v64) (0) (n) (n)) rfl rfl (y_asg rfl rfl ⟨rfl, rfl⟩) ?_
              refine wl_nil fun F153 hF154 => ?_
              have s155 : F153 77 = undef := (hF154 77).trans s118
              have s156 : F153 4 = subV (v64) (0) (n) (n) := (hF154 4).trans rfl
              clear hF154
              refine then_normal ?_
              refine wq_ret ?_
              exact end_tmp (v := subV (v64) (0) (n) (n)) s155 rfl rfl s156 ⟨(subV (v64) (0) (n) (n)), T98, rfl, K101, ⟨(Byt.of_eq (rep_done (by omega) hT) (((B110).byt).sub (i := 0) (j := n) (m := n) (by omega) (by have hc_ := ((B110).byt).cap; omega) (by omega) (by have hc_ := ((B110).byt).cap; omega))), gr111⟩⟩
end Go.Proofs.Ytdggilbgjijfmaa
