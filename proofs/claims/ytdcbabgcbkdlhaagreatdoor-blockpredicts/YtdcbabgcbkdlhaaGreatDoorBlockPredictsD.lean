/- What BlockPredicts reaches of my texts, part 4. -/
import Derived.Test.YtdcbabgcbkdlhaaGreatDoorBlockPredictsC
set_option maxRecDepth 100000
set_option maxRecDepth 100000
namespace Go.Proofs.YtdcbabgcbkdlhaaGreatDoor
open Go.RowKit

theorem arrT_edge : ArrT 89 4 := ArrT.of Tryz.underlying89 (by kernel_rfl)
theorem stcT_fn4 : StcT Tryz.prog 86 4 := ⟨_, Tryz.underlying86, rfl, by kernel_rfl⟩
theorem Arr.first {w : World} {p n : Nat} {t : TypeId} {b c : Nat → Int} (h : Arr w p t n b) : Arr w p t n (upto 0 b c) := by rw [upto_zero]; exact h
theorem Arr.next {w : World} {p n : Nat} {t : TypeId} {b c : Nat → Int} {k : Nat} {x : Int} (h : Arr w p t n (upd (upto k b c) k x)) (e : x = c k) : Arr w p t n (upto (k + 1) b c) := by rw [← upto_set, ← e]; exact h
theorem upd_twice (b : Nat → Int) (k : Nat) (x y : Int) : upd (upd b k x) k y = upd b k y := by funext i; unfold upd; split <;> rfl
theorem Arr.next2 {w : World} {p n : Nat} {t : TypeId} {b c : Nat → Int} {k : Nat} {x y : Int} (h : Arr w p t n (upd (upd (upto k b c) k x) k y)) (e : y = c k) : Arr w p t n (upto (k + 1) b c) := by rw [upd_twice] at h; exact h.next e
theorem Arr.last {w : World} {p n : Nat} {t : TypeId} {b c : Nat → Int} (h : Arr w p t n (upto n b c)) : Arr w p t n c := h.congr (fun i hi => by simp [upto, hi])

set_option maxHeartbeats 4000000 in
set_option maxRecDepth 100000 in
theorem is_place (n : Int) (w0 : World) :
  Calls Tryz.prog 45 #[.int .i64 (n)] w0 fun e w' => e = .returned (.bool (decide (0 ≤ n ∧ n ≤ 64))) ∧ Kept (fun _ => False) w0 w' := by
 refine calls_wq (args := [.int .i64 (n)]) 9 Tryz.func45 rfl rfl (Nat.le_of_ble_eq_true rfl) ?_
 have K0 := Kept.refl (fun _ => False) w0
 refine wq_seq ?_
 refine wq_region ?_
 refine wl_v (.bool false) rfl rfl (y_asg rfl rfl ⟨rfl, rfl⟩) ?_
 refine wl_nil fun F1 hF2 => ?_
 have s3 : F1 0 = .int .i64 (n) := (hF2 0).trans rfl
 have s4 : F1 9 = undef := (hF2 9).trans rfl
 clear hF2
 refine then_normal ?_
 refine wq_seq ?_
 by_cases d5 : (0) ≤ (n)
 ·skip
  refine wq_region ?_
  refine wl_v (.int .i64 (n)) rfl rfl (y_mov rfl s3 ⟨rfl, rfl⟩) ?_
  refine wl_v (.bool true) rfl rfl (y_geq rfl rfl rfl (decide_eq_true d5) ⟨rfl, rfl⟩) ?_
  refine wl_v (.bool true) rfl rfl (y_mov rfl rfl ⟨rfl, rfl⟩) ?_
  refine wl_vw (.int .i64 (n)) 2 true 5 rfl rfl rfl rfl rfl (y_mov rfl s3 ⟨rfl, rfl⟩) ?_
  refine wl_vw (.bool (decide ((n) ≤ (64)))) 2 true 5 rfl rfl rfl rfl rfl (y_leq rfl rfl rfl rfl ⟨rfl, rfl⟩) ?_
  refine wl_v (.bool (decide ((n) ≤ (64)))) rfl rfl (y_pickT rfl rfl rfl ⟨rfl, rfl⟩) ?_
  refine wl_v (.bool (decide ((n) ≤ (64)))) rfl rfl (y_asg rfl rfl ⟨rfl, rfl⟩) ?_
  refine wl_nil fun F6 hF7 => ?_
  have s8 := (hF7 9).trans s4
  have s9 : F6 2 = .bool (decide ((n) ≤ (64))) := (hF7 2).trans rfl
  clear hF7
  refine then_normal ?_
  refine wq_ret ?_
  exact end_tmp (v := .bool (decide ((n) ≤ (64)))) s8 rfl rfl s9 ⟨(retB (by first | exact (decide_eq_true (by omega)).symm | exact (decide_eq_false (by omega)).symm | exact decide_eq_decide.2 (by omega))), K0⟩
 ·skip
  refine wq_region ?_
  refine wl_v (.int .i64 (n)) rfl rfl (y_mov rfl s3 ⟨rfl, rfl⟩) ?_
  refine wl_v (.bool false) rfl rfl (y_geq rfl rfl rfl (decide_eq_false d5) ⟨rfl, rfl⟩) ?_
  refine wl_v (.bool false) rfl rfl (y_mov rfl rfl ⟨rfl, rfl⟩) ?_
  refine wl_unless 2 true 5 rfl rfl rfl (Or.inl rfl) rfl ?_
  refine wl_unless 2 true 5 rfl rfl rfl (Or.inl rfl) rfl ?_
  refine wl_v (.bool false) rfl rfl (y_pickF rfl rfl rfl ⟨rfl, rfl⟩) ?_
  refine wl_v (.bool false) rfl rfl (y_asg rfl rfl ⟨rfl, rfl⟩) ?_
  refine wl_nil fun F10 hF11 => ?_
  have s12 := (hF11 9).trans s4
  have s13 : F10 2 = .bool false := (hF11 2).trans rfl
  clear hF11
  refine then_normal ?_
  refine wq_ret ?_
  exact end_tmp (v := .bool false) s12 rfl rfl s13 ⟨(retB (by first | exact (decide_eq_true (by omega)).symm | exact (decide_eq_false (by omega)).symm | exact decide_eq_decide.2 (by omega))), K0⟩

set_option maxHeartbeats 4000000 in
set_option maxRecDepth 100000 in
theorem is_above1 (p x y : Int) (k : Nat) (f : FD) (f0 f1 f2 : Value) (b1 : Nat) (b2 : Nat) (b3 : Nat) (b4 : Nat) (T_f0 : Nat → Prop) (T_f1 : Nat → Prop) (T_f2 : Nat → Prop) (w0 : World) (hx : 0 ≤ x ∧ x ≤ 64) (hy : 0 ≤ y ∧ y ≤ 64) (hk : k < 4) (h_f0 : Byt w0 T_f0 f0 ((f).p0)) (h_f1 : Byt w0 T_f1 f1 ((f).p1)) (h_f2 : Byt w0 T_f2 f2 ((f).p2)) (h_b1 : Stc w0 b1 25 [.int .i64 ((f).W), .int .i64 ((f).H), f0, f1, f2]) (h_b2 : Cel w0 b2 3 (.int .i64 (p))) (h_b3 : Cel w0 b3 3 (.int .i64 (x))) (h_b4 : Cel w0 b4 3 (.int .i64 (y))) :
  Calls Tryz.prog 85 #[.int .i64 (((k : Nat) : Int)), .pointer (some ⟨b1, 0, none⟩), .pointer (some ⟨b2, 0, none⟩), .pointer (some ⟨b3, 0, none⟩), .pointer (some ⟨b4, 0, none⟩)] w0 fun e w' => e = .returned (.int .i64 (atF f p (x + (k : Int)) (y - 1))) ∧ Kept (fun _ => False) w0 w' := by
 refine calls_wq (args := [.int .i64 (((k : Nat) : Int)), .pointer (some ⟨b1, 0, none⟩), .pointer (some ⟨b2, 0, none⟩), .pointer (some ⟨b3, 0, none⟩), .pointer (some ⟨b4, 0, none⟩)]) 15 Tryz.func85 rfl rfl (Nat.le_of_ble_eq_true rfl) ?_
 have K0 := Kept.refl (fun _ => False) w0
 have g_f0 := Grew.refl w0 T_f0
 have g_f1 := Grew.refl w0 T_f1
 have g_f2 := Grew.refl w0 T_f2
 refine wq_seq ?_
 refine wq_region ?_
 refine wl_v (.int .i64 (0)) rfl rfl (y_asg rfl rfl ⟨rfl, rfl⟩) ?_
 refine wl_nil fun F1 hF2 => ?_
 have s3 : F1 0 = .int .i64 (((k : Nat) : Int)) := (hF2 0).trans rfl
 have s4 : F1 1 = .pointer (some ⟨b1, 0, none⟩) := (hF2 1).trans rfl
 have s5 : F1 2 = .pointer (some ⟨b2, 0, none⟩) := (hF2 2).trans rfl
 have s6 : F1 3 = .pointer (some ⟨b3, 0, none⟩) := (hF2 3).trans rfl
 have s7 : F1 4 = .pointer (some ⟨b4, 0, none⟩) := (hF2 4).trans rfl
 have s8 : F1 15 = undef := (hF2 15).trans rfl
 clear hF2
 refine then_normal ?_
 refine wq_seq ?_
 refine wq_region ?_
 refine wl_v (.agg #[.int .i64 ((f).W), .int .i64 ((f).H), f0, f1, f2]) rfl rfl (y_load_stc stcT_frame rfl s4 h_b1 ⟨rfl, rfl⟩) ?_
 refine wl_v (.int .i64 (p)) rfl rfl (y_load_cel rfl s5 Tryz.underlying3 h_b2 rfl ⟨rfl, rfl⟩) ?_
 refine wl_v (.int .i64 (x)) rfl rfl (y_load_cel rfl s6 Tryz.underlying3 h_b3 rfl ⟨rfl, rfl⟩) ?_
 refine wl_v (.int .i64 (((k : Nat) : Int))) rfl rfl (y_mov rfl s3 ⟨rfl, rfl⟩) ?_
 refine wl_v (.int .i64 ((x) + (((k : Nat) : Int)))) rfl rfl (y_add rfl rfl rfl (i64_i rfl (by omega)) ⟨rfl, rfl⟩) ?_
 refine wl_v (.int .i64 (y)) rfl rfl (y_load_cel rfl s7 Tryz.underlying3 h_b4 rfl ⟨rfl, rfl⟩) ?_
 refine wl_v (.int .i64 ((y) - (1))) rfl rfl (y_sub rfl rfl rfl (i64_i rfl (by omega)) ⟨rfl, rfl⟩) ?_
 refine wl_call (R := fun v_ w_ => v_ = .int .i64 (atF (f) (p) ((x) + (((k : Nat) : Int))) ((y) - (1))) ∧ Kept (fun _ => False) w0 w_) rfl rfl (y_cs rfl rfl rfl (fun _ _ => by kernel_rfl) (ev_func _) (vsC rfl (vsC rfl (vsC rfl (vsC rfl vsN)))) (pl_at (p) ((x) + (((k : Nat) : Int))) ((y) - (1)) (f) (f0) (f1) (f2) (T_f0) (T_f1) (T_f2) _  h_f0 h_f1 h_f2 ) (fun e_ w_ h_ => ⟨_, h_.1, rfl, h_.2⟩)) ?_
 rintro _ w9 ⟨rfl, k10⟩
 have K18 := K0.trans k10 (fun _ _ x => x.elim)
 refine wl_v (.int .i64 (atF (f) (p) ((x) + (((k : Nat) : Int))) ((y) - (1)))) rfl rfl (y_asg rfl rfl ⟨rfl, rfl⟩) ?_
 refine wl_nil fun F19 hF20 => ?_
 have s21 := (hF20 15).trans s8
 have s22 : F19 6 = .int .i64 (atF (f) (p) ((x) + (((k : Nat) : Int))) ((y) - (1))) := (hF20 6).trans rfl
 clear hF20
 refine then_normal ?_
 refine wq_ret ?_
 exact end_tmp (v := .int .i64 (atF (f) (p) ((x) + (((k : Nat) : Int))) ((y) - (1)))) s21 rfl rfl s22 ⟨rfl, K18⟩

set_option maxHeartbeats 4000000 in
set_option maxRecDepth 100000 in
theorem is_left1 (p x y : Int) (k : Nat) (f : FD) (f0 f1 f2 : Value) (b1 : Nat) (b2 : Nat) (b3 : Nat) (b4 : Nat) (T_f0 : Nat → Prop) (T_f1 : Nat → Prop) (T_f2 : Nat → Prop) (w0 : World) (hx : 0 ≤ x ∧ x ≤ 64) (hy : 0 ≤ y ∧ y ≤ 64) (hk : k < 4) (h_f0 : Byt w0 T_f0 f0 ((f).p0)) (h_f1 : Byt w0 T_f1 f1 ((f).p1)) (h_f2 : Byt w0 T_f2 f2 ((f).p2)) (h_b1 : Stc w0 b1 25 [.int .i64 ((f).W), .int .i64 ((f).H), f0, f1, f2]) (h_b2 : Cel w0 b2 3 (.int .i64 (p))) (h_b3 : Cel w0 b3 3 (.int .i64 (x))) (h_b4 : Cel w0 b4 3 (.int .i64 (y))) :
  Calls Tryz.prog 86 #[.int .i64 (((k : Nat) : Int)), .pointer (some ⟨b1, 0, none⟩), .pointer (some ⟨b2, 0, none⟩), .pointer (some ⟨b3, 0, none⟩), .pointer (some ⟨b4, 0, none⟩)] w0 fun e w' => e = .returned (.int .i64 (atF f p (x - 1) (y + (k : Int)))) ∧ Kept (fun _ => False) w0 w' := by
 refine calls_wq (args := [.int .i64 (((k : Nat) : Int)), .pointer (some ⟨b1, 0, none⟩), .pointer (some ⟨b2, 0, none⟩), .pointer (some ⟨b3, 0, none⟩), .pointer (some ⟨b4, 0, none⟩)]) 15 Tryz.func86 rfl rfl (Nat.le_of_ble_eq_true rfl) ?_
 have K0 := Kept.refl (fun _ => False) w0
 have g_f0 := Grew.refl w0 T_f0
 have g_f1 := Grew.refl w0 T_f1
 have g_f2 := Grew.refl w0 T_f2
 refine wq_seq ?_
 refine wq_region ?_
 refine wl_v (.int .i64 (0)) rfl rfl (y_asg rfl rfl ⟨rfl, rfl⟩) ?_
 refine wl_nil fun F1 hF2 => ?_
 have s3 : F1 0 = .int .i64 (((k : Nat) : Int)) := (hF2 0).trans rfl
 have s4 : F1 1 = .pointer (some ⟨b1, 0, none⟩) := (hF2 1).trans rfl
 have s5 : F1 2 = .pointer (some ⟨b2, 0, none⟩) := (hF2 2).trans rfl
 have s6 : F1 3 = .pointer (some ⟨b3, 0, none⟩) := (hF2 3).trans rfl
 have s7 : F1 4 = .pointer (some ⟨b4, 0, none⟩) := (hF2 4).trans rfl
 have s8 : F1 15 = undef := (hF2 15).trans rfl
 clear hF2
 refine then_normal ?_
 refine wq_seq ?_
 refine wq_region ?_
 refine wl_v (.agg #[.int .i64 ((f).W), .int .i64 ((f).H), f0, f1, f2]) rfl rfl (y_load_stc stcT_frame rfl s4 h_b1 ⟨rfl, rfl⟩) ?_
 refine wl_v (.int .i64 (p)) rfl rfl (y_load_cel rfl s5 Tryz.underlying3 h_b2 rfl ⟨rfl, rfl⟩) ?_
 refine wl_v (.int .i64 (x)) rfl rfl (y_load_cel rfl s6 Tryz.underlying3 h_b3 rfl ⟨rfl, rfl⟩) ?_
 refine wl_v (.int .i64 ((x) - (1))) rfl rfl (y_sub rfl rfl rfl (i64_i rfl (by omega)) ⟨rfl, rfl⟩) ?_
 refine wl_v (.int .i64 (y)) rfl rfl (y_load_cel rfl s7 Tryz.underlying3 h_b4 rfl ⟨rfl, rfl⟩) ?_
 refine wl_v (.int .i64 (((k : Nat) : Int))) rfl rfl (y_mov rfl s3 ⟨rfl, rfl⟩) ?_
 refine wl_v (.int .i64 ((y) + (((k : Nat) : Int)))) rfl rfl (y_add rfl rfl rfl (i64_i rfl (by omega)) ⟨rfl, rfl⟩) ?_
 refine wl_call (R := fun v_ w_ => v_ = .int .i64 (atF (f) (p) ((x) - (1)) ((y) + (((k : Nat) : Int)))) ∧ Kept (fun _ => False) w0 w_) rfl rfl (y_cs rfl rfl rfl (fun _ _ => by kernel_rfl) (ev_func _) (vsC rfl (vsC rfl (vsC rfl (vsC rfl vsN)))) (pl_at (p) ((x) - (1)) ((y) + (((k : Nat) : Int))) (f) (f0) (f1) (f2) (T_f0) (T_f1) (T_f2) _  h_f0 h_f1 h_f2 ) (fun e_ w_ h_ => ⟨_, h_.1, rfl, h_.2⟩)) ?_
 rintro _ w9 ⟨rfl, k10⟩
 have K18 := K0.trans k10 (fun _ _ x => x.elim)
 refine wl_v (.int .i64 (atF (f) (p) ((x) - (1)) ((y) + (((k : Nat) : Int))))) rfl rfl (y_asg rfl rfl ⟨rfl, rfl⟩) ?_
 refine wl_nil fun F19 hF20 => ?_
 have s21 := (hF20 15).trans s8
 have s22 : F19 6 = .int .i64 (atF (f) (p) ((x) - (1)) ((y) + (((k : Nat) : Int)))) := (hF20 6).trans rfl
 clear hF20
 refine then_normal ?_
 refine wq_ret ?_
 exact end_tmp (v := .int .i64 (atF (f) (p) ((x) - (1)) ((y) + (((k : Nat) : Int))))) s21 rfl rfl s22 ⟨rfl, K18⟩

/-- An edge, where something is ahead. -/
def edgeOf (ahead : Int) (g : Nat → Int) : Nat → Int := fun i => if ahead > 0 then g i else 128
theorem edge_yes {a : Int} {g : Nat → Int} {k : Nat} (h : a > 0) : g k = edgeOf a g k := (if_pos h).symm
theorem edge_no {a : Int} {g : Nat → Int} {k : Nat} (h : ¬ a > 0) : 128 = edgeOf a g k := (if_neg h).symm
set_option maxHeartbeats 4000000 in
set_option maxRecDepth 100000 in
theorem is_along (ahead : Int) (fv : Value) (g : Nat → Int) (w0 : World) (hg : Ask1 w0 4 fv g) :
  Calls Tryz.prog 84 #[.int .i64 (ahead), fv] w0 fun e w' => e = .returned (.agg (arrL 4 (edgeOf ahead g)).toArray) ∧ Kept (fun _ => False) w0 w' := by
 refine calls_wq (args := [.int .i64 (ahead), fv]) 21 Tryz.func84 rfl rfl (Nat.le_of_ble_eq_true rfl) ?_
 have K0 := Kept.refl (fun _ => False) w0
 refine wq_seq ?_
 refine wq_region ?_
 refine wl_alloc_arr rfl rfl rfl arrT_edge.2.2 fun p1 w2 e5 B3 k4 => ?_
 have g6 := onB_new (Nat.le_of_eq e5.symm)
 have gr7 : Grew w0 noB (onB p1) := Grew.new K0 g6
 clear e5 g6
 have K8 := K0.trans k4 (fun _ _ x => x.elim)
 refine wl_nil fun F9 hF10 => ?_
 have s11 : F9 0 = .int .i64 (ahead) := (hF10 0).trans rfl
 have s12 : F9 1 = fv := (hF10 1).trans rfl
 have s13 : F9 21 = undef := (hF10 21).trans rfl
 have s14 : F9 4 = .pointer (some ⟨p1, 0, none⟩) := (hF10 4).trans rfl
 clear hF10
 refine then_normal ?_
 refine wq_seq ?_
 refine wq_region ?_
 refine wl_alloc_arr rfl rfl rfl arrT_edge.2.2 fun p15 w16 e19 B17 k18 => ?_
 have g20 := onB_new (Nat.le_of_eq e19.symm)
 have gr21 : Grew w0 noB (onB p15) := Grew.new K8 g20
 have ap22 : Apart (onB p15) (onB p1) := Apart.new g20 (onB_live (B3).lt)
 clear e19 g20
 have B23 := B3.all k18 id
 have K24 := K8.trans k18 (fun _ _ x => x.elim)
 refine wl_nil fun F25 hF26 => ?_
 have s27 := (hF26 0).trans s11
 have s28 := (hF26 1).trans s12
 have s29 := (hF26 21).trans s13
 have s30 := (hF26 4).trans s14
 have s31 : F25 5 = .pointer (some ⟨p15, 0, none⟩) := (hF26 5).trans rfl
 clear hF26
 refine then_normal ?_
 refine wq_seq ?_
 refine wq_seq ?_
 refine wq_region ?_
 refine wl_v (.int .i64 (0)) rfl rfl (y_mov rfl rfl ⟨rfl, rfl⟩) ?_
 refine wl_nil fun F32 hF33 => ?_
 have s34 := (hF33 0).trans s27
 have s35 := (hF33 1).trans s28
 have s36 := (hF33 21).trans s29
 have s37 := (hF33 4).trans s30
 have s38 := (hF33 5).trans s31
 have s39 : F32 7 = .int .i64 (0) := (hF33 7).trans rfl
 clear hF33
 refine then_normal ?_
 refine wq_block ?_
 refine wq_loop (fun nn FF ww => ∃ (k : Nat), (k ≤ 4) ∧ nn = 4 - k ∧ FF 0 = .int .i64 (ahead) ∧ FF 1 = fv ∧ FF 4 = .pointer (some ⟨p1, 0, none⟩) ∧ FF 5 = .pointer (some ⟨p15, 0, none⟩) ∧ FF 21 = undef ∧ FF 7 = .int .i64 (((k : Nat) : Int)) ∧ Kept (fun _ => False) w0 ww ∧ Arr ww p1 89 4 (fun _ => 0) ∧ Arr ww p15 89 4 (upto k (fun _ => 0) (edgeOf ahead g))) (4 - (0)) ⟨0, by omega, rfl, s34, s35, s37, s38, s36, s39, K24, B23, B17.first⟩ ?_
 rintro n43 F40 w41 ⟨k, i44, hn43, s45, s46, s47, s48, s49, s50, K42, B51, B52⟩
 refine wq_seq ?_
 refine wq_region ?_
 refine wl_v (.bool (decide ((((k : Nat) : Int)) < (4)))) rfl rfl (y_lss rfl s50 rfl rfl ⟨rfl, rfl⟩) ?_
 refine wl_nil fun F53 hF54 => ?_
 have s55 := (hF54 0).trans s45
 have s56 := (hF54 1).trans s46
 have s57 := (hF54 4).trans s47
 have s58 := (hF54 5).trans s48
 have s59 := (hF54 21).trans s49
 have s60 := (hF54 7).trans s50
 have s61 : F53 8 = .bool (decide ((((k : Nat) : Int)) < (4))) := (hF54 8).trans rfl
 clear hF54
 refine then_normal ?_
 refine wq_seq ?_
 refine wq_cond s61 (fun c62 => ?_) (fun c62 => ?_)
 ·replace c62 := of_decide_eq_true c62
  refine wq_skip ?_
  refine then_normal ?_
  refine wq_seq ?_
  refine wq_block ?_
  refine wq_seq ?_
  refine wq_region ?_
  refine wl_v (.int .i64 (((k : Nat) : Int))) rfl rfl (y_mov rfl s60 ⟨rfl, rfl⟩) ?_
  refine wl_v (.int .i64 (((k : Nat) : Int))) rfl rfl (y_asg rfl rfl ⟨rfl, rfl⟩) ?_
  refine wl_nil fun F63 hF64 => ?_
  have s65 := (hF64 0).trans s55
  have s66 := (hF64 1).trans s56
  have s67 := (hF64 4).trans s57
  have s68 := (hF64 5).trans s58
  have s69 := (hF64 21).trans s59
  have s70 := (hF64 7).trans s60
  have s71 : F63 6 = .int .i64 (((k : Nat) : Int)) := (hF64 6).trans rfl
  clear hF64
  refine then_normal ?_
  refine wq_seq ?_
  refine wq_region ?_
  refine wl_v (.int .i64 (((k : Nat) : Int))) rfl rfl (y_mov rfl s71 ⟨rfl, rfl⟩) ?_
  refine wl_v (.pointer (some ⟨p15, k, none⟩)) rfl rfl (y_atR (k) (s := 1) rfl s68 rfl (by omega) Tryz.underlying89 (by omega) (by kernel_rfl) (by omega) ⟨rfl, rfl⟩) ?_
  refine wl_set_arr rfl rfl rfl rfl rfl B52 (by omega) (by kernel_rfl) fun w72 B73 k74 => ?_
  have B75 := B51.all k74 (fun x => (((ap22).symm) p1 rfl x))
  have K76 := K42.trans k74 (Grew.ok (S := fun _ => False) gr21 noB_le)
  refine wl_nil fun F77 hF78 => ?_
  have s79 := (hF78 0).trans s65
  have s80 := (hF78 1).trans s66
  have s81 := (hF78 4).trans s67
  have s82 := (hF78 5).trans s68
  have s83 := (hF78 21).trans s69
  have s84 := (hF78 7).trans s70
  have s85 := (hF78 6).trans s71
  clear hF78
  refine then_normal ?_
  refine wq_seq ?_
  refine wq_region ?_
  refine wl_v (.int .i64 (ahead)) rfl rfl (y_mov rfl s79 ⟨rfl, rfl⟩) ?_
  refine wl_v (.bool (decide ((0) < (ahead)))) rfl rfl (y_gtr rfl rfl rfl rfl ⟨rfl, rfl⟩) ?_
  refine wl_nil fun F86 hF87 => ?_
  have s88 := (hF87 0).trans s79
  have s89 := (hF87 1).trans s80
  have s90 := (hF87 4).trans s81
  have s91 := (hF87 5).trans s82
  have s92 := (hF87 21).trans s83
  have s93 := (hF87 7).trans s84
  have s94 := (hF87 6).trans s85
  have s95 : F86 13 = .bool (decide ((0) < (ahead))) := (hF87 13).trans rfl
  clear hF87
  refine then_normal ?_
  refine wq_cond s95 (fun c96 => ?_) (fun c96 => ?_)
  ·replace c96 := of_decide_eq_true c96
   refine wq_region ?_
   refine wl_v (.int .i64 (((k : Nat) : Int))) rfl rfl (y_mov rfl s94 ⟨rfl, rfl⟩) ?_
   refine wl_v (fv) rfl rfl (y_mov rfl s89 ⟨rfl, rfl⟩) ?_
   refine wl_v (.int .i64 (((k : Nat) : Int))) rfl rfl (y_mov rfl s94 ⟨rfl, rfl⟩) ?_
   refine wl_call (R := fun v_ w_ => v_ = .int .i64 (g (k)) ∧ Kept (fun _ => False) w72 w_) rfl rfl (y_ask1 rfl rfl rfl rfl rfl (hg.all K76) (by omega) (fun e_ w_ h_ => ⟨_, h_.1, rfl, h_.2⟩)) ?_
   rintro _ w97 ⟨rfl, k98⟩
   have B99 := B75.all k98 id
   have B100 := B73.all k98 id
   have K101 := K76.trans k98 (fun _ _ x => x.elim)
   refine wl_v (.pointer (some ⟨p15, k, none⟩)) rfl rfl (y_atR (k) (s := 1) rfl s91 rfl (by omega) Tryz.underlying89 (by omega) (by kernel_rfl) (by omega) ⟨rfl, rfl⟩) ?_
   refine wl_set_arr rfl rfl rfl rfl rfl B100 (by omega) (by kernel_rfl) fun w102 B103 k104 => ?_
   have B105 := B99.all k104 (fun x => (((ap22).symm) p1 rfl x))
   have K106 := K101.trans k104 (Grew.ok (S := fun _ => False) gr21 noB_le)
   refine wl_nil fun F107 hF108 => ?_
   have s109 := (hF108 0).trans s88
   have s110 := (hF108 1).trans s89
   have s111 := (hF108 4).trans s90
   have s112 := (hF108 5).trans s91
   have s113 := (hF108 21).trans s92
   have s114 := (hF108 7).trans s93
   clear hF108
   refine in_normal ?_
   refine then_normal ?_
   refine wq_region ?_
   refine wl_v (.int .i64 (((k + 1 : Nat) : Int))) rfl rfl (y_add rfl s114 rfl (i64_n (by omega) (by omega)) ⟨rfl, rfl⟩) ?_
   refine wl_v (.int .i64 (((k + 1 : Nat) : Int))) rfl rfl (y_mov rfl rfl ⟨rfl, rfl⟩) ?_
   refine wl_nil fun F115 hF116 => ?_
   have s117 := (hF116 0).trans s109
   have s118 := (hF116 1).trans s110
   have s119 := (hF116 4).trans s111
   have s120 := (hF116 5).trans s112
   have s121 := (hF116 21).trans s113
   have s122 : F115 7 = .int .i64 (((k + 1 : Nat) : Int)) := (hF116 7).trans rfl
   clear hF116
   exact then_normal ⟨(4 - (k + 1)), by omega, k + 1, by omega, rfl, s117, s118, s119, s120, s121, s122, K106, B105, (by first | exact B103.next2 (edge_yes (by omega)) | exact B103.next (edge_no (by omega)))⟩
  ·replace c96 := of_decide_eq_false c96
   refine wq_skip ?_
   refine in_normal ?_
   refine then_normal ?_
   refine wq_region ?_
   refine wl_v (.int .i64 (((k + 1 : Nat) : Int))) rfl rfl (y_add rfl s93 rfl (i64_n (by omega) (by omega)) ⟨rfl, rfl⟩) ?_
   refine wl_v (.int .i64 (((k + 1 : Nat) : Int))) rfl rfl (y_mov rfl rfl ⟨rfl, rfl⟩) ?_
   refine wl_nil fun F123 hF124 => ?_
   have s125 := (hF124 0).trans s88
   have s126 := (hF124 1).trans s89
   have s127 := (hF124 4).trans s90
   have s128 := (hF124 5).trans s91
   have s129 := (hF124 21).trans s92
   have s130 : F123 7 = .int .i64 (((k + 1 : Nat) : Int)) := (hF124 7).trans rfl
   clear hF124
   exact then_normal ⟨(4 - (k + 1)), by omega, k + 1, by omega, rfl, s125, s126, s127, s128, s129, s130, K76, B75, (by first | exact B73.next2 (edge_yes (by omega)) | exact B73.next (edge_no (by omega)))⟩
 ·replace c62 := of_decide_eq_false c62
  refine wq_exit ?_
  refine then_exit ?_
  refine then_exit ?_
  have l131 : 4 = k := by omega
  subst l131
  have B132 : Arr w41 p15 89 4 (edgeOf ahead g) := (B52.last)
  refine in_here ?_
  refine then_normal ?_
  refine wq_seq ?_
  refine wq_region ?_
  refine wl_v (.agg (arrL 4 (edgeOf ahead g)).toArray) rfl rfl (y_load_arr arrT_edge rfl s58 B132 ⟨rfl, rfl⟩) ?_
  refine wl_store_arr arrT_edge rfl rfl rfl s57 rfl B51 fun w133 B134 k135 => ?_
  have K137 := K42.trans k135 (Grew.ok (S := fun _ => False) gr7 noB_le)
  refine wl_nil fun F138 hF139 => ?_
  have s140 := (hF139 4).trans s57
  have s141 := (hF139 21).trans s59
  clear hF139
  refine then_normal ?_
  refine wq_ret ?_
  exact end_arr arrT_edge s141 rfl rfl s140 B134 ⟨rfl, K137⟩

theorem above_ask {p x y : Int} {f : FD} {f0 f1 f2 : Value} {b1 b2 b3 b4 : Nat} {T0 T1 T2 : Nat → Prop} {w : World} (hx : 0 ≤ x ∧ x ≤ 64) (hy : 0 ≤ y ∧ y ≤ 64) (h0 : Byt w T0 f0 f.p0) (h1 : Byt w T1 f1 f.p1) (h2 : Byt w T2 f2 f.p2)
    (g1 : Stc w b1 25 [.int .i64 f.W, .int .i64 f.H, f0, f1, f2]) (g2 : Cel w b2 3 (.int .i64 p)) (g3 : Cel w b3 3 (.int .i64 x)) (g4 : Cel w b4 3 (.int .i64 y)) :
    Ask1 w 4 (.func (.func 85) #[] #[.pointer (some ⟨b1, 0, none⟩), .pointer (some ⟨b2, 0, none⟩), .pointer (some ⟨b3, 0, none⟩), .pointer (some ⟨b4, 0, none⟩)]) (fun k => atF f p (x + (k : Int)) (y - 1)) :=
  ⟨_, [.pointer (some ⟨b1, 0, none⟩), .pointer (some ⟨b2, 0, none⟩), .pointer (some ⟨b3, 0, none⟩), .pointer (some ⟨b4, 0, none⟩)], rfl, fun _ _ => by kernel_rfl, fun w' k i hi =>
    is_above1 p x y i f f0 f1 f2 b1 b2 b3 b4 T0 T1 T2 w' hx hy hi (h0.all k Apart.none) (h1.all k Apart.none) (h2.all k Apart.none) (g1.all k id) (g2.all k id) (g3.all k id) (g4.all k id)⟩
theorem left_ask {p x y : Int} {f : FD} {f0 f1 f2 : Value} {b1 b2 b3 b4 : Nat} {T0 T1 T2 : Nat → Prop} {w : World} (hx : 0 ≤ x ∧ x ≤ 64) (hy : 0 ≤ y ∧ y ≤ 64) (h0 : Byt w T0 f0 f.p0) (h1 : Byt w T1 f1 f.p1) (h2 : Byt w T2 f2 f.p2)
    (g1 : Stc w b1 25 [.int .i64 f.W, .int .i64 f.H, f0, f1, f2]) (g2 : Cel w b2 3 (.int .i64 p)) (g3 : Cel w b3 3 (.int .i64 x)) (g4 : Cel w b4 3 (.int .i64 y)) :
    Ask1 w 4 (.func (.func 86) #[] #[.pointer (some ⟨b1, 0, none⟩), .pointer (some ⟨b2, 0, none⟩), .pointer (some ⟨b3, 0, none⟩), .pointer (some ⟨b4, 0, none⟩)]) (fun k => atF f p (x - 1) (y + (k : Int))) :=
  ⟨_, [.pointer (some ⟨b1, 0, none⟩), .pointer (some ⟨b2, 0, none⟩), .pointer (some ⟨b3, 0, none⟩), .pointer (some ⟨b4, 0, none⟩)], rfl, fun _ _ => by kernel_rfl, fun w' k i hi =>
    is_left1 p x y i f f0 f1 f2 b1 b2 b3 b4 T0 T1 T2 w' hx hy hi (h0.all k Apart.none) (h1.all k Apart.none) (h2.all k Apart.none) (g1.all k id) (g2.all k id) (g3.all k id) (g4.all k id)⟩

theorem edge_above (f : FD) (p x y : Int) : edgeOf y (fun k => atF f p (x + (k : Int)) (y - 1)) = fun k => aboveF f p x y ((k : Nat) : Int) := by
  funext k; unfold edgeOf aboveF; by_cases h : y ≤ 0
  · rw [if_neg (by omega), if_pos h]
  · rw [if_pos (by omega), if_neg h]
theorem edge_left (f : FD) (p x y : Int) : edgeOf x (fun k => atF f p (x - 1) (y + (k : Int))) = fun k => leftF f p x y ((k : Nat) : Int) := by
  funext k; unfold edgeOf leftF; by_cases h : x ≤ 0
  · rw [if_neg (by omega), if_pos h]
  · rw [if_pos (by omega), if_neg h]
set_option maxHeartbeats 4000000 in
set_option maxRecDepth 100000 in
theorem is_above (p x y : Int) (f : FD) (f0 f1 f2 : Value) (T_f0 : Nat → Prop) (T_f1 : Nat → Prop) (T_f2 : Nat → Prop) (w0 : World) (hx : 0 ≤ x ∧ x ≤ 64) (hy : 0 ≤ y ∧ y ≤ 64) (h_f0 : Byt w0 T_f0 f0 ((f).p0)) (h_f1 : Byt w0 T_f1 f1 ((f).p1)) (h_f2 : Byt w0 T_f2 f2 ((f).p2)) :
  Calls Tryz.prog 48 #[.agg #[.int .i64 ((f).W), .int .i64 ((f).H), f0, f1, f2], .int .i64 (p), .int .i64 (x), .int .i64 (y)] w0 fun e w' => e = .returned (.agg (arrL 4 (fun k => aboveF f p x y ((k : Nat) : Int))).toArray) ∧ Kept (fun _ => False) w0 w' := by
 refine calls_wq (args := [.agg #[.int .i64 ((f).W), .int .i64 ((f).H), f0, f1, f2], .int .i64 (p), .int .i64 (x), .int .i64 (y)]) 12 Tryz.func48 rfl rfl (Nat.le_of_ble_eq_true rfl) ?_
 have K0 := Kept.refl (fun _ => False) w0
 have g_f0 := Grew.refl w0 T_f0
 have g_f1 := Grew.refl w0 T_f1
 have g_f2 := Grew.refl w0 T_f2
 refine wq_seq ?_
 refine wq_region ?_
 refine wl_box_stc (vs := [.int .i64 ((f).W), .int .i64 ((f).H), f0, f1, f2]) rfl rfl rfl rfl fun p1 w2 B4 g5 k3 => ?_
 have B10 := h_f0.all k3 Apart.none
 have B11 := h_f1.all k3 Apart.none
 have B12 := h_f2.all k3 Apart.none
 have K13 := K0.trans k3 (fun _ _ x => x.elim)
 refine wl_box_cel rfl rfl rfl rfl (by rfl) fun p14 w15 B18 g20 k16 => ?_
 have B26 := B10.all k16 Apart.none
 have B27 := B11.all k16 Apart.none
 have B28 := B12.all k16 Apart.none
 have B29 := B4.all k16 id
 have K30 := K13.trans k16 (fun _ _ x => x.elim)
 refine wl_box_cel rfl rfl rfl rfl (by rfl) fun p31 w32 B35 g37 k33 => ?_
 have B44 := B26.all k33 Apart.none
 have B45 := B27.all k33 Apart.none
 have B46 := B28.all k33 Apart.none
 have B47 := B29.all k33 id
 have B48 := B18.all k33 id
 have K49 := K30.trans k33 (fun _ _ x => x.elim)
 refine wl_box_cel rfl rfl rfl rfl (by rfl) fun p50 w51 B54 g56 k52 => ?_
 have B64 := B44.all k52 Apart.none
 have B65 := B45.all k52 Apart.none
 have B66 := B46.all k52 Apart.none
 have B67 := B47.all k52 id
 have B68 := B48.all k52 id
 have B69 := B35.all k52 id
 have K70 := K49.trans k52 (fun _ _ x => x.elim)
 refine wl_alloc_arr rfl rfl rfl arrT_edge.2.2 fun p71 w72 e75 B73 k74 => ?_
 have g76 := onB_new (Nat.le_of_eq e75.symm)
 have gr77 : Grew w0 noB (onB p71) := Grew.new K70 g76
 clear e75 g76
 have B85 := B64.all k74 Apart.none
 have B86 := B65.all k74 Apart.none
 have B87 := B66.all k74 Apart.none
 have B88 := B67.all k74 id
 have B89 := B68.all k74 id
 have B90 := B69.all k74 id
 have B91 := B54.all k74 id
 have K92 := K70.trans k74 (fun _ _ x => x.elim)
 refine wl_nil fun F93 hF94 => ?_
 have s95 : F93 12 = undef := (hF94 12).trans rfl
 have s96 : F93 4 = .pointer (some ⟨p1, 0, none⟩) := (hF94 4).trans rfl
 have s97 : F93 5 = .pointer (some ⟨p14, 0, none⟩) := (hF94 5).trans rfl
 have s98 : F93 6 = .pointer (some ⟨p31, 0, none⟩) := (hF94 6).trans rfl
 have s99 : F93 7 = .pointer (some ⟨p50, 0, none⟩) := (hF94 7).trans rfl
 have s100 : F93 8 = .pointer (some ⟨p71, 0, none⟩) := (hF94 8).trans rfl
 clear hF94
 refine then_normal ?_
 refine wq_seq ?_
 refine wq_region ?_
 refine wl_v (.int .i64 (y)) rfl rfl (y_load_cel rfl s99 Tryz.underlying3 B91 rfl ⟨rfl, rfl⟩) ?_
 refine wl_v (.func (.func 85) #[] #[.pointer (some ⟨p1, 0, none⟩), .pointer (some ⟨p14, 0, none⟩), .pointer (some ⟨p31, 0, none⟩), .pointer (some ⟨p50, 0, none⟩)]) rfl rfl (y_fnc rfl (vsC s96 (vsC s97 (vsC s98 (vsC s99 vsN)))) ⟨rfl, rfl⟩) ?_
 refine wl_call (R := fun v_ w_ => v_ = .agg (arrL 4 (fun k => aboveF f p x y ((k : Nat) : Int))).toArray ∧ Kept (fun _ => False) w72 w_) rfl rfl (y_cs rfl rfl rfl (fun _ _ => by kernel_rfl) (ev_func _) (vsC rfl (vsC rfl vsN)) (is_along (y) (.func (.func 85) #[] #[.pointer (some ⟨p1, 0, none⟩), .pointer (some ⟨p14, 0, none⟩), .pointer (some ⟨p31, 0, none⟩), .pointer (some ⟨p50, 0, none⟩)]) (fun k => atF f p (x + (k : Int)) (y - 1))  _ (above_ask hx hy B85 B86 B87 B88 B89 B90 B91)  ) (fun e_ w_ h_ => ⟨_, h_.1, congrArg (fun z => Value.agg (arrL 4 z).toArray) (edge_above f p x y), h_.2⟩)) ?_
 rintro _ w101 ⟨rfl, k102⟩
 have B110 := B73.all k102 id
 have K111 := K92.trans k102 (fun _ _ x => x.elim)
 refine wl_store_arr arrT_edge rfl rfl rfl s100 rfl B110 fun w112 B113 k114 => ?_
 have K122 := K111.trans k114 (Grew.ok (S := fun _ => False) gr77 noB_le)
 refine wl_nil fun F123 hF124 => ?_
 have s125 := (hF124 12).trans s95
 have s126 := (hF124 8).trans s100
 clear hF124
 refine then_normal ?_
 refine wq_ret ?_
 exact end_arr arrT_edge s125 rfl rfl s126 B113 ⟨rfl, K122⟩
set_option maxHeartbeats 4000000 in
set_option maxRecDepth 100000 in
theorem is_left (p x y : Int) (f : FD) (f0 f1 f2 : Value) (T_f0 : Nat → Prop) (T_f1 : Nat → Prop) (T_f2 : Nat → Prop) (w0 : World) (hx : 0 ≤ x ∧ x ≤ 64) (hy : 0 ≤ y ∧ y ≤ 64) (h_f0 : Byt w0 T_f0 f0 ((f).p0)) (h_f1 : Byt w0 T_f1 f1 ((f).p1)) (h_f2 : Byt w0 T_f2 f2 ((f).p2)) :
  Calls Tryz.prog 49 #[.agg #[.int .i64 ((f).W), .int .i64 ((f).H), f0, f1, f2], .int .i64 (p), .int .i64 (x), .int .i64 (y)] w0 fun e w' => e = .returned (.agg (arrL 4 (fun k => leftF f p x y ((k : Nat) : Int))).toArray) ∧ Kept (fun _ => False) w0 w' := by
 refine calls_wq (args := [.agg #[.int .i64 ((f).W), .int .i64 ((f).H), f0, f1, f2], .int .i64 (p), .int .i64 (x), .int .i64 (y)]) 12 Tryz.func49 rfl rfl (Nat.le_of_ble_eq_true rfl) ?_
 have K0 := Kept.refl (fun _ => False) w0
 have g_f0 := Grew.refl w0 T_f0
 have g_f1 := Grew.refl w0 T_f1
 have g_f2 := Grew.refl w0 T_f2
 refine wq_seq ?_
 refine wq_region ?_
 refine wl_box_stc (vs := [.int .i64 ((f).W), .int .i64 ((f).H), f0, f1, f2]) rfl rfl rfl rfl fun p1 w2 B4 g5 k3 => ?_
 have B10 := h_f0.all k3 Apart.none
 have B11 := h_f1.all k3 Apart.none
 have B12 := h_f2.all k3 Apart.none
 have K13 := K0.trans k3 (fun _ _ x => x.elim)
 refine wl_box_cel rfl rfl rfl rfl (by rfl) fun p14 w15 B18 g20 k16 => ?_
 have B26 := B10.all k16 Apart.none
 have B27 := B11.all k16 Apart.none
 have B28 := B12.all k16 Apart.none
 have B29 := B4.all k16 id
 have K30 := K13.trans k16 (fun _ _ x => x.elim)
 refine wl_box_cel rfl rfl rfl rfl (by rfl) fun p31 w32 B35 g37 k33 => ?_
 have B44 := B26.all k33 Apart.none
 have B45 := B27.all k33 Apart.none
 have B46 := B28.all k33 Apart.none
 have B47 := B29.all k33 id
 have B48 := B18.all k33 id
 have K49 := K30.trans k33 (fun _ _ x => x.elim)
 refine wl_box_cel rfl rfl rfl rfl (by rfl) fun p50 w51 B54 g56 k52 => ?_
 have B64 := B44.all k52 Apart.none
 have B65 := B45.all k52 Apart.none
 have B66 := B46.all k52 Apart.none
 have B67 := B47.all k52 id
 have B68 := B48.all k52 id
 have B69 := B35.all k52 id
 have K70 := K49.trans k52 (fun _ _ x => x.elim)
 refine wl_alloc_arr rfl rfl rfl arrT_edge.2.2 fun p71 w72 e75 B73 k74 => ?_
 have g76 := onB_new (Nat.le_of_eq e75.symm)
 have gr77 : Grew w0 noB (onB p71) := Grew.new K70 g76
 clear e75 g76
 have B85 := B64.all k74 Apart.none
 have B86 := B65.all k74 Apart.none
 have B87 := B66.all k74 Apart.none
 have B88 := B67.all k74 id
 have B89 := B68.all k74 id
 have B90 := B69.all k74 id
 have B91 := B54.all k74 id
 have K92 := K70.trans k74 (fun _ _ x => x.elim)
 refine wl_nil fun F93 hF94 => ?_
 have s95 : F93 12 = undef := (hF94 12).trans rfl
 have s96 : F93 4 = .pointer (some ⟨p1, 0, none⟩) := (hF94 4).trans rfl
 have s97 : F93 5 = .pointer (some ⟨p14, 0, none⟩) := (hF94 5).trans rfl
 have s98 : F93 6 = .pointer (some ⟨p31, 0, none⟩) := (hF94 6).trans rfl
 have s99 : F93 7 = .pointer (some ⟨p50, 0, none⟩) := (hF94 7).trans rfl
 have s100 : F93 8 = .pointer (some ⟨p71, 0, none⟩) := (hF94 8).trans rfl
 clear hF94
 refine then_normal ?_
 refine wq_seq ?_
 refine wq_region ?_
 refine wl_v (.int .i64 (x)) rfl rfl (y_load_cel rfl s98 Tryz.underlying3 B90 rfl ⟨rfl, rfl⟩) ?_
 refine wl_v (.func (.func 86) #[] #[.pointer (some ⟨p1, 0, none⟩), .pointer (some ⟨p14, 0, none⟩), .pointer (some ⟨p31, 0, none⟩), .pointer (some ⟨p50, 0, none⟩)]) rfl rfl (y_fnc rfl (vsC s96 (vsC s97 (vsC s98 (vsC s99 vsN)))) ⟨rfl, rfl⟩) ?_
 refine wl_call (R := fun v_ w_ => v_ = .agg (arrL 4 (fun k => leftF f p x y ((k : Nat) : Int))).toArray ∧ Kept (fun _ => False) w72 w_) rfl rfl (y_cs rfl rfl rfl (fun _ _ => by kernel_rfl) (ev_func _) (vsC rfl (vsC rfl vsN)) (is_along (x) (.func (.func 86) #[] #[.pointer (some ⟨p1, 0, none⟩), .pointer (some ⟨p14, 0, none⟩), .pointer (some ⟨p31, 0, none⟩), .pointer (some ⟨p50, 0, none⟩)]) (fun k => atF f p (x - 1) (y + (k : Int)))  _ (left_ask hx hy B85 B86 B87 B88 B89 B90 B91)  ) (fun e_ w_ h_ => ⟨_, h_.1, congrArg (fun z => Value.agg (arrL 4 z).toArray) (edge_left f p x y), h_.2⟩)) ?_
 rintro _ w101 ⟨rfl, k102⟩
 have B110 := B73.all k102 id
 have K111 := K92.trans k102 (fun _ _ x => x.elim)
 refine wl_store_arr arrT_edge rfl rfl rfl s100 rfl B110 fun w112 B113 k114 => ?_
 have K122 := K111.trans k114 (Grew.ok (S := fun _ => False) gr77 noB_le)
 refine wl_nil fun F123 hF124 => ?_
 have s125 := (hF124 12).trans s95
 have s126 := (hF124 8).trans s100
 clear hF124
 refine then_normal ?_
 refine wq_ret ?_
 exact end_arr arrT_edge s125 rfl rfl s126 B113 ⟨rfl, K122⟩

def totTo (e : Nat → Int) : Nat → Int
  | 0 => 0
  | k + 1 => totTo e k + e k
theorem totTo_le {e : Nat → Int} (h : ∀ i, 0 ≤ e i ∧ e i ≤ 255) (k : Nat) : 0 ≤ totTo e k ∧ totTo e k ≤ 255 * k := by
  induction k with
  | zero => simp [totTo]
  | succ k ih => have := h k; rw [totTo]; omega
set_option maxHeartbeats 4000000 in
set_option maxRecDepth 100000 in
theorem is_total (s : Nat → Int) (w0 : World) (he : ∀ i, 0 ≤ s i ∧ s i ≤ 255) :
  Calls Tryz.prog 79 #[.agg (arrL 4 (s)).toArray] w0 fun e w' => e = .returned (.int .i64 (totTo s 4)) ∧ Kept (fun _ => False) w0 w' := by
 refine calls_wq (args := [.agg (arrL 4 (s)).toArray]) 15 Tryz.func79 rfl rfl (Nat.le_of_ble_eq_true rfl) ?_
 have K0 := Kept.refl (fun _ => False) w0
 refine wq_seq ?_
 refine wq_region ?_
 refine wl_box_arr rfl rfl rfl rfl fun p1 w2 e5 B3 k4 => ?_
 have g6 := onB_new (Nat.le_of_eq e5.symm)
 clear e5 g6
 have K8 := K0.trans k4 (fun _ _ x => x.elim)
 refine wl_v (.int .i64 (0)) rfl rfl (y_asg rfl rfl ⟨rfl, rfl⟩) ?_
 refine wl_nil fun F9 hF10 => ?_
 have s11 : F9 15 = undef := (hF10 15).trans rfl
 have s12 : F9 1 = .pointer (some ⟨p1, 0, none⟩) := (hF10 1).trans rfl
 clear hF10
 refine then_normal ?_
 refine wq_seq ?_
 refine wq_region ?_
 refine wl_v (.int .i64 (0)) rfl rfl (y_asg rfl rfl ⟨rfl, rfl⟩) ?_
 refine wl_nil fun F13 hF14 => ?_
 have s15 := (hF14 15).trans s11
 have s16 := (hF14 1).trans s12
 have s17 : F13 3 = .int .i64 (0) := (hF14 3).trans rfl
 clear hF14
 refine then_normal ?_
 refine wq_seq ?_
 refine wq_seq ?_
 refine wq_region ?_
 refine wl_v (.agg (arrL 4 (s)).toArray) rfl rfl (y_load_arr arrT_edge rfl s16 B3 ⟨rfl, rfl⟩) ?_
 refine wl_v (.int .i64 (0)) rfl rfl (y_mov rfl rfl ⟨rfl, rfl⟩) ?_
 refine wl_nil fun F18 hF19 => ?_
 have s20 := (hF19 15).trans s15
 have s21 := (hF19 3).trans s17
 have s22 : F18 6 = .agg (arrL 4 (s)).toArray := (hF19 6).trans rfl
 have s23 : F18 7 = .int .i64 (0) := (hF19 7).trans rfl
 clear hF19
 refine then_normal ?_
 refine wq_block ?_
 refine wq_loop (fun nn FF ww => ∃ (k : Nat), (k ≤ 4) ∧ nn = 4 - k ∧ FF 6 = .agg (arrL 4 (s)).toArray ∧ FF 15 = undef ∧ FF 3 = .int .i64 (totTo s k) ∧ FF 7 = .int .i64 (((k : Nat) : Int)) ∧ Kept (fun _ => False) w0 ww ∧ Arr ww p1 89 4 (s)) (4 - (0)) ⟨0, by omega, rfl, s22, s20, s21, s23, K8, B3⟩ ?_
 rintro n27 F24 w25 ⟨k, i28, hn27, s29, s30, s31, s32, K26, B33⟩
 refine wq_seq ?_
 refine wq_region ?_
 refine wl_v (.bool (decide ((((k : Nat) : Int)) < (4)))) rfl rfl (y_lss rfl s32 rfl rfl ⟨rfl, rfl⟩) ?_
 refine wl_nil fun F34 hF35 => ?_
 have s36 := (hF35 6).trans s29
 have s37 := (hF35 15).trans s30
 have s38 := (hF35 3).trans s31
 have s39 := (hF35 7).trans s32
 have s40 : F34 8 = .bool (decide ((((k : Nat) : Int)) < (4))) := (hF35 8).trans rfl
 clear hF35
 refine then_normal ?_
 refine wq_seq ?_
 refine wq_cond s40 (fun c41 => ?_) (fun c41 => ?_)
 ·replace c41 := of_decide_eq_true c41
  refine wq_skip ?_
  refine then_normal ?_
  refine wq_seq ?_
  refine wq_block ?_
  refine wq_seq ?_
  refine wq_region ?_
  refine wl_v (.int .i64 ((s) (k))) rfl rfl (y_lookA (k) arrT_edge rfl s36 s39 (by omega) rfl ⟨rfl, rfl⟩) ?_
  refine wl_v (.int .i64 ((s) (k))) rfl rfl (y_asg rfl rfl ⟨rfl, rfl⟩) ?_
  refine wl_nil fun F42 hF43 => ?_
  have s44 := (hF43 6).trans s36
  have s45 := (hF43 15).trans s37
  have s46 := (hF43 3).trans s38
  have s47 := (hF43 7).trans s39
  have s48 : F42 5 = .int .i64 ((s) (k)) := (hF43 5).trans rfl
  clear hF43
  refine then_normal ?_
  have ht := totTo_le he k
  have hk := he k
  refine wq_region ?_
  refine wl_v (.int .i64 (totTo s k)) rfl rfl (y_mov rfl s46 ⟨rfl, rfl⟩) ?_
  refine wl_v (.int .i64 ((s) (k))) rfl rfl (y_mov rfl s48 ⟨rfl, rfl⟩) ?_
  refine wl_v (.int .i64 ((totTo s k) + ((s) (k)))) rfl rfl (y_add rfl rfl rfl (i64_i rfl (by omega)) ⟨rfl, rfl⟩) ?_
  refine wl_v (.int .i64 ((totTo s k) + ((s) (k)))) rfl rfl (y_asg rfl rfl ⟨rfl, rfl⟩) ?_
  refine wl_nil fun F49 hF50 => ?_
  have s51 := (hF50 6).trans s44
  have s52 := (hF50 15).trans s45
  have s53 := (hF50 7).trans s47
  have s54 : F49 3 = .int .i64 ((totTo s k) + ((s) (k))) := (hF50 3).trans rfl
  clear hF50
  refine in_normal ?_
  refine then_normal ?_
  refine wq_region ?_
  refine wl_v (.int .i64 (((k + 1 : Nat) : Int))) rfl rfl (y_add rfl s53 rfl (i64_n (by omega) (by omega)) ⟨rfl, rfl⟩) ?_
  refine wl_v (.int .i64 (((k + 1 : Nat) : Int))) rfl rfl (y_mov rfl rfl ⟨rfl, rfl⟩) ?_
  refine wl_nil fun F55 hF56 => ?_
  have s57 := (hF56 6).trans s51
  have s58 := (hF56 15).trans s52
  have s59 := (hF56 3).trans s54
  have s60 : F55 7 = .int .i64 (((k + 1 : Nat) : Int)) := (hF56 7).trans rfl
  clear hF56
  exact then_normal ⟨(4 - (k + 1)), by omega, k + 1, by omega, rfl, s57, s58, s59, s60, K26, B33⟩
 ·replace c41 := of_decide_eq_false c41
  refine wq_exit ?_
  refine then_exit ?_
  refine then_exit ?_
  have l61 : 4 = k := by omega
  subst l61
  refine in_here ?_
  refine then_normal ?_
  refine wq_seq ?_
  refine wq_region ?_
  refine wl_v (.int .i64 (totTo s 4)) rfl rfl (y_mov rfl s38 ⟨rfl, rfl⟩) ?_
  refine wl_v (.int .i64 (totTo s 4)) rfl rfl (y_asg rfl rfl ⟨rfl, rfl⟩) ?_
  refine wl_nil fun F62 hF63 => ?_
  have s64 := (hF63 15).trans s37
  have s65 : F62 2 = .int .i64 (totTo s 4) := (hF63 2).trans rfl
  clear hF63
  refine then_normal ?_
  refine wq_ret ?_
  exact end_tmp (v := .int .i64 (totTo s 4)) s64 rfl rfl s65 ⟨rfl, K26⟩

/-- What the four modes tell. -/
def predG (a l : Nat → Int) (m i k : Nat) : Int :=
  if m = 0 then Int.tdiv (totTo a 4 + totTo l 4 + 4) 8 else if m = 1 then a k else if m = 2 then l i else Int.tdiv (a k + l i + 1) 2
set_option maxHeartbeats 4000000 in
set_option maxRecDepth 100000 in
theorem is_p1 (i k : Nat) (n : Int) (b1 : Nat) (w0 : World) (h_b1 : Cel w0 b1 3 (.int .i64 (n))) :
  Calls Tryz.prog 80 #[.int .i64 (((i : Nat) : Int)), .int .i64 (((k : Nat) : Int)), .pointer (some ⟨b1, 0, none⟩)] w0 fun e w' => e = .returned (.int .i64 (n)) ∧ Kept (fun _ => False) w0 w' := by
 refine calls_wq (args := [.int .i64 (((i : Nat) : Int)), .int .i64 (((k : Nat) : Int)), .pointer (some ⟨b1, 0, none⟩)]) 7 Tryz.func80 rfl rfl (Nat.le_of_ble_eq_true rfl) ?_
 have K0 := Kept.refl (fun _ => False) w0
 refine wq_seq ?_
 refine wq_region ?_
 refine wl_v (.int .i64 (0)) rfl rfl (y_asg rfl rfl ⟨rfl, rfl⟩) ?_
 refine wl_nil fun F1 hF2 => ?_
 have s3 : F1 2 = .pointer (some ⟨b1, 0, none⟩) := (hF2 2).trans rfl
 have s4 : F1 7 = undef := (hF2 7).trans rfl
 clear hF2
 refine then_normal ?_
 refine wq_seq ?_
 refine wq_region ?_
 refine wl_v (.int .i64 (n)) rfl rfl (y_load_cel rfl s3 Tryz.underlying3 h_b1 rfl ⟨rfl, rfl⟩) ?_
 refine wl_v (.int .i64 (n)) rfl rfl (y_asg rfl rfl ⟨rfl, rfl⟩) ?_
 refine wl_nil fun F5 hF6 => ?_
 have s7 := (hF6 7).trans s4
 have s8 : F5 5 = .int .i64 (n) := (hF6 5).trans rfl
 clear hF6
 refine then_normal ?_
 refine wq_ret ?_
 exact end_tmp (v := .int .i64 (n)) s7 rfl rfl s8 ⟨rfl, K0⟩
set_option maxHeartbeats 4000000 in
set_option maxRecDepth 100000 in
theorem is_p2 (i k : Nat) (a : Nat → Int) (b1 : Nat) (w0 : World) (hk : k < 4) (h_b1 : Arr w0 b1 89 4 (a)) :
  Calls Tryz.prog 81 #[.int .i64 (((i : Nat) : Int)), .int .i64 (((k : Nat) : Int)), .pointer (some ⟨b1, 0, none⟩)] w0 fun e w' => e = .returned (.int .i64 (a k)) ∧ Kept (fun _ => False) w0 w' := by
 refine calls_wq (args := [.int .i64 (((i : Nat) : Int)), .int .i64 (((k : Nat) : Int)), .pointer (some ⟨b1, 0, none⟩)]) 9 Tryz.func81 rfl rfl (Nat.le_of_ble_eq_true rfl) ?_
 have K0 := Kept.refl (fun _ => False) w0
 refine wq_seq ?_
 refine wq_region ?_
 refine wl_v (.int .i64 (0)) rfl rfl (y_asg rfl rfl ⟨rfl, rfl⟩) ?_
 refine wl_nil fun F1 hF2 => ?_
 have s3 : F1 1 = .int .i64 (((k : Nat) : Int)) := (hF2 1).trans rfl
 have s4 : F1 2 = .pointer (some ⟨b1, 0, none⟩) := (hF2 2).trans rfl
 have s5 : F1 9 = undef := (hF2 9).trans rfl
 clear hF2
 refine then_normal ?_
 refine wq_seq ?_
 refine wq_region ?_
 refine wl_v (.int .i64 (((k : Nat) : Int))) rfl rfl (y_mov rfl s3 ⟨rfl, rfl⟩) ?_
 refine wl_v (.pointer (some ⟨b1, k, none⟩)) rfl rfl (y_atR (k) (s := 1) rfl s4 rfl (by omega) Tryz.underlying89 (by omega) (by kernel_rfl) (by omega) ⟨rfl, rfl⟩) ?_
 refine wl_v (.int .i64 ((a) (k))) rfl rfl (y_ldR rfl rfl Tryz.underlying3 ((h_b1).cell (by omega)) ⟨rfl, rfl⟩) ?_
 refine wl_v (.int .i64 ((a) (k))) rfl rfl (y_asg rfl rfl ⟨rfl, rfl⟩) ?_
 refine wl_nil fun F6 hF7 => ?_
 have s8 := (hF7 9).trans s5
 have s9 : F6 5 = .int .i64 ((a) (k)) := (hF7 5).trans rfl
 clear hF7
 refine then_normal ?_
 refine wq_ret ?_
 exact end_tmp (v := .int .i64 ((a) (k))) s8 rfl rfl s9 ⟨rfl, K0⟩
set_option maxHeartbeats 4000000 in
set_option maxRecDepth 100000 in
theorem is_p3 (i k : Nat) (l : Nat → Int) (b1 : Nat) (w0 : World) (hi : i < 4) (h_b1 : Arr w0 b1 89 4 (l)) :
  Calls Tryz.prog 82 #[.int .i64 (((i : Nat) : Int)), .int .i64 (((k : Nat) : Int)), .pointer (some ⟨b1, 0, none⟩)] w0 fun e w' => e = .returned (.int .i64 (l i)) ∧ Kept (fun _ => False) w0 w' := by
 refine calls_wq (args := [.int .i64 (((i : Nat) : Int)), .int .i64 (((k : Nat) : Int)), .pointer (some ⟨b1, 0, none⟩)]) 9 Tryz.func82 rfl rfl (Nat.le_of_ble_eq_true rfl) ?_
 have K0 := Kept.refl (fun _ => False) w0
 refine wq_seq ?_
 refine wq_region ?_
 refine wl_v (.int .i64 (0)) rfl rfl (y_asg rfl rfl ⟨rfl, rfl⟩) ?_
 refine wl_nil fun F1 hF2 => ?_
 have s3 : F1 0 = .int .i64 (((i : Nat) : Int)) := (hF2 0).trans rfl
 have s4 : F1 2 = .pointer (some ⟨b1, 0, none⟩) := (hF2 2).trans rfl
 have s5 : F1 9 = undef := (hF2 9).trans rfl
 clear hF2
 refine then_normal ?_
 refine wq_seq ?_
 refine wq_region ?_
 refine wl_v (.int .i64 (((i : Nat) : Int))) rfl rfl (y_mov rfl s3 ⟨rfl, rfl⟩) ?_
 refine wl_v (.pointer (some ⟨b1, i, none⟩)) rfl rfl (y_atR (i) (s := 1) rfl s4 rfl (by omega) Tryz.underlying89 (by omega) (by kernel_rfl) (by omega) ⟨rfl, rfl⟩) ?_
 refine wl_v (.int .i64 ((l) (i))) rfl rfl (y_ldR rfl rfl Tryz.underlying3 ((h_b1).cell (by omega)) ⟨rfl, rfl⟩) ?_
 refine wl_v (.int .i64 ((l) (i))) rfl rfl (y_asg rfl rfl ⟨rfl, rfl⟩) ?_
 refine wl_nil fun F6 hF7 => ?_
 have s8 := (hF7 9).trans s5
 have s9 : F6 5 = .int .i64 ((l) (i)) := (hF7 5).trans rfl
 clear hF7
 refine then_normal ?_
 refine wq_ret ?_
 exact end_tmp (v := .int .i64 ((l) (i))) s8 rfl rfl s9 ⟨rfl, K0⟩
set_option maxHeartbeats 4000000 in
set_option maxRecDepth 100000 in
theorem is_p4 (i k : Nat) (a l : Nat → Int) (b1 : Nat) (b2 : Nat) (w0 : World) (hi : i < 4) (hk : k < 4) (ha : ∀ i, 0 ≤ a i ∧ a i ≤ 255) (hl : ∀ i, 0 ≤ l i ∧ l i ≤ 255) (h_b1 : Arr w0 b1 89 4 (a)) (h_b2 : Arr w0 b2 89 4 (l)) :
  Calls Tryz.prog 83 #[.int .i64 (((i : Nat) : Int)), .int .i64 (((k : Nat) : Int)), .pointer (some ⟨b1, 0, none⟩), .pointer (some ⟨b2, 0, none⟩)] w0 fun e w' => e = .returned (.int .i64 (Int.tdiv (a k + l i + 1) 2)) ∧ Kept (fun _ => False) w0 w' := by
 refine calls_wq (args := [.int .i64 (((i : Nat) : Int)), .int .i64 (((k : Nat) : Int)), .pointer (some ⟨b1, 0, none⟩), .pointer (some ⟨b2, 0, none⟩)]) 16 Tryz.func83 rfl rfl (Nat.le_of_ble_eq_true rfl) ?_
 have K0 := Kept.refl (fun _ => False) w0
 refine wq_seq ?_
 refine wq_region ?_
 refine wl_v (.int .i64 (0)) rfl rfl (y_asg rfl rfl ⟨rfl, rfl⟩) ?_
 refine wl_nil fun F1 hF2 => ?_
 have s3 : F1 0 = .int .i64 (((i : Nat) : Int)) := (hF2 0).trans rfl
 have s4 : F1 1 = .int .i64 (((k : Nat) : Int)) := (hF2 1).trans rfl
 have s5 : F1 2 = .pointer (some ⟨b1, 0, none⟩) := (hF2 2).trans rfl
 have s6 : F1 3 = .pointer (some ⟨b2, 0, none⟩) := (hF2 3).trans rfl
 have s7 : F1 16 = undef := (hF2 16).trans rfl
 clear hF2
 refine then_normal ?_
 refine wq_seq ?_
 have h1 := ha k
 have h2 := hl i
 refine wq_said [some 7, some 8, some 9, some 10, some 11, some 12, some 13, some 14, some 15, some 6] [Pd.eq (.int .i64 (((k : Nat) : Int))), Pd.eq (.pointer (some ⟨b1, k, none⟩)), Pd.eq (.int .i64 ((a) (k))), Pd.eq (.int .i64 (((i : Nat) : Int))), Pd.eq (.pointer (some ⟨b2, i, none⟩)), Pd.eq (.int .i64 ((l) (i))), Pd.eq (.int .i64 (((a) (k)) + ((l) (i)))), Pd.eq (.int .i64 ((((a) (k)) + ((l) (i))) + (1))), Pd.eq (.int .i64 (Int.tdiv (a k + l i + 1) 2)), Pd.eq (.int .i64 (Int.tdiv (a k + l i + 1) 2))] (by kernel_rfl) (by kernel_rfl) ?_ ?_
 ·refine stepsF_cons ?_ ?_
  ·refine StepF.one rfl fun F_ w_ hR hout hD => ?_
   exact (y_mov rfl ((hout 1 rfl (by decide)).trans s4) ⟨rfl, Kept.refl _ _⟩)
  refine stepsF_cons ?_ ?_
  ·refine StepF.one rfl fun F_ w_ hR hout hD => ?_
   have g7 : F_ 7 = .int .i64 (((k : Nat) : Int)) := (hD.get 0 rfl rfl rfl)
   exact (y_atR (k) (s := 1) rfl ((hout 2 rfl (by decide)).trans s5) g7 (by omega) Tryz.underlying89 (by omega) (by kernel_rfl) (by omega) ⟨rfl, Kept.refl _ _⟩)
  refine stepsF_cons ?_ ?_
  ·refine StepF.one rfl fun F_ w_ hR hout hD => ?_
   have g8 : F_ 8 = .pointer (some ⟨b1, k, none⟩) := (hD.get 0 rfl rfl rfl)
   exact (y_ldR rfl g8 Tryz.underlying3 (((h_b1.all hR id)).cell (by omega)) ⟨rfl, Kept.refl _ _⟩)
  refine stepsF_cons ?_ ?_
  ·refine StepF.one rfl fun F_ w_ hR hout hD => ?_
   exact (y_mov rfl ((hout 0 rfl (by decide)).trans s3) ⟨rfl, Kept.refl _ _⟩)
  refine stepsF_cons ?_ ?_
  ·refine StepF.one rfl fun F_ w_ hR hout hD => ?_
   have g10 : F_ 10 = .int .i64 (((i : Nat) : Int)) := (hD.get 0 rfl rfl rfl)
   exact (y_atR (i) (s := 1) rfl ((hout 3 rfl (by decide)).trans s6) g10 (by omega) Tryz.underlying89 (by omega) (by kernel_rfl) (by omega) ⟨rfl, Kept.refl _ _⟩)
  refine stepsF_cons ?_ ?_
  ·refine StepF.one rfl fun F_ w_ hR hout hD => ?_
   have g11 : F_ 11 = .pointer (some ⟨b2, i, none⟩) := (hD.get 0 rfl rfl rfl)
   exact (y_ldR rfl g11 Tryz.underlying3 (((h_b2.all hR id)).cell (by omega)) ⟨rfl, Kept.refl _ _⟩)
  refine stepsF_cons ?_ ?_
  ·refine StepF.one rfl fun F_ w_ hR hout hD => ?_
   have g9 : F_ 9 = .int .i64 ((a) (k)) := (hD.get 0 rfl rfl rfl)
   have g12 : F_ 12 = .int .i64 ((l) (i)) := (hD.get 1 rfl rfl rfl)
   exact (y_add rfl g9 g12 (i64_i rfl (by omega)) ⟨rfl, Kept.refl _ _⟩)
  refine stepsF_cons ?_ ?_
  ·refine StepF.one rfl fun F_ w_ hR hout hD => ?_
   have g13 : F_ 13 = .int .i64 (((a) (k)) + ((l) (i))) := (hD.get 0 rfl rfl rfl)
   exact (y_add rfl g13 rfl (i64_i rfl (by omega)) ⟨rfl, Kept.refl _ _⟩)
  refine stepsF_cons ?_ ?_
  ·refine StepF.one rfl fun F_ w_ hR hout hD => ?_
   have g14 : F_ 14 = .int .i64 ((((a) (k)) + ((l) (i))) + (1)) := (hD.get 0 rfl rfl rfl)
   exact (y_quo rfl g14 rfl (by first | decide | omega) (i64_i rfl (by rw [tdiv2 (by omega)]; omega)) ⟨rfl, Kept.refl _ _⟩)
  refine stepsF_cons ?_ ?_
  ·refine StepF.one rfl fun F_ w_ hR hout hD => ?_
   have g15 : F_ 15 = .int .i64 (Int.tdiv (a k + l i + 1) 2) := (hD.get 0 rfl rfl rfl)
   exact (y_asg rfl g15 ⟨rfl, Kept.refl _ _⟩)
  exact stepsF_nil
 intro v8 F9 w10 k11 G12 hF13
 have K17 := K0.trans k11 (fun _ _ x => x.elim)
 have s18 := (hF13 16).trans s7
 have s19 : F9 6 = .int .i64 (Int.tdiv (a k + l i + 1) 2) := (hF13 6).trans (G12 9 (by decide))
 clear G12 hF13
 refine then_normal ?_
 refine wq_ret ?_
 exact end_tmp (v := .int .i64 (Int.tdiv (a k + l i + 1) 2)) s18 rfl rfl s19 ⟨rfl, K17⟩
/-- Four functions, one a mode. -/
def Fns (w : World) (v : Value) (g : Nat → Nat → Nat → Int) : Prop := ∃ c : Nat → Value, v = .agg #[c 0, c 1, c 2, c 3] ∧ ∀ m, m < 4 → Ask2 w 4 (c m) (g m)
theorem Fns.all {w w' : World} {v : Value} {g : Nat → Nat → Nat → Int} (h : Fns w v g) (k : Kept (fun _ => False) w w') : Fns w' v g := by
  obtain ⟨c, e, h⟩ := h; exact ⟨c, e, fun m hm => (h m hm).all k⟩
def Pd.fns (g : Nat → Nat → Nat → Int) : Pd := ⟨fun v w => Fns w v g, fun _ _ _ h k => h.all k⟩
theorem y_ixF {ρ : Operand → Value} {o : Oper} {w : World} {R : Value → World → Prop} {x y : Operand} {k : IntKind} {v : Value} {g : Nat → Nat → Nat → Int} (j : Nat) {i : Int} (ho : o.op = .index 86 x y) (hx : ρ x = v) (hb : Fns w v g) (hy : ρ y = .int k i) (hi : i = (j : Int)) (hj : j < 4) (h : ∀ c, Ask2 w 4 c (g j) → R c w) : Yields Tryz.prog ρ o w R := by
  obtain ⟨c, rfl, hc⟩ := hb
  subst hi
  have hs : (Tryz.prog.info? 83).map (·.size) = some 1 := by kernel_rfl
  have hv : #[c 0, c 1, c 2, c 3][j]? = some (c j) := by
    rcases (by omega : j = 0 ∨ j = 1 ∨ j = 2 ∨ j = 3) with rfl | rfl | rfl | rfl <;> rfl
  cases hq : Tryz.prog.info? 83 with
  | none => simp [hq] at hs
  | some i =>
    have hs' : i.size = 1 := by simpa [hq] using hs
    have hp : (part 83 #[c 0, c 1, c 2, c 3] j).run Tryz.prog w = .ok (c j) w := by simp [part, isAgg, run_underlying Tryz.underlying83, hv]
    have h1 : (0 : Int) ≤ (j : Int) := by omega
    exact y_of (v := c j) (w' := w) (by simp [execOp, ho, hx, hy, Instr.index, run_underlying Tryz.underlying86, asIntOf, sizeOf, typeInfo, hq, hs', hp, h1, hj]) (h _ (hc j hj))
theorem fns_mk {w : World} {a l : Nat → Int} {b2 b3 b5 : Nat} (ha : ∀ i, 0 ≤ a i ∧ a i ≤ 255) (hl : ∀ i, 0 ≤ l i ∧ l i ≤ 255) (h2 : Arr w b2 89 4 a) (h3 : Arr w b3 89 4 l) (h5 : Cel w b5 3 (.int .i64 (Int.tdiv (totTo a 4 + totTo l 4 + 4) 8))) :
    Fns w (.agg [.func (.func 80) #[] #[.pointer (some ⟨b5, 0, none⟩)], .func (.func 81) #[] #[.pointer (some ⟨b2, 0, none⟩)], .func (.func 82) #[] #[.pointer (some ⟨b3, 0, none⟩)], .func (.func 83) #[] #[.pointer (some ⟨b2, 0, none⟩), .pointer (some ⟨b3, 0, none⟩)]].toArray) (predG a l) := by
  refine ⟨fun m => match m with
    | 0 => .func (.func 80) #[] #[.pointer (some ⟨b5, 0, none⟩)]
    | 1 => .func (.func 81) #[] #[.pointer (some ⟨b2, 0, none⟩)]
    | 2 => .func (.func 82) #[] #[.pointer (some ⟨b3, 0, none⟩)]
    | _ => .func (.func 83) #[] #[.pointer (some ⟨b2, 0, none⟩), .pointer (some ⟨b3, 0, none⟩)], rfl, fun m hm => ?_⟩
  rcases (by omega : m = 0 ∨ m = 1 ∨ m = 2 ∨ m = 3) with rfl | rfl | rfl | rfl
  · exact ⟨_, [_], rfl, fun _ _ => by kernel_rfl, fun w' k i j hi hj => is_p1 i j _ b5 w' (h5.all k id)⟩
  · exact ⟨_, [_], rfl, fun _ _ => by kernel_rfl, fun w' k i j hi hj => is_p2 i j a b2 w' hj (h2.all k id)⟩
  · exact ⟨_, [_], rfl, fun _ _ => by kernel_rfl, fun w' k i j hi hj => is_p3 i j l b3 w' hi (h3.all k id)⟩
  · exact ⟨_, [_, _], rfl, fun _ _ => by kernel_rfl, fun w' k i j hi hj => is_p4 i j a l b2 b3 w' hi hj ha hl (h2.all k id) (h3.all k id)⟩
set_option maxHeartbeats 4000000 in
set_option maxRecDepth 100000 in
theorem is_predictions (a l : Nat → Int) (w0 : World) (ha : ∀ i, 0 ≤ a i ∧ a i ≤ 255) (hl : ∀ i, 0 ≤ l i ∧ l i ≤ 255) :
  Calls Tryz.prog 47 #[.agg (arrL 4 (a)).toArray, .agg (arrL 4 (l)).toArray] w0 fun e w' => ∃ (v1 : Value), e = .returned v1 ∧ Kept (fun _ => False) w0 w' ∧ (Pd.fns (predG a l)).says v1 w' := by
 refine calls_wq (args := [.agg (arrL 4 (a)).toArray, .agg (arrL 4 (l)).toArray]) 18 Tryz.func47 rfl rfl (Nat.le_of_ble_eq_true rfl) ?_
 have K0 := Kept.refl (fun _ => False) w0
 refine wq_seq ?_
 refine wq_region ?_
 refine wl_box_arr rfl rfl rfl rfl fun p1 w2 e5 B3 k4 => ?_
 have g6 := onB_new (Nat.le_of_eq e5.symm)
 clear e5 g6
 have K8 := K0.trans k4 (fun _ _ x => x.elim)
 refine wl_box_arr rfl rfl rfl rfl fun p9 w10 e13 B11 k12 => ?_
 have g14 := onB_new (Nat.le_of_eq e13.symm)
 clear e13 g14
 have B17 := B3.all k12 id
 have K18 := K8.trans k12 (fun _ _ x => x.elim)
 refine wl_alloc_stc (n := 4) (vs := [Value.nilFunc, Value.nilFunc, Value.nilFunc, Value.nilFunc]) rfl rfl rfl (by kernel_rfl) fun p19 w20 B22 g23 k21 => ?_
 have gr24 : Grew w0 noB (onB p19) := Grew.new K18 g23
 have ap25 : Apart (onB p19) (onB p1) := Apart.new g23 (onB_live (B17).lt)
 have ap26 : Apart (onB p19) (onB p9) := Apart.new g23 (onB_live (B11).lt)
 have B27 := B17.all k21 id
 have B28 := B11.all k21 id
 have K29 := K18.trans k21 (fun _ _ x => x.elim)
 refine wl_nil fun F30 hF31 => ?_
 have s32 : F30 18 = undef := (hF31 18).trans rfl
 have s33 : F30 2 = .pointer (some ⟨p1, 0, none⟩) := (hF31 2).trans rfl
 have s34 : F30 3 = .pointer (some ⟨p9, 0, none⟩) := (hF31 3).trans rfl
 have s35 : F30 4 = .pointer (some ⟨p19, 0, none⟩) := (hF31 4).trans rfl
 clear hF31
 refine then_normal ?_
 refine wq_seq ?_
 have h1 := totTo_le ha 4
 have h2 := totTo_le hl 4
 refine wq_tail 8 [some 6, some 7, some 8, some 9, some 10, some 11, some 12, some 5] [Pd.eq (.agg (arrL 4 (a)).toArray), Pd.eq (.int .i64 (totTo (a) 4)), Pd.eq (.agg (arrL 4 (l)).toArray), Pd.eq (.int .i64 (totTo (l) 4)), Pd.eq (.int .i64 ((totTo (a) 4) + (totTo (l) 4))), Pd.eq (.int .i64 (((totTo (a) 4) + (totTo (l) 4)) + (4))), Pd.eq (.int .i64 (Int.tdiv (totTo a 4 + totTo l 4 + 4) 8)), Pd.cel w20.heap.size 3 (.int .i64 (0))] (by kernel_rfl) (by kernel_rfl) (by kernel_rfl) ?_ ?_
 ·refine stepsF_cons ?_ ?_
  ·refine StepF.one rfl fun F_ w_ hR hout hD => ?_
   exact (y_load_arr arrT_edge rfl ((hout 2 rfl (by decide)).trans s33) (B27.all hR id) ⟨rfl, Kept.refl _ _⟩)
  refine stepsF_cons ?_ ?_
  ·refine StepF.one rfl fun F_ w_ hR hout hD => ?_
   have g6 : F_ 6 = .agg (arrL 4 (a)).toArray := (hD.get 0 rfl rfl rfl)
   exact (y_cs rfl rfl rfl (fun _ _ => by kernel_rfl) (ev_func _) (vsC g6 vsN) (is_total (a)  _ ha  ) (fun e_ w_ h_ => ⟨_, h_.1, rfl, h_.2⟩))
  refine stepsF_cons ?_ ?_
  ·refine StepF.one rfl fun F_ w_ hR hout hD => ?_
   exact (y_load_arr arrT_edge rfl ((hout 3 rfl (by decide)).trans s34) (B28.all hR id) ⟨rfl, Kept.refl _ _⟩)
  refine stepsF_cons ?_ ?_
  ·refine StepF.one rfl fun F_ w_ hR hout hD => ?_
   have g8 : F_ 8 = .agg (arrL 4 (l)).toArray := (hD.get 0 rfl rfl rfl)
   exact (y_cs rfl rfl rfl (fun _ _ => by kernel_rfl) (ev_func _) (vsC g8 vsN) (is_total (l)  _ hl  ) (fun e_ w_ h_ => ⟨_, h_.1, rfl, h_.2⟩))
  refine stepsF_cons ?_ ?_
  ·refine StepF.one rfl fun F_ w_ hR hout hD => ?_
   have g7 : F_ 7 = .int .i64 (totTo (a) 4) := (hD.get 0 rfl rfl rfl)
   have g9 : F_ 9 = .int .i64 (totTo (l) 4) := (hD.get 1 rfl rfl rfl)
   exact (y_add rfl g7 g9 (i64_i rfl (by omega)) ⟨rfl, Kept.refl _ _⟩)
  refine stepsF_cons ?_ ?_
  ·refine StepF.one rfl fun F_ w_ hR hout hD => ?_
   have g10 : F_ 10 = .int .i64 ((totTo (a) 4) + (totTo (l) 4)) := (hD.get 0 rfl rfl rfl)
   exact (y_add rfl g10 rfl (i64_i rfl (by omega)) ⟨rfl, Kept.refl _ _⟩)
  refine stepsF_cons ?_ ?_
  ·refine StepF.one rfl fun F_ w_ hR hout hD => ?_
   have g11 : F_ 11 = .int .i64 (((totTo (a) 4) + (totTo (l) 4)) + (4)) := (hD.get 0 rfl rfl rfl)
   exact (y_quo rfl g11 rfl (by first | decide | omega) (i64_i rfl (by rw [tdiv8 (by omega)]; omega)) ⟨rfl, Kept.refl _ _⟩)
  refine stepsF_cons ?_ ?_
  ·refine StepF.one rfl fun F_ w_ hR hout hD => ?_
   exact y_alloc_cel (v := .int .i64 (0)) rfl (by kernel_rfl) rfl ⟨⟨_, rfl, hR.size, heap_alloc_new _ _⟩, (Kept.refl _ _).alloc _⟩
  exact stepsF_nil
 intro v36 F37 w38 k39 G40 hF41
 have B43 := B27.all k39 id
 have B44 := B28.all k39 id
 have B45 := B22.all k39 id
 have K46 := K29.trans k39 (fun _ _ x => x.elim)
 have s47 := (hF41 18).trans s32
 have s48 := (hF41 2).trans s33
 have s49 := (hF41 3).trans s34
 have s50 := (hF41 4).trans s35
 obtain ⟨p53, e52, e54, B55⟩ := G40 7 (by decide)
 replace B55 : Cel w38 p53 3 (.int .i64 (0)) := B55
 have gr56 : Grew w0 noB (onB p53) := Grew.new K29 (onB_new e54)
 have ap57 : Apart (onB p53) (onB p1) := Apart.new (onB_new e54) (onB_live (B27).lt)
 have ap58 : Apart (onB p53) (onB p9) := Apart.new (onB_new e54) (onB_live (B28).lt)
 have ap59 : Apart (onB p53) (onB p19) := Apart.new (onB_new e54) (onB_live (B22).lt)
 have s51 : F37 5 = .pointer (some ⟨p53, 0, none⟩) := (hF41 5).trans e52
 have s60 : F37 12 = .int .i64 (Int.tdiv (totTo a 4 + totTo l 4 + 4) 8) := (hF41 12).trans (G40 6 (by decide))
 clear G40 hF41
 refine wl_store_cel rfl rfl rfl s51 s60 B55 (by rfl) (by kernel_rfl) fun w61 B62 k63 => ?_
 have B64 := B43.all k63 (fun x => (((ap57).symm) p1 rfl x))
 have B65 := B44.all k63 (fun x => (((ap58).symm) p9 rfl x))
 have B66 := B45.all k63 (fun x => (((ap59).symm) p19 rfl x))
 have K67 := K46.trans k63 (Grew.ok (S := fun _ => False) gr56 noB_le)
 refine wl_nil fun F68 hF69 => ?_
 have s70 := (hF69 18).trans s47
 have s71 := (hF69 2).trans s48
 have s72 := (hF69 3).trans s49
 have s73 := (hF69 4).trans s50
 have s74 := (hF69 5).trans s51
 clear hF69
 refine then_normal ?_
 refine wq_seq ?_
 refine wq_region ?_
 refine wl_v (.func (.func 80) #[] #[.pointer (some ⟨p53, 0, none⟩)]) rfl rfl (y_fnc rfl (vsC s74 vsN) ⟨rfl, rfl⟩) ?_
 refine wl_v (.func (.func 81) #[] #[.pointer (some ⟨p1, 0, none⟩)]) rfl rfl (y_fnc rfl (vsC s71 vsN) ⟨rfl, rfl⟩) ?_
 refine wl_v (.func (.func 82) #[] #[.pointer (some ⟨p9, 0, none⟩)]) rfl rfl (y_fnc rfl (vsC s72 vsN) ⟨rfl, rfl⟩) ?_
 refine wl_v (.func (.func 83) #[] #[.pointer (some ⟨p1, 0, none⟩), .pointer (some ⟨p9, 0, none⟩)]) rfl rfl (y_fnc rfl (vsC s71 (vsC s72 vsN)) ⟨rfl, rfl⟩) ?_
 refine wl_v (.agg #[.func (.func 80) #[] #[.pointer (some ⟨p53, 0, none⟩)], .func (.func 81) #[] #[.pointer (some ⟨p1, 0, none⟩)], .func (.func 82) #[] #[.pointer (some ⟨p9, 0, none⟩)], .func (.func 83) #[] #[.pointer (some ⟨p1, 0, none⟩), .pointer (some ⟨p9, 0, none⟩)]]) rfl rfl (y_buildL (l' := [(0, .func (.func 80) #[] #[.pointer (some ⟨p53, 0, none⟩)]), (1, .func (.func 81) #[] #[.pointer (some ⟨p1, 0, none⟩)]), (2, .func (.func 82) #[] #[.pointer (some ⟨p9, 0, none⟩)]), (3, .func (.func 83) #[] #[.pointer (some ⟨p1, 0, none⟩), .pointer (some ⟨p9, 0, none⟩)])]) (cells := #[.func (.func 80) #[] #[.pointer (some ⟨p53, 0, none⟩)], .func (.func 81) #[] #[.pointer (some ⟨p1, 0, none⟩)], .func (.func 82) #[] #[.pointer (some ⟨p9, 0, none⟩)], .func (.func 83) #[] #[.pointer (some ⟨p1, 0, none⟩), .pointer (some ⟨p9, 0, none⟩)]]) rfl (bpC rfl (bpC rfl (bpC rfl (bpC rfl bpN)))) (by kernel_rfl) rfl ⟨rfl, rfl⟩) ?_
 refine wl_store_stc (us := [.func (.func 80) #[] #[.pointer (some ⟨p53, 0, none⟩)], .func (.func 81) #[] #[.pointer (some ⟨p1, 0, none⟩)], .func (.func 82) #[] #[.pointer (some ⟨p9, 0, none⟩)], .func (.func 83) #[] #[.pointer (some ⟨p1, 0, none⟩), .pointer (some ⟨p9, 0, none⟩)]]) stcT_fn4 rfl rfl rfl s73 rfl B66 rfl (oneI rfl (oneI rfl (oneI rfl (oneI rfl oneN)))) fun w75 B76 k77 => ?_
 have B78 := B64.all k77 (fun x => (((ap25).symm) p1 rfl x))
 have B79 := B65.all k77 (fun x => (((ap26).symm) p9 rfl x))
 have B80 := B62.all k77 (fun x => ((ap59) p53 rfl x))
 have K81 := K67.trans k77 (Grew.ok (S := fun _ => False) gr24 noB_le)
 refine wl_nil fun F82 hF83 => ?_
 have s84 := (hF83 18).trans s70
 have s85 := (hF83 4).trans s73
 clear hF83
 refine then_normal ?_
 refine wq_ret ?_
 exact end_stc (vs := [.func (.func 80) #[] #[.pointer (some ⟨p53, 0, none⟩)], .func (.func 81) #[] #[.pointer (some ⟨p1, 0, none⟩)], .func (.func 82) #[] #[.pointer (some ⟨p9, 0, none⟩)], .func (.func 83) #[] #[.pointer (some ⟨p1, 0, none⟩), .pointer (some ⟨p9, 0, none⟩)]]) stcT_fn4 s84 rfl rfl s85 B76 ⟨_, rfl, K81, fns_mk ha hl B78 B79 B80⟩

set_option maxHeartbeats 4000000 in
set_option maxRecDepth 100000 in
theorem is_filled (fv : Value) (g : Nat → Nat → Int) (w0 : World) (hg : Ask2 w0 4 fv g) :
  Calls Tryz.prog 46 #[fv] w0 fun e w' => e = .returned (blkV (fun n => g (n / 4) (n % 4))) ∧ Kept (fun _ => False) w0 w' := by
 refine calls_wq (args := [fv]) 18 Tryz.func46 rfl rfl (Nat.le_of_ble_eq_true rfl) ?_
 have K0 := Kept.refl (fun _ => False) w0
 refine wq_seq ?_
 refine wq_region ?_
 refine wl_alloc_blk rfl rfl rfl blkT_block.2.2 fun p1 w2 e5 B3 k4 => ?_
 have g6 := onB_new (Nat.le_of_eq e5.symm)
 have gr7 : Grew w0 noB (onB p1) := Grew.new K0 g6
 clear e5 g6
 have K8 := K0.trans k4 (fun _ _ x => x.elim)
 refine wl_nil fun F9 hF10 => ?_
 have s11 : F9 0 = fv := (hF10 0).trans rfl
 have s12 : F9 18 = undef := (hF10 18).trans rfl
 have s13 : F9 2 = .pointer (some ⟨p1, 0, none⟩) := (hF10 2).trans rfl
 clear hF10
 refine then_normal ?_
 refine wq_seq ?_
 refine wq_region ?_
 refine wl_alloc_blk rfl rfl rfl blkT_block.2.2 fun p14 w15 e18 B16 k17 => ?_
 have g19 := onB_new (Nat.le_of_eq e18.symm)
 have gr20 : Grew w0 noB (onB p14) := Grew.new K8 g19
 have ap21 : Apart (onB p14) (onB p1) := Apart.new g19 (onB_live (B3).lt)
 clear e18 g19
 have B22 := B3.all k17 id
 have K23 := K8.trans k17 (fun _ _ x => x.elim)
 refine wl_nil fun F24 hF25 => ?_
 have s26 := (hF25 0).trans s11
 have s27 := (hF25 18).trans s12
 have s28 := (hF25 2).trans s13
 have s29 : F24 3 = .pointer (some ⟨p14, 0, none⟩) := (hF25 3).trans rfl
 clear hF25
 refine then_normal ?_
 refine wq_seq ?_
 refine wq_seq ?_
 refine wq_region ?_
 refine wl_v (.int .i64 (0)) rfl rfl (y_mov rfl rfl ⟨rfl, rfl⟩) ?_
 refine wl_nil fun F30 hF31 => ?_
 have s32 := (hF31 0).trans s26
 have s33 := (hF31 18).trans s27
 have s34 := (hF31 2).trans s28
 have s35 := (hF31 3).trans s29
 have s36 : F30 5 = .int .i64 (0) := (hF31 5).trans rfl
 clear hF31
 refine then_normal ?_
 refine wq_block ?_
 refine wq_loop (fun nn FF ww => ∃ (n : Nat), (n ≤ 16) ∧ nn = 16 - n ∧ FF 0 = fv ∧ FF 2 = .pointer (some ⟨p1, 0, none⟩) ∧ FF 3 = .pointer (some ⟨p14, 0, none⟩) ∧ FF 18 = undef ∧ FF 5 = .int .i64 (((n : Nat) : Int)) ∧ Kept (fun _ => False) w0 ww ∧ Blk ww p1 29 (fun _ => 0) ∧ Blk ww p14 29 (upto n (fun _ => 0) (fun n => g (n / 4) (n % 4)))) (16 - (0)) ⟨0, by omega, rfl, s32, s34, s35, s33, s36, K23, B22, B16.first⟩ ?_
 rintro n40 F37 w38 ⟨n, i41, hn40, s42, s43, s44, s45, s46, K39, B47, B48⟩
 refine wq_seq ?_
 refine wq_region ?_
 refine wl_v (.bool (decide ((((n : Nat) : Int)) < (16)))) rfl rfl (y_lss rfl s46 rfl rfl ⟨rfl, rfl⟩) ?_
 refine wl_nil fun F49 hF50 => ?_
 have s51 := (hF50 0).trans s42
 have s52 := (hF50 2).trans s43
 have s53 := (hF50 3).trans s44
 have s54 := (hF50 18).trans s45
 have s55 := (hF50 5).trans s46
 have s56 : F49 6 = .bool (decide ((((n : Nat) : Int)) < (16))) := (hF50 6).trans rfl
 clear hF50
 refine then_normal ?_
 refine wq_seq ?_
 refine wq_cond s56 (fun c57 => ?_) (fun c57 => ?_)
 ·replace c57 := of_decide_eq_true c57
  refine wq_skip ?_
  refine then_normal ?_
  refine wq_seq ?_
  refine wq_block ?_
  refine wq_seq ?_
  refine wq_region ?_
  refine wl_v (.int .i64 (((n : Nat) : Int))) rfl rfl (y_mov rfl s55 ⟨rfl, rfl⟩) ?_
  refine wl_v (.int .i64 (((n : Nat) : Int))) rfl rfl (y_asg rfl rfl ⟨rfl, rfl⟩) ?_
  refine wl_nil fun F58 hF59 => ?_
  have s60 := (hF59 0).trans s51
  have s61 := (hF59 2).trans s52
  have s62 := (hF59 3).trans s53
  have s63 := (hF59 18).trans s54
  have s64 := (hF59 5).trans s55
  have s65 : F58 4 = .int .i64 (((n : Nat) : Int)) := (hF59 4).trans rfl
  clear hF59
  refine then_normal ?_
  refine wq_region ?_
  refine wl_v (.int .i64 (((n : Nat) : Int))) rfl rfl (y_mov rfl s65 ⟨rfl, rfl⟩) ?_
  refine wl_v (fv) rfl rfl (y_mov rfl s60 ⟨rfl, rfl⟩) ?_
  refine wl_v (.int .i64 (((n : Nat) : Int))) rfl rfl (y_mov rfl s65 ⟨rfl, rfl⟩) ?_
  refine wl_v (.int .i64 ((((n / 4) : Nat) : Int))) rfl rfl (y_quo rfl rfl rfl (by first | decide | omega) (i64_n (quo_nat n 4) (by omega)) ⟨rfl, rfl⟩) ?_
  refine wl_v (.int .i64 (((n : Nat) : Int))) rfl rfl (y_mov rfl s65 ⟨rfl, rfl⟩) ?_
  refine wl_v (.int .i64 ((((n % 4) : Nat) : Int))) rfl rfl (y_rem rfl rfl rfl (by first | decide | omega) (rem_nat n 4) ⟨rfl, rfl⟩) ?_
  refine wl_call (R := fun v_ w_ => v_ = .int .i64 (g ((n / 4)) ((n % 4))) ∧ Kept (fun _ => False) w38 w_) rfl rfl (y_ask2 rfl rfl rfl rfl rfl rfl (hg.all K39) (by omega) (by omega) (fun e_ w_ h_ => ⟨_, h_.1, rfl, h_.2⟩)) ?_
  rintro _ w66 ⟨rfl, k67⟩
  have B68 := B47.all k67 id
  have B69 := B48.all k67 id
  have K70 := K39.trans k67 (fun _ _ x => x.elim)
  refine wl_v (.pointer (some ⟨p14, n, none⟩)) rfl rfl (y_atR (n) (s := 1) rfl s62 rfl (by omega) Tryz.underlying29 (by omega) (by kernel_rfl) (by omega) ⟨rfl, rfl⟩) ?_
  refine wl_set_blk rfl rfl rfl rfl rfl B69 (by omega) (by kernel_rfl) fun w71 B72 k73 => ?_
  have B74 := B68.all k73 (fun x => (((ap21).symm) p1 rfl x))
  have K75 := K70.trans k73 (Grew.ok (S := fun _ => False) gr20 noB_le)
  refine wl_nil fun F76 hF77 => ?_
  have s78 := (hF77 0).trans s60
  have s79 := (hF77 2).trans s61
  have s80 := (hF77 3).trans s62
  have s81 := (hF77 18).trans s63
  have s82 := (hF77 5).trans s64
  clear hF77
  refine in_normal ?_
  refine then_normal ?_
  refine wq_region ?_
  refine wl_v (.int .i64 (((n + 1 : Nat) : Int))) rfl rfl (y_add rfl s82 rfl (i64_n (by omega) (by omega)) ⟨rfl, rfl⟩) ?_
  refine wl_v (.int .i64 (((n + 1 : Nat) : Int))) rfl rfl (y_mov rfl rfl ⟨rfl, rfl⟩) ?_
  refine wl_nil fun F83 hF84 => ?_
  have s85 := (hF84 0).trans s78
  have s86 := (hF84 2).trans s79
  have s87 := (hF84 3).trans s80
  have s88 := (hF84 18).trans s81
  have s89 : F83 5 = .int .i64 (((n + 1 : Nat) : Int)) := (hF84 5).trans rfl
  clear hF84
  exact then_normal ⟨(16 - (n + 1)), by omega, n + 1, by omega, rfl, s85, s86, s87, s88, s89, K75, B74, (B72.next rfl)⟩
 ·replace c57 := of_decide_eq_false c57
  refine wq_exit ?_
  refine then_exit ?_
  refine then_exit ?_
  have l90 : 16 = n := by omega
  subst l90
  have B91 : Blk w38 p14 29 (fun n => g (n / 4) (n % 4)) := (B48.last)
  refine in_here ?_
  refine then_normal ?_
  refine wq_seq ?_
  refine wq_region ?_
  refine wl_v (blkV (fun n => g (n / 4) (n % 4))) rfl rfl (y_load_blk blkT_block rfl s53 B91 ⟨rfl, rfl⟩) ?_
  refine wl_store_blk blkT_block rfl rfl rfl s52 rfl B47 fun w92 B93 k94 => ?_
  have K96 := K39.trans k94 (Grew.ok (S := fun _ => False) gr7 noB_le)
  refine wl_nil fun F97 hF98 => ?_
  have s99 := (hF98 2).trans s52
  have s100 := (hF98 18).trans s54
  clear hF98
  refine then_normal ?_
  refine wq_ret ?_
  exact end_blk blkT_block s100 rfl rfl s99 B93 ⟨rfl, K96⟩

theorem predG_is {f : FD} {p x y mode : Int} (hm : 0 ≤ mode ∧ mode ≤ 3) : (fun n => predG (fun k => aboveF f p x y ((k : Nat) : Int)) (fun k => leftF f p x y ((k : Nat) : Int)) mode.toNat (n / 4) (n % 4)) = predN f p x y mode := by
  funext n
  rcases (by omega : mode = 0 ∨ mode = 1 ∨ mode = 2 ∨ mode = 3) with rfl | rfl | rfl | rfl
  · show Int.tdiv _ 8 = Int.tdiv _ 8
    congr 1
    simp only [totTo, sumTo]; omega
  · rfl
  · rfl
  · rfl
set_option maxHeartbeats 4000000 in
set_option maxRecDepth 100000 in
theorem il_predict (p x y mode : Int) (f : FD) (f0 f1 f2 : Value) (T_f0 : Nat → Prop) (T_f1 : Nat → Prop) (T_f2 : Nat → Prop) (w0 : World) (h_f0 : Byt w0 T_f0 f0 ((f).p0)) (h_f1 : Byt w0 T_f1 f1 ((f).p1)) (h_f2 : Byt w0 T_f2 f2 ((f).p2)) :
  Calls Tryz.prog 19 #[.agg #[.int .i64 ((f).W), .int .i64 ((f).H), f0, f1, f2], .int .i64 (p), .int .i64 (x), .int .i64 (y), .int .i64 (mode)] w0 fun e w' => e = .returned (.tuple #[blkV (predB f p x y mode), .int .i64 (predE f p x y mode)]) ∧ Kept (fun _ => False) w0 w' := by
 refine calls_wq (args := [.agg #[.int .i64 ((f).W), .int .i64 ((f).H), f0, f1, f2], .int .i64 (p), .int .i64 (x), .int .i64 (y), .int .i64 (mode)]) 55 Tryz.func19 rfl rfl (Nat.le_of_ble_eq_true rfl) ?_
 have K0 := Kept.refl (fun _ => False) w0
 have hb : Bytes3 f := ⟨h_f0.lt256, h_f1.lt256, h_f2.lt256⟩
 have g_f0 := Grew.refl w0 T_f0
 have g_f1 := Grew.refl w0 T_f1
 have g_f2 := Grew.refl w0 T_f2
 refine wq_seq ?_
 refine wq_region ?_
 refine wl_box_stc (vs := [.int .i64 ((f).W), .int .i64 ((f).H), f0, f1, f2]) rfl rfl rfl rfl fun p1 w2 B4 g5 k3 => ?_
 have B10 := h_f0.all k3 Apart.none
 have B11 := h_f1.all k3 Apart.none
 have B12 := h_f2.all k3 Apart.none
 have K13 := K0.trans k3 (fun _ _ x => x.elim)
 refine wl_alloc_blk rfl rfl rfl blkT_block.2.2 fun p14 w15 e18 B16 k17 => ?_
 have g19 := onB_new (Nat.le_of_eq e18.symm)
 have gr20 : Grew w0 noB (onB p14) := Grew.new K13 g19
 clear e18 g19
 have B25 := B10.all k17 Apart.none
 have B26 := B11.all k17 Apart.none
 have B27 := B12.all k17 Apart.none
 have B28 := B4.all k17 id
 have K29 := K13.trans k17 (fun _ _ x => x.elim)
 refine wl_v (.int .i64 (0)) rfl rfl (y_asg rfl rfl ⟨rfl, rfl⟩) ?_
 refine wl_nil fun F30 hF31 => ?_
 have s32 : F30 1 = .int .i64 (p) := (hF31 1).trans rfl
 have s33 : F30 2 = .int .i64 (x) := (hF31 2).trans rfl
 have s34 : F30 3 = .int .i64 (y) := (hF31 3).trans rfl
 have s35 : F30 4 = .int .i64 (mode) := (hF31 4).trans rfl
 have s36 : F30 55 = undef := (hF31 55).trans rfl
 have s37 : F30 5 = .pointer (some ⟨p1, 0, none⟩) := (hF31 5).trans rfl
 have s38 : F30 10 = .pointer (some ⟨p14, 0, none⟩) := (hF31 10).trans rfl
 clear hF31
 refine then_normal ?_
 refine wq_seq ?_
 refine wq_seq ?_
 by_cases d39 : (checkE (f)) ≠ (0)
 ·skip
  refine wq_region ?_
  refine wl_v (.agg #[.int .i64 ((f).W), .int .i64 ((f).H), f0, f1, f2]) rfl rfl (y_load_stc stcT_frame rfl s37 B28 ⟨rfl, rfl⟩) ?_
  refine wl_call (R := fun v_ w_ => v_ = .int .i64 (checkE (f)) ∧ Kept (fun _ => False) w15 w_) rfl rfl (y_cs rfl rfl rfl (fun _ _ => by kernel_rfl) (ev_func _) (vsC rfl vsN) (pl_check (f) (f0) (f1) (f2) (T_f0) (T_f1) (T_f2) _  B25 B26 B27 ) (fun e_ w_ h_ => ⟨_, h_.1, rfl, h_.2⟩)) ?_
  rintro _ w40 ⟨rfl, k41⟩
  have B46 := B16.all k41 id
  have K47 := K29.trans k41 (fun _ _ x => x.elim)
  refine wl_v (.bool true) rfl rfl (y_neqI rfl rfl rfl (decide_eq_true d39) ⟨rfl, rfl⟩) ?_
  refine wl_v (.bool true) rfl rfl (y_mov rfl rfl ⟨rfl, rfl⟩) ?_
  refine wl_unless 3 false 15 rfl rfl rfl (Or.inl rfl) rfl ?_
  refine wl_unless 3 false 15 rfl rfl rfl (Or.inl rfl) rfl ?_
  refine wl_v (.bool true) rfl rfl (y_pickT rfl rfl rfl ⟨rfl, rfl⟩) ?_
  refine wl_v (.bool true) rfl rfl (y_mov rfl rfl ⟨rfl, rfl⟩) ?_
  refine wl_unless 7 false 19 rfl rfl rfl (Or.inl rfl) rfl ?_
  refine wl_unless 7 false 19 rfl rfl rfl (Or.inl rfl) rfl ?_
  refine wl_v (.bool true) rfl rfl (y_pickT rfl rfl rfl ⟨rfl, rfl⟩) ?_
  refine wl_v (.bool true) rfl rfl (y_mov rfl rfl ⟨rfl, rfl⟩) ?_
  refine wl_unless 11 false 23 rfl rfl rfl (Or.inl rfl) rfl ?_
  refine wl_unless 11 false 23 rfl rfl rfl (Or.inl rfl) rfl ?_
  refine wl_unless 11 false 23 rfl rfl rfl (Or.inl rfl) rfl ?_
  refine wl_v (.bool true) rfl rfl (y_pickT rfl rfl rfl ⟨rfl, rfl⟩) ?_
  refine wl_v (.bool true) rfl rfl (y_mov rfl rfl ⟨rfl, rfl⟩) ?_
  refine wl_unless 16 false 28 rfl rfl rfl (Or.inl rfl) rfl ?_
  refine wl_unless 16 false 28 rfl rfl rfl (Or.inl rfl) rfl ?_
  refine wl_unless 16 false 28 rfl rfl rfl (Or.inl rfl) rfl ?_
  refine wl_v (.bool true) rfl rfl (y_pickT rfl rfl rfl ⟨rfl, rfl⟩) ?_
  refine wl_nil fun F48 hF49 => ?_
  have s54 := (hF49 55).trans s36
  have s56 := (hF49 10).trans s38
  have s57 : F48 32 = .bool true := (hF49 32).trans rfl
  clear hF49
  refine then_normal ?_
  refine wq_cond (t := true) s57 (fun _ => ?_) (fun e => by cases e)
  refine wq_seq ?_
  have hno : ¬ placeF f p x y := by rintro ⟨h1, h2, h3, h4, h5, h6, h7⟩; first | exact absurd ((checkE_iff f).2 h1) (by assumption) | omega
  refine wq_region ?_
  refine wl_v (blkV (fun _ => 0)) rfl rfl (y_buildR (cells := (arrL 16 (fun _ => 0)).toArray) rfl (by kernel_rfl) rfl ⟨rfl, rfl⟩) ?_
  refine wl_store_blk blkT_block rfl rfl rfl s56 rfl B46 fun w58 B59 k60 => ?_
  have K65 := K47.trans k60 (Grew.ok (S := fun _ => False) gr20 noB_le)
  refine wl_v (.int .i64 (70)) rfl rfl (y_asg rfl rfl ⟨rfl, rfl⟩) ?_
  refine wl_nil fun F66 hF67 => ?_
  have s68 := (hF67 55).trans s54
  have s69 := (hF67 10).trans s56
  have s70 : F66 11 = .int .i64 (70) := (hF67 11).trans rfl
  clear hF67
  refine then_normal ?_
  refine wq_ret ?_
  refine then_ret ?_
  exact end_2 s68 rfl (res_blk blkT_block rfl s69 B59) (res_tmp (v := .int .i64 (70)) rfl s70) ⟨(by first | rw [(pred_no hno).1, (pred_no hno).2] | rw [(pred_none hpl hm).1, (pred_none hpl hm).2] | rw [(pred_yes hpl hm).1, (pred_yes hpl hm).2]), K65⟩
 ·skip
  by_cases d71 : (p) < (0)
  ·skip
   refine wq_region ?_
   refine wl_v (.agg #[.int .i64 ((f).W), .int .i64 ((f).H), f0, f1, f2]) rfl rfl (y_load_stc stcT_frame rfl s37 B28 ⟨rfl, rfl⟩) ?_
   refine wl_call (R := fun v_ w_ => v_ = .int .i64 (checkE (f)) ∧ Kept (fun _ => False) w15 w_) rfl rfl (y_cs rfl rfl rfl (fun _ _ => by kernel_rfl) (ev_func _) (vsC rfl vsN) (pl_check (f) (f0) (f1) (f2) (T_f0) (T_f1) (T_f2) _  B25 B26 B27 ) (fun e_ w_ h_ => ⟨_, h_.1, rfl, h_.2⟩)) ?_
   rintro _ w72 ⟨rfl, k73⟩
   have B78 := B16.all k73 id
   have K79 := K29.trans k73 (fun _ _ x => x.elim)
   refine wl_v (.bool false) rfl rfl (y_neqI rfl rfl rfl (decide_eq_false d39) ⟨rfl, rfl⟩) ?_
   refine wl_v (.bool false) rfl rfl (y_mov rfl rfl ⟨rfl, rfl⟩) ?_
   refine wl_vw (.int .i64 (p)) 3 false 15 rfl rfl rfl rfl rfl (y_mov rfl s32 ⟨rfl, rfl⟩) ?_
   refine wl_vw (.bool true) 3 false 15 rfl rfl rfl rfl rfl (y_lss rfl rfl rfl (decide_eq_true d71) ⟨rfl, rfl⟩) ?_
   refine wl_v (.bool true) rfl rfl (y_pickF rfl rfl rfl ⟨rfl, rfl⟩) ?_
   refine wl_v (.bool true) rfl rfl (y_mov rfl rfl ⟨rfl, rfl⟩) ?_
   refine wl_unless 7 false 19 rfl rfl rfl (Or.inl rfl) rfl ?_
   refine wl_unless 7 false 19 rfl rfl rfl (Or.inl rfl) rfl ?_
   refine wl_v (.bool true) rfl rfl (y_pickT rfl rfl rfl ⟨rfl, rfl⟩) ?_
   refine wl_v (.bool true) rfl rfl (y_mov rfl rfl ⟨rfl, rfl⟩) ?_
   refine wl_unless 11 false 23 rfl rfl rfl (Or.inl rfl) rfl ?_
   refine wl_unless 11 false 23 rfl rfl rfl (Or.inl rfl) rfl ?_
   refine wl_unless 11 false 23 rfl rfl rfl (Or.inl rfl) rfl ?_
   refine wl_v (.bool true) rfl rfl (y_pickT rfl rfl rfl ⟨rfl, rfl⟩) ?_
   refine wl_v (.bool true) rfl rfl (y_mov rfl rfl ⟨rfl, rfl⟩) ?_
   refine wl_unless 16 false 28 rfl rfl rfl (Or.inl rfl) rfl ?_
   refine wl_unless 16 false 28 rfl rfl rfl (Or.inl rfl) rfl ?_
   refine wl_unless 16 false 28 rfl rfl rfl (Or.inl rfl) rfl ?_
   refine wl_v (.bool true) rfl rfl (y_pickT rfl rfl rfl ⟨rfl, rfl⟩) ?_
   refine wl_nil fun F80 hF81 => ?_
   have s86 := (hF81 55).trans s36
   have s88 := (hF81 10).trans s38
   have s89 : F80 32 = .bool true := (hF81 32).trans rfl
   clear hF81
   refine then_normal ?_
   refine wq_cond (t := true) s89 (fun _ => ?_) (fun e => by cases e)
   refine wq_seq ?_
   have hno : ¬ placeF f p x y := by rintro ⟨h1, h2, h3, h4, h5, h6, h7⟩; first | exact absurd ((checkE_iff f).2 h1) (by assumption) | omega
   refine wq_region ?_
   refine wl_v (blkV (fun _ => 0)) rfl rfl (y_buildR (cells := (arrL 16 (fun _ => 0)).toArray) rfl (by kernel_rfl) rfl ⟨rfl, rfl⟩) ?_
   refine wl_store_blk blkT_block rfl rfl rfl s88 rfl B78 fun w90 B91 k92 => ?_
   have K97 := K79.trans k92 (Grew.ok (S := fun _ => False) gr20 noB_le)
   refine wl_v (.int .i64 (70)) rfl rfl (y_asg rfl rfl ⟨rfl, rfl⟩) ?_
   refine wl_nil fun F98 hF99 => ?_
   have s100 := (hF99 55).trans s86
   have s101 := (hF99 10).trans s88
   have s102 : F98 11 = .int .i64 (70) := (hF99 11).trans rfl
   clear hF99
   refine then_normal ?_
   refine wq_ret ?_
   refine then_ret ?_
   exact end_2 s100 rfl (res_blk blkT_block rfl s101 B91) (res_tmp (v := .int .i64 (70)) rfl s102) ⟨(by first | rw [(pred_no hno).1, (pred_no hno).2] | rw [(pred_none hpl hm).1, (pred_none hpl hm).2] | rw [(pred_yes hpl hm).1, (pred_yes hpl hm).2]), K97⟩
  ·skip
   by_cases d103 : (3) ≤ (p)
   ·skip
    refine wq_region ?_
    refine wl_v (.agg #[.int .i64 ((f).W), .int .i64 ((f).H), f0, f1, f2]) rfl rfl (y_load_stc stcT_frame rfl s37 B28 ⟨rfl, rfl⟩) ?_
    refine wl_call (R := fun v_ w_ => v_ = .int .i64 (checkE (f)) ∧ Kept (fun _ => False) w15 w_) rfl rfl (y_cs rfl rfl rfl (fun _ _ => by kernel_rfl) (ev_func _) (vsC rfl vsN) (pl_check (f) (f0) (f1) (f2) (T_f0) (T_f1) (T_f2) _  B25 B26 B27 ) (fun e_ w_ h_ => ⟨_, h_.1, rfl, h_.2⟩)) ?_
    rintro _ w104 ⟨rfl, k105⟩
    have B110 := B16.all k105 id
    have K111 := K29.trans k105 (fun _ _ x => x.elim)
    refine wl_v (.bool false) rfl rfl (y_neqI rfl rfl rfl (decide_eq_false d39) ⟨rfl, rfl⟩) ?_
    refine wl_v (.bool false) rfl rfl (y_mov rfl rfl ⟨rfl, rfl⟩) ?_
    refine wl_vw (.int .i64 (p)) 3 false 15 rfl rfl rfl rfl rfl (y_mov rfl s32 ⟨rfl, rfl⟩) ?_
    refine wl_vw (.bool false) 3 false 15 rfl rfl rfl rfl rfl (y_lss rfl rfl rfl (decide_eq_false d71) ⟨rfl, rfl⟩) ?_
    refine wl_v (.bool false) rfl rfl (y_pickF rfl rfl rfl ⟨rfl, rfl⟩) ?_
    refine wl_v (.bool false) rfl rfl (y_mov rfl rfl ⟨rfl, rfl⟩) ?_
    refine wl_vw (.int .i64 (p)) 7 false 19 rfl rfl rfl rfl rfl (y_mov rfl s32 ⟨rfl, rfl⟩) ?_
    refine wl_vw (.bool true) 7 false 19 rfl rfl rfl rfl rfl (y_geq rfl rfl rfl (decide_eq_true d103) ⟨rfl, rfl⟩) ?_
    refine wl_v (.bool true) rfl rfl (y_pickF rfl rfl rfl ⟨rfl, rfl⟩) ?_
    refine wl_v (.bool true) rfl rfl (y_mov rfl rfl ⟨rfl, rfl⟩) ?_
    refine wl_unless 11 false 23 rfl rfl rfl (Or.inl rfl) rfl ?_
    refine wl_unless 11 false 23 rfl rfl rfl (Or.inl rfl) rfl ?_
    refine wl_unless 11 false 23 rfl rfl rfl (Or.inl rfl) rfl ?_
    refine wl_v (.bool true) rfl rfl (y_pickT rfl rfl rfl ⟨rfl, rfl⟩) ?_
    refine wl_v (.bool true) rfl rfl (y_mov rfl rfl ⟨rfl, rfl⟩) ?_
    refine wl_unless 16 false 28 rfl rfl rfl (Or.inl rfl) rfl ?_
    refine wl_unless 16 false 28 rfl rfl rfl (Or.inl rfl) rfl ?_
    refine wl_unless 16 false 28 rfl rfl rfl (Or.inl rfl) rfl ?_
    refine wl_v (.bool true) rfl rfl (y_pickT rfl rfl rfl ⟨rfl, rfl⟩) ?_
    refine wl_nil fun F112 hF113 => ?_
    have s118 := (hF113 55).trans s36
    have s120 := (hF113 10).trans s38
    have s121 : F112 32 = .bool true := (hF113 32).trans rfl
    clear hF113
    refine then_normal ?_
    refine wq_cond (t := true) s121 (fun _ => ?_) (fun e => by cases e)
    refine wq_seq ?_
    have hno : ¬ placeF f p x y := by rintro ⟨h1, h2, h3, h4, h5, h6, h7⟩; first | exact absurd ((checkE_iff f).2 h1) (by assumption) | omega
    refine wq_region ?_
    refine wl_v (blkV (fun _ => 0)) rfl rfl (y_buildR (cells := (arrL 16 (fun _ => 0)).toArray) rfl (by kernel_rfl) rfl ⟨rfl, rfl⟩) ?_
    refine wl_store_blk blkT_block rfl rfl rfl s120 rfl B110 fun w122 B123 k124 => ?_
    have K129 := K111.trans k124 (Grew.ok (S := fun _ => False) gr20 noB_le)
    refine wl_v (.int .i64 (70)) rfl rfl (y_asg rfl rfl ⟨rfl, rfl⟩) ?_
    refine wl_nil fun F130 hF131 => ?_
    have s132 := (hF131 55).trans s118
    have s133 := (hF131 10).trans s120
    have s134 : F130 11 = .int .i64 (70) := (hF131 11).trans rfl
    clear hF131
    refine then_normal ?_
    refine wq_ret ?_
    refine then_ret ?_
    exact end_2 s132 rfl (res_blk blkT_block rfl s133 B123) (res_tmp (v := .int .i64 (70)) rfl s134) ⟨(by first | rw [(pred_no hno).1, (pred_no hno).2] | rw [(pred_none hpl hm).1, (pred_none hpl hm).2] | rw [(pred_yes hpl hm).1, (pred_yes hpl hm).2]), K129⟩
   ·skip
    by_cases d135 : 0 ≤ (x) ∧ (x) ≤ 64
    ·skip
     by_cases d136 : 0 ≤ (y) ∧ (y) ≤ 64
     ·skip
      refine wq_region ?_
      refine wl_v (.agg #[.int .i64 ((f).W), .int .i64 ((f).H), f0, f1, f2]) rfl rfl (y_load_stc stcT_frame rfl s37 B28 ⟨rfl, rfl⟩) ?_
      refine wl_call (R := fun v_ w_ => v_ = .int .i64 (checkE (f)) ∧ Kept (fun _ => False) w15 w_) rfl rfl (y_cs rfl rfl rfl (fun _ _ => by kernel_rfl) (ev_func _) (vsC rfl vsN) (pl_check (f) (f0) (f1) (f2) (T_f0) (T_f1) (T_f2) _  B25 B26 B27 ) (fun e_ w_ h_ => ⟨_, h_.1, rfl, h_.2⟩)) ?_
      rintro _ w137 ⟨rfl, k138⟩
      have B139 := B25.all k138 Apart.none
      have B140 := B26.all k138 Apart.none
      have B141 := B27.all k138 Apart.none
      have B142 := B28.all k138 id
      have B143 := B16.all k138 id
      have K144 := K29.trans k138 (fun _ _ x => x.elim)
      refine wl_v (.bool false) rfl rfl (y_neqI rfl rfl rfl (decide_eq_false d39) ⟨rfl, rfl⟩) ?_
      refine wl_v (.bool false) rfl rfl (y_mov rfl rfl ⟨rfl, rfl⟩) ?_
      refine wl_vw (.int .i64 (p)) 3 false 15 rfl rfl rfl rfl rfl (y_mov rfl s32 ⟨rfl, rfl⟩) ?_
      refine wl_vw (.bool false) 3 false 15 rfl rfl rfl rfl rfl (y_lss rfl rfl rfl (decide_eq_false d71) ⟨rfl, rfl⟩) ?_
      refine wl_v (.bool false) rfl rfl (y_pickF rfl rfl rfl ⟨rfl, rfl⟩) ?_
      refine wl_v (.bool false) rfl rfl (y_mov rfl rfl ⟨rfl, rfl⟩) ?_
      refine wl_vw (.int .i64 (p)) 7 false 19 rfl rfl rfl rfl rfl (y_mov rfl s32 ⟨rfl, rfl⟩) ?_
      refine wl_vw (.bool false) 7 false 19 rfl rfl rfl rfl rfl (y_geq rfl rfl rfl (decide_eq_false d103) ⟨rfl, rfl⟩) ?_
      refine wl_v (.bool false) rfl rfl (y_pickF rfl rfl rfl ⟨rfl, rfl⟩) ?_
      refine wl_v (.bool false) rfl rfl (y_mov rfl rfl ⟨rfl, rfl⟩) ?_
      refine wl_vw (.int .i64 (x)) 11 false 23 rfl rfl rfl rfl rfl (y_mov rfl s33 ⟨rfl, rfl⟩) ?_
      refine wl_callw (R := fun v_ w_ => v_ = .bool true ∧ Kept (fun _ => False) w137 w_) 11 false 23 rfl rfl rfl rfl rfl (y_cs rfl rfl rfl (fun _ _ => by kernel_rfl) (ev_func _) (vsC rfl vsN) (is_place (x)  _   ) (fun e_ w_ h_ => ⟨_, h_.1, (congrArg Value.bool (decide_eq_true d135)), h_.2⟩)) ?_
      rintro _ w145 ⟨rfl, k146⟩
      have B147 := B139.all k146 Apart.none
      have B148 := B140.all k146 Apart.none
      have B149 := B141.all k146 Apart.none
      have B150 := B142.all k146 id
      have B151 := B143.all k146 id
      have K152 := K144.trans k146 (fun _ _ x => x.elim)
      refine wl_vw (.bool false) 11 false 23 rfl rfl rfl rfl rfl (y_not rfl rfl rfl ⟨rfl, rfl⟩) ?_
      refine wl_v (.bool false) rfl rfl (y_pickF rfl rfl rfl ⟨rfl, rfl⟩) ?_
      refine wl_v (.bool false) rfl rfl (y_mov rfl rfl ⟨rfl, rfl⟩) ?_
      refine wl_vw (.int .i64 (y)) 16 false 28 rfl rfl rfl rfl rfl (y_mov rfl s34 ⟨rfl, rfl⟩) ?_
      refine wl_callw (R := fun v_ w_ => v_ = .bool true ∧ Kept (fun _ => False) w145 w_) 16 false 28 rfl rfl rfl rfl rfl (y_cs rfl rfl rfl (fun _ _ => by kernel_rfl) (ev_func _) (vsC rfl vsN) (is_place (y)  _   ) (fun e_ w_ h_ => ⟨_, h_.1, (congrArg Value.bool (decide_eq_true d136)), h_.2⟩)) ?_
      rintro _ w153 ⟨rfl, k154⟩
      have B155 := B147.all k154 Apart.none
      have B156 := B148.all k154 Apart.none
      have B157 := B149.all k154 Apart.none
      have B158 := B150.all k154 id
      have B159 := B151.all k154 id
      have K160 := K152.trans k154 (fun _ _ x => x.elim)
      refine wl_vw (.bool false) 16 false 28 rfl rfl rfl rfl rfl (y_not rfl rfl rfl ⟨rfl, rfl⟩) ?_
      refine wl_v (.bool false) rfl rfl (y_pickF rfl rfl rfl ⟨rfl, rfl⟩) ?_
      refine wl_nil fun F161 hF162 => ?_
      have s163 := (hF162 1).trans s32
      have s164 := (hF162 2).trans s33
      have s165 := (hF162 3).trans s34
      have s166 := (hF162 4).trans s35
      have s167 := (hF162 55).trans s36
      have s168 := (hF162 5).trans s37
      have s169 := (hF162 10).trans s38
      have s170 : F161 32 = .bool false := (hF162 32).trans rfl
      clear hF162
      refine then_normal ?_
      refine wq_cond (t := false) s170 (fun e => by cases e) (fun _ => ?_)
      refine wq_skip ?_
      refine then_normal ?_
      refine wq_seq ?_
      refine wq_seq ?_
      have hpl : placeF f p x y := ⟨(checkE_iff f).1 (by first | assumption | (apply Decidable.byContradiction; assumption)), by omega, by omega, by omega, by omega, by omega, by omega⟩
      by_cases d171 : (mode) < (0)
      ·skip
       refine wq_region ?_
       refine wl_v (.int .i64 (mode)) rfl rfl (y_mov rfl s166 ⟨rfl, rfl⟩) ?_
       refine wl_v (.bool true) rfl rfl (y_lss rfl rfl rfl (decide_eq_true d171) ⟨rfl, rfl⟩) ?_
       refine wl_v (.bool true) rfl rfl (y_mov rfl rfl ⟨rfl, rfl⟩) ?_
       refine wl_unless 2 false 36 rfl rfl rfl (Or.inl rfl) rfl ?_
       refine wl_unless 2 false 36 rfl rfl rfl (Or.inl rfl) rfl ?_
       refine wl_v (.bool true) rfl rfl (y_pickT rfl rfl rfl ⟨rfl, rfl⟩) ?_
       refine wl_nil fun F172 hF173 => ?_
       have s178 := (hF173 55).trans s167
       have s180 := (hF173 10).trans s169
       have s181 : F172 39 = .bool true := (hF173 39).trans rfl
       clear hF173
       refine then_normal ?_
       refine wq_cond (t := true) s181 (fun _ => ?_) (fun e => by cases e)
       refine wq_seq ?_
       have hm : ¬ (0 ≤ mode ∧ mode ≤ 3) := by omega
       refine wq_region ?_
       refine wl_v (blkV (fun _ => 0)) rfl rfl (y_buildR (cells := (arrL 16 (fun _ => 0)).toArray) rfl (by kernel_rfl) rfl ⟨rfl, rfl⟩) ?_
       refine wl_store_blk blkT_block rfl rfl rfl s180 rfl B159 fun w182 B183 k184 => ?_
       have K189 := K160.trans k184 (Grew.ok (S := fun _ => False) gr20 noB_le)
       refine wl_v (.int .i64 (80)) rfl rfl (y_asg rfl rfl ⟨rfl, rfl⟩) ?_
       refine wl_nil fun F190 hF191 => ?_
       have s192 := (hF191 55).trans s178
       have s193 := (hF191 10).trans s180
       have s194 : F190 11 = .int .i64 (80) := (hF191 11).trans rfl
       clear hF191
       refine then_normal ?_
       refine wq_ret ?_
       refine then_ret ?_
       exact end_2 s192 rfl (res_blk blkT_block rfl s193 B183) (res_tmp (v := .int .i64 (80)) rfl s194) ⟨(by first | rw [(pred_no hno).1, (pred_no hno).2] | rw [(pred_none hpl hm).1, (pred_none hpl hm).2] | rw [(pred_yes hpl hm).1, (pred_yes hpl hm).2]), K189⟩
      ·skip
       refine wq_region ?_
       refine wl_v (.int .i64 (mode)) rfl rfl (y_mov rfl s166 ⟨rfl, rfl⟩) ?_
       refine wl_v (.bool false) rfl rfl (y_lss rfl rfl rfl (decide_eq_false d171) ⟨rfl, rfl⟩) ?_
       refine wl_v (.bool false) rfl rfl (y_mov rfl rfl ⟨rfl, rfl⟩) ?_
       refine wl_vw (.int .i64 (mode)) 2 false 36 rfl rfl rfl rfl rfl (y_mov rfl s166 ⟨rfl, rfl⟩) ?_
       refine wl_vw (.bool (decide ((4) ≤ (mode)))) 2 false 36 rfl rfl rfl rfl rfl (y_geq rfl rfl rfl rfl ⟨rfl, rfl⟩) ?_
       refine wl_v (.bool (decide ((4) ≤ (mode)))) rfl rfl (y_pickF rfl rfl rfl ⟨rfl, rfl⟩) ?_
       refine wl_nil fun F195 hF196 => ?_
       have s197 := (hF196 1).trans s163
       have s198 := (hF196 2).trans s164
       have s199 := (hF196 3).trans s165
       have s200 := (hF196 4).trans s166
       have s201 := (hF196 55).trans s167
       have s202 := (hF196 5).trans s168
       have s203 := (hF196 10).trans s169
       have s204 : F195 39 = .bool (decide ((4) ≤ (mode))) := (hF196 39).trans rfl
       clear hF196
       refine then_normal ?_
       refine wq_cond s204 (fun c205 => ?_) (fun c205 => ?_)
       ·replace c205 := of_decide_eq_true c205
        refine wq_seq ?_
        have hm : ¬ (0 ≤ mode ∧ mode ≤ 3) := by omega
        refine wq_region ?_
        refine wl_v (blkV (fun _ => 0)) rfl rfl (y_buildR (cells := (arrL 16 (fun _ => 0)).toArray) rfl (by kernel_rfl) rfl ⟨rfl, rfl⟩) ?_
        refine wl_store_blk blkT_block rfl rfl rfl s203 rfl B159 fun w206 B207 k208 => ?_
        have K213 := K160.trans k208 (Grew.ok (S := fun _ => False) gr20 noB_le)
        refine wl_v (.int .i64 (80)) rfl rfl (y_asg rfl rfl ⟨rfl, rfl⟩) ?_
        refine wl_nil fun F214 hF215 => ?_
        have s216 := (hF215 55).trans s201
        have s217 := (hF215 10).trans s203
        have s218 : F214 11 = .int .i64 (80) := (hF215 11).trans rfl
        clear hF215
        refine then_normal ?_
        refine wq_ret ?_
        refine then_ret ?_
        exact end_2 s216 rfl (res_blk blkT_block rfl s217 B207) (res_tmp (v := .int .i64 (80)) rfl s218) ⟨(by first | rw [(pred_no hno).1, (pred_no hno).2] | rw [(pred_none hpl hm).1, (pred_none hpl hm).2] | rw [(pred_yes hpl hm).1, (pred_yes hpl hm).2]), K213⟩
       ·replace c205 := of_decide_eq_false c205
        refine wq_skip ?_
        refine then_normal ?_
        refine wq_seq ?_
        have hm : 0 ≤ mode ∧ mode ≤ 3 := by omega
        refine wq_tail 14 [some 41, some 42, some 43, some 44, some 45, some 46, some 47, some 48, some 49, some 50, some 51, some 52, some 53, some 54] [Pd.eq (.agg #[.int .i64 ((f).W), .int .i64 ((f).H), f0, f1, f2]), Pd.eq (.int .i64 (p)), Pd.eq (.int .i64 (x)), Pd.eq (.int .i64 (y)), Pd.eq (.agg (arrL 4 (fun k => aboveF (f) (p) (x) (y) ((k : Nat) : Int))).toArray), Pd.eq (.agg #[.int .i64 ((f).W), .int .i64 ((f).H), f0, f1, f2]), Pd.eq (.int .i64 (p)), Pd.eq (.int .i64 (x)), Pd.eq (.int .i64 (y)), Pd.eq (.agg (arrL 4 (fun k => leftF (f) (p) (x) (y) ((k : Nat) : Int))).toArray), Pd.fns (predG (fun k => aboveF (f) (p) (x) (y) ((k : Nat) : Int)) (fun k => leftF (f) (p) (x) (y) ((k : Nat) : Int))), Pd.eq (.int .i64 (mode)), Pd.ask2 4 (predG (fun k => aboveF f p x y ((k : Nat) : Int)) (fun k => leftF f p x y ((k : Nat) : Int)) mode.toNat), Pd.eq (blkV (predN f p x y mode))] (by kernel_rfl) (by kernel_rfl) (by kernel_rfl) ?_ ?_
        ·refine stepsF_cons ?_ ?_
         ·refine StepF.one rfl fun F_ w_ hR hout hD => ?_
          exact (y_load_stc stcT_frame rfl ((hout 5 rfl (by decide)).trans s202) (B158.all hR id) ⟨rfl, Kept.refl _ _⟩)
         refine stepsF_cons ?_ ?_
         ·refine StepF.one rfl fun F_ w_ hR hout hD => ?_
          exact (y_mov rfl ((hout 1 rfl (by decide)).trans s197) ⟨rfl, Kept.refl _ _⟩)
         refine stepsF_cons ?_ ?_
         ·refine StepF.one rfl fun F_ w_ hR hout hD => ?_
          exact (y_mov rfl ((hout 2 rfl (by decide)).trans s198) ⟨rfl, Kept.refl _ _⟩)
         refine stepsF_cons ?_ ?_
         ·refine StepF.one rfl fun F_ w_ hR hout hD => ?_
          exact (y_mov rfl ((hout 3 rfl (by decide)).trans s199) ⟨rfl, Kept.refl _ _⟩)
         refine stepsF_cons ?_ ?_
         ·refine StepF.one rfl fun F_ w_ hR hout hD => ?_
          have g41 : F_ 41 = .agg #[.int .i64 ((f).W), .int .i64 ((f).H), f0, f1, f2] := (hD.get 0 rfl rfl rfl)
          have g42 : F_ 42 = .int .i64 (p) := (hD.get 1 rfl rfl rfl)
          have g43 : F_ 43 = .int .i64 (x) := (hD.get 2 rfl rfl rfl)
          have g44 : F_ 44 = .int .i64 (y) := (hD.get 3 rfl rfl rfl)
          exact (y_cs rfl rfl rfl (fun _ _ => by kernel_rfl) (ev_func _) (vsC g41 (vsC g42 (vsC g43 (vsC g44 vsN)))) (is_above (p) (x) (y) (f) (f0) (f1) (f2) (T_f0) (T_f1) (T_f2) _ (by omega) (by omega) (B155.all hR Apart.none) (B156.all hR Apart.none) (B157.all hR Apart.none) ) (fun e_ w_ h_ => ⟨_, h_.1, rfl, h_.2⟩))
         refine stepsF_cons ?_ ?_
         ·refine StepF.one rfl fun F_ w_ hR hout hD => ?_
          exact (y_load_stc stcT_frame rfl ((hout 5 rfl (by decide)).trans s202) (B158.all hR id) ⟨rfl, Kept.refl _ _⟩)
         refine stepsF_cons ?_ ?_
         ·refine StepF.one rfl fun F_ w_ hR hout hD => ?_
          exact (y_mov rfl ((hout 1 rfl (by decide)).trans s197) ⟨rfl, Kept.refl _ _⟩)
         refine stepsF_cons ?_ ?_
         ·refine StepF.one rfl fun F_ w_ hR hout hD => ?_
          exact (y_mov rfl ((hout 2 rfl (by decide)).trans s198) ⟨rfl, Kept.refl _ _⟩)
         refine stepsF_cons ?_ ?_
         ·refine StepF.one rfl fun F_ w_ hR hout hD => ?_
          exact (y_mov rfl ((hout 3 rfl (by decide)).trans s199) ⟨rfl, Kept.refl _ _⟩)
         refine stepsF_cons ?_ ?_
         ·refine StepF.one rfl fun F_ w_ hR hout hD => ?_
          have g46 : F_ 46 = .agg #[.int .i64 ((f).W), .int .i64 ((f).H), f0, f1, f2] := (hD.get 0 rfl rfl rfl)
          have g47 : F_ 47 = .int .i64 (p) := (hD.get 1 rfl rfl rfl)
          have g48 : F_ 48 = .int .i64 (x) := (hD.get 2 rfl rfl rfl)
          have g49 : F_ 49 = .int .i64 (y) := (hD.get 3 rfl rfl rfl)
          exact (y_cs rfl rfl rfl (fun _ _ => by kernel_rfl) (ev_func _) (vsC g46 (vsC g47 (vsC g48 (vsC g49 vsN)))) (is_left (p) (x) (y) (f) (f0) (f1) (f2) (T_f0) (T_f1) (T_f2) _ (by omega) (by omega) (B155.all hR Apart.none) (B156.all hR Apart.none) (B157.all hR Apart.none) ) (fun e_ w_ h_ => ⟨_, h_.1, rfl, h_.2⟩))
         refine stepsF_cons ?_ ?_
         ·refine StepF.one rfl fun F_ w_ hR hout hD => ?_
          have g45 : F_ 45 = .agg (arrL 4 (fun k => aboveF (f) (p) (x) (y) ((k : Nat) : Int))).toArray := (hD.get 0 rfl rfl rfl)
          have g50 : F_ 50 = .agg (arrL 4 (fun k => leftF (f) (p) (x) (y) ((k : Nat) : Int))).toArray := (hD.get 1 rfl rfl rfl)
          exact (y_cs rfl rfl rfl (fun _ _ => by kernel_rfl) (ev_func _) (vsC g45 (vsC g50 vsN)) (is_predictions (fun k => aboveF (f) (p) (x) (y) ((k : Nat) : Int)) (fun k => leftF (f) (p) (x) (y) ((k : Nat) : Int))  _ (fun i => above_le hb p x y _) (fun i => left_le hb p x y _)  ) (fun e_ w_ h_ => by obtain ⟨v_, he_, k_, hb_⟩ := h_; exact ⟨v_, he_, hb_, k_⟩))
         refine stepsF_cons ?_ ?_
         ·refine StepF.one rfl fun F_ w_ hR hout hD => ?_
          exact (y_mov rfl ((hout 4 rfl (by decide)).trans s200) ⟨rfl, Kept.refl _ _⟩)
         refine stepsF_cons ?_ ?_
         ·refine StepF.one rfl fun F_ w_ hR hout hD => ?_
          have g51 : (Pd.fns (predG (fun k => aboveF (f) (p) (x) (y) ((k : Nat) : Int)) (fun k => leftF (f) (p) (x) (y) ((k : Nat) : Int)))).says (F_ 51) w_ := hD.get 0 rfl rfl rfl
          have g52 : F_ 52 = .int .i64 (mode) := (hD.get 1 rfl rfl rfl)
          exact y_ixF (mode.toNat) rfl rfl g51 g52 (by omega) (by omega) fun c_ hc_ => ⟨hc_, Kept.refl _ _⟩
         refine stepsF_cons ?_ ?_
         ·refine StepF.one rfl fun F_ w_ hR hout hD => ?_
          have g53 : (Pd.ask2 4 (predG (fun k => aboveF f p x y ((k : Nat) : Int)) (fun k => leftF f p x y ((k : Nat) : Int)) mode.toNat)).says (F_ 53) w_ := hD.get 0 rfl rfl rfl
          exact (y_cs rfl rfl rfl (fun _ _ => by kernel_rfl) (ev_func _) (vsC rfl vsN) (is_filled (F_ 53) (predG (fun k => aboveF f p x y ((k : Nat) : Int)) (fun k => leftF f p x y ((k : Nat) : Int)) mode.toNat)  _ g53  ) (fun e_ w_ h_ => ⟨_, h_.1, congrArg blkV (predG_is hm), h_.2⟩))
         exact stepsF_nil
        intro v219 F220 w221 k222 G223 hF224
        have B230 := B159.all k222 id
        have K231 := K160.trans k222 (fun _ _ x => x.elim)
        have s232 := (hF224 55).trans s201
        have s233 := (hF224 10).trans s203
        have s234 : F220 54 = blkV (predN f p x y mode) := (hF224 54).trans (G223 13 (by decide))
        clear G223 hF224
        refine wl_store_blk blkT_block rfl rfl rfl s233 s234 B230 fun w235 B236 k237 => ?_
        have K242 := K231.trans k237 (Grew.ok (S := fun _ => False) gr20 noB_le)
        refine wl_v (.int .i64 (0)) rfl rfl (y_asg rfl rfl ⟨rfl, rfl⟩) ?_
        refine wl_nil fun F243 hF244 => ?_
        have s245 := (hF244 55).trans s232
        have s246 := (hF244 10).trans s233
        have s247 : F243 11 = .int .i64 (0) := (hF244 11).trans rfl
        clear hF244
        refine then_normal ?_
        refine wq_ret ?_
        exact end_2 s245 rfl (res_blk blkT_block rfl s246 B236) (res_tmp (v := .int .i64 (0)) rfl s247) ⟨(by first | rw [(pred_no hno).1, (pred_no hno).2] | rw [(pred_none hpl hm).1, (pred_none hpl hm).2] | rw [(pred_yes hpl hm).1, (pred_yes hpl hm).2]), K242⟩
     ·skip
      refine wq_region ?_
      refine wl_v (.agg #[.int .i64 ((f).W), .int .i64 ((f).H), f0, f1, f2]) rfl rfl (y_load_stc stcT_frame rfl s37 B28 ⟨rfl, rfl⟩) ?_
      refine wl_call (R := fun v_ w_ => v_ = .int .i64 (checkE (f)) ∧ Kept (fun _ => False) w15 w_) rfl rfl (y_cs rfl rfl rfl (fun _ _ => by kernel_rfl) (ev_func _) (vsC rfl vsN) (pl_check (f) (f0) (f1) (f2) (T_f0) (T_f1) (T_f2) _  B25 B26 B27 ) (fun e_ w_ h_ => ⟨_, h_.1, rfl, h_.2⟩)) ?_
      rintro _ w248 ⟨rfl, k249⟩
      have B254 := B16.all k249 id
      have K255 := K29.trans k249 (fun _ _ x => x.elim)
      refine wl_v (.bool false) rfl rfl (y_neqI rfl rfl rfl (decide_eq_false d39) ⟨rfl, rfl⟩) ?_
      refine wl_v (.bool false) rfl rfl (y_mov rfl rfl ⟨rfl, rfl⟩) ?_
      refine wl_vw (.int .i64 (p)) 3 false 15 rfl rfl rfl rfl rfl (y_mov rfl s32 ⟨rfl, rfl⟩) ?_
      refine wl_vw (.bool false) 3 false 15 rfl rfl rfl rfl rfl (y_lss rfl rfl rfl (decide_eq_false d71) ⟨rfl, rfl⟩) ?_
      refine wl_v (.bool false) rfl rfl (y_pickF rfl rfl rfl ⟨rfl, rfl⟩) ?_
      refine wl_v (.bool false) rfl rfl (y_mov rfl rfl ⟨rfl, rfl⟩) ?_
      refine wl_vw (.int .i64 (p)) 7 false 19 rfl rfl rfl rfl rfl (y_mov rfl s32 ⟨rfl, rfl⟩) ?_
      refine wl_vw (.bool false) 7 false 19 rfl rfl rfl rfl rfl (y_geq rfl rfl rfl (decide_eq_false d103) ⟨rfl, rfl⟩) ?_
      refine wl_v (.bool false) rfl rfl (y_pickF rfl rfl rfl ⟨rfl, rfl⟩) ?_
      refine wl_v (.bool false) rfl rfl (y_mov rfl rfl ⟨rfl, rfl⟩) ?_
      refine wl_vw (.int .i64 (x)) 11 false 23 rfl rfl rfl rfl rfl (y_mov rfl s33 ⟨rfl, rfl⟩) ?_
      refine wl_callw (R := fun v_ w_ => v_ = .bool true ∧ Kept (fun _ => False) w248 w_) 11 false 23 rfl rfl rfl rfl rfl (y_cs rfl rfl rfl (fun _ _ => by kernel_rfl) (ev_func _) (vsC rfl vsN) (is_place (x)  _   ) (fun e_ w_ h_ => ⟨_, h_.1, (congrArg Value.bool (decide_eq_true d135)), h_.2⟩)) ?_
      rintro _ w256 ⟨rfl, k257⟩
      have B262 := B254.all k257 id
      have K263 := K255.trans k257 (fun _ _ x => x.elim)
      refine wl_vw (.bool false) 11 false 23 rfl rfl rfl rfl rfl (y_not rfl rfl rfl ⟨rfl, rfl⟩) ?_
      refine wl_v (.bool false) rfl rfl (y_pickF rfl rfl rfl ⟨rfl, rfl⟩) ?_
      refine wl_v (.bool false) rfl rfl (y_mov rfl rfl ⟨rfl, rfl⟩) ?_
      refine wl_vw (.int .i64 (y)) 16 false 28 rfl rfl rfl rfl rfl (y_mov rfl s34 ⟨rfl, rfl⟩) ?_
      refine wl_callw (R := fun v_ w_ => v_ = .bool false ∧ Kept (fun _ => False) w256 w_) 16 false 28 rfl rfl rfl rfl rfl (y_cs rfl rfl rfl (fun _ _ => by kernel_rfl) (ev_func _) (vsC rfl vsN) (is_place (y)  _   ) (fun e_ w_ h_ => ⟨_, h_.1, (congrArg Value.bool (decide_eq_false d136)), h_.2⟩)) ?_
      rintro _ w264 ⟨rfl, k265⟩
      have B270 := B262.all k265 id
      have K271 := K263.trans k265 (fun _ _ x => x.elim)
      refine wl_vw (.bool true) 16 false 28 rfl rfl rfl rfl rfl (y_not rfl rfl rfl ⟨rfl, rfl⟩) ?_
      refine wl_v (.bool true) rfl rfl (y_pickF rfl rfl rfl ⟨rfl, rfl⟩) ?_
      refine wl_nil fun F272 hF273 => ?_
      have s278 := (hF273 55).trans s36
      have s280 := (hF273 10).trans s38
      have s281 : F272 32 = .bool true := (hF273 32).trans rfl
      clear hF273
      refine then_normal ?_
      refine wq_cond (t := true) s281 (fun _ => ?_) (fun e => by cases e)
      refine wq_seq ?_
      have hno : ¬ placeF f p x y := by rintro ⟨h1, h2, h3, h4, h5, h6, h7⟩; first | exact absurd ((checkE_iff f).2 h1) (by assumption) | omega
      refine wq_region ?_
      refine wl_v (blkV (fun _ => 0)) rfl rfl (y_buildR (cells := (arrL 16 (fun _ => 0)).toArray) rfl (by kernel_rfl) rfl ⟨rfl, rfl⟩) ?_
      refine wl_store_blk blkT_block rfl rfl rfl s280 rfl B270 fun w282 B283 k284 => ?_
      have K289 := K271.trans k284 (Grew.ok (S := fun _ => False) gr20 noB_le)
      refine wl_v (.int .i64 (70)) rfl rfl (y_asg rfl rfl ⟨rfl, rfl⟩) ?_
      refine wl_nil fun F290 hF291 => ?_
      have s292 := (hF291 55).trans s278
      have s293 := (hF291 10).trans s280
      have s294 : F290 11 = .int .i64 (70) := (hF291 11).trans rfl
      clear hF291
      refine then_normal ?_
      refine wq_ret ?_
      refine then_ret ?_
      exact end_2 s292 rfl (res_blk blkT_block rfl s293 B283) (res_tmp (v := .int .i64 (70)) rfl s294) ⟨(by first | rw [(pred_no hno).1, (pred_no hno).2] | rw [(pred_none hpl hm).1, (pred_none hpl hm).2] | rw [(pred_yes hpl hm).1, (pred_yes hpl hm).2]), K289⟩
    ·skip
     refine wq_region ?_
     refine wl_v (.agg #[.int .i64 ((f).W), .int .i64 ((f).H), f0, f1, f2]) rfl rfl (y_load_stc stcT_frame rfl s37 B28 ⟨rfl, rfl⟩) ?_
     refine wl_call (R := fun v_ w_ => v_ = .int .i64 (checkE (f)) ∧ Kept (fun _ => False) w15 w_) rfl rfl (y_cs rfl rfl rfl (fun _ _ => by kernel_rfl) (ev_func _) (vsC rfl vsN) (pl_check (f) (f0) (f1) (f2) (T_f0) (T_f1) (T_f2) _  B25 B26 B27 ) (fun e_ w_ h_ => ⟨_, h_.1, rfl, h_.2⟩)) ?_
     rintro _ w295 ⟨rfl, k296⟩
     have B301 := B16.all k296 id
     have K302 := K29.trans k296 (fun _ _ x => x.elim)
     refine wl_v (.bool false) rfl rfl (y_neqI rfl rfl rfl (decide_eq_false d39) ⟨rfl, rfl⟩) ?_
     refine wl_v (.bool false) rfl rfl (y_mov rfl rfl ⟨rfl, rfl⟩) ?_
     refine wl_vw (.int .i64 (p)) 3 false 15 rfl rfl rfl rfl rfl (y_mov rfl s32 ⟨rfl, rfl⟩) ?_
     refine wl_vw (.bool false) 3 false 15 rfl rfl rfl rfl rfl (y_lss rfl rfl rfl (decide_eq_false d71) ⟨rfl, rfl⟩) ?_
     refine wl_v (.bool false) rfl rfl (y_pickF rfl rfl rfl ⟨rfl, rfl⟩) ?_
     refine wl_v (.bool false) rfl rfl (y_mov rfl rfl ⟨rfl, rfl⟩) ?_
     refine wl_vw (.int .i64 (p)) 7 false 19 rfl rfl rfl rfl rfl (y_mov rfl s32 ⟨rfl, rfl⟩) ?_
     refine wl_vw (.bool false) 7 false 19 rfl rfl rfl rfl rfl (y_geq rfl rfl rfl (decide_eq_false d103) ⟨rfl, rfl⟩) ?_
     refine wl_v (.bool false) rfl rfl (y_pickF rfl rfl rfl ⟨rfl, rfl⟩) ?_
     refine wl_v (.bool false) rfl rfl (y_mov rfl rfl ⟨rfl, rfl⟩) ?_
     refine wl_vw (.int .i64 (x)) 11 false 23 rfl rfl rfl rfl rfl (y_mov rfl s33 ⟨rfl, rfl⟩) ?_
     refine wl_callw (R := fun v_ w_ => v_ = .bool false ∧ Kept (fun _ => False) w295 w_) 11 false 23 rfl rfl rfl rfl rfl (y_cs rfl rfl rfl (fun _ _ => by kernel_rfl) (ev_func _) (vsC rfl vsN) (is_place (x)  _   ) (fun e_ w_ h_ => ⟨_, h_.1, (congrArg Value.bool (decide_eq_false d135)), h_.2⟩)) ?_
     rintro _ w303 ⟨rfl, k304⟩
     have B309 := B301.all k304 id
     have K310 := K302.trans k304 (fun _ _ x => x.elim)
     refine wl_vw (.bool true) 11 false 23 rfl rfl rfl rfl rfl (y_not rfl rfl rfl ⟨rfl, rfl⟩) ?_
     refine wl_v (.bool true) rfl rfl (y_pickF rfl rfl rfl ⟨rfl, rfl⟩) ?_
     refine wl_v (.bool true) rfl rfl (y_mov rfl rfl ⟨rfl, rfl⟩) ?_
     refine wl_unless 16 false 28 rfl rfl rfl (Or.inl rfl) rfl ?_
     refine wl_unless 16 false 28 rfl rfl rfl (Or.inl rfl) rfl ?_
     refine wl_unless 16 false 28 rfl rfl rfl (Or.inl rfl) rfl ?_
     refine wl_v (.bool true) rfl rfl (y_pickT rfl rfl rfl ⟨rfl, rfl⟩) ?_
     refine wl_nil fun F311 hF312 => ?_
     have s317 := (hF312 55).trans s36
     have s319 := (hF312 10).trans s38
     have s320 : F311 32 = .bool true := (hF312 32).trans rfl
     clear hF312
     refine then_normal ?_
     refine wq_cond (t := true) s320 (fun _ => ?_) (fun e => by cases e)
     refine wq_seq ?_
     have hno : ¬ placeF f p x y := by rintro ⟨h1, h2, h3, h4, h5, h6, h7⟩; first | exact absurd ((checkE_iff f).2 h1) (by assumption) | omega
     refine wq_region ?_
     refine wl_v (blkV (fun _ => 0)) rfl rfl (y_buildR (cells := (arrL 16 (fun _ => 0)).toArray) rfl (by kernel_rfl) rfl ⟨rfl, rfl⟩) ?_
     refine wl_store_blk blkT_block rfl rfl rfl s319 rfl B309 fun w321 B322 k323 => ?_
     have K328 := K310.trans k323 (Grew.ok (S := fun _ => False) gr20 noB_le)
     refine wl_v (.int .i64 (70)) rfl rfl (y_asg rfl rfl ⟨rfl, rfl⟩) ?_
     refine wl_nil fun F329 hF330 => ?_
     have s331 := (hF330 55).trans s317
     have s332 := (hF330 10).trans s319
     have s333 : F329 11 = .int .i64 (70) := (hF330 11).trans rfl
     clear hF330
     refine then_normal ?_
     refine wq_ret ?_
     refine then_ret ?_
     exact end_2 s331 rfl (res_blk blkT_block rfl s332 B322) (res_tmp (v := .int .i64 (70)) rfl s333) ⟨(by first | rw [(pred_no hno).1, (pred_no hno).2] | rw [(pred_none hpl hm).1, (pred_none hpl hm).2] | rw [(pred_yes hpl hm).1, (pred_yes hpl hm).2]), K328⟩
end Go.Proofs.YtdcbabgcbkdlhaaGreatDoor
set_option maxRecDepth 100000
namespace Go.Proofs.YtdcbabgcbkdlhaaGreatDoor
open Go.RowKit

set_option maxHeartbeats 4000000 in
set_option maxRecDepth 100000 in
theorem iref_above (p x y k : Int) (f : FD) (f0 f1 f2 : Value) (T_f0 : Nat → Prop) (T_f1 : Nat → Prop) (T_f2 : Nat → Prop) (w0 : World) (hx : 0 ≤ x ∧ x ≤ 64) (hy : 0 ≤ y ∧ y ≤ 64) (hk : 0 ≤ k ∧ k ≤ 3) (h_f0 : Byt w0 T_f0 f0 ((f).p0)) (h_f1 : Byt w0 T_f1 f1 ((f).p1)) (h_f2 : Byt w0 T_f2 f2 ((f).p2)) :
  Calls Tryz.prog 51 #[.agg #[.int .i64 ((f).W), .int .i64 ((f).H), f0, f1, f2], .int .i64 (p), .int .i64 (x), .int .i64 (y), .int .i64 (k)] w0 fun e w' => e = .returned (.int .i64 (aboveF f p x y k)) ∧ Kept (fun _ => False) w0 w' := by
 refine calls_wq (args := [.agg #[.int .i64 ((f).W), .int .i64 ((f).H), f0, f1, f2], .int .i64 (p), .int .i64 (x), .int .i64 (y), .int .i64 (k)]) 21 Tryz.func51 rfl rfl (Nat.le_of_ble_eq_true rfl) ?_
 have K0 := Kept.refl (fun _ => False) w0
 have g_f0 := Grew.refl w0 T_f0
 have g_f1 := Grew.refl w0 T_f1
 have g_f2 := Grew.refl w0 T_f2
 refine wq_seq ?_
 refine wq_region ?_
 refine wl_box_stc (vs := [.int .i64 ((f).W), .int .i64 ((f).H), f0, f1, f2]) rfl rfl rfl rfl fun p1 w2 B4 g5 k3 => ?_
 have B10 := h_f0.all k3 Apart.none
 have B11 := h_f1.all k3 Apart.none
 have B12 := h_f2.all k3 Apart.none
 have K13 := K0.trans k3 (fun _ _ x => x.elim)
 refine wl_v (.int .i64 (0)) rfl rfl (y_asg rfl rfl ⟨rfl, rfl⟩) ?_
 refine wl_nil fun F14 hF15 => ?_
 have s16 : F14 1 = .int .i64 (p) := (hF15 1).trans rfl
 have s17 : F14 2 = .int .i64 (x) := (hF15 2).trans rfl
 have s18 : F14 3 = .int .i64 (y) := (hF15 3).trans rfl
 have s19 : F14 4 = .int .i64 (k) := (hF15 4).trans rfl
 have s20 : F14 21 = undef := (hF15 21).trans rfl
 have s21 : F14 5 = .pointer (some ⟨p1, 0, none⟩) := (hF15 5).trans rfl
 clear hF15
 refine then_normal ?_
 refine wq_seq ?_
 refine wq_seq ?_
 refine wq_region ?_
 refine wl_v (.int .i64 (y)) rfl rfl (y_mov rfl s18 ⟨rfl, rfl⟩) ?_
 refine wl_v (.bool (decide ((y) ≤ (0)))) rfl rfl (y_leq rfl rfl rfl rfl ⟨rfl, rfl⟩) ?_
 refine wl_nil fun F22 hF23 => ?_
 have s24 := (hF23 1).trans s16
 have s25 := (hF23 2).trans s17
 have s26 := (hF23 3).trans s18
 have s27 := (hF23 4).trans s19
 have s28 := (hF23 21).trans s20
 have s29 := (hF23 5).trans s21
 have s30 : F22 12 = .bool (decide ((y) ≤ (0))) := (hF23 12).trans rfl
 clear hF23
 refine then_normal ?_
 refine wq_cond s30 (fun c31 => ?_) (fun c31 => ?_)
 ·replace c31 := of_decide_eq_true c31
  refine wq_seq ?_
  refine wq_region ?_
  refine wl_v (.int .i64 (128)) rfl rfl (y_asg rfl rfl ⟨rfl, rfl⟩) ?_
  refine wl_nil fun F32 hF33 => ?_
  have s34 := (hF33 21).trans s28
  have s35 : F32 10 = .int .i64 (128) := (hF33 10).trans rfl
  clear hF33
  refine then_normal ?_
  refine wq_ret ?_
  refine then_ret ?_
  exact end_tmp (v := .int .i64 (128)) s34 rfl rfl s35 ⟨(by first | rw [above_none (by assumption)] | rw [above_some (by assumption)]), K13⟩
 ·replace c31 := of_decide_eq_false c31
  refine wq_skip ?_
  refine then_normal ?_
  refine wq_seq ?_
  refine wq_region ?_
  refine wl_v (.agg #[.int .i64 ((f).W), .int .i64 ((f).H), f0, f1, f2]) rfl rfl (y_load_stc stcT_frame rfl s29 B4 ⟨rfl, rfl⟩) ?_
  refine wl_v (.int .i64 (p)) rfl rfl (y_mov rfl s24 ⟨rfl, rfl⟩) ?_
  refine wl_v (.int .i64 (x)) rfl rfl (y_mov rfl s25 ⟨rfl, rfl⟩) ?_
  refine wl_v (.int .i64 (k)) rfl rfl (y_mov rfl s27 ⟨rfl, rfl⟩) ?_
  refine wl_v (.int .i64 ((x) + (k))) rfl rfl (y_add rfl rfl rfl (i64_i rfl (by omega)) ⟨rfl, rfl⟩) ?_
  refine wl_v (.int .i64 (y)) rfl rfl (y_mov rfl s26 ⟨rfl, rfl⟩) ?_
  refine wl_v (.int .i64 ((y) - (1))) rfl rfl (y_sub rfl rfl rfl (i64_i rfl (by omega)) ⟨rfl, rfl⟩) ?_
  refine wl_call (R := fun v_ w_ => v_ = .int .i64 (atF (f) (p) ((x) + (k)) ((y) - (1))) ∧ Kept (fun _ => False) w2 w_) rfl rfl (y_cs rfl rfl rfl (fun _ _ => by kernel_rfl) (ev_func _) (vsC rfl (vsC rfl (vsC rfl (vsC rfl vsN)))) (fref_at (p) ((x) + (k)) ((y) - (1)) (f) (f0) (f1) (f2) (T_f0) (T_f1) (T_f2) _  B10 B11 B12 ) (fun e_ w_ h_ => ⟨_, h_.1, rfl, h_.2⟩)) ?_
  rintro _ w36 ⟨rfl, k37⟩
  have K42 := K13.trans k37 (fun _ _ x => x.elim)
  refine wl_v (.int .i64 (atF (f) (p) ((x) + (k)) ((y) - (1)))) rfl rfl (y_asg rfl rfl ⟨rfl, rfl⟩) ?_
  refine wl_nil fun F43 hF44 => ?_
  have s45 := (hF44 21).trans s28
  have s46 : F43 10 = .int .i64 (atF (f) (p) ((x) + (k)) ((y) - (1))) := (hF44 10).trans rfl
  clear hF44
  refine then_normal ?_
  refine wq_ret ?_
  exact end_tmp (v := .int .i64 (atF (f) (p) ((x) + (k)) ((y) - (1)))) s45 rfl rfl s46 ⟨(by first | rw [above_none (by assumption)] | rw [above_some (by assumption)]), K42⟩

set_option maxHeartbeats 4000000 in
set_option maxRecDepth 100000 in
theorem iref_left (p x y k : Int) (f : FD) (f0 f1 f2 : Value) (T_f0 : Nat → Prop) (T_f1 : Nat → Prop) (T_f2 : Nat → Prop) (w0 : World) (hx : 0 ≤ x ∧ x ≤ 64) (hy : 0 ≤ y ∧ y ≤ 64) (hk : 0 ≤ k ∧ k ≤ 3) (h_f0 : Byt w0 T_f0 f0 ((f).p0)) (h_f1 : Byt w0 T_f1 f1 ((f).p1)) (h_f2 : Byt w0 T_f2 f2 ((f).p2)) :
  Calls Tryz.prog 52 #[.agg #[.int .i64 ((f).W), .int .i64 ((f).H), f0, f1, f2], .int .i64 (p), .int .i64 (x), .int .i64 (y), .int .i64 (k)] w0 fun e w' => e = .returned (.int .i64 (leftF f p x y k)) ∧ Kept (fun _ => False) w0 w' := by
 refine calls_wq (args := [.agg #[.int .i64 ((f).W), .int .i64 ((f).H), f0, f1, f2], .int .i64 (p), .int .i64 (x), .int .i64 (y), .int .i64 (k)]) 21 Tryz.func52 rfl rfl (Nat.le_of_ble_eq_true rfl) ?_
 have K0 := Kept.refl (fun _ => False) w0
 have g_f0 := Grew.refl w0 T_f0
 have g_f1 := Grew.refl w0 T_f1
 have g_f2 := Grew.refl w0 T_f2
 refine wq_seq ?_
 refine wq_region ?_
 refine wl_box_stc (vs := [.int .i64 ((f).W), .int .i64 ((f).H), f0, f1, f2]) rfl rfl rfl rfl fun p1 w2 B4 g5 k3 => ?_
 have B10 := h_f0.all k3 Apart.none
 have B11 := h_f1.all k3 Apart.none
 have B12 := h_f2.all k3 Apart.none
 have K13 := K0.trans k3 (fun _ _ x => x.elim)
 refine wl_v (.int .i64 (0)) rfl rfl (y_asg rfl rfl ⟨rfl, rfl⟩) ?_
 refine wl_nil fun F14 hF15 => ?_
 have s16 : F14 1 = .int .i64 (p) := (hF15 1).trans rfl
 have s17 : F14 2 = .int .i64 (x) := (hF15 2).trans rfl
 have s18 : F14 3 = .int .i64 (y) := (hF15 3).trans rfl
 have s19 : F14 4 = .int .i64 (k) := (hF15 4).trans rfl
 have s20 : F14 21 = undef := (hF15 21).trans rfl
 have s21 : F14 5 = .pointer (some ⟨p1, 0, none⟩) := (hF15 5).trans rfl
 clear hF15
 refine then_normal ?_
 refine wq_seq ?_
 refine wq_seq ?_
 refine wq_region ?_
 refine wl_v (.int .i64 (x)) rfl rfl (y_mov rfl s17 ⟨rfl, rfl⟩) ?_
 refine wl_v (.bool (decide ((x) ≤ (0)))) rfl rfl (y_leq rfl rfl rfl rfl ⟨rfl, rfl⟩) ?_
 refine wl_nil fun F22 hF23 => ?_
 have s24 := (hF23 1).trans s16
 have s25 := (hF23 2).trans s17
 have s26 := (hF23 3).trans s18
 have s27 := (hF23 4).trans s19
 have s28 := (hF23 21).trans s20
 have s29 := (hF23 5).trans s21
 have s30 : F22 12 = .bool (decide ((x) ≤ (0))) := (hF23 12).trans rfl
 clear hF23
 refine then_normal ?_
 refine wq_cond s30 (fun c31 => ?_) (fun c31 => ?_)
 ·replace c31 := of_decide_eq_true c31
  refine wq_seq ?_
  refine wq_region ?_
  refine wl_v (.int .i64 (128)) rfl rfl (y_asg rfl rfl ⟨rfl, rfl⟩) ?_
  refine wl_nil fun F32 hF33 => ?_
  have s34 := (hF33 21).trans s28
  have s35 : F32 10 = .int .i64 (128) := (hF33 10).trans rfl
  clear hF33
  refine then_normal ?_
  refine wq_ret ?_
  refine then_ret ?_
  exact end_tmp (v := .int .i64 (128)) s34 rfl rfl s35 ⟨(by first | rw [left_none (by assumption)] | rw [left_some (by assumption)]), K13⟩
 ·replace c31 := of_decide_eq_false c31
  refine wq_skip ?_
  refine then_normal ?_
  refine wq_seq ?_
  refine wq_region ?_
  refine wl_v (.agg #[.int .i64 ((f).W), .int .i64 ((f).H), f0, f1, f2]) rfl rfl (y_load_stc stcT_frame rfl s29 B4 ⟨rfl, rfl⟩) ?_
  refine wl_v (.int .i64 (p)) rfl rfl (y_mov rfl s24 ⟨rfl, rfl⟩) ?_
  refine wl_v (.int .i64 (x)) rfl rfl (y_mov rfl s25 ⟨rfl, rfl⟩) ?_
  refine wl_v (.int .i64 ((x) - (1))) rfl rfl (y_sub rfl rfl rfl (i64_i rfl (by omega)) ⟨rfl, rfl⟩) ?_
  refine wl_v (.int .i64 (y)) rfl rfl (y_mov rfl s26 ⟨rfl, rfl⟩) ?_
  refine wl_v (.int .i64 (k)) rfl rfl (y_mov rfl s27 ⟨rfl, rfl⟩) ?_
  refine wl_v (.int .i64 ((y) + (k))) rfl rfl (y_add rfl rfl rfl (i64_i rfl (by omega)) ⟨rfl, rfl⟩) ?_
  refine wl_call (R := fun v_ w_ => v_ = .int .i64 (atF (f) (p) ((x) - (1)) ((y) + (k))) ∧ Kept (fun _ => False) w2 w_) rfl rfl (y_cs rfl rfl rfl (fun _ _ => by kernel_rfl) (ev_func _) (vsC rfl (vsC rfl (vsC rfl (vsC rfl vsN)))) (fref_at (p) ((x) - (1)) ((y) + (k)) (f) (f0) (f1) (f2) (T_f0) (T_f1) (T_f2) _  B10 B11 B12 ) (fun e_ w_ h_ => ⟨_, h_.1, rfl, h_.2⟩)) ?_
  rintro _ w36 ⟨rfl, k37⟩
  have K42 := K13.trans k37 (fun _ _ x => x.elim)
  refine wl_v (.int .i64 (atF (f) (p) ((x) - (1)) ((y) + (k)))) rfl rfl (y_asg rfl rfl ⟨rfl, rfl⟩) ?_
  refine wl_nil fun F43 hF44 => ?_
  have s45 := (hF44 21).trans s28
  have s46 : F43 10 = .int .i64 (atF (f) (p) ((x) - (1)) ((y) + (k))) := (hF44 10).trans rfl
  clear hF44
  refine then_normal ?_
  refine wq_ret ?_
  exact end_tmp (v := .int .i64 (atF (f) (p) ((x) - (1)) ((y) + (k)))) s45 rfl rfl s46 ⟨(by first | rw [left_none (by assumption)] | rw [left_some (by assumption)]), K42⟩

set_option maxHeartbeats 4000000 in
set_option maxRecDepth 100000 in
theorem iref_predict (p x y mode : Int) (f : FD) (f0 f1 f2 : Value) (T_f0 : Nat → Prop) (T_f1 : Nat → Prop) (T_f2 : Nat → Prop) (w0 : World) (h_f0 : Byt w0 T_f0 f0 ((f).p0)) (h_f1 : Byt w0 T_f1 f1 ((f).p1)) (h_f2 : Byt w0 T_f2 f2 ((f).p2)) :
  Calls Tryz.prog 20 #[.agg #[.int .i64 ((f).W), .int .i64 ((f).H), f0, f1, f2], .int .i64 (p), .int .i64 (x), .int .i64 (y), .int .i64 (mode)] w0 fun e w' => e = .returned (.tuple #[blkV (predB f p x y mode), .int .i64 (predE f p x y mode)]) ∧ Kept (fun _ => False) w0 w' := by
 refine calls_wq (args := [.agg #[.int .i64 ((f).W), .int .i64 ((f).H), f0, f1, f2], .int .i64 (p), .int .i64 (x), .int .i64 (y), .int .i64 (mode)]) 116 Tryz.func20 rfl rfl (Nat.le_of_ble_eq_true rfl) ?_
 have K0 := Kept.refl (fun _ => False) w0
 have hb : Bytes3 f := ⟨h_f0.lt256, h_f1.lt256, h_f2.lt256⟩
 have g_f0 := Grew.refl w0 T_f0
 have g_f1 := Grew.refl w0 T_f1
 have g_f2 := Grew.refl w0 T_f2
 refine wq_seq ?_
 refine wq_region ?_
 refine wl_box_stc (vs := [.int .i64 ((f).W), .int .i64 ((f).H), f0, f1, f2]) rfl rfl rfl rfl fun p1 w2 B4 g5 k3 => ?_
 have B10 := h_f0.all k3 Apart.none
 have B11 := h_f1.all k3 Apart.none
 have B12 := h_f2.all k3 Apart.none
 have K13 := K0.trans k3 (fun _ _ x => x.elim)
 refine wl_alloc_blk rfl rfl rfl blkT_arr.2.2 fun p14 w15 e18 B16 k17 => ?_
 have g19 := onB_new (Nat.le_of_eq e18.symm)
 have gr20 : Grew w0 noB (onB p14) := Grew.new K13 g19
 clear e18 g19
 have B25 := B10.all k17 Apart.none
 have B26 := B11.all k17 Apart.none
 have B27 := B12.all k17 Apart.none
 have B28 := B4.all k17 id
 have K29 := K13.trans k17 (fun _ _ x => x.elim)
 refine wl_v (.int .i64 (0)) rfl rfl (y_asg rfl rfl ⟨rfl, rfl⟩) ?_
 refine wl_nil fun F30 hF31 => ?_
 have s32 : F30 1 = .int .i64 (p) := (hF31 1).trans rfl
 have s33 : F30 2 = .int .i64 (x) := (hF31 2).trans rfl
 have s34 : F30 3 = .int .i64 (y) := (hF31 3).trans rfl
 have s35 : F30 4 = .int .i64 (mode) := (hF31 4).trans rfl
 have s36 : F30 116 = undef := (hF31 116).trans rfl
 have s37 : F30 5 = .pointer (some ⟨p1, 0, none⟩) := (hF31 5).trans rfl
 have s38 : F30 10 = .pointer (some ⟨p14, 0, none⟩) := (hF31 10).trans rfl
 clear hF31
 refine then_normal ?_
 refine wq_seq ?_
 refine wq_region ?_
 refine wl_v (blkV (fun _ => 0)) rfl rfl (y_buildR (cells := (arrL 16 (fun _ => 0)).toArray) rfl (by kernel_rfl) rfl ⟨rfl, rfl⟩) ?_
 refine wl_alloc_blk rfl rfl rfl blkT_arr.2.2 fun p39 w40 e43 B41 k42 => ?_
 have g44 := onB_new (Nat.le_of_eq e43.symm)
 have gr45 : Grew w0 noB (onB p39) := Grew.new K29 g44
 have ap46 : Apart (onB p39) (T_f0) := Apart.new g44 (B25).live
 have ap47 : Apart (onB p39) (T_f1) := Apart.new g44 (B26).live
 have ap48 : Apart (onB p39) (T_f2) := Apart.new g44 (B27).live
 have ap49 : Apart (onB p39) (onB p1) := Apart.new g44 (onB_live (B28).lt)
 have ap50 : Apart (onB p39) (onB p14) := Apart.new g44 (onB_live (B16).lt)
 clear e43 g44
 have B51 := B25.all k42 Apart.none
 have B52 := B26.all k42 Apart.none
 have B53 := B27.all k42 Apart.none
 have B54 := B28.all k42 id
 have B55 := B16.all k42 id
 have K56 := K29.trans k42 (fun _ _ x => x.elim)
 refine wl_store_blk blkT_arr rfl rfl rfl rfl rfl B41 fun w57 B58 k59 => ?_
 have B60 := B51.all k59 (fun i h x => (((ap46).symm) i h x))
 have B61 := B52.all k59 (fun i h x => (((ap47).symm) i h x))
 have B62 := B53.all k59 (fun i h x => (((ap48).symm) i h x))
 have B63 := B54.all k59 (fun x => (((ap49).symm) p1 rfl x))
 have B64 := B55.all k59 (fun x => (((ap50).symm) p14 rfl x))
 have K65 := K56.trans k59 (Grew.ok (S := fun _ => False) gr45 noB_le)
 refine wl_nil fun F66 hF67 => ?_
 have s68 := (hF67 1).trans s32
 have s69 := (hF67 2).trans s33
 have s70 := (hF67 3).trans s34
 have s71 := (hF67 4).trans s35
 have s72 := (hF67 116).trans s36
 have s73 := (hF67 5).trans s37
 have s74 := (hF67 10).trans s38
 have s75 : F66 12 = .pointer (some ⟨p39, 0, none⟩) := (hF67 12).trans rfl
 clear hF67
 refine then_normal ?_
 refine wq_seq ?_
 refine wq_seq ?_
 by_cases d76 : (checkE (f)) ≠ (0)
 ·skip
  refine wq_region ?_
  refine wl_v (.agg #[.int .i64 ((f).W), .int .i64 ((f).H), f0, f1, f2]) rfl rfl (y_load_stc stcT_frame rfl s73 B63 ⟨rfl, rfl⟩) ?_
  refine wl_call (R := fun v_ w_ => v_ = .int .i64 (checkE (f)) ∧ Kept (fun _ => False) w57 w_) rfl rfl (y_cs rfl rfl rfl (fun _ _ => by kernel_rfl) (ev_func _) (vsC rfl vsN) (fref_check (f) (f0) (f1) (f2) (T_f0) (T_f1) (T_f2) _  B60 B61 B62 ) (fun e_ w_ h_ => ⟨_, h_.1, rfl, h_.2⟩)) ?_
  rintro _ w77 ⟨rfl, k78⟩
  have B83 := B64.all k78 id
  have B84 := B58.all k78 id
  have K85 := K65.trans k78 (fun _ _ x => x.elim)
  refine wl_v (.bool true) rfl rfl (y_neqI rfl rfl rfl (decide_eq_true d76) ⟨rfl, rfl⟩) ?_
  refine wl_v (.bool true) rfl rfl (y_mov rfl rfl ⟨rfl, rfl⟩) ?_
  refine wl_unless 3 false 22 rfl rfl rfl (Or.inl rfl) rfl ?_
  refine wl_unless 3 false 22 rfl rfl rfl (Or.inl rfl) rfl ?_
  refine wl_v (.bool true) rfl rfl (y_pickT rfl rfl rfl ⟨rfl, rfl⟩) ?_
  refine wl_v (.bool true) rfl rfl (y_mov rfl rfl ⟨rfl, rfl⟩) ?_
  refine wl_unless 7 false 26 rfl rfl rfl (Or.inl rfl) rfl ?_
  refine wl_unless 7 false 26 rfl rfl rfl (Or.inl rfl) rfl ?_
  refine wl_v (.bool true) rfl rfl (y_pickT rfl rfl rfl ⟨rfl, rfl⟩) ?_
  refine wl_v (.bool true) rfl rfl (y_mov rfl rfl ⟨rfl, rfl⟩) ?_
  refine wl_unless 11 false 30 rfl rfl rfl (Or.inl rfl) rfl ?_
  refine wl_unless 11 false 30 rfl rfl rfl (Or.inl rfl) rfl ?_
  refine wl_v (.bool true) rfl rfl (y_pickT rfl rfl rfl ⟨rfl, rfl⟩) ?_
  refine wl_v (.bool true) rfl rfl (y_mov rfl rfl ⟨rfl, rfl⟩) ?_
  refine wl_unless 15 false 34 rfl rfl rfl (Or.inl rfl) rfl ?_
  refine wl_unless 15 false 34 rfl rfl rfl (Or.inl rfl) rfl ?_
  refine wl_v (.bool true) rfl rfl (y_pickT rfl rfl rfl ⟨rfl, rfl⟩) ?_
  refine wl_v (.bool true) rfl rfl (y_mov rfl rfl ⟨rfl, rfl⟩) ?_
  refine wl_unless 19 false 38 rfl rfl rfl (Or.inl rfl) rfl ?_
  refine wl_unless 19 false 38 rfl rfl rfl (Or.inl rfl) rfl ?_
  refine wl_v (.bool true) rfl rfl (y_pickT rfl rfl rfl ⟨rfl, rfl⟩) ?_
  refine wl_v (.bool true) rfl rfl (y_mov rfl rfl ⟨rfl, rfl⟩) ?_
  refine wl_unless 23 false 42 rfl rfl rfl (Or.inl rfl) rfl ?_
  refine wl_unless 23 false 42 rfl rfl rfl (Or.inl rfl) rfl ?_
  refine wl_v (.bool true) rfl rfl (y_pickT rfl rfl rfl ⟨rfl, rfl⟩) ?_
  refine wl_nil fun F86 hF87 => ?_
  have s92 := (hF87 116).trans s72
  have s94 := (hF87 10).trans s74
  have s95 := (hF87 12).trans s75
  have s96 : F86 45 = .bool true := (hF87 45).trans rfl
  clear hF87
  refine then_normal ?_
  refine wq_cond (t := true) s96 (fun _ => ?_) (fun e => by cases e)
  refine wq_seq ?_
  have hno : ¬ placeF f p x y := by rintro ⟨h1, h2, h3, h4, h5, h6, h7⟩; first | exact absurd ((checkE_iff f).2 h1) (by assumption) | omega
  refine wq_region ?_
  refine wl_v (blkV (fun _ => 0)) rfl rfl (y_load_blk blkT_arr rfl s95 B84 ⟨rfl, rfl⟩) ?_
  refine wl_store_blk blkT_arr rfl rfl rfl s94 rfl B83 fun w97 B98 k99 => ?_
  have K105 := K85.trans k99 (Grew.ok (S := fun _ => False) gr20 noB_le)
  refine wl_v (.int .i64 (70)) rfl rfl (y_asg rfl rfl ⟨rfl, rfl⟩) ?_
  refine wl_nil fun F106 hF107 => ?_
  have s108 := (hF107 116).trans s92
  have s109 := (hF107 10).trans s94
  have s110 : F106 11 = .int .i64 (70) := (hF107 11).trans rfl
  clear hF107
  refine then_normal ?_
  refine wq_ret ?_
  refine then_ret ?_
  exact end_2 s108 rfl (res_blk blkT_arr rfl s109 B98) (res_tmp (v := .int .i64 (70)) rfl s110) ⟨(by first | rw [(pred_no hno).1, (pred_no hno).2] | rw [(pred_none hpl (by omega)).1, (pred_none hpl (by omega)).2] | rw [(pred_yes hpl (by decide)).1, (pred_yes hpl (by decide)).2]), K105⟩
 ·skip
  by_cases d111 : (p) < (0)
  ·skip
   refine wq_region ?_
   refine wl_v (.agg #[.int .i64 ((f).W), .int .i64 ((f).H), f0, f1, f2]) rfl rfl (y_load_stc stcT_frame rfl s73 B63 ⟨rfl, rfl⟩) ?_
   refine wl_call (R := fun v_ w_ => v_ = .int .i64 (checkE (f)) ∧ Kept (fun _ => False) w57 w_) rfl rfl (y_cs rfl rfl rfl (fun _ _ => by kernel_rfl) (ev_func _) (vsC rfl vsN) (fref_check (f) (f0) (f1) (f2) (T_f0) (T_f1) (T_f2) _  B60 B61 B62 ) (fun e_ w_ h_ => ⟨_, h_.1, rfl, h_.2⟩)) ?_
   rintro _ w112 ⟨rfl, k113⟩
   have B118 := B64.all k113 id
   have B119 := B58.all k113 id
   have K120 := K65.trans k113 (fun _ _ x => x.elim)
   refine wl_v (.bool false) rfl rfl (y_neqI rfl rfl rfl (decide_eq_false d76) ⟨rfl, rfl⟩) ?_
   refine wl_v (.bool false) rfl rfl (y_mov rfl rfl ⟨rfl, rfl⟩) ?_
   refine wl_vw (.int .i64 (p)) 3 false 22 rfl rfl rfl rfl rfl (y_mov rfl s68 ⟨rfl, rfl⟩) ?_
   refine wl_vw (.bool true) 3 false 22 rfl rfl rfl rfl rfl (y_lss rfl rfl rfl (decide_eq_true d111) ⟨rfl, rfl⟩) ?_
   refine wl_v (.bool true) rfl rfl (y_pickF rfl rfl rfl ⟨rfl, rfl⟩) ?_
   refine wl_v (.bool true) rfl rfl (y_mov rfl rfl ⟨rfl, rfl⟩) ?_
   refine wl_unless 7 false 26 rfl rfl rfl (Or.inl rfl) rfl ?_
   refine wl_unless 7 false 26 rfl rfl rfl (Or.inl rfl) rfl ?_
   refine wl_v (.bool true) rfl rfl (y_pickT rfl rfl rfl ⟨rfl, rfl⟩) ?_
   refine wl_v (.bool true) rfl rfl (y_mov rfl rfl ⟨rfl, rfl⟩) ?_
   refine wl_unless 11 false 30 rfl rfl rfl (Or.inl rfl) rfl ?_
   refine wl_unless 11 false 30 rfl rfl rfl (Or.inl rfl) rfl ?_
   refine wl_v (.bool true) rfl rfl (y_pickT rfl rfl rfl ⟨rfl, rfl⟩) ?_
   refine wl_v (.bool true) rfl rfl (y_mov rfl rfl ⟨rfl, rfl⟩) ?_
   refine wl_unless 15 false 34 rfl rfl rfl (Or.inl rfl) rfl ?_
   refine wl_unless 15 false 34 rfl rfl rfl (Or.inl rfl) rfl ?_
   refine wl_v (.bool true) rfl rfl (y_pickT rfl rfl rfl ⟨rfl, rfl⟩) ?_
   refine wl_v (.bool true) rfl rfl (y_mov rfl rfl ⟨rfl, rfl⟩) ?_
   refine wl_unless 19 false 38 rfl rfl rfl (Or.inl rfl) rfl ?_
   refine wl_unless 19 false 38 rfl rfl rfl (Or.inl rfl) rfl ?_
   refine wl_v (.bool true) rfl rfl (y_pickT rfl rfl rfl ⟨rfl, rfl⟩) ?_
   refine wl_v (.bool true) rfl rfl (y_mov rfl rfl ⟨rfl, rfl⟩) ?_
   refine wl_unless 23 false 42 rfl rfl rfl (Or.inl rfl) rfl ?_
   refine wl_unless 23 false 42 rfl rfl rfl (Or.inl rfl) rfl ?_
   refine wl_v (.bool true) rfl rfl (y_pickT rfl rfl rfl ⟨rfl, rfl⟩) ?_
   refine wl_nil fun F121 hF122 => ?_
   have s127 := (hF122 116).trans s72
   have s129 := (hF122 10).trans s74
   have s130 := (hF122 12).trans s75
   have s131 : F121 45 = .bool true := (hF122 45).trans rfl
   clear hF122
   refine then_normal ?_
   refine wq_cond (t := true) s131 (fun _ => ?_) (fun e => by cases e)
   refine wq_seq ?_
   have hno : ¬ placeF f p x y := by rintro ⟨h1, h2, h3, h4, h5, h6, h7⟩; first | exact absurd ((checkE_iff f).2 h1) (by assumption) | omega
   refine wq_region ?_
   refine wl_v (blkV (fun _ => 0)) rfl rfl (y_load_blk blkT_arr rfl s130 B119 ⟨rfl, rfl⟩) ?_
   refine wl_store_blk blkT_arr rfl rfl rfl s129 rfl B118 fun w132 B133 k134 => ?_
   have K140 := K120.trans k134 (Grew.ok (S := fun _ => False) gr20 noB_le)
   refine wl_v (.int .i64 (70)) rfl rfl (y_asg rfl rfl ⟨rfl, rfl⟩) ?_
   refine wl_nil fun F141 hF142 => ?_
   have s143 := (hF142 116).trans s127
   have s144 := (hF142 10).trans s129
   have s145 : F141 11 = .int .i64 (70) := (hF142 11).trans rfl
   clear hF142
   refine then_normal ?_
   refine wq_ret ?_
   refine then_ret ?_
   exact end_2 s143 rfl (res_blk blkT_arr rfl s144 B133) (res_tmp (v := .int .i64 (70)) rfl s145) ⟨(by first | rw [(pred_no hno).1, (pred_no hno).2] | rw [(pred_none hpl (by omega)).1, (pred_none hpl (by omega)).2] | rw [(pred_yes hpl (by decide)).1, (pred_yes hpl (by decide)).2]), K140⟩
  ·skip
   by_cases d146 : (2) < (p)
   ·skip
    refine wq_region ?_
    refine wl_v (.agg #[.int .i64 ((f).W), .int .i64 ((f).H), f0, f1, f2]) rfl rfl (y_load_stc stcT_frame rfl s73 B63 ⟨rfl, rfl⟩) ?_
    refine wl_call (R := fun v_ w_ => v_ = .int .i64 (checkE (f)) ∧ Kept (fun _ => False) w57 w_) rfl rfl (y_cs rfl rfl rfl (fun _ _ => by kernel_rfl) (ev_func _) (vsC rfl vsN) (fref_check (f) (f0) (f1) (f2) (T_f0) (T_f1) (T_f2) _  B60 B61 B62 ) (fun e_ w_ h_ => ⟨_, h_.1, rfl, h_.2⟩)) ?_
    rintro _ w147 ⟨rfl, k148⟩
    have B153 := B64.all k148 id
    have B154 := B58.all k148 id
    have K155 := K65.trans k148 (fun _ _ x => x.elim)
    refine wl_v (.bool false) rfl rfl (y_neqI rfl rfl rfl (decide_eq_false d76) ⟨rfl, rfl⟩) ?_
    refine wl_v (.bool false) rfl rfl (y_mov rfl rfl ⟨rfl, rfl⟩) ?_
    refine wl_vw (.int .i64 (p)) 3 false 22 rfl rfl rfl rfl rfl (y_mov rfl s68 ⟨rfl, rfl⟩) ?_
    refine wl_vw (.bool false) 3 false 22 rfl rfl rfl rfl rfl (y_lss rfl rfl rfl (decide_eq_false d111) ⟨rfl, rfl⟩) ?_
    refine wl_v (.bool false) rfl rfl (y_pickF rfl rfl rfl ⟨rfl, rfl⟩) ?_
    refine wl_v (.bool false) rfl rfl (y_mov rfl rfl ⟨rfl, rfl⟩) ?_
    refine wl_vw (.int .i64 (p)) 7 false 26 rfl rfl rfl rfl rfl (y_mov rfl s68 ⟨rfl, rfl⟩) ?_
    refine wl_vw (.bool true) 7 false 26 rfl rfl rfl rfl rfl (y_gtr rfl rfl rfl (decide_eq_true d146) ⟨rfl, rfl⟩) ?_
    refine wl_v (.bool true) rfl rfl (y_pickF rfl rfl rfl ⟨rfl, rfl⟩) ?_
    refine wl_v (.bool true) rfl rfl (y_mov rfl rfl ⟨rfl, rfl⟩) ?_
    refine wl_unless 11 false 30 rfl rfl rfl (Or.inl rfl) rfl ?_
    refine wl_unless 11 false 30 rfl rfl rfl (Or.inl rfl) rfl ?_
    refine wl_v (.bool true) rfl rfl (y_pickT rfl rfl rfl ⟨rfl, rfl⟩) ?_
    refine wl_v (.bool true) rfl rfl (y_mov rfl rfl ⟨rfl, rfl⟩) ?_
    refine wl_unless 15 false 34 rfl rfl rfl (Or.inl rfl) rfl ?_
    refine wl_unless 15 false 34 rfl rfl rfl (Or.inl rfl) rfl ?_
    refine wl_v (.bool true) rfl rfl (y_pickT rfl rfl rfl ⟨rfl, rfl⟩) ?_
    refine wl_v (.bool true) rfl rfl (y_mov rfl rfl ⟨rfl, rfl⟩) ?_
    refine wl_unless 19 false 38 rfl rfl rfl (Or.inl rfl) rfl ?_
    refine wl_unless 19 false 38 rfl rfl rfl (Or.inl rfl) rfl ?_
    refine wl_v (.bool true) rfl rfl (y_pickT rfl rfl rfl ⟨rfl, rfl⟩) ?_
    refine wl_v (.bool true) rfl rfl (y_mov rfl rfl ⟨rfl, rfl⟩) ?_
    refine wl_unless 23 false 42 rfl rfl rfl (Or.inl rfl) rfl ?_
    refine wl_unless 23 false 42 rfl rfl rfl (Or.inl rfl) rfl ?_
    refine wl_v (.bool true) rfl rfl (y_pickT rfl rfl rfl ⟨rfl, rfl⟩) ?_
    refine wl_nil fun F156 hF157 => ?_
    have s162 := (hF157 116).trans s72
    have s164 := (hF157 10).trans s74
    have s165 := (hF157 12).trans s75
    have s166 : F156 45 = .bool true := (hF157 45).trans rfl
    clear hF157
    refine then_normal ?_
    refine wq_cond (t := true) s166 (fun _ => ?_) (fun e => by cases e)
    refine wq_seq ?_
    have hno : ¬ placeF f p x y := by rintro ⟨h1, h2, h3, h4, h5, h6, h7⟩; first | exact absurd ((checkE_iff f).2 h1) (by assumption) | omega
    refine wq_region ?_
    refine wl_v (blkV (fun _ => 0)) rfl rfl (y_load_blk blkT_arr rfl s165 B154 ⟨rfl, rfl⟩) ?_
    refine wl_store_blk blkT_arr rfl rfl rfl s164 rfl B153 fun w167 B168 k169 => ?_
    have K175 := K155.trans k169 (Grew.ok (S := fun _ => False) gr20 noB_le)
    refine wl_v (.int .i64 (70)) rfl rfl (y_asg rfl rfl ⟨rfl, rfl⟩) ?_
    refine wl_nil fun F176 hF177 => ?_
    have s178 := (hF177 116).trans s162
    have s179 := (hF177 10).trans s164
    have s180 : F176 11 = .int .i64 (70) := (hF177 11).trans rfl
    clear hF177
    refine then_normal ?_
    refine wq_ret ?_
    refine then_ret ?_
    exact end_2 s178 rfl (res_blk blkT_arr rfl s179 B168) (res_tmp (v := .int .i64 (70)) rfl s180) ⟨(by first | rw [(pred_no hno).1, (pred_no hno).2] | rw [(pred_none hpl (by omega)).1, (pred_none hpl (by omega)).2] | rw [(pred_yes hpl (by decide)).1, (pred_yes hpl (by decide)).2]), K175⟩
   ·skip
    by_cases d181 : (x) < (0)
    ·skip
     refine wq_region ?_
     refine wl_v (.agg #[.int .i64 ((f).W), .int .i64 ((f).H), f0, f1, f2]) rfl rfl (y_load_stc stcT_frame rfl s73 B63 ⟨rfl, rfl⟩) ?_
     refine wl_call (R := fun v_ w_ => v_ = .int .i64 (checkE (f)) ∧ Kept (fun _ => False) w57 w_) rfl rfl (y_cs rfl rfl rfl (fun _ _ => by kernel_rfl) (ev_func _) (vsC rfl vsN) (fref_check (f) (f0) (f1) (f2) (T_f0) (T_f1) (T_f2) _  B60 B61 B62 ) (fun e_ w_ h_ => ⟨_, h_.1, rfl, h_.2⟩)) ?_
     rintro _ w182 ⟨rfl, k183⟩
     have B188 := B64.all k183 id
     have B189 := B58.all k183 id
     have K190 := K65.trans k183 (fun _ _ x => x.elim)
     refine wl_v (.bool false) rfl rfl (y_neqI rfl rfl rfl (decide_eq_false d76) ⟨rfl, rfl⟩) ?_
     refine wl_v (.bool false) rfl rfl (y_mov rfl rfl ⟨rfl, rfl⟩) ?_
     refine wl_vw (.int .i64 (p)) 3 false 22 rfl rfl rfl rfl rfl (y_mov rfl s68 ⟨rfl, rfl⟩) ?_
     refine wl_vw (.bool false) 3 false 22 rfl rfl rfl rfl rfl (y_lss rfl rfl rfl (decide_eq_false d111) ⟨rfl, rfl⟩) ?_
     refine wl_v (.bool false) rfl rfl (y_pickF rfl rfl rfl ⟨rfl, rfl⟩) ?_
     refine wl_v (.bool false) rfl rfl (y_mov rfl rfl ⟨rfl, rfl⟩) ?_
     refine wl_vw (.int .i64 (p)) 7 false 26 rfl rfl rfl rfl rfl (y_mov rfl s68 ⟨rfl, rfl⟩) ?_
     refine wl_vw (.bool false) 7 false 26 rfl rfl rfl rfl rfl (y_gtr rfl rfl rfl (decide_eq_false d146) ⟨rfl, rfl⟩) ?_
     refine wl_v (.bool false) rfl rfl (y_pickF rfl rfl rfl ⟨rfl, rfl⟩) ?_
     refine wl_v (.bool false) rfl rfl (y_mov rfl rfl ⟨rfl, rfl⟩) ?_
     refine wl_vw (.int .i64 (x)) 11 false 30 rfl rfl rfl rfl rfl (y_mov rfl s69 ⟨rfl, rfl⟩) ?_
     refine wl_vw (.bool true) 11 false 30 rfl rfl rfl rfl rfl (y_lss rfl rfl rfl (decide_eq_true d181) ⟨rfl, rfl⟩) ?_
     refine wl_v (.bool true) rfl rfl (y_pickF rfl rfl rfl ⟨rfl, rfl⟩) ?_
     refine wl_v (.bool true) rfl rfl (y_mov rfl rfl ⟨rfl, rfl⟩) ?_
     refine wl_unless 15 false 34 rfl rfl rfl (Or.inl rfl) rfl ?_
     refine wl_unless 15 false 34 rfl rfl rfl (Or.inl rfl) rfl ?_
     refine wl_v (.bool true) rfl rfl (y_pickT rfl rfl rfl ⟨rfl, rfl⟩) ?_
     refine wl_v (.bool true) rfl rfl (y_mov rfl rfl ⟨rfl, rfl⟩) ?_
     refine wl_unless 19 false 38 rfl rfl rfl (Or.inl rfl) rfl ?_
     refine wl_unless 19 false 38 rfl rfl rfl (Or.inl rfl) rfl ?_
     refine wl_v (.bool true) rfl rfl (y_pickT rfl rfl rfl ⟨rfl, rfl⟩) ?_
     refine wl_v (.bool true) rfl rfl (y_mov rfl rfl ⟨rfl, rfl⟩) ?_
     refine wl_unless 23 false 42 rfl rfl rfl (Or.inl rfl) rfl ?_
     refine wl_unless 23 false 42 rfl rfl rfl (Or.inl rfl) rfl ?_
     refine wl_v (.bool true) rfl rfl (y_pickT rfl rfl rfl ⟨rfl, rfl⟩) ?_
     refine wl_nil fun F191 hF192 => ?_
     have s197 := (hF192 116).trans s72
     have s199 := (hF192 10).trans s74
     have s200 := (hF192 12).trans s75
     have s201 : F191 45 = .bool true := (hF192 45).trans rfl
     clear hF192
     refine then_normal ?_
     refine wq_cond (t := true) s201 (fun _ => ?_) (fun e => by cases e)
     refine wq_seq ?_
     have hno : ¬ placeF f p x y := by rintro ⟨h1, h2, h3, h4, h5, h6, h7⟩; first | exact absurd ((checkE_iff f).2 h1) (by assumption) | omega
     refine wq_region ?_
     refine wl_v (blkV (fun _ => 0)) rfl rfl (y_load_blk blkT_arr rfl s200 B189 ⟨rfl, rfl⟩) ?_
     refine wl_store_blk blkT_arr rfl rfl rfl s199 rfl B188 fun w202 B203 k204 => ?_
     have K210 := K190.trans k204 (Grew.ok (S := fun _ => False) gr20 noB_le)
     refine wl_v (.int .i64 (70)) rfl rfl (y_asg rfl rfl ⟨rfl, rfl⟩) ?_
     refine wl_nil fun F211 hF212 => ?_
     have s213 := (hF212 116).trans s197
     have s214 := (hF212 10).trans s199
     have s215 : F211 11 = .int .i64 (70) := (hF212 11).trans rfl
     clear hF212
     refine then_normal ?_
     refine wq_ret ?_
     refine then_ret ?_
     exact end_2 s213 rfl (res_blk blkT_arr rfl s214 B203) (res_tmp (v := .int .i64 (70)) rfl s215) ⟨(by first | rw [(pred_no hno).1, (pred_no hno).2] | rw [(pred_none hpl (by omega)).1, (pred_none hpl (by omega)).2] | rw [(pred_yes hpl (by decide)).1, (pred_yes hpl (by decide)).2]), K210⟩
    ·skip
     by_cases d216 : (64) < (x)
     ·skip
      refine wq_region ?_
      refine wl_v (.agg #[.int .i64 ((f).W), .int .i64 ((f).H), f0, f1, f2]) rfl rfl (y_load_stc stcT_frame rfl s73 B63 ⟨rfl, rfl⟩) ?_
      refine wl_call (R := fun v_ w_ => v_ = .int .i64 (checkE (f)) ∧ Kept (fun _ => False) w57 w_) rfl rfl (y_cs rfl rfl rfl (fun _ _ => by kernel_rfl) (ev_func _) (vsC rfl vsN) (fref_check (f) (f0) (f1) (f2) (T_f0) (T_f1) (T_f2) _  B60 B61 B62 ) (fun e_ w_ h_ => ⟨_, h_.1, rfl, h_.2⟩)) ?_
      rintro _ w217 ⟨rfl, k218⟩
      have B223 := B64.all k218 id
      have B224 := B58.all k218 id
      have K225 := K65.trans k218 (fun _ _ x => x.elim)
      refine wl_v (.bool false) rfl rfl (y_neqI rfl rfl rfl (decide_eq_false d76) ⟨rfl, rfl⟩) ?_
      refine wl_v (.bool false) rfl rfl (y_mov rfl rfl ⟨rfl, rfl⟩) ?_
      refine wl_vw (.int .i64 (p)) 3 false 22 rfl rfl rfl rfl rfl (y_mov rfl s68 ⟨rfl, rfl⟩) ?_
      refine wl_vw (.bool false) 3 false 22 rfl rfl rfl rfl rfl (y_lss rfl rfl rfl (decide_eq_false d111) ⟨rfl, rfl⟩) ?_
      refine wl_v (.bool false) rfl rfl (y_pickF rfl rfl rfl ⟨rfl, rfl⟩) ?_
      refine wl_v (.bool false) rfl rfl (y_mov rfl rfl ⟨rfl, rfl⟩) ?_
      refine wl_vw (.int .i64 (p)) 7 false 26 rfl rfl rfl rfl rfl (y_mov rfl s68 ⟨rfl, rfl⟩) ?_
      refine wl_vw (.bool false) 7 false 26 rfl rfl rfl rfl rfl (y_gtr rfl rfl rfl (decide_eq_false d146) ⟨rfl, rfl⟩) ?_
      refine wl_v (.bool false) rfl rfl (y_pickF rfl rfl rfl ⟨rfl, rfl⟩) ?_
      refine wl_v (.bool false) rfl rfl (y_mov rfl rfl ⟨rfl, rfl⟩) ?_
      refine wl_vw (.int .i64 (x)) 11 false 30 rfl rfl rfl rfl rfl (y_mov rfl s69 ⟨rfl, rfl⟩) ?_
      refine wl_vw (.bool false) 11 false 30 rfl rfl rfl rfl rfl (y_lss rfl rfl rfl (decide_eq_false d181) ⟨rfl, rfl⟩) ?_
      refine wl_v (.bool false) rfl rfl (y_pickF rfl rfl rfl ⟨rfl, rfl⟩) ?_
      refine wl_v (.bool false) rfl rfl (y_mov rfl rfl ⟨rfl, rfl⟩) ?_
      refine wl_vw (.int .i64 (x)) 15 false 34 rfl rfl rfl rfl rfl (y_mov rfl s69 ⟨rfl, rfl⟩) ?_
      refine wl_vw (.bool true) 15 false 34 rfl rfl rfl rfl rfl (y_gtr rfl rfl rfl (decide_eq_true d216) ⟨rfl, rfl⟩) ?_
      refine wl_v (.bool true) rfl rfl (y_pickF rfl rfl rfl ⟨rfl, rfl⟩) ?_
      refine wl_v (.bool true) rfl rfl (y_mov rfl rfl ⟨rfl, rfl⟩) ?_
      refine wl_unless 19 false 38 rfl rfl rfl (Or.inl rfl) rfl ?_
      refine wl_unless 19 false 38 rfl rfl rfl (Or.inl rfl) rfl ?_
      refine wl_v (.bool true) rfl rfl (y_pickT rfl rfl rfl ⟨rfl, rfl⟩) ?_
      refine wl_v (.bool true) rfl rfl (y_mov rfl rfl ⟨rfl, rfl⟩) ?_
      refine wl_unless 23 false 42 rfl rfl rfl (Or.inl rfl) rfl ?_
      refine wl_unless 23 false 42 rfl rfl rfl (Or.inl rfl) rfl ?_
      refine wl_v (.bool true) rfl rfl (y_pickT rfl rfl rfl ⟨rfl, rfl⟩) ?_
      refine wl_nil fun F226 hF227 => ?_
      have s232 := (hF227 116).trans s72
      have s234 := (hF227 10).trans s74
      have s235 := (hF227 12).trans s75
      have s236 : F226 45 = .bool true := (hF227 45).trans rfl
      clear hF227
      refine then_normal ?_
      refine wq_cond (t := true) s236 (fun _ => ?_) (fun e => by cases e)
      refine wq_seq ?_
      have hno : ¬ placeF f p x y := by rintro ⟨h1, h2, h3, h4, h5, h6, h7⟩; first | exact absurd ((checkE_iff f).2 h1) (by assumption) | omega
      refine wq_region ?_
      refine wl_v (blkV (fun _ => 0)) rfl rfl (y_load_blk blkT_arr rfl s235 B224 ⟨rfl, rfl⟩) ?_
      refine wl_store_blk blkT_arr rfl rfl rfl s234 rfl B223 fun w237 B238 k239 => ?_
      have K245 := K225.trans k239 (Grew.ok (S := fun _ => False) gr20 noB_le)
      refine wl_v (.int .i64 (70)) rfl rfl (y_asg rfl rfl ⟨rfl, rfl⟩) ?_
      refine wl_nil fun F246 hF247 => ?_
      have s248 := (hF247 116).trans s232
      have s249 := (hF247 10).trans s234
      have s250 : F246 11 = .int .i64 (70) := (hF247 11).trans rfl
      clear hF247
      refine then_normal ?_
      refine wq_ret ?_
      refine then_ret ?_
      exact end_2 s248 rfl (res_blk blkT_arr rfl s249 B238) (res_tmp (v := .int .i64 (70)) rfl s250) ⟨(by first | rw [(pred_no hno).1, (pred_no hno).2] | rw [(pred_none hpl (by omega)).1, (pred_none hpl (by omega)).2] | rw [(pred_yes hpl (by decide)).1, (pred_yes hpl (by decide)).2]), K245⟩
     ·skip
      by_cases d251 : (y) < (0)
      ·skip
       refine wq_region ?_
       refine wl_v (.agg #[.int .i64 ((f).W), .int .i64 ((f).H), f0, f1, f2]) rfl rfl (y_load_stc stcT_frame rfl s73 B63 ⟨rfl, rfl⟩) ?_
       refine wl_call (R := fun v_ w_ => v_ = .int .i64 (checkE (f)) ∧ Kept (fun _ => False) w57 w_) rfl rfl (y_cs rfl rfl rfl (fun _ _ => by kernel_rfl) (ev_func _) (vsC rfl vsN) (fref_check (f) (f0) (f1) (f2) (T_f0) (T_f1) (T_f2) _  B60 B61 B62 ) (fun e_ w_ h_ => ⟨_, h_.1, rfl, h_.2⟩)) ?_
       rintro _ w252 ⟨rfl, k253⟩
       have B258 := B64.all k253 id
       have B259 := B58.all k253 id
       have K260 := K65.trans k253 (fun _ _ x => x.elim)
       refine wl_v (.bool false) rfl rfl (y_neqI rfl rfl rfl (decide_eq_false d76) ⟨rfl, rfl⟩) ?_
       refine wl_v (.bool false) rfl rfl (y_mov rfl rfl ⟨rfl, rfl⟩) ?_
       refine wl_vw (.int .i64 (p)) 3 false 22 rfl rfl rfl rfl rfl (y_mov rfl s68 ⟨rfl, rfl⟩) ?_
       refine wl_vw (.bool false) 3 false 22 rfl rfl rfl rfl rfl (y_lss rfl rfl rfl (decide_eq_false d111) ⟨rfl, rfl⟩) ?_
       refine wl_v (.bool false) rfl rfl (y_pickF rfl rfl rfl ⟨rfl, rfl⟩) ?_
       refine wl_v (.bool false) rfl rfl (y_mov rfl rfl ⟨rfl, rfl⟩) ?_
       refine wl_vw (.int .i64 (p)) 7 false 26 rfl rfl rfl rfl rfl (y_mov rfl s68 ⟨rfl, rfl⟩) ?_
       refine wl_vw (.bool false) 7 false 26 rfl rfl rfl rfl rfl (y_gtr rfl rfl rfl (decide_eq_false d146) ⟨rfl, rfl⟩) ?_
       refine wl_v (.bool false) rfl rfl (y_pickF rfl rfl rfl ⟨rfl, rfl⟩) ?_
       refine wl_v (.bool false) rfl rfl (y_mov rfl rfl ⟨rfl, rfl⟩) ?_
       refine wl_vw (.int .i64 (x)) 11 false 30 rfl rfl rfl rfl rfl (y_mov rfl s69 ⟨rfl, rfl⟩) ?_
       refine wl_vw (.bool false) 11 false 30 rfl rfl rfl rfl rfl (y_lss rfl rfl rfl (decide_eq_false d181) ⟨rfl, rfl⟩) ?_
       refine wl_v (.bool false) rfl rfl (y_pickF rfl rfl rfl ⟨rfl, rfl⟩) ?_
       refine wl_v (.bool false) rfl rfl (y_mov rfl rfl ⟨rfl, rfl⟩) ?_
       refine wl_vw (.int .i64 (x)) 15 false 34 rfl rfl rfl rfl rfl (y_mov rfl s69 ⟨rfl, rfl⟩) ?_
       refine wl_vw (.bool false) 15 false 34 rfl rfl rfl rfl rfl (y_gtr rfl rfl rfl (decide_eq_false d216) ⟨rfl, rfl⟩) ?_
       refine wl_v (.bool false) rfl rfl (y_pickF rfl rfl rfl ⟨rfl, rfl⟩) ?_
       refine wl_v (.bool false) rfl rfl (y_mov rfl rfl ⟨rfl, rfl⟩) ?_
       refine wl_vw (.int .i64 (y)) 19 false 38 rfl rfl rfl rfl rfl (y_mov rfl s70 ⟨rfl, rfl⟩) ?_
       refine wl_vw (.bool true) 19 false 38 rfl rfl rfl rfl rfl (y_lss rfl rfl rfl (decide_eq_true d251) ⟨rfl, rfl⟩) ?_
       refine wl_v (.bool true) rfl rfl (y_pickF rfl rfl rfl ⟨rfl, rfl⟩) ?_
       refine wl_v (.bool true) rfl rfl (y_mov rfl rfl ⟨rfl, rfl⟩) ?_
       refine wl_unless 23 false 42 rfl rfl rfl (Or.inl rfl) rfl ?_
       refine wl_unless 23 false 42 rfl rfl rfl (Or.inl rfl) rfl ?_
       refine wl_v (.bool true) rfl rfl (y_pickT rfl rfl rfl ⟨rfl, rfl⟩) ?_
       refine wl_nil fun F261 hF262 => ?_
       have s267 := (hF262 116).trans s72
       have s269 := (hF262 10).trans s74
       have s270 := (hF262 12).trans s75
       have s271 : F261 45 = .bool true := (hF262 45).trans rfl
       clear hF262
       refine then_normal ?_
       refine wq_cond (t := true) s271 (fun _ => ?_) (fun e => by cases e)
       refine wq_seq ?_
       have hno : ¬ placeF f p x y := by rintro ⟨h1, h2, h3, h4, h5, h6, h7⟩; first | exact absurd ((checkE_iff f).2 h1) (by assumption) | omega
       refine wq_region ?_
       refine wl_v (blkV (fun _ => 0)) rfl rfl (y_load_blk blkT_arr rfl s270 B259 ⟨rfl, rfl⟩) ?_
       refine wl_store_blk blkT_arr rfl rfl rfl s269 rfl B258 fun w272 B273 k274 => ?_
       have K280 := K260.trans k274 (Grew.ok (S := fun _ => False) gr20 noB_le)
       refine wl_v (.int .i64 (70)) rfl rfl (y_asg rfl rfl ⟨rfl, rfl⟩) ?_
       refine wl_nil fun F281 hF282 => ?_
       have s283 := (hF282 116).trans s267
       have s284 := (hF282 10).trans s269
       have s285 : F281 11 = .int .i64 (70) := (hF282 11).trans rfl
       clear hF282
       refine then_normal ?_
       refine wq_ret ?_
       refine then_ret ?_
       exact end_2 s283 rfl (res_blk blkT_arr rfl s284 B273) (res_tmp (v := .int .i64 (70)) rfl s285) ⟨(by first | rw [(pred_no hno).1, (pred_no hno).2] | rw [(pred_none hpl (by omega)).1, (pred_none hpl (by omega)).2] | rw [(pred_yes hpl (by decide)).1, (pred_yes hpl (by decide)).2]), K280⟩
      ·skip
       refine wq_region ?_
       refine wl_v (.agg #[.int .i64 ((f).W), .int .i64 ((f).H), f0, f1, f2]) rfl rfl (y_load_stc stcT_frame rfl s73 B63 ⟨rfl, rfl⟩) ?_
       refine wl_call (R := fun v_ w_ => v_ = .int .i64 (checkE (f)) ∧ Kept (fun _ => False) w57 w_) rfl rfl (y_cs rfl rfl rfl (fun _ _ => by kernel_rfl) (ev_func _) (vsC rfl vsN) (fref_check (f) (f0) (f1) (f2) (T_f0) (T_f1) (T_f2) _  B60 B61 B62 ) (fun e_ w_ h_ => ⟨_, h_.1, rfl, h_.2⟩)) ?_
       rintro _ w286 ⟨rfl, k287⟩
       have B288 := B60.all k287 Apart.none
       have B289 := B61.all k287 Apart.none
       have B290 := B62.all k287 Apart.none
       have B291 := B63.all k287 id
       have B292 := B64.all k287 id
       have B293 := B58.all k287 id
       have K294 := K65.trans k287 (fun _ _ x => x.elim)
       refine wl_v (.bool false) rfl rfl (y_neqI rfl rfl rfl (decide_eq_false d76) ⟨rfl, rfl⟩) ?_
       refine wl_v (.bool false) rfl rfl (y_mov rfl rfl ⟨rfl, rfl⟩) ?_
       refine wl_vw (.int .i64 (p)) 3 false 22 rfl rfl rfl rfl rfl (y_mov rfl s68 ⟨rfl, rfl⟩) ?_
       refine wl_vw (.bool false) 3 false 22 rfl rfl rfl rfl rfl (y_lss rfl rfl rfl (decide_eq_false d111) ⟨rfl, rfl⟩) ?_
       refine wl_v (.bool false) rfl rfl (y_pickF rfl rfl rfl ⟨rfl, rfl⟩) ?_
       refine wl_v (.bool false) rfl rfl (y_mov rfl rfl ⟨rfl, rfl⟩) ?_
       refine wl_vw (.int .i64 (p)) 7 false 26 rfl rfl rfl rfl rfl (y_mov rfl s68 ⟨rfl, rfl⟩) ?_
       refine wl_vw (.bool false) 7 false 26 rfl rfl rfl rfl rfl (y_gtr rfl rfl rfl (decide_eq_false d146) ⟨rfl, rfl⟩) ?_
       refine wl_v (.bool false) rfl rfl (y_pickF rfl rfl rfl ⟨rfl, rfl⟩) ?_
       refine wl_v (.bool false) rfl rfl (y_mov rfl rfl ⟨rfl, rfl⟩) ?_
       refine wl_vw (.int .i64 (x)) 11 false 30 rfl rfl rfl rfl rfl (y_mov rfl s69 ⟨rfl, rfl⟩) ?_
       refine wl_vw (.bool false) 11 false 30 rfl rfl rfl rfl rfl (y_lss rfl rfl rfl (decide_eq_false d181) ⟨rfl, rfl⟩) ?_
       refine wl_v (.bool false) rfl rfl (y_pickF rfl rfl rfl ⟨rfl, rfl⟩) ?_
       refine wl_v (.bool false) rfl rfl (y_mov rfl rfl ⟨rfl, rfl⟩) ?_
       refine wl_vw (.int .i64 (x)) 15 false 34 rfl rfl rfl rfl rfl (y_mov rfl s69 ⟨rfl, rfl⟩) ?_
       refine wl_vw (.bool false) 15 false 34 rfl rfl rfl rfl rfl (y_gtr rfl rfl rfl (decide_eq_false d216) ⟨rfl, rfl⟩) ?_
       refine wl_v (.bool false) rfl rfl (y_pickF rfl rfl rfl ⟨rfl, rfl⟩) ?_
       refine wl_v (.bool false) rfl rfl (y_mov rfl rfl ⟨rfl, rfl⟩) ?_
       refine wl_vw (.int .i64 (y)) 19 false 38 rfl rfl rfl rfl rfl (y_mov rfl s70 ⟨rfl, rfl⟩) ?_
       refine wl_vw (.bool false) 19 false 38 rfl rfl rfl rfl rfl (y_lss rfl rfl rfl (decide_eq_false d251) ⟨rfl, rfl⟩) ?_
       refine wl_v (.bool false) rfl rfl (y_pickF rfl rfl rfl ⟨rfl, rfl⟩) ?_
       refine wl_v (.bool false) rfl rfl (y_mov rfl rfl ⟨rfl, rfl⟩) ?_
       refine wl_vw (.int .i64 (y)) 23 false 42 rfl rfl rfl rfl rfl (y_mov rfl s70 ⟨rfl, rfl⟩) ?_
       refine wl_vw (.bool (decide ((64) < (y)))) 23 false 42 rfl rfl rfl rfl rfl (y_gtr rfl rfl rfl rfl ⟨rfl, rfl⟩) ?_
       refine wl_v (.bool (decide ((64) < (y)))) rfl rfl (y_pickF rfl rfl rfl ⟨rfl, rfl⟩) ?_
       refine wl_nil fun F295 hF296 => ?_
       have s297 := (hF296 1).trans s68
       have s298 := (hF296 2).trans s69
       have s299 := (hF296 3).trans s70
       have s300 := (hF296 4).trans s71
       have s301 := (hF296 116).trans s72
       have s302 := (hF296 5).trans s73
       have s303 := (hF296 10).trans s74
       have s304 := (hF296 12).trans s75
       have s305 : F295 45 = .bool (decide ((64) < (y))) := (hF296 45).trans rfl
       clear hF296
       refine then_normal ?_
       refine wq_cond s305 (fun c306 => ?_) (fun c306 => ?_)
       ·replace c306 := of_decide_eq_true c306
        refine wq_seq ?_
        have hno : ¬ placeF f p x y := by rintro ⟨h1, h2, h3, h4, h5, h6, h7⟩; first | exact absurd ((checkE_iff f).2 h1) (by assumption) | omega
        refine wq_region ?_
        refine wl_v (blkV (fun _ => 0)) rfl rfl (y_load_blk blkT_arr rfl s304 B293 ⟨rfl, rfl⟩) ?_
        refine wl_store_blk blkT_arr rfl rfl rfl s303 rfl B292 fun w307 B308 k309 => ?_
        have K315 := K294.trans k309 (Grew.ok (S := fun _ => False) gr20 noB_le)
        refine wl_v (.int .i64 (70)) rfl rfl (y_asg rfl rfl ⟨rfl, rfl⟩) ?_
        refine wl_nil fun F316 hF317 => ?_
        have s318 := (hF317 116).trans s301
        have s319 := (hF317 10).trans s303
        have s320 : F316 11 = .int .i64 (70) := (hF317 11).trans rfl
        clear hF317
        refine then_normal ?_
        refine wq_ret ?_
        refine then_ret ?_
        exact end_2 s318 rfl (res_blk blkT_arr rfl s319 B308) (res_tmp (v := .int .i64 (70)) rfl s320) ⟨(by first | rw [(pred_no hno).1, (pred_no hno).2] | rw [(pred_none hpl (by omega)).1, (pred_none hpl (by omega)).2] | rw [(pred_yes hpl (by decide)).1, (pred_yes hpl (by decide)).2]), K315⟩
       ·replace c306 := of_decide_eq_false c306
        refine wq_skip ?_
        refine then_normal ?_
        refine wq_seq ?_
        refine wq_seq ?_
        have hpl : placeF f p x y := ⟨(checkE_iff f).1 (by first | assumption | (apply Decidable.byContradiction; assumption)), by omega, by omega, by omega, by omega, by omega, by omega⟩
        by_cases d321 : (mode) < (0)
        ·skip
         refine wq_region ?_
         refine wl_v (.int .i64 (mode)) rfl rfl (y_mov rfl s300 ⟨rfl, rfl⟩) ?_
         refine wl_v (.bool true) rfl rfl (y_lss rfl rfl rfl (decide_eq_true d321) ⟨rfl, rfl⟩) ?_
         refine wl_v (.bool true) rfl rfl (y_mov rfl rfl ⟨rfl, rfl⟩) ?_
         refine wl_unless 2 false 49 rfl rfl rfl (Or.inl rfl) rfl ?_
         refine wl_unless 2 false 49 rfl rfl rfl (Or.inl rfl) rfl ?_
         refine wl_v (.bool true) rfl rfl (y_pickT rfl rfl rfl ⟨rfl, rfl⟩) ?_
         refine wl_nil fun F322 hF323 => ?_
         have s328 := (hF323 116).trans s301
         have s330 := (hF323 10).trans s303
         have s331 := (hF323 12).trans s304
         have s332 : F322 52 = .bool true := (hF323 52).trans rfl
         clear hF323
         refine then_normal ?_
         refine wq_cond (t := true) s332 (fun _ => ?_) (fun e => by cases e)
         refine wq_seq ?_
         refine wq_region ?_
         refine wl_v (blkV (fun _ => 0)) rfl rfl (y_load_blk blkT_arr rfl s331 B293 ⟨rfl, rfl⟩) ?_
         refine wl_store_blk blkT_arr rfl rfl rfl s330 rfl B292 fun w333 B334 k335 => ?_
         have K341 := K294.trans k335 (Grew.ok (S := fun _ => False) gr20 noB_le)
         refine wl_v (.int .i64 (80)) rfl rfl (y_asg rfl rfl ⟨rfl, rfl⟩) ?_
         refine wl_nil fun F342 hF343 => ?_
         have s344 := (hF343 116).trans s328
         have s345 := (hF343 10).trans s330
         have s346 : F342 11 = .int .i64 (80) := (hF343 11).trans rfl
         clear hF343
         refine then_normal ?_
         refine wq_ret ?_
         refine then_ret ?_
         exact end_2 s344 rfl (res_blk blkT_arr rfl s345 B334) (res_tmp (v := .int .i64 (80)) rfl s346) ⟨(by first | rw [(pred_no hno).1, (pred_no hno).2] | rw [(pred_none hpl (by omega)).1, (pred_none hpl (by omega)).2] | rw [(pred_yes hpl (by decide)).1, (pred_yes hpl (by decide)).2]), K341⟩
        ·skip
         refine wq_region ?_
         refine wl_v (.int .i64 (mode)) rfl rfl (y_mov rfl s300 ⟨rfl, rfl⟩) ?_
         refine wl_v (.bool false) rfl rfl (y_lss rfl rfl rfl (decide_eq_false d321) ⟨rfl, rfl⟩) ?_
         refine wl_v (.bool false) rfl rfl (y_mov rfl rfl ⟨rfl, rfl⟩) ?_
         refine wl_vw (.int .i64 (mode)) 2 false 49 rfl rfl rfl rfl rfl (y_mov rfl s300 ⟨rfl, rfl⟩) ?_
         refine wl_vw (.bool (decide ((3) < (mode)))) 2 false 49 rfl rfl rfl rfl rfl (y_gtr rfl rfl rfl rfl ⟨rfl, rfl⟩) ?_
         refine wl_v (.bool (decide ((3) < (mode)))) rfl rfl (y_pickF rfl rfl rfl ⟨rfl, rfl⟩) ?_
         refine wl_nil fun F347 hF348 => ?_
         have s349 := (hF348 1).trans s297
         have s350 := (hF348 2).trans s298
         have s351 := (hF348 3).trans s299
         have s352 := (hF348 4).trans s300
         have s353 := (hF348 116).trans s301
         have s354 := (hF348 5).trans s302
         have s355 := (hF348 10).trans s303
         have s356 := (hF348 12).trans s304
         have s357 : F347 52 = .bool (decide ((3) < (mode))) := (hF348 52).trans rfl
         clear hF348
         refine then_normal ?_
         refine wq_cond s357 (fun c358 => ?_) (fun c358 => ?_)
         ·replace c358 := of_decide_eq_true c358
          refine wq_seq ?_
          refine wq_region ?_
          refine wl_v (blkV (fun _ => 0)) rfl rfl (y_load_blk blkT_arr rfl s356 B293 ⟨rfl, rfl⟩) ?_
          refine wl_store_blk blkT_arr rfl rfl rfl s355 rfl B292 fun w359 B360 k361 => ?_
          have K367 := K294.trans k361 (Grew.ok (S := fun _ => False) gr20 noB_le)
          refine wl_v (.int .i64 (80)) rfl rfl (y_asg rfl rfl ⟨rfl, rfl⟩) ?_
          refine wl_nil fun F368 hF369 => ?_
          have s370 := (hF369 116).trans s353
          have s371 := (hF369 10).trans s355
          have s372 : F368 11 = .int .i64 (80) := (hF369 11).trans rfl
          clear hF369
          refine then_normal ?_
          refine wq_ret ?_
          refine then_ret ?_
          exact end_2 s370 rfl (res_blk blkT_arr rfl s371 B360) (res_tmp (v := .int .i64 (80)) rfl s372) ⟨(by first | rw [(pred_no hno).1, (pred_no hno).2] | rw [(pred_none hpl (by omega)).1, (pred_none hpl (by omega)).2] | rw [(pred_yes hpl (by decide)).1, (pred_yes hpl (by decide)).2]), K367⟩
         ·replace c358 := of_decide_eq_false c358
          refine wq_skip ?_
          refine then_normal ?_
          refine wq_seq ?_
          refine wq_region ?_
          refine wl_v (.int .i64 (4)) rfl rfl (y_asg rfl rfl ⟨rfl, rfl⟩) ?_
          refine wl_nil fun F373 hF374 => ?_
          have s375 := (hF374 1).trans s349
          have s376 := (hF374 2).trans s350
          have s377 := (hF374 3).trans s351
          have s378 := (hF374 4).trans s352
          have s379 := (hF374 116).trans s353
          have s380 := (hF374 5).trans s354
          have s381 := (hF374 10).trans s355
          have s382 := (hF374 12).trans s356
          have s383 : F373 13 = .int .i64 (4) := (hF374 13).trans rfl
          clear hF374
          refine then_normal ?_
          refine wq_seq ?_
          refine wq_seq ?_
          refine wq_region ?_
          refine wl_v (.int .i64 (0)) rfl rfl (y_asg rfl rfl ⟨rfl, rfl⟩) ?_
          refine wl_nil fun F384 hF385 => ?_
          have s386 := (hF385 1).trans s375
          have s387 := (hF385 2).trans s376
          have s388 := (hF385 3).trans s377
          have s389 := (hF385 4).trans s378
          have s390 := (hF385 116).trans s379
          have s391 := (hF385 5).trans s380
          have s392 := (hF385 10).trans s381
          have s393 := (hF385 12).trans s382
          have s394 := (hF385 13).trans s383
          have s395 : F384 14 = .int .i64 (0) := (hF385 14).trans rfl
          clear hF385
          refine then_normal ?_
          refine wq_block ?_
          refine wq_loop (fun nn FF ww => ∃ (i : Nat), (i ≤ 4) ∧ nn = 4 - i ∧ FF 1 = .int .i64 (p) ∧ FF 2 = .int .i64 (x) ∧ FF 3 = .int .i64 (y) ∧ FF 4 = .int .i64 (mode) ∧ FF 5 = .pointer (some ⟨p1, 0, none⟩) ∧ FF 10 = .pointer (some ⟨p14, 0, none⟩) ∧ FF 12 = .pointer (some ⟨p39, 0, none⟩) ∧ FF 116 = undef ∧ FF 13 = .int .i64 (sumTo f p x y i) ∧ FF 14 = .int .i64 (((i : Nat) : Int)) ∧ Kept (fun _ => False) w0 ww ∧ Byt ww (T_f0) f0 ((f).p0) ∧ Byt ww (T_f1) f1 ((f).p1) ∧ Byt ww (T_f2) f2 ((f).p2) ∧ Stc ww p1 25 [.int .i64 ((f).W), .int .i64 ((f).H), f0, f1, f2] ∧ Blk ww p14 28 (fun _ => 0) ∧ Blk ww p39 28 (fun _ => 0)) (4 - (0)) ⟨0, by omega, rfl, s386, s387, s388, s389, s391, s392, s393, s390, s394, s395, K294, B288, B289, B290, B291, B292, B293⟩ ?_
          rintro n399 F396 w397 ⟨i, i400, hn399, s401, s402, s403, s404, s405, s406, s407, s408, s409, s410, K398, B411, B412, B413, B414, B415, B416⟩
          refine wq_seq ?_
          refine wq_seq ?_
          refine wq_region ?_
          refine wl_v (.int .i64 (((i : Nat) : Int))) rfl rfl (y_mov rfl s410 ⟨rfl, rfl⟩) ?_
          refine wl_v (.bool (decide ((((i : Nat) : Int)) < (4)))) rfl rfl (y_lss rfl rfl rfl rfl ⟨rfl, rfl⟩) ?_
          refine wl_nil fun F417 hF418 => ?_
          have s419 := (hF418 1).trans s401
          have s420 := (hF418 2).trans s402
          have s421 := (hF418 3).trans s403
          have s422 := (hF418 4).trans s404
          have s423 := (hF418 5).trans s405
          have s424 := (hF418 10).trans s406
          have s425 := (hF418 12).trans s407
          have s426 := (hF418 116).trans s408
          have s427 := (hF418 13).trans s409
          have s428 := (hF418 14).trans s410
          have s429 : F417 55 = .bool (decide ((((i : Nat) : Int)) < (4))) := (hF418 55).trans rfl
          clear hF418
          refine then_normal ?_
          refine wq_cond s429 (fun c430 => ?_) (fun c430 => ?_)
          ·replace c430 := of_decide_eq_true c430
           refine wq_skip ?_
           refine then_normal ?_
           refine wq_seq ?_
           refine wq_block ?_
           have hs := sumTo_le hb p x y i
           have ha := above_le hb p x y (i : Nat)
           have hl := left_le hb p x y (i : Nat)
           refine wq_tail 15 [some 58, some 59, some 60, some 61, some 62, some 63, some 64, some 65, some 66, some 67, some 68, some 69, some 70, some 71, some 72] [Pd.eq (.int .i64 (sumTo f p x y i)), Pd.eq (.agg #[.int .i64 ((f).W), .int .i64 ((f).H), f0, f1, f2]), Pd.eq (.int .i64 (p)), Pd.eq (.int .i64 (x)), Pd.eq (.int .i64 (y)), Pd.eq (.int .i64 (((i : Nat) : Int))), Pd.eq (.int .i64 (aboveF (f) (p) (x) (y) (((i : Nat) : Int)))), Pd.eq (.int .i64 ((sumTo f p x y i) + (aboveF (f) (p) (x) (y) (((i : Nat) : Int))))), Pd.eq (.agg #[.int .i64 ((f).W), .int .i64 ((f).H), f0, f1, f2]), Pd.eq (.int .i64 (p)), Pd.eq (.int .i64 (x)), Pd.eq (.int .i64 (y)), Pd.eq (.int .i64 (((i : Nat) : Int))), Pd.eq (.int .i64 (leftF (f) (p) (x) (y) (((i : Nat) : Int)))), Pd.eq (.int .i64 (((sumTo f p x y i) + (aboveF (f) (p) (x) (y) (((i : Nat) : Int)))) + (leftF (f) (p) (x) (y) (((i : Nat) : Int)))))] (by kernel_rfl) (by kernel_rfl) (by kernel_rfl) ?_ ?_
           ·refine stepsF_cons ?_ ?_
            ·refine StepF.one rfl fun F_ w_ hR hout hD => ?_
             exact (y_mov rfl ((hout 13 rfl (by decide)).trans s427) ⟨rfl, Kept.refl _ _⟩)
            refine stepsF_cons ?_ ?_
            ·refine StepF.one rfl fun F_ w_ hR hout hD => ?_
             exact (y_load_stc stcT_frame rfl ((hout 5 rfl (by decide)).trans s423) (B414.all hR id) ⟨rfl, Kept.refl _ _⟩)
            refine stepsF_cons ?_ ?_
            ·refine StepF.one rfl fun F_ w_ hR hout hD => ?_
             exact (y_mov rfl ((hout 1 rfl (by decide)).trans s419) ⟨rfl, Kept.refl _ _⟩)
            refine stepsF_cons ?_ ?_
            ·refine StepF.one rfl fun F_ w_ hR hout hD => ?_
             exact (y_mov rfl ((hout 2 rfl (by decide)).trans s420) ⟨rfl, Kept.refl _ _⟩)
            refine stepsF_cons ?_ ?_
            ·refine StepF.one rfl fun F_ w_ hR hout hD => ?_
             exact (y_mov rfl ((hout 3 rfl (by decide)).trans s421) ⟨rfl, Kept.refl _ _⟩)
            refine stepsF_cons ?_ ?_
            ·refine StepF.one rfl fun F_ w_ hR hout hD => ?_
             exact (y_mov rfl ((hout 14 rfl (by decide)).trans s428) ⟨rfl, Kept.refl _ _⟩)
            refine stepsF_cons ?_ ?_
            ·refine StepF.one rfl fun F_ w_ hR hout hD => ?_
             have g59 : F_ 59 = .agg #[.int .i64 ((f).W), .int .i64 ((f).H), f0, f1, f2] := (hD.get 0 rfl rfl rfl)
             have g60 : F_ 60 = .int .i64 (p) := (hD.get 1 rfl rfl rfl)
             have g61 : F_ 61 = .int .i64 (x) := (hD.get 2 rfl rfl rfl)
             have g62 : F_ 62 = .int .i64 (y) := (hD.get 3 rfl rfl rfl)
             have g63 : F_ 63 = .int .i64 (((i : Nat) : Int)) := (hD.get 4 rfl rfl rfl)
             exact (y_cs rfl rfl rfl (fun _ _ => by kernel_rfl) (ev_func _) (vsC g59 (vsC g60 (vsC g61 (vsC g62 (vsC g63 vsN))))) (iref_above (p) (x) (y) (((i : Nat) : Int)) (f) (f0) (f1) (f2) (T_f0) (T_f1) (T_f2) _ (by omega) (by omega) (by omega) (B411.all hR Apart.none) (B412.all hR Apart.none) (B413.all hR Apart.none) ) (fun e_ w_ h_ => ⟨_, h_.1, rfl, h_.2⟩))
            refine stepsF_cons ?_ ?_
            ·refine StepF.one rfl fun F_ w_ hR hout hD => ?_
             have g58 : F_ 58 = .int .i64 (sumTo f p x y i) := (hD.get 0 rfl rfl rfl)
             have g64 : F_ 64 = .int .i64 (aboveF (f) (p) (x) (y) (((i : Nat) : Int))) := (hD.get 1 rfl rfl rfl)
             exact (y_add rfl g58 g64 (i64_i rfl (by omega)) ⟨rfl, Kept.refl _ _⟩)
            refine stepsF_cons ?_ ?_
            ·refine StepF.one rfl fun F_ w_ hR hout hD => ?_
             exact (y_load_stc stcT_frame rfl ((hout 5 rfl (by decide)).trans s423) (B414.all hR id) ⟨rfl, Kept.refl _ _⟩)
            refine stepsF_cons ?_ ?_
            ·refine StepF.one rfl fun F_ w_ hR hout hD => ?_
             exact (y_mov rfl ((hout 1 rfl (by decide)).trans s419) ⟨rfl, Kept.refl _ _⟩)
            refine stepsF_cons ?_ ?_
            ·refine StepF.one rfl fun F_ w_ hR hout hD => ?_
             exact (y_mov rfl ((hout 2 rfl (by decide)).trans s420) ⟨rfl, Kept.refl _ _⟩)
            refine stepsF_cons ?_ ?_
            ·refine StepF.one rfl fun F_ w_ hR hout hD => ?_
             exact (y_mov rfl ((hout 3 rfl (by decide)).trans s421) ⟨rfl, Kept.refl _ _⟩)
            refine stepsF_cons ?_ ?_
            ·refine StepF.one rfl fun F_ w_ hR hout hD => ?_
             exact (y_mov rfl ((hout 14 rfl (by decide)).trans s428) ⟨rfl, Kept.refl _ _⟩)
            refine stepsF_cons ?_ ?_
            ·refine StepF.one rfl fun F_ w_ hR hout hD => ?_
             have g66 : F_ 66 = .agg #[.int .i64 ((f).W), .int .i64 ((f).H), f0, f1, f2] := (hD.get 0 rfl rfl rfl)
             have g67 : F_ 67 = .int .i64 (p) := (hD.get 1 rfl rfl rfl)
             have g68 : F_ 68 = .int .i64 (x) := (hD.get 2 rfl rfl rfl)
             have g69 : F_ 69 = .int .i64 (y) := (hD.get 3 rfl rfl rfl)
             have g70 : F_ 70 = .int .i64 (((i : Nat) : Int)) := (hD.get 4 rfl rfl rfl)
             exact (y_cs rfl rfl rfl (fun _ _ => by kernel_rfl) (ev_func _) (vsC g66 (vsC g67 (vsC g68 (vsC g69 (vsC g70 vsN))))) (iref_left (p) (x) (y) (((i : Nat) : Int)) (f) (f0) (f1) (f2) (T_f0) (T_f1) (T_f2) _ (by omega) (by omega) (by omega) (B411.all hR Apart.none) (B412.all hR Apart.none) (B413.all hR Apart.none) ) (fun e_ w_ h_ => ⟨_, h_.1, rfl, h_.2⟩))
            refine stepsF_cons ?_ ?_
            ·refine StepF.one rfl fun F_ w_ hR hout hD => ?_
             have g65 : F_ 65 = .int .i64 ((sumTo f p x y i) + (aboveF (f) (p) (x) (y) (((i : Nat) : Int)))) := (hD.get 0 rfl rfl rfl)
             have g71 : F_ 71 = .int .i64 (leftF (f) (p) (x) (y) (((i : Nat) : Int))) := (hD.get 1 rfl rfl rfl)
             exact (y_add rfl g65 g71 (i64_i rfl (by omega)) ⟨rfl, Kept.refl _ _⟩)
            exact stepsF_nil
           intro v431 F432 w433 k434 G435 hF436
           have B438 := B411.all k434 Apart.none
           have B439 := B412.all k434 Apart.none
           have B440 := B413.all k434 Apart.none
           have B441 := B414.all k434 id
           have B442 := B415.all k434 id
           have B443 := B416.all k434 id
           have K444 := K398.trans k434 (fun _ _ x => x.elim)
           have s445 := (hF436 1).trans s419
           have s446 := (hF436 2).trans s420
           have s447 := (hF436 3).trans s421
           have s448 := (hF436 4).trans s422
           have s449 := (hF436 5).trans s423
           have s450 := (hF436 10).trans s424
           have s451 := (hF436 12).trans s425
           have s452 := (hF436 116).trans s426
           have s454 := (hF436 14).trans s428
           have s455 : F432 72 = .int .i64 (((sumTo f p x y i) + (aboveF (f) (p) (x) (y) (((i : Nat) : Int)))) + (leftF (f) (p) (x) (y) (((i : Nat) : Int)))) := (hF436 72).trans (G435 14 (by decide))
           clear G435 hF436
           refine wl_v (.int .i64 (((sumTo f p x y i) + (aboveF (f) (p) (x) (y) (((i : Nat) : Int)))) + (leftF (f) (p) (x) (y) (((i : Nat) : Int))))) rfl rfl (y_asg rfl s455 ⟨rfl, rfl⟩) ?_
           refine wl_nil fun F456 hF457 => ?_
           have s458 := (hF457 1).trans s445
           have s459 := (hF457 2).trans s446
           have s460 := (hF457 3).trans s447
           have s461 := (hF457 4).trans s448
           have s462 := (hF457 5).trans s449
           have s463 := (hF457 10).trans s450
           have s464 := (hF457 12).trans s451
           have s465 := (hF457 116).trans s452
           have s466 := (hF457 14).trans s454
           have s467 : F456 13 = .int .i64 (((sumTo f p x y i) + (aboveF (f) (p) (x) (y) (((i : Nat) : Int)))) + (leftF (f) (p) (x) (y) (((i : Nat) : Int)))) := (hF457 13).trans rfl
           clear hF457
           refine in_normal ?_
           refine then_normal ?_
           refine wq_region ?_
           refine wl_v (.int .i64 (((i : Nat) : Int))) rfl rfl (y_mov rfl s466 ⟨rfl, rfl⟩) ?_
           refine wl_v (.int .i64 (((i + 1 : Nat) : Int))) rfl rfl (y_add rfl rfl rfl (i64_n (by omega) (by omega)) ⟨rfl, rfl⟩) ?_
           refine wl_v (.int .i64 (((i + 1 : Nat) : Int))) rfl rfl (y_asg rfl rfl ⟨rfl, rfl⟩) ?_
           refine wl_nil fun F468 hF469 => ?_
           have s470 := (hF469 1).trans s458
           have s471 := (hF469 2).trans s459
           have s472 := (hF469 3).trans s460
           have s473 := (hF469 4).trans s461
           have s474 := (hF469 5).trans s462
           have s475 := (hF469 10).trans s463
           have s476 := (hF469 12).trans s464
           have s477 := (hF469 116).trans s465
           have s478 := (hF469 13).trans s467
           have s479 : F468 14 = .int .i64 (((i + 1 : Nat) : Int)) := (hF469 14).trans rfl
           clear hF469
           exact then_normal ⟨(4 - (i + 1)), by omega, i + 1, by omega, rfl, s470, s471, s472, s473, s474, s475, s476, s477, s478, s479, K444, B438, B439, B440, B441, B442, B443⟩
          ·replace c430 := of_decide_eq_false c430
           refine wq_exit ?_
           refine then_exit ?_
           refine then_exit ?_
           have l480 : 4 = i := by omega
           subst l480
           refine in_here ?_
           refine then_normal ?_
           refine wq_seq ?_
           refine wq_seq ?_
           rcases (show mode = 0 ∨ mode = 1 ∨ mode = 2 ∨ mode = 3 from (by omega)) with rfl | rfl | rfl | rfl
           ·skip
            refine wq_region ?_
            refine wl_v (.int .i64 (0)) rfl rfl (y_asg rfl rfl ⟨rfl, rfl⟩) ?_
            refine wl_nil fun F481 hF482 => ?_
            have s483 := (hF482 1).trans s419
            have s484 := (hF482 2).trans s420
            have s485 := (hF482 3).trans s421
            have s486 := (hF482 4).trans s422
            have s487 := (hF482 5).trans s423
            have s488 := (hF482 10).trans s424
            have s489 := (hF482 12).trans s425
            have s490 := (hF482 116).trans s426
            have s491 := (hF482 13).trans s427
            have s492 : F481 15 = .int .i64 (0) := (hF482 15).trans rfl
            clear hF482
            refine then_normal ?_
            refine wq_block ?_
            refine wq_loop (fun nn FF ww => ∃ (n : Nat), (n ≤ 16) ∧ nn = 16 - n ∧ FF 1 = .int .i64 (p) ∧ FF 2 = .int .i64 (x) ∧ FF 3 = .int .i64 (y) ∧ FF 4 = .int .i64 (0) ∧ FF 5 = .pointer (some ⟨p1, 0, none⟩) ∧ FF 10 = .pointer (some ⟨p14, 0, none⟩) ∧ FF 12 = .pointer (some ⟨p39, 0, none⟩) ∧ FF 13 = .int .i64 (sumTo f p x y 4) ∧ FF 116 = undef ∧ FF 15 = .int .i64 (((n : Nat) : Int)) ∧ Kept (fun _ => False) w0 ww ∧ Byt ww (T_f0) f0 ((f).p0) ∧ Byt ww (T_f1) f1 ((f).p1) ∧ Byt ww (T_f2) f2 ((f).p2) ∧ Stc ww p1 25 [.int .i64 ((f).W), .int .i64 ((f).H), f0, f1, f2] ∧ Blk ww p14 28 (fun _ => 0) ∧ Blk ww p39 28 (upto n (fun _ => 0) (predN f p x y 0))) (16 - (0)) ⟨0, by omega, rfl, s483, s484, s485, s486, s487, s488, s489, s491, s490, s492, K398, B411, B412, B413, B414, B415, B416.first⟩ ?_
            rintro n496 F493 w494 ⟨n, i497, hn496, s498, s499, s500, s501, s502, s503, s504, s505, s506, s507, K495, B508, B509, B510, B511, B512, B513⟩
            refine wq_seq ?_
            refine wq_seq ?_
            refine wq_region ?_
            refine wl_v (.int .i64 (((n : Nat) : Int))) rfl rfl (y_mov rfl s507 ⟨rfl, rfl⟩) ?_
            refine wl_v (.bool (decide ((((n : Nat) : Int)) < (16)))) rfl rfl (y_lss rfl rfl rfl rfl ⟨rfl, rfl⟩) ?_
            refine wl_nil fun F514 hF515 => ?_
            have s516 := (hF515 1).trans s498
            have s517 := (hF515 2).trans s499
            have s518 := (hF515 3).trans s500
            have s519 := (hF515 4).trans s501
            have s520 := (hF515 5).trans s502
            have s521 := (hF515 10).trans s503
            have s522 := (hF515 12).trans s504
            have s523 := (hF515 13).trans s505
            have s524 := (hF515 116).trans s506
            have s525 := (hF515 15).trans s507
            have s526 : F514 74 = .bool (decide ((((n : Nat) : Int)) < (16))) := (hF515 74).trans rfl
            clear hF515
            refine then_normal ?_
            refine wq_cond s526 (fun c527 => ?_) (fun c527 => ?_)
            ·replace c527 := of_decide_eq_true c527
             refine wq_skip ?_
             refine then_normal ?_
             refine wq_seq ?_
             refine wq_block ?_
             refine wq_seq ?_
             have hs := sumTo_le hb p x y 4
             have ha := above_le hb p x y ((n % 4 : Nat) : Int)
             have hl := left_le hb p x y ((n / 4 : Nat) : Int)
             refine wq_region ?_
             refine wl_v (.agg #[.int .i64 ((f).W), .int .i64 ((f).H), f0, f1, f2]) rfl rfl (y_load_stc stcT_frame rfl s520 B511 ⟨rfl, rfl⟩) ?_
             refine wl_v (.int .i64 (p)) rfl rfl (y_mov rfl s516 ⟨rfl, rfl⟩) ?_
             refine wl_v (.int .i64 (x)) rfl rfl (y_mov rfl s517 ⟨rfl, rfl⟩) ?_
             refine wl_v (.int .i64 (y)) rfl rfl (y_mov rfl s518 ⟨rfl, rfl⟩) ?_
             refine wl_v (.int .i64 (((n : Nat) : Int))) rfl rfl (y_mov rfl s525 ⟨rfl, rfl⟩) ?_
             refine wl_v (.int .i64 ((((n % 4) : Nat) : Int))) rfl rfl (y_rem rfl rfl rfl (by first | decide | omega) (rem_nat n 4) ⟨rfl, rfl⟩) ?_
             refine wl_call (R := fun v_ w_ => v_ = .int .i64 (aboveF (f) (p) (x) (y) ((((n % 4) : Nat) : Int))) ∧ Kept (fun _ => False) w494 w_) rfl rfl (y_cs rfl rfl rfl (fun _ _ => by kernel_rfl) (ev_func _) (vsC rfl (vsC rfl (vsC rfl (vsC rfl (vsC rfl vsN))))) (iref_above (p) (x) (y) ((((n % 4) : Nat) : Int)) (f) (f0) (f1) (f2) (T_f0) (T_f1) (T_f2) _ (by omega) (by omega) (by omega) B508 B509 B510 ) (fun e_ w_ h_ => ⟨_, h_.1, rfl, h_.2⟩)) ?_
             rintro _ w528 ⟨rfl, k529⟩
             have B530 := B508.all k529 Apart.none
             have B531 := B509.all k529 Apart.none
             have B532 := B510.all k529 Apart.none
             have B533 := B511.all k529 id
             have B534 := B512.all k529 id
             have B535 := B513.all k529 id
             have K536 := K495.trans k529 (fun _ _ x => x.elim)
             refine wl_v (.int .i64 (aboveF (f) (p) (x) (y) ((((n % 4) : Nat) : Int)))) rfl rfl (y_asg rfl rfl ⟨rfl, rfl⟩) ?_
             refine wl_nil fun F537 hF538 => ?_
             have s539 := (hF538 1).trans s516
             have s540 := (hF538 2).trans s517
             have s541 := (hF538 3).trans s518
             have s542 := (hF538 4).trans s519
             have s543 := (hF538 5).trans s520
             have s544 := (hF538 10).trans s521
             have s545 := (hF538 12).trans s522
             have s546 := (hF538 13).trans s523
             have s547 := (hF538 116).trans s524
             have s548 := (hF538 15).trans s525
             clear hF538
             refine then_normal ?_
             refine wq_seq ?_
             refine wq_region ?_
             refine wl_v (.agg #[.int .i64 ((f).W), .int .i64 ((f).H), f0, f1, f2]) rfl rfl (y_load_stc stcT_frame rfl s543 B533 ⟨rfl, rfl⟩) ?_
             refine wl_v (.int .i64 (p)) rfl rfl (y_mov rfl s539 ⟨rfl, rfl⟩) ?_
             refine wl_v (.int .i64 (x)) rfl rfl (y_mov rfl s540 ⟨rfl, rfl⟩) ?_
             refine wl_v (.int .i64 (y)) rfl rfl (y_mov rfl s541 ⟨rfl, rfl⟩) ?_
             refine wl_v (.int .i64 (((n : Nat) : Int))) rfl rfl (y_mov rfl s548 ⟨rfl, rfl⟩) ?_
             refine wl_v (.int .i64 ((((n / 4) : Nat) : Int))) rfl rfl (y_quo rfl rfl rfl (by first | decide | omega) (i64_n (quo_nat n 4) (by omega)) ⟨rfl, rfl⟩) ?_
             refine wl_call (R := fun v_ w_ => v_ = .int .i64 (leftF (f) (p) (x) (y) ((((n / 4) : Nat) : Int))) ∧ Kept (fun _ => False) w528 w_) rfl rfl (y_cs rfl rfl rfl (fun _ _ => by kernel_rfl) (ev_func _) (vsC rfl (vsC rfl (vsC rfl (vsC rfl (vsC rfl vsN))))) (iref_left (p) (x) (y) ((((n / 4) : Nat) : Int)) (f) (f0) (f1) (f2) (T_f0) (T_f1) (T_f2) _ (by omega) (by omega) (by omega) B530 B531 B532 ) (fun e_ w_ h_ => ⟨_, h_.1, rfl, h_.2⟩)) ?_
             rintro _ w550 ⟨rfl, k551⟩
             have B552 := B530.all k551 Apart.none
             have B553 := B531.all k551 Apart.none
             have B554 := B532.all k551 Apart.none
             have B555 := B533.all k551 id
             have B556 := B534.all k551 id
             have B557 := B535.all k551 id
             have K558 := K536.trans k551 (fun _ _ x => x.elim)
             refine wl_v (.int .i64 (leftF (f) (p) (x) (y) ((((n / 4) : Nat) : Int)))) rfl rfl (y_asg rfl rfl ⟨rfl, rfl⟩) ?_
             refine wl_nil fun F559 hF560 => ?_
             have s561 := (hF560 1).trans s539
             have s562 := (hF560 2).trans s540
             have s563 := (hF560 3).trans s541
             have s564 := (hF560 4).trans s542
             have s565 := (hF560 5).trans s543
             have s566 := (hF560 10).trans s544
             have s567 := (hF560 12).trans s545
             have s568 := (hF560 13).trans s546
             have s569 := (hF560 116).trans s547
             have s570 := (hF560 15).trans s548
             clear hF560
             refine then_normal ?_
             refine wq_seq ?_
             refine wq_region ?_
             refine wl_v (.int .i64 (0)) rfl rfl (y_mov rfl s564 ⟨rfl, rfl⟩) ?_
             refine wl_nil fun F573 hF574 => ?_
             have s575 := (hF574 1).trans s561
             have s576 := (hF574 2).trans s562
             have s577 := (hF574 3).trans s563
             have s578 := (hF574 4).trans s564
             have s579 := (hF574 5).trans s565
             have s580 := (hF574 10).trans s566
             have s581 := (hF574 12).trans s567
             have s582 := (hF574 13).trans s568
             have s583 := (hF574 116).trans s569
             have s584 := (hF574 15).trans s570
             have s587 : F573 91 = .int .i64 (0) := (hF574 91).trans rfl
             clear hF574
             refine then_normal ?_
             refine wq_block ?_
             refine wq_seq ?_
             refine wq_region ?_
             refine wl_v (.bool true) rfl rfl (y_eqlI rfl s587 rfl rfl ⟨rfl, rfl⟩) ?_
             refine wl_v (.bool true) rfl rfl (y_asg rfl rfl ⟨rfl, rfl⟩) ?_
             refine wl_nil fun F588 hF589 => ?_
             have s590 := (hF589 1).trans s575
             have s591 := (hF589 2).trans s576
             have s592 := (hF589 3).trans s577
             have s593 := (hF589 4).trans s578
             have s594 := (hF589 5).trans s579
             have s595 := (hF589 10).trans s580
             have s596 := (hF589 12).trans s581
             have s597 := (hF589 13).trans s582
             have s598 := (hF589 116).trans s583
             have s599 := (hF589 15).trans s584
             have s603 : F588 99 = .bool true := (hF589 99).trans rfl
             clear hF589
             refine then_normal ?_
             refine wq_cond (t := true) s603 (fun _ => ?_) (fun e => by cases e)
             refine wq_region ?_
             refine wl_v (.int .i64 (((n : Nat) : Int))) rfl rfl (y_mov rfl s599 ⟨rfl, rfl⟩) ?_
             refine wl_v (.int .i64 (sumTo f p x y 4)) rfl rfl (y_mov rfl s597 ⟨rfl, rfl⟩) ?_
             refine wl_v (.int .i64 (Int.tdiv (sumTo f p x y 4) 8)) rfl rfl (y_quo rfl rfl rfl (by first | decide | omega) (i64_i rfl (by rw [tdiv8 (by omega)]; omega)) ⟨rfl, rfl⟩) ?_
             refine wl_v (.pointer (some ⟨p39, n, none⟩)) rfl rfl (y_atR (n) (s := 1) rfl s596 rfl (by omega) Tryz.underlying28 (by omega) (by kernel_rfl) (by omega) ⟨rfl, rfl⟩) ?_
             refine wl_set_blk rfl rfl rfl rfl rfl B557 (by omega) (by kernel_rfl) fun w604 B605 k606 => ?_
             have B607 := B552.all k606 (fun i h x => (((ap46).symm) i h x))
             have B608 := B553.all k606 (fun i h x => (((ap47).symm) i h x))
             have B609 := B554.all k606 (fun i h x => (((ap48).symm) i h x))
             have B610 := B555.all k606 (fun x => (((ap49).symm) p1 rfl x))
             have B611 := B556.all k606 (fun x => (((ap50).symm) p14 rfl x))
             have K612 := K558.trans k606 (Grew.ok (S := fun _ => False) gr45 noB_le)
             refine wl_nil fun F613 hF614 => ?_
             have s615 := (hF614 1).trans s590
             have s616 := (hF614 2).trans s591
             have s617 := (hF614 3).trans s592
             have s618 := (hF614 4).trans s593
             have s619 := (hF614 5).trans s594
             have s620 := (hF614 10).trans s595
             have s621 := (hF614 12).trans s596
             have s622 := (hF614 13).trans s597
             have s623 := (hF614 116).trans s598
             have s624 := (hF614 15).trans s599
             clear hF614
             refine in_normal ?_
             refine in_normal ?_
             refine then_normal ?_
             refine wq_region ?_
             refine wl_v (.int .i64 (((n : Nat) : Int))) rfl rfl (y_mov rfl s624 ⟨rfl, rfl⟩) ?_
             refine wl_v (.int .i64 (((n + 1 : Nat) : Int))) rfl rfl (y_add rfl rfl rfl (i64_n (by omega) (by omega)) ⟨rfl, rfl⟩) ?_
             refine wl_v (.int .i64 (((n + 1 : Nat) : Int))) rfl rfl (y_asg rfl rfl ⟨rfl, rfl⟩) ?_
             refine wl_nil fun F625 hF626 => ?_
             have s627 := (hF626 1).trans s615
             have s628 := (hF626 2).trans s616
             have s629 := (hF626 3).trans s617
             have s630 := (hF626 4).trans s618
             have s631 := (hF626 5).trans s619
             have s632 := (hF626 10).trans s620
             have s633 := (hF626 12).trans s621
             have s634 := (hF626 13).trans s622
             have s635 := (hF626 116).trans s623
             have s636 : F625 15 = .int .i64 (((n + 1 : Nat) : Int)) := (hF626 15).trans rfl
             clear hF626
             exact then_normal ⟨(16 - (n + 1)), by omega, n + 1, by omega, rfl, s627, s628, s629, s630, s631, s632, s633, s634, s635, s636, K612, B607, B608, B609, B610, B611, (B605.next rfl)⟩
            ·replace c527 := of_decide_eq_false c527
             refine wq_exit ?_
             refine then_exit ?_
             refine then_exit ?_
             have l637 : 16 = n := by omega
             subst l637
             have B638 : Blk w494 p39 28 (predN f p x y 0) := (B513.last)
             refine in_here ?_
             refine then_normal ?_
             refine wq_seq ?_
             refine wq_region ?_
             refine wl_v (blkV (predN f p x y 0)) rfl rfl (y_load_blk blkT_arr rfl s522 B638 ⟨rfl, rfl⟩) ?_
             refine wl_store_blk blkT_arr rfl rfl rfl s521 rfl B512 fun w639 B640 k641 => ?_
             have K647 := K495.trans k641 (Grew.ok (S := fun _ => False) gr20 noB_le)
             refine wl_v (.int .i64 (0)) rfl rfl (y_asg rfl rfl ⟨rfl, rfl⟩) ?_
             refine wl_nil fun F648 hF649 => ?_
             have s650 := (hF649 10).trans s521
             have s651 := (hF649 116).trans s524
             have s652 : F648 11 = .int .i64 (0) := (hF649 11).trans rfl
             clear hF649
             refine then_normal ?_
             refine wq_ret ?_
             exact end_2 s651 rfl (res_blk blkT_arr rfl s650 B640) (res_tmp (v := .int .i64 (0)) rfl s652) ⟨(by first | rw [(pred_no hno).1, (pred_no hno).2] | rw [(pred_none hpl (by omega)).1, (pred_none hpl (by omega)).2] | rw [(pred_yes hpl (by decide)).1, (pred_yes hpl (by decide)).2]), K647⟩
           ·skip
            refine wq_region ?_
            refine wl_v (.int .i64 (0)) rfl rfl (y_asg rfl rfl ⟨rfl, rfl⟩) ?_
            refine wl_nil fun F653 hF654 => ?_
            have s655 := (hF654 1).trans s419
            have s656 := (hF654 2).trans s420
            have s657 := (hF654 3).trans s421
            have s658 := (hF654 4).trans s422
            have s659 := (hF654 5).trans s423
            have s660 := (hF654 10).trans s424
            have s661 := (hF654 12).trans s425
            have s662 := (hF654 116).trans s426
            have s663 := (hF654 13).trans s427
            have s664 : F653 15 = .int .i64 (0) := (hF654 15).trans rfl
            clear hF654
            refine then_normal ?_
            refine wq_block ?_
            refine wq_loop (fun nn FF ww => ∃ (n : Nat), (n ≤ 16) ∧ nn = 16 - n ∧ FF 1 = .int .i64 (p) ∧ FF 2 = .int .i64 (x) ∧ FF 3 = .int .i64 (y) ∧ FF 4 = .int .i64 (1) ∧ FF 5 = .pointer (some ⟨p1, 0, none⟩) ∧ FF 10 = .pointer (some ⟨p14, 0, none⟩) ∧ FF 12 = .pointer (some ⟨p39, 0, none⟩) ∧ FF 13 = .int .i64 (sumTo f p x y 4) ∧ FF 116 = undef ∧ FF 15 = .int .i64 (((n : Nat) : Int)) ∧ Kept (fun _ => False) w0 ww ∧ Byt ww (T_f0) f0 ((f).p0) ∧ Byt ww (T_f1) f1 ((f).p1) ∧ Byt ww (T_f2) f2 ((f).p2) ∧ Stc ww p1 25 [.int .i64 ((f).W), .int .i64 ((f).H), f0, f1, f2] ∧ Blk ww p14 28 (fun _ => 0) ∧ Blk ww p39 28 (upto n (fun _ => 0) (predN f p x y 1))) (16 - (0)) ⟨0, by omega, rfl, s655, s656, s657, s658, s659, s660, s661, s663, s662, s664, K398, B411, B412, B413, B414, B415, B416.first⟩ ?_
            rintro n668 F665 w666 ⟨n, i669, hn668, s670, s671, s672, s673, s674, s675, s676, s677, s678, s679, K667, B680, B681, B682, B683, B684, B685⟩
            refine wq_seq ?_
            refine wq_seq ?_
            refine wq_region ?_
            refine wl_v (.int .i64 (((n : Nat) : Int))) rfl rfl (y_mov rfl s679 ⟨rfl, rfl⟩) ?_
            refine wl_v (.bool (decide ((((n : Nat) : Int)) < (16)))) rfl rfl (y_lss rfl rfl rfl rfl ⟨rfl, rfl⟩) ?_
            refine wl_nil fun F686 hF687 => ?_
            have s688 := (hF687 1).trans s670
            have s689 := (hF687 2).trans s671
            have s690 := (hF687 3).trans s672
            have s691 := (hF687 4).trans s673
            have s692 := (hF687 5).trans s674
            have s693 := (hF687 10).trans s675
            have s694 := (hF687 12).trans s676
            have s695 := (hF687 13).trans s677
            have s696 := (hF687 116).trans s678
            have s697 := (hF687 15).trans s679
            have s698 : F686 74 = .bool (decide ((((n : Nat) : Int)) < (16))) := (hF687 74).trans rfl
            clear hF687
            refine then_normal ?_
            refine wq_cond s698 (fun c699 => ?_) (fun c699 => ?_)
            ·replace c699 := of_decide_eq_true c699
             refine wq_skip ?_
             refine then_normal ?_
             refine wq_seq ?_
             refine wq_block ?_
             refine wq_seq ?_
             have hs := sumTo_le hb p x y 4
             have ha := above_le hb p x y ((n % 4 : Nat) : Int)
             have hl := left_le hb p x y ((n / 4 : Nat) : Int)
             refine wq_region ?_
             refine wl_v (.agg #[.int .i64 ((f).W), .int .i64 ((f).H), f0, f1, f2]) rfl rfl (y_load_stc stcT_frame rfl s692 B683 ⟨rfl, rfl⟩) ?_
             refine wl_v (.int .i64 (p)) rfl rfl (y_mov rfl s688 ⟨rfl, rfl⟩) ?_
             refine wl_v (.int .i64 (x)) rfl rfl (y_mov rfl s689 ⟨rfl, rfl⟩) ?_
             refine wl_v (.int .i64 (y)) rfl rfl (y_mov rfl s690 ⟨rfl, rfl⟩) ?_
             refine wl_v (.int .i64 (((n : Nat) : Int))) rfl rfl (y_mov rfl s697 ⟨rfl, rfl⟩) ?_
             refine wl_v (.int .i64 ((((n % 4) : Nat) : Int))) rfl rfl (y_rem rfl rfl rfl (by first | decide | omega) (rem_nat n 4) ⟨rfl, rfl⟩) ?_
             refine wl_call (R := fun v_ w_ => v_ = .int .i64 (aboveF (f) (p) (x) (y) ((((n % 4) : Nat) : Int))) ∧ Kept (fun _ => False) w666 w_) rfl rfl (y_cs rfl rfl rfl (fun _ _ => by kernel_rfl) (ev_func _) (vsC rfl (vsC rfl (vsC rfl (vsC rfl (vsC rfl vsN))))) (iref_above (p) (x) (y) ((((n % 4) : Nat) : Int)) (f) (f0) (f1) (f2) (T_f0) (T_f1) (T_f2) _ (by omega) (by omega) (by omega) B680 B681 B682 ) (fun e_ w_ h_ => ⟨_, h_.1, rfl, h_.2⟩)) ?_
             rintro _ w700 ⟨rfl, k701⟩
             have B702 := B680.all k701 Apart.none
             have B703 := B681.all k701 Apart.none
             have B704 := B682.all k701 Apart.none
             have B705 := B683.all k701 id
             have B706 := B684.all k701 id
             have B707 := B685.all k701 id
             have K708 := K667.trans k701 (fun _ _ x => x.elim)
             refine wl_v (.int .i64 (aboveF (f) (p) (x) (y) ((((n % 4) : Nat) : Int)))) rfl rfl (y_asg rfl rfl ⟨rfl, rfl⟩) ?_
             refine wl_nil fun F709 hF710 => ?_
             have s711 := (hF710 1).trans s688
             have s712 := (hF710 2).trans s689
             have s713 := (hF710 3).trans s690
             have s714 := (hF710 4).trans s691
             have s715 := (hF710 5).trans s692
             have s716 := (hF710 10).trans s693
             have s717 := (hF710 12).trans s694
             have s718 := (hF710 13).trans s695
             have s719 := (hF710 116).trans s696
             have s720 := (hF710 15).trans s697
             have s721 : F709 16 = .int .i64 (aboveF (f) (p) (x) (y) ((((n % 4) : Nat) : Int))) := (hF710 16).trans rfl
             clear hF710
             refine then_normal ?_
             refine wq_seq ?_
             refine wq_region ?_
             refine wl_v (.agg #[.int .i64 ((f).W), .int .i64 ((f).H), f0, f1, f2]) rfl rfl (y_load_stc stcT_frame rfl s715 B705 ⟨rfl, rfl⟩) ?_
             refine wl_v (.int .i64 (p)) rfl rfl (y_mov rfl s711 ⟨rfl, rfl⟩) ?_
             refine wl_v (.int .i64 (x)) rfl rfl (y_mov rfl s712 ⟨rfl, rfl⟩) ?_
             refine wl_v (.int .i64 (y)) rfl rfl (y_mov rfl s713 ⟨rfl, rfl⟩) ?_
             refine wl_v (.int .i64 (((n : Nat) : Int))) rfl rfl (y_mov rfl s720 ⟨rfl, rfl⟩) ?_
             refine wl_v (.int .i64 ((((n / 4) : Nat) : Int))) rfl rfl (y_quo rfl rfl rfl (by first | decide | omega) (i64_n (quo_nat n 4) (by omega)) ⟨rfl, rfl⟩) ?_
             refine wl_call (R := fun v_ w_ => v_ = .int .i64 (leftF (f) (p) (x) (y) ((((n / 4) : Nat) : Int))) ∧ Kept (fun _ => False) w700 w_) rfl rfl (y_cs rfl rfl rfl (fun _ _ => by kernel_rfl) (ev_func _) (vsC rfl (vsC rfl (vsC rfl (vsC rfl (vsC rfl vsN))))) (iref_left (p) (x) (y) ((((n / 4) : Nat) : Int)) (f) (f0) (f1) (f2) (T_f0) (T_f1) (T_f2) _ (by omega) (by omega) (by omega) B702 B703 B704 ) (fun e_ w_ h_ => ⟨_, h_.1, rfl, h_.2⟩)) ?_
             rintro _ w722 ⟨rfl, k723⟩
             have B724 := B702.all k723 Apart.none
             have B725 := B703.all k723 Apart.none
             have B726 := B704.all k723 Apart.none
             have B727 := B705.all k723 id
             have B728 := B706.all k723 id
             have B729 := B707.all k723 id
             have K730 := K708.trans k723 (fun _ _ x => x.elim)
             refine wl_v (.int .i64 (leftF (f) (p) (x) (y) ((((n / 4) : Nat) : Int)))) rfl rfl (y_asg rfl rfl ⟨rfl, rfl⟩) ?_
             refine wl_nil fun F731 hF732 => ?_
             have s733 := (hF732 1).trans s711
             have s734 := (hF732 2).trans s712
             have s735 := (hF732 3).trans s713
             have s736 := (hF732 4).trans s714
             have s737 := (hF732 5).trans s715
             have s738 := (hF732 10).trans s716
             have s739 := (hF732 12).trans s717
             have s740 := (hF732 13).trans s718
             have s741 := (hF732 116).trans s719
             have s742 := (hF732 15).trans s720
             have s743 := (hF732 16).trans s721
             clear hF732
             refine then_normal ?_
             refine wq_seq ?_
             refine wq_region ?_
             refine wl_v (.int .i64 (1)) rfl rfl (y_mov rfl s736 ⟨rfl, rfl⟩) ?_
             refine wl_nil fun F745 hF746 => ?_
             have s747 := (hF746 1).trans s733
             have s748 := (hF746 2).trans s734
             have s749 := (hF746 3).trans s735
             have s750 := (hF746 4).trans s736
             have s751 := (hF746 5).trans s737
             have s752 := (hF746 10).trans s738
             have s753 := (hF746 12).trans s739
             have s754 := (hF746 13).trans s740
             have s755 := (hF746 116).trans s741
             have s756 := (hF746 15).trans s742
             have s757 := (hF746 16).trans s743
             have s759 : F745 91 = .int .i64 (1) := (hF746 91).trans rfl
             clear hF746
             refine then_normal ?_
             refine wq_block ?_
             refine wq_seq ?_
             refine wq_region ?_
             refine wl_v (.bool false) rfl rfl (y_eqlI rfl s759 rfl rfl ⟨rfl, rfl⟩) ?_
             refine wl_v (.bool false) rfl rfl (y_asg rfl rfl ⟨rfl, rfl⟩) ?_
             refine wl_nil fun F760 hF761 => ?_
             have s762 := (hF761 1).trans s747
             have s763 := (hF761 2).trans s748
             have s764 := (hF761 3).trans s749
             have s765 := (hF761 4).trans s750
             have s766 := (hF761 5).trans s751
             have s767 := (hF761 10).trans s752
             have s768 := (hF761 12).trans s753
             have s769 := (hF761 13).trans s754
             have s770 := (hF761 116).trans s755
             have s771 := (hF761 15).trans s756
             have s772 := (hF761 16).trans s757
             have s774 := (hF761 91).trans s759
             have s775 : F760 99 = .bool false := (hF761 99).trans rfl
             clear hF761
             refine then_normal ?_
             refine wq_cond (t := false) s775 (fun e => by cases e) (fun _ => ?_)
             refine wq_seq ?_
             refine wq_region ?_
             refine wl_v (.bool true) rfl rfl (y_eqlI rfl s774 rfl rfl ⟨rfl, rfl⟩) ?_
             refine wl_v (.bool true) rfl rfl (y_asg rfl rfl ⟨rfl, rfl⟩) ?_
             refine wl_nil fun F776 hF777 => ?_
             have s778 := (hF777 1).trans s762
             have s779 := (hF777 2).trans s763
             have s780 := (hF777 3).trans s764
             have s781 := (hF777 4).trans s765
             have s782 := (hF777 5).trans s766
             have s783 := (hF777 10).trans s767
             have s784 := (hF777 12).trans s768
             have s785 := (hF777 13).trans s769
             have s786 := (hF777 116).trans s770
             have s787 := (hF777 15).trans s771
             have s788 := (hF777 16).trans s772
             have s791 : F776 105 = .bool true := (hF777 105).trans rfl
             clear hF777
             refine then_normal ?_
             refine wq_cond (t := true) s791 (fun _ => ?_) (fun e => by cases e)
             refine wq_region ?_
             refine wl_v (.int .i64 (((n : Nat) : Int))) rfl rfl (y_mov rfl s787 ⟨rfl, rfl⟩) ?_
             refine wl_v (.int .i64 (aboveF (f) (p) (x) (y) ((((n % 4) : Nat) : Int)))) rfl rfl (y_mov rfl s788 ⟨rfl, rfl⟩) ?_
             refine wl_v (.pointer (some ⟨p39, n, none⟩)) rfl rfl (y_atR (n) (s := 1) rfl s784 rfl (by omega) Tryz.underlying28 (by omega) (by kernel_rfl) (by omega) ⟨rfl, rfl⟩) ?_
             refine wl_set_blk rfl rfl rfl rfl rfl B729 (by omega) (by kernel_rfl) fun w792 B793 k794 => ?_
             have B795 := B724.all k794 (fun i h x => (((ap46).symm) i h x))
             have B796 := B725.all k794 (fun i h x => (((ap47).symm) i h x))
             have B797 := B726.all k794 (fun i h x => (((ap48).symm) i h x))
             have B798 := B727.all k794 (fun x => (((ap49).symm) p1 rfl x))
             have B799 := B728.all k794 (fun x => (((ap50).symm) p14 rfl x))
             have K800 := K730.trans k794 (Grew.ok (S := fun _ => False) gr45 noB_le)
             refine wl_nil fun F801 hF802 => ?_
             have s803 := (hF802 1).trans s778
             have s804 := (hF802 2).trans s779
             have s805 := (hF802 3).trans s780
             have s806 := (hF802 4).trans s781
             have s807 := (hF802 5).trans s782
             have s808 := (hF802 10).trans s783
             have s809 := (hF802 12).trans s784
             have s810 := (hF802 13).trans s785
             have s811 := (hF802 116).trans s786
             have s812 := (hF802 15).trans s787
             clear hF802
             refine in_normal ?_
             refine in_normal ?_
             refine then_normal ?_
             refine wq_region ?_
             refine wl_v (.int .i64 (((n : Nat) : Int))) rfl rfl (y_mov rfl s812 ⟨rfl, rfl⟩) ?_
             refine wl_v (.int .i64 (((n + 1 : Nat) : Int))) rfl rfl (y_add rfl rfl rfl (i64_n (by omega) (by omega)) ⟨rfl, rfl⟩) ?_
             refine wl_v (.int .i64 (((n + 1 : Nat) : Int))) rfl rfl (y_asg rfl rfl ⟨rfl, rfl⟩) ?_
             refine wl_nil fun F813 hF814 => ?_
             have s815 := (hF814 1).trans s803
             have s816 := (hF814 2).trans s804
             have s817 := (hF814 3).trans s805
             have s818 := (hF814 4).trans s806
             have s819 := (hF814 5).trans s807
             have s820 := (hF814 10).trans s808
             have s821 := (hF814 12).trans s809
             have s822 := (hF814 13).trans s810
             have s823 := (hF814 116).trans s811
             have s824 : F813 15 = .int .i64 (((n + 1 : Nat) : Int)) := (hF814 15).trans rfl
             clear hF814
             exact then_normal ⟨(16 - (n + 1)), by omega, n + 1, by omega, rfl, s815, s816, s817, s818, s819, s820, s821, s822, s823, s824, K800, B795, B796, B797, B798, B799, (B793.next rfl)⟩
            ·replace c699 := of_decide_eq_false c699
             refine wq_exit ?_
             refine then_exit ?_
             refine then_exit ?_
             have l825 : 16 = n := by omega
             subst l825
             have B826 : Blk w666 p39 28 (predN f p x y 1) := (B685.last)
             refine in_here ?_
             refine then_normal ?_
             refine wq_seq ?_
             refine wq_region ?_
             refine wl_v (blkV (predN f p x y 1)) rfl rfl (y_load_blk blkT_arr rfl s694 B826 ⟨rfl, rfl⟩) ?_
             refine wl_store_blk blkT_arr rfl rfl rfl s693 rfl B684 fun w827 B828 k829 => ?_
             have K835 := K667.trans k829 (Grew.ok (S := fun _ => False) gr20 noB_le)
             refine wl_v (.int .i64 (0)) rfl rfl (y_asg rfl rfl ⟨rfl, rfl⟩) ?_
             refine wl_nil fun F836 hF837 => ?_
             have s838 := (hF837 10).trans s693
             have s839 := (hF837 116).trans s696
             have s840 : F836 11 = .int .i64 (0) := (hF837 11).trans rfl
             clear hF837
             refine then_normal ?_
             refine wq_ret ?_
             exact end_2 s839 rfl (res_blk blkT_arr rfl s838 B828) (res_tmp (v := .int .i64 (0)) rfl s840) ⟨(by first | rw [(pred_no hno).1, (pred_no hno).2] | rw [(pred_none hpl (by omega)).1, (pred_none hpl (by omega)).2] | rw [(pred_yes hpl (by decide)).1, (pred_yes hpl (by decide)).2]), K835⟩
           ·skip
            refine wq_region ?_
            refine wl_v (.int .i64 (0)) rfl rfl (y_asg rfl rfl ⟨rfl, rfl⟩) ?_
            refine wl_nil fun F841 hF842 => ?_
            have s843 := (hF842 1).trans s419
            have s844 := (hF842 2).trans s420
            have s845 := (hF842 3).trans s421
            have s846 := (hF842 4).trans s422
            have s847 := (hF842 5).trans s423
            have s848 := (hF842 10).trans s424
            have s849 := (hF842 12).trans s425
            have s850 := (hF842 116).trans s426
            have s851 := (hF842 13).trans s427
            have s852 : F841 15 = .int .i64 (0) := (hF842 15).trans rfl
            clear hF842
            refine then_normal ?_
            refine wq_block ?_
            refine wq_loop (fun nn FF ww => ∃ (n : Nat), (n ≤ 16) ∧ nn = 16 - n ∧ FF 1 = .int .i64 (p) ∧ FF 2 = .int .i64 (x) ∧ FF 3 = .int .i64 (y) ∧ FF 4 = .int .i64 (2) ∧ FF 5 = .pointer (some ⟨p1, 0, none⟩) ∧ FF 10 = .pointer (some ⟨p14, 0, none⟩) ∧ FF 12 = .pointer (some ⟨p39, 0, none⟩) ∧ FF 13 = .int .i64 (sumTo f p x y 4) ∧ FF 116 = undef ∧ FF 15 = .int .i64 (((n : Nat) : Int)) ∧ Kept (fun _ => False) w0 ww ∧ Byt ww (T_f0) f0 ((f).p0) ∧ Byt ww (T_f1) f1 ((f).p1) ∧ Byt ww (T_f2) f2 ((f).p2) ∧ Stc ww p1 25 [.int .i64 ((f).W), .int .i64 ((f).H), f0, f1, f2] ∧ Blk ww p14 28 (fun _ => 0) ∧ Blk ww p39 28 (upto n (fun _ => 0) (predN f p x y 2))) (16 - (0)) ⟨0, by omega, rfl, s843, s844, s845, s846, s847, s848, s849, s851, s850, s852, K398, B411, B412, B413, B414, B415, B416.first⟩ ?_
            rintro n856 F853 w854 ⟨n, i857, hn856, s858, s859, s860, s861, s862, s863, s864, s865, s866, s867, K855, B868, B869, B870, B871, B872, B873⟩
            refine wq_seq ?_
            refine wq_seq ?_
            refine wq_region ?_
            refine wl_v (.int .i64 (((n : Nat) : Int))) rfl rfl (y_mov rfl s867 ⟨rfl, rfl⟩) ?_
            refine wl_v (.bool (decide ((((n : Nat) : Int)) < (16)))) rfl rfl (y_lss rfl rfl rfl rfl ⟨rfl, rfl⟩) ?_
            refine wl_nil fun F874 hF875 => ?_
            have s876 := (hF875 1).trans s858
            have s877 := (hF875 2).trans s859
            have s878 := (hF875 3).trans s860
            have s879 := (hF875 4).trans s861
            have s880 := (hF875 5).trans s862
            have s881 := (hF875 10).trans s863
            have s882 := (hF875 12).trans s864
            have s883 := (hF875 13).trans s865
            have s884 := (hF875 116).trans s866
            have s885 := (hF875 15).trans s867
            have s886 : F874 74 = .bool (decide ((((n : Nat) : Int)) < (16))) := (hF875 74).trans rfl
            clear hF875
            refine then_normal ?_
            refine wq_cond s886 (fun c887 => ?_) (fun c887 => ?_)
            ·replace c887 := of_decide_eq_true c887
             refine wq_skip ?_
             refine then_normal ?_
             refine wq_seq ?_
             refine wq_block ?_
             refine wq_seq ?_
             have hs := sumTo_le hb p x y 4
             have ha := above_le hb p x y ((n % 4 : Nat) : Int)
             have hl := left_le hb p x y ((n / 4 : Nat) : Int)
             refine wq_region ?_
             refine wl_v (.agg #[.int .i64 ((f).W), .int .i64 ((f).H), f0, f1, f2]) rfl rfl (y_load_stc stcT_frame rfl s880 B871 ⟨rfl, rfl⟩) ?_
             refine wl_v (.int .i64 (p)) rfl rfl (y_mov rfl s876 ⟨rfl, rfl⟩) ?_
             refine wl_v (.int .i64 (x)) rfl rfl (y_mov rfl s877 ⟨rfl, rfl⟩) ?_
             refine wl_v (.int .i64 (y)) rfl rfl (y_mov rfl s878 ⟨rfl, rfl⟩) ?_
             refine wl_v (.int .i64 (((n : Nat) : Int))) rfl rfl (y_mov rfl s885 ⟨rfl, rfl⟩) ?_
             refine wl_v (.int .i64 ((((n % 4) : Nat) : Int))) rfl rfl (y_rem rfl rfl rfl (by first | decide | omega) (rem_nat n 4) ⟨rfl, rfl⟩) ?_
             refine wl_call (R := fun v_ w_ => v_ = .int .i64 (aboveF (f) (p) (x) (y) ((((n % 4) : Nat) : Int))) ∧ Kept (fun _ => False) w854 w_) rfl rfl (y_cs rfl rfl rfl (fun _ _ => by kernel_rfl) (ev_func _) (vsC rfl (vsC rfl (vsC rfl (vsC rfl (vsC rfl vsN))))) (iref_above (p) (x) (y) ((((n % 4) : Nat) : Int)) (f) (f0) (f1) (f2) (T_f0) (T_f1) (T_f2) _ (by omega) (by omega) (by omega) B868 B869 B870 ) (fun e_ w_ h_ => ⟨_, h_.1, rfl, h_.2⟩)) ?_
             rintro _ w888 ⟨rfl, k889⟩
             have B890 := B868.all k889 Apart.none
             have B891 := B869.all k889 Apart.none
             have B892 := B870.all k889 Apart.none
             have B893 := B871.all k889 id
             have B894 := B872.all k889 id
             have B895 := B873.all k889 id
             have K896 := K855.trans k889 (fun _ _ x => x.elim)
             refine wl_v (.int .i64 (aboveF (f) (p) (x) (y) ((((n % 4) : Nat) : Int)))) rfl rfl (y_asg rfl rfl ⟨rfl, rfl⟩) ?_
             refine wl_nil fun F897 hF898 => ?_
             have s899 := (hF898 1).trans s876
             have s900 := (hF898 2).trans s877
             have s901 := (hF898 3).trans s878
             have s902 := (hF898 4).trans s879
             have s903 := (hF898 5).trans s880
             have s904 := (hF898 10).trans s881
             have s905 := (hF898 12).trans s882
             have s906 := (hF898 13).trans s883
             have s907 := (hF898 116).trans s884
             have s908 := (hF898 15).trans s885
             clear hF898
             refine then_normal ?_
             refine wq_seq ?_
             refine wq_region ?_
             refine wl_v (.agg #[.int .i64 ((f).W), .int .i64 ((f).H), f0, f1, f2]) rfl rfl (y_load_stc stcT_frame rfl s903 B893 ⟨rfl, rfl⟩) ?_
             refine wl_v (.int .i64 (p)) rfl rfl (y_mov rfl s899 ⟨rfl, rfl⟩) ?_
             refine wl_v (.int .i64 (x)) rfl rfl (y_mov rfl s900 ⟨rfl, rfl⟩) ?_
             refine wl_v (.int .i64 (y)) rfl rfl (y_mov rfl s901 ⟨rfl, rfl⟩) ?_
             refine wl_v (.int .i64 (((n : Nat) : Int))) rfl rfl (y_mov rfl s908 ⟨rfl, rfl⟩) ?_
             refine wl_v (.int .i64 ((((n / 4) : Nat) : Int))) rfl rfl (y_quo rfl rfl rfl (by first | decide | omega) (i64_n (quo_nat n 4) (by omega)) ⟨rfl, rfl⟩) ?_
             refine wl_call (R := fun v_ w_ => v_ = .int .i64 (leftF (f) (p) (x) (y) ((((n / 4) : Nat) : Int))) ∧ Kept (fun _ => False) w888 w_) rfl rfl (y_cs rfl rfl rfl (fun _ _ => by kernel_rfl) (ev_func _) (vsC rfl (vsC rfl (vsC rfl (vsC rfl (vsC rfl vsN))))) (iref_left (p) (x) (y) ((((n / 4) : Nat) : Int)) (f) (f0) (f1) (f2) (T_f0) (T_f1) (T_f2) _ (by omega) (by omega) (by omega) B890 B891 B892 ) (fun e_ w_ h_ => ⟨_, h_.1, rfl, h_.2⟩)) ?_
             rintro _ w910 ⟨rfl, k911⟩
             have B912 := B890.all k911 Apart.none
             have B913 := B891.all k911 Apart.none
             have B914 := B892.all k911 Apart.none
             have B915 := B893.all k911 id
             have B916 := B894.all k911 id
             have B917 := B895.all k911 id
             have K918 := K896.trans k911 (fun _ _ x => x.elim)
             refine wl_v (.int .i64 (leftF (f) (p) (x) (y) ((((n / 4) : Nat) : Int)))) rfl rfl (y_asg rfl rfl ⟨rfl, rfl⟩) ?_
             refine wl_nil fun F919 hF920 => ?_
             have s921 := (hF920 1).trans s899
             have s922 := (hF920 2).trans s900
             have s923 := (hF920 3).trans s901
             have s924 := (hF920 4).trans s902
             have s925 := (hF920 5).trans s903
             have s926 := (hF920 10).trans s904
             have s927 := (hF920 12).trans s905
             have s928 := (hF920 13).trans s906
             have s929 := (hF920 116).trans s907
             have s930 := (hF920 15).trans s908
             have s932 : F919 17 = .int .i64 (leftF (f) (p) (x) (y) ((((n / 4) : Nat) : Int))) := (hF920 17).trans rfl
             clear hF920
             refine then_normal ?_
             refine wq_seq ?_
             refine wq_region ?_
             refine wl_v (.int .i64 (2)) rfl rfl (y_mov rfl s924 ⟨rfl, rfl⟩) ?_
             refine wl_nil fun F933 hF934 => ?_
             have s935 := (hF934 1).trans s921
             have s936 := (hF934 2).trans s922
             have s937 := (hF934 3).trans s923
             have s938 := (hF934 4).trans s924
             have s939 := (hF934 5).trans s925
             have s940 := (hF934 10).trans s926
             have s941 := (hF934 12).trans s927
             have s942 := (hF934 13).trans s928
             have s943 := (hF934 116).trans s929
             have s944 := (hF934 15).trans s930
             have s946 := (hF934 17).trans s932
             have s947 : F933 91 = .int .i64 (2) := (hF934 91).trans rfl
             clear hF934
             refine then_normal ?_
             refine wq_block ?_
             refine wq_seq ?_
             refine wq_region ?_
             refine wl_v (.bool false) rfl rfl (y_eqlI rfl s947 rfl rfl ⟨rfl, rfl⟩) ?_
             refine wl_v (.bool false) rfl rfl (y_asg rfl rfl ⟨rfl, rfl⟩) ?_
             refine wl_nil fun F948 hF949 => ?_
             have s950 := (hF949 1).trans s935
             have s951 := (hF949 2).trans s936
             have s952 := (hF949 3).trans s937
             have s953 := (hF949 4).trans s938
             have s954 := (hF949 5).trans s939
             have s955 := (hF949 10).trans s940
             have s956 := (hF949 12).trans s941
             have s957 := (hF949 13).trans s942
             have s958 := (hF949 116).trans s943
             have s959 := (hF949 15).trans s944
             have s961 := (hF949 17).trans s946
             have s962 := (hF949 91).trans s947
             have s963 : F948 99 = .bool false := (hF949 99).trans rfl
             clear hF949
             refine then_normal ?_
             refine wq_cond (t := false) s963 (fun e => by cases e) (fun _ => ?_)
             refine wq_seq ?_
             refine wq_region ?_
             refine wl_v (.bool false) rfl rfl (y_eqlI rfl s962 rfl rfl ⟨rfl, rfl⟩) ?_
             refine wl_v (.bool false) rfl rfl (y_asg rfl rfl ⟨rfl, rfl⟩) ?_
             refine wl_nil fun F964 hF965 => ?_
             have s966 := (hF965 1).trans s950
             have s967 := (hF965 2).trans s951
             have s968 := (hF965 3).trans s952
             have s969 := (hF965 4).trans s953
             have s970 := (hF965 5).trans s954
             have s971 := (hF965 10).trans s955
             have s972 := (hF965 12).trans s956
             have s973 := (hF965 13).trans s957
             have s974 := (hF965 116).trans s958
             have s975 := (hF965 15).trans s959
             have s977 := (hF965 17).trans s961
             have s978 := (hF965 91).trans s962
             have s979 : F964 105 = .bool false := (hF965 105).trans rfl
             clear hF965
             refine then_normal ?_
             refine wq_cond (t := false) s979 (fun e => by cases e) (fun _ => ?_)
             refine wq_seq ?_
             refine wq_region ?_
             refine wl_v (.bool true) rfl rfl (y_eqlI rfl s978 rfl rfl ⟨rfl, rfl⟩) ?_
             refine wl_v (.bool true) rfl rfl (y_asg rfl rfl ⟨rfl, rfl⟩) ?_
             refine wl_nil fun F980 hF981 => ?_
             have s982 := (hF981 1).trans s966
             have s983 := (hF981 2).trans s967
             have s984 := (hF981 3).trans s968
             have s985 := (hF981 4).trans s969
             have s986 := (hF981 5).trans s970
             have s987 := (hF981 10).trans s971
             have s988 := (hF981 12).trans s972
             have s989 := (hF981 13).trans s973
             have s990 := (hF981 116).trans s974
             have s991 := (hF981 15).trans s975
             have s993 := (hF981 17).trans s977
             have s994 : F980 110 = .bool true := (hF981 110).trans rfl
             clear hF981
             refine then_normal ?_
             refine wq_cond (t := true) s994 (fun _ => ?_) (fun e => by cases e)
             refine wq_region ?_
             refine wl_v (.int .i64 (((n : Nat) : Int))) rfl rfl (y_mov rfl s991 ⟨rfl, rfl⟩) ?_
             refine wl_v (.int .i64 (leftF (f) (p) (x) (y) ((((n / 4) : Nat) : Int)))) rfl rfl (y_mov rfl s993 ⟨rfl, rfl⟩) ?_
             refine wl_v (.pointer (some ⟨p39, n, none⟩)) rfl rfl (y_atR (n) (s := 1) rfl s988 rfl (by omega) Tryz.underlying28 (by omega) (by kernel_rfl) (by omega) ⟨rfl, rfl⟩) ?_
             refine wl_set_blk rfl rfl rfl rfl rfl B917 (by omega) (by kernel_rfl) fun w995 B996 k997 => ?_
             have B998 := B912.all k997 (fun i h x => (((ap46).symm) i h x))
             have B999 := B913.all k997 (fun i h x => (((ap47).symm) i h x))
             have B1000 := B914.all k997 (fun i h x => (((ap48).symm) i h x))
             have B1001 := B915.all k997 (fun x => (((ap49).symm) p1 rfl x))
             have B1002 := B916.all k997 (fun x => (((ap50).symm) p14 rfl x))
             have K1003 := K918.trans k997 (Grew.ok (S := fun _ => False) gr45 noB_le)
             refine wl_nil fun F1004 hF1005 => ?_
             have s1006 := (hF1005 1).trans s982
             have s1007 := (hF1005 2).trans s983
             have s1008 := (hF1005 3).trans s984
             have s1009 := (hF1005 4).trans s985
             have s1010 := (hF1005 5).trans s986
             have s1011 := (hF1005 10).trans s987
             have s1012 := (hF1005 12).trans s988
             have s1013 := (hF1005 13).trans s989
             have s1014 := (hF1005 116).trans s990
             have s1015 := (hF1005 15).trans s991
             clear hF1005
             refine in_normal ?_
             refine in_normal ?_
             refine then_normal ?_
             refine wq_region ?_
             refine wl_v (.int .i64 (((n : Nat) : Int))) rfl rfl (y_mov rfl s1015 ⟨rfl, rfl⟩) ?_
             refine wl_v (.int .i64 (((n + 1 : Nat) : Int))) rfl rfl (y_add rfl rfl rfl (i64_n (by omega) (by omega)) ⟨rfl, rfl⟩) ?_
             refine wl_v (.int .i64 (((n + 1 : Nat) : Int))) rfl rfl (y_asg rfl rfl ⟨rfl, rfl⟩) ?_
             refine wl_nil fun F1016 hF1017 => ?_
             have s1018 := (hF1017 1).trans s1006
             have s1019 := (hF1017 2).trans s1007
             have s1020 := (hF1017 3).trans s1008
             have s1021 := (hF1017 4).trans s1009
             have s1022 := (hF1017 5).trans s1010
             have s1023 := (hF1017 10).trans s1011
             have s1024 := (hF1017 12).trans s1012
             have s1025 := (hF1017 13).trans s1013
             have s1026 := (hF1017 116).trans s1014
             have s1027 : F1016 15 = .int .i64 (((n + 1 : Nat) : Int)) := (hF1017 15).trans rfl
             clear hF1017
             exact then_normal ⟨(16 - (n + 1)), by omega, n + 1, by omega, rfl, s1018, s1019, s1020, s1021, s1022, s1023, s1024, s1025, s1026, s1027, K1003, B998, B999, B1000, B1001, B1002, (B996.next rfl)⟩
            ·replace c887 := of_decide_eq_false c887
             refine wq_exit ?_
             refine then_exit ?_
             refine then_exit ?_
             have l1028 : 16 = n := by omega
             subst l1028
             have B1029 : Blk w854 p39 28 (predN f p x y 2) := (B873.last)
             refine in_here ?_
             refine then_normal ?_
             refine wq_seq ?_
             refine wq_region ?_
             refine wl_v (blkV (predN f p x y 2)) rfl rfl (y_load_blk blkT_arr rfl s882 B1029 ⟨rfl, rfl⟩) ?_
             refine wl_store_blk blkT_arr rfl rfl rfl s881 rfl B872 fun w1030 B1031 k1032 => ?_
             have K1038 := K855.trans k1032 (Grew.ok (S := fun _ => False) gr20 noB_le)
             refine wl_v (.int .i64 (0)) rfl rfl (y_asg rfl rfl ⟨rfl, rfl⟩) ?_
             refine wl_nil fun F1039 hF1040 => ?_
             have s1041 := (hF1040 10).trans s881
             have s1042 := (hF1040 116).trans s884
             have s1043 : F1039 11 = .int .i64 (0) := (hF1040 11).trans rfl
             clear hF1040
             refine then_normal ?_
             refine wq_ret ?_
             exact end_2 s1042 rfl (res_blk blkT_arr rfl s1041 B1031) (res_tmp (v := .int .i64 (0)) rfl s1043) ⟨(by first | rw [(pred_no hno).1, (pred_no hno).2] | rw [(pred_none hpl (by omega)).1, (pred_none hpl (by omega)).2] | rw [(pred_yes hpl (by decide)).1, (pred_yes hpl (by decide)).2]), K1038⟩
           ·skip
            refine wq_region ?_
            refine wl_v (.int .i64 (0)) rfl rfl (y_asg rfl rfl ⟨rfl, rfl⟩) ?_
            refine wl_nil fun F1044 hF1045 => ?_
            have s1046 := (hF1045 1).trans s419
            have s1047 := (hF1045 2).trans s420
            have s1048 := (hF1045 3).trans s421
            have s1049 := (hF1045 4).trans s422
            have s1050 := (hF1045 5).trans s423
            have s1051 := (hF1045 10).trans s424
            have s1052 := (hF1045 12).trans s425
            have s1053 := (hF1045 116).trans s426
            have s1054 := (hF1045 13).trans s427
            have s1055 : F1044 15 = .int .i64 (0) := (hF1045 15).trans rfl
            clear hF1045
            refine then_normal ?_
            refine wq_block ?_
            refine wq_loop (fun nn FF ww => ∃ (n : Nat), (n ≤ 16) ∧ nn = 16 - n ∧ FF 1 = .int .i64 (p) ∧ FF 2 = .int .i64 (x) ∧ FF 3 = .int .i64 (y) ∧ FF 4 = .int .i64 (3) ∧ FF 5 = .pointer (some ⟨p1, 0, none⟩) ∧ FF 10 = .pointer (some ⟨p14, 0, none⟩) ∧ FF 12 = .pointer (some ⟨p39, 0, none⟩) ∧ FF 13 = .int .i64 (sumTo f p x y 4) ∧ FF 116 = undef ∧ FF 15 = .int .i64 (((n : Nat) : Int)) ∧ Kept (fun _ => False) w0 ww ∧ Byt ww (T_f0) f0 ((f).p0) ∧ Byt ww (T_f1) f1 ((f).p1) ∧ Byt ww (T_f2) f2 ((f).p2) ∧ Stc ww p1 25 [.int .i64 ((f).W), .int .i64 ((f).H), f0, f1, f2] ∧ Blk ww p14 28 (fun _ => 0) ∧ Blk ww p39 28 (upto n (fun _ => 0) (predN f p x y 3))) (16 - (0)) ⟨0, by omega, rfl, s1046, s1047, s1048, s1049, s1050, s1051, s1052, s1054, s1053, s1055, K398, B411, B412, B413, B414, B415, B416.first⟩ ?_
            rintro n1059 F1056 w1057 ⟨n, i1060, hn1059, s1061, s1062, s1063, s1064, s1065, s1066, s1067, s1068, s1069, s1070, K1058, B1071, B1072, B1073, B1074, B1075, B1076⟩
            refine wq_seq ?_
            refine wq_seq ?_
            refine wq_region ?_
            refine wl_v (.int .i64 (((n : Nat) : Int))) rfl rfl (y_mov rfl s1070 ⟨rfl, rfl⟩) ?_
            refine wl_v (.bool (decide ((((n : Nat) : Int)) < (16)))) rfl rfl (y_lss rfl rfl rfl rfl ⟨rfl, rfl⟩) ?_
            refine wl_nil fun F1077 hF1078 => ?_
            have s1079 := (hF1078 1).trans s1061
            have s1080 := (hF1078 2).trans s1062
            have s1081 := (hF1078 3).trans s1063
            have s1082 := (hF1078 4).trans s1064
            have s1083 := (hF1078 5).trans s1065
            have s1084 := (hF1078 10).trans s1066
            have s1085 := (hF1078 12).trans s1067
            have s1086 := (hF1078 13).trans s1068
            have s1087 := (hF1078 116).trans s1069
            have s1088 := (hF1078 15).trans s1070
            have s1089 : F1077 74 = .bool (decide ((((n : Nat) : Int)) < (16))) := (hF1078 74).trans rfl
            clear hF1078
            refine then_normal ?_
            refine wq_cond s1089 (fun c1090 => ?_) (fun c1090 => ?_)
            ·replace c1090 := of_decide_eq_true c1090
             refine wq_skip ?_
             refine then_normal ?_
             refine wq_seq ?_
             refine wq_block ?_
             refine wq_seq ?_
             have hs := sumTo_le hb p x y 4
             have ha := above_le hb p x y ((n % 4 : Nat) : Int)
             have hl := left_le hb p x y ((n / 4 : Nat) : Int)
             refine wq_region ?_
             refine wl_v (.agg #[.int .i64 ((f).W), .int .i64 ((f).H), f0, f1, f2]) rfl rfl (y_load_stc stcT_frame rfl s1083 B1074 ⟨rfl, rfl⟩) ?_
             refine wl_v (.int .i64 (p)) rfl rfl (y_mov rfl s1079 ⟨rfl, rfl⟩) ?_
             refine wl_v (.int .i64 (x)) rfl rfl (y_mov rfl s1080 ⟨rfl, rfl⟩) ?_
             refine wl_v (.int .i64 (y)) rfl rfl (y_mov rfl s1081 ⟨rfl, rfl⟩) ?_
             refine wl_v (.int .i64 (((n : Nat) : Int))) rfl rfl (y_mov rfl s1088 ⟨rfl, rfl⟩) ?_
             refine wl_v (.int .i64 ((((n % 4) : Nat) : Int))) rfl rfl (y_rem rfl rfl rfl (by first | decide | omega) (rem_nat n 4) ⟨rfl, rfl⟩) ?_
             refine wl_call (R := fun v_ w_ => v_ = .int .i64 (aboveF (f) (p) (x) (y) ((((n % 4) : Nat) : Int))) ∧ Kept (fun _ => False) w1057 w_) rfl rfl (y_cs rfl rfl rfl (fun _ _ => by kernel_rfl) (ev_func _) (vsC rfl (vsC rfl (vsC rfl (vsC rfl (vsC rfl vsN))))) (iref_above (p) (x) (y) ((((n % 4) : Nat) : Int)) (f) (f0) (f1) (f2) (T_f0) (T_f1) (T_f2) _ (by omega) (by omega) (by omega) B1071 B1072 B1073 ) (fun e_ w_ h_ => ⟨_, h_.1, rfl, h_.2⟩)) ?_
             rintro _ w1091 ⟨rfl, k1092⟩
             have B1093 := B1071.all k1092 Apart.none
             have B1094 := B1072.all k1092 Apart.none
             have B1095 := B1073.all k1092 Apart.none
             have B1096 := B1074.all k1092 id
             have B1097 := B1075.all k1092 id
             have B1098 := B1076.all k1092 id
             have K1099 := K1058.trans k1092 (fun _ _ x => x.elim)
             refine wl_v (.int .i64 (aboveF (f) (p) (x) (y) ((((n % 4) : Nat) : Int)))) rfl rfl (y_asg rfl rfl ⟨rfl, rfl⟩) ?_
             refine wl_nil fun F1100 hF1101 => ?_
             have s1102 := (hF1101 1).trans s1079
             have s1103 := (hF1101 2).trans s1080
             have s1104 := (hF1101 3).trans s1081
             have s1105 := (hF1101 4).trans s1082
             have s1106 := (hF1101 5).trans s1083
             have s1107 := (hF1101 10).trans s1084
             have s1108 := (hF1101 12).trans s1085
             have s1109 := (hF1101 13).trans s1086
             have s1110 := (hF1101 116).trans s1087
             have s1111 := (hF1101 15).trans s1088
             have s1112 : F1100 16 = .int .i64 (aboveF (f) (p) (x) (y) ((((n % 4) : Nat) : Int))) := (hF1101 16).trans rfl
             clear hF1101
             refine then_normal ?_
             refine wq_seq ?_
             refine wq_region ?_
             refine wl_v (.agg #[.int .i64 ((f).W), .int .i64 ((f).H), f0, f1, f2]) rfl rfl (y_load_stc stcT_frame rfl s1106 B1096 ⟨rfl, rfl⟩) ?_
             refine wl_v (.int .i64 (p)) rfl rfl (y_mov rfl s1102 ⟨rfl, rfl⟩) ?_
             refine wl_v (.int .i64 (x)) rfl rfl (y_mov rfl s1103 ⟨rfl, rfl⟩) ?_
             refine wl_v (.int .i64 (y)) rfl rfl (y_mov rfl s1104 ⟨rfl, rfl⟩) ?_
             refine wl_v (.int .i64 (((n : Nat) : Int))) rfl rfl (y_mov rfl s1111 ⟨rfl, rfl⟩) ?_
             refine wl_v (.int .i64 ((((n / 4) : Nat) : Int))) rfl rfl (y_quo rfl rfl rfl (by first | decide | omega) (i64_n (quo_nat n 4) (by omega)) ⟨rfl, rfl⟩) ?_
             refine wl_call (R := fun v_ w_ => v_ = .int .i64 (leftF (f) (p) (x) (y) ((((n / 4) : Nat) : Int))) ∧ Kept (fun _ => False) w1091 w_) rfl rfl (y_cs rfl rfl rfl (fun _ _ => by kernel_rfl) (ev_func _) (vsC rfl (vsC rfl (vsC rfl (vsC rfl (vsC rfl vsN))))) (iref_left (p) (x) (y) ((((n / 4) : Nat) : Int)) (f) (f0) (f1) (f2) (T_f0) (T_f1) (T_f2) _ (by omega) (by omega) (by omega) B1093 B1094 B1095 ) (fun e_ w_ h_ => ⟨_, h_.1, rfl, h_.2⟩)) ?_
             rintro _ w1113 ⟨rfl, k1114⟩
             have B1115 := B1093.all k1114 Apart.none
             have B1116 := B1094.all k1114 Apart.none
             have B1117 := B1095.all k1114 Apart.none
             have B1118 := B1096.all k1114 id
             have B1119 := B1097.all k1114 id
             have B1120 := B1098.all k1114 id
             have K1121 := K1099.trans k1114 (fun _ _ x => x.elim)
             refine wl_v (.int .i64 (leftF (f) (p) (x) (y) ((((n / 4) : Nat) : Int)))) rfl rfl (y_asg rfl rfl ⟨rfl, rfl⟩) ?_
             refine wl_nil fun F1122 hF1123 => ?_
             have s1124 := (hF1123 1).trans s1102
             have s1125 := (hF1123 2).trans s1103
             have s1126 := (hF1123 3).trans s1104
             have s1127 := (hF1123 4).trans s1105
             have s1128 := (hF1123 5).trans s1106
             have s1129 := (hF1123 10).trans s1107
             have s1130 := (hF1123 12).trans s1108
             have s1131 := (hF1123 13).trans s1109
             have s1132 := (hF1123 116).trans s1110
             have s1133 := (hF1123 15).trans s1111
             have s1134 := (hF1123 16).trans s1112
             have s1135 : F1122 17 = .int .i64 (leftF (f) (p) (x) (y) ((((n / 4) : Nat) : Int))) := (hF1123 17).trans rfl
             clear hF1123
             refine then_normal ?_
             refine wq_seq ?_
             refine wq_region ?_
             refine wl_v (.int .i64 (3)) rfl rfl (y_mov rfl s1127 ⟨rfl, rfl⟩) ?_
             refine wl_nil fun F1136 hF1137 => ?_
             have s1138 := (hF1137 1).trans s1124
             have s1139 := (hF1137 2).trans s1125
             have s1140 := (hF1137 3).trans s1126
             have s1141 := (hF1137 4).trans s1127
             have s1142 := (hF1137 5).trans s1128
             have s1143 := (hF1137 10).trans s1129
             have s1144 := (hF1137 12).trans s1130
             have s1145 := (hF1137 13).trans s1131
             have s1146 := (hF1137 116).trans s1132
             have s1147 := (hF1137 15).trans s1133
             have s1148 := (hF1137 16).trans s1134
             have s1149 := (hF1137 17).trans s1135
             have s1150 : F1136 91 = .int .i64 (3) := (hF1137 91).trans rfl
             clear hF1137
             refine then_normal ?_
             refine wq_block ?_
             refine wq_seq ?_
             refine wq_region ?_
             refine wl_v (.bool false) rfl rfl (y_eqlI rfl s1150 rfl rfl ⟨rfl, rfl⟩) ?_
             refine wl_v (.bool false) rfl rfl (y_asg rfl rfl ⟨rfl, rfl⟩) ?_
             refine wl_nil fun F1151 hF1152 => ?_
             have s1153 := (hF1152 1).trans s1138
             have s1154 := (hF1152 2).trans s1139
             have s1155 := (hF1152 3).trans s1140
             have s1156 := (hF1152 4).trans s1141
             have s1157 := (hF1152 5).trans s1142
             have s1158 := (hF1152 10).trans s1143
             have s1159 := (hF1152 12).trans s1144
             have s1160 := (hF1152 13).trans s1145
             have s1161 := (hF1152 116).trans s1146
             have s1162 := (hF1152 15).trans s1147
             have s1163 := (hF1152 16).trans s1148
             have s1164 := (hF1152 17).trans s1149
             have s1165 := (hF1152 91).trans s1150
             have s1166 : F1151 99 = .bool false := (hF1152 99).trans rfl
             clear hF1152
             refine then_normal ?_
             refine wq_cond (t := false) s1166 (fun e => by cases e) (fun _ => ?_)
             refine wq_seq ?_
             refine wq_region ?_
             refine wl_v (.bool false) rfl rfl (y_eqlI rfl s1165 rfl rfl ⟨rfl, rfl⟩) ?_
             refine wl_v (.bool false) rfl rfl (y_asg rfl rfl ⟨rfl, rfl⟩) ?_
             refine wl_nil fun F1167 hF1168 => ?_
             have s1169 := (hF1168 1).trans s1153
             have s1170 := (hF1168 2).trans s1154
             have s1171 := (hF1168 3).trans s1155
             have s1172 := (hF1168 4).trans s1156
             have s1173 := (hF1168 5).trans s1157
             have s1174 := (hF1168 10).trans s1158
             have s1175 := (hF1168 12).trans s1159
             have s1176 := (hF1168 13).trans s1160
             have s1177 := (hF1168 116).trans s1161
             have s1178 := (hF1168 15).trans s1162
             have s1179 := (hF1168 16).trans s1163
             have s1180 := (hF1168 17).trans s1164
             have s1181 := (hF1168 91).trans s1165
             have s1182 : F1167 105 = .bool false := (hF1168 105).trans rfl
             clear hF1168
             refine then_normal ?_
             refine wq_cond (t := false) s1182 (fun e => by cases e) (fun _ => ?_)
             refine wq_seq ?_
             refine wq_region ?_
             refine wl_v (.bool false) rfl rfl (y_eqlI rfl s1181 rfl rfl ⟨rfl, rfl⟩) ?_
             refine wl_v (.bool false) rfl rfl (y_asg rfl rfl ⟨rfl, rfl⟩) ?_
             refine wl_nil fun F1183 hF1184 => ?_
             have s1185 := (hF1184 1).trans s1169
             have s1186 := (hF1184 2).trans s1170
             have s1187 := (hF1184 3).trans s1171
             have s1188 := (hF1184 4).trans s1172
             have s1189 := (hF1184 5).trans s1173
             have s1190 := (hF1184 10).trans s1174
             have s1191 := (hF1184 12).trans s1175
             have s1192 := (hF1184 13).trans s1176
             have s1193 := (hF1184 116).trans s1177
             have s1194 := (hF1184 15).trans s1178
             have s1195 := (hF1184 16).trans s1179
             have s1196 := (hF1184 17).trans s1180
             have s1197 : F1183 110 = .bool false := (hF1184 110).trans rfl
             clear hF1184
             refine then_normal ?_
             refine wq_cond (t := false) s1197 (fun e => by cases e) (fun _ => ?_)
             refine wq_region ?_
             refine wl_v (.int .i64 (((n : Nat) : Int))) rfl rfl (y_mov rfl s1194 ⟨rfl, rfl⟩) ?_
             refine wl_v (.int .i64 (aboveF (f) (p) (x) (y) ((((n % 4) : Nat) : Int)))) rfl rfl (y_mov rfl s1195 ⟨rfl, rfl⟩) ?_
             refine wl_v (.int .i64 (leftF (f) (p) (x) (y) ((((n / 4) : Nat) : Int)))) rfl rfl (y_mov rfl s1196 ⟨rfl, rfl⟩) ?_
             refine wl_v (.int .i64 ((aboveF (f) (p) (x) (y) ((((n % 4) : Nat) : Int))) + (leftF (f) (p) (x) (y) ((((n / 4) : Nat) : Int))))) rfl rfl (y_add rfl rfl rfl (i64_i rfl (by omega)) ⟨rfl, rfl⟩) ?_
             refine wl_v (.int .i64 (((aboveF (f) (p) (x) (y) ((((n % 4) : Nat) : Int))) + (leftF (f) (p) (x) (y) ((((n / 4) : Nat) : Int)))) + (1))) rfl rfl (y_add rfl rfl rfl (i64_i rfl (by omega)) ⟨rfl, rfl⟩) ?_
             refine wl_v (.int .i64 (Int.tdiv (aboveF f p x y ((n % 4 : Nat) : Int) + leftF f p x y ((n / 4 : Nat) : Int) + 1) 2)) rfl rfl (y_quo rfl rfl rfl (by first | decide | omega) (i64_i rfl (by rw [tdiv2 (by omega)]; omega)) ⟨rfl, rfl⟩) ?_
             refine wl_v (.pointer (some ⟨p39, n, none⟩)) rfl rfl (y_atR (n) (s := 1) rfl s1191 rfl (by omega) Tryz.underlying28 (by omega) (by kernel_rfl) (by omega) ⟨rfl, rfl⟩) ?_
             refine wl_set_blk rfl rfl rfl rfl rfl B1120 (by omega) (by kernel_rfl) fun w1198 B1199 k1200 => ?_
             have B1201 := B1115.all k1200 (fun i h x => (((ap46).symm) i h x))
             have B1202 := B1116.all k1200 (fun i h x => (((ap47).symm) i h x))
             have B1203 := B1117.all k1200 (fun i h x => (((ap48).symm) i h x))
             have B1204 := B1118.all k1200 (fun x => (((ap49).symm) p1 rfl x))
             have B1205 := B1119.all k1200 (fun x => (((ap50).symm) p14 rfl x))
             have K1206 := K1121.trans k1200 (Grew.ok (S := fun _ => False) gr45 noB_le)
             refine wl_nil fun F1207 hF1208 => ?_
             have s1209 := (hF1208 1).trans s1185
             have s1210 := (hF1208 2).trans s1186
             have s1211 := (hF1208 3).trans s1187
             have s1212 := (hF1208 4).trans s1188
             have s1213 := (hF1208 5).trans s1189
             have s1214 := (hF1208 10).trans s1190
             have s1215 := (hF1208 12).trans s1191
             have s1216 := (hF1208 13).trans s1192
             have s1217 := (hF1208 116).trans s1193
             have s1218 := (hF1208 15).trans s1194
             clear hF1208
             refine in_normal ?_
             refine in_normal ?_
             refine then_normal ?_
             refine wq_region ?_
             refine wl_v (.int .i64 (((n : Nat) : Int))) rfl rfl (y_mov rfl s1218 ⟨rfl, rfl⟩) ?_
             refine wl_v (.int .i64 (((n + 1 : Nat) : Int))) rfl rfl (y_add rfl rfl rfl (i64_n (by omega) (by omega)) ⟨rfl, rfl⟩) ?_
             refine wl_v (.int .i64 (((n + 1 : Nat) : Int))) rfl rfl (y_asg rfl rfl ⟨rfl, rfl⟩) ?_
             refine wl_nil fun F1219 hF1220 => ?_
             have s1221 := (hF1220 1).trans s1209
             have s1222 := (hF1220 2).trans s1210
             have s1223 := (hF1220 3).trans s1211
             have s1224 := (hF1220 4).trans s1212
             have s1225 := (hF1220 5).trans s1213
             have s1226 := (hF1220 10).trans s1214
             have s1227 := (hF1220 12).trans s1215
             have s1228 := (hF1220 13).trans s1216
             have s1229 := (hF1220 116).trans s1217
             have s1230 : F1219 15 = .int .i64 (((n + 1 : Nat) : Int)) := (hF1220 15).trans rfl
             clear hF1220
             exact then_normal ⟨(16 - (n + 1)), by omega, n + 1, by omega, rfl, s1221, s1222, s1223, s1224, s1225, s1226, s1227, s1228, s1229, s1230, K1206, B1201, B1202, B1203, B1204, B1205, (B1199.next rfl)⟩
            ·replace c1090 := of_decide_eq_false c1090
             refine wq_exit ?_
             refine then_exit ?_
             refine then_exit ?_
             have l1231 : 16 = n := by omega
             subst l1231
             have B1232 : Blk w1057 p39 28 (predN f p x y 3) := (B1076.last)
             refine in_here ?_
             refine then_normal ?_
             refine wq_seq ?_
             refine wq_region ?_
             refine wl_v (blkV (predN f p x y 3)) rfl rfl (y_load_blk blkT_arr rfl s1085 B1232 ⟨rfl, rfl⟩) ?_
             refine wl_store_blk blkT_arr rfl rfl rfl s1084 rfl B1075 fun w1233 B1234 k1235 => ?_
             have K1241 := K1058.trans k1235 (Grew.ok (S := fun _ => False) gr20 noB_le)
             refine wl_v (.int .i64 (0)) rfl rfl (y_asg rfl rfl ⟨rfl, rfl⟩) ?_
             refine wl_nil fun F1242 hF1243 => ?_
             have s1244 := (hF1243 10).trans s1084
             have s1245 := (hF1243 116).trans s1087
             have s1246 : F1242 11 = .int .i64 (0) := (hF1243 11).trans rfl
             clear hF1243
             refine then_normal ?_
             refine wq_ret ?_
             exact end_2 s1245 rfl (res_blk blkT_arr rfl s1244 B1234) (res_tmp (v := .int .i64 (0)) rfl s1246) ⟨(by first | rw [(pred_no hno).1, (pred_no hno).2] | rw [(pred_none hpl (by omega)).1, (pred_none hpl (by omega)).2] | rw [(pred_yes hpl (by decide)).1, (pred_yes hpl (by decide)).2]), K1241⟩

end Go.Proofs.YtdcbabgcbkdlhaaGreatDoor
