/- What PictureStill reaches of my texts, part 4. -/
import Derived.Test.YtknjpdcpmpfklaaGreatDoorPictureStillC
set_option maxRecDepth 100000
set_option maxHeartbeats 4000000
set_option maxRecDepth 100000
namespace Go.Proofs.YtknjpdcpmpfklaaGreatDoor
open Go.RowKit
theorem arrT_edge : ArrT 172 4 := ArrT.of Tryz.underlying172 (by kernel_rfl)
theorem stcT_fn4 : StcT Tryz.prog 169 4 := ⟨_, Tryz.underlying169, rfl, by kernel_rfl⟩
theorem Arr.first {w : World} {p n : Nat} {t : TypeId} {b c : Nat → Int} (h : Arr w p t n b) : Arr w p t n (upto 0 b c) := by rw [upto_zero]; exact h
theorem Arr.next {w : World} {p n : Nat} {t : TypeId} {b c : Nat → Int} {k : Nat} {x : Int} (h : Arr w p t n (upd (upto k b c) k x)) (e : x = c k) : Arr w p t n (upto (k + 1) b c) := by rw [← upto_set, ← e]; exact h
theorem upd_twice (b : Nat → Int) (k : Nat) (x y : Int) : upd (upd b k x) k y = upd b k y := by funext i; unfold upd; split <;> rfl
theorem Arr.next2 {w : World} {p n : Nat} {t : TypeId} {b c : Nat → Int} {k : Nat} {x y : Int} (h : Arr w p t n (upd (upd (upto k b c) k x) k y)) (e : y = c k) : Arr w p t n (upto (k + 1) b c) := by rw [upd_twice] at h; exact h.next e
theorem Arr.last {w : World} {p n : Nat} {t : TypeId} {b c : Nat → Int} (h : Arr w p t n (upto n b c)) : Arr w p t n c := h.congr (fun i hi => by simp [upto, hi])
theorem is_place (n : Int) (w0 : World) :
  Calls Tryz.prog 139 #[.int .i64 (n)] w0 fun e w' => e = .returned (.bool (decide (0 ≤ n ∧ n ≤ 64))) ∧ Kept (fun _ => False) w0 w' := by
 refine calls_wq (args := [iv n]) 9 Tryz.func139 rfl rfl (Nat.le_of_ble_eq_true rfl) ?_
 have K0 := Kept.refl (fun _ => False) w0
 refine wq_seq (wq_region (wl_v (.bool false) rfl rfl (y_asg rfl rfl rr) (wl_nil fun F1 hF2 => ?_)))
 have s3 : F1 0 = iv n := (hF2 0).trans rfl
 have s4 : F1 9 = undef := (hF2 9).trans rfl
 clear hF2
 refine then_normal (wq_seq ?_)
 by_cases d5 : 0 ≤ n
 ·skip
  refine wq_region (wl_mv rfl rfl rfl s3 (wl_v (.bool true) rfl rfl (y_geq rfl rfl rfl (decide_eq_true d5) rr) (wl_v (.bool true) rfl rfl (y_mov rfl rfl rr) (wl_vw (iv n) 2 true 5 rfl rfl rfl rfl rfl (y_mov rfl s3 rr) (wl_vw (.bool (decide (n ≤ 64))) 2 true 5 rfl rfl rfl rfl rfl (y_leq rfl rfl rfl rfl rr) (wl_v (.bool (decide (n ≤ 64))) rfl rfl (y_pickT rfl rfl rfl rr) (wl_v (.bool (decide (n ≤ 64))) rfl rfl (y_asg rfl rfl rr) (wl_nil fun F6 hF7 => ?_))))))))
  have s8 := (hF7 9).trans s4
  have s9 : F6 2 = .bool (decide (n ≤ 64)) := (hF7 2).trans rfl
  clear hF7
  refine then_normal (wq_ret ?_)
  exact end_tmp (v := .bool (decide (n ≤ 64))) s8 rfl rfl s9 ⟨(retB (by first | exact (decide_eq_true (by omega)).symm | exact (decide_eq_false (by omega)).symm | exact decide_eq_decide.2 (by omega))), K0⟩
 ·skip
  refine wq_region (wl_mv rfl rfl rfl s3 (wl_v (.bool false) rfl rfl (y_geq rfl rfl rfl (decide_eq_false d5) rr) (wl_v (.bool false) rfl rfl (y_mov rfl rfl rr) (wl_unless 2 true 5 rfl rfl rfl (Or.inl rfl) rfl (wl_unless 2 true 5 rfl rfl rfl (Or.inl rfl) rfl (wl_v (.bool false) rfl rfl (y_pickF rfl rfl rfl rr) (wl_v (.bool false) rfl rfl (y_asg rfl rfl rr) (wl_nil fun F10 hF11 => ?_))))))))
  have s12 := (hF11 9).trans s4
  have s13 : F10 2 = .bool false := (hF11 2).trans rfl
  clear hF11
  refine then_normal (wq_ret ?_)
  exact end_tmp (v := .bool false) s12 rfl rfl s13 ⟨(retB (by first | exact (decide_eq_true (by omega)).symm | exact (decide_eq_false (by omega)).symm | exact decide_eq_decide.2 (by omega))), K0⟩
theorem is_above1 (p x y : Int) (k : Nat) (f : FD) (f0 f1 f2 : Value) (b1 : Nat) (b2 : Nat) (b3 : Nat) (b4 : Nat) (T_f0 : Nat → Prop) (T_f1 : Nat → Prop) (T_f2 : Nat → Prop) (w0 : World) (hx : 0 ≤ x ∧ x ≤ 64) (hy : 0 ≤ y ∧ y ≤ 64) (hk : k < 4) (h_f0 : Byt w0 T_f0 f0 ((f).p0)) (h_f1 : Byt w0 T_f1 f1 ((f).p1)) (h_f2 : Byt w0 T_f2 f2 ((f).p2)) (h_b1 : Stc w0 b1 29 [.int .i64 ((f).W), .int .i64 ((f).H), f0, f1, f2]) (h_b2 : Cel w0 b2 3 (.int .i64 (p))) (h_b3 : Cel w0 b3 3 (.int .i64 (x))) (h_b4 : Cel w0 b4 3 (.int .i64 (y))) :
  Calls Tryz.prog 164 #[.int .i64 (((k : Nat) : Int)), .pointer (some ⟨b1, 0, none⟩), .pointer (some ⟨b2, 0, none⟩), .pointer (some ⟨b3, 0, none⟩), .pointer (some ⟨b4, 0, none⟩)] w0 fun e w' => e = .returned (.int .i64 (atF f p (x + (k : Int)) (y - 1))) ∧ Kept (fun _ => False) w0 w' := by
 refine calls_wq (args := [iv ((k : Nat) : Int), pt b1 0, pt b2 0, pt b3 0, pt b4 0]) 15 Tryz.func164 rfl rfl (Nat.le_of_ble_eq_true rfl) ?_
 have K0 := Kept.refl (fun _ => False) w0
 have g_f0 := Grew.refl w0 T_f0
 have g_f1 := Grew.refl w0 T_f1
 have g_f2 := Grew.refl w0 T_f2
 refine wq_seq (wq_region (wl_v (iv 0) rfl rfl (y_asg rfl rfl rr) (wl_nil fun F1 hF2 => ?_)))
 have s3 : F1 0 = iv ((k : Nat) : Int) := (hF2 0).trans rfl
 have s4 : F1 1 = pt b1 0 := (hF2 1).trans rfl
 have s5 : F1 2 = pt b2 0 := (hF2 2).trans rfl
 have s6 : F1 3 = pt b3 0 := (hF2 3).trans rfl
 have s7 : F1 4 = pt b4 0 := (hF2 4).trans rfl
 have s8 : F1 15 = undef := (hF2 15).trans rfl
 clear hF2
 refine then_normal (wq_seq (wq_region (wl_v (.agg #[iv (f.W), iv (f.H), f0, f1, f2]) rfl rfl (y_load_stc stcT_frame rfl s4 h_b1 rr) (wl_v (iv p) rfl rfl (y_load_cel rfl s5 Tryz.underlying3 h_b2 rfl rr) (wl_v (iv x) rfl rfl (y_load_cel rfl s6 Tryz.underlying3 h_b3 rfl rr) (wl_mv rfl rfl rfl s3 (wl_v (iv (x + ((k : Nat) : Int))) rfl rfl (y_add rfl rfl rfl (i64_i rfl (by omega)) rr) (wl_v (iv y) rfl rfl (y_load_cel rfl s7 Tryz.underlying3 h_b4 rfl rr) (wl_v (iv (y - 1)) rfl rfl (y_sub rfl rfl rfl (i64_i rfl (by omega)) rr) (wl_cs rfl rfl rfl rfl rfl (fun _ _ => by kernel_rfl) (vsC rfl (vsC rfl (vsC rfl (vsC rfl vsN)))) (pl_at p (x + ((k : Nat) : Int)) (y - 1) f f0 f1 f2 T_f0 T_f1 T_f2 _  h_f0 h_f1 h_f2 ) fun w9 k10 => ?_))))))))))
 have K18 := K0.tr k10
 refine wl_v (iv (atF f p (x + ((k : Nat) : Int)) (y - 1))) rfl rfl (y_asg rfl rfl rr) (wl_nil fun F19 hF20 => ?_)
 have s21 := (hF20 15).trans s8
 have s22 : F19 6 = iv (atF f p (x + ((k : Nat) : Int)) (y - 1)) := (hF20 6).trans rfl
 clear hF20
 refine then_normal (wq_ret ?_)
 exact end_tmp (v := iv (atF f p (x + ((k : Nat) : Int)) (y - 1))) s21 rfl rfl s22 ⟨rfl, K18⟩
theorem is_left1 (p x y : Int) (k : Nat) (f : FD) (f0 f1 f2 : Value) (b1 : Nat) (b2 : Nat) (b3 : Nat) (b4 : Nat) (T_f0 : Nat → Prop) (T_f1 : Nat → Prop) (T_f2 : Nat → Prop) (w0 : World) (hx : 0 ≤ x ∧ x ≤ 64) (hy : 0 ≤ y ∧ y ≤ 64) (hk : k < 4) (h_f0 : Byt w0 T_f0 f0 ((f).p0)) (h_f1 : Byt w0 T_f1 f1 ((f).p1)) (h_f2 : Byt w0 T_f2 f2 ((f).p2)) (h_b1 : Stc w0 b1 29 [.int .i64 ((f).W), .int .i64 ((f).H), f0, f1, f2]) (h_b2 : Cel w0 b2 3 (.int .i64 (p))) (h_b3 : Cel w0 b3 3 (.int .i64 (x))) (h_b4 : Cel w0 b4 3 (.int .i64 (y))) :
  Calls Tryz.prog 165 #[.int .i64 (((k : Nat) : Int)), .pointer (some ⟨b1, 0, none⟩), .pointer (some ⟨b2, 0, none⟩), .pointer (some ⟨b3, 0, none⟩), .pointer (some ⟨b4, 0, none⟩)] w0 fun e w' => e = .returned (.int .i64 (atF f p (x - 1) (y + (k : Int)))) ∧ Kept (fun _ => False) w0 w' := by
 refine calls_wq (args := [iv ((k : Nat) : Int), pt b1 0, pt b2 0, pt b3 0, pt b4 0]) 15 Tryz.func165 rfl rfl (Nat.le_of_ble_eq_true rfl) ?_
 have K0 := Kept.refl (fun _ => False) w0
 have g_f0 := Grew.refl w0 T_f0
 have g_f1 := Grew.refl w0 T_f1
 have g_f2 := Grew.refl w0 T_f2
 refine wq_seq (wq_region (wl_v (iv 0) rfl rfl (y_asg rfl rfl rr) (wl_nil fun F1 hF2 => ?_)))
 have s3 : F1 0 = iv ((k : Nat) : Int) := (hF2 0).trans rfl
 have s4 : F1 1 = pt b1 0 := (hF2 1).trans rfl
 have s5 : F1 2 = pt b2 0 := (hF2 2).trans rfl
 have s6 : F1 3 = pt b3 0 := (hF2 3).trans rfl
 have s7 : F1 4 = pt b4 0 := (hF2 4).trans rfl
 have s8 : F1 15 = undef := (hF2 15).trans rfl
 clear hF2
 refine then_normal (wq_seq (wq_region (wl_v (.agg #[iv (f.W), iv (f.H), f0, f1, f2]) rfl rfl (y_load_stc stcT_frame rfl s4 h_b1 rr) (wl_v (iv p) rfl rfl (y_load_cel rfl s5 Tryz.underlying3 h_b2 rfl rr) (wl_v (iv x) rfl rfl (y_load_cel rfl s6 Tryz.underlying3 h_b3 rfl rr) (wl_v (iv (x - 1)) rfl rfl (y_sub rfl rfl rfl (i64_i rfl (by omega)) rr) (wl_v (iv y) rfl rfl (y_load_cel rfl s7 Tryz.underlying3 h_b4 rfl rr) (wl_mv rfl rfl rfl s3 (wl_v (iv (y + ((k : Nat) : Int))) rfl rfl (y_add rfl rfl rfl (i64_i rfl (by omega)) rr) (wl_cs rfl rfl rfl rfl rfl (fun _ _ => by kernel_rfl) (vsC rfl (vsC rfl (vsC rfl (vsC rfl vsN)))) (pl_at p (x - 1) (y + ((k : Nat) : Int)) f f0 f1 f2 T_f0 T_f1 T_f2 _  h_f0 h_f1 h_f2 ) fun w9 k10 => ?_))))))))))
 have K18 := K0.tr k10
 refine wl_v (iv (atF f p (x - 1) (y + ((k : Nat) : Int)))) rfl rfl (y_asg rfl rfl rr) (wl_nil fun F19 hF20 => ?_)
 have s21 := (hF20 15).trans s8
 have s22 : F19 6 = iv (atF f p (x - 1) (y + ((k : Nat) : Int))) := (hF20 6).trans rfl
 clear hF20
 refine then_normal (wq_ret ?_)
 exact end_tmp (v := iv (atF f p (x - 1) (y + ((k : Nat) : Int)))) s21 rfl rfl s22 ⟨rfl, K18⟩
def edgeOf (ahead : Int) (g : Nat → Int) : Nat → Int := fun i => if ahead > 0 then g i else 128
theorem edge_yes {a : Int} {g : Nat → Int} {k : Nat} (h : a > 0) : g k = edgeOf a g k := (if_pos h).symm
theorem edge_no {a : Int} {g : Nat → Int} {k : Nat} (h : ¬ a > 0) : 128 = edgeOf a g k := (if_neg h).symm
theorem is_along (ahead : Int) (fv : Value) (g : Nat → Int) (w0 : World) (hg : Ask1 w0 4 fv g) :
  Calls Tryz.prog 163 #[.int .i64 (ahead), fv] w0 fun e w' => e = .returned (.agg (arrL 4 (edgeOf ahead g)).toArray) ∧ Kept (fun _ => False) w0 w' := by
 refine calls_wq (args := [iv ahead, fv]) 21 Tryz.func163 rfl rfl (Nat.le_of_ble_eq_true rfl) ?_
 have K0 := Kept.refl (fun _ => False) w0
 refine wq_seq (wq_region (wl_alloc_arr rfl rfl rfl arrT_edge.2.2 fun p1 w2 e5 B3 k4 => ?_))
 have g6 := onB_new (Nat.le_of_eq e5.symm)
 have gr7 : Grew w0 noB (onB p1) := Grew.new K0 g6
 clear e5 g6
 have K8 := K0.tr k4
 refine wl_nil fun F9 hF10 => ?_
 have s11 : F9 0 = iv ahead := (hF10 0).trans rfl
 have s12 : F9 1 = fv := (hF10 1).trans rfl
 have s13 : F9 21 = undef := (hF10 21).trans rfl
 have s14 : F9 4 = pt p1 0 := (hF10 4).trans rfl
 clear hF10
 refine then_normal (wq_seq (wq_region (wl_alloc_arr rfl rfl rfl arrT_edge.2.2 fun p15 w16 e19 B17 k18 => ?_)))
 have g20 := onB_new (Nat.le_of_eq e19.symm)
 have gr21 : Grew w0 noB (onB p15) := Grew.new K8 g20
 have ap22 : Apart (onB p15) (onB p1) := Apart.new g20 (onB_live B3.lt)
 clear e19 g20
 have B23 := B3.all k18 id
 have K24 := K8.tr k18
 refine wl_nil fun F25 hF26 => ?_
 obtain ⟨s27, s28, s29, s30⟩ := t4 hF26 0 s11 1 s12 21 s13 4 s14
 have s31 : F25 5 = pt p15 0 := (hF26 5).trans rfl
 clear hF26
 refine then_normal (wq_seq (wq_seq (wq_region (wl_v (iv 0) rfl rfl (y_mov rfl rfl rr) (wl_nil fun F32 hF33 => ?_)))))
 obtain ⟨s34, s35, s36, s37, s38⟩ := t5 hF33 0 s27 1 s28 21 s29 4 s30 5 s31
 have s39 : F32 7 = iv 0 := (hF33 7).trans rfl
 clear hF33
 refine then_normal (wq_block (wq_loop (fun nn FF ww => ∃ (k : Nat), (k ≤ 4) ∧ nn = 4 - k ∧ FF 0 = iv ahead ∧ FF 1 = fv ∧ FF 4 = pt p1 0 ∧ FF 5 = pt p15 0 ∧ FF 21 = undef ∧ FF 7 = iv ((k : Nat) : Int) ∧ Kept (fun _ => False) w0 ww ∧ Arr ww p1 172 4 (fun _ => 0) ∧ Arr ww p15 172 4 (upto k (fun _ => 0) (edgeOf ahead g))) (4 - 0) ⟨0, by omega, rfl, s34, s35, s37, s38, s36, s39, K24, B23, B17.first⟩ ?_))
 rintro n43 F40 w41 ⟨k, i44, hn43, s45, s46, s47, s48, s49, s50, K42, B51, B52⟩
 refine wq_seq (wq_region (wl_v (.bool (decide (((k : Nat) : Int) < 4))) rfl rfl (y_lss rfl s50 rfl rfl rr) (wl_nil fun F53 hF54 => ?_)))
 obtain ⟨s55, s56, s57, s58, s59, s60⟩ := t6 hF54 0 s45 1 s46 4 s47 5 s48 21 s49 7 s50
 have s61 : F53 8 = .bool (decide (((k : Nat) : Int) < 4)) := (hF54 8).trans rfl
 clear hF54
 refine then_normal (wq_seq ?_)
 refine wq_cond s61 (fun c62 => ?_) (fun c62 => ?_)
 ·replace c62 := of_decide_eq_true c62
  refine wq_skip (then_normal (wq_seq (wq_block (wq_seq (wq_region (wl_mv rfl rfl rfl s60 (wl_v (iv ((k : Nat) : Int)) rfl rfl (y_asg rfl rfl rr) (wl_nil fun F63 hF64 => ?_))))))))
  obtain ⟨s65, s66, s67, s68, s69, s70⟩ := t6 hF64 0 s55 1 s56 4 s57 5 s58 21 s59 7 s60
  have s71 : F63 6 = iv ((k : Nat) : Int) := (hF64 6).trans rfl
  clear hF64
  refine then_normal (wq_seq (wq_region (wl_mv rfl rfl rfl s71 (wl_v (.pointer (some ⟨p15, k, none⟩)) rfl rfl (y_atR k (s := 1) rfl s68 rfl (by omega) Tryz.underlying172 (by omega) (by kernel_rfl) (by omega) rr) (wl_set_arr rfl rfl rfl rfl rfl B52 (by omega) (by kernel_rfl) fun w72 B73 k74 => ?_)))))
  have B75 := B51.all k74 (ap22.symm p1 rfl)
  have K76 := K42.trans k74 (Grew.ok (S := fun _ => False) gr21 noB_le)
  refine wl_nil fun F77 hF78 => ?_
  obtain ⟨s79, s80, s81, s82, s83, s84, s85⟩ := t7 hF78 0 s65 1 s66 4 s67 5 s68 21 s69 7 s70 6 s71
  clear hF78
  refine then_normal (wq_seq (wq_region (wl_mv rfl rfl rfl s79 (wl_v (.bool (decide (0 < ahead))) rfl rfl (y_gtr rfl rfl rfl rfl rr) (wl_nil fun F86 hF87 => ?_)))))
  obtain ⟨s88, s89, s90, s91, s92, s93, s94⟩ := t7 hF87 0 s79 1 s80 4 s81 5 s82 21 s83 7 s84 6 s85
  have s95 : F86 13 = .bool (decide (0 < ahead)) := (hF87 13).trans rfl
  clear hF87
  refine then_normal ?_
  refine wq_cond s95 (fun c96 => ?_) (fun c96 => ?_)
  ·replace c96 := of_decide_eq_true c96
   refine wq_region (wl_mv rfl rfl rfl s94 (wl_mv rfl rfl rfl s89 (wl_mv rfl rfl rfl s94 (wl_call (R := fun v_ w_ => v_ = iv (g k) ∧ Kept (fun _ => False) w72 w_) rfl rfl (y_ask1 rfl rfl rfl rfl rfl (hg.all K76) (by omega) (fun e_ w_ h_ => ⟨_, h_.1, rfl, h_.2⟩)) ?_))))
   rintro _ w97 ⟨rfl, k98⟩
   have B99 := B75.all k98 id
   have B100 := B73.all k98 id
   have K101 := K76.tr k98
   refine wl_v (.pointer (some ⟨p15, k, none⟩)) rfl rfl (y_atR k (s := 1) rfl s91 rfl (by omega) Tryz.underlying172 (by omega) (by kernel_rfl) (by omega) rr) (wl_set_arr rfl rfl rfl rfl rfl B100 (by omega) (by kernel_rfl) fun w102 B103 k104 => ?_)
   have B105 := B99.all k104 (ap22.symm p1 rfl)
   have K106 := K101.trans k104 (Grew.ok (S := fun _ => False) gr21 noB_le)
   refine wl_nil fun F107 hF108 => ?_
   obtain ⟨s109, s110, s111, s112, s113, s114⟩ := t6 hF108 0 s88 1 s89 4 s90 5 s91 21 s92 7 s93
   clear hF108
   refine in_normal (then_normal (wq_region (wl_v (iv ((k + 1 : Nat) : Int)) rfl rfl (y_add rfl s114 rfl (i64_n (by omega) (by omega)) rr) (wl_v (iv ((k + 1 : Nat) : Int)) rfl rfl (y_mov rfl rfl rr) (wl_nil fun F115 hF116 => ?_)))))
   obtain ⟨s117, s118, s119, s120, s121⟩ := t5 hF116 0 s109 1 s110 4 s111 5 s112 21 s113
   have s122 : F115 7 = iv ((k + 1 : Nat) : Int) := (hF116 7).trans rfl
   clear hF116
   exact then_normal ⟨(4 - (k + 1)), by omega, k + 1, by omega, rfl, s117, s118, s119, s120, s121, s122, K106, B105, (by first | exact B103.next2 (edge_yes (by omega)) | exact B103.next (edge_no (by omega)))⟩
  ·replace c96 := of_decide_eq_false c96
   refine wq_skip (in_normal (then_normal (wq_region (wl_v (iv ((k + 1 : Nat) : Int)) rfl rfl (y_add rfl s93 rfl (i64_n (by omega) (by omega)) rr) (wl_v (iv ((k + 1 : Nat) : Int)) rfl rfl (y_mov rfl rfl rr) (wl_nil fun F123 hF124 => ?_))))))
   obtain ⟨s125, s126, s127, s128, s129⟩ := t5 hF124 0 s88 1 s89 4 s90 5 s91 21 s92
   have s130 : F123 7 = iv ((k + 1 : Nat) : Int) := (hF124 7).trans rfl
   clear hF124
   exact then_normal ⟨(4 - (k + 1)), by omega, k + 1, by omega, rfl, s125, s126, s127, s128, s129, s130, K76, B75, (by first | exact B73.next2 (edge_yes (by omega)) | exact B73.next (edge_no (by omega)))⟩
 ·replace c62 := of_decide_eq_false c62
  refine wq_exit (then_exit (then_exit ?_))
  have l131 : 4 = k := by omega
  subst l131
  have B132 : Arr w41 p15 172 4 (edgeOf ahead g) := (B52.last)
  refine in_here (then_normal (wq_seq (wq_region (wl_v (.agg (arrL 4 (edgeOf ahead g)).toArray) rfl rfl (y_load_arr arrT_edge rfl s58 B132 rr) (wl_store_arr arrT_edge rfl rfl rfl s57 rfl B51 fun w133 B134 k135 => ?_)))))
  have K137 := K42.trans k135 (Grew.ok (S := fun _ => False) gr7 noB_le)
  refine wl_nil fun F138 hF139 => ?_
  obtain ⟨s140, s141⟩ := t2 hF139 4 s57 21 s59
  clear hF139
  refine then_normal (wq_ret ?_)
  exact end_arr arrT_edge s141 rfl rfl s140 B134 ⟨rfl, K137⟩
theorem above_ask {p x y : Int} {f : FD} {f0 f1 f2 : Value} {b1 b2 b3 b4 : Nat} {T0 T1 T2 : Nat → Prop} {w : World} (hx : 0 ≤ x ∧ x ≤ 64) (hy : 0 ≤ y ∧ y ≤ 64) (h0 : Byt w T0 f0 f.p0) (h1 : Byt w T1 f1 f.p1) (h2 : Byt w T2 f2 f.p2)
    (g1 : Stc w b1 29 [.int .i64 f.W, .int .i64 f.H, f0, f1, f2]) (g2 : Cel w b2 3 (.int .i64 p)) (g3 : Cel w b3 3 (.int .i64 x)) (g4 : Cel w b4 3 (.int .i64 y)) :
    Ask1 w 4 (.func (.func 164) #[] #[.pointer (some ⟨b1, 0, none⟩), .pointer (some ⟨b2, 0, none⟩), .pointer (some ⟨b3, 0, none⟩), .pointer (some ⟨b4, 0, none⟩)]) (fun k => atF f p (x + (k : Int)) (y - 1)) :=
  ⟨_, [.pointer (some ⟨b1, 0, none⟩), .pointer (some ⟨b2, 0, none⟩), .pointer (some ⟨b3, 0, none⟩), .pointer (some ⟨b4, 0, none⟩)], rfl, fun _ _ => by kernel_rfl, fun w' k i hi =>
    is_above1 p x y i f f0 f1 f2 b1 b2 b3 b4 T0 T1 T2 w' hx hy hi (h0.all k Apart.none) (h1.all k Apart.none) (h2.all k Apart.none) (g1.all k id) (g2.all k id) (g3.all k id) (g4.all k id)⟩
theorem left_ask {p x y : Int} {f : FD} {f0 f1 f2 : Value} {b1 b2 b3 b4 : Nat} {T0 T1 T2 : Nat → Prop} {w : World} (hx : 0 ≤ x ∧ x ≤ 64) (hy : 0 ≤ y ∧ y ≤ 64) (h0 : Byt w T0 f0 f.p0) (h1 : Byt w T1 f1 f.p1) (h2 : Byt w T2 f2 f.p2)
    (g1 : Stc w b1 29 [.int .i64 f.W, .int .i64 f.H, f0, f1, f2]) (g2 : Cel w b2 3 (.int .i64 p)) (g3 : Cel w b3 3 (.int .i64 x)) (g4 : Cel w b4 3 (.int .i64 y)) :
    Ask1 w 4 (.func (.func 165) #[] #[.pointer (some ⟨b1, 0, none⟩), .pointer (some ⟨b2, 0, none⟩), .pointer (some ⟨b3, 0, none⟩), .pointer (some ⟨b4, 0, none⟩)]) (fun k => atF f p (x - 1) (y + (k : Int))) :=
  ⟨_, [.pointer (some ⟨b1, 0, none⟩), .pointer (some ⟨b2, 0, none⟩), .pointer (some ⟨b3, 0, none⟩), .pointer (some ⟨b4, 0, none⟩)], rfl, fun _ _ => by kernel_rfl, fun w' k i hi =>
    is_left1 p x y i f f0 f1 f2 b1 b2 b3 b4 T0 T1 T2 w' hx hy hi (h0.all k Apart.none) (h1.all k Apart.none) (h2.all k Apart.none) (g1.all k id) (g2.all k id) (g3.all k id) (g4.all k id)⟩
theorem edge_above (f : FD) (p x y : Int) : edgeOf y (fun k => atF f p (x + (k : Int)) (y - 1)) = fun k => aboveF f p x y ((k : Nat) : Int) := by
  funext k; unfold edgeOf aboveF; by_cases h : y ≤ 0
  · rw [if_neg (by omega), if_pos h]
  · rw [if_pos (by omega), if_neg h]
theorem edge_left (f : FD) (p x y : Int) : edgeOf x (fun k => atF f p (x - 1) (y + (k : Int))) = fun k => leftF f p x y ((k : Nat) : Int) := by
  funext k; unfold edgeOf leftF; by_cases h : x ≤ 0
  · rw [if_neg (by omega), if_pos h]
  · rw [if_pos (by omega), if_neg h]
theorem is_above (p x y : Int) (f : FD) (f0 f1 f2 : Value) (T_f0 : Nat → Prop) (T_f1 : Nat → Prop) (T_f2 : Nat → Prop) (w0 : World) (hx : 0 ≤ x ∧ x ≤ 64) (hy : 0 ≤ y ∧ y ≤ 64) (h_f0 : Byt w0 T_f0 f0 ((f).p0)) (h_f1 : Byt w0 T_f1 f1 ((f).p1)) (h_f2 : Byt w0 T_f2 f2 ((f).p2)) :
  Calls Tryz.prog 142 #[.agg #[.int .i64 ((f).W), .int .i64 ((f).H), f0, f1, f2], .int .i64 (p), .int .i64 (x), .int .i64 (y)] w0 fun e w' => e = .returned (.agg (arrL 4 (fun k => aboveF f p x y ((k : Nat) : Int))).toArray) ∧ Kept (fun _ => False) w0 w' := by
 refine calls_wq (args := [.agg #[iv (f.W), iv (f.H), f0, f1, f2], iv p, iv x, iv y]) 12 Tryz.func142 rfl rfl (Nat.le_of_ble_eq_true rfl) ?_
 have K0 := Kept.refl (fun _ => False) w0
 have g_f0 := Grew.refl w0 T_f0
 have g_f1 := Grew.refl w0 T_f1
 have g_f2 := Grew.refl w0 T_f2
 refine wq_seq (wq_region (wl_box_stc (vs := [iv (f.W), iv (f.H), f0, f1, f2]) rfl rfl rfl rfl fun p1 w2 B4 g5 k3 => ?_))
 have B10 := h_f0.all k3 Apart.none
 have B11 := h_f1.all k3 Apart.none
 have B12 := h_f2.all k3 Apart.none
 have K13 := K0.tr k3
 refine wl_box_cel rfl rfl rfl rfl (by rfl) fun p14 w15 B18 g20 k16 => ?_
 have B26 := B10.all k16 Apart.none
 have B27 := B11.all k16 Apart.none
 have B28 := B12.all k16 Apart.none
 have B29 := B4.all k16 id
 have K30 := K13.tr k16
 refine wl_box_cel rfl rfl rfl rfl (by rfl) fun p31 w32 B35 g37 k33 => ?_
 have B44 := B26.all k33 Apart.none
 have B45 := B27.all k33 Apart.none
 have B46 := B28.all k33 Apart.none
 have B47 := B29.all k33 id
 have B48 := B18.all k33 id
 have K49 := K30.tr k33
 refine wl_box_cel rfl rfl rfl rfl (by rfl) fun p50 w51 B54 g56 k52 => ?_
 have B64 := B44.all k52 Apart.none
 have B65 := B45.all k52 Apart.none
 have B66 := B46.all k52 Apart.none
 have B67 := B47.all k52 id
 have B68 := B48.all k52 id
 have B69 := B35.all k52 id
 have K70 := K49.tr k52
 refine wl_alloc_arr rfl rfl rfl arrT_edge.2.2 fun p71 w72 e75 B73 k74 => ?_
 have g76 := onB_new (Nat.le_of_eq e75.symm)
 have gr77 : Grew w0 noB (onB p71) := Grew.new K70 g76
 clear e75 g76
 have B85 := B64.all k74 Apart.none
 have B86 := B65.all k74 Apart.none
 have B87 := B66.all k74 Apart.none
 have B88 := B67.all k74 id
 have B89 := B68.all k74 id
 have B90 := B69.all k74 id
 have B91 := B54.all k74 id
 have K92 := K70.tr k74
 refine wl_nil fun F93 hF94 => ?_
 have s95 : F93 12 = undef := (hF94 12).trans rfl
 have s96 : F93 4 = pt p1 0 := (hF94 4).trans rfl
 have s97 : F93 5 = pt p14 0 := (hF94 5).trans rfl
 have s98 : F93 6 = pt p31 0 := (hF94 6).trans rfl
 have s99 : F93 7 = pt p50 0 := (hF94 7).trans rfl
 have s100 : F93 8 = pt p71 0 := (hF94 8).trans rfl
 clear hF94
 refine then_normal (wq_seq (wq_region (wl_v (iv y) rfl rfl (y_load_cel rfl s99 Tryz.underlying3 B91 rfl rr) (wl_v (.func (.func 164) #[] #[pt p1 0, pt p14 0, pt p31 0, pt p50 0]) rfl rfl (y_fnc rfl (vsC s96 (vsC s97 (vsC s98 (vsC s99 vsN)))) rr) (wl_call (R := fun v_ w_ => v_ = .agg (arrL 4 (fun k => aboveF f p x y ((k : Nat) : Int))).toArray ∧ Kept (fun _ => False) w72 w_) rfl rfl (y_cs rfl rfl rfl (fun _ _ => by kernel_rfl) (ev_func _) (vsC rfl (vsC rfl vsN)) (is_along y (.func (.func 164) #[] #[pt p1 0, pt p14 0, pt p31 0, pt p50 0]) (fun k => atF f p (x + (k : Int)) (y - 1))  _ (above_ask hx hy B85 B86 B87 B88 B89 B90 B91)  ) (fun e_ w_ h_ => ⟨_, h_.1, congrArg (fun z => Value.agg (arrL 4 z).toArray) (edge_above f p x y), h_.2⟩)) ?_)))))
 rintro _ w101 ⟨rfl, k102⟩
 have B110 := B73.all k102 id
 have K111 := K92.tr k102
 refine wl_store_arr arrT_edge rfl rfl rfl s100 rfl B110 fun w112 B113 k114 => ?_
 have K122 := K111.trans k114 (Grew.ok (S := fun _ => False) gr77 noB_le)
 refine wl_nil fun F123 hF124 => ?_
 obtain ⟨s125, s126⟩ := t2 hF124 12 s95 8 s100
 clear hF124
 refine then_normal (wq_ret ?_)
 exact end_arr arrT_edge s125 rfl rfl s126 B113 ⟨rfl, K122⟩
theorem is_left (p x y : Int) (f : FD) (f0 f1 f2 : Value) (T_f0 : Nat → Prop) (T_f1 : Nat → Prop) (T_f2 : Nat → Prop) (w0 : World) (hx : 0 ≤ x ∧ x ≤ 64) (hy : 0 ≤ y ∧ y ≤ 64) (h_f0 : Byt w0 T_f0 f0 ((f).p0)) (h_f1 : Byt w0 T_f1 f1 ((f).p1)) (h_f2 : Byt w0 T_f2 f2 ((f).p2)) :
  Calls Tryz.prog 143 #[.agg #[.int .i64 ((f).W), .int .i64 ((f).H), f0, f1, f2], .int .i64 (p), .int .i64 (x), .int .i64 (y)] w0 fun e w' => e = .returned (.agg (arrL 4 (fun k => leftF f p x y ((k : Nat) : Int))).toArray) ∧ Kept (fun _ => False) w0 w' := by
 refine calls_wq (args := [.agg #[iv (f.W), iv (f.H), f0, f1, f2], iv p, iv x, iv y]) 12 Tryz.func143 rfl rfl (Nat.le_of_ble_eq_true rfl) ?_
 have K0 := Kept.refl (fun _ => False) w0
 have g_f0 := Grew.refl w0 T_f0
 have g_f1 := Grew.refl w0 T_f1
 have g_f2 := Grew.refl w0 T_f2
 refine wq_seq (wq_region (wl_box_stc (vs := [iv (f.W), iv (f.H), f0, f1, f2]) rfl rfl rfl rfl fun p1 w2 B4 g5 k3 => ?_))
 have B10 := h_f0.all k3 Apart.none
 have B11 := h_f1.all k3 Apart.none
 have B12 := h_f2.all k3 Apart.none
 have K13 := K0.tr k3
 refine wl_box_cel rfl rfl rfl rfl (by rfl) fun p14 w15 B18 g20 k16 => ?_
 have B26 := B10.all k16 Apart.none
 have B27 := B11.all k16 Apart.none
 have B28 := B12.all k16 Apart.none
 have B29 := B4.all k16 id
 have K30 := K13.tr k16
 refine wl_box_cel rfl rfl rfl rfl (by rfl) fun p31 w32 B35 g37 k33 => ?_
 have B44 := B26.all k33 Apart.none
 have B45 := B27.all k33 Apart.none
 have B46 := B28.all k33 Apart.none
 have B47 := B29.all k33 id
 have B48 := B18.all k33 id
 have K49 := K30.tr k33
 refine wl_box_cel rfl rfl rfl rfl (by rfl) fun p50 w51 B54 g56 k52 => ?_
 have B64 := B44.all k52 Apart.none
 have B65 := B45.all k52 Apart.none
 have B66 := B46.all k52 Apart.none
 have B67 := B47.all k52 id
 have B68 := B48.all k52 id
 have B69 := B35.all k52 id
 have K70 := K49.tr k52
 refine wl_alloc_arr rfl rfl rfl arrT_edge.2.2 fun p71 w72 e75 B73 k74 => ?_
 have g76 := onB_new (Nat.le_of_eq e75.symm)
 have gr77 : Grew w0 noB (onB p71) := Grew.new K70 g76
 clear e75 g76
 have B85 := B64.all k74 Apart.none
 have B86 := B65.all k74 Apart.none
 have B87 := B66.all k74 Apart.none
 have B88 := B67.all k74 id
 have B89 := B68.all k74 id
 have B90 := B69.all k74 id
 have B91 := B54.all k74 id
 have K92 := K70.tr k74
 refine wl_nil fun F93 hF94 => ?_
 have s95 : F93 12 = undef := (hF94 12).trans rfl
 have s96 : F93 4 = pt p1 0 := (hF94 4).trans rfl
 have s97 : F93 5 = pt p14 0 := (hF94 5).trans rfl
 have s98 : F93 6 = pt p31 0 := (hF94 6).trans rfl
 have s99 : F93 7 = pt p50 0 := (hF94 7).trans rfl
 have s100 : F93 8 = pt p71 0 := (hF94 8).trans rfl
 clear hF94
 refine then_normal (wq_seq (wq_region (wl_v (iv x) rfl rfl (y_load_cel rfl s98 Tryz.underlying3 B90 rfl rr) (wl_v (.func (.func 165) #[] #[pt p1 0, pt p14 0, pt p31 0, pt p50 0]) rfl rfl (y_fnc rfl (vsC s96 (vsC s97 (vsC s98 (vsC s99 vsN)))) rr) (wl_call (R := fun v_ w_ => v_ = .agg (arrL 4 (fun k => leftF f p x y ((k : Nat) : Int))).toArray ∧ Kept (fun _ => False) w72 w_) rfl rfl (y_cs rfl rfl rfl (fun _ _ => by kernel_rfl) (ev_func _) (vsC rfl (vsC rfl vsN)) (is_along x (.func (.func 165) #[] #[pt p1 0, pt p14 0, pt p31 0, pt p50 0]) (fun k => atF f p (x - 1) (y + (k : Int)))  _ (left_ask hx hy B85 B86 B87 B88 B89 B90 B91)  ) (fun e_ w_ h_ => ⟨_, h_.1, congrArg (fun z => Value.agg (arrL 4 z).toArray) (edge_left f p x y), h_.2⟩)) ?_)))))
 rintro _ w101 ⟨rfl, k102⟩
 have B110 := B73.all k102 id
 have K111 := K92.tr k102
 refine wl_store_arr arrT_edge rfl rfl rfl s100 rfl B110 fun w112 B113 k114 => ?_
 have K122 := K111.trans k114 (Grew.ok (S := fun _ => False) gr77 noB_le)
 refine wl_nil fun F123 hF124 => ?_
 obtain ⟨s125, s126⟩ := t2 hF124 12 s95 8 s100
 clear hF124
 refine then_normal (wq_ret ?_)
 exact end_arr arrT_edge s125 rfl rfl s126 B113 ⟨rfl, K122⟩
def totTo (e : Nat → Int) : Nat → Int
  | 0 => 0
  | k + 1 => totTo e k + e k
theorem totTo_le {e : Nat → Int} (h : ∀ i, 0 ≤ e i ∧ e i ≤ 255) (k : Nat) : 0 ≤ totTo e k ∧ totTo e k ≤ 255 * k := by
  induction k with
  | zero => simp [totTo]
  | succ k ih => have := h k; rw [totTo]; omega
theorem is_total (s : Nat → Int) (w0 : World) (he : ∀ i, 0 ≤ s i ∧ s i ≤ 255) :
  Calls Tryz.prog 158 #[.agg (arrL 4 (s)).toArray] w0 fun e w' => e = .returned (.int .i64 (totTo s 4)) ∧ Kept (fun _ => False) w0 w' := by
 refine calls_wq (args := [.agg (arrL 4 s).toArray]) 15 Tryz.func158 rfl rfl (Nat.le_of_ble_eq_true rfl) ?_
 have K0 := Kept.refl (fun _ => False) w0
 refine wq_seq (wq_region (wl_box_arr rfl rfl rfl rfl fun p1 w2 e5 B3 k4 => ?_))
 have g6 := onB_new (Nat.le_of_eq e5.symm)
 clear e5 g6
 have K8 := K0.tr k4
 refine wl_v (iv 0) rfl rfl (y_asg rfl rfl rr) (wl_nil fun F9 hF10 => ?_)
 have s11 : F9 15 = undef := (hF10 15).trans rfl
 have s12 : F9 1 = pt p1 0 := (hF10 1).trans rfl
 clear hF10
 refine then_normal (wq_seq (wq_region (wl_v (iv 0) rfl rfl (y_asg rfl rfl rr) (wl_nil fun F13 hF14 => ?_))))
 obtain ⟨s15, s16⟩ := t2 hF14 15 s11 1 s12
 have s17 : F13 3 = iv 0 := (hF14 3).trans rfl
 clear hF14
 refine then_normal (wq_seq (wq_seq (wq_region (wl_v (.agg (arrL 4 s).toArray) rfl rfl (y_load_arr arrT_edge rfl s16 B3 rr) (wl_v (iv 0) rfl rfl (y_mov rfl rfl rr) (wl_nil fun F18 hF19 => ?_))))))
 obtain ⟨s20, s21⟩ := t2 hF19 15 s15 3 s17
 have s22 : F18 6 = .agg (arrL 4 s).toArray := (hF19 6).trans rfl
 have s23 : F18 7 = iv 0 := (hF19 7).trans rfl
 clear hF19
 refine then_normal (wq_block (wq_loop (fun nn FF ww => ∃ (k : Nat), (k ≤ 4) ∧ nn = 4 - k ∧ FF 6 = .agg (arrL 4 s).toArray ∧ FF 15 = undef ∧ FF 3 = iv (totTo s k) ∧ FF 7 = iv ((k : Nat) : Int) ∧ Kept (fun _ => False) w0 ww ∧ Arr ww p1 172 4 s) (4 - 0) ⟨0, by omega, rfl, s22, s20, s21, s23, K8, B3⟩ ?_))
 rintro n27 F24 w25 ⟨k, i28, hn27, s29, s30, s31, s32, K26, B33⟩
 refine wq_seq (wq_region (wl_v (.bool (decide (((k : Nat) : Int) < 4))) rfl rfl (y_lss rfl s32 rfl rfl rr) (wl_nil fun F34 hF35 => ?_)))
 obtain ⟨s36, s37, s38, s39⟩ := t4 hF35 6 s29 15 s30 3 s31 7 s32
 have s40 : F34 8 = .bool (decide (((k : Nat) : Int) < 4)) := (hF35 8).trans rfl
 clear hF35
 refine then_normal (wq_seq ?_)
 refine wq_cond s40 (fun c41 => ?_) (fun c41 => ?_)
 ·replace c41 := of_decide_eq_true c41
  refine wq_skip (then_normal (wq_seq (wq_block (wq_seq (wq_region (wl_v (iv (s k)) rfl rfl (y_lookA k arrT_edge rfl s36 s39 (by omega) rfl rr) (wl_v (iv (s k)) rfl rfl (y_asg rfl rfl rr) (wl_nil fun F42 hF43 => ?_))))))))
  obtain ⟨s44, s45, s46, s47⟩ := t4 hF43 6 s36 15 s37 3 s38 7 s39
  have s48 : F42 5 = iv (s k) := (hF43 5).trans rfl
  clear hF43
  refine then_normal ?_
  have ht := totTo_le he k
  have hk := he k
  refine wq_region (wl_mv rfl rfl rfl s46 (wl_mv rfl rfl rfl s48 (wl_v (iv ((totTo s k) + (s k))) rfl rfl (y_add rfl rfl rfl (i64_i rfl (by omega)) rr) (wl_v (iv ((totTo s k) + (s k))) rfl rfl (y_asg rfl rfl rr) (wl_nil fun F49 hF50 => ?_)))))
  obtain ⟨s51, s52, s53⟩ := t3 hF50 6 s44 15 s45 7 s47
  have s54 : F49 3 = iv ((totTo s k) + (s k)) := (hF50 3).trans rfl
  clear hF50
  refine in_normal (then_normal (wq_region (wl_v (iv ((k + 1 : Nat) : Int)) rfl rfl (y_add rfl s53 rfl (i64_n (by omega) (by omega)) rr) (wl_v (iv ((k + 1 : Nat) : Int)) rfl rfl (y_mov rfl rfl rr) (wl_nil fun F55 hF56 => ?_)))))
  obtain ⟨s57, s58, s59⟩ := t3 hF56 6 s51 15 s52 3 s54
  have s60 : F55 7 = iv ((k + 1 : Nat) : Int) := (hF56 7).trans rfl
  clear hF56
  exact then_normal ⟨(4 - (k + 1)), by omega, k + 1, by omega, rfl, s57, s58, s59, s60, K26, B33⟩
 ·replace c41 := of_decide_eq_false c41
  refine wq_exit (then_exit (then_exit ?_))
  have l61 : 4 = k := by omega
  subst l61
  refine in_here (then_normal (wq_seq (wq_region (wl_mv rfl rfl rfl s38 (wl_v (iv (totTo s 4)) rfl rfl (y_asg rfl rfl rr) (wl_nil fun F62 hF63 => ?_))))))
  have s64 := (hF63 15).trans s37
  have s65 : F62 2 = iv (totTo s 4) := (hF63 2).trans rfl
  clear hF63
  refine then_normal (wq_ret ?_)
  exact end_tmp (v := iv (totTo s 4)) s64 rfl rfl s65 ⟨rfl, K26⟩
def predG (a l : Nat → Int) (m i k : Nat) : Int :=
  if m = 0 then Int.tdiv (totTo a 4 + totTo l 4 + 4) 8 else if m = 1 then a k else if m = 2 then l i else Int.tdiv (a k + l i + 1) 2
theorem is_p1 (i k : Nat) (n : Int) (b1 : Nat) (w0 : World) (h_b1 : Cel w0 b1 3 (.int .i64 (n))) :
  Calls Tryz.prog 159 #[.int .i64 (((i : Nat) : Int)), .int .i64 (((k : Nat) : Int)), .pointer (some ⟨b1, 0, none⟩)] w0 fun e w' => e = .returned (.int .i64 (n)) ∧ Kept (fun _ => False) w0 w' := by
 refine calls_wq (args := [iv ((i : Nat) : Int), iv ((k : Nat) : Int), pt b1 0]) 7 Tryz.func159 rfl rfl (Nat.le_of_ble_eq_true rfl) ?_
 have K0 := Kept.refl (fun _ => False) w0
 refine wq_seq (wq_region (wl_v (iv 0) rfl rfl (y_asg rfl rfl rr) (wl_nil fun F1 hF2 => ?_)))
 have s3 : F1 2 = pt b1 0 := (hF2 2).trans rfl
 have s4 : F1 7 = undef := (hF2 7).trans rfl
 clear hF2
 refine then_normal (wq_seq (wq_region (wl_v (iv n) rfl rfl (y_load_cel rfl s3 Tryz.underlying3 h_b1 rfl rr) (wl_v (iv n) rfl rfl (y_asg rfl rfl rr) (wl_nil fun F5 hF6 => ?_)))))
 have s7 := (hF6 7).trans s4
 have s8 : F5 5 = iv n := (hF6 5).trans rfl
 clear hF6
 refine then_normal (wq_ret ?_)
 exact end_tmp (v := iv n) s7 rfl rfl s8 ⟨rfl, K0⟩
theorem is_p2 (i k : Nat) (a : Nat → Int) (b1 : Nat) (w0 : World) (hk : k < 4) (h_b1 : Arr w0 b1 172 4 (a)) :
  Calls Tryz.prog 160 #[.int .i64 (((i : Nat) : Int)), .int .i64 (((k : Nat) : Int)), .pointer (some ⟨b1, 0, none⟩)] w0 fun e w' => e = .returned (.int .i64 (a k)) ∧ Kept (fun _ => False) w0 w' := by
 refine calls_wq (args := [iv ((i : Nat) : Int), iv ((k : Nat) : Int), pt b1 0]) 9 Tryz.func160 rfl rfl (Nat.le_of_ble_eq_true rfl) ?_
 have K0 := Kept.refl (fun _ => False) w0
 refine wq_seq (wq_region (wl_v (iv 0) rfl rfl (y_asg rfl rfl rr) (wl_nil fun F1 hF2 => ?_)))
 have s3 : F1 1 = iv ((k : Nat) : Int) := (hF2 1).trans rfl
 have s4 : F1 2 = pt b1 0 := (hF2 2).trans rfl
 have s5 : F1 9 = undef := (hF2 9).trans rfl
 clear hF2
 refine then_normal (wq_seq (wq_region (wl_mv rfl rfl rfl s3 (wl_v (.pointer (some ⟨b1, k, none⟩)) rfl rfl (y_atR k (s := 1) rfl s4 rfl (by omega) Tryz.underlying172 (by omega) (by kernel_rfl) (by omega) rr) (wl_v (iv (a k)) rfl rfl (y_ldR rfl rfl Tryz.underlying3 (h_b1.cell (by omega)) rr) (wl_v (iv (a k)) rfl rfl (y_asg rfl rfl rr) (wl_nil fun F6 hF7 => ?_)))))))
 have s8 := (hF7 9).trans s5
 have s9 : F6 5 = iv (a k) := (hF7 5).trans rfl
 clear hF7
 refine then_normal (wq_ret ?_)
 exact end_tmp (v := iv (a k)) s8 rfl rfl s9 ⟨rfl, K0⟩
theorem is_p3 (i k : Nat) (l : Nat → Int) (b1 : Nat) (w0 : World) (hi : i < 4) (h_b1 : Arr w0 b1 172 4 (l)) :
  Calls Tryz.prog 161 #[.int .i64 (((i : Nat) : Int)), .int .i64 (((k : Nat) : Int)), .pointer (some ⟨b1, 0, none⟩)] w0 fun e w' => e = .returned (.int .i64 (l i)) ∧ Kept (fun _ => False) w0 w' := by
 refine calls_wq (args := [iv ((i : Nat) : Int), iv ((k : Nat) : Int), pt b1 0]) 9 Tryz.func161 rfl rfl (Nat.le_of_ble_eq_true rfl) ?_
 have K0 := Kept.refl (fun _ => False) w0
 refine wq_seq (wq_region (wl_v (iv 0) rfl rfl (y_asg rfl rfl rr) (wl_nil fun F1 hF2 => ?_)))
 have s3 : F1 0 = iv ((i : Nat) : Int) := (hF2 0).trans rfl
 have s4 : F1 2 = pt b1 0 := (hF2 2).trans rfl
 have s5 : F1 9 = undef := (hF2 9).trans rfl
 clear hF2
 refine then_normal (wq_seq (wq_region (wl_mv rfl rfl rfl s3 (wl_v (.pointer (some ⟨b1, i, none⟩)) rfl rfl (y_atR i (s := 1) rfl s4 rfl (by omega) Tryz.underlying172 (by omega) (by kernel_rfl) (by omega) rr) (wl_v (iv (l i)) rfl rfl (y_ldR rfl rfl Tryz.underlying3 (h_b1.cell (by omega)) rr) (wl_v (iv (l i)) rfl rfl (y_asg rfl rfl rr) (wl_nil fun F6 hF7 => ?_)))))))
 have s8 := (hF7 9).trans s5
 have s9 : F6 5 = iv (l i) := (hF7 5).trans rfl
 clear hF7
 refine then_normal (wq_ret ?_)
 exact end_tmp (v := iv (l i)) s8 rfl rfl s9 ⟨rfl, K0⟩
theorem is_p4 (i k : Nat) (a l : Nat → Int) (b1 : Nat) (b2 : Nat) (w0 : World) (hi : i < 4) (hk : k < 4) (ha : ∀ i, 0 ≤ a i ∧ a i ≤ 255) (hl : ∀ i, 0 ≤ l i ∧ l i ≤ 255) (h_b1 : Arr w0 b1 172 4 (a)) (h_b2 : Arr w0 b2 172 4 (l)) :
  Calls Tryz.prog 162 #[.int .i64 (((i : Nat) : Int)), .int .i64 (((k : Nat) : Int)), .pointer (some ⟨b1, 0, none⟩), .pointer (some ⟨b2, 0, none⟩)] w0 fun e w' => e = .returned (.int .i64 (Int.tdiv (a k + l i + 1) 2)) ∧ Kept (fun _ => False) w0 w' := by
 refine calls_wq (args := [iv ((i : Nat) : Int), iv ((k : Nat) : Int), pt b1 0, pt b2 0]) 16 Tryz.func162 rfl rfl (Nat.le_of_ble_eq_true rfl) ?_
 have K0 := Kept.refl (fun _ => False) w0
 refine wq_seq (wq_region (wl_v (iv 0) rfl rfl (y_asg rfl rfl rr) (wl_nil fun F1 hF2 => ?_)))
 have s3 : F1 0 = iv ((i : Nat) : Int) := (hF2 0).trans rfl
 have s4 : F1 1 = iv ((k : Nat) : Int) := (hF2 1).trans rfl
 have s5 : F1 2 = pt b1 0 := (hF2 2).trans rfl
 have s6 : F1 3 = pt b2 0 := (hF2 3).trans rfl
 have s7 : F1 16 = undef := (hF2 16).trans rfl
 clear hF2
 refine then_normal (wq_seq ?_)
 have h1 := ha k
 have h2 := hl i
 refine wq_said [some 7, some 8, some 9, some 10, some 11, some 12, some 13, some 14, some 15, some 6] [Pd.eq (iv ((k : Nat) : Int)), Pd.eq (.pointer (some ⟨b1, k, none⟩)), Pd.eq (iv (a k)), Pd.eq (iv ((i : Nat) : Int)), Pd.eq (.pointer (some ⟨b2, i, none⟩)), Pd.eq (iv (l i)), Pd.eq (iv ((a k) + (l i))), Pd.eq (iv (((a k) + (l i)) + 1)), Pd.eq (iv (Int.tdiv (a k + l i + 1) 2)), Pd.eq (iv (Int.tdiv (a k + l i + 1) 2))] (by kernel_rfl) (by kernel_rfl) ?_ ?_
 ·refine stepsF_cons ?_ ?_
  ·refine StepF.one rfl fun F_ w_ hR hout hD => ?_
   exact (y_mov rfl ((hout 1 rfl (by decide)).trans s4) ⟨rfl, Kept.refl _ _⟩)
  refine stepsF_cons ?_ ?_
  ·refine StepF.one rfl fun F_ w_ hR hout hD => ?_
   have g7 : F_ 7 = iv ((k : Nat) : Int) := (hD.get 0 rfl rfl rfl)
   exact (y_atR k (s := 1) rfl ((hout 2 rfl (by decide)).trans s5) g7 (by omega) Tryz.underlying172 (by omega) (by kernel_rfl) (by omega) ⟨rfl, Kept.refl _ _⟩)
  refine stepsF_cons ?_ ?_
  ·refine StepF.one rfl fun F_ w_ hR hout hD => ?_
   have g8 : F_ 8 = .pointer (some ⟨b1, k, none⟩) := (hD.get 0 rfl rfl rfl)
   exact (y_ldR rfl g8 Tryz.underlying3 ((h_b1.all hR id).cell (by omega)) ⟨rfl, Kept.refl _ _⟩)
  refine stepsF_cons ?_ ?_
  ·refine StepF.one rfl fun F_ w_ hR hout hD => ?_
   exact (y_mov rfl ((hout 0 rfl (by decide)).trans s3) ⟨rfl, Kept.refl _ _⟩)
  refine stepsF_cons ?_ ?_
  ·refine StepF.one rfl fun F_ w_ hR hout hD => ?_
   have g10 : F_ 10 = iv ((i : Nat) : Int) := (hD.get 0 rfl rfl rfl)
   exact (y_atR i (s := 1) rfl ((hout 3 rfl (by decide)).trans s6) g10 (by omega) Tryz.underlying172 (by omega) (by kernel_rfl) (by omega) ⟨rfl, Kept.refl _ _⟩)
  refine stepsF_cons ?_ ?_
  ·refine StepF.one rfl fun F_ w_ hR hout hD => ?_
   have g11 : F_ 11 = .pointer (some ⟨b2, i, none⟩) := (hD.get 0 rfl rfl rfl)
   exact (y_ldR rfl g11 Tryz.underlying3 ((h_b2.all hR id).cell (by omega)) ⟨rfl, Kept.refl _ _⟩)
  refine stepsF_cons ?_ ?_
  ·refine StepF.one rfl fun F_ w_ hR hout hD => ?_
   have g9 : F_ 9 = iv (a k) := (hD.get 0 rfl rfl rfl)
   have g12 : F_ 12 = iv (l i) := (hD.get 1 rfl rfl rfl)
   exact (y_add rfl g9 g12 (i64_i rfl (by omega)) ⟨rfl, Kept.refl _ _⟩)
  refine stepsF_cons ?_ ?_
  ·refine StepF.one rfl fun F_ w_ hR hout hD => ?_
   have g13 : F_ 13 = iv ((a k) + (l i)) := (hD.get 0 rfl rfl rfl)
   exact (y_add rfl g13 rfl (i64_i rfl (by omega)) ⟨rfl, Kept.refl _ _⟩)
  refine stepsF_cons ?_ ?_
  ·refine StepF.one rfl fun F_ w_ hR hout hD => ?_
   have g14 : F_ 14 = iv (((a k) + (l i)) + 1) := (hD.get 0 rfl rfl rfl)
   exact (y_quo rfl g14 rfl (by first | decide | omega) (i64_i rfl (by rw [tdiv2 (by omega)]; omega)) ⟨rfl, Kept.refl _ _⟩)
  refine stepsF_cons ?_ ?_
  ·refine StepF.one rfl fun F_ w_ hR hout hD => ?_
   have g15 : F_ 15 = iv (Int.tdiv (a k + l i + 1) 2) := (hD.get 0 rfl rfl rfl)
   exact (y_asg rfl g15 ⟨rfl, Kept.refl _ _⟩)
  exact stepsF_nil
 intro v8 F9 w10 k11 G12 hF13
 have K17 := K0.tr k11
 have s18 := (hF13 16).trans s7
 have s19 : F9 6 = iv (Int.tdiv (a k + l i + 1) 2) := (hF13 6).trans (G12 9 (by decide))
 clear G12 hF13
 refine then_normal (wq_ret ?_)
 exact end_tmp (v := iv (Int.tdiv (a k + l i + 1) 2)) s18 rfl rfl s19 ⟨rfl, K17⟩
def Fns (w : World) (v : Value) (g : Nat → Nat → Nat → Int) : Prop := ∃ c : Nat → Value, v = .agg #[c 0, c 1, c 2, c 3] ∧ ∀ m, m < 4 → Ask2 w 4 (c m) (g m)
theorem Fns.all {w w' : World} {v : Value} {g : Nat → Nat → Nat → Int} (h : Fns w v g) (k : Kept (fun _ => False) w w') : Fns w' v g := by
  obtain ⟨c, e, h⟩ := h; exact ⟨c, e, fun m hm => (h m hm).all k⟩
def Pd.fns (g : Nat → Nat → Nat → Int) : Pd := ⟨fun v w => Fns w v g, fun _ _ _ h k => h.all k⟩
theorem y_ixF {ρ : Operand → Value} {o : Oper} {w : World} {R : Value → World → Prop} {x y : Operand} {k : IntKind} {v : Value} {g : Nat → Nat → Nat → Int} (j : Nat) {i : Int} (ho : o.op = .index 169 x y) (hx : ρ x = v) (hb : Fns w v g) (hy : ρ y = .int k i) (hi : i = (j : Int)) (hj : j < 4) (h : ∀ c, Ask2 w 4 c (g j) → R c w) : Yields Tryz.prog ρ o w R := by
  obtain ⟨c, rfl, hc⟩ := hb
  subst hi
  have hs : (Tryz.prog.info? 167).map (·.size) = some 1 := by kernel_rfl
  have hv : #[c 0, c 1, c 2, c 3][j]? = some (c j) := by
    rcases (by omega : j = 0 ∨ j = 1 ∨ j = 2 ∨ j = 3) with rfl | rfl | rfl | rfl <;> rfl
  cases hq : Tryz.prog.info? 167 with
  | none => simp [hq] at hs
  | some i =>
    have hs' : i.size = 1 := by simpa [hq] using hs
    have hp : (part 167 #[c 0, c 1, c 2, c 3] j).run Tryz.prog w = .ok (c j) w := by simp [part, isAgg, run_underlying Tryz.underlying167, hv]
    have h1 : (0 : Int) ≤ (j : Int) := by omega
    exact y_of (v := c j) (w' := w) (by simp [execOp, ho, hx, hy, Instr.index, run_underlying Tryz.underlying169, asIntOf, sizeOf, typeInfo, hq, hs', hp, h1, hj]) (h _ (hc j hj))
theorem fns_mk {w : World} {a l : Nat → Int} {b2 b3 b5 : Nat} (ha : ∀ i, 0 ≤ a i ∧ a i ≤ 255) (hl : ∀ i, 0 ≤ l i ∧ l i ≤ 255) (h2 : Arr w b2 172 4 a) (h3 : Arr w b3 172 4 l) (h5 : Cel w b5 3 (.int .i64 (Int.tdiv (totTo a 4 + totTo l 4 + 4) 8))) :
    Fns w (.agg [.func (.func 159) #[] #[.pointer (some ⟨b5, 0, none⟩)], .func (.func 160) #[] #[.pointer (some ⟨b2, 0, none⟩)], .func (.func 161) #[] #[.pointer (some ⟨b3, 0, none⟩)], .func (.func 162) #[] #[.pointer (some ⟨b2, 0, none⟩), .pointer (some ⟨b3, 0, none⟩)]].toArray) (predG a l) := by
  refine ⟨fun m => match m with
    | 0 => .func (.func 159) #[] #[.pointer (some ⟨b5, 0, none⟩)]
    | 1 => .func (.func 160) #[] #[.pointer (some ⟨b2, 0, none⟩)]
    | 2 => .func (.func 161) #[] #[.pointer (some ⟨b3, 0, none⟩)]
    | _ => .func (.func 162) #[] #[.pointer (some ⟨b2, 0, none⟩), .pointer (some ⟨b3, 0, none⟩)], rfl, fun m hm => ?_⟩
  rcases (by omega : m = 0 ∨ m = 1 ∨ m = 2 ∨ m = 3) with rfl | rfl | rfl | rfl
  · exact ⟨_, [_], rfl, fun _ _ => by kernel_rfl, fun w' k i j hi hj => is_p1 i j _ b5 w' (h5.all k id)⟩
  · exact ⟨_, [_], rfl, fun _ _ => by kernel_rfl, fun w' k i j hi hj => is_p2 i j a b2 w' hj (h2.all k id)⟩
  · exact ⟨_, [_], rfl, fun _ _ => by kernel_rfl, fun w' k i j hi hj => is_p3 i j l b3 w' hi (h3.all k id)⟩
  · exact ⟨_, [_, _], rfl, fun _ _ => by kernel_rfl, fun w' k i j hi hj => is_p4 i j a l b2 b3 w' hi hj ha hl (h2.all k id) (h3.all k id)⟩
theorem is_predictions (a l : Nat → Int) (w0 : World) (ha : ∀ i, 0 ≤ a i ∧ a i ≤ 255) (hl : ∀ i, 0 ≤ l i ∧ l i ≤ 255) :
  Calls Tryz.prog 141 #[.agg (arrL 4 (a)).toArray, .agg (arrL 4 (l)).toArray] w0 fun e w' => ∃ (v1 : Value), e = .returned v1 ∧ Kept (fun _ => False) w0 w' ∧ (Pd.fns (predG a l)).says v1 w' := by
 refine calls_wq (args := [.agg (arrL 4 a).toArray, .agg (arrL 4 l).toArray]) 18 Tryz.func141 rfl rfl (Nat.le_of_ble_eq_true rfl) ?_
 have K0 := Kept.refl (fun _ => False) w0
 refine wq_seq (wq_region (wl_box_arr rfl rfl rfl rfl fun p1 w2 e5 B3 k4 => ?_))
 have g6 := onB_new (Nat.le_of_eq e5.symm)
 clear e5 g6
 have K8 := K0.tr k4
 refine wl_box_arr rfl rfl rfl rfl fun p9 w10 e13 B11 k12 => ?_
 have g14 := onB_new (Nat.le_of_eq e13.symm)
 clear e13 g14
 have B17 := B3.all k12 id
 have K18 := K8.tr k12
 refine wl_alloc_stc (n := 4) (vs := [Value.nilFunc, Value.nilFunc, Value.nilFunc, Value.nilFunc]) rfl rfl rfl (by kernel_rfl) fun p19 w20 B22 g23 k21 => ?_
 have gr24 : Grew w0 noB (onB p19) := Grew.new K18 g23
 have ap25 : Apart (onB p19) (onB p1) := Apart.new g23 (onB_live B17.lt)
 have ap26 : Apart (onB p19) (onB p9) := Apart.new g23 (onB_live B11.lt)
 have B27 := B17.all k21 id
 have B28 := B11.all k21 id
 have K29 := K18.tr k21
 refine wl_nil fun F30 hF31 => ?_
 have s32 : F30 18 = undef := (hF31 18).trans rfl
 have s33 : F30 2 = pt p1 0 := (hF31 2).trans rfl
 have s34 : F30 3 = pt p9 0 := (hF31 3).trans rfl
 have s35 : F30 4 = pt p19 0 := (hF31 4).trans rfl
 clear hF31
 refine then_normal (wq_seq ?_)
 have h1 := totTo_le ha 4
 have h2 := totTo_le hl 4
 refine wq_tail 8 [some 6, some 7, some 8, some 9, some 10, some 11, some 12, some 5] [Pd.eq (.agg (arrL 4 a).toArray), Pd.eq (iv (totTo a 4)), Pd.eq (.agg (arrL 4 l).toArray), Pd.eq (iv (totTo l 4)), Pd.eq (iv ((totTo a 4) + (totTo l 4))), Pd.eq (iv (((totTo a 4) + (totTo l 4)) + 4)), Pd.eq (iv (Int.tdiv (totTo a 4 + totTo l 4 + 4) 8)), Pd.cel w20.heap.size 3 (iv 0)] (by kernel_rfl) (by kernel_rfl) (by kernel_rfl) ?_ ?_
 ·refine stepsF_cons ?_ ?_
  ·refine StepF.one rfl fun F_ w_ hR hout hD => ?_
   exact (y_load_arr arrT_edge rfl ((hout 2 rfl (by decide)).trans s33) (B27.all hR id) ⟨rfl, Kept.refl _ _⟩)
  refine stepsF_cons ?_ ?_
  ·refine StepF.one rfl fun F_ w_ hR hout hD => ?_
   have g6 : F_ 6 = .agg (arrL 4 a).toArray := (hD.get 0 rfl rfl rfl)
   exact (y_cs rfl rfl rfl (fun _ _ => by kernel_rfl) (ev_func _) (vsC g6 vsN) (is_total a  _ ha  ) (fun e_ w_ h_ => ⟨_, h_.1, rfl, h_.2⟩))
  refine stepsF_cons ?_ ?_
  ·refine StepF.one rfl fun F_ w_ hR hout hD => ?_
   exact (y_load_arr arrT_edge rfl ((hout 3 rfl (by decide)).trans s34) (B28.all hR id) ⟨rfl, Kept.refl _ _⟩)
  refine stepsF_cons ?_ ?_
  ·refine StepF.one rfl fun F_ w_ hR hout hD => ?_
   have g8 : F_ 8 = .agg (arrL 4 l).toArray := (hD.get 0 rfl rfl rfl)
   exact (y_cs rfl rfl rfl (fun _ _ => by kernel_rfl) (ev_func _) (vsC g8 vsN) (is_total l  _ hl  ) (fun e_ w_ h_ => ⟨_, h_.1, rfl, h_.2⟩))
  refine stepsF_cons ?_ ?_
  ·refine StepF.one rfl fun F_ w_ hR hout hD => ?_
   have g7 : F_ 7 = iv (totTo a 4) := (hD.get 0 rfl rfl rfl)
   have g9 : F_ 9 = iv (totTo l 4) := (hD.get 1 rfl rfl rfl)
   exact (y_add rfl g7 g9 (i64_i rfl (by omega)) ⟨rfl, Kept.refl _ _⟩)
  refine stepsF_cons ?_ ?_
  ·refine StepF.one rfl fun F_ w_ hR hout hD => ?_
   have g10 : F_ 10 = iv ((totTo a 4) + (totTo l 4)) := (hD.get 0 rfl rfl rfl)
   exact (y_add rfl g10 rfl (i64_i rfl (by omega)) ⟨rfl, Kept.refl _ _⟩)
  refine stepsF_cons ?_ ?_
  ·refine StepF.one rfl fun F_ w_ hR hout hD => ?_
   have g11 : F_ 11 = iv (((totTo a 4) + (totTo l 4)) + 4) := (hD.get 0 rfl rfl rfl)
   exact (y_quo rfl g11 rfl (by first | decide | omega) (i64_i rfl (by rw [tdiv8 (by omega)]; omega)) ⟨rfl, Kept.refl _ _⟩)
  refine stepsF_cons ?_ ?_
  ·refine StepF.one rfl fun F_ w_ hR hout hD => ?_
   exact y_alloc_cel (v := iv 0) rfl (by kernel_rfl) rfl ⟨⟨_, rfl, hR.size, heap_alloc_new _ _⟩, (Kept.refl _ _).alloc _⟩
  exact stepsF_nil
 intro v36 F37 w38 k39 G40 hF41
 have B43 := B27.all k39 id
 have B44 := B28.all k39 id
 have B45 := B22.all k39 id
 have K46 := K29.tr k39
 obtain ⟨s47, s48, s49, s50⟩ := t4 hF41 18 s32 2 s33 3 s34 4 s35
 obtain ⟨p53, e52, e54, B55⟩ := G40 7 (by decide)
 replace B55 : Cel w38 p53 3 (iv 0) := B55
 have gr56 : Grew w0 noB (onB p53) := Grew.new K29 (onB_new e54)
 have ap57 : Apart (onB p53) (onB p1) := Apart.new (onB_new e54) (onB_live B27.lt)
 have ap58 : Apart (onB p53) (onB p9) := Apart.new (onB_new e54) (onB_live B28.lt)
 have ap59 : Apart (onB p53) (onB p19) := Apart.new (onB_new e54) (onB_live B22.lt)
 have s51 : F37 5 = pt p53 0 := (hF41 5).trans e52
 have s60 : F37 12 = iv (Int.tdiv (totTo a 4 + totTo l 4 + 4) 8) := (hF41 12).trans (G40 6 (by decide))
 clear G40 hF41
 refine wl_store_cel rfl rfl rfl s51 s60 B55 (by rfl) (by kernel_rfl) fun w61 B62 k63 => ?_
 have B64 := B43.all k63 (ap57.symm p1 rfl)
 have B65 := B44.all k63 (ap58.symm p9 rfl)
 have B66 := B45.all k63 (ap59.symm p19 rfl)
 have K67 := K46.trans k63 (Grew.ok (S := fun _ => False) gr56 noB_le)
 refine wl_nil fun F68 hF69 => ?_
 obtain ⟨s70, s71, s72, s73, s74⟩ := t5 hF69 18 s47 2 s48 3 s49 4 s50 5 s51
 clear hF69
 refine then_normal (wq_seq (wq_region (wl_v (.func (.func 159) #[] #[pt p53 0]) rfl rfl (y_fnc rfl (vsC s74 vsN) rr) (wl_v (.func (.func 160) #[] #[pt p1 0]) rfl rfl (y_fnc rfl (vsC s71 vsN) rr) (wl_v (.func (.func 161) #[] #[pt p9 0]) rfl rfl (y_fnc rfl (vsC s72 vsN) rr) (wl_v (.func (.func 162) #[] #[pt p1 0, pt p9 0]) rfl rfl (y_fnc rfl (vsC s71 (vsC s72 vsN)) rr) (wl_v (.agg #[.func (.func 159) #[] #[pt p53 0], .func (.func 160) #[] #[pt p1 0], .func (.func 161) #[] #[pt p9 0], .func (.func 162) #[] #[pt p1 0, pt p9 0]]) rfl rfl (y_buildL (l' := [(0, .func (.func 159) #[] #[pt p53 0]), (1, .func (.func 160) #[] #[pt p1 0]), (2, .func (.func 161) #[] #[pt p9 0]), (3, .func (.func 162) #[] #[pt p1 0, pt p9 0])]) (cells := #[.func (.func 159) #[] #[pt p53 0], .func (.func 160) #[] #[pt p1 0], .func (.func 161) #[] #[pt p9 0], .func (.func 162) #[] #[pt p1 0, pt p9 0]]) rfl (bpC rfl (bpC rfl (bpC rfl (bpC rfl bpN)))) (by kernel_rfl) rfl rr) (wl_store_stc (us := [.func (.func 159) #[] #[pt p53 0], .func (.func 160) #[] #[pt p1 0], .func (.func 161) #[] #[pt p9 0], .func (.func 162) #[] #[pt p1 0, pt p9 0]]) stcT_fn4 rfl rfl rfl s73 rfl B66 rfl (oneI rfl (oneI rfl (oneI rfl (oneI rfl oneN)))) fun w75 B76 k77 => ?_))))))))
 have B78 := B64.all k77 (ap25.symm p1 rfl)
 have B79 := B65.all k77 (ap26.symm p9 rfl)
 have B80 := B62.all k77 (ap59 p53 rfl)
 have K81 := K67.trans k77 (Grew.ok (S := fun _ => False) gr24 noB_le)
 refine wl_nil fun F82 hF83 => ?_
 obtain ⟨s84, s85⟩ := t2 hF83 18 s70 4 s73
 clear hF83
 refine then_normal (wq_ret ?_)
 exact end_stc (vs := [.func (.func 159) #[] #[pt p53 0], .func (.func 160) #[] #[pt p1 0], .func (.func 161) #[] #[pt p9 0], .func (.func 162) #[] #[pt p1 0, pt p9 0]]) stcT_fn4 s84 rfl rfl s85 B76 ⟨_, rfl, K81, fns_mk ha hl B78 B79 B80⟩
theorem is_filled (fv : Value) (g : Nat → Nat → Int) (w0 : World) (hg : Ask2 w0 4 fv g) :
  Calls Tryz.prog 140 #[fv] w0 fun e w' => e = .returned (blkV (fun n => g (n / 4) (n % 4))) ∧ Kept (fun _ => False) w0 w' := by
 refine calls_wq (args := [fv]) 18 Tryz.func140 rfl rfl (Nat.le_of_ble_eq_true rfl) ?_
 have K0 := Kept.refl (fun _ => False) w0
 refine wq_seq (wq_region (wl_alloc_blk rfl rfl rfl blkT_block.2.2 fun p1 w2 e5 B3 k4 => ?_))
 have g6 := onB_new (Nat.le_of_eq e5.symm)
 have gr7 : Grew w0 noB (onB p1) := Grew.new K0 g6
 clear e5 g6
 have K8 := K0.tr k4
 refine wl_nil fun F9 hF10 => ?_
 have s11 : F9 0 = fv := (hF10 0).trans rfl
 have s12 : F9 18 = undef := (hF10 18).trans rfl
 have s13 : F9 2 = pt p1 0 := (hF10 2).trans rfl
 clear hF10
 refine then_normal (wq_seq (wq_region (wl_alloc_blk rfl rfl rfl blkT_block.2.2 fun p14 w15 e18 B16 k17 => ?_)))
 have g19 := onB_new (Nat.le_of_eq e18.symm)
 have gr20 : Grew w0 noB (onB p14) := Grew.new K8 g19
 have ap21 : Apart (onB p14) (onB p1) := Apart.new g19 (onB_live B3.lt)
 clear e18 g19
 have B22 := B3.all k17 id
 have K23 := K8.tr k17
 refine wl_nil fun F24 hF25 => ?_
 obtain ⟨s26, s27, s28⟩ := t3 hF25 0 s11 18 s12 2 s13
 have s29 : F24 3 = pt p14 0 := (hF25 3).trans rfl
 clear hF25
 refine then_normal (wq_seq (wq_seq (wq_region (wl_v (iv 0) rfl rfl (y_mov rfl rfl rr) (wl_nil fun F30 hF31 => ?_)))))
 obtain ⟨s32, s33, s34, s35⟩ := t4 hF31 0 s26 18 s27 2 s28 3 s29
 have s36 : F30 5 = iv 0 := (hF31 5).trans rfl
 clear hF31
 refine then_normal (wq_block (wq_loop (fun nn FF ww => ∃ (n : Nat), (n ≤ 16) ∧ nn = 16 - n ∧ FF 0 = fv ∧ FF 2 = pt p1 0 ∧ FF 3 = pt p14 0 ∧ FF 18 = undef ∧ FF 5 = iv ((n : Nat) : Int) ∧ Kept (fun _ => False) w0 ww ∧ Blk ww p1 69 (fun _ => 0) ∧ Blk ww p14 69 (upto n (fun _ => 0) (fun n => g (n / 4) (n % 4)))) (16 - 0) ⟨0, by omega, rfl, s32, s34, s35, s33, s36, K23, B22, B16.first⟩ ?_))
 rintro n40 F37 w38 ⟨n, i41, hn40, s42, s43, s44, s45, s46, K39, B47, B48⟩
 refine wq_seq (wq_region (wl_v (.bool (decide (((n : Nat) : Int) < 16))) rfl rfl (y_lss rfl s46 rfl rfl rr) (wl_nil fun F49 hF50 => ?_)))
 obtain ⟨s51, s52, s53, s54, s55⟩ := t5 hF50 0 s42 2 s43 3 s44 18 s45 5 s46
 have s56 : F49 6 = .bool (decide (((n : Nat) : Int) < 16)) := (hF50 6).trans rfl
 clear hF50
 refine then_normal (wq_seq ?_)
 refine wq_cond s56 (fun c57 => ?_) (fun c57 => ?_)
 ·replace c57 := of_decide_eq_true c57
  refine wq_skip (then_normal (wq_seq (wq_block (wq_seq (wq_region (wl_mv rfl rfl rfl s55 (wl_v (iv ((n : Nat) : Int)) rfl rfl (y_asg rfl rfl rr) (wl_nil fun F58 hF59 => ?_))))))))
  obtain ⟨s60, s61, s62, s63, s64⟩ := t5 hF59 0 s51 2 s52 3 s53 18 s54 5 s55
  have s65 : F58 4 = iv ((n : Nat) : Int) := (hF59 4).trans rfl
  clear hF59
  refine then_normal (wq_region (wl_mv rfl rfl rfl s65 (wl_mv rfl rfl rfl s60 (wl_mv rfl rfl rfl s65 (wl_v (iv (((n / 4) : Nat) : Int)) rfl rfl (y_quo rfl rfl rfl (by first | decide | omega) (i64_n (quo_nat n 4) (by omega)) rr) (wl_mv rfl rfl rfl s65 (wl_v (iv (((n % 4) : Nat) : Int)) rfl rfl (y_rem rfl rfl rfl (by first | decide | omega) (rem_nat n 4) rr) (wl_call (R := fun v_ w_ => v_ = iv (g (n / 4) (n % 4)) ∧ Kept (fun _ => False) w38 w_) rfl rfl (y_ask2 rfl rfl rfl rfl rfl rfl (hg.all K39) (by omega) (by omega) (fun e_ w_ h_ => ⟨_, h_.1, rfl, h_.2⟩)) ?_))))))))
  rintro _ w66 ⟨rfl, k67⟩
  have B68 := B47.all k67 id
  have B69 := B48.all k67 id
  have K70 := K39.tr k67
  refine wl_v (.pointer (some ⟨p14, n, none⟩)) rfl rfl (y_atR n (s := 1) rfl s62 rfl (by omega) Tryz.underlying69 (by omega) (by kernel_rfl) (by omega) rr) (wl_set_blk rfl rfl rfl rfl rfl B69 (by omega) (by kernel_rfl) fun w71 B72 k73 => ?_)
  have B74 := B68.all k73 (ap21.symm p1 rfl)
  have K75 := K70.trans k73 (Grew.ok (S := fun _ => False) gr20 noB_le)
  refine wl_nil fun F76 hF77 => ?_
  obtain ⟨s78, s79, s80, s81, s82⟩ := t5 hF77 0 s60 2 s61 3 s62 18 s63 5 s64
  clear hF77
  refine in_normal (then_normal (wq_region (wl_v (iv ((n + 1 : Nat) : Int)) rfl rfl (y_add rfl s82 rfl (i64_n (by omega) (by omega)) rr) (wl_v (iv ((n + 1 : Nat) : Int)) rfl rfl (y_mov rfl rfl rr) (wl_nil fun F83 hF84 => ?_)))))
  obtain ⟨s85, s86, s87, s88⟩ := t4 hF84 0 s78 2 s79 3 s80 18 s81
  have s89 : F83 5 = iv ((n + 1 : Nat) : Int) := (hF84 5).trans rfl
  clear hF84
  exact then_normal ⟨(16 - (n + 1)), by omega, n + 1, by omega, rfl, s85, s86, s87, s88, s89, K75, B74, (B72.next rfl)⟩
 ·replace c57 := of_decide_eq_false c57
  refine wq_exit (then_exit (then_exit ?_))
  have l90 : 16 = n := by omega
  subst l90
  have B91 : Blk w38 p14 69 (fun n => g (n / 4) (n % 4)) := (B48.last)
  refine in_here (then_normal (wq_seq (wq_region (wl_v (blkV (fun n => g (n / 4) (n % 4))) rfl rfl (y_load_blk blkT_block rfl s53 B91 rr) (wl_store_blk blkT_block rfl rfl rfl s52 rfl B47 fun w92 B93 k94 => ?_)))))
  have K96 := K39.trans k94 (Grew.ok (S := fun _ => False) gr7 noB_le)
  refine wl_nil fun F97 hF98 => ?_
  obtain ⟨s99, s100⟩ := t2 hF98 2 s52 18 s54
  clear hF98
  refine then_normal (wq_ret ?_)
  exact end_blk blkT_block s100 rfl rfl s99 B93 ⟨rfl, K96⟩
theorem predG_is {f : FD} {p x y mode : Int} (hm : 0 ≤ mode ∧ mode ≤ 3) : (fun n => predG (fun k => aboveF f p x y ((k : Nat) : Int)) (fun k => leftF f p x y ((k : Nat) : Int)) mode.toNat (n / 4) (n % 4)) = predN f p x y mode := by
  funext n
  rcases (by omega : mode = 0 ∨ mode = 1 ∨ mode = 2 ∨ mode = 3) with rfl | rfl | rfl | rfl
  · show Int.tdiv _ 8 = Int.tdiv _ 8
    congr 1
    simp only [totTo, sumTo]; omega
  · rfl
  · rfl
  · rfl
theorem il_predict (p x y mode : Int) (f : FD) (f0 f1 f2 : Value) (T_f0 : Nat → Prop) (T_f1 : Nat → Prop) (T_f2 : Nat → Prop) (w0 : World) (h_f0 : Byt w0 T_f0 f0 ((f).p0)) (h_f1 : Byt w0 T_f1 f1 ((f).p1)) (h_f2 : Byt w0 T_f2 f2 ((f).p2)) :
  Calls Tryz.prog 112 #[.agg #[.int .i64 ((f).W), .int .i64 ((f).H), f0, f1, f2], .int .i64 (p), .int .i64 (x), .int .i64 (y), .int .i64 (mode)] w0 fun e w' => e = .returned (.tuple #[blkV (predB f p x y mode), .int .i64 (predE f p x y mode)]) ∧ Kept (fun _ => False) w0 w' := by
 refine calls_wq (args := [.agg #[iv (f.W), iv (f.H), f0, f1, f2], iv p, iv x, iv y, iv mode]) 55 Tryz.func112 rfl rfl (Nat.le_of_ble_eq_true rfl) ?_
 have K0 := Kept.refl (fun _ => False) w0
 have hb : Bytes3 f := ⟨h_f0.lt256, h_f1.lt256, h_f2.lt256⟩
 have g_f0 := Grew.refl w0 T_f0
 have g_f1 := Grew.refl w0 T_f1
 have g_f2 := Grew.refl w0 T_f2
 refine wq_seq (wq_region (wl_box_stc (vs := [iv (f.W), iv (f.H), f0, f1, f2]) rfl rfl rfl rfl fun p1 w2 B4 g5 k3 => ?_))
 have B10 := h_f0.all k3 Apart.none
 have B11 := h_f1.all k3 Apart.none
 have B12 := h_f2.all k3 Apart.none
 have K13 := K0.tr k3
 refine wl_alloc_blk rfl rfl rfl blkT_block.2.2 fun p14 w15 e18 B16 k17 => ?_
 have g19 := onB_new (Nat.le_of_eq e18.symm)
 have gr20 : Grew w0 noB (onB p14) := Grew.new K13 g19
 clear e18 g19
 have B25 := B10.all k17 Apart.none
 have B26 := B11.all k17 Apart.none
 have B27 := B12.all k17 Apart.none
 have B28 := B4.all k17 id
 have K29 := K13.tr k17
 refine wl_v (iv 0) rfl rfl (y_asg rfl rfl rr) (wl_nil fun F30 hF31 => ?_)
 have s32 : F30 1 = iv p := (hF31 1).trans rfl
 have s33 : F30 2 = iv x := (hF31 2).trans rfl
 have s34 : F30 3 = iv y := (hF31 3).trans rfl
 have s35 : F30 4 = iv mode := (hF31 4).trans rfl
 have s36 : F30 55 = undef := (hF31 55).trans rfl
 have s37 : F30 5 = pt p1 0 := (hF31 5).trans rfl
 have s38 : F30 10 = pt p14 0 := (hF31 10).trans rfl
 clear hF31
 refine then_normal (wq_seq (wq_seq ?_))
 by_cases d39 : (checkE f) ≠ 0
 ·skip
  refine wq_region (wl_v (.agg #[iv (f.W), iv (f.H), f0, f1, f2]) rfl rfl (y_load_stc stcT_frame rfl s37 B28 rr) (wl_cs rfl rfl rfl rfl rfl (fun _ _ => by kernel_rfl) (vsC rfl vsN) (pl_check f f0 f1 f2 T_f0 T_f1 T_f2 _  B25 B26 B27 ) fun w40 k41 => ?_))
  have B46 := B16.all k41 id
  have K47 := K29.tr k41
  refine wl_v (.bool true) rfl rfl (y_neqI rfl rfl rfl (decide_eq_true d39) rr) (wl_v (.bool true) rfl rfl (y_mov rfl rfl rr) (wl_unless 3 false 15 rfl rfl rfl (Or.inl rfl) rfl (wl_unless 3 false 15 rfl rfl rfl (Or.inl rfl) rfl (wl_v (.bool true) rfl rfl (y_pickT rfl rfl rfl rr) (wl_v (.bool true) rfl rfl (y_mov rfl rfl rr) (wl_unless 7 false 19 rfl rfl rfl (Or.inl rfl) rfl (wl_unless 7 false 19 rfl rfl rfl (Or.inl rfl) rfl (wl_v (.bool true) rfl rfl (y_pickT rfl rfl rfl rr) (wl_v (.bool true) rfl rfl (y_mov rfl rfl rr) (wl_unless 11 false 23 rfl rfl rfl (Or.inl rfl) rfl (wl_unless 11 false 23 rfl rfl rfl (Or.inl rfl) rfl ?_)))))))))))
  refine wl_unless 11 false 23 rfl rfl rfl (Or.inl rfl) rfl (wl_v (.bool true) rfl rfl (y_pickT rfl rfl rfl rr) (wl_v (.bool true) rfl rfl (y_mov rfl rfl rr) (wl_unless 16 false 28 rfl rfl rfl (Or.inl rfl) rfl (wl_unless 16 false 28 rfl rfl rfl (Or.inl rfl) rfl (wl_unless 16 false 28 rfl rfl rfl (Or.inl rfl) rfl (wl_v (.bool true) rfl rfl (y_pickT rfl rfl rfl rr) (wl_nil fun F48 hF49 => ?_)))))))
  obtain ⟨s54, s56⟩ := t2 hF49 55 s36 10 s38
  have s57 : F48 32 = .bool true := (hF49 32).trans rfl
  clear hF49
  refine then_normal ?_
  refine wq_cond (t := true) s57 (fun _ => ?_) (fun e => by cases e)
  refine wq_seq ?_
  have hno : ¬ placeF f p x y := by rintro ⟨h1, h2, h3, h4, h5, h6, h7⟩; first | exact absurd ((checkE_iff f).2 h1) (by assumption) | omega
  refine wq_region (wl_v (blkV (fun _ => 0)) rfl rfl (y_buildR (cells := (arrL 16 (fun _ => 0)).toArray) rfl (by kernel_rfl) rfl rr) (wl_store_blk blkT_block rfl rfl rfl s56 rfl B46 fun w58 B59 k60 => ?_))
  have K65 := K47.trans k60 (Grew.ok (S := fun _ => False) gr20 noB_le)
  refine wl_v (iv 70) rfl rfl (y_asg rfl rfl rr) (wl_nil fun F66 hF67 => ?_)
  obtain ⟨s68, s69⟩ := t2 hF67 55 s54 10 s56
  have s70 : F66 11 = iv 70 := (hF67 11).trans rfl
  clear hF67
  refine then_normal (wq_ret (then_ret ?_))
  exact end_2 s68 rfl (res_blk blkT_block rfl s69 B59) (res_tmp (v := iv 70) rfl s70) ⟨(by first | rw [(pred_no hno).1, (pred_no hno).2] | rw [(pred_none hpl hm).1, (pred_none hpl hm).2] | rw [(pred_yes hpl hm).1, (pred_yes hpl hm).2]), K65⟩
 ·skip
  by_cases d71 : p < 0
  ·skip
   refine wq_region (wl_v (.agg #[iv (f.W), iv (f.H), f0, f1, f2]) rfl rfl (y_load_stc stcT_frame rfl s37 B28 rr) (wl_cs rfl rfl rfl rfl rfl (fun _ _ => by kernel_rfl) (vsC rfl vsN) (pl_check f f0 f1 f2 T_f0 T_f1 T_f2 _  B25 B26 B27 ) fun w72 k73 => ?_))
   have B78 := B16.all k73 id
   have K79 := K29.tr k73
   refine wl_v (.bool false) rfl rfl (y_neqI rfl rfl rfl (decide_eq_false d39) rr) (wl_v (.bool false) rfl rfl (y_mov rfl rfl rr) (wl_vw (iv p) 3 false 15 rfl rfl rfl rfl rfl (y_mov rfl s32 rr) (wl_vw (.bool true) 3 false 15 rfl rfl rfl rfl rfl (y_lss rfl rfl rfl (decide_eq_true d71) rr) (wl_v (.bool true) rfl rfl (y_pickF rfl rfl rfl rr) (wl_v (.bool true) rfl rfl (y_mov rfl rfl rr) (wl_unless 7 false 19 rfl rfl rfl (Or.inl rfl) rfl (wl_unless 7 false 19 rfl rfl rfl (Or.inl rfl) rfl (wl_v (.bool true) rfl rfl (y_pickT rfl rfl rfl rr) (wl_v (.bool true) rfl rfl (y_mov rfl rfl rr) (wl_unless 11 false 23 rfl rfl rfl (Or.inl rfl) rfl (wl_unless 11 false 23 rfl rfl rfl (Or.inl rfl) rfl ?_)))))))))))
   refine wl_unless 11 false 23 rfl rfl rfl (Or.inl rfl) rfl (wl_v (.bool true) rfl rfl (y_pickT rfl rfl rfl rr) (wl_v (.bool true) rfl rfl (y_mov rfl rfl rr) (wl_unless 16 false 28 rfl rfl rfl (Or.inl rfl) rfl (wl_unless 16 false 28 rfl rfl rfl (Or.inl rfl) rfl (wl_unless 16 false 28 rfl rfl rfl (Or.inl rfl) rfl (wl_v (.bool true) rfl rfl (y_pickT rfl rfl rfl rr) (wl_nil fun F80 hF81 => ?_)))))))
   obtain ⟨s86, s88⟩ := t2 hF81 55 s36 10 s38
   have s89 : F80 32 = .bool true := (hF81 32).trans rfl
   clear hF81
   refine then_normal ?_
   refine wq_cond (t := true) s89 (fun _ => ?_) (fun e => by cases e)
   refine wq_seq ?_
   have hno : ¬ placeF f p x y := by rintro ⟨h1, h2, h3, h4, h5, h6, h7⟩; first | exact absurd ((checkE_iff f).2 h1) (by assumption) | omega
   refine wq_region (wl_v (blkV (fun _ => 0)) rfl rfl (y_buildR (cells := (arrL 16 (fun _ => 0)).toArray) rfl (by kernel_rfl) rfl rr) (wl_store_blk blkT_block rfl rfl rfl s88 rfl B78 fun w90 B91 k92 => ?_))
   have K97 := K79.trans k92 (Grew.ok (S := fun _ => False) gr20 noB_le)
   refine wl_v (iv 70) rfl rfl (y_asg rfl rfl rr) (wl_nil fun F98 hF99 => ?_)
   obtain ⟨s100, s101⟩ := t2 hF99 55 s86 10 s88
   have s102 : F98 11 = iv 70 := (hF99 11).trans rfl
   clear hF99
   refine then_normal (wq_ret (then_ret ?_))
   exact end_2 s100 rfl (res_blk blkT_block rfl s101 B91) (res_tmp (v := iv 70) rfl s102) ⟨(by first | rw [(pred_no hno).1, (pred_no hno).2] | rw [(pred_none hpl hm).1, (pred_none hpl hm).2] | rw [(pred_yes hpl hm).1, (pred_yes hpl hm).2]), K97⟩
  ·skip
   by_cases d103 : 3 ≤ p
   ·skip
    refine wq_region (wl_v (.agg #[iv (f.W), iv (f.H), f0, f1, f2]) rfl rfl (y_load_stc stcT_frame rfl s37 B28 rr) (wl_cs rfl rfl rfl rfl rfl (fun _ _ => by kernel_rfl) (vsC rfl vsN) (pl_check f f0 f1 f2 T_f0 T_f1 T_f2 _  B25 B26 B27 ) fun w104 k105 => ?_))
    have B110 := B16.all k105 id
    have K111 := K29.tr k105
    refine wl_v (.bool false) rfl rfl (y_neqI rfl rfl rfl (decide_eq_false d39) rr) (wl_v (.bool false) rfl rfl (y_mov rfl rfl rr) (wl_vw (iv p) 3 false 15 rfl rfl rfl rfl rfl (y_mov rfl s32 rr) (wl_vw (.bool false) 3 false 15 rfl rfl rfl rfl rfl (y_lss rfl rfl rfl (decide_eq_false d71) rr) (wl_v (.bool false) rfl rfl (y_pickF rfl rfl rfl rr) (wl_v (.bool false) rfl rfl (y_mov rfl rfl rr) (wl_vw (iv p) 7 false 19 rfl rfl rfl rfl rfl (y_mov rfl s32 rr) (wl_vw (.bool true) 7 false 19 rfl rfl rfl rfl rfl (y_geq rfl rfl rfl (decide_eq_true d103) rr) (wl_v (.bool true) rfl rfl (y_pickF rfl rfl rfl rr) (wl_v (.bool true) rfl rfl (y_mov rfl rfl rr) (wl_unless 11 false 23 rfl rfl rfl (Or.inl rfl) rfl (wl_unless 11 false 23 rfl rfl rfl (Or.inl rfl) rfl ?_)))))))))))
    refine wl_unless 11 false 23 rfl rfl rfl (Or.inl rfl) rfl (wl_v (.bool true) rfl rfl (y_pickT rfl rfl rfl rr) (wl_v (.bool true) rfl rfl (y_mov rfl rfl rr) (wl_unless 16 false 28 rfl rfl rfl (Or.inl rfl) rfl (wl_unless 16 false 28 rfl rfl rfl (Or.inl rfl) rfl (wl_unless 16 false 28 rfl rfl rfl (Or.inl rfl) rfl (wl_v (.bool true) rfl rfl (y_pickT rfl rfl rfl rr) (wl_nil fun F112 hF113 => ?_)))))))
    obtain ⟨s118, s120⟩ := t2 hF113 55 s36 10 s38
    have s121 : F112 32 = .bool true := (hF113 32).trans rfl
    clear hF113
    refine then_normal ?_
    refine wq_cond (t := true) s121 (fun _ => ?_) (fun e => by cases e)
    refine wq_seq ?_
    have hno : ¬ placeF f p x y := by rintro ⟨h1, h2, h3, h4, h5, h6, h7⟩; first | exact absurd ((checkE_iff f).2 h1) (by assumption) | omega
    refine wq_region (wl_v (blkV (fun _ => 0)) rfl rfl (y_buildR (cells := (arrL 16 (fun _ => 0)).toArray) rfl (by kernel_rfl) rfl rr) (wl_store_blk blkT_block rfl rfl rfl s120 rfl B110 fun w122 B123 k124 => ?_))
    have K129 := K111.trans k124 (Grew.ok (S := fun _ => False) gr20 noB_le)
    refine wl_v (iv 70) rfl rfl (y_asg rfl rfl rr) (wl_nil fun F130 hF131 => ?_)
    obtain ⟨s132, s133⟩ := t2 hF131 55 s118 10 s120
    have s134 : F130 11 = iv 70 := (hF131 11).trans rfl
    clear hF131
    refine then_normal (wq_ret (then_ret ?_))
    exact end_2 s132 rfl (res_blk blkT_block rfl s133 B123) (res_tmp (v := iv 70) rfl s134) ⟨(by first | rw [(pred_no hno).1, (pred_no hno).2] | rw [(pred_none hpl hm).1, (pred_none hpl hm).2] | rw [(pred_yes hpl hm).1, (pred_yes hpl hm).2]), K129⟩
   ·skip
    by_cases d135 : 0 ≤ x ∧ x ≤ 64
    ·skip
     by_cases d136 : 0 ≤ y ∧ y ≤ 64
     ·skip
      refine wq_region (wl_v (.agg #[iv (f.W), iv (f.H), f0, f1, f2]) rfl rfl (y_load_stc stcT_frame rfl s37 B28 rr) (wl_cs rfl rfl rfl rfl rfl (fun _ _ => by kernel_rfl) (vsC rfl vsN) (pl_check f f0 f1 f2 T_f0 T_f1 T_f2 _  B25 B26 B27 ) fun w137 k138 => ?_))
      have B139 := B25.all k138 Apart.none
      have B140 := B26.all k138 Apart.none
      have B141 := B27.all k138 Apart.none
      have B142 := B28.all k138 id
      have B143 := B16.all k138 id
      have K144 := K29.tr k138
      refine wl_v (.bool false) rfl rfl (y_neqI rfl rfl rfl (decide_eq_false d39) rr) (wl_v (.bool false) rfl rfl (y_mov rfl rfl rr) (wl_vw (iv p) 3 false 15 rfl rfl rfl rfl rfl (y_mov rfl s32 rr) (wl_vw (.bool false) 3 false 15 rfl rfl rfl rfl rfl (y_lss rfl rfl rfl (decide_eq_false d71) rr) (wl_v (.bool false) rfl rfl (y_pickF rfl rfl rfl rr) (wl_v (.bool false) rfl rfl (y_mov rfl rfl rr) (wl_vw (iv p) 7 false 19 rfl rfl rfl rfl rfl (y_mov rfl s32 rr) (wl_vw (.bool false) 7 false 19 rfl rfl rfl rfl rfl (y_geq rfl rfl rfl (decide_eq_false d103) rr) (wl_v (.bool false) rfl rfl (y_pickF rfl rfl rfl rr) (wl_v (.bool false) rfl rfl (y_mov rfl rfl rr) (wl_vw (iv x) 11 false 23 rfl rfl rfl rfl rfl (y_mov rfl s33 rr) (wl_callw (R := fun v_ w_ => v_ = .bool true ∧ Kept (fun _ => False) w137 w_) 11 false 23 rfl rfl rfl rfl rfl (y_cs rfl rfl rfl (fun _ _ => by kernel_rfl) (ev_func _) (vsC rfl vsN) (is_place x  _   ) (fun e_ w_ h_ => ⟨_, h_.1, (congrArg Value.bool (decide_eq_true d135)), h_.2⟩)) ?_)))))))))))
      rintro _ w145 ⟨rfl, k146⟩
      have B147 := B139.all k146 Apart.none
      have B148 := B140.all k146 Apart.none
      have B149 := B141.all k146 Apart.none
      have B150 := B142.all k146 id
      have B151 := B143.all k146 id
      have K152 := K144.tr k146
      refine wl_vw (.bool false) 11 false 23 rfl rfl rfl rfl rfl (y_not rfl rfl rfl rr) (wl_v (.bool false) rfl rfl (y_pickF rfl rfl rfl rr) (wl_v (.bool false) rfl rfl (y_mov rfl rfl rr) (wl_vw (iv y) 16 false 28 rfl rfl rfl rfl rfl (y_mov rfl s34 rr) (wl_callw (R := fun v_ w_ => v_ = .bool true ∧ Kept (fun _ => False) w145 w_) 16 false 28 rfl rfl rfl rfl rfl (y_cs rfl rfl rfl (fun _ _ => by kernel_rfl) (ev_func _) (vsC rfl vsN) (is_place y  _   ) (fun e_ w_ h_ => ⟨_, h_.1, (congrArg Value.bool (decide_eq_true d136)), h_.2⟩)) ?_))))
      rintro _ w153 ⟨rfl, k154⟩
      have B155 := B147.all k154 Apart.none
      have B156 := B148.all k154 Apart.none
      have B157 := B149.all k154 Apart.none
      have B158 := B150.all k154 id
      have B159 := B151.all k154 id
      have K160 := K152.tr k154
      refine wl_vw (.bool false) 16 false 28 rfl rfl rfl rfl rfl (y_not rfl rfl rfl rr) (wl_v (.bool false) rfl rfl (y_pickF rfl rfl rfl rr) (wl_nil fun F161 hF162 => ?_))
      obtain ⟨s163, s164, s165, s166, s167, s168, s169⟩ := t7 hF162 1 s32 2 s33 3 s34 4 s35 55 s36 5 s37 10 s38
      have s170 : F161 32 = .bool false := (hF162 32).trans rfl
      clear hF162
      refine then_normal ?_
      refine wq_cond (t := false) s170 (fun e => by cases e) (fun _ => ?_)
      refine wq_skip (then_normal (wq_seq (wq_seq ?_)))
      have hpl : placeF f p x y := ⟨(checkE_iff f).1 (by first | assumption | (apply Decidable.byContradiction; assumption)), by omega, by omega, by omega, by omega, by omega, by omega⟩
      by_cases d171 : mode < 0
      ·skip
       refine wq_region (wl_mv rfl rfl rfl s166 (wl_v (.bool true) rfl rfl (y_lss rfl rfl rfl (decide_eq_true d171) rr) (wl_v (.bool true) rfl rfl (y_mov rfl rfl rr) (wl_unless 2 false 36 rfl rfl rfl (Or.inl rfl) rfl (wl_unless 2 false 36 rfl rfl rfl (Or.inl rfl) rfl (wl_v (.bool true) rfl rfl (y_pickT rfl rfl rfl rr) (wl_nil fun F172 hF173 => ?_)))))))
       obtain ⟨s178, s180⟩ := t2 hF173 55 s167 10 s169
       have s181 : F172 39 = .bool true := (hF173 39).trans rfl
       clear hF173
       refine then_normal ?_
       refine wq_cond (t := true) s181 (fun _ => ?_) (fun e => by cases e)
       refine wq_seq ?_
       have hm : ¬ (0 ≤ mode ∧ mode ≤ 3) := by omega
       refine wq_region (wl_v (blkV (fun _ => 0)) rfl rfl (y_buildR (cells := (arrL 16 (fun _ => 0)).toArray) rfl (by kernel_rfl) rfl rr) (wl_store_blk blkT_block rfl rfl rfl s180 rfl B159 fun w182 B183 k184 => ?_))
       have K189 := K160.trans k184 (Grew.ok (S := fun _ => False) gr20 noB_le)
       refine wl_v (iv 80) rfl rfl (y_asg rfl rfl rr) (wl_nil fun F190 hF191 => ?_)
       obtain ⟨s192, s193⟩ := t2 hF191 55 s178 10 s180
       have s194 : F190 11 = iv 80 := (hF191 11).trans rfl
       clear hF191
       refine then_normal (wq_ret (then_ret ?_))
       exact end_2 s192 rfl (res_blk blkT_block rfl s193 B183) (res_tmp (v := iv 80) rfl s194) ⟨(by first | rw [(pred_no hno).1, (pred_no hno).2] | rw [(pred_none hpl hm).1, (pred_none hpl hm).2] | rw [(pred_yes hpl hm).1, (pred_yes hpl hm).2]), K189⟩
      ·skip
       refine wq_region (wl_mv rfl rfl rfl s166 (wl_v (.bool false) rfl rfl (y_lss rfl rfl rfl (decide_eq_false d171) rr) (wl_v (.bool false) rfl rfl (y_mov rfl rfl rr) (wl_vw (iv mode) 2 false 36 rfl rfl rfl rfl rfl (y_mov rfl s166 rr) (wl_vw (.bool (decide (4 ≤ mode))) 2 false 36 rfl rfl rfl rfl rfl (y_geq rfl rfl rfl rfl rr) (wl_v (.bool (decide (4 ≤ mode))) rfl rfl (y_pickF rfl rfl rfl rr) (wl_nil fun F195 hF196 => ?_)))))))
       obtain ⟨s197, s198, s199, s200, s201, s202, s203⟩ := t7 hF196 1 s163 2 s164 3 s165 4 s166 55 s167 5 s168 10 s169
       have s204 : F195 39 = .bool (decide (4 ≤ mode)) := (hF196 39).trans rfl
       clear hF196
       refine then_normal ?_
       refine wq_cond s204 (fun c205 => ?_) (fun c205 => ?_)
       ·replace c205 := of_decide_eq_true c205
        refine wq_seq ?_
        have hm : ¬ (0 ≤ mode ∧ mode ≤ 3) := by omega
        refine wq_region (wl_v (blkV (fun _ => 0)) rfl rfl (y_buildR (cells := (arrL 16 (fun _ => 0)).toArray) rfl (by kernel_rfl) rfl rr) (wl_store_blk blkT_block rfl rfl rfl s203 rfl B159 fun w206 B207 k208 => ?_))
        have K213 := K160.trans k208 (Grew.ok (S := fun _ => False) gr20 noB_le)
        refine wl_v (iv 80) rfl rfl (y_asg rfl rfl rr) (wl_nil fun F214 hF215 => ?_)
        obtain ⟨s216, s217⟩ := t2 hF215 55 s201 10 s203
        have s218 : F214 11 = iv 80 := (hF215 11).trans rfl
        clear hF215
        refine then_normal (wq_ret (then_ret ?_))
        exact end_2 s216 rfl (res_blk blkT_block rfl s217 B207) (res_tmp (v := iv 80) rfl s218) ⟨(by first | rw [(pred_no hno).1, (pred_no hno).2] | rw [(pred_none hpl hm).1, (pred_none hpl hm).2] | rw [(pred_yes hpl hm).1, (pred_yes hpl hm).2]), K213⟩
       ·replace c205 := of_decide_eq_false c205
        refine wq_skip (then_normal (wq_seq ?_))
        have hm : 0 ≤ mode ∧ mode ≤ 3 := by omega
        refine wq_tail 14 [some 41, some 42, some 43, some 44, some 45, some 46, some 47, some 48, some 49, some 50, some 51, some 52, some 53, some 54] [Pd.eq (.agg #[iv (f.W), iv (f.H), f0, f1, f2]), Pd.eq (iv p), Pd.eq (iv x), Pd.eq (iv y), Pd.eq (.agg (arrL 4 (fun k => aboveF f p x y ((k : Nat) : Int))).toArray), Pd.eq (.agg #[iv (f.W), iv (f.H), f0, f1, f2]), Pd.eq (iv p), Pd.eq (iv x), Pd.eq (iv y), Pd.eq (.agg (arrL 4 (fun k => leftF f p x y ((k : Nat) : Int))).toArray), Pd.fns (predG (fun k => aboveF f p x y ((k : Nat) : Int)) (fun k => leftF f p x y ((k : Nat) : Int))), Pd.eq (iv mode), Pd.ask2 4 (predG (fun k => aboveF f p x y ((k : Nat) : Int)) (fun k => leftF f p x y ((k : Nat) : Int)) mode.toNat), Pd.eq (blkV (predN f p x y mode))] (by kernel_rfl) (by kernel_rfl) (by kernel_rfl) ?_ ?_
        ·refine stepsF_cons ?_ ?_
         ·refine StepF.one rfl fun F_ w_ hR hout hD => ?_
          exact (y_load_stc stcT_frame rfl ((hout 5 rfl (by decide)).trans s202) (B158.all hR id) ⟨rfl, Kept.refl _ _⟩)
         refine stepsF_cons ?_ ?_
         ·refine StepF.one rfl fun F_ w_ hR hout hD => ?_
          exact (y_mov rfl ((hout 1 rfl (by decide)).trans s197) ⟨rfl, Kept.refl _ _⟩)
         refine stepsF_cons ?_ ?_
         ·refine StepF.one rfl fun F_ w_ hR hout hD => ?_
          exact (y_mov rfl ((hout 2 rfl (by decide)).trans s198) ⟨rfl, Kept.refl _ _⟩)
         refine stepsF_cons ?_ ?_
         ·refine StepF.one rfl fun F_ w_ hR hout hD => ?_
          exact (y_mov rfl ((hout 3 rfl (by decide)).trans s199) ⟨rfl, Kept.refl _ _⟩)
         refine stepsF_cons ?_ ?_
         ·refine StepF.one rfl fun F_ w_ hR hout hD => ?_
          have g41 : F_ 41 = .agg #[iv (f.W), iv (f.H), f0, f1, f2] := (hD.get 0 rfl rfl rfl)
          have g42 : F_ 42 = iv p := (hD.get 1 rfl rfl rfl)
          have g43 : F_ 43 = iv x := (hD.get 2 rfl rfl rfl)
          have g44 : F_ 44 = iv y := (hD.get 3 rfl rfl rfl)
          exact (y_cs rfl rfl rfl (fun _ _ => by kernel_rfl) (ev_func _) (vsC g41 (vsC g42 (vsC g43 (vsC g44 vsN)))) (is_above p x y f f0 f1 f2 T_f0 T_f1 T_f2 _ (by omega) (by omega) (B155.all hR Apart.none) (B156.all hR Apart.none) (B157.all hR Apart.none) ) (fun e_ w_ h_ => ⟨_, h_.1, rfl, h_.2⟩))
         refine stepsF_cons ?_ ?_
         ·refine StepF.one rfl fun F_ w_ hR hout hD => ?_
          exact (y_load_stc stcT_frame rfl ((hout 5 rfl (by decide)).trans s202) (B158.all hR id) ⟨rfl, Kept.refl _ _⟩)
         refine stepsF_cons ?_ ?_
         ·refine StepF.one rfl fun F_ w_ hR hout hD => ?_
          exact (y_mov rfl ((hout 1 rfl (by decide)).trans s197) ⟨rfl, Kept.refl _ _⟩)
         refine stepsF_cons ?_ ?_
         ·refine StepF.one rfl fun F_ w_ hR hout hD => ?_
          exact (y_mov rfl ((hout 2 rfl (by decide)).trans s198) ⟨rfl, Kept.refl _ _⟩)
         refine stepsF_cons ?_ ?_
         ·refine StepF.one rfl fun F_ w_ hR hout hD => ?_
          exact (y_mov rfl ((hout 3 rfl (by decide)).trans s199) ⟨rfl, Kept.refl _ _⟩)
         refine stepsF_cons ?_ ?_
         ·refine StepF.one rfl fun F_ w_ hR hout hD => ?_
          have g46 : F_ 46 = .agg #[iv (f.W), iv (f.H), f0, f1, f2] := (hD.get 0 rfl rfl rfl)
          have g47 : F_ 47 = iv p := (hD.get 1 rfl rfl rfl)
          have g48 : F_ 48 = iv x := (hD.get 2 rfl rfl rfl)
          have g49 : F_ 49 = iv y := (hD.get 3 rfl rfl rfl)
          exact (y_cs rfl rfl rfl (fun _ _ => by kernel_rfl) (ev_func _) (vsC g46 (vsC g47 (vsC g48 (vsC g49 vsN)))) (is_left p x y f f0 f1 f2 T_f0 T_f1 T_f2 _ (by omega) (by omega) (B155.all hR Apart.none) (B156.all hR Apart.none) (B157.all hR Apart.none) ) (fun e_ w_ h_ => ⟨_, h_.1, rfl, h_.2⟩))
         refine stepsF_cons ?_ ?_
         ·refine StepF.one rfl fun F_ w_ hR hout hD => ?_
          have g45 : F_ 45 = .agg (arrL 4 (fun k => aboveF f p x y ((k : Nat) : Int))).toArray := (hD.get 0 rfl rfl rfl)
          have g50 : F_ 50 = .agg (arrL 4 (fun k => leftF f p x y ((k : Nat) : Int))).toArray := (hD.get 1 rfl rfl rfl)
          exact (y_cs rfl rfl rfl (fun _ _ => by kernel_rfl) (ev_func _) (vsC g45 (vsC g50 vsN)) (is_predictions (fun k => aboveF f p x y ((k : Nat) : Int)) (fun k => leftF f p x y ((k : Nat) : Int))  _ (fun i => above_le hb p x y _) (fun i => left_le hb p x y _)  ) (fun e_ w_ h_ => by obtain ⟨v_, he_, k_, hb_⟩ := h_; exact ⟨v_, he_, hb_, k_⟩))
         refine stepsF_cons ?_ ?_
         ·refine StepF.one rfl fun F_ w_ hR hout hD => ?_
          exact (y_mov rfl ((hout 4 rfl (by decide)).trans s200) ⟨rfl, Kept.refl _ _⟩)
         refine stepsF_cons ?_ ?_
         ·refine StepF.one rfl fun F_ w_ hR hout hD => ?_
          have g51 : (Pd.fns (predG (fun k => aboveF f p x y ((k : Nat) : Int)) (fun k => leftF f p x y ((k : Nat) : Int)))).says (F_ 51) w_ := hD.get 0 rfl rfl rfl
          have g52 : F_ 52 = iv mode := (hD.get 1 rfl rfl rfl)
          exact y_ixF (mode.toNat) rfl rfl g51 g52 (by omega) (by omega) fun c_ hc_ => ⟨hc_, Kept.refl _ _⟩
         refine stepsF_cons ?_ ?_
         ·refine StepF.one rfl fun F_ w_ hR hout hD => ?_
          have g53 : (Pd.ask2 4 (predG (fun k => aboveF f p x y ((k : Nat) : Int)) (fun k => leftF f p x y ((k : Nat) : Int)) mode.toNat)).says (F_ 53) w_ := hD.get 0 rfl rfl rfl
          exact (y_cs rfl rfl rfl (fun _ _ => by kernel_rfl) (ev_func _) (vsC rfl vsN) (is_filled (F_ 53) (predG (fun k => aboveF f p x y ((k : Nat) : Int)) (fun k => leftF f p x y ((k : Nat) : Int)) mode.toNat)  _ g53  ) (fun e_ w_ h_ => ⟨_, h_.1, congrArg blkV (predG_is hm), h_.2⟩))
         exact stepsF_nil
        intro v219 F220 w221 k222 G223 hF224
        have B230 := B159.all k222 id
        have K231 := K160.tr k222
        obtain ⟨s232, s233⟩ := t2 hF224 55 s201 10 s203
        have s234 : F220 54 = blkV (predN f p x y mode) := (hF224 54).trans (G223 13 (by decide))
        clear G223 hF224
        refine wl_store_blk blkT_block rfl rfl rfl s233 s234 B230 fun w235 B236 k237 => ?_
        have K242 := K231.trans k237 (Grew.ok (S := fun _ => False) gr20 noB_le)
        refine wl_v (iv 0) rfl rfl (y_asg rfl rfl rr) (wl_nil fun F243 hF244 => ?_)
        obtain ⟨s245, s246⟩ := t2 hF244 55 s232 10 s233
        have s247 : F243 11 = iv 0 := (hF244 11).trans rfl
        clear hF244
        refine then_normal (wq_ret ?_)
        exact end_2 s245 rfl (res_blk blkT_block rfl s246 B236) (res_tmp (v := iv 0) rfl s247) ⟨(by first | rw [(pred_no hno).1, (pred_no hno).2] | rw [(pred_none hpl hm).1, (pred_none hpl hm).2] | rw [(pred_yes hpl hm).1, (pred_yes hpl hm).2]), K242⟩
     ·skip
      refine wq_region (wl_v (.agg #[iv (f.W), iv (f.H), f0, f1, f2]) rfl rfl (y_load_stc stcT_frame rfl s37 B28 rr) (wl_cs rfl rfl rfl rfl rfl (fun _ _ => by kernel_rfl) (vsC rfl vsN) (pl_check f f0 f1 f2 T_f0 T_f1 T_f2 _  B25 B26 B27 ) fun w248 k249 => ?_))
      have B254 := B16.all k249 id
      have K255 := K29.tr k249
      refine wl_v (.bool false) rfl rfl (y_neqI rfl rfl rfl (decide_eq_false d39) rr) (wl_v (.bool false) rfl rfl (y_mov rfl rfl rr) (wl_vw (iv p) 3 false 15 rfl rfl rfl rfl rfl (y_mov rfl s32 rr) (wl_vw (.bool false) 3 false 15 rfl rfl rfl rfl rfl (y_lss rfl rfl rfl (decide_eq_false d71) rr) (wl_v (.bool false) rfl rfl (y_pickF rfl rfl rfl rr) (wl_v (.bool false) rfl rfl (y_mov rfl rfl rr) (wl_vw (iv p) 7 false 19 rfl rfl rfl rfl rfl (y_mov rfl s32 rr) (wl_vw (.bool false) 7 false 19 rfl rfl rfl rfl rfl (y_geq rfl rfl rfl (decide_eq_false d103) rr) (wl_v (.bool false) rfl rfl (y_pickF rfl rfl rfl rr) (wl_v (.bool false) rfl rfl (y_mov rfl rfl rr) (wl_vw (iv x) 11 false 23 rfl rfl rfl rfl rfl (y_mov rfl s33 rr) (wl_callw (R := fun v_ w_ => v_ = .bool true ∧ Kept (fun _ => False) w248 w_) 11 false 23 rfl rfl rfl rfl rfl (y_cs rfl rfl rfl (fun _ _ => by kernel_rfl) (ev_func _) (vsC rfl vsN) (is_place x  _   ) (fun e_ w_ h_ => ⟨_, h_.1, (congrArg Value.bool (decide_eq_true d135)), h_.2⟩)) ?_)))))))))))
      rintro _ w256 ⟨rfl, k257⟩
      have B262 := B254.all k257 id
      have K263 := K255.tr k257
      refine wl_vw (.bool false) 11 false 23 rfl rfl rfl rfl rfl (y_not rfl rfl rfl rr) (wl_v (.bool false) rfl rfl (y_pickF rfl rfl rfl rr) (wl_v (.bool false) rfl rfl (y_mov rfl rfl rr) (wl_vw (iv y) 16 false 28 rfl rfl rfl rfl rfl (y_mov rfl s34 rr) (wl_callw (R := fun v_ w_ => v_ = .bool false ∧ Kept (fun _ => False) w256 w_) 16 false 28 rfl rfl rfl rfl rfl (y_cs rfl rfl rfl (fun _ _ => by kernel_rfl) (ev_func _) (vsC rfl vsN) (is_place y  _   ) (fun e_ w_ h_ => ⟨_, h_.1, (congrArg Value.bool (decide_eq_false d136)), h_.2⟩)) ?_))))
      rintro _ w264 ⟨rfl, k265⟩
      have B270 := B262.all k265 id
      have K271 := K263.tr k265
      refine wl_vw (.bool true) 16 false 28 rfl rfl rfl rfl rfl (y_not rfl rfl rfl rr) (wl_v (.bool true) rfl rfl (y_pickF rfl rfl rfl rr) (wl_nil fun F272 hF273 => ?_))
      obtain ⟨s278, s280⟩ := t2 hF273 55 s36 10 s38
      have s281 : F272 32 = .bool true := (hF273 32).trans rfl
      clear hF273
      refine then_normal ?_
      refine wq_cond (t := true) s281 (fun _ => ?_) (fun e => by cases e)
      refine wq_seq ?_
      have hno : ¬ placeF f p x y := by rintro ⟨h1, h2, h3, h4, h5, h6, h7⟩; first | exact absurd ((checkE_iff f).2 h1) (by assumption) | omega
      refine wq_region (wl_v (blkV (fun _ => 0)) rfl rfl (y_buildR (cells := (arrL 16 (fun _ => 0)).toArray) rfl (by kernel_rfl) rfl rr) (wl_store_blk blkT_block rfl rfl rfl s280 rfl B270 fun w282 B283 k284 => ?_))
      have K289 := K271.trans k284 (Grew.ok (S := fun _ => False) gr20 noB_le)
      refine wl_v (iv 70) rfl rfl (y_asg rfl rfl rr) (wl_nil fun F290 hF291 => ?_)
      obtain ⟨s292, s293⟩ := t2 hF291 55 s278 10 s280
      have s294 : F290 11 = iv 70 := (hF291 11).trans rfl
      clear hF291
      refine then_normal (wq_ret (then_ret ?_))
      exact end_2 s292 rfl (res_blk blkT_block rfl s293 B283) (res_tmp (v := iv 70) rfl s294) ⟨(by first | rw [(pred_no hno).1, (pred_no hno).2] | rw [(pred_none hpl hm).1, (pred_none hpl hm).2] | rw [(pred_yes hpl hm).1, (pred_yes hpl hm).2]), K289⟩
    ·skip
     refine wq_region (wl_v (.agg #[iv (f.W), iv (f.H), f0, f1, f2]) rfl rfl (y_load_stc stcT_frame rfl s37 B28 rr) (wl_cs rfl rfl rfl rfl rfl (fun _ _ => by kernel_rfl) (vsC rfl vsN) (pl_check f f0 f1 f2 T_f0 T_f1 T_f2 _  B25 B26 B27 ) fun w295 k296 => ?_))
     have B301 := B16.all k296 id
     have K302 := K29.tr k296
     refine wl_v (.bool false) rfl rfl (y_neqI rfl rfl rfl (decide_eq_false d39) rr) (wl_v (.bool false) rfl rfl (y_mov rfl rfl rr) (wl_vw (iv p) 3 false 15 rfl rfl rfl rfl rfl (y_mov rfl s32 rr) (wl_vw (.bool false) 3 false 15 rfl rfl rfl rfl rfl (y_lss rfl rfl rfl (decide_eq_false d71) rr) (wl_v (.bool false) rfl rfl (y_pickF rfl rfl rfl rr) (wl_v (.bool false) rfl rfl (y_mov rfl rfl rr) (wl_vw (iv p) 7 false 19 rfl rfl rfl rfl rfl (y_mov rfl s32 rr) (wl_vw (.bool false) 7 false 19 rfl rfl rfl rfl rfl (y_geq rfl rfl rfl (decide_eq_false d103) rr) (wl_v (.bool false) rfl rfl (y_pickF rfl rfl rfl rr) (wl_v (.bool false) rfl rfl (y_mov rfl rfl rr) (wl_vw (iv x) 11 false 23 rfl rfl rfl rfl rfl (y_mov rfl s33 rr) (wl_callw (R := fun v_ w_ => v_ = .bool false ∧ Kept (fun _ => False) w295 w_) 11 false 23 rfl rfl rfl rfl rfl (y_cs rfl rfl rfl (fun _ _ => by kernel_rfl) (ev_func _) (vsC rfl vsN) (is_place x  _   ) (fun e_ w_ h_ => ⟨_, h_.1, (congrArg Value.bool (decide_eq_false d135)), h_.2⟩)) ?_)))))))))))
     rintro _ w303 ⟨rfl, k304⟩
     have B309 := B301.all k304 id
     have K310 := K302.tr k304
     refine wl_vw (.bool true) 11 false 23 rfl rfl rfl rfl rfl (y_not rfl rfl rfl rr) (wl_v (.bool true) rfl rfl (y_pickF rfl rfl rfl rr) (wl_v (.bool true) rfl rfl (y_mov rfl rfl rr) (wl_unless 16 false 28 rfl rfl rfl (Or.inl rfl) rfl (wl_unless 16 false 28 rfl rfl rfl (Or.inl rfl) rfl (wl_unless 16 false 28 rfl rfl rfl (Or.inl rfl) rfl (wl_v (.bool true) rfl rfl (y_pickT rfl rfl rfl rr) (wl_nil fun F311 hF312 => ?_)))))))
     obtain ⟨s317, s319⟩ := t2 hF312 55 s36 10 s38
     have s320 : F311 32 = .bool true := (hF312 32).trans rfl
     clear hF312
     refine then_normal ?_
     refine wq_cond (t := true) s320 (fun _ => ?_) (fun e => by cases e)
     refine wq_seq ?_
     have hno : ¬ placeF f p x y := by rintro ⟨h1, h2, h3, h4, h5, h6, h7⟩; first | exact absurd ((checkE_iff f).2 h1) (by assumption) | omega
     refine wq_region (wl_v (blkV (fun _ => 0)) rfl rfl (y_buildR (cells := (arrL 16 (fun _ => 0)).toArray) rfl (by kernel_rfl) rfl rr) (wl_store_blk blkT_block rfl rfl rfl s319 rfl B309 fun w321 B322 k323 => ?_))
     have K328 := K310.trans k323 (Grew.ok (S := fun _ => False) gr20 noB_le)
     refine wl_v (iv 70) rfl rfl (y_asg rfl rfl rr) (wl_nil fun F329 hF330 => ?_)
     obtain ⟨s331, s332⟩ := t2 hF330 55 s317 10 s319
     have s333 : F329 11 = iv 70 := (hF330 11).trans rfl
     clear hF330
     refine then_normal (wq_ret (then_ret ?_))
     exact end_2 s331 rfl (res_blk blkT_block rfl s332 B322) (res_tmp (v := iv 70) rfl s333) ⟨(by first | rw [(pred_no hno).1, (pred_no hno).2] | rw [(pred_none hpl hm).1, (pred_none hpl hm).2] | rw [(pred_yes hpl hm).1, (pred_yes hpl hm).2]), K328⟩
end Go.Proofs.YtknjpdcpmpfklaaGreatDoor
set_option maxRecDepth 100000
namespace Go.Proofs.YtknjpdcpmpfklaaGreatDoor
theorem c256_id {n : Int} (h1 : -256 ≤ n) (h2 : n ≤ 256) : c256 n = n := by unfold c256; omega
theorem near_id2 {n : Int} (h1 : -64 ≤ n) (h2 : n ≤ 128) : nearI n = n := by unfold nearI; omega
theorem mv_even {f : FD} {k u t a c : Int} (hu : 0 ≤ u ∧ u ≤ 64) (ht : 0 ≤ t ∧ t ≤ 64) (ha : -15 ≤ a ∧ a ≤ 15) (hc : -15 ≤ c ∧ c ≤ 15) (n : Nat) (hn : n < 16) : mvN f k u t (a * 2) (c * 2) n = getF f k (u + a) (t + c) n := by
  unfold mvN smpF getF
  rw [c256_id (by omega) (by omega), c256_id (by omega) (by omega), near_id2 (by omega) (by omega), near_id2 (by omega) (by omega), mid_both (by omega) (by omega)]
  congr 1 <;> omega
theorem getF_le {f : FD} (hb : Bytes3 f) (p x y : Int) (n : Nat) : 0 ≤ getF f p x y n ∧ getF f p x y n ≤ 255 := atF_le hb _ _ _
theorem c8_id {n : Int} (h1 : 0 ≤ n) (h2 : n ≤ 255) : c8 n = n := by unfold c8; omega
theorem both_self (a : Nat → Int) (i : Nat) (h : 0 ≤ a i ∧ a i ≤ 255) : bothB a a i = a i := by rw [bothB_at, c8_id h.1 h.2]; omega
end Go.Proofs.YtknjpdcpmpfklaaGreatDoor
set_option maxRecDepth 100000
namespace Go.Proofs.YtknjpdcpmpfklaaGreatDoor
open Go.RowKit
theorem stcT_vector : StcT Tryz.prog 67 2 := ⟨_, Tryz.underlying67, rfl, by kernel_rfl⟩
end Go.Proofs.YtknjpdcpmpfklaaGreatDoor
set_option maxRecDepth 100000
namespace Go.Proofs.YtknjpdcpmpfklaaGreatDoor
def c34 (n : Int) : Int := max (-34) (min n 34)
def nx (a : Int) (k : Nat) : Int := a - 2 + ((k % 5 : Nat) : Int)
def ny (c : Int) (k : Nat) : Int := c - 2 + ((k / 5 : Nat) : Int)
end Go.Proofs.YtknjpdcpmpfklaaGreatDoor
set_option maxRecDepth 100000
namespace Go.Proofs.YtknjpdcpmpfklaaGreatDoor
open Go.RowKit
inductive Pc where
  | eq (v : Value)
  | turn (j : Nat)
  | blk (t : TypeId) (zs : List Value) (k : Nat) (us : List Value)
  | told (p : Nat) (t : TypeId) (zs us : List Value)
def Pc.none : Pc := .eq undef
def isBlk : Pc → Bool
  | .blk _ _ _ _ => true
  | _ => false
def HoldC (n0 : Nat) (p : Pc) (L : Nat → Bool) (v : Value) (w : World) : Prop := match p with
  | .eq x => v = x
  | .turn _ => True
  | .told _ _ _ _ => True
  | .blk t zs k us => ∃ q, v = .pointer (some ⟨q, 0, none⟩) ∧ n0 ≤ q ∧ Stc w q t (if L k = true then us else zs)
def NotTold (p : Nat) : List Pc → Prop
  | [] => True
  | .told q _ _ _ :: r => p ≠ q ∧ NotTold p r
  | .eq _ :: r => NotTold p r
  | .turn _ :: r => NotTold p r
  | .blk _ _ _ _ :: r => NotTold p r
def Olds (S : Nat → Prop) (w0 : World) : List Pc → Prop
  | [] => True
  | .told p t zs _ :: r => (S p ∧ Stc w0 p t zs ∧ NotTold p r) ∧ Olds S w0 r
  | .eq _ :: r => Olds S w0 r
  | .turn _ :: r => Olds S w0 r
  | .blk _ _ _ _ :: r => Olds S w0 r
theorem NotTold.at {p : Nat} : ∀ {Gs : List Pc}, NotTold p Gs → ∀ i q t zs us, Gs.getD i Pc.none = .told q t zs us → p ≠ q := by
  intro Gs
  induction Gs with
  | nil => intro _ i q t zs us h; cases h
  | cons g r ih =>
    intro h i q t zs us e
    cases i with
    | zero =>
      have e : g = .told q t zs us := by simpa using e
      subst e; exact h.1
    | succ i =>
      have e : r.getD i Pc.none = .told q t zs us := by simpa using e
      cases g <;> first | exact ih h.2 i q t zs us e | exact ih h i q t zs us e
theorem Olds.at {S : Nat → Prop} {w0 : World} : ∀ {Gs : List Pc}, Olds S w0 Gs → ∀ i p t zs us, Gs.getD i Pc.none = .told p t zs us → S p ∧ Stc w0 p t zs := by
  intro Gs
  induction Gs with
  | nil => intro _ i q t zs us h; cases h
  | cons g r ih =>
    intro h i q t zs us e
    cases i with
    | zero =>
      have e : g = .told q t zs us := by simpa using e
      subst e; exact ⟨h.1.1, h.1.2.1⟩
    | succ i =>
      have e : r.getD i Pc.none = .told q t zs us := by simpa using e
      cases g <;> first | exact ih h.2 i q t zs us e | exact ih h i q t zs us e
theorem Olds.ne {S : Nat → Prop} {w0 : World} : ∀ {Gs : List Pc}, Olds S w0 Gs → ∀ i j p t zs us p' t' zs' us', i ≠ j → Gs.getD i Pc.none = .told p t zs us → Gs.getD j Pc.none = .told p' t' zs' us' → p ≠ p' := by
  intro Gs
  induction Gs with
  | nil => intro _ i j p t zs us p' t' zs' us' _ h; cases h
  | cons g r ih =>
    intro h i j p t zs us p' t' zs' us' hij e1 e2
    cases i with
    | zero =>
      have e1 : g = .told p t zs us := by simpa using e1
      subst e1
      cases j with
      | zero => exact absurd rfl hij
      | succ j => exact h.1.2.2.at j p' t' zs' us' (by simpa using e2)
    | succ i =>
      cases j with
      | zero =>
        have e2 : g = .told p' t' zs' us' := by simpa using e2
        subst e2
        exact fun e => h.1.2.2.at i p t zs us (by simpa using e1) e.symm
      | succ j =>
        have hr : Olds S w0 r := by cases g <;> first | exact h.2 | exact h
        exact ih hr i j p t zs us p' t' zs' us' (fun e => hij (by rw [e])) (by simpa using e1) (by simpa using e2)
structure JC (S : Nat → Prop) (w0 : World) (Gs : List Pc) (L : Nat → Bool) (v : Nat → Value) (w : World) : Prop where
  kept : Kept S w0 w
  olds : ∀ i p t zs us, Gs.getD i Pc.none = .told p t zs us → Stc w p t (if L i = true then us else zs)
  holds : ∀ i, L i = true → HoldC w0.heap.size (Gs.getD i Pc.none) L (v i) w
  apart : ∀ i j, i ≠ j → L i = true → L j = true → isBlk (Gs.getD i Pc.none) = true → isBlk (Gs.getD j Pc.none) = true → v i ≠ v j
  clos : ∀ k j, L k = true → Gs.getD k Pc.none = .turn j → L j = true
def wfAt (os : List Oper) (D : List (Option Tmp)) (Gs : List Pc) (i : Nat) : Pc → Bool
  | .eq _ => true
  | .told _ _ _ _ => true
  | .turn j => (match Gs.getD j Pc.none with | .blk _ _ k _ => k == i | _ => false) && (match D.getD j none with | some _ => true | none => false) && (match os[i]? with | some o => waitsOn o j | none => false)
  | .blk _ _ k _ => match Gs.getD k Pc.none with | .turn j => j == i | _ => false
def wfC (os : List Oper) (D : List (Option Tmp)) (Gs : List Pc) : Bool := (List.range Gs.length).all fun i => wfAt os D Gs i (Gs.getD i Pc.none)
theorem wfC_at {os : List Oper} {D : List (Option Tmp)} {Gs : List Pc} (h : wfC os D Gs = true) (i : Nat) : wfAt os D Gs i (Gs.getD i Pc.none) = true := by
  by_cases hi : i < Gs.length
  · exact List.all_eq_true.1 h i (List.mem_range.2 hi)
  · have : Gs.getD i Pc.none = Pc.none := by simp [List.getD, List.getElem?_eq_none (show Gs.length ≤ i by omega)]
    rw [this]; rfl
theorem wf_blk {os : List Oper} {D : List (Option Tmp)} {Gs : List Pc} (h : wfC os D Gs = true) {i k : Nat} {t : TypeId} {zs us : List Value} (e : Gs.getD i Pc.none = .blk t zs k us) : Gs.getD k Pc.none = .turn i := by
  have := wfC_at h i
  rw [e] at this
  simp only [wfAt] at this
  split at this
  · rename_i j hj; rw [hj]; have : j = i := by simpa using this
    rw [this]
  · cases this
def ToldC (n0 : Nat) (Gs : List Pc) (i : Nat) : Nat → Value → World → Prop := fun j v w => match Gs.getD j Pc.none with
  | .eq x => v = x
  | .turn _ => True
  | .told _ _ _ _ => True
  | .blk t zs k _ => k = i → ∃ q, v = .pointer (some ⟨q, 0, none⟩) ∧ n0 ≤ q ∧ Stc w q t zs
def LeftC (Gs : List Pc) (D : List (Option Tmp)) (i : Nat) (ρ : Operand → Value) (w : World) (v : Value) (w' : World) : Prop := match Gs.getD i Pc.none with
  | .eq x => v = x ∧ Kept (fun _ => False) w w'
  | .blk t zs _ _ => ∃ q, v = .pointer (some ⟨q, 0, none⟩) ∧ w.heap.size ≤ q ∧ Stc w' q t zs ∧ Kept (fun _ => False) w w'
  | .told p t _ us => Stc w' p t us ∧ Kept (onB p) w w'
  | .turn j => ∃ d q, D.getD j none = some d ∧ ρ (.tmp d) = .pointer (some ⟨q, 0, none⟩) ∧ (∀ t zs us, Gs.getD j Pc.none = .blk t zs i us → Stc w' q t us) ∧ Kept (onB q) w w'
section
variable {P : Program} {N : Nat} {F : Nat → Value} {w : World} {Q : Exit → (Nat → Value) → World → Prop}
def StepFC (S : Nat → Prop) (N : Nat) (P : Program) (D : List (Option Tmp)) (Gs : List Pc) (F0 : Nat → Value) (w0 : World) (i : Nat) (o : Oper) : Prop :=
  ∀ (F : Nat → Value) (w : World), Kept S w0 w → (∀ t, Nat.blt t N = true → some t ∉ D → F t = F0 t) → DepsF D (ToldC w0.heap.size Gs i) F w o.after.toList → (∀ p t zs us, Gs.getD i Pc.none = .told p t zs us → Stc w p t zs) →
    match o.guard with
    | none => Yields P (ev F) o w (LeftC Gs D i (ev F) w)
    | some (j, want) => ∃ d, D.getD j none = some d ∧
      ((F d = .bool want ∧ Yields P (ev F) o w (LeftC Gs D i (ev F) w)) ∨ ((F d = .bool (!want) ∨ F d = undef) ∧ Gs.getD i Pc.none = .eq undef))
def StepsFC (S : Nat → Prop) (N : Nat) (P : Program) (D : List (Option Tmp)) (Gs : List Pc) (F0 : Nat → Value) (w0 : World) : Nat → List Oper → Prop
  | _, [] => True
  | i, o :: r => StepFC S N P D Gs F0 w0 i o ∧ StepsFC S N P D Gs F0 w0 (i + 1) r
theorem stepsFC_nil {S : Nat → Prop} {D : List (Option Tmp)} {Gs : List Pc} {F0 : Nat → Value} {w0 : World} {i : Nat} : StepsFC S N P D Gs F0 w0 i [] := trivial
theorem stepsFC_cons {S : Nat → Prop} {D : List (Option Tmp)} {Gs : List Pc} {F0 : Nat → Value} {w0 : World} {i : Nat} {o : Oper} {r : List Oper} (h : StepFC S N P D Gs F0 w0 i o) (k : StepsFC S N P D Gs F0 w0 (i + 1) r) : StepsFC S N P D Gs F0 w0 i (o :: r) := ⟨h, k⟩
theorem StepFC.one {S : Nat → Prop} {D : List (Option Tmp)} {Gs : List Pc} {F0 : Nat → Value} {w0 : World} {i : Nat} {o : Oper} (hg : o.guard = none)
    (h : ∀ (F : Nat → Value) (w : World), Kept S w0 w → (∀ t, Nat.blt t N = true → some t ∉ D → F t = F0 t) → DepsF D (ToldC w0.heap.size Gs i) F w o.after.toList → Yields P (ev F) o w (LeftC Gs D i (ev F) w)) : StepFC S N P D Gs F0 w0 i o := by
  intro F w h1 h2 h3 _
  rw [hg]
  exact h F w h1 h2 h3
theorem StepFC.old {S : Nat → Prop} {D : List (Option Tmp)} {Gs : List Pc} {F0 : Nat → Value} {w0 : World} {i p : Nat} {t : TypeId} {zs us : List Value} {o : Oper} (hg : o.guard = none) (he : Gs.getD i Pc.none = .told p t zs us)
    (h : ∀ (F : Nat → Value) (w : World), Kept S w0 w → (∀ t, Nat.blt t N = true → some t ∉ D → F t = F0 t) → DepsF D (ToldC w0.heap.size Gs i) F w o.after.toList → Stc w p t zs → Yields P (ev F) o w (fun _ w' => Stc w' p t us ∧ Kept (onB p) w w')) : StepFC S N P D Gs F0 w0 i o := by
  intro F w h1 h2 h3 h4
  rw [hg]
  refine (h F w h1 h2 h3 (h4 _ _ _ _ he)).mono' fun v w' hx => ?_
  unfold LeftC
  rw [he]; exact hx
theorem upL_here {L : Nat → Bool} {i : Nat} : upL L i i = true := if_pos rfl
theorem upL_ne {L : Nat → Bool} {i j : Nat} (h : j ≠ i) : upL L i j = L j := if_neg h
theorem upV_here {v : Nat → Value} {i : Nat} {x : Value} : upV v i x i = x := if_pos rfl
theorem upV_ne {v : Nat → Value} {i j : Nat} {x : Value} (h : j ≠ i) : upV v i x j = v j := if_neg h
theorem getElem_getD {α : Type} {l : List α} {d x : α} {i : Nat} (h : l.getD i d = x) (hn : x ≠ d) : l[i]? = some x := by
  unfold List.getD at h
  cases hq : l[i]? with
  | none => rw [hq] at h; exact absurd h.symm hn
  | some y => rw [hq] at h; simpa using h
theorem JC.more {S : Nat → Prop} {os : List Oper} {D : List (Option Tmp)} {Gs : List Pc} {w0 w w' : World} {L : Nat → Bool} {v : Nat → Value} {i : Nat} {x : Value} (hwf : wfC os D Gs = true) (h : JC S w0 Gs L v w) (hi : L i = false) (k : Kept (fun _ => False) w w')
    (hnt : ∀ j, Gs.getD i Pc.none ≠ .turn j) (hnd : ∀ p t zs us, Gs.getD i Pc.none ≠ .told p t zs us) (hx : HoldC w0.heap.size (Gs.getD i Pc.none) (upL L i) x w') (hb : isBlk (Gs.getD i Pc.none) = true → ∃ q, x = .pointer (some ⟨q, 0, none⟩) ∧ w.heap.size ≤ q) : JC S w0 Gs (upL L i) (upV v i x) w' := by
  have hkeep : ∀ j, L j = true → HoldC w0.heap.size (Gs.getD j Pc.none) (upL L i) (v j) w' := by
    intro j hj
    have := h.holds j hj
    revert this
    cases e : Gs.getD j Pc.none with
    | eq y => exact id
    | turn y => exact id
    | told y1 y2 y3 y4 => exact id
    | blk t zs kk us =>
      rintro ⟨q, e1, e2, e3⟩
      have hki : kk ≠ i := fun e' => hnt j (by rw [← e']; exact wf_blk hwf e)
      refine ⟨q, e1, e2, ?_⟩
      rw [upL_ne hki]
      exact e3.all k id
  refine ⟨h.kept.trans k (fun _ _ x => x.elim), fun j p t zs us hj => ?_, fun j hj => ?_, fun a b hab ha hb' hA hB => ?_, fun a b ha hab => ?_⟩
  · have hji : j ≠ i := fun e => hnd p t zs us (by rw [← e]; exact hj)
    rw [upL_ne hji]
    exact (h.olds j p t zs us hj).all k id
  · by_cases hji : j = i
    · subst hji; rw [upV_here]; exact hx
    · rw [upL_ne hji] at hj; rw [upV_ne hji]; exact hkeep j hj
  · have hnew : ∀ c, c ≠ i → L c = true → isBlk (Gs.getD c Pc.none) = true → isBlk (Gs.getD i Pc.none) = true → v c ≠ x := by
      intro c _ hc hC hI e
      obtain ⟨q, e1, e2⟩ := hb hI
      have := h.holds c hc
      revert this hC
      cases e' : Gs.getD c Pc.none with
      | eq y => intro hC; cases hC
      | turn y => intro hC; cases hC
      | told y1 y2 y3 y4 => intro hC; cases hC
      | blk t zs kk us =>
        rintro - ⟨q', f1, f2, f3⟩
        rw [f1, e1] at e
        cases e
        have := f3.lt
        omega
    by_cases hai : a = i
    · subst hai
      have hba : b ≠ a := fun e => hab e.symm
      rw [upL_ne hba] at hb'
      rw [upV_here, upV_ne hba]
      exact fun e => hnew b hba hb' hB hA e.symm
    · rw [upL_ne hai] at ha
      rw [upV_ne hai]
      by_cases hbi : b = i
      · subst hbi; rw [upV_here]; exact hnew a hai ha hA hB
      · rw [upL_ne hbi] at hb'; rw [upV_ne hbi]; exact h.apart a b hab ha hb' hA hB
  · by_cases hai : a = i
    · subst hai; exact absurd hab (hnt b)
    · rw [upL_ne hai] at ha
      have := h.clos a b ha hab
      by_cases hbi : b = i
      · subst hbi; exact upL_here
      · rw [upL_ne hbi]; exact this
theorem JC.turned {S : Nat → Prop} {os : List Oper} {D : List (Option Tmp)} {Gs : List Pc} {w0 w w' : World} {L : Nat → Bool} {v : Nat → Value} {i j q : Nat} {x : Value} (hwf : wfC os D Gs = true) (hO : Olds S w0 Gs) (h : JC S w0 Gs L v w) (hi : L i = false) (hj : L j = true) (he : Gs.getD i Pc.none = .turn j)
    (hv : v j = .pointer (some ⟨q, 0, none⟩)) (hq : ∀ t zs us, Gs.getD j Pc.none = .blk t zs i us → Stc w' q t us) (k : Kept (onB q) w w') : JC S w0 Gs (upL L i) (upV v i x) w' := by
  have hw := wfC_at hwf i
  rw [he] at hw
  simp only [wfAt, Bool.and_eq_true] at hw
  have hn0 : w0.heap.size ≤ q := by
    have := h.holds j hj
    revert this
    obtain ⟨⟨h1, _⟩, _⟩ := hw
    cases e : Gs.getD j Pc.none with
    | eq y => rw [e] at h1; cases h1
    | turn y => rw [e] at h1; cases h1
    | told y1 y2 y3 y4 => rw [e] at h1; cases h1
    | blk t zs kk us =>
      rintro ⟨q', e1, e2, _⟩
      rw [hv] at e1; cases e1; exact e2
  have hjB : isBlk (Gs.getD j Pc.none) = true := by
    obtain ⟨⟨h1, _⟩, _⟩ := hw
    cases e : Gs.getD j Pc.none with
    | eq y => rw [e] at h1; cases h1
    | turn y => rw [e] at h1; cases h1
    | told y1 y2 y3 y4 => rw [e] at h1; cases h1
    | blk t zs kk us => rfl
  refine ⟨h.kept.trans k (fun b hb e => by cases e; omega), fun a p t zs us ha => ?_, fun a ha => ?_, fun a b hab ha hb hA hB => ?_, fun a b ha hab => ?_⟩
  · have hai : a ≠ i := fun e => by rw [e, he] at ha; cases ha
    rw [upL_ne hai]
    exact (h.olds a p t zs us ha).all k (fun e => by have := (hO.at a p t zs us ha).2.lt; rw [show p = q from e] at this; omega)
  · by_cases hai : a = i
    · subst hai; rw [upV_here, he]; exact trivial
    · rw [upL_ne hai] at ha; rw [upV_ne hai]
      have := h.holds a ha
      revert this
      cases e : Gs.getD a Pc.none with
      | eq y => exact id
      | turn y => exact id
      | told y1 y2 y3 y4 => exact id
      | blk t zs kk us =>
        rintro ⟨q', e1, e2, e3⟩
        have hk := wf_blk hwf e
        by_cases haj : a = j
        · subst haj
          have hki : kk = i := by
            obtain ⟨⟨h1, _⟩, _⟩ := hw
            rw [e] at h1; simpa using h1
          subst hki
          rw [hv] at e1; cases e1
          refine ⟨q, hv, hn0, ?_⟩
          rw [if_pos upL_here]
          exact hq t zs us e
        · have hki : kk ≠ i := fun e' => by rw [e', he] at hk; cases hk; exact haj rfl
          refine ⟨q', e1, e2, ?_⟩
          rw [upL_ne hki]
          refine e3.all k (fun e' => ?_)
          have := h.apart a j haj ha hj (by rw [e]; rfl) hjB
          rw [e1, hv] at this
          exact this (by rw [show q' = q from e'])
  · have hni : ∀ c, isBlk (Gs.getD c Pc.none) = true → c ≠ i := fun c hc e => by rw [e, he] at hc; cases hc
    rw [upV_ne (hni a hA), upV_ne (hni b hB)]
    rw [upL_ne (hni a hA)] at ha
    rw [upL_ne (hni b hB)] at hb
    exact h.apart a b hab ha hb hA hB
  · by_cases hai : a = i
    · subst hai
      rw [he] at hab; cases hab
      by_cases hji : j = a
      · subst hji; exact upL_here
      · rw [upL_ne hji]; exact hj
    · rw [upL_ne hai] at ha
      have := h.clos a b ha hab
      by_cases hbi : b = i
      · subst hbi; exact upL_here
      · rw [upL_ne hbi]; exact this
theorem JC.oldTurned {S : Nat → Prop} {os : List Oper} {D : List (Option Tmp)} {Gs : List Pc} {w0 w w' : World} {L : Nat → Bool} {v : Nat → Value} {i p : Nat} {t : TypeId} {zs us : List Value} {x : Value} (hwf : wfC os D Gs = true) (hO : Olds S w0 Gs) (h : JC S w0 Gs L v w) (he : Gs.getD i Pc.none = .told p t zs us)
    (hq : Stc w' p t us) (k : Kept (onB p) w w') : JC S w0 Gs (upL L i) (upV v i x) w' := by
  have hp := hO.at i p t zs us he
  have hni : ∀ c, isBlk (Gs.getD c Pc.none) = true → c ≠ i := fun c hc e => by rw [e, he] at hc; cases hc
  refine ⟨h.kept.trans k (fun b hb e => by cases e; exact hp.1), fun a p' t' zs' us' ha => ?_, fun a ha => ?_, fun a b hab ha hb hA hB => ?_, fun a b ha hab => ?_⟩
  · by_cases hai : a = i
    · subst hai
      rw [he] at ha; cases ha
      rw [if_pos upL_here]; exact hq
    · rw [upL_ne hai]
      exact (h.olds a p' t' zs' us' ha).all k (fun e => hO.ne a i p' t' zs' us' p t zs us hai ha he e)
  · by_cases hai : a = i
    · subst hai; rw [upV_here, he]; exact trivial
    · rw [upL_ne hai] at ha; rw [upV_ne hai]
      have := h.holds a ha
      revert this
      cases e : Gs.getD a Pc.none with
      | eq y => exact id
      | turn y => exact id
      | told y1 y2 y3 y4 => exact id
      | blk t zs kk us =>
        rintro ⟨q', e1, e2, e3⟩
        have hk := wf_blk hwf e
        have hki : kk ≠ i := fun e' => by rw [e', he] at hk; cases hk
        refine ⟨q', e1, e2, ?_⟩
        rw [upL_ne hki]
        exact e3.all k (fun e' => by have := hp.2.lt; rw [show q' = p from e'] at e2; omega)
  · rw [upV_ne (hni a hA), upV_ne (hni b hB)]
    rw [upL_ne (hni a hA)] at ha
    rw [upL_ne (hni b hB)] at hb
    exact h.apart a b hab ha hb hA hB
  · have hai : a ≠ i := fun e => by rw [e, he] at hab; cases hab
    rw [upL_ne hai] at ha
    have := h.clos a b ha hab
    by_cases hbi : b = i
    · subst hbi; exact upL_here
    · rw [upL_ne hbi]; exact this
theorem StepFC.step {S : Nat → Prop} {os : List Oper} {D : List (Option Tmp)} {Gs : List Pc} {w0 : World} {i : Nat} {o : Oper} {a0 : Act} (hwf : wfC os D Gs = true) (hO : Olds S w0 Gs) (ho : os[i]? = some o) (ha : Fr N F a0) (h : StepFC S N P D Gs F w0 i o) : StepJ os P D (JC S w0 Gs) a0 i o := by
  intro L v a w hJ hi hdone hout hhere _
  have hdeps : DepsF D (ToldC w0.heap.size Gs i) (fun t => a.tmps.getD t undef) w o.after.toList := by
    refine Deps.toF (Deps.mk fun e he hb d hd => ?_)
    have hl := hdone e he hb
    have hDe := getElem_getD hd (by simp)
    have hv := hhere e.on d hl hDe
    rw [hv]
    have := hJ.holds e.on hl
    unfold ToldC
    revert this
    cases e' : Gs.getD e.on Pc.none with
    | eq y => exact id
    | turn y => exact id
    | told y1 y2 y3 y4 => exact id
    | blk t zs kk us =>
      rintro ⟨q, e1, e2, e3⟩ hk
      refine ⟨q, e1, e2, ?_⟩
      subst hk
      rw [hi, if_neg (by simp)] at e3
      exact e3
  have h1 := h (fun t => a.tmps.getD t undef) w hJ.kept (fun t hb ht => by rw [← ha.at' t hb]; exact hout t ht) hdeps (fun p t zs us e => by have := hJ.olds i p t zs us e; rw [hi, if_neg (by simp)] at this; exact this)
  rw [← eval_ev a] at h1
  have hleft : ∀ x w', LeftC Gs D i a.eval w x w' → JC S w0 Gs (upL L i) (upV v i x) w' := by
    intro x w' hx
    unfold LeftC at hx
    cases e : Gs.getD i Pc.none with
    | eq y =>
      rw [e] at hx
      exact hJ.more hwf hi hx.2 (fun j hj => by rw [e] at hj; cases hj) (fun _ _ _ _ hj => by rw [e] at hj; cases hj) (by rw [e]; exact hx.1) (by rw [e]; intro hb; cases hb)
    | blk t zs kk us =>
      rw [e] at hx
      obtain ⟨q, e1, e2, e3, e4⟩ := hx
      have hk := wf_blk hwf e
      have hki : kk ≠ i := fun e' => by rw [e', e] at hk; cases hk
      have hLk : L kk = false := by
        cases hq : L kk with
        | false => rfl
        | true => have := hJ.clos kk i hq hk; rw [hi] at this; cases this
      refine hJ.more hwf hi e4 (fun j hj => by rw [e] at hj; cases hj) (fun _ _ _ _ hj => by rw [e] at hj; cases hj) ?_ (fun _ => ⟨q, e1, e2⟩)
      rw [e]
      refine ⟨q, e1, Nat.le_trans hJ.kept.size e2, ?_⟩
      rw [upL_ne hki, hLk, if_neg (by simp)]
      exact e3
    | told p t zs us =>
      rw [e] at hx
      exact hJ.oldTurned hwf hO e hx.1 hx.2
    | turn j =>
      rw [e] at hx
      obtain ⟨d, q, hd, e1, e2, e3⟩ := hx
      have hw := wfC_at hwf i
      rw [e] at hw
      simp only [wfAt, Bool.and_eq_true, ho] at hw
      obtain ⟨ed, hed, hb, hon⟩ := waitsOn_iff.1 hw.2
      have hLj := hdone ed hed hb
      rw [hon] at hLj
      have hv := hhere j d hLj (getElem_getD hd (by simp))
      exact hJ.turned hwf hO hi hLj e (by rw [← hv]; exact e1) e2 e3
  unfold goes
  cases hg : o.guard with
  | none => rw [hg] at h1; exact ⟨fun _ => h1.mono' hleft, fun e => by cases e⟩
  | some g =>
    obtain ⟨j, want⟩ := g
    rw [hg] at h1
    obtain ⟨d, hd, h1⟩ := h1
    simp only [hd]
    have hev : a.eval (.tmp d) = a.tmps.getD d undef := rfl
    rcases h1 with ⟨hv, hy⟩ | ⟨hv, hs⟩
    · rw [hev, hv]; exact ⟨fun _ => hy.mono' hleft, fun e => by simp at e⟩
    · refine ⟨fun e => ?_, fun _ => hJ.more hwf hi (Kept.refl _ _) (fun j hj => by rw [hs] at hj; cases hj) (fun _ _ _ _ hj => by rw [hs] at hj; cases hj) (by rw [hs]; rfl) (by rw [hs]; intro hb; cases hb)⟩
      rcases hv with hv | hv
      · rw [hev, hv] at e; cases want <;> simp at e
      · rw [hev, hv] at e; simp [undef] at e
theorem StepsFC.steps {S : Nat → Prop} {all : List Oper} {D : List (Option Tmp)} {Gs : List Pc} {w0 : World} {a0 : Act} (hwf : wfC all D Gs = true) (hO : Olds S w0 Gs) (ha : Fr N F a0) : ∀ {os : List Oper} {i : Nat}, (∀ k o, os[k]? = some o → all[i + k]? = some o) → StepsFC S N P D Gs F w0 i os → StepsJ all P D (JC S w0 Gs) a0 i os := by
  intro os
  induction os with
  | nil => intro i _ _; exact trivial
  | cons o r ih =>
    intro i hat h
    exact ⟨h.1.step hwf hO (hat 0 o rfl) ha, ih (fun k o' hk => by have := hat (k + 1) o' hk; rwa [show i + (k + 1) = i + 1 + k by omega] at this) h.2⟩
def EndC (n0 : Nat) (Gs : List Pc) (i : Nat) (v : Value) (w : World) : Prop := match Gs.getD i Pc.none with
  | .eq x => v = x
  | .turn _ => True
  | .told p t _ us => Stc w p t us
  | .blk t _ _ us => ∃ q, v = .pointer (some ⟨q, 0, none⟩) ∧ n0 ≤ q ∧ Stc w q t us
theorem wq_cells {S : Nat → Prop} {id : Nat} {ops : Array Oper} (D : List (Option Tmp)) (Gs : List Pc) (hm : P.follows .mixedOrders = true) (hpl : plain N 0 D ops.toList = true) (hwf : wfC ops.toList D Gs = true) (hsz : Gs.length = ops.size) (hO : Olds S w Gs) (hsteps : StepsFC S N P D Gs F w 0 ops.toList)
    (hend : ∀ (v : Nat → Value) (F' : Nat → Value) (w' : World), Kept S w w' → (∀ i, i < ops.size → EndC w.heap.size Gs i (v i) w') → (∀ i j, i ≠ j → i < ops.size → j < ops.size → isBlk (Gs.getD i Pc.none) = true → isBlk (Gs.getD j Pc.none) = true → v i ≠ v j) → (∀ t, F' t = putsF v 0 D F t) → Q .normal F' w') : wq none P N (.region id ops true) Q F w := by
  intro a ha
  refine wpIn_wide.2 ?_
  refine wp_region_inv D (JC S w Gs) hm (by rw [ha.size]; exact hpl) ⟨(Kept.refl _ w).drew, fun i p t zs us e => (by rw [if_neg (by simp)]; exact (hO.at i p t zs us e).2.all ((Kept.refl (fun _ => False) w).drew) (fun z => z)), fun _ e => (by cases e), fun _ _ _ e => (by cases e), fun _ _ e => (by cases e)⟩ (hsteps.steps hwf hO ha (fun k o hk => by rw [Nat.zero_add]; exact hk)) fun L v w' hJ hL => ?_
  refine ⟨putsF v 0 D F, putAll_fr v D 0 F a ha (plain_fits hpl), hend v _ w' hJ.kept (fun i hi => ?_) (fun i j hij hi hj hI hJ' => hJ.apart i j hij (hL i hi) (hL j hj) hI hJ') fun _ => rfl⟩
  have := hJ.holds i (hL i hi)
  unfold EndC
  revert this
  cases e : Gs.getD i Pc.none with
  | eq y => exact fun z => z
  | turn y => exact fun z => z
  | told p t zs us =>
    intro _
    have := hJ.olds i p t zs us e
    rw [if_pos (hL i hi)] at this
    exact this
  | blk t zs kk us =>
    rintro ⟨q, e1, e2, e3⟩
    have hk := wf_blk hwf e
    have hkk : kk < ops.size := by
      rw [← hsz]
      rcases Nat.lt_or_ge kk Gs.length with h' | h'
      · exact h'
      · have : Gs.getD kk Pc.none = Pc.none := by simp [List.getD, List.getElem?_eq_none h']
        rw [this] at hk; cases hk
    rw [if_pos (hL kk hkk)] at e3
    exact ⟨q, e1, e2, e3⟩
end
end Go.Proofs.YtknjpdcpmpfklaaGreatDoor
set_option maxRecDepth 100000
namespace Go.Proofs.YtknjpdcpmpfklaaGreatDoor
open Go.RowKit
def sameVec (a b c d : Int) : Bool := decide (a = c) && decide (b = d)
theorem sameVec_self (a b : Int) : sameVec a b a b = true := by unfold sameVec; simp
theorem Tryz.vecFields : (Tryz.prog.fieldsOf 67).toList.map (fun f => (f.name, f.type, f.offset)) = [("X", 3, 0), ("Y", 3, 1)] := by kernel_rfl
theorem part_int (w : World) (xs : Array Value) (i : Nat) (z : Int) (h : xs[i]? = some (.int .i64 z)) : (part 3 xs i).run Tryz.prog w = .ok (.int .i64 z) w := by
  simp [part, isAgg, run_underlying Tryz.underlying3, h]
theorem run_same_vec (w : World) (a b c d : Int) : (Op.equalIn 10000 67 (.agg #[.int .i64 a, .int .i64 b]) (.agg #[.int .i64 c, .int .i64 d])).run Tryz.prog w = .ok (sameVec a b c d) w := by
  rw [run_equalIn_struct w 9999 _ _ _ (by kernel_rfl) (by kernel_rfl)]
  have hf := Tryz.vecFields
  generalize (Tryz.prog.fieldsOf 67).toList = fs at hf
  have hlen : fs.length = 2 := by simpa using congrArg List.length hf
  have p1 := part_int w #[.int .i64 a, .int .i64 b] 0 a rfl
  have p2 := part_int w #[.int .i64 c, .int .i64 d] 0 c rfl
  have p3 := part_int w #[.int .i64 a, .int .i64 b] 1 b rfl
  have p4 := part_int w #[.int .i64 c, .int .i64 d] 1 d rfl
  match fs, hlen with
  | [f0, f1], _ =>
    simp only [List.map_cons, List.map_nil, List.cons.injEq, Prod.mk.injEq, and_true] at hf
    obtain ⟨⟨n0, t0, o0⟩, ⟨n1, t1, o1⟩⟩ := hf
    simp only [Op.eqFields, n0, t0, o0, n1, t1, o1]
    rw [if_pos (by decide), if_pos (by decide)]
    simp only [Sem.run_bind, p1, p2, Result.andThen_ok, run_equalIn_int w 9998 3 .i64 .i64 _ _ Tryz.underlying3]
    unfold sameVec
    by_cases h1 : a = c
    · subst h1
      simp only [beq_self_eq_true, Bool.not_true, Bool.false_eq_true, if_false, Sem.run_bind, p3, p4, Result.andThen_ok, run_equalIn_int w 9998 3 .i64 .i64 _ _ Tryz.underlying3]
      by_cases h2 : b = d
      · subst h2; simp
      · have : (b == d) = false := by simpa using h2
        simp [this, h2]
    · have : (a == c) = false := by simpa using h1
      simp [this, h1]
theorem Tryz.guard_vec : Tryz.prog.eqGuardType Tryz.prog.depth 67 = false := by kernel_rfl
section
variable {ρ : Operand → Value} {o : Oper} {w : World} {R : Value → World → Prop}
theorem y_eqlVec {t' : TypeId} {x y : Operand} {a b c d : Int} {q : Bool} (ho : o.op = .binOp .eql 67 x y t') (hx : ρ x = .agg #[.int .i64 a, .int .i64 b]) (hy : ρ y = .agg #[.int .i64 c, .int .i64 d]) (hr : sameVec a b c d = q) (h : R (.bool q) w) : Yields Tryz.prog ρ o w R :=
  y_of (v := .bool (sameVec a b c d)) (w' := w) (by simp only [execOp, ho, hx, hy, Sem.run_bind, run_eqGuard_agg w .eql _ _ _ _ _ Tryz.guard_vec, run_eql_struct, run_same_vec, Result.andThen_ok, Sem.run_pure]) (by rw [hr]; exact h)
end
def Cin (w : World) (T : Nat → Prop) (p : Nat) (n : Int) : Prop := T = onB p ∧ Cel w p 3 (.int .i64 n)
theorem Cin.live {w : World} {T : Nat → Prop} {p : Nat} {n : Int} (h : Cin w T p n) : Live w T := by
  obtain ⟨rfl, h⟩ := h; exact onB_live h.lt
theorem Cin.all {S : Nat → Prop} {w w' : World} {T : Nat → Prop} {p : Nat} {n : Int} (h : Cin w T p n) (k : Kept S w w') (ha : Apart T S) : Cin w' T p n := by
  obtain ⟨rfl, h⟩ := h; exact ⟨rfl, h.all k (ha p rfl)⟩
theorem Cin.cells {w : World} {T : Nat → Prop} {p : Nat} {n : Int} (h : Cin w T p n) : Cells w T := by
  obtain ⟨rfl, h⟩ := h; exact h.cells
theorem Cin.row {A B : World} {row : Option Nat} {m p : Nat} {T : Nat → Prop} {n : Int} (h : Cin A T p n) (hg : A.grownBy B row) (hr : RowNew m A row) : Cin B T p n := h.all (kept_row hg) (h.cells.apart hr)
theorem and_1 : ∀ k : Fin 513, bits .and .i64 ((k.1 : Int) - 256) 1 = ((k.1 : Int) - 256) % 2 := by decide +kernel
theorem and_one {u : Int} (h : -256 ≤ u ∧ u ≤ 256) : bits .and .i64 u 1 = u % 2 := by
  have := and_1 ⟨(u + 256).toNat, by omega⟩
  simp only at this
  rwa [show (((u + 256).toNat : Nat) : Int) - 256 = u by omega] at this
theorem mo_clamped (n a b : Int) (w0 : World) :
  Calls Tryz.prog 138 #[.int .i64 (n), .int .i64 (a), .int .i64 (b)] w0 fun e w' => e = .returned (.int .i64 (max a (min n b))) ∧ Kept (fun _ => False) w0 w' := by
 refine calls_wq (args := [iv n, iv a, iv b]) 12 Tryz.func138 rfl rfl (Nat.le_of_ble_eq_true rfl) ?_
 have K0 := Kept.refl (fun _ => False) w0
 refine wq_seq (wq_region (wl_v (iv 0) rfl rfl (y_asg rfl rfl rr) (wl_nil fun F1 hF2 => ?_)))
 have s3 : F1 0 = iv n := (hF2 0).trans rfl
 have s4 : F1 1 = iv a := (hF2 1).trans rfl
 have s5 : F1 2 = iv b := (hF2 2).trans rfl
 have s6 : F1 12 = undef := (hF2 12).trans rfl
 clear hF2
 refine then_normal (wq_seq (wq_region (wl_mv rfl rfl rfl s4 (wl_mv rfl rfl rfl s3 (wl_mv rfl rfl rfl s5 (wl_v (iv (min n b)) rfl rfl (y_minR rfl rfl rfl rfl rr) (wl_v (iv (max a (min n b))) rfl rfl (y_maxR rfl rfl rfl rfl rr) (wl_v (iv (max a (min n b))) rfl rfl (y_asg rfl rfl rr) (wl_nil fun F7 hF8 => ?_)))))))))
 have s9 := (hF8 12).trans s6
 have s10 : F7 6 = iv (max a (min n b)) := (hF8 6).trans rfl
 clear hF8
 refine then_normal (wq_ret ?_)
 exact end_tmp (v := iv (max a (min n b))) s9 rfl rfl s10 ⟨rfl, K0⟩
theorem mo_mayGo (n : Int) (w0 : World) :
  Calls Tryz.prog 134 #[.int .i64 (n)] w0 fun e w' => e = .returned (.bool (decide (-31 ≤ n ∧ n ≤ 31))) ∧ Kept (fun _ => False) w0 w' := by
 refine calls_wq (args := [iv n]) 9 Tryz.func134 rfl rfl (Nat.le_of_ble_eq_true rfl) ?_
 have K0 := Kept.refl (fun _ => False) w0
 refine wq_seq (wq_region (wl_v (.bool false) rfl rfl (y_asg rfl rfl rr) (wl_nil fun F1 hF2 => ?_)))
 have s3 : F1 0 = iv n := (hF2 0).trans rfl
 have s4 : F1 9 = undef := (hF2 9).trans rfl
 clear hF2
 refine then_normal (wq_seq ?_)
 by_cases d5 : (-31) ≤ n
 ·skip
  refine wq_region (wl_mv rfl rfl rfl s3 (wl_v (.bool true) rfl rfl (y_geq rfl rfl rfl (decide_eq_true d5) rr) (wl_v (.bool true) rfl rfl (y_mov rfl rfl rr) (wl_vw (iv n) 2 true 5 rfl rfl rfl rfl rfl (y_mov rfl s3 rr) (wl_vw (.bool (decide (n ≤ 31))) 2 true 5 rfl rfl rfl rfl rfl (y_leq rfl rfl rfl rfl rr) (wl_v (.bool (decide (n ≤ 31))) rfl rfl (y_pickT rfl rfl rfl rr) (wl_v (.bool (decide (n ≤ 31))) rfl rfl (y_asg rfl rfl rr) (wl_nil fun F6 hF7 => ?_))))))))
  have s8 := (hF7 9).trans s4
  have s9 : F6 2 = .bool (decide (n ≤ 31)) := (hF7 2).trans rfl
  clear hF7
  refine then_normal (wq_ret ?_)
  exact end_tmp (v := .bool (decide (n ≤ 31))) s8 rfl rfl s9 ⟨(retB (by first | exact (decide_eq_true (by omega)).symm | exact (decide_eq_false (by omega)).symm | exact decide_eq_decide.2 (by omega))), K0⟩
 ·skip
  refine wq_region (wl_mv rfl rfl rfl s3 (wl_v (.bool false) rfl rfl (y_geq rfl rfl rfl (decide_eq_false d5) rr) (wl_v (.bool false) rfl rfl (y_mov rfl rfl rr) (wl_unless 2 true 5 rfl rfl rfl (Or.inl rfl) rfl (wl_unless 2 true 5 rfl rfl rfl (Or.inl rfl) rfl (wl_v (.bool false) rfl rfl (y_pickF rfl rfl rfl rr) (wl_v (.bool false) rfl rfl (y_asg rfl rfl rr) (wl_nil fun F10 hF11 => ?_))))))))
  have s12 := (hF11 9).trans s4
  have s13 : F10 2 = .bool false := (hF11 2).trans rfl
  clear hF11
  refine then_normal (wq_ret ?_)
  exact end_tmp (v := .bool false) s12 rfl rfl s13 ⟨(retB (by first | exact (decide_eq_true (by omega)).symm | exact (decide_eq_false (by omega)).symm | exact decide_eq_decide.2 (by omega))), K0⟩
theorem mo_mayPlace (n : Int) (w0 : World) :
  Calls Tryz.prog 135 #[.int .i64 (n)] w0 fun e w' => e = .returned (.bool (decide (0 ≤ n ∧ n ≤ 64))) ∧ Kept (fun _ => False) w0 w' := by
 refine calls_wq (args := [iv n]) 9 Tryz.func135 rfl rfl (Nat.le_of_ble_eq_true rfl) ?_
 have K0 := Kept.refl (fun _ => False) w0
 refine wq_seq (wq_region (wl_v (.bool false) rfl rfl (y_asg rfl rfl rr) (wl_nil fun F1 hF2 => ?_)))
 have s3 : F1 0 = iv n := (hF2 0).trans rfl
 have s4 : F1 9 = undef := (hF2 9).trans rfl
 clear hF2
 refine then_normal (wq_seq ?_)
 by_cases d5 : 0 ≤ n
 ·skip
  refine wq_region (wl_mv rfl rfl rfl s3 (wl_v (.bool true) rfl rfl (y_geq rfl rfl rfl (decide_eq_true d5) rr) (wl_v (.bool true) rfl rfl (y_mov rfl rfl rr) (wl_vw (iv n) 2 true 5 rfl rfl rfl rfl rfl (y_mov rfl s3 rr) (wl_vw (.bool (decide (n ≤ 64))) 2 true 5 rfl rfl rfl rfl rfl (y_leq rfl rfl rfl rfl rr) (wl_v (.bool (decide (n ≤ 64))) rfl rfl (y_pickT rfl rfl rfl rr) (wl_v (.bool (decide (n ≤ 64))) rfl rfl (y_asg rfl rfl rr) (wl_nil fun F6 hF7 => ?_))))))))
  have s8 := (hF7 9).trans s4
  have s9 : F6 2 = .bool (decide (n ≤ 64)) := (hF7 2).trans rfl
  clear hF7
  refine then_normal (wq_ret ?_)
  exact end_tmp (v := .bool (decide (n ≤ 64))) s8 rfl rfl s9 ⟨(retB (by first | exact (decide_eq_true (by omega)).symm | exact (decide_eq_false (by omega)).symm | exact decide_eq_decide.2 (by omega))), K0⟩
 ·skip
  refine wq_region (wl_mv rfl rfl rfl s3 (wl_v (.bool false) rfl rfl (y_geq rfl rfl rfl (decide_eq_false d5) rr) (wl_v (.bool false) rfl rfl (y_mov rfl rfl rr) (wl_unless 2 true 5 rfl rfl rfl (Or.inl rfl) rfl (wl_unless 2 true 5 rfl rfl rfl (Or.inl rfl) rfl (wl_v (.bool false) rfl rfl (y_pickF rfl rfl rfl rr) (wl_v (.bool false) rfl rfl (y_asg rfl rfl rr) (wl_nil fun F10 hF11 => ?_))))))))
  have s12 := (hF11 9).trans s4
  have s13 : F10 2 = .bool false := (hF11 2).trans rfl
  clear hF11
  refine then_normal (wq_ret ?_)
  exact end_tmp (v := .bool false) s12 rfl rfl s13 ⟨(retB (by first | exact (decide_eq_true (by omega)).symm | exact (decide_eq_false (by omega)).symm | exact decide_eq_decide.2 (by omega))), K0⟩
theorem mo_mean (s m : Int) (w0 : World) (hs : 0 ≤ s ∧ s ≤ 4000) (hm : m = 1 ∨ m = 2 ∨ m = 4) :
  Calls Tryz.prog 137 #[.int .i64 (s), .int .i64 (m)] w0 fun e w' => e = .returned (.int .i64 ((s + m / 2) / m)) ∧ Kept (fun _ => False) w0 w' := by
 refine calls_wq (args := [iv s, iv m]) 11 Tryz.func137 rfl rfl (Nat.le_of_ble_eq_true rfl) ?_
 have K0 := Kept.refl (fun _ => False) w0
 refine wq_seq (wq_region (wl_v (iv 0) rfl rfl (y_asg rfl rfl rr) (wl_nil fun F1 hF2 => ?_)))
 have s3 : F1 0 = iv s := (hF2 0).trans rfl
 have s4 : F1 1 = iv m := (hF2 1).trans rfl
 have s5 : F1 11 = undef := (hF2 11).trans rfl
 clear hF2
 refine then_normal (wq_seq (wq_region (wl_mv rfl rfl rfl s3 (wl_mv rfl rfl rfl s4 (wl_v (iv (m / 2)) rfl rfl (y_quo rfl rfl rfl (by first | decide | omega) (i64_i (tdiv2 (by omega)) (by omega)) rr) (wl_v (iv (s + m / 2)) rfl rfl (y_add rfl rfl rfl (i64_i rfl (by omega)) rr) (wl_mv rfl rfl rfl s4 (wl_v (iv ((s + m / 2) / m)) rfl rfl (y_quo rfl rfl rfl (by first | decide | omega) (i64_i (Int.tdiv_eq_ediv_of_nonneg (by omega)) (by rcases hm with rfl | rfl | rfl <;> omega)) rr) (wl_v (iv ((s + m / 2) / m)) rfl rfl (y_asg rfl rfl rr) (wl_nil fun F6 hF7 => ?_))))))))))
 have s8 := (hF7 11).trans s5
 have s9 : F6 4 = iv ((s + m / 2) / m) := (hF7 4).trans rfl
 clear hF7
 refine then_normal (wq_ret ?_)
 exact end_tmp (v := iv ((s + m / 2) / m)) s8 rfl rfl s9 ⟨rfl, K0⟩
theorem mo_check (X Y : Int) (w0 : World) :
  Calls Tryz.prog 103 #[.agg #[.int .i64 (X), .int .i64 (Y)]] w0 fun e w' => e = .returned (.int .i64 (vecE X Y)) ∧ Kept (fun _ => False) w0 w' := by
 refine calls_wq (args := [.agg #[iv X, iv Y]]) 13 Tryz.func103 rfl rfl (Nat.le_of_ble_eq_true rfl) ?_
 have K0 := Kept.refl (fun _ => False) w0
 refine wq_seq (wq_region (wl_box_stc (vs := [iv X, iv Y]) rfl rfl rfl rfl fun p1 w2 B4 g5 k3 => ?_))
 have K7 := K0.tr k3
 refine wl_v (iv 0) rfl rfl (y_asg rfl rfl rr) (wl_nil fun F8 hF9 => ?_)
 have s10 : F8 13 = undef := (hF9 13).trans rfl
 have s11 : F8 1 = pt p1 0 := (hF9 1).trans rfl
 clear hF9
 refine then_normal (wq_seq (wq_seq ?_))
 by_cases d12 : -31 ≤ X ∧ X ≤ 31
 ·skip
  by_cases d13 : -31 ≤ Y ∧ Y ≤ 31
  ·skip
   refine wq_region (wl_v (pt p1 0) rfl rfl (y_fieldR (n := 1) rfl s11 Tryz.underlying67 rfl (by kernel_rfl) (by decide) rfl rr) (wl_v (iv X) rfl rfl (y_ld_stc rfl rfl Tryz.underlying3 B4 rfl rfl rr) (wl_call (R := fun v_ w_ => v_ = .bool true ∧ Kept (fun _ => False) w2 w_) rfl rfl (y_cs rfl rfl rfl (fun _ _ => by kernel_rfl) (ev_func _) (vsC rfl vsN) (mo_mayGo X  _   ) (fun e_ w_ h_ => ⟨_, h_.1, (congrArg Value.bool (decide_eq_true d12)), h_.2⟩)) ?_)))
   rintro _ w14 ⟨rfl, k15⟩
   have B16 := B4.all k15 id
   have K17 := K7.tr k15
   refine wl_v (.bool false) rfl rfl (y_not rfl rfl rfl rr) (wl_v (.bool false) rfl rfl (y_mov rfl rfl rr) (wl_vw (pt p1 1) 4 false 7 rfl rfl rfl rfl rfl (y_fieldR (n := 1) rfl s11 Tryz.underlying67 rfl (by kernel_rfl) (by decide) rfl rr) (wl_vw (iv Y) 4 false 7 rfl rfl rfl rfl rfl (y_ld_stc rfl rfl Tryz.underlying3 B16 rfl rfl rr) (wl_callw (R := fun v_ w_ => v_ = .bool true ∧ Kept (fun _ => False) w14 w_) 4 false 7 rfl rfl rfl rfl rfl (y_cs rfl rfl rfl (fun _ _ => by kernel_rfl) (ev_func _) (vsC rfl vsN) (mo_mayGo Y  _   ) (fun e_ w_ h_ => ⟨_, h_.1, (congrArg Value.bool (decide_eq_true d13)), h_.2⟩)) ?_))))
   rintro _ w18 ⟨rfl, k19⟩
   have K21 := K17.tr k19
   refine wl_vw (.bool false) 4 false 7 rfl rfl rfl rfl rfl (y_not rfl rfl rfl rr) (wl_v (.bool false) rfl rfl (y_pickF rfl rfl rfl rr) (wl_nil fun F22 hF23 => ?_))
   have s24 := (hF23 13).trans s10
   have s25 : F22 12 = .bool false := (hF23 12).trans rfl
   clear hF23
   refine then_normal ?_
   refine wq_cond (t := false) s25 (fun e => by cases e) (fun _ => ?_)
   refine wq_skip (then_normal (wq_seq (wq_region (wl_v (iv 0) rfl rfl (y_asg rfl rfl rr) (wl_nil fun F26 hF27 => ?_)))))
   have s28 := (hF27 13).trans s24
   have s29 : F26 2 = iv 0 := (hF27 2).trans rfl
   clear hF27
   refine then_normal (wq_ret ?_)
   exact end_tmp (v := iv 0) s28 rfl rfl s29 ⟨(by first | rw [vecE_yes (by unfold vecOk; omega)] | rw [vecE_no (by unfold vecOk; omega)]), K21⟩
  ·skip
   refine wq_region (wl_v (pt p1 0) rfl rfl (y_fieldR (n := 1) rfl s11 Tryz.underlying67 rfl (by kernel_rfl) (by decide) rfl rr) (wl_v (iv X) rfl rfl (y_ld_stc rfl rfl Tryz.underlying3 B4 rfl rfl rr) (wl_call (R := fun v_ w_ => v_ = .bool true ∧ Kept (fun _ => False) w2 w_) rfl rfl (y_cs rfl rfl rfl (fun _ _ => by kernel_rfl) (ev_func _) (vsC rfl vsN) (mo_mayGo X  _   ) (fun e_ w_ h_ => ⟨_, h_.1, (congrArg Value.bool (decide_eq_true d12)), h_.2⟩)) ?_)))
   rintro _ w30 ⟨rfl, k31⟩
   have B32 := B4.all k31 id
   have K33 := K7.tr k31
   refine wl_v (.bool false) rfl rfl (y_not rfl rfl rfl rr) (wl_v (.bool false) rfl rfl (y_mov rfl rfl rr) (wl_vw (pt p1 1) 4 false 7 rfl rfl rfl rfl rfl (y_fieldR (n := 1) rfl s11 Tryz.underlying67 rfl (by kernel_rfl) (by decide) rfl rr) (wl_vw (iv Y) 4 false 7 rfl rfl rfl rfl rfl (y_ld_stc rfl rfl Tryz.underlying3 B32 rfl rfl rr) (wl_callw (R := fun v_ w_ => v_ = .bool false ∧ Kept (fun _ => False) w30 w_) 4 false 7 rfl rfl rfl rfl rfl (y_cs rfl rfl rfl (fun _ _ => by kernel_rfl) (ev_func _) (vsC rfl vsN) (mo_mayGo Y  _   ) (fun e_ w_ h_ => ⟨_, h_.1, (congrArg Value.bool (decide_eq_false d13)), h_.2⟩)) ?_))))
   rintro _ w34 ⟨rfl, k35⟩
   have K37 := K33.tr k35
   refine wl_vw (.bool true) 4 false 7 rfl rfl rfl rfl rfl (y_not rfl rfl rfl rr) (wl_v (.bool true) rfl rfl (y_pickF rfl rfl rfl rr) (wl_nil fun F38 hF39 => ?_))
   have s40 := (hF39 13).trans s10
   have s41 : F38 12 = .bool true := (hF39 12).trans rfl
   clear hF39
   refine then_normal ?_
   refine wq_cond (t := true) s41 (fun _ => ?_) (fun e => by cases e)
   refine wq_seq (wq_region (wl_v (iv 90) rfl rfl (y_asg rfl rfl rr) (wl_nil fun F42 hF43 => ?_)))
   have s44 := (hF43 13).trans s40
   have s45 : F42 2 = iv 90 := (hF43 2).trans rfl
   clear hF43
   refine then_normal (wq_ret (then_ret ?_))
   exact end_tmp (v := iv 90) s44 rfl rfl s45 ⟨(by first | rw [vecE_yes (by unfold vecOk; omega)] | rw [vecE_no (by unfold vecOk; omega)]), K37⟩
 ·skip
  refine wq_region (wl_v (pt p1 0) rfl rfl (y_fieldR (n := 1) rfl s11 Tryz.underlying67 rfl (by kernel_rfl) (by decide) rfl rr) (wl_v (iv X) rfl rfl (y_ld_stc rfl rfl Tryz.underlying3 B4 rfl rfl rr) (wl_call (R := fun v_ w_ => v_ = .bool false ∧ Kept (fun _ => False) w2 w_) rfl rfl (y_cs rfl rfl rfl (fun _ _ => by kernel_rfl) (ev_func _) (vsC rfl vsN) (mo_mayGo X  _   ) (fun e_ w_ h_ => ⟨_, h_.1, (congrArg Value.bool (decide_eq_false d12)), h_.2⟩)) ?_)))
  rintro _ w46 ⟨rfl, k47⟩
  have K49 := K7.tr k47
  refine wl_v (.bool true) rfl rfl (y_not rfl rfl rfl rr) (wl_v (.bool true) rfl rfl (y_mov rfl rfl rr) (wl_unless 4 false 7 rfl rfl rfl (Or.inl rfl) rfl (wl_unless 4 false 7 rfl rfl rfl (Or.inl rfl) rfl (wl_unless 4 false 7 rfl rfl rfl (Or.inl rfl) rfl (wl_unless 4 false 7 rfl rfl rfl (Or.inl rfl) rfl (wl_v (.bool true) rfl rfl (y_pickT rfl rfl rfl rr) (wl_nil fun F50 hF51 => ?_)))))))
  have s52 := (hF51 13).trans s10
  have s53 : F50 12 = .bool true := (hF51 12).trans rfl
  clear hF51
  refine then_normal ?_
  refine wq_cond (t := true) s53 (fun _ => ?_) (fun e => by cases e)
  refine wq_seq (wq_region (wl_v (iv 90) rfl rfl (y_asg rfl rfl rr) (wl_nil fun F54 hF55 => ?_)))
  have s56 := (hF55 13).trans s52
  have s57 : F54 2 = iv 90 := (hF55 2).trans rfl
  clear hF55
  refine then_normal (wq_ret (then_ret ?_))
  exact end_tmp (v := iv 90) s56 rfl rfl s57 ⟨(by first | rw [vecE_yes (by unfold vecOk; omega)] | rw [vecE_no (by unfold vecOk; omega)]), K49⟩
theorem mo_both (a b : Nat → Int) (w0 : World) :
  Calls Tryz.prog 111 #[blkV (a), blkV (b)] w0 fun e w' => e = .returned (blkV (bothB a b)) ∧ Kept (fun _ => False) w0 w' := by
 refine calls_wq (args := [blkV a, blkV b]) 23 Tryz.func111 rfl rfl (Nat.le_of_ble_eq_true rfl) ?_
 have K0 := Kept.refl (fun _ => False) w0
 refine wq_seq (wq_region (wl_box_blk rfl rfl rfl rfl fun p1 w2 e5 B3 k4 => ?_))
 have g6 := onB_new (Nat.le_of_eq e5.symm)
 have gr7 : Grew w0 noB (onB p1) := Grew.new K0 g6
 clear e5 g6
 have K8 := K0.tr k4
 refine wl_box_blk rfl rfl rfl rfl fun p9 w10 e13 B11 k12 => ?_
 have g14 := onB_new (Nat.le_of_eq e13.symm)
 have ap16 : Apart (onB p9) (onB p1) := Apart.new g14 (onB_live B3.lt)
 clear e13 g14
 have B17 := B3.all k12 id
 have K18 := K8.tr k12
 refine wl_alloc_blk rfl rfl rfl blkT_block.2.2 fun p19 w20 e23 B21 k22 => ?_
 have g24 := onB_new (Nat.le_of_eq e23.symm)
 have gr25 : Grew w0 noB (onB p19) := Grew.new K18 g24
 have ap26 : Apart (onB p19) (onB p1) := Apart.new g24 (onB_live B17.lt)
 clear e23 g24
 have B28 := B17.all k22 id
 have B29 := B11.all k22 id
 have K30 := K18.tr k22
 refine wl_nil fun F31 hF32 => ?_
 have s33 : F31 23 = undef := (hF32 23).trans rfl
 have s34 : F31 2 = pt p1 0 := (hF32 2).trans rfl
 have s35 : F31 3 = pt p9 0 := (hF32 3).trans rfl
 have s36 : F31 4 = pt p19 0 := (hF32 4).trans rfl
 clear hF32
 refine then_normal (wq_seq (wq_seq (wq_region (wl_v (iv 0) rfl rfl (y_mov rfl rfl rr) (wl_nil fun F37 hF38 => ?_)))))
 obtain ⟨s39, s40, s41, s42⟩ := t4 hF38 23 s33 2 s34 3 s35 4 s36
 have s43 : F37 6 = iv 0 := (hF38 6).trans rfl
 clear hF38
 refine then_normal (wq_block (wq_loop (fun nn FF ww => ∃ (i : Nat), (i ≤ 16) ∧ nn = 16 - i ∧ FF 2 = pt p1 0 ∧ FF 3 = pt p9 0 ∧ FF 4 = pt p19 0 ∧ FF 23 = undef ∧ FF 6 = iv ((i : Nat) : Int) ∧ Kept (fun _ => False) w0 ww ∧ Blk ww p1 69 (upto i a (bothB a b)) ∧ Blk ww p9 69 b ∧ Blk ww p19 69 (fun _ => 0)) (16 - 0) ⟨0, by omega, rfl, s40, s41, s42, s39, s43, K30, B28.first, B29, B21⟩ ?_))
 rintro n47 F44 w45 ⟨i, i48, hn47, s49, s50, s51, s52, s53, K46, B54, B55, B56⟩
 refine wq_seq (wq_region (wl_v (.bool (decide (((i : Nat) : Int) < 16))) rfl rfl (y_lss rfl s53 rfl rfl rr) (wl_nil fun F57 hF58 => ?_)))
 obtain ⟨s59, s60, s61, s62, s63⟩ := t5 hF58 2 s49 3 s50 4 s51 23 s52 6 s53
 have s64 : F57 7 = .bool (decide (((i : Nat) : Int) < 16)) := (hF58 7).trans rfl
 clear hF58
 refine then_normal (wq_seq ?_)
 refine wq_cond s64 (fun c65 => ?_) (fun c65 => ?_)
 ·replace c65 := of_decide_eq_true c65
  refine wq_skip (then_normal (wq_seq (wq_block (wq_seq (wq_region (wl_mv rfl rfl rfl s63 (wl_v (iv ((i : Nat) : Int)) rfl rfl (y_asg rfl rfl rr) (wl_nil fun F66 hF67 => ?_))))))))
  obtain ⟨s68, s69, s70, s71, s72⟩ := t5 hF67 2 s59 3 s60 4 s61 23 s62 6 s63
  have s73 : F66 5 = iv ((i : Nat) : Int) := (hF67 5).trans rfl
  clear hF67
  refine then_normal ?_
  have h1 := c8_le (a i)
  have h2 := c8_le (b i)
  refine wq_tail 12 [some 9, some 10, some 11, some 12, some 13, some 14, some 15, some 16, some 17, some 18, some 19, some 20] [Pd.eq (iv ((i : Nat) : Int)), Pd.eq (iv ((i : Nat) : Int)), Pd.eq (.pointer (some ⟨p1, i, none⟩)), Pd.eq (iv (a i)), Pd.eq (iv (c8 (a i))), Pd.eq (iv ((i : Nat) : Int)), Pd.eq (.pointer (some ⟨p9, i, none⟩)), Pd.eq (iv (b i)), Pd.eq (iv (c8 (b i))), Pd.eq (iv ((c8 (a i)) + (c8 (b i)))), Pd.eq (iv ((c8 (a i) + c8 (b i) + 1) / 2)), Pd.eq (.pointer (some ⟨p1, i, none⟩))] (by kernel_rfl) (by kernel_rfl) (by kernel_rfl) ?_ ?_
  ·refine stepsF_cons ?_ ?_
   ·refine StepF.one rfl fun F_ w_ hR hout hD => ?_
    exact (y_mov rfl ((hout 5 rfl (by decide)).trans s73) ⟨rfl, Kept.refl _ _⟩)
   refine stepsF_cons ?_ ?_
   ·refine StepF.one rfl fun F_ w_ hR hout hD => ?_
    exact (y_mov rfl ((hout 5 rfl (by decide)).trans s73) ⟨rfl, Kept.refl _ _⟩)
   refine stepsF_cons ?_ ?_
   ·refine StepF.one rfl fun F_ w_ hR hout hD => ?_
    have g10 : F_ 10 = iv ((i : Nat) : Int) := (hD.get 0 rfl rfl rfl)
    exact (y_atR i (s := 1) rfl ((hout 2 rfl (by decide)).trans s68) g10 (by omega) Tryz.underlying69 (by omega) (by kernel_rfl) (by omega) ⟨rfl, Kept.refl _ _⟩)
   refine stepsF_cons ?_ ?_
   ·refine StepF.one rfl fun F_ w_ hR hout hD => ?_
    have g11 : F_ 11 = .pointer (some ⟨p1, i, none⟩) := (hD.get 0 rfl rfl rfl)
    exact (y_ldR rfl g11 Tryz.underlying3 (((B54.all hR id).cell (by omega)).trans (some_int (upto_at i _ _))) ⟨rfl, Kept.refl _ _⟩)
   refine stepsF_cons ?_ ?_
   ·refine StepF.one rfl fun F_ w_ hR hout hD => ?_
    have g12 : F_ 12 = iv (a i) := (hD.get 0 rfl rfl rfl)
    exact (y_cs rfl rfl rfl (fun _ _ => by kernel_rfl) (ev_func _) (vsC g12 (vsC rfl (vsC rfl vsN))) (mo_clamped (a i) 0 255  _   ) (fun e_ w_ h_ => ⟨_, h_.1, congrArg (Value.int .i64) (by unfold c8; omega), h_.2⟩))
   refine stepsF_cons ?_ ?_
   ·refine StepF.one rfl fun F_ w_ hR hout hD => ?_
    exact (y_mov rfl ((hout 5 rfl (by decide)).trans s73) ⟨rfl, Kept.refl _ _⟩)
   refine stepsF_cons ?_ ?_
   ·refine StepF.one rfl fun F_ w_ hR hout hD => ?_
    have g14 : F_ 14 = iv ((i : Nat) : Int) := (hD.get 0 rfl rfl rfl)
    exact (y_atR i (s := 1) rfl ((hout 3 rfl (by decide)).trans s69) g14 (by omega) Tryz.underlying69 (by omega) (by kernel_rfl) (by omega) ⟨rfl, Kept.refl _ _⟩)
   refine stepsF_cons ?_ ?_
   ·refine StepF.one rfl fun F_ w_ hR hout hD => ?_
    have g15 : F_ 15 = .pointer (some ⟨p9, i, none⟩) := (hD.get 0 rfl rfl rfl)
    exact (y_ldR rfl g15 Tryz.underlying3 ((B55.all hR id).cell (by omega)) ⟨rfl, Kept.refl _ _⟩)
   refine stepsF_cons ?_ ?_
   ·refine StepF.one rfl fun F_ w_ hR hout hD => ?_
    have g16 : F_ 16 = iv (b i) := (hD.get 0 rfl rfl rfl)
    exact (y_cs rfl rfl rfl (fun _ _ => by kernel_rfl) (ev_func _) (vsC g16 (vsC rfl (vsC rfl vsN))) (mo_clamped (b i) 0 255  _   ) (fun e_ w_ h_ => ⟨_, h_.1, congrArg (Value.int .i64) (by unfold c8; omega), h_.2⟩))
   refine stepsF_cons ?_ ?_
   ·refine StepF.one rfl fun F_ w_ hR hout hD => ?_
    have g13 : F_ 13 = iv (c8 (a i)) := (hD.get 0 rfl rfl rfl)
    have g17 : F_ 17 = iv (c8 (b i)) := (hD.get 1 rfl rfl rfl)
    exact (y_add rfl g13 g17 (i64_i rfl (by omega)) ⟨rfl, Kept.refl _ _⟩)
   refine stepsF_cons ?_ ?_
   ·refine StepF.one rfl fun F_ w_ hR hout hD => ?_
    have g18 : F_ 18 = iv ((c8 (a i)) + (c8 (b i))) := (hD.get 0 rfl rfl rfl)
    exact (y_cs rfl rfl rfl (fun _ _ => by kernel_rfl) (ev_func _) (vsC g18 (vsC rfl vsN)) (mo_mean ((c8 (a i)) + (c8 (b i))) 2  _ (by omega) (by omega)  ) (fun e_ w_ h_ => ⟨_, h_.1, congrArg (Value.int .i64) (by omega), h_.2⟩))
   refine stepsF_cons ?_ ?_
   ·refine StepF.one rfl fun F_ w_ hR hout hD => ?_
    have g9 : F_ 9 = iv ((i : Nat) : Int) := (hD.get 0 rfl rfl rfl)
    exact (y_atR i (s := 1) rfl ((hout 2 rfl (by decide)).trans s68) g9 (by omega) Tryz.underlying69 (by omega) (by kernel_rfl) (by omega) ⟨rfl, Kept.refl _ _⟩)
   exact stepsF_nil
  intro v74 F75 w76 k77 G78 hF79
  have B81 := B54.all k77 id
  have B82 := B55.all k77 id
  have B83 := B56.all k77 id
  have K84 := K46.tr k77
  obtain ⟨s85, s86, s87, s88, s89⟩ := t5 hF79 2 s68 3 s69 4 s70 23 s71 6 s72
  have s90 : F75 19 = iv ((c8 (a i) + c8 (b i) + 1) / 2) := (hF79 19).trans (G78 10 (by decide))
  have s91 : F75 20 = .pointer (some ⟨p1, i, none⟩) := (hF79 20).trans (G78 11 (by decide))
  clear G78 hF79
  refine wl_set_blk rfl rfl rfl s91 s90 B81 (by omega) (by kernel_rfl) fun w92 B93 k94 => ?_
  have B95 := B82.all k94 (ap16 p9 rfl)
  have B96 := B83.all k94 (ap26 p19 rfl)
  have K97 := K84.trans k94 (Grew.ok (S := fun _ => False) gr7 noB_le)
  refine wl_nil fun F98 hF99 => ?_
  obtain ⟨s100, s101, s102, s103, s104⟩ := t5 hF99 2 s85 3 s86 4 s87 23 s88 6 s89
  clear hF99
  refine in_normal (then_normal (wq_region (wl_v (iv ((i + 1 : Nat) : Int)) rfl rfl (y_add rfl s104 rfl (i64_n (by omega) (by omega)) rr) (wl_v (iv ((i + 1 : Nat) : Int)) rfl rfl (y_mov rfl rfl rr) (wl_nil fun F105 hF106 => ?_)))))
  obtain ⟨s107, s108, s109, s110⟩ := t4 hF106 2 s100 3 s101 4 s102 23 s103
  have s111 : F105 6 = iv ((i + 1 : Nat) : Int) := (hF106 6).trans rfl
  clear hF106
  exact then_normal ⟨(16 - (i + 1)), by omega, i + 1, by omega, rfl, s107, s108, s109, s110, s111, K97, (B93.next (bothB_at a b i).symm), B95, B96⟩
 ·replace c65 := of_decide_eq_false c65
  refine wq_exit (then_exit (then_exit ?_))
  have l112 : 16 = i := by omega
  subst l112
  have B113 : Blk w45 p1 69 (bothB a b) := (B54.last)
  refine in_here (then_normal (wq_seq (wq_region (wl_v (blkV (bothB a b)) rfl rfl (y_load_blk blkT_block rfl s59 B113 rr) (wl_store_blk blkT_block rfl rfl rfl s61 rfl B56 fun w114 B115 k116 => ?_)))))
  have K119 := K46.trans k116 (Grew.ok (S := fun _ => False) gr25 noB_le)
  refine wl_nil fun F120 hF121 => ?_
  obtain ⟨s122, s123⟩ := t2 hF121 4 s61 23 s62
  clear hF121
  refine then_normal (wq_ret ?_)
  exact end_blk blkT_block s123 rfl rfl s122 B115 ⟨rfl, K119⟩
theorem mo_sample (p x y : Int) (f : FD) (f0 f1 f2 : Value) (T_f0 : Nat → Prop) (T_f1 : Nat → Prop) (T_f2 : Nat → Prop) (w0 : World) (h_f0 : Byt w0 T_f0 f0 ((f).p0)) (h_f1 : Byt w0 T_f1 f1 ((f).p1)) (h_f2 : Byt w0 T_f2 f2 ((f).p2)) :
  Calls Tryz.prog 136 #[.agg #[.int .i64 ((f).W), .int .i64 ((f).H), f0, f1, f2], .int .i64 (p), .int .i64 (x), .int .i64 (y)] w0 fun e w' => e = .returned (.int .i64 (smpF f p x y)) ∧ Kept (fun _ => False) w0 w' := by
 refine calls_wq (args := [.agg #[iv (f.W), iv (f.H), f0, f1, f2], iv p, iv x, iv y]) 72 Tryz.func136 rfl rfl (Nat.le_of_ble_eq_true rfl) ?_
 have K0 := Kept.refl (fun _ => False) w0
 have hb : Bytes3 f := ⟨h_f0.lt256, h_f1.lt256, h_f2.lt256⟩
 obtain ⟨u, hu⟩ : ∃ u, u = c256 x := ⟨_, rfl⟩
 obtain ⟨v, hv⟩ : ∃ v, v = c256 y := ⟨_, rfl⟩
 have hu2 : -256 ≤ u ∧ u ≤ 256 := by rw [hu]; unfold c256; omega
 have hv2 : -256 ≤ v ∧ v ≤ 256 := by rw [hv]; unfold c256; omega
 have hm : smpF f p x y = mid f p u v := by rw [hu, hv]; rfl
 have a1 := atF_le hb p (u / 2) (v / 2)
 have a2 := atF_le hb p ((u + 1) / 2) (v / 2)
 have a3 := atF_le hb p (u / 2) ((v + 1) / 2)
 have a4 := atF_le hb p ((u + 1) / 2) ((v + 1) / 2)
 obtain ⟨N, hN⟩ : ∃ N : Nat, (N : Int) = u % 2 + v % 2 := ⟨(u % 2 + v % 2).toNat, by omega⟩
 obtain ⟨M, hM⟩ : ∃ M : Int, M = 2 ^ N := ⟨_, rfl⟩
 have hM2 : (N = 0 ∧ M = 1) ∨ (N = 1 ∧ M = 2) ∨ (N = 2 ∧ M = 4) := by rcases (by omega : N = 0 ∨ N = 1 ∨ N = 2) with h | h | h <;> subst h <;> simp [hM]
 have g_f0 := Grew.refl w0 T_f0
 have g_f1 := Grew.refl w0 T_f1
 have g_f2 := Grew.refl w0 T_f2
 refine wq_seq (wq_region (wl_box_stc (vs := [iv (f.W), iv (f.H), f0, f1, f2]) rfl rfl rfl rfl fun p1 w2 B4 g5 k3 => ?_))
 have B10 := h_f0.all k3 Apart.none
 have B11 := h_f1.all k3 Apart.none
 have B12 := h_f2.all k3 Apart.none
 have K13 := K0.tr k3
 refine wl_v (iv 0) rfl rfl (y_asg rfl rfl rr) (wl_nil fun F14 hF15 => ?_)
 have s16 : F14 1 = iv p := (hF15 1).trans rfl
 have s17 : F14 2 = iv x := (hF15 2).trans rfl
 have s18 : F14 3 = iv y := (hF15 3).trans rfl
 have s19 : F14 72 = undef := (hF15 72).trans rfl
 have s20 : F14 4 = pt p1 0 := (hF15 4).trans rfl
 clear hF15
 refine then_normal (wq_seq (wq_region (wl_mv rfl rfl rfl s17 (wl_call (R := fun v_ w_ => v_ = iv u ∧ Kept (fun _ => False) w2 w_) rfl rfl (y_cs rfl rfl rfl (fun _ _ => by kernel_rfl) (ev_func _) (vsC rfl (vsC rfl (vsC rfl vsN))) (mo_clamped x (-256) 256  _   ) (fun e_ w_ h_ => ⟨_, h_.1, congrArg (Value.int .i64) (by rw [hu]; unfold c256; omega), h_.2⟩)) ?_))))
 rintro _ w21 ⟨rfl, k22⟩
 have B23 := B10.all k22 Apart.none
 have B24 := B11.all k22 Apart.none
 have B25 := B12.all k22 Apart.none
 have B26 := B4.all k22 id
 have K27 := K13.tr k22
 refine wl_mv rfl rfl rfl s18 (wl_call (R := fun v_ w_ => v_ = iv v ∧ Kept (fun _ => False) w21 w_) rfl rfl (y_cs rfl rfl rfl (fun _ _ => by kernel_rfl) (ev_func _) (vsC rfl (vsC rfl (vsC rfl vsN))) (mo_clamped y (-256) 256  _   ) (fun e_ w_ h_ => ⟨_, h_.1, congrArg (Value.int .i64) (by rw [hv]; unfold c256; omega), h_.2⟩)) ?_)
 rintro _ w28 ⟨rfl, k29⟩
 have B30 := B23.all k29 Apart.none
 have B31 := B24.all k29 Apart.none
 have B32 := B25.all k29 Apart.none
 have B33 := B26.all k29 id
 have K34 := K27.tr k29
 refine wl_v (iv u) rfl rfl (y_asg rfl rfl rr) (wl_v (iv v) rfl rfl (y_asg rfl rfl rr) (wl_nil fun F35 hF36 => ?_))
 obtain ⟨s37, s38, s39⟩ := t3 hF36 1 s16 72 s19 4 s20
 have s40 : F35 2 = iv u := (hF36 2).trans rfl
 have s41 : F35 3 = iv v := (hF36 3).trans rfl
 clear hF36
 refine then_normal (wq_seq (wq_region (wl_mv rfl rfl rfl s40 (wl_v (iv (u / 2)) rfl rfl (y_shrR 1 rfl rfl rfl (by decide) (by simp) rr) (wl_mv rfl rfl rfl s41 (wl_v (iv (v / 2)) rfl rfl (y_shrR 1 rfl rfl rfl (by decide) (by simp) rr) (wl_v (iv (u / 2)) rfl rfl (y_asg rfl rfl rr) (wl_v (iv (v / 2)) rfl rfl (y_asg rfl rfl rr) (wl_nil fun F42 hF43 => ?_)))))))))
 obtain ⟨s44, s45, s46, s47, s48⟩ := t5 hF43 1 s37 72 s38 4 s39 2 s40 3 s41
 have s49 : F42 9 = iv (u / 2) := (hF43 9).trans rfl
 have s50 : F42 10 = iv (v / 2) := (hF43 10).trans rfl
 clear hF43
 refine then_normal (wq_seq (wq_region (wl_mv rfl rfl rfl s47 (wl_v (iv (u % 2)) rfl rfl (y_andR rfl rfl rfl (and_one hu2) rr) (wl_mv rfl rfl rfl s48 (wl_v (iv (v % 2)) rfl rfl (y_andR rfl rfl rfl (and_one hv2) rr) (wl_v (iv (u % 2)) rfl rfl (y_asg rfl rfl rr) (wl_v (iv (v % 2)) rfl rfl (y_asg rfl rfl rr) (wl_nil fun F51 hF52 => ?_)))))))))
 obtain ⟨s53, s54, s55, s56, s57⟩ := t5 hF52 1 s44 72 s45 4 s46 9 s49 10 s50
 have s58 : F51 11 = iv (u % 2) := (hF52 11).trans rfl
 have s59 : F51 12 = iv (v % 2) := (hF52 12).trans rfl
 clear hF52
 refine then_normal (wq_seq (wq_region (wl_v (iv 0) rfl rfl (y_asg rfl rfl rr) (wl_nil fun F60 hF61 => ?_))))
 obtain ⟨s62, s63, s64, s65, s66, s67, s68⟩ := t7 hF61 1 s53 72 s54 4 s55 9 s56 10 s57 11 s58 12 s59
 have s69 : F60 13 = iv 0 := (hF61 13).trans rfl
 clear hF61
 refine then_normal (wq_seq (wq_seq (wq_region (wl_mv rfl rfl rfl s67 (wl_mv rfl rfl rfl s68 (wl_v (iv ((N : Nat) : Int)) rfl rfl (y_add rfl rfl rfl (i64_i hN.symm (by omega)) rr) (wl_nil fun F70 hF71 => ?_)))))))
 obtain ⟨s72, s73, s74, s75, s76, s77, s78, s79⟩ := t8 hF71 1 s62 72 s63 4 s64 9 s65 10 s66 11 s67 12 s68 13 s69
 have s80 : F70 28 = iv ((N : Nat) : Int) := (hF71 28).trans rfl
 clear hF71
 refine then_normal (wq_block (wq_seq (wq_block (wq_seq (wq_block (wq_seq (wq_block (wq_seq (wq_seq (wq_seq (wq_region ?_)))))))))))
 refine wl_v (.bool (decide (((N : Nat) : Int) = 2))) rfl rfl (y_eqlI rfl s80 rfl rfl rr) (wl_v (.bool (decide (((N : Nat) : Int) = 2))) rfl rfl (y_asg rfl rfl rr) (wl_nil fun F81 hF82 => ?_))
 obtain ⟨s83, s84, s85, s86, s87, s88, s89, s90, s91⟩ := t9 hF82 1 s72 72 s73 4 s74 9 s75 10 s76 11 s77 12 s78 13 s79 28 s80
 have s92 : F81 29 = .bool (decide (((N : Nat) : Int) = 2)) := (hF82 29).trans rfl
 clear hF82
 refine then_normal ?_
 refine wq_cond s92 (fun c93 => ?_) (fun c93 => ?_)
 ·replace c93 := of_decide_eq_true c93
  refine wq_exit (then_exit (then_exit (in_here (then_normal ?_))))
  refine wq_tail 15 [some 33, some 34, some 35, some 36, some 37, some 38, some 39, some 40, some 41, some 42, some 43, some 44, some 45, some 46, some 47] [Pd.eq (iv 0), Pd.eq (.agg #[iv (f.W), iv (f.H), f0, f1, f2]), Pd.eq (iv p), Pd.eq (iv (u / 2)), Pd.eq (iv ((u + 1) / 2)), Pd.eq (iv (v / 2)), Pd.eq (iv (atF f p ((u + 1) / 2) (v / 2))), Pd.eq (.agg #[iv (f.W), iv (f.H), f0, f1, f2]), Pd.eq (iv p), Pd.eq (iv (u / 2)), Pd.eq (iv (v / 2)), Pd.eq (iv ((v + 1) / 2)), Pd.eq (iv (atF f p (u / 2) ((v + 1) / 2))), Pd.eq (iv ((atF f p ((u + 1) / 2) (v / 2)) + (atF f p (u / 2) ((v + 1) / 2)))), Pd.eq (iv (0 + ((atF f p ((u + 1) / 2) (v / 2)) + (atF f p (u / 2) ((v + 1) / 2)))))] (by kernel_rfl) (by kernel_rfl) (by kernel_rfl) ?_ ?_
  ·refine stepsF_cons ?_ ?_
   ·refine StepF.one rfl fun F_ w_ hR hout hD => ?_
    exact (y_mov rfl ((hout 13 rfl (by decide)).trans s90) ⟨rfl, Kept.refl _ _⟩)
   refine stepsF_cons ?_ ?_
   ·refine StepF.one rfl fun F_ w_ hR hout hD => ?_
    exact (y_load_stc stcT_frame rfl ((hout 4 rfl (by decide)).trans s85) (B33.all hR id) ⟨rfl, Kept.refl _ _⟩)
   refine stepsF_cons ?_ ?_
   ·refine StepF.one rfl fun F_ w_ hR hout hD => ?_
    exact (y_mov rfl ((hout 1 rfl (by decide)).trans s83) ⟨rfl, Kept.refl _ _⟩)
   refine stepsF_cons ?_ ?_
   ·refine StepF.one rfl fun F_ w_ hR hout hD => ?_
    exact (y_mov rfl ((hout 9 rfl (by decide)).trans s86) ⟨rfl, Kept.refl _ _⟩)
   refine stepsF_cons ?_ ?_
   ·refine StepF.one rfl fun F_ w_ hR hout hD => ?_
    have g36 : F_ 36 = iv (u / 2) := (hD.get 0 rfl rfl rfl)
    exact (y_add rfl g36 rfl (i64_i (by omega) (by omega)) ⟨rfl, Kept.refl _ _⟩)
   refine stepsF_cons ?_ ?_
   ·refine StepF.one rfl fun F_ w_ hR hout hD => ?_
    exact (y_mov rfl ((hout 10 rfl (by decide)).trans s87) ⟨rfl, Kept.refl _ _⟩)
   refine stepsF_cons ?_ ?_
   ·refine StepF.one rfl fun F_ w_ hR hout hD => ?_
    have g34 : F_ 34 = .agg #[iv (f.W), iv (f.H), f0, f1, f2] := (hD.get 0 rfl rfl rfl)
    have g35 : F_ 35 = iv p := (hD.get 1 rfl rfl rfl)
    have g37 : F_ 37 = iv ((u + 1) / 2) := (hD.get 2 rfl rfl rfl)
    have g38 : F_ 38 = iv (v / 2) := (hD.get 3 rfl rfl rfl)
    exact (y_cs rfl rfl rfl (fun _ _ => by kernel_rfl) (ev_func _) (vsC g34 (vsC g35 (vsC g37 (vsC g38 vsN)))) (pl_at p ((u + 1) / 2) (v / 2) f f0 f1 f2 T_f0 T_f1 T_f2 _  (B30.all hR Apart.none) (B31.all hR Apart.none) (B32.all hR Apart.none) ) (fun e_ w_ h_ => ⟨_, h_.1, rfl, h_.2⟩))
   refine stepsF_cons ?_ ?_
   ·refine StepF.one rfl fun F_ w_ hR hout hD => ?_
    exact (y_load_stc stcT_frame rfl ((hout 4 rfl (by decide)).trans s85) (B33.all hR id) ⟨rfl, Kept.refl _ _⟩)
   refine stepsF_cons ?_ ?_
   ·refine StepF.one rfl fun F_ w_ hR hout hD => ?_
    exact (y_mov rfl ((hout 1 rfl (by decide)).trans s83) ⟨rfl, Kept.refl _ _⟩)
   refine stepsF_cons ?_ ?_
   ·refine StepF.one rfl fun F_ w_ hR hout hD => ?_
    exact (y_mov rfl ((hout 9 rfl (by decide)).trans s86) ⟨rfl, Kept.refl _ _⟩)
   refine stepsF_cons ?_ ?_
   ·refine StepF.one rfl fun F_ w_ hR hout hD => ?_
    exact (y_mov rfl ((hout 10 rfl (by decide)).trans s87) ⟨rfl, Kept.refl _ _⟩)
   refine stepsF_cons ?_ ?_
   ·refine StepF.one rfl fun F_ w_ hR hout hD => ?_
    have g43 : F_ 43 = iv (v / 2) := (hD.get 0 rfl rfl rfl)
    exact (y_add rfl g43 rfl (i64_i (by omega) (by omega)) ⟨rfl, Kept.refl _ _⟩)
   refine stepsF_cons ?_ ?_
   ·refine StepF.one rfl fun F_ w_ hR hout hD => ?_
    have g40 : F_ 40 = .agg #[iv (f.W), iv (f.H), f0, f1, f2] := (hD.get 0 rfl rfl rfl)
    have g41 : F_ 41 = iv p := (hD.get 1 rfl rfl rfl)
    have g42 : F_ 42 = iv (u / 2) := (hD.get 2 rfl rfl rfl)
    have g44 : F_ 44 = iv ((v + 1) / 2) := (hD.get 3 rfl rfl rfl)
    exact (y_cs rfl rfl rfl (fun _ _ => by kernel_rfl) (ev_func _) (vsC g40 (vsC g41 (vsC g42 (vsC g44 vsN)))) (pl_at p (u / 2) ((v + 1) / 2) f f0 f1 f2 T_f0 T_f1 T_f2 _  (B30.all hR Apart.none) (B31.all hR Apart.none) (B32.all hR Apart.none) ) (fun e_ w_ h_ => ⟨_, h_.1, rfl, h_.2⟩))
   refine stepsF_cons ?_ ?_
   ·refine StepF.one rfl fun F_ w_ hR hout hD => ?_
    have g39 : F_ 39 = iv (atF f p ((u + 1) / 2) (v / 2)) := (hD.get 0 rfl rfl rfl)
    have g45 : F_ 45 = iv (atF f p (u / 2) ((v + 1) / 2)) := (hD.get 1 rfl rfl rfl)
    exact (y_add rfl g39 g45 (i64_i rfl (by omega)) ⟨rfl, Kept.refl _ _⟩)
   refine stepsF_cons ?_ ?_
   ·refine StepF.one rfl fun F_ w_ hR hout hD => ?_
    have g33 : F_ 33 = iv 0 := (hD.get 0 rfl rfl rfl)
    have g46 : F_ 46 = iv ((atF f p ((u + 1) / 2) (v / 2)) + (atF f p (u / 2) ((v + 1) / 2))) := (hD.get 1 rfl rfl rfl)
    exact (y_add rfl g33 g46 (i64_i rfl (by omega)) ⟨rfl, Kept.refl _ _⟩)
   exact stepsF_nil
  intro v94 F95 w96 k97 G98 hF99
  have B101 := B30.all k97 Apart.none
  have B102 := B31.all k97 Apart.none
  have B103 := B32.all k97 Apart.none
  have B104 := B33.all k97 id
  have K105 := K34.tr k97
  obtain ⟨s106, s107, s108, s109, s110, s111, s112⟩ := t7 hF99 1 s83 72 s84 4 s85 9 s86 10 s87 11 s88 12 s89
  have s114 : F95 47 = iv (0 + ((atF f p ((u + 1) / 2) (v / 2)) + (atF f p (u / 2) ((v + 1) / 2)))) := (hF99 47).trans (G98 14 (by decide))
  clear G98 hF99
  refine wl_as rfl rfl rfl s114 (wl_nil fun F115 hF116 => ?_)
  obtain ⟨s117, s118, s119, s120, s121, s122, s123⟩ := t7 hF116 1 s106 72 s107 4 s108 9 s109 10 s110 11 s111 12 s112
  have s124 : F115 13 = iv (0 + ((atF f p ((u + 1) / 2) (v / 2)) + (atF f p (u / 2) ((v + 1) / 2)))) := (hF116 13).trans rfl
  clear hF116
  refine in_normal (then_normal (wq_region (wl_mv rfl rfl rfl s124 (wl_v (.agg #[iv (f.W), iv (f.H), f0, f1, f2]) rfl rfl (y_load_stc stcT_frame rfl s119 B104 rr) (wl_mv rfl rfl rfl s117 (wl_mv rfl rfl rfl s120 (wl_mv rfl rfl rfl s122 (wl_v (iv ((u + 1) / 2)) rfl rfl (y_add rfl rfl rfl (i64_i (by omega) (by omega)) rr) (wl_mv rfl rfl rfl s121 (wl_mv rfl rfl rfl s123 (wl_v (iv ((v + 1) / 2)) rfl rfl (y_add rfl rfl rfl (i64_i (by omega) (by omega)) rr) ?_)))))))))))
  refine wl_cs rfl rfl rfl rfl rfl (fun _ _ => by kernel_rfl) (vsC rfl (vsC rfl (vsC rfl (vsC rfl vsN)))) (pl_at p ((u + 1) / 2) ((v + 1) / 2) f f0 f1 f2 T_f0 T_f1 T_f2 _  B101 B102 B103 ) fun w125 k126 => ?_
  have B127 := B101.all k126 Apart.none
  have B128 := B102.all k126 Apart.none
  have B129 := B103.all k126 Apart.none
  have B130 := B104.all k126 id
  have K131 := K105.tr k126
  refine wl_v (iv ((0 + ((atF f p ((u + 1) / 2) (v / 2)) + (atF f p (u / 2) ((v + 1) / 2)))) + (atF f p ((u + 1) / 2) ((v + 1) / 2)))) rfl rfl (y_add rfl rfl rfl (i64_i rfl (by omega)) rr) (wl_v (iv ((0 + ((atF f p ((u + 1) / 2) (v / 2)) + (atF f p (u / 2) ((v + 1) / 2)))) + (atF f p ((u + 1) / 2) ((v + 1) / 2)))) rfl rfl (y_asg rfl rfl rr) (wl_nil fun F132 hF133 => ?_))
  obtain ⟨s134, s135, s136, s137, s138, s139, s140⟩ := t7 hF133 1 s117 72 s118 4 s119 9 s120 10 s121 11 s122 12 s123
  have s141 : F132 13 = iv ((0 + ((atF f p ((u + 1) / 2) (v / 2)) + (atF f p (u / 2) ((v + 1) / 2)))) + (atF f p ((u + 1) / 2) ((v + 1) / 2))) := (hF133 13).trans rfl
  clear hF133
  refine in_normal (then_normal (wq_seq (wq_region (wl_mv rfl rfl rfl s141 (wl_v (.agg #[iv (f.W), iv (f.H), f0, f1, f2]) rfl rfl (y_load_stc stcT_frame rfl s136 B130 rr) (wl_mv rfl rfl rfl s134 (wl_mv rfl rfl rfl s137 (wl_mv rfl rfl rfl s138 (wl_cs rfl rfl rfl rfl rfl (fun _ _ => by kernel_rfl) (vsC rfl (vsC rfl (vsC rfl (vsC rfl vsN)))) (pl_at p (u / 2) (v / 2) f f0 f1 f2 T_f0 T_f1 T_f2 _  B127 B128 B129 ) fun w142 k143 => ?_)))))))))
  have K148 := K131.tr k143
  refine wl_v (iv (((0 + ((atF f p ((u + 1) / 2) (v / 2)) + (atF f p (u / 2) ((v + 1) / 2)))) + (atF f p ((u + 1) / 2) ((v + 1) / 2))) + (atF f p (u / 2) (v / 2)))) rfl rfl (y_add rfl rfl rfl (i64_i rfl (by omega)) rr) (wl_v (iv (((0 + ((atF f p ((u + 1) / 2) (v / 2)) + (atF f p (u / 2) ((v + 1) / 2)))) + (atF f p ((u + 1) / 2) ((v + 1) / 2))) + (atF f p (u / 2) (v / 2)))) rfl rfl (y_asg rfl rfl rr) (wl_nil fun F149 hF150 => ?_))
  obtain ⟨s151, s152, s153⟩ := t3 hF150 72 s135 11 s139 12 s140
  have s154 : F149 13 = iv (((0 + ((atF f p ((u + 1) / 2) (v / 2)) + (atF f p (u / 2) ((v + 1) / 2)))) + (atF f p ((u + 1) / 2) ((v + 1) / 2))) + (atF f p (u / 2) (v / 2))) := (hF150 13).trans rfl
  clear hF150
  refine then_normal (wq_exit (in_here (then_normal (wq_seq (wq_region (wl_mv rfl rfl rfl s154 (wl_mv rfl rfl rfl s152 (wl_mv rfl rfl rfl s153 (wl_v (iv ((N : Nat) : Int)) rfl rfl (y_add rfl rfl rfl (i64_i hN.symm (by omega)) rr) (wl_v (iv M) rfl rfl (y_shlR N rfl rfl rfl (by rcases hM2 with ⟨h1, h2⟩ | ⟨h1, h2⟩ | ⟨h1, h2⟩ <;> subst h1 <;> rw [h2] <;> rfl) rr) (wl_call (R := fun v_ w_ => v_ = iv (mid f p u v) ∧ Kept (fun _ => False) w142 w_) rfl rfl (y_cs rfl rfl rfl (fun _ _ => by kernel_rfl) (ev_func _) (vsC rfl (vsC rfl vsN)) (mo_mean (((0 + ((atF f p ((u + 1) / 2) (v / 2)) + (atF f p (u / 2) ((v + 1) / 2)))) + (atF f p ((u + 1) / 2) ((v + 1) / 2))) + (atF f p (u / 2) (v / 2))) M  _ (by omega) (by omega)  ) (fun e_ w_ h_ => ⟨_, h_.1, congrArg (Value.int .i64) (by first | (rw [(by omega : M = 4)]; have e := mid_none (f := f) (p := p) (u := u) (v := v) (by omega) (by omega); omega) | (rw [(by omega : M = 2)]; rcases (by omega : u % 2 = 0 ∨ v % 2 = 0) with h0 | h0; (have e := mid_down (f := f) (p := p) (u := u) (v := v) (by omega) (by omega); rw [show (u + 1) / 2 = u / 2 by omega]; omega); (have e := mid_side (f := f) (p := p) (u := u) (v := v) (by omega) (by omega); rw [show (v + 1) / 2 = v / 2 by omega]; omega)) | (rw [(by omega : M = 1)]; have e := mid_both (f := f) (p := p) (u := u) (v := v) (by omega) (by omega); omega)), h_.2⟩)) ?_)))))))))))
  rintro _ w155 ⟨rfl, k156⟩
  have K161 := K148.tr k156
  refine wl_v (iv (mid f p u v)) rfl rfl (y_asg rfl rfl rr) (wl_nil fun F162 hF163 => ?_)
  have s164 := (hF163 72).trans s151
  have s165 : F162 8 = iv (mid f p u v) := (hF163 8).trans rfl
  clear hF163
  refine then_normal (wq_ret ?_)
  exact end_tmp (v := iv (mid f p u v)) s164 rfl rfl s165 ⟨(by rw [hm]), K161⟩
 ·replace c93 := of_decide_eq_false c93
  refine wq_skip (then_normal (wq_seq (wq_region (wl_v (.bool (decide (((N : Nat) : Int) = 1))) rfl rfl (y_eqlI rfl s91 rfl rfl rr) (wl_v (.bool (decide (((N : Nat) : Int) = 1))) rfl rfl (y_asg rfl rfl rr) (wl_nil fun F166 hF167 => ?_))))))
  obtain ⟨s168, s169, s170, s171, s172, s173, s174, s175⟩ := t8 hF167 1 s83 72 s84 4 s85 9 s86 10 s87 11 s88 12 s89 13 s90
  have s176 : F166 31 = .bool (decide (((N : Nat) : Int) = 1)) := (hF167 31).trans rfl
  clear hF167
  refine then_normal ?_
  refine wq_cond s176 (fun c177 => ?_) (fun c177 => ?_)
  ·replace c177 := of_decide_eq_true c177
   refine wq_exit (then_exit (in_other (by decide) (then_exit (in_here (then_normal (wq_region (wl_mv rfl rfl rfl s175 (wl_v (.agg #[iv (f.W), iv (f.H), f0, f1, f2]) rfl rfl (y_load_stc stcT_frame rfl s170 B33 rr) (wl_mv rfl rfl rfl s168 (wl_mv rfl rfl rfl s171 (wl_mv rfl rfl rfl s173 ?_)))))))))))
   refine wl_v (iv ((u + 1) / 2)) rfl rfl (y_add rfl rfl rfl (i64_i (by omega) (by omega)) rr) (wl_mv rfl rfl rfl s172 (wl_mv rfl rfl rfl s174 (wl_v (iv ((v + 1) / 2)) rfl rfl (y_add rfl rfl rfl (i64_i (by omega) (by omega)) rr) (wl_cs rfl rfl rfl rfl rfl (fun _ _ => by kernel_rfl) (vsC rfl (vsC rfl (vsC rfl (vsC rfl vsN)))) (pl_at p ((u + 1) / 2) ((v + 1) / 2) f f0 f1 f2 T_f0 T_f1 T_f2 _  B30 B31 B32 ) fun w178 k179 => ?_))))
   have B180 := B30.all k179 Apart.none
   have B181 := B31.all k179 Apart.none
   have B182 := B32.all k179 Apart.none
   have B183 := B33.all k179 id
   have K184 := K34.tr k179
   refine wl_v (iv (0 + (atF f p ((u + 1) / 2) ((v + 1) / 2)))) rfl rfl (y_add rfl rfl rfl (i64_i rfl (by omega)) rr) (wl_v (iv (0 + (atF f p ((u + 1) / 2) ((v + 1) / 2)))) rfl rfl (y_asg rfl rfl rr) (wl_nil fun F185 hF186 => ?_))
   obtain ⟨s187, s188, s189, s190, s191, s192, s193⟩ := t7 hF186 1 s168 72 s169 4 s170 9 s171 10 s172 11 s173 12 s174
   have s194 : F185 13 = iv (0 + (atF f p ((u + 1) / 2) ((v + 1) / 2))) := (hF186 13).trans rfl
   clear hF186
   refine in_normal (then_normal (wq_seq (wq_region (wl_mv rfl rfl rfl s194 (wl_v (.agg #[iv (f.W), iv (f.H), f0, f1, f2]) rfl rfl (y_load_stc stcT_frame rfl s189 B183 rr) (wl_mv rfl rfl rfl s187 (wl_mv rfl rfl rfl s190 (wl_mv rfl rfl rfl s191 (wl_cs rfl rfl rfl rfl rfl (fun _ _ => by kernel_rfl) (vsC rfl (vsC rfl (vsC rfl (vsC rfl vsN)))) (pl_at p (u / 2) (v / 2) f f0 f1 f2 T_f0 T_f1 T_f2 _  B180 B181 B182 ) fun w195 k196 => ?_)))))))))
   have K201 := K184.tr k196
   refine wl_v (iv ((0 + (atF f p ((u + 1) / 2) ((v + 1) / 2))) + (atF f p (u / 2) (v / 2)))) rfl rfl (y_add rfl rfl rfl (i64_i rfl (by omega)) rr) (wl_v (iv ((0 + (atF f p ((u + 1) / 2) ((v + 1) / 2))) + (atF f p (u / 2) (v / 2)))) rfl rfl (y_asg rfl rfl rr) (wl_nil fun F202 hF203 => ?_))
   obtain ⟨s204, s205, s206⟩ := t3 hF203 72 s188 11 s192 12 s193
   have s207 : F202 13 = iv ((0 + (atF f p ((u + 1) / 2) ((v + 1) / 2))) + (atF f p (u / 2) (v / 2))) := (hF203 13).trans rfl
   clear hF203
   refine then_normal (wq_exit (in_here (then_normal (wq_seq (wq_region (wl_mv rfl rfl rfl s207 (wl_mv rfl rfl rfl s205 (wl_mv rfl rfl rfl s206 (wl_v (iv ((N : Nat) : Int)) rfl rfl (y_add rfl rfl rfl (i64_i hN.symm (by omega)) rr) (wl_v (iv M) rfl rfl (y_shlR N rfl rfl rfl (by rcases hM2 with ⟨h1, h2⟩ | ⟨h1, h2⟩ | ⟨h1, h2⟩ <;> subst h1 <;> rw [h2] <;> rfl) rr) (wl_call (R := fun v_ w_ => v_ = iv (mid f p u v) ∧ Kept (fun _ => False) w195 w_) rfl rfl (y_cs rfl rfl rfl (fun _ _ => by kernel_rfl) (ev_func _) (vsC rfl (vsC rfl vsN)) (mo_mean ((0 + (atF f p ((u + 1) / 2) ((v + 1) / 2))) + (atF f p (u / 2) (v / 2))) M  _ (by omega) (by omega)  ) (fun e_ w_ h_ => ⟨_, h_.1, congrArg (Value.int .i64) (by first | (rw [(by omega : M = 4)]; have e := mid_none (f := f) (p := p) (u := u) (v := v) (by omega) (by omega); omega) | (rw [(by omega : M = 2)]; rcases (by omega : u % 2 = 0 ∨ v % 2 = 0) with h0 | h0; (have e := mid_down (f := f) (p := p) (u := u) (v := v) (by omega) (by omega); rw [show (u + 1) / 2 = u / 2 by omega]; omega); (have e := mid_side (f := f) (p := p) (u := u) (v := v) (by omega) (by omega); rw [show (v + 1) / 2 = v / 2 by omega]; omega)) | (rw [(by omega : M = 1)]; have e := mid_both (f := f) (p := p) (u := u) (v := v) (by omega) (by omega); omega)), h_.2⟩)) ?_)))))))))))
   rintro _ w208 ⟨rfl, k209⟩
   have K214 := K201.tr k209
   refine wl_v (iv (mid f p u v)) rfl rfl (y_asg rfl rfl rr) (wl_nil fun F215 hF216 => ?_)
   have s217 := (hF216 72).trans s204
   have s218 : F215 8 = iv (mid f p u v) := (hF216 8).trans rfl
   clear hF216
   refine then_normal (wq_ret ?_)
   exact end_tmp (v := iv (mid f p u v)) s217 rfl rfl s218 ⟨(by rw [hm]), K214⟩
  ·replace c177 := of_decide_eq_false c177
   refine wq_skip (then_normal (wq_exit (in_other (by decide) (then_exit (in_other (by decide) (then_exit (in_here (then_normal (wq_seq (wq_region (wl_mv rfl rfl rfl s175 ?_)))))))))))
   refine wl_v (.agg #[iv (f.W), iv (f.H), f0, f1, f2]) rfl rfl (y_load_stc stcT_frame rfl s170 B33 rr) (wl_mv rfl rfl rfl s168 (wl_mv rfl rfl rfl s171 (wl_mv rfl rfl rfl s172 (wl_cs rfl rfl rfl rfl rfl (fun _ _ => by kernel_rfl) (vsC rfl (vsC rfl (vsC rfl (vsC rfl vsN)))) (pl_at p (u / 2) (v / 2) f f0 f1 f2 T_f0 T_f1 T_f2 _  B30 B31 B32 ) fun w219 k220 => ?_))))
   have K225 := K34.tr k220
   refine wl_v (iv (0 + (atF f p (u / 2) (v / 2)))) rfl rfl (y_add rfl rfl rfl (i64_i rfl (by omega)) rr) (wl_v (iv (0 + (atF f p (u / 2) (v / 2)))) rfl rfl (y_asg rfl rfl rr) (wl_nil fun F226 hF227 => ?_))
   obtain ⟨s228, s229, s230⟩ := t3 hF227 72 s169 11 s173 12 s174
   have s231 : F226 13 = iv (0 + (atF f p (u / 2) (v / 2))) := (hF227 13).trans rfl
   clear hF227
   refine then_normal (wq_exit (in_here (then_normal (wq_seq (wq_region (wl_mv rfl rfl rfl s231 (wl_mv rfl rfl rfl s229 (wl_mv rfl rfl rfl s230 (wl_v (iv ((N : Nat) : Int)) rfl rfl (y_add rfl rfl rfl (i64_i hN.symm (by omega)) rr) (wl_v (iv M) rfl rfl (y_shlR N rfl rfl rfl (by rcases hM2 with ⟨h1, h2⟩ | ⟨h1, h2⟩ | ⟨h1, h2⟩ <;> subst h1 <;> rw [h2] <;> rfl) rr) (wl_call (R := fun v_ w_ => v_ = iv (mid f p u v) ∧ Kept (fun _ => False) w219 w_) rfl rfl (y_cs rfl rfl rfl (fun _ _ => by kernel_rfl) (ev_func _) (vsC rfl (vsC rfl vsN)) (mo_mean (0 + (atF f p (u / 2) (v / 2))) M  _ (by omega) (by omega)  ) (fun e_ w_ h_ => ⟨_, h_.1, congrArg (Value.int .i64) (by first | (rw [(by omega : M = 4)]; have e := mid_none (f := f) (p := p) (u := u) (v := v) (by omega) (by omega); omega) | (rw [(by omega : M = 2)]; rcases (by omega : u % 2 = 0 ∨ v % 2 = 0) with h0 | h0; (have e := mid_down (f := f) (p := p) (u := u) (v := v) (by omega) (by omega); rw [show (u + 1) / 2 = u / 2 by omega]; omega); (have e := mid_side (f := f) (p := p) (u := u) (v := v) (by omega) (by omega); rw [show (v + 1) / 2 = v / 2 by omega]; omega)) | (rw [(by omega : M = 1)]; have e := mid_both (f := f) (p := p) (u := u) (v := v) (by omega) (by omega); omega)), h_.2⟩)) ?_)))))))))))
   rintro _ w232 ⟨rfl, k233⟩
   have K238 := K225.tr k233
   refine wl_v (iv (mid f p u v)) rfl rfl (y_asg rfl rfl rr) (wl_nil fun F239 hF240 => ?_)
   have s241 := (hF240 72).trans s228
   have s242 : F239 8 = iv (mid f p u v) := (hF240 8).trans rfl
   clear hF240
   refine then_normal (wq_ret ?_)
   exact end_tmp (v := iv (mid f p u v)) s241 rfl rfl s242 ⟨(by rw [hm]), K238⟩
theorem mo_predict (p x y X Y : Int) (f : FD) (f0 f1 f2 : Value) (T_f0 : Nat → Prop) (T_f1 : Nat → Prop) (T_f2 : Nat → Prop) (w0 : World) (h_f0 : Byt w0 T_f0 f0 ((f).p0)) (h_f1 : Byt w0 T_f1 f1 ((f).p1)) (h_f2 : Byt w0 T_f2 f2 ((f).p2)) :
  Calls Tryz.prog 110 #[.agg #[.int .i64 ((f).W), .int .i64 ((f).H), f0, f1, f2], .int .i64 (p), .int .i64 (x), .int .i64 (y), .agg #[.int .i64 (X), .int .i64 (Y)]] w0 fun e w' => e = .returned (.tuple #[blkV (mvB f p x y X Y), .int .i64 (mvE f p x y X Y)]) ∧ Kept (fun _ => False) w0 w' := by
 refine calls_wq (args := [.agg #[iv (f.W), iv (f.H), f0, f1, f2], iv p, iv x, iv y, .agg #[iv X, iv Y]]) 69 Tryz.func110 rfl rfl (Nat.le_of_ble_eq_true rfl) ?_
 have K0 := Kept.refl (fun _ => False) w0
 have g_f0 := Grew.refl w0 T_f0
 have g_f1 := Grew.refl w0 T_f1
 have g_f2 := Grew.refl w0 T_f2
 refine wq_seq (wq_region (wl_box_stc (vs := [iv (f.W), iv (f.H), f0, f1, f2]) rfl rfl rfl rfl fun p1 w2 B4 g5 k3 => ?_))
 have B10 := h_f0.all k3 Apart.none
 have B11 := h_f1.all k3 Apart.none
 have B12 := h_f2.all k3 Apart.none
 have K13 := K0.tr k3
 refine wl_box_stc (vs := [iv X, iv Y]) rfl rfl rfl rfl fun p14 w15 B17 g18 k16 => ?_
 have B24 := B10.all k16 Apart.none
 have B25 := B11.all k16 Apart.none
 have B26 := B12.all k16 Apart.none
 have B27 := B4.all k16 id
 have K28 := K13.tr k16
 refine wl_alloc_blk rfl rfl rfl blkT_block.2.2 fun p29 w30 e33 B31 k32 => ?_
 have g34 := onB_new (Nat.le_of_eq e33.symm)
 have gr35 : Grew w0 noB (onB p29) := Grew.new K28 g34
 clear e33 g34
 have B41 := B24.all k32 Apart.none
 have B42 := B25.all k32 Apart.none
 have B43 := B26.all k32 Apart.none
 have B44 := B27.all k32 id
 have B45 := B17.all k32 id
 have K46 := K28.tr k32
 refine wl_v (iv 0) rfl rfl (y_asg rfl rfl rr) (wl_nil fun F47 hF48 => ?_)
 have s49 : F47 1 = iv p := (hF48 1).trans rfl
 have s50 : F47 2 = iv x := (hF48 2).trans rfl
 have s51 : F47 3 = iv y := (hF48 3).trans rfl
 have s52 : F47 69 = undef := (hF48 69).trans rfl
 have s53 : F47 5 = pt p1 0 := (hF48 5).trans rfl
 have s54 : F47 9 = pt p14 0 := (hF48 9).trans rfl
 have s55 : F47 10 = pt p29 0 := (hF48 10).trans rfl
 clear hF48
 refine then_normal (wq_seq (wq_seq ?_))
 by_cases d56 : (checkE f) ≠ 0
 ·skip
  refine wq_region (wl_v (.agg #[iv (f.W), iv (f.H), f0, f1, f2]) rfl rfl (y_load_stc stcT_frame rfl s53 B44 rr) (wl_cs rfl rfl rfl rfl rfl (fun _ _ => by kernel_rfl) (vsC rfl vsN) (pl_check f f0 f1 f2 T_f0 T_f1 T_f2 _  B41 B42 B43 ) fun w57 k58 => ?_))
  have B64 := B31.all k58 id
  have K65 := K46.tr k58
  refine wl_v (.bool true) rfl rfl (y_neqI rfl rfl rfl (decide_eq_true d56) rr) (wl_v (.bool true) rfl rfl (y_mov rfl rfl rr) (wl_unless 3 false 18 rfl rfl rfl (Or.inl rfl) rfl (wl_unless 3 false 18 rfl rfl rfl (Or.inl rfl) rfl (wl_v (.bool true) rfl rfl (y_pickT rfl rfl rfl rr) (wl_v (.bool true) rfl rfl (y_mov rfl rfl rr) (wl_unless 7 false 22 rfl rfl rfl (Or.inl rfl) rfl (wl_unless 7 false 22 rfl rfl rfl (Or.inl rfl) rfl (wl_v (.bool true) rfl rfl (y_pickT rfl rfl rfl rr) (wl_v (.bool true) rfl rfl (y_mov rfl rfl rr) (wl_unless 11 false 26 rfl rfl rfl (Or.inl rfl) rfl (wl_unless 11 false 26 rfl rfl rfl (Or.inl rfl) rfl ?_)))))))))))
  refine wl_unless 11 false 26 rfl rfl rfl (Or.inl rfl) rfl (wl_v (.bool true) rfl rfl (y_pickT rfl rfl rfl rr) (wl_v (.bool true) rfl rfl (y_mov rfl rfl rr) (wl_unless 16 false 31 rfl rfl rfl (Or.inl rfl) rfl (wl_unless 16 false 31 rfl rfl rfl (Or.inl rfl) rfl (wl_unless 16 false 31 rfl rfl rfl (Or.inl rfl) rfl (wl_v (.bool true) rfl rfl (y_pickT rfl rfl rfl rr) (wl_nil fun F66 hF67 => ?_)))))))
  obtain ⟨s71, s74⟩ := t2 hF67 69 s52 10 s55
  have s75 : F66 35 = .bool true := (hF67 35).trans rfl
  clear hF67
  refine then_normal ?_
  refine wq_cond (t := true) s75 (fun _ => ?_) (fun e => by cases e)
  refine wq_seq ?_
  have hno : ¬ placeF f p x y := by rintro ⟨h1, h2, h3, h4, h5, h6, h7⟩; first | exact absurd ((checkE_iff f).2 h1) (by assumption) | omega
  refine wq_region (wl_v (blkV (fun _ => 0)) rfl rfl (y_buildR (cells := (arrL 16 (fun _ => 0)).toArray) rfl (by kernel_rfl) rfl rr) (wl_store_blk blkT_block rfl rfl rfl s74 rfl B64 fun w76 B77 k78 => ?_))
  have K84 := K65.trans k78 (Grew.ok (S := fun _ => False) gr35 noB_le)
  refine wl_v (iv 70) rfl rfl (y_asg rfl rfl rr) (wl_nil fun F85 hF86 => ?_)
  obtain ⟨s87, s88⟩ := t2 hF86 69 s71 10 s74
  have s89 : F85 11 = iv 70 := (hF86 11).trans rfl
  clear hF86
  refine then_normal (wq_ret (then_ret ?_))
  exact end_2 s87 rfl (res_blk blkT_block rfl s88 B77) (res_tmp (v := iv 70) rfl s89) ⟨(by first | rw [(mv_no hno).1, (mv_no hno).2] | rw [(mv_none hpl hvn).1, (mv_none hpl hvn).2, vecE_no hvn] | rw [(mv_yes hpl hv).1, (mv_yes hpl hv).2]), K84⟩
 ·skip
  by_cases d90 : p < 0
  ·skip
   refine wq_region (wl_v (.agg #[iv (f.W), iv (f.H), f0, f1, f2]) rfl rfl (y_load_stc stcT_frame rfl s53 B44 rr) (wl_cs rfl rfl rfl rfl rfl (fun _ _ => by kernel_rfl) (vsC rfl vsN) (pl_check f f0 f1 f2 T_f0 T_f1 T_f2 _  B41 B42 B43 ) fun w91 k92 => ?_))
   have B98 := B31.all k92 id
   have K99 := K46.tr k92
   refine wl_v (.bool false) rfl rfl (y_neqI rfl rfl rfl (decide_eq_false d56) rr) (wl_v (.bool false) rfl rfl (y_mov rfl rfl rr) (wl_vw (iv p) 3 false 18 rfl rfl rfl rfl rfl (y_mov rfl s49 rr) (wl_vw (.bool true) 3 false 18 rfl rfl rfl rfl rfl (y_lss rfl rfl rfl (decide_eq_true d90) rr) (wl_v (.bool true) rfl rfl (y_pickF rfl rfl rfl rr) (wl_v (.bool true) rfl rfl (y_mov rfl rfl rr) (wl_unless 7 false 22 rfl rfl rfl (Or.inl rfl) rfl (wl_unless 7 false 22 rfl rfl rfl (Or.inl rfl) rfl (wl_v (.bool true) rfl rfl (y_pickT rfl rfl rfl rr) (wl_v (.bool true) rfl rfl (y_mov rfl rfl rr) (wl_unless 11 false 26 rfl rfl rfl (Or.inl rfl) rfl (wl_unless 11 false 26 rfl rfl rfl (Or.inl rfl) rfl ?_)))))))))))
   refine wl_unless 11 false 26 rfl rfl rfl (Or.inl rfl) rfl (wl_v (.bool true) rfl rfl (y_pickT rfl rfl rfl rr) (wl_v (.bool true) rfl rfl (y_mov rfl rfl rr) (wl_unless 16 false 31 rfl rfl rfl (Or.inl rfl) rfl (wl_unless 16 false 31 rfl rfl rfl (Or.inl rfl) rfl (wl_unless 16 false 31 rfl rfl rfl (Or.inl rfl) rfl (wl_v (.bool true) rfl rfl (y_pickT rfl rfl rfl rr) (wl_nil fun F100 hF101 => ?_)))))))
   obtain ⟨s105, s108⟩ := t2 hF101 69 s52 10 s55
   have s109 : F100 35 = .bool true := (hF101 35).trans rfl
   clear hF101
   refine then_normal ?_
   refine wq_cond (t := true) s109 (fun _ => ?_) (fun e => by cases e)
   refine wq_seq ?_
   have hno : ¬ placeF f p x y := by rintro ⟨h1, h2, h3, h4, h5, h6, h7⟩; first | exact absurd ((checkE_iff f).2 h1) (by assumption) | omega
   refine wq_region (wl_v (blkV (fun _ => 0)) rfl rfl (y_buildR (cells := (arrL 16 (fun _ => 0)).toArray) rfl (by kernel_rfl) rfl rr) (wl_store_blk blkT_block rfl rfl rfl s108 rfl B98 fun w110 B111 k112 => ?_))
   have K118 := K99.trans k112 (Grew.ok (S := fun _ => False) gr35 noB_le)
   refine wl_v (iv 70) rfl rfl (y_asg rfl rfl rr) (wl_nil fun F119 hF120 => ?_)
   obtain ⟨s121, s122⟩ := t2 hF120 69 s105 10 s108
   have s123 : F119 11 = iv 70 := (hF120 11).trans rfl
   clear hF120
   refine then_normal (wq_ret (then_ret ?_))
   exact end_2 s121 rfl (res_blk blkT_block rfl s122 B111) (res_tmp (v := iv 70) rfl s123) ⟨(by first | rw [(mv_no hno).1, (mv_no hno).2] | rw [(mv_none hpl hvn).1, (mv_none hpl hvn).2, vecE_no hvn] | rw [(mv_yes hpl hv).1, (mv_yes hpl hv).2]), K118⟩
  ·skip
   by_cases d124 : 3 ≤ p
   ·skip
    refine wq_region (wl_v (.agg #[iv (f.W), iv (f.H), f0, f1, f2]) rfl rfl (y_load_stc stcT_frame rfl s53 B44 rr) (wl_cs rfl rfl rfl rfl rfl (fun _ _ => by kernel_rfl) (vsC rfl vsN) (pl_check f f0 f1 f2 T_f0 T_f1 T_f2 _  B41 B42 B43 ) fun w125 k126 => ?_))
    have B132 := B31.all k126 id
    have K133 := K46.tr k126
    refine wl_v (.bool false) rfl rfl (y_neqI rfl rfl rfl (decide_eq_false d56) rr) (wl_v (.bool false) rfl rfl (y_mov rfl rfl rr) (wl_vw (iv p) 3 false 18 rfl rfl rfl rfl rfl (y_mov rfl s49 rr) (wl_vw (.bool false) 3 false 18 rfl rfl rfl rfl rfl (y_lss rfl rfl rfl (decide_eq_false d90) rr) (wl_v (.bool false) rfl rfl (y_pickF rfl rfl rfl rr) (wl_v (.bool false) rfl rfl (y_mov rfl rfl rr) (wl_vw (iv p) 7 false 22 rfl rfl rfl rfl rfl (y_mov rfl s49 rr) (wl_vw (.bool true) 7 false 22 rfl rfl rfl rfl rfl (y_geq rfl rfl rfl (decide_eq_true d124) rr) (wl_v (.bool true) rfl rfl (y_pickF rfl rfl rfl rr) (wl_v (.bool true) rfl rfl (y_mov rfl rfl rr) (wl_unless 11 false 26 rfl rfl rfl (Or.inl rfl) rfl (wl_unless 11 false 26 rfl rfl rfl (Or.inl rfl) rfl ?_)))))))))))
    refine wl_unless 11 false 26 rfl rfl rfl (Or.inl rfl) rfl (wl_v (.bool true) rfl rfl (y_pickT rfl rfl rfl rr) (wl_v (.bool true) rfl rfl (y_mov rfl rfl rr) (wl_unless 16 false 31 rfl rfl rfl (Or.inl rfl) rfl (wl_unless 16 false 31 rfl rfl rfl (Or.inl rfl) rfl (wl_unless 16 false 31 rfl rfl rfl (Or.inl rfl) rfl (wl_v (.bool true) rfl rfl (y_pickT rfl rfl rfl rr) (wl_nil fun F134 hF135 => ?_)))))))
    obtain ⟨s139, s142⟩ := t2 hF135 69 s52 10 s55
    have s143 : F134 35 = .bool true := (hF135 35).trans rfl
    clear hF135
    refine then_normal ?_
    refine wq_cond (t := true) s143 (fun _ => ?_) (fun e => by cases e)
    refine wq_seq ?_
    have hno : ¬ placeF f p x y := by rintro ⟨h1, h2, h3, h4, h5, h6, h7⟩; first | exact absurd ((checkE_iff f).2 h1) (by assumption) | omega
    refine wq_region (wl_v (blkV (fun _ => 0)) rfl rfl (y_buildR (cells := (arrL 16 (fun _ => 0)).toArray) rfl (by kernel_rfl) rfl rr) (wl_store_blk blkT_block rfl rfl rfl s142 rfl B132 fun w144 B145 k146 => ?_))
    have K152 := K133.trans k146 (Grew.ok (S := fun _ => False) gr35 noB_le)
    refine wl_v (iv 70) rfl rfl (y_asg rfl rfl rr) (wl_nil fun F153 hF154 => ?_)
    obtain ⟨s155, s156⟩ := t2 hF154 69 s139 10 s142
    have s157 : F153 11 = iv 70 := (hF154 11).trans rfl
    clear hF154
    refine then_normal (wq_ret (then_ret ?_))
    exact end_2 s155 rfl (res_blk blkT_block rfl s156 B145) (res_tmp (v := iv 70) rfl s157) ⟨(by first | rw [(mv_no hno).1, (mv_no hno).2] | rw [(mv_none hpl hvn).1, (mv_none hpl hvn).2, vecE_no hvn] | rw [(mv_yes hpl hv).1, (mv_yes hpl hv).2]), K152⟩
   ·skip
    by_cases d158 : 0 ≤ x ∧ x ≤ 64
    ·skip
     by_cases d159 : 0 ≤ y ∧ y ≤ 64
     ·skip
      refine wq_region (wl_v (.agg #[iv (f.W), iv (f.H), f0, f1, f2]) rfl rfl (y_load_stc stcT_frame rfl s53 B44 rr) (wl_cs rfl rfl rfl rfl rfl (fun _ _ => by kernel_rfl) (vsC rfl vsN) (pl_check f f0 f1 f2 T_f0 T_f1 T_f2 _  B41 B42 B43 ) fun w160 k161 => ?_))
      have B162 := B41.all k161 Apart.none
      have B163 := B42.all k161 Apart.none
      have B164 := B43.all k161 Apart.none
      have B165 := B44.all k161 id
      have B166 := B45.all k161 id
      have B167 := B31.all k161 id
      have K168 := K46.tr k161
      refine wl_v (.bool false) rfl rfl (y_neqI rfl rfl rfl (decide_eq_false d56) rr) (wl_v (.bool false) rfl rfl (y_mov rfl rfl rr) (wl_vw (iv p) 3 false 18 rfl rfl rfl rfl rfl (y_mov rfl s49 rr) (wl_vw (.bool false) 3 false 18 rfl rfl rfl rfl rfl (y_lss rfl rfl rfl (decide_eq_false d90) rr) (wl_v (.bool false) rfl rfl (y_pickF rfl rfl rfl rr) (wl_v (.bool false) rfl rfl (y_mov rfl rfl rr) (wl_vw (iv p) 7 false 22 rfl rfl rfl rfl rfl (y_mov rfl s49 rr) (wl_vw (.bool false) 7 false 22 rfl rfl rfl rfl rfl (y_geq rfl rfl rfl (decide_eq_false d124) rr) (wl_v (.bool false) rfl rfl (y_pickF rfl rfl rfl rr) (wl_v (.bool false) rfl rfl (y_mov rfl rfl rr) (wl_vw (iv x) 11 false 26 rfl rfl rfl rfl rfl (y_mov rfl s50 rr) (wl_callw (R := fun v_ w_ => v_ = .bool true ∧ Kept (fun _ => False) w160 w_) 11 false 26 rfl rfl rfl rfl rfl (y_cs rfl rfl rfl (fun _ _ => by kernel_rfl) (ev_func _) (vsC rfl vsN) (mo_mayPlace x  _   ) (fun e_ w_ h_ => ⟨_, h_.1, (congrArg Value.bool (decide_eq_true d158)), h_.2⟩)) ?_)))))))))))
      rintro _ w169 ⟨rfl, k170⟩
      have B171 := B162.all k170 Apart.none
      have B172 := B163.all k170 Apart.none
      have B173 := B164.all k170 Apart.none
      have B174 := B165.all k170 id
      have B175 := B166.all k170 id
      have B176 := B167.all k170 id
      have K177 := K168.tr k170
      refine wl_vw (.bool false) 11 false 26 rfl rfl rfl rfl rfl (y_not rfl rfl rfl rr) (wl_v (.bool false) rfl rfl (y_pickF rfl rfl rfl rr) (wl_v (.bool false) rfl rfl (y_mov rfl rfl rr) (wl_vw (iv y) 16 false 31 rfl rfl rfl rfl rfl (y_mov rfl s51 rr) (wl_callw (R := fun v_ w_ => v_ = .bool true ∧ Kept (fun _ => False) w169 w_) 16 false 31 rfl rfl rfl rfl rfl (y_cs rfl rfl rfl (fun _ _ => by kernel_rfl) (ev_func _) (vsC rfl vsN) (mo_mayPlace y  _   ) (fun e_ w_ h_ => ⟨_, h_.1, (congrArg Value.bool (decide_eq_true d159)), h_.2⟩)) ?_))))
      rintro _ w178 ⟨rfl, k179⟩
      have B180 := B171.all k179 Apart.none
      have B181 := B172.all k179 Apart.none
      have B182 := B173.all k179 Apart.none
      have B183 := B174.all k179 id
      have B184 := B175.all k179 id
      have B185 := B176.all k179 id
      have K186 := K177.tr k179
      refine wl_vw (.bool false) 16 false 31 rfl rfl rfl rfl rfl (y_not rfl rfl rfl rr) (wl_v (.bool false) rfl rfl (y_pickF rfl rfl rfl rr) (wl_nil fun F187 hF188 => ?_))
      obtain ⟨s189, s190, s191, s192, s193, s194, s195⟩ := t7 hF188 1 s49 2 s50 3 s51 69 s52 5 s53 9 s54 10 s55
      have s196 : F187 35 = .bool false := (hF188 35).trans rfl
      clear hF188
      refine then_normal ?_
      refine wq_cond (t := false) s196 (fun e => by cases e) (fun _ => ?_)
      refine wq_skip (then_normal (wq_seq (wq_seq ?_)))
      have hpl : placeF f p x y := ⟨(checkE_iff f).1 (by first | assumption | (apply Decidable.byContradiction; assumption)), by omega, by omega, by omega, by omega, by omega, by omega⟩
      refine wq_region (wl_v (.agg #[iv X, iv Y]) rfl rfl (y_load_stc stcT_vector rfl s194 B184 rr) (wl_cs rfl rfl rfl rfl rfl (fun _ _ => by kernel_rfl) (vsC rfl vsN) (mo_check X Y  _   ) fun w197 k198 => ?_))
      have B199 := B180.all k198 Apart.none
      have B200 := B181.all k198 Apart.none
      have B201 := B182.all k198 Apart.none
      have B202 := B183.all k198 id
      have B203 := B184.all k198 id
      have B204 := B185.all k198 id
      have K205 := K186.tr k198
      refine wl_v (iv (vecE X Y)) rfl rfl (y_asg rfl rfl rr) (wl_nil fun F206 hF207 => ?_)
      obtain ⟨s208, s209, s210, s211, s212, s213, s214⟩ := t7 hF207 1 s189 2 s190 3 s191 69 s192 5 s193 9 s194 10 s195
      have s215 : F206 12 = iv (vecE X Y) := (hF207 12).trans rfl
      clear hF207
      refine then_normal (wq_seq (wq_region (wl_mv rfl rfl rfl s215 (wl_v (.bool (decide ((vecE X Y) ≠ 0))) rfl rfl (y_neqI rfl rfl rfl rfl rr) (wl_nil fun F216 hF217 => ?_)))))
      obtain ⟨s218, s219, s220, s221, s222, s223, s224, s225⟩ := t8 hF217 1 s208 2 s209 3 s210 69 s211 5 s212 9 s213 10 s214 12 s215
      have s226 : F216 40 = .bool (decide ((vecE X Y) ≠ 0)) := (hF217 40).trans rfl
      clear hF217
      refine then_normal ?_
      refine wq_cond s226 (fun c227 => ?_) (fun c227 => ?_)
      ·replace c227 := of_decide_eq_true c227
       refine wq_seq ?_
       have hvn : ¬ vecOk X Y := fun h => absurd ((vecE_iff X Y).2 h) (by assumption)
       refine wq_region (wl_v (blkV (fun _ => 0)) rfl rfl (y_buildR (cells := (arrL 16 (fun _ => 0)).toArray) rfl (by kernel_rfl) rfl rr) (wl_mv rfl rfl rfl s225 (wl_store_blk blkT_block rfl rfl rfl s224 rfl B204 fun w228 B229 k230 => ?_)))
       have K236 := K205.trans k230 (Grew.ok (S := fun _ => False) gr35 noB_le)
       refine wl_v (iv (vecE X Y)) rfl rfl (y_asg rfl rfl rr) (wl_nil fun F237 hF238 => ?_)
       obtain ⟨s239, s240⟩ := t2 hF238 69 s221 10 s224
       have s241 : F237 11 = iv (vecE X Y) := (hF238 11).trans rfl
       clear hF238
       refine then_normal (wq_ret (then_ret ?_))
       exact end_2 s239 rfl (res_blk blkT_block rfl s240 B229) (res_tmp (v := iv (vecE X Y)) rfl s241) ⟨(by first | rw [(mv_no hno).1, (mv_no hno).2] | rw [(mv_none hpl hvn).1, (mv_none hpl hvn).2, vecE_no hvn] | rw [(mv_yes hpl hv).1, (mv_yes hpl hv).2]), K236⟩
      ·replace c227 := of_decide_eq_false c227
       refine wq_skip (then_normal (wq_seq ?_))
       have hv : vecOk X Y := (vecE_iff X Y).1 (by first | assumption | (apply Decidable.byContradiction; assumption))
       obtain ⟨hv1, hv2, hv3, hv4⟩ := (show vecOk X Y from hv)
       refine wq_region (wl_alloc_blk rfl rfl rfl blkT_block.2.2 fun p242 w243 e246 B244 k245 => ?_)
       have g247 := onB_new (Nat.le_of_eq e246.symm)
       have gr248 : Grew w0 noB (onB p242) := Grew.new K205 g247
       have ap249 : Apart (onB p242) T_f0 := Apart.new g247 B199.live
       have ap250 : Apart (onB p242) T_f1 := Apart.new g247 B200.live
       have ap251 : Apart (onB p242) T_f2 := Apart.new g247 B201.live
       have ap252 : Apart (onB p242) (onB p1) := Apart.new g247 (onB_live B202.lt)
       have ap253 : Apart (onB p242) (onB p14) := Apart.new g247 (onB_live B203.lt)
       have ap254 : Apart (onB p242) (onB p29) := Apart.new g247 (onB_live B204.lt)
       clear e246 g247
       have B255 := B199.all k245 Apart.none
       have B256 := B200.all k245 Apart.none
       have B257 := B201.all k245 Apart.none
       have B258 := B202.all k245 id
       have B259 := B203.all k245 id
       have B260 := B204.all k245 id
       have K261 := K205.tr k245
       refine wl_nil fun F262 hF263 => ?_
       obtain ⟨s264, s265, s266, s267, s268, s269, s270⟩ := t7 hF263 1 s218 2 s219 3 s220 69 s221 5 s222 9 s223 10 s224
       have s271 : F262 13 = pt p242 0 := (hF263 13).trans rfl
       clear hF263
       refine then_normal (wq_seq (wq_seq (wq_region (wl_v (iv 0) rfl rfl (y_mov rfl rfl rr) (wl_nil fun F272 hF273 => ?_)))))
       obtain ⟨s274, s275, s276, s277, s278, s279, s280, s281⟩ := t8 hF273 1 s264 2 s265 3 s266 69 s267 5 s268 9 s269 10 s270 13 s271
       have s282 : F272 43 = iv 0 := (hF273 43).trans rfl
       clear hF273
       refine then_normal (wq_block (wq_loop (fun nn FF ww => ∃ (n : Nat), (n ≤ 16) ∧ nn = 16 - n ∧ FF 1 = iv p ∧ FF 2 = iv x ∧ FF 3 = iv y ∧ FF 5 = pt p1 0 ∧ FF 9 = pt p14 0 ∧ FF 10 = pt p29 0 ∧ FF 13 = pt p242 0 ∧ FF 69 = undef ∧ FF 43 = iv ((n : Nat) : Int) ∧ Kept (fun _ => False) w0 ww ∧ Byt ww T_f0 f0 (f.p0) ∧ Byt ww T_f1 f1 (f.p1) ∧ Byt ww T_f2 f2 (f.p2) ∧ Stc ww p1 29 [iv (f.W), iv (f.H), f0, f1, f2] ∧ Stc ww p14 67 [iv X, iv Y] ∧ Blk ww p29 69 (fun _ => 0) ∧ Blk ww p242 69 (upto n (fun _ => 0) (mvN f p x y X Y))) (16 - 0) ⟨0, by omega, rfl, s274, s275, s276, s278, s279, s280, s281, s277, s282, K261, B255, B256, B257, B258, B259, B260, B244.first⟩ ?_))
       rintro n286 F283 w284 ⟨n, i287, hn286, s288, s289, s290, s291, s292, s293, s294, s295, s296, K285, B297, B298, B299, B300, B301, B302, B303⟩
       refine wq_seq (wq_region (wl_v (.bool (decide (((n : Nat) : Int) < 16))) rfl rfl (y_lss rfl s296 rfl rfl rr) (wl_nil fun F304 hF305 => ?_)))
       obtain ⟨s306, s307, s308, s309, s310, s311, s312, s313, s314⟩ := t9 hF305 1 s288 2 s289 3 s290 5 s291 9 s292 10 s293 13 s294 69 s295 43 s296
       have s315 : F304 44 = .bool (decide (((n : Nat) : Int) < 16)) := (hF305 44).trans rfl
       clear hF305
       refine then_normal (wq_seq ?_)
       refine wq_cond s315 (fun c316 => ?_) (fun c316 => ?_)
       ·replace c316 := of_decide_eq_true c316
        refine wq_skip (then_normal (wq_seq (wq_block (wq_seq (wq_region (wl_mv rfl rfl rfl s314 (wl_v (iv ((n : Nat) : Int)) rfl rfl (y_asg rfl rfl rr) (wl_nil fun F317 hF318 => ?_))))))))
        obtain ⟨s319, s320, s321, s322, s323, s324, s325, s326, s327⟩ := t9 hF318 1 s306 2 s307 3 s308 5 s309 9 s310 10 s311 13 s312 69 s313 43 s314
        have s328 : F317 14 = iv ((n : Nat) : Int) := (hF318 14).trans rfl
        clear hF318
        refine then_normal (wq_region (wl_mv rfl rfl rfl s328 (wl_v (.agg #[iv (f.W), iv (f.H), f0, f1, f2]) rfl rfl (y_load_stc stcT_frame rfl s322 B300 rr) (wl_mv rfl rfl rfl s319 (wl_mv rfl rfl rfl s320 (wl_mv rfl rfl rfl s328 (wl_v (iv (((n % 4) : Nat) : Int)) rfl rfl (y_rem rfl rfl rfl (by first | decide | omega) (rem_nat n 4) rr) (wl_v (iv (x + (((n % 4) : Nat) : Int))) rfl rfl (y_add rfl rfl rfl (i64_i rfl (by omega)) rr) (wl_v (iv (2 * (x + (((n % 4) : Nat) : Int)))) rfl rfl (y_mul rfl rfl rfl (i64_i rfl (by omega)) rr) (wl_v (pt p14 0) rfl rfl (y_fieldR (n := 1) rfl s323 Tryz.underlying67 rfl (by kernel_rfl) (by decide) rfl rr) (wl_v (iv X) rfl rfl (y_ld_stc rfl rfl Tryz.underlying3 B301 rfl rfl rr) ?_)))))))))))
        refine wl_v (iv ((2 * (x + (((n % 4) : Nat) : Int))) + X)) rfl rfl (y_add rfl rfl rfl (i64_i rfl (by omega)) rr) (wl_mv rfl rfl rfl s321 (wl_mv rfl rfl rfl s328 (wl_v (iv (((n / 4) : Nat) : Int)) rfl rfl (y_quo rfl rfl rfl (by first | decide | omega) (i64_n (quo_nat n 4) (by omega)) rr) (wl_v (iv (y + (((n / 4) : Nat) : Int))) rfl rfl (y_add rfl rfl rfl (i64_i rfl (by omega)) rr) (wl_v (iv (2 * (y + (((n / 4) : Nat) : Int)))) rfl rfl (y_mul rfl rfl rfl (i64_i rfl (by omega)) rr) (wl_v (pt p14 1) rfl rfl (y_fieldR (n := 1) rfl s323 Tryz.underlying67 rfl (by kernel_rfl) (by decide) rfl rr) (wl_v (iv Y) rfl rfl (y_ld_stc rfl rfl Tryz.underlying3 B301 rfl rfl rr) (wl_v (iv ((2 * (y + (((n / 4) : Nat) : Int))) + Y)) rfl rfl (y_add rfl rfl rfl (i64_i rfl (by omega)) rr) (wl_cs rfl rfl rfl rfl rfl (fun _ _ => by kernel_rfl) (vsC rfl (vsC rfl (vsC rfl (vsC rfl vsN)))) (mo_sample p ((2 * (x + (((n % 4) : Nat) : Int))) + X) ((2 * (y + (((n / 4) : Nat) : Int))) + Y) f f0 f1 f2 T_f0 T_f1 T_f2 _  B297 B298 B299 ) fun w329 k330 => ?_)))))))))
        have B331 := B297.all k330 Apart.none
        have B332 := B298.all k330 Apart.none
        have B333 := B299.all k330 Apart.none
        have B334 := B300.all k330 id
        have B335 := B301.all k330 id
        have B336 := B302.all k330 id
        have B337 := B303.all k330 id
        have K338 := K285.tr k330
        refine wl_v (.pointer (some ⟨p242, n, none⟩)) rfl rfl (y_atR n (s := 1) rfl s325 rfl (by omega) Tryz.underlying69 (by omega) (by kernel_rfl) (by omega) rr) (wl_set_blk rfl rfl rfl rfl rfl B337 (by omega) (by kernel_rfl) fun w339 B340 k341 => ?_)
        have B342 := B331.all k341 ap249.symm
        have B343 := B332.all k341 ap250.symm
        have B344 := B333.all k341 ap251.symm
        have B345 := B334.all k341 (ap252.symm p1 rfl)
        have B346 := B335.all k341 (ap253.symm p14 rfl)
        have B347 := B336.all k341 (ap254.symm p29 rfl)
        have K348 := K338.trans k341 (Grew.ok (S := fun _ => False) gr248 noB_le)
        refine wl_nil fun F349 hF350 => ?_
        obtain ⟨s351, s352, s353, s354, s355, s356, s357, s358, s359⟩ := t9 hF350 1 s319 2 s320 3 s321 5 s322 9 s323 10 s324 13 s325 69 s326 43 s327
        clear hF350
        refine in_normal (then_normal (wq_region (wl_v (iv ((n + 1 : Nat) : Int)) rfl rfl (y_add rfl s359 rfl (i64_n (by omega) (by omega)) rr) (wl_v (iv ((n + 1 : Nat) : Int)) rfl rfl (y_mov rfl rfl rr) (wl_nil fun F360 hF361 => ?_)))))
        obtain ⟨s362, s363, s364, s365, s366, s367, s368, s369⟩ := t8 hF361 1 s351 2 s352 3 s353 5 s354 9 s355 10 s356 13 s357 69 s358
        have s370 : F360 43 = iv ((n + 1 : Nat) : Int) := (hF361 43).trans rfl
        clear hF361
        exact then_normal ⟨(16 - (n + 1)), by omega, n + 1, by omega, rfl, s362, s363, s364, s365, s366, s367, s368, s369, s370, K348, B342, B343, B344, B345, B346, B347, (B340.next rfl)⟩
       ·replace c316 := of_decide_eq_false c316
        refine wq_exit (then_exit (then_exit ?_))
        have l371 : 16 = n := by omega
        subst l371
        have B372 : Blk w284 p242 69 (mvN f p x y X Y) := (B303.last)
        refine in_here (then_normal (wq_seq (wq_region (wl_v (blkV (mvN f p x y X Y)) rfl rfl (y_load_blk blkT_block rfl s312 B372 rr) (wl_store_blk blkT_block rfl rfl rfl s311 rfl B302 fun w373 B374 k375 => ?_)))))
        have K382 := K285.trans k375 (Grew.ok (S := fun _ => False) gr35 noB_le)
        refine wl_v (iv 0) rfl rfl (y_asg rfl rfl rr) (wl_nil fun F383 hF384 => ?_)
        obtain ⟨s385, s386⟩ := t2 hF384 10 s311 69 s313
        have s387 : F383 11 = iv 0 := (hF384 11).trans rfl
        clear hF384
        refine then_normal (wq_ret ?_)
        exact end_2 s386 rfl (res_blk blkT_block rfl s385 B374) (res_tmp (v := iv 0) rfl s387) ⟨(by first | rw [(mv_no hno).1, (mv_no hno).2] | rw [(mv_none hpl hvn).1, (mv_none hpl hvn).2, vecE_no hvn] | rw [(mv_yes hpl hv).1, (mv_yes hpl hv).2]), K382⟩
     ·skip
      refine wq_region (wl_v (.agg #[iv (f.W), iv (f.H), f0, f1, f2]) rfl rfl (y_load_stc stcT_frame rfl s53 B44 rr) (wl_cs rfl rfl rfl rfl rfl (fun _ _ => by kernel_rfl) (vsC rfl vsN) (pl_check f f0 f1 f2 T_f0 T_f1 T_f2 _  B41 B42 B43 ) fun w388 k389 => ?_))
      have B395 := B31.all k389 id
      have K396 := K46.tr k389
      refine wl_v (.bool false) rfl rfl (y_neqI rfl rfl rfl (decide_eq_false d56) rr) (wl_v (.bool false) rfl rfl (y_mov rfl rfl rr) (wl_vw (iv p) 3 false 18 rfl rfl rfl rfl rfl (y_mov rfl s49 rr) (wl_vw (.bool false) 3 false 18 rfl rfl rfl rfl rfl (y_lss rfl rfl rfl (decide_eq_false d90) rr) (wl_v (.bool false) rfl rfl (y_pickF rfl rfl rfl rr) (wl_v (.bool false) rfl rfl (y_mov rfl rfl rr) (wl_vw (iv p) 7 false 22 rfl rfl rfl rfl rfl (y_mov rfl s49 rr) (wl_vw (.bool false) 7 false 22 rfl rfl rfl rfl rfl (y_geq rfl rfl rfl (decide_eq_false d124) rr) (wl_v (.bool false) rfl rfl (y_pickF rfl rfl rfl rr) (wl_v (.bool false) rfl rfl (y_mov rfl rfl rr) (wl_vw (iv x) 11 false 26 rfl rfl rfl rfl rfl (y_mov rfl s50 rr) (wl_callw (R := fun v_ w_ => v_ = .bool true ∧ Kept (fun _ => False) w388 w_) 11 false 26 rfl rfl rfl rfl rfl (y_cs rfl rfl rfl (fun _ _ => by kernel_rfl) (ev_func _) (vsC rfl vsN) (mo_mayPlace x  _   ) (fun e_ w_ h_ => ⟨_, h_.1, (congrArg Value.bool (decide_eq_true d158)), h_.2⟩)) ?_)))))))))))
      rintro _ w397 ⟨rfl, k398⟩
      have B404 := B395.all k398 id
      have K405 := K396.tr k398
      refine wl_vw (.bool false) 11 false 26 rfl rfl rfl rfl rfl (y_not rfl rfl rfl rr) (wl_v (.bool false) rfl rfl (y_pickF rfl rfl rfl rr) (wl_v (.bool false) rfl rfl (y_mov rfl rfl rr) (wl_vw (iv y) 16 false 31 rfl rfl rfl rfl rfl (y_mov rfl s51 rr) (wl_callw (R := fun v_ w_ => v_ = .bool false ∧ Kept (fun _ => False) w397 w_) 16 false 31 rfl rfl rfl rfl rfl (y_cs rfl rfl rfl (fun _ _ => by kernel_rfl) (ev_func _) (vsC rfl vsN) (mo_mayPlace y  _   ) (fun e_ w_ h_ => ⟨_, h_.1, (congrArg Value.bool (decide_eq_false d159)), h_.2⟩)) ?_))))
      rintro _ w406 ⟨rfl, k407⟩
      have B413 := B404.all k407 id
      have K414 := K405.tr k407
      refine wl_vw (.bool true) 16 false 31 rfl rfl rfl rfl rfl (y_not rfl rfl rfl rr) (wl_v (.bool true) rfl rfl (y_pickF rfl rfl rfl rr) (wl_nil fun F415 hF416 => ?_))
      obtain ⟨s420, s423⟩ := t2 hF416 69 s52 10 s55
      have s424 : F415 35 = .bool true := (hF416 35).trans rfl
      clear hF416
      refine then_normal ?_
      refine wq_cond (t := true) s424 (fun _ => ?_) (fun e => by cases e)
      refine wq_seq ?_
      have hno : ¬ placeF f p x y := by rintro ⟨h1, h2, h3, h4, h5, h6, h7⟩; first | exact absurd ((checkE_iff f).2 h1) (by assumption) | omega
      refine wq_region (wl_v (blkV (fun _ => 0)) rfl rfl (y_buildR (cells := (arrL 16 (fun _ => 0)).toArray) rfl (by kernel_rfl) rfl rr) (wl_store_blk blkT_block rfl rfl rfl s423 rfl B413 fun w425 B426 k427 => ?_))
      have K433 := K414.trans k427 (Grew.ok (S := fun _ => False) gr35 noB_le)
      refine wl_v (iv 70) rfl rfl (y_asg rfl rfl rr) (wl_nil fun F434 hF435 => ?_)
      obtain ⟨s436, s437⟩ := t2 hF435 69 s420 10 s423
      have s438 : F434 11 = iv 70 := (hF435 11).trans rfl
      clear hF435
      refine then_normal (wq_ret (then_ret ?_))
      exact end_2 s436 rfl (res_blk blkT_block rfl s437 B426) (res_tmp (v := iv 70) rfl s438) ⟨(by first | rw [(mv_no hno).1, (mv_no hno).2] | rw [(mv_none hpl hvn).1, (mv_none hpl hvn).2, vecE_no hvn] | rw [(mv_yes hpl hv).1, (mv_yes hpl hv).2]), K433⟩
    ·skip
     refine wq_region (wl_v (.agg #[iv (f.W), iv (f.H), f0, f1, f2]) rfl rfl (y_load_stc stcT_frame rfl s53 B44 rr) (wl_cs rfl rfl rfl rfl rfl (fun _ _ => by kernel_rfl) (vsC rfl vsN) (pl_check f f0 f1 f2 T_f0 T_f1 T_f2 _  B41 B42 B43 ) fun w439 k440 => ?_))
     have B446 := B31.all k440 id
     have K447 := K46.tr k440
     refine wl_v (.bool false) rfl rfl (y_neqI rfl rfl rfl (decide_eq_false d56) rr) (wl_v (.bool false) rfl rfl (y_mov rfl rfl rr) (wl_vw (iv p) 3 false 18 rfl rfl rfl rfl rfl (y_mov rfl s49 rr) (wl_vw (.bool false) 3 false 18 rfl rfl rfl rfl rfl (y_lss rfl rfl rfl (decide_eq_false d90) rr) (wl_v (.bool false) rfl rfl (y_pickF rfl rfl rfl rr) (wl_v (.bool false) rfl rfl (y_mov rfl rfl rr) (wl_vw (iv p) 7 false 22 rfl rfl rfl rfl rfl (y_mov rfl s49 rr) (wl_vw (.bool false) 7 false 22 rfl rfl rfl rfl rfl (y_geq rfl rfl rfl (decide_eq_false d124) rr) (wl_v (.bool false) rfl rfl (y_pickF rfl rfl rfl rr) (wl_v (.bool false) rfl rfl (y_mov rfl rfl rr) (wl_vw (iv x) 11 false 26 rfl rfl rfl rfl rfl (y_mov rfl s50 rr) (wl_callw (R := fun v_ w_ => v_ = .bool false ∧ Kept (fun _ => False) w439 w_) 11 false 26 rfl rfl rfl rfl rfl (y_cs rfl rfl rfl (fun _ _ => by kernel_rfl) (ev_func _) (vsC rfl vsN) (mo_mayPlace x  _   ) (fun e_ w_ h_ => ⟨_, h_.1, (congrArg Value.bool (decide_eq_false d158)), h_.2⟩)) ?_)))))))))))
     rintro _ w448 ⟨rfl, k449⟩
     have B455 := B446.all k449 id
     have K456 := K447.tr k449
     refine wl_vw (.bool true) 11 false 26 rfl rfl rfl rfl rfl (y_not rfl rfl rfl rr) (wl_v (.bool true) rfl rfl (y_pickF rfl rfl rfl rr) (wl_v (.bool true) rfl rfl (y_mov rfl rfl rr) (wl_unless 16 false 31 rfl rfl rfl (Or.inl rfl) rfl (wl_unless 16 false 31 rfl rfl rfl (Or.inl rfl) rfl (wl_unless 16 false 31 rfl rfl rfl (Or.inl rfl) rfl (wl_v (.bool true) rfl rfl (y_pickT rfl rfl rfl rr) (wl_nil fun F457 hF458 => ?_)))))))
     obtain ⟨s462, s465⟩ := t2 hF458 69 s52 10 s55
     have s466 : F457 35 = .bool true := (hF458 35).trans rfl
     clear hF458
     refine then_normal ?_
     refine wq_cond (t := true) s466 (fun _ => ?_) (fun e => by cases e)
     refine wq_seq ?_
     have hno : ¬ placeF f p x y := by rintro ⟨h1, h2, h3, h4, h5, h6, h7⟩; first | exact absurd ((checkE_iff f).2 h1) (by assumption) | omega
     refine wq_region (wl_v (blkV (fun _ => 0)) rfl rfl (y_buildR (cells := (arrL 16 (fun _ => 0)).toArray) rfl (by kernel_rfl) rfl rr) (wl_store_blk blkT_block rfl rfl rfl s465 rfl B455 fun w467 B468 k469 => ?_))
     have K475 := K456.trans k469 (Grew.ok (S := fun _ => False) gr35 noB_le)
     refine wl_v (iv 70) rfl rfl (y_asg rfl rfl rr) (wl_nil fun F476 hF477 => ?_)
     obtain ⟨s478, s479⟩ := t2 hF477 69 s462 10 s465
     have s480 : F476 11 = iv 70 := (hF477 11).trans rfl
     clear hF477
     refine then_normal (wq_ret (then_ret ?_))
     exact end_2 s478 rfl (res_blk blkT_block rfl s479 B468) (res_tmp (v := iv 70) rfl s480) ⟨(by first | rw [(mv_no hno).1, (mv_no hno).2] | rw [(mv_none hpl hvn).1, (mv_none hpl hvn).2, vecE_no hvn] | rw [(mv_yes hpl hv).1, (mv_yes hpl hv).2]), K475⟩
end Go.Proofs.YtknjpdcpmpfklaaGreatDoor
set_option maxRecDepth 100000
namespace Go.Proofs.YtknjpdcpmpfklaaGreatDoor
open Go.RowKit
structure Ch where
  m : Int
  px : Int
  py : Int
  nx : Int
  ny : Int
  b : Nat → Int
def chV (c : Ch) : List Value := .int .i64 c.m :: .int .i64 c.px :: .int .i64 c.py :: .int .i64 c.nx :: .int .i64 c.ny :: arrL 16 c.b
abbrev chL (m px py nx ny : Int) (b : Nat → Int) : List Value := [.int .i64 m, .int .i64 px, .int .i64 py, .int .i64 nx, .int .i64 ny, .int .i64 (b 0), .int .i64 (b 1), .int .i64 (b 2), .int .i64 (b 3), .int .i64 (b 4), .int .i64 (b 5), .int .i64 (b 6), .int .i64 (b 7), .int .i64 (b 8), .int .i64 (b 9), .int .i64 (b 10), .int .i64 (b 11), .int .i64 (b 12), .int .i64 (b 13), .int .i64 (b 14), .int .i64 (b 15)]
abbrev chW (c : Ch) : List Value := chL c.m c.px c.py c.nx c.ny c.b
theorem one_arrL (n : Nat) (b : Nat → Int) : OneAll (arrL n b) := fun v h => by
  obtain ⟨i, _, rfl⟩ := List.mem_map.1 h; rfl
theorem one_ch (c : Ch) : OneAll (chV c) := oneI rfl (oneI rfl (oneI rfl (oneI rfl (oneI rfl (one_arrL 16 c.b)))))
theorem stcT_choice : StcT Tryz.prog 71 21 := ⟨_, Tryz.underlying71, rfl, by kernel_rfl⟩
theorem stcT_block : StcT Tryz.prog 69 16 := ⟨_, Tryz.underlying69, rfl, by kernel_rfl⟩
section
variable {P : Program} {ρ : Operand → Value} {o : Oper} {w : World} {R : Value → World → Prop}
theorem y_ldPart {ty t : TypeId} {x : Operand} {p k n : Nat} {vs us : List Value} (hT : StcT P ty n) (ho : o.op = .load ty x) (hx : ρ x = .pointer (some ⟨p, k, none⟩)) (hB : Stc w p t vs) (hkn : k + n ≤ vs.length) (hu : (vs.drop k).take n = us) (h : R (.agg us.toArray) w) : Yields P ρ o w R := by
  subst hu
  obtain ⟨d, hu, hd, hs⟩ := hT
  have hlen : ((vs.drop k).take n).length = n := by rw [List.length_take, List.length_drop]; omega
  have e := run_loadVar_mid (P := P) w p k ty ((vs.drop k).take n) d (fun q u hq => by
    have hqn : q < n := by have := (List.getElem?_eq_some_iff.1 hq).1; omega
    exact hB.cell (by rwa [List.getElem?_take, if_pos hqn, List.getElem?_drop] at hq)) hu hd (by rw [hlen]; exact hs)
  exact y_val (v := .agg ((vs.drop k).take n).toArray) (w' := w) (by simp only [execOp, ho, hx, Instr.loadAt, Instr.sureAddr, Sem.run_bind, Sem.run_pure, Result.andThen_ok, e]) h
theorem y_setPart {ty t : TypeId} {x y : Operand} {p k : Nat} {vs us ns : List Value} (hT : StcT P ty us.length) (ho : o.op = .store ty x y) (hx : ρ x = .pointer (some ⟨p, k, none⟩)) (hy : ρ y = .agg us.toArray) (hB : Stc w p t vs) (hk : k + us.length ≤ vs.length) (h1 : OneAll us) (hn : vs.take k ++ us ++ vs.drop (k + us.length) = ns)
    (h : ∀ w', Stc w' p t ns → Kept (fun k => k = p) w w' → R undef w') : Yields P ρ o w R := by
  subst hn
  obtain ⟨d, _, _, hs⟩ := hT
  have hst := run_storeCells_at P p k t us 0 vs.toArray w hB (by simpa using hk) h1
  simp only [Nat.add_zero] at hst
  cases hq : P.info? ty with
  | none => rw [hq] at hs; cases hs
  | some i =>
    have hs' : i.size = us.length := by simpa [hq] using hs
    have hsv : (storeVar ty ⟨p, k, none⟩ (.agg us.toArray)).run P w = .ok () (w.setRow p (vs.take k ++ us ++ vs.drop (k + us.length)).toArray) := by
      simp [storeVar, sizeOf, typeInfo, hq, hs', Value.cells, hst]
    have e : (execOp ρ o).run P w = .ok .skip (w.setRow p (vs.take k ++ us ++ vs.drop (k + us.length)).toArray) := by
      simp only [execOp, ho, hx, hy, Instr.storeAt, Instr.sureAddr, Sem.run_bind, Sem.run_pure, Result.andThen_ok, hsv]
    unfold Yields
    rw [e]
    exact h _ (setRow_heap _ _ _ _ _ _ hB) ((Kept.refl (fun k => k = p) w).setRow p (fun _ => rfl) _)
end
section
variable {ro : Option Nat} {P : Program} {N : Nat} {Q : (Exit → (Nat → Value) → World → Prop)} {F : Nat → Value} {w : World} {o : Oper}
theorem wl_setPart {ops : Array Oper} {rest : List Oper} {ty t : TypeId} {x y : Operand} {p k : Nat} {vs us ns : List Value} (hT : StcT P ty us.length) (hg : o.guard = none) (hdn : o.dst = none) (ho : o.op = .store ty x y) (hx : ev (cutF N F) x = .pointer (some ⟨p, k, none⟩)) (hy : ev (cutF N F) y = .agg us.toArray) (hB : Stc w p t vs) (hk : k + us.length ≤ vs.length) (h1 : OneAll us) (hn : vs.take k ++ us ++ vs.drop (k + us.length) = ns)
    (h : ∀ w', Stc w' p t ns → Kept (fun k => k = p) w w' → wl ro P N ops Q rest F w') : wl ro P N ops Q (o :: rest) F w := by
  refine wl_op hg (by rw [hdn]; rfl) (y_setPart hT ho hx hy hB hk h1 hn fun w' hw hk => ?_)
  rw [hdn]
  exact h w' hw hk
end
end Go.Proofs.YtknjpdcpmpfklaaGreatDoor
set_option maxRecDepth 100000
namespace Go.Proofs.YtknjpdcpmpfklaaGreatDoor
def pastB (m : Int) : Bool := decide (m = 4) || decide (m = 6)
def nextB (m : Int) : Bool := decide (m = 5) || decide (m = 6)
def mostK (k : Int) : Int := if k = 0 then 3 else if k = 1 then 4 else if k = 2 then 6 else -1
def farCh (b : Nat → Int) : Nat → Bool
  | 0 => false
  | i + 1 => farCh b i || decide (b i < -1048576 ∨ 1048576 < b i)
def badM (k : Int) (c : Ch) : Prop := c.m < 0 ∨ mostK k < c.m ∨ (pastB c.m = false ∧ sameVec c.px c.py 0 0 = false) ∨ (nextB c.m = false ∧ sameVec c.nx c.ny 0 0 = false)
instance (k : Int) (c : Ch) : Decidable (badM k c) := by unfold badM; infer_instance
def chE (k : Int) (c : Ch) : Int := if badM k c then 120 else if farCh c.b 16 = true then 120 else if vecOk c.px c.py ∧ vecOk c.nx c.ny then 0 else 90
theorem chE_vec {k : Int} {c : Ch} (h : ¬ badM k c) (hf : farCh c.b 16 = false) : chE k c = if vecOk c.px c.py ∧ vecOk c.nx c.ny then 0 else 90 := by unfold chE; rw [if_neg h, if_neg (by rw [hf]; exact Bool.false_ne_true)]
def pastBits (c : Ch) (gx gy : Int) : List Bool := if pastB c.m = true then vecBits c.px c.py gx gy else []
def nextBits (c : Ch) (gx gy : Int) : List Bool := if nextB c.m = true then vecBits c.nx c.ny gx gy else []
def chBits (c : Ch) (ax ay bx yy : Int) : List Bool := wholeBits c.m ++ pastBits c ax ay ++ nextBits c bx yy ++ scanBits c.b
def ch0 : Ch := ⟨0, 0, 0, 0, 0, fun _ => 0⟩
def stV (has : Bool) (l : List Nat) (gx gy : Int) (s : Option Nat) : Int × Int × Int × Option Nat := if has = true then (vrX l gx gy s, vrY l gx gy s, vrE l gx gy s, vrS l s) else (0, 0, 0, s)
def rd4 (l : List Nat) (m : Int) (p n : Int × Int × Int × Option Nat) : Ch × Int × Option Nat :=
  if (scanRd l n.2.2.2).2.1 = 0 then (⟨m, p.1, p.2.1, n.1, n.2.1, (scanRd l n.2.2.2).1⟩, 0, (scanRd l n.2.2.2).2.2) else (ch0, (scanRd l n.2.2.2).2.1, (scanRd l n.2.2.2).2.2)
def rd3 (l : List Nat) (m : Int) (p n : Int × Int × Int × Option Nat) : Ch × Int × Option Nat := if n.2.2.1 = 0 then rd4 l m p n else (ch0, n.2.2.1, n.2.2.2)
def rd2 (l : List Nat) (m : Int) (bx yy : Int) (p : Int × Int × Int × Option Nat) : Ch × Int × Option Nat := if p.2.2.1 = 0 then rd3 l m p (stV (nextB m) l bx yy p.2.2.2) else (ch0, p.2.2.1, p.2.2.2)
def rd1 (l : List Nat) (ax ay bx yy : Int) (m : Int × Option Nat) : Ch × Int × Option Nat := if m.2.isNone = true then (ch0, 120, m.2) else rd2 l m.1 bx yy (stV (pastB m.1) l ax ay m.2)
def rdCh (l : List Nat) (k ax ay bx yy : Int) (st : Option Nat) : Ch × Int × Option Nat := rd1 l ax ay bx yy (rdStep (wholeRd l (mostK k)) st)
theorem stV_yes {has : Bool} {l : List Nat} {gx gy : Int} {s : Option Nat} (h : has = true) : stV has l gx gy s = (vrX l gx gy s, vrY l gx gy s, vrE l gx gy s, vrS l s) := if_pos h
theorem stV_no {has : Bool} {l : List Nat} {gx gy : Int} {s : Option Nat} (h : has = false) : stV has l gx gy s = (0, 0, 0, s) := if_neg (by rw [h]; exact Bool.false_ne_true)
end Go.Proofs.YtknjpdcpmpfklaaGreatDoor
set_option maxRecDepth 100000
namespace Go.Proofs.YtknjpdcpmpfklaaGreatDoor
open Go.RowKit
def sameI (xs ys : List Int) : Bool := decide (xs = ys)
theorem sameI_self (xs : List Int) : sameI xs xs = true := decide_eq_true rfl
theorem sameI_eq {xs ys : List Int} (h : sameI xs ys = true) : xs = ys := of_decide_eq_true h
end Go.Proofs.YtknjpdcpmpfklaaGreatDoor
set_option maxRecDepth 100000
namespace Go.Proofs.YtknjpdcpmpfklaaGreatDoor
open Go.RowKit
def sameCh (c d : Ch) : Bool := decide (c.m = d.m) && (sameI [c.px, c.py] [d.px, d.py] && (sameI [c.nx, c.ny] [d.nx, d.ny] && sameB c.b d.b))
end Go.Proofs.YtknjpdcpmpfklaaGreatDoor
set_option maxRecDepth 100000
namespace Go.Proofs.YtknjpdcpmpfklaaGreatDoor
def cpB (f p n : FD) (k x y : Int) (c : Ch) : Nat → Int :=
  if c.m < 0 ∨ 6 < c.m then fun _ => 0 else if c.m < 4 then predB f k x y c.m else if c.m = 5 then mvB n k x y c.nx c.ny
  else if mvE p k x y c.px c.py ≠ 0 ∨ c.m = 4 then mvB p k x y c.px c.py else if mvE n k x y c.nx c.ny ≠ 0 then fun _ => 0 else bothB (mvB p k x y c.px c.py) (mvB n k x y c.nx c.ny)
def cpE (f p n : FD) (k x y : Int) (c : Ch) : Int :=
  if c.m < 0 ∨ 6 < c.m then 120 else if c.m < 4 then predE f k x y c.m else if c.m = 5 then mvE n k x y c.nx c.ny
  else if mvE p k x y c.px c.py ≠ 0 ∨ c.m = 4 then mvE p k x y c.px c.py else if mvE n k x y c.nx c.ny ≠ 0 then mvE n k x y c.nx c.ny else 0
section
variable {f p n : FD} {k x y : Int} {c : Ch}
theorem mv_err {f : FD} {p x y X Y : Int} (h : mvE f p x y X Y ≠ 0) : mvB f p x y X Y = fun _ => 0 := by
  by_cases hp : placeF f p x y
  · by_cases hv : vecOk X Y
    · exact absurd (mv_yes hp hv).1 h
    · exact (mv_none hp hv).2
  · exact (mv_no hp).2
theorem cp_bad (h : c.m < 0 ∨ 6 < c.m) : cpB f p n k x y c = (fun _ => 0) ∧ cpE f p n k x y c = 120 := ⟨if_pos h, if_pos h⟩
theorem cp_own (h : 0 ≤ c.m ∧ c.m < 4) : cpB f p n k x y c = predB f k x y c.m ∧ cpE f p n k x y c = predE f k x y c.m := by
  have n1 : ¬ (c.m < 0 ∨ 6 < c.m) := by omega
  exact ⟨(if_neg n1).trans (if_pos h.2), (if_neg n1).trans (if_pos h.2)⟩
theorem cp_next (h : c.m = 5) : cpB f p n k x y c = mvB n k x y c.nx c.ny ∧ cpE f p n k x y c = mvE n k x y c.nx c.ny := by
  have n1 : ¬ (c.m < 0 ∨ 6 < c.m) := by omega
  have n2 : ¬ c.m < 4 := by omega
  exact ⟨(if_neg n1).trans ((if_neg n2).trans (if_pos h)), (if_neg n1).trans ((if_neg n2).trans (if_pos h))⟩
theorem cp_past (h : c.m = 4) : cpB f p n k x y c = mvB p k x y c.px c.py ∧ cpE f p n k x y c = mvE p k x y c.px c.py := by
  have n1 : ¬ (c.m < 0 ∨ 6 < c.m) := by omega
  have n2 : ¬ c.m < 4 := by omega
  have n3 : ¬ c.m = 5 := by omega
  exact ⟨(if_neg n1).trans ((if_neg n2).trans ((if_neg n3).trans (if_pos (Or.inr h)))), (if_neg n1).trans ((if_neg n2).trans ((if_neg n3).trans (if_pos (Or.inr h))))⟩
theorem cp_both1 (h : c.m = 6) (e : mvE p k x y c.px c.py ≠ 0) : cpB f p n k x y c = mvB p k x y c.px c.py ∧ cpE f p n k x y c = mvE p k x y c.px c.py := by
  have n1 : ¬ (c.m < 0 ∨ 6 < c.m) := by omega
  have n2 : ¬ c.m < 4 := by omega
  have n3 : ¬ c.m = 5 := by omega
  exact ⟨(if_neg n1).trans ((if_neg n2).trans ((if_neg n3).trans (if_pos (Or.inl e)))), (if_neg n1).trans ((if_neg n2).trans ((if_neg n3).trans (if_pos (Or.inl e))))⟩
theorem cp_both2 (h : c.m = 6) (e : mvE p k x y c.px c.py = 0) (e2 : mvE n k x y c.nx c.ny ≠ 0) : cpB f p n k x y c = (fun _ => 0) ∧ cpE f p n k x y c = mvE n k x y c.nx c.ny := by
  have n1 : ¬ (c.m < 0 ∨ 6 < c.m) := by omega
  have n2 : ¬ c.m < 4 := by omega
  have n3 : ¬ c.m = 5 := by omega
  have n4 : ¬ (mvE p k x y c.px c.py ≠ 0 ∨ c.m = 4) := fun z => z.elim (fun z => z e) (fun z => by omega)
  exact ⟨(if_neg n1).trans ((if_neg n2).trans ((if_neg n3).trans ((if_neg n4).trans (if_pos e2)))), (if_neg n1).trans ((if_neg n2).trans ((if_neg n3).trans ((if_neg n4).trans (if_pos e2))))⟩
theorem cp_both (h : c.m = 6) (e : mvE p k x y c.px c.py = 0) (e2 : mvE n k x y c.nx c.ny = 0) : cpB f p n k x y c = bothB (mvB p k x y c.px c.py) (mvB n k x y c.nx c.ny) ∧ cpE f p n k x y c = 0 := by
  have n1 : ¬ (c.m < 0 ∨ 6 < c.m) := by omega
  have n2 : ¬ c.m < 4 := by omega
  have n3 : ¬ c.m = 5 := by omega
  have n4 : ¬ (mvE p k x y c.px c.py ≠ 0 ∨ c.m = 4) := fun z => z.elim (fun z => z e) (fun z => by omega)
  exact ⟨(if_neg n1).trans ((if_neg n2).trans ((if_neg n3).trans ((if_neg n4).trans (if_neg (fun z => z e2))))), (if_neg n1).trans ((if_neg n2).trans ((if_neg n3).trans ((if_neg n4).trans (if_neg (fun z => z e2)))))⟩
theorem cp_pastE (h : c.m = 4 ∨ c.m = 6) (e : mvE p k x y c.px c.py ≠ 0) : cpB f p n k x y c = (fun _ => 0) ∧ cpE f p n k x y c = mvE p k x y c.px c.py := by
  rcases h with h | h
  · exact ⟨(cp_past h).1.trans (mv_err e), (cp_past h).2⟩
  · exact ⟨(cp_both1 h e).1.trans (mv_err e), (cp_both1 h e).2⟩
theorem cp_nextE (h : c.m = 5) (e : mvE n k x y c.nx c.ny ≠ 0) : cpB f p n k x y c = (fun _ => 0) ∧ cpE f p n k x y c = mvE n k x y c.nx c.ny :=
  ⟨(cp_next h).1.trans (mv_err e), (cp_next h).2⟩
end
theorem past_t {m : Int} (h : pastB m = true) : m = 4 ∨ m = 6 := by unfold pastB at h; simpa using h
theorem past_f {m : Int} (h : pastB m = false) : m ≠ 4 ∧ m ≠ 6 := by unfold pastB at h; simpa using h
theorem next_t {m : Int} (h : nextB m = true) : m = 5 ∨ m = 6 := by unfold nextB at h; simpa using h
theorem next_f {m : Int} (h : nextB m = false) : m ≠ 5 ∧ m ≠ 6 := by unfold nextB at h; simpa using h
def c8M (a : Nat → Int) : Nat → Int := fun i => min (max (a i) 0) 255
def buB (b : Nat → Int) (l : Nat → Int) (q : Int) : Nat → Int := if ern q = 0 then c8M (moreB b (backB (upB l q))) else fun _ => 0
theorem bu_yes {b l : Nat → Int} {q : Int} (h : ern q = 0) : buB b l q = c8M (moreB b (backB (upB l q))) := if_pos h
theorem bu_no {b l : Nat → Int} {q : Int} (h : ern q ≠ 0) : buB b l q = fun _ => 0 := if_neg h
structure ChOk (k : Int) (c : Ch) : Prop where
  m : 0 ≤ c.m ∧ c.m ≤ mostK k
  past : pastB c.m = false → c.px = 0 ∧ c.py = 0
  next : nextB c.m = false → c.nx = 0 ∧ c.ny = 0
  far : ∀ i, i < 16 → -1048576 ≤ c.b i ∧ c.b i ≤ 1048576
  p : vecOk c.px c.py
  n : vecOk c.nx c.ny
theorem sameVec_eq {a b c d : Int} (h : sameVec a b c d = true) : a = c ∧ b = d := by unfold sameVec at h; simpa using h
theorem far_no {b : Nat → Int} : ∀ n, farCh b n = false → ∀ i, i < n → -1048576 ≤ b i ∧ b i ≤ 1048576 := by
  intro n
  induction n with
  | zero => intro _ i hi; omega
  | succ n ih =>
    intro h i hi
    unfold farCh at h
    obtain ⟨h1, h2⟩ := Bool.or_eq_false_iff.1 h
    by_cases e : i = n
    · subst e; have := of_decide_eq_false h2; omega
    · exact ih h1 i (by omega)
theorem far_all {b : Nat → Int} : ∀ n, (∀ i, i < n → -1048576 ≤ b i ∧ b i ≤ 1048576) → farCh b n = false := by
  intro n
  induction n with
  | zero => intro _; rfl
  | succ n ih =>
    intro h
    unfold farCh
    rw [ih fun i hi => h i (by omega), decide_eq_false (by have := h n (by omega); omega)]; rfl
theorem ch_ok {k : Int} {c : Ch} (h : chE k c = 0) : ChOk k c := by
  unfold chE at h
  split at h
  · cases h
  · rename_i hb
    split at h
    · cases h
    · rename_i hf
      split at h
      · rename_i hv
        have hf' : farCh c.b 16 = false := by simpa using hf
        refine ⟨?_, fun z => ?_, fun z => ?_, far_no 16 hf', hv.1, hv.2⟩
        · unfold badM at hb; omega
        · have : ¬ (sameVec c.px c.py 0 0 = false) := fun e => hb (Or.inr (Or.inr (Or.inl ⟨z, e⟩)))
          exact sameVec_eq (by simpa using this)
        · have : ¬ (sameVec c.nx c.ny 0 0 = false) := fun e => hb (Or.inr (Or.inr (Or.inr ⟨z, e⟩)))
          exact sameVec_eq (by simpa using this)
      · cases h
theorem ch_of {k : Int} {c : Ch} (h : ChOk k c) : chE k c = 0 := by
  have h1 : ¬ badM k c := by
    unfold badM
    rintro (z | z | ⟨z, e⟩ | ⟨z, e⟩)
    · have := h.m; omega
    · have := h.m; omega
    · obtain ⟨a, b⟩ := h.past z; rw [a, b] at e; exact absurd e (by decide)
    · obtain ⟨a, b⟩ := h.next z; rw [a, b] at e; exact absurd e (by decide)
  rw [chE_vec h1 (far_all 16 h.far), if_pos ⟨h.p, h.n⟩]
theorem mostK_le (k : Int) : mostK k ≤ 6 := by unfold mostK; split; omega; split; omega; split <;> omega
theorem stV_back {has : Bool} {l : List Nat} {a : Nat} {X Y gx gy : Int} (hv : vecOk X Y) (h0 : has = false → X = 0 ∧ Y = 0) (hb : BitsAt l a (if has = true then vecBits X Y gx gy else [])) :
    stV has l gx gy (some a) = (X, Y, 0, some (a + (if has = true then vecBits X Y gx gy else []).length)) := by
  cases has with
  | true =>
    rw [if_pos rfl] at hb
    obtain ⟨h1, h2, h3, h4⟩ := vr_back l a X Y gx gy hv hb
    rw [stV_yes rfl, h1, h2, h3, h4, if_pos rfl]
  | false =>
    obtain ⟨rfl, rfl⟩ := h0 rfl
    rw [stV_no rfl, if_neg Bool.false_ne_true]; rfl
theorem ch_back {l : List Nat} {a : Nat} {k : Int} {c : Ch} {ax ay bx yy : Int} (hk : chE k c = 0) (hb : BitsAt l a (chBits c ax ay bx yy)) :
    ∃ d, rdCh l k ax ay bx yy (some a) = (d, 0, some (a + (chBits c ax ay bx yy).length)) ∧ sameCh d c = true := by
  have ho := ch_ok hk
  have hmk := mostK_le k
  unfold chBits at hb
  have hw := wholeRd_bits l a c.m (mostK k) ho.m.1 (by have := ho.m; omega) ho.m.2 hb.left.left.left
  have hp := stV_back (has := pastB c.m) ho.p ho.past (show BitsAt l (a + (wholeBits c.m).length) (pastBits c ax ay) from hb.left.left.right)
  have hn := stV_back (has := nextB c.m) ho.n ho.next (show BitsAt l (a + (wholeBits c.m ++ pastBits c ax ay).length) (nextBits c bx yy) from hb.left.right)
  obtain ⟨d, hs, hd⟩ := scan_back l _ c.b hb.right
  refine ⟨⟨c.m, c.px, c.py, c.nx, c.ny, d⟩, ?_, ?_⟩
  · have e1 : rdStep (wholeRd l (mostK k)) (some a) = (c.m, some (a + (wholeBits c.m).length)) := by simp only [rdStep, hw]
    unfold rdCh; rw [e1]; unfold rd1; rw [if_neg (by simp)]
    show rd2 l c.m bx yy (stV (pastB c.m) l ax ay (some (a + (wholeBits c.m).length))) = _
    rw [hp]
    unfold rd2; rw [if_pos rfl]
    rw [show a + (wholeBits c.m).length + (if pastB c.m = true then vecBits c.px c.py ax ay else []).length = a + (wholeBits c.m ++ pastBits c ax ay).length from by rw [List.length_append]; unfold pastBits; omega, hn]
    unfold rd3; rw [if_pos rfl]
    rw [show a + (wholeBits c.m ++ pastBits c ax ay).length + (if nextB c.m = true then vecBits c.nx c.ny bx yy else []).length = a + (wholeBits c.m ++ pastBits c ax ay ++ nextBits c bx yy).length from by rw [List.length_append (bs := nextBits c bx yy)]; unfold nextBits; omega]
    unfold rd4; simp only; rw [hs]; simp only [if_true]
    rw [show a + (wholeBits c.m ++ pastBits c ax ay ++ nextBits c bx yy).length + (scanBits c.b).length = a + (chBits c ax ay bx yy).length from by unfold chBits; rw [List.length_append (bs := scanBits c.b)]; omega]
  · unfold sameCh
    rw [sameI_self, sameI_self, decide_eq_true rfl, sameB_true (fun i hi => (hd i hi).trans (cl_id _ _ (ho.far i hi).1 (ho.far i hi).2))]; rfl
def rdChT (l : List Nat) (k ax ay bx yy : Int) (st : Option Nat) : Option Nat := if (rdCh l k ax ay bx yy st).2.1 = 0 then (rdCh l k ax ay bx yy st).2.2 else st
theorem rdStep_at (l : List Nat) (n : Int) (a : Nat) : rdStep (wholeRd l n) (some a) = match wholeAt l a with
    | some (v, a') => if n < v then (0, none) else (v, some a')
    | none => (0, none) := by
  cases hq : wholeAt l a with
  | none => simp [rdStep, wholeRd, hq]
  | some x =>
    obtain ⟨v, a'⟩ := x
    by_cases h : n < v
    · simp [rdStep, wholeRd, hq, h]
    · simp [rdStep, wholeRd, hq, h]
theorem rdStep_most {l : List Nat} {m n : Int} (h : m ≤ n) (st : Option Nat) :
    rdStep (wholeRd l m) st = if (rdStep (wholeRd l n) st).2.isNone = true ∨ m < (rdStep (wholeRd l n) st).1 then (0, none) else rdStep (wholeRd l n) st := by
  cases st with
  | none => rfl
  | some a =>
    rw [rdStep_at l m a, rdStep_at l n a]
    cases wholeAt l a with
    | none => rfl
    | some x =>
      obtain ⟨v, a'⟩ := x
      simp only
      by_cases h1 : n < v
      · rw [if_pos h1, if_pos (show m < v by omega)]; exact (if_pos (Or.inl rfl)).symm
      · rw [if_neg h1]
        by_cases h2 : m < v
        · rw [if_pos h2, if_pos (Or.inr h2)]
        · rw [if_neg h2, if_neg (by rintro (z | z); cases z; exact h2 z)]
end Go.Proofs.YtknjpdcpmpfklaaGreatDoor
set_option maxRecDepth 100000
namespace Go.Proofs.YtknjpdcpmpfklaaGreatDoor
open Go.RowKit
def Rdi.ty (e : TypeId) : Prop := e = 106 ∨ e = 5
def Rfi.ty (e : TypeId) : Prop := e = 80
instance (e : TypeId) : Decidable (Rdi.ty e) := by unfold Rdi.ty; infer_instance
instance (e : TypeId) : Decidable (Rfi.ty e) := by unfold Rfi.ty; infer_instance
theorem Rdi.types {w : World} {T : Nat → Prop} {p : Nat} {l : List Nat} {st : Option Nat} (h : Rdi w T p l st) : ∀ x, T x → ∀ c e f, w.heap[x]? = some (.cells c e f) → Rdi.ty e := by
  obtain ⟨_, g, rfl, h⟩ := h
  have hr : ∃ a b, RdAt w p g l a b := by
    cases st with
    | none => obtain ⟨a, h⟩ := h; exact ⟨a, _, h⟩
    | some a => exact ⟨a, _, h.2⟩
  obtain ⟨a, b, h1, h2, _⟩ := hr
  intro x hx c e f hc
  rcases hx with rfl | rfl
  · rw [h1] at hc; cases hc; exact .inl rfl
  · rw [h2] at hc; cases hc; exact .inr rfl
theorem Rfi.types {w : World} {T : Nat → Prop} {p : Nat} {l : List Nat} {st : Option Nat} (h : Rfi w T p l st) : ∀ x, T x → ∀ c e f, w.heap[x]? = some (.cells c e f) → Rfi.ty e := by
  obtain ⟨_, _, rfl, h⟩ := h
  have hr : ∃ a b, RfAt w p l a b := by
    cases st with
    | none => obtain ⟨a, _, h⟩ := h; exact ⟨a, _, h⟩
    | some a => exact ⟨a, _, h.2⟩
  obtain ⟨a, b, h1⟩ := hr
  intro x hx c e f hc
  cases hx
  rw [h1] at hc; cases hc; rfl
theorem Rdi.at {w : World} {T : Nat → Prop} {p : Nat} {l : List Nat} {st : Option Nat} (h : Rdi w T p l st) (x : Nat) (hx : T x) : ∃ c e f, w.heap[x]? = some (.cells c e f) ∧ Rdi.ty e := by
  obtain ⟨_, g, rfl, h⟩ := h
  have hr : ∃ a b, RdAt w p g l a b := by
    cases st with
    | none => obtain ⟨a, h⟩ := h; exact ⟨a, _, h⟩
    | some a => exact ⟨a, _, h.2⟩
  obtain ⟨a, b, h1, h2, _⟩ := hr
  rcases hx with rfl | rfl
  · exact ⟨_, _, _, h1, .inl rfl⟩
  · exact ⟨_, _, _, h2, .inr rfl⟩
theorem Rfi.at {w : World} {T : Nat → Prop} {p : Nat} {l : List Nat} {st : Option Nat} (h : Rfi w T p l st) (x : Nat) (hx : T x) : ∃ c e f, w.heap[x]? = some (.cells c e f) ∧ Rfi.ty e := by
  obtain ⟨_, _, rfl, h⟩ := h
  have hr : ∃ a b, RfAt w p l a b := by
    cases st with
    | none => obtain ⟨a, _, h⟩ := h; exact ⟨a, _, h⟩
    | some a => exact ⟨a, _, h.2⟩
  obtain ⟨a, b, h1⟩ := hr
  cases hx
  exact ⟨_, _, _, h1, rfl⟩
theorem Stc.types {w : World} {p : Nat} {t : TypeId} {vs : List Value} (h : Stc w p t vs) : ∀ x, x = p → ∀ c e f, w.heap[x]? = some (.cells c e f) → e = t := by
  intro x hx c e f hc
  subst hx
  unfold Stc at h
  rw [h] at hc; cases hc; rfl
end Go.Proofs.YtknjpdcpmpfklaaGreatDoor
set_option maxRecDepth 100000
namespace Go.Proofs.YtknjpdcpmpfklaaGreatDoor
open Go.RowKit
structure RowT (α : Type) where
  t : TypeId
  e : TypeId
  k : Nat
  by_ : Nat
  enc : α → List Value
  d : α
  z : Value
class RowT.Ok {α : Type} (r : RowT α) : Prop where
  slice : Tryz.prog.underlying r.t = some (.slice r.e)
  info : (Tryz.prog.info? r.e).map (fun i => (i.zero, i.size, i.bytes)) = some (some r.z, r.k, r.by_)
  cells : r.z.cells.toList = r.enc r.d
  pos : 0 < r.k
  len : ∀ x, (r.enc x).length = r.k
  one : ∀ x, ∀ u ∈ r.enc x, u.oneCell' = true
  small : r.by_ ≤ 192
section
variable {α : Type} {r : RowT α}
theorem flat_len [h : r.Ok] (l : List α) : (l.flatMap r.enc).length = l.length * r.k := by
  induction l with
  | nil => simp
  | cons x l ih => rw [List.flatMap_cons, List.length_append, ih, h.len, List.length_cons, Nat.add_mul]; omega
theorem flat_at [h : r.Ok] (l : List α) (i j : Nat) (hi : i < l.length) (hj : j < r.k) : (l.flatMap r.enc)[i * r.k + j]? = (r.enc (l.getD i r.d))[j]? := by
  induction l generalizing i with
  | nil => simp at hi
  | cons x l ih =>
    rw [List.flatMap_cons]
    cases i with
    | zero => rw [Nat.zero_mul, Nat.zero_add, List.getElem?_append_left (by rw [h.len]; exact hj)]; rfl
    | succ i =>
      have hi' : i < l.length := by simpa using hi
      rw [List.getElem?_append_right (by rw [h.len, Nat.add_mul]; omega), h.len, show (i + 1) * r.k + j - r.k = i * r.k + j by rw [Nat.add_mul]; omega, ih i hi']
      rfl
theorem flat_one [h : r.Ok] (l : List α) : ∀ u ∈ l.flatMap r.enc, u.oneCell' = true := fun u hu => by
  obtain ⟨x, _, hx⟩ := List.mem_flatMap.1 hu
  exact h.one x u hx
def RoA (r : RowT α) (w : World) (T : Nat → Prop) (v : Value) (l : List α) : Prop :=
  ∃ a cap, v = .slice a l.length cap ∧ l.length ≤ cap ∧ cap ≤ maxLen ∧ (a = none → cap = 0) ∧ Live w T ∧
    (0 < l.length → ∃ b off, a = some ⟨b, off, none⟩ ∧ T b ∧ ∀ j u, (l.flatMap r.enc)[j]? = some u → w.cell? ⟨b, off + j, none⟩ = some u)
theorem RoA.nil (r : RowT α) (w : World) : RoA r w noB (.slice none 0 0) [] := ⟨none, 0, rfl, Nat.le_refl _, by unfold maxLen; omega, fun _ => rfl, fun _ h => h.elim, fun h => absurd h (by simp)⟩
theorem RoA.live {w : World} {T : Nat → Prop} {v : Value} {l : List α} (h : RoA r w T v l) : Live w T := by obtain ⟨_, _, _, _, _, _, h, _⟩ := h; exact h
theorem RoA.all {S : Nat → Prop} {w w' : World} {T : Nat → Prop} {v : Value} {l : List α} (h : RoA r w T v l) (k : Kept S w w') (ha : Apart T S) : RoA r w' T v l := by
  obtain ⟨a, cap, rfl, h1, h2, h3, hL, hc⟩ := h
  refine ⟨a, cap, rfl, h1, h2, h3, hL.mono k, fun hp => ?_⟩
  obtain ⟨b, off, rfl, hb, hcell⟩ := hc hp
  exact ⟨b, off, rfl, hb, fun j u hj => (World.cell?_of_block (k.block b (hL b hb) (ha b hb))).trans (hcell j u hj)⟩
theorem RoA.row {A B : World} {row : Option Nat} {n : Nat} {T : Nat → Prop} {v : Value} {l : List α} [hk : r.Ok] (h : RoA r A T v l) (hg : A.grownBy B row) (hr : RowNew n A row) : RoA r B T v l := by
  obtain ⟨a, cap, rfl, h1, h2, h3, hL, hc⟩ := h
  have k := kept_row hg
  refine ⟨a, cap, rfl, h1, h2, h3, hL.mono k, fun hp => ?_⟩
  obtain ⟨b, off, rfl, hb, hcell⟩ := hc hp
  have h0 : 0 < (l.flatMap r.enc).length := by rw [flat_len (r := r)]; exact Nat.mul_pos hp hk.pos
  refine ⟨b, off, rfl, hb, fun j u hj => (World.cell?_of_block (k.block b (hL b hb) fun e => ?_)).trans (hcell j u hj)⟩
  obtain ⟨_, o, ho, hn⟩ := hr b e.symm
  have := hcell 0 _ (List.getElem?_eq_getElem h0)
  unfold World.cell? at this
  simp only at this
  rw [ho] at this
  cases o <;> simp_all [Obj.isCells]
theorem RoA.one {w : World} {T : Nat → Prop} {v : Value} {l : List α} (h : RoA r w T v l) : v.oneCell' = true := by obtain ⟨a, cap, rfl, _⟩ := h; rfl
theorem RoA.oneC {w : World} {T : Nat → Prop} {v : Value} {l : List α} (h : RoA r w T v l) : oneC v = true := by obtain ⟨a, cap, rfl, _⟩ := h; rfl
def RoO (r : RowT α) (w : World) (T : Nat → Prop) (v : Value) (l : List α) : Prop := w.ownsRow 0 r.e r.k v l.length (l.flatMap r.enc) ∧ ∀ i, T i ↔ v.ownBlock = some i
theorem RoO.nil (r : RowT α) (w : World) : RoO r w noB (.slice none 0 0) [] := ⟨World.ownsRow_nil w 0 r.e r.k, fun i => ⟨fun h => h.elim, fun h => by cases h⟩⟩
theorem RoO.live {w : World} {T : Nat → Prop} {v : Value} {l : List α} (h : RoO r w T v l) : Live w T := fun i hi => (h.1.lt i ((h.2 i).1 hi)).2
theorem RoO.all {S : Nat → Prop} {w w' : World} {T : Nat → Prop} {v : Value} {l : List α} (h : RoO r w T v l) (k : Kept S w w') (ha : Apart T S) : RoO r w' T v l := by
  refine ⟨⟨h.1.1, ?_⟩, h.2⟩
  rcases h.1.2 with hn | ⟨g, cap, cur, rfl, hb, hg, rest⟩
  · exact .inl hn
  · exact .inr ⟨g, cap, cur, rfl, hb, k.at hg (ha g ((h.2 g).2 rfl)), rest⟩
theorem RoO.roa {w : World} {T : Nat → Prop} {v : Value} {l : List α} (h : RoO r w T v l) : RoA r w T v l := by
  have hL := h.live
  rcases h.1.2 with ⟨rfl, h0⟩ | ⟨g, cap, cur, rfl, hb, hg, h1, h2, h3, h4⟩
  · have : l = [] := List.eq_nil_of_length_eq_zero h0
    subst this
    exact ⟨none, 0, rfl, Nat.le_refl _, by unfold maxLen; omega, fun _ => rfl, hL, fun h => absurd h (by simp)⟩
  · refine ⟨some ⟨g, 0, none⟩, cap, rfl, h1, h2, by simp, hL, fun _ => ⟨g, 0, rfl, (h.2 g).2 rfl, fun j u hj => ?_⟩⟩
    have := h.1.cells (g := g) rfl j u hj
    rwa [Addr.add_lit] at this
theorem RoO.cells {w : World} {T : Nat → Prop} {v : Value} {l : List α} (h : RoO r w T v l) : Cells w T := fun i hi => by
  have hv := (h.2 i).1 hi
  rcases h.1.2 with ⟨rfl, _⟩ | ⟨g, cap, cur, rfl, _, hg, _⟩
  · cases hv
  · cases hv; exact ⟨_, hg, rfl⟩
theorem RoO.row {A B : World} {row : Option Nat} {n : Nat} {T : Nat → Prop} {v : Value} {l : List α} (h : RoO r A T v l) (hg : A.grownBy B row) (hr : RowNew n A row) : RoO r B T v l := h.all (kept_row hg) (h.cells.apart hr)
theorem RoO.of {w : World} {v : Value} {l : List α} (h : w.ownsRow 0 r.e r.k v l.length (l.flatMap r.enc)) : RoO r w (fun i => v.ownBlock = some i) v l := ⟨h, fun _ => Iff.rfl⟩
theorem RoO.one {w : World} {T : Nat → Prop} {v : Value} {l : List α} (h : RoO r w T v l) : v.oneCell' = true := h.roa.one
theorem RoO.oneC {w : World} {T : Nat → Prop} {v : Value} {l : List α} (h : RoO r w T v l) : oneC v = true := h.roa.oneC
end
section
variable {α : Type} {r : RowT α} {ρ : Operand → Value} {o : Oper} {w : World} {R : Value → World → Prop}
theorem y_atRo {x ix : Operand} {T : Nat → Prop} {v : Value} {l : List α} {k : IntKind} [hk : r.Ok] (j : Nat) {i : Int} (ho : o.op = .indexAddr r.t x ix) (hx : ρ x = v) (hi : ρ ix = .int k i) (hij : i = (j : Int)) (hb : RoA r w T v l) (hj : j < l.length) (h : R (bytAddr v (j * r.k)) w) : Yields Tryz.prog ρ o w R := by
  subst hij
  obtain ⟨a, cap, rfl, _, _, _, _, hc⟩ := hb
  obtain ⟨b, off, rfl, _, _⟩ := hc (by omega)
  obtain ⟨i0, hi0, hz0, hz1, hz2⟩ := info_parts hk.info
  exact y_val (v := bytAddr (.slice (some ⟨b, off, none⟩) l.length cap) (j * r.k)) (w' := w) (by simp [execOp, ho, hx, hi, Instr.indexAt, run_underlying hk.slice, asIntOf, sizeOf, typeInfo, hi0, hz1, hj, bytAddr]) h
theorem RoA.shape {T : Nat → Prop} {v : Value} {l : List α} {j : Nat} (hb : RoA r w T v l) (hj : j < l.length) (m : Nat) : ∃ b off, bytAddr v m = .pointer (some ⟨b, off + m, none⟩) ∧ ∀ n, bytAddr v n = .pointer (some ⟨b, off + n, none⟩) := by
  obtain ⟨a, cap, rfl, _, _, _, _, hc⟩ := hb
  obtain ⟨b, off, rfl, _, _⟩ := hc (by omega)
  exact ⟨b, off, by rw [bytAddr, Addr.add_lit], fun n => by rw [bytAddr, Addr.add_lit]⟩
theorem y_ldRoP {x : Operand} {T : Nat → Prop} {v : Value} {l : List α} {ty : TypeId} {n : Nat} {us : List Value} [hk : r.Ok] (j m : Nat) (hT : StcT Tryz.prog ty n) (ho : o.op = .load ty x) (hx : ρ x = bytAddr v (j * r.k + m)) (hb : RoA r w T v l) (hj : j < l.length) (hm : m + n ≤ r.k) (hu : ((r.enc (l.getD j r.d)).drop m).take n = us) (h : R (.agg us.toArray) w) : Yields Tryz.prog ρ o w R := by
  subst hu
  obtain ⟨a, cap, rfl, _, _, _, _, hc⟩ := hb
  obtain ⟨b, off, rfl, _, hcell⟩ := hc (by omega)
  obtain ⟨d, hu, hd, hs⟩ := hT
  have hlen : (((r.enc (l.getD j r.d)).drop m).take n).length = n := by rw [List.length_take, List.length_drop, hk.len]; omega
  have e := run_loadVar_mid (P := Tryz.prog) w b (off + (j * r.k + m)) ty (((r.enc (l.getD j r.d)).drop m).take n) d (fun q u hq => by
    have hqn : q < n := by have := (List.getElem?_eq_some_iff.1 hq).1; omega
    rw [show off + (j * r.k + m) + q = off + (j * r.k + (m + q)) by omega]
    refine hcell (j * r.k + (m + q)) u ?_
    rw [flat_at (r := r) l j (m + q) hj (by omega)]
    rwa [List.getElem?_take, if_pos hqn, List.getElem?_drop] at hq) hu hd (by rw [hlen]; exact hs)
  have hx' : ρ x = .pointer (some ⟨b, off + (j * r.k + m), none⟩) := by rw [hx, bytAddr, Addr.add_lit]
  exact y_val (v := .agg (((r.enc (l.getD j r.d)).drop m).take n).toArray) (w' := w) (by simp only [execOp, ho, hx', Instr.loadAt, Instr.sureAddr, Sem.run_bind, Sem.run_pure, Result.andThen_ok, e]) h
theorem y_lenRo {c : Call} {x : Operand} {T : Nat → Prop} {v : Value} {l : List α} [hk : r.Ok] (ho : o.op = .call c) (hc : c = { callee := .builtin .len, args := #[x], argTypes := #[r.t] }) (hx : ρ x = v) (hb : RoA r w T v l) (h : R (.int .i64 ((l.length : Nat) : Int)) w) : Yields Tryz.prog ρ o w R := by
  subst hc
  obtain ⟨a, cap, rfl, _⟩ := hb
  exact y_len ho rfl rfl rfl hk.slice hx h
end
section
variable {α : Type} {r : RowT α} {ro : Option Nat} {N : Nat} {Q : (Exit → (Nat → Value) → World → Prop)} {F : Nat → Value} {w : World} {o : Oper}
theorem wl_appendRo {ops : Array Oper} {rest : List Oper} {c : Call} {x y : Operand} {T U : Nat → Prop} {v u : Value} {l m : List α} [hk : r.Ok] (hg : o.guard = none) (hd : fits N o.dst = true) (ho : o.op = .call c) (hc : c = { callee := .builtin .append, args := #[x, y], argTypes := #[r.t, r.t] }) (hx : ev (cutF N F) x = v) (hy : ev (cutF N F) y = u) (hv : RoO r w T v l) (hu : RoA r w U u m) (hl : l.length + m.length < 549755813888)
    (h : ∀ v' w' T', RoO r w' T' v' (l ++ m) → Grew w T T' → Kept T w w' → wl ro Tryz.prog N ops Q rest (putF F o.dst v') w') : wl ro Tryz.prog N ops Q (o :: rest) F w := by
  subst hc
  obtain ⟨i0, hi0, hz0, hz1, hz2⟩ := info_parts hk.info
  obtain ⟨a, cap, rfl, h1, h2, h3, _, hcu⟩ := hu
  cases a with
  | none =>
    have hc0 := h3 rfl
    subst hc0
    have hm : m = [] := List.eq_nil_of_length_eq_zero (by omega)
    subst hm
    have hr := run_append_owned_none (P := Tryz.prog) w 0 r.t o.type r.e i0 r.k hk.slice hi0 v _ _ hv.1
    refine wl_op hg hd (y_val (v := v) (w' := w) (by simp [execOp, ho, resolve, invoke, builtin, hx, hy, hr]) (h v w T (by rw [List.append_nil]; exact hv) (Grew.refl w T) (Kept.refl _ _)))
  | some ad =>
    have hzs : r.z.cells.size = r.k := by rw [← Array.length_toList, hk.cells, hk.len]
    obtain ⟨v', w', hr, hown, hgr, hw⟩ := run_append_whose (P := Tryz.prog) w r.t o.type r.e i0 r.z r.k r.by_ hk.slice hi0 hz0 hz1 hz2 hzs hk.pos v l.length (l.flatMap r.enc) hv.1 ad m.length cap (m.flatMap r.enc) (flat_len (r := r) m) (fun j x hj => by
      have hp : 0 < m.length := by
        rcases Nat.eq_zero_or_pos m.length with e | e
        · have : m = [] := List.eq_nil_of_length_eq_zero e
          subst this; simp at hj
        · exact e
      obtain ⟨b, off, e, _, hcell⟩ := hcu hp
      cases e
      rw [Addr.add_lit]; exact hcell j x hj) (flat_one (r := r) m) (by unfold maxLen; omega) (by
        have hsm := hk.small
        have : (l.length + m.length) * r.by_ ≤ 549755813888 * 192 := Nat.mul_le_mul (by omega) hsm
        omega)
    refine wl_op hg hd (y_val (v := v') (w' := w') (by simp [execOp, ho, resolve, invoke, builtin, hx, hy, hr]) (h v' w' _ (RoO.of (by rw [List.length_append, List.flatMap_append]; exact hown)) (fun i hi => ?_) ((Kept.refl T w).grown hgr (fun k e _ => (hv.2 k).2 e))))
    rcases hw with hw | ⟨g, hw, hge⟩
    · exact .inl ((hv.2 i).2 (hw ▸ hi))
    · rw [hw] at hi; cases hi; exact .inr hge
theorem wl_builtRo {ops : Array Oper} {rest : List Oper} {parts : Array (Nat × Operand)} {n : Nat} {xs : List Operand} {vs : List Value} {l : List α} [hk : r.Ok] (hg : o.guard = none) (hd : fits N o.dst = true) (ho : o.op = .buildSlice r.t n parts) (hn : n = l.length) (hp : parts.toList = (xs.zipIdx 0).map fun x => (x.2, x.1)) (hx : xs.map (ev (cutF N F)) = vs) (hv : (vs.map fun v => v.cells.toList) = l.map r.enc) (h0 : 0 < l.length) (hsz : l.length * r.k ≤ 65536)
    (h : ∀ v w' T, RoO r w' T v l → Grew w noB T → Kept (fun _ => False) w w' → wl ro Tryz.prog N ops Q rest (putF F o.dst v) w') : wl ro Tryz.prog N ops Q (o :: rest) F w := by
  subst hn; subst hx
  obtain ⟨i0, hi0, hz0, hz1, hz2⟩ := info_parts hk.info
  have hpos := hk.pos
  have hlp : 0 < l.length * r.k := Nat.mul_pos h0 hpos
  have hlen : xs.length = l.length := by have := congrArg List.length hv; simpa using this
  have hflat : (xs.map (ev (cutF N F))).flatMap (fun v => v.cells.toList) = l.flatMap r.enc := by
    rw [List.flatMap_def, List.flatMap_def, hv]
  have hsize : ∀ v ∈ xs.map (ev (cutF N F)), v.cells.size = r.k := by
    intro v hv'
    have : v.cells.toList ∈ l.map r.enc := by rw [← hv]; exact List.mem_map.2 ⟨v, hv', rfl⟩
    obtain ⟨x, _, e⟩ := List.mem_map.1 this
    rw [← Array.length_toList, ← e, hk.len]
  have hrun := run_buildSlice (P := Tryz.prog) w r.t r.e l.length (parts.map fun (i, x) => (i, ev (cutF N F) x)) (l.flatMap r.enc).toArray i0 r.z hk.slice hi0 hz0 (by rw [hz1]; omega) (by rw [hz1]; omega) (by
    rw [hz1]
    have e : (parts.map fun (i, x) => (i, ev (cutF N F) x)).toList = ((xs.map (ev (cutF N F))).zipIdx 0).map fun x => (x.2, x.1) := by
      rw [Array.toList_map, hp, List.zipIdx_map, List.map_map, List.map_map]; rfl
    rw [e, Great.fill_whole hpos _ _ hsize (by rw [List.length_map, hlen]; simp), hflat])
  refine wl_op hg hd (y_val (v := .slice (some ⟨w.heap.size, 0, none⟩) l.length l.length) (w' := w.alloc (.cells (l.flatMap r.enc).toArray r.e)) (by simp [execOp, ho, hrun]) (h _ _ _ (RoO.of ⟨flat_len (r := r) l, .inr ⟨w.heap.size, l.length, _, rfl, Nat.zero_le _, heap_alloc_new _ _, Nat.le_refl _, by unfold maxLen; have := Nat.le_mul_of_pos_right l.length hpos; omega, by rw [List.size_toArray, flat_len (r := r)], ?_⟩⟩) (fun i hi => .inr ?_) ((Kept.refl _ _).alloc _)))
  · rw [List.toList_toArray]; exact List.take_of_length_le (by rw [flat_len (r := r)]; exact Nat.le_refl _)
  · cases hi; exact Nat.le_refl _
end
end Go.Proofs.YtknjpdcpmpfklaaGreatDoor
set_option maxRecDepth 100000
namespace Go.Proofs.YtknjpdcpmpfklaaGreatDoor
open Go.RowKit
structure Vc where
  X : Int
  Y : Int
def rVec : RowT Vc := { t := 111, e := 67, k := 2, by_ := 16, enc := fun x => [.int .i64 x.X, .int .i64 x.Y], d := ⟨0, 0⟩, z := .agg #[.int .i64 0, .int .i64 0] }
theorem one_two {a b : Int} : ∀ u ∈ [Value.int .i64 a, Value.int .i64 b], u.oneCell' = true := fun u hu => by
  rcases List.mem_cons.1 hu with rfl | hu
  · rfl
  · rcases List.mem_cons.1 hu with rfl | hu
    · rfl
    · cases hu
instance rVec_ok : RowT.Ok rVec := ⟨Tryz.underlying111, by kernel_rfl, rfl, by decide, fun _ => rfl, fun _ => one_two, by decide⟩
def vfL (f : VF) : List Vc := (List.range (f.w * f.h).toNat).map fun (i : Nat) => ⟨f.X ((i : Int) % f.w) ((i : Int) / f.w), f.Y ((i : Int) % f.w) ((i : Int) / f.w)⟩
def Vfr (w : World) (T : Nat → Prop) (p : Nat) (f : VF) : Prop := ∃ v T2, (∀ i, T i ↔ (onB p i ∨ T2 i)) ∧ Stc w p 113 [.int .i64 f.w, .int .i64 f.h, v] ∧ RoO rVec w T2 v (vfL f) ∧ Apart (onB p) T2 ∧ OkV f
theorem Vfr.live {w : World} {T : Nat → Prop} {p : Nat} {f : VF} (h : Vfr w T p f) : Live w T := by
  obtain ⟨v, T2, hT, h1, h2, _⟩ := h
  exact fun i hi => ((hT i).1 hi).elim (fun e => by cases e; exact h1.lt) (fun e => h2.live i e)
theorem Vfr.all {S : Nat → Prop} {w w' : World} {T : Nat → Prop} {p : Nat} {f : VF} (h : Vfr w T p f) (k : Kept S w w') (ha : Apart T S) : Vfr w' T p f := by
  obtain ⟨v, T2, hT, h1, h2, h3, h4⟩ := h
  exact ⟨v, T2, hT, h1.all k (ha p ((hT p).2 (Or.inl rfl))), h2.all k (fun i hi => ha i ((hT i).2 (Or.inr hi))), h3, h4⟩
theorem Vfr.ok {w : World} {T : Nat → Prop} {p : Nat} {f : VF} (h : Vfr w T p f) : OkV f := by obtain ⟨_, _, _, _, _, _, h⟩ := h; exact h
def Vfo (w : World) (T : Nat → Prop) (v : Value) (o : Option VF) : Prop := match o with
  | none => v = .pointer none ∧ T = noB
  | some f => ∃ p, v = .pointer (some ⟨p, 0, none⟩) ∧ Vfr w T p f
theorem Vfo.nil (w : World) : Vfo w noB (.pointer none) none := ⟨rfl, rfl⟩
theorem Vfo.live {w : World} {T : Nat → Prop} {v : Value} {o : Option VF} (h : Vfo w T v o) : Live w T := by
  cases o with
  | none => obtain ⟨_, rfl⟩ := h; exact fun _ h => h.elim
  | some f => obtain ⟨p, _, h⟩ := h; exact h.live
theorem Vfo.all {S : Nat → Prop} {w w' : World} {T : Nat → Prop} {v : Value} {o : Option VF} (h : Vfo w T v o) (k : Kept S w w') (ha : Apart T S) : Vfo w' T v o := by
  cases o with
  | none => exact h
  | some f => obtain ⟨p, e, h⟩ := h; exact ⟨p, e, h.all k ha⟩
theorem Vfo.ok {w : World} {T : Nat → Prop} {v : Value} {f : VF} (h : Vfo w T v (some f)) : OkV f := by obtain ⟨_, _, h⟩ := h; exact h.ok
def optV (m n : Int) : Option VF := if sidesOk m n then some (newV m n) else none
def newVE (m n : Int) : Int := if sidesOk m n then 0 else 1
theorem optV_yes {m n : Int} (h : sidesOk m n) : optV m n = some (newV m n) := if_pos h
theorem optV_no {m n : Int} (h : ¬ sidesOk m n) : optV m n = none := if_neg h
theorem newVE_yes {m n : Int} (h : sidesOk m n) : newVE m n = 0 := if_pos h
theorem newVE_no {m n : Int} (h : ¬ sidesOk m n) : newVE m n = 1 := if_neg h
end Go.Proofs.YtknjpdcpmpfklaaGreatDoor
