/- What OrderTells reaches of my texts, part 4. -/
import Derived.Test.YthoafgfcoclkbaaOrderTellsC
set_option maxRecDepth 100000
set_option maxHeartbeats 4000000
set_option maxRecDepth 100000
namespace Go.Proofs.Ythoafgfcoclkbaa
open Go.RowKit
theorem odawake_any (w0 : World) :
  Calls Try.prog 8 #[] w0 fun e w' => e = .returned (.bool true) ∧ Kept (fun _ => False) w0 w' := by
 refine calls_wq (args := []) 101 Try.func8 rfl rfl (Nat.le_of_ble_eq_true rfl) ?_
 have K0 := Kept.refl (fun _ => False) w0
 have hE := ex_slE
 have hN := show shN [0, 2, 1, 4, 3] = 2 from ex_N
 have hF := show shE [0, 2, 1, 4, 3] = 0 from ex_E
 have hG := show shE [0, 0] = 150 from shE_no ex_bad
 have hP := show planE 0 0 0 = 150 from rfl
 have hl1 : ([⟨0, 0, -1, -1⟩, ⟨2, 1, 0, -1⟩, ⟨1, 2, 0, 2⟩, ⟨4, 1, 2, -1⟩, ⟨3, 2, 2, 4⟩] : List Sl).length = 5 := rfl
 have hl2 : ([0, 2, 1, 4, 3] : List Int).length = 5 := rfl
 refine wq_seq (wq_region (wl_v (.bool false) rfl rfl (y_asg rfl rfl rr) (wl_nil fun F1 hF2 => ?_)))
 have s3 : F1 101 = undef := (hF2 101).trans rfl
 clear hF2
 refine then_normal (wq_seq (wq_region (wl_v (.agg #[iv 5, iv 1, iv 0]) rfl rfl (y_buildL (l' := [(0, iv 5), (1, iv 1)]) (cells := #[iv 5, iv 1, iv 0]) rfl (bpC rfl (bpC rfl bpN)) (by kernel_rfl) rfl rr) (wl_call (R := fun v_ w_ => ∃ (v4 : Value) (T7 : Nat → Prop), .tuple #[v4, iv (slE 5 5 1 0)] = v_ ∧ Kept (fun _ => False) w0 w_ ∧ (RoO rSl w_ T7 v4 (slL 5 5 1 0) ∧ Grew w0 noB T7)) rfl rfl (y_cs rfl rfl rfl (fun _ _ => by kernel_rfl) (ev_func _) (vsC rfl (vsC rfl vsN)) (od_slots 5 5 1 0  _   ) (fun e_ w_ h_ => by obtain ⟨v4_, T7_, he_, hr_⟩ := h_; exact ⟨_, he_, v4_, T7_, rfl, hr_⟩)) ?_))))
 rintro _ w5 ⟨v4, T7, rfl, k6, ⟨B8, g9⟩⟩
 have K10 := K0.tr k6
 refine wl_v (.tuple #[v4, iv (slE 5 5 1 0)]) rfl rfl (y_mov rfl rfl rr) (wl_v v4 rfl rfl (y_ext rfl rfl rfl rr) (wl_v (iv (slE 5 5 1 0)) rfl rfl (y_ext rfl rfl rfl rr) (wl_v v4 rfl rfl (y_asg rfl rfl rr) (wl_v (iv (slE 5 5 1 0)) rfl rfl (y_asg rfl rfl rr) (wl_nil fun F12 hF13 => ?_)))))
 have s14 := (hF13 101).trans s3
 have s15 : F12 1 = v4 := (hF13 1).trans rfl
 have s16 : F12 2 = iv (slE 5 5 1 0) := (hF13 2).trans rfl
 clear hF13
 refine then_normal (wq_seq (wq_region (wl_builtRo (r := rInt) (xs := [.const (iv 0), .const (iv 2), .const (iv 1), .const (iv 4), .const (iv 3)]) (vs := [iv 0, iv 2, iv 1, iv 4, iv 3]) (l := [0, 2, 1, 4, 3]) rfl rfl rfl rfl rfl (vsC rfl (vsC rfl (vsC rfl (vsC rfl (vsC rfl vsN))))) rfl (by first | decide | exact Nat.le_of_ble_eq_true rfl) (by first | decide | exact Nat.le_of_ble_eq_true rfl) fun v17 w18 T22 B20 g21 k19 => ?_)))
 have B25 := B8.all k19 Apart.none
 have K26 := K10.tr k19
 refine wl_call (R := fun v_ w_ => ∃ (v27 : Value) (T30 : Nat → Prop), .tuple #[v27, iv (shN ([0, 2, 1, 4, 3])), iv (shE ([0, 2, 1, 4, 3]))] = v_ ∧ Kept (fun _ => False) w18 w_ ∧ (RoO rInt w_ T30 v27 (shL ([0, 2, 1, 4, 3])) ∧ Grew w18 noB T30)) rfl rfl (y_cs rfl rfl rfl (fun _ _ => by kernel_rfl) (ev_func _) (vsC rfl vsN) (od_show v17 ([0, 2, 1, 4, 3]) T22 _  B20.roa ) (fun e_ w_ h_ => by obtain ⟨v27_, T30_, he_, hr_⟩ := h_; exact ⟨_, he_, v27_, T30_, rfl, hr_⟩)) ?_
 rintro _ w28 ⟨v27, T30, rfl, k29, ⟨B31, g32⟩⟩
 have B33 := B25.all k29 Apart.none
 have K35 := K26.tr k29
 refine wl_v (.tuple #[v27, iv (shN ([0, 2, 1, 4, 3])), iv (shE ([0, 2, 1, 4, 3]))]) rfl rfl (y_mov rfl rfl rr) (wl_v v27 rfl rfl (y_ext rfl rfl rfl rr) (wl_v (iv (shN ([0, 2, 1, 4, 3]))) rfl rfl (y_ext rfl rfl rfl rr) (wl_v (iv (shE ([0, 2, 1, 4, 3]))) rfl rfl (y_ext rfl rfl rfl rr) (wl_v v27 rfl rfl (y_asg rfl rfl rr) (wl_v (iv (shN ([0, 2, 1, 4, 3]))) rfl rfl (y_asg rfl rfl rr) (wl_v (iv (shE ([0, 2, 1, 4, 3]))) rfl rfl (y_asg rfl rfl rr) (wl_nil fun F39 hF40 => ?_)))))))
 obtain ⟨s41, s42, s43⟩ := t3 hF40 101 s14 1 s15 2 s16
 have s44 : F39 3 = v27 := (hF40 3).trans rfl
 have s45 : F39 4 = iv (shN ([0, 2, 1, 4, 3])) := (hF40 4).trans rfl
 have s46 : F39 5 = iv (shE ([0, 2, 1, 4, 3])) := (hF40 5).trans rfl
 clear hF40
 refine then_normal (wq_seq (wq_region (wl_builtRo (r := rInt) (xs := [.const (iv 0), .const (iv 0)]) (vs := [iv 0, iv 0]) (l := [0, 0]) rfl rfl rfl rfl rfl (vsC rfl (vsC rfl vsN)) rfl (by first | decide | exact Nat.le_of_ble_eq_true rfl) (by first | decide | exact Nat.le_of_ble_eq_true rfl) fun v47 w48 T52 B50 g51 k49 => ?_)))
 have B57 := B33.all k49 Apart.none
 have B59 := B31.all k49 Apart.none
 have K60 := K35.tr k49
 refine wl_call (R := fun v_ w_ => ∃ (v61 : Value) (T64 : Nat → Prop), .tuple #[v61, iv (shN ([0, 0])), iv (shE ([0, 0]))] = v_ ∧ Kept (fun _ => False) w48 w_ ∧ (RoO rInt w_ T64 v61 (shL ([0, 0])) ∧ Grew w48 noB T64)) rfl rfl (y_cs rfl rfl rfl (fun _ _ => by kernel_rfl) (ev_func _) (vsC rfl vsN) (od_show v47 ([0, 0]) T52 _  B50.roa ) (fun e_ w_ h_ => by obtain ⟨v61_, T64_, he_, hr_⟩ := h_; exact ⟨_, he_, v61_, T64_, rfl, hr_⟩)) ?_
 rintro _ w62 ⟨v61, T64, rfl, k63, ⟨B65, g66⟩⟩
 have B67 := B57.all k63 Apart.none
 have B69 := B59.all k63 Apart.none
 have K71 := K60.tr k63
 refine wl_v (.tuple #[v61, iv (shN ([0, 0])), iv (shE ([0, 0]))]) rfl rfl (y_mov rfl rfl rr) (wl_v v61 rfl rfl (y_ext rfl rfl rfl rr) (wl_v (iv (shN ([0, 0]))) rfl rfl (y_ext rfl rfl rfl rr) (wl_v (iv (shE ([0, 0]))) rfl rfl (y_ext rfl rfl rfl rr) (wl_v v61 rfl rfl (y_asg rfl rfl rr) (wl_v (iv (shN ([0, 0]))) rfl rfl (y_asg rfl rfl rr) (wl_v (iv (shE ([0, 0]))) rfl rfl (y_asg rfl rfl rr) (wl_nil fun F77 hF78 => ?_)))))))
 obtain ⟨s79, s80, s81, s82, s83, s84⟩ := t6 hF78 101 s41 1 s42 2 s43 3 s44 4 s45 5 s46
 have s85 : F77 8 = iv (shE ([0, 0])) := (hF78 8).trans rfl
 clear hF78
 refine then_normal (wq_seq (wq_seq ?_))
 have B86 : RoO rSl w62 T7 v4 ([⟨0, 0, -1, -1⟩, ⟨2, 1, 0, -1⟩, ⟨1, 2, 0, 2⟩, ⟨4, 1, 2, -1⟩, ⟨3, 2, 2, 4⟩] : List Sl) := (by rw [← ex_sl]; exact B67)
 have B87 : RoO rInt w62 T30 v27 ([0, 2, 1, 4, 3] : List Int) := (by have z_ := B69; rw [show shL [0, 2, 1, 4, 3] = _ from ex_L] at z_; exact z_)
 refine wq_region (wl_mv rfl rfl rfl s80 (wl_v (iv ((([⟨0, 0, -1, -1⟩, ⟨2, 1, 0, -1⟩, ⟨1, 2, 0, 2⟩, ⟨4, 1, 2, -1⟩, ⟨3, 2, 2, 4⟩] : List Sl).length : Nat) : Int)) rfl rfl (y_lenRo (r := rSl) rfl rfl rfl B86.roa rr) (wl_v (.bool false) rfl rfl (y_neqI rfl rfl rfl rfl rr) (wl_v (.bool false) rfl rfl (y_mov rfl rfl rr) (wl_vw v27 3 false 29 rfl rfl rfl rfl rfl (y_mov rfl s82 rr) (wl_vw (iv ((([0, 2, 1, 4, 3] : List Int).length : Nat) : Int)) 3 false 29 rfl rfl rfl rfl rfl (y_lenRo (r := rInt) rfl rfl rfl B87.roa rr) (wl_vw (.bool false) 3 false 29 rfl rfl rfl rfl rfl (y_neqI rfl rfl rfl rfl rr) (wl_v (.bool false) rfl rfl (y_pickF rfl rfl rfl rr) (wl_nil fun F88 hF89 => ?_)))))))))
 obtain ⟨s90, s91, s92, s93, s94, s95, s96⟩ := t7 hF89 101 s79 1 s80 2 s81 3 s82 4 s83 5 s84 8 s85
 have s97 : F88 33 = .bool false := (hF89 33).trans rfl
 clear hF89
 refine then_normal ?_
 refine wq_cond (t := false) s97 (fun e => by cases e) (fun _ => ?_)
 refine wq_skip (then_normal (wq_seq (wq_region (wl_mv rfl rfl rfl s92 (wl_v (.bool true) rfl rfl (y_eqlI rfl rfl rfl (decide_eq_true hE) rr) (wl_v (.bool true) rfl rfl (y_mov rfl rfl rr) (wl_vw v4 2 true 36 rfl rfl rfl rfl rfl (y_mov rfl s91 rr) (wl_vw (bytAddr v4 (0 * 4)) 2 true 36 rfl rfl rfl rfl rfl (y_atRo (r := rSl) 0 rfl rfl rfl (by omega) B86.roa (by omega) rr) (wl_vw (.agg #[iv ((([⟨0, 0, -1, -1⟩, ⟨2, 1, 0, -1⟩, ⟨1, 2, 0, 2⟩, ⟨4, 1, 2, -1⟩, ⟨3, 2, 2, 4⟩] : List Sl).getD 0 ⟨0, 0, 0, 0⟩).d), iv ((([⟨0, 0, -1, -1⟩, ⟨2, 1, 0, -1⟩, ⟨1, 2, 0, 2⟩, ⟨4, 1, 2, -1⟩, ⟨3, 2, 2, 4⟩] : List Sl).getD 0 ⟨0, 0, 0, 0⟩).k), iv ((([⟨0, 0, -1, -1⟩, ⟨2, 1, 0, -1⟩, ⟨1, 2, 0, 2⟩, ⟨4, 1, 2, -1⟩, ⟨3, 2, 2, 4⟩] : List Sl).getD 0 ⟨0, 0, 0, 0⟩).p), iv ((([⟨0, 0, -1, -1⟩, ⟨2, 1, 0, -1⟩, ⟨1, 2, 0, 2⟩, ⟨4, 1, 2, -1⟩, ⟨3, 2, 2, 4⟩] : List Sl).getD 0 ⟨0, 0, 0, 0⟩).n)]) 2 true 36 rfl rfl rfl rfl rfl (y_ldRoP (r := rSl) (n := 4) 0 0 stcT_slot rfl rfl B86.roa (by omega) (by decide) rfl rr) (wl_vw (.agg #[iv 0, iv 0, iv (-1), iv (-1)]) 2 true 36 rfl rfl rfl rfl rfl (y_buildL (l' := [(2, iv (-1)), (3, iv (-1))]) (cells := #[iv 0, iv 0, iv (-1), iv (-1)]) rfl (bpC rfl (bpC rfl bpN)) (by kernel_rfl) rfl rr) (wl_vw (.bool true) 2 true 36 rfl rfl rfl rfl rfl (y_eqlSI (xs := [(([⟨0, 0, -1, -1⟩, ⟨2, 1, 0, -1⟩, ⟨1, 2, 0, 2⟩, ⟨4, 1, 2, -1⟩, ⟨3, 2, 2, 4⟩] : List Sl).getD 0 ⟨0, 0, 0, 0⟩).d, (([⟨0, 0, -1, -1⟩, ⟨2, 1, 0, -1⟩, ⟨1, 2, 0, 2⟩, ⟨4, 1, 2, -1⟩, ⟨3, 2, 2, 4⟩] : List Sl).getD 0 ⟨0, 0, 0, 0⟩).k, (([⟨0, 0, -1, -1⟩, ⟨2, 1, 0, -1⟩, ⟨1, 2, 0, 2⟩, ⟨4, 1, 2, -1⟩, ⟨3, 2, 2, 4⟩] : List Sl).getD 0 ⟨0, 0, 0, 0⟩).p, (([⟨0, 0, -1, -1⟩, ⟨2, 1, 0, -1⟩, ⟨1, 2, 0, 2⟩, ⟨4, 1, 2, -1⟩, ⟨3, 2, 2, 4⟩] : List Sl).getD 0 ⟨0, 0, 0, 0⟩).n]) (ys := [0, 0, -1, -1]) structI_slot rfl rfl rfl rfl rfl rfl rr) ?_)))))))))))
 refine wl_v (.bool true) rfl rfl (y_pickT rfl rfl rfl rr) (wl_v (.bool true) rfl rfl (y_mov rfl rfl rr) (wl_vw v4 9 true 43 rfl rfl rfl rfl rfl (y_mov rfl s91 rr) (wl_vw (bytAddr v4 (1 * 4)) 9 true 43 rfl rfl rfl rfl rfl (y_atRo (r := rSl) 1 rfl rfl rfl (by omega) B86.roa (by omega) rr) (wl_vw (.agg #[iv ((([⟨0, 0, -1, -1⟩, ⟨2, 1, 0, -1⟩, ⟨1, 2, 0, 2⟩, ⟨4, 1, 2, -1⟩, ⟨3, 2, 2, 4⟩] : List Sl).getD 1 ⟨0, 0, 0, 0⟩).d), iv ((([⟨0, 0, -1, -1⟩, ⟨2, 1, 0, -1⟩, ⟨1, 2, 0, 2⟩, ⟨4, 1, 2, -1⟩, ⟨3, 2, 2, 4⟩] : List Sl).getD 1 ⟨0, 0, 0, 0⟩).k), iv ((([⟨0, 0, -1, -1⟩, ⟨2, 1, 0, -1⟩, ⟨1, 2, 0, 2⟩, ⟨4, 1, 2, -1⟩, ⟨3, 2, 2, 4⟩] : List Sl).getD 1 ⟨0, 0, 0, 0⟩).p), iv ((([⟨0, 0, -1, -1⟩, ⟨2, 1, 0, -1⟩, ⟨1, 2, 0, 2⟩, ⟨4, 1, 2, -1⟩, ⟨3, 2, 2, 4⟩] : List Sl).getD 1 ⟨0, 0, 0, 0⟩).n)]) 9 true 43 rfl rfl rfl rfl rfl (y_ldRoP (r := rSl) (n := 4) 1 0 stcT_slot rfl rfl B86.roa (by omega) (by decide) rfl rr) (wl_vw (.agg #[iv 2, iv 1, iv 0, iv (-1)]) 9 true 43 rfl rfl rfl rfl rfl (y_buildL (l' := [(0, iv 2), (1, iv 1), (2, iv 0), (3, iv (-1))]) (cells := #[iv 2, iv 1, iv 0, iv (-1)]) rfl (bpC rfl (bpC rfl (bpC rfl (bpC rfl bpN)))) (by kernel_rfl) rfl rr) (wl_vw (.bool true) 9 true 43 rfl rfl rfl rfl rfl (y_eqlSI (xs := [(([⟨0, 0, -1, -1⟩, ⟨2, 1, 0, -1⟩, ⟨1, 2, 0, 2⟩, ⟨4, 1, 2, -1⟩, ⟨3, 2, 2, 4⟩] : List Sl).getD 1 ⟨0, 0, 0, 0⟩).d, (([⟨0, 0, -1, -1⟩, ⟨2, 1, 0, -1⟩, ⟨1, 2, 0, 2⟩, ⟨4, 1, 2, -1⟩, ⟨3, 2, 2, 4⟩] : List Sl).getD 1 ⟨0, 0, 0, 0⟩).k, (([⟨0, 0, -1, -1⟩, ⟨2, 1, 0, -1⟩, ⟨1, 2, 0, 2⟩, ⟨4, 1, 2, -1⟩, ⟨3, 2, 2, 4⟩] : List Sl).getD 1 ⟨0, 0, 0, 0⟩).p, (([⟨0, 0, -1, -1⟩, ⟨2, 1, 0, -1⟩, ⟨1, 2, 0, 2⟩, ⟨4, 1, 2, -1⟩, ⟨3, 2, 2, 4⟩] : List Sl).getD 1 ⟨0, 0, 0, 0⟩).n]) (ys := [2, 1, 0, -1]) structI_slot rfl rfl rfl rfl rfl rfl rr) (wl_v (.bool true) rfl rfl (y_pickT rfl rfl rfl rr) (wl_v (.bool true) rfl rfl (y_mov rfl rfl rr) (wl_vw v4 16 true 50 rfl rfl rfl rfl rfl (y_mov rfl s91 rr) (wl_vw (bytAddr v4 (2 * 4)) 16 true 50 rfl rfl rfl rfl rfl (y_atRo (r := rSl) 2 rfl rfl rfl (by omega) B86.roa (by omega) rr) (wl_vw (.agg #[iv ((([⟨0, 0, -1, -1⟩, ⟨2, 1, 0, -1⟩, ⟨1, 2, 0, 2⟩, ⟨4, 1, 2, -1⟩, ⟨3, 2, 2, 4⟩] : List Sl).getD 2 ⟨0, 0, 0, 0⟩).d), iv ((([⟨0, 0, -1, -1⟩, ⟨2, 1, 0, -1⟩, ⟨1, 2, 0, 2⟩, ⟨4, 1, 2, -1⟩, ⟨3, 2, 2, 4⟩] : List Sl).getD 2 ⟨0, 0, 0, 0⟩).k), iv ((([⟨0, 0, -1, -1⟩, ⟨2, 1, 0, -1⟩, ⟨1, 2, 0, 2⟩, ⟨4, 1, 2, -1⟩, ⟨3, 2, 2, 4⟩] : List Sl).getD 2 ⟨0, 0, 0, 0⟩).p), iv ((([⟨0, 0, -1, -1⟩, ⟨2, 1, 0, -1⟩, ⟨1, 2, 0, 2⟩, ⟨4, 1, 2, -1⟩, ⟨3, 2, 2, 4⟩] : List Sl).getD 2 ⟨0, 0, 0, 0⟩).n)]) 16 true 50 rfl rfl rfl rfl rfl (y_ldRoP (r := rSl) (n := 4) 2 0 stcT_slot rfl rfl B86.roa (by omega) (by decide) rfl rr) ?_)))))))))))
 refine wl_vw (.agg #[iv 1, iv 2, iv 0, iv 2]) 16 true 50 rfl rfl rfl rfl rfl (y_buildL (l' := [(0, iv 1), (1, iv 2), (2, iv 0), (3, iv 2)]) (cells := #[iv 1, iv 2, iv 0, iv 2]) rfl (bpC rfl (bpC rfl (bpC rfl (bpC rfl bpN)))) (by kernel_rfl) rfl rr) (wl_vw (.bool true) 16 true 50 rfl rfl rfl rfl rfl (y_eqlSI (xs := [(([⟨0, 0, -1, -1⟩, ⟨2, 1, 0, -1⟩, ⟨1, 2, 0, 2⟩, ⟨4, 1, 2, -1⟩, ⟨3, 2, 2, 4⟩] : List Sl).getD 2 ⟨0, 0, 0, 0⟩).d, (([⟨0, 0, -1, -1⟩, ⟨2, 1, 0, -1⟩, ⟨1, 2, 0, 2⟩, ⟨4, 1, 2, -1⟩, ⟨3, 2, 2, 4⟩] : List Sl).getD 2 ⟨0, 0, 0, 0⟩).k, (([⟨0, 0, -1, -1⟩, ⟨2, 1, 0, -1⟩, ⟨1, 2, 0, 2⟩, ⟨4, 1, 2, -1⟩, ⟨3, 2, 2, 4⟩] : List Sl).getD 2 ⟨0, 0, 0, 0⟩).p, (([⟨0, 0, -1, -1⟩, ⟨2, 1, 0, -1⟩, ⟨1, 2, 0, 2⟩, ⟨4, 1, 2, -1⟩, ⟨3, 2, 2, 4⟩] : List Sl).getD 2 ⟨0, 0, 0, 0⟩).n]) (ys := [1, 2, 0, 2]) structI_slot rfl rfl rfl rfl rfl rfl rr) (wl_v (.bool true) rfl rfl (y_pickT rfl rfl rfl rr) (wl_v (.bool true) rfl rfl (y_mov rfl rfl rr) (wl_vw v4 23 true 57 rfl rfl rfl rfl rfl (y_mov rfl s91 rr) (wl_vw (bytAddr v4 (4 * 4)) 23 true 57 rfl rfl rfl rfl rfl (y_atRo (r := rSl) 4 rfl rfl rfl (by omega) B86.roa (by omega) rr) (wl_vw (bytAddr v4 (4 * 4)) 23 true 57 rfl rfl rfl rfl rfl (y_fieldRo (j := 4) (n := 1) rfl rfl B86.roa (by omega) Try.underlying38 rfl (by kernel_rfl) (by decide) rfl rr) (wl_vw (iv ((([⟨0, 0, -1, -1⟩, ⟨2, 1, 0, -1⟩, ⟨1, 2, 0, 2⟩, ⟨4, 1, 2, -1⟩, ⟨3, 2, 2, 4⟩] : List Sl).getD 4 ⟨0, 0, 0, 0⟩).d)) 23 true 57 rfl rfl rfl rfl rfl (y_ldRo (r := rSl) 4 0 rfl rfl B86.roa (by omega) (by decide) rfl Try.underlying3 rfl rr) (wl_vw (.bool true) 23 true 57 rfl rfl rfl rfl rfl (y_eqlI rfl rfl rfl rfl rr) (wl_v (.bool true) rfl rfl (y_pickT rfl rfl rfl rr) (wl_v (.bool true) rfl rfl (y_mov rfl rfl rr) (wl_vw v27 30 true 64 rfl rfl rfl rfl rfl (y_mov rfl s93 rr) ?_)))))))))))
 refine wl_vw (bytAddr v27 (1 * 1)) 30 true 64 rfl rfl rfl rfl rfl (y_atRo (r := rInt) 1 rfl rfl rfl (by omega) B87.roa (by omega) rr) (wl_vw (iv (([0, 2, 1, 4, 3] : List Int).getD 1 0)) 30 true 64 rfl rfl rfl rfl rfl (y_ldRo (r := rInt) 1 0 rfl rfl B87.roa (by omega) (by decide) rfl Try.underlying3 rfl rr) (wl_vw (.bool true) 30 true 64 rfl rfl rfl rfl rfl (y_eqlI rfl rfl rfl rfl rr) (wl_v (.bool true) rfl rfl (y_pickT rfl rfl rfl rr) (wl_v (.bool true) rfl rfl (y_mov rfl rfl rr) (wl_vw v27 36 true 70 rfl rfl rfl rfl rfl (y_mov rfl s93 rr) (wl_vw (bytAddr v27 (4 * 1)) 36 true 70 rfl rfl rfl rfl rfl (y_atRo (r := rInt) 4 rfl rfl rfl (by omega) B87.roa (by omega) rr) (wl_vw (iv (([0, 2, 1, 4, 3] : List Int).getD 4 0)) 36 true 70 rfl rfl rfl rfl rfl (y_ldRo (r := rInt) 4 0 rfl rfl B87.roa (by omega) (by decide) rfl Try.underlying3 rfl rr) (wl_vw (.bool true) 36 true 70 rfl rfl rfl rfl rfl (y_eqlI rfl rfl rfl rfl rr) (wl_v (.bool true) rfl rfl (y_pickT rfl rfl rfl rr) (wl_v (.bool true) rfl rfl (y_mov rfl rfl rr) (wl_vw (iv (shN ([0, 2, 1, 4, 3]))) 42 true 76 rfl rfl rfl rfl rfl (y_mov rfl s94 rr) ?_)))))))))))
 refine wl_vw (.bool true) 42 true 76 rfl rfl rfl rfl rfl (y_eqlI rfl rfl rfl (decide_eq_true hN) rr) (wl_v (.bool true) rfl rfl (y_pickT rfl rfl rfl rr) (wl_v (.bool true) rfl rfl (y_mov rfl rfl rr) (wl_vw (iv (shE ([0, 2, 1, 4, 3]))) 46 true 80 rfl rfl rfl rfl rfl (y_mov rfl s95 rr) (wl_vw (.bool true) 46 true 80 rfl rfl rfl rfl rfl (y_eqlI rfl rfl rfl (decide_eq_true hF) rr) (wl_v (.bool true) rfl rfl (y_pickT rfl rfl rfl rr) (wl_v (.bool true) rfl rfl (y_mov rfl rfl rr) (wl_vw (iv (shE ([0, 0]))) 50 true 84 rfl rfl rfl rfl rfl (y_mov rfl s96 rr) (wl_vw (.bool true) 50 true 84 rfl rfl rfl rfl rfl (y_eqlI rfl rfl rfl (decide_eq_true hG) rr) (wl_v (.bool true) rfl rfl (y_pickT rfl rfl rfl rr) (wl_v (.bool true) rfl rfl (y_mov rfl rfl rr) (wl_vw (.agg #[iv 0, iv 0, iv 0]) 54 true 88 rfl rfl rfl rfl rfl (y_buildL (l' := []) (cells := #[iv 0, iv 0, iv 0]) rfl bpN (by kernel_rfl) rfl rr) ?_)))))))))))
 refine wl_callw (R := fun v_ w_ => v_ = iv (planE 0 0 0) ∧ Kept (fun _ => False) w62 w_) 54 true 88 rfl rfl rfl rfl rfl (y_cs rfl rfl rfl (fun _ _ => by kernel_rfl) (ev_func _) (vsC rfl vsN) (od_check 0 0 0  _   ) (fun e_ w_ h_ => ⟨_, h_.1, rfl, h_.2⟩)) ?_
 rintro _ w98 ⟨rfl, k99⟩
 have K105 := K71.tr k99
 refine wl_vw (.bool true) 54 true 88 rfl rfl rfl rfl rfl (y_eqlI rfl rfl rfl (decide_eq_true hP) rr) (wl_v (.bool true) rfl rfl (y_pickT rfl rfl rfl rr) (wl_v (.bool true) rfl rfl (y_mov rfl rfl rr) (wl_v (.bool true) rfl rfl (y_pickT rfl rfl rfl rr) (wl_v (.bool true) rfl rfl (y_mov rfl rfl rr) (wl_v (.bool true) rfl rfl (y_pickT rfl rfl rfl rr) (wl_v (.bool true) rfl rfl (y_mov rfl rfl rr) (wl_v (.bool true) rfl rfl (y_pickT rfl rfl rfl rr) (wl_v (.bool true) rfl rfl (y_mov rfl rfl rr) (wl_v (.bool true) rfl rfl (y_pickT rfl rfl rfl rr) (wl_v (.bool true) rfl rfl (y_asg rfl rfl rr) (wl_nil fun F106 hF107 => ?_)))))))))))
 have s108 := (hF107 101).trans s90
 have s109 : F106 0 = .bool true := (hF107 0).trans rfl
 clear hF107
 refine then_normal (wq_ret ?_)
 exact end_tmp (v := .bool true) s108 rfl rfl s109 ⟨rfl, K105⟩
end Go.Proofs.Ythoafgfcoclkbaa
set_option maxRecDepth 100000
namespace Go.Proofs.Ythoafgfcoclkbaa
open Go.RowKit
def Runs (C : List Sl → Sl → Prop) : List Sl → List Sl → Prop
  | _, [] => True
  | o, s :: r => C o s ∧ Runs C (o ++ [s]) r
theorem Runs.at {C : List Sl → Sl → Prop} : ∀ {L o : List Sl}, Runs C o L → ∀ i, i < L.length → C (o ++ L.take i) (L.getD i ⟨0, 0, 0, 0⟩)
  | [], _, _, i, hi => absurd hi (Nat.not_lt_zero i)
  | s :: L, o, h, 0, _ => by rw [List.take_zero, List.append_nil]; exact h.1
  | s :: L, o, h, i + 1, hi => by
    have := Runs.at h.2 i (by simpa using hi)
    rw [List.append_assoc] at this
    exact this
theorem md {g q d : Nat} (h1 : q * g ≤ d) (h2 : d < q * g + g) : ((d : Nat) : Int) % (g : Int) = ((d - q * g : Nat) : Int) := by
  have h3 : d % g = d - q * g := by
    have h4 : d / g = q := Nat.div_eq_of_lt_le h1 (by rw [Nat.succ_mul]; exact h2)
    have h5 := Nat.div_add_mod d g
    rw [h4, Nat.mul_comm] at h5
    omega
  rw [← h3]; exact (Int.natCast_emod d g).symm
end Go.Proofs.Ythoafgfcoclkbaa
set_option maxRecDepth 100000
namespace Go.Proofs.Ythoafgfcoclkbaa
open Go.RowKit
theorem odtells_walk (N G B Q : Int) (v : Value) (l : List Int) (T_l : Nat → Prop) (w0 : World) (h_l : RoA rInt w0 T_l v (l)) :
  Calls Try.prog 3 #[.int .i64 (N), .agg #[.int .i64 (G), .int .i64 (B), .int .i64 (Q)], v] w0 fun e w' => e = .returned (.bool true) ∧ Kept (fun _ => False) w0 w' := by
 refine calls_wq (args := [iv N, .agg #[iv G, iv B, iv Q], v]) 82 Try.func3 rfl rfl (Nat.le_of_ble_eq_true rfl) ?_
 have K0 := Kept.refl (fun _ => False) w0
 have g_l := Grew.refl w0 T_l
 refine wq_seq (wq_region (wl_box_stc (vs := [iv G, iv B, iv Q]) rfl rfl rfl rfl fun p1 w2 B4 g5 k3 => ?_))
 have B8 := h_l.all k3 Apart.none
 have K9 := K0.tr k3
 refine wl_v (.bool false) rfl rfl (y_asg rfl rfl rr) (wl_nil fun F10 hF11 => ?_)
 have s12 : F10 0 = iv N := (hF11 0).trans rfl
 have s13 : F10 2 = v := (hF11 2).trans rfl
 have s14 : F10 82 = undef := (hF11 82).trans rfl
 have s15 : F10 4 = pt p1 0 := (hF11 4).trans rfl
 clear hF11
 refine then_normal (wq_seq (wq_region (wl_cs rfl rfl rfl rfl rfl (fun _ _ => by kernel_rfl) vsN (odawake_any   _   ) fun w16 k17 => ?_)))
 have B18 := B8.all k17 Apart.none
 have B19 := B4.all k17 id
 have K20 := K9.tr k17
 refine wl_v (.bool true) rfl rfl (y_asg rfl rfl rr) (wl_nil fun F21 hF22 => ?_)
 obtain ⟨s23, s24, s25, s26⟩ := t4 hF22 0 s12 2 s13 82 s14 4 s15
 have s27 : F21 7 = .bool true := (hF22 7).trans rfl
 clear hF22
 refine then_normal (wq_seq (wq_seq (wq_region (wl_mv rfl rfl rfl s24 (wl_v (iv ((l.length : Nat) : Int)) rfl rfl (y_lenRo (r := rInt) rfl rfl rfl B18 rr) (wl_v (.bool (decide (300 < ((l.length : Nat) : Int)))) rfl rfl (y_gtr rfl rfl rfl rfl rr) (wl_nil fun F28 hF29 => ?_)))))))
 obtain ⟨s30, s31, s32, s33, s34⟩ := t5 hF29 0 s23 2 s24 82 s25 4 s26 7 s27
 have s35 : F28 22 = .bool (decide (300 < ((l.length : Nat) : Int))) := (hF29 22).trans rfl
 clear hF29
 refine then_normal ?_
 refine wq_cond s35 (fun c36 => ?_) (fun c36 => ?_)
 ·replace c36 := of_decide_eq_true c36
  refine wq_seq (wq_region (wl_mv rfl rfl rfl s34 (wl_v (.bool true) rfl rfl (y_asg rfl rfl rr) (wl_nil fun F37 hF38 => ?_))))
  have s39 := (hF38 82).trans s32
  have s40 : F37 6 = .bool true := (hF38 6).trans rfl
  clear hF38
  refine then_normal (wq_ret (then_ret ?_))
  exact end_tmp (v := .bool true) s39 rfl rfl s40 ⟨rfl, K20⟩
 ·replace c36 := of_decide_eq_false c36
  refine wq_skip (then_normal (wq_seq (wq_region (wl_mv rfl rfl rfl s30 (wl_v (.agg #[iv G, iv B, iv Q]) rfl rfl (y_load_stc stcT_plan rfl s33 B19 rr) (wl_call (R := fun v_ w_ => ∃ (v41 : Value) (T44 : Nat → Prop), .tuple #[v41, iv (slE N G B Q)] = v_ ∧ Kept (fun _ => False) w16 w_ ∧ (RoO rSl w_ T44 v41 (slL N G B Q) ∧ Grew w16 noB T44)) rfl rfl (y_cs rfl rfl rfl (fun _ _ => by kernel_rfl) (ev_func _) (vsC rfl (vsC rfl vsN)) (od_slots N G B Q  _   ) (fun e_ w_ h_ => by obtain ⟨v41_, T44_, he_, hr_⟩ := h_; exact ⟨_, he_, v41_, T44_, rfl, hr_⟩)) ?_))))))
  rintro _ w42 ⟨v41, T44, rfl, k43, ⟨B45, g46⟩⟩
  have B47 := B18.all k43 Apart.none
  have B48 := B19.all k43 id
  have K49 := K20.tr k43
  refine wl_v (.tuple #[v41, iv (slE N G B Q)]) rfl rfl (y_mov rfl rfl rr) (wl_v v41 rfl rfl (y_ext rfl rfl rfl rr) (wl_v (iv (slE N G B Q)) rfl rfl (y_ext rfl rfl rfl rr) (wl_v v41 rfl rfl (y_asg rfl rfl rr) (wl_v (iv (slE N G B Q)) rfl rfl (y_asg rfl rfl rr) (wl_nil fun F53 hF54 => ?_)))))
  obtain ⟨s55, s56, s57, s58, s59⟩ := t5 hF54 0 s30 2 s31 82 s32 4 s33 7 s34
  have s60 : F53 8 = v41 := (hF54 8).trans rfl
  have s61 : F53 9 = iv (slE N G B Q) := (hF54 9).trans rfl
  clear hF54
  refine then_normal (wq_seq (wq_region (wl_mv rfl rfl rfl s55 (wl_v (.agg #[iv G, iv B, iv Q]) rfl rfl (y_load_stc stcT_plan rfl s58 B48 rr) (wl_call (R := fun v_ w_ => ∃ (v62 : Value) (T65 : Nat → Prop), .tuple #[v62, iv (slE N G B Q)] = v_ ∧ Kept (fun _ => False) w42 w_ ∧ (RoO rSl w_ T65 v62 (slL N G B Q) ∧ Grew w42 noB T65)) rfl rfl (y_cs rfl rfl rfl (fun _ _ => by kernel_rfl) (ev_func _) (vsC rfl (vsC rfl vsN)) (oref_slots N G B Q  _   ) (fun e_ w_ h_ => by obtain ⟨v62_, T65_, he_, hr_⟩ := h_; exact ⟨_, he_, v62_, T65_, rfl, hr_⟩)) ?_)))))
  rintro _ w63 ⟨v62, T65, rfl, k64, ⟨B66, g67⟩⟩
  have B68 := B47.all k64 Apart.none
  have B69 := B48.all k64 id
  have B70 := B45.all k64 Apart.none
  have K71 := K49.tr k64
  refine wl_v (.tuple #[v62, iv (slE N G B Q)]) rfl rfl (y_mov rfl rfl rr) (wl_v v62 rfl rfl (y_ext rfl rfl rfl rr) (wl_v (iv (slE N G B Q)) rfl rfl (y_ext rfl rfl rfl rr) (wl_v v62 rfl rfl (y_asg rfl rfl rr) (wl_v (iv (slE N G B Q)) rfl rfl (y_asg rfl rfl rr) (wl_nil fun F76 hF77 => ?_)))))
  obtain ⟨s78, s79, s80, s81, s82, s83⟩ := t6 hF77 2 s56 82 s57 4 s58 7 s59 8 s60 9 s61
  have s84 : F76 10 = v62 := (hF77 10).trans rfl
  have s85 : F76 11 = iv (slE N G B Q) := (hF77 11).trans rfl
  clear hF77
  refine then_normal (wq_seq (wq_region (wl_mv rfl rfl rfl s78 (wl_call (R := fun v_ w_ => ∃ (v86 : Value) (T89 : Nat → Prop), .tuple #[v86, iv (shN l), iv (shE l)] = v_ ∧ Kept (fun _ => False) w63 w_ ∧ (RoO rInt w_ T89 v86 (shL l) ∧ Grew w63 noB T89)) rfl rfl (y_cs rfl rfl rfl (fun _ _ => by kernel_rfl) (ev_func _) (vsC rfl vsN) (od_show v l T_l _  B68 ) (fun e_ w_ h_ => by obtain ⟨v86_, T89_, he_, hr_⟩ := h_; exact ⟨_, he_, v86_, T89_, rfl, hr_⟩)) ?_))))
  rintro _ w87 ⟨v86, T89, rfl, k88, ⟨B90, g91⟩⟩
  have B92 := B68.all k88 Apart.none
  have B93 := B69.all k88 id
  have B94 := B70.all k88 Apart.none
  have B95 := B66.all k88 Apart.none
  have K96 := K71.tr k88
  refine wl_v (.tuple #[v86, iv (shN l), iv (shE l)]) rfl rfl (y_mov rfl rfl rr) (wl_v v86 rfl rfl (y_ext rfl rfl rfl rr) (wl_v (iv (shN l)) rfl rfl (y_ext rfl rfl rfl rr) (wl_v (iv (shE l)) rfl rfl (y_ext rfl rfl rfl rr) (wl_v v86 rfl rfl (y_asg rfl rfl rr) (wl_v (iv (shN l)) rfl rfl (y_asg rfl rfl rr) (wl_v (iv (shE l)) rfl rfl (y_asg rfl rfl rr) (wl_nil fun F102 hF103 => ?_)))))))
  obtain ⟨s104, s105, s106, s107, s108, s109, s110, s111⟩ := t8 hF103 2 s78 82 s79 4 s80 7 s81 8 s82 9 s83 10 s84 11 s85
  have s112 : F102 12 = v86 := (hF103 12).trans rfl
  have s113 : F102 13 = iv (shN l) := (hF103 13).trans rfl
  have s114 : F102 14 = iv (shE l) := (hF103 14).trans rfl
  clear hF103
  refine then_normal (wq_seq (wq_region (wl_mv rfl rfl rfl s104 (wl_call (R := fun v_ w_ => ∃ (v115 : Value) (T118 : Nat → Prop), .tuple #[v115, iv (shN l), iv (shE l)] = v_ ∧ Kept (fun _ => False) w87 w_ ∧ (RoO rInt w_ T118 v115 (shL l) ∧ Grew w87 noB T118)) rfl rfl (y_cs rfl rfl rfl (fun _ _ => by kernel_rfl) (ev_func _) (vsC rfl vsN) (oref_show v l T_l _  B92 ) (fun e_ w_ h_ => by obtain ⟨v115_, T118_, he_, hr_⟩ := h_; exact ⟨_, he_, v115_, T118_, rfl, hr_⟩)) ?_))))
  rintro _ w116 ⟨v115, T118, rfl, k117, ⟨B119, g120⟩⟩
  have B122 := B93.all k117 id
  have B123 := B94.all k117 Apart.none
  have B124 := B95.all k117 Apart.none
  have B125 := B90.all k117 Apart.none
  have K126 := K96.tr k117
  refine wl_v (.tuple #[v115, iv (shN l), iv (shE l)]) rfl rfl (y_mov rfl rfl rr) (wl_v v115 rfl rfl (y_ext rfl rfl rfl rr) (wl_v (iv (shN l)) rfl rfl (y_ext rfl rfl rfl rr) (wl_v (iv (shE l)) rfl rfl (y_ext rfl rfl rfl rr) (wl_v v115 rfl rfl (y_asg rfl rfl rr) (wl_v (iv (shN l)) rfl rfl (y_asg rfl rfl rr) (wl_v (iv (shE l)) rfl rfl (y_asg rfl rfl rr) (wl_nil fun F133 hF134 => ?_)))))))
  obtain ⟨s135, s136, s137, s138, s139, s140, s141, s142, s143, s144⟩ := t10 hF134 82 s105 4 s106 7 s107 8 s108 9 s109 10 s110 11 s111 12 s112 13 s113 14 s114
  have s145 : F133 15 = v115 := (hF134 15).trans rfl
  have s146 : F133 16 = iv (shN l) := (hF134 16).trans rfl
  have s147 : F133 17 = iv (shE l) := (hF134 17).trans rfl
  clear hF134
  refine then_normal (wq_seq (wq_region (wl_mv rfl rfl rfl s138 (wl_mv rfl rfl rfl s140 (wl_call (R := fun v_ w_ => v_ = .bool true ∧ Kept (fun _ => False) w116 w_) rfl rfl (y_cs rfl rfl rfl (fun _ _ => by kernel_rfl) (ev_func _) (vsC rfl (vsC rfl vsN)) (oref_same v41 (slL N G B Q) v62 (slL N G B Q) T44 T65 _  B123.roa B124.roa ) (fun e_ w_ h_ => ⟨_, h_.1, congrArg Value.bool (sameSls_self _), h_.2⟩)) ?_)))))
  rintro _ w148 ⟨rfl, k149⟩
  have B151 := B122.all k149 id
  have B154 := B125.all k149 Apart.none
  have B155 := B119.all k149 Apart.none
  have K156 := K126.tr k149
  refine wl_v (.bool true) rfl rfl (y_mov rfl rfl rr) (wl_vw v86 3 true 51 rfl rfl rfl rfl rfl (y_mov rfl s142 rr) (wl_vw v115 3 true 51 rfl rfl rfl rfl rfl (y_mov rfl s145 rr) (wl_callw (R := fun v_ w_ => v_ = .bool true ∧ Kept (fun _ => False) w148 w_) 3 true 51 rfl rfl rfl rfl rfl (y_cs rfl rfl rfl (fun _ _ => by kernel_rfl) (ev_func _) (vsC rfl (vsC rfl vsN)) (oref_numbers v86 (shL l) v115 (shL l) T89 T118 _  B154.roa B155.roa ) (fun e_ w_ h_ => ⟨_, h_.1, congrArg Value.bool (numS_self _), h_.2⟩)) ?_)))
  rintro _ w157 ⟨rfl, k158⟩
  have B160 := B151.all k158 id
  have K165 := K156.tr k158
  refine wl_v (.bool true) rfl rfl (y_pickT rfl rfl rfl rr) (wl_v (.bool true) rfl rfl (y_asg rfl rfl rr) (wl_nil fun F166 hF167 => ?_))
  obtain ⟨s168, s169, s170, s171, s172, s173, s174, s175, s176⟩ := t9 hF167 82 s135 4 s136 7 s137 9 s139 11 s141 13 s143 14 s144 16 s146 17 s147
  have s177 : F166 18 = .bool true := (hF167 18).trans rfl
  clear hF167
  refine then_normal (wq_seq ?_)
  refine wq_said [some 56, some 57, some 58, some 59, some 60, some 61, some 62, some 63, some 64, some 65, some 66, some 67, some 68, some 69, some 70, some 71, some 72, some 73, some 74, some 75, some 76, some 77, some 78, some 79, some 80, some 81, some 6] [Pd.eq (.bool true), Pd.eq (.bool true), Pd.eq (.agg #[iv G, iv B, iv Q]), Pd.eq (iv (planE G B Q)), Pd.eq (.agg #[iv G, iv B, iv Q]), Pd.eq (iv (planE G B Q)), Pd.eq (.bool true), Pd.eq (.bool true), Pd.eq (.bool true), Pd.eq (iv (slE N G B Q)), Pd.eq (iv (slE N G B Q)), Pd.eq (.bool true), Pd.eq (.bool true), Pd.eq (.bool true), Pd.eq (.bool true), Pd.eq (.bool true), Pd.eq (.bool true), Pd.eq (iv (shN l)), Pd.eq (iv (shN l)), Pd.eq (.bool true), Pd.eq (.bool true), Pd.eq (.bool true), Pd.eq (iv (shE l)), Pd.eq (iv (shE l)), Pd.eq (.bool true), Pd.eq (.bool true), Pd.eq (.bool true)] (by kernel_rfl) (by kernel_rfl) ?_ ?_
  ·refine stepsF_cons ?_ ?_
   ·refine StepF.one rfl fun F_ w_ hR hout hD => ?_
    exact (y_mov rfl ((hout 7 rfl (by decide)).trans s170) ⟨rfl, Kept.refl _ _⟩)
   refine stepsF_cons ?_ ?_
   ·refine StepF.one rfl fun F_ w_ hR hout hD => ?_
    have g56 : F_ 56 = .bool true := (hD.get 0 rfl rfl rfl)
    exact (y_mov rfl g56 ⟨rfl, Kept.refl _ _⟩)
   refine stepsF_cons ?_ ?_
   ·refine StepF.when 1 true 57 rfl rfl fun F_ w_ hR hout hD => ?_
    have g57 : F_ 57 = .bool true := (hD.get 0 rfl rfl rfl)
    exact ⟨g57, (y_load_stc stcT_plan rfl ((hout 4 rfl (by decide)).trans s169) (B160.all hR id) ⟨rfl, Kept.refl _ _⟩)⟩
   refine stepsF_cons ?_ ?_
   ·refine StepF.when 1 true 57 rfl rfl fun F_ w_ hR hout hD => ?_
    have g57 : F_ 57 = .bool true := (hD.get 1 rfl rfl rfl)
    have g58 : F_ 58 = .agg #[iv G, iv B, iv Q] := (hD.get 0 rfl rfl rfl)
    exact ⟨g57, (y_cs rfl rfl rfl (fun _ _ => by kernel_rfl) (ev_func _) (vsC g58 vsN) (od_check G B Q  _   ) (fun e_ w_ h_ => ⟨_, h_.1, rfl, h_.2⟩))⟩
   refine stepsF_cons ?_ ?_
   ·refine StepF.when 1 true 57 rfl rfl fun F_ w_ hR hout hD => ?_
    have g57 : F_ 57 = .bool true := (hD.get 0 rfl rfl rfl)
    exact ⟨g57, (y_load_stc stcT_plan rfl ((hout 4 rfl (by decide)).trans s169) (B160.all hR id) ⟨rfl, Kept.refl _ _⟩)⟩
   refine stepsF_cons ?_ ?_
   ·refine StepF.when 1 true 57 rfl rfl fun F_ w_ hR hout hD => ?_
    have g57 : F_ 57 = .bool true := (hD.get 2 rfl rfl rfl)
    have g60 : F_ 60 = .agg #[iv G, iv B, iv Q] := (hD.get 0 rfl rfl rfl)
    exact ⟨g57, (y_cs rfl rfl rfl (fun _ _ => by kernel_rfl) (ev_func _) (vsC g60 vsN) (oref_check G B Q  _   ) (fun e_ w_ h_ => ⟨_, h_.1, rfl, h_.2⟩))⟩
   refine stepsF_cons ?_ ?_
   ·refine StepF.when 1 true 57 rfl rfl fun F_ w_ hR hout hD => ?_
    have g57 : F_ 57 = .bool true := (hD.get 2 rfl rfl rfl)
    have g59 : F_ 59 = iv (planE G B Q) := (hD.get 0 rfl rfl rfl)
    have g61 : F_ 61 = iv (planE G B Q) := (hD.get 1 rfl rfl rfl)
    exact ⟨g57, (y_eqlI rfl g59 g61 (decide_eq_true rfl) ⟨rfl, Kept.refl _ _⟩)⟩
   refine stepsF_cons ?_ ?_
   ·refine StepF.one rfl fun F_ w_ hR hout hD => ?_
    have g57 : F_ 57 = .bool true := (hD.get 0 rfl rfl rfl)
    have g62 : F_ 62 = .bool true := (hD.get 1 rfl rfl rfl)
    exact (y_pickT rfl g57 g62 ⟨rfl, Kept.refl _ _⟩)
   refine stepsF_cons ?_ ?_
   ·refine StepF.one rfl fun F_ w_ hR hout hD => ?_
    have g63 : F_ 63 = .bool true := (hD.get 0 rfl rfl rfl)
    exact (y_mov rfl g63 ⟨rfl, Kept.refl _ _⟩)
   refine stepsF_cons ?_ ?_
   ·refine StepF.when 8 true 64 rfl rfl fun F_ w_ hR hout hD => ?_
    have g64 : F_ 64 = .bool true := (hD.get 0 rfl rfl rfl)
    exact ⟨g64, (y_mov rfl ((hout 9 rfl (by decide)).trans s171) ⟨rfl, Kept.refl _ _⟩)⟩
   refine stepsF_cons ?_ ?_
   ·refine StepF.when 8 true 64 rfl rfl fun F_ w_ hR hout hD => ?_
    have g64 : F_ 64 = .bool true := (hD.get 0 rfl rfl rfl)
    exact ⟨g64, (y_mov rfl ((hout 11 rfl (by decide)).trans s172) ⟨rfl, Kept.refl _ _⟩)⟩
   refine stepsF_cons ?_ ?_
   ·refine StepF.when 8 true 64 rfl rfl fun F_ w_ hR hout hD => ?_
    have g64 : F_ 64 = .bool true := (hD.get 2 rfl rfl rfl)
    have g65 : F_ 65 = iv (slE N G B Q) := (hD.get 0 rfl rfl rfl)
    have g66 : F_ 66 = iv (slE N G B Q) := (hD.get 1 rfl rfl rfl)
    exact ⟨g64, (y_eqlI rfl g65 g66 (decide_eq_true rfl) ⟨rfl, Kept.refl _ _⟩)⟩
   refine stepsF_cons ?_ ?_
   ·refine StepF.one rfl fun F_ w_ hR hout hD => ?_
    have g64 : F_ 64 = .bool true := (hD.get 0 rfl rfl rfl)
    have g67 : F_ 67 = .bool true := (hD.get 1 rfl rfl rfl)
    exact (y_pickT rfl g64 g67 ⟨rfl, Kept.refl _ _⟩)
   refine stepsF_cons ?_ ?_
   ·refine StepF.one rfl fun F_ w_ hR hout hD => ?_
    have g68 : F_ 68 = .bool true := (hD.get 0 rfl rfl rfl)
    exact (y_mov rfl g68 ⟨rfl, Kept.refl _ _⟩)
   refine stepsF_cons ?_ ?_
   ·refine StepF.when 13 true 69 rfl rfl fun F_ w_ hR hout hD => ?_
    have g69 : F_ 69 = .bool true := (hD.get 0 rfl rfl rfl)
    exact ⟨g69, (y_mov rfl ((hout 18 rfl (by decide)).trans s177) ⟨rfl, Kept.refl _ _⟩)⟩
   refine stepsF_cons ?_ ?_
   ·refine StepF.one rfl fun F_ w_ hR hout hD => ?_
    have g69 : F_ 69 = .bool true := (hD.get 0 rfl rfl rfl)
    have g70 : F_ 70 = .bool true := (hD.get 1 rfl rfl rfl)
    exact (y_pickT rfl g69 g70 ⟨rfl, Kept.refl _ _⟩)
   refine stepsF_cons ?_ ?_
   ·refine StepF.one rfl fun F_ w_ hR hout hD => ?_
    have g71 : F_ 71 = .bool true := (hD.get 0 rfl rfl rfl)
    exact (y_mov rfl g71 ⟨rfl, Kept.refl _ _⟩)
   refine stepsF_cons ?_ ?_
   ·refine StepF.when 16 true 72 rfl rfl fun F_ w_ hR hout hD => ?_
    have g72 : F_ 72 = .bool true := (hD.get 0 rfl rfl rfl)
    exact ⟨g72, (y_mov rfl ((hout 13 rfl (by decide)).trans s173) ⟨rfl, Kept.refl _ _⟩)⟩
   refine stepsF_cons ?_ ?_
   ·refine StepF.when 16 true 72 rfl rfl fun F_ w_ hR hout hD => ?_
    have g72 : F_ 72 = .bool true := (hD.get 0 rfl rfl rfl)
    exact ⟨g72, (y_mov rfl ((hout 16 rfl (by decide)).trans s175) ⟨rfl, Kept.refl _ _⟩)⟩
   refine stepsF_cons ?_ ?_
   ·refine StepF.when 16 true 72 rfl rfl fun F_ w_ hR hout hD => ?_
    have g72 : F_ 72 = .bool true := (hD.get 2 rfl rfl rfl)
    have g73 : F_ 73 = iv (shN l) := (hD.get 0 rfl rfl rfl)
    have g74 : F_ 74 = iv (shN l) := (hD.get 1 rfl rfl rfl)
    exact ⟨g72, (y_eqlI rfl g73 g74 (decide_eq_true rfl) ⟨rfl, Kept.refl _ _⟩)⟩
   refine stepsF_cons ?_ ?_
   ·refine StepF.one rfl fun F_ w_ hR hout hD => ?_
    have g72 : F_ 72 = .bool true := (hD.get 0 rfl rfl rfl)
    have g75 : F_ 75 = .bool true := (hD.get 1 rfl rfl rfl)
    exact (y_pickT rfl g72 g75 ⟨rfl, Kept.refl _ _⟩)
   refine stepsF_cons ?_ ?_
   ·refine StepF.one rfl fun F_ w_ hR hout hD => ?_
    have g76 : F_ 76 = .bool true := (hD.get 0 rfl rfl rfl)
    exact (y_mov rfl g76 ⟨rfl, Kept.refl _ _⟩)
   refine stepsF_cons ?_ ?_
   ·refine StepF.when 21 true 77 rfl rfl fun F_ w_ hR hout hD => ?_
    have g77 : F_ 77 = .bool true := (hD.get 0 rfl rfl rfl)
    exact ⟨g77, (y_mov rfl ((hout 14 rfl (by decide)).trans s174) ⟨rfl, Kept.refl _ _⟩)⟩
   refine stepsF_cons ?_ ?_
   ·refine StepF.when 21 true 77 rfl rfl fun F_ w_ hR hout hD => ?_
    have g77 : F_ 77 = .bool true := (hD.get 0 rfl rfl rfl)
    exact ⟨g77, (y_mov rfl ((hout 17 rfl (by decide)).trans s176) ⟨rfl, Kept.refl _ _⟩)⟩
   refine stepsF_cons ?_ ?_
   ·refine StepF.when 21 true 77 rfl rfl fun F_ w_ hR hout hD => ?_
    have g77 : F_ 77 = .bool true := (hD.get 2 rfl rfl rfl)
    have g78 : F_ 78 = iv (shE l) := (hD.get 0 rfl rfl rfl)
    have g79 : F_ 79 = iv (shE l) := (hD.get 1 rfl rfl rfl)
    exact ⟨g77, (y_eqlI rfl g78 g79 (decide_eq_true rfl) ⟨rfl, Kept.refl _ _⟩)⟩
   refine stepsF_cons ?_ ?_
   ·refine StepF.one rfl fun F_ w_ hR hout hD => ?_
    have g77 : F_ 77 = .bool true := (hD.get 0 rfl rfl rfl)
    have g80 : F_ 80 = .bool true := (hD.get 1 rfl rfl rfl)
    exact (y_pickT rfl g77 g80 ⟨rfl, Kept.refl _ _⟩)
   refine stepsF_cons ?_ ?_
   ·refine StepF.one rfl fun F_ w_ hR hout hD => ?_
    have g81 : F_ 81 = .bool true := (hD.get 0 rfl rfl rfl)
    exact (y_asg rfl g81 ⟨rfl, Kept.refl _ _⟩)
   exact stepsF_nil
  intro v178 F179 w180 k181 G182 hF183
  have K191 := K165.tr k181
  have s192 := (hF183 82).trans s168
  have s193 : F179 6 = .bool true := (hF183 6).trans (G182 26 (by decide))
  clear G182 hF183
  refine then_normal (wq_ret ?_)
  exact end_tmp (v := .bool true) s192 rfl rfl s193 ⟨rfl, K191⟩
end Go.Proofs.Ythoafgfcoclkbaa
set_option maxRecDepth 100000
namespace Go.Proofs.Ythoafgfcoclkbaa
open Go.ChangeShapes Go.WideShapes Go.ChangeAt Go.RowKit Go.Deep
section
variable {H : Type} {enc : TypeId × Value → H} {w : World} {base : Nat} {spare : Nat → Bool} {held : Bool}
theorem rows_open {α : Type} (r : RowT α) [hk : r.Ok] (P : α → Prop) (hce : Try.prog.cellsOf r.e = r.k)
    (hel : ∀ fuel cs y, DataW.trod enc Try.prog w base spare held fuel r.e cs = some y → ∃ u, cs = r.enc u ∧ P u)
    {fuel : Nat} {v : Value} {x : DataW H × List MemPlace} (h : DataW.trod enc Try.prog w base spare held fuel r.t [v] = some x) :
    ∃ (T : Nat → Prop) (l : List α), RoA r w T v l ∧ ∀ i, i < l.length → P (l.getD i r.d) := by
  rcases open_slice hk.slice h with ⟨hcs, _⟩ | ⟨a, len, cap, m, n, D, Pl, hcs, hb, hl, hm, hmm, hx, hi⟩
  · simp at hcs
    subst hcs
    exact ⟨noB, [], RoA.nil r w, fun i h => absurd h (by simp)⟩
  · simp at hcs
    subst hcs
    rw [hce] at hi
    have hle : len ≤ m := by rw [hmm]; split <;> omega
    have hq : ∀ i, i < len → ∃ u : α, P u ∧ ∀ j, j < r.k → w.cell? ((a.add (i * r.k)).add j) = (r.enc u)[j]? := by
      intro i hil
      obtain ⟨cs', hc, ht⟩ := hi i (by omega)
      obtain ⟨_, hlen, hat⟩ := World.cells?_some hc
      obtain ⟨u, rfl, hp⟩ := hel _ _ _ ht
      exact ⟨u, hp, fun j hj => hat j hj⟩
    have hc : ∃ f : Nat → α, ∀ i, i < len → P (f i) ∧ ∀ j, j < r.k → w.cell? ((a.add (i * r.k)).add j) = (r.enc (f i))[j]? :=
      ⟨fun i => if h : i < len then Classical.choose (hq i h) else r.d, fun i h => by simp only [dif_pos h]; exact Classical.choose_spec (hq i h)⟩
    obtain ⟨f, hf⟩ := hc
    have hgd : ∀ i, i < len → ((List.range len).map f).getD i r.d = f i := fun i hil => by simp [List.getD, hil]
    by_cases hpos : 0 < len
    · obtain ⟨b, off, spot⟩ := a
      have h0 : w.cell? (((⟨b, off, spot⟩ : Addr).add (0 * r.k)).add 0) = some ((r.enc (f 0))[0]'(by rw [hk.len]; exact hk.pos)) := by
        rw [(hf 0 hpos).2 0 hk.pos]; exact List.getElem?_eq_getElem _
      have hs := World.cell?_spot h0
      have hspot : spot = none := by simpa [Addr.add] using hs
      subst hspot
      have hlt : b < w.heap.size := by
        rw [Addr.add_lit, Addr.add_lit] at h0
        exact World.block_lt_of_cell? w _ h0
      refine ⟨onB b, (List.range len).map f, ⟨some ⟨b, off, none⟩, cap, by simp, by simpa using hl, hm, (fun e => by cases e), onB_live hlt, fun _ => ⟨b, off, rfl, rfl, fun j u hj => ?_⟩⟩, fun i hi2 => ?_⟩
      · have hjl : j < ((List.range len).map f).length * r.k := by
          rw [← flat_len (r := r)]
          exact (List.getElem?_eq_some_iff.1 hj).1
        have hjl' : j < len * r.k := by simpa using hjl
        have hi2 : j / r.k < len := Nat.div_lt_of_lt_mul (by rw [Nat.mul_comm]; exact hjl')
        have hm2 : j % r.k < r.k := Nat.mod_lt _ hk.pos
        have e := flat_at (r := r) ((List.range len).map f) (j / r.k) (j % r.k) (by simpa using hi2) hm2
        have hd : j / r.k * r.k + j % r.k = j := by rw [Nat.mul_comm]; exact Nat.div_add_mod j r.k
        rw [hd, hj, hgd _ hi2] at e
        have hcell := (hf _ hi2).2 _ hm2
        rw [Addr.add_lit, Addr.add_lit, show off + j / r.k * r.k + j % r.k = off + j by omega] at hcell
        rw [hcell, ← e]
      · have hil : i < len := by simpa using hi2
        rw [hgd i hil]; exact (hf i hil).1
    · have h0 : len = 0 := by omega
      subst h0
      exact ⟨noB, [], ⟨some a, cap, rfl, Nat.zero_le _, hm, (fun e => by cases e), (fun _ h => h.elim), fun h => absurd h (by simp)⟩, fun i h => absurd h (by simp)⟩
end
end Go.Proofs.Ythoafgfcoclkbaa
set_option maxRecDepth 100000
namespace Go.Proofs.Ythoafgfcoclkbaa
open Go.ChangeShapes Go.WideShapes Go.ChangeAt Go.RowKit Go.Deep Go.Joins
section
variable {H : Type} {enc : TypeId × Value → H} {w : World} {base : Nat} {spare : Nat → Bool} {held : Bool}
theorem Try.cellsIntN : Try.prog.cellsOf 3 = 1 := by kernel_rfl
theorem Try.cells_plan : Try.prog.cellsOf 23 = 3 := by kernel_rfl
theorem nums_open {fuel : Nat} {v : Value} {x : DataW H × List MemPlace} (h : DataW.trod enc Try.prog w base spare held fuel 24 [v] = some x) :
    ∃ (T : Nat → Prop) (l : List Int), RoA rInt w T v l := by
  obtain ⟨T, l, hl, _⟩ := rows_open rInt (fun _ => True) Try.cellsIntN (fun fuel cs y hy => by
    obtain ⟨X, hX, _, _⟩ := DataW.trod_int Try.underlying3 hy
    exact ⟨X, hX, trivial⟩) h
  exact ⟨T, l, hl⟩
theorem plan_open {r : Reach} {b0 : Nat} {v : Value} {d : DataW H} {ps : List MemPlace} (hval : Value.okWide Try.prog w r b0 23 v) (h : DataW.Trod enc Try.prog w base spare held 23 v d ps) :
    ∃ a b c : Int, v = .agg #[.int .i64 a, .int .i64 b, .int .i64 c] := by
  obtain ⟨cs, rfl, hsz⟩ := okWide_struct Try.underlying23 hval
  rw [Try.cells_plan] at hsz
  obtain ⟨cs⟩ := cs
  obtain ⟨fuel, hf⟩ := h
  match cs, hsz with
  | [c0, c1, c2], _ =>
    obtain ⟨y0, y1, y2, n, _, _, h0, h1, h2⟩ := trod_struct3 (cs := [c0, c1, c2]) Try.underlying23 hf
    simp only [Try.cellsIntN, List.drop_zero, List.drop_succ_cons, List.take_succ_cons, List.take_zero] at h0 h1 h2
    obtain ⟨a, ha, _, _⟩ := DataW.trod_int Try.underlying3 h0
    obtain ⟨b, hb, _, _⟩ := DataW.trod_int Try.underlying3 h1
    obtain ⟨c, hc, _, _⟩ := DataW.trod_int Try.underlying3 h2
    simp only [List.cons.injEq, and_true] at ha hb hc
    subst ha; subst hb; subst hc
    exact ⟨a, b, c, rfl⟩
end
end Go.Proofs.Ythoafgfcoclkbaa
