/- What OrderTells reaches of my texts, part 3. -/
import Derived.Test.YthoafgfcoclkbaaOrderTellsB
set_option maxRecDepth 100000
set_option maxHeartbeats 4000000
set_option maxRecDepth 100000
namespace Go.Proofs.Ythoafgfcoclkbaa
open Go.RowKit
theorem stcT_plan : StcT Try.prog 23 3 := ⟨_, Try.underlying23, rfl, by kernel_rfl⟩
theorem stcT_slot : StcT Try.prog 38 4 := ⟨_, Try.underlying38, rfl, by kernel_rfl⟩
theorem oref_check (G B Q : Int) (w0 : World) :
  Calls Try.prog 16 #[.agg #[.int .i64 (G), .int .i64 (B), .int .i64 (Q)]] w0 fun e w' => e = .returned (.int .i64 (planE G B Q)) ∧ Kept (fun _ => False) w0 w' := by
 refine calls_wq (args := [.agg #[iv G, iv B, iv Q]]) 31 Try.func16 rfl rfl (Nat.le_of_ble_eq_true rfl) ?_
 have K0 := Kept.refl (fun _ => False) w0
 refine wq_seq (wq_region (wl_box_stc (vs := [iv G, iv B, iv Q]) rfl rfl rfl rfl fun p1 w2 B4 g5 k3 => ?_))
 have K7 := K0.tr k3
 refine wl_v (iv 0) rfl rfl (y_asg rfl rfl rr) (wl_nil fun F8 hF9 => ?_)
 have s10 : F8 31 = undef := (hF9 31).trans rfl
 have s11 : F8 1 = pt p1 0 := (hF9 1).trans rfl
 clear hF9
 refine then_normal (wq_seq (wq_seq ?_))
 by_cases d12 : G < 1
 ·skip
  refine wq_region (wl_v (pt p1 0) rfl rfl (y_fieldR (n := 1) rfl s11 Try.underlying23 rfl (by kernel_rfl) (by decide) rfl rr) (wl_v (iv G) rfl rfl (y_ld_stc rfl rfl Try.underlying3 B4 rfl rfl rr) (wl_v (.bool true) rfl rfl (y_lss rfl rfl rfl (decide_eq_true d12) rr) (wl_v (.bool true) rfl rfl (y_mov rfl rfl rr) (wl_unless 3 false 6 rfl rfl rfl (Or.inl rfl) rfl (wl_unless 3 false 6 rfl rfl rfl (Or.inl rfl) rfl (wl_unless 3 false 6 rfl rfl rfl (Or.inl rfl) rfl (wl_v (.bool true) rfl rfl (y_pickT rfl rfl rfl rr) (wl_v (.bool true) rfl rfl (y_mov rfl rfl rr) (wl_unless 8 false 11 rfl rfl rfl (Or.inl rfl) rfl (wl_unless 8 false 11 rfl rfl rfl (Or.inl rfl) rfl ?_)))))))))))
  refine wl_unless 8 false 11 rfl rfl rfl (Or.inl rfl) rfl (wl_v (.bool true) rfl rfl (y_pickT rfl rfl rfl rr) (wl_v (.bool true) rfl rfl (y_mov rfl rfl rr) (wl_unless 13 false 16 rfl rfl rfl (Or.inl rfl) rfl (wl_unless 13 false 16 rfl rfl rfl (Or.inl rfl) rfl (wl_unless 13 false 16 rfl rfl rfl (Or.inl rfl) rfl (wl_v (.bool true) rfl rfl (y_pickT rfl rfl rfl rr) (wl_v (.bool true) rfl rfl (y_mov rfl rfl rr) (wl_unless 18 false 21 rfl rfl rfl (Or.inl rfl) rfl (wl_unless 18 false 21 rfl rfl rfl (Or.inl rfl) rfl (wl_unless 18 false 21 rfl rfl rfl (Or.inl rfl) rfl (wl_v (.bool true) rfl rfl (y_pickT rfl rfl rfl rr) ?_)))))))))))
  refine wl_v (.bool true) rfl rfl (y_mov rfl rfl rr) (wl_unless 23 false 26 rfl rfl rfl (Or.inl rfl) rfl (wl_unless 23 false 26 rfl rfl rfl (Or.inl rfl) rfl (wl_unless 23 false 26 rfl rfl rfl (Or.inl rfl) rfl (wl_v (.bool true) rfl rfl (y_pickT rfl rfl rfl rr) (wl_nil fun F13 hF14 => ?_)))))
  have s15 := (hF14 31).trans s10
  have s16 : F13 30 = .bool true := (hF14 30).trans rfl
  clear hF14
  refine then_normal ?_
  refine wq_cond (t := true) s16 (fun _ => ?_) (fun e => by cases e)
  refine wq_seq (wq_region (wl_v (iv 150) rfl rfl (y_asg rfl rfl rr) (wl_nil fun F17 hF18 => ?_)))
  have s19 := (hF18 31).trans s15
  have s20 : F17 2 = iv 150 := (hF18 2).trans rfl
  clear hF18
  refine then_normal (wq_ret (then_ret ?_))
  exact end_tmp (v := iv 150) s19 rfl rfl s20 ⟨(by first | rw [show planE G B Q = 0 from if_pos (by unfold planOk; omega)] | rw [show planE G B Q = 150 from if_neg (by unfold planOk; omega)]), K7⟩
 ·skip
  by_cases d21 : 16 < G
  ·skip
   refine wq_region (wl_v (pt p1 0) rfl rfl (y_fieldR (n := 1) rfl s11 Try.underlying23 rfl (by kernel_rfl) (by decide) rfl rr) (wl_v (iv G) rfl rfl (y_ld_stc rfl rfl Try.underlying3 B4 rfl rfl rr) (wl_v (.bool false) rfl rfl (y_lss rfl rfl rfl (decide_eq_false d12) rr) (wl_v (.bool false) rfl rfl (y_mov rfl rfl rr) (wl_vw (pt p1 0) 3 false 6 rfl rfl rfl rfl rfl (y_fieldR (n := 1) rfl s11 Try.underlying23 rfl (by kernel_rfl) (by decide) rfl rr) (wl_vw (iv G) 3 false 6 rfl rfl rfl rfl rfl (y_ld_stc rfl rfl Try.underlying3 B4 rfl rfl rr) (wl_vw (.bool true) 3 false 6 rfl rfl rfl rfl rfl (y_gtr rfl rfl rfl (decide_eq_true d21) rr) (wl_v (.bool true) rfl rfl (y_pickF rfl rfl rfl rr) (wl_v (.bool true) rfl rfl (y_mov rfl rfl rr) (wl_unless 8 false 11 rfl rfl rfl (Or.inl rfl) rfl (wl_unless 8 false 11 rfl rfl rfl (Or.inl rfl) rfl ?_)))))))))))
   refine wl_unless 8 false 11 rfl rfl rfl (Or.inl rfl) rfl (wl_v (.bool true) rfl rfl (y_pickT rfl rfl rfl rr) (wl_v (.bool true) rfl rfl (y_mov rfl rfl rr) (wl_unless 13 false 16 rfl rfl rfl (Or.inl rfl) rfl (wl_unless 13 false 16 rfl rfl rfl (Or.inl rfl) rfl (wl_unless 13 false 16 rfl rfl rfl (Or.inl rfl) rfl (wl_v (.bool true) rfl rfl (y_pickT rfl rfl rfl rr) (wl_v (.bool true) rfl rfl (y_mov rfl rfl rr) (wl_unless 18 false 21 rfl rfl rfl (Or.inl rfl) rfl (wl_unless 18 false 21 rfl rfl rfl (Or.inl rfl) rfl (wl_unless 18 false 21 rfl rfl rfl (Or.inl rfl) rfl (wl_v (.bool true) rfl rfl (y_pickT rfl rfl rfl rr) ?_)))))))))))
   refine wl_v (.bool true) rfl rfl (y_mov rfl rfl rr) (wl_unless 23 false 26 rfl rfl rfl (Or.inl rfl) rfl (wl_unless 23 false 26 rfl rfl rfl (Or.inl rfl) rfl (wl_unless 23 false 26 rfl rfl rfl (Or.inl rfl) rfl (wl_v (.bool true) rfl rfl (y_pickT rfl rfl rfl rr) (wl_nil fun F22 hF23 => ?_)))))
   have s24 := (hF23 31).trans s10
   have s25 : F22 30 = .bool true := (hF23 30).trans rfl
   clear hF23
   refine then_normal ?_
   refine wq_cond (t := true) s25 (fun _ => ?_) (fun e => by cases e)
   refine wq_seq (wq_region (wl_v (iv 150) rfl rfl (y_asg rfl rfl rr) (wl_nil fun F26 hF27 => ?_)))
   have s28 := (hF27 31).trans s24
   have s29 : F26 2 = iv 150 := (hF27 2).trans rfl
   clear hF27
   refine then_normal (wq_ret (then_ret ?_))
   exact end_tmp (v := iv 150) s28 rfl rfl s29 ⟨(by first | rw [show planE G B Q = 0 from if_pos (by unfold planOk; omega)] | rw [show planE G B Q = 150 from if_neg (by unfold planOk; omega)]), K7⟩
  ·skip
   by_cases d30 : B < 0
   ·skip
    refine wq_region (wl_v (pt p1 0) rfl rfl (y_fieldR (n := 1) rfl s11 Try.underlying23 rfl (by kernel_rfl) (by decide) rfl rr) (wl_v (iv G) rfl rfl (y_ld_stc rfl rfl Try.underlying3 B4 rfl rfl rr) (wl_v (.bool false) rfl rfl (y_lss rfl rfl rfl (decide_eq_false d12) rr) (wl_v (.bool false) rfl rfl (y_mov rfl rfl rr) (wl_vw (pt p1 0) 3 false 6 rfl rfl rfl rfl rfl (y_fieldR (n := 1) rfl s11 Try.underlying23 rfl (by kernel_rfl) (by decide) rfl rr) (wl_vw (iv G) 3 false 6 rfl rfl rfl rfl rfl (y_ld_stc rfl rfl Try.underlying3 B4 rfl rfl rr) (wl_vw (.bool false) 3 false 6 rfl rfl rfl rfl rfl (y_gtr rfl rfl rfl (decide_eq_false d21) rr) (wl_v (.bool false) rfl rfl (y_pickF rfl rfl rfl rr) (wl_v (.bool false) rfl rfl (y_mov rfl rfl rr) (wl_vw (pt p1 1) 8 false 11 rfl rfl rfl rfl rfl (y_fieldR (n := 1) rfl s11 Try.underlying23 rfl (by kernel_rfl) (by decide) rfl rr) (wl_vw (iv B) 8 false 11 rfl rfl rfl rfl rfl (y_ld_stc rfl rfl Try.underlying3 B4 rfl rfl rr) ?_)))))))))))
    refine wl_vw (.bool true) 8 false 11 rfl rfl rfl rfl rfl (y_lss rfl rfl rfl (decide_eq_true d30) rr) (wl_v (.bool true) rfl rfl (y_pickF rfl rfl rfl rr) (wl_v (.bool true) rfl rfl (y_mov rfl rfl rr) (wl_unless 13 false 16 rfl rfl rfl (Or.inl rfl) rfl (wl_unless 13 false 16 rfl rfl rfl (Or.inl rfl) rfl (wl_unless 13 false 16 rfl rfl rfl (Or.inl rfl) rfl (wl_v (.bool true) rfl rfl (y_pickT rfl rfl rfl rr) (wl_v (.bool true) rfl rfl (y_mov rfl rfl rr) (wl_unless 18 false 21 rfl rfl rfl (Or.inl rfl) rfl (wl_unless 18 false 21 rfl rfl rfl (Or.inl rfl) rfl (wl_unless 18 false 21 rfl rfl rfl (Or.inl rfl) rfl (wl_v (.bool true) rfl rfl (y_pickT rfl rfl rfl rr) ?_)))))))))))
    refine wl_v (.bool true) rfl rfl (y_mov rfl rfl rr) (wl_unless 23 false 26 rfl rfl rfl (Or.inl rfl) rfl (wl_unless 23 false 26 rfl rfl rfl (Or.inl rfl) rfl (wl_unless 23 false 26 rfl rfl rfl (Or.inl rfl) rfl (wl_v (.bool true) rfl rfl (y_pickT rfl rfl rfl rr) (wl_nil fun F31 hF32 => ?_)))))
    have s33 := (hF32 31).trans s10
    have s34 : F31 30 = .bool true := (hF32 30).trans rfl
    clear hF32
    refine then_normal ?_
    refine wq_cond (t := true) s34 (fun _ => ?_) (fun e => by cases e)
    refine wq_seq (wq_region (wl_v (iv 150) rfl rfl (y_asg rfl rfl rr) (wl_nil fun F35 hF36 => ?_)))
    have s37 := (hF36 31).trans s33
    have s38 : F35 2 = iv 150 := (hF36 2).trans rfl
    clear hF36
    refine then_normal (wq_ret (then_ret ?_))
    exact end_tmp (v := iv 150) s37 rfl rfl s38 ⟨(by first | rw [show planE G B Q = 0 from if_pos (by unfold planOk; omega)] | rw [show planE G B Q = 150 from if_neg (by unfold planOk; omega)]), K7⟩
   ·skip
    by_cases d39 : 3 < B
    ·skip
     refine wq_region (wl_v (pt p1 0) rfl rfl (y_fieldR (n := 1) rfl s11 Try.underlying23 rfl (by kernel_rfl) (by decide) rfl rr) (wl_v (iv G) rfl rfl (y_ld_stc rfl rfl Try.underlying3 B4 rfl rfl rr) (wl_v (.bool false) rfl rfl (y_lss rfl rfl rfl (decide_eq_false d12) rr) (wl_v (.bool false) rfl rfl (y_mov rfl rfl rr) (wl_vw (pt p1 0) 3 false 6 rfl rfl rfl rfl rfl (y_fieldR (n := 1) rfl s11 Try.underlying23 rfl (by kernel_rfl) (by decide) rfl rr) (wl_vw (iv G) 3 false 6 rfl rfl rfl rfl rfl (y_ld_stc rfl rfl Try.underlying3 B4 rfl rfl rr) (wl_vw (.bool false) 3 false 6 rfl rfl rfl rfl rfl (y_gtr rfl rfl rfl (decide_eq_false d21) rr) (wl_v (.bool false) rfl rfl (y_pickF rfl rfl rfl rr) (wl_v (.bool false) rfl rfl (y_mov rfl rfl rr) (wl_vw (pt p1 1) 8 false 11 rfl rfl rfl rfl rfl (y_fieldR (n := 1) rfl s11 Try.underlying23 rfl (by kernel_rfl) (by decide) rfl rr) (wl_vw (iv B) 8 false 11 rfl rfl rfl rfl rfl (y_ld_stc rfl rfl Try.underlying3 B4 rfl rfl rr) ?_)))))))))))
     refine wl_vw (.bool false) 8 false 11 rfl rfl rfl rfl rfl (y_lss rfl rfl rfl (decide_eq_false d30) rr) (wl_v (.bool false) rfl rfl (y_pickF rfl rfl rfl rr) (wl_v (.bool false) rfl rfl (y_mov rfl rfl rr) (wl_vw (pt p1 1) 13 false 16 rfl rfl rfl rfl rfl (y_fieldR (n := 1) rfl s11 Try.underlying23 rfl (by kernel_rfl) (by decide) rfl rr) (wl_vw (iv B) 13 false 16 rfl rfl rfl rfl rfl (y_ld_stc rfl rfl Try.underlying3 B4 rfl rfl rr) (wl_vw (.bool true) 13 false 16 rfl rfl rfl rfl rfl (y_gtr rfl rfl rfl (decide_eq_true d39) rr) (wl_v (.bool true) rfl rfl (y_pickF rfl rfl rfl rr) (wl_v (.bool true) rfl rfl (y_mov rfl rfl rr) (wl_unless 18 false 21 rfl rfl rfl (Or.inl rfl) rfl (wl_unless 18 false 21 rfl rfl rfl (Or.inl rfl) rfl (wl_unless 18 false 21 rfl rfl rfl (Or.inl rfl) rfl (wl_v (.bool true) rfl rfl (y_pickT rfl rfl rfl rr) ?_)))))))))))
     refine wl_v (.bool true) rfl rfl (y_mov rfl rfl rr) (wl_unless 23 false 26 rfl rfl rfl (Or.inl rfl) rfl (wl_unless 23 false 26 rfl rfl rfl (Or.inl rfl) rfl (wl_unless 23 false 26 rfl rfl rfl (Or.inl rfl) rfl (wl_v (.bool true) rfl rfl (y_pickT rfl rfl rfl rr) (wl_nil fun F40 hF41 => ?_)))))
     have s42 := (hF41 31).trans s10
     have s43 : F40 30 = .bool true := (hF41 30).trans rfl
     clear hF41
     refine then_normal ?_
     refine wq_cond (t := true) s43 (fun _ => ?_) (fun e => by cases e)
     refine wq_seq (wq_region (wl_v (iv 150) rfl rfl (y_asg rfl rfl rr) (wl_nil fun F44 hF45 => ?_)))
     have s46 := (hF45 31).trans s42
     have s47 : F44 2 = iv 150 := (hF45 2).trans rfl
     clear hF45
     refine then_normal (wq_ret (then_ret ?_))
     exact end_tmp (v := iv 150) s46 rfl rfl s47 ⟨(by first | rw [show planE G B Q = 0 from if_pos (by unfold planOk; omega)] | rw [show planE G B Q = 150 from if_neg (by unfold planOk; omega)]), K7⟩
    ·skip
     by_cases d48 : Q < 0
     ·skip
      refine wq_region (wl_v (pt p1 0) rfl rfl (y_fieldR (n := 1) rfl s11 Try.underlying23 rfl (by kernel_rfl) (by decide) rfl rr) (wl_v (iv G) rfl rfl (y_ld_stc rfl rfl Try.underlying3 B4 rfl rfl rr) (wl_v (.bool false) rfl rfl (y_lss rfl rfl rfl (decide_eq_false d12) rr) (wl_v (.bool false) rfl rfl (y_mov rfl rfl rr) (wl_vw (pt p1 0) 3 false 6 rfl rfl rfl rfl rfl (y_fieldR (n := 1) rfl s11 Try.underlying23 rfl (by kernel_rfl) (by decide) rfl rr) (wl_vw (iv G) 3 false 6 rfl rfl rfl rfl rfl (y_ld_stc rfl rfl Try.underlying3 B4 rfl rfl rr) (wl_vw (.bool false) 3 false 6 rfl rfl rfl rfl rfl (y_gtr rfl rfl rfl (decide_eq_false d21) rr) (wl_v (.bool false) rfl rfl (y_pickF rfl rfl rfl rr) (wl_v (.bool false) rfl rfl (y_mov rfl rfl rr) (wl_vw (pt p1 1) 8 false 11 rfl rfl rfl rfl rfl (y_fieldR (n := 1) rfl s11 Try.underlying23 rfl (by kernel_rfl) (by decide) rfl rr) (wl_vw (iv B) 8 false 11 rfl rfl rfl rfl rfl (y_ld_stc rfl rfl Try.underlying3 B4 rfl rfl rr) ?_)))))))))))
      refine wl_vw (.bool false) 8 false 11 rfl rfl rfl rfl rfl (y_lss rfl rfl rfl (decide_eq_false d30) rr) (wl_v (.bool false) rfl rfl (y_pickF rfl rfl rfl rr) (wl_v (.bool false) rfl rfl (y_mov rfl rfl rr) (wl_vw (pt p1 1) 13 false 16 rfl rfl rfl rfl rfl (y_fieldR (n := 1) rfl s11 Try.underlying23 rfl (by kernel_rfl) (by decide) rfl rr) (wl_vw (iv B) 13 false 16 rfl rfl rfl rfl rfl (y_ld_stc rfl rfl Try.underlying3 B4 rfl rfl rr) (wl_vw (.bool false) 13 false 16 rfl rfl rfl rfl rfl (y_gtr rfl rfl rfl (decide_eq_false d39) rr) (wl_v (.bool false) rfl rfl (y_pickF rfl rfl rfl rr) (wl_v (.bool false) rfl rfl (y_mov rfl rfl rr) (wl_vw (pt p1 2) 18 false 21 rfl rfl rfl rfl rfl (y_fieldR (n := 1) rfl s11 Try.underlying23 rfl (by kernel_rfl) (by decide) rfl rr) (wl_vw (iv Q) 18 false 21 rfl rfl rfl rfl rfl (y_ld_stc rfl rfl Try.underlying3 B4 rfl rfl rr) (wl_vw (.bool true) 18 false 21 rfl rfl rfl rfl rfl (y_lss rfl rfl rfl (decide_eq_true d48) rr) (wl_v (.bool true) rfl rfl (y_pickF rfl rfl rfl rr) ?_)))))))))))
      refine wl_v (.bool true) rfl rfl (y_mov rfl rfl rr) (wl_unless 23 false 26 rfl rfl rfl (Or.inl rfl) rfl (wl_unless 23 false 26 rfl rfl rfl (Or.inl rfl) rfl (wl_unless 23 false 26 rfl rfl rfl (Or.inl rfl) rfl (wl_v (.bool true) rfl rfl (y_pickT rfl rfl rfl rr) (wl_nil fun F49 hF50 => ?_)))))
      have s51 := (hF50 31).trans s10
      have s52 : F49 30 = .bool true := (hF50 30).trans rfl
      clear hF50
      refine then_normal ?_
      refine wq_cond (t := true) s52 (fun _ => ?_) (fun e => by cases e)
      refine wq_seq (wq_region (wl_v (iv 150) rfl rfl (y_asg rfl rfl rr) (wl_nil fun F53 hF54 => ?_)))
      have s55 := (hF54 31).trans s51
      have s56 : F53 2 = iv 150 := (hF54 2).trans rfl
      clear hF54
      refine then_normal (wq_ret (then_ret ?_))
      exact end_tmp (v := iv 150) s55 rfl rfl s56 ⟨(by first | rw [show planE G B Q = 0 from if_pos (by unfold planOk; omega)] | rw [show planE G B Q = 150 from if_neg (by unfold planOk; omega)]), K7⟩
     ·skip
      refine wq_region (wl_v (pt p1 0) rfl rfl (y_fieldR (n := 1) rfl s11 Try.underlying23 rfl (by kernel_rfl) (by decide) rfl rr) (wl_v (iv G) rfl rfl (y_ld_stc rfl rfl Try.underlying3 B4 rfl rfl rr) (wl_v (.bool false) rfl rfl (y_lss rfl rfl rfl (decide_eq_false d12) rr) (wl_v (.bool false) rfl rfl (y_mov rfl rfl rr) (wl_vw (pt p1 0) 3 false 6 rfl rfl rfl rfl rfl (y_fieldR (n := 1) rfl s11 Try.underlying23 rfl (by kernel_rfl) (by decide) rfl rr) (wl_vw (iv G) 3 false 6 rfl rfl rfl rfl rfl (y_ld_stc rfl rfl Try.underlying3 B4 rfl rfl rr) (wl_vw (.bool false) 3 false 6 rfl rfl rfl rfl rfl (y_gtr rfl rfl rfl (decide_eq_false d21) rr) (wl_v (.bool false) rfl rfl (y_pickF rfl rfl rfl rr) (wl_v (.bool false) rfl rfl (y_mov rfl rfl rr) (wl_vw (pt p1 1) 8 false 11 rfl rfl rfl rfl rfl (y_fieldR (n := 1) rfl s11 Try.underlying23 rfl (by kernel_rfl) (by decide) rfl rr) (wl_vw (iv B) 8 false 11 rfl rfl rfl rfl rfl (y_ld_stc rfl rfl Try.underlying3 B4 rfl rfl rr) ?_)))))))))))
      refine wl_vw (.bool false) 8 false 11 rfl rfl rfl rfl rfl (y_lss rfl rfl rfl (decide_eq_false d30) rr) (wl_v (.bool false) rfl rfl (y_pickF rfl rfl rfl rr) (wl_v (.bool false) rfl rfl (y_mov rfl rfl rr) (wl_vw (pt p1 1) 13 false 16 rfl rfl rfl rfl rfl (y_fieldR (n := 1) rfl s11 Try.underlying23 rfl (by kernel_rfl) (by decide) rfl rr) (wl_vw (iv B) 13 false 16 rfl rfl rfl rfl rfl (y_ld_stc rfl rfl Try.underlying3 B4 rfl rfl rr) (wl_vw (.bool false) 13 false 16 rfl rfl rfl rfl rfl (y_gtr rfl rfl rfl (decide_eq_false d39) rr) (wl_v (.bool false) rfl rfl (y_pickF rfl rfl rfl rr) (wl_v (.bool false) rfl rfl (y_mov rfl rfl rr) (wl_vw (pt p1 2) 18 false 21 rfl rfl rfl rfl rfl (y_fieldR (n := 1) rfl s11 Try.underlying23 rfl (by kernel_rfl) (by decide) rfl rr) (wl_vw (iv Q) 18 false 21 rfl rfl rfl rfl rfl (y_ld_stc rfl rfl Try.underlying3 B4 rfl rfl rr) (wl_vw (.bool false) 18 false 21 rfl rfl rfl rfl rfl (y_lss rfl rfl rfl (decide_eq_false d48) rr) (wl_v (.bool false) rfl rfl (y_pickF rfl rfl rfl rr) ?_)))))))))))
      refine wl_v (.bool false) rfl rfl (y_mov rfl rfl rr) (wl_vw (pt p1 2) 23 false 26 rfl rfl rfl rfl rfl (y_fieldR (n := 1) rfl s11 Try.underlying23 rfl (by kernel_rfl) (by decide) rfl rr) (wl_vw (iv Q) 23 false 26 rfl rfl rfl rfl rfl (y_ld_stc rfl rfl Try.underlying3 B4 rfl rfl rr) (wl_vw (.bool (decide (20 < Q))) 23 false 26 rfl rfl rfl rfl rfl (y_gtr rfl rfl rfl rfl rr) (wl_v (.bool (decide (20 < Q))) rfl rfl (y_pickF rfl rfl rfl rr) (wl_nil fun F57 hF58 => ?_)))))
      have s59 := (hF58 31).trans s10
      have s60 : F57 30 = .bool (decide (20 < Q)) := (hF58 30).trans rfl
      clear hF58
      refine then_normal ?_
      refine wq_cond s60 (fun c61 => ?_) (fun c61 => ?_)
      ·replace c61 := of_decide_eq_true c61
       refine wq_seq (wq_region (wl_v (iv 150) rfl rfl (y_asg rfl rfl rr) (wl_nil fun F62 hF63 => ?_)))
       have s64 := (hF63 31).trans s59
       have s65 : F62 2 = iv 150 := (hF63 2).trans rfl
       clear hF63
       refine then_normal (wq_ret (then_ret ?_))
       exact end_tmp (v := iv 150) s64 rfl rfl s65 ⟨(by first | rw [show planE G B Q = 0 from if_pos (by unfold planOk; omega)] | rw [show planE G B Q = 150 from if_neg (by unfold planOk; omega)]), K7⟩
      ·replace c61 := of_decide_eq_false c61
       refine wq_skip (then_normal (wq_seq (wq_region (wl_v (iv 0) rfl rfl (y_asg rfl rfl rr) (wl_nil fun F66 hF67 => ?_)))))
       have s68 := (hF67 31).trans s59
       have s69 : F66 2 = iv 0 := (hF67 2).trans rfl
       clear hF67
       refine then_normal (wq_ret ?_)
       exact end_tmp (v := iv 0) s68 rfl rfl s69 ⟨(by first | rw [show planE G B Q = 0 from if_pos (by unfold planOk; omega)] | rw [show planE G B Q = 150 from if_neg (by unfold planOk; omega)]), K7⟩
theorem oref_slots (N G B Q : Int) (w0 : World) :
  Calls Try.prog 10 #[.int .i64 (N), .agg #[.int .i64 (G), .int .i64 (B), .int .i64 (Q)]] w0 fun e w' => ∃ (v1 : Value) (T1 : Nat → Prop), e = .returned (.tuple #[v1, .int .i64 (slE N G B Q)]) ∧ Kept (fun _ => False) w0 w' ∧ (RoO rSl w' T1 v1 ((slL N G B Q)) ∧ Grew w0 noB T1) := by
 refine calls_wq (args := [iv N, .agg #[iv G, iv B, iv Q]]) 75 Try.func10 rfl rfl (Nat.le_of_ble_eq_true rfl) ?_
 have K0 := Kept.refl (fun _ => False) w0
 refine wq_seq (wq_region (wl_box_stc (vs := [iv G, iv B, iv Q]) rfl rfl rfl rfl fun p1 w2 B4 g5 k3 => ?_))
 have K7 := K0.tr k3
 refine wl_v (.slice none 0 0) rfl rfl (y_asg rfl rfl rr) (wl_v (iv 0) rfl rfl (y_asg rfl rfl rr) (wl_nil fun F8 hF9 => ?_))
 have s10 : F8 0 = iv N := (hF9 0).trans rfl
 have s11 : F8 75 = undef := (hF9 75).trans rfl
 have s12 : F8 3 = pt p1 0 := (hF9 3).trans rfl
 clear hF9
 refine then_normal (wq_seq (wq_seq ?_))
 by_cases d13 : (planE G B Q) ≠ 0
 ·skip
  refine wq_region (wl_v (.agg #[iv G, iv B, iv Q]) rfl rfl (y_load_stc stcT_plan rfl s12 B4 rr) (wl_cs rfl rfl rfl rfl rfl (fun _ _ => by kernel_rfl) (vsC rfl vsN) (oref_check G B Q  _   ) fun w14 k15 => ?_))
  have K17 := K7.tr k15
  refine wl_v (.bool true) rfl rfl (y_neqI rfl rfl rfl (decide_eq_true d13) rr) (wl_v (.bool true) rfl rfl (y_mov rfl rfl rr) (wl_unless 3 false 15 rfl rfl rfl (Or.inl rfl) rfl (wl_unless 3 false 15 rfl rfl rfl (Or.inl rfl) rfl (wl_v (.bool true) rfl rfl (y_pickT rfl rfl rfl rr) (wl_v (.bool true) rfl rfl (y_mov rfl rfl rr) (wl_unless 7 false 19 rfl rfl rfl (Or.inl rfl) rfl (wl_unless 7 false 19 rfl rfl rfl (Or.inl rfl) rfl (wl_v (.bool true) rfl rfl (y_pickT rfl rfl rfl rr) (wl_nil fun F18 hF19 => ?_)))))))))
  have s21 := (hF19 75).trans s11
  have s23 : F18 22 = .bool true := (hF19 22).trans rfl
  clear hF19
  refine then_normal ?_
  refine wq_cond (t := true) s23 (fun _ => ?_) (fun e => by cases e)
  refine wq_seq ?_
  have hno : ¬ slOk N G B Q := fun z => by have z1 := planE_iff.2 z.1; have z2 := z.2; omega
  have hR := And.intro (slL_no hno) (slE_no hno)
  refine wq_region (wl_v (.slice none 0 0) rfl rfl (y_asg rfl rfl rr) (wl_v (iv 150) rfl rfl (y_asg rfl rfl rr) (wl_nil fun F24 hF25 => ?_)))
  have s26 := (hF25 75).trans s21
  have s27 : F24 4 = .slice none 0 0 := (hF25 4).trans rfl
  have s28 : F24 5 = iv 150 := (hF25 5).trans rfl
  clear hF25
  refine then_normal (wq_ret (then_ret ?_))
  exact end_2 s26 rfl (res_tmp (v := .slice none 0 0) rfl s27) (res_tmp (v := iv 150) rfl s28) ⟨(.slice none 0 0), noB, (by rw [hR.2] <;> rfl), K17, ⟨(by rw [hR.1]; exact (RoO.nil rSl _)), (Grew.refl _ _)⟩⟩
 ·skip
  by_cases d29 : N < 1
  ·skip
   refine wq_region (wl_v (.agg #[iv G, iv B, iv Q]) rfl rfl (y_load_stc stcT_plan rfl s12 B4 rr) (wl_cs rfl rfl rfl rfl rfl (fun _ _ => by kernel_rfl) (vsC rfl vsN) (oref_check G B Q  _   ) fun w30 k31 => ?_))
   have K33 := K7.tr k31
   refine wl_v (.bool false) rfl rfl (y_neqI rfl rfl rfl (decide_eq_false d13) rr) (wl_v (.bool false) rfl rfl (y_mov rfl rfl rr) (wl_vw (iv N) 3 false 15 rfl rfl rfl rfl rfl (y_mov rfl s10 rr) (wl_vw (.bool true) 3 false 15 rfl rfl rfl rfl rfl (y_lss rfl rfl rfl (decide_eq_true d29) rr) (wl_v (.bool true) rfl rfl (y_pickF rfl rfl rfl rr) (wl_v (.bool true) rfl rfl (y_mov rfl rfl rr) (wl_unless 7 false 19 rfl rfl rfl (Or.inl rfl) rfl (wl_unless 7 false 19 rfl rfl rfl (Or.inl rfl) rfl (wl_v (.bool true) rfl rfl (y_pickT rfl rfl rfl rr) (wl_nil fun F34 hF35 => ?_)))))))))
   have s37 := (hF35 75).trans s11
   have s39 : F34 22 = .bool true := (hF35 22).trans rfl
   clear hF35
   refine then_normal ?_
   refine wq_cond (t := true) s39 (fun _ => ?_) (fun e => by cases e)
   refine wq_seq ?_
   have hno : ¬ slOk N G B Q := fun z => by have z1 := planE_iff.2 z.1; have z2 := z.2; omega
   have hR := And.intro (slL_no hno) (slE_no hno)
   refine wq_region (wl_v (.slice none 0 0) rfl rfl (y_asg rfl rfl rr) (wl_v (iv 150) rfl rfl (y_asg rfl rfl rr) (wl_nil fun F40 hF41 => ?_)))
   have s42 := (hF41 75).trans s37
   have s43 : F40 4 = .slice none 0 0 := (hF41 4).trans rfl
   have s44 : F40 5 = iv 150 := (hF41 5).trans rfl
   clear hF41
   refine then_normal (wq_ret (then_ret ?_))
   exact end_2 s42 rfl (res_tmp (v := .slice none 0 0) rfl s43) (res_tmp (v := iv 150) rfl s44) ⟨(.slice none 0 0), noB, (by rw [hR.2] <;> rfl), K33, ⟨(by rw [hR.1]; exact (RoO.nil rSl _)), (Grew.refl _ _)⟩⟩
  ·skip
   refine wq_region (wl_v (.agg #[iv G, iv B, iv Q]) rfl rfl (y_load_stc stcT_plan rfl s12 B4 rr) (wl_cs rfl rfl rfl rfl rfl (fun _ _ => by kernel_rfl) (vsC rfl vsN) (oref_check G B Q  _   ) fun w45 k46 => ?_))
   have B47 := B4.all k46 id
   have K48 := K7.tr k46
   refine wl_v (.bool false) rfl rfl (y_neqI rfl rfl rfl (decide_eq_false d13) rr) (wl_v (.bool false) rfl rfl (y_mov rfl rfl rr) (wl_vw (iv N) 3 false 15 rfl rfl rfl rfl rfl (y_mov rfl s10 rr) (wl_vw (.bool false) 3 false 15 rfl rfl rfl rfl rfl (y_lss rfl rfl rfl (decide_eq_false d29) rr) (wl_v (.bool false) rfl rfl (y_pickF rfl rfl rfl rr) (wl_v (.bool false) rfl rfl (y_mov rfl rfl rr) (wl_vw (iv N) 7 false 19 rfl rfl rfl rfl rfl (y_mov rfl s10 rr) (wl_vw (.bool (decide (200 < N))) 7 false 19 rfl rfl rfl rfl rfl (y_gtr rfl rfl rfl rfl rr) (wl_v (.bool (decide (200 < N))) rfl rfl (y_pickF rfl rfl rfl rr) (wl_nil fun F49 hF50 => ?_)))))))))
   obtain ⟨s51, s52, s53⟩ := t3 hF50 0 s10 75 s11 3 s12
   have s54 : F49 22 = .bool (decide (200 < N)) := (hF50 22).trans rfl
   clear hF50
   refine then_normal ?_
   refine wq_cond s54 (fun c55 => ?_) (fun c55 => ?_)
   ·replace c55 := of_decide_eq_true c55
    refine wq_seq ?_
    have hno : ¬ slOk N G B Q := fun z => by have z1 := planE_iff.2 z.1; have z2 := z.2; omega
    have hR := And.intro (slL_no hno) (slE_no hno)
    refine wq_region (wl_v (.slice none 0 0) rfl rfl (y_asg rfl rfl rr) (wl_v (iv 150) rfl rfl (y_asg rfl rfl rr) (wl_nil fun F56 hF57 => ?_)))
    have s58 := (hF57 75).trans s52
    have s59 : F56 4 = .slice none 0 0 := (hF57 4).trans rfl
    have s60 : F56 5 = iv 150 := (hF57 5).trans rfl
    clear hF57
    refine then_normal (wq_ret (then_ret ?_))
    exact end_2 s58 rfl (res_tmp (v := .slice none 0 0) rfl s59) (res_tmp (v := iv 150) rfl s60) ⟨(.slice none 0 0), noB, (by rw [hR.2] <;> rfl), K48, ⟨(by rw [hR.1]; exact (RoO.nil rSl _)), (Grew.refl _ _)⟩⟩
   ·replace c55 := of_decide_eq_false c55
    refine wq_skip (then_normal (wq_seq ?_))
    have hok : slOk N G B Q := ⟨planE_iff.1 (by first | assumption | (apply Decidable.byContradiction; assumption)), by omega⟩
    have hpk := hok.1
    unfold planOk at hpk
    have hnk := hok.2
    refine wq_region (wl_v (.slice none 0 0) rfl rfl (y_asg rfl rfl rr) (wl_nil fun F61 hF62 => ?_))
    obtain ⟨s63, s64, s65⟩ := t3 hF62 0 s51 75 s52 3 s53
    have s66 : F61 6 = .slice none 0 0 := (hF62 6).trans rfl
    clear hF62
    refine then_normal (wq_seq (wq_seq (wq_region (wl_v (iv 0) rfl rfl (y_asg rfl rfl rr) (wl_nil fun F67 hF68 => ?_)))))
    obtain ⟨s69, s70, s71, s72⟩ := t4 hF68 0 s63 75 s64 3 s65 6 s66
    have s73 : F67 7 = iv 0 := (hF68 7).trans rfl
    clear hF68
    refine then_normal (wq_block (wq_loop (fun nn FF ww => ∃ (f : Nat), ∃ (o : List Sl), ∃ (V1 : Value), ∃ (T74 : Nat → Prop), (o ++ outL N.toNat G.toNat B.toNat f = outL N.toNat G.toNat B.toNat 0) ∧ (f ≤ 216) ∧ (o.length = min f N.toNat) ∧ nn = N.toNat - f ∧ FF 0 = iv N ∧ FF 3 = pt p1 0 ∧ FF 75 = undef ∧ FF 6 = V1 ∧ FF 7 = iv ((f : Nat) : Int) ∧ Kept (fun _ => False) w0 ww ∧ Stc ww p1 23 [iv G, iv B, iv Q] ∧ RoO rSl ww T74 V1 o ∧ Grew w0 noB T74 ∧ Apart T74 (onB p1)) (N.toNat - 0) ⟨0, [], (.slice none 0 0), noB, rfl, by omega, (by simp), rfl, s69, s71, s70, s72, s73, K48, B47, (RoO.nil rSl _), (Grew.refl _ _), Apart.none.symm⟩ ?_))
    rintro n78 F75 w76 ⟨f, o, V1, T74, ho, i79, hl1, hn78, s80, s81, s82, s83, s84, K77, B85, B86, gr87, ap88⟩
    refine wq_seq (wq_seq (wq_region (wl_mv rfl rfl rfl s84 (wl_mv rfl rfl rfl s80 (wl_v (.bool (decide (((f : Nat) : Int) < N))) rfl rfl (y_lss rfl rfl rfl rfl rr) (wl_nil fun F89 hF90 => ?_))))))
    obtain ⟨s91, s92, s93, s94, s95⟩ := t5 hF90 0 s80 3 s81 75 s82 6 s83 7 s84
    have s96 : F89 25 = .bool (decide (((f : Nat) : Int) < N)) := (hF90 25).trans rfl
    clear hF90
    refine then_normal ?_
    refine wq_cond s96 (fun c97 => ?_) (fun c97 => ?_)
    ·replace c97 := of_decide_eq_true c97
     refine wq_skip (then_normal (wq_seq (wq_block (wq_seq (wq_region (wl_mv rfl rfl rfl s95 (wl_v (pt p1 0) rfl rfl (y_fieldR (n := 1) rfl s92 Try.underlying23 rfl (by kernel_rfl) (by decide) rfl rr) (wl_v (iv G) rfl rfl (y_ld_stc rfl rfl Try.underlying3 B85 rfl rfl rr) (wl_v (iv (((f : Nat) : Int) + G)) rfl rfl (y_add rfl rfl rfl (i64_i rfl (by omega)) rr) (wl_mv rfl rfl rfl s91 (wl_v (iv (min (((f : Nat) : Int) + G) N)) rfl rfl (y_minR rfl rfl rfl rfl rr) ?_)))))))))))
     refine wl_v (iv ((min (f + G.toNat) N.toNat - 1 : Nat) : Int)) rfl rfl (y_sub rfl rfl rfl (i64_n (by omega) (by omega)) rr) (wl_v (iv ((min (f + G.toNat) N.toNat - 1 : Nat) : Int)) rfl rfl (y_asg rfl rfl rr) (wl_nil fun F98 hF99 => ?_))
     obtain ⟨s100, s101, s102, s103, s104⟩ := t5 hF99 0 s91 3 s92 75 s93 6 s94 7 s95
     have s105 : F98 8 = iv ((min (f + G.toNat) N.toNat - 1 : Nat) : Int) := (hF99 8).trans rfl
     clear hF99
     refine then_normal (wq_seq (wq_region (wl_mv rfl rfl rfl s103 (wl_mv rfl rfl rfl s104 (wl_v (.agg #[iv ((f : Nat) : Int), iv 0, iv (-1), iv (-1)]) rfl rfl (y_buildL (l' := [(0, iv ((f : Nat) : Int)), (2, iv (-1)), (3, iv (-1))]) (cells := #[iv ((f : Nat) : Int), iv 0, iv (-1), iv (-1)]) rfl (bpC rfl (bpC rfl (bpC rfl bpN))) (by kernel_rfl) rfl rr) (wl_builtRo (r := rSl) (xs := [.tmp 39]) (vs := [.agg #[iv ((f : Nat) : Int), iv 0, iv (-1), iv (-1)]]) (l := [⟨((f : Nat) : Int), 0, -1, -1⟩]) rfl rfl rfl rfl rfl (vsC rfl vsN) rfl (by first | decide | exact Nat.le_of_ble_eq_true rfl) (by first | decide | exact Nat.le_of_ble_eq_true rfl) fun v106 w107 T111 B109 g110 k108 => ?_))))))
     have ap114 : Apart T111 T74 := Apart.new g110 B86.live
     have B115 := B85.all k108 id
     have B116 := B86.all k108 Apart.none
     have K117 := K77.tr k108
     refine wl_appendRo (r := rSl) rfl rfl rfl rfl rfl rfl B116 B109.roa (by first | omega | (simp; done) | (simp; omega)) fun v118 w119 T123 B121 g122 k120 => ?_
     have gr124 := Grew.trans gr87 K117 g122
     have ap125 : Apart T123 (onB p1) := ap88.grew g122 (onB_live B115.lt)
     have ap126 : Apart T123 T111 := (ap114.symm).grew g122 B109.live
     have B127 := B115.all k120 (ap88.symm p1 rfl)
     have B128 := B109.all k120 ap114
     have K129 := K117.trans k120 (Grew.ok (S := fun _ => False) gr87 noB_le)
     refine wl_v v118 rfl rfl (y_asg rfl rfl rr) (wl_nil fun F130 hF131 => ?_)
     obtain ⟨s132, s133, s134, s135, s136⟩ := t5 hF131 0 s100 3 s101 75 s102 7 s104 8 s105
     have s137 : F130 6 = v118 := (hF131 6).trans rfl
     clear hF131
     refine then_normal (wq_seq (wq_region (wl_mv rfl rfl rfl s135 (wl_v (iv ((f : Nat) : Int)) rfl rfl (y_asg rfl rfl rr) (wl_nil fun F138 hF139 => ?_)))))
     obtain ⟨s140, s141, s142, s143, s144, s145⟩ := t6 hF139 0 s132 3 s133 75 s134 7 s135 8 s136 6 s137
     have s146 : F138 9 = iv ((f : Nat) : Int) := (hF139 9).trans rfl
     clear hF139
     refine then_normal (wq_block (wq_loop (fun nn FF ww => ∃ (a : Nat), ∃ (o2 : List Sl), ∃ (V2 : Value), ∃ (T147 : Nat → Prop), (o2 ++ midL B.toNat (min (f + G.toNat) N.toNat - 1) a = o ++ [⟨((f : Nat) : Int), 0, -1, -1⟩] ++ midL B.toNat (min (f + G.toNat) N.toNat - 1) f) ∧ (a ≤ (min (f + G.toNat) N.toNat - 1)) ∧ (o2.length = a + 1) ∧ nn = min (f + G.toNat) N.toNat - 1 - a ∧ FF 0 = iv N ∧ FF 3 = pt p1 0 ∧ FF 7 = iv ((f : Nat) : Int) ∧ FF 8 = iv ((min (f + G.toNat) N.toNat - 1 : Nat) : Int) ∧ FF 75 = undef ∧ FF 6 = V2 ∧ FF 9 = iv ((a : Nat) : Int) ∧ Kept (fun _ => False) w0 ww ∧ Stc ww p1 23 [iv G, iv B, iv Q] ∧ RoO rSl ww T111 v106 ([⟨((f : Nat) : Int), 0, -1, -1⟩]) ∧ RoO rSl ww T147 V2 o2 ∧ Grew w0 noB T147 ∧ Apart T147 (onB p1) ∧ Apart T147 T111) (min (f + G.toNat) N.toNat - 1 - f) ⟨f, o ++ [⟨((f : Nat) : Int), 0, -1, -1⟩], v118, T123, rfl, by omega, (by rw [List.length_append, List.length_singleton]; omega), rfl, s140, s141, s143, s144, s142, s145, s146, K129, B127, B128, B121, gr124, ap125, ap126⟩ ?_))
     rintro n151 F148 w149 ⟨a, o2, V2, T147, hm, hal, hl2, hn151, s152, s153, s154, s155, s156, s157, s158, K150, B159, B160, B161, gr162, ap163, ap164⟩
     refine wq_seq (wq_seq (wq_region (wl_mv rfl rfl rfl s158 (wl_mv rfl rfl rfl s155 (wl_v (.bool (decide (((a : Nat) : Int) < ((min (f + G.toNat) N.toNat - 1 : Nat) : Int)))) rfl rfl (y_lss rfl rfl rfl rfl rr) (wl_nil fun F165 hF166 => ?_))))))
     obtain ⟨s167, s168, s169, s170, s171, s172, s173⟩ := t7 hF166 0 s152 3 s153 7 s154 8 s155 75 s156 6 s157 9 s158
     have s174 : F165 45 = .bool (decide (((a : Nat) : Int) < ((min (f + G.toNat) N.toNat - 1 : Nat) : Int))) := (hF166 45).trans rfl
     clear hF166
     refine then_normal ?_
     refine wq_cond s174 (fun c175 => ?_) (fun c175 => ?_)
     ·replace c175 := of_decide_eq_true c175
      refine wq_skip (then_normal (wq_block (wq_seq (wq_region (wl_mv rfl rfl rfl s173 (wl_v (pt p1 1) rfl rfl (y_fieldR (n := 1) rfl s168 Try.underlying23 rfl (by kernel_rfl) (by decide) rfl rr) (wl_v (iv B) rfl rfl (y_ld_stc rfl rfl Try.underlying3 B159 rfl rfl rr) (wl_v (iv (((a : Nat) : Int) + B)) rfl rfl (y_add rfl rfl rfl (i64_i rfl (by omega)) rr) (wl_v (iv ((((a : Nat) : Int) + B) + 1)) rfl rfl (y_add rfl rfl rfl (i64_i rfl (by omega)) rr) (wl_mv rfl rfl rfl s170 (wl_v (iv ((nxt B.toNat (min (f + G.toNat) N.toNat - 1) a : Nat) : Int)) rfl rfl (y_minR rfl rfl rfl (by unfold nxt; omega) rr) ?_)))))))))))
      refine wl_v (iv ((nxt B.toNat (min (f + G.toNat) N.toNat - 1) a : Nat) : Int)) rfl rfl (y_asg rfl rfl rr) (wl_nil fun F176 hF177 => ?_)
      obtain ⟨s178, s179, s180, s181, s182, s183, s184⟩ := t7 hF177 0 s167 3 s168 7 s169 8 s170 75 s171 6 s172 9 s173
      have s185 : F176 10 = iv ((nxt B.toNat (min (f + G.toNat) N.toNat - 1) a : Nat) : Int) := (hF177 10).trans rfl
      clear hF177
      refine then_normal (wq_seq ?_)
      have hnx := nxt_lt (b := B.toNat) (show a < (min (f + G.toNat) N.toNat - 1) by omega)
      refine wq_region (wl_mv rfl rfl rfl s183 (wl_mv rfl rfl rfl s185 (wl_mv rfl rfl rfl s184 (wl_v (.agg #[iv ((nxt B.toNat (min (f + G.toNat) N.toNat - 1) a : Nat) : Int), iv 1, iv ((a : Nat) : Int), iv (-1)]) rfl rfl (y_buildL (l' := [(0, iv ((nxt B.toNat (min (f + G.toNat) N.toNat - 1) a : Nat) : Int)), (1, iv 1), (2, iv ((a : Nat) : Int)), (3, iv (-1))]) (cells := #[iv ((nxt B.toNat (min (f + G.toNat) N.toNat - 1) a : Nat) : Int), iv 1, iv ((a : Nat) : Int), iv (-1)]) rfl (bpC rfl (bpC rfl (bpC rfl (bpC rfl bpN)))) (by kernel_rfl) rfl rr) (wl_builtRo (r := rSl) (xs := [.tmp 56]) (vs := [.agg #[iv ((nxt B.toNat (min (f + G.toNat) N.toNat - 1) a : Nat) : Int), iv 1, iv ((a : Nat) : Int), iv (-1)]]) (l := [⟨((nxt B.toNat (min (f + G.toNat) N.toNat - 1) a : Nat) : Int), 1, ((a : Nat) : Int), -1⟩]) rfl rfl rfl rfl rfl (vsC rfl vsN) rfl (by first | decide | exact Nat.le_of_ble_eq_true rfl) (by first | decide | exact Nat.le_of_ble_eq_true rfl) fun v186 w187 T191 B189 g190 k188 => ?_)))))
      have ap195 : Apart T191 T147 := Apart.new g190 B161.live
      have B196 := B159.all k188 id
      have B197 := B160.all k188 Apart.none
      have B198 := B161.all k188 Apart.none
      have K199 := K150.tr k188
      refine wl_appendRo (r := rSl) rfl rfl rfl rfl rfl rfl B198 B189.roa (by first | omega | (simp; done) | (simp; omega)) fun v200 w201 T205 B203 g204 k202 => ?_
      have gr206 := Grew.trans gr162 K199 g204
      have ap207 : Apart T205 (onB p1) := ap163.grew g204 (onB_live B196.lt)
      have ap208 : Apart T205 T111 := ap164.grew g204 B197.live
      have ap209 : Apart T205 T191 := (ap195.symm).grew g204 B189.live
      have B210 := B196.all k202 (ap163.symm p1 rfl)
      have B211 := B197.all k202 ap164.symm
      have B212 := B189.all k202 ap195
      have K213 := K199.trans k202 (Grew.ok (S := fun _ => False) gr162 noB_le)
      refine wl_v v200 rfl rfl (y_asg rfl rfl rr) (wl_nil fun F214 hF215 => ?_)
      obtain ⟨s216, s217, s218, s219, s220, s221, s222⟩ := t7 hF215 0 s178 3 s179 7 s180 8 s181 75 s182 9 s184 10 s185
      have s223 : F214 6 = v200 := (hF215 6).trans rfl
      clear hF215
      refine then_normal (wq_seq (wq_seq (wq_region (wl_mv rfl rfl rfl s221 (wl_v (iv ((a + 1 : Nat) : Int)) rfl rfl (y_add rfl rfl rfl (i64_n (by omega) (by omega)) rr) (wl_v (iv ((a + 1 : Nat) : Int)) rfl rfl (y_asg rfl rfl rr) (wl_nil fun F224 hF225 => ?_)))))))
      obtain ⟨s226, s227, s228, s229, s230, s231, s232, s233⟩ := t8 hF225 0 s216 3 s217 7 s218 8 s219 75 s220 9 s221 10 s222 6 s223
      have s234 : F224 11 = iv ((a + 1 : Nat) : Int) := (hF225 11).trans rfl
      clear hF225
      refine then_normal (wq_block (wq_loop (fun nn FF ww => ∃ (i : Nat), ∃ (V3 : Value), ∃ (T235 : Nat → Prop), (i ≤ nxt B.toNat (min (f + G.toNat) N.toNat - 1) a - (a + 1)) ∧ nn = nxt B.toNat (min (f + G.toNat) N.toNat - 1) a - (a + 1) - i ∧ FF 0 = iv N ∧ FF 3 = pt p1 0 ∧ FF 7 = iv ((f : Nat) : Int) ∧ FF 8 = iv ((min (f + G.toNat) N.toNat - 1 : Nat) : Int) ∧ FF 9 = iv ((a : Nat) : Int) ∧ FF 10 = iv ((nxt B.toNat (min (f + G.toNat) N.toNat - 1) a : Nat) : Int) ∧ FF 75 = undef ∧ FF 6 = V3 ∧ FF 11 = iv (((a + 1 + i) : Nat) : Int) ∧ Kept (fun _ => False) w0 ww ∧ Stc ww p1 23 [iv G, iv B, iv Q] ∧ RoO rSl ww T111 v106 ([⟨((f : Nat) : Int), 0, -1, -1⟩]) ∧ RoO rSl ww T191 v186 ([⟨((nxt B.toNat (min (f + G.toNat) N.toNat - 1) a : Nat) : Int), 1, ((a : Nat) : Int), -1⟩]) ∧ RoO rSl ww T235 V3 (o2 ++ [⟨((nxt B.toNat (min (f + G.toNat) N.toNat - 1) a : Nat) : Int), 1, ((a : Nat) : Int), -1⟩] ++ bsTo a (nxt B.toNat (min (f + G.toNat) N.toNat - 1) a) i) ∧ Grew w0 noB T235 ∧ Apart T235 (onB p1) ∧ Apart T235 T111 ∧ Apart T235 T191) (nxt B.toNat (min (f + G.toNat) N.toNat - 1) a - (a + 1) - 0) ⟨0, v200, T205, by omega, rfl, s226, s227, s228, s229, s231, s232, s230, s233, s234, K213, B210, B211, B212, (by rw [show bsTo a (nxt B.toNat (min (f + G.toNat) N.toNat - 1) a) 0 = [] from rfl, List.append_nil]; exact B203), gr206, ap207, ap208, ap209⟩ ?_))
      rintro n239 F236 w237 ⟨i, V3, T235, i240, hn239, s241, s242, s243, s244, s245, s246, s247, s248, s249, K238, B250, B251, B252, B253, gr254, ap255, ap256, ap257⟩
      refine wq_seq (wq_seq (wq_region (wl_mv rfl rfl rfl s249 (wl_mv rfl rfl rfl s246 (wl_v (.bool (decide ((((a + 1 + i) : Nat) : Int) < ((nxt B.toNat (min (f + G.toNat) N.toNat - 1) a : Nat) : Int)))) rfl rfl (y_lss rfl rfl rfl rfl rr) (wl_nil fun F258 hF259 => ?_))))))
      obtain ⟨s260, s261, s262, s263, s264, s265, s266, s267, s268⟩ := t9 hF259 0 s241 3 s242 7 s243 8 s244 9 s245 10 s246 75 s247 6 s248 11 s249
      have s269 : F258 63 = .bool (decide ((((a + 1 + i) : Nat) : Int) < ((nxt B.toNat (min (f + G.toNat) N.toNat - 1) a : Nat) : Int))) := (hF259 63).trans rfl
      clear hF259
      refine then_normal ?_
      refine wq_cond s269 (fun c270 => ?_) (fun c270 => ?_)
      ·replace c270 := of_decide_eq_true c270
       refine wq_skip (then_normal (wq_seq (wq_block ?_)))
       have hbl := bsTo_len a (nxt B.toNat (min (f + G.toNat) N.toNat - 1) a) i
       refine wq_region (wl_mv rfl rfl rfl s267 (wl_mv rfl rfl rfl s268 (wl_mv rfl rfl rfl s264 (wl_mv rfl rfl rfl s265 (wl_v (.agg #[iv (((a + 1 + i) : Nat) : Int), iv 2, iv ((a : Nat) : Int), iv ((nxt B.toNat (min (f + G.toNat) N.toNat - 1) a : Nat) : Int)]) rfl rfl (y_buildL (l' := [(0, iv (((a + 1 + i) : Nat) : Int)), (1, iv 2), (2, iv ((a : Nat) : Int)), (3, iv ((nxt B.toNat (min (f + G.toNat) N.toNat - 1) a : Nat) : Int))]) (cells := #[iv (((a + 1 + i) : Nat) : Int), iv 2, iv ((a : Nat) : Int), iv ((nxt B.toNat (min (f + G.toNat) N.toNat - 1) a : Nat) : Int)]) rfl (bpC rfl (bpC rfl (bpC rfl (bpC rfl bpN)))) (by kernel_rfl) rfl rr) (wl_builtRo (r := rSl) (xs := [.tmp 70]) (vs := [.agg #[iv (((a + 1 + i) : Nat) : Int), iv 2, iv ((a : Nat) : Int), iv ((nxt B.toNat (min (f + G.toNat) N.toNat - 1) a : Nat) : Int)]]) (l := [⟨(((a + 1 + i) : Nat) : Int), 2, ((a : Nat) : Int), ((nxt B.toNat (min (f + G.toNat) N.toNat - 1) a : Nat) : Int)⟩]) rfl rfl rfl rfl rfl (vsC rfl vsN) rfl (by first | decide | exact Nat.le_of_ble_eq_true rfl) (by first | decide | exact Nat.le_of_ble_eq_true rfl) fun v271 w272 T276 B274 g275 k273 => ?_))))))
       have B282 := B250.all k273 id
       have B283 := B251.all k273 Apart.none
       have B284 := B252.all k273 Apart.none
       have B285 := B253.all k273 Apart.none
       have K286 := K238.tr k273
       refine wl_appendRo (r := rSl) rfl rfl rfl rfl rfl rfl B285 B274.roa (by first | omega | (simp; done) | (simp; omega)) fun v287 w288 T292 B290 g291 k289 => ?_
       have gr293 := Grew.trans gr254 K286 g291
       have ap294 : Apart T292 (onB p1) := ap255.grew g291 (onB_live B282.lt)
       have ap295 : Apart T292 T111 := ap256.grew g291 B283.live
       have ap296 : Apart T292 T191 := ap257.grew g291 B284.live
       have B298 := B282.all k289 (ap255.symm p1 rfl)
       have B299 := B283.all k289 ap256.symm
       have B300 := B284.all k289 ap257.symm
       have K302 := K286.trans k289 (Grew.ok (S := fun _ => False) gr254 noB_le)
       refine wl_v v287 rfl rfl (y_asg rfl rfl rr) (wl_nil fun F303 hF304 => ?_)
       obtain ⟨s305, s306, s307, s308, s309, s310, s311, s312⟩ := t8 hF304 0 s260 3 s261 7 s262 8 s263 9 s264 10 s265 75 s266 11 s268
       have s313 : F303 6 = v287 := (hF304 6).trans rfl
       clear hF304
       refine in_normal (then_normal (wq_region (wl_mv rfl rfl rfl s312 (wl_v (iv (((a + 1 + i) + 1 : Nat) : Int)) rfl rfl (y_add rfl rfl rfl (i64_n (by omega) (by omega)) rr) (wl_v (iv (((a + 1 + i) + 1 : Nat) : Int)) rfl rfl (y_asg rfl rfl rr) (wl_nil fun F314 hF315 => ?_))))))
       obtain ⟨s316, s317, s318, s319, s320, s321, s322, s323⟩ := t8 hF315 0 s305 3 s306 7 s307 8 s308 9 s309 10 s310 75 s311 6 s313
       have s324 : F314 11 = iv (((a + 1 + i) + 1 : Nat) : Int) := (hF315 11).trans rfl
       clear hF315
       exact then_normal ⟨(nxt B.toNat (min (f + G.toNat) N.toNat - 1) a - (a + 1) - (i + 1)), by omega, i + 1, v287, T292, by omega, rfl, s316, s317, s318, s319, s320, s321, s322, s323, s324, K302, B298, B299, B300, (by rw [show bsTo a (nxt B.toNat (min (f + G.toNat) N.toNat - 1) a) (i + 1) = bsTo a (nxt B.toNat (min (f + G.toNat) N.toNat - 1) a) i ++ [⟨((a + 1 + i : Nat) : Int), 2, ((a : Nat) : Int), ((nxt B.toNat (min (f + G.toNat) N.toNat - 1) a : Nat) : Int)⟩] from rfl, ← List.append_assoc]; exact B290), gr293, ap294, ap295, ap296⟩
      ·replace c270 := of_decide_eq_false c270
       refine wq_exit (then_exit (then_exit (in_here (then_normal ?_))))
       have hie : i = nxt B.toNat (min (f + G.toNat) N.toNat - 1) a - (a + 1) := by omega
       refine wq_region (wl_mv rfl rfl rfl s265 (wl_v (iv ((nxt B.toNat (min (f + G.toNat) N.toNat - 1) a : Nat) : Int)) rfl rfl (y_asg rfl rfl rr) (wl_nil fun F325 hF326 => ?_)))
       obtain ⟨s327, s328, s329, s330, s331, s332⟩ := t6 hF326 0 s260 3 s261 7 s262 8 s263 75 s266 6 s267
       have s333 : F325 9 = iv ((nxt B.toNat (min (f + G.toNat) N.toNat - 1) a : Nat) : Int) := (hF326 9).trans rfl
       clear hF326
       refine in_normal ?_
       exact then_normal ⟨(min (f + G.toNat) N.toNat - 1 - (nxt B.toNat (min (f + G.toNat) N.toNat - 1) a)), by omega, nxt B.toNat (min (f + G.toNat) N.toNat - 1) a, o2 ++ [⟨((nxt B.toNat (min (f + G.toNat) N.toNat - 1) a : Nat) : Int), 1, ((a : Nat) : Int), -1⟩] ++ bsTo a (nxt B.toNat (min (f + G.toNat) N.toNat - 1) a) (nxt B.toNat (min (f + G.toNat) N.toNat - 1) a - (a + 1)), V3, T235, (mid_step (by omega) hm), (nxt_lt (by omega)).2, (by have hz := nxt_lt (b := B.toNat) (show a < (min (f + G.toNat) N.toNat - 1) by omega); rw [List.length_append, bsTo_len, List.length_append, List.length_singleton]; omega), rfl, s327, s328, s329, s330, s331, s332, s333, K238, B250, B251, (by rw [← hie]; exact B253), gr254, ap255, ap256⟩
     ·replace c175 := of_decide_eq_false c175
      refine wq_exit (then_exit (then_exit (in_here (in_normal (then_normal (wq_region (wl_mv rfl rfl rfl s169 (wl_v (pt p1 0) rfl rfl (y_fieldR (n := 1) rfl s168 Try.underlying23 rfl (by kernel_rfl) (by decide) rfl rr) (wl_v (iv G) rfl rfl (y_ld_stc rfl rfl Try.underlying3 B159 rfl rfl rr) (wl_v (iv ((f + G.toNat : Nat) : Int)) rfl rfl (y_add rfl rfl rfl (i64_n (by omega) (by omega)) rr) (wl_v (iv ((f + G.toNat : Nat) : Int)) rfl rfl (y_asg rfl rfl rr) ?_)))))))))))
      refine wl_nil fun F334 hF335 => ?_
      obtain ⟨s336, s337, s338, s339⟩ := t4 hF335 0 s167 3 s168 75 s171 6 s172
      have s340 : F334 7 = iv ((f + G.toNat : Nat) : Int) := (hF335 7).trans rfl
      clear hF335
      exact then_normal ⟨(N.toNat - (f + G.toNat)), by omega, f + G.toNat, o2, V2, T147, (out_step (by omega) (by omega) (by omega) hm ho), by omega, (by omega), rfl, s336, s337, s338, s339, s340, K150, B159, B161, gr162, ap163⟩
    ·replace c97 := of_decide_eq_false c97
     refine wq_exit (then_exit (then_exit (in_here (then_normal (wq_seq ?_)))))
     have hR := And.intro ((slL_yes hok).trans (out_done (by omega) ho)) (slE_yes hok)
     refine wq_region (wl_mv rfl rfl rfl s94 (wl_v V1 rfl rfl (y_asg rfl rfl rr) (wl_v (iv 0) rfl rfl (y_asg rfl rfl rr) (wl_nil fun F341 hF342 => ?_))))
     have s343 := (hF342 75).trans s93
     have s344 : F341 4 = V1 := (hF342 4).trans rfl
     have s345 : F341 5 = iv 0 := (hF342 5).trans rfl
     clear hF342
     refine then_normal (wq_ret ?_)
     exact end_2 s343 rfl (res_tmp (v := V1) rfl s344) (res_tmp (v := iv 0) rfl s345) ⟨V1, T74, (by rw [hR.2] <;> rfl), K77, ⟨(by rw [hR.1]; exact B86), gr87⟩⟩
theorem oref_show (v : Value) (l : List Int) (T_l : Nat → Prop) (w0 : World) (h_l : RoA rInt w0 T_l v (l)) :
  Calls Try.prog 12 #[v] w0 fun e w' => ∃ (v1 : Value) (T1 : Nat → Prop), e = .returned (.tuple #[v1, .int .i64 (shN l), .int .i64 (shE l)]) ∧ Kept (fun _ => False) w0 w' ∧ (RoO rInt w' T1 v1 ((shL l)) ∧ Grew w0 noB T1) := by
 refine calls_wq (args := [v]) 84 Try.func12 rfl rfl (Nat.le_of_ble_eq_true rfl) ?_
 have K0 := Kept.refl (fun _ => False) w0
 have hsl := h_l.short
 have g_l := Grew.refl w0 T_l
 refine wq_seq (wq_region (wl_v (.slice none 0 0) rfl rfl (y_asg rfl rfl rr) (wl_v (iv 0) rfl rfl (y_asg rfl rfl rr) (wl_v (iv 0) rfl rfl (y_asg rfl rfl rr) (wl_nil fun F1 hF2 => ?_)))))
 have s3 : F1 0 = v := (hF2 0).trans rfl
 have s4 : F1 84 = undef := (hF2 84).trans rfl
 clear hF2
 refine then_normal (wq_seq (wq_region (wl_mv rfl rfl rfl s3 (wl_v (iv ((l.length : Nat) : Int)) rfl rfl (y_lenRo (r := rInt) rfl rfl rfl h_l rr) (wl_v (iv ((l.length : Nat) : Int)) rfl rfl (y_asg rfl rfl rr) (wl_nil fun F5 hF6 => ?_))))))
 obtain ⟨s7, s8⟩ := t2 hF6 0 s3 84 s4
 have s9 : F5 5 = iv ((l.length : Nat) : Int) := (hF6 5).trans rfl
 clear hF6
 refine then_normal (wq_seq (wq_seq ?_))
 by_cases d10 : ((l.length : Nat) : Int) < 1
 ·skip
  refine wq_region (wl_mv rfl rfl rfl s9 (wl_v (.bool true) rfl rfl (y_lss rfl rfl rfl (decide_eq_true d10) rr) (wl_v (.bool true) rfl rfl (y_mov rfl rfl rr) (wl_unless 2 false 15 rfl rfl rfl (Or.inl rfl) rfl (wl_unless 2 false 15 rfl rfl rfl (Or.inl rfl) rfl (wl_v (.bool true) rfl rfl (y_pickT rfl rfl rfl rr) (wl_nil fun F11 hF12 => ?_)))))))
  have s14 := (hF12 84).trans s8
  have s16 : F11 18 = .bool true := (hF12 18).trans rfl
  clear hF12
  refine then_normal ?_
  refine wq_cond (t := true) s16 (fun _ => ?_) (fun e => by cases e)
  refine wq_seq ?_
  have hno : ¬ shOk l := fun z => by have z1 := z.1; have z2 := z.2.1; omega
  have hR := And.intro (shL_no hno) (And.intro (shN_no hno) (shE_no hno))
  refine wq_region (wl_v (.slice none 0 0) rfl rfl (y_asg rfl rfl rr) (wl_v (iv 0) rfl rfl (y_asg rfl rfl rr) (wl_v (iv 150) rfl rfl (y_asg rfl rfl rr) (wl_nil fun F17 hF18 => ?_))))
  have s19 := (hF18 84).trans s14
  have s20 : F17 2 = .slice none 0 0 := (hF18 2).trans rfl
  have s21 : F17 3 = iv 0 := (hF18 3).trans rfl
  have s22 : F17 4 = iv 150 := (hF18 4).trans rfl
  clear hF18
  refine then_normal (wq_ret (then_ret ?_))
  exact end_3 s19 rfl (res_tmp (v := .slice none 0 0) rfl s20) (res_tmp (v := iv 0) rfl s21) (res_tmp (v := iv 150) rfl s22) ⟨(.slice none 0 0), noB, (by rw [hR.2.1, hR.2.2] <;> rfl), K0, ⟨(by rw [hR.1]; exact (RoO.nil rInt _)), (Grew.refl _ _)⟩⟩
 ·skip
  refine wq_region (wl_mv rfl rfl rfl s9 (wl_v (.bool false) rfl rfl (y_lss rfl rfl rfl (decide_eq_false d10) rr) (wl_v (.bool false) rfl rfl (y_mov rfl rfl rr) (wl_vw (iv ((l.length : Nat) : Int)) 2 false 15 rfl rfl rfl rfl rfl (y_mov rfl s9 rr) (wl_vw (.bool (decide (200 < ((l.length : Nat) : Int)))) 2 false 15 rfl rfl rfl rfl rfl (y_gtr rfl rfl rfl rfl rr) (wl_v (.bool (decide (200 < ((l.length : Nat) : Int)))) rfl rfl (y_pickF rfl rfl rfl rr) (wl_nil fun F23 hF24 => ?_)))))))
  obtain ⟨s25, s26, s27⟩ := t3 hF24 0 s7 84 s8 5 s9
  have s28 : F23 18 = .bool (decide (200 < ((l.length : Nat) : Int))) := (hF24 18).trans rfl
  clear hF24
  refine then_normal ?_
  refine wq_cond s28 (fun c29 => ?_) (fun c29 => ?_)
  ·replace c29 := of_decide_eq_true c29
   refine wq_seq ?_
   have hno : ¬ shOk l := fun z => by have z1 := z.1; have z2 := z.2.1; omega
   have hR := And.intro (shL_no hno) (And.intro (shN_no hno) (shE_no hno))
   refine wq_region (wl_v (.slice none 0 0) rfl rfl (y_asg rfl rfl rr) (wl_v (iv 0) rfl rfl (y_asg rfl rfl rr) (wl_v (iv 150) rfl rfl (y_asg rfl rfl rr) (wl_nil fun F30 hF31 => ?_))))
   have s32 := (hF31 84).trans s26
   have s33 : F30 2 = .slice none 0 0 := (hF31 2).trans rfl
   have s34 : F30 3 = iv 0 := (hF31 3).trans rfl
   have s35 : F30 4 = iv 150 := (hF31 4).trans rfl
   clear hF31
   refine then_normal (wq_ret (then_ret ?_))
   exact end_3 s32 rfl (res_tmp (v := .slice none 0 0) rfl s33) (res_tmp (v := iv 0) rfl s34) (res_tmp (v := iv 150) rfl s35) ⟨(.slice none 0 0), noB, (by rw [hR.2.1, hR.2.2] <;> rfl), K0, ⟨(by rw [hR.1]; exact (RoO.nil rInt _)), (Grew.refl _ _)⟩⟩
  ·replace c29 := of_decide_eq_false c29
   refine wq_skip (then_normal (wq_seq ?_))
   have hl1 : 1 ≤ l.length ∧ l.length ≤ 200 := by omega
   refine wq_region (wl_mv rfl rfl rfl s27 (wl_makeRo (r := rInt) (n := l.length) rfl rfl rfl rfl rfl (by omega) (by omega) (by omega) fun v36 w37 T41 B39 g40 k38 => ?_))
   have gr42 : Grew w0 noB T41 := Grew.new K0 g40
   have ap43 : Apart T41 T_l := Apart.new g40 h_l.live
   have B44 := h_l.all k38 Apart.none
   have K45 := K0.tr k38
   refine wl_v v36 rfl rfl (y_asg rfl rfl rr) (wl_nil fun F46 hF47 => ?_)
   obtain ⟨s48, s49, s50⟩ := t3 hF47 0 s25 84 s26 5 s27
   have s51 : F46 6 = v36 := (hF47 6).trans rfl
   clear hF47
   refine then_normal (wq_seq (wq_seq (wq_region (wl_v (iv 0) rfl rfl (y_asg rfl rfl rr) (wl_nil fun F52 hF53 => ?_)))))
   obtain ⟨s54, s55, s56, s57⟩ := t4 hF53 0 s48 84 s49 5 s50 6 s51
   have s58 : F52 7 = iv 0 := (hF53 7).trans rfl
   clear hF53
   refine then_normal (wq_block (wq_loop (fun nn FF ww => ∃ (k : Nat), ∃ (T59 : Nat → Prop), (k ≤ l.length) ∧ nn = l.length - k ∧ FF 0 = v ∧ FF 5 = iv ((l.length : Nat) : Int) ∧ FF 6 = v36 ∧ FF 84 = undef ∧ FF 7 = iv ((k : Nat) : Int) ∧ Kept (fun _ => False) w0 ww ∧ RoA rInt ww T_l v l ∧ RoO rInt ww T59 v36 (fillM l.length k) ∧ Grew w0 noB T59 ∧ Apart T59 T_l) (l.length - 0) ⟨0, T41, by omega, rfl, s54, s56, s57, s55, s58, K45, B44, B39, gr42, ap43⟩ ?_))
   rintro n63 F60 w61 ⟨k, T59, i64, hn63, s65, s66, s67, s68, s69, K62, B70, B71, gr72, ap73⟩
   refine wq_seq (wq_seq (wq_region (wl_mv rfl rfl rfl s69 (wl_mv rfl rfl rfl s66 (wl_v (.bool (decide (((k : Nat) : Int) < ((l.length : Nat) : Int)))) rfl rfl (y_lss rfl rfl rfl rfl rr) (wl_nil fun F74 hF75 => ?_))))))
   obtain ⟨s76, s77, s78, s79, s80⟩ := t5 hF75 0 s65 5 s66 6 s67 84 s68 7 s69
   have s81 : F74 23 = .bool (decide (((k : Nat) : Int) < ((l.length : Nat) : Int))) := (hF75 23).trans rfl
   clear hF75
   refine then_normal ?_
   refine wq_cond s81 (fun c82 => ?_) (fun c82 => ?_)
   ·replace c82 := of_decide_eq_true c82
    refine wq_skip (then_normal (wq_seq (wq_block ?_)))
    have hfl := fillM_len l.length k
    refine wq_region (wl_mv rfl rfl rfl s78 (wl_mv rfl rfl rfl s80 (wl_v (bytAddr v36 (k * 1)) rfl rfl (y_atRo (r := rInt) k rfl rfl rfl (by omega) B71.roa (by omega) rr) (wl_setRo (r := rInt) (u := -1) k rfl rfl rfl rfl rfl rfl B71 (by omega) fun w83 B84 k85 => ?_))))
    have B86 := B70.all k85 ap73.symm
    have K87 := K62.trans k85 (Grew.ok (S := fun _ => False) gr72 noB_le)
    refine wl_nil fun F88 hF89 => ?_
    obtain ⟨s90, s91, s92, s93, s94⟩ := t5 hF89 0 s76 5 s77 6 s78 84 s79 7 s80
    clear hF89
    refine in_normal (then_normal (wq_region (wl_mv rfl rfl rfl s94 (wl_v (iv ((k + 1 : Nat) : Int)) rfl rfl (y_add rfl rfl rfl (i64_n (by omega) (by omega)) rr) (wl_v (iv ((k + 1 : Nat) : Int)) rfl rfl (y_asg rfl rfl rr) (wl_nil fun F95 hF96 => ?_))))))
    obtain ⟨s97, s98, s99, s100⟩ := t4 hF96 0 s90 5 s91 6 s92 84 s93
    have s101 : F95 7 = iv ((k + 1 : Nat) : Int) := (hF96 7).trans rfl
    clear hF96
    exact then_normal ⟨(l.length - (k + 1)), by omega, k + 1, T59, by omega, rfl, s97, s98, s99, s100, s101, K87, B86, B84, gr72, ap73⟩
   ·replace c82 := of_decide_eq_false c82
    refine wq_exit (then_exit (then_exit ?_))
    have l102 : l.length = k := by omega
    subst l102
    refine in_here (then_normal (wq_seq ?_))
    have B103 : RoO rInt w61 T59 v36 (shA l 0) := (by rw [show shA l 0 = fillM l.length l.length from (fillM_all _).symm]; exact B71)
    refine wq_region (wl_v (iv 0) rfl rfl (y_asg rfl rfl rr) (wl_nil fun F104 hF105 => ?_))
    obtain ⟨s106, s107, s108, s109⟩ := t4 hF105 0 s76 5 s77 6 s78 84 s79
    have s110 : F104 8 = iv 0 := (hF105 8).trans rfl
    clear hF105
    refine then_normal (wq_seq (wq_region (wl_v (iv 0) rfl rfl (y_asg rfl rfl rr) (wl_nil fun F111 hF112 => ?_))))
    obtain ⟨s113, s114, s115, s116, s117⟩ := t5 hF112 0 s106 5 s107 6 s108 84 s109 8 s110
    have s118 : F111 9 = iv 0 := (hF112 9).trans rfl
    clear hF112
    refine then_normal (wq_seq (wq_seq (wq_region (wl_v (iv 0) rfl rfl (y_asg rfl rfl rr) (wl_nil fun F119 hF120 => ?_)))))
    obtain ⟨s121, s122, s123, s124, s125, s126⟩ := t6 hF120 0 s113 5 s114 6 s115 84 s116 8 s117 9 s118
    have s127 : F119 10 = iv 0 := (hF120 10).trans rfl
    clear hF120
    refine then_normal (wq_block (wq_loop (fun nn FF ww => ∃ (i : Nat), ∃ (T128 : Nat → Prop), (i ≤ l.length) ∧ (∀ j, j < i → shG l j) ∧ nn = l.length - i ∧ FF 0 = v ∧ FF 5 = iv ((l.length : Nat) : Int) ∧ FF 6 = v36 ∧ FF 84 = undef ∧ FF 8 = iv (shM l i) ∧ FF 9 = iv (((shT l i) : Nat) : Int) ∧ FF 10 = iv ((i : Nat) : Int) ∧ Kept (fun _ => False) w0 ww ∧ RoA rInt ww T_l v l ∧ RoO rInt ww T128 v36 (shA l i) ∧ Grew w0 noB T128 ∧ Apart T128 T_l) (l.length - 0) ⟨0, T59, by omega, (fun j hj => absurd hj (Nat.not_lt_zero j)), rfl, s121, s122, s123, s124, s125, s126, s127, K62, B70, B103, gr72, ap73⟩ ?_))
    rintro n132 F129 w130 ⟨i, T128, i133, hall, hn132, s134, s135, s136, s137, s138, s139, s140, K131, B141, B142, gr143, ap144⟩
    refine wq_seq (wq_seq (wq_region (wl_mv rfl rfl rfl s140 (wl_mv rfl rfl rfl s135 (wl_v (.bool (decide (((i : Nat) : Int) < ((l.length : Nat) : Int)))) rfl rfl (y_lss rfl rfl rfl rfl rr) (wl_nil fun F145 hF146 => ?_))))))
    obtain ⟨s147, s148, s149, s150, s151, s152, s153⟩ := t7 hF146 0 s134 5 s135 6 s136 84 s137 8 s138 9 s139 10 s140
    have s154 : F145 31 = .bool (decide (((i : Nat) : Int) < ((l.length : Nat) : Int))) := (hF146 31).trans rfl
    clear hF146
    refine then_normal ?_
    refine wq_cond s154 (fun c155 => ?_) (fun c155 => ?_)
    ·replace c155 := of_decide_eq_true c155
     refine wq_skip (then_normal (wq_seq (wq_block (wq_seq (wq_seq ?_)))))
     have hal := shA_len l i
     by_cases d156 : (l.getD i 0) < 0
     ·skip
      refine wq_region (wl_mv rfl rfl rfl s147 (wl_mv rfl rfl rfl s153 (wl_v (bytAddr v (i * 1)) rfl rfl (y_atRo (r := rInt) i rfl rfl rfl (by omega) B141 (by omega) rr) (wl_v (iv (l.getD i 0)) rfl rfl (y_ldRo (r := rInt) i 0 rfl rfl B141 (by omega) (by decide) rfl Try.underlying3 rfl rr) (wl_v (.bool true) rfl rfl (y_lss rfl rfl rfl (decide_eq_true d156) rr) (wl_v (.bool true) rfl rfl (y_mov rfl rfl rr) (wl_unless 5 false 39 rfl rfl rfl (Or.inl rfl) rfl (wl_unless 5 false 39 rfl rfl rfl (Or.inl rfl) rfl (wl_unless 5 false 39 rfl rfl rfl (Or.inl rfl) rfl (wl_unless 5 false 39 rfl rfl rfl (Or.inl rfl) rfl (wl_unless 5 false 39 rfl rfl rfl (Or.inl rfl) rfl ?_)))))))))))
      refine wl_unless 5 false 39 rfl rfl rfl (Or.inl rfl) rfl (wl_v (.bool true) rfl rfl (y_pickT rfl rfl rfl rr) (wl_v (.bool true) rfl rfl (y_mov rfl rfl rr) (wl_unless 13 false 47 rfl rfl rfl (Or.inl rfl) rfl (wl_unless 13 false 47 rfl rfl rfl (Or.inl rfl) rfl (wl_unless 13 false 47 rfl rfl rfl (Or.inl rfl) rfl (wl_unless 13 false 47 rfl rfl rfl (Or.inl rfl) rfl (wl_unless 13 false 47 rfl rfl rfl (Or.inl rfl) rfl (wl_unless 13 false 47 rfl rfl rfl (Or.inl rfl) rfl (wl_unless 13 false 47 rfl rfl rfl (Or.inl rfl) rfl (wl_unless 13 false 47 rfl rfl rfl (Or.inl rfl) rfl (wl_v (.bool true) rfl rfl (y_pickT rfl rfl rfl rr) ?_)))))))))))
      refine wl_nil fun F157 hF158 => ?_
      have s162 := (hF158 84).trans s150
      have s166 : F157 56 = .bool true := (hF158 56).trans rfl
      clear hF158
      refine then_normal ?_
      refine wq_cond (t := true) s166 (fun _ => ?_) (fun e => by cases e)
      refine wq_seq ?_
      have hno : ¬ shOk l := sh_bad (i := i) (by omega) (fun z => by have z1 := z.1; have z2 := z.2.1; have z3 := z.2.2; omega)
      have hR := And.intro (shL_no hno) (And.intro (shN_no hno) (shE_no hno))
      refine wq_region (wl_v (.slice none 0 0) rfl rfl (y_asg rfl rfl rr) (wl_v (iv 0) rfl rfl (y_asg rfl rfl rr) (wl_v (iv 150) rfl rfl (y_asg rfl rfl rr) (wl_nil fun F167 hF168 => ?_))))
      have s169 := (hF168 84).trans s162
      have s170 : F167 2 = .slice none 0 0 := (hF168 2).trans rfl
      have s171 : F167 3 = iv 0 := (hF168 3).trans rfl
      have s172 : F167 4 = iv 150 := (hF168 4).trans rfl
      clear hF168
      refine then_normal (wq_ret (then_ret (in_ret (then_ret (then_ret (in_ret (then_ret ?_)))))))
      exact end_3 s169 rfl (res_tmp (v := .slice none 0 0) rfl s170) (res_tmp (v := iv 0) rfl s171) (res_tmp (v := iv 150) rfl s172) ⟨(.slice none 0 0), noB, (by rw [hR.2.1, hR.2.2] <;> rfl), K131, ⟨(by rw [hR.1]; exact (RoO.nil rInt _)), (Grew.refl _ _)⟩⟩
     ·skip
      by_cases d173 : ((l.length : Nat) : Int) ≤ (l.getD i 0)
      ·skip
       refine wq_region (wl_mv rfl rfl rfl s147 (wl_mv rfl rfl rfl s153 (wl_v (bytAddr v (i * 1)) rfl rfl (y_atRo (r := rInt) i rfl rfl rfl (by omega) B141 (by omega) rr) (wl_v (iv (l.getD i 0)) rfl rfl (y_ldRo (r := rInt) i 0 rfl rfl B141 (by omega) (by decide) rfl Try.underlying3 rfl rr) (wl_v (.bool false) rfl rfl (y_lss rfl rfl rfl (decide_eq_false d156) rr) (wl_v (.bool false) rfl rfl (y_mov rfl rfl rr) (wl_vw v 5 false 39 rfl rfl rfl rfl rfl (y_mov rfl s147 rr) (wl_vw (iv ((i : Nat) : Int)) 5 false 39 rfl rfl rfl rfl rfl (y_mov rfl s153 rr) (wl_vw (bytAddr v (i * 1)) 5 false 39 rfl rfl rfl rfl rfl (y_atRo (r := rInt) i rfl rfl rfl (by omega) B141 (by omega) rr) (wl_vw (iv (l.getD i 0)) 5 false 39 rfl rfl rfl rfl rfl (y_ldRo (r := rInt) i 0 rfl rfl B141 (by omega) (by decide) rfl Try.underlying3 rfl rr) (wl_vw (iv ((l.length : Nat) : Int)) 5 false 39 rfl rfl rfl rfl rfl (y_mov rfl s148 rr) ?_)))))))))))
       refine wl_vw (.bool true) 5 false 39 rfl rfl rfl rfl rfl (y_geq rfl rfl rfl (decide_eq_true d173) rr) (wl_v (.bool true) rfl rfl (y_pickF rfl rfl rfl rr) (wl_v (.bool true) rfl rfl (y_mov rfl rfl rr) (wl_unless 13 false 47 rfl rfl rfl (Or.inl rfl) rfl (wl_unless 13 false 47 rfl rfl rfl (Or.inl rfl) rfl (wl_unless 13 false 47 rfl rfl rfl (Or.inl rfl) rfl (wl_unless 13 false 47 rfl rfl rfl (Or.inl rfl) rfl (wl_unless 13 false 47 rfl rfl rfl (Or.inl rfl) rfl (wl_unless 13 false 47 rfl rfl rfl (Or.inl rfl) rfl (wl_unless 13 false 47 rfl rfl rfl (Or.inl rfl) rfl (wl_unless 13 false 47 rfl rfl rfl (Or.inl rfl) rfl (wl_v (.bool true) rfl rfl (y_pickT rfl rfl rfl rr) ?_)))))))))))
       refine wl_nil fun F174 hF175 => ?_
       have s179 := (hF175 84).trans s150
       have s183 : F174 56 = .bool true := (hF175 56).trans rfl
       clear hF175
       refine then_normal ?_
       refine wq_cond (t := true) s183 (fun _ => ?_) (fun e => by cases e)
       refine wq_seq ?_
       have hno : ¬ shOk l := sh_bad (i := i) (by omega) (fun z => by have z1 := z.1; have z2 := z.2.1; have z3 := z.2.2; omega)
       have hR := And.intro (shL_no hno) (And.intro (shN_no hno) (shE_no hno))
       refine wq_region (wl_v (.slice none 0 0) rfl rfl (y_asg rfl rfl rr) (wl_v (iv 0) rfl rfl (y_asg rfl rfl rr) (wl_v (iv 150) rfl rfl (y_asg rfl rfl rr) (wl_nil fun F184 hF185 => ?_))))
       have s186 := (hF185 84).trans s179
       have s187 : F184 2 = .slice none 0 0 := (hF185 2).trans rfl
       have s188 : F184 3 = iv 0 := (hF185 3).trans rfl
       have s189 : F184 4 = iv 150 := (hF185 4).trans rfl
       clear hF185
       refine then_normal (wq_ret (then_ret (in_ret (then_ret (then_ret (in_ret (then_ret ?_)))))))
       exact end_3 s186 rfl (res_tmp (v := .slice none 0 0) rfl s187) (res_tmp (v := iv 0) rfl s188) (res_tmp (v := iv 150) rfl s189) ⟨(.slice none 0 0), noB, (by rw [hR.2.1, hR.2.2] <;> rfl), K131, ⟨(by rw [hR.1]; exact (RoO.nil rInt _)), (Grew.refl _ _)⟩⟩
      ·skip
       refine wq_region (wl_mv rfl rfl rfl s147 (wl_mv rfl rfl rfl s153 (wl_v (bytAddr v (i * 1)) rfl rfl (y_atRo (r := rInt) i rfl rfl rfl (by omega) B141 (by omega) rr) (wl_v (iv (l.getD i 0)) rfl rfl (y_ldRo (r := rInt) i 0 rfl rfl B141 (by omega) (by decide) rfl Try.underlying3 rfl rr) (wl_v (.bool false) rfl rfl (y_lss rfl rfl rfl (decide_eq_false d156) rr) (wl_v (.bool false) rfl rfl (y_mov rfl rfl rr) (wl_vw v 5 false 39 rfl rfl rfl rfl rfl (y_mov rfl s147 rr) (wl_vw (iv ((i : Nat) : Int)) 5 false 39 rfl rfl rfl rfl rfl (y_mov rfl s153 rr) (wl_vw (bytAddr v (i * 1)) 5 false 39 rfl rfl rfl rfl rfl (y_atRo (r := rInt) i rfl rfl rfl (by omega) B141 (by omega) rr) (wl_vw (iv (l.getD i 0)) 5 false 39 rfl rfl rfl rfl rfl (y_ldRo (r := rInt) i 0 rfl rfl B141 (by omega) (by decide) rfl Try.underlying3 rfl rr) (wl_vw (iv ((l.length : Nat) : Int)) 5 false 39 rfl rfl rfl rfl rfl (y_mov rfl s148 rr) ?_)))))))))))
       refine wl_vw (.bool false) 5 false 39 rfl rfl rfl rfl rfl (y_geq rfl rfl rfl (decide_eq_false d173) rr) (wl_v (.bool false) rfl rfl (y_pickF rfl rfl rfl rr) (wl_v (.bool false) rfl rfl (y_mov rfl rfl rr) (wl_vw v36 13 false 47 rfl rfl rfl rfl rfl (y_mov rfl s149 rr) (wl_vw v 13 false 47 rfl rfl rfl rfl rfl (y_mov rfl s147 rr) (wl_vw (iv ((i : Nat) : Int)) 13 false 47 rfl rfl rfl rfl rfl (y_mov rfl s153 rr) (wl_vw (bytAddr v (i * 1)) 13 false 47 rfl rfl rfl rfl rfl (y_atRo (r := rInt) i rfl rfl rfl (by omega) B141 (by omega) rr) (wl_vw (iv (l.getD i 0)) 13 false 47 rfl rfl rfl rfl rfl (y_ldRo (r := rInt) i 0 rfl rfl B141 (by omega) (by decide) rfl Try.underlying3 rfl rr) (wl_vw (bytAddr v36 (((l.getD i 0).toNat) * 1)) 13 false 47 rfl rfl rfl rfl rfl (y_atRo (r := rInt) ((l.getD i 0).toNat) rfl rfl rfl (by omega) B142.roa (by omega) rr) (wl_vw (iv ((shA l i).getD ((l.getD i 0).toNat) 0)) 13 false 47 rfl rfl rfl rfl rfl (y_ldRo (r := rInt) ((l.getD i 0).toNat) 0 rfl rfl B142.roa (by omega) (by decide) rfl Try.underlying3 rfl rr) (wl_vw (.bool (decide (0 ≤ ((shA l i).getD ((l.getD i 0).toNat) 0)))) 13 false 47 rfl rfl rfl rfl rfl (y_geq rfl rfl rfl rfl rr) (wl_v (.bool (decide (0 ≤ ((shA l i).getD ((l.getD i 0).toNat) 0)))) rfl rfl (y_pickF rfl rfl rfl rr) ?_)))))))))))
       refine wl_nil fun F190 hF191 => ?_
       obtain ⟨s192, s193, s194, s195, s196, s197, s198⟩ := t7 hF191 0 s147 5 s148 6 s149 84 s150 8 s151 9 s152 10 s153
       have s199 : F190 56 = .bool (decide (0 ≤ ((shA l i).getD ((l.getD i 0).toNat) 0))) := (hF191 56).trans rfl
       clear hF191
       refine then_normal ?_
       refine wq_cond s199 (fun c200 => ?_) (fun c200 => ?_)
       ·replace c200 := of_decide_eq_true c200
        refine wq_seq ?_
        have hno : ¬ shOk l := sh_bad (i := i) (by omega) (fun z => by have z1 := z.1; have z2 := z.2.1; have z3 := z.2.2; omega)
        have hR := And.intro (shL_no hno) (And.intro (shN_no hno) (shE_no hno))
        refine wq_region (wl_v (.slice none 0 0) rfl rfl (y_asg rfl rfl rr) (wl_v (iv 0) rfl rfl (y_asg rfl rfl rr) (wl_v (iv 150) rfl rfl (y_asg rfl rfl rr) (wl_nil fun F201 hF202 => ?_))))
        have s203 := (hF202 84).trans s195
        have s204 : F201 2 = .slice none 0 0 := (hF202 2).trans rfl
        have s205 : F201 3 = iv 0 := (hF202 3).trans rfl
        have s206 : F201 4 = iv 150 := (hF202 4).trans rfl
        clear hF202
        refine then_normal (wq_ret (then_ret (in_ret (then_ret (then_ret (in_ret (then_ret ?_)))))))
        exact end_3 s203 rfl (res_tmp (v := .slice none 0 0) rfl s204) (res_tmp (v := iv 0) rfl s205) (res_tmp (v := iv 150) rfl s206) ⟨(.slice none 0 0), noB, (by rw [hR.2.1, hR.2.2] <;> rfl), K131, ⟨(by rw [hR.1]; exact (RoO.nil rInt _)), (Grew.refl _ _)⟩⟩
       ·replace c200 := of_decide_eq_false c200
        refine wq_skip (then_normal (wq_seq ?_))
        have hg : shG l i := ⟨by omega, by omega, by omega⟩
        refine wq_region (wl_mv rfl rfl rfl s194 (wl_mv rfl rfl rfl s192 (wl_mv rfl rfl rfl s198 (wl_v (bytAddr v (i * 1)) rfl rfl (y_atRo (r := rInt) i rfl rfl rfl (by omega) B141 (by omega) rr) (wl_v (iv (l.getD i 0)) rfl rfl (y_ldRo (r := rInt) i 0 rfl rfl B141 (by omega) (by decide) rfl Try.underlying3 rfl rr) (wl_mv rfl rfl rfl s198 (wl_v (bytAddr v36 (((l.getD i 0).toNat) * 1)) rfl rfl (y_atRo (r := rInt) ((l.getD i 0).toNat) rfl rfl rfl (by omega) B142.roa (by omega) rr) (wl_setRo (r := rInt) (u := ((i : Nat) : Int)) ((l.getD i 0).toNat) rfl rfl rfl rfl rfl rfl B142 (by omega) fun w207 B208 k209 => ?_))))))))
        have B210 := B141.all k209 ap144.symm
        have K211 := K131.trans k209 (Grew.ok (S := fun _ => False) gr143 noB_le)
        refine wl_nil fun F212 hF213 => ?_
        obtain ⟨s214, s215, s216, s217, s218, s219, s220⟩ := t7 hF213 0 s192 5 s193 6 s194 84 s195 8 s196 9 s197 10 s198
        clear hF213
        refine then_normal (wq_seq ?_)
        have hal1 := shA_len l (i + 1)
        have hmi := shM_in l i (by omega)
        have hti := shT_le l i
        have B221 : RoO rInt w207 T128 v36 (shA l (i + 1)) := B208
        refine wq_region (wl_mv rfl rfl rfl s218 (wl_mv rfl rfl rfl s220 (wl_v (iv ((i + 1 : Nat) : Int)) rfl rfl (y_add rfl rfl rfl (i64_n (by omega) (by omega)) rr) (wl_mv rfl rfl rfl s219 (wl_v (iv (((i + 1 : Nat) : Int) - (((shT l i) : Nat) : Int))) rfl rfl (y_sub rfl rfl rfl (i64_i rfl (by omega)) rr) (wl_v (iv (max (shM l i) (((i + 1 : Nat) : Int) - (((shT l i) : Nat) : Int)))) rfl rfl (y_maxR rfl rfl rfl rfl rr) (wl_v (iv (max (shM l i) (((i + 1 : Nat) : Int) - (((shT l i) : Nat) : Int)))) rfl rfl (y_asg rfl rfl rr) (wl_nil fun F222 hF223 => ?_))))))))
        obtain ⟨s224, s225, s226, s227, s228, s229⟩ := t6 hF223 0 s214 5 s215 6 s216 84 s217 9 s219 10 s220
        have s230 : F222 8 = iv (max (shM l i) (((i + 1 : Nat) : Int) - (((shT l i) : Nat) : Int))) := (hF223 8).trans rfl
        clear hF223
        refine then_normal (wq_block (wq_loop (fun nn FF ww => ∃ (t : Nat), (tk (shA l (i + 1)) t = shT l (i + 1)) ∧ (t ≤ l.length) ∧ nn = l.length - t ∧ FF 0 = v ∧ FF 5 = iv ((l.length : Nat) : Int) ∧ FF 6 = v36 ∧ FF 8 = iv (max (shM l i) (((i + 1 : Nat) : Int) - (((shT l i) : Nat) : Int))) ∧ FF 10 = iv ((i : Nat) : Int) ∧ FF 84 = undef ∧ FF 9 = iv ((t : Nat) : Int) ∧ Kept (fun _ => False) w0 ww ∧ RoA rInt ww T_l v l ∧ RoO rInt ww T128 v36 (shA l (i + 1))) (l.length - (shT l i)) ⟨shT l i, rfl, by omega, rfl, s224, s225, s226, s230, s229, s227, s228, K211, B210, B221⟩ ?_))
        rintro n234 F231 w232 ⟨t, htk, i235, hn234, s236, s237, s238, s239, s240, s241, s242, K233, B243, B244⟩
        refine wq_seq (wq_seq ?_)
        by_cases d245 : ((t : Nat) : Int) < ((l.length : Nat) : Int)
        ·skip
         refine wq_region (wl_mv rfl rfl rfl s242 (wl_mv rfl rfl rfl s237 (wl_v (.bool true) rfl rfl (y_lss rfl rfl rfl (decide_eq_true d245) rr) (wl_v (.bool true) rfl rfl (y_mov rfl rfl rr) (wl_vw v36 3 true 73 rfl rfl rfl rfl rfl (y_mov rfl s238 rr) (wl_vw (iv ((t : Nat) : Int)) 3 true 73 rfl rfl rfl rfl rfl (y_mov rfl s242 rr) (wl_vw (bytAddr v36 (t * 1)) 3 true 73 rfl rfl rfl rfl rfl (y_atRo (r := rInt) t rfl rfl rfl (by omega) B244.roa (by omega) rr) (wl_vw (iv ((shA l (i + 1)).getD t 0)) 3 true 73 rfl rfl rfl rfl rfl (y_ldRo (r := rInt) t 0 rfl rfl B244.roa (by omega) (by decide) rfl Try.underlying3 rfl rr) (wl_vw (.bool (decide (0 ≤ ((shA l (i + 1)).getD t 0)))) 3 true 73 rfl rfl rfl rfl rfl (y_geq rfl rfl rfl rfl rr) (wl_v (.bool (decide (0 ≤ ((shA l (i + 1)).getD t 0)))) rfl rfl (y_pickT rfl rfl rfl rr) (wl_nil fun F246 hF247 => ?_)))))))))))
         obtain ⟨s248, s249, s250, s251, s252, s253, s254⟩ := t7 hF247 0 s236 5 s237 6 s238 8 s239 10 s240 84 s241 9 s242
         have s255 : F246 79 = .bool (decide (0 ≤ ((shA l (i + 1)).getD t 0))) := (hF247 79).trans rfl
         clear hF247
         refine then_normal ?_
         refine wq_cond s255 (fun c256 => ?_) (fun c256 => ?_)
         ·replace c256 := of_decide_eq_true c256
          refine wq_skip (then_normal (wq_block (wq_region (wl_mv rfl rfl rfl s254 (wl_v (iv ((t + 1 : Nat) : Int)) rfl rfl (y_add rfl rfl rfl (i64_n (by omega) (by omega)) rr) (wl_v (iv ((t + 1 : Nat) : Int)) rfl rfl (y_asg rfl rfl rr) (wl_nil fun F257 hF258 => ?_)))))))
          obtain ⟨s259, s260, s261, s262, s263, s264⟩ := t6 hF258 0 s248 5 s249 6 s250 8 s251 10 s252 84 s253
          have s265 : F257 9 = iv ((t + 1 : Nat) : Int) := (hF258 9).trans rfl
          clear hF258
          refine in_normal ?_
          exact then_normal ⟨(l.length - (t + 1)), by omega, t + 1, ((tk_yes (by omega) (by assumption)).symm.trans htk), by omega, rfl, s259, s260, s261, s262, s263, s264, s265, K233, B243, B244⟩
         ·replace c256 := of_decide_eq_false c256
          refine wq_exit (then_exit (then_exit (in_here (in_normal (then_normal ?_)))))
          have htt : t = shT l (i + 1) := (tk_no (by omega)).symm.trans htk
          refine wq_region (wl_mv rfl rfl rfl s252 (wl_v (iv ((i + 1 : Nat) : Int)) rfl rfl (y_add rfl rfl rfl (i64_n (by omega) (by omega)) rr) (wl_v (iv ((i + 1 : Nat) : Int)) rfl rfl (y_asg rfl rfl rr) (wl_nil fun F266 hF267 => ?_))))
          obtain ⟨s268, s269, s270, s271, s272, s273⟩ := t6 hF267 0 s248 5 s249 6 s250 8 s251 84 s253 9 s254
          have s274 : F266 10 = iv ((i + 1 : Nat) : Int) := (hF267 10).trans rfl
          clear hF267
          exact then_normal ⟨(l.length - (i + 1)), by omega, i + 1, T128, by omega, (fun j hj => by by_cases e : j = i; (· rw [e]; exact hg); exact hall j (by omega)), rfl, s268, s269, s270, s272, s271, (by rw [← htt]; exact s273), s274, K233, B243, B244, gr143, ap144⟩
        ·skip
         refine wq_region (wl_mv rfl rfl rfl s242 (wl_mv rfl rfl rfl s237 (wl_v (.bool false) rfl rfl (y_lss rfl rfl rfl (decide_eq_false d245) rr) (wl_v (.bool false) rfl rfl (y_mov rfl rfl rr) (wl_unless 3 true 73 rfl rfl rfl (Or.inl rfl) rfl (wl_unless 3 true 73 rfl rfl rfl (Or.inl rfl) rfl (wl_unless 3 true 73 rfl rfl rfl (Or.inl rfl) rfl (wl_unless 3 true 73 rfl rfl rfl (Or.inl rfl) rfl (wl_unless 3 true 73 rfl rfl rfl (Or.inl rfl) rfl (wl_v (.bool false) rfl rfl (y_pickF rfl rfl rfl rr) (wl_nil fun F275 hF276 => ?_)))))))))))
         obtain ⟨s277, s278, s279, s280, s281, s282, s283⟩ := t7 hF276 0 s236 5 s237 6 s238 8 s239 10 s240 84 s241 9 s242
         have s284 : F275 79 = .bool false := (hF276 79).trans rfl
         clear hF276
         refine then_normal ?_
         refine wq_cond (t := false) s284 (fun e => by cases e) (fun _ => ?_)
         refine wq_exit (then_exit (then_exit (in_here (in_normal (then_normal ?_)))))
         have htt : t = shT l (i + 1) := (tk_no (by omega)).symm.trans htk
         refine wq_region (wl_mv rfl rfl rfl s281 (wl_v (iv ((i + 1 : Nat) : Int)) rfl rfl (y_add rfl rfl rfl (i64_n (by omega) (by omega)) rr) (wl_v (iv ((i + 1 : Nat) : Int)) rfl rfl (y_asg rfl rfl rr) (wl_nil fun F285 hF286 => ?_))))
         obtain ⟨s287, s288, s289, s290, s291, s292⟩ := t6 hF286 0 s277 5 s278 6 s279 8 s280 84 s282 9 s283
         have s293 : F285 10 = iv ((i + 1 : Nat) : Int) := (hF286 10).trans rfl
         clear hF286
         exact then_normal ⟨(l.length - (i + 1)), by omega, i + 1, T128, by omega, (fun j hj => by by_cases e : j = i; (· rw [e]; exact hg); exact hall j (by omega)), rfl, s287, s288, s289, s291, s290, (by rw [← htt]; exact s292), s293, K233, B243, B244, gr143, ap144⟩
    ·replace c155 := of_decide_eq_false c155
     refine wq_exit (then_exit (then_exit ?_))
     have l294 : l.length = i := by omega
     subst l294
     refine in_here (then_normal (wq_seq ?_))
     have hok : shOk l := ⟨hl1.1, hl1.2, fun j hj => hall j (by omega)⟩
     have hR := And.intro (shL_yes hok) (And.intro (shN_yes hok) (shE_yes hok))
     refine wq_region (wl_mv rfl rfl rfl s149 (wl_mv rfl rfl rfl s151 (wl_v v36 rfl rfl (y_asg rfl rfl rr) (wl_v (iv (shM l l.length)) rfl rfl (y_asg rfl rfl rr) (wl_v (iv 0) rfl rfl (y_asg rfl rfl rr) (wl_nil fun F295 hF296 => ?_))))))
     have s297 := (hF296 84).trans s150
     have s298 : F295 2 = v36 := (hF296 2).trans rfl
     have s299 : F295 3 = iv (shM l l.length) := (hF296 3).trans rfl
     have s300 : F295 4 = iv 0 := (hF296 4).trans rfl
     clear hF296
     refine then_normal (wq_ret ?_)
     exact end_3 s297 rfl (res_tmp (v := v36) rfl s298) (res_tmp (v := iv (shM l l.length)) rfl s299) (res_tmp (v := iv 0) rfl s300) ⟨v36, T128, (by rw [hR.2.1, hR.2.2] <;> rfl), K131, ⟨(by rw [hR.1]; exact B142), gr143⟩⟩
theorem structI_slot : StructI 38 4 := ⟨⟨by kernel_rfl, by kernel_rfl⟩, by kernel_rfl, by kernel_rfl⟩
def slZ : Sl := ⟨0, 0, 0, 0⟩
def slI (x : Sl) : List Int := [x.d, x.k, x.p, x.n]
def sameSls (a b : List Sl) : Bool := decide (a.length = b.length) && (List.range a.length).all fun i => sameI (slI (a.getD i slZ)) (slI (b.getD i slZ))
theorem sameSls_len {a b : List Sl} (h : a.length ≠ b.length) : sameSls a b = false := by unfold sameSls; rw [decide_eq_false h]; rfl
theorem sameSls_no {a b : List Sl} {i : Nat} (hi : i < a.length) (h : sameI (slI (a.getD i slZ)) (slI (b.getD i slZ)) = false) : sameSls a b = false := by
  unfold sameSls
  rw [Bool.and_eq_false_iff]; right
  rw [List.all_eq_false]
  exact ⟨i, List.mem_range.2 hi, by rw [h]; exact Bool.false_ne_true⟩
theorem sameSls_yes {a b : List Sl} (hl : a.length = b.length) (h : ∀ i, i < a.length → sameI (slI (a.getD i slZ)) (slI (b.getD i slZ)) = true) : sameSls a b = true := by
  unfold sameSls
  rw [decide_eq_true hl, Bool.true_and, List.all_eq_true]
  exact fun i hi => h i (List.mem_range.1 hi)
theorem sameSls_self (a : List Sl) : sameSls a a = true := sameSls_yes rfl fun _ _ => sameI_self _
theorem oref_same (v : Value) (a : List Sl) (u : Value) (b : List Sl) (T_a : Nat → Prop) (T_b : Nat → Prop) (w0 : World) (h_a : RoA rSl w0 T_a v (a)) (h_b : RoA rSl w0 T_b u (b)) :
  Calls Try.prog 13 #[v, u] w0 fun e w' => e = .returned (.bool (sameSls a b)) ∧ Kept (fun _ => False) w0 w' := by
 refine calls_wq (args := [v, u]) 26 Try.func13 rfl rfl (Nat.le_of_ble_eq_true rfl) ?_
 have K0 := Kept.refl (fun _ => False) w0
 have hsa := h_a.short
 have g_a := Grew.refl w0 T_a
 have g_b := Grew.refl w0 T_b
 refine wq_seq (wq_region (wl_v (.bool false) rfl rfl (y_asg rfl rfl rr) (wl_nil fun F1 hF2 => ?_)))
 have s3 : F1 0 = v := (hF2 0).trans rfl
 have s4 : F1 1 = u := (hF2 1).trans rfl
 have s5 : F1 26 = undef := (hF2 26).trans rfl
 clear hF2
 refine then_normal (wq_seq (wq_seq (wq_region (wl_mv rfl rfl rfl s3 (wl_v (iv ((a.length : Nat) : Int)) rfl rfl (y_lenRo (r := rSl) rfl rfl rfl h_a rr) (wl_mv rfl rfl rfl s4 (wl_v (iv ((b.length : Nat) : Int)) rfl rfl (y_lenRo (r := rSl) rfl rfl rfl h_b rr) (wl_v (.bool (decide (((a.length : Nat) : Int) ≠ ((b.length : Nat) : Int)))) rfl rfl (y_neqI rfl rfl rfl rfl rr) (wl_nil fun F6 hF7 => ?_)))))))))
 obtain ⟨s8, s9, s10⟩ := t3 hF7 0 s3 1 s4 26 s5
 have s11 : F6 10 = .bool (decide (((a.length : Nat) : Int) ≠ ((b.length : Nat) : Int))) := (hF7 10).trans rfl
 clear hF7
 refine then_normal ?_
 refine wq_cond s11 (fun c12 => ?_) (fun c12 => ?_)
 ·replace c12 := of_decide_eq_true c12
  refine wq_seq (wq_region (wl_v (.bool false) rfl rfl (y_asg rfl rfl rr) (wl_nil fun F13 hF14 => ?_)))
  have s15 := (hF14 26).trans s10
  have s16 : F13 4 = .bool false := (hF14 4).trans rfl
  clear hF14
  refine then_normal (wq_ret (then_ret ?_))
  exact end_tmp (v := .bool false) s15 rfl rfl s16 ⟨(by first | rw [sameSls_len (by omega)] | rw [sameSls_yes hlab hall] | rw [sameSls_no (i := i) (by omega) (by simp_all [slI, slZ])]), K0⟩
 ·replace c12 := of_decide_eq_false c12
  refine wq_skip (then_normal (wq_seq (wq_seq ?_)))
  have hlab : a.length = b.length := by omega
  refine wq_region (wl_v (iv 0) rfl rfl (y_asg rfl rfl rr) (wl_nil fun F17 hF18 => ?_))
  obtain ⟨s19, s20, s21⟩ := t3 hF18 0 s8 1 s9 26 s10
  have s22 : F17 5 = iv 0 := (hF18 5).trans rfl
  clear hF18
  refine then_normal (wq_block (wq_loop (fun nn FF ww => ∃ (i : Nat), (i ≤ a.length) ∧ (∀ j, j < i → sameI (slI (a.getD j slZ)) (slI (b.getD j slZ)) = true) ∧ nn = a.length - i ∧ FF 0 = v ∧ FF 1 = u ∧ FF 26 = undef ∧ FF 5 = iv ((i : Nat) : Int) ∧ Kept (fun _ => False) w0 ww ∧ RoA rSl ww T_a v a ∧ RoA rSl ww T_b u b) (a.length - 0) ⟨0, by omega, (fun j hj => absurd hj (by omega)), rfl, s19, s20, s21, s22, K0, h_a, h_b⟩ ?_))
  rintro n26 F23 w24 ⟨i, i27, hall, hn26, s28, s29, s30, s31, K25, B32, B33⟩
  refine wq_seq (wq_seq (wq_region (wl_mv rfl rfl rfl s31 (wl_mv rfl rfl rfl s28 (wl_v (iv ((a.length : Nat) : Int)) rfl rfl (y_lenRo (r := rSl) rfl rfl rfl B32 rr) (wl_v (.bool (decide (((i : Nat) : Int) < ((a.length : Nat) : Int)))) rfl rfl (y_lss rfl rfl rfl rfl rr) (wl_nil fun F34 hF35 => ?_)))))))
  obtain ⟨s36, s37, s38, s39⟩ := t4 hF35 0 s28 1 s29 26 s30 5 s31
  have s40 : F34 14 = .bool (decide (((i : Nat) : Int) < ((a.length : Nat) : Int))) := (hF35 14).trans rfl
  clear hF35
  refine then_normal ?_
  refine wq_cond s40 (fun c41 => ?_) (fun c41 => ?_)
  ·replace c41 := of_decide_eq_true c41
   refine wq_skip (then_normal (wq_seq (wq_block (wq_seq ?_))))
   refine wq_said [some 17, some 18, some 19, some 20, some 21, some 22, some 23, some 24, some 25] [Pd.eq v, Pd.eq (iv ((i : Nat) : Int)), Pd.eq (bytAddr v (i * 4)), Pd.eq (.agg #[iv ((a.getD i ⟨0, 0, 0, 0⟩).d), iv ((a.getD i ⟨0, 0, 0, 0⟩).k), iv ((a.getD i ⟨0, 0, 0, 0⟩).p), iv ((a.getD i ⟨0, 0, 0, 0⟩).n)]), Pd.eq u, Pd.eq (iv ((i : Nat) : Int)), Pd.eq (bytAddr u (i * 4)), Pd.eq (.agg #[iv ((b.getD i ⟨0, 0, 0, 0⟩).d), iv ((b.getD i ⟨0, 0, 0, 0⟩).k), iv ((b.getD i ⟨0, 0, 0, 0⟩).p), iv ((b.getD i ⟨0, 0, 0, 0⟩).n)]), Pd.eq (.bool (!sameI [(a.getD i ⟨0, 0, 0, 0⟩).d, (a.getD i ⟨0, 0, 0, 0⟩).k, (a.getD i ⟨0, 0, 0, 0⟩).p, (a.getD i ⟨0, 0, 0, 0⟩).n] [(b.getD i ⟨0, 0, 0, 0⟩).d, (b.getD i ⟨0, 0, 0, 0⟩).k, (b.getD i ⟨0, 0, 0, 0⟩).p, (b.getD i ⟨0, 0, 0, 0⟩).n]))] (by kernel_rfl) (by kernel_rfl) ?_ ?_
   ·refine stepsF_cons ?_ ?_
    ·refine StepF.one rfl fun F_ w_ hR hout hD => ?_
     exact (y_mov rfl ((hout 0 rfl (by decide)).trans s36) ⟨rfl, Kept.refl _ _⟩)
    refine stepsF_cons ?_ ?_
    ·refine StepF.one rfl fun F_ w_ hR hout hD => ?_
     exact (y_mov rfl ((hout 5 rfl (by decide)).trans s39) ⟨rfl, Kept.refl _ _⟩)
    refine stepsF_cons ?_ ?_
    ·refine StepF.one rfl fun F_ w_ hR hout hD => ?_
     have g17 : F_ 17 = v := (hD.get 0 rfl rfl rfl)
     have g18 : F_ 18 = iv ((i : Nat) : Int) := (hD.get 1 rfl rfl rfl)
     exact (y_atRo (r := rSl) i rfl g17 g18 (by omega) (B32.all hR Apart.none) (by omega) ⟨rfl, Kept.refl _ _⟩)
    refine stepsF_cons ?_ ?_
    ·refine StepF.one rfl fun F_ w_ hR hout hD => ?_
     have g19 : F_ 19 = bytAddr v (i * 4) := (hD.get 0 rfl rfl rfl)
     exact (y_ldRoP (r := rSl) (n := 4) i 0 stcT_slot rfl g19 (B32.all hR Apart.none) (by omega) (by decide) rfl ⟨rfl, Kept.refl _ _⟩)
    refine stepsF_cons ?_ ?_
    ·refine StepF.one rfl fun F_ w_ hR hout hD => ?_
     exact (y_mov rfl ((hout 1 rfl (by decide)).trans s37) ⟨rfl, Kept.refl _ _⟩)
    refine stepsF_cons ?_ ?_
    ·refine StepF.one rfl fun F_ w_ hR hout hD => ?_
     exact (y_mov rfl ((hout 5 rfl (by decide)).trans s39) ⟨rfl, Kept.refl _ _⟩)
    refine stepsF_cons ?_ ?_
    ·refine StepF.one rfl fun F_ w_ hR hout hD => ?_
     have g21 : F_ 21 = u := (hD.get 0 rfl rfl rfl)
     have g22 : F_ 22 = iv ((i : Nat) : Int) := (hD.get 1 rfl rfl rfl)
     exact (y_atRo (r := rSl) i rfl g21 g22 (by omega) (B33.all hR Apart.none) (by omega) ⟨rfl, Kept.refl _ _⟩)
    refine stepsF_cons ?_ ?_
    ·refine StepF.one rfl fun F_ w_ hR hout hD => ?_
     have g23 : F_ 23 = bytAddr u (i * 4) := (hD.get 0 rfl rfl rfl)
     exact (y_ldRoP (r := rSl) (n := 4) i 0 stcT_slot rfl g23 (B33.all hR Apart.none) (by omega) (by decide) rfl ⟨rfl, Kept.refl _ _⟩)
    refine stepsF_cons ?_ ?_
    ·refine StepF.one rfl fun F_ w_ hR hout hD => ?_
     have g20 : F_ 20 = .agg #[iv ((a.getD i ⟨0, 0, 0, 0⟩).d), iv ((a.getD i ⟨0, 0, 0, 0⟩).k), iv ((a.getD i ⟨0, 0, 0, 0⟩).p), iv ((a.getD i ⟨0, 0, 0, 0⟩).n)] := (hD.get 0 rfl rfl rfl)
     have g24 : F_ 24 = .agg #[iv ((b.getD i ⟨0, 0, 0, 0⟩).d), iv ((b.getD i ⟨0, 0, 0, 0⟩).k), iv ((b.getD i ⟨0, 0, 0, 0⟩).p), iv ((b.getD i ⟨0, 0, 0, 0⟩).n)] := (hD.get 1 rfl rfl rfl)
     exact (y_neqSI (xs := [(a.getD i ⟨0, 0, 0, 0⟩).d, (a.getD i ⟨0, 0, 0, 0⟩).k, (a.getD i ⟨0, 0, 0, 0⟩).p, (a.getD i ⟨0, 0, 0, 0⟩).n]) (ys := [(b.getD i ⟨0, 0, 0, 0⟩).d, (b.getD i ⟨0, 0, 0, 0⟩).k, (b.getD i ⟨0, 0, 0, 0⟩).p, (b.getD i ⟨0, 0, 0, 0⟩).n]) structI_slot rfl g20 g24 rfl rfl rfl ⟨rfl, Kept.refl _ _⟩)
    exact stepsF_nil
   intro v42 F43 w44 k45 G46 hF47
   have B49 := B32.all k45 Apart.none
   have B50 := B33.all k45 Apart.none
   have K51 := K25.tr k45
   obtain ⟨s52, s53, s54, s55⟩ := t4 hF47 0 s36 1 s37 26 s38 5 s39
   have s56 : F43 25 = .bool (!sameI [(a.getD i ⟨0, 0, 0, 0⟩).d, (a.getD i ⟨0, 0, 0, 0⟩).k, (a.getD i ⟨0, 0, 0, 0⟩).p, (a.getD i ⟨0, 0, 0, 0⟩).n] [(b.getD i ⟨0, 0, 0, 0⟩).d, (b.getD i ⟨0, 0, 0, 0⟩).k, (b.getD i ⟨0, 0, 0, 0⟩).p, (b.getD i ⟨0, 0, 0, 0⟩).n]) := (hF47 25).trans (G46 8 (by decide))
   clear G46 hF47
   refine then_normal ?_
   refine wq_cond s56 (fun c57 => ?_) (fun c57 => ?_)
   ·skip
    refine wq_seq (wq_region (wl_v (.bool false) rfl rfl (y_asg rfl rfl rr) (wl_nil fun F58 hF59 => ?_)))
    have s60 := (hF59 26).trans s54
    have s61 : F58 4 = .bool false := (hF59 4).trans rfl
    clear hF59
    refine then_normal (wq_ret (in_ret (then_ret (then_ret (in_ret (then_ret ?_))))))
    exact end_tmp (v := .bool false) s60 rfl rfl s61 ⟨(by first | rw [sameSls_len (by omega)] | rw [sameSls_yes hlab hall] | rw [sameSls_no (i := i) (by omega) (by simp_all [slI, slZ])]), K51⟩
   ·skip
    refine wq_skip (in_normal (then_normal (wq_region (wl_mv rfl rfl rfl s55 (wl_v (iv ((i + 1 : Nat) : Int)) rfl rfl (y_add rfl rfl rfl (i64_n (by omega) (by omega)) rr) (wl_v (iv ((i + 1 : Nat) : Int)) rfl rfl (y_asg rfl rfl rr) (wl_nil fun F62 hF63 => ?_)))))))
    obtain ⟨s64, s65, s66⟩ := t3 hF63 0 s52 1 s53 26 s54
    have s67 : F62 5 = iv ((i + 1 : Nat) : Int) := (hF63 5).trans rfl
    clear hF63
    exact then_normal ⟨(a.length - (i + 1)), by omega, i + 1, by omega, (fun j hj => by by_cases e : j = i; subst e; simp_all [slI, slZ]; exact hall j (by omega)), rfl, s64, s65, s66, s67, K51, B49, B50⟩
  ·replace c41 := of_decide_eq_false c41
   refine wq_exit (then_exit (then_exit ?_))
   have l68 : a.length = i := by omega
   subst l68
   refine in_here (then_normal (wq_seq (wq_region (wl_v (.bool true) rfl rfl (y_asg rfl rfl rr) (wl_nil fun F69 hF70 => ?_)))))
   have s71 := (hF70 26).trans s38
   have s72 : F69 4 = .bool true := (hF70 4).trans rfl
   clear hF70
   refine then_normal (wq_ret ?_)
   exact end_tmp (v := .bool true) s71 rfl rfl s72 ⟨(by first | rw [sameSls_len (by omega)] | rw [sameSls_yes hlab hall] | rw [sameSls_no (i := i) (by omega) (by simp_all [slI, slZ])]), K25⟩
theorem oref_numbers (v : Value) (a : List Int) (u : Value) (b : List Int) (T_a : Nat → Prop) (T_b : Nat → Prop) (w0 : World) (h_a : RoA rInt w0 T_a v (a)) (h_b : RoA rInt w0 T_b u (b)) :
  Calls Try.prog 14 #[v, u] w0 fun e w' => e = .returned (.bool (numS a b)) ∧ Kept (fun _ => False) w0 w' := by
 refine calls_wq (args := [v, u]) 26 Try.func14 rfl rfl (Nat.le_of_ble_eq_true rfl) ?_
 have K0 := Kept.refl (fun _ => False) w0
 have hsa := h_a.short
 have g_a := Grew.refl w0 T_a
 have g_b := Grew.refl w0 T_b
 refine wq_seq (wq_region (wl_v (.bool false) rfl rfl (y_asg rfl rfl rr) (wl_nil fun F1 hF2 => ?_)))
 have s3 : F1 0 = v := (hF2 0).trans rfl
 have s4 : F1 1 = u := (hF2 1).trans rfl
 have s5 : F1 26 = undef := (hF2 26).trans rfl
 clear hF2
 refine then_normal (wq_seq (wq_seq (wq_region (wl_mv rfl rfl rfl s3 (wl_v (iv ((a.length : Nat) : Int)) rfl rfl (y_lenRo (r := rInt) rfl rfl rfl h_a rr) (wl_mv rfl rfl rfl s4 (wl_v (iv ((b.length : Nat) : Int)) rfl rfl (y_lenRo (r := rInt) rfl rfl rfl h_b rr) (wl_v (.bool (decide (((a.length : Nat) : Int) ≠ ((b.length : Nat) : Int)))) rfl rfl (y_neqI rfl rfl rfl rfl rr) (wl_nil fun F6 hF7 => ?_)))))))))
 obtain ⟨s8, s9, s10⟩ := t3 hF7 0 s3 1 s4 26 s5
 have s11 : F6 10 = .bool (decide (((a.length : Nat) : Int) ≠ ((b.length : Nat) : Int))) := (hF7 10).trans rfl
 clear hF7
 refine then_normal ?_
 refine wq_cond s11 (fun c12 => ?_) (fun c12 => ?_)
 ·replace c12 := of_decide_eq_true c12
  refine wq_seq (wq_region (wl_v (.bool false) rfl rfl (y_asg rfl rfl rr) (wl_nil fun F13 hF14 => ?_)))
  have s15 := (hF14 26).trans s10
  have s16 : F13 4 = .bool false := (hF14 4).trans rfl
  clear hF14
  refine then_normal (wq_ret (then_ret ?_))
  exact end_tmp (v := .bool false) s15 rfl rfl s16 ⟨(by first | rw [numS_len (by omega)] | rw [numS_yes hlab (fun j hj => hall j (by omega))] | rw [numS_no (i := i) (by assumption)]), K0⟩
 ·replace c12 := of_decide_eq_false c12
  refine wq_skip (then_normal (wq_seq (wq_seq ?_)))
  have hlab : a.length = b.length := by omega
  refine wq_region (wl_v (iv 0) rfl rfl (y_asg rfl rfl rr) (wl_nil fun F17 hF18 => ?_))
  obtain ⟨s19, s20, s21⟩ := t3 hF18 0 s8 1 s9 26 s10
  have s22 : F17 5 = iv 0 := (hF18 5).trans rfl
  clear hF18
  refine then_normal (wq_block (wq_loop (fun nn FF ww => ∃ (i : Nat), (i ≤ a.length) ∧ (∀ j, j < i → a.getD j 0 = b.getD j 0) ∧ nn = a.length - i ∧ FF 0 = v ∧ FF 1 = u ∧ FF 26 = undef ∧ FF 5 = iv ((i : Nat) : Int) ∧ Kept (fun _ => False) w0 ww ∧ RoA rInt ww T_a v a ∧ RoA rInt ww T_b u b) (a.length - 0) ⟨0, by omega, (fun j hj => absurd hj (by omega)), rfl, s19, s20, s21, s22, K0, h_a, h_b⟩ ?_))
  rintro n26 F23 w24 ⟨i, i27, hall, hn26, s28, s29, s30, s31, K25, B32, B33⟩
  refine wq_seq (wq_seq (wq_region (wl_mv rfl rfl rfl s31 (wl_mv rfl rfl rfl s28 (wl_v (iv ((a.length : Nat) : Int)) rfl rfl (y_lenRo (r := rInt) rfl rfl rfl B32 rr) (wl_v (.bool (decide (((i : Nat) : Int) < ((a.length : Nat) : Int)))) rfl rfl (y_lss rfl rfl rfl rfl rr) (wl_nil fun F34 hF35 => ?_)))))))
  obtain ⟨s36, s37, s38, s39⟩ := t4 hF35 0 s28 1 s29 26 s30 5 s31
  have s40 : F34 14 = .bool (decide (((i : Nat) : Int) < ((a.length : Nat) : Int))) := (hF35 14).trans rfl
  clear hF35
  refine then_normal ?_
  refine wq_cond s40 (fun c41 => ?_) (fun c41 => ?_)
  ·replace c41 := of_decide_eq_true c41
   refine wq_skip (then_normal (wq_seq (wq_block (wq_seq ?_))))
   refine wq_said [some 17, some 18, some 19, some 20, some 21, some 22, some 23, some 24, some 25] [Pd.eq v, Pd.eq (iv ((i : Nat) : Int)), Pd.eq (bytAddr v (i * 1)), Pd.eq (iv (a.getD i 0)), Pd.eq u, Pd.eq (iv ((i : Nat) : Int)), Pd.eq (bytAddr u (i * 1)), Pd.eq (iv (b.getD i 0)), Pd.eq (.bool (decide ((a.getD i 0) ≠ (b.getD i 0))))] (by kernel_rfl) (by kernel_rfl) ?_ ?_
   ·refine stepsF_cons ?_ ?_
    ·refine StepF.one rfl fun F_ w_ hR hout hD => ?_
     exact (y_mov rfl ((hout 0 rfl (by decide)).trans s36) ⟨rfl, Kept.refl _ _⟩)
    refine stepsF_cons ?_ ?_
    ·refine StepF.one rfl fun F_ w_ hR hout hD => ?_
     exact (y_mov rfl ((hout 5 rfl (by decide)).trans s39) ⟨rfl, Kept.refl _ _⟩)
    refine stepsF_cons ?_ ?_
    ·refine StepF.one rfl fun F_ w_ hR hout hD => ?_
     have g17 : F_ 17 = v := (hD.get 0 rfl rfl rfl)
     have g18 : F_ 18 = iv ((i : Nat) : Int) := (hD.get 1 rfl rfl rfl)
     exact (y_atRo (r := rInt) i rfl g17 g18 (by omega) (B32.all hR Apart.none) (by omega) ⟨rfl, Kept.refl _ _⟩)
    refine stepsF_cons ?_ ?_
    ·refine StepF.one rfl fun F_ w_ hR hout hD => ?_
     have g19 : F_ 19 = bytAddr v (i * 1) := (hD.get 0 rfl rfl rfl)
     exact (y_ldRo (r := rInt) i 0 rfl g19 (B32.all hR Apart.none) (by omega) (by decide) rfl Try.underlying3 rfl ⟨rfl, Kept.refl _ _⟩)
    refine stepsF_cons ?_ ?_
    ·refine StepF.one rfl fun F_ w_ hR hout hD => ?_
     exact (y_mov rfl ((hout 1 rfl (by decide)).trans s37) ⟨rfl, Kept.refl _ _⟩)
    refine stepsF_cons ?_ ?_
    ·refine StepF.one rfl fun F_ w_ hR hout hD => ?_
     exact (y_mov rfl ((hout 5 rfl (by decide)).trans s39) ⟨rfl, Kept.refl _ _⟩)
    refine stepsF_cons ?_ ?_
    ·refine StepF.one rfl fun F_ w_ hR hout hD => ?_
     have g21 : F_ 21 = u := (hD.get 0 rfl rfl rfl)
     have g22 : F_ 22 = iv ((i : Nat) : Int) := (hD.get 1 rfl rfl rfl)
     exact (y_atRo (r := rInt) i rfl g21 g22 (by omega) (B33.all hR Apart.none) (by omega) ⟨rfl, Kept.refl _ _⟩)
    refine stepsF_cons ?_ ?_
    ·refine StepF.one rfl fun F_ w_ hR hout hD => ?_
     have g23 : F_ 23 = bytAddr u (i * 1) := (hD.get 0 rfl rfl rfl)
     exact (y_ldRo (r := rInt) i 0 rfl g23 (B33.all hR Apart.none) (by omega) (by decide) rfl Try.underlying3 rfl ⟨rfl, Kept.refl _ _⟩)
    refine stepsF_cons ?_ ?_
    ·refine StepF.one rfl fun F_ w_ hR hout hD => ?_
     have g20 : F_ 20 = iv (a.getD i 0) := (hD.get 0 rfl rfl rfl)
     have g24 : F_ 24 = iv (b.getD i 0) := (hD.get 1 rfl rfl rfl)
     exact (y_neqI rfl g20 g24 rfl ⟨rfl, Kept.refl _ _⟩)
    exact stepsF_nil
   intro v42 F43 w44 k45 G46 hF47
   have B49 := B32.all k45 Apart.none
   have B50 := B33.all k45 Apart.none
   have K51 := K25.tr k45
   obtain ⟨s52, s53, s54, s55⟩ := t4 hF47 0 s36 1 s37 26 s38 5 s39
   have s56 : F43 25 = .bool (decide ((a.getD i 0) ≠ (b.getD i 0))) := (hF47 25).trans (G46 8 (by decide))
   clear G46 hF47
   refine then_normal ?_
   refine wq_cond s56 (fun c57 => ?_) (fun c57 => ?_)
   ·replace c57 := of_decide_eq_true c57
    refine wq_seq (wq_region (wl_v (.bool false) rfl rfl (y_asg rfl rfl rr) (wl_nil fun F58 hF59 => ?_)))
    have s60 := (hF59 26).trans s54
    have s61 : F58 4 = .bool false := (hF59 4).trans rfl
    clear hF59
    refine then_normal (wq_ret (in_ret (then_ret (then_ret (in_ret (then_ret ?_))))))
    exact end_tmp (v := .bool false) s60 rfl rfl s61 ⟨(by first | rw [numS_len (by omega)] | rw [numS_yes hlab (fun j hj => hall j (by omega))] | rw [numS_no (i := i) (by assumption)]), K51⟩
   ·replace c57 := of_decide_eq_false c57
    refine wq_skip (in_normal (then_normal (wq_region (wl_mv rfl rfl rfl s55 (wl_v (iv ((i + 1 : Nat) : Int)) rfl rfl (y_add rfl rfl rfl (i64_n (by omega) (by omega)) rr) (wl_v (iv ((i + 1 : Nat) : Int)) rfl rfl (y_asg rfl rfl rr) (wl_nil fun F62 hF63 => ?_)))))))
    obtain ⟨s64, s65, s66⟩ := t3 hF63 0 s52 1 s53 26 s54
    have s67 : F62 5 = iv ((i + 1 : Nat) : Int) := (hF63 5).trans rfl
    clear hF63
    exact then_normal ⟨(a.length - (i + 1)), by omega, i + 1, by omega, (fun j hj => by by_cases e : j = i; subst e; (first | assumption | (apply Decidable.byContradiction; assumption)); exact hall j (by omega)), rfl, s64, s65, s66, s67, K51, B49, B50⟩
  ·replace c41 := of_decide_eq_false c41
   refine wq_exit (then_exit (then_exit ?_))
   have l68 : a.length = i := by omega
   subst l68
   refine in_here (then_normal (wq_seq (wq_region (wl_v (.bool true) rfl rfl (y_asg rfl rfl rr) (wl_nil fun F69 hF70 => ?_)))))
   have s71 := (hF70 26).trans s38
   have s72 : F69 4 = .bool true := (hF70 4).trans rfl
   clear hF70
   refine then_normal (wq_ret ?_)
   exact end_tmp (v := .bool true) s71 rfl rfl s72 ⟨(by first | rw [numS_len (by omega)] | rw [numS_yes hlab (fun j hj => hall j (by omega))] | rw [numS_no (i := i) (by assumption)]), K25⟩
end Go.Proofs.Ythoafgfcoclkbaa
set_option maxRecDepth 100000
namespace Go.Proofs.Ythoafgfcoclkbaa
open Go.RowKit
theorem od_within (n a b : Int) (w0 : World) :
  Calls Try.prog 17 #[.int .i64 (n), .int .i64 (a), .int .i64 (b)] w0 fun e w' => e = .returned (.bool (decide (a ≤ n ∧ n ≤ b))) ∧ Kept (fun _ => False) w0 w' := by
 refine calls_wq (args := [iv n, iv a, iv b]) 15 Try.func17 rfl rfl (Nat.le_of_ble_eq_true rfl) ?_
 have K0 := Kept.refl (fun _ => False) w0
 refine wq_seq (wq_region (wl_v (.bool false) rfl rfl (y_asg rfl rfl rr) (wl_nil fun F1 hF2 => ?_)))
 have s3 : F1 0 = iv n := (hF2 0).trans rfl
 have s4 : F1 1 = iv a := (hF2 1).trans rfl
 have s5 : F1 2 = iv b := (hF2 2).trans rfl
 have s6 : F1 15 = undef := (hF2 15).trans rfl
 clear hF2
 refine then_normal (wq_seq ?_)
 by_cases d7 : a ≤ n
 ·skip
  refine wq_region (wl_mv rfl rfl rfl s3 (wl_mv rfl rfl rfl s4 (wl_v (.bool true) rfl rfl (y_geq rfl rfl rfl (decide_eq_true d7) rr) (wl_v (.bool true) rfl rfl (y_mov rfl rfl rr) (wl_vw (iv n) 3 true 10 rfl rfl rfl rfl rfl (y_mov rfl s3 rr) (wl_vw (iv b) 3 true 10 rfl rfl rfl rfl rfl (y_mov rfl s5 rr) (wl_vw (.bool (decide (n ≤ b))) 3 true 10 rfl rfl rfl rfl rfl (y_leq rfl rfl rfl rfl rr) (wl_v (.bool (decide (n ≤ b))) rfl rfl (y_pickT rfl rfl rfl rr) (wl_v (.bool (decide (n ≤ b))) rfl rfl (y_asg rfl rfl rr) (wl_nil fun F8 hF9 => ?_))))))))))
  have s10 := (hF9 15).trans s6
  have s11 : F8 6 = .bool (decide (n ≤ b)) := (hF9 6).trans rfl
  clear hF9
  refine then_normal (wq_ret ?_)
  exact end_tmp (v := .bool (decide (n ≤ b))) s10 rfl rfl s11 ⟨(retB (by first | exact (decide_eq_true (by omega)).symm | exact (decide_eq_false (by omega)).symm | exact decide_eq_decide.2 (by omega))), K0⟩
 ·skip
  refine wq_region (wl_mv rfl rfl rfl s3 (wl_mv rfl rfl rfl s4 (wl_v (.bool false) rfl rfl (y_geq rfl rfl rfl (decide_eq_false d7) rr) (wl_v (.bool false) rfl rfl (y_mov rfl rfl rr) (wl_unless 3 true 10 rfl rfl rfl (Or.inl rfl) rfl (wl_unless 3 true 10 rfl rfl rfl (Or.inl rfl) rfl (wl_unless 3 true 10 rfl rfl rfl (Or.inl rfl) rfl (wl_v (.bool false) rfl rfl (y_pickF rfl rfl rfl rr) (wl_v (.bool false) rfl rfl (y_asg rfl rfl rr) (wl_nil fun F12 hF13 => ?_))))))))))
  have s14 := (hF13 15).trans s6
  have s15 : F12 6 = .bool false := (hF13 6).trans rfl
  clear hF13
  refine then_normal (wq_ret ?_)
  exact end_tmp (v := .bool false) s14 rfl rfl s15 ⟨(retB (by first | exact (decide_eq_true (by omega)).symm | exact (decide_eq_false (by omega)).symm | exact decide_eq_decide.2 (by omega))), K0⟩
theorem od_check (G B Q : Int) (w0 : World) :
  Calls Try.prog 15 #[.agg #[.int .i64 (G), .int .i64 (B), .int .i64 (Q)]] w0 fun e w' => e = .returned (.int .i64 (planE G B Q)) ∧ Kept (fun _ => False) w0 w' := by
 refine calls_wq (args := [.agg #[iv G, iv B, iv Q]]) 19 Try.func15 rfl rfl (Nat.le_of_ble_eq_true rfl) ?_
 have K0 := Kept.refl (fun _ => False) w0
 refine wq_seq (wq_region (wl_box_stc (vs := [iv G, iv B, iv Q]) rfl rfl rfl rfl fun p1 w2 B4 g5 k3 => ?_))
 have K7 := K0.tr k3
 refine wl_v (iv 0) rfl rfl (y_asg rfl rfl rr) (wl_nil fun F8 hF9 => ?_)
 have s10 : F8 19 = undef := (hF9 19).trans rfl
 have s11 : F8 1 = pt p1 0 := (hF9 1).trans rfl
 clear hF9
 refine then_normal (wq_seq (wq_seq ?_))
 by_cases d12 : 1 ≤ G ∧ G ≤ 16
 ·skip
  by_cases d13 : 0 ≤ B ∧ B ≤ 3
  ·skip
   by_cases d14 : 0 ≤ Q ∧ Q ≤ 20
   ·skip
    refine wq_region (wl_v (pt p1 0) rfl rfl (y_fieldR (n := 1) rfl s11 Try.underlying23 rfl (by kernel_rfl) (by decide) rfl rr) (wl_v (iv G) rfl rfl (y_ld_stc rfl rfl Try.underlying3 B4 rfl rfl rr) (wl_call (R := fun v_ w_ => v_ = .bool true ∧ Kept (fun _ => False) w2 w_) rfl rfl (y_cs rfl rfl rfl (fun _ _ => by kernel_rfl) (ev_func _) (vsC rfl (vsC rfl (vsC rfl vsN))) (od_within G 1 16  _   ) (fun e_ w_ h_ => ⟨_, h_.1, (congrArg Value.bool (decide_eq_true d12)), h_.2⟩)) ?_)))
    rintro _ w15 ⟨rfl, k16⟩
    have B17 := B4.all k16 id
    have K18 := K7.tr k16
    refine wl_v (.bool false) rfl rfl (y_not rfl rfl rfl rr) (wl_v (.bool false) rfl rfl (y_mov rfl rfl rr) (wl_vw (pt p1 1) 4 false 7 rfl rfl rfl rfl rfl (y_fieldR (n := 1) rfl s11 Try.underlying23 rfl (by kernel_rfl) (by decide) rfl rr) (wl_vw (iv B) 4 false 7 rfl rfl rfl rfl rfl (y_ld_stc rfl rfl Try.underlying3 B17 rfl rfl rr) (wl_callw (R := fun v_ w_ => v_ = .bool true ∧ Kept (fun _ => False) w15 w_) 4 false 7 rfl rfl rfl rfl rfl (y_cs rfl rfl rfl (fun _ _ => by kernel_rfl) (ev_func _) (vsC rfl (vsC rfl (vsC rfl vsN))) (od_within B 0 3  _   ) (fun e_ w_ h_ => ⟨_, h_.1, (congrArg Value.bool (decide_eq_true d13)), h_.2⟩)) ?_))))
    rintro _ w19 ⟨rfl, k20⟩
    have B21 := B17.all k20 id
    have K22 := K18.tr k20
    refine wl_vw (.bool false) 4 false 7 rfl rfl rfl rfl rfl (y_not rfl rfl rfl rr) (wl_v (.bool false) rfl rfl (y_pickF rfl rfl rfl rr) (wl_v (.bool false) rfl rfl (y_mov rfl rfl rr) (wl_vw (pt p1 2) 10 false 13 rfl rfl rfl rfl rfl (y_fieldR (n := 1) rfl s11 Try.underlying23 rfl (by kernel_rfl) (by decide) rfl rr) (wl_vw (iv Q) 10 false 13 rfl rfl rfl rfl rfl (y_ld_stc rfl rfl Try.underlying3 B21 rfl rfl rr) (wl_callw (R := fun v_ w_ => v_ = .bool true ∧ Kept (fun _ => False) w19 w_) 10 false 13 rfl rfl rfl rfl rfl (y_cs rfl rfl rfl (fun _ _ => by kernel_rfl) (ev_func _) (vsC rfl (vsC rfl (vsC rfl vsN))) (od_within Q 0 20  _   ) (fun e_ w_ h_ => ⟨_, h_.1, (congrArg Value.bool (decide_eq_true d14)), h_.2⟩)) ?_)))))
    rintro _ w23 ⟨rfl, k24⟩
    have K26 := K22.tr k24
    refine wl_vw (.bool false) 10 false 13 rfl rfl rfl rfl rfl (y_not rfl rfl rfl rr) (wl_v (.bool false) rfl rfl (y_pickF rfl rfl rfl rr) (wl_nil fun F27 hF28 => ?_))
    have s29 := (hF28 19).trans s10
    have s30 : F27 18 = .bool false := (hF28 18).trans rfl
    clear hF28
    refine then_normal ?_
    refine wq_cond (t := false) s30 (fun e => by cases e) (fun _ => ?_)
    refine wq_skip (then_normal (wq_seq (wq_region (wl_v (iv 0) rfl rfl (y_asg rfl rfl rr) (wl_nil fun F31 hF32 => ?_)))))
    have s33 := (hF32 19).trans s29
    have s34 : F31 2 = iv 0 := (hF32 2).trans rfl
    clear hF32
    refine then_normal (wq_ret ?_)
    exact end_tmp (v := iv 0) s33 rfl rfl s34 ⟨(by first | rw [show planE G B Q = 0 from if_pos (by unfold planOk; omega)] | rw [show planE G B Q = 150 from if_neg (by unfold planOk; omega)]), K26⟩
   ·skip
    refine wq_region (wl_v (pt p1 0) rfl rfl (y_fieldR (n := 1) rfl s11 Try.underlying23 rfl (by kernel_rfl) (by decide) rfl rr) (wl_v (iv G) rfl rfl (y_ld_stc rfl rfl Try.underlying3 B4 rfl rfl rr) (wl_call (R := fun v_ w_ => v_ = .bool true ∧ Kept (fun _ => False) w2 w_) rfl rfl (y_cs rfl rfl rfl (fun _ _ => by kernel_rfl) (ev_func _) (vsC rfl (vsC rfl (vsC rfl vsN))) (od_within G 1 16  _   ) (fun e_ w_ h_ => ⟨_, h_.1, (congrArg Value.bool (decide_eq_true d12)), h_.2⟩)) ?_)))
    rintro _ w35 ⟨rfl, k36⟩
    have B37 := B4.all k36 id
    have K38 := K7.tr k36
    refine wl_v (.bool false) rfl rfl (y_not rfl rfl rfl rr) (wl_v (.bool false) rfl rfl (y_mov rfl rfl rr) (wl_vw (pt p1 1) 4 false 7 rfl rfl rfl rfl rfl (y_fieldR (n := 1) rfl s11 Try.underlying23 rfl (by kernel_rfl) (by decide) rfl rr) (wl_vw (iv B) 4 false 7 rfl rfl rfl rfl rfl (y_ld_stc rfl rfl Try.underlying3 B37 rfl rfl rr) (wl_callw (R := fun v_ w_ => v_ = .bool true ∧ Kept (fun _ => False) w35 w_) 4 false 7 rfl rfl rfl rfl rfl (y_cs rfl rfl rfl (fun _ _ => by kernel_rfl) (ev_func _) (vsC rfl (vsC rfl (vsC rfl vsN))) (od_within B 0 3  _   ) (fun e_ w_ h_ => ⟨_, h_.1, (congrArg Value.bool (decide_eq_true d13)), h_.2⟩)) ?_))))
    rintro _ w39 ⟨rfl, k40⟩
    have B41 := B37.all k40 id
    have K42 := K38.tr k40
    refine wl_vw (.bool false) 4 false 7 rfl rfl rfl rfl rfl (y_not rfl rfl rfl rr) (wl_v (.bool false) rfl rfl (y_pickF rfl rfl rfl rr) (wl_v (.bool false) rfl rfl (y_mov rfl rfl rr) (wl_vw (pt p1 2) 10 false 13 rfl rfl rfl rfl rfl (y_fieldR (n := 1) rfl s11 Try.underlying23 rfl (by kernel_rfl) (by decide) rfl rr) (wl_vw (iv Q) 10 false 13 rfl rfl rfl rfl rfl (y_ld_stc rfl rfl Try.underlying3 B41 rfl rfl rr) (wl_callw (R := fun v_ w_ => v_ = .bool false ∧ Kept (fun _ => False) w39 w_) 10 false 13 rfl rfl rfl rfl rfl (y_cs rfl rfl rfl (fun _ _ => by kernel_rfl) (ev_func _) (vsC rfl (vsC rfl (vsC rfl vsN))) (od_within Q 0 20  _   ) (fun e_ w_ h_ => ⟨_, h_.1, (congrArg Value.bool (decide_eq_false d14)), h_.2⟩)) ?_)))))
    rintro _ w43 ⟨rfl, k44⟩
    have K46 := K42.tr k44
    refine wl_vw (.bool true) 10 false 13 rfl rfl rfl rfl rfl (y_not rfl rfl rfl rr) (wl_v (.bool true) rfl rfl (y_pickF rfl rfl rfl rr) (wl_nil fun F47 hF48 => ?_))
    have s49 := (hF48 19).trans s10
    have s50 : F47 18 = .bool true := (hF48 18).trans rfl
    clear hF48
    refine then_normal ?_
    refine wq_cond (t := true) s50 (fun _ => ?_) (fun e => by cases e)
    refine wq_seq (wq_region (wl_v (iv 150) rfl rfl (y_asg rfl rfl rr) (wl_nil fun F51 hF52 => ?_)))
    have s53 := (hF52 19).trans s49
    have s54 : F51 2 = iv 150 := (hF52 2).trans rfl
    clear hF52
    refine then_normal (wq_ret (then_ret ?_))
    exact end_tmp (v := iv 150) s53 rfl rfl s54 ⟨(by first | rw [show planE G B Q = 0 from if_pos (by unfold planOk; omega)] | rw [show planE G B Q = 150 from if_neg (by unfold planOk; omega)]), K46⟩
  ·skip
   refine wq_region (wl_v (pt p1 0) rfl rfl (y_fieldR (n := 1) rfl s11 Try.underlying23 rfl (by kernel_rfl) (by decide) rfl rr) (wl_v (iv G) rfl rfl (y_ld_stc rfl rfl Try.underlying3 B4 rfl rfl rr) (wl_call (R := fun v_ w_ => v_ = .bool true ∧ Kept (fun _ => False) w2 w_) rfl rfl (y_cs rfl rfl rfl (fun _ _ => by kernel_rfl) (ev_func _) (vsC rfl (vsC rfl (vsC rfl vsN))) (od_within G 1 16  _   ) (fun e_ w_ h_ => ⟨_, h_.1, (congrArg Value.bool (decide_eq_true d12)), h_.2⟩)) ?_)))
   rintro _ w55 ⟨rfl, k56⟩
   have B57 := B4.all k56 id
   have K58 := K7.tr k56
   refine wl_v (.bool false) rfl rfl (y_not rfl rfl rfl rr) (wl_v (.bool false) rfl rfl (y_mov rfl rfl rr) (wl_vw (pt p1 1) 4 false 7 rfl rfl rfl rfl rfl (y_fieldR (n := 1) rfl s11 Try.underlying23 rfl (by kernel_rfl) (by decide) rfl rr) (wl_vw (iv B) 4 false 7 rfl rfl rfl rfl rfl (y_ld_stc rfl rfl Try.underlying3 B57 rfl rfl rr) (wl_callw (R := fun v_ w_ => v_ = .bool false ∧ Kept (fun _ => False) w55 w_) 4 false 7 rfl rfl rfl rfl rfl (y_cs rfl rfl rfl (fun _ _ => by kernel_rfl) (ev_func _) (vsC rfl (vsC rfl (vsC rfl vsN))) (od_within B 0 3  _   ) (fun e_ w_ h_ => ⟨_, h_.1, (congrArg Value.bool (decide_eq_false d13)), h_.2⟩)) ?_))))
   rintro _ w59 ⟨rfl, k60⟩
   have K62 := K58.tr k60
   refine wl_vw (.bool true) 4 false 7 rfl rfl rfl rfl rfl (y_not rfl rfl rfl rr) (wl_v (.bool true) rfl rfl (y_pickF rfl rfl rfl rr) (wl_v (.bool true) rfl rfl (y_mov rfl rfl rr) (wl_unless 10 false 13 rfl rfl rfl (Or.inl rfl) rfl (wl_unless 10 false 13 rfl rfl rfl (Or.inl rfl) rfl (wl_unless 10 false 13 rfl rfl rfl (Or.inl rfl) rfl (wl_unless 10 false 13 rfl rfl rfl (Or.inl rfl) rfl (wl_v (.bool true) rfl rfl (y_pickT rfl rfl rfl rr) (wl_nil fun F63 hF64 => ?_))))))))
   have s65 := (hF64 19).trans s10
   have s66 : F63 18 = .bool true := (hF64 18).trans rfl
   clear hF64
   refine then_normal ?_
   refine wq_cond (t := true) s66 (fun _ => ?_) (fun e => by cases e)
   refine wq_seq (wq_region (wl_v (iv 150) rfl rfl (y_asg rfl rfl rr) (wl_nil fun F67 hF68 => ?_)))
   have s69 := (hF68 19).trans s65
   have s70 : F67 2 = iv 150 := (hF68 2).trans rfl
   clear hF68
   refine then_normal (wq_ret (then_ret ?_))
   exact end_tmp (v := iv 150) s69 rfl rfl s70 ⟨(by first | rw [show planE G B Q = 0 from if_pos (by unfold planOk; omega)] | rw [show planE G B Q = 150 from if_neg (by unfold planOk; omega)]), K62⟩
 ·skip
  refine wq_region (wl_v (pt p1 0) rfl rfl (y_fieldR (n := 1) rfl s11 Try.underlying23 rfl (by kernel_rfl) (by decide) rfl rr) (wl_v (iv G) rfl rfl (y_ld_stc rfl rfl Try.underlying3 B4 rfl rfl rr) (wl_call (R := fun v_ w_ => v_ = .bool false ∧ Kept (fun _ => False) w2 w_) rfl rfl (y_cs rfl rfl rfl (fun _ _ => by kernel_rfl) (ev_func _) (vsC rfl (vsC rfl (vsC rfl vsN))) (od_within G 1 16  _   ) (fun e_ w_ h_ => ⟨_, h_.1, (congrArg Value.bool (decide_eq_false d12)), h_.2⟩)) ?_)))
  rintro _ w71 ⟨rfl, k72⟩
  have K74 := K7.tr k72
  refine wl_v (.bool true) rfl rfl (y_not rfl rfl rfl rr) (wl_v (.bool true) rfl rfl (y_mov rfl rfl rr) (wl_unless 4 false 7 rfl rfl rfl (Or.inl rfl) rfl (wl_unless 4 false 7 rfl rfl rfl (Or.inl rfl) rfl (wl_unless 4 false 7 rfl rfl rfl (Or.inl rfl) rfl (wl_unless 4 false 7 rfl rfl rfl (Or.inl rfl) rfl (wl_v (.bool true) rfl rfl (y_pickT rfl rfl rfl rr) (wl_v (.bool true) rfl rfl (y_mov rfl rfl rr) (wl_unless 10 false 13 rfl rfl rfl (Or.inl rfl) rfl (wl_unless 10 false 13 rfl rfl rfl (Or.inl rfl) rfl (wl_unless 10 false 13 rfl rfl rfl (Or.inl rfl) rfl (wl_unless 10 false 13 rfl rfl rfl (Or.inl rfl) rfl ?_)))))))))))
  refine wl_v (.bool true) rfl rfl (y_pickT rfl rfl rfl rr) (wl_nil fun F75 hF76 => ?_)
  have s77 := (hF76 19).trans s10
  have s78 : F75 18 = .bool true := (hF76 18).trans rfl
  clear hF76
  refine then_normal ?_
  refine wq_cond (t := true) s78 (fun _ => ?_) (fun e => by cases e)
  refine wq_seq (wq_region (wl_v (iv 150) rfl rfl (y_asg rfl rfl rr) (wl_nil fun F79 hF80 => ?_)))
  have s81 := (hF80 19).trans s77
  have s82 : F79 2 = iv 150 := (hF80 2).trans rfl
  clear hF80
  refine then_normal (wq_ret (then_ret ?_))
  exact end_tmp (v := iv 150) s81 rfl rfl s82 ⟨(by first | rw [show planE G B Q = 0 from if_pos (by unfold planOk; omega)] | rw [show planE G B Q = 150 from if_neg (by unfold planOk; omega)]), K74⟩
def rBool : RowT Bool := { t := 36, e := 4, k := 1, by_ := 1, enc := fun x => [.bool x], d := false, z := .bool false }
theorem one_bool {a : Bool} : ∀ u ∈ [Value.bool a], u.oneCell' = true := fun u hu => by
  rcases List.mem_cons.1 hu with rfl | hu
  · rfl
  · cases hu
instance rBool_ok : RowT.Ok rBool := ⟨Try.underlying36, by kernel_rfl, rfl, by decide, fun _ => rfl, fun _ => one_bool, by decide⟩
theorem od_once (v : Value) (l : List Int) (T_l : Nat → Prop) (w0 : World) (h_l : RoA rInt w0 T_l v (l)) :
  Calls Try.prog 19 #[v] w0 fun e w' => e = .returned (.bool (decide (shOk l))) ∧ Kept (fun _ => False) w0 w' := by
 refine calls_wq (args := [v]) 35 Try.func19 rfl rfl (Nat.le_of_ble_eq_true rfl) ?_
 have K0 := Kept.refl (fun _ => False) w0
 have hsl := h_l.short
 have g_l := Grew.refl w0 T_l
 refine wq_seq (wq_region (wl_v (.bool false) rfl rfl (y_asg rfl rfl rr) (wl_nil fun F1 hF2 => ?_)))
 have s3 : F1 0 = v := (hF2 0).trans rfl
 have s4 : F1 35 = undef := (hF2 35).trans rfl
 clear hF2
 refine then_normal (wq_seq (wq_seq ?_))
 by_cases d5 : 1 ≤ ((l.length : Nat) : Int) ∧ ((l.length : Nat) : Int) ≤ 200
 ·skip
  refine wq_region (wl_mv rfl rfl rfl s3 (wl_v (iv ((l.length : Nat) : Int)) rfl rfl (y_lenRo (r := rInt) rfl rfl rfl h_l rr) (wl_call (R := fun v_ w_ => v_ = .bool true ∧ Kept (fun _ => False) w0 w_) rfl rfl (y_cs rfl rfl rfl (fun _ _ => by kernel_rfl) (ev_func _) (vsC rfl (vsC rfl (vsC rfl vsN))) (od_within ((l.length : Nat) : Int) 1 200  _   ) (fun e_ w_ h_ => ⟨_, h_.1, (congrArg Value.bool (decide_eq_true d5)), h_.2⟩)) ?_)))
  rintro _ w6 ⟨rfl, k7⟩
  have B8 := h_l.all k7 Apart.none
  have K9 := K0.tr k7
  refine wl_v (.bool false) rfl rfl (y_not rfl rfl rfl rr) (wl_nil fun F10 hF11 => ?_)
  obtain ⟨s12, s13⟩ := t2 hF11 0 s3 35 s4
  have s14 : F10 9 = .bool false := (hF11 9).trans rfl
  clear hF11
  refine then_normal ?_
  refine wq_cond (t := false) s14 (fun e => by cases e) (fun _ => ?_)
  refine wq_skip (then_normal (wq_seq (wq_region (wl_mv rfl rfl rfl s12 (wl_v (iv ((l.length : Nat) : Int)) rfl rfl (y_lenRo (r := rInt) rfl rfl rfl B8 rr) (wl_makeRo (r := rBool) (n := l.length) rfl rfl rfl rfl rfl (by omega) (by omega) (by omega) fun v15 w16 T20 B18 g19 k17 => ?_))))))
  have gr21 : Grew w0 noB T20 := Grew.new K9 g19
  have ap22 : Apart T20 T_l := Apart.new g19 B8.live
  have B23 := B8.all k17 Apart.none
  have K24 := K9.tr k17
  refine wl_v v15 rfl rfl (y_asg rfl rfl rr) (wl_nil fun F25 hF26 => ?_)
  obtain ⟨s27, s28⟩ := t2 hF26 0 s12 35 s13
  have s29 : F25 3 = v15 := (hF26 3).trans rfl
  clear hF26
  refine then_normal (wq_seq (wq_seq ?_))
  have B30 : RoO rBool w16 T20 v15 (snL l 0) := (by rw [snL_zero]; exact B18)
  refine wq_region (wl_mv rfl rfl rfl s27 (wl_v (iv ((l.length : Nat) : Int)) rfl rfl (y_lenRo (r := rInt) rfl rfl rfl B23 rr) (wl_v (iv 0) rfl rfl (y_mov rfl rfl rr) (wl_nil fun F31 hF32 => ?_))))
  obtain ⟨s33, s34, s35⟩ := t3 hF32 0 s27 35 s28 3 s29
  have s36 : F31 13 = v := (hF32 13).trans rfl
  have s37 : F31 14 = iv ((l.length : Nat) : Int) := (hF32 14).trans rfl
  have s38 : F31 15 = iv 0 := (hF32 15).trans rfl
  clear hF32
  refine then_normal (wq_block (wq_loop (fun nn FF ww => ∃ (i : Nat), ∃ (T39 : Nat → Prop), (i ≤ l.length) ∧ (∀ j, j < i → shG l j) ∧ nn = l.length - i ∧ FF 0 = v ∧ FF 3 = v15 ∧ FF 13 = v ∧ FF 14 = iv ((l.length : Nat) : Int) ∧ FF 35 = undef ∧ FF 15 = iv ((i : Nat) : Int) ∧ Kept (fun _ => False) w0 ww ∧ RoA rInt ww T_l v l ∧ RoO rBool ww T39 v15 (snL l i) ∧ Grew w0 noB T39 ∧ Apart T39 T_l) (l.length - 0) ⟨0, T20, by omega, (fun j hj => absurd hj (Nat.not_lt_zero j)), rfl, s33, s35, s36, s37, s34, s38, K24, B23, B30, gr21, ap22⟩ ?_))
  rintro n43 F40 w41 ⟨i, T39, i44, hall, hn43, s45, s46, s47, s48, s49, s50, K42, B51, B52, gr53, ap54⟩
  refine wq_seq (wq_region (wl_v (.bool (decide (((i : Nat) : Int) < ((l.length : Nat) : Int)))) rfl rfl (y_lss rfl s50 s48 rfl rr) (wl_nil fun F55 hF56 => ?_)))
  obtain ⟨s57, s58, s59, s60, s61, s62⟩ := t6 hF56 0 s45 3 s46 13 s47 14 s48 35 s49 15 s50
  have s63 : F55 16 = .bool (decide (((i : Nat) : Int) < ((l.length : Nat) : Int))) := (hF56 16).trans rfl
  clear hF56
  refine then_normal (wq_seq ?_)
  refine wq_cond s63 (fun c64 => ?_) (fun c64 => ?_)
  ·replace c64 := of_decide_eq_true c64
   refine wq_skip (then_normal (wq_seq (wq_block (wq_seq (wq_region (wl_v (bytAddr v (i * 1)) rfl rfl (y_atRo (r := rInt) i rfl s59 s62 (by omega) B51 (by omega) rr) (wl_v (iv (l.getD i 0)) rfl rfl (y_ldRo (r := rInt) i 0 rfl rfl B51 (by omega) (by decide) rfl Try.underlying3 rfl rr) (wl_v (iv (l.getD i 0)) rfl rfl (y_asg rfl rfl rr) (wl_nil fun F65 hF66 => ?_)))))))))
   obtain ⟨s67, s68, s69, s70, s71, s72⟩ := t6 hF66 0 s57 3 s58 13 s59 14 s60 35 s61 15 s62
   have s73 : F65 5 = iv (l.getD i 0) := (hF66 5).trans rfl
   clear hF66
   refine then_normal (wq_seq (wq_seq ?_))
   have hsn := snL_len l i
   by_cases d74 : 0 ≤ (l.getD i 0) ∧ (l.getD i 0) ≤ (((l.length : Nat) : Int) - 1)
   ·skip
    refine wq_region (wl_mv rfl rfl rfl s73 (wl_mv rfl rfl rfl s67 (wl_v (iv ((l.length : Nat) : Int)) rfl rfl (y_lenRo (r := rInt) rfl rfl rfl B51 rr) (wl_v (iv (((l.length : Nat) : Int) - 1)) rfl rfl (y_sub rfl rfl rfl (i64_i rfl (by omega)) rr) (wl_call (R := fun v_ w_ => v_ = .bool true ∧ Kept (fun _ => False) w41 w_) rfl rfl (y_cs rfl rfl rfl (fun _ _ => by kernel_rfl) (ev_func _) (vsC rfl (vsC rfl (vsC rfl vsN))) (od_within (l.getD i 0) 0 (((l.length : Nat) : Int) - 1)  _   ) (fun e_ w_ h_ => ⟨_, h_.1, (congrArg Value.bool (decide_eq_true d74)), h_.2⟩)) ?_)))))
    rintro _ w75 ⟨rfl, k76⟩
    have B77 := B51.all k76 Apart.none
    have B78 := B52.all k76 Apart.none
    have K79 := K42.tr k76
    refine wl_v (.bool false) rfl rfl (y_not rfl rfl rfl rr) (wl_v (.bool false) rfl rfl (y_mov rfl rfl rr) (wl_vw v15 6 false 25 rfl rfl rfl rfl rfl (y_mov rfl s68 rr) (wl_vw (iv (l.getD i 0)) 6 false 25 rfl rfl rfl rfl rfl (y_mov rfl s73 rr) (wl_vw (bytAddr v15 (((l.getD i 0).toNat) * 1)) 6 false 25 rfl rfl rfl rfl rfl (y_atRo (r := rBool) ((l.getD i 0).toNat) rfl rfl rfl (by omega) B78.roa (by omega) rr) (wl_vw (.bool ((snL l i).getD ((l.getD i 0).toNat) false)) 6 false 25 rfl rfl rfl rfl rfl (y_ldRo (r := rBool) ((l.getD i 0).toNat) 0 rfl rfl B78.roa (by omega) (by decide) rfl Try.underlying4 rfl rr) (wl_v (.bool ((snL l i).getD ((l.getD i 0).toNat) false)) rfl rfl (y_pickF rfl rfl rfl rr) (wl_nil fun F80 hF81 => ?_)))))))
    obtain ⟨s82, s83, s84, s85, s86, s87, s88⟩ := t7 hF81 0 s67 3 s68 13 s69 14 s70 35 s71 15 s72 5 s73
    have s89 : F80 30 = .bool ((snL l i).getD ((l.getD i 0).toNat) false) := (hF81 30).trans rfl
    clear hF81
    refine then_normal ?_
    refine wq_cond s89 (fun c90 => ?_) (fun c90 => ?_)
    ·skip
     refine wq_seq ?_
     have hno : ¬ shOk l := sh_bad (i := i) (by omega) (fun z => by have z1 := z.1; have z2 := z.2.1; have z3 := z.2.2; first | omega | (have z4 := ‹(snL l i).getD (l.getD i 0).toNat false = true›; rw [snL_at (by omega)] at z4; have z5 := of_decide_eq_true z4; omega))
     refine wq_region (wl_v (.bool false) rfl rfl (y_asg rfl rfl rr) (wl_nil fun F91 hF92 => ?_))
     have s93 := (hF92 35).trans s86
     have s94 : F91 2 = .bool false := (hF92 2).trans rfl
     clear hF92
     refine then_normal (wq_ret (then_ret (in_ret (then_ret (then_ret (in_ret (then_ret ?_)))))))
     exact end_tmp (v := .bool false) s93 rfl rfl s94 ⟨(retB (by first | exact (decide_eq_true hok).symm | exact (decide_eq_false hno).symm)), K79⟩
    ·skip
     refine wq_skip (then_normal ?_)
     have hg : shG l i := ⟨by omega, by omega, by have z4 := ‹(snL l i).getD (l.getD i 0).toNat false = false›; rw [snL_at (by omega)] at z4; have z5 := of_decide_eq_false z4; omega⟩
     refine wq_region (wl_mv rfl rfl rfl s83 (wl_mv rfl rfl rfl s88 (wl_v (bytAddr v15 (((l.getD i 0).toNat) * 1)) rfl rfl (y_atRo (r := rBool) ((l.getD i 0).toNat) rfl rfl rfl (by omega) B78.roa (by omega) rr) (wl_setRo (r := rBool) (u := true) ((l.getD i 0).toNat) rfl rfl rfl rfl rfl rfl B78 (by omega) fun w95 B96 k97 => ?_))))
     have B98 := B77.all k97 ap54.symm
     have K99 := K79.trans k97 (Grew.ok (S := fun _ => False) gr53 noB_le)
     refine wl_nil fun F100 hF101 => ?_
     obtain ⟨s102, s103, s104, s105, s106, s107⟩ := t6 hF101 0 s82 3 s83 13 s84 14 s85 35 s86 15 s87
     clear hF101
     refine in_normal (then_normal ?_)
     have B108 : RoO rBool w95 T39 v15 (snL l (i + 1)) := (by rw [snL_succ]; exact B96)
     refine wq_region (wl_v (iv ((i + 1 : Nat) : Int)) rfl rfl (y_add rfl s107 rfl (i64_n (by omega) (by omega)) rr) (wl_v (iv ((i + 1 : Nat) : Int)) rfl rfl (y_mov rfl rfl rr) (wl_nil fun F109 hF110 => ?_)))
     obtain ⟨s111, s112, s113, s114, s115⟩ := t5 hF110 0 s102 3 s103 13 s104 14 s105 35 s106
     have s116 : F109 15 = iv ((i + 1 : Nat) : Int) := (hF110 15).trans rfl
     clear hF110
     exact then_normal ⟨(l.length - (i + 1)), by omega, i + 1, T39, by omega, (fun j hj => by by_cases e : j = i; (· rw [e]; exact hg); exact hall j (by omega)), rfl, s111, s112, s113, s114, s115, s116, K99, B98, B108, gr53, ap54⟩
   ·skip
    refine wq_region (wl_mv rfl rfl rfl s73 (wl_mv rfl rfl rfl s67 (wl_v (iv ((l.length : Nat) : Int)) rfl rfl (y_lenRo (r := rInt) rfl rfl rfl B51 rr) (wl_v (iv (((l.length : Nat) : Int) - 1)) rfl rfl (y_sub rfl rfl rfl (i64_i rfl (by omega)) rr) (wl_call (R := fun v_ w_ => v_ = .bool false ∧ Kept (fun _ => False) w41 w_) rfl rfl (y_cs rfl rfl rfl (fun _ _ => by kernel_rfl) (ev_func _) (vsC rfl (vsC rfl (vsC rfl vsN))) (od_within (l.getD i 0) 0 (((l.length : Nat) : Int) - 1)  _   ) (fun e_ w_ h_ => ⟨_, h_.1, (congrArg Value.bool (decide_eq_false d74)), h_.2⟩)) ?_)))))
    rintro _ w117 ⟨rfl, k118⟩
    have K121 := K42.tr k118
    refine wl_v (.bool true) rfl rfl (y_not rfl rfl rfl rr) (wl_v (.bool true) rfl rfl (y_mov rfl rfl rr) (wl_unless 6 false 25 rfl rfl rfl (Or.inl rfl) rfl (wl_unless 6 false 25 rfl rfl rfl (Or.inl rfl) rfl (wl_unless 6 false 25 rfl rfl rfl (Or.inl rfl) rfl (wl_unless 6 false 25 rfl rfl rfl (Or.inl rfl) rfl (wl_v (.bool true) rfl rfl (y_pickT rfl rfl rfl rr) (wl_nil fun F122 hF123 => ?_)))))))
    have s128 := (hF123 35).trans s71
    have s131 : F122 30 = .bool true := (hF123 30).trans rfl
    clear hF123
    refine then_normal ?_
    refine wq_cond (t := true) s131 (fun _ => ?_) (fun e => by cases e)
    refine wq_seq ?_
    have hno : ¬ shOk l := sh_bad (i := i) (by omega) (fun z => by have z1 := z.1; have z2 := z.2.1; have z3 := z.2.2; first | omega | (have z4 := ‹(snL l i).getD (l.getD i 0).toNat false = true›; rw [snL_at (by omega)] at z4; have z5 := of_decide_eq_true z4; omega))
    refine wq_region (wl_v (.bool false) rfl rfl (y_asg rfl rfl rr) (wl_nil fun F132 hF133 => ?_))
    have s134 := (hF133 35).trans s128
    have s135 : F132 2 = .bool false := (hF133 2).trans rfl
    clear hF133
    refine then_normal (wq_ret (then_ret (in_ret (then_ret (then_ret (in_ret (then_ret ?_)))))))
    exact end_tmp (v := .bool false) s134 rfl rfl s135 ⟨(retB (by first | exact (decide_eq_true hok).symm | exact (decide_eq_false hno).symm)), K121⟩
  ·replace c64 := of_decide_eq_false c64
   refine wq_exit (then_exit (then_exit ?_))
   have l136 : l.length = i := by omega
   subst l136
   refine in_here (then_normal (wq_seq ?_))
   have hok : shOk l := ⟨by omega, by omega, hall⟩
   refine wq_region (wl_v (.bool true) rfl rfl (y_asg rfl rfl rr) (wl_nil fun F137 hF138 => ?_))
   have s139 := (hF138 35).trans s61
   have s140 : F137 2 = .bool true := (hF138 2).trans rfl
   clear hF138
   refine then_normal (wq_ret ?_)
   exact end_tmp (v := .bool true) s139 rfl rfl s140 ⟨(retB (by first | exact (decide_eq_true hok).symm | exact (decide_eq_false hno).symm)), K42⟩
 ·skip
  refine wq_region (wl_mv rfl rfl rfl s3 (wl_v (iv ((l.length : Nat) : Int)) rfl rfl (y_lenRo (r := rInt) rfl rfl rfl h_l rr) (wl_call (R := fun v_ w_ => v_ = .bool false ∧ Kept (fun _ => False) w0 w_) rfl rfl (y_cs rfl rfl rfl (fun _ _ => by kernel_rfl) (ev_func _) (vsC rfl (vsC rfl (vsC rfl vsN))) (od_within ((l.length : Nat) : Int) 1 200  _   ) (fun e_ w_ h_ => ⟨_, h_.1, (congrArg Value.bool (decide_eq_false d5)), h_.2⟩)) ?_)))
  rintro _ w141 ⟨rfl, k142⟩
  have K144 := K0.tr k142
  refine wl_v (.bool true) rfl rfl (y_not rfl rfl rfl rr) (wl_nil fun F145 hF146 => ?_)
  have s148 := (hF146 35).trans s4
  have s149 : F145 9 = .bool true := (hF146 9).trans rfl
  clear hF146
  refine then_normal ?_
  refine wq_cond (t := true) s149 (fun _ => ?_) (fun e => by cases e)
  refine wq_seq ?_
  have hno : ¬ shOk l := fun z => by have z1 := z.1; have z2 := z.2.1; omega
  refine wq_region (wl_v (.bool false) rfl rfl (y_asg rfl rfl rr) (wl_nil fun F150 hF151 => ?_))
  have s152 := (hF151 35).trans s148
  have s153 : F150 2 = .bool false := (hF151 2).trans rfl
  clear hF151
  refine then_normal (wq_ret (then_ret ?_))
  exact end_tmp (v := .bool false) s152 rfl rfl s153 ⟨(retB (by first | exact (decide_eq_true hok).symm | exact (decide_eq_false hno).symm)), K144⟩
end Go.Proofs.Ythoafgfcoclkbaa
set_option maxRecDepth 100000
namespace Go.Proofs.Ythoafgfcoclkbaa
open Go.RowKit
theorem od_show (v : Value) (l : List Int) (T_l : Nat → Prop) (w0 : World) (h_l : RoA rInt w0 T_l v (l)) :
  Calls Try.prog 11 #[v] w0 fun e w' => ∃ (v1 : Value) (T1 : Nat → Prop), e = .returned (.tuple #[v1, .int .i64 (shN l), .int .i64 (shE l)]) ∧ Kept (fun _ => False) w0 w' ∧ (RoO rInt w' T1 v1 ((shL l)) ∧ Grew w0 noB T1) := by
 refine calls_wq (args := [v]) 65 Try.func11 rfl rfl (Nat.le_of_ble_eq_true rfl) ?_
 have K0 := Kept.refl (fun _ => False) w0
 have hsl := h_l.short
 have g_l := Grew.refl w0 T_l
 refine wq_seq (wq_region (wl_v (.slice none 0 0) rfl rfl (y_asg rfl rfl rr) (wl_v (iv 0) rfl rfl (y_asg rfl rfl rr) (wl_v (iv 0) rfl rfl (y_asg rfl rfl rr) (wl_nil fun F1 hF2 => ?_)))))
 have s3 : F1 0 = v := (hF2 0).trans rfl
 have s4 : F1 65 = undef := (hF2 65).trans rfl
 clear hF2
 refine then_normal (wq_seq (wq_seq ?_))
 by_cases d5 : shOk l
 ·skip
  refine wq_region (wl_mv rfl rfl rfl s3 (wl_call (R := fun v_ w_ => v_ = .bool true ∧ Kept (fun _ => False) w0 w_) rfl rfl (y_cs rfl rfl rfl (fun _ _ => by kernel_rfl) (ev_func _) (vsC rfl vsN) (od_once v l T_l _  h_l ) (fun e_ w_ h_ => ⟨_, h_.1, (congrArg Value.bool (decide_eq_true d5)), h_.2⟩)) ?_))
  rintro _ w6 ⟨rfl, k7⟩
  have B8 := h_l.all k7 Apart.none
  have K9 := K0.tr k7
  refine wl_v (.bool false) rfl rfl (y_not rfl rfl rfl rr) (wl_nil fun F10 hF11 => ?_)
  obtain ⟨s12, s13⟩ := t2 hF11 0 s3 65 s4
  have s14 : F10 12 = .bool false := (hF11 12).trans rfl
  clear hF11
  refine then_normal ?_
  refine wq_cond (t := false) s14 (fun e => by cases e) (fun _ => ?_)
  refine wq_skip (then_normal (wq_seq ?_))
  have hok : shOk l := by first | assumption | (apply of_decide_eq_true; assumption) | (apply Decidable.byContradiction; assumption)
  have hl1 := hok.1
  have hl2 := hok.2.1
  refine wq_region (wl_mv rfl rfl rfl s12 (wl_v (iv ((l.length : Nat) : Int)) rfl rfl (y_lenRo (r := rInt) rfl rfl rfl B8 rr) ?_))
  refine wl_op rfl rfl (y_makeRo0 (r := rInt) (c := l.length) rfl rfl rfl (by omega) (by omega) (by omega) fun v15 w16 T20 B18 g19 k17 => ?_)
  have gr21 : Grew w0 noB T20 := Grew.new K9 g19
  have ap22 : Apart T20 T_l := Apart.new g19 B8.live
  have B23 := B8.all k17 Apart.none
  have K24 := K9.tr k17
  refine wl_v v15 rfl rfl (y_asg rfl rfl rr) (wl_nil fun F25 hF26 => ?_)
  obtain ⟨s27, s28⟩ := t2 hF26 0 s12 65 s13
  have s29 : F25 5 = v15 := (hF26 5).trans rfl
  clear hF26
  refine then_normal (wq_seq (wq_region (wl_v (iv 0) rfl rfl (y_asg rfl rfl rr) (wl_nil fun F30 hF31 => ?_))))
  obtain ⟨s32, s33, s34⟩ := t3 hF31 0 s27 65 s28 5 s29
  have s35 : F30 6 = iv 0 := (hF31 6).trans rfl
  clear hF31
  refine then_normal (wq_seq (wq_region (wl_builtRo0 (r := rPic) rfl rfl rfl fun v36 w37 T41 B39 g40 k38 => ?_)))
  have gr42 : Grew w0 noB T41 := Grew.new K24 g40
  have ap43 : Apart T41 T_l := Apart.new g40 B23.live
  have ap44 : Apart T41 T20 := Apart.new g40 B18.live
  have B45 := B23.all k38 Apart.none
  have B46 := B18.all k38 Apart.none
  have K47 := K24.tr k38
  refine wl_box_cel (v := v36) rfl rfl rfl rfl (B39.oneC) fun p48 w49 B52 g54 k50 => ?_
  have gr55 : Grew w0 noB (onB p48) := Grew.new K47 g54
  have ap56 : Apart (onB p48) T_l := Apart.new g54 B45.live
  have ap57 : Apart (onB p48) T20 := Apart.new g54 B46.live
  have ap58 : Apart (onB p48) T41 := Apart.new g54 B39.live
  have B59 := B45.all k50 Apart.none
  have B60 := B46.all k50 Apart.none
  have B61 := B39.all k50 Apart.none
  have K62 := K47.tr k50
  refine wl_v (pt p48 0) rfl rfl (y_asg rfl rfl rr) (wl_nil fun F63 hF64 => ?_)
  obtain ⟨s65, s66, s67, s68⟩ := t4 hF64 0 s32 65 s33 5 s34 6 s35
  have s69 : F63 7 = pt p48 0 := (hF64 7).trans rfl
  clear hF64
  refine then_normal (wq_seq (wq_seq ?_))
  have B70 : Hld w49 (fun i => (onB p48) i ∨ (T41 i)) p48 ([] : List Pic) := ⟨v36, T41, fun i => Iff.rfl, ap58, B52, B61⟩
  have gr71 : Grew w0 noB (fun i => (onB p48) i ∨ (T41 i)) := fun i h => h.elim (fun y => gr55 i y) (fun y => gr42 i y)
  have ap72 : Apart (fun i => (onB p48) i ∨ (T41 i)) T_l := fun i h => h.elim (fun y => ap56 i y) (fun y => ap43 i y)
  have ap73 : Apart (fun i => (onB p48) i ∨ (T41 i)) T20 := fun i h => h.elim (fun y => ap57 i y) (fun y => ap44 i y)
  refine wq_region (wl_mv rfl rfl rfl s65 (wl_v (iv ((l.length : Nat) : Int)) rfl rfl (y_lenRo (r := rInt) rfl rfl rfl B59 rr) (wl_v (iv 0) rfl rfl (y_mov rfl rfl rr) (wl_nil fun F74 hF75 => ?_))))
  obtain ⟨s76, s77, s78, s79⟩ := t4 hF75 65 s66 5 s67 6 s68 7 s69
  have s80 : F74 18 = v := (hF75 18).trans rfl
  have s81 : F74 19 = iv ((l.length : Nat) : Int) := (hF75 19).trans rfl
  have s82 : F74 20 = iv 0 := (hF75 20).trans rfl
  clear hF75
  refine then_normal (wq_block (wq_loop (fun nn FF ww => ∃ (i : Nat), ∃ (H : List Pic), ∃ (V1 : Value), ∃ (T83 : Nat → Prop), ∃ (T84 : Nat → Prop), (i ≤ l.length) ∧ (ShI l i (shT l i) H) ∧ nn = l.length - i ∧ FF 7 = pt p48 0 ∧ FF 18 = v ∧ FF 19 = iv ((l.length : Nat) : Int) ∧ FF 65 = undef ∧ FF 5 = V1 ∧ FF 6 = iv (shM l i) ∧ FF 20 = iv ((i : Nat) : Int) ∧ Kept (fun _ => False) w0 ww ∧ RoA rInt ww T_l v l ∧ Hld ww T83 p48 H ∧ RoO rInt ww T84 V1 ((shA l i).take (shT l i)) ∧ Grew w0 noB T83 ∧ Grew w0 noB T84 ∧ Apart T83 T_l ∧ Apart T83 T84 ∧ Apart T84 T_l) (l.length - 0) ⟨0, [], v15, fun i => (onB p48) i ∨ (T41 i), T20, (Nat.zero_le _), (ShI.nil l), rfl, s79, s80, s81, s76, s77, s78, s82, K62, B59, B70, B60, gr71, gr21, ap72, ap73, ap22⟩ ?_))
  rintro n88 F85 w86 ⟨i, H, V1, T83, T84, hil, hI, hn88, s89, s90, s91, s92, s93, s94, s95, K87, B96, B97, B98, gr99, gr100, ap101, ap102, ap103⟩
  refine wq_seq (wq_region (wl_v (.bool (decide (((i : Nat) : Int) < ((l.length : Nat) : Int)))) rfl rfl (y_lss rfl s95 s91 rfl rr) (wl_nil fun F104 hF105 => ?_)))
  obtain ⟨s106, s107, s108, s109, s110, s111, s112⟩ := t7 hF105 7 s89 18 s90 19 s91 65 s92 5 s93 6 s94 20 s95
  have s113 : F104 21 = .bool (decide (((i : Nat) : Int) < ((l.length : Nat) : Int))) := (hF105 21).trans rfl
  clear hF105
  refine then_normal (wq_seq ?_)
  refine wq_cond s113 (fun c114 => ?_) (fun c114 => ?_)
  ·replace c114 := of_decide_eq_true c114
   refine wq_skip (then_normal (wq_seq (wq_block (wq_seq (wq_region (wl_mv rfl rfl rfl s112 (wl_v (bytAddr v (i * 1)) rfl rfl (y_atRo (r := rInt) i rfl s107 s112 (by omega) B96 (by omega) rr) (wl_v (iv (l.getD i 0)) rfl rfl (y_ldRo (r := rInt) i 0 rfl rfl B96 (by omega) (by decide) rfl Try.underlying3 rfl rr) (wl_v (iv ((i : Nat) : Int)) rfl rfl (y_asg rfl rfl rr) (wl_v (iv (l.getD i 0)) rfl rfl (y_asg rfl rfl rr) (wl_nil fun F115 hF116 => ?_)))))))))))
   obtain ⟨s117, s118, s119, s120, s121, s122, s123⟩ := t7 hF116 7 s106 18 s107 19 s108 65 s109 5 s110 6 s111 20 s112
   have s124 : F115 8 = iv ((i : Nat) : Int) := (hF116 8).trans rfl
   have s125 : F115 9 = iv (l.getD i 0) := (hF116 9).trans rfl
   clear hF116
   refine then_normal (wq_seq ?_)
   have hg1 : ∀ j, j < i + 1 → shG l j := fun j hj => hok.2.2 j (by omega)
   have hHl := hI.len
   have hIp := hI.push hg1
   refine wq_region (wl_mv rfl rfl rfl s117 (wl_v (.iface 46 (pt p48 0)) rfl rfl (y_mki rfl rfl (by kernel_rfl) rr) (wl_mv rfl rfl rfl s125 (wl_mv rfl rfl rfl s124 (wl_v (.agg #[iv (l.getD i 0), iv ((i : Nat) : Int)]) rfl rfl (y_buildL (l' := [(0, iv (l.getD i 0)), (1, iv ((i : Nat) : Int))]) (cells := #[iv (l.getD i 0), iv ((i : Nat) : Int)]) rfl (bpC rfl (bpC rfl bpN)) (by kernel_rfl) rfl rr) (wl_v (.iface 51 (.agg #[iv (l.getD i 0), iv ((i : Nat) : Int)])) rfl rfl (y_mki rfl rfl (by kernel_rfl) rr) (wl_call (R := fun v_ w_ => ∃ (T128 : Nat → Prop), .tuple #[] = v_ ∧ Kept T83 w86 w_ ∧ (Hld w_ T128 p48 (pushH H (⟨l.getD i 0, (i : Int)⟩)) ∧ Grew w86 T83 T128)) rfl rfl (y_cs rfl rfl rfl (fun _ _ => by kernel_rfl) (ev_func _) (vsC rfl (vsC rfl vsN)) (ch_push p48 H (⟨l.getD i 0, (i : Int)⟩) T83 _ (by omega) B97 ) (fun e_ w_ h_ => by obtain ⟨T128_, he_, hr_⟩ := h_; exact ⟨_, he_, T128_, rfl, hr_⟩)) ?_)))))))
   rintro _ w126 ⟨T128, rfl, k127, ⟨B129, g130⟩⟩
   have B131 := B96.all k127 ap101.symm
   have B132 := B98.all k127 ap102.symm
   have K133 := K87.trans k127 (fun i hi x => ((Grew.ok (S := fun _ => False) gr99 noB_le) i hi x))
   have gr134 := gr99.trans K87 g130
   have ap135 : Apart T128 T_l := ap101.grew g130 B96.live
   have ap136 : Apart T128 T84 := ap102.grew g130 B98.live
   refine wl_nil fun F137 hF138 => ?_
   obtain ⟨s139, s140, s141, s142, s143, s144, s145⟩ := t7 hF138 7 s117 18 s118 19 s119 65 s120 5 s121 6 s122 20 s123
   clear hF138
   refine then_normal (wq_seq ?_)
   have hHp := hIp.len
   refine wq_region (wl_mv rfl rfl rfl s144 (wl_mv rfl rfl rfl s139 (wl_v (pt p48 0) rfl rfl (y_nilc rfl rfl rr) ?_)))
   obtain ⟨v146, T147, hc149, B148⟩ := B129.peek
   refine wl_v v146 rfl rfl (y_load_cel rfl rfl Try.underlying48 hc149 rfl rr) (wl_cs rfl rfl rfl rfl rfl (fun _ _ => by kernel_rfl) (vsC rfl vsN) (oh_len v146 (pushH H (⟨l.getD i 0, (i : Int)⟩)) T147 _  B148 ) fun w150 k151 => ?_)
   have B152 := B131.all k151 Apart.none
   have B153 := B129.all k151 Apart.none
   have B154 := B132.all k151 Apart.none
   have K156 := K133.tr k151
   refine wl_v (iv (shM l (i + 1))) rfl rfl (y_maxR rfl rfl rfl (by have e_ : shM l (i + 1) = max (shM l i) ((i : Int) + 1 - (shT l i : Int)) := rfl; omega) rr) (wl_v (iv (shM l (i + 1))) rfl rfl (y_asg rfl rfl rr) (wl_nil fun F157 hF158 => ?_))
   obtain ⟨s159, s160, s161, s162, s163, s164⟩ := t6 hF158 7 s139 18 s140 19 s141 65 s142 5 s143 20 s145
   have s165 : F157 6 = iv (shM l (i + 1)) := (hF158 6).trans rfl
   clear hF158
   refine then_normal (wq_block (wq_loop (fun nn FF ww => ∃ (t : Nat), ∃ (H2 : List Pic), ∃ (V2 : Value), ∃ (T166 : Nat → Prop), ∃ (T167 : Nat → Prop), (ShI l (i + 1) t H2) ∧ (tk (shA l (i + 1)) t = shT l (i + 1)) ∧ nn = l.length - t ∧ FF 6 = iv (shM l (i + 1)) ∧ FF 7 = pt p48 0 ∧ FF 18 = v ∧ FF 19 = iv ((l.length : Nat) : Int) ∧ FF 20 = iv ((i : Nat) : Int) ∧ FF 65 = undef ∧ FF 5 = V2 ∧ Kept (fun _ => False) w0 ww ∧ RoA rInt ww T_l v l ∧ Hld ww T166 p48 H2 ∧ RoO rInt ww T167 V2 ((shA l (i + 1)).take t) ∧ Grew w0 noB T166 ∧ Grew w0 noB T167 ∧ Apart T166 T_l ∧ Apart T166 T167 ∧ Apart T167 T_l) (l.length - (shT l i)) ⟨shT l i, pushH H ⟨l.getD i 0, (i : Int)⟩, V1, T128, T84, hIp, rfl, rfl, s165, s159, s160, s161, s164, s162, s163, K156, B152, B153, (by rw [hI.take hg1]; exact B154), gr134, gr100, ap135, ap136, ap103⟩ ?_))
   rintro n171 F168 w169 ⟨t, H2, V2, T166, T167, hI2, htk, hn171, s172, s173, s174, s175, s176, s177, s178, K170, B179, B180, B181, gr182, gr183, ap184, ap185, ap186⟩
   refine wq_seq (wq_seq ?_)
   have hH2 := hI2.len
   have hall := shA_len l (i + 1)
   have hlt : ((shA l (i + 1)).take t).length = min t l.length := by rw [List.length_take, hall]
   have htl := hI2.tle (by omega)
   by_cases d187 : 0 < (H2.length : Int)
   ·skip
    refine wq_region (wl_mv rfl rfl rfl s173 (wl_v (pt p48 0) rfl rfl (y_nilc rfl rfl rr) ?_))
    obtain ⟨v188, T189, hc191, B190⟩ := B180.peek
    refine wl_v v188 rfl rfl (y_load_cel rfl rfl Try.underlying48 hc191 rfl rr) (wl_cs rfl rfl rfl rfl rfl (fun _ _ => by kernel_rfl) (vsC rfl vsN) (oh_len v188 H2 T189 _  B190 ) fun w192 k193 => ?_)
    have B194 := B179.all k193 Apart.none
    have B195 := B180.all k193 Apart.none
    have B196 := B181.all k193 Apart.none
    have K198 := K170.tr k193
    refine wl_v (.bool true) rfl rfl (y_gtr rfl rfl rfl (decide_eq_true d187) rr) (wl_v (.bool true) rfl rfl (y_mov rfl rfl rr) (wl_vw (pt p48 0) 5 true 43 rfl rfl rfl rfl rfl (y_mov rfl s173 rr) (wl_vw (pt p48 0) 5 true 43 rfl rfl rfl rfl rfl (y_nilc rfl rfl rr) ?_)))
    obtain ⟨v199, T200, hc202, B201⟩ := B195.peek
    refine wl_vw v199 5 true 43 rfl rfl rfl rfl rfl (y_load_cel rfl rfl Try.underlying48 hc202 rfl rr) (wl_vw (bytAddr v199 (0 * 2)) 5 true 43 rfl rfl rfl rfl rfl (y_atRo (r := rPic) 0 rfl rfl rfl (by omega) B201 (by omega) rr) (wl_vw (bytAddr v199 (0 * 2)) 5 true 43 rfl rfl rfl rfl rfl (y_fieldRo (j := 0) (n := 1) rfl rfl B201 (by omega) Try.underlying51 rfl (by kernel_rfl) (by decide) rfl rr) (wl_vw (iv ((H2.getD 0 pcZ).s)) 5 true 43 rfl rfl rfl rfl rfl (y_ldRo (r := rPic) 0 0 rfl rfl B201 (by omega) (by decide) rfl Try.underlying3 rfl rr) (wl_vw V2 5 true 43 rfl rfl rfl rfl rfl (y_mov rfl s178 rr) (wl_vw (iv ((((shA l (i + 1)).take t).length : Nat) : Int)) 5 true 43 rfl rfl rfl rfl rfl (y_lenRo (r := rInt) rfl rfl rfl B196.roa rr) (wl_vw (.bool (decide (((H2.getD 0 pcZ).s) = ((((shA l (i + 1)).take t).length : Nat) : Int)))) 5 true 43 rfl rfl rfl rfl rfl (y_eqlI rfl rfl rfl rfl rr) (wl_v (.bool (decide (((H2.getD 0 pcZ).s) = ((((shA l (i + 1)).take t).length : Nat) : Int)))) rfl rfl (y_pickT rfl rfl rfl rr) (wl_nil fun F203 hF204 => ?_))))))))
    obtain ⟨s205, s206, s207, s208, s209, s210, s211⟩ := t7 hF204 6 s172 7 s173 18 s174 19 s175 20 s176 65 s177 5 s178
    have s212 : F203 53 = .bool (decide (((H2.getD 0 pcZ).s) = ((((shA l (i + 1)).take t).length : Nat) : Int))) := (hF204 53).trans rfl
    clear hF204
    refine then_normal ?_
    refine wq_cond s212 (fun c213 => ?_) (fun c213 => ?_)
    ·replace c213 := of_decide_eq_true c213
     refine wq_skip (then_normal (wq_block ?_))
     have hto : 0 < H2.length ∧ (H2.getD 0 pcZ).s = (t : Int) := ⟨by omega, by omega⟩
     have htp := (hI2.top hg1).1 hto
     refine wq_region (wl_mv rfl rfl rfl s211 (wl_mv rfl rfl rfl s206 (wl_v (.iface 46 (pt p48 0)) rfl rfl (y_mki rfl rfl (by kernel_rfl) rr) (wl_call (R := fun v_ w_ => ∃ (T216 : Nat → Prop), .iface 51 (.agg #[iv ((H2.getD 0 pcZ).s), iv ((H2.getD 0 pcZ).t)]) = v_ ∧ Kept T166 w192 w_ ∧ (Hld w_ T216 p48 (popH H2) ∧ Grew w192 T166 T216)) rfl rfl (y_cs rfl rfl rfl (fun _ _ => by kernel_rfl) (ev_func _) (vsC rfl vsN) (ch_pop p48 H2 T166 _ (by omega) (by omega) B195 ) (fun e_ w_ h_ => by obtain ⟨T216_, he_, hr_⟩ := h_; exact ⟨_, he_, T216_, rfl, hr_⟩)) ?_))))
     rintro _ w214 ⟨T216, rfl, k215, ⟨B217, g218⟩⟩
     have B219 := B194.all k215 ap184.symm
     have B220 := B196.all k215 ap185.symm
     have K221 := K198.trans k215 (fun i hi x => ((Grew.ok (S := fun _ => False) gr182 noB_le) i hi x))
     have gr222 := gr182.trans K198 g218
     have ap223 : Apart T216 T_l := ap184.grew g218 B194.live
     have ap224 : Apart T216 T167 := ap185.grew g218 B196.live
     refine wl_v (.agg #[iv ((H2.getD 0 pcZ).s), iv ((H2.getD 0 pcZ).t)]) rfl rfl (y_tas rfl rfl Try.underlying51 rfl rr) (wl_v (iv ((H2.getD 0 pcZ).t)) rfl rfl (y_fld rfl rfl Try.underlying51 rfl Try.underlying3 rfl rfl rr) (wl_builtRo (r := rInt) (xs := [.tmp 59]) (vs := [iv ((H2.getD 0 pcZ).t)]) (l := [(H2.getD 0 pcZ).t]) rfl rfl rfl rfl rfl (vsC rfl vsN) rfl (by first | decide | exact Nat.le_of_ble_eq_true rfl) (by first | decide | exact Nat.le_of_ble_eq_true rfl) fun v225 w226 T230 B228 g229 k227 => ?_))
     have B235 := B219.all k227 Apart.none
     have B236 := B217.all k227 Apart.none
     have B237 := B220.all k227 Apart.none
     have K238 := K221.tr k227
     refine wl_appendRo (r := rInt) rfl rfl rfl rfl rfl rfl B237 B228.roa (by first | omega | (simp; done) | (simp; omega)) fun v239 w240 T244 B242 g243 k241 => ?_
     have gr245 := Grew.trans gr183 K238 g243
     have ap246 : Apart T244 T_l := ap186.grew g243 B235.live
     have ap247 : Apart T244 T216 := (ap224.symm).grew g243 B236.live
     have B249 := B235.all k241 ap186.symm
     have B250 := B236.all k241 ap224
     have K252 := K238.trans k241 (Grew.ok (S := fun _ => False) gr183 noB_le)
     refine wl_v v239 rfl rfl (y_asg rfl rfl rr) (wl_nil fun F253 hF254 => ?_)
     obtain ⟨s255, s256, s257, s258, s259, s260⟩ := t6 hF254 6 s205 7 s206 18 s207 19 s208 20 s209 65 s210
     have s261 : F253 5 = v239 := (hF254 5).trans rfl
     clear hF254
     refine in_normal ?_
     exact then_normal ⟨(l.length - (t + 1)), by omega, t + 1, popH H2, v239, T216, T244, (hI2.pop hg1 hto.1 hto.2), ((tk_yes htp.1 htp.2).symm.trans htk), rfl, s255, s256, s257, s258, s259, s260, s261, K252, B249, B250, (by rw [← hI2.told hg1 hto.1 hto.2]; exact B242), gr222, gr245, ap223, ap247.symm, ap246⟩
    ·replace c213 := of_decide_eq_false c213
     refine wq_exit (then_exit (then_exit (in_here (in_normal (then_normal ?_)))))
     have htt : t = shT l (i + 1) := (tk_no (fun z => by have z2 := (hI2.top hg1).2 z; omega)).symm.trans htk
     refine wq_region (wl_v (iv ((i + 1 : Nat) : Int)) rfl rfl (y_add rfl s209 rfl (i64_n (by omega) (by omega)) rr) (wl_v (iv ((i + 1 : Nat) : Int)) rfl rfl (y_mov rfl rfl rr) (wl_nil fun F262 hF263 => ?_)))
     obtain ⟨s264, s265, s266, s267, s268, s269⟩ := t6 hF263 6 s205 7 s206 18 s207 19 s208 65 s210 5 s211
     have s270 : F262 20 = iv ((i + 1 : Nat) : Int) := (hF263 20).trans rfl
     clear hF263
     exact then_normal ⟨(l.length - (i + 1)), by omega, i + 1, H2, V2, T166, T167, (by omega), (by rw [← htt]; exact hI2), rfl, s265, s266, s267, s268, s269, s264, s270, K198, B194, B195, (by rw [← htt]; exact B196), gr182, gr183, ap184, ap185, ap186⟩
   ·skip
    refine wq_region (wl_mv rfl rfl rfl s173 (wl_v (pt p48 0) rfl rfl (y_nilc rfl rfl rr) ?_))
    obtain ⟨v271, T272, hc274, B273⟩ := B180.peek
    refine wl_v v271 rfl rfl (y_load_cel rfl rfl Try.underlying48 hc274 rfl rr) (wl_cs rfl rfl rfl rfl rfl (fun _ _ => by kernel_rfl) (vsC rfl vsN) (oh_len v271 H2 T272 _  B273 ) fun w275 k276 => ?_)
    have B277 := B179.all k276 Apart.none
    have B278 := B180.all k276 Apart.none
    have B279 := B181.all k276 Apart.none
    have K281 := K170.tr k276
    refine wl_v (.bool false) rfl rfl (y_gtr rfl rfl rfl (decide_eq_false d187) rr) (wl_v (.bool false) rfl rfl (y_mov rfl rfl rr) (wl_unless 5 true 43 rfl rfl rfl (Or.inl rfl) rfl (wl_unless 5 true 43 rfl rfl rfl (Or.inl rfl) rfl (wl_unless 5 true 43 rfl rfl rfl (Or.inl rfl) rfl (wl_unless 5 true 43 rfl rfl rfl (Or.inl rfl) rfl (wl_unless 5 true 43 rfl rfl rfl (Or.inl rfl) rfl (wl_unless 5 true 43 rfl rfl rfl (Or.inl rfl) rfl (wl_unless 5 true 43 rfl rfl rfl (Or.inl rfl) rfl (wl_unless 5 true 43 rfl rfl rfl (Or.inl rfl) rfl (wl_unless 5 true 43 rfl rfl rfl (Or.inl rfl) rfl (wl_v (.bool false) rfl rfl (y_pickF rfl rfl rfl rr) ?_)))))))))))
    refine wl_nil fun F282 hF283 => ?_
    obtain ⟨s284, s285, s286, s287, s288, s289, s290⟩ := t7 hF283 6 s172 7 s173 18 s174 19 s175 20 s176 65 s177 5 s178
    have s291 : F282 53 = .bool false := (hF283 53).trans rfl
    clear hF283
    refine then_normal ?_
    refine wq_cond (t := false) s291 (fun e => by cases e) (fun _ => ?_)
    refine wq_exit (then_exit (then_exit (in_here (in_normal (then_normal ?_)))))
    have htt : t = shT l (i + 1) := (tk_no (fun z => by have z2 := (hI2.top hg1).2 z; omega)).symm.trans htk
    refine wq_region (wl_v (iv ((i + 1 : Nat) : Int)) rfl rfl (y_add rfl s288 rfl (i64_n (by omega) (by omega)) rr) (wl_v (iv ((i + 1 : Nat) : Int)) rfl rfl (y_mov rfl rfl rr) (wl_nil fun F292 hF293 => ?_)))
    obtain ⟨s294, s295, s296, s297, s298, s299⟩ := t6 hF293 6 s284 7 s285 18 s286 19 s287 65 s289 5 s290
    have s300 : F292 20 = iv ((i + 1 : Nat) : Int) := (hF293 20).trans rfl
    clear hF293
    exact then_normal ⟨(l.length - (i + 1)), by omega, i + 1, H2, V2, T166, T167, (by omega), (by rw [← htt]; exact hI2), rfl, s295, s296, s297, s298, s299, s294, s300, K281, B277, B278, (by rw [← htt]; exact B279), gr182, gr183, ap184, ap185, ap186⟩
  ·replace c114 := of_decide_eq_false c114
   refine wq_exit (then_exit (then_exit (in_here (then_normal (wq_seq ?_)))))
   have hfin : i = l.length := by omega
   have hR := And.intro (shL_yes hok) (And.intro ((shN_yes hok).trans (congrArg (shM l) hfin.symm)) (shE_yes hok))
   have hE : (shA l i).take (shT l i) = shA l l.length := by rw [hfin]; exact sh_done hok.2.2
   refine wq_region (wl_mv rfl rfl rfl s110 (wl_mv rfl rfl rfl s111 (wl_v V1 rfl rfl (y_asg rfl rfl rr) (wl_v (iv (shM l i)) rfl rfl (y_asg rfl rfl rr) (wl_v (iv 0) rfl rfl (y_asg rfl rfl rr) (wl_nil fun F301 hF302 => ?_))))))
   have s303 := (hF302 65).trans s109
   have s304 : F301 2 = V1 := (hF302 2).trans rfl
   have s305 : F301 3 = iv (shM l i) := (hF302 3).trans rfl
   have s306 : F301 4 = iv 0 := (hF302 4).trans rfl
   clear hF302
   refine then_normal (wq_ret ?_)
   exact end_3 s303 rfl (res_tmp (v := V1) rfl s304) (res_tmp (v := iv (shM l i)) rfl s305) (res_tmp (v := iv 0) rfl s306) ⟨V1, T84, (by rw [hR.2.1, hR.2.2] <;> rfl), K87, ⟨(by rw [hR.1]; first | exact B98 | (rw [← hE]; exact B98)), gr100⟩⟩
 ·skip
  refine wq_region (wl_mv rfl rfl rfl s3 (wl_call (R := fun v_ w_ => v_ = .bool false ∧ Kept (fun _ => False) w0 w_) rfl rfl (y_cs rfl rfl rfl (fun _ _ => by kernel_rfl) (ev_func _) (vsC rfl vsN) (od_once v l T_l _  h_l ) (fun e_ w_ h_ => ⟨_, h_.1, (congrArg Value.bool (decide_eq_false d5)), h_.2⟩)) ?_))
  rintro _ w307 ⟨rfl, k308⟩
  have K310 := K0.tr k308
  refine wl_v (.bool true) rfl rfl (y_not rfl rfl rfl rr) (wl_nil fun F311 hF312 => ?_)
  have s314 := (hF312 65).trans s4
  have s315 : F311 12 = .bool true := (hF312 12).trans rfl
  clear hF312
  refine then_normal ?_
  refine wq_cond (t := true) s315 (fun _ => ?_) (fun e => by cases e)
  refine wq_seq ?_
  have hno : ¬ shOk l := by first | assumption | (apply of_decide_eq_false; assumption)
  have hR := And.intro (shL_no hno) (And.intro (shN_no hno) (shE_no hno))
  refine wq_region (wl_v (.slice none 0 0) rfl rfl (y_asg rfl rfl rr) (wl_v (iv 0) rfl rfl (y_asg rfl rfl rr) (wl_v (iv 150) rfl rfl (y_asg rfl rfl rr) (wl_nil fun F316 hF317 => ?_))))
  have s318 := (hF317 65).trans s314
  have s319 : F316 2 = .slice none 0 0 := (hF317 2).trans rfl
  have s320 : F316 3 = iv 0 := (hF317 3).trans rfl
  have s321 : F316 4 = iv 150 := (hF317 4).trans rfl
  clear hF317
  refine then_normal (wq_ret (then_ret ?_))
  exact end_3 s318 rfl (res_tmp (v := .slice none 0 0) rfl s319) (res_tmp (v := iv 0) rfl s320) (res_tmp (v := iv 150) rfl s321) ⟨(.slice none 0 0), noB, (by rw [hR.2.1, hR.2.2] <;> rfl), K310, ⟨(by rw [hR.1]; first | exact (RoO.nil rInt _) | (rw [← hE]; exact (RoO.nil rInt _))), (Grew.refl _ _)⟩⟩
end Go.Proofs.Ythoafgfcoclkbaa
set_option maxRecDepth 100000
namespace Go.Proofs.Ythoafgfcoclkbaa
open Go.RowKit
structure StJ {α : Type} (J : List α → (Nat → Prop) → World → Prop) : Prop where
  st : ∀ (pre : List α) (T S : Nat → Prop) (w w' : World), J pre T w → Kept S w w' → Apart T S → J pre T w'
  li : ∀ (pre : List α) (T : Nat → Prop) (w : World), J pre T w → Live w T
def Hands {α : Type} (J Jx : List α → (Nat → Prop) → World → Prop) (ys : List α) (T : Nat → Prop) (W : World) (e : Ending) (W' : World) : Prop := ∃ T' : Nat → Prop, Kept T W W' ∧ Grew W T T' ∧ ((e = .returned (.bool true) ∧ J ys T' W') ∨ (e = .returned (.bool false) ∧ Jx ys T' W'))
def SeqT {α : Type} (P : Program) (gf : FuncId) (lb : Array Value) (enc : α → Value) (xs : List α) (W0 : World) (Tg : Nat → Prop) : Prop :=
  ∀ (l : Nat) (J Jx : List α → (Nat → Prop) → World → Prop) (T0 : Nat → Prop), StJ J → StJ Jx → J [] T0 W0 → Apart T0 Tg →
    (∀ (pre : List α) (x : α) (T : Nat → Prop) (W : World), J pre T W → (pre ++ [x]) <+: xs → YieldAt Fence.wide 0 P l #[enc x] W (Hands J Jx (pre ++ [x]) T W)) →
    Calls P gf (#[.func (.yield l) #[] #[]] ++ lb) W0 fun e W' => (∃ v, e = .returned v) ∧ ∃ T' : Nat → Prop, Kept T0 W0 W' ∧ Grew W0 T0 T' ∧ (J xs T' W' ∨ ∃ pre, Jx pre T' W')
def Sqt {α : Type} (P : Program) (enc : α → Value) (w : World) (Tg : Nat → Prop) (v : Value) (xs : List α) : Prop :=
  ∃ (gf : FuncId) (lb : Array Value), v = .func (.func gf) #[] lb ∧ (∀ args w, (callFunc gf args).run P w = .ok (.enter gf args) w) ∧ Live w Tg ∧ ∀ (S : Nat → Prop) (W : World), Kept S w W → Apart Tg S → SeqT P gf lb enc xs W Tg
theorem Sqt.live {α : Type} {P : Program} {enc : α → Value} {w : World} {Tg : Nat → Prop} {v : Value} {xs : List α} (h : Sqt P enc w Tg v xs) : Live w Tg := by
  obtain ⟨_, _, _, _, h, _⟩ := h; exact h
theorem Sqt.all {α : Type} {P : Program} {enc : α → Value} {S : Nat → Prop} {w w' : World} {Tg : Nat → Prop} {v : Value} {xs : List α} (h : Sqt P enc w Tg v xs) (k : Kept S w w') (ha : Apart Tg S) : Sqt P enc w' Tg v xs := by
  obtain ⟨gf, lb, h1, h2, h3, h4⟩ := h
  exact ⟨gf, lb, h1, h2, h3.mono k, fun S2 W k2 a2 => h4 (fun i => S i ∨ S2 i) W ((k.mono (fun i _ h => .inl h)).trans k2 (fun i _ h => .inr h)) (fun i hi h => h.elim (ha i hi) (a2 i hi))⟩
def lrec (D : Nat) (fn : FuncId) (tmps : Array Value) (ps : Array Tmp) (assign body : Code) (st : LoopState) (pe : Option Code) : Loop := { state := st, pending := pe, fn, tmps, params := ps, assign, body, defers := D }
def Rec (D : Nat) (r : Loop) (W : World) : Prop := W.heap[D + 1]? = some (.loop r) ∧ W.heap[D]? = some (.deferred (some []))
theorem Rec.all {D : Nat} {r : Loop} {S : Nat → Prop} {W W' : World} (h : Rec D r W) (k : Kept S W W') (h0 : ¬ S D) (h1 : ¬ S (D + 1)) : Rec D r W' := ⟨k.at h.1 h1, k.at h.2 h0⟩
theorem Rec.lt {D : Nat} {r : Loop} {W : World} (h : Rec D r W) : D + 1 < W.heap.size := lt_of_heap h.1
theorem Rec.turn {D : Nat} {r : Loop} {W : World} (h : Rec D r W) (r' : Loop) : Rec D r' (W.putObj (D + 1) (.loop r')) := ⟨World.putObj_heap_same h.lt, (World.putObj_heap_other (by omega)).trans h.2⟩
theorem kept_put (W : World) (l : Nat) (o : Obj) : Kept (onB l) W (W.putObj l o) := (Kept.refl (onB l) W).grown (grownBy_putObj' W l o) (fun k e _ => by cases e; rfl)
def WithR {α : Type} (D : Nat) (r : Loop) (I : List α → (Nat → Prop) → World → Prop) (pre : List α) (T : Nat → Prop) (W : World) : Prop := ∃ Ti : Nat → Prop, (∀ i, T i ↔ (Ti i ∨ (i = D ∨ i = D + 1))) ∧ ¬ Ti D ∧ ¬ Ti (D + 1) ∧ I pre Ti W ∧ Rec D r W
theorem WithR.stj {α : Type} {D : Nat} {r : Loop} {I : List α → (Nat → Prop) → World → Prop} (h : StJ I) : StJ (WithR D r I) := by
  refine ⟨?_, ?_⟩
  · rintro pre T S w w' ⟨Ti, hT, h0, h1, hi, hr⟩ k ha
    exact ⟨Ti, hT, h0, h1, h.st pre Ti S w w' hi k (fun i hi => ha i ((hT i).2 (.inl hi))), hr.all k (ha D ((hT D).2 (.inr (.inl rfl)))) (ha (D + 1) ((hT (D + 1)).2 (.inr (.inr rfl))))⟩
  · rintro pre T w ⟨Ti, hT, _, _, hi, hr⟩ i hi'
    have := hr.lt
    rcases (hT i).1 hi' with h1 | rfl | rfl
    · exact h.li pre Ti w hi i h1
    · omega
    · omega
def roundT {α : Type} (I Ix : List α → (Nat → Prop) → World → Prop) (T : Nat → Prop) (zp : Nat) (ys : List α) (W : World) : Exit → (Nat → Value) → World → Prop
  | .normal, _, W' => ∃ T' : Nat → Prop, Kept (fun i => T i ∨ i = zp) W W' ∧ Grew W T T' ∧ I ys T' W'
  | .ret, _, W' => ∃ T' : Nat → Prop, Kept (fun i => T i ∨ i = zp) W W' ∧ Grew W T T' ∧ Ix ys T' W'
  | _, _, _ => False
theorem wq_rangeT {α : Type} {P : Program} {N : Nat} {Q : Exit → (Nat → Value) → World → Prop} {F : Nat → Value} {w : World} {g : Operand} {q z : Tmp} {ra n : Nat} {o1 o2 : Oper} {TY : TypeId} {body : Code} {us : α → List Value} {zs : List Value} {v : Value} {xs : List α} {Tg T0 : Nat → Prop}
    (hT : ∀ x, StcT P TY (us x).length) (hus : ∀ x, OneAll (us x)) (hz0 : (P.info? TY).map (fun i => (i.zero, i.size)) = some (some (.agg zs.toArray), n)) (hzl : ∀ x, zs.length = (us x).length)
    (h1 : o1.op = .alloc TY) (d1 : o1.dst = some z) (g1 : o1.guard = none) (h2 : o2.op = .store TY (.tmp z) (.tmp q)) (d2 : o2.dst = none) (g2 : o2.guard = none)
    (hq : Nat.blt q N = true) (hz : Nat.blt z N = true) (hzq : q ≠ z)
    (hg : ev (cutF N F) g = v) (hs : Sqt P (fun x => .agg (us x).toArray) w Tg v xs)
    (I Ix : List α → (Nat → Prop) → World → Prop) (sI : StJ I) (sX : StJ Ix) (h0 : I [] T0 w) (hap : Apart T0 Tg)
    (hbody : ∀ (l : Nat) (pre : List α) (x : α) (T : Nat → Prop) (zp : Nat) (F1 : Nat → Value) (W : World), I pre T W → (pre ++ [x]) <+: xs → Stc W zp TY (us x) → Apart T (onB zp) → F1 z = .pointer (some ⟨zp, 0, none⟩) → (∀ t, t ≠ z → t ≠ q → t ≠ N → F1 t = F t) → F1 N = undef → wq (some (l + 1)) P N body (roundT I Ix T zp (pre ++ [x]) W) F1 W)
    (hdone : ∀ (D : Nat) (T' : Nat → Prop) (W : World), w.heap.size ≤ D → Kept T0 w W → Grew w T0 T' → I xs T' W → Mrk W D → ¬ T' D → Q .normal (up F N (markV (D :: marksOf (F N)))) W)
    (hstop : ∀ (D : Nat) (T' : Nat → Prop) (pre : List α) (W : World), w.heap.size ≤ D → Kept T0 w W → Grew w T0 T' → Ix pre T' W → Mrk W D → ¬ T' D → Q .ret (up F N (markV (D :: marksOf (F N)))) W) :
    wq none P N (.rangeFunc g #[q] (.region ra #[o1, o2] false) body) Q F w := by
  obtain ⟨gf, lb, rfl, eg, hlg, hseq⟩ := hs
  intro a ha
  refine wpIn_rangeFunc (F := Fence.wide) fun fn hfn => ?_
  obtain ⟨D, hD⟩ : ∃ D, D = w.heap.size := ⟨_, rfl⟩
  obtain ⟨rec, hrec⟩ : ∃ rec : LoopState → Option Code → Loop, rec = lrec D fn a.tmps #[q] (.region ra #[o1, o2] false) body := ⟨_, rfl⟩
  obtain ⟨W1, hW1⟩ : ∃ W1, W1 = (w.alloc (.deferred (some []))).alloc (.loop (rec .ready none)) := ⟨_, rfl⟩
  have henter := run_enterLoop_outer (P := P) (w := w) fn a.tmps #[q] (.region ra #[o1, o2] false) body
  have hk1 : Kept (fun _ => False) w W1 := by rw [hW1]; exact ((Kept.refl _ w).alloc _).alloc _
  have hr1 : Rec D (rec .ready none) W1 := by
    rw [hW1, hD]
    refine ⟨?_, ?_⟩
    · have := World.alloc_heap_new (w.alloc (.deferred (some []))) (.loop (rec .ready none)); rwa [World.size_alloc] at this
    · exact ((Kept.refl (fun _ => False) (w.alloc (.deferred (some [])))).alloc _).at (World.alloc_heap_new w _) id
  have hT0 : ∀ i, T0 i → i < D := fun i hi => by rw [hD]; exact sI.li _ _ _ h0 i hi
  have hn0 : ¬ T0 D := fun h => by have := hT0 D h; omega
  have hn1 : ¬ T0 (D + 1) := fun h => by have := hT0 _ h; omega
  refine ⟨D + 1, [{ target := .collected D, args := #[] }], W1, { target := .fn (.func gf) lb, args := #[.func (.yield (D + 1)) #[] #[]] }, W1, gf, #[.func (.yield (D + 1)) #[] #[]] ++ lb, W1, ?_, ?_, fun _ _ => trivial, ?_, (fun h => by cases h), ?_⟩
  · rw [hW1, hrec, hD]; exact henter
  · have hge : a.eval g = .func (.func gf) #[] lb := by rw [ha.eval]; exact hg
    simp only [resolve, hge]; simp [go_sem]
  · simp [invoke, go_sem, eg]
  refine callsIn_wide.2 ((hseq (fun _ => False) W1 hk1 (fun _ _ h => h) (D + 1) (WithR D (rec .ready none) I) (WithR D (rec .done (some .ret)) Ix) (fun i => T0 i ∨ (i = D ∨ i = D + 1)) (WithR.stj sI) (WithR.stj sX)
    ⟨T0, fun _ => Iff.rfl, hn0, hn1, sI.st _ _ _ _ _ h0 hk1 (fun _ _ h => h), hr1⟩ (fun i hi hg' => ?_) ?_).mono ?_)
  · have h3 := hlg i hg'
    rcases hi with h4 | h4
    · exact hap i h4 hg'
    · omega
  · -- a round
    rintro pre x T W ⟨Ti, hTi, hi0, hi1, hi, hr⟩ hpx
    have hsz := hr.lt
    refine ⟨fn, _, _, _, by have := run_yield (P := P) (args := #[Value.agg (us x).toArray]) hr.1 (by rw [hrec]; rfl); rw [hrec] at this; exact this, roundIn_of_wpIn hfn ?_⟩
    have hfr : Fr N (loopF N F [(q, .agg (us x).toArray)]) { tmps := ((#[q] : Array Tmp).zip #[Value.agg (us x).toArray]).foldl (fun t (p, u) => t.setIfInBounds p u) a.tmps, defers := [] } := by
      have e1 : ((#[q] : Array Tmp).zip #[Value.agg (us x).toArray]).foldl (fun t (p, u) => t.setIfInBounds p u) a.tmps = [(q, Value.agg (us x).toArray)].foldl (fun t p => t.setIfInBounds p.1 p.2) a.tmps := by simp
      rw [e1]
      exact Fr.rounds [(q, Value.agg (us x).toArray)] _ _ (ha.last undef [] rfl) (by simp [hq])
    refine wpIn_mono ((show wq (some (D + 1 + 1)) P N (.region ra #[o1, o2] false) (fun e F1 W2 => e = .normal ∧ ∃ zp, W.heap.size ≤ zp ∧ Kept (fun _ => False) W W2 ∧ Stc W2 zp TY (us x) ∧ F1 z = .pointer (some ⟨zp, 0, none⟩) ∧ (∀ t, t ≠ z → F1 t = loopF N F [(q, .agg (us x).toArray)] t)) (loopF N F [(q, .agg (us x).toArray)]) W from ?_) _ hfr) ?_
    · refine wq_region (os := [o1, o2]) (wl_alloc_stc g1 (by rw [d1]; exact hz) h1 hz0 fun zp W2 hst hgz kz => ?_)
      have hne : zp ≠ q ∨ True := .inr trivial
      have hzp : W.heap.size ≤ zp := (hgz zp rfl).elim (fun h => h.elim) id
      have ez : putF (loopF N F [(q, Value.agg (us x).toArray)]) o1.dst (.pointer (some ⟨zp, 0, none⟩)) z = .pointer (some ⟨zp, 0, none⟩) := by
        rw [d1]; simp [putF, up, Nat.beq_refl]
      have eo : ∀ t, t ≠ z → putF (loopF N F [(q, Value.agg (us x).toArray)]) o1.dst (.pointer (some ⟨zp, 0, none⟩)) t = loopF N F [(q, Value.agg (us x).toArray)] t := fun t ht => by
        rw [d1]; show up _ z _ t = _; unfold up
        rw [show Nat.beq t z = false from by cases h : Nat.beq t z; rfl; exact absurd (Nat.eq_of_beq_eq_true h) ht]; rfl
      refine wl_store_stc (us := us x) (hT x) g2 d2 h2 (by show cutF N _ z = _; unfold cutF; rw [hz]; exact ez) (by
        show cutF N _ q = _; unfold cutF; rw [hq]
        show putF _ _ _ q = _
        rw [eo q hzq]; show up _ q _ q = _; simp [up, Nat.beq_refl]) hst (hzl x) (hus x) fun W3 hst3 k3 => ?_
      refine wl_nil fun F' hF' => ⟨rfl, zp, hzp, kz.trans k3 (fun i hi h => by subst h; omega), hst3, (hF' z).trans ez, fun t ht => (hF' t).trans (eo t ht)⟩
    rintro e a1 W2 ⟨F1, hF1, rfl, zp, hzp, kz, hst, hz1, hother⟩
    have hi2 : I pre Ti W2 := sI.st _ _ _ _ _ hi kz (fun _ _ h => h)
    have hr2 := hr.all kz id id
    have hliv := sI.li _ _ _ hi
    refine ⟨_, run_beginRound hr2.1 (by rw [hrec]; rfl), ?_⟩
    have hr3 := hr2.turn { rec .ready none with state := .busy }
    have kb := kept_put W2 (D + 1) (.loop { rec .ready none with state := .busy })
    have hi3 : I pre Ti (W2.putObj (D + 1) (.loop { rec .ready none with state := .busy })) := sI.st _ _ _ _ _ hi2 kb (fun i h e => hi1 (e ▸ h))
    have hst3 : Stc (W2.putObj (D + 1) (.loop { rec .ready none with state := .busy })) zp TY (us x) := hst.all kb (fun e => by unfold onB at e; omega)
    have hNz : N ≠ z := fun e => by rw [e] at hz; simp [Nat.blt_eq] at hz
    have hNq : N ≠ q := fun e => by rw [e] at hq; simp [Nat.blt_eq] at hq
    have bne : ∀ {s t : Nat}, s ≠ t → Nat.beq s t = false := fun {s t} h => by
      cases hb : Nat.beq s t
      · rfl
      · exact absurd (Nat.eq_of_beq_eq_true hb) h
    refine wpIn_mono (hbody (D + 1) pre x Ti zp F1 _ hi3 hpx hst3 (fun i h e => by have := hliv i h; unfold onB at e; omega) hz1 (fun t t1 t2 t3 => by
      rw [hother t t1]; show up (up F N undef) q _ t = _
      unfold up; rw [bne t2, bne t3]; rfl) (by
      rw [hother N hNz]; show up (up F N undef) q _ N = _
      unfold up; rw [bne hNq, Nat.beq_refl]; rfl) a1 hF1) ?_
    have hszb : (W2.putObj (D + 1) (.loop { rec .ready none with state := .busy })).heap.size = W2.heap.size := by simp [World.putObj]
    have fin : ∀ (st : LoopState) (jump : Option Code) (Tn : Nat → Prop) (K : List α → (Nat → Prop) → World → Prop) (W3 : World), StJ K → Kept (fun i => Ti i ∨ i = zp) (W2.putObj (D + 1) (.loop { rec .ready none with state := .busy })) W3 → Grew (W2.putObj (D + 1) (.loop { rec .ready none with state := .busy })) Ti Tn → K (pre ++ [x]) Tn W3 → st = (if jump.isNone then .ready else .done) →
        (Instr.endRound (D + 1) jump).run P W3 = .ok (.bool jump.isNone) (W3.putObj (D + 1) (.loop (rec st jump))) ∧ Kept T W (W3.putObj (D + 1) (.loop (rec st jump))) ∧ Grew W T (fun i => Tn i ∨ (i = D ∨ i = D + 1)) ∧ WithR D (rec st jump) K (pre ++ [x]) (fun i => Tn i ∨ (i = D ∨ i = D + 1)) (W3.putObj (D + 1) (.loop (rec st jump))) := by
      intro st jump Tn K W3 sK k3 g3 hK hst'
      have hr4 := hr3.all k3 (fun h => h.elim hi0 (fun e => by omega)) (fun h => h.elim hi1 (fun e => by omega))
      have hend := run_endRound (P := P) jump hr4.1
      have hn : ¬ Tn D ∧ ¬ Tn (D + 1) := ⟨fun h => (g3 D h).elim hi0 (fun e => by have := kz.size; omega), fun h => (g3 (D + 1) h).elim hi1 (fun e => by have := kz.size; omega)⟩
      have k4 := kept_put W3 (D + 1) (.loop (rec st jump))
      refine ⟨by rw [hst', hrec] at *; exact hend, ?_, fun i hi' => ?_, Tn, fun _ => Iff.rfl, hn.1, hn.2, sK.st _ _ _ _ _ hK k4 (fun i h e => hn.2 (e ▸ h)), hr4.turn _⟩
      · have ka : Kept T W W2 := kz.mono (fun _ _ h => h.elim)
        have kb' : Kept T W _ := ka.trans kb (fun i _ e => (hTi i).2 (.inr (.inr e)))
        have kc := kb'.trans k3 (fun i hi' h => h.elim (fun h => (hTi i).2 (.inl h)) (fun e => by omega))
        exact kc.trans k4 (fun i _ e => (hTi i).2 (.inr (.inr e)))
      · rcases hi' with h | h
        · rcases g3 i h with h | h
          · exact .inl ((hTi i).2 (.inl h))
          · exact .inr (by have := kz.size; omega)
        · exact .inl ((hTi i).2 (.inr h))
    rintro e a3 W3 ⟨F3, hF3, hp⟩
    cases e with
    | normal =>
      obtain ⟨Tn, k3, g3, hK⟩ := hp
      obtain ⟨he, kk, gg, hw⟩ := fin .ready none Tn I W3 sI k3 g3 hK rfl
      exact ⟨_, _, he, _, kk, gg, .inl ⟨rfl, hw⟩⟩
    | ret =>
      obtain ⟨Tn, k3, g3, hK⟩ := hp
      obtain ⟨he, kk, gg, hw⟩ := fin .done (some .ret) Tn Ix W3 sX k3 g3 hK rfl
      exact ⟨_, _, he, _, kk, gg, .inr ⟨rfl, hw⟩⟩
    | exit id => exact hp.elim
    | goto t => exact hp.elim
    | panic c => exact hp.elim
    | outgrown => exact hp.elim
  · -- behind it
    rintro e W2 ⟨⟨u, rfl⟩, T', k2, g2', hJ⟩
    have after : ∀ (st : LoopState) (pe : Option Code) (K : List α → (Nat → Prop) → World → Prop) (ys : List α), StJ K → st ≠ .busy → WithR D (rec st pe) K ys T' W2 → ∃ W3 Ti, (Instr.endLoop (D + 1)).run P W2 = .ok pe W3 ∧ Kept T0 w W3 ∧ Grew w T0 Ti ∧ K ys Ti W3 ∧ Mrk W3 D ∧ ¬ Ti D := by
      rintro st pe K ys sK hnb ⟨Ti, hTi, hi0, hi1, hK, hr⟩
      have k3 := kept_put W2 (D + 1) (.loop { rec st pe with state := .exhausted })
      refine ⟨_, Ti, by have := run_endLoop (P := P) hr.1 (by rw [hrec]; exact hnb); rw [hrec] at this ⊢; exact this, ?_, fun i hi => ?_, sK.st _ _ _ _ _ hK k3 (fun i h e => hi1 (e ▸ h)), k3.at hr.2 (fun e => by unfold onB at e; omega), hi0⟩
      · have ka : Kept T0 w W1 := hk1.mono (fun _ _ h => h.elim)
        have kb := ka.trans k2 (fun i hi h => h.elim id (fun e => by omega))
        exact kb.trans k3 (fun i hi e => by unfold onB at e; omega)
      · have hne : i ≠ D ∧ i ≠ D + 1 := ⟨fun e => hi0 (e ▸ hi), fun e => hi1 (e ▸ hi)⟩
        rcases g2' i ((hTi i).2 (.inl hi)) with h | h
        · exact h.elim .inl (fun e => by omega)
        · exact .inr (by have := hk1.size; omega)
    rcases hJ with hJ | ⟨pre, hJ⟩
    · obtain ⟨W3, Ti, he, kk, gg, hK, hm, hnD⟩ := after .ready none I xs sI (by simp) hJ
      exact ⟨none, W3, he, _, ha.mark D, hdone D Ti W3 (by omega) kk gg hK hm hnD⟩
    · obtain ⟨W3, Ti, he, kk, gg, hK, hm, hnD⟩ := after .done (some .ret) Ix pre sX (by simp) hJ
      exact ⟨some .ret, W3, he, wpIn_ret ⟨_, ha.mark D, hstop D Ti pre W3 (by omega) kk gg hK hm hnD⟩⟩
def Jth {α : Type} (w : World) (T : Nat → Prop) (J : List α → (Nat → Prop) → World → Prop) (pre : List α) : Prop := J pre T w ∧ StJ J
theorem Jth.all {α : Type} {S : Nat → Prop} {w w' : World} {T : Nat → Prop} {J : List α → (Nat → Prop) → World → Prop} {pre : List α} (h : Jth w T J pre) (k : Kept S w w') (ha : Apart T S) : Jth w' T J pre := ⟨h.2.st _ _ _ _ _ h.1 k ha, h.2⟩
theorem Jth.live {α : Type} {w : World} {T : Nat → Prop} {J : List α → (Nat → Prop) → World → Prop} {pre : List α} (h : Jth w T J pre) : Live w T := h.2.li _ _ _ h.1
def Mks (w : World) (T : Nat → Prop) (ms : List Nat) : Prop := (∀ i, T i ↔ i ∈ ms) ∧ ms.Nodup ∧ ∀ D ∈ ms, Mrk w D
theorem Mks.nil (w : World) : Mks w noB [] := ⟨fun i => ⟨fun h => h.elim, fun h => by cases h⟩, List.nodup_nil, fun _ h => by cases h⟩
theorem Mks.all {S : Nat → Prop} {w w' : World} {T : Nat → Prop} {ms : List Nat} (h : Mks w T ms) (k : Kept S w w') (ha : Apart T S) : Mks w' T ms := ⟨h.1, h.2.1, fun D hD => (h.2.2 D hD).all k (ha D ((h.1 D).2 hD))⟩
theorem Mks.live {w : World} {T : Nat → Prop} {ms : List Nat} (h : Mks w T ms) : Live w T := fun i hi => (h.2.2 i ((h.1 i).1 hi)).lt
theorem Mks.more {w w' : World} {T : Nat → Prop} {ms : List Nat} {D : Nat} {S : Nat → Prop} (h : Mks w T ms) (k : Kept S w w') (ha : Apart T S) (hD : w.heap.size ≤ D) (hm : Mrk w' D) : Mks w' (fun i => i = D ∨ T i) (D :: ms) := by
  have h2 := h.all k ha
  refine ⟨fun i => ?_, List.nodup_cons.2 ⟨fun hx => ?_, h.2.1⟩, fun E hE => ?_⟩
  · rw [List.mem_cons]; exact or_congr Iff.rfl (h.1 i)
  · have := h.live D ((h.1 D).2 hx); omega
  · rcases List.mem_cons.1 hE with rfl | hE
    · exact hm
    · exact h2.2.2 E hE
theorem Mks.shut : ∀ {ms : List Nat} {w : World} {T : Nat → Prop}, Mks w T ms → Opens ms w ∧ Kept T w (Go.Proofs.Ythoafgfcoclkbaa.shut ms w)
  | [], w, T, _ => ⟨trivial, Kept.refl _ _⟩
  | D :: ms, w, T, h => by
    have hn := List.nodup_cons.1 h.2.1
    have k := kept_put w D (.deferred none)
    have h2 : Mks (w.putObj D (.deferred none)) (fun i => i ∈ ms) ms := ⟨fun _ => Iff.rfl, hn.2, fun E hE => (h.2.2 E (List.mem_cons_of_mem _ hE)).all k (fun e => hn.1 (e ▸ hE))⟩
    obtain ⟨h3, h4⟩ := Mks.shut h2
    refine ⟨⟨h.2.2 D List.mem_cons_self, h3⟩, ?_⟩
    have k2 : Kept T w (w.putObj D (.deferred none)) := k.mono (fun i _ e => by cases e; exact (h.1 D).2 List.mem_cons_self)
    exact k2.trans h4 (fun i _ hi => (h.1 i).2 (List.mem_cons_of_mem _ hi))
section
variable {P : Program} {N : Nat} {Q : (Exit → (Nat → Value) → World → Prop)} {F : Nat → Value} {w : World}
theorem wl_yieldS {k : Nat} {ops : Array Oper} {o : Oper} {rest : List Oper} {R : Ending → World → Prop} {l : Nat} {c : Call} {cx : Operand} {xs : List Operand} {vs : List Value} (hg : o.guard = none) (hd : fits N o.dst = true) (ho : o.op = .call c) (hc : c.callee = .value cx) (hcx : ev (cutF N F) cx = .func (.yield l) #[] #[])
    (hx : c.args = xs.toArray) (hv : xs.map (ev (cutF N F)) = vs) (hY : YieldAt Fence.wide 0 P l vs.toArray w R)
    (h : ∀ e w', R e w' → ∃ v, e = .returned v ∧ wl (some k) P N ops Q rest (putF F o.dst v) w') : wl (some k) P N ops Q (o :: rest) F w := by
  intro a ha
  show wpListIn (fen (some k)) 0 P ops (Fp N Q) (o :: rest) a w
  refine wpListIn_step fun K hK => ?_
  rw [if_pos (by unfold Region.wanted; rw [hg])]
  refine ⟨fun f _ => fen_fn _ f, ?_⟩
  have hnd : ∀ c, o.op ≠ .defer c := fun c' e => by rw [ho] at e; cases e
  rw [Oper.semAt_eq _ _ _ hnd]
  obtain ⟨cl, ars, ts⟩ := c
  simp only at hc hx
  subst hc; subst hx; subst hv
  obtain ⟨fn, tmps, assign, body, hy, hR⟩ := hY
  have e : (execOp a.eval o).run P w = .ok (.round l fn tmps assign body) w := by
    rw [ha.eval, ← hy]
    simp [execOp, ho, resolve, hcx, Deferred.ofValue, invoke]
  rw [e]
  have hR2 : RoundIn (fen (some k)) 0 P l fn tmps assign body w R := by
    cases k with
    | zero => exact hR
    | succ k => exact hR
  refine ⟨fun e => (by rw [fen_depth] at e; cases e), hR2.mono ?_⟩
  intro e' w' hr
  obtain ⟨v, rfl, hk⟩ := h e' w' hr
  exact hK _ _ (hk _ (ha.put hd v))
theorem wl_box_fn {ro : Option Nat} {ops : Array Oper} {o : Oper} {rest : List Oper} {t : TypeId} {x : Operand} {f : Fn} {a b : Array Value} (hg : o.guard = none) (hd : fits N o.dst = true) (ho : o.op = .box t x) (hx : ev (cutF N F) x = .func f a b)
    (h : ∀ p w', Cel w' p t (.func f a b) → Grew w noB (onB p) → Kept (fun _ => False) w w' → wl ro P N ops Q rest (putF F o.dst (.pointer (some ⟨p, 0, none⟩))) w') : wl ro P N ops Q (o :: rest) F w :=
  wl_op hg hd (y_of (v := .pointer (some ⟨w.heap.size, 0, none⟩)) (w' := w.alloc (.cells #[.func f a b] t)) (by simp [execOp, ho, hx, go_sem]) (h _ _ (heap_alloc_new w _) (onB_new (Nat.le_refl _)) ((Kept.refl _ _).alloc _)))
end
end Go.Proofs.Ythoafgfcoclkbaa
set_option maxRecDepth 100000
namespace Go.Proofs.Ythoafgfcoclkbaa
open Go.RowKit
theorem cut_at {N : Nat} {F : Nat → Value} {t : Nat} {v : Value} (h : Nat.blt t N = true) (hv : F t = v) : ev (cutF N F) (.tmp t) = v := by
  show cutF N F t = v
  unfold cutF; rw [h]; exact hv
theorem put_same {F : Nat → Value} {d : Option Tmp} {t : Nat} {v : Value} (h : d = some t) : putF F d v t = v := by rw [h]; show up F t v t = v; simp [up, Nat.beq_refl]
theorem put_other {F : Nat → Value} {d : Option Tmp} {t s : Nat} {v : Value} (h : d = some t) (hne : s ≠ t) : putF F d v s = F s := by
  rw [h]; show up F t v s = F s
  unfold up
  have : Nat.beq s t = false := by
    cases hb : Nat.beq s t
    · rfl
    · exact absurd (Nat.eq_of_beq_eq_true hb) hne
  rw [this]; rfl
theorem kept_but {T : Nat → Prop} {Y : Nat} {w W : World} {t : TypeId} {v : Value} (k : Kept (fun i => T i ∨ i = Y) w W) (h1 : Cel w Y t v) (h2 : Cel W Y t v) : Kept T w W := ⟨k.os, k.tape, k.output, k.size, fun i hi hn => by
  by_cases e : i = Y
  · subst e; exact (show W.heap[i]? = _ from h2).trans (show w.heap[i]? = _ from h1).symm
  · exact k.block i hi (fun h => h.elim hn e)⟩
def WithC {α : Type} (Y : Nat) (t : TypeId) (v : Value) (o : List α) (J : List α → (Nat → Prop) → World → Prop) (pre : List α) (T : Nat → Prop) (W : World) : Prop := ∃ Ti : Nat → Prop, (∀ i, T i ↔ (Ti i ∨ i = Y)) ∧ ¬ Ti Y ∧ Cel W Y t v ∧ J (o ++ pre) Ti W
theorem WithC.stj {α : Type} {Y : Nat} {t : TypeId} {v : Value} {o : List α} {J : List α → (Nat → Prop) → World → Prop} (h : StJ J) : StJ (WithC Y t v o J) := by
  refine ⟨?_, ?_⟩
  · rintro pre T S w w' ⟨Ti, hT, h0, hc, hj⟩ k ha
    exact ⟨Ti, hT, h0, hc.all k (ha Y ((hT Y).2 (.inr rfl))), h.st _ _ _ _ _ hj k (fun i hi => ha i ((hT i).2 (.inl hi)))⟩
  · rintro pre T w ⟨Ti, hT, _, hc, hj⟩ i hi
    rcases (hT i).1 hi with h1 | rfl
    · exact h.li _ _ _ hj i h1
    · exact hc.lt
theorem wq_fwd {α : Type} {P : Program} {N : Nat} {Q : Exit → (Nat → Value) → World → Prop} {F : Nat → Value} {w : World} {gs q z y t1 t2 t3 t4 : Tmp} {ra rb id n : Nat} {o1 o2 o3 o4 o5 o6 : Oper} {TY tf tb : TypeId} {d : TypeDesc} {c : Call} {us : α → List Value} {zs : List Value} {v : Value} {xs o all : List α} {Tg TJ : Nat → Prop} {J Jx : List α → (Nat → Prop) → World → Prop} {l Y : Nat}
    (hT : ∀ x, StcT P TY (us x).length) (hus : ∀ x, OneAll (us x)) (hz0 : (P.info? TY).map (fun i => (i.zero, i.size)) = some (some (.agg zs.toArray), n)) (hzl : ∀ x, zs.length = (us x).length)
    (h1 : o1.op = .alloc TY ∧ o1.dst = some z ∧ o1.guard = none) (h2 : o2.op = .store TY (.tmp z) (.tmp q) ∧ o2.dst = none ∧ o2.guard = none)
    (h3 : o3.op = .load tf (.tmp y) ∧ o3.dst = some t1 ∧ o3.guard = none) (h4 : o4.op = .load TY (.tmp z) ∧ o4.dst = some t2 ∧ o4.guard = none)
    (h5 : o5.op = .call c ∧ o5.dst = some t3 ∧ o5.guard = none) (hc : c.callee = .value (.tmp t1) ∧ c.args = #[.tmp t2]) (h6 : o6.op = .unOp .not tb (.tmp t3) ∧ o6.dst = some t4 ∧ o6.guard = none)
    (hb : [q, z, y, t1, t2, t3, t4].all (fun t => Nat.blt t N) = true) (hd : [q, z, y, t1, t2, t3, t4].Nodup)
    (hu : P.underlying tf = some d) (hpd : plainD d = true)
    (hv : ev (cutF N F) (.tmp gs) = v) (hs : Sqt P (fun x => .agg (us x).toArray) w Tg v xs) (hy : F y = .pointer (some ⟨Y, 0, none⟩)) (hcY : Cel w Y tf (.func (.yield l) #[] #[]))
    (hJ : Jth w TJ J o) (sX : StJ Jx) (apg : Apart TJ Tg) (apy : Apart TJ (onB Y)) (apyg : Apart (onB Y) Tg) (hall : (o ++ xs) <+: all)
    (hYd : ∀ (pre : List α) (x : α) (T : Nat → Prop) (W : World), J pre T W → (pre ++ [x]) <+: all → YieldAt Fence.wide 0 P l #[.agg (us x).toArray] W (Hands J Jx (pre ++ [x]) T W))
    (hdone : ∀ (D : Nat) (T' : Nat → Prop) (W : World), w.heap.size ≤ D → Kept TJ w W → Grew w TJ T' → Jth W T' J (o ++ xs) → Mrk W D → ¬ T' D → Q .normal (up F N (markV (D :: marksOf (F N)))) W)
    (hstop : ∀ (D : Nat) (T' : Nat → Prop) (pre : List α) (W : World), w.heap.size ≤ D → Kept TJ w W → Grew w TJ T' → Jth W T' Jx pre → Mrk W D → ¬ T' D → Q .ret (up F N (markV (D :: marksOf (F N)))) W) :
    wq none P N (.rangeFunc (.tmp gs) #[q] (.region ra #[o1, o2] false) (.block id (.seq (.region rb #[o3, o4, o5, o6] false) (.cond (.tmp t4) .ret .skip)))) Q F w := by
  obtain ⟨p1, d1, g1⟩ := h1
  obtain ⟨p2, d2, g2⟩ := h2
  obtain ⟨p3, d3, g3⟩ := h3
  obtain ⟨p4, d4, g4⟩ := h4
  obtain ⟨p5, d5, g5⟩ := h5
  obtain ⟨p6, d6, g6⟩ := h6
  simp only [List.all_cons, List.all_nil, Bool.and_eq_true, Bool.and_true] at hb
  obtain ⟨bq, bz, by_, b1, b2, b3, b4⟩ := hb
  simp only [List.nodup_cons, List.mem_cons, List.not_mem_nil, or_false, not_or, not_false_eq_true, and_true, List.nodup_nil] at hd
  obtain ⟨⟨nqz, nqy, nq1, nq2, nq3, nq4⟩, ⟨nzy, nz1, nz2, nz3, nz4⟩, ⟨ny1, ny2, ny3, ny4⟩, ⟨n12, n13, n14⟩, ⟨n23, n24⟩, n34⟩ := hd
  have hYJ : ¬ TJ Y := fun h => apy Y h rfl
  have hyN : y ≠ N := fun e => by rw [e] at by_; simp [Nat.blt_eq] at by_
  refine wq_rangeT hT hus hz0 hzl p1 d1 g1 p2 d2 g2 bq bz nqz hv hs (WithC Y tf (.func (.yield l) #[] #[]) o J) (WithC Y tf (.func (.yield l) #[] #[]) o Jx) (WithC.stj hJ.2) (WithC.stj sX) (T0 := fun i => TJ i ∨ i = Y) ⟨TJ, fun _ => Iff.rfl, hYJ, hcY, by rw [List.append_nil]; exact hJ.1⟩ (fun i hi => hi.elim (apg i) (fun e => apyg i e)) ?_ ?_ ?_
  · rintro lr pre x T zp F1 W ⟨Ti, hTi, hi0, hcW, hjW⟩ hpx hst hapz hz1 hoth hN
    have hpx2 : ((o ++ pre) ++ [x]) <+: all := by
      rw [List.append_assoc]
      exact ((List.prefix_append_right_inj o).2 hpx).trans hall
    refine wq_block (wq_seq (wq_region (os := [o3, o4, o5, o6]) (wl_v (.func (.yield l) #[] #[]) g3 (by rw [d3]; exact b1) (y_load_cel p3 (cut_at by_ ((hoth y (Ne.symm nzy) (Ne.symm nqy) hyN).trans hy)) hu hcW hpd rr) (wl_v (.agg (us x).toArray) g4 (by rw [d4]; exact b2) (y_load_stc (hT x) p4 (cut_at bz ((put_other d3 nz1).trans hz1)) hst rr) ?_))))
    refine wl_yieldS (l := l) (cx := .tmp t1) (xs := [.tmp t2]) (vs := [.agg (us x).toArray]) g5 (by rw [d5]; exact b3) p5 hc.1 (cut_at b1 ((put_other d4 n12).trans (put_same d3))) hc.2 (by simp only [List.map_cons, List.map_nil]; rw [cut_at b2 (put_same d4)]) (hYd (o ++ pre) x Ti W hjW hpx2) ?_
    rintro _ W3 ⟨T3, k3, gr3, (⟨rfl, hj3⟩ | ⟨rfl, hj3⟩)⟩
    · refine ⟨_, rfl, wl_v (.bool false) g6 (by rw [d6]; exact b4) (y_not p6 (cut_at b3 (put_same d5)) rfl rr) (wl_nil fun F5 hF5 => ?_)⟩
      refine then_normal (wq_cond (t := false) (cut_at b4 ((hF5 t4).trans (put_same d6))) (fun e => by cases e) (fun _ => wq_skip (in_normal ?_)))
      refine ⟨fun i => T3 i ∨ i = Y, k3.mono (fun i _ h => .inl ((hTi i).2 (.inl h))), fun i hi => ?_, T3, fun _ => Iff.rfl, fun h => (gr3 Y h).elim hi0 (fun e => by have := hcW.lt; omega), hcW.all k3 hi0, by rw [← List.append_assoc]; exact hj3⟩
      rcases hi with h | h
      · exact (gr3 i h).imp (fun h => (hTi i).2 (.inl h)) (fun h => h)
      · exact .inl ((hTi i).2 (.inr h))
    · refine ⟨_, rfl, wl_v (.bool true) g6 (by rw [d6]; exact b4) (y_not p6 (cut_at b3 (put_same d5)) rfl rr) (wl_nil fun F5 hF5 => ?_)⟩
      refine then_normal (wq_cond (t := true) (cut_at b4 ((hF5 t4).trans (put_same d6))) (fun _ => wq_ret (in_ret ?_)) (fun e => by cases e))
      refine ⟨fun i => T3 i ∨ i = Y, k3.mono (fun i _ h => .inl ((hTi i).2 (.inl h))), fun i hi => ?_, T3, fun _ => Iff.rfl, fun h => (gr3 Y h).elim hi0 (fun e => by have := hcW.lt; omega), hcW.all k3 hi0, by rw [← List.append_assoc]; exact hj3⟩
      rcases hi with h | h
      · exact (gr3 i h).imp (fun h => (hTi i).2 (.inl h)) (fun h => h)
      · exact .inl ((hTi i).2 (.inr h))
  · rintro D T' W hD k g ⟨Ti, hTi, hi0, hcW, hj⟩ hm hn
    refine hdone D Ti W hD (kept_but k hcY hcW) (fun i hi => ?_) ⟨hj, hJ.2⟩ hm (fun h => hn ((hTi D).2 (.inl h)))
    rcases g i ((hTi i).2 (.inl hi)) with h | h
    · exact h.elim .inl (fun e => absurd (e ▸ hi) hi0)
    · exact .inr h
  · rintro D T' pre W hD k g ⟨Ti, hTi, hi0, hcW, hj⟩ hm hn
    refine hstop D Ti _ W hD (kept_but k hcY hcW) (fun i hi => ?_) ⟨hj, sX⟩ hm (fun h => hn ((hTi D).2 (.inl h)))
    rcases g i ((hTi i).2 (.inl hi)) with h | h
    · exact h.elim .inl (fun e => absurd (e ▸ hi) hi0)
    · exact .inr h
def ColI {α : Type} (r : RowT α) (Y : Nat) (o xs : List α) (pre : List α) (T : Nat → Prop) (W : World) : Prop := ∃ (v : Value) (Tb : Nat → Prop), (∀ i, T i ↔ (onB Y i ∨ Tb i)) ∧ Apart (onB Y) Tb ∧ Cel W Y r.t v ∧ RoO r W Tb v (o ++ pre) ∧ pre <+: xs
theorem ColI.stj {α : Type} {r : RowT α} {Y : Nat} {o xs : List α} : StJ (ColI r Y o xs) := by
  refine ⟨?_, ?_⟩
  · rintro pre T S w w' ⟨v, Tb, hT, hap, hc, hr, hp⟩ k ha
    exact ⟨v, Tb, hT, hap, hc.all k (ha Y ((hT Y).2 (.inl rfl))), hr.all k (fun i hi => ha i ((hT i).2 (.inr hi))), hp⟩
  · rintro pre T w ⟨v, Tb, hT, _, hc, hr, _⟩ i hi
    exact ((hT i).1 hi).elim (fun e => by cases e; exact hc.lt) (fun e => hr.live i e)
theorem noJ {α : Type} : StJ (fun (_ : List α) (_ : Nat → Prop) (_ : World) => False) := ⟨fun _ _ _ _ _ h _ _ => h, fun _ _ _ h => h.elim⟩
theorem wq_coll {α : Type} {r : RowT α} [hk : r.Ok] {N : Nat} {Q : Exit → (Nat → Value) → World → Prop} {F : Nat → Value} {w : World} {gs q z y t1 t2 t3 t4 : Tmp} {ra rb id n : Nat} {o1 o2 o3 o4 o5 o6 o7 : Oper} {zs : List Value} {v v0 : Value} {xs o : List α} {Tg Tb : Nat → Prop} {Y : Nat}
    (hT : ∀ x, StcT Try.prog r.e (r.enc x).length) (hus : ∀ x, OneAll (r.enc x)) (hz0 : (Try.prog.info? r.e).map (fun i => (i.zero, i.size)) = some (some (.agg zs.toArray), n)) (hzl : ∀ x, zs.length = (r.enc x).length)
    (h1 : o1.op = .alloc r.e ∧ o1.dst = some z ∧ o1.guard = none) (h2 : o2.op = .store r.e (.tmp z) (.tmp q) ∧ o2.dst = none ∧ o2.guard = none)
    (h3 : o3.op = .load r.t (.tmp y) ∧ o3.dst = some t1 ∧ o3.guard = none) (h4 : o4.op = .load r.e (.tmp z) ∧ o4.dst = some t2 ∧ o4.guard = none)
    (h5 : o5.op = .buildSlice r.t 1 #[(0, .tmp t2)] ∧ o5.dst = some t3 ∧ o5.guard = none) (h6 : o6.op = .call { callee := .builtin .append, args := #[.tmp t1, .tmp t3], argTypes := #[r.t, r.t] } ∧ o6.dst = some t4 ∧ o6.guard = none)
    (h7 : o7.op = .store r.t (.tmp y) (.tmp t4) ∧ o7.dst = none ∧ o7.guard = none) (hsz : (Try.prog.info? r.t).map (·.size) = some 1) (hsm : r.k ≤ 64)
    (hb : [q, z, y, t1, t2, t3, t4].all (fun t => Nat.blt t N) = true) (hd : [q, z, y, t1, t2, t3, t4].Nodup)
    (hv : ev (cutF N F) (.tmp gs) = v) (hs : Sqt Try.prog (fun x => .agg (r.enc x).toArray) w Tg v xs) (hy : F y = .pointer (some ⟨Y, 0, none⟩)) (hcY : Cel w Y r.t v0) (hr : RoO r w Tb v0 o)
    (apY : Apart (onB Y) Tb) (apg : Apart Tb Tg) (apyg : Apart (onB Y) Tg) (hlen : o.length + xs.length < 1000)
    (hdone : ∀ (D : Nat) (v' : Value) (T' : Nat → Prop) (W : World), w.heap.size ≤ D → Kept (fun i => (onB Y) i ∨ (Tb i)) w W → Grew w Tb T' → Cel W Y r.t v' → RoO r W T' v' (o ++ xs) → Apart (onB Y) T' → Mrk W D → ¬ T' D → Q .normal (up F N (markV (D :: marksOf (F N)))) W) :
    wq none Try.prog N (.rangeFunc (.tmp gs) #[q] (.region ra #[o1, o2] false) (.block id (.region rb #[o3, o4, o5, o6, o7] false))) Q F w := by
  obtain ⟨p1, d1, g1⟩ := h1
  obtain ⟨p2, d2, g2⟩ := h2
  obtain ⟨p3, d3, g3⟩ := h3
  obtain ⟨p4, d4, g4⟩ := h4
  obtain ⟨p5, d5, g5⟩ := h5
  obtain ⟨p6, d6, g6⟩ := h6
  obtain ⟨p7, d7, g7⟩ := h7
  simp only [List.all_cons, List.all_nil, Bool.and_eq_true, Bool.and_true] at hb
  obtain ⟨bq, bz, by_, b1, b2, b3, b4⟩ := hb
  simp only [List.nodup_cons, List.mem_cons, List.not_mem_nil, or_false, not_or, not_false_eq_true, and_true, List.nodup_nil] at hd
  obtain ⟨⟨nqz, nqy, nq1, nq2, nq3, nq4⟩, ⟨nzy, nz1, nz2, nz3, nz4⟩, ⟨ny1, ny2, ny3, ny4⟩, ⟨n12, n13, n14⟩, ⟨n23, n24⟩, n34⟩ := hd
  have hyN : y ≠ N := fun e => by rw [e] at by_; simp [Nat.blt_eq] at by_
  have hk0 := hk
  refine wq_rangeT hT hus hz0 hzl p1 d1 g1 p2 d2 g2 bq bz nqz hv hs (ColI r Y o xs) (fun _ _ _ => False) ColI.stj noJ (T0 := fun i => (onB Y) i ∨ (Tb i)) ⟨v0, Tb, fun _ => Iff.rfl, apY, hcY, by rw [List.append_nil]; exact hr, List.nil_prefix⟩ (fun i hi => hi.elim (apyg i) (apg i)) ?_ ?_ ?_
  · rintro lr pre x T zp F1 W ⟨v1, T1, hT1, hap1, hc1, hr1, hp1⟩ hpx hst hapz hz1 hoth hN
    have hFy : F1 y = .pointer (some ⟨Y, 0, none⟩) := (hoth y (Ne.symm nzy) (Ne.symm nqy) hyN).trans hy
    have hpl := hpx.length_le
    rw [List.length_append, List.length_singleton] at hpl
    refine wq_block (wq_region (os := [o3, o4, o5, o6, o7]) (wl_v v1 g3 (by rw [d3]; exact b1) (y_load_cel p3 (cut_at by_ hFy) hk.slice hc1 rfl rr) (wl_v (.agg (r.enc x).toArray) g4 (by rw [d4]; exact b2) (y_load_stc (hT x) p4 (cut_at bz ((put_other d3 nz1).trans hz1)) hst rr) ?_)))
    refine wl_builtRo (r := r) (xs := [.tmp t2]) (vs := [.agg (r.enc x).toArray]) (l := [x]) g5 (by rw [d5]; exact b3) p5 rfl rfl (by simp only [List.map_cons, List.map_nil]; rw [cut_at b2 (put_same d4)]) (by simp [Value.cells]) (Nat.le_of_ble_eq_true rfl) (by simp; omega) fun u3 W3 T3 hB3 hg3 k3 => ?_
    have hc3 := hc1.all k3 (fun h => h)
    have hr3 := hr1.all k3 Apart.none
    refine wl_appendRo (r := r) g6 (by rw [d6]; exact b4) p6 rfl (cut_at b1 ((put_other d5 n13).trans ((put_other d4 n12).trans (put_same d3)))) (cut_at b3 (put_same d5)) hr3 hB3.roa (by rw [List.length_append]; simp; omega) fun u4 W4 T4 hB4 hg4 k4 => ?_
    have hc4 := hc3.all k4 (hap1 Y rfl)
    have hFy4 : putF (putF (putF (putF F1 o3.dst v1) o4.dst (.agg (r.enc x).toArray)) o5.dst u3) o6.dst u4 y = .pointer (some ⟨Y, 0, none⟩) := (put_other d6 ny4).trans ((put_other d5 ny3).trans ((put_other d4 ny2).trans ((put_other d3 ny1).trans hFy)))
    refine wl_store_cel g7 d7 p7 (cut_at by_ hFy4) (cut_at b4 (put_same d6)) hc4 hB4.oneC hsz fun W5 hc5 k5 => ?_
    have hap4 : Apart (onB Y) T4 := (Apart.grew hap1.symm hg4 (onB_live hc3.lt)).symm
    have hB5 := hB4.all k5 hap4.symm
    refine wl_nil fun F5 hF5 => in_normal ⟨fun i => (onB Y) i ∨ T4 i, ?_, fun i hi => ?_, u4, T4, fun _ => Iff.rfl, hap4, hc5, by rw [← List.append_assoc]; exact hB5, hpx⟩
    · have ka : Kept (fun i => T i ∨ i = zp) W W3 := k3.mono (fun _ _ h => h.elim)
      have kb := ka.trans k4 (fun i _ h => .inl ((hT1 i).2 (.inr h)))
      exact kb.trans k5 (fun i _ h => .inl ((hT1 i).2 (.inl h)))
    · rcases hi with h | h
      · exact .inl ((hT1 i).2 (.inl h))
      · rcases hg4 i h with h | h
        · exact .inl ((hT1 i).2 (.inr h))
        · exact .inr (Nat.le_trans k3.size h)
  · rintro D T' W hD k g ⟨v', T2, hT2, hap2, hc2, hr2, _⟩ hm hn
    refine hdone D v' T2 W hD k (fun i hi => ?_) hc2 hr2 hap2 hm (fun h => hn ((hT2 D).2 (.inr h)))
    rcases g i ((hT2 i).2 (.inr hi)) with h | h
    · exact h.elim (fun e => absurd hi (hap2 i e)) .inl
    · exact .inr h
  · rintro D T' pre W hD k g h
    exact h.elim
end Go.Proofs.Ythoafgfcoclkbaa
set_option maxRecDepth 100000
namespace Go.Proofs.Ythoafgfcoclkbaa
open Go.RowKit
def slV (x : Sl) : List Value := [.int .i64 x.d, .int .i64 x.k, .int .i64 x.p, .int .i64 x.n]
theorem slV_one (x : Sl) : OneAll (slV x) := oneI rfl (oneI rfl (oneI rfl (oneI rfl oneN)))
def SqS (w : World) (T : Nat → Prop) (v : Value) (xs : List Sl) : Prop := Sqt Try.prog (fun x : Sl => .agg (slV x).toArray) w T v xs
theorem SqS.live {w : World} {T : Nat → Prop} {v : Value} {xs : List Sl} (h : SqS w T v xs) : Live w T := Sqt.live h
theorem SqS.all {S : Nat → Prop} {w w' : World} {T : Nat → Prop} {v : Value} {xs : List Sl} (h : SqS w T v xs) (k : Kept S w w') (ha : Apart T S) : SqS w' T v xs := Sqt.all h k ha
def stL (a x : Nat) : List Sl := [⟨(x : Int), 1, (a : Int), -1⟩] ++ bsTo a x (x - (a + 1))
theorem bsTo_pre (a x : Nat) {i : Nat} : ∀ n, bsTo a x i <+: bsTo a x (i + n)
  | 0 => List.prefix_refl _
  | n + 1 => (bsTo_pre a x n).trans (List.prefix_append _ _)
theorem stL_pre {a x i : Nat} (h : i < x - (a + 1)) : ([(⟨(x : Int), 1, (a : Int), -1⟩ : Sl)] ++ bsTo a x i) ++ [⟨((a + 1 + i : Nat) : Int), 2, (a : Int), (x : Int)⟩] <+: stL a x := by
  unfold stL
  rw [List.append_assoc]
  refine (List.prefix_append_right_inj _).2 ?_
  have h1 := bsTo_pre a x (i := i + 1) (x - (a + 1) - (i + 1))
  rw [show i + 1 + (x - (a + 1) - (i + 1)) = x - (a + 1) by omega] at h1
  exact h1
theorem st_go (a x : Nat) (qx qa : Nat) (w0 : World) (hax : a < x) (hx : x ≤ 300) (h_qx : Cel w0 qx 3 (.int .i64 (((x : Nat) : Int)))) (h_qa : Cel w0 qa 3 (.int .i64 (((a : Nat) : Int)))) : SeqT Try.prog 29 #[.pointer (some ⟨qx, 0, none⟩), .pointer (some ⟨qa, 0, none⟩)] (fun x : Sl => .agg (slV x).toArray) (stL a x) w0 (fun i => (onB qx) i ∨ ((onB qa) i)) := by
 intro l J Jx T_j sJ sX h0 hap hY
 have h_j : Jth w0 T_j J [] := ⟨h0, sJ⟩
 have ap_qx : Apart T_j (onB qx) := fun i h e => hap i h (Or.inl e)
 have ap_qa : Apart T_j (onB qa) := fun i h e => hap i h (Or.inr e)
 refine calls_wq (args := [.func (.yield l) #[] #[], pt qx 0, pt qa 0]) 25 Try.func29 rfl rfl (Nat.le_of_ble_eq_true rfl) ?_
 have K0 := Kept.refl T_j w0
 refine wq_seq (wq_seq (wq_region_y (wl_v (.func (.yield l) #[] #[]) rfl rfl (y_mov rfl rfl rr) (wl_v (iv ((x : Nat) : Int)) rfl rfl (y_load_cel rfl rfl Try.underlying3 h_qx rfl rr) (wl_v (iv ((a : Nat) : Int)) rfl rfl (y_load_cel rfl rfl Try.underlying3 h_qa rfl rr) (wl_v (.agg #[iv ((x : Nat) : Int), iv 1, iv ((a : Nat) : Int), iv (-1)]) rfl rfl (y_buildL (l' := [(0, iv ((x : Nat) : Int)), (1, iv 1), (2, iv ((a : Nat) : Int)), (3, iv (-1))]) (cells := #[iv ((x : Nat) : Int), iv 1, iv ((a : Nat) : Int), iv (-1)]) rfl (bpC rfl (bpC rfl (bpC rfl (bpC rfl bpN)))) (by kernel_rfl) rfl rr) (wl_yieldS rfl rfl rfl rfl rfl rfl (vsC rfl vsN) (hY ([]) (⟨(x : Int), 1, (a : Int), -1⟩) _ _ h_j.1 (⟨bsTo a x (x - (a + 1)), rfl⟩)) ?_)))))))
 rintro _ w1 ⟨T2, k3, g4, (⟨rfl, j5⟩ | ⟨rfl, j5⟩)⟩
 ·refine ⟨_, rfl, ?_⟩
  have B6 : Jth w1 T2 J (([]) ++ [⟨(x : Int), 1, (a : Int), -1⟩]) := ⟨j5, sJ⟩
  have ap7 : Apart T2 (onB qx) := ap_qx.grew g4 (onB_live h_qx.lt)
  have ap8 : Apart T2 (onB qa) := ap_qa.grew g4 (onB_live h_qa.lt)
  have B9 := h_qx.all k3 (ap_qx.symm qx rfl)
  have B10 := h_qa.all k3 (ap_qa.symm qa rfl)
  have K11 := K0.trans k3 (Grew.ok (S := T_j) (Grew.refl w0 T_j) (fun _ x => x))
  have gr12 := Grew.trans (Grew.refl w0 T_j) K0 g4
  refine wl_v (.bool false) rfl rfl (y_not rfl rfl rfl rr) (wl_nil fun F13 hF14 => ?_)
  have s15 : F13 0 = .func (.yield l) #[] #[] := (hF14 0).trans rfl
  have s16 : F13 1 = pt qx 0 := (hF14 1).trans rfl
  have s17 : F13 2 = pt qa 0 := (hF14 2).trans rfl
  have s18 : F13 25 = undef := (hF14 25).trans rfl
  have s19 : F13 10 = .bool false := (hF14 10).trans rfl
  clear hF14
  refine then_normal ?_
  refine wq_cond (t := false) s19 (fun e => by cases e) (fun _ => ?_)
  refine wq_skip (then_normal (wq_seq (wq_region (wl_v (iv ((a : Nat) : Int)) rfl rfl (y_load_cel rfl s17 Try.underlying3 B10 rfl rr) (wl_v (iv ((a + 1 : Nat) : Int)) rfl rfl (y_add rfl rfl rfl (i64_n (by omega) (by omega)) rr) (wl_v (iv ((a + 1 : Nat) : Int)) rfl rfl (y_asg rfl rfl rr) (wl_nil fun F20 hF21 => ?_)))))))
  obtain ⟨s22, s23, s24, s25⟩ := t4 hF21 0 s15 1 s16 2 s17 25 s18
  have s26 : F20 4 = iv ((a + 1 : Nat) : Int) := (hF21 4).trans rfl
  clear hF21
  refine then_normal (wq_block (wq_loop (fun nn FF ww => ∃ (i : Nat), ∃ (T27 : Nat → Prop), (i ≤ x - (a + 1)) ∧ nn = x - (a + 1) - i ∧ FF 0 = .func (.yield l) #[] #[] ∧ FF 1 = pt qx 0 ∧ FF 2 = pt qa 0 ∧ FF 25 = undef ∧ FF 4 = iv ((a + 1 + i : Nat) : Int) ∧ Kept T_j w0 ww ∧ Jth ww T27 J ([⟨(x : Int), 1, (a : Int), -1⟩] ++ bsTo a x i) ∧ Cel ww qx 3 (iv ((x : Nat) : Int)) ∧ Cel ww qa 3 (iv ((a : Nat) : Int)) ∧ Grew w0 T_j T27 ∧ Apart T27 (onB qx) ∧ Apart T27 (onB qa)) (x - (a + 1) - 0) ⟨0, T2, by omega, rfl, s22, s23, s24, s25, s26, K11, B6, B9, B10, gr12, ap7, ap8⟩ ?_))
  rintro n31 F28 w29 ⟨i, T27, i32, hn31, s33, s34, s35, s36, s37, K30, B38, B39, B40, gr41, ap42, ap43⟩
  refine wq_seq (wq_seq (wq_region (wl_mv rfl rfl rfl s37 (wl_v (iv ((x : Nat) : Int)) rfl rfl (y_load_cel rfl s34 Try.underlying3 B39 rfl rr) (wl_v (.bool (decide (((a + 1 + i : Nat) : Int) < ((x : Nat) : Int)))) rfl rfl (y_lss rfl rfl rfl rfl rr) (wl_nil fun F44 hF45 => ?_))))))
  obtain ⟨s46, s47, s48, s49, s50⟩ := t5 hF45 0 s33 1 s34 2 s35 25 s36 4 s37
  have s51 : F44 15 = .bool (decide (((a + 1 + i : Nat) : Int) < ((x : Nat) : Int))) := (hF45 15).trans rfl
  clear hF45
  refine then_normal ?_
  refine wq_cond s51 (fun c52 => ?_) (fun c52 => ?_)
  ·replace c52 := of_decide_eq_true c52
   refine wq_skip (then_normal (wq_seq (wq_block (wq_seq (wq_region_y (wl_mv rfl rfl rfl s46 (wl_mv rfl rfl rfl s50 (wl_v (iv ((a : Nat) : Int)) rfl rfl (y_load_cel rfl s48 Try.underlying3 B40 rfl rr) (wl_v (iv ((x : Nat) : Int)) rfl rfl (y_load_cel rfl s47 Try.underlying3 B39 rfl rr) (wl_v (.agg #[iv ((a + 1 + i : Nat) : Int), iv 2, iv ((a : Nat) : Int), iv ((x : Nat) : Int)]) rfl rfl (y_buildL (l' := [(0, iv ((a + 1 + i : Nat) : Int)), (1, iv 2), (2, iv ((a : Nat) : Int)), (3, iv ((x : Nat) : Int))]) (cells := #[iv ((a + 1 + i : Nat) : Int), iv 2, iv ((a : Nat) : Int), iv ((x : Nat) : Int)]) rfl (bpC rfl (bpC rfl (bpC rfl (bpC rfl bpN)))) (by kernel_rfl) rfl rr) (wl_yieldS rfl rfl rfl rfl rfl rfl (vsC rfl vsN) (hY ([⟨(x : Int), 1, (a : Int), -1⟩] ++ bsTo a x i) (⟨((a + 1 + i : Nat) : Int), 2, (a : Int), (x : Int)⟩) _ _ B38.1 (stL_pre (by omega))) ?_)))))))))))
   rintro _ w53 ⟨T54, k55, g56, (⟨rfl, j57⟩ | ⟨rfl, j57⟩)⟩
   ·refine ⟨_, rfl, ?_⟩
    have B58 : Jth w53 T54 J (([⟨(x : Int), 1, (a : Int), -1⟩] ++ bsTo a x i) ++ [⟨((a + 1 + i : Nat) : Int), 2, (a : Int), (x : Int)⟩]) := ⟨j57, sJ⟩
    have ap59 : Apart T54 (onB qx) := ap42.grew g56 (onB_live B39.lt)
    have ap60 : Apart T54 (onB qa) := ap43.grew g56 (onB_live B40.lt)
    have B61 := B39.all k55 (ap42.symm qx rfl)
    have B62 := B40.all k55 (ap43.symm qa rfl)
    have K63 := K30.trans k55 (Grew.ok (S := T_j) gr41 (fun _ x => x))
    have gr64 := Grew.trans gr41 K30 g56
    refine wl_v (.bool false) rfl rfl (y_not rfl rfl rfl rr) (wl_nil fun F65 hF66 => ?_)
    obtain ⟨s67, s68, s69, s70, s71⟩ := t5 hF66 0 s46 1 s47 2 s48 25 s49 4 s50
    have s72 : F65 24 = .bool false := (hF66 24).trans rfl
    clear hF66
    refine then_normal ?_
    refine wq_cond (t := false) s72 (fun e => by cases e) (fun _ => ?_)
    refine wq_skip (in_normal (then_normal (wq_region (wl_mv rfl rfl rfl s71 (wl_v (iv (((a + 1 + i) + 1 : Nat) : Int)) rfl rfl (y_add rfl rfl rfl (i64_n (by omega) (by omega)) rr) (wl_v (iv (((a + 1 + i) + 1 : Nat) : Int)) rfl rfl (y_asg rfl rfl rr) (wl_nil fun F73 hF74 => ?_)))))))
    obtain ⟨s75, s76, s77, s78⟩ := t4 hF74 0 s67 1 s68 2 s69 25 s70
    have s79 : F73 4 = iv (((a + 1 + i) + 1 : Nat) : Int) := (hF74 4).trans rfl
    clear hF74
    exact then_normal ⟨(x - (a + 1) - (i + 1)), by omega, i + 1, T54, by omega, rfl, s75, s76, s77, s78, s79, K63, (by rw [List.append_assoc] at B58; exact B58), B61, B62, gr64, ap59, ap60⟩
   ·refine ⟨_, rfl, ?_⟩
    have B80 : Jth w53 T54 Jx (([⟨(x : Int), 1, (a : Int), -1⟩] ++ bsTo a x i) ++ [⟨((a + 1 + i : Nat) : Int), 2, (a : Int), (x : Int)⟩]) := ⟨j57, sX⟩
    have K85 := K30.trans k55 (Grew.ok (S := T_j) gr41 (fun _ x => x))
    have gr86 := Grew.trans gr41 K30 g56
    refine wl_v (.bool true) rfl rfl (y_not rfl rfl rfl rr) (wl_nil fun F87 hF88 => ?_)
    have s92 := (hF88 25).trans s49
    have s94 : F87 24 = .bool true := (hF88 24).trans rfl
    clear hF88
    refine then_normal ?_
    refine wq_cond (t := true) s94 (fun _ => ?_) (fun e => by cases e)
    refine wq_ret (in_ret (then_ret (then_ret (in_ret ?_))))
    exact end_none_ret s92 rfl ⟨⟨_, rfl⟩, T54, K85, gr86, Or.inr ⟨_, B80.1⟩⟩
  ·replace c52 := of_decide_eq_false c52
   refine wq_exit (then_exit (then_exit (in_here ?_)))
   exact end_none s49 rfl ⟨⟨_, rfl⟩, T27, K30, gr41, Or.inl (by rw [show stL a x = [⟨(x : Int), 1, (a : Int), -1⟩] ++ bsTo a x i by unfold stL; rw [show x - (a + 1) = i by omega]]; exact B38.1)⟩
 ·refine ⟨_, rfl, ?_⟩
  have B95 : Jth w1 T2 Jx (([]) ++ [⟨(x : Int), 1, (a : Int), -1⟩]) := ⟨j5, sX⟩
  have K100 := K0.trans k3 (Grew.ok (S := T_j) (Grew.refl w0 T_j) (fun _ x => x))
  have gr101 := Grew.trans (Grew.refl w0 T_j) K0 g4
  refine wl_v (.bool true) rfl rfl (y_not rfl rfl rfl rr) (wl_nil fun F102 hF103 => ?_)
  have s107 : F102 25 = undef := (hF103 25).trans rfl
  have s108 : F102 10 = .bool true := (hF103 10).trans rfl
  clear hF103
  refine then_normal ?_
  refine wq_cond (t := true) s108 (fun _ => ?_) (fun e => by cases e)
  refine wq_ret (then_ret ?_)
  exact end_none_ret s107 rfl ⟨⟨_, rfl⟩, T2, K100, gr101, Or.inr ⟨_, B95.1⟩⟩
theorem sqt_step {w : World} {a x qx qa : Nat} (hax : a < x) (hx : x ≤ 300) (h1 : Cel w qx 3 (.int .i64 (x : Int))) (h2 : Cel w qa 3 (.int .i64 (a : Int))) : SqS w (fun i => (onB qx) i ∨ (onB qa) i) (.func (.func 29) #[] #[.pointer (some ⟨qx, 0, none⟩), .pointer (some ⟨qa, 0, none⟩)]) (stL a x) :=
  ⟨_, _, rfl, fun _ _ => by kernel_rfl, fun i hi => hi.elim (onB_live h1.lt i) (onB_live h2.lt i), fun S W k ha => st_go a x qx qa W hax hx (h1.all k (ha qx (.inl rfl))) (h2.all k (ha qa (.inr rfl)))⟩
theorem od_step (a x : Nat) (w0 : World) (hax : a < x) (hx : x ≤ 300) :
  Calls Try.prog 28 #[.int .i64 (((a : Nat) : Int)), .int .i64 (((x : Nat) : Int))] w0 fun e w' => ∃ (v1 : Value) (T1 : Nat → Prop), e = .returned (v1) ∧ Kept (fun _ => False) w0 w' ∧ (SqS w' T1 v1 ((stL a x)) ∧ Grew w0 noB T1) := by
 refine calls_wq (args := [iv ((a : Nat) : Int), iv ((x : Nat) : Int)]) 6 Try.func28 rfl rfl (Nat.le_of_ble_eq_true rfl) ?_
 have K0 := Kept.refl (fun _ => False) w0
 refine wq_seq (wq_region (wl_box_cel rfl rfl rfl rfl (by rfl) fun p1 w2 B5 g7 k3 => ?_))
 have gr8 : Grew w0 noB (onB p1) := Grew.new K0 g7
 have K9 := K0.tr k3
 refine wl_box_cel rfl rfl rfl rfl (by rfl) fun p10 w11 B14 g16 k12 => ?_
 have gr17 : Grew w0 noB (onB p10) := Grew.new K9 g16
 have B19 := B5.all k12 id
 have K20 := K9.tr k12
 refine wl_v (Value.nilFunc) rfl rfl (y_asg rfl rfl rr) (wl_nil fun F21 hF22 => ?_)
 have s23 : F21 6 = undef := (hF22 6).trans rfl
 have s24 : F21 2 = pt p1 0 := (hF22 2).trans rfl
 have s25 : F21 3 = pt p10 0 := (hF22 3).trans rfl
 clear hF22
 refine then_normal (wq_seq (wq_region (wl_v (.func (.func 29) #[] #[pt p10 0, pt p1 0]) rfl rfl (y_fnc rfl (vsC s25 (vsC s24 vsN)) rr) (wl_v (.func (.func 29) #[] #[pt p10 0, pt p1 0]) rfl rfl (y_asg rfl rfl rr) (wl_nil fun F26 hF27 => ?_)))))
 have s28 := (hF27 6).trans s23
 have s29 : F26 4 = .func (.func 29) #[] #[pt p10 0, pt p1 0] := (hF27 4).trans rfl
 clear hF27
 refine then_normal (wq_ret ?_)
 exact end_tmp (v := .func (.func 29) #[] #[pt p10 0, pt p1 0]) s28 rfl rfl s29 ⟨(.func (.func 29) #[] #[pt p10 0, pt p1 0]), (fun i => (onB p10) i ∨ ((onB p1) i)), rfl, K20, ⟨sqt_step hax hx B14 B19, fun i h => h.elim (fun y => gr17 i y) (fun y => gr8 i y)⟩⟩
end Go.Proofs.Ythoafgfcoclkbaa
set_option maxRecDepth 100000
namespace Go.Proofs.Ythoafgfcoclkbaa
open Go.RowKit
def grL (f last b : Nat) : List Sl := [⟨(f : Int), 0, -1, -1⟩] ++ midL b last f
theorem midL_st {b last a : Nat} (h : a < last) : midL b last a = stL a (nxt b last a) ++ midL b last (nxt b last a) := by
  rw [midL_yes h]; unfold stL; simp
theorem outL_gr {n g b f : Nat} (h : f < n) (hg : 0 < g) : outL n g b f = grL f (min (f + g) n - 1) b ++ outL n g b (f + g) := by
  rw [outL_yes h hg]; unfold grL; simp
theorem pre_mid {b last a f : Nat} {o : List Sl} (h : a < last) (hm : o ++ midL b last a = grL f last b) : o ++ stL a (nxt b last a) <+: grL f last b := ⟨midL b last (nxt b last a), by rw [List.append_assoc, ← midL_st h]; exact hm⟩
theorem nxt_mid {b last a f : Nat} {o : List Sl} (h : a < last) (hm : o ++ midL b last a = grL f last b) : (o ++ stL a (nxt b last a)) ++ midL b last (nxt b last a) = grL f last b := by rw [List.append_assoc, ← midL_st h]; exact hm
theorem pre_out {n g b f : Nat} {o : List Sl} (h : f < n) (hg : 0 < g) (ho : o ++ outL n g b f = outL n g b 0) : o ++ grL f (min (f + g) n - 1) b <+: outL n g b 0 := ⟨outL n g b (f + g), by rw [List.append_assoc, ← outL_gr h hg]; exact ho⟩
theorem nxt_out {n g b f : Nat} {o : List Sl} (h : f < n) (hg : 0 < g) (ho : o ++ outL n g b f = outL n g b 0) : (o ++ grL f (min (f + g) n - 1) b) ++ outL n g b (f + g) = outL n g b 0 := by rw [List.append_assoc, ← outL_gr h hg]; exact ho
theorem gr_go (f last b : Nat) (qf ql qb : Nat) (w0 : World) (hl : last ≤ 300) (hb : b ≤ 3) (hf : f ≤ 300) (h_qf : Cel w0 qf 3 (.int .i64 (((f : Nat) : Int)))) (h_ql : Cel w0 ql 3 (.int .i64 (((last : Nat) : Int)))) (h_qb : Cel w0 qb 3 (.int .i64 (((b : Nat) : Int)))) : SeqT Try.prog 27 #[.pointer (some ⟨qf, 0, none⟩), .pointer (some ⟨ql, 0, none⟩), .pointer (some ⟨qb, 0, none⟩)] (fun x : Sl => .agg (slV x).toArray) (grL f last b) w0 (fun i => (onB qf) i ∨ ((onB ql) i ∨ ((onB qb) i))) := by
 intro l J Jx T_j sJ sX h0 hap hY
 have h_j : Jth w0 T_j J [] := ⟨h0, sJ⟩
 have ap_qf : Apart T_j (onB qf) := fun i h e => hap i h (Or.inl e)
 have ap_ql : Apart T_j (onB ql) := fun i h e => hap i h (Or.inr (Or.inl e))
 have ap_qb : Apart T_j (onB qb) := fun i h e => hap i h (Or.inr (Or.inr e))
 refine calls_wm (args := [.func (.yield l) #[] #[], pt qf 0, pt ql 0, pt qb 0]) 32 Try.func27 rfl rfl (Nat.le_of_ble_eq_true rfl) ?_
 have K0 := Kept.refl T_j w0
 have h_ms := Mks.nil w0
 refine wq_seq (wq_region (wl_box_fn rfl rfl rfl rfl fun p1 w2 B5 g7 k3 => ?_))
 have ap9 : Apart (onB p1) T_j := Apart.new g7 h_j.live
 have ap13 : Apart (onB p1) noB := Apart.new g7 h_ms.live
 have B14 := h_j.all k3 Apart.none
 have B15 := h_qf.all k3 id
 have B16 := h_ql.all k3 id
 have B17 := h_qb.all k3 id
 have B18 := h_ms.all k3 Apart.none
 have K19 := K0.tr k3
 refine wl_nil fun F20 hF21 => ?_
 have s22 : F20 0 = .func (.yield l) #[] #[] := (hF21 0).trans rfl
 have s23 : F20 1 = pt qf 0 := (hF21 1).trans rfl
 have s24 : F20 2 = pt ql 0 := (hF21 2).trans rfl
 have s25 : F20 3 = pt qb 0 := (hF21 3).trans rfl
 have s26 : F20 32 = markV [] := (hF21 32).trans rfl
 have s27 : F20 4 = pt p1 0 := (hF21 4).trans rfl
 clear hF21
 refine then_normal (wq_seq (wq_seq (wq_region_y (wl_v (.func (.yield l) #[] #[]) rfl rfl (y_load_cel rfl s27 Try.underlying54 B5 rfl rr) (wl_v (iv ((f : Nat) : Int)) rfl rfl (y_load_cel rfl s23 Try.underlying3 B15 rfl rr) (wl_v (.agg #[iv ((f : Nat) : Int), iv 0, iv (-1), iv (-1)]) rfl rfl (y_buildL (l' := [(0, iv ((f : Nat) : Int)), (1, iv 0), (2, iv (-1)), (3, iv (-1))]) (cells := #[iv ((f : Nat) : Int), iv 0, iv (-1), iv (-1)]) rfl (bpC rfl (bpC rfl (bpC rfl (bpC rfl bpN)))) (by kernel_rfl) rfl rr) (wl_yieldS rfl rfl rfl rfl rfl rfl (vsC rfl vsN) (hY ([]) (⟨(f : Int), 0, -1, -1⟩) _ _ B14.1 (⟨midL b last f, rfl⟩)) ?_)))))))
 rintro _ w28 ⟨T29, k30, g31, (⟨rfl, j32⟩ | ⟨rfl, j32⟩)⟩
 ·refine ⟨_, rfl, ?_⟩
  have B33 : Jth w28 T29 J (([]) ++ [⟨(f : Int), 0, -1, -1⟩]) := ⟨j32, sJ⟩
  have ap34 : Apart T29 (onB qf) := ap_qf.grew g31 (onB_live B15.lt)
  have ap35 : Apart T29 (onB ql) := ap_ql.grew g31 (onB_live B16.lt)
  have ap36 : Apart T29 (onB qb) := ap_qb.grew g31 (onB_live B17.lt)
  have ap37 : Apart T29 noB := ((show Apart noB T_j from fun _ h _ => h.elim).symm).grew g31 B18.live
  have ap38 : Apart T29 (onB p1) := (ap9.symm).grew g31 (onB_live B5.lt)
  have B39 := B15.all k30 (ap_qf.symm qf rfl)
  have B40 := B16.all k30 (ap_ql.symm ql rfl)
  have B41 := B17.all k30 (ap_qb.symm qb rfl)
  have B42 := B18.all k30 (fun i h x => ((show Apart noB T_j from fun _ h _ => h.elim) i h x))
  have B43 := B5.all k30 (ap9 p1 rfl)
  have K44 := K19.trans k30 (Grew.ok (S := T_j) (Grew.refl w0 T_j) (fun _ x => x))
  have gr45 := Grew.trans (Grew.refl w0 T_j) K19 g31
  refine wl_v (.bool false) rfl rfl (y_not rfl rfl rfl rr) (wl_nil fun F46 hF47 => ?_)
  obtain ⟨s48, s49, s50, s51, s52, s53⟩ := t6 hF47 0 s22 1 s23 2 s24 3 s25 32 s26 4 s27
  have s54 : F46 12 = .bool false := (hF47 12).trans rfl
  clear hF47
  refine then_normal ?_
  refine wq_cond (t := false) s54 (fun e => by cases e) (fun _ => ?_)
  refine wq_skip (then_normal (wq_seq (wq_region (wl_v (iv ((f : Nat) : Int)) rfl rfl (y_load_cel rfl s49 Try.underlying3 B39 rfl rr) (wl_v (iv ((f : Nat) : Int)) rfl rfl (y_asg rfl rfl rr) (wl_nil fun F55 hF56 => ?_))))))
  obtain ⟨s57, s58, s59, s60, s61, s62, s63⟩ := t7 hF56 0 s48 1 s49 2 s50 3 s51 32 s52 4 s53 12 s54
  have s64 : F55 5 = iv ((f : Nat) : Int) := (hF56 5).trans rfl
  clear hF56
  refine then_normal (wq_block (wq_loop (fun nn FF ww => ∃ (a : Nat), ∃ (o : List Sl), ∃ (ms65 : List Nat), ∃ (T66 : Nat → Prop), ∃ (T67 : Nat → Prop), (o ++ midL b last a = grL f last b) ∧ (a ≤ 300) ∧ nn = last - a ∧ FF 0 = .func (.yield l) #[] #[] ∧ FF 1 = pt qf 0 ∧ FF 2 = pt ql 0 ∧ FF 3 = pt qb 0 ∧ FF 4 = pt p1 0 ∧ FF 12 = .bool false ∧ FF 32 = markV ms65 ∧ FF 5 = iv ((a : Nat) : Int) ∧ Kept T_j w0 ww ∧ Jth ww T66 J o ∧ Cel ww qf 3 (iv ((f : Nat) : Int)) ∧ Cel ww ql 3 (iv ((last : Nat) : Int)) ∧ Cel ww qb 3 (iv ((b : Nat) : Int)) ∧ Mks ww T67 ms65 ∧ Cel ww p1 54 (.func (.yield l) #[] #[]) ∧ Grew w0 T_j T66 ∧ Grew w0 noB T67 ∧ Apart T66 (onB qf) ∧ Apart T66 (onB ql) ∧ Apart T66 (onB qb) ∧ Apart T66 T67 ∧ Apart T66 (onB p1) ∧ Apart T67 (onB qf) ∧ Apart T67 (onB ql) ∧ Apart T67 (onB qb) ∧ Apart T67 (onB p1)) (last - f) ⟨f, [⟨(f : Int), 0, -1, -1⟩], [], T29, noB, rfl, by omega, rfl, s57, s58, s59, s60, s62, s63, s61, s64, K44, B33, B39, B40, B41, B42, B43, gr45, (Grew.refl w0 noB), ap34, ap35, ap36, ap37, ap38, (show Apart noB (onB qf) from fun _ h _ => h.elim), (show Apart noB (onB ql) from fun _ h _ => h.elim), (show Apart noB (onB qb) from fun _ h _ => h.elim), ap13.symm⟩ ?_))
  rintro n71 F68 w69 ⟨a, o, ms65, T66, T67, hm, i72, hn71, s73, s74, s75, s76, s77, s78, s79, s80, K70, B81, B82, B83, B84, B85, B86, gr87, gr88, ap89, ap90, ap91, ap92, ap93, ap94, ap95, ap96, ap97⟩
  refine wq_seq (wq_seq (wq_region (wl_mv rfl rfl rfl s80 (wl_v (iv ((last : Nat) : Int)) rfl rfl (y_load_cel rfl s75 Try.underlying3 B83 rfl rr) (wl_v (.bool (decide (((a : Nat) : Int) < ((last : Nat) : Int)))) rfl rfl (y_lss rfl rfl rfl rfl rr) (wl_nil fun F98 hF99 => ?_))))))
  obtain ⟨s100, s101, s102, s103, s104, s105, s106, s107⟩ := t8 hF99 0 s73 1 s74 2 s75 3 s76 4 s77 12 s78 32 s79 5 s80
  have s108 : F98 16 = .bool (decide (((a : Nat) : Int) < ((last : Nat) : Int))) := (hF99 16).trans rfl
  clear hF99
  refine then_normal ?_
  refine wq_cond s108 (fun c109 => ?_) (fun c109 => ?_)
  ·replace c109 := of_decide_eq_true c109
   refine wq_skip (then_normal (wq_block (wq_seq (wq_region (wl_mv rfl rfl rfl s107 (wl_v (iv ((b : Nat) : Int)) rfl rfl (y_load_cel rfl s103 Try.underlying3 B84 rfl rr) (wl_v (iv ((a + b : Nat) : Int)) rfl rfl (y_add rfl rfl rfl (i64_n (by omega) (by omega)) rr) (wl_v (iv (((a + b) + 1 : Nat) : Int)) rfl rfl (y_add rfl rfl rfl (i64_n (by omega) (by omega)) rr) (wl_v (iv ((last : Nat) : Int)) rfl rfl (y_load_cel rfl s102 Try.underlying3 B83 rfl rr) (wl_v (iv ((nxt b last a : Nat) : Int)) rfl rfl (y_minR rfl rfl rfl (by unfold nxt; omega) rr) (wl_v (iv ((nxt b last a : Nat) : Int)) rfl rfl (y_asg rfl rfl rr) ?_)))))))))))
   refine wl_nil fun F110 hF111 => ?_
   obtain ⟨s112, s113, s114, s115, s116, s117, s118, s119⟩ := t8 hF111 0 s100 1 s101 2 s102 3 s103 4 s104 12 s105 32 s106 5 s107
   have s121 : F110 6 = iv ((nxt b last a : Nat) : Int) := (hF111 6).trans rfl
   clear hF111
   refine then_normal (wq_seq (wq_seq ?_))
   have hnx := nxt_lt (b := b) (show a < last by omega)
   refine wq_region (wl_mv rfl rfl rfl s119 (wl_mv rfl rfl rfl s121 (wl_call (R := fun v_ w_ => ∃ (v122 : Value) (T125 : Nat → Prop), v122 = v_ ∧ Kept (fun _ => False) w69 w_ ∧ (SqS w_ T125 v122 (stL a (nxt b last a)) ∧ Grew w69 noB T125)) rfl rfl (y_cs rfl rfl rfl (fun _ _ => by kernel_rfl) (ev_func _) (vsC rfl (vsC rfl vsN)) (od_step a (nxt b last a)  _ (by omega) (by omega)  ) (fun e_ w_ h_ => by obtain ⟨v122_, T125_, he_, hr_⟩ := h_; exact ⟨_, he_, v122_, T125_, rfl, hr_⟩)) ?_)))
   rintro _ w123 ⟨v122, T125, rfl, k124, ⟨B126, g127⟩⟩
   have B128 := B81.all k124 Apart.none
   have B129 := B82.all k124 id
   have B130 := B83.all k124 id
   have B131 := B84.all k124 id
   have B132 := B85.all k124 Apart.none
   have B133 := B86.all k124 id
   have K134 := K70.tr k124
   have ap136 : Apart T125 T66 := Apart.new g127 B81.live
   have ap141 : Apart T125 (onB p1) := Apart.new g127 (onB_live B86.lt)
   refine wl_nil fun F142 hF143 => ?_
   obtain ⟨s144, s145, s146, s147, s148, s149, s150, s153⟩ := t8 hF143 0 s112 1 s113 2 s114 3 s115 4 s116 12 s117 32 s118 6 s121
   have s154 : F142 25 = v122 := (hF143 25).trans rfl
   clear hF143
   refine then_normal (wq_block ?_)
   refine wq_fwd (us := slV) (zs := [iv 0, iv 0, iv 0, iv 0]) (n := 4) (o := o) (xs := stL a (nxt b last a)) (all := grL f last b) (J := J) (Jx := Jx) (fun _ => stcT_slot) slV_one (by kernel_rfl) (fun _ => rfl) ⟨rfl, rfl, rfl⟩ ⟨rfl, rfl, rfl⟩ ⟨rfl, rfl, rfl⟩ ⟨rfl, rfl, rfl⟩ ⟨rfl, rfl, rfl⟩ ⟨rfl, rfl⟩ ⟨rfl, rfl, rfl⟩ (by decide) (by decide) Try.underlying54 rfl s154 B126 s148 B133 B128 sX ap136.symm ap93 ap141.symm (pre_mid (by omega) hm) hY ?_ ?_
   ·intro D155 T156 w157 d158 k159 g160 B161 m162 n163
    have ap165 : Apart T156 (onB qf) := ap89.grew g160 (onB_live B129.lt)
    have ap166 : Apart T156 (onB ql) := ap90.grew g160 (onB_live B130.lt)
    have ap167 : Apart T156 (onB qb) := ap91.grew g160 (onB_live B131.lt)
    have ap168 : Apart T156 T67 := ap92.grew g160 B132.live
    have ap169 : Apart T156 (onB p1) := ap93.grew g160 (onB_live B133.lt)
    have B171 := B129.all k159 (ap89.symm qf rfl)
    have B172 := B130.all k159 (ap90.symm ql rfl)
    have B173 := B131.all k159 (ap91.symm qb rfl)
    have B175 := B133.all k159 (ap93.symm p1 rfl)
    have K177 := K134.trans k159 (Grew.ok (S := T_j) gr87 (fun _ x => x))
    have gr178 := Grew.trans gr87 K134 g160
    have B179 : Mks w157 (fun i => i = D155 ∨ T67 i) (D155 :: ms65) := B132.more k159 (ap92.symm) d158 m162
    have gr180 : Grew w0 noB (fun i => i = D155 ∨ T67 i) := fun i h => h.elim (fun e => .inr (by rw [e]; exact Nat.le_trans K134.size d158)) (fun h => gr88 i h)
    have ap181 : Apart (fun i => i = D155 ∨ T67 i) T156 := fun i h hq => h.elim (fun e => n163 (e ▸ hq)) (fun h => (ap168.symm) i h hq)
    have ap182 : Apart (fun i => i = D155 ∨ T67 i) (onB qf) := fun i h hq => h.elim (fun e => absurd ((onB_live B129.lt) i hq) (by rw [e]; exact Nat.not_lt.2 d158)) (fun h => ap94 i h hq)
    have ap183 : Apart (fun i => i = D155 ∨ T67 i) (onB ql) := fun i h hq => h.elim (fun e => absurd ((onB_live B130.lt) i hq) (by rw [e]; exact Nat.not_lt.2 d158)) (fun h => ap95 i h hq)
    have ap184 : Apart (fun i => i = D155 ∨ T67 i) (onB qb) := fun i h hq => h.elim (fun e => absurd ((onB_live B131.lt) i hq) (by rw [e]; exact Nat.not_lt.2 d158)) (fun h => ap96 i h hq)
    have ap185 : Apart (fun i => i = D155 ∨ T67 i) (onB p1) := fun i h hq => h.elim (fun e => absurd ((onB_live B133.lt) i hq) (by rw [e]; exact Nat.not_lt.2 d158)) (fun h => ap97 i h hq)
    have s187 : markV (D155 :: marksOf (F142 32)) = markV (D155 :: ms65) := by rw [show F142 32 = markV ms65 from s150, marksOf_markV]
    refine in_normal (then_normal (wq_region (wl_mv rfl rfl rfl s153 (wl_v (iv ((nxt b last a : Nat) : Int)) rfl rfl (y_asg rfl rfl rr) (wl_nil fun F188 hF189 => ?_)))))
    obtain ⟨s190, s191, s192, s193, s194, s195, s196⟩ := t7 hF189 0 s144 1 s145 2 s146 3 s147 4 s148 12 s149 32 s187
    have s197 : F188 5 = iv ((nxt b last a : Nat) : Int) := (hF189 5).trans rfl
    clear hF189
    refine in_normal ?_
    exact then_normal ⟨(last - (nxt b last a)), by omega, nxt b last a, o ++ stL a (nxt b last a), D155 :: ms65, T156, fun i => i = D155 ∨ T67 i, (nxt_mid (by omega) hm), (by omega), rfl, s190, s191, s192, s193, s194, s195, s196, s197, K177, B161, B171, B172, B173, B179, B175, gr178, gr180, ap165, ap166, ap167, ap181.symm, ap169, ap182, ap183, ap184, ap185⟩
   ·intro D198 T199 pre207 w200 d201 k202 g203 B204 m205 n206
    have ap211 : Apart T199 T67 := ap92.grew g203 B132.live
    have K220 := K134.trans k202 (Grew.ok (S := T_j) gr87 (fun _ x => x))
    have gr221 := Grew.trans gr87 K134 g203
    have B222 : Mks w200 (fun i => i = D198 ∨ T67 i) (D198 :: ms65) := B132.more k202 (ap92.symm) d201 m205
    have gr223 : Grew w0 noB (fun i => i = D198 ∨ T67 i) := fun i h => h.elim (fun e => .inr (by rw [e]; exact Nat.le_trans K134.size d201)) (fun h => gr88 i h)
    have ap224 : Apart (fun i => i = D198 ∨ T67 i) T199 := fun i h hq => h.elim (fun e => n206 (e ▸ hq)) (fun h => (ap211.symm) i h hq)
    have s230 : markV (D198 :: marksOf (F142 32)) = markV (D198 :: ms65) := by rw [show F142 32 = markV ms65 from s150, marksOf_markV]
    refine in_ret (then_ret (in_ret (then_ret (in_ret ?_))))
    obtain ⟨ho_, ks_⟩ := B222.shut
    have B231 := B204.all ks_ ap224.symm
    have B231_ := K220.trans ks_ (Grew.ok (S := T_j) gr223 noB_le)
    exact endm_none_ret (ms := D198 :: ms65) s230 ho_ rfl ⟨⟨_, rfl⟩, T199, B231_, gr221, Or.inr ⟨_, B231.1⟩⟩
  ·replace c109 := of_decide_eq_false c109
   refine wq_exit (then_exit (then_exit (in_here ?_)))
   obtain ⟨ho_, ks_⟩ := B85.shut
   have B232 := B81.all ks_ ap92
   have B232_ := K70.trans ks_ (Grew.ok (S := T_j) gr88 noB_le)
   exact endm_none (ms := ms65) s106 ho_ rfl ⟨⟨_, rfl⟩, T66, B232_, gr87, Or.inl (by rw [midL_no (by omega), List.append_nil] at hm; rw [← hm]; exact B232.1)⟩
 ·refine ⟨_, rfl, ?_⟩
  have B233 : Jth w28 T29 Jx (([]) ++ [⟨(f : Int), 0, -1, -1⟩]) := ⟨j32, sX⟩
  have ap237 : Apart T29 noB := ((show Apart noB T_j from fun _ h _ => h.elim).symm).grew g31 B18.live
  have B242 := B18.all k30 (fun i h x => ((show Apart noB T_j from fun _ h _ => h.elim) i h x))
  have K244 := K19.trans k30 (Grew.ok (S := T_j) (Grew.refl w0 T_j) (fun _ x => x))
  have gr245 := Grew.trans (Grew.refl w0 T_j) K19 g31
  refine wl_v (.bool true) rfl rfl (y_not rfl rfl rfl rr) (wl_nil fun F246 hF247 => ?_)
  have s252 := (hF247 32).trans s26
  have s254 : F246 12 = .bool true := (hF247 12).trans rfl
  clear hF247
  refine then_normal ?_
  refine wq_cond (t := true) s254 (fun _ => ?_) (fun e => by cases e)
  refine wq_ret (then_ret ?_)
  obtain ⟨ho_, ks_⟩ := B242.shut
  have B255 := B233.all ks_ ap237
  have B255_ := K244.trans ks_ (Grew.ok (S := T_j) (Grew.refl w0 noB) noB_le)
  exact endm_none_ret (ms := []) s252 ho_ rfl ⟨⟨_, rfl⟩, T29, B255_, gr245, Or.inr ⟨_, B255.1⟩⟩
theorem sqt_group {w : World} {f last b qf ql qb : Nat} (hl : last ≤ 300) (hb : b ≤ 3) (hf : f ≤ 300) (h1 : Cel w qf 3 (.int .i64 (f : Int))) (h2 : Cel w ql 3 (.int .i64 (last : Int))) (h3 : Cel w qb 3 (.int .i64 (b : Int))) : SqS w (fun i => (onB qf) i ∨ ((onB ql) i ∨ ((onB qb) i))) (.func (.func 27) #[] #[.pointer (some ⟨qf, 0, none⟩), .pointer (some ⟨ql, 0, none⟩), .pointer (some ⟨qb, 0, none⟩)]) (grL f last b) :=
  ⟨_, _, rfl, fun _ _ => by kernel_rfl, fun i hi => hi.elim (onB_live h1.lt i) (fun hi => hi.elim (onB_live h2.lt i) (onB_live h3.lt i)), fun S W k ha => gr_go f last b qf ql qb W hl hb hf (h1.all k (ha qf (.inl rfl))) (h2.all k (ha ql (.inr (.inl rfl)))) (h3.all k (ha qb (.inr (.inr rfl))))⟩
theorem od_group (f last b : Nat) (w0 : World) (hl : last ≤ 300) (hb : b ≤ 3) (hf : f ≤ 300) :
  Calls Try.prog 24 #[.int .i64 (((f : Nat) : Int)), .int .i64 (((last : Nat) : Int)), .int .i64 (((b : Nat) : Int))] w0 fun e w' => ∃ (v1 : Value) (T1 : Nat → Prop), e = .returned (v1) ∧ Kept (fun _ => False) w0 w' ∧ (SqS w' T1 v1 ((grL f last b)) ∧ Grew w0 noB T1) := by
 refine calls_wq (args := [iv ((f : Nat) : Int), iv ((last : Nat) : Int), iv ((b : Nat) : Int)]) 8 Try.func24 rfl rfl (Nat.le_of_ble_eq_true rfl) ?_
 have K0 := Kept.refl (fun _ => False) w0
 refine wq_seq (wq_region (wl_box_cel rfl rfl rfl rfl (by rfl) fun p1 w2 B5 g7 k3 => ?_))
 have gr8 : Grew w0 noB (onB p1) := Grew.new K0 g7
 have K9 := K0.tr k3
 refine wl_box_cel rfl rfl rfl rfl (by rfl) fun p10 w11 B14 g16 k12 => ?_
 have gr17 : Grew w0 noB (onB p10) := Grew.new K9 g16
 have B19 := B5.all k12 id
 have K20 := K9.tr k12
 refine wl_box_cel rfl rfl rfl rfl (by rfl) fun p21 w22 B25 g27 k23 => ?_
 have gr28 : Grew w0 noB (onB p21) := Grew.new K20 g27
 have B31 := B19.all k23 id
 have B32 := B14.all k23 id
 have K33 := K20.tr k23
 refine wl_v (Value.nilFunc) rfl rfl (y_asg rfl rfl rr) (wl_nil fun F34 hF35 => ?_)
 have s36 : F34 8 = undef := (hF35 8).trans rfl
 have s37 : F34 3 = pt p1 0 := (hF35 3).trans rfl
 have s38 : F34 4 = pt p10 0 := (hF35 4).trans rfl
 have s39 : F34 5 = pt p21 0 := (hF35 5).trans rfl
 clear hF35
 refine then_normal (wq_seq (wq_region (wl_v (.func (.func 27) #[] #[pt p1 0, pt p10 0, pt p21 0]) rfl rfl (y_fnc rfl (vsC s37 (vsC s38 (vsC s39 vsN))) rr) (wl_v (.func (.func 27) #[] #[pt p1 0, pt p10 0, pt p21 0]) rfl rfl (y_asg rfl rfl rr) (wl_nil fun F40 hF41 => ?_)))))
 have s42 := (hF41 8).trans s36
 have s43 : F40 6 = .func (.func 27) #[] #[pt p1 0, pt p10 0, pt p21 0] := (hF41 6).trans rfl
 clear hF41
 refine then_normal (wq_ret ?_)
 exact end_tmp (v := .func (.func 27) #[] #[pt p1 0, pt p10 0, pt p21 0]) s42 rfl rfl s43 ⟨(.func (.func 27) #[] #[pt p1 0, pt p10 0, pt p21 0]), (fun i => (onB p1) i ∨ ((onB p10) i ∨ ((onB p21) i))), rfl, K33, ⟨sqt_group hl hb hf B31 B32 B25, fun i h => h.elim (fun y => gr8 i y) (fun y => y.elim (fun y => gr17 i y) (fun y => gr28 i y))⟩⟩
theorem fi_go (n g b : Nat) (Q : Int) (qn qp : Nat) (w0 : World) (hn : n ≤ 200) (hg : 0 < g) (hg2 : g ≤ 16) (hb : b ≤ 3) (h_qn : Cel w0 qn 3 (.int .i64 (((n : Nat) : Int)))) (h_qp : Stc w0 qp 23 [.int .i64 (((g : Nat) : Int)), .int .i64 (((b : Nat) : Int)), .int .i64 (Q)]) : SeqT Try.prog 23 #[.pointer (some ⟨qn, 0, none⟩), .pointer (some ⟨qp, 0, none⟩)] (fun x : Sl => .agg (slV x).toArray) (outL n g b 0) w0 (fun i => (onB qn) i ∨ ((onB qp) i)) := by
 intro l J Jx T_j sJ sX h0 hap hY
 have h_j : Jth w0 T_j J [] := ⟨h0, sJ⟩
 have ap_qn : Apart T_j (onB qn) := fun i h e => hap i h (Or.inl e)
 have ap_qp : Apart T_j (onB qp) := fun i h e => hap i h (Or.inr e)
 refine calls_wm (args := [.func (.yield l) #[] #[], pt qn 0, pt qp 0]) 31 Try.func23 rfl rfl (Nat.le_of_ble_eq_true rfl) ?_
 have K0 := Kept.refl T_j w0
 have h_ms := Mks.nil w0
 refine wq_seq (wq_region (wl_box_fn rfl rfl rfl rfl fun p1 w2 B5 g7 k3 => ?_))
 have ap9 : Apart (onB p1) T_j := Apart.new g7 h_j.live
 have ap12 : Apart (onB p1) noB := Apart.new g7 h_ms.live
 have B13 := h_j.all k3 Apart.none
 have B14 := h_qn.all k3 id
 have B15 := h_qp.all k3 id
 have B16 := h_ms.all k3 Apart.none
 have K17 := K0.tr k3
 refine wl_nil fun F18 hF19 => ?_
 have s20 : F18 0 = .func (.yield l) #[] #[] := (hF19 0).trans rfl
 have s21 : F18 1 = pt qn 0 := (hF19 1).trans rfl
 have s22 : F18 2 = pt qp 0 := (hF19 2).trans rfl
 have s23 : F18 31 = markV [] := (hF19 31).trans rfl
 have s24 : F18 3 = pt p1 0 := (hF19 3).trans rfl
 clear hF19
 refine then_normal (wq_seq (wq_region (wl_v (iv 0) rfl rfl (y_asg rfl rfl rr) (wl_nil fun F25 hF26 => ?_))))
 obtain ⟨s27, s28, s29, s30, s31⟩ := t5 hF26 0 s20 1 s21 2 s22 31 s23 3 s24
 have s32 : F25 4 = iv 0 := (hF26 4).trans rfl
 clear hF26
 refine then_normal (wq_block (wq_loop (fun nn FF ww => ∃ (f : Nat), ∃ (o : List Sl), ∃ (ms33 : List Nat), ∃ (T34 : Nat → Prop), ∃ (T35 : Nat → Prop), (o ++ outL n g b f = outL n g b 0) ∧ (f ≤ 300) ∧ nn = n - f ∧ FF 0 = .func (.yield l) #[] #[] ∧ FF 1 = pt qn 0 ∧ FF 2 = pt qp 0 ∧ FF 3 = pt p1 0 ∧ FF 31 = markV ms33 ∧ FF 4 = iv ((f : Nat) : Int) ∧ Kept T_j w0 ww ∧ Jth ww T34 J o ∧ Cel ww qn 3 (iv ((n : Nat) : Int)) ∧ Stc ww qp 23 [iv ((g : Nat) : Int), iv ((b : Nat) : Int), iv Q] ∧ Mks ww T35 ms33 ∧ Cel ww p1 54 (.func (.yield l) #[] #[]) ∧ Grew w0 T_j T34 ∧ Grew w0 noB T35 ∧ Apart T34 (onB qn) ∧ Apart T34 (onB qp) ∧ Apart T34 T35 ∧ Apart T34 (onB p1) ∧ Apart T35 (onB qn) ∧ Apart T35 (onB qp) ∧ Apart T35 (onB p1)) (n - 0) ⟨0, [], [], T_j, noB, rfl, by omega, rfl, s27, s28, s29, s31, s30, s32, K17, B13, B14, B15, B16, B5, (Grew.refl w0 T_j), (Grew.refl w0 noB), ap_qn, ap_qp, (show Apart noB T_j from fun _ h _ => h.elim).symm, ap9.symm, (show Apart noB (onB qn) from fun _ h _ => h.elim), (show Apart noB (onB qp) from fun _ h _ => h.elim), ap12.symm⟩ ?_))
 rintro n39 F36 w37 ⟨f, o, ms33, T34, T35, ho, i40, hn39, s41, s42, s43, s44, s45, s46, K38, B47, B48, B49, B50, B51, gr52, gr53, ap54, ap55, ap56, ap57, ap58, ap59, ap60⟩
 refine wq_seq (wq_seq (wq_region (wl_mv rfl rfl rfl s46 (wl_v (iv ((n : Nat) : Int)) rfl rfl (y_load_cel rfl s42 Try.underlying3 B48 rfl rr) (wl_v (.bool (decide (((f : Nat) : Int) < ((n : Nat) : Int)))) rfl rfl (y_lss rfl rfl rfl rfl rr) (wl_nil fun F61 hF62 => ?_))))))
 obtain ⟨s63, s64, s65, s66, s67, s68⟩ := t6 hF62 0 s41 1 s42 2 s43 3 s44 31 s45 4 s46
 have s69 : F61 9 = .bool (decide (((f : Nat) : Int) < ((n : Nat) : Int))) := (hF62 9).trans rfl
 clear hF62
 refine then_normal ?_
 refine wq_cond s69 (fun c70 => ?_) (fun c70 => ?_)
 ·replace c70 := of_decide_eq_true c70
  refine wq_skip (then_normal (wq_seq (wq_block (wq_seq (wq_region (wl_mv rfl rfl rfl s68 (wl_v (pt qp 0) rfl rfl (y_fieldR (n := 1) rfl s65 Try.underlying23 rfl (by kernel_rfl) (by decide) rfl rr) (wl_v (iv ((g : Nat) : Int)) rfl rfl (y_ld_stc rfl rfl Try.underlying3 B49 rfl rfl rr) (wl_v (iv ((f + g : Nat) : Int)) rfl rfl (y_add rfl rfl rfl (i64_n (by omega) (by omega)) rr) (wl_v (iv ((n : Nat) : Int)) rfl rfl (y_load_cel rfl s64 Try.underlying3 B48 rfl rr) (wl_v (iv (min ((f + g : Nat) : Int) ((n : Nat) : Int))) rfl rfl (y_minR rfl rfl rfl rfl rr) ?_)))))))))))
  refine wl_v (iv ((min (f + g) n - 1 : Nat) : Int)) rfl rfl (y_sub rfl rfl rfl (i64_n (by omega) (by omega)) rr) (wl_v (iv ((min (f + g) n - 1 : Nat) : Int)) rfl rfl (y_asg rfl rfl rr) (wl_nil fun F71 hF72 => ?_))
  obtain ⟨s73, s74, s75, s76, s77, s78⟩ := t6 hF72 0 s63 1 s64 2 s65 3 s66 31 s67 4 s68
  have s80 : F71 5 = iv ((min (f + g) n - 1 : Nat) : Int) := (hF72 5).trans rfl
  clear hF72
  refine then_normal (wq_seq (wq_region (wl_mv rfl rfl rfl s78 (wl_mv rfl rfl rfl s80 (wl_v (pt qp 1) rfl rfl (y_fieldR (n := 1) rfl s75 Try.underlying23 rfl (by kernel_rfl) (by decide) rfl rr) (wl_v (iv ((b : Nat) : Int)) rfl rfl (y_ld_stc rfl rfl Try.underlying3 B49 rfl rfl rr) (wl_call (R := fun v_ w_ => ∃ (v81 : Value) (T84 : Nat → Prop), v81 = v_ ∧ Kept (fun _ => False) w37 w_ ∧ (SqS w_ T84 v81 (grL f (min (f + g) n - 1) b) ∧ Grew w37 noB T84)) rfl rfl (y_cs rfl rfl rfl (fun _ _ => by kernel_rfl) (ev_func _) (vsC rfl (vsC rfl (vsC rfl vsN))) (od_group f (min (f + g) n - 1) b  _ (by omega) (by omega) (by omega)  ) (fun e_ w_ h_ => by obtain ⟨v81_, T84_, he_, hr_⟩ := h_; exact ⟨_, he_, v81_, T84_, rfl, hr_⟩)) ?_)))))))
  rintro _ w82 ⟨v81, T84, rfl, k83, ⟨B85, g86⟩⟩
  have B87 := B47.all k83 Apart.none
  have B88 := B48.all k83 id
  have B89 := B49.all k83 id
  have B90 := B50.all k83 Apart.none
  have B91 := B51.all k83 id
  have K92 := K38.tr k83
  have ap94 : Apart T84 T34 := Apart.new g86 B47.live
  have ap98 : Apart T84 (onB p1) := Apart.new g86 (onB_live B51.lt)
  refine wl_nil fun F99 hF100 => ?_
  obtain ⟨s101, s102, s103, s104, s105, s106⟩ := t6 hF100 0 s73 1 s74 2 s75 3 s76 31 s77 4 s78
  have s109 : F99 25 = v81 := (hF100 25).trans rfl
  clear hF100
  refine then_normal (wq_block ?_)
  refine wq_fwd (us := slV) (zs := [iv 0, iv 0, iv 0, iv 0]) (n := 4) (o := o) (xs := grL f (min (f + g) n - 1) b) (all := outL n g b 0) (J := J) (Jx := Jx) (fun _ => stcT_slot) slV_one (by kernel_rfl) (fun _ => rfl) ⟨rfl, rfl, rfl⟩ ⟨rfl, rfl, rfl⟩ ⟨rfl, rfl, rfl⟩ ⟨rfl, rfl, rfl⟩ ⟨rfl, rfl, rfl⟩ ⟨rfl, rfl⟩ ⟨rfl, rfl, rfl⟩ (by decide) (by decide) Try.underlying54 rfl s109 B85 s104 B91 B87 sX ap94.symm ap57 ap98.symm (pre_out (by omega) hg ho) hY ?_ ?_
  ·intro D110 T111 w112 d113 k114 g115 B116 m117 n118
   have ap120 : Apart T111 (onB qn) := ap54.grew g115 (onB_live B88.lt)
   have ap121 : Apart T111 (onB qp) := ap55.grew g115 (onB_live B89.lt)
   have ap122 : Apart T111 T35 := ap56.grew g115 B90.live
   have ap123 : Apart T111 (onB p1) := ap57.grew g115 (onB_live B91.lt)
   have B125 := B88.all k114 (ap54.symm qn rfl)
   have B126 := B89.all k114 (ap55.symm qp rfl)
   have B128 := B91.all k114 (ap57.symm p1 rfl)
   have K130 := K92.trans k114 (Grew.ok (S := T_j) gr52 (fun _ x => x))
   have gr131 := Grew.trans gr52 K92 g115
   have B132 : Mks w112 (fun i => i = D110 ∨ T35 i) (D110 :: ms33) := B90.more k114 (ap56.symm) d113 m117
   have gr133 : Grew w0 noB (fun i => i = D110 ∨ T35 i) := fun i h => h.elim (fun e => .inr (by rw [e]; exact Nat.le_trans K92.size d113)) (fun h => gr53 i h)
   have ap134 : Apart (fun i => i = D110 ∨ T35 i) T111 := fun i h hq => h.elim (fun e => n118 (e ▸ hq)) (fun h => (ap122.symm) i h hq)
   have ap135 : Apart (fun i => i = D110 ∨ T35 i) (onB qn) := fun i h hq => h.elim (fun e => absurd ((onB_live B88.lt) i hq) (by rw [e]; exact Nat.not_lt.2 d113)) (fun h => ap58 i h hq)
   have ap136 : Apart (fun i => i = D110 ∨ T35 i) (onB qp) := fun i h hq => h.elim (fun e => absurd ((onB_live B89.lt) i hq) (by rw [e]; exact Nat.not_lt.2 d113)) (fun h => ap59 i h hq)
   have ap137 : Apart (fun i => i = D110 ∨ T35 i) (onB p1) := fun i h hq => h.elim (fun e => absurd ((onB_live B91.lt) i hq) (by rw [e]; exact Nat.not_lt.2 d113)) (fun h => ap60 i h hq)
   have s139 : markV (D110 :: marksOf (F99 31)) = markV (D110 :: ms33) := by rw [show F99 31 = markV ms33 from s105, marksOf_markV]
   refine in_normal (in_normal (then_normal (wq_region (wl_mv rfl rfl rfl s106 (wl_v (pt qp 0) rfl rfl (y_fieldR (n := 1) rfl s103 Try.underlying23 rfl (by kernel_rfl) (by decide) rfl rr) (wl_v (iv ((g : Nat) : Int)) rfl rfl (y_ld_stc rfl rfl Try.underlying3 B126 rfl rfl rr) (wl_v (iv ((f + g : Nat) : Int)) rfl rfl (y_add rfl rfl rfl (i64_n (by omega) (by omega)) rr) (wl_v (iv ((f + g : Nat) : Int)) rfl rfl (y_asg rfl rfl rr) (wl_nil fun F140 hF141 => ?_)))))))))
   obtain ⟨s142, s143, s144, s145, s146⟩ := t5 hF141 0 s101 1 s102 2 s103 3 s104 31 s139
   have s147 : F140 4 = iv ((f + g : Nat) : Int) := (hF141 4).trans rfl
   clear hF141
   exact then_normal ⟨(n - (f + g)), by omega, f + g, o ++ grL f (min (f + g) n - 1) b, D110 :: ms33, T111, fun i => i = D110 ∨ T35 i, (nxt_out (by omega) hg ho), by omega, rfl, s142, s143, s144, s145, s146, s147, K130, B116, B125, B126, B132, B128, gr131, gr133, ap120, ap121, ap134.symm, ap123, ap135, ap136, ap137⟩
  ·intro D148 T149 pre157 w150 d151 k152 g153 B154 m155 n156
   have ap160 : Apart T149 T35 := ap56.grew g153 B90.live
   have K168 := K92.trans k152 (Grew.ok (S := T_j) gr52 (fun _ x => x))
   have gr169 := Grew.trans gr52 K92 g153
   have B170 : Mks w150 (fun i => i = D148 ∨ T35 i) (D148 :: ms33) := B90.more k152 (ap56.symm) d151 m155
   have gr171 : Grew w0 noB (fun i => i = D148 ∨ T35 i) := fun i h => h.elim (fun e => .inr (by rw [e]; exact Nat.le_trans K92.size d151)) (fun h => gr53 i h)
   have ap172 : Apart (fun i => i = D148 ∨ T35 i) T149 := fun i h hq => h.elim (fun e => n156 (e ▸ hq)) (fun h => (ap160.symm) i h hq)
   have s177 : markV (D148 :: marksOf (F99 31)) = markV (D148 :: ms33) := by rw [show F99 31 = markV ms33 from s105, marksOf_markV]
   refine in_ret (in_ret (then_ret (then_ret (in_ret ?_))))
   obtain ⟨ho_, ks_⟩ := B170.shut
   have B178 := B154.all ks_ ap172.symm
   have B178_ := K168.trans ks_ (Grew.ok (S := T_j) gr171 noB_le)
   exact endm_none_ret (ms := D148 :: ms33) s177 ho_ rfl ⟨⟨_, rfl⟩, T149, B178_, gr169, Or.inr ⟨_, B178.1⟩⟩
 ·replace c70 := of_decide_eq_false c70
  refine wq_exit (then_exit (then_exit (in_here ?_)))
  obtain ⟨ho_, ks_⟩ := B50.shut
  have B179 := B47.all ks_ ap56
  have B179_ := K38.trans ks_ (Grew.ok (S := T_j) gr53 noB_le)
  exact endm_none (ms := ms33) s67 ho_ rfl ⟨⟨_, rfl⟩, T34, B179_, gr52, Or.inl (by rw [outL_no (by omega), List.append_nil] at ho; rw [← ho]; exact B179.1)⟩
theorem sqt_film {w : World} {n g b qn qp : Nat} {Q : Int} (hn : n ≤ 200) (hg : 0 < g) (hg2 : g ≤ 16) (hb : b ≤ 3) (h1 : Cel w qn 3 (.int .i64 (n : Int))) (h2 : Stc w qp 23 [.int .i64 (g : Int), .int .i64 (b : Int), .int .i64 Q]) : SqS w (fun i => (onB qn) i ∨ (onB qp) i) (.func (.func 23) #[] #[.pointer (some ⟨qn, 0, none⟩), .pointer (some ⟨qp, 0, none⟩)]) (outL n g b 0) :=
  ⟨_, _, rfl, fun _ _ => by kernel_rfl, fun i hi => hi.elim (onB_live h1.lt i) (onB_live h2.lt i), fun S W k ha => fi_go n g b Q qn qp W hn hg hg2 hb (h1.all k (ha qn (.inl rfl))) (h2.all k (ha qp (.inr rfl)))⟩
theorem sqt_filmI {w : World} {n G B Q : Int} {qn qp : Nat} (hn : 1 ≤ n ∧ n ≤ 200) (hg : 1 ≤ G ∧ G ≤ 16) (hb : 0 ≤ B ∧ B ≤ 3) (h1 : Cel w qn 3 (.int .i64 n)) (h2 : Stc w qp 23 [.int .i64 G, .int .i64 B, .int .i64 Q]) : SqS w (fun i => (onB qn) i ∨ (onB qp) i) (.func (.func 23) #[] #[.pointer (some ⟨qn, 0, none⟩), .pointer (some ⟨qp, 0, none⟩)]) (outL n.toNat G.toNat B.toNat 0) := by
  obtain ⟨n, rfl⟩ : ∃ k : Nat, n = (k : Int) := ⟨n.toNat, by omega⟩
  obtain ⟨g, rfl⟩ : ∃ k : Nat, G = (k : Int) := ⟨G.toNat, by omega⟩
  obtain ⟨b, rfl⟩ : ∃ k : Nat, B = (k : Int) := ⟨B.toNat, by omega⟩
  rw [Int.toNat_natCast, Int.toNat_natCast, Int.toNat_natCast]
  exact sqt_film (by omega) (by omega) (by omega) (by omega) h1 h2
theorem od_film (n G B Q : Int) (w0 : World) (hn : 1 ≤ n ∧ n ≤ 200) (hg : 1 ≤ G ∧ G ≤ 16) (hb : 0 ≤ B ∧ B ≤ 3) :
  Calls Try.prog 18 #[.int .i64 (n), .agg #[.int .i64 (G), .int .i64 (B), .int .i64 (Q)]] w0 fun e w' => ∃ (v1 : Value) (T1 : Nat → Prop), e = .returned (v1) ∧ Kept (fun _ => False) w0 w' ∧ (SqS w' T1 v1 ((outL n.toNat G.toNat B.toNat 0)) ∧ Grew w0 noB T1) := by
 refine calls_wq (args := [iv n, .agg #[iv G, iv B, iv Q]]) 6 Try.func18 rfl rfl (Nat.le_of_ble_eq_true rfl) ?_
 have K0 := Kept.refl (fun _ => False) w0
 refine wq_seq (wq_region (wl_box_cel rfl rfl rfl rfl (by rfl) fun p1 w2 B5 g7 k3 => ?_))
 have gr8 : Grew w0 noB (onB p1) := Grew.new K0 g7
 have K9 := K0.tr k3
 refine wl_box_stc (vs := [iv G, iv B, iv Q]) rfl rfl rfl rfl fun p10 w11 B13 g14 k12 => ?_
 have gr15 : Grew w0 noB (onB p10) := Grew.new K9 g14
 have B17 := B5.all k12 id
 have K18 := K9.tr k12
 refine wl_v (Value.nilFunc) rfl rfl (y_asg rfl rfl rr) (wl_nil fun F19 hF20 => ?_)
 have s21 : F19 6 = undef := (hF20 6).trans rfl
 have s22 : F19 2 = pt p1 0 := (hF20 2).trans rfl
 have s23 : F19 3 = pt p10 0 := (hF20 3).trans rfl
 clear hF20
 refine then_normal (wq_seq (wq_region (wl_v (.func (.func 23) #[] #[pt p1 0, pt p10 0]) rfl rfl (y_fnc rfl (vsC s22 (vsC s23 vsN)) rr) (wl_v (.func (.func 23) #[] #[pt p1 0, pt p10 0]) rfl rfl (y_asg rfl rfl rr) (wl_nil fun F24 hF25 => ?_)))))
 have s26 := (hF25 6).trans s21
 have s27 : F24 4 = .func (.func 23) #[] #[pt p1 0, pt p10 0] := (hF25 4).trans rfl
 clear hF25
 refine then_normal (wq_ret ?_)
 exact end_tmp (v := .func (.func 23) #[] #[pt p1 0, pt p10 0]) s26 rfl rfl s27 ⟨(.func (.func 23) #[] #[pt p1 0, pt p10 0]), (fun i => (onB p1) i ∨ ((onB p10) i)), rfl, K18, ⟨sqt_filmI hn hg hb B17 B13, fun i h => h.elim (fun y => gr8 i y) (fun y => gr15 i y)⟩⟩
end Go.Proofs.Ythoafgfcoclkbaa
set_option maxRecDepth 100000
namespace Go.Proofs.Ythoafgfcoclkbaa
open Go.RowKit
theorem rSl_all (x : Sl) : OneAll (rSl.enc x) := slV_one x
theorem od_slots (N G B Q : Int) (w0 : World) :
  Calls Try.prog 9 #[.int .i64 (N), .agg #[.int .i64 (G), .int .i64 (B), .int .i64 (Q)]] w0 fun e w' => ∃ (v1 : Value) (T1 : Nat → Prop), e = .returned (.tuple #[v1, .int .i64 (slE N G B Q)]) ∧ Kept (fun _ => False) w0 w' ∧ (RoO rSl w' T1 v1 ((slL N G B Q)) ∧ Grew w0 noB T1) := by
 refine calls_wm (args := [iv N, .agg #[iv G, iv B, iv Q]]) 28 Try.func9 rfl rfl (Nat.le_of_ble_eq_true rfl) ?_
 have K0 := Kept.refl (fun _ => False) w0
 refine wq_seq (wq_region (wl_box_stc (vs := [iv G, iv B, iv Q]) rfl rfl rfl rfl fun p1 w2 B4 g5 k3 => ?_))
 have K7 := K0.tr k3
 refine wl_v (.slice none 0 0) rfl rfl (y_asg rfl rfl rr) (wl_v (iv 0) rfl rfl (y_asg rfl rfl rr) (wl_nil fun F8 hF9 => ?_))
 have s10 : F8 0 = iv N := (hF9 0).trans rfl
 have s12 : F8 28 = undef := (hF9 28).trans rfl
 have s13 : F8 3 = pt p1 0 := (hF9 3).trans rfl
 clear hF9
 refine then_normal (wq_seq (wq_seq (wq_region (wl_v (.agg #[iv G, iv B, iv Q]) rfl rfl (y_load_stc stcT_plan rfl s13 B4 rr) (wl_cs rfl rfl rfl rfl rfl (fun _ _ => by kernel_rfl) (vsC rfl vsN) (od_check G B Q  _   ) fun w16 k17 => ?_)))))
 have B18 := B4.all k17 id
 have K19 := K7.tr k17
 refine wl_v (iv (planE G B Q)) rfl rfl (y_asg rfl rfl rr) (wl_nil fun F20 hF21 => ?_)
 obtain ⟨s22, s24, s25⟩ := t3 hF21 0 s10 28 s12 3 s13
 have s28 : F20 6 = iv (planE G B Q) := (hF21 6).trans rfl
 clear hF21
 refine then_normal (wq_seq (wq_region (wl_mv rfl rfl rfl s28 (wl_v (.bool (decide ((planE G B Q) ≠ 0))) rfl rfl (y_neqI rfl rfl rfl rfl rr) (wl_nil fun F29 hF30 => ?_)))))
 obtain ⟨s31, s33, s34, s37⟩ := t4 hF30 0 s22 28 s24 3 s25 6 s28
 have s38 : F29 12 = .bool (decide ((planE G B Q) ≠ 0)) := (hF30 12).trans rfl
 clear hF30
 refine then_normal ?_
 refine wq_cond s38 (fun c39 => ?_) (fun c39 => ?_)
 ·replace c39 := of_decide_eq_true c39
  refine wq_seq ?_
  have hno : ¬ slOk N G B Q := fun z => by have z1 := planE_iff.2 z.1; omega
  have hR := And.intro (slL_no hno) (slE_no hno)
  have he : planE G B Q = 150 := by by_cases z : planOk G B Q; (exact absurd (planE_iff.2 z) (by assumption)); exact if_neg z
  refine wq_region (wl_mv rfl rfl rfl s37 (wl_v (.slice none 0 0) rfl rfl (y_asg rfl rfl rr) (wl_v (iv (planE G B Q)) rfl rfl (y_asg rfl rfl rr) (wl_nil fun F40 hF41 => ?_))))
  have s42 := (hF41 28).trans s33
  have s43 : F40 4 = .slice none 0 0 := (hF41 4).trans rfl
  have s44 : F40 5 = iv (planE G B Q) := (hF41 5).trans rfl
  clear hF41
  refine then_normal (wq_ret (then_ret ?_))
  exact endm_2 (ms := []) (Eq.trans s42 (rfl : undef = markV [])) trivial rfl (res_tmp (v := .slice none 0 0) rfl s43) (res_tmp (v := iv (planE G B Q)) rfl s44) ⟨(.slice none 0 0), noB, (by first | rw [hR.2, he] | rw [hR.2]), K19, ⟨(by rw [hR.1]; exact (RoO.nil rSl _)), (Grew.refl _ _)⟩⟩
 ·replace c39 := of_decide_eq_false c39
  refine wq_skip (then_normal (wq_seq (wq_seq ?_)))
  have hpl := planE_iff.1 (by first | assumption | (apply Decidable.byContradiction; assumption))
  have hpk := hpl
  unfold planOk at hpk
  by_cases d45 : 1 ≤ N ∧ N ≤ 200
  ·skip
   refine wq_region (wl_mv rfl rfl rfl s31 (wl_call (R := fun v_ w_ => v_ = .bool true ∧ Kept (fun _ => False) w16 w_) rfl rfl (y_cs rfl rfl rfl (fun _ _ => by kernel_rfl) (ev_func _) (vsC rfl (vsC rfl (vsC rfl vsN))) (od_within N 1 200  _   ) (fun e_ w_ h_ => ⟨_, h_.1, (congrArg Value.bool (decide_eq_true d45)), h_.2⟩)) ?_))
   rintro _ w46 ⟨rfl, k47⟩
   have B48 := B18.all k47 id
   have K49 := K19.tr k47
   refine wl_v (.bool false) rfl rfl (y_not rfl rfl rfl rr) (wl_nil fun F50 hF51 => ?_)
   obtain ⟨s52, s54, s55⟩ := t3 hF51 0 s31 28 s33 3 s34
   have s60 : F50 16 = .bool false := (hF51 16).trans rfl
   clear hF51
   refine then_normal ?_
   refine wq_cond (t := false) s60 (fun e => by cases e) (fun _ => ?_)
   refine wq_skip (then_normal (wq_seq ?_))
   have hok : slOk N G B Q := ⟨hpl, by omega⟩
   have hnk := hok.2
   have hR := And.intro (slL_yes hok) (slE_yes hok)
   have hln := outL_len N.toNat G.toNat B.toNat (by omega) _ 0 rfl
   refine wq_region (wl_mv rfl rfl rfl s52 ?_)
   refine wl_op rfl rfl (y_makeRo0 (r := rSl) (c := N.toNat) rfl rfl rfl (by omega) (by omega) (by omega) fun v61 w62 T66 B64 g65 k63 => ?_)
   have gr67 : Grew w0 noB T66 := Grew.new K49 g65
   have B69 := B48.all k63 id
   have K70 := K49.tr k63
   refine wl_alloc_cel (v := .slice none 0 0) rfl rfl rfl (by kernel_rfl) rfl fun p71 w72 B75 g77 k73 => ?_
   have gr78 : Grew w0 noB (onB p71) := Grew.new K70 g77
   have ap79 : Apart (onB p71) (onB p1) := Apart.new g77 (onB_live B69.lt)
   have ap80 : Apart (onB p71) T66 := Apart.new g77 B64.live
   have B81 := B69.all k73 id
   have B82 := B64.all k73 Apart.none
   have K83 := K70.tr k73
   refine wl_store_cel rfl rfl rfl rfl rfl B75 B82.oneC (by kernel_rfl) fun w84 B85 k86 => ?_
   have B87 := B81.all k86 (ap79.symm p1 rfl)
   have B88 := B82.all k86 ap80.symm
   have K89 := K83.trans k86 (Grew.ok (S := fun _ => False) gr78 noB_le)
   refine wl_nil fun F90 hF91 => ?_
   obtain ⟨s92, s94, s95⟩ := t3 hF91 0 s52 28 s54 3 s55
   have s101 : F90 7 = pt p71 0 := (hF91 7).trans rfl
   clear hF91
   refine then_normal (wq_seq (wq_seq (wq_region (wl_mv rfl rfl rfl s92 (wl_v (.agg #[iv G, iv B, iv Q]) rfl rfl (y_load_stc stcT_plan rfl s95 B87 rr) (wl_call (R := fun v_ w_ => ∃ (v102 : Value) (T105 : Nat → Prop), v102 = v_ ∧ Kept (fun _ => False) w84 w_ ∧ (SqS w_ T105 v102 (outL N.toNat G.toNat B.toNat 0) ∧ Grew w84 noB T105)) rfl rfl (y_cs rfl rfl rfl (fun _ _ => by kernel_rfl) (ev_func _) (vsC rfl (vsC rfl vsN)) (od_film N G B Q  _ (by omega) (by omega) (by omega)  ) (fun e_ w_ h_ => by obtain ⟨v102_, T105_, he_, hr_⟩ := h_; exact ⟨_, he_, v102_, T105_, rfl, hr_⟩)) ?_))))))
   rintro _ w103 ⟨v102, T105, rfl, k104, ⟨B106, g107⟩⟩
   have B109 := B88.all k104 Apart.none
   have B110 := B85.all k104 id
   have K111 := K89.tr k104
   have ap114 : Apart T105 T66 := Apart.new g107 B88.live
   have ap115 : Apart T105 (onB p71) := Apart.new g107 (onB_live B85.lt)
   refine wl_nil fun F116 hF117 => ?_
   obtain ⟨s120, s127⟩ := t2 hF117 28 s94 7 s101
   have s128 : F116 21 = v102 := (hF117 21).trans rfl
   clear hF117
   refine then_normal (wq_block (wq_coll (r := rSl) (zs := [iv 0, iv 0, iv 0, iv 0]) (n := 4) (o := []) (xs := outL N.toNat G.toNat B.toNat 0) (fun _ => stcT_slot) (fun x => rSl_all x) (by kernel_rfl) (fun _ => rfl) ⟨rfl, rfl, rfl⟩ ⟨rfl, rfl, rfl⟩ ⟨rfl, rfl, rfl⟩ ⟨rfl, rfl, rfl⟩ ⟨rfl, rfl, rfl⟩ ⟨rfl, rfl, rfl⟩ ⟨rfl, rfl, rfl⟩ (by kernel_rfl) (by decide) (by decide) (by decide) s128 B106 s127 B110 B109 ap80 ap114.symm ap115.symm (by rw [hln]; simp; omega) ?_))
   intro D129 v130 T131 w132 d133 k134 g135 B136 B137 ap138 m139 n140
   have K145 := K111.trans k134 (fun i hi x => (x.elim (fun y => ((Grew.ok (S := fun _ => False) gr78 noB_le) i hi y)) (fun y => ((Grew.ok (S := fun _ => False) gr67 noB_le) i hi y))))
   have gr146 := Grew.trans gr67 K111 g135
   have gr147 : Grew w0 noB (onB D129) := onB_new (Nat.le_trans K111.size d133)
   have ap151 : Apart (onB D129) T131 := fun i e h => n140 (e ▸ h)
   have s152 : markV (D129 :: marksOf (F116 28)) = markV [D129] := congrArg (fun z => markV (D129 :: marksOf z)) s120
   refine in_normal (then_normal (wq_seq (wq_region (wl_v v130 rfl rfl (y_load_cel rfl s127 Try.underlying26 B136 rfl rr) (wl_v v130 rfl rfl (y_asg rfl rfl rr) (wl_v (iv 0) rfl rfl (y_asg rfl rfl rr) (wl_nil fun F153 hF154 => ?_)))))))
   have s155 := (hF154 28).trans s152
   have s156 : F153 4 = v130 := (hF154 4).trans rfl
   have s157 : F153 5 = iv 0 := (hF154 5).trans rfl
   clear hF154
   refine then_normal (wq_ret ?_)
   have k158 := kept_shut w132 D129
   have B163 := B137.all k158 ap151.symm
   have K159 := K145.trans k158 (Grew.ok (S := fun _ => False) gr147 noB_le)
   exact endm_2 (ms := [D129]) s155 m139.opens rfl (res_tmp (v := v130) rfl s156) (res_tmp (v := iv 0) rfl s157) ⟨v130, T131, (by first | rw [hR.2, he] | rw [hR.2]), K159, ⟨(by rw [hR.1]; exact B163), gr146⟩⟩
  ·skip
   refine wq_region (wl_mv rfl rfl rfl s31 (wl_call (R := fun v_ w_ => v_ = .bool false ∧ Kept (fun _ => False) w16 w_) rfl rfl (y_cs rfl rfl rfl (fun _ _ => by kernel_rfl) (ev_func _) (vsC rfl (vsC rfl (vsC rfl vsN))) (od_within N 1 200  _   ) (fun e_ w_ h_ => ⟨_, h_.1, (congrArg Value.bool (decide_eq_false d45)), h_.2⟩)) ?_))
   rintro _ w164 ⟨rfl, k165⟩
   have K167 := K19.tr k165
   refine wl_v (.bool true) rfl rfl (y_not rfl rfl rfl rr) (wl_nil fun F168 hF169 => ?_)
   have s172 := (hF169 28).trans s33
   have s178 : F168 16 = .bool true := (hF169 16).trans rfl
   clear hF169
   refine then_normal ?_
   refine wq_cond (t := true) s178 (fun _ => ?_) (fun e => by cases e)
   refine wq_seq ?_
   have hno : ¬ slOk N G B Q := fun z => by have z2 := z.2; omega
   have hR := And.intro (slL_no hno) (slE_no hno)
   refine wq_region (wl_v (.slice none 0 0) rfl rfl (y_asg rfl rfl rr) (wl_v (iv 150) rfl rfl (y_asg rfl rfl rr) (wl_nil fun F179 hF180 => ?_)))
   have s181 := (hF180 28).trans s172
   have s182 : F179 4 = .slice none 0 0 := (hF180 4).trans rfl
   have s183 : F179 5 = iv 150 := (hF180 5).trans rfl
   clear hF180
   refine then_normal (wq_ret (then_ret ?_))
   exact endm_2 (ms := []) (Eq.trans s181 (rfl : undef = markV [])) trivial rfl (res_tmp (v := .slice none 0 0) rfl s182) (res_tmp (v := iv 150) rfl s183) ⟨(.slice none 0 0), noB, (by first | rw [hR.2, he] | rw [hR.2]), K167, ⟨(by rw [hR.1]; exact (RoO.nil rSl _)), (Grew.refl _ _)⟩⟩
end Go.Proofs.Ythoafgfcoclkbaa
