/- The walk of the law that blocks are read as they were written. -/
import Derived.Test.YtipimcnjcpckeaaDoorSLaw2
import Derived.Test.YtipimcnjcpckeaaDoorSm16
import Derived.Lib.Hide
namespace Go.Proofs.YtipimcnjcpckeaaDoor
open Go.RowKit

/-- The bits of the first blocks. -/
def allBits (ms : List (Nat → Int)) : Nat → List Bool
  | 0 => []
  | k + 1 => allBits ms k ++ scanBits (ms.getD k fun _ => 0)
theorem allBits_short (ms : List (Nat → Int)) (k : Nat) : Short (k * 2079) (allBits ms k) := by
  induction k with
  | zero => exact Nat.le_refl _
  | succ k ih => rw [Nat.succ_mul]; exact ih.scan _
theorem allBits_room (ms : List (Nat → Int)) (k : Nat) (h : k ≤ 30) : (allBits ms k).length + 4096 < 1099511627776 := by
  have h1 : (allBits ms k).length ≤ k * 2079 := allBits_short ms k
  omega
theorem allBits_le (ms : List (Nat → Int)) (n k : Nat) (h : k ≤ n) : ∃ r, allBits ms n = allBits ms k ++ r := by
  induction n with
  | zero => exact ⟨[], by rw [show k = 0 by omega]; rfl⟩
  | succ n ih =>
    by_cases hk : k = n + 1
    · exact ⟨[], by rw [hk, List.append_nil]⟩
    · obtain ⟨r, hr⟩ := ih (by omega)
      exact ⟨r ++ scanBits (ms.getD n fun _ => 0), by rw [allBits, hr, List.append_assoc]⟩
/-- Where the reader stands behind the first blocks. -/
theorem back_step (ms : List (Nat → Int)) (n k : Nat) (h : k < n) : 
    sameB (scanRd (pack (allBits ms n ++ endBits (allBits ms n).length)) (some (allBits ms k).length)).1 (clB 1048576 (ms.getD k fun _ => 0)) = true ∧
    (scanRd (pack (allBits ms n ++ endBits (allBits ms n).length)) (some (allBits ms k).length)).2.1 = 0 ∧
    rdSt (pack (allBits ms n ++ endBits (allBits ms n).length)) (some (allBits ms k).length) = some (allBits ms (k + 1)).length := by
  obtain ⟨r, hr⟩ := allBits_le ms n (k + 1) h
  have hb : BitsAt (pack (allBits ms n ++ endBits (allBits ms n).length)) 0 (allBits ms k ++ scanBits (ms.getD k fun _ => 0)) := by
    have h0 := bitsAt_front (allBits ms n) (endBits (allBits ms n).length)
    generalize pack (allBits ms n ++ endBits (allBits ms n).length) = L at *
    rw [hr] at h0
    exact h0.left
  have hb2 := hb.right
  rw [Nat.zero_add] at hb2
  obtain ⟨c, h1, h2⟩ := scan_back _ _ _ hb2
  rw [rdSt_ok (by rw [h1]), h1]
  exact ⟨sameB_true h2, rfl, by simp only [allBits, List.length_append]⟩

set_option maxHeartbeats 4000000 in
set_option maxRecDepth 100000 in
theorem sback_walk (v : Value) (ms : List (Nat → Int)) (T_l : Nat → Prop) (w0 : World) (hO : ScanIn w0) (h_l : Mat w0 T_l v (ms)) :
    Calls Tryd.prog 5 #[v] w0 fun e w' => e = .returned (.bool true) ∧ Kept (fun _ => False) w0 w' := by
  refine calls_wq (args := [v]) 75 Tryd.func5 rfl rfl (Nat.le_of_ble_eq_true rfl) ?_
  have K0 := Kept.refl (fun _ => False) w0
  have g_l := Grew.refl w0 T_l
  refine wq_seq ?_
  refine wq_region ?_
  refine wl_v (.bool false) rfl rfl (y_asg rfl rfl ⟨rfl, rfl⟩) ?_
  refine wl_nil fun F1 hF2 => ?_
  have s3 : F1 0 = v := (hF2 0).trans rfl
  have s4 : F1 75 = undef := (hF2 75).trans rfl
  clear hF2
  refine then_normal ?_
  refine wq_seq ?_
  refine wq_region ?_
  refine wl_call (R := fun v_ w_ => v_ = .bool true ∧ Kept (fun _ => False) w0 w_) rfl rfl (y_cs rfl rfl rfl (fun _ _ => by kernel_rfl) (ev_func _) vsN (sawake_any   _ (hO.all K0)  ) (fun e_ w_ h_ => ⟨_, h_.1, rfl, h_.2⟩)) ?_
  rintro _ w5 ⟨rfl, k6⟩
  have B7 := h_l.all k6 Apart.none
  have K8 := K0.trans k6 (fun _ _ x => x.elim)
  refine wl_v (.bool true) rfl rfl (y_asg rfl rfl ⟨rfl, rfl⟩) ?_
  refine wl_nil fun F9 hF10 => ?_
  have s11 : F9 0 = v := (hF10 0).trans s3
  have s12 : F9 75 = undef := (hF10 75).trans s4
  have s13 : F9 3 = .bool true := (hF10 3).trans rfl
  clear hF10
  refine then_normal ?_
  refine wq_seq ?_
  refine wq_seq ?_
  refine wq_region ?_
  refine wl_v (v) rfl rfl (y_mov rfl s11 ⟨rfl, rfl⟩) ?_
  refine wl_v (.int .i64 ((((ms).length : Nat) : Int))) rfl rfl (y_lenM rfl rfl rfl B7 ⟨rfl, rfl⟩) ?_
  refine wl_v (.bool (decide ((30) < ((((ms).length : Nat) : Int))))) rfl rfl (y_gtr rfl rfl rfl rfl ⟨rfl, rfl⟩) ?_
  refine wl_nil fun F14 hF15 => ?_
  have s16 : F14 0 = v := (hF15 0).trans s11
  have s17 : F14 75 = undef := (hF15 75).trans s12
  have s18 : F14 3 = .bool true := (hF15 3).trans s13
  have s19 : F14 15 = .bool (decide ((30) < ((((ms).length : Nat) : Int)))) := (hF15 15).trans rfl
  clear hF15
  refine then_normal ?_
  refine wq_cond s19 (fun c20 => ?_) (fun c20 => ?_)
  · replace c20 := of_decide_eq_true c20
    refine wq_seq ?_
    refine wq_region ?_
    refine wl_v (.bool true) rfl rfl (y_mov rfl s18 ⟨rfl, rfl⟩) ?_
    refine wl_v (.bool true) rfl rfl (y_asg rfl rfl ⟨rfl, rfl⟩) ?_
    refine wl_nil fun F21 hF22 => ?_
    have s23 : F21 75 = undef := (hF22 75).trans s17
    have s24 : F21 2 = .bool true := (hF22 2).trans rfl
    clear hF22
    refine then_normal ?_
    refine wq_ret ?_
    refine then_ret ?_
    exact end_tmp (v := .bool true) s23 rfl rfl s24 ⟨rfl, K8⟩
  · replace c20 := of_decide_eq_false c20
    refine wq_skip ?_
    refine then_normal ?_
    refine wq_seq ?_
    refine wq_region ?_
    refine wl_v (.agg #[.slice none 0 0, .int .i64 0]) rfl rfl (y_buildR (cells := #[.slice none 0 0, .int .i64 0]) rfl (by kernel_rfl) rfl ⟨rfl, rfl⟩) ?_
    refine wl_box_wri rfl rfl rfl rfl fun p25 w26 T30 B29 g31 k27 => ?_
    have gr32 : Grew w0 noB (T30) := Grew.new K8 g31
    have ap33 : Apart (T30) (T_l) := Apart.new g31 (B7).live
    have B34 := B7.all k27 Apart.none
    have K35 := K8.trans k27 (fun _ _ x => x.elim)
    refine wl_v (.pointer (some ⟨p25, 0, none⟩)) rfl rfl (y_asg rfl rfl ⟨rfl, rfl⟩) ?_
    refine wl_nil fun F36 hF37 => ?_
    have s38 : F36 0 = v := (hF37 0).trans s16
    have s39 : F36 75 = undef := (hF37 75).trans s17
    have s40 : F36 3 = .bool true := (hF37 3).trans s18
    have s41 : F36 4 = .pointer (some ⟨p25, 0, none⟩) := (hF37 4).trans rfl
    clear hF37
    refine then_normal ?_
    refine wq_seq ?_
    refine wq_seq ?_
    refine wq_region ?_
    refine wl_v (.int .i64 (0)) rfl rfl (y_asg rfl rfl ⟨rfl, rfl⟩) ?_
    refine wl_nil fun F42 hF43 => ?_
    have s44 : F42 0 = v := (hF43 0).trans s38
    have s45 : F42 75 = undef := (hF43 75).trans s39
    have s46 : F42 3 = .bool true := (hF43 3).trans s40
    have s47 : F42 4 = .pointer (some ⟨p25, 0, none⟩) := (hF43 4).trans s41
    have s48 : F42 5 = .int .i64 (0) := (hF43 5).trans rfl
    clear hF43
    refine then_normal ?_
    refine wq_block ?_
    refine wq_loop (fun nn FF ww => ∃ (i : Nat), ∃ (T49 : Nat → Prop), i ≤ ms.length ∧ nn = ms.length - i ∧ FF 0 = v ∧ FF 3 = .bool true ∧ FF 4 = .pointer (some ⟨p25, 0, none⟩) ∧ FF 75 = undef ∧ FF 5 = .int .i64 (((i : Nat) : Int)) ∧ Kept (fun _ => False) w0 ww ∧ Mat ww (T_l) v (ms) ∧ Wri ww (T49) p25 (allBits ms i) ∧ Grew w0 (noB) T49 ∧ Apart (T49) (T_l)) (ms.length - (0)) ⟨0, T30, by omega, rfl, s44, s46, s47, s45, s48, K35, B34, B29, gr32, ap33⟩ ?_
    rintro n53 F50 w51 ⟨i, T49, i54, hn53, s55, s56, s57, s58, s59, K52, B60, B61, gr62, ap63⟩
    refine wq_seq ?_
    refine wq_seq ?_
    refine wq_region ?_
    refine wl_v (.int .i64 (((i : Nat) : Int))) rfl rfl (y_mov rfl s59 ⟨rfl, rfl⟩) ?_
    refine wl_v (v) rfl rfl (y_mov rfl s55 ⟨rfl, rfl⟩) ?_
    refine wl_v (.int .i64 ((((ms).length : Nat) : Int))) rfl rfl (y_lenM rfl rfl rfl B60 ⟨rfl, rfl⟩) ?_
    refine wl_v (.bool (decide ((((i : Nat) : Int)) < ((((ms).length : Nat) : Int))))) rfl rfl (y_lss rfl rfl rfl rfl ⟨rfl, rfl⟩) ?_
    refine wl_nil fun F64 hF65 => ?_
    have s66 : F64 0 = v := (hF65 0).trans s55
    have s67 : F64 3 = .bool true := (hF65 3).trans s56
    have s68 : F64 4 = .pointer (some ⟨p25, 0, none⟩) := (hF65 4).trans s57
    have s69 : F64 75 = undef := (hF65 75).trans s58
    have s70 : F64 5 = .int .i64 (((i : Nat) : Int)) := (hF65 5).trans s59
    have s71 : F64 22 = .bool (decide ((((i : Nat) : Int)) < ((((ms).length : Nat) : Int)))) := (hF65 22).trans rfl
    clear hF65
    refine then_normal ?_
    refine wq_cond s71 (fun c72 => ?_) (fun c72 => ?_)
    · replace c72 := of_decide_eq_true c72
      refine wq_skip ?_
      refine then_normal ?_
      refine wq_seq ?_
      refine wq_block ?_
      refine wq_region ?_
      refine wl_v (.pointer (some ⟨p25, 0, none⟩)) rfl rfl (y_mov rfl s68 ⟨rfl, rfl⟩) ?_
      refine wl_v (v) rfl rfl (y_mov rfl s66 ⟨rfl, rfl⟩) ?_
      refine wl_v (.int .i64 (((i : Nat) : Int))) rfl rfl (y_mov rfl s70 ⟨rfl, rfl⟩) ?_
      refine wl_v (matAddr (v) (i)) rfl rfl (y_atM (i) rfl rfl rfl (by omega) B60 (by omega) ⟨rfl, rfl⟩) ?_
      refine wl_v (blkV ((ms).getD (i) (fun _ => 0))) rfl rfl (y_loadM rfl rfl B60 (by omega) ⟨rfl, rfl⟩) ?_
      refine wl_call (R := fun v_ w_ => ∃ (T75 : Nat → Prop), .tuple #[] = v_ ∧ Kept (T49) w51 w_ ∧ (Wri w_ T75 p25 ((allBits ms i) ++ scanBits ((ms).getD (i) (fun _ => 0))) ∧ Grew w51 (T49) T75)) rfl rfl (y_cs rfl rfl rfl (fun _ _ => by kernel_rfl) (ev_func _) (vsC rfl (vsC rfl vsN)) (scan_write (p25) (allBits ms i) ((ms).getD (i) (fun _ => 0)) (T49) _ (hO.all K52) (above gr62 hO) (allBits_room ms i (by omega)) B61 ) (fun e_ w_ h_ => by obtain ⟨T75_, he_, hr_⟩ := h_; exact ⟨_, he_, T75_, rfl, hr_⟩)) ?_
      rintro _ w73 ⟨T75, rfl, k74, ⟨B76, g77⟩⟩
      have B78 := B60.all k74 (fun i h x => (((ap63).symm) i h x))
      have K79 := K52.trans k74 (fun i hi x => ((Grew.ok (S := fun _ => False) gr62 noB_le) i hi x))
      have gr80 := gr62.trans K52 g77
      have ap81 : Apart T75 (T_l) := (ap63).grew g77 (B60).live
      refine wl_nil fun F82 hF83 => ?_
      have s84 : F82 0 = v := (hF83 0).trans s66
      have s85 : F82 3 = .bool true := (hF83 3).trans s67
      have s86 : F82 4 = .pointer (some ⟨p25, 0, none⟩) := (hF83 4).trans s68
      have s87 : F82 75 = undef := (hF83 75).trans s69
      have s88 : F82 5 = .int .i64 (((i : Nat) : Int)) := (hF83 5).trans s70
      clear hF83
      refine in_normal ?_
      refine then_normal ?_
      refine wq_region ?_
      refine wl_v (.int .i64 (((i : Nat) : Int))) rfl rfl (y_mov rfl s88 ⟨rfl, rfl⟩) ?_
      refine wl_v (.int .i64 (((i + 1 : Nat) : Int))) rfl rfl (y_add rfl rfl rfl (i64_n (by omega) (by omega)) ⟨rfl, rfl⟩) ?_
      refine wl_v (.int .i64 (((i + 1 : Nat) : Int))) rfl rfl (y_asg rfl rfl ⟨rfl, rfl⟩) ?_
      refine wl_nil fun F89 hF90 => ?_
      have s91 : F89 0 = v := (hF90 0).trans s84
      have s92 : F89 3 = .bool true := (hF90 3).trans s85
      have s93 : F89 4 = .pointer (some ⟨p25, 0, none⟩) := (hF90 4).trans s86
      have s94 : F89 75 = undef := (hF90 75).trans s87
      have s95 : F89 5 = .int .i64 (((i + 1 : Nat) : Int)) := (hF90 5).trans rfl
      clear hF90
      exact then_normal ⟨(ms.length - (i + 1)), by omega, i + 1, T75, by omega, rfl, s91, s92, s93, s94, s95, K79, B78, B76, gr80, ap81⟩
    · replace c72 := of_decide_eq_false c72
      refine wq_exit ?_
      refine then_exit ?_
      refine then_exit ?_
      have l96 : ms.length = i := by omega
      subst l96
      refine in_here ?_
      refine then_normal ?_
      refine wq_seq ?_
      refine wq_region ?_
      refine wl_v (.pointer (some ⟨p25, 0, none⟩)) rfl rfl (y_mov rfl s68 ⟨rfl, rfl⟩) ?_
      refine wl_call (R := fun v_ w_ => ∃ (T99 : Nat → Prop), .tuple #[] = v_ ∧ Kept (T49) w51 w_ ∧ (Wri w_ T99 p25 ((allBits ms ms.length) ++ endBits (allBits ms ms.length).length) ∧ Grew w51 (T49) T99)) rfl rfl (y_cs rfl rfl rfl (fun _ _ => by kernel_rfl) (ev_func _) (vsC rfl vsN) (t_end (p25) (allBits ms ms.length) (T49) _ (by have h := allBits_room ms ms.length (by omega); omega) B61 ) (fun e_ w_ h_ => by obtain ⟨T99_, he_, hr_⟩ := h_; exact ⟨_, he_, T99_, rfl, hr_⟩)) ?_
      rintro _ w97 ⟨T99, rfl, k98, ⟨B100, g101⟩⟩
      have B102 := B60.all k98 (fun i h x => (((ap63).symm) i h x))
      have K103 := K52.trans k98 (fun i hi x => ((Grew.ok (S := fun _ => False) gr62 noB_le) i hi x))
      have gr104 := gr62.trans K52 g101
      have ap105 : Apart T99 (T_l) := (ap63).grew g101 (B60).live
      refine wl_nil fun F106 hF107 => ?_
      have s108 : F106 0 = v := (hF107 0).trans s66
      have s109 : F106 3 = .bool true := (hF107 3).trans s67
      have s110 : F106 4 = .pointer (some ⟨p25, 0, none⟩) := (hF107 4).trans s68
      have s111 : F106 75 = undef := (hF107 75).trans s69
      clear hF107
      refine then_normal ?_
      refine wq_seq ?_
      refine wq_region ?_
      refine wl_v (.pointer (some ⟨p25, 0, none⟩)) rfl rfl (y_mov rfl s110 ⟨rfl, rfl⟩) ?_
      refine wl_call (R := fun v_ w_ => ∃ (v112 : Value) (T115 : Nat → Prop), v112 = v_ ∧ Kept (fun _ => False) w97 w_ ∧ (Byt w_ T115 v112 (pack ((allBits ms ms.length) ++ endBits (allBits ms ms.length).length)) ∧ Grew w97 noB T115)) rfl rfl (y_cs rfl rfl rfl (fun _ _ => by kernel_rfl) (ev_func _) (vsC rfl vsN) (t_bytes (p25) ((allBits ms ms.length) ++ endBits (allBits ms ms.length).length) (T99) _ (by have h := allBits_room ms ms.length (by omega); rw [List.length_append, endBits_length]; omega) B100 ) (fun e_ w_ h_ => by obtain ⟨v112_, T115_, he_, hr_⟩ := h_; exact ⟨_, he_, v112_, T115_, rfl, hr_⟩)) ?_
      rintro _ w113 ⟨v112, T115, rfl, k114, ⟨B116, g117⟩⟩
      have B118 := B102.all k114 Apart.none
      have B119 := B100.all k114 Apart.none
      have K120 := K103.trans k114 (fun _ _ x => x.elim)
      have gr121 : Grew w0 noB (T115) := Grew.new K103 g117
      have ap122 : Apart (T115) (T_l) := Apart.new g117 (B102).live
      have ap123 : Apart (T115) (T99) := Apart.new g117 (B100).live
      refine wl_call (R := fun v_ w_ => ∃ (v124 : Nat) (T127 : Nat → Prop), .pointer (some ⟨v124, 0, none⟩) = v_ ∧ Kept (fun _ => False) w113 w_ ∧ (Rdi w_ T127 v124 ((pack ((allBits ms ms.length) ++ endBits (allBits ms ms.length).length))) (some 0) ∧ Grew w113 noB T127)) rfl rfl (y_cs rfl rfl rfl (fun _ _ => by kernel_rfl) (ev_func _) (vsC rfl vsN) (t_new (v112) (pack ((allBits ms ms.length) ++ endBits (allBits ms ms.length).length)) (T115) _ (by have h := allBits_room ms ms.length (by omega); rw [pack_length]; unfold nbytes; rw [List.length_append, endBits_length]; omega) B116 ) (fun e_ w_ h_ => by obtain ⟨v124_, T127_, he_, hr_⟩ := h_; exact ⟨_, he_, v124_, T127_, rfl, hr_⟩)) ?_
      rintro _ w125 ⟨v124, T127, rfl, k126, ⟨B128, g129⟩⟩
      have B130 := B118.all k126 Apart.none
      have B131 := B119.all k126 Apart.none
      have B132 := B116.all k126 Apart.none
      have K133 := K120.trans k126 (fun _ _ x => x.elim)
      have gr134 : Grew w0 noB (T127) := Grew.new K120 g129
      have ap135 : Apart (T127) (T_l) := Apart.new g129 (B118).live
      have ap136 : Apart (T127) (T99) := Apart.new g129 (B119).live
      have ap137 : Apart (T127) (T115) := Apart.new g129 (B116).live
      refine wl_v (.pointer (some ⟨v124, 0, none⟩)) rfl rfl (y_asg rfl rfl ⟨rfl, rfl⟩) ?_
      refine wl_nil fun F138 hF139 => ?_
      have s140 : F138 0 = v := (hF139 0).trans s108
      have s141 : F138 3 = .bool true := (hF139 3).trans s109
      have s142 : F138 75 = undef := (hF139 75).trans s111
      have s143 : F138 6 = .pointer (some ⟨v124, 0, none⟩) := (hF139 6).trans rfl
      clear hF139
      refine then_normal ?_
      refine wq_seq ?_
      refine wq_seq ?_
      obtain ⟨L, hL⟩ : ∃ L, L = pack (allBits ms ms.length ++ endBits (allBits ms ms.length).length) := ⟨_, rfl⟩
      have hst := Lib.hid (fun k (hk : k < ms.length) => back_step ms ms.length k hk)
      have hdn := Lib.hid (done_end (allBits ms ms.length) (by have h := allBits_room ms ms.length (by omega); omega))
      rw [← hL] at hst hdn
      have B144 : Rdi w125 (T127) v124 (L) (some 0) := ((by rw [hL]; exact B128))
      refine wq_region ?_
      refine wl_v (.int .i64 (0)) rfl rfl (y_asg rfl rfl ⟨rfl, rfl⟩) ?_
      refine wl_nil fun F145 hF146 => ?_
      have s147 : F145 0 = v := (hF146 0).trans s140
      have s148 : F145 3 = .bool true := (hF146 3).trans s141
      have s149 : F145 75 = undef := (hF146 75).trans s142
      have s150 : F145 6 = .pointer (some ⟨v124, 0, none⟩) := (hF146 6).trans s143
      have s151 : F145 7 = .int .i64 (0) := (hF146 7).trans rfl
      clear hF146
      refine then_normal ?_
      refine wq_block ?_
      refine wq_loop (fun nn FF ww => ∃ (i : Nat), ∃ (T152 : Nat → Prop), i ≤ ms.length ∧ nn = ms.length - i ∧ FF 0 = v ∧ FF 3 = .bool true ∧ FF 6 = .pointer (some ⟨v124, 0, none⟩) ∧ FF 75 = undef ∧ FF 7 = .int .i64 (((i : Nat) : Int)) ∧ Kept (fun _ => False) w0 ww ∧ Mat ww (T_l) v (ms) ∧ Wri ww (T99) p25 ((allBits ms ms.length) ++ endBits (allBits ms ms.length).length) ∧ Byt ww (T115) v112 (pack ((allBits ms ms.length) ++ endBits (allBits ms ms.length).length)) ∧ Rdi ww (T152) v124 (L) (some (allBits ms i).length) ∧ Grew w0 (noB) T152 ∧ Apart (T152) (T_l) ∧ Apart (T152) (T99) ∧ Apart (T152) (T115)) (ms.length - (0)) ⟨0, T127, by omega, rfl, s147, s148, s150, s149, s151, K133, B130, B131, B132, B144, gr134, ap135, ap136, ap137⟩ ?_
      rintro n156 F153 w154 ⟨i, T152, i157, hn156, s158, s159, s160, s161, s162, K155, B163, B164, B165, B166, gr167, ap168, ap169, ap170⟩
      refine wq_seq ?_
      refine wq_seq ?_
      refine wq_region ?_
      refine wl_v (.int .i64 (((i : Nat) : Int))) rfl rfl (y_mov rfl s162 ⟨rfl, rfl⟩) ?_
      refine wl_v (v) rfl rfl (y_mov rfl s158 ⟨rfl, rfl⟩) ?_
      refine wl_v (.int .i64 ((((ms).length : Nat) : Int))) rfl rfl (y_lenM rfl rfl rfl B163 ⟨rfl, rfl⟩) ?_
      refine wl_v (.bool (decide ((((i : Nat) : Int)) < ((((ms).length : Nat) : Int))))) rfl rfl (y_lss rfl rfl rfl rfl ⟨rfl, rfl⟩) ?_
      refine wl_nil fun F171 hF172 => ?_
      have s173 : F171 0 = v := (hF172 0).trans s158
      have s174 : F171 3 = .bool true := (hF172 3).trans s159
      have s175 : F171 6 = .pointer (some ⟨v124, 0, none⟩) := (hF172 6).trans s160
      have s176 : F171 75 = undef := (hF172 75).trans s161
      have s177 : F171 7 = .int .i64 (((i : Nat) : Int)) := (hF172 7).trans s162
      have s178 : F171 39 = .bool (decide ((((i : Nat) : Int)) < ((((ms).length : Nat) : Int)))) := (hF172 39).trans rfl
      clear hF172
      refine then_normal ?_
      refine wq_cond s178 (fun c179 => ?_) (fun c179 => ?_)
      · replace c179 := of_decide_eq_true c179
        refine wq_skip ?_
        refine then_normal ?_
        refine wq_seq ?_
        refine wq_block ?_
        refine wq_seq ?_
        refine wq_region ?_
        refine wl_v (v) rfl rfl (y_mov rfl s173 ⟨rfl, rfl⟩) ?_
        refine wl_v (.int .i64 (((i : Nat) : Int))) rfl rfl (y_mov rfl s177 ⟨rfl, rfl⟩) ?_
        refine wl_v (matAddr (v) (i)) rfl rfl (y_atM (i) rfl rfl rfl (by omega) B163 (by omega) ⟨rfl, rfl⟩) ?_
        refine wl_v (blkV ((ms).getD (i) (fun _ => 0))) rfl rfl (y_loadM rfl rfl B163 (by omega) ⟨rfl, rfl⟩) ?_
        refine wl_alloc_blk rfl rfl rfl blkT_arr.2.2 fun p180 w181 e184 B182 k183 => ?_
        have g185 := onB_new (Nat.le_of_eq e184.symm)
        have gr186 : Grew w0 noB (onB p180) := Grew.new K155 g185
        have ap187 : Apart (onB p180) (T_l) := Apart.new g185 (B163).live
        have ap188 : Apart (onB p180) (T99) := Apart.new g185 (B164).live
        have ap189 : Apart (onB p180) (T115) := Apart.new g185 (B165).live
        have ap190 : Apart (onB p180) (T152) := Apart.new g185 (B166).live
        clear e184 g185
        have B191 := B163.all k183 Apart.none
        have B192 := B164.all k183 Apart.none
        have B193 := B165.all k183 Apart.none
        have B194 := B166.all k183 Apart.none
        have K195 := K155.trans k183 (fun _ _ x => x.elim)
        refine wl_store_blk blkT_arr rfl rfl rfl rfl rfl B182 fun w196 B197 k198 => ?_
        have B199 := B191.all k198 (fun i h x => (((ap187).symm) i h x))
        have B200 := B192.all k198 (fun i h x => (((ap188).symm) i h x))
        have B201 := B193.all k198 (fun i h x => (((ap189).symm) i h x))
        have B202 := B194.all k198 (fun i h x => (((ap190).symm) i h x))
        have K203 := K195.trans k198 (Grew.ok (S := fun _ => False) gr186 noB_le)
        refine wl_nil fun F204 hF205 => ?_
        have s206 : F204 0 = v := (hF205 0).trans s173
        have s207 : F204 3 = .bool true := (hF205 3).trans s174
        have s208 : F204 6 = .pointer (some ⟨v124, 0, none⟩) := (hF205 6).trans s175
        have s209 : F204 75 = undef := (hF205 75).trans s176
        have s210 : F204 7 = .int .i64 (((i : Nat) : Int)) := (hF205 7).trans s177
        have s211 : F204 8 = .pointer (some ⟨p180, 0, none⟩) := (hF205 8).trans rfl
        clear hF205
        refine then_normal ?_
        refine wq_seq ?_
        refine wq_seq ?_
        refine wq_region ?_
        refine wl_v (.int .i64 (0)) rfl rfl (y_asg rfl rfl ⟨rfl, rfl⟩) ?_
        refine wl_nil fun F212 hF213 => ?_
        have s214 : F212 0 = v := (hF213 0).trans s206
        have s215 : F212 3 = .bool true := (hF213 3).trans s207
        have s216 : F212 6 = .pointer (some ⟨v124, 0, none⟩) := (hF213 6).trans s208
        have s217 : F212 75 = undef := (hF213 75).trans s209
        have s218 : F212 7 = .int .i64 (((i : Nat) : Int)) := (hF213 7).trans s210
        have s219 : F212 8 = .pointer (some ⟨p180, 0, none⟩) := (hF213 8).trans s211
        have s220 : F212 9 = .int .i64 (0) := (hF213 9).trans rfl
        clear hF213
        refine then_normal ?_
        refine wq_block ?_
        refine wq_loop (fun nn FF ww => ∃ (k : Nat), k ≤ 16 ∧ nn = 16 - k ∧ FF 0 = v ∧ FF 3 = .bool true ∧ FF 6 = .pointer (some ⟨v124, 0, none⟩) ∧ FF 7 = .int .i64 (((i : Nat) : Int)) ∧ FF 8 = .pointer (some ⟨p180, 0, none⟩) ∧ FF 75 = undef ∧ FF 9 = .int .i64 (((k : Nat) : Int)) ∧ Kept (fun _ => False) w0 ww ∧ Mat ww (T_l) v (ms) ∧ Wri ww (T99) p25 ((allBits ms ms.length) ++ endBits (allBits ms ms.length).length) ∧ Byt ww (T115) v112 (pack ((allBits ms ms.length) ++ endBits (allBits ms ms.length).length)) ∧ Rdi ww (T152) v124 (L) (some (allBits ms i).length) ∧ Blk ww p180 22 (upto k (ms.getD i fun _ => 0) (clB 1048576 (ms.getD i fun _ => 0)))) (16 - (0)) ⟨0, by omega, rfl, s214, s215, s216, s218, s219, s217, s220, K203, B199, B200, B201, B202, B197.first⟩ ?_
        rintro n224 F221 w222 ⟨k, i225, hn224, s226, s227, s228, s229, s230, s231, s232, K223, B233, B234, B235, B236, B237⟩
        refine wq_seq ?_
        refine wq_seq ?_
        refine wq_region ?_
        refine wl_v (.int .i64 (((k : Nat) : Int))) rfl rfl (y_mov rfl s232 ⟨rfl, rfl⟩) ?_
        refine wl_v (.bool (decide ((((k : Nat) : Int)) < (16)))) rfl rfl (y_lss rfl rfl rfl rfl ⟨rfl, rfl⟩) ?_
        refine wl_nil fun F238 hF239 => ?_
        have s240 : F238 0 = v := (hF239 0).trans s226
        have s241 : F238 3 = .bool true := (hF239 3).trans s227
        have s242 : F238 6 = .pointer (some ⟨v124, 0, none⟩) := (hF239 6).trans s228
        have s243 : F238 7 = .int .i64 (((i : Nat) : Int)) := (hF239 7).trans s229
        have s244 : F238 8 = .pointer (some ⟨p180, 0, none⟩) := (hF239 8).trans s230
        have s245 : F238 75 = undef := (hF239 75).trans s231
        have s246 : F238 9 = .int .i64 (((k : Nat) : Int)) := (hF239 9).trans s232
        have s247 : F238 47 = .bool (decide ((((k : Nat) : Int)) < (16))) := (hF239 47).trans rfl
        clear hF239
        refine then_normal ?_
        refine wq_cond s247 (fun c248 => ?_) (fun c248 => ?_)
        · replace c248 := of_decide_eq_true c248
          refine wq_skip ?_
          refine then_normal ?_
          refine wq_seq ?_
          refine wq_block ?_
          refine wq_region ?_
          refine wl_v (.int .i64 (((k : Nat) : Int))) rfl rfl (y_mov rfl s246 ⟨rfl, rfl⟩) ?_
          refine wl_v (.int .i64 (((k : Nat) : Int))) rfl rfl (y_mov rfl s246 ⟨rfl, rfl⟩) ?_
          refine wl_v (.pointer (some ⟨p180, k, none⟩)) rfl rfl (y_atR (k) (s := 1) rfl s244 rfl (by omega) Tryd.underlying22 (by omega) (by kernel_rfl) (by omega) ⟨rfl, rfl⟩) ?_
          refine wl_v (.int .i64 ((ms.getD i fun _ => 0) k)) rfl rfl (y_ldR rfl rfl Tryd.underlying3 (((B237).cell (by omega)).trans (some_int (upto_at k _ _))) ⟨rfl, rfl⟩) ?_
          refine wl_v (.int .i64 (max ((ms.getD i fun _ => 0) k) (-1048576))) rfl rfl (y_maxR rfl rfl rfl rfl ⟨rfl, rfl⟩) ?_
          refine wl_v (.int .i64 (cl 1048576 ((ms.getD i fun _ => 0) k))) rfl rfl (y_minR rfl rfl rfl (by unfold cl; omega) ⟨rfl, rfl⟩) ?_
          refine wl_v (.pointer (some ⟨p180, k, none⟩)) rfl rfl (y_atR (k) (s := 1) rfl s244 rfl (by omega) Tryd.underlying22 (by omega) (by kernel_rfl) (by omega) ⟨rfl, rfl⟩) ?_
          refine wl_set_blk rfl rfl rfl rfl rfl B237 (by omega) (by kernel_rfl) fun w249 B250 k251 => ?_
          have B252 := B233.all k251 (fun i h x => (((ap187).symm) i h x))
          have B253 := B234.all k251 (fun i h x => (((ap188).symm) i h x))
          have B254 := B235.all k251 (fun i h x => (((ap189).symm) i h x))
          have B255 := B236.all k251 (fun i h x => (((ap190).symm) i h x))
          have K256 := K223.trans k251 (Grew.ok (S := fun _ => False) gr186 noB_le)
          refine wl_nil fun F257 hF258 => ?_
          have s259 : F257 0 = v := (hF258 0).trans s240
          have s260 : F257 3 = .bool true := (hF258 3).trans s241
          have s261 : F257 6 = .pointer (some ⟨v124, 0, none⟩) := (hF258 6).trans s242
          have s262 : F257 7 = .int .i64 (((i : Nat) : Int)) := (hF258 7).trans s243
          have s263 : F257 8 = .pointer (some ⟨p180, 0, none⟩) := (hF258 8).trans s244
          have s264 : F257 75 = undef := (hF258 75).trans s245
          have s265 : F257 9 = .int .i64 (((k : Nat) : Int)) := (hF258 9).trans s246
          clear hF258
          refine in_normal ?_
          refine then_normal ?_
          refine wq_region ?_
          refine wl_v (.int .i64 (((k : Nat) : Int))) rfl rfl (y_mov rfl s265 ⟨rfl, rfl⟩) ?_
          refine wl_v (.int .i64 (((k + 1 : Nat) : Int))) rfl rfl (y_add rfl rfl rfl (i64_n (by omega) (by omega)) ⟨rfl, rfl⟩) ?_
          refine wl_v (.int .i64 (((k + 1 : Nat) : Int))) rfl rfl (y_asg rfl rfl ⟨rfl, rfl⟩) ?_
          refine wl_nil fun F266 hF267 => ?_
          have s268 : F266 0 = v := (hF267 0).trans s259
          have s269 : F266 3 = .bool true := (hF267 3).trans s260
          have s270 : F266 6 = .pointer (some ⟨v124, 0, none⟩) := (hF267 6).trans s261
          have s271 : F266 7 = .int .i64 (((i : Nat) : Int)) := (hF267 7).trans s262
          have s272 : F266 8 = .pointer (some ⟨p180, 0, none⟩) := (hF267 8).trans s263
          have s273 : F266 75 = undef := (hF267 75).trans s264
          have s274 : F266 9 = .int .i64 (((k + 1 : Nat) : Int)) := (hF267 9).trans rfl
          clear hF267
          exact then_normal ⟨(16 - (k + 1)), by omega, k + 1, by omega, rfl, s268, s269, s270, s271, s272, s273, s274, K256, B252, B253, B254, B255, (B250.next rfl)⟩
        · replace c248 := of_decide_eq_false c248
          refine wq_exit ?_
          refine then_exit ?_
          refine then_exit ?_
          have l275 : 16 = k := by omega
          subst l275
          have B276 : Blk w222 p180 22 (clB 1048576 (ms.getD i fun _ => 0)) := (B237.last)
          refine in_here ?_
          refine then_normal ?_
          refine wq_seq ?_
          refine wq_region ?_
          refine wl_v (.pointer (some ⟨v124, 0, none⟩)) rfl rfl (y_mov rfl s242 ⟨rfl, rfl⟩) ?_
          refine wl_call (R := fun v_ w_ => ∃ (T279 : Nat → Prop), .tuple #[blkV ((scanRd (L) (some (allBits ms i).length)).1), .int .i64 ((scanRd (L) (some (allBits ms i).length)).2.1)] = v_ ∧ Kept (T152) w222 w_ ∧ (Rdi w_ T279 v124 ((L)) (rdSt (L) (some (allBits ms i).length)) ∧ Grew w222 (T152) T279)) rfl rfl (y_cs rfl rfl rfl (fun _ _ => by kernel_rfl) (ev_func _) (vsC rfl vsN) (scan_read (v124) (L) (some (allBits ms i).length) (T152) _ (hO.all K223) (above gr167 hO) B236 ) (fun e_ w_ h_ => by obtain ⟨T279_, he_, hr_⟩ := h_; exact ⟨_, he_, T279_, rfl, hr_⟩)) ?_
          rintro _ w277 ⟨T279, rfl, k278, ⟨B280, g281⟩⟩
          have B282 := B233.all k278 (fun i h x => (((ap168).symm) i h x))
          have B283 := B234.all k278 (fun i h x => (((ap169).symm) i h x))
          have B284 := B235.all k278 (fun i h x => (((ap170).symm) i h x))
          have B285 := B276.all k278 (fun x => ((ap190) p180 rfl x))
          have K286 := K223.trans k278 (fun i hi x => ((Grew.ok (S := fun _ => False) gr167 noB_le) i hi x))
          have gr287 := gr167.trans K223 g281
          have ap288 : Apart T279 (T_l) := (ap168).grew g281 (B233).live
          have ap289 : Apart T279 (T99) := (ap169).grew g281 (B234).live
          have ap290 : Apart T279 (T115) := (ap170).grew g281 (B235).live
          have ap291 : Apart T279 (onB p180) := ((ap190).symm).grew g281 (onB_live (B276).lt)
          refine wl_v (.tuple #[blkV ((scanRd (L) (some (allBits ms i).length)).1), .int .i64 ((scanRd (L) (some (allBits ms i).length)).2.1)]) rfl rfl (y_mov rfl rfl ⟨rfl, rfl⟩) ?_
          refine wl_v (blkV ((scanRd (L) (some (allBits ms i).length)).1)) rfl rfl (y_ext rfl rfl rfl ⟨rfl, rfl⟩) ?_
          refine wl_v (.int .i64 ((scanRd (L) (some (allBits ms i).length)).2.1)) rfl rfl (y_ext rfl rfl rfl ⟨rfl, rfl⟩) ?_
          refine wl_alloc_blk rfl rfl rfl blkT_block.2.2 fun p292 w293 e296 B294 k295 => ?_
          have g297 := onB_new (Nat.le_of_eq e296.symm)
          have gr298 : Grew w0 noB (onB p292) := Grew.new K286 g297
          have ap299 : Apart (onB p292) (T_l) := Apart.new g297 (B282).live
          have ap300 : Apart (onB p292) (T99) := Apart.new g297 (B283).live
          have ap301 : Apart (onB p292) (T115) := Apart.new g297 (B284).live
          have ap302 : Apart (onB p292) (T279) := Apart.new g297 (B280).live
          have ap303 : Apart (onB p292) (onB p180) := Apart.new g297 (onB_live (B285).lt)
          clear e296 g297
          have B304 := B282.all k295 Apart.none
          have B305 := B283.all k295 Apart.none
          have B306 := B284.all k295 Apart.none
          have B307 := B280.all k295 Apart.none
          have B308 := B285.all k295 id
          have K309 := K286.trans k295 (fun _ _ x => x.elim)
          refine wl_store_blk blkT_block rfl rfl rfl rfl rfl B294 fun w310 B311 k312 => ?_
          have B313 := B304.all k312 (fun i h x => (((ap299).symm) i h x))
          have B314 := B305.all k312 (fun i h x => (((ap300).symm) i h x))
          have B315 := B306.all k312 (fun i h x => (((ap301).symm) i h x))
          have B316 := B307.all k312 (fun i h x => (((ap302).symm) i h x))
          have B317 := B308.all k312 (fun x => (((ap303).symm) p180 rfl x))
          have K318 := K309.trans k312 (Grew.ok (S := fun _ => False) gr298 noB_le)
          refine wl_v (.int .i64 ((scanRd (L) (some (allBits ms i).length)).2.1)) rfl rfl (y_asg rfl rfl ⟨rfl, rfl⟩) ?_
          refine wl_nil fun F319 hF320 => ?_
          have s321 : F319 0 = v := (hF320 0).trans s240
          have s322 : F319 3 = .bool true := (hF320 3).trans s241
          have s323 : F319 6 = .pointer (some ⟨v124, 0, none⟩) := (hF320 6).trans s242
          have s324 : F319 7 = .int .i64 (((i : Nat) : Int)) := (hF320 7).trans s243
          have s325 : F319 8 = .pointer (some ⟨p180, 0, none⟩) := (hF320 8).trans s244
          have s326 : F319 75 = undef := (hF320 75).trans s245
          have s327 : F319 10 = .pointer (some ⟨p292, 0, none⟩) := (hF320 10).trans rfl
          have s328 : F319 11 = .int .i64 ((scanRd (L) (some (allBits ms i).length)).2.1) := (hF320 11).trans rfl
          clear hF320
          refine then_normal ?_
          refine wq_seq ?_
          refine wq_region ?_
          refine wl_v (blkV ((scanRd (L) (some (allBits ms i).length)).1)) rfl rfl (y_load_blk blkT_block rfl s327 B311 ⟨rfl, rfl⟩) ?_
          refine wl_v (blkV (clB 1048576 (ms.getD i fun _ => 0))) rfl rfl (y_load_blk blkT_arr rfl s325 B317 ⟨rfl, rfl⟩) ?_
          refine wl_v (.bool false) rfl rfl (y_diffR rfl rfl rfl ((by rw [(hst.out i (by omega)).1]; rfl)) ⟨rfl, rfl⟩) ?_
          refine wl_v (.bool false) rfl rfl (y_mov rfl rfl ⟨rfl, rfl⟩) ?_
          refine wl_vw (.int .i64 ((scanRd (L) (some (allBits ms i).length)).2.1)) 3 false 65 rfl rfl rfl rfl rfl (y_mov rfl s328 ⟨rfl, rfl⟩) ?_
          refine wl_vw (.bool false) 3 false 65 rfl rfl rfl rfl rfl (y_neqI rfl rfl rfl (decide_eq_false (fun h => h (hst.out i (by omega)).2.1)) ⟨rfl, rfl⟩) ?_
          refine wl_v (.bool false) rfl rfl (y_pickF rfl rfl rfl ⟨rfl, rfl⟩) ?_
          refine wl_nil fun F329 hF330 => ?_
          have s331 : F329 0 = v := (hF330 0).trans s321
          have s332 : F329 3 = .bool true := (hF330 3).trans s322
          have s333 : F329 6 = .pointer (some ⟨v124, 0, none⟩) := (hF330 6).trans s323
          have s334 : F329 7 = .int .i64 (((i : Nat) : Int)) := (hF330 7).trans s324
          have s335 : F329 75 = undef := (hF330 75).trans s326
          have s336 : F329 68 = .bool false := (hF330 68).trans rfl
          clear hF330
          refine then_normal ?_
          refine wq_cond (t := false) s336 (fun e => by cases e) (fun _ => ?_)
          refine wq_skip ?_
          refine in_normal ?_
          refine then_normal ?_
          refine wq_region ?_
          refine wl_v (.int .i64 (((i : Nat) : Int))) rfl rfl (y_mov rfl s334 ⟨rfl, rfl⟩) ?_
          refine wl_v (.int .i64 (((i + 1 : Nat) : Int))) rfl rfl (y_add rfl rfl rfl (i64_n (by omega) (by omega)) ⟨rfl, rfl⟩) ?_
          refine wl_v (.int .i64 (((i + 1 : Nat) : Int))) rfl rfl (y_asg rfl rfl ⟨rfl, rfl⟩) ?_
          refine wl_nil fun F337 hF338 => ?_
          have s339 : F337 0 = v := (hF338 0).trans s331
          have s340 : F337 3 = .bool true := (hF338 3).trans s332
          have s341 : F337 6 = .pointer (some ⟨v124, 0, none⟩) := (hF338 6).trans s333
          have s342 : F337 75 = undef := (hF338 75).trans s335
          have s343 : F337 7 = .int .i64 (((i + 1 : Nat) : Int)) := (hF338 7).trans rfl
          clear hF338
          exact then_normal ⟨(ms.length - (i + 1)), by omega, i + 1, T279, by omega, rfl, s339, s340, s341, s342, s343, K318, B313, B314, B315, (by rw [← (hst.out i (by omega)).2.2]; exact B316), gr287, ap288, ap289, ap290⟩
      · replace c179 := of_decide_eq_false c179
        refine wq_exit ?_
        refine then_exit ?_
        refine then_exit ?_
        have l344 : ms.length = i := by omega
        subst l344
        refine in_here ?_
        refine then_normal ?_
        refine wq_seq ?_
        refine wq_region ?_
        refine wl_v (.bool true) rfl rfl (y_mov rfl s174 ⟨rfl, rfl⟩) ?_
        refine wl_v (.bool true) rfl rfl (y_mov rfl rfl ⟨rfl, rfl⟩) ?_
        refine wl_vw (.pointer (some ⟨v124, 0, none⟩)) 1 true 70 rfl rfl rfl rfl rfl (y_mov rfl s175 ⟨rfl, rfl⟩) ?_
        refine wl_callw (R := fun v_ w_ => v_ = .int .i64 (doneOf (L) (some (allBits ms ms.length).length)) ∧ Kept (fun _ => False) w154 w_) 1 true 70 rfl rfl rfl rfl rfl (y_cs rfl rfl rfl (fun _ _ => by kernel_rfl) (ev_func _) (vsC rfl vsN) (t_done (v124) (L) (some (allBits ms ms.length).length) (T152) _  B166 ) (fun e_ w_ h_ => ⟨_, h_.1, rfl, h_.2⟩)) ?_
        rintro _ w345 ⟨rfl, k346⟩
        have B347 := B163.all k346 Apart.none
        have B348 := B164.all k346 Apart.none
        have B349 := B165.all k346 Apart.none
        have B350 := B166.all k346 Apart.none
        have K351 := K155.trans k346 (fun _ _ x => x.elim)
        refine wl_vw (.bool true) 1 true 70 rfl rfl rfl rfl rfl (y_eqlI rfl rfl rfl (decide_eq_true hdn.out) ⟨rfl, rfl⟩) ?_
        refine wl_v (.bool true) rfl rfl (y_pickT rfl rfl rfl ⟨rfl, rfl⟩) ?_
        refine wl_v (.bool true) rfl rfl (y_asg rfl rfl ⟨rfl, rfl⟩) ?_
        refine wl_nil fun F352 hF353 => ?_
        have s354 : F352 75 = undef := (hF353 75).trans s176
        have s355 : F352 2 = .bool true := (hF353 2).trans rfl
        clear hF353
        refine then_normal ?_
        refine wq_ret ?_
        exact end_tmp (v := .bool true) s354 rfl rfl s355 ⟨rfl, K351⟩
end Go.Proofs.YtipimcnjcpckeaaDoor
