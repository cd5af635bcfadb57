/- What BlockBack reaches of my texts, part 5. -/
import Derived.Test.YtdcbabgcbkdlhaaDoorBlockBackD
set_option maxRecDepth 100000
set_option maxRecDepth 100000
namespace Go.Proofs.YtdcbabgcbkdlhaaDoor
open Go.RowKit

abbrev chD : Ch := ⟨0, 0, 0, 0, 0, fun _ => 0⟩
/-- Those that may be. -/
def okL (k : Int) (L : List Ch) : List Ch := L.filter fun c => decide (chE k c = 0)
def bitL (ax ay bx yy : Int) : List Ch → List Bool
  | [] => []
  | c :: r => chBits c ax ay bx yy ++ bitL ax ay bx yy r
theorem bitL_app (ax ay bx yy : Int) (a b : List Ch) : bitL ax ay bx yy (a ++ b) = bitL ax ay bx yy a ++ bitL ax ay bx yy b := by
  induction a with
  | nil => rfl
  | cons c r ih => show chBits c ax ay bx yy ++ bitL ax ay bx yy (r ++ b) = _; rw [ih, ← List.append_assoc]; rfl
theorem bitL_short (ax ay bx yy : Int) (l : List Ch) : (bitL ax ay bx yy l).length ≤ 2400 * l.length := by
  induction l with
  | nil => simp [bitL]
  | cons c r ih => have := chBits_short c ax ay bx yy; show (chBits c ax ay bx yy ++ bitL ax ay bx yy r).length ≤ _; rw [List.length_append, List.length_cons]; omega
theorem take_more (L : List Ch) (i : Nat) (h : i < L.length) : L.take (i + 1) = L.take i ++ [L.getD i chD] := by
  rw [List.take_add_one, List.getD_eq_getElem?_getD, List.getElem?_eq_getElem h]; rfl
theorem okL_yes {k : Int} {L : List Ch} {i : Nat} (h : i < L.length) (he : chE k (L.getD i chD) = 0) : okL k (L.take (i + 1)) = okL k (L.take i) ++ [L.getD i chD] := by
  unfold okL; rw [take_more L i h, List.filter_append, List.filter_cons_of_pos (by simpa using he)]; rfl
theorem okL_no {k : Int} {L : List Ch} {i : Nat} (h : i < L.length) (he : ¬ chE k (L.getD i chD) = 0) : okL k (L.take (i + 1)) = okL k (L.take i) := by
  unfold okL; rw [take_more L i h, List.filter_append, List.filter_cons_of_neg (by simpa using he)]; simp
theorem okL_len (k : Int) (L : List Ch) (n : Nat) (h : L.length ≤ n) : (okL k L).length ≤ n := Nat.le_trans (List.length_filter_le _ _) h
theorem okL_all {k : Int} {L : List Ch} {j : Nat} (h : j < (okL k L).length) : chE k ((okL k L).getD j chD) = 0 := by
  rw [List.getD_eq_getElem?_getD, List.getElem?_eq_getElem h]
  have := List.mem_filter.1 (List.getElem_mem h)
  simpa using this.2
/-- Where the j-th begins. -/
theorem bitL_at {l : List Nat} {ax ay bx yy : Int} : ∀ (S : List Ch) (a : Nat), BitsAt l a (bitL ax ay bx yy S) → ∀ j, j < S.length → BitsAt l (a + (bitL ax ay bx yy (S.take j)).length) (chBits (S.getD j chD) ax ay bx yy) := by
  intro S
  induction S with
  | nil => intro a _ j hj; simp at hj
  | cons c r ih =>
    intro a hb j hj
    have hb' : BitsAt l a (chBits c ax ay bx yy ++ bitL ax ay bx yy r) := hb
    cases j with
    | zero => exact hb'.left
    | succ j =>
      have := ih _ hb'.right j (by simpa using hj)
      show BitsAt l (a + (chBits c ax ay bx yy ++ bitL ax ay bx yy (r.take j)).length) _
      rw [List.length_append, ← Nat.add_assoc]; exact this
theorem take_more' (S : List Ch) (ax ay bx yy : Int) (j : Nat) (h : j < S.length) : (bitL ax ay bx yy (S.take (j + 1))).length = (bitL ax ay bx yy (S.take j)).length + (chBits (S.getD j chD) ax ay bx yy).length := by
  rw [take_more S j h, bitL_app, List.length_append]
  congr 1
  show (chBits (S.getD j chD) ax ay bx yy ++ []).length = _
  rw [List.append_nil]
theorem bback_pure {k : Int} {L : List Ch} {ax ay bx yy : Int} (P : List Nat) (hP : P = pack (bitL ax ay bx yy (okL k L) ++ endBits (bitL ax ay bx yy (okL k L)).length)) : ∀ j, j < (okL k L).length →
    sameCh (rdCh P k ax ay bx yy (some (bitL ax ay bx yy ((okL k L).take j)).length)).1 ((okL k L).getD j chD) = true ∧ (rdCh P k ax ay bx yy (some (bitL ax ay bx yy ((okL k L).take j)).length)).2.1 = 0 ∧
      rdChT P k ax ay bx yy (some (bitL ax ay bx yy ((okL k L).take j)).length) = some (bitL ax ay bx yy ((okL k L).take (j + 1))).length := fun j hj => by
  have hb : BitsAt P 0 (bitL ax ay bx yy (okL k L)) := by rw [hP]; exact bitsAt_front _ _
  have h1 := bitL_at (okL k L) 0 hb j hj
  rw [Nat.zero_add] at h1
  obtain ⟨d, e1, e2⟩ := ch_back (okL_all hj) h1
  refine ⟨by rw [e1]; exact e2, by rw [e1], ?_⟩
  unfold rdChT
  rw [e1, if_pos rfl, take_more' _ _ _ _ _ j hj]
theorem wrote_yes {k : Int} {c : Ch} {ax ay bx yy : Int} (h : chE k c = 0) : wrCh k c ax ay bx yy = chBits c ax ay bx yy := if_pos h
theorem wrote_no {k : Int} {c : Ch} {ax ay bx yy : Int} (h : ¬ chE k c = 0) : wrCh k c ax ay bx yy = [] := if_neg h
theorem bits_step {k : Int} {L : List Ch} {ax ay bx yy : Int} {i : Nat} (h : i < L.length) : bitL ax ay bx yy (okL k (L.take i)) ++ wrCh k (L.getD i chD) ax ay bx yy = bitL ax ay bx yy (okL k (L.take (i + 1))) := by
  by_cases he : chE k (L.getD i chD) = 0
  · rw [wrote_yes he, okL_yes h he, bitL_app]
    show _ = _ ++ (chBits _ ax ay bx yy ++ [])
    rw [List.append_nil]
  · rw [wrote_no he, okL_no h he, List.append_nil]

set_option maxHeartbeats 4000000 in
set_option maxRecDepth 100000 in
theorem bback_walk (k : Int) (v : Value) (L : List Ch) (ax ay bx yy : Int) (T_l : Nat → Prop) (w0 : World) (hA : ActsIn w0) (hO : ScanIn w0) (hs : StepsAt w0) (hw : Waves w0) (h_l : RoA rCh w0 T_l v (L)) :
  Calls Tryd.prog 4 #[.int .i64 (k), v, .agg #[.int .i64 (ax), .int .i64 (ay)], .agg #[.int .i64 (bx), .int .i64 (yy)]] w0 fun e w' => e = .returned (.bool true) ∧ Kept (fun _ => False) w0 w' := by
 refine calls_wq (args := [.int .i64 (k), v, .agg #[.int .i64 (ax), .int .i64 (ay)], .agg #[.int .i64 (bx), .int .i64 (yy)]]) 92 Tryd.func4 rfl rfl (Nat.le_of_ble_eq_true rfl) ?_
 have K0 := Kept.refl (fun _ => False) w0
 have g_l := Grew.refl w0 T_l
 refine wq_seq ?_
 refine wq_region ?_
 refine wl_box_stc (vs := [.int .i64 (ax), .int .i64 (ay)]) rfl rfl rfl rfl fun p1 w2 B4 g5 k3 => ?_
 have B8 := h_l.all k3 Apart.none
 have K9 := K0.trans k3 (fun _ _ x => x.elim)
 refine wl_box_stc (vs := [.int .i64 (bx), .int .i64 (yy)]) rfl rfl rfl rfl fun p10 w11 B13 g14 k12 => ?_
 have B18 := B8.all k12 Apart.none
 have B19 := B4.all k12 id
 have K20 := K9.trans k12 (fun _ _ x => x.elim)
 refine wl_v (.bool false) rfl rfl (y_asg rfl rfl ⟨rfl, rfl⟩) ?_
 refine wl_nil fun F21 hF22 => ?_
 have s23 : F21 0 = .int .i64 (k) := (hF22 0).trans rfl
 have s24 : F21 1 = v := (hF22 1).trans rfl
 have s25 : F21 92 = undef := (hF22 92).trans rfl
 have s26 : F21 6 = .pointer (some ⟨p1, 0, none⟩) := (hF22 6).trans rfl
 have s27 : F21 7 = .pointer (some ⟨p10, 0, none⟩) := (hF22 7).trans rfl
 clear hF22
 refine then_normal ?_
 refine wq_seq ?_
 refine wq_region ?_
 refine wl_call (R := fun v_ w_ => v_ = .bool true ∧ Kept (fun _ => False) w11 w_) rfl rfl (y_cs rfl rfl rfl (fun _ _ => by kernel_rfl) (ev_func _) vsN (bawake_any   _ (hA.all K20) (hO.all K20) (hs.all K20) (hw.all K20)  ) (fun e_ w_ h_ => ⟨_, h_.1, rfl, h_.2⟩)) ?_
 rintro _ w28 ⟨rfl, k29⟩
 have B30 := B18.all k29 Apart.none
 have B31 := B19.all k29 id
 have B32 := B13.all k29 id
 have K33 := K20.trans k29 (fun _ _ x => x.elim)
 refine wl_v (.bool true) rfl rfl (y_asg rfl rfl ⟨rfl, rfl⟩) ?_
 refine wl_nil fun F34 hF35 => ?_
 have s36 := (hF35 0).trans s23
 have s37 := (hF35 1).trans s24
 have s38 := (hF35 92).trans s25
 have s39 := (hF35 6).trans s26
 have s40 := (hF35 7).trans s27
 have s41 : F34 9 = .bool true := (hF35 9).trans rfl
 clear hF35
 refine then_normal ?_
 refine wq_seq ?_
 refine wq_seq ?_
 refine wq_region ?_
 refine wl_v (v) rfl rfl (y_mov rfl s37 ⟨rfl, rfl⟩) ?_
 refine wl_v (.int .i64 ((((L).length : Nat) : Int))) rfl rfl (y_lenRo (r := rCh) rfl rfl rfl B30 ⟨rfl, rfl⟩) ?_
 refine wl_v (.bool (decide ((20) < ((((L).length : Nat) : Int))))) rfl rfl (y_gtr rfl rfl rfl rfl ⟨rfl, rfl⟩) ?_
 refine wl_nil fun F42 hF43 => ?_
 have s44 := (hF43 0).trans s36
 have s45 := (hF43 1).trans s37
 have s46 := (hF43 92).trans s38
 have s47 := (hF43 6).trans s39
 have s48 := (hF43 7).trans s40
 have s49 := (hF43 9).trans s41
 have s50 : F42 21 = .bool (decide ((20) < ((((L).length : Nat) : Int)))) := (hF43 21).trans rfl
 clear hF43
 refine then_normal ?_
 refine wq_cond s50 (fun c51 => ?_) (fun c51 => ?_)
 ·replace c51 := of_decide_eq_true c51
  refine wq_seq ?_
  refine wq_region ?_
  refine wl_v (.bool true) rfl rfl (y_mov rfl s49 ⟨rfl, rfl⟩) ?_
  refine wl_v (.bool true) rfl rfl (y_asg rfl rfl ⟨rfl, rfl⟩) ?_
  refine wl_nil fun F52 hF53 => ?_
  have s54 := (hF53 92).trans s46
  have s55 : F52 8 = .bool true := (hF53 8).trans rfl
  clear hF53
  refine then_normal ?_
  refine wq_ret ?_
  refine then_ret ?_
  exact end_tmp (v := .bool true) s54 rfl rfl s55 ⟨rfl, K33⟩
 ·replace c51 := of_decide_eq_false c51
  refine wq_skip ?_
  refine then_normal ?_
  refine wq_seq ?_
  refine wq_region ?_
  refine wl_v (.agg #[.slice none 0 0, .int .i64 0]) rfl rfl (y_buildR (cells := #[.slice none 0 0, .int .i64 0]) rfl (by kernel_rfl) rfl ⟨rfl, rfl⟩) ?_
  refine wl_box_wri rfl rfl rfl rfl fun p56 w57 T61 B60 g62 k58 => ?_
  have gr63 : Grew w0 noB (T61) := Grew.new K33 g62
  have ap64 : Apart (T61) (T_l) := Apart.new g62 (B30).live
  have ap65 : Apart (T61) (onB p1) := Apart.new g62 (onB_live (B31).lt)
  have ap66 : Apart (T61) (onB p10) := Apart.new g62 (onB_live (B32).lt)
  have B67 := B30.all k58 Apart.none
  have B68 := B31.all k58 id
  have B69 := B32.all k58 id
  have K70 := K33.trans k58 (fun _ _ x => x.elim)
  refine wl_v (.pointer (some ⟨p56, 0, none⟩)) rfl rfl (y_asg rfl rfl ⟨rfl, rfl⟩) ?_
  refine wl_nil fun F71 hF72 => ?_
  have s73 := (hF72 0).trans s44
  have s74 := (hF72 1).trans s45
  have s75 := (hF72 92).trans s46
  have s76 := (hF72 6).trans s47
  have s77 := (hF72 7).trans s48
  have s78 := (hF72 9).trans s49
  have s79 : F71 10 = .pointer (some ⟨p56, 0, none⟩) := (hF72 10).trans rfl
  clear hF72
  refine then_normal ?_
  refine wq_seq ?_
  refine wq_region ?_
  refine wl_v (.slice none 0 0) rfl rfl (y_asg rfl rfl ⟨rfl, rfl⟩) ?_
  refine wl_nil fun F80 hF81 => ?_
  have s82 := (hF81 0).trans s73
  have s83 := (hF81 1).trans s74
  have s84 := (hF81 92).trans s75
  have s85 := (hF81 6).trans s76
  have s86 := (hF81 7).trans s77
  have s87 := (hF81 9).trans s78
  have s88 := (hF81 10).trans s79
  have s89 : F80 11 = .slice none 0 0 := (hF81 11).trans rfl
  clear hF81
  refine then_normal ?_
  refine wq_seq ?_
  refine wq_seq ?_
  refine wq_region ?_
  refine wl_v (.int .i64 (0)) rfl rfl (y_asg rfl rfl ⟨rfl, rfl⟩) ?_
  refine wl_nil fun F90 hF91 => ?_
  have s92 := (hF91 0).trans s82
  have s93 := (hF91 1).trans s83
  have s94 := (hF91 92).trans s84
  have s95 := (hF91 6).trans s85
  have s96 := (hF91 7).trans s86
  have s97 := (hF91 9).trans s87
  have s98 := (hF91 10).trans s88
  have s99 := (hF91 11).trans s89
  have s100 : F90 12 = .int .i64 (0) := (hF91 12).trans rfl
  clear hF91
  refine then_normal ?_
  refine wq_block ?_
  refine wq_loop (fun nn FF ww => ∃ (i : Nat), ∃ (V : Value), ∃ (T101 : Nat → Prop), ∃ (T102 : Nat → Prop), (i ≤ L.length) ∧ nn = L.length - i ∧ FF 0 = .int .i64 (k) ∧ FF 1 = v ∧ FF 6 = .pointer (some ⟨p1, 0, none⟩) ∧ FF 7 = .pointer (some ⟨p10, 0, none⟩) ∧ FF 9 = .bool true ∧ FF 10 = .pointer (some ⟨p56, 0, none⟩) ∧ FF 92 = undef ∧ FF 11 = V ∧ FF 12 = .int .i64 (((i : Nat) : Int)) ∧ Kept (fun _ => False) w0 ww ∧ RoA rCh ww (T_l) v (L) ∧ Stc ww p1 23 [.int .i64 (ax), .int .i64 (ay)] ∧ Stc ww p10 23 [.int .i64 (bx), .int .i64 (yy)] ∧ Wri ww (T101) p56 (bitL ax ay bx yy (okL k (L.take i))) ∧ RoO rCh ww (T102) V (okL k (L.take i)) ∧ Grew w0 (noB) T101 ∧ Grew w0 (noB) T102 ∧ Apart (T101) (T_l) ∧ Apart (T101) (onB p1) ∧ Apart (T101) (onB p10) ∧ Apart (T101) (T102) ∧ Apart (T102) (T_l) ∧ Apart (T102) (onB p1) ∧ Apart (T102) (onB p10)) (L.length - (0)) ⟨0, (.slice none 0 0), T61, noB, by omega, rfl, s92, s93, s95, s96, s97, s98, s94, s99, s100, K70, B67, B68, B69, B60, (RoO.nil rCh _), gr63, (Grew.refl _ _), ap64, ap65, ap66, Apart.none, Apart.none.symm, Apart.none.symm, Apart.none.symm⟩ ?_
  rintro n106 F103 w104 ⟨i, V, T101, T102, i107, hn106, s108, s109, s110, s111, s112, s113, s114, s115, s116, K105, B117, B118, B119, B120, B121, gr122, gr123, ap124, ap125, ap126, ap127, ap128, ap129, ap130⟩
  refine wq_seq ?_
  refine wq_seq ?_
  try (have hL20 : L.length ≤ 20 := by omega)
  refine wq_region ?_
  refine wl_v (.int .i64 (((i : Nat) : Int))) rfl rfl (y_mov rfl s116 ⟨rfl, rfl⟩) ?_
  refine wl_v (v) rfl rfl (y_mov rfl s109 ⟨rfl, rfl⟩) ?_
  refine wl_v (.int .i64 ((((L).length : Nat) : Int))) rfl rfl (y_lenRo (r := rCh) rfl rfl rfl B117 ⟨rfl, rfl⟩) ?_
  refine wl_v (.bool (decide ((((i : Nat) : Int)) < ((((L).length : Nat) : Int))))) rfl rfl (y_lss rfl rfl rfl rfl ⟨rfl, rfl⟩) ?_
  refine wl_nil fun F131 hF132 => ?_
  have s133 := (hF132 0).trans s108
  have s134 := (hF132 1).trans s109
  have s135 := (hF132 6).trans s110
  have s136 := (hF132 7).trans s111
  have s137 := (hF132 9).trans s112
  have s138 := (hF132 10).trans s113
  have s139 := (hF132 92).trans s114
  have s140 := (hF132 11).trans s115
  have s141 := (hF132 12).trans s116
  have s142 : F131 28 = .bool (decide ((((i : Nat) : Int)) < ((((L).length : Nat) : Int)))) := (hF132 28).trans rfl
  clear hF132
  refine then_normal ?_
  refine wq_cond s142 (fun c143 => ?_) (fun c143 => ?_)
  ·replace c143 := of_decide_eq_true c143
   refine wq_skip ?_
   refine then_normal ?_
   refine wq_seq ?_
   refine wq_block ?_
   refine wq_seq ?_
   have hbs := bitL_short ax ay bx yy (okL k (L.take i))
   have hol := okL_len k (L.take i) 20 (by rw [List.length_take]; omega)
   refine wq_tail 8 [some 31, some 32, some 33, some 34, some 35, some 36, some 37, some 38] [Pd.eq (.pointer (some ⟨p56, 0, none⟩)), Pd.eq (.int .i64 (k)), Pd.eq (v), Pd.eq (.int .i64 (((i : Nat) : Int))), Pd.eq (bytAddr (v) ((i) * 21)), Pd.eq (.agg (chW ((L).getD (i) ⟨0, 0, 0, 0, 0, fun _ => 0⟩)).toArray), Pd.eq (.agg #[.int .i64 (ax), .int .i64 (ay)]), Pd.eq (.agg #[.int .i64 (bx), .int .i64 (yy)])] (by kernel_rfl) (by kernel_rfl) (by kernel_rfl) ?_ ?_
   ·refine stepsF_cons ?_ ?_
    ·refine StepF.one rfl fun F_ w_ hR hout hD => ?_
     exact (y_mov rfl ((hout 10 rfl (by decide)).trans s138) ⟨rfl, Kept.refl _ _⟩)
    refine stepsF_cons ?_ ?_
    ·refine StepF.one rfl fun F_ w_ hR hout hD => ?_
     exact (y_mov rfl ((hout 0 rfl (by decide)).trans s133) ⟨rfl, Kept.refl _ _⟩)
    refine stepsF_cons ?_ ?_
    ·refine StepF.one rfl fun F_ w_ hR hout hD => ?_
     exact (y_mov rfl ((hout 1 rfl (by decide)).trans s134) ⟨rfl, Kept.refl _ _⟩)
    refine stepsF_cons ?_ ?_
    ·refine StepF.one rfl fun F_ w_ hR hout hD => ?_
     exact (y_mov rfl ((hout 12 rfl (by decide)).trans s141) ⟨rfl, Kept.refl _ _⟩)
    refine stepsF_cons ?_ ?_
    ·refine StepF.one rfl fun F_ w_ hR hout hD => ?_
     have g33 : F_ 33 = v := (hD.get 0 rfl rfl rfl)
     have g34 : F_ 34 = .int .i64 (((i : Nat) : Int)) := (hD.get 1 rfl rfl rfl)
     exact (y_atRo (r := rCh) (i) rfl g33 g34 (by omega) (B117.all hR Apart.none) (by omega) ⟨rfl, Kept.refl _ _⟩)
    refine stepsF_cons ?_ ?_
    ·refine StepF.one rfl fun F_ w_ hR hout hD => ?_
     have g35 : F_ 35 = bytAddr (v) ((i) * 21) := (hD.get 0 rfl rfl rfl)
     exact (y_ldRoP (r := rCh) (n := 21) (i) 0 stcT_choice rfl g35 (B117.all hR Apart.none) (by omega) (by decide) rfl ⟨rfl, Kept.refl _ _⟩)
    refine stepsF_cons ?_ ?_
    ·refine StepF.one rfl fun F_ w_ hR hout hD => ?_
     exact (y_load_stc stcT_vector rfl ((hout 6 rfl (by decide)).trans s135) (B118.all hR id) ⟨rfl, Kept.refl _ _⟩)
    refine stepsF_cons ?_ ?_
    ·refine StepF.one rfl fun F_ w_ hR hout hD => ?_
     exact (y_load_stc stcT_vector rfl ((hout 7 rfl (by decide)).trans s136) (B119.all hR id) ⟨rfl, Kept.refl _ _⟩)
    exact stepsF_nil
   intro v144 F145 w146 k147 G148 hF149
   have B151 := B117.all k147 Apart.none
   have B152 := B118.all k147 id
   have B153 := B119.all k147 id
   have B154 := B120.all k147 Apart.none
   have B155 := B121.all k147 Apart.none
   have K156 := K105.trans k147 (fun _ _ x => x.elim)
   have s157 := (hF149 0).trans s133
   have s158 := (hF149 1).trans s134
   have s159 := (hF149 6).trans s135
   have s160 := (hF149 7).trans s136
   have s161 := (hF149 9).trans s137
   have s162 := (hF149 10).trans s138
   have s163 := (hF149 92).trans s139
   have s164 := (hF149 11).trans s140
   have s165 := (hF149 12).trans s141
   have s166 : F145 31 = .pointer (some ⟨p56, 0, none⟩) := (hF149 31).trans (G148 0 (by decide))
   have s167 : F145 32 = .int .i64 (k) := (hF149 32).trans (G148 1 (by decide))
   have s168 : F145 36 = .agg (chW ((L).getD (i) ⟨0, 0, 0, 0, 0, fun _ => 0⟩)).toArray := (hF149 36).trans (G148 5 (by decide))
   have s169 : F145 37 = .agg #[.int .i64 (ax), .int .i64 (ay)] := (hF149 37).trans (G148 6 (by decide))
   have s170 : F145 38 = .agg #[.int .i64 (bx), .int .i64 (yy)] := (hF149 38).trans (G148 7 (by decide))
   clear G148 hF149
   refine wl_call (R := fun v_ w_ => ∃ (T173 : Nat → Prop), .int .i64 (chE (k) ((L).getD (i) ⟨0, 0, 0, 0, 0, fun _ => 0⟩)) = v_ ∧ Kept (T101) w146 w_ ∧ (Wri w_ T173 p56 ((bitL ax ay bx yy (okL k (L.take i))) ++ wrCh (k) ((L).getD (i) ⟨0, 0, 0, 0, 0, fun _ => 0⟩) (ax) (ay) (bx) (yy)) ∧ Grew w146 (T101) T173)) rfl rfl (y_cs rfl rfl rfl (fun _ _ => by kernel_rfl) (ev_func _) (vsC s166 (vsC s167 (vsC s168 (vsC s169 (vsC s170 vsN))))) (bl_write (p56) (bitL ax ay bx yy (okL k (L.take i))) (k) ((L).getD (i) ⟨0, 0, 0, 0, 0, fun _ => 0⟩) (ax) (ay) (bx) (yy) (T101) _ (hA.all K156) (hO.all K156) (aboveN gr122 hA) (by omega) B154 ) (fun e_ w_ h_ => by obtain ⟨T173_, he_, hr_⟩ := h_; exact ⟨_, he_, T173_, rfl, hr_⟩)) ?_
   rintro _ w171 ⟨T173, rfl, k172, ⟨B174, g175⟩⟩
   have B176 := B151.all k172 (fun i h x => (((ap124).symm) i h x))
   have B177 := B152.all k172 (fun x => (((ap125).symm) p1 rfl x))
   have B178 := B153.all k172 (fun x => (((ap126).symm) p10 rfl x))
   have B179 := B155.all k172 (fun i h x => (((ap127).symm) i h x))
   have K180 := K156.trans k172 (fun i hi x => ((Grew.ok (S := fun _ => False) gr122 noB_le) i hi x))
   have gr181 := gr122.trans K156 g175
   have ap182 : Apart T173 (T_l) := (ap124).grew g175 (B151).live
   have ap183 : Apart T173 (onB p1) := (ap125).grew g175 (onB_live (B152).lt)
   have ap184 : Apart T173 (onB p10) := (ap126).grew g175 (onB_live (B153).lt)
   have ap185 : Apart T173 (T102) := (ap127).grew g175 (B155).live
   refine wl_v (.int .i64 (chE (k) ((L).getD (i) ⟨0, 0, 0, 0, 0, fun _ => 0⟩))) rfl rfl (y_asg rfl rfl ⟨rfl, rfl⟩) ?_
   refine wl_nil fun F186 hF187 => ?_
   have s188 := (hF187 0).trans s157
   have s189 := (hF187 1).trans s158
   have s190 := (hF187 6).trans s159
   have s191 := (hF187 7).trans s160
   have s192 := (hF187 9).trans s161
   have s193 := (hF187 10).trans s162
   have s194 := (hF187 92).trans s163
   have s195 := (hF187 11).trans s164
   have s196 := (hF187 12).trans s165
   have s197 : F186 13 = .int .i64 (chE (k) ((L).getD (i) ⟨0, 0, 0, 0, 0, fun _ => 0⟩)) := (hF187 13).trans rfl
   clear hF187
   refine then_normal ?_
   refine wq_seq ?_
   refine wq_seq ?_
   refine wq_region ?_
   refine wl_v (.int .i64 (chE (k) ((L).getD (i) ⟨0, 0, 0, 0, 0, fun _ => 0⟩))) rfl rfl (y_mov rfl s197 ⟨rfl, rfl⟩) ?_
   refine wl_v (.int .i64 (k)) rfl rfl (y_mov rfl s188 ⟨rfl, rfl⟩) ?_
   refine wl_v (v) rfl rfl (y_mov rfl s189 ⟨rfl, rfl⟩) ?_
   refine wl_v (.int .i64 (((i : Nat) : Int))) rfl rfl (y_mov rfl s196 ⟨rfl, rfl⟩) ?_
   refine wl_v (bytAddr (v) ((i) * 21)) rfl rfl (y_atRo (r := rCh) (i) rfl rfl rfl (by omega) B176 (by omega) ⟨rfl, rfl⟩) ?_
   refine wl_v (.agg (chW ((L).getD (i) ⟨0, 0, 0, 0, 0, fun _ => 0⟩)).toArray) rfl rfl (y_ldRoP (r := rCh) (n := 21) (i) 0 stcT_choice rfl rfl B176 (by omega) (by decide) rfl ⟨rfl, rfl⟩) ?_
   refine wl_call (R := fun v_ w_ => v_ = .int .i64 (chE (k) ((L).getD (i) ⟨0, 0, 0, 0, 0, fun _ => 0⟩)) ∧ Kept (fun _ => False) w171 w_) rfl rfl (y_cs rfl rfl rfl (fun _ _ => by kernel_rfl) (ev_func _) (vsC rfl (vsC rfl vsN)) (bl_check (k) ((L).getD (i) ⟨0, 0, 0, 0, 0, fun _ => 0⟩)  _ (hA.all K180)  ) (fun e_ w_ h_ => ⟨_, h_.1, rfl, h_.2⟩)) ?_
   rintro _ w198 ⟨rfl, k199⟩
   have B200 := B176.all k199 Apart.none
   have B201 := B177.all k199 id
   have B202 := B178.all k199 id
   have B203 := B174.all k199 Apart.none
   have B204 := B179.all k199 Apart.none
   have K205 := K180.trans k199 (fun _ _ x => x.elim)
   refine wl_v (.bool false) rfl rfl (y_neqI rfl rfl rfl (decide_eq_false (fun h => h rfl)) ⟨rfl, rfl⟩) ?_
   refine wl_nil fun F206 hF207 => ?_
   have s208 := (hF207 0).trans s188
   have s209 := (hF207 1).trans s189
   have s210 := (hF207 6).trans s190
   have s211 := (hF207 7).trans s191
   have s212 := (hF207 9).trans s192
   have s213 := (hF207 10).trans s193
   have s214 := (hF207 92).trans s194
   have s215 := (hF207 11).trans s195
   have s216 := (hF207 12).trans s196
   have s217 := (hF207 13).trans s197
   have s218 : F206 47 = .bool false := (hF207 47).trans rfl
   clear hF207
   refine then_normal ?_
   refine wq_cond (t := false) s218 (fun e => by cases e) (fun _ => ?_)
   refine wq_skip ?_
   refine then_normal ?_
   refine wq_seq ?_
   refine wq_region ?_
   refine wl_v (.int .i64 (chE (k) ((L).getD (i) ⟨0, 0, 0, 0, 0, fun _ => 0⟩))) rfl rfl (y_mov rfl s217 ⟨rfl, rfl⟩) ?_
   refine wl_v (.bool (decide ((chE (k) ((L).getD (i) ⟨0, 0, 0, 0, 0, fun _ => 0⟩)) = (0)))) rfl rfl (y_eqlI rfl rfl rfl rfl ⟨rfl, rfl⟩) ?_
   refine wl_nil fun F219 hF220 => ?_
   have s221 := (hF220 0).trans s208
   have s222 := (hF220 1).trans s209
   have s223 := (hF220 6).trans s210
   have s224 := (hF220 7).trans s211
   have s225 := (hF220 9).trans s212
   have s226 := (hF220 10).trans s213
   have s227 := (hF220 92).trans s214
   have s228 := (hF220 11).trans s215
   have s229 := (hF220 12).trans s216
   have s230 : F219 49 = .bool (decide ((chE (k) ((L).getD (i) ⟨0, 0, 0, 0, 0, fun _ => 0⟩)) = (0))) := (hF220 49).trans rfl
   clear hF220
   refine then_normal ?_
   refine wq_cond s230 (fun c231 => ?_) (fun c231 => ?_)
   ·replace c231 := of_decide_eq_true c231
    refine wq_region ?_
    refine wl_v (V) rfl rfl (y_mov rfl s228 ⟨rfl, rfl⟩) ?_
    refine wl_v (v) rfl rfl (y_mov rfl s222 ⟨rfl, rfl⟩) ?_
    refine wl_v (.int .i64 (((i : Nat) : Int))) rfl rfl (y_mov rfl s229 ⟨rfl, rfl⟩) ?_
    refine wl_v (bytAddr (v) ((i) * 21)) rfl rfl (y_atRo (r := rCh) (i) rfl rfl rfl (by omega) B200 (by omega) ⟨rfl, rfl⟩) ?_
    refine wl_v (.agg (chW ((L).getD (i) ⟨0, 0, 0, 0, 0, fun _ => 0⟩)).toArray) rfl rfl (y_ldRoP (r := rCh) (n := 21) (i) 0 stcT_choice rfl rfl B200 (by omega) (by decide) rfl ⟨rfl, rfl⟩) ?_
    refine wl_builtRo (r := rCh) (xs := [.tmp 54]) (vs := [.agg (chW ((L).getD (i) ⟨0, 0, 0, 0, 0, fun _ => 0⟩)).toArray]) (l := [(L).getD (i) ⟨0, 0, 0, 0, 0, fun _ => 0⟩]) rfl rfl rfl rfl rfl (vsC rfl vsN) rfl (by first | decide | exact Nat.le_of_ble_eq_true rfl) (by first | decide | exact Nat.le_of_ble_eq_true rfl) fun v232 w233 T237 B235 g236 k234 => ?_
    have B244 := B200.all k234 Apart.none
    have B245 := B201.all k234 id
    have B246 := B202.all k234 id
    have B247 := B203.all k234 Apart.none
    have B248 := B204.all k234 Apart.none
    have K249 := K205.trans k234 (fun _ _ x => x.elim)
    refine wl_appendRo (r := rCh) rfl rfl rfl rfl rfl rfl B248 (B235).roa (by first | omega | (simp; done) | (simp; omega)) fun v250 w251 T255 B253 g254 k252 => ?_
    have gr256 := Grew.trans gr123 K249 g254
    have ap257 : Apart T255 (T_l) := (ap128).grew g254 (B244).live
    have ap258 : Apart T255 (onB p1) := (ap129).grew g254 (onB_live (B245).lt)
    have ap259 : Apart T255 (onB p10) := (ap130).grew g254 (onB_live (B246).lt)
    have ap260 : Apart T255 (T173) := ((ap185).symm).grew g254 (B247).live
    have B262 := B244.all k252 (fun i h x => (((ap128).symm) i h x))
    have B263 := B245.all k252 (fun x => (((ap129).symm) p1 rfl x))
    have B264 := B246.all k252 (fun x => (((ap130).symm) p10 rfl x))
    have B265 := B247.all k252 (fun i h x => ((ap185) i h x))
    have K267 := K249.trans k252 (Grew.ok (S := fun _ => False) gr123 noB_le)
    refine wl_v (v250) rfl rfl (y_asg rfl rfl ⟨rfl, rfl⟩) ?_
    refine wl_nil fun F268 hF269 => ?_
    have s270 := (hF269 0).trans s221
    have s271 := (hF269 1).trans s222
    have s272 := (hF269 6).trans s223
    have s273 := (hF269 7).trans s224
    have s274 := (hF269 9).trans s225
    have s275 := (hF269 10).trans s226
    have s276 := (hF269 92).trans s227
    have s277 := (hF269 12).trans s229
    have s278 : F268 11 = v250 := (hF269 11).trans rfl
    clear hF269
    refine in_normal ?_
    refine then_normal ?_
    refine wq_region ?_
    refine wl_v (.int .i64 (((i : Nat) : Int))) rfl rfl (y_mov rfl s277 ⟨rfl, rfl⟩) ?_
    refine wl_v (.int .i64 (((i + 1 : Nat) : Int))) rfl rfl (y_add rfl rfl rfl (i64_n (by omega) (by omega)) ⟨rfl, rfl⟩) ?_
    refine wl_v (.int .i64 (((i + 1 : Nat) : Int))) rfl rfl (y_asg rfl rfl ⟨rfl, rfl⟩) ?_
    refine wl_nil fun F279 hF280 => ?_
    have s281 := (hF280 0).trans s270
    have s282 := (hF280 1).trans s271
    have s283 := (hF280 6).trans s272
    have s284 := (hF280 7).trans s273
    have s285 := (hF280 9).trans s274
    have s286 := (hF280 10).trans s275
    have s287 := (hF280 92).trans s276
    have s288 := (hF280 11).trans s278
    have s289 : F279 12 = .int .i64 (((i + 1 : Nat) : Int)) := (hF280 12).trans rfl
    clear hF280
    exact then_normal ⟨(L.length - (i + 1)), by omega, i + 1, (v250), T173, T255, by omega, rfl, s281, s282, s283, s284, s285, s286, s287, s288, s289, K267, B262, B263, B264, ((B265).cast (bits_step (by omega))), (by first | (rw [okL_yes (by omega) (by assumption)]; exact B253) | (rw [okL_no (by omega) (by assumption)]; exact B253)), gr181, gr256, ap182, ap183, ap184, (ap260).symm, ap257, ap258, ap259⟩
   ·replace c231 := of_decide_eq_false c231
    refine wq_skip ?_
    refine in_normal ?_
    refine then_normal ?_
    refine wq_region ?_
    refine wl_v (.int .i64 (((i : Nat) : Int))) rfl rfl (y_mov rfl s229 ⟨rfl, rfl⟩) ?_
    refine wl_v (.int .i64 (((i + 1 : Nat) : Int))) rfl rfl (y_add rfl rfl rfl (i64_n (by omega) (by omega)) ⟨rfl, rfl⟩) ?_
    refine wl_v (.int .i64 (((i + 1 : Nat) : Int))) rfl rfl (y_asg rfl rfl ⟨rfl, rfl⟩) ?_
    refine wl_nil fun F290 hF291 => ?_
    have s292 := (hF291 0).trans s221
    have s293 := (hF291 1).trans s222
    have s294 := (hF291 6).trans s223
    have s295 := (hF291 7).trans s224
    have s296 := (hF291 9).trans s225
    have s297 := (hF291 10).trans s226
    have s298 := (hF291 92).trans s227
    have s299 := (hF291 11).trans s228
    have s300 : F290 12 = .int .i64 (((i + 1 : Nat) : Int)) := (hF291 12).trans rfl
    clear hF291
    exact then_normal ⟨(L.length - (i + 1)), by omega, i + 1, (V), T173, T102, by omega, rfl, s292, s293, s294, s295, s296, s297, s298, s299, s300, K205, B200, B201, B202, ((B203).cast (bits_step (by omega))), (by first | (rw [okL_yes (by omega) (by assumption)]; exact B204) | (rw [okL_no (by omega) (by assumption)]; exact B204)), gr181, gr123, ap182, ap183, ap184, ap185, ap128, ap129, ap130⟩
  ·replace c143 := of_decide_eq_false c143
   refine wq_exit ?_
   refine then_exit ?_
   refine then_exit ?_
   have l301 : L.length = i := by omega
   subst l301
   refine in_here ?_
   refine then_normal ?_
   refine wq_seq ?_
   obtain ⟨S, hS⟩ : ∃ S, S = okL k L := ⟨_, rfl⟩
   have hSl : S.length ≤ 20 := by rw [hS]; exact okL_len k L 20 (by omega)
   have hSb := bitL_short ax ay bx yy S
   have B302 : Wri w104 (T101) p56 (bitL ax ay bx yy S) := ((by have h_ := B120; rw [List.take_length, ← hS] at h_; exact h_))
   have B303 : RoO rCh w104 (T102) V (S) := ((by have h_ := B121; rw [List.take_length, ← hS] at h_; exact h_))
   refine wq_region ?_
   refine wl_v (.pointer (some ⟨p56, 0, none⟩)) rfl rfl (y_mov rfl s138 ⟨rfl, rfl⟩) ?_
   refine wl_call (R := fun v_ w_ => ∃ (T306 : Nat → Prop), .tuple #[] = v_ ∧ Kept (T101) w104 w_ ∧ (Wri w_ T306 p56 ((bitL ax ay bx yy S) ++ endBits (bitL ax ay bx yy S).length) ∧ Grew w104 (T101) T306)) rfl rfl (y_cs rfl rfl rfl (fun _ _ => by kernel_rfl) (ev_func _) (vsC rfl vsN) (t_end (p56) (bitL ax ay bx yy S) (T101) _ (by omega) B302 ) (fun e_ w_ h_ => by obtain ⟨T306_, he_, hr_⟩ := h_; exact ⟨_, he_, T306_, rfl, hr_⟩)) ?_
   rintro _ w304 ⟨T306, rfl, k305, ⟨B307, g308⟩⟩
   have B309 := B117.all k305 (fun i h x => (((ap124).symm) i h x))
   have B310 := B118.all k305 (fun x => (((ap125).symm) p1 rfl x))
   have B311 := B119.all k305 (fun x => (((ap126).symm) p10 rfl x))
   have B312 := B303.all k305 (fun i h x => (((ap127).symm) i h x))
   have K313 := K105.trans k305 (fun i hi x => ((Grew.ok (S := fun _ => False) gr122 noB_le) i hi x))
   refine wl_nil fun F319 hF320 => ?_
   have s321 := (hF320 0).trans s133
   have s322 := (hF320 6).trans s135
   have s323 := (hF320 7).trans s136
   have s324 := (hF320 9).trans s137
   have s325 := (hF320 10).trans s138
   have s326 := (hF320 92).trans s139
   have s327 := (hF320 11).trans s140
   clear hF320
   refine then_normal ?_
   refine wq_seq ?_
   refine wq_region ?_
   refine wl_v (.pointer (some ⟨p56, 0, none⟩)) rfl rfl (y_mov rfl s325 ⟨rfl, rfl⟩) ?_
   refine wl_call (R := fun v_ w_ => ∃ (v328 : Value) (T331 : Nat → Prop), v328 = v_ ∧ Kept (fun _ => False) w304 w_ ∧ (Byt w_ T331 v328 (pack ((bitL ax ay bx yy S) ++ endBits (bitL ax ay bx yy S).length)) ∧ Grew w304 noB T331)) rfl rfl (y_cs rfl rfl rfl (fun _ _ => by kernel_rfl) (ev_func _) (vsC rfl vsN) (t_bytes (p56) ((bitL ax ay bx yy S) ++ endBits (bitL ax ay bx yy S).length) (T306) _ (by rw [List.length_append, endBits_length]; omega) B307 ) (fun e_ w_ h_ => by obtain ⟨v328_, T331_, he_, hr_⟩ := h_; exact ⟨_, he_, v328_, T331_, rfl, hr_⟩)) ?_
   rintro _ w329 ⟨v328, T331, rfl, k330, ⟨B332, g333⟩⟩
   have B334 := B309.all k330 Apart.none
   have B335 := B310.all k330 id
   have B336 := B311.all k330 id
   have B337 := B307.all k330 Apart.none
   have B338 := B312.all k330 Apart.none
   have K339 := K313.trans k330 (fun _ _ x => x.elim)
   refine wl_call (R := fun v_ w_ => ∃ (v346 : Nat) (T349 : Nat → Prop), .pointer (some ⟨v346, 0, none⟩) = v_ ∧ Kept (fun _ => False) w329 w_ ∧ (Rdi w_ T349 v346 ((pack ((bitL ax ay bx yy S) ++ endBits (bitL ax ay bx yy S).length))) (some 0) ∧ Grew w329 noB T349)) rfl rfl (y_cs rfl rfl rfl (fun _ _ => by kernel_rfl) (ev_func _) (vsC rfl vsN) (t_new (v328) (pack ((bitL ax ay bx yy S) ++ endBits (bitL ax ay bx yy S).length)) (T331) _ (by rw [pack_length]; unfold nbytes; rw [List.length_append, endBits_length]; omega) B332 ) (fun e_ w_ h_ => by obtain ⟨v346_, T349_, he_, hr_⟩ := h_; exact ⟨_, he_, v346_, T349_, rfl, hr_⟩)) ?_
   rintro _ w347 ⟨v346, T349, rfl, k348, ⟨B350, g351⟩⟩
   have B352 := B334.all k348 Apart.none
   have B353 := B335.all k348 id
   have B354 := B336.all k348 id
   have B355 := B337.all k348 Apart.none
   have B356 := B338.all k348 Apart.none
   have B357 := B332.all k348 Apart.none
   have K358 := K339.trans k348 (fun _ _ x => x.elim)
   have gr359 : Grew w0 noB (T349) := Grew.new K339 g351
   have ap360 : Apart (T349) (T_l) := Apart.new g351 (B334).live
   have ap361 : Apart (T349) (onB p1) := Apart.new g351 (onB_live (B335).lt)
   have ap362 : Apart (T349) (onB p10) := Apart.new g351 (onB_live (B336).lt)
   have ap363 : Apart (T349) (T306) := Apart.new g351 (B337).live
   have ap364 : Apart (T349) (T102) := Apart.new g351 (B338).live
   have ap365 : Apart (T349) (T331) := Apart.new g351 (B332).live
   refine wl_v (.pointer (some ⟨v346, 0, none⟩)) rfl rfl (y_asg rfl rfl ⟨rfl, rfl⟩) ?_
   refine wl_nil fun F366 hF367 => ?_
   have s368 := (hF367 0).trans s321
   have s369 := (hF367 6).trans s322
   have s370 := (hF367 7).trans s323
   have s371 := (hF367 9).trans s324
   have s372 := (hF367 92).trans s326
   have s373 := (hF367 11).trans s327
   have s374 : F366 14 = .pointer (some ⟨v346, 0, none⟩) := (hF367 14).trans rfl
   clear hF367
   refine then_normal ?_
   refine wq_seq ?_
   refine wq_seq ?_
   obtain ⟨P, hP⟩ : ∃ P, P = pack (bitL ax ay bx yy S ++ endBits (bitL ax ay bx yy S).length) := ⟨_, rfl⟩
   have hbk0 := bback_pure (k := k) (L := L) (ax := ax) (ay := ay) (bx := bx) (yy := yy) P (by rw [hP, hS])
   rw [← hS] at hbk0
   have hbk := Lib.hid hbk0
   clear hbk0
   have hdn0 := done_end (bitL ax ay bx yy S) (by omega)
   rw [← hP] at hdn0
   have hdn := Lib.hid hdn0
   clear hdn0
   have B375 : Rdi w347 (T349) v346 (P) (some 0) := ((by rw [hP]; exact B350))
   refine wq_region ?_
   refine wl_v (.int .i64 (0)) rfl rfl (y_asg rfl rfl ⟨rfl, rfl⟩) ?_
   refine wl_nil fun F376 hF377 => ?_
   have s378 := (hF377 0).trans s368
   have s379 := (hF377 6).trans s369
   have s380 := (hF377 7).trans s370
   have s381 := (hF377 9).trans s371
   have s382 := (hF377 92).trans s372
   have s383 := (hF377 11).trans s373
   have s384 := (hF377 14).trans s374
   have s385 : F376 15 = .int .i64 (0) := (hF377 15).trans rfl
   clear hF377
   refine then_normal ?_
   refine wq_block ?_
   refine wq_loop (fun nn FF ww => ∃ (j : Nat), ∃ (T386 : Nat → Prop), (j ≤ S.length) ∧ nn = S.length - j ∧ FF 0 = .int .i64 (k) ∧ FF 6 = .pointer (some ⟨p1, 0, none⟩) ∧ FF 7 = .pointer (some ⟨p10, 0, none⟩) ∧ FF 9 = .bool true ∧ FF 11 = V ∧ FF 14 = .pointer (some ⟨v346, 0, none⟩) ∧ FF 92 = undef ∧ FF 15 = .int .i64 (((j : Nat) : Int)) ∧ Kept (fun _ => False) w0 ww ∧ RoA rCh ww (T_l) v (L) ∧ Stc ww p1 23 [.int .i64 (ax), .int .i64 (ay)] ∧ Stc ww p10 23 [.int .i64 (bx), .int .i64 (yy)] ∧ Wri ww (T306) p56 ((bitL ax ay bx yy S) ++ endBits (bitL ax ay bx yy S).length) ∧ RoO rCh ww (T102) V (S) ∧ Byt ww (T331) v328 (pack ((bitL ax ay bx yy S) ++ endBits (bitL ax ay bx yy S).length)) ∧ Rdi ww (T386) v346 (P) (some (bitL ax ay bx yy (S.take j)).length) ∧ Grew w0 (noB) T386 ∧ Apart (T386) (T_l) ∧ Apart (T386) (onB p1) ∧ Apart (T386) (onB p10) ∧ Apart (T386) (T306) ∧ Apart (T386) (T102) ∧ Apart (T386) (T331)) (S.length - (0)) ⟨0, T349, by omega, rfl, s378, s379, s380, s381, s383, s384, s382, s385, K358, B352, B353, B354, B355, B356, B357, B375, gr359, ap360, ap361, ap362, ap363, ap364, ap365⟩ ?_
   rintro n390 F387 w388 ⟨j, T386, i391, hn390, s392, s393, s394, s395, s396, s397, s398, s399, K389, B400, B401, B402, B403, B404, B405, B406, gr407, ap408, ap409, ap410, ap411, ap412, ap413⟩
   refine wq_seq ?_
   refine wq_seq ?_
   refine wq_region ?_
   refine wl_v (.int .i64 (((j : Nat) : Int))) rfl rfl (y_mov rfl s399 ⟨rfl, rfl⟩) ?_
   refine wl_v (V) rfl rfl (y_mov rfl s396 ⟨rfl, rfl⟩) ?_
   refine wl_v (.int .i64 ((((S).length : Nat) : Int))) rfl rfl (y_lenRo (r := rCh) rfl rfl rfl (B404).roa ⟨rfl, rfl⟩) ?_
   refine wl_v (.bool (decide ((((j : Nat) : Int)) < ((((S).length : Nat) : Int))))) rfl rfl (y_lss rfl rfl rfl rfl ⟨rfl, rfl⟩) ?_
   refine wl_nil fun F414 hF415 => ?_
   have s416 := (hF415 0).trans s392
   have s417 := (hF415 6).trans s393
   have s418 := (hF415 7).trans s394
   have s419 := (hF415 9).trans s395
   have s420 := (hF415 11).trans s396
   have s421 := (hF415 14).trans s397
   have s422 := (hF415 92).trans s398
   have s423 := (hF415 15).trans s399
   have s424 : F414 65 = .bool (decide ((((j : Nat) : Int)) < ((((S).length : Nat) : Int)))) := (hF415 65).trans rfl
   clear hF415
   refine then_normal ?_
   refine wq_cond s424 (fun c425 => ?_) (fun c425 => ?_)
   ·replace c425 := of_decide_eq_true c425
    refine wq_skip ?_
    refine then_normal ?_
    refine wq_seq ?_
    refine wq_block ?_
    refine wq_seq ?_
    have hj := hbk.out j (by omega)
    refine wq_region ?_
    refine wl_v (.pointer (some ⟨v346, 0, none⟩)) rfl rfl (y_mov rfl s421 ⟨rfl, rfl⟩) ?_
    refine wl_v (.int .i64 (k)) rfl rfl (y_mov rfl s416 ⟨rfl, rfl⟩) ?_
    refine wl_v (.agg #[.int .i64 (ax), .int .i64 (ay)]) rfl rfl (y_load_stc stcT_vector rfl s417 B401 ⟨rfl, rfl⟩) ?_
    refine wl_v (.agg #[.int .i64 (bx), .int .i64 (yy)]) rfl rfl (y_load_stc stcT_vector rfl s418 B402 ⟨rfl, rfl⟩) ?_
    refine wl_call (R := fun v_ w_ => ∃ (T428 : Nat → Prop), .tuple #[.agg (chW ((rdCh (P) (k) (ax) (ay) (bx) (yy) (some (bitL ax ay bx yy (S.take j)).length)).1)).toArray, .int .i64 ((rdCh (P) (k) (ax) (ay) (bx) (yy) (some (bitL ax ay bx yy (S.take j)).length)).2.1)] = v_ ∧ Kept (T386) w388 w_ ∧ (Rdi w_ T428 v346 ((P)) (rdChT (P) (k) (ax) (ay) (bx) (yy) (some (bitL ax ay bx yy (S.take j)).length)) ∧ Grew w388 (T386) T428)) rfl rfl (y_cs rfl rfl rfl (fun _ _ => by kernel_rfl) (ev_func _) (vsC rfl (vsC rfl (vsC rfl (vsC rfl vsN)))) (bl_read (v346) (P) (some (bitL ax ay bx yy (S.take j)).length) (k) (ax) (ay) (bx) (yy) (T386) _ (hA.all K389) (hO.all K389) (aboveN gr407 hA) B406 ) (fun e_ w_ h_ => by obtain ⟨T428_, he_, hr_⟩ := h_; exact ⟨_, he_, T428_, rfl, hr_⟩)) ?_
    rintro _ w426 ⟨T428, rfl, k427, ⟨B429, g430⟩⟩
    have B431 := B400.all k427 (fun i h x => (((ap408).symm) i h x))
    have B432 := B401.all k427 (fun x => (((ap409).symm) p1 rfl x))
    have B433 := B402.all k427 (fun x => (((ap410).symm) p10 rfl x))
    have B434 := B403.all k427 (fun i h x => (((ap411).symm) i h x))
    have B435 := B404.all k427 (fun i h x => (((ap412).symm) i h x))
    have B436 := B405.all k427 (fun i h x => (((ap413).symm) i h x))
    have K437 := K389.trans k427 (fun i hi x => ((Grew.ok (S := fun _ => False) gr407 noB_le) i hi x))
    have gr438 := gr407.trans K389 g430
    have ap439 : Apart T428 (T_l) := (ap408).grew g430 (B400).live
    have ap440 : Apart T428 (onB p1) := (ap409).grew g430 (onB_live (B401).lt)
    have ap441 : Apart T428 (onB p10) := (ap410).grew g430 (onB_live (B402).lt)
    have ap442 : Apart T428 (T306) := (ap411).grew g430 (B403).live
    have ap443 : Apart T428 (T102) := (ap412).grew g430 (B404).live
    have ap444 : Apart T428 (T331) := (ap413).grew g430 (B405).live
    refine wl_v (.tuple #[.agg (chW ((rdCh (P) (k) (ax) (ay) (bx) (yy) (some (bitL ax ay bx yy (S.take j)).length)).1)).toArray, .int .i64 ((rdCh (P) (k) (ax) (ay) (bx) (yy) (some (bitL ax ay bx yy (S.take j)).length)).2.1)]) rfl rfl (y_mov rfl rfl ⟨rfl, rfl⟩) ?_
    refine wl_v (.agg (chW ((rdCh (P) (k) (ax) (ay) (bx) (yy) (some (bitL ax ay bx yy (S.take j)).length)).1)).toArray) rfl rfl (y_ext rfl rfl rfl ⟨rfl, rfl⟩) ?_
    refine wl_v (.int .i64 ((rdCh (P) (k) (ax) (ay) (bx) (yy) (some (bitL ax ay bx yy (S.take j)).length)).2.1)) rfl rfl (y_ext rfl rfl rfl ⟨rfl, rfl⟩) ?_
    refine wl_alloc_stc (n := 21) (vs := (chL 0 0 0 0 0 (fun _ => (0 : Int)))) rfl rfl rfl (by kernel_rfl) fun p445 w446 B448 g449 k447 => ?_
    have gr450 : Grew w0 noB (onB p445) := Grew.new K437 g449
    have ap451 : Apart (onB p445) (T_l) := Apart.new g449 (B431).live
    have ap452 : Apart (onB p445) (onB p1) := Apart.new g449 (onB_live (B432).lt)
    have ap453 : Apart (onB p445) (onB p10) := Apart.new g449 (onB_live (B433).lt)
    have ap454 : Apart (onB p445) (T306) := Apart.new g449 (B434).live
    have ap455 : Apart (onB p445) (T102) := Apart.new g449 (B435).live
    have ap456 : Apart (onB p445) (T331) := Apart.new g449 (B436).live
    have ap457 : Apart (onB p445) (T428) := Apart.new g449 (B429).live
    have B458 := B431.all k447 Apart.none
    have B459 := B432.all k447 id
    have B460 := B433.all k447 id
    have B461 := B434.all k447 Apart.none
    have B462 := B435.all k447 Apart.none
    have B463 := B436.all k447 Apart.none
    have B464 := B429.all k447 Apart.none
    have K465 := K437.trans k447 (fun _ _ x => x.elim)
    refine wl_store_stc (us := (chW ((rdCh (P) (k) (ax) (ay) (bx) (yy) (some (bitL ax ay bx yy (S.take j)).length)).1))) stcT_choice rfl rfl rfl rfl rfl B448 rfl (oneI rfl (oneI rfl (oneI rfl (oneI rfl (oneI rfl (oneI rfl (oneI rfl (oneI rfl (oneI rfl (oneI rfl (oneI rfl (oneI rfl (oneI rfl (oneI rfl (oneI rfl (oneI rfl (oneI rfl (oneI rfl (oneI rfl (oneI rfl (oneI rfl oneN))))))))))))))))))))) fun w466 B467 k468 => ?_
    have B469 := B458.all k468 (fun i h x => (((ap451).symm) i h x))
    have B470 := B459.all k468 (fun x => (((ap452).symm) p1 rfl x))
    have B471 := B460.all k468 (fun x => (((ap453).symm) p10 rfl x))
    have B472 := B461.all k468 (fun i h x => (((ap454).symm) i h x))
    have B473 := B462.all k468 (fun i h x => (((ap455).symm) i h x))
    have B474 := B463.all k468 (fun i h x => (((ap456).symm) i h x))
    have B475 := B464.all k468 (fun i h x => (((ap457).symm) i h x))
    have K476 := K465.trans k468 (Grew.ok (S := fun _ => False) gr450 noB_le)
    refine wl_v (.int .i64 ((rdCh (P) (k) (ax) (ay) (bx) (yy) (some (bitL ax ay bx yy (S.take j)).length)).2.1)) rfl rfl (y_asg rfl rfl ⟨rfl, rfl⟩) ?_
    refine wl_nil fun F477 hF478 => ?_
    have s479 := (hF478 0).trans s416
    have s480 := (hF478 6).trans s417
    have s481 := (hF478 7).trans s418
    have s482 := (hF478 9).trans s419
    have s483 := (hF478 11).trans s420
    have s484 := (hF478 14).trans s421
    have s485 := (hF478 92).trans s422
    have s486 := (hF478 15).trans s423
    have s487 : F477 16 = .pointer (some ⟨p445, 0, none⟩) := (hF478 16).trans rfl
    have s488 : F477 17 = .int .i64 ((rdCh (P) (k) (ax) (ay) (bx) (yy) (some (bitL ax ay bx yy (S.take j)).length)).2.1) := (hF478 17).trans rfl
    clear hF478
    refine then_normal ?_
    refine wq_seq ?_
    refine wq_said [some 76, some 77, some 78, some 79, some 80, some 81, some 82, some 83, some 84, some 85] [Pd.eq (.agg (chW ((rdCh (P) (k) (ax) (ay) (bx) (yy) (some (bitL ax ay bx yy (S.take j)).length)).1)).toArray), Pd.eq (V), Pd.eq (.int .i64 (((j : Nat) : Int))), Pd.eq (bytAddr (V) ((j) * 21)), Pd.eq (.agg (chW ((S).getD (j) ⟨0, 0, 0, 0, 0, fun _ => 0⟩)).toArray), Pd.eq (.bool false), Pd.eq (.bool false), Pd.eq (.int .i64 ((rdCh (P) (k) (ax) (ay) (bx) (yy) (some (bitL ax ay bx yy (S.take j)).length)).2.1)), Pd.eq (.bool false), Pd.eq (.bool false)] (by kernel_rfl) (by kernel_rfl) ?_ ?_
    ·refine stepsF_cons ?_ ?_
     ·refine StepF.one rfl fun F_ w_ hR hout hD => ?_
      exact (y_load_stc stcT_choice rfl ((hout 16 rfl (by decide)).trans s487) (B467.all hR id) ⟨rfl, Kept.refl _ _⟩)
     refine stepsF_cons ?_ ?_
     ·refine StepF.one rfl fun F_ w_ hR hout hD => ?_
      exact (y_mov rfl ((hout 11 rfl (by decide)).trans s483) ⟨rfl, Kept.refl _ _⟩)
     refine stepsF_cons ?_ ?_
     ·refine StepF.one rfl fun F_ w_ hR hout hD => ?_
      exact (y_mov rfl ((hout 15 rfl (by decide)).trans s486) ⟨rfl, Kept.refl _ _⟩)
     refine stepsF_cons ?_ ?_
     ·refine StepF.one rfl fun F_ w_ hR hout hD => ?_
      have g77 : F_ 77 = V := (hD.get 0 rfl rfl rfl)
      have g78 : F_ 78 = .int .i64 (((j : Nat) : Int)) := (hD.get 1 rfl rfl rfl)
      exact (y_atRo (r := rCh) (j) rfl g77 g78 (by omega) ((B473.all hR Apart.none)).roa (by omega) ⟨rfl, Kept.refl _ _⟩)
     refine stepsF_cons ?_ ?_
     ·refine StepF.one rfl fun F_ w_ hR hout hD => ?_
      have g79 : F_ 79 = bytAddr (V) ((j) * 21) := (hD.get 0 rfl rfl rfl)
      exact (y_ldRoP (r := rCh) (n := 21) (j) 0 stcT_choice rfl g79 ((B473.all hR Apart.none)).roa (by omega) (by decide) rfl ⟨rfl, Kept.refl _ _⟩)
     refine stepsF_cons ?_ ?_
     ·refine StepF.one rfl fun F_ w_ hR hout hD => ?_
      have g76 : F_ 76 = .agg (chW ((rdCh (P) (k) (ax) (ay) (bx) (yy) (some (bitL ax ay bx yy (S.take j)).length)).1)).toArray := (hD.get 0 rfl rfl rfl)
      have g80 : F_ 80 = .agg (chW ((S).getD (j) ⟨0, 0, 0, 0, 0, fun _ => 0⟩)).toArray := (hD.get 1 rfl rfl rfl)
      exact (y_neqCh (c := (rdCh (P) (k) (ax) (ay) (bx) (yy) (some (bitL ax ay bx yy (S.take j)).length)).1) (d := (S).getD (j) ⟨0, 0, 0, 0, 0, fun _ => 0⟩) rfl g76 g80 ((by rw [hj.1]; rfl)) ⟨rfl, Kept.refl _ _⟩)
     refine stepsF_cons ?_ ?_
     ·refine StepF.one rfl fun F_ w_ hR hout hD => ?_
      have g81 : F_ 81 = .bool false := (hD.get 0 rfl rfl rfl)
      exact (y_mov rfl g81 ⟨rfl, Kept.refl _ _⟩)
     refine stepsF_cons ?_ ?_
     ·refine StepF.when 6 false 82 rfl rfl fun F_ w_ hR hout hD => ?_
      have g82 : F_ 82 = .bool false := (hD.get 0 rfl rfl rfl)
      exact ⟨g82, (y_mov rfl ((hout 17 rfl (by decide)).trans s488) ⟨rfl, Kept.refl _ _⟩)⟩
     refine stepsF_cons ?_ ?_
     ·refine StepF.when 6 false 82 rfl rfl fun F_ w_ hR hout hD => ?_
      have g82 : F_ 82 = .bool false := (hD.get 1 rfl rfl rfl)
      have g83 : F_ 83 = .int .i64 ((rdCh (P) (k) (ax) (ay) (bx) (yy) (some (bitL ax ay bx yy (S.take j)).length)).2.1) := (hD.get 0 rfl rfl rfl)
      exact ⟨g82, (y_neqI rfl g83 rfl (decide_eq_false (fun h => h hj.2.1)) ⟨rfl, Kept.refl _ _⟩)⟩
     refine stepsF_cons ?_ ?_
     ·refine StepF.one rfl fun F_ w_ hR hout hD => ?_
      have g82 : F_ 82 = .bool false := (hD.get 0 rfl rfl rfl)
      have g84 : F_ 84 = .bool false := (hD.get 1 rfl rfl rfl)
      exact (y_pickF rfl g82 g84 ⟨rfl, Kept.refl _ _⟩)
     exact stepsF_nil
    intro v489 F490 w491 k492 G493 hF494
    have B496 := B469.all k492 Apart.none
    have B497 := B470.all k492 id
    have B498 := B471.all k492 id
    have B499 := B472.all k492 Apart.none
    have B500 := B473.all k492 Apart.none
    have B501 := B474.all k492 Apart.none
    have B502 := B475.all k492 Apart.none
    have K504 := K476.trans k492 (fun _ _ x => x.elim)
    have s505 := (hF494 0).trans s479
    have s506 := (hF494 6).trans s480
    have s507 := (hF494 7).trans s481
    have s508 := (hF494 9).trans s482
    have s509 := (hF494 11).trans s483
    have s510 := (hF494 14).trans s484
    have s511 := (hF494 92).trans s485
    have s512 := (hF494 15).trans s486
    have s513 : F490 85 = .bool false := (hF494 85).trans (G493 9 (by decide))
    clear G493 hF494
    refine then_normal ?_
    refine wq_cond (t := false) s513 (fun e => by cases e) (fun _ => ?_)
    refine wq_skip ?_
    refine in_normal ?_
    refine then_normal ?_
    have B514 : Rdi w491 (T428) v346 (P) (some (bitL ax ay bx yy (S.take (j + 1))).length) := ((by rw [← hj.2.2]; exact B502))
    refine wq_region ?_
    refine wl_v (.int .i64 (((j : Nat) : Int))) rfl rfl (y_mov rfl s512 ⟨rfl, rfl⟩) ?_
    refine wl_v (.int .i64 (((j + 1 : Nat) : Int))) rfl rfl (y_add rfl rfl rfl (i64_n (by omega) (by omega)) ⟨rfl, rfl⟩) ?_
    refine wl_v (.int .i64 (((j + 1 : Nat) : Int))) rfl rfl (y_asg rfl rfl ⟨rfl, rfl⟩) ?_
    refine wl_nil fun F515 hF516 => ?_
    have s517 := (hF516 0).trans s505
    have s518 := (hF516 6).trans s506
    have s519 := (hF516 7).trans s507
    have s520 := (hF516 9).trans s508
    have s521 := (hF516 11).trans s509
    have s522 := (hF516 14).trans s510
    have s523 := (hF516 92).trans s511
    have s524 : F515 15 = .int .i64 (((j + 1 : Nat) : Int)) := (hF516 15).trans rfl
    clear hF516
    exact then_normal ⟨(S.length - (j + 1)), by omega, j + 1, T428, by omega, rfl, s517, s518, s519, s520, s521, s522, s523, s524, K504, B496, B497, B498, B499, B500, B501, B514, gr438, ap439, ap440, ap441, ap442, ap443, ap444⟩
   ·replace c425 := of_decide_eq_false c425
    refine wq_exit ?_
    refine then_exit ?_
    refine then_exit ?_
    have l525 : S.length = j := by omega
    subst l525
    refine in_here ?_
    refine then_normal ?_
    refine wq_seq ?_
    refine wq_region ?_
    refine wl_v (.bool true) rfl rfl (y_mov rfl s419 ⟨rfl, rfl⟩) ?_
    refine wl_v (.bool true) rfl rfl (y_mov rfl rfl ⟨rfl, rfl⟩) ?_
    refine wl_vw (.pointer (some ⟨v346, 0, none⟩)) 1 true 87 rfl rfl rfl rfl rfl (y_mov rfl s421 ⟨rfl, rfl⟩) ?_
    refine wl_callw (R := fun v_ w_ => v_ = .int .i64 (doneOf (P) (some (bitL ax ay bx yy (S.take S.length)).length)) ∧ Kept (fun _ => False) w388 w_) 1 true 87 rfl rfl rfl rfl rfl (y_cs rfl rfl rfl (fun _ _ => by kernel_rfl) (ev_func _) (vsC rfl vsN) (t_done (v346) (P) (some (bitL ax ay bx yy (S.take S.length)).length) (T386) _  B406 ) (fun e_ w_ h_ => ⟨_, h_.1, rfl, h_.2⟩)) ?_
    rintro _ w526 ⟨rfl, k527⟩
    have K535 := K389.trans k527 (fun _ _ x => x.elim)
    refine wl_vw (.bool true) 1 true 87 rfl rfl rfl rfl rfl (y_eqlI rfl rfl rfl (decide_eq_true (by rw [List.take_length]; exact hdn.out)) ⟨rfl, rfl⟩) ?_
    refine wl_v (.bool true) rfl rfl (y_pickT rfl rfl rfl ⟨rfl, rfl⟩) ?_
    refine wl_v (.bool true) rfl rfl (y_asg rfl rfl ⟨rfl, rfl⟩) ?_
    refine wl_nil fun F536 hF537 => ?_
    have s538 := (hF537 92).trans s422
    have s539 : F536 8 = .bool true := (hF537 8).trans rfl
    clear hF537
    refine then_normal ?_
    refine wq_ret ?_
    exact end_tmp (v := .bool true) s538 rfl rfl s539 ⟨rfl, K535⟩
end Go.Proofs.YtdcbabgcbkdlhaaDoor
set_option maxRecDepth 100000
namespace Go.Proofs.YtdcbabgcbkdlhaaDoor
open Go.ChangeShapes Go.WideShapes Go.ChangeAt Go.RowKit Go.Deep

section
variable {H : Type} {enc : TypeId × Value → H} {w : World} {base : Nat} {spare : Nat → Bool} {held : Bool}
theorem rows_open {α : Type} (r : RowT α) [hk : r.Ok] (P : α → Prop) (hce : Tryd.prog.cellsOf r.e = r.k)
    (hel : ∀ fuel cs y, DataW.trod enc Tryd.prog w base spare held fuel r.e cs = some y → ∃ u, cs = r.enc u ∧ P u)
    {fuel : Nat} {v : Value} {x : DataW H × List MemPlace} (h : DataW.trod enc Tryd.prog w base spare held fuel r.t [v] = some x) :
    ∃ (T : Nat → Prop) (l : List α), RoA r w T v l ∧ ∀ i, i < l.length → P (l.getD i r.d) := by
  rcases open_slice hk.slice h with ⟨hcs, _⟩ | ⟨a, len, cap, m, n, D, Pl, hcs, hb, hl, hm, hmm, hx, hi⟩
  · simp at hcs
    subst hcs
    exact ⟨noB, [], RoA.nil r w, fun i h => absurd h (by simp)⟩
  · simp at hcs
    subst hcs
    rw [hce] at hi
    have hle : len ≤ m := by rw [hmm]; split <;> omega
    have hq : ∀ i, i < len → ∃ u : α, P u ∧ ∀ j, j < r.k → w.cell? ((a.add (i * r.k)).add j) = (r.enc u)[j]? := by
      intro i hil
      obtain ⟨cs', hc, ht⟩ := hi i (by omega)
      obtain ⟨_, hlen, hat⟩ := World.cells?_some hc
      obtain ⟨u, rfl, hp⟩ := hel _ _ _ ht
      exact ⟨u, hp, fun j hj => hat j hj⟩
    have hc : ∃ f : Nat → α, ∀ i, i < len → P (f i) ∧ ∀ j, j < r.k → w.cell? ((a.add (i * r.k)).add j) = (r.enc (f i))[j]? :=
      ⟨fun i => if h : i < len then Classical.choose (hq i h) else r.d, fun i h => by simp only [dif_pos h]; exact Classical.choose_spec (hq i h)⟩
    obtain ⟨f, hf⟩ := hc
    have hgd : ∀ i, i < len → ((List.range len).map f).getD i r.d = f i := fun i hil => by simp [List.getD, hil]
    by_cases hpos : 0 < len
    · obtain ⟨b, off, spot⟩ := a
      have h0 : w.cell? (((⟨b, off, spot⟩ : Addr).add (0 * r.k)).add 0) = some ((r.enc (f 0))[0]'(by rw [hk.len]; exact hk.pos)) := by
        rw [(hf 0 hpos).2 0 hk.pos]; exact List.getElem?_eq_getElem _
      have hs := World.cell?_spot h0
      have hspot : spot = none := by simpa [Addr.add] using hs
      subst hspot
      have hlt : b < w.heap.size := by
        rw [Addr.add_lit, Addr.add_lit] at h0
        exact World.block_lt_of_cell? w _ h0
      refine ⟨onB b, (List.range len).map f, ⟨some ⟨b, off, none⟩, cap, by simp, by simpa using hl, hm, (fun e => by cases e), onB_live hlt, fun _ => ⟨b, off, rfl, rfl, fun j u hj => ?_⟩⟩, fun i hi2 => ?_⟩
      · have hjl : j < ((List.range len).map f).length * r.k := by
          rw [← flat_len (r := r)]
          exact (List.getElem?_eq_some_iff.1 hj).1
        have hjl' : j < len * r.k := by simpa using hjl
        have hi2 : j / r.k < len := Nat.div_lt_of_lt_mul (by rw [Nat.mul_comm]; exact hjl')
        have hm2 : j % r.k < r.k := Nat.mod_lt _ hk.pos
        have e := flat_at (r := r) ((List.range len).map f) (j / r.k) (j % r.k) (by simpa using hi2) hm2
        have hd : j / r.k * r.k + j % r.k = j := by rw [Nat.mul_comm]; exact Nat.div_add_mod j r.k
        rw [hd, hj, hgd _ hi2] at e
        have hcell := (hf _ hi2).2 _ hm2
        rw [Addr.add_lit, Addr.add_lit, show off + j / r.k * r.k + j % r.k = off + j by omega] at hcell
        rw [hcell, ← e]
      · have hil : i < len := by simpa using hi2
        rw [hgd i hil]; exact (hf i hil).1
    · have h0 : len = 0 := by omega
      subst h0
      exact ⟨noB, [], ⟨some a, cap, rfl, Nat.zero_le _, hm, (fun e => by cases e), (fun _ h => h.elim), fun h => absurd h (by simp)⟩, fun i h => absurd h (by simp)⟩
end
end Go.Proofs.YtdcbabgcbkdlhaaDoor
set_option maxRecDepth 100000
namespace Go.Proofs.YtdcbabgcbkdlhaaDoor
open Go.ChangeShapes Go.WideShapes Go.ChangeAt Go.RowKit Go.Deep

section
variable {H : Type} {enc : TypeId × Value → H} {w : World} {base : Nat} {spare : Nat → Bool} {held : Bool}
theorem Tryd.cellsVec : Tryd.prog.cellsOf 23 = 2 := by kernel_rfl
theorem Tryd.cellsVecI : Tryd.prog.cellsOf 3 = 1 := by kernel_rfl
theorem vec_open {r : Reach} {b0 : Nat} {v : Value} {d : DataW H} {ps : List MemPlace} (hval : Value.okWide Tryd.prog w r b0 23 v) (h : DataW.Trod enc Tryd.prog w base spare held 23 v d ps) :
    ∃ X Y : Int, v = .agg #[.int .i64 X, .int .i64 Y] := by
  obtain ⟨cs, rfl, hsz⟩ := okWide_struct Tryd.underlying23 hval
  rw [Tryd.cellsVec] at hsz
  obtain ⟨cs⟩ := cs
  obtain ⟨fuel, hf⟩ := h
  match cs, hsz with
  | [c0, c1], _ =>
    obtain ⟨y0, y1, n, _, _, h0, h1⟩ := trod_struct2 (cs := [c0, c1]) Tryd.underlying23 hf
    simp only [Tryd.cellsVecI, List.drop_zero, List.drop_succ_cons, List.take_succ_cons, List.take_zero] at h0 h1
    obtain ⟨X, hX, _, _⟩ := DataW.trod_int Tryd.underlying3 h0
    obtain ⟨Y, hY, _, _⟩ := DataW.trod_int Tryd.underlying3 h1
    simp only [List.cons.injEq, and_true] at hX hY
    subst hX; subst hY
    exact ⟨X, Y, rfl⟩
end
end Go.Proofs.YtdcbabgcbkdlhaaDoor
set_option maxRecDepth 100000
namespace Go.Proofs.YtdcbabgcbkdlhaaDoor
open Go.ChangeShapes Go.WideShapes Go.ChangeAt Go.RowKit Go.Deep Go.Joins

section
variable {H : Type} {enc : TypeId × Value → H} {w : World} {base : Nat} {spare : Nat → Bool} {held : Bool}
theorem Tryd.cellsChB : Tryd.prog.cellsOf 25 = 16 := by kernel_rfl
theorem Tryd.cellsCh : Tryd.prog.cellsOf 27 = 21 := by kernel_rfl
theorem vec_cells2 {fuel : Nat} {cs : List Value} {y : DataW H × List MemPlace} (h : DataW.trod enc Tryd.prog w base spare held fuel 23 cs = some y) :
    ∃ X Y : Int, cs = [.int .i64 X, .int .i64 Y] := by
  obtain ⟨y0, y1, n, _, hsz, h0, h1⟩ := trod_struct2 Tryd.underlying23 h
  rw [Tryd.cellsVec] at hsz
  match cs, hsz with
  | [c0, c1], _ =>
    simp only [Tryd.cellsVecI, List.drop_zero, List.drop_succ_cons, List.take_succ_cons, List.take_zero] at h0 h1
    obtain ⟨X, hX, _, _⟩ := DataW.trod_int Tryd.underlying3 h0
    obtain ⟨Y, hY, _, _⟩ := DataW.trod_int Tryd.underlying3 h1
    simp only [List.cons.injEq, and_true] at hX hY
    subst hX; subst hY
    exact ⟨X, Y, rfl⟩
def intOf : Option Value → Int
  | some (.int _ z) => z
  | _ => 0
theorem ints_cells {fuel n : Nat} {t : TypeId} {cs : List Value} {y : DataW H × List MemPlace} (hu : Tryd.prog.underlying t = some (.array n 3)) (hc : Tryd.prog.cellsOf t = n) (h : DataW.trod enc Tryd.prog w base spare held fuel t cs = some y) :
    ∃ b : Nat → Int, cs = arrL n b := by
  obtain ⟨xs, m, rfl, hx, hl, hn, hel⟩ := DataW.trod_array hu h
  rw [hc] at hl
  have key : ∀ i, i < n → ∃ z : Int, cs[i]? = some (.int .i64 z) := by
    intro i hi
    have h2 := hel i hi
    rw [Tryd.cellsVecI, Nat.mul_one, List.getElem?_eq_getElem (by omega)] at h2
    obtain ⟨z, hz, _, _⟩ := DataW.trod_int Tryd.underlying3 h2
    have h3 : cs[i]? = some (.int .i64 z) := by
      have := congrArg (·[0]?) hz
      simpa [List.getElem?_take, List.getElem?_drop] using this
    exact ⟨z, h3⟩
  refine ⟨fun i => intOf cs[i]?, ?_⟩
  apply List.ext_getElem?
  intro i
  by_cases hi : i < n
  · obtain ⟨z, hz⟩ := key i hi
    rw [hz, arrL_at hi]
    show some (Value.int .i64 z) = some (Value.int .i64 (intOf cs[i]?))
    rw [hz]; rfl
  · rw [List.getElem?_eq_none (by omega), List.getElem?_eq_none (by rw [arrL_length]; omega)]
theorem choice_cells {fuel : Nat} {cs : List Value} {y : DataW H × List MemPlace} (h : DataW.trod enc Tryd.prog w base spare held fuel 27 cs = some y) : ∃ c : Ch, cs = chV c := by
  obtain ⟨y0, y1, y2, y3, n, _, hsz, h0, h1, h2, h3⟩ := trod_struct4 Tryd.underlying27 h
  rw [Tryd.cellsCh] at hsz
  simp only [Tryd.cellsVecI, Tryd.cellsVec, Tryd.cellsChB] at h0 h1 h2 h3
  obtain ⟨m, hm, _, _⟩ := DataW.trod_int Tryd.underlying3 h0
  obtain ⟨px, py, hp⟩ := vec_cells2 h1
  obtain ⟨nx, ny, hn⟩ := vec_cells2 h2
  obtain ⟨b, hb⟩ := ints_cells Tryd.underlying25 Tryd.cellsChB h3
  refine ⟨⟨m, px, py, nx, ny, b⟩, ?_⟩
  have e1 : cs = cs.take 1 ++ cs.drop 1 := (List.take_append_drop 1 cs).symm
  have e2 : cs.drop 1 = (cs.drop 1).take 2 ++ cs.drop 3 := by rw [show cs.drop 3 = (cs.drop 1).drop 2 by rw [List.drop_drop]]; exact (List.take_append_drop 2 _).symm
  have e3 : cs.drop 3 = (cs.drop 3).take 2 ++ cs.drop 5 := by rw [show cs.drop 5 = (cs.drop 3).drop 2 by rw [List.drop_drop]]; exact (List.take_append_drop 2 _).symm
  have e4 : cs.drop 5 = (cs.drop 5).take 16 := (List.take_of_length_le (by rw [List.length_drop]; omega)).symm
  simp only [List.drop_zero] at hm
  rw [e1, e2, e3, e4, hm, hp, hn, hb]
  rfl
theorem choices_open {fuel : Nat} {v : Value} {x : DataW H × List MemPlace} (h : DataW.trod enc Tryd.prog w base spare held fuel 54 [v] = some x) :
    ∃ (T : Nat → Prop) (l : List Ch), RoA rCh w T v l := by
  obtain ⟨T, l, hl, _⟩ := rows_open rCh (fun _ => True) Tryd.cellsCh (fun fuel cs y hy => by
    obtain ⟨c, e⟩ := choice_cells hy
    exact ⟨c, e, trivial⟩) h
  exact ⟨T, l, hl⟩
end
end Go.Proofs.YtdcbabgcbkdlhaaDoor
